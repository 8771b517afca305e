import PyProof.Rows.All
import Wide.All
import OpenK.AllK
import Wide.FinOn
import Lean
import PyProof.EqAt
import PyProof.EqKinds
import PyProof.TupleCall
import PyProof.NeKinds
import KE.KIsAll
import PyProof.ExcArgsOwn
import PySem.SetOps
import PyProof.TupleKey
import PyProof.SetKind
import PyProof.IsRules
import PyProof.Rows.SetFrom
import PyProof.Rows.SortShellK
import PyProof.DictKinds
import PyProof.FactsAll.tuple_2
import PyProof.DictWalks
import PyProof.CollectWalk
import PyProof.Rows.SortWalk
import PyProof.SetRoads
import PyProof.AutoListH
import PyProof.SumAny
import KE.RegKIsAll
import KE.RegKTryMore
import PySem.Challenge.RW_nohalfway_k22_faults_by_formula
open PySem renaming wpAny_bind -> acZ, Value -> ac1, wpAny_pure -> ac3, Shared -> ac4, starEach -> ac5, Addr -> ada, wpAny -> adm, mainGlobals -> ado, Program -> adp, sizeLine -> adq, tupleKeyHash -> adt, model -> adu, Around -> adG, Expr -> adI, World -> adJ, IsTupleKey -> adL, wpAny_truthy_bool -> adN, backTo -> adR, behindInMarks -> adT, Heap -> adX, compareOp -> ad0, strIterType -> ad1, wpAny_call_entry -> ad4, foldedSetIterable -> ad6, SetTable -> ad7, wpAny_mono -> ad9, wpAny_seqItems -> ad_, attributeBase -> aeb, keywordEach -> aee, wpAny_callSpecial?_slot -> aeo, Stmt -> aep, eval -> aeq, bootBuiltins -> aer, FuncData -> aet, cellsFrom -> aeu, cLine -> aew, sysModules -> aez, wpAny_forIn_list -> aeA, wpAny_typeNameOfWhole_keyiter -> aeD, wpAny_newObj_type -> aeJ, wpAny_field -> aeN, wpAny_isInstance -> aeS, wpAny_holding -> aeT, wpAny_setField_rec -> aeW, carriedByValue -> aeX, sizeLine_eq -> aeY, wpAny_specialOf -> ae1, wpAny_passesOwn -> ae2, Keyword -> ae3, wpAny_typeNameOf_keyiter -> ae5, Scope -> ae6, backToKw -> ae7, IsPair -> afc, wpAny_tupleItemsOf -> afg, wpAny_Call_Name_kw -> afi, isSubtype_tuple_tuple -> afk, wpAny_setState_of -> aft, swapsWith -> afB, NameKind -> afE, assignEach -> afG, codeAny_builtin -> afU, wpAny_rule -> af0, sliceBounds -> af3, ofAClassStatement -> af7, codeAny_mono -> aga, wpAny_pyIter_zip -> agh, wpAny_updateSeq_pair -> agm, binaryOp -> agp, wpAny_attempt -> agr, wpAny_richCompare_same_room -> agv, wpAny_execs_nil -> agw, letOwnedTupleGo -> agx, DictEntry -> agA, wpAny_eqBool_tuple -> agK, wpAny_typeOf -> agP, relabel -> agT, wpAny_setField -> agV, firstArgMember -> agW, wpAny_letOwnedTupleGo_zip -> agX, wpAny_pyIter_list -> ag2, getMethod -> ag4, wpAny_pyIter_strU -> ag6, wpAny_dictEntries -> ag8, Builtin -> ahb, codeAny -> ahd, wpAny_onRaise -> ahk, pyNext -> ahp, intKind -> ahI, seqIndex? -> ahJ, IsZip -> ahZ, wpAny_dictEpoch -> ah6, call_meets -> aic, rawInt -> aiv, newFunctionEnv -> aiy, holding -> aiC, subscripted -> aiE, notedBy -> aiF, hashByValue -> aiO, callWith -> aiR, bindArgs -> aiS, standAt -> ai1, valueAt -> ai2, callerA -> ai3, CmpOp -> ajc
open PySem.Heap renaming get?_push_of_some -> ac0, get?_push_size -> ac9, lt_size -> ac_, size_push -> adK, SameBut -> adZ, get?_update_self -> aeV, get?_update_other -> afZ
open List renaming getElem?_eq_getElem -> ac2, mem_cons_of_mem -> ac7, size_toArray -> ac8, getElem?_map -> ade, range -> adf, getD_eq_getElem?_getD -> adg, map_cons -> adi, getElem?_append_right -> adk, length_cons -> adl, mem_of_getElem? -> adn, getElem?_append_left -> ads, mem_cons_self -> adz, mem_append_right -> adA, length_append -> adD, length_map -> adE, find?_cons -> adM, getElem?_replicate -> adU, mem_append_left -> ad8, not_mem_nil -> aec, getElem_of_mem -> aeg, getElem?_eq_none -> aej, map_map -> aek, append_nil -> ael, zip_cons_cons -> aem, length_nil -> aen, length_take -> aes, length_replicate -> aex, take_append_drop -> aey, all_eq_true -> aeC, getElem?_set_ne -> aeE, mem_of_mem_take -> aeF, mem_cons -> aeG, filterMap_cons -> aeK, take_of_length_le -> aeP, replicate -> aeZ, exists_of_findSome?_eq_some -> ae0, any_cons -> ae8, getElem?_range -> ae9, getElem?_cons_succ -> ae_, length_drop -> afa, getElem?_set_self -> afe, length_pos_of_mem -> aff, length_singleton -> afm, length_filter_le -> afo, all_cons -> afr, pairwise_map -> afs, map_take -> afv, getElem?_zipIdx -> afw, mem_of_mem_drop -> afx, length_take_le' -> afz, forall_mem_cons -> afA, nodup_nil -> afC, getElem?_take_of_lt -> afH, all_map -> afK, length_erase_of_mem -> afL, map_append -> afS, nodup_cons -> afY, lookup -> af1, eraseIdx_eq_take_drop_succ -> af6, nodup_append -> af9, lookup_cons -> agf, zipIdx_cons -> agg, getElem_mem -> agi, take_length -> agj, mem_erase_of_ne -> agn, length_eraseIdx -> ago, of_mem_zip -> agz, forIn_cons -> agB, mem_append -> agG, lookup_append -> agM, getElem?_drop -> agO, mem_singleton -> agQ, filter_append -> agR, drop_eq_getElem_cons -> agU, getElem?_zip_eq_some -> agY, extract_eq_take_drop -> agZ, any_eq_false -> ag3, append_assoc -> ag_, length_range -> aha, eraseIdx_cons_succ -> ahn, nodup_range -> ahr, any_eq_true -> aht, drop_eq_nil_of_le -> ahv, map_nil -> ahK, zipIdx_nil -> ah0, getElem?_toArray -> ah1, foldl_cons -> ah3, Perm -> ah8, mem_map -> ah9, any_map -> ah_, pairwise_flatMap -> aib, forIn_nil -> aiz, map_drop -> aiZ
open Nat renaming le_refl -> ac6, lt_of_lt_of_le -> adv, ne_of_lt -> ady, le_trans -> adB, lt_irrefl -> adS, le_add_right -> ad5, zero_le -> aeB, ne_of_gt -> aeU, lt_trichotomy -> ae4, eq_or_lt_of_le -> afj, le_of_ble_eq_true -> afn, le_of_lt -> afF, lt_trans -> afJ, add_assoc -> afM, lt_succ_of_lt -> af5, lt_succ_self -> age, le_of_lt_succ -> ag7, le_succ -> ahe, sub_self -> ah2, le_of_eq -> ai7, sub_zero -> aja, zero_add -> ajb
open Bool renaming false_eq_true -> adb, not_false -> adj, false_ne_true -> adC, and_eq_true -> adF, eq_iff_iff -> ad2, not_true -> aea, not_eq_true' -> af4, true_and -> ahj, false_and -> aiw, and_false -> aix, false_or -> aiU, and_true -> aiV
open Option.some renaming inj -> adh
open PySem.PassesOwn renaming never -> adw
open PySem.Value renaming ref -> adx, none -> aeh, type -> afd, isInt_shape -> ag0, bool -> ag1, int -> ajf, str -> ajg
open Array renaming getElem?_eq_getElem -> adH, getD_eq_getD_getElem? -> adQ, getElem?_toList -> aei, length_toList -> aeL, forIn_toList -> afh
open PySem.Builtin.SmallTypes renaming nextOf -> adO, ownedTupleIsFree -> aef, ownedTupleHandOut -> afD
open PyProof.Rows renaming callWith_type1 -> adP, envOfC -> ad3, wpS_bind -> afu, IsTup -> afR, arrOf -> afW, SortedToK -> afX, SortKind -> ags, wpS_pure -> agt, seqObj -> agI, kindOf -> agL, Call_ -> agN, AllBare -> ahc, listItems_at -> ah4, pairsOf_size -> ah7, SortSt -> aiA, pairsOf_toList -> aiB, envOfC -> ai_
open PySem.Builtin.Tuple renaming tupleHashOf -> adV
open Classical renaming byContradiction -> adW, choose_spec -> agb, choose -> ajd
open PySem.NameKind renaming free -> adY
open Or renaming inr -> aed, inl -> aeQ
open Int renaming toNat_natCast -> aev, emod_lt_of_pos -> afT, emod_nonneg -> agF, natCast_add -> aia
open PySem.F renaming slot_dict_keyiterator_next -> aeH, slot_tuple_iterator_next -> aeR, args_dict_keyiterator_next_1 -> agd, entry_dict_keyiterator_next -> agk, args_tuple_iterator_next_1 -> agq, entry_tuple_iterator_next -> agD, slot_zip_next -> agE
open False renaming elim -> aeI
open ForInStep renaming yield -> aeM
open PySem.Heap.SameBut renaming update -> aeO, refl -> ai5
open Option renaming getD_some -> afb, isSome_map -> ag5, getD_none -> ahq, bind_some -> ahs, isSome_some -> aiT
open List.cons renaming injEq -> afl
open True renaming intro -> afp
open PySem.Obj renaming mapSeq -> afq, data_mapFields -> afQ, isFreed_of_fields -> ahY
open PySem.Around renaming under_plainId -> afy, under -> ai8
open PySem.Builtin.List renaming listTooLong -> afI, listExtendWith -> agH, listSameRef -> ag9, listItems -> ahF
open Prod.mk renaming injEq -> afN
open PySem.Builtin.Range renaming rangeSize -> afO
open PySem.Calls renaming spliced_cons -> afP, spliced_nil -> af2, evalArgs_plain -> agl, Name_function_global -> agJ, callWith_builtin -> ahu
open PyProof.Rows.F renaming plain_set_update_loop -> afV, entry_set_update_loop -> ahl
open PySem.SetTable renaming insertAt -> af8, leap -> aiX, sizeAbove -> aiY
open Function renaming comp_def -> af_, comp -> aho
open PySem.Str renaming ofString -> agc
open PySem.Builtin.Dict_items renaming ownsTuple -> agu
open PySem.Data renaming cell -> agy, fields -> aiD, seq -> aje
open PySem.Builtin.Str renaming strSliceIndices -> agC
open Ne renaming symm -> agS
open PySem.SeqAt.RcNeAt renaming none_tuple -> ahf, bool_tuple -> ahg, tuple_none -> ahh, tuple_bool -> ahi, none_list -> ahw, bool_list -> ahx, int_tuple -> ahy, str_tuple -> ahz, tuple_int -> ahA, tuple_str -> ahB, list_none -> ahC, list_bool -> ahD, int_list -> ahQ, str_list -> ahR, list_int -> ahW, list_str -> ahX
open PySem.Shared renaming TypeIs -> ahm
open PySem.SeqAt renaming ne_of_list_tuple -> ahE, RcNeAt -> ahL, EqAt -> aid, RcAt -> ai6
open Sum renaming inl -> ahG, inr -> ahH
open PySem.SeqAt.EqAt renaming none_tuple -> ahM, bool_tuple -> ahO, tuple_none -> ahS, tuple_bool -> ahU, none_list -> aie, bool_list -> aih, int_tuple -> aij, str_tuple -> ail, tuple_int -> ain, tuple_str -> aip, list_none -> air, list_bool -> ait, int_list -> aiG, str_list -> aiI, list_int -> aiK, list_str -> aiM, int_str -> aiP, str_int -> aiQ, same -> ajh
open PySem.SeqAt.RcAt renaming none_tuple -> ahN, bool_tuple -> ahP, tuple_none -> ahT, tuple_bool -> ahV, none_list -> aif, bool_list -> aii, int_tuple -> aik, str_tuple -> aim, tuple_int -> aio, tuple_str -> aiq, list_none -> ais, list_bool -> aiu, int_list -> aiH, str_list -> aiJ, list_int -> aiL, list_str -> aiN
open PySem.Builtin.Dict renaming showsAll -> ah5
open PySem.Txt renaming slice -> aiW
open Sum.inl renaming injEq -> ai0
open List.Pairwise renaming nil -> ai4
open PySem.Code renaming isFrame -> ai9
set_option Elab.async false
set_option linter.all false
set_option maxRecDepth 100000
noncomputable section
namespace a3
open PySem PySem.Spec PyProof.Rows
abbrev Key:=Sum Int Str
def pR:Key→ac1→Bool
 |.inl k,v=>Value.isInt k v
 |.inr x,v=>Value.isStrOf x v
def R6(w:adJ):Key→Int
 |.inl k=>hashInt k
 |.inr x=>hashStr w x
theorem k_:∀{k:Key}{v:ac1},pR k v=true→(∃i t,k=ahG i∧v=ajf i t)∨(∃x t,k=ahH x∧v=ajg x t)
 |.inl i,v,h=>by obtain⟨t,e⟩:=ag0 (k:=i) (v:=v) h;exact .inl ⟨i,t,rfl,e⟩
 |.inr x,v,h=>by obtain⟨t,e⟩:=Value.isStrOf_shape (x:=x) (v:=v) h;exact .inr ⟨x,t,rfl,e⟩
theorem R7(i:Int)(t:Tok):pR (.inl i) (.int i t)=true:=by simp[pR,Value.isInt]
theorem R8(x:Str)(t:Tok):pR (.inr x) (.str x t)=true:=by simp[pR,Value.isStrOf]
theorem Sb(a b:Int):decide ((ahG a:Key)=ahG b)=(a==b):=by
 by_cases e:a=b
 ·subst e;simp
 ·have h:¬(ahG a:Key)=ahG b:=fun q=>e (Sum.inl.inj q);rw[decide_eq_false h];exact(beq_eq_false_iff_ne.mpr e).symm
theorem Sf(a b:Str):decide ((ahH a:Key)=ahH b)=decide (a=b):=by
 by_cases e:a=b
 ·subst e;simp
 ·have h:¬(ahH a:Key)=ahH b:=fun q=>e (Sum.inr.inj q);rw[decide_eq_false h,decide_eq_false e]
theorem Sd(a:Int)(b:Str):decide ((ahG a:Key)=ahH b)=false:=decide_eq_false (fun q=>nomatch q)
theorem Se(a:Str)(b:Int):decide ((ahH a:Key)=ahG b)=false:=decide_eq_false (fun q=>nomatch q)
noncomputable def gD(prog:adp)(w:adJ):PySem.KeyKind prog w Key where
 is:=pR
 hash:=R6 w
 inj:=fun v a b ag J=>by
  rcases k_ ag with⟨i,t,rfl,rfl⟩|⟨x,t,rfl,rfl⟩
  ·rcases k_ J with⟨j,u,rfl,e⟩|⟨y,u,rfl,e⟩
   ·injection e with aq _;rw[aq]
   ·exact nomatch e
  ·rcases k_ J with⟨j,u,rfl,e⟩|⟨y,u,rfl,e⟩
   ·exact nomatch e
   ·injection e with aq _;rw[aq]
 byValue:=fun k v h=>by rcases k_ h with⟨i,t,rfl,rfl⟩|⟨x,t,rfl,rfl⟩<;>rfl
 pyHash:=fun bW h=>by
  rcases k_ bW with⟨i,t,rfl,rfl⟩|⟨x,t,rfl,rfl⟩
  ·exact wpAny_pyHash_int h
  ·exact wpAny_pyHash_str h
 eqBool:=fun aJ bW h=>by
  rcases k_ aJ with⟨i,t,rfl,rfl⟩|⟨x,t,rfl,rfl⟩
  ·rcases k_ bW with⟨j,u,rfl,rfl⟩|⟨y,u,rfl,rfl⟩
   ·rw[Sb]at h;exact wpAny_eqBool_int h
   ·rw[Sd]at h;exact aiP i t y u _ _ _ _ h
  ·rcases k_ bW with⟨j,u,rfl,rfl⟩|⟨y,u,rfl,rfl⟩
   ·rw[Se]at h;exact aiQ x t j u _ _ _ _ h
   ·rw[Sf]at h;exact wpAny_eqBool_str h
 «strs»:=fun k x t v h=>by
  rcases k_ h with⟨i,u,rfl,e⟩|⟨y,u,rfl,e⟩
  ·exact nomatch e
  ·injection e with aq _;subst aq;cases v<;>rfl
theorem TQ(prog:adp)(w:adJ)(i:Int)(t:Tok):(gD prog w).is (.inl i) (.int i t)=true:=R7 i t
theorem TR(prog:adp)(w:adJ)(x:Str)(t:Tok):(gD prog w).is (.inr x) (.str x t)=true:=R8 x t
section
open SeqAt
section
variable(prog:adp)(w:adJ)
abbrev i6:=Sum Key (List Key)
abbrev cx:=List i6
noncomputable def o4(h:adX):i6→ac1→Prop
 |.inl k,v=>pR k v=true
 |.inr ks,v=>∃b,v=.ref b∧adL (gD prog w) h ks b
inductive hF(h:adX):cx→List ac1→Prop
 |nil:hF h [] []
 |cons {k:i6} {v:ac1} {ks:cx} {vs:List ac1}:o4 prog w h k v→hF h ks vs→hF h (k::ks) (v::vs)
noncomputable def iy(h:adX)(ks:cx)(a:ada):Prop:=∃o items n,h.get? a=some o∧o.cls=.type "tuple"∧o.data=.seq items n∧hF prog w h ks items.toList
variable{prog w}
theorem o4.inj{h:adX}{x y:i6}{v:ac1}(ax:o4 prog w h x v)(bq:o4 prog w h y v):x=y:=by
 cases x with
 |inl a=>
  cases y with
  |inl b=>rw[(gD prog w).inj _ _ _ ax bq]
  |inr b=>obtain⟨c,rfl,_⟩:=bq;have:=(gD prog w).byValue _ _ ax;simp[aeX]at this
 |inr a=>
  obtain⟨c,rfl,ax⟩:=ax;cases y with
  |inl b=>have:=(gD prog w).byValue _ _ bq;simp[aeX]at this
  |inr b=>obtain⟨d,e,bq⟩:=bq;cases e;rw[ax.inj bq]
theorem hF.inj{h:adX}{x y:cx}{vs:List ac1}(ax:hF prog w h x vs)(bq:hF prog w h y vs):x=y:=by
 induction ax generalizing y with
 |nil=>cases bq;rfl
 |cons h1 _ bQ=>
  cases bq with
  |cons h2 cy=>rw[h1.inj h2,bQ cy]
theorem hF.keeps{h h':adX}{d:ada}{o:Obj}{es bN}(aE:h.get? d=some o)(hd:o.data=.dict es bN)(hs:adZ d h h'):∀{x:cx}{vs:List ac1},hF prog w h x vs→hF prog w h' x vs
 |_,_,.nil=>.nil
 |_,_,.cons (k:=.inl _) h1 t=>.cons (k:=.inl _) h1 (hF.keeps aE hd hs t)
 |_,_,.cons (k:=.inr _) ⟨b,e,x⟩ t=>.cons (k:=.inr _) ⟨b,e,x.keeps aE hd hs⟩ (hF.keeps aE hd hs t)
theorem iy.typeIs{s:ac4}{ks:cx}{a:ada}(x:iy prog w s.heap ks a):s.TypeIs (.ref a) "tuple":=let⟨o,_,_,aE,aB,_⟩:=x;⟨o,aE,aB⟩
theorem iy.inj{h:adX}{a:ada}{x y:cx}(ax:iy prog w h x a)(bq:iy prog w h y a):x=y:=by obtain⟨o,i,n,h1,_,h2,h3⟩:=ax;obtain⟨bR,tg,IH,cO,_,cA,pG⟩:=bq;rw[h1]at cO;cases cO;rw[h2]at cA;cases cA;exact h3.inj pG
theorem iy.keeps{h h':adX}{ks:cx}{a d:ada}{o:Obj}{es bN}(x:iy prog w h ks a)(aE:h.get? d=some o)(hd:o.data=.dict es bN)(hs:adZ d h h'):iy prog w h' ks a:=by
 obtain⟨bR,items,n,eo,aB,fw,ar⟩:=x;have kf:a≠d:=by rintro rfl;obtain rfl:bR=o:=adh (eo.symm.trans aE);rw[hd]at fw;exact nomatch fw
 exact⟨bR,items,n,(hs.2 a kf).trans eo,aB,fw,ar.keeps aE hd hs⟩
noncomputable def lp(prog:adp)(w:adJ):i6→Int
 |.inl k=>(gD prog w).hash k
 |.inr ks=>adt (gD prog w) ks
def p5:i6→Nat
 |.inl _=>1
 |.inr ks=>ks.length+1
variable{A:adG}{E:ac1→ac4→Prop}{s:ac4}
theorem T8{ks:cx}{a:ada}{Q:Int→ac4→Prop}(aJ:A.units+8<aew)(aH:iy prog w s.heap ks a)(h:Q (reduceHash (adV (ks.map (lp prog w)))) { s with toks:=s.toks+((ks.map p5).sum+1) }) :
  adm (adu prog w) A (pyHash (.ref a)) Q E s:=by
 have d4:=aH.typeIs;obtain⟨o,items,n,aE,_,hd,ar⟩:=aH;unfold pyHash
 first|unfold pyHashByItsType|skip
 first|refine acZ (wpAny_cRoomFor_or (.inr (by omega)) ?_)|skip
 refine acZ (ae1 d4 F.slot_tuple_hash.lookup ?_);show adm _ _ (if(some (Value.builtin "tuple.__hash__")==some aeh)=true then _ else _) Q E s;rw[if_neg (by rw[beq_builtin_none];exact adC)];refine acZ (ae1 d4 F.slot_tuple_hash.lookup ?_);show adm _ _ (callSpecialIfBoundUnlessNone? (.ref a) "__hash__" _>>=_) Q E s;refine acZ (wpAny_callSpecialIfBoundUnlessNone?_slot d4 F.slot_tuple_hash (ad4 F.slot_tuple_hash d4 F.entry_tuple_hash ?_ (F.args_tuple_hash_1 _)));show adm _ _ (Builtin.Tuple.tupleItemsOf (.ref a)>>=_) _ _ s;refine acZ (afg aE hd ?_);refine acZ ?_;rw[←afh]
 refine aeA _
  (fun rest(b:Array Int) s'=>∃done left,ks=done++left∧hF prog w s.heap left rest∧b.toList=done.map (lp prog w)∧s'={ s with toks:=s.toks+(done.map p5).sum })
  _ ?_ ?_ _ _ ⟨[],ks,rfl,ar,rfl,rfl⟩
 ·rintro x rest b s' ⟨done,left,rfl,ai,J,rfl⟩;cases ai with
  | @cons k _ g5 _ h1 m6=>
    cases k with
    |inl k=>
     refine acZ ((gD prog w).pyHash h1 ?_)
     first
      |exact ac3 ⟨done++[.inl k],g5,by simp,m6,by simp[J,lp],by simp[afM,p5]⟩
      |exact acZ (ac3 (ac3 ⟨done++[.inl k],g5,by simp,m6,by simp[J,lp],by simp[afM,p5]⟩))
    |inr kk=>
     obtain⟨eN,rfl,h1⟩:=h1;refine acZ (wpAny_pyHash_tuple (knd:=gD prog w) (ks:=kk) (show A.units+1<aew by omega) h1 ?_)
     first
      |exact ac3 ⟨done++[.inr kk],g5,by simp,m6,by simp[J,lp],by simp[afM,p5]⟩
      |exact acZ (ac3 (ac3 ⟨done++[.inr kk],g5,by simp,m6,by simp[J,lp],by simp[afM,p5]⟩))
 ·rintro b s' ⟨done,left,rfl,ai,J,rfl⟩;cases ai;rw[ael]at h;show adm _ _ (retInt (adV b.toList)) _ _ _;rw[J];refine wpAny_ret_mkInt ?_;show adm _ _ (if(decide (-(2:Int)^63≤adV (done.map (lp prog w)))&&decide (adV (done.map (lp prog w))<2^63))=true then _ else _) Q E _;unfold reduceHash at h;by_cases au:(decide (-(2:Int)^63≤adV (done.map (lp prog w)))&&decide (adV (done.map (lp prog w))<2^63))=true
  ·rw[if_pos au];rw[if_pos au]at h;exact ac3 (by simpa[afM]using h)
  ·rw[if_neg au];rw[if_neg au]at h;exact acZ (af0 (ac3 (by simpa[afM]using h)))
theorem Un{x y:i6}{u v:ac1}{Q:Bool→ac4→Prop}(aJ:A.units+1<aew)(ax:o4 prog w s.heap x u)(bq:o4 prog w s.heap y v)(h:Q (decide (x=y)) s):adm (adu prog w) A (eqBool u v) Q E s:=by
 cases x with
 |inl a=>
  cases y with
  |inl b=>exact(gD prog w).eqBool (a:=a) (b:=b) ax bq (by simpa using h)
  |inr b=>
   obtain⟨c,rfl,o,its,n,h1,h2,h3,_⟩:=bq;have hd:decide ((ahG a:i6)=ahH b)=false:=by simp
   rw[hd]at h;rcases k_ ax with⟨i,t,_,rfl⟩|⟨i,t,_,rfl⟩
   ·exact EqAt.int_tuple i t ⟨o,h1,h2,n,h3⟩ (by omega) prog w E Q h
   ·exact EqAt.str_tuple i t ⟨o,h1,h2,n,h3⟩ (by omega) prog w E Q h
 |inr a=>
  cases y with
  |inl b=>
   obtain⟨c,rfl,o,its,n,h1,h2,h3,_⟩:=ax;have hd:decide ((ahH a:i6)=ahG b)=false:=by simp
   rw[hd]at h;rcases k_ bq with⟨i,t,_,rfl⟩|⟨i,t,_,rfl⟩
   ·exact EqAt.tuple_int i t ⟨o,h1,h2,n,h3⟩ (by omega) prog w E Q h
   ·exact EqAt.tuple_str i t ⟨o,h1,h2,n,h3⟩ (by omega) prog w E Q h
  |inr b=>obtain⟨c,rfl,ax⟩:=ax;obtain⟨d,rfl,bq⟩:=bq;exact agK (by omega) ax bq (by simpa using h)
theorem T7{x y:cx}{a b:ada}{P:Fin→ac4→Prop}(aJ:A.units+1<aew)(ax:iy prog w s.heap x a)(bq:iy prog w s.heap y b)(h:P (.done (.ret (.bool (decide (x=y))))) s) :
  adm (adu prog w) A (ahb.«tuple.__eq__» ⟨[.ref a,.ref b],[]⟩) P E s:=by
 have Pc:=bq.typeIs;obtain⟨UD,xs,na,P5,_,Aq,PD⟩:=ax;obtain⟨bf,ys,nb,P6,_,gk,PE⟩:=bq;show adm _ _ (isInstance (.ref b) (.type "tuple")>>=_) _ _ s;refine acZ (aeS Pc afk ?_);simp only[aea,adb,if_false];refine acZ (afg P5 Aq ?_);refine acZ (afg P6 gk ?_);refine acZ ?_
 refine aeA _
  (fun rest r s'=>r.1=none∧s'=s∧∃lI lN f5 lP,rest=List.zip f5 lP∧hF prog w s.heap lI f5∧hF prog w s.heap lN lP∧decide (lI=lN)=decide (x=y)∧(f5.length==lP.length)=(xs.size==ys.size))
  _ ?_ ?_ _ _ ⟨rfl,rfl,x,y,xs.toList,ys.toList,rfl,PD,PE,rfl,by simp⟩
 ·rintro⟨u,v⟩ rest r s' ⟨au,rfl,lI,lN,f5,lP,bo,AL,vY,vR,hlen⟩;cases AL with
  |nil=>simp at bo
  | @cons k1 hD Lv ZH h1 Qq=>
    cases vY with
    |nil=>simp at bo
    | @cons k2 my L3 ZS h2 Qr=>
      simp only[aem,afl,afN]at bo;obtain⟨⟨rfl,rfl⟩,rfl⟩:=bo;refine acZ (Un aJ h1 h2 ?_);by_cases aH:k1=k2
      ·subst aH;rw[decide_eq_true rfl];simp only[aea,adb,if_false];refine ac3 ⟨rfl,rfl,Lv,L3,ZH,ZS,rfl,Qq,Qr,?_,by simpa using hlen⟩;rw[←vR];by_cases Hg:Lv=L3
       ·simp[Hg]
       ·simp[Hg]
      ·rw[decide_eq_false aH];simp only[adj,if_true];have hf:decide (x=y)=false:=by rw[←vR];simp[aH]
       rw[hf]at h;exact acZ (ac3 (ac3 (ac3 h)))
 ·rintro⟨az,bg⟩ s' ⟨au,rfl,lI,lN,f5,lP,bo,AL,vY,vR,hlen⟩;simp only at au;subst au;refine ac3 ?_;have Py:(xs.size==ys.size)=decide (x=y):=by
   rw[←vR,←hlen];cases AL with
   |nil=>
    cases vY with
    |nil=>simp
    |cons _ _=>simp
   |cons _ _=>
    cases vY with
    |nil=>simp
    |cons _ _=>simp at bo
  show P (.done (.ret (.bool (xs.size==ys.size)))) s';rw[Py];exact h
theorem T6{x y:cx}{a b:ada}{Q:Bool→ac4→Prop}(aJ:A.units+8<aew)(ax:iy prog w s.heap x a)(bq:iy prog w s.heap y b)(h:Q (decide (x=y)) s) :
  adm (adu prog w) A (eqBool (.ref a) (.ref b)) Q E s:=by
 unfold eqBool
 try with_reducible refine aeT ?_
 show adm _ _ (if(adx a==adx b)=true then _ else _) Q E s;by_cases mZ:(adx a==adx b)=true
 ·rw[if_pos mZ];have e:a=b:=by have:=eq_of_beq mZ;injection this
  subst e;obtain rfl:=ax.inj bq;exact acZ (af0 (ac3 (by simpa using h)))
 ·rw[if_neg mZ]
  exact acZ (agv (op:=.Eq) ax.typeIs bq.typeIs F.slot_tuple_eq
   (ad4 F.slot_tuple_eq ax.typeIs F.entry_tuple_eq (T7 (show A.units+1+1<aew by omega) ax bq ⟨_,rfl,(fun e=>nomatch e),adN h⟩) (F.args_tuple_eq_2 _ _)) (by omega))
theorem Uo{x:i6}{v:ac1}{Q:Bool→ac4→Prop}{n:Nat}(ax:o4 prog w s.heap x v)(h:Q true s):adm (adu prog w) A (eqIsQuiet 7 v) Q E s:=by
 cases x with
 |inl a=>rw[eqIsQuiet_byValue _ ((gD prog w).byValue _ _ ax)];exact ac3 h
 |inr a=>
  obtain⟨c,rfl,aH⟩:=ax;have d4:=aH.typeIs;obtain⟨o,items,n,aE,_,hd,ar⟩:=aH;unfold eqIsQuiet;refine acZ (ae1 d4 F.slot_tuple_eq.lookup ?_);show adm _ _ (isInstance (.ref c) (.type "tuple")>>=_) _ _ s;refine acZ (aeS d4 afk ?_);simp only[aea,adb,if_false];refine acZ (ad_ aE hd ?_);refine acZ ?_;show adm _ _ (forIn items _ _) _ _ s;rw[←afh];refine aeA _ (fun rest r s'=>r.1=none∧s'=s∧∀v∈rest,aeX v=true) _ ?_ ?_ _ _ ⟨rfl,rfl,ar.byValue⟩
  ·rintro v rest r s' ⟨au,rfl,q4⟩;rw[eqIsQuiet_byValue _ (q4 v adz)];refine acZ (ac3 ?_);simp only[aea,adb,if_false];exact ac3 ⟨rfl,rfl,fun u td=>q4 u (ac7 _ td)⟩
  ·rintro⟨az,bg⟩ s' ⟨au,rfl,_⟩;simp only at au;subst au;exact ac3 h
theorem T9{ks:cx}{a:ada}{Q:Bool→ac4→Prop}(aH:iy prog w s.heap ks a)(h:Q true s):adm (adu prog w) A (eqIsQuiet 8 (.ref a)) Q E s:=by
 have d4:=aH.typeIs;obtain⟨o,items,n,aE,_,hd,ar⟩:=aH;unfold eqIsQuiet;refine acZ (ae1 d4 F.slot_tuple_eq.lookup ?_);show adm _ _ (isInstance (.ref a) (.type "tuple")>>=_) _ _ s;refine acZ (aeS d4 afk ?_);simp only[aea,adb,if_false];refine acZ (ad_ aE hd ?_);refine acZ ?_;show adm _ _ (forIn items _ _) _ _ s;rw[←afh];refine aeA _ (fun rest r s'=>r.1=none∧s'=s∧∃g5,hF prog w s.heap g5 rest) _ ?_ ?_ _ _ ⟨rfl,rfl,ks,ar⟩
 ·rintro v rest r s' ⟨au,rfl,g5,ai⟩;cases ai with
  |cons h1 m6=>refine acZ (Uo (n:=0) h1 ?_);simp only[aea,adb,if_false];exact ac3 ⟨rfl,rfl,_,m6⟩
 ·rintro⟨az,bg⟩ s' ⟨au,rfl,_⟩;simp only at au;subst au;exact ac3 h
end
noncomputable def p6(prog:adp)(w:adJ):HeapKind prog w cx where
 is:=iy prog w
 hash:=fun ks=>reduceHash (adV (ks.map (lp prog w)))
 draws:=fun ks=>(ks.map p5).sum+1
 room:=fun A=>A.units+8<aew
 inj:=fun ax bq=>ax.inj bq
 keeps:=fun x aE hd hs=>x.keeps aE hd hs
 pyHash:=fun aJ aH h=>T8 aJ aH h
 eqBool:=fun aJ ax bq h=>T6 aJ ax bq h
 quiet:=fun aH h=>T9 aH h
theorem nest_room{prog:adp}{w:adJ}{A:adG}(aJ:A.units+16<aew):(p6 prog w).room A.in1:=show A.units+1+8<aew by omega
end
inductive V where
 |non|aF (b:Bool)|int (i:Int)|str (x:Str)|l2 (b:Array UInt8)|vF (b:UInt64)|ref (a:ada)|ty (n:String)
 deriving DecidableEq
noncomputable def RelV:V→ac1→Prop
 |.non,u=>u=aeh
 |.aF b,u=>u=ag1 b
 |.int i,u=>∃t,u=ajf i t
 |.str x,u=>∃t,u=ajg x t
 |.l2 b,u=>∃t,u=Value.bytes b t
 |.vF b,u=>∃t,u=Value.float b t
 |.ref a,u=>u=adx a
 |.ty n,u=>u=afd n
abbrev Vals:List V→List ac1→Prop:=Paired RelV
theorem Vals.length{xs:List V}{us:List ac1}(r:Vals xs us):xs.length=us.length:=Paired.length r
theorem Vals.get:∀{xs:List V}{us:List ac1}{i:Nat}{x:V},Vals xs us→xs[i]?=some x→∃u,us[i]?=some u∧RelV x u
 |_,_,_,_,.nil,e=>by simp at e
 |_,_,0,_,.cons r _,e=>by simp at e;subst e;exact⟨_,rfl,r⟩
 |_,_,i+1,x,.cons _ t,e=>by obtain⟨u,h1,h2⟩:=Vals.get (i:=i) (x:=x) t (by simpa using e);exact⟨u,by simpa using h1,h2⟩
theorem Vals.set{x:V}{u:ac1}(r:RelV x u):∀{xs:List V}{us:List ac1}(i:Nat),Vals xs us→Vals (xs.set i x) (us.set i u)
 |_,_,_,.nil=>.nil
 |_,_,0,.cons _ t=>.cons r t
 |_,_,i+1,.cons q t=>.cons q (Vals.set r i t)
theorem Vals.append:∀{xs ys:List V}{us ws:List ac1},Vals xs us→Vals ys ws→Vals (xs++ys) (us++ws)
 |_,_,_,_,.nil,s=>s
 |_,_,_,_,.cons r t,s=>.cons r (Vals.append t s)
theorem Vals.take:∀{xs:List V}{us:List ac1}(n:Nat),Vals xs us→Vals (xs.take n) (us.take n)
 |_,_,0,_=>.nil
 |_,_,_+1,.nil=>.nil
 |_,_,n+1,.cons r t=>.cons r (Vals.take n t)
theorem Vals.drop:∀{xs:List V}{us:List ac1}(n:Nat),Vals xs us→Vals (xs.drop n) (us.drop n)
 |_,_,0,r=>r
 |_,_,_+1,.nil=>.nil
 |_,_,n+1,.cons _ t=>Vals.drop n t
def hx:Option V→Option ac1→Prop
 |some v,some u=>RelV v u
 |none,none=>True
 |_,_=>False
def gH{κ:Type}:List (κ×V)→List (κ×ac1)→Prop:=Paired fun(p:κ×V)(q:κ×ac1)=>p.1=q.1∧RelV p.2 q.2
def da:Key→V
 |.inl i=>.int i
 |.inr x=>.str x
inductive dR where
 |lst (xs:List V)
 |tup (xs:List V)
 |dA (aZ:List (Key×V))|bx (aZ:List (cx×V))
 |set (S:Int→Bool) (n:Nat)
 |ins (C a8:ada) (aX:List (Str×V))
 |own (x:ada)
 |x7 (aX:List (Str×V))
 |met (f x:ada)
 |xp (lo ar:Int)
 |jB (o:Obj) (u:dR)
 |oP (ps:Array ac1)
 |ext (qy:adX→Prop)
abbrev ah:=ada→Option dR
def upd(H:ah)(a:ada)(o:dR):ah:=fun b=>if b=a then some o else H b
theorem et{H:ah}{a:ada}{o:dR}:upd H a o a=some o:=by unfold upd;rw[if_pos rfl]
theorem dV{H:ah}{a b:ada}{o:dR}(h:b≠a):upd H a o b=H b:=by unfold upd;rw[if_neg h]
theorem Uc{H:ah}{a b:ada}{o u:dR}(h:H a=some o)(h':H b=some u)(d:o≠u):a≠b:=by intro e;subst e;rw[h]at h';exact d (adh h')
theorem jl{H:ah}{a b:ada}{o:dR}(h:H a=some o)(h':H b=none):a≠b:=by intro e;subst e;rw[h]at h';cases h'
def mQ(H:ah):i6→V→Prop
 |.inl k,v=>v=da k
 |.inr ks,v=>∃b,v=.ref b∧H b=some (.tup (ks.map da))
def g_(H:ah)(k:cx)(a:ada):Prop:=∃vs,H a=some (.tup vs)∧Paired (mQ H) k vs
theorem mQ.mono{H H':ah}(bT:∀b xs,H b=some (.tup xs)→H' b=some (.tup xs)):∀{k:i6}{v:V},mQ H k v→mQ H' k v
 |.inl _,_,h=>h
 |.inr _,_,⟨b,e,h⟩=>⟨b,e,bT _ _ h⟩
theorem Eg.mono{H H':ah}(bT:∀b xs,H b=some (.tup xs)→H' b=some (.tup xs)):∀{k:cx}{vs:List V},Paired (mQ H) k vs→Paired (mQ H') k vs
 |_,_,.nil=>.nil
 |_,_,.cons r t=>.cons (r.mono bT) (Eg.mono bT t)
theorem g_.mono{H H':ah}{k:cx}{a:ada}(h:g_ H k a)(bT:∀b xs,H b=some (.tup xs)→H' b=some (.tup xs)):g_ H' k a:=
 let⟨vs,e,r⟩:=h;⟨vs,bT _ _ e,Eg.mono bT r⟩
section
variable(P:adp)(w:adJ)
noncomputable def eK(H:ah)(h:adX)(a:ada):dR→Prop
 |.lst xs=>xs.length≤adq∧∃(its:List ac1)(n:Nat),Vals xs its∧h.get? a=some { cls:=.type "list",data:=.seq its.toArray n }
 |.tup xs=>xs.length≤adq∧∃its:List ac1,Vals xs its∧IsTup h a its.toArray
 |.dA aZ=>aZ.length≤adq∧(a==aez)=false∧∃vs,gH aZ vs∧h.DictOf (gD P w) a vs
 |.bx aZ=>aZ.length≤adq∧(a==aez)=false∧∃xs:List (cx×ada×ac1),
     Paired (fun(p:cx×V)(q:cx×ada×ac1)=>p.1=q.1∧g_ H p.1 q.2.1∧RelV p.2 q.2.2) aZ xs∧
     ∃o es bN,h.get? a=some o∧o.ExactDict∧o.data=.dict es bN∧es.toList=xs.map (entryOfKey (p6 P w))∧(xs.map (·.1)).Nodup
 |.set S n=>h.SetOf (ahI P w) a S n
 |.ins C a8 aX=>H a8=some (.own a)∧aX.length≤1000∧a8≠a∧h.get? a=some (PySem.W.instObj C a8)∧
     ∃d5,h.Ns1 a8 d5∧(∀f,hx (aX.lookup f) (d5 f))∧PySem.Within d5 (aX.map (·.1))
 |.own _=>∃o,h.get? a=some o
 |.x7 aX=>∃d5,h.Ns1 a d5∧∀f,hx (aX.lookup f) (d5 f)
 |.xp lo ar=>∃t u v,h.get? a=some { cls:=.type "range",data:=.fields #[.int lo t,.int ar u,.int 1 v] }
 |.jB o u=>h.get? a=some o∧eK H h a u
 |.oP ps=>h.get? a=some { cls:=.none,data:=.fields ps }
 |.met f x=>h.get? a=some (PySem.W.methodObj (.ref f) (.ref x))
 |.ext qy=>qy h∧(∃o,h.get? a=some o)∧∀h1 h2:adX,qy h1→(∀o,h1.get? a=some o→h2.get? a=some o)→qy h2
def eb(H:ah)(h:adX):Prop:=∀a o,H a=some o→eK P w H h a o
end
section
variable{P:adp}{w:adJ}{H H':ah}{h h':adX}{a:ada}{o:dR}
theorem eK.lt(x:eK P w H h a o):a<h.objs.size:=by
 cases o with
 |lst xs=>obtain⟨_,_,_,_,e⟩:=x;exact ac_ e
 |tup xs=>obtain⟨_,_,_,p⟩:=x;exact p.lt
 |dA aZ=>obtain⟨_,_,_,_,o,_,_,e,_⟩:=x;exact ac_ e
 |bx aZ=>obtain⟨_,_,_,_,o,_,_,e,_⟩:=x;exact ac_ e
 |set S n=>obtain⟨o,_,_,_,e,_⟩:=x;exact ac_ e
 |ins C a8 aX=>obtain⟨_,_,_,e,_⟩:=x;exact ac_ e
 |own y=>obtain⟨_,e⟩:=x;exact ac_ e
 |x7 aX=>obtain⟨_,⟨_,_,_,e,_⟩,_⟩:=x;exact ac_ e
 |xp lo ar=>obtain⟨_,_,_,e⟩:=x;exact ac_ e
 |jB bf u=>obtain⟨e,_⟩:=x;exact ac_ e
 |oP ps=>exact ac_ (show h.get? a=some _ from x)
 |met f y=>exact ac_ (show h.get? a=some _ from x)
 |ext qy=>obtain⟨_,⟨_,e⟩,_⟩:=x;exact ac_ e
theorem Paired.Bm{α β:Type}{F G:α→β→Prop}:∀{l₁:List α}{l₂:List β},Paired F l₁ l₂→(∀a b,F a b→G a b)→Paired G l₁ l₂
 |_,_,.nil,_=>.nil
 |_,_,.cons r t,f=>.cons (f _ _ r) (Paired.Bm t f)
theorem eK.ny(x:eK P w H h a o)(k:∀b u,(b=a∨H b=some (.own a))→h.get? b=some u→h'.get? b=some u)(aE:∀b,H b=some (.own a)→H' b=some (.own a))(bT:∀b xs,H b=some (.tup xs)→H' b=some (.tup xs)):eK P w H' h' a o:=by
 induction o with
 |lst xs=>obtain⟨z,its,n,r,e⟩:=x;exact⟨z,its,n,r,k _ _ (.inl rfl) e⟩
 |tup xs=>obtain⟨z,its,r,bf,e,c⟩:=x;exact⟨z,its,r,bf,k _ _ (.inl rfl) e,c⟩
 |dA aZ=>obtain⟨z,y,vs,r,bf,es,bN,e,c⟩:=x;exact⟨z,y,vs,r,bf,es,bN,k _ _ (.inl rfl) e,c⟩
 |bx aZ=>obtain⟨z,y,xs,r,bf,es,bN,e,c⟩:=x;exact⟨z,y,xs,Paired.Bm r fun p q z=>⟨z.1,z.2.1.mono bT,z.2.2⟩,bf,es,bN,k _ _ (.inl rfl) e,c⟩
 |set S n=>obtain⟨bf,es,bN,t,e,c⟩:=x;exact⟨bf,es,bN,t,k _ _ (.inl rfl) e,c⟩
 |ins C a8 aX=>obtain⟨d,z,ne,e,d5,⟨dP,es,bN,aD,c⟩,r⟩:=x;exact⟨aE _ d,z,ne,k _ _ (.inl rfl) e,d5,⟨dP,es,bN,k _ _ (.inr d) aD,c⟩,r⟩
 |own y=>obtain⟨bf,e⟩:=x;exact⟨bf,k _ _ (.inl rfl) e⟩
 |x7 aX=>obtain⟨d5,⟨dP,es,bN,e,c⟩,r⟩:=x;exact⟨d5,⟨dP,es,bN,k _ _ (.inl rfl) e,c⟩,r⟩
 |xp lo ar=>obtain⟨t,u,v,e⟩:=x;exact⟨t,u,v,k _ _ (.inl rfl) e⟩
 |jB bf u bQ=>obtain⟨e,q⟩:=x;exact⟨k _ _ (.inl rfl) e,bQ q⟩
 |oP ps=>have e:h.get? a=some { cls:=.none,data:=.fields ps }:=x;show h'.get? a=some { cls:=.none,data:=.fields ps };exact k a _ (.inl rfl) e
 |met f y=>have e:h.get? a=some (PySem.W.methodObj (.ref f) (.ref y)):=x;show h'.get? a=some (PySem.W.methodObj (.ref f) (.ref y));exact k a _ (.inl rfl) e
 |ext qy=>obtain⟨p,⟨o,e⟩,st⟩:=x;exact⟨st _ _ p fun o q=>k _ _ (.inl rfl) q,⟨o,k _ _ (.inl rfl) e⟩,st⟩
theorem eb.lt(x:eb P w H h)(e:H a=some o):a<h.objs.size:=(x a o e).lt
theorem eb.fresh(x:eb P w H h)(e:h.objs.size≤a):H a=none:=by
 cases q:H a with
 |none=>rfl
 |some u=>exact absurd (adv (x.lt q) e) (adS _)
theorem eb.kept(x:eb P w H h)(k:∀b u,h.get? b=some u→h'.get? b=some u):eb P w H h':=fun a o e=>
 (x a o e).ny (fun b u _ q=>k b u q) (fun _ q=>q) fun _ _ q=>q
theorem eb.laid(x:eb P w H h)(k:∀b u,h.get? b=some u→h'.get? b=some u)(aS:h.objs.size≤a)(new:eK P w (upd H a o) h' a o):eb P w (upd H a o) h':=fun b u e=>by
 have aK:=x.fresh aS;by_cases J:b=a
 ·subst J;rw[et]at e;cases e;exact new
 ·rw[dV J]at e;exact(x b u e).ny (fun c v _ q=>k c v q) (fun c q=>by rw[dV (jl q aK)];exact q) fun c xs q=>by rw[dV (jl q aK)];exact q
end
def gA(H:ah)(a:ada)(u:dR):Prop:=H a=some u∨∃o,H a=some (.jB o u)
theorem gA.ok{P:adp}{w:adJ}{H:ah}{h:adX}{a:ada}{u:dR}(r:gA H a u)(x:eb P w H h):eK P w H h a u:=by
 rcases r with r|⟨o,r⟩
 ·exact x a u r
 ·obtain⟨_,q⟩:=x a _ r;exact q
noncomputable def sm:Option dR→Prop
 |some (.lst _)=>True
 |some (.dA _)=>True
 |some (.bx _)=>True
 |some (.set _ _)=>True
 |some (.ins _ _ _)=>True
 |some (.ext _)=>True
 |_=>False
section
variable{P:adp}{w:adJ}{H:ah}{h h':adX}{x e:ada}{bR:dR}
theorem eb.write(ok:eb P w H h)(jk:sm (H x))(he:e=x∨H e=some (.own x))(k:∀b u,b≠e→h.get? b=some u→h'.get? b=some u)(q7:∃u,h'.get? e=some u)(new:eK P w (upd H x bR) h' x bR):eb P w (upd H x bR) h':=fun b u q=>by
 have IX:∀c y,H c=some (.own y)→c≠x:=fun c y r z=>by subst z;rw[r]at jk;exact jk
 have Ux:∀c xs,H c=some (.tup xs)→c≠x:=fun c xs r z=>by subst z;rw[r]at jk;exact jk
 by_cases J:b=x
 ·subst J;rw[et]at q;cases q;exact new
 ·rw[dV J]at q;by_cases l8:b=e
  ·have dU:H b=some (.own x):=by
     rcases he with z|z
     ·exact absurd (l8.trans z) J
     ·rw[l8];exact z
   rw[q]at dU;cases dU;obtain⟨v,bW⟩:=q7;exact⟨v,by rw[l8];exact bW⟩
  ·refine(ok b u q).ny (fun c v aB r=>k c v ?_ r) (fun c r=>by rw[dV (IX c b r)];exact r) fun c xs r=>by rw[dV (Ux c xs r)];exact r
   rcases aB with rfl|aB
   ·exact l8
   ·rintro rfl;rcases he with z|z
    ·exact IX c b aB z
    ·rw[aB]at z;cases z;exact J rfl
end
structure fT(aX ex:List ada)(H H':ah)(h h':adX):Prop where
 keep:∀b o,h.get? b=some o→H b=none→b∉aX→b∉ex→h'.get? b=some o
 slot:∀b o,h.get? b=some o→H b=none→b∈aX→b∉ex→∃cV,h'.get? b=some { o with slots:=cV }
 free:∀b o,h.get? b=some o→H b=none→b∉ex→H' b=none
 there:∀b o,h.get? b=some o→b∉ex→∃bR,h'.get? b=some bR
 kD:∀b xs,H b=some (.tup xs)→H' b=some (.tup xs)
 jC:∀b o u,H b=some (.jB o u)→H' b=some (.jB o u)
 kC:∀b ps,H b=some (.oP ps)→∃more,H' b=some (.oP (ps++more))
section
variable{aX GG ex Fs:List ada}{H H1 bk:ah}{h h1 h2 h':adX}{a x e:ada}{o:dR}
theorem fT.any(u:fT aX ex H H1 h h1){b:ada}{bf:Obj}(q:h.get? b=some bf)(n:H b=none)(ax:b∉ex):∃cV,h1.get? b=some { bf with slots:=cV }:=by
 by_cases J:b∈aX
 ·exact u.slot b bf q n J ax
 ·exact⟨bf.slots,u.keep b bf q n J ax⟩
theorem fT.kept(k:∀b u,h.get? b=some u→h'.get? b=some u):fT aX ex H H h h':=
 ⟨fun b bf q _ _ _=>k b bf q,fun b bf q _ _ _=>⟨bf.slots,k b bf q⟩,fun _ _ _ n _=>n,fun b bf q _=>⟨bf,k b bf q⟩,fun _ _ q=>q,fun _ _ _ q=>q,fun _ ps q=>⟨#[],by rw[q];simp⟩⟩
theorem fT.refl:fT aX ex H H h h:=fT.kept fun _ _ q=>q
theorem fT.laid(k:∀b u,h.get? b=some u→h'.get? b=some u)(aS:h.objs.size≤a)(aK:H a=none):fT aX ex H (upd H a o) h h' where
 keep:=fun b u q _ _ _=>k b u q
 slot:=fun b u q _ _ _=>⟨u.slots,k b u q⟩
 free:=fun b u q n _=>by rw[dV (ady (adv (ac_ q) aS))];exact n
 there:=fun b u q _=>⟨u,k b u q⟩
 kD:=fun b xs q=>by rw[dV (jl q aK)];exact q
 jC:=fun b u xs q=>by rw[dV (jl q aK)];exact q
 kC:=fun b ps q=>⟨#[],by rw[dV (jl q aK),q];simp⟩
theorem fT.write(jk:sm (H x))(he:e=x∨H e=some (.own x))(k:∀b u,b≠e→h.get? b=some u→h'.get? b=some u)(q7:∃u,h'.get? e=some u):fT aX ex H (upd H x o) h h':=by
 have ax:∀b,H b=none→b≠x:=fun b n z=>by subst z;rw[n]at jk;exact jk
 have J:∀b,H b=none→b≠e:=fun b n z=>by
  subst z;rcases he with r|r
  ·exact ax b n r
  ·rw[n]at r;cases r
 have hm:∀b u,H b=some u→¬sm (some u)→b≠x:=fun b u q nm z=>by subst z;rw[q]at jk;exact nm jk
 refine⟨fun b u q n _ _=>k b u (J b n) q,fun b u q n _ _=>⟨u.slots,k b u (J b n) q⟩,fun b u q n _=>by rw[dV (ax b n)];exact n,fun b u q _=>?_,
  fun b xs q=>by rw[dV (hm b _ q fun z=>z)];exact q,fun b u xs q=>by rw[dV (hm b _ q fun z=>z)];exact q,fun b ps q=>⟨#[],by rw[dV (hm b _ q fun z=>z),q];simp⟩⟩
 by_cases l8:b=e
 ·subst l8;exact q7
 ·exact⟨u,k b u l8 q⟩
end
def xY(h:adX)(H:ah):List ada:=(adf h.objs.size).filter fun a=>(H a).isSome
def m4(h:adX)(H:ah):adX:=PySem.W.hideAll h (xY h H)
theorem PG(h:adX)(H:ah):(m4 h H).objs.size=h.objs.size:=PySem.W.hideAll_size _ _
theorem PF{h:adX}{H:ah}{b:ada}{o:Obj}(e:h.get? b=some o)(n:H b=none):(m4 h H).get? b=some o:=
 PySem.W.hideAll_get _ e fun hm=>by have q:(H b).isSome=true:=(List.mem_filter.mp hm).2;rw[n]at q;simp at q
theorem UG{h:adX}{H:ah}{b:ada}{o:Obj}(e:(m4 h H).get? b=some o):h.get? b=some o∧H b=none:=by
 have cn:h.get? b=some o:=PySem.W.of_hideAll (xY h H) e;refine⟨cn,?_⟩;cases q:H b with
 |none=>rfl
 |some x=>have hm:b∈xY h H:=List.mem_filter.mpr ⟨List.mem_range.mpr (ac_ cn),by simp[q]⟩;have z:(m4 h H).get? b=none:=PySem.W.hideAll_none (xY h H) hm;rw[z]at e;cases e
noncomputable def MD(g h:adX)(L:ada):List (ada×Obj):=(adf h.objs.size).filterMap fun a=>if a=L∨(g.get? a).isSome=true then none else(h.get? a).map fun o=>(a,o)
def rest(g h:adX)(L d:ada):List (ada×Obj):=(MD g h L).filter fun p=>decide (p.1≠d)
structure Mod(K:PySem.W.Frag)(mg:Str→Option ac1)(base:adX):Prop where
 oo:K.In base
 glob:base.Ns ado mg
 blt:∃gC,base.Ns builtinsNs gC∧∀x:Str,x≠"__name__"→gC x=aer x
 nolimit:base.NoLimit
structure aQ where
 prog:adp
 w:adJ
 K:PySem.W.Frag
 mg:Str→Option ac1
 base:adX
 A:adG
 N:List Str
 fy:ac4
 o1:ah
 env:Env
 outer:List Env
 stack:List Env
 ex:List ada
 fn:Str→Bool
 calm:Bool
 oD:List (ada×Obj)
 xe:ac1→ac4→Prop
def eG(l:List Env):List ada:=l.filterMap (·.frame)
abbrev aQ.aX(X:aQ):List ada:=eG X.outer
noncomputable def iH(sc:ae6)(x:Str):Prop:=sc.names.lookup x=some .local∨sc.names.lookup x=some .cell∨sc.names.lookup x=some .free
def Loc(sc:ae6)(x:Str):Prop:=sc.names.lookup x=some .local∨sc.names.lookup x=some .cell
noncomputable def Look(env:Env)(h:adX)(m:Str→Option ac1)(x:Str)(u:ac1):Prop:=
 (env.kindOf x=some .local∧m x=some u)∨((env.kindOf x=some .cell∨env.kindOf x=some .free)∧∃c,env.cells.lookup x=some c∧h.IsCell c (some u))
structure aQ.Ok(X:aQ):Prop where
 mod:Mod X.K X.mg X.base
 kind:X.env.scope.kind=.function
 glob:X.env.globals=ado
 blt:X.env.builtins=builtinsNs
 above:X.fy.heap.objs.size≤X.env.locals
 inj:∀x y c,X.env.cells.lookup x=some c→X.env.cells.lookup y=some c→x=y
 has:∀x,(X.env.kindOf x=some .cell∨X.env.kindOf x=some .free)→∃c,X.env.cells.lookup x=some c
 sE:∀x c,X.fn x=true→X.env.cells.lookup x=some c→X.fy.heap.objs.size≤c
 hd:X.calm=true→X.A.handled=none
 frames:X.A.frames=some X.stack
 xI:X.stack=X.outer∨(X.stack=X.env::X.outer∧X.env.frame=some X.env.locals)
 Fu:∀b∈X.ex,b≠X.env.locals∧∀x c,X.env.cells.lookup x=some c→c≠b
 bs:∀b o,X.base.get? b=some o→X.fy.heap.get? b=some o∧X.o1 b=none
 nZ:X.base.objs.size≤X.fy.heap.objs.size
 p8:∀b o,X.base.get? b=some o→b∉X.ex
 vD:∀b∈X.ex,b∉X.aX
 jc:X.fy.heap.FunFrames X.base X.outer
 pE:∀b∈X.aX,X.o1 b=none
structure Inv(X:aQ)(pins:List (ada×Obj))(σ :List (Option V))(H:ah)(s:ac4):Prop where
 ok:X.Ok
 os:s.os=X.fy.os
 bare:ahc s.gens
 base:fT X.aX X.ex X.o1 H X.fy.heap s.heap
 loc:∃m,s.heap.Ns X.env.locals m∧∀(i:Nat)(x:Str)(v:V),X.N[i]?=some x→ σ[i]?=some (some v)→iH X.env.scope x→∃u,RelV v u∧Look X.env s.heap m x u
 cell:∀x c,X.env.cells.lookup x=some c→∃v,s.heap.IsCell c v
 free:H X.env.locals=none
 l3:∀x c,X.env.cells.lookup x=some c→H c=none
 pin:∀p∈X.oD++pins,s.heap.get? p.1=some p.2∧H p.1=none∧p.1≠X.env.locals∧p.1∉X.aX∧∀v,p.2.data≠.cell v
 bL:eb X.prog X.w H s.heap
 len: σ.length=X.N.length
section
variable{X:aQ}{pins:List (ada×Obj)}{σ :List (Option V)}{H H':ah}{s:ac4}{h':adX}
theorem aQ.Ok.Ur(ok:X.Ok){b:ada}{o:Obj}(e:X.base.get? b=some o):b∉X.aX:=fun J=>by have:=(ok.jc.mem J).1;rw[e]at this;cases this
theorem Inv.bs(I:Inv X pins σ H s):∀b o,X.base.get? b=some o→s.heap.get? b=some o∧H b=none:=fun b o e=>
 ⟨I.base.keep b o (I.ok.bs b o e).1 (I.ok.bs b o e).2 (I.ok.Ur e) (I.ok.p8 b o e),I.base.free b o (I.ok.bs b o e).1 (I.ok.bs b o e).2 (I.ok.p8 b o e)⟩
theorem Inv.fV(I:Inv X pins σ H s):∀b o,X.base.get? b=some o→s.heap.get? b=some o:=fun b o e=>(I.bs b o e).1
theorem Inv.mod(I:Inv X pins σ H s):Mod X.K X.mg X.base:=I.ok.mod
theorem Inv.fY(I:Inv X pins σ H s):X.K.In s.heap:=I.ok.mod.oo.keeps I.fV
theorem Inv.lt(I:Inv X pins σ H s):X.env.locals<s.heap.objs.size:=let⟨_,aK,_⟩:=I.loc;aK.lt
theorem Inv.qg(I:Inv X pins σ H s):X.fy.heap.objs.size≤s.heap.objs.size:=adB I.ok.above (afF I.lt)
theorem Inv.Ut(I:Inv X pins σ H s){a:ada}(h:s.heap.objs.size≤a):a∉X.aX:=fun J=>by obtain⟨_,o,aE,_⟩:=I.ok.jc.mem J;exact absurd (adv (ac_ aE) (adB I.qg h)) (adS _)
theorem Inv.pg(I:Inv X pins σ H s):∀x c,X.env.cells.lookup x=some c→c≠X.env.locals:=fun x c e z=>by obtain⟨v,o,aE,hd⟩:=I.cell x c e;obtain⟨m,⟨bR,es,bN,eo,fw,_⟩,_⟩:=I.loc;rw[z,eo]at aE;cases aE;rw[fw]at hd;cases hd
theorem Inv.jc(I:Inv X pins σ H s):s.heap.FunFrames X.base X.outer:=by
 have all:∀(l:List Env),(∀b∈eG l,b∈X.aX)→X.fy.heap.FunFrames X.base l→s.heap.FunFrames X.base l:=by
  intro l;induction l with
  |nil=>intro _ _;trivial
  |cons env r bQ=>intro hs ai;obtain⟨aH,⟨L,o,hf,aK,aE,hd⟩,au⟩:=ai;have fO:L∈X.aX:=hs L (by unfold eG;rw[aeK,hf];exact adz);obtain⟨cV,e⟩:=I.base.slot L o aE (I.ok.pE L fO) fO fun z=>I.ok.vD L z fO;exact⟨aH,⟨L,_,hf,aK,e,hd⟩,bQ (fun b J=>hs b (by unfold eG;rw[aeK,hf];exact ac7 _ J)) au⟩
 exact all X.outer (fun _ J=>J) I.ok.jc
theorem Inv.stack(I:Inv X pins σ H s):s.heap.FunFrames X.base X.stack:=by
 rcases I.ok.xI with e|⟨e,hf⟩
 ·rw[e];exact I.jc
 ·rw[e];obtain⟨m,aK,_⟩:=I.loc;refine .cons (by rw[I.ok.kind];decide) hf aK ?_ I.jc;exact Heap.get?_none_of_le (adB I.ok.nZ I.ok.above)
theorem Inv.xJ(I:Inv X pins σ H s):∀b∈eG X.stack,b∈X.env.locals::X.aX:=fun b J=>by
 rcases I.ok.xI with e|⟨e,hf⟩
 ·rw[e]at J;exact ac7 _ J
 ·rw[e]at J;unfold eG at J;rw[aeK,hf]at J;exact J
theorem Inv.C3(I:Inv X pins σ H s):∀b∈eG X.stack,H b=none:=fun b J=>by
 rcases List.mem_cons.mp (I.xJ b J)with e|J
 ·rw[e];exact I.free
 ·obtain⟨_,o,aE,_⟩:=I.ok.jc.mem J;exact I.base.free b o aE (I.ok.pE b J) fun z=>I.ok.vD b z J
theorem Inv.step{g':Array GenState}{t':Nat}{d':Drawn}{ch:List ada}(I:Inv X pins σ H s)(l9:∀b∈ch,(b∈X.ex∨X.fy.heap.objs.size≤b)∧b≠X.env.locals∧(∀x c,X.env.cells.lookup x=some c→c≠b)∧∀p∈X.oD++pins,p.1≠b)(keep:∀b o,b≠X.env.locals→b∉X.aX→b∉ch→s.heap.get? b=some o→H b=none→h'.get? b=some o)(slot:∀b o,b≠X.env.locals→b∈X.aX→b∉ch→s.heap.get? b=some o→H b=none→∃cV,h'.get? b=some { o with slots:=cV })(free:∀b o,b∉ch→s.heap.get? b=some o→H b=none→H' b=none)(there:∀b o,b∉ch→s.heap.get? b=some o→∃bR,h'.get? b=some bR)(kD:∀b xs,H b=some (.tup xs)→H' b=some (.tup xs))(jC:∀b o u,H b=some (.jB o u)→H' b=some (.jB o u))(kC:∀b ps,H b=some (.oP ps)→∃more,H' b=some (.oP (ps++more)))(ns:∀m,s.heap.Ns X.env.locals m→h'.Ns X.env.locals m)(bL:eb X.prog X.w H' h')(aO:ahc g') :
  Inv X pins σ H' { s with heap:=h',gens:=g',drawn:=d',toks:=t' }:=by
 have IJ:∀b o,X.fy.heap.get? b=some o→b≠X.env.locals:=fun b o e=>ady (adv (ac_ e) I.ok.above);have wZ:∀b o,X.fy.heap.get? b=some o→b∉X.ex→b∉ch:=fun b o e ax J=>by
  rcases(l9 b J).1 with z|z
  ·exact ax z
  ·exact absurd (adv (ac_ e) z) (adS _)
 have cellK:∀x c,X.env.cells.lookup x=some c→∀v,s.heap.IsCell c v→h'.IsCell c v:=fun x c e v⟨o,aE,hd⟩=>by
  have t2:c∉ch:=fun z=>(l9 c z).2.2.1 x c e rfl;by_cases aB:c∈X.aX
  ·obtain⟨cV,q⟩:=slot c o (I.pg x c e) aB t2 aE (I.l3 x c e);exact⟨_,q,hd⟩
  ·exact⟨o,keep c o (I.pg x c e) aB t2 aE (I.l3 x c e),hd⟩
 refine⟨I.ok,I.os,aO,⟨fun b o e n J ax=>?_,fun b o e n J ax=>?_,fun b o e n ax=>?_,fun b o e ax=>?_,fun b xs e=>kD b xs (I.base.kD b xs e),fun b o xs e=>jC b o xs (I.base.jC b o xs e),fun b ps e=>?_⟩,?_,fun x c e=>?_,?_,fun x c e=>?_,fun p aS=>?_,bL,I.len⟩
 ·exact keep b o (IJ b o e) J (wZ b o e ax) (I.base.keep b o e n J ax) (I.base.free b o e n ax)
 ·obtain⟨cV,aq⟩:=I.base.slot b o e n J ax;obtain⟨XN,aD⟩:=slot b _ (IJ b o e) J (wZ b o e ax) aq (I.base.free b o e n ax);exact⟨XN,aD⟩
 ·obtain⟨bR,aq⟩:=I.base.there b o e ax;exact free b bR (wZ b o e ax) aq (I.base.free b o e n ax)
 ·obtain⟨bR,aq⟩:=I.base.there b o e ax;exact there b bR (wZ b o e ax) aq
 ·obtain⟨m1,aq⟩:=I.base.kC b ps e;obtain⟨m2,aD⟩:=kC b _ aq;exact⟨m1++m2,by rw[aD,Array.append_assoc]⟩
 ·obtain⟨m,aK,ai⟩:=I.loc;refine⟨m,ns m aK,fun i x v aq aD b4=>?_⟩;obtain⟨u,r,l⟩:=ai i x v aq aD b4;refine⟨u,r,?_⟩;rcases l with l|⟨k,c,e,z⟩
  ·exact .inl l
  ·exact .inr ⟨k,c,e,cellK x c e _ z⟩
 ·obtain⟨v,z⟩:=I.cell x c e;exact⟨v,cellK x c e v z⟩
 ·obtain⟨m,⟨o,_,_,aE,_⟩,_⟩:=I.loc;exact free _ o (fun z=>(l9 _ z).2.1 rfl) aE I.free
 ·obtain⟨v,o,aE,hd⟩:=I.cell x c e;exact free c o (fun z=>(l9 c z).2.2.1 x c e rfl) aE (I.l3 x c e)
 ·obtain⟨e,n,ne,iX,d⟩:=I.pin p aS;have t2:p.1∉ch:=fun z=>(l9 p.1 z).2.2.2 p aS rfl;exact⟨keep p.1 p.2 ne iX t2 e n,free p.1 p.2 t2 e n,ne,iX,d⟩
theorem Inv.un{t':Nat}(I:Inv X pins σ H s)(u:fT X.aX [] H H' s.heap h')(bL:eb X.prog X.w H' h'):Inv X pins σ H' { s with heap:=h',toks:=t' }:=by
 obtain⟨m,⟨o,es,bN,aE,r⟩,_⟩:=id I.loc;obtain⟨cV,fO⟩:=u.any aE I.free (by simp);exact I.step (g':=s.gens) (d':=s.drawn) (ch:=[]) (fun _ z=>nomatch z) (fun b o _ J _ e n=>u.keep b o e n J (by simp)) (fun b o _ J _ e n=>u.slot b o e n J (by simp)) (fun b o _ e n=>u.free b o e n (by simp)) (fun b o _ e=>u.there b o e (by simp)) u.kD u.jC u.kC (fun c5 hm=>by obtain⟨bR,es',pC,eo,bF⟩:=hm;rw[aE]at eo;cases eo;exact⟨_,es',pC,fO,bF⟩) bL I.bare
theorem Inv.call{g':Array GenState}{t':Nat}{d':Drawn}{ch:List ada}(I:Inv X pins σ H s)(u:fT (eG X.stack) ch H H' s.heap h')(bL:eb X.prog X.w H' h')(aO:ahc g')(l9:∀b∈ch,(b∈X.ex∨X.fy.heap.objs.size≤b)∧b≠X.env.locals∧(∀x c,X.env.cells.lookup x=some c→c≠b)∧∀p∈X.oD++pins,p.1≠b) :
  Inv X pins σ H' { s with heap:=h',gens:=g',drawn:=d',toks:=t' }:=by
 obtain⟨m,⟨o,es,bN,aE,r⟩,_⟩:=id I.loc;obtain⟨cV,fO⟩:=u.any aE I.free fun z=>(l9 _ z).2.1 rfl;exact I.step (ch:=ch) l9 (fun b o fO J aB e n=>u.keep b o e n (fun z=>(List.mem_cons.mp (I.xJ b z)).elim fO J) aB) (fun b o _ _ aB e n=>u.any e n aB) (fun b o aB e n=>u.free b o e n aB) (fun b o aB e=>u.there b o e aB) u.kD u.jC u.kC (fun c5 hm=>by obtain⟨bR,es',pC,eo,bF⟩:=hm;rw[aE]at eo;cases eo;exact⟨_,es',pC,fO,bF⟩) bL aO
theorem Inv.turned{t':Nat}{it:ada}(I:Inv X pins σ H s)(k:∀b o,b≠it→s.heap.get? b=some o→h'.get? b=some o)(aK:H it=none)(fO:it≠X.env.locals)(h1:it∈X.ex∨X.fy.heap.objs.size≤it)(h2:∀x c,X.env.cells.lookup x=some c→c≠it)(h3:∀p∈X.oD++pins,p.1≠it):Inv X pins σ H { s with heap:=h',toks:=t' }:=by
 have oz:∀b u,H b=some u→b≠it:=fun b u e z=>by rw[z,aK]at e;cases e
 refine I.step (g':=s.gens) (d':=s.drawn) (ch:=[it]) (fun b J=>?_) (fun b o _ _ aB e _=>k b o (fun z=>aB (by simp[z])) e) (fun b o _ _ aB e _=>⟨o.slots,k b o (fun z=>aB (by simp[z])) e⟩) (fun _ _ _ _ n=>n)
  (fun b o aB e=>⟨o,k b o (fun z=>aB (by simp[z])) e⟩) (fun _ _ e=>e) (fun _ _ _ e=>e) (fun b ps e=>⟨#[],by rw[e];simp⟩) (fun m hm=>?_) (fun b u e=>?_) I.bare
 ·have e:b=it:=by simpa using J
  subst e;exact⟨h1,fO,h2,h3⟩
 ·obtain⟨o,es,bN,aE,r⟩:=hm;exact⟨o,es,bN,k _ o (agS fO) aE,r⟩
 ·refine(I.bL b u e).ny (fun c v aB q=>k c v ?_ q) (fun _ q=>q) fun _ _ q=>q;rcases aB with z|z
  ·rw[z];exact oz b u e
  ·exact oz c _ z
theorem Inv.tok(I:Inv X pins σ H s)(t:Nat):Inv X pins σ H { s with toks:=t }:=I.un (h':=s.heap) (t':=t) fT.refl I.bL
theorem Inv.kept{t':Nat}(I:Inv X pins σ H s)(k:∀b u,s.heap.get? b=some u→h'.get? b=some u):Inv X pins σ H { s with heap:=h',toks:=t' }:=I.un (fT.kept k) (I.bL.kept k)
theorem Inv.laid{a:ada}{o:dR}{t':Nat}(I:Inv X pins σ H s)(k:∀b u,s.heap.get? b=some u→h'.get? b=some u)(aS:s.heap.objs.size≤a)(new:eK X.prog X.w (upd H a o) h' a o) :
  Inv X pins σ (upd H a o) { s with heap:=h',toks:=t' }:=I.un (fT.laid k aS (I.bL.fresh aS)) (I.bL.laid k aS new)
theorem Inv.write{x e:ada}{o:dR}{t':Nat}(I:Inv X pins σ H s)(jk:sm (H x))(he:e=x∨H e=some (.own x))(k:∀b u,b≠e→s.heap.get? b=some u→h'.get? b=some u)(q7:∃u,h'.get? e=some u)(new:eK X.prog X.w (upd H x o) h' x o):Inv X pins σ (upd H x o) { s with heap:=h',toks:=t' }:=I.un (fT.write jk he k q7) (I.bL.write jk he k q7 new)
theorem Inv.Jr{Jq:List (ada×Obj)}(I:Inv X pins σ H s)(h:∀p∈Jq,s.heap.get? p.1=some p.2∧H p.1=none∧p.1≠X.env.locals∧p.1∉X.aX∧∀v,p.2.data≠.cell v):Inv X Jq σ H s:=
 ⟨I.ok,I.os,I.bare,I.base,I.loc,I.cell,I.free,I.l3,fun p aS=>(List.mem_append.mp aS).elim (fun z=>I.pin p (ad8 _ z)) (h p),I.bL,I.len⟩
theorem IS{N:List Str}(cB:N.Nodup){i j:Nat}{x:Str}(a:N[i]?=some x)(b:N[j]?=some x):i=j:=by obtain⟨h1,aq⟩:=List.getElem?_eq_some_iff.mp a;obtain⟨h2,aD⟩:=List.getElem?_eq_some_iff.mp b;exact(List.getElem_inj cB).mp (aq.trans aD.symm)
theorem Kz{M:Model}{A:adG}{E:ac1→ac4→Prop}{i:Nat}{x:Str}{v:V}{u:ac1}{Q:Unit→ac4→Prop}(I:Inv X pins σ H s)(cB:X.N.Nodup)(ar:X.N[i]?=some x)(ax:Loc X.env.scope x)(r:RelV v u)(h:∀s',Inv X pins (σ.set i (some v)) H s'→(∃a,adZ a s.heap s'.heap∧(a=X.env.locals∨X.env.cells.lookup x=some a))→Q () s')(hf:X.fn x=true∨X.env.scope.names.lookup x=some .local:=by first|exact .inl rfl|exact .inr rfl|assumption):adm M A (storeName X.env x u) Q E s:=by
 obtain⟨m,aK,ai⟩:=id I.loc;have Pn:(X.env.scope.kind==.class||(X.env.scope.kind==.module&&X.env.locals !=X.env.globals))=false:=by rw[I.ok.kind];rfl
 have arσ :i< σ.length:=by rw[I.len];exact(List.getElem?_eq_some_iff.mp ar).1
 have pg:=I.pg;have tracked:∀{a:ada}{h':adX},(∃o,s.heap.get? a=some o∧H a=none)→adZ a s.heap h'→eb X.prog X.w H h':=fun{a h'} ag hs b bf e=>by
  obtain⟨_,_,vS⟩:=ag;refine(I.bL b bf e).ny (fun c eQ aB q=>(hs.2 c ?_).trans q) (fun _ q=>q) fun _ _ q=>q;rintro rfl;rcases aB with rfl|aB
  ·rw[vS]at e;cases e
  ·rw[vS]at aB;cases aB
 rcases ax with aH|aH
 ·refine wpAny_storeName_local aH aK (fun h' PY hs=>?_) Pn;obtain⟨UA,_,_,P4,_⟩:=id aK;refine h _ ⟨I.ok,I.os,I.bare,⟨fun b o e n J ax=>?_,fun b o e n J ax=>?_,I.base.free,fun b o e ax=>?_,I.base.kD,I.base.jC,I.base.kC⟩,⟨_,PY,fun j y my aq aD b4=>?_⟩,fun y c e=>?_,I.free,I.l3,fun p aS=>?_,tracked ⟨UA,P4,I.free⟩ hs,by simpa using I.len⟩ ⟨_,hs,.inl rfl⟩
  ·exact(hs.2 b (ady (adv (ac_ e) I.ok.above))).trans (I.base.keep b o e n J ax)
  ·obtain⟨cV,aq⟩:=I.base.slot b o e n J ax;exact⟨cV,(hs.2 b (ady (adv (ac_ e) I.ok.above))).trans aq⟩
  ·obtain⟨bR,aq⟩:=I.base.there b o e ax;exact⟨bR,(hs.2 b (ady (adv (ac_ e) I.ok.above))).trans aq⟩
  ·by_cases cz:j=i
   ·subst cz;rw[ar]at aq;cases aq;rw[afe arσ]at aD;cases aD;exact⟨u,r,.inl ⟨aH,by simp⟩⟩
   ·rw[aeE (agS cz)]at aD;obtain⟨hD,bF,q⟩:=ai j y my aq aD b4;refine⟨hD,bF,?_⟩;rcases q with⟨k,e⟩|⟨k,c,e,z⟩
    ·refine .inl ⟨k,?_⟩;have:y≠x:=fun e=>cz (IS cB aq (e▸ar));simp[this,e]
    ·exact .inr ⟨k,c,e,z.sameBut hs (pg y c e)⟩
  ·obtain⟨eQ,z⟩:=I.cell y c e;exact⟨eQ,z.sameBut hs (pg y c e)⟩
  ·obtain⟨e,n,ne,iX,d⟩:=I.pin p aS;exact⟨(hs.2 p.1 ne).trans e,n,ne,iX,d⟩
 ·have Au:X.fn x=true:=by
    rcases hf with z|z
    ·exact z
    ·rw[z]at aH;cases aH
  obtain⟨c,aB⟩:=I.ok.has x (.inl aH);obtain⟨eQ,z⟩:=I.cell x c aB;refine wpAny_storeName_cell I.ok.kind aH aB z (fun h' q5 hs=>?_);obtain⟨fo,Hd,P7⟩:=id z;refine h { s with heap:=h' } ⟨I.ok,I.os,I.bare,⟨fun b o e n J ax=>?_,fun b o e n J ax=>?_,I.base.free,fun b o e ax=>?_,I.base.kD,I.base.jC,I.base.kC⟩,⟨m,aK.sameBut hs (agS (pg x c aB)),fun j y my aq aD b4=>?_⟩,fun y ey e=>?_,I.free,I.l3,fun p aS=>?_,tracked ⟨fo,Hd,I.l3 x c aB⟩ hs,by simpa using I.len⟩ ⟨c,hs,.inr aB⟩
  ·exact(hs.2 b (ady (adv (ac_ e) (I.ok.sE x c Au aB)))).trans (I.base.keep b o e n J ax)
  ·obtain⟨cV,aq⟩:=I.base.slot b o e n J ax;exact⟨cV,(hs.2 b (ady (adv (ac_ e) (I.ok.sE x c Au aB)))).trans aq⟩
  ·obtain⟨bR,aq⟩:=I.base.there b o e ax;exact⟨bR,(hs.2 b (ady (adv (ac_ e) (I.ok.sE x c Au aB)))).trans aq⟩
  ·by_cases cz:j=i
   ·subst cz;rw[ar]at aq;cases aq;rw[afe arσ]at aD;cases aD;exact⟨u,r,.inr ⟨.inl aH,c,aB,q5⟩⟩
   ·rw[aeE (agS cz)]at aD;obtain⟨hD,bF,q⟩:=ai j y my aq aD b4;refine⟨hD,bF,?_⟩;rcases q with q|⟨k,ey,e,fA⟩
    ·exact .inl q
    ·refine .inr ⟨k,ey,e,fA.sameBut hs ?_⟩;rintro rfl;exact cz (IS cB aq (I.ok.inj _ _ _ e aB▸ar))
  ·by_cases GY:ey=c
   ·subst GY;exact⟨_,q5⟩
   ·obtain⟨kG,a9⟩:=I.cell y ey e;exact⟨kG,a9.sameBut hs GY⟩
  ·obtain⟨e,n,ne,iX,d⟩:=I.pin p aS;refine⟨(hs.2 p.1 ?_).trans e,n,ne,iX,d⟩;intro q;rw[q,Hd]at e;have dU:fo=p.2:=adh e;exact d eQ (by rw[←dU];exact P7)
theorem Ky{M:Model}{A:adG}{E:ac1→ac4→Prop}{i:Nat}{x:Str}{v:V}{u:ac1}{Q:Unit→ac4→Prop}(I:Inv X pins σ H s)(cB:X.N.Nodup)(ar:X.N[i]?=some x)(ax:Loc X.env.scope x)(r:RelV v u)(h:∀s',Inv X pins (σ.set i (some v)) H s'→Q () s')(hf:X.fn x=true∨X.env.scope.names.lookup x=some .local:=by first|exact .inl rfl|exact .inr rfl|assumption):adm M A (storeName X.env x u) Q E s:=
 Kz I cB ar ax r (fun s' lU _=>h s' lU) hf
theorem Inv.M8{s':ac4}{ch:List ada}(I:Inv X pins σ H s)(aE:s'.os=s.os)(u:fT (eG X.stack) ch H H' s.heap s'.heap)(bL:eb X.prog X.w H' s'.heap)(aO:ahc s'.gens)(l9:∀b∈ch,(b∈X.ex∨X.fy.heap.objs.size≤b)∧b≠X.env.locals∧(∀x c,X.env.cells.lookup x=some c→c≠b)∧∀p∈X.oD++pins,p.1≠b):Inv X pins σ H' s':=by obtain⟨h',g',d',t',bR⟩:=s';have e:bR=s.os:=aE;subst e;exact I.call (g':=g') (t':=t') (d':=d') u bL aO l9
end
abbrev dh:=ac1→Option ada→ah→Prop
abbrev St:=List (Option V)
abbrev cX:=V→ah→Prop
abbrev TE:=St→ah→cX→Prop
abbrev TT:=St→ah→(Bool→ah→Prop)→Prop
abbrev eL:=St→ah→(List V→ah→Prop)→Prop
structure Ends where
 bO:St→ah→Prop
 dJ:cX
 fV:St→ah→Prop:=fun _ _=>False
 c_:St→ah→Prop:=fun _ _=>False
abbrev e1:=Ends→St→ah→Prop
noncomputable def gw(X:aQ)(pins:List (ada×Obj))(σ :St)(Q:cX)(u:ac1)(s':ac4):Prop:=∃v H',Inv X pins σ H' s'∧RelV v u∧Q v H'
noncomputable def u2(X:aQ)(pins:List (ada×Obj))(σ :St)(Q:Bool→ah→Prop)(b:Bool)(s':ac4):Prop:=∃H',Inv X pins σ H' s'∧Q b H'
noncomputable def L8(X:aQ)(pins:List (ada×Obj))(σ :St)(Q:List V→ah→Prop)(us:List ac1)(s':ac4):Prop:=∃vs H',Inv X pins σ H' s'∧Vals vs us∧Q vs H'
noncomputable def o9(X:aQ)(pins:List (ada×Obj))(D:Ends)(f:Flow)(s':ac4):Prop:=
 match f with
 |.next=>∃ σ' H',Inv X pins σ' H' s'∧D.bO σ' H'
 |.brk=>∃ σ' H',Inv X pins σ' H' s'∧D.fV σ' H'
 |.cont=>∃ σ' H',Inv X pins σ' H' s'∧D.c_ σ' H'
 |.ret u=>∃v σ' H',Inv X pins σ' H' s'∧RelV v u∧D.dJ v H'
noncomputable def a6(X:aQ)(e:adI)(t:TE):Prop:=
 ∀(pins:List (ada×Obj))(s:ac4)(σ :St)(H:ah)(Q:cX),Inv X pins σ H s→t σ H Q→adm (adu X.prog X.w) X.A (aeq e X.env) (gw X pins σ Q) X.xe s
noncomputable def e9(X:aQ)(e:adI)(t:TT):Prop:=
 ∀(pins:List (ada×Obj))(s:ac4)(σ :St)(H:ah)(Q:Bool→ah→Prop),Inv X pins σ H s→t σ H Q→adm (adu X.prog X.w) X.A (isTrue e X.env (aeq e X.env)) (u2 X pins σ Q) X.xe s
noncomputable def iB(X:aQ)(e:adI)(t:TT):Prop:=
 ∀(whole:Sem ac1)(pins:List (ada×Obj))(s:ac4)(σ :St)(H:ah)(Q:Bool→ah→Prop),Inv X pins σ H s→t σ H Q→adm (adu X.prog X.w) X.A (isTrue e X.env whole) (u2 X pins σ Q) X.xe s
theorem iB.pt{X:aQ}{e:adI}{t:TT}(h:iB X e t):e9 X e t:=h _
noncomputable def fk(X:aQ)(es:List adI)(t:eL):Prop:=
 ∀(pos:Pos)(pins:List (ada×Obj))(s:ac4)(σ :St)(H:ah)(Q:List V→ah→Prop),Inv X pins σ H s→t σ H Q→adm (adu X.prog X.w) X.A (spliced (adR pos (ac5 es X.env))) (L8 X pins σ Q) X.xe s
noncomputable def dG(X:aQ)(st:aep)(t:e1):Prop:=
 ∀(pins:List (ada×Obj))(s:ac4)(σ :St)(H:ah)(D:Ends),Inv X pins σ H s→t D σ H→adm (adu X.prog X.w) X.A (exec st X.env) (o9 X pins D) X.xe s
noncomputable def f_(X:aQ)(st:List aep)(t:e1):Prop:=
 ∀(pins:List (ada×Obj))(s:ac4)(σ :St)(H:ah)(D:Ends),Inv X pins σ H s→t D σ H→adm (adu X.prog X.w) X.A (execs st X.env) (o9 X pins D) X.xe s
theorem bZ{α:Type}{t:Sem α}{Q o8:α→ac4→Prop}{M:Model}{A:adG}{E:ac1→ac4→Prop}{s:ac4}(h:adm M A t Q E s)(ef:∀a s,Q a s→o8 a s):adm M A t o8 E s:=ad9 h ef fun _ _ x=>x
section
variable{X:aQ}
theorem bin{a b:adI}{cf tb:TE}(ag:a6 X a cf)(J:a6 X b tb){pins:List (ada×Obj)}{s:ac4}{σ :St}{H:ah}{R:V→V→ah→Prop}(I:Inv X pins σ H s)(h:cf σ H fun x H1=>tb σ H1 fun y bk=>R x y bk){α:Type}{Q:α→ac4→Prop}{f:ac1→ac1→Sem α}(hf:∀v u s2 x y bk,Inv X pins σ bk s2→RelV x v→RelV y u→R x y bk→adm (adu X.prog X.w) X.A (f v u) Q X.xe s2) :
  adm (adu X.prog X.w) X.A (aeq a X.env) (fun v c6=>adm (adu X.prog X.w) X.A (aeq b X.env) (fun u ih=>adm (adu X.prog X.w) X.A (f v u) Q X.xe ih) X.xe c6) X.xe s:=by
 refine bZ (ag pins s σ H _ I h) fun v s1⟨x,H1,a0,az,aV⟩=>?_;refine bZ (J pins s1 σ H1 _ a0 aV) fun u s2⟨y,bk,ck,bg,bE⟩=>?_;exact hf v u s2 x y bk ck az bg bE
def Dh(i:Nat):TE:=fun σ H Q=>∃v,σ[i]?=some (some v)∧Q v H
def qi(v:V):TE:=fun _ H Q=>Q v H
theorem lz{i:Nat}{x:Str}{pos:Pos}(cB:X.N[i]?=some x)(bW:iH X.env.scope x)(hd:(x==("__debug__" :Str))=false:=by decide)(en:(x==("__classdict__" :Str))=false:=by decide):a6 X (.Name x pos) (Dh i):=by
 intro pins s σ H Q I h;obtain⟨v,e,h⟩:=h;obtain⟨m,aK,ai⟩:=I.loc;obtain⟨u,r,l⟩:=ai i x v cB e bW;have fin:gw X pins σ Q u s:=⟨v,H,I,r,h⟩;rcases l with⟨aH,hm⟩|⟨aH,c,aB,GZ⟩
 ·exact wpAny_Name (wpAny_loadName_local I.ok.kind aH aK hm fin) hd
 ·rcases aH with aH|aH
  ·exact wpAny_Name (wpAny_loadName_cell I.ok.kind aH aB GZ fin) hd
  ·exact wpAny_Name (wpAny_loadName_free I.ok.kind aH aB GZ fin en) hd
theorem Vy{i j pos}:a6 X (.Constant (.int i) j pos) (qi (.int i)):=fun _ _ _ H _ I h=>wpAny_Constant_int ⟨.int i,H,I.tok _,⟨_,rfl⟩,h⟩
theorem Vm{b j pos}:a6 X (.Constant (.bool b) j pos) (qi (.aF b)):=fun _ _ _ H _ I h=>Constant_bool ⟨.aF b,H,I,rfl,h⟩
theorem VF{j pos}:a6 X (.Constant .none j pos) (qi .non):=fun _ _ _ H _ I h=>Constant_none ⟨.non,H,I,rfl,h⟩
theorem BF{x j pos}:a6 X (.Constant (.str x) j pos) (qi (.str x)):=fun _ _ _ H _ I h=>Calls.Constant_str ⟨.str x,H,I.tok _,⟨_,rfl⟩,h⟩
def dM(X:aQ)(x:Str):Prop:=X.env.kindOf x=some .globalImplicit
theorem wx{E:ac1→ac4→Prop}{pins:List (ada×Obj)}{s:ac4}{σ :St}{H:ah}{x:Str}{u:ac1}{pos:Pos}{Q:ac1→ac4→Prop}(I:Inv X pins σ H s)(aO:dM X x)(hm:X.mg x=some u)(h:Q u s)(hd:(x==("__debug__" :Str))=false:=by decide):adm (adu X.prog X.w) X.A (aeq (.Name x pos) X.env) Q E s:=
 agJ I.ok.kind aO (Calls.loadGlobal_global (by rw[I.ok.glob];exact I.mod.glob.keeps I.fV) hm h) hd
theorem m9{E:ac1→ac4→Prop}{pins:List (ada×Obj)}{s:ac4}{σ :St}{H:ah}{x:Str}{u:ac1}{pos:Pos}{Q:ac1→ac4→Prop}(I:Inv X pins σ H s)(aO:dM X x)(hm:X.mg x=none)(bW:aer x=some u)(h:Q u s)(aK:x≠"__name__":=by decide)(hd:(x==("__debug__" :Str))=false:=by decide):adm (adu X.prog X.w) X.A (aeq (.Name x pos) X.env) Q E s:=by obtain⟨gC,h1,h2⟩:=I.mod.blt;exact agJ I.ok.kind aO (Calls.loadGlobal_builtin (by rw[I.ok.glob];exact I.mod.glob.keeps I.fV) hm (by rw[I.ok.blt];exact h1.keeps I.fV) ((h2 x aK).trans bW) h) hd
theorem Vw{x:Str}{v:V}{u:ac1}{pos:Pos}(aO:dM X x)(hm:X.mg x=some u)(r:RelV v u)(hd:(x==("__debug__" :Str))=false:=by decide):a6 X (.Name x pos) (qi v):=
 fun _ _ _ H _ I h=>wx I aO hm ⟨v,H,I,r,h⟩ hd
theorem Vn{x:Str}{v:V}{u:ac1}{pos:Pos}(aO:dM X x)(hm:X.mg x=none)(bW:aer x=some u)(r:RelV v u)(aK:x≠"__name__":=by decide)(hd:(x==("__debug__" :Str))=false:=by decide):a6 X (.Name x pos) (qi v):=
 fun _ _ _ H _ I h=>m9 I aO hm bW ⟨v,H,I,r,h⟩ aK hd
variable{a b:adI}{cf tb:TE}{pos:Pos}
noncomputable def u0(X:aQ)(op:ajc)(a b:adI)(t:TE):Prop:=
 ∀(pins:List (ada×Obj))(s:ac4)(σ :St)(H:ah)(Q:cX),Inv X pins σ H s→t σ H Q→
  adm (adu X.prog X.w) X.A (aeq a X.env) (fun v c6=>adm (adu X.prog X.w) X.A (aeq b X.env) (fun u ih=>adm (adu X.prog X.w) X.A (ad0 op v u) (gw X pins σ Q) X.xe ih) X.xe c6) X.xe s
theorem IQ(b:adI){op:ajc}(h:op≠.In)(h2:op≠.NotIn):adT op b=false:=by
 have aq:(op==CmpOp.In)=false:=by cases op<;>first|rfl|exact absurd rfl h
 have aD:(op==CmpOp.NotIn)=false:=by cases op<;>first|rfl|exact absurd rfl h2
 cases b<;>simp[adT,aq,aD]
def C6(t:TE):TT:=fun σ H Q=>t σ H fun x H1=>∃c,x=.aF c∧Q c H1
theorem Vp{op:ajc}{t:TE}(h:u0 X op a b t)(h1:adT op b=false:=by first|exact IQ _ (by decide) (by decide)|rfl):a6 X (.Compare a [op] [b] pos) t:=fun pins s σ H Q I hw=>wpAny_Compare1 (h pins s σ H Q I hw) h1
theorem JE{op:ajc}{t:TE}(h:u0 X op a b t)(h1:adT op b=false:=by first|exact IQ _ (by decide) (by decide)|rfl):e9 X (.Compare a [op] [b] pos) (C6 t):=by intro pins s σ H Q I hw;refine wpAny_isTrue_Compare1 (bZ (h pins s σ H _ I hw) fun v s1 h1=>bZ h1 fun u s2 h2=>bZ h2 fun c s3⟨x,H1,a0,az,aV⟩=>?_) h1;obtain⟨d,rfl,q⟩:=aV;cases az;exact adN ⟨H1,a0,q⟩
theorem Wc{e:adI}{t:TE}(h:a6 X e t)(he:∀whole,isTrue e X.env whole=(do let v ←whole;ai1 e.pos;aiC [v] (truthy v)):=by intro _;rfl):e9 X e (C6 t):=by intro pins s σ H Q I hw;refine isTrue_plain (bZ (h pins s σ H _ I hw) fun v s1⟨x,H1,a0,az,aV⟩=>?_) (he _);obtain⟨d,rfl,q⟩:=aV;cases az;exact adN ⟨H1,a0,q⟩
variable{eE xO:TT}{rest:List adI}
def KO(t u:TT):TT:=fun σ H Q=>t σ H fun c H1=>if c=true then u σ H1 Q else Q false H1
def K2(t u:TT):TT:=fun σ H Q=>t σ H fun c H1=>if c=true then Q true H1 else u σ H1 Q
def K0(t:TT):TT:=fun σ H Q=>t σ H fun c H1=>Q (!c) H1
theorem Wi(ag:e9 X a eE):iB X (.BoolOp .And [a] pos) eE:=by
 intro qp pins s σ H Q I h;refine isTrue_and (bZ (ag pins s σ H Q I h) fun c s1 e=>?_);cases c with
 |true=>exact isTrue_and_nil e
 |false=>exact e
theorem Wk(ag:e9 X a eE):iB X (.BoolOp .Or [a] pos) eE:=by
 intro qp pins s σ H Q I h;refine isTrue_or (bZ (ag pins s σ H Q I h) fun c s1 e=>?_);cases c with
 |false=>exact isTrue_or_nil e
 |true=>exact e
theorem Wh(ag:e9 X a eE)(J:iB X (.BoolOp .And (b::rest) pos) xO):iB X (.BoolOp .And (a::b::rest) pos) (KO eE xO):=by
 intro qp pins s σ H Q I h;refine isTrue_and (bZ (ag pins s σ H _ I h) fun c s1⟨H1,a0,aV⟩=>?_);cases c with
 |true=>exact J qp pins s1 σ H1 Q a0 aV
 |false=>exact⟨H1,a0,aV⟩
theorem Wj(ag:e9 X a eE)(J:iB X (.BoolOp .Or (b::rest) pos) xO):iB X (.BoolOp .Or (a::b::rest) pos) (K2 eE xO):=by
 intro qp pins s σ H Q I h;refine isTrue_or (bZ (ag pins s σ H _ I h) fun c s1⟨H1,a0,aV⟩=>?_);cases c with
 |true=>exact⟨H1,a0,aV⟩
 |false=>exact J qp pins s1 σ H1 Q a0 aV
theorem Wb(ag:e9 X a eE):e9 X (.UnaryOp .Not a pos) (K0 eE):=by intro pins s σ H Q I h;exact isTrue_not (ag pins s σ H (fun c H1=>Q (!c) H1) I h)
noncomputable def KP(cf tb:TE):TE:=fun σ H Q=>cf σ H fun x H1=>∃c,x=.aF c∧if c=true then tb σ H1 Q else Q (.aF false) H1
noncomputable def K3(cf tb:TE):TE:=fun σ H Q=>cf σ H fun x H1=>∃c,x=.aF c∧if c=true then Q (.aF true) H1 else tb σ H1 Q
def K1(cf:TE):TE:=fun σ H Q=>cf σ H fun x H1=>∃c,x=.aF c∧Q (.aF (!c)) H1
theorem VH{op}{t:TE}(h:a6 X a t):a6 X (.BoolOp op [a] pos) t:=fun pins s σ H Q I hw=>BoolOp_one (h pins s σ H Q I hw)
theorem Vl(ag:a6 X a cf)(J:a6 X (.BoolOp .And (b::rest) pos) tb):a6 X (.BoolOp .And (a::b::rest) pos) (KP cf tb):=by
 intro pins s σ H Q I h;refine BoolOp_and (bZ (ag pins s σ H _ I h) fun v s1⟨x,H1,a0,az,aV⟩=>?_);obtain⟨c,rfl,aV⟩:=aV;cases az;refine adN ?_;cases c with
 |true=>exact J pins s1 σ H1 Q a0 aV
 |false=>exact⟨.aF false,H1,a0,rfl,aV⟩
theorem VI(ag:a6 X a cf)(J:a6 X (.BoolOp .Or (b::rest) pos) tb):a6 X (.BoolOp .Or (a::b::rest) pos) (K3 cf tb):=by
 intro pins s σ H Q I h;refine BoolOp_or (bZ (ag pins s σ H _ I h) fun v s1⟨x,H1,a0,az,aV⟩=>?_);obtain⟨c,rfl,aV⟩:=aV;cases az;refine adN ?_;cases c with
 |false=>exact J pins s1 σ H1 Q a0 aV
 |true=>exact⟨.aF true,H1,a0,rfl,aV⟩
theorem VG(ag:a6 X a cf):a6 X (.UnaryOp .Not a pos) (K1 cf):=by intro pins s σ H Q I h;refine UnaryOp_ (bZ (ag pins s σ H _ I h) fun v s1⟨x,H1,a0,az,aV⟩=>?_);obtain⟨c,rfl,aV⟩:=aV;cases az;exact not_of (adN ⟨.aF (!c),H1,a0,rfl,aV⟩)
def KW(t:TT)(cf tb:TE):TE:=fun σ H Q=>t σ H fun c H1=>if c=true then cf σ H1 Q else tb σ H1 Q
theorem Vx{c:adI}(aB:e9 X c eE)(ag:a6 X a cf)(J:a6 X b tb):a6 X (.IfExp c a b pos) (KW eE cf tb):=by
 intro pins s σ H Q I h;refine wpAny_IfExp (bZ (aB pins s σ H _ I h) fun d s1⟨H1,a0,aV⟩=>?_);cases d with
 |true=>exact ag pins s1 σ H1 Q a0 aV
 |false=>exact J pins s1 σ H1 Q a0 aV
end
noncomputable def b7(K:PySem.W.Frag)(H:ah)(a:ada)(xs:List V):Prop:=
 gA H a (.lst xs)∨
  ∃(o:Obj)(its:Array ac1)(n:Nat),K.lookup a=some o∧o.cls=.type "list"∧o.dict=none∧o.data=.seq its n∧its.size≤adq∧Vals xs its.toList
noncomputable def c2(K:PySem.W.Frag)(H:ah)(a:ada)(xs:List V):Prop:=
 gA H a (.tup xs)∨
  ∃(o:Obj)(its:Array ac1)(n:Nat),K.lookup a=some o∧o.cls=.type "tuple"∧o.data=.seq its n∧its.size≤adq∧Vals xs its.toList
noncomputable def Mt:ac1→Option V
 |.none=>some .non
 |.bool b=>some (.aF b)
 |.int i _=>some (.int i)
 |.str x _=>some (.str x)
 |.bytes b _=>some (.l2 b)
 |.float b _=>some (.vF b)
 |.ref a=>some (.ref a)
 |.type n=>some (.ty n)
 |_=>none
theorem RelV.abs{x:V}{u:ac1}(r:RelV x u):Mt u=some x:=by
 cases x with
 |non=>cases r;rfl
 |aF _=>cases r;rfl
 |int _=>obtain⟨t,rfl⟩:=r;rfl
 |str _=>obtain⟨t,rfl⟩:=r;rfl
 |l2 _=>obtain⟨t,rfl⟩:=r;rfl
 |vF _=>obtain⟨t,rfl⟩:=r;rfl
 |ref _=>cases r;rfl
 |ty _=>cases r;rfl
theorem RelV.inj{x y:V}{u:ac1}(r:RelV x u)(q:RelV y u):x=y:=adh (r.abs.symm.trans q.abs)
theorem Vals.inj:∀{xs ys:List V}{us:List ac1},Vals xs us→Vals ys us→xs=ys
 |_,_,_,.nil,.nil=>rfl
 |_,_,_,.cons r t,.cons bF t'=>by rw[r.inj bF,Vals.inj t t']
section
variable{X:aQ}{pins:List (ada×Obj)}{σ :St}{H:ah}{s:ac4}{a:ada}{xs ys:List V}
theorem b7.of{K:PySem.W.Frag}(h:H a=some (.lst xs)):b7 K H a xs:=.inl (.inl h)
theorem c2.of{K:PySem.W.Frag}(h:H a=some (.tup xs)):c2 K H a xs:=.inl (.inl h)
theorem Inv.list(I:Inv X pins σ H s)(h:b7 X.K H a xs):∃its:List ac1,Vals xs its∧PlainL s.heap a its.toArray∧xs.length≤adq:=by
 rcases h with h|⟨o,its,n,aH,aB,hd,hs,bo,r⟩
 ·obtain⟨z,its,n,r,e⟩:=h.ok I.bL;exact⟨its,r,⟨_,n,e,rfl,rfl,rfl⟩,z⟩
 ·refine⟨its.toList,r,⟨o,n,I.fY a o aH,aB,hd,by simpa using hs⟩,?_⟩;have e:=r.length;simp only[aeL]at e;omega
theorem Inv.tuple(I:Inv X pins σ H s)(h:c2 X.K H a xs):∃its:List ac1,Vals xs its∧IsTup s.heap a its.toArray∧xs.length≤adq:=by
 rcases h with h|⟨o,its,n,aH,aB,hs,bo,r⟩
 ·obtain⟨z,its,r,p⟩:=h.ok I.bL;exact⟨its,r,p,z⟩
 ·refine⟨its.toList,r,⟨o,I.fY a o aH,aB,n,by simpa using hs⟩,?_⟩;have e:=r.length;simp only[aeL]at e;omega
theorem Inv.A9(I:Inv X pins σ H s)(h:b7 X.K H a xs)(h':b7 X.K H a ys):xs=ys:=by
 obtain⟨its,r,⟨o,n,e,_,_,d⟩,_⟩:=I.list h;obtain⟨its',bF,⟨bR,IH,cn,_,_,d'⟩,_⟩:=I.list h';rw[e]at cn;cases cn;rw[d]at d';injection d' with d1 _;have:its=its':=by simpa using congrArg Array.toList d1
 subst this;exact r.inj bF
theorem Inv.Dp(I:Inv X pins σ H s)(h:c2 X.K H a xs)(h':c2 X.K H a ys):xs=ys:=by
 obtain⟨its,r,⟨o,e,_,n,d⟩,_⟩:=I.tuple h;obtain⟨its',bF,⟨bR,cn,_,IH,d'⟩,_⟩:=I.tuple h';rw[e]at cn;cases cn;rw[d]at d';injection d' with d1 _;have:its=its':=by simpa using congrArg Array.toList d1
 subst this;exact r.inj bF
end
abbrev aQ.jX(X:aQ)(E:ac1→ac4→Prop):aQ:={ X with xe:=E }
abbrev aQ.hB(X:aQ):aQ:=X.jX fun _ _=>False
theorem aQ.Ok.jX{X:aQ}(ok:X.Ok)(E:ac1→ac4→Prop):(X.jX E).Ok:=
 ⟨ok.mod,ok.kind,ok.glob,ok.blt,ok.above,ok.inj,ok.has,ok.sE,ok.hd,ok.frames,ok.xI,ok.Fu,ok.bs,ok.nZ,ok.p8,ok.vD,ok.jc,ok.pE⟩
theorem aQ.Ok.jr{X:aQ}{E:ac1→ac4→Prop}(ok:(X.jX E).Ok):X.Ok:=
 ⟨ok.mod,ok.kind,ok.glob,ok.blt,ok.above,ok.inj,ok.has,ok.sE,ok.hd,ok.frames,ok.xI,ok.Fu,ok.bs,ok.nZ,ok.p8,ok.vD,ok.jc,ok.pE⟩
section
variable{X:aQ}{pins:List (ada×Obj)}{σ :St}{H:ah}{s:ac4}{E:ac1→ac4→Prop}
theorem Inv.jX(I:Inv X pins σ H s)(E:ac1→ac4→Prop):Inv (X.jX E) pins σ H s:=⟨I.ok.jX E,I.os,I.bare,I.base,I.loc,I.cell,I.free,I.l3,I.pin,I.bL,I.len⟩
theorem Inv.jr(I:Inv (X.jX E) pins σ H s):Inv X pins σ H s:=⟨I.ok.jr,I.os,I.bare,I.base,I.loc,I.cell,I.free,I.l3,I.pin,I.bL,I.len⟩
theorem o9.jr{D:Ends}{f:Flow}{s':ac4}(h:o9 (X.jX E) pins D f s'):o9 X pins D f s':=by
 cases f with
 |next=>obtain⟨σ',H',I,q⟩:=h;exact⟨σ',H',I.jr,q⟩
 |brk=>obtain⟨σ',H',I,q⟩:=h;exact⟨σ',H',I.jr,q⟩
 |cont=>obtain⟨σ',H',I,q⟩:=h;exact⟨σ',H',I.jr,q⟩
 |ret u=>obtain⟨v,σ',H',I,r,q⟩:=h;exact⟨v,σ',H',I.jr,r,q⟩
theorem f_.hB{st:List aep}{t:e1}(h:f_ X.hB st t):f_ X st t:=fun pins s σ H D I hw=>
 ad9 (h pins s σ H D (I.jX _) hw) (fun _ _ q=>q.jr) fun _ _ z=>aeI z
end
section
variable{X:aQ}{st:aep}{rest:List aep}{t u:e1}{e:adI}{d_:TE}{pos:Pos}
def Dc:e1:=fun D σ H=>D.bO σ H
def De(t u:e1):e1:=fun D σ H=>t { D with bO:=u D } σ H
theorem JC:f_ X [] Dc:=fun _ _ σ H _ I h=>agw ⟨σ,H,I,h⟩
theorem JB(h1:dG X st t)(h2:f_ X rest u):f_ X (st::rest) (De t u):=by
 intro pins s σ H D I h;refine wpAny_execs_cons (bZ (h1 pins s σ H { D with bO:=u D } I h) fun f s1 q=>?_);cases f with
 |next=>obtain⟨σ',H',lU,q⟩:=q;exact h2 pins s1 σ' H' D lU q
 |ret v=>exact q
 |brk=>exact q
 |cont=>exact q
theorem BJ(h1:dG X st t):f_ X [st] t:=by
 intro pins s σ H D I h;refine wpAny_execs_cons (bZ (h1 pins s σ H D I h) fun f s1 q=>?_);cases f with
 |next=>exact agw q
 |ret v=>exact q
 |brk=>exact q
 |cont=>exact q
theorem Inv.quiet{pins:List (ada×Obj)}{σ :St}{H:ah}{s:ac4}(I:Inv X pins σ H s):interactive X.env=false:=by simp[interactive,I.ok.kind]
def C9(d_:TE):e1:=fun D σ H=>d_ σ H fun _ H1=>D.bO σ H1
theorem xi(he:a6 X e d_)(hs:afB e none pos.line X.env=pure false:=by rfl):dG X (.Expr e pos) (C9 d_):=by intro pins s σ H D I h;exact wpAny_Expr_any (bZ (he pins s σ H _ I h) fun v s1⟨x,H1,a0,az,aV⟩=>⟨σ,H1,a0,aV⟩) I.quiet hs
def xU(d_:TE):e1:=fun D σ H=>d_ σ H D.dJ
theorem xj(he:a6 X e d_):dG X (.Return (some e) pos) (xU d_):=by intro pins s σ H D I h;exact wpAny_Return_some (bZ (he pins s σ H _ I h) fun v s1⟨x,H1,a0,az,aV⟩=>⟨x,σ,H1,a0,az,aV⟩)
def C_(c:TT)(t u:e1):e1:=fun D σ H=>c σ H fun b H1=>if b=true then t D σ H1 else u D σ H1
theorem Jz{c:adI}{a b:List aep}{gr:TT}(aB:e9 X c gr)(ag:f_ X a t)(J:f_ X b u):dG X (.If c a b pos) (C_ gr t u):=by
 intro pins s σ H D I h;refine wpAny_If (bZ (aB pins s σ H _ I h) fun d s1⟨H1,a0,aV⟩=>?_);cases d with
 |true=>exact ag pins s1 σ H1 D a0 aV
 |false=>exact J pins s1 σ H1 D a0 aV
def KZ:e1:=fun _ _ _=>False
theorem JA:dG X st KZ:=fun _ _ _ _ _ _ h=>h.elim
end
abbrev iG:=V→St→ah→(St→ah→Prop)→Prop
abbrev lX:=List V→St→ah→(St→ah→Prop)→Prop
noncomputable def j3(X:aQ)(target:adI)(t:iG):Prop:=
 ∀(pins:List (ada×Obj))(s:ac4)(σ :St)(H:ah)(v:V)(u:ac1)(Q:St→ah→Prop),Inv X pins σ H s→RelV v u→t v σ H Q→
  adm (adu X.prog X.w) X.A (assign target X.env u) (fun _ s'=>∃ σ' H',Inv X pins σ' H' s'∧Q σ' H') X.xe s
noncomputable def su(X:aQ)(b3:List adI)(t:lX):Prop:=
 ∀(pins:List (ada×Obj))(s:ac4)(σ :St)(H:ah)(vs:List V)(us:List ac1)(Q:St→ah→Prop),Inv X pins σ H s→Vals vs us→t vs σ H Q→
  adm (adu X.prog X.w) X.A (assignInOrder ((afG b3 X.env).map (·.2)) us) (fun _ s'=>∃ σ' H',Inv X pins σ' H' s'∧Q σ' H') X.xe s
section
variable{X:aQ}{pos:Pos}
def jE(i:Nat):iG:=fun v σ H Q=>Q (σ.set i (some v)) H
theorem xf{i:Nat}{x:Str}(cB:X.N.Nodup)(ar:X.N[i]?=some x)(ax:Loc X.env.scope x)(hf:X.fn x=true∨X.env.scope.names.lookup x=some .local:=by first|exact .inl rfl|exact .inr rfl|assumption):j3 X (.Name x pos) (jE i):=by intro pins s σ H v u Q I r h;exact wpAny_assign_Name (Ky I cB ar ax r (fun s' lU=>⟨_,H,lU,h⟩) hf)
def vH:lX:=fun vs σ H Q=>vs=[]∧Q σ H
def sT(t:iG)(u:lX):lX:=fun vs σ H Q=>∃v r,vs=v::r∧t v σ H fun σ' H'=>u r σ' H' Q
theorem Jo:su X [] vH:=by intro pins s σ H vs us Q I r h;obtain⟨e,h⟩:=h;subst e;cases r;exact assignInOrder_nil ⟨σ,H,I,h⟩
theorem BG{e:adI}{es:List adI}{t:iG}{u:lX}(h1:j3 X e t)(h2:su X es u)(hs:(afG (e::es) X.env).map (·.2)=assign e X.env::(afG es X.env).map (·.2):=by rfl):su X (e::es) (sT t u):=by
 intro pins s σ H vs us Q I r h;obtain⟨v,x3,aq,h⟩:=h;subst aq;cases r with
 |cons r lD=>rw[hs];refine assignInOrder_cons (bZ (h1 pins s σ H _ _ _ I r h) fun _ s1⟨σ1,H1,a0,aV⟩=>?_);exact h2 pins s1 σ1 H1 _ _ Q a0 lD aV
noncomputable def vI(K:PySem.W.Frag)(n:Nat)(t:lX):iG:=fun v σ H Q=>∃a xs,v=.ref a∧c2 K H a xs∧xs.length=n∧t xs σ H Q
theorem Jn{es:List adI}{k:Nat}{t:lX}{n:Nat}(aB:X.calm=true)(h:su X es t)(aK:(afG es X.env).length=n:=by rfl)(gn:(afG es X.env).findIdx? (·.1)=none:=by rfl):j3 X (.Tuple es k pos) (vI X.K n t):=by intro pins s σ H v u Q I r hw;obtain⟨a,xs,aq,aR,ai,hw⟩:=hw;subst aq;cases r;obtain⟨its,cg,bT,bo⟩:=I.tuple aR;refine assign_Tuple_tuple (I.ok.hd aB) bT (by simp[aK,←ai,cg.length]) gn fun h' ax=>?_;have a0:Inv X pins σ H { s with heap:=h' }:=I.kept (t':=s.toks) fun b o e=>ax b o (ady (ac_ e)) e;exact h pins _ σ H xs _ Q a0 (by simpa using cg) hw
def qh(d_:TE)(g:iG):e1:=fun D σ H=>d_ σ H fun x H1=>g x σ H1 D.bO
theorem ub{i:Nat}{x:Str}{e:adI}{d_:TE}{pos':Pos}(cB:X.N.Nodup)(ar:X.N[i]?=some x)(ax:Loc X.env.scope x)(he:a6 X e d_)(hs:afB e (some (.Name x pos')) pos.line X.env=pure false:=by rfl)(hf:X.fn x=true∨X.env.scope.names.lookup x=some .local:=by first|exact .inl rfl|exact .inr rfl|assumption) :
  dG X (.Assign [.Name x pos'] e pos) (qh d_ (jE i)):=by
 intro pins s σ H D I h;refine wpAny_Assign_Name (bZ (he pins s σ H _ I h) fun v s1⟨y,H1,a0,az,aV⟩=>?_) hs;exact Ky a0 cB ar ax az (fun s2 ck=>⟨_,H1,ck,aV⟩) hf
end
section
variable{X:aQ}{pos:Pos}
noncomputable def K6(c:TT)(tb:e1):e1:=fun D σ H=>∃W:Nat→St→ah→Prop,(∃m,W m σ H)∧∀m σ H,W m σ H→
 c σ H fun b H1=>if b=true then ∃N:St→ah→Prop,(∀ σ' H',N σ' H'→∃c5,c5<m∧W c5 σ' H')∧tb { D with bO:=N,c_:=N,fV:=D.bO } σ H1 else D.bO σ H1
theorem V9{c:adI}{body:List aep}{gr:TT}{tb:e1}(aS:PassesOwn (adu X.prog X.w) X.A X.env X.xe)(aB:e9 X c gr)(J:f_ X body tb):dG X (.While c body [] pos) (K6 gr tb):=by
 intro pins s σ H D I h;obtain⟨W,⟨m0,nD⟩,turn⟩:=h;refine wpAny_While (codeAny_whileLoop (fun n s'=>∃ σ' H',Inv X pins σ' H' s'∧W n σ' H') ?_ m0 ⟨σ,H,I,nD⟩);rintro n s1 ⟨σ1,H1,a0,nE⟩;refine ae2 aS (bZ (aB pins s1 σ1 H1 _ a0 (turn n σ1 H1 nE)) fun b s2⟨bk,ck,bE⟩=>?_);cases b with
 |true=>
  obtain⟨N,cB,bE⟩:=bE;rw[if_pos rfl];refine ae2 aS (bZ (J pins s2 σ1 bk _ ck bE) fun f s3 er=>?_);cases f with
  |next=>obtain⟨σ3,dy,ed,nk⟩:=er;obtain⟨c5,hm,qo⟩:=cB σ3 dy nk;exact⟨c5,hm,σ3,dy,ed,qo⟩
  |cont=>obtain⟨σ3,dy,ed,nk⟩:=er;obtain⟨c5,hm,qo⟩:=cB σ3 dy nk;exact⟨c5,hm,σ3,dy,ed,qo⟩
  |brk=>exact er
  |ret v=>exact er
 |false=>rw[if_neg adC];exact agw ⟨σ1,bk,ck,bE⟩
end
structure It where
 go:Nat→ah→Prop
 i2:Nat→ah→V→ah→Prop
 stop:Nat→ah→Prop
noncomputable def i5(X:aQ)(pins:List (ada×Obj))(H:ah)(b:ada):Prop:=
 H b=none∧b≠X.env.locals∧b∉X.aX∧(b∈X.ex∨X.fy.heap.objs.size≤b)∧(∀x c,X.env.cells.lookup x=some c→c≠b)∧∀p∈X.oD++pins,p.1≠b
theorem Inv.mW{X:aQ}{pins:List (ada×Obj)}{σ :St}{H H':ah}{s:ac4}{b:ada}(I:Inv X pins σ H s)(J:s.heap.objs.size≤b)(aK:H' b=none):i5 X pins H' b:=by
 refine⟨aK,aeU (adv I.lt J),I.Ut J,.inr (adB I.qg J),fun x c e z=>?_,fun p aS z=>?_⟩
 ·obtain⟨v,q⟩:=I.cell x c e;exact absurd (adv q.lt (by rw[z];exact J)) (adS _)
 ·exact absurd (adv (ac_ (I.pin p aS).1) (by rw[z];exact J)) (adS _)
structure Turn(P:adp)(w:adJ)(K:PySem.W.Frag)(cj:adI)(cE:It)(bc:List ada)(it:ada)(gQ:Nat→adX→Prop):Prop where
 mem:it∈bc
 obj:∀i h,gQ i h→∀b∈bc,∃o,h.get? b=some o∧∀v,o.data≠.cell v
 keep:∀i h h',gQ i h→(∀b∈bc,∀o,h.get? b=some o→h'.get? b=some o)→gQ i h'
 item:∀(X:aQ),X.prog=P→X.w=w→X.K=K→X.calm=true→∀(i:Nat)(pins:List (ada×Obj))(s:ac4)(σ :St)(H:ah)(E:ac1→ac4→Prop),Inv X pins σ H s→(∀b∈bc,i5 X pins H b)→gQ i s.heap→cE.go i H→
  adm (adu P w) X.A (ahp (.ref it)) (fun r s1=>∃u,r=some u∧
   adm (adu P w) X.A (agx cj (.ref it) u) (fun _ s2=>∃x H',Inv X pins σ H' s2∧RelV x u∧cE.i2 i H x H'∧gQ (i+1) s2.heap∧∀b∈bc,H' b=none) E s1) E s
 done:∀(X:aQ),X.prog=P→X.w=w→X.K=K→X.calm=true→∀(i:Nat)(pins:List (ada×Obj))(s:ac4)(σ :St)(H:ah)(E:ac1→ac4→Prop),Inv X pins σ H s→(∀b∈bc,i5 X pins H b)→gQ i s.heap→cE.stop i H→
  adm (adu P w) X.A (ahp (.ref it)) (fun r s1=>r=none∧Inv X pins σ H s1) E s
 self:∀(A:adG)(i:Nat)(s:ac4)(Q:ac1→ac4→Prop)(E:ac1→ac4→Prop),gQ i s.heap→Q (.ref it) s→adm (adu P w) A (pyIter (.ref it)) Q E s
abbrev TI:=St→ah→(It→ah→Prop)→Prop
noncomputable def D9(X:aQ)(pins:List (ada×Obj))(σ :St)(cj:adI)(R:It→ah→Prop)(wa:ac1)(s2:ac4):Prop:=
 ∃(it:ada)(bc:List ada)(gQ:Nat→adX→Prop)(cE:It)(H':ah),wa=.ref it∧Inv X pins σ H' s2∧Turn X.prog X.w X.K cj cE bc it gQ∧gQ 0 s2.heap∧(∀b∈bc,i5 X pins H' b)∧R cE H'
noncomputable def f9(X:aQ)(cj iter:adI)(ij:TI):Prop:=
 ∀(pins:List (ada×Obj))(s:ac4)(σ :St)(H:ah)(R:It→ah→Prop),Inv X pins σ H s→ij σ H R→
  adm (adu X.prog X.w) X.A (aeq iter X.env) (fun v s1=>adm (adu X.prog X.w) X.A (pyIter v) (D9 X pins σ cj R) X.xe s1) X.xe s
theorem vN{M:Model}{A:adG}{E:ac1→ac4→Prop}{s:ac4}{cj:adI}{it:ada}{u:ac1}{o:Obj}{n:String}{vs:Array ac1}{Q:Unit→ac4→Prop}(aE:s.heap.get? it=some o)(aB:o.cls=.type n)(hd:o.data=.fields vs)(aK:["enumerate","zip","dict_itemiterator","dict_reverseitemiterator","odict_iterator","itertools.zip_longest","itertools.pairwise"].contains n=false)(ef:Q () s):adm M A (agx cj (.ref it) u) Q E s:=by
 unfold agx
 cases cj<;>first
  |exact ac3 ef
  |(cases u<;>first
      |exact ac3 ef
      |(refine acZ (wpAny_load aE ?_)
        rw[aB,hd];show adm M A (if(["enumerate","zip","dict_itemiterator","dict_reverseitemiterator","odict_iterator","itertools.zip_longest","itertools.pairwise"].contains n&&vs[0]?==some (aiv _))=true then _ else _) Q E s;rw[if_neg (by intro h;rw[aK,aiw]at h;cases h)];exact ac3 ef))
noncomputable def yw(K:PySem.W.Frag)(a:ada):It:=
 ⟨fun i H=>∃xs x,b7 K H a xs∧xs[i]?=some x,fun i H x H'=>H'=H∧∀xs,b7 K H a xs→xs[i]?=some x,fun i H=>∃xs,b7 K H a xs∧xs.length≤i⟩
noncomputable def yy(K:PySem.W.Frag)(a:ada):It:=
 ⟨fun i H=>∃xs x,c2 K H a xs∧xs[i]?=some x,fun i H x H'=>H'=H∧∀xs,c2 K H a xs→xs[i]?=some x,fun i H=>∃xs,c2 K H a xs∧xs.length≤i⟩
def uV(lo:Int)(n:Nat):It:=⟨fun i _=>i<n,fun i H x H'=>H'=H∧x=.int (lo+i),fun i _=>n≤i⟩
theorem YH{P:adp}{w:adJ}{K:PySem.W.Frag}{cj:adI}(a it:ada):Turn P w K cj (yw K a) [it] it (fun i h=>h.IsListIter it a i) where
 mem:=by simp
 obj:=fun i h st b J=>by
  have e:b=it:=by simpa using J
  subst e;obtain⟨o,e,c,d⟩:=st;exact⟨o,e,fun v z=>by rw[d]at z;cases z⟩
 keep:=fun i h h' st k=>st.at fun o e=>k it (by simp) o e
 item:=by intro X dH hw a5 aB i pins s σ H E I hf st aO;subst dH hw a5;obtain⟨xs,x,aR,ax⟩:=aO;obtain⟨its,cg,p,bo⟩:=I.list aR;obtain⟨u,aJ,eD⟩:=cg.get ax;obtain⟨f0,f1,f2,fE,f4,hJ⟩:=hf it (by simp);refine wpAny_pyNext_list_item st p.isList (x:=u) (by simpa using aJ) fun h' lF e6=>?_;have a0:Inv X pins σ H { s with heap:=h' }:=I.turned (t':=s.toks) (fun b o J e=>(e6.2 b J).trans e) f0 f1 fE f4 hJ;obtain⟨o,e,c,d⟩:=id lF;exact⟨u,rfl,vN (s:={ s with heap:=h' }) e c d (by decide) ⟨x,H,a0,eD,⟨rfl,fun ys bq=>by rw[I.A9 bq aR];exact ax⟩,lF,fun b J=>(hf b J).1⟩⟩
 done:=by intro X dH hw a5 aB i pins s σ H E I hf st aO;subst dH hw a5;obtain⟨xs,aR,ax⟩:=aO;obtain⟨its,cg,p,bo⟩:=I.list aR;obtain⟨f0,f1,f2,fE,f4,hJ⟩:=hf it (by simp);have ai:=cg.length;exact wpAny_pyNext_list_end (I.ok.hd aB) st p.isList (by simp;omega) fun h' bj=>⟨rfl,I.turned (t':=s.toks) (fun b o J e=>bj b o J e) f0 f1 fE f4 hJ⟩
 self:=fun _ _ _ _ _ st h=>wpAny_pyIter_listiter st h
theorem YK{P:adp}{w:adJ}{K:PySem.W.Frag}{cj:adI}(a it:ada):Turn P w K cj (yy K a) [it] it (fun i h=>h.IsTupleIter it a i) where
 mem:=by simp
 obj:=fun i h st b J=>by
  have e:b=it:=by simpa using J
  subst e;obtain⟨o,e,c,d⟩:=st;exact⟨o,e,fun v z=>by rw[d]at z;cases z⟩
 keep:=fun i h h' st k=>st.at fun o e=>k it (by simp) o e
 item:=by intro X dH hw a5 aB i pins s σ H E I hf st aO;subst dH hw a5;obtain⟨xs,x,aR,ax⟩:=aO;obtain⟨its,cg,p,bo⟩:=I.tuple aR;obtain⟨u,aJ,eD⟩:=cg.get ax;obtain⟨f0,f1,f2,fE,f4,hJ⟩:=hf it (by simp);refine wpAny_pyNext_tuple_item st (show s.heap.IsTuple a its.toArray from p) (x:=u) (by simpa using aJ) fun h' lF e6=>?_;have a0:Inv X pins σ H { s with heap:=h' }:=I.turned (t':=s.toks) (fun b o J e=>(e6.2 b J).trans e) f0 f1 fE f4 hJ;obtain⟨o,e,c,d⟩:=id lF;exact⟨u,rfl,vN (s:={ s with heap:=h' }) e c d (by decide) ⟨x,H,a0,eD,⟨rfl,fun ys bq=>by rw[I.Dp bq aR];exact ax⟩,lF,fun b J=>(hf b J).1⟩⟩
 done:=by intro X dH hw a5 aB i pins s σ H E I hf st aO;subst dH hw a5;obtain⟨xs,aR,ax⟩:=aO;obtain⟨its,cg,p,bo⟩:=I.tuple aR;obtain⟨f0,f1,f2,fE,f4,hJ⟩:=hf it (by simp);have ai:=cg.length;exact wpAny_pyNext_tuple_end (I.ok.hd aB) st (show s.heap.IsTuple a its.toArray from p) (by simp;omega) fun h' bj=>⟨rfl,I.turned (t':=s.toks) (fun b o J e=>bj b o J e) f0 f1 fE f4 hJ⟩
 self:=fun _ _ _ _ _ st h=>wpAny_pyIter_tupleiter st h
theorem YI{P:adp}{w:adJ}{K:PySem.W.Frag}{cj:adI}(it:ada)(lo:Int)(n:Nat):Turn P w K cj (uV lo n) [it] it (fun i h=>IsRangeIter h it (lo+(i:Nat)*1) ((n:Int)-(i:Nat)) 1) where
 mem:=by simp
 obj:=fun i h st b J=>by
  have e:b=it:=by simpa using J
  subst e;exact⟨_,st,fun v z=>by have fA:aiD _=agy v:=z;cases fA⟩
 keep:=fun i h h' st k=>k it (by simp) _ st
 item:=by intro X dH hw a5 aB i pins s σ H E I hf st aO;subst dH hw a5;obtain⟨f0,f1,f2,fE,f4,hJ⟩:=hf it (by simp);have W:=Walks.range (prog:=X.prog) (w:=X.w) (I.ok.hd aB) it lo 1 n;refine W.item i s _ _ aO st fun v h' cb bW lF kk=>?_;obtain⟨t,rfl⟩:=bW;have a0:Inv X pins σ H { s with heap:=h',toks:=cb }:=I.turned (fun b o J e=>kk b o (by simpa using J) e) f0 f1 fE f4 hJ;refine⟨_,rfl,vN (s:={ s with heap:=h',toks:=cb }) (n:="range_iterator") lF rfl rfl (by decide) ⟨.int (lo+i),H,a0,⟨t,?_⟩,⟨rfl,rfl⟩,lF,fun b J=>(hf b J).1⟩⟩;rw[Int.mul_one]
 done:=by intro X dH hw a5 aB i pins s σ H E I hf st aO;subst dH hw a5;obtain⟨f0,f1,f2,fE,f4,hJ⟩:=hf it (by simp);exact wpAny_pyNext_range_end (I.ok.hd aB) st (by have:n≤i:=aO;omega) fun h' bj=>⟨rfl,I.turned (t':=s.toks) (fun b o J e=>bj b o J e) f0 f1 fE f4 hJ⟩
 self:=fun _ _ _ _ _ st h=>wpAny_pyIter_rangeiter st h
section
variable{X:aQ}{cj:adI}
noncomputable def Hr(K:PySem.W.Frag)(fR:TE):TI:=fun σ H R=>fR σ H fun x H1=>∃a,x=.ref a∧(∃xs,b7 K H1 a xs)∧R (yw K a) H1
noncomputable def Hu(K:PySem.W.Frag)(fR:TE):TI:=fun σ H R=>fR σ H fun x H1=>∃a,x=.ref a∧(∃xs,c2 K H1 a xs)∧R (yy K a) H1
theorem VM{l:adI}{fR:TE}(ai:a6 X l fR):f9 X cj l (Hr X.K fR):=by
 intro pins s σ H R I h;refine bZ (ai pins s σ H _ I h) fun v s1⟨x,H1,a0,az,aV⟩=>?_;obtain⟨a,e,⟨xs,aR⟩,q⟩:=aV;subst e;cases az;obtain⟨its,cg,p,bo⟩:=a0.list aR;refine ag2 p.isList ?_;refine⟨s1.heap.objs.size,[s1.heap.objs.size],_,_,H1,rfl,a0.kept (t':=s1.toks) fun b o e=>ac0 _ e,YH a _,⟨_,ac9 _ rfl,rfl,rfl⟩,fun b J=>?_,q⟩;have e:b=s1.heap.objs.size:=by simpa using J
 subst e;exact a0.mW (ac6 _) (a0.bL.fresh (ac6 _))
theorem VP{l:adI}{fR:TE}(ai:a6 X l fR):f9 X cj l (Hu X.K fR):=by
 intro pins s σ H R I h;refine bZ (ai pins s σ H _ I h) fun v s1⟨x,H1,a0,az,aV⟩=>?_;obtain⟨a,e,⟨xs,aR⟩,q⟩:=aV;subst e;cases az;obtain⟨its,cg,p,bo⟩:=a0.tuple aR;refine wpAny_pyIter_tuple (show s1.heap.IsTuple a its.toArray from p) ?_;refine⟨s1.heap.objs.size,[s1.heap.objs.size],_,_,H1,rfl,a0.kept (t':=s1.toks) fun b o e=>ac0 _ e,YK a _,⟨_,ac9 _ rfl,rfl,rfl⟩,fun b J=>?_,q⟩;have e:b=s1.heap.objs.size:=by simpa using J
 subst e;exact a0.mW (ac6 _) (a0.bL.fresh (ac6 _))
theorem Wx{pins:List (ada×Obj)}{σ :St}{H:ah}{s:ac4}{R:It→ah→Prop}{E:ac1→ac4→Prop}{lo ar:Int}{t u v:Tok}{cb:Nat}(I:Inv X pins σ H s)(h1: -(2^62)≤lo)(h2:lo<2^62)(h3: -(2^62)≤ar)(h4:ar<2^62)(q:R (uV lo (ar-lo).toNat) H):adm (adu X.prog X.w) X.A (pyIter (.ref s.heap.objs.size)) (D9 X pins σ cj R) E { s with heap:=s.heap.push { cls:=.type "range",data:=.fields #[.int lo t,.int ar u,.int 1 v] },toks:=cb }:=by
 refine wpAny_pyIter_range (IsRange.new ..) (small_one h1 h2 h3 h4) ?_;have a0:Inv X pins σ H { s with heap:=s.heap.push { cls:=.type "range",data:=.fields #[.int lo t,.int ar u,.int 1 v] },toks:=cb }:=I.kept fun b o e=>ac0 _ e
 refine⟨(s.heap.push { cls:=.type "range",data:=.fields #[.int lo t,.int ar u,.int 1 v] }).objs.size,[(s.heap.push { cls:=.type "range",data:=.fields #[.int lo t,.int ar u,.int 1 v] }).objs.size],_,_,H,rfl,
  a0.kept (t':=cb) fun b o e=>ac0 _ e,YI _ lo (ar-lo).toNat,?_,fun b J=>?_,q⟩
 ·have aq:lo+((0:Nat):Int)*1=lo:=by simp
  have aD:(((ar-lo).toNat:Nat):Int)-((0:Nat):Int)=afO lo ar 1:=by rw[rangeSize_one];split<;>omega
  show IsRangeIter _ _ (lo+((0:Nat):Int)*1) ((((ar-lo).toNat:Nat):Int)-((0:Nat):Int)) 1;rw[aq,aD];exact ac9 _ rfl
 ·have e:b=(s.heap.push { cls:=.type "range",data:=.fields #[.int lo t,.int ar u,.int 1 v] }).objs.size:=by simpa using J
  subst e;exact a0.mW (ac6 _) (a0.bL.fresh (ac6 _))
noncomputable def Hs(cf:eL):TI:=fun σ H R=>cf σ H fun vs H1=>∃j:Int,vs=[.int j]∧-(2^62)≤j∧j<2^62∧R (uV 0 j.toNat) H1
theorem VN{a:adI}{cf:eL}{p pos:Pos}(aO:dM X "range")(hm:X.mg "range"=none)(ag:fk X [a] cf)(hs:ac5 [a] X.env=[(false,aeq a X.env)]:=by rfl):f9 X cj (.Call (.Name "range" p) [a] [] pos) (Hs cf):=by
 intro pins s σ H R I h;refine Call_ (m9 I aO hm boot_range (adP (bZ (ag pos pins s σ H _ I h) fun us s1⟨vs,H1,a0,az,aV⟩=>?_) hs rfl));obtain⟨j,e,aV,bE,q⟩:=aV;subst e;cases az with
 |cons r lD=>cases lD;obtain⟨t,rfl⟩:=r;exact call_range_1 (Wx a0 (by omega) (by omega) aV bE (by simpa using q))
noncomputable def KV(ij:TI)(g:iG)(tb:e1):e1:=fun D σ H=>ij σ H fun cE H1=>∃W:Nat→Nat→St→ah→Prop,(∃m,W 0 m σ H1)∧∀i m σ H,W i m σ H→
 (cE.stop i H∧D.bO σ H)∨(cE.go i H∧∃N:St→ah→Prop,(∀ σ' H',N σ' H'→∃c5,c5<m∧W (i+1) c5 σ' H')∧∀x H',cE.i2 i H x H'→g x σ H' fun σ2 bk=>tb { D with bO:=N,c_:=N,fV:=D.bO } σ2 bk)
def ua(bc:List ada)(h:adX):List (ada×Obj):=bc.filterMap fun b=>(h.get? b).map fun o=>(b,o)
theorem wW{bc:List ada}{h:adX}{b:ada}{o:Obj}(J:b∈bc)(e:h.get? b=some o):(b,o)∈ua bc h:=List.mem_filterMap.mpr ⟨b,J,by rw[e];rfl⟩
theorem UH{bc:List ada}{h:adX}{p:ada×Obj}(aS:p∈ua bc h):p.1∈bc∧h.get? p.1=some p.2:=by
 obtain⟨b,J,e⟩:=List.mem_filterMap.mp aS;cases q:h.get? b with
 |none=>rw[q]at e;cases e
 |some o=>rw[q]at e;have cn:(b,o)=p:=adh e;subst cn;exact⟨J,q⟩
theorem Inv.pinned{pins:List (ada×Obj)}{σ :St}{H:ah}{s:ac4}{bc:List ada}(I:Inv X pins σ H s)(hf:∀b∈bc,i5 X pins H b)(aE:∀b∈bc,∃o,s.heap.get? b=some o∧∀v,o.data≠.cell v):Inv X (pins++ua bc s.heap) σ H s:=
 I.Jr fun p aS=>(List.mem_append.mp aS).elim (fun z=>I.pin p (adA _ z)) fun z=>by obtain⟨J,e⟩:=UH z;obtain⟨f0,f1,f2,_⟩:=hf p.1 J;obtain⟨o,cn,d⟩:=aE p.1 J;rw[e]at cn;cases cn;exact⟨e,f0,f1,f2,d⟩
theorem Inv.xZ{pins pl:List (ada×Obj)}{σ :St}{H:ah}{s:ac4}(I:Inv X (pins++pl) σ H s):Inv X pins σ H s:=I.Jr fun p aS=>I.pin p (adA _ (ad8 _ aS))
theorem V7{iter:adI}{body:List aep}{ij:TI}{g:iG}{tb:e1}{pos:Pos}(aS:PassesOwn (adu X.prog X.w) X.A X.env X.xe)(aB:X.calm=true)(ar:f9 X cj iter ij)(aO:j3 X cj g)(J:f_ X body tb)(hs:∀x,ad6 iter X.env x=pure x:=by intro _;rfl):dG X (.For cj iter body [] pos) (KV ij g tb):=by
 intro pins s σ H D I h;refine wpAny_For (bZ (ar pins s σ H _ I h) fun v s1 h1=>bZ h1 fun wa s2 h2=>?_) hs;obtain⟨it,bc,gQ,cE,bk,e,ck,T,kz,f2,W,⟨m0,nD⟩,turn⟩:=h2;subst e;have stat:∀{H':ah},(∀b∈bc,H' b=none)→∀b∈bc,i5 X pins H' b:=fun aK b J=>⟨aK b J,(f2 b J).2⟩;refine codeAny_forLoop_any (fun n s'=>∃i σ' H',Inv X pins σ' H' s'∧gQ i s'.heap∧(∀b∈bc,H' b=none)∧W i n σ' H') ?_ m0 ⟨0,σ,bk,ck,kz,fun b J=>(f2 b J).1,nD⟩;rintro n s3 ⟨i,σ3,dy,ed,Kv,GC,qo⟩;rcases turn i n σ3 dy qo with⟨stop,qn⟩|⟨go,N,cB,step⟩
 ·refine ae2 aS (bZ (T.done X rfl rfl rfl aB i pins s3 σ3 dy X.xe ed (stat GC) Kv stop) fun r s4⟨au,j1⟩=>?_);subst au;exact agw ⟨σ3,dy,j1,qn⟩
 ·refine ae2 aS (bZ (T.item X rfl rfl rfl aB i pins s3 σ3 dy X.xe ed (stat GC) Kv go) fun r s4⟨u,au,h4⟩=>?_);subst au;refine ae2 aS (bZ h4 fun _ s5⟨x,ix,qD,oE,mC,rW,vG⟩=>?_);have Mg:=qD.pinned (stat vG) (T.obj _ _ rW);refine ae2 aS (bZ (aO _ s5 σ3 ix x u _ Mg oE (step x ix mC)) fun _ dk⟨σ6,qC,sh,ku⟩=>?_);refine ae2 aS (bZ (J _ dk σ6 qC _ sh ku) fun f cR ie=>?_);have again:∀{σ7:St}{gy:ah},Inv X (pins++ua bc s5.heap) σ7 gy cR→N σ7 gy→∃m,m<n∧∃i σ' H',Inv X pins σ' H' cR∧gQ i cR.heap∧(∀b∈bc,H' b=none)∧W i m σ' H':=fun{σ7 gy} jw tW=>by
   obtain⟨c5,hm,Y8⟩:=cB σ7 gy tW;refine⟨c5,hm,i+1,σ7,gy,jw.xZ,T.keep _ _ _ rW fun b J o e=>(jw.pin (b,o) (adA _ (adA _ (wW J e)))).1,fun b J=>?_,Y8⟩;obtain⟨o,e,d⟩:=T.obj _ _ rW b J;exact(jw.pin (b,o) (adA _ (adA _ (wW J e)))).2.1
  cases f with
  |next=>obtain⟨σ7,gy,jw,tW⟩:=ie;exact again jw tW
  |cont=>obtain⟨σ7,gy,jw,tW⟩:=ie;exact again jw tW
  |brk=>obtain⟨σ7,gy,jw,ie⟩:=ie;exact⟨σ7,gy,jw.xZ,ie⟩
  |ret v=>obtain⟨r2,σ7,gy,jw,hp,ie⟩:=ie;exact⟨r2,σ7,gy,jw.xZ,hp,ie⟩
end
abbrev e_:=V→V→ah→cX→Prop
noncomputable def ee(X:aQ)(f:ac1→ac1→Sem ac1)(r:e_):Prop:=
 ∀(pins:List (ada×Obj))(s:ac4)(σ :St)(H:ah)(x y:V)(v u:ac1)(Q:cX),Inv X pins σ H s→RelV x v→RelV y u→r x y H Q→
  adm (adu X.prog X.w) X.A (f v u) (gw X pins σ Q) X.xe s
noncomputable def gT(X:aQ)(f:ac1)(r:List V→ah→cX→Prop):Prop:=
 ∀(pins:List (ada×Obj))(s:ac4)(σ :St)(H:ah)(xs:List V)(us:List ac1)(Q:cX),Inv X pins σ H s→Vals xs us→r xs H Q→
  adm (adu X.prog X.w) X.A (call f us) (gw X pins σ Q) X.xe s
noncomputable def Mq(X:aQ)(r:V→ah→(Bool→ah→Prop)→Prop):Prop:=
 ∀(pins:List (ada×Obj))(s:ac4)(σ :St)(H:ah)(x:V)(v:ac1)(Q:Bool→ah→Prop),Inv X pins σ H s→RelV x v→r x H Q→
  adm (adu X.prog X.w) X.A (truthy v) (u2 X pins σ Q) X.xe s
def uu(r:e_)(cf tb:TE):TE:=fun σ H Q=>cf σ H fun x H1=>tb σ H1 fun y bk=>r x y bk Q
def rQ(C:Int→Int→Prop)(g:Int→Int→V):e_:=fun x y H Q=>∃i j,x=.int i∧y=.int j∧C i j∧Q (g i j) H
def lC(g:Int→Int→V):e_:=fun x y H Q=>∃i j,x=.int i∧y=.int j∧Q (g i j) H
section
variable{X:aQ}{a b c:adI}{cf tb gr:TE}{pos:Pos}
theorem zD(ag:a6 X a cf)(J:a6 X b tb){pins:List (ada×Obj)}{s:ac4}{σ :St}{H:ah}{R:V→V→ah→Prop}(I:Inv X pins σ H s)(h:cf σ H fun x H1=>tb σ H1 fun y bk=>R x y bk){Q:ac1→ac4→Prop}{f:ac1→ac1→Sem ac1}(hf:∀v u s2 x y bk,Inv X pins σ bk s2→RelV x v→RelV y u→R x y bk→adm (adu X.prog X.w) X.A (f v u) Q X.xe s2) :
  adm (adu X.prog X.w) X.A (aeq a X.env) (fun v c6=>adm (adu X.prog X.w) X.A (aeq b X.env) (fun u ih=>adm (adu X.prog X.w) X.A (f v u) Q X.xe ih) X.xe c6) X.xe s:=by
 refine bZ (ag pins s σ H _ I h) fun v s1⟨x,H1,a0,az,aV⟩=>?_;refine bZ (J pins s1 σ H1 _ a0 aV) fun u s2⟨y,bk,ck,bg,bE⟩=>?_;exact hf v u s2 x y bk ck az bg bE
theorem xd{op:Operator}{r:e_}(aE:ee X (agp op) r)(ag:a6 X a cf)(J:a6 X b tb):a6 X (.BinOp a op b pos) (uu r cf tb):=by intro pins s σ H Q I h;exact wpAny_BinOp (zD ag J I h fun v u s2 x y bk ck bH cp q=>aE pins s2 σ bk x y v u Q ck bH cp q)
theorem w6{f:ac1→ac1→Sem ac1}{C:Int→Int→Prop}{g:Int→Int→Int}(rule:∀(i j:Int)(t u:Tok)(s:ac4)(Q:ac1→ac4→Prop)(E:ac1→ac4→Prop),C i j→Q (.int (g i j) s.toks) { s with toks:=s.toks+1 }→adm (adu X.prog X.w) X.A (f (.int i t) (.int j u)) Q E s) :
  ee X f (rQ C fun i j=>.int (g i j)):=by
 intro pins s σ H x y v u Q I bH cp h;obtain⟨i,j,rfl,rfl,aB,q⟩:=h;obtain⟨t,rfl⟩:=bH;obtain⟨t',rfl⟩:=cp;exact rule i j t t' s _ _ aB ⟨.int (g i j),H,I.tok _,⟨_,rfl⟩,q⟩
theorem I5{f:ac1→ac1→Sem ac1}{g:Int→Int→Int}(rule:∀(i j:Int)(t u:Tok)(s:ac4)(Q:ac1→ac4→Prop)(E:ac1→ac4→Prop),Q (.int (g i j) s.toks) { s with toks:=s.toks+1 }→adm (adu X.prog X.w) X.A (f (.int i t) (.int j u)) Q E s) :
  ee X f (lC fun i j=>.int (g i j)):=by
 intro pins s σ H x y v u Q I bH cp h;obtain⟨i,j,rfl,rfl,q⟩:=h;obtain⟨t,rfl⟩:=bH;obtain⟨t',rfl⟩:=cp;exact rule i j t t' s _ _ ⟨.int (g i j),H,I.tok _,⟨_,rfl⟩,q⟩
theorem BA{f:ac1→ac1→Sem ac1}{g:Int→Int→Bool}(rule:∀(i j:Int)(t u:Tok)(s:ac4)(Q:ac1→ac4→Prop)(E:ac1→ac4→Prop),Q (.bool (g i j)) s→adm (adu X.prog X.w) X.A (f (.int i t) (.int j u)) Q E s) :
  ee X f (lC fun i j=>.aF (g i j)):=by
 intro pins s σ H x y v u Q I bH cp h;obtain⟨i,j,rfl,rfl,q⟩:=h;obtain⟨t,rfl⟩:=bH;obtain⟨t',rfl⟩:=cp;exact rule i j t t' s _ _ ⟨.aF (g i j),H,I,rfl,q⟩
def uP(i j:Int):Prop:=0<j∧j<1073741824
def sb(i j:Int):Prop:=0≤j∧j≤1000000∧i.natAbs<2^64
def qA(i j:Int):Prop:=(-(2^64)<i∧i<2^64)∨(-(2^64)<j∧j<2^64)
theorem qA.ok{i j:Int}(h:qA i j):IntMulOk i j:=by
 rcases h with⟨h1,h2⟩|⟨h1,h2⟩
 ·exact .of_left (intBits_le_64 h1 h2)
 ·exact .of_right (intBits_le_64 h1 h2)
theorem UX:ee X (agp .Add) (lC fun i j=>.int (i+j)):=I5 fun _ _ _ _ _ _ _ q=>add_int q
theorem U5:ee X (agp .Sub) (lC fun i j=>.int (i-j)):=I5 fun _ _ _ _ _ _ _ q=>sub_int q
theorem U1:ee X (agp .Mult) (rQ qA fun i j=>.int (i*j)):=w6 fun _ _ _ _ _ _ _ aB q=>mul_int q aB.ok
theorem UZ:ee X (agp .FloorDiv) (rQ uP fun i j=>.int (i/j)):=w6 fun i j _ _ _ _ _ aB q=>by have h1:(0:Int)<j:=aB.1;have h2:j<1073741824:=aB.2;exact floordiv_int (by omega) (by rw[Int.fdiv_eq_ediv_of_nonneg i (by omega)];exact q) (.inl (PyProof.noPylong_small (by omega)))
theorem U0:ee X (agp .Mod) (rQ (fun _ j=>0<j) fun i j=>.int (i%j)):=w6 fun i j _ _ _ _ _ aB q=>by have h1:(0:Int)<j:=aB;exact mod_int' (by omega) (by rw[Int.fmod_eq_emod_of_nonneg i (by omega)];exact q)
theorem U4:ee X (agp .Pow) (rQ sb fun i j=>.int (i^j.toNat)):=w6 fun _ _ _ _ _ _ _ aB q=>pow_int_small aB.1 aB.2.1 aB.2.2 q
end
noncomputable def J7:V→V→Bool
 |.non,.non=>true|.non,.int _=>true|.int _,.non=>true|.non,.aF _=>true|.aF _,.non=>true|.non,.str _=>true|.str _,.non=>true
 |.int _,.int _=>true|.aF _,.aF _=>true|.str _,.str _=>true|.l2 _,.l2 _=>true
 |.int _,.str _=>true|.str _,.int _=>true|.aF _,.str _=>true|.str _,.aF _=>true
 |_,_=>false
section
variable{X:aQ}{a b c:adI}{cf tb gr:TE}{pos:Pos}
theorem Gv{pins:List (ada×Obj)}{σ :St}{H:ah}{s:ac4}{Q:cX}{k k':Bool}(I:Inv X pins σ H s)(q:Q (.aF k) H)(e:k=k'):gw X pins σ Q (.bool k') s:=by subst e;exact⟨.aF k,H,I,rfl,q⟩
theorem I_:ee X (ad0 .Lt) (lC fun i j=>.aF (decide (i<j))):=BA fun _ _ _ _ _ _ _ q=>lt_int q
theorem t9:ee X (ad0 .LtE) (lC fun i j=>.aF (decide (i≤j))):=BA fun _ _ _ _ _ _ _ q=>le_int q
theorem I7:ee X (ad0 .Gt) (lC fun i j=>.aF (decide (j<i))):=BA fun _ _ _ _ _ _ _ q=>gt_int q
theorem I9:ee X (ad0 .Is) (fun x y H Q=>y=.non∧Q (.aF (decide (x=.non))) H):=by
 intro pins s σ H x y v u Q I bH cp h;obtain⟨rfl,q⟩:=h;cases cp;refine is_none_gen (Gv I q ?_)
 cases x<;>first
  |(cases bH;rfl)
  |(obtain⟨t,rfl⟩:=bH;rfl)
theorem U3:ee X (ad0 .IsNot) (fun x y H Q=>y=.non∧Q (.aF (!decide (x=.non))) H):=by
 intro pins s σ H x y v u Q I bH cp h;obtain⟨rfl,q⟩:=h;cases cp;refine isnot_none_gen (Gv I q ?_)
 cases x<;>first
  |(cases bH;rfl)
  |(obtain⟨t,rfl⟩:=bH;rfl)
theorem ee.or{f:ac1→ac1→Sem ac1}{r bF:e_}(h:ee X f r)(h':ee X f bF):ee X f (fun x y H Q=>r x y H Q∨bF x y H Q):=by
 intro pins s σ H x y v u Q I bH cp q;rcases q with q|q
 ·exact h pins s σ H x y v u Q I bH cp q
 ·exact h' pins s σ H x y v u Q I bH cp q
theorem mq(b:adI){op:ajc}(h:op≠.In:=by decide)(h2:op≠.NotIn:=by decide):adT op b=false:=by
 have aq:(op==CmpOp.In)=false:=by cases op<;>first|rfl|exact absurd rfl h
 have aD:(op==CmpOp.NotIn)=false:=by cases op<;>first|rfl|exact absurd rfl h2
 cases b<;>simp[adT,aq,aD]
theorem Vq{op:ajc}{r:e_}(aE:ee X (ad0 op) r)(ag:a6 X a cf)(J:a6 X b tb)(hm:adT op b=false):a6 X (.Compare a [op] [b] pos) (uu r cf tb):=by intro pins s σ H Q I h;exact wpAny_Compare1 (zD ag J I h fun v u s2 x y bk ck bH cp q=>aE pins s2 σ bk x y v u Q ck bH cp q) hm
def Df(t:TE):TT:=fun σ H Q=>t σ H fun x H'=>∃k,x=.aF k∧Q k H'
theorem Wa{op:ajc}{r:e_}(aE:ee X (ad0 op) r)(ag:a6 X a cf)(J:a6 X b tb)(hm:adT op b=false):e9 X (.Compare a [op] [b] pos) (Df (uu r cf tb)):=by
 intro pins s σ H Q I h;refine wpAny_isTrue_Compare1 (bZ (ag pins s σ H _ I h) fun v s1⟨x,H1,a0,az,aV⟩=>bZ (J pins s1 σ H1 _ a0 aV) fun u s2⟨y,bk,ck,bg,bE⟩=>
  bZ (aE pins s2 σ bk x y v u _ ck az bg bE) fun c s3⟨z,dy,ed,d9,k,e,er⟩=>?_) hm
 subst e;cases d9;exact adN ⟨dy,ed,er⟩
noncomputable def C7(r bF:e_)(cf tb gr:TE):TE:=fun σ H Q=>cf σ H fun x H1=>tb σ H1 fun y bk=>r x y bk fun z dy=>∃k,z=.aF k∧
 (if k=true then gr σ dy fun eQ gV=>bF y eQ gV Q else Q (.aF false) dy)
theorem Vo{op iY:ajc}{r bF:e_}(aE:ee X (ad0 op) r)(eo:ee X (ad0 iY) bF)(ag:a6 X a cf)(J:a6 X b tb)(aB:a6 X c gr)(hm:lastMarks [op,iY] [b,c]=false:=by with_unfolding_all rfl):a6 X (.Compare a [op,iY] [b,c] pos) (C7 r bF cf tb gr):=by
 intro pins s σ H Q I h;refine Compare_chain (bZ (ag pins s σ H _ I h) fun v s1⟨x,H1,a0,az,aV⟩=>chain_link (bZ (J pins s1 σ H1 _ a0 aV) fun u s2⟨y,bk,ck,bg,bE⟩=>
  bZ (aE pins s2 σ bk x y v u _ ck az bg bE) fun d s3⟨z,dy,ed,d9,k,e,er⟩=>?_)) hm
 subst e;cases d9;refine adN ?_;cases k with
 |false=>exact ite_ff ⟨.aF false,dy,ed,rfl,er⟩
 |true=>exact ite_tt (chain_last (bZ (aB pins s3 σ dy _ ed er) fun eQ s4⟨fA,gV,j1,mu,lB⟩=>eo pins s4 σ gV y fA u eQ Q j1 bg mu lB))
theorem V_{op iY:ajc}{r bF:e_}(aE:ee X (ad0 op) r)(eo:ee X (ad0 iY) bF)(ag:a6 X a cf)(J:a6 X b tb)(aB:a6 X c gr)(hm:lastMarks [op,iY] [b,c]=false:=by with_unfolding_all rfl):e9 X (.Compare a [op,iY] [b,c] pos) (Df (C7 r bF cf tb gr)):=by
 intro pins s σ H Q I h;refine isTrue_chain (bZ (ag pins s σ H _ I h) fun v s1⟨x,H1,a0,az,aV⟩=>test_link (bZ (J pins s1 σ H1 _ a0 aV) fun u s2⟨y,bk,ck,bg,bE⟩=>
  bZ (aE pins s2 σ bk x y v u _ ck az bg bE) fun d s3⟨z,dy,ed,d9,k,e,er⟩=>?_)) hm
 subst e;cases d9;refine adN ?_;cases k with
 |false=>obtain⟨k',cn,dU⟩:=er;cases cn;exact ite_ff ⟨dy,ed,dU⟩
 |true=>refine ite_tt (test_last (bZ (aB pins s3 σ dy _ ed er) fun eQ s4⟨fA,gV,j1,mu,lB⟩=>bZ (eo pins s4 σ gV y fA u eQ _ j1 bg mu lB) fun d' s5⟨a9,ix,qD,oE,k2,aD,qb⟩=>?_));subst aD;cases oE;exact adN ⟨ix,qD,qb⟩
noncomputable def Mr(K:PySem.W.Frag)(x:V)(H:ah)(k:Bool):Prop:=
 match x with
 |.non=>k=false
 |.aF b=>k=b
 |.int i=>k=(i !=0)
 |.str y=>y.length≤adq∧k=((y.length:Int) !=0)
 |.l2 y=>y.size≤adq∧k=((y.size:Int) !=0)
 |.ref p=>(∃xs,b7 K H p xs∧k=!xs.isEmpty)∨(∃xs,c2 K H p xs∧k=!xs.isEmpty)∨∃aZ,H p=some (.dA aZ)∧k=!aZ.isEmpty
 |_=>False
theorem RE{κ:Type}{aZ:List (κ×V)}{vs:List (κ×ac1)}(r:gH aZ vs):(!vs.isEmpty)=!aZ.isEmpty:=by cases r<;>rfl
theorem HK{xs:List V}{its:List ac1}(r:Vals xs its):(!its.toArray.isEmpty)=!xs.isEmpty:=by cases r<;>simp
theorem ts:(adq:Nat)<2^63:=by rw[aeY];decide
theorem abL:Mq X (fun x H Q=>∃k,Mr X.K x H k∧Q k H):=by
 intro pins s σ H x v Q I bH h;obtain⟨k,e,q⟩:=h;have ai:=ts;have hs:adq=16777216:=aeY;cases x with
 |non=>cases bH;have cn:k=false:=e;subst cn;exact truthy_none ⟨H,I,q⟩
 |aF b=>cases bH;have cn:k=b:=e;subst cn;exact adN ⟨H,I,q⟩
 |int i=>obtain⟨t,rfl⟩:=bH;have cn:k=(i !=0):=e;subst cn;exact PySem.P.truthy_int ⟨H,I,q⟩
 |str y=>obtain⟨t,rfl⟩:=bH;obtain⟨bq,cn⟩:y.length≤adq∧k=((y.length:Int) !=0):=e;subst cn;exact PySem.P.truthy_str (by omega) ⟨H,I.tok _,q⟩
 |l2 y=>obtain⟨t,rfl⟩:=bH;obtain⟨bq,cn⟩:y.size≤adq∧k=((y.size:Int) !=0):=e;subst cn;exact PySem.W.truthy_bytes (by omega) ⟨H,I.tok _,q⟩
 |ref p=>
  cases bH;have cn:(∃xs,b7 X.K H p xs∧k=!xs.isEmpty)∨(∃xs,c2 X.K H p xs∧k=!xs.isEmpty)∨∃aZ,H p=some (.dA aZ)∧k=!aZ.isEmpty:=e;rcases cn with⟨xs,ax,cn⟩|⟨xs,ax,cn⟩|⟨aZ,ax,cn⟩
  ·subst cn;obtain⟨its,r,pl,bo⟩:=I.list ax;have hlen:=r.length;exact wpAny_truthy_list pl.isList (by simp only[ac8];omega) ⟨H,I.tok _,by rw[HK r];exact q⟩
  ·subst cn;obtain⟨its,r,pl,bo⟩:=I.tuple ax;have hlen:=r.length;exact truthy_tuple pl (by simp only[ac8];omega) ⟨H,I.tok _,by rw[HK r];exact q⟩
  ·subst cn;obtain⟨bo,iN,vs,r,m⟩:aZ.length≤adq∧(p==aez)=false∧∃vs,gH aZ vs∧s.heap.DictOf (gD X.prog X.w) p vs:=I.bL p _ ax;have hlen:aZ.length=vs.length:=Paired.length r;exact wpAny_truthy_dict iN m (by omega) ⟨H,I.tok _,by rw[RE r];exact q⟩
 |_=>exact(show False from e).elim
theorem UY:ee X (agp .Add) (fun x y H Q=>∃i j,x=.str i∧y=.str j∧i.length+j.length≤adq∧Q (.str (i++j)) H):=by intro pins s σ H x y v u Q I bH cp h;obtain⟨i,j,rfl,rfl,bo,q⟩:=h;obtain⟨t,rfl⟩:=bH;obtain⟨t',rfl⟩:=cp;exact add_str (fun t' cb=>⟨.str (i++j),H,I.tok _,⟨_,rfl⟩,q⟩) bo
theorem vals1{x:V}{us:List ac1}(r:Vals [x] us):∃u,us=[u]∧RelV x u:=by
 cases r with
 |cons az bg=>cases bg;exact⟨_,rfl,az⟩
theorem vals2{x y:V}{us:List ac1}(r:Vals [x,y] us):∃u eQ,us=[u,eQ]∧RelV x u∧RelV y eQ:=by
 cases r with
 |cons az bg=>
  cases bg with
  |cons d9 mu=>cases mu;exact⟨_,_,rfl,az,d9⟩
theorem Nh(aB:X.calm=true):gT X (.builtin "max") (fun xs H Q=>∃i j,xs=[.int i,.int j]∧Q (.int (if j>i then j else i)) H):=by
 intro pins s σ H xs us Q I r h;obtain⟨i,j,rfl,q⟩:=h;obtain⟨u,eQ,rfl,⟨t,rfl⟩,⟨t',rfl⟩⟩:=vals2 r;refine max_two_ints (I.ok.hd aB) fun h' cb k=>⟨_,H,I.kept k,?_,q⟩;by_cases cz:j>i
 ·rw[if_pos cz,if_pos cz];exact⟨_,rfl⟩
 ·rw[if_neg cz,if_neg cz];exact⟨_,rfl⟩
theorem Nb:gT X (.type "int") (fun xs H Q=>(∃i,xs=[.int i]∧Q (.int i) H)∨∃k,xs=[.aF k]∧Q (.int (if k then 1 else 0)) H):=by
 intro pins s σ H xs us Q I r h;rcases h with⟨i,rfl,q⟩|⟨k,rfl,q⟩
 ·obtain⟨u,rfl,t,rfl⟩:=vals1 r;exact call_int_int ⟨.int i,H,I,⟨_,rfl⟩,q⟩
 ·obtain⟨u,rfl,az⟩:=vals1 r;cases az;exact call_int_bool ⟨.int (if k then 1 else 0),H,I.tok _,⟨_,rfl⟩,q⟩
theorem Nl:gT X (.type "str") (fun xs H Q=>∃i,xs=[.int i]∧i.natAbs.log2<1920∧Q (.str (toString i)) H):=by intro pins s σ H xs us Q I r h;obtain⟨i,rfl,bo,q⟩:=h;obtain⟨u,rfl,t,rfl⟩:=vals1 r;exact PySem.P.str_of_int bo ⟨.str _,H,I.tok _,⟨_,rfl⟩,q⟩
noncomputable def D8(K:PySem.W.Frag)(x:V)(H:ah)(n:Nat):Prop:=
 match x with
 |.str y=>y.length≤adq∧n=y.length
 |.l2 y=>y.size≤adq∧n=y.size
 |.ref p=>(∃xs,b7 K H p xs∧n=xs.length)∨∃xs,c2 K H p xs∧n=xs.length
 |_=>False
theorem Nf:gT X (.builtin "len") (fun xs H Q=>∃x n,xs=[x]∧D8 X.K x H n∧Q (.int n) H):=by
 intro pins s σ H xs us Q I r h;obtain⟨x,n,rfl,e,q⟩:=h;obtain⟨u,rfl,bH⟩:=vals1 r;have ai:=ts;have hs:adq=16777216:=aeY;cases x with
 |str y=>obtain⟨t,rfl⟩:=bH;obtain⟨bq,cn⟩:y.length≤adq∧n=y.length:=e;subst cn;exact len_str (by omega) ⟨.int _,H,I.tok _,⟨_,rfl⟩,q⟩
 |l2 y=>obtain⟨t,rfl⟩:=bH;obtain⟨bq,cn⟩:y.size≤adq∧n=y.size:=e;subst cn;exact PySem.W.len_bytes (by omega) ⟨.int _,H,I.tok _,⟨_,rfl⟩,q⟩
 |ref p=>
  cases bH;have cn:(∃xs,b7 X.K H p xs∧n=xs.length)∨∃xs,c2 X.K H p xs∧n=xs.length:=e;rcases cn with⟨xs,ax,cn⟩|⟨xs,ax,cn⟩
  ·subst cn;obtain⟨its,bF,pl,bo⟩:=I.list ax;have hlen:=bF.length;exact Calls.call_len_list pl.isList (by simp only[ac8];omega) ⟨.int xs.length,H,I.tok _,⟨_,by simp only[ac8];rw[hlen]⟩,q⟩
  ·subst cn;obtain⟨its,bF,pl,bo⟩:=I.tuple ax;have hlen:=bF.length;exact len_tuple pl (by simp only[ac8];omega) ⟨.int xs.length,H,I.tok _,⟨_,by simp only[ac8];rw[hlen]⟩,q⟩
 |_=>exact(show False from e).elim
end
structure o7(h:adX)(x a8 C:ada)(d5:Str→Option ac1):Prop where
 obj:h.get? x=some (PySem.W.instObj C a8)
 ns:h.Ns1 a8 d5
 ne:a8≠x
theorem Ti{h:adX}{a8:ada}{d5:Str→Option ac1}(n:h.Ns1 a8 d5):∃dP,h.get? a8=some dP∧∀name,PySem.W.lookIn name dP=some (d5 name):=by
 obtain⟨o,es,bN,aE,hd,aH,_,hm⟩:=n;refine⟨o,aE,fun name=>?_⟩;have e:=hm name;unfold nsFind findBy at e;rw[←Array.find?_toList]at e;unfold PySem.W.lookIn;rw[hd];dsimp only
 split
 ·rename_i y q;rw[q]at e;exact congrArg some e
 ·rename_i q;rw[q]at e;have a:es.toList.any (·.refKey)=false:=by
   rw[ag3];intro y bq;obtain⟨z,t,PM⟩:=aH y (Array.mem_toList_iff.mp bq);simp[DictEntry.refKey,PM]
  have kQ:¬es.toList.any (·.refKey)=true:=by rw[a];exact adC
  rw[if_neg kQ];exact congrArg some e
theorem o7.look{h:adX}{x a8 C:ada}{d5:Str→Option ac1}(I:o7 h x a8 C d5):∃dP,PySem.W.InstAt h x (PySem.W.instObj C a8) C (some dP)∧∀name,PySem.W.lookIn name dP=some (d5 name):=
 let⟨dP,aE,ai⟩:=Ti I.ns
 ⟨dP,⟨I.obj,rfl,rfl,aE⟩,ai⟩
section
variable{prog:adp}{w:adJ}{A:adG}{E:ac1→ac4→Prop}{s:ac4}{K:PySem.W.Frag}{x a8 C f:ada}{d5:Str→Option ac1}{name:Str}{v:ac1}
theorem get_map{expr:Bool}{Q:ac1→ac4→Prop}(X:K.In s.heap)(I:o7 s.heap x a8 C d5)(aO:PySem.W.plainGet K C name=true)(bD:PySem.W.hasDictIn K C=true)(ag:PySem.W.findIn K (.ref C) name=some none)(bW:d5 name=some v)(vX:PySem.W.handedIn v=true)(h:Q v { s with toks:=s.toks+1 }) :
  adm (adu prog w) A (getAttr (.ref x) name expr) Q E s:=by
 obtain⟨dP,cE,ai⟩:=I.look;exact PySem.W.get_value X cE (PySem.W.plainGet_of aO).1 (PySem.W.findObj_own bD ag rfl (by rw[ai,bW])) vX h
theorem O2{pl:Sem Bool}{Q:ac1×List ac1→ac4→Prop}(X:K.In s.heap)(I:o7 s.heap x a8 C d5)(aO:PySem.W.plainGet K C name=true)(hf:PySem.W.findIn K (.ref C) name=some (some (.ref f)))(bT:PySem.W.isFn K (.ref f)=true)(bW:d5 name=none)(h:Q (.ref f,[.ref x]) s) :
  adm (adu prog w) A (ag4 (.ref x) name pl) Q E s:=by
 obtain⟨dP,cE,ai⟩:=I.look;exact PySem.W.method_fn X cE (PySem.W.plainGet_of aO).1 (PySem.W.plainGet_of aO).2 hf (beq_iff_eq.mp bT) (by show(PySem.W.lookIn name dP).map (·.isSome)=some false;rw[ai,bW];rfl) h
theorem XG{ns:List Str}{Q:Unit→ac4→Prop}(X:K.In s.heap)(I:o7 s.heap x a8 C d5)(hs:PySem.W.findIn K (.ref C) "__setattr__"=some (some (.builtin "object.__setattr__")))(aS:PySem.W.plainOver K C=true)(bT:PySem.W.takerIn K C name=some none)(bD:PySem.W.hasDictIn K C=true)(hw:PySem.Within d5 ns)(hsz:ns.length≤adq)(h:∀h',o7 h' x a8 C (fun y=>if y=name then some v else d5 y)→adZ a8 s.heap h'→Q () { s with heap:=h',toks:=s.toks+2 }) :
  adm (adu prog w) A (setAttr (.ref x) name v) Q E s:=by
 obtain⟨dP,cE,ai⟩:=I.look;refine PySem.W.set_plain X cE hs (PySem.W.osa_open (s:={ s with toks:=s.toks+1 }) (r:=none) X cE aS bT fun b=>?_);obtain⟨cd,aB,fw⟩:=PySem.W.any_some bD;have ax:s.heap.get? x=some ⟨.ref C,some a8,.plain,#[]⟩:=I.obj;refine acZ (ac3 (acZ (acZ (wpAny_loadPart ax (acZ (PySem.W.Looks.here (s:={ s with toks:=s.toks+1 }) (PySem.W.looks_clsIn X aB) ?_))))));rw[fw];refine ac3 (a:=some a8) (acZ (ac3 (acZ ?_)));refine wpAny_nsSet1 (s:={ s with toks:=s.toks+1 }) I.ns fun h' vU eU=>?_;obtain⟨abi,aak,aai,P2,Pp,Pm⟩:=vU.count (PySem.Within.cons name v hw);refine acZ (wpAny_lookBehind P2 (by rw[Pp];exact pastItsLine_dict (adB Pm (by rw[adl];omega))) ?_);exact ac3 (h _ ⟨(eU.2 _ (agS I.ne)).trans I.obj,vU,I.ne⟩ eU)
theorem TJ {R:Result→ac4→Prop} {vs:List ac1} {kw:List (Str×ac1)} (X:K.In s.heap) (hm:PySem.W.makesIn K C=true)(ar:PySem.W.findIn K (.ref C) "__init__"=some (some (.ref f))) (hf:PySem.W.typeIn K (.ref f)=some (.type "function"))(h:ahd (adu prog w) (A.under (.builtin "type.__call__" ⟨.ref C::vs,kw⟩)) (.call (.ref f) ⟨.ref (s.heap.objs.size+1)::vs,kw⟩) (PySem.W.InitBack (s.heap.objs.size+1) R)
    { s with heap:=(s.heap.push PySem.W.emptyDict).push (PySem.W.instObj C s.heap.objs.size) }) :
  ahd (adu prog w) A (.call (.ref C) ⟨vs,kw⟩) R s:=by
 obtain⟨bD,g,d,t,os⟩:=s;exact PySem.W.make_core (PySem.W.makes_of X hm) (PySem.W.looks_findIn X ar) (fun self=>PySem.W.bind_fn X self hf) (.inl rfl) h
end
noncomputable def ho(f:Str)(v:V):List (Str×V)→List (Str×V)
 |[]=>[(f,v)]
 |(g,x)::r=>if g=f then(g,v)::r else(g,x)::ho f v r
theorem Ir(f g:Str)(v:V):∀aX:List (Str×V),(ho f v aX).lookup g=if g=f then some v else aX.lookup g
 |[]=>by
  show af1 g [(f,v)]=_;by_cases h:g=f
  ·have J:(g==f)=true:=beq_iff_eq.mpr h;simp only[af1,J,if_pos h]
  ·have J:(g==f)=false:=beq_eq_false_iff_ne.mpr h;simp only[af1,J,if_neg h]
 |(k,x)::r=>by
  have bQ:=Ir f g v r;rw[show ho f v ((k,x)::r)=(if k=f then(k,v)::r else(k,x)::ho f v r)from rfl];by_cases aH:k=f
  ·rw[if_pos aH];by_cases h:g=k
   ·have J:(g==k)=true:=beq_iff_eq.mpr h;simp only[af1,J,if_pos (h.trans aH)]
   ·have J:(g==k)=false:=beq_eq_false_iff_ne.mpr h;simp only[af1,J,if_neg (fun e:g=f=>h (e.trans aH.symm))]
  ·rw[if_neg aH];by_cases h:g=k
   ·have J:(g==k)=true:=beq_iff_eq.mpr h;simp only[af1,J,if_neg (fun e:g=f=>aH (h.symm.trans e))]
   ·have J:(g==k)=false:=beq_eq_false_iff_ne.mpr h;simp only[af1,J];exact bQ
theorem A3(f:Str)(v:V):∀aX:List (Str×V),f∈(ho f v aX).map (·.1)∧∀g,g∈aX.map (·.1)→g∈(ho f v aX).map (·.1)
 |[]=>⟨by simp[ho],fun g h=>by simp at h⟩
 |(k,x)::r=>by
  obtain⟨bA,bI⟩:=A3 f v r;rw[show ho f v ((k,x)::r)=(if k=f then(k,v)::r else(k,x)::ho f v r)from rfl];by_cases aH:k=f
  ·rw[if_pos aH];subst aH;exact⟨by simp,fun g h=>by simpa using h⟩
  ·rw[if_neg aH];refine⟨?_,fun g h=>?_⟩
   ·rw[adi];exact ac7 _ bA
   ·rw[adi]at h ⊢;rcases List.mem_cons.mp h with e|e
    ·exact List.mem_cons.mpr (.inl e)
    ·exact ac7 _ (bI g e)
theorem Im(f:Str)(v:V):∀aX:List (Str×V),(ho f v aX).length≤aX.length+1
 |[]=>by simp[ho]
 |(k,x)::r=>by
  have bQ:=Im f v r;rw[show ho f v ((k,x)::r)=(if k=f then(k,v)::r else(k,x)::ho f v r)from rfl];by_cases aH:k=f
  ·rw[if_pos aH,adl,adl];omega
  ·rw[if_neg aH,adl,adl];omega
theorem hx.some_of{v:V}{o:Option ac1}(r:hx (some v) o):∃u,o=some u∧RelV v u:=by
 cases o with
 |none=>exact(show False from r).elim
 |some u=>exact⟨u,rfl,r⟩
theorem hx.none_of{o:Option ac1}(r:hx none o):o=none:=by
 cases o with
 |none=>rfl
 |some u=>exact(show False from r).elim
theorem Ph{v:V}{u:ac1}(r:RelV v u):PySem.W.handedIn u=true:=by
 cases v with
 |non=>cases(show u=aeh from r);rfl
 |aF b=>cases(show u=ag1 b from r);rfl
 |int i=>obtain⟨t,e⟩:=(show ∃t,u=ajf i t from r);cases e;rfl
 |str x=>obtain⟨t,e⟩:=(show ∃t,u=ajg x t from r);cases e;rfl
 |l2 b=>obtain⟨t,e⟩:=(show ∃t,u=Value.bytes b t from r);cases e;rfl
 |vF b=>obtain⟨t,e⟩:=(show ∃t,u=Value.float b t from r);cases e;rfl
 |ref a=>cases(show u=adx a from r);rfl
 |ty n=>cases(show u=afd n from r);rfl
section
variable{P:adp}{w:adJ}{H H':ah}{h h':adX}{a C a8:ada}{aX GG:List (Str×V)}
theorem AU(bL:eb P w H h)(e:H a=some (.ins C a8 aX)):∃d5,o7 h a a8 C d5∧(∀f,hx (aX.lookup f) (d5 f))∧PySem.Within d5 (aX.map (·.1))∧aX.length≤1000∧H a8=some (.own a):=by obtain⟨d,z,ne,bf,d5,n,r,q⟩:=(show eK P w H h a (.ins C a8 aX)from bL a _ e);exact⟨d5,⟨bf,n,ne⟩,r,q,z,d⟩
end
structure i3(K:PySem.W.Frag)(C:ada):Prop where
 VK:PySem.W.plainGet K C Str.empty=true
 hd:PySem.W.hasDictIn K C=true
 po:PySem.W.plainOver K C=true
 nu:PySem.W.findIn K (.ref C) "__setattr__"=some (some (.builtin "object.__setattr__"))
theorem i3.get{K:PySem.W.Frag}{C:ada}(c:i3 K C)(f:Str):PySem.W.plainGet K C f=true:=c.VK
def o5(K:PySem.W.Frag)(C:ada)(f:Str):Prop:=PySem.W.findIn K (.ref C) f=some none
theorem o5.YD{K:PySem.W.Frag}{C:ada}{f:Str}(n:o5 K C f):PySem.W.takerIn K C f=some none:=by unfold PySem.W.takerIn;rw[show PySem.W.findIn K (.ref C) f=some none from n];rfl
structure Meth(K:PySem.W.Frag)(C:ada)(m:Str)(f:ada):Prop where
 at_:PySem.W.findIn K (.ref C) m=some (some (.ref f))
 fn:PySem.W.isFn K (.ref f)=true
 aM:PySem.W.keepIn K (.ref f)=true
section
variable{X:aQ}{pins:List (ada×Obj)}{σ :St}{H:ah}{s:ac4}{a C a8:ada}{aX:List (Str×V)}{f:Str}{v:V}{A:adG}{E:ac1→ac4→Prop}
theorem O3{b:Bool}{Q:ac1→ac4→Prop}(I:Inv X pins σ H s)(e:H a=some (.ins C a8 aX))(c:i3 X.K C)(n:o5 X.K C f)(l:aX.lookup f=some v)(h:∀u s',Inv X pins σ H s'→RelV v u→Q u s'):adm (adu X.prog X.w) A (getAttr (.ref a) f b) Q E s:=by obtain⟨d5,O,r,_,_,_⟩:=AU I.bL e;obtain⟨u,aJ,eD⟩:=hx.some_of (v:=v) (o:=d5 f) (by rw[←l];exact r f);exact get_map I.fY O (c.get f) c.hd n aJ (Ph eD) (h u _ (I.tok _) eD)
theorem Ai{m:Str}{g:ada}{pl:Sem Bool}{Q:ac1×List ac1→ac4→Prop}(I:Inv X pins σ H s)(e:H a=some (.ins C a8 aX))(c:i3 X.K C)(k:Meth X.K C m g)(l:aX.lookup m=none)(h:Q (.ref g,[.ref a]) s):adm (adu X.prog X.w) A (ag4 (.ref a) m pl) Q E s:=by obtain⟨d5,O,r,_,_,_⟩:=AU I.bL e;have aK:d5 m=none:=hx.none_of (by rw[←l];exact r m);exact O2 I.fY O (c.get m) k.at_ k.fn aK h
theorem XH{y:V}{u:ac1}{Q:Unit→ac4→Prop}(I:Inv X pins σ H s)(e:H a=some (.ins C a8 aX))(c:i3 X.K C)(n:o5 X.K C f)(ai:aX.length<1000)(cp:RelV y u)(h:∀s',Inv X pins σ (upd H a (.ins C a8 (ho f y aX))) s'→Q () s'):adm (adu X.prog X.w) A (setAttr (.ref a) f u) Q E s:=by
 obtain⟨d5,O,r,ij,_,aE⟩:=AU I.bL e;have bo:(aX.map (·.1)).length≤adq:=by rw[adE,aeY];omega
 refine XG I.fY O c.nu c.po n.YD c.hd ij bo fun h' sr e6=>h _ ?_;have hd:∃o,h'.get? a8=some o:=let⟨o,_,_,cn,_⟩:=sr.ns;⟨o,cn⟩
 refine I.write (x:=a) (e:=a8) (by rw[e];exact afp) (.inr aE) (fun b q J z=>(e6.2 b J).trans z) hd ?_;refine⟨by rw[dV O.ne];exact aE,?_,O.ne,sr.obj,_,sr.ns,fun g=>?_,fun g aO=>?_⟩
 ·have:=Im f y aX;omega
 ·show hx ((ho f y aX).lookup g) (if g=f then some u else d5 g);rw[Ir];by_cases q:g=f
  ·rw[if_pos q,if_pos q];exact cp
  ·rw[if_neg q,if_neg q];exact r g
 ·by_cases q:g=f
  ·rw[q];exact(A3 f y aX).1
  ·refine(A3 f y aX).2 g (ij g fun z=>aO ?_);show(if g=f then some u else d5 g)=none;rw[if_neg q];exact z
theorem Inv.made(I:Inv X pins σ H s):Inv X pins σ (upd (upd H s.heap.objs.size (.own (s.heap.objs.size+1))) (s.heap.objs.size+1) (.ins C s.heap.objs.size []))
  { s with heap:=(s.heap.push PySem.W.emptyDict).push (PySem.W.instObj C s.heap.objs.size) }:=by
 have aq:(s.heap.push PySem.W.emptyDict).get? s.heap.objs.size=some PySem.W.emptyDict:=ac9 s.heap rfl;have aD:((s.heap.push PySem.W.emptyDict).push (PySem.W.instObj C s.heap.objs.size)).get? (s.heap.objs.size+1)=some (PySem.W.instObj C s.heap.objs.size):=by
  have:=ac9 (s.heap.push PySem.W.emptyDict) (o:=PySem.W.instObj C s.heap.objs.size) rfl
  rwa [adK]at this
 have b4:(s.heap.push PySem.W.emptyDict).Ns s.heap.objs.size (fun _=>none):=⟨PySem.W.emptyDict,#[],_,aq,rfl,(fun e he=>absurd he (by simp)),fun _=>rfl⟩;have a0:=I.laid (a:=s.heap.objs.size) (o:=.own (s.heap.objs.size+1)) (h':=s.heap.push PySem.W.emptyDict) (t':=s.toks) (fun b u q=>ac0 _ q) (ac6 _) ⟨_,aq⟩;refine a0.laid (a:=s.heap.objs.size+1) (o:=.ins C s.heap.objs.size []) (t':=s.toks) (fun b u q=>ac0 _ q) (ai7 (adK _ _)) ?_;have ne:s.heap.objs.size≠s.heap.objs.size+1:=ady (age _);refine⟨by rw[dV ne,et],aeB _,ne,aD,fun _=>none,(Heap.Ns1.of_empty b4).at fun o q=>ac0 _ q,fun _=>afp,fun y bq=>absurd rfl bq⟩
theorem MQ{prog:adp}{w:adJ}{env:Env}{e:adI}{f:Str}{pos:Pos}{s:ac4}{Q:ac1→ac4→Prop}(J:aeb e f env (aeq e env)=aeq e env)(h:adm (adu prog w) A (aeq e env) (fun o c6=>adm (adu prog w) A (getAttr o f true) Q E c6) E s):adm (adu prog w) A (aeq (.Attribute e f pos) env) Q E s:=
 Attribute_any_ h (by rw[arm_eval_Attribute,J])
end
noncomputable def Yj(K:PySem.W.Frag)(cf:TE)(f:Str):TE:=fun σ H Q=>cf σ H fun x H1=>∃a C a8 aX v,x=.ref a∧H1 a=some (.ins C a8 aX)∧i3 K C∧o5 K C f∧aX.lookup f=some v∧Q v H1
noncomputable def W4(K:PySem.W.Frag)(cf nC:TE)(f:Str):e1:=fun D σ H=>nC σ H fun y H1=>cf σ H1 fun x bk=>∃a C a8 aX,x=.ref a∧bk a=some (.ins C a8 aX)∧i3 K C∧o5 K C f∧aX.length<1000∧
 D.bO σ (upd bk a (.ins C a8 (ho f y aX)))
section
variable{X:aQ}{o e value:adI}{f:Str}{pos pos' qj:Pos}{cf nC:TE}
theorem Vv(he:a6 X e cf)(J:aeb e f X.env (aeq e X.env)=aeq e X.env):a6 X (.Attribute e f pos) (Yj X.K cf f):=by intro pins s σ H Q I h;refine MQ J (bZ (he pins s σ H _ I h) fun u s1⟨x,H1,a0,bH,a,C,a8,aX,v,ex,aw,c,n,l,q⟩=>?_);subst ex;obtain rfl:u=adx a:=bH;exact O3 a0 aw c n l fun hD s2 ck eD=>⟨v,H1,ck,eD,q⟩
theorem V6(ag:a6 X o cf)(bW:a6 X value nC)(hs:afB value (some (.Attribute o f pos')) pos.line X.env=pure false):dG X (.Assign [.Attribute o f pos'] value pos) (W4 X.K cf nC f):=by intro pins s σ H D I h;refine plainObj_wpAny_Assign_Attribute (bZ (bW pins s σ H _ I h) fun u s1⟨y,H1,a0,cp,q⟩=>bZ (ag pins s1 σ H1 _ a0 q) fun fQ s2⟨x,bk,ck,bH,a,C,a8,aX,ex,aw,c,n,l,bE⟩=>?_) hs;subst ex;obtain rfl:fQ=adx a:=bH;exact XH ck aw c n l cp fun s3 ed=>⟨σ,_,ed,bE⟩
theorem aba {pl:Sem Bool} {m:Str} {apos:Pos} {args:List adI} {pins:List (ada×Obj)} {s:ac4} {σ :St} {H:ah} {Q:ac1→ac4→Prop} {d_:TE} (he:a6 X e d_) (I:Inv X pins σ H s)(h:d_ σ H fun x H1=>∃a C a8 aX g,x=.ref a∧H1 a=some (.ins C a8 aX)∧i3 X.K C∧Meth X.K C m g∧aX.lookup m=none∧
    ∀s1,Inv X pins σ H1 s1→adm (adu X.prog X.w) X.A (aiR pos (.ref g) [.ref a] (adR pos (ac5 args X.env)) (ae7 pos (aee [] X.env))) Q X.xe s1)
  (bT:aeq (.Call (.Attribute e m apos) args [] pos) X.env=(do
    let fQ ←aeq e X.env
    ai1 apos.atName
    let(f,first) ←aiC [fQ] (ag4 fQ m pl)
    aiR pos f first (adR pos (ac5 args X.env)) (ae7 pos (aee [] X.env)))) :
  adm (adu X.prog X.w) X.A (aeq (.Call (.Attribute e m apos) args [] pos) X.env) Q X.xe s:=by
 refine PySem.W.methodCall_KW (pl:=pl) (bZ (he pins s σ H _ I h) fun u s1⟨x,H1,a0,bH,a,C,a8,aX,g,ex,aw,c,k,l,q⟩=>?_) bT;subst ex;obtain rfl:u=adx a:=bH;exact Ai a0 aw c k l (q s1 a0)
end
section
variable{X:aQ}{pins:List (ada×Obj)}{σ :St}{H:ah}{s:ac4}{A:adG}{E:ac1→ac4→Prop}{Q:ac1→ac4→Prop}{c:ac1}{b:Bool}
end
structure dW(k:Nat)(A:adG):Prop where
 hd:A.handled=none
 vv:A.depth+3*k+5<recursionLimit
 un:A.units+16*k+200<aew
theorem dW.mono{j k:Nat}{A:adG}(r:dW k A)(h:j≤k):dW j A:=⟨r.hd,by have:=r.vv;omega,by have:=r.un;omega⟩
theorem dW.deeper{k:Nat}{A:adG}(r:dW (k+1) A)(env:Env):dW k (A.deeper env):=
 ⟨r.hd,by have:=r.vv;show A.depth+1+3*k+5<_;omega,by have:=r.un;show A.units+3+16*k+200<_;omega⟩
theorem TH{A:adG}{C:ada}{us:List ac1}{kw:List (Str×ac1)}:(A.under (.builtin "type.__call__" ⟨.ref C::us,kw⟩)).depth=A.depth+1:=by
 first|rfl|simp[ai8,Code.weight,Code.isCreation,Code.isGuard,Code.isCaller,Code.frames,ai9,guardIds]
theorem TK{A:adG}{C:ada}{us:List ac1}{kw:List (Str×ac1)}:(A.under (.builtin "type.__call__" ⟨.ref C::us,kw⟩)).units=A.units+1:=by
 first|rfl|simp[ai8,Code.cUnits,Code.frames,ai9]
theorem dW.make{k:Nat}{A:adG}(r:dW (k+1) A)(C:ada)(us:List ac1)(kw:List (Str×ac1)):dW k (A.under (.builtin "type.__call__" ⟨.ref C::us,kw⟩)):=
 ⟨r.hd,by have:=r.vv;rw[TH];omega,by have:=r.un;rw[TK];omega⟩
theorem dW.depth{k:Nat}{A:adG}(r:dW k A):A.depth<recursionLimit:=by have:=r.vv;omega
theorem dW.units{k:Nat}{A:adG}(r:dW k A):A.units+64<aew:=by have:=r.un;omega
def xT:eL:=fun _ H Q=>Q [] H
def C8(cf:TE)(eB:eL):eL:=fun σ H Q=>cf σ H fun x H1=>eB σ H1 fun xs bk=>Q (x::xs) bk
section
variable{X:aQ}{e:adI}{es:List adI}{d_:TE}{t:eL}{pos:Pos}
theorem mr:fk X [] xT:=fun _ _ _ _ H Q I h=>af2 ⟨[],H,I,.nil,h⟩
theorem kr(ag:a6 X e d_)(au:fk X es t)(hs:ac5 (e::es) X.env=(false,aeq e X.env)::ac5 es X.env:=by rfl):fk X (e::es) (C8 d_ t):=by intro pos pins s σ H Q I h;rw[hs];show adm _ _ (spliced ((false,aeq e X.env)::adR pos (ac5 es X.env))) _ _ s;refine afP (bZ (ag pins s σ H _ I h) fun u s1⟨x,H1,a0,az,aV⟩=>?_);exact bZ (au pos pins s1 σ H1 _ a0 aV) fun us s2⟨xs,bk,ck,bg,bE⟩=>⟨x::xs,bk,ck,.cons az bg,bE⟩
noncomputable def Dg(t:eL):TE:=fun σ H Q=>t σ H fun xs H1=>xs.length≤adq∧∀p,H1 p=none→Q (.ref p) (upd H1 p (.tup xs))
noncomputable def KX(t:eL):TE:=fun σ H Q=>t σ H fun xs H1=>xs.length≤adq∧∀p,H1 p=none→Q (.ref p) (upd H1 p (.lst xs))
theorem Jm{gS}(h:fk X es t):a6 X (.Tuple es gS pos) (Dg t):=by intro pins s σ H Q I aR;refine wpAny_Tuple_spliced (bZ (h pos pins s σ H _ I aR) fun us s1⟨xs,H1,a0,r,z,q⟩=>⟨by rw[←r.length];exact z,?_⟩);have hf:H1 s1.heap.objs.size=none:=a0.bL.fresh (ac6 _);refine⟨.ref s1.heap.objs.size,upd H1 s1.heap.objs.size (.tup xs),a0.laid (t':=s1.toks) (fun b u e=>ac0 _ e) (ac6 _) ?_,rfl,q _ hf⟩;exact⟨z,us,r,⟨_,ac9 _ rfl,rfl,_,rfl⟩⟩
theorem VB(h:fk X es t):a6 X (.List es pos) (KX t):=by intro pins s σ H Q I aR;refine wpAny_List_spliced (bZ (h pos pins s σ H _ I aR) fun us s1⟨xs,H1,a0,r,z,q⟩=>⟨by rw[←r.length];exact z,?_⟩);have hf:H1 s1.heap.objs.size=none:=a0.bL.fresh (ac6 _);refine⟨.ref s1.heap.objs.size,upd H1 s1.heap.objs.size (.lst xs),a0.laid (t':=s1.toks) (fun b u e=>ac0 _ e) (ac6 _) ?_,rfl,q _ hf⟩;exact⟨z,us,0,r,ac9 _ rfl⟩
end
abbrev i7:=List V→ah→cX→dh→Prop
abbrev j0:=List Env→ah→ac4→dh→ac1→ac4→Prop
structure oZ(P:adp)(w:adJ)(K:PySem.W.Frag)(mg:Str→Option ac1)(base:adX)(A:adG)(outer:List Env)(s:ac4)(H:ah):Prop where
 frames:A.frames=some outer
 mod:Mod K mg base
 bs:∀b o,base.get? b=some o→s.heap.get? b=some o∧H b=none
 nZ:base.objs.size≤s.heap.objs.size
 jc:s.heap.FunFrames base outer
 pE:∀b∈eG outer,H b=none
 bL:eb P w H s.heap
 bare:ahc s.gens
noncomputable def yn(outer:List Env)(P:adp)(w:adJ)(H:ah)(s:ac4)(Q:cX)(u:ac1)(s':ac4):Prop:=
 ∃v H',s'.os=s.os∧ahc s'.gens∧fT (eG outer) [] H H' s.heap s'.heap∧eb P w H' s'.heap∧RelV v u∧Q v H'
noncomputable def L_(CX:j0)(outer:List Env)(P:adp)(w:adJ)(H:ah)(s:ac4)(Q:cX)(E:dh)(r:Result)(s':ac4):Prop:=
 match r with
 |.ok (.ret u)=>yn outer P w H s Q u s'
 |.ok _=>False
 |.error e=>CX outer H s E e s'
structure hr(P:adp)(w:adJ)(K:PySem.W.Frag)(mg:Str→Option ac1)(base:adX)(CX:j0)(k:Nat)(f:ada)(fd:aet)(ps:List Str)(sp:i7):Prop where
 len:∀vs H Q E,sp vs H Q E→vs.length=ps.length
 run:∀(A:adG)(outer:List Env)(s:ac4)(H:ah)(args:Args)(us:List ac1)(vs:List V)(Q:cX)(E:dh),dW k A→oZ P w K mg base A outer s H→BindsTo s fd args (ps.zip us)→Vals vs us→sp vs H Q E→
  ahd (adu P w) A (.call (.ref f) args) (L_ CX outer P w H s Q E) s
theorem oZ.make{P:adp}{w:adJ}{K:PySem.W.Frag}{mg:Str→Option ac1}{base:adX}{A:adG}{outer:List Env}{s:ac4}{H:ah}(e:oZ P w K mg base A outer s H)(C:ada)(us:List ac1)(kw:List (Str×ac1)) :
  oZ P w K mg base (A.under (.builtin "type.__call__" ⟨.ref C::us,kw⟩)) outer s H:=⟨by first|exact e.frames|(simpa[ai8,Code.envs,ai9,pushEnvs]using e.frames),e.mod,e.bs,e.nZ,e.jc,e.pE,e.bL,e.bare⟩
section
variable{X:aQ}{pins:List (ada×Obj)}{σ :St}{H:ah}{s s':ac4}
theorem Inv.Fl(I:Inv X pins σ H s):oZ X.prog X.w X.K X.mg X.base X.A X.stack s H:=
 ⟨I.ok.frames,I.ok.mod,I.bs,adB I.ok.nZ I.qg,I.stack,I.C3,I.bL,I.bare⟩
theorem Inv.after{Q:cX}{u:ac1}(I:Inv X pins σ H s)(h:yn X.stack X.prog X.w H s Q u s'):gw X pins σ Q u s':=by obtain⟨v,H',os,bare,un,bL,r,q⟩:=h;obtain⟨bD,g,d,t,BB⟩:=s';obtain rfl:BB=s.os:=os;exact⟨v,H',I.call (h':=bD) (g':=g) (d':=d) (t':=t) (ch:=[]) un bL bare (fun b z=>absurd z (by simp)),r,q⟩
end
def xQ(sp:i7)(gJ:List V)(E:dh)(t:eL):TE:=fun σ H Q=>t σ H fun vs H1=>sp (vs++gJ) H1 Q E
noncomputable def xS(C:ada)(m:Str)(sp:i7)(gJ:List V)(E:dh)(cf:TE)(t:eL):TE:=fun σ H Q=>cf σ H fun x H1=>∃a a8 aX,x=.ref a∧H1 a=some (.ins C a8 aX)∧aX.lookup m=none∧
 t σ H1 fun vs bk=>sp (x::(vs++gJ)) bk Q E
noncomputable def KY(C:ada)(sp:i7)(gJ:List V)(E:dh)(t:eL):TE:=fun σ H Q=>t σ H fun vs H1=>∀x a8,H1 x=none→H1 a8=none→a8≠x→
 sp (.ref x::(vs++gJ)) (upd (upd H1 a8 (.own x)) x (.ins C a8 [])) (fun v bk=>v=.non∧Q (.ref x) bk) E
noncomputable def Binds(K:PySem.W.Frag)(fd:aet)(ps:List Str)(ds:List ac1):Prop:=
 ∀(s:ac4)(us:List ac1),K.In s.heap→(us++ds).length=ps.length→BindsTo s fd ⟨us,[]⟩ (ps.zip (us++ds))
theorem Binds.all{K:PySem.W.Frag}{fd:aet}{ps:List Str}(h:∀us:List ac1,us.length=ps.length→aiS fd ⟨us,[]⟩=pure (ps.zip us)):Binds K fd ps []:=fun s us _ ai=>by rw[ael]at ai ⊢;exact .of_eq (h us ai)
noncomputable def Passes(CX:j0)(X:aQ)(E:dh):Prop:=∀(pins:List (ada×Obj))(σ :St)(H:ah)(s:ac4)(e:ac1)(s':ac4),Inv X pins σ H s→CX X.stack H s E e s'→X.xe e s'
section
variable{X:aQ}{CX:j0}{k:Nat}{f C:ada}{fd:aet}{ps:List Str}{sp:i7}{gJ:List V}{ds:List ac1}{E:dh}{x m:Str}{p pos apos:Pos}{e o:adI}{es:List adI}{cf:TE}{t:eL}
theorem BY{pins:List (ada×Obj)}{σ :St}{H:ah}{s:ac4}{Q:cX}{us:List ac1}{vs:List V}(F:hr X.prog X.w X.K X.mg X.base CX k f fd ps sp)(au:dW k X.A)(J:Binds X.K fd ps ds)(hd:Vals gJ ds)(ax:Passes CX X E)(I:Inv X pins σ H s)(r:Vals vs us)(h:sp (vs++gJ) H Q E):adm (adu X.prog X.w) X.A (call (.ref f) us) (gw X pins σ Q) X.xe s:=by
 have bg:Vals (vs++gJ) (us++ds):=r.append hd;have ai:(us++ds).length=ps.length:=by rw[←bg.length];exact F.len _ _ _ _ h
 refine wpAny_call (aga (F.run X.A X.stack s H ⟨us,[]⟩ (us++ds) (vs++gJ) Q E au I.Fl (J s us I.fY ai) bg h) fun r s' aR=>?_);cases r with
 |error e=>exact ax pins σ H s e s' I aR
 |ok hi=>
  cases hi with
  |ret u=>exact I.after aR
  |next=>exact aeI aR
  |brk=>exact aeI aR
  |cont=>exact aeI aR
theorem xa(F:hr X.prog X.w X.K X.mg X.base CX k f fd ps sp)(au:dW k X.A)(aO:dM X x)(hm:X.mg x=some (.ref f))(aH:PySem.W.keepIn X.K (.ref f)=true)(J:Binds X.K fd ps ds)(hd:Vals gJ ds)(ax:Passes CX X E)(ag:fk X (e::es) t)(gk:(x==("__debug__" :Str))=false:=by decide)(he:ac5 (e::es) X.env=(false,aeq e X.env)::ac5 es X.env:=by rfl)(de:(adR pos (ac5 es X.env)).any (·.1)=false:=by rfl) :
  a6 X (.Call (.Name x p) (e::es) [] pos) (xQ sp gJ E t):=by
 intro pins s σ H Q I h;refine afi (wx I aO hm ?_ gk);refine PySem.W.callWith_K (h₀:=X.base) I.ok.mod.oo aH (bZ (ag pos pins s σ H _ I h) fun us s1⟨vs,H1,a0,r,q⟩=>⟨a0.fY,?_⟩) he de;exact BY F au J hd ax a0 r q
theorem VD {pl:Sem Bool} (he:a6 X o cf) (c:i3 X.K C) (hm:Meth X.K C m f) (F:hr X.prog X.w X.K X.mg X.base CX k f fd ps sp) (au:dW k X.A) (J:Binds X.K fd ps ds) (hd:Vals gJ ds) (ax:Passes CX X E) (ag:fk X (e::es) t)(gn:ac5 (e::es) X.env=(false,aeq e X.env)::ac5 es X.env:=by rfl) (de:(adR pos (ac5 es X.env)).any (·.1)=false:=by rfl)(bT:aeq (.Call (.Attribute o m apos) (e::es) [] pos) X.env=(do
    let fQ ←aeq o X.env
    ai1 apos.atName
    let(f,first) ←aiC [fQ] (ag4 fQ m pl)
    aiR pos f first (adR pos (ac5 (e::es) X.env)) (ae7 pos (aee [] X.env))):=by rfl) :
  a6 X (.Call (.Attribute o m apos) (e::es) [] pos) (xS C m sp gJ E cf t):=by
 intro pins s σ H Q I h;refine PySem.W.methodCall_KW (pl:=pl) (bZ (he pins s σ H _ I h) fun u s1⟨x,H1,a0,bH,a,a8,aX,ex,aw,l,q⟩=>?_) bT;subst ex;obtain rfl:u=adx a:=bH;refine Ai a0 aw c hm l ?_;refine PySem.W.callWith_K (first:=[.ref a]) (h₀:=X.base) I.ok.mod.oo hm.aM (bZ (ag pos pins s1 σ H1 _ a0 q) fun us s2⟨vs,bk,ck,r,bE⟩=>⟨ck.fY,?_⟩) gn de;exact BY (us:=.ref a::us) (vs:=.ref a::vs) F au J hd ax ck (.cons rfl r) bE
theorem VE {pl:Sem Bool} (he:a6 X o cf) (c:i3 X.K C) (hm:Meth X.K C m f) (F:hr X.prog X.w X.K X.mg X.base CX k f fd ps sp) (au:dW k X.A) (J:Binds X.K fd ps ds) (hd:Vals gJ ds) (ax:Passes CX X E)(bT:aeq (.Call (.Attribute o m apos) [] [] pos) X.env=(do
    let fQ ←aeq o X.env
    ai1 apos.atName
    let(f,first) ←aiC [fQ] (ag4 fQ m pl)
    aiR pos f first (adR pos (ac5 [] X.env)) (ae7 pos (aee [] X.env))):=by rfl) :
  a6 X (.Call (.Attribute o m apos) [] [] pos) (xS C m sp gJ E cf xT):=by
 intro pins s σ H Q I h;refine PySem.W.methodCall_KW (pl:=pl) (bZ (he pins s σ H _ I h) fun u s1⟨x,H1,a0,bH,a,a8,aX,ex,aw,l,q⟩=>?_) bT;subst ex;obtain rfl:u=adx a:=bH;refine Ai a0 aw c hm l ?_;exact PySem.W.callWith_K0 (first:=[.ref a]) a0.fY hm.aM (BY (us:=[.ref a]) (vs:=[.ref a]) F au J hd ax a0 (.cons rfl .nil) q)
structure uX(K:PySem.W.Frag)(C f:ada):Prop where
 makes:PySem.W.makesIn K C=true
 init:PySem.W.findIn K (.ref C) "__init__"=some (some (.ref f))
 fn:PySem.W.isFn K (.ref f)=true
 aM:PySem.W.keepIn K (.ref C)=true
theorem WV{pins:List (ada×Obj)}{σ :St}{H:ah}{s:ac4}{Q:cX}{us:List ac1}{vs:List V}(M:uX X.K C f)(F:hr X.prog X.w X.K X.mg X.base CX k f fd ps sp)(au:dW (k+1) X.A)(J:Binds X.K fd ps ds)(hd:Vals gJ ds)(ax:Passes CX X E)(I:Inv X pins σ H s)(r:Vals vs us)(h:∀x a8,H x=none→H a8=none→a8≠x→sp (.ref x::(vs++gJ)) (upd (upd H a8 (.own x)) x (.ins C a8 [])) (fun v bk=>v=.non∧Q (.ref x) bk) E) :
  adm (adu X.prog X.w) X.A (call (.ref C) us) (gw X pins σ Q) X.xe s:=by
 have aR:=h (s.heap.objs.size+1) s.heap.objs.size (I.bL.fresh (ahe _)) (I.bL.fresh (ac6 _)) (ady (age _));have ck:=Inv.made (C:=C) I;have bg:Vals (V.ref (s.heap.objs.size+1)::(vs++gJ)) (adx (s.heap.objs.size+1)::(us++ds)):=.cons rfl (r.append hd);have ai:(adx (s.heap.objs.size+1)::us++ds).length=ps.length:=by have e:=bg.length;rw[F.len _ _ _ _ aR]at e;exact e.symm
 refine wpAny_call (TJ (f:=f) I.fY M.makes M.init (beq_iff_eq.mp M.fn) (aga (F.run _ X.stack _ _ ⟨adx (s.heap.objs.size+1)::us,[]⟩ (adx (s.heap.objs.size+1)::(us++ds)) _ _ E (au.make C us [])
  (ck.Fl.make C us []) (J _ (adx (s.heap.objs.size+1)::us) ck.fY ai) bg aR) fun r s' od=>?_))
 cases r with
 |error e=>exact ax pins σ _ _ e s' ck od
 |ok hi=>
  cases hi with
  |ret u=>obtain⟨v,H',ed,cg,ev,er⟩:=ck.after od;subst ev;exact⟨cg,⟨V.ref (s.heap.objs.size+1),H',ed,rfl,er⟩⟩
  |next=>exact aeI od
  |brk=>exact aeI od
  |cont=>exact aeI od
theorem VC(M:uX X.K C f)(F:hr X.prog X.w X.K X.mg X.base CX k f fd ps sp)(au:dW (k+1) X.A)(aO:dM X x)(hm:X.mg x=some (.ref C))(J:Binds X.K fd ps ds)(hd:Vals gJ ds)(ax:Passes CX X E)(ag:fk X (e::es) t)(gk:(x==("__debug__" :Str))=false:=by decide)(he:ac5 (e::es) X.env=(false,aeq e X.env)::ac5 es X.env:=by rfl)(de:(adR pos (ac5 es X.env)).any (·.1)=false:=by rfl) :
  a6 X (.Call (.Name x p) (e::es) [] pos) (KY C sp gJ E t):=by
 intro pins s σ H Q I h;refine afi (wx I aO hm ?_ gk);refine PySem.W.callWith_K (h₀:=X.base) I.ok.mod.oo M.aM (bZ (ag pos pins s σ H _ I h) fun us s1⟨vs,H1,a0,r,q⟩=>⟨a0.fY,?_⟩) he de;exact WV M F au J hd ax a0 r q
end
section
variable{X:aQ}{CX:j0}{k:Nat}{f C:ada}{fd:aet}{ps ks:List Str}{sp:i7}{E:dh}{x m:Str}{p pos apos aaX:Pos}{e o:adI}{es:List adI}{aaY:List ae3}{d_ cf:TE}{t cb:eL}{nm:Option Str}
variable{g:List ac1→List ac1→List ac1}{aaw:List V→List V→List V}
end
structure cS(N P:List Str)(sc:ae6):Prop where
 kind:sc.kind=.function
 co:sc.isCoroutine=false
 gen:sc.isGenerator=false
 a7:N.Nodup
 pre:N.take P.length=P
 par:∀x∈P,sc.names.lookup x=some .local∨sc.names.lookup x=some .cell
 Us:∀y∈sc.names,y.2≠.free
theorem EL{agL:Str→Option afE}{x:Str}:∀{binds:List (Str×ac1)}{m:Str→Option ac1},(∀v,(x,v)∉binds)→bindL agL binds m x=m x
 |[],_,_=>rfl
 |(n,v)::r,m,h=>by
  unfold bindL;rw[EL fun w hw=>h w (ac7 _ hw)]
  split
  ·have:x≠n:=by rintro rfl;exact h v adz
   simp[this]
  ·rfl
theorem EJ{agL:Str→Option afE}{x:Str}:∀{binds:List (Str×ac1)}{m:Str→Option ac1},(∀v,(x,v)∉binds)→bindC agL binds m x=m x
 |[],_,_=>rfl
 |(n,v)::r,m,h=>by
  unfold bindC;rw[EJ fun w hw=>h w (ac7 _ hw)]
  split
  ·rfl
  ·have:x≠n:=by rintro rfl;exact h v adz
   simp[this]
theorem EK{agL:Str→Option afE}{x:Str}{v:ac1}:∀{P:List Str}{vs:List ac1}{i:Nat}{m:Str→Option ac1},P.Nodup→P[i]?=some x→vs[i]?=some v→agL x=some .local→
  bindL agL (P.zip vs) m x=some v
 |[],_,_,_,_,h,_,_=>by simp at h
 |_::_,[],_,_,_,_,h,_=>by simp at h
 |p::P,w::vs,0,m,a7,h1,h2,aH=>by simp at h1 h2;subst h1;subst h2;show bindL agL ((p,w)::P.zip vs) m p=_;unfold bindL;rw[EL fun v bW=>(List.nodup_cons.mp a7).1 (agz bW).1,if_pos aH];simp
 |p::P,w::vs,i+1,m,a7,h1,h2,aH=>by show bindL agL ((p,w)::P.zip vs) m x=_;unfold bindL;exact EK (i:=i) (List.nodup_cons.mp a7).2 (by simpa using h1) (by simpa using h2) aH
theorem EI{agL:Str→Option afE}{x:Str}{v:ac1}:∀{P:List Str}{vs:List ac1}{i:Nat}{m:Str→Option ac1},P.Nodup→P[i]?=some x→vs[i]?=some v→agL x≠some .local→
  bindC agL (P.zip vs) m x=some v
 |[],_,_,_,_,h,_,_=>by simp at h
 |_::_,[],_,_,_,_,h,_=>by simp at h
 |p::P,w::vs,0,m,a7,h1,h2,aH=>by simp at h1 h2;subst h1;subst h2;show bindC agL ((p,w)::P.zip vs) m p=_;unfold bindC;rw[EJ fun v bW=>(List.nodup_cons.mp a7).1 (agz bW).1,if_neg aH];simp
 |p::P,w::vs,i+1,m,a7,h1,h2,aH=>by show bindC agL ((p,w)::P.zip vs) m x=_;unfold bindC;exact EI (i:=i) (List.nodup_cons.mp a7).2 (by simpa using h1) (by simpa using h2) aH
def start(N:List Str)(vs:List V):St:=vs.map some++aeZ (N.length-vs.length) none
noncomputable def e3(CX:j0)(P:adp)(w:adJ)(K:PySem.W.Frag)(mg:Str→Option ac1)(base:adX)(N:List Str)(qual:Str)(scope:ae6)(f:ada)(cd:ac1)(A:adG)(outer:List Env)(s:ac4)(H:ah)(E:dh):aQ where
 prog:=P
 w:=w
 K:=K
 mg:=mg
 base:=base
 A:=A.deeper (ai_ qual scope s.heap.objs.size f cd)
 N:=N
 fy:=s
 o1:=H
 env:=ai_ qual scope s.heap.objs.size f cd
 outer:=outer
 stack:=ai_ qual scope s.heap.objs.size f cd::outer
 ex:=[]
 calm:=true
 fn:=fun _=>true
 oD:=[]
 xe:=fun e s'=>adm (adu P w) (A.deeper (ai_ qual scope s.heap.objs.size f cd)) (leaving (ai_ qual scope s.heap.objs.size f cd) e) (fun _ i0=>CX outer H s E e i0) (fun cn i0=>CX outer H s E cn i0) s'
theorem zH{sc:ae6}{n:Nat}{x:Str}(h:sc.names.lookup x=some .cell):∃c,(aeu n sc.names []).lookup x=some c:=by have q:=PySem.W.cellsFrom_some sc.names n [] (.inl h);exact Option.isSome_iff_exists.mp q
theorem RB{CX:j0}{P:adp}{w:adJ}{K:PySem.W.Frag}{mg:Str→Option ac1}{base:adX}{N ps:List Str}{qual:Str}{scope:ae6}{f:ada}{cd:ac1}{A:adG}{outer:List Env}{s s1:ac4}{H:ah}{E:dh}{us:List ac1}{vs:List V}(S:cS N ps scope)(hd:A.handled=none)(cI:oZ P w K mg base A outer s H)(ai:vs.length=ps.length)(r:Vals vs us)(x:InCallC s s.heap.objs.size (bindL (ai_ qual scope s.heap.objs.size f cd).kindOf (ps.zip us) fun _=>none) (aeu (s.heap.objs.size+1) scope.names []) (bindC (ai_ qual scope s.heap.objs.size f cd).kindOf (ps.zip us) fun _=>none) s1) :
  Inv (e3 CX P w K mg base N qual scope f cd A outer s H E) [] (start N vs) H s1:=by
 have de:ps.length≤N.length:=by have:=congrArg List.length S.pre;rw[aes]at this;omega
 obtain⟨h1,cb,rfl,aH⟩:=x.done;have t4:∀b:ada,b∉(e3 CX P w K mg base N qual scope f cd A outer s H E).ex:=fun b z=>absurd (show b∈([]:List ada)from z) (by simp)
 refine⟨⟨cI.mod,S.kind,rfl,rfl,ac6 _,fun y z c h1 h2=>?_,fun y bq=>?_,fun y c _ h=>?_,fun _=>hd,Around.frames_deeper cI.frames,.inr ⟨rfl,rfl⟩,fun b z=>absurd z (t4 b),cI.bs,cI.nZ,fun b _ _=>t4 b,fun b z=>absurd z (t4 b),cI.jc,cI.pE⟩,
  rfl,cI.bare,fT.kept aH,⟨_,x.toInCall.ns,fun i y v h1 h2 h3=>?_⟩,fun y c h=>⟨_,x.cell y c h⟩,cI.bL.fresh (ac6 _),fun y c h=>?_,fun p aS=>absurd (show p∈([]:List (ada×Obj))from aS) (by simp),cI.bL.kept aH,?_⟩
 ·exact name_of_addr x.apart (PySem.mem_of_lookup h1) (PySem.mem_of_lookup h2)
 ·have bq:scope.names.lookup y=some .cell∨scope.names.lookup y=some .free:=bq;rcases bq with bq|bq
  ·exact zH bq
  ·exact absurd rfl (S.Us _ (PySem.mem_of_lookup bq))
 ·exact afF (x.above y c (PySem.mem_of_lookup h))
 ·have ar:i<vs.length:=by
    unfold start at h2;by_cases ar:i<vs.length
    ·exact ar
    ·rw[adk (by simpa using ar)]at h2;rw[adU]at h2
     split at h2<;>cases h2
  have ag:vs[i]?=some v:=by
   unfold start at h2;rw[ads (by simpa using ar),ade]at h2;cases e:vs[i]? with
   |none=>rw[e]at h2;cases h2
   |some a=>rw[e]at h2;cases h2;rfl
  obtain⟨u,aJ,cg⟩:=r.get ag;have aS:ps[i]?=some y:=by rw[←S.pre,afH (by omega)];exact h1
  have II:ps.Nodup:=by rw[←S.pre];exact S.a7.sublist (List.take_sublist _ _)
  refine⟨u,cg,?_⟩;rcases S.par y (adn aS)with k|k
  ·exact .inl ⟨k,EK II aS aJ k⟩
  ·obtain⟨c,e⟩:=zH (n:=s.heap.objs.size+1) k;refine .inr ⟨.inl k,c,e,?_⟩;have q:=x.cell y c e;rw[EI II aS aJ (by show scope.names.lookup y≠_;rw[k];decide)]at q;exact q
 ·exact cI.bL.fresh (afF (x.above y c (PySem.mem_of_lookup h)))
 ·unfold start;show _=N.length;rw[adD,adE,aex];omega
theorem Gy {CX:j0} {P:adp} {w:adJ} {K:PySem.W.Frag} {mg:Str→Option ac1} {base:adX} {k:Nat} {f:ada} {name qual:Str} {params:Arguments} {body:List aep} {scope:ae6} {vt da doc pm cv c_ fo:ac1} {an dP:Option ada}{lu:Array (Option ac1)} {N ps:List Str} {sp:i7} (lk:K.lookup f=some ⟨fo,dP,.func (PySem.W.fnOf name qual params body scope vt da doc pm an cv c_),lu⟩) (en:PySem.W.codeIn K cv qual=true) (S:cS N ps scope)(len:∀vs H Q E,sp vs H Q E→vs.length=ps.length)(Ao:∀(A:adG)(outer:List Env)(s:ac4)(H:ah)(vs:List V)(Q:cX)(E:dh),dW k (A.deeper (ai_ qual scope s.heap.objs.size f cv))→sp vs H Q E→
    ∃t,f_ (e3 CX P w K mg base N qual scope f cv A outer s H E) body t∧t { bO:=fun _ H'=>Q .non H',dJ:=Q } (start N vs) H) :
  hr P w K mg base CX (k+1) f (PySem.W.fnOf name qual params body scope vt da doc pm an cv c_) ps sp:=by
 refine⟨len,fun A outer s H args us vs Q E au cI J r oe=>?_⟩;have ai:=len _ _ _ _ oe;have kM:K.In s.heap:=cI.mod.oo.keeps fun b o e=>(cI.bs b o e).1;have lim:s.heap.NoLimit:=cI.mod.nolimit.keeps fun b o e=>(cI.bs b o e).1;have PN:∀y∈ps.zip us,scope.names.lookup y.1=some .local∨(scope.names.lookup y.1=some .cell∧((aeu (s.heap.objs.size+1) scope.names []).lookup y.1).isSome=true):=fun⟨n,v⟩ bq=>by
  rcases S.par n (agz bq).1 with q|q
  ·exact .inl q
  ·exact .inr ⟨q,PySem.W.cellsFrom_some _ _ _ (.inl q)⟩
 refine codeAny_call_function au.depth (kM _ _ lk) rfl S.co S.gen rfl (PySem.W.codeRec_of kM en) (J _ _ _ _ ?_);refine wpAny_newFunctionEnv_cells S.kind PN fun env he s1 x=>?_;subst he;refine⟨lim.keeps x.toInCall.keep,codeAny_func ?_⟩;obtain⟨t,bT,aR⟩:=Ao A outer s H vs Q E (au.deeper _) oe;have I:Inv (e3 CX P w K mg base N qual scope f cv A outer s H E) [] (start N vs) H s1:=RB S au.hd cI ai r x;refine ad9 (bT [] s1 (start N vs) H _ I aR) (fun hi s' hs=>?_) fun e s' hs=>hs;have fin:∀{σ' :St}{H':ah}{v:V}{u:ac1},Inv (e3 CX P w K mg base N qual scope f cv A outer s H E) [] σ' H' s'→RelV v u→Q v H'→yn outer P w H s Q u s':=
  fun{σ' H' v u} cE cg q=>⟨v,H',cE.os,cE.bare,cE.base,cE.bL,cg,q⟩
 cases hi with
 |ret u=>obtain⟨v,σ',H',cE,cg,q⟩:=hs;exact fin cE cg q
 |next=>obtain⟨σ',H',cE,q⟩:=hs;exact fin (v:=V.non) (u:=aeh) cE rfl q
 |brk=>obtain⟨_,_,_,q⟩:=hs;exact aeI q
 |cont=>obtain⟨_,_,_,q⟩:=hs;exact aeI q
section
variable{X:aQ}{x:Str}{p pos:Pos}{e:adI}{es:List adI}{t:eL}{id T:String}{r:List V→ah→cX→Prop}
def xP(r:List V→ah→cX→Prop)(t:eL):TE:=fun σ H Q=>t σ H fun vs H1=>r vs H1 Q
theorem xb(aB:gT X (.builtin id) r)(aO:dM X x)(hm:X.mg x=none)(bW:aer x=some (.builtin id))(ag:fk X (e::es) t)(aK:x≠"__name__":=by decide)(gk:(x==("__debug__" :Str))=false:=by decide)(he:ac5 (e::es) X.env=(false,aeq e X.env)::ac5 es X.env:=by rfl)(de:(adR pos (ac5 es X.env)).any (·.1)=false:=by rfl):a6 X (.Call (.Name x p) (e::es) [] pos) (xP r t):=by intro pins s σ H Q I h;refine afi (m9 I aO hm bW ?_ aK gk);exact PyProof.Rows.callWith_builtin1 (bZ (ag pos pins s σ H _ I h) fun us s1⟨vs,H1,a0,az,aV⟩=>aB pins s1 σ H1 vs us Q a0 az aV) he de
theorem xc(aB:gT X (.type T) r)(aO:dM X x)(hm:X.mg x=none)(bW:aer x=some (.type T))(ag:fk X (e::es) t)(aK:x≠"__name__":=by decide)(gk:(x==("__debug__" :Str))=false:=by decide)(he:ac5 (e::es) X.env=(false,aeq e X.env)::ac5 es X.env:=by rfl)(de:(adR pos (ac5 es X.env)).any (·.1)=false:=by rfl):a6 X (.Call (.Name x p) (e::es) [] pos) (xP r t):=by intro pins s σ H Q I h;refine afi (m9 I aO hm bW ?_ aK gk);exact adP (bZ (ag pos pins s σ H _ I h) fun us s1⟨vs,H1,a0,az,aV⟩=>aB pins s1 σ H1 vs us Q a0 az aV) he de
end
end a3
namespace ej
open PySem PyProof.Rows
section
open PySem.SeqAt
open PySem.AutoSeq1 (wpAny_loadPart')
open PySem.MeetsSeq PySem.MeetsSeq2 PySem.MeetsSeq3
end
section
variable{prog:adp}{w:adJ}{A:adG}{E:ac1→ac4→Prop}{s:ac4}
def eV(n d:Nat):Option Int→Nat
 |none=>d
 |some v=>if v<0 then(v+(n:Int)).toNat else min v.toNat n
theorem J0(n d:Nat):eV n d none=d:=rfl
theorem xt(n d k:Nat):eV n d (some (k:Int))=min k n:=by show(if(k:Int)<0 then((k:Int)+(n:Int)).toNat else min (k:Int).toNat n)=min k n;rw[if_neg (by omega),aev]
theorem JZ(n d:Nat)(hd:d≤n)(o:Option Int):eV n d o≤n:=by
 cases o with
 |none=>exact hd
 |some v=>
  show(if v<0 then(v+(n:Int)).toNat else min v.toNat n)≤n;by_cases bW:v<0
  ·rw[if_pos bW];omega
  ·rw[if_neg bW];exact Nat.min_le_right _ _
end
end ej
namespace a3
open PySem PySem.Spec PyProof.Rows
abbrev bX:=St→ah→(Option Int→ah→Prop)→Prop
noncomputable def sv(X:aQ)(e:Option adI)(t:bX):Prop:=
 ∀(pins:List (ada×Obj))(s:ac4)(σ :St)(H:ah)(Q:Option Int→ah→Prop),Inv X pins σ H s→t σ H Q→
  adm (adu X.prog X.w) X.A (evalPart e X.env) (fun u s'=>∃o H',Inv X pins σ H' s'∧IsPart u o∧Q o H') X.xe s
def Yl:bX:=fun _ H Q=>Q none H
def Ym(t:TE):bX:=fun σ H Q=>t σ H fun x H1=>∃i,x=.int i∧Q (some i) H1
section
variable{X:aQ}{e:adI}{d_:TE}{lo ar:Option adI}{fR xV:bX}{pos cD:Pos}
theorem VY:sv X none Yl:=by intro pins s σ H Q I h;rw[evalPart_none];exact ac3 ⟨none,H,I,.none,h⟩
theorem VZ(h:a6 X e d_):sv X (some e) (Ym d_):=by intro pins s σ H Q I hw;rw[evalPart_some];refine bZ (h pins s σ H _ I hw) fun u s1⟨x,H1,a0,az,aV⟩=>?_;obtain⟨i,rfl,q⟩:=aV;obtain⟨t,rfl⟩:=az;exact⟨some i,H1,a0,.int i t,q⟩
noncomputable def o_(X:aQ)(r:V→Option Int→Option Int→ah→cX→Prop):Prop:=
 ∀(pins:List (ada×Obj))(s:ac4)(σ :St)(H:ah)(x:V)(v kE kF:ac1)(lo ar:Option Int)(cV:ada)(Q:cX),Inv X pins σ H s→RelV x v→s.heap.IsSliceOf cV kE kF .none→IsPart kE lo→IsPart kF ar→r x lo ar H Q→
  ∃T id,typeLookup (.type T) "__getitem__"=pure (some (.builtin id))∧s.TypeIs v T∧adm (adu X.prog X.w) X.A (getItem v (.ref cV)) (gw X pins σ Q) X.xe s
theorem o_.or{r bF:V→Option Int→Option Int→ah→cX→Prop}(h:o_ X r)(h':o_ X bF):o_ X (fun x lo ar H Q=>r x lo ar H Q∨bF x lo ar H Q):=by
 intro pins s σ H x v kE kF lo ar cV Q I bH hs pl pu q;rcases q with q|q
 ·exact h pins s σ H x v kE kF lo ar cV Q I bH hs pl pu q
 ·exact h' pins s σ H x v kE kF lo ar cV Q I bH hs pl pu q
noncomputable def K5(r:V→Option Int→Option Int→ah→cX→Prop)(d_:TE)(fR xV:bX):TE:=fun σ H Q=>d_ σ H fun x H1=>fR σ H1 fun l bk=>xV σ bk fun u dy=>r x l u dy Q
theorem VJ{r:V→Option Int→Option Int→ah→cX→Prop}(au:o_ X r)(he:a6 X e d_)(ai:sv X lo fR)(aJ:sv X ar xV):a6 X (.Subscript e (.Slice lo ar none cD) pos) (K5 r d_ fR xV):=by intro pins s σ H Q I h;refine Subscript_ (bZ (he pins s σ H _ I h) fun v s1⟨x,H1,a0,az,aV⟩=>?_);refine wpAny_Slice (bZ (ai pins s1 σ H1 _ a0 aV) fun kE s2⟨l,bk,ck,pl,bE⟩=>bZ (aJ pins s2 σ bk _ ck bE) fun kF s3⟨u,dy,ed,pu,er⟩=>?_);rw[evalPart_none];refine ac3 ?_;have j1:Inv X pins σ dy { s3 with heap:=s3.heap.push { cls:=.type "slice",data:=.fields #[kE,kF,.none] } }:=ed.kept (t':=s3.toks) fun b bf q=>ac0 _ q;obtain⟨T,id,d4,bT,aO⟩:=au pins { s3 with heap:=s3.heap.push { cls:=.type "slice",data:=.fields #[kE,kF,.none] } } σ dy x v kE kF l u s3.heap.objs.size Q j1 az (Heap.IsSliceOf.new ..) pl pu er;show adm (adu X.prog X.w) X.A (subscriptTail e (.Slice lo ar none cD) v (.ref s3.heap.objs.size)) (gw X pins σ Q) X.xe { s3 with heap:=s3.heap.push { cls:=.type "slice",data:=.fields #[kE,kF,.none] } };exact tail_any (ops:=[.ref s3.heap.objs.size,v]) bT d4 aO (by with_unfolding_all rfl)
noncomputable def qQ(xs:List V)(lo ar:Option Int):List V:=(xs.drop (ej.eV xs.length 0 lo)).take (ej.eV xs.length xs.length ar-ej.eV xs.length 0 lo)
theorem Ny(xs:List V)(lo ar:Option Int):(qQ xs lo ar).length≤xs.length:=by unfold qQ;rw[aes,afa];omega
end
noncomputable def mc(n:Nat)(i:Int):Option Nat:=if 0≤i then(if i<n then some i.toNat else none)else if-(n:Int)≤i then some (i+n).toNat else none
def gI{α:Type}(xs:List α)(i:Int):Option α:=(mc xs.length i).bind fun j=>xs[j]?
theorem RP{n:Nat}{i:Int}{j:Nat}(h:mc n i=some j):ahJ i n=some j∧j<n∧-(n:Int)≤i∧i<n:=by
 unfold mc at h;by_cases h0:0≤i
 ·rw[if_pos h0]at h;by_cases h1:i<n
  ·rw[if_pos h1]at h;have e:i.toNat=j:=adh h;exact⟨by rw[seqIndex_of h0 h1,e],by omega,by omega,h1⟩
  ·rw[if_neg h1]at h;cases h
 ·rw[if_neg h0]at h;by_cases h1: -(n:Int)≤i
  ·rw[if_pos h1]at h;have e:(i+n).toNat=j:=adh h;exact⟨by rw[seqIndex_neg (by omega) h1,e],by omega,h1,by omega⟩
  ·rw[if_neg h1]at h;cases h
theorem yR{α:Type}{xs:List α}{i:Int}{v:α}(h:gI xs i=some v):∃j,ahJ i xs.length=some j∧xs[j]?=some v∧j<xs.length∧-(xs.length:Int)≤i∧i<xs.length:=by
 unfold gI at h;cases e:mc xs.length i with
 |none=>rw[e]at h;cases h
 |some j=>rw[e]at h;obtain⟨h1,h2,h3,h4⟩:=RP e;exact⟨j,h1,h,h2,h3,h4⟩
def yF(b:adI):Prop:=∀o i,aiE b false o i=operate [o,i] (getItem o i)
noncomputable def mK(X:aQ)(r:e_):Prop:=
 ∀(value slice:adI)(pins:List (ada×Obj))(s:ac4)(σ :St)(H:ah)(x y:V)(v u:ac1)(Q:cX),Inv X pins σ H s→RelV x v→RelV y u→r x y H Q→
  aiE slice false v u=operate [v,u] (getItem v u)→adm (adu X.prog X.w) X.A (subscriptTail value slice v u) (gw X pins σ Q) X.xe s
noncomputable def yC(X:aQ)(id:String)(r:V→List V→ah→cX→Prop):Prop:=
 ∀(pins:List (ada×Obj))(s:ac4)(σ :St)(H:ah)(x:V)(xs:List V)(v:ac1)(us:List ac1)(Q:cX),Inv X pins σ H s→RelV x v→Vals xs us→r x xs H Q→
  adm (adu X.prog X.w) X.A (call (.builtin id) (v::us)) (gw X pins σ Q) X.xe s
section
variable{X:aQ}{a b:adI}{cf tb:TE}{pos:Pos}
theorem mK.or{r bF:e_}(h:mK X r)(h':mK X bF):mK X (fun x y H Q=>r x y H Q∨bF x y H Q):=by
 intro value slice pins s σ H x y v u Q I bH cp q hs;rcases q with q|q
 ·exact h value slice pins s σ H x y v u Q I bH cp q hs
 ·exact h' value slice pins s σ H x y v u Q I bH cp q hs
theorem Vz{r:e_}(au:mK X r)(ag:a6 X a cf)(J:a6 X b tb)(hs:yF b):a6 X (.Subscript a b pos) (uu r cf tb):=by intro pins s σ H Q I h;exact Subscript_ (zD ag J I h fun v u s2 x y bk ck bH cp q=>au a b pins s2 σ bk x y v u Q ck bH cp q (hs _ _))
noncomputable def JN(K:PySem.W.Frag):e_:=fun x y H Q=>∃p xs i v,x=.ref p∧y=.int i∧b7 K H p xs∧gI xs i=some v∧Q v H
noncomputable def JP(K:PySem.W.Frag):e_:=fun x y H Q=>∃p xs i v,x=.ref p∧y=.int i∧c2 K H p xs∧gI xs i=some v∧Q v H
noncomputable def JO:e_:=fun x y H Q=>∃z i c,x=.str z∧y=.int i∧z.length≤adq∧gI z.cps.toList i=some c∧Q (.str ⟨#[c]⟩) H
theorem RQ:mK X (JN X.K):=by
 intro value slice pins s σ H x y v u Q I bH cp h hs;obtain⟨p,xs,i,z,rfl,rfl,aR,he,q⟩:=h;cases bH;obtain⟨t,rfl⟩:=cp;obtain⟨its,r,pl,bo⟩:=I.list aR;obtain⟨j,h1,h2,h3,h4,h5⟩:=yR he;obtain⟨w,hI,jU⟩:=r.get h2;have ai:=r.length;have aK:=ts;have fin:gw X pins σ Q w s:=⟨z,H,I,jU,q⟩;by_cases h0:0≤i
 ·have cz:i.toNat=j:=by
    rw[seqIndex_of h0 h5]at h1;exact adh h1
  exact item_listR pl.isList h0 (by omega) (by rw[cz];simpa using hI) fin hs
 ·have cz:(i+(its.toArray.size:Int)).toNat=j:=by
    rw[seqIndex_neg (by omega) h4]at h1;rw[ac8,←ai];exact adh h1
  exact subscriptTail_builtinR (x:=w) pl.isList.typeIs slot_list_getitem.lookup
   (wpAny_getItem_list_neg (Q:=fun r s'=>r=w∧gw X pins σ Q r s') pl.isList (by omega) (by rw[ac8]<;>omega) (by omega) (by rw[cz];simpa using hI) ⟨rfl,fin⟩) hs
theorem RU:mK X (JP X.K):=by
 intro value slice pins s σ H x y v u Q I bH cp h hs;obtain⟨p,xs,i,z,rfl,rfl,aR,he,q⟩:=h;cases bH;obtain⟨t,rfl⟩:=cp;obtain⟨its,r,pl,bo⟩:=I.tuple aR;obtain⟨j,h1,h2,h3,h4,h5⟩:=yR he;obtain⟨w,hI,jU⟩:=r.get h2;have ai:=r.length;have aK:=ts;have fin:gw X pins σ Q w s:=⟨z,H,I,jU,q⟩
 exact subscriptTail_builtinR (x:=w) pl.typeIs slot_tuple_getitem.lookup
  (getItem_tuple (j:=j) (Q:=fun r s'=>r=w∧gw X pins σ Q r s') pl (by omega) (by omega) (by rw[ac8,←ai];exact h1) (by simpa using hI) ⟨rfl,fin⟩) hs
theorem RT:mK X JO:=by
 intro value slice pins s σ H x y v u Q I bH cp h hs;obtain⟨z,i,c,rfl,rfl,bo,he,q⟩:=h;obtain⟨t,rfl⟩:=bH;obtain⟨t',rfl⟩:=cp;obtain⟨j,h1,h2,h3,h4,h5⟩:=yR he;have ai:z.cps.toList.length=z.length:=by simp[Str.length]
 rw[ai]at h1 h4 h5;have aK:=ts;exact tail_any (typeIs_str s z t) slot_str_getitem.lookup (getItem_str (c:=c) (by have aq:decide (i< -(2^63:Int))=false:=decide_eq_false (by omega);have aD:decide (i≥2^63)=false:=decide_eq_false (by omega);rw[aq,aD,Bool.or_false]) (by rw[h1];simpa using h2) ⟨.str ⟨#[c]⟩,H,I.tok _,⟨_,rfl⟩,q⟩) hs
def JM(K:PySem.W.Frag):e_:=fun x y H Q=>JN K x y H Q∨JP K x y H Q∨JO x y H Q
theorem RS:mK X (JM X.K):=RQ.or (RU.or RT)
theorem Inv.lst{pins:List (ada×Obj)}{σ :St}{H:ah}{s:ac4}{p:ada}{xs:List V}(I:Inv X pins σ H s)(h:H p=some (.lst xs)) :
  ∃(its:List ac1)(n:Nat),Vals xs its∧s.heap.get? p=some { cls:=.type "list",data:=.seq its.toArray n }∧xs.length≤adq:=by
 obtain⟨z,its,n,r,e⟩:=I.bL p _ h;exact⟨its,n,r,e,z⟩
theorem XW(lo ar:Option Int)(n:Nat):(af3 lo ar none n).1=((ej.eV n 0 lo:Nat):Int)∧(af3 lo ar none n).2.1=((ej.eV n n ar:Nat):Int)∧(af3 lo ar none n).2.2=1:=by
 refine⟨?_,?_,rfl⟩
 ·cases lo with
  |none=>simp[af3,ej.eV]
  |some i=>
   simp only[af3,ej.eV,ahq,show(1:Int)>0 by decide,if_true];by_cases h:i<0
   ·simp only[h,if_true]<;>omega
   ·simp only[h,if_false]<;>omega
 ·cases ar with
  |none=>simp[af3,ej.eV]
  |some i=>
   simp only[af3,ej.eV,ahq,show(1:Int)>0 by decide,if_true];by_cases h:i<0
   ·simp only[h,if_true]<;>omega
   ·simp only[h,if_false]<;>omega
theorem XU(its:List ac1)(lo ar:Option Int):slicePick its.toArray lo ar none=((its.drop (ej.eV its.length 0 lo)).take (ej.eV its.length its.length ar-ej.eV its.length 0 lo)).toArray:=by obtain⟨h1,h2,h3⟩:=XW lo ar its.toArray.size;unfold slicePick;rw[h1,h2,h3];simp only[sliceRange_one,pick_run,ac8]<;>rfl
noncomputable def JQ(K:PySem.W.Frag):V→Option Int→Option Int→ah→cX→Prop:=fun x lo ar H Q=>∃a xs,x=.ref a∧b7 K H a xs∧∀p,H p=none→Q (.ref p) (upd H p (.lst (qQ xs lo ar)))
theorem XS:o_ X (JQ X.K):=by intro pins s σ H x v kE kF lo ar cV Q I bH hs pl pu h;obtain⟨a,xs,rfl,ax,q⟩:=h;cases bH;obtain⟨its,r,bT,bo⟩:=I.list ax;have hlen:=r.length;refine⟨"list",_,slot_list_getitem.lookup,bT.isList.typeIs,?_⟩;refine wpAny_getItem_list_slice bT.isList hs pl pu .none (by simp) ?_ (by rw[ac8]<;>omega);rw[XU,←hlen];refine⟨.ref s.heap.objs.size,_,I.laid (t':=s.toks) (o:=.lst (qQ xs lo ar)) (fun b bf q=>ac0 _ q) (ac6 _) ?_,rfl,q _ (I.bL.fresh (ac6 _))⟩;exact⟨adB (Ny xs lo ar) bo,_,0,(r.drop (ej.eV xs.length 0 lo)).take (ej.eV xs.length xs.length ar-ej.eV xs.length 0 lo),ac9 _ rfl⟩
theorem gT.or{f:ac1}{r bF:List V→ah→cX→Prop}(h:gT X f r)(h':gT X f bF):gT X f (fun xs H Q=>r xs H Q∨bF xs H Q):=by
 intro pins s σ H xs us Q I rs q;rcases q with q|q
 ·exact h pins s σ H xs us Q I rs q
 ·exact h' pins s σ H xs us Q I rs q
theorem EU:gT X (.type "list") (fun xs H Q=>∃p ys,xs=[.ref p]∧(b7 X.K H p ys∨c2 X.K H p ys)∧∀l,H l=none→Q (.ref l) (upd H l (.lst ys))):=by
 intro pins s σ H xs us Q I r h;obtain⟨p,ys,rfl,aR,q⟩:=h;obtain⟨u,rfl,bH⟩:=vals1 r;cases bH
 have fin:∀(its:List ac1),Vals ys its→ys.length≤adq→∀(h':adX)(ey:Nat),(∀b bR,s.heap.get? b=some bR→h'.get? b=some bR)→
   h'.get? s.heap.objs.size=some { cls:=.type "list",dict:=none,data:=.seq its.toArray ey,slots:= #[] }→gw X pins σ Q (.ref s.heap.objs.size) { s with heap:=h' }:=fun its bF bo h' ey aM e=>
  ⟨.ref s.heap.objs.size,_,I.laid (t':=s.toks) aM (ac6 _) (show eK X.prog X.w _ h' _ (.lst ys)from⟨bo,its,ey,bF,e⟩),rfl,q _ (I.bL.fresh (ac6 _))⟩
 rcases aR with aR|aR
 ·obtain⟨its,bF,pl,bo⟩:=I.list aR;have hlen:=bF.length;obtain⟨o,aE,aB,n,hd⟩:=pl.isList;exact call_list_seq p (.inl rfl) aE aB hd (fun h' ey aM e=>fin its bF bo h' ey aM e) (by simp only[ac8]<;>omega)
 ·obtain⟨its,bF,pl,bo⟩:=I.tuple aR;have hlen:=bF.length;obtain⟨o,aE,aB,n,hd⟩:=pl;exact call_list_seq p (.inr rfl) aE aB hd (fun h' ey aM e=>fin its bF bo h' ey aM e) (by simp only[ac8]<;>omega)
theorem Nm:gT X (.type "tuple") (fun xs H Q=>∃p ys,xs=[.ref p]∧((b7 X.K H p ys∧∀l,H l=none→Q (.ref l) (upd H l (.tup ys)))∨(c2 X.K H p ys∧Q (.ref p) H))):=by
 intro pins s σ H xs us Q I r h;obtain⟨p,ys,rfl,h⟩:=h;obtain⟨u,rfl,bH⟩:=vals1 r;cases bH;rcases h with⟨aR,q⟩|⟨aR,q⟩
 ·obtain⟨its,bF,pl,bo⟩:=I.list aR;have hlen:=bF.length;refine call_tuple_list pl.isList (fun h' aM=>?_) (by simp only[ac8]<;>omega);have a0:Inv X pins σ H { s with heap:=h' }:=I.kept (t':=s.toks) aM;have ck:Inv X pins σ (upd H h'.objs.size (.tup ys)) { s with heap:=h'.push { cls:=.type "tuple",data:=.seq its.toArray } }:=
   a0.laid (t':=s.toks) (fun b o e=>ac0 _ e) (ac6 _) (show eK X.prog X.w _ _ _ (.tup ys)from⟨bo,its,bF,IsTup.new _ _⟩)
  exact⟨.ref h'.objs.size,_,ck,rfl,q _ (a0.bL.fresh (ac6 _))⟩
 ·obtain⟨its,bF,pl,bo⟩:=I.tuple aR;exact call_tuple_same pl ⟨.ref p,H,I,rfl,q⟩
noncomputable def Le(K:PySem.W.Frag)(T:String)(x:V)(H:ah):Prop:=match x with
 |.str _=>T="str"
 |.int _=>T="int"
 |.ref p=>(T="list"∧∃xs,b7 K H p xs)∨(T="tuple"∧∃o,K.lookup p=some o∧o.cls=.type "tuple"∧o.dict=none)∨
     (T="dict"∧((∃aZ,H p=some (.dA aZ))∨∃aZ,H p=some (.bx aZ)))∨(T="set"∧∃S n,H p=some (.set S n))
 |_=>False
theorem YQ{pins:List (ada×Obj)}{σ :St}{H:ah}{s:ac4}{T:String}{x:V}{v:ac1}(I:Inv X pins σ H s)(r:RelV x v)(ty:Le X.K T x H) :
  s.TypeIs v T∧∀a,v=.ref a→∃bf,s.heap.get? a=some bf∧bf.dict=none:=by
 cases x with
 |str z=>obtain⟨t,rfl⟩:=r;cases(show T="str" from ty);exact⟨typeIs_str s z t,fun _ e=>nomatch e⟩
 |int i=>obtain⟨t,rfl⟩:=r;cases(show T="int" from ty);exact⟨typeIs_int s i t,fun _ e=>nomatch e⟩
 |ref p=>
  cases r;rcases ty with⟨rfl,xs,aR⟩|⟨rfl,o,aH,aB,hd⟩|⟨rfl,aH⟩|⟨rfl,S,n,aH⟩
  ·obtain⟨its,_,pl,_⟩:=I.list aR;refine⟨pl.isList.typeIs,fun a e=>?_⟩;cases e;obtain⟨o,n,e,c,hd,_⟩:=pl;exact⟨o,e,hd⟩
  ·refine⟨⟨o,I.fY p o aH,aB⟩,fun a e=>?_⟩;cases e;exact⟨o,I.fY _ o aH,hd⟩
  ·have z:∃o,s.heap.get? p=some o∧o.ExactDict:=by
     rcases aH with⟨aZ,aH⟩|⟨aZ,aH⟩
     ·obtain⟨_,_,_,_,o,_,_,e,ex,_⟩:=I.bL p _ aH;exact⟨o,e,ex⟩
     ·obtain⟨_,_,_,_,o,_,_,e,ex,_⟩:=I.bL p _ aH;exact⟨o,e,ex⟩
   obtain⟨o,e,ex⟩:=z;refine⟨⟨o,e,ex.1⟩,fun a aD=>?_⟩;cases aD;exact⟨o,e,ex.2.1⟩
  ·obtain⟨o,_,_,_,e,ex,_⟩:=I.bL p _ aH;refine⟨⟨o,e,ex.1⟩,fun a aD=>?_⟩;cases aD;exact⟨o,e,ex.2.1⟩
 |_=>exact aeI ty
noncomputable def Yh(K:PySem.W.Frag)(T:String)(r:V→List V→ah→cX→Prop)(to:TE)(t:eL):TE:=fun σ H Q=>to σ H fun x H1=>Le K T x H1∧t σ H1 fun xs bk=>r x xs bk Q
variable{o e:adI}{es:List adI}{to:TE}{t:eL}{name:Str}{apos ct:Pos}{T id:String}{r:V→List V→ah→cX→Prop}
theorem qa (Vg:PlainAttrs T) (slot:Slot T name id) (Qn:typeOf (.builtin id)=pure (.type "method_descriptor")) (hm:yC X id r) (aE:a6 X o to) (ag:fk X (e::es) t)(iO:aeb o name X.env (aeq o X.env)=aeq o X.env:=by rfl)(iQ:((adR ct (ac5 (e::es) X.env)).all (fun x=>!x.1)&&(ae7 ct (aee [] X.env)).all (fun x=>x.1.isSome)
    &&decide ((e::es).length+([]:List ae3).length+(if([]:List ae3).isEmpty then 0 else 1)<30))=true:=by rfl)
  (iR:(apos.endLine==ct.line)=true:=by rfl) (hs:ac5 (e::es) X.env=(false,aeq e X.env)::ac5 es X.env:=by rfl) (iS:(adR ct (ac5 es X.env)).any (·.1)=false:=by rfl) :
  a6 X (.Call (.Attribute o name apos) (e::es) [] ct) (Yh X.K T r to t):=by
 intro pins s σ H Q I h;refine wpAny_Call_method_late iO iQ iR rfl (bZ (aE pins s σ H _ I h) fun v s1⟨x,H1,a0,az,ty,aV⟩=>?_);obtain⟨h1,h2⟩:=YQ a0 az ty;refine⟨T,id,Vg,slot,Qn,h1,h2,?_⟩;have iM:=ag ct pins s1 σ H1 _ a0 aV;rw[hs]at iM ⊢;refine ahu (by show(false||(adR ct (ac5 es X.env)).any (·.1))=false;rw[iS]<;>rfl) (agl ?_);exact bZ iM fun us s2⟨vs,bk,ck,bg,bE⟩=>hm pins s2 σ bk x vs v us Q ck az bg bE
end
noncomputable def uY(X:aQ)(id:String)(r:V→List V→ah→cX→Prop):Prop:=
 ∀(pins:List (ada×Obj))(s:ac4)(σ :St)(H:ah)(x:V)(xs:List V)(v:ac1)(us:List ac1)(Q:cX),Inv X pins σ H s→RelV x v→Vals xs us→r x xs H Q→
  adm (adu X.prog X.w) X.A (call (.builtin id) (v::us)) (gw X pins σ Q) X.xe s
theorem Vals.one:∀{x:V}{us:List ac1},Vals [x] us→∃u,us=[u]∧RelV x u
 |_,_,.cons r .nil=>⟨_,rfl,r⟩
theorem Vals.eraseIdx:∀{xs:List V}{us:List ac1}(i:Nat),Vals xs us→Vals (xs.eraseIdx i) (us.eraseIdx i)
 |_,_,_,.nil=>.nil
 |_,_,0,.cons _ t=>t
 |_,_,i+1,.cons r t=>.cons r (Vals.eraseIdx i t)
theorem Ik{α:Type}:∀(l:List α)(i:Nat),(l.eraseIdx i).length≤l.length
 |[],_=>ac6 _
 |_::_,0=>ahe _
 |_::r,i+1=>Nat.succ_le_succ (Ik r i)
section
variable{X:aQ}{pins:List (ada×Obj)}{σ :St}{H:ah}{s:ac4}{l b:ada}{xs ys zs:List V}
theorem Inv.wy{its its':List ac1}{n:Nat}{f:Array ac1→Array ac1}{t':Nat}(I:Inv X pins σ H s)(hL:H l=some (.lst xs))(e:s.heap.get? l=some { cls:=.type "list",data:=.seq its.toArray n })(hf:f its.toArray=its'.toArray)(bW:Vals ys its')(bo:ys.length≤adq) :
  Inv X pins σ (upd H l (.lst ys)) { s with heap:=s.heap.update l (afq f),toks:=t' }:=by
 have q:=PySem.IsL.update e f;rw[hf]at q;refine I.write (x:=l) (e:=l) (by rw[hL];exact trivial) (.inl rfl) (fun eN u J aJ=>(afZ s.heap (afq f) (agS J)).trans aJ) ⟨_,q⟩ ?_;exact⟨bo,its',_,bW,q⟩
theorem Inv.Iq{its:List ac1}{t':Nat}(I:Inv X pins σ H s)(bW:Vals ys its)(bo:ys.length≤adq) :
  Inv X pins σ (upd H s.heap.objs.size (.lst ys)) { s with heap:=s.heap.push { cls:=.type "list",data:=.seq its.toArray },toks:=t' }:=
 I.laid (fun _ _ q=>ac0 _ q) (ac6 _) ⟨bo,its,0,bW,ac9 _ rfl⟩
theorem Inv.fresh(I:Inv X pins σ H s):H s.heap.objs.size=none:=I.bL.fresh (ac6 _)
theorem Inv.pT(I:Inv X pins σ H s)(hL:H l=some (.lst xs)):xs.length≤adq∧∃(its:List ac1)(n:Nat),Vals xs its∧xs.length=its.length∧s.heap.get? l=some { cls:=.type "list",data:=.seq its.toArray n }:=by obtain⟨z,its,n,r,e⟩:=I.bL l _ hL;exact⟨z,its,n,r,r.length,e⟩
theorem Uu{n:Nat}(h:n≤adq):afI n=false:=by unfold afI;exact decide_eq_false (by omega)
end
section
variable{X:aQ}
noncomputable def Wn:V→List V→ah→cX→Prop:=fun x vs H Q=>∃l xs y,x=.ref l∧vs=[y]∧H l=some (.lst xs)∧xs.length<adq∧Q .non (upd H l (.lst (xs++[y])))
theorem Bq:uY X "list.append" Wn:=by intro pins s σ H x vs v us Q I bH cg h;obtain⟨l,xs,y,rfl,rfl,hL,bo,q⟩:=h;cases bH;obtain⟨u,rfl,eD⟩:=cg.one;obtain⟨z,its,n,r,ai,e⟩:=I.pT hL;refine aic F.slot_list_append ⟨_,e,rfl⟩ F.entry_list_append (F.args_list_append_2 _ _) (PySem.list_append l its.toArray n u (by rw[ac8];omega)) ⟨e,?_⟩;refine⟨.non,_,I.wy (its':=its++[u]) hL e (by simp) (r.append (.cons eD .nil)) ?_,rfl,q⟩;rw[adD,afm];omega
noncomputable def Wo:V→List V→ah→cX→Prop:=fun x vs H Q=>∃l b xs zs,x=.ref l∧vs=[.ref b]∧H l=some (.lst xs)∧H b=some (.lst zs)∧xs.length+zs.length≤adq∧Q .non (upd H l (.lst (xs++zs)))
theorem TS:uY X "list.extend" Wo:=by
 intro pins s σ H x vs v us Q I bH cg h;obtain⟨l,b,xs,zs,rfl,rfl,hL,kY,bo,q⟩:=h;cases bH;obtain⟨u,rfl,eD⟩:=cg.one;cases eD;obtain⟨z,its,n,r,ai,e⟩:=I.pT hL;obtain⟨a9,eI,n2,bg,s8,aD⟩:=I.pT kY;have hsz:its.toArray.size+eI.toArray.size≤adq:=by rw[ac8,ac8];omega
 have PT:¬(!its.toArray.isEmpty&&afI (its.toArray.size+eI.toArray.size))=true:=by rw[Uu hsz,aix];exact adC
 refine aic F.slot_list_extend ⟨_,e,rfl⟩ F.entry_list_extend (F.args_list_extend_2 _ _)
  (AutoSeq1.list_extend_list_list_0 l its.toArray n b eI.toArray n2 PT (by rw[ac8];omega) (by omega)) ⟨e,aD,?_⟩
 refine⟨.non,_,I.wy (its':=its++eI) hL e (by simp) (r.append bg) ?_,rfl,q⟩;rw[adD];omega
noncomputable def Wu:V→List V→ah→cX→Prop:=fun x vs H Q=>∃l xs i k y,x=.ref l∧vs=[.int i]∧H l=some (.lst xs)∧-(2^63)≤i∧i<2^63∧ahJ i xs.length=some k∧xs[k]?=some y∧Q y (upd H l (.lst (xs.eraseIdx k)))
theorem TY:uY X "list.pop" Wu:=by
 intro pins s σ H x vs v us Q I bH cg h;obtain⟨l,xs,i,k,y,rfl,rfl,hL,h1,h2,aH,bq,q⟩:=h;cases bH;obtain⟨u,rfl,eD⟩:=cg.one;obtain⟨t,rfl⟩:=eD;obtain⟨z,its,n,r,ai,e⟩:=I.pT hL;obtain⟨w,hw,jU⟩:=r.get bq
 refine aic F.slot_list_pop ⟨_,e,rfl⟩ F.entry_list_pop (F.args_list_pop_2 _ _)
  (MeetsSeq.list_pop_at l its.toArray n i t k w (fitsIndex_both h1 h2) (by rw[ac8,←ai];exact aH) (by rw[←aei];exact hw) (by rw[ac8];omega)) ⟨e,?_⟩
 refine⟨y,_,I.wy (its':=its.eraseIdx k) hL e ?_ (r.eraseIdx k) ?_,jU,q⟩
 ·show its.toArray.eraseIdxIfInBounds k=(its.eraseIdx k).toArray;rw[List.eraseIdxIfInBounds_toArray]
 ·have:=Ik xs k;omega
noncomputable def JL:e_:=fun x y H Q=>∃l b xs zs,x=.ref l∧y=.ref b∧H l=some (.lst xs)∧H b=some (.lst zs)∧xs.length+zs.length≤adq∧∀p,H p=none→Q (.ref p) (upd H p (.lst (xs++zs)))
theorem w7:ee X (agp .Add) JL:=by
 intro pins s σ H x y v u Q I bH cp h;obtain⟨l,b,xs,zs,rfl,rfl,hL,kY,bo,q⟩:=h;cases bH;cases cp;obtain⟨z,its,n,r,ai,e⟩:=I.pT hL;obtain⟨a9,eI,n2,bg,s8,aD⟩:=I.pT kY;refine PySem.P.add_list e aD ?_ (by rw[ac8,ac8];omega);have aw:its.toArray++eI.toArray=(its++eI).toArray:=by simp
 rw[aw];exact⟨.ref _,_,I.Iq (t':=s.toks) (r.append bg) (by rw[adD];omega),rfl,q _ I.fresh⟩
end
section
variable{prog:adp}{w:adJ}{A:adG}{E:ac1→ac4→Prop}{s:ac4}
end
section
variable{X:aQ}
end
section
variable{κ:Type}[DecidableEq κ]
def gR(aZ:List (κ×V))(k:κ):Option V:=(aZ.find? fun fg=>decide (fg.1=k)).map (·.2)
noncomputable def putK(aZ:List (κ×V))(k:κ)(v:V):List (κ×V):=
 if(aZ.any fun fg=>decide (fg.1=k))=true then aZ.map (fun fg=>if fg.1=k then(fg.1,v)else fg)else aZ++[(k,v)]
theorem Dx{p:κ×V}{r:List (κ×V)}{k:κ}(e:p.1=k):gR (p::r) k=some p.2:=by simp[gR,adM,e]
theorem Dw{p:κ×V}{r:List (κ×V)}{k:κ}(e:¬p.1=k):gR (p::r) k=gR r k:=by simp[gR,adM,e]
theorem Dv(k:κ):∀aZ:List (κ×V),(aZ.any fun fg=>decide (fg.1=k))=(gR aZ k).isSome
 |[]=>rfl
 |p::r=>by
  rw[ae8];by_cases e:p.1=k
  ·simp only[Dx e,decide_eq_true e,Bool.true_or,aiT]
  ·rw[Dw e,decide_eq_false e,aiU];exact Dv k r
theorem Io(aZ:List (κ×V))(k:κ)(v:V):(putK aZ k v).length≤aZ.length+1:=by
 unfold putK
 split
 ·rw[adE];omega
 ·rw[adD,adl,aen];omega
theorem Wf{aZ:List (κ×V)}{k:κ}(v:V)(h:gR aZ k=none):putK aZ k v=aZ++[(k,v)]:=by unfold putK;rw[Dv,h];exact if_neg (by decide)
theorem hx.tj{o:Option V}{u:Option ac1}(r:hx o u):o.isSome=u.isSome:=by
 cases o with
 |none=>cases u with
  |none=>rfl
  |some _=>exact(show False from r).elim
 |some _=>cases u with
  |none=>exact(show False from r).elim
  |some _=>rfl
theorem hx.getD{o:Option V}{u:Option ac1}{d:V}{d':ac1}(r:hx o u)(BQ:RelV d d'):RelV (o.getD d) (u.getD d'):=by
 cases o with
 |none=>cases u with
  |none=>exact BQ
  |some _=>exact(show False from r).elim
 |some _=>cases u with
  |none=>exact(show False from r).elim
  |some _=>exact r
theorem gH.val{aZ:List (κ×V)}{vs:List (κ×ac1)}(r:gH aZ vs)(k:κ):hx (gR aZ k) (ai2 vs k):=by
 unfold gH at r;induction r with
 |nil=>exact afp
 | @cons p q ps jT h t bQ=>
   obtain⟨h1,h2⟩:=h;by_cases e:p.1=k
   ·have cn:q.1=k:=h1.symm.trans e;have b:ai2 (q::jT) k=some q.2:=by simp[ai2,adM,cn]
    rw[Dx e,b];exact h2
   ·have cn:¬q.1=k:=fun z=>e (h1.trans z);have b:ai2 (q::jT) k=ai2 jT k:=by simp[ai2,adM,cn]
    rw[Dw e,b];exact bQ
theorem gH.any{aZ:List (κ×V)}{vs:List (κ×ac1)}(r:gH aZ vs)(k:κ):(aZ.any fun fg=>decide (fg.1=k))=vs.any fun fg=>decide (fg.1=k):=by
 unfold gH at r;induction r with
 |nil=>rfl
 |cons h t bQ=>rw[ae8,ae8,bQ,h.1]
theorem gH.BS{aZ:List (κ×V)}{vs:List (κ×ac1)}(r:gH aZ vs)(k:κ){y:V}{u:ac1}(cp:RelV y u) :
  gH (aZ.map fun fg=>if fg.1=k then(fg.1,y)else fg) (vs.map fun fg=>if fg.1=k then(fg.1,u)else fg):=by
 unfold gH at r ⊢;induction r with
 |nil=>exact .nil
 | @cons p q ps jT h t bQ=>
   rw[adi,adi];refine .cons ?_ bQ;obtain⟨h1,h2⟩:=h;by_cases e:p.1=k
   ·rw[if_pos e,if_pos (h1.symm.trans e)];exact⟨h1,cp⟩
   ·rw[if_neg e,if_neg (fun z=>e (h1.trans z))];exact⟨h1,h2⟩
theorem gH.put{aZ:List (κ×V)}{vs:List (κ×ac1)}(r:gH aZ vs)(k:κ){y:V}{u:ac1}(cp:RelV y u):gH (putK aZ k y) (stored vs k u):=by
 unfold putK stored;rw[r.any k];by_cases e:(vs.any fun fg=>decide (fg.1=k))=true
 ·rw[if_pos e,if_pos e];exact r.BS k cp
 ·rw[if_neg e,if_neg e];exact Paired.snoc r ⟨rfl,cp⟩
theorem gH.length{aZ:List (κ×V)}{vs:List (κ×ac1)}(r:gH aZ vs):aZ.length=vs.length:=Paired.length r
end
theorem pP{P:adp}{w:adJ}{k:Key}{u:ac1}(r:RelV (da k) u):(gD P w).is k u=true:=by
 cases k with
 |inl i=>obtain⟨t,e⟩:=(show ∃t,u=ajf i t from r);subst e;exact TQ P w i t
 |inr x=>obtain⟨t,e⟩:=(show ∃t,u=ajg x t from r);subst e;exact TR P w x t
theorem HP{P:adp}{w:adJ}:∀{ks:List Key}{us:List ac1},Vals (ks.map da) us→ItemsAre (gD P w) ks us
 |[],_,r=>by rw[ahK]at r;cases r;exact .nil
 |k::ks,_,r=>by
  rw[adi]at r;cases r with
  |cons h t=>exact .cons (pP h) (HP t)
abbrev KT(H:ah):List (cx×V)→List (cx×ada×ac1)→Prop:=Paired fun p q=>p.1=q.1∧g_ H p.1 q.2.1∧RelV p.2 q.2.2
theorem KT.val{H:ah}{aZ:List (cx×V)}{xs:List (cx×ada×ac1)}(r:KT H aZ xs)(k:cx):hx (gR aZ k) ((atKey xs k).map (·.2)):=by
 induction r with
 |nil=>exact afp
 | @cons p q ps jT h t bQ=>
   obtain⟨h1,_,h2⟩:=h;by_cases e:p.1=k
   ·have cn:q.1=k:=h1.symm.trans e;have b:atKey (q::jT) k=some q.2:=by simp[atKey,adM,cn]
    rw[Dx e,b];exact h2
   ·have cn:¬q.1=k:=fun z=>e (h1.trans z);have b:atKey (q::jT) k=atKey jT k:=by simp[atKey,adM,cn]
    rw[Dw e,b];exact bQ
theorem KT.BS{H:ah}{aZ:List (cx×V)}{xs:List (cx×ada×ac1)}(r:KT H aZ xs)(k:cx){y:V}{u:ac1}(cp:RelV y u) :
  KT H (aZ.map fun fg=>if fg.1=k then(fg.1,y)else fg) (xs.map (putAt k u)):=by
 induction r with
 |nil=>exact .nil
 | @cons p q ps jT h t bQ=>
   rw[adi,adi];refine .cons ?_ bQ;obtain⟨h1,h2,h3⟩:=h;unfold putAt;by_cases e:p.1=k
   ·rw[if_pos e,if_pos (h1.symm.trans e)];exact⟨h1,h2,cp⟩
   ·rw[if_neg e,if_neg (fun z=>e (h1.trans z))];exact⟨h1,h2,h3⟩
theorem KT.put{H:ah}{aZ:List (cx×V)}{xs:List (cx×ada×ac1)}(r:KT H aZ xs)(k:cx){b:ada}{y:V}{u:ac1}(J:g_ H k b)(cp:RelV y u) :
  KT H (putK aZ k y) (storedH xs k b u):=by
 have e:(aZ.any fun fg=>decide (fg.1=k))=(atKey xs k).isSome:=by rw[Dv,(r.val k).tj,ag5]
 unfold putK storedH;rw[e];by_cases q:(atKey xs k).isSome=true
 ·rw[if_pos q,if_pos q];exact r.BS k cp
 ·rw[if_neg q,if_neg q];exact Paired.snoc r ⟨rfl,J,cp⟩
theorem KT.keeps{H H':ah}{aZ:List (cx×V)}{xs:List (cx×ada×ac1)}(r:KT H aZ xs)(bT:∀b ys,H b=some (.tup ys)→H' b=some (.tup ys)):KT H' aZ xs:=
 Paired.Bm r fun _ _ z=>⟨z.1,z.2.1.mono bT,z.2.2⟩
section
variable{P:adp}{w:adJ}{H:ah}{h:adX}{a:ada}
theorem JX{u:dR}(ok:eb P w H h)(e:gA H a u):eK P w H h a u:=e.ok ok
theorem pn{aZ:List (Key×V)}(ok:eb P w H h)(e:gA H a (.dA aZ)):aZ.length≤adq∧(a==aez)=false∧∃vs,gH aZ vs∧h.DictOf (gD P w) a vs:=
 show eK P w H h a (.dA aZ)from JX ok e
theorem NX{aZ:List (Key×V)}(ok:eb P w H h)(e:H a=some (.dA aZ)):aZ.length≤adq∧(a==aez)=false∧∃vs,gH aZ vs∧h.DictOf (gD P w) a vs:=pn ok (.inl e)
theorem HY{ks:List Key}(ok:eb P w H h)(e:H a=some (.tup (ks.map da))):adL (gD P w) h ks a:=by obtain⟨_,its,r,o,h1,h2,n,h3⟩:=(show eK P w H h a (.tup (ks.map da))from ok a _ e);exact⟨o,its.toArray,n,h1,h2,h3,by simpa using HP r⟩
theorem Bs(ok:eb P w H h):∀{ks:cx}{vs:List V}{us:List ac1},Paired (mQ H) ks vs→Vals vs us→hF P w h ks us
 |_,_,_,.nil,.nil=>.nil
 |.inl _::_,_,_,.cons e t,.cons r q=>.cons (k:=.inl _) (pP (P:=P) (w:=w) (by rw[←show _=da _ from e];exact r)) (Bs ok t q)
 |.inr _::_,_,_,.cons ⟨b,e,z⟩ t,.cons r q=>.cons (k:=.inr _) ⟨b,by subst e;exact r,HY ok z⟩ (Bs ok t q)
theorem ri{ks:cx}(ok:eb P w H h)(e:g_ H ks a):(p6 P w).is h ks a:=by obtain⟨vs,e,p⟩:=e;obtain⟨_,its,r,o,h1,h2,n,h3⟩:=(show eK P w H h a (.tup vs)from ok a _ e);exact⟨o,its.toArray,n,h1,h2,h3,by simpa using Bs ok p r⟩
theorem n5{aZ:List (cx×V)}(ok:eb P w H h)(e:gA H a (.bx aZ)):aZ.length≤adq∧(a==aez)=false∧
  ∃xs,KT H aZ xs∧h.DictOfH (p6 P w) a xs:=by
 obtain⟨z,y,xs,r,o,es,bN,h1,h2,h3,h4,h5⟩:=(show eK P w H h a (.bx aZ)from JX ok e);refine⟨z,y,xs,r,o,es,bN,h1,h2,h3,h4,fun x ax=>?_,h5⟩;have all:∀{l:List (cx×V)}{m:List (cx×ada×ac1)},KT H l m→∀x∈m,(p6 P w).is h x.1 x.2.1:=by
  intro l m q;induction q with
  |nil=>intro x ax;exact nomatch ax
  | @cons p q ps jT aR t bQ=>
    intro x ax;rcases List.mem_cons.mp ax with e|ax
    ·subst e;exact ri ok (by rw[←aR.1];exact aR.2.1)
    ·exact bQ x ax
 exact all r x ax
theorem N1{aZ:List (cx×V)}(ok:eb P w H h)(e:H a=some (.bx aZ)):aZ.length≤adq∧(a==aez)=false∧
  ∃xs,KT H aZ xs∧h.DictOfH (p6 P w) a xs:=n5 ok (.inl e)
end
noncomputable def iw(H:ah)(a:ada)(y:V)(r:Option V):Prop:=
 (∃aZ k,gA H a (.dA aZ)∧y=da k∧r=gR aZ k)∨∃aZ k b,gA H a (.bx aZ)∧y=.ref b∧g_ H k b∧r=gR aZ k
noncomputable def sd(H:ah)(a:ada)(y v:V)(H':ah):Prop:=
 (∃aZ k,H a=some (.dA aZ)∧y=da k∧aZ.length<adq∧H'=upd H a (.dA (putK aZ k v)))∨
 ∃aZ k b,H a=some (.bx aZ)∧y=.ref b∧g_ H k b∧aZ.length<adq∧H'=upd H a (.bx (putK aZ k v))
theorem iw.t{H:ah}{a b:ada}{aZ:List (cx×V)}{k:cx}(e:H a=some (.bx aZ))(bj:g_ H k b):iw H a (.ref b) (gR aZ k):=.inr ⟨aZ,k,b,.inl e,rfl,bj,rfl⟩
theorem sd.t{H:ah}{a b:ada}{aZ:List (cx×V)}{k:cx}{v:V}(e:H a=some (.bx aZ))(bj:g_ H k b)(ai:aZ.length<adq) :
  sd H a (.ref b) v (upd H a (.bx (putK aZ k v))):=.inr ⟨aZ,k,b,e,rfl,bj,ai,rfl⟩
section
variable{X:aQ}{pins:List (ada×Obj)}{σ :St}{H:ah}{s:ac4}{a:ada}{y v:V}{u r:ac1}{o:Option V}{A:adG}{E:ac1→ac4→Prop}
theorem Inv.big(I:Inv X pins σ H s):aez<s.heap.objs.size:=by have h:ado<s.heap.objs.size:=(I.mod.glob.keeps I.fV).lt;exact afJ (by decide) h
theorem NF{Q:ac1→ac4→Prop}(aJ:A.units+16<aew)(I:Inv X pins σ H s)(g:iw H a y (some v))(cp:RelV y u)(h:∀eQ s',Inv X pins σ H s'→RelV v eQ→Q eQ s') :
  adm (adu X.prog X.w) A (getItem (.ref a) u) Q E s:=by
 rcases g with⟨aZ,k,e,dN,l⟩|⟨aZ,k,b,e,dN,bj,l⟩
 ·subst dN;obtain⟨z,hd,vs,rel,dd⟩:=pn I.bL e;obtain⟨eQ,hw,jU⟩:=hx.some_of (v:=v) (o:=ai2 vs k) (by rw[l];exact rel.val k);exact wpAny_getItem_of (pP cp) dd.mapOf hw (h eQ _ (I.tok _) jU)
 ·subst dN;cases(show u=adx b from cp);obtain⟨z,hd,xs,rel,dd⟩:=n5 I.bL e;obtain⟨eQ,hw,jU⟩:=hx.some_of (v:=v) (o:=(atKey xs k).map (·.2)) (by rw[l];exact rel.val k);obtain⟨p,aS,Qb⟩:=Option.map_eq_some_iff.mp hw;refine wpAny_getItem_heap (nest_room aJ) (ri I.bL bj) dd aS ?_;rw[Qb];exact h eQ _ (I.tok _) jU
theorem NG{Q:ac1→ac4→Prop}(aJ:A.units+16<aew)(I:Inv X pins σ H s)(g:iw H a y o)(cp:RelV y u)(h:∀s',Inv X pins σ H s'→Q (.bool o.isSome) s') :
  adm (adu X.prog X.w) A (ad0 .In u (.ref a)) Q E s:=by
 rcases g with⟨aZ,k,e,dN,l⟩|⟨aZ,k,b,e,dN,bj,l⟩
 ·subst dN;obtain⟨z,hd,vs,rel,dd⟩:=pn I.bL e;refine wpAny_in_of (pP cp) hd dd.mapOf ?_;rw[←(rel.val k).tj,←l];exact h _ (I.tok _)
 ·subst dN;cases(show u=adx b from cp);obtain⟨z,hd,xs,rel,dd⟩:=n5 I.bL e;refine wpAny_in_heap (nest_room aJ) (ri I.bL bj) hd dd ?_;have q:=(rel.val k).tj;rw[ag5]at q;rw[←q,←l];exact h _ (I.tok _)
theorem NH{Q:ac1→ac4→Prop}(aJ:A.units+16<aew)(I:Inv X pins σ H s)(g:iw H a y o)(cp:RelV y u)(h:∀s',Inv X pins σ H s'→Q (.bool (!o.isSome)) s') :
  adm (adu X.prog X.w) A (ad0 .NotIn u (.ref a)) Q E s:=by
 rcases g with⟨aZ,k,e,dN,l⟩|⟨aZ,k,b,e,dN,bj,l⟩
 ·subst dN;obtain⟨z,hd,vs,rel,dd⟩:=pn I.bL e;refine wpAny_notIn_of (pP cp) hd dd.mapOf ?_;rw[←(rel.val k).tj,←l];exact h _ (I.tok _)
 ·subst dN;cases(show u=adx b from cp);obtain⟨z,hd,xs,rel,dd⟩:=n5 I.bL e;refine wpAny_notIn_heap (nest_room aJ) (ri I.bL bj) hd dd ?_;have q:=(rel.val k).tj;rw[ag5]at q;rw[←q,←l];exact h _ (I.tok _)
theorem E7{h':adX}{t':Nat}{bf:dR}(I:Inv X pins σ H s)(jk:sm (H a))(hs:adZ a s.heap h')(he:∃q,h'.get? a=some q)(new:eK X.prog X.w (upd H a bf) h' a bf) :
  Inv X pins σ (upd H a bf) { s with heap:=h',toks:=t' }:=
 I.write (x:=a) (e:=a) jk (.inl rfl) (fun b q J z=>(hs.2 b J).trans z) he new
theorem NW{P:adp}{w:adJ}{H':ah}{h':adX}{aZ:List (Key×V)}{vs:List (Key×ac1)}(z:aZ.length≤adq)(hd:(a==aez)=false)(rel:gH aZ vs)(dd:h'.DictOf (gD P w) a vs) :
  eK P w H' h' a (.dA aZ):=⟨z,hd,vs,rel,dd⟩
theorem NJ{H':ah}{Q:Unit→ac4→Prop}(aJ:A.units+16<aew)(I:Inv X pins σ H s)(g:sd H a y v H')(cp:RelV y u)(cg:RelV v r)(h:∀s',Inv X pins σ H' s'→Q () s') :
  adm (adu X.prog X.w) A (setItem (.ref a) u r) Q E s:=by
 rcases g with⟨aZ,k,e,dN,l,zT⟩|⟨aZ,k,b,e,dN,bj,l,zT⟩
 ·subst dN zT;obtain⟨z,hd,vs,rel,dd⟩:=NX I.bL e;have bo:vs.length≤adq:=by rw[←rel.length];exact z
  have ai:(putK aZ k v).length≤adq:=by have:=Io aZ k v;omega
  refine wpAny_setItem_pairs (hsz:=bo) (pP cp) dd fun h' vu hs=>h _ ?_;have he:∃q,h'.get? a=some q:=let⟨q,_,_,aR,_⟩:=vu;⟨q,aR⟩
  exact E7 I (by rw[e];exact afp) hs he (NW ai hd (rel.put k cg) vu)
 ·subst dN zT;cases(show u=adx b from cp);obtain⟨z,hd,xs,rel,dd⟩:=N1 I.bL e;have bo:xs.length≤adq:=by rw[←Paired.length rel];exact z
  have ai:(putK aZ k v).length≤adq:=by have:=Io aZ k v;omega
  refine wpAny_setItem_heap (hsz:=bo) (nest_room aJ) (ri I.bL bj) dd fun h' vu hs=>h _ ?_;obtain⟨q,es,bN,aR,h2,h3,h4,_,h5⟩:=vu;refine E7 I (by rw[e];exact afp) hs ⟨q,aR⟩ ⟨ai,hd,_,(rel.put k bj cg).keeps fun c ys ec=>?_,q,es,bN,aR,h2,h3,h4,h5⟩;rw[dV (Uc ec e (fun z=>nomatch z))];exact ec
end
section
variable{X:aQ}{pins:List (ada×Obj)}{σ :St}{H:ah}{s:ac4}{a:ada}{aZ:List (Key×V)}{k:Key}{u:ac1}{A:adG}{E:ac1→ac4→Prop}
end
def yD(i:adI):Prop:=∀fQ oj,aiE i false fQ oj=operate [fQ,oj] (getItem fQ oj)
theorem Yd{prog:adp}{w:adJ}{A:adG}{E:ac1→ac4→Prop}{s:ac4}{env:Env}{value slice:adI}{pos:Pos}{T id:String}{Q:ac1→ac4→Prop}(ai:typeLookup (.type T) "__getitem__"=pure (some (.builtin id)))(hs:yD slice)(h:adm (adu prog w) A (aeq value env) (fun o c6=>adm (adu prog w) A (aeq slice env) (fun i ih=>ih.TypeIs o T∧adm (adu prog w) A (getItem o i) Q E ih) E c6) E s) :
  adm (adu prog w) A (aeq (.Subscript value slice pos) env) Q E s:=by
 refine Subscript_ (ad9 h (fun o c6 jJ=>ad9 jJ (fun i ih k7=>?_) fun _ _ x=>x) fun _ _ x=>x);obtain⟨d4,k7⟩:=k7;unfold subscriptTail;refine acZ ?_;rw[getitemInPython_of_ne d4.not_modules];refine acZ (ae1 d4 ai ?_);have fin:adm (adu prog w) A (aiE slice false o i) (fun r oN=>adm (adu prog w) A (letTemporaryGo value o r>>=fun _=>pure r) Q E oN) E ih:=by rw[hs o i];exact wpAny_operating (ad9 k7 (fun r oN mb=>acZ (wpAny_letTemporaryGo (ac3 mb))) fun _ _ x=>x)
 first
  |exact ac3 (acZ fin)
  |exact acZ (ac3 (acZ fin))
  |exact acZ fin
theorem NU{X:aQ}{pins:List (ada×Obj)}{σ :St}{H:ah}{s:ac4}{a:ada}{y:V}{o:Option V}(I:Inv X pins σ H s)(g:iw H a y o):s.TypeIs (.ref a) "dict":=by
 rcases g with⟨aZ,k,e,_,_⟩|⟨aZ,k,b,e,_,_,_⟩
 ·obtain⟨_,_,vs,_,dd⟩:=pn I.bL e;exact dd.typeIs
 ·obtain⟨_,_,xs,_,dd⟩:=n5 I.bL e;exact dd.typeIs
noncomputable def KQ(gP ty:TE):TE:=fun σ H Q=>gP σ H fun x H1=>ty σ H1 fun y bk=>∃a v,x=.ref a∧iw bk a y (some v)∧Q v bk
noncomputable def KS(ty gP:TE):TE:=fun σ H Q=>ty σ H fun y H1=>gP σ H1 fun x bk=>∃a o,x=.ref a∧iw bk a y o∧Q (.aF o.isSome) bk
noncomputable def KU(ty gP:TE):TE:=fun σ H Q=>ty σ H fun y H1=>gP σ H1 fun x bk=>∃a o,x=.ref a∧iw bk a y o∧Q (.aF (!o.isSome)) bk
noncomputable def W3(gP ty nC:TE):e1:=fun D σ H=>nC σ H fun v H1=>gP σ H1 fun x bk=>ty σ bk fun y dy=>∃a gV,x=.ref a∧sd dy a y v gV∧D.bO σ gV
section
variable{X:aQ}{o i e value:adI}{pos pos' qj:Pos}{gP ty nC:TE}
theorem Vs(aJ:X.A.units+16<aew)(aE:a6 X o gP)(ar:a6 X i ty)(hs:yD i):a6 X (.Subscript o i pos) (KQ gP ty):=by intro pins s σ H Q I h;refine Yd PySem.F.slot_dict_getitem.lookup hs (bZ (aE pins s σ H _ I h) fun u s1⟨x,H1,a0,bH,aV⟩=>bZ (ar pins s1 σ H1 _ a0 aV) fun oj s2⟨y,bk,ck,cp,a,v,ex,g,bE⟩=>?_);subst ex;obtain rfl:u=adx a:=bH;exact⟨NU ck g,NF aJ ck g cp fun eQ s3 ed jU=>⟨v,bk,ed,jU,bE⟩⟩
theorem Jl(aJ:X.A.units+16<aew)(ar:a6 X i ty)(aE:a6 X o gP):u0 X .In i o (KS ty gP):=by intro pins s σ H Q I h;refine bZ (ar pins s σ H _ I h) fun oj s1⟨y,H1,a0,cp,aV⟩=>bZ (aE pins s1 σ H1 _ a0 aV) fun u s2⟨x,bk,ck,bH,a,fQ,ex,g,bE⟩=>?_;subst ex;obtain rfl:u=adx a:=bH;exact NG aJ ck g cp fun s3 ed=>⟨.aF fQ.isSome,bk,ed,rfl,bE⟩
theorem Vk(aJ:X.A.units+16<aew)(ar:a6 X i ty)(aE:a6 X o gP):u0 X .NotIn i o (KU ty gP):=by intro pins s σ H Q I h;refine bZ (ar pins s σ H _ I h) fun oj s1⟨y,H1,a0,cp,aV⟩=>bZ (aE pins s1 σ H1 _ a0 aV) fun u s2⟨x,bk,ck,bH,a,fQ,ex,g,bE⟩=>?_;subst ex;obtain rfl:u=adx a:=bH;exact NH aJ ck g cp fun s3 ed=>⟨.aF (!fQ.isSome),bk,ed,rfl,bE⟩
theorem V5(aJ:X.A.units+16<aew)(aE:a6 X o gP)(ar:a6 X i ty)(bW:a6 X value nC)(hs:afB value (some (.Subscript o i pos')) pos.line X.env=pure false) :
  dG X (.Assign [.Subscript o i pos'] value pos) (W3 gP ty nC):=by
 intro pins s σ H D I h;refine wpAny_Assign_Subscript (bZ (bW pins s σ H _ I h) fun r s1⟨v,H1,a0,cg,aV⟩=>bZ (aE pins s1 σ H1 _ a0 aV) fun u s2⟨x,bk,ck,bH,bE⟩=>bZ (ar pins s2 σ bk _ ck bE) fun oj s3⟨y,dy,ed,cp,a,gV,ex,g,er⟩=>?_) hs;subst ex;obtain rfl:u=adx a:=bH;exact NJ aJ ed g cp cg fun s4 j1=>⟨σ,gV,j1,er⟩
end
theorem N0{P:adp}{w:adJ}{H:ah}(h:adX)(J:aez<h.objs.size):eK P w H (h.push { cls:=.type "dict",data:=.dict #[] }) h.objs.size (.bx []):=
 ⟨aeB _,beq_eq_false_iff_ne.mpr (agS (ady J)),[],.nil,_,#[],0,ac9 _ rfl,⟨rfl,rfl,rfl⟩,rfl,rfl,afC⟩
def Yi:TE:=fun _ H Q=>∀p,H p=none→Q (.ref p) (upd H p (.bx []))
section
variable{X:aQ}{pos:Pos}
theorem Vu:a6 X (.Dict [] [] pos) Yi:=fun pins s σ H Q I h=>
 wpAny_Dict_empty ⟨.ref s.heap.objs.size,_,I.laid (a:=s.heap.objs.size) (o:=.bx []) (t':=s.toks) (fun _ _ q=>ac0 _ q) (ac6 _) (N0 s.heap I.big),rfl,h _ (I.bL.fresh (ac6 _))⟩
end
structure Ml(X:aQ)(o:adI)(m:Str)(apos:Pos)(e:adI)(ct:Pos):Prop where
 base:aeb o m X.env (aeq o X.env)=aeq o X.env
 few:((adR ct (ac5 [e] X.env)).all (fun x=>!x.1)&&(ae7 ct (aee [] X.env)).all (fun x=>x.1.isSome)
  &&decide (([e]:List adI).length+([]:List ae3).length+(if([]:List ae3).isEmpty then 0 else 1)<30))=true
 line:(apos.endLine==ct.line)=true
 trees:adR ct (ac5 [e] X.env)=[(false,aeq e X.env)]
def D6(H:ah)(a:ada):Prop:=(∃aZ,gA H a (.dA aZ))∨∃aZ,gA H a (.bx aZ)
theorem RD{X:aQ}{pins:List (ada×Obj)}{σ :St}{H:ah}{s:ac4}{a:ada}(I:Inv X pins σ H s)(d:D6 H a) :
  s.TypeIs (.ref a) "dict"∧(∀b,adx a=.ref b→∃bf,s.heap.get? b=some bf∧bf.dict=none)∧(a==aez)=false:=by
 rcases d with⟨aZ,e⟩|⟨aZ,e⟩
 ·obtain⟨_,hd,vs,_,dd⟩:=pn I.bL e;refine⟨dd.typeIs,fun b q=>?_,hd⟩;cases q;obtain⟨bf,_,_,h1,h2,_⟩:=dd;exact⟨bf,h1,h2.2.1⟩
 ·obtain⟨_,hd,xs,_,dd⟩:=n5 I.bL e;refine⟨dd.typeIs,fun b q=>?_,hd⟩;cases q;obtain⟨bf,_,_,h1,h2,_⟩:=dd;exact⟨bf,h1,h2.2.1⟩
section
variable{X:aQ}{pins:List (ada×Obj)}{σ :St}{H:ah}{s:ac4}{a:ada}{y d:V}{u r:ac1}{o:Option V}{A:adG}{E:ac1→ac4→Prop}
theorem ND{Q:ac1→ac4→Prop}(aJ:A.units+16<aew)(I:Inv X pins σ H s)(g:iw H a y o)(cp:RelV y u)(h:∀eQ s',Inv X pins σ H s'→RelV (o.getD .non) eQ→Q eQ s') :
  adm (adu X.prog X.w) A (call (.builtin "dict.get") [.ref a,u]) Q E s:=by
 rcases g with⟨aZ,k,e,dN,l⟩|⟨aZ,k,b,e,dN,bj,l⟩
 ·subst dN;obtain⟨z,hd,vs,rel,dd⟩:=pn I.bL e;refine call_meetsIn PySem.F.slot_dict_get dd.typeIs PySem.F.entry_dict_get (PySem.F.args_dict_get_2 _ _) (meets_dict_get (gD X.prog X.w) a (pP cp) hd) ⟨_,dd.mapOf,h _ _ (I.tok _) ?_⟩;rw[l];exact(rel.val k).getD rfl
 ·subst dN;cases(show u=adx b from cp);obtain⟨z,hd,xs,rel,dd⟩:=n5 I.bL e;refine call_meetsIn PySem.F.slot_dict_get dd.typeIs PySem.F.entry_dict_get (PySem.F.args_dict_get_2 _ _) (meetsH_dict_get (p6 X.prog X.w) a b hd) ⟨nest_room aJ,k,xs,ri I.bL bj,dd,h _ _ (I.tok _) ?_⟩;rw[l];exact(rel.val k).getD rfl
end
noncomputable def KR(gP ty:TE):TE:=fun σ H Q=>gP σ H fun x H1=>∃a,x=.ref a∧D6 H1 a∧ty σ H1 fun y bk=>∃o,iw bk a y o∧Q (o.getD .non) bk
section
variable{X:aQ}{o e f:adI}{apos ct:Pos}{gP ty abP:TE}
theorem Vt(aJ:X.A.units+16<aew)(aE:a6 X o gP)(he:a6 X e ty)(m:Ml X o "get" apos e ct):a6 X (.Call (.Attribute o "get" apos) [e] [] ct) (KR gP ty):=by intro pins s σ H Q I h;refine wpAny_Call_method m.base m.few m.line PySem.F.plainAttrs_dict PySem.F.slot_dict_get PySem.F.type_dict_get (bZ (aE pins s σ H _ I h) fun u s1⟨x,H1,a0,bH,a,ex,d,aV⟩=>?_);subst ex;obtain rfl:u=adx a:=bH;obtain⟨t1,cy,_⟩:=RD a0 d;refine⟨t1,cy,?_⟩;rw[m.trees];refine ahu rfl (agl (afP (bZ (he pins s1 σ H1 _ a0 aV) fun oj s2⟨y,bk,ck,cp,fQ,g,bE⟩=>af2 ?_)));exact ND aJ ck g cp fun eQ s3 ed jU=>⟨_,bk,ed,jU,bE⟩
end
section
variable{X:aQ}{pins:List (ada×Obj)}{σ :St}{H:ah}{s:ac4}{a:ada}{aZ:List (Key×V)}{A:adG}{E:ac1→ac4→Prop}
end
section
variable{X:aQ}{pins:List (ada×Obj)}{σ :St}{H:ah}{s:ac4}{a:ada}{y:V}{u:ac1}{A:adG}{E:ac1→ac4→Prop}
end
end a3
namespace DZ
open PySem PySem.W PySem.Calls PyProof.Rows
theorem Rz{P:Params}{h:adX}:∀(ns:List Int)(vs:List ac1),WellAll P h vs (ns.map WData.int)→IntsAre vs ns:=by
 intro ns;induction ns with
 |nil=>intro vs w;rw[ahK]at w;cases w;exact .nil
 |cons n ns bQ=>
  intro vs w;rw[adi]at w;cases w with
  |cons a b=>cases a;exact .cons _ _ (bQ _ b)
theorem Xz{l:OpenLaw}{n:Nat}(aK:l.most=some n){P:Params}{h:adX}{args:List WData}{vals:List ac1}(vW:l.row.toRowW.claim.pre args=true)(AK:WellAll P h vals args) :
  ∃a vs ns,vals=[adx a]∧args=[WData.list (ns.map WData.int)]∧h.get? a=some { cls:=.type "list",data:=.seq vs.toArray }∧IntsAre vs ns∧ns.length≤n:=by
 have Qi:WShape.hasAll [] args [.list .int]=true:=(pre_splitW vW).1;have aB:l.pre.holds [] { args:=args }=true:=(pre_splitW vW).2;obtain⟨d,r,rfl,h1,h2⟩:=hasAllW_cons Qi;obtain rfl:=hasAllW_nil h2;obtain⟨xs,rfl,h3⟩:=hasW_list h1;obtain⟨ns,rfl⟩:=items_int h3;have hlen:ns.length≤n:=by
  unfold OpenLaw.pre at aB;have h4:(WTm.not (.lt (.lit (.int (n:Int))) (.len (.arg 0)))).holds [] { args:=[.list (ns.map .int)] }=true:=by have h4:=(holds_andW aB).1;rw[aK]at h4;exact h4
  have h5:=condW_of h4 (w_not (w_lt w_lit (w_len_list (w_arg rfl))));rw[adE]at h5;refine Nat.le_of_not_lt fun q=>?_;have dU:(n:Int)<((ns.length:Nat):Int):=by omega
  first
   |(rw[decide_eq_true dU]at h5;exact absurd h5 (by decide))
   |(simp at h5;omega)
 cases AK with
 |cons nE kG=>
  cases kG;cases nE with
  |list aE q4=>exact⟨_,_,ns,rfl,rfl,aE,Rz ns _ q4,hlen⟩
theorem V0(l:OpenLaw)(args:List WData):l.row.toRowW.claim.post args (.bool true) args=true:=
 postW_of (r:=l.row.toRowW) (X:=(true==true))
  (show WShape.has [] (.bool true) .bool=true by first|rfl|decide|simp[WShape.has,WShape.arms,WShape.armsAll])
  (show(WTm.eq .res (.lit (.bool true))).value [] { args:=args,res:=some (.bool true),after:=args }=some (.bool (true==true))from w_eq_bool (w_res rfl) w_lit) rfl
theorem MP {l:OpenLaw} {n:Nat} {q:adp} {loose:List Str} {qG:(Str→Option ac1)→adX→Prop} {nV:adJ→adX→Prop} {d:DefRec}(aK:l.most=some n) (sZ:d.params.defaults=[])(call:∀(w:adJ)(fy c6:ac4)(mg gC:Str→Option ac1)(fu:ada)(o:Obj)(pm cd doc:ac1)(a:ada)(vs:List ac1)(ns:List Int),
    Ground q loose [] qG w fy mg gC c6.heap→nV w c6.heap→
    c6.heap.get? fu=some o→o.data=.func (docDef d.name d.params d.body d.scope pm cd doc)→c6.heap.CodeRec cd d.name→mg d.name=some (.ref fu)→
    c6.heap.get? a=some { cls:=.type "list",data:=.seq vs.toArray }→IntsAre vs ns→ns.length≤n→c6.gens= #[]→
    ahd (adu l.prog w) ai3 (.call (.ref fu) ⟨[.ref a],[]⟩) (fun r s'=>r=.ok (.ret (.bool true))∧OldK c6.heap s'.heap∧s'.os=c6.os∧ahc s'.gens) c6) :
  WalkO q loose qG nV l.row.toRowW d [] (fun f vs=>PySem.call f vs):=by
 intro w fy c6 mg gC G Y fu o pm cd doc vt da aE hd en GO s_ aO args vals as vW aaE aaK AK aaF;obtain rfl:vt=.none:=Dflts.none GO sZ;obtain rfl:da=.none:=Dflts.noKw GO;obtain⟨a,vs,ns,rfl,rfl,AB,hints,hlen⟩:=Xz aK vW AK;refine enter_call (aga (call w fy c6 mg gC fu o pm cd doc a vs ns G Y aE (fd_plain hd) en s_ AB hints hlen aO) fun r s' aR=>?_);obtain⟨rfl,h2,h3,h4⟩:=aR;exact⟨.inl ⟨.bool true,.bool true,[],rfl,fun _=>rfl,.bool true,V0 l _,fun _=>⟨ai4,fun _ hm=>(nomatch hm)⟩⟩,h2,h3,h4⟩
section
variable{prog:adp}{w:adJ}{A:adG}{E:ac1→ac4→Prop}{s:ac4}{K:Frag}
end
end DZ
namespace a3
open PySem PySem.Spec PyProof.Rows
theorem Lm:∀{vs:List ac1}{ns:List Int},IntsAre vs ns→Vals (ns.map V.int) vs
 |_,_,.nil=>.nil
 |_,_,.cons n t h=>.cons ⟨t,rfl⟩ (Lm h)
def yE(H:ah):Prop:=∀b,H b=none∨∃o xs,H b=some (.jB o (.lst xs))
theorem S4{P:adp}{w:adJ}{K:PySem.W.Frag}{mg gC:Str→Option ac1}{CX:j0}{k:Nat}{fu a:ada}{fd:aet}{x:Str}{sp:i7}{c6:ac4}{vs:List ac1}{ns:List Int}(kM:K.In c6.heap)(Hb:c6.heap.Ns ado mg)(J:c6.heap.Ns builtinsNs gC)(An:∀x:Str,x≠"__name__"→gC x=aer x)(PS:c6.heap.NoLimit)(aO:c6.gens= #[])(ag:c6.heap.get? a=some { cls:=.type "list",data:=.seq vs.toArray })(ar:IntsAre vs ns)(ai:ns.length≤adq)(au:dW k ai3)(F:∀base:adX,K.In base→base.Ns ado mg→hr P w K mg base CX k fu fd [x] sp)(Pj:∀(s:ac4)(u:ac1),BindsTo s fd ⟨[u],[]⟩ [(x,u)])(oe:∀H:ah,yE H→b7 K H a (ns.map V.int)→sp [.ref a] H (fun v _=>v=.aF true) fun _ _ _=>False)(Aj:∀H e s',CX [] H c6 (fun _ _ _=>False) e s'→False) :
  ahd (adu P w) ai3 (.call (.ref fu) ⟨[.ref a],[]⟩) (fun r s'=>r=.ok (.ret (.bool true))∧OldK c6.heap s'.heap∧s'.os=c6.os∧ahc s'.gens) c6:=by
 have cg:=Lm ar;have Te:=ar.length
 have core:∀H:ah,yE H→b7 K H a (ns.map V.int)→eb P w H c6.heap→(∀b,H b≠none→b=a)→(H a≠none→K.lookup a=none)→
   ahd (adu P w) ai3 (.call (.ref fu) ⟨[.ref a],[]⟩) (fun r s'=>r=.ok (.ret (.bool true))∧OldK c6.heap s'.heap∧s'.os=c6.os∧ahc s'.gens) c6:=by
  intro H vO iN bL iM a5;have EE:∀{b:ada}{o:Obj},c6.heap.get? b=some o→H b=none→(m4 c6.heap H).get? b=some o:=fun e n=>PF e n;have t4:∀{b:ada}{o:Obj}{es:Array agA}{bN:Nat},c6.heap.get? b=some o→o.data=.dict es bN→H b=none:=fun{b o es bN} e d=>by
   cases q:H b with
   |none=>rfl
   |some u=>have cn:b=a:=iM b (by rw[q];simp);subst cn;rw[ag]at e;cases e;have d':aje vs.toArray _=Data.dict es bN:=d;cases d'
  have w1:∀{b:ada}{m:Str→Option ac1},c6.heap.Ns b m→(m4 c6.heap H).Ns b m:=fun{b m}⟨o,es,bN,e,d,r⟩=>⟨o,es,bN,EE e (t4 e d),d,r⟩;have GP:K.In (m4 c6.heap H):=fun b o e=>EE (kM b o e) (by
   cases q:H b with
   |none=>rfl
   |some u=>have cn:b=a:=iM b (by rw[q];simp);subst cn;rw[a5 (by rw[q];simp)]at e;cases e)
  have pH:Mod K mg (m4 c6.heap H):=⟨GP,w1 Hb,⟨gC,w1 J,An⟩,let⟨wR,h1,h2⟩:=PS;⟨wR,w1 h1,h2⟩⟩;have cI:oZ P w K mg (m4 c6.heap H) ai3 [] c6 H:=⟨rfl,pH,fun b o e=>UG e,ai7 (PG _ _),trivial,fun b J=>absurd (show b∈([]:List ada)from J) (by simp),bL,.of_eq aO⟩;refine aga ((F _ GP (w1 Hb)).run ai3 [] c6 H ⟨[.ref a],[]⟩ [.ref a] [.ref a] _ _ au cI (Pj c6 (.ref a)) (.cons rfl .nil) (oe H vO iN)) fun r s' h=>?_;cases r with
  |error e=>exact(Aj H e s' h).elim
  |ok hi=>
   cases hi with
   |next=>exact aeI h
   |brk=>exact aeI h
   |cont=>exact aeI h
   |ret u=>
    obtain⟨v,H',os,bare,un,P8,bF,q⟩:=h;have dU:v=.aF true:=q;subst dU;obtain rfl:u=ag1 true:=bF;refine⟨rfl,OldK.of_keep fun b o e=>?_,os,bare⟩;cases q:H b with
    |none=>exact un.keep b o e q (by intro z;exact absurd (show b∈([]:List ada)from z) (by simp)) (by simp)
    |some u=>
     rcases vO b with z|⟨bf,xs,z⟩
     ·rw[q]at z;cases z
     ·have a9:=un.jC b bf _ z;obtain⟨aq,_⟩:=bL b _ z;obtain⟨aD,_⟩:=P8 b _ a9;rw[e]at aq;cases aq;exact aD
 cases aH:K.lookup a with
 |some o=>have e:=kM a o aH;rw[ag]at e;cases e;refine core (fun _=>none) (fun _=>.inl rfl) (.inr ⟨_,vs.toArray,_,aH,rfl,rfl,rfl,by rw[ac8,Te];exact ai,by simpa using cg⟩) (fun b u z=>by have fA:(none:Option dR)=some u:=z;cases fA) (fun b z=>absurd rfl z) fun z=>absurd rfl z
 |none=>
  refine core (fun b=>if b=a then some (.jB { cls:=.type "list",data:=.seq vs.toArray } (.lst (ns.map V.int)))else none) (fun b=>?_) (.inl (.inr ⟨{ cls:=.type "list",data:=.seq vs.toArray },if_pos rfl⟩)) (fun b u z=>?_) (fun b z=>?_) fun _=>aH
  ·by_cases J:b=a
   ·exact .inr ⟨_,_,if_pos J⟩
   ·exact .inl (if_neg J)
  ·by_cases J:b=a
   ·have fA:=(if_pos J).symm.trans z;cases fA;subst J;exact⟨ag,by rw[adE];exact ai,vs,_,cg,ag⟩
   ·have fA:=(if_neg J).symm.trans z;cases fA
  ·by_cases J:b=a
   ·exact J
   ·exact absurd (if_neg J) z
theorem Zc {l:PySem.W.OpenLaw} {n k:Nat} {q:adp} {loose:List Str} {qG:(Str→Option ac1)→adX→Prop} {nV:adJ→adX→Prop} {d:DefRec} {K:Params→PySem.W.Frag} {CX:adJ→j0} {sp:adJ→i7} {x:Str}(aK:l.most=some n) (vU:n≤adq) (sZ:d.params.defaults=[]) (au:dW k ai3)(Am:∀(w:adJ)(h:adX),nV w h→(K w.params).In h)(F:∀(w:adJ)(mg:Str→Option ac1)(fu:ada)(h:adX),(K w.params).In h→h.Ns ado mg→mg d.name=some (.ref fu)→
    ∃fd:aet,(∀(s:ac4)(u:ac1),BindsTo s fd ⟨[u],[]⟩ [(x,u)])∧
     ∀base:adX,(K w.params).In base→base.Ns ado mg→hr l.prog w (K w.params) mg base (CX w) k fu fd [x] (sp w))
  (oe:∀(w:adJ)(H:ah)(a:ada)(ns:List Int),ns.length≤n→yE H→b7 (K w.params) H a (ns.map V.int)→sp w [.ref a] H (fun v _=>v=.aF true) fun _ _ _=>False)
  (Aj:∀(w:adJ)(H:ah)(s:ac4)(e:ac1)(s':ac4),CX w [] H s (fun _ _ _=>False) e s'→False) :
  PySem.W.WalkO q loose qG nV l.row.toRowW d [] (fun f vs=>PySem.call f vs):=by
 refine DZ.MP aK sZ fun w fy c6 mg gC fu o pm cd doc a vs ns G Y aE hd en s_ AB hints hlen aO=>?_;have kM:=Am w _ Y;obtain⟨fd,J,l6⟩:=F w mg fu _ kM G.T.g s_;exact S4 kM G.T.g G.T.b G.T.builtins G.T.nolimit aO AB hints (adB hlen vU) au l6 J (fun H vO iN=>oe w H a ns hlen vO iN) fun H e s'=>Aj w H c6 e s'
noncomputable def inClass(s:aep)(j:Nat):aep:=match s with
 |.ClassDef _ _ _ body _ _ _ _ _ _ _=>body.getD j (.Pass ⟨0,0,0,0⟩)
 |_=>.Pass ⟨0,0,0,0⟩
noncomputable def jA(s:aep):Arguments:=match s with
 |.FunctionDef _ a _ _ _ _ _ _ _ _=>a
 |_=>{ posonlyargs:=[],args:=[],vararg:=none,kwonlyargs:=[],kw_defaults:=[],kwarg:=none,defaults:=[] }
def gh(s:aep):List aep:=match s with
 |.FunctionDef _ _ b _ _ _ _ _ _ _=>b
 |_=>[]
noncomputable def b1(s:aep):ae6:=match s with
 |.FunctionDef _ _ _ _ _ _ sc _ _ _=>sc
 |_=>{ kind:=.function,names:=[],isGenerator:=false,isCoroutine:=false }
abbrev g7:j0:=fun _ _ _ _ _ _=>False
abbrev yp:dh:=fun _ _ _=>False
theorem t_{X:aQ}:Passes g7 X yp:=fun _ _ _ _ _ _ _ h=>h.elim
structure kJ(K:PySem.W.Frag)(x qual:Str)(st:aep)(f:ada)(fd:aet):Prop where
 ex:∃(fo:ac1)(dP:Option ada)(da doc pm:ac1)(an:Option ada)(cv c_:ac1)(lu:Array (Option ac1)),
  fd=PySem.W.fnOf x qual (jA st) (gh st) (b1 st) .none da doc pm an cv c_∧K.lookup f=some ⟨fo,dP,.func fd,lu⟩∧PySem.W.codeIn K cv qual=true
 aM:PySem.W.keepIn K (.ref f)=true
section
variable{P:adp}{w:adJ}{K:PySem.W.Frag}{mg:Str→Option ac1}{base:adX}
theorem kJ.ok {x qual:Str} {st:aep} {f:ada} {fd:aet} {N ps:List Str} {k:Nat} {sp:i7} (F:kJ K x qual st f fd) (S:cS N ps (b1 st)) (len:∀vs H Q E,sp vs H Q E→vs.length=ps.length)(Ao:∀(cv:ac1)(A:adG)(outer:List Env)(s:ac4)(H:ah)(vs:List V)(Q:cX)(E:dh),dW k (A.deeper (ai_ qual (b1 st) s.heap.objs.size f cv))→sp vs H Q E→
    ∃t,f_ (e3 g7 P w K mg base N qual (b1 st) f cv A outer s H E).hB (gh st) t∧t { bO:=fun _ H'=>Q .non H',dJ:=Q } (start N vs) H):hr P w K mg base g7 (k+1) f fd ps sp:=by
 obtain⟨fo,dP,da,doc,pm,an,cv,c_,lu,rfl,lk,en⟩:=F.ex;refine Gy lk en S len fun A outer s H vs Q E au oe=>?_;obtain⟨t,h,q⟩:=Ao cv A outer s H vs Q E au oe;exact⟨t,h.hB,q⟩
theorem kJ.binds{x qual:Str}{st:aep}{f:ada}{fd:aet}{ps:List Str}(F:kJ K x qual st f fd)(h:∀(da doc pm:ac1)(an:Option ada)(cv c_:ac1)(us:List ac1),us.length=ps.length→aiS (PySem.W.fnOf x qual (jA st) (gh st) (b1 st) .none da doc pm an cv c_) ⟨us,[]⟩=pure (ps.zip us)):Binds K fd ps []:=by obtain⟨fo,dP,da,doc,pm,an,cv,c_,lu,rfl,lk,en⟩:=F.ex;exact .all (h da doc pm an cv c_)
theorem pF{x qual:Str}{st:aep}{f:ada}{fo:ac1}{dP an:Option ada}{lu:Array (Option ac1)}{da doc pm cv c_:ac1}(l:K.lookup f=some ⟨fo,dP,.func (PySem.W.fnOf x qual (jA st) (gh st) (b1 st) .none da doc pm an cv c_),lu⟩)(c:PySem.W.codeIn K cv qual=true)(k:PySem.W.keepIn K (.ref f)=true):kJ K x qual st f (PySem.W.fnOf x qual (jA st) (gh st) (b1 st) .none da doc pm an cv c_):=⟨⟨fo,dP,da,doc,pm,an,cv,c_,lu,rfl,l,c⟩,k⟩
end
section
variable{X:aQ}
end
def Ec(H H':ah):Prop:=∀b o,H b=some o→H' b=some o
theorem Ec.seq{K:PySem.W.Frag}{H H':ah}{a:ada}{xs:List V}(e:Ec H H')(h:b7 K H a xs):b7 K H' a xs:=by
 rcases h with(h|⟨o,h⟩)|h
 ·exact .inl (.inl (e _ _ h))
 ·exact .inl (.inr ⟨o,e _ _ h⟩)
 ·exact .inr h
section
variable{X:aQ}
end
section
variable{κ:Type}[DecidableEq κ]
end
structure uR(P:adp)(w:adJ)(outer:List Env)(H H':ah)(s:ac4)(a:ada)(C ha:ac1)(B:adX)(s':ac4):Prop where
 os:s'.os=s.os
 bare:ahc s'.gens
 un:fT (eG outer) [] H H' s.heap s'.heap
 Ab:Heap.FlyingW B outer a C ha s'.heap
 old:∀b o,s.heap.get? b=some o→H b=none→b∉eG outer→B.get? b=some o
 Dj:∀b o,s.heap.get? b=some o→b∉eG outer→∃bR,B.get? b=some bR
 bL:eb P w H' B
 ag:H' a=none
noncomputable def g8(P:adp)(w:adJ):j0:=fun outer H s E e s'=>∃(a:ada)(C ha:ac1)(B:adX)(H':ah),e=.ref a∧uR P w outer H H' s a C ha B s'∧E C (some a) H'
section
variable{X:aQ}{pins:List (ada×Obj)}{σ :St}{H H':ah}{s s':ac4}{a:ada}{C ha:ac1}{B:adX}
theorem eb.part(x:eb X.prog X.w H s.heap)(k:∀b u,(H b).isSome=true→s.heap.get? b=some u→B.get? b=some u):eb X.prog X.w H B:=fun b o e=>
 (x b o e).ny (fun c u aB q=>k c u (by rcases aB with rfl|aB<;>simp[*]) q) (fun _ q=>q) fun _ _ q=>q
theorem GF{env:Env}{outer:List Env}{L:ada}(h:env.frame=some L){b:ada}(J:b∈eG (env::outer)):b=L∨b∈eG outer:=by unfold eG at J;rw[aeK,h]at J;exact List.mem_cons.mp J
theorem Inv.Tc{M:Model}{A:adG}{E:ac1→ac4→Prop}{h':adX}{vs:List ac1}{Q:Unit→ac4→Prop}(I:Inv X pins σ H s)(gn:X.stack=X.env::X.outer)(q8:X.env.frame=some X.env.locals)(hex:X.ex=[])(iM:A.frames=some X.stack)(ax:Heap.MadeExcOf s.heap h' a C vs)(ef:∀ha B i0,uR X.prog X.w X.outer X.o1 H X.fy a C ha B i0→Q () i0):adm M A (leaving X.env (.ref a)) Q E { s with heap:=h' }:=by
 have s7:∀env∈X.stack,∀b,env.frame=some b→b∈eG X.stack:=fun env he b J=>List.mem_filterMap.mpr ⟨env,he,J⟩;have kY:∀b o,s.heap.get? b=some o→b∉eG X.stack→(PySem.W.hideAll s.heap (eG X.stack)).get? b=some o:=fun b o q n=>PySem.W.hideAll_get _ q n;have m7:∀b o,X.fy.heap.get? b=some o→b∉eG X.outer→b∉eG X.stack:=fun b o q n z=>by
  rw[gn]at z;rcases GF q8 z with r|r
  ·subst r;exact absurd (adv (ac_ q) I.ok.above) (adS _)
  ·exact n r
 have hM:∀b,b∉X.ex:=fun b z=>by rw[hex]at z;cases z
 refine PySem.wpAny_leaves_madeW (base:=PySem.W.hideAll s.heap (eG X.stack)) (h:=s.heap) (by rw[iM,gn]) q8 (fun b o q=>PySem.W.of_hideAll _ q) (by have:=PySem.W.funFrames_hide (as:=eG X.stack) I.stack s7;rw[gn]at this ⊢;exact this) ax fun GN t gS cK qq oU=>?_;refine ef (.ref t) (PySem.W.hideAll s.heap (eG X.stack)) _ ⟨I.os,I.bare,⟨?_,?_,?_,?_,I.base.kD,I.base.jC,I.base.kC⟩,gS,?_,?_,?_,?_⟩
 ·exact fun b o q n J _=>gS.1 b o (kY b o (I.base.keep b o q n J (hM b)) (m7 b o q J))
 ·intro b o q n J _;obtain⟨cV,aV⟩:=I.base.slot b o q n J (hM b);obtain⟨_,bR,dU,iX⟩:=I.ok.jc.mem J;rw[q]at dU;cases dU;obtain⟨C1,bE⟩:=oU b _ (ax.keeps b _ aV) iX;exact⟨C1,bE⟩
 ·exact fun b o q n _=>I.base.free b o q n (hM b)
 ·intro b o q _;by_cases J:b∈eG X.outer
  ·obtain⟨_,bR,dU,_⟩:=gS.2.2.1.mem J;exact⟨bR,dU⟩
  ·obtain⟨bR,dU⟩:=I.base.there b o q (hM b);exact⟨bR,gS.1 b bR (kY b bR dU (m7 b o q J))⟩
 ·exact fun b o q n J=>kY b o (I.base.keep b o q n J (hM b)) (m7 b o q J)
 ·intro b o q J;obtain⟨bR,dU⟩:=I.base.there b o q (hM b);exact⟨bR,kY b bR dU (m7 b o q J)⟩
 ·exact eb.part (X:=X) (s:=s) I.bL fun b u hs q=>kY b u q fun z=>by rw[I.C3 b z]at hs;cases hs
 ·cases q:H a with
  |none=>rfl
  |some o=>
   have k:∀o:dR,eK X.prog X.w H s.heap a o→∃u,s.heap.get? a=some u:=fun o x=>by
    induction o with
    |lst xs=>obtain⟨_,_,_,_,e⟩:=x;exact⟨_,e⟩
    |tup xs=>obtain⟨_,_,_,_,e,_⟩:=x;exact⟨_,e⟩
    |dA aZ=>obtain⟨_,_,_,_,o,_,_,e,_⟩:=x;exact⟨_,e⟩
    |bx aZ=>obtain⟨_,_,_,_,o,_,_,e,_⟩:=x;exact⟨_,e⟩
    |set S n=>obtain⟨o,_,_,_,e,_⟩:=x;exact⟨_,e⟩
    |ins C a8 aX=>obtain⟨_,_,_,e,_⟩:=x;exact⟨_,e⟩
    |own y=>obtain⟨_,e⟩:=x;exact⟨_,e⟩
    |x7 aX=>obtain⟨_,⟨_,_,_,e,_⟩,_⟩:=x;exact⟨_,e⟩
    |xp lo ar=>obtain⟨_,_,_,e⟩:=x;exact⟨_,e⟩
    |jB bf u=>obtain⟨e,_⟩:=x;exact⟨_,e⟩
    |oP ps=>exact⟨_,(show s.heap.get? a=some _ from x)⟩
    |met f y=>exact⟨_,(show s.heap.get? a=some _ from x)⟩
    |ext qy=>obtain⟨_,⟨_,e⟩,_⟩:=x;exact⟨_,e⟩
   obtain⟨u,e⟩:=k o (I.bL a o q);rw[ax.new]at e;cases e
theorem Inv.Td{M:Model}{A:adG}{E:ac1→ac4→Prop}{Q:Unit→ac4→Prop}(I:Inv X pins σ H s)(gn:X.stack=X.env::X.outer)(q8:X.env.frame=some X.env.locals)(hex:X.ex=[])(iM:A.frames=some X.stack)(f:uR X.prog X.w X.stack H H' s a C ha B s')(ef:∀i0,uR X.prog X.w X.outer X.o1 H' X.fy a C ha B i0→Q () i0):adm M A (leaving X.env (.ref a)) Q E s':=by
 have m7:∀b o,X.fy.heap.get? b=some o→b∉eG X.outer→b∉eG X.stack:=fun b o q n z=>by
  rw[gn]at z;rcases GF q8 z with r|r
  ·subst r;exact absurd (adv (ac_ q) I.ok.above) (adS _)
  ·exact n r
 have Qa:∀b,b∈eG X.outer→b∈eG X.stack:=fun b z=>by rw[gn];unfold eG;rw[aeK,q8];exact ac7 _ z
 have hM:∀b,b∉X.ex:=fun b z=>by rw[hex]at z;cases z
 have no:∀b:ada,b∉([]:List ada):=fun b z=>by cases z
 obtain⟨os,bare,un,Ab,old,Dj,bL,ag⟩:=f;rw[gn]at Ab;refine PySem.wpAny_leaves_onW (by rw[iM,gn]) q8 Ab fun GN gS cK=>?_;refine ef _ ⟨os.trans I.os,bare,⟨?_,?_,?_,?_,fun b xs q=>un.kD b xs (I.base.kD b xs q),fun b o u q=>un.jC b o u (I.base.jC b o u q),?_⟩,gS,?_,?_,bL,ag⟩
 ·exact fun b o q n J _=>gS.1 b o (old b o (I.base.keep b o q n J (hM b)) (I.base.free b o q n (hM b)) (m7 b o q J))
 ·intro b o q n J _;obtain⟨cV,aV⟩:=I.base.slot b o q n J (hM b);obtain⟨_,bR,dU,iX⟩:=I.ok.jc.mem J;rw[q]at dU;cases dU;obtain⟨abB,bE⟩:=un.slot b _ aV (I.base.free b o q n (hM b)) (Qa b J) (no b);obtain⟨C1,er⟩:=cK b _ bE iX;exact⟨C1,er⟩
 ·intro b o q n _;obtain⟨bR,dU⟩:=I.base.there b o q (hM b);exact un.free b bR dU (I.base.free b o q n (hM b)) (no b)
 ·intro b o q _;by_cases J:b∈eG X.outer
  ·obtain⟨_,bR,dU,_⟩:=gS.2.2.1.mem J;exact⟨bR,dU⟩
  ·obtain⟨bR,dU⟩:=I.base.there b o q (hM b);obtain⟨b_,bE⟩:=Dj b bR dU (m7 b o q J);exact⟨b_,gS.1 b b_ bE⟩
 ·intro b ps q;obtain⟨m1,aq⟩:=I.base.kC b ps q;obtain⟨m2,aD⟩:=un.kC b _ aq;exact⟨m1++m2,by rw[aD,Array.append_assoc]⟩
 ·exact fun b o q n J=>old b o (I.base.keep b o q n J (hM b)) (I.base.free b o q n (hM b)) (m7 b o q J)
 ·intro b o q J;obtain⟨bR,dU⟩:=I.base.there b o q (hM b);exact Dj b bR dU (m7 b o q J)
end
theorem OB{K:PySem.W.Frag}{h:adX}{C:ada}{sC:List ac1}{newId:String}(X:K.In h)(q:PySem.W.excIn K C sC newId=true) :
  ∃bm N nm q bs hdct sn sub ab col dd k0 k1 k2 k3 k5 mN,h.get? C=some (excClassObj nm q C N bs bm hdct sn sub ab col dd k0 k1 k2 k3 k5 newId)∧h.Ns N mN∧mN "__init__"=none∧OwnTail h sC bm:=by
 unfold PySem.W.excIn at q
 split at q
 ·rename_i dd cd cV aE
  split at q
  ·rename_i lT bm k0 k1 k2 k3 n k5 hm hs;simp only[adF,beq_iff_eq,af4]at q;obtain⟨⟨⟨⟨⟨rfl,rfl⟩,G2⟩,bT⟩,bL⟩,vV⟩:=q;obtain⟨nm,bs,mro,ns,qn,hd,sn,sub,ab,col,del⟩:=cd;dsimp only at hm G2 bL vV;subst hm G2;have Qj:cV= #[k0,k1,k2,k3,some (.builtin n),k5]:=by
    obtain⟨l⟩:=cV;simp only at hs;rw[hs]
   subst Qj;exact⟨bm,ns,nm,qn,bs,hd,sn,sub,ab,col,dd,k0,k1,k2,k3,k5,_,X _ _ aE,.of_isNs (PySem.W.isNs_of_in X bL),PySem.W.nsMap_none_of_in X bL vV,PySem.W.tail_of_in X bT⟩
  ·cases q
 ·cases q
noncomputable def K4(X:aQ)(C:ada):e1:=fun _ σ H=>∀pins s h' a vs,Inv X pins σ H s→Heap.MadeExcOf s.heap h' a (.ref C) vs→X.xe (.ref a) { s with heap:=h' }
section
variable{X:aQ}{x:Str}{np ct pos vp:Pos}{C:ada}{sC:List ac1}{B newId Rv:String}{m:Str}{j:Nat}
theorem V8(FB:ExcBaseFacts B newId Rv sC)(q:PySem.W.excIn X.K C sC newId=true)(hm:X.mg x=some (.ref C))(aB:X.calm=true:=by rfl)(aO:dM X x:=by rfl)(hd:(x==("__debug__" :Str))=false:=by decide) :
  dG X (.Raise (some (.Call (.Name x np) [.Constant (.str m) j vp] [] ct)) none pos) (K4 X C):=by
 intro pins s σ H D I h;obtain⟨bm,N,nm,qn,bs,hdct,sn,sub,ab,col,dd,k0,k1,k2,k3,k5,mN,hK,cB,vV,Ee⟩:=OB I.mod.oo q;refine wpAny_Raise_call_subT (mN:=mN) (C:=C) (nm:=nm) (q:=qn) (N:=N) (bs:=bs) (bm:=bm) (hdct:=hdct) (sn:=sn) (sub:=sub) (ab:=ab) (col:=col) (dd:=dd) (k0:=k0) (k1:=k1) (k2:=k2) (k3:=k3) (k5:=k5) FB (Ee.hasType FB.hasBase) (I.ok.hd aB) rfl vV (wx I aO hm ⟨rfl,?_⟩ hd);refine agl (afP (bZ (BF (X:=X) (x:=m) (j:=j) (pos:=vp) pins s σ H (fun _ H1=>H1=H) I rfl) fun u s1⟨v,H1,a0,az,aq⟩=>?_));subst aq;refine af2 ⟨rfl,afn rfl,a0.fV _ _ hK,cB.keeps a0.fV,Ee.keeps a0.fV,fun h' a ax=>h pins s1 h' a _ a0 ax⟩
theorem Zs{P:adp}{w:adJ}{K:PySem.W.Frag}{mg:Str→Option ac1}{base:adX}{N:List Str}{qual:Str}{scope:ae6}{f:ada}{cd:ac1}{A:adG}{outer:List Env}{s0:ac4}{bK:ah}{E:dh}{σ :St}{H:ah}{c0:Ends}(h:∀a,H a=none→E (.ref C) (some a) H):K4 (e3 (g8 P w) P w K mg base N qual scope f cd A outer s0 bK E) C c0 σ H:=fun pins s h' a vs I ax=>
 I.Tc (C:=.ref C) rfl rfl rfl I.ok.frames ax fun ha B i0 hi=>⟨a,.ref C,ha,B,H,rfl,hi,h a hi.ag⟩
theorem Vh{P:adp}{w:adJ}{K:PySem.W.Frag}{mg:Str→Option ac1}{base:adX}{N:List Str}{qual:Str}{scope:ae6}{f:ada}{cd:ac1}{A:adG}{outer:List Env}{s0:ac4}{bK:ah}{E:dh} :
  Passes (g8 P w) (e3 (g8 P w) P w K mg base N qual scope f cd A outer s0 bK E) E:=fun pins σ H s e s' I ax=>by
 obtain⟨a,C,ha,B,H',rfl,hi,h_⟩:=ax;exact I.Td (X:=e3 (g8 P w) P w K mg base N qual scope f cd A outer s0 bK E) rfl rfl rfl I.ok.frames hi fun i0 OR=>⟨a,C,ha,B,H',rfl,OR,h_⟩
end
abbrev OA(a:ada)(C:ac1):dR:=.ext fun h=>∃bf,h.get? a=some bf∧bf.cls=C
section
variable{X:aQ}{pins:List (ada×Obj)}{σ :St}{H H':ah}{s s':ac4}{a:ada}{C ha:ac1}{B:adX}{GN:adX}
end
section
variable{X:aQ}{k:Nat}{f C:ada}{fd:aet}{ps:List Str}{sp:i7}{E:dh}{x:Str}{p pos:Pos}{e:adI}{es:List adI}{t:eL}
end
section
variable{X:aQ}{pins:List (ada×Obj)}{σ :St}{H H':ah}{s s':ac4}{a:ada}
end
section
variable{X:aQ}{i:Nat}{x n:Str}{W:ada}{e:adI}{d_:TE}{E:dh}{M6:aep}{Ye:List aep}{b3:e1}{BE np aS pos:Pos}
end
noncomputable def g0(env:Env):List (Str×afE)→List (Str×ada)→List (Str×ada)
 |[],cs=>cs
 |(x,k)::r,cs=>g0 env r (if k==.free then(x,(env.cells.lookup x).getD 0)::cs else cs)
theorem EY{env:Env}:∀(names:List (Str×afE))(cs:List (Str×ada)),(∀p∈names,p.2=.free→∃c,env.cells.lookup p.1=some c)→
 (forIn (m:=Sem) names cs fun(x:Str×afE) cs=>if(x.2==adY)=true then do
   let a ←cellOf env x.1
   pure (aeM ((x.1,a)::cs))else pure (aeM cs))=pure (g0 env names cs)
 |[],cs,_=>rfl
 |(x,k)::r,cs,h=>by
  rw[agB];have bQ:=EY (env:=env) r;by_cases aH:k=.free
  ·subst aH;obtain⟨c,aB⟩:=h (x,.free) adz rfl;have aq:cellOf env x=pure c:=by unfold cellOf;rw[aB]
   simp only[beq_self_eq_true,if_true,g0,aq,aB,afb,pure_bind];exact bQ _ fun p aS=>h p (ac7 _ aS)
  ·have J:(k==adY)=false:=by simpa using aH
   simp only[J,adb,if_false,g0,pure_bind];exact bQ _ fun p aS=>h p (ac7 _ aS)
theorem EX{env:Env}{scope:ae6}(h:∀p∈scope.names,p.2=.free→∃c,env.cells.lookup p.1=some c):closureFor scope env=pure (g0 env scope.names []):=by
 have e:=EY (env:=env) scope.names [] h;unfold closureFor
 refine Eq.trans (b:=(forIn (m:=Sem) scope.names [] fun(x:Str×afE) cs=>if(x.2==adY)=true then do
   let a ←cellOf env x.1
   pure (aeM ((x.1,a)::cs))else pure (aeM cs))>>=pure) rfl ?_
 rw[e];rfl
theorem EW{env:Env}{x:Str}:∀(names:List (Str×afE))(cs:List (Str×ada)),(∀p∈names,p.2=.free→∃c,env.cells.lookup p.1=some c)→
  (g0 env names cs).lookup x=if(x,adY)∈names then env.cells.lookup x else cs.lookup x
 |[],cs,_=>by simp[g0]
 |(y,k)::r,cs,h=>by
  rw[g0,EW r _ fun p aS=>h p (ac7 _ aS)];by_cases hm:(x,adY)∈r
  ·rw[if_pos hm,if_pos (ac7 _ hm)]
  ·rw[if_neg hm];by_cases aH:k=.free
   ·subst aH;obtain⟨c,aB⟩:=h (y,.free) adz rfl;by_cases ax:x=y
    ·subst ax;rw[if_pos adz];simp[agf,aB]
    ·have nm:¬(x,adY)∈(y,adY)::r:=fun z=>by
       rcases List.mem_cons.mp z with e|e
       ·exact ax (by injection e)
       ·exact hm e
     rw[if_neg nm];have J:(x==y)=false:=by simpa using ax
     simp[agf,J]
   ·have J:(k==adY)=false:=by simpa using aH
    have nm:¬(x,adY)∈(y,k)::r:=fun z=>by
     rcases List.mem_cons.mp z with e|e
     ·exact aH (by injection e with _ aD;exact aD.symm)
     ·exact hm e
    rw[if_neg nm];simp[J]
theorem Nu {prog:adp} {w:adJ} {A:adG} {R:Result→ac4→Prop} {s:ac4} {elt target iter:adI} {ifs:List adI} {scope:ae6} {pos:Pos} {it acc:ac1} {env:Env} (I:Nat→ac4→Prop)(turn:∀n s,I n s→adm (adu prog w) A (ahp it) (fun r c6=>match r with
    |none=>R (.ok .next) c6
    |some v=>adm (adu prog w) A (agx target it v) (fun _ KI=>adm (adu prog w) A (assign target env v) (fun _ ih=>
       adm (adu prog w) A (forIn ifs true fun c r=>if r=true then do let ok ←isTrue c env (aeq c env);pure (aeM ok)else pure (aeM r)) (fun ok oN=>
        if ok=true then adm (adu prog w) A (aeq elt env) (fun x xM=>
         adm (adu prog w) A (call (.builtin "list.append") [acc,x]) (fun _ KJ=>∃m,m<n∧I m KJ) (aiF (adu prog w) A env fun e s'=>R (.error e) s') xM) (aiF (adu prog w) A env fun e s'=>R (.error e) s') oN
        else ∃m,m<n∧I m oN) (aiF (adu prog w) A env fun e s'=>R (.error e) s') ih) (aiF (adu prog w) A env fun e s'=>R (.error e) s') KI) (aiF (adu prog w) A env fun e s'=>R (.error e) s') c6) (aiF (adu prog w) A env fun e s'=>R (.error e) s') s)
  (n:Nat) (h:I n s):ahd (adu prog w) A (.compLoop (.ListComp elt [⟨target,iter,ifs,0⟩] scope pos) 0 it acc env) R s:=by
 refine codeAny_loop rfl I (fun n s ia=>?_) n h;show adm _ A ((compTurn (.ListComp elt [⟨target,iter,ifs,0⟩] scope pos) 0 it acc env).onRaise (fun x=>do noteFrame x env;theTreesLotGoes x)) _ _ s;refine wpAny_noted ?_;rw[compTurn_list];refine acZ (wpAny_standAt (acZ (ad9 (turn n s ia) (fun r c6 jJ=>?_) fun _ _ h'=>h')));cases r with
 |none=>exact ac3 jJ
 |some v=>
  refine acZ (ad9 jJ (fun _ KI Qv=>?_) fun _ _ h'=>h');refine acZ (ad9 Qv (fun _ ih k7=>acZ (ad9 k7 (fun ok oN mb=>?_) fun _ _ h'=>h')) fun _ _ h'=>h');cases ok with
  |false=>exact ac3 ⟨rfl,mb⟩
  |true=>exact acZ (acZ (ad9 mb (fun x xM te=>acZ (ad9 te (fun _ KJ hl=>ac3 (ac3 ⟨rfl,hl⟩)) fun _ _ h'=>h')) fun _ _ h'=>h'))
abbrev ft(X:aQ)(scope:ae6)(N:List Str)(cl:List (Str×ada))(C:ada)(s:ac4)(H:ah)(bc:List ada):aQ where
 prog:=X.prog
 w:=X.w
 K:=X.K
 mg:=X.mg
 base:=X.base
 A:=X.A
 N:=N
 fy:=s
 o1:=H
 env:=compEnvC scope cl C X.env
 outer:=X.stack
 stack:=X.stack
 ex:=bc
 calm:=X.calm
 fn:=fun x=>scope.names.lookup x==some .cell
 oD:=[]
 xe:=fun _ _=>False
def l1(nl:Nat)(caps:List Nat)(σ :St):St:=aeZ nl none++caps.map fun j=> σ.getD j none
def v9:Option afE→Bool
 |some .cell=>true
 |some .free=>true
 |_=>false
structure kI(sc:ae6)(nU:List Str)(scope:ae6)(N:List Str)(nl:Nat)(caps:List Nat):Prop where
 kind:scope.kind=.function
 uniq:∀x∈scope.names,scope.names.lookup x.1=some x.2
 free:∀x∈scope.names,x.2=.free→v9 (sc.names.lookup x.1)=true
 len:N.length=nl+caps.length
 Nq:∀k j,caps[k]?=some j→∃x,nU[j]?=some x∧N[nl+k]?=some x∧scope.names.lookup x=some .free∧v9 (sc.names.lookup x)=true
noncomputable def qP(sc:ae6)(nU:List Str)(scope:ae6)(N:List Str)(nl:Nat)(caps:List Nat):Bool:=
 (scope.kind==.function)&&scope.names.all (fun x=>scope.names.lookup x.1==some x.2&&(x.2 !=.free||v9 (sc.names.lookup x.1)))&&
 (N.length==nl+caps.length)&&(caps.zipIdx.all fun HQ=>match nU[HQ.1]? with
   |none=>false
   |some x=>N[nl+HQ.2]?==some x&&scope.names.lookup x==some .free&&v9 (sc.names.lookup x))
theorem kI.of{sc:ae6}{nU:List Str}{scope:ae6}{N:List Str}{nl:Nat}{caps:List Nat}(h:qP sc nU scope N nl caps=true):kI sc nU scope N nl caps:=by
 unfold qP at h;rw[adF,adF,adF]at h;obtain⟨⟨⟨h1,h2⟩,h3⟩,h4⟩:=h;rw[aeC]at h2 h4;refine⟨eq_of_beq h1,fun x ax=>?_,fun x ax e=>?_,eq_of_beq h3,fun k j e=>?_⟩
 ·have:=h2 x ax;rw[adF]at this;exact eq_of_beq this.1
 ·have:=h2 x ax;rw[adF]at this;have q:=this.2;rw[e]at q;simpa using q
 ·have m:(j,k)∈caps.zipIdx:=by
    rw[List.mem_zipIdx_iff_getElem?];exact e
  have q:=h4 _ m;dsimp only at q
  split at q
  ·cases q
  ·rename_i x ex;rw[adF,adF]at q;exact⟨x,ex,eq_of_beq q.1.1,eq_of_beq q.1.2,q.2⟩
theorem kI.locs{sc:ae6}{nU:List Str}{scope:ae6}{N:List Str}{nl:Nat}{caps:List Nat}(S:kI sc nU scope N nl caps):∀x∈scope.names,x.2=.local→scope.names.lookup x.1=some .local:=fun x ax e=>e▸S.uniq x ax
theorem zJ:∀(ns:List (Str×afE))(n:Nat)(a b:List (Str×ada)),aeu n ns (a++b)=aeu n ns a++b
 |[],_,_,_=>rfl
 |(x,k)::r,n,a,b=>by
  unfold aeu
  split
  ·exact zJ r (n+1) ((x,n)::a) b
  ·exact zJ r n a b
theorem vn{x:Str}{c:ada}:∀(ns:List (Str×afE))(n:Nat)(a:List (Str×ada)),(x,c)∈aeu n ns a→(x,NameKind.cell)∈ns∨(x,c)∈a
 |[],_,_,h=>.inr h
 |(y,k)::r,n,a,h=>by
  unfold aeu at h
  split at h
  ·rename_i aH;rcases vn r _ _ h with z|z
   ·exact .inl (ac7 _ z)
   ·rcases List.mem_cons.mp z with e|z
    ·injection e with aq aD;subst aq;rw[eq_of_beq aH];exact .inl adz
    ·exact .inr z
  ·rcases vn r _ _ h with z|z
   ·exact .inl (ac7 _ z)
   ·exact .inr z
theorem Ui{M:Model}{A:adG}{E:ac1→ac4→Prop}{s:ac4}{scope:ae6}{globals:ada}{cl:List (Str×ada)}{qual:Str}{env:Env}{Q:Env→ac4→Prop}(ef:Q { scope:=scope,locals:=s.heap.objs.size,globals:=globals,cells:=aeu (s.heap.objs.size+1) scope.names cl,qual:=qual,func:=none,code:=env.code,frame:=env.frame,builtins:=env.builtins } { s with heap:=pushCells (s.heap.push { cls:=.type "dict",data:=.dict #[] }) scope.names }) :
  adm M A (aiy scope globals cl [] qual none .none (some env)) Q E s:=by
 simp only[aiy,aiT,if_true];refine acZ (wpAny_alloc ?_);refine acZ (wpAny_layCells _ (fun name kind cells=>by cases PL:kind==NameKind.cell<;>simp[PL]) _ _ _ _ ?_);rw[show({ s with heap:=s.heap.push { cls:=.type "dict",data:=.dict #[] } }:ac4).heap.objs.size=s.heap.objs.size+1 from adK ..];exact acZ (ac3 (ac3 ef))
theorem BR{scope:ae6}{env:Env}{x:Str}{k:afE}(h:(agT scope env).names.lookup x=some k):(x,k)∈scope.names∨(k=.cell∧(x,adY)∈scope.names):=by
 have m:=PySem.mem_of_lookup h;obtain⟨⟨y,q⟩,bq,e⟩:=List.mem_map.mp m;dsimp only at e
 split at e
 ·rename_i aB;injection e with aq aD;subst aq;have hf:q=.free:=by
   rw[adF,adF]at aB;exact eq_of_beq aB.1.1
  subst hf;exact .inr ⟨aD.symm,bq⟩
 ·injection e with aq aD;subst aq;subst aD;exact .inl bq
noncomputable def xR(ij:TI)(g:iG)(gr:TT)(d_:TE)(nl:Nat)(caps:List Nat):TE:=fun σ H Q=>
 ij σ H fun cE H1=>∀acc,H1 acc=none→∃W:Nat→Nat→St→ah→Prop,(∃m,W 0 m (l1 nl caps σ) (upd H1 acc (.lst [])))∧
  ∀i m σ' H',W i m σ' H'→(cE.stop i H'∧Q (.ref acc) H')∨
   (cE.go i H'∧∀x bk,cE.i2 i H' x bk→g x σ' bk fun σ2 dy=>gr σ2 dy fun b gV=>
      if b=true then d_ σ2 gV fun y ix=>∃ys,ix acc=some (.lst ys)∧ys.length<adq∧∃c5,c5<m∧W (i+1) c5 σ2 (upd ix acc (.lst (ys++[y])))
      else ∃c5,c5<m∧W (i+1) c5 σ2 gV)
section
variable{X:aQ}{elt target iter:adI}{ifs:List adI}{scope:ae6}{pos:Pos}{N:List Str}{nl:Nat}{caps:List Nat}{ij:TI}{g:iG}{gr:TT}{d_:TE}
noncomputable def nR(X:aQ)(ifs:List adI)(t:TT):Prop:=
 ∀(pins:List (ada×Obj))(s:ac4)(σ :St)(H:ah)(Q:Bool→ah→Prop),Inv X pins σ H s→t σ H Q→
  adm (adu X.prog X.w) X.A (forIn ifs true fun c r=>if r=true then do let ok ←isTrue c X.env (aeq c X.env);pure (aeM ok)else pure (aeM r)) (u2 X pins σ Q) X.xe s
def Yn:TT:=fun _ H Q=>Q true H
theorem Wd:nR X [] Yn:=fun _ _ _ H _ I h=>wpAny_tests_nil ⟨H,I,h⟩
theorem We{c:adI}{t:TT}(h:e9 X c t):nR X [c] t:=fun pins s σ H Q I hw=>wpAny_tests_one (h pins s σ H Q I hw)
theorem RA{pins:List (ada×Obj)}{σ :St}{H:ah}{s s4:ac4}{cl:List (Str×ada)}{bc:List ada}(S:kI X.env.scope X.N scope N nl caps)(I:Inv X pins σ H s)(k1:∀x c,cl.lookup x=some c→X.env.cells.lookup x=some c∨(scope.names.lookup x=some .cell∧s.heap.objs.size<c∧s4.heap.IsCell c none))(k2:∀x,(x,adY)∈scope.names→cl.lookup x=X.env.cells.lookup x)(k3:∀x,scope.names.lookup x=some .cell→∃c,cl.lookup x=some c∧s.heap.objs.size<c)(wd:∀x y c,cl.lookup x=some c→cl.lookup y=some c→x=y)(hf:∀b∈bc,i5 X pins H b)(gm:∀b∈bc,b<s.heap.objs.size)(P_:s4.os=s.os)(aO:s4.gens=s.gens)(aK:∃m,s4.heap.Ns s.heap.objs.size m)(aH:∀b o,s.heap.get? b=some o→s4.heap.get? b=some o) :
  Inv (ft X scope N cl s.heap.objs.size s H bc) [] (l1 nl caps σ) H s4:=by
 refine⟨⟨I.ok.mod,?_,I.ok.glob,I.ok.blt,ac6 _,wd,fun x ax=>?_,fun x c z e=>?_,I.ok.hd,I.ok.frames,.inl rfl,fun b J=>⟨ady (gm b J),fun x c e=>(k1 x c e).elim (fun e=>(hf b J).2.2.2.2.1 x c e) fun e=>aeU (afJ (gm b J) e.2.1)⟩,I.bs,adB I.ok.nZ I.qg,fun b o e J=>?_,fun b J hs=>?_,I.stack,I.C3⟩,
  P_,?_,fT.kept aH,?_,fun x c e=>?_,I.bL.fresh (ac6 _),fun x c e=>(k1 x c e).elim (I.l3 x c) fun e=>I.bL.fresh (afF e.2.1),fun p aS=>absurd (show p∈([]:List (ada×Obj))from aS) (by simp),I.bL.kept aH,?_⟩
 ·show(agT scope X.env).kind=.function;exact S.kind
 ·have ax:(agT scope X.env).names.lookup x=some .cell∨(agT scope X.env).names.lookup x=some .free:=ax;have hm:(x,adY)∈scope.names∨scope.names.lookup x=some .cell:=by
   rcases ax with h|h
   ·rcases BR h with m|⟨_,m⟩
    ·exact .inr (S.uniq _ m)
    ·exact .inl m
   ·rcases BR h with m|⟨e,_⟩
    ·exact .inl m
    ·cases e
  rcases hm with hm|hm
  rotate_left
  ·obtain⟨c,e,_⟩:=k3 x hm;exact⟨c,e⟩
  have aR:=S.free _ hm rfl;have aB:∃c,X.env.cells.lookup x=some c:=by
   apply I.ok.has x;show X.env.scope.names.lookup x=some .cell∨X.env.scope.names.lookup x=some .free;cases e:X.env.scope.names.lookup x with
   |none=>rw[e]at aR;cases aR
   |some k=>
    rw[e]at aR
    cases k<;>first
     |exact .inl rfl
     |exact .inr rfl
     |cases aR
  obtain⟨c,e⟩:=aB;exact⟨c,by show cl.lookup x=some c;rw[k2 x hm];exact e⟩
 ·obtain⟨ey,cn,q⟩:=k3 x (eq_of_beq z);rw[show cl.lookup x=some c from e]at cn;cases cn;exact afF q
 ·rcases(hf b J).2.2.2.1 with z|z
  ·exact I.ok.p8 b o e z
  ·exact absurd (adv (ac_ (I.ok.bs b o e).1) z) (adS _)
 ·rcases List.mem_cons.mp (I.xJ b hs)with z|z
  ·exact(hf b J).2.1 z
  ·exact(hf b J).2.2.1 z
 ·rw[aO];exact I.bare
 ·obtain⟨m,aK⟩:=aK;refine⟨m,aK,fun i x v h1 h2 h3=>?_⟩;have cB:N[i]?=some x:=h1;unfold l1 at h2;by_cases ar:i<nl
  ·rw[ads (by simpa using ar),adU,if_pos ar]at h2;cases h2
  ·rw[adk (by simpa using ar),aex,ade]at h2;cases e:caps[i-nl]? with
   |none=>rw[e]at h2;cases h2
   |some j=>
    rw[e]at h2;have h2: σ.getD j none=some v:=adh h2;obtain⟨y,aq,aD,zR,hh⟩:=S.Nq _ _ e;have b4:(y,adY)∈scope.names:=PySem.mem_of_lookup zR;have e4:iH X.env.scope y:=by
     cases q:X.env.scope.names.lookup y with
     |none=>rw[q]at hh;cases hh
     |some k=>
      rw[q]at hh
      cases k<;>first
       |exact .inr (.inl q)
       |exact .inr (.inr q)
       |cases hh
    have iK:nl+(i-nl)=i:=by omega
    rw[iK,cB]at aD;cases aD;have hs: σ[j]?=some (some v):=by
     rw[adg]at h2;cases q: σ[j]? with
     |none=>rw[q]at h2;cases h2
     |some o=>rw[q]at h2;exact congrArg some h2
    obtain⟨m0,_,ai⟩:=I.loc;obtain⟨u,r,l⟩:=ai j x v aq hs e4;refine⟨u,r,.inr ⟨?_,?_⟩⟩
    ·show(agT scope X.env).names.lookup x=some .cell∨(agT scope X.env).names.lookup x=some .free;rcases h3 with h3|h3|h3
     ·have h3:(agT scope X.env).names.lookup x=some .local:=h3;rcases BR h3 with z|⟨z,_⟩
      ·have a9:scope.names.lookup x=some .local:=S.locs _ z rfl;rw[a9]at zR;cases zR
      ·cases z
     ·exact .inl h3
     ·exact .inr h3
    ·have aR:X.env.scope.names.lookup x≠some .local:=fun z=>by rw[z]at hh;cases hh
     rcases l with⟨z,_⟩|⟨_,c,bu,a9⟩
     ·exact absurd z aR
     ·refine⟨c,?_,a9.keeps aH⟩;show cl.lookup x=some c;rw[k2 x b4];exact bu
 ·rcases k1 x c e with e|e
  ·obtain⟨v,z⟩:=I.cell x c e;exact⟨v,z.keeps aH⟩
  ·exact⟨_,e.2.2⟩
 ·show(l1 nl caps σ).length=N.length;unfold l1;rw[adD,aex,adE,S.len]
theorem RC{pins:List (ada×Obj)}{σ σ' :St}{H H':ah}{s s':ac4}{cl:List (Str×ada)}{bc:List ada}{h':adX}(I:Inv X pins σ H s)(hf:∀b∈bc,i5 X pins H b)(cE:Inv (ft X scope N cl s.heap.objs.size s H bc) [] σ' H' s')(hs:adZ s.heap.objs.size s'.heap h'):Inv X pins σ H' { s' with heap:=h' }:=by
 have ne:∀b o,s.heap.get? b=some o→b≠s.heap.objs.size:=fun b o e=>ady (ac_ e);have u:fT (eG X.stack) bc H H' s.heap s'.heap:=cE.base;have fr:H' s.heap.objs.size=none:=cE.free;refine I.M8 (ch:=bc) (s':={ s' with heap:=h' }) cE.os ⟨fun b o e n J ax=>(hs.2 b (ne b o e)).trans (u.keep b o e n J ax),fun b o e n J ax=>?_,u.free,fun b o e ax=>?_,u.kD,u.jC,u.kC⟩ (fun b o e=>?_) cE.bare fun b J=>?_
 ·obtain⟨cV,q⟩:=u.slot b o e n J ax;exact⟨cV,(hs.2 b (ne b o e)).trans q⟩
 ·obtain⟨bR,q⟩:=u.there b o e ax;exact⟨bR,(hs.2 b (ne b o e)).trans q⟩
 ·refine(cE.bL b o e).ny (fun c v aB q=>(hs.2 c ?_).trans q) (fun _ q=>q) fun _ _ q=>q;rintro rfl;rcases aB with z|z
  ·rw[←z,fr]at e;cases e
  ·rw[fr]at z;cases z
 ·obtain⟨_,f1,_,fE,f4,hJ⟩:=hf b J;exact⟨fE,f1,f4,hJ⟩
theorem EZ {pins:List (ada×Obj)} {σ :St} {s2:ac4} {bk:ah} {it:ada} {bc:List ada} {gQ:Nat→adX→Prop} {cE:It} {E:ac1→ac4→Prop} {Q:ah→Prop} {W:Nat→Nat→St→ah→Prop} {m0:Nat}(S:kI X.env.scope X.N scope N nl caps) (aB:X.calm=true) (ck:Inv X pins σ bk s2) (T:Turn X.prog X.w X.K target cE bc it gQ) (kz:gQ 0 s2.heap) (f2:∀b∈bc,i5 X pins bk b)(aO:∀cl C s H bc,j3 (ft X scope N cl C s H bc) target g) (bT:∀cl C s H bc,nR (ft X scope N cl C s H bc) ifs gr) (he:∀cl C s H bc,a6 (ft X scope N cl C s H bc) elt d_)(nD:W 0 m0 (l1 nl caps σ) (upd bk s2.heap.objs.size (.lst [])))(turn:∀i m σ' H',W i m σ' H'→(cE.stop i H'∧Q H')∨
    (cE.go i H'∧∀x dy,cE.i2 i H' x dy→g x σ' dy fun σ2 gV=>gr σ2 gV fun b ix=>
       if b=true then d_ σ2 ix fun y qC=>∃ys,qC s2.heap.objs.size=some (.lst ys)∧ys.length<adq∧∃c5,c5<m∧W (i+1) c5 σ2 (upd qC s2.heap.objs.size (.lst (ys++[y])))
       else ∃c5,c5<m∧W (i+1) c5 σ2 ix))
  (sx:ac1→ada→Result→ac4→Prop)
  (O9:∀(C:ada) s' H',(∃m,s'.heap.Ns C m)→i5 X pins H' C→(∀h',adZ C s'.heap h'→Inv X pins σ H' { s' with heap:=h' })→Q H'→sx (.ref s2.heap.objs.size) C (.ok .next) s') :
  adm (adu X.prog X.w) X.A (newList []) (fun acc oN=>adm (adu X.prog X.w) X.A (aiy scope X.env.globals (g0 X.env scope.names []) [] X.env.qual none .none (some X.env)) (fun EV xM=>
   ahd (adu X.prog X.w) X.A (.compStart (.ListComp elt [⟨target,iter,ifs,0⟩] scope pos) 0 (.ref it) acc { EV with scope:=agT scope X.env }) (sx acc EV.locals) xM) E oN) E s2:=by
 have vS:∀p∈scope.names,p.2=.free→∃c,X.env.cells.lookup p.1=some c:=fun p aS e=>by
  have q:=S.free p aS e;apply ck.ok.has p.1;show X.env.scope.names.lookup p.1=some .cell∨X.env.scope.names.lookup p.1=some .free;cases aD:X.env.scope.names.lookup p.1 with
  |none=>rw[aD]at q;cases q
  |some k=>
   rw[aD]at q
   cases k<;>first
    |exact .inl rfl
    |exact .inr rfl
    |cases q
 have pJ:∀x,(g0 X.env scope.names []).lookup x=if(x,adY)∈scope.names then X.env.cells.lookup x else none:=fun x=>EW scope.names [] vS
 have GX:bk s2.heap.objs.size=none:=ck.bL.fresh (ac6 _);refine aeJ (Ui ?_);dsimp only;have ed:Inv X pins σ (upd bk s2.heap.objs.size (.lst [])) { s2 with heap:=s2.heap.push { cls:=.type "list",dict:=none,data:=.seq ([]:List ac1).toArray } }:=ck.Iq (its:=[]) (ys:=[]) (t':=s2.toks) .nil (aeB _);generalize AG:({ s2 with heap:=s2.heap.push { cls:=.type "list",dict:=none,data:=.seq ([]:List ac1).toArray } }:ac4)=s3 at ed;have Av:s2.heap.push { cls:=.type "list",dict:=none,data:=.seq ([]:List ac1).toArray }=s3.heap:=by rw[←AG]
 rw[Av];have I3:∀b o,s2.heap.get? b=some o→s3.heap.get? b=some o:=fun b o e=>by rw[←Av];exact ac0 _ e
 have XM:s3.heap.objs.size=s2.heap.objs.size+1:=by rw[←Av,adK]
 have wh:=zJ scope.names (s3.heap.objs.size+1) [] (g0 X.env scope.names []);have ok:=cellsFrom_ok scope.names (s3.heap.push { cls:=.type "dict",data:=.dict #[] }) (s3.heap.objs.size+1) [] ⟨fun _ _ hm=>(nomatch hm),ai4⟩ (by rw[adK];exact ac6 _);have Hc:=(Heap.Ns.new s3.heap (.type "dict")).keeps (pushCells_keeps scope.names _);have wi:∀b o,s3.heap.get? b=some o→(pushCells (s3.heap.push { cls:=.type "dict",data:=.dict #[] }) scope.names).get? b=some o:=fun b o e=>pushCells_keeps _ _ b o (ac0 _ e);rw[adK]at ok;rw[List.nil_append]at wh;rw[wh];generalize pushCells (s3.heap.push { cls:=.type "dict",data:=.dict #[] }) scope.names=jJ at Hc wi ok ⊢;have old:∀x c,X.env.cells.lookup x=some c→c<s3.heap.objs.size:=fun x c e=>by obtain⟨v,z⟩:=ed.cell x c e;exact z.lt
 have k0:∀x c,(aeu (s3.heap.objs.size+1) scope.names []++g0 X.env scope.names []).lookup x=some c→((x,c)∈aeu (s3.heap.objs.size+1) scope.names []∧scope.names.lookup x=some .cell∧s3.heap.objs.size<c∧jJ.IsCell c none)∨X.env.cells.lookup x=some c:=fun x c e=>by
  rw[agM]at e;cases aq:(aeu (s3.heap.objs.size+1) scope.names []).lookup x with
  |some ey=>
   rw[aq]at e;have e:ey=c:=adh e;subst e;have m:=PySem.mem_of_lookup aq;rcases vn _ _ _ m with z|z
   ·exact .inl ⟨m,S.uniq _ z,(ok.empty _ _ m).2,(ok.empty _ _ m).1⟩
   ·cases z
  |none=>
   rw[aq]at e;have e:(g0 X.env scope.names []).lookup x=some c:=e;rw[pJ]at e
   split at e
   ·exact .inr e
   ·cases e
 have k2:∀x,(x,adY)∈scope.names→(aeu (s3.heap.objs.size+1) scope.names []++g0 X.env scope.names []).lookup x=X.env.cells.lookup x:=fun x ax=>by
  rw[agM];cases aq:(aeu (s3.heap.objs.size+1) scope.names []).lookup x with
  |some ey=>
   rcases vn _ _ _ (PySem.mem_of_lookup aq)with z|z
   ·have aV:=S.uniq _ z;have bE:=S.uniq _ ax;dsimp only at aV bE;rw[aV]at bE;cases bE
   ·cases z
  |none=>show(g0 X.env scope.names []).lookup x=_;rw[pJ,if_pos ax]
 have k3:∀x,scope.names.lookup x=some .cell→∃c,(aeu (s3.heap.objs.size+1) scope.names []++g0 X.env scope.names []).lookup x=some c∧s3.heap.objs.size<c:=fun x ax=>by obtain⟨c,e⟩:=zH (n:=s3.heap.objs.size+1) ax;exact⟨c,by rw[agM,e];rfl,(ok.empty _ _ (PySem.mem_of_lookup e)).2⟩
 have wd:∀x y c,(aeu (s3.heap.objs.size+1) scope.names []++g0 X.env scope.names []).lookup x=some c→(aeu (s3.heap.objs.size+1) scope.names []++g0 X.env scope.names []).lookup y=some c→x=y:=fun x y c h1 h2=>by
  rcases k0 x c h1 with bu|bu<;>rcases k0 y c h2 with a9|a9
  ·exact name_of_addr ok.apart bu.1 a9.1
  ·exact absurd (old y c a9) (Nat.not_lt_of_gt bu.2.2.1)
  ·exact absurd (old x c bu) (Nat.not_lt_of_gt a9.2.2.1)
  ·exact ed.ok.inj x y c bu a9
 have k1:∀x c,(aeu (s3.heap.objs.size+1) scope.names []++g0 X.env scope.names []).lookup x=some c→X.env.cells.lookup x=some c∨(scope.names.lookup x=some .cell∧s3.heap.objs.size<c∧jJ.IsCell c none):=fun x c e=>(k0 x c e).elim (fun z=>.inr z.2) .inl;generalize aeu (s3.heap.objs.size+1) scope.names []++g0 X.env scope.names []=cl at k0 k1 k2 k3 wd ⊢;have Ha:∀b∈bc,b<s2.heap.objs.size:=fun b J=>by obtain⟨o,e,_⟩:=T.obj 0 _ kz b J;exact ac_ e
 have fE:∀b∈bc,i5 X pins (upd bk s2.heap.objs.size (.lst [])) b:=fun b J=>by obtain⟨ha,a1⟩:=f2 b J;exact⟨by rw[dV (ady (Ha b J))];exact ha,a1⟩
 have AA:∀b∈bc,b<s3.heap.objs.size:=fun b J=>by rw[XM];exact af5 (Ha b J)
 have loop:∀s4:ac4,s4={ s3 with heap:=jJ }→
   ahd (adu X.prog X.w) X.A (.compLoop (.ListComp elt [⟨target,iter,ifs,0⟩] scope pos) 0 (.ref it) (.ref s2.heap.objs.size) (compEnvC scope cl s3.heap.objs.size X.env))
    (sx (.ref s2.heap.objs.size) s3.heap.objs.size) s4:=by
  intro s4 ra;have j1:Inv (ft X scope N cl s3.heap.objs.size s3 (upd bk s2.heap.objs.size (.lst [])) bc) [] (l1 nl caps σ) (upd bk s2.heap.objs.size (.lst [])) s4:=
   RA S ed (by rw[ra];exact k1) k2 k3 wd fE AA (by rw[ra]) (by rw[ra]) ⟨_,by rw[ra];exact Hc⟩ (by rw[ra];exact wi)
  have X8:gQ 0 s4.heap:=T.keep 0 _ _ kz fun b J o e=>by rw[ra];exact wi b o (I3 b o e)
  generalize kc:ft X scope N cl s3.heap.objs.size s3 (upd bk s2.heap.objs.size (.lst [])) bc=B at j1;have stat:∀{H':ah},(∀b∈bc,H' b=none)→∀b∈bc,i5 B [] H' b:=fun{H'} aK b J=>by
   subst kc;obtain⟨ha,a1,a2,eM,gX,hG⟩:=fE b J;refine⟨aK b J,ady (AA b J),fun z=>?_,.inl J,fun x c e=>?_,fun p aS=>absurd (show p∈([]:List (ada×Obj))from aS) (by simp)⟩
   ·rcases List.mem_cons.mp (ed.xJ b z)with q|q
    ·exact a1 q
    ·exact a2 q
   ·rcases k1 x c e with e|e
    ·exact gX x c e
    ·exact aeU (afJ (AA b J) e.2.1)
  have PA:j3 B target g:=by subst kc;exact aO _ _ _ _ _
  have Qm:nR B ifs gr:=by subst kc;exact bT _ _ _ _ _
  have Pu:a6 B elt d_:=by subst kc;exact he _ _ _ _ _
  have sI:B.prog=X.prog:=by subst kc;rfl
  have hI:B.w=X.w:=by subst kc;rfl
  have Ff:B.K=X.K:=by subst kc;rfl
  have Ob:B.A=X.A:=by subst kc;rfl
  have zS:B.env=compEnvC scope cl s3.heap.objs.size X.env:=by subst kc;rfl
  have Fg:B.calm=true:=by subst kc;exact aB
  have OC:B.xe=fun _ _=>False:=by subst kc;rfl
  rw[←sI,←hI,←Ob,←zS];refine Nu (fun n s'=>∃i σ' H',Inv B [] σ' H' s'∧gQ i s'.heap∧(∀b∈bc,H' b=none)∧W i n σ' H') ?_ m0 ⟨0,_,_,j1,X8,fun b J=>(fE b J).1,nD⟩;rintro n s5 ⟨i,σ5,ix,qD,rW,vG,Y7⟩;have away:∀{α:Type}{t:Sem α}{Ea:α→ac4→Prop}{Ma:ac1→ac4→Prop}{nu:ac4},adm (adu B.prog B.w) B.A t Ea B.xe nu→adm (adu B.prog B.w) B.A t Ea Ma nu:=fun h=>ad9 h (fun _ _ q=>q) fun e s' z=>by rw[OC]at z;exact z.elim
  rcases turn i n σ5 ix Y7 with⟨stop,q⟩|⟨go,step⟩
  ·have d:=T.done B sI hI Ff Fg i [] s5 σ5 ix (aiF (adu B.prog B.w) B.A B.env fun e s'=>sx (.ref s2.heap.objs.size) s3.heap.objs.size (.error e) s') qD (stat vG) rW stop;rw[←sI,←hI]at d;refine bZ d fun r dk⟨au,sh⟩=>?_;subst au;refine O9 _ dk ix ?_ (ed.mW (ac6 _) ?_) (fun h' jF=>?_) q
   ·obtain⟨m,aK,_⟩:=sh.loc;rw[zS]at aK;exact⟨m,aK⟩
   ·have z:=sh.free;rw[zS]at z;exact z
   ·subst kc;exact RC ed fE sh jF
  ·have d:=T.item B sI hI Ff Fg i [] s5 σ5 ix (aiF (adu B.prog B.w) B.A B.env fun e s'=>sx (.ref s2.heap.objs.size) s3.heap.objs.size (.error e) s') qD (stat vG) rW go;rw[←sI,←hI]at d;refine bZ d fun r dk⟨u,au,h6⟩=>?_;subst au;refine bZ h6 fun _ cR⟨x,gy,jw,hp,mE,C2,OW⟩=>?_;have Mh:=jw.pinned (stat OW) (T.obj _ _ C2);refine away (bZ (PA _ cR σ5 gy x u _ Mh hp (step x gy mE)) fun _ jV⟨σ8,yt,Mi,BL⟩=>?_);refine away (bZ (Qm _ jV σ8 yt _ Mi BL) fun b rS⟨Mb,D5,BM⟩=>?_);have again:∀{σa:St}{ht:ah}{nu:ac4},Inv B ([]++ua bc cR.heap) σa ht nu→(∃c5,c5<n∧W (i+1) c5 σa ht)→∃m,m<n∧∃i σ' H',Inv B [] σ' H' nu∧gQ i nu.heap∧(∀b∈bc,H' b=none)∧W i m σ' H':=fun{σa ht nu} yu⟨c5,hm,x4⟩=>by
    refine⟨c5,hm,i+1,σa,ht,yu.xZ,T.keep _ _ _ C2 fun b J o e=>(yu.pin (b,o) (adA _ (adA _ (wW J e)))).1,fun b J=>?_,x4⟩;obtain⟨o,e,d⟩:=T.obj _ _ C2 b J;exact(yu.pin (b,o) (adA _ (adA _ (wW J e)))).2.1
   cases b with
   |false=>exact again D5 BM
   |true=>show adm _ _ (aeq elt B.env) _ _ rS;refine away (bZ (Pu _ rS σ8 Mb _ D5 BM) fun DT ud⟨y,D3,Me,cp,ys,ag,bo,Wl⟩=>?_);refine away (bZ (Bq _ ud σ8 D3 (.ref s2.heap.objs.size) [y] (.ref s2.heap.objs.size) [DT] (fun _ D4=>D4=upd D3 s2.heap.objs.size (.lst (ys++[y]))) Me rfl (.cons cp .nil) ⟨_,ys,y,rfl,rfl,ag,bo,rfl⟩) fun _ xr⟨z,D4,Mf,_,N5⟩=>?_);subst N5;exact again Mf Wl
 exact codeAny_compStart_list (loop _ (by rw[←AG])) (T.self X.A 0 _ _ _ (T.keep 0 _ _ kz fun b J o e=>wi b o (I3 b o e)) (loop _ (by rw[←AG])))
theorem G6{pins:List (ada×Obj)}{σ :St}{s:ac4}{H:ah}(S:kI X.env.scope X.N scope N nl caps)(I:Inv X pins σ H s):∀p∈scope.names,p.2=.free→∃c,X.env.cells.lookup p.1=some c:=fun p aS e=>by
 have q:=S.free p aS e;apply I.ok.has p.1;show X.env.scope.names.lookup p.1=some .cell∨X.env.scope.names.lookup p.1=some .free;cases aD:X.env.scope.names.lookup p.1 with
 |none=>rw[aD]at q;cases q
 |some k=>
  rw[aD]at q
  cases k<;>first
   |exact .inl rfl
   |exact .inr rfl
   |cases q
theorem Vr(S:kI X.env.scope X.N scope N nl caps)(aB:X.calm=true)(ar:f9 X target iter ij)(aO:∀cl C s H bc,j3 (ft X scope N cl C s H bc) target g)(bT:∀cl C s H bc,nR (ft X scope N cl C s H bc) ifs gr)(he:∀cl C s H bc,a6 (ft X scope N cl C s H bc) elt d_)(hs:∀x,ad6 iter X.env x=pure x:=by intro _;rfl):a6 X (.ListComp elt [⟨target,iter,ifs,0⟩] scope pos) (xR ij g gr d_ nl caps):=by intro pins s σ H Q I h;rw[eval_ListComp];refine wpAny_comprehension_free (use:=none) rfl hs (EX (G6 S I)) S.kind S.locs ?_;refine bZ (ar pins s σ H _ I h) fun v s1 h1=>bZ h1 fun wa s2 h2=>?_;obtain⟨it,bc,gQ,cE,bk,e,ck,T,kz,f2,k⟩:=h2;subst e;obtain⟨W,⟨m0,nD⟩,turn⟩:=k s2.heap.objs.size (ck.bL.fresh (ac6 _));refine EZ (Q:=fun H'=>Q (.ref s2.heap.objs.size) H') S aB ck T kz f2 aO bT he nD turn (fun acc C=>compPost (adu X.prog X.w) X.A X.xe none (gw X pins σ Q) acc C) ?_;intro C s' H' aK _ ia q;obtain⟨m,aK⟩:=aK;exact⟨m,aK,fun h' jF=>⟨.ref s2.heap.objs.size,H',ia h' jF,rfl,q⟩⟩
theorem V4{i:Nat}{y:Str}{py Kr:Pos}(S:kI X.env.scope X.N scope N nl caps)(aB:X.calm=true)(cB:X.N.Nodup)(bq:X.N[i]?=some y)(ai:X.env.kindOf y=some .local)(ar:f9 X target iter ij)(aO:∀cl C s H bc,j3 (ft X scope N cl C s H bc) target g)(bT:∀cl C s H bc,nR (ft X scope N cl C s H bc) ifs gr)(he:∀cl C s H bc,a6 (ft X scope N cl C s H bc) elt d_)(pM:afB (.ListComp elt [⟨target,iter,ifs,0⟩] scope pos) (some (.Name y py)) Kr.line X.env=pure true:=by rfl)(hs:∀x,ad6 iter X.env x=pure x:=by intro _;rfl):dG X (.Assign [.Name y py] (.ListComp elt [⟨target,iter,ifs,0⟩] scope pos) Kr) (qh (xR ij g gr d_ nl caps) (jE i)):=by
 intro pins s σ H c0 I h;rw[exec_Assign_Name_used _ _ _ _ pM];refine acZ (wpAny_standAt (acZ ?_));show adm _ X.A (do let _ ←comprehension (.ListComp elt [⟨target,iter,ifs,0⟩] scope pos) scope X.env _ (newList []) false (aeq iter X.env) (some (assign (.Name y py) X.env))) _ _ s;refine acZ (ad9 (wpAny_comprehension_free (use:=some (assign (.Name y py) X.env)) (Q:=fun _ s'=>o9 X pins c0 .next s') rfl hs (EX (G6 S I)) S.kind S.locs ?_) (fun _ s' aR=>ac3 (ac3 aR)) fun _ _ e=>e);refine bZ (ar pins s σ H _ I h) fun v s1 h1=>bZ h1 fun wa s2 h2=>?_;obtain⟨it,bc,gQ,cE,bk,e,ck,T,kz,f2,k⟩:=h2;subst e;obtain⟨W,⟨m0,nD⟩,turn⟩:=k s2.heap.objs.size (ck.bL.fresh (ac6 _));refine EZ (Q:=fun H'=>c0.bO (σ.set i (some (.ref s2.heap.objs.size))) H') S aB ck T kz f2 aO bT he nD turn (fun acc C=>compPost (adu X.prog X.w) X.A X.xe (some (assign (.Name y py) X.env)) (fun _ s'=>o9 X pins c0 .next s') acc C) ?_;intro C s' H' aK hK ia q;obtain⟨m,aK⟩:=aK;show adm _ X.A (assign (.Name y py) X.env (.ref s2.heap.objs.size)) _ _ s';have lU:Inv X pins σ H' s':=ia s'.heap (ai5 _ _);refine wpAny_assign_Name (Kz (v:=.ref s2.heap.objs.size) lU cB bq (.inl ai) (show RelV (V.ref _) _ from rfl) (fun i0 Mc Qh=>?_) (.inr ai));obtain⟨a,Qg,ag⟩:=Qh;obtain⟨jb,b0,c9,e2,kT,zF⟩:=hK;have T1:C≠a:=by
  rcases ag with z|z
  ·rw[z];exact b0
  ·exact fun w=>kT y a z w.symm
 refine⟨m,aK.sameBut Qg T1,fun h' jF=>?_⟩;exact⟨_,H',Mc.turned (t':=i0.toks) (it:=C) (fun b o J e=>(jF.2 b J).trans e) jb b0 e2 kT zF,q⟩
end
end a3
namespace bt
open PySem a3
inductive D where
 |non|aF (b:Bool)|int (i:Int)|str (x:Str)
 |tup (xs:List D)|lst (xs:List D)|cJ (xs:List D)
 |dA (ks:List Key) (xs:List D)|bx (ks:List cx) (xs:List D)
 |ins (c:Str) (ns:List Str) (xs:List D)
 |oa (c:Str)
 |dB (xs:List D)
def Sub(G H:ah):Prop:=∀b o,G b=some o→H b=some o
theorem Sub.refl(G:ah):Sub G G:=fun _ _ e=>e
theorem Sub.trans{G H I:ah}(a:Sub G H)(b:Sub H I):Sub G I:=fun c o e=>b c o (a c o e)
theorem Sub.gone{G H:ah}(a:Sub G H){b:ada}(h:H b=none):G b=none:=by
 cases e:G b with
 |none=>rfl
 |some o=>rw[a b o e]at h;cases h
theorem Sub.upd{G:ah}{a:ada}{o:dR}(h:G a=none):Sub G (upd G a o):=fun b u e=>by rw[dV (jl e h)];exact e
theorem Sub.x1{G H:ah}{a:ada}{o:dR}(s:Sub G H)(h:G a=none):Sub G (a3.upd H a o):=fun b u e=>by rw[dV (jl e h)];exact s b u e
theorem Sub.both{G H:ah}{a:ada}{o:dR}(s:Sub G H):Sub (a3.upd G a o) (a3.upd H a o):=fun b u e=>by
 by_cases J:b=a
 ·subst J;rw[et]at e ⊢;exact e
 ·rw[dV J]at e ⊢;exact s b u e
theorem Sub.at{G H:ah}{a:ada}{o:dR}(s:Sub G H)(h:H a=some o):Sub (a3.upd G a o) H:=fun b u e=>by
 by_cases J:b=a
 ·subst J;rw[et]at e;rw[h];exact e
 ·rw[dV J]at e;exact s b u e
def jx(H:ah)(b:ada):Prop:=H b≠none∧∀xs,H b≠some (.tup xs)
structure cq(G H G' H':ah):Prop where
 g:Sub G G'
 h:Sub H H'
 n:∀b,jx H b→G' b=G b
theorem Sub.some{G H:ah}(s:Sub G H){b:ada}(h:G b≠none):H b≠none:=fun z=>h (s.gone z)
theorem Sub.kq{G H:ah}(s:Sub G H){b:ada}(h:jx G b):jx H b:=by
 cases e:G b with
 |none=>exact absurd e h.1
 |some o=>exact⟨s.some h.1,fun xs z=>h.2 xs (e.trans ((s b o e).symm.trans z))⟩
theorem jx.of{H:ah}{b:ada}{o:dR}(e:H b=some o)(n:∀xs,o≠.tup xs):jx H b:=⟨by rw[e];exact(fun z=>nomatch z),fun xs z=>n xs (adh (e.symm.trans z))⟩
theorem cq.refl(G H:ah):cq G H G H:=⟨Sub.refl _,Sub.refl _,fun _ _=>rfl⟩
theorem cq.trans{G H aW H1 dg bk:ah}(a:cq G H aW H1)(b:cq aW H1 dg bk):cq G H dg bk:=⟨a.g.trans b.g,a.h.trans b.h,fun c aB=>(b.n c (a.h.kq aB)).trans (a.n c aB)⟩
theorem cq.lay{G H:ah}{p:ada}{o:dR}(s:Sub G H)(aS:H p=none):cq G H (a3.upd G p o) (a3.upd H p o):=⟨Sub.upd (s.gone aS),Sub.upd aS,fun b J=>by rw[dV];intro e;subst e;exact J.1 aS⟩
theorem cq.lay0{G H:ah}{p:ada}{o:dR}(aS:H p=none):cq G H G (a3.upd H p o):=⟨Sub.refl _,Sub.upd aS,fun _ _=>rfl⟩
theorem cq.put{G H G' H':ah}{p:ada}{o:dR}(u:cq G H G' H')(aS:H p=none)(aO:G' p=none):cq G H (a3.upd G' p o) H':=⟨u.g.trans (Sub.upd aO),u.h,fun b J=>by
 rw[dV]
 ·exact u.n b J
 ·intro e;subst e;exact J.1 aS⟩
theorem gA.mono{G H:ah}(s:Sub G H){a:ada}{u:dR}(r:gA G a u):gA H a u:=by
 rcases r with r|⟨o,r⟩
 ·exact .inl (s _ _ r)
 ·exact .inr ⟨o,s _ _ r⟩
theorem b7.mono{K:PySem.W.Frag}{G H:ah}(s:Sub G H){a:ada}{xs:List V}(r:b7 K G a xs):b7 K H a xs:=by
 rcases r with r|r
 ·exact .inl (gA.mono s r)
 ·exact .inr r
theorem c2.mono{K:PySem.W.Frag}{G H:ah}(s:Sub G H){a:ada}{xs:List V}(r:c2 K G a xs):c2 K H a xs:=by
 rcases r with r|r
 ·exact .inl (gA.mono s r)
 ·exact .inr r
def gu(K:PySem.W.Frag)(c:Str)(C:ada):Prop:=PySem.W.nsIn K ado c=some (some (.ref C))
mutual
noncomputable def At(K:PySem.W.Frag)(G:ah):D→V→Prop
 |.non,v=>v=.non
 |.aF b,v=>v=.aF b
 |.int i,v=>v=.int i
 |.str x,v=>v=.str x
 |.tup ds,v=>∃a xs,v=.ref a∧G a=some (.tup xs)∧aP K G ds xs
 |.dB ds,v=>∃a xs,v=.ref a∧c2 K G a xs∧aP K G ds xs
 |.lst ds,v=>∃a xs,v=.ref a∧G a=some (.lst xs)∧aP K G ds xs
 |.cJ ds,v=>∃a xs,v=.ref a∧b7 K G a xs∧aP K G ds xs
 |.dA ks ds,v=>∃a xs,v=.ref a∧G a=some (.dA xs)∧xs.map (·.1)=ks∧aP K G ds (xs.map (·.2))
 |.bx ks ds,v=>∃a xs,v=.ref a∧G a=some (.bx xs)∧xs.map (·.1)=ks∧aP K G ds (xs.map (·.2))
 |.ins c ns ds,v=>∃a a8 xs,v=.ref a∧(∃C,gu K c C∧G a=some (.ins C a8 xs))∧xs.map (·.1)=ns∧aP K G ds (xs.map (·.2))
 |.oa c,v=>∃(a:ada)(xs:List V),v=.ref a∧(∃C,gu K c C∧G a=some (OA a (.ref C)))∧xs=[]
noncomputable def aP(K:PySem.W.Frag)(G:ah):List D→List V→Prop
 |[],vs=>vs=[]
 |d::ds,vs=>∃v r,vs=v::r∧At K G d v∧aP K G ds r
end
mutual
theorem At.mono{K:PySem.W.Frag}{G H:ah}(s:Sub G H):∀{d:D}{v:V},At K G d v→At K H d v
 |.non,_,h=>by simpa only[At]using h
 |.aF _,_,h=>by simpa only[At]using h
 |.int _,_,h=>by simpa only[At]using h
 |.str _,_,h=>by simpa only[At]using h
 |.tup _,_,h=>by simp only[At]at h ⊢;obtain⟨a,xs,e,q,r⟩:=h;exact⟨a,xs,e,s _ _ q,aP.mono s r⟩
 |.dB _,_,h=>by simp only[At]at h ⊢;obtain⟨a,xs,e,q,r⟩:=h;exact⟨a,xs,e,c2.mono s q,aP.mono s r⟩
 |.lst _,_,h=>by simp only[At]at h ⊢;obtain⟨a,xs,e,q,r⟩:=h;exact⟨a,xs,e,s _ _ q,aP.mono s r⟩
 |.cJ _,_,h=>by simp only[At]at h ⊢;obtain⟨a,xs,e,q,r⟩:=h;exact⟨a,xs,e,b7.mono s q,aP.mono s r⟩
 |.dA _ _,_,h=>by simp only[At]at h ⊢;obtain⟨a,xs,e,q,k,r⟩:=h;exact⟨a,xs,e,s _ _ q,k,aP.mono s r⟩
 |.bx _ _,_,h=>by simp only[At]at h ⊢;obtain⟨a,xs,e,q,k,r⟩:=h;exact⟨a,xs,e,s _ _ q,k,aP.mono s r⟩
 |.ins _ _ _,_,h=>by simp only[At]at h ⊢;obtain⟨a,a8,xs,e,⟨C,b0,q⟩,k,r⟩:=h;exact⟨a,a8,xs,e,⟨C,b0,s _ _ q⟩,k,aP.mono s r⟩
 |.oa _,_,h=>by simp only[At]at h ⊢;obtain⟨a,xs,e,⟨C,b0,q⟩,r⟩:=h;exact⟨a,xs,e,⟨C,b0,s _ _ q⟩,r⟩
theorem aP.mono{K:PySem.W.Frag}{G H:ah}(s:Sub G H):∀{ds:List D}{vs:List V},aP K G ds vs→aP K H ds vs
 |[],_,h=>by simpa only[aP]using h
 |_::_,_,h=>by simp only[aP]at h ⊢;obtain⟨v,r,e,q,t⟩:=h;exact⟨v,r,e,At.mono s q,aP.mono s t⟩
end
section
variable{K:PySem.W.Frag}{G:ah}
theorem aP.nil:aP K G [] []:=by simp only[aP]
theorem aP.cons{d:D}{ds:List D}{v:V}{vs:List V}(h:At K G d v)(t:aP K G ds vs):aP K G (d::ds) (v::vs):=by simp only[aP];exact⟨v,vs,rfl,h,t⟩
theorem aP.length:∀{ds:List D}{vs:List V},aP K G ds vs→ds.length=vs.length
 |[],_,h=>by simp only[aP]at h;subst h;rfl
 |_::_,_,h=>by simp only[aP]at h;obtain⟨v,r,rfl,_,t⟩:=h;simp[aP.length t]
theorem aP.get:∀{ds:List D}{vs:List V}{i:Nat}{d:D},aP K G ds vs→ds[i]?=some d→∃v,vs[i]?=some v∧At K G d v
 |[],_,_,_,_,e=>by simp at e
 |_::_,_,0,_,h,e=>by simp only[aP]at h;obtain⟨v,r,rfl,q,t⟩:=h;simp at e;subst e;exact⟨v,by simp,q⟩
 |_::_,_,i+1,d,h,e=>by simp only[aP]at h;obtain⟨v,r,rfl,q,t⟩:=h;obtain⟨u,h1,h2⟩:=aP.get (i:=i) (d:=d) t (by simpa using e);exact⟨u,by simpa using h1,h2⟩
theorem aP.vL{ds:List D}{vs:List V}{i:Nat}{v:V}(h:aP K G ds vs)(e:vs[i]?=some v):∃d,ds[i]?=some d∧At K G d v:=by
 have ar:i<ds.length:=by rw[h.length];exact(List.getElem?_eq_some_iff.mp e).1
 obtain⟨u,h1,h2⟩:=h.get (ac2 ar);rw[e]at h1;cases h1;exact⟨_,ac2 ar,h2⟩
theorem aP.append:∀{ds es:List D}{vs ws:List V},aP K G ds vs→aP K G es ws→aP K G (ds++es) (vs++ws)
 |[],_,_,_,h,t=>by simp only[aP]at h;subst h;exact t
 |_::_,_,_,_,h,t=>by simp only[aP]at h;obtain⟨v,r,rfl,q,s⟩:=h;exact .cons q (aP.append s t)
theorem aP.take:∀(n:Nat){ds:List D}{vs:List V},aP K G ds vs→aP K G (ds.take n) (vs.take n)
 |0,_,_,_=>by simpa using aP.nil
 |_+1,[],_,h=>by simp only[aP]at h;subst h;simpa using aP.nil
 |n+1,_::_,_,h=>by simp only[aP]at h;obtain⟨v,r,rfl,q,t⟩:=h;exact .cons q (aP.take n t)
theorem aP.drop:∀(n:Nat){ds:List D}{vs:List V},aP K G ds vs→aP K G (ds.drop n) (vs.drop n)
 |0,_,_,h=>by simpa using h
 |_+1,[],_,h=>by simp only[aP]at h;subst h;simpa using aP.nil
 |n+1,_::_,_,h=>by simp only[aP]at h;obtain⟨v,r,rfl,q,t⟩:=h;simpa using aP.drop n t
theorem aP.set{d:D}{v:V}(q:At K G d v):∀(n:Nat){ds:List D}{vs:List V},aP K G ds vs→aP K G (ds.set n d) (vs.set n v)
 |_,[],_,h=>by simp only[aP]at h;subst h;simpa using aP.nil
 |0,_::_,_,h=>by simp only[aP]at h;obtain⟨u,r,rfl,_,t⟩:=h;exact .cons q t
 |n+1,_::_,_,h=>by simp only[aP]at h;obtain⟨u,r,rfl,p,t⟩:=h;exact .cons p (aP.set q n t)
theorem aP.snoc{ds:List D}{vs:List V}{d:D}{v:V}(h:aP K G ds vs)(q:At K G d v):aP K G (ds++[d]) (vs++[v]):=h.append (.cons q .nil)
end
inductive R(α:Type) where
 |ok (a:α)|exc (c:Str)|bad
namespace R
def bind{α β:Type}:R α→(α→R β)→R β
 |.ok a,k=>k a
 |.exc c,_=>.exc c
 |.bad,_=>.bad
def map{α β:Type}(f:α→β)(r:R α):R β:=r.bind fun a=>.ok (f a)
theorem bM{α β:Type}(a:α)(k:α→R β):(R.ok a).bind k=k a:=rfl
end R
inductive T where
 |aA (d:D)|lst (b3:List T)|dA (ks:List Key) (b3:List T)|bx (ks:List cx) (b3:List T)|ins (c:Str) (ns:List Str) (b3:List T)
mutual
noncomputable def toD:T→D
 |.aA d=>d
 |.lst b3=>.lst (oQ b3)
 |.dA ks b3=>.dA ks (oQ b3)
 |.bx ks b3=>.bx ks (oQ b3)
 |.ins c ns b3=>.ins c ns (oQ b3)
noncomputable def oQ:List T→List D
 |[]=>[]
 |t::b3=>toD t::oQ b3
end
mutual
noncomputable def bc(H:ah):T→V→List ada
 |.aA _,_=>[]
 |.lst b3,v=>match v with
  |.ref a=>match H a with
   |some (.lst xs)=>a::gK H b3 xs
   |_=>[]
  |_=>[]
 |.dA _ b3,v=>match v with
  |.ref a=>match H a with
   |some (.dA xs)=>a::gK H b3 (xs.map (·.2))
   |_=>[]
  |_=>[]
 |.bx _ b3,v=>match v with
  |.ref a=>match H a with
   |some (.bx xs)=>a::gK H b3 (xs.map (·.2))
   |_=>[]
  |_=>[]
 |.ins _ _ b3,v=>match v with
  |.ref a=>match H a with
   |some (.ins _ _ xs)=>a::gK H b3 (xs.map (·.2))
   |_=>[]
  |_=>[]
noncomputable def gK(H:ah):List T→List V→List ada
 |[],_=>[]
 |t::b3,vs=>match vs with
  |v::r=>bc H t v++gK H b3 r
  |[]=>[]
end
mutual
noncomputable def dz(K:PySem.W.Frag)(G H:ah):T→V→Prop
 |.aA d,v=>At K G d v
 |.lst b3,v=>∃a xs,v=.ref a∧H a=some (.lst xs)∧cW K G H b3 xs
 |.dA ks b3,v=>∃a xs,v=.ref a∧H a=some (.dA xs)∧xs.map (·.1)=ks∧cW K G H b3 (xs.map (·.2))
 |.bx ks b3,v=>∃a xs,v=.ref a∧H a=some (.bx xs)∧xs.map (·.1)=ks∧cW K G H b3 (xs.map (·.2))
 |.ins c ns b3,v=>∃a a8 xs,v=.ref a∧(∃C,gu K c C∧H a=some (.ins C a8 xs))∧xs.map (·.1)=ns∧cW K G H b3 (xs.map (·.2))
noncomputable def cW(K:PySem.W.Frag)(G H:ah):List T→List V→Prop
 |[],vs=>vs=[]
 |t::b3,vs=>∃v r,vs=v::r∧dz K G H t v∧cW K G H b3 r
end
section
variable{K:PySem.W.Frag}{G G' H H' P:ah}
theorem q1{a:ada}{xs:List V}{b3:List T}(q:H a=some (.lst xs)):bc H (.lst b3) (.ref a)=a::gK H b3 xs:=by simp only[bc,q]
theorem qY{a:ada}{xs:List (Key×V)}{ks:List Key}{b3:List T}(q:H a=some (.dA xs)):bc H (.dA ks b3) (.ref a)=a::gK H b3 (xs.map (·.2)):=by simp only[bc,q]
theorem qZ{a:ada}{xs:List (cx×V)}{ks:List cx}{b3:List T}(q:H a=some (.bx xs)):bc H (.bx ks b3) (.ref a)=a::gK H b3 (xs.map (·.2)):=by simp only[bc,q]
theorem q0{a C:ada}{a8}{xs:List (Str×V)}{c:Str}{ns:List Str}{b3:List T}(q:H a=some (.ins C a8 xs)):bc H (.ins c ns b3) (.ref a)=a::gK H b3 (xs.map (·.2)):=by simp only[bc,q]
theorem qX{t:T}{b3:List T}{v:V}{r:List V}:gK H (t::b3) (v::r)=bc H t v++gK H b3 r:=by simp only[gK]
mutual
theorem dz.mono(bh:Sub G G'):∀{t:T}{v:V},dz K G H t v→dz K G' H t v
 |.aA _,_,h=>by simp only[dz]at h ⊢;exact h.mono bh
 |.lst _,_,h=>by simp only[dz]at h ⊢;obtain⟨a,xs,e,q,r⟩:=h;exact⟨a,xs,e,q,cW.mono bh r⟩
 |.dA _ _,_,h=>by simp only[dz]at h ⊢;obtain⟨a,xs,e,q,n,r⟩:=h;exact⟨a,xs,e,q,n,cW.mono bh r⟩
 |.bx _ _,_,h=>by simp only[dz]at h ⊢;obtain⟨a,xs,e,q,n,r⟩:=h;exact⟨a,xs,e,q,n,cW.mono bh r⟩
 |.ins _ _ _,_,h=>by simp only[dz]at h ⊢;obtain⟨a,a8,xs,e,q,n,r⟩:=h;exact⟨a,a8,xs,e,q,n,cW.mono bh r⟩
theorem cW.mono(bh:Sub G G'):∀{b3:List T}{vs:List V},cW K G H b3 vs→cW K G' H b3 vs
 |[],_,h=>by simpa only[cW]using h
 |_::_,_,h=>by simp only[cW]at h ⊢;obtain⟨v,r,e,q,t⟩:=h;exact⟨v,r,e,dz.mono bh q,cW.mono bh t⟩
end
mutual
theorem dz.keep:∀{t:T}{v:V},(∀b∈bc H t v,H' b=H b)→dz K G H t v→dz K G H' t v∧bc H' t v=bc H t v
 |.aA _,_,_,h=>by simp only[dz]at h;exact⟨by simp only[dz];exact h,by simp only[bc]⟩
 |.lst _,_,k,h=>by simp only[dz]at h;obtain⟨a,xs,rfl,q,r⟩:=h;rw[q1 q]at k;have jS:H' a=some (.lst xs):=(k a (by simp)).trans q;obtain⟨az,bg⟩:=cW.keep (fun b J=>k b (ac7 _ J)) r;exact⟨by simp only[dz];exact⟨a,xs,rfl,jS,az⟩,by rw[q1 jS,q1 q,bg]⟩
 |.dA _ _,_,k,h=>by simp only[dz]at h;obtain⟨a,xs,rfl,q,n,r⟩:=h;rw[qY q]at k;have jS:H' a=some (.dA xs):=(k a (by simp)).trans q;obtain⟨az,bg⟩:=cW.keep (fun b J=>k b (ac7 _ J)) r;exact⟨by simp only[dz];exact⟨a,xs,rfl,jS,n,az⟩,by rw[qY jS,qY q,bg]⟩
 |.bx _ _,_,k,h=>by simp only[dz]at h;obtain⟨a,xs,rfl,q,n,r⟩:=h;rw[qZ q]at k;have jS:H' a=some (.bx xs):=(k a (by simp)).trans q;obtain⟨az,bg⟩:=cW.keep (fun b J=>k b (ac7 _ J)) r;exact⟨by simp only[dz];exact⟨a,xs,rfl,jS,n,az⟩,by rw[qZ jS,qZ q,bg]⟩
 |.ins _ _ _,_,k,h=>by simp only[dz]at h;obtain⟨a,a8,xs,rfl,⟨C,b0,q⟩,n,r⟩:=h;rw[q0 q]at k;have jS:H' a=some (.ins C a8 xs):=(k a (by simp)).trans q;obtain⟨az,bg⟩:=cW.keep (fun b J=>k b (ac7 _ J)) r;exact⟨by simp only[dz];exact⟨a,a8,xs,rfl,⟨C,b0,jS⟩,n,az⟩,by rw[q0 jS,q0 q,bg]⟩
theorem cW.keep:∀{b3:List T}{vs:List V},(∀b∈gK H b3 vs,H' b=H b)→cW K G H b3 vs→cW K G H' b3 vs∧gK H' b3 vs=gK H b3 vs
 |[],_,_,h=>⟨by simpa only[cW]using h,by simp only[gK]⟩
 |_::_,_,k,h=>by simp only[cW]at h;obtain⟨v,r,rfl,q,t⟩:=h;rw[qX]at k;obtain⟨aV,bE⟩:=dz.keep (fun b J=>k b (ad8 _ J)) q;obtain⟨t1,cy⟩:=cW.keep (fun b J=>k b (adA _ J)) t;exact⟨by simp only[cW];exact⟨v,r,rfl,aV,t1⟩,by rw[qX,qX,bE,cy]⟩
end
mutual
theorem dz.some:∀{t:T}{v:V},dz K G H t v→∀b∈bc H t v,H b≠none
 |.aA _,_,_=>by intro b J;simp[bc]at J
 |.lst _,_,h=>by
  simp only[dz]at h;obtain⟨a,xs,rfl,q,r⟩:=h;rw[q1 q];intro b J;rcases List.mem_cons.mp J with rfl|J
  ·rw[q];exact fun z=>nomatch z
  ·exact cW.some r b J
 |.dA _ _,_,h=>by
  simp only[dz]at h;obtain⟨a,xs,rfl,q,n,r⟩:=h;rw[qY q];intro b J;rcases List.mem_cons.mp J with rfl|J
  ·rw[q];exact fun z=>nomatch z
  ·exact cW.some r b J
 |.bx _ _,_,h=>by
  simp only[dz]at h;obtain⟨a,xs,rfl,q,n,r⟩:=h;rw[qZ q];intro b J;rcases List.mem_cons.mp J with rfl|J
  ·rw[q];exact fun z=>nomatch z
  ·exact cW.some r b J
 |.ins _ _ _,_,h=>by
  simp only[dz]at h;obtain⟨a,a8,xs,rfl,⟨C,b0,q⟩,n,r⟩:=h;rw[q0 q];intro b J;rcases List.mem_cons.mp J with rfl|J
  ·rw[q];exact fun z=>nomatch z
  ·exact cW.some r b J
theorem cW.some:∀{b3:List T}{vs:List V},cW K G H b3 vs→∀b∈gK H b3 vs,H b≠none
 |[],_,_=>by intro b J;simp[gK]at J
 |_::_,_,h=>by
  simp only[cW]at h;obtain⟨v,r,rfl,q,t⟩:=h;rw[qX];intro b J;rcases List.mem_append.mp J with J|J
  ·exact dz.some q b J
  ·exact cW.some t b J
end
mutual
theorem dz.kq:∀{t:T}{v:V},dz K G H t v→∀b∈bc H t v,jx H b
 |.aA _,_,_=>by intro b J;simp[bc]at J
 |.lst _,_,h=>by
  simp only[dz]at h;obtain⟨a,xs,rfl,q,r⟩:=h;rw[q1 q];intro b J;rcases List.mem_cons.mp J with rfl|J
  ·exact .of q fun _ z=>nomatch z
  ·exact cW.kq r b J
 |.dA _ _,_,h=>by
  simp only[dz]at h;obtain⟨a,xs,rfl,q,n,r⟩:=h;rw[qY q];intro b J;rcases List.mem_cons.mp J with rfl|J
  ·exact .of q fun _ z=>nomatch z
  ·exact cW.kq r b J
 |.bx _ _,_,h=>by
  simp only[dz]at h;obtain⟨a,xs,rfl,q,n,r⟩:=h;rw[qZ q];intro b J;rcases List.mem_cons.mp J with rfl|J
  ·exact .of q fun _ z=>nomatch z
  ·exact cW.kq r b J
 |.ins _ _ _,_,h=>by
  simp only[dz]at h;obtain⟨a,a8,xs,rfl,⟨C,b0,q⟩,n,r⟩:=h;rw[q0 q];intro b J;rcases List.mem_cons.mp J with rfl|J
  ·exact .of q fun _ z=>nomatch z
  ·exact cW.kq r b J
theorem cW.kq:∀{b3:List T}{vs:List V},cW K G H b3 vs→∀b∈gK H b3 vs,jx H b
 |[],_,_=>by intro b J;simp[gK]at J
 |_::_,_,h=>by
  simp only[cW]at h;obtain⟨v,r,rfl,q,t⟩:=h;rw[qX];intro b J;rcases List.mem_append.mp J with J|J
  ·exact dz.kq q b J
  ·exact cW.kq t b J
end
mutual
theorem dz.view(bh:Sub G P):∀{t:T}{v:V},(∀a∈bc H t v,P a=H a)→dz K G H t v→At K P (toD t) v
 |.aA _,_,_,h=>by simp only[dz,toD]at h ⊢;exact h.mono bh
 |.lst _,_,k,h=>by simp only[dz]at h;obtain⟨a,xs,rfl,q,r⟩:=h;rw[q1 q]at k;simp only[toD,At];exact⟨a,xs,rfl,by rw[k a (by simp)];exact q,cW.view bh (fun b J=>k b (ac7 _ J)) r⟩
 |.dA _ _,_,k,h=>by simp only[dz]at h;obtain⟨a,xs,rfl,q,n,r⟩:=h;rw[qY q]at k;simp only[toD,At];exact⟨a,xs,rfl,by rw[k a (by simp)];exact q,n,cW.view bh (fun b J=>k b (ac7 _ J)) r⟩
 |.bx _ _,_,k,h=>by simp only[dz]at h;obtain⟨a,xs,rfl,q,n,r⟩:=h;rw[qZ q]at k;simp only[toD,At];exact⟨a,xs,rfl,by rw[k a (by simp)];exact q,n,cW.view bh (fun b J=>k b (ac7 _ J)) r⟩
 |.ins _ _ _,_,k,h=>by simp only[dz]at h;obtain⟨a,a8,xs,rfl,⟨C,b0,q⟩,n,r⟩:=h;rw[q0 q]at k;simp only[toD,At];exact⟨a,a8,xs,rfl,⟨C,b0,by rw[k a (by simp)];exact q⟩,n,cW.view bh (fun b J=>k b (ac7 _ J)) r⟩
theorem cW.view(bh:Sub G P):∀{b3:List T}{vs:List V},(∀a∈gK H b3 vs,P a=H a)→cW K G H b3 vs→aP K P (oQ b3) vs
 |[],_,_,h=>by simp only[cW,oQ,aP]at h ⊢;exact h
 |_::_,_,k,h=>by simp only[cW]at h;obtain⟨v,r,rfl,q,t⟩:=h;rw[qX]at k;simp only[oQ,aP];exact⟨v,r,rfl,dz.view bh (fun b J=>k b (ad8 _ J)) q,cW.view bh (fun b J=>k b (adA _ J)) t⟩
end
end
inductive kN where
 |lst (ds:List D)|bx (ks:List cx) (ds:List D)|ins (c:Str) (ns:List Str) (ds:List D)
noncomputable def mM(K:PySem.W.Frag)(G:ah):kN→dR→Prop
 |.lst ds,aE=>∃xs,aE=.lst xs∧aP K G ds xs
 |.bx ks ds,aE=>∃xs,aE=.bx xs∧xs.map (·.1)=ks∧aP K G ds (xs.map (·.2))
 |.ins c ns ds,aE=>∃C a8 xs,gu K c C∧aE=.ins C a8 xs∧xs.map (·.1)=ns∧aP K G ds (xs.map (·.2))
theorem mM.mono{K:PySem.W.Frag}{G H:ah}(s:Sub G H):∀{o:kN}{aE:dR},mM K G o aE→mM K H o aE
 |.lst _,_,⟨xs,e,q⟩=>⟨xs,e,q.mono s⟩
 |.bx _ _,_,⟨xs,e,k,q⟩=>⟨xs,e,k,q.mono s⟩
 |.ins _ _ _,_,⟨C,a8,xs,c,e,k,q⟩=>⟨C,a8,xs,c,e,k,q.mono s⟩
def nr:kN→D
 |.lst ds=>.lst ds
 |.bx ks ds=>.bx ks ds
 |.ins c ns ds=>.ins c ns ds
theorem mM.at{K:PySem.W.Frag}{G:ah}{o:kN}{aE:dR}{a:ada}(h:mM K G o aE)(e:G a=some aE):At K G (nr o) (.ref a):=by
 cases o with
 |lst ds=>obtain⟨xs,rfl,q⟩:=h;simp only[nr,At];exact⟨a,xs,rfl,e,q⟩
 |bx ks ds=>obtain⟨xs,rfl,k,q⟩:=h;simp only[nr,At];exact⟨a,xs,rfl,e,k,q⟩
 |ins c ns ds=>obtain⟨C,a8,xs,b0,rfl,k,q⟩:=h;simp only[nr,At];exact⟨a,a8,xs,rfl,⟨C,b0,e⟩,k,q⟩
inductive dc where
 |un|aA (d:D)|bf (o:kN)|eB (t:T)
abbrev dc.dj(ds:List D):dc:=.bf (.lst ds)
abbrev av:=List dc
structure bG where
 K:PySem.W.Frag
 b8:ah
 bK:ah
 hW:Str→ah→Prop
structure eZ(F:bG)(G H:ah):Prop where
 sub:Sub G H
 fN:Sub F.b8 G
 bD:Sub F.bK H
 new:∀b,jx F.bK b→G b=F.b8 b
structure u3(F:bG)(G H:ah)(t:T)(v:V):Prop where
 at_:dz F.K G H t v
 a7:(bc H t v).Nodup
 own:∀b∈bc H t v,G b=none∧F.bK b=none
noncomputable def j4(F:bG)(G H:ah)(o:Option V):dc→Prop
 |.un=>True
 |.aA d=>∃v,o=some v∧At F.K G d v
 |.bf bf=>∃a aE,o=some (.ref a)∧H a=some aE∧G a=none∧F.bK a=none∧mM F.K G bf aE
 |.eB t=>∃v,o=some v∧u3 F G H t v
noncomputable def f7(H:ah):dc→Option V→ada→Prop
 |.un,_,_=>False
 |.aA _,_,_=>False
 |.bf _,o,a=>o=some (.ref a)
 |.eB t,o,a=>∃v,o=some v∧a∈bc H t v
structure Rel(F:bG)(G H:ah)(σ :St)(ρ:av):Prop where
 aM:eZ F G H
 len: σ.length=ρ.length
 cV:∀(i:Nat)(s:dc),ρ[i]?=some s→∃o,σ[i]?=some o∧j4 F G H o s
 pk:∀(i j:Nat)(a:ada)(s s':dc)(o bR:Option V),ρ[i]?=some s→ρ[j]?=some s'→ σ[i]?=some o→ σ[j]?=some bR→f7 H s o a→f7 H s' bR a→i=j
noncomputable def dS(H:ah)(σ :St)(ρ:av)(a:ada):Prop:=∃(i:Nat)(s:dc)(o:Option V),ρ[i]?=some s∧ σ[i]?=some o∧f7 H s o a
theorem Kj{α:Type}{l:List α}{i:Nat}{x:α}(e:l[i]?=some x):l.set i x=l:=by
 apply List.ext_getElem?;intro j;rw[List.getElem?_set];by_cases h:i=j
 ·subst h;rw[if_pos rfl,if_pos (List.getElem?_eq_some_iff.mp e).1];exact e.symm
 ·simp[h]
section
variable{F:bG}{G G' H H':ah}{σ :St}{ρ:av}
theorem dS.bf{a:ada}{i:Nat}{o:kN}(aq:ρ[i]?=some (.bf o))(aD: σ[i]?=some (some (.ref a))):dS H σ ρ a:=⟨i,_,_,aq,aD,rfl⟩
theorem j4.keep{o:Option V}{s:dc}(h:j4 F G H o s)(bh:Sub G G')(k:∀a,f7 H s o a→H' a=H a∧G' a=none):j4 F G' H' o s∧(∀a,f7 H' s o a→f7 H s o a):=by
 cases s with
 |un=>exact⟨trivial,fun _ z=>z⟩
 |aA d=>obtain⟨v,aD,a⟩:=h;exact⟨⟨v,aD,a.mono bh⟩,fun _ z=>z⟩
 |bf ds=>obtain⟨a,xs,aD,h1,h2,h3,h4⟩:=h;exact⟨⟨a,xs,aD,by rw[(k a aD).1];exact h1,(k a aD).2,h3,h4.mono bh⟩,fun _ z=>z⟩
 |eB t=>
  obtain⟨v,aD,aV,bE,er⟩:=h;obtain⟨nE,kG⟩:=aV.keep fun b J=>(k b ⟨v,aD,J⟩).1;refine⟨⟨v,aD,⟨nE.mono bh,by rw[kG];exact bE,fun b J=>?_⟩⟩,fun a z=>?_⟩
  ·rw[kG]at J;exact⟨(k b ⟨v,aD,J⟩).2,(er b J).2⟩
  ·obtain⟨u,b4,J⟩:=z;rw[aD]at b4;cases b4;rw[kG]at J;exact⟨v,aD,J⟩
theorem j4.foot{o:Option V}{s:dc}(h:j4 F G H o s){a:ada}(f:f7 H s o a):H a≠none∧G a=none∧F.bK a=none:=by
 cases s with
 |un=>exact f.elim
 |aA d=>exact f.elim
 |bf ds=>obtain⟨b,xs,aD,h1,h2,h3,h4⟩:=h;have f:o=some (.ref a):=f;rw[aD]at f;cases f;exact⟨by rw[h1];exact(fun z=>nomatch z),h2,h3⟩
 |eB t=>obtain⟨v,aD,aV,bE,er⟩:=h;obtain⟨u,b4,J⟩:=f;rw[aD]at b4;cases b4;exact⟨aV.some a J,er a J⟩
theorem j4.Ad{o:Option V}{s:dc}{a:ada}(h:j4 F G H o s)(f:f7 H s o a):jx H a:=by
 cases s with
 |un=>exact f.elim
 |aA _=>exact f.elim
 |bf bf=>
  obtain⟨b,aE,aD,h1,_,_,h4⟩:=h;have b4:o=some (.ref a):=f;rw[aD]at b4;cases b4;cases bf with
  |lst _=>obtain⟨xs,rfl,_⟩:=h4;exact .of h1 fun _ z=>nomatch z
  |bx _ _=>obtain⟨xs,rfl,_⟩:=h4;exact .of h1 fun _ z=>nomatch z
  |ins _ _ _=>obtain⟨C,a8,xs,_,rfl,_⟩:=h4;exact .of h1 fun _ z=>nomatch z
 |eB t=>obtain⟨v,aD,aV,bE,er⟩:=h;obtain⟨u,b4,J⟩:=f;rw[aD]at b4;cases b4;exact aV.kq a J
theorem Rel.Ad(r:Rel F G H σ ρ){a:ada}(h:dS H σ ρ a):jx H a:=by obtain⟨i,s,o,aq,aD,f⟩:=h;obtain⟨bR,b4,q⟩:=r.cV i s aq;rw[aD]at b4;cases b4;exact q.Ad f
theorem Rel.foot(r:Rel F G H σ ρ){a:ada}(h:dS H σ ρ a):H a≠none∧G a=none∧F.bK a=none:=by obtain⟨i,s,o,aq,aD,f⟩:=h;obtain⟨bR,b4,q⟩:=r.cV i s aq;rw[aD]at b4;cases b4;exact q.foot f
theorem Rel.over{F':bG}(r:Rel F G H σ ρ)(a5:F'.K=F.K)(aM:eZ F' G' H')(bh:Sub G G')(k:∀a,dS H σ ρ a→H' a=H a∧G' a=none∧F'.bK a=none):Rel F' G' H' σ ρ:=by
 have one:∀(i:Nat)(s:dc),ρ[i]?=some s→∃o,σ[i]?=some o∧j4 F' G' H' o s∧(∀a,f7 H' s o a→f7 H s o a):=fun i s e=>by
  obtain⟨o,aq,q⟩:=r.cV i s e;obtain⟨aV,bE⟩:=q.keep bh fun a f=>⟨(k a ⟨i,s,o,e,aq,f⟩).1,(k a ⟨i,s,o,e,aq,f⟩).2.1⟩;refine⟨o,aq,?_,bE⟩;cases s with
  |un=>trivial
  |aA d=>obtain⟨v,aD,a⟩:=aV;exact⟨v,aD,by rw[a5];exact a⟩
  |bf ds=>obtain⟨a,xs,aD,h1,h2,h3,h4⟩:=aV;exact⟨a,xs,aD,h1,h2,(k a ⟨i,_,o,e,aq,aD⟩).2.2,by rw[a5];exact h4⟩
  |eB t=>obtain⟨v,aD,nE,kG,qo⟩:=aV;exact⟨v,aD,by rw[a5];exact nE,kG,fun b J=>⟨(qo b J).1,(k b ⟨i,_,o,e,aq,bE b ⟨v,aD,J⟩⟩).2.2⟩⟩
 refine⟨aM,r.len,fun i s e=>let⟨o,aq,q,_⟩:=one i s e;⟨o,aq,q⟩,fun i j a s s' o bR aq aD b4 e4 f1 f2=>?_⟩;obtain⟨u,bu,_,a9⟩:=one i s aq;rw[b4]at bu;cases bu;obtain⟨u,ju,_,nI⟩:=one j s' aD;rw[e4]at ju;cases ju;exact r.pk i j a s s' o bR aq aD b4 e4 (a9 a f1) (nI a f2)
theorem Rel.grow(r:Rel F G H σ ρ)(bh:Sub G G')(XI:Sub G' H')(bD:Sub H H')(nw:∀b,jx H b→G' b=G b):Rel F G' H' σ ρ:=by
 refine r.over rfl ⟨XI,r.aM.fN.trans bh,r.aM.bD.trans bD,fun b J=>?_⟩ bh fun a ag=>?_
 ·rw[nw b (r.aM.bD.kq J)];exact r.aM.new b J
 ·obtain⟨h1,h2,h3⟩:=r.foot ag;refine⟨?_,(nw a (r.Ad ag)).trans h2,h3⟩;cases e:H a with
  |none=>exact absurd e h1
  |some o=>exact bD a o e
theorem Rel.lay(r:Rel F G H σ ρ){p:ada}{o:dR}(aS:H p=none):Rel F (upd G p o) (upd H p o) σ ρ:=by have O4:G p=none:=r.aM.sub.gone aS;refine r.grow (Sub.upd O4) (Sub.both r.aM.sub) (Sub.upd aS) fun b J=>?_;rw[dV];intro e;subst e;exact J.1 aS
theorem Rel.lay0(r:Rel F G H σ ρ){p:ada}{o:dR}(aS:H p=none):Rel F G (upd H p o) σ ρ:=
 r.grow (Sub.refl _) (Sub.x1 r.aM.sub (r.aM.sub.gone aS)) (Sub.upd aS) fun _ _=>rfl
theorem Rel.take(r:Rel F G H σ ρ){p:ada}{o:dR}(aS:H p=some o)(aO:G p=none)(h0:F.bK p=none)(no:¬dS H σ ρ p):Rel F (upd G p o) H σ ρ:=by
 refine r.over rfl ⟨Sub.at r.aM.sub aS,r.aM.fN.trans (Sub.upd aO),r.aM.bD,fun b J=>?_⟩ (Sub.upd aO) fun a ag=>?_
 ·rw[dV]
  ·exact r.aM.new b J
  ·intro e;subst e;exact J.1 h0
 ·obtain⟨h1,h2,h3⟩:=r.foot ag;exact⟨rfl,by rw[dV (fun z=>no (by rw[←z];exact ag))];exact h2,h3⟩
theorem Rel.aA(r:Rel F G H σ ρ){i:Nat}{d:D}(e:ρ[i]?=some (.aA d)):∃v,σ[i]?=some (some v)∧At F.K G d v:=by obtain⟨o,aq,v,rfl,a⟩:=r.cV i _ e;exact⟨v,aq,a⟩
theorem Rel.obj(r:Rel F G H σ ρ){i:Nat}{o:kN}(e:ρ[i]?=some (.bf o)):∃a aE,σ[i]?=some (some (.ref a))∧H a=some aE∧G a=none∧F.bK a=none∧mM F.K G o aE:=by obtain⟨v,aq,a,aE,rfl,h1,h2,h3,h4⟩:=r.cV i _ e;exact⟨a,aE,aq,h1,h2,h3,h4⟩
theorem Rel.own{G H:ah}{σ :St}{ρ:av}(r:Rel F G H σ ρ){i:Nat}{ds:List D}(e:ρ[i]?=some (.dj ds)):∃a xs,σ[i]?=some (some (.ref a))∧H a=some (.lst xs)∧G a=none∧F.bK a=none∧aP F.K G ds xs:=by obtain⟨a,aE,aq,h1,h2,h3,xs,rfl,h4⟩:=r.obj e;exact⟨a,xs,aq,h1,h2,h3,h4⟩
theorem get_set{α:Type}{l:List α}{i j:Nat}{x y:α}(e:(l.set i x)[j]?=some y):(i=j∧y=x)∨(i≠j∧l[j]?=some y):=by
 rw[List.getElem?_set]at e;by_cases h:i=j
 ·rw[if_pos h]at e
  split at e
  ·cases e;exact .inl ⟨h,rfl⟩
  ·cases e
 ·rw[if_neg h]at e;exact .inr ⟨h,e⟩
theorem Rel.xB(r:Rel F G H σ ρ){i:Nat}{s:dc}{o:Option V}(ar:i<ρ.length)(q:j4 F G H o s)(no:∀a,f7 H s o a→∀(j:Nat)(s':dc)(bR:Option V),j≠i→ρ[j]?=some s'→ σ[j]?=some bR→¬f7 H s' bR a):Rel F G H (σ.set i o) (ρ.set i s):=by
 have hs:i< σ.length:=by rw[r.len];exact ar
 refine⟨r.aM,by simp[r.len],fun j s e=>?_,fun j k b s1 s2 cQ b_ aq aD b4 e4 f1 f2=>?_⟩
 ·rcases get_set e with⟨rfl,rfl⟩|⟨ne,e⟩
  ·exact⟨o,by simp[hs],q⟩
  ·rw[aeE ne];exact r.cV j s e
 ·rcases get_set aq with⟨bA,bu⟩|⟨n1,eX⟩
  ·subst bA bu;rw[afe hs]at b4;cases b4;rcases get_set aD with⟨bI,a9⟩|⟨n2,eY⟩
   ·exact bI
   ·rw[aeE n2]at e4;exact absurd f2 (no b f1 k s2 b_ (agS n2) eY e4)
  ·rw[aeE n1]at b4;rcases get_set aD with⟨bI,a9⟩|⟨n2,eY⟩
   ·subst bI a9;rw[afe hs]at e4;cases e4;exact absurd f1 (no b f2 j s1 cQ (agS n1) eX b4)
   ·rw[aeE n2]at e4;exact r.pk j k b s1 s2 cQ b_ eX eY b4 e4 f1 f2
theorem Rel.set(r:Rel F G H σ ρ){i:Nat}{d:D}{v:V}(ar:i<ρ.length)(a:At F.K G d v):Rel F G H (σ.set i (some v)) (ρ.set i (.aA d)):=
 r.xB ar ⟨v,rfl,a⟩ fun _ f=>f.elim
theorem Rel.setB(r:Rel F G H σ ρ){i:Nat}{bf:kN}{a:ada}{aE:dR}(ar:i<ρ.length)(ag:H a=some aE)(aO:G a=none)(h0:F.bK a=none)(q:mM F.K G bf aE)(no:∀(j:Nat)(s:dc)(o:Option V),j≠i→ρ[j]?=some s→ σ[j]?=some o→¬f7 H s o a):Rel F G H (σ.set i (some (.ref a))) (ρ.set i (.bf bf)):=
 r.xB ar ⟨a,aE,rfl,ag,aO,h0,q⟩ fun b f=>by have f:some (V.ref a)=some (.ref b):=f;cases f;exact no
theorem Rel.XE(r:Rel F G H σ ρ){i:Nat}{ds:List D}{a:ada}{xs:List V}(ar:i<ρ.length)(ag:H a=some (.lst xs))(aO:G a=none)(h0:F.bK a=none)(q:aP F.K G ds xs)(no:∀(j:Nat)(s:dc)(o:Option V),j≠i→ρ[j]?=some s→ σ[j]?=some o→¬f7 H s o a):Rel F G H (σ.set i (some (.ref a))) (ρ.set i (.dj ds)):=r.setB ar ag aO h0 ⟨xs,rfl,q⟩ no
theorem Rel.TZ(r:Rel F G H σ ρ){i:Nat}{s s':dc}{o:Option V}{a:ada}{aE:dR}(e:ρ[i]?=some s)(aw: σ[i]?=some o)(fu:f7 H s o a)(q:j4 F G (upd H a aE) o s')(f:∀b,f7 (upd H a aE) s' o b→f7 H s o b∨¬dS H σ ρ b) :
  Rel F G (upd H a aE) σ (ρ.set i s'):=by
 have ar:i<ρ.length:=(List.getElem?_eq_some_iff.mp e).1;obtain⟨h1,h2,h3⟩:=r.foot ⟨i,s,o,e,aw,fu⟩;have p_:∀(j:Nat)(t:dc),i≠j→ρ[j]?=some t→∃u,σ[j]?=some u∧j4 F G (upd H a aE) u t∧(∀b,f7 (upd H a aE) t u b→f7 H t u b):=fun j t ne z=>by obtain⟨u,bu,a9⟩:=r.cV j t z;have na:¬f7 H t u a:=fun w=>ne (r.pk i j a s t o u e z aw bu fu w);obtain⟨aV,bE⟩:=a9.keep (H':=upd H a aE) (Sub.refl G) fun b sS=>⟨dV fun w=>na (w▸sS),(a9.foot sS).2.1⟩;exact⟨u,bu,aV,bE⟩
 refine⟨⟨Sub.x1 r.aM.sub h2,r.aM.fN,fun c u z=>?_,r.aM.new⟩,by simp[r.len],fun j t z=>?_,fun j k c s1 s2 cQ b_ b4 e4 hh kW f1 f2=>?_⟩
 ·rw[dV (jl z h3)];exact r.aM.bD c u z
 ·rcases get_set z with⟨rfl,rfl⟩|⟨ne,z⟩
  ·exact⟨o,aw,q⟩
  ·obtain⟨u,bu,a9,_⟩:=p_ j t ne z;exact⟨u,bu,a9⟩
 ·rcases get_set b4 with⟨bA,bu⟩|⟨n1,qq⟩
  ·subst bA bu;rw[aw]at hh;cases hh;rcases get_set e4 with⟨bI,a9⟩|⟨n2,oU⟩
   ·exact bI
   ·obtain⟨u,eX,_,eY⟩:=p_ k s2 n2 oU;rw[kW]at eX;cases eX;have g2:=eY c f2;rcases f c f1 with g1|g1
    ·exact r.pk i k c s s2 o b_ e oU aw kW g1 g2
    ·exact absurd ⟨k,s2,b_,oU,kW,g2⟩ g1
  ·obtain⟨u,eX,_,eY⟩:=p_ j s1 n1 qq;rw[hh]at eX;cases eX;have g1:=eY c f1;rcases get_set e4 with⟨bI,a9⟩|⟨n2,oU⟩
   ·subst bI a9;rw[aw]at kW;cases kW;rcases f c f2 with g2|g2
    ·exact r.pk j i c s1 s cQ o qq e hh aw g1 g2
    ·exact absurd ⟨j,s1,cQ,qq,hh,g1⟩ g2
   ·obtain⟨u,iu,_,jt⟩:=p_ k s2 n2 oU;rw[kW]at iu;cases iu;exact r.pk j k c s1 s2 cQ b_ qq oU hh kW g1 (jt c f2)
theorem Rel.Br(r:Rel F G H σ ρ){i:Nat}{o bR:kN}{a:ada}{aE:dR}(e:ρ[i]?=some (.bf o))(aw: σ[i]?=some (some (.ref a)))(q:mM F.K G bR aE) :
  Rel F G (upd H a aE) σ (ρ.set i (.bf bR)):=by
 obtain⟨b,aaI,aq,h1,h2,h3,h4⟩:=r.obj e;rw[aw]at aq;have bj:b=a:=by cases aq;rfl
 subst bj;exact r.TZ e aw rfl ⟨b,aE,rfl,et,h2,h3,q⟩ fun c f=>.inl f
theorem Rel.mut(r:Rel F G H σ ρ){i:Nat}{ds pq:List D}{a:ada}{ys:List V}(e:ρ[i]?=some (.dj ds))(aw: σ[i]?=some (some (.ref a)))(q:aP F.K G pq ys) :
  Rel F G (upd H a (.lst ys)) σ (ρ.set i (.dj pq)):=r.Br e aw ⟨ys,rfl,q⟩
theorem Rel.jB(r:Rel F G H σ ρ){i:Nat}{o:kN}(e:ρ[i]?=some (.bf o)):∃G',Rel F G' H σ (ρ.set i (.aA (nr o)))∧Sub G G':=by
 have ar:i<ρ.length:=(List.getElem?_eq_some_iff.mp e).1;obtain⟨a,aE,aq,h1,h2,h3,h4⟩:=r.obj e;have un:Rel F G H σ (ρ.set i .un):=by have z:=r.xB (s:=.un) (o:=some (.ref a)) ar trivial fun _ f=>f.elim;rw[bt.Kj aq]at z;exact z
 have no:¬dS H σ (ρ.set i .un) a:=fun⟨j,s,u,eX,eY,iu⟩=>by
  rcases get_set eX with⟨_,z⟩|⟨ne,eX⟩
  ·subst z;exact iu
  ·exact ne (r.pk i j a _ s _ u e eX aq eY rfl iu)
 have bg:=un.take h1 h2 h3 no;have d9:=bg.xB (i:=i) (s:=.aA (nr o)) (o:=some (.ref a)) (by simpa using ar) ⟨.ref a,rfl,(h4.mono (Sub.upd h2)).at et⟩ fun _ f=>f.elim;rw[bt.Kj aq,List.set_set]at d9;exact⟨upd G a aE,d9,Sub.upd h2⟩
end
abbrev aN:=av→R D
abbrev cH:=av→R Bool
abbrev aY:=av→R (List D)
inductive gx where
 |bO (ρ:av)|dJ (d:D)|jn (ds:List D)|fV (ρ:av)|c_ (ρ:av)|eh (t:T)
abbrev bl:=av→R gx
def km(F:bG)(c:Str):Prop:=∀G' H',eZ F G' H'→F.hW c H'
noncomputable def ib(F:bG)(G H:ah)(σ :St)(ρ:av)(Q:cX):R D→Prop
 |.ok d=>∀v H' G',Rel F G' H' σ ρ→cq G H G' H'→At F.K G' d v→Q v H'
 |.exc c=>km F c
 |.bad=>False
noncomputable def rh(F:bG)(G H:ah)(σ :St)(ρ:av)(Q:Bool→ah→Prop):R Bool→Prop
 |.ok b=>∀H' G',Rel F G' H' σ ρ→cq G H G' H'→Q b H'
 |.exc c=>km F c
 |.bad=>False
noncomputable def RV(F:bG)(G H:ah)(σ :St)(ρ:av)(Q:List V→ah→Prop):R (List D)→Prop
 |.ok ds=>∀vs H' G',Rel F G' H' σ ρ→cq G H G' H'→aP F.K G' ds vs→Q vs H'
 |.exc c=>km F c
 |.bad=>False
noncomputable def R0(F:bG)(G H:ah)(σ :St)(ρ:av)(Q:cX):R (List D)→Prop
 |.ok ds=>∀a xs H' G',Rel F G' H' σ ρ→cq G H G' H'→H a=none→H' a=some (.lst xs)→G' a=none→aP F.K G' ds xs→Q (.ref a) H'
 |.exc c=>km F c
 |.bad=>False
noncomputable def hO(F:bG)(G:ah)(c0:Ends):R gx→Prop
 |.ok (.bO bJ)=>∀ σ' G' H',Rel F G' H' σ' bJ→Sub G G'→c0.bO σ' H'
 |.ok (.fV bJ)=>∀ σ' G' H',Rel F G' H' σ' bJ→Sub G G'→c0.fV σ' H'
 |.ok (.c_ bJ)=>∀ σ' G' H',Rel F G' H' σ' bJ→Sub G G'→c0.c_ σ' H'
 |.ok (.dJ d)=>∀v G' H',eZ F G' H'→At F.K G' d v→c0.dJ v H'
 |.ok (.jn ds)=>∀a xs G' H',eZ F G' H'→G' a=none→F.bK a=none→H' a=some (.lst xs)→aP F.K G' ds xs→c0.dJ (.ref a) H'
 |.ok (.eh t)=>∀v G' H',eZ F G' H'→u3 F G' H' t v→c0.dJ v H'
 |.exc c=>km F c
 |.bad=>False
def cZ(F:bG)(m:aN):TE:=fun σ H Q=>∃G ρ,Rel F G H σ ρ∧ib F G H σ ρ Q (m ρ)
def gq(F:bG)(m:cH):TT:=fun σ H Q=>∃G ρ,Rel F G H σ ρ∧rh F G H σ ρ Q (m ρ)
def eE(F:bG)(m:aY):eL:=fun σ H Q=>∃G ρ,Rel F G H σ ρ∧RV F G H σ ρ Q (m ρ)
def jW(F:bG)(m:aY):TE:=fun σ H Q=>∃G ρ,Rel F G H σ ρ∧R0 F G H σ ρ Q (m ρ)
def fH(F:bG)(m:bl):e1:=fun c0 σ H=>∃G ρ,Rel F G H σ ρ∧hO F G c0 (m ρ)
section
variable{F:bG}{G aW H H1:ah}{σ :St}{ρ:av}
theorem ib.mono{Q:cX}(s:cq G H aW H1):∀{r:R D},ib F G H σ ρ Q r→ib F aW H1 σ ρ Q r
 |.ok _,h=>fun v H' G' r bh a=>h v H' G' r (s.trans bh) a
 |.exc _,h=>h
 |.bad,h=>h
theorem rh.mono{Q:Bool→ah→Prop}(s:cq G H aW H1):∀{r:R Bool},rh F G H σ ρ Q r→rh F aW H1 σ ρ Q r
 |.ok _,h=>fun H' G' r bh=>h H' G' r (s.trans bh)
 |.exc _,h=>h
 |.bad,h=>h
theorem hO.mono{c0:Ends}(s:Sub G aW):∀{r:R gx},hO F G c0 r→hO F aW c0 r
 |.ok (.bO _),h=>fun σ' G' H' r bh=>h σ' G' H' r (s.trans bh)
 |.ok (.fV _),h=>fun σ' G' H' r bh=>h σ' G' H' r (s.trans bh)
 |.ok (.c_ _),h=>fun σ' G' H' r bh=>h σ' G' H' r (s.trans bh)
 |.ok (.dJ _),h=>h
 |.ok (.jn _),h=>h
 |.ok (.eh _),h=>h
 |.exc _,h=>h
 |.bad,h=>h
end
abbrev eR(t' t:TE):Prop:=∀ σ H Q,t' σ H Q→t σ H Q
abbrev mJ(t' t:TT):Prop:=∀ σ H Q,t' σ H Q→t σ H Q
abbrev qE(t' t:eL):Prop:=∀ σ H Q,t' σ H Q→t σ H Q
abbrev hu(t' t:e1):Prop:=∀c0 σ H,t' c0 σ H→t c0 σ H
def U(i:Nat):aN:=fun ρ=>match ρ[i]? with
 |some (.aA d)=>.ok d
 |_=>.bad
def ao(d:D):aN:=fun _=>.ok d
section
variable{F:bG}
theorem Rk(i:Nat):eR (cZ F (U i)) (Dh i):=by
 rintro σ H Q ⟨G,ρ,r,h⟩;unfold U at h;cases e:ρ[i]? with
 |none=>rw[e]at h;exact h.elim
 |some s=>
  rw[e]at h;cases s with
  |un=>exact h.elim
  |bf _=>exact h.elim
  |eB _=>exact h.elim
  |aA d=>obtain⟨v,aq,a⟩:=r.aA e;exact⟨v,aq,h v H G r (cq.refl _ _) a⟩
theorem th{d:D}{v:V}(a:∀G,At F.K G d v):eR (cZ F (ao d)) (qi v):=by rintro σ H Q ⟨G,ρ,r,h⟩;exact h v H G r (cq.refl _ _) (a G)
def aj(f:D→D→R D)(a b:aN):aN:=fun ρ=>(a ρ).bind fun x=>(b ρ).bind fun y=>f x y
noncomputable def hv(F:bG)(r:e_)(f:D→D→R D):Prop:=∀ σ ρ G H x y a8 gj Q,Rel F G H σ ρ→At F.K G a8 x→At F.K G gj y→ib F G H σ ρ Q (f a8 gj)→r x y H Q
theorem v5{r:e_}{f:D→D→R D}{ma gC:aN}(aE:hv F r f):eR (cZ F (aj f ma gC)) (uu r (cZ F ma) (cZ F gC)):=by
 rintro σ H Q ⟨G,ρ,r,h⟩;unfold aj at h;refine⟨G,ρ,r,?_⟩;cases aw:ma ρ with
 |bad=>rw[aw]at h;exact h.elim
 |exc c=>rw[aw]at h;exact h
 |ok a8=>
  rw[aw,R.bM]at h;intro x H1 aW az s1 b9;refine⟨aW,ρ,az,?_⟩;cases bj:gC ρ with
  |bad=>rw[bj]at h;exact h.elim
  |exc c=>rw[bj]at h;exact h
  |ok gj=>rw[bj,R.bM]at h;intro y bk dg bg s2 c3;exact aE σ ρ dg bk x y a8 gj Q bg (b9.mono s2.g) c3 (h.mono (s1.trans s2))
def dI(f:D→R D)(a:aN):aN:=fun ρ=>(a ρ).bind f
def aC:aY:=fun _=>.ok []
def ae(a:aN)(r:aY):aY:=fun ρ=>(a ρ).bind fun x=>(r ρ).bind fun xs=>.ok (x::xs)
theorem HC:qE (eE F aC) xT:=by rintro σ H Q ⟨G,ρ,r,h⟩;exact h [] H G r (cq.refl _ _) .nil
theorem QG{ma:aN}{nj:aY}:qE (eE F (ae ma nj)) (C8 (cZ F ma) (eE F nj)):=by
 rintro σ H Q ⟨G,ρ,r,h⟩;unfold ae at h;refine⟨G,ρ,r,?_⟩;cases aw:ma ρ with
 |bad=>rw[aw]at h;exact h.elim
 |exc c=>rw[aw]at h;exact h
 |ok a8=>
  rw[aw,R.bM]at h;intro x H1 aW az s1 b9;refine⟨aW,ρ,az,?_⟩;cases bj:nj ρ with
  |bad=>rw[bj]at h;exact h.elim
  |exc c=>rw[bj]at h;exact h
  |ok gj=>rw[bj,R.bM]at h;intro y bk dg bg s2 c3;exact h (x::y) bk dg bg (s1.trans s2) (.cons (b9.mono s2.g) c3)
def cU(m:aY):aN:=fun ρ=>(m ρ).bind fun xs=>if xs.length≤1000000 then .ok (.tup xs)else .bad
theorem Rh{m:aY}:eR (cZ F (cU m)) (Dg (eE F m)):=by
 rintro σ H Q ⟨G,ρ,r,h⟩;unfold cU at h;refine⟨G,ρ,r,?_⟩;cases aw:m ρ with
 |bad=>rw[aw]at h;exact h.elim
 |exc c=>rw[aw]at h;exact h
 |ok ds=>
  rw[aw,R.bM]at h;intro vs H1 aW az s1 a;by_cases ai:ds.length≤1000000
  ·rw[if_pos ai]at h;refine⟨by rw[←a.length];exact adB ai (by decide),fun p aS=>?_⟩;refine h (.ref p) _ _ (az.lay aS) (s1.trans (cq.lay az.aM.sub aS)) ?_;simp only[At];exact⟨p,vs,rfl,et,a.mono (Sub.upd (az.aM.sub.gone aS))⟩
  ·rw[if_neg ai]at h;exact h.elim
theorem dS.back{G H H':ah}{σ :St}{ρ:av}(r:Rel F G H σ ρ)(s:Sub H H'){a:ada}(h:dS H' σ ρ a):dS H σ ρ a:=by
 obtain⟨i,cV,o,aq,aD,f⟩:=h;refine⟨i,cV,o,aq,aD,?_⟩;obtain⟨bR,b4,q⟩:=r.cV i cV aq;rw[aD]at b4;cases b4;exact(q.keep (G':=G) (H':=H') (Sub.refl _) fun b sS=>⟨by
  cases e:H b with
  |none=>exact absurd e (q.foot sS).1
  |some u=>exact s b u e,(q.foot sS).2.1⟩).2 a f
theorem dS.fresh{G H H':ah}{σ :St}{ρ:av}(r:Rel F G H σ ρ)(s:Sub H H'){a:ada}(n:H a=none):¬dS H' σ ρ a:=fun h=>(r.foot (h.back r s)).1 n
def lim(xs:List D):R (List D):=if xs.length≤1000000 then .ok xs else .bad
def ez(m:aY):aY:=fun ρ=>(m ρ).bind lim
theorem QX{m:aY}:eR (jW F (ez m)) (KX (eE F m)):=by
 rintro σ H Q ⟨G,ρ,r,h⟩;unfold ez lim at h;refine⟨G,ρ,r,?_⟩;cases aw:m ρ with
 |bad=>rw[aw]at h;exact h.elim
 |exc c=>rw[aw]at h;exact h
 |ok ds=>
  rw[aw,R.bM]at h;intro vs H1 aW az s1 a;by_cases ai:ds.length≤1000000
  ·rw[if_pos ai]at h;refine⟨by rw[←a.length];exact adB ai (by decide),fun p aS=>?_⟩;exact h p vs _ aW (az.lay0 aS) (s1.trans (cq.lay0 aS)) (s1.h.gone aS) et (az.aM.sub.gone aS) a
  ·rw[if_neg ai]at h;exact h.elim
def cN(m:aY):aN:=fun ρ=>(m ρ).bind fun xs=>.ok (.lst xs)
theorem QP{m:aY}:eR (cZ F (cN m)) (jW F m):=by
 rintro σ H Q ⟨G,ρ,r,h⟩;unfold cN at h;refine⟨G,ρ,r,?_⟩;cases aw:m ρ with
 |bad=>rw[aw]at h;exact h.elim
 |exc c=>rw[aw]at h;exact h
 |ok ds=>rw[aw,R.bM]at h;intro a xs H' G' bF s' aK ag aO q;refine h (.ref a) H' _ (bF.take ag aO (r.aM.bD.gone aK) (dS.fresh r s'.h aK)) (s'.put aK aO) ?_;simp only[At];exact⟨a,xs,rfl,et,q.mono (Sub.upd aO)⟩
def i_:D→R Bool
 |.aF b=>.ok b
 |_=>.bad
def a_(m:aN):cH:=fun ρ=>(m ρ).bind i_
theorem v3{m:aN}:mJ (gq F (a_ m)) (C6 (cZ F m)):=by
 rintro σ H Q ⟨G,ρ,r,h⟩;unfold a_ at h;refine⟨G,ρ,r,?_⟩;cases aw:m ρ with
 |bad=>rw[aw]at h;exact h.elim
 |exc c=>rw[aw]at h;exact h
 |ok d=>
  rw[aw,R.bM]at h;intro x H1 aW az s1 b9
  cases d<;>first
   |(exact h.elim)
   |(simp only[At]at b9;exact⟨_,b9,h H1 aW az s1⟩)
theorem Hx{m:aN}:mJ (gq F (a_ m)) (Df (cZ F m)):=v3
def iV(a b:cH):cH:=fun ρ=>(a ρ).bind fun c=>if c=true then b ρ else .ok false
def eP(a b:cH):cH:=fun ρ=>(a ρ).bind fun c=>if c=true then .ok true else b ρ
def d7(a:cH):cH:=fun ρ=>(a ρ).bind fun c=>.ok (!c)
theorem Qy{a b:cH}:mJ (gq F (iV a b)) (KO (gq F a) (gq F b)):=by
 rintro σ H Q ⟨G,ρ,r,h⟩;unfold iV at h;refine⟨G,ρ,r,?_⟩;cases aw:a ρ with
 |bad=>rw[aw]at h;exact h.elim
 |exc c=>rw[aw]at h;exact h
 |ok c=>
  rw[aw,R.bM]at h;intro H1 aW az s1;cases c with
  |true=>exact⟨aW,ρ,az,rh.mono s1 h⟩
  |false=>exact h H1 aW az s1
theorem Q5{a b:cH}:mJ (gq F (eP a b)) (K2 (gq F a) (gq F b)):=by
 rintro σ H Q ⟨G,ρ,r,h⟩;unfold eP at h;refine⟨G,ρ,r,?_⟩;cases aw:a ρ with
 |bad=>rw[aw]at h;exact h.elim
 |exc c=>rw[aw]at h;exact h
 |ok c=>
  rw[aw,R.bM]at h;intro H1 aW az s1;cases c with
  |true=>exact h H1 aW az s1
  |false=>exact⟨aW,ρ,az,rh.mono s1 h⟩
theorem Q2{a:cH}:mJ (gq F (d7 a)) (K0 (gq F a)):=by
 rintro σ H Q ⟨G,ρ,r,h⟩;unfold d7 at h;refine⟨G,ρ,r,?_⟩;cases aw:a ρ with
 |bad=>rw[aw]at h;exact h.elim
 |exc c=>rw[aw]at h;exact h
 |ok c=>rw[aw,R.bM]at h;exact h
noncomputable def iW(a b:aN):aN:=fun ρ=>(a ρ).bind fun x=>(i_ x).bind fun c=>if c=true then b ρ else .ok (.aF false)
noncomputable def ry(a b:aN):aN:=fun ρ=>(a ρ).bind fun x=>(i_ x).bind fun c=>if c=true then .ok (.aF true)else b ρ
def rx(a:aN):aN:=fun ρ=>(a ρ).bind fun x=>(i_ x).bind fun c=>.ok (.aF (!c))
theorem Qz{a b:aN}:eR (cZ F (iW a b)) (KP (cZ F a) (cZ F b)):=by
 rintro σ H Q ⟨G,ρ,r,h⟩;unfold iW at h;refine⟨G,ρ,r,?_⟩;cases aw:a ρ with
 |bad=>rw[aw]at h;exact h.elim
 |exc c=>rw[aw]at h;exact h
 |ok d=>
  rw[aw,R.bM]at h;intro x H1 aW az s1 b9;cases d with
  |aF c=>
   simp only[At]at b9;refine⟨c,b9,?_⟩;cases c with
   |true=>exact⟨aW,ρ,az,ib.mono s1 h⟩
   |false=>exact h _ H1 aW az s1 (by simp only[At])
  |_=>exact h.elim
theorem Q6{a b:aN}:eR (cZ F (ry a b)) (K3 (cZ F a) (cZ F b)):=by
 rintro σ H Q ⟨G,ρ,r,h⟩;unfold ry at h;refine⟨G,ρ,r,?_⟩;cases aw:a ρ with
 |bad=>rw[aw]at h;exact h.elim
 |exc c=>rw[aw]at h;exact h
 |ok d=>
  rw[aw,R.bM]at h;intro x H1 aW az s1 b9;cases d with
  |aF c=>
   simp only[At]at b9;refine⟨c,b9,?_⟩;cases c with
   |false=>exact⟨aW,ρ,az,ib.mono s1 h⟩
   |true=>exact h _ H1 aW az s1 (by simp only[At])
  |_=>exact h.elim
theorem Q3{a:aN}:eR (cZ F (rx a)) (K1 (cZ F a)):=by
 rintro σ H Q ⟨G,ρ,r,h⟩;unfold rx at h;refine⟨G,ρ,r,?_⟩;cases aw:a ρ with
 |bad=>rw[aw]at h;exact h.elim
 |exc c=>rw[aw]at h;exact h
 |ok d=>
  rw[aw,R.bM]at h;intro x H1 aW az s1 b9;cases d with
  |aF c=>simp only[At]at b9;exact⟨c,b9,h _ H1 aW az s1 (by simp only[At])⟩
  |_=>exact h.elim
def ru(c:cH)(a b:aN):aN:=fun ρ=>(c ρ).bind fun k=>if k=true then a ρ else b ρ
theorem QR{c:cH}{a b:aN}:eR (cZ F (ru c a b)) (KW (gq F c) (cZ F a) (cZ F b)):=by
 rintro σ H Q ⟨G,ρ,r,h⟩;unfold ru at h;refine⟨G,ρ,r,?_⟩;cases aw:c ρ with
 |bad=>rw[aw]at h;exact h.elim
 |exc c=>rw[aw]at h;exact h
 |ok k=>
  rw[aw,R.bM]at h;intro H1 aW az s1;cases k with
  |true=>exact⟨aW,ρ,az,ib.mono s1 h⟩
  |false=>exact⟨aW,ρ,az,ib.mono s1 h⟩
def cC:bl:=fun ρ=>.ok (.bO ρ)
def a4(a b:bl):bl:=fun ρ=>(a ρ).bind fun f=>match f with
 |.bO bJ=>b bJ
 |f=>.ok f
theorem Q1:hu (fH F cC) Dc:=by rintro c0 σ H ⟨G,ρ,r,h⟩;exact h σ G H r (Sub.refl _)
theorem Ra{a b:bl}:hu (fH F (a4 a b)) (De (fH F a) (fH F b)):=by
 rintro c0 σ H ⟨G,ρ,r,h⟩;unfold a4 at h;refine⟨G,ρ,r,?_⟩;cases aw:a ρ with
 |bad=>rw[aw]at h;exact h.elim
 |exc c=>rw[aw]at h;exact h
 |ok f=>
  rw[aw,R.bM]at h;cases f with
  |bO bJ=>exact fun σ' G' H' bF s'=>⟨G',bJ,bF,hO.mono s' h⟩
  |dJ d=>exact h
  |jn d=>exact h
  |fV d=>exact h
  |c_ d=>exact h
  |eh d=>exact h
def pW(a:aN):bl:=fun ρ=>(a ρ).bind fun _=>.ok (.bO ρ)
theorem QL{a:aN}:hu (fH F (pW a)) (C9 (cZ F a)):=by
 rintro c0 σ H ⟨G,ρ,r,h⟩;unfold pW at h;refine⟨G,ρ,r,?_⟩;cases aw:a ρ with
 |bad=>rw[aw]at h;exact h.elim
 |exc c=>rw[aw]at h;exact h
 |ok d=>rw[aw,R.bM]at h;exact fun v H' G' bF s' _=>h σ G' H' bF s'.g
def b2(a:aN):bl:=fun ρ=>(a ρ).bind fun d=>.ok (.dJ d)
theorem Q8{a:aN}:hu (fH F (b2 a)) (xU (cZ F a)):=by
 rintro c0 σ H ⟨G,ρ,r,h⟩;unfold b2 at h;refine⟨G,ρ,r,?_⟩;cases aw:a ρ with
 |bad=>rw[aw]at h;exact h.elim
 |exc c=>rw[aw]at h;exact h
 |ok d=>rw[aw,R.bM]at h;exact fun v H' G' bF s' a=>h v G' H' bF.aM a
def jj(a:aY):bl:=fun ρ=>(a ρ).bind fun d=>.ok (.jn d)
theorem Q9{a:aY}:hu (fH F (jj a)) (xU (jW F a)):=by
 rintro c0 σ H ⟨G,ρ,r,h⟩;unfold jj at h;refine⟨G,ρ,r,?_⟩;cases aw:a ρ with
 |bad=>rw[aw]at h;exact h.elim
 |exc c=>rw[aw]at h;exact h
 |ok d=>rw[aw,R.bM]at h;exact fun a xs H' G' bF s' h1 h2 h3 h4=>h a xs G' H' bF.aM h3 (r.aM.bD.gone h1) h2 h4
def mm(i:Nat):aY:=fun ρ=>match ρ[i]? with
 |some (.bf (.lst d))=>.ok d
 |_=>.bad
theorem Q_(i:Nat):hu (fH F (jj (mm i))) (xU (Dh i)):=by
 rintro c0 σ H ⟨G,ρ,r,h⟩;unfold jj mm at h;cases e:ρ[i]? with
 |none=>rw[e]at h;exact h.elim
 |some s=>
  rw[e]at h;cases s with
  |un=>exact h.elim
  |aA _=>exact h.elim
  |eB _=>exact h.elim
  |bf o=>
   cases o with
   |lst ds=>obtain⟨a,xs,aq,h1,h2,h3,h4⟩:=r.own e;exact⟨.ref a,aq,h a xs G H r.aM h2 h3 h1 h4⟩
   |bx _ _=>exact h.elim
   |ins _ _ _=>exact h.elim
def cu(c:cH)(a b:bl):bl:=fun ρ=>(c ρ).bind fun k=>if k=true then a ρ else b ρ
theorem QS{c:cH}{a b:bl}:hu (fH F (cu c a b)) (C_ (gq F c) (fH F a) (fH F b)):=by
 rintro c0 σ H ⟨G,ρ,r,h⟩;unfold cu at h;refine⟨G,ρ,r,?_⟩;cases aw:c ρ with
 |bad=>rw[aw]at h;exact h.elim
 |exc c=>rw[aw]at h;exact h
 |ok k=>
  rw[aw,R.bM]at h;intro H1 aW az s1;cases k with
  |true=>exact⟨aW,ρ,az,hO.mono s1.g h⟩
  |false=>exact⟨aW,ρ,az,hO.mono s1.g h⟩
def br(i:Nat)(d:D)(ρ:av):R av:=if i<ρ.length then .ok (ρ.set i (.aA d))else .bad
def cT(i:Nat)(a:aN):bl:=fun ρ=>(a ρ).bind fun d=>(br i d ρ).bind fun bJ=>.ok (.bO bJ)
theorem Rb{i:Nat}{a:aN}:hu (fH F (cT i a)) (qh (cZ F a) (jE i)):=by
 rintro c0 σ H ⟨G,ρ,r,h⟩;unfold cT br at h;refine⟨G,ρ,r,?_⟩;cases aw:a ρ with
 |bad=>rw[aw]at h;exact h.elim
 |exc c=>rw[aw]at h;exact h
 |ok d=>
  rw[aw,R.bM]at h;intro v H1 aW az s1 bp;by_cases ar:i<ρ.length
  ·rw[if_pos ar]at h;exact h _ aW H1 (az.set ar bp) s1.g
  ·rw[if_neg ar]at h;exact h.elim
noncomputable def fG(i:Nat)(a:aY):bl:=fun ρ=>(a ρ).bind fun ds=>if i<ρ.length then .ok (.bO (ρ.set i (.dj ds)))else .bad
theorem AP{i:Nat}{a:aY}:hu (fH F (fG i a)) (qh (jW F a) (jE i)):=by
 rintro c0 σ H ⟨G,ρ,r,h⟩;unfold fG at h;refine⟨G,ρ,r,?_⟩;cases aw:a ρ with
 |bad=>rw[aw]at h;exact h.elim
 |exc c=>rw[aw]at h;exact h
 |ok ds=>
  rw[aw,R.bM]at h;intro b xs H1 aW az s1 h1 h2 h3 h4;by_cases ar:i<ρ.length
  ·rw[if_pos ar]at h;exact h _ aW H1 (az.XE ar h2 h3 (r.aM.bD.gone h1) h4 fun j es o _ aq aD f=>dS.fresh r s1.h h1 ⟨j,es,o,aq,aD,f⟩) s1.g
  ·rw[if_neg ar]at h;exact h.elim
def kX(i:Nat)(ρ:av):av:=match ρ[i]? with
 |some (.bf o)=>ρ.set i (.aA (nr o))
 |_=>ρ
theorem Rel.kX{G H:ah}{σ :St}{ρ:av}(r:Rel F G H σ ρ)(i:Nat):∃G',Rel F G' H σ (bt.kX i ρ)∧Sub G G':=by
 unfold bt.kX;cases e:ρ[i]? with
 |none=>exact⟨G,r,Sub.refl _⟩
 |some s=>
  cases s with
  |un=>exact⟨G,r,Sub.refl _⟩
  |aA _=>exact⟨G,r,Sub.refl _⟩
  |eB _=>exact⟨G,r,Sub.refl _⟩
  |bf o=>exact r.jB e
def Tw(i:Nat)(m:bl):bl:=fun ρ=>m (kX i ρ)
def gN:D→Bool
 |.non=>true|.aF _=>true|.int _=>true|.str _=>true
 |_=>false
theorem At.J7{K:PySem.W.Frag}{G G':ah}{d:D}{v:V}(h:gN d=true)(a:At K G d v):At K G' d v:=by
 cases d<;>first
  |(simp only[At]at a ⊢;exact a)
  |(cases h)
def mX:dc→dc
 |.bf o=>.aA (nr o)
 |.eB t=>.aA (toD t)
 |s=>s
def eT(ρ:av):av:=ρ.map mX
open Classical in
noncomputable def kb(σ :St)(ρ:av)(G H:ah):ah:=fun b=>if dS H σ ρ b then H b else G b
theorem Ag{G H:ah}{σ :St}{ρ:av}(r:Rel F G H σ ρ):Sub G (kb σ ρ G H):=fun b o e=>by
 unfold kb
 split
 ·exact r.aM.sub b o e
 ·exact e
theorem sU{G H:ah}{σ :St}{ρ:av}{b:ada}(h:dS H σ ρ b):kb σ ρ G H b=H b:=by unfold kb;rw[if_pos h]
theorem OZ{H:ah}{ρ:av}{i:Nat}{s:dc}(e:(eT ρ)[i]?=some s)(o:Option V)(a:ada):¬f7 H s o a:=by
 unfold eT at e;rw[ade]at e;cases aD:ρ[i]? with
 |none=>rw[aD]at e;cases e
 |some t=>rw[aD]at e;have es:mX t=s:=adh e;subst es;cases t<;>exact fun z=>z
theorem Rel.plus{G H:ah}{σ :St}{ρ:av}(r:Rel F G H σ ρ):Rel F (kb σ ρ G H) H σ (eT ρ):=by
 have bh:=Ag r;refine⟨⟨fun b o e=>?_,r.aM.fN.trans bh,r.aM.bD,fun b J=>?_⟩,by simp[eT,r.len],fun i s e=>?_,fun i j a s s' o bR aq _ _ _ f _=>absurd f (OZ aq o a)⟩
 ·unfold kb at e
  split at e
  ·exact e
  ·exact r.aM.sub b o e
 ·unfold kb
  split
  ·rename_i z;exact absurd (r.foot z).2.2 J.1
  ·exact r.aM.new b J
 ·unfold eT at e;rw[ade]at e;cases aq:ρ[i]? with
  |none=>rw[aq]at e;cases e
  |some t=>
   rw[aq]at e;have es:mX t=s:=adh e;obtain⟨o,aD,q⟩:=r.cV i t aq;refine⟨o,aD,?_⟩;subst es;cases t with
   |un=>trivial
   |aA d=>obtain⟨v,b4,a⟩:=q;exact⟨v,b4,a.mono bh⟩
   |bf ds=>obtain⟨a,aE,b4,h1,h2,h3,h4⟩:=q;subst b4;exact⟨.ref a,rfl,(h4.mono bh).at (by rw[sU (.bf aq aD)];exact h1)⟩
   |eB t=>obtain⟨v,b4,q⟩:=q;exact⟨v,b4,q.at_.view bh fun a ag=>sU ⟨i,_,o,aq,aD,v,b4,ag⟩⟩
theorem Rel.back{G H G' H':ah}{σ :St}{ρ:av}(r:Rel F G H σ ρ)(bF:Rel F G' H' σ (eT ρ))(s:Sub (kb σ ρ G H) G'):Rel F G H' σ ρ:=
 r.over rfl ⟨(Ag r).trans (s.trans bF.aM.sub),r.aM.fN,bF.aM.bD,r.aM.new⟩ (Sub.refl _) fun a ag=>by
   obtain⟨h1,h2,h3⟩:=r.foot ag;refine⟨?_,h2,h3⟩;cases e:H a with
   |none=>exact absurd e h1
   |some o=>exact bF.aM.sub _ _ (s _ _ (by rw[sU ag];exact e))
def t8(d:D):R D:=if gN d=true then .ok d else .bad
def nc(m:aN):aN:=fun ρ=>(m (eT ρ)).bind t8
theorem QA{m:aN}:eR (cZ F (nc m)) (cZ F m):=by
 rintro σ H Q ⟨G,ρ,r,h⟩;refine⟨kb σ ρ G H,eT ρ,r.plus,?_⟩;unfold nc t8 at h;cases aw:m (eT ρ)with
 |bad=>rw[aw]at h;exact h.elim
 |exc c=>rw[aw]at h;exact h
 |ok d=>
  rw[aw,R.bM]at h;intro v H' G' bF s' a;by_cases hd:gN d=true
  ·rw[if_pos hd]at h;exact h v H' G (r.back bF s'.g) ⟨Sub.refl _,s'.h,fun _ _=>rfl⟩ (a.J7 hd)
  ·rw[if_neg hd]at h;exact h.elim
def jh(m:cH):cH:=fun ρ=>m (eT ρ)
theorem QC{m:cH}:mJ (gq F (jh m)) (gq F m):=by
 rintro σ H Q ⟨G,ρ,r,h⟩;refine⟨kb σ ρ G H,eT ρ,r.plus,?_⟩;unfold jh at h;cases aw:m (eT ρ)with
 |bad=>rw[aw]at h;exact h.elim
 |exc c=>rw[aw]at h;exact h
 |ok d=>rw[aw]at h;exact fun H' G' bF s'=>h H' G (r.back bF s'.g) ⟨Sub.refl _,s'.h,fun _ _=>rfl⟩
end
section
variable{F:bG}
structure kL(K:PySem.W.Frag)(cE:It)(ds:List D)(G:ah):Prop where
 go:∀(i:Nat)(H:ah),Sub G H→i<ds.length→cE.go i H
 i2:∀(i:Nat)(H:ah)(x:V)(H':ah),Sub G H→i<ds.length→cE.i2 i H x H'→∃d,ds[i]?=some d∧
  ((H'=H∧At K G d x)∨∃p xs es,H p=none∧H'=upd H p (.tup xs)∧x=.ref p∧d=.tup es∧aP K G es xs)
 stop:∀(H:ah),Sub G H→cE.stop ds.length H
noncomputable def RZ(F:bG)(G H:ah)(σ :St)(ρ:av)(Q:It→ah→Prop):R (List D)→Prop
 |.ok ds=>∀cE H' G',Rel F G' H' σ ρ→cq G H G' H'→kL F.K cE ds G'→Q cE H'
 |.exc c=>km F c
 |.bad=>False
def kB(F:bG)(m:aY):TI:=fun σ H Q=>∃G ρ,Rel F G H σ ρ∧RZ F G H σ ρ Q (m ρ)
abbrev nO(t' t:TI):Prop:=∀ σ H Q,t' σ H Q→t σ H Q
theorem kL.turn{cE:It}{ds:List D}{G aW H H':ah}{σ :St}{ρ:av}{i:Nat}{x:V}(t:kL F.K cE ds G)(r:Rel F aW H σ ρ)(s:Sub G aW)(ar:i<ds.length)(y:cE.i2 i H x H') :
  ∃d G',ds[i]?=some d∧Rel F G' H' σ ρ∧cq aW H G' H'∧At F.K G' d x:=by
 obtain⟨d,e,h⟩:=t.i2 i H x H' (s.trans r.aM.sub) ar y;rcases h with⟨rfl,a⟩|⟨p,xs,es,aS,rfl,rfl,rfl,a⟩
 ·exact⟨d,aW,e,r,cq.refl _ _,a.mono s⟩
 ·refine⟨_,_,e,r.lay aS,cq.lay r.aM.sub aS,?_⟩;simp only[At];exact⟨p,xs,rfl,et,(a.mono s).mono (Sub.upd (r.aM.sub.gone aS))⟩
noncomputable def nN(F:bG)(g:iG)(set:D→av→R av):Prop:=∀ σ ρ G H v d Q bJ,Rel F G H σ ρ→At F.K G d v→set d ρ=.ok bJ→(∀ σ',Rel F G H σ' bJ→Q σ' H)→g v σ H Q
theorem vJ(i:Nat):nN F (jE i) (br i):=by
 intro σ ρ G H v d Q bJ r a e h;unfold br at e;by_cases ar:i<ρ.length
 ·rw[if_pos ar]at e;cases e;exact h _ (r.set ar a)
 ·rw[if_neg ar]at e;cases e
noncomputable def hC:List (D→av→R av)→List D→av→R av
 |[],[],ρ=>.ok ρ
 |f::aX,d::ds,ρ=>(f d ρ).bind fun bJ=>hC aX ds bJ
 |_,_,_=>.bad
noncomputable def sg(F:bG)(g:lX)(set:List D→av→R av):Prop:=∀ σ ρ G H vs ds Q bJ,Rel F G H σ ρ→aP F.K G ds vs→set ds ρ=.ok bJ→(∀ σ',Rel F G H σ' bJ→Q σ' H)→g vs σ H Q
theorem GI:sg F vH (hC []):=by
 intro σ ρ G H vs ds Q bJ r a e h;cases ds with
 |nil=>simp only[aP]at a;cases e;exact⟨a,h σ r⟩
 |cons d ds=>cases e
theorem Ah{g:iG}{mY:lX}{f:D→av→R av}{aX:List (D→av→R av)}(h1:nN F g f)(h2:sg F mY (hC aX)):sg F (sT g mY) (hC (f::aX)):=by
 intro σ ρ G H vs ds Q bJ r a e h;cases ds with
 |nil=>cases e
 |cons d ds=>
  simp only[aP]at a;obtain⟨v,x3,rfl,bp,kS⟩:=a;simp only[hC]at e;cases aq:f d ρ with
  |bad=>rw[aq]at e;cases e
  |exc c=>rw[aq]at e;cases e
  |ok ea=>rw[aq,R.bM]at e;refine⟨v,x3,rfl,h1 σ ρ G H v d _ ea r bp aq fun σ1 az=>?_⟩;exact h2 σ1 ea G H x3 ds Q bJ az kS e h
def eJ(aX:List (D→av→R av)):D→av→R av
 |.tup ds,ρ=>hC aX ds ρ
 |_,_=>.bad
theorem Kf:∀{aX:List (D→av→R av)}{ds:List D}{ρ bJ:av},hC aX ds ρ=.ok bJ→ds.length=aX.length
 |[],[],_,_,_=>rfl
 |[],_::_,_,_,e=>by cases e
 |_::_,[],_,_,e=>by cases e
 |f::aX,d::ds,ρ,bJ,e=>by
  simp only[hC]at e;cases aq:f d ρ with
  |bad=>rw[aq]at e;cases e
  |exc c=>rw[aq]at e;cases e
  |ok ea=>rw[aq,R.bM]at e;simp[Kf e]
theorem GJ{mY:lX}{aX:List (D→av→R av)}{n:Nat}(aK:n=aX.length)(h:sg F mY (hC aX)):nN F (vI F.K n mY) (eJ aX):=by
 intro σ ρ G H v d Q bJ r a e k;cases d with
 |tup ds=>simp only[At]at a;obtain⟨p,xs,rfl,aR,al⟩:=a;refine⟨p,xs,rfl,c2.of (r.aM.sub _ _ aR),?_,h σ ρ G H xs ds Q bJ r al e k⟩;rw[←al.length,aK];exact Kf e
 |_=>cases e
noncomputable def fm(set:D→av→R av)(body:bl):List D→av→R gx
 |[],ρ=>.ok (.bO ρ)
 |d::ds,ρ=>(set d ρ).bind fun ea=>(body ea).bind fun f=>match f with
  |.bO ew=>fm set body ds ew
  |.c_ ew=>fm set body ds ew
  |.fV ew=>.ok (.bO ew)
  |f=>.ok f
def d6(mi:aY)(set:D→av→R av)(body:bl):bl:=fun ρ=>(mi ρ).bind fun ds=>fm set body ds ρ
theorem QO{mi:aY}{set:D→av→R av}{body:bl}{g:iG}(aO:nN F g set)(ax:∀d ρ c,set d ρ≠.exc c):hu (fH F (d6 mi set body)) (KV (kB F mi) g (fH F body)):=by
 rintro c0 σ H ⟨G,ρ,r,h⟩;unfold d6 at h;refine⟨G,ρ,r,?_⟩;cases aw:mi ρ with
 |bad=>rw[aw]at h;exact h.elim
 |exc c=>rw[aw]at h;exact h
 |ok ds=>
  rw[aw,R.bM]at h;intro cE H1 aW az s1 it;refine⟨fun i m σ2 bk=>m=ds.length-i∧i≤ds.length∧∃dg ew,Rel F dg bk σ2 ew∧Sub aW dg∧hO F dg c0 (fm set body (ds.drop i) ew),⟨ds.length,by simp,aeB _,aW,ρ,az,Sub.refl _,hO.mono s1.g (by simpa using h)⟩,?_⟩;rintro i m σ2 bk ⟨rfl,ar,dg,ew,bg,s2,k2⟩;by_cases gm:i<ds.length
  ·refine .inr ⟨it.go i bk (s2.trans bg.aM.sub) gm,fun σ3 dy=>∃gG yj,Rel F gG dy σ3 yj∧Sub aW gG∧hO F gG c0 (fm set body (ds.drop (i+1)) yj),fun σ3 dy⟨gG,yj,d9,s3,k3⟩=>⟨ds.length-(i+1),by omega,rfl,gm,gG,yj,d9,s3,k3⟩,fun x dy y=>?_⟩;obtain⟨d,gG,b4,d9,s3,eM⟩:=it.turn bg s2 gm y;have eF:ds.drop i=d::ds.drop (i+1):=by
    rw[agU gm];have:=ac2 gm;rw[b4]at this;rw[adh this]
   rw[eF]at k2;simp only[fm]at k2;cases e4:set d ew with
   |bad=>rw[e4]at k2;exact k2.elim
   |exc c=>exact absurd e4 (ax d ew c)
   |ok iv=>
    rw[e4,R.bM]at k2;refine aO σ2 ew gG dy x d _ iv d9 eM e4 fun σ5 oE=>⟨gG,iv,oE,?_⟩;have ue:Sub dg gG:=s3.g;cases kW:body iv with
    |bad=>rw[kW]at k2;exact k2.elim
    |exc c=>rw[kW]at k2;exact k2
    |ok f=>
     rw[kW,R.bM]at k2;cases f with
     |bO nJ=>exact fun σ7 kK gy hp cR=>⟨kK,nJ,hp,s2.trans (ue.trans cR),hO.mono (ue.trans cR) k2⟩
     |c_ nJ=>exact fun σ7 kK gy hp cR=>⟨kK,nJ,hp,s2.trans (ue.trans cR),hO.mono (ue.trans cR) k2⟩
     |fV nJ=>exact fun σ7 kK gy hp cR=>k2 σ7 kK gy hp (ue.trans cR)
     |dJ d=>exact k2
     |jn ds=>exact k2
     |eh t=>exact k2
  ·have e:ds.drop i=[]:=ahv (by omega);rw[e]at k2;have iK:i=ds.length:=by omega
   subst iK;exact .inl ⟨it.stop bk (s2.trans bg.aM.sub),k2 σ2 dg bk bg (Sub.refl _)⟩
theorem xD(i:Nat):∀d ρ c,br i d ρ≠.exc c:=fun d ρ c=>by
 unfold br
 split<;>exact fun z=>nomatch z
theorem Kg:∀{aX:List (D→av→R av)},(∀f∈aX,∀d ρ c,f d ρ≠.exc c)→∀ds ρ c,hC aX ds ρ≠.exc c
 |[],_,[],_,_,e=>nomatch e
 |[],_,_::_,_,_,e=>nomatch e
 |_::_,_,[],_,_,e=>nomatch e
 |f::aX,h,d::ds,ρ,c,e=>by
  simp only[hC]at e;cases aq:f d ρ with
  |bad=>rw[aq]at e;cases e
  |exc c=>exact h f (by simp) d ρ c aq
  |ok ea=>rw[aq,R.bM]at e;exact Kg (fun g aO=>h g (by simp[aO])) ds ea c e
theorem Ki{aX:List (D→av→R av)}(h:∀f∈aX,∀d ρ c,f d ρ≠.exc c):∀d ρ c,eJ aX d ρ≠.exc c:=fun d ρ c e=>by
 cases d<;>first
  |(exact Kg h _ _ _ e)
  |(cases e)
theorem HN{K:PySem.W.Frag}{G:ah}{a:ada}{xs:List V}{ds:List D}(h:b7 K G a xs)(q:aP K G ds xs):kL K (yw K a) ds G where
 go:=fun i H s ar=>by obtain⟨v,e,_⟩:=q.get (ac2 ar);exact⟨xs,v,b7.mono s h,e⟩
 i2:=fun i H x H' s ar y=>by obtain⟨rfl,y⟩:=y;obtain⟨d,e,a⟩:=q.vL (y xs (b7.mono s h));exact⟨d,e,.inl ⟨rfl,a⟩⟩
 stop:=fun H s=>⟨xs,b7.mono s h,by rw[←q.length];exact ac6 _⟩
theorem HO{K:PySem.W.Frag}{G:ah}{a:ada}{xs:List V}{ds:List D}(h:c2 K G a xs)(q:aP K G ds xs):kL K (yy K a) ds G where
 go:=fun i H s ar=>by obtain⟨v,e,_⟩:=q.get (ac2 ar);exact⟨xs,v,c2.mono s h,e⟩
 i2:=fun i H x H' s ar y=>by obtain⟨rfl,y⟩:=y;obtain⟨d,e,a⟩:=q.vL (y xs (c2.mono s h));exact⟨d,e,.inl ⟨rfl,a⟩⟩
 stop:=fun H s=>⟨xs,c2.mono s h,by rw[←q.length];exact ac6 _⟩
def gE(lo:Int)(n:Nat):List D:=(adf n).map fun(i:Nat)=>.int (lo+(i:Int))
theorem RI{K:PySem.W.Frag}{G:ah}(lo:Int)(n:Nat):kL K (uV lo n) (gE lo n) G where
 go:=fun i H s ar=>by
  have h:i<n:=by simpa[gE]using ar
  exact h
 i2:=fun i H x H' s ar y=>by
  have h:i<n:=by simpa[gE]using ar
  obtain⟨aq,aD⟩:=y;refine⟨.int (lo+(i:Int)),?_,.inl ⟨aq,?_⟩⟩
  ·unfold gE;rw[ade,ae9 h];rfl
  ·simp only[At];exact aD
 stop:=fun H s=>by
  have h:n≤(gE lo n).length:=by simp[gE]
  exact h
def CW:D→R (List D)
 |.lst ds=>.ok ds
 |.cJ ds=>.ok ds
 |_=>.bad
def Dl:D→R (List D)
 |.tup ds=>.ok ds
 |.dB ds=>.ok ds
 |_=>.bad
def ep(m:aN):aY:=fun ρ=>(m ρ).bind CW
theorem QV{m:aN}:nO (kB F (ep m)) (Hr F.K (cZ F m)):=by
 rintro σ H Q ⟨G,ρ,r,h⟩;unfold ep at h;refine⟨G,ρ,r,?_⟩;cases aw:m ρ with
 |bad=>rw[aw]at h;exact h.elim
 |exc c=>rw[aw]at h;exact h
 |ok d=>
  rw[aw,R.bM]at h;intro v H1 aW az s1 a;cases d with
  |lst ds=>simp only[At]at a;obtain⟨p,xs,e,aR,al⟩:=a;exact⟨p,e,⟨xs,b7.of (az.aM.sub _ _ aR)⟩,h _ H1 aW az s1 (HN (b7.of aR) al)⟩
  |cJ ds=>simp only[At]at a;obtain⟨p,xs,e,aR,al⟩:=a;exact⟨p,e,⟨xs,b7.mono az.aM.sub aR⟩,h _ H1 aW az s1 (HN aR al)⟩
  |_=>exact h.elim
def rt(m:aN):aY:=fun ρ=>(m ρ).bind Dl
theorem Rj{m:aN}:nO (kB F (rt m)) (Hu F.K (cZ F m)):=by
 rintro σ H Q ⟨G,ρ,r,h⟩;unfold rt at h;refine⟨G,ρ,r,?_⟩;cases aw:m ρ with
 |bad=>rw[aw]at h;exact h.elim
 |exc c=>rw[aw]at h;exact h
 |ok d=>
  rw[aw,R.bM]at h;intro v H1 aW az s1 a;cases d with
  |tup ds=>simp only[At]at a;obtain⟨p,xs,e,aR,al⟩:=a;exact⟨p,e,⟨xs,c2.of (az.aM.sub _ _ aR)⟩,h _ H1 aW az s1 (HO (c2.of aR) al)⟩
  |dB ds=>simp only[At]at a;obtain⟨p,xs,e,aR,al⟩:=a;exact⟨p,e,⟨xs,c2.mono az.aM.sub aR⟩,h _ H1 aW az s1 (HO aR al)⟩
  |_=>exact h.elim
def oH:List D→R (List D)
 |[.int j]=>if-(2^62)≤j∧j<2^62 then .ok (gE 0 j.toNat)else .bad
 |_=>.bad
theorem aP.ints1{K:PySem.W.Frag}{G:ah}{j:Int}{vs:List V}(a:aP K G [.int j] vs):vs=[.int j]:=by simp only[aP,At]at a;obtain⟨v,r,rfl,rfl,rfl⟩:=a;rfl
theorem aP.ints2{K:PySem.W.Frag}{G:ah}{i j:Int}{vs:List V}(a:aP K G [.int i,.int j] vs):vs=[.int i,.int j]:=by simp only[aP,At]at a;obtain⟨v,r,rfl,rfl,v,r,rfl,rfl,rfl⟩:=a;rfl
def fZ(m:aY):aY:=fun ρ=>(m ρ).bind oH
theorem Q7{m:aY}:nO (kB F (fZ m)) (Hs (eE F m)):=by
 rintro σ H Q ⟨G,ρ,r,h⟩;unfold fZ at h;refine⟨G,ρ,r,?_⟩;cases aw:m ρ with
 |bad=>rw[aw]at h;exact h.elim
 |exc c=>rw[aw]at h;exact h
 |ok ds=>
  rw[aw,R.bM]at h;intro vs H1 aW az s1 a;unfold oH at h
  split at h
  ·rename_i j
   split at h
   ·rename_i cz;exact⟨j,a.ints1,cz.1,cz.2,h _ H1 aW az s1 (RI 0 j.toNat)⟩
   ·exact h.elim
  ·exact h.elim
inductive b6 where
 |v (d:D)|o (ds:List D)|t (t:T)
noncomputable def RX(F:bG)(Q:cX):R b6→Prop
 |.ok (.v d)=>∀v G' H',eZ F G' H'→At F.K G' d v→Q v H'
 |.ok (.o ds)=>∀a xs G' H',eZ F G' H'→G' a=none→F.bK a=none→H' a=some (.lst xs)→aP F.K G' ds xs→Q (.ref a) H'
 |.ok (.t t)=>∀v G' H',eZ F G' H'→u3 F G' H' t v→Q v H'
 |.exc c=>km F c
 |.bad=>False
noncomputable def oL(K:PySem.W.Frag)(n:Nat)(xe:dh→Str→ah→Prop)(mf:List D→R b6):i7:=fun vs H Q E=>∃G ds,Sub G H∧aP K G ds vs∧ds.length=n∧RX ⟨K,G,H,xe E⟩ Q (mf ds)
theorem xE{K:PySem.W.Frag}{n:Nat}{xe:dh→Str→ah→Prop}{mf:List D→R b6}:∀vs H Q E,oL K n xe mf vs H Q E→vs.length=n:=fun vs H Q E h=>by obtain⟨G,ds,_,a,l,_⟩:=h;rw[←a.length];exact l
noncomputable def outD:gx→R b6
 |.bO _=>.ok (.v .non)
 |.dJ d=>.ok (.v d)
 |.jn ds=>.ok (.o ds)
 |.eh t=>.ok (.t t)
 |_=>.bad
def k8(N:Nat)(ds:List D):av:=ds.map .aA++aeZ (N-ds.length) .un
def cY(N:Nat)(m:bl)(ds:List D):R b6:=(m (k8 N ds)).bind outD
def xG(N:Nat)(vs:List V):St:=vs.map some++aeZ (N-vs.length) none
theorem WH{K:PySem.W.Frag}{G H:ah}{hW:Str→ah→Prop}{N:Nat}{ds:List D}{vs:List V}(s:Sub G H)(a:aP K G ds vs):Rel ⟨K,G,H,hW⟩ G H (xG N vs) (k8 N ds):=by
 have ai:=a.length;refine⟨⟨s,Sub.refl _,Sub.refl _,fun _ _=>rfl⟩,by simp[xG,k8,ai],fun i t e=>?_,fun i j b es es' o bR aq aD _ _ f _=>?_⟩
 ·unfold k8 at e;unfold xG;by_cases ar:i<ds.length
  ·rw[ads (by simpa using ar),ade,ac2 ar]at e;obtain⟨v,aq,bp⟩:=a.get (ac2 ar);rw[ads (by rw[adE,←ai];exact ar),ade,aq];have mV:dc.aA ds[i]=t:=adh e;subst mV;exact⟨some v,rfl,v,rfl,bp⟩
  ·rw[adk (by simpa using ar),adU]at e;rw[adk (by rw[adE,←ai];omega),adU,adE,←ai];rw[adE]at e
   split at e
   ·rename_i bD;rw[if_pos bD];cases e;exact⟨none,rfl,trivial⟩
   ·cases e
 ·exfalso;unfold k8 at aq;by_cases ar:i<ds.length
  ·rw[ads (by simpa using ar),ade,ac2 ar]at aq;cases aq;exact f
  ·rw[adk (by simpa using ar),adU]at aq
   split at aq
   ·cases aq;exact f
   ·cases aq
theorem vm{K:PySem.W.Frag}{xe:dh→Str→ah→Prop}{n N:Nat}{m:bl}{vs:List V}{H:ah}{Q:cX}{E:dh}(h:oL K n xe (cY N m) vs H Q E) :
  ∃G,fH ⟨K,G,H,xe E⟩ m { bO:=fun _ H'=>Q .non H',dJ:=Q } (xG N vs) H:=by
 obtain⟨G,ds,s,a,l,k⟩:=h;refine⟨G,G,k8 N ds,WH s a,?_⟩;unfold cY at k;cases e:m (k8 N ds)with
 |bad=>rw[e]at k;exact k.elim
 |exc c=>rw[e]at k;exact k
 |ok f=>
  rw[e,R.bM]at k;cases f with
  |bO ρ=>exact fun σ' G' H' r _=>k .non G' H' r.aM (by simp only[At])
  |dJ d=>exact k
  |jn ds=>exact k
  |eh t=>exact k
  |fV ρ=>exact k.elim
  |c_ ρ=>exact k.elim
theorem eZ.of{G H G' H':ah}{σ :St}{ρ:av}{hW:Str→ah→Prop}(r:Rel F G H σ ρ)(k:eZ ⟨F.K,G,H,hW⟩ G' H'):Rel F G' H' σ ρ:=r.grow k.fN k.sub k.bD fun b J=>k.new b J
def iZ:b6→R D
 |.v d=>.ok d
 |.o ds=>.ok (.lst ds)
 |.t t=>.ok (toD t)
def BV:b6→R (List D)
 |.o ds=>.ok ds
 |_=>.bad
def l5(A:List ada)(G H:ah):ah:=fun b=>if b∈A then H b else G b
theorem Rel.Di{G H b8 bK:ah}{σ :St}{ρ:av}(r:Rel F G H σ ρ){F':bG}{t:T}{v:V}(a5:F'.K=F.K)(q:u3 F' G H t v)(u:cq b8 bK G H)(n:∀b∈bc H t v,bK b=none∧F.bK b=none∧¬dS H σ ρ b) :
  Rel F (l5 (bc H t v) G H) H σ ρ∧cq b8 bK (l5 (bc H t v) G H) H∧At F.K (l5 (bc H t v) G H) (toD t) v:=by
 have bh:Sub G (l5 (bc H t v) G H):=fun b o e=>by
  unfold l5;by_cases J:b∈bc H t v
  ·rw[(q.own b J).1]at e;cases e
  ·rw[if_neg J];exact e
 refine⟨r.over rfl ⟨fun b o e=>?_,r.aM.fN.trans bh,r.aM.bD,fun b J=>?_⟩ bh fun a ag=>?_,⟨u.g.trans bh,u.h,fun b J=>?_⟩,?_⟩
 ·unfold l5 at e
  split at e
  ·exact e
  ·exact r.aM.sub b o e
 ·unfold l5;rw[if_neg (fun z=>J.1 (n b z).2.1)];exact r.aM.new b J
 ·obtain⟨h1,h2,h3⟩:=r.foot ag;refine⟨rfl,?_,h3⟩;unfold l5;rw[if_neg (fun z=>(n a z).2.2 ag)];exact h2
 ·unfold l5;rw[if_neg (fun z=>J.1 (n b z).1)];exact u.n b J
 ·rw[←a5];exact q.at_.view bh fun a ag=>by unfold l5;rw[if_pos ag]
noncomputable def b5(n:Nat)(mf:List D→R b6)(m:aY):aN:=fun ρ=>(m ρ).bind fun ds=>if ds.length=n then(mf ds).bind iZ else .bad
noncomputable def jO(n:Nat)(mf:List D→R b6)(m:aY):aY:=fun ρ=>(m ρ).bind fun ds=>if ds.length=n then(mf ds).bind BV else .bad
theorem Hy{n:Nat}{mf:List D→R b6}{m:aY}{xe:dh→Str→ah→Prop}{E:dh}(ax:F.hW=xe E):eR (cZ F (b5 n mf m)) (xQ (oL F.K n xe mf) [] E (eE F m)):=by
 rintro σ H Q ⟨G,ρ,r,h⟩;unfold b5 at h;refine⟨G,ρ,r,?_⟩;cases aw:m ρ with
 |bad=>rw[aw]at h;exact h.elim
 |exc c=>rw[aw]at h;exact h
 |ok ds=>
  rw[aw,R.bM]at h;intro vs H1 aW az s1 a;by_cases aK:ds.length=n
  ·rw[if_pos aK]at h;rw[ael];refine⟨aW,ds,az.aM.sub,a,aK,?_⟩;cases e:mf ds with
   |bad=>rw[e]at h;exact h.elim
   |exc c=>rw[e]at h;intro G' H' k;have z:=h G' H' (eZ.of az k).aM;rw[ax]at z;exact z
   |ok t=>
    rw[e,R.bM]at h;cases t with
    |v d=>exact fun v G' H' k bp=>h v H' G' (eZ.of az k) (s1.trans ⟨k.fN,k.bD,k.new⟩) bp
    |o es=>intro p xs G' H' k h1 h2 h3 h4;have h2:H1 p=none:=h2;have bF:=eZ.of az k;have no:¬dS H' σ ρ p:=dS.fresh az k.bD h2;refine h (.ref p) H' _ (bF.take h3 h1 (az.aM.bD.gone h2) no) ((s1.trans ⟨k.fN,k.bD,k.new⟩).put (s1.h.gone h2) h1) ?_;simp only[At];exact⟨p,xs,rfl,et,h4.mono (Sub.upd h1)⟩
    |t t=>intro v G' H' k q;obtain⟨a1,a2,eM⟩:=(eZ.of az k).Di (F':=⟨F.K,aW,H1,xe E⟩) rfl q (s1.trans ⟨k.fN,k.bD,k.new⟩) fun b J=>⟨s1.h.gone (q.own b J).2,az.aM.bD.gone (q.own b J).2,dS.fresh az k.bD (q.own b J).2⟩;exact h v H' _ a1 a2 eM
  ·rw[if_neg aK]at h;exact h.elim
theorem QE{n:Nat}{mf:List D→R b6}{m:aY}{xe:dh→Str→ah→Prop}{E:dh}(ax:F.hW=xe E):eR (jW F (jO n mf m)) (xQ (oL F.K n xe mf) [] E (eE F m)):=by
 rintro σ H Q ⟨G,ρ,r,h⟩;unfold jO at h;refine⟨G,ρ,r,?_⟩;cases aw:m ρ with
 |bad=>rw[aw]at h;exact h.elim
 |exc c=>rw[aw]at h;exact h
 |ok ds=>
  rw[aw,R.bM]at h;intro vs H1 aW az s1 a;by_cases aK:ds.length=n
  ·rw[if_pos aK]at h;rw[ael];refine⟨aW,ds,az.aM.sub,a,aK,?_⟩;cases e:mf ds with
   |bad=>rw[e]at h;exact h.elim
   |exc c=>rw[e]at h;intro G' H' k;have z:=h G' H' (eZ.of az k).aM;rw[ax]at z;exact z
   |ok t=>
    rw[e,R.bM]at h;cases t with
    |v d=>exact h.elim
    |t t=>exact h.elim
    |o es=>intro p xs G' H' k h1 h2 h3 h4;have h2:H1 p=none:=h2;have bF:=eZ.of az k;exact h p xs H' G' bF (s1.trans ⟨k.fN,k.bD,k.new⟩) (s1.h.gone h2) h3 h1 h4
  ·rw[if_neg aK]at h;exact h.elim
abbrev sk:=av→R T
noncomputable def TB(i:Nat)(a:sk):bl:=fun ρ=>(a ρ).bind fun t=>if i<ρ.length then .ok (.bO (ρ.set i (.eB t)))else .bad
def Tz(a:sk):bl:=fun ρ=>(a ρ).bind fun t=>.ok (.eh t)
def IA(i:Nat):sk:=fun ρ=>match ρ[i]? with
 |some (.eB t)=>.ok t
 |_=>.bad
end
end bt
namespace bt
open PySem PySem.Spec a3
def gZ:dc→dc
 |.aA d=>.aA d
 |_=>.un
def l0(nl:Nat)(caps:List Nat)(ρ:av):av:=aeZ nl .un++caps.map fun j=>gZ (ρ.getD j .un)
noncomputable def gg(set:D→av→R av)(tst:cH)(elt:aN):List D→av→List D→R (List D)
 |[],_,ws=>.ok ws
 |d::ds,ρ,ws=>(set d ρ).bind fun ea=>(tst ea).bind fun b=>if b=true then(elt ea).bind fun y=>if ws.length<1000000 then gg set tst elt ds ea (ws++[y])else .bad else gg set tst elt ds ea ws
def gL{α:Type}:R α→R α
 |.exc _=>.bad
 |r=>r
noncomputable def dx(nl:Nat)(caps:List Nat)(mi:aY)(set:D→av→R av)(tst:cH)(elt:aN):aY:=fun ρ=>(mi ρ).bind fun ds=>gL (gg set tst elt ds (l0 nl caps ρ) [])
def fe(K:PySem.W.Frag)(G H:ah):bG:=⟨K,G,H,fun _ _=>False⟩
def DG(K:PySem.W.Frag)(m:cH):TT:=fun σ H Q=>∃b8 bK,gq (fe K b8 bK) m σ H Q
def DF(K:PySem.W.Frag)(m:aN):TE:=fun σ H Q=>∃b8 bK,cZ (fe K b8 bK) m σ H Q
def Js:dc→Bool
 |.un=>true|.aA _=>true
 |_=>false
theorem Jt{H:ah}{s:dc}(h:Js s=true)(o:Option V)(a:ada):¬f7 H s o a:=by
 cases s<;>first
  |exact fun z=>z
  |cases h
def o6(ρ:av):Prop:=∀(i:Nat)(s:dc),ρ[i]?=some s→Js s=true
theorem IP(nl:Nat)(caps:List Nat)(ρ:av):o6 (l0 nl caps ρ):=fun i s aq=>by
 unfold l0 at aq;by_cases ar:i<nl
 ·rw[ads (by simpa using ar),adU,if_pos ar]at aq;cases aq;rfl
 ·rw[adk (by simpa using ar),aex,ade]at aq;cases j9:caps[i-nl]? with
  |none=>rw[j9]at aq;cases aq
  |some j=>rw[j9]at aq;have es:gZ (ρ.getD j .un)=s:=adh aq;subst es;cases hs:ρ.getD j .un<;>rfl
def Keeps(set:D→av→R av):Prop:=∀d ρ bJ,set d ρ=.ok bJ→o6 ρ→o6 bJ
theorem xC(i:Nat):Keeps (br i):=fun d ρ bJ e n j ds z=>by
 unfold br at e
 split at e
 ·cases e;rcases get_set z with⟨_,z⟩|⟨_,z⟩
  ·subst z;rfl
  ·exact n j ds z
 ·cases e
theorem Ke:∀{aX:List (D→av→R av)},(∀f∈aX,Keeps f)→∀ds ρ bJ,hC aX ds ρ=.ok bJ→o6 ρ→o6 bJ
 |[],_,[],_,_,e,n=>by cases e;exact n
 |[],_,_::_,_,_,e,_=>by cases e
 |_::_,_,[],_,_,e,_=>by cases e
 |f::aX,h,d::ds,ρ,bJ,e,n=>by
  simp only[hC]at e;cases aq:f d ρ with
  |bad=>rw[aq]at e;cases e
  |exc c=>rw[aq]at e;cases e
  |ok ea=>rw[aq,R.bM]at e;exact Ke (fun g aO=>h g (by simp[aO])) ds ea bJ e (h f (by simp) d ρ ea aq n)
theorem Kh{aX:List (D→av→R av)}(h:∀f∈aX,Keeps f):Keeps (eJ aX):=fun d ρ bJ e n=>by
 cases d<;>first
  |(exact Ke h _ _ _ e n)
  |(cases e)
section
variable{F:bG}
theorem WG{G H:ah}{σ :St}{ρ:av}(r:Rel F G H σ ρ){acc:ada}(ag:H acc=none)(nl:Nat)(caps:List Nat) :
  Rel (fe F.K G H) G (upd H acc (.lst [])) (l1 nl caps σ) (l0 nl caps ρ):=by
 refine⟨⟨Sub.x1 r.aM.sub (r.aM.sub.gone ag),Sub.refl _,Sub.upd ag,fun _ _=>rfl⟩,by simp[l1,l0],fun i s e=>?_,fun i j b s s' o bR aq _ _ _ f _=>?_⟩
 ·unfold l0 at e;unfold l1;by_cases ar:i<nl
  ·rw[ads (by simpa using ar),adU,if_pos ar]at e;rw[ads (by simpa using ar),adU,if_pos ar];cases e;exact⟨none,rfl,trivial⟩
  ·rw[adk (by simpa using ar),aex,ade]at e;rw[adk (by simpa using ar),aex,ade];cases j9:caps[i-nl]? with
   |none=>rw[j9]at e;cases e
   |some j=>
    rw[j9]at e;refine⟨σ.getD j none,rfl,?_⟩;have es:gZ (ρ.getD j .un)=s:=adh e;subst es;cases c4:ρ[j]? with
    |none=>
     have eg:ρ.getD j .un=.un:=by rw[adg,c4];rfl
     rw[eg];exact trivial
    |some t=>
     have eg:ρ.getD j .un=t:=by rw[adg,c4];rfl
     rw[eg];obtain⟨o,aq,q⟩:=r.cV j t c4;cases t with
     |un=>exact trivial
     |bf ds=>exact trivial
     |eB t=>exact trivial
     |aA d=>obtain⟨v,aD,a⟩:=q;refine⟨v,?_,a⟩;rw[adg,aq,aD];rfl
 ·exact absurd f (Jt (IP nl caps ρ i s aq) o b)
theorem QF{nl:Nat}{caps:List Nat}{mi:aY}{set:D→av→R av}{tst:cH}{elt:aN}{g:iG}(aO:∀G H,nN (fe F.K G H) g set)(ax:∀d ρ c,set d ρ≠.exc c)(aH:Keeps set) :
  eR (jW F (dx nl caps mi set tst elt)) (xR (kB F mi) g (DG F.K tst) (DF F.K elt) nl caps):=by
 rintro σ H Q ⟨G,ρ,r,h⟩;unfold dx at h;refine⟨G,ρ,r,?_⟩;cases aw:mi ρ with
 |bad=>rw[aw]at h;exact h.elim
 |exc c=>rw[aw]at h;exact h
 |ok ds=>
  rw[aw,R.bM]at h;intro cE H1 aW az oS it acc ag;cases c4:gg set tst elt ds (l0 nl caps ρ) []with
  |bad=>rw[c4]at h;exact h.elim
  |exc c=>rw[c4]at h;exact h.elim
  |ok res=>
   rw[c4]at h
   refine⟨fun i m σ2 bk=>m=ds.length-i∧i≤ds.length∧∃dg ew ys ws,Rel (fe F.K aW H1) dg bk σ2 ew∧o6 ew∧bk acc=some (.lst ys)∧dg acc=none∧aP F.K dg ws ys∧gg set tst elt (ds.drop i) ew ws=.ok res,
    ⟨ds.length,by simp,aeB _,aW,_,[],[],WG az ag nl caps,IP _ _ _,et,az.aM.sub.gone ag,.nil,by simpa using c4⟩,?_⟩
   rintro i m σ2 bk ⟨rfl,ar,dg,ew,ys,ws,bg,n2,h1,h2,h3,h4⟩;have bh:Sub aW dg:=bg.aM.fN;by_cases gm:i<ds.length
   ·refine .inr ⟨it.go i bk (bh.trans bg.aM.sub) gm,fun x dy y=>?_⟩;obtain⟨d,gG,b4,d9,mx,eM⟩:=kL.turn (F:=fe F.K aW H1) it bg bh gm y;have eF:ds.drop i=d::ds.drop (i+1):=by
     rw[agU gm];have:=ac2 gm;rw[b4]at this;rw[adh this]
    rw[eF]at h4;simp only[gg]at h4;cases e4:set d ew with
    |bad=>rw[e4]at h4;cases h4
    |exc c=>exact absurd e4 (ax d ew c)
    |ok iv=>
     rw[e4,R.bM]at h4;refine aO aW H1 σ2 ew gG dy x d _ iv d9 eM e4 fun σ5 oE=>⟨aW,H1,gG,iv,oE,?_⟩;have tV:o6 iv:=aH d ew iv e4 n2;have Ei:dy acc=some (.lst ys):=mx.h _ _ h1;have g3:gG acc=none:=by rw[mx.n acc (.of h1 fun _ z=>nomatch z)];exact h2
     cases hh:tst iv with
     |bad=>rw[hh]at h4;cases h4
     |exc c=>rw[hh]at h4;cases h4
     |ok b=>
      rw[hh,R.bM]at h4;intro qC uS BN Dr;have yL:qC acc=some (.lst ys):=Dr.h _ _ Ei;have ob:uS acc=none:=by rw[Dr.n acc (.of Ei fun _ z=>nomatch z)];exact g3
      have i9:aP F.K uS ws ys:=(h3.mono mx.g).mono Dr.g;cases b with
      |false=>rw[if_neg adC]at h4;rw[if_neg adC];exact⟨_,by omega,rfl,gm,uS,iv,ys,ws,BN,tV,yL,ob,i9,h4⟩
      |true=>
       rw[if_pos rfl]at h4;rw[if_pos rfl];refine⟨aW,H1,uS,iv,BN,?_⟩;cases sH:elt iv with
       |bad=>rw[sH]at h4;cases h4
       |exc c=>rw[sH]at h4;cases h4
       |ok y=>
        rw[sH,R.bM]at h4;intro DT yt yr oF u8 yK;have Mu:yt acc=some (.lst ys):=u8.h _ _ yL;have Af:yr acc=none:=by rw[u8.n acc (.of yL fun _ z=>nomatch z)];exact ob
        by_cases ai:ws.length<1000000
        ·rw[if_pos ai]at h4;have El:aP F.K yr ws ys:=i9.mono u8.g;refine⟨ys,Mu,by rw[←El.length];exact afJ ai (by decide),_,by omega,rfl,gm,yr,iv,ys++[DT],ws++[y],?_,tV,et,Af,El.snoc yK,h4⟩;have k0:(fe F.K aW H1).bK acc=none:=ag;refine⟨⟨Sub.x1 oF.aM.sub Af,oF.aM.fN,fun c o z=>?_,oF.aM.new⟩,oF.len,fun j t z=>?_,fun j k b s s' o bR eX _ _ _ f _=>absurd f (Jt (tV j s eX) o b)⟩
         ·rw[dV (jl z k0)];exact oF.aM.bD c o z
         ·obtain⟨o,bu,a9⟩:=oF.cV j t z;refine⟨o,bu,?_⟩;cases t with
          |un=>exact trivial
          |aA d=>exact a9
          |bf es=>exact absurd (tV j _ z) (fun w=>nomatch w)
          |eB es=>exact absurd (tV j _ z) (fun w=>nomatch w)
        ·rw[if_neg ai]at h4;cases h4
   ·have e:ds.drop i=[]:=ahv (by omega);rw[e]at h4;simp only[gg]at h4;cases h4;have iK:i=ds.length:=by omega
    subst iK;refine .inl ⟨it.stop bk (bh.trans bg.aM.sub),?_⟩;have k:eZ ⟨F.K,aW,H1,fun _ _=>False⟩ dg bk:=bg.aM;exact h acc ys bk dg (eZ.of az k) (oS.trans ⟨k.fN,k.bD,k.new⟩) (oS.h.gone ag) h1 h2 h3
end
mutual
noncomputable def bz:D→D→Bool
 |.non,.non=>true
 |.aF a,.aF b=>a==b
 |.aF a,.int b=>(if a then 1 else 0)==b
 |.int a,.aF b=>a==(if b then 1 else 0)
 |.int a,.int b=>a==b
 |.str a,.str b=>a==b
 |.tup xs,.tup ys=>dT xs ys
 |.tup xs,.dB ys=>dT xs ys
 |.dB xs,.tup ys=>dT xs ys
 |.dB xs,.dB ys=>dT xs ys
 |.lst xs,.lst ys=>dT xs ys
 |.lst xs,.cJ ys=>dT xs ys
 |.cJ xs,.lst ys=>dT xs ys
 |.cJ xs,.cJ ys=>dT xs ys
 |_,_=>false
noncomputable def dT:List D→List D→Bool
 |[],[]=>true
 |x::xs,y::ys=>bz x y&&dT xs ys
 |_,_=>false
end
noncomputable def okN:Nat→D→Bool
 |_,.non=>true
 |_,.aF _=>true
 |_,.int _=>true
 |_,.str _=>true
 |n+1,.tup xs=>xs.all (okN n)
 |n+1,.dB xs=>xs.all (okN n)
 |n+1,.lst xs=>xs.all (okN n)
 |n+1,.cJ xs=>xs.all (okN n)
 |_,_=>false
inductive jy(s:ac4)(P:D→ac1→Prop):D→ac1→Prop where
 |non:jy s P .non .none
 |aF (b:Bool):jy s P (.aF b) (.bool b)
 |int (i:Int) (t:Tok):jy s P (.int i) (.int i t)
 |str (x:Str) (t:Tok):jy s P (.str x) (.str x t)
 |tup (a:ada) (ds:List D) (its:List ac1) (h:s.heap.IsTuple a its.toArray) (l:ds.length=its.length) (p:∀(i:Nat) d u,ds[i]?=some d→its[i]?=some u→P d u):jy s P (.tup ds) (.ref a)
 |dB (a:ada) (ds:List D) (its:List ac1) (h:s.heap.IsTuple a its.toArray) (l:ds.length=its.length) (p:∀(i:Nat) d u,ds[i]?=some d→its[i]?=some u→P d u):jy s P (.dB ds) (.ref a)
 |lst (a:ada) (ds:List D) (its:List ac1) (h:s.heap.IsList a its.toArray) (l:ds.length=its.length) (p:∀(i:Nat) d u,ds[i]?=some d→its[i]?=some u→P d u):jy s P (.lst ds) (.ref a)
 |cJ (a:ada) (ds:List D) (its:List ac1) (h:s.heap.IsList a its.toArray) (l:ds.length=its.length) (p:∀(i:Nat) d u,ds[i]?=some d→its[i]?=some u→P d u):jy s P (.cJ ds) (.ref a)
def lQ(K:PySem.W.Frag)(G:ah)(d:D)(u:ac1):Prop:=∃x,At K G d x∧RelV x u
section
variable{X:aQ}{pins:List (ada×Obj)}{σ :St}{H G:ah}{s:ac4}
theorem rf{K:PySem.W.Frag}{ds:List D}{xs:List V}{its:List ac1}(q:aP K G ds xs)(r:Vals xs its):∀(i:Nat) d u,ds[i]?=some d→its[i]?=some u→lQ K G d u:=fun i d u aq aD=>by obtain⟨v,b4,a⟩:=q.get aq;obtain⟨hD,e4,cg⟩:=r.get b4;rw[aD]at e4;cases e4;exact⟨v,a,cg⟩
theorem oK(I:Inv X pins σ H s)(bh:Sub G H){d:D}{u:ac1}{n:Nat}(ok:okN n d=true)(h:lQ X.K G d u):jy s (lQ X.K G) d u:=by
 obtain⟨x,a,r⟩:=h;cases d with
 |non=>simp only[At]at a;subst a;cases r;exact .non
 |aF b=>simp only[At]at a;subst a;cases r;exact .aF b
 |int i=>simp only[At]at a;subst a;obtain⟨t,rfl⟩:=r;exact .int i t
 |str i=>simp only[At]at a;subst a;obtain⟨t,rfl⟩:=r;exact .str i t
 |tup ds=>simp only[At]at a;obtain⟨p,xs,rfl,aR,al⟩:=a;cases r;obtain⟨its,cg,bT,_⟩:=I.tuple (c2.of (bh _ _ aR));exact .tup p ds its bT (al.length.trans cg.length) (rf al cg)
 |lst ds=>simp only[At]at a;obtain⟨p,xs,rfl,aR,al⟩:=a;cases r;obtain⟨its,cg,bT,_⟩:=I.list (b7.of (bh _ _ aR));exact .lst p ds its bT.isList (al.length.trans cg.length) (rf al cg)
 |cJ ds=>simp only[At]at a;obtain⟨p,xs,rfl,aR,al⟩:=a;cases r;obtain⟨its,cg,bT,_⟩:=I.list (b7.mono bh aR);exact .cJ p ds its bT.isList (al.length.trans cg.length) (rf al cg)
 |dA ks xs=>cases n<;>cases ok
 |bx ks xs=>cases n<;>cases ok
 |ins C ns xs=>cases n<;>cases ok
 |oa C=>cases n<;>cases ok
 |dB ds=>simp only[At]at a;obtain⟨p,xs,rfl,aR,al⟩:=a;cases r;obtain⟨its,cg,bT,_⟩:=I.tuple (c2.mono bh aR);exact .dB p ds its bT (al.length.trans cg.length) (rf al cg)
theorem z1:∀{xs ys:List D},xs.length≠ys.length→dT xs ys=false
 |[],[],h=>absurd rfl h
 |[],_::_,_=>by simp only[dT]
 |_::_,[],_=>by simp only[dT]
 |x::xs,y::ys,h=>by simp only[dT];rw[z1 (fun e=>h (by simp[e])),aix]
def k9(xs ys:List D)(j:Nat):Bool:=match xs[j]?,ys[j]? with
 |some x,some y=>bz x y
 |_,_=>true
theorem MF(f:Nat→Bool)(n:Nat):(adf (n+1)).all f=(f 0&&(adf n).all fun j=>f (j+1)):=by rw[List.range_succ_eq_map,afr,afK];rfl
theorem z2:∀{xs ys:List D},xs.length=ys.length→(adf xs.length).all (k9 xs ys)=dT xs ys
 |[],[],_=>by simp[dT]
 |[],_::_,h=>by simp at h
 |_::_,[],h=>by simp at h
 |x::xs,y::ys,h=>by
  rw[adl,MF];have e:(fun j=>k9 (x::xs) (y::ys) (j+1))=k9 xs ys:=by
   funext j
   simp[k9]
  rw[e,z2 (by simpa using h)];simp only[dT];rfl
theorem in1_units(A:adG):A.in1.units=A.units+1:=rfl
theorem J8{A:adG}{P:D→ac1→Prop}{d1 cF:D}{u v:ac1}(h1:jy s P d1 u)(h2:jy s P cF v)(cQ:gN d1=true)(b_:gN cF=true) :
  aid A s u v (bz d1 cF)∧ai6 A s u v (bz d1 cF)∧ahL A s u v (!bz d1 cF):=by
 cases h1 with
 |non=>
  cases h2 with
  |non=>simp only[bz];exact⟨ajh _,SeqAt.RcAt.none_none,SeqAt.RcNeAt.none_none⟩
  |aF dE=>simp only[bz];exact⟨SeqAt.EqAt.none_bool _,SeqAt.RcAt.none_bool _,SeqAt.RcNeAt.none_bool _⟩
  |int bI cy=>simp only[bz];exact⟨SeqAt.EqAt.none_int _ _,SeqAt.RcAt.none_int _ _,SeqAt.RcNeAt.none_int _ _⟩
  |str cK cy=>simp only[bz];exact⟨SeqAt.EqAt.none_str _ _,SeqAt.RcAt.none_str _ _,SeqAt.RcNeAt.none_str _ _⟩
  |tup=>cases b_
  |dB=>cases b_
  |lst=>cases b_
  |cJ=>cases b_
 |aF eC=>
  cases h2 with
  |non=>simp only[bz];exact⟨SeqAt.EqAt.bool_none _,SeqAt.RcAt.bool_none _,SeqAt.RcNeAt.bool_none _⟩
  |aF dE=>simp only[bz];exact⟨SeqAt.EqAt.bool_bool _ _,SeqAt.RcAt.bool_bool _ _,SeqAt.RcNeAt.bool_bool _ _⟩
  |int bI cy=>simp only[bz];exact⟨SeqAt.EqAt.bool_int _ _ _,SeqAt.RcAt.bool_int _ _ _,SeqAt.RcNeAt.bool_int _ _ _⟩
  |str cK cy=>simp only[bz];exact⟨SeqAt.EqAt.bool_str _ _ _,SeqAt.RcAt.bool_str _ _ _,SeqAt.RcNeAt.bool_str _ _ _⟩
  |tup=>cases b_
  |dB=>cases b_
  |lst=>cases b_
  |cJ=>cases b_
 |int bA t1=>
  cases h2 with
  |non=>simp only[bz];exact⟨SeqAt.EqAt.int_none _ _,SeqAt.RcAt.int_none _ _,SeqAt.RcNeAt.int_none _ _⟩
  |aF dE=>simp only[bz];exact⟨SeqAt.EqAt.int_bool _ _ _,SeqAt.RcAt.int_bool _ _ _,SeqAt.RcNeAt.int_bool _ _ _⟩
  |int bI cy=>simp only[bz];exact⟨SeqAt.EqAt.int_int _ _ _ _,SeqAt.RcAt.int_int _ _ _ _,SeqAt.RcNeAt.int_int _ _ _ _⟩
  |str cK cy=>simp only[bz];exact⟨aiP _ _ _ _,SeqAt.RcAt.int_str _ _ _ _,SeqAt.RcNeAt.int_str _ _ _ _⟩
  |tup=>cases b_
  |dB=>cases b_
  |lst=>cases b_
  |cJ=>cases b_
 |str gS t1=>
  cases h2 with
  |non=>simp only[bz];exact⟨SeqAt.EqAt.str_none _ _,SeqAt.RcAt.str_none _ _,SeqAt.RcNeAt.str_none _ _⟩
  |aF dE=>simp only[bz];exact⟨SeqAt.EqAt.str_bool _ _ _,SeqAt.RcAt.str_bool _ _ _,SeqAt.RcNeAt.str_bool _ _ _⟩
  |int bI cy=>simp only[bz];exact⟨aiQ _ _ _ _,SeqAt.RcAt.str_int _ _ _ _,SeqAt.RcNeAt.str_int _ _ _ _⟩
  |str cK cy=>simp only[bz];exact⟨SeqAt.EqAt.str_str _ _ _ _,SeqAt.RcAt.str_str _ _ _ _,SeqAt.RcNeAt.str_str _ _ _ _⟩
  |tup=>cases b_
  |dB=>cases b_
  |lst=>cases b_
  |cJ=>cases b_
 |tup=>cases cQ
 |dB=>cases cQ
 |lst=>cases cQ
 |cJ=>cases cQ
theorem IF{A:adG}{P:D→ac1→Prop}{d1 cF:D}{u v:ac1}(aJ:A.units<aew)(h1:jy s P d1 u)(h2:jy s P cF v)(o:gN d1=true∧gN cF=false∨gN d1=false∧gN cF=true) :
  aid A s u v (bz d1 cF)∧ai6 A s u v (bz d1 cF)∧ahL A s u v (!bz d1 cF):=by
 cases h1 with
 |non=>
  cases h2 with
  |non=>rcases o with⟨bu,a9⟩|⟨bu,a9⟩<;>first|(cases bu;done)|(cases a9;done)
  |aF=>rcases o with⟨bu,a9⟩|⟨bu,a9⟩<;>first|(cases bu;done)|(cases a9;done)
  |int=>rcases o with⟨bu,a9⟩|⟨bu,a9⟩<;>first|(cases bu;done)|(cases a9;done)
  |str=>rcases o with⟨bu,a9⟩|⟨bu,a9⟩<;>first|(cases bu;done)|(cases a9;done)
  |tup a2 ek eI cA cP cD=>simp only[bz,adj];exact⟨ahM cA aJ,ahN cA aJ,ahf cA aJ⟩
  |dB a2 ek eI cA cP cD=>simp only[bz,adj];exact⟨ahM cA aJ,ahN cA aJ,ahf cA aJ⟩
  |lst a2 ek eI cA cP cD=>simp only[bz,adj];exact⟨aie cA aJ,aif cA aJ,ahw cA aJ⟩
  |cJ a2 ek eI cA cP cD=>simp only[bz,adj];exact⟨aie cA aJ,aif cA aJ,ahw cA aJ⟩
 |aF eC=>
  cases h2 with
  |non=>rcases o with⟨bu,a9⟩|⟨bu,a9⟩<;>first|(cases bu;done)|(cases a9;done)
  |aF=>rcases o with⟨bu,a9⟩|⟨bu,a9⟩<;>first|(cases bu;done)|(cases a9;done)
  |int=>rcases o with⟨bu,a9⟩|⟨bu,a9⟩<;>first|(cases bu;done)|(cases a9;done)
  |str=>rcases o with⟨bu,a9⟩|⟨bu,a9⟩<;>first|(cases bu;done)|(cases a9;done)
  |tup a2 ek eI cA cP cD=>simp only[bz,adj];exact⟨ahO _ cA aJ,ahP _ cA aJ,ahg _ cA aJ⟩
  |dB a2 ek eI cA cP cD=>simp only[bz,adj];exact⟨ahO _ cA aJ,ahP _ cA aJ,ahg _ cA aJ⟩
  |lst a2 ek eI cA cP cD=>simp only[bz,adj];exact⟨aih _ cA aJ,aii _ cA aJ,ahx _ cA aJ⟩
  |cJ a2 ek eI cA cP cD=>simp only[bz,adj];exact⟨aih _ cA aJ,aii _ cA aJ,ahx _ cA aJ⟩
 |int bA t1=>
  cases h2 with
  |non=>rcases o with⟨bu,a9⟩|⟨bu,a9⟩<;>first|(cases bu;done)|(cases a9;done)
  |aF=>rcases o with⟨bu,a9⟩|⟨bu,a9⟩<;>first|(cases bu;done)|(cases a9;done)
  |int=>rcases o with⟨bu,a9⟩|⟨bu,a9⟩<;>first|(cases bu;done)|(cases a9;done)
  |str=>rcases o with⟨bu,a9⟩|⟨bu,a9⟩<;>first|(cases bu;done)|(cases a9;done)
  |tup a2 ek eI cA cP cD=>simp only[bz,adj];exact⟨aij _ _ cA aJ,aik _ _ cA aJ,ahy _ _ cA aJ⟩
  |dB a2 ek eI cA cP cD=>simp only[bz,adj];exact⟨aij _ _ cA aJ,aik _ _ cA aJ,ahy _ _ cA aJ⟩
  |lst a2 ek eI cA cP cD=>simp only[bz,adj];exact⟨aiG _ _ cA aJ,aiH _ _ cA aJ,ahQ _ _ cA aJ⟩
  |cJ a2 ek eI cA cP cD=>simp only[bz,adj];exact⟨aiG _ _ cA aJ,aiH _ _ cA aJ,ahQ _ _ cA aJ⟩
 |str gS t1=>
  cases h2 with
  |non=>rcases o with⟨bu,a9⟩|⟨bu,a9⟩<;>first|(cases bu;done)|(cases a9;done)
  |aF=>rcases o with⟨bu,a9⟩|⟨bu,a9⟩<;>first|(cases bu;done)|(cases a9;done)
  |int=>rcases o with⟨bu,a9⟩|⟨bu,a9⟩<;>first|(cases bu;done)|(cases a9;done)
  |str=>rcases o with⟨bu,a9⟩|⟨bu,a9⟩<;>first|(cases bu;done)|(cases a9;done)
  |tup a2 ek eI cA cP cD=>simp only[bz,adj];exact⟨ail _ _ cA aJ,aim _ _ cA aJ,ahz _ _ cA aJ⟩
  |dB a2 ek eI cA cP cD=>simp only[bz,adj];exact⟨ail _ _ cA aJ,aim _ _ cA aJ,ahz _ _ cA aJ⟩
  |lst a2 ek eI cA cP cD=>simp only[bz,adj];exact⟨aiI _ _ cA aJ,aiJ _ _ cA aJ,ahR _ _ cA aJ⟩
  |cJ a2 ek eI cA cP cD=>simp only[bz,adj];exact⟨aiI _ _ cA aJ,aiJ _ _ cA aJ,ahR _ _ cA aJ⟩
 |tup a1 fL kj cO dZ d0=>
  cases h2 with
  |non=>simp only[bz,adj];exact⟨ahS cO aJ,ahT cO aJ,ahh cO aJ⟩
  |aF dE=>simp only[bz,adj];exact⟨ahU _ cO aJ,ahV _ cO aJ,ahi _ cO aJ⟩
  |int bI cy=>simp only[bz,adj];exact⟨ain _ _ cO aJ,aio _ _ cO aJ,ahA _ _ cO aJ⟩
  |str cK cy=>simp only[bz,adj];exact⟨aip _ _ cO aJ,aiq _ _ cO aJ,ahB _ _ cO aJ⟩
  |tup=>rcases o with⟨bu,a9⟩|⟨bu,a9⟩<;>first|(cases bu;done)|(cases a9;done)
  |dB=>rcases o with⟨bu,a9⟩|⟨bu,a9⟩<;>first|(cases bu;done)|(cases a9;done)
  |lst=>rcases o with⟨bu,a9⟩|⟨bu,a9⟩<;>first|(cases bu;done)|(cases a9;done)
  |cJ=>rcases o with⟨bu,a9⟩|⟨bu,a9⟩<;>first|(cases bu;done)|(cases a9;done)
 |dB a1 fL kj cO dZ d0=>
  cases h2 with
  |non=>simp only[bz,adj];exact⟨ahS cO aJ,ahT cO aJ,ahh cO aJ⟩
  |aF dE=>simp only[bz,adj];exact⟨ahU _ cO aJ,ahV _ cO aJ,ahi _ cO aJ⟩
  |int bI cy=>simp only[bz,adj];exact⟨ain _ _ cO aJ,aio _ _ cO aJ,ahA _ _ cO aJ⟩
  |str cK cy=>simp only[bz,adj];exact⟨aip _ _ cO aJ,aiq _ _ cO aJ,ahB _ _ cO aJ⟩
  |tup=>rcases o with⟨bu,a9⟩|⟨bu,a9⟩<;>first|(cases bu;done)|(cases a9;done)
  |dB=>rcases o with⟨bu,a9⟩|⟨bu,a9⟩<;>first|(cases bu;done)|(cases a9;done)
  |lst=>rcases o with⟨bu,a9⟩|⟨bu,a9⟩<;>first|(cases bu;done)|(cases a9;done)
  |cJ=>rcases o with⟨bu,a9⟩|⟨bu,a9⟩<;>first|(cases bu;done)|(cases a9;done)
 |lst a1 fL kj cO dZ d0=>
  cases h2 with
  |non=>simp only[bz,adj];exact⟨air cO aJ,ais cO aJ,ahC cO aJ⟩
  |aF dE=>simp only[bz,adj];exact⟨ait _ cO aJ,aiu _ cO aJ,ahD _ cO aJ⟩
  |int bI cy=>simp only[bz,adj];exact⟨aiK _ _ cO aJ,aiL _ _ cO aJ,ahW _ _ cO aJ⟩
  |str cK cy=>simp only[bz,adj];exact⟨aiM _ _ cO aJ,aiN _ _ cO aJ,ahX _ _ cO aJ⟩
  |tup=>rcases o with⟨bu,a9⟩|⟨bu,a9⟩<;>first|(cases bu;done)|(cases a9;done)
  |dB=>rcases o with⟨bu,a9⟩|⟨bu,a9⟩<;>first|(cases bu;done)|(cases a9;done)
  |lst=>rcases o with⟨bu,a9⟩|⟨bu,a9⟩<;>first|(cases bu;done)|(cases a9;done)
  |cJ=>rcases o with⟨bu,a9⟩|⟨bu,a9⟩<;>first|(cases bu;done)|(cases a9;done)
 |cJ a1 fL kj cO dZ d0=>
  cases h2 with
  |non=>simp only[bz,adj];exact⟨air cO aJ,ais cO aJ,ahC cO aJ⟩
  |aF dE=>simp only[bz,adj];exact⟨ait _ cO aJ,aiu _ cO aJ,ahD _ cO aJ⟩
  |int bI cy=>simp only[bz,adj];exact⟨aiK _ _ cO aJ,aiL _ _ cO aJ,ahW _ _ cO aJ⟩
  |str cK cy=>simp only[bz,adj];exact⟨aiM _ _ cO aJ,aiN _ _ cO aJ,ahX _ _ cO aJ⟩
  |tup=>rcases o with⟨bu,a9⟩|⟨bu,a9⟩<;>first|(cases bu;done)|(cases a9;done)
  |dB=>rcases o with⟨bu,a9⟩|⟨bu,a9⟩<;>first|(cases bu;done)|(cases a9;done)
  |lst=>rcases o with⟨bu,a9⟩|⟨bu,a9⟩<;>first|(cases bu;done)|(cases a9;done)
  |cJ=>rcases o with⟨bu,a9⟩|⟨bu,a9⟩<;>first|(cases bu;done)|(cases a9;done)
theorem Fn:∀{xs ys:List D},xs.length=ys.length→(∀(i:Nat) x y,xs[i]?=some x→ys[i]?=some y→bz x y=true)→dT xs ys=true
 |[],[],_,_=>by simp only[dT]
 |[],_::_,h,_=>by simp at h
 |_::_,[],h,_=>by simp at h
 |x::xs,y::ys,h,k=>by simp only[dT];rw[k 0 x y rfl rfl,Fn (by simpa using h) fun i a b aq aD=>k (i+1) a b (by simpa using aq) (by simpa using aD)];rfl
theorem J_{K:PySem.W.Frag}{d1 cF:D}{x:V}(cQ:gN d1=true)(a1:At K G d1 x)(a2:At K G cF x):bz d1 cF=true:=by
 cases d1 with
 |non=>simp only[At]at a1;subst a1;cases cF<;>simp only[At]at a2<;>first|(simp only[bz];done)|(cases a2;done)|(obtain⟨a,xs,e,_⟩:=a2;cases e;done)|(obtain⟨a,a8,xs,e,_⟩:=a2;cases e;done)
 |aF b=>simp only[At]at a1;subst a1;cases cF<;>simp only[At]at a2<;>first|(cases a2;simp only[bz,beq_self_eq_true];done)|(cases a2;done)|(obtain⟨a,xs,e,_⟩:=a2;cases e;done)|(obtain⟨a,a8,xs,e,_⟩:=a2;cases e;done)
 |int b=>simp only[At]at a1;subst a1;cases cF<;>simp only[At]at a2<;>first|(cases a2;simp only[bz,beq_self_eq_true];done)|(cases a2;done)|(obtain⟨a,xs,e,_⟩:=a2;cases e;done)|(obtain⟨a,a8,xs,e,_⟩:=a2;cases e;done)
 |str b=>simp only[At]at a1;subst a1;cases cF<;>simp only[At]at a2<;>first|(cases a2;simp only[bz,beq_self_eq_true];done)|(cases a2;done)|(obtain⟨a,xs,e,_⟩:=a2;cases e;done)|(obtain⟨a,a8,xs,e,_⟩:=a2;cases e;done)
 |_=>cases cQ
theorem Fm{d1 cF:D}(b_:gN cF=true)(cQ:gN d1=false){K:PySem.W.Frag}{x:V}(a1:At K G d1 x)(a2:At K G cF x):False:=by
 cases cF<;>first
  |(cases b_;done)
  |(simp only[At]at a2;subst a2
    cases d1<;>first
     |(cases cQ;done)
     |(simp only[At]at a1;obtain⟨a,xs,e,_⟩:=a1;cases e;done)
     |(simp only[At]at a1;obtain⟨a,a8,xs,e,_⟩:=a1;cases e;done))
inductive gW(K:PySem.W.Frag)(G:ah):D→ada→Bool→List D→List V→Prop where
 |tup {a ds xs} (h:c2 K G a xs) (q:aP K G ds xs):gW K G (.tup ds) a true ds xs
 |dB {a ds xs} (h:c2 K G a xs) (q:aP K G ds xs):gW K G (.dB ds) a true ds xs
 |lst {a ds xs} (h:G a=some (.lst xs)) (q:aP K G ds xs):gW K G (.lst ds) a false ds xs
 |cJ {a ds xs} (h:b7 K G a xs) (q:aP K G ds xs):gW K G (.cJ ds) a false ds xs
theorem rU{K:PySem.W.Frag}{n:Nat}{d:D}{x:V}(o:okN n d=true)(ns:gN d=false)(a:At K G d x):∃p b ds xs,x=.ref p∧gW K G d p b ds xs∧∃m,n=m+1∧ds.all (okN m)=true:=by
 cases d with
 |tup ds=>
  simp only[At]at a;obtain⟨p,xs,e,h,q⟩:=a;cases n with
  |zero=>cases o
  |succ m=>exact⟨p,_,ds,xs,e,.tup (c2.of h) q,m,rfl,o⟩
 |lst ds=>
  simp only[At]at a;obtain⟨p,xs,e,h,q⟩:=a;cases n with
  |zero=>cases o
  |succ m=>exact⟨p,_,ds,xs,e,.lst h q,m,rfl,o⟩
 |cJ ds=>
  simp only[At]at a;obtain⟨p,xs,e,h,q⟩:=a;cases n with
  |zero=>cases o
  |succ m=>exact⟨p,_,ds,xs,e,.cJ h q,m,rfl,o⟩
 |dA _ _=>cases n<;>cases o
 |bx _ _=>cases n<;>cases o
 |ins _ _ _=>cases n<;>cases o
 |oa _=>cases n<;>cases o
 |dB ds=>
  simp only[At]at a;obtain⟨p,xs,e,h,q⟩:=a;cases n with
  |zero=>cases o
  |succ m=>exact⟨p,_,ds,xs,e,.dB h q,m,rfl,o⟩
 |_=>cases ns
theorem gW.hc{K:PySem.W.Frag}{d:D}{p:ada}{b:Bool}{ds:List D}{xs:List V}(h:gW K G d p b ds xs):aP K G ds xs:=by cases h<;>assumption
theorem gW.eq{K:PySem.W.Frag}{d1 cF:D}{d0 cD:ada}{eC dE:Bool}{fL ek:List D}{oX mB:List V}(h1:gW K G d1 d0 eC fL oX)(h2:gW K G cF cD dE ek mB):bz d1 cF=(eC==dE&&dT fL ek):=by cases h1<;>cases h2<;>simp[bz]
theorem gW.heap(I:Inv X pins σ H s)(bh:Sub G H){d:D}{p:ada}{b:Bool}{ds:List D}{xs:List V}(h:gW X.K G d p b ds xs) :
  ∃its:List ac1,Vals xs its∧(b=true→s.heap.IsTuple p its.toArray)∧(b=false→s.heap.IsList p its.toArray):=by
 cases h with
 |tup h q=>obtain⟨its,cg,bT,_⟩:=I.tuple (c2.mono bh h);exact⟨its,cg,fun _=>bT,fun z=>by cases z⟩
 |dB h q=>obtain⟨its,cg,bT,_⟩:=I.tuple (c2.mono bh h);exact⟨its,cg,fun _=>bT,fun z=>by cases z⟩
 |lst h q=>obtain⟨its,cg,bT,_⟩:=I.list (b7.of (bh _ _ h));exact⟨its,cg,(fun z=>by cases z),fun _=>bT.isList⟩
 |cJ h q=>obtain⟨its,cg,bT,_⟩:=I.list (b7.mono bh h);exact⟨its,cg,(fun z=>by cases z),fun _=>bT.isList⟩
theorem gW.same(I:Inv X pins σ H s)(bh:Sub G H){d1 cF:D}{p:ada}{eC dE:Bool}{fL ek:List D}{oX mB:List V}(h1:gW X.K G d1 p eC fL oX)(h2:gW X.K G cF p dE ek mB):eC=dE∧oX=mB:=by
 obtain⟨kj,az,t1,dZ⟩:=h1.heap I bh;obtain⟨eI,bg,cy,cP⟩:=h2.heap I bh;cases eC with
 |true=>
  cases dE with
  |false=>exact absurd rfl (ahE (cP rfl) (t1 rfl))
  |true=>
   refine⟨rfl,?_⟩;cases h1<;>cases h2<;>
   exact I.Dp (c2.mono bh (by assumption)) (c2.mono bh (by assumption))
 |false=>
  cases dE with
  |true=>exact absurd rfl (ahE (dZ rfl) (cy rfl))
  |false=>
   refine⟨rfl,?_⟩;have g1:b7 X.K H p oX:=by
    cases h1 with
    |lst h q=>exact b7.of (bh _ _ h)
    |cJ h q=>exact b7.mono bh h
   have g2:b7 X.K H p mB:=by
    cases h2 with
    |lst h q=>exact b7.of (bh _ _ h)
    |cJ h q=>exact b7.mono bh h
   exact I.A9 g1 g2
theorem qI{f:D→Bool}{ds:List D}(h:ds.all f=true){i:Nat}{d:D}(e:ds[i]?=some d):f d=true:=List.all_eq_true.mp h d (adn e)
theorem MO(I:Inv X pins σ H s)(bh:Sub G H):∀(n:Nat){d1 cF:D}{x:V},okN n d1=true→okN n cF=true→At X.K G d1 x→At X.K G cF x→bz d1 cF=true:=by
 intro n;induction n with
 |zero=>intro d1 cF x cQ b_ a1 a2;exact J_ (by cases d1<;>first|rfl|(cases cQ)) a1 a2
 |succ n bQ=>
  intro d1 cF x cQ b_ a1 a2;cases s1:gN d1 with
  |true=>exact J_ s1 a1 a2
  |false=>
   cases s2:gN cF with
   |true=>exact(Fm s2 s1 a1 a2).elim
   |false=>
    obtain⟨d0,eC,fL,oX,aq,aV,m1,Fh,k1⟩:=rU cQ s1 a1;obtain⟨cD,dE,ek,mB,aD,bE,m2,Fi,k2⟩:=rU b_ s2 a2;subst aq;cases aD;have:n=m1:=by omega
    subst this;have:n=m2:=by omega
    subst this;obtain⟨bj,ex⟩:=aV.same I bh bE;subst bj;subst ex;rw[aV.eq bE,beq_self_eq_true,ahj];refine Fn (aV.hc.length.trans bE.hc.length.symm) fun i a b aw bj=>?_;obtain⟨v,ev,bp⟩:=aV.hc.get aw;obtain⟨my,sP,bv⟩:=bE.hc.get bj;rw[ev]at sP;cases sP;exact bQ (qI k1 aw) (qI k2 bj) bp bv
theorem z0(I:Inv X pins σ H s)(bh:Sub G H):∀(n:Nat){d1 cF:D}{u v:ac1}{A:adG},okN n d1=true→okN n cF=true→lQ X.K G d1 u→lQ X.K G cF v→A.units+n<aew→
  aid A s u v (bz d1 cF)∧ai6 A s u v (bz d1 cF)∧ahL A s u v (!bz d1 cF):=by
 intro n;induction n with
 |zero=>
  intro d1 cF u v A cQ b_ a1 a2 aJ;refine J8 (oK I bh cQ a1) (oK I bh b_ a2) ?_ ?_
  ·cases d1<;>first|rfl|(cases cQ)
  ·cases cF<;>first|rfl|(cases b_)
 |succ n bQ=>
  intro d1 cF u v A cQ b_ a1 a2 aJ;have ki:A.units<aew:=by omega
  cases s1:gN d1 with
  |true=>
   cases s2:gN cF with
   |true=>exact J8 (oK I bh cQ a1) (oK I bh b_ a2) s1 s2
   |false=>exact IF ki (oK I bh cQ a1) (oK I bh b_ a2) (.inl ⟨s1,s2⟩)
  |false=>
   cases s2:gN cF with
   |true=>exact IF ki (oK I bh cQ a1) (oK I bh b_ a2) (.inr ⟨s1,s2⟩)
   |false=>
    obtain⟨gS,hb,WY⟩:=a1;obtain⟨cK,at2,WZ⟩:=a2;obtain⟨d0,eC,fL,oX,aq,aV,m1,Fh,k1⟩:=rU cQ s1 hb;obtain⟨cD,dE,ek,mB,aD,bE,m2,Fi,k2⟩:=rU b_ s2 at2;subst aq;subst aD;cases WY;cases WZ;have:n=m1:=by omega
    subst this;have:n=m2:=by omega
    subst this;obtain⟨kj,az,t1,dZ⟩:=aV.heap I bh;obtain⟨eI,bg,cy,cP⟩:=bE.heap I bh;have m_:fL.length=kj.length:=aV.hc.length.trans az.length;have tp:ek.length=eI.length:=bE.hc.length.trans bg.length;have item:∀j(h1:j<kj.toArray.size)(h2:j<eI.toArray.size),aid A.in1 s kj.toArray[j] eI.toArray[j] (k9 fL ek j):=fun j h1 h2=>by
     have pO:j<fL.length:=by rw[m_];simpa using h1
     have om:j<ek.length:=by rw[tp];simpa using h2
     have g1:lQ X.K G fL[j] kj.toArray[j]:=rf aV.hc az j _ _ (ac2 pO) (by simp at h1;simp[h1]);have g2:lQ X.K G ek[j] eI.toArray[j]:=rf bE.hc bg j _ _ (ac2 om) (by simp at h2;simp[h2]);have:=(bQ (A:=A.in1) (qI k1 (ac2 pO)) (qI k2 (ac2 om)) g1 g2 (by rw[in1_units];omega)).1;unfold k9;rw[ac2 pO,ac2 om];exact this
    have whole:ai6 A s (.ref d0) (.ref cD) (bz d1 cF)∧ahL A s (.ref d0) (.ref cD) (!bz d1 cF):=by
     rw[aV.eq bE];cases eC with
     |true=>
      cases dE with
      |false=>exact⟨SeqAt.RcAt.tuple_list (t1 rfl) (cP rfl) ki,SeqAt.RcNeAt.tuple_list (t1 rfl) (cP rfl) ki⟩
      |true=>
       have b0:=SeqAt.RcAt.tuples (e:=k9 fL ek) (t1 rfl) (cy rfl) ki item;have c9:=SeqAt.RcNeAt.tuples (e:=k9 fL ek) (t1 rfl) (cy rfl) ki item;have eq:((adf (min kj.toArray.size eI.toArray.size)).all (k9 fL ek)&&kj.toArray.size==eI.toArray.size)=(true==true&&dT fL ek):=by
        rw[ac8,ac8,←m_,←tp,beq_self_eq_true,ahj];by_cases ai:fL.length=ek.length
        ·rw[←ai,Nat.min_self,z2 ai,beq_self_eq_true,aiV]
        ·rw[z1 ai];have:(fL.length==ek.length)=false:=by simpa using ai
         rw[this,aix]
       rw[eq]at b0;refine⟨b0,?_⟩
       first
        |(rw[eq]at c9;exact c9)
        |exact c9
     |false=>
      cases dE with
      |true=>exact⟨SeqAt.RcAt.list_tuple (dZ rfl) (cy rfl) ki,SeqAt.RcNeAt.list_tuple (dZ rfl) (cy rfl) ki⟩
      |false=>
       rw[beq_self_eq_true,ahj];by_cases ai:fL.length=ek.length
       ·have b0:=SeqAt.RcAt.lists (e:=k9 fL ek) (dZ rfl) (cP rfl) (by rw[ac8,ac8,←m_,←tp];exact ai) ki item;have c9:=SeqAt.RcNeAt.lists (e:=k9 fL ek) (dZ rfl) (cP rfl) (by rw[ac8,ac8,←m_,←tp];exact ai) ki item;rw[ac8,←m_,z2 ai]at b0 c9;exact⟨b0,c9⟩
       ·have bo:(kj.toArray.size !=eI.toArray.size)=true:=by
          rw[ac8,ac8,←m_,←tp];simpa using ai
        rw[z1 ai];exact⟨SeqAt.RcAt.lists_lengths (dZ rfl) (cP rfl) bo ki,SeqAt.RcNeAt.lists_lengths (dZ rfl) (cP rfl) bo ki⟩
    refine⟨?_,whole⟩;by_cases aS:d0=cD
    ·subst aS;rw[MO I bh (n+1) cQ b_ hb at2];exact ajh _
    ·exact SeqAt.EqAt.of_refs aS whole.1
end
def notStar:adI→Bool
 |.Starred .. =>false
 |_=>true
theorem Kx(e:adI)(es:List adI)(env:Env)(h:notStar e=true):ac5 (e::es) env=(false,aeq e env)::ac5 es env:=by cases e<;>first|rfl|(cases h)
def oA:adI→Bool
 |.ListComp .. =>false
 |.SetComp .. =>false
 |.DictComp .. =>false
 |_=>true
theorem nz(e:adI)(t:Option adI)(l:Nat)(env:Env)(h:oA e=true):afB e t l env=pure false:=by cases e<;>first|rfl|(cases h)
def Uw:adI→Bool
 |.Slice .. =>false
 |_=>true
theorem aT{b:adI}(h:Uw b=true:=by rfl):yF b:=fun o i=>by cases b<;>first|rfl|(cases h)
section
variable{X:aQ}{F:bG}{e a b c:adI}{es:List adI}{pos:Pos}
theorem a6.imp{t t':TE}(h:a6 X e t)(i:eR t' t):a6 X e t':=fun pins s σ H Q I hw=>h pins s σ H Q I (i σ H Q hw)
theorem e9.imp{t t':TT}(h:e9 X e t)(i:mJ t' t):e9 X e t':=fun pins s σ H Q I hw=>h pins s σ H Q I (i σ H Q hw)
theorem iB.imp{t t':TT}(h:iB X e t)(i:mJ t' t):iB X e t':=fun qp pins s σ H Q I hw=>h qp pins s σ H Q I (i σ H Q hw)
theorem fk.imp{t t':eL}(h:fk X es t)(i:qE t' t):fk X es t':=fun p pins s σ H Q I hw=>h p pins s σ H Q I (i σ H Q hw)
theorem dG.imp{st:aep}{t t':e1}(h:dG X st t)(i:hu t' t):dG X st t':=fun pins s σ H c0 I hw=>h pins s σ H c0 I (i c0 σ H hw)
theorem f_.imp{st:List aep}{t t':e1}(h:f_ X st t)(i:hu t' t):f_ X st t':=fun pins s σ H c0 I hw=>h pins s σ H c0 I (i c0 σ H hw)
theorem f9.imp{cj:adI}{t t':TI}(h:f9 X cj e t)(i:nO t' t):f9 X cj e t':=fun pins s σ H Q I hw=>h pins s σ H Q I (i σ H Q hw)
abbrev jv(X:aQ)(F:bG)(e:adI)(m:aN):Prop:=a6 X e (cZ F m)
abbrev D2(X:aQ)(F:bG)(e:adI)(m:aY):Prop:=a6 X e (jW F m)
abbrev Ef(X:aQ)(F:bG)(e:adI)(m:cH):Prop:=e9 X e (gq F m)
abbrev DY(X:aQ)(F:bG)(es:List adI)(m:aY):Prop:=fk X es (eE F m)
abbrev Eb(X:aQ)(F:bG)(st:aep)(m:bl):Prop:=dG X st (fH F m)
abbrev L9(X:aQ)(F:bG)(st:List aep)(m:bl):Prop:=f_ X st (fH F m)
abbrev si(X:aQ)(F:bG)(cj e:adI)(m:aY):Prop:=f9 X cj e (kB F m)
theorem Oc{x:Str}{v:V}{u:ac1}{d:D}(hm:X.mg x=some u)(r:RelV v u)(at':∀G,At F.K G d v)(aO:dM X x:=by rfl)(hd:(x==("__debug__" :Str))=false:=by decide):jv X F (.Name x pos) (ao d):=
 a6.imp (Vw aO hm r hd) (th at')
variable{st:aep}{qf:List aep}
theorem qT{op:Operator}{r:e_}{f:D→D→R D}{m n:aN}(aE:ee X (agp op) r)(hf:hv F r f)(ag:jv X F a m)(J:jv X F b n):jv X F (.BinOp a op b pos) (aj f m n):=a6.imp (xd aE ag J) (v5 hf)
theorem sJ{op:ajc}{r:e_}{f:D→D→R D}{m n:aN}(aE:ee X (ad0 op) r)(hf:hv F r f)(ag:jv X F a m)(J:jv X F b n)(hm:adT op b=false):jv X F (.Compare a [op] [b] pos) (aj f m n):=a6.imp (Vq aE ag J hm) (v5 hf)
theorem oO{op:ajc}{r:e_}{f:D→D→R D}{m n:aN}(aE:ee X (ad0 op) r)(hf:hv F r f)(ag:jv X F a m)(J:jv X F b n)(hm:adT op b=false):Ef X F (.Compare a [op] [b] pos) (a_ (aj f m n)):=
 e9.imp (Wa aE ag J hm) fun σ H Q h=>by obtain⟨G,ρ,r,k⟩:=Hx (F:=F) (m:=aj f m n) σ H Q h;exact v5 hf σ H _ ⟨G,ρ,r,k⟩
def jM(f:Int→Int→R D):D→D→R D
 |.int i,.int j=>f i j
 |_,_=>.bad
theorem rO{g:Int→Int→V}{f:Int→Int→D}(h:∀i j G,At F.K G (f i j) (g i j)):hv F (lC g) (jM fun i j=>.ok (f i j)):=by
 intro σ ρ G H x y a8 gj Q r b9 c3 k;unfold jM at k
 split at k
 ·rename_i i j;simp only[At]at b9 c3;exact⟨i,j,b9,c3,k _ H G r (cq.refl _ _) (h i j G)⟩
 ·exact k.elim
theorem w3{C:Int→Int→Prop}[∀i j,Decidable (C i j)]{g:Int→Int→V}{f:Int→Int→D}(h:∀i j G,At F.K G (f i j) (g i j)):hv F (rQ C g) (jM fun i j=>if C i j then .ok (f i j)else .bad):=by
 intro σ ρ G H x y a8 gj Q r b9 c3 k;unfold jM at k
 split at k
 ·rename_i i j;simp only[At]at b9 c3;dsimp only at k
  split at k
  ·rename_i aB;exact⟨i,j,b9,c3,aB,k _ H G r (cq.refl _ _) (h i j G)⟩
  ·exact k.elim
 ·exact k.elim
instance(i j:Int):Decidable (uP i j):=by unfold uP;infer_instance
instance(i j:Int):Decidable (sb i j):=by unfold sb;infer_instance
instance(i j:Int):Decidable (qA i j):=by unfold qA;infer_instance
def kA:=jM fun i j=>.ok (.int (i-j))
def ll:=jM fun i j=>if qA i j then .ok (.int (i*j))else .bad
def hZ:=jM fun i j=>if uP i j then .ok (.int (i/j))else .bad
def eA:=jM fun i j=>if 0<j then .ok (.int (i%j))else .bad
def lA:=jM fun i j=>if sb i j then .ok (.int (i^j.toNat))else .bad
def pU:=jM fun i j=>.ok (.aF (decide (i<j)))
def la:=jM fun i j=>.ok (.aF (decide (i≤j)))
def oc:=jM fun i j=>.ok (.aF (decide (j<i)))
variable{m n:aN}
def Ug:D→R D
 |.int i=>.ok (.int (-i))
 |_=>.bad
noncomputable def fs:D→D→R D
 |.int i,.int j=>.ok (.int (i+j))
 |.str x,.str y=>if x.length+y.length≤1000000 then .ok (.str (x++y))else .bad
 |.lst xs,.lst ys=>if xs.length+ys.length≤1000000 then .ok (.lst (xs++ys))else .bad
 |_,_=>.bad
theorem UJ:hv F (fun x y H Q=>lC (fun i j=>.int (i+j)) x y H Q∨(∃i j,x=.str i∧y=.str j∧i.length+j.length≤adq∧Q (.str (i++j)) H)∨JL x y H Q) fs:=by
 intro σ ρ G H x y a8 gj Q r b9 c3 k;unfold fs at k
 split at k
 ·rename_i i j;simp only[At]at b9 c3;exact .inl ⟨i,j,b9,c3,k _ H G r (cq.refl _ _) (by simp only[At])⟩
 ·rename_i i j;simp only[At]at b9 c3
  split at k
  ·rename_i ai;exact .inr (.inl ⟨i,j,b9,c3,adB ai (by decide),k _ H G r (cq.refl _ _) (by simp only[At])⟩)
  ·exact k.elim
 ·rename_i ds es;simp only[At]at b9 c3
  split at k
  ·rename_i ai;obtain⟨p,xs,aq,h1,aV⟩:=b9;obtain⟨cD,ys,aD,h2,bE⟩:=c3;refine .inr (.inr ⟨p,cD,xs,ys,aq,aD,r.aM.sub _ _ h1,r.aM.sub _ _ h2,by rw[←aV.length,←bE.length];exact adB ai (by decide),fun l aK=>?_⟩);refine k (.ref l) _ _ (r.lay aK) (cq.lay r.aM.sub aK) ?_;simp only[At];exact⟨l,xs++ys,rfl,et,(aV.append bE).mono (Sub.upd (r.aM.sub.gone aK))⟩
  ·exact k.elim
 ·exact k.elim
noncomputable def cw(b:Bool)(x y:D):R D:=if okN 8 x=true∧okN 8 y=true then .ok (.aF (if b then bz x y else !bz x y))else .bad
noncomputable def BO(F:bG)(b:Bool):e_:=fun x y H Q=>∃G d1 cF,Sub G H∧At F.K G d1 x∧At F.K G cF y∧okN 8 d1=true∧okN 8 cF=true∧Q (.aF (if b then bz d1 cF else !bz d1 cF)) H
theorem I6(a5:F.K=X.K)(aJ:X.A.units+64<aew):ee X (ad0 .Eq) (BO F true):=by intro pins s σ H x y v u Q I bH cp h;obtain⟨G,d1,cF,bh,a1,a2,cQ,b_,q⟩:=h;rw[a5]at a1 a2;exact(z0 I bh 8 (A:=X.A) cQ b_ ⟨x,a1,bH⟩ ⟨y,a2,cp⟩ (by omega)).2.1 X.prog X.w X.xe _ ⟨.aF _,H,I,rfl,q⟩
theorem Ja(a5:F.K=X.K)(aJ:X.A.units+64<aew):ee X (ad0 .NotEq) (BO F false):=by intro pins s σ H x y v u Q I bH cp h;obtain⟨G,d1,cF,bh,a1,a2,cQ,b_,q⟩:=h;rw[a5]at a1 a2;exact(z0 I bh 8 (A:=X.A) cQ b_ ⟨x,a1,bH⟩ ⟨y,a2,cp⟩ (by omega)).2.2 X.prog X.w X.xe _ ⟨.aF _,H,I,rfl,q⟩
theorem w2(b:Bool):hv F (BO F b) (cw b):=by
 intro σ ρ G H x y a8 gj Q r b9 c3 k;unfold cw at k
 split at k
 ·rename_i aE;exact⟨G,a8,gj,r.aM.sub,b9,c3,aE.1,aE.2,k _ H G r (cq.refl _ _) (by simp only[At])⟩
 ·exact k.elim
end
section
variable{X:aQ}{F:bG}{e a b c:adI}{es:List adI}{pos:Pos}{m n:aN}
theorem Fo:∀{ds pq:List D},ds.length=pq.length→(∀(i:Nat) x y,ds[i]?=some x→pq[i]?=some y→∀z,bz x z=bz y z)→∀es,dT ds es=dT pq es
 |[],[],_,_,_=>rfl
 |[],_::_,h,_,_=>by simp at h
 |_::_,[],h,_,_=>by simp at h
 |x::xs,y::ys,h,k,[]=>by simp only[dT]
 |x::xs,y::ys,h,k,e::es=>by simp only[dT];rw[k 0 x y rfl rfl e,Fo (by simpa using h) (fun i a b aq aD=>k (i+1) a b (by simpa using aq) (by simpa using aD)) es]
theorem J9{K:PySem.W.Frag}{G:ah}{d d':D}{x:V}(o:gN d=true)(a1:At K G d x)(a2:At K G d' x):d=d':=by
 cases d with
 |non=>simp only[At]at a1;subst a1;cases d'<;>simp only[At]at a2<;>first|rfl|(cases a2;done)|(obtain⟨a,xs,e,_⟩:=a2;cases e;done)|(obtain⟨a,a8,xs,e,_⟩:=a2;cases e;done)
 |aF b=>simp only[At]at a1;subst a1;cases d'<;>simp only[At]at a2<;>first|(cases a2;rfl)|(cases a2;done)|(obtain⟨a,xs,e,_⟩:=a2;cases e;done)|(obtain⟨a,a8,xs,e,_⟩:=a2;cases e;done)
 |int b=>simp only[At]at a1;subst a1;cases d'<;>simp only[At]at a2<;>first|(cases a2;rfl)|(cases a2;done)|(obtain⟨a,xs,e,_⟩:=a2;cases e;done)|(obtain⟨a,a8,xs,e,_⟩:=a2;cases e;done)
 |str b=>simp only[At]at a1;subst a1;cases d'<;>simp only[At]at a2<;>first|(cases a2;rfl)|(cases a2;done)|(obtain⟨a,xs,e,_⟩:=a2;cases e;done)|(obtain⟨a,a8,xs,e,_⟩:=a2;cases e;done)
 |_=>cases o
theorem gW.val{K:PySem.W.Frag}{G:ah}{d:D}{p:ada}{b:Bool}{ds:List D}{xs:List V}(h:gW K G d p b ds xs)(e:D):bz d e=match e with
  |.tup es=>b&&dT ds es
  |.dB es=>b&&dT ds es
  |.lst es=>!b&&dT ds es
  |.cJ es=>!b&&dT ds es
  |_=>false:=by
 cases h<;>cases e<;>simp[bz]
section
variable{pins:List (ada×Obj)}{σ :St}{H G:ah}{s:ac4}
theorem MN(I:Inv X pins σ H s)(bh:Sub G H):∀(n:Nat){d d':D}{x:V},okN n d=true→okN n d'=true→At X.K G d x→At X.K G d' x→∀e,bz d e=bz d' e:=by
 intro n;induction n with
 |zero=>intro d d' x cQ b_ a1 a2 e;rw[J9 (by cases d<;>first|rfl|(cases cQ)) a1 a2]
 |succ n bQ=>
  intro d d' x cQ b_ a1 a2 e;cases s1:gN d with
  |true=>rw[J9 s1 a1 a2]
  |false=>
   cases s2:gN d' with
   |true=>exact(Fm s2 s1 a1 a2).elim
   |false=>
    obtain⟨d0,eC,fL,oX,aq,aV,m1,Fh,k1⟩:=rU cQ s1 a1;obtain⟨cD,dE,ek,mB,aD,bE,m2,Fi,k2⟩:=rU b_ s2 a2;subst aq;cases aD;have:n=m1:=by omega
    subst this;have:n=m2:=by omega
    subst this;obtain⟨bj,ex⟩:=aV.same I bh bE;subst bj;subst ex;have el:∀es,dT fL es=dT ek es:=Fo (aV.hc.length.trans bE.hc.length.symm) fun i a b aw bj z=>by obtain⟨v,ev,bp⟩:=aV.hc.get aw;obtain⟨my,sP,bv⟩:=bE.hc.get bj;rw[ev]at sP;cases sP;exact bQ (qI k1 aw) (qI k2 bj) bp bv z
    rw[aV.val,bE.val];cases e<;>first|rfl|(simp only[el])
open Classical in
noncomputable def kR(K:PySem.W.Frag)(G:ah)(d:D)(u:ac1):Bool:=if h:∃d',okN 7 d'=true∧lQ K G d' u then bz (ajd h) d else false
theorem yN(I:Inv X pins σ H s)(bh:Sub G H){d d1:D}{u:ac1}(o:okN 7 d=true)(h:lQ X.K G d u):kR X.K G d1 u=bz d d1:=by have ax:∃d',okN 7 d'=true∧lQ X.K G d' u:=⟨d,o,h⟩;unfold kR;rw[dif_pos ax];obtain⟨bR,h'⟩:=agb ax;obtain⟨x,a,r⟩:=h;obtain⟨lI,kQ,bF⟩:=h';have:lI=x:=bF.inj r;subst this;exact MN I bh 7 bR o kQ a d1
theorem yO(I:Inv X pins σ H s)(bh:Sub G H){d1:D}:∀{ds:List D}{xs:List V}{its:List ac1},aP X.K G ds xs→Vals xs its→ds.all (okN 7)=true→its.any (kR X.K G d1)=ds.any fun y=>bz y d1
 |[],_,_,q,r,_=>by simp only[aP]at q;subst q;cases r;rfl
 |d::ds,_,_,q,r,o=>by
  simp only[aP]at q;obtain⟨v,x3,rfl,bp,kS⟩:=q;cases r with
  |cons az bg=>rw[afr,adF]at o;rw[ae8,ae8,yN I bh o.1 ⟨v,bp,az⟩,yO I bh kS bg o.2]
theorem wU(I:Inv X pins σ H s)(bh:Sub G H){d1:D}{x:V}{v:ac1}{A:adG}(aJ:A.units+8<aew)(cQ:okN 7 d1=true)(a1:At X.K G d1 x)(bH:RelV x v):∀{ds:List D}{xs:List V}{its:List ac1},aP X.K G ds xs→Vals xs its→ds.all (okN 7)=true→
  ∀u∈its,aid A s u v (kR X.K G d1 u)
 |[],_,_,q,r,_=>by simp only[aP]at q;subst q;cases r;exact fun u aJ=>nomatch aJ
 |d::ds,_,_,q,r,o=>by
  simp only[aP]at q;obtain⟨w,wr,rfl,bp,kS⟩:=q;cases r with
  |cons az bg=>
   rw[afr,adF]at o;intro hD hm;rcases List.mem_cons.mp hm with e|hm
   ·subst e;rw[yN I bh o.1 ⟨w,bp,az⟩];exact(z0 I bh 7 (A:=A) o.1 cQ ⟨w,bp,az⟩ ⟨x,a1,bH⟩ (by omega)).1
   ·exact wU I bh aJ cQ a1 bH kS bg o.2 hD hm
end
noncomputable def oJ:D→Option (List D)
 |.tup ys=>some ys
 |.dB ys=>some ys
 |.lst ys=>some ys
 |.cJ ys=>some ys
 |_=>none
noncomputable def inD(b:Bool)(x y:D):R D:=match oJ y with
 |some ys=>if okN 7 x=true∧ys.all (okN 7)=true then .ok (.aF (if b then ys.any (fun y=>bz y x)else !ys.any fun y=>bz y x))else .bad
 |none=>.bad
noncomputable def BP(F:bG)(b:Bool):e_:=fun x y H Q=>∃G d1 cF p ds xs k,Sub G H∧At F.K G d1 x∧y=.ref p∧gW F.K G cF p k ds xs∧okN 7 d1=true∧ds.all (okN 7)=true∧Q (.aF (if b then ds.any (fun y=>bz y d1)else !ds.any fun y=>bz y d1)) H
theorem I8(a5:F.K=X.K)(aJ:X.A.units+64<aew):ee X (ad0 .In) (BP F true):=by
 intro pins s σ H x y v u Q I bH cp h;obtain⟨G,d1,cF,p,ds,xs,k,bh,a1,rfl,gO,cQ,b_,q⟩:=h;rw[a5]at a1 gO;cases cp;obtain⟨its,az,t1,dZ⟩:=gO.heap I bh;have q:Q (.aF (ds.any fun y=>bz y d1)) H:=q;rw[←yO I bh gO.hc az b_]at q;have hm:=wU I bh (A:=X.A.in1) (d1:=d1) (by rw[in1_units];omega) cQ a1 bH gO.hc az b_;cases k with
 |true=>exact SeqAt.in_tupleAt (kR X.K G d1) (t1 rfl) (fun w hw=>hm w (by simpa using hw)) ⟨.aF _,H,I,rfl,by simpa using q⟩
 |false=>exact SeqAt.in_listAt (kR X.K G d1) (dZ rfl) (fun w hw=>hm w (by simpa using hw)) ⟨.aF _,H,I,rfl,by simpa using q⟩
theorem U2(a5:F.K=X.K)(aJ:X.A.units+64<aew):ee X (ad0 .NotIn) (BP F false):=by
 intro pins s σ H x y v u Q I bH cp h;obtain⟨G,d1,cF,p,ds,xs,k,bh,a1,rfl,gO,cQ,b_,q⟩:=h;rw[a5]at a1 gO;cases cp;obtain⟨its,az,t1,dZ⟩:=gO.heap I bh;have q:Q (.aF (!ds.any fun y=>bz y d1)) H:=q;rw[←yO I bh gO.hc az b_]at q;have hm:=wU I bh (A:=X.A.in1) (d1:=d1) (by rw[in1_units];omega) cQ a1 bH gO.hc az b_;cases k with
 |true=>exact SeqAt.notIn_tupleAt (kR X.K G d1) (t1 rfl) (fun w hw=>hm w (by simpa using hw)) ⟨.aF _,H,I,rfl,by simpa using q⟩
 |false=>exact SeqAt.notIn_listAt (kR X.K G d1) (dZ rfl) (fun w hw=>hm w (by simpa using hw)) ⟨.aF _,H,I,rfl,by simpa using q⟩
theorem X3{K:PySem.W.Frag}{G:ah}{d:D}{x:V}{ds:List D}(e:oJ d=some ds)(a:At K G d x):∃p xs k,x=.ref p∧gW K G d p k ds xs:=by
 cases d<;>first
  |(cases e;done)
  |(cases e
    simp only[At]at a;obtain⟨p,xs,e,h,q⟩:=a
    first
     |exact⟨p,xs,_,e,.tup (c2.of h) q⟩
     |exact⟨p,xs,_,e,.dB h q⟩
     |exact⟨p,xs,_,e,.lst h q⟩
     |exact⟨p,xs,_,e,.cJ h q⟩)
theorem Bx(b:Bool):hv F (BP F b) (inD b):=by
 intro σ ρ G H x y a8 gj Q r b9 c3 k;unfold inD at k;cases e:oJ gj with
 |none=>rw[e]at k;exact k.elim
 |some ys=>
  rw[e]at k;dsimp only at k
  split at k
  ·rename_i aE;obtain⟨p,xs,kk,dN,gO⟩:=X3 e c3;exact⟨G,a8,gj,p,ys,xs,kk,r.aM.sub,b9,dN,gO,aE.1,aE.2,k _ H G r (cq.refl _ _) (by simp only[At])⟩
  ·exact k.elim
def fX:D→Bool
 |.non=>true
 |_=>false
def e5(b:Bool):D→D→R D
 |x,.non=>.ok (.aF (if b then fX x else !fX x))
 |_,_=>.bad
theorem AV{K:PySem.W.Frag}{G:ah}{d:D}{x:V}(a:At K G d x):fX d=decide (x=.non):=by
 cases d<;>simp only[At]at a<;>first
  |(subst a;simp[fX];done)
  |(obtain⟨p,xs,e,_⟩:=a;subst e;simp[fX];done)
  |(obtain⟨p,a8,xs,e,_⟩:=a;subst e;simp[fX];done)
noncomputable def jP(f g:D→D→R D)(a b c:aN):aN:=fun ρ=>(a ρ).bind fun x=>(b ρ).bind fun y=>(f x y).bind fun z=>(i_ z).bind fun k=>if k=true then(c ρ).bind fun w=>g y w else .ok (.aF false)
theorem HA{r bF:e_}{f g:D→D→R D}{l:aN}(hf:hv F r f)(aO:hv F bF g):eR (cZ F (jP f g m n l)) (C7 r bF (cZ F m) (cZ F n) (cZ F l)):=by
 rintro σ H Q ⟨G,ρ,BU,h⟩;unfold jP at h;refine⟨G,ρ,BU,?_⟩;cases aw:m ρ with
 |bad=>rw[aw]at h;exact h.elim
 |exc c=>rw[aw]at h;exact h
 |ok a8=>
  rw[aw,R.bM]at h;intro x H1 aW az s1 b9;refine⟨aW,ρ,az,?_⟩;cases bj:n ρ with
  |bad=>rw[bj]at h;exact h.elim
  |exc c=>rw[bj]at h;exact h
  |ok gj=>
   rw[bj,R.bM]at h;intro y bk dg bg s2 c3;refine hf σ ρ dg bk x y a8 gj _ bg (b9.mono s2.g) c3 ?_;cases fM:f a8 gj with
   |bad=>rw[fM]at h;exact h.elim
   |exc c=>rw[fM]at h;exact h
   |ok N4=>
    rw[fM,R.bM]at h;intro z dy gG d9 s3 lZ;cases N4 with
    |aF k=>
     simp only[At]at lZ;refine⟨k,lZ,?_⟩;have h:ib F G H σ ρ Q (if k=true then(l ρ).bind fun w=>g gj w else .ok (.aF false)):=h;cases k with
     |false=>rw[if_neg adC]at h ⊢;exact h _ dy gG d9 (s1.trans (s2.trans s3)) (by simp only[At])
     |true=>
      rw[if_pos rfl]at h ⊢;refine⟨gG,ρ,d9,?_⟩;cases ec:l ρ with
      |bad=>rw[ec]at h;exact h.elim
      |exc c=>rw[ec]at h;exact h
      |ok N3=>rw[ec,R.bM]at h;intro w gV sf mu s4 j6;exact aO σ ρ sf gV y w gj N3 Q mu ((c3.mono s3.g).mono s4.g) j6 (h.mono (s1.trans (s2.trans (s3.trans s4))))
    |_=>exact h.elim
theorem UN:hv F (lC fun i j=>.aF (decide (i<j))) pU:=rO fun _ _ _=>by simp only[At]
theorem t7:hv F (lC fun i j=>.aF (decide (i≤j))) la:=rO fun _ _ _=>by simp only[At]
end
section
variable{X:aQ}{F:bG}{e a b c:adI}{es:List adI}{pos p:Pos}{m n:aN}{ma:aY}
def cM(f:List D→R D)(m:aY):aN:=fun ρ=>(m ρ).bind f
noncomputable def mH(F:bG)(r:List V→ah→cX→Prop)(f:List D→R D):Prop:=∀ σ ρ G H xs ds Q,Rel F G H σ ρ→aP F.K G ds xs→ib F G H σ ρ Q (f ds)→r xs H Q
theorem Hz{r:List V→ah→cX→Prop}{f:List D→R D}(hf:mH F r f):eR (cZ F (cM f ma)) (xP r (eE F ma)):=by
 rintro σ H Q ⟨G,ρ,BU,h⟩;unfold cM at h;refine⟨G,ρ,BU,?_⟩;cases aw:ma ρ with
 |bad=>rw[aw]at h;exact h.elim
 |exc c=>rw[aw]at h;exact h
 |ok ds=>rw[aw,R.bM]at h;intro vs H1 aW az s1 a;exact hf σ ρ aW H1 vs ds Q az a (h.mono s1)
theorem zU{x:Str}{id:String}{r:List V→ah→cX→Prop}{f:List D→R D}(aB:gT X (.builtin id) r)(hf:mH F r f)(hm:X.mg x=none)(bW:aer x=some (.builtin id))(ag:DY X F (e::es) ma)(aO:dM X x:=by rfl)(aK:x≠"__name__":=by decide)(gk:(x==("__debug__" :Str))=false:=by decide)(he:ac5 (e::es) X.env=(false,aeq e X.env)::ac5 es X.env:=by rfl)(de:(adR pos (ac5 es X.env)).any (·.1)=false:=by rfl):jv X F (.Call (.Name x p) (e::es) [] pos) (cM f ma):=
 a6.imp (xb aB aO hm bW ag aK gk he de) (Hz hf)
theorem zV{x:Str}{T:String}{r:List V→ah→cX→Prop}{f:List D→R D}(aB:gT X (.type T) r)(hf:mH F r f)(hm:X.mg x=none)(bW:aer x=some (.type T))(ag:DY X F (e::es) ma)(aO:dM X x:=by rfl)(aK:x≠"__name__":=by decide)(gk:(x==("__debug__" :Str))=false:=by decide)(he:ac5 (e::es) X.env=(false,aeq e X.env)::ac5 es X.env:=by rfl)(de:(adR pos (ac5 es X.env)).any (·.1)=false:=by rfl):jv X F (.Call (.Name x p) (e::es) [] pos) (cM f ma):=
 a6.imp (xc aB aO hm bW ag aK gk he de) (Hz hf)
noncomputable def dC:List D→R D
 |[.str x]=>if x.length≤1000000 then .ok (.int x.length)else .bad
 |[.lst xs]=>.ok (.int xs.length)
 |[.cJ xs]=>.ok (.int xs.length)
 |[.tup xs]=>.ok (.int xs.length)
 |[.dB xs]=>.ok (.int xs.length)
 |_=>.bad
theorem aP.one{K:PySem.W.Frag}{G:ah}{d:D}{vs:List V}(a:aP K G [d] vs):∃v,vs=[v]∧At K G d v:=by simp only[aP]at a;obtain⟨v,r,rfl,h,rfl⟩:=a;exact⟨v,rfl,h⟩
theorem aP.two{K:PySem.W.Frag}{G:ah}{d e:D}{vs:List V}(a:aP K G [d,e] vs):∃v w,vs=[v,w]∧At K G d v∧At K G e w:=by simp only[aP]at a;obtain⟨v,r,rfl,h,w,bF,rfl,h',rfl⟩:=a;exact⟨v,w,rfl,h,h'⟩
theorem UM(a5:F.K=X.K):mH F (fun xs H Q=>∃x n,xs=[x]∧D8 X.K x H n∧Q (.int n) H) dC:=by
 intro σ ρ G H xs ds Q r al k;unfold dC at k
 split at k
 ·rename_i x;obtain⟨v,rfl,bp⟩:=al.one;simp only[At]at bp;subst bp
  split at k
  ·rename_i ai;exact⟨_,x.length,rfl,⟨adB ai (by decide),rfl⟩,k _ H G r (cq.refl _ _) (by simp only[At])⟩
  ·exact k.elim
 ·rename_i ys;obtain⟨v,rfl,bp⟩:=al.one;simp only[At]at bp;obtain⟨q,xs,rfl,h,al⟩:=bp;rw[al.length]at k;exact⟨_,xs.length,rfl,.inl ⟨xs,b7.of (r.aM.sub _ _ h),rfl⟩,k _ H G r (cq.refl _ _) (by simp only[At])⟩
 ·rename_i ys;obtain⟨v,rfl,bp⟩:=al.one;simp only[At]at bp;obtain⟨q,xs,rfl,h,al⟩:=bp;rw[al.length]at k;rw[a5]at h;exact⟨_,xs.length,rfl,.inl ⟨xs,b7.mono r.aM.sub h,rfl⟩,k _ H G r (cq.refl _ _) (by simp only[At])⟩
 ·rename_i ys;obtain⟨v,rfl,bp⟩:=al.one;simp only[At]at bp;obtain⟨q,xs,rfl,h,al⟩:=bp;rw[al.length]at k;exact⟨_,xs.length,rfl,.inr ⟨xs,c2.of (r.aM.sub _ _ h),rfl⟩,k _ H G r (cq.refl _ _) (by simp only[At])⟩
 ·rename_i ys;obtain⟨v,rfl,bp⟩:=al.one;simp only[At]at bp;obtain⟨q,xs,rfl,h,al⟩:=bp;rw[al.length]at k;rw[a5]at h;exact⟨_,xs.length,rfl,.inr ⟨xs,c2.mono r.aM.sub h,rfl⟩,k _ H G r (cq.refl _ _) (by simp only[At])⟩
 ·exact k.elim
noncomputable def uB:D→Option String
 |.non=>some "NoneType"
 |.aF _=>some "bool"
 |.int _=>some "int"
 |.str _=>some "str"
 |.lst _=>some "list"
 |.cJ _=>some "list"
 |.tup _=>some "tuple"
 |.dB _=>some "tuple"
 |.dA _ _=>some "dict"
 |.bx _ _=>some "dict"
 |_=>none
def C4(T fa:String):Bool:=T==fa||(T=="bool"&&fa=="int")
def fx(fa:String)(d:D):R D:=match uB d with
 |some T=>.ok (.aF (C4 T fa))
 |none=>.bad
noncomputable def pa(K:PySem.W.Frag)(fa:String):Prop:=∀T,T="NoneType"∨T="bool"∨T="int"∨T="str"∨T="list"∨T="tuple"∨T="dict"→PySem.W.kitOne K (.type T) (.type fa)=some (C4 T fa)
theorem Lb(K:PySem.W.Frag):pa K "int":=fun T h=>by rcases h with rfl|rfl|rfl|rfl|rfl|rfl|rfl<;>kernel_rfl
theorem La(K:PySem.W.Frag):pa K "bool":=fun T h=>by rcases h with rfl|rfl|rfl|rfl|rfl|rfl|rfl<;>kernel_rfl
theorem Lc(K:PySem.W.Frag):pa K "str":=fun T h=>by rcases h with rfl|rfl|rfl|rfl|rfl|rfl|rfl<;>kernel_rfl
theorem uy(K:PySem.W.Frag):pa K "list":=fun T h=>by rcases h with rfl|rfl|rfl|rfl|rfl|rfl|rfl<;>kernel_rfl
theorem uz(K:PySem.W.Frag):pa K "tuple":=fun T h=>by rcases h with rfl|rfl|rfl|rfl|rfl|rfl|rfl<;>kernel_rfl
theorem RF{pins:List (ada×Obj)}{σ :St}{H G:ah}{s:ac4}{Q:ac1→ac4→Prop}{E:ac1→ac4→Prop}{d:D}{x:V}{u:ac1}{T fa:String}{k:Bool}(I:Inv X pins σ H s)(bh:Sub G H)(at':At X.K G d x)(bH:RelV x u)(e:uB d=some T)(tt:PySem.W.kitOne X.K (.type T) (.type fa)=some k)(h:∀cb,Q (.bool k) { s with toks:=cb }):adm (adu X.prog X.w) X.A (call (.builtin "isinstance") [u,.type fa]) Q E s:=by
 cases d with
 |non=>cases e;simp only[At]at at';subst at';cases bH;exact PySem.W.kia_one PySem.W.kitx_none I.fY afp tt (fun z=>nomatch z) h
 |aF b=>cases e;simp only[At]at at';subst at';cases bH;exact PySem.W.kia_one PySem.W.kitx_bool I.fY afp tt (fun z=>nomatch z) h
 |int b=>cases e;simp only[At]at at';subst at';obtain⟨t,rfl⟩:=bH;exact PySem.W.kia_one PySem.W.kitx_int I.fY afp tt (fun z=>nomatch z) h
 |str b=>cases e;simp only[At]at at';subst at';obtain⟨t,rfl⟩:=bH;exact PySem.W.kia_one PySem.W.kitx_str I.fY afp tt (fun z=>nomatch z) h
 |lst ds=>cases e;simp only[At]at at';obtain⟨q,xs,rfl,aR,_⟩:=at';cases bH;obtain⟨its,_,⟨o,n,aq,aD,_⟩,_⟩:=I.list (b7.of (bh _ _ aR));exact PySem.W.kia_one PySem.W.kitx_list I.fY ⟨o,aq,aD⟩ tt (fun z=>nomatch z) h
 |cJ ds=>cases e;simp only[At]at at';obtain⟨q,xs,rfl,aR,_⟩:=at';cases bH;obtain⟨its,_,⟨o,n,aq,aD,_⟩,_⟩:=I.list (b7.mono bh aR);exact PySem.W.kia_one PySem.W.kitx_list I.fY ⟨o,aq,aD⟩ tt (fun z=>nomatch z) h
 |tup ds=>cases e;simp only[At]at at';obtain⟨q,xs,rfl,aR,_⟩:=at';cases bH;obtain⟨its,_,⟨o,aq,aD,_⟩,_⟩:=I.tuple (c2.of (bh _ _ aR));exact PySem.W.kia_one PySem.W.kitx_tuple I.fY ⟨o,aq,aD⟩ tt (fun z=>nomatch z) h
 |dB ds=>cases e;simp only[At]at at';obtain⟨q,xs,rfl,aR,_⟩:=at';cases bH;obtain⟨its,_,⟨o,aq,aD,_⟩,_⟩:=I.tuple (c2.mono bh aR);exact PySem.W.kia_one PySem.W.kitx_tuple I.fY ⟨o,aq,aD⟩ tt (fun z=>nomatch z) h
 |dA ks ds=>cases e;simp only[At]at at';obtain⟨q,xs,rfl,aR,_⟩:=at';cases bH;obtain⟨_,_,vs,_,o,es,bN,h1,h2,_⟩:=(show eK X.prog X.w H s.heap q (.dA xs)from I.bL q _ (bh _ _ aR));exact PySem.W.kia_one PySem.W.kitx_dict I.fY ⟨o,h1,h2.1⟩ tt (fun z=>nomatch z) h
 |bx ks ds=>cases e;simp only[At]at at';obtain⟨q,xs,rfl,aR,_⟩:=at';cases bH;obtain⟨_,_,zs,_,o,es,bN,h1,h2,_⟩:=(show eK X.prog X.w H s.heap q (.bx xs)from I.bL q _ (bh _ _ aR));exact PySem.W.kia_one PySem.W.kitx_dict I.fY ⟨o,h1,h2.1⟩ tt (fun z=>nomatch z) h
 |ins C ns ds=>cases e
 |oa C=>cases e
theorem YP{d:D}{T:String}(e:uB d=some T):T="NoneType"∨T="bool"∨T="int"∨T="str"∨T="list"∨T="tuple"∨T="dict":=by cases d<;>cases e<;>simp
noncomputable def Ws(F:bG)(fa:String):List V→ah→cX→Prop:=fun xs H Q=>∃G d x T,Sub G H∧xs=[x,.ty fa]∧At F.K G d x∧uB d=some T∧Q (.aF (C4 T fa)) H
theorem Nd{fa:String}(a5:F.K=X.K)(tt:pa X.K fa):gT X (.builtin "isinstance") (Ws F fa):=by intro pins s σ H xs us Q I r h;obtain⟨G,d,x,T,bh,rfl,a,e,q⟩:=h;obtain⟨u,eQ,rfl,bH,eD⟩:=vals2 r;obtain rfl:eQ=afd fa:=eD;rw[a5]at a;exact RF I bh a bH e (tt T (YP e)) fun cb=>⟨.aF _,H,I.tok cb,rfl,q⟩
noncomputable def aG:D→D→R D
 |.lst xs,.int i=>match gI xs i with|some d=>.ok d|none=>.bad
 |.cJ xs,.int i=>match gI xs i with|some d=>.ok d|none=>.bad
 |.tup xs,.int i=>match gI xs i with|some d=>.ok d|none=>.bad
 |.dB xs,.int i=>match gI xs i with|some d=>.ok d|none=>.bad
 |.str x,.int i=>if x.length≤1000000 then match gI x.cps.toList i with|some c=>.ok (.str ⟨#[c]⟩)|none=>.bad else .bad
 |_,_=>.bad
theorem vb{K:PySem.W.Frag}{G:ah}{ds:List D}{xs:List V}{i:Int}{d:D}(q:aP K G ds xs)(e:gI ds i=some d):∃v,gI xs i=some v∧At K G d v:=by
 unfold gI at e ⊢;rw[q.length]at e;cases j9:mc xs.length i with
 |none=>rw[j9]at e;cases e
 |some j=>rw[j9]at e;obtain⟨v,aq,a⟩:=q.get e;exact⟨v,aq,a⟩
theorem UL(a5:F.K=X.K):hv F (JM X.K) aG:=by
 intro σ ρ G H x y a8 gj Q r b9 c3 k;unfold aG at k
 split at k
 ·rename_i ds i;simp only[At]at b9 c3;obtain⟨p,xs,e,h,q⟩:=b9
  split at k
  ·rename_i d eF;obtain⟨v,ev,bp⟩:=vb q eF;exact .inl ⟨p,xs,i,v,e,c3,b7.of (r.aM.sub _ _ h),ev,k _ H G r (cq.refl _ _) bp⟩
  ·exact k.elim
 ·rename_i ds i;simp only[At]at b9 c3;obtain⟨p,xs,e,h,q⟩:=b9
  split at k
  ·rename_i d eF;obtain⟨v,ev,bp⟩:=vb q eF;have h':=h;rw[a5]at h';exact .inl ⟨p,xs,i,v,e,c3,b7.mono r.aM.sub h',ev,k _ H G r (cq.refl _ _) bp⟩
  ·exact k.elim
 ·rename_i ds i;simp only[At]at b9 c3;obtain⟨p,xs,e,h,q⟩:=b9
  split at k
  ·rename_i d eF;obtain⟨v,ev,bp⟩:=vb q eF;exact .inr (.inl ⟨p,xs,i,v,e,c3,c2.of (r.aM.sub _ _ h),ev,k _ H G r (cq.refl _ _) bp⟩)
  ·exact k.elim
 ·rename_i ds i;simp only[At]at b9 c3;obtain⟨p,xs,e,h,q⟩:=b9
  split at k
  ·rename_i d eF;obtain⟨v,ev,bp⟩:=vb q eF;have h':=h;rw[a5]at h';exact .inr (.inl ⟨p,xs,i,v,e,c3,c2.mono r.aM.sub h',ev,k _ H G r (cq.refl _ _) bp⟩)
  ·exact k.elim
 ·rename_i z i;simp only[At]at b9 c3
  split at k
  ·rename_i ai
   split at k
   ·rename_i c ec;exact .inr (.inr ⟨z,i,c,b9,c3,adB ai (by decide),ec,k _ H G r (cq.refl _ _) (by simp only[At])⟩)
   ·exact k.elim
  ·exact k.elim
 ·exact k.elim
end
section
variable{X:aQ}{F:bG}{e a b c:adI}{es:List adI}{pos p:Pos}{m n:aN}{ma:aY}
noncomputable def fC{α:Type}(xs:List α)(lo ar:Option Int):List α:=(xs.drop (ej.eV xs.length 0 lo)).take (ej.eV xs.length xs.length ar-ej.eV xs.length 0 lo)
def ph(x:Str)(lo ar:Option Int):Str:=⟨(fC x.cps.toList lo ar).toArray⟩
theorem Yb(lo ar:Option Int)(n:Nat):agC lo ar 1 n=(adf (ej.eV n n ar-ej.eV n 0 lo)).map (ej.eV n 0 lo+·):=by
 rw[←sliceRange_one];unfold agC;simp only[show(1:Int)>0 by decide,if_true]
 congr 1
 ·cases lo with
  |none=>rfl
  |some i=>
   show max 0 (min (if i<0 then i+(n:Int)else i) (n:Int))=((if i<0 then(i+(n:Int)).toNat else min i.toNat n:Nat):Int)
   split<;>omega
 ·cases ar with
  |none=>rfl
  |some i=>
   show max 0 (min (if i<0 then i+(n:Int)else i) (n:Int))=((if i<0 then(i+(n:Int)).toNat else min i.toNat n:Nat):Int)
   split<;>omega
theorem JZ(n:Nat)(v:Option Int){d:Nat}(hd:d≤n):ej.eV n d v≤n:=by
 cases v with
 |none=>exact hd
 |some i=>
  show(if i<0 then(i+(n:Int)).toNat else min i.toNat n)≤n
  split<;>omega
theorem XX(x:Str)(lo ar:Option Int):aiW x lo ar=ph x lo ar:=by
 have ai:x.cps.toList.length=x.length:=by simp[Str.length]
 unfold aiW ph fC;rw[Yb,ai]
 split
 ·rename_i h;have h:ej.eV x.length x.length ar-ej.eV x.length 0 lo=x.length:=by simpa using h
  have h1:=JZ x.length ar (ac6 _);have h2:ej.eV x.length 0 lo=0∨x.length=0:=by omega
  have e:(x.cps.toList.drop (ej.eV x.length 0 lo)).take (ej.eV x.length x.length ar-ej.eV x.length 0 lo)=x.cps.toList:=by
   rw[h];rcases h2 with z|z
   ·rw[z,List.drop_zero,aeP (by omega)]
   ·have cI:x.cps.toList=[]:=List.length_eq_zero_iff.mp (by omega);rw[cI];simp
  rw[e]
 ·rw[pick_run]
noncomputable def JR:V→Option Int→Option Int→ah→cX→Prop:=fun x lo ar H Q=>∃z,x=.str z∧z.length≤adq∧Q (.str (ph z lo ar)) H
theorem Jj{v:ac1}{o:Option Int}(h:IsPart v o):∃l:Option (Int×Tok),v=partValue l∧l.map (·.1)=o:=by
 cases h with
 |none=>exact⟨none,rfl,rfl⟩
 |int i t=>exact⟨some (i,t),rfl,rfl⟩
theorem XT:o_ X JR:=by
 intro pins s σ H x v kE kF lo ar cV Q I bH hs pl pu h;obtain⟨z,rfl,bo,q⟩:=h;obtain⟨t,rfl⟩:=bH;obtain⟨l,rfl,el⟩:=Jj pl;obtain⟨u,rfl,n_⟩:=Jj pu;refine⟨"str",_,F.slot_str_getitem.lookup,typeIs_str s z t,wpAny_getItem_str_slice (l:=l) (u:=u) (st:=none) ?_ rfl ?_⟩
 ·obtain⟨o,h1,h2,h3⟩:=hs;exact⟨o,h1,h2,h3⟩
 ·have e:aiW z lo ar=ph z lo ar:=XX z lo ar;have fin:∀t' k,gw X pins σ Q (.str (aiW z lo ar) t') { s with toks:=k }:=fun t' k=>⟨.str (ph z lo ar),H,I.tok k,⟨t',by rw[e]⟩,q⟩;unfold aiW at fin;subst el n_;exact post_val_or_str ⟨adB (Txt.slice_le z _ _) bo,fin⟩
abbrev nP:=av→R (Option Int)
def ot:nP:=fun _=>.ok none
def intD:D→R (Option Int)
 |.int i=>.ok (some i)
 |_=>.bad
def lb(m:aN):nP:=fun ρ=>(m ρ).bind intD
noncomputable def R1(F:bG)(G H:ah)(σ :St)(ρ:av)(Q:Option Int→ah→Prop):R (Option Int)→Prop
 |.ok o=>∀H' G',Rel F G' H' σ ρ→cq G H G' H'→Q o H'
 |.exc c=>km F c
 |.bad=>False
def Dd(F:bG)(m:nP):bX:=fun σ H Q=>∃G ρ,Rel F G H σ ρ∧R1 F G H σ ρ Q (m ρ)
noncomputable def lg(f:D→Option Int→Option Int→R D)(m:aN)(lo ar:nP):aN:=fun ρ=>(m ρ).bind fun d=>(lo ρ).bind fun l=>(ar ρ).bind fun h=>f d l h
noncomputable def ky(d:D)(l h:Option Int):R D:=match d with
 |.lst xs=>.ok (.lst (fC xs l h))
 |.cJ xs=>.ok (.lst (fC xs l h))
 |.str x=>if x.length≤1000000 then .ok (.str (ph x l h))else .bad
 |_=>.bad
theorem aP.cut{K:PySem.W.Frag}{G:ah}{ds:List D}{xs:List V}(q:aP K G ds xs)(l h:Option Int):aP K G (fC ds l h) (qQ xs l h):=by unfold fC qQ;rw[q.length];exact(q.drop _).take _
theorem Rd(a5:F.K=X.K){lo ar:nP}:eR (cZ F (lg ky m lo ar)) (K5 (fun x lo ar H Q=>JQ X.K x lo ar H Q∨JR x lo ar H Q) (cZ F m) (Dd F lo) (Dd F ar)):=by
 rintro σ H Q ⟨G,ρ,r,h⟩;unfold lg at h;refine⟨G,ρ,r,?_⟩;cases aw:m ρ with
 |bad=>rw[aw]at h;exact h.elim
 |exc c=>rw[aw]at h;exact h
 |ok d=>
  rw[aw,R.bM]at h;intro x H1 aW az s1 b9;refine⟨aW,ρ,az,?_⟩;cases el:lo ρ with
  |bad=>rw[el]at h;exact h.elim
  |exc c=>rw[el]at h;exact h
  |ok l=>
   rw[el,R.bM]at h;intro bk dg bg s2;refine⟨dg,ρ,bg,?_⟩;cases sL:ar ρ with
   |bad=>rw[sL]at h;exact h.elim
   |exc c=>rw[sL]at h;exact h
   |ok u=>
    rw[sL,R.bM]at h;intro dy gG d9 s3;have up:=s1.trans (s2.trans s3);have qJ:=(b9.mono s2.g).mono s3.g;cases d with
    |lst ds=>simp only[At]at qJ;obtain⟨q,xs,rfl,aR,al⟩:=qJ;refine .inl ⟨q,xs,rfl,b7.of (d9.aM.sub _ _ aR),fun cP aK=>?_⟩;refine h (.ref cP) _ _ (d9.lay aK) (up.trans (cq.lay d9.aM.sub aK)) ?_;simp only[At];exact⟨cP,_,rfl,et,(al.cut l u).mono (Sub.upd (d9.aM.sub.gone aK))⟩
    |cJ ds=>simp only[At]at qJ;obtain⟨q,xs,rfl,aR,al⟩:=qJ;have od:=aR;rw[a5]at od;refine .inl ⟨q,xs,rfl,b7.mono d9.aM.sub od,fun cP aK=>?_⟩;refine h (.ref cP) _ _ (d9.lay aK) (up.trans (cq.lay d9.aM.sub aK)) ?_;simp only[At];exact⟨cP,_,rfl,et,(al.cut l u).mono (Sub.upd (d9.aM.sub.gone aK))⟩
    |str z=>
     simp only[At]at qJ;have h:ib F G H σ ρ Q (if z.length≤1000000 then .ok (.str (ph z l u))else .bad):=h
     split at h
     ·rename_i bo;exact .inr ⟨z,qJ,adB bo (by decide),h _ dy gG d9 up (by simp only[At])⟩
     ·exact h.elim
    |_=>exact h.elim
def oM:List D→R D
 |[.int i]=>if i.natAbs.log2<1920 then .ok (.str (toString i))else .bad
 |_=>.bad
theorem UR:mH F (fun xs H Q=>∃i,xs=[.int i]∧i.natAbs.log2<1920∧Q (.str (toString i)) H) oM:=by
 intro σ ρ G H xs ds Q r al k;unfold oM at k
 split at k
 ·rename_i i
  split at k
  ·rename_i ai;exact⟨i,al.ints1,ai,k _ H G r (cq.refl _ _) (by simp only[At])⟩
  ·exact k.elim
 ·exact k.elim
theorem Nc:gT X (.type "int") (fun xs H Q=>(∃i,xs=[.int i]∧Q (.int i) H)∨∃x i,xs=[.str x]∧x.length≤640∧intText? x=some i∧Q (.int i) H):=by
 intro pins s σ H xs us Q I r h;rcases h with⟨i,rfl,q⟩|⟨x,i,rfl,ai,ar,q⟩
 ·obtain⟨u,rfl,t,rfl⟩:=vals1 r;exact call_int_int ⟨.int i,H,I,⟨_,rfl⟩,q⟩
 ·obtain⟨u,rfl,t,rfl⟩:=vals1 r;exact PySem.W.KIN.call_text ar ai ⟨.int i,H,I.tok _,⟨_,rfl⟩,q⟩
end
end bt
namespace a3
open PySem PySem.Spec
section
variable{prog:adp}{w:adJ}{A:adG}{E:ac1→ac4→Prop}{s:ac4}
theorem Ul{it t:ada}{i:Nat}{items:Array ac1}{x:ac1}{Q:ac1→ac4→Prop}(hit:s.heap.IsTupleIter it t i)(bT:s.heap.IsTuple t items)(ax:items[i]?=some x)(ef:∀h',h'.IsTupleIter it t (i+1)→adZ it s.heap h'→Q x { s with heap:=h' }):adm (adu prog w) A (adO (.ref it)) Q E s:=by
 obtain⟨o,aE,aB,hd⟩:=id hit;obtain⟨ol,q_,_,nl,q6⟩:=bT;unfold adO
 refine acZ (aeo (name:=agc "__next__") hit.typeIs aeR
  (ad4 aeR hit.typeIs agD ?_ (agq _)))
 show adm _ _ (field (.ref it) 0>>=_) _ _ s;refine acZ (aeN aE hd (x:=.ref t) rfl ?_);show adm _ _ (if(adx t==aeh)=true then _ else _) _ _ s;rw[if_neg (show¬((adx t==aeh)=true)from adC)];show adm _ _ (field (.ref it) 1>>=_) _ _ s;refine acZ (aeN aE hd (x:=.int i 0) rfl ?_);show adm _ _ (seqItems? (.ref t)>>=_) _ _ s;refine acZ (ad_ q_ q6 ?_);simp only[aev,ax];refine acZ (agV aE hd (by simp) (ac3 ⟨x,rfl,ac3 (ef _ ?_ (aeO ..))⟩));exact⟨_,aeV _ aE (ahY (afQ hd _)),(Obj.cls_mapFields ..).trans aB,by
  rw[afQ hd];simp[aiv]⟩
theorem Uk{it t:ada}{i:Nat}{items:Array ac1}{Q:ac1→ac4→Prop}(bD:A.handled=none)(hit:s.heap.IsTupleIter it t i)(bT:s.heap.IsTuple t items)(ax:items[i]?=none)(h_:∀h' e,Heap.ExtBut it s.heap h'→(∃o,h'.get? e=some o∧o.cls=.type "StopIteration")→E (.ref e) { s with heap:=h' }):adm (adu prog w) A (adO (.ref it)) Q E s:=by
 obtain⟨o,aE,aB,hd⟩:=id hit;obtain⟨ol,q_,_,nl,q6⟩:=bT;unfold adO
 refine acZ (aeo (name:=agc "__next__") hit.typeIs aeR
  (ad4 aeR hit.typeIs agD ?_ (agq _)))
 show adm _ _ (field (.ref it) 0>>=_) _ _ s;refine acZ (aeN aE hd (x:=.ref t) rfl ?_);show adm _ _ (if(adx t==aeh)=true then _ else _) _ _ s;rw[if_neg (show¬((adx t==aeh)=true)from adC)];show adm _ _ (field (.ref it) 1>>=_) _ _ s;refine acZ (aeN aE hd (x:=.int i 0) rfl ?_);show adm _ _ (seqItems? (.ref t)>>=_) _ _ s;refine acZ (ad_ q_ q6 ?_);simp only[aev,ax];refine acZ (af0 (acZ (agV aE hd (by simp) ?_)));show adm _ _ (newExc (.type "StopIteration") []>>=_) _ _ _;refine acZ ?_;simp only[newExc,newTuple];refine acZ (aeJ ?_ (by size_fits));refine acZ (m:=agW _ _) (wpAny_of_eq (a:=aeh) (by first|rfl|(simp only[agW];rfl)) ?_);refine aeJ ?_ (by size_fits);simp only[raiseNew];refine acZ (wpAny_handled ?_)
 first|rw[show A.in1.handled=none from bD]|rw[bD]
 refine acZ (ac3 (wpAny_throw ?_));exact h_ _ _ (((aeO ..).extBut.push _).push _) ⟨_,ac9 _ rfl,rfl⟩
theorem Fe(bD:A.handled=none)(it l:ada)(kf:l≠it)(items:Array ac1) :
  Draws prog w A it [it,l] items.size (fun i v=>items[i]?=some v) (fun i h=>h.IsTupleIter it l i∧h.IsTuple l items) where
 live:=fun _ _ st=>let⟨o,aE,_⟩:=st.1;⟨o,aE⟩
 frame:=fun _ _ _ st aH=>⟨st.1.at fun o e=>aH it (by simp) o e,st.2.at fun o e=>aH l (by simp) o e⟩
 item:=fun i s Q E ar st ef=>by refine Ul st.1 st.2 (x:=items[i]) (by simp[ar]) fun h' q9 jF=>?_;exact ef _ h' s.toks (by simp[ar]) ⟨q9,st.2.extBut jF.extBut kf⟩ jF
 done:=fun s Q E st h_=>Uk bD st.1 st.2 (by simp) h_
structure nW(z TI bX bA bI:ada)(f1 f2:List ada):Prop where
 TIz:TI≠z
 TOz:bX≠z
 TITO:TI≠bX
 TIi1:TI≠bA
 TIi2:TI≠bI
 TOi1:bX≠bA
 TOi2:bX≠bI
 i1z:bA≠z
 i2z:bI≠z
 i12:bA≠bI
 z7:z∉f1
 Fw:bX∉f1
 OE:bI∉f1
 z9:z∉f2
 z8:bX∉f2
 Fx:bA∉f2
theorem j_{bc:List ada}{n:Nat}{P:Nat→ac1→Prop}{St:Nat→adX→Prop}{it b:ada}{h h':adX}{i:Nat}(D:Draws prog w A it bc n P St)(st:St i h)(hs:adZ b h h')(J:b∉bc):St i h':=
 D.frame i h h' st fun c aB o e=>hs.extBut c o (fun z=>J (z▸aB)) e
theorem ZX {z TI bX bA bI:ada} {f1 f2:List ada} {n1 n2 i:Nat} {kO kP:Nat→ac1→Prop} {iE iF:Nat→adX→Prop} {a b:ac1} {Q:ac1→ac4→Prop} (gv:Draws prog w A bA f1 n1 kO iE) (f6:Draws prog w A bI f2 n2 kP iF) (ap:nW z TI bX bA bI f1 f2)(bo:ahZ s.heap z TI bX .none) (fv:afc s.heap TI (.ref bA) (.ref bI)) (fP:afc s.heap bX a b) (h1:iE i s.heap) (h2:iF i s.heap) (dZ:i<n1) (cP:i<n2)(ef:∀x y h' cb,kO i x→kP i y→ahZ h' z TI bX (aiv s.heap.objs.size)→afc h' bX x y→iE (i+1) h'→iF (i+1) h'→afc h' s.heap.objs.size x y→h'.objs.size=s.heap.objs.size+1→
    (∀c o,c≠z→c≠bX→c≠bA→c≠bI→s.heap.get? c=some o→h'.get? c=some o)→Q (.ref s.heap.objs.size) { s with heap:=h',toks:=cb }) :
  adm (adu prog w) A (ahb.«zip.__next__» ⟨[.ref z],[]⟩) (fun fin s'=>∃v,fin=.done (.ret v)∧Q v s') E s:=by
 show adm _ _ (field (.ref z) 2>>=_) _ _ _;refine acZ (aeN bo rfl (x:=.bool false) rfl ?_);show adm _ _ (field (.ref z) 3>>=_) _ _ _;refine acZ (aeN bo rfl (x:=.ref TI) rfl ?_);refine acZ (ad_ fv rfl ?_);show adm _ _ (aef (.ref z)>>=_) _ _ _;refine acZ ?_;unfold aef;refine acZ (aeN bo rfl (x:=.none) rfl (ac3 ?_));simp only[if_true];refine acZ (af0 ?_);refine acZ (aeN bo rfl (x:=.ref bX) rfl ?_);refine acZ (aeW bo (by simp) fun jJ oi k6=>?_);replace oi:ahZ jJ z TI bX .ellipsis:=oi;refine acZ ?_;simp only[agg,ah0,agB,aiz];refine acZ (acZ (ahk ?_));show adm _ _ (adO (.ref bA)>>=_) _ _ _;refine acZ (gv.item i _ _ _ dZ (j_ gv h1 k6 ap.z7) fun x k7 Lf ax KH jI=>ac3 ?_);have sV:afc k7 bX a b:=jI.extBut _ _ ap.TOi1 (k6.extBut _ _ ap.TOz fP);refine acZ (ad_ sV rfl ?_);refine acZ (agm sV fun mb vP kh=>?_);replace vP:afc mb bX x b:=vP;refine acZ (wpAny_letGo (ac3 ?_));refine acZ (acZ (ahk ?_));show adm _ _ (adO (.ref bI)>>=_) _ _ _;have X6:iF i mb:=j_ f6 (j_ f6 (j_ f6 h2 k6 ap.z9) jI ap.Fx) kh ap.z8;refine acZ (f6.item i _ _ _ cP X6 fun y te abQ bq Yc og=>ac3 ?_);have GU:afc te bX x b:=og.extBut _ _ ap.TOi2 vP;refine acZ (ad_ GU rfl ?_);refine acZ (agm GU fun hl vQ oh=>?_);replace vQ:afc hl bX x y:=vQ;refine acZ (wpAny_letGo (ac3 (ac3 ?_)));refine acZ (ad_ vQ rfl ?_);refine acZ (wpAny_newTuple ?_);have hsz:hl.objs.size=s.heap.objs.size:=by rw[oh.1,og.1,kh.1,jI.1,k6.1]
 have Hl:ahZ hl z TI bX .ellipsis:=oh.extBut _ _ ap.TOz.symm (og.extBut _ _ ap.i2z.symm (kh.extBut _ _ ap.TOz.symm (jI.extBut _ _ ap.i1z.symm oi)));have PR:∀c o,c≠z→c≠bX→c≠bA→c≠bI→s.heap.get? c=some o→hl.get? c=some o:=fun c o b0 c9 e2 kT e=>
  oh.extBut _ _ c9 (og.extBut _ _ kT (kh.extBut _ _ c9 (jI.extBut _ _ e2 (k6.extBut _ _ b0 e))))
 have X5:iE (i+1) hl:=j_ gv (j_ gv (j_ gv KH kh ap.Fw) og ap.OE) oh ap.Fw;have X7:iF (i+1) hl:=j_ f6 Yc oh ap.z8;have Hi:z<hl.objs.size:=ac_ Hl;show adm _ _ (afD (.ref z) (.ref hl.objs.size)>>=_) _ _ _;refine acZ ?_;unfold afD;have Qu:ahZ (hl.push { cls:=.type "tuple",data:=.seq #[x,y] }) z TI bX .ellipsis:=ac0 _ Hl;refine acZ (aeW Qu (by simp) fun Qw AO AH=>?_);replace AO:ahZ Qw z TI bX (aiv hl.objs.size):=AO;refine aeW AO (by simp) fun tf vZ AI=>?_;replace vZ:ahZ tf z TI bX (aiv hl.objs.size):=vZ;have up:∀c o,c≠z→hl.get? c=some o→tf.get? c=some o:=fun c o b0 e=>AI.extBut _ _ b0 (AH.extBut _ _ b0 (ac0 _ e));have GW:afc tf hl.objs.size x y:=AI.extBut _ _ (aeU Hi) (AH.extBut _ _ (aeU Hi) (ac9 _ rfl));have Hh:tf.objs.size=hl.objs.size+1:=by rw[AI.1,AH.1,adK]
 rw[hsz]at vZ GW Hh;refine ac3 ⟨_,rfl,?_⟩;show Q (.ref hl.objs.size) _;rw[hsz];exact ef x y tf _ ax bq vZ (up _ _ ap.TOz vQ) (gv.frame _ _ _ X5 fun c aB o e=>up c o (fun q=>ap.z7 (q▸aB)) e) (f6.frame _ _ _ X7 fun c aB o e=>up c o (fun q=>ap.z9 (q▸aB)) e) GW Hh fun c o b0 c9 e2 kT e=>up c o b0 (PR c o b0 c9 e2 kT e)
theorem ZW{z TI bX bA bI:ada}{f1 f2:List ada}{n1 n2 i:Nat}{kO kP:Nat→ac1→Prop}{iE iF:Nat→adX→Prop}{a b:ac1}{Q:Fin→ac4→Prop}(gv:Draws prog w A bA f1 n1 kO iE)(f6:Draws prog w A bI f2 n2 kP iF)(ap:nW z TI bX bA bI f1 f2)(bo:ahZ s.heap z TI bX .none)(fv:afc s.heap TI (.ref bA) (.ref bI))(fP:afc s.heap bX a b)(h1:iE i s.heap)(h2:iF i s.heap)(Ar:i=n1∨(i<n1∧i=n2))(h_:∀h' e cb,(∀c o,c≠z→c≠bX→c≠bA→c≠bI→s.heap.get? c=some o→h'.get? c=some o)→(∃o,h'.get? e=some o∧o.cls=.type "StopIteration")→E (.ref e) { s with heap:=h',toks:=cb }) :
  adm (adu prog w) A (ahb.«zip.__next__» ⟨[.ref z],[]⟩) Q E s:=by
 show adm _ _ (field (.ref z) 2>>=_) _ _ _;refine acZ (aeN bo rfl (x:=.bool false) rfl ?_);show adm _ _ (field (.ref z) 3>>=_) _ _ _;refine acZ (aeN bo rfl (x:=.ref TI) rfl ?_);refine acZ (ad_ fv rfl ?_);show adm _ _ (aef (.ref z)>>=_) _ _ _;refine acZ ?_;unfold aef;refine acZ (aeN bo rfl (x:=.none) rfl (ac3 ?_));simp only[if_true];refine acZ (af0 ?_);refine acZ (aeN bo rfl (x:=.ref bX) rfl ?_);refine acZ (aeW bo (by simp) fun jJ oi k6=>?_);replace oi:ahZ jJ z TI bX .ellipsis:=oi;refine acZ ?_;simp only[agg,ah0,agB,aiz];refine acZ (acZ (ahk ?_));show adm _ _ (adO (.ref bA)>>=_) _ _ _;have Ku:iE i jJ:=j_ gv h1 k6 ap.z7;rcases Ar with aq|⟨dZ,aD⟩
 ·subst aq;refine acZ (gv.done _ _ _ Ku fun k7 e jI he=>?_);obtain⟨Bv,pL,sX⟩:=he;have Hj:ahZ k7 z TI bX .ellipsis:=jI _ _ ap.i1z.symm oi;have As:e≠z:=fun x=>by subst x;rw[Hj]at pL;cases pL;simp at sX
  refine aeW Hj (by simp) fun mb _ kh=>h_ mb e s.toks (fun c o b0 _ e2 _ x=>kh.extBut _ _ b0 (jI _ _ e2 (k6.extBut _ _ b0 x))) ⟨Bv,kh.extBut _ _ As pL,sX⟩
 ·subst aD;refine acZ (gv.item _ _ _ _ dZ Ku fun x k7 Lf ax KH jI=>ac3 ?_);have sV:afc k7 bX a b:=jI.extBut _ _ ap.TOi1 (k6.extBut _ _ ap.TOz fP);refine acZ (ad_ sV rfl ?_);refine acZ (agm sV fun mb vP kh=>?_);refine acZ (wpAny_letGo (ac3 ?_));refine acZ (acZ (ahk ?_));show adm _ _ (adO (.ref bI)>>=_) _ _ _;refine acZ (f6.done _ _ _ (j_ f6 (j_ f6 (j_ f6 h2 k6 ap.z9) jI ap.Fx) kh ap.z8) fun te e og he=>?_);obtain⟨Bv,pL,sX⟩:=he;have Hk:ahZ te z TI bX .ellipsis:=og _ _ ap.i2z.symm (kh.extBut _ _ ap.TOz.symm (jI.extBut _ _ ap.i1z.symm oi));have As:e≠z:=fun x=>by subst x;rw[Hk]at pL;cases pL;simp at sX
  refine aeW Hk (by simp) fun hl _ oh=>h_ hl e Lf (fun c o b0 c9 e2 kT x=>oh.extBut _ _ b0 (og _ _ kT (kh.extBut _ _ c9 (jI.extBut _ _ e2 (k6.extBut _ _ b0 x))))) ⟨Bv,oh.extBut _ _ As pL,sX⟩
theorem JI {z TI bX bA bI:ada} {f1 f2:List ada} {n1 n2 i:Nat} {kO kP:Nat→ac1→Prop} {iE iF:Nat→adX→Prop} {a b:ac1} {Q:Option ac1→ac4→Prop} (gv:Draws prog w A.in1 bA f1 n1 kO iE) (f6:Draws prog w A.in1 bI f2 n2 kP iF) (ap:nW z TI bX bA bI f1 f2)(bo:ahZ s.heap z TI bX .none) (fv:afc s.heap TI (.ref bA) (.ref bI)) (fP:afc s.heap bX a b) (h1:iE i s.heap) (h2:iF i s.heap) (dZ:i<n1) (cP:i<n2)(ef:∀x y h' cb,kO i x→kP i y→ahZ h' z TI bX (aiv s.heap.objs.size)→afc h' bX x y→iE (i+1) h'→iF (i+1) h'→afc h' s.heap.objs.size x y→h'.objs.size=s.heap.objs.size+1→
    (∀c o,c≠z→c≠bX→c≠bA→c≠bI→s.heap.get? c=some o→h'.get? c=some o)→Q (some (.ref s.heap.objs.size)) { s with heap:=h',toks:=cb }) :
  adm (adu prog w) A (ahp (.ref z)) Q E s:=by
 have d4:s.TypeIs (.ref z) "zip":=⟨_,bo,rfl⟩;unfold ahp
 exact acZ (agr (aeo (name:=agc "__next__") d4 agE
  (ad4 agE d4 F.entry_zip_next
    (ZX gv f6 ap bo fv fP h1 h2 dZ cP fun x y h' cb a1 a2 eM gX hG i9 yJ yK Ms=>ac3 (ef x y h' cb a1 a2 eM gX hG i9 yJ yK Ms)) (F.args_zip_next_1 _))))
theorem JH{z TI bX bA bI:ada}{f1 f2:List ada}{n1 n2 i:Nat}{kO kP:Nat→ac1→Prop}{iE iF:Nat→adX→Prop}{a b:ac1}{Q:Option ac1→ac4→Prop}(gv:Draws prog w A.in1 bA f1 n1 kO iE)(f6:Draws prog w A.in1 bI f2 n2 kP iF)(ap:nW z TI bX bA bI f1 f2)(bo:ahZ s.heap z TI bX .none)(fv:afc s.heap TI (.ref bA) (.ref bI))(fP:afc s.heap bX a b)(h1:iE i s.heap)(h2:iF i s.heap)(Ar:i=n1∨(i<n1∧i=n2))(ef:∀h' cb,(∀c o,c≠z→c≠bX→c≠bA→c≠bI→s.heap.get? c=some o→h'.get? c=some o)→Q none { s with heap:=h',toks:=cb }):adm (adu prog w) A (ahp (.ref z)) Q E s:=by
 have d4:s.TypeIs (.ref z) "zip":=⟨_,bo,rfl⟩;unfold ahp
 refine acZ (agr (aeo (name:=agc "__next__") d4 agE
  (ad4 agE d4 F.entry_zip_next (ZW gv f6 ap bo fv fP h1 h2 Ar fun h' e cb aH he=>?_) (F.args_zip_next_1 _))))
 obtain⟨o,aE,aB⟩:=he;refine acZ (aeS (T:="StopIteration") (b:=true) ⟨o,aE,aB⟩ isSubtype_stop ?_);exact ac3 (ef _ _ aH)
end
theorem Inv.uA{X:aQ}{pins:List (ada×Obj)}{σ :St}{H:ah}{s:ac4}{h':adX}{t':Nat}{ch:List ada}(I:Inv X pins σ H s)(k:∀b o,b∉ch→s.heap.get? b=some o→h'.get? b=some o)(hf:∀b∈ch,i5 X pins H b):Inv X pins σ H { s with heap:=h',toks:=t' }:=by
 have oz:∀b u,H b=some u→b∉ch:=fun b u e z=>by rw[(hf b z).1]at e;cases e
 refine I.step (g':=s.gens) (d':=s.drawn) (ch:=ch) (fun b J=>?_) (fun b o _ _ aB e _=>k b o aB e) (fun b o _ _ aB e _=>⟨o.slots,k b o aB e⟩) (fun _ _ _ _ n=>n)
  (fun b o aB e=>⟨o,k b o aB e⟩) (fun _ _ e=>e) (fun _ _ _ e=>e) (fun b ps e=>⟨#[],by rw[e];simp⟩) (fun m hm=>?_) (fun b u e=>?_) I.bare
 ·obtain⟨_,f1,_,fE,f4,hJ⟩:=hf b J;exact⟨fE,f1,f4,hJ⟩
 ·obtain⟨o,es,bN,aE,r⟩:=hm;exact⟨o,es,bN,k _ o (fun z=>(hf _ z).2.1 rfl) aE,r⟩
 ·refine(I.bL b u e).ny (fun c v aB q=>k c v ?_ q) (fun _ q=>q) fun _ _ q=>q;rcases aB with z|z
  ·rw[z];exact oz b u e
  ·exact oz c _ z
theorem Inv.Dq{X:aQ}{pins:List (ada×Obj)}{σ :St}{H:ah}{s:ac4}{h':adX}{t':Nat}{ch:List ada}{T:ada}{xs:List V}{its:List ac1}(I:Inv X pins σ H s)(k:∀b o,b∉ch→s.heap.get? b=some o→h'.get? b=some o)(hf:∀b∈ch,i5 X pins H b)(d4:s.heap.objs.size≤T)(bT:afR h' T its.toArray)(cg:Vals xs its)(bo:xs.length≤adq):Inv X pins σ (upd H T (.tup xs)) { s with heap:=h',toks:=t' }:=by
 have oz:∀b u,H b=some u→b∉ch:=fun b u e z=>by rw[(hf b z).1]at e;cases e
 have aK:H T=none:=I.bL.fresh d4;have neT:∀b o,s.heap.get? b=some o→b≠T:=fun b o e=>ady (adv (ac_ e) d4)
 refine I.step (g':=s.gens) (d':=s.drawn) (ch:=ch) (fun b J=>?_) (fun b o _ _ aB e _=>k b o aB e) (fun b o _ _ aB e _=>⟨o.slots,k b o aB e⟩) (fun b o _ e n=>by rw[dV (neT b o e)];exact n)
  (fun b o aB e=>⟨o,k b o aB e⟩) (fun b ys e=>by rw[dV (jl e aK)];exact e) (fun b _ _ e=>by rw[dV (jl e aK)];exact e) (fun b ps e=>⟨#[],by rw[dV (jl e aK),e];simp⟩) (fun m hm=>?_) (fun b u e=>?_) I.bare
 ·obtain⟨_,f1,_,fE,f4,hJ⟩:=hf b J;exact⟨fE,f1,f4,hJ⟩
 ·obtain⟨o,es,bN,aE,r⟩:=hm;exact⟨o,es,bN,k _ o (fun z=>(hf _ z).2.1 rfl) aE,r⟩
 ·by_cases J:b=T
  ·subst J;rw[et]at e;cases e;exact⟨bo,its,cg,bT⟩
  ·rw[dV J]at e;refine(I.bL b u e).ny (fun c v aB q=>k c v ?_ q) (fun c q=>by rw[dV (jl q aK)];exact q) fun c ys q=>by rw[dV (jl q aK)];exact q
   rcases aB with z|z
   ·rw[z];exact oz b u e
   ·exact oz c _ z
noncomputable def yx(x:Str):It:=⟨fun i _=>i<x.cps.size,fun i H v H'=>H'=H∧∃c,x.cps[i]?=some c∧v=.str ⟨#[c]⟩,fun i _=>i=x.cps.size⟩
theorem Lr{prog:adp}{w:adJ}{A:adG}(bD:A.handled=none)(I:ada)(x:Str)(t:Tok):Walks prog w A I [I] [I] x.cps.size (SignAt x) (fun i h=>h.IsStrIter I (ad1 x) x t i):=by
 unfold ad1;cases ag:x.cps.all (· <128)
 ·rw[if_neg adC];exact Walks.strWide bD I x t
 ·rw[if_pos rfl];exact Walks.strAscii bD I x t
theorem qS{prog:adp}{w:adJ}{A:adG}(bD:A.handled=none)(I:ada)(x:Str)(t:Tok):Draws prog w A I [I] x.cps.size (fun i v=>∃c u,x.cps[i]?=some c∧v=.str ⟨#[c]⟩ u) (fun i h=>h.IsStrIter I (ad1 x) x t i):=by
 unfold ad1;cases ag:x.cps.all (· <128)
 ·rw[if_neg adC];exact Draws.strWide bD I x t
 ·rw[if_pos rfl];exact Draws.strAscii bD I x t
theorem Ya(x:Str):["enumerate","zip","dict_itemiterator","dict_reverseitemiterator","odict_iterator","itertools.zip_longest","itertools.pairwise"].contains (ad1 x)=false:=by
 unfold ad1
 split<;>decide
theorem YJ{P:adp}{w:adJ}{K:PySem.W.Frag}{cj:adI}(it:ada)(x:Str)(t:Tok):Turn P w K cj (yx x) [it] it (fun i h=>h.IsStrIter it (ad1 x) x t i) where
 mem:=by simp
 obj:=fun i h st b J=>by
  have e:b=it:=by simpa using J
  subst e;obtain⟨o,e,c,d⟩:=st;exact⟨o,e,fun v z=>by rw[d]at z;cases z⟩
 keep:=fun i h h' st k=>by obtain⟨o,e,r⟩:=st;exact⟨o,k it (by simp) o e,r⟩
 item:=by intro X dH hw a5 aB i pins s σ H E I hf st aO;subst dH hw a5;have W:=Lr (prog:=X.prog) (w:=X.w) (A:=X.A) (I.ok.hd aB) it x t;refine W.item i s _ _ aO st fun v h' cb bW lF kk=>?_;obtain⟨c,u,q5,rfl⟩:=bW;have a0:Inv X pins σ H { s with heap:=h',toks:=cb }:=I.uA (ch:=[it]) kk hf;obtain⟨o,e,b0,d1⟩:=id lF;exact⟨_,rfl,vN (s:={ s with heap:=h',toks:=cb }) e b0 d1 (Ya x) ⟨.str ⟨#[c]⟩,H,a0,⟨u,rfl⟩,⟨rfl,c,q5,rfl⟩,lF,fun b J=>(hf b J).1⟩⟩
 done:=by intro X dH hw a5 aB i pins s σ H E I hf st aO;subst dH hw a5;have W:=Lr (prog:=X.prog) (w:=X.w) (A:=X.A) (I.ok.hd aB) it x t;have ar:i=x.cps.size:=aO;subst ar;exact W.done s _ _ st fun h' cb kk=>⟨rfl,I.uA (ch:=[it]) kk hf⟩
 self:=fun A i s Q E st h=>by
  unfold ad1 at st;cases ag:x.cps.all (· <128)
  ·rw[ag,if_neg adC]at st;exact wpAny_pyIter_striter_wide st h
  ·rw[ag,if_pos rfl]at st;exact wpAny_pyIter_striter_ascii st h
section
variable{X:aQ}{cj:adI}
def Ht(fR:TE):TI:=fun σ H R=>fR σ H fun v H1=>∃x,v=.str x∧R (yx x) H1
theorem VO{l:adI}{fR:TE}(ai:a6 X l fR):f9 X cj l (Ht fR):=by
 intro pins s σ H R I h;refine bZ (ai pins s σ H _ I h) fun v s1⟨y,H1,a0,az,aV⟩=>?_;obtain⟨x,e,q⟩:=aV;subst e;obtain⟨t,rfl⟩:=az;refine ag6 ?_;refine⟨s1.heap.objs.size,[s1.heap.objs.size],_,_,H1,rfl,a0.kept (t':=s1.toks) fun b o e=>ac0 _ e,YJ _ x t,⟨_,ac9 _ rfl,rfl,rfl⟩,fun b J=>?_,q⟩;have e:b=s1.heap.objs.size:=by simpa using J
 subst e;exact a0.mW (ac6 _) (a0.bL.fresh (ac6 _))
end
noncomputable def yv(K:PySem.W.Frag)(l:ada):It:=⟨fun i H=>∃xs x,b7 K H l xs∧xs[i]?=some x,fun i H v H'=>∃p x,H p=none∧H'=upd H p (.tup [.int (i:Int),x])∧v=.ref p∧∀xs,b7 K H l xs→xs[i]?=some x,fun i H=>∃xs,b7 K H l xs∧xs.length=i⟩
theorem YG{P:adp}{w:adJ}{K:PySem.W.Frag}{elts:List adI}{kk:Nat}{pos:Pos}(e it l:ada)(G3:e≠it) :
  Turn P w K (.Tuple elts kk pos) (yv K l) [e,it] e (fun i h=>(∃old,IsEnum h e it i old)∧h.IsListIter it l i) where
 mem:=by simp
 obj:=fun i h st b J=>by
  obtain⟨⟨old,he⟩,o,aq,c,d⟩:=st;rcases List.mem_cons.mp J with z|z
  ·subst z;exact⟨_,he,fun v z=>by have fA:aiD _=agy v:=z;cases fA⟩
  ·have z:b=it:=by simpa using z
   subst z;exact⟨o,aq,fun v z=>by rw[d]at z;cases z⟩
 keep:=fun i h h' st k=>by obtain⟨⟨old,he⟩,hit⟩:=st;exact⟨⟨old,k e (by simp) _ he⟩,hit.at fun o x=>k it (by simp) o x⟩
 item:=by
  intro X dH hw a5 aB i pins s σ H E I hf st aO;subst dH hw a5;obtain⟨xs,x,aR,ax⟩:=aO;obtain⟨its,cg,pl,bo⟩:=I.list aR;obtain⟨⟨old,he⟩,hit⟩:=st;have fO:=pl.isList;have hle:l≠e:=fun z=>by subst z;obtain⟨o,aE,iP,_⟩:=fO;rw[he]at aE;cases aE;have iP:afd "enumerate"=afd "list":=iP;injection iP with iP;exact absurd iP (by decide)
  have s9:l≠it:=fun z=>by subst z;obtain⟨o,aE,iP,_⟩:=fO;obtain⟨bR,eo,m3,_⟩:=hit;rw[eo]at aE;cases aE;rw[iP]at m3;injection m3 with m3;exact absurd m3 (by decide)
  have W:=WalksT.enumerate (prog:=X.prog) (w:=X.w) (A:=X.A) (I.ok.hd aB) e it l G3 hle s9 its.toArray;have hlen:=cg.length;have Ax:i<xs.length:=(List.getElem?_eq_some_iff.mp ax).1;refine W.item i s _ _ (by rw[ac8,←hlen];exact Ax) ⟨⟨old,he⟩,hit,fO⟩ fun T vals h' cb dH d4 Pd pH aH=>?_;obtain⟨t,u,aJ,rfl⟩:=dH;obtain⟨hD,td,eD⟩:=cg.get ax;have n_:hD=u:=by rw[ah1]at aJ;rw[td]at aJ;exact adh aJ
  subst n_;refine⟨_,rfl,?_⟩;refine W.go elts kk pos i T { s with heap:=h',toks:=cb } _ _ pH fun h2 kz m5=>?_;have GV:T∉[e,it]:=W.apart i T h' pH;have keep:∀b o,b∉[e,it]→s.heap.get? b=some o→h2.get? b=some o:=fun b o J q=>m5 b o J (aH b o J q);have tc:afR h2 T (#[.int i t,hD]:Array ac1):=by obtain⟨o,aE,r⟩:=Pd;exact⟨o,m5 T o GV aE,r⟩
  have aK:H T=none:=I.bL.fresh d4;have ck:Inv X pins σ (upd H T (.tup [.int (i:Int),x])) { s with heap:=h2,toks:=cb }:=I.Dq (its:=[.int i t,hD]) (ch:=[e,it]) keep hf d4 tc (.cons ⟨t,rfl⟩ (.cons eD .nil)) (by show 2≤adq;decide);refine⟨.ref T,upd H T (.tup [.int (i:Int),x]),ck,rfl,⟨T,x,aK,rfl,rfl,fun ys bq=>by rw[I.A9 bq aR];exact ax⟩,⟨kz.1,kz.2.1⟩,fun b J=>?_⟩;have nb:b≠T:=fun z=>GV (z▸J);rw[dV nb];exact(hf b J).1
 done:=by
  intro X dH hw a5 aB i pins s σ H E I hf st aO;subst dH hw a5;obtain⟨xs,aR,ax⟩:=aO;obtain⟨its,cg,pl,bo⟩:=I.list aR;obtain⟨⟨old,he⟩,hit⟩:=st;have fO:=pl.isList;have hle:l≠e:=fun z=>by subst z;obtain⟨o,aE,iP,_⟩:=fO;rw[he]at aE;cases aE;have iP:afd "enumerate"=afd "list":=iP;injection iP with iP;exact absurd iP (by decide)
  have s9:l≠it:=fun z=>by subst z;obtain⟨o,aE,iP,_⟩:=fO;obtain⟨bR,eo,m3,_⟩:=hit;rw[eo]at aE;cases aE;rw[iP]at m3;injection m3 with m3;exact absurd m3 (by decide)
  have W:=WalksT.enumerate (prog:=X.prog) (w:=X.w) (A:=X.A) (I.ok.hd aB) e it l G3 hle s9 its.toArray;have iK:i=its.toArray.size:=by rw[ac8,←cg.length];exact ax.symm
  subst iK;exact W.done s _ _ ⟨⟨old,he⟩,hit,fO⟩ fun h' cb kk=>⟨rfl,I.uA (ch:=[e,it]) kk hf⟩
 self:=fun A i s Q E st h=>by obtain⟨⟨old,he⟩,_⟩:=st;exact wpAny_pyIter_enum he h
section
variable{X:aQ}{elts:List adI}{kk:Nat}{qj:Pos}
noncomputable def Hq(K:PySem.W.Frag)(cf:eL):TI:=fun σ H R=>cf σ H fun vs H1=>∃l,vs=[.ref l]∧(∃xs,b7 K H1 l xs)∧R (yv K l) H1
theorem VL{a:adI}{cf:eL}{p pos:Pos}(aO:dM X "enumerate")(hm:X.mg "enumerate"=none)(ag:fk X [a] cf)(hs:ac5 [a] X.env=[(false,aeq a X.env)]:=by rfl):f9 X (.Tuple elts kk qj) (.Call (.Name "enumerate" p) [a] [] pos) (Hq X.K cf):=by
 have J:aer "enumerate"=some (.type "enumerate"):=by kernel_rfl
 intro pins s σ H R I h;refine agN (m9 I aO hm J (adP (bZ (ag pos pins s σ H _ I h) fun us s1⟨vs,H1,a0,az,aV⟩=>?_) hs rfl));obtain⟨l,e,⟨xs,aR⟩,q⟩:=aV;subst e;obtain⟨u,rfl,eD⟩:=vals1 az;cases eD;obtain⟨its,cg,pl,bo⟩:=a0.list aR;refine call_enumerate_list pl.isList fun h' he hit hsz aH=>?_;have ck:Inv X pins σ H1 { s1 with heap:=h' }:=a0.kept (t':=s1.toks) aH;refine wpAny_pyIter_enum he ?_;refine⟨s1.heap.objs.size+1,[s1.heap.objs.size+1,s1.heap.objs.size],_,_,H1,rfl,ck,YG _ _ l (Nat.succ_ne_self _),⟨⟨_,he⟩,hit⟩,fun b J=>?_,q⟩;have J:b=s1.heap.objs.size+1∨b=s1.heap.objs.size:=by simpa using J
 rcases J with z|z
 ·subst z;exact a0.mW (ahe _) (a0.bL.fresh (ahe _))
 ·subst z;exact a0.mW (ac6 _) (a0.bL.fresh (ac6 _))
end
abbrev yb(h:adX)(x:Str)(t:Tok):adX:=h.push { cls:=.type (ad1 x),data:=.fields #[.str x t,.int 0 0] }
abbrev yc(h:adX)(x:Str)(t:Tok)(l:ada):adX:=(yb h x t).push { cls:=.type "tuple_iterator",data:=.fields #[.ref l,.int 0 0] }
abbrev yd(h:adX)(x:Str)(t:Tok)(l:ada):adX:=(yc h x t l).push { cls:=.type "tuple",data:=.seq #[.ref h.objs.size,.ref (yb h x t).objs.size] }
abbrev ye(h:adX)(x:Str)(t:Tok)(l:ada):adX:=(yd h x t l).push { cls:=.type "tuple",data:=.seq #[.none,.none] }
abbrev qw(h:adX)(x:Str)(t:Tok)(l:ada):adX:=(ye h x t l).push { cls:=.type "zip",data:=.fields #[.none,.bool false,.bool false,.ref (yc h x t l).objs.size,.ref (yd h x t l).objs.size] }
set_option maxHeartbeats 4000000 in
theorem TM(x:Str)(t:Tok)(cP:ada)(ys:Array ac1) :
  Meets (ahb.«zip.__new__» ⟨[.type "zip",.str x t,.ref cP],[]⟩) (fun _ R s=>s.heap.IsTuple cP ys∧R (.ok (.ret (.ref (ye s.heap x t cP).objs.size))) { s with heap:=qw s.heap x t cP }):=
 .of_wp fun prog w A R s h=>by
   obtain⟨aS,g,d,cb,os⟩:=s;obtain⟨s8,h⟩:=h;have l_:=sub_zip;have O7:Heap.IsTuple (Shared.heap ⟨aS.push { cls:=.type (ad1 x),data:=.fields #[.str x t,.int 0 0] },g,d,cb,os⟩) cP ys:=Heap.IsTuple.push s8 _
   wp_walk using ag6,wpAny_pyIter_tuple O7
   exact⟨_,rfl,h⟩
theorem Np {prog:adp} {w:adJ} {A:adG} {E:ac1→ac4→Prop} {s:ac4} {x:Str} {t:Tok} {cP:ada} {ys:Array ac1} {Q:ac1→ac4→Prop} (s8:s.heap.IsTuple cP ys)(h:∀h',ahZ h' (s.heap.objs.size+4) (s.heap.objs.size+2) (s.heap.objs.size+3) .none→afc h' (s.heap.objs.size+2) (.ref s.heap.objs.size) (.ref (s.heap.objs.size+1))→
    afc h' (s.heap.objs.size+3) .none .none→h'.IsStrIter s.heap.objs.size (ad1 x) x t 0→h'.IsTupleIter (s.heap.objs.size+1) cP 0→h'.objs.size=s.heap.objs.size+5→
    (∀c o,s.heap.get? c=some o→h'.get? c=some o)→Q (.ref (s.heap.objs.size+4)) { s with heap:=h' }) :
  adm (adu prog w) A (call (.type "zip") [.str x t,.ref cP]) Q E s:=by
 refine callType_new F.called_zip (by decide) (F.typeCall_zip_2 _ _) (F.newCall_zip_2 _ _) (fun obj=>F.args_object_init_3 obj _ _) F.entry_zip_new (TM x t cP ys) ⟨s8,?_⟩;have bu:(yb s.heap x t).objs.size=s.heap.objs.size+1:=adK ..;have a9:(yc s.heap x t cP).objs.size=s.heap.objs.size+2:=by rw[adK,bu]
 have ju:(yd s.heap x t cP).objs.size=s.heap.objs.size+3:=by rw[adK,a9]
 have nI:(ye s.heap x t cP).objs.size=s.heap.objs.size+4:=by rw[adK,ju]
 have DU:(qw s.heap x t cP).objs.size=s.heap.objs.size+5:=by rw[adK,nI]
 have l4:(qw s.heap x t cP).get? (ye s.heap x t cP).objs.size=some _:=ac9 _ rfl;have jD:(qw s.heap x t cP).get? (yd s.heap x t cP).objs.size=some _:=ac0 _ (ac9 _ rfl);have g3:(qw s.heap x t cP).get? (yc s.heap x t cP).objs.size=some _:=ac0 _ (ac0 _ (ac9 _ rfl));have g2:(qw s.heap x t cP).get? (yb s.heap x t).objs.size=some _:=ac0 _ (ac0 _ (ac0 _ (ac9 _ rfl)));have g1:(qw s.heap x t cP).get? s.heap.objs.size=some _:=ac0 _ (ac0 _ (ac0 _ (ac0 _ (ac9 _ rfl))));show _∧_;rw[a9,ju,nI]at l4;rw[bu,a9]at g3;rw[ju]at jD;rw[bu]at g2;rw[nI];exact⟨⟨_,l4,rfl⟩,h _ l4 g3 jD ⟨_,g1,rfl,rfl⟩ ⟨_,g2,rfl,rfl⟩ DU fun c o x=>
  ac0 _ (ac0 _ (ac0 _ (ac0 _ (ac0 _ x))))⟩
noncomputable def yz(K:PySem.W.Frag)(x:Str)(l:ada):It:=⟨fun i H=>i<x.cps.size∧∃ys y,c2 K H l ys∧ys[i]?=some y,
 fun i H v H'=>∃p c y,x.cps[i]?=some c∧H p=none∧H'=upd H p (.tup [.str ⟨#[c]⟩,y])∧v=.ref p∧∀ys,c2 K H l ys→ys[i]?=some y,
 fun i H=>∃ys,c2 K H l ys∧i=min x.cps.size ys.length⟩
structure yI(z TI bX bA bI:ada):Prop where
 TIz:TI≠z
 TOz:bX≠z
 TITO:TI≠bX
 TIi1:TI≠bA
 TIi2:TI≠bI
 TOi1:bX≠bA
 TOi2:bX≠bI
 i1z:bA≠z
 i2z:bI≠z
 i12:bA≠bI
theorem YL{P:adp}{w:adJ}{K:PySem.W.Frag}{elts:List adI}{kk:Nat}{pos:Pos}(x:Str)(t:Tok)(l z TI bX bA bI:ada)(ap:yI z TI bX bA bI) :
  Turn P w K (.Tuple elts kk pos) (yz K x l) [z,TI,bX,bA,bI] z (fun i h=>ahZ h z TI bX .none∧afc h TI (.ref bA) (.ref bI)∧(∃a b,afc h bX a b)∧h.IsStrIter bA (ad1 x) x t i∧h.IsTupleIter bI l i) where
 mem:=by simp
 obj:=fun i h st b J=>by
  obtain⟨bo,fv,⟨a,eN,fP⟩,⟨cQ,aq,b0,d1⟩,b_,aD,c9,cF⟩:=st;have J:b=z∨b=TI∨b=bX∨b=bA∨b=bI:=by simpa using J
  rcases J with q|q|q|q|q<;>subst q
  ·exact⟨_,bo,fun v z=>by have fA:aiD _=agy v:=z;cases fA⟩
  ·exact⟨_,fv,fun v z=>by have fA:aje _ _=agy v:=z;cases fA⟩
  ·exact⟨_,fP,fun v z=>by have fA:aje _ _=agy v:=z;cases fA⟩
  ·exact⟨cQ,aq,fun v z=>by rw[d1]at z;cases z⟩
  ·exact⟨b_,aD,fun v z=>by rw[cF]at z;cases z⟩
 keep:=fun i h h' st k=>by obtain⟨bo,fv,⟨a,eN,fP⟩,⟨cQ,aq,az⟩,b_,aD,bg⟩:=st;exact⟨k z (by simp) _ bo,k TI (by simp) _ fv,⟨a,eN,k bX (by simp) _ fP⟩,⟨cQ,k bA (by simp) _ aq,az⟩,b_,k bI (by simp) _ aD,bg⟩
 item:=by
  intro X dH hw a5 aB i pins s σ H E I hf st aO;subst dH hw a5;obtain⟨ar,ys,y,aR,bq⟩:=aO;obtain⟨its,cg,bT,Qs⟩:=I.tuple aR;obtain⟨bo,fv,⟨a,eN,fP⟩,m8,eU⟩:=st;have nl:∀b∈[z,TI,bX,bA,bI],l≠b:=fun b J q=>by
   subst q;rcases aR with(h|⟨o,h⟩)|⟨o,tl,n,h,_⟩
   ·rw[(hf l J).1]at h;cases h
   ·rw[(hf l J).1]at h;cases h
   ·have h1:=I.ok.mod.oo l o h;rcases(hf l J).2.2.2.1 with q|q
    ·exact I.ok.p8 l o h1 q
    ·exact absurd (adv (ac_ (I.ok.bs l o h1).1) q) (adS _)
  have bD:X.A.in1.handled=none:=I.ok.hd aB;have gv:=qS (prog:=X.prog) (w:=X.w) (A:=X.A.in1) bD bA x t;have f6:=Fe (prog:=X.prog) (w:=X.w) (A:=X.A.in1) bD bI l (nl bI (by simp)) its.toArray;have hlen:=cg.length;have Ax:i<ys.length:=(List.getElem?_eq_some_iff.mp bq).1
  have lZ:nW z TI bX bA bI [bA] [bI,l]:=⟨ap.TIz,ap.TOz,ap.TITO,ap.TIi1,ap.TIi2,ap.TOi1,ap.TOi2,ap.i1z,ap.i2z,ap.i12,by simpa using ap.i1z.symm,by simpa using ap.TOi1,by simpa using ap.i12.symm,
   by simp only[aeG,aec,or_false,not_or];exact⟨ap.i2z.symm,(nl z (by simp)).symm⟩,by simp only[aeG,aec,or_false,not_or];exact⟨ap.TOi2,(nl bX (by simp)).symm⟩,by simp only[aeG,aec,or_false,not_or];exact⟨ap.i12,(nl bA (by simp)).symm⟩⟩
  refine JI gv f6 lZ bo fv fP m8 ⟨eU,bT⟩ ar (by rw[ac8,←hlen];exact Ax) fun oS hS h' cb d0 cD a1 a2 eM gX hG i9 aH=>?_;obtain⟨c,t1,Ap,rfl⟩:=d0;obtain⟨hD,td,eD⟩:=cg.get bq;have n_:hD=hS:=by rw[ah1]at cD;rw[td]at cD;exact adh cD
  subst n_;refine⟨_,rfl,?_⟩;refine agX a1 fun h2 AM jG=>?_;have C5:∀b∈[z,TI,bX,bA,bI],b<s.heap.objs.size:=fun b J=>by
   have J:b=z∨b=TI∨b=bX∨b=bA∨b=bI:=by simpa using J
   obtain⟨cQ,aq,_⟩:=m8;obtain⟨b_,aD,_⟩:=eU;rcases J with q|q|q|q|q<;>subst q
   ·exact ac_ bo
   ·exact ac_ fv
   ·exact ac_ fP
   ·exact ac_ aq
   ·exact ac_ aD
  have tX:∀b∈[z,TI,bX,bA,bI],b≠s.heap.objs.size:=fun b J=>ady (C5 b J);have keep:∀b o,b∉[z,bX,bA,bI]→s.heap.get? b=some o→h2.get? b=some o:=fun b o J q=>by have J:¬(b=z∨b=bX∨b=bA∨b=bI):=fun w=>J (by simpa using w);exact jG.extBut b o (fun w=>J (.inl w)) (aH b o (fun w=>J (.inl w)) (fun w=>J (.inr (.inl w))) (fun w=>J (.inr (.inr (.inl w)))) (fun w=>J (.inr (.inr (.inr w)))) q)
  have tc:afR h2 s.heap.objs.size ([.str ⟨#[c]⟩ t1,hD]:List ac1).toArray:=⟨_,jG.extBut _ _ (tX z (by simp)).symm hG,rfl,_,rfl⟩;have aK:H s.heap.objs.size=none:=I.bL.fresh (ac6 _);have ck:Inv X pins σ (upd H s.heap.objs.size (.tup [.str ⟨#[c]⟩,y])) { s with heap:=h2,toks:=cb }:=I.Dq (its:=[.str ⟨#[c]⟩ t1,hD]) (ch:=[z,bX,bA,bI]) keep (fun b J=>hf b (by
   have J:b=z∨b=bX∨b=bA∨b=bI:=by simpa using J
   rcases J with q|q|q|q<;>simp[q])) (ac6 _) tc (.cons ⟨t1,rfl⟩ (.cons eD .nil)) (by show 2≤adq;decide)
  refine⟨.ref s.heap.objs.size,_,ck,rfl,⟨s.heap.objs.size,c,y,Ap,aK,rfl,rfl,fun zs Qt=>by rw[I.Dp Qt aR];exact bq⟩,?_,fun b J=>?_⟩
  ·refine⟨AM,jG.extBut _ _ ap.TIz (aH _ _ ap.TIz ap.TITO ap.TIi1 ap.TIi2 fv),⟨_,_,jG.extBut _ _ ap.TOz a2⟩,?_,?_⟩
   ·obtain⟨cQ,aq,az⟩:=eM;exact⟨cQ,jG.extBut _ _ ap.i1z aq,az⟩
   ·obtain⟨⟨b_,aD,bg⟩,_⟩:=gX;exact⟨b_,jG.extBut _ _ ap.i2z aD,bg⟩
  ·rw[dV (tX b J)];exact(hf b J).1
 done:=by
  intro X dH hw a5 aB i pins s σ H E I hf st aO;subst dH hw a5;obtain⟨ys,aR,ar⟩:=aO;obtain⟨its,cg,bT,Qs⟩:=I.tuple aR;obtain⟨bo,fv,⟨a,eN,fP⟩,m8,eU⟩:=st;have nl:∀b∈[z,TI,bX,bA,bI],l≠b:=fun b J q=>by
   subst q;rcases aR with(h|⟨o,h⟩)|⟨o,tl,n,h,_⟩
   ·rw[(hf l J).1]at h;cases h
   ·rw[(hf l J).1]at h;cases h
   ·have h1:=I.ok.mod.oo l o h;rcases(hf l J).2.2.2.1 with q|q
    ·exact I.ok.p8 l o h1 q
    ·exact absurd (adv (ac_ (I.ok.bs l o h1).1) q) (adS _)
  have bD:X.A.in1.handled=none:=I.ok.hd aB;have gv:=qS (prog:=X.prog) (w:=X.w) (A:=X.A.in1) bD bA x t;have f6:=Fe (prog:=X.prog) (w:=X.w) (A:=X.A.in1) bD bI l (nl bI (by simp)) its.toArray;have hlen:=cg.length
  have lZ:nW z TI bX bA bI [bA] [bI,l]:=⟨ap.TIz,ap.TOz,ap.TITO,ap.TIi1,ap.TIi2,ap.TOi1,ap.TOi2,ap.i1z,ap.i2z,ap.i12,by simpa using ap.i1z.symm,by simpa using ap.TOi1,by simpa using ap.i12.symm,
   by simp only[aeG,aec,or_false,not_or];exact⟨ap.i2z.symm,(nl z (by simp)).symm⟩,by simp only[aeG,aec,or_false,not_or];exact⟨ap.TOi2,(nl bX (by simp)).symm⟩,by simp only[aeG,aec,or_false,not_or];exact⟨ap.i12,(nl bA (by simp)).symm⟩⟩
  refine JH gv f6 lZ bo fv fP m8 ⟨eU,bT⟩ ?_ fun h' cb kk=>⟨rfl,I.uA (ch:=[z,bX,bA,bI]) (fun b o J q=>?_) fun b J=>hf b ?_⟩
  ·have es:its.toArray.size=its.length:=by simp
   rw[es,←hlen];omega
  ·have J:¬(b=z∨b=bX∨b=bA∨b=bI):=fun w=>J (by simpa using w);exact kk b o (fun w=>J (.inl w)) (fun w=>J (.inr (.inl w))) (fun w=>J (.inr (.inr (.inl w)))) (fun w=>J (.inr (.inr (.inr w)))) q
  ·have J:b=z∨b=bX∨b=bA∨b=bI:=by simpa using J
   rcases J with q|q|q|q<;>simp[q]
 self:=fun A i s Q E st h=>agh st.1 h
section
variable{X:aQ}{elts:List adI}{kk:Nat}{qj:Pos}
theorem L5(n:Nat):yI (n+4) (n+2) (n+3) n (n+1):=
 ⟨(show n+2≠n+4 from ady (show(n+2:Nat)<n+4 by omega)),
  (show n+3≠n+4 from ady (show(n+3:Nat)<n+4 by omega)),
  (show n+2≠n+3 from ady (show(n+2:Nat)<n+3 by omega)),
  (show n+2≠n from aeU (show(n:Nat)<n+2 by omega)),
  (show n+2≠n+1 from aeU (show(n+1:Nat)<n+2 by omega)),
  (show n+3≠n from aeU (show(n:Nat)<n+3 by omega)),
  (show n+3≠n+1 from aeU (show(n+1:Nat)<n+3 by omega)),
  (show n≠n+4 from ady (show(n:Nat)<n+4 by omega)),
  (show n+1≠n+4 from ady (show(n+1:Nat)<n+4 by omega)),
  (show n≠n+1 from ady (show(n:Nat)<n+1 by omega))⟩
noncomputable def Hw(K:PySem.W.Frag)(cf:eL):TI:=fun σ H R=>cf σ H fun vs H1=>∃x l,vs=[.str x,.ref l]∧(∃ys,c2 K H1 l ys)∧R (yz K x l) H1
theorem VR{a b:adI}{cf:eL}{p pos:Pos}(aO:dM X "zip")(hm:X.mg "zip"=none)(ag:fk X [a,b] cf)(hs:ac5 [a,b] X.env=[(false,aeq a X.env),(false,aeq b X.env)]:=by rfl)(eU:ac5 [b] X.env=[(false,aeq b X.env)]:=by rfl) :
  f9 X (.Tuple elts kk qj) (.Call (.Name "zip" p) [a,b] [] pos) (Hw X.K cf):=by
 have J:aer "zip"=some (.type "zip"):=by kernel_rfl
 intro pins s σ H R I h;refine agN (m9 I aO hm J (adP (bZ (ag pos pins s σ H _ I h) fun us s1⟨vs,H1,a0,az,aV⟩=>?_) (by rw[hs,eU]) (by rw[eU];rfl)));obtain⟨x,l,e,⟨ys,aR⟩,q⟩:=aV;subst e;obtain⟨u,hS,rfl,⟨t,rfl⟩,eD⟩:=vals2 az;cases eD;obtain⟨its,cg,bT,bo⟩:=a0.tuple aR;refine Np (show s1.heap.IsTuple l its.toArray from bT) fun h' a1 a2 eM gX hG i9 aH=>?_;have ck:Inv X pins σ H1 { s1 with heap:=h' }:=a0.kept (t':=s1.toks) aH;refine agh a1 ?_;refine⟨s1.heap.objs.size+4,[s1.heap.objs.size+4,s1.heap.objs.size+2,s1.heap.objs.size+3,s1.heap.objs.size,s1.heap.objs.size+1],_,_,H1,rfl,ck,YL x t l _ _ _ _ _ (L5 s1.heap.objs.size),⟨a1,a2,⟨_,_,eM⟩,gX,hG⟩,fun b J=>?_,q⟩;have J:s1.heap.objs.size≤b:=by
  have J:b=s1.heap.objs.size+4∨b=s1.heap.objs.size+2∨b=s1.heap.objs.size+3∨b=s1.heap.objs.size∨b=s1.heap.objs.size+1:=by simpa using J
  rcases J with q|q|q|q|q
  ·rw[q];exact ad5 _ _
  ·rw[q];exact ad5 _ _
  ·rw[q];exact ad5 _ _
  ·rw[q];exact ac6 _
  ·rw[q];exact ad5 _ _
 exact a0.mW J (a0.bL.fresh J)
end
end a3
namespace bt
open PySem PySem.Spec a3
section
variable{X:aQ}{F:bG}{e a b c cj iter elt:adI}{es:List adI}{pos p:Pos}{m n:aN}{ma:aY}
def dX(c:Nat):D:=.str ⟨#[c]⟩
def C0:D→R (List D)
 |.str x=>.ok (x.cps.toList.map dX)
 |_=>.bad
theorem RJ{K:PySem.W.Frag}{G:ah}(x:Str):kL K (yx x) (x.cps.toList.map dX) G where
 go:=fun i H s ar=>by
  have h:i<x.cps.size:=by simpa using ar
  exact h
 i2:=fun i H v H' s ar y=>by obtain⟨e,c,aB,rfl⟩:=y;refine⟨dX c,?_,.inl ⟨e,by unfold dX;simp only[At]⟩⟩;rw[ade,aei,aB];rfl
 stop:=fun H s=>by
  have h:(x.cps.toList.map dX).length=x.cps.size:=by simp
  exact h
def tC(m:aN):aY:=fun ρ=>(m ρ).bind C0
theorem Rf:nO (kB F (tC m)) (Ht (cZ F m)):=by
 rintro σ H Q ⟨G,ρ,r,h⟩;unfold tC at h;refine⟨G,ρ,r,?_⟩;cases aw:m ρ with
 |bad=>rw[aw]at h;exact h.elim
 |exc c=>rw[aw]at h;exact h
 |ok d=>
  rw[aw,R.bM]at h;intro v H1 aW az s1 a;cases d with
  |str x=>simp only[At]at a;exact⟨x,a,h _ H1 aW az s1 (RJ x)⟩
  |_=>exact h.elim
def n8(ds:List D):List D:=ds.zipIdx.map fun p=>.tup [.int (p.2:Int),p.1]
theorem Oo{ds:List D}{i:Nat}{d:D}(e:ds[i]?=some d):(n8 ds)[i]?=some (.tup [.int (i:Int),d]):=by unfold n8;rw[ade,afw,e];simp
def pB:List D→R (List D)
 |[.lst ds]=>.ok (n8 ds)
 |[.cJ ds]=>.ok (n8 ds)
 |_=>.bad
theorem HM{K:PySem.W.Frag}{G:ah}{l:ada}{ds:List D}{xs:List V}(h:b7 K G l xs)(q:aP K G ds xs):kL K (yv K l) (n8 ds) G where
 go:=fun i H s ar=>by
  have ar:i<ds.length:=by simpa[n8]using ar
  obtain⟨v,e,_⟩:=q.get (ac2 ar);exact⟨xs,v,b7.mono s h,e⟩
 i2:=fun i H v H' s ar y=>by obtain⟨p,x,aS,rfl,rfl,y⟩:=y;have ex:=y xs (b7.mono s h);obtain⟨d,e,a⟩:=q.vL ex;exact⟨_,Oo e,.inr ⟨p,_,_,aS,rfl,rfl,rfl,.cons (by simp only[At]) (.cons a .nil)⟩⟩
 stop:=fun H s=>⟨xs,b7.mono s h,by simp[n8,q.length]⟩
def pX(m:aY):aY:=fun ρ=>(m ρ).bind pB
theorem QN(a5:F.K=X.K):nO (kB F (pX ma)) (Hq X.K (eE F ma)):=by
 rintro σ H Q ⟨G,ρ,r,h⟩;unfold pX at h;refine⟨G,ρ,r,?_⟩;cases aw:ma ρ with
 |bad=>rw[aw]at h;exact h.elim
 |exc c=>rw[aw]at h;exact h
 |ok ds=>
  rw[aw,R.bM]at h;intro vs H1 aW az s1 al;unfold pB at h
  split at h
  ·rename_i ds;obtain⟨v,rfl,a⟩:=al.one;simp only[At]at a;obtain⟨q,xs,rfl,aR,fU⟩:=a;have gO:b7 X.K aW q xs:=b7.of aR;rw[←a5]at gO;refine⟨q,rfl,⟨xs,by rw[←a5];exact b7.mono az.aM.sub gO⟩,?_⟩;rw[←a5];exact h _ H1 aW az s1 (HM gO fU)
  ·rename_i ds;obtain⟨v,rfl,a⟩:=al.one;simp only[At]at a;obtain⟨q,xs,rfl,aR,fU⟩:=a;refine⟨q,rfl,⟨xs,by rw[←a5];exact b7.mono az.aM.sub aR⟩,?_⟩;rw[←a5];exact h _ H1 aW az s1 (HM aR fU)
  ·exact h.elim
def qu(xs:List Nat)(ys:List D):List D:=(xs.zip ys).map fun p=>.tup [dX p.1,p.2]
def DV:List D→R (List D)
 |[.str x,.dB ys]=>.ok (qu x.cps.toList ys)
 |_=>.bad
theorem RK{K:PySem.W.Frag}{G:ah}{x:Str}{l:ada}{ds:List D}{xs:List V}(h:c2 K G l xs)(q:aP K G ds xs):kL K (yz K x l) (qu x.cps.toList ds) G where
 go:=fun i H s ar=>by
  have ar:i<min x.cps.size ds.length:=by simpa[qu]using ar
  have h1:i<ds.length:=by omega
  obtain⟨v,e,_⟩:=q.get (ac2 h1);exact⟨by omega,xs,v,c2.mono s h,e⟩
 i2:=fun i H v H' s ar y=>by
  obtain⟨p,c,lN,aB,aS,rfl,rfl,y⟩:=y;have ex:=y xs (c2.mono s h);obtain⟨d,e,a⟩:=q.vL ex;refine⟨.tup [dX c,d],?_,.inr ⟨p,_,_,aS,rfl,rfl,rfl,.cons (by unfold dX;simp only[At]) (.cons a .nil)⟩⟩;unfold qu;rw[ade];have z6:(x.cps.toList.zip ds)[i]?=some (c,d):=by rw[agY];exact⟨by rw[aei];exact aB,e⟩
  rw[z6];rfl
 stop:=fun H s=>⟨xs,c2.mono s h,by simp[qu,q.length]⟩
def tD(m:aY):aY:=fun ρ=>(m ρ).bind DV
theorem Rm(a5:F.K=X.K):nO (kB F (tD ma)) (Hw X.K (eE F ma)):=by
 rintro σ H Q ⟨G,ρ,r,h⟩;unfold tD at h;refine⟨G,ρ,r,?_⟩;cases aw:ma ρ with
 |bad=>rw[aw]at h;exact h.elim
 |exc c=>rw[aw]at h;exact h
 |ok ds=>
  rw[aw,R.bM]at h;intro vs H1 aW az s1 al;unfold DV at h
  split at h
  ·rename_i x ys;obtain⟨v,w,rfl,bp,j6⟩:=al.two;simp only[At]at bp j6;subst bp;obtain⟨q,xs,rfl,aR,fU⟩:=j6;refine⟨x,q,rfl,⟨xs,by rw[←a5];exact c2.mono az.aM.sub aR⟩,?_⟩;rw[←a5];exact h _ H1 aW az s1 (RK aR fU)
  ·exact h.elim
structure GM(X:aQ)(cj:adI)(set:D→av→R av):Prop where
 ex:∃g,j3 X cj g∧∀F:bG,F.K=X.K→nN F g set
 gL:∀d ρ c,set d ρ≠.exc c
 keeps:Keeps set
theorem fi(i:Nat){x:Str}(cB:X.N.Nodup)(ar:X.N[i]?=some x:=by rfl)(ax:Loc X.env.scope x:=by first|exact aeQ rfl|exact aed rfl)(hf:X.fn x=true∨X.env.scope.names.lookup x=some .local:=by first|exact .inl rfl|exact .inr rfl):GM X (.Name x pos) (br i):=
 ⟨⟨jE i,xf cB ar ax hf,fun _ _=>vJ i⟩,xD i,xC i⟩
structure uT(X:aQ)(YE:List adI)(aX:List (D→av→R av)):Prop where
 ex:∃g,su X YE g∧∀F:bG,F.K=X.K→sg F g (hC aX)
 gL:∀f∈aX,∀d ρ c,f d ρ≠.exc c
 keeps:∀f∈aX,Keeps f
theorem tY:uT X [] []:=⟨⟨vH,Jo,fun _ _=>GI⟩,(fun _ h=>nomatch h),(fun _ h=>nomatch h)⟩
theorem lq{f:D→av→R av}{aX:List (D→av→R av)}(h:GM X e f)(t:uT X es aX)(hs:(afG (e::es) X.env).map (·.2)=assign e X.env::(afG es X.env).map (·.2):=by rfl):uT X (e::es) (f::aX):=by obtain⟨⟨g,h1,h2⟩,h3,h4⟩:=h;obtain⟨⟨mY,t1,cy⟩,t3,xN⟩:=t;exact⟨⟨sT g mY,BG h1 t1 hs,fun F l6=>Ah (h2 F l6) (cy F l6)⟩,fun k aH=>by rcases List.mem_cons.mp aH with rfl|aH;exact h3;exact t3 k aH,fun k aH=>by rcases List.mem_cons.mp aH with rfl|aH;exact h4;exact xN k aH⟩
theorem tZ{k:Nat}{aX:List (D→av→R av)}(aB:X.calm=true)(h:uT X es aX)(aK:(afG es X.env).length=aX.length:=by rfl)(gn:(afG es X.env).findIdx? (·.1)=none:=by rfl):GM X (.Tuple es k pos) (eJ aX):=by obtain⟨⟨mY,t1,cy⟩,t3,xN⟩:=h;exact⟨⟨vI X.K aX.length mY,Jn aB t1 aK gn,fun F l6=>by rw[←l6];exact GJ rfl (cy F l6)⟩,Ki t3,Kh xN⟩
abbrev r_(X:aQ)(scope:ae6)(N:List Str)(e:adI)(m:aN):Prop:=∀cl C s H bc b8 bK,jv (ft X scope N cl C s H bc) (fe X.K b8 bK) e m
abbrev lR(X:aQ)(scope:ae6)(N:List Str)(ifs:List adI)(m:cH):Prop:=∀cl C s H bc b8 bK,nR (ft X scope N cl C s H bc) ifs (gq (fe X.K b8 bK) m)
abbrev sa(X:aQ)(scope:ae6)(N:List Str)(cj:adI)(set:D→av→R av):Prop:=∃g,(∀cl C s H bc,j3 (ft X scope N cl C s H bc) cj g)∧(∀b8 bK,nN (fe X.K b8 bK) g set)
theorem EM{scope:ae6}{N:List Str}{g:iG}{set:D→av→R av}(h:∀cl C s H bc,j3 (ft X scope N cl C s H bc) cj g)(k:∀F:bG,F.K=X.K→nN F g set):sa X scope N cj set:=⟨g,h,fun b8 bK=>k (fe X.K b8 bK) rfl⟩
def d8:cH:=fun _=>.ok true
theorem gf{scope:ae6}{N:List Str}:lR X scope N [] d8:=fun cl C s H bc b8 bK pins s' σ H' Q I h=>by obtain⟨G,ρ,r,k⟩:=h;exact Wd pins s' σ H' Q I (k H' G r (cq.refl _ _))
theorem MX{scope:ae6}{N:List Str}{mt:cH}(h:∀cl C s H bc b8 bK,Ef (ft X scope N cl C s H bc) (fe X.K b8 bK) c mt):lR X scope N [c] mt:=fun cl C s H bc b8 bK=>We (h cl C s H bc b8 bK)
theorem E0{scope:ae6}{N:List Str}{ifs:List adI}{nl:Nat}{caps:List Nat}{mi:aY}{set:D→av→R av}{mt:cH}{fh:aN}(a5:F.K=X.K)(ar:si X F cj iter mi)(aO:sa X scope N cj set)(bT:lR X scope N ifs mt)(he:r_ X scope N elt fh)(ax:∀d ρ c,set d ρ≠.exc c)(aH:Keeps set){Q:TE→Prop}(k:∀g,(∀cl C s H bc,j3 (ft X scope N cl C s H bc) cj g)→(∀cl C s H bc,nR (ft X scope N cl C s H bc) ifs (DG X.K mt))→(∀cl C s H bc,a6 (ft X scope N cl C s H bc) elt (DF X.K fh))→eR (jW F (dx nl caps mi set mt fh)) (xR (kB F mi) g (DG X.K mt) (DF X.K fh) nl caps)→Q (jW F (dx nl caps mi set mt fh))):Q (jW F (dx nl caps mi set mt fh)):=by
 obtain⟨g,g1,g2⟩:=aO;refine k g g1 (fun cl C s H bc pins s' σ H' o8 I h=>?_) (fun cl C s H bc pins s' σ H' o8 I h=>?_) ?_
 ·obtain⟨b8,bK,h⟩:=h;exact bT cl C s H bc b8 bK pins s' σ H' o8 I h
 ·obtain⟨b8,bK,h⟩:=h;exact he cl C s H bc b8 bK pins s' σ H' o8 I h
 ·have z:=QF (F:=F) (nl:=nl) (caps:=caps) (mi:=mi) (tst:=mt) (elt:=fh) (g:=g) (set:=set) (fun b8 bK=>by rw[a5];exact g2 b8 bK) ax aH;rw[a5]at z;exact z
theorem UB{scope:ae6}{N:List Str}{ifs:List adI}{nl:Nat}{caps:List Nat}{mi:aY}{set:D→av→R av}{mt:cH}{fh:aN}(S:kI X.env.scope X.N scope N nl caps)(ar:si X F cj iter mi)(aO:sa X scope N cj set)(ax:∀d ρ c,set d ρ≠.exc c)(aH:Keeps set)(bT:lR X scope N ifs mt)(he:r_ X scope N elt fh)(aB:X.calm=true:=by rfl)(a5:F.K=X.K:=by rfl)(hs:∀x,ad6 iter X.env x=pure x:=by intro _;rfl):D2 X F (.ListComp elt [⟨cj,iter,ifs,0⟩] scope pos) (dx nl caps mi set mt fh):=
 E0 (nl:=nl) (caps:=caps) (Q:=fun t=>a6 X (.ListComp elt [⟨cj,iter,ifs,0⟩] scope pos) t) a5 ar aO bT he ax aH fun g g1 t1 aq imp=>a6.imp (Vr S aB ar g1 t1 aq hs) imp
theorem W6(i:Nat){y:Str}{py:Pos}{scope:ae6}{N:List Str}{ifs:List adI}{nl:Nat}{caps:List Nat}{mi:aY}{set:D→av→R av}{mt:cH}{fh:aN}{ct:Pos}(cB:X.N.Nodup)(S:kI X.env.scope X.N scope N nl caps)(ar:si X F cj iter mi)(aO:sa X scope N cj set)(ax:∀d ρ c,set d ρ≠.exc c)(aH:Keeps set)(bT:lR X scope N ifs mt)(he:r_ X scope N elt fh)(bq:X.N[i]?=some y:=by rfl)(ai:X.env.kindOf y=some .local:=by rfl)(pM:afB (.ListComp elt [⟨cj,iter,ifs,0⟩] scope ct) (some (.Name y py)) pos.line X.env=pure true:=by rfl)(aB:X.calm=true:=by rfl)(a5:F.K=X.K:=by rfl)(hs:∀x,ad6 iter X.env x=pure x:=by intro _;rfl) :
  Eb X F (.Assign [.Name y py] (.ListComp elt [⟨cj,iter,ifs,0⟩] scope ct) pos) (fG i (dx nl caps mi set mt fh)):=by
 refine dG.imp (t:=qh (jW F (dx nl caps mi set mt fh)) (jE i)) ?_ AP;refine E0 (nl:=nl) (caps:=caps) (Q:=fun t=>dG X (.Assign [.Name y py] (.ListComp elt [⟨cj,iter,ifs,0⟩] scope ct) pos) (qh t (jE i))) a5 ar aO bT he ax aH fun g g1 t1 aq imp=>?_;exact dG.imp (V4 S aB cB bq ai ar g1 t1 aq pM hs) fun c0 σ H h=>imp σ H _ h
end
section
variable{X:aQ}{F:bG}{e a b c:adI}{es:List adI}{pos p:Pos}{m n:aN}{ma:aY}
def mU:List D→Option (List Bool)
 |[]=>some []
 |.aF b::r=>(mU r).map (b::·)
 |_::_=>none
theorem EP{K:PySem.W.Frag}{G:ah}:∀{ds:List D}{xs:List V}{bs:List Bool},aP K G ds xs→mU ds=some bs→xs=bs.map V.aF
 |[],_,_,q,e=>by simp only[aP]at q;subst q;cases e;rfl
 |d::ds,_,bs,q,e=>by
  simp only[aP]at q;obtain⟨v,r,rfl,a,kS⟩:=q;cases d with
  |aF b=>
   simp only[At]at a;subst a;simp only[mU]at e;cases aq:mU ds with
   |none=>rw[aq]at e;cases e
   |some cs=>rw[aq]at e;have bj:b::cs=bs:=adh e;subst bj;rw[EP kS aq];rfl
  |_=>cases e
theorem Ll:∀{bs:List Bool}{us:List ac1},Vals (bs.map V.aF) us→us=bs.map ag1
 |[],_,r=>by cases r;rfl
 |b::bs,_,r=>by
  cases r with
  |cons az bg=>cases az;rw[Ll bg];rfl
theorem Na(aB:X.calm=true)(pJ:X.A.handled=none):gT X (.builtin "all") (fun xs H Q=>∃(p:ada)(bs:List Bool),xs=[.ref p]∧b7 X.K H p (bs.map V.aF)∧Q (.aF (bs.all id)) H):=by
 intro pins s σ H xs us Q I r h;obtain⟨p,bs,rfl,aR,q⟩:=h;obtain⟨u,rfl,eD⟩:=vals1 r;cases eD;obtain⟨its,cg,pl,bo⟩:=I.list aR;have iK:=Ll cg;refine call_all_walk (ag2 pl.isList ?_);have kf:p≠s.heap.objs.size:=by obtain⟨o,aE,_⟩:=pl.isList;exact ady (ac_ aE)
 refine⟨s.heap.objs.size,_,_,_,_,_,fun i=>(bs[i]?).getD true,rfl,Walks.list (prog:=X.prog) (w:=X.w) (A:=X.A.in1) pJ s.heap.objs.size p kf its.toArray,⟨⟨_,ac9 _ rfl,rfl,rfl⟩,pl.isList.push _⟩,?_,fun h' cb kk=>?_⟩
 ·intro i v s' o8 yo dH Ak;rw[iK]at dH;have dH:(bs.map ag1)[i]?=some v:=by simpa using dH
  rw[ade]at dH;cases bj:bs[i]? with
  |none=>rw[bj]at dH;cases dH
  |some b=>rw[bj]at dH;have ev:ag1 b=v:=adh dH;subst ev;dsimp only at Ak;rw[bj]at Ak;exact adN Ak
 ·have q4:(adf its.toArray.size).all (fun i=>(bs[i]?).getD true)=bs.all id:=by
    have ai:its.toArray.size=bs.length:=by rw[iK];simp
    rw[ai,ad2,aeC,aeC];constructor
    ·intro bD x ax;obtain⟨i,ar,rfl⟩:=List.mem_iff_getElem.mp ax;have:=bD i (List.mem_range.mpr ar);rw[ac2 ar]at this;exact this
    ·intro bD i ar;have ar:=List.mem_range.mp ar;rw[ac2 ar];exact bD _ (agi ar)
  rw[q4];exact⟨.aF _,H,I.kept (t':=cb) fun b o aD=>kk b o (by
   intro z;have z:b=s.heap.objs.size:=by simpa using z
   exact absurd (ac_ aD) (by rw[z];exact adS _)) (ac0 _ aD),rfl,q⟩
def dn:List D→R D
 |[.lst ds]=>match mU ds with|some bs=>.ok (.aF (bs.all id))|none=>.bad
 |_=>.bad
theorem UK:mH F (fun xs H Q=>∃(p:ada)(bs:List Bool),xs=[.ref p]∧b7 X.K H p (bs.map V.aF)∧Q (.aF (bs.all id)) H) dn:=by
 intro σ ρ G H xs ds Q r al k;unfold dn at k
 split at k
 ·rename_i ds
  split at k
  ·rename_i bs bj;obtain⟨v,rfl,bp⟩:=al.one;simp only[At]at bp;obtain⟨q,xs,rfl,aR,fU⟩:=bp;have:=EP fU bj;subst this;exact⟨q,bs,rfl,b7.of (r.aM.sub _ _ aR),k _ H G r (cq.refl _ _) (by simp only[At])⟩
  ·exact k.elim
 ·exact k.elim
end
section
variable{X:aQ}{F:bG}{e a b c:adI}{es:List adI}{pos p:Pos}{m n:aN}{ma:aY}
def ownAt(i:Nat)(ρ:av):R (List D):=match ρ[i]? with
 |some (.bf (.lst ds))=>.ok ds
 |_=>.bad
noncomputable def hP(i:Nat)(m:aN):bl:=fun ρ=>(ownAt i ρ).bind fun ds=>(m ρ).bind fun d=>if ds.length<1000000 then .ok (.bO (ρ.set i (.dj (ds++[d]))))else .bad
end
abbrev lE(K:PySem.W.Frag)(n:Nat)(mf:List D→R b6):i7:=oL K n (fun _ _ _=>False) mf
structure dt(P:adp)(w:adJ)(K:PySem.W.Frag)(mg:Str→Option ac1)(base:adX)(x:Str)(n k:Nat)(mf:List D→R b6):Prop where
 ex:∃(f:ada)(fd:aet)(ps:List Str),ps.length=n∧hr P w K mg base g7 k f fd ps (lE K n mf)∧mg x=some (.ref f)∧PySem.W.keepIn K (.ref f)=true∧Binds K fd ps []
section
variable{X:aQ}{F:bG}{e:adI}{es:List adI}{pos p:Pos}{ma:aY}{x:Str}{n k:Nat}{mf:List D→R b6}
end
structure df(K:PySem.W.Frag)(mg:Str→Option ac1)(x:Str)(st:aep)(ps:List Str):Prop where
 ex:∃(f:ada)(fd:aet),kJ K x x st f fd∧mg x=some (.ref f)∧Binds K fd ps []
theorem NI{P:adp}{w:adJ}{K:PySem.W.Frag}{mg:Str→Option ac1}{base:adX}{x:Str}{st:aep}{N ps:List Str}{k:Nat}{m:bl}(d:df K mg x st ps)(S:cS N ps (b1 st))(h:∀(f:ada)(cv:ac1)(A:adG)(outer:List Env)(s:ac4)(H:ah)(E:dh),dW k (A.deeper (ad3 x (b1 st) s.heap.objs.size f cv))→∀b8 bK,L9 (e3 g7 P w K mg base N x (b1 st) f cv A outer s H E).hB (fe K b8 bK) (gh st) m) :
  dt P w K mg base x ps.length (k+1) (cY N.length m):=by
 obtain⟨f,fd,fn,hm,J⟩:=d.ex;refine⟨f,fd,ps,rfl,fn.ok S xE fun cv A outer s H vs Q E au hs=>?_,hm,fn.aM,J⟩;obtain⟨G,bT⟩:=vm hs;exact⟨_,h f cv A outer s H E au G H,bT⟩
theorem ON{K:PySem.W.Frag}{h:adX}{mg:Str→Option ac1}{x:Str}{st:aep}{ps:List Str}{f:ada}{fo:ac1}{dP an:Option ada}{lu:Array (Option ac1)}{da doc pm cv c_:ac1}(X:K.In h)(G:h.Ns ado mg)(a:PySem.W.nsIn K ado x=some (some (.ref f)))(l:K.lookup f=some ⟨fo,dP,.func (PySem.W.fnOf x x (jA st) (gh st) (b1 st) .none da doc pm an cv c_),lu⟩)(c:PySem.W.codeIn K cv x=true)(k:PySem.W.keepIn K (.ref f)=true)(b:∀(da doc pm:ac1)(an:Option ada)(cv c_:ac1)(us:List ac1),us.length=ps.length→aiS (PySem.W.fnOf x x (jA st) (gh st) (b1 st) .none da doc pm an cv c_) ⟨us,[]⟩=pure (ps.zip us)):df K mg x st ps:=
 ⟨f,_,pF (st:=st) l c k,PySem.W.mg_of X G a,(pF (st:=st) l c k).binds b⟩
theorem S5{K:PySem.W.Frag}{mf:List D→R b6}{H:ah}{a:ada}{ns:List Int}(iN:b7 K H a (ns.map V.int))(h:mf [.cJ (ns.map .int)]=.ok (.v (.aF true)))(E:dh):lE K 1 mf [.ref a] H (fun v _=>v=.aF true) E:=by
 refine⟨H,[.cJ (ns.map .int)],Sub.refl _,.cons ?_ .nil,rfl,?_⟩
 ·simp only[At];refine⟨a,_,rfl,iN,?_⟩;induction ns with
  |nil=>exact .nil
  |cons n r bQ=>exact .cons (by simp only[At]) (HE r)
 ·rw[h];intro v G' H' _ bp;simp only[At]at bp;exact bp
where
 HE {K:PySem.W.Frag} {H:ah}:∀r:List Int,aP K H (r.map .int) (r.map V.int)
  |[]=>.nil
  |n::r=>.cons (by simp only[At]) (HE r)
section
variable{X:aQ}{F:bG}{e a b c cj iter elt:adI}{es:List adI}{pos p:Pos}{m n:aN}{ma:aY}{scope:ae6}{N:List Str}
structure qz(X:aQ)(scope:ae6)(N:List Str)(cj:adI)(set:D→av→R av):Prop where
 g:sa X scope N cj set
 bO:∀d ρ c,set d ρ≠.exc c
 aM:Keeps set
theorem gY(i:Nat){x:Str}(cB:N.Nodup:=by decide+kernel)(ar:N[i]?=some x:=by rfl)(ai:(agT scope X.env).names.lookup x=some .local:=by rfl):qz X scope N (.Name x pos) (br i):=
 ⟨EM (g:=jE i) (fun cl C s H bc=>xf (X:=ft X scope N cl C s H bc) cB ar (.inl ai) (.inr ai)) fun F _=>vJ i,xD i,xC i⟩
theorem nX(i j:Nat){x y:Str}{aT py:Pos}{k:Nat}(aB:X.calm=true:=by rfl)(cB:N.Nodup:=by decide+kernel)(ar:N[i]?=some x:=by rfl)(cz:N[j]?=some y:=by rfl)(ai:(agT scope X.env).names.lookup x=some .local:=by rfl)(hm:(agT scope X.env).names.lookup y=some .local:=by rfl) :
  qz X scope N (.Tuple [.Name x aT,.Name y py] k pos) (eJ [br i,br j]):=by
 refine⟨EM (g:=vI X.K 2 (sT (jE i) (sT (jE j) vH))) (fun cl C s H bc=>?_) (fun F l6=>?_),Ki ?_,Kh ?_⟩
 ·exact Jn (X:=ft X scope N cl C s H bc) aB (BG (xf (X:=ft X scope N cl C s H bc) cB ar (.inl ai) (.inr ai)) (BG (xf (X:=ft X scope N cl C s H bc) cB cz (.inl hm) (.inr hm)) Jo rfl) rfl) rfl rfl
 ·rw[←l6];exact GJ rfl (Ah (vJ i) (Ah (vJ j) GI))
 ·intro f hf;rcases List.mem_cons.mp hf with rfl|hf
  ·exact xD i
  ·rw[List.mem_singleton.mp hf];exact xD j
 ·intro f hf;rcases List.mem_cons.mp hf with rfl|hf
  ·exact xC i
  ·rw[List.mem_singleton.mp hf];exact xC j
theorem UC(nl:Nat)(caps:List Nat){ifs:List adI}{mi:aY}{set:D→av→R av}{mt:cH}{fh:aN}(S:qP X.env.scope X.N scope N nl caps=true)(ar:si X F cj iter mi)(aO:qz X scope N cj set)(bT:lR X scope N ifs mt)(he:r_ X scope N elt fh)(aB:X.calm=true:=by rfl)(a5:F.K=X.K:=by rfl)(hs:∀x,ad6 iter X.env x=pure x:=by intro _;rfl):D2 X F (.ListComp elt [⟨cj,iter,ifs,0⟩] scope pos) (dx nl caps mi set mt fh):=
 UB (.of S) ar aO.g aO.bO aO.aM bT he aB a5 hs
theorem W7(i:Nat)(nl:Nat)(caps:List Nat){y:Str}{py:Pos}{ifs:List adI}{mi:aY}{set:D→av→R av}{mt:cH}{fh:aN}{ct:Pos}(cB:X.N.Nodup)(S:qP X.env.scope X.N scope N nl caps=true)(ar:si X F cj iter mi)(aO:qz X scope N cj set)(bT:lR X scope N ifs mt)(he:r_ X scope N elt fh)(bq:X.N[i]?=some y:=by rfl)(ai:X.env.kindOf y=some .local:=by rfl)(pM:afB (.ListComp elt [⟨cj,iter,ifs,0⟩] scope ct) (some (.Name y py)) pos.line X.env=pure true:=by rfl)(aB:X.calm=true:=by rfl)(a5:F.K=X.K:=by rfl)(hs:∀x,ad6 iter X.env x=pure x:=by intro _;rfl) :
  Eb X F (.Assign [.Name y py] (.ListComp elt [⟨cj,iter,ifs,0⟩] scope ct) pos) (fG i (dx nl caps mi set mt fh)):=
 W6 i cB (.of S) ar aO.g aO.bO aO.aM bT he bq ai pM aB a5 hs
noncomputable def ng(i:Nat)(a:aY):bl:=fun ρ=>((fG i a) ρ).bind fun f=>match f with
 |.bO bJ=>.ok (.bO (kX i bJ))
 |f=>.ok f
def Tu:aN:=fun _=>.ok (.dA [] [])
end
theorem Dn{K:PySem.W.Frag}{c:ada}{dd:Option ada}{its:Array ac1}{n:Nat}{cV:Array (Option ac1)}{xs:List V}{ds:List D}(l:K.lookup c=some ⟨.type "tuple",dd,.seq its n,cV⟩)(bo:its.size≤adq)(v:Vals xs its.toList)(a:∀G,aP K G ds xs) :
  ∀G,At K G (.dB ds) (.ref c):=fun G=>by
 simp only[At];exact⟨c,xs,rfl,.inr ⟨_,its,n,l,rfl,rfl,bo,v⟩,a G⟩
theorem nt(i:Int)(t:Tok):RelV (.int i) (.int i t):=⟨t,rfl⟩
theorem xq(x:Str)(t:Tok):RelV (.str x) (.str x t):=⟨t,rfl⟩
theorem mS{K:PySem.W.Frag}{G:ah}(i:Int):At K G (.int i) (.int i):=by simp only[At]
theorem u9{K:PySem.W.Frag}{G:ah}(i:Str):At K G (.str i) (.str i):=by simp only[At]
structure bb(X:aQ)(F:bG)(e:adI)(m:aN):Prop where
 o:a6 X e (cZ F m)
structure iI(X:aQ)(F:bG)(e:adI)(m:aY):Prop where
 o:a6 X e (jW F m)
structure fl(X:aQ)(F:bG)(e:adI)(m:cH):Prop where
 o:e9 X e (gq F m)
structure pb(X:aQ)(F:bG)(e:adI)(m:cH):Prop where
 o:iB X e (gq F m)
structure fb(X:aQ)(F:bG)(es:List adI)(m:aY):Prop where
 o:fk X es (eE F m)
structure fB(X:aQ)(F:bG)(st:aep)(m:bl):Prop where
 o:dG X st (fH F m)
structure i8(X:aQ)(F:bG)(st:List aep)(m:bl):Prop where
 o:f_ X st (fH F m)
structure lY(X:aQ)(F:bG)(cj e:adI)(m:aY):Prop where
 o:f9 X cj e (kB F m)
structure u7(X:aQ)(F:bG)(e:Option adI)(m:nP):Prop where
 o:sv X e (Dd F m)
section
variable{X:aQ}{F:bG}{e a b c cj iter elt:adI}{es:List adI}{pos p:Pos}{m n:aN}{ma:aY}{st:aep}{qf:List aep}
theorem af(i:Nat){x:Str}(cB:X.N[i]?=some x:=by rfl)(bW:iH X.env.scope x:=by first|exact aeQ rfl|exact aed (aeQ rfl)|exact aed (aed rfl))(hd:(x==("__debug__" :Str))=false:=by decide)(en:(x==("__classdict__" :Str))=false:=by decide):bb X F (.Name x pos) (U i):=⟨a6.imp (lz cB bW hd en) (Rk i)⟩
theorem aL{i:Int}{j}:bb X F (.Constant (.int i) j pos) (ao (.int i)):=⟨a6.imp Vy (th fun _=>by simp only[At])⟩
theorem hT{i:Bool}{j}:bb X F (.Constant (.bool i) j pos) (ao (.aF i)):=⟨a6.imp Vm (th fun _=>by simp only[At])⟩
theorem eW{i:Str}{j}:bb X F (.Constant (.str i) j pos) (ao (.str i)):=⟨a6.imp BF (th fun _=>by simp only[At])⟩
theorem e8{j}:bb X F (.Constant .none j pos) (ao .non):=⟨a6.imp VF (th fun _=>by simp only[At])⟩
theorem aI:fb X F [] aC:=⟨fk.imp mr HC⟩
theorem ak{m:aN}{r:aY}(h:bb X F e m)(t:fb X F es r)(hs:notStar e=true:=by rfl):fb X F (e::es) (ae m r):=⟨have h:=h.1;have t:=t.1;fk.imp (kr h t (Kx e es X.env hs)) QG⟩
theorem d2{k}{m:aY}(h:fb X F es m):bb X F (.Tuple es k pos) (cU m):=⟨have h:=h.1;a6.imp (Jm h) Rh⟩
theorem fI{m:aY}(h:fb X F es m):iI X F (.List es pos) (ez m):=⟨have h:=h.1;a6.imp (VB h) QX⟩
theorem c8{m:aY}(h:iI X F e m):bb X F e (cN m):=⟨have h:=h.1;a6.imp h QP⟩
theorem uH{m:aN}(h:bb X F e m):bb X F e (nc m):=⟨have h:=h.1;a6.imp h QA⟩
theorem uN{m:cH}(h:fl X F e m):fl X F e (jh m):=⟨have h:=h.1;e9.imp h QC⟩
theorem fp{m:aN}(h:bb X F e m)(he:∀whole,isTrue e X.env whole=(do let v ←whole;ai1 e.pos;aiC [v] (truthy v)):=by intro _;rfl):fl X F e (a_ m):=⟨have h:=h.1;e9.imp (Wc h he) v3⟩
theorem r8{m:cH}(h:fl X F a m):pb X F (.BoolOp .And [a] pos) m:=⟨have h:=h.1;Wi h⟩
theorem ip{m:cH}(h:fl X F a m):pb X F (.BoolOp .Or [a] pos) m:=⟨have h:=h.1;Wk h⟩
theorem r7{m n:cH}(h:fl X F a m)(k:pb X F (.BoolOp .And (b::es) pos) n):pb X F (.BoolOp .And (a::b::es) pos) (iV m n):=⟨have h:=h.1;have k:=k.1;iB.imp (Wh h k) Qy⟩
theorem hU{m n:cH}(h:fl X F a m)(k:pb X F (.BoolOp .Or (b::es) pos) n):pb X F (.BoolOp .Or (a::b::es) pos) (eP m n):=⟨have h:=h.1;have k:=k.1;iB.imp (Wj h k) Q5⟩
theorem gF{m:cH}(h:pb X F e m):fl X F e m:=⟨have h:=h.1;iB.pt h⟩
theorem fJ{m:cH}(h:fl X F a m):fl X F (.UnaryOp .Not a pos) (d7 m):=⟨have h:=h.1;e9.imp (Wb h) Q2⟩
theorem jY{op}{m:aN}(h:bb X F a m):bb X F (.BoolOp op [a] pos) m:=⟨have h:=h.1;VH h⟩
theorem lJ{m n:aN}(h:bb X F a m)(k:bb X F (.BoolOp .And (b::es) pos) n):bb X F (.BoolOp .And (a::b::es) pos) (iW m n):=⟨have h:=h.1;have k:=k.1;a6.imp (Vl h k) Qz⟩
theorem LK{m n:aN}(h:bb X F a m)(k:bb X F (.BoolOp .Or (b::es) pos) n):bb X F (.BoolOp .Or (a::b::es) pos) (ry m n):=⟨have h:=h.1;have k:=k.1;a6.imp (VI h k) Q6⟩
theorem LJ{m:aN}(h:bb X F a m):bb X F (.UnaryOp .Not a pos) (rx m):=⟨have h:=h.1;a6.imp (VG h) Q3⟩
theorem LD{k:cH}{m n:aN}(h:fl X F c k)(ag:bb X F a m)(J:bb X F b n):bb X F (.IfExp c a b pos) (ru k m n):=⟨have h:=h.1;have ag:=ag.1;have J:=J.1;a6.imp (Vx h ag J) QR⟩
theorem dD:i8 X F [] cC:=⟨f_.imp JC Q1⟩
theorem bC{m n:bl}(h:fB X F st m)(k:i8 X F qf n):i8 X F (st::qf) (a4 m n):=⟨have h:=h.1;have k:=k.1;f_.imp (JB h k) Ra⟩
theorem bw{m:bl}(h:fB X F st m):i8 X F [st] m:=⟨have h:=h.1;BJ h⟩
theorem DQ{m:aN}(h:bb X F e m)(hs:oA e=true:=by rfl):fB X F (.Expr e pos) (pW m):=⟨have h:=h.1;dG.imp (xi h (nz _ _ _ _ hs)) QL⟩
theorem cL{m:aN}(h:bb X F e m):fB X F (.Return (some e) pos) (b2 m):=⟨have h:=h.1;dG.imp (xj h) Q8⟩
theorem LU{m:aY}(h:iI X F e m):fB X F (.Return (some e) pos) (jj m):=⟨have h:=h.1;dG.imp (xj h) Q9⟩
theorem uL(i:Nat){x:Str}{p:Pos}(cB:X.N[i]?=some x:=by rfl)(bW:iH X.env.scope x:=by first|exact aeQ rfl|exact aed (aeQ rfl)|exact aed (aed rfl))(hd:(x==("__debug__" :Str))=false:=by decide)(en:(x==("__classdict__" :Str))=false:=by decide):fB X F (.Return (some (.Name x p)) pos) (jj (mm i)):=⟨dG.imp (xj (lz cB bW hd en)) (Q_ i)⟩
theorem dm{k:cH}{m n:bl}{xs ys:List aep}(h:fl X F c k)(ag:i8 X F xs m)(J:i8 X F ys n):fB X F (.If c xs ys pos) (cu k m n):=⟨have h:=h.1;have ag:=ag.1;have J:=J.1;dG.imp (Jz h ag J) QS⟩
theorem dr(i:Nat){x:Str}{p:Pos}{m:aN}(cB:X.N.Nodup)(he:bb X F e m)(ar:X.N[i]?=some x:=by rfl)(ax:Loc X.env.scope x:=by first|exact aeQ rfl|exact aed rfl)(hs:oA e=true:=by rfl)(hf:X.fn x=true∨X.env.scope.names.lookup x=some .local:=by first|exact .inl rfl|exact .inr rfl):fB X F (.Assign [.Name x p] e pos) (cT i m):=⟨have he:=he.1;dG.imp (ub cB ar ax he (nz _ _ _ _ hs) hf) Rb⟩
theorem lM(i:Nat){x:Str}{p:Pos}{m:aY}(cB:X.N.Nodup)(he:iI X F e m)(ar:X.N[i]?=some x:=by rfl)(ax:Loc X.env.scope x:=by first|exact aeQ rfl|exact aed rfl)(hs:oA e=true:=by rfl)(hf:X.fn x=true∨X.env.scope.names.lookup x=some .local:=by first|exact .inl rfl|exact .inr rfl):fB X F (.Assign [.Name x p] e pos) (fG i m):=⟨have he:=he.1;dG.imp (ub cB ar ax he (nz _ _ _ _ hs) hf) AP⟩
theorem mA(ag:bb X F a m)(J:bb X F b n):bb X F (.BinOp a .Sub b pos) (aj kA m n):=⟨have ag:=ag.1;have J:=J.1;qT U5 (rO fun _ _ _=>by simp only[At]) ag J⟩
theorem r4(ag:bb X F a m)(J:bb X F b n):bb X F (.BinOp a .Mult b pos) (aj ll m n):=⟨have ag:=ag.1;have J:=J.1;qT U1 (w3 fun _ _ _=>by simp only[At]) ag J⟩
theorem lL(ag:bb X F a m)(J:bb X F b n):bb X F (.BinOp a .FloorDiv b pos) (aj hZ m n):=⟨have ag:=ag.1;have J:=J.1;qT UZ (w3 fun _ _ _=>by simp only[At]) ag J⟩
theorem fz(ag:bb X F a m)(J:bb X F b n):bb X F (.BinOp a .Mod b pos) (aj eA m n):=⟨have ag:=ag.1;have J:=J.1;qT U0 (w3 fun _ _ _=>by simp only[At]) ag J⟩
theorem DM(ag:bb X F a m)(J:bb X F b n):bb X F (.BinOp a .Pow b pos) (aj lA m n):=⟨have ag:=ag.1;have J:=J.1;qT U4 (w3 fun _ _ _=>by simp only[At]) ag J⟩
theorem DR(ag:bb X F a m)(J:bb X F b n):fl X F (.Compare a [.Lt] [b] pos) (a_ (aj pU m n)):=⟨have ag:=ag.1;have J:=J.1;oO I_ (rO fun _ _ _=>by simp only[At]) ag J (mq _)⟩
theorem ya(ag:bb X F a m)(J:bb X F b n):fl X F (.Compare a [.Gt] [b] pos) (a_ (aj oc m n)):=⟨have ag:=ag.1;have J:=J.1;oO I7 (rO fun _ _ _=>by simp only[At]) ag J (mq _)⟩
theorem Zn(ag:bb X F a m)(J:bb X F b n):bb X F (.Compare a [.Gt] [b] pos) (aj oc m n):=⟨have ag:=ag.1;have J:=J.1;sJ I7 (rO fun _ _ _=>by simp only[At]) ag J (mq _)⟩
theorem hq(ag:bb X F a m)(J:bb X F b n):bb X F (.BinOp a .Add b pos) (aj fs m n):=⟨have ag:=ag.1;have J:=J.1;qT (UX.or (UY.or w7)) UJ ag J⟩
theorem il(aJ:X.A.units+64<aew)(ag:bb X F a m)(J:bb X F b n)(a5:F.K=X.K:=by rfl):fl X F (.Compare a [.Eq] [b] pos) (a_ (aj (cw true) m n)):=⟨have ag:=ag.1;have J:=J.1;oO (I6 a5 aJ) (w2 true) ag J (mq _)⟩
theorem nH(aJ:X.A.units+64<aew)(ag:bb X F a m)(J:bb X F b n)(a5:F.K=X.K:=by rfl):fl X F (.Compare a [.NotEq] [b] pos) (a_ (aj (cw false) m n)):=⟨have ag:=ag.1;have J:=J.1;oO (Ja a5 aJ) (w2 false) ag J (mq _)⟩
theorem r3(aJ:X.A.units+64<aew)(ag:bb X F a m)(J:bb X F b n)(a5:F.K=X.K:=by rfl):bb X F (.Compare a [.Eq] [b] pos) (aj (cw true) m n):=⟨have ag:=ag.1;have J:=J.1;sJ (I6 a5 aJ) (w2 true) ag J (mq _)⟩
theorem Zr(aJ:X.A.units+64<aew)(ag:bb X F a m)(J:bb X F b n)(a5:F.K=X.K:=by rfl):bb X F (.Compare a [.NotEq] [b] pos) (aj (cw false) m n):=⟨have ag:=ag.1;have J:=J.1;sJ (Ja a5 aJ) (w2 false) ag J (mq _)⟩
theorem L0(aJ:X.A.units+64<aew)(ag:bb X F a m)(J:bb X F b n)(a5:F.K=X.K:=by rfl)(hm:adT .In b=false:=by with_unfolding_all rfl):fl X F (.Compare a [.In] [b] pos) (a_ (aj (inD true) m n)):=⟨have ag:=ag.1;have J:=J.1;oO (I8 a5 aJ) (Bx true) ag J hm⟩
theorem qt(aJ:X.A.units+64<aew)(ag:bb X F a m)(J:bb X F b n)(a5:F.K=X.K:=by rfl)(hm:adT .NotIn b=false:=by with_unfolding_all rfl):fl X F (.Compare a [.NotIn] [b] pos) (a_ (aj (inD false) m n)):=⟨have ag:=ag.1;have J:=J.1;oO (U2 a5 aJ) (Bx false) ag J hm⟩
theorem uI(aJ:X.A.units+64<aew)(ag:bb X F a m)(J:bb X F b n)(a5:F.K=X.K:=by rfl)(hm:adT .In b=false:=by with_unfolding_all rfl):bb X F (.Compare a [.In] [b] pos) (aj (inD true) m n):=⟨have ag:=ag.1;have J:=J.1;sJ (I8 a5 aJ) (Bx true) ag J hm⟩
theorem nG(ag:bb X F a m)(J:bb X F b n):fl X F (.Compare a [.Is] [b] pos) (a_ (aj (e5 true) m n)):=⟨have ag:=ag.1;have J:=J.1;oO I9 (fun σ ρ G H x y a8 gj Q r b9 c3 k=>by
 unfold e5 at k
 split at k
 ·simp only[At]at c3;rw[AV b9]at k;exact⟨c3,k _ H G r (cq.refl _ _) (by simp only[At];rfl)⟩
 ·exact k.elim) ag J (mq _)⟩
theorem L1(ag:bb X F a m)(J:bb X F b n):fl X F (.Compare a [.IsNot] [b] pos) (a_ (aj (e5 false) m n)):=⟨have ag:=ag.1;have J:=J.1;oO U3 (fun σ ρ G H x y a8 gj Q r b9 c3 k=>by
 unfold e5 at k
 split at k
 ·simp only[At]at c3;rw[AV b9]at k;exact⟨c3,k _ H G r (cq.refl _ _) (by simp only[At];rfl)⟩
 ·exact k.elim) ag J (mq _)⟩
theorem DL(ag:bb X F a m)(J:bb X F b n):bb X F (.Compare a [.Is] [b] pos) (aj (e5 true) m n):=⟨have ag:=ag.1;have J:=J.1;sJ I9 (fun σ ρ G H x y a8 gj Q r b9 c3 k=>by
 unfold e5 at k
 split at k
 ·simp only[At]at c3;rw[AV b9]at k;exact⟨c3,k _ H G r (cq.refl _ _) (by simp only[At];rfl)⟩
 ·exact k.elim) ag J (mq _)⟩
theorem Zl{op iY:ajc}{r bF:e_}{f g:D→D→R D}{l:aN}(aE:ee X (ad0 op) r)(eo:ee X (ad0 iY) bF)(hf:hv F r f)(aO:hv F bF g)(ag:bb X F a m)(J:bb X F b n)(aB:bb X F c l)(hm:lastMarks [op,iY] [b,c]=false:=by with_unfolding_all rfl):bb X F (.Compare a [op,iY] [b,c] pos) (jP f g m n l):=⟨have ag:=ag.1;have J:=J.1;have aB:=aB.1;a6.imp (Vo aE eo ag J aB hm) (HA hf aO)⟩
theorem LY{op iY:ajc}{r bF:e_}{f g:D→D→R D}{l:aN}(aE:ee X (ad0 op) r)(eo:ee X (ad0 iY) bF)(hf:hv F r f)(aO:hv F bF g)(ag:bb X F a m)(J:bb X F b n)(aB:bb X F c l)(hm:lastMarks [op,iY] [b,c]=false:=by with_unfolding_all rfl):fl X F (.Compare a [op,iY] [b,c] pos) (a_ (jP f g m n l)):=⟨have ag:=ag.1;have J:=J.1;have aB:=aB.1;e9.imp (V_ aE eo ag J aB hm) fun σ H Q h=>by obtain⟨G,ρ,r,k⟩:=Hx (F:=F) (m:=jP f g m n l) σ H Q h;exact HA hf aO σ H _ ⟨G,ρ,r,k⟩⟩
theorem e7(hm:X.mg "len"=none)(ag:fb X F [e] ma)(a5:F.K=X.K:=by rfl)(aO:dM X "len":=by rfl)(he:ac5 [e] X.env=(false,aeq e X.env)::ac5 [] X.env:=by rfl)(de:(adR pos (ac5 [] X.env)).any (·.1)=false:=by rfl):bb X F (.Call (.Name "len" p) [e] [] pos) (cM dC ma):=⟨have ag:=ag.1;zU Nf (UM a5) hm PySem.boot_len ag aO (by decide) (by decide) he de⟩
theorem ik{fa:Str}{T:String}{cD:Pos}(tt:pa X.K T)(hm:X.mg "isinstance"=none)(PW:X.mg fa=none)(Pe:aer fa=some (.type T))(ag:bb X F a m)(a5:F.K=X.K:=by rfl)(aO:dM X "isinstance":=by rfl)(PB:dM X fa:=by rfl)(PZ:fa≠"__name__":=by decide)(Pq:(fa==("__debug__" :Str))=false:=by decide)(eU:ac5 [.Name fa cD] X.env=(false,aeq (.Name fa cD) X.env)::ac5 [] X.env:=by rfl)(he:ac5 [a,.Name fa cD] X.env=(false,aeq a X.env)::ac5 [.Name fa cD] X.env:=by rfl)(de:(adR pos (ac5 [.Name fa cD] X.env)).any (·.1)=false:=by rfl):bb X F (.Call (.Name "isinstance" p) [a,.Name fa cD] [] pos) (dI (fx T) m):=⟨by
 have ag:=ag.1;have J:aer "isinstance"=some (.builtin "isinstance"):=by kernel_rfl
 refine a6.imp (xb (Nd a5 tt) aO hm J (kr ag (kr (Vn PB PW Pe (v:=.ty T) rfl PZ Pq) mr eU) he) (by decide) (by decide) he de) ?_;rintro σ H Q ⟨G,ρ,r,h⟩;unfold dI at h;refine⟨G,ρ,r,?_⟩;cases aw:m ρ with
 |bad=>rw[aw]at h;exact h.elim
 |exc c=>rw[aw]at h;exact h
 |ok d=>
  rw[aw,R.bM]at h;intro x H1 aW az s1 b9;unfold fx at h;cases e:uB d with
  |none=>rw[e]at h;exact h.elim
  |some sy=>rw[e]at h;exact⟨aW,d,x,sy,az.aM.sub,rfl,b9,e,h _ H1 aW az s1 (by simp only[At])⟩⟩
theorem bB(ag:bb X F a m)(J:bb X F b n)(hs:yF b)(a5:F.K=X.K:=by rfl):bb X F (.Subscript a b pos) (aj aG m n):=⟨have ag:=ag.1;have J:=J.1;a6.imp (Vz RS ag J hs) (v5 (UL a5))⟩
theorem r6:u7 X F none ot:=⟨fun pins s σ H Q I h=>by obtain⟨G,ρ,r,k⟩:=h;exact VY pins s σ H Q I (k H G r (cq.refl _ _))⟩
theorem oW(h:bb X F e m):u7 X F (some e) (lb m):=⟨have h:=h.1;fun pins s σ H Q I hw=>by
 obtain⟨G,ρ,r,k⟩:=hw;refine VZ h pins s σ H Q I ⟨G,ρ,r,?_⟩;unfold lb at k;cases aw:m ρ with
 |bad=>rw[aw]at k;exact k.elim
 |exc c=>rw[aw]at k;exact k
 |ok d=>
  rw[aw,R.bM]at k;intro x H1 aW az s1 b9;cases d with
  |int i=>simp only[At]at b9;exact⟨i,b9,k H1 aW az s1⟩
  |_=>exact k.elim⟩
theorem qr{lo ar:Option adI}{cD:Pos}{IG ID:nP}(ag:bb X F a m)(ai:u7 X F lo IG)(bD:u7 X F ar ID)(a5:F.K=X.K:=by rfl):bb X F (.Subscript a (.Slice lo ar none cD) pos) (lg ky m IG ID):=⟨have ag:=ag.1;have ai:=ai.1;have bD:=bD.1;a6.imp (VJ (XS.or XT) ag ai bD) (Rd a5)⟩
theorem LL(hm:X.mg "str"=none)(ag:fb X F [e] ma)(aO:dM X "str":=by rfl)(he:ac5 [e] X.env=(false,aeq e X.env)::ac5 [] X.env:=by rfl)(de:(adR pos (ac5 [] X.env)).any (·.1)=false:=by rfl):bb X F (.Call (.Name "str" p) [e] [] pos) (cM oM ma):=⟨have ag:=ag.1;zV Nl UR hm (by kernel_rfl) ag aO (by decide) (by decide) he de⟩
theorem fq(h:bb X F e m)(a5:F.K=X.K:=by rfl):lY X F cj e (ep m):=⟨have h:=h.1;f9.imp (VM h) (by rw[←a5];exact QV)⟩
theorem ZM(h:bb X F e m)(a5:F.K=X.K:=by rfl):lY X F cj e (rt m):=⟨have h:=h.1;f9.imp (VP h) (by rw[←a5];exact Rj)⟩
theorem ZL(h:bb X F e m):lY X F cj e (tC m):=⟨have h:=h.1;f9.imp (VO h) Rf⟩
theorem iq(hm:X.mg "range"=none)(ag:fb X F [a] ma)(aO:dM X "range":=by rfl)(hs:ac5 [a] X.env=[(false,aeq a X.env)]:=by rfl):lY X F cj (.Call (.Name "range" p) [a] [] pos) (fZ ma):=⟨have ag:=ag.1;f9.imp (VN aO hm ag hs) Q7⟩
theorem DS{elts:List adI}{k:Nat}{ux:Pos}(hm:X.mg "enumerate"=none)(ag:fb X F [a] ma)(a5:F.K=X.K:=by rfl)(aO:dM X "enumerate":=by rfl)(hs:ac5 [a] X.env=[(false,aeq a X.env)]:=by rfl):lY X F (.Tuple elts k ux) (.Call (.Name "enumerate" p) [a] [] pos) (pX ma):=⟨have ag:=ag.1;f9.imp (VL aO hm ag hs) (QN a5)⟩
theorem ZN{elts:List adI}{k:Nat}{ux:Pos}(hm:X.mg "zip"=none)(ag:fb X F [a,b] ma)(a5:F.K=X.K:=by rfl)(aO:dM X "zip":=by rfl)(hs:ac5 [a,b] X.env=[(false,aeq a X.env),(false,aeq b X.env)]:=by rfl)(eU:ac5 [b] X.env=[(false,aeq b X.env)]:=by rfl):lY X F (.Tuple elts k ux) (.Call (.Name "zip" p) [a,b] [] pos) (tD ma):=⟨have ag:=ag.1;f9.imp (VR aO hm ag hs eU) (Rm a5)⟩
theorem gs{body:List aep}{mi:aY}{set:D→av→R av}{gC:bl}(aS:PassesOwn (adu X.prog X.w) X.A X.env X.xe)(ar:lY X F cj iter mi)(aO:GM X cj set)(J:i8 X F body gC)(aB:X.calm=true:=by rfl)(a5:F.K=X.K:=by rfl)(hs:∀x,ad6 iter X.env x=pure x:=by intro _;rfl):fB X F (.For cj iter body [] pos) (d6 mi set gC):=⟨by
 have ar:=ar.1;have J:=J.1;obtain⟨⟨g,h1,h2⟩,h3,_⟩:=aO;exact dG.imp (V7 aS aB ar h1 J hs) (QO (h2 F a5) h3)⟩
theorem uM{st:aep}{i:Nat}{a:aY}(h:fB X F st (fG i a)):fB X F st (ng i a):=⟨have h:=h.1;dG.imp h fun c0 σ H⟨G,ρ,r,k⟩=>by
 refine⟨G,ρ,r,?_⟩;unfold ng at k;cases e:fG i a ρ with
 |bad=>rw[e]at k;exact k.elim
 |exc c=>rw[e]at k;exact k
 |ok f=>
  rw[e,R.bM]at k;cases f with
  |bO bJ=>intro σ' G' H' bF s';obtain⟨dg,bg,s2⟩:=bF.kX i;exact k σ' dg H' bg (s'.trans s2)
  |dJ d=>exact k
  |jn d=>exact k
  |eh d=>exact k
  |fV d=>exact k
  |c_ d=>exact k⟩
theorem oV{k:Nat}(au:dW k X.A)(hm:X.mg "all"=none)(ag:fb X F [e] ma)(aB:X.calm=true:=by rfl)(aO:dM X "all":=by rfl)(he:ac5 [e] X.env=(false,aeq e X.env)::ac5 [] X.env:=by rfl)(de:(adR pos (ac5 [] X.env)).any (·.1)=false:=by rfl):bb X F (.Call (.Name "all" p) [e] [] pos) (cM dn ma):=⟨have ag:=ag.1;zU (Na aB au.hd) UK hm (by kernel_rfl) ag aO (by decide) (by decide) he de⟩
theorem qs (i:Nat) {x:Str} {aT:Pos} {apos:Pos} {ct:Pos} (he:bb X F e m) (cB:X.N[i]?=some x:=by rfl) (bW:iH X.env.scope x:=by first|exact aeQ rfl|exact aed (aeQ rfl)|exact aed (aed rfl)) (hd:(x==("__debug__" :Str))=false:=by decide) (en:(x==("__classdict__" :Str))=false:=by decide) (iO:aeb (.Name x aT) "append" X.env (aeq (.Name x aT) X.env)=aeq (.Name x aT) X.env:=by rfl) (iR:(apos.endLine==ct.line)=true:=by rfl) (iQ:((adR ct (ac5 [e] X.env)).all (fun x=>!x.1)&&(ae7 ct (aee [] X.env)).all (fun x=>x.1.isSome)
   &&decide (([e]:List adI).length+([]:List ae3).length+(if([]:List ae3).isEmpty then 0 else 1)<30))=true:=by rfl) (hs:ac5 [e] X.env=(false,aeq e X.env)::ac5 [] X.env:=by rfl) (iS:(adR ct (ac5 [] X.env)).any (·.1)=false:=by rfl) (a5:F.K=X.K:=by rfl):fB X F (.Expr (.Call (.Attribute (.Name x aT) "append" apos) [e] [] ct) pos) (hP i m):=⟨by
 have he:=he.1;refine dG.imp (xi (qa PySem.F.plainAttrs_list PySem.F.slot_list_append PySem.F.type_list_append Bq (lz cB bW hd en) (kr he mr hs) iO iQ iR hs iS) (nz _ _ _ _ rfl)) ?_;rintro c0 σ H ⟨G,ρ,r,h⟩;unfold hP ownAt at h;cases c4:ρ[i]? with
 |none=>rw[c4]at h;exact h.elim
 |some s=>
  rw[c4]at h;cases s with
  |un=>exact h.elim
  |aA _=>exact h.elim
  |eB _=>exact h.elim
  |bf bf=>
   cases bf with
   |bx _ _=>exact h.elim
   |ins _ _ _=>exact h.elim
   |lst ds=>
    obtain⟨q,xs,aq,h1,h2,h3,h4⟩:=r.own c4;have h:hO F G c0 ((m ρ).bind fun d=>if ds.length<1000000 then .ok (.bO (ρ.set i (.dj (ds++[d]))))else .bad):=h;refine⟨.ref q,aq,.inl ⟨rfl,xs,b7.of h1⟩,G,ρ,r,?_⟩;cases aw:m ρ with
    |bad=>rw[aw]at h;exact h.elim
    |exc c=>rw[aw]at h;exact h
    |ok d=>
     rw[aw,R.bM]at h;intro v H1 aW az s1 bp;obtain⟨dU,f5,gB,cO,cA,pG,hk⟩:=az.own c4;rw[aq]at gB;cases gB;by_cases ai:ds.length<1000000
     ·rw[if_pos ai]at h;refine⟨q,f5,v,rfl,rfl,cO,by rw[←hk.length];exact afJ ai (by decide),?_⟩;exact h σ aW _ (az.mut c4 aq (hk.snoc bp)) s1.g
     ·rw[if_neg ai]at h;exact h.elim⟩
theorem c7{x:Str}{n k:Nat}{mf:List D→R b6}(c:dt X.prog X.w X.K X.mg X.base x n k mf)(au:dW k X.A)(ag:fb X F (e::es) ma)(h_:F.hW=fun _ _=>False:=by rfl)(a5:F.K=X.K:=by rfl)(aO:dM X x:=by rfl)(gk:(x==("__debug__" :Str))=false:=by decide)(he:ac5 (e::es) X.env=(false,aeq e X.env)::ac5 es X.env:=by rfl)(de:(adR pos (ac5 es X.env)).any (·.1)=false:=by rfl):bb X F (.Call (.Name x p) (e::es) [] pos) (b5 n mf ma):=⟨by
 have ag:=ag.1;obtain⟨f,fd,ps,aK,iL,hm,aH,J⟩:=c.ex;refine a6.imp (xa iL au aO hm aH J .nil t_ ag gk he de) ?_;rw[←a5];exact Hy (xe:=fun _ _ _=>False) (E:=yp) h_⟩
theorem nF{x:Str}{n k:Nat}{mf:List D→R b6}(c:dt X.prog X.w X.K X.mg X.base x n k mf)(au:dW k X.A)(ag:fb X F (e::es) ma)(h_:F.hW=fun _ _=>False:=by rfl)(a5:F.K=X.K:=by rfl)(aO:dM X x:=by rfl)(gk:(x==("__debug__" :Str))=false:=by decide)(he:ac5 (e::es) X.env=(false,aeq e X.env)::ac5 es X.env:=by rfl)(de:(adR pos (ac5 es X.env)).any (·.1)=false:=by rfl):iI X F (.Call (.Name x p) (e::es) [] pos) (jO n mf ma):=⟨by
 have ag:=ag.1;obtain⟨f,fd,ps,aK,iL,hm,aH,J⟩:=c.ex;refine a6.imp (xa iL au aO hm aH J .nil t_ ag gk he de) ?_;rw[←a5];exact QE (xe:=fun _ _ _=>False) (E:=yp) h_⟩
variable{scope:ae6}{N:List Str}
abbrev D0(X:aQ)(scope:ae6)(N:List Str)(e:adI)(m:aN):Prop:=∀cl C s H bc b8 bK,bb (ft X scope N cl C s H bc) (fe X.K b8 bK) e m
theorem uG{mt:cH}(h:∀cl C s H bc b8 bK,fl (ft X scope N cl C s H bc) (fe X.K b8 bK) c mt):lR X scope N [c] mt:=bt.MX fun cl C s H bc b8 bK=>(h cl C s H bc b8 bK).1
theorem f3(nl:Nat)(caps:List Nat){ifs:List adI}{mi:aY}{set:D→av→R av}{mt:cH}{fh:aN}(S:qP X.env.scope X.N scope N nl caps=true)(ar:lY X F cj iter mi)(aO:qz X scope N cj set)(bT:lR X scope N ifs mt)(he:D0 X scope N elt fh)(aB:X.calm=true:=by rfl)(a5:F.K=X.K:=by rfl)(hs:∀x,ad6 iter X.env x=pure x:=by intro _;rfl):iI X F (.ListComp elt [⟨cj,iter,ifs,0⟩] scope pos) (dx nl caps mi set mt fh):=
 ⟨bt.UC nl caps S ar.1 aO bT (fun cl C s H bc b8 bK=>(he cl C s H bc b8 bK).1) aB a5 hs⟩
theorem x_(i:Nat)(nl:Nat)(caps:List Nat){y:Str}{py:Pos}{ifs:List adI}{mi:aY}{set:D→av→R av}{mt:cH}{fh:aN}{ct:Pos}(cB:X.N.Nodup)(S:qP X.env.scope X.N scope N nl caps=true)(ar:lY X F cj iter mi)(aO:qz X scope N cj set)(bT:lR X scope N ifs mt)(he:D0 X scope N elt fh)(bq:X.N[i]?=some y:=by rfl)(ai:X.env.kindOf y=some .local:=by rfl)(pM:afB (.ListComp elt [⟨cj,iter,ifs,0⟩] scope ct) (some (.Name y py)) pos.line X.env=pure true:=by rfl)(aB:X.calm=true:=by rfl)(a5:F.K=X.K:=by rfl)(hs:∀x,ad6 iter X.env x=pure x:=by intro _;rfl) :
  fB X F (.Assign [.Name y py] (.ListComp elt [⟨cj,iter,ifs,0⟩] scope ct) pos) (fG i (dx nl caps mi set mt fh)):=
 ⟨bt.W7 i nl caps cB S ar.1 aO bT (fun cl C s H bc b8 bK=>(he cl C s H bc b8 bK).1) bq ai pM aB a5 hs⟩
end
theorem dK{P:adp}{w:adJ}{K:PySem.W.Frag}{mg:Str→Option ac1}{base:adX}{x:Str}{st:aep}{N ps:List Str}{k:Nat}{m:bl}(d:df K mg x st ps)(S:cS N ps (b1 st))(h:∀(f:ada)(cv:ac1)(A:adG)(outer:List Env)(s:ac4)(H:ah)(E:dh),dW k (A.deeper (ad3 x (b1 st) s.heap.objs.size f cv))→∀b8 bK,i8 (e3 g7 P w K mg base N x (b1 st) f cv A outer s H E).hB (fe K b8 bK) (gh st) m) :
  dt P w K mg base x ps.length (k+1) (cY N.length m):=bt.NI d S fun f cv A outer s H E au b8 bK=>(h f cv A outer s H E au b8 bK).1
structure mI(K:PySem.W.Frag)(mg:Str→Option ac1)(x:Str)(d:D):Prop where
 ex:∃(v:V)(u:ac1),mg x=some u∧RelV v u∧∀G,At K G d v
theorem lK{X:aQ}{F:bG}{x:Str}{d:D}{pos:Pos}(c:mI X.K X.mg x d)(a5:F.K=X.K:=by rfl)(aO:dM X x:=by rfl)(hd:(x==("__debug__" :Str))=false:=by decide):bb X F (.Name x pos) (ao d):=by obtain⟨v,u,h1,h2,h3⟩:=c.ex;exact⟨bt.Oc h1 h2 (by rw[a5];exact h3) aO hd⟩
end bt
namespace a3
open PySem PySem.Spec PyProof.Rows
section
variable{X:aQ}{cj:adI}
noncomputable def D1(a b c:Int):Prop:=c≠0∧Builtin.Range.small a b c=true∧0≤afO a b c∧Builtin.divisionGoesByPylong (b-a) c=false
instance(a b c:Int):Decidable (D1 a b c):=by unfold D1;infer_instance
end
section
variable{X:aQ}{a e:adI}{cf:eL}{pos p pos' ly:Pos}
noncomputable def rJoin(K:PySem.W.Frag):V→List V→ah→cX→Prop:=fun x vs H Q=>∃sep p ys,x=.str sep∧vs=[.ref p]∧b7 K H p (ys.map V.str)∧(ys.map (·.length)).sum+ys.length*sep.length≤16777216∧Q (.str (Txt.join sep ys)) H
theorem Ln:∀{xs:List V}{us:List ac1},xs.length=us.length→(∀(i:Nat) x y,xs[i]?=some x→us[i]?=some y→RelV x y)→Vals xs us
 |[],[],_,_=>.nil
 |[],_::_,h,_=>by simp at h
 |_::_,[],h,_=>by simp at h
 |x::xs,u::us,h,f=>.cons (f 0 x u (by simp) (by simp)) (Ln (by simpa using h) fun i a b aq aD=>f (i+1) a b (by simpa using aq) (by simpa using aD))
theorem KD:∀{ys:List Str}{its:List ac1},Vals (ys.map V.str) its→StrsAre its ys
 |[],_,h=>by cases h;exact .nil
 |y::ys,_,h=>by
  cases h with
  |cons r lD=>obtain⟨t,rfl⟩:=r;exact .cons y t (KD lD)
theorem TX:yC X "str.join" (rJoin X.K):=by intro pins s σ H x vs v us Q I bH cg h;obtain⟨sep,p,ys,rfl,rfl,aR,bo,q⟩:=h;obtain⟨t,rfl⟩:=bH;obtain⟨u,rfl,eD⟩:=vals1 cg;cases eD;obtain⟨its,r,pl,_⟩:=I.list aR;exact join_list pl.isList (by simpa using KD r) bo fun t' k=>⟨.str _,H,I.tok _,⟨_,rfl⟩,q⟩
theorem Tg{pins:List (ada×Obj)}{σ :St}{H1:ah}{s2:ac4}{Q:cX}{r:ada}{j:Int}{t u v:Tok}(ck:Inv X pins σ H1 s2)(aB:X.calm=true)(au:IsRange s2.heap r 0 j 1 t u v)(aV: -(2^62)≤j)(bE:j≤1000000)(q:∀l,H1 l=none→Q (.ref l) (upd H1 l (.lst ((adf j.toNat).map fun i=>.int (i:Nat))))):adm (adu X.prog X.w) X.A (call (.type "list") [.ref r]) (gw X pins σ Q) X.xe s2:=by
 have aK:afO 0 j 1=(j.toNat:Nat):=by rw[rangeSize_one];split<;>omega
 refine call_list_range (ck.ok.hd aB) au (small_one (by omega) (by omega) (by omega) (by omega)) aK (by omega) fun h' cb u_ ey aM e it=>?_;obtain⟨acc,rfl⟩:∃l:List ac1,u_=l.toArray:=⟨u_.toList,by simp⟩;have bW:Vals ((adf j.toNat).map fun i=>V.int ((i:Nat):Int)) acc:=by
  have ai:acc.length=j.toNat:=by simpa using it.1
  refine Ln ?_ ?_
  ·simp[ai]
  ·intro i x y aq aD;rw[ade]at aq;have ar:i<j.toNat:=by rw[←ai];exact(List.getElem?_eq_some_iff.mp aD).1
   rw[ae9 ar]at aq;cases aq;obtain⟨tt,rfl⟩:=it.2 i y (by simpa using aD);exact⟨tt,by simp⟩
 exact⟨.ref _,_,ck.laid (t':=cb) aM (ac6 _) (show eK X.prog X.w _ h' _ (.lst _)from⟨adB (m:=1000000) (by simp;omega) (by decide),acc,ey,bW,e⟩),rfl,q _ (ck.bL.fresh (ac6 _))⟩
noncomputable def Yk(cf:eL):TE:=fun σ H Q=>cf σ H fun vs H1=>∃j:Int,vs=[.int j]∧-(2^62)≤j∧j≤1000000∧∀l,H1 l=none→Q (.ref l) (upd H1 l (.lst ((adf j.toNat).map fun i=>.int (i:Nat))))
theorem VA(aO:dM X "list")(hm:X.mg "list"=none)(s6:dM X "range")(k4:X.mg "range"=none)(aB:X.calm=true)(ag:fk X [a] cf)(hs:ac5 [a] X.env=[(false,aeq a X.env)]:=by rfl)(eU:ac5 [.Call (.Name "range" ly) [a] [] pos'] X.env=[(false,aeq (.Call (.Name "range" ly) [a] [] pos') X.env)]:=by rfl) :
  a6 X (.Call (.Name "list" p) [.Call (.Name "range" ly) [a] [] pos'] [] pos) (Yk cf):=by
 intro pins s σ H Q I h;refine afi (m9 (u:=.type "list") I aO hm (by kernel_rfl) ?_);refine adP ?_ eU rfl;rw[eU];refine afP ?_;refine Call_ (m9 I s6 k4 boot_range (adP (bZ (ag pos' pins s σ H _ I h) fun us s1⟨vs,H1,a0,az,aV⟩=>?_) hs rfl));obtain⟨j,e,aV,bE,q⟩:=aV;subst e;cases az with
 |cons r lD=>cases lD;obtain⟨t,rfl⟩:=r;refine call_range_1 (af2 ?_);exact Tg (a0.kept fun b o e=>ac0 _ e) aB (IsRange.new ..) aV bE q
end
end a3
namespace bt
open PySem PySem.Spec a3
abbrev gz:=av→R (D×av)
abbrev j2:=av→R (List D×av)
noncomputable def RY(F:bG)(G:ah)(σ :St)(Q:cX):R (D×av)→Prop
 |.ok (d,bJ)=>∀v H' G',Rel F G' H' σ bJ→Sub G G'→At F.K G' d v→Q v H'
 |.exc c=>km F c
 |.bad=>False
noncomputable def RW(F:bG)(G:ah)(σ :St)(Q:List V→ah→Prop):R (List D×av)→Prop
 |.ok (d,bJ)=>∀v H' G',Rel F G' H' σ bJ→Sub G G'→aP F.K G' d v→Q v H'
 |.exc c=>km F c
 |.bad=>False
def rX(F:bG)(m:gz):TE:=fun σ H Q=>∃G ρ,Rel F G H σ ρ∧RY F G σ Q (m ρ)
def ur(F:bG)(m:j2):eL:=fun σ H Q=>∃G ρ,Rel F G H σ ρ∧RW F G σ Q (m ρ)
def lf(m:aN):gz:=fun ρ=>(m ρ).bind fun d=>.ok (d,ρ)
def tr(m:aY):j2:=fun ρ=>(m ρ).bind fun d=>.ok (d,ρ)
section
variable{F:bG}
theorem QT{m:aN}:eR (rX F (lf m)) (cZ F m):=by
 rintro σ H Q ⟨G,ρ,r,h⟩;refine⟨G,ρ,r,?_⟩;unfold lf at h;cases aw:m ρ with
 |bad=>rw[aw]at h;exact h.elim
 |exc c=>rw[aw]at h;exact h
 |ok d=>rw[aw]at h;exact fun v H' G' bF u a=>h v H' G' bF u.g a
theorem QU{m:aY}:qE (ur F (tr m)) (eE F m):=by
 rintro σ H Q ⟨G,ρ,r,h⟩;refine⟨G,ρ,r,?_⟩;unfold tr at h;cases aw:m ρ with
 |bad=>rw[aw]at h;exact h.elim
 |exc c=>rw[aw]at h;exact h
 |ok d=>rw[aw]at h;exact fun v H' G' bF u a=>h v H' G' bF u.g a
def rq(a:gz)(r:j2):j2:=fun ρ=>(a ρ).bind fun x=>(r x.2).bind fun y=>.ok (x.1::y.1,y.2)
theorem QH{ma:gz}{nj:j2}:qE (ur F (rq ma nj)) (C8 (rX F ma) (ur F nj)):=by
 rintro σ H Q ⟨G,ρ,r,h⟩;unfold rq at h;refine⟨G,ρ,r,?_⟩;cases aw:ma ρ with
 |bad=>rw[aw]at h;exact h.elim
 |exc c=>rw[aw]at h;exact h
 |ok x=>
  obtain⟨a8,ea⟩:=x;rw[aw,R.bM]at h;intro x H1 aW az s1 b9;refine⟨aW,ea,az,?_⟩;cases bj:nj ea with
  |bad=>simp only[bj]at h;exact h.elim
  |exc c=>simp only[bj]at h;exact h
  |ok y=>obtain⟨gj,ew⟩:=y;simp only[bj,R.bM]at h;intro y bk dg bg s2 c3;exact h (x::y) bk dg bg (s1.trans s2) (.cons (b9.mono s2) c3)
def rB(m:j2):gz:=fun ρ=>(m ρ).bind fun x=>if x.1.length≤1000000 then .ok (.tup x.1,x.2)else .bad
theorem Ri{m:j2}:eR (rX F (rB m)) (Dg (ur F m)):=by
 rintro σ H Q ⟨G,ρ,r,h⟩;unfold rB at h;refine⟨G,ρ,r,?_⟩;cases aw:m ρ with
 |bad=>rw[aw]at h;exact h.elim
 |exc c=>rw[aw]at h;exact h
 |ok x=>
  obtain⟨ds,ea⟩:=x;rw[aw,R.bM]at h;intro vs H1 aW az s1 a;by_cases ai:ds.length≤1000000
  ·simp only[if_pos ai]at h;refine⟨by rw[←a.length];exact adB ai (by decide),fun p aS=>?_⟩;refine h (.ref p) _ _ (az.lay aS) (s1.trans (Sub.upd (az.aM.sub.gone aS))) ?_;simp only[At];exact⟨p,vs,rfl,et,a.mono (Sub.upd (az.aM.sub.gone aS))⟩
  ·simp only[if_neg ai]at h;exact h.elim
def rA(i:Nat)(a:gz):bl:=fun ρ=>(a ρ).bind fun x=>(br i x.1 x.2).bind fun bJ=>.ok (.bO bJ)
theorem Rc{i:Nat}{a:gz}:hu (fH F (rA i a)) (qh (rX F a) (jE i)):=by
 rintro c0 σ H ⟨G,ρ,r,h⟩;unfold rA br at h;refine⟨G,ρ,r,?_⟩;cases aw:a ρ with
 |bad=>rw[aw]at h;exact h.elim
 |exc c=>rw[aw]at h;exact h
 |ok x=>
  obtain⟨d,ea⟩:=x;rw[aw,R.bM]at h;intro v H1 aW az s1 bp;by_cases ar:i<ea.length
  ·simp only[if_pos ar]at h;exact h _ aW H1 (az.set ar bp) s1
  ·simp only[if_neg ar]at h;exact h.elim
def nf(a:gz):bl:=fun ρ=>(a ρ).bind fun x=>.ok (.bO x.2)
theorem QM{a:gz}:hu (fH F (nf a)) (C9 (rX F a)):=by
 rintro c0 σ H ⟨G,ρ,r,h⟩;unfold nf at h;refine⟨G,ρ,r,?_⟩;cases aw:a ρ with
 |bad=>rw[aw]at h;exact h.elim
 |exc c=>rw[aw]at h;exact h
 |ok x=>obtain⟨d,ea⟩:=x;rw[aw]at h;exact fun v H' G' bF s' _=>h σ G' H' bF s'
end
section
variable{F:bG}
def del(H:ah)(a:ada):ah:=fun b=>if b=a then none else H b
theorem NS{H:ah}{a:ada}:del H a a=none:=by simp[del]
theorem NR{H:ah}{a b:ada}(h:b≠a):del H a b=H b:=by simp[del,h]
theorem E_(H:ah)(a:ada):Sub (del H a) H:=fun b o e=>by
 unfold del at e
 split at e
 ·cases e
 ·exact e
end
section
variable{F:bG}
end
end bt
namespace bt
open PySem PySem.Spec a3 PyProof.Rows
theorem aP.erase{K:PySem.W.Frag}{G:ah}{ds:List D}{xs:List V}(n:Nat)(q:aP K G ds xs):aP K G (ds.eraseIdx n) (xs.eraseIdx n):=by rw[af6,af6];exact(q.take n).append (q.drop (n+1))
section
variable{X:aQ}{F:bG}{e a b c:adI}{es:List adI}{pos p:Pos}{m n:aN}{ma:aY}
noncomputable def ou(i:Nat)(m:aN):gz:=fun ρ=>(ownAt i ρ).bind fun ds=>(m ρ).bind fun d=>match d with
 |.int k=>if-(2^63)≤k∧k<2^63 then match ahJ k ds.length with
  |some j=>match ds[j]? with
   |some y=>.ok (y,ρ.set i (.dj (ds.eraseIdx j)))
   |none=>.bad
  |none=>.bad
  else .bad
 |_=>.bad
noncomputable def wz(i:Nat)(m:gz):bl:=fun ρ=>(ownAt i ρ).bind fun _=>(m ρ).bind fun x=>(ownAt i x.2).bind fun ds=>if ds.length<1000000 then .ok (.bO (x.2.set i (.dj (ds++[x.1]))))else .bad
def me:List D→R (List D)
 |[.lst xs]=>.ok xs
 |[.cJ xs]=>.ok xs
 |[.tup xs]=>.ok xs
 |_=>.bad
def ji(m:aY):aY:=fun ρ=>(m ρ).bind me
theorem QW(a5:F.K=X.K):eR (jW F (ji ma)) (xP (fun xs H Q=>∃p ys,xs=[.ref p]∧(b7 X.K H p ys∨c2 X.K H p ys)∧∀l,H l=none→Q (.ref l) (upd H l (.lst ys))) (eE F ma)):=by
 rintro σ H Q ⟨G,ρ,r,h⟩;unfold ji at h;refine⟨G,ρ,r,?_⟩;cases aw:ma ρ with
 |bad=>rw[aw]at h;exact h.elim
 |exc c=>rw[aw]at h;exact h
 |ok ds=>
  rw[aw,R.bM]at h;intro vs H1 aW az s1 a;unfold me at h
  split at h
  ·obtain⟨v,rfl,bp⟩:=a.one;simp only[At]at bp;obtain⟨q,xs,rfl,aR,fU⟩:=bp;refine⟨q,xs,rfl,.inl (b7.of (az.aM.sub _ _ aR)),fun l ai=>?_⟩;exact h l xs _ aW (az.lay0 ai) (s1.trans (cq.lay0 ai)) (s1.h.gone ai) et (az.aM.sub.gone ai) fU
  ·obtain⟨v,rfl,bp⟩:=a.one;simp only[At]at bp;obtain⟨q,xs,rfl,aR,fU⟩:=bp;refine⟨q,xs,rfl,.inl (by rw[←a5];exact b7.mono az.aM.sub aR),fun l ai=>?_⟩;exact h l xs _ aW (az.lay0 ai) (s1.trans (cq.lay0 ai)) (s1.h.gone ai) et (az.aM.sub.gone ai) fU
  ·obtain⟨v,rfl,bp⟩:=a.one;simp only[At]at bp;obtain⟨q,xs,rfl,aR,fU⟩:=bp;refine⟨q,xs,rfl,.inr (c2.of (az.aM.sub _ _ aR)),fun l ai=>?_⟩;exact h l xs _ aW (az.lay0 ai) (s1.trans (cq.lay0 ai)) (s1.h.gone ai) et (az.aM.sub.gone ai) fU
  ·exact h.elim
noncomputable def tu:List D→R (List D)
 |[.int j]=>if-(2^62)≤j∧j≤1000000 then .ok (gE 0 j.toNat)else .bad
 |_=>.bad
def wA(m:aY):aY:=fun ρ=>(m ρ).bind tu
theorem Eu{K:PySem.W.Frag}{G:ah}:∀(l:List Nat),aP K G (l.map fun i=>.int (0+((i:Nat):Int))) (l.map fun i=>V.int ((i:Nat):Int))
 |[]=>.nil
 |i::l=>.cons (by simp[At]) (Eu l)
def abb:List D→R D
 |[.int i,.int j]=>.ok (.int (if j<i then j else i))
 |_=>.bad
def rM:List D→R D
 |[.int i,.int j]=>.ok (.int (if j>i then j else i))
 |_=>.bad
theorem UO:mH F (fun xs H Q=>∃i j,xs=[.int i,.int j]∧Q (.int (if j>i then j else i)) H) rM:=by
 intro σ ρ G H xs ds Q r al k;unfold rM at k
 split at k
 ·exact⟨_,_,al.ints2,k _ H G r (cq.refl _ _) (by simp only[At])⟩
 ·exact k.elim
noncomputable def uw:List D→R D
 |[.int i]=>.ok (.int i)
 |[.aF k]=>.ok (.int (if k then 1 else 0))
 |[.str x]=>if x.length≤640 then match intText? x with|some i=>.ok (.int i)|none=>.bad else .bad
 |_=>.bad
theorem US:mH F (fun xs H Q=>((∃i,xs=[.int i]∧Q (.int i) H)∨∃k,xs=[.aF k]∧Q (.int (if k then 1 else 0)) H)∨((∃i,xs=[.int i]∧Q (.int i) H)∨∃x i,xs=[.str x]∧x.length≤640∧intText? x=some i∧Q (.int i) H)) uw:=by
 intro σ ρ G H xs ds Q r al k;unfold uw at k
 split at k
 ·rename_i i;exact .inl (.inl ⟨i,al.ints1,k _ H G r (cq.refl _ _) (by simp only[At])⟩)
 ·rename_i c;obtain⟨v,rfl,bp⟩:=al.one;simp only[At]at bp;subst bp;exact .inl (.inr ⟨c,rfl,k _ H G r (cq.refl _ _) (by simp only[At])⟩)
 ·rename_i x
  split at k
  ·rename_i ai
   split at k
   ·rename_i i ar;obtain⟨v,rfl,bp⟩:=al.one;simp only[At]at bp;subst bp;exact .inr (.inr ⟨x,i,rfl,ai,ar,k _ H G r (cq.refl _ _) (by simp only[At])⟩)
   ·exact k.elim
  ·exact k.elim
 ·exact k.elim
def uq:List D→Option (List Str)
 |[]=>some []
 |.str x::r=>(uq r).map (x::·)
 |_=>none
theorem KG{K:PySem.W.Frag}{G:ah}:∀{ds:List D}{xs:List V}{ys:List Str},aP K G ds xs→uq ds=some ys→xs=ys.map V.str
 |[],_,_,h,e=>by simp only[aP]at h;subst h;cases e;rfl
 |d::ds,_,_,h,e=>by
  simp only[aP]at h;obtain⟨v,r,rfl,q,t⟩:=h;cases d with
  |str x=>
   unfold uq at e;cases c4:uq ds with
   |none=>rw[c4]at e;cases e
   |some zs=>rw[c4]at e;cases e;simp only[At]at q;rw[q,KG t c4];rfl
  |_=>cases e
noncomputable def wc(sep:Str):List D→R D
 |[.lst ds]=>match uq ds with
  |some ys=>if(ys.map (·.length)).sum+ys.length*sep.length≤16777216 then .ok (.str (Txt.join sep ys))else .bad
  |none=>.bad
 |_=>.bad
def TF(set:D→av→R av)(m:aN):bl:=fun ρ=>(m ρ).bind fun d=>(set d ρ).bind fun bJ=>.ok (.bO bJ)
theorem Kq{n:Nat}{mf:List D→R b6}{xe:dh→Str→ah→Prop}{E:dh}{aW H1:ah}{σ :a3.St}{ρ:av}{ds:List D}{vs:List V}{Q:cX}(ax:F.hW=xe E)(az:Rel F aW H1 σ ρ)(a:aP F.K aW ds vs)(aK:ds.length=n)(h:ib F aW H1 σ ρ Q ((mf ds).bind iZ)):oL F.K n xe mf vs H1 Q E:=by
 refine⟨aW,ds,az.aM.sub,a,aK,?_⟩;cases e:mf ds with
 |bad=>rw[e]at h;exact h.elim
 |exc c=>rw[e]at h;intro G' H' k;have z:=h G' H' (eZ.of az k).aM;rw[ax]at z;exact z
 |ok t=>
  rw[e,R.bM]at h;cases t with
  |v d=>exact fun v G' H' k bp=>h v H' G' (eZ.of az k) ⟨k.fN,k.bD,k.new⟩ bp
  |o es=>intro p xs G' H' k h1 h2 h3 h4;have h2:H1 p=none:=h2;have bF:=eZ.of az k;have no:¬dS H' σ ρ p:=dS.fresh az k.bD h2;refine h (.ref p) H' _ (bF.take h3 h1 (az.aM.bD.gone h2) no) (cq.put ⟨k.fN,k.bD,k.new⟩ h2 h1) ?_;simp only[At];exact⟨p,xs,rfl,et,h4.mono (Sub.upd h1)⟩
  |t t=>intro v G' H' k q;obtain⟨a1,a2,eM⟩:=(eZ.of az k).Di (F':=⟨F.K,aW,H1,xe E⟩) rfl q ⟨k.fN,k.bD,k.new⟩ fun b J=>⟨(q.own b J).2,az.aM.bD.gone (q.own b J).2,dS.fresh az k.bD (q.own b J).2⟩;exact h v H' _ a1 a2 eM
end
section
variable{X:aQ}{F:bG}{e a b c:adI}{es:List adI}{pos p:Pos}{m n:aN}{ma:aY}
end
end bt
namespace bt
open PySem PySem.Spec a3
structure mR(X:aQ)(F:bG)(e:adI)(m:gz):Prop where
 o:a6 X e (rX F m)
structure u4(X:aQ)(F:bG)(es:List adI)(m:j2):Prop where
 o:fk X es (ur F m)
section
variable{X:aQ}{F:bG}{e a b c cj iter elt:adI}{es:List adI}{pos p:Pos}{m n:aN}{ma:aY}{st:aep}{qf:List aep}
theorem x8 (i:Nat) {x:Str} {aT:Pos} {apos:Pos} {ct:Pos} (he:bb X F e m) (cB:X.N[i]?=some x:=by rfl) (bW:iH X.env.scope x:=by first|exact aeQ rfl|exact aed (aeQ rfl)|exact aed (aed rfl)) (hd:(x==("__debug__" :Str))=false:=by decide) (en:(x==("__classdict__" :Str))=false:=by decide) (iO:aeb (.Name x aT) "pop" X.env (aeq (.Name x aT) X.env)=aeq (.Name x aT) X.env:=by rfl) (iR:(apos.endLine==ct.line)=true:=by rfl) (iQ:((adR ct (ac5 [e] X.env)).all (fun x=>!x.1)&&(ae7 ct (aee [] X.env)).all (fun x=>x.1.isSome)
   &&decide (([e]:List adI).length+([]:List ae3).length+(if([]:List ae3).isEmpty then 0 else 1)<30))=true:=by rfl) (hs:ac5 [e] X.env=(false,aeq e X.env)::ac5 [] X.env:=by rfl) (iS:(adR ct (ac5 [] X.env)).any (·.1)=false:=by rfl):mR X F (.Call (.Attribute (.Name x aT) "pop" apos) [e] [] ct) (ou i m):=⟨by
 have he:=he.1;refine a6.imp (qa PySem.F.plainAttrs_list PySem.F.slot_list_pop PySem.F.type_list_pop TY (lz cB bW hd en) (kr he mr hs) iO iQ iR hs iS) ?_;rintro σ H Q ⟨G,ρ,r,h⟩;unfold ou ownAt at h;cases c4:ρ[i]? with
 |none=>rw[c4]at h;exact h.elim
 |some s=>
  rw[c4]at h;cases s with
  |un=>exact h.elim
  |aA _=>exact h.elim
  |eB _=>exact h.elim
  |bf bf=>
   cases bf with
   |bx _ _=>exact h.elim
   |ins _ _ _=>exact h.elim
   |lst ds=>
    obtain⟨q,xs,aq,h1,h2,h3,h4⟩:=r.own c4;rw[R.bM]at h;refine⟨.ref q,aq,.inl ⟨rfl,xs,b7.of h1⟩,G,ρ,r,?_⟩;cases aw:m ρ with
    |bad=>rw[aw]at h;exact h.elim
    |exc c=>rw[aw]at h;exact h
    |ok d=>
     rw[aw,R.bM]at h;intro v H1 aW az s1 bp;obtain⟨dU,f5,gB,cO,cA,pG,hk⟩:=az.own c4;rw[aq]at gB;cases gB;cases d with
     |int k=>
      simp only[At]at bp;subst bp;simp only at h
      split at h
      ·rename_i aH
       split at h
       ·rename_i j j9
        split at h
        ·rename_i y dN;obtain⟨w,hI,j6⟩:=hk.get dN;refine⟨q,f5,k,j,w,rfl,rfl,cO,aH.1,aH.2,by rw[←hk.length];exact j9,hI,?_⟩;exact h w _ aW (az.mut c4 aq (hk.erase j)) s1.g j6
        ·exact h.elim
       ·exact h.elim
      ·exact h.elim
     |_=>exact h.elim⟩
theorem ZI (i:Nat) {x:Str} {aT:Pos} {apos:Pos} {ct:Pos} {m:gz} (he:mR X F e m) (cB:X.N[i]?=some x:=by rfl) (bW:iH X.env.scope x:=by first|exact aeQ rfl|exact aed (aeQ rfl)|exact aed (aed rfl)) (hd:(x==("__debug__" :Str))=false:=by decide) (en:(x==("__classdict__" :Str))=false:=by decide) (iO:aeb (.Name x aT) "append" X.env (aeq (.Name x aT) X.env)=aeq (.Name x aT) X.env:=by rfl) (iR:(apos.endLine==ct.line)=true:=by rfl) (iQ:((adR ct (ac5 [e] X.env)).all (fun x=>!x.1)&&(ae7 ct (aee [] X.env)).all (fun x=>x.1.isSome)
   &&decide (([e]:List adI).length+([]:List ae3).length+(if([]:List ae3).isEmpty then 0 else 1)<30))=true:=by rfl) (hs:ac5 [e] X.env=(false,aeq e X.env)::ac5 [] X.env:=by rfl) (iS:(adR ct (ac5 [] X.env)).any (·.1)=false:=by rfl):fB X F (.Expr (.Call (.Attribute (.Name x aT) "append" apos) [e] [] ct) pos) (wz i m):=⟨by
 have he:=he.1;refine dG.imp (xi (qa PySem.F.plainAttrs_list PySem.F.slot_list_append PySem.F.type_list_append Bq (lz cB bW hd en) (kr he mr hs) iO iQ iR hs iS) (nz _ _ _ _ rfl)) ?_;rintro c0 σ H ⟨G,ρ,r,h⟩;unfold wz ownAt at h;cases c4:ρ[i]? with
 |none=>rw[c4]at h;exact h.elim
 |some s=>
  rw[c4]at h;cases s with
  |un=>exact h.elim
  |aA _=>exact h.elim
  |eB _=>exact h.elim
  |bf bf=>
   cases bf with
   |bx _ _=>exact h.elim
   |ins _ _ _=>exact h.elim
   |lst aae=>
    obtain⟨q,xs,aq,h1,h2,h3,h4⟩:=r.own c4;rw[R.bM]at h;refine⟨.ref q,aq,.inl ⟨rfl,xs,b7.of h1⟩,G,ρ,r,?_⟩;cases aw:m ρ with
    |bad=>rw[aw]at h;exact h.elim
    |exc c=>rw[aw]at h;exact h
    |ok y=>
     obtain⟨d,ea⟩:=y;rw[aw,R.bM]at h;intro v H1 aW az s1 bp;simp only at h;cases vB:ea[i]? with
     |none=>rw[vB]at h;exact h.elim
     |some s=>
      rw[vB]at h;cases s with
      |un=>exact h.elim
      |aA _=>exact h.elim
      |eB _=>exact h.elim
      |bf bf=>
       cases bf with
       |bx _ _=>exact h.elim
       |ins _ _ _=>exact h.elim
       |lst ds=>
        rw[R.bM]at h;obtain⟨dU,f5,gB,cO,cA,pG,hk⟩:=az.own vB;rw[aq]at gB;cases gB;by_cases ai:ds.length<1000000
        ·rw[if_pos ai]at h;refine⟨q,f5,v,rfl,rfl,cO,by rw[←hk.length];exact afJ ai (by decide),?_⟩;exact h σ aW _ (az.mut vB aq (hk.snoc bp)) s1
        ·rw[if_neg ai]at h;exact h.elim⟩
theorem r5(hm:X.mg "list"=none)(ag:fb X F [e] ma)(a5:F.K=X.K:=by rfl)(aO:dM X "list":=by rfl)(he:ac5 [e] X.env=(false,aeq e X.env)::ac5 [] X.env:=by rfl)(de:(adR pos (ac5 [] X.env)).any (·.1)=false:=by rfl):iI X F (.Call (.Name "list" p) [e] [] pos) (ji ma):=⟨have ag:=ag.1;a6.imp (xc EU aO hm (by kernel_rfl) ag (by decide) (by decide) he de) (QW a5)⟩
theorem ZF{ly pos':Pos}(hm:X.mg "list"=none)(k4:X.mg "range"=none)(ag:fb X F [a] ma)(aB:X.calm=true:=by rfl)(aO:dM X "list":=by rfl)(s6:dM X "range":=by rfl)(hs:ac5 [a] X.env=[(false,aeq a X.env)]:=by rfl)(eU:ac5 [.Call (.Name "range" ly) [a] [] pos'] X.env=[(false,aeq (.Call (.Name "range" ly) [a] [] pos') X.env)]:=by rfl):iI X F (.Call (.Name "list" p) [.Call (.Name "range" ly) [a] [] pos'] [] pos) (wA ma):=⟨by
 have ag:=ag.1;refine a6.imp (VA aO hm s6 k4 aB ag hs eU) ?_;rintro σ H Q ⟨G,ρ,r,h⟩;unfold wA at h;refine⟨G,ρ,r,?_⟩;cases aw:ma ρ with
 |bad=>rw[aw]at h;exact h.elim
 |exc c=>rw[aw]at h;exact h
 |ok ds=>
  rw[aw,R.bM]at h;intro vs H1 aW az s1 a;unfold tu at h
  split at h
  ·rename_i j
   split at h
   ·rename_i cz;refine⟨j,a.ints1,cz.1,cz.2,fun l ai=>?_⟩;exact h l _ _ aW (az.lay0 ai) (s1.trans (cq.lay0 ai)) (s1.h.gone ai) et (az.aM.sub.gone ai) (Eu _)
   ·exact h.elim
  ·exact h.elim⟩
theorem LH(hm:X.mg "max"=none)(ag:fb X F [a,b] ma)(aB:X.calm=true:=by rfl)(aO:dM X "max":=by rfl)(he:ac5 [a,b] X.env=(false,aeq a X.env)::ac5 [b] X.env:=by rfl)(de:(adR pos (ac5 [b] X.env)).any (·.1)=false:=by rfl):bb X F (.Call (.Name "max" p) [a,b] [] pos) (cM rM ma):=⟨have ag:=ag.1;zU (Nh aB) UO hm (by kernel_rfl) ag aO (by decide) (by decide) he de⟩
theorem Zt(hm:X.mg "int"=none)(ag:fb X F [e] ma)(aO:dM X "int":=by rfl)(he:ac5 [e] X.env=(false,aeq e X.env)::ac5 [] X.env:=by rfl)(de:(adR pos (ac5 [] X.env)).any (·.1)=false:=by rfl):bb X F (.Call (.Name "int" p) [e] [] pos) (cM uw ma):=⟨have ag:=ag.1;zV (Nb.or Nc) US hm (by kernel_rfl) ag aO (by decide) (by decide) he de⟩
theorem Zu(h:bb X F e m):mR X F e (lf m):=⟨have h:=h.1;a6.imp h QT⟩
theorem Zv:u4 X F [] (tr aC):=⟨fk.imp mr (fun σ H Q h=>HC σ H Q (QU σ H Q h))⟩
theorem LN{m:gz}{r:j2}(h:mR X F e m)(t:u4 X F es r)(hs:notStar e=true:=by rfl):u4 X F (e::es) (rq m r):=⟨have h:=h.1;have t:=t.1;fk.imp (kr h t (Kx e es X.env hs)) QH⟩
theorem Zx{k}{m:j2}(h:u4 X F es m):mR X F (.Tuple es k pos) (rB m):=⟨have h:=h.1;a6.imp (Jm h) Ri⟩
theorem LW(i:Nat){x:Str}{p:Pos}{m:gz}(cB:X.N.Nodup)(he:mR X F e m)(ar:X.N[i]?=some x:=by rfl)(ax:Loc X.env.scope x:=by first|exact aeQ rfl|exact aed rfl)(hs:oA e=true:=by rfl)(hf:X.fn x=true∨X.env.scope.names.lookup x=some .local:=by first|exact .inl rfl|exact .inr rfl):fB X F (.Assign [.Name x p] e pos) (rA i m):=⟨have he:=he.1;dG.imp (ub cB ar ax he (nz _ _ _ _ hs) hf) Rc⟩
theorem uK{m:gz}(h:mR X F e m)(hs:oA e=true:=by rfl):fB X F (.Expr e pos) (nf m):=⟨have h:=h.1;dG.imp (xi h (nz _ _ _ _ hs)) QM⟩
end
theorem gu.inj{K:PySem.W.Frag}{c:Str}{C lT:ada}(h:gu K c C)(h':gu K c lT):C=lT:=by unfold gu at h h';rw[h]at h';cases h';rfl
theorem Ip{K:PySem.W.Frag}{G:ah}{f:Str}{d:D}:∀{xs:List (Str×V)}{ds:List D},aP K G ds (xs.map (·.2))→((xs.map (·.1)).zip ds).lookup f=some d→∃v,xs.lookup f=some v∧At K G d v
 |[],_,_,e=>by simp at e
 |(k,v)::xs,[],h,_=>by have:=h.length;simp at this
 |(k,v)::xs,e::ds,h,l=>by
  simp only[adi,aP]at h;obtain⟨my,r,aq,a,t⟩:=h;cases aq;simp only[adi,aem,agf]at l ⊢;cases aH:f==k with
  |true=>rw[aH]at l;cases l;exact⟨v,rfl,a⟩
  |false=>rw[aH]at l;exact Ip t l
theorem A_{f:Str}:∀{xs:List (Str×V)},(xs.map (·.1)).all (fun k=>!(f==k))=true→xs.lookup f=none
 |[],_=>rfl
 |(k,v)::xs,h=>by simp only[adi,afr,adF,af4]at h;rw[agf,h.1];exact A_ (by simpa using h.2)
structure uQ(K:PySem.W.Frag)(c:Str)(aX:List Str):Prop where
 ex:∃C,gu K c C∧i3 K C∧∀f∈aX,o5 K C f
noncomputable def fc(c f:Str):D→R D
 |.ins ey ns ds=>if ey=c then match(ns.zip ds).lookup f with
  |some d=>.ok d
  |none=>.bad
  else .bad
 |_=>.bad
section
variable{X:aQ}{F:bG}{e a b c o:adI}{es:List adI}{pos p:Pos}{m n:aN}{ma:aY}
structure o2(P:adp)(w:adJ)(K:PySem.W.Frag)(mg:Str→Option ac1)(base:adX)(bY mt:Str)(n k:Nat)(mf:List D→R b6):Prop where
 ex:∃(C f:ada)(fd:aet)(ps:List Str),gu K bY C∧i3 K C∧Meth K C mt f∧hr P w K mg base g7 k f fd ps (lE K (n+1) mf)∧Binds K fd ps []
noncomputable def qe(bY mt:Str):D→R D
 |.ins ey ns ds=>if ey=bY∧ns.all (fun k=>!(mt==k))=true then .ok (.ins ey ns ds)else .bad
 |_=>.bad
noncomputable def mj(bY mt:Str)(n:Nat)(mf:List D→R b6)(o:aN)(ma:aY):aN:=fun ρ=>(o ρ).bind fun d=>(qe bY mt d).bind fun d=>(ma ρ).bind fun ds=>if ds.length=n then(mf (d::ds)).bind iZ else .bad
theorem QZ{bY mt:Str}{n:Nat}{mf:List D→R b6}{C:ada}{E:dh}(ax:F.hW=fun _ _=>False)(hK:gu F.K bY C):eR (cZ F (mj bY mt n mf m ma)) (xS C mt (lE F.K (n+1) mf) [] E (cZ F m) (eE F ma)):=by
 rintro σ H Q ⟨G,ρ,r,h⟩;unfold mj at h;refine⟨G,ρ,r,?_⟩;cases aw:m ρ with
 |bad=>rw[aw]at h;exact h.elim
 |exc c=>rw[aw]at h;exact h
 |ok d=>
  rw[aw,R.bM]at h;intro x H1 aW az s1 b9;cases d with
  |ins ey ns ds=>
   simp only[qe]at h
   split at h
   ·rename_i aB;obtain⟨sW,ke⟩:=aB;subst sW;have yS:=b9;simp only[At]at b9;obtain⟨q,a8,xs,rfl,⟨lT,b0,g1⟩,rfl,al⟩:=b9;have:=b0.inj hK;subst this;refine⟨q,a8,xs,rfl,az.aM.sub _ _ g1,A_ ke,aW,ρ,az,?_⟩;rw[R.bM]at h;cases bj:ma ρ with
    |bad=>rw[bj]at h;exact h.elim
    |exc c=>rw[bj]at h;exact h
    |ok es=>
     rw[bj,R.bM]at h;intro vs bk dg bg s2 bp;by_cases aK:es.length=n
     ·rw[if_pos aK]at h;rw[ael];exact Kq (xe:=fun _ _ _=>False) ax bg (.cons (yS.mono s2.g) bp) (by simp[aK]) (h.mono (s1.trans s2))
     ·rw[if_neg aK]at h;exact h.elim
   ·exact h.elim
  |_=>exact h.elim
def kn:D→Option Key
 |.int i=>some (.inl i)
 |.str x=>some (.inr x)
 |_=>none
noncomputable def wm:List D→Option (List Key)
 |[]=>some []
 |d::ds=>match kn d,wm ds with
  |some k,some ks=>some (k::ks)
  |_,_=>none
def Bt:D→Option i6
 |.tup ds=>(wm ds).map .inr
 |d=>(kn d).map .inl
noncomputable def w0:List D→Option cx
 |[]=>some []
 |d::ds=>match Bt d,w0 ds with
  |some k,some ks=>some (k::ks)
  |_,_=>none
def md:D→Option cx
 |.tup ds=>w0 ds
 |_=>none
theorem HX{K:PySem.W.Frag}{G:ah}{d:D}{v:V}{k:Key}(e:kn d=some k)(a:At K G d v):v=da k:=by
 cases d<;>first
  |(cases e;done)
  |(cases e;simp only[At]at a;exact a)
theorem HZ{K:PySem.W.Frag}{G:ah}:∀{ds:List D}{vs:List V}{ks:List Key},wm ds=some ks→aP K G ds vs→vs=ks.map da
 |[],_,_,e,a=>by simp only[aP]at a;subst a;cases e;rfl
 |d::ds,_,_,e,a=>by
  simp only[aP]at a;obtain⟨v,r,rfl,bp,kS⟩:=a;unfold wm at e
  split at e
  ·rename_i k ks aq aD;cases e;rw[HX aq bp,HZ aD kS];rfl
  ·cases e
theorem Up{K:PySem.W.Frag}{G:ah}{d:D}{v:V}{k:i6}(e:Bt d=some k)(a:At K G d v):mQ G k v:=by
 unfold Bt at e
 split at e
 ·obtain⟨ks,aq,rfl⟩:=Option.map_eq_some_iff.mp e;simp only[At]at a;obtain⟨b,xs,rfl,J,al⟩:=a;exact⟨b,rfl,by rw[J,HZ aq al]⟩
 ·obtain⟨k,aq,rfl⟩:=Option.map_eq_some_iff.mp e;exact HX aq a
theorem IL{K:PySem.W.Frag}{G:ah}:∀{ds:List D}{vs:List V}{ks:cx},w0 ds=some ks→aP K G ds vs→Paired (mQ G) ks vs
 |[],_,_,e,a=>by simp only[aP]at a;subst a;cases e;exact .nil
 |d::ds,_,_,e,a=>by
  simp only[aP]at a;obtain⟨v,r,rfl,bp,kS⟩:=a;unfold w0 at e
  split at e
  ·rename_i k ks aq aD;cases e;exact .cons (Up aq bp) (IL aD kS)
  ·cases e
theorem wj{K:PySem.W.Frag}{G:ah}{d:D}{v:V}{ks:cx}(e:md d=some ks)(a:At K G d v):∃b,v=.ref b∧g_ G ks b:=by
 cases d with
 |tup ds=>simp only[At]at a;obtain⟨b,xs,rfl,J,al⟩:=a;exact⟨b,rfl,xs,J,IL e al⟩
 |_=>cases e
theorem xW{G H:ah}{k:cx}{a:ada}(h:g_ G k a)(s:Sub G H):g_ H k a:=h.mono fun b xs e=>s b _ e
theorem Dy{κ:Type}[DecidableEq κ](k:κ):∀aZ:List (κ×V),(gR aZ k).isSome=(aZ.map (·.1)).any (fun x=>decide (x=k))
 |[]=>rfl
 |(x,v)::aZ=>by
  have bQ:=Dy k aZ;unfold gR at bQ ⊢;rw[adM,adi,ae8];by_cases h:x=k
  ·simp[h]
  ·simp only[h,decide_false,aiU];exact bQ
noncomputable def fW(b:Bool)(k d:D):R D:=match d with
 |.bx ks _=>match md k with
  |some kk=>.ok (.aF (if b then ks.any (fun x=>decide (x=kk))else !ks.any (fun x=>decide (x=kk))))
  |none=>.bad
 |_=>.bad
theorem Fb{b:Bool}{σ :St}{ρ:av}{G H:ah}{y x:V}{n4 dd:D}{Q:cX}(r:Rel F G H σ ρ)(c3:At F.K G n4 y)(b9:At F.K G dd x)(h:ib F G H σ ρ Q (fW b n4 dd)) :
  ∃a o,x=.ref a∧iw H a y o∧Q (.aF (if b then o.isSome else !o.isSome)) H:=by
 unfold fW at h
 split at h
 ·rename_i ks ds
  split at h
  ·rename_i kk fD;simp only[At]at b9;obtain⟨a,xs,rfl,aO,rfl,al⟩:=b9;obtain⟨q,rfl,aR⟩:=wj fD c3;refine⟨a,gR xs kk,rfl,iw.t (r.aM.sub _ _ aO) (xW aR r.aM.sub),?_⟩;rw[Dy];exact h _ H G r (cq.refl _ _) (by simp only[At])
  ·exact h.elim
 ·exact h.elim
theorem HB:eR (cZ F (aj (fW true) m n)) (KS (cZ F m) (cZ F n)):=by
 rintro σ H Q ⟨G,ρ,r,h⟩;unfold aj at h;refine⟨G,ρ,r,?_⟩;cases aw:m ρ with
 |bad=>rw[aw]at h;exact h.elim
 |exc c=>rw[aw]at h;exact h
 |ok n4=>
  rw[aw,R.bM]at h;intro y H1 aW az s1 c3;refine⟨aW,ρ,az,?_⟩;cases bj:n ρ with
  |bad=>rw[bj]at h;exact h.elim
  |exc c=>rw[bj]at h;exact h
  |ok dd=>rw[bj,R.bM]at h;intro x bk dg bg s2 b9;exact Fb (b:=true) bg (c3.mono s2.g) b9 (h.mono (s1.trans s2))
theorem QK:eR (cZ F (aj (fW false) m n)) (KU (cZ F m) (cZ F n)):=by
 rintro σ H Q ⟨G,ρ,r,h⟩;unfold aj at h;refine⟨G,ρ,r,?_⟩;cases aw:m ρ with
 |bad=>rw[aw]at h;exact h.elim
 |exc c=>rw[aw]at h;exact h
 |ok n4=>
  rw[aw,R.bM]at h;intro y H1 aW az s1 c3;refine⟨aW,ρ,az,?_⟩;cases bj:n ρ with
  |bad=>rw[bj]at h;exact h.elim
  |exc c=>rw[bj]at h;exact h
  |ok dd=>rw[bj,R.bM]at h;intro x bk dg bg s2 b9;exact Fb (b:=false) bg (c3.mono s2.g) b9 (h.mono (s1.trans s2))
def rz(i:Nat):bl:=fun ρ=>if i<ρ.length then .ok (.bO (ρ.set i (.bf (.bx [] []))))else .bad
noncomputable def putD(ks:List cx)(ds:List D)(kk:cx)(d:D):R kN:=if ks.any (fun x=>decide (x=kk))=false∧ks.length<1000000 then .ok (.bx (ks++[kk]) (ds++[d]))else .bad
noncomputable def nd(i:Nat)(mk mv:aN):bl:=fun ρ=>(mv ρ).bind fun v=>match ρ[i]? with
 |some (.bf (.bx ks ds))=>(mk ρ).bind fun k=>match md k with
  |some kk=>(putD ks ds kk v).bind fun o=>.ok (.bO (ρ.set i (.bf o)))
  |none=>.bad
 |_=>.bad
def hA(m:aN):bl:=fun ρ=>(m (eT ρ)).bind fun d=>.ok (.dJ d)
def tv:bl:=fun _=>.bad
end
mutual
noncomputable def jR:D→Bool
 |.ins _ _ _=>false
 |.tup ds=>kp ds
 |.lst ds=>kp ds
 |.cJ ds=>kp ds
 |.dA _ ds=>kp ds
 |.bx _ ds=>kp ds
 |.dB ds=>kp ds
 |_=>true
noncomputable def kp:List D→Bool
 |[]=>true
 |d::ds=>jR d&&kp ds
end
def ti:dR→Bool
 |.ins _ _ _=>true
 |_=>false
section
variable{K:PySem.W.Frag}{G G':ah}
theorem gA.off(h:∀b o,G b=some o→ti o=false→G' b=some o){a:ada}{u:dR}(aJ:ti u=false)(r:gA G a u):gA G' a u:=by
 rcases r with r|⟨o,r⟩
 ·exact .inl (h _ _ r aJ)
 ·exact .inr ⟨o,h _ _ r rfl⟩
mutual
theorem At.off(h:∀b o,G b=some o→ti o=false→G' b=some o):∀{d:D}{v:V},jR d=true→At K G d v→At K G' d v
 |.non,_,_,q=>by simpa only[At]using q
 |.aF _,_,_,q=>by simpa only[At]using q
 |.int _,_,_,q=>by simpa only[At]using q
 |.str _,_,_,q=>by simpa only[At]using q
 |.tup _,_,n,q=>by simp only[At,jR]at q n ⊢;obtain⟨a,xs,e,g,r⟩:=q;exact⟨a,xs,e,h _ _ g rfl,aP.off h n r⟩
 |.lst _,_,n,q=>by simp only[At,jR]at q n ⊢;obtain⟨a,xs,e,g,r⟩:=q;exact⟨a,xs,e,h _ _ g rfl,aP.off h n r⟩
 |.cJ _,_,n,q=>by
  simp only[At,jR]at q n ⊢;obtain⟨a,xs,e,g,r⟩:=q;refine⟨a,xs,e,?_,aP.off h n r⟩;rcases g with g|g
  ·exact .inl (gA.off h rfl g)
  ·exact .inr g
 |.dB _,_,n,q=>by
  simp only[At,jR]at q n ⊢;obtain⟨a,xs,e,g,r⟩:=q;refine⟨a,xs,e,?_,aP.off h n r⟩;rcases g with g|g
  ·exact .inl (gA.off h rfl g)
  ·exact .inr g
 |.dA _ _,_,n,q=>by simp only[At,jR]at q n ⊢;obtain⟨a,xs,e,g,k,r⟩:=q;exact⟨a,xs,e,h _ _ g rfl,k,aP.off h n r⟩
 |.bx _ _,_,n,q=>by simp only[At,jR]at q n ⊢;obtain⟨a,xs,e,g,k,r⟩:=q;exact⟨a,xs,e,h _ _ g rfl,k,aP.off h n r⟩
 |.ins _ _ _,_,n,_=>by simp only[jR]at n;cases n
 |.oa _,_,n,q=>by simp only[At]at q ⊢;obtain⟨a,xs,e,⟨C,b0,g⟩,r⟩:=q;exact⟨a,xs,e,⟨C,b0,h _ _ g rfl⟩,r⟩
theorem aP.off(h:∀b o,G b=some o→ti o=false→G' b=some o):∀{ds:List D}{vs:List V},kp ds=true→aP K G ds vs→aP K G' ds vs
 |[],_,_,q=>by simpa only[aP]using q
 |_::_,_,n,q=>by simp only[aP,kp,adF]at q n ⊢;obtain⟨v,r,e,a,t⟩:=q;exact⟨v,r,e,At.off h n.1 a,aP.off h n.2 t⟩
end
end
def XO:dc→Bool
 |.bf (.ins _ _ _)=>true
 |.bf _=>false
 |.eB _=>false
 |_=>true
def Bz(ρ:av):Bool:=ρ.all XO
def pV(m:aN):aN:=fun ρ=>(m (eT ρ)).bind fun d=>if jR d=true∧Bz ρ=true then .ok d else .bad
section
variable{F:bG}
open Classical in
noncomputable def q2(H:ah)(σ :St)(ρ:av)(G:ah):ah:=fun b=>if dS H σ ρ b then none else G b
theorem QB{m:aN}:eR (cZ F (pV m)) (cZ F m):=by
 rintro σ H Q ⟨G,ρ,r,h⟩;refine⟨kb σ ρ G H,eT ρ,r.plus,?_⟩;unfold pV at h;cases aw:m (eT ρ)with
 |bad=>rw[aw]at h;exact h.elim
 |exc c=>rw[aw]at h;exact h
 |ok d=>
  rw[aw,R.bM]at h;intro v H' G' bF s' a;by_cases hd:jR d=true∧Bz ρ=true
  ·rw[if_pos hd]at h;have Jh:∀b,dS H σ ρ b→G b=none:=fun b z=>(r.foot z).2.1;have Jg:∀b,dS H σ ρ b→F.bK b=none:=fun b z=>(r.foot z).2.2;have Vf:∀b,dS H σ ρ b→∃aE,H b=some aE∧ti aE=true:=fun b⟨i,s,o,aq,aD,f⟩=>by
    have ar:=List.all_eq_true.mp hd.2 _ (adn aq);cases s with
    |un=>exact f.elim
    |aA _=>exact f.elim
    |eB _=>cases ar
    |bf bf=>
     have f:o=some (.ref b):=f;obtain⟨c,aE,b4,h1,_,_,h4⟩:=r.obj aq;rw[aD,f]at b4;cases b4;cases bf with
     |lst _=>cases ar
     |bx _ _=>cases ar
     |ins _ _ _=>obtain⟨C,a8,xs,_,rfl,_⟩:=h4;exact⟨_,h1,rfl⟩
   have off:∀b,¬dS H σ ρ b→q2 H σ ρ G' b=G' b:=fun b n=>by unfold q2;rw[if_neg n]
   have on:∀b,dS H σ ρ b→q2 H σ ρ G' b=none:=fun b n=>by unfold q2;rw[if_pos n]
   have bh:Sub G (q2 H σ ρ G'):=fun b o e=>by
    have n:¬dS H σ ρ b:=fun z=>by rw[Jh b z]at e;cases e
    rw[off b n];exact s'.g b o (Ag r b o e)
   have R5:∀b,dS H σ ρ b→∀o,H b=some o→H' b=some o:=fun b z o e=>bF.aM.sub _ _ (s'.g _ _ (by rw[sU z];exact e));have rel:Rel F (q2 H σ ρ G') H' σ ρ:=by
    refine r.over rfl ⟨fun b o e=>?_,r.aM.fN.trans bh,bF.aM.bD,fun b J=>?_⟩ bh fun b dj=>?_
    ·by_cases n:dS H σ ρ b
     ·rw[on b n]at e;cases e
     ·rw[off b n]at e;exact bF.aM.sub b o e
    ·have n:¬dS H σ ρ b:=fun z=>J.1 (Jg b z);rw[off b n];exact bF.aM.new b J
    ·refine⟨?_,on b dj,Jg b dj⟩;cases bj:H b with
     |none=>exact absurd bj (r.foot dj).1
     |some o=>exact R5 b dj o bj
   refine h v H' _ rel ⟨bh,s'.h,fun b J=>?_⟩ (At.off (fun b o e ar=>?_) hd.1 a)
   ·by_cases n:dS H σ ρ b
    ·rw[on b n,Jh b n]
    ·rw[off b n,s'.n b J];unfold kb;rw[if_neg n]
   ·have n:¬dS H σ ρ b:=fun z=>by
      obtain⟨aE,aq,aD⟩:=Vf b z;have:=s'.g b aE (by rw[sU z];exact aq);rw[e]at this;cases this;rw[ar]at aD;cases aD
    rw[off b n];exact e
  ·rw[if_neg hd]at h;exact h.elim
abbrev iz:=av→R av
noncomputable def hn(F:bG)(σ :St)(c0:Ends):R av→Prop
 |.ok bJ=>∀G' H',Rel F G' H' σ bJ→c0.bO σ H'
 |.exc c=>km F c
 |.bad=>False
def nA(F:bG)(m:iz):e1:=fun c0 σ H=>∃G ρ,Rel F G H σ ρ∧hn F σ c0 (m ρ)
def ml(a b:iz):iz:=fun ρ=>(a ρ).bind b
theorem Rg{a b:iz}:hu (nA F (ml a b)) (De (nA F a) (nA F b)):=by
 rintro c0 σ H ⟨G,ρ,r,h⟩;unfold ml at h;refine⟨G,ρ,r,?_⟩;cases aw:a ρ with
 |bad=>rw[aw]at h;exact h.elim
 |exc c=>rw[aw]at h;exact h
 |ok ea=>rw[aw,R.bM]at h;exact fun G' H' bF=>⟨G',ea,bF,h⟩
def oq(c:cH):iz:=fun ρ=>(c ρ).bind fun k=>if k=true then .bad else .ok ρ
theorem QQ{c:cH}:hu (nA F (oq c)) (C_ (gq F c) KZ Dc):=by
 rintro c0 σ H ⟨G,ρ,r,h⟩;unfold oq at h;refine⟨G,ρ,r,?_⟩;cases aw:c ρ with
 |bad=>rw[aw]at h;exact h.elim
 |exc c=>rw[aw]at h;exact h
 |ok k=>
  rw[aw,R.bM]at h;intro H1 aW az s1;cases k with
  |true=>exact h.elim
  |false=>exact h aW H1 az
theorem BK{f:Str}{v:V}:∀{aX:List (Str×V)},(aX.map (·.1)).all (fun k=>!(f==k))=true→ho f v aX=aX++[(f,v)]
 |[],_=>rfl
 |(g,x)::aX,h=>by
  simp only[adi,afr,adF,af4]at h;have ne:g≠f:=fun z=>by subst z;simp at h
  rw[ho,if_neg ne,BK (by simpa using h.2)];rfl
noncomputable def jQ(bY f:Str)(m:aN):iz:=fun ρ=>(m ρ).bind fun d=>match(ρ[0]? :Option dc)with
 |some (.bf (.ins ey ns ds))=>if ey=bY∧ns.all (fun k=>!(f==k))=true∧ns.length<1000 then .ok (ρ.set 0 (.bf (.ins bY (ns++[f]) (ds++[d]))))else .bad
 |_=>.bad
end
section
variable{X:aQ}{F:bG}{e o:adI}{pos:Pos}{m:aN}
theorem W8{bY f x:Str}{aX:List Str}{aT pos':Pos}(k:uQ X.K bY aX)(he:jv X F e m)(hf:f∈aX:=by decide+kernel)(cB:X.N[0]?=some x:=by rfl)(bW:iH X.env.scope x:=by first|exact aeQ rfl|exact aed (aeQ rfl)|exact aed (aed rfl))(hd:(x==("__debug__" :Str))=false:=by decide)(en:(x==("__classdict__" :Str))=false:=by decide)(hs:oA e=true:=by rfl)(a5:F.K=X.K:=by rfl) :
  dG X (.Assign [.Attribute (.Name x aT) f pos'] e pos) (nA F (jQ bY f m)):=by
 refine dG.imp (V6 (lz cB bW hd en) he (nz _ _ _ _ hs)) ?_;rintro c0 σ H ⟨G,ρ,r,h⟩;unfold jQ at h;refine⟨G,ρ,r,?_⟩;cases aw:m ρ with
 |bad=>rw[aw]at h;exact h.elim
 |exc c=>rw[aw]at h;exact h
 |ok d=>
  rw[aw,R.bM]at h;intro v H1 aW az s1 bp
  split at h
  ·rename_i ey ns ds c4
   split at h
   ·rename_i aB;obtain⟨rfl,ke,Pl⟩:=aB;obtain⟨q,aE,aq,h1,h2,h3,C,a8,xs,b0,rfl,rfl,al⟩:=az.obj c4;obtain⟨lT,k1,k2,k3⟩:=k.ex;rw[a5]at b0;have:=b0.inj k1;subst this;refine⟨.ref q,aq,q,C,a8,xs,rfl,h1,k2,k3 f hf,by simpa using Pl,?_⟩;refine h aW _ (az.Br c4 aq ⟨C,a8,ho f v xs,by rw[a5];exact b0,rfl,?_,?_⟩)
    ·rw[BK ke];simp
    ·rw[BK ke,afS];exact al.snoc bp
   ·exact h.elim
  ·exact h.elim
end
noncomputable def HS(F:bG)(x C:ada)(Q:cX):R (List Str×List D)→Prop
 |.ok (ns,ds)=>∀a8 xs G' H',eZ F G' H'→G' x=none→H' x=some (.ins C a8 xs)→xs.map (·.1)=ns→aP F.K G' ds (xs.map (·.2))→Q .non H'
 |.exc _=>False
 |.bad=>False
noncomputable def uo(K:PySem.W.Frag)(bY:Str)(n:Nat)(mf:List D→R (List Str×List D)):i7:=fun vs H Q E=>∃G x C a8 es ws,vs=.ref x::ws∧gu K bY C∧H x=some (.ins C a8 [])∧G x=none∧Sub G H∧aP K G es ws∧es.length=n∧HS ⟨K,G,del H x,fun _ _=>False⟩ x C Q (mf es)
noncomputable def tH(bY:Str)(n:Nat)(mf:List D→R (List Str×List D))(ma:aY):aN:=fun ρ=>(ma ρ).bind fun ds=>if ds.length=n then(gL (mf ds)).bind fun x=>.ok (.ins bY x.1 x.2)else .bad
section
variable{X:aQ}{F:bG}{e:adI}{es:List adI}{pos p:Pos}{ma:aY}
theorem QY{bY:Str}{n:Nat}{mf:List D→R (List Str×List D)}{C:ada}{E:dh}(hK:gu F.K bY C):eR (cZ F (tH bY n mf ma)) (KY C (uo F.K bY n mf) [] E (eE F ma)):=by
 rintro σ H Q ⟨G,ρ,r,h⟩;unfold tH at h;refine⟨G,ρ,r,?_⟩;cases aw:ma ρ with
 |bad=>rw[aw]at h;exact h.elim
 |exc c=>rw[aw]at h;exact h
 |ok ds=>
  rw[aw,R.bM]at h;intro vs H1 aW az s1 bp x a8 ax Pr ne;by_cases aK:ds.length=n
  ·rw[if_pos aK]at h;rw[ael];have BZ:Sub H1 (del (upd (upd H1 a8 (.own x)) x (.ins C a8 [])) x):=fun b o e=>by
    have n1:b≠x:=fun z=>by rw[z,ax]at e;cases e
    have n2:b≠a8:=fun z=>by rw[z,Pr]at e;cases e
    rw[NR n1,dV n1,dV n2];exact e
   have W5:Sub aW (upd (upd H1 a8 (.own x)) x (.ins C a8 [])):=az.aM.sub.trans (BZ.trans (E_ _ _));refine⟨aW,x,C,a8,ds,vs,rfl,hK,et,az.aM.sub.gone ax,W5,bp,aK,?_⟩;cases em:mf ds with
   |bad=>rw[em]at h;exact h.elim
   |exc c=>rw[em]at h;exact h.elim
   |ok y=>obtain⟨ns,es'⟩:=y;rw[em]at h;intro zQ xs G' H' k g1 g2 g3 jD;refine⟨rfl,?_⟩;have bD:Sub H1 H':=BZ.trans k.bD;have nw:∀b,jx H1 b→G' b=aW b:=fun b J=>k.new b (BZ.kq J);have bg:Rel F G' H' σ ρ:=az.grow k.fN k.sub bD nw;have no:¬dS H' σ ρ x:=dS.fresh az bD ax;refine h (.ref x) H' _ (bg.take g2 g1 (az.aM.bD.gone ax) no) ((s1.trans ⟨k.fN,bD,nw⟩).put (s1.h.gone ax) g1) ?_;simp only[At];exact⟨x,zQ,xs,rfl,⟨C,hK,et⟩,g3,jD.mono (Sub.upd g1)⟩
  ·rw[if_neg aK]at h;exact h.elim
structure yB(P:adp)(w:adJ)(K:PySem.W.Frag)(mg:Str→Option ac1)(base:adX)(bY:Str)(n k:Nat)(mf:List D→R (List Str×List D)):Prop where
 ex:∃(C f:ada)(fd:aet)(ps:List Str),gu K bY C∧uX K C f∧hr P w K mg base g7 k f fd ps (uo K bY n mf)∧mg bY=some (.ref C)∧Binds K fd ps []
end
def jL(bY:Str)(es:List D):av:=.bf (.ins bY [] [])::es.map .aA
noncomputable def outI(bY:Str):R av→R (List Str×List D)
 |.ok (.bf (.ins c ns ds)::_)=>if c=bY then .ok (ns,ds)else .bad
 |_=>.bad
theorem WI{K:PySem.W.Frag}{G H:ah}{hW:Str→ah→Prop}{bY:Str}{C a8 x:ada}{es:List D}{ws:List V}(hK:gu K bY C)(h1:H x=some (.ins C a8 []))(h2:G x=none)(s:Sub G H)(bp:aP K G es ws) :
  Rel ⟨K,G,del H x,hW⟩ G H (some (.ref x)::ws.map some) (jL bY es):=by
 refine⟨⟨s,Sub.refl _,E_ H x,fun _ _=>rfl⟩,by simp[jL,bp.length],fun i t e=>?_,fun i j b aX GG o bR bu a9 _ _ f Fv=>?_⟩
 ·cases i with
  |zero=>simp[jL]at e;subst e;exact⟨some (.ref x),by simp,x,_,rfl,h1,h2,NS,C,a8,[],hK,rfl,rfl,.nil⟩
  |succ i=>
   simp only[jL,ae_]at e ⊢;rw[ade]at e;cases eF:es[i]? with
   |none=>rw[eF]at e;cases e
   |some d=>rw[eF]at e;cases e;obtain⟨v,aq,a⟩:=bp.get eF;exact⟨some v,by rw[ade,aq];rfl,v,rfl,a⟩
 ·have one:∀{i:Nat}{aX:dc}{o:Option V},(jL bY es)[i]?=some aX→f7 H aX o b→i=0:=fun{i aX o} e f=>by
    cases i with
    |zero=>rfl
    |succ i=>
     simp only[jL,ae_,ade]at e;cases eF:es[i]? with
     |none=>rw[eF]at e;cases e
     |some d=>rw[eF]at e;cases e;exact f.elim
  rw[one bu f,one a9 Fv]
theorem Rx{K:PySem.W.Frag}{bY:Str}{n:Nat}{m:iz}{vs:List V}{H:ah}{Q:cX}{E:dh}(h:uo K bY n (fun es=>outI bY (m (jL bY es))) vs H Q E) :
  ∃G bK,nA (fe K G bK) m { bO:=fun _ H'=>Q .non H',dJ:=Q } (vs.map some) H:=by
 obtain⟨G,x,C,a8,es,ws,rfl,hK,h1,h2,s,bp,l,k⟩:=h;refine⟨G,del H x,G,jL bY es,WI hK h1 h2 s bp,?_⟩;replace k:HS ⟨K,G,del H x,fun _ _=>False⟩ x C Q (outI bY (m (jL bY es))):=k;cases em:m (jL bY es)with
 |bad=>rw[em]at k;exact k.elim
 |exc c=>rw[em]at k;exact k.elim
 |ok bJ=>
  rw[em]at k;intro G' H' r;unfold outI at k
  split at k
  ·rename_i aad ns ds fR heq;cases heq;obtain⟨a,aE,aq,g1,g2,g3,lT,zQ,xs,b0,rfl,aD,al⟩:=r.obj (i:=0) rfl;have aq:some (some (V.ref x))=some (some (V.ref a)):=aq;cases aq
   split at k
   ·rename_i aB;subst aB;have:=b0.inj hK;subst this;exact k zQ xs G' H' r.aM g2 g1 aD al
   ·exact k.elim
  ·exact k.elim
end bt
namespace bt
open PySem PySem.Spec a3 PyProof.Rows
theorem Kp{K:PySem.W.Frag}{bY:Str}{n:Nat}{mf:List D→R (List Str×List D)}:∀vs H Q E,uo K bY n mf vs H Q E→vs.length=n+1:=fun vs H Q E h=>by obtain⟨G,x,C,a8,es,ws,rfl,_,_,_,_,q,l,_⟩:=h;rw[adl,←q.length,l]
theorem X9{N:List Str}{vs:List V}(h:vs.length=N.length):a3.start N vs=vs.map some:=by unfold a3.start;simp[h]
theorem Q4{P:adp}{w:adJ}{K:PySem.W.Frag}{mg:Str→Option ac1}{base:adX}{x qual bY gp:Str}{st:aep}{ps:List Str}{k:Nat}{m:iz}{f:ada}{fd:aet}(fn:kJ K x qual st f fd)(S:cS (gp::ps) (gp::ps) (b1 st))(h:∀(f:ada)(cv:ac1)(A:adG)(outer:List Env)(s:ac4)(H:ah)(E:dh),dW k (A.deeper (ad3 qual (b1 st) s.heap.objs.size f cv))→∀b8 bK,f_ (e3 g7 P w K mg base (gp::ps) qual (b1 st) f cv A outer s H E).hB (gh st) (nA (fe K b8 bK) m)) :
  hr P w K mg base g7 (k+1) f fd (gp::ps) (uo K bY ps.length fun es=>outI bY (m (jL bY es))):=fn.ok S Kp fun cv A outer s H vs Q E au hs=>by
 have ai:=Kp vs H Q E hs;obtain⟨G,bK,bT⟩:=Rx hs;refine⟨_,h f cv A outer s H E au G bK,?_⟩;rw[X9 (by simpa using ai)];exact bT
theorem TG{P:adp}{w:adJ}{K:PySem.W.Frag}{mg:Str→Option ac1}{base:adX}{x qual bY gp:Str}{st:aep}{N ps:List Str}{k:Nat}{m:bl}{C f:ada}{fd:aet}(fn:kJ K x qual st f fd)(hK:gu K bY C)(aB:i3 K C)(hm:Meth K C x f)(J:Binds K fd (gp::ps) [])(S:cS N (gp::ps) (b1 st))(h:∀(f:ada)(cv:ac1)(A:adG)(outer:List Env)(s:ac4)(H:ah)(E:dh),dW k (A.deeper (ad3 qual (b1 st) s.heap.objs.size f cv))→∀b8 bK,i8 (e3 g7 P w K mg base N qual (b1 st) f cv A outer s H E).hB (fe K b8 bK) (gh st) m) :
  o2 P w K mg base bY x ps.length (k+1) (cY N.length m):=by
 refine⟨C,f,fd,gp::ps,hK,aB,hm,fn.ok S xE fun cv A outer s H vs Q E au hs=>?_,J⟩;obtain⟨G,bT⟩:=vm hs;exact⟨_,(h f cv A outer s H E au G H).1,bT⟩
section
variable{X:aQ}{F:bG}{e a b c:adI}{es:List adI}{pos p:Pos}{m n:aN}{ma:aY}
noncomputable def oR:List D→R D
 |[.lst xs]=>.ok (.tup xs)
 |[.cJ xs]=>.ok (.tup xs)
 |[.tup xs]=>.ok (.tup xs)
 |_=>.bad
theorem UT(a5:F.K=X.K):mH F (fun xs H Q=>∃p ys,xs=[.ref p]∧((b7 X.K H p ys∧∀l,H l=none→Q (.ref l) (upd H l (.tup ys)))∨(c2 X.K H p ys∧Q (.ref p) H))) oR:=by
 intro σ ρ G H xs ds Q r al k;unfold oR at k
 split at k
 ·obtain⟨v,rfl,bp⟩:=al.one;simp only[At]at bp;obtain⟨q,ys,rfl,aR,fU⟩:=bp;refine⟨q,ys,rfl,.inl ⟨b7.of (r.aM.sub _ _ aR),fun l ai=>?_⟩⟩;refine k (.ref l) _ _ (r.lay ai) (cq.lay r.aM.sub ai) ?_;simp only[At];exact⟨l,ys,rfl,et,fU.mono (Sub.upd (r.aM.sub.gone ai))⟩
 ·obtain⟨v,rfl,bp⟩:=al.one;simp only[At]at bp;obtain⟨q,ys,rfl,aR,fU⟩:=bp;refine⟨q,ys,rfl,.inl ⟨by rw[←a5];exact b7.mono r.aM.sub aR,fun l ai=>?_⟩⟩;refine k (.ref l) _ _ (r.lay ai) (cq.lay r.aM.sub ai) ?_;simp only[At];exact⟨l,ys,rfl,et,fU.mono (Sub.upd (r.aM.sub.gone ai))⟩
 ·obtain⟨v,rfl,bp⟩:=al.one;have MR:=bp;simp only[At]at bp;obtain⟨q,ys,rfl,aR,fU⟩:=bp;exact⟨q,ys,rfl,.inr ⟨c2.of (r.aM.sub _ _ aR),k _ H G r (cq.refl _ _) MR⟩⟩
 ·exact k.elim
end
end bt
namespace ej
open PySem PyProof.Rows
section
variable{prog:adp}{w:adJ}{A:adG}{E:ac1→ac4→Prop}{s:ac4}
end
end ej
namespace a3
open PySem PySem.Spec PyProof.Rows
variable{X:aQ}
end a3
namespace bt
open PySem PySem.Spec a3 PyProof.Rows
section
variable{X:aQ}{F:bG}{e a b c:adI}{es:List adI}{pos p:Pos}{m n:aN}{ma:aY}
instance(i j:Int):Decidable (IntMulOk i j):=by unfold IntMulOk;infer_instance
end
section
variable{X:aQ}{F:bG}{e a b c:adI}{es:List adI}{pos p:Pos}{m n:aN}{ma:aY}
noncomputable def tA(i:Nat)(m:aN):aY:=fun ρ=>(ownAt i ρ).bind fun ds=>(m ρ).bind fun d=>match d with
 |.lst es=>if ds.length+es.length≤1000000 then .ok (ds++es)else .bad
 |_=>.bad
end
end bt
namespace bt
open PySem PySem.Spec a3
section
variable{X:aQ}{F:bG}{e a b c o cj iter elt:adI}{es:List adI}{pos p:Pos}{m n:aN}{ma:aY}{st:aep}{qf:List aep}
theorem mz{bY f:Str}{aX:List Str}(k:uQ X.K bY aX)(he:bb X F o m)(hf:f∈aX:=by decide+kernel)(a5:F.K=X.K:=by rfl)(J:aeb o f X.env (aeq o X.env)=aeq o X.env:=by rfl):bb X F (.Attribute o f pos) (dI (fc bY f) m):=⟨by
 have he:=he.1;refine a6.imp (Vv he J) ?_;rintro σ H Q ⟨G,ρ,r,h⟩;unfold dI at h;refine⟨G,ρ,r,?_⟩;cases aw:m ρ with
 |bad=>rw[aw]at h;exact h.elim
 |exc c=>rw[aw]at h;exact h
 |ok d=>
  rw[aw,R.bM]at h;intro x H1 aW az s1 b9;cases d with
  |ins ey ns ds=>
   simp only[fc]at h
   split at h
   ·rename_i aB;subst aB
    split at h
    ·rename_i d' ai;simp only[At]at b9;obtain⟨q,a8,xs,rfl,⟨C,b0,g1⟩,rfl,al⟩:=b9;obtain⟨v,bW,bp⟩:=Ip al ai;obtain⟨lT,k1,k2,k3⟩:=k.ex;rw[a5]at b0;have:=b0.inj k1;subst this;exact⟨q,C,a8,xs,v,rfl,az.aM.sub _ _ g1,k2,k3 f hf,bW,h v H1 aW az s1 bp⟩
    ·exact h.elim
   ·exact h.elim
  |_=>exact h.elim⟩
theorem LI {bY mt:Str} {n k:Nat} {mf:List D→R b6} {pl:Sem Bool} {apos:Pos} (c:o2 X.prog X.w X.K X.mg X.base bY mt n k mf) (au:dW k X.A) (he:bb X F o m) (ag:fb X F (e::es) ma) (h_:F.hW=fun _ _=>False:=by rfl) (a5:F.K=X.K:=by rfl) (gn:ac5 (e::es) X.env=(false,aeq e X.env)::ac5 es X.env:=by rfl) (de:(adR pos (ac5 es X.env)).any (·.1)=false:=by rfl) (bT:aeq (.Call (.Attribute o mt apos) (e::es) [] pos) X.env=(do
   let fQ ←aeq o X.env
   ai1 apos.atName
   let(f,first) ←aiC [fQ] (ag4 fQ mt pl)
   aiR pos f first (adR pos (ac5 (e::es) X.env)) (ae7 pos (aee [] X.env))):=by rfl):bb X F (.Call (.Attribute o mt apos) (e::es) [] pos) (mj bY mt n mf m ma):=⟨by
 have he:=he.1;have ag:=ag.1;obtain⟨C,f,fd,ps,b0,c9,e2,iL,J⟩:=c.ex;refine a6.imp (VD (pl:=pl) he c9 e2 iL au J .nil t_ ag gn de bT) ?_;rw[←a5];exact QZ h_ (by rw[a5];exact b0)⟩
theorem acY(aJ:X.A.units+64<aew)(ag:bb X F a m)(J:bb X F b n)(h1:adT .In b=false:=by with_unfolding_all rfl):bb X F (.Compare a [.In] [b] pos) (aj (fW true) m n):=⟨have ag:=ag.1;have J:=J.1;a6.imp (Vp (Jl (by omega) ag J) h1) HB⟩
theorem LZ(aJ:X.A.units+64<aew)(ag:bb X F a m)(J:bb X F b n)(h1:adT .In b=false:=by with_unfolding_all rfl):fl X F (.Compare a [.In] [b] pos) (a_ (aj (fW true) m n)):=⟨by
 have ag:=ag.1;have J:=J.1;refine e9.imp (JE (Jl (by omega) ag J) h1) fun σ H Q h=>?_;obtain⟨G,ρ,r,k⟩:=v3 σ H Q h;exact HB σ H _ ⟨G,ρ,r,k⟩⟩
theorem ZK(aJ:X.A.units+64<aew)(ag:bb X F a m)(J:bb X F b n)(h1:adT .NotIn b=false:=by with_unfolding_all rfl):fl X F (.Compare a [.NotIn] [b] pos) (a_ (aj (fW false) m n)):=⟨by
 have ag:=ag.1;have J:=J.1;refine e9.imp (JE (Vk (by omega) ag J) h1) fun σ H Q h=>?_;obtain⟨G,ρ,r,k⟩:=v3 σ H Q h;exact QK σ H _ ⟨G,ρ,r,k⟩⟩
theorem LV(i:Nat){x:Str}{p q:Pos}(cB:X.N.Nodup)(ar:X.N[i]?=some x:=by rfl)(ax:Loc X.env.scope x:=by first|exact aeQ rfl|exact aed rfl)(hf:X.fn x=true∨X.env.scope.names.lookup x=some .local:=by first|exact .inl rfl|exact .inr rfl):fB X F (.Assign [.Name x p] (.Dict [] [] q) pos) (rz i):=⟨by
 refine dG.imp (ub cB ar ax Vu (nz _ _ _ _ rfl) hf) ?_;rintro c0 σ H ⟨G,ρ,r,h⟩;unfold rz at h;intro a ag
 split at h
 ·rename_i ai;refine h _ G _ ((r.lay0 ag).setB ai et (r.aM.sub.gone ag) (r.aM.bD.gone ag) ⟨[],rfl,rfl,.nil⟩ fun j es o _ aq aD f=>dS.fresh r (Sub.upd ag) ag ⟨j,es,o,aq,aD,f⟩) (Sub.refl _)
 ·exact h.elim⟩
theorem Yf(e a b:adI)(p:Pos)(l:Nat)(env:Env):afB e (some (.Subscript a b p)) l env=pure false:=by cases e<;>rfl
theorem DP(i:Nat){x:Str}{aT pos':Pos}{k v:adI}{mk mv:aN}(aJ:X.A.units+64<aew)(aH:bb X F k mk)(bW:bb X F v mv)(cB:X.N[i]?=some x:=by rfl)(fF:iH X.env.scope x:=by first|exact aeQ rfl|exact aed (aeQ rfl)|exact aed (aed rfl))(hd:(x==("__debug__" :Str))=false:=by decide)(en:(x==("__classdict__" :Str))=false:=by decide):fB X F (.Assign [.Subscript (.Name x aT) k pos'] v pos) (nd i mk mv):=⟨by
 have aH:=aH.1;have bW:=bW.1;refine dG.imp (V5 (by omega) (lz cB fF hd en) aH bW (Yf _ _ _ _ _ _)) ?_;rintro c0 σ H ⟨G,ρ,r,h⟩;unfold nd at h;refine⟨G,ρ,r,?_⟩;cases aw:mv ρ with
 |bad=>rw[aw]at h;exact h.elim
 |exc c=>rw[aw]at h;exact h
 |ok aaf=>
  rw[aw,R.bM]at h;intro v H1 aW az s1 bp
  split at h
  ·rename_i ks ds c4;obtain⟨q,aE,aq,_⟩:=az.obj c4;refine⟨.ref q,aq,aW,ρ,az,?_⟩;cases bj:mk ρ with
   |bad=>rw[bj]at h;exact h.elim
   |exc c=>rw[bj]at h;exact h
   |ok n4=>
    rw[bj,R.bM]at h;intro y bk dg bg s2 c3;obtain⟨dU,eo,gB,h1,h2,h3,xs,rfl,rfl,al⟩:=bg.obj c4;rw[aq]at gB;cases gB
    split at h
    ·rename_i kk fD;unfold putD at h
     split at h
     ·rename_i aB;obtain⟨sW,ke⟩:=aB;obtain⟨pe,rfl,An⟩:=wj fD c3;have aK:gR xs kk=none:=by
       have:=Dy kk xs;rw[sW]at this;exact Option.not_isSome_iff_eq_none.mp (by rw[this];exact adC)
      refine⟨q,_,rfl,sd.t h1 (xW An bg.aM.sub) (afJ (by simpa using ke) (by decide)),?_⟩;rw[Wf _ aK];refine h σ dg _ (bg.Br c4 aq ⟨xs++[(kk,v)],rfl,by simp,?_⟩) (s1.g.trans s2.g);rw[afS];exact al.snoc (bp.mono s2.g)
     ·exact h.elim
    ·exact h.elim
  ·exact h.elim⟩
theorem oY(h:bb X F e m):fB X F (.Return (some e) pos) (hA m):=⟨by
 have h:=h.1;refine dG.imp (xj h) ?_;rintro c0 σ H ⟨G,ρ,r,h⟩;unfold hA at h;refine⟨_,_,r.plus,?_⟩;cases aw:m (eT ρ)with
 |bad=>rw[aw]at h;exact h.elim
 |exc c=>rw[aw]at h;exact h
 |ok d=>rw[aw,R.bM]at h;exact fun v H' G' bF s' a=>h v G' H' bF.aM a⟩
theorem LR{st:aep}:fB X F st tv:=⟨dG.imp JA fun c0 σ H⟨G,ρ,r,h⟩=>h.elim⟩
theorem Zk(h:bb X F e m):bb X F e (pV m):=⟨have h:=h.1;a6.imp h QB⟩
theorem Zp{bY:Str}{n k:Nat}{mf:List D→R (List Str×List D)}(c:yB X.prog X.w X.K X.mg X.base bY n k mf)(au:dW (k+1) X.A)(ag:fb X F (e::es) ma)(a5:F.K=X.K:=by rfl)(aO:dM X bY:=by rfl)(gk:(bY==("__debug__" :Str))=false:=by decide)(he:ac5 (e::es) X.env=(false,aeq e X.env)::ac5 es X.env:=by rfl)(de:(adR pos (ac5 es X.env)).any (·.1)=false:=by rfl):bb X F (.Call (.Name bY p) (e::es) [] pos) (tH bY n mf ma):=⟨by
 have ag:=ag.1;obtain⟨C,f,fd,ps,b0,c9,iL,hm,J⟩:=c.ex;refine a6.imp (VC c9 iL au aO hm J .nil t_ ag gk he de) ?_;rw[←a5];exact QY (by rw[a5];exact b0)⟩
theorem LM(hm:X.mg "tuple"=none)(ag:fb X F [e] ma)(a5:F.K=X.K:=by rfl)(aO:dM X "tuple":=by rfl)(he:ac5 [e] X.env=(false,aeq e X.env)::ac5 [] X.env:=by rfl)(de:(adR pos (ac5 [] X.env)).any (·.1)=false:=by rfl):bb X F (.Call (.Name "tuple" p) [e] [] pos) (cM oR ma):=⟨have ag:=ag.1;zV Nm (UT a5) hm (by kernel_rfl) ag aO (by decide) (by decide) he de⟩
theorem ZE(i:Nat){x:Str}{aT:Pos}(J:bb X F b m)(cB:X.N[i]?=some x:=by rfl)(bW:iH X.env.scope x:=by first|exact aeQ rfl|exact aed (aeQ rfl)|exact aed (aed rfl))(hd:(x==("__debug__" :Str))=false:=by decide)(en:(x==("__classdict__" :Str))=false:=by decide):iI X F (.BinOp (.Name x aT) .Add b pos) (tA i m):=⟨by
 have J:=J.1;refine a6.imp (xd w7 (lz cB bW hd en) J) ?_;rintro σ H Q ⟨G,ρ,r,h⟩;unfold tA ownAt at h;cases c4:ρ[i]? with
 |none=>rw[c4]at h;exact h.elim
 |some s=>
  rw[c4]at h;cases s with
  |un=>exact h.elim
  |aA _=>exact h.elim
  |eB _=>exact h.elim
  |bf bf=>
   cases bf with
   |bx _ _=>exact h.elim
   |ins _ _ _=>exact h.elim
   |lst ds=>
    obtain⟨q,xs,aq,h1,h2,h3,h4⟩:=r.own c4;rw[R.bM]at h;refine⟨.ref q,aq,G,ρ,r,?_⟩;cases aw:m ρ with
    |bad=>rw[aw]at h;exact h.elim
    |exc c=>rw[aw]at h;exact h
    |ok d=>
     rw[aw,R.bM]at h;intro v H1 aW az s1 bp;obtain⟨dU,f5,gB,cO,cA,pG,hk⟩:=az.own c4;rw[aq]at gB;cases gB;cases d with
     |lst es=>
      simp only at h
      split at h
      ·rename_i ai;simp only[At]at bp;obtain⟨cD,ys,rfl,g2,bE⟩:=bp;refine⟨q,cD,f5,ys,rfl,rfl,cO,az.aM.sub _ _ g2,by rw[←hk.length,←bE.length];exact adB ai (by decide),fun l aK=>?_⟩;exact h l (f5++ys) _ aW (az.lay0 aK) (s1.trans (cq.lay0 aK)) (s1.h.gone aK) et (az.aM.sub.gone aK) (hk.append bE)
      ·exact h.elim
     |_=>exact h.elim⟩
structure u6(X:aQ)(F:bG)(st:aep)(m:iz):Prop where
 o:dG X st (nA F m)
structure u5(X:aQ)(F:bG)(st:List aep)(m:iz):Prop where
 o:f_ X st (nA F m)
theorem ZA{m:iz}(h:u6 X F st m):u5 X F [st] m:=⟨BJ h.1⟩
theorem uJ{a b:iz}(h:u6 X F st a)(k:u5 X F qf b):u5 X F (st::qf) (ml a b):=⟨f_.imp (JB h.1 k.1) Rg⟩
theorem LP{c:adI}{r:aep}{k:cH}(h:fl X F c k):u6 X F (.If c [r] [] pos) (oq k):=⟨dG.imp (Jz h.1 (BJ JA) JC) QQ⟩
theorem x9{bY f x:Str}{aX:List Str}{aT pos':Pos}(k:uQ X.K bY aX)(he:bb X F e m)(hf:f∈aX:=by decide+kernel)(cB:X.N[0]?=some x:=by rfl)(bW:iH X.env.scope x:=by first|exact aeQ rfl|exact aed (aeQ rfl)|exact aed (aed rfl))(hd:(x==("__debug__" :Str))=false:=by decide)(en:(x==("__classdict__" :Str))=false:=by decide)(hs:oA e=true:=by rfl)(a5:F.K=X.K:=by rfl) :
  u6 X F (.Assign [.Attribute (.Name x aT) f pos'] e pos) (jQ bY f m):=⟨bt.W8 k he.1 hf cB bW hd en hs a5⟩
end
structure sl(K:PySem.W.Frag)(bY x qual:Str)(st:aep)(ps:List Str):Prop where
 ex:∃(C f:ada)(fd:aet),gu K bY C∧i3 K C∧Meth K C x f∧kJ K x qual st f fd∧Binds K fd ps []
structure InK(K:PySem.W.Frag)(mg:Str→Option ac1)(bY qual:Str)(st:aep)(ps:List Str):Prop where
 ex:∃(C f:ada)(fd:aet),gu K bY C∧uX K C f∧kJ K "__init__" qual st f fd∧mg bY=some (.ref C)∧Binds K fd ps []
theorem DO{P:adp}{w:adJ}{K:PySem.W.Frag}{mg:Str→Option ac1}{base:adX}{x qual bY gp:Str}{st:aep}{N ps:List Str}{k:Nat}{m:bl}(d:sl K bY x qual st (gp::ps))(S:cS N (gp::ps) (b1 st))(h:∀(f:ada)(cv:ac1)(A:adG)(outer:List Env)(s:ac4)(H:ah)(E:dh),dW k (A.deeper (ad3 qual (b1 st) s.heap.objs.size f cv))→∀b8 bK,i8 (e3 g7 P w K mg base N qual (b1 st) f cv A outer s H E).hB (fe K b8 bK) (gh st) m) :
  o2 P w K mg base bY x ps.length (k+1) (cY N.length m):=by
 obtain⟨C,f,fd,h1,h2,h3,h4,h5⟩:=d.ex;exact TG h4 h1 h2 h3 h5 S h
theorem Zy{P:adp}{w:adJ}{K:PySem.W.Frag}{mg:Str→Option ac1}{base:adX}{qual bY gp:Str}{st:aep}{ps:List Str}{k:Nat}{m:iz}(d:InK K mg bY qual st (gp::ps))(S:cS (gp::ps) (gp::ps) (b1 st))(h:∀(f:ada)(cv:ac1)(A:adG)(outer:List Env)(s:ac4)(H:ah)(E:dh),dW k (A.deeper (ad3 qual (b1 st) s.heap.objs.size f cv))→∀b8 bK,u5 (e3 g7 P w K mg base (gp::ps) qual (b1 st) f cv A outer s H E).hB (fe K b8 bK) (gh st) m) :
  yB P w K mg base bY ps.length (k+1) (fun es=>outI bY (m (jL bY es))):=by
 obtain⟨C,f,fd,h1,h2,h3,h4,h5⟩:=d.ex;exact⟨C,f,fd,gp::ps,h1,h2,Q4 h3 S fun f cv A outer s H E au b8 bK=>(h f cv A outer s H E au b8 bK).1,h4,h5⟩
end bt
namespace bt
open PySem PySem.Spec a3 PyProof.Rows
section
variable{K:PySem.W.Frag}{G G' H H':ah}
theorem cW.nil:cW K G H [] []:=by simp only[cW]
theorem cW.cons{t:T}{b3:List T}{v:V}{vs:List V}(h:dz K G H t v)(k:cW K G H b3 vs):cW K G H (t::b3) (v::vs):=by simp only[cW];exact⟨v,vs,rfl,h,k⟩
theorem cW.length:∀{b3:List T}{vs:List V},cW K G H b3 vs→b3.length=vs.length
 |[],_,h=>by simp only[cW]at h;subst h;rfl
 |_::_,_,h=>by simp only[cW]at h;obtain⟨v,r,rfl,_,t⟩:=h;simp[cW.length t]
end
section
variable{F:bG}{G H:ah}{σ :a3.St}{ρ:av}
end
section
variable{X:aQ}{F:bG}{e a b c cj iter elt:adI}{es:List adI}{pos p:Pos}{m n:aN}{ma:aY}
def xX(i:Nat)(ρ:av):R (List T):=match ρ[i]? with
 |some (.eB (.lst b3))=>.ok b3
 |_=>.bad
end
end bt
namespace bt
open PySem PySem.Spec a3
section
variable{F:bG}
end
section
variable{X:aQ}{F:bG}{e a b c cj iter elt:adI}{es:List adI}{pos p:Pos}{m n:aN}{ma:aY}{scope:ae6}{N:List Str}
end
noncomputable def kH(c:cH)(b:bl):Nat→av→R gx
 |0,_=>.bad
 |n+1,ρ=>(c ρ).bind fun k=>if k=true then(b ρ).bind fun f=>match f with
  |.bO bJ=>kH c b n bJ
  |.c_ bJ=>kH c b n bJ
  |.fV bJ=>.ok (.bO bJ)
  |f=>.ok f
  else .ok (.bO ρ)
def ov(c:cH)(b:bl):bl:=kH c b 1000
section
variable{F:bG}
theorem Rl{c:cH}{b:bl}:hu (fH F (ov c b)) (K6 (gq F c) (fH F b)):=by
 rintro c0 σ H ⟨G,ρ,r,h⟩;refine⟨fun m σ2 bk=>∃dg ew,Rel F dg bk σ2 ew∧Sub G dg∧hO F dg c0 (kH c b m ew),⟨1000,G,ρ,r,Sub.refl _,h⟩,?_⟩;rintro m σ2 bk ⟨dg,ew,bg,s2,k2⟩;refine⟨dg,ew,bg,?_⟩;cases m with
 |zero=>exact k2.elim
 |succ n=>
  simp only[kH]at k2;cases ec:c ew with
  |bad=>rw[ec]at k2;exact k2.elim
  |exc x=>rw[ec]at k2;exact k2
  |ok k=>
   rw[ec,R.bM]at k2;intro dy gG d9 mx;cases k with
   |false=>rw[if_neg adC]at k2 ⊢;exact k2 σ2 gG dy d9 mx.g
   |true=>
    rw[if_pos rfl]at k2 ⊢;refine⟨fun σ4 gV=>∃sf iv,Rel F sf gV σ4 iv∧Sub G sf∧hO F sf c0 (kH c b n iv),fun σ4 gV q=>⟨n,age _,q⟩,gG,ew,d9,?_⟩;cases bj:b ew with
    |bad=>rw[bj]at k2;exact k2.elim
    |exc x=>rw[bj]at k2;exact k2
    |ok f=>
     rw[bj,R.bM]at k2;cases f with
     |bO nJ=>exact fun σ7 kK gy hp cR=>⟨kK,nJ,hp,s2.trans (mx.g.trans cR),hO.mono (mx.g.trans cR) k2⟩
     |c_ nJ=>exact fun σ7 kK gy hp cR=>⟨kK,nJ,hp,s2.trans (mx.g.trans cR),hO.mono (mx.g.trans cR) k2⟩
     |fV nJ=>exact fun σ7 kK gy hp cR=>k2 σ7 kK gy hp (mx.g.trans cR)
     |dJ d=>exact k2
     |jn ds=>exact k2
     |eh t=>exact k2
end
section
variable{X:aQ}{F:bG}{e a b c o:adI}{es:List adI}{pos p:Pos}{m n:aN}{ma:aY}
theorem LX{body:List aep}{wR:cH}{gC:bl}(aS:PassesOwn (adu X.prog X.w) X.A X.env X.xe)(aB:fl X F c wR)(J:i8 X F body gC):fB X F (.While c body [] pos) (ov wR gC):=⟨dG.imp (V9 aS aB.1 J.1) Rl⟩
noncomputable def findD(ks:List cx)(ds:List D)(kk:cx):Option D:=((ks.zip ds).find? fun p=>decide (p.1=kk)).map (·.2)
theorem z_{K:PySem.W.Frag}{G:ah}(kk:cx):∀{ds:List D}{xs:List (cx×V)},aP K G ds (xs.map (·.2))→match findD (xs.map (·.1)) ds kk with
  |some d=>∃v,gR xs kk=some v∧At K G d v
  |none=>gR xs kk=none
 |[],xs,h=>by
  simp only[aP]at h;have:xs=[]:=by simpa using h
  subst this;rfl
 |d::ds,[],h=>by simp only[aP,ahK]at h;obtain⟨v,r,e,_⟩:=h;cases e
 |d::ds,(k,v)::xs,h=>by
  simp only[aP,adi]at h;obtain⟨my,r,e,a,t⟩:=h;cases e;have bQ:=z_ (K:=K) (G:=G) kk (ds:=ds) (xs:=xs) t;unfold findD gR at bQ ⊢;simp only[adi,aem,adM];by_cases aH:k=kk
  ·simp only[aH,decide_true,Option.map_some];exact⟨v,rfl,a⟩
  ·simp only[aH,decide_false];exact bQ
noncomputable def tB(m n:aN):aN:=fun ρ=>(m ρ).bind fun d=>match d with
 |.bx ks ds=>(n ρ).bind fun k=>match md k with
  |some kk=>.ok ((findD ks ds kk).getD .non)
  |none=>.bad
 |_=>.bad
theorem QI:eR (cZ F (tB m n)) (KR (cZ F m) (cZ F n)):=by
 rintro σ H Q ⟨G,ρ,r,h⟩;unfold tB at h;refine⟨G,ρ,r,?_⟩;cases aw:m ρ with
 |bad=>rw[aw]at h;exact h.elim
 |exc c=>rw[aw]at h;exact h
 |ok dd=>
  rw[aw,R.bM]at h;intro x H1 aW az s1 b9;cases dd with
  |bx ks ds=>
   simp only at h;simp only[At]at b9;obtain⟨a,xs,rfl,aO,rfl,al⟩:=b9;refine⟨a,rfl,.inr ⟨xs,.inl (az.aM.sub _ _ aO)⟩,aW,ρ,az,?_⟩;cases bj:n ρ with
   |bad=>rw[bj]at h;exact h.elim
   |exc c=>rw[bj]at h;exact h
   |ok n4=>
    rw[bj,R.bM]at h;intro y bk dg bg s2 c3;cases fD:md n4 with
    |none=>rw[fD]at h;exact h.elim
    |some kk=>
     rw[fD]at h;simp only at h;obtain⟨q,rfl,aR⟩:=wj fD c3;refine⟨gR xs kk,iw.t (bg.aM.sub _ _ (s2.g _ _ aO)) (xW aR bg.aM.sub),?_⟩;have f:=z_ (K:=F.K) (G:=aW) kk al;cases fM:findD (xs.map (·.1)) ds kk with
     |none=>rw[fM]at f h;rw[show gR xs kk=none from f];exact h .non bk dg bg (s1.trans s2) (by simp only[ahq,At])
     |some d=>rw[fM]at f h;obtain⟨v,ev,bp⟩:=f;rw[ev];exact h v bk dg bg (s1.trans s2) (bp.mono s2.g)
  |_=>exact h.elim
theorem Zm {apos ct:Pos} (aJ:X.A.units+64<aew) (aE:bb X F o m) (he:bb X F e n) (h1:aeb o "get" X.env (aeq o X.env)=aeq o X.env:=by rfl)(h2:((adR ct (ac5 [e] X.env)).all (fun x=>!x.1)&&(ae7 ct (aee [] X.env)).all (fun x=>x.1.isSome)
  &&decide (([e]:List adI).length+([]:List ae3).length+(if([]:List ae3).isEmpty then 0 else 1)<30))=true:=by rfl) (h3:(apos.endLine==ct.line)=true:=by rfl) (h4:adR ct (ac5 [e] X.env)=[(false,aeq e X.env)]:=by rfl) :
  bb X F (.Call (.Attribute o "get" apos) [e] [] ct) (tB m n):=⟨a6.imp (Vt (by omega) aE.1 he.1 ⟨h1,h2,h3,h4⟩) QI⟩
noncomputable def pj(d k:D):R D:=match d with
 |.bx ks ds=>match md k with
  |some kk=>match findD ks ds kk with
   |some v=>.ok v
   |none=>.bad
  |none=>.bad
 |_=>.bad
theorem QJ:eR (cZ F (aj pj m n)) (KQ (cZ F m) (cZ F n)):=by
 rintro σ H Q ⟨G,ρ,r,h⟩;unfold aj at h;refine⟨G,ρ,r,?_⟩;cases aw:m ρ with
 |bad=>rw[aw]at h;exact h.elim
 |exc c=>rw[aw]at h;exact h
 |ok dd=>
  rw[aw,R.bM]at h;intro x H1 aW az s1 b9;refine⟨aW,ρ,az,?_⟩;cases bj:n ρ with
  |bad=>rw[bj]at h;exact h.elim
  |exc c=>rw[bj]at h;exact h
  |ok n4=>
   rw[bj,R.bM]at h;intro y bk dg bg s2 c3;unfold pj at h
   split at h
   ·rename_i ks ds
    split at h
    ·rename_i kk fD;simp only[At]at b9;obtain⟨a,xs,rfl,aO,rfl,al⟩:=b9;obtain⟨q,rfl,aR⟩:=wj fD c3;have f:=z_ (K:=F.K) (G:=aW) kk al
     split at h
     ·rename_i d fM;rw[fM]at f;obtain⟨v,ev,bp⟩:=f;refine⟨a,v,rfl,?_,h v bk dg bg (s1.trans s2) (bp.mono s2.g)⟩;rw[←ev];exact iw.t (bg.aM.sub _ _ (s2.g _ _ aO)) (xW aR bg.aM.sub)
     ·exact h.elim
    ·exact h.elim
   ·exact h.elim
theorem LB(aJ:X.A.units+64<aew)(aE:bb X F o m)(he:bb X F e n)(hs:yD e):bb X F (.Subscript o e pos) (aj pj m n):=⟨a6.imp (Vs (by omega) aE.1 he.1 hs) QJ⟩
noncomputable def Wq(F:bG):V→List V→ah→cX→Prop:=fun x vs H Q=>∃G d1 cF p y ds xs j,Sub G H∧x=.ref p∧vs=[y]∧At F.K G d1 y∧gW F.K G cF p false ds xs∧okN 7 d1=true∧ds.all (okN 7)=true∧ds.length<1000000∧ds.findIdx? (fun z=>bz z d1)=some j∧Q (.int (j:Nat)) H
theorem MG{pins:List (ada×Obj)}{σ :a3.St}{G H:ah}{s:ac4}(I:Inv X pins σ H s)(bh:Sub G H){d1:D}{ds:List D}{xs:List V}{its:List ac1}(q:aP X.K G ds xs)(r:Vals xs its)(o:ds.all (okN 7)=true){i:Nat}{d:D}{u:ac1}(aq:ds[i]?=some d)(aD:its[i]?=some u):kR X.K G d1 u=bz d d1:=by
 obtain⟨v,ev,bp⟩:=q.get aq;have aE:okN 7 d=true:=List.all_eq_true.mp o d (adn aq);have cg:RelV v u:=by obtain⟨hD,n_,eD⟩:=r.get ev;rw[aD]at n_;cases n_;exact eD
 exact yN I bh aE ⟨v,bp,cg⟩
theorem TU(a5:F.K=X.K)(aJ:X.A.units+64<aew):yC X "list.index" (Wq F):=by
 intro pins s σ H x vs v us Q I bH cg h;obtain⟨G,d1,cF,p,y,ds,xs,j,bh,rfl,rfl,a1,gO,cQ,b_,ai,cz,q⟩:=h;rw[a5]at a1 gO;cases bH;obtain⟨u,rfl,eD⟩:=vals1 cg;obtain⟨its,az,t1,dZ⟩:=gO.heap I bh;have hm:=wU I bh (A:=X.A.in1) (d1:=d1) (by simp only[in1_units];omega) cQ a1 eD gO.hc az b_;obtain⟨⟨cls,dict,data,slots⟩,g1,g2,nn,g3⟩:=dZ rfl;simp only at g2 g3;subst g2 g3;obtain⟨gm,aq,aD⟩:=List.findIdx?_eq_some_iff_getElem.mp cz;have s9:its.length=ds.length:=by rw[←az.length,←gO.hc.length]
 have Az:j<its.length:=by omega
 have Ep:∀(i:Nat)(h:i<ds.length),kR X.K G d1 (its[i]'(by omega))=bz ds[i] d1:=fun i h=>MG I bh gO.hc az b_ (ac2 h) (ac2 (by omega));have d4:s.TypeIs (.ref p) "list":=⟨_,g1,rfl⟩;have Qk:(j:Int)<2^63-1:=by
  have:(j:Int)<1000000:=by omega
  omega
 refine aic PySem.F.slot_list_index d4 PySem.F.entry_list_index (PySem.F.args_list_index_2 _ _) (SeqAt.list_indexAt p its.toArray nn dict slots u (kR X.K G d1) j (by simpa using Az) Qk ?_ ?_) ⟨g1,fun w hw=>hm w (by simpa using hw),?_⟩
 ·have:=Ep j gm;rw[aq]at this;simpa using this
 ·intro k aH PO;have z:=Ep k (by omega);have b4:=aD k PO;rw[Bool.not_eq_true]at b4;rw[b4]at z;simpa using z
 ·exact⟨.int (j:Nat),H,I.tok _,⟨_,rfl⟩,q⟩
noncomputable def rd:D→List D→R D
 |.lst ds,[d]=>if okN 7 d=true∧ds.all (okN 7)=true∧ds.length<1000000 then match ds.findIdx? (fun z=>bz z d)with
  |some j=>.ok (.int (j:Nat))
  |none=>.bad
  else .bad
 |_,_=>.bad
noncomputable def mh(m:aN)(ma:aY):aN:=fun ρ=>(m ρ).bind fun d=>match d with
 |.lst ds=>(ma ρ).bind fun es=>rd (.lst ds) es
 |_=>.bad
theorem DK {apos ct:Pos} (aJ:X.A.units+64<aew) (aE:bb X F o m) (ag:fb X F [e] ma) (a5:F.K=X.K:=by rfl)(iO:aeb o "index" X.env (aeq o X.env)=aeq o X.env:=by rfl)(iQ:((adR ct (ac5 [e] X.env)).all (fun x=>!x.1)&&(ae7 ct (aee [] X.env)).all (fun x=>x.1.isSome)
    &&decide (([e]:List adI).length+([]:List ae3).length+(if([]:List ae3).isEmpty then 0 else 1)<30))=true:=by rfl)
  (iR:(apos.endLine==ct.line)=true:=by rfl) (hs:ac5 [e] X.env=(false,aeq e X.env)::ac5 [] X.env:=by rfl) (iS:(adR ct (ac5 [] X.env)).any (·.1)=false:=by rfl) :
  bb X F (.Call (.Attribute o "index" apos) [e] [] ct) (mh m ma):=by
 refine⟨a6.imp (qa PySem.F.plainAttrs_list PySem.F.slot_list_index PySem.F.type_list_index (TU (F:=F) a5 aJ) aE.1 ag.1 iO iQ iR hs iS) ?_⟩;rintro σ H Q ⟨G,ρ,r,h⟩;unfold mh at h;refine⟨G,ρ,r,?_⟩;cases aw:m ρ with
 |bad=>rw[aw]at h;exact h.elim
 |exc c=>rw[aw]at h;exact h
 |ok dd=>
  rw[aw,R.bM]at h;intro x H1 aW az s1 b9;cases dd with
  |lst ds=>
   simp only at h;simp only[At]at b9;obtain⟨p,xs,rfl,aO,al⟩:=b9;refine⟨.inl ⟨rfl,xs,b7.of (az.aM.sub _ _ aO)⟩,aW,ρ,az,?_⟩;cases bj:ma ρ with
   |bad=>rw[bj]at h;exact h.elim
   |exc c=>rw[bj]at h;exact h
   |ok es=>
    rw[bj,R.bM]at h;intro vs bk dg bg s2 c3;unfold rd at h
    split at h
    ·rename_i pq d aq;cases aq
     split at h
     ·rename_i aB
      split at h
      ·rename_i j j9;obtain⟨y,rfl,bp⟩:=c3.one;exact⟨dg,d,.lst ds,p,y,ds,xs,j,bg.aM.sub,rfl,rfl,bp,.lst (s2.g _ _ aO) (al.mono s2.g),aB.1,aB.2.1,aB.2.2,j9,h _ bk dg bg (s1.trans s2) (by simp only[At])⟩
      ·exact h.elim
     ·exact h.elim
    ·exact h.elim
  |_=>exact h.elim
end
def DI(K:PySem.W.Frag):dh→Str→ah→Prop:=fun E c H=>∃C,gu K c C∧∀a,H a=none→E (.ref C) (some a) H
def ka(K:PySem.W.Frag)(G H:ah)(E:dh):bG:=⟨K,G,H,DI K E⟩
theorem Rel.j7{F F':bG}{G H:ah}{σ :a3.St}{ρ:av}(r:Rel F G H σ ρ)(a5:F'.K=F.K)(h0:F'.b8=F.b8)(h1:F'.bK=F.bK):Rel F' G H σ ρ:=
 r.over a5 ⟨r.aM.sub,by rw[h0];exact r.aM.fN,by rw[h1];exact r.aM.bD,fun b J=>by rw[h1]at J;rw[h0];exact r.aM.new b J⟩ (Sub.refl _) fun a ag=>⟨rfl,(r.foot ag).2.1,by rw[h1];exact(r.foot ag).2.2⟩
def rN(m:cH):cH:=fun ρ=>gL (m ρ)
def t5(m:bl):bl:=fun ρ=>gL (m ρ)
def p7(m:aY):aY:=fun ρ=>gL (m ρ)
section
variable{K:PySem.W.Frag}{b8 bK:ah}{E:dh}
theorem S2{m:cH}:mJ (gq (ka K b8 bK E) (rN m)) (gq (fe K b8 bK) m):=by
 rintro σ H Q ⟨G,ρ,r,h⟩;unfold rN at h;refine⟨G,ρ,r.j7 rfl rfl rfl,?_⟩;cases e:m ρ with
 |bad=>rw[e]at h;exact h.elim
 |exc c=>rw[e]at h;exact h.elim
 |ok b=>rw[e]at h;exact fun H' G' bF u=>h H' G' (bF.j7 rfl rfl rfl) u
theorem S0{m:aY}:qE (eE (ka K b8 bK E) (p7 m)) (eE (fe K b8 bK) m):=by
 rintro σ H Q ⟨G,ρ,r,h⟩;unfold p7 at h;refine⟨G,ρ,r.j7 rfl rfl rfl,?_⟩;cases e:m ρ with
 |bad=>rw[e]at h;exact h.elim
 |exc c=>rw[e]at h;exact h.elim
 |ok b=>rw[e]at h;exact fun vs H' G' bF u a=>h vs H' G' (bF.j7 rfl rfl rfl) u a
theorem eZ.j7{F F':bG}{G H:ah}(k:eZ F G H)(h0:F'.b8=F.b8)(h1:F'.bK=F.bK):eZ F' G H:=⟨k.sub,by rw[h0];exact k.fN,by rw[h1];exact k.bD,fun b J=>by rw[h1]at J;rw[h0];exact k.new b J⟩
theorem S1{m:bl}:hu (fH (ka K b8 bK E) (t5 m)) (fH (fe K b8 bK) m):=by
 rintro c0 σ H ⟨G,ρ,r,h⟩;unfold t5 at h;refine⟨G,ρ,r.j7 rfl rfl rfl,?_⟩;cases e:m ρ with
 |bad=>rw[e]at h;exact h.elim
 |exc c=>rw[e]at h;exact h.elim
 |ok f=>
  rw[e]at h;cases f with
  |bO bJ=>exact fun σ' G' H' bF s=>h σ' G' H' (bF.j7 rfl rfl rfl) s
  |fV bJ=>exact fun σ' G' H' bF s=>h σ' G' H' (bF.j7 rfl rfl rfl) s
  |c_ bJ=>exact fun σ' G' H' bF s=>h σ' G' H' (bF.j7 rfl rfl rfl) s
  |dJ d=>exact fun v G' H' k a=>h v G' H' (k.j7 rfl rfl) a
  |jn ds=>exact fun a xs G' H' k h1 h2 h3 h4=>h a xs G' H' (k.j7 rfl rfl) h1 h2 h3 h4
  |eh t=>exact fun v G' H' k q=>h v G' H' (k.j7 rfl rfl) ⟨q.at_,q.a7,q.own⟩
end
section
variable{X:aQ}{e c:adI}{es:List adI}{st:aep}{pos p:Pos}{K:PySem.W.Frag}{b8 bK:ah}{E:dh}{mt:cH}{ms:bl}{ma:aY}
theorem YU{t:TT}(h:e9 X.hB e t):e9 X e t:=fun pins s σ H Q I q=>ad9 (h pins s σ H Q (I.jX _) q) (fun _ s'⟨H',cE,z⟩=>⟨H',cE.jr,z⟩) fun _ _ z=>z.elim
theorem YS{t:eL}(h:fk X.hB es t):fk X es t:=fun pos pins s σ H Q I q=>ad9 (h pos pins s σ H Q (I.jX _) q) (fun _ s'⟨vs,H',cE,r,z⟩=>⟨vs,H',cE.jr,r,z⟩) fun _ _ z=>z.elim
theorem YT{t:e1}(h:dG X.hB st t):dG X st t:=fun pins s σ H D I q=>ad9 (h pins s σ H D (I.jX _) q) (fun f s' z=>by
 cases f with
 |next=>obtain⟨σ',H',cE,z⟩:=z;exact⟨σ',H',cE.jr,z⟩
 |brk=>obtain⟨σ',H',cE,z⟩:=z;exact⟨σ',H',cE.jr,z⟩
 |cont=>obtain⟨σ',H',cE,z⟩:=z;exact⟨σ',H',cE.jr,z⟩
 |ret v=>obtain⟨x,σ',H',cE,z⟩:=z;exact⟨x,σ',H',cE.jr,z⟩) fun _ _ z=>z.elim
theorem LO(h:fl X.hB (fe K b8 bK) e mt):fl X (ka K b8 bK E) e (rN mt):=⟨fun pins s σ H Q I q=>YU h.1 pins s σ H Q I (S2 σ H Q q)⟩
theorem DN(h:fb X.hB (fe K b8 bK) es ma):fb X (ka K b8 bK E) es (p7 ma):=⟨fun pos pins s σ H Q I q=>YS h.1 pos pins s σ H Q I (S0 σ H Q q)⟩
theorem Zz(h:fB X.hB (fe K b8 bK) st ms):fB X (ka K b8 bK E) st (t5 ms):=⟨fun pins s σ H D I q=>YT h.1 pins s σ H D I (S1 D σ H q)⟩
end
structure qF(P:adp)(w:adJ)(K:PySem.W.Frag)(mg:Str→Option ac1)(base:adX)(x:Str)(n k:Nat)(mf:List D→R b6):Prop where
 ex:∃(f:ada)(fd:aet)(ps:List Str),ps.length=n∧hr P w K mg base (g8 P w) k f fd ps (oL K n (DI K) mf)∧mg x=some (.ref f)∧PySem.W.keepIn K (.ref f)=true∧Binds K fd ps []
structure yq(K:PySem.W.Frag)(mg:Str→Option ac1)(c:Str):Prop where
 ex:∃C,gu K c C∧mg c=some (.ref C)∧PySem.W.excIn K C [.type "ValueError",.type "Exception",.type "BaseException",.type "object"] "ValueError.__new__"=true
def Bf(c:Str):bl:=fun _=>.exc c
section
variable{P:adp}{w:adJ}{K:PySem.W.Frag}{mg:Str→Option ac1}{base:adX}{N:List Str}{qual:Str}{scope:ae6}{f:ada}{cd:ac1}{A:adG}{outer:List Env}{s0:ac4}{ht:ah}{E:dh}{b8 bK:ah}
theorem LS{x:Str}{np ct pos vp:Pos}{m:Str}{j:Nat}(k:yq K mg x)(aO:dM (e3 (g8 P w) P w K mg base N qual scope f cd A outer s0 ht E) x:=by rfl)(hd:(x==("__debug__" :Str))=false:=by decide) :
  fB (e3 (g8 P w) P w K mg base N qual scope f cd A outer s0 ht E) (ka K b8 bK E) (.Raise (some (.Call (.Name x np) [.Constant (.str m) j vp] [] ct)) none pos) (Bf x):=by
 obtain⟨C,h1,h2,h3⟩:=k.ex;refine⟨fun pins s σ H D I q=>V8 (X:=e3 (g8 P w) P w K mg base N qual scope f cd A outer s0 ht E) PySem.F.excBase_ValueError h3 h2 rfl aO hd pins s σ H D I ?_⟩;obtain⟨G,ρ,r,h⟩:=q;obtain⟨lT,b0,c9⟩:=(show km (ka K b8 bK E) x from h) G H r.aM;have:lT=C:=by unfold gu at b0 h1;rw[h1]at b0;cases b0;rfl
 subst this;exact Zs c9
theorem DJ{x:Str}{n k:Nat}{mf:List D→R b6}{e:adI}{es:List adI}{ma:aY}{pos p:Pos}(c:qF P w K mg base x n k mf)(au:dW k (e3 (g8 P w) P w K mg base N qual scope f cd A outer s0 ht E).A)(ag:fb (e3 (g8 P w) P w K mg base N qual scope f cd A outer s0 ht E) (ka K b8 bK E) (e::es) ma)(aO:dM (e3 (g8 P w) P w K mg base N qual scope f cd A outer s0 ht E) x:=by rfl)(gk:(x==("__debug__" :Str))=false:=by decide)(he:ac5 (e::es) (e3 (g8 P w) P w K mg base N qual scope f cd A outer s0 ht E).env=(false,aeq e (e3 (g8 P w) P w K mg base N qual scope f cd A outer s0 ht E).env)::ac5 es (e3 (g8 P w) P w K mg base N qual scope f cd A outer s0 ht E).env:=by rfl)(de:(adR pos (ac5 es (e3 (g8 P w) P w K mg base N qual scope f cd A outer s0 ht E).env)).any (·.1)=false:=by rfl) :
  bb (e3 (g8 P w) P w K mg base N qual scope f cd A outer s0 ht E) (ka K b8 bK E) (.Call (.Name x p) (e::es) [] pos) (b5 n mf ma):=by
 obtain⟨Fv,fd,ps,aK,iL,hm,aH,J⟩:=c.ex;exact⟨a6.imp (xa (X:=e3 (g8 P w) P w K mg base N qual scope f cd A outer s0 ht E) iL au aO hm aH J .nil Vh ag.1 gk he de) (Hy (F:=ka K b8 bK E) (xe:=DI K) (E:=E) rfl)⟩
end
theorem DH{P:adp}{w:adJ}{K:PySem.W.Frag}{mg:Str→Option ac1}{base:adX}{x:Str}{st:aep}{N ps:List Str}{k:Nat}{m:bl}(d:df K mg x st ps)(S:cS N ps (b1 st))(h:∀(f:ada)(cv:ac1)(A:adG)(outer:List Env)(s:ac4)(H:ah)(E:dh),dW k (A.deeper (ad3 x (b1 st) s.heap.objs.size f cv))→∀b8 bK,i8 (e3 (g8 P w) P w K mg base N x (b1 st) f cv A outer s H E) (ka K b8 bK E) (gh st) m) :
  qF P w K mg base x ps.length (k+1) (cY N.length m):=by
 obtain⟨f,fd,fn,hm,J⟩:=d.ex;refine⟨f,fd,ps,rfl,?_,hm,fn.aM,J⟩;obtain⟨fo,dP,da,doc,pm,an,cv,c_,lu,rfl,lk,en⟩:=fn.ex;refine Gy lk en S xE fun A outer s H vs Q E au hs=>?_;obtain⟨G,bT⟩:=vm hs;exact⟨_,(h f cv A outer s H E au G H).1,bT⟩
noncomputable def rp(n:Nat)(mf:List D→R b6)(m:aY):aN:=fun ρ=>(m ρ).bind fun ds=>if ds.length=n then(gL (mf ds)).bind iZ else .bad
section
variable{X:aQ}{F:bG}{e:adI}{es:List adI}{pos p:Pos}{ma:aY}
theorem Vi{P:adp}{w:adJ}:Passes (g8 P w) X (fun _ _ _=>False):=fun _ _ _ _ _ _ _ h=>by obtain⟨_,_,_,_,_,_,_,z⟩:=h;exact z.elim
theorem QD{n:Nat}{mf:List D→R b6}{m:aY}{xe:dh→Str→ah→Prop}{E:dh}:eR (cZ F (rp n mf m)) (xQ (oL F.K n xe mf) [] E (eE F m)):=by
 rintro σ H Q ⟨G,ρ,r,h⟩;unfold rp at h;refine⟨G,ρ,r,?_⟩;cases aw:m ρ with
 |bad=>rw[aw]at h;exact h.elim
 |exc c=>rw[aw]at h;exact h
 |ok ds=>
  rw[aw,R.bM]at h;intro vs H1 aW az s1 a;by_cases aK:ds.length=n
  ·rw[if_pos aK]at h;rw[ael];refine⟨aW,ds,az.aM.sub,a,aK,?_⟩;cases e:mf ds with
   |bad=>rw[e]at h;exact h.elim
   |exc c=>rw[e]at h;exact h.elim
   |ok t=>
    rw[e]at h;have h:ib F G H σ ρ Q (iZ t):=h;cases t with
    |v d=>exact fun v G' H' k bp=>h v H' G' (eZ.of az k) (s1.trans ⟨k.fN,k.bD,k.new⟩) bp
    |o es=>intro p xs G' H' k h1 h2 h3 h4;have h2:H1 p=none:=h2;have bF:=eZ.of az k;have no:¬dS H' σ ρ p:=dS.fresh az k.bD h2;refine h (.ref p) H' _ (bF.take h3 h1 (az.aM.bD.gone h2) no) ((s1.trans ⟨k.fN,k.bD,k.new⟩).put (s1.h.gone h2) h1) ?_;simp only[At];exact⟨p,xs,rfl,et,h4.mono (Sub.upd h1)⟩
    |t t=>intro v G' H' k q;obtain⟨a1,a2,eM⟩:=(eZ.of az k).Di (F':=⟨F.K,aW,H1,xe E⟩) rfl q (s1.trans ⟨k.fN,k.bD,k.new⟩) fun b J=>⟨s1.h.gone (q.own b J).2,az.aM.bD.gone (q.own b J).2,dS.fresh az k.bD (q.own b J).2⟩;exact h v H' _ a1 a2 eM
  ·rw[if_neg aK]at h;exact h.elim
theorem LA{x:Str}{n k:Nat}{mf:List D→R b6}(c:qF X.prog X.w X.K X.mg X.base x n k mf)(au:dW k X.A)(ag:fb X F (e::es) ma)(a5:F.K=X.K:=by rfl)(aO:dM X x:=by rfl)(gk:(x==("__debug__" :Str))=false:=by decide)(he:ac5 (e::es) X.env=(false,aeq e X.env)::ac5 es X.env:=by rfl)(de:(adR pos (ac5 es X.env)).any (·.1)=false:=by rfl):bb X F (.Call (.Name x p) (e::es) [] pos) (rp n mf ma):=by obtain⟨f,fd,ps,aK,iL,hm,aH,J⟩:=c.ex;refine⟨a6.imp (xa iL au aO hm aH J .nil Vi ag.1 gk he de) ?_⟩;rw[←a5];exact QD
end
end bt
namespace a3
open PySem PySem.Spec PySem.Calls PyProof.Rows PySem.W PySem.Builtin PySem.Builtin.ObjectAttr PySem.Builtin.Getset_descriptor
section
variable{prog:adp}{w:adJ}{A:adG}{E:ac1→ac4→Prop}{s:ac4}{K:Frag}{a D:ada}
end
end a3
namespace bt
open PySem PySem.Spec a3
section
variable{X:aQ}{F:bG}{a:adI}{pos p:Pos}{m:aN}
end
noncomputable def JY:D→D→R D
 |.lst xs,.int k=>if 0≤k∧k≤1000∧xs.length≤100 then .ok (.lst (aeZ k.toNat xs).flatten)else .bad
 |_,_=>.bad
section
variable{X:aQ}{F:bG}{a b:adI}{pos p:Pos}{m n:aN}
noncomputable def Iz(i:Nat)(n:aN):aN:=fun ρ=>(ownAt i ρ).bind fun ds=>(n ρ).bind fun k=>match k with
 |.int j=>match gI ds j with
  |some d=>.ok d
  |none=>.bad
 |_=>.bad
end
end bt
namespace e0
open PySem PySem.SetTable
theorem zC(xs:Array Nat)(j:Nat)(hs:xs.toList.Pairwise (· <·)):∀fuel lo ar,ar≤lo+fuel→lo≤ar→ar≤xs.size→(∀k,k<lo→xs.getD k j<j)→(∀k,ar≤k→k<xs.size→j≤xs.getD k j)→
  below.go xs j fuel lo ar≤xs.size∧(∀k,k<below.go xs j fuel lo ar→xs.getD k j<j)∧(∀k,below.go xs j fuel lo ar≤k→k<xs.size→j≤xs.getD k j)
 |0,lo,ar,h1,h2,h3,h4,h5=>by
  have e:lo=ar:=by omega
  subst e;exact⟨h3,h4,h5⟩
 |fuel+1,lo,ar,h1,h2,h3,h4,h5=>by
  have mono:∀a b,a≤b→b<xs.size→xs.getD a j≤xs.getD b j:=by
   intro a b mZ J;rcases afj mZ with rfl|mZ
   ·exact ac6 _
   have:=List.pairwise_iff_getElem.mp hs a b (by simp;omega) (by simpa using J) mZ;simp only[Array.getElem_toList]at this;rw[adQ,adQ,adH (by omega),adH J];exact afF this
  unfold below.go;by_cases h:lo<ar
  ·rw[if_pos h];dsimp only;by_cases q:xs.getD ((lo+ar)/2) j<j
   ·rw[if_pos q];refine zC xs j hs fuel _ ar (by omega) (by omega) h3 (fun k aH=>?_) h5;exact Nat.lt_of_le_of_lt (mono k ((lo+ar)/2) (by omega) (by omega)) q
   ·rw[if_neg q];refine zC xs j hs fuel lo _ (by omega) (by omega) (by omega) h4 fun k aH jF=>?_;exact adB (Nat.not_lt.mp q) (mono _ k aH jF)
  ·rw[if_neg h];have e:lo=ar:=by omega
   subst e;exact⟨h3,h4,h5⟩
theorem EF{xs:Array Nat}(hs:xs.toList.Pairwise (· <·))(j:Nat):below xs j≤xs.size∧(∀y∈xs.toList.take (below xs j),y<j)∧(∀y∈xs.toList.drop (below xs j),j≤y):=by
 obtain⟨a,b,c⟩:=zC xs j hs xs.size 0 xs.size (by omega) (by omega) (ac6 _) (fun k aH=>absurd aH (Nat.not_lt_zero _)) (fun k h1 h2=>absurd h2 (by omega));refine⟨a,fun y bq=>?_,fun y bq=>?_⟩
 ·obtain⟨k,aH,rfl⟩:=aeg bq;have kZ:k<below xs j∧k<xs.size:=by simpa[aes,Nat.lt_min]using aH
  have:=b k kZ.1;rw[adQ,adH kZ.2]at this;simpa using this
 ·obtain⟨k,aH,rfl⟩:=aeg bq;have kZ:below xs j+k<xs.size:=by simp at aH;omega
  have:=c (below xs j+k) (ad5 _ _) kZ;rw[adQ,adH kZ]at this;simpa using this
theorem v8{α:Type}(xs:Array α)(p:Nat)(x:α):(insertAt xs p x).toList=xs.toList.take p++x::xs.toList.drop p:=by unfold insertAt;simp[Array.toList_extract,agZ];exact aeP (by simp)
structure Tab(t:ad7)(n:Nat):Prop where
 sG:t.dummies= #[]
 mw:t.place.size=n
 rR:t.place.toList.Pairwise (· <·)
 le:∀j∈t.place.toList,j≤t.mask
theorem slot_of{t:ad7}{n:Nat}(T:Tab t n)(j:Nat):(∃i,t.slot j=.live i∧t.place.toList[i]?=some j)∨(t.slot j=.empty∧j∉t.place.toList):=by
 obtain⟨a,b,c⟩:=EF T.rR j;unfold slot;dsimp only;by_cases h:t.place[below t.place j]?=some j
 ·left
  refine⟨below t.place j,?_,by simpa using h⟩;rw[h];simp
 ·right
  constructor
  ·have:(t.place[below t.place j]?==some j)=false:=by simpa using h
   rw[this,T.sG];simp[has]
  ·intro m;have c5:=m;rw[←aey (below t.place j) t.place.toList]at c5;rcases List.mem_append.mp c5 with c5|c5
   ·exact absurd (b j c5) (adS _)
   ·cases hd:t.place.toList.drop (below t.place j)with
    |nil=>rw[hd]at c5;cases c5
    |cons y r=>
     have bq:t.place[below t.place j]?=some y:=by
      have:(t.place.toList.drop (below t.place j))[0]?=some y:=by rw[hd];rfl
      rw[agO]at this;simpa using this
     have au:=T.rR;rw[←aey (below t.place j) t.place.toList,hd]at au;have au:=(List.pairwise_append.mp au).2.1;rw[hd]at c5;rcases List.mem_cons.mp c5 with rfl|c5
     ·exact h bq
     ·have h1:=(List.pairwise_cons.mp au).1 j c5;have h2:=c y (by rw[hd];simp);omega
theorem Km{t:ad7}{n:Nat}(T:Tab t n){j:Nat}(m:j∈t.place.toList):∃i,t.slot j=.live i∧t.place.toList[i]?=some j:=by
 rcases slot_of T j with h|h
 ·exact h
 ·exact absurd m h.2
theorem XY{t:ad7}{n:Nat}(T:Tab t n){j:Nat}(m:j∉t.place.toList):t.slot j=.empty:=by
 rcases slot_of T j with⟨i,h,e⟩|h
 ·exact absurd (adn e) m
 ·exact h.1
theorem Wg{t:ad7}{n:Nat}(T:Tab t n){j:Nat}(m:j∉t.place.toList)(cz:j≤t.mask):∃p,(t.put j).2=p∧p≤n∧Tab (t.put j).1 (n+1)∧(t.put j).1.place.toList=t.place.toList.take p++j::t.place.toList.drop p∧(t.put j).1={ t with place:=(t.put j).1.place }:=by
 obtain⟨a,b,c⟩:=EF T.rR j;have e:(t.put j).1.place.toList=t.place.toList.take (below t.place j)++j::t.place.toList.drop (below t.place j):=by unfold put;exact v8 _ _ _
 have eF:(t.put j).1.dummies= #[]:=by unfold put;simp[has,T.sG]
 have em:(t.put j).1.mask=t.mask:=rfl;refine⟨below t.place j,rfl,T.mw▸a,⟨eF,?_,?_,?_⟩,e,?_⟩
 ·have:(t.put j).1.place.toList.length=n+1:=by
    rw[e,adD,adl,aes,afa];have:=T.mw;simp only[aeL];omega
  simpa using this
 ·rw[e];have au:=T.rR;rw[←aey (below t.place j) t.place.toList]at au;obtain⟨az,bg,d9⟩:=List.pairwise_append.mp au;refine List.pairwise_append.mpr ⟨az,List.pairwise_cons.mpr ⟨fun y bq=>?_,bg⟩,fun x ax y bq=>?_⟩
  ·rcases afj (c y bq)with q|q
   ·exact absurd (q▸afx bq) m
   ·exact q
  ·rcases List.mem_cons.mp bq with rfl|bq
   ·exact b x ax
   ·exact d9 x ax y bq
 ·intro y bq;rw[em];rw[e]at bq;rcases List.mem_append.mp bq with bq|bq
  ·exact T.le y (aeF bq)
  ·rcases List.mem_cons.mp bq with rfl|bq
   ·exact cz
   ·exact T.le y (afx bq)
 ·have zW:(t.put j).1.dummies=t.dummies:=eF.trans T.sG.symm;show(t.put j).1=_;have:(t.put j).1={ t with place:=(t.put j).1.place,dummies:=(t.put j).1.dummies }:=rfl;rw[this,zW]
noncomputable def j5(mask:Nat)(p:Probe):Probe:=
 if p.more>0 then{ p with j:=p.j+1,more:=p.more-1 }else
 { p with j:=(leap mask p.i p.perturb).1,more:=runEnd mask (leap mask p.i p.perturb).1-(leap mask p.i p.perturb).1,i:=(leap mask p.i p.perturb).1,perturb:=(leap mask p.i p.perturb).2 }
theorem Ej(t:ad7)(p:Probe):t.advance p=j5 t.mask p:=rfl
def JD(mask:Nat)(i q:Nat):Probe:={ j:=i,more:=runEnd mask i-i,i,perturb:=q,dummy:=none }
noncomputable def cG(mask:Nat)(h:Int):Nat→Probe
 |0=>JD mask (bits h%(mask+1)) (bits h)
 |n+1=>j5 mask (cG mask h n)
noncomputable def dw(mask:Nat)(h:Int):Nat→Nat×Nat
 |0=>(bits h%(mask+1),bits h)
 |n+1=>leap mask (dw mask h n).1 (dw mask h n).2
def eh(mask i:Nat):Nat:=runEnd mask i-i
def bh(mask:Nat)(h:Int):Nat→Nat
 |0=>0
 |n+1=>bh mask h n+eh mask (dw mask h n).1+1
theorem WN(mask i:Nat):eh mask i≤9:=by unfold eh runEnd;split<;>omega
theorem BW(mask i:Nat):i≤runEnd mask i:=by unfold runEnd;split<;>omega
theorem Kk(mask:Nat)(h:Int):∀n,bh mask h n≤10*n
 |0=>ac6 _
 |n+1=>by have:=Kk mask h n;have:=WN mask (dw mask h n).1;unfold bh;omega
theorem Mz{mask i q r:Nat}(au:r<eh mask i):j5 mask { j:=i+r,more:=eh mask i-r,i:=i,perturb:=q,dummy:=none }={ j:=i+(r+1),more:=eh mask i-(r+1),i:=i,perturb:=q,dummy:=none }:=by unfold j5;rw[if_pos (by show eh mask i-r>0;omega)];simp only[Probe.mk.injEq];refine⟨by omega,by omega,trivial,trivial,trivial⟩
theorem MA{mask i q:Nat}:j5 mask { j:=i+eh mask i,more:=eh mask i-eh mask i,i:=i,perturb:=q,dummy:=none }=JD mask (leap mask i q).1 (leap mask i q).2:=by unfold j5;rw[if_neg (by show¬(eh mask i-eh mask i>0);omega)];rfl
theorem rP(mask:Nat)(h:Int):∀L r,r≤eh mask (dw mask h L).1→cG mask h (bh mask h L+r)={ j:=(dw mask h L).1+r,more:=eh mask (dw mask h L).1-r,i:=(dw mask h L).1,perturb:=(dw mask h L).2,dummy:=none }
 |0,0,_=>rfl
 |L,r+1,au=>by have:=rP mask h L r (by omega);show j5 mask (cG mask h (bh mask h L+r))=_;rw[this];exact Mz (by omega)
 |L+1,0,_=>by have:=rP mask h L (eh mask (dw mask h L).1) (ac6 _);show j5 mask (cG mask h (bh mask h L+eh mask (dw mask h L).1))=_;rw[this,MA];rfl
theorem MW(h:Int):bits h<2^64:=by unfold bits;have:=afT h (b:=2^64) (by decide);have:=agF h (b:=2^64) (by decide);omega
theorem Iw(mask:Nat)(h:Int):∀n,(dw mask h n).2=bits h/32^n
 |0=>by simp[dw]
 |n+1=>by show(dw mask h n).2/32=_;rw[Iw mask h n,Nat.div_div_eq_div_mul,Nat.pow_succ]
theorem Tp(mask:Nat)(h:Int)(n:Nat)(aK:13≤n):(dw mask h n).2=0:=by
 rw[Iw];apply Nat.div_eq_of_lt;have h1:=MW h;have h2:32^13≤32^n:=Nat.pow_le_pow_right (by decide) aK;have h3:(2:Nat)^64<32^13:=by decide
 omega
def jN(mask:Nat):Nat→Nat→Nat
 |0,i=>i
 |n+1,i=>(jN mask n i*5+1)%(mask+1)
theorem Iv(mask:Nat)(h:Int):∀m,(dw mask h (13+m)).1=jN mask m (dw mask h 13).1
 |0=>rfl
 |m+1=>by have e:(dw mask h (13+(m+1))).2=0:=Tp mask h _ (by omega);have aD:(dw mask h (13+m)).2/32=0:=e;show((dw mask h (13+m)).1*5+1+(dw mask h (13+m)).2/32)%(mask+1)=_;rw[aD,Iv mask h m];rfl
theorem wu(mask:Nat)(a:Nat):∀b i,jN mask (a+b) i=jN mask b (jN mask a i)
 |0,_=>rfl
 |b+1,i=>by show(jN mask (a+b) i*5+1)%(mask+1)=_;rw[wu mask a b i];rfl
def w8(mask:Nat):Nat→Nat→List Nat
 |0,_=>[]
 |n+1,i=>i::w8 mask n ((i*5+1)%(mask+1))
theorem Ii(mask i:Nat):∀n,jN mask n ((i*5+1)%(mask+1))=jN mask (n+1) i
 |0=>rfl
 |n+1=>by show(jN mask n _*5+1)%_=_;rw[Ii mask i n];rfl
theorem Bo(mask:Nat):∀n i j,j∈w8 mask n i→∃m,m<n∧jN mask m i=j
 |0,_,_,h=>by cases h
 |n+1,i,j,h=>by
  rcases List.mem_cons.mp h with rfl|h
  ·exact⟨0,by omega,rfl⟩
  ·obtain⟨m,h1,h2⟩:=Bo mask n _ j h;exact⟨m+1,by omega,by rw[←Ii];exact h2⟩
structure gU(mask:Nat):Prop where
 all:∀j,j≤mask→j∈w8 mask (mask+1) 0
 back:jN mask (mask+1) 0=0
theorem gU.reach{mask:Nat}(C:gU mask){i j:Nat}(ar:i≤mask)(cz:j≤mask):∃m,m≤mask∧jN mask m i=j:=by
 obtain⟨a,a1,a2⟩:=Bo _ _ _ _ (C.all i ar);obtain⟨b,eC,dE⟩:=Bo _ _ _ _ (C.all j cz);by_cases h:a≤b
 ·refine⟨b-a,by omega,?_⟩;rw[←a2,←wu,show a+(b-a)=b by omega,dE]
 ·refine⟨mask+1-a+b,by omega,?_⟩;rw[←a2,←wu,show a+(mask+1-a+b)=(mask+1)+b by omega,wu,C.back,dE]
theorem zL{mask:Nat}(h:(adf (mask+1)).all (fun j=>(w8 mask (mask+1) 0).contains j)=true)(b:jN mask (mask+1) 0=0):gU mask:=
 ⟨fun j cz=>by have:=List.all_eq_true.mp h j (List.mem_range.mpr (by omega));exact List.contains_iff_mem.mp this,b⟩
theorem E5:gU 7:=zL (by decide+kernel) (by decide+kernel)
theorem E4:gU 31:=zL (by decide+kernel) (by decide+kernel)
theorem E3:gU 127:=zL (by decide+kernel) (by decide+kernel)
theorem Ba(mask:Nat)(h:Int):∀n,(dw mask h n).1≤mask
 |0=>ag7 (Nat.mod_lt _ (by omega))
 |n+1=>ag7 (Nat.mod_lt _ (by omega))
theorem gU.leap{mask:Nat}(C:gU mask)(h:Int){j:Nat}(cz:j≤mask):∃L,L<mask+15∧(dw mask h L).1=j:=by obtain⟨m,h1,h2⟩:=C.reach (Ba mask h 13) cz;exact⟨13+m,by omega,by rw[Iv];exact h2⟩
theorem gU.cover{mask:Nat}(C:gU mask)(h:Int){j:Nat}(cz:j≤mask):∃n,n<10*turns mask∧(cG mask h n).j=j:=by
 obtain⟨L,h1,h2⟩:=C.leap h cz;refine⟨bh mask h L,?_,?_⟩
 ·have:=Kk mask h L;unfold turns;omega
 ·have:=rP mask h L 0 (aeB _);simp only[Nat.add_zero]at this;rw[this];exact h2
theorem OX{P:List Nat}{mask:Nat}(hs:P.Pairwise (· <·))(aK:P.length≤mask):∃j,j≤mask∧j∉P:=by
 apply adW;intro no;have all:∀j,j≤mask→j∈P:=fun j cz=>adW fun z=>no ⟨j,cz,z⟩;have a7:(adf (mask+1)).Nodup:=ahr;have sub:∀x∈adf (mask+1),x∈P:=fun x ax=>all x (by have:=List.mem_range.mp ax;omega);have key:∀(l:List Nat),l.Nodup→∀(P:List Nat),(∀x∈l,x∈P)→l.length≤P.length:=by
  intro l;induction l with
  |nil=>intro _ P _;simp
  |cons a r bQ=>intro a7 P sub;obtain⟨n1,n2⟩:=List.nodup_cons.mp a7;have ag:=sub a (by simp);have:=bQ n2 (P.erase a) (fun x ax=>(agn (by intro e;subst e;exact n1 ax)).mpr (sub x (by simp[ax])));rw[afL ag]at this;have:0<P.length:=aff ag;simp;omega
 have:=key _ a7 P sub;simp at this;omega
theorem least(p:Nat→Prop):(∃n,p n)→∃n,p n∧∀m,m<n→¬p m:=by
 rintro⟨n,h⟩;induction n using Nat.strongRecOn with
 |_ n bQ=>
  by_cases q:∃m,m<n∧p m
  ·obtain⟨m,m1,m2⟩:=q;exact bQ m m1 m2
  ·exact⟨n,h,fun m hm aS=>q ⟨m,hm,aS⟩⟩
theorem gU.first{mask:Nat}(C:gU mask){P:List Nat}(hs:P.Pairwise (· <·))(aK:P.length≤mask)(h:Int):∃N,N<10*turns mask∧(cG mask h N).j∉P∧∀m,m<N→(cG mask h m).j∈P:=by obtain⟨j,pO,om⟩:=OX hs aK;obtain⟨n,n1,n2⟩:=C.cover h pO;obtain⟨N,uZ,sq⟩:=least (fun n=>(cG mask h n).j∉P) ⟨n,by rw[n2];exact om⟩;refine⟨N,?_,uZ,fun m hm=>adW (sq m hm)⟩;have:¬n<N:=fun z=>sq n z (by rw[n2];exact om);omega
theorem Iu(mask:Nat)(h:Int):∀n,(cG mask h n).dummy=none
 |0=>rfl
 |n+1=>by
  show(j5 mask (cG mask h n)).dummy=none;unfold j5
  split<;>exact Iu mask h n
theorem BX{mask i:Nat}(ar:i≤mask):runEnd mask i≤mask:=by unfold runEnd;split<;>omega
structure D_(mask:Nat)(p:Probe):Prop where
 i:p.i≤mask
 j:p.j+p.more≤mask
theorem JG(mask:Nat)(h:Int):∀n,D_ mask (cG mask h n)
 |0=>by have:=Ba mask h 0;have h2:=BX this;have h3:=BW mask (dw mask h 0).1;exact⟨this,by show(dw mask h 0).1+(runEnd mask (dw mask h 0).1-(dw mask h 0).1)≤mask;omega⟩
 |n+1=>by
  obtain⟨a,b⟩:=JG mask h n;show D_ mask (j5 mask (cG mask h n));unfold j5
  split
  ·rename_i q;refine⟨a,?_⟩;show(cG mask h n).j+1+((cG mask h n).more-1)≤mask;omega
  ·have h1:(aiX mask (cG mask h n).i (cG mask h n).perturb).1≤mask:=ag7 (Nat.mod_lt _ (by omega));have h2:=BX h1;have h3:=BW mask (aiX mask (cG mask h n).i (cG mask h n).perturb).1;refine⟨h1,?_⟩;show(aiX mask (cG mask h n).i (cG mask h n).perturb).1+(runEnd mask _-_)≤mask;omega
theorem JF(mask:Nat)(h:Int)(n:Nat):(cG mask h n).j≤mask:=by have:=(JG mask h n).j;omega
section
variable{α:Type}
noncomputable def g9(t:ad7)(es:Array (Int×α))(j:Nat)(e:Int×α):Prop:=∃i:Nat,t.place.toList[i]?=some j∧es.toList[i]?=some e
structure gb(t:ad7)(es:Array (Int×α)):Prop where
 tab:Tab t es.size
 E2:gU t.mask
 room:es.size≤t.mask
 find:∀j e,g9 t es j e→∃n,(cG t.mask e.1 n).j=j∧∀m,m<n→(cG t.mask e.1 m).j∈t.place.toList
theorem gb.len{t:ad7}{es:Array (Int×α)}(I:gb t es):t.place.toList.length=es.size:=by simpa using I.tab.mw
theorem gb.first{t:ad7}{es:Array (Int×α)}(I:gb t es)(h:Int):∃N,N<10*turns t.mask∧(cG t.mask h N).j∉t.place.toList∧∀m,m<N→(cG t.mask h m).j∈t.place.toList:=
 I.E2.first I.tab.rR (by rw[I.len];exact I.room) h
theorem gb.ent{t:ad7}{es:Array (Int×α)}(I:gb t es){j i:Nat}(e:t.place.toList[i]?=some j):∃x,es.toList[i]?=some x:=by have:i<t.place.toList.length:=(List.getElem?_eq_some_iff.mp e).1;rw[I.len]at this;exact⟨_,ac2 (by simpa using this)⟩
theorem Ju{t:ad7}{n:Nat}(T:Tab t n){i k j:Nat}(a:t.place.toList[i]?=some j)(b:t.place.toList[k]?=some j):i=k:=by
 obtain⟨a1,a2⟩:=List.getElem?_eq_some_iff.mp a;obtain⟨eC,dE⟩:=List.getElem?_eq_some_iff.mp b;have r:=List.pairwise_iff_getElem.mp T.rR;rcases ae4 i k with h|h|h
 ·have:=r i k a1 eC h;omega
 ·exact h
 ·have:=r k i eC a1 h;omega
theorem g9.inj{t:ad7}{es:Array (Int×α)}{n:Nat}(T:Tab t n){j:Nat}{e cn:Int×α}(a:g9 t es j e)(b:g9 t es j cn):e=cn:=by obtain⟨i,a1,a2⟩:=a;obtain⟨k,eC,dE⟩:=b;have:=Ju T a1 eC;subst this;rw[a2]at dE;exact adh dE
theorem Jw{t:ad7}{es:Array (Int×α)}(I:gb t es){f:Nat→Int}(hf:∀(i:Nat) e,es.toList[i]?=some e→f i=e.1)(h:Int){N:Nat}(h1:(cG t.mask h N).j∉t.place.toList)(h2:∀m,m<N→(cG t.mask h m).j∈t.place.toList) :
  ∀fuel n,n≤N→N-n<fuel→
  (probe.go t f h fuel (cG t.mask h n)=some (.empty (cG t.mask h N).j none)∧∀m,n≤m→m<N→∀e,g9 t es (cG t.mask h m).j e→e.1≠h)∨
  (∃m i e,n≤m∧m<N∧t.place.toList[i]?=some (cG t.mask h m).j∧es.toList[i]?=some e∧e.1=h∧probe.go t f h fuel (cG t.mask h n)=some (.candidate (cG t.mask h m).j i (cG t.mask h (m+1)))∧∀c5,n≤c5→c5<m→∀e,g9 t es (cG t.mask h c5).j e→e.1≠h)
 |0,n,_,pK=>by omega
 |fuel+1,n,aK,l6=>by
  unfold probe.go;by_cases q:n=N
  ·subst q
   left
   rw[XY I.tab h1];dsimp only;rw[Iu];exact⟨rfl,fun m a b=>by omega⟩
  ·obtain⟨i,s1,s2⟩:=Km I.tab (h2 n (by omega));obtain⟨x,ax⟩:=I.ent s2;rw[s1];dsimp only;by_cases w:x.1=h
   ·right
    refine⟨n,i,x,ac6 _,by omega,s2,ax,w,?_,fun c5 a b=>by omega⟩;rw[if_pos (by rw[hf i x ax,w];simp),Ej];rfl
   ·rw[if_neg (by rw[hf i x ax];simpa using w),Ej];have no:∀e,g9 t es (cG t.mask h n).j e→e.1≠h:=fun e he=>by
     rw[g9.inj I.tab he ⟨i,s2,ax⟩];exact w
    rcases Jw I hf h h1 h2 fuel (n+1) (by omega) (by omega)with⟨a,b⟩|⟨m,tg,e,a1,a2,eM,gX,hG,i9,yJ⟩
    ·refine .inl ⟨a,fun m c d=>?_⟩;rcases afj c with rfl|c
     ·exact no
     ·exact b m c d
    ·refine .inr ⟨m,tg,e,by omega,a2,eM,gX,hG,i9,fun c5 c d=>?_⟩;rcases afj c with rfl|c
     ·exact no
     ·exact yJ c5 c d
theorem Om{t t':ad7}{es:Array (Int×α)}(ai:t.place.toList.length=es.size){j p:Nat}{e:Int×α}(aS:p≤es.size)(dH:t'.place.toList=t.place.toList.take p++j::t.place.toList.drop p){AZ:Nat}{cn:Int×α}(h:g9 t' (insertAt es p e) AZ cn):(AZ=j∧cn=e)∨g9 t es AZ cn:=by
 obtain⟨i,a,b⟩:=h;rw[dH]at a;rw[v8]at b;have dZ:(t.place.toList.take p).length=p:=by rw[aes,ai];omega
 have cP:(es.toList.take p).length=p:=by rw[aes,aeL];omega
 rcases ae4 i p with q|q|q
 ·right
  rw[ads (by omega),afH q]at a;rw[ads (by omega),afH q]at b;exact⟨i,a,b⟩
 ·left
  subst q;rw[adk (by omega),dZ,ah2]at a;rw[adk (by omega),cP,ah2]at b;simp at a b;exact⟨a.symm,b.symm⟩
 ·right
  obtain⟨k,rfl⟩:∃k,i=p+1+k:=⟨i-p-1,by omega⟩;rw[adk (by omega),dZ,show p+1+k-p=k+1 by omega,ae_,agO]at a;rw[adk (by omega),cP,show p+1+k-p=k+1 by omega,ae_,agO]at b;exact⟨p+k,a,b⟩
theorem gb.put{t:ad7}{es:Array (Int×α)}(I:gb t es){h:Int}{x:α}{N:Nat}(h1:(cG t.mask h N).j∉t.place.toList)(h2:∀m,m<N→(cG t.mask h m).j∈t.place.toList)(au:es.size+1≤t.mask) :
  gb (t.put (cG t.mask h N).j).1 (insertAt es (t.put (cG t.mask h N).j).2 (h,x))∧(t.put (cG t.mask h N).j).2≤es.size∧(insertAt es (t.put (cG t.mask h N).j).2 (h,x)).size=es.size+1:=by
 obtain⟨p,d0,cD,sy,dH,_⟩:=Wg I.tab h1 (JF _ _ _);have hsz:(insertAt es p (h,x)).size=es.size+1:=by
  have:(insertAt es p (h,x)).toList.length=es.size+1:=by rw[v8,adD,adl,aes,afa,aeL];omega
  simpa using this
 rw[d0];have l_:∀y∈t.place.toList,y∈(t.put (cG t.mask h N).j).1.place.toList:=fun y bq=>by
  rw[dH];rw[←aey p t.place.toList]at bq;rcases List.mem_append.mp bq with bq|bq
  ·exact ad8 _ bq
  ·exact adA _ (ac7 _ bq)
 refine⟨⟨by rw[hsz];exact sy,I.E2,by rw[hsz];exact au,fun j e he=>?_⟩,cD,hsz⟩;rcases Om I.len cD dH he with⟨rfl,rfl⟩|he
 ·exact⟨N,rfl,fun m hm=>l_ _ (h2 m hm)⟩
 ·obtain⟨n,n1,n2⟩:=I.find j e he;exact⟨n,n1,fun m hm=>l_ _ (n2 m hm)⟩
end
theorem Kc(mask:Nat)(h:Int):∀L m,m<bh mask h L→∃fS r,fS<L∧r≤eh mask (dw mask h fS).1∧m=bh mask h fS+r
 |0,m,hm=>by simp[bh]at hm
 |L+1,m,hm=>by
  by_cases q:m<bh mask h L
  ·obtain⟨fS,r,a,b,c⟩:=Kc mask h L m q;exact⟨fS,r,by omega,b,c⟩
  ·unfold bh at hm;exact⟨L,m-bh mask h L,by omega,by omega,by omega⟩
structure Own(M:Nat)(owner:Array (Option Nat))(a:List Nat):Prop where
 mw:owner.size=M+1
 a7:a.Nodup
 le:∀j∈a,j≤M
 of:∀j k:Nat,owner[j]?=some (some k)↔a[k]?=some j
theorem Own.free{M:Nat}{owner:Array (Option Nat)}{a:List Nat}(O:Own M owner a){j:Nat}(cz:j≤M):(owner.getD j (some 0)).isNone=true↔j∉a:=by
 have hs:j<owner.size:=by have:=O.mw;omega
 rw[adQ,adH hs];constructor
 ·intro h m;obtain⟨k,aH,rfl⟩:=aeg m;have:=(O.of _ k).mpr (ac2 aH);rw[adH hs]at this;simp only[afb]at h;rw[adh this]at h;cases h
 ·intro h;simp only[afb];cases e:owner[j]with
  |none=>rfl
  |some k=>exfalso;have:=(O.of j k).mp (by rw[adH hs,e]);exact h (adn this)
theorem GD{M:Nat}{owner:Array (Option Nat)}{a:List Nat}(O:Own M owner a)(h:Int):∀fuel L,(∃mL,L≤mL∧mL<L+fuel∧(dw M h mL).1∉a)→
  ∃fS k,layClean.free M owner fuel (dw M h L).1 (dw M h L).2=some ((dw M h fS).1+k)∧k≤eh M (dw M h fS).1∧(dw M h fS).1+k∉a∧L≤fS∧(∀lV,L≤lV→lV<fS→∀r,r≤eh M (dw M h lV).1→(dw M h lV).1+r∈a)∧∀r,r<k→(dw M h fS).1+r∈a
 |0,L,⟨mL,h1,h2,_⟩=>by omega
 |fuel+1,L,⟨mL,h1,h2,h3⟩=>by
  unfold layClean.free;have hle:=Ba M h L;have aaL:=BX hle;have aaC:=BW M (dw M h L).1;cases hf:(adf (runEnd M (dw M h L).1+1-(dw M h L).1)).find? fun k=>(owner.getD ((dw M h L).1+k) (some 0)).isNone with
  |some k=>
   dsimp only;obtain⟨aV,as,bs,bE,er⟩:=List.find?_eq_some_iff_append.mp hf;have aH:k∈adf (runEnd M (dw M h L).1+1-(dw M h L).1):=by rw[bE];simp
   have aH:=List.mem_range.mp aH;refine⟨L,k,rfl,by unfold eh;omega,(O.free (by omega)).mp aV,ac6 _,fun lV c d=>by omega,fun r au=>?_⟩;have:r∈as:=by
    have fD:as.length=k:=by
     have:=congrArg (·[as.length]?) bE;simp only[adk (ac6 _),ah2,List.getElem?_cons_zero]at this;have l:as.length<runEnd M (dw M h L).1+1-(dw M h L).1:=by have:=congrArg List.length bE;simp at this;omega
     rw[ae9 l]at this;exact adh this
    have:=congrArg (·[r]?) bE;rw[ads (by omega),ae9 (by omega)]at this;exact adn this.symm
   have no:=er r this;apply adW;intro z;rw[(O.free (by omega)).mpr z]at no;simp at no
  |none=>
   dsimp only;have all:∀r,r≤eh M (dw M h L).1→(dw M h L).1+r∈a:=fun r au=>by have:=List.find?_eq_none.mp hf r (List.mem_range.mpr (by unfold eh at au;omega));apply adW;intro z;exact this ((O.free (by unfold eh at au;omega)).mpr z)
   have ne:L≠mL:=by rintro rfl;exact h3 (by simpa using all 0 (aeB _))
   obtain⟨fS,k,a1,a2,eM,gX,hG,i9⟩:=GD O h fuel (L+1) ⟨mL,by omega,by omega,h3⟩;refine⟨fS,k,a1,a2,eM,by omega,fun lV c d=>?_,i9⟩;rcases afj c with rfl|c
   ·exact all
   ·exact hG lV c d
theorem OY{M:Nat}(C:gU M){owner:Array (Option Nat)}{a:List Nat}(O:Own M owner a)(ai:a.length≤M)(h:Int):∃N,layClean.free M owner (turns M) (bits h%(M+1)) (bits h)=some (cG M h N).j∧(cG M h N).j∉a∧∀m,m<N→(cG M h m).j∈a:=by
 have:∃j,j≤M∧j∉a:=by
  apply adW;intro no;have all:∀j,j≤M→j∈a:=fun j cz=>adW fun z=>no ⟨j,cz,z⟩;have key:∀(l:List Nat),l.Nodup→∀(P:List Nat),(∀x∈l,x∈P)→l.length≤P.length:=by
   intro l;induction l with
   |nil=>intro _ P _;simp
   |cons a r bQ=>intro a7 P sub;obtain⟨n1,n2⟩:=List.nodup_cons.mp a7;have ag:=sub a (by simp);have:=bQ n2 (P.erase a) (fun x ax=>(agn (by intro e;subst e;exact n1 ax)).mpr (sub x (by simp[ax])));rw[afL ag]at this;have:0<P.length:=aff ag;simp;omega
  have:=key (adf (M+1)) ahr a (fun x ax=>all x (by have:=List.mem_range.mp ax;omega));simp at this;omega
 obtain⟨j,pO,om⟩:=this;obtain⟨mL,dZ,cP⟩:=C.leap h pO;obtain⟨fS,k,a1,a2,eM,gX,hG,i9⟩:=GD O h (turns M) 0 ⟨mL,aeB _,by unfold turns;omega,by rw[cP];exact om⟩;have e:=rP M h fS k a2;refine⟨bh M h fS+k,by rw[e];exact a1,by rw[e];exact eM,fun m hm=>?_⟩;by_cases q:m<bh M h fS
 ·obtain⟨lV,r,eC,dE,pd⟩:=Kc M h fS m q;rw[pd,rP M h lV r dE];exact hG lV (aeB _) eC r dE
 ·obtain⟨r,rfl⟩:∃r,m=bh M h fS+r:=⟨m-bh M h fS,by omega⟩;rw[rP M h fS r (by omega)];exact i9 r (by omega)
noncomputable def xH(M:Nat)(acc:Option (Array (Option Nat)×Nat))(h:Int):Option (Array (Option Nat)×Nat):=do
 let(owner,k) ←acc
 let j ←layClean.free M owner (turns M) (bits h%(M+1)) (bits h)
 pure (owner.setIfInBounds j (some k),k+1)
theorem S8(M:Nat)(hs:Array Int):layClean M hs=(hs.toList.foldl (xH M) (some (Array.replicate (M+1) none,0))).map (·.1):=by unfold layClean;rw[←Array.foldl_toList];rfl
structure Laid(M:Nat)(hs:List Int)(a:List Nat):Prop where
 len:a.length=hs.length
 find:∀(k:Nat) j h,a[k]?=some j→hs[k]?=some h→∃n,(cG M h n).j=j∧∀m,m<n→(cG M h m).j∈a
theorem Own.add{M:Nat}{owner:Array (Option Nat)}{a:List Nat}(O:Own M owner a){j:Nat}(cz:j≤M)(aK:j∉a):Own M (owner.setIfInBounds j (some a.length)) (a++[j]):=by
 have hs:j<owner.size:=by have:=O.mw;omega
 refine⟨by simp[O.mw],?_,?_,fun i k=>?_⟩
 ·refine List.nodup_append.mpr ⟨O.a7,by simp,fun x ax y bq=>?_⟩;simp at bq;subst bq;intro e;subst e;exact aK ax
 ·intro i ar;rcases List.mem_append.mp ar with ar|ar
  ·exact O.le i ar
  ·simp at ar;omega
 ·rw[Array.getElem?_setIfInBounds];by_cases q:j=i
  ·subst q;rw[if_pos rfl,if_pos hs];constructor
   ·intro e;have e:=adh (adh e);subst e;rw[adk (ac6 _)];simp
   ·intro e;rcases ae4 k a.length with w|w|w
    ·rw[ads w]at e;exact absurd (adn e) aK
    ·rw[w]
    ·rw[aej (by simp;omega)]at e;cases e
  ·rw[if_neg q,O.of i k];rcases ae4 k a.length with w|w|w
   ·rw[ads w]
   ·subst w;rw[adk (ac6 _),aej (ac6 _)];simp;exact q
   ·rw[aej (by omega),aej (by simp;omega)]
theorem Gz{M:Nat}(C:gU M):∀(hs done:List Int)(owner:Array (Option Nat))(a:List Nat),Own M owner a→Laid M done a→done.length+hs.length≤M→
  ∃w_ kQ,hs.foldl (xH M) (some (owner,a.length))=some (w_,kQ.length)∧Own M w_ kQ∧Laid M (done++hs) kQ
 |[],done,owner,a,O,L,_=>⟨owner,a,rfl,O,by simpa using L⟩
 |h::hs,done,owner,a,O,L,ai=>by
  simp only[adl]at ai;obtain⟨N,f1,f2,fE⟩:=OY C O (by rw[L.len];omega) h;have sr:=O.add (JF M h N) f2;have fS:Laid M (done++[h]) (a++[(cG M h N).j]):=by
   refine⟨by simp[L.len],fun k j g h1 h2=>?_⟩;rcases ae4 k a.length with w|w|w
   ·rw[ads w]at h1;rw[ads (by rw[←L.len];exact w)]at h2;obtain⟨n,n1,n2⟩:=L.find k j g h1 h2;exact⟨n,n1,fun m hm=>ad8 _ (n2 m hm)⟩
   ·subst w;rw[adk (ac6 _)]at h1;rw[L.len,adk (ac6 _)]at h2;simp at h1 h2;subst h1;subst h2;exact⟨N,rfl,fun m hm=>ad8 _ (fE m hm)⟩
   ·rw[aej (by simp;omega)]at h1;cases h1
  have step:xH M (some (owner,a.length)) h=some (owner.setIfInBounds (cG M h N).j (some a.length),(a++[(cG M h N).j]).length):=by unfold xH;simp only[Option.bind_eq_bind,ahs,f1];simp
  obtain⟨w_,kQ,az,bg,d9⟩:=Gz C hs (done++[h]) _ _ sr fS (by simp;omega);refine⟨w_,kQ,?_,bg,by simpa using d9⟩;rw[ah3,step];exact az
theorem S9{M:Nat}(C:gU M){hs:Array Int}(ai:hs.size≤M):∃owner a,layClean M hs=some owner∧Own M owner a∧Laid M hs.toList a:=by
 have O:Own M (Array.replicate (M+1) none) []:=⟨by simp,by simp,by simp,fun j k=>by
  rw[Array.getElem?_replicate]
  split<;>simp⟩
 obtain⟨owner,a,az,bg,d9⟩:=Gz C hs.toList [] _ [] O ⟨rfl,by simp⟩ (by simpa using ai);refine⟨owner,a,?_,bg,by simpa using d9⟩;rw[S8];have:(List.length ([]:List Nat))=0:=rfl;rw[this]at az;rw[az];rfl
theorem IT{l P:List Nat}(a7:l.Nodup)(sub:∀x∈l,x∈P):l.length≤P.length:=by
 induction l generalizing P with
 |nil=>simp
 |cons a r bQ=>obtain⟨n1,n2⟩:=List.nodup_cons.mp a7;have ag:=sub a (by simp);have:=bQ n2 (P:=P.erase a) (fun x ax=>(agn (by intro e;subst e;exact n1 ax)).mpr (sub x (by simp[ax])));rw[afL ag]at this;have:0<P.length:=aff ag;simp;omega
section
variable{α:Type}
theorem filterMap_get{es:List α}:∀{l:List Nat},(∀k∈l,k<es.length)→(l.filterMap (es[·]?)).length=l.length∧∀(i:Nat) e,(l.filterMap (es[·]?))[i]?=some e→∃k,l[i]?=some k∧es[k]?=some e
 |[],_=>⟨rfl,fun i e h=>by simp at h⟩
 |k::l,aH=>by
  have PI:k<es.length:=aH k (by simp);have h0:es[k]?=some es[k]:=ac2 PI;obtain⟨a,b⟩:=filterMap_get (es:=es) (l:=l) fun x ax=>aH x (by simp[ax]);rw[aeK,h0];refine⟨by simp[a],fun i e h=>?_⟩;cases i with
  |zero=>simp at h;exact⟨k,rfl,by rw[h0,h]⟩
  |succ i=>simpa using b i e (by simpa using h)
theorem S3{M:Nat}(C:gU M){es:Array (Int×α)}(ai:es.size≤M)(finger moves:Nat)(led plain:Bool) :
  ∃t' order,laid M finger moves led plain (es.map (·.1))=some (t',order)∧t'.mask=M∧t'.led=led∧t'.plain=plain∧t'.moves=moves∧t'.dummies= #[]∧
   (order.filterMap (es[·]?)).size=es.size∧gb t' (order.filterMap (es[·]?))∧∀e,e∈(order.filterMap (es[·]?)).toList↔e∈es.toList:=by
 obtain⟨owner,a,b0,O,L⟩:=S9 C (hs:=es.map (·.1)) (by simpa using ai);have Th:a.length=es.size:=by rw[L.len];simp
 have UI:∀j,j≤M→∃x,owner[j]?=some x:=fun j cz=>⟨_,adH (by have:=O.mw;omega)⟩;obtain⟨live,zY⟩:∃live,live=(adf (M+1)).filterMap fun j=>(owner.getD j none).map (j,·):=⟨_,rfl⟩;have mem:∀j k,(j,k)∈live↔a[k]?=some j:=by
  intro j k;rw[zY,List.mem_filterMap];constructor
  ·rintro⟨i,ar,e⟩;obtain⟨x,ax⟩:=UI i (by have:=List.mem_range.mp ar;omega);rw[adQ,ax,afb]at e;cases x with
   |none=>cases e
   |some y=>simp at e;obtain⟨rfl,rfl⟩:=e;exact(O.of _ _).mp ax
  ·intro e;have cz:=O.le j (adn e);refine⟨j,List.mem_range.mpr (by omega),?_⟩;rw[adQ,(O.of j k).mpr e];rfl
 have rise:(live.map (·.1)).Pairwise (· <·):=by
  rw[zY,afs];refine List.Pairwise.filterMap _ (R:=(· <·)) ?_ (by simpa using List.pairwise_lt_range);intro i tg PH b J eN jd;cases q:owner.getD i none with
  |none=>rw[q]at J;simp at J
  |some y=>
   cases dU:owner.getD tg none with
   |none=>rw[dU]at jd;simp at jd
   |some lN=>rw[q]at J;rw[dU]at jd;simp at J jd;subst J;subst jd;exact PH
 have Ub:(live.map (·.1)).Nodup:=rise.imp (fun h=>ady h);have m_:live.length=es.size:=by
  apply Nat.le_antisymm
  ·have:=IT Ub (P:=a) (fun x ax=>by
     obtain⟨p,d0,rfl⟩:=List.mem_map.mp ax;exact adn ((mem p.1 p.2).mp d0))
   simp at this;omega
  ·have:=IT O.a7 (P:=live.map (·.1)) (fun x ax=>by
     obtain⟨k,aH,rfl⟩:=aeg ax;exact List.mem_map.mpr ⟨(a[k],k),(mem _ _).mpr (ac2 aH),rfl⟩)
   simp at this;omega
 have U7:∀k∈live.map (·.2),k<es.toList.length:=fun k aH=>by obtain⟨p,d0,rfl⟩:=List.mem_map.mp aH;have:=(List.getElem?_eq_some_iff.mp ((mem p.1 p.2).mp d0)).1;simp;omega
 have Ac:((live.map (·.2)).toArray.filterMap (es[·]?)).toList=(live.map (·.2)).filterMap (es.toList[·]?):=by rw[Array.toList_filterMap];simp
 obtain⟨g1,g2⟩:=filterMap_get U7;have hsz:((live.map (·.2)).toArray.filterMap (es[·]?)).size=es.size:=by
  have:((live.map (·.2)).toArray.filterMap (es[·]?)).toList.length=es.size:=by rw[Ac,g1];simp[m_]
  simpa using this
 refine⟨_,_,by
  unfold laid;rw[b0];show some _=_;rw[←zY],rfl,rfl,rfl,rfl,rfl,hsz,⟨⟨rfl,?_,?_,?_⟩,C,by rw[hsz];exact ai,?_⟩,fun e=>?_⟩
 ·rw[hsz];simp[m_]
 ·simpa using rise
 ·intro j cz;have cz:j∈live.map (·.1):=by simpa using cz
  obtain⟨p,d0,rfl⟩:=List.mem_map.mp cz;exact O.le _ (adn ((mem p.1 p.2).mp d0))
 ·rintro j e ⟨i,h1,h2⟩;have h1:(live.map (·.1))[i]?=some j:=by simpa using h1
  rw[Ac]at h2;obtain⟨k,k1,k2⟩:=g2 i e h2;have aH:live[i]?=some (j,k):=by
   rw[ade]at h1 k1;cases q:live[i]? with
   |none=>rw[q]at h1;cases h1
   |some p=>rw[q]at h1 k1;simp at h1 k1;rw[←h1,←k1]
  have aH:=(mem j k).mp (adn aH);obtain⟨n,n1,n2⟩:=L.find k j e.1 aH (by simp at k2 ⊢;exact⟨_,k2⟩);refine⟨n,n1,fun m hm=>?_⟩;have:=n2 m hm;obtain⟨k',kZ,cn⟩:=aeg this;have:(cG M e.1 m).j∈live.map (·.1):=List.mem_map.mpr ⟨((cG M e.1 m).j,k'),(mem _ _).mpr (by rw[←cn];exact ac2 kZ),rfl⟩;simpa using this
 ·rw[Ac,List.mem_filterMap];constructor
  ·rintro⟨k,_,q⟩;exact adn q
  ·intro q;obtain⟨k,aH,rfl⟩:=aeg q;refine⟨k,?_,ac2 aH⟩;have PK:k<a.length:=by rw[Th];simpa using aH
   exact List.mem_map.mpr ⟨(a[k],k),(mem _ _).mpr (ac2 PK),rfl⟩
end
section
variable{prog:adp}{w:adJ}{A:adG}{E:ac1→ac4→Prop}{s:ac4}{K:Type}[DecidableEq K]{knd:KeyKind prog w K}
theorem IV{ks:List K}{a:ada}{n:Nat}{Q:Bool→ac4→Prop}(aH:adL knd s.heap ks a)(h:Q false s):adm (adu prog w) A (af7 (n+1) (.ref a)) Q E s:=by
 have d4:=aH.typeIs;obtain⟨o,items,m,aE,_,hd,ar⟩:=aH;unfold af7;refine acZ (agP d4 ?_);dsimp only;rw[if_pos (by rfl)];refine acZ (ac3 ?_);simp only[aea,adb,if_false];refine acZ (ad_ aE hd ?_);dsimp only;refine acZ ?_;rw[←afh];refine aeA _ (fun rest r s'=>r.1=none∧s'=s∧∀v∈rest,aeX v=true) _ ?_ ?_ _ _ ⟨rfl,rfl,ar.byValue⟩
 ·rintro v rest r s' ⟨au,rfl,al⟩;have e:af7 n v=pure false:=by
   have:=al v adz;cases v<;>first|(simp[aeX]at this;done)|(unfold af7;rfl)
  rw[e];refine acZ (ac3 ?_);simp only[adb,if_false];exact ac3 ⟨rfl,rfl,fun u aJ=>al u (ac7 _ aJ)⟩
 ·rintro⟨az,bg⟩ s' ⟨au,rfl,_⟩;simp only at au;subst au;exact ac3 h
theorem M5{ks:List K}{a:ada}{Q:Bool→ac4→Prop}(aH:adL knd s.heap ks a)(h:∀b,Q b s):adm (adu prog w) A (aiO 8 (.ref a)) Q E s:=by
 have d4:=aH.typeIs;obtain⟨o,items,m,aE,_,hd,ar⟩:=aH;unfold aiO;refine acZ (ae1 d4 F.slot_tuple_hash.lookup ?_);dsimp only;refine acZ (ad_ aE hd ?_);simp only[afb];refine acZ ?_;rw[←afh];refine aeA _ (fun rest r s'=>r.1=none∧s'=s∧∀v∈rest,aeX v=true) _ ?_ ?_ _ _ ⟨rfl,rfl,ar.byValue⟩
 ·rintro v rest r s' ⟨au,rfl,al⟩;have e:∃b,aiO 7 v=pure b:=by
   have:=al v adz;cases v<;>first|(simp[aeX]at this;done)|(unfold aiO;exact⟨_,rfl⟩)
  obtain⟨b,e⟩:=e;rw[e];refine acZ (ac3 ?_);cases b with
  |true=>exact ac3 ⟨rfl,rfl,fun u aJ=>al u (ac7 _ aJ)⟩
  |false=>exact ac3 (ac3 (h _))
 ·rintro⟨az,bg⟩ s' ⟨au,rfl,_⟩;simp only at au;subst au;exact ac3 (h _)
structure se(knd:KeyKind prog w K)(h:adX)(es:List (Int×ac1)):Prop where
 el:∀e∈es,∃ks b,e.2=.ref b∧adL knd h ks b∧e.1=adt knd ks
noncomputable def uU(knd:KeyKind prog w K)(h:adX)(es:List (Int×ac1))(ks:List K):Prop:=∃e∈es,∃b,e.2=.ref b∧adL knd h ks b
theorem Uv{ks:List K}{x:ada}(ax:adL knd s.heap ks x):∀(l:List ac1),(∀y∈l,∃g5 b,y=.ref b∧adL knd s.heap g5 b)→∀{Q:Bool→ac4→Prop},Q false s→adm (adu prog w) A (searchCouldBeSeen (.ref x) l) Q E s:=by
 intro l ai Q h;unfold searchCouldBeSeen;refine acZ ?_;refine aeA _ (fun rest r s'=>r.1=none∧s'=s∧∀y∈rest,∃g5 b,y=.ref b∧adL knd s.heap g5 b) _ ?_ ?_ _ _ ⟨rfl,rfl,ai⟩
 ·rintro v rest r s' ⟨au,rfl,al⟩;obtain⟨g5,b,rfl,J⟩:=al v adz;have Ek:=fun u(aJ:u∈rest)=>al u (ac7 _ aJ);dsimp only;by_cases q:(x==b)=true
  ·rw[if_pos (by simp[q])];exact ac3 ⟨rfl,rfl,Ek⟩
  ·rw[if_neg (by simp[aeX];simpa using q)];refine acZ (wpAny_eqIsQuiet_tuple ax ?_);simp only[aea,adb,if_false];refine acZ (wpAny_eqIsQuiet_tuple J ?_);simp only[aea,adb,if_false];refine acZ (IV ax ?_);simp only[adb,if_false];refine acZ (IV J ?_);simp only[adb,if_false];exact ac3 ⟨rfl,rfl,Ek⟩
 ·rintro⟨az,bg⟩ s' ⟨au,rfl,_⟩;simp only at au;subst au;exact ac3 h
end
section
variable{prog:adp}{w:adJ}{A:adG}{E:ac1→ac4→Prop}{s:ac4}{K:Type}[DecidableEq K]{knd:KeyKind prog w K}
theorem se.at{h:adX}{t:ad7}{es:Array (Int×ac1)}(X:se knd h es.toList){j:Nat}{e:Int×ac1}(q:g9 t es j e):∃ks b,e.2=.ref b∧adL knd h ks b∧e.1=adt knd ks:=by obtain⟨i,_,q⟩:=q;exact X.el e (adn q)
theorem gb.fits{t:ad7}{es:Array (Int×ac1)}(I:gb t es):t.fits es.size=true:=by unfold SetTable.fits SetTable.fill;rw[I.tab.sG,I.tab.mw];have:=I.room;simp;omega
theorem gb.mem{t:ad7}{es:Array (Int×ac1)}(I:gb t es){e:Int×ac1}(m:e∈es.toList):∃j,g9 t es j e:=by
 obtain⟨i,ar,rfl⟩:=aeg m;have:i<t.place.toList.length:=by rw[I.len];simpa using ar
 exact⟨_,i,ac2 this,ac2 ar⟩
theorem g9.place{t:ad7}{es:Array (Int×ac1)}{j:Nat}{e:Int×ac1}(q:g9 t es j e):j∈t.place.toList:=by obtain⟨i,q,_⟩:=q;exact adn q
theorem gb.UW{t:ad7}{es:Array (Int×ac1)}(I:gb t es)(X:se knd s.heap es.toList){ks:List K}{N:Nat}(h1:(cG t.mask (adt knd ks) N).j∉t.place.toList)(bD:uU knd s.heap es.toList ks) :
  ∃m e b,m<N∧g9 t es (cG t.mask (adt knd ks) m).j e∧e.1=adt knd ks∧e.2=.ref b∧adL knd s.heap ks b:=by
 obtain⟨e,fh,b,bj,g4⟩:=bD;obtain⟨j,q⟩:=I.mem fh;obtain⟨g5,eN,aq,k1,aD⟩:=X.el e fh;rw[bj]at aq;cases aq;have:=g4.inj k1;subst this;obtain⟨n,n1,n2⟩:=I.find j e q;rw[aD]at n1 n2;refine⟨n,e,b,?_,by rw[n1];exact q,aD,bj,g4⟩;rcases ae4 n N with z|z|z
 ·exact z
 ·subst z;exact absurd (by rw[n1];exact q.place) h1
 ·exact absurd (n2 N z) h1
theorem Ka{a x:ada}{o:Obj}{bN:Nat}{t:ad7}{es:Array (Int×ac1)}{ks:List K}(aJ:A.units<aew)(aE:s.heap.get? a=some o)(hd:o.data=.set es bN t)(I:gb t es)(X:se knd s.heap es.toList)(ax:adL knd s.heap ks x)(w5:t.mask%2=1){N:Nat}(cB:N<10*turns t.mask)(h1:(cG t.mask (adt knd ks) N).j∉t.place.toList)(h2:∀m,m<N→(cG t.mask (adt knd ks) m).j∈t.place.toList){Q:SetFound→ac4→Prop}(yes:uU knd s.heap es.toList ks→Q (.there none) s)(no:¬uU knd s.heap es.toList ks→Q (.free (cG t.mask (adt knd ks) N).j false) s) :
  ∀(fuel n:Nat)(st:Option Probe),n≤N→N-n<fuel→st.getD (t.probeStart (adt knd ks))=cG t.mask (adt knd ks) n→
   (∀m,m<n→∀e,g9 t es (cG t.mask (adt knd ks) m).j e→∀b,e.2=.ref b→¬adL knd s.heap ks b)→
   adm (adu prog w) A (setSearchFrom a (.ref x) (adt knd ks) true fuel st) Q E s
 |0,n,_,_,z,_,_=>by omega
 |fuel+1,n,st,aK,hf,gn,l8=>by
  unfold setSearchFrom;refine acZ (aft aE hd I.fits ?_);dsimp only;rw[if_neg (by unfold SetTable.gaveWay;simp[w5])];rw[gn];unfold SetTable.probe;have G:=Jw I (f:=fun i=>(es[i]?.map (·.1)).getD 0) (fun i e q=>by simp at q;simp[q]) (adt knd ks) h1 h2 (10*turns t.mask) n aK (by omega);generalize bo:probe.go t _ (adt knd ks) (10*turns t.mask) (cG t.mask (adt knd ks) n)=z;rcases G with⟨g,g2⟩|⟨m,i,e,m1,m2,rm,rn,Ts,g,g2⟩
  ·have g:=bo.symm.trans g;subst g;dsimp only;refine ac3 (no fun bD=>?_);obtain⟨m,e,b,m1,q,bE,er,lB⟩:=I.UW X h1 bD;by_cases z:m<n
   ·exact l8 m z e q b er lB
   ·exact g2 m (by omega) m1 e q bE
  ·have g:=bo.symm.trans g;subst g;dsimp only;have qU:g9 t es (cG t.mask (adt knd ks) m).j e:=⟨i,rm,rn⟩;obtain⟨g5,b,bj,g4,_⟩:=X.at qU;have iK:es[i]?=some (e.1,.ref b):=by
    have:es[i]?=some e:=by simpa using rn
    rw[this,←bj]
   have cV:t.slot (cG t.mask (adt knd ks) m).j=.live i:=by obtain⟨tg,s1,s2⟩:=Km I.tab (adn rm);rw[s1,Ju I.tab s2 rm]
   have seen:∀y∈(Array.filter (fun z:Int×ac1=>z.1==adt knd ks) es).toList.map (·.2),∃g5 b,y=.ref b∧adL knd s.heap g5 b:=fun y bq=>by
    obtain⟨e,he,rfl⟩:=List.mem_map.mp bq;have he:e∈es.toList:=by simp at he;simpa using he.1
    obtain⟨k2,dE,b0,c9,e2⟩:=X.el e he;exact⟨k2,dE,b0,c9⟩
   cases ai:t.led
   all_goals first
    |rw[if_neg (show¬((!true)=true)by simp)]
    |(rw[if_pos (show(!false)=true from rfl)];refine acZ (Uv ax _ seen ?_);rw[if_neg (show¬(false=true)by simp)])
   all_goals
    rw[iK];dsimp only;refine acZ (aeT (agK aJ g4 ax ?_));refine acZ (aft aE hd I.fits ?_);dsimp only;by_cases q:g5=ks
    ·subst q;rw[if_pos (by simp)];exact ac3 (yes ⟨e,adn rn,b,bj,g4⟩)
    ·rw[if_neg (by simp[q])];have Oy:t.sameMemory t.moves t.mask=some true:=by unfold SetTable.sameMemory;simp
     rw[Oy];dsimp only;rw[if_pos rfl,cV];dsimp only;rw[iK];dsimp only;refine acZ (wpAny_isSame_ref_self ?_);rw[if_pos rfl];refine acZ (ac3 ?_);dsimp only;rw[if_neg (by simp[q])];refine Ka aJ aE hd I X ax w5 cB h1 h2 yes no fuel (m+1) _ (by omega) (by omega) rfl fun c5 hm cn he eN vy A1=>?_;have key:∀e:Int×ac1,g9 t es (cG t.mask (adt knd ks) c5).j e→e.2=.ref eN→e.1=adt knd ks:=fun e he bj=>by obtain⟨k2,dE,b0,c9,e2⟩:=X.at he;rw[bj]at b0;cases b0;rw[e2,c9.inj A1]
     by_cases z:c5<n
     ·exact l8 c5 z cn he eN vy A1
     ·by_cases a9:c5<m
      ·exact g2 c5 (by omega) a9 cn he (key cn he vy)
      ·have:c5=m:=by omega
       subst this;have:=g9.inj I.tab he qU;subst this;rw[bj]at vy;cases vy;exact q (g4.inj A1)
end
section
variable{prog:adp}{w:adJ}{A:adG}{E:ac1→ac4→Prop}{s:ac4}{K:Type}[DecidableEq K]{knd:KeyKind prog w K}
def u1(mask n:Nat):Prop:=(mask=7∧n<5)∨(mask=31∧n<19)∨(mask=127∧n<77)
theorem NA{mask n:Nat}(h:u1 mask n):gU mask∧mask%2=1:=by
 rcases h with⟨rfl,_⟩|⟨rfl,_⟩|⟨rfl,_⟩
 ·exact⟨E5,rfl⟩
 ·exact⟨E4,rfl⟩
 ·exact⟨E3,rfl⟩
structure iD(knd:KeyKind prog w K)(ok:ada→Prop)(h:adX)(a:ada)(S:List (List K)):Prop where
 ex:∃o es bN t,h.get? a=some o∧o.ExactSet∧o.data=.set es bN t∧gb t es∧se knd h es.toList∧(∀ks,uU knd h es.toList ks↔ks∈S)∧es.size=S.length∧u1 t.mask es.size∧∀e∈es.toList,∀b,e.2=.ref b→ok b
theorem wk{h h':adX}{a b:ada}{o:Obj}{ks:List K}{es:Array (Int×ac1)}{bN:Nat}{t:ad7}(aE:h.get? a=some o)(hd:o.data=.set es bN t)(e6:adZ a h h')(x:adL knd h ks b):adL knd h' ks b:=by
 obtain⟨bR,items,n,eo,aB,fw,ar⟩:=x;have kf:b≠a:=by rintro rfl;rw[aE]at eo;cases eo;rw[hd]at fw;cases fw
 exact⟨bR,items,n,(e6.2 b kf).trans eo,aB,fw,ar⟩
theorem Sa{h h':adX}{a b:ada}{o:Obj}{ks:List K}{es:Array (Int×ac1)}{bN:Nat}{t:ad7}(aE:h'.get? a=some o)(hd:o.data=.set es bN t)(e6:adZ a h h')(x:adL knd h' ks b):adL knd h ks b:=by
 obtain⟨bR,items,n,eo,aB,fw,ar⟩:=x;have kf:b≠a:=by rintro rfl;rw[aE]at eo;cases eo;rw[hd]at fw;cases fw
 exact⟨bR,items,n,(e6.2 b kf).symm.trans eo,aB,fw,ar⟩
theorem GL{h:adX}{a:ada}{o:Obj}{es es':Array (Int×ac1)}{bN:Nat}{t t':ad7}(aE:h.get? a=some o)(ax:o.ExactSet)(hd:o.data=.set es bN t):∃bR,(h.update a (Obj.putSet es' t')).get? a=some bR∧bR.ExactSet∧bR.data=.set es' (bN+1) t':=by
 refine⟨_,aeV _ aE (by rw[putSet_of es' t' hd];rfl),?_,?_⟩
 ·rw[putSet_of es' t' hd];exact ax
 ·rw[putSet_of es' t' hd]
theorem IC{α:Type}{es:Array α}{p:Nat}{x e:α}:e∈(insertAt es p x).toList↔e=x∨e∈es.toList:=by
 rw[v8];constructor
 ·intro h;rcases List.mem_append.mp h with h|h
  ·exact .inr (aeF h)
  ·rcases List.mem_cons.mp h with h|h
   ·exact .inl h
   ·exact .inr (afx h)
 ·rintro(rfl|h)
  ·simp
  ·rw[←aey p es.toList]at h;rcases List.mem_append.mp h with h|h
   ·exact ad8 _ h
   ·exact adA _ (ac7 _ h)
theorem WJ{a:ada}{o:Obj}{bN:Nat}{t:ad7}{es:Array (Int×ac1)}{M wanted:Nat}{Q:Unit→ac4→Prop}(aE:s.heap.get? a=some o)(ax:o.ExactSet)(hd:o.data=.set es bN t)(I:gb t es)(C:gU M)(ai:es.size≤M)(pH:aiY wanted=M+1)(hm:M≤127)(h:∀es' t' bR h',adZ a s.heap h'→h'.get? a=some bR→bR.ExactSet→bR.data=.set es' (bN+1) t'→t'.mask=M→gb t' es'→es'.size=es.size→(∀e,e∈es'.toList↔e∈es.toList)→Q () { s with heap:=h' }) :
  adm (adu prog w) A (setRelay a wanted) Q E s:=by
 unfold setRelay;refine acZ (aft aE hd I.fits ?_);dsimp only;rw[if_neg (by rw[pH];show¬(M+1>adq);rw[aeY];omega)];obtain⟨t',order,az,bg,d9,mu,oE,BN,hp,oF,Wm⟩:=S3 C ai t.finger (t.movedTo M) t.led t.plain;have e:t.relaid (es.map (·.1)) wanted=some (t',order):=by unfold SetTable.relaid;rw[pH];exact az
 rw[e];have step:adm (adu prog w) A (if((order.filterMap (es[·]?)).size !=es.size)=true then(do unsupported "internal:set-table-lost-an-element";pure (order.filterMap (es[·]?),t'))else pure (order.filterMap (es[·]?),t')) (fun r s'=>adm (adu prog w) A (storeSet a r.1 r.2) Q E s') E s:=by rw[if_neg (by rw[hp];simp)];refine ac3 ?_;obtain⟨bR,g1,g2,g3⟩:=GL (es':=order.filterMap (es[·]?)) (t':=t') aE ax hd;exact wpAny_storeSet_of aE hd (h _ t' bR _ (aeO _ _ _) g1 g2 g3 bg oF hp Wm) (by rw[hp,aeY];omega)
 exact acZ step
theorem Mw{ok:ada→Prop}{a x:ada}{S:List (List K)}{ks:List K}{Q:Bool→ac4→Prop}(aJ:A.units<aew)(T:iD knd ok s.heap a S)(ax:adL knd s.heap ks x)(bL:ok x)(iN:S.length<76)(h:∀b h',adZ a s.heap h'→iD knd ok h' a (if ks∈S then S else S++[ks])→Q b { s with heap:=h' }) :
  adm (adu prog w) A (setAddHashed a (.ref x) (adt knd ks)) Q E s:=by
 obtain⟨o,es,bN,t,aE,hex,hd,I,X,hm,aK,au,aH⟩:=T.ex;obtain⟨C,w5⟩:=NA au;obtain⟨N,Mm,uZ,sq⟩:=I.first (adt knd ks);unfold setAddHashed setAddHashedIn;refine aeT (acZ (aft aE hd I.fits ?_));dsimp only;rw[if_neg (by simp[byScan,Value.scannable])];unfold setSearch;refine acZ (Ka aJ aE hd I X ax w5 Mm uZ sq (fun yes=>?_) (fun no=>?_) 100000 0 none (aeB _) ?_ rfl fun m hm=>absurd hm (Nat.not_lt_zero _))
 ·dsimp only;refine ac3 ?_;have:=h false s.heap (ai5 _ _) (by rw[if_pos ((hm ks).mp yes)];exact T);exact this
 ·dsimp only;refine acZ (aft aE hd I.fits ?_);dsimp only;have bo:es.size+1≤t.mask:=by
   rcases au with⟨e,_⟩|⟨e,_⟩|⟨e,_⟩<;>omega
  obtain⟨lU,d0,cD⟩:=I.put (x:=adx x) uZ sq bo;have IM:ks∉S:=fun z=>no ((hm ks).mpr z)
  have fin:∀(t1:ad7),t1.mask=t.mask→t1.place=(t.put (cG t.mask (adt knd ks) N).j).1.place→t1.dummies= #[]→
    adm (adu prog w) A (do
     storeSet a (af8 es (t.put (cG t.mask (adt knd ks) N).j).2 (adt knd ks,adx x)) t1
     if(!false&&t1.tooFull)=true then do
        setRelay a (SetTable.grown (es.size+1))
        pure true
      else pure true) Q E s:=by
   intro t1 aq aD b4;have a0:gb t1 (af8 es (t.put (cG t.mask (adt knd ks) N).j).2 (adt knd ks,adx x)):=by obtain⟨⟨a1,a2,eM,gX⟩,b,c,d⟩:=lU;have em:(t.put (cG t.mask (adt knd ks) N).j).1.mask=t.mask:=rfl;rw[em]at gX b c d;refine⟨⟨b4,by rw[aD];exact a2,by rw[aD];exact eM,by rw[aD,aq];exact gX⟩,by rw[aq];exact b,by rw[aq];exact c,fun j e he=>?_⟩;rw[aq,aD];exact d j e (by obtain⟨i,bA,bI⟩:=he;exact⟨i,by rw[←aD];exact bA,bI⟩)
   obtain⟨cQ,g1,g2,g3⟩:=GL (es':=af8 es (t.put (cG t.mask (adt knd ks) N).j).2 (adt knd ks,adx x)) (t':=t1) aE hex hd;have J1:=aeO s.heap a (Obj.putSet (af8 es (t.put (cG t.mask (adt knd ks) N).j).2 (adt knd ks,adx x)) t1);have done:∀(h':adX)(es':Array (Int×ac1))(t':ad7)(bR:Obj)(pC:Nat),adZ a s.heap h'→h'.get? a=some bR→bR.ExactSet→bR.data=.set es' pC t'→gb t' es'→es'.size=es.size+1→(∀e,e∈es'.toList↔e=(adt knd ks,adx x)∨e∈es.toList)→u1 t'.mask es'.size→Q true { s with heap:=h' }:=by
    intro h' es' t' bR pC e6 aV bE er lB qb ku ie;refine h true h' e6 ⟨bR,es',pC,t',aV,bE,er,lB,⟨fun e he=>?_⟩,fun k2=>?_,?_,ie,fun e he b bj=>?_⟩
    ·rcases(ku e).mp he with rfl|he
     ·exact⟨ks,x,rfl,wk aE hd e6 ax,rfl⟩
     ·obtain⟨k3,pd,b0,c9,e2⟩:=X.el e he;exact⟨k3,pd,b0,wk aE hd e6 c9,e2⟩
    ·rw[if_neg IM,agG,←hm k2];constructor
     ·rintro⟨e,he,b,bj,g4⟩;have g4:=Sa aV er e6 g4;rcases(ku e).mp he with rfl|he
      ·cases bj;exact .inr (by rw[g4.inj ax];simp)
      ·exact .inl ⟨e,he,b,bj,g4⟩
     ·rintro(⟨e,he,b,bj,g4⟩|z)
      ·exact⟨e,(ku e).mpr (.inr he),b,bj,wk aE hd e6 g4⟩
      ·simp at z;subst z;exact⟨_,(ku _).mpr (.inl rfl),x,rfl,wk aE hd e6 ax⟩
    ·rw[if_neg IM,qb,aK];simp
    ·rcases(ku e).mp he with rfl|he
     ·cases bj;exact bL
     ·exact aH e he b bj
   refine acZ (wpAny_storeSet_of aE hd ?_ (by rw[cD,aeY];omega));have K_:t1.tooFull=decide ((es.size+1)*5≥t.mask*3):=by
    unfold SetTable.tooFull SetTable.fill;have:t1.place.size=es.size+1:=by have:=a0.tab.mw;rw[cD]at this;exact this
    rw[this,aq,b4];simp
   by_cases full:(es.size+1)*5≥t.mask*3
   ·rw[if_pos (by rw[K_];simpa using full)];have big:∃M,gU M∧aiY (SetTable.grown (es.size+1))=M+1∧M≤127∧es.size+1≤M∧u1 M (es.size+1):=by
     rcases au with⟨e,l⟩|⟨e,l⟩|⟨e,l⟩
     ·have:es.size=4:=by omega
      rw[this];exact⟨31,E4,by decide+kernel,by omega,by omega,.inr (.inl ⟨rfl,by omega⟩)⟩
     ·have:es.size=18:=by omega
      rw[this];exact⟨127,E3,by decide+kernel,by omega,by omega,.inr (.inr ⟨rfl,by omega⟩)⟩
     ·omega
    obtain⟨M,b0,c9,e2,kT,zF⟩:=big;refine acZ (WJ g1 g2 g3 a0 b0 (by rw[cD];exact kT) c9 e2 fun es' t' bR h' e6 aV bE er lB qb ku ie=>ac3 ?_);exact done h' es' t' bR _ (J1.trans e6) aV bE er qb (by rw[ku,cD]) (fun e=>by rw[ie e,IC]) (by rw[lB,ku,cD];exact zF)
   ·rw[if_neg (by rw[K_];simpa using full)];refine ac3 (done _ _ t1 cQ _ J1 g1 g2 g3 a0 cD (fun e=>IC) ?_);rw[aq,cD];rcases au with⟨e,l⟩|⟨e,l⟩|⟨e,l⟩
    ·exact .inl ⟨e,by omega⟩
    ·exact .inr (.inl ⟨e,by omega⟩)
    ·exact .inr (.inr ⟨e,by omega⟩)
  have eF:(t.put (cG t.mask (adt knd ks) N).j).1.dummies= #[]:=lU.tab.sG
  split
  ·refine acZ (M5 ax fun b=>?_);cases b
   ·exact fin _ rfl rfl eF
   ·exact fin _ rfl rfl eF
  ·refine acZ (ac3 ?_);exact fin _ rfl rfl eF
 ·have:10*turns t.mask≤1420:=by
    rcases au with⟨e,_⟩|⟨e,_⟩|⟨e,_⟩<;>rw[e]<;>decide
  omega
end
end e0
namespace e0
open PySem PySem.Spec PyProof.Rows
section
variable{prog:adp}{w:adJ}{K:Type}[DecidableEq K]{knd:PySem.KeyKind prog w K}
def j8(S:List (List K))(ks:List K):List (List K):=if ks∈S then S else S++[ks]
def hY(keys:List (List K)):List (List K):=keys.foldl j8 []
theorem E9(keys:List (List K)):(hY keys).length≤keys.length:=by
 have:∀(l S:List (List K)),(l.foldl j8 S).length≤S.length+l.length:=by
  intro l;induction l with
  |nil=>intro S;simp
  |cons k l bQ=>
   intro S;have:=bQ (j8 S k);have h2:(j8 S k).length≤S.length+1:=by unfold j8;split<;>simp
   simp only[ah3,adl];omega
 have:=this keys [];simpa[hY]using this
theorem NQ{keys:List (List K)}{i:Nat}{ks:List K}(h:keys[i]?=some ks):hY (keys.take (i+1))=j8 (hY (keys.take i)) ks:=by unfold hY;rw[List.take_add_one,h];simp[List.foldl_append]
section
variable{A:adG}{R:Result→ac4→Prop}{I:ada}{bc wr:List ada}{G:Array GenState→Array GenState→Prop}{n:Nat}{P:Nat→ac1→Prop}{St:Nat→ac4→Prop}
noncomputable def sj(knd:PySem.KeyKind prog w K)(keys:List (List K))(P:Nat→ac1→Prop)(no:List ada)(h:adX):Prop:=∀i v,P i v→∃b ks,v=.ref b∧b∉no∧keys[i]?=some ks∧adL knd h ks b
theorem sj.but{keys:List (List K)}{no:List ada}{h h':adX}(k:sj knd keys P no h)(m:∀b o,b∉no→h.get? b=some o→h'.get? b=some o):sj knd keys P no h':=fun i v p=>by obtain⟨b,ks,e,nb,q,o,it,c,aE,r⟩:=k i v p;exact⟨b,ks,e,nb,q,o,it,c,m b o nb aE,r⟩
theorem iD.moved{ok:ada→Prop}{h h':adX}{S:ada}{L:List (List K)}(T:iD knd ok h S L)(TA:∀o,h.get? S=some o→h'.get? S=some o)(m:∀b o,ok b→h.get? b=some o→h'.get? b=some o):iD knd ok h' S L:=by
 obtain⟨o,es,bN,t,aE,hex,hd,Mn,X,hm,aK,au,J⟩:=T.ex;have aM:∀e∈es.toList,∀b ks,e.2=.ref b→(adL knd h ks b↔adL knd h' ks b):=fun e he b ks bj=>by
  have nb:=J e he b bj;obtain⟨k2,dE,b0,⟨b_,it,c,g1,g2⟩,e2⟩:=X.el e he;rw[bj]at b0;cases b0;have GH:=m b b_ nb g1;constructor
  ·rintro⟨bR,tl,ey,aV,bE⟩;rw[g1]at aV;cases aV;exact⟨b_,tl,ey,GH,bE⟩
  ·rintro⟨bR,tl,ey,aV,bE⟩;rw[GH]at aV;cases aV;exact⟨b_,tl,ey,g1,bE⟩
 refine⟨o,es,bN,t,TA o aE,hex,hd,Mn,⟨fun e he=>?_⟩,fun ks=>?_,aK,au,J⟩
 ·obtain⟨k2,dE,b0,c9,e2⟩:=X.el e he;exact⟨k2,dE,b0,(aM e he dE k2 b0).mp c9,e2⟩
 ·rw[←hm ks];constructor
  ·rintro⟨e,he,b,bj,g4⟩;exact⟨e,he,b,bj,(aM e he b ks bj).mpr g4⟩
  ·rintro⟨e,he,b,bj,g4⟩;exact⟨e,he,b,bj,(aM e he b ks bj).mp g4⟩
theorem Tj(W:WalksS prog w A.in1 I bc wr G n P St)(S:ada)(pI:S∉bc)(keys:List (List K))(aK:keys.length=n)(J:n<77)(aJ:A.in1.units<aew) :
  ∀(k i:Nat)(s:ac4),n-i=k→i≤n→St i s→sj knd keys P (S::wr) s.heap→iD knd (fun b=>b∉S::wr) s.heap S (hY (keys.take i))→
   (∀s',Moved (S::wr) G s s'→iD knd (fun b=>b∉S::wr) s'.heap S (hY keys)→R (.ok (.ret .none)) s')→
   ahd (adu prog w) A (.builtin "set.update.loop" ⟨[.ref S,.ref I],[]⟩) R s:=by
 have Pb:S∉wr:=fun h=>pI (W.sub _ h);have l_:∀b∈wr,b∈S::wr:=fun b J=>ac7 _ J;have keep:∀{s s':ac4}{L:List (List K)},Moved wr G s s'→iD knd (fun b=>b∉S::wr) s.heap S L→iD knd (fun b=>b∉S::wr) s'.heap S L:=fun m T=>
  T.moved (fun o e=>m.heap S o Pb e) fun b o nb e=>m.heap b o (fun z=>nb (l_ b z)) e
 intro k;induction k with
 |zero=>
  intro i s aH ar gn A7 T hR;have e:i=n:=by omega
  subst e;refine afU ahl ?_;rw[afy afV _];show adm _ A.in1 (ahp (.ref I)>>=_) _ _ s;refine acZ (W.done s _ _ gn fun s' hm=>?_);show adm _ A.in1 (ret aeh) _ _ s';rw[←aK,agj]at T;exact ac3 (hR s' (hm.mono l_) (keep hm T))
 |succ k bQ=>
  intro i s aH ar gn A7 T hR;have gm:i<n:=by omega
  refine afU ahl ?_;rw[afy afV _];show adm _ A.in1 (ahp (.ref I)>>=_) _ _ s;refine acZ (W.item i s _ _ gm gn fun v s' dH Ql hm=>?_);have Ig:sj knd keys P (S::wr) s'.heap:=A7.but fun b o nb e=>hm.heap b o (fun z=>nb (l_ b z)) e;have sy:=keep hm T;obtain⟨b,ks,rfl,nb,fD,g4⟩:=Ig i v dH;show adm _ A.in1 (aiC [adx b] (setAdd S (.ref b))>>=_) _ _ s';refine acZ (aeT ?_);unfold setAdd;refine aeT (acZ (wpAny_pyHash_tuple aJ g4 ?_));have room:(hY (keys.take i)).length<76:=by have:=E9 (keys.take i);rw[aes]at this;omega
  refine Mw (s:={ s' with toks:=s'.toks+(ks.length+1) }) aJ sy g4 nb room fun c h' e6 Mo=>?_;have Mp:iD knd (fun b=>b∉S::wr) h' S (hY (keys.take (i+1))):=by rw[NQ fD];exact Mo
  have vE:∀eN o,eN∉S::wr→s'.heap.get? eN=some o→h'.get? eN=some o:=fun eN o T_ e=>by rw[e6.2 eN (fun z=>T_ (by rw[z];exact adz))];exact e
  refine ac3 ⟨plainId_quiet afV _,bQ (i+1) _ (by omega) gm (W.frame _ s' _ _ Ql (ad5 _ _) fun eN jd o e=>?_) (Ig.but vE) Mp fun i0 PV O_=>?_⟩
  ·rw[e6.2 eN (fun h:eN=S=>pI (by rw[←h];exact jd))];exact e
  ·refine hR i0 (Moved.trans W.gtrans ((hm.mono l_).then_heap (ad5 _ _) fun eN o jd e=>?_) PV) O_;rw[e6.2 eN (fun h:eN=S=>jd (by rw[h];exact adz))];exact e
end
end
section
variable{prog:adp}{w:adJ}{A:adG}{E:ac1→ac4→Prop}{s:ac4}{K:Type}[DecidableEq K]{knd:PySem.KeyKind prog w K}
def kx(led:Bool):Obj:={ cls:=.type "set",dict:=none,data:=.set #[] 0 (.fresh 0 0 led) }
theorem iD.new{ok:ada→Prop}{h:adX}{S:ada}{led:Bool}(e:h.get? S=some (kx led)):iD knd ok h S []:=
 ⟨_,#[],0,_,e,⟨rfl,rfl,rfl⟩,rfl,⟨⟨rfl,rfl,by simp[SetTable.fresh],by simp[SetTable.fresh]⟩,E5,aeB _,fun j e he=>by obtain⟨i,_,q⟩:=he;simp at q⟩,⟨fun e he=>by simp at he⟩,fun ks=>⟨fun⟨e,he,_⟩=>by simp at he,fun z=>by simp at z⟩,rfl,.inl ⟨rfl,by show 0<5;omega⟩,fun e he=>by simp at he⟩
set_option maxHeartbeats 3200000 in
theorem Nj{l:ada}{items:Array ac1}{keys:List (List K)}{Q:ac1→ac4→Prop}(bD:A.handled=none)(aJ:A.units+64<aew)(ai:s.heap.IsList l items)(aH:keys.length=items.size)(J:items.size<77)(ar:∀(i:Nat) v,items[i]?=some v→∃b ks,v=.ref b∧keys[i]?=some ks∧adL knd s.heap ks b)(h:∀(h':adX)(cb:Nat),iD knd (fun _=>True) h' s.heap.objs.size (hY keys)→(∀b o,s.heap.get? b=some o→h'.get? b=some o)→Q (.ref s.heap.objs.size) { s with heap:=h',toks:=cb }) :
  adm (adu prog w) A (call (.type "set") [.ref l]) Q E s:=by
 obtain⟨c,fR,aaH⟩:=F.called_set.mro;have aaG:=F.called_set.made;have l_:=F.called_set.sub;refine wpAny_call (codeAny_of_tree ?_);show adm _ _ (callAny (.type "set") _) _ _ _;refine ac3 ⟨Code.quiet_builtin _ (by decide+kernel),afU F.entry_type_call ?_⟩;rw[Around.under_plain (weight_type_call_type "set" [.ref l] []) rfl];have h1:=F.called_set.notType;have h2:=F.called_set.canCreate;have aaz:=F.typeCall_set_1 (.ref l)
 repeat (any_goals (first|assumption|wp_step))
 refine aga (code_set_new_1 (.ref l) (E:=E) (Q₁:=fun obj c6=>∃led:Bool,obj=.ref s.heap.objs.size∧c6={ s with heap:=s.heap.push (kx led) }) fun led=>⟨led,rfl,rfl⟩) fun r c6 au=>?_;rcases r with e|hi
 ·exact au
 ·cases hi with
  |ret obj=>
   obtain⟨led,rfl,rfl⟩:=au;have iN:(s.heap.push (kx led)).get? s.heap.objs.size=some (kx led):=ac9 _ rfl;have d4:ahm { s with heap:=s.heap.push (kx led) } (.ref s.heap.objs.size) "set":=⟨_,iN,rfl⟩;have s9:=F.called_set.init.lookup;have aay:=F.called_set.init.bind (.ref s.heap.objs.size)
   repeat (any_goals (first|assumption|wp_step))
   refine aga (codeAny_call_builtin (R:=wants (fun r ih=>r=.none∧∃h' cb,ih={ s with heap:=h',toks:=cb }∧iD knd (fun _=>True) h' s.heap.objs.size (hY keys)∧(∀b o,s.heap.get? b=some o→h'.get? b=some o)) E) F.called_set.init.plain F.entry_set_init (check_set_init_1 d4 ?_)) fun W0 ih AF=>?_
   ·obtain⟨ol,q_,pJ,nl,q6⟩:=ai;obtain⟨abj,UE,abk,U8⟩:=ol;simp only at pJ q6;subst pJ;subst q6;have P9:(s.heap.push (kx led)).get? l=some { cls:=.type "list",dict:=UE,data:=.seq items nl,slots:=U8 }:=ac0 _ q_;have aaN:=F.sub_list_set;have aaM:=F.sub_list_frozenset;have kf:(afd "list"==afd "dict")=false:=by decide
    have G9:(s.heap.push (kx led)).IsList l items:=⟨_,P9,rfl,nl,rfl⟩;unfold ahb.«set.__init__» noKeywords Builtin.Frozenset.updateFrom;generalize O8:pyIter=f9
    wp_walk
    subst O8;refine ag2 G9 ?_;refine acZ (wpAny_runValue ?_);have G_:l<s.heap.objs.size:=ac_ q_;have z5:(s.heap.push (kx led)).objs.size=s.heap.objs.size+1:=adK _ _;have P0:l≠(s.heap.push (kx led)).objs.size:=by rw[z5];exact ady (af5 G_)
    have pI:s.heap.objs.size∉[(s.heap.push (kx led)).objs.size,l]:=by rw[z5];simp only[aeG,agQ,aec,or_false,not_or];exact⟨ady (age _),aeU G_⟩
    have GK:∀b o,s.heap.get? b=some o→((s.heap.push (kx led)).push { cls:=.type "list_iterator",data:=.fields #[.ref l,.int 0 0] }).get? b=some o:=fun b o e=>ac0 _ (ac0 _ e);have vE:∀b o,s.heap.get? b=some o→b∉s.heap.objs.size::[(s.heap.push (kx led)).objs.size]:=fun b o e=>by have:=ac_ e;rw[z5];simp only[aeG,agQ,aec,or_false,not_or];exact⟨ady this,ady (af5 this)⟩
    refine Tj (knd:=knd) ((Walks.list (by simp[bD]) _ l P0 items).toS) s.heap.objs.size pI keys aH J (by simp only[Around.in1_units];omega) (items.size-0) 0 _ (by omega) (aeB _)
     ⟨⟨_,ac9 _ rfl,rfl,rfl⟩,(G9.push _)⟩ (fun i v p=>?_) (iD.new (led:=led) (ac0 _ iN)) ?hR
    ·obtain⟨b,ks,rfl,q,o,it,c,aE,r⟩:=ar i v p;exact⟨b,ks,rfl,vE b o aE,q,o,it,c,GK b o aE,r⟩
    case hR=>intro s' hm q3;obtain⟨h',g',d',YF,BB⟩:=s';have eg:g'=s.gens:=hm.gens;have eF:d'=s.drawn:=hm.drawn;have n9:BB=s.os:=hm.os;subst eg;subst eF;subst n9;show adm _ _ _ _ _ _;refine ac3 ?_;show adm _ _ (ret aeh) _ _ _;obtain⟨o,es,bN,t,aV,bE,er,lB,qb,ku,ie,BL,BM⟩:=q3.ex;exact ac3 ⟨rfl,h',YF,rfl,⟨o,es,bN,t,aV,bE,er,lB,qb,ku,ie,BL,fun _ _ _ _=>trivial⟩,fun b o e=>hm.heap b o (vE b o e) (GK b o e)⟩
   ·rcases W0 with e|OS
    ·exact AF
    ·cases OS with
     |ret r=>
      obtain⟨rfl,h',cb,rfl,q3,kZ⟩:=AF
      repeat (any_goals (first|assumption|wp_step))
      exact h _ _ q3 kZ
     |_=>exact AF.elim
  |_=>exact au.elim
end
end e0
namespace LT
open PySem PyProof.Rows
structure nL(kd:ags)(d3:Array Keyed)(st:aiA):Prop where
 k:agL st=kd
 p:(afW st).Perm d3
 n:pendingOf st= #[]
 f:failedOf st=none
theorem nL.qg{kd:ags}{d3:Array Keyed}{st:aiA}(b:nL kd d3 st):(afW st).size=d3.size:=b.p.size_eq
structure qB(prog:adp)(w:adJ)(A:adG)(s:ac4)(kd:ags)(κ:KeyKind)(d3:Array Keyed):Prop where
 lt:∀(E:ac1→ac4→Prop)(x y:Keyed){Q:Bool→ac4→Prop},x∈d3.toList→y∈d3.toList→Q (κ.blt ((κ.keyOf x.1).getD κ.dflt) ((κ.keyOf y.1).getD κ.dflt)) s→adm (adu prog w) A (keyLt' kd x.1 y.1) Q E s
section
variable{prog:adp}{w:adJ}{A:adG}{E:ac1→ac4→Prop}{s:ac4}{d3:Array Keyed}{κ:KeyKind}{kd:ags}
theorem nL.at{st:aiA}(b:nL kd d3 st){i:Nat}(ar:i<d3.size):∃x,(afW st)[i]?=some x∧x∈d3.toList∧KK κ (afW st) i=(κ.keyOf x.1).getD κ.dflt:=by
 have g:i<(afW st).size:=by rw[b.qg];exact ar
 have e:=getElem?_pos (afW st) i g;refine⟨_,e,(Array.perm_iff_toList_perm.mp b.p).mem_iff.mp (by simp),?_⟩;unfold KK;rw[e]
theorem Tr(C:qB prog w A s kd κ d3){st:aiA}(b:nL kd d3 st){i j:Nat}{Q:Option Bool→aiA→Prop}(ar:i<d3.size)(cz:j<d3.size)(h:Q (some (κ.blt (KK κ (afW st) i) (KK κ (afW st) j))) st):wpS (adu prog w) A E s (ltAt' i j) Q st:=by obtain⟨x,gS,cK,qq⟩:=b.at (κ:=κ) ar;obtain⟨y,eX,eY,iu⟩:=b.at (κ:=κ) cz;rw[qq,iu]at h;rw[ltAt'_eq];refine afu (wpS_get ?_);show wpS _ _ _ _ (elem' (afW st) i>>=fun x=>elem' (afW st) j>>=fun y=>lt' x y) Q st;rw[elem'_eq,gS,elem'_eq,eX];refine afu (agt (afu (agt ?_)));rw[lt'_eq];refine afu (wpS_get (afu (wpS_lift (agr ?_))));rw[b.k];exact C.lt _ x y cK eY ⟨rfl,agt h⟩
theorem YW{xs:Array Keyed}:afX κ xs 1:=fun i j a c=>by
 have:i=j:=by omega
 subst this;exact KeyOrd.kle_refl _
theorem YV{xs:Array Keyed}{n:Nat}(h:afX κ xs n)(q:κ.kle (KK κ xs (n-1)) (KK κ xs n)):afX κ xs (n+1):=fun i j a c=>by
 by_cases e:j<n
 ·exact h i j a e
 have e:j=n:=by omega
 subst e;by_cases g:i=j
 ·subst g;exact KeyOrd.kle_refl _
 ·exact KeyOrd.kle_trans (h i (j-1) (by omega) (by omega)) q
theorem MK(C:qB prog w A s kd κ d3){st:aiA}{a oB:Nat}{Q:AscSt→aiA→Prop}(aK:oB≤d3.size)(ag:1≤a)(an:a≤oB)(b:nL kd d3 st)(hs:afX κ (afW st) a)(h:∀n,a≤n→n≤oB→afX κ (afW st) n→(n<oB→κ.klt (KK κ (afW st) n) (KK κ (afW st) (n-1)))→Q (none,n) st):wpS (adu prog w) A E s (ascLoop a oB) Q st:=by
 unfold ascLoop;refine wpS_forRange (I:=fun x c t=>t=st∧c=(none,x)∧afX κ (afW st) x) ?_ ?_ ⟨rfl,rfl,hs⟩
 ·rintro x c t g1 g2 ⟨rfl,rfl,g3⟩;dsimp only;refine afu (Tr C b (by omega) (by omega) ?_);cases e:κ.blt (KK κ (afW t) x) (KK κ (afW t) (x-1))with
  |true=>exact agt (h x g1 (by omega) g3 fun _=>e)
  |false=>exact agt ⟨rfl,rfl,YV g3 e⟩
 ·rintro c t ⟨rfl,rfl,g⟩;have em:max a oB=oB:=by omega
  rw[em]at g ⊢;exact h oB an (ac6 _) g fun z=>absurd z (adS _)
end
noncomputable def ltI:List Int→List Int→Bool
 |[],[]=>false
 |[],_::_=>true
 |_::_,[]=>false
 |a::x,b::y=>if a=b then ltI x y else decide (a<b)
theorem Bb:∀a,ltI a a=false
 |[]=>rfl
 |_::x=>by simp[ltI,Bb x]
theorem Bd:∀a b c,ltI a b=true→ltI b c=true→ltI a c=true
 |[],[],_,h,_=>by cases h
 |[],_::_,[],_,h=>by cases h
 |[],_::_,_::_,_,_=>rfl
 |_::_,[],_,h,_=>by cases h
 |_::_,_::_,[],_,h=>by cases h
 |a::x,b::y,c::z,h1,h2=>by
  simp only[ltI]at h1 h2 ⊢;by_cases aq:a=b
  ·subst aq;rw[if_pos rfl]at h1;by_cases aD:a=c
   ·subst aD;rw[if_pos rfl]at h2 ⊢;exact Bd x y z h1 h2
   ·rw[if_neg aD]at h2 ⊢;exact h2
  ·rw[if_neg aq]at h1;have h1:=of_decide_eq_true h1;by_cases aD:b=c
   ·subst aD;rw[if_neg aq];exact decide_eq_true h1
   ·rw[if_neg aD]at h2;have h2:=of_decide_eq_true h2;rw[if_neg (by omega)];exact decide_eq_true (by omega)
theorem Bc:∀a b,ltI a b=false→ltI b a=false→a=b
 |[],[],_,_=>rfl
 |[],_::_,h,_=>by cases h
 |_::_,[],_,h=>by cases h
 |a::x,b::y,h1,h2=>by
  simp only[ltI]at h1 h2;by_cases e:a=b
  ·subst e;rw[if_pos rfl]at h1 h2;rw[Bc x y h1 h2]
  ·rw[if_neg e]at h1;rw[if_neg (fun z=>e z.symm)]at h2;have h1:=of_decide_eq_false h1;have h2:=of_decide_eq_false h2;exact absurd (by omega) e
theorem Iy(a b c:List Int)(h:ltI a c=true):ltI a b=true∨ltI b c=true:=by
 cases aq:ltI a b with
 |true=>exact .inl rfl
 |false=>
  cases aD:ltI b c with
  |true=>exact .inr rfl
  |false=>
   exfalso;cases b4:ltI b a with
   |true=>rw[Bd b a c b4 h]at aD;cases aD
   |false=>rw[Bc a b aq b4,aD]at h;cases h
section
variable{prog:adp}{w:adJ}{A:adG}{E:ac1→ac4→Prop}{s:ac4}
theorem JU{a b:Int}{t u:Tok}{Q:ac1→ac4→Prop}(h:Q (.bool (decide (a<b))) s):adm (adu prog w) A (richCompare .Lt (.int a t) (.int b u)) Q E s:=
 wpAny_richCompare_same (op:=.Lt) (typeIs_int s a t) (typeIs_int s b u) slot_int_lt (call_int_lt ⟨(fun e=>nomatch e),h⟩)
theorem Ry{x y:List Int}{a b:ada}{P:Fin→ac4→Prop}(ax:adL (ahI prog w) s.heap x a)(bq:adL (ahI prog w) s.heap y b)(h:P (.done (.ret (.bool (ltI x y)))) s) :
  adm (adu prog w) A (ahb.«tuple.__lt__» ⟨[.ref a,.ref b],[]⟩) P E s:=by
 have tb:=bq.typeIs;obtain⟨UD,xs,na,jS,_,NK,Ro⟩:=ax;obtain⟨bf,ys,nb,xk,_,db,jK⟩:=bq;show adm _ _ (isInstance (.ref b) (.type "tuple")>>=_) _ _ s;refine acZ (aeS tb afk ?_);simp only[aea,adb,if_false];refine acZ (afg jS NK (acZ (afg xk db (acZ ?_))));refine aeA _ (fun rest r s'=>r.1=none∧s'=s∧∃lI lN f5 lP,rest=List.zip f5 lP∧ItemsAre (ahI prog w) lI f5∧ItemsAre (ahI prog w) lN lP∧ltI lI lN=ltI x y∧decide (f5.length<lP.length)=decide (xs.size<ys.size)) _ ?_ ?_ _ _ ⟨rfl,rfl,x,y,xs.toList,ys.toList,rfl,Ro,jK,rfl,by simp⟩
 ·rintro⟨u,v⟩ rest r s' ⟨au,rfl,lI,lN,f5,lP,bo,h1,h2,ai,aK⟩;cases h1 with
  |nil=>simp at bo
  | @cons k1 hD cK mB g1 h1=>
    cases h2 with
    |nil=>simp at bo
    | @cons k2 my eY ZT g2 h2=>
      simp only[aem,afl,afN]at bo;obtain⟨⟨rfl,rfl⟩,rfl⟩:=bo;refine acZ ((ahI prog w).eqBool g1 g2 ?_);by_cases e:k1=k2
      ·subst e;simp only[decide_true,aea,adb,if_false];refine ac3 ⟨rfl,rfl,cK,eY,mB,ZT,rfl,h1,h2,?_,by simpa using aK⟩;rw[←ai];simp[ltI]
      ·simp only[decide_eq_false e,adj,if_true];obtain⟨t1,rfl⟩:=ag0 g1;obtain⟨cy,rfl⟩:=ag0 g2;refine acZ (af0 (acZ (JU ?_)));rw[←ai]at h;simp only[ltI,if_neg e]at h;exact acZ (ac3 (ac3 (ac3 h)))
 ·rintro⟨az,bg⟩ s' ⟨au,rfl,lI,lN,f5,lP,bo,h1,h2,ai,aK⟩;simp only at au;subst au;refine ac3 ?_;have fin:decide (xs.size<ys.size)=ltI x y:=by
   rw[←ai,←aK];cases h1 with
   |nil=>cases h2<;>simp[ltI]
   |cons _ _=>cases h2 with
    |nil=>simp[ltI]
    |cons _ _=>simp at bo
  show P (.done (.ret (.bool (decide (xs.size<ys.size))))) s';rw[fin];exact h
theorem WD{x y:List Int}{a b:ada}{Q:ac1→ac4→Prop}(aJ:A.units<aew)(ax:adL (ahI prog w) s.heap x a)(bq:adL (ahI prog w) s.heap y b)(h:Q (.bool (ltI x y)) s) :
  adm (adu prog w) A (richCompare .Lt (.ref a) (.ref b)) Q E s:=
 agv (op:=.Lt) ax.typeIs bq.typeIs F.slot_tuple_lt (ad4 F.slot_tuple_lt ax.typeIs F.entry_tuple_lt (Ry ax bq ⟨_,rfl,(fun e=>nomatch e),h⟩) (F.args_tuple_lt_2 _ _)) aJ
def hj(k:Int×Int×Int):List Int:=[k.1,k.2.1,k.2.2]
theorem R9(b:Bool)(x y:ac1):keyLt' (tuples' b) x y=(do
  let xs ←ahF x;let ys ←ahF y
  for ((p,q),i) in(xs.toList.zip ys.toList).zipIdx do
   if !(←eqBool p q)then return ←oneLt' (b&&i==0) p q
  return xs.size<ys.size):=rfl
theorem I4{x y:ac1}{Q:Bool→ac4→Prop}(h:adm (adu prog w) A (richCompare .Lt x y) (fun v s'=>∃c,v=.bool c∧Q c s') E s):adm (adu prog w) A (oneLt' false x y) Q E s:=by rw[oneLt'_eq];simp only[adb,if_false];refine acZ (ad9 h (fun v s'⟨c,e,q⟩=>?_) fun _ _ e=>e);subst e;exact adN q
def U6:KeyOrd:=⟨List Int,ltI,Bb,Bd,Iy,Bc⟩
theorem Bl{β:Type}{f:ac1→Sem β}{g:ac1→β}:∀{vs:List ac1}{Q:List β→ac4→Prop},(∀v∈vs,∀(R:β→ac4→Prop),R (g v) s→adm (adu prog w) A (f v) R E s)→Q (vs.map g) s→adm (adu prog w) A (vs.mapM f) Q E s
 |[],Q,_,h=>by rw[List.mapM_nil];exact ac3 h
 |v::vs,Q,hf,h=>by rw[List.mapM_cons];refine acZ (hf v (by simp) _ (acZ (Bl (fun u aJ=>hf u (by simp[aJ])) (ac3 h))))
theorem Sh{vs:List ac1}{g:ac1→ac1}{T:String}{Q:ags→ac4→Prop}(aK:vs≠[])(h1:∀v∈vs,∃a o m r,v=.ref a∧s.heap.get? a=some o∧o.cls=.type "tuple"∧o.data=.seq (g v::r).toArray m)(h2:∀v∈vs,s.TypeIs (g v) T)(h:Q (tuples' (afd T !=.type "tuple")) s) :
  adm (adu prog w) A (keyKind' vs.toArray) Q E s:=by
 rw[keyKind'_eq,List.mapM_toArray];rw[map_eq_pure_bind];refine acZ (acZ (Bl (g:=fun v=>some (g v)) (fun v bW R hR=>?_) (ac3 ?_)))
 ·obtain⟨a,o,m,r,rfl,aE,aB,hd⟩:=h1 v bW;show adm _ _ (typeOf (.ref a)>>=_) R E s;refine acZ (agP ⟨o,aE,aB⟩ ?_);rw[if_neg (by simp)];refine acZ (ah4 aE hd (ac3 ?_));simpa using hR
 ·rw[if_pos (by simp)];refine acZ (af0 ?_);have e:Array.filterMap id (vs.map fun v=>some (g v)).toArray=(vs.map g).toArray:=by simp
  rw[e,oneTypeOnly'_eq,List.mapM_toArray,map_eq_pure_bind];refine acZ (acZ (acZ (Bl (g:=fun _=>.type T) (fun v bW R hR=>?_) (ac3 ?_))))
  ·obtain⟨u,aJ,rfl⟩:=List.mem_map.mp bW;exact agP (h2 u aJ) hR
  ·obtain⟨v,r,rfl⟩:=List.exists_cons_of_ne_nil aK;have cI:(List.map (fun _=>afd T) (List.map g (v::r))).toArray[0]?=some (.type T):=by simp
   rw[cI];dsimp only;rw[if_pos (by simp)];exact ac3 (ac3 h)
end
section
variable{prog:adp}{w:adJ}{A:adG}{E:ac1→ac4→Prop}{s:ac4}
end
def jf(a b:Int×Int×Int):Bool:=!ltI (hj b) (hj a)
def X4(ks:List (Int×Int×Int)):List (Int×Int×Int):=ks.mergeSort jf
theorem Ta(a b c:Int×Int×Int)(h1:jf a b=true)(h2:jf b c=true):jf a c=true:=by
 unfold jf at*;cases e:ltI (hj c) (hj a)with
 |false=>rfl
 |true=>
  rcases Iy _ (hj b) _ e with z|z
  ·rw[z]at h2;cases h2
  ·rw[z]at h1;cases h1
section
variable{prog:adp}{w:adJ}{A:adG}{E:ac1→ac4→Prop}{s:ac4}
end
theorem IE:∀f n r,minRun' f n r≤n+r
 |0,n,r=>ac6 _
 |f+1,n,r=>by
  rw[minRun'_succ]
  split
  ·exact ac6 _
  ·have:=IE f (n/2) (max r (n%2));omega
section
variable{prog:adp}{w:adJ}{A:adG}{E:ac1→ac4→Prop}{s:ac4}{d3:Array Keyed}{κ:KeyKind}{kd:ags}
theorem WW(C:qB prog w A s kd κ d3){st:aiA}{Q:Option Nat→aiA→Prop}(h1:1≤d3.size)(b:nL kd d3 st)(hs:afX κ (afW st) d3.size)(h:Q (some d3.size) st) :
  wpS (adu prog w) A E s (countRun' 0 d3.size) Q st:=by
 rw[countRun0_eq];refine afu (MK C (ac6 _) (ac6 1) h1 b YW fun n n1 n2 g1 g2=>?_);dsimp only;by_cases e:n=d3.size
 ·rw[if_pos (by simpa using e),e];exact agt h
 have g2:=g2 (by omega);have:=hs (n-1) n (by omega) (by omega);exact absurd this (by intro z;have z:κ.blt (KK κ (afW st) n) (KK κ (afW st) (n-1))=false:=z;have g2:κ.blt (KK κ (afW st) n) (KK κ (afW st) (n-1))=true:=g2;rw[z]at g2;cases g2)
theorem WX(C:qB prog w A s kd κ d3){st:aiA}{Q:Unit→aiA→Prop}(b:nL kd d3 st)(h2:2≤d3.size)(hs:afX κ (afW st) d3.size)(h:∀t,afW t=afW st→failedOf t=none→Q () t):wpS (adu prog w) A E s sortRuns' Q st:=by
 rw[sortRuns'_eq];refine afu (wpS_get ?_);dsimp only;have nj:minRun' d3.size d3.size 0≤d3.size:=IE _ _ _;simp only[b.qg];generalize minRun' d3.size d3.size 0=abd at nj
 refine afu (wpS_mono (wpS_forRange (I:=fun x c t=>(x=0∧c=(none,0)∧t=st)∨(1≤x∧c=(none,d3.size)∧afW t=afW st∧failedOf t=none∧pendingOf t= #[(0,d3.size,0)]))
  (Q:=fun c t=>c=(none,d3.size)∧afW t=afW st∧failedOf t=none∧pendingOf t= #[(0,d3.size,0)]) ?_ ?_ (.inl ⟨rfl,rfl,rfl⟩)) ?_)
 ·rintro x c t _ cK (⟨rfl,rfl,rfl⟩|⟨gS,rfl,g⟩)
  ·dsimp only;rw[if_neg (by omega)];simp only[aja,ajb];refine afu (WW C (by omega) b hs ?_);dsimp only;rw[if_neg (by omega)];refine afu (wpS_get ?_);rw[b.n];exact afu (wpS_modify (agt (.inr ⟨by omega,rfl,rfl,b.f,by show(pendingOf t).push _=_;rw[b.n];rfl⟩)))
  ·dsimp only;rw[if_pos (ac6 _)];exact agt ⟨rfl,g⟩
 ·rintro c t (⟨z,_,_⟩|⟨_,e,g⟩)
  ·omega
  ·exact⟨e,g⟩
 ·rintro c t ⟨rfl,g1,g2,g3⟩;dsimp only;refine afu (wpS_mono (wpS_forRange (I:=fun _ c u=>u=t∧c=(none,())) (Q:=fun c u=>u=t∧c=(none,())) ?_ (fun _ _ z=>z) ⟨rfl,rfl⟩) ?_)
  ·rintro x c u _ _ ⟨rfl,rfl⟩;refine afu (wpS_get ?_);rw[if_pos (by rw[g3];exact ac6 1)];exact agt ⟨rfl,rfl⟩
  ·rintro c u ⟨rfl,rfl⟩;exact agt (h _ g1 g2)
end
noncomputable def i4(h:adX)(d:ada)(es:Array agA)(bN:Nat):Prop:=∃o,h.get? d=some o∧o.ExactDict∧o.data=.dict es bN
theorem i4.at{h h':adX}{d:ada}{es:Array agA}{bN:Nat}(x:i4 h d es bN)(e:∀o,h.get? d=some o→h'.get? d=some o):i4 h' d es bN:=let⟨o,aE,r⟩:=x;⟨o,e _ aE,r⟩
theorem i4.typeIs{s:ac4}{d:ada}{es:Array agA}{bN:Nat}(x:i4 s.heap d es bN):s.TypeIs (.ref d) "dict":=let⟨o,aE,c,_⟩:=x;⟨o,aE,c.1⟩
section
variable{prog:adp}{w:adJ}{A:adG}{E:ac1→ac4→Prop}{s:ac4}{es:Array agA}
theorem WB{d:ada}{bN:Nat}{Q:ac1→ac4→Prop}(hd:(d==aez)=false)(hm:i4 s.heap d es bN)(ef:Q (.ref s.heap.objs.size) { s with heap:=s.heap.push { cls:=.type "dict_keyiterator",data:=.fields #[.ref d,.int 0 0,.int es.size 0,.int bN 0] } }) :
  adm (adu prog w) A (pyIter (.ref d)) Q E s:=by
 have d4:s.TypeIs (.ref d) "dict":=hm.typeIs;obtain⟨o,aE,aB,G1⟩:=hm;refine wpAny_pyIter_slot d4 F.slot_dict_iter (ad4 F.slot_dict_iter d4 F.entry_dict_iter ?_ (F.args_dict_iter_1 _));unfold ahb.«dict.__iter__»;refine acZ ?_;unfold Builtin.Dict.dictSlotNone;refine acZ (wpAny_notOrdered_dict d4 ?_);show adm _ _ (pure (adx d)) _ _ s;refine ac3 ?_;show adm _ _ (ah5 d>>=_) _ _ s;unfold ah5;rw[if_neg (by rw[hd];exact adC)];refine acZ (ac3 ?_);refine acZ (ag8 aE G1 ?_);refine acZ (ah6 aE G1 ?_);refine acZ (aeJ (ac3 ⟨_,rfl,"dict_keyiterator",_,⟨_,ac9 _ rfl,rfl⟩,F.slot_dict_keyiterator_next.lookup,?_⟩));simpa[aiv]using ef
theorem WA{it d:ada}{i bN:Nat}{Q:Option ac1→ac4→Prop}(hit:s.heap.IsKeyIter it d i es.size bN)(hm:i4 s.heap d es bN)(Az:i<es.size)(ef:∀h',h'.IsKeyIter it d (i+1) es.size bN→adZ it s.heap h'→Q (some es[i].key) { s with heap:=h' }) :
  adm (adu prog w) A (ahp (.ref it)) Q E s:=by
 obtain⟨o,aE,aB,hd⟩:=id hit;obtain⟨dP,ta,en,sY⟩:=id hm;unfold ahp
 refine acZ (agr (aeo (name:=agc "__next__") hit.typeIs aeH
  (ad4 aeH hit.typeIs agk ?_ (agd _))))
 refine acZ (ac3 ?_);refine acZ ?_;refine acZ ?_
 first|refine acZ (aeD hit.typeIs (ac3 ?_))|refine acZ (ae5 hit.typeIs (ac3 ?_))
 refine acZ (wpAny_fieldsOf aE hd ?_);have AD:agu "dict_keyiterator"=false:=by decide
 simp only[AD,adb,if_false];show adm _ _ (if(adx d==aeh)=true then _ else _) _ _ s;rw[if_neg (show¬((adx d==aeh)=true)from adC)];refine acZ (ac3 ?_);refine acZ (ag8 ta sY ?_);rw[if_neg (by simp)];refine acZ (ac3 ?_);refine acZ (ah6 ta sY ?_);rw[if_neg (by simp)];refine ac3 ?_;simp only[show¬((i:Int)<0)from by omega,if_false,aev,adH Az];refine acZ ?_
 first|refine acZ (aeD hit.typeIs (ac3 ?_))|refine acZ (ae5 hit.typeIs (ac3 ?_))
 refine acZ (wpAny_isOneOf_keyiter hit.typeIs ?_);show adm _ _ (setField (.ref it) 1 (aiv ((i:Int)+1))>>=_) _ _ s;refine acZ (agV aE hd (by simp) ?_);have q9:(s.heap.update it (Obj.mapFields (·.setIfInBounds 1 (aiv ((i:Int)+1))))).IsKeyIter it d (i+1) es.size bN:=
  ⟨_,aeV _ aE (ahY (afQ hd _)),(Obj.cls_mapFields ..).trans aB,by rw[afQ hd];simp[aiv]⟩
 refine acZ (aeT ?_);refine acZ (wpAny_isOneOf_keyiter (s:={ s with heap:=s.heap.update it (Obj.mapFields (·.setIfInBounds 1 (aiv ((i:Int)+1)))) }) q9.typeIs ?_);show adm _ _ (pure es[i].key) _ _ _;exact ac3 (ac3 ⟨_,rfl,ac3 (ef _ q9 (aeO ..))⟩)
theorem Wz{it d:ada}{bN:Nat}{Q:Option ac1→ac4→Prop}(bD:A.handled=none)(hit:s.heap.IsKeyIter it d es.size es.size bN)(hm:i4 s.heap d es bN)(ef:∀h',Heap.ExtBut it s.heap h'→Q none { s with heap:=h' }):adm (adu prog w) A (ahp (.ref it)) Q E s:=by
 obtain⟨o,aE,aB,hd⟩:=id hit;obtain⟨dP,ta,en,sY⟩:=id hm;unfold ahp
 refine acZ (agr (aeo (name:=agc "__next__") hit.typeIs aeH
  (ad4 aeH hit.typeIs agk ?_ (agd _))))
 refine acZ (ac3 ?_);refine acZ ?_;refine acZ ?_
 first|refine acZ (aeD hit.typeIs (ac3 ?_))|refine acZ (ae5 hit.typeIs (ac3 ?_))
 refine acZ (wpAny_fieldsOf aE hd ?_);have AD:agu "dict_keyiterator"=false:=by decide
 simp only[AD,adb,if_false];show adm _ _ (if(adx d==aeh)=true then _ else _) _ _ s;rw[if_neg (show¬((adx d==aeh)=true)from adC)];refine acZ (ac3 ?_);refine acZ (ag8 ta sY ?_);rw[if_neg (by simp)];refine acZ (ac3 ?_);refine acZ (ah6 ta sY ?_);rw[if_neg (by simp)];refine ac3 ?_;simp only[show¬((es.size:Int)<0)from by omega,if_false,aev,Array.getElem?_eq_none (ac6 es.size)];refine acZ ?_
 first|refine acZ (aeD hit.typeIs (ac3 ?_))|refine acZ (ae5 hit.typeIs (ac3 ?_))
 show adm _ _ (setField (.ref it) 0 .none>>=_) _ _ s;refine acZ (agV aE hd (by simp) ?_);show adm _ _ (newExc (.type "StopIteration") []>>=_) _ _ _;refine acZ ?_;simp only[newExc,newTuple];refine acZ (aeJ ?_ (by size_fits));refine acZ (m:=agW _ _) (wpAny_of_eq (a:=aeh) (by first|rfl|(simp only[agW];rfl)) ?_);refine aeJ ?_ (by size_fits);simp only[raiseNew];refine acZ (wpAny_handled ?_);rw[show A.in1.handled=none from bD];refine acZ (ac3 (wpAny_throw ?_));refine acZ (aeS (T:="StopIteration") (b:=true) ⟨_,ac9 _ rfl,rfl⟩ isSubtype_stop ?_);exact ac3 (ef _ (((aeO ..).extBut.push _).push _))
theorem WC(bD:A.handled=none)(I d:ada)(kf:d≠I)(es:Array agA)(bN:Nat) :
  Walks prog w A I [I,d] [I] es.size (fun i v=>es[i]?.map (·.key)=some v) (fun i h=>h.IsKeyIter I d i es.size bN∧i4 h d es bN) where
 sub:=fun b J=>by simp at J;simp[J]
 frame:=fun _ _ _ st aH=>⟨st.1.at fun o e=>aH I (by simp) o e,st.2.at fun o e=>aH d (by simp) o e⟩
 item:=fun i s Q E ar st ef=>WA st.1 st.2 ar fun h' q9 jF=>
  ef _ h' s.toks (by rw[adH ar];rfl) ⟨q9,st.2.at fun o e=>jF.extBut d o kf e⟩ fun b o J e=>jF.extBut b o (fun h=>J (by simp[h])) e
 done:=fun s Q E st ef=>Wz bD st.1 st.2 fun h' Pt=>ef h' s.toks fun b o J e=>Pt b o (fun h=>J (by simp[h])) e
 self:=fun _ _ _ _ st ef=>wpAny_pyIter_keyiter st.1 ef
theorem NT:typeLookup (.type "dict") "__len__"=pure (some (.builtin "dict.__len__")):=by rw[typeLookup_type,builtinLookup_eq_fast];kernel_rfl
theorem Sg{acc:Array ac1}{es:Array agA}(h:ItemsOf (fun i v=>es[i]?.map (·.key)=some v) acc es.size):acc.toList=es.toList.map (·.key):=by
 apply List.ext_getElem?;intro i;have aq:acc.toList[i]?=acc[i]?:=by simp
 rw[ade,aq];cases e:acc[i]? with
 |none=>
  have:acc.size≤i:=by simpa using e
  rw[h.1]at this;have aD:es.toList[i]?=none:=aej (by simpa using this);rw[aD];rfl
 |some v=>have:=h.2 i v e;rw[←this];simp
theorem Nv{d:ada}{bN:Nat}{Q:List ac1→ac4→Prop}(bD:A.handled=none)(hd:(d==aez)=false)(hm:i4 s.heap d es bN)(aK:es.size≤adq)(ef:∀h' cb,(∀b o,s.heap.get? b=some o→h'.get? b=some o)→s.heap.objs.size<h'.objs.size→Q (es.toList.map (·.key)) { s with heap:=h',toks:=cb }):adm (adu prog w) A (collect (.ref d)) Q E s:=by
 have gm:d<s.heap.objs.size:=by obtain⟨o,aE,_⟩:=hm;exact ac_ aE
 have GS:s.heap.objs.size≠d:=fun e=>adS _ (e▸gm);unfold collect;refine acZ (wpAny_runValue (afU F.entry_proto_collect ?_));rw[afy F.plain_proto_collect _];show adm _ A.in1 (newList []>>=fun l=>again (.builtin "list.__iadd__" ⟨[l,.ref d],[]⟩)) _ _ s;refine acZ (aeJ ?_);refine ac3 ⟨plainId_quiet F.plain_list_iadd _,afU F.entry_list_iadd ?_⟩;rw[afy F.plain_list_iadd _];have vT:i4 (s.heap.push { cls:=.type "list",data:=.seq ([]:List ac1).toArray }) d es bN:=hm.at fun o e=>ac0 _ e;have GQ:(s.heap.push { cls:=.type "list",data:=.seq ([]:List ac1).toArray }).get? s.heap.objs.size=some { cls:=.type "list",data:=.seq ([]:List ac1).toArray }:=ac9 _ rfl;show adm _ A.in1 (agH (.ref s.heap.objs.size) (.ref d) (.ref s.heap.objs.size)) _ _ { s with heap:=s.heap.push { cls:=.type "list",data:=.seq ([]:List ac1).toArray } };generalize fM:s.heap.push { cls:=.type "list",data:=.seq ([]:List ac1).toArray }=f1 at vT GQ ⊢;unfold agH;refine acZ (agP (s:={ s with heap:=f1 }) (vT.typeIs (s:={ s with heap:=f1 })) ?_);have h1:ag9 (.ref s.heap.objs.size) (.ref d)=false:=by simp[ag9,GS]
 rw[if_neg (by rw[h1];decide)];refine acZ (WB (s:={ s with heap:=f1 }) hd vT ?_);dsimp only;have ia:(f1.push { cls:=.type "dict_keyiterator",data:=.fields #[.ref d,.int 0 0,.int es.size 0,.int bN 0] }).IsKeyIter f1.objs.size d 0 es.size bN:=⟨_,ac9 _ rfl,rfl,rfl⟩;have k4:i4 (f1.push { cls:=.type "dict_keyiterator",data:=.fields #[.ref d,.int 0 0,.int es.size 0,.int bN 0] }) d es bN:=vT.at fun o e=>ac0 _ e;have Al:(f1.push { cls:=.type "dict_keyiterator",data:=.fields #[.ref d,.int 0 0,.int es.size 0,.int bN 0] }).get? s.heap.objs.size=some { cls:=.type "list",data:=.seq ([]:List ac1).toArray }:=ac0 _ GQ;have m5:∀b o,s.heap.get? b=some o→(f1.push { cls:=.type "dict_keyiterator",data:=.fields #[.ref d,.int 0 0,.int es.size 0,.int bN 0] }).get? b=some o:=fun b o e=>ac0 _ (by rw[←fM];exact ac0 _ e);have bo:f1.objs.size=s.heap.objs.size+1:=by rw[←fM];exact size_push' _ _
 generalize f1.push { cls:=.type "dict_keyiterator",data:=.fields #[.ref d,.int 0 0,.int es.size 0,.int bN 0] }=f2 at ia k4 Al m5 ⊢;have T2:d≠f1.objs.size:=ady (by rw[bo];exact af5 gm);have W:=(WC (prog:=prog) (w:=w) (A:=A.in1) bD f1.objs.size d T2 es bN).toS;have pI:s.heap.objs.size∉[f1.objs.size,d]:=fun h=>by
  rcases List.mem_cons.mp h with e|h
  ·omega
  ·exact GS (List.mem_singleton.mp h)
 refine acZ (aeT ?_);unfold Builtin.List.listLengthHint;refine acZ (ae1 (s:={ s with heap:=f2 }) (k4.typeIs (s:={ s with heap:=f2 })) NT ?_)
 (generalize Aw:("dict.__len__" :String)=HD;(fail_if_success (clear Aw HD));wp_delta;rw[show splitId HD=some ("dict","__len__")from by subst Aw;decide+kernel];subst Aw)
 refine acZ (aeS (b:=true) (k4.typeIs (s:={ s with heap:=f2 })) (by rw[isSubtype_type];kernel_rfl) ?_);rw[if_neg (by simp)];dsimp only;rw[if_pos (by decide+kernel)];refine acZ (agP (k4.typeIs (s:={ s with heap:=f2 })) ?_);refine ac3 ?_;rw[if_pos (by decide+kernel)];refine acZ (af0 (acZ ?_));show adm _ A.in1 (updateSeq s.heap.objs.size (·.push .none)>>=fun _=>updateSeq s.heap.objs.size (·.pop)) _ _ { s with heap:=f2 };refine acZ (wpAny_updateSeq (s:={ s with heap:=f2 }) Al rfl ?_);have GR:=aeV (afq (·.push aeh)) Al rfl;refine wpAny_updateSeq GR rfl ?_;have Pa:=aeV (afq (·.pop)) GR rfl
 have p_:∀b o,b≠s.heap.objs.size→f2.get? b=some o→
   ((f2.update s.heap.objs.size (afq (·.push aeh))).update s.heap.objs.size (afq (·.pop))).get? b=some o:=
  fun b o J e=>(afZ _ _ (agS J)).trans ((afZ _ _ (agS J)).trans e)
 refine ac3 ⟨plainId_quiet F.plain_extend_loop _,codeAny_extend_loopS W aK _ pI _ es.size 0 _ _ _ (by omega) (aeB _)
  (W.frame 0 ({ s with heap:=f2 }:ac4) _ s.toks ⟨ia,k4⟩ (ac6 _) fun b J o e=>p_ b o (fun h=>pI (h▸J)) e) Pa (ItemsOf.nil _) fun s' u_ ey PX q3 GX=>?_⟩
 show adm _ A (load s.heap.objs.size>>=_) _ _ s';refine acZ (wpAny_load q3 ?_);refine ac3 ?_;show Q u_.toList s';rw[Sg GX];obtain⟨m1,m2,rm,rn,Ts⟩:=PX;have fO:=ac_ q3;obtain⟨a1,a2,eM,gX,hG⟩:=s';dsimp only at m1 m2 rm rn fO;subst m2 rm rn;refine ef a1 gX (fun b o e=>?_) fO;have J:=ac_ e;exact m1 b o (fun z=>by
  rcases List.mem_cons.mp z with e|z
  ·rw[e]at J;exact adS _ J
  ·rw[List.mem_singleton.mp z,bo]at J;exact absurd J (Nat.not_lt.mpr (ahe _))) (p_ b o (fun z=>by rw[z]at J;exact adS _ J) (m5 b o e))
theorem XZ{a:ada}{vs:List ac1}{n:Nat}{κ:KeyKind}{kd:ags}{P:Fin→ac4→Prop}(aE:s.heap.get? a=some (agI "list" vs.toArray n))(bo:vs.length≤adq)(aH:∀h':adX,(∀b o,b≠a→s.heap.get? b=some o→h'.get? b=some o)→vs≠[]→(∀R:ags→ac4→Prop,R kd { s with heap:=h' }→adm (adu prog w) A (keyKind' vs.toArray) R E { s with heap:=h' })∧qB prog w A { s with heap:=h' } kd κ (pairsOf vs))(hs:afX κ (pairsOf vs) (pairsOf vs).size)(h:P (.done (.ret .none)) { s with heap:=sortedHeap s.heap a vs vs.toArray }) :
  adm (adu prog w) A (ahb.«list.sort» ⟨[.ref a],[]⟩) P E s:=by
 rw[list_sort_plain];have bN:(pairsOf vs).map (·.2)=vs.toArray:=by
  apply Array.ext';rw[Array.toList_map,aiB];have:∀l:List ac1,(l.zip l).map (·.2)=l:=fun l=>by induction l with
   |nil=>rfl
   |cons a l bQ=>simp[bQ]
  rw[this]
 have ag:a<s.heap.objs.size:=ac_ aE;obtain⟨aq,g1⟩:∃aq,(s.heap.update a (afq fun _=> #[])).get? a=some (agI "list" #[] aq):=⟨_,get?_update_seq aE (fun _=> #[])⟩;refine acZ (ah4 aE rfl (acZ (listUpdate_at aE rfl (acZ (seqEpoch_at g1 rfl (acZ (wpAny_newTuple (acZ (wpAny_newList (aeT ?_))))))))));have keep:∀b o,b≠a→s.heap.get? b=some o→(((s.heap.update a (afq fun _=> #[])).push (agI "tuple" vs.toArray 0)).push (agI "list" #[] 0)).get? b=some o:=fun b o nb e=>
  ac0 _ (ac0 _ (by rw[Heap.get?_update_ne _ _ _ _ nb];exact e))
 have ob:(((s.heap.update a (afq fun _=> #[])).push (agI "tuple" vs.toArray 0)).push (agI "list" #[] 0)).get? a=some (agI "list" #[] aq):=ac0 _ (ac0 _ g1);show adm (adu prog w) A _ P E { s with heap:=((s.heap.update a (afq fun _=> #[])).push (agI "tuple" vs.toArray 0)).push (agI "list" #[] 0) };dsimp only;by_cases z:vs.toArray.size<2
 ·rw[if_pos z,if_pos z];refine acZ (ac3 ?_);rw[StateT.run_pure];refine acZ (ac3 (acZ (seqEpoch_at ob rfl (acZ (listUpdate_at ob rfl ?_ (hsz2:=by rw[Array.size_map];show(pairsOf vs).size≤_;rw[ah7];omega))))));simp only[bne_self_eq_false,adb,if_false];refine ac3 ?_;rw[←bN]at h;exact h
 ·rw[if_neg z,if_neg z];have z:¬vs.length<2:=by simpa using z
  obtain⟨k1,k2⟩:=aH _ keep (by intro e;subst e;simp at z)
  refine acZ (k1 _ (acZ (ad9 (WX (κ:=κ) k2 (st:=SortSt.mk' kd (vs.toArray.zip vs.toArray) #[] 7 none) (Q:=fun _ t=>afW t=pairsOf vs∧failedOf t=none)
   ⟨rfl,Array.Perm.refl _,rfl,rfl⟩ (by rw[ah7];omega) hs fun t a1 a2=>⟨a1,a2⟩) ?_ fun _ _ e=>e)))
  rintro⟨⟨⟩,t⟩ s' ⟨rfl,aS,hf⟩;dsimp only;refine acZ (seqEpoch_at ob rfl (acZ (listUpdate_at ob rfl ?_ (hsz2:=by refine adB (ai7 ((Array.size_map ..).trans ((congrArg Array.size aS).trans (ah7 _)))) ?_;omega))));rw[hf];simp only[bne_self_eq_false,adb,if_false];refine ac3 ?_;rw[←bN,←aS]at h;exact h
theorem X1{d:ada}{bN:Nat}{κ:KeyKind}{kd:ags}{Q:ac1→ac4→Prop}(bD:A.handled=none)(hd:(d==aez)=false)(hm:i4 s.heap d es bN)(aK:es.size≤adq)(aH:∀(h':adX)(cb:Nat)(uO:adG)(yo:ac1→ac4→Prop),uO.units≤A.units+8→(∀b o,s.heap.get? b=some o→h'.get? b=some o)→es.toList.map (·.key)≠[]→(∀R:ags→ac4→Prop,R kd { s with heap:=h',toks:=cb }→adm (adu prog w) uO (keyKind' (es.toList.map (·.key)).toArray) R yo { s with heap:=h',toks:=cb })∧qB prog w uO { s with heap:=h',toks:=cb } kd κ (pairsOf (es.toList.map (·.key))))(hs:afX κ (pairsOf (es.toList.map (·.key))) (pairsOf (es.toList.map (·.key))).size)(h:∀(l:ada)(h':adX) cb e,s.heap.objs.size≤l→(∀b o,s.heap.get? b=some o→h'.get? b=some o)→h'.get? l=some (agI "list" (es.toList.map (·.key)).toArray e)→Q (.ref l) { s with heap:=h',toks:=cb }) :
  adm (adu prog w) A (call (.builtin "sorted") [.ref d]) Q E s:=by
 refine Calls.call_function_entry kind_sorted plain_sorted entry_sorted (args_sorted1 _) ?_;unfold ahb.«sorted»;refine acZ (m:=checkCount "sorted" 1 1 _) (ac3 (acZ (Nv (A:=A.in1) bD hd hm aK fun f cb aM bo=>?_)));have bW:(es.toList.map (·.key)).length≤adq:=by simpa using aK
 generalize es.toList.map (·.key)=vs at aH hs h bW ⊢;refine acZ (wpAny_newList ?_);have g:(f.push (agI "list" vs.toArray 0)).get? f.objs.size=some (agI "list" vs.toArray 0):=ac9 _ rfl;have keep:∀b o,s.heap.get? b=some o→(f.push (agI "list" vs.toArray 0)).get? b=some o:=fun b o e=>ac0 _ (aM b o e);have bo:=afF bo;show adm _ _ _ _ _ { s with heap:=f.push (agI "list" vs.toArray 0),toks:=cb };refine acZ (aeT (ad4 slot_list_sort ⟨_,g,rfl⟩ entry_list_sort (XZ (s:={ s with heap:=f.push (agI "list" vs.toArray 0),toks:=cb }) (κ:=κ) (kd:=kd) g bW (fun h' k ne=>aH h' cb _ _ (by simp only[Around.in1_units];omega) (fun b o e=>k b o (fun z=>absurd (z▸ac_ e) (Nat.not_lt.mpr bo)) (keep b o e)) ne) hs ⟨_,rfl,?_⟩) (args_list_sort _)));obtain⟨e,ge⟩:=sortedHeap_at (out:=vs.toArray) g;refine ac3 ⟨_,rfl,h _ _ cb e bo (fun b o q=>?_) ge⟩;have xk:=keep b o q;exact(sortedHeap_old (fun z:b=f.objs.size=>absurd (z▸ac_ q) (Nat.not_lt.mpr bo)) (ac_ xk)).trans xk
end
section
variable{prog:adp}{w:adJ}{A:adG}{E:ac1→ac4→Prop}{s:ac4}
structure KB(prog:adp)(w:adJ)(h:adX)(v:ac1)(k:Int×Int×Int):Prop where
 ex:∃a o m b t,v=.ref a∧h.get? a=some o∧o.cls=.type "tuple"∧o.data=.seq #[.ref b,.int k.2.2 t] m∧adL (ahI prog w) h [k.1,k.2.1] b
theorem KB.inj{h:adX}{v:ac1}{k k':Int×Int×Int}(x:KB prog w h v k)(y:KB prog w h v k'):k=k':=by obtain⟨a,o,m,b,t,rfl,aE,aB,hd,J⟩:=x.ex;obtain⟨kQ,bR,c5,eN,t',e,eo,q5,fw,jd⟩:=y.ex;cases e;rw[aE]at eo;cases eo;rw[hd]at fw;simp at fw;obtain⟨⟨rfl,aq,_⟩,_⟩:=fw;have aD:=J.inj jd;simp at aD;obtain⟨k1,k2,k3⟩:=k;obtain⟨aaU,aaV,aaW⟩:=k';simp at aq aD ⊢;exact⟨aD.1,aD.2,aq⟩
theorem KB.mono{h h':adX}{v:ac1}{k:Int×Int×Int}(m:∀b o,h.get? b=some o→h'.get? b=some o)(x:KB prog w h v k):KB prog w h' v k:=by obtain⟨a,o,m1,b,t,e,aE,aB,hd,b_,it,n,g,r⟩:=x.ex;exact⟨a,o,m1,b,t,e,m _ _ aE,aB,hd,b_,it,n,m _ _ g,r⟩
theorem ltB{x y:ac1}{k k':Int×Int×Int}{Q:Bool→ac4→Prop}(aJ:A.units<aew)(ax:KB prog w s.heap x k)(bq:KB prog w s.heap y k')(h:Q (ltI (hj k) (hj k')) s):adm (adu prog w) A (keyLt' (tuples' false) x y) Q E s:=by
 obtain⟨a,o,m,b,t,rfl,aE,aB,hd,J⟩:=ax.ex;obtain⟨kQ,bR,c5,eN,t',rfl,eo,q5,fw,jd⟩:=bq.ex;rw[R9];refine acZ (ah4 aE hd (acZ (ah4 eo fw ?_)));simp only[aem,List.zip_nil_left,agg,ah0,agB,aiz,hj,ltI,aiw]at h ⊢;refine acZ (acZ (acZ (agK aJ J jd ?_)));by_cases aD:k.1=k'.1∧k.2.1=k'.2.1
 ·rw[if_neg (by simp[aD.1,aD.2])];rw[if_pos aD.1,if_pos aD.2]at h;refine ac3 ?_;dsimp only;refine acZ (acZ (wpAny_eqBool_int ?_));by_cases e:k.2.2=k'.2.2
  ·rw[if_pos e]at h;rw[if_neg (by simp[e])];exact ac3 (ac3 (ac3 h))
  ·rw[if_neg e]at h;rw[if_pos (by simpa using e)];exact acZ (I4 (JU ⟨_,rfl,ac3 (ac3 (ac3 h))⟩))
 ·rw[if_pos (by simp;exact Classical.not_and_iff_not_or_not.mp aD)];refine acZ (I4 (WD aJ J jd ⟨_,rfl,ac3 (ac3 (ac3 ?_))⟩));have:ltI [k.1,k.2.1] [k'.1,k'.2.1]=ltI (hj k) (hj k'):=by
   simp only[ltI,hj];by_cases b4:k.1=k'.1
   ·have:¬k.2.1=k'.2.1:=fun z=>aD ⟨b4,z⟩;simp[b4,this]
   ·simp[b4]
  rw[this];simpa only[hj,ltI]using h
open Classical in
noncomputable def kindB(prog:adp)(w:adJ)(h:adX):KeyKind:={ U6 with keyOf:=fun v=>if q:∃k,KB prog w h v k then some (hj (choose q))else none,dflt:=[] }
theorem A4{h:adX}{v:ac1}{k:Int×Int×Int}(x:KB prog w h v k):(kindB prog w h).keyOf v=some (hj k):=by have q:∃k,KB prog w h v k:=⟨k,x⟩;exact(dif_pos q).trans (congrArg (fun z=>some (hj z)) ((agb q).inj x))
theorem X0{d:ada}{es:Array agA}{bN:Nat}{ks:List (Int×Int×Int)}{Q:ac1→ac4→Prop}(aJ:A.units+64<aew)(bD:A.handled=none)(hd:(d==aez)=false)(hm:i4 s.heap d es bN)(aK:es.size≤adq)(ai:es.size=ks.length)(aH:∀(i:Nat) e k,es[i]?=some e→ks[i]?=some k→KB prog w s.heap e.key k)(hs:ks.Pairwise fun a b=>jf a b=true)(h:∀(l:ada)(h':adX) cb e,s.heap.objs.size≤l→(∀b o,s.heap.get? b=some o→h'.get? b=some o)→h'.get? l=some (agI "list" (es.toList.map (·.key)).toArray e)→Q (.ref l) { s with heap:=h',toks:=cb }) :
  adm (adu prog w) A (call (.builtin "sorted") [.ref d]) Q E s:=by
 have AJ:∀(i:Nat) v k,(es.toList.map (·.key))[i]?=some v→ks[i]?=some k→KB prog w s.heap v k:=fun i v k aq aD=>by rw[ade]at aq;obtain⟨e,qU,rfl⟩:=Option.map_eq_some_iff.mp aq;exact aH i e k (by simpa using qU) aD
 have Qo:(es.toList.map (·.key)).length=ks.length:=by simpa using ai
 refine X1 (κ:=kindB prog w s.heap) (kd:=tuples' false) bD hd hm aK ?_ ?_ h
 all_goals generalize es.toList.map (·.key)=vs at AJ Qo ⊢
 ·intro h' cb uO yo iM aM ne;have all:∀v∈vs,∃k,KB prog w s.heap v k:=fun v bW=>by
   obtain⟨i,ar,rfl⟩:=aeg bW;exact⟨_,AJ i _ _ (ac2 ar) (ac2 (by omega))⟩
  have pm:∀p∈(pairsOf vs).toList,p.1=p.2∧p.1∈vs:=fun p aS=>by rw[aiB]at aS;exact mem_zip_self aS
  refine⟨fun R hR=>?_,⟨fun Z1 x y Z3 ax bq ef=>?_⟩⟩
  ·classical
   have g:∀v∈vs,∃u,(∃a o m r,v=adx a∧h'.get? a=some o∧o.cls=.type "tuple"∧o.data=.seq (u::r).toArray m)∧ahm { s with heap:=h',toks:=cb } u "tuple":=fun v bW=>by obtain⟨k,q⟩:=all v bW;obtain⟨a,o,m,b,t,e,aE,aB,hd,J⟩:=(q.mono aM).ex;exact⟨_,⟨a,o,m,[.int k.2.2 t],e,aE,aB,hd⟩,J.typeIs (s:={ s with heap:=h',toks:=cb })⟩
   obtain⟨vM,G7⟩:∃vM:ac1→ac1,∀v∈vs,(∃a o m r,v=adx a∧h'.get? a=some o∧o.cls=.type "tuple"∧o.data=.seq (vM v::r).toArray m)∧ahm { s with heap:=h',toks:=cb } (vM v) "tuple":=⟨fun v=>if q:∃u,(∃a o m r,v=adx a∧h'.get? a=some o∧o.cls=.type "tuple"∧o.data=.seq (u::r).toArray m)∧ahm { s with heap:=h',toks:=cb } u "tuple" then ajd q else .none,fun v bW=>by have q:=g v bW;simp only[dif_pos q];exact agb q⟩
   exact Sh (s:={ s with heap:=h',toks:=cb }) (g:=vM) (T:="tuple") ne (fun v bW=>(G7 v bW).1) (fun v bW=>(G7 v bW).2) hR
  ·obtain⟨_,cK⟩:=pm x ax;obtain⟨_,eY⟩:=pm y bq;obtain⟨aaZ,JJ⟩:=all _ cK;obtain⟨A7,JK⟩:=all _ eY;rw[A4 JJ,A4 JK]at ef;exact ltB (s:={ s with heap:=h',toks:=cb }) (by omega) (JJ.mono aM) (JK.mono aM) ef
 ·intro i j aaD cz;have ZZ:∀l:List ac1,(l.zip l)=l.map fun v=>(v,v):=fun l=>by induction l with
   |nil=>rfl
   |cons a l bQ=>simp[bQ]
  rw[ah7]at cz;have kk:∀n(aK:n<vs.length),KK (kindB prog w s.heap) (pairsOf vs) n=hj (ks[n]'(by omega)):=fun n aK=>by
   have q:=AJ n _ _ (ac2 aK) (ac2 (by omega));unfold KK;have e:(pairsOf vs)[n]?=some (vs[n],vs[n]):=by rw[←aei,aiB,ZZ,ade,ac2 aK];rfl
   rw[e];show((kindB prog w s.heap).keyOf vs[n]).getD _=_;rw[A4 q];rfl
  rw[kk i (by omega),kk j cz];show ltI (hj _) (hj _)=false;by_cases e:i=j
  ·subst e;exact Bb _
  ·have:=List.pairwise_iff_getElem.mp hs i j (by omega) (by omega) (by omega);unfold jf at this;simpa using this
end
end LT
namespace a3
open PySem PySem.Spec PyProof.Rows
section
variable{X:aQ}
noncomputable def Ed(a:ada)(n:Nat)(h:adX):Prop:=∃o es bN t,h.get? a=some o∧o.ExactSet∧o.data=.set es bN t∧t.fits es.size=true∧es.size=n
def xK(a:ada)(n:Nat):dR:=.ext (Ed a n)
theorem Yg{P:adp}{w:adJ}{H:ah}{h:adX}{a:ada}{n:Nat}(x:Ed a n h):eK P w H h a (xK a n):=
 ⟨x,by obtain⟨o,_,_,_,e,_⟩:=x;exact⟨o,e⟩,fun h1 h2 y k=>by obtain⟨o,es,bN,t,e,r⟩:=y;exact⟨o,es,bN,t,k o e,r⟩⟩
noncomputable def D7(H:ah)(ys:List V)(keys:List (List Key)):Prop:=keys.length=ys.length∧∀(i:Nat) y k,ys[i]?=some y→keys[i]?=some k→∃b,y=.ref b∧H b=some (.tup (k.map da))
noncomputable def Wv(K:PySem.W.Frag):List V→ah→cX→Prop:=fun xs H Q=>∃p ys keys,xs=[.ref p]∧b7 K H p ys∧ys.length<77∧D7 H ys keys∧∀l,H l=none→Q (.ref l) (upd H l (xK l (e0.hY keys).length))
theorem Ni(bD:X.A.handled=none)(aJ:X.A.units+64<aew):gT X (.type "set") (Wv X.K):=by
 intro pins s σ H xs us Q I r h;obtain⟨p,ys,keys,rfl,aR,aK,⟨ai,aH⟩,q⟩:=h;obtain⟨u,rfl,bH⟩:=vals1 r;cases bH;obtain⟨its,bF,pl,bo⟩:=I.list aR;have hlen:=bF.length;refine e0.Nj (knd:=gD X.prog X.w) (items:=its.toArray) (keys:=keys) bD aJ pl.isList (by rw[ac8];omega) (by rw[ac8];omega) (fun i v bW=>?_) fun h' cb T aM=>?_
 ·have bW:its[i]?=some v:=by simpa using bW
  have ar:=(List.getElem?_eq_some_iff.mp bW).1;have dN:ys[i]?=some ys[i]:=ac2 (by omega);have fD:keys[i]?=some keys[i]:=ac2 (by omega);obtain⟨b,aq,aD⟩:=aH i _ _ dN fD;obtain⟨my,vX,cg⟩:=bF.get dN;rw[bW]at vX;cases vX;rw[aq]at cg;cases cg;exact⟨b,_,rfl,fD,HY I.bL aD⟩
 ·obtain⟨o,es,bN,t,g1,g2,g3,jD,l4,ob,O0,Af⟩:=T.ex;exact⟨.ref s.heap.objs.size,_,I.laid (t':=cb) aM (ac6 _) (Yg ⟨o,es,bN,t,g1,g2,g3,jD.fits,O0⟩),rfl,q _ (I.bL.fresh (ac6 _))⟩
def Wt:List V→ah→cX→Prop:=fun xs H Q=>∃a n,xs=[.ref a]∧H a=some (xK a n)∧n<1000∧Q (.int n) H
theorem Ng:gT X (.builtin "len") Wt:=by intro pins s σ H xs us Q I r h;obtain⟨a,n,rfl,ag,aK,q⟩:=h;obtain⟨u,rfl,bH⟩:=vals1 r;cases bH;obtain⟨⟨o,es,bN,t,g1,g2,g3,jD,l4⟩,_⟩:=(show eK X.prog X.w H s.heap a (xK a n)from I.bL a _ ag);subst l4;exact call_len_set g1 g2 g3 jD (by omega) ⟨.int es.size,H,I.tok _,⟨_,rfl⟩,q⟩
noncomputable def Wr:V→List V→ah→cX→Prop:=fun x vs H Q=>∃l xs i y,x=.ref l∧vs=[.int i,y]∧H l=some (.lst xs)∧0≤i∧i<2^63∧xs.length<adq∧Q .non (upd H l (.lst (xs.take (min i.toNat xs.length)++y::xs.drop (min i.toNat xs.length))))
theorem TV:uY X "list.insert" Wr:=by
 intro pins s σ H x vs v us Q I bH cg h;obtain⟨l,xs,i,y,rfl,rfl,hL,h1,h2,bo,q⟩:=h;cases bH;obtain⟨u,hS,rfl,⟨t,rfl⟩,eD⟩:∃u hS,us=[u,hS]∧RelV (.int i) u∧RelV y hS:=by
  cases cg with
  |cons a1 eC=>cases eC with
   |cons a2 dE=>cases dE;exact⟨_,_,rfl,a1,a2⟩
 obtain⟨z,its,n,r,ai,e⟩:=I.pT hL;refine aic F.slot_list_insert ⟨_,e,rfl⟩ F.entry_list_insert (F.args_list_insert_3 _ _ _) (AutoListH.list_insert_list_int_val_1 l its.toArray n i t hS (by rw[fitsIndex_both (by omega) h2];simp) (by rw[ac8];omega)) ⟨e,?_⟩;refine⟨.non,_,I.wy (its':=its.take (min i.toNat xs.length)++hS::its.drop (min i.toNat xs.length)) hL e ?_ ((r.take _).append (.cons eD (r.drop _))) ?_,rfl,q⟩
 ·dsimp only;rw[if_neg (by omega),ac8,←ai];apply Array.ext';simp[agZ];exact aeP (by rw[afa];omega)
 ·rw[adD,adl,aes,afa];omega
end
end a3
namespace bt
open PySem PySem.Spec a3 PyProof.Rows
section
variable{X:aQ}{F:bG}{e a b c:adI}{es:List adI}{pos p:Pos}{m n:aN}{ma:aY}
def HW:D→Option Key
 |.int i=>some (.inl i)
 |.str x=>some (.inr x)
 |_=>none
noncomputable def keysOf:List D→Option (List Key)
 |[]=>some []
 |d::ds=>match HW d,keysOf ds with
  |some k,some ks=>some (k::ks)
  |_,_=>none
def Dm:D→Option (List Key)
 |.tup ds=>keysOf ds
 |_=>none
noncomputable def qk:List D→Option (List (List Key))
 |[]=>some []
 |d::ds=>match Dm d,qk ds with
  |some k,some ks=>some (k::ks)
  |_,_=>none
noncomputable def tq:List D→R D
 |[.lst ds]=>if ds.length<77 then match qk ds with
  |some ks=>.ok (.int (e0.hY ks).length)
  |none=>.bad
  else .bad
 |_=>.bad
theorem H0{K:PySem.W.Frag}{G:ah}:∀{ds:List D}{ks:List Key}{xs:List V},keysOf ds=some ks→aP K G ds xs→xs=ks.map da
 |[],ks,xs,e,h=>by simp only[keysOf]at e;cases e;simp only[aP]at h;subst h;rfl
 |d::ds,ks,xs,e,h=>by
  simp only[keysOf]at e
  split at e
  ·rename_i k g5 aq aD;cases e;simp only[aP]at h;obtain⟨v,r,rfl,a1,a2⟩:=h;rw[H0 aD a2,adi];cases d<;>simp only[HW]at aq<;>first|(cases aq;done)|(cases aq;simp only[At]at a1;subst a1;rfl)
  ·cases e
theorem Ld{K:PySem.W.Frag}{G:ah}:∀{ds:List D}{ks:List (List Key)}{xs:List V},qk ds=some ks→aP K G ds xs→D7 G xs ks
 |[],ks,xs,e,h=>by simp only[qk]at e;cases e;simp only[aP]at h;subst h;exact⟨rfl,fun i y k aq=>by simp at aq⟩
 |d::ds,ks,xs,e,h=>by
  simp only[qk]at e
  split at e
  ·rename_i k g5 aq aD;cases e;simp only[aP]at h;obtain⟨v,r,rfl,a1,a2⟩:=h;obtain⟨dZ,cP⟩:=Ld aD a2;refine⟨by simp[dZ],fun i y k' aV bE=>?_⟩;cases i with
   |succ i=>exact cP i y k' (by simpa using aV) (by simpa using bE)
   |zero=>
    simp at aV bE;subst aV bE;cases d<;>simp only[Dm]at aq<;>first|(cases aq;done)|skip
    simp only[At]at a1;obtain⟨b,ys,rfl,g,q⟩:=a1;exact⟨b,rfl,by rw[g,H0 aq q]⟩
  ·cases e
theorem Zo{ly pos':Pos}(bD:X.A.handled=none)(aJ:X.A.units+64<aew)(hm:X.mg "len"=none)(k4:X.mg "set"=none)(ag:fb X F [e] ma)(a5:F.K=X.K:=by rfl)(aO:dM X "len":=by rfl)(s6:dM X "set":=by rfl)(hs:ac5 [.Call (.Name "set" ly) [e] [] pos'] X.env=(false,aeq (.Call (.Name "set" ly) [e] [] pos') X.env)::ac5 [] X.env:=by rfl)(he:ac5 [e] X.env=(false,aeq e X.env)::ac5 [] X.env:=by rfl)(de:(adR pos (ac5 [] X.env)).any (·.1)=false:=by rfl)(Qc:(adR pos' (ac5 [] X.env)).any (·.1)=false:=by rfl) :
  bb X F (.Call (.Name "len" p) [.Call (.Name "set" ly) [e] [] pos'] [] pos) (cM tq ma):=by
 refine⟨a6.imp (xb Ng aO hm PySem.boot_len (kr (xc (Ni bD aJ) s6 k4 (by kernel_rfl) ag.1 (by decide) (by decide) he Qc) mr hs) (by decide) (by decide) hs de) ?_⟩;rintro σ H Q ⟨G,ρ,r,h⟩;unfold cM at h;refine⟨G,ρ,r,?_⟩;cases aw:ma ρ with
 |bad=>rw[aw]at h;exact h.elim
 |exc c=>rw[aw]at h;exact h
 |ok ds=>
  rw[aw,R.bM]at h;intro vs H1 aW az s1 a;unfold tq at h
  split at h
  ·split at h
   ·split at h
    ·rename_i ks fD;obtain⟨v,rfl,bp⟩:=a.one;simp only[At]at bp;obtain⟨q,xs,rfl,aR,fU⟩:=bp;have kt:=Ld fD fU;have ai:=fU.length;refine⟨q,xs,ks,rfl,b7.of (az.aM.sub _ _ aR),by omega,⟨kt.1,fun i y k aq aD=>?_⟩,fun l m6=>?_⟩
     ·obtain⟨b,bj,O1⟩:=kt.2 i y k aq aD;exact⟨b,bj,az.aM.sub _ _ O1⟩
     ·have:=e0.E9 ks;have:=kt.1;refine⟨l,_,rfl,et,by omega,?_⟩;exact h _ _ aW (az.lay0 m6) (s1.trans (cq.lay0 m6)) (by simp only[At])
    ·exact h.elim
   ·exact h.elim
  ·exact h.elim
noncomputable def rr(i:Nat)(m:aN):gz:=fun ρ=>(ownAt i ρ).bind fun ds=>(m ρ).bind fun d=>match d with
 |.lst es=>if ds.length+es.length≤1000000 then .ok (.non,ρ.set i (.dj (ds++es)))else .bad
 |_=>.bad
theorem LC (i:Nat) {x:Str} {aT:Pos} {apos:Pos} {ct:Pos} (he:bb X F e m) (cB:X.N[i]?=some x:=by rfl) (bW:iH X.env.scope x:=by first|exact aeQ rfl|exact aed (aeQ rfl)|exact aed (aed rfl)) (hd:(x==("__debug__" :Str))=false:=by decide) (en:(x==("__classdict__" :Str))=false:=by decide)(iO:aeb (.Name x aT) "extend" X.env (aeq (.Name x aT) X.env)=aeq (.Name x aT) X.env:=by rfl) (iR:(apos.endLine==ct.line)=true:=by rfl)(iQ:((adR ct (ac5 [e] X.env)).all (fun x=>!x.1)&&(ae7 ct (aee [] X.env)).all (fun x=>x.1.isSome)
    &&decide (([e]:List adI).length+([]:List ae3).length+(if([]:List ae3).isEmpty then 0 else 1)<30))=true:=by rfl)
  (hs:ac5 [e] X.env=(false,aeq e X.env)::ac5 [] X.env:=by rfl) (iS:(adR ct (ac5 [] X.env)).any (·.1)=false:=by rfl) :
  mR X F (.Call (.Attribute (.Name x aT) "extend" apos) [e] [] ct) (rr i m):=by
 refine⟨a6.imp (qa PySem.F.plainAttrs_list PySem.F.slot_list_extend PySem.F.type_list_extend TS (lz cB bW hd en) (kr he.1 mr hs) iO iQ iR hs iS) ?_⟩;rintro σ H Q ⟨G,ρ,r,h⟩;unfold rr ownAt at h;cases c4:ρ[i]? with
 |none=>rw[c4]at h;exact h.elim
 |some s=>
  rw[c4]at h;cases s with
  |un=>exact h.elim
  |aA _=>exact h.elim
  |eB _=>exact h.elim
  |bf bf=>
   cases bf with
   |bx _ _=>exact h.elim
   |ins _ _ _=>exact h.elim
   |lst ds=>
    obtain⟨q,xs,aq,h1,h2,h3,h4⟩:=r.own c4;rw[R.bM]at h;refine⟨.ref q,aq,.inl ⟨rfl,xs,b7.of h1⟩,G,ρ,r,?_⟩;cases aw:m ρ with
    |bad=>rw[aw]at h;exact h.elim
    |exc c=>rw[aw]at h;exact h
    |ok d=>
     rw[aw,R.bM]at h;intro v H1 aW az s1 bp;obtain⟨dU,f5,gB,cO,cA,pG,hk⟩:=az.own c4;rw[aq]at gB;cases gB;cases d with
     |lst es=>
      simp only at h
      split at h
      ·rename_i ai;simp only[At]at bp;obtain⟨cD,ys,rfl,g2,bE⟩:=bp;refine⟨q,cD,f5,ys,rfl,rfl,cO,az.aM.sub _ _ g2,by rw[←hk.length,←bE.length,aeY];omega,?_⟩;exact h .non _ aW (az.mut c4 aq (hk.append bE)) s1.g (by simp only[At])
      ·exact h.elim
     |_=>exact h.elim
noncomputable def rv(i:Nat)(m n:aN):gz:=fun ρ=>(ownAt i ρ).bind fun ds=>(m ρ).bind fun d=>(n ρ).bind fun y=>match d with
 |.int k=>if 0≤k∧k<2^63∧ds.length<1000000 then .ok (.non,ρ.set i (.dj (ds.take (min k.toNat ds.length)++y::ds.drop (min k.toNat ds.length))))else .bad
 |_=>.bad
theorem LF (i:Nat) {x:Str} {aT:Pos} {apos:Pos} {ct:Pos} (ag:bb X F a m) (J:bb X F b n) (cB:X.N[i]?=some x:=by rfl) (bW:iH X.env.scope x:=by first|exact aeQ rfl|exact aed (aeQ rfl)|exact aed (aed rfl)) (hd:(x==("__debug__" :Str))=false:=by decide) (en:(x==("__classdict__" :Str))=false:=by decide)(iO:aeb (.Name x aT) "insert" X.env (aeq (.Name x aT) X.env)=aeq (.Name x aT) X.env:=by rfl) (iR:(apos.endLine==ct.line)=true:=by rfl)(iQ:((adR ct (ac5 [a,b] X.env)).all (fun x=>!x.1)&&(ae7 ct (aee [] X.env)).all (fun x=>x.1.isSome)
    &&decide (([a,b]:List adI).length+([]:List ae3).length+(if([]:List ae3).isEmpty then 0 else 1)<30))=true:=by rfl)
  (hs:ac5 [a,b] X.env=(false,aeq a X.env)::ac5 [b] X.env:=by rfl) (eU:ac5 [b] X.env=(false,aeq b X.env)::ac5 [] X.env:=by rfl) (iS:(adR ct (ac5 [b] X.env)).any (·.1)=false:=by rfl) :
  mR X F (.Call (.Attribute (.Name x aT) "insert" apos) [a,b] [] ct) (rv i m n):=by
 refine⟨a6.imp (qa PySem.F.plainAttrs_list PySem.F.slot_list_insert PySem.F.type_list_insert TV (lz cB bW hd en) (kr ag.1 (kr J.1 mr eU) hs) iO iQ iR hs iS) ?_⟩;rintro σ H Q ⟨G,ρ,r,h⟩;unfold rv ownAt at h;cases c4:ρ[i]? with
 |none=>rw[c4]at h;exact h.elim
 |some s=>
  rw[c4]at h;cases s with
  |un=>exact h.elim
  |aA _=>exact h.elim
  |eB _=>exact h.elim
  |bf bf=>
   cases bf with
   |bx _ _=>exact h.elim
   |ins _ _ _=>exact h.elim
   |lst ds=>
    obtain⟨q,xs,aq,h1,h2,h3,h4⟩:=r.own c4;rw[R.bM]at h;refine⟨.ref q,aq,.inl ⟨rfl,xs,b7.of h1⟩,G,ρ,r,?_⟩;cases aw:m ρ with
    |bad=>rw[aw]at h;exact h.elim
    |exc c=>rw[aw]at h;exact h
    |ok d=>
     rw[aw,R.bM]at h;intro v H1 aW az s1 bp;refine⟨aW,ρ,az,?_⟩;cases bj:n ρ with
     |bad=>rw[bj]at h;exact h.elim
     |exc c=>rw[bj]at h;exact h
     |ok y=>
      rw[bj,R.bM]at h;intro v2 bk dg bg s2 MS;obtain⟨dU,f5,gB,cO,cA,pG,hk⟩:=bg.own c4;rw[aq]at gB;cases gB;cases d with
      |int k=>
       simp only[At]at bp;subst bp;simp only at h
       split at h
       ·rename_i aH;have ai:=hk.length;refine⟨q,f5,k,v2,rfl,rfl,cO,aH.1,aH.2.1,by rw[aeY];omega,?_⟩;rw[←ai];exact h .non _ dg (bg.mut c4 aq ((hk.take _).append (.cons MS (hk.drop _)))) (s1.trans s2).g (by simp only[At])
       ·exact h.elim
      |_=>exact h.elim
noncomputable def tx(ma:aY)(m:aN):aY:=fun ρ=>(ma ρ).bind fun ds=>(m ρ).bind fun d=>match d with
 |.lst es=>if ds.length+es.length≤1000000 then .ok (ds++es)else .bad
 |_=>.bad
theorem ZC(ag:iI X F a ma)(J:bb X F b m):iI X F (.BinOp a .Add b pos) (tx ma m):=by
 refine⟨a6.imp (xd w7 ag.1 J.1) ?_⟩;rintro σ H Q ⟨G,ρ,r,h⟩;unfold tx at h;refine⟨G,ρ,r,?_⟩;cases aw:ma ρ with
 |bad=>rw[aw]at h;exact h.elim
 |exc c=>rw[aw]at h;exact h
 |ok ds=>
  rw[aw,R.bM]at h;intro l xs H1 aW az s1 ai h1 g1 aV;refine⟨aW,ρ,az,?_⟩;cases bj:m ρ with
  |bad=>rw[bj]at h;exact h.elim
  |exc c=>rw[bj]at h;exact h
  |ok d=>
   rw[bj,R.bM]at h;intro v bk dg bg s2 bp;cases d with
   |lst es=>
    simp only at h
    split at h
    ·rename_i ai;simp only[At]at bp;obtain⟨cD,ys,rfl,g2,bE⟩:=bp;refine⟨l,cD,xs,ys,rfl,rfl,s2.h _ _ h1,bg.aM.sub _ _ g2,by rw[←aV.length,←bE.length,aeY];omega,fun A8 aK=>?_⟩;exact h A8 (xs++ys) _ dg (bg.lay0 aK) ((s1.trans s2).trans (cq.lay0 aK)) ((s1.trans s2).h.gone aK) et (bg.aM.sub.gone aK) ((aV.mono s2.g).append bE)
    ·exact h.elim
   |_=>exact h.elim
noncomputable def tw(m n:aN):aY:=fun ρ=>(m ρ).bind fun c=>(n ρ).bind fun d=>match c,d with
 |.lst ds,.lst es=>if ds.length+es.length≤1000000 then .ok (ds++es)else .bad
 |_,_=>.bad
theorem ZD(ag:bb X F a m)(J:bb X F b n):iI X F (.BinOp a .Add b pos) (tw m n):=by
 refine⟨a6.imp (xd w7 ag.1 J.1) ?_⟩;rintro σ H Q ⟨G,ρ,r,h⟩;unfold tw at h;refine⟨G,ρ,r,?_⟩;cases aw:m ρ with
 |bad=>rw[aw]at h;exact h.elim
 |exc c=>rw[aw]at h;exact h
 |ok c=>
  rw[aw,R.bM]at h;intro u H1 aW az s1 Ew;refine⟨aW,ρ,az,?_⟩;cases bj:n ρ with
  |bad=>rw[bj]at h;exact h.elim
  |exc c=>rw[bj]at h;exact h
  |ok d=>
   rw[bj,R.bM]at h;intro v bk dg bg s2 bp
   split at h
   ·split at h
    ·rename_i ai;simp only[At]at Ew bp;obtain⟨d0,xs,rfl,g1,aV⟩:=Ew;obtain⟨cD,ys,rfl,g2,bE⟩:=bp;refine⟨d0,cD,xs,ys,rfl,rfl,s2.h _ _ (az.aM.sub _ _ g1),bg.aM.sub _ _ g2,by rw[←aV.length,←bE.length,aeY];omega,fun A8 aK=>?_⟩;exact h A8 (xs++ys) _ dg (bg.lay0 aK) ((s1.trans s2).trans (cq.lay0 aK)) ((s1.trans s2).h.gone aK) et (bg.aM.sub.gone aK) ((aV.mono s2.g).append bE)
    ·exact h.elim
   ·exact h.elim
def NB(k:Int×Int×Int):D:=.tup [.int k.1,.tup [.int k.2.1,.int k.2.2]]
def R2:D→Option (Int×Int×Int)
 |.tup [.int n,.tup [.int h,.int d]]=>some (n,h,d)
 |_=>none
noncomputable def HT:List D→Option (List (Int×Int×Int))
 |[]=>some []
 |d::ds=>match R2 d,HT ds with
  |some k,some ks=>some (k::ks)
  |_,_=>none
noncomputable def Kn:List D→R (List D)
 |[.lst ds]=>if ds.length<64 then match HT ds with
  |some ks=>.ok ((LT.X4 ks).map NB)
  |none=>.bad
  else .bad
 |_=>.bad
def TC(m:aY):aY:=fun ρ=>(m ρ).bind Kn
def Tv(k:Str)(i:Int):aN:=fun _=>.ok (.dA [.inr k] [.int i])
end
end bt
namespace a3
open PySem PySem.Spec PyProof.Rows
section
variable{X:aQ}
def nq(k:Int×Int×Int):cx:=[.inr [.inl k.1,.inl k.2.1],.inl (.inl k.2.2)]
theorem R4{P:adp}{w:adJ}{H:ah}{h:adX}{a:ada}{k:Int×Int×Int}(ok:eb P w H h)(t:g_ H (nq k) a):LT.KB P w h (.ref a) k:=by
 obtain⟨vs,ag,p⟩:=t;cases p with
 |cons d0 t=>
  cases t with
  |cons cD t=>
   cases t;obtain⟨b,rfl,J⟩:=d0;have cD:_=da (.inl k.2.2):=cD;subst cD;obtain⟨_,its,v1,o,aE,aB,n,hd⟩:=(show eK P w H h a (.tup _)from ok a _ ag);obtain⟨_,eI,v2,b_,P1,ke,n2,hd2⟩:=(show eK P w H h b (.tup _)from ok b _ J);cases v1 with
   |cons gS t1=>
    cases t1 with
    |cons cK cy=>
     cases cy;obtain⟨t,rfl⟩:=cK;cases gS;cases v2 with
     |cons eX oS=>
      cases oS with
      |cons eY hS=>cases hS;obtain⟨t1,rfl⟩:=eX;obtain⟨cy,rfl⟩:=eY;exact⟨a,o,n,b,t,rfl,aE,aB,hd,b_,_,n2,P1,ke,hd2,.cons (intKind_is _ _ _ _) (.cons (intKind_is _ _ _ _) .nil)⟩
noncomputable def Ww:List V→ah→cX→Prop:=fun xs H Q=>∃p aZ ks,xs=[.ref p]∧gA H p (.bx aZ)∧aZ.map (·.1)=ks.map nq∧(ks.Pairwise fun a b=>LT.jf a b=true)∧
 ∀l(bs:List ada),H l=none→Paired (fun k b=>g_ H (nq k) b) ks bs→Q (.ref l) (upd H l (.lst (bs.map .ref)))
theorem Ie{H:ah}:∀{aZ:List (cx×V)}{xs:List (cx×ada×ac1)}{ks:List (Int×Int×Int)},KT H aZ xs→aZ.map (·.1)=ks.map nq→Paired (fun k b=>g_ H (nq k) b) ks (xs.map (·.2.1))
 |_,_,[],.nil,_=>.nil
 |_,_,_::_,.nil,e=>by simp at e
 |_,_,[],.cons _ _,e=>by simp at e
 |_,_,k::ks,.cons h t,e=>by simp only[adi,afl]at e;exact .cons (by rw[←e.1];exact h.2.1) (Ie t e.2)
theorem Ji{α β:Type}{R:α→β→Prop}:∀{l:List α}{m:List β},Paired R l m→∀(i:Nat) a b,l[i]?=some a→m[i]?=some b→R a b
 |_,_,.nil,i,a,b,e,_=>by simp at e
 |_,_,.cons h t,0,a,b,aq,aD=>by simp at aq aD;subst aq aD;exact h
 |_,_,.cons h t,i+1,a,b,aq,aD=>Ji t i a b (by simpa using aq) (by simpa using aD)
theorem BD{α β:Type}{R:α→β→Prop}:∀{l:List α}{m:List β},Paired R l m→l.length=m.length
 |_,_,.nil=>rfl
 |_,_,.cons h t=>by simp[BD t]
theorem Y5(bs:List ada):Vals (bs.map V.ref) (bs.map adx):=by
 induction bs with
 |nil=>exact .nil
 |cons b bs bQ=>exact .cons rfl bQ
theorem Nk(bD:X.A.handled=none)(aJ:X.A.units+64<aew):gT X (.builtin "sorted") Ww:=by
 intro pins s σ H xs us Q I r h;obtain⟨p,aZ,ks,rfl,aR,aH,hs,q⟩:=h;obtain⟨u,rfl,bH⟩:=vals1 r;cases bH;obtain⟨bo,bq,xs,kt,o,es,bN,h1,h2,h3,h4,h5,h6⟩:=n5 I.bL aR;have BH:=Ie kt aH;have lk:=BD BH;rw[adE]at lk;have le:es.size=xs.length:=by rw[←aeL,h4,adE]
 have aa9:aZ.length=xs.length:=BD kt;have fD:es.toList.map (·.key)=(xs.map (·.2.1)).map adx:=by rw[h4,aek,aek];rfl
 refine LT.X0 (ks:=ks) aJ bD bq ⟨o,h1,h2,h3⟩ (by omega) (by omega) (fun i e k aq aD=>?_) hs fun l h' cb e aS aM g=>?_
 ·have b4:(es.toList.map (·.key))[i]?=some e.key:=by
    rw[ade,aei,aq];rfl
  rw[fD,ade]at b4;obtain⟨b,e4,hh⟩:=Option.map_eq_some_iff.mp b4;rw[←hh];exact R4 I.bL (Ji BH i k b aD e4)
 ·rw[fD]at g;refine⟨.ref l,_,I.laid (a:=l) (t':=cb) aM aS (show eK X.prog X.w _ _ _ (.lst ((xs.map (·.2.1)).map .ref))from⟨by simp;omega,_,e,Y5 _,g⟩),rfl,q l _ (I.bL.fresh aS) BH⟩
end
end a3
namespace bt
open PySem PySem.Spec a3 PyProof.Rows
section
variable{X:aQ}{F:bG}{e a b c:adI}{es:List adI}{pos p:Pos}{m n:aN}{ma:aY}
def hX(G H:ah):ah:=fun b=>match H b with
 |some (.tup xs)=>some (.tup xs)
 |_=>G b
theorem Eo{G H:ah}{b:ada}{xs:List V}(e:H b=some (.tup xs)):hX G H b=some (.tup xs):=by unfold hX;rw[e]
theorem En{G H:ah}{b:ada}(h:jx H b):hX G H b=G b:=by
 unfold hX
 split
 ·rename_i xs e;exact absurd e (h.2 xs)
 ·rfl
theorem Em{G H:ah}(s:Sub G H):Sub G (hX G H):=fun b o e=>by
 unfold hX
 split
 ·rename_i xs z;rw[s b o e]at z;rw[z]
 ·exact e
theorem ME{G H:ah}(s:Sub G H):Sub (hX G H) H:=fun b o e=>by
 unfold hX at e
 split at e
 ·rename_i xs z;rw[z];exact e
 ·exact s b o e
theorem Rel.hX{G H:ah}{σ :a3.St}{ρ:av}(r:Rel F G H σ ρ):Rel F (hX G H) H σ ρ:=r.grow (Em r.aM.sub) (ME r.aM.sub) (Sub.refl _) fun b h=>En h
theorem cq.hX{G H:ah}(s:Sub G H):cq G H (hX G H) H:=⟨Em s,Sub.refl _,fun b h=>En h⟩
def vr(k:Int×Int×Int):D:=.tup [.tup [.int k.1,.int k.2.1],.int k.2.2]
def wg:cx→Option (Int×Int×Int)
 |[.inr [.inl h,.inl d],.inl (.inl a)]=>some (h,d,a)
 |_=>none
noncomputable def pQ:List cx→Option (List (Int×Int×Int))
 |[]=>some []
 |d::ds=>match wg d,pQ ds with
  |some k,some ks=>some (k::ks)
  |_,_=>none
def rV:List (Int×Int×Int)→Bool
 |a::b::r=>LT.jf a b&&rV (b::r)
 |_=>true
theorem R3{d:cx}{k:Int×Int×Int}(h:wg d=some k):d=nq k:=by
 unfold wg at h
 split at h
 ·cases h;rfl
 ·cases h
theorem HU:∀{ds:List cx}{ks:List (Int×Int×Int)},pQ ds=some ks→ds=ks.map nq
 |[],ks,h=>by simp only[pQ]at h;cases h;rfl
 |d::ds,ks,h=>by
  simp only[pQ]at h
  split at h
  ·rename_i k g5 aq aD;cases h;rw[R3 aq,HU aD];rfl
  ·cases h
theorem Ks:∀{ks:List (Int×Int×Int)},rV ks=true→ks.Pairwise fun a b=>LT.jf a b=true
 |[],_=>.nil
 |[_],_=>.cons (fun _ h=>nomatch h) .nil
 |a::b::r,h=>by
  simp only[rV,adF]at h;have bQ:=Ks h.2;refine .cons (fun c aB=>?_) bQ;rcases List.mem_cons.mp aB with rfl|aB
  ·exact h.1
  ·exact LT.Ta _ _ _ h.1 (List.rel_of_pairwise_cons bQ aB)
noncomputable def um:List D→R (List D)
 |[.bx ns _]=>match pQ ns with
  |some ks=>if rV ks then .ok (ks.map vr)else .bad
  |none=>.bad
 |_=>.bad
def tI(m:aY):aY:=fun ρ=>(m ρ).bind um
theorem NC{K:PySem.W.Frag}{G H:ah}{b:ada}{k:Int×Int×Int}(t:g_ H (nq k) b):At K (hX G H) (vr k) (.ref b):=by
 obtain⟨vs,ag,p⟩:=t;cases p with
 |cons d0 t=>
  cases t with
  |cons cD t=>cases t;obtain⟨b,rfl,J⟩:=d0;have cD:_=da (.inl k.2.2):=cD;subst cD;unfold vr;simp only[At,aP];exact⟨_,_,rfl,Eo ag,_,_,rfl,⟨b,_,rfl,Eo J,_,_,rfl,rfl,_,_,rfl,rfl,rfl⟩,_,_,rfl,rfl,rfl⟩
theorem E6{K:PySem.W.Frag}{G H:ah}:∀{ks:List (Int×Int×Int)}{bs:List ada},Paired (fun k b=>g_ H (nq k) b) ks bs→aP K (hX G H) (ks.map vr) (bs.map .ref)
 |_,_,.nil=>.nil
 |_,_,.cons h t=>.cons (NC h) (E6 t)
theorem LQ(bD:X.A.handled=none)(aJ:X.A.units+64<aew)(hm:X.mg "sorted"=none)(ag:fb X F [e] ma)(a5:F.K=X.K:=by rfl)(aO:dM X "sorted":=by rfl)(he:ac5 [e] X.env=(false,aeq e X.env)::ac5 [] X.env:=by rfl)(de:(adR pos (ac5 [] X.env)).any (·.1)=false:=by rfl) :
  iI X F (.Call (.Name "sorted" p) [e] [] pos) (tI ma):=by
 refine⟨a6.imp (xb (Nk bD aJ) aO hm (by kernel_rfl) ag.1 (by decide) (by decide) he de) ?_⟩;rintro σ H Q ⟨G,ρ,r,h⟩;unfold tI at h;refine⟨G,ρ,r,?_⟩;cases aw:ma ρ with
 |bad=>rw[aw]at h;exact h.elim
 |exc c=>rw[aw]at h;exact h
 |ok ds=>
  rw[aw,R.bM]at h;intro vs H1 aW az s1 a;unfold um at h
  split at h
  ·split at h
   ·rename_i ks fD
    split at h
    ·rename_i hs;obtain⟨v,rfl,bp⟩:=a.one;simp only[At]at bp;obtain⟨q,xs,rfl,aR,ax,fU⟩:=bp;refine⟨q,xs,ks,rfl,.inl (az.aM.sub _ _ aR),by rw[ax,HU fD],Ks hs,fun l bs ai Vj=>?_⟩;have bg:=az.hX;exact h l _ _ _ (bg.lay0 ai) ((s1.trans (cq.hX az.aM.sub)).trans (cq.lay0 ai)) (s1.h.gone ai) et (bg.aM.sub.gone ai) (E6 Vj)
    ·exact h.elim
   ·exact h.elim
  ·exact h.elim
end
section
variable{X:aQ}{F:bG}{e a b c:adI}{es:List adI}{pos p:Pos}{m n:aN}{ma:aY}
noncomputable def putN(i:Nat)(ρ:av)(ds:List D)(v:D):Option Nat→R gx
 |some j=>.ok (.bO (ρ.set i (.dj (ds.set j v))))
 |none=>.bad
def putK(i:Nat)(ρ:av)(ds:List D)(v:D):D→R gx
 |.int j=>putN i ρ ds v (mc ds.length j)
 |_=>.bad
noncomputable def Tx(i:Nat)(mk mv:aN):bl:=fun ρ=>(mv ρ).bind fun v=>(ownAt i ρ).bind fun ds=>(mk ρ).bind fun k=>putK i ρ ds v k
noncomputable def MJ(i:Nat)(ρ:av)(b3:List T)(m:aN):Option Nat→R gx
 |some j=>match b3[j]? with
  |some (.lst us)=>(m ρ).bind fun d=>if us.length<1000000 then .ok (.bO (ρ.set i (.eB (.lst (b3.set j (.lst (us++[.aA d])))))))else .bad
  |_=>.bad
 |none=>.bad
def Es(i:Nat)(ρ:av)(b3:List T)(m:aN):D→R gx
 |.int j=>MJ i ρ b3 m (mc b3.length j)
 |_=>.bad
def Tt(i:Nat)(mk m:aN):bl:=fun ρ=>(xX i ρ).bind fun b3=>(mk ρ).bind fun k=>Es i ρ b3 m k
theorem ZJ(i:Nat){x:Str}{p:Pos}(cB:X.N.Nodup)(he:iI X F e ma)(ar:X.N[i]?=some x:=by rfl)(ax:Loc X.env.scope x:=by first|exact aeQ rfl|exact aed rfl)(hs:afB e (some (.Name x p)) pos.line X.env=pure false:=by rfl)(hf:X.fn x=true∨X.env.scope.names.lookup x=some .local:=by first|exact .inl rfl|exact .inr rfl):fB X F (.Assign [.Name x p] e pos) (fG i ma):=⟨dG.imp (ub cB ar ax he.1 hs hf) AP⟩
end
section
variable{P:adp}{w:adJ}{K:PySem.W.Frag}{mg:Str→Option ac1}{base:adX}{N:List Str}{qual:Str}{scope:ae6}{f:ada}{cd:ac1}{A:adG}{outer:List Env}{s0:ac4}{ht:ah}{E:dh}{b8 bK:ah}
end
section
variable{X:aQ}{F:bG}{e:adI}{es:List adI}{pos p:Pos}{ma:aY}
end
section
variable{X:aQ}{F:bG}{e:adI}{pos p:Pos}{m n:aN}{ma:aY}
end
end bt
namespace a3
open PySem PySem.Spec PyProof.Rows
section
variable{X:aQ}{i j:Nat}{x n y:Str}{W:ada}{e:adI}{d_:TE}{E:dh}{M6:aep}{Ye:List aep}{b3:e1}{BE np aS pos py:Pos}
end
end a3
namespace bt
open PySem PySem.Spec a3 PyProof.Rows
section
variable{X:aQ}{F:bG}{pos:Pos}
end
section
variable{X:aQ}{F:bG}{a b:adI}{pos p:Pos}{m n:aN}{ma:aY}
def tG(i:Nat):aY:=fun ρ=>ownAt i ρ
theorem ZG(i:Nat){x:Str}{aT:Pos}(hm:X.mg "list"=none)(cB:X.N[i]?=some x:=by rfl)(bW:iH X.env.scope x:=by first|exact aeQ rfl|exact aed (aeQ rfl)|exact aed (aed rfl))(hd:(x==("__debug__" :Str))=false:=by decide)(en:(x==("__classdict__" :Str))=false:=by decide)(a5:F.K=X.K:=by rfl)(aO:dM X "list":=by rfl)(he:ac5 [.Name x aT] X.env=(false,aeq (.Name x aT) X.env)::ac5 [] X.env:=by rfl)(de:(adR pos (ac5 [] X.env)).any (·.1)=false:=by rfl) :
  iI X F (.Call (.Name "list" p) [.Name x aT] [] pos) (tG i):=by
 refine⟨a6.imp (xc EU aO hm (by kernel_rfl) (kr (lz cB bW hd en) mr he) (by decide) (by decide) he de) ?_⟩;rintro σ H Q ⟨G,ρ,r,h⟩;unfold tG ownAt at h;cases c4:ρ[i]? with
 |none=>rw[c4]at h;exact h.elim
 |some s=>
  rw[c4]at h;cases s with
  |un=>exact h.elim
  |aA _=>exact h.elim
  |eB _=>exact h.elim
  |bf bf=>
   cases bf with
   |bx _ _=>exact h.elim
   |ins _ _ _=>exact h.elim
   |lst ds=>obtain⟨q,xs,aq,h1,h2,h3,h4⟩:=r.own c4;refine⟨.ref q,aq,q,xs,rfl,.inl (b7.of h1),fun l ai=>?_⟩;exact h l xs _ G (r.lay0 ai) ⟨Sub.refl _,Sub.upd ai,fun _ _=>rfl⟩ ai et (r.aM.sub.gone ai) h4
end
end bt
namespace a3
open PySem PySem.Spec PyProof.Rows
section
variable{prog:adp}{w:adJ}{A:adG}{E:ac1→ac4→Prop}{s:ac4}
end
section
variable{X:aQ}{pos:Pos}
end
end a3
namespace bt
open PySem PySem.Spec a3 PyProof.Rows
section
variable{X:aQ}{F:bG}{e:adI}{es:List adI}{pos p:Pos}{m n:aN}{ma:aY}
def tF(sep:Str)(m:aY):aN:=fun ρ=>(m ρ).bind (wc sep)
theorem LG {sep:Str} {j:Nat} {aT apos ct:Pos} (ag:fb X F [e] ma) (a5:F.K=X.K:=by rfl)(iO:aeb (.Constant (.str sep) j aT) "join" X.env (aeq (.Constant (.str sep) j aT) X.env)=aeq (.Constant (.str sep) j aT) X.env:=by rfl) (iR:(apos.endLine==ct.line)=true:=by rfl)(iQ:((adR ct (ac5 [e] X.env)).all (fun x=>!x.1)&&(ae7 ct (aee [] X.env)).all (fun x=>x.1.isSome)
    &&decide (([e]:List adI).length+([]:List ae3).length+(if([]:List ae3).isEmpty then 0 else 1)<30))=true:=by rfl)
  (hs:ac5 [e] X.env=(false,aeq e X.env)::ac5 [] X.env:=by rfl) (iS:(adR ct (ac5 [] X.env)).any (·.1)=false:=by rfl) :
  bb X F (.Call (.Attribute (.Constant (.str sep) j aT) "join" apos) [e] [] ct) (tF sep ma):=by
 refine⟨a6.imp (qa PySem.F.plainAttrs_str PySem.F.slot_str_join PySem.F.type_str_join TX BF ag.1 iO iQ iR hs iS) ?_⟩;rintro σ H Q ⟨G,ρ,r,h⟩;unfold tF at h;refine⟨rfl,G,ρ,r,?_⟩;cases aw:ma ρ with
 |bad=>rw[aw]at h;exact h.elim
 |exc c=>rw[aw]at h;exact h
 |ok ds=>
  rw[aw,R.bM]at h;intro vs H1 aW az s1 bp;unfold wc at h
  split at h
  ·rename_i aX
   split at h
   ·rename_i ys dN
    split at h
    ·rename_i bo;obtain⟨v,rfl,j6⟩:=bp.one;simp only[At]at j6;obtain⟨q,xs,rfl,aR,fU⟩:=j6;refine⟨sep,q,ys,rfl,rfl,?_,bo,h _ H1 aW az s1 (by simp only[At])⟩;rw[←KG fU dN];exact b7.of (az.aM.sub _ _ aR)
    ·exact h.elim
   ·exact h.elim
  ·exact h.elim
theorem Q0{bY mt:Str}{mf:List D→R b6}{C:ada}{E:dh}(ax:F.hW=fun _ _=>False)(hK:gu F.K bY C):eR (cZ F (mj bY mt 0 mf m aC)) (xS C mt (lE F.K (0+1) mf) [] E (cZ F m) xT):=by
 rintro σ H Q ⟨G,ρ,r,h⟩;unfold mj at h;refine⟨G,ρ,r,?_⟩;cases aw:m ρ with
 |bad=>rw[aw]at h;exact h.elim
 |exc c=>rw[aw]at h;exact h
 |ok d=>
  rw[aw,R.bM]at h;intro x H1 aW az s1 b9;cases d with
  |ins ey ns ds=>
   simp only[qe]at h
   split at h
   ·rename_i aB;obtain⟨sW,ke⟩:=aB;subst sW;have yS:=b9;simp only[At]at b9;obtain⟨q,a8,xs,rfl,⟨lT,b0,g1⟩,rfl,al⟩:=b9;have:=b0.inj hK;subst this;refine⟨q,a8,xs,rfl,az.aM.sub _ _ g1,A_ ke,?_⟩;rw[R.bM]at h;have h:ib F G H σ ρ Q ((mf [.ins ey (xs.map (·.1)) ds]).bind iZ):=h;show lE F.K (0+1) mf ([V.ref q]++[]) H1 Q E;rw[ael];exact Kq (xe:=fun _ _ _=>False) ax az (.cons yS .nil) (by simp) (h.mono s1)
   ·exact h.elim
  |_=>exact h.elim
theorem Zq {o:adI} {bY mt:Str} {k:Nat} {mf:List D→R b6} {pl:Sem Bool} {apos:Pos} (c:o2 X.prog X.w X.K X.mg X.base bY mt 0 k mf) (au:dW k X.A) (he:bb X F o m) (h_:F.hW=fun _ _=>False:=by rfl) (a5:F.K=X.K:=by rfl)(bT:aeq (.Call (.Attribute o mt apos) [] [] pos) X.env=(do
    let fQ ←aeq o X.env
    ai1 apos.atName
    let(f,first) ←aiC [fQ] (ag4 fQ mt pl)
    aiR pos f first (adR pos (ac5 [] X.env)) (ae7 pos (aee [] X.env))):=by rfl) :
  bb X F (.Call (.Attribute o mt apos) [] [] pos) (mj bY mt 0 mf m aC):=by
 obtain⟨C,f,fd,ps,b0,c9,e2,iL,J⟩:=c.ex;refine⟨a6.imp (VE (pl:=pl) he.1 c9 e2 iL au J .nil t_ bT) ?_⟩;rw[←a5];exact Q0 h_ (by rw[a5];exact b0)
end
end bt
namespace a3
open PySem PySem.Spec PyProof.Rows
abbrev yf(h:adX)(x:Str)(t:Tok):adX:=h.push { cls:=.type (ad1 x),data:=.fields #[.str x t,.int 0 0] }
abbrev yg(h:adX)(x:Str)(t:Tok)(cK:Str)(cy:Tok):adX:=(yf h x t).push { cls:=.type (ad1 cK),data:=.fields #[.str cK cy,.int 0 0] }
abbrev yh(h:adX)(x:Str)(t:Tok)(cK:Str)(cy:Tok):adX:=(yg h x t cK cy).push { cls:=.type "tuple",data:=.seq #[.ref h.objs.size,.ref (yf h x t).objs.size] }
abbrev yi(h:adX)(x:Str)(t:Tok)(cK:Str)(cy:Tok):adX:=(yh h x t cK cy).push { cls:=.type "tuple",data:=.seq #[.none,.none] }
abbrev qx(h:adX)(x:Str)(t:Tok)(cK:Str)(cy:Tok):adX:=(yi h x t cK cy).push { cls:=.type "zip",data:=.fields #[.none,.bool false,.bool false,.ref (yg h x t cK cy).objs.size,.ref (yh h x t cK cy).objs.size] }
set_option maxHeartbeats 4000000 in
theorem TL(x:Str)(t:Tok)(cK:Str)(cy:Tok) :
  Meets (ahb.«zip.__new__» ⟨[.type "zip",.str x t,.str cK cy],[]⟩) (fun _ R s=>R (.ok (.ret (.ref (yi s.heap x t cK cy).objs.size))) { s with heap:=qx s.heap x t cK cy }):=
 .of_wp fun prog w A R s h=>by
   obtain⟨aS,g,d,cb,os⟩:=s;have l_:=sub_zip
   wp_walk using ag6
   exact⟨_,rfl,h⟩
theorem Nn {prog:adp} {w:adJ} {A:adG} {E:ac1→ac4→Prop} {s:ac4} {x:Str} {t:Tok} {cK:Str} {cy:Tok} {Q:ac1→ac4→Prop}(h:∀h',ahZ h' (s.heap.objs.size+4) (s.heap.objs.size+2) (s.heap.objs.size+3) .none→afc h' (s.heap.objs.size+2) (.ref s.heap.objs.size) (.ref (s.heap.objs.size+1))→
    afc h' (s.heap.objs.size+3) .none .none→h'.IsStrIter s.heap.objs.size (ad1 x) x t 0→h'.IsStrIter (s.heap.objs.size+1) (ad1 cK) cK cy 0→h'.objs.size=s.heap.objs.size+5→
    (∀c o,s.heap.get? c=some o→h'.get? c=some o)→Q (.ref (s.heap.objs.size+4)) { s with heap:=h' }) :
  adm (adu prog w) A (call (.type "zip") [.str x t,.str cK cy]) Q E s:=by
 refine callType_new F.called_zip (by decide) (F.typeCall_zip_2 _ _) (F.newCall_zip_2 _ _) (fun obj=>F.args_object_init_3 obj _ _) F.entry_zip_new (TL x t cK cy) ?_;have bu:(yf s.heap x t).objs.size=s.heap.objs.size+1:=adK ..;have a9:(yg s.heap x t cK cy).objs.size=s.heap.objs.size+2:=by rw[adK,bu]
 have ju:(yh s.heap x t cK cy).objs.size=s.heap.objs.size+3:=by rw[adK,a9]
 have nI:(yi s.heap x t cK cy).objs.size=s.heap.objs.size+4:=by rw[adK,ju]
 have DU:(qx s.heap x t cK cy).objs.size=s.heap.objs.size+5:=by rw[adK,nI]
 have l4:(qx s.heap x t cK cy).get? (yi s.heap x t cK cy).objs.size=some _:=ac9 _ rfl;have jD:(qx s.heap x t cK cy).get? (yh s.heap x t cK cy).objs.size=some _:=ac0 _ (ac9 _ rfl);have g3:(qx s.heap x t cK cy).get? (yg s.heap x t cK cy).objs.size=some _:=ac0 _ (ac0 _ (ac9 _ rfl));have g2:(qx s.heap x t cK cy).get? (yf s.heap x t).objs.size=some _:=ac0 _ (ac0 _ (ac0 _ (ac9 _ rfl)));have g1:(qx s.heap x t cK cy).get? s.heap.objs.size=some _:=ac0 _ (ac0 _ (ac0 _ (ac0 _ (ac9 _ rfl))));show _∧_;rw[a9,ju,nI]at l4;rw[bu,a9]at g3;rw[ju]at jD;rw[bu]at g2;rw[nI];exact⟨⟨_,l4,rfl⟩,h _ l4 g3 jD ⟨_,g1,rfl,rfl⟩ ⟨_,g2,rfl,rfl⟩ DU fun c o x=>
  ac0 _ (ac0 _ (ac0 _ (ac0 _ (ac0 _ x))))⟩
noncomputable def yA(x cK:Str):It:=⟨fun i _=>i<x.cps.size∧i<cK.cps.size,
 fun i H v H'=>∃p c c9,x.cps[i]?=some c∧cK.cps[i]?=some c9∧H p=none∧H'=upd H p (.tup [.str ⟨#[c]⟩,.str ⟨#[c9]⟩])∧v=.ref p,
 fun i _=>i=min x.cps.size cK.cps.size⟩
theorem YM{P:adp}{w:adJ}{K:PySem.W.Frag}{elts:List adI}{kk:Nat}{pos:Pos}(x:Str)(t:Tok)(cK:Str)(cy:Tok)(z TI bX bA bI:ada)(ap:yI z TI bX bA bI) :
  Turn P w K (.Tuple elts kk pos) (yA x cK) [z,TI,bX,bA,bI] z (fun i h=>ahZ h z TI bX .none∧afc h TI (.ref bA) (.ref bI)∧(∃a b,afc h bX a b)∧h.IsStrIter bA (ad1 x) x t i∧h.IsStrIter bI (ad1 cK) cK cy i) where
 mem:=by simp
 obj:=fun i h st b J=>by
  obtain⟨bo,fv,⟨a,eN,fP⟩,⟨cQ,aq,b0,d1⟩,b_,aD,c9,cF⟩:=st;have J:b=z∨b=TI∨b=bX∨b=bA∨b=bI:=by simpa using J
  rcases J with q|q|q|q|q<;>subst q
  ·exact⟨_,bo,fun v z=>by have fA:aiD _=agy v:=z;cases fA⟩
  ·exact⟨_,fv,fun v z=>by have fA:aje _ _=agy v:=z;cases fA⟩
  ·exact⟨_,fP,fun v z=>by have fA:aje _ _=agy v:=z;cases fA⟩
  ·exact⟨cQ,aq,fun v z=>by rw[d1]at z;cases z⟩
  ·exact⟨b_,aD,fun v z=>by rw[cF]at z;cases z⟩
 keep:=fun i h h' st k=>by obtain⟨bo,fv,⟨a,eN,fP⟩,⟨cQ,aq,az⟩,b_,aD,bg⟩:=st;exact⟨k z (by simp) _ bo,k TI (by simp) _ fv,⟨a,eN,k bX (by simp) _ fP⟩,⟨cQ,k bA (by simp) _ aq,az⟩,b_,k bI (by simp) _ aD,bg⟩
 item:=by
  intro X dH hw a5 aB i pins s σ H E I hf st aO;subst dH hw a5;obtain⟨ar,PC⟩:=aO;obtain⟨bo,fv,⟨a,eN,fP⟩,m8,eU⟩:=st;have bD:X.A.in1.handled=none:=I.ok.hd aB;have gv:=qS (prog:=X.prog) (w:=X.w) (A:=X.A.in1) bD bA x t;have f6:=qS (prog:=X.prog) (w:=X.w) (A:=X.A.in1) bD bI cK cy
  have lZ:nW z TI bX bA bI [bA] [bI]:=⟨ap.TIz,ap.TOz,ap.TITO,ap.TIi1,ap.TIi2,ap.TOi1,ap.TOi2,ap.i1z,ap.i2z,ap.i12,by simpa using ap.i1z.symm,by simpa using ap.TOi1,by simpa using ap.i12.symm,
   by simpa using ap.i2z.symm,by simpa using ap.TOi2,by simpa using ap.i12⟩
  refine JI gv f6 lZ bo fv fP m8 eU ar PC fun oS hS h' cb d0 cD a1 a2 eM gX hG i9 aH=>?_;obtain⟨c,t1,Ap,rfl⟩:=d0;obtain⟨c9,t3,Po,rfl⟩:=cD;refine⟨_,rfl,?_⟩;refine agX a1 fun h2 AM jG=>?_;have C5:∀b∈[z,TI,bX,bA,bI],b<s.heap.objs.size:=fun b J=>by
   have J:b=z∨b=TI∨b=bX∨b=bA∨b=bI:=by simpa using J
   obtain⟨cQ,aq,_⟩:=m8;obtain⟨b_,aD,_⟩:=eU;rcases J with q|q|q|q|q<;>subst q
   ·exact ac_ bo
   ·exact ac_ fv
   ·exact ac_ fP
   ·exact ac_ aq
   ·exact ac_ aD
  have tX:∀b∈[z,TI,bX,bA,bI],b≠s.heap.objs.size:=fun b J=>ady (C5 b J);have keep:∀b o,b∉[z,bX,bA,bI]→s.heap.get? b=some o→h2.get? b=some o:=fun b o J q=>by have J:¬(b=z∨b=bX∨b=bA∨b=bI):=fun w=>J (by simpa using w);exact jG.extBut b o (fun w=>J (.inl w)) (aH b o (fun w=>J (.inl w)) (fun w=>J (.inr (.inl w))) (fun w=>J (.inr (.inr (.inl w)))) (fun w=>J (.inr (.inr (.inr w)))) q)
  have tc:afR h2 s.heap.objs.size ([.str ⟨#[c]⟩ t1,.str ⟨#[c9]⟩ t3]:List ac1).toArray:=⟨_,jG.extBut _ _ (tX z (by simp)).symm hG,rfl,_,rfl⟩;have aK:H s.heap.objs.size=none:=I.bL.fresh (ac6 _);have ck:Inv X pins σ (upd H s.heap.objs.size (.tup [.str ⟨#[c]⟩,.str ⟨#[c9]⟩])) { s with heap:=h2,toks:=cb }:=I.Dq (its:=[.str ⟨#[c]⟩ t1,.str ⟨#[c9]⟩ t3]) (ch:=[z,bX,bA,bI]) keep (fun b J=>hf b (by
   have J:b=z∨b=bX∨b=bA∨b=bI:=by simpa using J
   rcases J with q|q|q|q<;>simp[q])) (ac6 _) tc (.cons ⟨t1,rfl⟩ (.cons ⟨t3,rfl⟩ .nil)) (by show 2≤adq;decide)
  refine⟨.ref s.heap.objs.size,_,ck,rfl,⟨s.heap.objs.size,c,c9,Ap,Po,aK,rfl,rfl⟩,?_,fun b J=>?_⟩
  ·refine⟨AM,jG.extBut _ _ ap.TIz (aH _ _ ap.TIz ap.TITO ap.TIi1 ap.TIi2 fv),⟨_,_,jG.extBut _ _ ap.TOz a2⟩,?_,?_⟩
   ·obtain⟨cQ,aq,az⟩:=eM;exact⟨cQ,jG.extBut _ _ ap.i1z aq,az⟩
   ·obtain⟨b_,aD,bg⟩:=gX;exact⟨b_,jG.extBut _ _ ap.i2z aD,bg⟩
  ·rw[dV (tX b J)];exact(hf b J).1
 done:=by
  intro X dH hw a5 aB i pins s σ H E I hf st aO;subst dH hw a5;have ar:i=min x.cps.size cK.cps.size:=aO;obtain⟨bo,fv,⟨a,eN,fP⟩,m8,eU⟩:=st;have bD:X.A.in1.handled=none:=I.ok.hd aB;have gv:=qS (prog:=X.prog) (w:=X.w) (A:=X.A.in1) bD bA x t;have f6:=qS (prog:=X.prog) (w:=X.w) (A:=X.A.in1) bD bI cK cy
  have lZ:nW z TI bX bA bI [bA] [bI]:=⟨ap.TIz,ap.TOz,ap.TITO,ap.TIi1,ap.TIi2,ap.TOi1,ap.TOi2,ap.i1z,ap.i2z,ap.i12,by simpa using ap.i1z.symm,by simpa using ap.TOi1,by simpa using ap.i12.symm,
   by simpa using ap.i2z.symm,by simpa using ap.TOi2,by simpa using ap.i12⟩
  refine JH gv f6 lZ bo fv fP m8 eU ?_ fun h' cb kk=>⟨rfl,I.uA (ch:=[z,bX,bA,bI]) (fun b o J q=>?_) fun b J=>hf b ?_⟩
  ·omega
  ·have J:¬(b=z∨b=bX∨b=bA∨b=bI):=fun w=>J (by simpa using w);exact kk b o (fun w=>J (.inl w)) (fun w=>J (.inr (.inl w))) (fun w=>J (.inr (.inr (.inl w)))) (fun w=>J (.inr (.inr (.inr w)))) q
  ·have J:b=z∨b=bX∨b=bA∨b=bI:=by simpa using J
   rcases J with q|q|q|q<;>simp[q]
 self:=fun A i s Q E st h=>agh st.1 h
section
variable{X:aQ}{elts:List adI}{kk:Nat}{qj:Pos}
def Hv(cf:eL):TI:=fun σ H R=>cf σ H fun vs H1=>∃x cK,vs=[.str x,.str cK]∧R (yA x cK) H1
theorem VQ{a b:adI}{cf:eL}{p pos:Pos}(aO:dM X "zip")(hm:X.mg "zip"=none)(ag:fk X [a,b] cf)(hs:ac5 [a,b] X.env=[(false,aeq a X.env),(false,aeq b X.env)]:=by rfl)(eU:ac5 [b] X.env=[(false,aeq b X.env)]:=by rfl) :
  f9 X (.Tuple elts kk qj) (.Call (.Name "zip" p) [a,b] [] pos) (Hv cf):=by
 have J:aer "zip"=some (.type "zip"):=by kernel_rfl
 intro pins s σ H R I h;refine agN (m9 I aO hm J (adP (bZ (ag pos pins s σ H _ I h) fun us s1⟨vs,H1,a0,az,aV⟩=>?_) (by rw[hs,eU]) (by rw[eU];rfl)));obtain⟨x,cK,e,q⟩:=aV;subst e;obtain⟨u,hS,rfl,⟨t,rfl⟩,⟨cy,rfl⟩⟩:=vals2 az;refine Nn fun h' a1 a2 eM gX hG i9 aH=>?_;have ck:Inv X pins σ H1 { s1 with heap:=h' }:=a0.kept (t':=s1.toks) aH;refine agh a1 ?_;refine⟨s1.heap.objs.size+4,[s1.heap.objs.size+4,s1.heap.objs.size+2,s1.heap.objs.size+3,s1.heap.objs.size,s1.heap.objs.size+1],_,_,H1,rfl,ck,YM x t cK cy _ _ _ _ _ (L5 s1.heap.objs.size),⟨a1,a2,⟨_,_,eM⟩,gX,hG⟩,fun b J=>?_,q⟩;have J:s1.heap.objs.size≤b:=by
  have J:b=s1.heap.objs.size+4∨b=s1.heap.objs.size+2∨b=s1.heap.objs.size+3∨b=s1.heap.objs.size∨b=s1.heap.objs.size+1:=by simpa using J
  rcases J with q|q|q|q|q
  ·rw[q];exact ad5 _ _
  ·rw[q];exact ad5 _ _
  ·rw[q];exact ad5 _ _
  ·rw[q];exact ac6 _
  ·rw[q];exact ad5 _ _
 exact a0.mW J (a0.bL.fresh J)
end
end a3
namespace bt
open PySem PySem.Spec a3 PyProof.Rows
section
variable{X:aQ}{F:bG}{a b:adI}{pos p:Pos}{ma:aY}
def qv(xs ys:List Nat):List D:=(xs.zip ys).map fun p=>.tup [dX p.1,dX p.2]
def DW:List D→R (List D)
 |[.str x,.str y]=>.ok (qv x.cps.toList y.cps.toList)
 |_=>.bad
theorem RL{K:PySem.W.Frag}{G:ah}{x y:Str}:kL K (yA x y) (qv x.cps.toList y.cps.toList) G where
 go:=fun i H s ar=>by
  have ar:i<min x.cps.size y.cps.size:=by simpa[qv]using ar
  exact⟨by omega,by omega⟩
 i2:=fun i H v H' s ar z=>by
  obtain⟨p,c,c9,aB,ke,aS,rfl,rfl⟩:=z;refine⟨.tup [dX c,dX c9],?_,.inr ⟨p,_,_,aS,rfl,rfl,rfl,.cons (by unfold dX;simp only[At]) (.cons (by unfold dX;simp only[At]) .nil)⟩⟩;unfold qv;rw[ade];have z6:(x.cps.toList.zip y.cps.toList)[i]?=some (c,c9):=by rw[agY];exact⟨by rw[aei];exact aB,by rw[aei];exact ke⟩
  rw[z6];rfl
 stop:=fun H s=>by show _=_;simp[qv]
def tE(m:aY):aY:=fun ρ=>(m ρ).bind DW
theorem Rn:nO (kB F (tE ma)) (Hv (eE F ma)):=by
 rintro σ H Q ⟨G,ρ,r,h⟩;unfold tE at h;refine⟨G,ρ,r,?_⟩;cases aw:ma ρ with
 |bad=>rw[aw]at h;exact h.elim
 |exc c=>rw[aw]at h;exact h
 |ok ds=>
  rw[aw,R.bM]at h;intro vs H1 aW az s1 al;unfold DW at h
  split at h
  ·rename_i x y;obtain⟨v,w,rfl,bp,j6⟩:=al.two;simp only[At]at bp j6;subst bp j6;exact⟨x,y,rfl,h _ H1 aW az s1 RL⟩
  ·exact h.elim
theorem ZO{elts:List adI}{k:Nat}{ux:Pos}(hm:X.mg "zip"=none)(ag:fb X F [a,b] ma)(aO:dM X "zip":=by rfl)(hs:ac5 [a,b] X.env=[(false,aeq a X.env),(false,aeq b X.env)]:=by rfl)(eU:ac5 [b] X.env=[(false,aeq b X.env)]:=by rfl) :
  lY X F (.Tuple elts k ux) (.Call (.Name "zip" p) [a,b] [] pos) (tE ma):=⟨f9.imp (VQ aO hm ag.1 hs eU) Rn⟩
end
end bt
namespace bt
open PySem PySem.Spec a3
section
variable{K:PySem.W.Frag}{G G':ah}
end
section
variable{F:bG}
end
section
variable{X:aQ}{F:bG}{e:adI}
end
section
variable{K:PySem.W.Frag}{b8 bK:ah}{E:dh}
end
section
variable{X:aQ}{e:adI}{K:PySem.W.Frag}{b8 bK:ah}{E:dh}{m:aN}
end
section
variable{F:bG}
end
section
variable{X:aQ}{F:bG}{e o:adI}{es:List adI}{pos:Pos}{ma:aY}{m n:aN}
end
end bt
namespace bt
open PySem PySem.Spec a3 PyProof.Rows
section
variable{X:aQ}{F:bG}{e:adI}{es:List adI}{pos p:Pos}{ma:aY}
end
end bt
namespace bt
open PySem PySem.Spec a3
@[simp] theorem dO{α β:Type}(a:α)(k:α→R β):(R.ok a).bind k=k a:=(rfl)
@[simp] theorem acU{α β:Type}(k:α→R β):(R.bad:R α).bind k=.bad:=(rfl)
@[simp] theorem acV{α β:Type}(c:Str)(k:α→R β):(R.exc c:R α).bind k=.exc c:=(rfl)
def ig(b:bl):gx→R gx
 |.bO ρ=>b ρ
 |f=>.ok f
@[simp] theorem oT(a b:bl)(ρ:av):a4 a b ρ=(a ρ).bind (ig b):=by unfold a4;congr 1
@[simp] theorem xF(b:bl)(ρ:av):ig b (.bO ρ)=b ρ:=(rfl)
@[simp] theorem abF(b:bl)(d:D):ig b (.dJ d)=.ok (.dJ d):=(rfl)
@[simp] theorem abE(b:bl)(d:List D):ig b (.jn d)=.ok (.jn d):=(rfl)
def xo:Option dc→R D
 |some (.aA d)=>.ok d
 |_=>.bad
@[simp] theorem v_var(i:Nat)(ρ:av):U i ρ=xo ρ[i]?:=by unfold U xo;rfl
@[simp] theorem abt(d:D):xo (some (.aA d))=.ok d:=(rfl)
@[simp] theorem Ds(d:D)(ρ:av):ao d ρ=.ok d:=(rfl)
@[simp] theorem YY(f:D→D→R D)(a b:aN)(ρ:av):aj f a b ρ=(a ρ).bind fun x=>(b ρ).bind fun y=>f x y:=(rfl)
@[simp] theorem acP(f:D→R D)(a:aN)(ρ:av):dI f a ρ=(a ρ).bind f:=(rfl)
@[simp] theorem qm(ρ:av):aC ρ=.ok []:=(rfl)
@[simp] theorem r0(a:aN)(r:aY)(ρ:av):ae a r ρ=(a ρ).bind fun x=>(r ρ).bind fun xs=>.ok (x::xs):=(rfl)
def rZ(xs:List D):R D:=if xs.length≤1000000 then .ok (.tup xs)else .bad
@[simp] theorem Lk(m:aY)(ρ:av):cU m ρ=(m ρ).bind rZ:=(rfl)
@[simp] theorem abM{xs:List D}(h:xs.length≤1000000):rZ xs=.ok (.tup xs):=if_pos h
@[simp] theorem Lj(m:aY)(ρ:av):cN m ρ=(m ρ).bind fun xs=>.ok (.lst xs):=(rfl)
@[simp] theorem Y1(m:aY)(ρ:av):ez m ρ=(m ρ).bind lim:=(rfl)
@[simp] theorem YX(m:aN)(ρ:av):a_ m ρ=(m ρ).bind i_:=(rfl)
@[simp] theorem Z_(b:Bool):i_ (.aF b)=.ok b:=(rfl)
@[simp] theorem v_and(a b:cH)(ρ:av):iV a b ρ=(a ρ).bind fun c=>if c=true then b ρ else .ok false:=(rfl)
@[simp] theorem v_or(a b:cH)(ρ:av):eP a b ρ=(a ρ).bind fun c=>if c=true then .ok true else b ρ:=(rfl)
@[simp] theorem v_not(a:cH)(ρ:av):d7 a ρ=(a ρ).bind fun c=>.ok (!c):=(rfl)
@[simp] theorem abR(a b:aN)(ρ:av):iW a b ρ=(a ρ).bind fun x=>(i_ x).bind fun c=>if c=true then b ρ else .ok (.aF false):=(rfl)
@[simp] theorem Y0(c:cH)(a b:bl)(ρ:av):cu c a b ρ=(c ρ).bind fun k=>if k=true then a ρ else b ρ:=(rfl)
@[simp] theorem acu(ρ:av):cC ρ=.ok (.bO ρ):=(rfl)
@[simp] theorem acF(a:aN)(ρ:av):b2 a ρ=(a ρ).bind fun d=>.ok (.dJ d):=(rfl)
@[simp] theorem acG(a:aY)(ρ:av):jj a ρ=(a ρ).bind fun d=>.ok (.jn d):=(rfl)
@[simp] theorem Y4(i:Nat)(d:D)(ρ:av):br i d ρ=if i<ρ.length then .ok (ρ.set i (.aA d))else .bad:=(rfl)
@[simp] theorem acH(i:Nat)(a:aN)(ρ:av):cT i a ρ=(a ρ).bind fun d=>(br i d ρ).bind fun bJ=>.ok (.bO bJ):=(rfl)
@[simp] theorem Y3(i:Nat)(a:aY)(ρ:av):fG i a ρ=(a ρ).bind fun ds=>if i<ρ.length then .ok (.bO (ρ.set i (.dj ds)))else .bad:=(rfl)
@[simp] theorem acI(i:Nat)(a:gz)(ρ:av):rA i a ρ=(a ρ).bind fun x=>(br i x.1 x.2).bind fun bJ=>.ok (.bO bJ):=(rfl)
@[simp] theorem ab8(a:gz)(ρ:av):nf a ρ=(a ρ).bind fun x=>.ok (.bO x.2):=(rfl)
@[simp] theorem ab1(f:List D→R D)(m:aY)(ρ:av):cM f m ρ=(m ρ).bind f:=(rfl)
@[simp] theorem abW(n:Nat)(mf:List D→R b6)(m:aY)(ρ:av):b5 n mf m ρ=(m ρ).bind fun ds=>if ds.length=n then(mf ds).bind iZ else .bad:=(rfl)
@[simp] theorem YZ(n:Nat)(mf:List D→R b6)(m:aY)(ρ:av):jO n mf m ρ=(m ρ).bind fun ds=>if ds.length=n then(mf ds).bind BV else .bad:=(rfl)
theorem Li(mi:aY)(set:D→av→R av)(body:bl)(ρ:av):d6 mi set body ρ=(mi ρ).bind fun ds=>fm set body ds ρ:=(rfl)
@[simp] theorem acE(m:aY)(ρ:av):fZ m ρ=(m ρ).bind oH:=(rfl)
@[simp] theorem uD(m:aN)(ρ:av):ep m ρ=(m ρ).bind CW:=(rfl)
@[simp] theorem v_bor(m:aN)(ρ:av):nc m ρ=(m (eT ρ)).bind t8:=(rfl)
@[simp] theorem abV(m:cH)(ρ:av):jh m ρ=m (eT ρ):=(rfl)
theorem Lh(nl:Nat)(caps:List Nat)(mi:aY)(set:D→av→R av)(tst:cH)(elt:aN)(ρ:av):dx nl caps mi set tst elt ρ=(mi ρ).bind fun ds=>gL (gg set tst elt ds (l0 nl caps ρ) []):=(rfl)
@[simp] theorem Z8(i j:Int):fs (.int i) (.int j)=.ok (.int (i+j)):=(rfl)
@[simp] theorem abH(i j:Int):kA (.int i) (.int j)=.ok (.int (i-j)):=(rfl)
@[simp] theorem abf{i j:Int}(h1: -18446744073709551616<i)(h2:i<18446744073709551616):ll (.int i) (.int j)=.ok (.int (i*j)):=if_pos (aeQ ⟨h1,h2⟩)
@[simp] theorem mul_r{i j:Int}(h1: -18446744073709551616<j)(h2:j<18446744073709551616):ll (.int i) (.int j)=.ok (.int (i*j)):=if_pos (aed ⟨h1,h2⟩)
@[simp] theorem aam{i j:Int}(h1:0<j)(h2:j<1073741824):hZ (.int i) (.int j)=.ok (.int (i/j)):=if_pos ⟨h1,h2⟩
@[simp] theorem abe{i j:Int}(h:0<j):eA (.int i) (.int j)=.ok (.int (i%j)):=if_pos h
@[simp] theorem abr{i:Int}{j:Nat}(h:j≤1000000)(h1: -1000000<i)(h2:i<1000000):lA (.int i) (.int (j:Int))=.ok (.int (i^j)):=by have:sb i (j:Int):=⟨by omega,by omega,by omega⟩;simp only[lA,jM,if_pos this,aev]
theorem V2:lA (.int 10) (.int 6)=.ok (.int 1000000):=(rfl)
theorem V1:lA (.int 10) (.int 30)=.ok (.int 1000000000000000000000000000000):=(rfl)
@[simp] theorem aa8(i j:Int):pU (.int i) (.int j)=.ok (.aF (decide (i<j))):=(rfl)
@[simp] theorem aa1(i j:Int):la (.int i) (.int j)=.ok (.aF (decide (i≤j))):=(rfl)
@[simp] theorem aax(i j:Int):oc (.int i) (.int j)=.ok (.aF (decide (j<i))):=(rfl)
@[simp] theorem aaj(i j:Int):cw true (.int i) (.int j)=.ok (.aF (i==j)):=(rfl)
@[simp] theorem abg(i j:Int):cw false (.int i) (.int j)=.ok (.aF (!(i==j))):=(rfl)
@[simp] theorem aa2(xs:List D):dC [.lst xs]=.ok (.int xs.length):=(rfl)
@[simp] theorem aa4(xs:List D):dC [.tup xs]=.ok (.int xs.length):=(rfl)
@[simp] theorem aa3(xs:List D):dC [.cJ xs]=.ok (.int xs.length):=(rfl)
@[simp] theorem aby(d:D):iZ (.v d)=.ok d:=(rfl)
@[simp] theorem abw(ds:List D):iZ (.o ds)=.ok (.lst ds):=(rfl)
@[simp] theorem WQ(ds:List D):BV (.o ds)=.ok ds:=(rfl)
@[simp] theorem abp(d:D):outD (.dJ d)=.ok (.v d):=(rfl)
@[simp] theorem abo(d:List D):outD (.jn d)=.ok (.o d):=(rfl)
@[simp] theorem uC(N:Nat)(m:bl)(ds:List D):cY N m ds=(m (k8 N ds)).bind outD:=(rfl)
def w9:Option dc→R (List D)
 |some (.dj ds)=>.ok ds
 |_=>.bad
@[simp] theorem Y2(i:Nat)(ρ:av):ownAt i ρ=w9 ρ[i]?:=by unfold ownAt w9;rfl
@[simp] theorem abq(ds:List D):w9 (some (.dj ds))=.ok ds:=(rfl)
@[simp] theorem aan(set:D→av→R av)(body:bl)(ρ:av):fm set body [] ρ=.ok (.bO ρ):=(rfl)
theorem GB{set:D→av→R av}{body:bl}(I:Nat→av→Prop):∀(ds:List D)(i:Nat)(ρ:av),(∀(j:Nat) d ρ,ds[j]?=some d→I (i+j) ρ→∃ea bJ,set d ρ=.ok ea∧body ea=.ok (.bO bJ)∧I (i+j+1) bJ)→I i ρ→∃bJ,fm set body ds ρ=.ok (.bO bJ)∧I (i+ds.length) bJ
 |[],i,ρ,_,h=>⟨ρ,rfl,h⟩
 |d::ds,i,ρ,st,h=>by
  obtain⟨ea,ew,aq,aD,h2⟩:=st 0 d ρ rfl h;obtain⟨bJ,b4,h3⟩:=GB I ds (i+1) ew (fun j d ρ e ar=>by obtain⟨a,b,b0,c9,e2⟩:=st (j+1) d ρ (by simpa using e) (by rw[show i+(j+1)=i+1+j by omega];exact ar);exact⟨a,b,b0,c9,by rw[show i+1+j+1=i+(j+1)+1 by omega];exact e2⟩) (by simpa using h2)
  refine⟨bJ,?_,by rw[adl,show i+(ds.length+1)=i+1+ds.length by omega];exact h3⟩;rw[fm,aq,dO,aD,dO];exact b4
theorem GA{mi:aY}{set:D→av→R av}{body:bl}{ds:List D}{ρ:av}(I:Nat→av→Prop)(ar:mi ρ=.ok ds)(st:∀(j:Nat) d ρ,ds[j]?=some d→I j ρ→∃ea bJ,set d ρ=.ok ea∧body ea=.ok (.bO bJ)∧I (j+1) bJ)(h:I 0 ρ):∃bJ,d6 mi set body ρ=.ok (.bO bJ)∧I ds.length bJ:=by obtain⟨bJ,e,h'⟩:=GB I ds 0 ρ (fun j d ρ e cz=>by rw[ajb]at cz ⊢;exact st j d ρ e cz) h;rw[ajb]at h';exact⟨bJ,by rw[Li,ar,dO,e],h'⟩
@[simp] theorem aac(d:D):gZ (.aA d)=.aA d:=(rfl)
noncomputable def yP(i:Nat)(ρ:av)(ds:List D)(d:D):R gx:=if ds.length<1000000 then .ok (.bO (ρ.set i (.dj (ds++[d]))))else .bad
@[simp] theorem Z9{i:Nat}{ρ:av}{ds:List D}{d:D}(h:ds.length<1000000):yP i ρ ds d=.ok (.bO (ρ.set i (.dj (ds++[d])))):=if_pos h
@[simp] theorem abS(i:Nat)(m:aN)(ρ:av):hP i m ρ=(ownAt i ρ).bind fun ds=>(m ρ).bind fun d=>yP i ρ ds d:=(rfl)
@[simp] theorem abU(i:Nat)(m:gz)(ρ:av):wz i m ρ=(ownAt i ρ).bind fun _=>(m ρ).bind fun x=>(ownAt i x.2).bind fun ds=>yP i x.2 ds x.1:=(rfl)
@[simp] theorem aci(m:aN)(ρ:av):lf m ρ=(m ρ).bind fun d=>.ok (d,ρ):=(rfl)
@[simp] theorem acj(m:aY)(ρ:av):tr m ρ=(m ρ).bind fun d=>.ok (d,ρ):=(rfl)
@[simp] theorem ab3(a:gz)(r:j2)(ρ:av):rq a r ρ=(a ρ).bind fun x=>(r x.2).bind fun y=>.ok (x.1::y.1,y.2):=(rfl)
@[simp] theorem acO(m:j2)(ρ:av):rB m ρ=(m ρ).bind fun x=>(rZ x.1).bind fun d=>.ok (d,x.2):=by
  unfold rB rZ
  congr 1;funext x
  split<;>rfl
noncomputable def Ft(i:Nat)(ds:List D)(ρ:av):D→R (D×av)
 |.lst es=>if ds.length+es.length≤1000000 then .ok (.non,ρ.set i (.dj (ds++es)))else .bad
 |_=>.bad
@[simp] theorem ab9(i:Nat)(m:aN)(ρ:av):rr i m ρ=(ownAt i ρ).bind fun ds=>(m ρ).bind fun d=>Ft i ds ρ d:=by unfold rr;congr 1
@[simp] theorem aal{i:Nat}{ds es:List D}{ρ:av}(h:ds.length+es.length≤1000000):Ft i ds ρ (.lst es)=.ok (.non,ρ.set i (.dj (ds++es))):=if_pos h
noncomputable def xh(i:Nat)(ds:List D)(ρ:av):D→R (D×av)
 |.int k=>if-(2^63)≤k∧k<2^63 then match ahJ k ds.length with
  |some j=>match ds[j]? with
   |some y=>.ok (y,ρ.set i (.dj (ds.eraseIdx j)))
   |none=>.bad
  |none=>.bad
  else .bad
 |_=>.bad
@[simp] theorem acC(i:Nat)(m:aN)(ρ:av):ou i m ρ=(ownAt i ρ).bind fun ds=>(m ρ).bind fun d=>xh i ds ρ d:=by unfold ou;congr 1
theorem VX{i:Nat}{ds:List D}{ρ:av}{k:Nat}(h:k<ds.length)(ai:ds.length<1000000):xh i ds ρ (.int (k:Int))=.ok (ds[k],ρ.set i (.dj (ds.eraseIdx k))):=by
 have eC: -(2^63)≤(k:Int):=Int.le_trans (by decide) (Int.natCast_nonneg k);have dE:(k:Int)<2^63:=Int.lt_trans (b:=1000000) (by omega) (by decide);have s:ahJ (k:Int) ds.length=some k:=by rw[PySem.seqIndex_of (by omega) (by omega)];simp
 simp only[xh,if_pos (And.intro eC dE),s,ac2 h]
noncomputable def AQ(i:Nat)(ds:List D)(ρ:av)(y:D):D→R (D×av)
 |.int k=>if 0≤k∧k<2^63∧ds.length<1000000 then .ok (.non,ρ.set i (.dj (ds.take (min k.toNat ds.length)++y::ds.drop (min k.toNat ds.length))))else .bad
 |_=>.bad
@[simp] theorem acb(i:Nat)(m n:aN)(ρ:av):rv i m n ρ=(ownAt i ρ).bind fun ds=>(m ρ).bind fun d=>(n ρ).bind fun y=>AQ i ds ρ y d:=by unfold rv;congr 1
@[simp] theorem acn(m:aY)(ρ:av):wA m ρ=(m ρ).bind tu:=(rfl)
@[simp] theorem ack(m:aY)(ρ:av):ji m ρ=(m ρ).bind me:=(rfl)
@[simp] theorem acd(m:aN)(ρ:av):rt m ρ=(m ρ).bind Dl:=(rfl)
@[simp] theorem acQ(set:D→av→R av)(m:aN)(ρ:av):TF set m ρ=(m ρ).bind fun d=>(set d ρ).bind fun bJ=>.ok (.bO bJ):=(rfl)
@[simp] theorem Du(m:aN)(ρ:av):hA m ρ=(m (eT ρ)).bind fun d=>.ok (.dJ d):=(rfl)
@[simp] theorem acz(a:aN)(ρ:av):rx a ρ=(a ρ).bind fun x=>(i_ x).bind fun c=>.ok (.aF (!c)):=(rfl)
@[simp] theorem abz(ds:List D):CW (.lst ds)=.ok ds:=(rfl)
@[simp] theorem abN(ds:List D):Dl (.tup ds)=.ok ds:=(rfl)
@[simp] theorem aa6(ds:List D):me [.lst ds]=.ok ds:=(rfl)
@[simp] theorem aa5{xs:List D}(h:xs.length≤1000000):lim xs=.ok xs:=if_pos h
@[simp] theorem aav:eT []=[]:=(rfl)
@[simp] theorem aau(s:dc)(ρ:av):eT (s::ρ)=mX s::eT ρ:=(rfl)
@[simp] theorem aaq(d:D):mX (.aA d)=.aA d:=(rfl)
@[simp] theorem aat:mX .un=.un:=(rfl)
@[simp] theorem aar(ds:List D):mX (.bf (.lst ds))=.aA (.lst ds):=(rfl)
@[simp] theorem abm(i:Int):t8 (.int i)=.ok (.int i):=(rfl)
@[simp] theorem abl(i:Bool):t8 (.aF i)=.ok (.aF i):=(rfl)
@[simp] theorem Uq{α:Type}(a:α):gL (R.ok a)=.ok a:=(rfl)
def Dz:Option dc→R (List D)
 |some (.bf (.lst ds))=>.ok ds
 |_=>.bad
@[simp] theorem acR(i:Nat)(ρ:av):mm i ρ=Dz ρ[i]?:=by unfold mm Dz;rfl
@[simp] theorem acW(ds:List D):Dz (some (.dj ds))=.ok ds:=(rfl)
@[simp] theorem ab2(f g:D→D→R D)(a b c:aN)(ρ:av):jP f g a b c ρ=(a ρ).bind fun x=>(b ρ).bind fun y=>(f x y).bind fun z=>(i_ z).bind fun k=>if k=true then(c ρ).bind fun w=>g y w else .ok (.aF false):=(rfl)
@[simp] theorem aaQ(N:Nat)(ds:List D):k8 N ds=ds.map .aA++aeZ (N-ds.length) .un:=(rfl)
theorem je{xs:List D}{k:Nat}{d:D}(h:xs[k]?=some d):aG (.lst xs) (.int (k:Int))=.ok d:=by
 have aH:=(List.getElem?_eq_some_iff.mp h).1;have e:gI xs (k:Int)=some d:=by unfold gI mc;rw[if_pos (by omega),if_pos (by omega)];simpa using h
 simp only[aG,e]
theorem RR{xs:List D}{k:Nat}{d:D}(h:xs[k]?=some d):aG (.cJ xs) (.int (k:Int))=.ok d:=by
 have aH:=(List.getElem?_eq_some_iff.mp h).1;have e:gI xs (k:Int)=some d:=by unfold gI mc;rw[if_pos (by omega),if_pos (by omega)];simpa using h
 simp only[aG,e]
theorem AY{xs:List D}{k:Nat}{d:D}(h:xs[k]?=some d):aG (.tup xs) (.int (k:Int))=.ok d:=by
 have aH:=(List.getElem?_eq_some_iff.mp h).1;have e:gI xs (k:Int)=some d:=by unfold gI mc;rw[if_pos (by omega),if_pos (by omega)];simpa using h
 simp only[aG,e]
theorem AX{ys:List Int}{k:Nat}(h:k<ys.length):aG (.lst (ys.map D.int)) (.int (k:Int))=.ok (.int ys[k]):=je (by simp[h])
theorem lr(x:Int){n:Nat}(h:0<n):∃k:Nat,k<n∧x%(n:Int)=(k:Int):=by have h0:0≤x%(n:Int):=agF _ (by omega);have h1:x%(n:Int)<(n:Int):=afT _ (by omega);obtain⟨k,e⟩:=Int.eq_ofNat_of_zero_le h0;exact⟨k,by omega,e⟩
@[simp] theorem abv(n:Nat)(h:n<1000000):oH [.int (n:Int)]=.ok (gE 0 n):=by have: -(2^62)≤(n:Int)∧(n:Int)<2^62:=⟨by omega,by omega⟩;simp only[oH,if_pos this,aev]
theorem JT{n j:Nat}{d:D}(h:(gE 0 n)[j]?=some d):j<n∧d=.int (j:Int):=by
 unfold gE at h;rw[ade]at h;cases e:(adf n)[j]? with
 |none=>rw[e]at h;cases h
 |some k=>
  rw[e]at h;have cz:j<n:=by have:=(List.getElem?_eq_some_iff.mp e).1;simpa using this
  rw[ae9 cz]at e;cases e;simp at h;exact⟨cz,h.symm⟩
@[simp] theorem Wy(a:Int)(n:Nat):(gE a n).length=n:=by simp[gE]
@[simp] theorem acT{α β Z0:Type}(r:R α)(f:α→R β)(g:β→R Z0):(r.bind f).bind g=r.bind fun x=>(f x).bind g:=by cases r<;>rfl
def Ends{β:Type}(r:R β)(T:β→Prop):Prop:=∃b,r=.ok b∧T b
@[simp] theorem aah{β:Type}(b:β)(T:β→Prop):Ends (.ok b) T=T b:=propext ⟨fun⟨c,e,h⟩=>by cases e;exact h,fun h=>⟨b,rfl,h⟩⟩
@[simp] theorem aag{β:Type}(T:β→Prop):Ends (.bad) T=False:=propext ⟨fun⟨c,e,h⟩=>(by cases e),aeI⟩
theorem Ends.bind{α β:Type}{r:R α}{k:α→R β}{S:α→Prop}{T:β→Prop}(h:Ends r S)(f:∀b,S b→Ends (k b) T):Ends (r.bind k) T:=by obtain⟨b,rfl,J⟩:=h;exact f b J
theorem Ends.mono{β:Type}{r:R β}{S T:β→Prop}(h:Ends r S)(f:∀b,S b→T b):Ends r T:=by obtain⟨b,e,J⟩:=h;exact⟨b,e,f b J⟩
def nQ(I:av→Prop)(f:gx):Prop:=∃ρ,f=.bO ρ∧I ρ
@[simp] theorem Z2(I:av→Prop)(ρ:av):nQ I (.bO ρ)=I ρ:=propext ⟨fun⟨r,e,h⟩=>by cases e;exact h,fun h=>⟨ρ,rfl,h⟩⟩
theorem Fj{β:Type}{mi:aY}{set:D→av→R av}{body:bl}{ds:List D}{ρ:av}{k:gx→R β}{T:β→Prop}(I:Nat→av→Prop)(ar:mi ρ=.ok ds)(h0:I 0 ρ)(st:∀(j:Nat) d ρ,ds[j]?=some d→I j ρ→Ends ((set d ρ).bind body) (nQ (I (j+1))))(fin:∀bJ,I ds.length bJ→Ends (k (.bO bJ)) T):Ends ((d6 mi set body ρ).bind k) T:=by
 obtain⟨bJ,e,h⟩:=GA (body:=body) (set:=set) (mi:=mi) I ar (fun j d ρ hd ia=>by
  obtain⟨b,e,bJ,rfl,h⟩:=st j d ρ hd ia;cases es:set d ρ with
  |bad=>rw[es]at e;cases e
  |exc c=>rw[es]at e;cases e
  |ok ea=>rw[es,dO]at e;exact⟨ea,bJ,rfl,e,h⟩) h0
 rw[e,dO];exact fin bJ h
def Kw(i:Nat):gx→R gx
 |.bO bJ=>.ok (.bO (kX i bJ))
 |f=>.ok f
@[simp] theorem acJ(i:Nat)(a:aY)(ρ:av):ng i a ρ=(fG i a ρ).bind (Kw i):=by unfold ng;congr 1
@[simp] theorem abG(i:Nat)(ρ:av):Kw i (.bO ρ)=.ok (.bO (kX i ρ)):=(rfl)
noncomputable def zG(ds:List D):D→R (List D)
 |.lst es=>if ds.length+es.length≤1000000 then .ok (ds++es)else .bad
 |_=>.bad
@[simp] theorem aab{ds es:List D}(h:ds.length+es.length≤1000000):zG ds (.lst es)=.ok (ds++es):=if_pos h
noncomputable def ET:D→D→R (List D)
 |.lst ds,.lst es=>if ds.length+es.length≤1000000 then .ok (ds++es)else .bad
 |_,_=>.bad
@[simp] theorem aaa{ds es:List D}(h:ds.length+es.length≤1000000):ET (.lst ds) (.lst es)=.ok (ds++es):=if_pos h
@[simp] theorem abY(m n:aN)(ρ:av):tw m n ρ=(m ρ).bind fun c=>(n ρ).bind fun d=>ET c d:=by unfold tw;congr 1
@[simp] theorem ab0(i:Nat)(m:aN)(ρ:av):tA i m ρ=(ownAt i ρ).bind fun ds=>(m ρ).bind fun d=>zG ds d:=by unfold tA;congr 1
@[simp] theorem abZ(ma:aY)(m:aN)(ρ:av):tx ma m ρ=(ma ρ).bind fun ds=>(m ρ).bind fun d=>zG ds d:=by unfold tx;congr 1
@[simp] theorem acK(f:D→Option Int→Option Int→R D)(m:aN)(lo ar:nP)(ρ:av):lg f m lo ar ρ=(m ρ).bind fun d=>(lo ρ).bind fun l=>(ar ρ).bind fun h=>f d l h:=(rfl)
def Ae(i:Nat)(ρ:av):Option dc→av
 |some (.bf o)=>ρ.set i (.aA (nr o))
 |_=>ρ
@[simp] theorem aap(i:Nat)(ρ:av):kX i ρ=Ae i ρ ρ[i]?:=by unfold kX Ae;rfl
@[simp] theorem aao(i:Nat)(ρ:av)(ds:List D):Ae i ρ (some (.dj ds))=ρ.set i (.aA (.lst ds)):=(rfl)
@[simp] theorem acv(ρ:av):ot ρ=.ok none:=(rfl)
@[simp] theorem acB(m:aN)(ρ:av):lb m ρ=(m ρ).bind intD:=(rfl)
@[simp] theorem aaR(i:Int):intD (.int i)=.ok (some i):=(rfl)
theorem sN{β α:Type}{mi:aY}{elt:aN}{tst:cH}{caps:List Nat}{ρ:av}{k:List D→R β}{T:β→Prop}(g:α→D)(xs:List α)(p:α→Bool)(f:α→D)(ar:mi ρ=.ok (xs.map g))(ai:xs.length≤1000)(bT:∀a∈xs,tst (.aA (g a)::caps.map fun j=>gZ (ρ.getD j .un))=.ok (p a))(h:∀a∈xs,p a=true→elt (.aA (g a)::caps.map fun j=>gZ (ρ.getD j .un))=.ok (f a))(fin:Ends (k ((xs.filter p).map f)) T):Ends ((dx 1 caps mi (br 0) tst elt ρ).bind k) T:=by
 have go:∀(xs:List α)(ws:List D)(s0:dc),ws.length+xs.length≤1000000→(∀a∈xs,tst (.aA (g a)::caps.map fun j=>gZ (ρ.getD j .un))=.ok (p a))→(∀a∈xs,p a=true→elt (.aA (g a)::caps.map fun j=>gZ (ρ.getD j .un))=.ok (f a))→gg (br 0) tst elt (xs.map g) (s0::caps.map fun j=>gZ (ρ.getD j .un)) ws=.ok (ws++(xs.filter p).map f):=by
  intro xs;induction xs with
  |nil=>intro ws s0 _ _ _;simp[gg]
  |cons a xs bQ=>
   intro ws s0 ai bT h;simp only[adl]at ai;have cI:br 0 (g a) (s0::caps.map fun j=>gZ (ρ.getD j .un))=.ok (.aA (g a)::caps.map fun j=>gZ (ρ.getD j .un)):=by simp
   rw[adi,gg,cI,dO,bT a (by simp),dO];cases e:p a with
   |true=>simp only[if_true,h a (by simp) e,dO,if_pos (show ws.length<1000000 by omega)];rw[bQ (ws++[f a]) _ (by simp;omega) (fun x ax=>bT x (by simp[ax])) fun x ax=>h x (by simp[ax])];simp[e]
   |false=>simp only[adb,if_false];rw[bQ ws _ (by omega) (fun x ax=>bT x (by simp[ax])) fun x ax=>h x (by simp[ax])];simp[e]
 rw[Lh,ar,dO];have e:=go xs [] .un (by simp;omega) bT h;have:gL (gg (br 0) tst elt (xs.map g) (l0 1 caps ρ) [])=.ok ((xs.filter p).map f):=by show gL (gg (br 0) tst elt (xs.map g) (.un::caps.map fun j=>gZ (ρ.getD j .un)) [])=_;rw[e];rfl
 rw[this,dO];exact fin
theorem n6{β α:Type}{mi:aY}{elt:aN}{caps:List Nat}{ρ:av}{k:List D→R β}{T:β→Prop}(g:α→D)(xs:List α)(f:α→D)(ar:mi ρ=.ok (xs.map g))(ai:xs.length≤1000)(h:∀a∈xs,elt (.aA (g a)::caps.map fun j=>gZ (ρ.getD j .un))=.ok (f a))(fin:Ends (k (xs.map f)) T):Ends ((dx 1 caps mi (br 0) d8 elt ρ).bind k) T:=
 sN g xs (fun _=>true) f ar ai (fun _ _=>rfl) (fun a ag _=>h a ag) (by rw[List.filter_eq_self.mpr fun _ _=>rfl];exact fin)
theorem xl(n:Nat):gE 0 n=(adf n).map fun(i:Nat)=>.int (i:Int):=by simp[gE]
theorem pz{β:Type}{mi:aY}{elt:aN}{caps:List Nat}{ρ:av}{k:List D→R β}{T:β→Prop}(n:Nat)(f:Nat→D)(ar:mi ρ=.ok (gE 0 n))(ai:n≤1000)(h:∀a,a<n→elt (.aA (.int (a:Int))::caps.map fun j=>gZ (ρ.getD j .un))=.ok (f a))(fin:Ends (k ((adf n).map f)) T):Ends ((dx 1 caps mi (br 0) d8 elt ρ).bind k) T:=
 n6 (fun(i:Nat)=>.int (i:Int)) (adf n) f (by rw[ar,xl]) (by simpa using ai) (fun a ag=>h a (by simpa using ag)) fin
theorem vz{β α:Type}{mi:aY}{set:D→av→R av}{body:bl}{ρ:av}{k:gx→R β}{T:β→Prop}(g:α→D)(xs:List α)(I:Nat→av→Prop)(ar:mi ρ=.ok (xs.map g))(h0:I 0 ρ)(st:∀(j:Nat) a ρ,xs[j]?=some a→I j ρ→Ends ((set (g a) ρ).bind body) (nQ (I (j+1))))(fin:∀bJ,I xs.length bJ→Ends (k (.bO bJ)) T):Ends ((d6 mi set body ρ).bind k) T:=
 Fj I ar h0 (fun j d ρ hd ia=>by
  rw[ade]at hd;cases e:xs[j]? with
  |none=>rw[e]at hd;cases hd
  |some a=>rw[e]at hd;cases hd;exact st j a ρ e ia) (by rw[adE];exact fin)
theorem pA{β:Type}{mi:aY}{set:D→av→R av}{body:bl}{ρ:av}{k:gx→R β}{T:β→Prop}(n:Nat)(I:Nat→av→Prop)(ar:mi ρ=.ok (gE 0 n))(h0:I 0 ρ)(st:∀(j:Nat) ρ,j<n→I j ρ→Ends ((set (.int (j:Int)) ρ).bind body) (nQ (I (j+1))))(fin:∀bJ,I n bJ→Ends (k (.bO bJ)) T):Ends ((d6 mi set body ρ).bind k) T:=
 Fj I ar h0 (fun j d ρ hd ia=>by obtain⟨cz,rfl⟩:=JT hd;exact st j ρ cz ia) (by rw[Wy];exact fin)
theorem IB{α β:Type}(f:α→β):∀(l:List α)(i:Nat),(l.map f).eraseIdx i=(l.eraseIdx i).map f
 |[],_=>rfl
 |x::l,0=>rfl
 |x::l,i+1=>by simp only[ahn,adi,IB f l i]
theorem BI{α:Type}(g:α→D){l:List α}{i:Nat}{k:Nat}(h:k<l.length)(ai:l.length<1000000)(ρ:av):xh i (l.map g) ρ (.int (k:Int))=.ok (g l[k],ρ.set i (.dj ((l.eraseIdx k).map g))):=by rw[VX (by simpa using h) (by simpa using ai),IB];simp
theorem WO{v:Int}(h1: -1000000≤v)(h2:v≤1000000):oH [.int v]=.ok (gE 0 v.toNat):=by have: -(2^62)≤v∧v<2^62:=⟨by omega,by omega⟩;simp only[oH,if_pos this]
def pN{α:Type}(l:List α)(n:Nat)(y:α):List α:=l.take (min n l.length)++y::l.drop (min n l.length)
theorem AS{α:Type}(l:List α)(n:Nat)(y:α):ah8 (pN l n y) (y::l):=by unfold pN;refine List.perm_middle.trans ?_;rw[aey]
theorem v7{α:Type}(l:List α)(n:Nat)(y:α):(pN l n y).length=l.length+1:=by rw[(AS l n y).length_eq,adl]
theorem HH{α:Type}(g:α→D){l:List α}{i:Nat}{v:Int}(h:0≤v)(h2:v≤1000000)(ai:l.length<1000000)(y:α)(d:D)(e:d=g y)(ρ:av):AQ i (l.map g) ρ d (.int v)=.ok (.non,ρ.set i (.dj ((pN l v.toNat y).map g))):=by subst e;have b:0≤v∧v<2^63∧(l.map g).length<1000000:=⟨h,by omega,by simpa using ai⟩;simp only[AQ,if_pos b,pN];simp[afv,aiZ]
@[simp] theorem aa7(n:Nat)(h:n≤1000000):tu [.int (n:Int)]=.ok (gE 0 n):=by have: -(2^62)≤(n:Int)∧(n:Int)≤1000000:=⟨by omega,by omega⟩;simp only[tu,if_pos this,aev]
@[simp] theorem aa_(i j:Int):rM [.int i,.int j]=.ok (.int (if j>i then j else i)):=(rfl)
@[simp] theorem Mv{xs ys:List D}(h:xs.length+ys.length≤1000000):fs (.lst xs) (.lst ys)=.ok (.lst (xs++ys)):=if_pos h
@[simp] theorem Kl(xs:List D)(l h:Option Int):ky (.lst xs) l h=.ok (.lst (fC xs l h)):=(rfl)
@[simp] theorem abC(xs:List D)(l h:Option Int):ky (.cJ xs) l h=.ok (.lst (fC xs l h)):=(rfl)
theorem vq{α:Type}(xs:List α)(k:Nat):fC xs none (some (k:Int))=xs.take k:=by
 unfold fC;rw[ej.J0,ej.xt,List.drop_zero,aja];by_cases h:k≤xs.length
 ·rw[Nat.min_eq_left h]
 ·rw[Nat.min_eq_right (by omega),agj,aeP (by omega)]
theorem zK{α:Type}(xs:List α)(k:Nat):fC xs (some (k:Int)) none=xs.drop k:=by
 unfold fC;rw[ej.J0,ej.xt];by_cases h:k≤xs.length
 ·rw[Nat.min_eq_left h,←afa,agj]
 ·rw[Nat.min_eq_right (by omega),List.drop_length,List.drop_of_length_le (by omega)];simp
theorem qR{α β:Type}(g:α→β)(xs:List α)(l h:Option Int):fC (xs.map g) l h=(fC xs l h).map g:=by unfold fC;simp[afv,aiZ]
@[simp] theorem XF(aX:List (D→av→R av))(ds:List D)(ρ:av):eJ aX (.tup ds) ρ=hC aX ds ρ:=(rfl)
@[simp] theorem XD(ρ:av):hC [] [] ρ=.ok ρ:=(rfl)
@[simp] theorem XC(f:D→av→R av)(aX:List (D→av→R av))(d:D)(ds:List D)(ρ:av):hC (f::aX) (d::ds) ρ=(f d ρ).bind fun bJ=>hC aX ds bJ:=(rfl)
@[simp] theorem acq(bY:Str)(n:Nat)(mf:List D→R (List Str×List D))(ma:aY)(ρ:av):tH bY n mf ma ρ=(ma ρ).bind fun ds=>if ds.length=n then(gL (mf ds)).bind fun x=>.ok (.ins bY x.1 x.2)else .bad:=(rfl)
@[simp] theorem abO(xs:List D):oR [.lst xs]=.ok (.tup xs):=(rfl)
@[simp] theorem ab6(k:Str)(i:Int)(ρ:av):Tv k i ρ=.ok (.dA [.inr k] [.int i]):=(rfl)
@[simp] theorem abh(i:Int):Ug (.int i)=.ok (.int (-i)):=(rfl)
@[simp] theorem abu{x:D}{k:Int}(h0:0≤k)(h:k≤1000):JY (.lst [x]) (.int k)=.ok (.lst (aeZ k.toNat x)):=by
  have b:0≤k∧k≤1000∧[x].length≤100:=⟨h0,h,by simp⟩;simp only[JY,if_pos b]
  congr 2
  generalize k.toNat=n;induction n with
  |zero=>rfl
  |succ n bQ=>simp[List.replicate_succ,bQ]
@[simp] theorem Dt(m:aY)(ρ:av):pX m ρ=(m ρ).bind pB:=(rfl)
@[simp] theorem v_is(m:aN)(ρ:av):tC m ρ=(m ρ).bind C0:=(rfl)
@[simp] theorem acL(m:aY)(ρ:av):TC m ρ=(m ρ).bind Kn:=(rfl)
@[simp] theorem acs(i:Nat)(m:bl)(ρ:av):Tw i m ρ=m (kX i ρ):=(rfl)
@[simp] theorem ab_(c:cH)(a b:aN)(ρ:av):ru c a b ρ=(c ρ).bind fun k=>if k=true then a ρ else b ρ:=(rfl)
@[simp] theorem acA(a b:aN)(ρ:av):ry a b ρ=(a ρ).bind fun x=>(i_ x).bind fun c=>if c=true then .ok (.aF true)else b ρ:=(rfl)
@[simp] theorem acr(bY mt:Str)(n:Nat)(mf:List D→R b6)(o:aN)(ma:aY)(ρ:av):mj bY mt n mf o ma ρ=(o ρ).bind fun d=>(qe bY mt d).bind fun d=>(ma ρ).bind fun ds=>if ds.length=n then(mf (d::ds)).bind iZ else .bad:=(rfl)
@[simp] theorem ab5(ρ:av):Tu ρ=.ok (.dA [] []):=(rfl)
@[simp] theorem acp(i:Nat)(a:sk)(ρ:av):TB i a ρ=(a ρ).bind fun t=>if i<ρ.length then .ok (.bO (ρ.set i (.eB t)))else .bad:=(rfl)
@[simp] theorem aco(a:sk)(ρ:av):Tz a ρ=(a ρ).bind fun t=>.ok (.eh t):=(rfl)
def DA:Option dc→R T
 |some (.eB t)=>.ok t
 |_=>.bad
@[simp] theorem acS(i:Nat)(ρ:av):IA i ρ=DA ρ[i]?:=by unfold IA DA;rfl
@[simp] theorem acX(t:T):DA (some (.eB t))=.ok t:=(rfl)
def Dk:Option dc→R (List T)
 |some (.eB (.lst b3))=>.ok b3
 |_=>.bad
@[simp] theorem acN(i:Nat)(ρ:av):xX i ρ=Dk ρ[i]?:=by unfold xX Dk;rfl
@[simp] theorem abK(b3:List T):Dk (some (.eB (.lst b3)))=.ok b3:=(rfl)
@[simp] theorem abD(b:bl)(t:T):ig b (.eh t)=.ok (.eh t):=(rfl)
@[simp] theorem abn(t:T):outD (.eh t)=.ok (.t t):=(rfl)
@[simp] theorem abx(t:T):iZ (.t t)=.ok (toD t):=(rfl)
@[simp] theorem aas(t:T):mX (.eB t)=.aA (toD t):=(rfl)
@[simp] theorem abT(i:Nat)(mk m:aN)(ρ:av):Tt i mk m ρ=(xX i ρ).bind fun b3=>(mk ρ).bind fun k=>Es i ρ b3 m k:=(rfl)
@[simp] theorem acD(i:Nat)(mk mv:aN)(ρ:av):Tx i mk mv ρ=(mv ρ).bind fun v=>(ownAt i ρ).bind fun ds=>(mk ρ).bind fun k=>putK i ρ ds v k:=(rfl)
def RO(ds:List D):D→R D
 |.int j=>match gI ds j with
  |some d=>.ok d
  |none=>.bad
 |_=>.bad
@[simp] theorem ace(i:Nat)(n:aN)(ρ:av):Iz i n ρ=(ownAt i ρ).bind fun ds=>(n ρ).bind (RO ds):=by unfold Iz;congr 1
@[simp] theorem abJ(k:Bool):uw [.aF k]=.ok (.int (if k then 1 else 0)):=(rfl)
@[simp] theorem aaT(x:D):e5 true x .non=.ok (.aF (fX x)):=(rfl)
@[simp] theorem abA(x:Str):C0 (.str x)=.ok (x.cps.toList.map dX):=(rfl)
theorem zZ{α:Type}(g:α→D)(xs:List α):pB [.lst (xs.map g)]=.ok (xs.zipIdx.map fun p=>.tup [.int (p.2:Int),g p.1]):=by
 simp only[pB,n8]
 congr 1
 rw[List.zipIdx_map,aek];rfl
theorem ZY{α:Type}{xs:List α}{j:Nat}{p:α×Nat}(h:xs.zipIdx[j]?=some p):p.2=j∧xs[j]?=some p.1:=by
 rw[afw]at h;cases e:xs[j]? with
 |none=>rw[e]at h;cases h
 |some a=>rw[e]at h;simp at h;subst h;exact⟨rfl,rfl⟩
theorem DX{α:Type}{xs:List α}{p:α×Nat}(h:p∈xs.zipIdx):xs[p.2]?=some p.1:=by obtain⟨j,e⟩:=List.mem_iff_getElem?.mp h;obtain⟨h1,h2⟩:=ZY e;rw[h1];exact h2
theorem n7{β α:Type}{mi:aY}{elt:aN}{caps:List Nat}{ρ:av}{k:List D→R β}{Eh:β→Prop}(g1 g2:α→D)(xs:List α)(f:α→D)(ar:mi ρ=.ok (xs.map fun a=>.tup [g1 a,g2 a]))(ai:xs.length≤1000)(h:∀a∈xs,elt (.aA (g1 a)::.aA (g2 a)::caps.map fun j=>gZ (ρ.getD j .un))=.ok (f a))(fin:Ends (k (xs.map f)) Eh):Ends ((dx 2 caps mi (eJ [br 0,br 1]) d8 elt ρ).bind k) Eh:=by
 have go:∀(xs:List α)(ws:List D)(s0 s1:dc),ws.length+xs.length≤1000000→(∀a∈xs,elt (.aA (g1 a)::.aA (g2 a)::caps.map fun j=>gZ (ρ.getD j .un))=.ok (f a))→gg (eJ [br 0,br 1]) d8 elt (xs.map fun a=>.tup [g1 a,g2 a]) (s0::s1::caps.map fun j=>gZ (ρ.getD j .un)) ws=.ok (ws++xs.map f):=by
  intro xs;induction xs with
  |nil=>intro ws s0 s1 _ _;simp[gg]
  |cons a xs bQ=>
   intro ws s0 s1 ai h;simp only[adl]at ai;have cI:eJ [br 0,br 1] (.tup [g1 a,g2 a]) (s0::s1::caps.map fun j=>gZ (ρ.getD j .un))=.ok (.aA (g1 a)::.aA (g2 a)::caps.map fun j=>gZ (ρ.getD j .un)):=by simp
   rw[adi,gg,cI,dO];simp only[d8,dO,if_true,h a (by simp),if_pos (show ws.length<1000000 by omega)];rw[bQ (ws++[f a]) _ _ (by simp;omega) fun x ax=>h x (by simp[ax])];simp
 rw[Lh,ar,dO];have e:=go xs [] .un .un (by simp;omega) h;have:gL (gg (eJ [br 0,br 1]) d8 elt (xs.map fun a=>.tup [g1 a,g2 a]) (l0 2 caps ρ) [])=.ok (xs.map f):=by show gL (gg (eJ [br 0,br 1]) d8 elt (xs.map fun a=>.tup [g1 a,g2 a]) (.un::.un::caps.map fun j=>gZ (ρ.getD j .un)) [])=_;rw[e];rfl
 rw[this,dO];exact fin
theorem Ends.done{β:Type}{r:R β}{b:β}(h:Ends r (· =b)):r=.ok b:=by obtain⟨c,e,rfl⟩:=h;exact e
end bt
namespace bS
open PySem PySem.Spec a3 bt
noncomputable def top(i:Nat):aep:=PySem.Challenge.pw_nohalfway_k22_faults_by_formula.main.body.getD i (.Pass ⟨0,0,0,0⟩)
abbrev Cv:aep:=top 50
abbrev CB:aep:=top 52
abbrev Cu:aep:=top 49
abbrev Cn:aep:=top 7
abbrev Co:aep:=top 8
abbrev B5:aep:=top 42
abbrev Cf:aep:=top 43
abbrev Cd:aep:=top 44
abbrev Cp:aep:=top 45
abbrev B6:aep:=top 46
abbrev B2:aep:=inClass (top 47) 0
abbrev CH:aep:=top 54
abbrev Cs:aep:=top 55
abbrev Ct:aep:=top 56
abbrev CA:aep:=top 51
abbrev CC:aep:=top 57
abbrev CE:aep:=top 53
abbrev CI:aep:=top 59
abbrev Cz:aep:=top 60
abbrev CD:aep:=top 61
abbrev Cr:aep:=top 58
abbrev CG:aep:=top 62
abbrev Cy:aep:=top 65
abbrev CF:aep:=top 63
abbrev CJ:aep:=top 66
abbrev Cx:aep:=top 67
abbrev Cw:aep:=top 68
abbrev Cg:aep:=top 14
abbrev Ce:aep:=top 19
abbrev Cj:aep:=top 20
abbrev Cb:aep:=top 21
abbrev B1:aep:=inClass (top 47) 1
abbrev Cc:aep:=top 22
abbrev CN:aep:=top 23
abbrev Ck:aep:=top 31
abbrev Ci:aep:=top 32
abbrev CO:aep:=top 37
abbrev B3:aep:=inClass (top 47) 4
abbrev Ca:aep:=top 13
abbrev B9:aep:=top 15
abbrev B4:aep:=top 16
abbrev B8:aep:=top 33
abbrev CP:aep:=top 24
abbrev B0:aep:=inClass (top 47) 3
abbrev CM:aep:=top 26
abbrev CQ:aep:=top 27
abbrev Cm:aep:=top 34
abbrev B_:aep:=top 35
abbrev CL:aep:=top 36
abbrev B7:aep:=top 38
abbrev CK:aep:=top 64
abbrev Cq:aep:=top 69
abbrev oI:aep:=top 70
def n0:D:=.int 15
def qL:D:=.int 4
def pf:D:=.int 6
def qM:D:=.int 12
def qN:D:=.int 40
noncomputable def qO:D:=.dB [.str (PySem.Str.ofString "0"),.str (PySem.Str.ofString "1"),.str (PySem.Str.ofString "x")]
def iJ:D:=.dB [.str (PySem.Str.ofString "wait")]
def n3:D:=.dB [.int 8,.int 4,.int 2,.int 1]
structure yH(K:PySem.W.Frag)(mg:Str→Option ac1):Prop where
 F5:df K mg "_law_draws" Cv ["_law_cell","_law_many"]
 Ga:df K mg "_law_net" CB ["_law_cell"]
 F4:df K mg "_law_cell_at" Cu ["_law_script","_law_k"]
 FX:df K mg "is_whole" Cn ["thing"]
 FY:df K mg "is_whole_within" Co ["thing","least","greatest"]
 FE:df K mg "are_counts" B5 ["thing"]
 FQ:df K mg "is_pair" Cf ["thing"]
 FO:df K mg "is_door_among" Cd ["counts","thing"]
 FZ:df K mg "is_wire_among" Cp ["counts","thing"]
 FF:df K mg "far_doors" B6 ["counts","wires"]
 FA:InK K mg "Net" "Net.__init__" B2 ["self","counts","wires"]
 Gh:df K mg "_law_row" CH ["_law_draws_here","_law_count"]
 F2:df K mg "_law_book" Cs ["_law_cell","_law_count"]
 F3:df K mg "_law_books" Ct ["_law_script","_law_start","_law_counts"]
 F_:df K mg "_law_mixed" CA ["_law_cell","_law_k"]
 Gb:df K mg "_law_new_books" CC ["_law_script","_law_old","_law_counts"]
 Ge:df K mg "_law_outer" CE ["_law_parts"]
 Gi:df K mg "_law_signs" CI ["_law_address"]
 F9:df K mg "_law_is_like" Cz ["_law_pattern","_law_signs_here"]
 Gd:df K mg "_law_out" CD ["_law_book_here","_law_door","_law_signs_here"]
 F1:df K mg "_law_beyond" Cr ["_law_parts","_law_door"]
 Gg:df K mg "_law_road" CG ["_law_parts","_law_books_here","_law_door","_law_address"]
 F8:df K mg "_law_houses" Cy ["_law_parts","_law_books_here"]
 Gf:df K mg "_law_plan" CF ["_law_cells","_law_many"]
 Gj:df K mg "_law_turned" CJ ["_law_plan_here","_law_k","_law_fresh"]
 F7:df K mg "_law_forgot" Cx ["_law_plan_here","_law_k","_law_before"]
 F6:df K mg "_law_due" Cw ["_law_plan_here","_law_before","_law_fresh"]
 FR:df K mg "is_pattern" Cg ["thing"]
 FP:df K mg "is_number_or_none" Ce ["thing","doors"]
 FU:df K mg "is_row" Cj ["thing","doors"]
 FL:df K mg "is_book" Cb ["thing","doors"]
 Fz:sl K "Net" "count" "Net.count" B1 ["self","house"]
 FN:df K mg "is_books" Cc ["thing","net"]
 Gp:df K mg "refuse_unless_books" CN ["thing","net"]
 FV:df K mg "is_step" Ck ["thing","net"]
 FT:df K mg "is_plan" Ci ["thing","net"]
 Gq:df K mg "refuse_unless_plan" CO ["net","old","new","plan"]
 FC:sl K "Net" "outer" "Net.outer" B3 ["self"]
 FK:df K mg "is_address" Ca ["thing"]
 FI:df K mg "fits" B9 ["pattern","address"]
 FD:df K mg "addresses" B4 ["pattern"]
 FH:df K mg "first_untaught" B8 ["done","doors"]
 Gr:df K mg "taken" CP ["book","door","address"]
 Fy:sl K "Net" "beyond" "Net.beyond" B0 ["self","door"]
 Gn:df K mg "onward" CM ["net","book","door","address"]
 Gs:df K mg "walked" CQ ["net","books","door","address"]
 FW:df K mg "is_waited_for" Cm ["done","house"]
 FJ:df K mg "house_at_fault" B_ ["net","old","new","plan","place","door","address"]
 Gl:df K mg "least_fault" CL ["net","old","new","plan"]
 FG:df K mg "fault" B7 ["net","old","new","plan"]
 Gk:df K mg "_law_whole" CK ["_law_found"]
 F0:df K mg "_law_alike" Cq ["_law_found","_law_due_here"]
 OI:df K mg "law" oI ["_law_script"]
 Ly:yq K mg "NoBooks"
 Lz:yq K mg "NoPlan"
 iU:uQ K "Net" ["many","counts","joined","far"]
 mT:mg "all"=none
 yW:mg "bool"=none
 ve:mg "enumerate"=none
 vg:mg "int"=none
 hH:mg "isinstance"=none
 eO:mg "len"=none
 ja:mg "list"=none
 zw:mg "max"=none
 hy:mg "range"=none
 EC:mg "set"=none
 zz:mg "sorted"=none
 sA:mg "str"=none
 nY:mg "tuple"=none
 zB:mg "zip"=none
 n0:mI K mg "GREATEST_ADDRESS" n0
 qL:mI K mg "MOST_DOORS" qL
 pf:mI K mg "MOST_HOUSES" pf
 qM:mI K mg "MOST_ROWS" qM
 qN:mI K mg "MOST_STEPS" qN
 qO:mI K mg "SIGNS" qO
 iJ:mI K mg "WAIT" iJ
 n3:mI K mg "WORTHS" n3
theorem qc:cS ["_law_cell","_law_many","_law_draws_here","_law_rest","_law_k","_law_prime","_law_factor"] ["_law_cell","_law_many"] (b1 Cv):=⟨rfl,rfl,rfl,by decide+kernel,rfl,by decide+kernel,by decide+kernel⟩
noncomputable def zf:bl:=
    a4 (fG 2 (ez (aC)))
    (a4 (cT 3 (aj hZ (U 0) (ao (.int 2))))
    (a4 (d6 (fZ (ae (U 1) (aC))) (br 4) (cu (a_ (aj (cw true) (aj eA (U 0) (ao (.int 2))) (ao (.int 1)))) (a4 (cT 5 (aj aG (cN (ez (ae (ao (.int 2147483647)) (ae (ao (.int 2147483629)) (ae (ao (.int 2147483587)) (ae (ao (.int 2147483579)) (aC))))))) (aj eA (aj hZ (U 4) (ao (.int 4))) (ao (.int 4)))))
    (a4 (cT 6 (aj aG (cN (ez (ae (ao (.int 48271)) (ae (ao (.int 69621)) (ae (ao (.int 16807)) (ae (ao (.int 39373)) (aC))))))) (aj eA (U 4) (ao (.int 4)))))
    (hP 2 (aj hZ (aj eA (aj ll (aj fs (aj fs (aj eA (U 3) (aj lA (ao (.int 10)) (ao (.int 30)))) (aj ll (ao (.int 7919)) (U 4))) (ao (.int 1))) (U 6)) (U 5)) (ao (.int 7)))))) (a4 (hP 2 (aj eA (U 3) (aj lA (ao (.int 10)) (ao (.int 6)))))
    (cT 3 (aj hZ (U 3) (aj lA (ao (.int 10)) (ao (.int 6))))))))
    (jj (mm 2))))
def nh:List D→R b6:=cY 7 zf
theorem nv:cS ["_law_cell","_law_draws_here","_law_many","_law_counts","_law_free","_law_house","_law_wires","_law_k","_law_one"] ["_law_cell"] (b1 CB):=⟨rfl,rfl,rfl,by decide+kernel,rfl,by decide+kernel,by decide+kernel⟩
noncomputable def zl:bl:=
    a4 (cT 1 (cN (jO 2 nh (ae (U 0) (ae (ao (.int 40)) (aC))))))
    (a4 (cT 2 (aj fs (ao (.int 1)) (aj eA (aj aG (U 1) (ao (.int 0))) (ao (.int 6)))))
    (a4 (ng 3 (dx 1 [1,2] (fZ (ae (U 2) (aC))) (br 0) (d8) (aj fs (ao (.int 1)) (aj eA (aj aG (U 1) (aj fs (ao (.int 1)) (U 0))) (aj aG (cN (ez (ae (ao (.int 4)) (ae (ao (.int 4)) (ae (ao (.int 4)) (ae (ao (.int 3)) (ae (ao (.int 2)) (ae (ao (.int 2)) (aC))))))))) (aj kA (U 2) (ao (.int 1))))))))
    (a4 (fG 4 (ez (aC)))
    (a4 (d6 (fZ (ae (cM dC (ae (U 3) (aC))) (aC))) (br 5) (nf (rr 4 (cN (dx 1 [5] (fZ (ae (aj aG (U 3) (U 5)) (aC))) (br 0) (d8) (cU (ae (U 1) (ae (U 0) (aC)))))))))
    (a4 (fG 6 (ez (aC)))
    (a4 (d6 (fZ (ae (nc (aj kA (aj hZ (aj kA (cM dC (ae (U 4) (aC))) (ao (.int 1))) (ao (.int 2))) (aj eA (aj aG (U 1) (ao (.int 7))) (ao (.int 2))))) (aC))) (br 7) (a4 (rA 8 (ou 4 (nc (aj eA (aj aG (U 1) (aj fs (ao (.int 8)) (aj ll (ao (.int 2)) (U 7)))) (cM dC (ae (U 4) (aC)))))))
    (wz 6 (rB (rq (lf (U 8)) (rq (ou 4 (nc (aj eA (aj aG (U 1) (aj fs (ao (.int 9)) (aj ll (ao (.int 2)) (U 7)))) (cM dC (ae (U 4) (aC)))))) (tr aC)))))))
    (hA (cU (ae (U 3) (ae (U 6) (aC)))))))))))
def rJ:List D→R b6:=cY 9 zl
theorem Xs:cS ["_law_script","_law_k"] ["_law_script","_law_k"] (b1 Cu):=⟨rfl,rfl,rfl,by decide+kernel,rfl,by decide+kernel,by decide+kernel⟩
noncomputable def vj:bl:=
    a4 (cu (a_ (aj pU (U 1) (cM dC (ae (U 0) (aC))))) (b2 (aj aG (U 0) (U 1))) (cC))
    (b2 (ao (.int 0)))
def lh:List D→R b6:=cY 2 vj
theorem Xp:cS ["thing"] ["thing"] (b1 Cn):=⟨rfl,rfl,rfl,by decide+kernel,rfl,by decide+kernel,by decide+kernel⟩
def Ez:bl:=
    b2 (iW (dI (fx "int") (U 0)) (rx (dI (fx "bool") (U 0))))
def Bi:List D→R b6:=cY 1 Ez
theorem Xq:cS ["thing","least","greatest"] ["thing","least","greatest"] (b1 Co):=⟨rfl,rfl,rfl,by decide+kernel,rfl,by decide+kernel,by decide+kernel⟩
def y9:bl:=
    b2 (iW (b5 1 Bi (ae (U 0) (aC))) (jP la la (U 1) (U 0) (U 2)))
def mn:List D→R b6:=cY 3 y9
theorem Xd:cS ["thing"] ["thing"] (b1 B5):=⟨rfl,rfl,rfl,by decide+kernel,rfl,by decide+kernel,by decide+kernel⟩
noncomputable def vd:bl:=
    a4 (cu (eP (d7 (a_ (dI (fx "list") (U 0)))) (d7 (a_ (jP la la (ao (.int 1)) (cM dC (ae (U 0) (aC))) (ao pf))))) (b2 (ao (.aF false))) (cC))
    (b2 (cM dn (ae (cN (dx 1 [] (ep (U 0)) (br 0) (d8) (b5 3 mn (ae (U 0) (ae (ao (.int 1)) (ae (ao qL) (aC))))))) (aC))))
def tK:List D→R b6:=cY 1 vd
theorem Xl:cS ["thing"] ["thing"] (b1 Cf):=⟨rfl,rfl,rfl,by decide+kernel,rfl,by decide+kernel,by decide+kernel⟩
noncomputable def Ey:bl:=
    b2 (iW (dI (fx "tuple") (U 0)) (aj (cw true) (cM dC (ae (U 0) (aC))) (ao (.int 2))))
def tP:List D→R b6:=cY 1 Ey
theorem Xj:cS ["counts","thing"] ["counts","thing"] (b1 Cd):=⟨rfl,rfl,rfl,by decide+kernel,rfl,by decide+kernel,by decide+kernel⟩
noncomputable def y4:bl:=
    a4 (cu (eP (d7 (a_ (b5 1 tP (ae (U 1) (aC))))) (d7 (a_ (b5 3 mn (ae (aj aG (U 1) (ao (.int 0))) (ae (ao (.int 0)) (ae (aj kA (cM dC (ae (U 0) (aC))) (ao (.int 1))) (aC)))))))) (b2 (ao (.aF false))) (cC))
    (b2 (b5 3 mn (ae (aj aG (U 1) (ao (.int 1))) (ae (ao (.int 0)) (ae (aj kA (aj aG (U 0) (aj aG (U 1) (ao (.int 0)))) (ao (.int 1))) (aC))))))
def tO:List D→R b6:=cY 2 y4
theorem J5:cS ["counts","thing","both"] ["counts","thing"] (b1 Cp):=⟨rfl,rfl,rfl,by decide+kernel,rfl,by decide+kernel,by decide+kernel⟩
noncomputable def y_:bl:=
    a4 (cu (d7 (a_ (b5 1 tP (ae (U 1) (aC))))) (b2 (ao (.aF false))) (cC))
    (a4 (cT 2 (iW (b5 2 tO (ae (U 0) (ae (aj aG (U 1) (ao (.int 0))) (aC)))) (b5 2 tO (ae (U 0) (ae (aj aG (U 1) (ao (.int 1))) (aC))))))
    (b2 (iW (U 2) (aj (cw false) (aj aG (U 1) (ao (.int 0))) (aj aG (U 1) (ao (.int 1)))))))
def rH:List D→R b6:=cY 3 y_
theorem CR:cS ["counts","wires","far","wire"] ["counts","wires"] (b1 B6):=⟨rfl,rfl,rfl,by decide+kernel,rfl,by decide+kernel,by decide+kernel⟩
noncomputable def vf:bl:=
    a4 (rz 2)
    (a4 (d6 (rt (U 1)) (br 3) (a4 (cu (d7 (a_ (b5 2 rH (ae (U 0) (ae (U 3) (aC)))))) (tv) (cC))
    (a4 (cu (jh (eP (a_ (aj (fW true) (aj aG (U 3) (ao (.int 0))) (U 2))) (a_ (aj (fW true) (aj aG (U 3) (ao (.int 1))) (U 2))))) (tv) (cC))
    (a4 (nd 2 (aj aG (U 3) (ao (.int 0))) (aj aG (U 3) (ao (.int 1))))
    (nd 2 (aj aG (U 3) (ao (.int 1))) (aj aG (U 3) (ao (.int 0))))))))
    (hA (U 2)))
def rC:List D→R b6:=cY 4 vf
theorem Xb:cS ["self","counts","wires"] ["self","counts","wires"] (b1 B2):=⟨rfl,rfl,rfl,by decide+kernel,rfl,by decide+kernel,by decide+kernel⟩
noncomputable def vc:iz:=
    ml (oq (d7 (a_ (b5 1 tK (ae (U 1) (aC))))))
    (ml (oq (d7 (a_ (dI (fx "list") (U 2)))))
    (ml (jQ "Net" "many" (cM dC (ae (U 1) (aC))))
    (ml (jQ "Net" "counts" (cM oR (ae (U 1) (aC))))
    (ml (jQ "Net" "joined" (cM oR (ae (U 2) (aC))))
    (jQ "Net" "far" (pV (b5 2 rC (ae (dI (fc "Net" "counts") (U 0)) (ae (dI (fc "Net" "joined") (U 0)) (aC))))))))))
def Bg:List D→R (List Str×List D):=fun es=>outI "Net" (vc (jL "Net" es))
theorem xx:cS ["_law_draws_here","_law_count","_law_pattern","_law_begin","_law_end"] ["_law_draws_here","_law_count"] (b1 CH):=⟨rfl,rfl,rfl,by decide+kernel,rfl,by decide+kernel,by decide+kernel⟩
noncomputable def zr:bl:=
    a4 (cT 2 (tF (PySem.Str.ofString "") (ae (cN (dx 1 [0] (fZ (ae (ao (.int 4)) (aC))) (br 0) (d8) (aj aG (ao (.str (PySem.Str.ofString "01xxx"))) (aj eA (aj aG (U 1) (U 0)) (ao (.int 5)))))) (aC))))
    (a4 (cT 3 (aj aG (cN (ez (ae (ao .non) (ae (ao .non) (ae (ao .non) (ae (aj eA (aj aG (U 0) (ao (.int 5))) (U 1)) (aC))))))) (aj eA (aj aG (U 0) (ao (.int 4))) (ao (.int 4)))))
    (a4 (cT 4 (aj aG (cN (ez (ae (aj eA (aj aG (U 0) (ao (.int 7))) (U 1)) (ae (ao .non) (aC))))) (aj hZ (aj eA (aj aG (U 0) (ao (.int 6))) (ao (.int 7))) (ao (.int 6)))))
    (b2 (cU (ae (U 2) (ae (U 3) (ae (U 4) (aC))))))))
def p3:List D→R b6:=cY 5 zr
theorem uf:cS ["_law_cell","_law_count","_law_draws_here","_law_many","_law_book_here"] ["_law_cell","_law_count"] (b1 Cs):=⟨rfl,rfl,rfl,by decide+kernel,rfl,by decide+kernel,by decide+kernel⟩
noncomputable def zd:bl:=
    a4 (cT 2 (cN (jO 2 nh (ae (U 0) (ae (ao (.int 104)) (aC))))))
    (a4 (cT 3 (aj aG (cN (ez (ae (aj eA (aj aG (U 2) (ao (.int 0))) (ao (.int 5))) (ae (aj eA (aj aG (U 2) (ao (.int 0))) (ao (.int 13))) (aC))))) (aj hZ (aj eA (aj aG (U 2) (ao (.int 1))) (ao (.int 4))) (ao (.int 3)))))
    (a4 (ng 4 (dx 1 [1,2] (fZ (ae (U 3) (aC))) (br 0) (d8) (b5 2 p3 (ae (lg ky (U 2) (lb (aj fs (ao (.int 4)) (aj ll (ao (.int 8)) (U 0)))) (lb (aj fs (ao (.int 12)) (aj ll (ao (.int 8)) (U 0))))) (ae (U 1) (aC))))))
    (a4 (cu (a_ (aj oc (aj eA (aj aG (U 2) (ao (.int 2))) (ao (.int 3))) (ao (.int 0)))) (cT 4 (aj fs (lg ky (U 4) (ot) (lb (ao (.int 11)))) (cN (ez (ae (cU (ae (ao (.str (PySem.Str.ofString "xxxx"))) (ae (ao .non) (ae (aj eA (aj aG (U 2) (ao (.int 3))) (U 1)) (aC))))) (aC)))))) (cC))
    (b2 (U 4)))))
def p1:List D→R b6:=cY 5 zd
theorem Xr:cS ["_law_script","_law_start","_law_counts"] ["_law_script","_law_start","_law_counts"] (b1 Ct):=⟨rfl,rfl,rfl,by decide+kernel,rfl,by decide+kernel,by decide+kernel⟩
noncomputable def ze:bl:=
    jj (dx 2 [0,1] (pX (ae (U 2) (aC))) (eJ [br 0,br 1]) (d8) (b5 2 p1 (ae (b5 2 lh (ae (U 2) (ae (aj fs (U 3) (U 0)) (aC)))) (ae (U 1) (aC)))))
def ox:List D→R b6:=cY 3 ze
theorem Xu:cS ["_law_cell","_law_k"] ["_law_cell","_law_k"] (b1 CA):=⟨rfl,rfl,rfl,by decide+kernel,rfl,by decide+kernel,by decide+kernel⟩
def zk:bl:=
    b2 (aj aG (cN (jO 2 nh (ae (U 0) (ae (aj fs (U 1) (ao (.int 1))) (aC))))) (U 1))
def lj:List D→R b6:=cY 2 zk
theorem ui:cS ["_law_script","_law_old","_law_counts","_law_fresh","_law_first","_law_found","_law_house"] ["_law_script","_law_old","_law_counts"] (b1 CC):=⟨rfl,rfl,rfl,by decide+kernel,rfl,by decide+kernel,by decide+kernel⟩
noncomputable def zm:bl:=
    a4 (cT 3 (cN (jO 3 ox (ae (U 0) (ae (ao (.int 7)) (ae (U 2) (aC)))))))
    (a4 (cT 4 (b5 2 lj (ae (b5 2 lh (ae (U 0) (ae (ao (.int 0)) (aC)))) (ae (ao (.int 50)) (aC)))))
    (a4 (fG 5 (ez (aC)))
    (a4 (d6 (fZ (ae (cM dC (ae (U 2) (aC))) (aC))) (br 6) (hP 5 (aj aG (cN (ez (ae (aj aG (U 1) (U 6)) (ae (aj aG (U 3) (U 6)) (aC))))) (cM uw (ae (aj oc (aj eA (aj hZ (U 4) (aj fs (U 6) (ao (.int 1)))) (ao (.int 4))) (ao (.int 0))) (aC))))))
    (jj (mm 5)))))
def tS:List D→R b6:=cY 7 zm
theorem xw:cS ["_law_parts","_law_used","_law_found","_law_house"] ["_law_parts"] (b1 CE):=⟨rfl,rfl,rfl,by decide+kernel,rfl,by decide+kernel,by decide+kernel⟩
noncomputable def zp:bl:=
    a4 (cT 1 (aj fs (cN (dx 2 [] (ep (aj aG (U 0) (ao (.int 1)))) (eJ [br 0,br 1]) (d8) (U 0))) (cN (dx 2 [] (ep (aj aG (U 0) (ao (.int 1)))) (eJ [br 0,br 1]) (d8) (U 1)))))
    (a4 (fG 2 (ez (aC)))
    (a4 (d6 (fZ (ae (cM dC (ae (aj aG (U 0) (ao (.int 0))) (aC))) (aC))) (br 3) (nf (rr 2 (cN (dx 1 [3,1] (fZ (ae (aj aG (aj aG (U 0) (ao (.int 0))) (U 3)) (aC))) (br 0) (a_ (aj (inD false) (cU (ae (U 1) (ae (U 0) (aC)))) (U 2))) (cU (ae (U 1) (ae (U 0) (aC)))))))))
    (jj (mm 2))))
def wJ:List D→R b6:=cY 4 zp
theorem Xv:cS ["_law_address"] ["_law_address"] (b1 CI):=⟨rfl,rfl,rfl,by decide+kernel,rfl,by decide+kernel,by decide+kernel⟩
noncomputable def zt:bl:=
    b2 (tF (PySem.Str.ofString "") (ae (cN (dx 1 [0] (ep (cN (ez (ae (ao (.int 8)) (ae (ao (.int 4)) (ae (ao (.int 2)) (ae (ao (.int 1)) (aC)))))))) (br 0) (d8) (cM oM (ae (aj eA (aj hZ (U 1) (U 0)) (ao (.int 2))) (aC))))) (aC)))
def rL:List D→R b6:=cY 1 zt
theorem Xt:cS ["_law_pattern","_law_signs_here"] ["_law_pattern","_law_signs_here"] (b1 Cz):=⟨rfl,rfl,rfl,by decide+kernel,rfl,by decide+kernel,by decide+kernel⟩
noncomputable def zj:bl:=
    b2 (cM dn (ae (cN (dx 2 [] (tE (ae (U 0) (ae (U 1) (aC)))) (eJ [br 0,br 1]) (d8) (ry (aj (cw true) (U 0) (ao (.str (PySem.Str.ofString "x")))) (aj (cw true) (U 0) (U 1))))) (aC)))
def p2:List D→R b6:=cY 2 zj
theorem xv:cS ["_law_book_here","_law_door","_law_signs_here","_law_pattern","_law_begin","_law_end"] ["_law_book_here","_law_door","_law_signs_here"] (b1 CD):=⟨rfl,rfl,rfl,by decide+kernel,rfl,by decide+kernel,by decide+kernel⟩
noncomputable def zo:bl:=
    a4 (d6 (ep (U 0)) (eJ [br 3,br 4,br 5]) (cu (iV (a_ (b5 2 p2 (ae (U 3) (ae (U 2) (aC))))) (eP (a_ (aj (e5 true) (U 4) (ao .non))) (a_ (aj (cw true) (U 4) (U 1))))) (b2 (U 5)) (cC)))
    (b2 (ao .non))
def rK:List D→R b6:=cY 6 zo
theorem CT:cS ["_law_parts","_law_door","_law_one","_law_other"] ["_law_parts","_law_door"] (b1 Cr):=⟨rfl,rfl,rfl,by decide+kernel,rfl,by decide+kernel,by decide+kernel⟩
noncomputable def zc:bl:=
    a4 (d6 (ep (aj aG (U 0) (ao (.int 1)))) (eJ [br 2,br 3]) (a4 (cu (a_ (aj (cw true) (U 2) (U 1))) (b2 (U 3)) (cC))
    (cu (a_ (aj (cw true) (U 3) (U 1))) (b2 (U 2)) (cC))))
    (b2 (ao .non))
def p0:List D→R b6:=cY 4 zc
theorem rT:cS ["_law_parts","_law_books_here","_law_door","_law_address","_law_signs_here","_law_road_here","_law_end","_law_behind"] ["_law_parts","_law_books_here","_law_door","_law_address"] (b1 CG):=⟨rfl,rfl,rfl,by decide+kernel,rfl,by decide+kernel,by decide+kernel⟩
noncomputable def EA:bl:=
    a4 (cT 4 (b5 1 rL (ae (U 3) (aC))))
    (a4 (fG 5 (ez (aC)))
    (a4 (ov (jh (a_ (aj (inD false) (U 2) (U 5)))) (a4 (hP 5 (U 2))
    (a4 (cT 6 (b5 3 rK (ae (aj aG (U 1) (aj aG (U 2) (ao (.int 0)))) (ae (aj aG (U 2) (ao (.int 1))) (ae (U 4) (aC))))))
    (a4 (cu (a_ (aj (e5 true) (U 6) (ao .non))) (hA (cU (ae (U 5) (ae (cU (ae (ao (.str (PySem.Str.ofString "drop"))) (ae (aj aG (U 2) (ao (.int 0))) (aC)))) (aC))))) (cC))
    (a4 (cT 7 (b5 2 p0 (ae (U 0) (ae (cU (ae (aj aG (U 2) (ao (.int 0))) (ae (U 6) (aC)))) (aC)))))
    (a4 (cu (a_ (aj (e5 true) (U 7) (ao .non))) (hA (cU (ae (U 5) (ae (cU (ae (ao (.str (PySem.Str.ofString "out"))) (ae (aj aG (U 2) (ao (.int 0))) (ae (U 6) (aC))))) (aC))))) (cC))
    (cT 2 (U 7))))))))
    (hA (cU (ae (U 5) (ae (cU (ae (ao (.str (PySem.Str.ofString "ring"))) (ae (mh (U 5) (ae (U 2) (aC))) (aC)))) (aC)))))))
def wK:List D→R b6:=cY 8 EA
theorem uh:cS ["_law_parts","_law_books_here","_law_found","_law_door","_law_address","_law_road_here"] ["_law_parts","_law_books_here"] (b1 Cy):=⟨rfl,rfl,rfl,by decide+kernel,rfl,by decide+kernel,by decide+kernel⟩
noncomputable def zi:bl:=
    a4 (rz 2)
    (a4 (d6 (ep (cN (jO 1 wJ (ae (U 0) (aC))))) (br 3) (d6 (fZ (ae (ao (.int 16)) (aC))) (br 4) (a4 (cT 5 (aj aG (b5 4 wK (ae (U 0) (ae (U 1) (ae (U 3) (ae (U 4) (aC)))))) (ao (.int 0))))
    (nd 2 (cU (ae (U 3) (ae (U 4) (aC)))) (cN (dx 2 [] (ep (U 5)) (eJ [br 0,br 1]) (d8) (U 0)))))))
    (hA (U 2)))
def tR:List D→R b6:=cY 6 zi
theorem nx:cS ["_law_cells","_law_many","_law_houses_here","_law_plan_here","_law_cell","_law_at","_law_kind","_law_step","_law_near"] ["_law_cells","_law_many"] (b1 CF):=⟨rfl,rfl,rfl,by decide+kernel,rfl,by decide+kernel,by decide+kernel⟩
noncomputable def zq:bl:=
    a4 (cT 2 (cN (wA (ae (U 1) (aC)))))
    (a4 (fG 3 (tw (cN (dx 1 [] (ep (U 2)) (br 0) (d8) (cU (ae (ao (.str (PySem.Str.ofString "teach"))) (ae (U 0) (aC)))))) (cN (dx 1 [] (ep (U 2)) (br 0) (d8) (cU (ae (ao (.str (PySem.Str.ofString "turn"))) (ae (U 0) (aC))))))))
    (a4 (fG 3 (tx (tA 3 (cN (ez (ae (cU (ae (ao (.str (PySem.Str.ofString "wait"))) (aC))) (aC))))) (cN (dx 1 [] (ep (U 2)) (br 0) (d8) (cU (ae (ao (.str (PySem.Str.ofString "forget"))) (ae (U 0) (aC))))))))
    (a4 (d6 (ep (U 0)) (br 4) (a4 (cT 5 (nc (aj eA (b5 2 lj (ae (U 4) (ae (ao (.int 0)) (aC)))) (cM dC (ae (U 3) (aC))))))
    (a4 (cT 6 (aj eA (b5 2 lj (ae (U 4) (ae (ao (.int 1)) (aC)))) (ao (.int 6))))
    (cu (jh (iV (a_ (aj (cw true) (U 6) (ao (.int 0)))) (a_ (aj oc (cM dC (ae (U 3) (aC))) (ao (.int 1)))))) (nf (ou 3 (U 5))) (cu (jh (iV (a_ (aj (cw true) (U 6) (ao (.int 1)))) (a_ (aj pU (cM dC (ae (U 3) (aC))) (ao (.int 39)))))) (nf (rv 3 (U 5) (cU (ae (ao (.str (PySem.Str.ofString "wait"))) (aC))))) (cu (a_ (aj pU (U 6) (ao (.int 5)))) (a4 (rA 7 (ou 3 (U 5)))
    (a4 (cT 8 (nc (aj aG (cN (ez (ae (aj fs (U 5) (ao (.int 1))) (ae (cM rM (ae (ao (.int 0)) (ae (aj kA (U 5) (ao (.int 1))) (aC)))) (ae (aj eA (b5 2 lj (ae (U 4) (ae (ao (.int 2)) (aC)))) (aj fs (cM dC (ae (U 3) (aC))) (ao (.int 1)))) (aC)))))) (aj kA (U 6) (ao (.int 2))))))
    (nf (rv 3 (U 8) (U 7))))) (cC)))))))
    (jj (mm 3)))))
def tT:List D→R b6:=cY 9 zq
theorem uj:cS ["_law_plan_here","_law_k","_law_fresh","_law_taught","_law_door","_law_address","_law_lacking"] ["_law_plan_here","_law_k","_law_fresh"] (b1 CJ):=⟨rfl,rfl,rfl,by decide+kernel,rfl,by decide+kernel,by decide+kernel⟩
noncomputable def zu:bl:=
    a4 (ng 3 (dx 1 [] (ep (lg ky (U 0) (ot) (lb (U 1)))) (br 0) (a_ (aj (cw true) (aj aG (U 0) (ao (.int 0))) (ao (.str (PySem.Str.ofString "teach"))))) (aj aG (U 0) (ao (.int 1)))))
    (a4 (d6 (ep (cN (tI (ae (U 2) (aC))))) (eJ [br 4,br 5]) (cu (a_ (aj (cw true) (aj aG (U 4) (ao (.int 0))) (aj aG (aj aG (U 0) (U 1)) (ao (.int 1))))) (a4 (ng 6 (dx 1 [3] (ep (aj pj (U 2) (cU (ae (U 4) (ae (U 5) (aC)))))) (br 0) (a_ (aj (inD false) (U 0) (U 1))) (U 0)))
    (cu (a_ (aj (cw false) (U 6) (cN (ez (aC))))) (b2 (cU (ae (U 1) (ae (U 4) (ae (U 5) (ae (aj aG (U 6) (ao (.int 0))) (aC))))))) (cC))) (cC)))
    (b2 (ao .non)))
def wL:List D→R b6:=cY 7 zu
theorem qd:cS ["_law_plan_here","_law_k","_law_before","_law_over","_law_turned_here","_law_step","_law_door","_law_address"] ["_law_plan_here","_law_k","_law_before"] (b1 Cx):=⟨rfl,rfl,rfl,by decide+kernel,rfl,by decide+kernel,by decide+kernel⟩
noncomputable def zh:bl:=
    a4 (cT 3 (cN (ez (aC))))
    (a4 (fG 4 (ez (aC)))
    (a4 (d6 (ep (lg ky (U 0) (ot) (lb (U 1)))) (br 5) (a4 (cu (a_ (aj (cw true) (aj aG (U 5) (ao (.int 0))) (ao (.str (PySem.Str.ofString "turn"))))) (hP 4 (aj aG (U 5) (ao (.int 1)))) (cC))
    (cu (a_ (aj (cw true) (aj aG (U 5) (ao (.int 0))) (ao (.str (PySem.Str.ofString "wait"))))) (cT 3 (cN (tG 4))) (cC))))
    (a4 (d6 (ep (cN (tI (ae (U 2) (aC))))) (eJ [br 6,br 7]) (cu (iV (a_ (aj (inD false) (aj aG (U 6) (ao (.int 0))) (U 3))) (a_ (aj (inD true) (aj aG (aj aG (U 0) (U 1)) (ao (.int 1))) (aj pj (U 2) (cU (ae (U 6) (ae (U 7) (aC)))))))) (b2 (cU (ae (U 1) (ae (U 6) (ae (U 7) (ae (aj aG (aj aG (U 0) (U 1)) (ao (.int 1))) (aC))))))) (cC)))
    (b2 (ao .non)))))
def wI:List D→R b6:=cY 8 zh
theorem ug:cS ["_law_plan_here","_law_before","_law_fresh","_law_k","_law_found"] ["_law_plan_here","_law_before","_law_fresh"] (b1 Cw):=⟨rfl,rfl,rfl,by decide+kernel,rfl,by decide+kernel,by decide+kernel⟩
noncomputable def zg:bl:=
    a4 (d6 (fZ (ae (cM dC (ae (U 0) (aC))) (aC))) (br 3) (a4 (cT 4 (ao .non))
    (a4 (cu (a_ (aj (cw true) (aj aG (aj aG (U 0) (U 3)) (ao (.int 0))) (ao (.str (PySem.Str.ofString "turn"))))) (cT 4 (b5 3 wL (ae (U 0) (ae (U 3) (ae (U 2) (aC)))))) (cC))
    (a4 (cu (a_ (aj (cw true) (aj aG (aj aG (U 0) (U 3)) (ao (.int 0))) (ao (.str (PySem.Str.ofString "forget"))))) (cT 4 (b5 3 wI (ae (U 0) (ae (U 3) (ae (U 1) (aC)))))) (cC))
    (cu (a_ (aj (e5 false) (U 4) (ao .non))) (b2 (U 4)) (cC))))))
    (b2 (ao .non))
def wH:List D→R b6:=cY 5 zg
theorem Xm:cS ["thing"] ["thing"] (b1 Cg):=⟨rfl,rfl,rfl,by decide+kernel,rfl,by decide+kernel,by decide+kernel⟩
noncomputable def y5:bl:=
    a4 (cu (eP (d7 (a_ (dI (fx "str") (U 0)))) (a_ (aj (cw false) (cM dC (ae (U 0) (aC))) (cM dC (ae (ao n3) (aC)))))) (b2 (ao (.aF false))) (cC))
    (b2 (cM dn (ae (cN (dx 1 [] (tC (U 0)) (br 0) (d8) (aj (inD true) (U 0) (ao qO)))) (aC))))
def rE:List D→R b6:=cY 1 y5
theorem Xk:cS ["thing","doors"] ["thing","doors"] (b1 Ce):=⟨rfl,rfl,rfl,by decide+kernel,rfl,by decide+kernel,by decide+kernel⟩
noncomputable def vh:bl:=
    b2 (ry (aj (e5 true) (U 0) (ao .non)) (b5 3 mn (ae (U 0) (ae (ao (.int 0)) (ae (aj kA (U 1) (ao (.int 1))) (aC))))))
def ow:List D→R b6:=cY 2 vh
theorem Xn:cS ["thing","doors"] ["thing","doors"] (b1 Cj):=⟨rfl,rfl,rfl,by decide+kernel,rfl,by decide+kernel,by decide+kernel⟩
noncomputable def y7:bl:=
    a4 (cu (eP (d7 (a_ (dI (fx "tuple") (U 0)))) (a_ (aj (cw false) (cM dC (ae (U 0) (aC))) (ao (.int 3))))) (b2 (ao (.aF false))) (cC))
    (a4 (cu (d7 (a_ (b5 1 rE (ae (aj aG (U 0) (ao (.int 0))) (aC))))) (b2 (ao (.aF false))) (cC))
    (b2 (iW (b5 2 ow (ae (aj aG (U 0) (ao (.int 1))) (ae (U 1) (aC)))) (b5 2 ow (ae (aj aG (U 0) (ao (.int 2))) (ae (U 1) (aC)))))))
def rG:List D→R b6:=cY 2 y7
theorem Xh:cS ["thing","doors"] ["thing","doors"] (b1 Cb):=⟨rfl,rfl,rfl,by decide+kernel,rfl,by decide+kernel,by decide+kernel⟩
noncomputable def y2:bl:=
    a4 (cu (eP (d7 (a_ (dI (fx "list") (U 0)))) (a_ (aj oc (cM dC (ae (U 0) (aC))) (ao qM)))) (b2 (ao (.aF false))) (cC))
    (b2 (cM dn (ae (cN (dx 1 [1] (ep (U 0)) (br 0) (d8) (b5 2 rG (ae (U 0) (ae (U 1) (aC)))))) (aC))))
def rD:List D→R b6:=cY 2 y2
theorem Xa:cS ["self","house"] ["self","house"] (b1 B1):=⟨rfl,rfl,rfl,by decide+kernel,rfl,by decide+kernel,by decide+kernel⟩
noncomputable def yU:bl:=
    b2 (ru (a_ (jP la pU (ao (.int 0)) (U 1) (dI (fc "Net" "many") (U 0)))) (aj aG (dI (fc "Net" "counts") (U 0)) (U 1)) (ao (.int 0)))
def wB:List D→R b6:=cY 2 yU
theorem Xi:cS ["thing","net"] ["thing","net"] (b1 Cc):=⟨rfl,rfl,rfl,by decide+kernel,rfl,by decide+kernel,by decide+kernel⟩
noncomputable def y3:bl:=
    a4 (cu (eP (d7 (a_ (dI (fx "list") (U 0)))) (a_ (aj (cw false) (cM dC (ae (U 0) (aC))) (dI (fc "Net" "many") (U 1))))) (b2 (ao (.aF false))) (cC))
    (b2 (cM dn (ae (cN (dx 2 [1] (pX (ae (U 0) (aC))) (eJ [br 0,br 1]) (d8) (b5 2 rD (ae (U 1) (ae (mj "Net" "count" 1 wB (U 2) (ae (U 0) (aC))) (aC)))))) (aC))))
def tN:List D→R b6:=cY 2 y3
theorem Xx:cS ["thing","net"] ["thing","net"] (b1 CN):=⟨rfl,rfl,rfl,by decide+kernel,rfl,by decide+kernel,by decide+kernel⟩
def zx:bl:=
    cu (rN (d7 (a_ (b5 2 tN (ae (U 0) (ae (U 1) (aC))))))) (Bf "NoBooks") (cC)
def wN:List D→R b6:=cY 2 zx
theorem Xo:cS ["thing","net"] ["thing","net"] (b1 Ck):=⟨rfl,rfl,rfl,by decide+kernel,rfl,by decide+kernel,by decide+kernel⟩
noncomputable def y8:bl:=
    a4 (cu (eP (d7 (a_ (dI (fx "tuple") (U 0)))) (eP (a_ (aj (inD false) (cM dC (ae (U 0) (aC))) (cU (ae (ao (.int 1)) (ae (ao (.int 2)) (aC)))))) (d7 (a_ (dI (fx "str") (aj aG (U 0) (ao (.int 0)))))))) (b2 (ao (.aF false))) (cC))
    (a4 (cu (a_ (aj (cw true) (cM dC (ae (U 0) (aC))) (ao (.int 1)))) (b2 (aj (cw true) (aj aG (U 0) (ao (.int 0))) (ao (.str (PySem.Str.ofString "wait"))))) (cC))
    (b2 (iW (aj (inD true) (aj aG (U 0) (ao (.int 0))) (cU (ae (ao (.str (PySem.Str.ofString "teach"))) (ae (ao (.str (PySem.Str.ofString "turn"))) (ae (ao (.str (PySem.Str.ofString "forget"))) (aC)))))) (b5 3 mn (ae (aj aG (U 0) (ao (.int 1))) (ae (ao (.int 0)) (ae (aj kA (dI (fc "Net" "many") (U 1)) (ao (.int 1))) (aC))))))))
def wG:List D→R b6:=cY 2 y8
theorem J3:cS ["thing","net","once"] ["thing","net"] (b1 Ci):=⟨rfl,rfl,rfl,by decide+kernel,rfl,by decide+kernel,by decide+kernel⟩
noncomputable def y6:bl:=
    a4 (cu (eP (d7 (a_ (dI (fx "list") (U 0)))) (a_ (aj oc (cM dC (ae (U 0) (aC))) (ao qN)))) (b2 (ao (.aF false))) (cC))
    (a4 (cu (d7 (a_ (cM dn (ae (cN (dx 1 [1] (ep (U 0)) (br 0) (d8) (b5 2 wG (ae (U 0) (ae (U 1) (aC)))))) (aC))))) (b2 (ao (.aF false))) (cC))
    (a4 (ng 2 (dx 1 [] (ep (U 0)) (br 0) (a_ (aj (cw false) (U 0) (ao iJ))) (U 0)))
    (b2 (aj (cw true) (cM tq (ae (U 2) (aC))) (cM dC (ae (U 2) (aC)))))))
def rF:List D→R b6:=cY 3 y6
theorem Xy:cS ["net","old","new","plan"] ["net","old","new","plan"] (b1 CO):=⟨rfl,rfl,rfl,by decide+kernel,rfl,by decide+kernel,by decide+kernel⟩
noncomputable def zy:bl:=
    a4 (pW (b5 2 wN (p7 (ae (U 1) (ae (U 0) (aC))))))
    (a4 (pW (b5 2 wN (p7 (ae (U 2) (ae (U 0) (aC))))))
    (cu (rN (d7 (a_ (b5 2 rF (ae (U 3) (ae (U 0) (aC))))))) (Bf "NoPlan") (cC)))
def Bk:List D→R b6:=cY 4 zy
theorem xu:cS ["self","found","house","number"] ["self"] (b1 B3):=⟨rfl,rfl,rfl,by decide+kernel,rfl,by decide+kernel,by decide+kernel⟩
noncomputable def yV:bl:=
    a4 (fG 1 (ez (aC)))
    (a4 (d6 (fZ (ae (dI (fc "Net" "many") (U 0)) (aC))) (br 2) (d6 (fZ (ae (aj aG (dI (fc "Net" "counts") (U 0)) (U 2)) (aC))) (br 3) (cu (a_ (aj (fW false) (cU (ae (U 2) (ae (U 3) (aC)))) (dI (fc "Net" "far") (U 0)))) (hP 1 (cU (ae (U 2) (ae (U 3) (aC))))) (cC))))
    (jj (mm 1)))
def wC:List D→R b6:=cY 4 yV
theorem Xg:cS ["thing"] ["thing"] (b1 Ca):=⟨rfl,rfl,rfl,by decide+kernel,rfl,by decide+kernel,by decide+kernel⟩
def y1:bl:=
    b2 (b5 3 mn (ae (U 0) (ae (ao (.int 0)) (ae (ao n0) (aC)))))
def wF:List D→R b6:=cY 1 y1
theorem Xf:cS ["pattern","address"] ["pattern","address"] (b1 B9):=⟨rfl,rfl,rfl,by decide+kernel,rfl,by decide+kernel,by decide+kernel⟩
noncomputable def yZ:bl:=
    a4 (cu (eP (d7 (a_ (b5 1 rE (ae (U 0) (aC))))) (d7 (a_ (b5 1 wF (ae (U 1) (aC)))))) (b2 (ao (.aF false))) (cC))
    (b2 (cM dn (ae (cN (dx 2 [1] (tD (ae (U 0) (ae (ao n3) (aC)))) (eJ [br 0,br 1]) (d8) (aj (inD true) (U 0) (cU (ae (ao (.str (PySem.Str.ofString "x"))) (ae (cM oM (ae (aj eA (aj hZ (U 2) (U 1)) (ao (.int 2))) (aC))) (aC))))))) (aC))))
def pY:List D→R b6:=cY 2 yZ
theorem Xc:cS ["pattern"] ["pattern"] (b1 B4):=⟨rfl,rfl,rfl,by decide+kernel,rfl,by decide+kernel,by decide+kernel⟩
noncomputable def Ex:bl:=
    jj (dx 1 [0] (fZ (ae (aj fs (ao n0) (ao (.int 1))) (aC))) (br 0) (a_ (b5 2 pY (ae (U 1) (ae (U 0) (aC))))) (U 0))
def Bh:List D→R b6:=cY 1 Ex
theorem J2:cS ["done","doors","door"] ["done","doors"] (b1 B8):=⟨rfl,rfl,rfl,by decide+kernel,rfl,by decide+kernel,by decide+kernel⟩
noncomputable def yY:bl:=
    a4 (d6 (ep (U 1)) (br 2) (cu (a_ (aj (inD false) (cU (ae (ao (.str (PySem.Str.ofString "teach"))) (ae (aj aG (U 2) (ao (.int 0))) (aC)))) (U 0))) (b2 (aj aG (U 2) (ao (.int 0)))) (cC)))
    (b2 (ao .non))
def tM:List D→R b6:=cY 3 yY
theorem CU:cS ["book","door","address","number","row"] ["book","door","address"] (b1 CP):=⟨rfl,rfl,rfl,by decide+kernel,rfl,by decide+kernel,by decide+kernel⟩
noncomputable def zA:bl:=
    a4 (d6 (pX (ae (U 0) (aC))) (eJ [br 3,br 4]) (cu (iV (eP (a_ (aj (e5 true) (aj aG (U 4) (ao (.int 1))) (ao .non))) (a_ (aj (cw true) (aj aG (U 4) (ao (.int 1))) (U 1)))) (a_ (b5 2 pY (ae (aj aG (U 4) (ao (.int 0))) (ae (U 2) (aC)))))) (b2 (U 3)) (cC)))
    (b2 (ao .non))
def wO:List D→R b6:=cY 5 zA
theorem W_:cS ["self","door"] ["self","door"] (b1 B0):=⟨rfl,rfl,rfl,by decide+kernel,rfl,by decide+kernel,by decide+kernel⟩
def yT:bl:=
    b2 (tB (dI (fc "Net" "far") (U 0)) (U 1))
def tJ:List D→R b6:=cY 2 yT
theorem xy:cS ["net","book","door","address","number","out","far"] ["net","book","door","address"] (b1 CM):=⟨rfl,rfl,rfl,by decide+kernel,rfl,by decide+kernel,by decide+kernel⟩
noncomputable def qK:bl:=
    a4 (cT 4 (b5 3 wO (ae (U 1) (ae (aj aG (U 2) (ao (.int 1))) (ae (U 3) (aC))))))
    (a4 (cT 5 (ru (a_ (aj (e5 true) (U 4) (ao .non))) (ao .non) (aj aG (aj aG (U 1) (U 4)) (ao (.int 2)))))
    (a4 (cu (a_ (aj (e5 true) (U 5) (ao .non))) (b2 (cU (ae (ao (.str (PySem.Str.ofString "drop"))) (ae (aj aG (U 2) (ao (.int 0))) (aC))))) (cC))
    (a4 (cT 6 (mj "Net" "beyond" 1 tJ (U 0) (ae (cU (ae (aj aG (U 2) (ao (.int 0))) (ae (U 5) (aC)))) (aC))))
    (a4 (cu (a_ (aj (e5 true) (U 6) (ao .non))) (b2 (cU (ae (ao (.str (PySem.Str.ofString "out"))) (ae (aj aG (U 2) (ao (.int 0))) (ae (U 5) (aC)))))) (cC))
    (b2 (cU (ae (ao (.str (PySem.Str.ofString "at"))) (ae (aj aG (U 6) (ao (.int 0))) (ae (aj aG (U 6) (ao (.int 1))) (aC))))))))))
def ni:List D→R b6:=cY 7 qK
theorem xA:cS ["net","books","door","address","doors","told"] ["net","books","door","address"] (b1 CQ):=⟨rfl,rfl,rfl,by decide+kernel,rfl,by decide+kernel,by decide+kernel⟩
noncomputable def ED:bl:=
    a4 (fG 4 (ez (aC)))
    (a4 (ov (jh (a_ (aj (inD false) (U 2) (U 4)))) (a4 (hP 4 (U 2))
    (a4 (cT 5 (b5 4 ni (ae (U 0) (ae (aj aG (U 1) (aj aG (U 2) (ao (.int 0)))) (ae (U 2) (ae (U 3) (aC)))))))
    (a4 (cu (a_ (aj (cw false) (aj aG (U 5) (ao (.int 0))) (ao (.str (PySem.Str.ofString "at"))))) (hA (cU (ae (U 4) (ae (U 5) (aC))))) (cC))
    (cT 2 (cU (ae (aj aG (U 5) (ao (.int 1))) (ae (aj aG (U 5) (ao (.int 2))) (aC)))))))))
    (hA (cU (ae (U 4) (ae (cU (ae (ao (.str (PySem.Str.ofString "ring"))) (ae (mh (U 4) (ae (U 2) (aC))) (aC)))) (aC))))))
def tU:List D→R b6:=cY 6 ED
theorem J4:cS ["done","house","turn"] ["done","house"] (b1 Cm):=⟨rfl,rfl,rfl,by decide+kernel,rfl,by decide+kernel,by decide+kernel⟩
noncomputable def vi:bl:=
    a4 (cT 2 (cU (ae (ao (.str (PySem.Str.ofString "turn"))) (ae (U 1) (aC)))))
    (b2 (iW (aj (inD true) (U 2) (U 0)) (aj (inD true) (ao iJ) (lg ky (U 0) (lb (mh (U 0) (ae (U 2) (aC)))) (ot)))))
def tQ:List D→R b6:=cY 3 vi
theorem CS:cS ["net","old","new","plan","place","door","address","step","done"] ["net","old","new","plan","place","door","address"] (b1 B_):=⟨rfl,rfl,rfl,by decide+kernel,rfl,by decide+kernel,by decide+kernel⟩
noncomputable def y0:bl:=
    a4 (cT 7 (aj aG (U 3) (U 4)))
    (a4 (cT 8 (lg ky (U 3) (ot) (lb (U 4))))
    (a4 (cu (a_ (aj (cw true) (U 7) (cU (ae (ao (.str (PySem.Str.ofString "turn"))) (ae (aj aG (U 5) (ao (.int 0))) (aC)))))) (b2 (b5 2 tM (ae (U 8) (ae (aj aG (b5 4 tU (ae (U 0) (ae (U 2) (ae (U 5) (ae (U 6) (aC)))))) (ao (.int 0))) (aC))))) (cC))
    (a4 (cu (iV (a_ (aj (cw true) (aj aG (U 7) (ao (.int 0))) (ao (.str (PySem.Str.ofString "forget"))))) (d7 (a_ (b5 2 tQ (ae (U 8) (ae (aj aG (U 5) (ao (.int 0))) (aC))))))) (cu (a_ (aj (inD true) (aj aG (U 7) (ao (.int 1))) (cN (dx 2 [] (ep (aj aG (b5 4 tU (ae (U 0) (ae (U 1) (ae (U 5) (ae (U 6) (aC)))))) (ao (.int 0)))) (eJ [br 0,br 1]) (d8) (U 0))))) (b2 (aj aG (U 7) (ao (.int 1)))) (cC)) (cC))
    (b2 (ao .non)))))
def wD:List D→R b6:=cY 9 y0
theorem uk:cS ["net","old","new","plan","place","door","address","house"] ["net","old","new","plan"] (b1 CL):=⟨rfl,rfl,rfl,by decide+kernel,rfl,by decide+kernel,by decide+kernel⟩
noncomputable def zv:bl:=
    a4 (d6 (fZ (ae (cM dC (ae (U 3) (aC))) (aC))) (br 4) (d6 (ep (mj "Net" "outer" 0 wC (U 0) aC)) (br 5) (d6 (ep (cN (jO 1 Bh (ae (ao (.str (PySem.Str.ofString "xxxx"))) (aC))))) (br 6) (a4 (cT 7 (b5 7 wD (ae (U 0) (ae (U 1) (ae (U 2) (ae (U 3) (ae (U 4) (ae (U 5) (ae (U 6) (aC))))))))))
    (cu (a_ (aj (e5 false) (U 7) (ao .non))) (b2 (cU (ae (U 4) (ae (U 5) (ae (U 6) (ae (U 7) (aC))))))) (cC))))))
    (b2 (ao .non))
def wM:List D→R b6:=cY 8 zv
theorem Xe:cS ["net","old","new","plan"] ["net","old","new","plan"] (b1 B7):=⟨rfl,rfl,rfl,by decide+kernel,rfl,by decide+kernel,by decide+kernel⟩
noncomputable def yX:bl:=
    a4 (pW (b5 4 Bk (p7 (ae (U 0) (ae (U 1) (ae (U 2) (ae (U 3) (aC))))))))
    (t5 (b2 (b5 4 wM (ae (U 0) (ae (U 1) (ae (U 2) (ae (U 3) (aC))))))))
def tL:List D→R b6:=cY 4 yX
theorem Xw:cS ["_law_found"] ["_law_found"] (b1 CK):=⟨rfl,rfl,rfl,by decide+kernel,rfl,by decide+kernel,by decide+kernel⟩
def EB:bl:=
    b2 (iW (dI (fx "int") (U 0)) (rx (dI (fx "bool") (U 0))))
def Bj:List D→R b6:=cY 1 EB
theorem J6:cS ["_law_found","_law_due_here","_law_numbers"] ["_law_found","_law_due_here"] (b1 Cq):=⟨rfl,rfl,rfl,by decide+kernel,rfl,by decide+kernel,by decide+kernel⟩
noncomputable def zb:bl:=
    a4 (cu (eP (a_ (aj (e5 true) (U 1) (ao .non))) (a_ (aj (e5 true) (U 0) (ao .non)))) (b2 (iW (aj (e5 true) (U 0) (ao .non)) (aj (e5 true) (U 1) (ao .non)))) (cC))
    (a4 (cu (eP (d7 (a_ (dI (fx "tuple") (U 0)))) (a_ (aj (cw false) (cM dC (ae (U 0) (aC))) (ao (.int 4))))) (b2 (ao (.aF false))) (cC))
    (a4 (cu (eP (d7 (a_ (dI (fx "tuple") (aj aG (U 0) (ao (.int 1)))))) (a_ (aj (cw false) (cM dC (ae (aj aG (U 0) (ao (.int 1))) (aC))) (ao (.int 2))))) (b2 (ao (.aF false))) (cC))
    (a4 (cT 2 (aj fs (cN (ez (ae (aj aG (U 0) (ao (.int 0))) (ae (aj aG (U 0) (ao (.int 2))) (ae (aj aG (U 0) (ao (.int 3))) (aC)))))) (cN (ji (ae (aj aG (U 0) (ao (.int 1))) (aC))))))
    (b2 (iW (cM dn (ae (cN (dx 1 [] (ep (U 2)) (br 0) (d8) (b5 1 Bj (ae (U 0) (aC))))) (aC))) (aj (cw true) (U 0) (U 1)))))))
def rI:List D→R b6:=cY 3 zb
theorem kv:cS ["_law_script","_law_parts","_law_net_here","_law_old","_law_new","_law_before","_law_fresh","_law_start","_law_plan_here","_law_handed","_law_due_here","_law_found"] ["_law_script"] (b1 oI):=⟨rfl,rfl,rfl,by decide+kernel,rfl,by decide+kernel,by decide+kernel⟩
noncomputable def za:bl:=
    a4 (cT 1 (b5 1 rJ (ae (b5 2 lh (ae (U 0) (ae (ao (.int 0)) (aC)))) (aC))))
    (a4 (cT 2 (tH "Net" 2 Bg (ae (cN (ji (ae (aj aG (U 1) (ao (.int 0))) (aC)))) (ae (cN (ji (ae (aj aG (U 1) (ao (.int 1))) (aC)))) (aC)))))
    (a4 (cT 3 (cN (jO 3 ox (ae (U 0) (ae (ao (.int 1)) (ae (aj aG (U 1) (ao (.int 0))) (aC)))))))
    (a4 (cT 4 (cN (jO 3 tS (ae (U 0) (ae (U 3) (ae (aj aG (U 1) (ao (.int 0))) (aC)))))))
    (a4 (cT 5 (b5 2 tR (ae (U 1) (ae (U 3) (aC)))))
    (a4 (cT 6 (b5 2 tR (ae (U 1) (ae (U 4) (aC)))))
    (a4 (d6 (ep (cN (ez (ae (ao (.int 13)) (ae (aj fs (ao (.int 13)) (aj hZ (aj kA (cM dC (ae (U 0) (aC))) (ao (.int 13))) (ao (.int 2)))) (aC)))))) (br 7) (a4 (cT 8 (cN (jO 2 tT (ae (lg ky (U 0) (lb (cM rM (ae (ao (.int 13)) (ae (U 7) (aC))))) (ot)) (ae (cM dC (ae (aj aG (U 1) (ao (.int 0))) (aC))) (aC))))))
    (a4 (cT 9 (cN (ez (ae (cN (dx 1 [] (ep (U 3)) (br 0) (d8) (cN (ji (ae (U 0) (aC)))))) (ae (cN (dx 1 [] (ep (U 4)) (br 0) (d8) (cN (ji (ae (U 0) (aC)))))) (ae (cN (ji (ae (U 8) (aC)))) (aC)))))))
    (a4 (cT 10 (b5 3 wH (ae (U 8) (ae (U 5) (ae (U 6) (aC))))))
    (a4 (cT 11 (rp 4 tL (ae (U 2) (ae (aj aG (U 9) (ao (.int 0))) (ae (aj aG (U 9) (ao (.int 1))) (ae (aj aG (U 9) (ao (.int 2))) (aC)))))))
    (a4 (cu (eP (d7 (a_ (b5 2 rI (ae (U 11) (ae (U 10) (aC)))))) (a_ (aj (cw false) (U 9) (cN (ez (ae (U 3) (ae (U 4) (ae (U 8) (aC))))))))) (b2 (ao (.aF false))) (cC))
    (cu (d7 (a_ (b5 2 rI (ae (rp 4 tL (ae (U 2) (ae (U 3) (ae (U 4) (ae (U 8) (aC)))))) (ae (U 10) (aC)))))) (b2 (ao (.aF false))) (cC))))))))
    (b2 (ao (.aF true)))))))))
def pZ:List D→R b6:=cY 12 za
section
variable{P:adp}{w:adJ}{K:PySem.W.Frag}{mg:Str→Option ac1}{base:adX}(T:yH K mg)
include T
set_option maxHeartbeats 4000000
theorem A6:dt P w K mg base "_law_draws" 2 1 nh:=by
 have h:=dK (P:=P) (w:=w) (mg:=mg) (base:=base) (k:=0) (m:=zf) T.F5 qc;exact h fun _ _ _ _ _ _ _ au _ _=>
 bC (lM 2 qc.a7 (fI (aI)))
  (bC (dr 3 qc.a7 (lL (af 0) (aL)))
  (bC (gs adw (iq T.hy (ak (af 1) (aI))) (fi 4 qc.a7) (bw (dm (il au.units (fz (af 0) (aL)) (aL)) (bC (dr 5 qc.a7 (bB (c8 (fI (ak (aL) (ak (aL) (ak (aL) (ak (aL) (aI))))))) (fz (lL (af 4) (aL)) (aL)) aT))
  (bC (dr 6 qc.a7 (bB (c8 (fI (ak (aL) (ak (aL) (ak (aL) (ak (aL) (aI))))))) (fz (af 4) (aL)) aT))
  (bw (qs 2 (lL (fz (r4 (hq (hq (fz (af 3) (DM (aL) (aL))) (r4 (aL) (af 4))) (aL)) (af 6)) (af 5)) (aL)))))) (bC (qs 2 (fz (af 3) (DM (aL) (aL))))
  (bw (dr 3 qc.a7 (lL (af 3) (DM (aL) (aL)))))))))
  (bw (uL 2))))
theorem SI:dt P w K mg base "_law_net" 1 2 rJ:=by
 have h:=dK (P:=P) (w:=w) (mg:=mg) (base:=base) (k:=1) (m:=zl) T.Ga nv;exact h fun _ _ _ _ _ _ _ au _ _=>
 bC (dr 1 nv.a7 (c8 (nF (A6 T) (au.mono (by decide)) (ak (af 0) (ak (aL) (aI))))))
  (bC (dr 2 nv.a7 (hq (aL) (fz (bB (af 1) (aL) aT) (aL))))
  (bC (uM (x_ (N:=["_law_k","_law_draws_here","_law_many"]) 3 1 [1,2] nv.a7 (by rfl) (iq T.hy (ak (af 2) (aI))) (gY 0) (gf) (fun _ _ _ _ _ _ _=>hq (aL) (fz (bB (af 1) (hq (aL) (af 0)) aT) (bB (c8 (fI (ak (aL) (ak (aL) (ak (aL) (ak (aL) (ak (aL) (ak (aL) (aI))))))))) (mA (af 2) (aL)) aT)))))
  (bC (lM 4 nv.a7 (fI (aI)))
  (bC (gs adw (iq T.hy (ak (e7 T.eO (ak (af 3) (aI))) (aI))) (fi 5 nv.a7) (bw (uK (LC 4 (c8 (f3 (N:=["_law_door","_law_house"]) 1 [5] (by rfl) (iq T.hy (ak (bB (af 3) (af 5) aT) (aI))) (gY 0) (gf) (fun _ _ _ _ _ _ _=>d2 (ak (af 1) (ak (af 0) (aI))))))))))
  (bC (lM 6 nv.a7 (fI (aI)))
  (bC (gs adw (iq T.hy (ak (uH (mA (lL (mA (e7 T.eO (ak (af 4) (aI))) (aL)) (aL)) (fz (bB (af 1) (aL) aT) (aL)))) (aI))) (fi 7 nv.a7) (bC (LW 8 nv.a7 (x8 4 (uH (fz (bB (af 1) (hq (aL) (r4 (aL) (af 7))) aT) (e7 T.eO (ak (af 4) (aI)))))))
  (bw (ZI 6 (Zx (LN (Zu (af 8)) (LN (x8 4 (uH (fz (bB (af 1) (hq (aL) (r4 (aL) (af 7))) aT) (e7 T.eO (ak (af 4) (aI)))))) (Zv))))))))
  (bw (oY (d2 (ak (af 3) (ak (af 6) (aI))))))))))))
theorem A5:dt P w K mg base "_law_cell_at" 2 1 lh:=by
 have h:=dK (P:=P) (w:=w) (mg:=mg) (base:=base) (k:=0) (m:=vj) T.F4 Xs;exact h fun _ _ _ _ _ _ _ au _ _=>
 bC (dm (DR (af 1) (e7 T.eO (ak (af 0) (aI)))) (bw (cL (bB (af 0) (af 1) aT))) (dD))
  (bw (cL (aL)))
theorem Sz:dt P w K mg base "is_whole" 1 1 Bi:=by
 have h:=dK (P:=P) (w:=w) (mg:=mg) (base:=base) (k:=0) (m:=Ez) T.FX Xp;exact h fun _ _ _ _ _ _ _ au _ _=>
 bw (cL (lJ (ik (Lb _) T.hH T.vg (by kernel_rfl) (af 0)) (jY (LJ (ik (La _) T.hH T.yW (by kernel_rfl) (af 0))))))
theorem rk:dt P w K mg base "is_whole_within" 3 2 mn:=by
 have h:=dK (P:=P) (w:=w) (mg:=mg) (base:=base) (k:=1) (m:=y9) T.FY Xq;exact h fun _ _ _ _ _ _ _ au _ _=>
 bw (cL (lJ (c7 (Sz T) (au.mono (by decide)) (ak (af 0) (aI))) (jY (Zl t9 t9 t7 t7 (af 1) (af 0) (af 2)))))
theorem Sn:dt P w K mg base "are_counts" 1 3 tK:=by
 have h:=dK (P:=P) (w:=w) (mg:=mg) (base:=base) (k:=2) (m:=vd) T.FE Xd;exact h fun _ _ _ _ _ _ _ au _ _=>
 bC (dm (gF (hU (fJ (fp (ik (uy _) T.hH T.ja (by kernel_rfl) (af 0)))) (ip (fJ (LY t9 t9 t7 t7 (aL) (e7 T.eO (ak (af 0) (aI))) (lK T.pf)))))) (bw (cL (hT))) (dD))
  (bw (cL (oV au T.mT (ak (c8 (f3 (N:=["doors"]) 1 [] (by rfl) (fq (af 0)) (gY 0) (gf) (fun _ _ _ _ _ _ _=>c7 (rk T) (au.mono (by decide)) (ak (af 0) (ak (aL) (ak (lK T.qL) (aI))))))) (aI)))))
theorem H7:dt P w K mg base "is_pair" 1 1 tP:=by
 have h:=dK (P:=P) (w:=w) (mg:=mg) (base:=base) (k:=0) (m:=Ey) T.FQ Xl;exact h fun _ _ _ _ _ _ _ au _ _=>
 bw (cL (lJ (ik (uz _) T.hH T.nY (by kernel_rfl) (af 0)) (jY (r3 au.units (e7 T.eO (ak (af 0) (aI))) (aL)))))
theorem H5:dt P w K mg base "is_door_among" 2 3 tO:=by
 have h:=dK (P:=P) (w:=w) (mg:=mg) (base:=base) (k:=2) (m:=y4) T.FO Xj;exact h fun _ _ _ _ _ _ _ au _ _=>
 bC (dm (gF (hU (fJ (fp (c7 (H7 T) (au.mono (by decide)) (ak (af 1) (aI))))) (ip (fJ (fp (c7 (rk T) (au.mono (by decide)) (ak (bB (af 1) (aL) aT) (ak (aL) (ak (mA (e7 T.eO (ak (af 0) (aI))) (aL)) (aI)))))))))) (bw (cL (hT))) (dD))
  (bw (cL (c7 (rk T) (au.mono (by decide)) (ak (bB (af 1) (aL) aT) (ak (aL) (ak (mA (bB (af 0) (bB (af 1) (aL) aT) aT) (aL)) (aI)))))))
theorem SA:dt P w K mg base "is_wire_among" 2 4 rH:=by
 have h:=dK (P:=P) (w:=w) (mg:=mg) (base:=base) (k:=3) (m:=y_) T.FZ J5;exact h fun _ _ _ _ _ _ _ au _ _=>
 bC (dm (fJ (fp (c7 (H7 T) (au.mono (by decide)) (ak (af 1) (aI))))) (bw (cL (hT))) (dD))
  (bC (dr 2 J5.a7 (lJ (c7 (H5 T) (au.mono (by decide)) (ak (af 0) (ak (bB (af 1) (aL) aT) (aI)))) (jY (c7 (H5 T) (au.mono (by decide)) (ak (af 0) (ak (bB (af 1) (aL) aT) (aI)))))))
  (bw (cL (lJ (af 2) (jY (Zr au.units (bB (af 1) (aL) aT) (bB (af 1) (aL) aT)))))))
theorem So:dt P w K mg base "far_doors" 2 5 rC:=by
 have h:=dK (P:=P) (w:=w) (mg:=mg) (base:=base) (k:=4) (m:=vf) T.FF CR;exact h fun _ _ _ _ _ _ _ au _ _=>
 bC (LV 2 CR.a7)
  (bC (gs adw (ZM (af 1)) (fi 3 CR.a7) (bC (dm (fJ (fp (c7 (SA T) (au.mono (by decide)) (ak (af 0) (ak (af 3) (aI)))))) (bw (LR)) (dD))
  (bC (dm (uN (gF (hU (LZ au.units (bB (af 3) (aL) aT) (af 2)) (ip (LZ au.units (bB (af 3) (aL) aT) (af 2)))))) (bw (LR)) (dD))
  (bC (DP 2 au.units (bB (af 3) (aL) aT) (bB (af 3) (aL) aT))
  (bw (DP 2 au.units (bB (af 3) (aL) aT) (bB (af 3) (aL) aT)))))))
  (bw (oY (af 2))))
theorem Sk:yB P w K mg base "Net" 2 6 Bg:=by
 have h:=Zy (P:=P) (w:=w) (mg:=mg) (base:=base) (k:=5) (m:=vc) T.FA Xb;exact h fun _ _ _ _ _ _ _ au _ _=>
 uJ (LP (fJ (fp (c7 (Sn T) (au.mono (by decide)) (ak (af 1) (aI))))))
  (uJ (LP (fJ (fp (ik (uy _) T.hH T.ja (by kernel_rfl) (af 2)))))
  (uJ (x9 T.iU (e7 T.eO (ak (af 1) (aI))))
  (uJ (x9 T.iU (LM T.nY (ak (af 1) (aI))))
  (uJ (x9 T.iU (LM T.nY (ak (af 2) (aI))))
  (ZA (x9 T.iU (Zk (c7 (So T) (au.mono (by decide)) (ak (mz T.iU (af 0)) (ak (mz T.iU (af 0)) (aI)))))))))))
theorem SP:dt P w K mg base "_law_row" 2 1 p3:=by
 have h:=dK (P:=P) (w:=w) (mg:=mg) (base:=base) (k:=0) (m:=zr) T.Gh xx;exact h fun _ _ _ _ _ _ _ au _ _=>
 bC (dr 2 xx.a7 (LG (ak (c8 (f3 (N:=["_law_k","_law_draws_here"]) 1 [0] (by rfl) (iq T.hy (ak (aL) (aI))) (gY 0) (gf) (fun _ _ _ _ _ _ _=>bB (eW) (fz (bB (af 1) (af 0) aT) (aL)) aT))) (aI))))
  (bC (dr 3 xx.a7 (bB (c8 (fI (ak (e8) (ak (e8) (ak (e8) (ak (fz (bB (af 0) (aL) aT) (af 1)) (aI))))))) (fz (bB (af 0) (aL) aT) (aL)) aT))
  (bC (dr 4 xx.a7 (bB (c8 (fI (ak (fz (bB (af 0) (aL) aT) (af 1)) (ak (e8) (aI))))) (lL (fz (bB (af 0) (aL) aT) (aL)) (aL)) aT))
  (bw (cL (d2 (ak (af 2) (ak (af 3) (ak (af 4) (aI)))))))))
theorem SE:dt P w K mg base "_law_book" 2 2 p1:=by
 have h:=dK (P:=P) (w:=w) (mg:=mg) (base:=base) (k:=1) (m:=zd) T.F2 uf;exact h fun _ _ _ _ _ _ _ au _ _=>
 bC (dr 2 uf.a7 (c8 (nF (A6 T) (au.mono (by decide)) (ak (af 0) (ak (aL) (aI))))))
  (bC (dr 3 uf.a7 (bB (c8 (fI (ak (fz (bB (af 2) (aL) aT) (aL)) (ak (fz (bB (af 2) (aL) aT) (aL)) (aI))))) (lL (fz (bB (af 2) (aL) aT) (aL)) (aL)) aT))
  (bC (uM (x_ (N:=["_law_k","_law_count","_law_draws_here"]) 4 1 [1,2] uf.a7 (by rfl) (iq T.hy (ak (af 3) (aI))) (gY 0) (gf) (fun _ _ _ _ _ _ _=>c7 (SP T) (au.mono (by decide)) (ak (qr (af 2) (oW (hq (aL) (r4 (aL) (af 0)))) (oW (hq (aL) (r4 (aL) (af 0))))) (ak (af 1) (aI))))))
  (bC (dm (ya (fz (bB (af 2) (aL) aT) (aL)) (aL)) (bw (dr 4 uf.a7 (hq (qr (af 4) (r6) (oW (aL))) (c8 (fI (ak (d2 (ak (eW) (ak (e8) (ak (fz (bB (af 2) (aL) aT) (af 1)) (aI))))) (aI))))))) (dD))
  (bw (cL (af 4))))))
theorem H_:dt P w K mg base "_law_books" 3 3 ox:=by
 have h:=dK (P:=P) (w:=w) (mg:=mg) (base:=base) (k:=2) (m:=ze) T.F3 Xr;exact h fun _ _ _ _ _ _ _ au _ _=>
 bw (LU (f3 (N:=["_law_k","_law_many","_law_script","_law_start"]) 2 [0,1] (by rfl) (DS T.ve (ak (af 2) (aI))) (nX 0 1) (gf) (fun _ _ _ _ _ _ _=>c7 (SE T) (au.mono (by decide)) (ak (c7 (A5 T) (au.mono (by decide)) (ak (af 2) (ak (hq (af 3) (af 0)) (aI)))) (ak (af 1) (aI))))))
theorem wo:dt P w K mg base "_law_mixed" 2 2 lj:=by
 have h:=dK (P:=P) (w:=w) (mg:=mg) (base:=base) (k:=1) (m:=zk) T.F_ Xu;exact h fun _ _ _ _ _ _ _ au _ _=>
 bw (cL (bB (c8 (nF (A6 T) (au.mono (by decide)) (ak (af 0) (ak (hq (af 1) (aL)) (aI))))) (af 1) aT))
theorem SJ:dt P w K mg base "_law_new_books" 3 4 tS:=by
 have h:=dK (P:=P) (w:=w) (mg:=mg) (base:=base) (k:=3) (m:=zm) T.Gb ui;exact h fun _ _ _ _ _ _ _ au _ _=>
 bC (dr 3 ui.a7 (c8 (nF (H_ T) (au.mono (by decide)) (ak (af 0) (ak (aL) (ak (af 2) (aI)))))))
  (bC (dr 4 ui.a7 (c7 (wo T) (au.mono (by decide)) (ak (c7 (A5 T) (au.mono (by decide)) (ak (af 0) (ak (aL) (aI)))) (ak (aL) (aI)))))
  (bC (lM 5 ui.a7 (fI (aI)))
  (bC (gs adw (iq T.hy (ak (e7 T.eO (ak (af 2) (aI))) (aI))) (fi 6 ui.a7) (bw (qs 5 (bB (c8 (fI (ak (bB (af 1) (af 6) aT) (ak (bB (af 3) (af 6) aT) (aI))))) (Zt T.vg (ak (Zn (fz (lL (af 4) (hq (af 6) (aL))) (aL)) (aL)) (aI))) aT))))
  (bw (uL 5)))))
theorem SM:dt P w K mg base "_law_outer" 1 1 wJ:=by
 have h:=dK (P:=P) (w:=w) (mg:=mg) (base:=base) (k:=0) (m:=zp) T.Ge xw;exact h fun _ _ _ _ _ _ _ au _ _=>
 bC (dr 1 xw.a7 (hq (c8 (f3 (N:=["_law_one","_law_other"]) 2 [] (by rfl) (fq (bB (af 0) (aL) aT)) (nX 0 1) (gf) (fun _ _ _ _ _ _ _=>af 0))) (c8 (f3 (N:=["_law_one","_law_other"]) 2 [] (by rfl) (fq (bB (af 0) (aL) aT)) (nX 0 1) (gf) (fun _ _ _ _ _ _ _=>af 1)))))
  (bC (lM 2 xw.a7 (fI (aI)))
  (bC (gs adw (iq T.hy (ak (e7 T.eO (ak (bB (af 0) (aL) aT) (aI))) (aI))) (fi 3 xw.a7) (bw (uK (LC 2 (c8 (f3 (N:=["_law_door","_law_house","_law_used"]) 1 [3,1] (by rfl) (iq T.hy (ak (bB (bB (af 0) (aL) aT) (af 3) aT) (aI))) (gY 0) (uG (fun _ _ _ _ _ _ _=>qt au.units (d2 (ak (af 1) (ak (af 0) (aI)))) (af 2))) (fun _ _ _ _ _ _ _=>d2 (ak (af 1) (ak (af 0) (aI))))))))))
  (bw (uL 2))))
theorem SQ:dt P w K mg base "_law_signs" 1 1 rL:=by
 have h:=dK (P:=P) (w:=w) (mg:=mg) (base:=base) (k:=0) (m:=zt) T.Gi Xv;exact h fun _ _ _ _ _ _ _ au _ _=>
 bw (cL (LG (ak (c8 (f3 (N:=["_law_worth","_law_address"]) 1 [0] (by rfl) (fq (c8 (fI (ak (aL) (ak (aL) (ak (aL) (ak (aL) (aI)))))))) (gY 0) (gf) (fun _ _ _ _ _ _ _=>LL T.sA (ak (fz (lL (af 1) (af 0)) (aL)) (aI))))) (aI))))
theorem SH:dt P w K mg base "_law_is_like" 2 1 p2:=by
 have h:=dK (P:=P) (w:=w) (mg:=mg) (base:=base) (k:=0) (m:=zj) T.F9 Xt;exact h fun _ _ _ _ _ _ _ au _ _=>
 bw (cL (oV au T.mT (ak (c8 (f3 (N:=["_law_mark","_law_sign"]) 2 [] (by rfl) (ZO T.zB (ak (af 0) (ak (af 1) (aI)))) (nX 0 1) (gf) (fun _ _ _ _ _ _ _=>LK (r3 au.units (af 0) (eW)) (jY (r3 au.units (af 0) (af 1)))))) (aI))))
theorem SK:dt P w K mg base "_law_out" 3 2 rK:=by
 have h:=dK (P:=P) (w:=w) (mg:=mg) (base:=base) (k:=1) (m:=zo) T.Gd xv;exact h fun _ _ _ _ _ _ _ au _ _=>
 bC (gs adw (fq (af 0)) (tZ rfl (lq (fi 3 xv.a7) (lq (fi 4 xv.a7) (lq (fi 5 xv.a7) (tY))))) (bw (dm (gF (r7 (fp (c7 (SH T) (au.mono (by decide)) (ak (af 3) (ak (af 2) (aI))))) (r8 (gF (hU (nG (af 4) (e8)) (ip (il au.units (af 4) (af 1)))))))) (bw (cL (af 5))) (dD))))
  (bw (cL (e8)))
theorem SD:dt P w K mg base "_law_beyond" 2 1 p0:=by
 have h:=dK (P:=P) (w:=w) (mg:=mg) (base:=base) (k:=0) (m:=zc) T.F1 CT;exact h fun _ _ _ _ _ _ _ au _ _=>
 bC (gs adw (fq (bB (af 0) (aL) aT)) (tZ rfl (lq (fi 2 CT.a7) (lq (fi 3 CT.a7) (tY)))) (bC (dm (il au.units (af 2) (af 1)) (bw (cL (af 3))) (dD))
  (bw (dm (il au.units (af 3) (af 1)) (bw (cL (af 2))) (dD)))))
  (bw (cL (e8)))
theorem SO:dt P w K mg base "_law_road" 4 3 wK:=by
 have h:=dK (P:=P) (w:=w) (mg:=mg) (base:=base) (k:=2) (m:=EA) T.Gg rT;exact h fun _ _ _ _ _ _ _ au _ _=>
 bC (dr 4 rT.a7 (c7 (SQ T) (au.mono (by decide)) (ak (af 3) (aI))))
  (bC (lM 5 rT.a7 (fI (aI)))
  (bC (LX adw (uN (qt au.units (af 2) (af 5))) (bC (qs 5 (af 2))
  (bC (dr 6 rT.a7 (c7 (SK T) (au.mono (by decide)) (ak (bB (af 1) (bB (af 2) (aL) aT) aT) (ak (bB (af 2) (aL) aT) (ak (af 4) (aI))))))
  (bC (dm (nG (af 6) (e8)) (bw (oY (d2 (ak (af 5) (ak (d2 (ak (eW) (ak (bB (af 2) (aL) aT) (aI)))) (aI)))))) (dD))
  (bC (dr 7 rT.a7 (c7 (SD T) (au.mono (by decide)) (ak (af 0) (ak (d2 (ak (bB (af 2) (aL) aT) (ak (af 6) (aI)))) (aI)))))
  (bC (dm (nG (af 7) (e8)) (bw (oY (d2 (ak (af 5) (ak (d2 (ak (eW) (ak (bB (af 2) (aL) aT) (ak (af 6) (aI))))) (aI)))))) (dD))
  (bw (dr 2 rT.a7 (af 7)))))))))
  (bw (oY (d2 (ak (af 5) (ak (d2 (ak (eW) (ak (DK au.units (af 5) (ak (af 2) (aI))) (aI)))) (aI))))))))
theorem Ia:dt P w K mg base "_law_houses" 2 4 tR:=by
 have h:=dK (P:=P) (w:=w) (mg:=mg) (base:=base) (k:=3) (m:=zi) T.F8 uh;exact h fun _ _ _ _ _ _ _ au _ _=>
 bC (LV 2 uh.a7)
  (bC (gs adw (fq (c8 (nF (SM T) (au.mono (by decide)) (ak (af 0) (aI))))) (fi 3 uh.a7) (bw (gs adw (iq T.hy (ak (aL) (aI))) (fi 4 uh.a7) (bC (dr 5 uh.a7 (bB (c7 (SO T) (au.mono (by decide)) (ak (af 0) (ak (af 1) (ak (af 3) (ak (af 4) (aI)))))) (aL) aT))
  (bw (DP 2 au.units (d2 (ak (af 3) (ak (af 4) (aI)))) (c8 (f3 (N:=["_law_house","_law_entry"]) 2 [] (by rfl) (fq (af 5)) (nX 0 1) (gf) (fun _ _ _ _ _ _ _=>af 0)))))))))
  (bw (oY (af 2))))
theorem SN:dt P w K mg base "_law_plan" 2 3 tT:=by
 have h:=dK (P:=P) (w:=w) (mg:=mg) (base:=base) (k:=2) (m:=zq) T.Gf nx;exact h fun _ _ _ _ _ _ _ au _ _=>
 bC (dr 2 nx.a7 (c8 (ZF T.ja T.hy (ak (af 1) (aI)))))
  (bC (lM 3 nx.a7 (ZD (c8 (f3 (N:=["_law_house"]) 1 [] (by rfl) (fq (af 2)) (gY 0) (gf) (fun _ _ _ _ _ _ _=>d2 (ak (eW) (ak (af 0) (aI)))))) (c8 (f3 (N:=["_law_house"]) 1 [] (by rfl) (fq (af 2)) (gY 0) (gf) (fun _ _ _ _ _ _ _=>d2 (ak (eW) (ak (af 0) (aI))))))))
  (bC (lM 3 nx.a7 (ZC (ZE 3 (c8 (fI (ak (d2 (ak (eW) (aI))) (aI))))) (c8 (f3 (N:=["_law_house"]) 1 [] (by rfl) (fq (af 2)) (gY 0) (gf) (fun _ _ _ _ _ _ _=>d2 (ak (eW) (ak (af 0) (aI))))))))
  (bC (gs adw (fq (af 0)) (fi 4 nx.a7) (bC (dr 5 nx.a7 (uH (fz (c7 (wo T) (au.mono (by decide)) (ak (af 4) (ak (aL) (aI)))) (e7 T.eO (ak (af 3) (aI))))))
  (bC (dr 6 nx.a7 (fz (c7 (wo T) (au.mono (by decide)) (ak (af 4) (ak (aL) (aI)))) (aL)))
  (bw (dm (uN (gF (r7 (il au.units (af 6) (aL)) (r8 (ya (e7 T.eO (ak (af 3) (aI))) (aL)))))) (bw (uK (x8 3 (af 5)))) (bw (dm (uN (gF (r7 (il au.units (af 6) (aL)) (r8 (DR (e7 T.eO (ak (af 3) (aI))) (aL)))))) (bw (uK (LF 3 (af 5) (d2 (ak (eW) (aI)))))) (bw (dm (DR (af 6) (aL)) (bC (LW 7 nx.a7 (x8 3 (af 5)))
  (bC (dr 8 nx.a7 (uH (bB (c8 (fI (ak (hq (af 5) (aL)) (ak (LH T.zw (ak (aL) (ak (mA (af 5) (aL)) (aI)))) (ak (fz (c7 (wo T) (au.mono (by decide)) (ak (af 4) (ak (aL) (aI)))) (hq (e7 T.eO (ak (af 3) (aI))) (aL))) (aI)))))) (mA (af 6) (aL)) aT)))
  (bw (uK (LF 3 (af 8) (af 7)))))) (dD))))))))))
  (bw (uL 3)))))
theorem SR:dt P w K mg base "_law_turned" 3 1 wL:=by
 have h:=dK (P:=P) (w:=w) (mg:=mg) (base:=base) (k:=0) (m:=zu) T.Gj uj;exact h fun _ _ _ _ _ _ _ au _ _=>
 bC (uM (ZJ 3 uj.a7 (f3 (N:=["_law_step"]) 1 [] (by rfl) (fq (qr (af 0) (r6) (oW (af 1)))) (gY 0) (uG (fun _ _ _ _ _ _ _=>il au.units (bB (af 0) (aL) aT) (eW))) (fun _ _ _ _ _ _ _=>bB (af 0) (aL) aT))))
  (bC (gs adw (fq (c8 (LQ au.hd au.units T.zz (ak (af 2) (aI))))) (tZ rfl (lq (fi 4 uj.a7) (lq (fi 5 uj.a7) (tY)))) (bw (dm (il au.units (bB (af 4) (aL) aT) (bB (bB (af 0) (af 1) aT) (aL) aT)) (bC (uM (x_ (N:=["_law_house","_law_taught"]) 6 1 [3] uj.a7 (by rfl) (fq (LB au.units (af 2) (d2 (ak (af 4) (ak (af 5) (aI)))) (by intro _ _;rfl))) (gY 0) (uG (fun _ _ _ _ _ _ _=>qt au.units (af 0) (af 1))) (fun _ _ _ _ _ _ _=>af 0)))
  (bw (dm (nH au.units (af 6) (c8 (fI (aI)))) (bw (cL (d2 (ak (af 1) (ak (af 4) (ak (af 5) (ak (bB (af 6) (aL) aT) (aI)))))))) (dD)))) (dD))))
  (bw (cL (e8))))
theorem SG:dt P w K mg base "_law_forgot" 3 1 wI:=by
 have h:=dK (P:=P) (w:=w) (mg:=mg) (base:=base) (k:=0) (m:=zh) T.F7 qd;exact h fun _ _ _ _ _ _ _ au _ _=>
 bC (dr 3 qd.a7 (c8 (fI (aI))))
  (bC (lM 4 qd.a7 (fI (aI)))
  (bC (gs adw (fq (qr (af 0) (r6) (oW (af 1)))) (fi 5 qd.a7) (bC (dm (il au.units (bB (af 5) (aL) aT) (eW)) (bw (qs 4 (bB (af 5) (aL) aT))) (dD))
  (bw (dm (il au.units (bB (af 5) (aL) aT) (eW)) (bw (dr 3 qd.a7 (c8 (ZG 4 T.ja)))) (dD)))))
  (bC (gs adw (fq (c8 (LQ au.hd au.units T.zz (ak (af 2) (aI))))) (tZ rfl (lq (fi 6 qd.a7) (lq (fi 7 qd.a7) (tY)))) (bw (dm (gF (r7 (qt au.units (bB (af 6) (aL) aT) (af 3)) (r8 (L0 au.units (bB (bB (af 0) (af 1) aT) (aL) aT) (LB au.units (af 2) (d2 (ak (af 6) (ak (af 7) (aI)))) (by intro _ _;rfl)))))) (bw (cL (d2 (ak (af 1) (ak (af 6) (ak (af 7) (ak (bB (bB (af 0) (af 1) aT) (aL) aT) (aI)))))))) (dD))))
  (bw (cL (e8))))))
theorem SF:dt P w K mg base "_law_due" 3 2 wH:=by
 have h:=dK (P:=P) (w:=w) (mg:=mg) (base:=base) (k:=1) (m:=zg) T.F6 ug;exact h fun _ _ _ _ _ _ _ au _ _=>
 bC (gs adw (iq T.hy (ak (e7 T.eO (ak (af 0) (aI))) (aI))) (fi 3 ug.a7) (bC (dr 4 ug.a7 (e8))
  (bC (dm (il au.units (bB (bB (af 0) (af 3) aT) (aL) aT) (eW)) (bw (dr 4 ug.a7 (c7 (SR T) (au.mono (by decide)) (ak (af 0) (ak (af 3) (ak (af 2) (aI))))))) (dD))
  (bC (dm (il au.units (bB (bB (af 0) (af 3) aT) (aL) aT) (eW)) (bw (dr 4 ug.a7 (c7 (SG T) (au.mono (by decide)) (ak (af 0) (ak (af 3) (ak (af 1) (aI))))))) (dD))
  (bw (dm (L1 (af 4) (e8)) (bw (cL (af 4))) (dD)))))))
  (bw (cL (e8)))
theorem H8:dt P w K mg base "is_pattern" 1 1 rE:=by
 have h:=dK (P:=P) (w:=w) (mg:=mg) (base:=base) (k:=0) (m:=y5) T.FR Xm;exact h fun _ _ _ _ _ _ _ au _ _=>
 bC (dm (gF (hU (fJ (fp (ik (Lc _) T.hH T.sA (by kernel_rfl) (af 0)))) (ip (nH au.units (e7 T.eO (ak (af 0) (aI))) (e7 T.eO (ak (lK T.n3) (aI))))))) (bw (cL (hT))) (dD))
  (bw (cL (oV au T.mT (ak (c8 (f3 (N:=["sign"]) 1 [] (by rfl) (ZL (af 0)) (gY 0) (gf) (fun _ _ _ _ _ _ _=>uI au.units (af 0) (lK T.qO)))) (aI)))))
theorem H6:dt P w K mg base "is_number_or_none" 2 3 ow:=by
 have h:=dK (P:=P) (w:=w) (mg:=mg) (base:=base) (k:=2) (m:=vh) T.FP Xk;exact h fun _ _ _ _ _ _ _ au _ _=>
 bw (cL (LK (DL (af 0) (e8)) (jY (c7 (rk T) (au.mono (by decide)) (ak (af 0) (ak (aL) (ak (mA (af 1) (aL)) (aI))))))))
theorem Sw:dt P w K mg base "is_row" 2 4 rG:=by
 have h:=dK (P:=P) (w:=w) (mg:=mg) (base:=base) (k:=3) (m:=y7) T.FU Xn;exact h fun _ _ _ _ _ _ _ au _ _=>
 bC (dm (gF (hU (fJ (fp (ik (uz _) T.hH T.nY (by kernel_rfl) (af 0)))) (ip (nH au.units (e7 T.eO (ak (af 0) (aI))) (aL))))) (bw (cL (hT))) (dD))
  (bC (dm (fJ (fp (c7 (H8 T) (au.mono (by decide)) (ak (bB (af 0) (aL) aT) (aI))))) (bw (cL (hT))) (dD))
  (bw (cL (lJ (c7 (H6 T) (au.mono (by decide)) (ak (bB (af 0) (aL) aT) (ak (af 1) (aI)))) (jY (c7 (H6 T) (au.mono (by decide)) (ak (bB (af 0) (aL) aT) (ak (af 1) (aI)))))))))
theorem Ss:dt P w K mg base "is_book" 2 5 rD:=by
 have h:=dK (P:=P) (w:=w) (mg:=mg) (base:=base) (k:=4) (m:=y2) T.FL Xh;exact h fun _ _ _ _ _ _ _ au _ _=>
 bC (dm (gF (hU (fJ (fp (ik (uy _) T.hH T.ja (by kernel_rfl) (af 0)))) (ip (ya (e7 T.eO (ak (af 0) (aI))) (lK T.qM))))) (bw (cL (hT))) (dD))
  (bw (cL (oV au T.mT (ak (c8 (f3 (N:=["row","doors"]) 1 [1] (by rfl) (fq (af 0)) (gY 0) (gf) (fun _ _ _ _ _ _ _=>c7 (Sw T) (au.mono (by decide)) (ak (af 0) (ak (af 1) (aI)))))) (aI)))))
theorem Sj:o2 P w K mg base "Net" "count" 1 1 wB:=by
 have h:=DO (P:=P) (w:=w) (mg:=mg) (base:=base) (k:=0) (m:=yU) T.Fz Xa;exact h fun _ _ _ _ _ _ _ au _ _=>
 bw (cL (LD (LY t9 I_ t7 UN (aL) (af 1) (mz T.iU (af 0))) (bB (mz T.iU (af 0)) (af 1) aT) (aL)))
theorem Su:dt P w K mg base "is_books" 2 6 tN:=by
 have h:=dK (P:=P) (w:=w) (mg:=mg) (base:=base) (k:=5) (m:=y3) T.FN Xi;exact h fun _ _ _ _ _ _ _ au _ _=>
 bC (dm (gF (hU (fJ (fp (ik (uy _) T.hH T.ja (by kernel_rfl) (af 0)))) (ip (nH au.units (e7 T.eO (ak (af 0) (aI))) (mz T.iU (af 1)))))) (bw (cL (hT))) (dD))
  (bw (cL (oV au T.mT (ak (c8 (f3 (N:=["house","book","net"]) 2 [1] (by rfl) (DS T.ve (ak (af 0) (aI))) (nX 0 1) (gf) (fun _ _ _ _ _ _ _=>c7 (Ss T) (au.mono (by decide)) (ak (af 1) (ak (LI (Sj T) (au.mono (by decide)) (af 2) (ak (af 0) (aI))) (aI)))))) (aI)))))
theorem Ib:qF P w K mg base "refuse_unless_books" 2 7 wN:=by
 have h:=DH (P:=P) (w:=w) (mg:=mg) (base:=base) (k:=6) (m:=zx) T.Gp Xx;exact h fun _ _ _ _ _ _ _ au _ _=>
 bw (dm (LO (fJ (fp (c7 (Su T) (au.mono (by decide)) (ak (af 0) (ak (af 1) (aI))))))) (bw (LS T.Ly)) (dD))
theorem Sx:dt P w K mg base "is_step" 2 3 wG:=by
 have h:=dK (P:=P) (w:=w) (mg:=mg) (base:=base) (k:=2) (m:=y8) T.FV Xo;exact h fun _ _ _ _ _ _ _ au _ _=>
 bC (dm (gF (hU (fJ (fp (ik (uz _) T.hH T.nY (by kernel_rfl) (af 0)))) (hU (qt au.units (e7 T.eO (ak (af 0) (aI))) (d2 (ak (aL) (ak (aL) (aI))))) (ip (fJ (fp (ik (Lc _) T.hH T.sA (by kernel_rfl) (bB (af 0) (aL) aT)))))))) (bw (cL (hT))) (dD))
  (bC (dm (il au.units (e7 T.eO (ak (af 0) (aI))) (aL)) (bw (cL (r3 au.units (bB (af 0) (aL) aT) (eW)))) (dD))
  (bw (cL (lJ (uI au.units (bB (af 0) (aL) aT) (d2 (ak (eW) (ak (eW) (ak (eW) (aI)))))) (jY (c7 (rk T) (au.mono (by decide)) (ak (bB (af 0) (aL) aT) (ak (aL) (ak (mA (mz T.iU (af 1)) (aL)) (aI))))))))))
theorem Sv:dt P w K mg base "is_plan" 2 4 rF:=by
 have h:=dK (P:=P) (w:=w) (mg:=mg) (base:=base) (k:=3) (m:=y6) T.FT J3;exact h fun _ _ _ _ _ _ _ au _ _=>
 bC (dm (gF (hU (fJ (fp (ik (uy _) T.hH T.ja (by kernel_rfl) (af 0)))) (ip (ya (e7 T.eO (ak (af 0) (aI))) (lK T.qN))))) (bw (cL (hT))) (dD))
  (bC (dm (fJ (fp (oV au T.mT (ak (c8 (f3 (N:=["step","net"]) 1 [1] (by rfl) (fq (af 0)) (gY 0) (gf) (fun _ _ _ _ _ _ _=>c7 (Sx T) (au.mono (by decide)) (ak (af 0) (ak (af 1) (aI)))))) (aI))))) (bw (cL (hT))) (dD))
  (bC (uM (x_ (N:=["step"]) 2 1 [] J3.a7 (by rfl) (fq (af 0)) (gY 0) (uG (fun _ _ _ _ _ _ _=>nH au.units (af 0) (lK T.iJ))) (fun _ _ _ _ _ _ _=>af 0)))
  (bw (cL (r3 au.units (Zo au.hd au.units T.eO T.EC (ak (af 2) (aI))) (e7 T.eO (ak (af 2) (aI))))))))
theorem SW:qF P w K mg base "refuse_unless_plan" 4 8 Bk:=by
 have h:=DH (P:=P) (w:=w) (mg:=mg) (base:=base) (k:=7) (m:=zy) T.Gq Xy;exact h fun _ _ _ _ _ _ _ au _ _=>
 bC (DQ (DJ (Ib T) (au.mono (by decide)) (DN (ak (af 1) (ak (af 0) (aI))))))
  (bC (DQ (DJ (Ib T) (au.mono (by decide)) (DN (ak (af 2) (ak (af 0) (aI))))))
  (bw (dm (LO (fJ (fp (c7 (Sv T) (au.mono (by decide)) (ak (af 3) (ak (af 0) (aI))))))) (bw (LS T.Lz)) (dD))))
theorem Sl:o2 P w K mg base "Net" "outer" 0 1 wC:=by
 have h:=DO (P:=P) (w:=w) (mg:=mg) (base:=base) (k:=0) (m:=yV) T.FC xu;exact h fun _ _ _ _ _ _ _ au _ _=>
 bC (lM 1 xu.a7 (fI (aI)))
  (bC (gs adw (iq T.hy (ak (mz T.iU (af 0)) (aI))) (fi 2 xu.a7) (bw (gs adw (iq T.hy (ak (bB (mz T.iU (af 0)) (af 2) aT) (aI))) (fi 3 xu.a7) (bw (dm (ZK au.units (d2 (ak (af 2) (ak (af 3) (aI)))) (mz T.iU (af 0))) (bw (qs 1 (d2 (ak (af 2) (ak (af 3) (aI)))))) (dD))))))
  (bw (uL 1)))
theorem Sr:dt P w K mg base "is_address" 1 3 wF:=by
 have h:=dK (P:=P) (w:=w) (mg:=mg) (base:=base) (k:=2) (m:=y1) T.FK Xg;exact h fun _ _ _ _ _ _ _ au _ _=>
 bw (cL (c7 (rk T) (au.mono (by decide)) (ak (af 0) (ak (aL) (ak (lK T.n0) (aI))))))
theorem H4:dt P w K mg base "fits" 2 4 pY:=by
 have h:=dK (P:=P) (w:=w) (mg:=mg) (base:=base) (k:=3) (m:=yZ) T.FI Xf;exact h fun _ _ _ _ _ _ _ au _ _=>
 bC (dm (gF (hU (fJ (fp (c7 (H8 T) (au.mono (by decide)) (ak (af 0) (aI))))) (ip (fJ (fp (c7 (Sr T) (au.mono (by decide)) (ak (af 1) (aI)))))))) (bw (cL (hT))) (dD))
  (bw (cL (oV au T.mT (ak (c8 (f3 (N:=["sign","worth","address"]) 2 [1] (by rfl) (ZN T.zB (ak (af 0) (ak (lK T.n3) (aI)))) (nX 0 1) (gf) (fun _ _ _ _ _ _ _=>uI au.units (af 0) (d2 (ak (eW) (ak (LL T.sA (ak (fz (lL (af 2) (af 1)) (aL)) (aI))) (aI))))))) (aI)))))
theorem Sm:dt P w K mg base "addresses" 1 5 Bh:=by
 have h:=dK (P:=P) (w:=w) (mg:=mg) (base:=base) (k:=4) (m:=Ex) T.FD Xc;exact h fun _ _ _ _ _ _ _ au _ _=>
 bw (LU (f3 (N:=["address","pattern"]) 1 [0] (by rfl) (iq T.hy (ak (hq (lK T.n0) (aL)) (aI))) (gY 0) (uG (fun _ _ _ _ _ _ _=>fp (c7 (H4 T) (au.mono (by decide)) (ak (af 1) (ak (af 0) (aI)))))) (fun _ _ _ _ _ _ _=>af 0)))
theorem Sp:dt P w K mg base "first_untaught" 2 1 tM:=by
 have h:=dK (P:=P) (w:=w) (mg:=mg) (base:=base) (k:=0) (m:=yY) T.FH J2;exact h fun _ _ _ _ _ _ _ au _ _=>
 bC (gs adw (fq (af 1)) (fi 2 J2.a7) (bw (dm (qt au.units (d2 (ak (eW) (ak (bB (af 2) (aL) aT) (aI)))) (af 0)) (bw (cL (bB (af 2) (aL) aT))) (dD))))
  (bw (cL (e8)))
theorem SX:dt P w K mg base "taken" 3 5 wO:=by
 have h:=dK (P:=P) (w:=w) (mg:=mg) (base:=base) (k:=4) (m:=zA) T.Gr CU;exact h fun _ _ _ _ _ _ _ au _ _=>
 bC (gs adw (DS T.ve (ak (af 0) (aI))) (tZ rfl (lq (fi 3 CU.a7) (lq (fi 4 CU.a7) (tY)))) (bw (dm (gF (r7 (gF (hU (nG (bB (af 4) (aL) aT) (e8)) (ip (il au.units (bB (af 4) (aL) aT) (af 1))))) (r8 (fp (c7 (H4 T) (au.mono (by decide)) (ak (bB (af 4) (aL) aT) (ak (af 2) (aI)))))))) (bw (cL (af 3))) (dD))))
  (bw (cL (e8)))
theorem Si:o2 P w K mg base "Net" "beyond" 1 1 tJ:=by
 have h:=DO (P:=P) (w:=w) (mg:=mg) (base:=base) (k:=0) (m:=yT) T.Fy W_;exact h fun _ _ _ _ _ _ _ au _ _=>
 bw (cL (Zm au.units (mz T.iU (af 0)) (af 1)))
theorem SV:dt P w K mg base "onward" 4 6 ni:=by
 have h:=dK (P:=P) (w:=w) (mg:=mg) (base:=base) (k:=5) (m:=qK) T.Gn xy;exact h fun _ _ _ _ _ _ _ au _ _=>
 bC (dr 4 xy.a7 (c7 (SX T) (au.mono (by decide)) (ak (af 1) (ak (bB (af 2) (aL) aT) (ak (af 3) (aI))))))
  (bC (dr 5 xy.a7 (LD (nG (af 4) (e8)) (e8) (bB (bB (af 1) (af 4) aT) (aL) aT)))
  (bC (dm (nG (af 5) (e8)) (bw (cL (d2 (ak (eW) (ak (bB (af 2) (aL) aT) (aI)))))) (dD))
  (bC (dr 6 xy.a7 (LI (Si T) (au.mono (by decide)) (af 0) (ak (d2 (ak (bB (af 2) (aL) aT) (ak (af 5) (aI)))) (aI))))
  (bC (dm (nG (af 6) (e8)) (bw (cL (d2 (ak (eW) (ak (bB (af 2) (aL) aT) (ak (af 5) (aI))))))) (dD))
  (bw (cL (d2 (ak (eW) (ak (bB (af 6) (aL) aT) (ak (bB (af 6) (aL) aT) (aI)))))))))))
theorem Ic:dt P w K mg base "walked" 4 7 tU:=by
 have h:=dK (P:=P) (w:=w) (mg:=mg) (base:=base) (k:=6) (m:=ED) T.Gs xA;exact h fun _ _ _ _ _ _ _ au _ _=>
 bC (lM 4 xA.a7 (fI (aI)))
  (bC (LX adw (uN (qt au.units (af 2) (af 4))) (bC (qs 4 (af 2))
  (bC (dr 5 xA.a7 (c7 (SV T) (au.mono (by decide)) (ak (af 0) (ak (bB (af 1) (bB (af 2) (aL) aT) aT) (ak (af 2) (ak (af 3) (aI)))))))
  (bC (dm (nH au.units (bB (af 5) (aL) aT) (eW)) (bw (oY (d2 (ak (af 4) (ak (af 5) (aI)))))) (dD))
  (bw (dr 2 xA.a7 (d2 (ak (bB (af 5) (aL) aT) (ak (bB (af 5) (aL) aT) (aI))))))))))
  (bw (oY (d2 (ak (af 4) (ak (d2 (ak (eW) (ak (DK au.units (af 4) (ak (af 2) (aI))) (aI)))) (aI)))))))
theorem Sy:dt P w K mg base "is_waited_for" 2 1 tQ:=by
 have h:=dK (P:=P) (w:=w) (mg:=mg) (base:=base) (k:=0) (m:=vi) T.FW J4;exact h fun _ _ _ _ _ _ _ au _ _=>
 bC (dr 2 J4.a7 (d2 (ak (eW) (ak (af 1) (aI)))))
  (bw (cL (lJ (uI au.units (af 2) (af 0)) (jY (uI au.units (lK T.iJ) (qr (af 0) (oW (DK au.units (af 0) (ak (af 2) (aI)))) (r6)))))))
theorem Sq:dt P w K mg base "house_at_fault" 7 8 wD:=by
 have h:=dK (P:=P) (w:=w) (mg:=mg) (base:=base) (k:=7) (m:=y0) T.FJ CS;exact h fun _ _ _ _ _ _ _ au _ _=>
 bC (dr 7 CS.a7 (bB (af 3) (af 4) aT))
  (bC (dr 8 CS.a7 (qr (af 3) (r6) (oW (af 4))))
  (bC (dm (il au.units (af 7) (d2 (ak (eW) (ak (bB (af 5) (aL) aT) (aI))))) (bw (cL (c7 (Sp T) (au.mono (by decide)) (ak (af 8) (ak (bB (c7 (Ic T) (au.mono (by decide)) (ak (af 0) (ak (af 2) (ak (af 5) (ak (af 6) (aI)))))) (aL) aT) (aI)))))) (dD))
  (bC (dm (gF (r7 (il au.units (bB (af 7) (aL) aT) (eW)) (r8 (fJ (fp (c7 (Sy T) (au.mono (by decide)) (ak (af 8) (ak (bB (af 5) (aL) aT) (aI))))))))) (bw (dm (L0 au.units (bB (af 7) (aL) aT) (c8 (f3 (N:=["house","number"]) 2 [] (by rfl) (fq (bB (c7 (Ic T) (au.mono (by decide)) (ak (af 0) (ak (af 1) (ak (af 5) (ak (af 6) (aI)))))) (aL) aT)) (nX 0 1) (gf) (fun _ _ _ _ _ _ _=>af 0)))) (bw (cL (bB (af 7) (aL) aT))) (dD))) (dD))
  (bw (cL (e8))))))
theorem SU:dt P w K mg base "least_fault" 4 9 wM:=by
 have h:=dK (P:=P) (w:=w) (mg:=mg) (base:=base) (k:=8) (m:=zv) T.Gl uk;exact h fun _ _ _ _ _ _ _ au _ _=>
 bC (gs adw (iq T.hy (ak (e7 T.eO (ak (af 3) (aI))) (aI))) (fi 4 uk.a7) (bw (gs adw (fq (Zq (Sl T) (au.mono (by decide)) (af 0))) (fi 5 uk.a7) (bw (gs adw (fq (c8 (nF (Sm T) (au.mono (by decide)) (ak (eW) (aI))))) (fi 6 uk.a7) (bC (dr 7 uk.a7 (c7 (Sq T) (au.mono (by decide)) (ak (af 0) (ak (af 1) (ak (af 2) (ak (af 3) (ak (af 4) (ak (af 5) (ak (af 6) (aI))))))))))
  (bw (dm (L1 (af 7) (e8)) (bw (cL (d2 (ak (af 4) (ak (af 5) (ak (af 6) (ak (af 7) (aI)))))))) (dD)))))))))
  (bw (cL (e8)))
theorem H3:qF P w K mg base "fault" 4 10 tL:=by
 have h:=DH (P:=P) (w:=w) (mg:=mg) (base:=base) (k:=9) (m:=yX) T.FG Xe;exact h fun _ _ _ _ _ _ _ au _ _=>
 bC (DQ (DJ (SW T) (au.mono (by decide)) (DN (ak (af 0) (ak (af 1) (ak (af 2) (ak (af 3) (aI))))))))
  (bw (Zz (cL (c7 (SU T) (au.mono (by decide)) (ak (af 0) (ak (af 1) (ak (af 2) (ak (af 3) (aI)))))))))
theorem SS:dt P w K mg base "_law_whole" 1 1 Bj:=by
 have h:=dK (P:=P) (w:=w) (mg:=mg) (base:=base) (k:=0) (m:=EB) T.Gk Xw;exact h fun _ _ _ _ _ _ _ au _ _=>
 bw (cL (lJ (ik (Lb _) T.hH T.vg (by kernel_rfl) (af 0)) (jY (LJ (ik (La _) T.hH T.yW (by kernel_rfl) (af 0))))))
theorem H9:dt P w K mg base "_law_alike" 2 2 rI:=by
 have h:=dK (P:=P) (w:=w) (mg:=mg) (base:=base) (k:=1) (m:=zb) T.F0 J6;exact h fun _ _ _ _ _ _ _ au _ _=>
 bC (dm (gF (hU (nG (af 1) (e8)) (ip (nG (af 0) (e8))))) (bw (cL (lJ (DL (af 0) (e8)) (jY (DL (af 1) (e8)))))) (dD))
  (bC (dm (gF (hU (fJ (fp (ik (uz _) T.hH T.nY (by kernel_rfl) (af 0)))) (ip (nH au.units (e7 T.eO (ak (af 0) (aI))) (aL))))) (bw (cL (hT))) (dD))
  (bC (dm (gF (hU (fJ (fp (ik (uz _) T.hH T.nY (by kernel_rfl) (bB (af 0) (aL) aT)))) (ip (nH au.units (e7 T.eO (ak (bB (af 0) (aL) aT) (aI))) (aL))))) (bw (cL (hT))) (dD))
  (bC (dr 2 J6.a7 (hq (c8 (fI (ak (bB (af 0) (aL) aT) (ak (bB (af 0) (aL) aT) (ak (bB (af 0) (aL) aT) (aI)))))) (c8 (r5 T.ja (ak (bB (af 0) (aL) aT) (aI))))))
  (bw (cL (lJ (oV au T.mT (ak (c8 (f3 (N:=["_law_part"]) 1 [] (by rfl) (fq (af 2)) (gY 0) (gf) (fun _ _ _ _ _ _ _=>c7 (SS T) (au.mono (by decide)) (ak (af 0) (aI))))) (aI))) (jY (r3 au.units (af 0) (af 1)))))))))
theorem MY(f:ada)(cv:ac1)(A:adG)(outer:List Env)(s:ac4)(H:ah)(E:dh)(au:dW 10 (A.deeper (ad3 "law" (b1 oI) s.heap.objs.size f cv)))(b8 bK:ah):i8 (e3 g7 P w K mg base ["_law_script","_law_parts","_law_net_here","_law_old","_law_new","_law_before","_law_fresh","_law_start","_law_plan_here","_law_handed","_law_due_here","_law_found"] "law" (b1 oI) f cv A outer s H E).hB (fe K b8 bK) (gh oI) za:=
 bC (dr 1 kv.a7 (c7 (SI T) (au.mono (by decide)) (ak (c7 (A5 T) (au.mono (by decide)) (ak (af 0) (ak (aL) (aI)))) (aI))))
  (bC (dr 2 kv.a7 (Zp (Sk T) (au.mono (by decide)) (ak (c8 (r5 T.ja (ak (bB (af 1) (aL) aT) (aI)))) (ak (c8 (r5 T.ja (ak (bB (af 1) (aL) aT) (aI)))) (aI)))))
  (bC (dr 3 kv.a7 (c8 (nF (H_ T) (au.mono (by decide)) (ak (af 0) (ak (aL) (ak (bB (af 1) (aL) aT) (aI)))))))
  (bC (dr 4 kv.a7 (c8 (nF (SJ T) (au.mono (by decide)) (ak (af 0) (ak (af 3) (ak (bB (af 1) (aL) aT) (aI)))))))
  (bC (dr 5 kv.a7 (c7 (Ia T) (au.mono (by decide)) (ak (af 1) (ak (af 3) (aI)))))
  (bC (dr 6 kv.a7 (c7 (Ia T) (au.mono (by decide)) (ak (af 1) (ak (af 4) (aI)))))
  (bC (gs adw (fq (c8 (fI (ak (aL) (ak (hq (aL) (lL (mA (e7 T.eO (ak (af 0) (aI))) (aL)) (aL))) (aI)))))) (fi 7 kv.a7) (bC (dr 8 kv.a7 (c8 (nF (SN T) (au.mono (by decide)) (ak (qr (af 0) (oW (LH T.zw (ak (aL) (ak (af 7) (aI))))) (r6)) (ak (e7 T.eO (ak (bB (af 1) (aL) aT) (aI))) (aI))))))
  (bC (dr 9 kv.a7 (c8 (fI (ak (c8 (f3 (N:=["_law_book_here"]) 1 [] (by rfl) (fq (af 3)) (gY 0) (gf) (fun _ _ _ _ _ _ _=>c8 (r5 T.ja (ak (af 0) (aI)))))) (ak (c8 (f3 (N:=["_law_book_here"]) 1 [] (by rfl) (fq (af 4)) (gY 0) (gf) (fun _ _ _ _ _ _ _=>c8 (r5 T.ja (ak (af 0) (aI)))))) (ak (c8 (r5 T.ja (ak (af 8) (aI)))) (aI)))))))
  (bC (dr 10 kv.a7 (c7 (SF T) (au.mono (by decide)) (ak (af 8) (ak (af 5) (ak (af 6) (aI))))))
  (bC (dr 11 kv.a7 (LA (H3 T) (au.mono (by decide)) (ak (af 2) (ak (bB (af 9) (aL) aT) (ak (bB (af 9) (aL) aT) (ak (bB (af 9) (aL) aT) (aI)))))))
  (bC (dm (gF (hU (fJ (fp (c7 (H9 T) (au.mono (by decide)) (ak (af 11) (ak (af 10) (aI)))))) (ip (nH au.units (af 9) (c8 (fI (ak (af 3) (ak (af 4) (ak (af 8) (aI)))))))))) (bw (cL (hT))) (dD))
  (bw (dm (fJ (fp (c7 (H9 T) (au.mono (by decide)) (ak (LA (H3 T) (au.mono (by decide)) (ak (af 2) (ak (af 3) (ak (af 4) (ak (af 8) (aI)))))) (ak (af 10) (aI)))))) (bw (cL (hT))) (dD)))))))))
  (bw (cL (hT)))))))))
end
end bS
namespace bS
open PySem PySem.Spec a3 bt
theorem fK{α β:Type}(a:α)(k:α→R β):(R.ok a).bind k=k a:=rfl
theorem CZ{a b:bl}{ρ bJ:av}(h:a ρ=.ok (.bO bJ)):a4 a b ρ=b bJ:=by simp only[a4,h,fK]
theorem M9{f:List D→R b6}{a:aN}{ρ:av}{x y:D}(ag:a ρ=.ok x)(h:f [x]=.ok (.v y)):b5 1 f (ae a aC) ρ=.ok y:=by simp only[b5,ae,aC,ag,fK,adl,aen,if_true,h,iZ]
theorem call2{f:List D→R b6}{a b:aN}{ρ:av}{x z y:D}(ag:a ρ=.ok x)(J:b ρ=.ok z)(h:f [x,z]=.ok (.v y)):b5 2 f (ae a (ae b aC)) ρ=.ok y:=by simp only[b5,ae,aC,ag,J,fK,adl,aen,if_true,h,iZ]
theorem M_{f:List D→R b6}{a b c:aN}{ρ:av}{x z w y:D}(ag:a ρ=.ok x)(J:b ρ=.ok z)(aB:c ρ=.ok w)(h:f [x,z,w]=.ok (.v y)):b5 3 f (ae a (ae b (ae c aC))) ρ=.ok y:=by simp only[b5,ae,aC,ag,J,aB,fK,adl,aen,if_true,h,iZ]
theorem zE{f:D→D→R D}{a b:aN}{ρ:av}{x y z:D}(ag:a ρ=.ok x)(J:b ρ=.ok y)(h:f x y=.ok z):aj f a b ρ=.ok z:=by simp only[aj,ag,J,fK,h]
theorem ro{a:aN}{ρ:av}{c:Bool}(ag:a ρ=.ok (.aF c)):a_ a ρ=.ok c:=by simp only[a_,ag,fK,i_]
theorem Be{a:cH}{ρ:av}{c:Bool}(ag:a ρ=.ok c):d7 a ρ=.ok (!c):=by simp only[d7,ag,fK]
theorem Jb{a b:cH}{ρ:av}{c d:Bool}(ag:a ρ=.ok c)(J:c=false→b ρ=.ok d):eP a b ρ=.ok (c||d):=by
 cases c
 ·simp only[eP,ag,fK,J rfl,adb,if_false,aiU]
 ·simp only[eP,ag,fK,if_true,Bool.true_or]
theorem Nr{f g:D→D→R D}{a b c:aN}{ρ:av}{x y w:D}{k l:Bool}(ag:a ρ=.ok x)(J:b ρ=.ok y)(aB:c ρ=.ok w)(hf:f x y=.ok (.aF k))(aO:g y w=.ok (.aF l)):jP f g a b c ρ=.ok (.aF (k&&l)):=by
 cases k
 ·simp only[jP,ag,J,hf,fK,i_,adb,if_false,aiw]
 ·simp only[jP,ag,J,aB,hf,aO,fK,i_,if_true,ahj]
theorem CY{c:cH}{a b:bl}{ρ:av}(aB:c ρ=.ok false):a4 (cu c a cC) b ρ=b ρ:=by simp only[a4,cu,aB,fK,cC];rfl
theorem WK{e:aN}{ρ:av}{d:D}(he:e ρ=.ok d):b2 e ρ=.ok (.dJ d):=by simp only[b2,he,fK]
theorem OT{mi:aY}{set:D→av→R av}{body:bl}{ds:List D}{ρ:av}(ar:mi ρ=.ok ds):d6 mi set body ρ=fm set body ds ρ:=by rw[d6,ar];rfl
theorem OU{mi:aY}{set:D→av→R av}{body:bl}{ds:List D}{ρ bJ:av}(ar:mi ρ=.ok ds)(h:fm set body ds ρ=.ok (.bO bJ)):d6 mi set body ρ=.ok (.bO bJ):=by rw[OT ar];exact h
theorem Il{a:aN}{ρ:av}{xs:List D}(ag:a ρ=.ok (.lst xs)):cM dC (ae a aC) ρ=.ok (.int (xs.length:Nat)):=by simp only[cM,ae,aC,ag,fK,dC]
def cc(cs:List Nat):List D:=cs.map fun(c:Nat)=>D.int (c:Int)
abbrev ay:=Nat×Nat
def aU(d:ay):D:=.tup [.int (d.1:Nat),.int (d.2:Nat)]
def dQ(w:ay×ay):D:=.tup [aU w.1,aU w.2]
def ends(ws:List (ay×ay)):List ay:=(ws.map fun w=>[w.1,w.2]).flatten
structure Lay(all left:List ay)(ws:List (ay×ay)):Prop where
 a7:(left++ends ws).Nodup
 sub:∀d∈left++ends ws,d∈all
theorem vC{α:Type}:∀(l:List α)(i:Nat)(h:i<l.length),ah8 (l[i]::l.eraseIdx i) l
 |x::l,0,_=>List.Perm.refl _
 |x::l,i+1,h=>by have bQ:=vC l i (by simpa using h);simp only[List.getElem_cons_succ,ahn];exact(List.Perm.swap x _ _).trans (bQ.cons x)
theorem Lay.take{all left:List ay}{ws:List (ay×ay)}(h:Lay all left ws){i j:Nat}(ar:i<left.length)(cz:j<(left.eraseIdx i).length) :
  Lay all ((left.eraseIdx i).eraseIdx j) (ws++[(left[i],(left.eraseIdx i)[j])]):=by
 have d0:ah8 left (left[i]::left.eraseIdx i):=(vC left i ar).symm;have cD:ah8 (left.eraseIdx i) ((left.eraseIdx i)[j]::(left.eraseIdx i).eraseIdx j):=(vC (left.eraseIdx i) j cz).symm;have BE:ends (ws++[(left[i],(left.eraseIdx i)[j])])=ends ws++[left[i],(left.eraseIdx i)[j]]:=by simp[ends]
 have pp:ah8 (left++ends ws) ((left.eraseIdx i).eraseIdx j++ends (ws++[(left[i],(left.eraseIdx i)[j])])):=by rw[BE];refine(List.Perm.append_right _ (d0.trans (List.Perm.cons _ cD))).trans ?_;refine(List.perm_append_comm (l₁:=[left[i],(left.eraseIdx i)[j]]) (l₂:=(left.eraseIdx i).eraseIdx j++ends ws)).trans ?_;rw[ag_]
 exact⟨pp.nodup_iff.mp h.a7,fun d hd=>h.sub d (pp.mem_iff.mpr hd)⟩
def gi(cs:List Nat)(h:Nat):List ay:=(adf (cs.getD h 0)).map fun k=>(h,k)
def dn(cs:List Nat)(n:Nat):List ay:=(adf n).flatMap (gi cs)
theorem va(cs:List Nat)(n:Nat):dn cs (n+1)=dn cs n++gi cs n:=by unfold dn;rw[List.range_succ,List.flatMap_append];simp
theorem Bn{cs:List Nat}{h:Nat}{d:ay}:d∈gi cs h↔d.1=h∧d.2<cs.getD h 0:=by
 unfold gi;rw[ah9];constructor
 ·rintro⟨k,aH,rfl⟩;exact⟨rfl,List.mem_range.mp aH⟩
 ·rintro⟨rfl,h2⟩;exact⟨d.2,List.mem_range.mpr h2,rfl⟩
theorem p4{cs:List Nat}{n:Nat}{d:ay}:d∈dn cs n↔d.1<n∧d.2<cs.getD d.1 0:=by
 unfold dn;rw[List.mem_flatMap];constructor
 ·rintro⟨h,bD,hd⟩;obtain⟨rfl,h2⟩:=Bn.mp hd;exact⟨List.mem_range.mp bD,h2⟩
 ·rintro⟨h1,h2⟩;exact⟨d.1,List.mem_range.mpr h1,Bn.mpr ⟨rfl,h2⟩⟩
theorem NZ(cs:List Nat)(h:Nat):(gi cs h).Nodup:=by unfold gi;rw[List.nodup_iff_pairwise_ne,afs];exact List.nodup_range.imp fun mZ z=>mZ (Prod.mk.inj z).2
theorem yM(cs:List Nat):∀n,(dn cs n).Nodup
 |0=>afC
 |n+1=>by rw[va];refine List.nodup_append.mpr ⟨yM cs n,NZ cs n,fun a ag b J z=>?_⟩;subst z;have h1:=(p4.mp ag).1;have h2:=(Bn.mp J).1;omega
theorem vK{cs:List Nat}(h:∀c∈cs,c≤4)(k:Nat):cs.getD k 0≤4:=by
 rw[adg];cases e:cs[k]? with
 |none=>simp
 |some c=>simpa using h c (adn e)
theorem zO{cs:List Nat}(h:∀c∈cs,1≤c∧c≤4)(k:Nat):(gi cs k).length≤4:=by unfold gi;rw[adE,aha];exact vK (fun c aB=>(h c aB).2) k
theorem sz{cs:List Nat}(h:∀c∈cs,1≤c∧c≤4):∀n,(dn cs n).length≤4*n
 |0=>by simp[dn]
 |n+1=>by rw[va,adD];have:=sz h n;have:=zO h n;omega
theorem sF{cs:List Nat}{h:Nat}(bD:h<cs.length):(cc cs)[h]?=some (.int (cs.getD h 0:Nat)):=by simp[cc,ac2 bD,adg]
structure iA(cs:List Nat)(ws:List (ay×ay)):Prop where
 h1:1≤cs.length
 h6:cs.length≤6
 c:∀c∈cs,1≤c∧c≤4
 a7:(ends ws).Nodup
 sub:∀d∈ends ws,d∈dn cs cs.length
 out:∃d,d∈dn cs cs.length∧d∉ends ws
 few:ws.length<100
theorem head_mem{cs:List Nat}(h1:1≤cs.length)(c:∀c∈cs,1≤c∧c≤4):((0,0):ay)∈dn cs cs.length:=by
 refine p4.mpr ⟨h1,?_⟩;cases cs with
 |nil=>simp at h1
 |cons x r=>exact(c x (adz ..)).1
def hz(d:ay):cx:=[.inl (.inl (d.1:Nat)),.inl (.inl (d.2:Nat))]
theorem A2{a b:ay}(h:hz a=hz b):a=b:=by
 obtain⟨a1,a2⟩:=a;obtain⟨eC,dE⟩:=b;simp only[hz,afl,ai0,and_true]at h;have h1:a1=eC:=by omega
 have h2:a2=dE:=by omega
 rw[h1,h2]
theorem rj(d:ay):md (aU d)=some (hz d):=rfl
def dY(ws:List (ay×ay)):List cx:=(ends ws).map hz
def ei(ws:List (ay×ay)):List D:=(ws.map fun w=>[aU w.2,aU w.1]).flatten
theorem ks_any(ws:List (ay×ay))(d:ay):(dY ws).any (fun x=>decide (x=hz d))=decide (d∈ends ws):=by
 unfold dY;rw[ah_];by_cases h:d∈ends ws
 ·rw[decide_eq_true h,aht];exact⟨d,h,by simp⟩
 ·rw[decide_eq_false h,ag3];intro x ax;simp only[aho,decide_eq_true_eq];exact fun z=>h (A2 z▸ax)
theorem Ol(ws:List (ay×ay)):(ends ws).length=2*ws.length:=by
 induction ws with
 |nil=>rfl
 |cons w r bQ=>simp only[ends,adi,List.flatten_cons,adD,adl,aen]at bQ ⊢;omega
theorem zM{i:Nat}{mk mv:aN}{ρ:av}{ks:List cx}{ds:List D}{k v:D}{kk:cx}(hs:ρ[i]?=some (.bf (.bx ks ds)))(aH:mk ρ=.ok k)(bW:mv ρ=.ok v)(fD:md k=some kk)(aK:ks.any (fun x=>decide (x=kk))=false)(ai:ks.length<1000000) :
  nd i mk mv ρ=.ok (.bO (ρ.set i (.bf (.bx (ks++[kk]) (ds++[v]))))):=by
 simp only[nd,bW,hs,aH,fK,fD,putD,if_pos (And.intro aK ai)]
theorem MI{ks:List cx}{a b:cx}(h:ks.any (fun x=>decide (x=b))=false)(ne:a≠b):(ks++[a]).any (fun x=>decide (x=b))=false:=by rw[List.any_append,h];simp[ne]
theorem SY(ws:List (ay×ay))(w:ay×ay):dY (ws++[w])=dY ws++[hz w.1]++[hz w.2]:=by simp[dY,ends]
theorem Y6(ws:List (ay×ay))(w:ay×ay):ei (ws++[w])=ei ws++[aU w.2]++[aU w.1]:=by simp[ei]
theorem Um{P:List (ay×ay)}{w:ay×ay}{r:List (ay×ay)}(a7:(ends (P++w::r)).Nodup):w.1∉ends P∧w.2∉ends P∧w.1≠w.2:=by
 have e:ends (P++w::r)=ends P++(w.1::w.2::ends r):=by simp[ends]
 rw[e]at a7;obtain⟨_,n2,nk⟩:=List.nodup_append.mp a7;refine⟨fun z=>nk _ z w.1 (by simp) rfl,fun z=>nk _ z w.2 (by simp) rfl,fun z=>?_⟩;rw[afY]at n2;exact n2.1 (by rw[z];simp)
theorem uE(i lo ar:Int):mn [.int i,.int lo,.int ar]=.ok (.v (.aF (decide (lo≤i)&&decide (i≤ar)))):=by have w:Bi [.int i]=.ok (.v (.aF true)):=rfl;simp[mn,y9,w];by_cases h:lo≤i<;>simp[h]
theorem E8{cs:List Nat}{d:ay}(h:d∈dn cs cs.length):tO [.tup (cc cs),aU d]=.ok (.v (.aF true)):=by
 obtain⟨h1,h2⟩:=p4.mp h;have p:tP [aU d]=.ok (.v (.aF true)):=rfl;have cI:aG (aU d) (.int 0)=.ok (.int d.1):=rfl;have aq:aG (aU d) (.int 1)=.ok (.int d.2):=rfl;have aD:aG (.tup (cc cs)) (.int (d.1:Nat))=.ok (.int (cs.getD d.1 0:Nat)):=AY (sF h1);have l:(cc cs).length=cs.length:=by simp[cc]
 simp only[adg]at h2 aD;simp[tO,y4,p,cI,aq,aD,l,uE,show¬((cs.length:Int)-1<(d.1:Nat))by omega];omega
theorem NY{a b:ay}(h:a≠b):cw false (aU a) (aU b)=.ok (.aF true):=by
 show R.ok (D.aF (!(((a.1:Nat):Int)==((b.1:Nat):Int)&&(((a.2:Nat):Int)==((b.2:Nat):Int)&&true))))=_;by_cases h1:a.1=b.1
 ·by_cases h2:a.2=b.2
  ·exact absurd (Prod.ext h1 h2) h
  ·rw[beq_eq_false_iff_ne.mpr (show((a.2:Nat):Int)≠((b.2:Nat):Int)by omega)];simp
 ·rw[beq_eq_false_iff_ne.mpr (show((a.1:Nat):Int)≠((b.1:Nat):Int)by omega)];simp
theorem Zg{cs:List Nat}{w:ay×ay}(h1:w.1∈dn cs cs.length)(h2:w.2∈dn cs cs.length)(ne:w.1≠w.2):rH [.tup (cc cs),dQ w]=.ok (.v (.aF true)):=by have p:tP [dQ w]=.ok (.v (.aF true)):=rfl;have cI:aG (dQ w) (.int 0)=.ok (aU w.1):=rfl;have aq:aG (dQ w) (.int 1)=.ok (aU w.2):=rfl;simp[rH,y_,p,cI,aq,E8 h1,E8 h2,NY ne]
noncomputable def fBody:bl:=(a4 (cu (d7 (a_ (b5 2 rH (ae (U 0) (ae (U 3) (aC)))))) (tv) (cC))
    (a4 (cu (jh (eP (a_ (aj (fW true) (aj aG (U 3) (ao (.int 0))) (U 2))) (a_ (aj (fW true) (aj aG (U 3) (ao (.int 1))) (U 2))))) (tv) (cC))
    (a4 (nd 2 (aj aG (U 3) (ao (.int 0))) (aj aG (U 3) (ao (.int 1))))
    (nd 2 (aj aG (U 3) (ao (.int 1))) (aj aG (U 3) (ao (.int 0)))))))
theorem Gm(cs:List Nat)(W:D):∀(r P:List (ay×ay)),(ends (P++r)).Nodup→(∀d∈ends r,d∈dn cs cs.length)→(P++r).length<1000→∀s3:dc,∃t3,fm (br 3) fBody (r.map dQ) [.aA (.tup (cc cs)),.aA W,.bf (.bx (dY P) (ei P)),s3]=.ok (.bO [.aA (.tup (cc cs)),.aA W,.bf (.bx (dY (P++r)) (ei (P++r))),t3])
 |[],P,_,_,_,s3=>⟨s3,by rw[ael];rfl⟩
 |w::r,P,a7,sub,ai,s3=>by
  obtain⟨n1,n2,nk⟩:=Um a7;have lk:(dY P).length<10000:=by unfold dY;rw[adE,Ol];rw[adD]at ai;omega
  have cI:br 3 (dQ w) [.aA (.tup (cc cs)),.aA W,.bf (.bx (dY P) (ei P)),s3]=.ok [.aA (.tup (cc cs)),.aA W,.bf (.bx (dY P) (ei P)),.aA (dQ w)]:=rfl;have b0:d7 (a_ (b5 2 rH (ae (U 0) (ae (U 3) (aC))))) [.aA (.tup (cc cs)),.aA W,.bf (.bx (dY P) (ei P)),.aA (dQ w)]=.ok false:=Be (c:=true) (ro (call2 rfl rfl (Zg (sub _ (by simp[ends])) (sub _ (by simp[ends])) nk)));have k1:fW true (aU w.1) (.bx (dY P) (ei P))=.ok (.aF false):=by simp only[fW,rj,ks_any,decide_eq_false n1,if_true]
  have k2:fW true (aU w.2) (.bx (dY P) (ei P))=.ok (.aF false):=by simp only[fW,rj,ks_any,decide_eq_false n2,if_true]
  have c9:jh (eP (a_ (aj (fW true) (aj aG (U 3) (ao (.int 0))) (U 2))) (a_ (aj (fW true) (aj aG (U 3) (ao (.int 1))) (U 2)))) [.aA (.tup (cc cs)),.aA W,.bf (.bx (dY P) (ei P)),.aA (dQ w)]=.ok (false||false):=by unfold jh;exact Jb (ro (zE (x:=aU w.1) (y:=.bx (dY P) (ei P)) rfl rfl k1)) fun _=>ro (zE (x:=aU w.2) (y:=.bx (dY P) (ei P)) rfl rfl k2)
  have a1:=zM (i:=2) (mk:=aj aG (U 3) (ao (.int 0))) (mv:=aj aG (U 3) (ao (.int 1))) (ρ:=[.aA (.tup (cc cs)),.aA W,.bf (.bx (dY P) (ei P)),.aA (dQ w)]) rfl rfl rfl (rj w.1) (by rw[ks_any];exact decide_eq_false n1) (by omega);have a2:=zM (i:=2) (mk:=aj aG (U 3) (ao (.int 1))) (mv:=aj aG (U 3) (ao (.int 0))) (ρ:=[.aA (.tup (cc cs)),.aA W,.bf (.bx (dY P++[hz w.1]) (ei P++[aU w.2])),.aA (dQ w)]) rfl rfl rfl (rj w.2) (MI (by rw[ks_any];exact decide_eq_false n2) (fun z=>nk (A2 z))) (by rw[adD,afm];omega);have aq:fBody [.aA (.tup (cc cs)),.aA W,.bf (.bx (dY P) (ei P)),.aA (dQ w)]=.ok (.bO [.aA (.tup (cc cs)),.aA W,.bf (.bx (dY (P++[w])) (ei (P++[w]))),.aA (dQ w)]):=by unfold fBody;rw[CY b0,CY c9,CZ a1,SY,Y6];exact a2
  rw[adi,fm,cI,fK,aq,fK];have q:P++w::r=(P++[w])++r:=by simp
  rw[q]at a7 ai ⊢;exact Gm cs W r (P++[w]) a7 (fun d hd=>sub d (by simp only[ends,adi,List.flatten_cons,agG]at hd ⊢;exact .inr hd)) ai _
theorem OK(cs:List Nat)(ws:List (ay×ay))(h:iA cs ws):rC [.tup (cc cs),.tup (ws.map dQ)]=.ok (.v (.bx (dY ws) (ei ws))):=by show(vf [.aA (.tup (cc cs)),.aA (.tup (ws.map dQ)),.un,.un]).bind outD=_;have s1:rz 2 [.aA (.tup (cc cs)),.aA (.tup (ws.map dQ)),.un,.un]=.ok (.bO [.aA (.tup (cc cs)),.aA (.tup (ws.map dQ)),.bf (.bx (dY []) (ei [])),.un]):=rfl;obtain⟨t3,e⟩:=Gm cs (.tup (ws.map dQ)) ws [] (by simpa using h.a7) h.sub (by have:=h.few;simp;omega) .un;have f:=OU (mi:=rt (U 1)) (ρ:=[.aA (.tup (cc cs)),.aA (.tup (ws.map dQ)),.bf (.bx (dY []) (ei [])),.un]) rfl e;unfold fBody at f;unfold vf;rw[CZ s1,CZ f];rfl
def pw:aN:=(b5 3 mn (ae (U 0) (ae (ao (.int 1)) (ae (ao qL) (aC)))))
theorem E1:∀(cs:List Nat),(∀c∈cs,1≤c∧c≤4)→∀(ws:List D)(s0:dc),ws.length+cs.length<1000→gg (br 0) d8 pw (cc cs) [s0] ws=.ok (ws++cs.map fun _=>D.aF true)
 |[],_,ws,s0,_=>by simp[gg,cc]
 |c::cs,h,ws,s0,ai=>by
  simp only[adl]at ai;obtain⟨b0,kT⟩:=h c (adz ..);have cI:br 0 (.int (c:Nat)) [s0]=.ok [.aA (.int (c:Nat))]:=rfl;have aq:pw [.aA (.int (c:Nat))]=.ok (.aF true):=by have z:=uE (c:Nat) 1 4;rw[decide_eq_true (by omega),decide_eq_true (by omega)]at z;exact M_ rfl rfl rfl z
  show gg (br 0) d8 pw (.int (c:Nat)::cc cs) [s0] ws=_;rw[gg,cI,fK];simp only[d8,fK,aq,if_true,if_pos (show ws.length<1000000 by omega)];rw[E1 cs (fun c h'=>h c (ac7 _ h')) _ _ (by rw[adD,afm];omega),ag_];rfl
theorem ES:∀cs:List Nat,mU (cs.map fun _=>D.aF true)=some (cs.map fun _=>true)
 |[]=>rfl
 |c::cs=>by simp only[adi,mU,ES cs,Option.map_some]
theorem Nx(cs:List Nat)(h1:1≤cs.length)(h6:cs.length≤6)(h:∀c∈cs,1≤c∧c≤4):tK [.lst (cc cs)]=.ok (.v (.aF true)):=by
 show(vd [.aA (.lst (cc cs))]).bind outD=_;have pS:cM dC (ae (U 0) aC) [.aA (.lst (cc cs))]=.ok (.int (cs.length:Nat)):=by rw[Il (xs:=cc cs) rfl];simp[cc]
 have b0:eP (d7 (a_ (dI (fx "list") (U 0)))) (d7 (a_ (jP la la (ao (.int 1)) (cM dC (ae (U 0) (aC))) (ao pf)))) [.aA (.lst (cc cs))]=.ok (false||false):=by refine Jb rfl fun _=>?_;have z:=Nr (f:=la) (g:=la) (a:=ao (.int 1)) (c:=ao pf) (ρ:=[.aA (.lst (cc cs))]) rfl pS rfl (k:=true) (l:=true) (by show R.ok (D.aF (decide ((1:Int)≤(cs.length:Nat))))=_;rw[decide_eq_true (by omega)]) (by show R.ok (D.aF (decide (((cs.length:Nat):Int)≤6)))=_;rw[decide_eq_true (by omega)]);exact Be (c:=true) (ro z)
 have kU:dx 1 [] (ep (U 0)) (br 0) (d8) pw [.aA (.lst (cc cs))]=.ok (cs.map fun _=>D.aF true):=by show gL (gg (br 0) d8 pw (cc cs) [.un] [])=_;rw[E1 cs h _ _ (by simp;omega)];rfl
 have e:cM bt.dn (ae (cN (dx 1 [] (ep (U 0)) (br 0) (d8) pw)) (aC)) [.aA (.lst (cc cs))]=.ok (.aF true):=by
  simp only[cM,ae,aC,cN,kU,fK,bt.dn,ES]
  congr 2
  rw[afK];simp
 unfold pw at e;unfold vd;rw[CY b0,WK e];rfl
theorem uv{a b:iz}{ρ ea:av}(h:a ρ=.ok ea):ml a b ρ=b ea:=by simp only[ml,h,fK]
theorem Lo:∀ws:List (ay×ay),kp (ei ws)=true
 |[]=>rfl
 |w::ws=>by show kp (aU w.2::aU w.1::ei ws)=true;simp only[kp,Lo ws];rfl
theorem Rw(cs:List Nat)(ws:List (ay×ay))(h:iA cs ws):Bg [.lst (cc cs),.lst (ws.map dQ)]=.ok (["many","counts","joined","far"],[.int (cs.length:Nat),.tup (cc cs),.tup (ws.map dQ),.bx (dY ws) (ei ws)]):=by
 let r (ns:List Str) (ds:List D):av:=[.bf (.ins "Net" ns ds),.aA (.lst (cc cs)),.aA (.lst (ws.map dQ))]
 have g1:oq (d7 (a_ (b5 1 tK (ae (U 1) (aC))))) (r [] [])=.ok (r [] []):=by have z:d7 (a_ (b5 1 tK (ae (U 1) (aC)))) (r [] [])=.ok false:=Be (c:=true) (ro (M9 rfl (Nx cs h.h1 h.h6 h.c)));simp only[oq,z,fK,adb,if_false]
 have g2:oq (d7 (a_ (dI (fx "list") (U 2)))) (r [] [])=.ok (r [] []):=rfl;have f1:jQ "Net" "many" (cM dC (ae (U 1) (aC))) (r [] [])=.ok (r ["many"] [.int (cs.length:Nat)]):=by
  have pS:cM dC (ae (U 1) aC) (r [] [])=.ok (.int (cs.length:Nat)):=by rw[Il (xs:=cc cs) rfl];simp[cc]
  rw[jQ,pS];rfl
 have f2:jQ "Net" "counts" (cM oR (ae (U 1) (aC))) (r ["many"] [.int (cs.length:Nat)])=.ok (r ["many","counts"] [.int (cs.length:Nat),.tup (cc cs)]):=rfl;have fE:jQ "Net" "joined" (cM oR (ae (U 2) (aC))) (r ["many","counts"] [.int (cs.length:Nat),.tup (cc cs)])=.ok (r ["many","counts","joined"] [.int (cs.length:Nat),.tup (cc cs),.tup (ws.map dQ)]):=rfl;have f4:jQ "Net" "far" (pV (b5 2 rC (ae (dI (fc "Net" "counts") (U 0)) (ae (dI (fc "Net" "joined") (U 0)) (aC))))) (r ["many","counts","joined"] [.int (cs.length:Nat),.tup (cc cs),.tup (ws.map dQ)])=.ok (r ["many","counts","joined","far"] [.int (cs.length:Nat),.tup (cc cs),.tup (ws.map dQ),.bx (dY ws) (ei ws)]):=by
  have z:pV (b5 2 rC (ae (dI (fc "Net" "counts") (U 0)) (ae (dI (fc "Net" "joined") (U 0)) (aC)))) (r ["many","counts","joined"] [.int (cs.length:Nat),.tup (cc cs),.tup (ws.map dQ)])=.ok (.bx (dY ws) (ei ws)):=by have y:b5 2 rC (ae (dI (fc "Net" "counts") (U 0)) (ae (dI (fc "Net" "joined") (U 0)) (aC))) (eT (r ["many","counts","joined"] [.int (cs.length:Nat),.tup (cc cs),.tup (ws.map dQ)]))=.ok (.bx (dY ws) (ei ws)):=call2 (x:=.tup (cc cs)) (z:=.tup (ws.map dQ)) rfl rfl (OK cs ws h);have n:jR (.bx (dY ws) (ei ws))=true∧Bz (r ["many","counts","joined"] [.int (cs.length:Nat),.tup (cc cs),.tup (ws.map dQ)])=true:=⟨by simp only[jR];exact Lo ws,rfl⟩;simp only[pV,y,fK,if_pos n]
  rw[jQ,z];rfl
 show outI "Net" (vc (r [] []))=_;unfold vc;rw[uv g1,uv g2,uv f1,uv f2,uv fE,f4];rfl
theorem zI(ns:List Int)(k:Nat):∃c:Int,lh [.cJ (ns.map D.int),.int k]=.ok (.v (.int c)):=by
 by_cases h:k<ns.length
 ·refine⟨ns[k],?_⟩;have e:aG (.cJ (ns.map D.int)) (.int (k:Int))=.ok (.int ns[k]):=RR (by simp[h]);simp(disch:=first|decide|omega|(simp;done)|(simp;omega)) [lh,vj,h,e]
 ·exact⟨0,by simp(disch:=first|decide|omega|(simp;done)|(simp;omega)) [lh,vj,h]⟩
theorem Jp(P:Int→Prop){a b c d:Int}(ag:P a)(J:P b)(aB:P c)(hd:P d)(x:Int):∃y,P y∧aG (.lst [.int a,.int b,.int c,.int d]) (.int (x%4))=.ok (.int y):=by
 have h:x%4=0∨x%4=1∨x%4=2∨x%4=3:=by omega
 rcases h with h|h|h|h<;>rw[h]
 ·exact⟨a,ag,rfl⟩
 ·exact⟨b,J,rfl⟩
 ·exact⟨c,aB,rfl⟩
 ·exact⟨d,hd,rfl⟩
theorem zN(c:Int)(n:Nat)(aK:n<1000):∃ys:List Int,ys.length=n∧nh [.int c,.int n]=.ok (.o (ys.map D.int)):=by
 let I:Nat→av→Prop:=fun j ρ=>∃(ys:List Int)(r:Int)(s4 s5 dk:dc),ys.length=j∧ρ=[.aA (.int c),.aA (.int n),.dj (ys.map D.int),.aA (.int r),s4,s5,dk]
 have L:=GA (mi:=fZ (ae (U 1) (aC))) (set:=br 4) (ρ:=[.aA (.int c),.aA (.int n),.dj [],.aA (.int (c/2)),.un,.un,.un]) (ds:=gE 0 n) I (body:=(cu (a_ (aj (cw true) (aj eA (U 0) (ao (.int 2))) (ao (.int 1)))) (a4 (cT 5 (aj aG (cN (ez (ae (ao (.int 2147483647)) (ae (ao (.int 2147483629)) (ae (ao (.int 2147483587)) (ae (ao (.int 2147483579)) (aC))))))) (aj eA (aj hZ (U 4) (ao (.int 4))) (ao (.int 4)))))
  (a4 (cT 6 (aj aG (cN (ez (ae (ao (.int 48271)) (ae (ao (.int 69621)) (ae (ao (.int 16807)) (ae (ao (.int 39373)) (aC))))))) (aj eA (U 4) (ao (.int 4)))))
  (hP 2 (aj hZ (aj eA (aj ll (aj fs (aj fs (aj eA (U 3) (aj lA (ao (.int 10)) (ao (.int 30)))) (aj ll (ao (.int 7919)) (U 4))) (ao (.int 1))) (U 6)) (U 5)) (ao (.int 7)))))) (a4 (hP 2 (aj eA (U 3) (aj lA (ao (.int 10)) (ao (.int 6)))))
  (cT 3 (aj hZ (U 3) (aj lA (ao (.int 10)) (ao (.int 6)))))))) (by simp[show n<1000000 by omega]) (fun j d ρ hd ia=>?_) ⟨[],c/2,.un,.un,.un,rfl,rfl⟩
 ·obtain⟨bJ,e,ys,r,s4,s5,dk,ai,rfl⟩:=L;refine⟨ys,by simpa using ai,?_⟩;simp(disch:=first|decide|omega|(simp;done)|(simp;omega)) [nh,zf,e]
 ·obtain⟨cz,rfl⟩:=JT hd;obtain⟨ys,r,s4,s5,dk,ai,rfl⟩:=ia;obtain⟨p,aS,bN⟩:=Jp (fun y=>0<y) (a:=2147483647) (b:=2147483629) (c:=2147483587) (d:=2147483579) (by decide) (by decide) (by decide) (by decide) ((j:Int)/4);obtain⟨f,hf,fM⟩:=Jp (fun y=>0<y∧y<2^64) (a:=48271) (b:=69621) (c:=16807) (d:=39373) (by decide) (by decide) (by decide) (by decide) (j:Int);have aaB:f<18446744073709551616:=hf.2;have aaA:=hf.1;by_cases aB:c%2=1
  ·exact⟨_,_,by simp;rfl,by simp(disch:=first|decide|omega|(simp;done)|(simp;omega)) [aB,bN,fM,V1];rfl,ys++[_],r,_,_,_,by simp[ai],by simp;exact⟨rfl,rfl,rfl,rfl⟩⟩
  ·exact⟨_,_,by simp;rfl,by simp(disch:=first|decide|omega|(simp;done)|(simp;omega)) [aB,V2];rfl,ys++[_],_,_,_,_,by simp[ai],by simp;exact⟨rfl,rfl,rfl,rfl,rfl⟩⟩
theorem wY(c:Int)(k:Nat)(aH:k<900):∃y:Int,lj [.int c,.int k]=.ok (.v (.int y)):=by
 obtain⟨ys,ai,e⟩:=zN c (k+1) (by omega);have h:k<ys.length:=by omega
 refine⟨ys[k],?_⟩;have cn:nh [.int c,.int ((k:Int)+1)]=.ok (.o (ys.map D.int)):=by rw[←e];rfl
 simp(disch:=first|decide|omega|(simp;done)|(simp;omega)) [lj,zk,cn,AX h]
theorem YB(ko:Nat)(h1:1≤ko)(h6:ko≤6):∃t:Nat,1≤t∧t≤4∧aG (.lst [.int 4,.int 4,.int 4,.int 3,.int 2,.int 2]) (.int ((ko:Int)-1))=.ok (.int (t:Nat)):=by
 have:ko=1∨ko=2∨ko=3∨ko=4∨ko=5∨ko=6:=by omega
 rcases this with h|h|h|h|h|h<;>subst h
 ·exact⟨4,by decide,by decide,rfl⟩
 ·exact⟨4,by decide,by decide,rfl⟩
 ·exact⟨4,by decide,by decide,rfl⟩
 ·exact⟨3,by decide,by decide,rfl⟩
 ·exact⟨2,by decide,by decide,rfl⟩
 ·exact⟨2,by decide,by decide,rfl⟩
theorem Uh(cell:Int):∃(cs:List Nat)(ws:List (ay×ay)),iA cs ws∧rJ [.int cell]=.ok (.v (.tup [.lst (cc cs),.lst (ws.map dQ)])):=by
 suffices h:Ends (rJ [.int cell]) fun b=>∃cs ws,iA cs ws∧b=.v (.tup [.lst (cc cs),.lst (ws.map dQ)])by
  obtain⟨b,e,cs,ws,h,rfl⟩:=h;exact⟨cs,ws,h,e⟩
 obtain⟨xs,ax,ex⟩:=zN cell 40 (by decide);have Fs:nh [.int cell,.int 40]=.ok (.o (xs.map D.int)):=ex;have at':∀k:Nat,k<40→∃x,aG (.lst (xs.map D.int)) (.int (k:Int))=.ok (.int x):=fun k aH=>⟨_,AX (by omega)⟩;obtain⟨x0,cI⟩:=at' 0 (by decide);obtain⟨r2,sH⟩:=at' 7 (by decide);obtain⟨m,hm,em⟩:=lr x0 (n:=6) (by decide);have pv:aG (.lst (xs.map D.int)) (.int 0)=.ok (.int x0):=cI;have N7:aG (.lst (xs.map D.int)) (.int 7)=.ok (.int r2):=sH;have sM:(1:Int)+x0%6=((m+1:Nat):Int):=by have:x0%6=(m:Int):=em;omega
 simp(disch:=first|decide|omega|(simp;done)|(simp;omega)) [rJ,zl,Fs,pv,sM,-aia];obtain⟨t,t1,xN,mV⟩:=YB (m+1) (by omega) (by omega)
 let kV:Nat→Nat:=fun k=>(1+xs.getD (1+k) 0%(t:Int)).toNat
 have vo:∀k,1≤kV k∧kV k≤4∧1+xs.getD (1+k) 0%(t:Int)=(kV k:Int):=fun k=>by have a:=agF (xs.getD (1+k) 0) (b:=(t:Int)) (by omega);have b:=afT (xs.getD (1+k) 0) (b:=(t:Int)) (by omega);show 1≤(1+xs.getD (1+k) 0%(t:Int)).toNat∧(1+xs.getD (1+k) 0%(t:Int)).toNat≤4∧_=((1+xs.getD (1+k) 0%(t:Int)).toNat:Int);omega
 have eg:∀k:Nat,k<10→aG (.lst (xs.map D.int)) (.int (1+(k:Int)))=.ok (.int (xs.getD (1+k) 0)):=fun k aH=>by
  have h:1+k<xs.length:=by omega
  have:=AX h;rw[adg,ac2 h];exact this
 refine pz (m+1) (fun k=>.int (kV k:Int)) (by simp[show m+1<1000000 by omega,-aia]) (by omega) (fun k aH=>?_) ?_
 ·simp only[adg]at eg vo;simp[eg k (by omega),mV,show 0<t by omega,(vo k).2.2,-aia]
 have Oe:(adf (m+1)).map (fun k=>D.int (kV k:Int))=cc ((adf (m+1)).map kV):=by simp[cc]
 rw[Oe];generalize G0:(adf (m+1)).map kV=cs;have b0:cs.length=m+1:=by rw[←G0];simp
 have kU:∀c∈cs,1≤c∧c≤4:=fun c aB=>by rw[←G0]at aB;obtain⟨k,_,rfl⟩:=List.mem_map.mp aB;exact⟨(vo k).1,(vo k).2.1⟩
 have lcs:(cc cs).length=cs.length:=by simp[cc]
 refine pA cs.length (fun j ρ=>∃s5,ρ=[.aA (.int cell),.aA (.lst (xs.map D.int)),.aA (.int (m+1:Nat)),.aA (.lst (cc cs)),.dj ((dn cs j).map aU),s5,.un,.un,.un]) (by simp[lcs,show cs.length<1000000 by omega]) ⟨.un,by simp[dn]⟩ ?_ ?_
 ·rintro j _ cz ⟨s5,rfl⟩;have b4:aG (.lst (cc cs)) (.int (j:Int))=.ok (.int (cs.getD j 0:Nat)):=je (sF cz);have rl:=vK (fun c h=>(kU c h).2) j;simp;refine pz (cs.getD j 0) (fun k=>aU (j,k)) (by simp only[adg]at b4 rl;simp[b4,show cs[j]?.getD 0<1000000 by omega]) (by omega) (fun k aH=>by simp[aU]) ?_;have pS:=sz kU j;simp only[adg]at rl ⊢;simp[show(dn cs j).length+cs[j]?.getD 0≤1000000 by omega];rw[va];simp[gi]
  done
 ·rintro _ ⟨s5,rfl⟩;have Mj:1≤(dn cs cs.length).length:=aff (head_mem (by omega) kU);have Mk:=sz kU cs.length;generalize fO:(dn cs cs.length).length=L at Mj Mk;obtain⟨ie,aaJ,Ot⟩:=lr r2 (n:=2) (by decide);generalize bW:((L:Int)-1)/2-r2%2=v;have aaO: -1≤v∧2*v+1≤L:=by have:r2%2=(ie:Int):=Ot;omega
  simp[eT];refine pA v.toNat (fun j ρ=>∃left ws cR jV,Lay (dn cs cs.length) left ws∧left.length+2*j=L∧ws.length=j∧ρ=[.aA (.int cell),.aA (.lst (xs.map D.int)),.aA (.int (m+1:Nat)),.aA (.lst (cc cs)),.dj (left.map aU),s5,.dj (ws.map dQ),cR,jV]) ?_ ⟨dn cs cs.length,[],.un,.un,⟨by simpa[ends]using yM cs cs.length,fun d hd=>by simpa[ends]using hd⟩,by omega,rfl,rfl⟩ ?_ ?_
  ·simp(disch:=first|decide|omega|(simp;done)|(simp;omega)) [N7,fO,bW,WO (v:=v) (by omega) (by omega)]
  ·rintro j _ cz ⟨left,ws,cR,jV,lay,h1,h2,rfl⟩;obtain⟨Lw,N8⟩:=at' (8+2*j) (by omega);obtain⟨Lx,N_⟩:=at' (9+2*j) (by omega);obtain⟨k1,Ay,Of⟩:=lr Lw (n:=left.length) (by omega);have le:(left.eraseIdx k1).length=left.length-1:=by simp[ago,Ay]
   obtain⟨k2,m5,Og⟩:=lr Lx (n:=(left.eraseIdx k1).length) (by omega);have N9:aG (.lst (xs.map D.int)) (.int (8+2*(j:Int)))=.ok (.int Lw):=by rw[←N8];simp
   have Oa:aG (.lst (xs.map D.int)) (.int (9+2*(j:Int)))=.ok (.int Lx):=by rw[←N_];simp
   have kO:=BI aU (i:=4) Ay (by omega);have kP:=BI aU (i:=4) m5 (by omega);simp(disch:=first|decide|omega|(simp;done)|(simp;omega)) [N9,Oa,Of,kO,Og,kP];refine⟨_,_,lay.take Ay m5,by rw[ago,if_pos m5,le];omega,by simp[h2],rfl,by simp[dQ]⟩
  ·rintro _ ⟨left,ws,cR,jV,lay,h1,h2,rfl⟩;have nl:1≤left.length:=by omega
   simp;refine⟨cs,ws,⟨by omega,by omega,kU,(List.nodup_append.mp lay.a7).2.1,fun d hd=>lay.sub d (adA _ hd),?_,by omega⟩,rfl,rfl⟩;cases left with
   |nil=>simp at nl
   |cons d r=>exact⟨d,lay.sub d (by simp),fun z=>(List.nodup_append.mp lay.a7).2.2 d (by simp) d z rfl⟩
inductive bV where
 |eu (k:Bool)
 |ac (w h:Nat)
def wS:Str:=PySem.Str.ofString "wait"
noncomputable def hE(w:Nat):Str:=if w=0 then PySem.Str.ofString "teach" else if w=1 then PySem.Str.ofString "turn" else PySem.Str.ofString "forget"
def bP:bV→D
 |.eu true=>iJ
 |.eu false=>.tup [.str wS]
 |.ac w h=>.tup [.str (hE w),.int (h:Int)]
def bV.act:bV→Bool
 |.eu _=>false
 |.ac _ _=>true
def bV.ok(n:Nat):bV→Prop
 |.eu _=>True
 |.ac w h=>w<3∧h<n
def kn:bV→List Key
 |.eu _=>[]
 |.ac w h=>[.inr (hE w),.inl (h:Int)]
noncomputable def dp(cs:List Nat)(ws:List (ay×ay)):D:=.ins "Net" ["many","counts","joined","far"] [.int (cs.length:Nat),.tup (cc cs),.tup (ws.map dQ),.bx (dY ws) (ei ws)]
theorem wQ(cs:List Nat)(ws:List (ay×ay)):fc "Net" "many" (dp cs ws)=.ok (.int (cs.length:Int)):=rfl
theorem r1(w:Nat)(h:w<3):w=0∨w=1∨w=2:=by omega
theorem X_{cs:List Nat}{ws:List (ay×ay)}{s:bV}(h:s.ok cs.length):wG [bP s,dp cs ws]=.ok (.v (.aF true)):=by
 cases s with
 |eu k=>cases k<;>rfl
 |ac w k=>
  obtain⟨hw,aH⟩:=h;have cI:aG (bP (.ac w k)) (.int 0)=.ok (.str (hE w)):=rfl;have aq:aG (bP (.ac w k)) (.int 1)=.ok (.int k):=rfl;have l:dC [bP (.ac w k)]=.ok (.int 2):=rfl;have t1:fx "tuple" (bP (.ac w k))=.ok (.aF true):=rfl;have cy:fx "str" (.str (hE w))=.ok (.aF true):=rfl;have bA:inD false (.int 2) (.tup [.int 1,.int 2])=.ok (.aF false):=rfl;have bI:inD true (.str (hE w)) (.tup [.str (PySem.Str.ofString "teach"),.str (PySem.Str.ofString "turn"),.str (PySem.Str.ofString "forget")])=.ok (.aF true):=by rcases r1 w hw with h|h|h<;>subst h<;>rfl
  simp[wG,y8,cI,aq,l,t1,cy,bA,bI,wQ,uE];omega
theorem Ud(s:bV):cw false (bP s) iJ=.ok (.aF s.act)∧cw false (bP s) (.tup [.str wS])=.ok (.aF s.act):=by
 cases s with
 |eu k=>cases k<;>exact⟨rfl,rfl⟩
 |ac w k=>
  have e:dT [.str (hE w),.int (k:Int)] [.str wS]=false:=by simp[dT]
  exact⟨by show R.ok (D.aF (!dT [.str (hE w),.int (k:Int)] [.str wS]))=_;rw[e];rfl,by show R.ok (D.aF (!dT [.str (hE w),.int (k:Int)] [.str wS]))=_;rw[e];rfl⟩
theorem Ze{a b:Nat}(ag:a<3)(J:b<3)(h:hE a=hE b):a=b:=by rcases r1 a ag with h1|h1|h1<;>rcases r1 b J with h2|h2|h2<;>subst h1<;>subst h2<;>first|rfl|(exact absurd h (by decide))
theorem R_{n:Nat}{s t:bV}(hs:s.ok n)(bT:t.ok n)(as:s.act=true)(at':t.act=true)(h:kn s=kn t):s=t:=by
 cases s with
 |eu k=>cases as
 |ac w k=>
  cases t with
  |eu k=>cases at'
  |ac eQ k'=>
   simp only[kn,afl,Sum.inr.injEq,ai0,and_true]at h;have:=Ze hs.1 bT.1 h.1;have:k=k':=by omega
   subst_vars;rfl
theorem H2:∀{ss:List bV},(∀s∈ss,s.act=true)→qk (ss.map bP)=some (ss.map kn)
 |[],_=>rfl
 |s::ss,h=>by
  have bQ:=H2 (ss:=ss) fun x ax=>h x (by simp[ax]);have e:Dm (bP s)=some (kn s):=by
   cases s with
   |eu k=>exact nomatch h (.eu k) (by simp)
   |ac w k=>rfl
  simp only[adi,qk,e,bQ]
theorem NP{α:Type}[DecidableEq α](l:List (List α)):∀S:List (List α),S.Nodup→((l.foldl e0.j8 S).length=S.length+l.length↔(S++l).Nodup)∧(l.foldl e0.j8 S).length≤S.length+l.length:=by
 induction l with
 |nil=>intro S h;simp[h]
 |cons a l bQ=>
  intro S h;simp only[ah3,adl];by_cases ag:a∈S
  ·have e:e0.j8 S a=S:=by simp[e0.j8,ag]
   rw[e];have:=(bQ S h).2;refine⟨⟨fun z=>by omega,fun z=>?_⟩,by omega⟩;exact absurd ag fun q=>(List.nodup_append.mp z).2.2 a q a (by simp) rfl
  ·have e:e0.j8 S a=S++[a]:=by simp[e0.j8,ag]
   rw[e];have aK:(S++[a]).Nodup:=by rw[af9];refine⟨h,by simp,fun x ax y bq z=>?_⟩;rw[List.mem_singleton.mp bq]at z;exact ag (z▸ax)
   have:=bQ (S++[a]) aK;simp only[adD,afm,ag_,List.singleton_append]at this;rw[show S.length+(l.length+1)=S.length+1+l.length by omega];exact this
theorem NO{α:Type}[DecidableEq α](l:List (List α)):(e0.hY l).length=l.length↔l.Nodup:=by have:=(NP l [] afC).1;simpa[e0.hY]using this
structure iC(n:Nat)(ps:List bV):Prop where
 ok:∀s∈ps,s.ok n
 a7:(ps.filter bV.act).Nodup
theorem nodup_map_on{α β:Type}{f:α→β}:∀{l:List α},(∀a∈l,∀b∈l,f a=f b→a=b)→l.Nodup→(l.map f).Nodup
 |[],_,_=>afC
 |a::l,h,aK=>by rw[afY]at aK;rw[adi,afY];refine⟨fun z=>?_,nodup_map_on (fun x ax y bq=>h x (by simp[ax]) y (by simp[bq])) aK.2⟩;obtain⟨b,J,e⟩:=List.mem_map.mp z;exact aK.1 (h b (by simp[J]) a (by simp) e▸J)
theorem IU{α β:Type}{f:α→β}:∀{l:List α},(l.map f).Nodup→l.Nodup
 |[],_=>afC
 |a::l,h=>by rw[adi,afY]at h;rw[afY];exact⟨fun z=>h.1 (List.mem_map.mpr ⟨a,z,rfl⟩),IU h.2⟩
theorem ER{α:Type}(f:α→Bool):∀l:List α,mU (l.map fun a=>D.aF (f a))=some (l.map f)
 |[]=>rfl
 |a::l=>by simp[mU,ER f l]
theorem qH{α:Type}(f:α→Bool)(l:List α):bt.dn [.lst (l.map fun a=>D.aF (f a))]=.ok (.aF (l.all f)):=by simp[bt.dn,ER,af_]
theorem AW(l:List D):fx "list" (.lst l)=.ok (.aF true):=rfl
theorem VU{cs:List Nat}{ws:List (ay×ay)}{ps:List bV}(h:∀s∈ps,s.ok cs.length)(ai:ps.length≤40){c:Bool}(aB:c=true↔(ps.filter bV.act).Nodup):rF [.lst (ps.map bP),dp cs ws]=.ok (.v (.aF c)):=by
 suffices h:Ends (rF [.lst (ps.map bP),dp cs ws]) (· =.v (.aF c))by
  obtain⟨b,e,rfl⟩:=h;exact e
 simp[rF,y6,AW,qN,show¬((40:Int)<ps.length)by omega];refine n6 bP ps (fun _=>.aF true) (by simp) (by omega) (fun s hs=>by simp[X_ (ws:=ws) (h s hs)]) ?_;have a:=qH (fun _=>true) ps;simp[a];refine sN bP ps bV.act bP (by simp) (by omega) (fun s hs=>by simp[Ud]) (fun s _ _=>by simp) ?_;have k:=H2 (ss:=ps.filter bV.act) fun s hs=>(List.mem_filter.mp hs).2;have hi:=afo bV.act ps;have ls:tq [.lst ((ps.filter bV.act).map bP)]=.ok (.int (e0.hY ((ps.filter bV.act).map kn)).length):=by simp[tq,k,show(ps.filter bV.act).length<77 by omega]
 simp[ls];have q:=NO ((ps.filter bV.act).map kn);rw[adE]at q;have r:((ps.filter bV.act).map kn).Nodup↔(ps.filter bV.act).Nodup:=⟨IU,nodup_map_on fun a ag b J=>R_ (h a (List.mem_filter.mp ag).1) (h b (List.mem_filter.mp J).1) (List.mem_filter.mp ag).2 (List.mem_filter.mp J).2⟩;rw[r]at q;by_cases aK:(ps.filter bV.act).Nodup
 ·rw[aB.mpr aK,q.mpr aK];simp
 ·have:c=false:=by
    cases c with
    |true=>exact absurd (aB.mp rfl) aK
    |false=>rfl
  rw[this,beq_eq_false_iff_ne];exact fun z=>aK (q.mp (by omega))
theorem VW{cs:List Nat}{ws:List (ay×ay)}{ps:List bV}(h:iC cs.length ps)(ai:ps.length≤40):rF [.lst (ps.map bP),dp cs ws]=.ok (.v (.aF true)):=by rw[VU h.ok ai (c:=true) ⟨fun _=>h.a7,fun _=>rfl⟩]
theorem iC.perm{n:Nat}{ps jT:List bV}(h:iC n ps)(p:ah8 ps jT):iC n jT:=⟨fun s hs=>h.ok s (p.mem_iff.mpr hs),(p.filter _).nodup_iff.mp h.a7⟩
theorem iC.eu{n:Nat}{ps:List bV}{k:Bool}(h:iC n ps):iC n (.eu k::ps):=⟨fun s hs=>(List.mem_cons.mp hs).elim (fun e=>by rw[e];trivial) (h.ok s),by simpa[bV.act]using h.a7⟩
theorem iC.erase{n:Nat}{ps:List bV}{k:Nat}(h:iC n ps):iC n (ps.eraseIdx k):=⟨fun s hs=>h.ok s (List.eraseIdx_subset hs),h.a7.sublist ((List.eraseIdx_sublist ps k).filter _)⟩
noncomputable def plain(n:Nat)(k:Bool):List bV:=((adf n).map (bV.ac 0)++(adf n).map (bV.ac 1))++[.eu k]++(adf n).map (bV.ac 2)
theorem plain_len(n:Nat)(k:Bool):(plain n k).length=3*n+1:=by simp[plain];omega
theorem VT(n:Nat)(k:Bool):iC n (plain n k):=by
 constructor
 ·intro s hs;simp[plain]at hs;rcases hs with⟨a,h,rfl⟩|⟨a,h,rfl⟩|rfl|⟨a,h,rfl⟩
  ·exact⟨by decide,h⟩
  ·exact⟨by decide,h⟩
  ·trivial
  ·exact⟨by decide,h⟩
 ·have f:∀w:Nat,((adf n).map (bV.ac w)).filter bV.act=(adf n).map (bV.ac w):=fun w=>List.filter_eq_self.mpr fun s hs=>by
    obtain⟨a,_,rfl⟩:=List.mem_map.mp hs;rfl
  have a7:∀w:Nat,((adf n).map (bV.ac w)).Nodup:=fun w=>nodup_map_on (fun a _ b _ e=>by cases e;rfl) ahr;simp only[plain,agR,f];simp only[bV.act,List.filter_cons,List.filter_nil,adb,if_false,ael];rw[af9,af9];refine⟨⟨a7 0,a7 1,fun a ag b J e=>?_⟩,a7 2,fun a ag b J e=>?_⟩
  ·obtain⟨x,_,rfl⟩:=List.mem_map.mp ag;obtain⟨y,_,rfl⟩:=List.mem_map.mp J;cases e
  ·obtain⟨y,_,rfl⟩:=List.mem_map.mp J;rcases List.mem_append.mp ag with ag|ag
   ·obtain⟨x,_,rfl⟩:=List.mem_map.mp ag;cases e
   ·obtain⟨x,_,rfl⟩:=List.mem_map.mp ag;cases e
theorem Ue{a b c:Int}{N:Int}(ag:0≤a∧a≤N)(J:0≤b∧b≤N)(aB:0≤c∧c≤N)(t:Int)(h0:0≤t)(h:t≤4):∃v,(0≤v∧v≤N)∧aG (.lst [.int a,.int b,.int c]) (.int (t-2))=.ok (.int v):=by
 have:t=0∨t=1∨t=2∨t=3∨t=4:=by omega
 rcases this with h|h|h|h|h<;>subst h
 ·exact⟨b,J,rfl⟩
 ·exact⟨c,aB,rfl⟩
 ·exact⟨a,ag,rfl⟩
 ·exact⟨b,J,rfl⟩
 ·exact⟨c,aB,rfl⟩
theorem VV(zs:List Int)(n:Nat)(h1:1≤n)(h6:n≤6):∃ps,iC n ps∧1≤ps.length∧ps.length≤39∧tT [.lst (zs.map D.int),.int n]=.ok (.o (ps.map bP)):=by
 suffices h:Ends (tT [.lst (zs.map D.int),.int n]) fun b=>∃ps,iC n ps∧1≤ps.length∧ps.length≤39∧b=.o (ps.map bP)by
  obtain⟨b,e,ps,a,b,c,rfl⟩:=h;exact⟨ps,a,b,c,e⟩
 simp(disch:=first|decide|omega|(simp;done)|(simp;omega)) [tT,zq];refine pz n (fun i=>bP (.ac 0 i)) (by simp) (by omega) (fun k aH=>by simp[bP,hE]) ?_;refine pz n (fun i=>bP (.ac 1 i)) (by simp) (by omega) (fun k aH=>by simp[bP,hE]) ?_;simp(disch:=first|decide|omega|(simp;done)|(simp;omega));refine pz n (fun i=>bP (.ac 2 i)) (by simp) (by omega) (fun k aH=>by simp[bP,hE]) ?_;simp(disch:=first|decide|omega|(simp;done)|(simp;omega));refine vz D.int zs (fun j ρ=>∃ps s4 s5 dk cR jV,iC n ps∧1≤ps.length∧ps.length≤39∧ρ=[.aA (.lst (zs.map D.int)),.aA (.int n),.aA (.lst (gE 0 n)),.dj (ps.map bP),s4,s5,dk,cR,jV]) (by simp) ⟨plain n false,.un,.un,.un,.un,.un,VT n false,by rw[plain_len];omega,by rw[plain_len];omega,by simp[plain,bP,wS,af_]⟩ ?_ ?_
 ·rintro j z _ bo ⟨ps,s4,s5,dk,cR,jV,ok,dZ,wq,rfl⟩;obtain⟨lO,cI⟩:=wY z 0 (by decide);obtain⟨eX,aq⟩:=wY z 1 (by decide);obtain⟨eY,aD⟩:=wY z 2 (by decide);have pv:lj [.int z,.int 0]=.ok (.v (.int lO)):=cI;have gB:lj [.int z,.int 1]=.ok (.v (.int eX)):=aq;have N6:lj [.int z,.int 2]=.ok (.v (.int eY)):=aD;obtain⟨k,aH,fD⟩:=lr lO (n:=ps.length) (by omega);obtain⟨t,bT,mV⟩:=lr eX (n:=6) (by decide);have Oz:eX%6=(t:Int):=mV;simp(disch:=first|decide|omega|(simp;done)|(simp;omega)) [pv,gB,fD,Oz];have b0:(if t=0 then R.ok (decide ((1:Int)<(ps.length:Int)))else R.ok false)=R.ok (decide (t=0∧1<ps.length)):=by
   by_cases h:t=0<;>simp[h]<;>omega
  have c9:(if(t:Int)=1 then R.ok (decide ((ps.length:Int)<39))else R.ok false)=R.ok (decide (t=1∧ps.length<39)):=by
   by_cases h:t=1
   ·simp[h];omega
   ·simp[h,show¬(t:Int)=1 by omega]
  have P:=BI bP (i:=3) aH (by omega);have le:(ps.eraseIdx k).length=ps.length-1:=by simp[ago,aH]
  rw[b0];by_cases A:t=0∧1<ps.length
  ·simp[A,P];exact⟨ps.eraseIdx k,ok.erase,by omega,by omega,rfl⟩
  ·rw[decide_eq_false A,dO,c9];simp;by_cases B:t=1∧ps.length<39
   ·have Q:=HH bP (i:=3) (l:=ps) (v:=(k:Int)) (by omega) (by omega) (by omega) (.eu false) (.tup [.str (PySem.Str.ofString "wait")]) rfl;simp[B,Q];exact⟨pN ps k (.eu false),ok.eu.perm (AS _ _ _).symm,by rw[v7];omega,by rw[v7];omega,rfl⟩
   ·rw[if_neg B];by_cases C:(t:Int)<5
    ·simp only[C,if_true,P,dO];have Z6:=agF eY (b:=((ps.length-1:Nat):Int)+1) (by omega);have Z7:=afT eY (b:=((ps.length-1:Nat):Int)+1) (by omega);obtain⟨v,bW,ev⟩:=Ue (a:=(k:Int)+1) (b:=if(1:Int)<(k:Int)then(k:Int)-1 else 0) (c:=eY%(((ps.length-1:Nat):Int)+1)) (N:=100) (by omega) (by split<;>omega) (by omega) (t:Int) (by omega) (by omega);have Q:=HH bP (i:=3) (l:=ps.eraseIdx k) (v:=v) bW.1 (by omega) (by omega) ps[k] (bP ps[k]) rfl;simp(disch:=first|decide|omega|(simp;done)|(simp;omega)) [N6,le,ev,Q];refine⟨pN (ps.eraseIdx k) v.toNat ps[k],ok.perm ((AS _ _ _).trans (vC ps k aH)).symm,by rw[v7];omega,by rw[v7];omega,rfl⟩
    ·simp only[C,if_false];simp;exact⟨ps,ok,dZ,wq,rfl⟩
 ·rintro _ ⟨ps,s4,s5,dk,cR,jV,ok,dZ,wq,rfl⟩;simp;exact⟨ps,ok,dZ,wq,rfl⟩
def yG(c:Nat):Prop:=c=48∨c=49∨c=120
structure lW(x:Str):Prop where
 l:x.cps.toList.length=4
 s:∀c∈x.cps.toList,yG c
theorem XJ{c:Nat}(h:yG c):inD true (dX c) qO=.ok (.aF true):=by rcases h with h|h|h<;>subst h<;>rfl
theorem len_str(x:Str)(h:x.cps.toList.length≤1000):dC [.str x]=.ok (.int (x.cps.toList.length:Int)):=by
 have e:x.length=x.cps.toList.length:=rfl;have aD:x.length≤1000000:=by omega
 rw[←e];simp only[dC,if_pos aD]
theorem RG(x:Str):fx "str" (.str x)=.ok (.aF true):=rfl
theorem RH(l:List D):fx "tuple" (.tup l)=.ok (.aF true):=rfl
theorem Zj:dC [n3]=.ok (.int 4):=rfl
theorem Jk{x:Str}(h:lW x):rE [.str x]=.ok (.v (.aF true)):=by apply Ends.done;have l:=h.l;simp[rE,y5,RG,len_str x (by omega),Zj,l];refine n6 dX x.cps.toList (fun _=>.aF true) (by simp) (by omega) (fun c aB=>by simp[XJ (h.s c aB)]) ?_;have a:=qH (fun _:Nat=>true) x.cps.toList;simp only[a];simp
structure c1 where
 p:Str
 a:Option Nat
 b:Option Nat
def dF:Option Nat→D
 |none=>.non
 |some k=>.int (k:Int)
def fj(r:c1):D:=.tup [.str r.p,dF r.a,dF r.b]
structure nS(c:Nat)(r:c1):Prop where
 p:lW r.p
 a:∀k,r.a=some k→k<c
 b:∀k,r.b=some k→k<c
theorem IY{c:Nat}{o:Option Nat}(h:∀k,o=some k→k<c):ow [dF o,.int (c:Int)]=.ok (.v (.aF true)):=by
 cases o with
 |none=>simp[ow,vh,dF,fX]
 |some k=>have:=h k rfl;simp[ow,vh,dF,fX,uE];omega
theorem WS{c:Nat}{p a b:D}{h1 h2 h3:Bool}(aq:rE [p]=.ok (.v (.aF h1)))(aD:ow [a,.int (c:Int)]=.ok (.v (.aF h2)))(b4:ow [b,.int (c:Int)]=.ok (.v (.aF h3))):rG [.tup [p,a,b],.int (c:Int)]=.ok (.v (.aF (h1&&h2&&h3))):=by have eH:aG (.tup [p,a,b]) (.int 0)=.ok p:=rfl;have bA:aG (.tup [p,a,b]) (.int 1)=.ok a:=rfl;have bI:aG (.tup [p,a,b]) (.int 2)=.ok b:=rfl;cases h1<;>cases h2<;>cases h3<;>simp[rG,y7,RH,eH,bA,bI,aq,aD,b4]
theorem WU{c:Nat}{r:c1}(h:nS c r):rG [fj r,.int (c:Int)]=.ok (.v (.aF true)):=WS (Jk h.p) (IY h.a) (IY h.b)
def bU(b:List c1):D:=.lst (b.map fj)
structure nK(c:Nat)(b:List c1):Prop where
 l:b.length≤12
 r:∀r∈b,nS c r
theorem M0{c:Nat}{l:List D}{f:D→Bool}(ai:l.length≤12)(h:∀d∈l,rG [d,.int (c:Int)]=.ok (.v (.aF (f d)))):rD [.lst l,.int (c:Int)]=.ok (.v (.aF (l.all f))):=by apply Ends.done;simp[rD,y2,AW,qM,show¬((12:Int)<l.length)by omega];refine n6 id l (fun d=>.aF (f d)) (by simp) (by omega) (fun d hd=>by simp[h d hd]) ?_;have a:=qH f l;simp[a]
theorem M3{c:Nat}{b:List c1}(h:nK c b):rD [bU b,.int (c:Int)]=.ok (.v (.aF true)):=by
 have:=M0 (c:=c) (l:=b.map fj) (f:=fun _=>true) (by simpa using h.l) fun d hd=>by obtain⟨r,au,rfl⟩:=List.mem_map.mp hd;exact WU (h.r r au)
 unfold bU;rw[this];simp
theorem Nt(cs:List Nat)(ws:List (ay×ay)):fc "Net" "counts" (dp cs ws)=.ok (.tup (cc cs)):=rfl
theorem XA(cs:List Nat)(ws:List (ay×ay)):qe "Net" "count" (dp cs ws)=.ok (dp cs ws):=rfl
theorem Nw{cs:List Nat}{ws:List (ay×ay)}{h:Nat}(bD:h<cs.length):wB [dp cs ws,.int (h:Int)]=.ok (.v (.int (cs.getD h 0:Nat))):=by have e:aG (.tup (cc cs)) (.int (h:Int))=.ok (.int (cs.getD h 0:Nat)):=AY (sF bD);simp only[adg]at e ⊢;simp[wB,yU,wQ,Nt,e,bD]
theorem M4{cs:List Nat}{ws:List (ay×ay)}{l:List D}{f:D×Nat→Bool}(ai:l.length=cs.length)(h6:cs.length≤6)(h:∀p∈l.zipIdx,rD [p.1,.int (cs.getD p.2 0:Nat)]=.ok (.v (.aF (f p)))):tN [.lst l,dp cs ws]=.ok (.v (.aF (l.zipIdx.all f))):=by
 apply Ends.done;simp[tN,y3,AW,wQ,ai];have qV:=zZ id l;rw[List.map_id]at qV;refine n7 (fun p:D×Nat=>.int (p.2:Int)) (fun p=>p.1) l.zipIdx (fun p=>.aF (f p)) (by simp only[Dt,r0,v_var,qm];simp[qV]) (by simp;omega) (fun p aS=>?_) ?_
 ·have:=(List.getElem?_eq_some_iff.mp (DX aS)).1;have aB:=Nw (cs:=cs) (ws:=ws) (h:=p.2) (by omega);have J:=h p aS;simp only[adg]at aB J;simp[XA,aB,J]
 ·have a:=qH f l.zipIdx;simp[a]
structure lS(cs:List Nat)(bs:List (List c1)):Prop where
 l:bs.length=cs.length
 b:∀(i:Nat) b,bs[i]?=some b→nK (cs.getD i 0) b
theorem EO{cs:List Nat}{ws:List (ay×ay)}{bs:List (List c1)}(h6:cs.length≤6)(h:lS cs bs):tN [.lst (bs.map bU),dp cs ws]=.ok (.v (.aF true)):=by
 have:=M4 (ws:=ws) (l:=bs.map bU) (f:=fun _=>true) (by simpa using h.l) h6 fun p aS=>by
  have e:=DX aS;rw[ade]at e;cases bj:bs[p.2]? with
  |none=>rw[bj]at e;cases e
  |some b=>rw[bj]at e;rw[←adh (show some (bU b)=some p.1 from e)];exact M3 (h.b _ _ bj)
 rw[this];simp
@[simp] theorem acf(m:aY)(ρ:av):tD m ρ=(m ρ).bind DV:=(rfl)
@[simp] theorem ab4(m n:aN)(ρ:av):tB m n ρ=(m ρ).bind fun d=>match d with
  |.bx ks ds=>(n ρ).bind fun k=>match md k with
   |some kk=>.ok ((findD ks ds kk).getD .non)
   |none=>.bad
  |_=>.bad:=(rfl)
@[simp] theorem Du(e:aN)(ρ:av):hA e ρ=(e (eT ρ)).bind fun d=>.ok (.dJ d):=by unfold hA;rfl
@[simp] theorem aca(m:aN)(ma:aY)(ρ:av):mh m ma ρ=(m ρ).bind fun d=>match d with
  |.lst ds=>(ma ρ).bind fun es=>rd (.lst ds) es
  |_=>.bad:=(rfl)
theorem My(i:Int):wF [.int i]=.ok (.v (.aF (decide (0≤i)&&decide (i≤15)))):=by simp[wF,y1,uE,n0]
def gd(a w:Nat):Nat:=48+a/w%2
def pD(p:Str)(a:Nat):Bool:=(p.cps.toList.zip [8,4,2,1]).all fun q=>decide (q.1=120∨q.1=gd a q.2)
theorem KA(b:Nat)(h:b=0∨b=1):oM [.int (b:Int)]=.ok (.str ⟨#[48+b]⟩):=by rcases h with rfl|rfl<;>rfl
theorem sign_eq(c d:Nat):bz (.str ⟨#[d]⟩) (dX c)=decide (c=d):=by show bz (.str ⟨#[d]⟩) (.str ⟨#[c]⟩)=_;simp only[bz];rw[ad2,beq_iff_eq,decide_eq_true_iff];simp;exact eq_comm
theorem KC:PySem.Str.ofString "x"=⟨#[120]⟩:=by decide
theorem Rr(c d:Nat):inD true (dX c) (.tup [.str (PySem.Str.ofString "x"),.str ⟨#[d]⟩])=.ok (.aF (decide (c=120∨c=d))):=by have o:okN 7 (dX c)=true:=rfl;have cQ:okN 7 (.str (PySem.Str.ofString "x"))=true:=rfl;have b_:okN 7 (.str ⟨#[d]⟩)=true:=rfl;have s:oJ (.tup [.str (PySem.Str.ofString "x"),.str ⟨#[d]⟩])=some [.str (PySem.Str.ofString "x"),.str ⟨#[d]⟩]:=rfl;simp only[inD,s,o,cQ,b_,afr,List.all_nil,aiV,and_self,if_true,ae8,List.any_nil,Bool.or_false];rw[KC,sign_eq,sign_eq];simp
theorem OQ{p:Str}(aS:lW p){a:Nat}(ag:a<16):pY [.str p,.int (a:Int)]=.ok (.v (.aF (pD p a))):=by
 apply Ends.done;have l:=aS.l;simp[pY,yZ,Jk aS,My,show(a:Int)≤15 by omega];refine n7 (fun q:Nat×Nat=>dX q.1) (fun q=>.int (q.2:Int)) (p.cps.toList.zip [8,4,2,1]) (fun q=>.aF (decide (q.1=120∨q.1=gd a q.2))) ?_ (by simp;omega) (fun q aR=>?_) ?_
 ·show R.ok (qu p.cps.toList [.int 8,.int 4,.int 2,.int 1])=_;unfold qu;rw[show([.int 8,.int 4,.int 2,.int 1]:List D)=([8,4,2,1]:List Nat).map fun(n:Nat)=>D.int (n:Int)from rfl,List.zip_map_right,aek];rfl
 ·have hw:q.2=8∨q.2=4∨q.2=2∨q.2=1:=by
    have:=(agz (show(q.1,q.2)∈_ from aR)).2;simpa using this
  have e6:oM [.int ((a:Int)/(q.2:Int)%2)]=.ok (.str ⟨#[48+a/q.2%2]⟩):=by have:=KA (a/q.2%2) (by omega);rw[←this];simp
  simp(disch:=first|omega|(simp;done)|(simp;omega)) [e6,Rr,gd];rw[ad2];simp;exact decide_eq_true_iff.symm
 ·have al:=qH (fun q:Nat×Nat=>decide (q.1=120∨q.1=gd a q.2)) (p.cps.toList.zip [8,4,2,1]);simp only[al];simp[pD]
def mt(d a:Nat)(r:c1):Bool:=(r.a.isNone||r.a==some d)&&pD r.p a
theorem HL(o:Option Nat):fX (dF o)=o.isNone:=by cases o<;>rfl
theorem Fp(o:Option Nat)(d:Nat):cw true (dF o) (.int (d:Int))=.ok (.aF (o==some d)):=by
 cases o with
 |none=>rfl
 |some k=>
  show R.ok (D.aF ((k:Int)==(d:Int)))=_
  congr 2
  rw[ad2];simp;omega
theorem x2(mi:aY)(set:D→av→R av)(body:bl)(ρ:av):d6 mi set body ρ=(mi ρ).bind fun ds=>fm set body ds ρ:=(rfl)
noncomputable def i1(d a:Nat):Nat→List c1→Option Nat
 |_,[]=>none
 |i,r::rs=>if mt d a r=true then some i else i1 d a (i+1) rs
theorem K9{d a:Nat}(ag:a<16):∀(rs:List c1)(i:Nat)(s0 s3 s4:dc),(∀r∈rs,lW r.p)→
  Ends ((fm (eJ [br 3,br 4]) (cu (iV (eP (a_ (aj (e5 true) (aj aG (U 4) (ao (.int 1))) (ao .non))) (a_ (aj (cw true) (aj aG (U 4) (ao (.int 1))) (U 1)))) (a_ (b5 2 pY (ae (aj aG (U 4) (ao (.int 0))) (ae (U 2) (aC)))))) (b2 (U 3)) (cC)) ((rs.zipIdx i).map fun p=>.tup [.int (p.2:Int),fj p.1]) [s0,.aA (.int (d:Int)),.aA (.int (a:Int)),s3,s4]).bind (ig (b2 (ao .non)))) (· =.dJ (dF (i1 d a i rs)))
 |[],i,s0,s3,s4,_=>by simp[i1,dF]
 |r::rs,i,s0,s3,s4,h=>by
  have eH:aG (fj r) (.int 0)=.ok (.str r.p):=rfl;have bA:aG (fj r) (.int 1)=.ok (dF r.a):=rfl;have bQ:=K9 (d:=d) ag rs (i+1) s0 (.aA (.int (i:Int))) (.aA (fj r)) fun x ax=>h x (ac7 _ ax);have f:=OQ (h r adz) ag;have bd:(cu (iV (eP (a_ (aj (e5 true) (aj aG (U 4) (ao (.int 1))) (ao .non))) (a_ (aj (cw true) (aj aG (U 4) (ao (.int 1))) (U 1)))) (a_ (b5 2 pY (ae (aj aG (U 4) (ao (.int 0))) (ae (U 2) (aC)))))) (b2 (U 3)) (cC)) [s0,.aA (.int (d:Int)),.aA (.int (a:Int)),.aA (.int (i:Int)),.aA (fj r)]=if mt d a r=true then .ok (.dJ (.int (i:Int)))else .ok (.bO [s0,.aA (.int (d:Int)),.aA (.int (a:Int)),.aA (.int (i:Int)),.aA (fj r)]):=by unfold mt;have aV:=HL r.a;have bE:=Fp r.a d;generalize r.a.isNone=eC at aV ⊢;generalize(r.a==some d)=dE at bE ⊢;generalize pD r.p a=pd at f ⊢;cases eC<;>cases dE<;>cases pd<;>simp[eH,bA,aV,bE,f]
  rw[agg,adi,fm];simp only[XF,XC,XD,Y4,adl,aen,dO];simp only[show(3:Nat)<0+1+1+1+1+1 by decide,if_true,dO,List.set_cons_succ,List.set_cons_zero,adl,aen,show(4:Nat)<0+1+1+1+1+1 by decide,bd];cases hm:mt d a r with
  |true=>simp[i1,hm,dF]
  |false=>simp only[adb,if_false,dO,i1,hm];exact bQ
theorem YC{b:List c1}(J:∀r∈b,lW r.p)(d a:Nat)(ag:a<16):wO [bU b,.int (d:Int),.int (a:Int)]=.ok (.v (dF (i1 d a 0 b))):=by apply Ends.done;have e:pB [bU b]=.ok (b.zipIdx.map fun p=>.tup [.int (p.2:Int),fj p.1]):=zZ fj b;have k:=K9 (d:=d) ag b 0 (.aA (bU b)) .un .un J;obtain⟨f,hf,rfl⟩:=k;simp only[wO,uC,zA,oT,x2,Dt,r0,v_var,qm];have z:xo (k8 5 [bU b,.int (d:Int),.int (a:Int)])[0]?=.ok (bU b):=rfl;simp only[z,dO,e];have a9:k8 5 [bU b,.int (d:Int),.int (a:Int)]=[.aA (bU b),.aA (.int (d:Int)),.aA (.int (a:Int)),.un,.un]:=rfl;rw[a9,hf];simp
def st(s:String):D:=.str (PySem.Str.ofString s)
inductive On where
 |drop|out (o:Nat)|to (e:ay)
def pairsOf(ws:List (ay×ay)):List (ay×ay):=ws.flatMap fun w=>[(w.1,w.2),(w.2,w.1)]
def hg(ws:List (ay×ay))(d:ay):Option ay:=((pairsOf ws).find? fun p=>decide (p.1=d)).map (·.2)
theorem L4:∀ws:List (ay×ay),(dY ws).zip (ei ws)=(pairsOf ws).map fun p=>(hz p.1,aU p.2)
 |[]=>rfl
 |w::ws=>by
  have bQ:=L4 ws;have aq:dY (w::ws)=hz w.1::hz w.2::dY ws:=by simp[dY,ends]
  have aD:ei (w::ws)=aU w.2::aU w.1::ei ws:=by simp[ei]
  have b4:pairsOf (w::ws)=(w.1,w.2)::(w.2,w.1)::pairsOf ws:=by simp[pairsOf]
  rw[aq,aD,b4,aem,aem,bQ];rfl
theorem OP(ps:List (ay×ay))(d:ay):((ps.map fun p=>(hz p.1,aU p.2)).find? fun p=>decide (p.1=hz d))=(ps.find? fun p=>decide (p.1=d)).map fun p=>(hz p.1,aU p.2):=by
 induction ps with
 |nil=>rfl
 |cons p ps bQ=>
  rw[adi,adM,adM];by_cases h:p.1=d
  ·simp[h]
  ·have:hz p.1≠hz d:=fun z=>h (A2 z);simp[h,this,bQ]
theorem OO(ws:List (ay×ay))(d:ay):findD (dY ws) (ei ws) (hz d)=(hg ws d).map aU:=by unfold findD hg;rw[L4,OP,Option.map_map,Option.map_map];rfl
theorem EH{ws:List (ay×ay)}{d e:ay}(h:hg ws d=some e):e∈ends ws:=by
 unfold hg at h;obtain⟨p,aS,rfl⟩:=Option.map_eq_some_iff.mp h;have hm:=List.mem_of_find?_eq_some aS;unfold pairsOf at hm;obtain⟨w,hw,bo⟩:=List.mem_flatMap.mp hm;have G4:∀x,x=w.1∨x=w.2→x∈ends ws:=fun x ax=>List.mem_flatten.mpr ⟨[w.1,w.2],List.mem_map.mpr ⟨w,hw,rfl⟩,by simpa using ax⟩;simp only[aeG,aec,or_false]at bo;rcases bo with rfl|rfl
 ·exact G4 _ (.inr rfl)
 ·exact G4 _ (.inl rfl)
noncomputable def g6(h:Nat):On→D
 |.drop=>.tup [st "drop",.int (h:Int)]
 |.out o=>.tup [st "out",.int (h:Int),.int (o:Int)]
 |.to e=>.tup [st "at",.int (e.1:Int),.int (e.2:Int)]
noncomputable def bO(ws:List (ay×ay))(b:List c1)(h d a:Nat):On:=match i1 d a 0 b with
 |none=>.drop
 |some i=>match(b[i]?).bind (·.b)with
  |none=>.drop
  |some o=>match hg ws (h,o)with
   |none=>.out o
   |some e=>.to e
theorem K7{d a:Nat}:∀(rs:List c1)(i k:Nat),i1 d a i rs=some k→i≤k∧k<i+rs.length
 |[],_,_,h=>by simp[i1]at h
 |r::rs,i,k,h=>by
  simp only[i1]at h
  split at h
  ·cases h;simp
  ·have:=K7 rs (i+1) k h;simp;omega
theorem OJ(cs:List Nat)(ws:List (ay×ay)):fc "Net" "far" (dp cs ws)=.ok (.bx (dY ws) (ei ws)):=rfl
theorem Kd(cs:List Nat)(ws:List (ay×ay)):qe "Net" "beyond" (dp cs ws)=.ok (dp cs ws):=rfl
theorem MT(cs:List Nat)(ws:List (ay×ay))(d:ay):tJ [dp cs ws,aU d]=.ok (.v (((hg ws d).map aU).getD .non)):=by simp[tJ,yT,OJ,rj,OO]
theorem UU{cs:List Nat}{ws:List (ay×ay)}{b:List c1}(J:∀r∈b,lW r.p)(h d a:Nat)(ag:a<16):ni [dp cs ws,bU b,aU (h,d),.int (a:Int)]=.ok (.v (g6 h (bO ws b h d a))):=by
 have eH:aG (aU (h,d)) (.int 0)=.ok (.int (h:Int)):=rfl;have bA:aG (aU (h,d)) (.int 1)=.ok (.int (d:Int)):=rfl;have cb:=YC J d a ag;have MZ:∀o:Nat,tJ [dp cs ws,.tup [.int (h:Int),.int (o:Int)]]=.ok (.v (((hg ws (h,o)).map aU).getD .non)):=fun o=>MT cs ws (h,o);have oy:fX .non=true:=rfl;have n1:∀i,fX (.int i)=false:=fun _=>rfl;unfold bO;cases e:i1 d a 0 b with
 |none=>simp[ni,qK,eH,bA,cb,e,dF,oy,n1,g6,st]
 |some i=>
  have ar:=K7 b 0 i e;have G8:i<b.length:=by omega
  have jK:aG (bU b) (.int (i:Int))=.ok (fj b[i]):=je (by simp[G8]);have bI:aG (fj b[i]) (.int 2)=.ok (dF b[i].b):=rfl;simp only[ac2 G8,ahs];cases bj:b[i].b with
  |none=>simp[ni,qK,eH,bA,cb,e,dF,oy,n1,g6,st,jK,bI,bj]
  |some o=>
   have vl:=MZ o;cases dN:hg ws (h,o)with
   |none=>rw[dN]at vl;simp[ni,qK,eH,bA,cb,e,dF,oy,n1,g6,st,jK,bI,bj,Kd,vl,dN]
   |some f=>rw[dN]at vl;have f0:aG (aU f) (.int 0)=.ok (.int (f.1:Int)):=rfl;have f1:aG (aU f) (.int 1)=.ok (.int (f.2:Int)):=rfl;have iX:fX (aU f)=false:=rfl;simp[ni,qK,eH,bA,cb,e,dF,oy,n1,g6,st,jK,bI,bj,Kd,vl,dN,f0,f1,iX]
inductive nM where
 |drop (h:Nat)|out (h o:Nat)|ring (d:ay)
noncomputable def walk(N:ay→On):Nat→List ay→ay→Option (List ay×nM)
 |0,_,_=>none
 |n+1,ds,d=>if d∈ds then some (ds,.ring d)else match N d with
  |.to e=>walk N n (ds++[d]) e
  |.drop=>some (ds++[d],.drop d.1)
  |.out o=>some (ds++[d],.out d.1 o)
theorem Lq{N:ay→On}{A:List ay}(iM:A.length<100)(cl:∀d∈A,∀e,N d=.to e→e∈A):∀(n:Nat)(ds:List ay)(d:ay),ds.Nodup→(∀x∈ds,x∈A)→d∈A→101≤n+ds.length→∃r,walk N n ds d=some r
 |0,ds,d,a7,e6,_,h=>by have:=List.Nodup.length_le_of_subset a7 e6;omega
 |n+1,ds,d,a7,e6,hd,h=>by
  simp only[walk];by_cases hm:d∈ds
  ·rw[if_pos hm];exact⟨_,rfl⟩
  ·rw[if_neg hm];cases e:N d with
   |drop=>exact⟨_,rfl⟩
   |out o=>exact⟨_,rfl⟩
   |to f=>
    have Ua:(ds++[d]).Nodup:=List.nodup_append.mpr ⟨a7,by simp,fun x ax y bq z=>hm (by rw[←List.mem_singleton.mp bq,←z];exact ax)⟩;have W9:∀x∈ds++[d],x∈A:=fun x ax=>by
     rcases List.mem_append.mp ax with h|h
     ·exact e6 x h
     ·rw[List.mem_singleton.mp h];exact hd
    exact Lq iM cl n (ds++[d]) f Ua W9 (cl d hd f e) (by simp;omega)
theorem vw(a b:ay):bz (aU a) (aU b)=decide (a=b):=by
 show(((a.1:Int)==(b.1:Int))&&(((a.2:Int)==(b.2:Int))&&true))=_;rw[aiV,ad2,adF,beq_iff_eq,beq_iff_eq,decide_eq_true_iff];constructor
 ·intro⟨h1,h2⟩;exact Prod.ext (by omega) (by omega)
 ·rintro rfl;exact⟨rfl,rfl⟩
theorem Fd(ds:List ay):(ds.map aU).all (okN 7)=true:=by rw[afK,aeC];intro d _;rfl
theorem MH(ds:List ay)(d:ay):((ds.map aU).any fun y=>bz y (aU d))=decide (d∈ds):=by
 rw[ah_,ad2,aht,decide_eq_true_iff];constructor
 ·rintro⟨x,ax,h⟩;have:=(vw x d).symm.trans h;rw[decide_eq_true_iff]at this;rw[←this];exact ax
 ·intro h;exact⟨d,h,by show bz (aU d) (aU d)=true;rw[vw];simp⟩
theorem Bu{m1 m2:aN}{ρ:av}{ds:List ay}{d:ay}(h1:m1 ρ=.ok (aU d))(h2:m2 ρ=.ok (.lst (ds.map aU))):a_ (aj (inD false) m1 m2) ρ=.ok (!decide (d∈ds)):=by refine ro (zE h1 h2 ?_);have s:oJ (.lst (ds.map aU))=some (ds.map aU):=rfl;have o:okN 7 (aU d)=true:=rfl;simp only[inD,s,Fd,o,and_self,if_true,MH];rfl
def idx(ds:List ay)(d:ay):Nat:=(ds.findIdx? fun x=>decide (x=d)).getD 0
theorem HI{m1 m2:aN}{ρ:av}{ds:List ay}{d:ay}(h2:m2 ρ=.ok (.lst (ds.map aU)))(h1:m1 ρ=.ok (aU d))(hm:d∈ds)(ai:ds.length<1000):mh m2 (ae m1 aC) ρ=.ok (.int (idx ds d:Nat)):=by
 have f:(ds.map aU).findIdx? (fun z=>bz z (aU d))=ds.findIdx? (fun x=>decide (x=d)):=by
  rw[List.findIdx?_map]
  congr 1
  funext x
  exact vw x d
 have g:∃j,ds.findIdx? (fun x=>decide (x=d))=some j:=by
  cases e:ds.findIdx? (fun x=>decide (x=d))with
  |some j=>exact⟨j,rfl⟩
  |none=>exact absurd (List.findIdx?_eq_none_iff.mp e d hm) (by simp)
 obtain⟨j,g⟩:=g;have o:okN 7 (aU d)=true:=rfl;have l:(ds.map aU).length<1000000:=by rw[adE];omega
 rw[mh,h2,fK];simp only[show ae m1 aC ρ=.ok [aU d]by simp[h1],fK,rd,o,Fd,l,and_self,if_true,f,g,idx,afb]
noncomputable def px(ds:List ay):nM→D
 |.drop h=>.tup [st "drop",.int (h:Nat)]
 |.out h o=>.tup [st "out",.int (h:Nat),.int (o:Nat)]
 |.ring d=>.tup [st "ring",.int (idx ds d:Nat)]
def jq(r:List ay×nM):D:=.tup [.lst (r.1.map aU),px r.1 r.2]
def x5:cH:=jh (a_ (aj (inD false) (U 2) (U 4)))
noncomputable def uF:bl:=(a4 (hP 4 (U 2))
    (a4 (cT 5 (b5 4 ni (ae (U 0) (ae (aj aG (U 1) (aj aG (U 2) (ao (.int 0)))) (ae (U 2) (ae (U 3) (aC)))))))
    (a4 (cu (a_ (aj (cw false) (aj aG (U 5) (ao (.int 0))) (ao (.str (PySem.Str.ofString "at"))))) (hA (cU (ae (U 4) (ae (U 5) (aC))))) (cC))
    (cT 2 (cU (ae (aj aG (U 5) (ao (.int 1))) (ae (aj aG (U 5) (ao (.int 2))) (aC))))))))
noncomputable def x6:bl:=(hA (cU (ae (U 4) (ae (cU (ae (ao (.str (PySem.Str.ofString "ring"))) (ae (mh (U 4) (ae (U 2) (aC))) (aC)))) (aC)))))
noncomputable def mP(X Y:D)(d:ay)(a:Nat)(ds:List ay)(s5:dc):av:=[.aA X,.aA Y,.aA (aU d),.aA (.int (a:Int)),.dj (ds.map aU),s5]
theorem Ls(X Y:D)(d:ay)(a:Nat)(ds:List ay)(s5:dc):x5 (mP X Y d a ds s5)=.ok (!decide (d∈ds)):=Bu rfl rfl
structure jZ(cs:List Nat)(bs:List (List c1)):Prop where
 l:bs.length=cs.length
 p:∀b∈bs,∀r∈b,lW r.p
def ic(ws:List (ay×ay))(bs:List (List c1))(a:Nat)(d:ay):On:=bO ws (bs.getD d.1 []) d.1 d.2 a
theorem IK(s:String)(h:(PySem.Str.ofString s==PySem.Str.ofString "at")=false):cw false (st s) (.str (PySem.Str.ofString "at"))=.ok (.aF true):=by show R.ok (D.aF (!(PySem.Str.ofString s==PySem.Str.ofString "at")))=_;rw[h];rfl
theorem Zh{cs:List Nat}{ws:List (ay×ay)}{bs:List (List c1)}(J:jZ cs bs){d:ay}(hd:d.1<cs.length){a:Nat}(ag:a<16)(ds:List ay)(ai:ds.length<1000)(s5:dc) :
  uF (mP (dp cs ws) (.lst (bs.map bU)) d a ds s5)=match ic ws bs a d with
   |.to e=>.ok (.bO (mP (dp cs ws) (.lst (bs.map bU)) e a (ds++[d]) (.aA (g6 d.1 (.to e)))))
   |o=>.ok (.dJ (.tup [.lst ((ds++[d]).map aU),g6 d.1 o])):=by
 have eH:aG (aU d) (.int 0)=.ok (.int (d.1:Int)):=rfl;have fw:d.1<bs.length:=by rw[J.l];exact hd
 have eg:bs.getD d.1 []=bs[d.1]:=by simp[fw]
 have jK:aG (.lst (bs.map bU)) (.int (d.1:Int))=.ok (bU (bs.getD d.1 [])):=by rw[eg];exact je (by simp[fw])
 have on:=UU (cs:=cs) (ws:=ws) (b:=bs.getD d.1 []) (fun r au=>J.p bs[d.1] (agi _) r (by rw[←eg];exact au)) d.1 d.2 a ag;have By:ni [dp cs ws,bU (bs.getD d.1 []),aU d,.int (a:Int)]=.ok (.v (g6 d.1 (ic ws bs a d))):=on;have pS:(ds.map aU).length<1000000:=by simp;omega
 generalize bs.getD d.1 []=pe at*;generalize ic ws bs a d=o at*;simp only[uF,mP];cases o with
 |drop=>have cI:aG (g6 d.1 .drop) (.int 0)=.ok (st "drop"):=rfl;have n:=IK "drop" (by decide);simp(disch:=first|omega|(simp;done)|(simp;omega)) [eH,jK,By,cI,n]
 |out o=>have cI:aG (g6 d.1 (.out o)) (.int 0)=.ok (st "out"):=rfl;have n:=IK "out" (by decide);simp(disch:=first|omega|(simp;done)|(simp;omega)) [eH,jK,By,cI,n]
 |to e=>have cI:aG (g6 d.1 (.to e)) (.int 0)=.ok (st "at"):=rfl;have aq:aG (g6 d.1 (.to e)) (.int 1)=.ok (.int (e.1:Int)):=rfl;have aD:aG (g6 d.1 (.to e)) (.int 2)=.ok (.int (e.2:Int)):=rfl;have n:cw false (st "at") (.str (PySem.Str.ofString "at"))=.ok (.aF false):=rfl;simp(disch:=first|omega|(simp;done)|(simp;omega)) [eH,jK,By,cI,aq,aD,n];rfl
theorem Lu{cs:List Nat}{ws:List (ay×ay)}{bs:List (List c1)}(dq:iA cs ws)(J:jZ cs bs){a:Nat}(ag:a<16):∀(n:Nat)(ds:List ay)(d:ay)(s5:dc)(r:List ay×nM),d.1<cs.length→ds.length+n<1001→walk (ic ws bs a) n ds d=some r→
  (kH x5 uF n (mP (dp cs ws) (.lst (bs.map bU)) d a ds s5)).bind (ig x6)=.ok (.dJ (jq r))
 |0,ds,d,s5,r,_,_,h=>by simp[walk]at h
 |n+1,ds,d,s5,r,hd,ai,h=>by
  simp only[walk]at h;by_cases hm:d∈ds
  ·rw[if_pos hm]at h;obtain rfl:=adh h;rw[kH,Ls,dO,decide_eq_true hm];have i:=HI (m1:=U 2) (m2:=U 4) (ρ:=eT (mP (dp cs ws) (.lst (bs.map bU)) d a ds s5)) (ds:=ds) (d:=d) rfl rfl hm (by omega);have v4:U 4 (eT (mP (dp cs ws) (.lst (bs.map bU)) d a ds s5))=.ok (.lst (ds.map aU)):=rfl;simp only[aea,adb,if_false,dO,xF];simp only[x6,Du,Lk,r0,qm,Ds,i,v4,dO,rZ,adl,aen];simp[jq,px,st]
  ·rw[if_neg hm]at h;rw[kH,Ls,dO,decide_eq_false hm];have b:=Zh (ws:=ws) J hd ag ds (by omega) s5;simp only[adj,if_true,b];cases e:ic ws bs a d with
   |drop=>rw[e]at h;obtain rfl:=adh h;simp[jq,px,g6]
   |out o=>rw[e]at h;obtain rfl:=adh h;simp[jq,px,g6]
   |to f=>
    rw[e]at h;simp only[dO];have hf:f∈ends ws:=by
     unfold ic bO at e
     split at e
     ·cases e
     ·split at e
      ·cases e
      ·split at e
       ·cases e
       ·rename_i dN;cases e;exact EH dN
    exact Lu dq J ag n (ds++[d]) f _ r (p4.mp (dq.sub f hf)).1 (by simp;omega) h
theorem IZ{cs:List Nat}{ws:List (ay×ay)}{bs:List (List c1)}{a:Nat}(dq:iA cs ws){d f:ay}(e:ic ws bs a d=.to f):f∈dn cs cs.length:=by
 unfold ic bO at e
 split at e
 ·cases e
 ·split at e
  ·cases e
  ·split at e
   ·cases e
   ·rename_i dN;cases e;exact dq.sub _ (EH dN)
theorem DC{cs:List Nat}{ws:List (ay×ay)}{bs:List (List c1)}(dq:iA cs ws)(J:jZ cs bs){a:Nat}(ag:a<16){d:ay}(hd:d∈dn cs cs.length):∃r,walk (ic ws bs a) 1000 [] d=some r∧tU [dp cs ws,.lst (bs.map bU),aU d,.int (a:Int)]=.ok (.v (jq r)):=by have iM:=sz dq.c cs.length;have h6:=dq.h6;obtain⟨r,au⟩:=Lq (N:=ic ws bs a) (A:=dn cs cs.length) (by omega) (fun d _ e he=>IZ dq he) 1000 [] d afC (by simp) hd (by simp);refine⟨r,au,?_⟩;have k:=Lu dq J ag 1000 [] d .un r (p4.mp hd).1 (by simp) au;have z:tU [dp cs ws,.lst (bs.map bU),aU d,.int (a:Int)]=(a4 (fG 4 (ez aC)) (a4 (ov x5 uF) x6) [.aA (dp cs ws),.aA (.lst (bs.map bU)),.aA (aU d),.aA (.int (a:Int)),.un,.un]).bind outD:=rfl;rw[z];simp only[oT,Y3,Y1,qm,dO];have tn:lim []=.ok []:=rfl;simp only[tn,dO];have a9:(ov x5 uF (mP (dp cs ws) (.lst (bs.map bU)) d a [] .un)).bind (ig x6)=.ok (.dJ (jq r)):=k;have ju:([.aA (dp cs ws),.aA (.lst (bs.map bU)),.aA (aU d),.aA (.int (a:Int)),.un,.un]:av).set 4 (.dj [])=mP (dp cs ws) (.lst (bs.map bU)) d a [] .un:=rfl;simp only[show(4:Nat)<([.aA (dp cs ws),.aA (.lst (bs.map bU)),.aA (aU d),.aA (.int (a:Int)),.un,.un]:av).length from(by simp),if_true,dO,xF,oT,ju,a9];rfl
@[simp] theorem ach(sep:Str)(m:aY)(ρ:av):tF sep m ρ=(m ρ).bind (wc sep):=(rfl)
theorem HR(a b c d:Nat):wc (PySem.Str.ofString "") [.lst [dX a,dX b,dX c,dX d]]=.ok (.str ⟨#[a,b,c,d]⟩):=rfl
theorem xg(y:Int):∃c,yG c∧aG (.str (PySem.Str.ofString "01xxx")) (.int (y%5))=.ok (dX c):=by
 have h:y%5=0∨y%5=1∨y%5=2∨y%5=3∨y%5=4:=by omega
 rcases h with h|h|h|h|h<;>rw[h]
 ·exact⟨48,.inl rfl,rfl⟩
 ·exact⟨49,.inr (.inl rfl),rfl⟩
 ·exact⟨120,.inr (.inr rfl),rfl⟩
 ·exact⟨120,.inr (.inr rfl),rfl⟩
 ·exact⟨120,.inr (.inr rfl),rfl⟩
theorem WT(ys:List Int)(bq:ys.length=8)(c:Nat)(aB:1≤c):∃r,nS c r∧p3 [.lst (ys.map D.int),.int (c:Int)]=.ok (.v (fj r)):=by
 suffices h:Ends (p3 [.lst (ys.map D.int),.int (c:Int)]) fun b=>∃r,nS c r∧b=.v (fj r)by
  obtain⟨b,e,r,h,rfl⟩:=h;exact⟨r,h,e⟩
 match ys,bq with
 |[lO,eX,eY,iu,jt,mC,mD,mE],_=>
 obtain⟨jb,h0,cI⟩:=xg lO;obtain⟨b0,h1,aq⟩:=xg eX;obtain⟨c9,h2,aD⟩:=xg eY;obtain⟨e2,h3,b4⟩:=xg iu;have mu:oH [.int 4]=.ok (gE 0 4):=rfl
 let kV:Nat→Nat:=fun k=>if k=0 then jb else if k=1 then b0 else if k=2 then c9 else e2
 have wb:∀k:Nat,k<4→∃y,aG (.lst (([lO,eX,eY,iu,jt,mC,mD,mE]:List Int).map D.int)) (.int (k:Int))=.ok (.int y)∧aG (.str (PySem.Str.ofString "01xxx")) (.int (y%5))=.ok (dX (kV k)):=fun k aH=>by
  have:k=0∨k=1∨k=2∨k=3:=by omega
  rcases this with rfl|rfl|rfl|rfl
  ·exact⟨lO,rfl,cI⟩
  ·exact⟨eX,rfl,aq⟩
  ·exact⟨eY,rfl,aD⟩
  ·exact⟨iu,rfl,b4⟩
 have Hm:aG (.lst (([lO,eX,eY,iu,jt,mC,mD,mE]:List Int).map D.int)) (.int 4)=.ok (.int jt):=rfl;have Hn:aG (.lst (([lO,eX,eY,iu,jt,mC,mD,mE]:List Int).map D.int)) (.int 5)=.ok (.int mC):=rfl;have Ho:aG (.lst (([lO,eX,eY,iu,jt,mC,mD,mE]:List Int).map D.int)) (.int 6)=.ok (.int mD):=rfl;have Hp:aG (.lst (([lO,eX,eY,iu,jt,mC,mD,mE]:List Int).map D.int)) (.int 7)=.ok (.int mE):=rfl;generalize([lO,eX,eY,iu,jt,mC,mD,mE]:List Int).map D.int=Y at wb Hm Hn Ho Hp ⊢;simp[p3,zr];refine pz 4 (fun k=>dX (kV k)) (by simp[mu]) (by omega) (fun k aH=>?_) ?_
 ·obtain⟨y,aV,bE⟩:=wb k aH;simp[aV,bE]
 have c4:(adf 4).map (fun k=>dX (kV k))=[dX jb,dX b0,dX c9,dX e2]:=rfl;rw[c4];obtain⟨aV,Qd,eq1⟩:=lr mC (n:=c) (by omega);obtain⟨bE,Qe,eq2⟩:=lr mE (n:=c) (by omega);have gS:∃o:Option Nat,(∀k,o=some k→k<c)∧aG (.lst [.non,.non,.non,.int (aV:Int)]) (.int (jt%4))=.ok (dF o):=by
  have h:jt%4=0∨jt%4=1∨jt%4=2∨jt%4=3:=by omega
  rcases h with h|h|h|h<;>rw[h]
  ·exact⟨none,(fun _ z=>nomatch z),rfl⟩
  ·exact⟨none,(fun _ z=>nomatch z),rfl⟩
  ·exact⟨none,(fun _ z=>nomatch z),rfl⟩
  ·exact⟨some aV,(fun k z=>by cases z;exact Qd),rfl⟩
 have cK:∃o:Option Nat,(∀k,o=some k→k<c)∧aG (.lst [.int (bE:Int),.non]) (.int (mD%7/6))=.ok (dF o):=by
  have h:mD%7/6=0∨mD%7/6=1:=by omega
  rcases h with h|h<;>rw[h]
  ·exact⟨some bE,(fun k z=>by cases z;exact Qe),rfl⟩
  ·exact⟨none,(fun _ z=>nomatch z),rfl⟩
 obtain⟨cQ,g1,bu⟩:=gS;obtain⟨b_,g2,a9⟩:=cK;simp(disch:=first|decide|omega|(simp;done)|(simp;omega)) [HR,Hm,Hn,Ho,Hp,eq1,eq2,bu,a9];refine⟨⟨⟨#[jb,b0,c9,e2]⟩,cQ,b_⟩,⟨⟨rfl,fun d hd=>?_⟩,g1,g2⟩,rfl⟩;have hd:d∈[jb,b0,c9,e2]:=hd;simp at hd;rcases hd with rfl|rfl|rfl|rfl<;>assumption
theorem vx{ys:List Int}{k:Nat}(h:k<ys.length):aG (.lst (ys.map D.int)) (.int (k:Int))=.ok (.int ys[k]):=je (by simp[h])
theorem Nz{α:Type}(xs:List α)(a b:Nat):fC xs (some (a:Int)) (some (b:Int))=(xs.drop (min a xs.length)).take (min b xs.length-min a xs.length):=by unfold fC;rw[ej.xt,ej.xt]
theorem L2{c q:Nat}(aR:q<c):nS c ⟨PySem.Str.ofString "xxxx",none,some q⟩:=⟨⟨show(PySem.Str.ofString "xxxx").cps.toList.length=4 by decide,fun d hd=>by have:d∈[120,120,120,120]:=hd;simp at this;exact .inr (.inr this)⟩,(fun _ z=>nomatch z),(fun k z=>by cases z;exact aR)⟩
theorem M1(cell:Int)(c:Nat)(aB:1≤c):∃b,nK c b∧p1 [.int cell,.int (c:Int)]=.ok (.v (bU b)):=by
 suffices h:Ends (p1 [.int cell,.int (c:Int)]) fun x=>∃b,nK c b∧x=.v (bU b)by
  obtain⟨b,e,r,h,rfl⟩:=h;exact⟨r,h,e⟩
 obtain⟨ys,ai,eF⟩:=zN cell 104 (by decide);have zW:nh [.int cell,.int 104]=.ok (.o (ys.map D.int)):=eF;have ha:aG (.lst (ys.map D.int)) (.int 0)=.ok (.int ys[0]):=vx (k:=0) (by omega);have a1:aG (.lst (ys.map D.int)) (.int 1)=.ok (.int ys[1]):=vx (k:=1) (by omega);have a2:aG (.lst (ys.map D.int)) (.int 2)=.ok (.int ys[2]):=vx (k:=2) (by omega);have eM:aG (.lst (ys.map D.int)) (.int 3)=.ok (.int ys[3]):=vx (k:=3) (by omega);generalize ys[0]=r9 at ha;generalize ys[1]=bu at a1;generalize ys[2]=a9 at a2;generalize ys[3]=ju at eM;have x:∃m:Nat,m≤12∧aG (.lst [.int (r9%5),.int (r9%13)]) (.int (bu%4/3))=.ok (.int (m:Int)):=by
  have h:bu%4/3=0∨bu%4/3=1:=by omega
  rcases h with h|h<;>rw[h]
  ·obtain⟨m,hm,em⟩:=lr r9 (n:=5) (by decide);have sM:r9%5=(m:Int):=em;exact⟨m,by omega,by rw[sM];rfl⟩
  ·obtain⟨m,hm,em⟩:=lr r9 (n:=13) (by decide);have sM:r9%13=(m:Int):=em;exact⟨m,by omega,by rw[sM];rfl⟩
 obtain⟨m,hm,em⟩:=x;have lD:∀k:Nat,∃r,nS c r∧(k<12→p3 [.lst (fC (ys.map D.int) (some (4+8*(k:Int))) (some (12+8*(k:Int)))),.int (c:Int)]=.ok (.v (fj r))):=fun k=>by
  by_cases aH:k<12
  ·have aq:fC (ys.map D.int) (some (4+8*(k:Int))) (some (12+8*(k:Int)))=(fC ys (some ((4+8*k:Nat):Int)) (some ((12+8*k:Nat):Int))).map D.int:=by
     rw[←qR];simp
   obtain⟨r,h1,h2⟩:=WT (fC ys (some ((4+8*k:Nat):Int)) (some ((12+8*k:Nat):Int))) (by rw[Nz];simp;omega) c aB;exact⟨r,h1,fun _=>by rw[aq];exact h2⟩
  ·exact⟨_,L2 (q:=0) (by omega),fun z=>absurd z aH⟩
 let oG:Nat→c1:=fun k=>(lD k).choose
 have WL:∀k,nS c (oG k):=fun k=>(lD k).choose_spec.1;have WM:∀k:Nat,k<12→p3 [.lst (fC (ys.map D.int) (some (4+8*(k:Int))) (some (12+8*(k:Int)))),.int (c:Int)]=.ok (.v (fj (oG k))):=fun k=>(lD k).choose_spec.2;simp(disch:=first|decide|omega|(simp;done)|(simp;omega)) [p1,zd,zW,ha,a1,em];refine pz m (fun k=>fj (oG k)) (by simp[show m<1000000 by omega]) (by omega) (fun k aH=>?_) ?_
 ·have q:=WM k (by omega);simp(disch:=first|decide|omega|(simp;done)|(simp;omega)) [q]
 ·have bj:(adf m).map (fun k=>fj (oG k))=((adf m).map oG).map fj:=by simp
  rw[bj];have eC:∀r∈(adf m).map oG,nS c r:=fun r au=>by obtain⟨k,_,rfl⟩:=List.mem_map.mp au;exact WL k
  have aF:((adf m).map oG).length=m:=by simp
  generalize(adf m).map oG=b at eC aF;obtain⟨q,aR,eq⟩:=lr ju (n:=c) (by omega);have M7:fC (b.map fj) none (some 11)=(b.take 11).map fj:=by rw[qR];congr 1;exact vq b 11
  simp(disch:=first|decide|omega|(simp;done)|(simp;omega)) [a2,eM,eq];by_cases t:0<a9%3
  ·rw[if_pos t,M7];simp(disch:=first|decide|omega|(simp;done)|(simp;omega)) [-afv];refine⟨b.take 11++[⟨PySem.Str.ofString "xxxx",none,some q⟩],⟨by simp;omega,fun r au=>?_⟩,?_⟩
   ·rcases List.mem_append.mp au with au|au
    ·exact eC r (aeF au)
    ·rw[List.mem_singleton.mp au];exact L2 aR
   ·simp[bU,fj,dF]
  ·rw[if_neg t];simp;exact⟨b,⟨by omega,eC⟩,rfl⟩
theorem EN(ns:List Int)(st:Nat)(gn:st<100)(cs:List Nat)(h6:cs.length≤6)(kU:∀c∈cs,1≤c∧c≤4):∃bs,lS cs bs∧ox [.cJ (ns.map D.int),.int (st:Int),.lst (cc cs)]=.ok (.o (bs.map bU)):=by
 suffices h:Ends (ox [.cJ (ns.map D.int),.int (st:Int),.lst (cc cs)]) fun x=>∃bs,lS cs bs∧x=.o (bs.map bU)by
  obtain⟨b,e,r,h,rfl⟩:=h;exact⟨r,h,e⟩
 have pe:∀p:Nat×Nat,∃b,(p∈cs.zipIdx→nK p.1 b)∧(p∈cs.zipIdx→∃cl:Int,lh [.cJ (ns.map D.int),.int ((st:Int)+(p.2:Int))]=.ok (.v (.int cl))∧p1 [.int cl,.int (p.1:Int)]=.ok (.v (bU b))):=fun p=>by
  by_cases aS:p∈cs.zipIdx
  ·have hm:p.1∈cs:=adn (DX aS);obtain⟨cl,Od⟩:=zI ns (st+p.2);obtain⟨b,h1,h2⟩:=M1 cl p.1 (kU _ hm).1;exact⟨b,fun _=>h1,fun _=>⟨cl,by rw[←Od];simp,h2⟩⟩
  ·exact⟨[],fun z=>absurd z aS,fun z=>absurd z aS⟩
 let vk:Nat×Nat→List c1:=fun p=>(pe p).choose
 have MU:∀p∈cs.zipIdx,nK p.1 (vk p):=fun p=>(pe p).choose_spec.1;have MV:∀p∈cs.zipIdx,∃cl:Int,lh [.cJ (ns.map D.int),.int ((st:Int)+(p.2:Int))]=.ok (.v (.int cl))∧p1 [.int cl,.int (p.1:Int)]=.ok (.v (bU (vk p))):=fun p=>(pe p).choose_spec.2;simp[ox,ze];have qV:pB [.lst (cc cs)]=.ok (cs.zipIdx.map fun p=>.tup [.int (p.2:Int),.int (p.1:Int)]):=zZ (fun c:Nat=>D.int (c:Int)) cs;refine n7 (fun p:Nat×Nat=>.int (p.2:Int)) (fun p=>.int (p.1:Int)) cs.zipIdx (fun p=>bU (vk p)) (by simp only[Dt,r0,v_var,qm];simp[qV]) (by simp;omega) (fun p aS=>?_) ?_
 ·obtain⟨cl,aq,aD⟩:=MV p aS;simp[aq,aD]
 ·simp;refine⟨cs.zipIdx.map vk,⟨by simp,fun i b e=>?_⟩,by simp⟩;rw[ade,afw]at e;cases ec:cs[i]? with
  |none=>rw[ec]at e;cases e
  |some c=>
   rw[ec]at e;simp at e;subst e;have:(c,i)∈cs.zipIdx:=by rw[List.mem_iff_getElem?];exact⟨i,by rw[afw,ec];simp⟩
   have k:=MU _ this;rw[adg,ec];exact k
theorem Uj(ns:List Int)(cs:List Nat)(h6:cs.length≤6)(kU:∀c∈cs,1≤c∧c≤4){bs:List (List c1)}(J:lS cs bs):∃sD,lS cs sD∧tS [.cJ (ns.map D.int),.lst (bs.map bU),.lst (cc cs)]=.ok (.o (sD.map bU)):=by
 suffices h:Ends (tS [.cJ (ns.map D.int),.lst (bs.map bU),.lst (cc cs)]) fun x=>∃sD,lS cs sD∧x=.o (sD.map bU)by
  obtain⟨b,e,r,h,rfl⟩:=h;exact⟨r,h,e⟩
 obtain⟨aX,hf,fM⟩:=EN ns 7 (by decide) cs h6 kU;have zX:ox [.cJ (ns.map D.int),.int 7,.lst (cc cs)]=.ok (.o (aX.map bU)):=fM;obtain⟨jb,cI⟩:=zI ns 0;have pv:lh [.cJ (ns.map D.int),.int 0]=.ok (.v (.int jb)):=cI;obtain⟨y,dN⟩:=wY jb 50 (by decide);have OD:lj [.int jb,.int 50]=.ok (.v (.int y)):=dN;have lcs:(cc cs).length=cs.length:=by simp[cc]
 have Ih:=J.l;have lf:=hf.l;simp(disch:=first|decide|omega|(simp;done)|(simp;omega)) [tS,zm,zX,pv,OD];refine pA cs.length (fun j ρ=>∃(p9:List (List c1))(dk:dc),p9.length=j∧(∀(i:Nat) b,p9[i]?=some b→nK (cs.getD i 0) b)∧ρ=[.aA (.cJ (ns.map D.int)),.aA (.lst (bs.map bU)),.aA (.lst (cc cs)),.aA (.lst (aX.map bU)),.aA (.int y),.dj (p9.map bU),dk]) (by simp[lcs,show cs.length<1000000 by omega]) ⟨[],.un,rfl,(fun i b e=>by simp at e),rfl⟩ ?_ ?_
 ·rintro j _ cz ⟨p9,dk,ai,aE,rfl⟩;have bA:aG (.lst (bs.map bU)) (.int (j:Int))=.ok (bU bs[j]):=je (by simp[show j<bs.length by omega]);have bI:aG (.lst (aX.map bU)) (.int (j:Int))=.ok (bU aX[j]):=je (by simp[show j<aX.length by omega]);have x:∃b,nK (cs.getD j 0) b∧aG (.lst [bU bs[j],bU aX[j]]) (.int (if 0<y/((j:Int)+1)%4 then 1 else 0))=.ok (bU b):=by
   by_cases t:0<y/((j:Int)+1)%4
   ·rw[if_pos t];exact⟨aX[j],hf.b j _ (ac2 (by omega)),rfl⟩
   ·rw[if_neg t];exact⟨bs[j],J.b j _ (ac2 (by omega)),rfl⟩
  obtain⟨b,Pk,ex⟩:=x;simp(disch:=first|decide|omega|(simp;done)|(simp;omega)) [bA,bI,ex];refine⟨p9++[b],by simp[ai],fun i eN e=>?_,by simp⟩;rw[List.getElem?_append]at e
  split at e
  ·exact aE i eN e
  ·rename_i ar;have:i=j:=by
    by_cases q:i=j
    ·exact q
    ·rw[aej (by simp;omega)]at e;cases e
   subst this;rw[ai,ah2]at e;cases e;exact Pk
 ·rintro _ ⟨p9,dk,ai,aE,rfl⟩;simp;exact⟨p9,⟨ai,aE⟩,rfl⟩
@[simp] theorem acg(m:aY)(ρ:av):tE m ρ=(m ρ).bind DW:=(rfl)
def jo(a:Nat):Str:=⟨#[gd a 8,gd a 4,gd a 2,gd a 1]⟩
theorem XK{a:Nat}(ag:a<16):rL [.int (a:Int)]=.ok (.v (.str (jo a))):=by
 apply Ends.done;simp[rL,zt];refine n6 (fun w:Nat=>D.int (w:Int)) [8,4,2,1] (fun w=>dX (gd a w)) (by simp) (by decide) (fun w hw=>?_) ?_
 ·have aaP:w=8∨w=4∨w=2∨w=1:=by simpa using hw
  have e6:oM [.int ((a:Int)/(w:Int)%2)]=.ok (dX (gd a w)):=by have:=KA (a/w%2) (by omega);rw[show dX (gd a w)=.str ⟨#[48+a/w%2]⟩from rfl,←this];simp
  simp(disch:=first|omega|(simp;done)|(simp;omega)) [e6]
 ·simp only[adi,ahK,HR];simp[jo]
theorem Fq(c:Nat):cw true (dX c) (.str (PySem.Str.ofString "x"))=.ok (.aF (decide (c=120))):=by
 show R.ok (D.aF ((⟨#[c]⟩:Str)==PySem.Str.ofString "x"))=_
 congr 2
 rw[KC,ad2,beq_iff_eq,decide_eq_true_iff];simp
theorem Ov(c d:Nat):cw true (dX c) (dX d)=.ok (.aF (decide (c=d))):=by
 show R.ok (D.aF ((⟨#[c]⟩:Str)==(⟨#[d]⟩:Str)))=_
 congr 2
 rw[ad2,beq_iff_eq,decide_eq_true_iff];simp
theorem Tf{p:Str}(aS:lW p)(a:Nat):p2 [.str p,.str (jo a)]=.ok (.v (.aF (pD p a))):=by
 apply Ends.done;have l:=aS.l;simp[p2,zj];refine n7 (fun q:Nat×Nat=>dX q.1) (fun q=>dX (gd a q.2)) (p.cps.toList.zip [8,4,2,1]) (fun q=>.aF (decide (q.1=120∨q.1=gd a q.2))) ?_ (by simp;omega) (fun q aR=>?_) ?_
 ·show R.ok (qv p.cps.toList [gd a 8,gd a 4,gd a 2,gd a 1])=_;unfold qv;rw[show[gd a 8,gd a 4,gd a 2,gd a 1]=[8,4,2,1].map (gd a)from rfl,List.zip_map_right,aek];rfl
 ·by_cases h:q.1=120
  ·simp[Fq,h]
  ·simp[Fq,Ov,h]
 ·have al:=qH (fun q:Nat×Nat=>decide (q.1=120∨q.1=gd a q.2)) (p.cps.toList.zip [8,4,2,1]);simp only[al];simp[pD]
def oC(b:List c1)(d a:Nat):Option Nat:=(b.find? (mt d a)).bind (·.b)
theorem Jd{d a:Nat}:∀(rs:List c1)(s0 s3 s4 s5:dc),(∀r∈rs,lW r.p)→
  (fm (eJ [br 3,br 4,br 5]) (cu (iV (a_ (b5 2 p2 (ae (U 3) (ae (U 2) (aC))))) (eP (a_ (aj (e5 true) (U 4) (ao .non))) (a_ (aj (cw true) (U 4) (U 1))))) (b2 (U 5)) (cC)) (rs.map fj) [s0,.aA (.int (d:Int)),.aA (.str (jo a)),s3,s4,s5]).bind (ig (b2 (ao .non)))=.ok (.dJ (dF (oC rs d a)))
 |[],s0,s3,s4,s5,_=>by simp[oC,dF]
 |r::rs,s0,s3,s4,s5,h=>by
  have bQ:=Jd (d:=d) (a:=a) rs s0 (.aA (.str r.p)) (.aA (dF r.a)) (.aA (dF r.b)) fun x ax=>h x (ac7 _ ax);have f:=Tf (h r adz) a;have bd:(cu (iV (a_ (b5 2 p2 (ae (U 3) (ae (U 2) (aC))))) (eP (a_ (aj (e5 true) (U 4) (ao .non))) (a_ (aj (cw true) (U 4) (U 1))))) (b2 (U 5)) (cC)) [s0,.aA (.int (d:Int)),.aA (.str (jo a)),.aA (.str r.p),.aA (dF r.a),.aA (dF r.b)]=if mt d a r=true then .ok (.dJ (dF r.b))else .ok (.bO [s0,.aA (.int (d:Int)),.aA (.str (jo a)),.aA (.str r.p),.aA (dF r.a),.aA (dF r.b)]):=by unfold mt;have aV:=HL r.a;have bE:=Fp r.a d;generalize r.a.isNone=eC at aV ⊢;generalize(r.a==some d)=dE at bE ⊢;generalize pD r.p a=pd at f ⊢;cases eC<;>cases dE<;>cases pd<;>simp[aV,bE,f]
  have cI:eJ [br 3,br 4,br 5] (fj r) [s0,.aA (.int (d:Int)),.aA (.str (jo a)),s3,s4,s5]=.ok [s0,.aA (.int (d:Int)),.aA (.str (jo a)),.aA (.str r.p),.aA (dF r.a),.aA (dF r.b)]:=rfl;rw[adi,fm,cI,dO,bd];unfold oC;rw[adM];cases hm:mt d a r with
  |true=>simp
  |false=>simp only[adb,if_false,dO];exact bQ
theorem U_{b:List c1}(J:∀r∈b,lW r.p)(d a:Nat):rK [bU b,.int (d:Int),.str (jo a)]=.ok (.v (dF (oC b d a))):=by
 have k:=Jd (d:=d) (a:=a) b (.aA (bU b)) .un .un .un J;have z:rK [bU b,.int (d:Int),.str (jo a)]=((fm (eJ [br 3,br 4,br 5]) (cu (iV (a_ (b5 2 p2 (ae (U 3) (ae (U 2) (aC))))) (eP (a_ (aj (e5 true) (U 4) (ao .non))) (a_ (aj (cw true) (U 4) (U 1))))) (b2 (U 5)) (cC)) (b.map fj) [.aA (bU b),.aA (.int (d:Int)),.aA (.str (jo a)),.un,.un,.un]).bind (ig (b2 (ao .non)))).bind outD:=by simp only[rK,uC,zo,oT,x2,uD];rfl
 rw[z,k];rfl
theorem K8{d a:Nat}:∀(rs:List c1)(i:Nat),match i1 d a i rs with
  |some k=>∃r,rs[k-i]?=some r∧i≤k∧rs.find? (mt d a)=some r
  |none=>rs.find? (mt d a)=none
 |[],i=>rfl
 |r::rs,i=>by
  have bQ:=K8 (d:=d) (a:=a) rs (i+1);simp only[i1];rw[adM];cases hm:mt d a r with
  |true=>simp
  |false=>
   simp only[adb,if_false];cases e:i1 d a (i+1) rs with
   |none=>rw[e]at bQ;exact bQ
   |some k=>rw[e]at bQ;obtain⟨x,h1,h2,h3⟩:=bQ;refine⟨x,?_,by omega,h3⟩;rw[show k-i=(k-(i+1))+1 by omega];simpa using h1
noncomputable def lead(ws:List (ay×ay))(h:Nat):Option Nat→On
 |none=>.drop
 |some o=>match hg ws (h,o)with
  |none=>.out o
  |some e=>.to e
theorem Uy(ws:List (ay×ay))(b:List c1)(h d a:Nat):bO ws b h d a=lead ws h (oC b d a):=by
 have k:=K8 (d:=d) (a:=a) b 0;unfold bO oC;cases e:i1 d a 0 b with
 |none=>rw[e]at k;simp only at k;rw[k];rfl
 |some i=>rw[e]at k;obtain⟨r,h1,_,h3⟩:=k;rw[h3];simp only[aja]at h1;simp only[h1,ahs];cases r.b<;>rfl
theorem z4(a b:ay):cw true (aU a) (aU b)=.ok (.aF (decide (a=b))):=by have o:∀d:ay,okN 8 (aU d)=true:=fun _=>rfl;simp only[cw,o,and_self,if_true,vw]
theorem EG(d:ay):∀(ws:List (ay×ay))(s0 s2 s3:dc),
  (fm (eJ [br 2,br 3]) (a4 (cu (a_ (aj (cw true) (U 2) (U 1))) (b2 (U 3)) (cC)) (cu (a_ (aj (cw true) (U 3) (U 1))) (b2 (U 2)) (cC))) (ws.map dQ) [s0,.aA (aU d),s2,s3]).bind (ig (b2 (ao .non)))=.ok (.dJ (((hg ws d).map aU).getD .non))
 |[],s0,s2,s3=>by simp[hg,pairsOf]
 |w::ws,s0,s2,s3=>by
  have bQ:=EG d ws s0 (.aA (aU w.1)) (.aA (aU w.2));have cI:eJ [br 2,br 3] (dQ w) [s0,.aA (aU d),s2,s3]=.ok [s0,.aA (aU d),.aA (aU w.1),.aA (aU w.2)]:=rfl;have bN:pairsOf (w::ws)=(w.1,w.2)::(w.2,w.1)::pairsOf ws:=by simp[pairsOf]
  rw[adi,fm,cI,dO];by_cases h1:w.1=d
  ·simp[z4,h1,hg,bN]
  ·by_cases h2:w.2=d
   ·simp[z4,h1,h2,hg,bN]
   ·have bj:hg (w::ws) d=hg ws d:=by simp[hg,bN,h1,h2]
    rw[bj];simp only[oT,Y0,YX,YY,v_var];simp[z4,h1,h2];exact bQ
def parts(cs:List Nat)(ws:List (ay×ay)):D:=.tup [.lst (cc cs),.lst (ws.map dQ)]
theorem S_(cs:List Nat)(ws:List (ay×ay))(d:ay):p0 [parts cs ws,aU d]=.ok (.v (((hg ws d).map aU).getD .non)):=by
 have k:=EG d ws (.aA (parts cs ws)) .un .un;have z:p0 [parts cs ws,aU d]=((fm (eJ [br 2,br 3]) (a4 (cu (a_ (aj (cw true) (U 2) (U 1))) (b2 (U 3)) (cC)) (cu (a_ (aj (cw true) (U 3) (U 1))) (b2 (U 2)) (cC))) (ws.map dQ) [.aA (parts cs ws),.aA (aU d),.un,.un]).bind (ig (b2 (ao .non)))).bind outD:=by simp only[p0,uC,zc,oT,x2,uD];rfl
 rw[z,k];rfl
def xm:cH:=jh (a_ (aj (inD false) (U 2) (U 5)))
noncomputable def uc:bl:=(a4 (hP 5 (U 2))
    (a4 (cT 6 (b5 3 rK (ae (aj aG (U 1) (aj aG (U 2) (ao (.int 0)))) (ae (aj aG (U 2) (ao (.int 1))) (ae (U 4) (aC))))))
    (a4 (cu (a_ (aj (e5 true) (U 6) (ao .non))) (hA (cU (ae (U 5) (ae (cU (ae (ao (.str (PySem.Str.ofString "drop"))) (ae (aj aG (U 2) (ao (.int 0))) (aC)))) (aC))))) (cC))
    (a4 (cT 7 (b5 2 p0 (ae (U 0) (ae (cU (ae (aj aG (U 2) (ao (.int 0))) (ae (U 6) (aC)))) (aC)))))
    (a4 (cu (a_ (aj (e5 true) (U 7) (ao .non))) (hA (cU (ae (U 5) (ae (cU (ae (ao (.str (PySem.Str.ofString "out"))) (ae (aj aG (U 2) (ao (.int 0))) (ae (U 6) (aC))))) (aC))))) (cC))
    (cT 2 (U 7)))))))
noncomputable def xn:bl:=(hA (cU (ae (U 5) (ae (cU (ae (ao (.str (PySem.Str.ofString "ring"))) (ae (mh (U 5) (ae (U 2) (aC))) (aC)))) (aC)))))
noncomputable def mO(X Y:D)(d:ay)(a:Nat)(ds:List ay)(dk cR:dc):av:=[.aA X,.aA Y,.aA (aU d),.aA (.int (a:Int)),.aA (.str (jo a)),.dj (ds.map aU),dk,cR]
theorem JV(X Y:D)(d:ay)(a:Nat)(ds:List ay)(dk cR:dc):xm (mO X Y d a ds dk cR)=.ok (!decide (d∈ds)):=Bu rfl rfl
theorem WE{cs:List Nat}{ws:List (ay×ay)}{bs:List (List c1)}(J:jZ cs bs){d:ay}(hd:d.1<cs.length){a:Nat}(ds:List ay)(ai:ds.length<1000)(dk cR:dc) :
  ∃KL KN,uc (mO (parts cs ws) (.lst (bs.map bU)) d a ds dk cR)=match ic ws bs a d with
   |.to e=>.ok (.bO (mO (parts cs ws) (.lst (bs.map bU)) e a (ds++[d]) KL KN))
   |o=>.ok (.dJ (.tup [.lst ((ds++[d]).map aU),g6 d.1 o])):=by
 have eH:aG (aU d) (.int 0)=.ok (.int (d.1:Int)):=rfl;have bA:aG (aU d) (.int 1)=.ok (.int (d.2:Int)):=rfl;have fw:d.1<bs.length:=by rw[J.l];exact hd
 have eg:bs.getD d.1 []=bs[d.1]:=by simp[fw]
 have jK:aG (.lst (bs.map bU)) (.int (d.1:Int))=.ok (bU (bs.getD d.1 [])):=by rw[eg];exact je (by simp[fw])
 have on:=U_ (b:=bs.getD d.1 []) (fun r au=>J.p bs[d.1] (agi _) r (by rw[←eg];exact au)) d.2 a;have nl:ic ws bs a d=lead ws d.1 (oC (bs.getD d.1 []) d.2 a):=Uy _ _ _ _ _;rw[nl];generalize bs.getD d.1 []=pe at*;have oy:fX .non=true:=rfl;have n1:∀i,fX (.int i)=false:=fun _=>rfl;have n2:∀e:ay,fX (aU e)=false:=fun _=>rfl;simp only[uc,mO];cases n9:oC pe d.2 a with
 |none=>rw[n9]at on;refine⟨.un,.un,?_⟩;simp(disch:=first|omega|(simp;done)|(simp;omega)) [eH,bA,jK,on,dF,oy,lead,g6,st]
 |some o=>
  rw[n9]at on;have Ih:=S_ cs ws (d.1,o);have wt:p0 [parts cs ws,.tup [.int (d.1:Int),.int (o:Int)]]=.ok (.v (((hg ws (d.1,o)).map aU).getD .non)):=Ih;cases dN:hg ws (d.1,o)with
  |none=>rw[dN]at wt;refine⟨.un,.un,?_⟩;simp(disch:=first|omega|(simp;done)|(simp;omega)) [eH,bA,jK,on,dF,oy,n1,wt,lead,dN,g6,st]
  |some e=>rw[dN]at wt;refine⟨.aA (.int (o:Int)),.aA (aU e),?_⟩;simp(disch:=first|omega|(simp;done)|(simp;omega)) [eH,bA,jK,on,dF,oy,n1,n2,wt,lead,dN]
theorem JW{cs:List Nat}{ws:List (ay×ay)}{bs:List (List c1)}(dq:iA cs ws)(J:jZ cs bs){a:Nat}:∀(n:Nat)(ds:List ay)(d:ay)(dk cR:dc)(r:List ay×nM),d.1<cs.length→ds.length+n<1001→walk (ic ws bs a) n ds d=some r→
  (kH xm uc n (mO (parts cs ws) (.lst (bs.map bU)) d a ds dk cR)).bind (ig xn)=.ok (.dJ (jq r))
 |0,ds,d,dk,cR,r,_,_,h=>by simp[walk]at h
 |n+1,ds,d,dk,cR,r,hd,ai,h=>by
  simp only[walk]at h;by_cases hm:d∈ds
  ·rw[if_pos hm]at h;obtain rfl:=adh h;rw[kH,JV,dO,decide_eq_true hm];have i:=HI (m1:=U 2) (m2:=U 5) (ρ:=eT (mO (parts cs ws) (.lst (bs.map bU)) d a ds dk cR)) (ds:=ds) (d:=d) rfl rfl hm (by omega);have v4:U 5 (eT (mO (parts cs ws) (.lst (bs.map bU)) d a ds dk cR))=.ok (.lst (ds.map aU)):=rfl;simp only[aea,adb,if_false,dO,xF];simp only[xn,Du,Lk,r0,qm,Ds,i,v4,dO,rZ,adl,aen];simp[jq,px,st]
  ·rw[if_neg hm]at h;rw[kH,JV,dO,decide_eq_false hm];obtain⟨KL,KN,b⟩:=WE (ws:=ws) J hd (a:=a) ds (by omega) dk cR;simp only[adj,if_true,b];cases e:ic ws bs a d with
   |drop=>rw[e]at h;obtain rfl:=adh h;simp[jq,px,g6]
   |out o=>rw[e]at h;obtain rfl:=adh h;simp[jq,px,g6]
   |to f=>rw[e]at h;simp only[dO];exact JW dq J n (ds++[d]) f _ _ r (p4.mp (IZ dq e)).1 (by simp;omega) h
theorem WR{cs:List Nat}{ws:List (ay×ay)}{bs:List (List c1)}(dq:iA cs ws)(J:jZ cs bs){a:Nat}(ag:a<16){d:ay}(hd:d∈dn cs cs.length){r:List ay×nM}(au:walk (ic ws bs a) 1000 [] d=some r):wK [parts cs ws,.lst (bs.map bU),aU d,.int (a:Int)]=.ok (.v (jq r)):=by
 have k:=JW dq J (a:=a) 1000 [] d .un .un r (p4.mp hd).1 (by simp) au;have bh:=XK ag;have z:wK [parts cs ws,.lst (bs.map bU),aU d,.int (a:Int)]=(a4 (cT 4 (b5 1 rL (ae (U 3) (aC)))) (a4 (fG 5 (ez aC)) (a4 (ov xm uc) xn)) [.aA (parts cs ws),.aA (.lst (bs.map bU)),.aA (aU d),.aA (.int (a:Int)),.un,.un,.un,.un]).bind outD:=rfl;rw[z];have s4:cT 4 (b5 1 rL (ae (U 3) (aC))) [.aA (parts cs ws),.aA (.lst (bs.map bU)),.aA (aU d),.aA (.int (a:Int)),.un,.un,.un,.un]=.ok (.bO [.aA (parts cs ws),.aA (.lst (bs.map bU)),.aA (aU d),.aA (.int (a:Int)),.aA (.str (jo a)),.un,.un,.un]):=by simp[bh]
 have s5:fG 5 (ez aC) [.aA (parts cs ws),.aA (.lst (bs.map bU)),.aA (aU d),.aA (.int (a:Int)),.aA (.str (jo a)),.un,.un,.un]=.ok (.bO (mO (parts cs ws) (.lst (bs.map bU)) d a [] .un .un)):=rfl;have a9:(ov xm uc (mO (parts cs ws) (.lst (bs.map bU)) d a [] .un .un)).bind (ig xn)=.ok (.dJ (jq r)):=k;simp only[oT,s4,s5,dO,xF,a9];rfl
deriving instance DecidableEq for bV
def outs(cs:List Nat)(ws:List (ay×ay))(n:Nat):List ay:=(dn cs n).filter fun d=>!decide (d∈ends ws)
theorem Je(cs:List Nat)(ws:List (ay×ay))(n:Nat):outs cs ws (n+1)=outs cs ws n++(gi cs n).filter (fun d=>!decide (d∈ends ws)):=by unfold outs;rw[va,agR]
theorem BC{cs:List Nat}(ws:List (ay×ay))(h:∀c∈cs,1≤c∧c≤4)(n:Nat):(outs cs ws n).length≤4*n:=adB (afo _ _) (sz h n)
theorem NV(ws:List (ay×ay))(d:ay):fW false (aU d) (.bx (dY ws) (ei ws))=.ok (.aF (!decide (d∈ends ws))):=by simp only[fW,rj,ks_any];rfl
theorem Va{cs:List Nat}{ws:List (ay×ay)}(dq:iA cs ws):wC [dp cs ws]=.ok (.o ((outs cs ws cs.length).map aU)):=by
 apply Ends.done;have h6:=dq.h6;have Gu:fc "Net" "far" (dp cs ws)=.ok (.bx (dY ws) (ei ws)):=rfl;have OM:fc "Net" "counts" (dp cs ws)=.ok (.tup (cc cs)):=rfl;simp(disch:=first|omega|(simp;done)|(simp;omega)) [wC,yV];refine pA cs.length (fun j ρ=>∃s2 s3,ρ=[.aA (dp cs ws),.dj ((outs cs ws j).map aU),s2,s3]) (by simp(disch:=first|omega|(simp;done)|(simp;omega)) [wQ]) ⟨.un,.un,by simp[outs,dn]⟩ ?_ ?_
 ·rintro j _ cz ⟨s2,s3,rfl⟩;have rl:=vK (fun c h=>(dq.c c h).2) j;have b4:aG (.tup (cc cs)) (.int (j:Int))=.ok (.int (cs.getD j 0:Nat)):=AY (sF cz);have lo:=BC ws dq.c j;simp only[adg]at b4 rl;simp;have z:=pA (β:=gx) (set:=br 3) (body:=cu (a_ (aj (fW false) (cU (ae (U 2) (ae (U 3) (aC)))) (dI (fc "Net" "far") (U 0)))) (hP 1 (cU (ae (U 2) (ae (U 3) (aC))))) (cC)) (mi:=fZ (ae (aj aG (dI (fc "Net" "counts") (U 0)) (U 2)) (aC))) (ρ:=[.aA (dp cs ws),.dj ((outs cs ws j).map aU),.aA (.int (j:Int)),s3]) (k:=fun f=>.ok f) (T:=nQ fun ρ=>∃s3,ρ=[.aA (dp cs ws),.dj ((outs cs ws (j+1)).map aU),.aA (.int (j:Int)),s3]) (cs[j]?.getD 0) (fun k ρ=>∃s3,ρ=[.aA (dp cs ws),.dj ((outs cs ws j++((gi cs j).take k).filter (fun d=>!decide (d∈ends ws))).map aU),.aA (.int (j:Int)),s3]) (by simp[OM,b4,show cs[j]?.getD 0<1000000 by omega]) ⟨s3,by simp⟩ ?_ ?_
  ·obtain⟨f,fM,bJ,rfl,W2,rfl⟩:=z;have zX:d6 (fZ (ae (aj aG (dI (fc "Net" "counts") (U 0)) (U 2)) (aC))) (br 3) (cu (a_ (aj (fW false) (cU (ae (U 2) (ae (U 3) (aC)))) (dI (fc "Net" "far") (U 0)))) (hP 1 (cU (ae (U 2) (ae (U 3) (aC))))) (cC)) [.aA (dp cs ws),.dj ((outs cs ws j).map aU),.aA (.int (j:Int)),s3]=.ok (.bO [.aA (dp cs ws),.dj ((outs cs ws (j+1)).map aU),.aA (.int (j:Int)),W2]):=by
    rw[←fM];cases d6 (fZ (ae (aj aG (dI (fc "Net" "counts") (U 0)) (U 2)) (aC))) (br 3) (cu (a_ (aj (fW false) (cU (ae (U 2) (ae (U 3) (aC)))) (dI (fc "Net" "far") (U 0)))) (hP 1 (cU (ae (U 2) (ae (U 3) (aC))))) (cC)) [.aA (dp cs ws),.dj ((outs cs ws j).map aU),.aA (.int (j:Int)),s3]<;>rfl
   rw[zX];simp
  ·rintro k _ aH ⟨s3,rfl⟩;have kZ:k<(gi cs j).length:=by simp[gi,adg];exact aH
   have eF:(gi cs j)[k]=(j,k):=by simp[gi]
   have dd:fW false (.tup [.int (j:Int),.int (k:Int)]) (.bx (dY ws) (ei ws))=.ok (.aF (!decide ((j,k)∈ends ws))):=NV ws (j,k);have pS:(((gi cs j).take k).filter (fun d=>!decide (d∈ends ws))).length≤4:=adB (afo _ _) (adB (afz _ _) (zO dq.c j));rw[List.take_add_one,ac2 kZ,eF,Option.toList_some,agR];by_cases hm:(j,k)∈ends ws
   ·simp[Gu,dd,hm]
   ·simp(disch:=first|omega|(simp;done)|(simp;omega)) [Gu,dd,hm];rfl
  ·rintro _ ⟨s3,rfl⟩;have:(gi cs j).take (cs[j]?.getD 0)=gi cs j:=aeP (by simp[gi,adg]);rw[this,←Je];simp
 ·rintro _ ⟨s2,s3,rfl⟩;simp
theorem Tn{cs:List Nat}{ws:List (ay×ay)}(dq:iA cs ws):wJ [parts cs ws]=.ok (.o ((outs cs ws cs.length).map aU)):=by
 apply Ends.done;have h6:=dq.h6;have few:=dq.few;have gp:aG (parts cs ws) (.int 0)=.ok (.lst (cc cs)):=rfl;have d0:aG (parts cs ws) (.int 1)=.ok (.lst (ws.map dQ)):=rfl;have lcs:(cc cs).length=cs.length:=by simp[cc]
 simp[wJ,zp];refine n7 (fun w:ay×ay=>aU w.1) (fun w=>aU w.2) ws (fun w=>aU w.1) (by simp[d0];intros;rfl) (by omega) (fun w _=>by simp) ?_;refine n7 (fun w:ay×ay=>aU w.1) (fun w=>aU w.2) ws (fun w=>aU w.2) (by simp[d0];intros;rfl) (by omega) (fun w _=>by simp) ?_;have HJ:fs (.lst (ws.map fun w=>aU w.1)) (.lst (ws.map fun w=>aU w.2))=.ok (.lst ((ws.map (·.1)++ws.map (·.2)).map aU)):=by rw[Mv (by simp;omega),afS,aek,aek];rfl
 have hm:∀d,d∈ws.map (·.1)++ws.map (·.2)↔d∈ends ws:=fun d=>by
  simp only[ends,agG,ah9,List.mem_flatten];constructor
  ·rintro(⟨w,hw,rfl⟩|⟨w,hw,rfl⟩)
   ·exact⟨[w.1,w.2],⟨w,hw,rfl⟩,by simp⟩
   ·exact⟨[w.1,w.2],⟨w,hw,rfl⟩,by simp⟩
  ·rintro⟨_,⟨w,hw,rfl⟩,hd⟩;simp at hd;rcases hd with rfl|rfl
   ·exact .inl ⟨w,hw,rfl⟩
   ·exact .inr ⟨w,hw,rfl⟩
 generalize s7:ws.map (·.1)++ws.map (·.2)=inner at HJ hm;rw[HJ,dO];refine pA cs.length (fun j ρ=>∃s3,ρ=[.aA (parts cs ws),.aA (.lst (inner.map aU)),.dj ((outs cs ws j).map aU),s3]) (by simp(disch:=first|omega|(simp;done)|(simp;omega)) [gp,lcs]) ⟨.un,by simp[outs,dn]⟩ ?_ ?_
 ·rintro j _ cz ⟨s3,rfl⟩;have rl:=vK (fun c h=>(dq.c c h).2) j;have b4:aG (.lst (cc cs)) (.int (j:Int))=.ok (.int (cs.getD j 0:Nat)):=je (sF cz);have lo:=BC ws dq.c j;simp only[adg]at b4 rl;simp;refine sN (fun k:Nat=>D.int (k:Int)) (adf (cs[j]?.getD 0)) (fun k=>!decide ((j,k)∈inner)) (fun k=>aU (j,k)) (by simp[gp,b4,show cs[j]?.getD 0<1000000 by omega,xl]) (by simp;omega) (fun k _=>?_) (fun k _ _=>by simp[aU]) ?_
  ·exact Bu (d:=(j,k)) (by simp[aU]) rfl
  ·have el:((adf (cs[j]?.getD 0)).filter (fun k=>!decide ((j,k)∈inner))).map (fun k=>aU (j,k))=((gi cs j).filter (fun d=>!decide (d∈ends ws))).map aU:=by
     unfold gi;rw[List.filter_map,aek,adg]
     congr 1
     congr 1
     funext k
     simp only[aho];rw[show decide ((j,k)∈inner)=decide ((j,k)∈ends ws)from decide_eq_decide.mpr (hm (j,k))]
   have pS:((gi cs j).filter (fun d=>!decide (d∈ends ws))).length≤4:=adB (afo _ _) (zO dq.c j);rw[el];simp(disch:=first|omega|(simp;done)|(simp;omega)) [Je]
 ·rintro _ ⟨s3,rfl⟩;simp
theorem Mx:Bh [.str (PySem.Str.ofString "xxxx")]=.ok (.o ((adf 16).map fun(a:Nat)=>D.int (a:Int))):=by rfl
def hN:bV→Bool
 |.eu _=>true
 |_=>false
def Ok(n:Nat)(ps:List bV):Prop:=∀s∈ps,s.ok n
theorem Zd{a b:Nat}(ag:a<3)(J:b<3):(hE a==hE b)=decide (a=b):=by
 have h1:a=0∨a=1∨a=2:=by omega
 have h2:b=0∨b=1∨b=2:=by omega
 rcases h1 with rfl|rfl|rfl<;>rcases h2 with rfl|rfl|rfl<;>decide
theorem z3{n:Nat}{s:bV}(hs:s.ok n){w h:Nat}(hw:w<3):bz (bP s) (bP (.ac w h))=decide (s=.ac w h):=by
 cases s with
 |eu k=>have q:decide (bV.eu k=.ac w h)=false:=decide_eq_false (fun z=>nomatch z);rw[q];cases k<;>simp[bP,bz,dT,iJ]
 |ac eQ h'=>
  have:bz (bP (.ac eQ h')) (bP (.ac w h))=((hE eQ==hE w)&&(((h':Int)==(h:Int))&&true)):=by simp[bP,bz,dT]
  rw[this,Zd hs.1 hw,ad2];simp;omega
theorem Ow(s:bV):bz (bP s) iJ=hN s:=by
 cases s with
 |eu k=>cases k<;>rfl
 |ac w h=>simp[bP,bz,dT,iJ,hN]
theorem Bw(ps:List bV):(ps.map bP).all (okN 7)=true:=by
 rw[afK,aeC];intro s _;cases s with
 |eu k=>cases k<;>rfl
 |ac w h=>rfl
theorem I0(s:bV):okN 7 (bP s)=true:=by
 cases s with
 |eu k=>cases k<;>rfl
 |ac w h=>rfl
theorem Er{n:Nat}:∀{ps:List bV},Ok n ps→∀{w h:Nat},w<3→((ps.map bP).any fun y=>bz y (bP (.ac w h)))=decide (.ac w h∈ps)
 |[],_,w,h,_=>by simp
 |s::ps,aS,w,h,hw=>by have bQ:=Er (ps:=ps) (fun x ax=>aS x (ac7 _ ax)) (h:=h) hw;rw[adi,ae8,bQ,z3 (aS s adz) hw,ad2,Bool.or_eq_true,decide_eq_true_iff,decide_eq_true_iff,decide_eq_true_iff,aeG];exact⟨fun q=>q.imp Eq.symm id,fun q=>q.imp Eq.symm id⟩
theorem HG{n:Nat}{ps:List bV}(aS:Ok n ps){w h:Nat}(hw:w<3)(b:Bool):inD b (bP (.ac w h)) (.lst (ps.map bP))=.ok (.aF (if b then decide (.ac w h∈ps)else !decide (.ac w h∈ps))):=by have s:oJ (.lst (ps.map bP))=some (ps.map bP):=rfl;simp only[inD,s,Bw,I0,and_self,if_true,Er aS hw]
theorem Rt(ps:List bV):inD true iJ (.lst (ps.map bP))=.ok (.aF (ps.any hN)):=by
 have s:oJ (.lst (ps.map bP))=some (ps.map bP):=rfl;have o:okN 7 iJ=true:=rfl;have e:((ps.map bP).any fun y=>bz y iJ)=ps.any hN:=by
  rw[ah_]
  congr 1
  funext x
  exact Ow x
 simp only[inD,s,Bw,o,and_self,if_true,e]
def kl(ps:List bV)(s:bV):Nat:=ps.findIdx fun x=>decide (x=s)
theorem Ru{n:Nat}{ps:List bV}(aS:Ok n ps){w h:Nat}(hw:w<3)(ai:ps.length<1000)(hm: .ac w h∈ps):rd (.lst (ps.map bP)) [bP (.ac w h)]=.ok (.int (kl ps (.ac w h):Nat)):=by
 have f:(ps.map bP).findIdx? (fun z=>bz z (bP (.ac w h)))=some (kl ps (.ac w h)):=by
  rw[List.findIdx?_map];have:∀(ps:List bV),Ok n ps→.ac w h∈ps→ps.findIdx? ((fun z=>bz z (bP (.ac w h)))∘bP)=some (kl ps (.ac w h)):=by
   intro ps;induction ps with
   |nil=>intro _ hm;simp at hm
   |cons s ps bQ=>
    intro aS hm;rw[List.findIdx?_cons];simp only[aho,kl,List.findIdx_cons,z3 (aS s adz) hw];by_cases q:s=.ac w h
    ·simp[q]
    ·have PU: .ac w h∈ps:=by
       rcases List.mem_cons.mp hm with z|z
       ·exact absurd z.symm q
       ·exact z
     have k:=bQ (fun x ax=>aS x (ac7 _ ax)) PU;simp only[aho,kl]at k;simp[q,k]
  exact this ps aS hm
 have l:(ps.map bP).length<1000000:=by rw[adE];omega
 simp only[rd,Bw,I0,l,and_self,if_true,f]
def js(ps:List bV)(h:Nat):Bool:=decide (.ac 1 h∈ps)&&(ps.drop (kl ps (.ac 1 h))).any hN
theorem Za{n:Nat}{ps:List bV}(aS:Ok n ps)(ai:ps.length<1000)(h:Nat):tQ [.lst (ps.map bP),.int (h:Int)]=.ok (.v (.aF (js ps h))):=by
 have e:(D.tup [.str (PySem.Str.ofString "turn"),.int (h:Int)])=bP (.ac 1 h):=rfl;have bA:=HG aS (w:=1) (h:=h) (by decide) true;simp only[if_true]at bA;unfold js;by_cases hm: .ac 1 h∈ps
 ·have wb:=Ru aS (w:=1) (h:=h) (by decide) ai hm;have cV:ky (.lst (ps.map bP)) (some (kl ps (.ac 1 h):Int)) none=.ok (.lst ((ps.drop (kl ps (.ac 1 h))).map bP)):=by
   rw[Kl,qR,zK]
  have RM:=Rt (ps.drop (kl ps (.ac 1 h)));rw[Kl]at cV;rw[decide_eq_true hm]at bA ⊢;simp only[tQ,uC,vi];simp[e,bA,wb];rw[show fC (ps.map bP) (some (kl ps (.ac 1 h):Int)) none=(ps.drop (kl ps (.ac 1 h))).map bP from by rw[qR,zK],RM];simp
 ·rw[decide_eq_false hm]at bA ⊢;simp[tQ,vi,e,bA]
def ql(ps:List bV)(ds:List ay):Option Nat:=(ds.find? fun d=>!decide (.ac 0 d.1∈ps)).map (·.1)
theorem Lg{n:Nat}{ps:List bV}(aS:Ok n ps):∀(ds:List ay)(s1 s2:dc),
  (fm (br 2) (cu (a_ (aj (inD false) (cU (ae (ao (.str (PySem.Str.ofString "teach"))) (ae (aj aG (U 2) (ao (.int 0))) (aC)))) (U 0))) (b2 (aj aG (U 2) (ao (.int 0)))) (cC)) (ds.map aU) [.aA (.lst (ps.map bP)),s1,s2]).bind (ig (b2 (ao .non)))=.ok (.dJ (dF (ql ps ds)))
 |[],s1,s2=>by simp[ql,dF]
 |d::ds,s1,s2=>by
  have bQ:=Lg aS ds s1 (.aA (aU d));have eH:aG (aU d) (.int 0)=.ok (.int (d.1:Int)):=rfl;have e:(D.tup [.str (PySem.Str.ofString "teach"),.int (d.1:Int)])=bP (.ac 0 d.1):=rfl;have bA:=HG aS (w:=0) (h:=d.1) (by decide) false;simp only[adb,if_false]at bA;unfold ql;rw[adi,fm,adM];by_cases hm: .ac 0 d.1∈ps
  ·rw[decide_eq_true hm]at bA;simp[eH,e,bA,hm];exact bQ
  ·rw[decide_eq_false hm]at bA;simp[eH,e,bA,hm,dF]
theorem YR{n:Nat}{ps:List bV}(aS:Ok n ps)(ds:List ay):tM [.lst (ps.map bP),.lst (ds.map aU)]=.ok (.v (dF (ql ps ds))):=by
 have k:=Lg aS ds (.aA (.lst (ds.map aU))) .un;have z:tM [.lst (ps.map bP),.lst (ds.map aU)]=((fm (br 2) (cu (a_ (aj (inD false) (cU (ae (ao (.str (PySem.Str.ofString "teach"))) (ae (aj aG (U 2) (ao (.int 0))) (aC)))) (U 0))) (b2 (aj aG (U 2) (ao (.int 0)))) (cC)) (ds.map aU) [.aA (.lst (ps.map bP)),.aA (.lst (ds.map aU)),.un]).bind (ig (b2 (ao .non)))).bind outD:=by simp only[tM,uC,yY,oT,x2,uD];rfl
 rw[z,k];rfl
noncomputable def lH(ws:List (ay×ay))(bs:List (List c1))(a:Nat)(d:ay):List ay:=match walk (ic ws bs a) 1000 [] d with
 |some r=>r.1
 |none=>[]
noncomputable def hf(ws:List (ay×ay))(old new:List (List c1))(ps:List bV)(p:Nat)(d:ay)(a:Nat):Option Nat:=match ps[p]? with
 |some (.ac 1 h)=>if h=d.1 then ql (ps.take p) (lH ws new a d)else none
 |some (.ac 2 h)=>if js (ps.take p) d.1=true then none else if h∈(lH ws old a d).map (·.1)then some h else none
 |_=>none
theorem DB{N:ay→On}:∀(n:Nat)(ds:List ay)(d:ay)(r:List ay×nM),walk N n ds d=some r→r.1.length≤ds.length+n
 |0,ds,d,r,h=>by simp[walk]at h
 |n+1,ds,d,r,h=>by
  simp only[walk]at h
  split at h
  ·cases h;simp
  ·split at h
   ·have:=DB n _ _ r h;simp at this;omega
   ·cases h;simp
   ·cases h;simp
theorem AR(h:Nat)(l:List Nat):inD true (.int (h:Int)) (.lst (l.map fun(x:Nat)=>D.int (x:Int)))=.ok (.aF (decide (h∈l))):=by
 have s:oJ (.lst (l.map fun(x:Nat)=>D.int (x:Int)))=some (l.map fun(x:Nat)=>D.int (x:Int)):=rfl;have o:okN 7 (.int (h:Int))=true:=rfl;have b_:(l.map fun(x:Nat)=>D.int (x:Int)).all (okN 7)=true:=by rw[afK,aeC];intro x _;rfl
 have e:((l.map fun(x:Nat)=>D.int (x:Int)).any fun y=>bz y (.int (h:Int)))=decide (h∈l):=by
  rw[ah_,ad2,aht,decide_eq_true_iff];constructor
  ·rintro⟨x,ax,q⟩;have q:((x:Int)==(h:Int))=true:=by simpa[bz]using q
   rw[beq_iff_eq]at q;have:x=h:=by omega
   rw[←this];exact ax
  ·intro ax;exact⟨h,ax,by simp[bz]⟩
 simp only[inD,s,o,b_,and_self,if_true,e]
def v_:bV→Bool
 |.ac 2 _=>true
 |_=>false
theorem Zi{n:Nat}{s:bV}(hs:s.ok n):∃x,aG (bP s) (.int 0)=.ok (.str x)∧cw true (.str x) (.str (PySem.Str.ofString "forget"))=.ok (.aF (v_ s)):=by
 cases s with
 |eu k=>cases k<;>exact⟨wS,rfl,rfl⟩
 |ac w h=>rcases r1 w hs.1 with rfl|rfl|rfl<;>exact⟨_,rfl,rfl⟩
theorem RN(w h:Nat):aG (bP (.ac w h)) (.int 1)=.ok (.int (h:Int)):=rfl
noncomputable def G5(s:bV)(d:ay)(n1 n2:List ay)(A:List bV):Option Nat:=match some s with
 |some (.ac 1 h)=>if h=d.1 then ql A n1 else none
 |some (.ac 2 h)=>if js A d.1=true then none else if h∈n2.map (·.1)then some h else none
 |_=>none
theorem Pz{s:bV}{d:ay}{n1 n2:List ay}{A:List bV}(q:¬s=.ac 1 d.1)(f:v_ s=false):G5 s d n1 n2 A=none:=by
 cases s with
 |eu k=>rfl
 |ac w h=>
  match w,q,f with
  |0,_,_=>rfl
  |1,q,_=>exact if_neg fun z=>q (by rw[z])
  |n+3,_,_=>rfl
theorem Pw{cs:List Nat}{ws:List (ay×ay)}{old new:List (List c1)}(dq:iA cs ws)(aE:jZ cs old)(aK:jZ cs new){ps:List bV}(aS:Ok cs.length ps)(ai:ps.length<1000){p:Nat}(de:p<ps.length){d:ay}(hd:d∈dn cs cs.length){a:Nat}(ag:a<16) :
  wD [dp cs ws,.lst (old.map bU),.lst (new.map bU),.lst (ps.map bP),.int (p:Int),aU d,.int (a:Int)]=.ok (.v (dF (hf ws old new ps p d a))):=by
 apply Ends.done;obtain⟨az,nE,aq⟩:=DC dq aK ag hd;obtain⟨bg,kG,aD⟩:=DC dq aE ag hd;have d1:lH ws new a d=az.1:=by unfold lH;rw[nE]
 have cF:lH ws old a d=bg.1:=by unfold lH;rw[kG]
 have eH:aG (aU d) (.int 0)=.ok (.int (d.1:Int)):=rfl;have iT:aG (.lst (ps.map bP)) (.int (p:Int))=.ok (bP ps[p]):=je (by simp[de]);have c_:fC (ps.map bP) none (some (p:Int))=(ps.take p).map bP:=by rw[qR,vq]
 have I2:Ok cs.length (ps.take p):=fun s hs=>aS s (aeF hs);have hs:=aS ps[p] (agi _);have mV:(D.tup [.str (PySem.Str.ofString "turn"),.int (d.1:Int)])=bP (.ac 1 d.1):=rfl;have Uz:∀s:bV,okN 8 (bP s)=true:=fun s=>by
  cases s with
  |eu k=>cases k<;>rfl
  |ac w h=>rfl
 have Ox:cw true (bP ps[p]) (bP (.ac 1 d.1))=.ok (.aF (decide (ps[p]=.ac 1 d.1))):=by simp only[cw,Uz,and_self,if_true,z3 hs (show 1<3 by decide)]
 have oS:=YR I2 az.1;have hS:=Za I2 (by simp;omega) d.1;have t0:∀r:List ay×nM,aG (jq r) (.int 0)=.ok (.lst (r.1.map aU)):=fun _=>rfl;unfold hf;rw[ac2 de,d1,cF];obtain⟨x,k0,tm⟩:=Zi hs;simp[wD,y0,iT,c_,eH,mV,Ox,-afv];by_cases q:ps[p]=.ac 1 d.1
 ·simp[q,aq,t0,oS,eH,-afv]
 ·cases pK:v_ ps[p]with
  |false=>rw[pK]at tm;have bo:=Pz (n1:=az.1) (n2:=bg.1) (A:=ps.take p) q pK;unfold G5 at bo;rw[bo];simp[q,k0,tm,dF]
  |true=>
   rw[pK]at tm;obtain⟨h,es⟩:∃h,ps[p]=.ac 2 h:=by
    unfold v_ at pK
    split at pK
    ·rename_i h e;exact⟨h,e⟩
    ·cases pK
   rw[es]at k0 q ⊢;cases Hf:js (ps.take p) d.1 with
   |true=>rw[Hf]at hS;simp[k0,tm,eH,hS,dF,-afv]
   |false=>
    rw[Hf]at hS;simp[k0,tm,eH,hS,RN,-afv];refine n7 (fun e:ay=>.int (e.1:Int)) (fun e=>.int (e.2:Int)) bg.1 (fun e=>.int (e.1:Int)) (by simp[aD,t0];intros;rfl) (by simpa using DB 1000 [] d bg kG) (fun e _=>by simp) ?_;have HF:=AR h (bg.1.map (·.1));rw[aek]at HF;have Rq:inD true (.int (h:Int)) (.lst (bg.1.map fun e=>D.int (e.1:Int)))=.ok (.aF (decide (h∈bg.1.map (·.1)))):=HF;simp only[Rq];by_cases hm:h∈bg.1.map (·.1)
    ·rw[decide_eq_true hm,if_pos hm];simp[dF]
    ·rw[decide_eq_false hm,if_neg hm];simp[dF]
@[simp] theorem acy(m:cH)(ρ:av):rN m ρ=gL (m ρ):=(rfl)
@[simp] theorem acw(m:aY)(ρ:av):p7 m ρ=gL (m ρ):=(rfl)
@[simp] theorem acx(m:bl)(ρ:av):t5 m ρ=gL (m ρ):=(rfl)
@[simp] theorem Uq{α:Type}(a:α):gL (R.ok a)=.ok a:=(rfl)
@[simp] theorem ab7(m:aN)(ρ:av):pW m ρ=(m ρ).bind fun _=>.ok (.bO ρ):=(rfl)
def nT(I:av→Prop)(o:Option D)(f:gx):Prop:=match o with
 |some d=>f=.dJ d
 |none=>nQ I f
@[simp] theorem Z4(I:av→Prop):nT I none=nQ I:=(rfl)
@[simp] theorem Z5(I:av→Prop)(d:D):nT I (some d)=(· =.dJ d):=(rfl)
theorem Kb{α:Type}{set:D→av→R av}{body:bl}(g:α→D)(I:av→Prop)(f:α→Option D):∀(xs:List α)(ρ:av),(∀a ρ,a∈xs→I ρ→Ends ((set (g a) ρ).bind body) (nT I (f a)))→I ρ→Ends (fm set body (xs.map g) ρ) (nT I (xs.findSome? f))
 |[],ρ,_,h=>by simpa[nT,nQ]using h
 |a::xs,ρ,st,h=>by
  obtain⟨hi,e,hf⟩:=st a ρ (by simp) h;rw[adi,fm];cases es:set (g a) ρ with
  |bad=>rw[es]at e;cases e
  |exc c=>rw[es]at e;cases e
  |ok ea=>
   rw[es,dO]at e;rw[dO,e,dO,List.findSome?_cons];cases fM:f a with
   |some d=>rw[fM]at hf;have hf:hi=.dJ d:=hf;subst hf;exact⟨_,rfl,rfl⟩
   |none=>rw[fM]at hf;obtain⟨ew,rfl,h2⟩:=hf;exact Kb g I f xs ew (fun b ρ J=>st b ρ (by simp[J])) h2
theorem CV{α:Type}{mi:aY}{set:D→av→R av}{body:bl}{ρ:av}(g:α→D)(xs:List α)(I cE:av→Prop)(f:α→Option D)(ar:mi ρ=.ok (xs.map g))(h0:I ρ)(st:∀a ρ,a∈xs→I ρ→Ends ((set (g a) ρ).bind body) (nT I (f a)))(Rp:∀ρ,I ρ→cE ρ):Ends (d6 mi set body ρ) (nT cE (xs.findSome? f)):=by
 rw[Li,ar,dO];refine(Kb g I f xs ρ st h0).mono fun b h=>?_;cases e:xs.findSome? f with
 |some d=>rw[e]at h;exact h
 |none=>rw[e]at h;obtain⟨r,aq,aD⟩:=h;exact⟨r,aq,Rp r aD⟩
theorem vA{β α:Type}{mi:aY}{set:D→av→R av}{body:bl}{ρ:av}{k:gx→R β}{T:β→Prop}(g:α→D)(xs:List α)(I:av→Prop)(f:α→Option D)(ar:mi ρ=.ok (xs.map g))(h0:I ρ)(st:∀a ρ,a∈xs→I ρ→Ends ((set (g a) ρ).bind body) (nT I (f a)))(f1:∀d,xs.findSome? f=some d→Ends (k (.dJ d)) T)(f2:∀bJ,xs.findSome? f=none→I bJ→Ends (k (.bO bJ)) T):Ends ((d6 mi set body ρ).bind k) T:=by
 obtain⟨hi,e,h⟩:=CV (mi:=mi) (set:=set) (body:=body) (ρ:=ρ) g xs I I f ar h0 st fun _ z=>z;rw[e,dO];cases fM:xs.findSome? f with
 |some d=>rw[fM]at h;have h:hi=.dJ d:=h;rw[h];exact f1 d fM
 |none=>rw[fM]at h;obtain⟨ew,rfl,h2⟩:=h;exact f2 ew fM h2
def eS(p:Nat)(d:ay)(a h:Nat):D:=.tup [.int (p:Int),aU d,.int (a:Int),.int (h:Int)]
noncomputable def hb(cs:List Nat)(ws:List (ay×ay))(f:ay→Nat→Option D):Option D:=(outs cs ws cs.length).findSome? fun d=>(adf 16).findSome? fun a=>f d a
noncomputable def jg(cs:List Nat)(ws:List (ay×ay))(old new:List (List c1))(ps:List bV):Option D:=(adf ps.length).findSome? fun p=>hb cs ws fun d a=>(hf ws old new ps p d a).map (eS p d a)
theorem XB(cs:List Nat)(ws:List (ay×ay)):qe "Net" "outer" (dp cs ws)=.ok (dp cs ws):=rfl
theorem iX(x:D):e5 false x .non=.ok (.aF (!fX x)):=rfl
theorem Tb{cs:List Nat}{ws:List (ay×ay)}{old new:List (List c1)}(dq:iA cs ws)(aE:jZ cs old)(aK:jZ cs new){ps:List bV}(aS:Ok cs.length ps)(ai:ps.length<1000) :
  wM [dp cs ws,.lst (old.map bU),.lst (new.map bU),.lst (ps.map bP)]=.ok (.v ((jg cs ws old new ps).getD .non)):=by
 apply Ends.done;simp[wM,zv]
 refine vA (fun(p:Nat)=>D.int (p:Int)) (adf ps.length) (fun ρ=>∃s4 s5 dk cR,ρ=[.aA (dp cs ws),.aA (.lst (old.map bU)),.aA (.lst (new.map bU)),.aA (.lst (ps.map bP)),s4,s5,dk,cR]) (fun p=>hb cs ws fun d a=>(hf ws old new ps p d a).map (eS p d a))
  (by simp(disch:=first|omega|(simp;done)|(simp;omega)) [xl]) ⟨_,_,_,_,rfl⟩ ?_ ?_ ?_
 ·rintro p _ AE ⟨s4,s5,dk,cR,rfl⟩;have de:p<ps.length:=List.mem_range.mp AE;simp;refine CV aU (outs cs ws cs.length) (fun ρ=>∃s5 dk cR,ρ=[.aA (dp cs ws),.aA (.lst (old.map bU)),.aA (.lst (new.map bU)),.aA (.lst (ps.map bP)),.aA (.int (p:Int)),s5,dk,cR]) _ _ (by simp[XB,Va dq]) ⟨_,_,_,rfl⟩ ?_ (fun ρ⟨s5,dk,cR,e⟩=>⟨_,s5,dk,cR,e⟩);rintro d _ hd ⟨s5,dk,cR,rfl⟩;have Aq:d∈dn cs cs.length:=(List.mem_filter.mp hd).1;simp;refine CV (fun(a:Nat)=>D.int (a:Int)) (adf 16) (fun ρ=>∃dk cR,ρ=[.aA (dp cs ws),.aA (.lst (old.map bU)),.aA (.lst (new.map bU)),.aA (.lst (ps.map bP)),.aA (.int (p:Int)),.aA (aU d),dk,cR]) _ _ (by simp only[uD,Lj,YZ,r0,Ds,qm,dO,adl,aen,if_true,Mx,WQ];rfl) ⟨_,_,rfl⟩ ?_ (fun ρ⟨dk,cR,e⟩=>⟨_,dk,cR,e⟩);rintro a _ ag ⟨dk,cR,rfl⟩;have Pf:a<16:=List.mem_range.mp ag;have h:=Pw dq aE aK aS ai de Aq Pf;cases e:hf ws old new ps p d a with
  |none=>rw[e]at h;simp[h,dF,iX,show fX .non=true from rfl]
  |some k=>rw[e]at h;simp[h,dF,iX,show fX (.int (k:Int))=false from rfl,eS]
 ·intro d e;simp[jg,e]
 ·rintro bJ e ⟨s4,s5,dk,cR,rfl⟩;simp[jg,e]
theorem lS.p{cs:List Nat}{bs:List (List c1)}(h:lS cs bs):jZ cs bs:=⟨h.l,fun b J r au=>by obtain⟨i,ar⟩:=List.mem_iff_getElem?.mp J;exact((h.b i b ar).r r au).p⟩
theorem OL{cs:List Nat}{ws:List (ay×ay)}{old new:List (List c1)}(dq:iA cs ws)(aE:lS cs old)(aK:lS cs new){ps:List bV}(aS:iC cs.length ps)(ai:ps.length≤40) :
  tL [dp cs ws,.lst (old.map bU),.lst (new.map bU),.lst (ps.map bP)]=.ok (.v ((jg cs ws old new ps).getD .non)):=by
 have e:=Tb dq aE.p aK.p aS.ok (show ps.length<1000 by omega);have ZQ:=EO (ws:=ws) dq.h6 aE;have ZP:=EO (ws:=ws) dq.h6 aK;have ZR:=VW (ws:=ws) aS ai;have U9:∀ρ:av,outD (.bO ρ)=.ok (.v .non):=fun _=>rfl;simp[tL,yX,Bk,zy,wN,zx,ZQ,ZP,ZR,e,U9]
def hn(d:ay)(a:Nat):cx:=[.inr [.inl (d.1:Nat),.inl (d.2:Nat)],.inl (.inl (a:Nat))]
theorem A0{d e:ay}{a b:Nat}(h:hn d a=hn e b):d=e∧a=b:=by obtain⟨d1,cF⟩:=d;obtain⟨aq,aD⟩:=e;simp only[hn,afl,Sum.inr.injEq,ai0,and_true,Int.ofNat_inj]at h;simp only[afN];exact h
def jH(ws:List (ay×ay))(bs:List (List c1))(d:ay)(a:Nat):List Nat:=(lH ws bs a d).map (·.1)
noncomputable def kg(ws:List (ay×ay))(bs:List (List c1))(d:ay)(a:Nat):D:=.lst ((jH ws bs d a).map fun(x:Nat)=>D.int (x:Int))
def gM(os:List ay):List (ay×Nat):=os.flatMap fun d=>(adf 16).map fun a=>(d,a)
def ff(os:List ay):List cx:=(gM os).map fun q=>hn q.1 q.2
def fF(ws:List (ay×ay))(bs:List (List c1))(os:List ay):List D:=(gM os).map fun q=>kg ws bs q.1 q.2
theorem Jy(os:List ay)(d:ay):gM (os++[d])=gM os++(adf 16).map fun a=>(d,a):=by simp[gM]
theorem PQ(os:List ay)(d:ay):ff (os++[d])=ff os++(adf 16).map (hn d):=by simp only[ff,Jy,afS,aek];rfl
theorem Qp(ws:List (ay×ay))(bs:List (List c1))(os:List ay)(d:ay):fF ws bs (os++[d])=fF ws bs os++(adf 16).map (kg ws bs d):=by simp only[fF,Jy,afS,aek];rfl
theorem TN{os:List ay}{q:ay×Nat}:q∈gM os↔q.1∈os∧q.2<16:=by
 obtain⟨d,a⟩:=q;simp only[gM,List.mem_flatMap,ah9,List.mem_range,afN];constructor
 ·rintro⟨x,ax,y,bq,rfl,rfl⟩;exact⟨ax,bq⟩
 ·rintro⟨h1,h2⟩;exact⟨d,h1,a,h2,rfl,rfl⟩
theorem Vc(cs:List Nat)(ws:List (ay×ay))(n:Nat):(outs cs ws n).Nodup:=(yM cs n).filter _
theorem Jx:∀os:List ay,(gM os).length=16*os.length
 |[]=>rfl
 |d::os=>by have:=Jx os;simp only[gM]at this;simp only[gM,List.flatMap_cons,adD,adE,aha,adl,this];omega
theorem PJ{os:List ay}{d:ay}(h:d∉os)(k:Nat):(ff os++(adf k).map (hn d)).any (fun x=>decide (x=hn d k))=false:=by
 rw[ag3];intro x ax;rw[decide_eq_true_eq];rintro rfl;rcases List.mem_append.mp ax with ax|ax
 ·obtain⟨q,aR,e⟩:=List.mem_map.mp ax;have:=(A0 e).1;exact h (this▸(TN.mp aR).1)
 ·obtain⟨q,aR,e⟩:=List.mem_map.mp ax;have:=(A0 e).2;have:=List.mem_range.mp aR;omega
theorem Lp(ws:List (ay×ay))(bs:List (List c1))(a:Nat)(d:ay):(lH ws bs a d).length≤1000:=by
 unfold lH
 split
 ·rename_i r e;simpa using DB 1000 [] d _ e
 ·simp
theorem Oj{β:Type}{r:R β}{T:β→Prop}(h:Ends (r.bind fun f=>.ok f) T):Ends r T:=by cases r<;>exact h
theorem Qf{ρ:av}(ds:List ay)(h:ds.length≤1000)(e:U 5 ρ=.ok (.lst (ds.map aU))):cN (dx 2 [] (ep (U 5)) (eJ [br 0,br 1]) (d8) (U 0)) ρ=.ok (.lst ((ds.map (·.1)).map fun(x:Nat)=>D.int (x:Int))):=by apply Ends.done;rw[Lj];refine n7 (fun e:ay=>.int (e.1:Int)) (fun e=>.int (e.2:Int)) ds (fun e=>.int (e.1:Int)) (by rw[uD,e];rfl) h (fun e _=>by simp) ?_;simp
theorem He{cs:List Nat}{ws:List (ay×ay)}{bs:List (List c1)}(dq:iA cs ws)(J:jZ cs bs) :
  tR [parts cs ws,.lst (bs.map bU)]=.ok (.v (.bx (ff (outs cs ws cs.length)) (fF ws bs (outs cs ws cs.length)))):=by
 apply Ends.done;have lo:=BC ws dq.c cs.length;have h6:=dq.h6;have a7:=Vc cs ws cs.length;have s7:∀d∈outs cs ws cs.length,d∈dn cs cs.length:=fun d hd=>(List.mem_filter.mp hd).1;simp[tR,zi,rz];generalize n9:outs cs ws cs.length=os at lo a7 s7 ⊢;refine vz aU os (fun j ρ=>∃s3 s4 s5,ρ=[.aA (parts cs ws),.aA (.lst (bs.map bU)),.bf (.bx (ff (os.take j)) (fF ws bs (os.take j))),s3,s4,s5]) (by simp[Tn dq,n9]) ⟨.un,.un,.un,by simp[ff,fF,gM]⟩ ?_ ?_
 ·rintro j d _ hd ⟨s3,s4,s5,rfl⟩;obtain⟨cz,eF⟩:=List.getElem?_eq_some_iff.mp hd;have cb:os.take (j+1)=os.take j++[d]:=by rw[List.take_succ,hd];rfl
  have nm:d∉os.take j:=fun z=>by
   have X2:os=os.take j++d::os.drop (j+1):=by rw[←eF];simp
   rw[X2,af9]at a7;exact a7.2.2 d z d (by simp) rfl
  have lt:(os.take j).length≤24:=by simp;omega
  have ko:=s7 d (adn hd);simp;refine Oj (pA 16 (fun k ρ=>∃s4 s5,ρ=[.aA (parts cs ws),.aA (.lst (bs.map bU)),.bf (.bx (ff (os.take j)++(adf k).map (hn d)) (fF ws bs (os.take j)++(adf k).map (kg ws bs d))),.aA (aU d),s4,s5]) (by rfl) ⟨s4,s5,by simp⟩ ?_ ?_)
  ·rintro k _ aH ⟨s4,s5,rfl⟩;obtain⟨r,au,_⟩:=DC (bs:=bs) dq J aH ko;have BQ:=WR dq J aH ko au;have hI:lH ws bs k d=r.1:=by unfold lH;rw[au]
   have aB:=Qf (ρ:=[.aA (parts cs ws),.aA (.lst (bs.map bU)),.bf (.bx (ff (os.take j)++(adf k).map (hn d)) (fF ws bs (os.take j)++(adf k).map (kg ws bs d))),.aA (aU d),.aA (.int (k:Int)),.aA (.lst (r.1.map aU))]) r.1 (by rw[←hI];exact Lp ..) rfl;have lk:(ff (os.take j)++(adf k).map (hn d)).length<1000000:=by rw[adD,adE,aha];unfold ff;rw[adE,Jx];omega
   have d0:=zM (i:=2) (mk:=cU (ae (U 3) (ae (U 4) (aC)))) (mv:=cN (dx 2 [] (ep (U 5)) (eJ [br 0,br 1]) (d8) (U 0))) (k:=.tup [aU d,.int (k:Int)]) (kk:=hn d k) (ρ:=[.aA (parts cs ws),.aA (.lst (bs.map bU)),.bf (.bx (ff (os.take j)++(adf k).map (hn d)) (fF ws bs (os.take j)++(adf k).map (kg ws bs d))),.aA (aU d),.aA (.int (k:Int)),.aA (.lst (r.1.map aU))]) rfl rfl aB rfl (PJ nm k) lk;have sL:D.lst ((r.1.map (·.1)).map fun(x:Nat)=>D.int (x:Int))=kg ws bs d k:=by unfold kg jH;rw[hI]
   have t0:aG (jq r) (.int 0)=.ok (.lst (r.1.map aU)):=rfl;rw[sL]at d0;simp[BQ,t0,-aek];rw[d0];simp[List.range_succ]
  ·rintro _ ⟨s4,s5,rfl⟩;rw[cb,PQ,Qp];simp
 ·rintro _ ⟨s3,s4,s5,rfl⟩;have iL:mX (.bf (.bx (ff os) (fF ws bs os)))=.aA (.bx (ff os) (fF ws bs os)):=rfl;simp[eT,iL]
def rY(q:ay×Nat):Int×Int×Int:=((q.1.1:Int),(q.1.2:Int),(q.2:Int))
theorem HV:∀l:List (ay×Nat),pQ (l.map fun q=>hn q.1 q.2)=some (l.map rY)
 |[]=>rfl
 |q::l=>by have h:wg (hn q.1 q.2)=some (rY q):=rfl;rw[adi,pQ,h,HV l];rfl
def uW(a b:ay):Prop:=a.1<b.1∨(a.1=b.1∧a.2<b.2)
theorem Ij{d e:ay}{a b:Nat}(h:uW d e∨(d=e∧a<b)):LT.jf (rY (d,a)) (rY (e,b))=true:=by
 obtain⟨d1,cF⟩:=d;obtain⟨aq,aD⟩:=e;simp only[uW,afN]at h;simp only[LT.jf,LT.hj,rY,LT.ltI,af4];by_cases h1:(aq:Int)=(d1:Int)
 ·rw[if_pos h1];by_cases h2:(aD:Int)=(cF:Int)
  ·rw[if_pos h2];by_cases h3:(b:Int)=(a:Int)
   ·omega
   ·rw[if_neg h3,decide_eq_false (by omega)]
  ·rw[if_neg h2,decide_eq_false (by omega)]
 ·rw[if_neg h1,decide_eq_false (by omega)]
theorem Kt:∀{ks:List (Int×Int×Int)},(ks.Pairwise fun a b=>LT.jf a b=true)→rV ks=true
 |[],_=>rfl
 |[_],_=>rfl
 |a::b::r,h=>by rw[List.pairwise_cons]at h;simp only[rV,adF];exact⟨h.1 b (by simp),Kt h.2⟩
theorem Vb(cs:List Nat)(ws:List (ay×ay))(n:Nat):(outs cs ws n).Pairwise uW:=by
 unfold outs dn gi;refine List.Pairwise.filter _ ?_;rw[aib];refine⟨fun h _=>?_,?_⟩
 ·rw[afs];exact List.pairwise_lt_range.imp fun h=>.inr ⟨rfl,h⟩
 ·refine List.pairwise_lt_range.imp fun{a b} h x ax y bq=>?_;obtain⟨_,_,rfl⟩:=List.mem_map.mp ax;obtain⟨_,_,rfl⟩:=List.mem_map.mp bq;exact .inl h
theorem V3{os:List ay}(h:os.Pairwise uW):((gM os).map rY).Pairwise fun a b=>LT.jf a b=true:=by
 rw[afs];unfold gM;rw[aib];refine⟨fun d _=>?_,?_⟩
 ·rw[afs];exact List.pairwise_lt_range.imp fun h=>Ij (.inr ⟨rfl,h⟩)
 ·refine h.imp fun{a b} h x ax y bq=>?_;obtain⟨_,_,rfl⟩:=List.mem_map.mp ax;obtain⟨_,_,rfl⟩:=List.mem_map.mp bq;exact Ij (.inl h)
@[simp] theorem acM(m:aY)(ρ:av):tI m ρ=(m ρ).bind um:=(rfl)
theorem Ko{cs:List Nat}{ws:List (ay×ay)}{n:Nat}(vs:List D):um [.bx (ff (outs cs ws n)) vs]=.ok ((gM (outs cs ws n)).map fun q=>.tup [aU q.1,.int (q.2:Int)]):=by have h:=Kt (V3 (Vb cs ws n));unfold um ff;simp only[HV,h,if_true,aek];rfl
theorem Gx{α:Type}(f:α→cx)(g:α→D){q:α}(inj:∀r,f r=f q→r=q):∀l:List α,q∈l→findD (l.map f) (l.map g) (f q)=some (g q)
 |[],h=>by simp at h
 |r::l,h=>by
  unfold findD;rw[adi,adi,aem,adM];by_cases e:f r=f q
  ·simp[e,inj r e]
  ·simp only[decide_eq_false e];have h:q∈l:=by
    rcases List.mem_cons.mp h with h|h
    ·exact absurd (by rw[h]) e
    ·exact h
   exact Gx f g inj l h
theorem Fc{ws:List (ay×ay)}{bs:List (List c1)}{os:List ay}{d:ay}{a:Nat}(h:(d,a)∈gM os):pj (.bx (ff os) (fF ws bs os)) (.tup [aU d,.int (a:Int)])=.ok (kg ws bs d a):=by
 have k:md (.tup [aU d,.int (a:Int)])=some (hn d a):=rfl;have f:findD (ff os) (fF ws bs os) (hn d a)=some (kg ws bs d a):=Gx (fun q:ay×Nat=>hn q.1 q.2) (fun q=>kg ws bs q.1 q.2) (q:=(d,a)) (fun r e=>by have:=A0 e;obtain⟨az,bg⟩:=r;simp only[afN];exact this) (gM os) h
 simp only[pj,k,f]
theorem IW(h:Nat)(l:List Nat):inD false (.int (h:Int)) (.lst (l.map fun(x:Nat)=>D.int (x:Int)))=.ok (.aF (!decide (h∈l))):=by
 have t:=AR h l;unfold inD at t ⊢
 split at t
 ·split at t
  ·rename_i aB;simp only[aB,and_self,if_true];simpa using t
  ·cases t
 ·cases t
theorem Aa(f:ay→Nat→Option D):∀os:List ay,(gM os).findSome? (fun q=>f q.1 q.2)=os.findSome? fun d=>(adf 16).findSome? fun a=>f d a
 |[]=>rfl
 |d::os=>by
  have bQ:=Aa f os;have e:gM (d::os)=(adf 16).map (fun a=>(d,a))++gM os:=rfl;rw[e,List.findSome?_append,List.findSome?_cons,bQ,List.findSome?_map];cases bD:(adf 16).findSome? (fun a=>f d a)with
  |some x=>simp only[af_,bD];rfl
  |none=>simp only[af_,bD];rfl
def tk:bV→Bool
 |.ac 0 _=>true
 |_=>false
def l7:bV→Nat
 |.ac _ h=>h
 |.eu _=>0
def lG(ps:List bV):List Nat:=(ps.filter tk).map l7
theorem TO{ps:List bV}{h:Nat}:h∈lG ps↔.ac 0 h∈ps:=by
 unfold lG;rw[ah9];constructor
 ·rintro⟨s,hs,rfl⟩;obtain⟨h1,h2⟩:=List.mem_filter.mp hs;cases s with
  |eu k=>cases h2
  |ac w h=>
   match w,h2 with
   |0,_=>exact h1
 ·intro h1;exact⟨_,List.mem_filter.mpr ⟨h1,rfl⟩,rfl⟩
theorem DE{n:Nat}{s:bV}(hs:s.ok n):∃x,aG (bP s) (.int 0)=.ok (.str x)∧cw true (.str x) (.str (PySem.Str.ofString "teach"))=.ok (.aF (tk s))∧cw true (.str x) (.str (PySem.Str.ofString "turn"))=.ok (.aF (decide (s=.ac 1 (l7 s))))∧cw true (.str x) (.str (PySem.Str.ofString "wait"))=.ok (.aF (hN s))∧cw true (.str x) (.str (PySem.Str.ofString "forget"))=.ok (.aF (decide (s=.ac 2 (l7 s)))):=by
 cases s with
 |eu k=>cases k<;>exact⟨wS,rfl,rfl,rfl,rfl,rfl⟩
 |ac w h=>obtain⟨hw,_⟩:=hs;refine⟨hE w,rfl,?_⟩;rcases r1 w hw with rfl|rfl|rfl<;>simp only[l7,tk,hN]<;>simp<;>exact⟨rfl,rfl,rfl,rfl⟩
theorem rg(w h:Nat):aG (bP (.ac w h)) (.int 1)=.ok (.int (h:Int)):=rfl
noncomputable def sR(ws:List (ay×ay))(new:List (List c1))(ps:List bV)(k h:Nat)(d:ay)(a:Nat):Option D:=if d.1=h then((jH ws new d a).find? fun x=>!decide (x∈lG (ps.take k))).map (eS k d a)else none
theorem ne_nil(l:List Nat):cw false (.lst (l.map fun(x:Nat)=>D.int (x:Int))) (.lst [])=.ok (.aF (!l.isEmpty)):=by
 have o:okN 8 (.lst (l.map fun(x:Nat)=>D.int (x:Int)))=true:=by simp only[okN];rw[afK,aeC];intro x _;rfl
 have b_:okN 8 (.lst [])=true:=rfl;simp only[cw,o,b_,and_self,if_true,bz];cases l with
 |nil=>rfl
 |cons a l=>simp[dT]
theorem YN{cs:List Nat}{ws:List (ay×ay)}{new:List (List c1)}{ps:List bV}(aS:Ok cs.length ps)(ai:ps.length≤1000){k h:Nat}(aH:ps[k]?=some (.ac 1 h)) :
  wL [.lst (ps.map bP),.int (k:Int),.bx (ff (outs cs ws cs.length)) (fF ws new (outs cs ws cs.length))]=.ok (.v ((hb cs ws (sR ws new ps k h)).getD .non)):=by
 apply Ends.done;have iT:aG (.lst (ps.map bP)) (.int (k:Int))=.ok (bP (.ac 1 h)):=je (by rw[ade,aH];rfl);have fR:(ps.take k).length≤1000:=adB (afz _ _) ai;simp[wL,zu];refine sN bP (ps.take k) tk (fun s=>.int (l7 s:Int)) (by simp[vq]) fR (fun s hs=>?_) (fun s hs bT=>?_) ?_
 ·obtain⟨x,cI,aq,_⟩:=DE (aS s (aeF hs));simp[cI,aq]
 ·cases s with
  |eu b=>cases bT
  |ac w h=>simp[rg,l7]
 ·have mV:((ps.take k).filter tk).map (fun s=>D.int (l7 s:Int))=(lG (ps.take k)).map fun(x:Nat)=>D.int (x:Int):=by unfold lG;rw[aek];rfl
  rw[mV];unfold hb;rw[←Aa];refine vA (fun q:ay×Nat=>.tup [aU q.1,.int (q.2:Int)]) (gM (outs cs ws cs.length)) (fun ρ=>∃s4 s5 dk,ρ=[.aA (.lst (ps.map bP)),.aA (.int (k:Int)),.aA (.bx (ff (outs cs ws cs.length)) (fF ws new (outs cs ws cs.length))),.aA (.lst ((lG (ps.take k)).map fun(x:Nat)=>D.int (x:Int))),s4,s5,dk]) (fun q=>sR ws new ps k h q.1 q.2) (by simp[Ko]) ⟨_,_,_,rfl⟩ ?_ ?_ ?_
  ·rintro⟨d,a⟩ _ aR ⟨s4,s5,dk,rfl⟩;have eH:aG (aU d) (.int 0)=.ok (.int (d.1:Int)):=rfl;have a8:=Fc (ws:=ws) (bs:=new) aR;unfold sR;by_cases e:d.1=h
   ·simp[eH,iT,rg,e];refine sN (fun(x:Nat)=>D.int (x:Int)) (jH ws new d a) (fun x=>!decide (x∈lG (ps.take k))) (fun(x:Nat)=>D.int (x:Int)) (by simp[a8,kg]) (by simp[jH];exact Lp ..) (fun x _=>by simp[IW]) (fun x _ _=>by simp) ?_;cases hf:(jH ws new d a).filter (fun x=>!decide (x∈lG (ps.take k)))with
    |nil=>
     have hd:(jH ws new d a).find? (fun x=>!decide (x∈lG (ps.take k)))=none:=by rw[←List.head?_filter,hf];rfl
     simp[hd,ne_nil,show cw false (.lst []) (.lst [])=.ok (.aF false)from ne_nil []]
    |cons x l=>
     have hd:(jH ws new d a).find? (fun x=>!decide (x∈lG (ps.take k)))=some x:=by rw[←List.head?_filter,hf];rfl
     have nn:=ne_nil (x::l);simp only[adi]at nn;simp[hd,nn,show aG (.lst (.int (x:Int)::l.map fun(x:Nat)=>D.int (x:Int))) (.int 0)=.ok (.int (x:Int))from je (k:=0) rfl,eS]
   ·have cn:¬((d.1:Int)=(h:Int)):=by omega
    simp[eH,iT,rg,e,cn]
  ·intro d e;simp[e]
  ·rintro bJ e ⟨s4,s5,dk,rfl⟩;simp[e]
theorem Gw(p:Nat→Bool):∀ds:List ay,(ds.map (·.1)).find? p=(ds.find? fun d=>p d.1).map (·.1)
 |[]=>rfl
 |d::ds=>by
  rw[adi,adM,adM];cases p d.1 with
  |true=>rfl
  |false=>exact Gw p ds
theorem OH{ws:List (ay×ay)}{old new:List (List c1)}{ps:List bV}{k h:Nat}(aH:ps[k]?=some (.ac 1 h))(d:ay)(a:Nat):sR ws new ps k h d a=(hf ws old new ps k d a).map (eS k d a):=by
 unfold sR hf jH;rw[aH,Gw];simp only;by_cases e:d.1=h
 ·rw[if_pos e,if_pos e.symm];unfold ql;have q:(fun d:ay=>!decide (d.1∈lG (ps.take k)))=fun d:ay=>!decide (.ac 0 d.1∈ps.take k):=by
   funext d
   rw[ad2];simp[TO]
  rw[q]
 ·rw[if_neg e,if_neg (fun z=>e z.symm)];rfl
noncomputable def jm(p:List Nat×List Nat):bV→List Nat×List Nat
 |.eu _=>(p.2,p.2)
 |.ac 1 h=>(p.1,p.2++[h])
 |_=>p
def lx(ps:List bV)(p:List Nat×List Nat):List Nat×List Nat:=ps.foldl jm p
def hQ(ps:List bV):List Nat×List Nat:=lx ps ([],[])
theorem Ve(ps:List bV)(s:bV):hQ (ps++[s])=jm (hQ ps) s:=by simp[hQ,lx,List.foldl_append]
theorem Y_(s:bV)(ps:List bV)(x:Nat):js (s::ps) x=if s=.ac 1 x then ps.any hN else js ps x:=by
 unfold js kl;rw[List.findIdx_cons];by_cases h:s=.ac 1 x
 ·subst h;simp[hN]
 ·have h':¬(bV.ac 1 x=s):=fun z=>h z.symm;simp[h,h']
theorem Y9{ps:List bV}{x:Nat}(h:js ps x=true):ps.any hN=true:=by unfold js at h;rw[adF]at h;obtain⟨s,h1,h2⟩:=List.any_eq_true.mp h.2;exact List.any_eq_true.mpr ⟨s,afx h1,h2⟩
theorem wV(x:Nat):∀(ps:List bV)(o t:List Nat),(∀y∈o,y∈t)→(x∈(lx ps (o,t)).1↔x∈o∨(x∈t∧ps.any hN=true)∨js ps x=true)
 |[],o,t,h=>by simp[lx,js]
 |s::ps,o,t,h=>by
  have e:lx (s::ps) (o,t)=lx ps (jm (o,t) s):=rfl;rw[e,Y_];have x4:=@Y9 ps x;cases s with
  |eu b=>
   have bQ:=wV x ps t t fun _ z=>z;have aw:(bV.eu b::ps).any hN=true:=rfl;simp only[jm];rw[bQ,aw,if_neg (fun z=>nomatch z)];have ax:=h x;constructor
   ·rintro(z|z|z)
    ·exact .inr (.inl ⟨z,rfl⟩)
    ·exact .inr (.inl ⟨z.1,rfl⟩)
    ·exact .inr (.inr z)
   ·rintro(z|z|z)
    ·exact .inl (ax z)
    ·exact .inl z.1
    ·exact .inr (.inr z)
  |ac w k=>
   have aw:(bV.ac w k::ps).any hN=ps.any hN:=rfl;rw[aw];by_cases hw:w=1
   ·subst hw;have bQ:=wV x ps o (t++[k]) fun y bq=>by simp[h y bq]
    simp only[jm];rw[bQ,agG,agQ];generalize ps.any hN=y at x4 ⊢;by_cases q:k=x
    ·subst q;rw[if_pos rfl];constructor
     ·rintro(z|z|z)
      ·exact .inl z
      ·exact .inr (.inr z.2)
      ·exact .inr (.inr (x4 z))
     ·rintro(z|z|z)
      ·exact .inl z
      ·exact .inr (.inl ⟨.inl z.1,z.2⟩)
      ·exact .inr (.inl ⟨.inr rfl,z⟩)
    ·rw[if_neg (fun z=>q (by cases z;rfl))];have dU:¬(x=k):=fun z=>q z.symm;simp[dU]
   ·have bQ:=wV x ps o t h;have ev:jm (o,t) (.ac w k)=(o,t):=by
     unfold jm
     split
     ·rename_i z;cases z
     ·rename_i z;cases z;exact absurd rfl hw
     ·rfl
    rw[ev,bQ,if_neg (fun z=>hw (by cases z;rfl))]
theorem Jf{ps:List bV}{x:Nat}:x∈(hQ ps).1↔js ps x=true:=by have:=wV x ps [] [] (fun _ z=>z);unfold hQ;rw[this];simp
theorem Vd(ps:List bV):(hQ ps).2.length≤ps.length∧(hQ ps).1.length≤ps.length:=by
 have go:∀(ps:List bV)(o t:List Nat)(n:Nat),o.length≤n→t.length≤n→(lx ps (o,t)).2.length≤n+ps.length∧(lx ps (o,t)).1.length≤n+ps.length:=by
  intro ps;induction ps with
  |nil=>intro o t n h1 h2;exact⟨h2,h1⟩
  |cons s ps bQ=>
   intro o t n h1 h2;have e:lx (s::ps) (o,t)=lx ps (jm (o,t) s):=rfl;rw[e,adl];obtain⟨bR,t',cn,dZ,cP⟩:∃bR t',jm (o,t) s=(bR,t')∧bR.length≤n+1∧t'.length≤n+1:=by
    unfold jm
    split
    ·exact⟨_,_,rfl,by simp only;omega,by simp only;omega⟩
    ·exact⟨_,_,rfl,by simp only;omega,by simp;omega⟩
    ·exact⟨_,_,rfl,by omega,by omega⟩
   rw[cn];have:=bQ bR t' (n+1) dZ cP;omega
 have:=go ps [] [] 0 (ac6 _) (ac6 _);simpa[hQ]using this
@[simp] theorem acm(i:Nat)(ρ:av):tG i ρ=w9 ρ[i]?:=by unfold tG;rw[Y2]
abbrev t6(l:List Nat):List D:=l.map fun(x:Nat)=>D.int (x:Int)
noncomputable def sQ(ws:List (ay×ay))(old:List (List c1))(ps:List bV)(k h:Nat)(d:ay)(a:Nat):Option D:=if d.1∈(hQ (ps.take k)).1 then none else if h∈jH ws old d a then some (eS k d a h)else none
theorem OV{cs:List Nat}{ws:List (ay×ay)}{old:List (List c1)}{ps:List bV}(aS:Ok cs.length ps)(ai:ps.length≤1000){k h:Nat}(aH:ps[k]?=some (.ac 2 h)) :
  wI [.lst (ps.map bP),.int (k:Int),.bx (ff (outs cs ws cs.length)) (fF ws old (outs cs ws cs.length))]=.ok (.v ((hb cs ws (sQ ws old ps k h)).getD .non)):=by
 apply Ends.done;have iT:aG (.lst (ps.map bP)) (.int (k:Int))=.ok (bP (.ac 2 h)):=je (by rw[ade,aH];rfl);have fR:(ps.take k).length≤1000:=adB (afz _ _) ai;simp[wI,zh];refine vz bP (ps.take k) (fun j ρ=>∃s5,ρ=[.aA (.lst (ps.map bP)),.aA (.int (k:Int)),.aA (.bx (ff (outs cs ws cs.length)) (fF ws old (outs cs ws cs.length))),.aA (.lst (t6 (hQ ((ps.take k).take j)).1)),.dj (t6 (hQ ((ps.take k).take j)).2),s5,.un,.un]) (by simp[vq]) ⟨.un,by simp[hQ,lx,t6]⟩ ?_ ?_
 ·rintro j s _ hs ⟨s5,rfl⟩;obtain⟨x,cI,_,aq,aD,_⟩:=DE (aS s (aeF (adn hs)));have cb:(ps.take k).take (j+1)=(ps.take k).take j++[s]:=by rw[List.take_succ,hs];rfl
  have ol:=(Vd ((ps.take k).take j)).1;have abI:((ps.take k).take j).length≤1000:=adB (afz _ _) fR;rw[cb,Ve];generalize hQ ((ps.take k).take j)=Jc at ol ⊢;cases s with
  |eu b=>simp only[hN]at aD;simp only[reduceCtorEq,decide_false]at aq;simp[cI,aq,aD,jm]
  |ac w g=>
   simp only[hN]at aD;by_cases hw:w=1
   ·subst hw;simp only[l7,decide_true]at aq;simp(disch:=first|omega|(simp;done)|(simp;omega)) [cI,aq,aD,jm,rg]
   ·have ne:¬(bV.ac w g=.ac 1 (l7 (.ac w g))):=fun z=>hw (by cases z;rfl);rw[decide_eq_false ne]at aq;have ev:jm Jc (.ac w g)=Jc:=by
     unfold jm
     split
     ·rename_i z;cases z
     ·rename_i z;cases z;exact absurd rfl hw
     ·rfl
    simp[cI,aq,aD,ev]
 ·rintro _ ⟨s5,rfl⟩;have tt:(ps.take k).take (ps.take k).length=ps.take k:=agj;rw[tt];simp;unfold hb;rw[←Aa];refine vA (fun q:ay×Nat=>.tup [aU q.1,.int (q.2:Int)]) (gM (outs cs ws cs.length)) (fun ρ=>∃dk cR,ρ=[.aA (.lst (ps.map bP)),.aA (.int (k:Int)),.aA (.bx (ff (outs cs ws cs.length)) (fF ws old (outs cs ws cs.length))),.aA (.lst (t6 (hQ (ps.take k)).1)),.dj (t6 (hQ (ps.take k)).2),s5,dk,cR]) (fun q=>sQ ws old ps k h q.1 q.2) (by simp[Ko]) ⟨_,_,rfl⟩ ?_ ?_ ?_
  ·rintro⟨d,a⟩ _ aR ⟨dk,cR,rfl⟩;have eH:aG (aU d) (.int 0)=.ok (.int (d.1:Int)):=rfl;have a8:=Fc (ws:=ws) (bs:=old) aR;have n1:=IW d.1 (hQ (ps.take k)).1;have n2:=AR h (jH ws old d a);unfold kg at a8;unfold sQ;by_cases e:d.1∈(hQ (ps.take k)).1
   ·simp[eH,n1,e]
   ·by_cases aD:h∈jH ws old d a
    ·simp[eH,n1,e,iT,rg,a8,n2,aD,eS]
    ·simp[eH,n1,e,iT,rg,a8,n2,aD]
  ·intro d e;simp[e]
  ·rintro bJ e ⟨dk,cR,rfl⟩;simp[e]
theorem OG{ws:List (ay×ay)}{old new:List (List c1)}{ps:List bV}{k h:Nat}(aH:ps[k]?=some (.ac 2 h))(d:ay)(a:Nat):sQ ws old ps k h d a=(hf ws old new ps k d a).map (eS k d a):=by
 unfold sQ hf jH;rw[aH];simp only;by_cases e:js (ps.take k) d.1=true
 ·rw[if_pos (Jf.mpr e),if_pos e];rfl
 ·rw[if_neg (fun z=>e (Jf.mp z)),if_neg e]
  split<;>rfl
theorem sO:∀{xs:List D},(∀x∈xs,bz x x=true)→dT xs xs=true
 |[],_=>by simp[dT]
 |x::xs,h=>by simp[dT,h x (by simp),sO (xs:=xs) fun y bq=>h y (by simp[bq])]
theorem qW:∀(n:Nat)(d:D),okN n d=true→bz d d=true
 |_,.non,_=>by simp[bz]
 |_,.aF _,_=>by simp[bz]
 |_,.int _,_=>by simp[bz]
 |_,.str _,_=>by simp[bz]
 |n+1,.tup xs,h=>by simp only[bz];exact sO fun x ax=>qW n x (List.all_eq_true.mp (by simpa[okN]using h) x ax)
 |n+1,.dB xs,h=>by simp only[bz];exact sO fun x ax=>qW n x (List.all_eq_true.mp (by simpa[okN]using h) x ax)
 |n+1,.lst xs,h=>by simp only[bz];exact sO fun x ax=>qW n x (List.all_eq_true.mp (by simpa[okN]using h) x ax)
 |n+1,.cJ xs,h=>by simp only[bz];exact sO fun x ax=>qW n x (List.all_eq_true.mp (by simpa[okN]using h) x ax)
 |0,.tup _,h=>by simp[okN]at h
 |0,.dB _,h=>by simp[okN]at h
 |0,.lst _,h=>by simp[okN]at h
 |0,.cJ _,h=>by simp[okN]at h
 |0,.dA _ _,h=>by simp[okN]at h
 |0,.bx _ _,h=>by simp[okN]at h
 |0,.ins _ _ _,h=>by simp[okN]at h
 |0,.oa _,h=>by simp[okN]at h
 |n+1,.dA _ _,h=>by simp[okN]at h
 |n+1,.bx _ _,h=>by simp[okN]at h
 |n+1,.ins _ _ _,h=>by simp[okN]at h
 |n+1,.oa _,h=>by simp[okN]at h
theorem Ou{d:D}(h:okN 8 d=true):cw false d d=.ok (.aF false):=by simp[cw,h,qW 8 d h]
theorem w4{α:Type}(g:α→D)(n:Nat)(l:List α)(h:∀a∈l,okN n (g a)=true):okN (n+1) (.lst (l.map g))=true:=by simp only[okN,afK,aeC];exact fun a ag=>h a ag
@[simp] theorem abX(n:Nat)(mf:List D→R b6)(m:aY)(ρ:av):rp n mf m ρ=(m ρ).bind fun ds=>if ds.length=n then(gL (mf ds)).bind iZ else .bad:=(rfl)
@[simp] theorem aaS(x:D):e5 false x .non=.ok (.aF (!fX x)):=(rfl)
theorem ML(cs:List Nat)(ws:List (ay×ay)):hb cs ws (fun _ _=>none)=none:=by unfold hb;simp
theorem Et{cs:List Nat}{ws:List (ay×ay)}{f g:ay→Nat→Option D}(h:∀d a,f d a=g d a):hb cs ws f=hb cs ws g:=by
 have:f=g:=by funext d a;exact h d a
 rw[this]
theorem yQ{cs:List Nat}{ws:List (ay×ay)}{p:Nat}{g:ay→Nat→Option Nat}{x:D}(h:hb cs ws (fun d a=>(g d a).map (eS p d a))=some x):∃d a k,x=eS p d a k:=by unfold hb at h;obtain⟨d,_,h⟩:=ae0 h;obtain⟨a,_,h⟩:=ae0 h;obtain⟨k,_,rfl⟩:=Option.map_eq_some_iff.mp h;exact⟨d,a,k,rfl⟩
theorem N2{cs:List Nat}{ws:List (ay×ay)}{old new:List (List c1)}{ps:List bV}(aS:Ok cs.length ps)(ai:ps.length≤999) :
  wH [.lst (ps.map bP),.bx (ff (outs cs ws cs.length)) (fF ws old (outs cs ws cs.length)),.bx (ff (outs cs ws cs.length)) (fF ws new (outs cs ws cs.length))]=.ok (.v ((jg cs ws old new ps).getD .non)):=by
 apply Ends.done;simp[wH,zg]
 refine vA (fun(p:Nat)=>D.int (p:Int)) (adf ps.length) (fun ρ=>∃s3 s4,ρ=[.aA (.lst (ps.map bP)),.aA (.bx (ff (outs cs ws cs.length)) (fF ws old (outs cs ws cs.length))),.aA (.bx (ff (outs cs ws cs.length)) (fF ws new (outs cs ws cs.length))),s3,s4]) (fun p=>hb cs ws fun d a=>(hf ws old new ps p d a).map (eS p d a))
  (by simp(disch:=first|omega|(simp;done)|(simp;omega)) [xl]) ⟨_,_,rfl⟩ ?_ ?_ ?_
 ·rintro p _ AE ⟨s3,s4,rfl⟩;have de:p<ps.length:=List.mem_range.mp AE;obtain⟨s,es⟩:∃s,ps[p]?=some s:=⟨ps[p],ac2 de⟩;have iT:aG (.lst (ps.map bP)) (.int (p:Int))=.ok (bP s):=je (by rw[ade,es];rfl);have so:=aS s (adn es);obtain⟨x,cI,_,aq,_,aD⟩:=DE so;have no:(∀d a,hf ws old new ps p d a=none)→hb cs ws (fun d a=>(hf ws old new ps p d a).map (eS p d a))=none:=fun h=>by
   have:(fun d a=>(hf ws old new ps p d a).map (eS p d a))=fun _ _=>none:=by funext d a;rw[h];rfl
   rw[this];exact ML cs ws
  have nn:fX .non=true:=rfl;simp[iT,cI,aq,aD];cases s with
  |eu b=>simp only[reduceCtorEq,decide_false]at aD;rw[no fun d a=>by unfold hf;rw[es]];simp[iT,cI,aD,nn]
  |ac w h=>
   simp only[l7,bV.ac.injEq,and_true]at aD ⊢;rcases r1 w so.1 with q|q|q<;>subst q
   ·rw[no fun d a=>by simp[hf,es]];simp at aD;simp[iT,cI,aD,nn]
   ·have nB:=YN (ws:=ws) (new:=new) aS (by omega) es;rw[Et (OH (old:=old) es)]at nB;generalize aw:hb cs ws (fun d a=>(hf ws old new ps p d a).map (eS p d a))=o at nB ⊢;simp at aD;cases o with
    |none=>simp[iT,cI,aD,nB,nn]
    |some y=>obtain⟨d,a,k,rfl⟩:=yQ aw;simp[iT,cI,aD,nB,show fX (eS p d a k)=false from rfl]
   ·have nB:=OV (ws:=ws) (old:=old) aS (by omega) es;rw[Et (OG (new:=new) es)]at nB;generalize aw:hb cs ws (fun d a=>(hf ws old new ps p d a).map (eS p d a))=o at nB ⊢;simp at aD;cases o with
    |none=>simp[iT,cI,aD,nB,nn]
    |some y=>obtain⟨d,a,k,rfl⟩:=yQ aw;simp[iT,cI,aD,nB,show fX (eS p d a k)=false from rfl]
 ·intro d e;simp[jg,e]
 ·rintro bJ e ⟨s3,s4,rfl⟩;simp[jg,e]
theorem Tq{cs:List Nat}{ws:List (ay×ay)}{old new:List (List c1)}{ps:List bV}:jg cs ws old new ps=none∨∃p d a k,jg cs ws old new ps=some (eS p d a k):=by
 cases e:jg cs ws old new ps with
 |none=>exact .inl rfl
 |some x=>unfold jg at e;obtain⟨p,_,e⟩:=ae0 e;obtain⟨d,a,k,rfl⟩:=yQ e;exact .inr ⟨p,d,a,k,rfl⟩
theorem Zf(i:Int):Bj [.int i]=.ok (.v (.aF true)):=by rfl
theorem MB(p:Nat)(d:ay)(a k:Nat):rI [eS p d a k,eS p d a k]=.ok (.v (.aF true)):=by
 apply Ends.done;have n:fX (eS p d a k)=false:=rfl;have eH:aG (eS p d a k) (.int 0)=.ok (.int (p:Int)):=rfl;have bA:aG (eS p d a k) (.int 1)=.ok (aU d):=rfl;have bI:aG (eS p d a k) (.int 2)=.ok (.int (a:Int)):=rfl;have Qx:aG (eS p d a k) (.int 3)=.ok (.int (k:Int)):=rfl;have t0:fx "tuple" (eS p d a k)=.ok (.aF true):=rfl;have t1:fx "tuple" (aU d)=.ok (.aF true):=rfl;have tn:dC [eS p d a k]=.ok (.int 4):=rfl;have dZ:dC [aU d]=.ok (.int 2):=rfl;have ld:me [aU d]=.ok [.int (d.1:Int),.int (d.2:Int)]:=rfl;have qU:cw true (eS p d a k) (eS p d a k)=.ok (.aF true):=by have:okN 8 (eS p d a k)=true:=rfl;simp[cw,this,qW 8 _ this]
 simp[rI,zb,n,eH,bA,bI,Qx,t0,t1,tn,dZ,ld];refine n6 D.int [(p:Int),(a:Int),(k:Int),(d.1:Int),(d.2:Int)] (fun _=>.aF true) (by simp) (by simp) (fun i _=>by simp[Zf]) ?_;have al:bt.dn [.lst ([(p:Int),(a:Int),(k:Int),(d.1:Int),(d.2:Int)].map fun _=>D.aF true)]=.ok (.aF true):=rfl;rw[al];simp[qU]
theorem MC(cs:List Nat)(ws:List (ay×ay))(old new:List (List c1))(ps:List bV):rI [(jg cs ws old new ps).getD .non,(jg cs ws old new ps).getD .non]=.ok (.v (.aF true)):=by
 rcases Tq (cs:=cs) (ws:=ws) (old:=old) (new:=new) (ps:=ps)with e|⟨p,d,a,k,e⟩
 ·rw[e];rfl
 ·rw[e];exact MB p d a k
theorem UP(n:Nat)(r:c1):okN (n+1) (fj r)=true:=by
 have h:∀(m:Nat)(o:Option Nat),okN m (dF o)=true:=fun m o=>by cases o<;>cases m<;>rfl
 have hs:okN n (.str r.p)=true:=by cases n<;>rfl
 simp[fj,okN,h,hs]
theorem I1(n:Nat)(b:List c1):okN (n+2) (bU b)=true:=w4 fj (n+1) b fun r _=>UP n r
theorem UQ(n:Nat)(s:bV):okN (n+1) (bP s)=true:=by
 cases s with
 |eu k=>cases k<;>cases n<;>rfl
 |ac w h=>cases n<;>rfl
theorem Pg(old new:List (List c1))(ps:List bV):cw false (.lst [.lst (old.map bU),.lst (new.map bU),.lst (ps.map bP)]) (.lst [.lst (old.map bU),.lst (new.map bU),.lst (ps.map bP)])=.ok (.aF false):=by refine Ou ?_;have a:=w4 bU 6 old fun b _=>I1 4 b;have b:=w4 bU 6 new fun b _=>I1 4 b;have c:=w4 bP 6 ps fun s _=>UQ 5 s;rw[okN];simp only[afr,List.all_nil,a,b,c,Bool.and_self]
theorem S6(ns:List Int):pZ [.cJ (ns.map D.int)]=.ok (.v (.aF true)):=by
 apply Ends.done;obtain⟨jb,cI⟩:=zI ns 0;have pv:lh [.cJ (ns.map D.int),.int 0]=.ok (.v (.int jb)):=cI;obtain⟨cs,ws,dq,qV⟩:=Uh jb;have Oh:rJ [.int jb]=.ok (.v (parts cs ws)):=qV;have h1:=dq.h1;have h6:=dq.h6;have lcs:(cc cs).length=cs.length:=by simp[cc]
 obtain⟨old,aE,n9⟩:=EN ns 1 (by decide) cs h6 dq.c;have Oq:ox [.cJ (ns.map D.int),.int 1,.lst (cc cs)]=.ok (.o (old.map bU)):=n9;obtain⟨new,aK,hI⟩:=Uj ns cs h6 dq.c aE;have iK:=Rw cs ws dq;have fold:D.ins "Net" ["many","counts","joined","far"] [.int (cs.length:Int),.tup (cc cs),.tup (ws.map dQ),.bx (dY ws) (ei ws)]=dp cs ws:=rfl;have gp:aG (parts cs ws) (.int 0)=.ok (.lst (cc cs)):=rfl;have d0:aG (parts cs ws) (.int 1)=.ok (.lst (ws.map dQ)):=rfl;have tn:me [.lst (cc cs)]=.ok (cc cs):=rfl;have dZ:me [.lst (ws.map dQ)]=.ok (ws.map dQ):=rfl;have iM:=He dq aE.p;have kY:=He dq aK.p;have go:∀x:Int,∃n:Nat,(if x>13 then x else 13)=(n:Int):=fun x=>⟨(if x>13 then x else 13).toNat,by split<;>omega⟩;simp(disch:=first|omega|(simp;done)|(simp;omega)) [pZ,za,pv,Oh,gp,d0,ji,tn,dZ,iK,fold,Oq,hI,iM,kY];generalize O5:D.bx (ff (outs cs ws cs.length)) (fF ws old (outs cs ws cs.length))=L6;generalize O6:D.bx (ff (outs cs ws cs.length)) (fF ws new (outs cs ws cs.length))=L7;refine vz D.int [13,13+((ns.length:Int)-13)/2] (fun _ ρ=>∃cR jV rS ud xr,ρ=[.aA (.cJ (ns.map D.int)),.aA (parts cs ws),.aA (dp cs ws),.aA (.lst (old.map bU)),.aA (.lst (new.map bU)),.aA L6,.aA L7,cR,jV,rS,ud,xr]) (by simp) ⟨_,_,_,_,_,rfl⟩ ?_ ?_
 ·rintro j x _ cz ⟨cR,jV,rS,ud,xr,rfl⟩;obtain⟨n,Oi⟩:=go x;obtain⟨ps,Jv,aa0,wq,bN⟩:=VV (ns.drop n) cs.length h1 h6;have zP:=N2 (ws:=ws) (old:=old) (new:=new) Jv.ok (show ps.length≤999 by omega);rw[O5,O6]at zP;have fu:=OL dq aE aK Jv (show ps.length≤40 by omega);have al:=MC cs ws old new ps;have he:=Pg old new ps;have cm:fC (ns.map D.int) (some (n:Int)) none=(ns.drop n).map D.int:=by rw[qR,zK]
  have dw:me [.lst (ps.map bP)]=.ok (ps.map bP):=rfl;generalize(jg cs ws old new ps).getD .non=F at zP fu al;simp(disch:=first|omega|(simp;done)|(simp;omega)) [Oi,cm,gp,lcs,bN,-aiZ];refine n6 bU old bU (by simp) (by rw[aE.l];omega) (fun b _=>by simp[ji,bU,me]) ?_;refine n6 bU new bU (by simp) (by rw[aK.l];omega) (fun b _=>by simp[ji,bU,me]) ?_;have Md:∀a b c:D,aG (.lst [a,b,c]) (.int 0)=.ok a:=fun _ _ _=>rfl;have a0:∀a b c:D,aG (.lst [a,b,c]) (.int 1)=.ok b:=fun _ _ _=>rfl;have ck:∀a b c:D,aG (.lst [a,b,c]) (.int 2)=.ok c:=fun _ _ _=>rfl;simp(disch:=first|omega|(simp;done)|(simp;omega)) [ji,dw,Md,a0,ck,zP,fu,al,he]
 ·rintro _ ⟨cR,jV,rS,ud,xr,rfl⟩;simp
theorem Zw{P:adp}{w:adJ}{K:PySem.W.Frag}{mg:Str→Option ac1}{base:adX}{x:Str}{st:aep}{N ps:List Str}{k:Nat}{m:bl}{f:ada}{fd:aet}(fn:kJ K x x st f fd)(S:cS N ps (b1 st))(h:∀(f:ada)(cv:ac1)(A:adG)(outer:List PySem.Env)(s:ac4)(H:ah)(E:dh),dW k (A.deeper (ad3 x (b1 st) s.heap.objs.size f cv))→∀b8 bK,i8 (e3 g7 P w K mg base N x (b1 st) f cv A outer s H E).hB (fe K b8 bK) (gh st) m) :
  hr P w K mg base g7 (k+1) f fd ps (lE K ps.length (cY N.length m)):=fn.ok S xE fun cv A outer s H vs Q E au hs=>by
 obtain⟨G,bT⟩:=vm hs;exact⟨_,(h f cv A outer s H E au G H).1,bT⟩
structure di(K:PySem.W.Frag)(x:Str)(st:aep):Prop where
 ex:∃(f:ada)(dP an:Option ada)(cV:Array (Option ac1))(fo da jz pm cd c_:ac1),PySem.W.nsIn K ado x=some (some (.ref f))∧K.lookup f=some ⟨fo,dP,.func (PySem.W.fnOf x x (jA st) (gh st) (b1 st) .none da jz pm an cd c_),cV⟩∧PySem.W.codeIn K cd x=true∧PySem.W.keepIn K (.ref f)=true
theorem dv{K:PySem.W.Frag}{x:Str}{st:aep}{f:ada}{dP an:Option ada}{cV:Array (Option ac1)}{fo da jz pm cd c_:ac1}(a:PySem.W.nsIn K ado x=some (some (.ref f)))(l:K.lookup f=some ⟨fo,dP,.func (PySem.W.fnOf x x (jA st) (gh st) (b1 st) .none da jz pm an cd c_),cV⟩)(c:PySem.W.codeIn K cd x=true)(k:PySem.W.keepIn K (.ref f)=true):di K x st:=⟨f,dP,an,cV,fo,da,jz,pm,cd,c_,a,l,c,k⟩
theorem du{K:PySem.W.Frag}{h:adX}{mg:Str→Option ac1}{x:Str}{st:aep}{ps:List Str}(X:K.In h)(G:h.Ns ado mg)(F:di K x st)(b:∀(da doc pm:ac1)(an:Option ada)(cv c_:ac1)(us:List ac1),us.length=ps.length→aiS (PySem.W.fnOf x x (jA st) (gh st) (b1 st) .none da doc pm an cv c_) ⟨us,[]⟩=pure (ps.zip us)):df K mg x st ps:=by obtain⟨f,dP,an,cV,fo,da,jz,pm,cd,c_,a,l,c,k⟩:=F.ex;exact ON (st:=st) X G a l c k b
structure o3(K:PySem.W.Frag)(C:ada)(x qual:Str)(st:aep):Prop where
 ex:∃(f:ada)(dP an:Option ada)(cV:Array (Option ac1))(fo da jz pm cd c_:ac1),PySem.W.findIn K (.ref C) x=some (some (.ref f))∧K.lookup f=some ⟨fo,dP,.func (PySem.W.fnOf x qual (jA st) (gh st) (b1 st) .none da jz pm an cd c_),cV⟩∧PySem.W.codeIn K cd qual=true∧PySem.W.keepIn K (.ref f)=true∧PySem.W.isFn K (.ref f)=true
theorem wX{K:PySem.W.Frag}{C:ada}{x qual:Str}{st:aep}{f:ada}{dP an:Option ada}{cV:Array (Option ac1)}{fo da jz pm cd c_:ac1}(a:PySem.W.findIn K (.ref C) x=some (some (.ref f)))(l:K.lookup f=some ⟨fo,dP,.func (PySem.W.fnOf x qual (jA st) (gh st) (b1 st) .none da jz pm an cd c_),cV⟩)(c:PySem.W.codeIn K cd qual=true)(k:PySem.W.keepIn K (.ref f)=true)(i:PySem.W.isFn K (.ref f)=true):o3 K C x qual st:=⟨f,dP,an,cV,fo,da,jz,pm,cd,c_,a,l,c,k,i⟩
theorem Bp{K:PySem.W.Frag}{bY x qual:Str}{C:ada}{st:aep}{ps:List Str}(n:PySem.W.nsIn K ado bY=some (some (.ref C)))(g1:PySem.W.plainGet K C Str.empty=true)(g2:PySem.W.hasDictIn K C=true)(g3:PySem.W.plainOver K C=true)(jD:PySem.W.findIn K (.ref C) "__setattr__"=some (some (.builtin "object.__setattr__")))(F:o3 K C x qual st)(b:∀(da doc pm:ac1)(an:Option ada)(cv c_:ac1)(us:List ac1),us.length=ps.length→aiS (PySem.W.fnOf x qual (jA st) (gh st) (b1 st) .none da doc pm an cv c_) ⟨us,[]⟩=pure (ps.zip us)):sl K bY x qual st ps:=by obtain⟨f,dP,an,cV,fo,da,jz,pm,cd,c_,a,l,c,k,i⟩:=F.ex;exact⟨⟨C,f,_,n,⟨g1,g2,g3,jD⟩,⟨a,i,k⟩,pF (st:=st) l c k,(pF (st:=st) l c k).binds b⟩⟩
theorem TP{K:PySem.W.Frag}{h:adX}{mg:Str→Option ac1}{bY qual:Str}{C:ada}{st:aep}{ps:List Str}(X:K.In h)(G:h.Ns ado mg)(n:PySem.W.nsIn K ado bY=some (some (.ref C)))(mk:PySem.W.makesIn K C=true)(wh:PySem.W.keepIn K (.ref C)=true)(F:o3 K C "__init__" qual st)(b:∀(da doc pm:ac1)(an:Option ada)(cv c_:ac1)(us:List ac1),us.length=ps.length→aiS (PySem.W.fnOf "__init__" qual (jA st) (gh st) (b1 st) .none da doc pm an cv c_) ⟨us,[]⟩=pure (ps.zip us)):InK K mg bY qual st ps:=by obtain⟨f,dP,an,cV,fo,da,jz,pm,cd,c_,a,l,c,k,i⟩:=F.ex;exact⟨⟨C,f,_,n,⟨mk,a,i,wh⟩,pF (st:=st) l c k,PySem.W.mg_of X G n,(pF (st:=st) l c k).binds b⟩⟩
set_option maxHeartbeats 4000000 in
theorem YO{K:PySem.W.Frag}{h:adX}{mg:Str→Option ac1}{hV:ada}{mF:ada}{ZU:ClassData}{mG:ada}{ZV:ClassData}{Yo:Tok}{Yp:Tok}{Yq:Tok}{Yr:Tok}{Ys:Tok}{yk:ada}{NL:Option ada}{T3:Nat}{XP:Array (Option ac1)}{Yt Yu Yv:Tok}{yl:ada}{NM:Option ada}{T4:Nat}{XQ:Array (Option ac1)}{Yw:Tok}{ym:ada}{NN:Option ada}{T5:Nat}{XR:Array (Option ac1)}{Yx Yy Yz YA:Tok}(X:K.In h)(G:h.Ns ado mg)(n_Net:PySem.W.nsIn K ado "Net"=some (some (.ref hV)))(g1_Net:PySem.W.plainGet K hV Str.empty=true)(g2_Net:PySem.W.hasDictIn K hV=true)(g3_Net:PySem.W.plainOver K hV=true)(g4_Net:PySem.W.findIn K (.ref hV) "__setattr__"=some (some (.builtin "object.__setattr__")))(u_Net_many:PySem.W.findIn K (.ref hV) "many"=some none)(u_Net_counts:PySem.W.findIn K (.ref hV) "counts"=some none)(u_Net_joined:PySem.W.findIn K (.ref hV) "joined"=some none)(u_Net_far:PySem.W.findIn K (.ref hV) "far"=some none)(mk_Net:PySem.W.makesIn K hV=true)(kc_Net:PySem.W.keepIn K (.ref hV)=true)(n_NoBooks:PySem.W.nsIn K ado "NoBooks"=some (some (.ref mF)))(ct_NoBooks:PySem.W.clsIn K mF=some ZU)(e1_NoBooks:PySem.W.excIn K mF [.type "ValueError",.type "Exception",.type "BaseException",.type "object"] "ValueError.__new__"=true)(ga_NoBooks:PySem.W.findIn K (.ref mF) "__getattribute__"=some (some (.builtin "BaseException.__getattribute__")))(gn_NoBooks:PySem.W.findIn K (.ref mF) "__getattr__"=some none)(cl_NoBooks:PySem.W.findIn K (.ref mF) "__class__"=some (some (.builtin "object.__class__")))(sb_NoBooks:PySem.W.subIn K (.ref mF) (.type "BaseException")=some true)(mo_NoBooks:PySem.W.mroIn K mF (.type "object")=some true)(n_NoPlan:PySem.W.nsIn K ado "NoPlan"=some (some (.ref mG)))(ct_NoPlan:PySem.W.clsIn K mG=some ZV)(e1_NoPlan:PySem.W.excIn K mG [.type "ValueError",.type "Exception",.type "BaseException",.type "object"] "ValueError.__new__"=true)(ga_NoPlan:PySem.W.findIn K (.ref mG) "__getattribute__"=some (some (.builtin "BaseException.__getattribute__")))(gn_NoPlan:PySem.W.findIn K (.ref mG) "__getattr__"=some none)(cl_NoPlan:PySem.W.findIn K (.ref mG) "__class__"=some (some (.builtin "object.__class__")))(sb_NoPlan:PySem.W.subIn K (.ref mG) (.type "BaseException")=some true)(mo_NoPlan:PySem.W.mroIn K mG (.type "object")=some true)(spc0:PySem.W.specialIn K (.builtin "object.__class__") "__get__"=some (some (.builtin "getset_descriptor.__get__")))(tkc0:PySem.W.takesIn K (.builtin "object.__class__")=some true)(h0:di K "_law_draws" Cv)(h1:di K "_law_net" CB)(h2:di K "_law_cell_at" Cu)(h3:di K "is_whole" Cn)(h4:di K "is_whole_within" Co)(h5:di K "are_counts" B5)(h6:di K "is_pair" Cf)(h7:di K "is_door_among" Cd)(h8:di K "is_wire_among" Cp)(h9:di K "far_doors" B6)(h10:o3 K hV "__init__" "Net.__init__" B2)(h11:di K "_law_row" CH)(h12:di K "_law_book" Cs)(h13:di K "_law_books" Ct)(h14:di K "_law_mixed" CA)(h15:di K "_law_new_books" CC)(h16:di K "_law_outer" CE)(h17:di K "_law_signs" CI)(h18:di K "_law_is_like" Cz)(h19:di K "_law_out" CD)(h20:di K "_law_beyond" Cr)(h21:di K "_law_road" CG)(h22:di K "_law_houses" Cy)(h23:di K "_law_plan" CF)(h24:di K "_law_turned" CJ)(h25:di K "_law_forgot" Cx)(h26:di K "_law_due" Cw)(h27:di K "is_pattern" Cg)(h28:di K "is_number_or_none" Ce)(h29:di K "is_row" Cj)(h30:di K "is_book" Cb)(h31:o3 K hV "count" "Net.count" B1)(h32:di K "is_books" Cc)(h33:di K "refuse_unless_books" CN)(h34:di K "is_step" Ck)(h35:di K "is_plan" Ci)(h36:di K "refuse_unless_plan" CO)(h37:o3 K hV "outer" "Net.outer" B3)(h38:di K "is_address" Ca)(h39:di K "fits" B9)(h40:di K "addresses" B4)(h41:di K "first_untaught" B8)(h42:di K "taken" CP)(h43:o3 K hV "beyond" "Net.beyond" B0)(h44:di K "onward" CM)(h45:di K "walked" CQ)(h46:di K "is_waited_for" Cm)(h47:di K "house_at_fault" B_)(h48:di K "least_fault" CL)(h49:di K "fault" B7)(h50:di K "_law_whole" CK)(h51:di K "_law_alike" Cq)(h52:di K "law" oI)(z_all:PySem.W.nsIn K ado "all"=some none)(z_bool:PySem.W.nsIn K ado "bool"=some none)(z_enumerate:PySem.W.nsIn K ado "enumerate"=some none)(z_int:PySem.W.nsIn K ado "int"=some none)(z_isinstance:PySem.W.nsIn K ado "isinstance"=some none)(z_len:PySem.W.nsIn K ado "len"=some none)(z_list:PySem.W.nsIn K ado "list"=some none)(z_max:PySem.W.nsIn K ado "max"=some none)(z_range:PySem.W.nsIn K ado "range"=some none)(z_set:PySem.W.nsIn K ado "set"=some none)(z_sorted:PySem.W.nsIn K ado "sorted"=some none)(z_str:PySem.W.nsIn K ado "str"=some none)(z_tuple:PySem.W.nsIn K ado "tuple"=some none)(z_zip:PySem.W.nsIn K ado "zip"=some none)(z_GREATEST_ADDRESS:PySem.W.nsIn K ado "GREATEST_ADDRESS"=some (some (.int 15 Yo)))(z_MOST_DOORS:PySem.W.nsIn K ado "MOST_DOORS"=some (some (.int 4 Yp)))(z_MOST_HOUSES:PySem.W.nsIn K ado "MOST_HOUSES"=some (some (.int 6 Yq)))(z_MOST_ROWS:PySem.W.nsIn K ado "MOST_ROWS"=some (some (.int 12 Yr)))(z_MOST_STEPS:PySem.W.nsIn K ado "MOST_STEPS"=some (some (.int 40 Ys)))(z_SIGNS:PySem.W.nsIn K ado "SIGNS"=some (some (.ref yk)))(y_SIGNS:K.lookup yk=some ⟨.type "tuple",NL,.seq #[.str (PySem.Str.ofString "0") Yt,.str (PySem.Str.ofString "1") Yu,.str (PySem.Str.ofString "x") Yv] T3,XP⟩)(z_WAIT:PySem.W.nsIn K ado "WAIT"=some (some (.ref yl)))(y_WAIT:K.lookup yl=some ⟨.type "tuple",NM,.seq #[.str (PySem.Str.ofString "wait") Yw] T4,XQ⟩)(z_WORTHS:PySem.W.nsIn K ado "WORTHS"=some (some (.ref ym)))(y_WORTHS:K.lookup ym=some ⟨.type "tuple",NN,.seq #[.int 8 Yx,.int 4 Yy,.int 2 Yz,.int 1 YA] T5,XR⟩):yH K mg where
 iU:=⟨hV,n_Net,⟨g1_Net,g2_Net,g3_Net,g4_Net⟩,(afA.2 ⟨u_Net_many,(afA.2 ⟨u_Net_counts,(afA.2 ⟨u_Net_joined,(afA.2 ⟨u_Net_far,(fun _ h=>absurd h aec)⟩)⟩)⟩)⟩)⟩
 Ly:=⟨⟨mF,n_NoBooks,PySem.W.mg_of X G n_NoBooks,e1_NoBooks⟩⟩
 Lz:=⟨⟨mG,n_NoPlan,PySem.W.mg_of X G n_NoPlan,e1_NoPlan⟩⟩
 F5:=du X G h0 fun _ _ _ _ _ _ us ai=>match us,ai with|[_,_],_=>rfl
 Ga:=du X G h1 fun _ _ _ _ _ _ us ai=>match us,ai with|[_],_=>rfl
 F4:=du X G h2 fun _ _ _ _ _ _ us ai=>match us,ai with|[_,_],_=>rfl
 FX:=du X G h3 fun _ _ _ _ _ _ us ai=>match us,ai with|[_],_=>rfl
 FY:=du X G h4 fun _ _ _ _ _ _ us ai=>match us,ai with|[_,_,_],_=>rfl
 FE:=du X G h5 fun _ _ _ _ _ _ us ai=>match us,ai with|[_],_=>rfl
 FQ:=du X G h6 fun _ _ _ _ _ _ us ai=>match us,ai with|[_],_=>rfl
 FO:=du X G h7 fun _ _ _ _ _ _ us ai=>match us,ai with|[_,_],_=>rfl
 FZ:=du X G h8 fun _ _ _ _ _ _ us ai=>match us,ai with|[_,_],_=>rfl
 FF:=du X G h9 fun _ _ _ _ _ _ us ai=>match us,ai with|[_,_],_=>rfl
 FA:=TP X G n_Net mk_Net kc_Net h10 fun _ _ _ _ _ _ us ai=>match us,ai with|[_,_,_],_=>rfl
 Gh:=du X G h11 fun _ _ _ _ _ _ us ai=>match us,ai with|[_,_],_=>rfl
 F2:=du X G h12 fun _ _ _ _ _ _ us ai=>match us,ai with|[_,_],_=>rfl
 F3:=du X G h13 fun _ _ _ _ _ _ us ai=>match us,ai with|[_,_,_],_=>rfl
 F_:=du X G h14 fun _ _ _ _ _ _ us ai=>match us,ai with|[_,_],_=>rfl
 Gb:=du X G h15 fun _ _ _ _ _ _ us ai=>match us,ai with|[_,_,_],_=>rfl
 Ge:=du X G h16 fun _ _ _ _ _ _ us ai=>match us,ai with|[_],_=>rfl
 Gi:=du X G h17 fun _ _ _ _ _ _ us ai=>match us,ai with|[_],_=>rfl
 F9:=du X G h18 fun _ _ _ _ _ _ us ai=>match us,ai with|[_,_],_=>rfl
 Gd:=du X G h19 fun _ _ _ _ _ _ us ai=>match us,ai with|[_,_,_],_=>rfl
 F1:=du X G h20 fun _ _ _ _ _ _ us ai=>match us,ai with|[_,_],_=>rfl
 Gg:=du X G h21 fun _ _ _ _ _ _ us ai=>match us,ai with|[_,_,_,_],_=>rfl
 F8:=du X G h22 fun _ _ _ _ _ _ us ai=>match us,ai with|[_,_],_=>rfl
 Gf:=du X G h23 fun _ _ _ _ _ _ us ai=>match us,ai with|[_,_],_=>rfl
 Gj:=du X G h24 fun _ _ _ _ _ _ us ai=>match us,ai with|[_,_,_],_=>rfl
 F7:=du X G h25 fun _ _ _ _ _ _ us ai=>match us,ai with|[_,_,_],_=>rfl
 F6:=du X G h26 fun _ _ _ _ _ _ us ai=>match us,ai with|[_,_,_],_=>rfl
 FR:=du X G h27 fun _ _ _ _ _ _ us ai=>match us,ai with|[_],_=>rfl
 FP:=du X G h28 fun _ _ _ _ _ _ us ai=>match us,ai with|[_,_],_=>rfl
 FU:=du X G h29 fun _ _ _ _ _ _ us ai=>match us,ai with|[_,_],_=>rfl
 FL:=du X G h30 fun _ _ _ _ _ _ us ai=>match us,ai with|[_,_],_=>rfl
 Fz:=Bp n_Net g1_Net g2_Net g3_Net g4_Net h31 fun _ _ _ _ _ _ us ai=>match us,ai with|[_,_],_=>rfl
 FN:=du X G h32 fun _ _ _ _ _ _ us ai=>match us,ai with|[_,_],_=>rfl
 Gp:=du X G h33 fun _ _ _ _ _ _ us ai=>match us,ai with|[_,_],_=>rfl
 FV:=du X G h34 fun _ _ _ _ _ _ us ai=>match us,ai with|[_,_],_=>rfl
 FT:=du X G h35 fun _ _ _ _ _ _ us ai=>match us,ai with|[_,_],_=>rfl
 Gq:=du X G h36 fun _ _ _ _ _ _ us ai=>match us,ai with|[_,_,_,_],_=>rfl
 FC:=Bp n_Net g1_Net g2_Net g3_Net g4_Net h37 fun _ _ _ _ _ _ us ai=>match us,ai with|[_],_=>rfl
 FK:=du X G h38 fun _ _ _ _ _ _ us ai=>match us,ai with|[_],_=>rfl
 FI:=du X G h39 fun _ _ _ _ _ _ us ai=>match us,ai with|[_,_],_=>rfl
 FD:=du X G h40 fun _ _ _ _ _ _ us ai=>match us,ai with|[_],_=>rfl
 FH:=du X G h41 fun _ _ _ _ _ _ us ai=>match us,ai with|[_,_],_=>rfl
 Gr:=du X G h42 fun _ _ _ _ _ _ us ai=>match us,ai with|[_,_,_],_=>rfl
 Fy:=Bp n_Net g1_Net g2_Net g3_Net g4_Net h43 fun _ _ _ _ _ _ us ai=>match us,ai with|[_,_],_=>rfl
 Gn:=du X G h44 fun _ _ _ _ _ _ us ai=>match us,ai with|[_,_,_,_],_=>rfl
 Gs:=du X G h45 fun _ _ _ _ _ _ us ai=>match us,ai with|[_,_,_,_],_=>rfl
 FW:=du X G h46 fun _ _ _ _ _ _ us ai=>match us,ai with|[_,_],_=>rfl
 FJ:=du X G h47 fun _ _ _ _ _ _ us ai=>match us,ai with|[_,_,_,_,_,_,_],_=>rfl
 Gl:=du X G h48 fun _ _ _ _ _ _ us ai=>match us,ai with|[_,_,_,_],_=>rfl
 FG:=du X G h49 fun _ _ _ _ _ _ us ai=>match us,ai with|[_,_,_,_],_=>rfl
 Gk:=du X G h50 fun _ _ _ _ _ _ us ai=>match us,ai with|[_],_=>rfl
 F0:=du X G h51 fun _ _ _ _ _ _ us ai=>match us,ai with|[_,_],_=>rfl
 OI:=du X G h52 fun _ _ _ _ _ _ us ai=>match us,ai with|[_],_=>rfl
 mT:=PySem.W.mg_none_of X G z_all
 yW:=PySem.W.mg_none_of X G z_bool
 ve:=PySem.W.mg_none_of X G z_enumerate
 vg:=PySem.W.mg_none_of X G z_int
 hH:=PySem.W.mg_none_of X G z_isinstance
 eO:=PySem.W.mg_none_of X G z_len
 ja:=PySem.W.mg_none_of X G z_list
 zw:=PySem.W.mg_none_of X G z_max
 hy:=PySem.W.mg_none_of X G z_range
 EC:=PySem.W.mg_none_of X G z_set
 zz:=PySem.W.mg_none_of X G z_sorted
 sA:=PySem.W.mg_none_of X G z_str
 nY:=PySem.W.mg_none_of X G z_tuple
 zB:=PySem.W.mg_none_of X G z_zip
 n0:=⟨⟨_,_,PySem.W.mg_of X G z_GREATEST_ADDRESS,(nt _ _),fun _=>(mS _)⟩⟩
 qL:=⟨⟨_,_,PySem.W.mg_of X G z_MOST_DOORS,(nt _ _),fun _=>(mS _)⟩⟩
 pf:=⟨⟨_,_,PySem.W.mg_of X G z_MOST_HOUSES,(nt _ _),fun _=>(mS _)⟩⟩
 qM:=⟨⟨_,_,PySem.W.mg_of X G z_MOST_ROWS,(nt _ _),fun _=>(mS _)⟩⟩
 qN:=⟨⟨_,_,PySem.W.mg_of X G z_MOST_STEPS,(nt _ _),fun _=>(mS _)⟩⟩
 qO:=⟨⟨.ref yk,_,PySem.W.mg_of X G z_SIGNS,rfl,Dn y_SIGNS (afn rfl) (.cons (xq _ _) (.cons (xq _ _) (.cons (xq _ _) .nil))) fun _=>(.cons (u9 _) (.cons (u9 _) (.cons (u9 _) .nil)))⟩⟩
 iJ:=⟨⟨.ref yl,_,PySem.W.mg_of X G z_WAIT,rfl,Dn y_WAIT (afn rfl) (.cons (xq _ _) .nil) fun _=>(.cons (u9 _) .nil)⟩⟩
 n3:=⟨⟨.ref ym,_,PySem.W.mg_of X G z_WORTHS,rfl,Dn y_WORTHS (afn rfl) (.cons (nt _ _) (.cons (nt _ _) (.cons (nt _ _) (.cons (nt _ _) .nil)))) fun _=>(.cons (mS _) (.cons (mS _) (.cons (mS _) (.cons (mS _) .nil))))⟩⟩
set_option maxHeartbeats 4000000 in
theorem all_mk{l:PySem.W.OpenLaw}{w:adJ}{K:PySem.W.Frag}{h:adX}{mg:Str→Option ac1}{fu:ada}(X:K.In h)(G:h.Ns ado mg)(Px:mg "law"=some (.ref fu))(F:di K "law" oI)(T:yH K mg) :
  ∃fd:aet,(∀(s:ac4)(v:ac1),BindsTo s fd ⟨[v],[]⟩ [("_law_script",v)])∧∀base:adX,K.In base→base.Ns ado mg→hr l.prog w K mg base g7 11 fu fd ["_law_script"] (lE K 1 pZ):=by
 obtain⟨f,dP,an,cV,fo,da,jz,pm,cd,c_,a,lk,c,k⟩:=F.ex;have e:=Px.symm.trans (PySem.W.mg_of X G a);cases e;exact⟨_,fun s v=>.of_eq rfl,fun base _ _=>Zw (pF (st:=oI) lk c k) kv (MY T)⟩
theorem S7(K:PySem.W.Frag)(H:ah)(a:ada)(ns:List Int)(iN:b7 K H a (ns.map V.int)):lE K 1 pZ [.ref a] H (fun v _=>v=.aF true) (fun _ _ _=>False):=
 S5 (K:=K) (mf:=pZ) (H:=H) (a:=a) (ns:=ns) iN (S6 ns) (fun _ _ _=>False)
theorem Zb {l:PySem.W.OpenLaw} {q:adp} {loose:List Str} {qG:(Str→Option ac1)→adX→Prop} {nV:adJ→adX→Prop} {d:DefRec} {K:Params→PySem.W.Frag} (aK:l.most=some 63) (sZ:d.params.defaults=[])(Am:∀(w:adJ)(h:adX),nV w h→(K w.params).In h)(F:∀(w:adJ)(mg:Str→Option ac1)(fu:ada)(h:adX),(K w.params).In h→h.Ns ado mg→mg d.name=some (.ref fu)→
    ∃fd:aet,(∀(s:ac4)(u:ac1),BindsTo s fd ⟨[u],[]⟩ [("_law_script",u)])∧∀base:adX,(K w.params).In base→base.Ns ado mg→hr l.prog w (K w.params) mg base g7 11 fu fd ["_law_script"] (lE (K w.params) 1 pZ)) :
  PySem.W.WalkO q loose qG nV l.row.toRowW d [] (fun f vs=>PySem.call f vs):=
 a3.Zc (n:=63) (k:=11) (x:="_law_script") (CX:=fun _=>g7) (sp:=fun w=>lE (K w.params) 1 pZ) aK (by decide) sZ ⟨rfl,by decide,by decide⟩ Am F (fun w H a ns _ _ iN=>S7 (K w.params) H a ns iN) fun _ _ _ _ _ z=>z
end bS
end
namespace PySem.W.Fast
theorem tw16544049419803587686 : True := trivial
theorem tw12960987031721990378 : True := trivial
theorem tw10376047498909874240 : True := trivial
theorem tw11153417013591704943 : True := trivial
theorem tw128395386362236028 : True := trivial
theorem tw9589481058955670005 : True := trivial
theorem tw2140886252575238074 : True := trivial
theorem tw13582225233223343831 : True := trivial
theorem tw15413379817077843152 : True := trivial
theorem tw153778681383488706 : True := trivial
theorem tw3990883429017974470 : True := trivial
theorem tw6269298249073956728 : True := trivial
theorem tw13551689207467706448 : True := trivial
theorem tw16953886884089997787 : True := trivial
theorem tw16697884654731201443 : True := trivial
theorem tw4168032133341628784 : True := trivial
theorem tw4460751728015235265 : True := trivial
theorem tw6340189575740092416 : True := trivial
theorem tw10698182867786332346 : True := trivial
theorem tw7268094428804154222 : True := trivial
theorem tw344054934379149490 : True := trivial
theorem tw7533807126418063533 : True := trivial
theorem tw4968914538372506928 : True := trivial
theorem tw2617486490101568456 : True := trivial
theorem tw9844174824506831529 : True := trivial
theorem tw5908690543134006224 : True := trivial
theorem tw9031316395694268675 : True := trivial
theorem tw11512229556886635862 : True := trivial
theorem tw3371453648075166743 : True := trivial
theorem tw11504995125027256287 : True := trivial
theorem tw304532102373639368 : True := trivial
theorem tw8993613485854871918 : True := trivial
theorem tw11319267786755303603 : True := trivial
theorem tw16758013123603753855 : True := trivial
theorem tw16110327121441463039 : True := trivial
theorem tw1187223462878882874 : True := trivial
theorem tw2114954986453702598 : True := trivial
theorem tw10387286988113240723 : True := trivial
theorem tw3389905653095940709 : True := trivial
theorem tw11300230015750722305 : True := trivial
theorem tw7487990854336314631 : True := trivial
theorem tw15903515157926985109 : True := trivial
theorem tw9519547521391946919 : True := trivial
theorem tw16037827007976040150 : True := trivial
theorem tw12857116044777422985 : True := trivial
theorem tw17891928419238418815 : True := trivial
theorem tw7644310723393368333 : True := trivial
theorem tw8228967020280050120 : True := trivial
theorem tw6401572043626316915 : True := trivial
theorem tw4118253404820302320 : True := trivial
theorem tw6591038899114055695 : True := trivial
theorem tw12799853529108183658 : True := trivial
theorem tw4727810568023857532 : True := trivial
theorem tw17029636704698835423 : True := trivial
theorem tw1244616677339165698 : True := trivial
theorem tw8311364480861505626 : True := trivial
theorem tw15867520575312128548 : True := trivial
theorem tw10015848842559413046 : True := trivial
theorem tw12490329309463944173 : True := trivial
theorem tw15763381285386993260 : True := trivial
theorem tw13791789862061760368 : True := trivial
theorem tw9356010352598590520 : True := trivial
theorem tw766017290061875323 : True := trivial
theorem tw17835113988218612020 : True := trivial
theorem tw13003876390900789496 : True := trivial
theorem tw224913770665840029 : True := trivial
theorem tw820507390411253008 : True := trivial
theorem tw1193646318692671604 : True := trivial
theorem tw680667726410696049 : True := trivial
theorem tw660954354444319347 : True := trivial
theorem tw6174333003520151457 : True := trivial
theorem tw16574666193696506541 : True := trivial
theorem tw10044094676447818213 : True := trivial
theorem tw3509016120027066558 : True := trivial
theorem tw1688733548390302007 : True := trivial
theorem tw16480201544679633340 : True := trivial
theorem tw12325259007043575807 : True := trivial
theorem tw5630755079153403499 : True := trivial
theorem tw11214361036805206579 : True := trivial
theorem tw4573858116527309701 : True := trivial
theorem tw1631466849509923400 : True := trivial
theorem tw9533751706451534293 : True := trivial
theorem tw7027766568193325790 : True := trivial
theorem tw12083238688218714021 : True := trivial
theorem tw12536891304652867046 : True := trivial
theorem tw2035445671166675306 : True := trivial
theorem tw9582457936913116365 : True := trivial
theorem tw17028256073155881759 : True := trivial
theorem tw4645578968454587120 : True := trivial
theorem tw15631983376637288209 : True := trivial
theorem tw9701026202283450367 : True := trivial
theorem tw15089099390230882686 : True := trivial
theorem tw3596490789578657364 : True := trivial
theorem tw5152865836791375889 : True := trivial
theorem tw3681849559702680099 : True := trivial
theorem tw8673864896355550079 : True := trivial
theorem tw17809812646698102740 : True := trivial
theorem tw17953015906896525247 : True := trivial
theorem tw8191946293211881108 : True := trivial
theorem tw10531462183688936487 : True := trivial
theorem tw5824752181893496590 : True := trivial
theorem tw2098465735305540538 : True := trivial
theorem tw14120726697659182292 : True := trivial
theorem tw2621006601082739518 : True := trivial
theorem tw2628251679955205735 : True := trivial
theorem tw17931886715218062169 : True := trivial
theorem tw14041877240651164888 : True := trivial
theorem tw5830863042785606164 : True := trivial
theorem tw5560965969284424957 : True := trivial
theorem tw3835962646078111004 : True := trivial
theorem tw12140980983048555264 : True := trivial
theorem tw18290960274324485751 : True := trivial
theorem tw8505984869851949309 : True := trivial
theorem tw10656901654608730548 : True := trivial
theorem tw6067114174285169748 : True := trivial
theorem tw6743419238412565587 : True := trivial
theorem tw13176671810022337490 : True := trivial
theorem tw16222006182736332538 : True := trivial
theorem tw12974866644424805787 : True := trivial
theorem tw4952941831103833229 : True := trivial
theorem tw14063440461937366103 : True := trivial
theorem tw15896672302379346097 : True := trivial
theorem tw147180875211920103 : True := trivial
theorem tw2583236313177014778 : True := trivial
theorem tw16315041144663648294 : True := trivial
theorem tw13723128010737806309 : True := trivial
theorem tw12572585979257821455 : True := trivial
theorem tw5001340697568602309 : True := trivial
theorem tw2045234461450477406 : True := trivial
theorem tw2479877709817816792 : True := trivial
theorem tw5427338225160180638 : True := trivial
theorem tw17376079411342694098 : True := trivial
theorem tw13154555307288934217 : True := trivial
theorem tw12378701754441845335 : True := trivial
theorem tw16764095221110580853 : True := trivial
theorem tw10322000629890719104 : True := trivial
theorem tw9377403920535516482 : True := trivial
theorem tw4623733498934561580 : True := trivial
theorem tw9428455527269128014 : True := trivial
theorem tw11930737850048184242 : True := trivial
theorem tw12984310148748722359 : True := trivial
theorem tw9979095374987742741 : True := trivial
theorem tw8539191184436736527 : True := trivial
theorem tw14282728335581532334 : True := trivial
theorem tw1655975894791218974 : True := trivial
theorem tw7564483240773639161 : True := trivial
theorem tw16417286984820308729 : True := trivial
theorem tw14125489996434779222 : True := trivial
theorem tw6595007853166359113 : True := trivial
theorem tw6277485570693973396 : True := trivial
theorem tw1834462049469858527 : True := trivial
theorem tw3504606720180462404 : True := trivial
theorem tw16313400725235456318 : True := trivial
theorem tw12560917680089080121 : True := trivial
theorem tw16713642065956456998 : True := trivial
theorem tw6133915044217931962 : True := trivial
theorem tw2784727872666813877 : True := trivial
theorem tw8760681269253947859 : True := trivial
theorem tw9111073289507744035 : True := trivial
theorem tw15713083072613697385 : True := trivial
theorem tw7299378985320287183 : True := trivial
theorem tw2330133302105264912 : True := trivial
theorem tw14532854029884602431 : True := trivial
theorem tw7284305821890181672 : True := trivial
theorem tw5295575377012489051 : True := trivial
theorem tw12057370783860703649 : True := trivial
theorem tw1894496548065508340 : True := trivial
theorem tw12214365882936841958 : True := trivial
theorem tw1053085433898292625 : True := trivial
theorem tw11346550341894007095 : True := trivial
theorem tw17546749991142939465 : True := trivial
theorem tw7835573356997464521 : True := trivial
theorem tw15779056222516359295 : True := trivial
theorem tw11633809291281430186 : True := trivial
theorem tw12322746486756204880 : True := trivial
theorem tw14211906271294197126 : True := trivial
theorem tw8776158521458210678 : True := trivial
theorem tw13900329815879089738 : True := trivial
theorem tw12398901860066060435 : True := trivial
theorem tw15173498428942152957 : True := trivial
theorem tw11610546015436503819 : True := trivial
theorem tw8713594637697024342 : True := trivial
theorem tw8106017143503778722 : True := trivial
theorem tw14383021708567667603 : True := trivial
theorem tw3551357286157424495 : True := trivial
theorem tw9725234094568459400 : True := trivial
theorem tw9813642504410389113 : True := trivial
theorem tw10132883037811376252 : True := trivial
theorem tw6057616756979265806 : True := trivial
theorem tw7633144515128019603 : True := trivial
theorem tw5359875315973105962 : True := trivial
theorem tw9212986727930058022 : True := trivial
theorem tw12494846819458743423 : True := trivial
theorem tw11039092867082817756 : True := trivial
theorem tw6509274659325303865 : True := trivial
theorem tw6125530134853124594 : True := trivial
theorem tw2224165605166734759 : True := trivial
theorem tw14064506239672487846 : True := trivial
theorem tw15123650805386786745 : True := trivial
theorem tw6437024640906199405 : True := trivial
theorem tw2138724282544648672 : True := trivial
theorem tw3042505642593934429 : True := trivial
theorem tw5128122422237608962 : True := trivial
theorem tw2328206527248841806 : True := trivial
theorem tw10655141649412918102 : True := trivial
theorem tw4879408194356579666 : True := trivial
theorem tw12905160121091775937 : True := trivial
theorem tw4138750622558579898 : True := trivial
theorem tw8804120609260377122 : True := trivial
theorem tw17971265671754779725 : True := trivial
theorem tw17960069934779843169 : True := trivial
theorem tw3611111142791472598 : True := trivial
theorem tw3782712086074720161 : True := trivial
theorem tw18415089293404710905 : True := trivial
theorem tw13768435494564397256 : True := trivial
theorem tw16934736833316831818 : True := trivial
theorem tw2466889226126661734 : True := trivial
theorem tw6940967222063866527 : True := trivial
theorem tw14611698457102646834 : True := trivial
theorem tw12799939934016419420 : True := trivial
theorem tw17915983584678526972 : True := trivial
theorem tw14226324513730008329 : True := trivial
theorem tw10109167527033394216 : True := trivial
theorem tw12552620392762706719 : True := trivial
theorem tw17663026372281664236 : True := trivial
theorem tw16885181536151616315 : True := trivial
theorem tw2564846733222738722 : True := trivial
theorem tw11664230370238023310 : True := trivial
theorem tw10806624729875098079 : True := trivial
theorem tw11708842947883894869 : True := trivial
theorem tw10276857236898764287 : True := trivial
theorem tw7803412035522769387 : True := trivial
theorem tw5615926645781493400 : True := trivial
theorem tw1232219640195566035 : True := trivial
theorem tw7946006631893112453 : True := trivial
theorem tw2051288677737402514 : True := trivial
theorem tw18250735237725304644 : True := trivial
theorem tw6468712776718235 : True := trivial
theorem tw10324232381331120843 : True := trivial
theorem tw8363692498667044205 : True := trivial
theorem tw9072766528475151192 : True := trivial
theorem tw7463226082487147220 : True := trivial
theorem tw5618282716510494256 : True := trivial
theorem tw2033829673707193940 : True := trivial
theorem tw12973654048564953357 : True := trivial
theorem tw16974512097404879578 : True := trivial
theorem tw2465693899311491146 : True := trivial
theorem tw3076794183480110790 : True := trivial
theorem tw2901228300209770359 : True := trivial
theorem tw13800288630448100084 : True := trivial
theorem tw6955755272839217841 : True := trivial
theorem tw15340311581464949694 : True := trivial
theorem tw10793685234821742047 : True := trivial
theorem tw12407098646751492127 : True := trivial
theorem tw15388898926010336416 : True := trivial
theorem tw15650496065990633354 : True := trivial
theorem tw8553275541690145069 : True := trivial
theorem tw10192051140244267580 : True := trivial
theorem tw15053369019199678574 : True := trivial
theorem tw4999737184497192215 : True := trivial
theorem tw12309020622034836400 : True := trivial
theorem tw7479032158550315214 : True := trivial
theorem tw7618679250999396472 : True := trivial
theorem tw7833277982051675116 : True := trivial
theorem tw4197121395649141942 : True := trivial
theorem tw11735818073748186596 : True := trivial
theorem tw9400364282428427979 : True := trivial
theorem tw2409893146405631662 : True := trivial
theorem tw8840551106874684575 : True := trivial
end PySem.W.Fast
open PySem PySem.W PyProof.Rows
set_option maxRecDepth 100000 in
set_option maxHeartbeats 0 in
theorem PySem.Challenge.cw_nohalfway_k22_faults_by_formula_holds : PySem.Challenge.rw_nohalfway_k22_faults_by_formula.Holds := by
 w_on;o_law;k_head;(case hw=>w_witness2)
 k_fill
 refine bS.Zb (l:=PySem.Challenge.rw_nohalfway_k22_faults_by_formula) rfl rfl (fun w h Y=>PySem.W.kIn_of Y) ?F
 case F=>
  intro w mg fu h kM G s_
  refine' bS.all_mk kM G s_ ?h52 (bS.YO kM G ?n_Net ?g1_Net ?g2_Net ?g3_Net ?g4_Net ?u_Net_many ?u_Net_counts ?u_Net_joined ?u_Net_far ?mk_Net ?kc_Net ?n_NoBooks ?ct_NoBooks ?e1_NoBooks ?ga_NoBooks ?gn_NoBooks ?cl_NoBooks ?sb_NoBooks ?mo_NoBooks ?n_NoPlan ?ct_NoPlan ?e1_NoPlan ?ga_NoPlan ?gn_NoPlan ?cl_NoPlan ?sb_NoPlan ?mo_NoPlan ?spc0 ?tkc0 ?h0 ?h1 ?h2 ?h3 ?h4 ?h5 ?h6 ?h7 ?h8 ?h9 ?h10 ?h11 ?h12 ?h13 ?h14 ?h15 ?h16 ?h17 ?h18 ?h19 ?h20 ?h21 ?h22 ?h23 ?h24 ?h25 ?h26 ?h27 ?h28 ?h29 ?h30 ?h31 ?h32 ?h33 ?h34 ?h35 ?h36 ?h37 ?h38 ?h39 ?h40 ?h41 ?h42 ?h43 ?h44 ?h45 ?h46 ?h47 ?h48 ?h49 ?h50 ?h51 ?h52 ?z_all ?z_bool ?z_enumerate ?z_int ?z_isinstance ?z_len ?z_list ?z_max ?z_range ?z_set ?z_sorted ?z_str ?z_tuple ?z_zip ?z_GREATEST_ADDRESS ?z_MOST_DOORS ?z_MOST_HOUSES ?z_MOST_ROWS ?z_MOST_STEPS ?z_SIGNS ?y_SIGNS ?z_WAIT ?y_WAIT ?z_WORTHS ?y_WORTHS)
  (case n_Net=>k_is)
  (case g1_Net=>k_is)
  (case g2_Net=>k_is)
  (case g3_Net=>k_is)
  (case g4_Net=>k_is)
  (case u_Net_many=>k_is)
  (case u_Net_counts=>k_is)
  (case u_Net_joined=>k_is)
  (case u_Net_far=>k_is)
  (case mk_Net=>k_is)
  (case kc_Net=>k_is)
  (case n_NoBooks=>k_is)
  (case ct_NoBooks=>k_is)
  (case e1_NoBooks=>k_exc)
  (case ga_NoBooks=>k_is)
  (case gn_NoBooks=>k_is)
  (case cl_NoBooks=>k_is)
  (case sb_NoBooks=>k_is)
  (case mo_NoBooks=>k_is)
  (case n_NoPlan=>k_is)
  (case ct_NoPlan=>k_is)
  (case e1_NoPlan=>k_exc)
  (case ga_NoPlan=>k_is)
  (case gn_NoPlan=>k_is)
  (case cl_NoPlan=>k_is)
  (case sb_NoPlan=>k_is)
  (case mo_NoPlan=>k_is)
  (case spc0=>k_is)
  (case tkc0=>k_is)
  (case z_all=>k_is)
  (case z_bool=>k_is)
  (case z_enumerate=>k_is)
  (case z_int=>k_is)
  (case z_isinstance=>k_is)
  (case z_len=>k_is)
  (case z_list=>k_is)
  (case z_max=>k_is)
  (case z_range=>k_is)
  (case z_set=>k_is)
  (case z_sorted=>k_is)
  (case z_str=>k_is)
  (case z_tuple=>k_is)
  (case z_zip=>k_is)
  (case z_GREATEST_ADDRESS=>k_is)
  (case z_MOST_DOORS=>k_is)
  (case z_MOST_HOUSES=>k_is)
  (case z_MOST_ROWS=>k_is)
  (case z_MOST_STEPS=>k_is)
  (case z_SIGNS=>k_is)
  (case y_SIGNS=>k_is)
  (case z_WAIT=>k_is)
  (case y_WAIT=>k_is)
  (case z_WORTHS=>k_is)
  (case y_WORTHS=>k_is)
  (case h0=>(refine' bS.dv ?a ?l ?c ?k;(case a=>k_is);(case l=>k_is);(case c=>k_is);(case k=>k_is)))
  (case h1=>(refine' bS.dv ?a ?l ?c ?k;(case a=>k_is);(case l=>k_is);(case c=>k_is);(case k=>k_is)))
  (case h2=>(refine' bS.dv ?a ?l ?c ?k;(case a=>k_is);(case l=>k_is);(case c=>k_is);(case k=>k_is)))
  (case h3=>(refine' bS.dv ?a ?l ?c ?k;(case a=>k_is);(case l=>k_is);(case c=>k_is);(case k=>k_is)))
  (case h4=>(refine' bS.dv ?a ?l ?c ?k;(case a=>k_is);(case l=>k_is);(case c=>k_is);(case k=>k_is)))
  (case h5=>(refine' bS.dv ?a ?l ?c ?k;(case a=>k_is);(case l=>k_is);(case c=>k_is);(case k=>k_is)))
  (case h6=>(refine' bS.dv ?a ?l ?c ?k;(case a=>k_is);(case l=>k_is);(case c=>k_is);(case k=>k_is)))
  (case h7=>(refine' bS.dv ?a ?l ?c ?k;(case a=>k_is);(case l=>k_is);(case c=>k_is);(case k=>k_is)))
  (case h8=>(refine' bS.dv ?a ?l ?c ?k;(case a=>k_is);(case l=>k_is);(case c=>k_is);(case k=>k_is)))
  (case h9=>(refine' bS.dv ?a ?l ?c ?k;(case a=>k_is);(case l=>k_is);(case c=>k_is);(case k=>k_is)))
  (case h10=>(refine' bS.wX ?a ?l ?c ?k ?i;(case a=>k_is);(case l=>k_is);(case c=>k_is);(case k=>k_is);(case i=>k_is)))
  (case h11=>(refine' bS.dv ?a ?l ?c ?k;(case a=>k_is);(case l=>k_is);(case c=>k_is);(case k=>k_is)))
  (case h12=>(refine' bS.dv ?a ?l ?c ?k;(case a=>k_is);(case l=>k_is);(case c=>k_is);(case k=>k_is)))
  (case h13=>(refine' bS.dv ?a ?l ?c ?k;(case a=>k_is);(case l=>k_is);(case c=>k_is);(case k=>k_is)))
  (case h14=>(refine' bS.dv ?a ?l ?c ?k;(case a=>k_is);(case l=>k_is);(case c=>k_is);(case k=>k_is)))
  (case h15=>(refine' bS.dv ?a ?l ?c ?k;(case a=>k_is);(case l=>k_is);(case c=>k_is);(case k=>k_is)))
  (case h16=>(refine' bS.dv ?a ?l ?c ?k;(case a=>k_is);(case l=>k_is);(case c=>k_is);(case k=>k_is)))
  (case h17=>(refine' bS.dv ?a ?l ?c ?k;(case a=>k_is);(case l=>k_is);(case c=>k_is);(case k=>k_is)))
  (case h18=>(refine' bS.dv ?a ?l ?c ?k;(case a=>k_is);(case l=>k_is);(case c=>k_is);(case k=>k_is)))
  (case h19=>(refine' bS.dv ?a ?l ?c ?k;(case a=>k_is);(case l=>k_is);(case c=>k_is);(case k=>k_is)))
  (case h20=>(refine' bS.dv ?a ?l ?c ?k;(case a=>k_is);(case l=>k_is);(case c=>k_is);(case k=>k_is)))
  (case h21=>(refine' bS.dv ?a ?l ?c ?k;(case a=>k_is);(case l=>k_is);(case c=>k_is);(case k=>k_is)))
  (case h22=>(refine' bS.dv ?a ?l ?c ?k;(case a=>k_is);(case l=>k_is);(case c=>k_is);(case k=>k_is)))
  (case h23=>(refine' bS.dv ?a ?l ?c ?k;(case a=>k_is);(case l=>k_is);(case c=>k_is);(case k=>k_is)))
  (case h24=>(refine' bS.dv ?a ?l ?c ?k;(case a=>k_is);(case l=>k_is);(case c=>k_is);(case k=>k_is)))
  (case h25=>(refine' bS.dv ?a ?l ?c ?k;(case a=>k_is);(case l=>k_is);(case c=>k_is);(case k=>k_is)))
  (case h26=>(refine' bS.dv ?a ?l ?c ?k;(case a=>k_is);(case l=>k_is);(case c=>k_is);(case k=>k_is)))
  (case h27=>(refine' bS.dv ?a ?l ?c ?k;(case a=>k_is);(case l=>k_is);(case c=>k_is);(case k=>k_is)))
  (case h28=>(refine' bS.dv ?a ?l ?c ?k;(case a=>k_is);(case l=>k_is);(case c=>k_is);(case k=>k_is)))
  (case h29=>(refine' bS.dv ?a ?l ?c ?k;(case a=>k_is);(case l=>k_is);(case c=>k_is);(case k=>k_is)))
  (case h30=>(refine' bS.dv ?a ?l ?c ?k;(case a=>k_is);(case l=>k_is);(case c=>k_is);(case k=>k_is)))
  (case h31=>(refine' bS.wX ?a ?l ?c ?k ?i;(case a=>k_is);(case l=>k_is);(case c=>k_is);(case k=>k_is);(case i=>k_is)))
  (case h32=>(refine' bS.dv ?a ?l ?c ?k;(case a=>k_is);(case l=>k_is);(case c=>k_is);(case k=>k_is)))
  (case h33=>(refine' bS.dv ?a ?l ?c ?k;(case a=>k_is);(case l=>k_is);(case c=>k_is);(case k=>k_is)))
  (case h34=>(refine' bS.dv ?a ?l ?c ?k;(case a=>k_is);(case l=>k_is);(case c=>k_is);(case k=>k_is)))
  (case h35=>(refine' bS.dv ?a ?l ?c ?k;(case a=>k_is);(case l=>k_is);(case c=>k_is);(case k=>k_is)))
  (case h36=>(refine' bS.dv ?a ?l ?c ?k;(case a=>k_is);(case l=>k_is);(case c=>k_is);(case k=>k_is)))
  (case h37=>(refine' bS.wX ?a ?l ?c ?k ?i;(case a=>k_is);(case l=>k_is);(case c=>k_is);(case k=>k_is);(case i=>k_is)))
  (case h38=>(refine' bS.dv ?a ?l ?c ?k;(case a=>k_is);(case l=>k_is);(case c=>k_is);(case k=>k_is)))
  (case h39=>(refine' bS.dv ?a ?l ?c ?k;(case a=>k_is);(case l=>k_is);(case c=>k_is);(case k=>k_is)))
  (case h40=>(refine' bS.dv ?a ?l ?c ?k;(case a=>k_is);(case l=>k_is);(case c=>k_is);(case k=>k_is)))
  (case h41=>(refine' bS.dv ?a ?l ?c ?k;(case a=>k_is);(case l=>k_is);(case c=>k_is);(case k=>k_is)))
  (case h42=>(refine' bS.dv ?a ?l ?c ?k;(case a=>k_is);(case l=>k_is);(case c=>k_is);(case k=>k_is)))
  (case h43=>(refine' bS.wX ?a ?l ?c ?k ?i;(case a=>k_is);(case l=>k_is);(case c=>k_is);(case k=>k_is);(case i=>k_is)))
  (case h44=>(refine' bS.dv ?a ?l ?c ?k;(case a=>k_is);(case l=>k_is);(case c=>k_is);(case k=>k_is)))
  (case h45=>(refine' bS.dv ?a ?l ?c ?k;(case a=>k_is);(case l=>k_is);(case c=>k_is);(case k=>k_is)))
  (case h46=>(refine' bS.dv ?a ?l ?c ?k;(case a=>k_is);(case l=>k_is);(case c=>k_is);(case k=>k_is)))
  (case h47=>(refine' bS.dv ?a ?l ?c ?k;(case a=>k_is);(case l=>k_is);(case c=>k_is);(case k=>k_is)))
  (case h48=>(refine' bS.dv ?a ?l ?c ?k;(case a=>k_is);(case l=>k_is);(case c=>k_is);(case k=>k_is)))
  (case h49=>(refine' bS.dv ?a ?l ?c ?k;(case a=>k_is);(case l=>k_is);(case c=>k_is);(case k=>k_is)))
  (case h50=>(refine' bS.dv ?a ?l ?c ?k;(case a=>k_is);(case l=>k_is);(case c=>k_is);(case k=>k_is)))
  (case h51=>(refine' bS.dv ?a ?l ?c ?k;(case a=>k_is);(case l=>k_is);(case c=>k_is);(case k=>k_is)))
  (case h52=>(refine' bS.dv ?a ?l ?c ?k;(case a=>k_is);(case l=>k_is);(case c=>k_is);(case k=>k_is)))
