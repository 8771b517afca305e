import PyProof.Rows.All
import Wide.All
import OpenK.AllK
import Wide.FinOn
import Lean
import PyProof.EqAt
import PyProof.EqKinds
import PyProof.TupleCall
import PyProof.NeKinds
import KE.KIsAll
import PyProof.ExcArgsOwn
import PySem.SetOps
import PyProof.TupleKey
import PyProof.SetKind
import PyProof.IsRules
import PyProof.Rows.SetFrom
import PyProof.Rows.SortShellK
import PyProof.DictKinds
import PyProof.FactsAll.tuple_2
import PyProof.SetRoads
import PyProof.AutoListH
import PyProof.SumAny
import KE.RegKIsAll
import KE.RegKTryMore
import PySem.Challenge.RW_nohalfway_k05_ways_walked
open PySem.Heap renaming get?_push_of_some -> acS, lt_size -> acZ, get?_push_size -> ac2, size_push -> ado, SameBut -> aeQ, get?_update_other -> agz, get?_update_self -> agR
open List renaming getElem?_eq_getElem -> acT, size_toArray -> acY, getElem?_map -> ac4, getD_eq_getElem?_getD -> ac6, mem_cons_of_mem -> ac7, map_cons -> ac8, length_cons -> adf, mem_of_getElem? -> adg, getElem?_append_right -> adh, length_map -> adk, getElem?_append_left -> adl, mem_append_right -> adu, append_nil -> adz, length_append -> adA, getElem?_replicate -> adC, range -> adG, getElem?_set_ne -> adP, mem_cons_self -> adQ, getElem?_set_self -> adX, replicate -> adZ, find?_cons -> ad0, getElem?_cons_succ -> ad5, not_mem_nil -> ad7, drop_eq_getElem_cons -> ad9, length_replicate -> aea, length_nil -> aeb, getElem?_toArray -> aed, mem_append_left -> aeg, drop_eq_nil_of_le -> aen, zip_cons_cons -> aet, filterMap_cons -> aeD, any_cons -> aeE, mem_cons -> aeG, all_eq_true -> aeH, getElem_mem -> aeK, map_append -> aeU, map_map -> aeW, forall_mem_cons -> aeY, getElem?_zip_eq_some -> ae2, getElem_of_mem -> ae5, eraseIdx_cons_succ -> afc, all_cons -> afd, take_of_length_le -> afi, lookup -> afl, eraseIdxIfInBounds_toArray -> afp, eraseIdx_eq_take_drop_succ -> afq, append_assoc -> afr, take_add_one -> aft, length_singleton -> afv, map_nil -> afw, lookup_cons -> afC, zipIdx_cons -> afE, eq_nil_of_length_eq_zero -> afF, of_mem_zip -> afT, forIn_cons -> afU, getElem?_range -> afV, lookup_append -> af2, all_map -> af3, set_cons_zero -> af5, mem_singleton -> af7, nodup_nil -> af8, getElem?_set -> agf, getElem?_cons_zero -> agq, length_take -> agt, length_drop -> agv, length_pos_of_mem -> agK, zipIdx_nil -> ag6, dropLast_eq_take -> ag9, range_succ -> ahb, length_filter_le -> ahc, getElem?_zipIdx -> ahx, forIn_nil -> ahA
open PySem renaming wpAny_bind -> acU, Value -> acV, Shared -> acW, starEach -> acX, Addr -> ac1, wpAny_pure -> ac5, Program -> ac_, mainGlobals -> ada, sizeLine -> ade, wpAny -> adi, model -> adj, Around -> adp, Expr -> adq, World -> adB, backTo -> adF, behindInMarks -> adI, attributeBase -> adJ, wpAny_truthy_bool -> adK, foldedSetIterable -> adM, keywordEach -> adS, Heap -> adT, compareOp -> adV, eval -> adW, wpAny_mono -> adY, FuncData -> ad1, Stmt -> ad4, bootBuiltins -> ad6, cellsFrom -> ad8, Keyword -> aeh, wpAny_field -> aek, strIterType -> ael, backToKw -> aeq, IsPair -> aer, wpAny_setField_rec -> aes, wpAny_seqItems -> aev, Scope -> aew, assignEach -> aex, wpAny_passesOwn -> aey, cLine -> aeB, wpAny_callSpecial?_slot -> aeF, wpAny_call_entry -> aeI, wpAny_pyIter_zip -> aeJ, sysModules -> aeL, binaryOp -> aeM, wpAny_Call_Name_kw -> aeN, tupleKind_room_in1 -> aeO, sizeLine_eq -> aeR, wpAny_letOwnedTupleGo_zip -> ae1, NameKind -> ae4, wpAny_pyIter_tuple -> ae_, wpAny_pyIter_list -> afk, sliceBounds -> afo, swapsWith -> afu, holding -> afB, relabel -> afD, wpAny_updateSeq_pair -> afI, wpAny_holding -> afL, wpAny_rule -> afP, wpAny_execs_nil -> afR, letOwnedTupleGo -> afS, getMethod -> aga, call_meets -> agb, wpAny_newObj_type -> age, IsZip -> agn, wpAny_onRaise -> ago, assign -> agr, noFill_tuple_add -> agu, tupleKind -> agL, intKind -> agM, standAt -> agN, codeAny -> agO, codeAny_mono -> agP, seqIndex? -> agQ, intText? -> ahf, IsTupleKey -> ahg, newFunctionEnv -> ahz, subscripted -> ahB, notedBy -> ahC, Builtin -> ahM, PassesOwn -> ahS, callWith -> ahT, bindArgs -> ahU, valueAt -> ah2, callerA -> ah3, CmpOp -> aic
open Option.some renaming inj -> ac0, injEq -> ah7
open Nat renaming le_refl -> ac3, lt_of_lt_of_le -> adb, ne_of_lt -> adn, le_trans -> adt, lt_irrefl -> adU, zero_le -> aee, le_add_right -> aef, lt_trans -> aei, ne_of_gt -> aeC, le_of_lt -> ae7, zero_add -> ae9, le_succ -> afn, le_of_ble_eq_true -> afx, lt_succ_self -> ags, le_of_eq -> ah9
open Bool renaming not_false -> ac9, and_eq_true -> adm, false_ne_true -> adw, false_eq_true -> adx, eq_iff_iff -> aem, and_true -> afe, true_and -> afM, not_eq_true' -> agd, false_or -> agi, not_true -> agp, and_false -> ahy
open Or renaming inr -> ads, inl -> adN
open PySem.PassesOwn renaming never -> adv
open PyProof.Rows renaming envOfC -> ady, arrOf -> adD, callWith_type1 -> adL, wpS_bind -> adO, SortedToK -> ad3, wpS_pure -> ad_, IsTup -> aeP, SortSt -> ae3, pendingOf -> afy, wpS_forRange -> afz, seqObj -> afK, SortKind -> afO, kindOf -> af1, Call_ -> af4, pairsOf_size -> af6, AllBare -> agg, KK_mirror_equal -> ag_, listItems_at -> aha, mirror_perm -> ahN, wpS_reverse -> ahO, failedOf -> ahX, envOfC -> aib, Keyed -> aid
open PySem.Value renaming ref -> adE, type -> ae6, none -> afj, isInt_shape -> af9, bool -> af_, int -> aie, str -> aif
open PySem.Builtin.SmallTypes renaming nextOf -> adH, ownedTupleIsFree -> ad2, ownedTupleHandOut -> ae0
open PySem.NameKind renaming free -> adR
open ForInStep renaming yield -> aec
open False renaming elim -> aej
open PySem.F renaming slot_tuple_iterator_next -> aeo, args_object_init_3 -> afJ, args_tuple_iterator_next_1 -> afN, entry_tuple_iterator_next -> afX, slot_zip_next -> afY, typeCall_zip_2 -> agy, newCall_zip_2 -> ag7, entry_zip_new -> ag8
open PySem.Obj renaming mapSeq -> aep
open Int renaming emod_lt_of_pos -> aeu, toNat_natCast -> aez, emod_nonneg -> aeV, eq_ofNat_of_zero_le -> afg
open PyProof.Rows.KeyOrd renaming kle_refl -> aeA, kle_of_klt -> afs, kle_trans -> afG, kle_antisymm -> ahP
open Array renaming getElem?_toList -> aeS, length_toList -> afQ
open Classical renaming choose_spec -> aeT, choose -> agx
open True renaming intro -> aeX
open PySem.Data renaming cell -> aeZ, fields -> agh, seq -> ahd
open PySem.Builtin.List renaming listTooLong -> ae8, listItems -> agJ
open PySem.Builtin.Range renaming rangeSize -> afa
open PySem.Calls renaming spliced_cons -> afb, callWith_builtin -> afh, spliced_nil -> afm, evalArgs_plain -> afH, Name_function_global -> af0
open List.cons renaming injEq -> aff
open Ne renaming symm -> afA
open PySem.Builtin.Str renaming strSliceIndices -> afW
open Option renaming map_some -> afZ, isSome_map -> agc, getD_none -> agw, isSome_some -> ahV
open PySem.SeqAt.RcNeAt renaming none_tuple -> agj, bool_tuple -> agk, tuple_none -> agl, tuple_bool -> agm, none_list -> agA, bool_list -> agB, int_tuple -> agC, str_tuple -> agD, tuple_int -> agE, tuple_str -> agF, list_none -> agG, list_bool -> agH, int_list -> agX, str_list -> agY, list_int -> ag3, list_str -> ag4
open PySem.SeqAt renaming ne_of_list_tuple -> agI, RcNeAt -> agS, EqAt -> ahe, RcAt -> ah5
open PySem.SeqAt.EqAt renaming none_tuple -> agT, bool_tuple -> agV, tuple_none -> agZ, tuple_bool -> ag1, none_list -> ahh, bool_list -> ahj, int_tuple -> ahl, str_tuple -> ahn, tuple_int -> ahp, tuple_str -> ahr, list_none -> aht, list_bool -> ahv, int_list -> ahD, str_list -> ahF, list_int -> ahH, list_str -> ahJ, int_str -> ahQ, str_int -> ahR, same -> aih
open PySem.SeqAt.RcAt renaming none_tuple -> agU, bool_tuple -> agW, tuple_none -> ag0, tuple_bool -> ag2, none_list -> ahi, bool_list -> ahk, int_tuple -> ahm, str_tuple -> aho, tuple_int -> ahq, tuple_str -> ahs, list_none -> ahu, list_bool -> ahw, int_list -> ahE, str_list -> ahG, list_int -> ahI, list_str -> ahK
open PySem.Str renaming ofString -> ag5
open PySem.Heap.SameBut renaming update -> ahL
open PySem.Txt renaming slice -> ahW
open Prod.mk renaming injEq -> ahY
open PySem.Shared renaming TypeIs -> ahZ, heap -> aii
open Sum renaming inl -> ah0, inr -> ah1
open List.Pairwise renaming nil -> ah4
open PySem.Heap.IsTuple renaming push -> ah6
open PySem.Draws renaming list -> ah8
open PySem.Around renaming under -> ah_
open PySem.Code renaming isFrame -> aia
open Array.Perm renaming refl -> aij
set_option Elab.async false
set_option linter.all false
set_option maxRecDepth 100000
noncomputable section
namespace a7
open PySem PySem.Spec PyProof.Rows
abbrev Key:=Sum Int Str
def r3:Key→acV→Bool
 |.inl k,v=>Value.isInt k v
 |.inr x,v=>Value.isStrOf x v
def RO(w:adB):Key→Int
 |.inl k=>hashInt k
 |.inr x=>hashStr w x
theorem nF:∀{k:Key}{v:acV},r3 k v=true→(∃i t,k=ah0 i∧v=aie i t)∨(∃x t,k=ah1 x∧v=aif x t)
 |.inl i,v,h=>by obtain⟨t,e⟩:=af9 (k:=i) (v:=v) h;exact .inl ⟨i,t,rfl,e⟩
 |.inr x,v,h=>by obtain⟨t,e⟩:=Value.isStrOf_shape (x:=x) (v:=v) h;exact .inr ⟨x,t,rfl,e⟩
theorem RP(i:Int)(t:Tok):r3 (.inl i) (.int i t)=true:=by simp[r3,Value.isInt]
theorem RQ(x:Str)(t:Tok):r3 (.inr x) (.str x t)=true:=by simp[r3,Value.isStrOf]
theorem RU(a b:Int):decide ((ah0 a:Key)=ah0 b)=(a==b):=by
 by_cases e:a=b
 ·subst e;simp
 ·have h:¬(ah0 a:Key)=ah0 b:=fun q=>e (Sum.inl.inj q);rw[decide_eq_false h];exact(beq_eq_false_iff_ne.mpr e).symm
theorem RX(a b:Str):decide ((ah1 a:Key)=ah1 b)=decide (a=b):=by
 by_cases e:a=b
 ·subst e;simp
 ·have h:¬(ah1 a:Key)=ah1 b:=fun q=>e (Sum.inr.inj q);rw[decide_eq_false h,decide_eq_false e]
theorem RV(a:Int)(b:Str):decide ((ah0 a:Key)=ah1 b)=false:=decide_eq_false (fun q=>nomatch q)
theorem RW(a:Str)(b:Int):decide ((ah1 a:Key)=ah0 b)=false:=decide_eq_false (fun q=>nomatch q)
noncomputable def iM(prog:ac_)(w:adB):PySem.KeyKind prog w Key where
 is:=r3
 hash:=RO w
 inj:=fun v a b U J=>by
  rcases nF U with⟨i,t,rfl,rfl⟩|⟨x,t,rfl,rfl⟩
  ·rcases nF J with⟨j,u,rfl,e⟩|⟨y,u,rfl,e⟩
   ·injection e with ae _;rw[ae]
   ·exact nomatch e
  ·rcases nF J with⟨j,u,rfl,e⟩|⟨y,u,rfl,e⟩
   ·exact nomatch e
   ·injection e with ae _;rw[ae]
 byValue:=fun k v h=>by rcases nF h with⟨i,t,rfl,rfl⟩|⟨x,t,rfl,rfl⟩<;>rfl
 pyHash:=fun bP h=>by
  rcases nF bP with⟨i,t,rfl,rfl⟩|⟨x,t,rfl,rfl⟩
  ·exact wpAny_pyHash_int h
  ·exact wpAny_pyHash_str h
 eqBool:=fun aV bP h=>by
  rcases nF aV with⟨i,t,rfl,rfl⟩|⟨x,t,rfl,rfl⟩
  ·rcases nF bP with⟨j,u,rfl,rfl⟩|⟨y,u,rfl,rfl⟩
   ·rw[RU]at h;exact wpAny_eqBool_int h
   ·rw[RV]at h;exact ahQ i t y u _ _ _ _ h
  ·rcases nF bP with⟨j,u,rfl,rfl⟩|⟨y,u,rfl,rfl⟩
   ·rw[RW]at h;exact ahR x t j u _ _ _ _ h
   ·rw[RX]at h;exact wpAny_eqBool_str h
 «strs»:=fun k x t v h=>by
  rcases nF h with⟨i,u,rfl,e⟩|⟨y,u,rfl,e⟩
  ·exact nomatch e
  ·injection e with ae _;subst ae;cases v<;>rfl
theorem Tc(prog:ac_)(w:adB)(i:Int)(t:Tok):(iM prog w).is (.inl i) (.int i t)=true:=RP i t
theorem Td(prog:ac_)(w:adB)(x:Str)(t:Tok):(iM prog w).is (.inr x) (.str x t)=true:=RQ x t
inductive V where
 |non|aC (b:Bool)|int (i:Int)|str (x:Str)|mn (b:Array UInt8)|wW (b:UInt64)|ref (a:ac1)|ty (n:String)
 deriving DecidableEq
noncomputable def RelV:V→acV→Prop
 |.non,u=>u=afj
 |.aC b,u=>u=af_ b
 |.int i,u=>∃t,u=aie i t
 |.str x,u=>∃t,u=aif x t
 |.mn b,u=>∃t,u=Value.bytes b t
 |.wW b,u=>∃t,u=Value.float b t
 |.ref a,u=>u=adE a
 |.ty n,u=>u=ae6 n
abbrev Vals:List V→List acV→Prop:=Paired RelV
theorem Vals.length{xs:List V}{us:List acV}(r:Vals xs us):xs.length=us.length:=Paired.length r
theorem Vals.get:∀{xs:List V}{us:List acV}{i:Nat}{x:V},Vals xs us→xs[i]?=some x→∃u,us[i]?=some u∧RelV x u
 |_,_,_,_,.nil,e=>by simp at e
 |_,_,0,_,.cons r _,e=>by simp at e;subst e;exact⟨_,rfl,r⟩
 |_,_,i+1,x,.cons _ t,e=>by obtain⟨u,h1,h2⟩:=Vals.get (i:=i) (x:=x) t (by simpa using e);exact⟨u,by simpa using h1,h2⟩
theorem Vals.set{x:V}{u:acV}(r:RelV x u):∀{xs:List V}{us:List acV}(i:Nat),Vals xs us→Vals (xs.set i x) (us.set i u)
 |_,_,_,.nil=>.nil
 |_,_,0,.cons _ t=>.cons r t
 |_,_,i+1,.cons q t=>.cons q (Vals.set r i t)
theorem Vals.append:∀{xs ys:List V}{us ws:List acV},Vals xs us→Vals ys ws→Vals (xs++ys) (us++ws)
 |_,_,_,_,.nil,s=>s
 |_,_,_,_,.cons r t,s=>.cons r (Vals.append t s)
theorem Vals.take:∀{xs:List V}{us:List acV}(n:Nat),Vals xs us→Vals (xs.take n) (us.take n)
 |_,_,0,_=>.nil
 |_,_,_+1,.nil=>.nil
 |_,_,n+1,.cons r t=>.cons r (Vals.take n t)
theorem Vals.drop:∀{xs:List V}{us:List acV}(n:Nat),Vals xs us→Vals (xs.drop n) (us.drop n)
 |_,_,0,r=>r
 |_,_,_+1,.nil=>.nil
 |_,_,n+1,.cons _ t=>Vals.drop n t
def hJ:Option V→Option acV→Prop
 |some v,some u=>RelV v u
 |none,none=>True
 |_,_=>False
def gT{κ:Type}:List (κ×V)→List (κ×acV)→Prop:=Paired fun(p:κ×V)(q:κ×acV)=>p.1=q.1∧RelV p.2 q.2
def de:Key→V
 |.inl i=>.int i
 |.inr x=>.str x
inductive dG where
 |lst (xs:List V)
 |tup (xs:List V)
 |eO (bq:List (Key×V))|bH (bq:List (List Key×V))
 |set (S:Int→Bool) (n:Nat)
 |ins (C bA:ac1) (a8:List (Str×V))
 |own (x:ac1)
 |y0 (a8:List (Str×V))
 |met (f x:ac1)
 |yl (lo ak:Int)
 |jH (o:Obj) (u:dG)
 |pD (aO:Array acV)
 |ext (rn:adT→Prop)
abbrev ag:=ac1→Option dG
def upd(H:ag)(a:ac1)(o:dG):ag:=fun b=>if b=a then some o else H b
theorem dN{H:ag}{a:ac1}{o:dG}:upd H a o a=some o:=by unfold upd;rw[if_pos rfl]
theorem c8{H:ag}{a b:ac1}{o:dG}(h:b≠a):upd H a o b=H b:=by unfold upd;rw[if_neg h]
theorem Tx{H:ag}{a b:ac1}{o u:dG}(h:H a=some o)(h':H b=some u)(d:o≠u):a≠b:=by intro e;subst e;rw[h]at h';exact d (ac0 h')
theorem iO{H:ag}{a b:ac1}{o:dG}(h:H a=some o)(h':H b=none):a≠b:=by intro e;subst e;rw[h]at h';cases h'
section
variable(P:ac_)(w:adB)
noncomputable def e9(H:ag)(h:adT)(a:ac1):dG→Prop
 |.lst xs=>xs.length≤ade∧∃(its:List acV)(n:Nat),Vals xs its∧h.get? a=some { cls:=.type "list",data:=.seq its.toArray n }
 |.tup xs=>xs.length≤ade∧∃its:List acV,Vals xs its∧IsTup h a its.toArray
 |.eO bq=>bq.length≤ade∧(a==aeL)=false∧∃vs,gT bq vs∧h.DictOf (iM P w) a vs
 |.bH bq=>bq.length≤ade∧(a==aeL)=false∧∃xs:List (List Key×ac1×acV),
     Paired (fun(p:List Key×V)(q:List Key×ac1×acV)=>p.1=q.1∧H q.2.1=some (.tup (p.1.map de))∧RelV p.2 q.2.2) bq xs∧
     ∃o ah ek,h.get? a=some o∧o.ExactDict∧o.data=.dict ah ek∧ah.toList=xs.map (entryOfKey (agL (iM P w)))∧(xs.map (·.1)).Nodup
 |.set S n=>h.SetOf (agM P w) a S n
 |.ins C bA a8=>H bA=some (.own a)∧a8.length≤1000∧bA≠a∧h.get? a=some (PySem.W.instObj C bA)∧
     ∃eb,h.Ns1 bA eb∧(∀f,hJ (a8.lookup f) (eb f))∧PySem.Within eb (a8.map (·.1))
 |.own _=>∃o,h.get? a=some o
 |.y0 a8=>∃eb,h.Ns1 a eb∧∀f,hJ (a8.lookup f) (eb f)
 |.yl lo ak=>∃t u v,h.get? a=some { cls:=.type "range",data:=.fields #[.int lo t,.int ak u,.int 1 v] }
 |.jH o u=>h.get? a=some o∧e9 H h a u
 |.pD aO=>h.get? a=some { cls:=.none,data:=.fields aO }
 |.met f x=>h.get? a=some (PySem.W.methodObj (.ref f) (.ref x))
 |.ext rn=>rn h∧(∃o,h.get? a=some o)∧∀h1 h2:adT,rn h1→(∀o,h1.get? a=some o→h2.get? a=some o)→rn h2
def eA(H:ag)(h:adT):Prop:=∀a o,H a=some o→e9 P w H h a o
end
section
variable{P:ac_}{w:adB}{H H':ag}{h h':adT}{a:ac1}{o:dG}
theorem e9.lt(x:e9 P w H h a o):a<h.objs.size:=by
 cases o with
 |lst xs=>obtain⟨_,_,_,_,e⟩:=x;exact acZ e
 |tup xs=>obtain⟨_,_,_,p⟩:=x;exact p.lt
 |eO bq=>obtain⟨_,_,_,_,o,_,_,e,_⟩:=x;exact acZ e
 |bH bq=>obtain⟨_,_,_,_,o,_,_,e,_⟩:=x;exact acZ e
 |set S n=>obtain⟨o,_,_,_,e,_⟩:=x;exact acZ e
 |ins C bA a8=>obtain⟨_,_,_,e,_⟩:=x;exact acZ e
 |own y=>obtain⟨_,e⟩:=x;exact acZ e
 |y0 a8=>obtain⟨_,⟨_,_,_,e,_⟩,_⟩:=x;exact acZ e
 |yl lo ak=>obtain⟨_,_,_,e⟩:=x;exact acZ e
 |jH ob u=>obtain⟨e,_⟩:=x;exact acZ e
 |pD aO=>exact acZ (show h.get? a=some _ from x)
 |met f y=>exact acZ (show h.get? a=some _ from x)
 |ext rn=>obtain⟨_,⟨_,e⟩,_⟩:=x;exact acZ e
theorem Paired.B6{α β:Type}{F G:α→β→Prop}:∀{IB:List α}{IC:List β},Paired F IB IC→(∀a b,F a b→G a b)→Paired G IB IC
 |_,_,.nil,_=>.nil
 |_,_,.cons r t,f=>.cons (f _ _ r) (Paired.B6 t f)
theorem e9.n_(x:e9 P w H h a o)(k:∀b u,(b=a∨H b=some (.own a))→h.get? b=some u→h'.get? b=some u)(aH:∀b,H b=some (.own a)→H' b=some (.own a))(bJ:∀b xs,H b=some (.tup xs)→H' b=some (.tup xs)):e9 P w H' h' a o:=by
 induction o with
 |lst xs=>obtain⟨z,its,n,r,e⟩:=x;exact⟨z,its,n,r,k _ _ (.inl rfl) e⟩
 |tup xs=>obtain⟨z,its,r,ob,e,c⟩:=x;exact⟨z,its,r,ob,k _ _ (.inl rfl) e,c⟩
 |eO bq=>obtain⟨z,y,vs,r,ob,ah,ek,e,c⟩:=x;exact⟨z,y,vs,r,ob,ah,ek,k _ _ (.inl rfl) e,c⟩
 |bH bq=>obtain⟨z,y,xs,r,ob,ah,ek,e,c⟩:=x;exact⟨z,y,xs,Paired.B6 r fun p q z=>⟨z.1,bJ _ _ z.2.1,z.2.2⟩,ob,ah,ek,k _ _ (.inl rfl) e,c⟩
 |set S n=>obtain⟨ob,ah,ek,t,e,c⟩:=x;exact⟨ob,ah,ek,t,k _ _ (.inl rfl) e,c⟩
 |ins C bA a8=>obtain⟨d,z,ne,e,eb,⟨dX,ah,ek,au,c⟩,r⟩:=x;exact⟨aH _ d,z,ne,k _ _ (.inl rfl) e,eb,⟨dX,ah,ek,k _ _ (.inr d) au,c⟩,r⟩
 |own y=>obtain⟨ob,e⟩:=x;exact⟨ob,k _ _ (.inl rfl) e⟩
 |y0 a8=>obtain⟨eb,⟨dX,ah,ek,e,c⟩,r⟩:=x;exact⟨eb,⟨dX,ah,ek,k _ _ (.inl rfl) e,c⟩,r⟩
 |yl lo ak=>obtain⟨t,u,v,e⟩:=x;exact⟨t,u,v,k _ _ (.inl rfl) e⟩
 |jH ob u cq=>obtain⟨e,q⟩:=x;exact⟨k _ _ (.inl rfl) e,cq q⟩
 |pD aO=>have e:h.get? a=some { cls:=.none,data:=.fields aO }:=x;show h'.get? a=some { cls:=.none,data:=.fields aO };exact k a _ (.inl rfl) e
 |met f y=>have e:h.get? a=some (PySem.W.methodObj (.ref f) (.ref y)):=x;show h'.get? a=some (PySem.W.methodObj (.ref f) (.ref y));exact k a _ (.inl rfl) e
 |ext rn=>obtain⟨p,⟨o,e⟩,st⟩:=x;exact⟨st _ _ p fun o q=>k _ _ (.inl rfl) q,⟨o,k _ _ (.inl rfl) e⟩,st⟩
theorem eA.lt(x:eA P w H h)(e:H a=some o):a<h.objs.size:=(x a o e).lt
theorem eA.fresh(x:eA P w H h)(e:h.objs.size≤a):H a=none:=by
 cases q:H a with
 |none=>rfl
 |some u=>exact absurd (adb (x.lt q) e) (adU _)
theorem eA.kept(x:eA P w H h)(k:∀b u,h.get? b=some u→h'.get? b=some u):eA P w H h':=fun a o e=>
 (x a o e).n_ (fun b u _ q=>k b u q) (fun _ q=>q) fun _ _ q=>q
theorem eA.laid(x:eA P w H h)(k:∀b u,h.get? b=some u→h'.get? b=some u)(a5:h.objs.size≤a)(new:e9 P w (upd H a o) h' a o):eA P w (upd H a o) h':=fun b u e=>by
 have aU:=x.fresh a5;by_cases J:b=a
 ·subst J;rw[dN]at e;cases e;exact new
 ·rw[c8 J]at e;exact(x b u e).n_ (fun c v _ q=>k c v q) (fun c q=>by rw[c8 (iO q aU)];exact q) fun c xs q=>by rw[c8 (iO q aU)];exact q
end
def fQ(H:ag)(a:ac1)(u:dG):Prop:=H a=some u∨∃o,H a=some (.jH o u)
theorem fQ.ok{P:ac_}{w:adB}{H:ag}{h:adT}{a:ac1}{u:dG}(r:fQ H a u)(x:eA P w H h):e9 P w H h a u:=by
 rcases r with r|⟨o,r⟩
 ·exact x a u r
 ·obtain⟨_,q⟩:=x a _ r;exact q
noncomputable def s6:Option dG→Prop
 |some (.lst _)=>True
 |some (.eO _)=>True
 |some (.bH _)=>True
 |some (.set _ _)=>True
 |some (.ins _ _ _)=>True
 |some (.ext _)=>True
 |_=>False
section
variable{P:ac_}{w:adB}{H:ag}{h h':adT}{x e:ac1}{cc:dG}
theorem eA.write(ok:eA P w H h)(jM:s6 (H x))(he:e=x∨H e=some (.own x))(k:∀b u,b≠e→h.get? b=some u→h'.get? b=some u)(rV:∃u,h'.get? e=some u)(new:e9 P w (upd H x cc) h' x cc):eA P w (upd H x cc) h':=fun b u q=>by
 have IY:∀c y,H c=some (.own y)→c≠x:=fun c y r z=>by subst z;rw[r]at jM;exact jM
 have TZ:∀c xs,H c=some (.tup xs)→c≠x:=fun c xs r z=>by subst z;rw[r]at jM;exact jM
 by_cases J:b=x
 ·subst J;rw[dN]at q;cases q;exact new
 ·rw[c8 J]at q;by_cases qo:b=e
  ·have dS:H b=some (.own x):=by
     rcases he with z|z
     ·exact absurd (qo.trans z) J
     ·rw[qo];exact z
   rw[q]at dS;cases dS;obtain⟨v,bP⟩:=rV;exact⟨v,by rw[qo];exact bP⟩
  ·refine(ok b u q).n_ (fun c v ax r=>k c v ?_ r) (fun c r=>by rw[c8 (IY c b r)];exact r) fun c xs r=>by rw[c8 (TZ c xs r)];exact r
   rcases ax with rfl|ax
   ·exact qo
   ·rintro rfl;rcases he with z|z
    ·exact IY c b ax z
    ·rw[ax]at z;cases z;exact J rfl
end
structure f7(a8 ex:List ac1)(H H':ag)(h h':adT):Prop where
 keep:∀b o,h.get? b=some o→H b=none→b∉a8→b∉ex→h'.get? b=some o
 slot:∀b o,h.get? b=some o→H b=none→b∈a8→b∉ex→∃cB,h'.get? b=some { o with slots:=cB }
 free:∀b o,h.get? b=some o→H b=none→b∉ex→H' b=none
 there:∀b o,h.get? b=some o→b∉ex→∃cc,h'.get? b=some cc
 k4:∀b xs,H b=some (.tup xs)→H' b=some (.tup xs)
 j6:∀b o u,H b=some (.jH o u)→H' b=some (.jH o u)
 kZ:∀b aO,H b=some (.pD aO)→∃more,H' b=some (.pD (aO++more))
section
variable{a8 wY ex Z1:List ac1}{H H1 aX:ag}{h h1 h2 h':adT}{a x e:ac1}{o:dG}
theorem f7.any(u:f7 a8 ex H H1 h h1){b:ac1}{ob:Obj}(q:h.get? b=some ob)(n:H b=none)(aA:b∉ex):∃cB,h1.get? b=some { ob with slots:=cB }:=by
 by_cases J:b∈a8
 ·exact u.slot b ob q n J aA
 ·exact⟨ob.slots,u.keep b ob q n J aA⟩
theorem f7.kept(k:∀b u,h.get? b=some u→h'.get? b=some u):f7 a8 ex H H h h':=
 ⟨fun b ob q _ _ _=>k b ob q,fun b ob q _ _ _=>⟨ob.slots,k b ob q⟩,fun _ _ _ n _=>n,fun b ob q _=>⟨ob,k b ob q⟩,fun _ _ q=>q,fun _ _ _ q=>q,fun _ aO q=>⟨#[],by rw[q];simp⟩⟩
theorem f7.refl:f7 a8 ex H H h h:=f7.kept fun _ _ q=>q
theorem f7.laid(k:∀b u,h.get? b=some u→h'.get? b=some u)(a5:h.objs.size≤a)(aU:H a=none):f7 a8 ex H (upd H a o) h h' where
 keep:=fun b u q _ _ _=>k b u q
 slot:=fun b u q _ _ _=>⟨u.slots,k b u q⟩
 free:=fun b u q n _=>by rw[c8 (adn (adb (acZ q) a5))];exact n
 there:=fun b u q _=>⟨u,k b u q⟩
 k4:=fun b xs q=>by rw[c8 (iO q aU)];exact q
 j6:=fun b u xs q=>by rw[c8 (iO q aU)];exact q
 kZ:=fun b aO q=>⟨#[],by rw[c8 (iO q aU),q];simp⟩
theorem f7.write(jM:s6 (H x))(he:e=x∨H e=some (.own x))(k:∀b u,b≠e→h.get? b=some u→h'.get? b=some u)(rV:∃u,h'.get? e=some u):f7 a8 ex H (upd H x o) h h':=by
 have aA:∀b,H b=none→b≠x:=fun b n z=>by subst z;rw[n]at jM;exact jM
 have J:∀b,H b=none→b≠e:=fun b n z=>by
  subst z;rcases he with r|r
  ·exact aA b n r
  ·rw[n]at r;cases r
 have hm:∀b u,H b=some u→¬s6 (some u)→b≠x:=fun b u q nm z=>by subst z;rw[q]at jM;exact nm jM
 refine⟨fun b u q n _ _=>k b u (J b n) q,fun b u q n _ _=>⟨u.slots,k b u (J b n) q⟩,fun b u q n _=>by rw[c8 (aA b n)];exact n,fun b u q _=>?_,
  fun b xs q=>by rw[c8 (hm b _ q fun z=>z)];exact q,fun b u xs q=>by rw[c8 (hm b _ q fun z=>z)];exact q,fun b aO q=>⟨#[],by rw[c8 (hm b _ q fun z=>z),q];simp⟩⟩
 by_cases qo:b=e
 ·subst qo;exact rV
 ·exact⟨u,k b u qo q⟩
end
def yP(h:adT)(H:ag):List ac1:=(adG h.objs.size).filter fun a=>(H a).isSome
def nA(h:adT)(H:ag):adT:=PySem.W.hideAll h (yP h H)
theorem Pe(h:adT)(H:ag):(nA h H).objs.size=h.objs.size:=PySem.W.hideAll_size _ _
theorem Pd{h:adT}{H:ag}{b:ac1}{o:Obj}(e:h.get? b=some o)(n:H b=none):(nA h H).get? b=some o:=
 PySem.W.hideAll_get _ e fun hm=>by have q:(H b).isSome=true:=(List.mem_filter.mp hm).2;rw[n]at q;simp at q
theorem T5{h:adT}{H:ag}{b:ac1}{o:Obj}(e:(nA h H).get? b=some o):h.get? b=some o∧H b=none:=by
 have cN:h.get? b=some o:=PySem.W.of_hideAll (yP h H) e;refine⟨cN,?_⟩;cases q:H b with
 |none=>rfl
 |some x=>have hm:b∈yP h H:=List.mem_filter.mpr ⟨List.mem_range.mpr (acZ cN),by simp[q]⟩;have z:(nA h H).get? b=none:=PySem.W.hideAll_none (yP h H) hm;rw[z]at e;cases e
noncomputable def Mp(g h:adT)(L:ac1):List (ac1×Obj):=(adG h.objs.size).filterMap fun a=>if a=L∨(g.get? a).isSome=true then none else(h.get? a).map fun o=>(a,o)
def rest(g h:adT)(L d:ac1):List (ac1×Obj):=(Mp g h L).filter fun p=>decide (p.1≠d)
structure Mod(K:PySem.W.Frag)(mg:Str→Option acV)(base:adT):Prop where
 mC:K.In base
 glob:base.Ns ada mg
 blt:∃mb,base.Ns builtinsNs mb∧∀x:Str,x≠"__name__"→mb x=ad6 x
 nolimit:base.NoLimit
structure aS where
 prog:ac_
 w:adB
 K:PySem.W.Frag
 mg:Str→Option acV
 base:adT
 A:adp
 N:List Str
 fF:acW
 pU:ag
 env:Env
 outer:List Env
 stack:List Env
 ex:List ac1
 fn:Str→Bool
 calm:Bool
 dg:List (ac1×Obj)
 xe:acV→acW→Prop
def eP(l:List Env):List ac1:=l.filterMap (·.frame)
abbrev aS.a8(X:aS):List ac1:=eP X.outer
noncomputable def fL(sc:aew)(x:Str):Prop:=sc.names.lookup x=some .local∨sc.names.lookup x=some .cell∨sc.names.lookup x=some .free
def Loc(sc:aew)(x:Str):Prop:=sc.names.lookup x=some .local∨sc.names.lookup x=some .cell
noncomputable def Look(env:Env)(h:adT)(m:Str→Option acV)(x:Str)(u:acV):Prop:=
 (env.kindOf x=some .local∧m x=some u)∨((env.kindOf x=some .cell∨env.kindOf x=some .free)∧∃c,env.cells.lookup x=some c∧h.IsCell c (some u))
structure aS.Ok(X:aS):Prop where
 mod:Mod X.K X.mg X.base
 kind:X.env.scope.kind=.function
 glob:X.env.globals=ada
 blt:X.env.builtins=builtinsNs
 above:X.fF.heap.objs.size≤X.env.locals
 inj:∀x y c,X.env.cells.lookup x=some c→X.env.cells.lookup y=some c→x=y
 has:∀x,(X.env.kindOf x=some .cell∨X.env.kindOf x=some .free)→∃c,X.env.cells.lookup x=some c
 tq:∀x c,X.fn x=true→X.env.cells.lookup x=some c→X.fF.heap.objs.size≤c
 hd:X.calm=true→X.A.handled=none
 frames:X.A.frames=some X.stack
 yA:X.stack=X.outer∨(X.stack=X.env::X.outer∧X.env.frame=some X.env.locals)
 F9:∀b∈X.ex,b≠X.env.locals∧∀x c,X.env.cells.lookup x=some c→c≠b
 bs:∀b o,X.base.get? b=some o→X.fF.heap.get? b=some o∧X.pU b=none
 oC:X.base.objs.size≤X.fF.heap.objs.size
 nZ:∀b o,X.base.get? b=some o→b∉X.ex
 wU:∀b∈X.ex,b∉X.a8
 jI:X.fF.heap.FunFrames X.base X.outer
 qj:∀b∈X.a8,X.pU b=none
structure Inv(X:aS)(pins:List (ac1×Obj))(σ :List (Option V))(H:ag)(s:acW):Prop where
 ok:X.Ok
 os:s.os=X.fF.os
 bare:agg s.gens
 base:f7 X.a8 X.ex X.pU H X.fF.heap s.heap
 loc:∃m,s.heap.Ns X.env.locals m∧∀(i:Nat)(x:Str)(v:V),X.N[i]?=some x→ σ[i]?=some (some v)→fL X.env.scope x→∃u,RelV v u∧Look X.env s.heap m x u
 cell:∀x c,X.env.cells.lookup x=some c→∃v,s.heap.IsCell c v
 free:H X.env.locals=none
 mw:∀x c,X.env.cells.lookup x=some c→H c=none
 pin:∀p∈X.dg++pins,s.heap.get? p.1=some p.2∧H p.1=none∧p.1≠X.env.locals∧p.1∉X.a8∧∀v,p.2.data≠.cell v
 bR:eA X.prog X.w H s.heap
 len: σ.length=X.N.length
section
variable{X:aS}{pins:List (ac1×Obj)}{σ :List (Option V)}{H H':ag}{s:acW}{h':adT}
theorem aS.Ok.TP(ok:X.Ok){b:ac1}{o:Obj}(e:X.base.get? b=some o):b∉X.a8:=fun J=>by have:=(ok.jI.mem J).1;rw[e]at this;cases this
theorem Inv.bs(I:Inv X pins σ H s):∀b o,X.base.get? b=some o→s.heap.get? b=some o∧H b=none:=fun b o e=>
 ⟨I.base.keep b o (I.ok.bs b o e).1 (I.ok.bs b o e).2 (I.ok.TP e) (I.ok.nZ b o e),I.base.free b o (I.ok.bs b o e).1 (I.ok.bs b o e).2 (I.ok.nZ b o e)⟩
theorem Inv.fk(I:Inv X pins σ H s):∀b o,X.base.get? b=some o→s.heap.get? b=some o:=fun b o e=>(I.bs b o e).1
theorem Inv.mod(I:Inv X pins σ H s):Mod X.K X.mg X.base:=I.ok.mod
theorem Inv.gf(I:Inv X pins σ H s):X.K.In s.heap:=I.ok.mod.mC.keeps I.fk
theorem Inv.lt(I:Inv X pins σ H s):X.env.locals<s.heap.objs.size:=let⟨_,aU,_⟩:=I.loc;aU.lt
theorem Inv.kX(I:Inv X pins σ H s):X.fF.heap.objs.size≤s.heap.objs.size:=adt I.ok.above (ae7 I.lt)
theorem Inv.TR(I:Inv X pins σ H s){a:ac1}(h:s.heap.objs.size≤a):a∉X.a8:=fun J=>by obtain⟨_,o,aH,_⟩:=I.ok.jI.mem J;exact absurd (adb (acZ aH) (adt I.kX h)) (adU _)
theorem Inv.p8(I:Inv X pins σ H s):∀x c,X.env.cells.lookup x=some c→c≠X.env.locals:=fun x c e z=>by obtain⟨v,o,aH,hd⟩:=I.cell x c e;obtain⟨m,⟨cc,ah,ek,fW,i8,_⟩,_⟩:=I.loc;rw[z,fW]at aH;cases aH;rw[i8]at hd;cases hd
theorem Inv.jI(I:Inv X pins σ H s):s.heap.FunFrames X.base X.outer:=by
 have all:∀(l:List Env),(∀b∈eP l,b∈X.a8)→X.fF.heap.FunFrames X.base l→s.heap.FunFrames X.base l:=by
  intro l;induction l with
  |nil=>intro _ _;trivial
  |cons env r cq=>intro aD av;obtain⟨aK,⟨L,o,hf,aU,aH,hd⟩,ay⟩:=av;have hn:L∈X.a8:=aD L (by unfold eP;rw[aeD,hf];exact adQ);obtain⟨cB,e⟩:=I.base.slot L o aH (I.ok.qj L hn) hn fun z=>I.ok.wU L z hn;exact⟨aK,⟨L,_,hf,aU,e,hd⟩,cq (fun b J=>aD b (by unfold eP;rw[aeD,hf];exact ac7 _ J)) ay⟩
 exact all X.outer (fun _ J=>J) I.ok.jI
theorem Inv.stack(I:Inv X pins σ H s):s.heap.FunFrames X.base X.stack:=by
 rcases I.ok.yA with e|⟨e,hf⟩
 ·rw[e];exact I.jI
 ·rw[e];obtain⟨m,aU,_⟩:=I.loc;refine .cons (by rw[I.ok.kind];decide) hf aU ?_ I.jI;exact Heap.get?_none_of_le (adt I.ok.oC I.ok.above)
theorem Inv.yB(I:Inv X pins σ H s):∀b∈eP X.stack,b∈X.env.locals::X.a8:=fun b J=>by
 rcases I.ok.yA with e|⟨e,hf⟩
 ·rw[e]at J;exact ac7 _ J
 ·rw[e]at J;unfold eP at J;rw[aeD,hf]at J;exact J
theorem Inv.DH(I:Inv X pins σ H s):∀b∈eP X.stack,H b=none:=fun b J=>by
 rcases List.mem_cons.mp (I.yB b J)with e|J
 ·rw[e];exact I.free
 ·obtain⟨_,o,aH,_⟩:=I.ok.jI.mem J;exact I.base.free b o aH (I.ok.qj b J) fun z=>I.ok.wU b z J
theorem Inv.step{g':Array GenState}{t':Nat}{d':Drawn}{ch:List ac1}(I:Inv X pins σ H s)(mA:∀b∈ch,(b∈X.ex∨X.fF.heap.objs.size≤b)∧b≠X.env.locals∧(∀x c,X.env.cells.lookup x=some c→c≠b)∧∀p∈X.dg++pins,p.1≠b)(keep:∀b o,b≠X.env.locals→b∉X.a8→b∉ch→s.heap.get? b=some o→H b=none→h'.get? b=some o)(slot:∀b o,b≠X.env.locals→b∈X.a8→b∉ch→s.heap.get? b=some o→H b=none→∃cB,h'.get? b=some { o with slots:=cB })(free:∀b o,b∉ch→s.heap.get? b=some o→H b=none→H' b=none)(there:∀b o,b∉ch→s.heap.get? b=some o→∃cc,h'.get? b=some cc)(k4:∀b xs,H b=some (.tup xs)→H' b=some (.tup xs))(j6:∀b o u,H b=some (.jH o u)→H' b=some (.jH o u))(kZ:∀b aO,H b=some (.pD aO)→∃more,H' b=some (.pD (aO++more)))(ns:∀m,s.heap.Ns X.env.locals m→h'.Ns X.env.locals m)(bR:eA X.prog X.w H' h')(aI:agg g') :
  Inv X pins σ H' { s with heap:=h',gens:=g',drawn:=d',toks:=t' }:=by
 have IQ:∀b o,X.fF.heap.get? b=some o→b≠X.env.locals:=fun b o e=>adn (adb (acZ e) I.ok.above);have x9:∀b o,X.fF.heap.get? b=some o→b∉X.ex→b∉ch:=fun b o e aA J=>by
  rcases(mA b J).1 with z|z
  ·exact aA z
  ·exact absurd (adb (acZ e) z) (adU _)
 have cellK:∀x c,X.env.cells.lookup x=some c→∀v,s.heap.IsCell c v→h'.IsCell c v:=fun x c e v⟨o,aH,hd⟩=>by
  have uW:c∉ch:=fun z=>(mA c z).2.2.1 x c e rfl;by_cases ax:c∈X.a8
  ·obtain⟨cB,q⟩:=slot c o (I.p8 x c e) ax uW aH (I.mw x c e);exact⟨_,q,hd⟩
  ·exact⟨o,keep c o (I.p8 x c e) ax uW aH (I.mw x c e),hd⟩
 refine⟨I.ok,I.os,aI,⟨fun b o e n J aA=>?_,fun b o e n J aA=>?_,fun b o e n aA=>?_,fun b o e aA=>?_,fun b xs e=>k4 b xs (I.base.k4 b xs e),fun b o xs e=>j6 b o xs (I.base.j6 b o xs e),fun b aO e=>?_⟩,?_,fun x c e=>?_,?_,fun x c e=>?_,fun p a5=>?_,bR,I.len⟩
 ·exact keep b o (IQ b o e) J (x9 b o e aA) (I.base.keep b o e n J aA) (I.base.free b o e n aA)
 ·obtain⟨cB,ae⟩:=I.base.slot b o e n J aA;obtain⟨WQ,au⟩:=slot b _ (IQ b o e) J (x9 b o e aA) ae (I.base.free b o e n aA);exact⟨WQ,au⟩
 ·obtain⟨cc,ae⟩:=I.base.there b o e aA;exact free b cc (x9 b o e aA) ae (I.base.free b o e n aA)
 ·obtain⟨cc,ae⟩:=I.base.there b o e aA;exact there b cc (x9 b o e aA) ae
 ·obtain⟨m1,ae⟩:=I.base.kZ b aO e;obtain⟨m2,au⟩:=kZ b _ ae;exact⟨m1++m2,by rw[au,Array.append_assoc]⟩
 ·obtain⟨m,aU,av⟩:=I.loc;refine⟨m,ns m aU,fun i x v ae au bE=>?_⟩;obtain⟨u,r,l⟩:=av i x v ae au bE;refine⟨u,r,?_⟩;rcases l with l|⟨k,c,e,z⟩
  ·exact .inl l
  ·exact .inr ⟨k,c,e,cellK x c e _ z⟩
 ·obtain⟨v,z⟩:=I.cell x c e;exact⟨v,cellK x c e v z⟩
 ·obtain⟨m,⟨o,_,_,aH,_⟩,_⟩:=I.loc;exact free _ o (fun z=>(mA _ z).2.1 rfl) aH I.free
 ·obtain⟨v,o,aH,hd⟩:=I.cell x c e;exact free c o (fun z=>(mA c z).2.2.1 x c e rfl) aH (I.mw x c e)
 ·obtain⟨e,n,ne,kQ,d⟩:=I.pin p a5;have uW:p.1∉ch:=fun z=>(mA p.1 z).2.2.2 p a5 rfl;exact⟨keep p.1 p.2 ne kQ uW e n,free p.1 p.2 uW e n,ne,kQ,d⟩
theorem Inv.un{t':Nat}(I:Inv X pins σ H s)(u:f7 X.a8 [] H H' s.heap h')(bR:eA X.prog X.w H' h'):Inv X pins σ H' { s with heap:=h',toks:=t' }:=by
 obtain⟨m,⟨o,ah,ek,aH,r⟩,_⟩:=id I.loc;obtain⟨cB,hn⟩:=u.any aH I.free (by simp);exact I.step (g':=s.gens) (d':=s.drawn) (ch:=[]) (fun _ z=>nomatch z) (fun b o _ J _ e n=>u.keep b o e n J (by simp)) (fun b o _ J _ e n=>u.slot b o e n J (by simp)) (fun b o _ e n=>u.free b o e n (by simp)) (fun b o _ e=>u.there b o e (by simp)) u.k4 u.j6 u.kZ (fun eD hm=>by obtain⟨cc,tE,AR,fW,a9⟩:=hm;rw[aH]at fW;cases fW;exact⟨_,tE,AR,hn,a9⟩) bR I.bare
theorem Inv.call{g':Array GenState}{t':Nat}{d':Drawn}{ch:List ac1}(I:Inv X pins σ H s)(u:f7 (eP X.stack) ch H H' s.heap h')(bR:eA X.prog X.w H' h')(aI:agg g')(mA:∀b∈ch,(b∈X.ex∨X.fF.heap.objs.size≤b)∧b≠X.env.locals∧(∀x c,X.env.cells.lookup x=some c→c≠b)∧∀p∈X.dg++pins,p.1≠b) :
  Inv X pins σ H' { s with heap:=h',gens:=g',drawn:=d',toks:=t' }:=by
 obtain⟨m,⟨o,ah,ek,aH,r⟩,_⟩:=id I.loc;obtain⟨cB,hn⟩:=u.any aH I.free fun z=>(mA _ z).2.1 rfl;exact I.step (ch:=ch) mA (fun b o hn J ax e n=>u.keep b o e n (fun z=>(List.mem_cons.mp (I.yB b z)).elim hn J) ax) (fun b o _ _ ax e n=>u.any e n ax) (fun b o ax e n=>u.free b o e n ax) (fun b o ax e=>u.there b o e ax) u.k4 u.j6 u.kZ (fun eD hm=>by obtain⟨cc,tE,AR,fW,a9⟩:=hm;rw[aH]at fW;cases fW;exact⟨_,tE,AR,hn,a9⟩) bR aI
theorem Inv.turned{t':Nat}{it:ac1}(I:Inv X pins σ H s)(k:∀b o,b≠it→s.heap.get? b=some o→h'.get? b=some o)(aU:H it=none)(hn:it≠X.env.locals)(h1:it∈X.ex∨X.fF.heap.objs.size≤it)(h2:∀x c,X.env.cells.lookup x=some c→c≠it)(h3:∀p∈X.dg++pins,p.1≠it):Inv X pins σ H { s with heap:=h',toks:=t' }:=by
 have pf:∀b u,H b=some u→b≠it:=fun b u e z=>by rw[z,aU]at e;cases e
 refine I.step (g':=s.gens) (d':=s.drawn) (ch:=[it]) (fun b J=>?_) (fun b o _ _ ax e _=>k b o (fun z=>ax (by simp[z])) e) (fun b o _ _ ax e _=>⟨o.slots,k b o (fun z=>ax (by simp[z])) e⟩) (fun _ _ _ _ n=>n)
  (fun b o ax e=>⟨o,k b o (fun z=>ax (by simp[z])) e⟩) (fun _ _ e=>e) (fun _ _ _ e=>e) (fun b aO e=>⟨#[],by rw[e];simp⟩) (fun m hm=>?_) (fun b u e=>?_) I.bare
 ·have e:b=it:=by simpa using J
  subst e;exact⟨h1,hn,h2,h3⟩
 ·obtain⟨o,ah,ek,aH,r⟩:=hm;exact⟨o,ah,ek,k _ o (afA hn) aH,r⟩
 ·refine(I.bR b u e).n_ (fun c v ax q=>k c v ?_ q) (fun _ q=>q) fun _ _ q=>q;rcases ax with z|z
  ·rw[z];exact pf b u e
  ·exact pf c _ z
theorem Inv.tok(I:Inv X pins σ H s)(t:Nat):Inv X pins σ H { s with toks:=t }:=I.un (h':=s.heap) (t':=t) f7.refl I.bR
theorem Inv.kept{t':Nat}(I:Inv X pins σ H s)(k:∀b u,s.heap.get? b=some u→h'.get? b=some u):Inv X pins σ H { s with heap:=h',toks:=t' }:=I.un (f7.kept k) (I.bR.kept k)
theorem Inv.laid{a:ac1}{o:dG}{t':Nat}(I:Inv X pins σ H s)(k:∀b u,s.heap.get? b=some u→h'.get? b=some u)(a5:s.heap.objs.size≤a)(new:e9 X.prog X.w (upd H a o) h' a o) :
  Inv X pins σ (upd H a o) { s with heap:=h',toks:=t' }:=I.un (f7.laid k a5 (I.bR.fresh a5)) (I.bR.laid k a5 new)
theorem Inv.write{x e:ac1}{o:dG}{t':Nat}(I:Inv X pins σ H s)(jM:s6 (H x))(he:e=x∨H e=some (.own x))(k:∀b u,b≠e→s.heap.get? b=some u→h'.get? b=some u)(rV:∃u,h'.get? e=some u)(new:e9 X.prog X.w (upd H x o) h' x o):Inv X pins σ (upd H x o) { s with heap:=h',toks:=t' }:=I.un (f7.write jM he k rV) (I.bR.write jM he k rV new)
theorem Inv.Jy{Jx:List (ac1×Obj)}(I:Inv X pins σ H s)(h:∀p∈Jx,s.heap.get? p.1=some p.2∧H p.1=none∧p.1≠X.env.locals∧p.1∉X.a8∧∀v,p.2.data≠.cell v):Inv X Jx σ H s:=
 ⟨I.ok,I.os,I.bare,I.base,I.loc,I.cell,I.free,I.mw,fun p a5=>(List.mem_append.mp a5).elim (fun z=>I.pin p (aeg _ z)) (h p),I.bR,I.len⟩
theorem IX{N:List Str}(b7:N.Nodup){i j:Nat}{x:Str}(a:N[i]?=some x)(b:N[j]?=some x):i=j:=by obtain⟨h1,ae⟩:=List.getElem?_eq_some_iff.mp a;obtain⟨h2,au⟩:=List.getElem?_eq_some_iff.mp b;exact(List.getElem_inj b7).mp (ae.trans au.symm)
theorem Kr{M:Model}{A:adp}{E:acV→acW→Prop}{i:Nat}{x:Str}{v:V}{u:acV}{Q:Unit→acW→Prop}(I:Inv X pins σ H s)(b7:X.N.Nodup)(ak:X.N[i]?=some x)(aA:Loc X.env.scope x)(r:RelV v u)(h:∀s',Inv X pins (σ.set i (some v)) H s'→(∃a,aeQ a s.heap s'.heap∧(a=X.env.locals∨X.env.cells.lookup x=some a))→Q () s')(hf:X.fn x=true∨X.env.scope.names.lookup x=some .local:=by first|exact .inl rfl|exact .inr rfl|assumption):adi M A (storeName X.env x u) Q E s:=by
 obtain⟨m,aU,av⟩:=id I.loc;have O3:(X.env.scope.kind==.class||(X.env.scope.kind==.module&&X.env.locals !=X.env.globals))=false:=by rw[I.ok.kind];rfl
 have akσ :i< σ.length:=by rw[I.len];exact(List.getElem?_eq_some_iff.mp ak).1
 have p8:=I.p8;have tracked:∀{a:ac1}{h':adT},(∃o,s.heap.get? a=some o∧H a=none)→aeQ a s.heap h'→eA X.prog X.w H h':=fun{a h'} U aD b ob e=>by
  obtain⟨_,_,xd⟩:=U;refine(I.bR b ob e).n_ (fun c fG ax q=>(aD.2 c ?_).trans q) (fun _ q=>q) fun _ _ q=>q;rintro rfl;rcases ax with rfl|ax
  ·rw[xd]at e;cases e
  ·rw[xd]at ax;cases ax
 rcases aA with aK|aK
 ·refine wpAny_storeName_local aK aU (fun h' Pw aD=>?_) O3;obtain⟨T2,_,_,Pz,_⟩:=id aU;refine h _ ⟨I.ok,I.os,I.bare,⟨fun b o e n J aA=>?_,fun b o e n J aA=>?_,I.base.free,fun b o e aA=>?_,I.base.k4,I.base.j6,I.base.kZ⟩,⟨_,Pw,fun j y gn ae au bE=>?_⟩,fun y c e=>?_,I.free,I.mw,fun p a5=>?_,tracked ⟨T2,Pz,I.free⟩ aD,by simpa using I.len⟩ ⟨_,aD,.inl rfl⟩
  ·exact(aD.2 b (adn (adb (acZ e) I.ok.above))).trans (I.base.keep b o e n J aA)
  ·obtain⟨cB,ae⟩:=I.base.slot b o e n J aA;exact⟨cB,(aD.2 b (adn (adb (acZ e) I.ok.above))).trans ae⟩
  ·obtain⟨cc,ae⟩:=I.base.there b o e aA;exact⟨cc,(aD.2 b (adn (adb (acZ e) I.ok.above))).trans ae⟩
  ·by_cases cU:j=i
   ·subst cU;rw[ak]at ae;cases ae;rw[adX akσ]at au;cases au;exact⟨u,r,.inl ⟨aK,by simp⟩⟩
   ·rw[adP (afA cU)]at au;obtain⟨fZ,a9,q⟩:=av j y gn ae au bE;refine⟨fZ,a9,?_⟩;rcases q with⟨k,e⟩|⟨k,c,e,z⟩
    ·refine .inl ⟨k,?_⟩;have:y≠x:=fun e=>cU (IX b7 ae (e▸ak));simp[this,e]
    ·exact .inr ⟨k,c,e,z.sameBut aD (p8 y c e)⟩
  ·obtain⟨fG,z⟩:=I.cell y c e;exact⟨fG,z.sameBut aD (p8 y c e)⟩
  ·obtain⟨e,n,ne,kQ,d⟩:=I.pin p a5;exact⟨(aD.2 p.1 ne).trans e,n,ne,kQ,d⟩
 ·have Bl:X.fn x=true:=by
    rcases hf with z|z
    ·exact z
    ·rw[z]at aK;cases aK
  obtain⟨c,ax⟩:=I.ok.has x (.inl aK);obtain⟨fG,z⟩:=I.cell x c ax;refine wpAny_storeName_cell I.ok.kind aK ax z (fun h' rU aD=>?_);obtain⟨ft,Hu,PA⟩:=id z;refine h { s with heap:=h' } ⟨I.ok,I.os,I.bare,⟨fun b o e n J aA=>?_,fun b o e n J aA=>?_,I.base.free,fun b o e aA=>?_,I.base.k4,I.base.j6,I.base.kZ⟩,⟨m,aU.sameBut aD (afA (p8 x c ax)),fun j y gn ae au bE=>?_⟩,fun y e2 e=>?_,I.free,I.mw,fun p a5=>?_,tracked ⟨ft,Hu,I.mw x c ax⟩ aD,by simpa using I.len⟩ ⟨c,aD,.inr ax⟩
  ·exact(aD.2 b (adn (adb (acZ e) (I.ok.tq x c Bl ax)))).trans (I.base.keep b o e n J aA)
  ·obtain⟨cB,ae⟩:=I.base.slot b o e n J aA;exact⟨cB,(aD.2 b (adn (adb (acZ e) (I.ok.tq x c Bl ax)))).trans ae⟩
  ·obtain⟨cc,ae⟩:=I.base.there b o e aA;exact⟨cc,(aD.2 b (adn (adb (acZ e) (I.ok.tq x c Bl ax)))).trans ae⟩
  ·by_cases cU:j=i
   ·subst cU;rw[ak]at ae;cases ae;rw[adX akσ]at au;cases au;exact⟨u,r,.inr ⟨.inl aK,c,ax,rU⟩⟩
   ·rw[adP (afA cU)]at au;obtain⟨fZ,a9,q⟩:=av j y gn ae au bE;refine⟨fZ,a9,?_⟩;rcases q with q|⟨k,e2,e,eh⟩
    ·exact .inl q
    ·refine .inr ⟨k,e2,e,eh.sameBut aD ?_⟩;rintro rfl;exact cU (IX b7 ae (I.ok.inj _ _ _ e ax▸ak))
  ·by_cases Hh:e2=c
   ·subst Hh;exact⟨_,rU⟩
   ·obtain⟨dj,a_⟩:=I.cell y e2 e;exact⟨dj,a_.sameBut aD Hh⟩
  ·obtain⟨e,n,ne,kQ,d⟩:=I.pin p a5;refine⟨(aD.2 p.1 ?_).trans e,n,ne,kQ,d⟩;intro q;rw[q,Hu]at e;have dS:ft=p.2:=ac0 e;exact d fG (by rw[←dS];exact PA)
theorem Kq{M:Model}{A:adp}{E:acV→acW→Prop}{i:Nat}{x:Str}{v:V}{u:acV}{Q:Unit→acW→Prop}(I:Inv X pins σ H s)(b7:X.N.Nodup)(ak:X.N[i]?=some x)(aA:Loc X.env.scope x)(r:RelV v u)(h:∀s',Inv X pins (σ.set i (some v)) H s'→Q () s')(hf:X.fn x=true∨X.env.scope.names.lookup x=some .local:=by first|exact .inl rfl|exact .inr rfl|assumption):adi M A (storeName X.env x u) Q E s:=
 Kr I b7 ak aA r (fun s' md _=>h s' md) hf
theorem Inv.MT{s':acW}{ch:List ac1}(I:Inv X pins σ H s)(aH:s'.os=s.os)(u:f7 (eP X.stack) ch H H' s.heap s'.heap)(bR:eA X.prog X.w H' s'.heap)(aI:agg s'.gens)(mA:∀b∈ch,(b∈X.ex∨X.fF.heap.objs.size≤b)∧b≠X.env.locals∧(∀x c,X.env.cells.lookup x=some c→c≠b)∧∀p∈X.dg++pins,p.1≠b):Inv X pins σ H' s':=by obtain⟨h',g',d',t',cc⟩:=s';have e:cc=s.os:=aH;subst e;exact I.call (g':=g') (t':=t') (d':=d') u bR aI mA
end
abbrev cT:=acV→Option ac1→ag→Prop
abbrev St:=List (Option V)
abbrev cH:=V→ag→Prop
abbrev TE:=St→ag→cH→Prop
abbrev TT:=St→ag→(Bool→ag→Prop)→Prop
abbrev eS:=St→ag→(List V→ag→Prop)→Prop
structure Ends where
 bL:St→ag→Prop
 c_:cH
 fk:St→ag→Prop:=fun _ _=>False
 c7:St→ag→Prop:=fun _ _=>False
abbrev eT:=Ends→St→ag→Prop
noncomputable def gr(X:aS)(pins:List (ac1×Obj))(σ :St)(Q:cH)(u:acV)(s':acW):Prop:=∃v H',Inv X pins σ H' s'∧RelV v u∧Q v H'
noncomputable def v_(X:aS)(pins:List (ac1×Obj))(σ :St)(Q:Bool→ag→Prop)(b:Bool)(s':acW):Prop:=∃H',Inv X pins σ H' s'∧Q b H'
noncomputable def L0(X:aS)(pins:List (ac1×Obj))(σ :St)(Q:List V→ag→Prop)(us:List acV)(s':acW):Prop:=∃vs H',Inv X pins σ H' s'∧Vals vs us∧Q vs H'
noncomputable def pZ(X:aS)(pins:List (ac1×Obj))(D:Ends)(f:Flow)(s':acW):Prop:=
 match f with
 |.next=>∃ σ' H',Inv X pins σ' H' s'∧D.bL σ' H'
 |.brk=>∃ σ' H',Inv X pins σ' H' s'∧D.fk σ' H'
 |.cont=>∃ σ' H',Inv X pins σ' H' s'∧D.c7 σ' H'
 |.ret u=>∃v σ' H',Inv X pins σ' H' s'∧RelV v u∧D.c_ v H'
noncomputable def a4(X:aS)(e:adq)(t:TE):Prop:=
 ∀(pins:List (ac1×Obj))(s:acW)(σ :St)(H:ag)(Q:cH),Inv X pins σ H s→t σ H Q→adi (adj X.prog X.w) X.A (adW e X.env) (gr X pins σ Q) X.xe s
noncomputable def e_(X:aS)(e:adq)(t:TT):Prop:=
 ∀(pins:List (ac1×Obj))(s:acW)(σ :St)(H:ag)(Q:Bool→ag→Prop),Inv X pins σ H s→t σ H Q→adi (adj X.prog X.w) X.A (isTrue e X.env (adW e X.env)) (v_ X pins σ Q) X.xe s
noncomputable def i0(X:aS)(e:adq)(t:TT):Prop:=
 ∀(whole:Sem acV)(pins:List (ac1×Obj))(s:acW)(σ :St)(H:ag)(Q:Bool→ag→Prop),Inv X pins σ H s→t σ H Q→adi (adj X.prog X.w) X.A (isTrue e X.env whole) (v_ X pins σ Q) X.xe s
theorem i0.pt{X:aS}{e:adq}{t:TT}(h:i0 X e t):e_ X e t:=h _
noncomputable def fh(X:aS)(ah:List adq)(t:eS):Prop:=
 ∀(pos:Pos)(pins:List (ac1×Obj))(s:acW)(σ :St)(H:ag)(Q:List V→ag→Prop),Inv X pins σ H s→t σ H Q→adi (adj X.prog X.w) X.A (spliced (adF pos (acX ah X.env))) (L0 X pins σ Q) X.xe s
noncomputable def cS(X:aS)(st:ad4)(t:eT):Prop:=
 ∀(pins:List (ac1×Obj))(s:acW)(σ :St)(H:ag)(D:Ends),Inv X pins σ H s→t D σ H→adi (adj X.prog X.w) X.A (exec st X.env) (pZ X pins D) X.xe s
noncomputable def fi(X:aS)(st:List ad4)(t:eT):Prop:=
 ∀(pins:List (ac1×Obj))(s:acW)(σ :St)(H:ag)(D:Ends),Inv X pins σ H s→t D σ H→adi (adj X.prog X.w) X.A (execs st X.env) (pZ X pins D) X.xe s
theorem bX{α:Type}{t:Sem α}{Q ig:α→acW→Prop}{M:Model}{A:adp}{E:acV→acW→Prop}{s:acW}(h:adi M A t Q E s)(gd:∀a s,Q a s→ig a s):adi M A t ig E s:=adY h gd fun _ _ x=>x
section
variable{X:aS}
theorem bin{a b:adq}{cg tb:TE}(U:a4 X a cg)(J:a4 X b tb){pins:List (ac1×Obj)}{s:acW}{σ :St}{H:ag}{R:V→V→ag→Prop}(I:Inv X pins σ H s)(h:cg σ H fun x H1=>tb σ H1 fun y aX=>R x y aX){α:Type}{Q:α→acW→Prop}{f:acV→acV→Sem α}(hf:∀v u s2 x y aX,Inv X pins σ aX s2→RelV x v→RelV y u→R x y aX→adi (adj X.prog X.w) X.A (f v u) Q X.xe s2) :
  adi (adj X.prog X.w) X.A (adW a X.env) (fun v dp=>adi (adj X.prog X.w) X.A (adW b X.env) (fun u kn=>adi (adj X.prog X.w) X.A (f v u) Q X.xe kn) X.xe dp) X.xe s:=by
 refine bX (U pins s σ H _ I h) fun v s1⟨x,H1,a6,aq,bb⟩=>?_;refine bX (J pins s1 σ H1 _ a6 bb) fun u s2⟨y,aX,cn,bp,bN⟩=>?_;exact hf v u s2 x y aX cn aq bp bN
def kY(i:Nat):TE:=fun σ H Q=>∃v,σ[i]?=some (some v)∧Q v H
def mQ(v:V):TE:=fun _ H Q=>Q v H
theorem fY{i:Nat}{x:Str}{pos:Pos}(b7:X.N[i]?=some x)(bP:fL X.env.scope x)(hd:(x==("__debug__" :Str))=false:=by decide)(dy:(x==("__classdict__" :Str))=false:=by decide):a4 X (.Name x pos) (kY i):=by
 intro pins s σ H Q I h;obtain⟨v,e,h⟩:=h;obtain⟨m,aU,av⟩:=I.loc;obtain⟨u,r,l⟩:=av i x v b7 e bP;have fin:gr X pins σ Q u s:=⟨v,H,I,r,h⟩;rcases l with⟨aK,hm⟩|⟨aK,c,ax,Hi⟩
 ·exact wpAny_Name (wpAny_loadName_local I.ok.kind aK aU hm fin) hd
 ·rcases aK with aK|aK
  ·exact wpAny_Name (wpAny_loadName_cell I.ok.kind aK ax Hi fin) hd
  ·exact wpAny_Name (wpAny_loadName_free I.ok.kind aK ax Hi fin dy) hd
theorem yh{i j pos}:a4 X (.Constant (.int i) j pos) (mQ (.int i)):=fun _ _ _ H _ I h=>wpAny_Constant_int ⟨.int i,H,I.tok _,⟨_,rfl⟩,h⟩
theorem UG{b j pos}:a4 X (.Constant (.bool b) j pos) (mQ (.aC b)):=fun _ _ _ H _ I h=>Constant_bool ⟨.aC b,H,I,rfl,h⟩
theorem UX{j pos}:a4 X (.Constant .none j pos) (mQ .non):=fun _ _ _ H _ I h=>Constant_none ⟨.non,H,I,rfl,h⟩
theorem Cr{x j pos}:a4 X (.Constant (.str x) j pos) (mQ (.str x)):=fun _ _ _ H _ I h=>Calls.Constant_str ⟨.str x,H,I.tok _,⟨_,rfl⟩,h⟩
def dF(X:aS)(x:Str):Prop:=X.env.kindOf x=some .globalImplicit
theorem xE{E:acV→acW→Prop}{pins:List (ac1×Obj)}{s:acW}{σ :St}{H:ag}{x:Str}{u:acV}{pos:Pos}{Q:acV→acW→Prop}(I:Inv X pins σ H s)(aI:dF X x)(hm:X.mg x=some u)(h:Q u s)(hd:(x==("__debug__" :Str))=false:=by decide):adi (adj X.prog X.w) X.A (adW (.Name x pos) X.env) Q E s:=
 af0 I.ok.kind aI (Calls.loadGlobal_global (by rw[I.ok.glob];exact I.mod.glob.keeps I.fk) hm h) hd
theorem nK{E:acV→acW→Prop}{pins:List (ac1×Obj)}{s:acW}{σ :St}{H:ag}{x:Str}{u:acV}{pos:Pos}{Q:acV→acW→Prop}(I:Inv X pins σ H s)(aI:dF X x)(hm:X.mg x=none)(bP:ad6 x=some u)(h:Q u s)(aU:x≠"__name__":=by decide)(hd:(x==("__debug__" :Str))=false:=by decide):adi (adj X.prog X.w) X.A (adW (.Name x pos) X.env) Q E s:=by obtain⟨mb,h1,h2⟩:=I.mod.blt;exact af0 I.ok.kind aI (Calls.loadGlobal_builtin (by rw[I.ok.glob];exact I.mod.glob.keeps I.fk) hm (by rw[I.ok.blt];exact h1.keeps I.fk) ((h2 x aU).trans bP) h) hd
theorem UP{x:Str}{v:V}{u:acV}{pos:Pos}(aI:dF X x)(hm:X.mg x=some u)(r:RelV v u)(hd:(x==("__debug__" :Str))=false:=by decide):a4 X (.Name x pos) (mQ v):=
 fun _ _ _ H _ I h=>xE I aI hm ⟨v,H,I,r,h⟩ hd
theorem UH{x:Str}{v:V}{u:acV}{pos:Pos}(aI:dF X x)(hm:X.mg x=none)(bP:ad6 x=some u)(r:RelV v u)(aU:x≠"__name__":=by decide)(hd:(x==("__debug__" :Str))=false:=by decide):a4 X (.Name x pos) (mQ v):=
 fun _ _ _ H _ I h=>nK I aI hm bP ⟨v,H,I,r,h⟩ aU hd
variable{a b:adq}{cg tb:TE}{pos:Pos}
noncomputable def v7(X:aS)(op:aic)(a b:adq)(t:TE):Prop:=
 ∀(pins:List (ac1×Obj))(s:acW)(σ :St)(H:ag)(Q:cH),Inv X pins σ H s→t σ H Q→
  adi (adj X.prog X.w) X.A (adW a X.env) (fun v dp=>adi (adj X.prog X.w) X.A (adW b X.env) (fun u kn=>adi (adj X.prog X.w) X.A (adV op v u) (gr X pins σ Q) X.xe kn) X.xe dp) X.xe s
theorem IW(b:adq){op:aic}(h:op≠.In)(h2:op≠.NotIn):adI op b=false:=by
 have ae:(op==CmpOp.In)=false:=by cases op<;>first|rfl|exact absurd rfl h
 have au:(op==CmpOp.NotIn)=false:=by cases op<;>first|rfl|exact absurd rfl h2
 cases b<;>simp[adI,ae,au]
def DJ(t:TE):TT:=fun σ H Q=>t σ H fun x H1=>∃c,x=.aC c∧Q c H1
theorem Jp{op:aic}{t:TE}(h:v7 X op a b t)(h1:adI op b=false:=by first|exact IW _ (by decide) (by decide)|rfl):a4 X (.Compare a [op] [b] pos) t:=fun pins s σ H Q I hw=>wpAny_Compare1 (h pins s σ H Q I hw) h1
theorem JF{op:aic}{t:TE}(h:v7 X op a b t)(h1:adI op b=false:=by first|exact IW _ (by decide) (by decide)|rfl):e_ X (.Compare a [op] [b] pos) (DJ t):=by intro pins s σ H Q I hw;refine wpAny_isTrue_Compare1 (bX (h pins s σ H _ I hw) fun v s1 h1=>bX h1 fun u s2 h2=>bX h2 fun c s3⟨x,H1,a6,aq,bb⟩=>?_) h1;obtain⟨d,rfl,q⟩:=bb;cases aq;exact adK ⟨H1,a6,q⟩
theorem Vq{e:adq}{t:TE}(h:a4 X e t)(he:∀whole,isTrue e X.env whole=(do let v ←whole;agN e.pos;afB [v] (truthy v)):=by intro _;rfl):e_ X e (DJ t):=by intro pins s σ H Q I hw;refine isTrue_plain (bX (h pins s σ H _ I hw) fun v s1⟨x,H1,a6,aq,bb⟩=>?_) (he _);obtain⟨d,rfl,q⟩:=bb;cases aq;exact adK ⟨H1,a6,q⟩
variable{eo yD:TT}{rest:List adq}
def Kz(t u:TT):TT:=fun σ H Q=>t σ H fun c H1=>if c=true then u σ H1 Q else Q false H1
def KQ(t u:TT):TT:=fun σ H Q=>t σ H fun c H1=>if c=true then Q true H1 else u σ H1 Q
def KO(t:TT):TT:=fun σ H Q=>t σ H fun c H1=>Q (!c) H1
theorem Vv(U:e_ X a eo):i0 X (.BoolOp .And [a] pos) eo:=by
 intro q_ pins s σ H Q I h;refine isTrue_and (bX (U pins s σ H Q I h) fun c s1 e=>?_);cases c with
 |true=>exact isTrue_and_nil e
 |false=>exact e
theorem Vx(U:e_ X a eo):i0 X (.BoolOp .Or [a] pos) eo:=by
 intro q_ pins s σ H Q I h;refine isTrue_or (bX (U pins s σ H Q I h) fun c s1 e=>?_);cases c with
 |false=>exact isTrue_or_nil e
 |true=>exact e
theorem Vu(U:e_ X a eo)(J:i0 X (.BoolOp .And (b::rest) pos) yD):i0 X (.BoolOp .And (a::b::rest) pos) (Kz eo yD):=by
 intro q_ pins s σ H Q I h;refine isTrue_and (bX (U pins s σ H _ I h) fun c s1⟨H1,a6,bb⟩=>?_);cases c with
 |true=>exact J q_ pins s1 σ H1 Q a6 bb
 |false=>exact⟨H1,a6,bb⟩
theorem Vw(U:e_ X a eo)(J:i0 X (.BoolOp .Or (b::rest) pos) yD):i0 X (.BoolOp .Or (a::b::rest) pos) (KQ eo yD):=by
 intro q_ pins s σ H Q I h;refine isTrue_or (bX (U pins s σ H _ I h) fun c s1⟨H1,a6,bb⟩=>?_);cases c with
 |true=>exact⟨H1,a6,bb⟩
 |false=>exact J q_ pins s1 σ H1 Q a6 bb
theorem Vp(U:e_ X a eo):e_ X (.UnaryOp .Not a pos) (KO eo):=by intro pins s σ H Q I h;exact isTrue_not (U pins s σ H (fun c H1=>Q (!c) H1) I h)
noncomputable def KA(cg tb:TE):TE:=fun σ H Q=>cg σ H fun x H1=>∃c,x=.aC c∧if c=true then tb σ H1 Q else Q (.aC false) H1
noncomputable def KR(cg tb:TE):TE:=fun σ H Q=>cg σ H fun x H1=>∃c,x=.aC c∧if c=true then Q (.aC true) H1 else tb σ H1 Q
def KP(cg:TE):TE:=fun σ H Q=>cg σ H fun x H1=>∃c,x=.aC c∧Q (.aC (!c)) H1
theorem Jr{op}{t:TE}(h:a4 X a t):a4 X (.BoolOp op [a] pos) t:=fun pins s σ H Q I hw=>BoolOp_one (h pins s σ H Q I hw)
theorem Jn(U:a4 X a cg)(J:a4 X (.BoolOp .And (b::rest) pos) tb):a4 X (.BoolOp .And (a::b::rest) pos) (KA cg tb):=by
 intro pins s σ H Q I h;refine BoolOp_and (bX (U pins s σ H _ I h) fun v s1⟨x,H1,a6,aq,bb⟩=>?_);obtain⟨c,rfl,bb⟩:=bb;cases aq;refine adK ?_;cases c with
 |true=>exact J pins s1 σ H1 Q a6 bb
 |false=>exact⟨.aC false,H1,a6,rfl,bb⟩
theorem UZ(U:a4 X a cg)(J:a4 X (.BoolOp .Or (b::rest) pos) tb):a4 X (.BoolOp .Or (a::b::rest) pos) (KR cg tb):=by
 intro pins s σ H Q I h;refine BoolOp_or (bX (U pins s σ H _ I h) fun v s1⟨x,H1,a6,aq,bb⟩=>?_);obtain⟨c,rfl,bb⟩:=bb;cases aq;refine adK ?_;cases c with
 |false=>exact J pins s1 σ H1 Q a6 bb
 |true=>exact⟨.aC true,H1,a6,rfl,bb⟩
theorem UY(U:a4 X a cg):a4 X (.UnaryOp .Not a pos) (KP cg):=by intro pins s σ H Q I h;refine UnaryOp_ (bX (U pins s σ H _ I h) fun v s1⟨x,H1,a6,aq,bb⟩=>?_);obtain⟨c,rfl,bb⟩:=bb;cases aq;exact not_of (adK ⟨.aC (!c),H1,a6,rfl,bb⟩)
def KI(t:TT)(cg tb:TE):TE:=fun σ H Q=>t σ H fun c H1=>if c=true then cg σ H1 Q else tb σ H1 Q
theorem UQ{c:adq}(ax:e_ X c eo)(U:a4 X a cg)(J:a4 X b tb):a4 X (.IfExp c a b pos) (KI eo cg tb):=by
 intro pins s σ H Q I h;refine wpAny_IfExp (bX (ax pins s σ H _ I h) fun d s1⟨H1,a6,bb⟩=>?_);cases d with
 |true=>exact U pins s1 σ H1 Q a6 bb
 |false=>exact J pins s1 σ H1 Q a6 bb
end
noncomputable def bQ(K:PySem.W.Frag)(H:ag)(a:ac1)(xs:List V):Prop:=
 fQ H a (.lst xs)∨
  ∃(o:Obj)(its:Array acV)(n:Nat),K.lookup a=some o∧o.cls=.type "list"∧o.dict=none∧o.data=.seq its n∧its.size≤ade∧Vals xs its.toList
noncomputable def b_(K:PySem.W.Frag)(H:ag)(a:ac1)(xs:List V):Prop:=
 fQ H a (.tup xs)∨
  ∃(o:Obj)(its:Array acV)(n:Nat),K.lookup a=some o∧o.cls=.type "tuple"∧o.data=.seq its n∧its.size≤ade∧Vals xs its.toList
noncomputable def Mi:acV→Option V
 |.none=>some .non
 |.bool b=>some (.aC b)
 |.int i _=>some (.int i)
 |.str x _=>some (.str x)
 |.bytes b _=>some (.mn b)
 |.float b _=>some (.wW b)
 |.ref a=>some (.ref a)
 |.type n=>some (.ty n)
 |_=>none
theorem RelV.abs{x:V}{u:acV}(r:RelV x u):Mi u=some x:=by
 cases x with
 |non=>cases r;rfl
 |aC _=>cases r;rfl
 |int _=>obtain⟨t,rfl⟩:=r;rfl
 |str _=>obtain⟨t,rfl⟩:=r;rfl
 |mn _=>obtain⟨t,rfl⟩:=r;rfl
 |wW _=>obtain⟨t,rfl⟩:=r;rfl
 |ref _=>cases r;rfl
 |ty _=>cases r;rfl
theorem RelV.inj{x y:V}{u:acV}(r:RelV x u)(q:RelV y u):x=y:=ac0 (r.abs.symm.trans q.abs)
theorem Vals.inj:∀{xs ys:List V}{us:List acV},Vals xs us→Vals ys us→xs=ys
 |_,_,_,.nil,.nil=>rfl
 |_,_,_,.cons r t,.cons a9 t'=>by rw[r.inj a9,Vals.inj t t']
section
variable{X:aS}{pins:List (ac1×Obj)}{σ :St}{H:ag}{s:acW}{a:ac1}{xs ys:List V}
theorem bQ.of{K:PySem.W.Frag}(h:H a=some (.lst xs)):bQ K H a xs:=.inl (.inl h)
theorem b_.of{K:PySem.W.Frag}(h:H a=some (.tup xs)):b_ K H a xs:=.inl (.inl h)
theorem Inv.list(I:Inv X pins σ H s)(h:bQ X.K H a xs):∃its:List acV,Vals xs its∧PlainL s.heap a its.toArray∧xs.length≤ade:=by
 rcases h with h|⟨o,its,n,aK,ax,hd,aD,bj,r⟩
 ·obtain⟨z,its,n,r,e⟩:=h.ok I.bR;exact⟨its,r,⟨_,n,e,rfl,rfl,rfl⟩,z⟩
 ·refine⟨its.toList,r,⟨o,n,I.gf a o aK,ax,hd,by simpa using aD⟩,?_⟩;have e:=r.length;simp only[afQ]at e;omega
theorem Inv.tuple(I:Inv X pins σ H s)(h:b_ X.K H a xs):∃its:List acV,Vals xs its∧IsTup s.heap a its.toArray∧xs.length≤ade:=by
 rcases h with h|⟨o,its,n,aK,ax,aD,bj,r⟩
 ·obtain⟨z,its,r,p⟩:=h.ok I.bR;exact⟨its,r,p,z⟩
 ·refine⟨its.toList,r,⟨o,I.gf a o aK,ax,n,by simpa using aD⟩,?_⟩;have e:=r.length;simp only[afQ]at e;omega
theorem Inv.uc(I:Inv X pins σ H s)(h:bQ X.K H a xs)(h':bQ X.K H a ys):xs=ys:=by
 obtain⟨its,r,⟨o,n,e,_,_,d⟩,_⟩:=I.list h;obtain⟨its',a9,⟨cc,lN,cN,_,_,d'⟩,_⟩:=I.list h';rw[e]at cN;cases cN;rw[d]at d';injection d' with d1 _;have:its=its':=by simpa using congrArg Array.toList d1
 subst this;exact r.inj a9
theorem Inv.vy(I:Inv X pins σ H s)(h:b_ X.K H a xs)(h':b_ X.K H a ys):xs=ys:=by
 obtain⟨its,r,⟨o,e,_,n,d⟩,_⟩:=I.tuple h;obtain⟨its',a9,⟨cc,cN,_,lN,d'⟩,_⟩:=I.tuple h';rw[e]at cN;cases cN;rw[d]at d';injection d' with d1 _;have:its=its':=by simpa using congrArg Array.toList d1
 subst this;exact r.inj a9
end
abbrev aS.kp(X:aS)(E:acV→acW→Prop):aS:={ X with xe:=E }
abbrev aS.gh(X:aS):aS:=X.kp fun _ _=>False
theorem aS.Ok.kp{X:aS}(ok:X.Ok)(E:acV→acW→Prop):(X.kp E).Ok:=
 ⟨ok.mod,ok.kind,ok.glob,ok.blt,ok.above,ok.inj,ok.has,ok.tq,ok.hd,ok.frames,ok.yA,ok.F9,ok.bs,ok.oC,ok.nZ,ok.wU,ok.jI,ok.qj⟩
theorem aS.Ok.jU{X:aS}{E:acV→acW→Prop}(ok:(X.kp E).Ok):X.Ok:=
 ⟨ok.mod,ok.kind,ok.glob,ok.blt,ok.above,ok.inj,ok.has,ok.tq,ok.hd,ok.frames,ok.yA,ok.F9,ok.bs,ok.oC,ok.nZ,ok.wU,ok.jI,ok.qj⟩
section
variable{X:aS}{pins:List (ac1×Obj)}{σ :St}{H:ag}{s:acW}{E:acV→acW→Prop}
theorem Inv.kp(I:Inv X pins σ H s)(E:acV→acW→Prop):Inv (X.kp E) pins σ H s:=⟨I.ok.kp E,I.os,I.bare,I.base,I.loc,I.cell,I.free,I.mw,I.pin,I.bR,I.len⟩
theorem Inv.jU(I:Inv (X.kp E) pins σ H s):Inv X pins σ H s:=⟨I.ok.jU,I.os,I.bare,I.base,I.loc,I.cell,I.free,I.mw,I.pin,I.bR,I.len⟩
theorem pZ.jU{D:Ends}{f:Flow}{s':acW}(h:pZ (X.kp E) pins D f s'):pZ X pins D f s':=by
 cases f with
 |next=>obtain⟨σ',H',I,q⟩:=h;exact⟨σ',H',I.jU,q⟩
 |brk=>obtain⟨σ',H',I,q⟩:=h;exact⟨σ',H',I.jU,q⟩
 |cont=>obtain⟨σ',H',I,q⟩:=h;exact⟨σ',H',I.jU,q⟩
 |ret u=>obtain⟨v,σ',H',I,r,q⟩:=h;exact⟨v,σ',H',I.jU,r,q⟩
theorem fi.gh{st:List ad4}{t:eT}(h:fi X.gh st t):fi X st t:=fun pins s σ H D I hw=>
 adY (h pins s σ H D (I.kp _) hw) (fun _ _ q=>q.jU) fun _ _ z=>aej z
end
section
variable{X:aS}{st:ad4}{rest:List ad4}{t u:eT}{e:adq}{te:TE}{pos:Pos}
def DQ:eT:=fun D σ H=>D.bL σ H
def vt(t u:eT):eT:=fun D σ H=>t { D with bL:=u D } σ H
theorem Cw:fi X [] DQ:=fun _ _ σ H _ I h=>afR ⟨σ,H,I,h⟩
theorem qW(h1:cS X st t)(h2:fi X rest u):fi X (st::rest) (vt t u):=by
 intro pins s σ H D I h;refine wpAny_execs_cons (bX (h1 pins s σ H { D with bL:=u D } I h) fun f s1 q=>?_);cases f with
 |next=>obtain⟨σ',H',md,q⟩:=q;exact h2 pins s1 σ' H' D md q
 |ret v=>exact q
 |brk=>exact q
 |cont=>exact q
theorem vc(h1:cS X st t):fi X [st] t:=by
 intro pins s σ H D I h;refine wpAny_execs_cons (bX (h1 pins s σ H D I h) fun f s1 q=>?_);cases f with
 |next=>exact afR q
 |ret v=>exact q
 |brk=>exact q
 |cont=>exact q
theorem Inv.quiet{pins:List (ac1×Obj)}{σ :St}{H:ag}{s:acW}(I:Inv X pins σ H s):interactive X.env=false:=by simp[interactive,I.ok.kind]
def DM(te:TE):eT:=fun D σ H=>te σ H fun _ H1=>D.bL σ H1
theorem qV(he:a4 X e te)(aD:afu e none pos.line X.env=pure false:=by rfl):cS X (.Expr e pos) (DM te):=by intro pins s σ H D I h;exact wpAny_Expr_any (bX (he pins s σ H _ I h) fun v s1⟨x,H1,a6,aq,bb⟩=>⟨σ,H1,a6,bb⟩) I.quiet aD
def q5(te:TE):eT:=fun D σ H=>te σ H D.c_
theorem lT(he:a4 X e te):cS X (.Return (some e) pos) (q5 te):=by intro pins s σ H D I h;exact wpAny_Return_some (bX (he pins s σ H _ I h) fun v s1⟨x,H1,a6,aq,bb⟩=>⟨x,σ,H1,a6,aq,bb⟩)
def DP(c:TT)(t u:eT):eT:=fun D σ H=>c σ H fun b H1=>if b=true then t D σ H1 else u D σ H1
theorem Cv{c:adq}{a b:List ad4}{tc:TT}(ax:e_ X c tc)(U:fi X a t)(J:fi X b u):cS X (.If c a b pos) (DP tc t u):=by
 intro pins s σ H D I h;refine wpAny_If (bX (ax pins s σ H _ I h) fun d s1⟨H1,a6,bb⟩=>?_);cases d with
 |true=>exact U pins s1 σ H1 D a6 bb
 |false=>exact J pins s1 σ H1 D a6 bb
def KN:eT:=fun _ _ _=>False
theorem JE:cS X st KN:=fun _ _ _ _ _ _ h=>h.elim
end
abbrev ht:=V→St→ag→(St→ag→Prop)→Prop
abbrev mj:=List V→St→ag→(St→ag→Prop)→Prop
noncomputable def iZ(X:aS)(target:adq)(t:ht):Prop:=
 ∀(pins:List (ac1×Obj))(s:acW)(σ :St)(H:ag)(v:V)(u:acV)(Q:St→ag→Prop),Inv X pins σ H s→RelV v u→t v σ H Q→
  adi (adj X.prog X.w) X.A (agr target X.env u) (fun _ s'=>∃ σ' H',Inv X pins σ' H' s'∧Q σ' H') X.xe s
noncomputable def s7(X:aS)(aL:List adq)(t:mj):Prop:=
 ∀(pins:List (ac1×Obj))(s:acW)(σ :St)(H:ag)(vs:List V)(us:List acV)(Q:St→ag→Prop),Inv X pins σ H s→Vals vs us→t vs σ H Q→
  adi (adj X.prog X.w) X.A (assignInOrder ((aex aL X.env).map (·.2)) us) (fun _ s'=>∃ σ' H',Inv X pins σ' H' s'∧Q σ' H') X.xe s
abbrev zG:=V→V→V→ag→(ag→Prop)→Prop
noncomputable def ER(X:aS)(t:zG):Prop:=
 ∀(pins:List (ac1×Obj))(s:acW)(σ :St)(H:ag)(o i v:V)(dY gL u:acV)(Q:ag→Prop),Inv X pins σ H s→RelV o dY→RelV i gL→RelV v u→t o i v H Q→
  adi (adj X.prog X.w) X.A (setItem dY gL u) (fun _ s'=>∃H',Inv X pins σ H' s'∧Q H') X.xe s
section
variable{X:aS}{pos:Pos}
def g4(i:Nat):ht:=fun v σ H Q=>Q (σ.set i (some v)) H
theorem u7{i:Nat}{x:Str}(b7:X.N.Nodup)(ak:X.N[i]?=some x)(aA:Loc X.env.scope x)(hf:X.fn x=true∨X.env.scope.names.lookup x=some .local:=by first|exact .inl rfl|exact .inr rfl|assumption):iZ X (.Name x pos) (g4 i):=by intro pins s σ H v u Q I r h;exact wpAny_assign_Name (Kq I b7 ak aA r (fun s' md=>⟨_,H,md,h⟩) hf)
def w0:mj:=fun vs σ H Q=>vs=[]∧Q σ H
def tJ(t:ht)(u:mj):mj:=fun vs σ H Q=>∃v r,vs=v::r∧t v σ H fun σ' H'=>u r σ' H' Q
theorem Jt:s7 X [] w0:=by intro pins s σ H vs us Q I r h;obtain⟨e,h⟩:=h;subst e;cases r;exact assignInOrder_nil ⟨σ,H,I,h⟩
theorem Ct{e:adq}{ah:List adq}{t:ht}{u:mj}(h1:iZ X e t)(h2:s7 X ah u)(aD:(aex (e::ah) X.env).map (·.2)=agr e X.env::(aex ah X.env).map (·.2):=by rfl):s7 X (e::ah) (tJ t u):=by
 intro pins s σ H vs us Q I r h;obtain⟨v,yV,ae,h⟩:=h;subst ae;cases r with
 |cons r qZ=>rw[aD];refine assignInOrder_cons (bX (h1 pins s σ H _ _ _ I r h) fun _ s1⟨σ1,H1,a6,bb⟩=>?_);exact h2 pins s1 σ1 H1 _ _ Q a6 qZ bb
noncomputable def w1(K:PySem.W.Frag)(n:Nat)(t:mj):ht:=fun v σ H Q=>∃a xs,v=.ref a∧b_ K H a xs∧xs.length=n∧t xs σ H Q
theorem Js{ah:List adq}{k:Nat}{t:mj}{n:Nat}(ax:X.calm=true)(h:s7 X ah t)(aU:(aex ah X.env).length=n:=by rfl)(iH:(aex ah X.env).findIdx? (·.1)=none:=by rfl):iZ X (.Tuple ah k pos) (w1 X.K n t):=by intro pins s σ H v u Q I r hw;obtain⟨a,xs,ae,aP,av,hw⟩:=hw;subst ae;cases r;obtain⟨its,b4,bJ,bj⟩:=I.tuple aP;refine assign_Tuple_tuple (I.ok.hd ax) bJ (by simp[aU,←av,b4.length]) iH fun h' aA=>?_;have a6:Inv X pins σ H { s with heap:=h' }:=I.kept (t':=s.toks) fun b o e=>aA b o (adn (acZ e)) e;exact h pins _ σ H xs _ Q a6 (by simpa using b4) hw
noncomputable def G6(to yN:TE)(t:zG):ht:=fun v σ H Q=>to σ H fun o H1=>yN σ H1 fun i aX=>t o i v aX fun cK=>Q σ cK
theorem U3 {o i:adq} {to yN:TE} {t:zG} (aH:a4 X o to) (ak:a4 X i yN) (aD:ER X t)(U:∀v,agr (.Subscript o i pos) X.env v=(do
    let dY ←afB [v] (adW o X.env)
    let gL ←afB [v,dY] (adW i X.env)
    agN pos
    afB [v,dY,gL] (setItem dY gL v)
    release [v,dY,gL] []):=by intro _;rfl):iZ X (.Subscript o i pos) (G6 to yN t):=by
 intro pins s σ H v u Q I r h;rw[U];refine acU (afL (bX (aH pins s σ H _ I h) fun dY s1⟨x,H1,a6,aq,bb⟩=>?_));refine acU (afL (bX (ak pins s1 σ H1 _ a6 bb) fun gL s2⟨y,aX,cn,bp,bN⟩=>?_));refine acU (wpAny_standAt (acU (afL (bX (aD pins s2 σ aX x y v dY gL u _ cn aq bp r bN) fun _ s3⟨cK,d0,d6⟩=>?_))));exact wpAny_release ⟨σ,cK,d0,d6⟩
def jP(te:TE)(g:ht):eT:=fun D σ H=>te σ H fun x H1=>g x σ H1 D.bL
theorem JB{bU e:adq}{te:TE}{g:ht}(he:a4 X e te)(aI:iZ X bU g)(aD:swapsWithSole [bU] e pos.line X.env=pure false:=by rfl)(hw:swappedStores [bU] e X.env=pure none:=by rfl)(h1:(aex [bU] X.env).map (·.2)=[agr bU X.env]:=by rfl):cS X (.Assign [bU] e pos) (jP te g):=by intro pins s σ H D I h;refine wpAny_Assign_stores (bX (he pins s σ H _ I h) fun v s1⟨x,H1,a6,aq,bb⟩=>?_) aD hw;rw[h1];exact bX (aI pins s1 σ H1 x v _ a6 aq bb) fun _ s2 q=>q
theorem pk{i:Nat}{x:Str}{e:adq}{te:TE}{pos':Pos}(b7:X.N.Nodup)(ak:X.N[i]?=some x)(aA:Loc X.env.scope x)(he:a4 X e te)(aD:afu e (some (.Name x pos')) pos.line X.env=pure false:=by rfl)(hf:X.fn x=true∨X.env.scope.names.lookup x=some .local:=by first|exact .inl rfl|exact .inr rfl|assumption) :
  cS X (.Assign [.Name x pos'] e pos) (jP te (g4 i)):=by
 intro pins s σ H D I h;refine wpAny_Assign_Name (bX (he pins s σ H _ I h) fun v s1⟨y,H1,a6,aq,bb⟩=>?_) aD;exact Kq a6 b7 ak aA aq (fun s2 cn=>⟨_,H1,cn,bb⟩) hf
end
section
variable{X:aS}{pos:Pos}
noncomputable def KW(c:TT)(tb:eT):eT:=fun D σ H=>∃W:Nat→St→ag→Prop,(∃m,W m σ H)∧∀m σ H,W m σ H→
 c σ H fun b H1=>if b=true then ∃N:St→ag→Prop,(∀ σ' H',N σ' H'→∃eD,eD<m∧W eD σ' H')∧tb { D with bL:=N,c7:=N,fk:=D.bL } σ H1 else D.bL σ H1
theorem Vm{c:adq}{body:List ad4}{tc:TT}{tb:eT}(a5:ahS (adj X.prog X.w) X.A X.env X.xe)(ax:e_ X c tc)(J:fi X body tb):cS X (.While c body [] pos) (KW tc tb):=by
 intro pins s σ H D I h;obtain⟨W,⟨m0,oh⟩,turn⟩:=h;refine wpAny_While (codeAny_whileLoop (fun n s'=>∃ σ' H',Inv X pins σ' H' s'∧W n σ' H') ?_ m0 ⟨σ,H,I,oh⟩);rintro n s1 ⟨σ1,H1,a6,dq⟩;refine aey a5 (bX (ax pins s1 σ1 H1 _ a6 (turn n σ1 H1 dq)) fun b s2⟨aX,cn,bN⟩=>?_);cases b with
 |true=>
  obtain⟨N,b7,bN⟩:=bN;rw[if_pos rfl];refine aey a5 (bX (J pins s2 σ1 aX _ cn bN) fun f s3 d6=>?_);cases f with
  |next=>obtain⟨σ3,cK,d0,lO⟩:=d6;obtain⟨eD,hm,dZ⟩:=b7 σ3 cK lO;exact⟨eD,hm,σ3,cK,d0,dZ⟩
  |cont=>obtain⟨σ3,cK,d0,lO⟩:=d6;obtain⟨eD,hm,dZ⟩:=b7 σ3 cK lO;exact⟨eD,hm,σ3,cK,d0,dZ⟩
  |brk=>exact d6
  |ret v=>exact d6
 |false=>rw[if_neg adw];exact afR ⟨σ1,aX,cn,bN⟩
end
structure It where
 go:Nat→ag→Prop
 iU:Nat→ag→V→ag→Prop
 stop:Nat→ag→Prop
noncomputable def ia(X:aS)(pins:List (ac1×Obj))(H:ag)(b:ac1):Prop:=
 H b=none∧b≠X.env.locals∧b∉X.a8∧(b∈X.ex∨X.fF.heap.objs.size≤b)∧(∀x c,X.env.cells.lookup x=some c→c≠b)∧∀p∈X.dg++pins,p.1≠b
theorem Inv.nr{X:aS}{pins:List (ac1×Obj)}{σ :St}{H H':ag}{s:acW}{b:ac1}(I:Inv X pins σ H s)(J:s.heap.objs.size≤b)(aU:H' b=none):ia X pins H' b:=by
 refine⟨aU,aeC (adb I.lt J),I.TR J,.inr (adt I.kX J),fun x c e z=>?_,fun p a5 z=>?_⟩
 ·obtain⟨v,q⟩:=I.cell x c e;exact absurd (adb q.lt (by rw[z];exact J)) (adU _)
 ·exact absurd (adb (acZ (I.pin p a5).1) (by rw[z];exact J)) (adU _)
structure Turn(P:ac_)(w:adB)(K:PySem.W.Frag)(bU:adq)(cC:It)(aQ:List ac1)(it:ac1)(gF:Nat→adT→Prop):Prop where
 mem:it∈aQ
 obj:∀i h,gF i h→∀b∈aQ,∃o,h.get? b=some o∧∀v,o.data≠.cell v
 keep:∀i h h',gF i h→(∀b∈aQ,∀o,h.get? b=some o→h'.get? b=some o)→gF i h'
 item:∀(X:aS),X.prog=P→X.w=w→X.K=K→X.calm=true→∀(i:Nat)(pins:List (ac1×Obj))(s:acW)(σ :St)(H:ag)(E:acV→acW→Prop),Inv X pins σ H s→(∀b∈aQ,ia X pins H b)→gF i s.heap→cC.go i H→
  adi (adj P w) X.A (pyNext (.ref it)) (fun r s1=>∃u,r=some u∧
   adi (adj P w) X.A (afS bU (.ref it) u) (fun _ s2=>∃x H',Inv X pins σ H' s2∧RelV x u∧cC.iU i H x H'∧gF (i+1) s2.heap∧∀b∈aQ,H' b=none) E s1) E s
 done:∀(X:aS),X.prog=P→X.w=w→X.K=K→X.calm=true→∀(i:Nat)(pins:List (ac1×Obj))(s:acW)(σ :St)(H:ag)(E:acV→acW→Prop),Inv X pins σ H s→(∀b∈aQ,ia X pins H b)→gF i s.heap→cC.stop i H→
  adi (adj P w) X.A (pyNext (.ref it)) (fun r s1=>r=none∧Inv X pins σ H s1) E s
 self:∀(A:adp)(i:Nat)(s:acW)(Q:acV→acW→Prop)(E:acV→acW→Prop),gF i s.heap→Q (.ref it) s→adi (adj P w) A (pyIter (.ref it)) Q E s
abbrev TI:=St→ag→(It→ag→Prop)→Prop
noncomputable def EP(X:aS)(pins:List (ac1×Obj))(σ :St)(bU:adq)(R:It→ag→Prop)(xq:acV)(s2:acW):Prop:=
 ∃(it:ac1)(aQ:List ac1)(gF:Nat→adT→Prop)(cC:It)(H':ag),xq=.ref it∧Inv X pins σ H' s2∧Turn X.prog X.w X.K bU cC aQ it gF∧gF 0 s2.heap∧(∀b∈aQ,ia X pins H' b)∧R cC H'
noncomputable def f6(X:aS)(bU iter:adq)(iT:TI):Prop:=
 ∀(pins:List (ac1×Obj))(s:acW)(σ :St)(H:ag)(R:It→ag→Prop),Inv X pins σ H s→iT σ H R→
  adi (adj X.prog X.w) X.A (adW iter X.env) (fun v s1=>adi (adj X.prog X.w) X.A (pyIter v) (EP X pins σ bU R) X.xe s1) X.xe s
theorem w4{M:Model}{A:adp}{E:acV→acW→Prop}{s:acW}{bU:adq}{it:ac1}{u:acV}{o:Obj}{n:String}{vs:Array acV}{Q:Unit→acW→Prop}(aH:s.heap.get? it=some o)(ax:o.cls=.type n)(hd:o.data=.fields vs)(aU:["enumerate","zip","dict_itemiterator","dict_reverseitemiterator","odict_iterator","itertools.zip_longest","itertools.pairwise"].contains n=false)(gd:Q () s):adi M A (afS bU (.ref it) u) Q E s:=by
 unfold afS
 cases bU<;>first
  |exact ac5 gd
  |(cases u<;>first
      |exact ac5 gd
      |(refine acU (wpAny_load aH ?_)
        rw[ax,hd];show adi M A (if(["enumerate","zip","dict_itemiterator","dict_reverseitemiterator","odict_iterator","itertools.zip_longest","itertools.pairwise"].contains n&&vs[0]?==some (rawInt _))=true then _ else _) Q E s;rw[if_neg (by intro h;rw[aU,Bool.false_and]at h;cases h)];exact ac5 gd))
noncomputable def zv(K:PySem.W.Frag)(a:ac1):It:=
 ⟨fun i H=>∃xs x,bQ K H a xs∧xs[i]?=some x,fun i H x H'=>H'=H∧∀xs,bQ K H a xs→xs[i]?=some x,fun i H=>∃xs,bQ K H a xs∧xs.length≤i⟩
noncomputable def zx(K:PySem.W.Frag)(a:ac1):It:=
 ⟨fun i H=>∃xs x,b_ K H a xs∧xs[i]?=some x,fun i H x H'=>H'=H∧∀xs,b_ K H a xs→xs[i]?=some x,fun i H=>∃xs,b_ K H a xs∧xs.length≤i⟩
def vY(lo:Int)(n:Nat):It:=⟨fun i _=>i<n,fun i H x H'=>H'=H∧x=.int (lo+i),fun i _=>n≤i⟩
theorem XM{P:ac_}{w:adB}{K:PySem.W.Frag}{bU:adq}(a it:ac1):Turn P w K bU (zv K a) [it] it (fun i h=>h.IsListIter it a i) where
 mem:=by simp
 obj:=fun i h st b J=>by
  have e:b=it:=by simpa using J
  subst e;obtain⟨o,e,c,d⟩:=st;exact⟨o,e,fun v z=>by rw[d]at z;cases z⟩
 keep:=fun i h h' st k=>st.at fun o e=>k it (by simp) o e
 item:=by intro X hP hw aY ax i pins s σ H E I hf st aI;subst hP hw aY;obtain⟨xs,x,aP,aA⟩:=aI;obtain⟨its,b4,p,bj⟩:=I.list aP;obtain⟨u,aV,dV⟩:=b4.get aA;obtain⟨f0,f1,f2,fO,f4,il⟩:=hf it (by simp);refine wpAny_pyNext_list_item st p.isList (x:=u) (by simpa using aV) fun h' lX jm=>?_;have a6:Inv X pins σ H { s with heap:=h' }:=I.turned (t':=s.toks) (fun b o J e=>(jm.2 b J).trans e) f0 f1 fO f4 il;obtain⟨o,e,c,d⟩:=id lX;exact⟨u,rfl,w4 (s:={ s with heap:=h' }) e c d (by decide) ⟨x,H,a6,dV,⟨rfl,fun ys b8=>by rw[I.uc b8 aP];exact aA⟩,lX,fun b J=>(hf b J).1⟩⟩
 done:=by intro X hP hw aY ax i pins s σ H E I hf st aI;subst hP hw aY;obtain⟨xs,aP,aA⟩:=aI;obtain⟨its,b4,p,bj⟩:=I.list aP;obtain⟨f0,f1,f2,fO,f4,il⟩:=hf it (by simp);have av:=b4.length;exact wpAny_pyNext_list_end (I.ok.hd ax) st p.isList (by simp;omega) fun h' bx=>⟨rfl,I.turned (t':=s.toks) (fun b o J e=>bx b o J e) f0 f1 fO f4 il⟩
 self:=fun _ _ _ _ _ st h=>wpAny_pyIter_listiter st h
theorem XP{P:ac_}{w:adB}{K:PySem.W.Frag}{bU:adq}(a it:ac1):Turn P w K bU (zx K a) [it] it (fun i h=>h.IsTupleIter it a i) where
 mem:=by simp
 obj:=fun i h st b J=>by
  have e:b=it:=by simpa using J
  subst e;obtain⟨o,e,c,d⟩:=st;exact⟨o,e,fun v z=>by rw[d]at z;cases z⟩
 keep:=fun i h h' st k=>st.at fun o e=>k it (by simp) o e
 item:=by intro X hP hw aY ax i pins s σ H E I hf st aI;subst hP hw aY;obtain⟨xs,x,aP,aA⟩:=aI;obtain⟨its,b4,p,bj⟩:=I.tuple aP;obtain⟨u,aV,dV⟩:=b4.get aA;obtain⟨f0,f1,f2,fO,f4,il⟩:=hf it (by simp);refine wpAny_pyNext_tuple_item st (show s.heap.IsTuple a its.toArray from p) (x:=u) (by simpa using aV) fun h' lX jm=>?_;have a6:Inv X pins σ H { s with heap:=h' }:=I.turned (t':=s.toks) (fun b o J e=>(jm.2 b J).trans e) f0 f1 fO f4 il;obtain⟨o,e,c,d⟩:=id lX;exact⟨u,rfl,w4 (s:={ s with heap:=h' }) e c d (by decide) ⟨x,H,a6,dV,⟨rfl,fun ys b8=>by rw[I.vy b8 aP];exact aA⟩,lX,fun b J=>(hf b J).1⟩⟩
 done:=by intro X hP hw aY ax i pins s σ H E I hf st aI;subst hP hw aY;obtain⟨xs,aP,aA⟩:=aI;obtain⟨its,b4,p,bj⟩:=I.tuple aP;obtain⟨f0,f1,f2,fO,f4,il⟩:=hf it (by simp);have av:=b4.length;exact wpAny_pyNext_tuple_end (I.ok.hd ax) st (show s.heap.IsTuple a its.toArray from p) (by simp;omega) fun h' bx=>⟨rfl,I.turned (t':=s.toks) (fun b o J e=>bx b o J e) f0 f1 fO f4 il⟩
 self:=fun _ _ _ _ _ st h=>wpAny_pyIter_tupleiter st h
theorem XN{P:ac_}{w:adB}{K:PySem.W.Frag}{bU:adq}(it:ac1)(lo:Int)(n:Nat):Turn P w K bU (vY lo n) [it] it (fun i h=>IsRangeIter h it (lo+(i:Nat)*1) ((n:Int)-(i:Nat)) 1) where
 mem:=by simp
 obj:=fun i h st b J=>by
  have e:b=it:=by simpa using J
  subst e;exact⟨_,st,fun v z=>by have eh:agh _=aeZ v:=z;cases eh⟩
 keep:=fun i h h' st k=>k it (by simp) _ st
 item:=by intro X hP hw aY ax i pins s σ H E I hf st aI;subst hP hw aY;obtain⟨f0,f1,f2,fO,f4,il⟩:=hf it (by simp);have W:=Walks.range (prog:=X.prog) (w:=X.w) (I.ok.hd ax) it lo 1 n;refine W.item i s _ _ aI st fun v h' c4 bP lX cA=>?_;obtain⟨t,rfl⟩:=bP;have a6:Inv X pins σ H { s with heap:=h',toks:=c4 }:=I.turned (fun b o J e=>cA b o (by simpa using J) e) f0 f1 fO f4 il;refine⟨_,rfl,w4 (s:={ s with heap:=h',toks:=c4 }) (n:="range_iterator") lX rfl rfl (by decide) ⟨.int (lo+i),H,a6,⟨t,?_⟩,⟨rfl,rfl⟩,lX,fun b J=>(hf b J).1⟩⟩;rw[Int.mul_one]
 done:=by intro X hP hw aY ax i pins s σ H E I hf st aI;subst hP hw aY;obtain⟨f0,f1,f2,fO,f4,il⟩:=hf it (by simp);exact wpAny_pyNext_range_end (I.ok.hd ax) st (by have:n≤i:=aI;omega) fun h' bx=>⟨rfl,I.turned (t':=s.toks) (fun b o J e=>bx b o J e) f0 f1 fO f4 il⟩
 self:=fun _ _ _ _ _ st h=>wpAny_pyIter_rangeiter st h
section
variable{X:aS}{bU:adq}
noncomputable def HD(K:PySem.W.Frag)(gm:TE):TI:=fun σ H R=>gm σ H fun x H1=>∃a,x=.ref a∧(∃xs,bQ K H1 a xs)∧R (zv K a) H1
noncomputable def HF(K:PySem.W.Frag)(gm:TE):TI:=fun σ H R=>gm σ H fun x H1=>∃a,x=.ref a∧(∃xs,b_ K H1 a xs)∧R (zx K a) H1
theorem U5{l:adq}{gm:TE}(av:a4 X l gm):f6 X bU l (HD X.K gm):=by
 intro pins s σ H R I h;refine bX (av pins s σ H _ I h) fun v s1⟨x,H1,a6,aq,bb⟩=>?_;obtain⟨a,e,⟨xs,aP⟩,q⟩:=bb;subst e;cases aq;obtain⟨its,b4,p,bj⟩:=a6.list aP;refine afk p.isList ?_;refine⟨s1.heap.objs.size,[s1.heap.objs.size],_,_,H1,rfl,a6.kept (t':=s1.toks) fun b o e=>acS _ e,XM a _,⟨_,ac2 _ rfl,rfl,rfl⟩,fun b J=>?_,q⟩;have e:b=s1.heap.objs.size:=by simpa using J
 subst e;exact a6.nr (ac3 _) (a6.bR.fresh (ac3 _))
theorem U7{l:adq}{gm:TE}(av:a4 X l gm):f6 X bU l (HF X.K gm):=by
 intro pins s σ H R I h;refine bX (av pins s σ H _ I h) fun v s1⟨x,H1,a6,aq,bb⟩=>?_;obtain⟨a,e,⟨xs,aP⟩,q⟩:=bb;subst e;cases aq;obtain⟨its,b4,p,bj⟩:=a6.tuple aP;refine ae_ (show s1.heap.IsTuple a its.toArray from p) ?_;refine⟨s1.heap.objs.size,[s1.heap.objs.size],_,_,H1,rfl,a6.kept (t':=s1.toks) fun b o e=>acS _ e,XP a _,⟨_,ac2 _ rfl,rfl,rfl⟩,fun b J=>?_,q⟩;have e:b=s1.heap.objs.size:=by simpa using J
 subst e;exact a6.nr (ac3 _) (a6.bR.fresh (ac3 _))
theorem VM{pins:List (ac1×Obj)}{σ :St}{H:ag}{s:acW}{R:It→ag→Prop}{E:acV→acW→Prop}{lo ak:Int}{t u v:Tok}{c4:Nat}(I:Inv X pins σ H s)(h1: -(2^62)≤lo)(h2:lo<2^62)(h3: -(2^62)≤ak)(h4:ak<2^62)(q:R (vY lo (ak-lo).toNat) H):adi (adj X.prog X.w) X.A (pyIter (.ref s.heap.objs.size)) (EP X pins σ bU R) E { s with heap:=s.heap.push { cls:=.type "range",data:=.fields #[.int lo t,.int ak u,.int 1 v] },toks:=c4 }:=by
 refine wpAny_pyIter_range (IsRange.new ..) (small_one h1 h2 h3 h4) ?_;have a6:Inv X pins σ H { s with heap:=s.heap.push { cls:=.type "range",data:=.fields #[.int lo t,.int ak u,.int 1 v] },toks:=c4 }:=I.kept fun b o e=>acS _ e
 refine⟨(s.heap.push { cls:=.type "range",data:=.fields #[.int lo t,.int ak u,.int 1 v] }).objs.size,[(s.heap.push { cls:=.type "range",data:=.fields #[.int lo t,.int ak u,.int 1 v] }).objs.size],_,_,H,rfl,
  a6.kept (t':=c4) fun b o e=>acS _ e,XN _ lo (ak-lo).toNat,?_,fun b J=>?_,q⟩
 ·have ae:lo+((0:Nat):Int)*1=lo:=by simp
  have au:(((ak-lo).toNat:Nat):Int)-((0:Nat):Int)=afa lo ak 1:=by rw[rangeSize_one];split<;>omega
  show IsRangeIter _ _ (lo+((0:Nat):Int)*1) ((((ak-lo).toNat:Nat):Int)-((0:Nat):Int)) 1;rw[ae,au];exact ac2 _ rfl
 ·have e:b=(s.heap.push { cls:=.type "range",data:=.fields #[.int lo t,.int ak u,.int 1 v] }).objs.size:=by simpa using J
  subst e;exact a6.nr (ac3 _) (a6.bR.fresh (ac3 _))
noncomputable def BD(cg:eS):TI:=fun σ H R=>cg σ H fun vs H1=>∃j:Int,vs=[.int j]∧-(2^62)≤j∧j<2^62∧R (vY 0 j.toNat) H1
theorem Jv{a:adq}{cg:eS}{p pos:Pos}(aI:dF X "range")(hm:X.mg "range"=none)(U:fh X [a] cg)(aD:acX [a] X.env=[(false,adW a X.env)]:=by rfl):f6 X bU (.Call (.Name "range" p) [a] [] pos) (BD cg):=by
 intro pins s σ H R I h;refine Call_ (nK I aI hm boot_range (adL (bX (U pos pins s σ H _ I h) fun us s1⟨vs,H1,a6,aq,bb⟩=>?_) aD rfl));obtain⟨j,e,bb,bN,q⟩:=bb;subst e;cases aq with
 |cons r qZ=>cases qZ;obtain⟨t,rfl⟩:=r;exact call_range_1 (VM a6 (by omega) (by omega) bb bN (by simpa using q))
noncomputable def DN(iT:TI)(g:ht)(tb:eT):eT:=fun D σ H=>iT σ H fun cC H1=>∃W:Nat→Nat→St→ag→Prop,(∃m,W 0 m σ H1)∧∀i m σ H,W i m σ H→
 (cC.stop i H∧D.bL σ H)∨(cC.go i H∧∃N:St→ag→Prop,(∀ σ' H',N σ' H'→∃eD,eD<m∧W (i+1) eD σ' H')∧∀x H',cC.iU i H x H'→g x σ H' fun σ2 aX=>tb { D with bL:=N,c7:=N,fk:=D.bL } σ2 aX)
def u9(aQ:List ac1)(h:adT):List (ac1×Obj):=aQ.filterMap fun b=>(h.get? b).map fun o=>(b,o)
theorem x7{aQ:List ac1}{h:adT}{b:ac1}{o:Obj}(J:b∈aQ)(e:h.get? b=some o):(b,o)∈u9 aQ h:=List.mem_filterMap.mpr ⟨b,J,by rw[e];rfl⟩
theorem T6{aQ:List ac1}{h:adT}{p:ac1×Obj}(a5:p∈u9 aQ h):p.1∈aQ∧h.get? p.1=some p.2:=by
 obtain⟨b,J,e⟩:=List.mem_filterMap.mp a5;cases q:h.get? b with
 |none=>rw[q]at e;cases e
 |some o=>rw[q]at e;have cN:(b,o)=p:=ac0 e;subst cN;exact⟨J,q⟩
theorem Inv.pinned{pins:List (ac1×Obj)}{σ :St}{H:ag}{s:acW}{aQ:List ac1}(I:Inv X pins σ H s)(hf:∀b∈aQ,ia X pins H b)(aH:∀b∈aQ,∃o,s.heap.get? b=some o∧∀v,o.data≠.cell v):Inv X (pins++u9 aQ s.heap) σ H s:=
 I.Jy fun p a5=>(List.mem_append.mp a5).elim (fun z=>I.pin p (adu _ z)) fun z=>by obtain⟨J,e⟩:=T6 z;obtain⟨f0,f1,f2,_⟩:=hf p.1 J;obtain⟨o,cN,d⟩:=aH p.1 J;rw[e]at cN;cases cN;exact⟨e,f0,f1,f2,d⟩
theorem Inv.yT{pins pl:List (ac1×Obj)}{σ :St}{H:ag}{s:acW}(I:Inv X (pins++pl) σ H s):Inv X pins σ H s:=I.Jy fun p a5=>I.pin p (adu _ (aeg _ a5))
theorem JD{iter:adq}{body:List ad4}{iT:TI}{g:ht}{tb:eT}{pos:Pos}(a5:ahS (adj X.prog X.w) X.A X.env X.xe)(ax:X.calm=true)(ak:f6 X bU iter iT)(aI:iZ X bU g)(J:fi X body tb)(aD:∀x,adM iter X.env x=pure x:=by intro _;rfl):cS X (.For bU iter body [] pos) (DN iT g tb):=by
 intro pins s σ H D I h;refine wpAny_For (bX (ak pins s σ H _ I h) fun v s1 h1=>bX h1 fun xq s2 h2=>?_) aD;obtain⟨it,aQ,gF,cC,aX,e,cn,T,kW,f2,W,⟨m0,oh⟩,turn⟩:=h2;subst e;have stat:∀{H':ag},(∀b∈aQ,H' b=none)→∀b∈aQ,ia X pins H' b:=fun aU b J=>⟨aU b J,(f2 b J).2⟩;refine codeAny_forLoop_any (fun n s'=>∃i σ' H',Inv X pins σ' H' s'∧gF i s'.heap∧(∀b∈aQ,H' b=none)∧W i n σ' H') ?_ m0 ⟨0,σ,aX,cn,kW,fun b J=>(f2 b J).1,oh⟩;rintro n s3 ⟨i,σ3,cK,d0,Ko,G4,dZ⟩;rcases turn i n σ3 cK dZ with⟨stop,qn⟩|⟨go,N,b7,step⟩
 ·refine aey a5 (bX (T.done X rfl rfl rfl ax i pins s3 σ3 cK X.xe d0 (stat G4) Ko stop) fun r s4⟨ay,kx⟩=>?_);subst ay;exact afR ⟨σ3,cK,kx,qn⟩
 ·refine aey a5 (bX (T.item X rfl rfl rfl ax i pins s3 σ3 cK X.xe d0 (stat G4) Ko go) fun r s4⟨u,ay,h4⟩=>?_);subst ay;refine aey a5 (bX h4 fun _ s5⟨x,iX,rp,gi,Zq,sJ,wX⟩=>?_);have L8:=rp.pinned (stat wX) (T.obj _ _ sJ);refine aey a5 (bX (aI _ s5 σ3 iX x u _ L8 gi (step x iX Zq)) fun _ gD⟨σ6,lg,sX,n3⟩=>?_);refine aey a5 (bX (J _ gD σ6 lg _ sX n3) fun f ee kS=>?_);have again:∀{σ7:St}{fJ:ag},Inv X (pins++u9 aQ s5.heap) σ7 fJ ee→N σ7 fJ→∃m,m<n∧∃i σ' H',Inv X pins σ' H' ee∧gF i ee.heap∧(∀b∈aQ,H' b=none)∧W i m σ' H':=fun{σ7 fJ} jY uU=>by
   obtain⟨eD,hm,Yi⟩:=b7 σ7 fJ uU;refine⟨eD,hm,i+1,σ7,fJ,jY.yT,T.keep _ _ _ sJ fun b J o e=>(jY.pin (b,o) (adu _ (adu _ (x7 J e)))).1,fun b J=>?_,Yi⟩;obtain⟨o,e,d⟩:=T.obj _ _ sJ b J;exact(jY.pin (b,o) (adu _ (adu _ (x7 J e)))).2.1
  cases f with
  |next=>obtain⟨σ7,fJ,jY,uU⟩:=kS;exact again jY uU
  |cont=>obtain⟨σ7,fJ,jY,uU⟩:=kS;exact again jY uU
  |brk=>obtain⟨σ7,fJ,jY,kS⟩:=kS;exact⟨σ7,fJ,jY.yT,kS⟩
  |ret v=>obtain⟨Yt,σ7,fJ,jY,gj,kS⟩:=kS;exact⟨Yt,σ7,fJ,jY.yT,gj,kS⟩
end
abbrev eN:=V→V→ag→cH→Prop
noncomputable def d2(X:aS)(f:acV→acV→Sem acV)(r:eN):Prop:=
 ∀(pins:List (ac1×Obj))(s:acW)(σ :St)(H:ag)(x y:V)(v u:acV)(Q:cH),Inv X pins σ H s→RelV x v→RelV y u→r x y H Q→
  adi (adj X.prog X.w) X.A (f v u) (gr X pins σ Q) X.xe s
noncomputable def wa(X:aS)(f:acV→Sem acV)(r:V→ag→cH→Prop):Prop:=
 ∀(pins:List (ac1×Obj))(s:acW)(σ :St)(H:ag)(x:V)(v:acV)(Q:cH),Inv X pins σ H s→RelV x v→r x H Q→
  adi (adj X.prog X.w) X.A (f v) (gr X pins σ Q) X.xe s
noncomputable def hG(X:aS)(f:acV)(r:List V→ag→cH→Prop):Prop:=
 ∀(pins:List (ac1×Obj))(s:acW)(σ :St)(H:ag)(xs:List V)(us:List acV)(Q:cH),Inv X pins σ H s→Vals xs us→r xs H Q→
  adi (adj X.prog X.w) X.A (call f us) (gr X pins σ Q) X.xe s
noncomputable def Me(X:aS)(r:V→ag→(Bool→ag→Prop)→Prop):Prop:=
 ∀(pins:List (ac1×Obj))(s:acW)(σ :St)(H:ag)(x:V)(v:acV)(Q:Bool→ag→Prop),Inv X pins σ H s→RelV x v→r x H Q→
  adi (adj X.prog X.w) X.A (truthy v) (v_ X pins σ Q) X.xe s
def mR(r:eN)(cg tb:TE):TE:=fun σ H Q=>cg σ H fun x H1=>tb σ H1 fun y aX=>r x y aX Q
def KV(r:V→ag→cH→Prop)(cg:TE):TE:=fun σ H Q=>cg σ H fun x H1=>r x H1 Q
def pq(C:Int→Int→Prop)(g:Int→Int→V):eN:=fun x y H Q=>∃i j,x=.int i∧y=.int j∧C i j∧Q (g i j) H
def lU(g:Int→Int→V):eN:=fun x y H Q=>∃i j,x=.int i∧y=.int j∧Q (g i j) H
def JQ(g:Int→V):V→ag→cH→Prop:=fun x H Q=>∃i,x=.int i∧Q (g i) H
section
variable{X:aS}{a b c:adq}{cg tb tc:TE}{pos:Pos}
theorem Aw(U:a4 X a cg)(J:a4 X b tb){pins:List (ac1×Obj)}{s:acW}{σ :St}{H:ag}{R:V→V→ag→Prop}(I:Inv X pins σ H s)(h:cg σ H fun x H1=>tb σ H1 fun y aX=>R x y aX){Q:acV→acW→Prop}{f:acV→acV→Sem acV}(hf:∀v u s2 x y aX,Inv X pins σ aX s2→RelV x v→RelV y u→R x y aX→adi (adj X.prog X.w) X.A (f v u) Q X.xe s2) :
  adi (adj X.prog X.w) X.A (adW a X.env) (fun v dp=>adi (adj X.prog X.w) X.A (adW b X.env) (fun u kn=>adi (adj X.prog X.w) X.A (f v u) Q X.xe kn) X.xe dp) X.xe s:=by
 refine bX (U pins s σ H _ I h) fun v s1⟨x,H1,a6,aq,bb⟩=>?_;refine bX (J pins s1 σ H1 _ a6 bb) fun u s2⟨y,aX,cn,bp,bN⟩=>?_;exact hf v u s2 x y aX cn aq bp bN
theorem yi{op:Operator}{r:eN}(aH:d2 X (aeM op) r)(U:a4 X a cg)(J:a4 X b tb):a4 X (.BinOp a op b pos) (mR r cg tb):=by intro pins s σ H Q I h;exact wpAny_BinOp (Aw U J I h fun v u s2 x y aX cn bM ct q=>aH pins s2 σ aX x y v u Q cn bM ct q)
theorem U1{op:UnaryOp}{r:V→ag→cH→Prop}(aH:wa X (unaryOp op) r)(U:a4 X a cg):a4 X (.UnaryOp op a pos) (KV r cg):=by intro pins s σ H Q I h;exact UnaryOp_ (bX (U pins s σ H _ I h) fun v s1⟨x,H1,a6,aq,bb⟩=>aH pins s1 σ H1 x v Q a6 aq bb)
theorem yf{f:acV→acV→Sem acV}{C:Int→Int→Prop}{g:Int→Int→Int}(rule:∀(i j:Int)(t u:Tok)(s:acW)(Q:acV→acW→Prop)(E:acV→acW→Prop),C i j→Q (.int (g i j) s.toks) { s with toks:=s.toks+1 }→adi (adj X.prog X.w) X.A (f (.int i t) (.int j u)) Q E s) :
  d2 X f (pq C fun i j=>.int (g i j)):=by
 intro pins s σ H x y v u Q I bM ct h;obtain⟨i,j,rfl,rfl,ax,q⟩:=h;obtain⟨t,rfl⟩:=bM;obtain⟨t',rfl⟩:=ct;exact rule i j t t' s _ _ ax ⟨.int (g i j),H,I.tok _,⟨_,rfl⟩,q⟩
theorem I4{f:acV→acV→Sem acV}{g:Int→Int→Int}(rule:∀(i j:Int)(t u:Tok)(s:acW)(Q:acV→acW→Prop)(E:acV→acW→Prop),Q (.int (g i j) s.toks) { s with toks:=s.toks+1 }→adi (adj X.prog X.w) X.A (f (.int i t) (.int j u)) Q E s) :
  d2 X f (lU fun i j=>.int (g i j)):=by
 intro pins s σ H x y v u Q I bM ct h;obtain⟨i,j,rfl,rfl,q⟩:=h;obtain⟨t,rfl⟩:=bM;obtain⟨t',rfl⟩:=ct;exact rule i j t t' s _ _ ⟨.int (g i j),H,I.tok _,⟨_,rfl⟩,q⟩
theorem Ck{f:acV→acV→Sem acV}{g:Int→Int→Bool}(rule:∀(i j:Int)(t u:Tok)(s:acW)(Q:acV→acW→Prop)(E:acV→acW→Prop),Q (.bool (g i j)) s→adi (adj X.prog X.w) X.A (f (.int i t) (.int j u)) Q E s) :
  d2 X f (lU fun i j=>.aC (g i j)):=by
 intro pins s σ H x y v u Q I bM ct h;obtain⟨i,j,rfl,rfl,q⟩:=h;obtain⟨t,rfl⟩:=bM;obtain⟨t',rfl⟩:=ct;exact rule i j t t' s _ _ ⟨.aC (g i j),H,I,rfl,q⟩
def pP(i j:Int):Prop:=0<j∧j<1073741824
def sS(i j:Int):Prop:=0≤j∧j≤1000000∧i.natAbs<2^64
def ro(i j:Int):Prop:=(-(2^64)<i∧i<2^64)∨(-(2^64)<j∧j<2^64)
theorem ro.ok{i j:Int}(h:ro i j):IntMulOk i j:=by
 rcases h with⟨h1,h2⟩|⟨h1,h2⟩
 ·exact .of_left (intBits_le_64 h1 h2)
 ·exact .of_right (intBits_le_64 h1 h2)
theorem I5:d2 X (aeM .Add) (lU fun i j=>.int (i+j)):=I4 fun _ _ _ _ _ _ _ q=>add_int q
theorem Ur:d2 X (aeM .Sub) (lU fun i j=>.int (i-j)):=I4 fun _ _ _ _ _ _ _ q=>sub_int q
theorem Uo:d2 X (aeM .Mult) (pq ro fun i j=>.int (i*j)):=yf fun _ _ _ _ _ _ _ ax q=>mul_int q ax.ok
theorem I9:d2 X (aeM .FloorDiv) (pq pP fun i j=>.int (i/j)):=yf fun i j _ _ _ _ _ ax q=>by have h1:(0:Int)<j:=ax.1;have h2:j<1073741824:=ax.2;exact floordiv_int (by omega) (by rw[Int.fdiv_eq_ediv_of_nonneg i (by omega)];exact q) (.inl (PyProof.noPylong_small (by omega)))
theorem Jc:d2 X (aeM .Mod) (pq (fun _ j=>0<j) fun i j=>.int (i%j)):=yf fun i j _ _ _ _ _ ax q=>by have h1:(0:Int)<j:=ax;exact mod_int' (by omega) (by rw[Int.fmod_eq_emod_of_nonneg i (by omega)];exact q)
theorem Uq:d2 X (aeM .Pow) (pq sS fun i j=>.int (i^j.toNat)):=yf fun _ _ _ _ _ _ _ ax q=>pow_int_small ax.1 ax.2.1 ax.2.2 q
theorem XW{f:acV→Sem acV}{g:Int→Int}(rule:∀(i:Int)(t:Tok)(s:acW)(Q:acV→acW→Prop)(E:acV→acW→Prop),Q (.int (g i) s.toks) { s with toks:=s.toks+1 }→adi (adj X.prog X.w) X.A (f (.int i t)) Q E s) :
  wa X f (JQ fun i=>.int (g i)):=by
 intro pins s σ H x v Q I bM h;obtain⟨i,rfl,q⟩:=h;obtain⟨t,rfl⟩:=bM;exact rule i t s _ _ ⟨.int (g i),H,I.tok _,⟨_,rfl⟩,q⟩
theorem XX:wa X (unaryOp .USub) (JQ fun i=>.int (-i)):=XW fun _ _ _ _ _ q=>neg_int q
end
noncomputable def J8:V→V→Bool
 |.non,.non=>true|.non,.int _=>true|.int _,.non=>true|.non,.aC _=>true|.aC _,.non=>true|.non,.str _=>true|.str _,.non=>true
 |.int _,.int _=>true|.aC _,.aC _=>true|.str _,.str _=>true|.mn _,.mn _=>true
 |.int _,.str _=>true|.str _,.int _=>true|.aC _,.str _=>true|.str _,.aC _=>true
 |_,_=>false
section
variable{X:aS}{a b c:adq}{cg tb tc:TE}{pos:Pos}
theorem OC{pins:List (ac1×Obj)}{σ :St}{H:ag}{s:acW}{Q:cH}{k k':Bool}(I:Inv X pins σ H s)(q:Q (.aC k) H)(e:k=k'):gr X pins σ Q (.bool k') s:=by subst e;exact⟨.aC k,H,I,rfl,q⟩
theorem Jb:d2 X (adV .Lt) (lU fun i j=>.aC (decide (i<j))):=Ck fun _ _ _ _ _ _ _ q=>lt_int q
theorem u5:d2 X (adV .LtE) (lU fun i j=>.aC (decide (i≤j))):=Ck fun _ _ _ _ _ _ _ q=>le_int q
theorem Un:d2 X (adV .Gt) (lU fun i j=>.aC (decide (j<i))):=Ck fun _ _ _ _ _ _ _ q=>gt_int q
theorem Ja:d2 X (adV .Is) (fun x y H Q=>y=.non∧Q (.aC (decide (x=.non))) H):=by
 intro pins s σ H x y v u Q I bM ct h;obtain⟨rfl,q⟩:=h;cases ct;refine is_none_gen (OC I q ?_)
 cases x<;>first
  |(cases bM;rfl)
  |(obtain⟨t,rfl⟩:=bM;rfl)
theorem d2.or{f:acV→acV→Sem acV}{r a9:eN}(h:d2 X f r)(h':d2 X f a9):d2 X f (fun x y H Q=>r x y H Q∨a9 x y H Q):=by
 intro pins s σ H x y v u Q I bM ct q;rcases q with q|q
 ·exact h pins s σ H x y v u Q I bM ct q
 ·exact h' pins s σ H x y v u Q I bM ct q
theorem ph(b:adq){op:aic}(h:op≠.In:=by decide)(h2:op≠.NotIn:=by decide):adI op b=false:=by
 have ae:(op==CmpOp.In)=false:=by cases op<;>first|rfl|exact absurd rfl h
 have au:(op==CmpOp.NotIn)=false:=by cases op<;>first|rfl|exact absurd rfl h2
 cases b<;>simp[adI,ae,au]
theorem UK{op:aic}{r:eN}(aH:d2 X (adV op) r)(U:a4 X a cg)(J:a4 X b tb)(hm:adI op b=false):a4 X (.Compare a [op] [b] pos) (mR r cg tb):=by intro pins s σ H Q I h;exact wpAny_Compare1 (Aw U J I h fun v u s2 x y aX cn bM ct q=>aH pins s2 σ aX x y v u Q cn bM ct q) hm
def DS(t:TE):TT:=fun σ H Q=>t σ H fun x H'=>∃k,x=.aC k∧Q k H'
theorem Vo{op:aic}{r:eN}(aH:d2 X (adV op) r)(U:a4 X a cg)(J:a4 X b tb)(hm:adI op b=false):e_ X (.Compare a [op] [b] pos) (DS (mR r cg tb)):=by
 intro pins s σ H Q I h;refine wpAny_isTrue_Compare1 (bX (U pins s σ H _ I h) fun v s1⟨x,H1,a6,aq,bb⟩=>bX (J pins s1 σ H1 _ a6 bb) fun u s2⟨y,aX,cn,bp,bN⟩=>
  bX (aH pins s2 σ aX x y v u _ cn aq bp bN) fun c s3⟨z,cK,d0,dt,k,e,d6⟩=>?_) hm
 subst e;cases dt;exact adK ⟨cK,d0,d6⟩
noncomputable def DK(r a9:eN)(cg tb tc:TE):TE:=fun σ H Q=>cg σ H fun x H1=>tb σ H1 fun y aX=>r x y aX fun z cK=>∃k,z=.aC k∧
 (if k=true then tc σ cK fun fG gS=>a9 y fG gS Q else Q (.aC false) cK)
theorem UJ{op jk:aic}{r a9:eN}(aH:d2 X (adV op) r)(fW:d2 X (adV jk) a9)(U:a4 X a cg)(J:a4 X b tb)(ax:a4 X c tc)(hm:lastMarks [op,jk] [b,c]=false:=by with_unfolding_all rfl):a4 X (.Compare a [op,jk] [b,c] pos) (DK r a9 cg tb tc):=by
 intro pins s σ H Q I h;refine Compare_chain (bX (U pins s σ H _ I h) fun v s1⟨x,H1,a6,aq,bb⟩=>chain_link (bX (J pins s1 σ H1 _ a6 bb) fun u s2⟨y,aX,cn,bp,bN⟩=>
  bX (aH pins s2 σ aX x y v u _ cn aq bp bN) fun d s3⟨z,cK,d0,dt,k,e,d6⟩=>?_)) hm
 subst e;cases dt;refine adK ?_;cases k with
 |false=>exact ite_ff ⟨.aC false,cK,d0,rfl,d6⟩
 |true=>exact ite_tt (chain_last (bX (ax pins s3 σ cK _ d0 d6) fun fG s4⟨eh,gS,kx,jN,qX⟩=>fW pins s4 σ gS y eh u fG Q kx bp jN qX))
theorem Vn{op jk:aic}{r a9:eN}(aH:d2 X (adV op) r)(fW:d2 X (adV jk) a9)(U:a4 X a cg)(J:a4 X b tb)(ax:a4 X c tc)(hm:lastMarks [op,jk] [b,c]=false:=by with_unfolding_all rfl):e_ X (.Compare a [op,jk] [b,c] pos) (DS (DK r a9 cg tb tc)):=by
 intro pins s σ H Q I h;refine isTrue_chain (bX (U pins s σ H _ I h) fun v s1⟨x,H1,a6,aq,bb⟩=>test_link (bX (J pins s1 σ H1 _ a6 bb) fun u s2⟨y,aX,cn,bp,bN⟩=>
  bX (aH pins s2 σ aX x y v u _ cn aq bp bN) fun d s3⟨z,cK,d0,dt,k,e,d6⟩=>?_)) hm
 subst e;cases dt;refine adK ?_;cases k with
 |false=>obtain⟨k',cN,dS⟩:=d6;cases cN;exact ite_ff ⟨cK,d0,dS⟩
 |true=>refine ite_tt (test_last (bX (ax pins s3 σ cK _ d0 d6) fun fG s4⟨eh,gS,kx,jN,qX⟩=>bX (fW pins s4 σ gS y eh u fG _ kx bp jN qX) fun d' s5⟨a_,iX,rp,gi,k2,au,qY⟩=>?_));subst au;cases gi;exact adK ⟨iX,rp,qY⟩
noncomputable def Mf(K:PySem.W.Frag)(x:V)(H:ag)(k:Bool):Prop:=
 match x with
 |.non=>k=false
 |.aC b=>k=b
 |.int i=>k=(i !=0)
 |.str y=>y.length≤ade∧k=((y.length:Int) !=0)
 |.mn y=>y.size≤ade∧k=((y.size:Int) !=0)
 |.ref p=>(∃xs,bQ K H p xs∧k=!xs.isEmpty)∨(∃xs,b_ K H p xs∧k=!xs.isEmpty)∨∃bq,H p=some (.eO bq)∧k=!bq.isEmpty
 |_=>False
theorem Rg{κ:Type}{bq:List (κ×V)}{vs:List (κ×acV)}(r:gT bq vs):(!vs.isEmpty)=!bq.isEmpty:=by cases r<;>rfl
theorem HU{xs:List V}{its:List acV}(r:Vals xs its):(!its.toArray.isEmpty)=!xs.isEmpty:=by cases r<;>simp
theorem r6:(ade:Nat)<2^63:=by rw[aeR];decide
theorem abf:Me X (fun x H Q=>∃k,Mf X.K x H k∧Q k H):=by
 intro pins s σ H x v Q I bM h;obtain⟨k,e,q⟩:=h;have av:=r6;have aD:ade=16777216:=aeR;cases x with
 |non=>cases bM;have cN:k=false:=e;subst cN;exact truthy_none ⟨H,I,q⟩
 |aC b=>cases bM;have cN:k=b:=e;subst cN;exact adK ⟨H,I,q⟩
 |int i=>obtain⟨t,rfl⟩:=bM;have cN:k=(i !=0):=e;subst cN;exact PySem.P.truthy_int ⟨H,I,q⟩
 |str y=>obtain⟨t,rfl⟩:=bM;obtain⟨b8,cN⟩:y.length≤ade∧k=((y.length:Int) !=0):=e;subst cN;exact PySem.P.truthy_str (by omega) ⟨H,I.tok _,q⟩
 |mn y=>obtain⟨t,rfl⟩:=bM;obtain⟨b8,cN⟩:y.size≤ade∧k=((y.size:Int) !=0):=e;subst cN;exact PySem.W.truthy_bytes (by omega) ⟨H,I.tok _,q⟩
 |ref p=>
  cases bM;have cN:(∃xs,bQ X.K H p xs∧k=!xs.isEmpty)∨(∃xs,b_ X.K H p xs∧k=!xs.isEmpty)∨∃bq,H p=some (.eO bq)∧k=!bq.isEmpty:=e;rcases cN with⟨xs,aA,cN⟩|⟨xs,aA,cN⟩|⟨bq,aA,cN⟩
  ·subst cN;obtain⟨its,r,pl,bj⟩:=I.list aA;have hlen:=r.length;exact wpAny_truthy_list pl.isList (by simp only[acY];omega) ⟨H,I.tok _,by rw[HU r];exact q⟩
  ·subst cN;obtain⟨its,r,pl,bj⟩:=I.tuple aA;have hlen:=r.length;exact truthy_tuple pl (by simp only[acY];omega) ⟨H,I.tok _,by rw[HU r];exact q⟩
  ·subst cN;obtain⟨bj,lC,vs,r,m⟩:bq.length≤ade∧(p==aeL)=false∧∃vs,gT bq vs∧s.heap.DictOf (iM X.prog X.w) p vs:=I.bR p _ aA;have hlen:bq.length=vs.length:=Paired.length r;exact wpAny_truthy_dict lC m (by omega) ⟨H,I.tok _,by rw[Rg r];exact q⟩
 |_=>exact(show False from e).elim
theorem I6:d2 X (aeM .Add) (fun x y H Q=>∃i j,x=.str i∧y=.str j∧i.length+j.length≤ade∧Q (.str (i++j)) H):=by intro pins s σ H x y v u Q I bM ct h;obtain⟨i,j,rfl,rfl,bj,q⟩:=h;obtain⟨t,rfl⟩:=bM;obtain⟨t',rfl⟩:=ct;exact add_str (fun t' c4=>⟨.str (i++j),H,I.tok _,⟨_,rfl⟩,q⟩) bj
theorem vals1{x:V}{us:List acV}(r:Vals [x] us):∃u,us=[u]∧RelV x u:=by
 cases r with
 |cons aq bp=>cases bp;exact⟨_,rfl,aq⟩
theorem vals2{x y:V}{us:List acV}(r:Vals [x,y] us):∃u fG,us=[u,fG]∧RelV x u∧RelV y fG:=by
 cases r with
 |cons aq bp=>
  cases bp with
  |cons dt jN=>cases jN;exact⟨_,_,rfl,aq,dt⟩
theorem MW:hG X (.builtin "abs") (fun xs H Q=>∃i,xs=[.int i]∧Q (.int (if i<0 then-i else i)) H):=by intro pins s σ H xs us Q I r h;obtain⟨i,rfl,q⟩:=h;obtain⟨u,rfl,t,rfl⟩:=vals1 r;exact call_abs_int fun u c4=>⟨.int (if i<0 then-i else i),H,I.tok _,⟨_,rfl⟩,q⟩
theorem MY:hG X (.type "int") (fun xs H Q=>(∃i,xs=[.int i]∧Q (.int i) H)∨∃k,xs=[.aC k]∧Q (.int (if k then 1 else 0)) H):=by
 intro pins s σ H xs us Q I r h;rcases h with⟨i,rfl,q⟩|⟨k,rfl,q⟩
 ·obtain⟨u,rfl,t,rfl⟩:=vals1 r;exact call_int_int ⟨.int i,H,I,⟨_,rfl⟩,q⟩
 ·obtain⟨u,rfl,aq⟩:=vals1 r;cases aq;exact call_int_bool ⟨.int (if k then 1 else 0),H,I.tok _,⟨_,rfl⟩,q⟩
theorem M4:hG X (.type "str") (fun xs H Q=>∃i,xs=[.int i]∧i.natAbs.log2<1920∧Q (.str (toString i)) H):=by intro pins s σ H xs us Q I r h;obtain⟨i,rfl,bj,q⟩:=h;obtain⟨u,rfl,t,rfl⟩:=vals1 r;exact PySem.P.str_of_int bj ⟨.str _,H,I.tok _,⟨_,rfl⟩,q⟩
noncomputable def EO(K:PySem.W.Frag)(x:V)(H:ag)(n:Nat):Prop:=
 match x with
 |.str y=>y.length≤ade∧n=y.length
 |.mn y=>y.size≤ade∧n=y.size
 |.ref p=>(∃xs,bQ K H p xs∧n=xs.length)∨∃xs,b_ K H p xs∧n=xs.length
 |_=>False
theorem M0:hG X (.builtin "len") (fun xs H Q=>∃x n,xs=[x]∧EO X.K x H n∧Q (.int n) H):=by
 intro pins s σ H xs us Q I r h;obtain⟨x,n,rfl,e,q⟩:=h;obtain⟨u,rfl,bM⟩:=vals1 r;have av:=r6;have aD:ade=16777216:=aeR;cases x with
 |str y=>obtain⟨t,rfl⟩:=bM;obtain⟨b8,cN⟩:y.length≤ade∧n=y.length:=e;subst cN;exact len_str (by omega) ⟨.int _,H,I.tok _,⟨_,rfl⟩,q⟩
 |mn y=>obtain⟨t,rfl⟩:=bM;obtain⟨b8,cN⟩:y.size≤ade∧n=y.size:=e;subst cN;exact PySem.W.len_bytes (by omega) ⟨.int _,H,I.tok _,⟨_,rfl⟩,q⟩
 |ref p=>
  cases bM;have cN:(∃xs,bQ X.K H p xs∧n=xs.length)∨∃xs,b_ X.K H p xs∧n=xs.length:=e;rcases cN with⟨xs,aA,cN⟩|⟨xs,aA,cN⟩
  ·subst cN;obtain⟨its,a9,pl,bj⟩:=I.list aA;have hlen:=a9.length;exact Calls.call_len_list pl.isList (by simp only[acY];omega) ⟨.int xs.length,H,I.tok _,⟨_,by simp only[acY];rw[hlen]⟩,q⟩
  ·subst cN;obtain⟨its,a9,pl,bj⟩:=I.tuple aA;have hlen:=a9.length;exact len_tuple pl (by simp only[acY];omega) ⟨.int xs.length,H,I.tok _,⟨_,by simp only[acY];rw[hlen]⟩,q⟩
 |_=>exact(show False from e).elim
end
structure pX(h:adT)(x bA C:ac1)(eb:Str→Option acV):Prop where
 obj:h.get? x=some (PySem.W.instObj C bA)
 ns:h.Ns1 bA eb
 ne:bA≠x
theorem SR{h:adT}{bA:ac1}{eb:Str→Option acV}(n:h.Ns1 bA eb):∃dX,h.get? bA=some dX∧∀name,PySem.W.lookIn name dX=some (eb name):=by
 obtain⟨o,ah,ek,aH,hd,aK,_,hm⟩:=n;refine⟨o,aH,fun name=>?_⟩;have e:=hm name;unfold nsFind findBy at e;rw[←Array.find?_toList]at e;unfold PySem.W.lookIn;rw[hd];dsimp only
 split
 ·rename_i y q;rw[q]at e;exact congrArg some e
 ·rename_i q;rw[q]at e;have a:ah.toList.any (·.refKey)=false:=by
   rw[List.any_eq_false];intro y b8;obtain⟨z,t,Pl⟩:=aK y (Array.mem_toList_iff.mp b8);simp[DictEntry.refKey,Pl]
  have ij:¬ah.toList.any (·.refKey)=true:=by rw[a];exact adw
  rw[if_neg ij];exact congrArg some e
theorem pX.look{h:adT}{x bA C:ac1}{eb:Str→Option acV}(I:pX h x bA C eb):∃dX,PySem.W.InstAt h x (PySem.W.instObj C bA) C (some dX)∧∀name,PySem.W.lookIn name dX=some (eb name):=
 let⟨dX,aH,av⟩:=SR I.ns
 ⟨dX,⟨I.obj,rfl,rfl,aH⟩,av⟩
section
variable{prog:ac_}{w:adB}{A:adp}{E:acV→acW→Prop}{s:acW}{K:PySem.W.Frag}{x bA C f:ac1}{eb:Str→Option acV}{name:Str}{v:acV}
theorem get_map{expr:Bool}{Q:acV→acW→Prop}(X:K.In s.heap)(I:pX s.heap x bA C eb)(aI:PySem.W.plainGet K C name=true)(bw:PySem.W.hasDictIn K C=true)(U:PySem.W.findIn K (.ref C) name=some none)(bP:eb name=some v)(tW:PySem.W.handedIn v=true)(h:Q v { s with toks:=s.toks+1 }) :
  adi (adj prog w) A (getAttr (.ref x) name expr) Q E s:=by
 obtain⟨dX,cC,av⟩:=I.look;exact PySem.W.get_value X cC (PySem.W.plainGet_of aI).1 (PySem.W.findObj_own bw U rfl (by rw[av,bP])) tW h
theorem OO{pl:Sem Bool}{Q:acV×List acV→acW→Prop}(X:K.In s.heap)(I:pX s.heap x bA C eb)(aI:PySem.W.plainGet K C name=true)(hf:PySem.W.findIn K (.ref C) name=some (some (.ref f)))(bJ:PySem.W.isFn K (.ref f)=true)(bP:eb name=none)(h:Q (.ref f,[.ref x]) s) :
  adi (adj prog w) A (aga (.ref x) name pl) Q E s:=by
 obtain⟨dX,cC,av⟩:=I.look;exact PySem.W.method_fn X cC (PySem.W.plainGet_of aI).1 (PySem.W.plainGet_of aI).2 hf (beq_iff_eq.mp bJ) (by show(PySem.W.lookIn name dX).map (·.isSome)=some false;rw[av,bP];rfl) h
theorem WJ{ns:List Str}{Q:Unit→acW→Prop}(X:K.In s.heap)(I:pX s.heap x bA C eb)(aD:PySem.W.findIn K (.ref C) "__setattr__"=some (some (.builtin "object.__setattr__")))(a5:PySem.W.plainOver K C=true)(bJ:PySem.W.takerIn K C name=some none)(bw:PySem.W.hasDictIn K C=true)(hw:PySem.Within eb ns)(hsz:ns.length≤ade)(h:∀h',pX h' x bA C (fun y=>if y=name then some v else eb y)→aeQ bA s.heap h'→Q () { s with heap:=h',toks:=s.toks+2 }) :
  adi (adj prog w) A (setAttr (.ref x) name v) Q E s:=by
 obtain⟨dX,cC,av⟩:=I.look;refine PySem.W.set_plain X cC aD (PySem.W.osa_open (s:={ s with toks:=s.toks+1 }) (r:=none) X cC a5 bJ fun b=>?_);obtain⟨cd,ax,i8⟩:=PySem.W.any_some bw;have aA:s.heap.get? x=some ⟨.ref C,some bA,.plain,#[]⟩:=I.obj;refine acU (ac5 (acU (acU (wpAny_loadPart aA (acU (PySem.W.Looks.here (s:={ s with toks:=s.toks+1 }) (PySem.W.looks_clsIn X ax) ?_))))));rw[i8];refine ac5 (a:=some bA) (acU (ac5 (acU ?_)));refine wpAny_nsSet1 (s:={ s with toks:=s.toks+1 }) I.ns fun h' xi et=>?_;obtain⟨aaI,Z0,ZY,Py,O6,O2⟩:=xi.count (PySem.Within.cons name v hw);refine acU (wpAny_lookBehind Py (by rw[O6];exact pastItsLine_dict (adt O2 (by rw[adf];omega))) ?_);exact ac5 (h _ ⟨(et.2 _ (afA I.ne)).trans I.obj,xi,I.ne⟩ et)
theorem S5 {R:Result→acW→Prop} {vs:List acV} {kw:List (Str×acV)} (X:K.In s.heap) (hm:PySem.W.makesIn K C=true)(ak:PySem.W.findIn K (.ref C) "__init__"=some (some (.ref f))) (hf:PySem.W.typeIn K (.ref f)=some (.type "function"))(h:agO (adj prog w) (A.under (.builtin "type.__call__" ⟨.ref C::vs,kw⟩)) (.call (.ref f) ⟨.ref (s.heap.objs.size+1)::vs,kw⟩) (PySem.W.InitBack (s.heap.objs.size+1) R)
    { s with heap:=(s.heap.push PySem.W.emptyDict).push (PySem.W.instObj C s.heap.objs.size) }) :
  agO (adj prog w) A (.call (.ref C) ⟨vs,kw⟩) R s:=by
 obtain⟨bw,g,d,t,os⟩:=s;exact PySem.W.make_core (PySem.W.makes_of X hm) (PySem.W.looks_findIn X ak) (fun self=>PySem.W.bind_fn X self hf) (.inl rfl) h
end
noncomputable def hC(f:Str)(v:V):List (Str×V)→List (Str×V)
 |[]=>[(f,v)]
 |(g,x)::r=>if g=f then(g,v)::r else(g,x)::hC f v r
theorem Iu(f g:Str)(v:V):∀a8:List (Str×V),(hC f v a8).lookup g=if g=f then some v else a8.lookup g
 |[]=>by
  show afl g [(f,v)]=_;by_cases h:g=f
  ·have J:(g==f)=true:=beq_iff_eq.mpr h;simp only[afl,J,if_pos h]
  ·have J:(g==f)=false:=beq_eq_false_iff_ne.mpr h;simp only[afl,J,if_neg h]
 |(k,x)::r=>by
  have cq:=Iu f g v r;rw[show hC f v ((k,x)::r)=(if k=f then(k,v)::r else(k,x)::hC f v r)from rfl];by_cases aK:k=f
  ·rw[if_pos aK];by_cases h:g=k
   ·have J:(g==k)=true:=beq_iff_eq.mpr h;simp only[afl,J,if_pos (h.trans aK)]
   ·have J:(g==k)=false:=beq_eq_false_iff_ne.mpr h;simp only[afl,J,if_neg (fun e:g=f=>h (e.trans aK.symm))]
  ·rw[if_neg aK];by_cases h:g=k
   ·have J:(g==k)=true:=beq_iff_eq.mpr h;simp only[afl,J,if_neg (fun e:g=f=>aK (h.symm.trans e))]
   ·have J:(g==k)=false:=beq_eq_false_iff_ne.mpr h;simp only[afl,J];exact cq
theorem BP(f:Str)(v:V):∀a8:List (Str×V),f∈(hC f v a8).map (·.1)∧∀g,g∈a8.map (·.1)→g∈(hC f v a8).map (·.1)
 |[]=>⟨by simp[hC],fun g h=>by simp at h⟩
 |(k,x)::r=>by
  obtain⟨bB,bz⟩:=BP f v r;rw[show hC f v ((k,x)::r)=(if k=f then(k,v)::r else(k,x)::hC f v r)from rfl];by_cases aK:k=f
  ·rw[if_pos aK];subst aK;exact⟨by simp,fun g h=>by simpa using h⟩
  ·rw[if_neg aK];refine⟨?_,fun g h=>?_⟩
   ·rw[ac8];exact ac7 _ bB
   ·rw[ac8]at h ⊢;rcases List.mem_cons.mp h with e|e
    ·exact List.mem_cons.mpr (.inl e)
    ·exact ac7 _ (bz g e)
theorem Io(f:Str)(v:V):∀a8:List (Str×V),(hC f v a8).length≤a8.length+1
 |[]=>by simp[hC]
 |(k,x)::r=>by
  have cq:=Io f v r;rw[show hC f v ((k,x)::r)=(if k=f then(k,v)::r else(k,x)::hC f v r)from rfl];by_cases aK:k=f
  ·rw[if_pos aK,adf,adf];omega
  ·rw[if_neg aK,adf,adf];omega
theorem hJ.some_of{v:V}{o:Option acV}(r:hJ (some v) o):∃u,o=some u∧RelV v u:=by
 cases o with
 |none=>exact(show False from r).elim
 |some u=>exact⟨u,rfl,r⟩
theorem hJ.none_of{o:Option acV}(r:hJ none o):o=none:=by
 cases o with
 |none=>rfl
 |some u=>exact(show False from r).elim
theorem OZ{v:V}{u:acV}(r:RelV v u):PySem.W.handedIn u=true:=by
 cases v with
 |non=>cases(show u=afj from r);rfl
 |aC b=>cases(show u=af_ b from r);rfl
 |int i=>obtain⟨t,e⟩:=(show ∃t,u=aie i t from r);cases e;rfl
 |str x=>obtain⟨t,e⟩:=(show ∃t,u=aif x t from r);cases e;rfl
 |mn b=>obtain⟨t,e⟩:=(show ∃t,u=Value.bytes b t from r);cases e;rfl
 |wW b=>obtain⟨t,e⟩:=(show ∃t,u=Value.float b t from r);cases e;rfl
 |ref a=>cases(show u=adE a from r);rfl
 |ty n=>cases(show u=ae6 n from r);rfl
section
variable{P:ac_}{w:adB}{H H':ag}{h h':adT}{a C bA:ac1}{a8 wY:List (Str×V)}
theorem BH(bR:eA P w H h)(e:H a=some (.ins C bA a8)):∃eb,pX h a bA C eb∧(∀f,hJ (a8.lookup f) (eb f))∧PySem.Within eb (a8.map (·.1))∧a8.length≤1000∧H bA=some (.own a):=by obtain⟨d,z,ne,ob,eb,n,r,q⟩:=(show e9 P w H h a (.ins C bA a8)from bR a _ e);exact⟨eb,⟨ob,n,ne⟩,r,q,z,d⟩
end
structure jz(K:PySem.W.Frag)(C:ac1):Prop where
 U2:PySem.W.plainGet K C Str.empty=true
 hd:PySem.W.hasDictIn K C=true
 po:PySem.W.plainOver K C=true
 n6:PySem.W.findIn K (.ref C) "__setattr__"=some (some (.builtin "object.__setattr__"))
theorem jz.get{K:PySem.W.Frag}{C:ac1}(c:jz K C)(f:Str):PySem.W.plainGet K C f=true:=c.U2
def pW(K:PySem.W.Frag)(C:ac1)(f:Str):Prop:=PySem.W.findIn K (.ref C) f=some none
theorem pW.XA{K:PySem.W.Frag}{C:ac1}{f:Str}(n:pW K C f):PySem.W.takerIn K C f=some none:=by unfold PySem.W.takerIn;rw[show PySem.W.findIn K (.ref C) f=some none from n];rfl
structure Meth(K:PySem.W.Frag)(C:ac1)(m:Str)(f:ac1):Prop where
 at_:PySem.W.findIn K (.ref C) m=some (some (.ref f))
 fn:PySem.W.isFn K (.ref f)=true
 az:PySem.W.keepIn K (.ref f)=true
section
variable{X:aS}{pins:List (ac1×Obj)}{σ :St}{H:ag}{s:acW}{a C bA:ac1}{a8:List (Str×V)}{f:Str}{v:V}{A:adp}{E:acV→acW→Prop}
theorem OP{b:Bool}{Q:acV→acW→Prop}(I:Inv X pins σ H s)(e:H a=some (.ins C bA a8))(c:jz X.K C)(n:pW X.K C f)(l:a8.lookup f=some v)(h:∀u s',Inv X pins σ H s'→RelV v u→Q u s'):adi (adj X.prog X.w) A (getAttr (.ref a) f b) Q E s:=by obtain⟨eb,O,r,_,_,_⟩:=BH I.bR e;obtain⟨u,aV,dV⟩:=hJ.some_of (v:=v) (o:=eb f) (by rw[←l];exact r f);exact get_map I.gf O (c.get f) c.hd n aV (OZ dV) (h u _ (I.tok _) dV)
theorem A8{m:Str}{g:ac1}{pl:Sem Bool}{Q:acV×List acV→acW→Prop}(I:Inv X pins σ H s)(e:H a=some (.ins C bA a8))(c:jz X.K C)(k:Meth X.K C m g)(l:a8.lookup m=none)(h:Q (.ref g,[.ref a]) s):adi (adj X.prog X.w) A (aga (.ref a) m pl) Q E s:=by obtain⟨eb,O,r,_,_,_⟩:=BH I.bR e;have aU:eb m=none:=hJ.none_of (by rw[←l];exact r m);exact OO I.gf O (c.get m) k.at_ k.fn aU h
theorem WK{y:V}{u:acV}{Q:Unit→acW→Prop}(I:Inv X pins σ H s)(e:H a=some (.ins C bA a8))(c:jz X.K C)(n:pW X.K C f)(av:a8.length<1000)(ct:RelV y u)(h:∀s',Inv X pins σ (upd H a (.ins C bA (hC f y a8))) s'→Q () s'):adi (adj X.prog X.w) A (setAttr (.ref a) f u) Q E s:=by
 obtain⟨eb,O,r,iT,_,aH⟩:=BH I.bR e;have bj:(a8.map (·.1)).length≤ade:=by rw[adk,aeR];omega
 refine WJ I.gf O c.n6 c.po n.XA c.hd iT bj fun h' zE jm=>h _ ?_;have hd:∃o,h'.get? bA=some o:=let⟨o,_,_,cN,_⟩:=zE.ns;⟨o,cN⟩
 refine I.write (x:=a) (e:=bA) (by rw[e];exact aeX) (.inr aH) (fun b q J z=>(jm.2 b J).trans z) hd ?_;refine⟨by rw[c8 O.ne];exact aH,?_,O.ne,zE.obj,_,zE.ns,fun g=>?_,fun g aI=>?_⟩
 ·have:=Io f y a8;omega
 ·show hJ ((hC f y a8).lookup g) (if g=f then some u else eb g);rw[Iu];by_cases q:g=f
  ·rw[if_pos q,if_pos q];exact ct
  ·rw[if_neg q,if_neg q];exact r g
 ·by_cases q:g=f
  ·rw[q];exact(BP f y a8).1
  ·refine(BP f y a8).2 g (iT g fun z=>aI ?_);show(if g=f then some u else eb g)=none;rw[if_neg q];exact z
theorem Inv.made(I:Inv X pins σ H s):Inv X pins σ (upd (upd H s.heap.objs.size (.own (s.heap.objs.size+1))) (s.heap.objs.size+1) (.ins C s.heap.objs.size []))
  { s with heap:=(s.heap.push PySem.W.emptyDict).push (PySem.W.instObj C s.heap.objs.size) }:=by
 have ae:(s.heap.push PySem.W.emptyDict).get? s.heap.objs.size=some PySem.W.emptyDict:=ac2 s.heap rfl;have au:((s.heap.push PySem.W.emptyDict).push (PySem.W.instObj C s.heap.objs.size)).get? (s.heap.objs.size+1)=some (PySem.W.instObj C s.heap.objs.size):=by
  have:=ac2 (s.heap.push PySem.W.emptyDict) (o:=PySem.W.instObj C s.heap.objs.size) rfl
  rwa [ado]at this
 have bE:(s.heap.push PySem.W.emptyDict).Ns s.heap.objs.size (fun _=>none):=⟨PySem.W.emptyDict,#[],_,ae,rfl,(fun e he=>absurd he (by simp)),fun _=>rfl⟩;have a6:=I.laid (a:=s.heap.objs.size) (o:=.own (s.heap.objs.size+1)) (h':=s.heap.push PySem.W.emptyDict) (t':=s.toks) (fun b u q=>acS _ q) (ac3 _) ⟨_,ae⟩;refine a6.laid (a:=s.heap.objs.size+1) (o:=.ins C s.heap.objs.size []) (t':=s.toks) (fun b u q=>acS _ q) (ah9 (ado _ _)) ?_;have ne:s.heap.objs.size≠s.heap.objs.size+1:=adn (ags _);refine⟨by rw[c8 ne,dN],aee _,ne,au,fun _=>none,(Heap.Ns1.of_empty bE).at fun o q=>acS _ q,fun _=>aeX,fun y b8=>absurd rfl b8⟩
theorem My{prog:ac_}{w:adB}{env:Env}{e:adq}{f:Str}{pos:Pos}{s:acW}{Q:acV→acW→Prop}(J:adJ e f env (adW e env)=adW e env)(h:adi (adj prog w) A (adW e env) (fun o dp=>adi (adj prog w) A (getAttr o f true) Q E dp) E s):adi (adj prog w) A (adW (.Attribute e f pos) env) Q E s:=
 Attribute_any_ h (by rw[arm_eval_Attribute,J])
end
noncomputable def Xl(K:PySem.W.Frag)(cg:TE)(f:Str):TE:=fun σ H Q=>cg σ H fun x H1=>∃a C bA a8 v,x=.ref a∧H1 a=some (.ins C bA a8)∧jz K C∧pW K C f∧a8.lookup f=some v∧Q v H1
noncomputable def V_(K:PySem.W.Frag)(cg og:TE)(f:Str):eT:=fun D σ H=>og σ H fun y H1=>cg σ H1 fun x aX=>∃a C bA a8,x=.ref a∧aX a=some (.ins C bA a8)∧jz K C∧pW K C f∧a8.length<1000∧
 D.bL σ (upd aX a (.ins C bA (hC f y a8)))
section
variable{X:aS}{o e value:adq}{f:Str}{pos pos' mS:Pos}{cg og:TE}
theorem UO(he:a4 X e cg)(J:adJ e f X.env (adW e X.env)=adW e X.env):a4 X (.Attribute e f pos) (Xl X.K cg f):=by intro pins s σ H Q I h;refine My J (bX (he pins s σ H _ I h) fun u s1⟨x,H1,a6,bM,a,C,bA,a8,v,ex,aj,c,n,l,q⟩=>?_);subst ex;obtain rfl:u=adE a:=bM;exact OP a6 aj c n l fun fZ s2 cn dV=>⟨v,H1,cn,dV,q⟩
theorem Vk(U:a4 X o cg)(bP:a4 X value og)(aD:afu value (some (.Attribute o f pos')) pos.line X.env=pure false):cS X (.Assign [.Attribute o f pos'] value pos) (V_ X.K cg og f):=by intro pins s σ H D I h;refine plainObj_wpAny_Assign_Attribute (bX (bP pins s σ H _ I h) fun u s1⟨y,H1,a6,ct,q⟩=>bX (U pins s1 σ H1 _ a6 q) fun dY s2⟨x,aX,cn,bM,a,C,bA,a8,ex,aj,c,n,l,bN⟩=>?_) aD;subst ex;obtain rfl:dY=adE a:=bM;exact WK cn aj c n l ct fun s3 d0=>⟨σ,_,d0,bN⟩
theorem aaD {pl:Sem Bool} {m:Str} {apos:Pos} {args:List adq} {pins:List (ac1×Obj)} {s:acW} {σ :St} {H:ag} {Q:acV→acW→Prop} {te:TE} (he:a4 X e te) (I:Inv X pins σ H s)(h:te σ H fun x H1=>∃a C bA a8 g,x=.ref a∧H1 a=some (.ins C bA a8)∧jz X.K C∧Meth X.K C m g∧a8.lookup m=none∧
    ∀s1,Inv X pins σ H1 s1→adi (adj X.prog X.w) X.A (ahT pos (.ref g) [.ref a] (adF pos (acX args X.env)) (aeq pos (adS [] X.env))) Q X.xe s1)
  (bJ:adW (.Call (.Attribute e m apos) args [] pos) X.env=(do
    let dY ←adW e X.env
    agN apos.atName
    let(f,first) ←afB [dY] (aga dY m pl)
    ahT pos f first (adF pos (acX args X.env)) (aeq pos (adS [] X.env)))) :
  adi (adj X.prog X.w) X.A (adW (.Call (.Attribute e m apos) args [] pos) X.env) Q X.xe s:=by
 refine PySem.W.methodCall_KW (pl:=pl) (bX (he pins s σ H _ I h) fun u s1⟨x,H1,a6,bM,a,C,bA,a8,g,ex,aj,c,k,l,q⟩=>?_) bJ;subst ex;obtain rfl:u=adE a:=bM;exact A8 a6 aj c k l (q s1 a6)
end
section
variable{X:aS}{pins:List (ac1×Obj)}{σ :St}{H:ag}{s:acW}{A:adp}{E:acV→acW→Prop}{Q:acV→acW→Prop}{c:acV}{b:Bool}
end
structure dx(k:Nat)(A:adp):Prop where
 hd:A.handled=none
 wK:A.depth+3*k+5<recursionLimit
 un:A.units+16*k+200<aeB
theorem dx.mono{j k:Nat}{A:adp}(r:dx k A)(h:j≤k):dx j A:=⟨r.hd,by have:=r.wK;omega,by have:=r.un;omega⟩
theorem dx.deeper{k:Nat}{A:adp}(r:dx (k+1) A)(env:Env):dx k (A.deeper env):=
 ⟨r.hd,by have:=r.wK;show A.depth+1+3*k+5<_;omega,by have:=r.un;show A.units+3+16*k+200<_;omega⟩
theorem S4{A:adp}{C:ac1}{us:List acV}{kw:List (Str×acV)}:(A.under (.builtin "type.__call__" ⟨.ref C::us,kw⟩)).depth=A.depth+1:=by
 first|rfl|simp[ah_,Code.weight,Code.isCreation,Code.isGuard,Code.isCaller,Code.frames,aia,guardIds]
theorem S6{A:adp}{C:ac1}{us:List acV}{kw:List (Str×acV)}:(A.under (.builtin "type.__call__" ⟨.ref C::us,kw⟩)).units=A.units+1:=by
 first|rfl|simp[ah_,Code.cUnits,Code.frames,aia]
theorem dx.make{k:Nat}{A:adp}(r:dx (k+1) A)(C:ac1)(us:List acV)(kw:List (Str×acV)):dx k (A.under (.builtin "type.__call__" ⟨.ref C::us,kw⟩)):=
 ⟨r.hd,by have:=r.wK;rw[S4];omega,by have:=r.un;rw[S6];omega⟩
theorem dx.depth{k:Nat}{A:adp}(r:dx k A):A.depth<recursionLimit:=by have:=r.wK;omega
theorem dx.units{k:Nat}{A:adp}(r:dx k A):A.units+64<aeB:=by have:=r.un;omega
def yI:eS:=fun _ H Q=>Q [] H
def yF(cg:TE)(cy:eS):eS:=fun σ H Q=>cg σ H fun x H1=>cy σ H1 fun xs aX=>Q (x::xs) aX
section
variable{X:aS}{e:adq}{ah:List adq}{te:TE}{t:eS}{pos:Pos}
theorem kl:fh X [] yI:=fun _ _ _ _ H Q I h=>afm ⟨[],H,I,.nil,h⟩
theorem hp(U:a4 X e te)(ay:fh X ah t)(aD:acX (e::ah) X.env=(false,adW e X.env)::acX ah X.env:=by rfl):fh X (e::ah) (yF te t):=by intro pos pins s σ H Q I h;rw[aD];show adi _ _ (spliced ((false,adW e X.env)::adF pos (acX ah X.env))) _ _ s;refine afb (bX (U pins s σ H _ I h) fun u s1⟨x,H1,a6,aq,bb⟩=>?_);exact bX (ay pos pins s1 σ H1 _ a6 bb) fun us s2⟨xs,aX,cn,bp,bN⟩=>⟨x::xs,aX,cn,.cons aq bp,bN⟩
noncomputable def DT(t:eS):TE:=fun σ H Q=>t σ H fun xs H1=>xs.length≤ade∧∀p,H1 p=none→Q (.ref p) (upd H1 p (.tup xs))
noncomputable def KJ(t:eS):TE:=fun σ H Q=>t σ H fun xs H1=>xs.length≤ade∧∀p,H1 p=none→Q (.ref p) (upd H1 p (.lst xs))
theorem Cs{hc}(h:fh X ah t):a4 X (.Tuple ah hc pos) (DT t):=by intro pins s σ H Q I aP;refine wpAny_Tuple_spliced (bX (h pos pins s σ H _ I aP) fun us s1⟨xs,H1,a6,r,z,q⟩=>⟨by rw[←r.length];exact z,?_⟩);have hf:H1 s1.heap.objs.size=none:=a6.bR.fresh (ac3 _);refine⟨.ref s1.heap.objs.size,upd H1 s1.heap.objs.size (.tup xs),a6.laid (t':=s1.toks) (fun b u e=>acS _ e) (ac3 _) ?_,rfl,q _ hf⟩;exact⟨z,us,r,⟨_,ac2 _ rfl,rfl,_,rfl⟩⟩
theorem US(h:fh X ah t):a4 X (.List ah pos) (KJ t):=by intro pins s σ H Q I aP;refine wpAny_List_spliced (bX (h pos pins s σ H _ I aP) fun us s1⟨xs,H1,a6,r,z,q⟩=>⟨by rw[←r.length];exact z,?_⟩);have hf:H1 s1.heap.objs.size=none:=a6.bR.fresh (ac3 _);refine⟨.ref s1.heap.objs.size,upd H1 s1.heap.objs.size (.lst xs),a6.laid (t':=s1.toks) (fun b u e=>acS _ e) (ac3 _) ?_,rfl,q _ hf⟩;exact⟨z,us,0,r,ac2 _ rfl⟩
end
abbrev ih:=List V→ag→cH→cT→Prop
abbrev ku:=List Env→ag→acW→cT→acV→acW→Prop
structure pR(P:ac_)(w:adB)(K:PySem.W.Frag)(mg:Str→Option acV)(base:adT)(A:adp)(outer:List Env)(s:acW)(H:ag):Prop where
 frames:A.frames=some outer
 mod:Mod K mg base
 bs:∀b o,base.get? b=some o→s.heap.get? b=some o∧H b=none
 oC:base.objs.size≤s.heap.objs.size
 jI:s.heap.FunFrames base outer
 qj:∀b∈eP outer,H b=none
 bR:eA P w H s.heap
 bare:agg s.gens
noncomputable def zq(outer:List Env)(P:ac_)(w:adB)(H:ag)(s:acW)(Q:cH)(u:acV)(s':acW):Prop:=
 ∃v H',s'.os=s.os∧agg s'.gens∧f7 (eP outer) [] H H' s.heap s'.heap∧eA P w H' s'.heap∧RelV v u∧Q v H'
noncomputable def L2(CX:ku)(outer:List Env)(P:ac_)(w:adB)(H:ag)(s:acW)(Q:cH)(E:cT)(r:Result)(s':acW):Prop:=
 match r with
 |.ok (.ret u)=>zq outer P w H s Q u s'
 |.ok _=>False
 |.error e=>CX outer H s E e s'
structure gR(P:ac_)(w:adB)(K:PySem.W.Frag)(mg:Str→Option acV)(base:adT)(CX:ku)(k:Nat)(f:ac1)(fd:ad1)(aO:List Str)(sp:ih):Prop where
 len:∀vs H Q E,sp vs H Q E→vs.length=aO.length
 run:∀(A:adp)(outer:List Env)(s:acW)(H:ag)(args:Args)(us:List acV)(vs:List V)(Q:cH)(E:cT),dx k A→pR P w K mg base A outer s H→BindsTo s fd args (aO.zip us)→Vals vs us→sp vs H Q E→
  agO (adj P w) A (.call (.ref f) args) (L2 CX outer P w H s Q E) s
theorem pR.make{P:ac_}{w:adB}{K:PySem.W.Frag}{mg:Str→Option acV}{base:adT}{A:adp}{outer:List Env}{s:acW}{H:ag}(e:pR P w K mg base A outer s H)(C:ac1)(us:List acV)(kw:List (Str×acV)) :
  pR P w K mg base (A.under (.builtin "type.__call__" ⟨.ref C::us,kw⟩)) outer s H:=⟨by first|exact e.frames|(simpa[ah_,Code.envs,aia,pushEnvs]using e.frames),e.mod,e.bs,e.oC,e.jI,e.qj,e.bR,e.bare⟩
section
variable{X:aS}{pins:List (ac1×Obj)}{σ :St}{H:ag}{s s':acW}
theorem Inv.F2(I:Inv X pins σ H s):pR X.prog X.w X.K X.mg X.base X.A X.stack s H:=
 ⟨I.ok.frames,I.ok.mod,I.bs,adt I.ok.oC I.kX,I.stack,I.DH,I.bR,I.bare⟩
theorem Inv.after{Q:cH}{u:acV}(I:Inv X pins σ H s)(h:zq X.stack X.prog X.w H s Q u s'):gr X pins σ Q u s':=by obtain⟨v,H',os,bare,un,bR,r,q⟩:=h;obtain⟨bw,g,d,t,Ut⟩:=s';obtain rfl:Ut=s.os:=os;exact⟨v,H',I.call (h':=bw) (g':=g) (d':=d) (t':=t) (ch:=[]) un bR bare (fun b z=>absurd z (by simp)),r,q⟩
end
def q3(sp:ih)(gY:List V)(E:cT)(t:eS):TE:=fun σ H Q=>t σ H fun vs H1=>sp (vs++gY) H1 Q E
noncomputable def yH(C:ac1)(m:Str)(sp:ih)(gY:List V)(E:cT)(cg:TE)(t:eS):TE:=fun σ H Q=>cg σ H fun x H1=>∃a bA a8,x=.ref a∧H1 a=some (.ins C bA a8)∧a8.lookup m=none∧
 t σ H1 fun vs aX=>sp (x::(vs++gY)) aX Q E
noncomputable def KL(C:ac1)(sp:ih)(gY:List V)(E:cT)(t:eS):TE:=fun σ H Q=>t σ H fun vs H1=>∀x bA,H1 x=none→H1 bA=none→bA≠x→
 sp (.ref x::(vs++gY)) (upd (upd H1 bA (.own x)) x (.ins C bA [])) (fun v aX=>v=.non∧Q (.ref x) aX) E
noncomputable def Binds(K:PySem.W.Frag)(fd:ad1)(aO:List Str)(ds:List acV):Prop:=
 ∀(s:acW)(us:List acV),K.In s.heap→(us++ds).length=aO.length→BindsTo s fd ⟨us,[]⟩ (aO.zip (us++ds))
theorem Binds.all{K:PySem.W.Frag}{fd:ad1}{aO:List Str}(h:∀us:List acV,us.length=aO.length→ahU fd ⟨us,[]⟩=pure (aO.zip us)):Binds K fd aO []:=fun s us _ av=>by rw[adz]at av ⊢;exact .of_eq (h us av)
noncomputable def Passes(CX:ku)(X:aS)(E:cT):Prop:=∀(pins:List (ac1×Obj))(σ :St)(H:ag)(s:acW)(e:acV)(s':acW),Inv X pins σ H s→CX X.stack H s E e s'→X.xe e s'
section
variable{X:aS}{CX:ku}{k:Nat}{f C:ac1}{fd:ad1}{aO:List Str}{sp:ih}{gY:List V}{ds:List acV}{E:cT}{x m:Str}{p pos apos:Pos}{e o:adq}{ah:List adq}{cg:TE}{t:eS}
theorem CH{pins:List (ac1×Obj)}{σ :St}{H:ag}{s:acW}{Q:cH}{us:List acV}{vs:List V}(F:gR X.prog X.w X.K X.mg X.base CX k f fd aO sp)(ay:dx k X.A)(J:Binds X.K fd aO ds)(hd:Vals gY ds)(aA:Passes CX X E)(I:Inv X pins σ H s)(r:Vals vs us)(h:sp (vs++gY) H Q E):adi (adj X.prog X.w) X.A (call (.ref f) us) (gr X pins σ Q) X.xe s:=by
 have bp:Vals (vs++gY) (us++ds):=r.append hd;have av:(us++ds).length=aO.length:=by rw[←bp.length];exact F.len _ _ _ _ h
 refine wpAny_call (agP (F.run X.A X.stack s H ⟨us,[]⟩ (us++ds) (vs++gY) Q E ay I.F2 (J s us I.gf av) bp h) fun r s' aP=>?_);cases r with
 |error e=>exact aA pins σ H s e s' I aP
 |ok hj=>
  cases hj with
  |ret u=>exact I.after aP
  |next=>exact aej aP
  |brk=>exact aej aP
  |cont=>exact aej aP
theorem n2(F:gR X.prog X.w X.K X.mg X.base CX k f fd aO sp)(ay:dx k X.A)(aI:dF X x)(hm:X.mg x=some (.ref f))(aK:PySem.W.keepIn X.K (.ref f)=true)(J:Binds X.K fd aO ds)(hd:Vals gY ds)(aA:Passes CX X E)(U:fh X (e::ah) t)(e0:(x==("__debug__" :Str))=false:=by decide)(he:acX (e::ah) X.env=(false,adW e X.env)::acX ah X.env:=by rfl)(di:(adF pos (acX ah X.env)).any (·.1)=false:=by rfl) :
  a4 X (.Call (.Name x p) (e::ah) [] pos) (q3 sp gY E t):=by
 intro pins s σ H Q I h;refine aeN (xE I aI hm ?_ e0);refine PySem.W.callWith_K (h₀:=X.base) I.ok.mod.mC aK (bX (U pos pins s σ H _ I h) fun us s1⟨vs,H1,a6,r,q⟩=>⟨a6.gf,?_⟩) he di;exact CH F ay J hd aA a6 r q
theorem UU {pl:Sem Bool} (he:a4 X o cg) (c:jz X.K C) (hm:Meth X.K C m f) (F:gR X.prog X.w X.K X.mg X.base CX k f fd aO sp) (ay:dx k X.A) (J:Binds X.K fd aO ds) (hd:Vals gY ds) (aA:Passes CX X E) (U:fh X (e::ah) t)(iH:acX (e::ah) X.env=(false,adW e X.env)::acX ah X.env:=by rfl) (di:(adF pos (acX ah X.env)).any (·.1)=false:=by rfl)(bJ:adW (.Call (.Attribute o m apos) (e::ah) [] pos) X.env=(do
    let dY ←adW o X.env
    agN apos.atName
    let(f,first) ←afB [dY] (aga dY m pl)
    ahT pos f first (adF pos (acX (e::ah) X.env)) (aeq pos (adS [] X.env))):=by rfl) :
  a4 X (.Call (.Attribute o m apos) (e::ah) [] pos) (yH C m sp gY E cg t):=by
 intro pins s σ H Q I h;refine PySem.W.methodCall_KW (pl:=pl) (bX (he pins s σ H _ I h) fun u s1⟨x,H1,a6,bM,a,bA,a8,ex,aj,l,q⟩=>?_) bJ;subst ex;obtain rfl:u=adE a:=bM;refine A8 a6 aj c hm l ?_;refine PySem.W.callWith_K (first:=[.ref a]) (h₀:=X.base) I.ok.mod.mC hm.az (bX (U pos pins s1 σ H1 _ a6 q) fun us s2⟨vs,aX,cn,r,bN⟩=>⟨cn.gf,?_⟩) iH di;exact CH (us:=.ref a::us) (vs:=.ref a::vs) F ay J hd aA cn (.cons rfl r) bN
theorem UW {pl:Sem Bool} (he:a4 X o cg) (c:jz X.K C) (hm:Meth X.K C m f) (F:gR X.prog X.w X.K X.mg X.base CX k f fd aO sp) (ay:dx k X.A) (J:Binds X.K fd aO ds) (hd:Vals gY ds) (aA:Passes CX X E)(bJ:adW (.Call (.Attribute o m apos) [] [] pos) X.env=(do
    let dY ←adW o X.env
    agN apos.atName
    let(f,first) ←afB [dY] (aga dY m pl)
    ahT pos f first (adF pos (acX [] X.env)) (aeq pos (adS [] X.env))):=by rfl) :
  a4 X (.Call (.Attribute o m apos) [] [] pos) (yH C m sp gY E cg yI):=by
 intro pins s σ H Q I h;refine PySem.W.methodCall_KW (pl:=pl) (bX (he pins s σ H _ I h) fun u s1⟨x,H1,a6,bM,a,bA,a8,ex,aj,l,q⟩=>?_) bJ;subst ex;obtain rfl:u=adE a:=bM;refine A8 a6 aj c hm l ?_;exact PySem.W.callWith_K0 (first:=[.ref a]) a6.gf hm.az (CH (us:=[.ref a]) (vs:=[.ref a]) F ay J hd aA a6 (.cons rfl .nil) q)
structure v3(K:PySem.W.Frag)(C f:ac1):Prop where
 makes:PySem.W.makesIn K C=true
 init:PySem.W.findIn K (.ref C) "__init__"=some (some (.ref f))
 fn:PySem.W.isFn K (.ref f)=true
 az:PySem.W.keepIn K (.ref C)=true
theorem V1{pins:List (ac1×Obj)}{σ :St}{H:ag}{s:acW}{Q:cH}{us:List acV}{vs:List V}(M:v3 X.K C f)(F:gR X.prog X.w X.K X.mg X.base CX k f fd aO sp)(ay:dx (k+1) X.A)(J:Binds X.K fd aO ds)(hd:Vals gY ds)(aA:Passes CX X E)(I:Inv X pins σ H s)(r:Vals vs us)(h:∀x bA,H x=none→H bA=none→bA≠x→sp (.ref x::(vs++gY)) (upd (upd H bA (.own x)) x (.ins C bA [])) (fun v aX=>v=.non∧Q (.ref x) aX) E) :
  adi (adj X.prog X.w) X.A (call (.ref C) us) (gr X pins σ Q) X.xe s:=by
 have aP:=h (s.heap.objs.size+1) s.heap.objs.size (I.bR.fresh (afn _)) (I.bR.fresh (ac3 _)) (adn (ags _));have cn:=Inv.made (C:=C) I;have bp:Vals (V.ref (s.heap.objs.size+1)::(vs++gY)) (adE (s.heap.objs.size+1)::(us++ds)):=.cons rfl (r.append hd);have av:(adE (s.heap.objs.size+1)::us++ds).length=aO.length:=by have e:=bp.length;rw[F.len _ _ _ _ aP]at e;exact e.symm
 refine wpAny_call (S5 (f:=f) I.gf M.makes M.init (beq_iff_eq.mp M.fn) (agP (F.run _ X.stack _ _ ⟨adE (s.heap.objs.size+1)::us,[]⟩ (adE (s.heap.objs.size+1)::(us++ds)) _ _ E (ay.make C us [])
  (cn.F2.make C us []) (J _ (adE (s.heap.objs.size+1)::us) cn.gf av) bp aP) fun r s' oR=>?_))
 cases r with
 |error e=>exact aA pins σ _ _ e s' cn oR
 |ok hj=>
  cases hj with
  |ret u=>obtain⟨v,H',d0,b4,ev,d6⟩:=cn.after oR;subst ev;exact⟨b4,⟨V.ref (s.heap.objs.size+1),H',d0,rfl,d6⟩⟩
  |next=>exact aej oR
  |brk=>exact aej oR
  |cont=>exact aej oR
theorem UT(M:v3 X.K C f)(F:gR X.prog X.w X.K X.mg X.base CX k f fd aO sp)(ay:dx (k+1) X.A)(aI:dF X x)(hm:X.mg x=some (.ref C))(J:Binds X.K fd aO ds)(hd:Vals gY ds)(aA:Passes CX X E)(U:fh X (e::ah) t)(e0:(x==("__debug__" :Str))=false:=by decide)(he:acX (e::ah) X.env=(false,adW e X.env)::acX ah X.env:=by rfl)(di:(adF pos (acX ah X.env)).any (·.1)=false:=by rfl) :
  a4 X (.Call (.Name x p) (e::ah) [] pos) (KL C sp gY E t):=by
 intro pins s σ H Q I h;refine aeN (xE I aI hm ?_ e0);refine PySem.W.callWith_K (h₀:=X.base) I.ok.mod.mC M.az (bX (U pos pins s σ H _ I h) fun us s1⟨vs,H1,a6,r,q⟩=>⟨a6.gf,?_⟩) he di;exact V1 M F ay J hd aA a6 r q
end
section
variable{X:aS}{CX:ku}{k:Nat}{f C:ac1}{fd:ad1}{aO ks:List Str}{sp:ih}{E:cT}{x m:Str}{p pos apos aan:Pos}{e o:adq}{ah:List adq}{aap:List aeh}{te cg:TE}{t c4:eS}{nm:Option Str}
variable{g:List acV→List acV→List acV}{aac:List V→List V→List V}
end
structure c2(N P:List Str)(sc:aew):Prop where
 kind:sc.kind=.function
 co:sc.isCoroutine=false
 gen:sc.isGenerator=false
 bI:N.Nodup
 pre:N.take P.length=P
 par:∀x∈P,sc.names.lookup x=some .local∨sc.names.lookup x=some .cell
 TQ:∀y∈sc.names,y.2≠.free
theorem Fq{af1:Str→Option ae4}{x:Str}:∀{binds:List (Str×acV)}{m:Str→Option acV},(∀v,(x,v)∉binds)→bindL af1 binds m x=m x
 |[],_,_=>rfl
 |(n,v)::r,m,h=>by
  unfold bindL;rw[Fq fun w hw=>h w (ac7 _ hw)]
  split
  ·have:x≠n:=by rintro rfl;exact h v adQ
   simp[this]
  ·rfl
theorem Fo{af1:Str→Option ae4}{x:Str}:∀{binds:List (Str×acV)}{m:Str→Option acV},(∀v,(x,v)∉binds)→bindC af1 binds m x=m x
 |[],_,_=>rfl
 |(n,v)::r,m,h=>by
  unfold bindC;rw[Fo fun w hw=>h w (ac7 _ hw)]
  split
  ·rfl
  ·have:x≠n:=by rintro rfl;exact h v adQ
   simp[this]
theorem Fp{af1:Str→Option ae4}{x:Str}{v:acV}:∀{P:List Str}{vs:List acV}{i:Nat}{m:Str→Option acV},P.Nodup→P[i]?=some x→vs[i]?=some v→af1 x=some .local→
  bindL af1 (P.zip vs) m x=some v
 |[],_,_,_,_,h,_,_=>by simp at h
 |_::_,[],_,_,_,_,h,_=>by simp at h
 |p::P,w::vs,0,m,bI,h1,h2,aK=>by simp at h1 h2;subst h1;subst h2;show bindL af1 ((p,w)::P.zip vs) m p=_;unfold bindL;rw[Fq fun v bP=>(List.nodup_cons.mp bI).1 (afT bP).1,if_pos aK];simp
 |p::P,w::vs,i+1,m,bI,h1,h2,aK=>by show bindL af1 ((p,w)::P.zip vs) m x=_;unfold bindL;exact Fp (i:=i) (List.nodup_cons.mp bI).2 (by simpa using h1) (by simpa using h2) aK
theorem Fn{af1:Str→Option ae4}{x:Str}{v:acV}:∀{P:List Str}{vs:List acV}{i:Nat}{m:Str→Option acV},P.Nodup→P[i]?=some x→vs[i]?=some v→af1 x≠some .local→
  bindC af1 (P.zip vs) m x=some v
 |[],_,_,_,_,h,_,_=>by simp at h
 |_::_,[],_,_,_,_,h,_=>by simp at h
 |p::P,w::vs,0,m,bI,h1,h2,aK=>by simp at h1 h2;subst h1;subst h2;show bindC af1 ((p,w)::P.zip vs) m p=_;unfold bindC;rw[Fo fun v bP=>(List.nodup_cons.mp bI).1 (afT bP).1,if_neg aK];simp
 |p::P,w::vs,i+1,m,bI,h1,h2,aK=>by show bindC af1 ((p,w)::P.zip vs) m x=_;unfold bindC;exact Fn (i:=i) (List.nodup_cons.mp bI).2 (by simpa using h1) (by simpa using h2) aK
def start(N:List Str)(vs:List V):St:=vs.map some++adZ (N.length-vs.length) none
noncomputable def er(CX:ku)(P:ac_)(w:adB)(K:PySem.W.Frag)(mg:Str→Option acV)(base:adT)(N:List Str)(qual:Str)(scope:aew)(f:ac1)(cd:acV)(A:adp)(outer:List Env)(s:acW)(H:ag)(E:cT):aS where
 prog:=P
 w:=w
 K:=K
 mg:=mg
 base:=base
 A:=A.deeper (aib qual scope s.heap.objs.size f cd)
 N:=N
 fF:=s
 pU:=H
 env:=aib qual scope s.heap.objs.size f cd
 outer:=outer
 stack:=aib qual scope s.heap.objs.size f cd::outer
 ex:=[]
 calm:=true
 fn:=fun _=>true
 dg:=[]
 xe:=fun e s'=>adi (adj P w) (A.deeper (aib qual scope s.heap.objs.size f cd)) (leaving (aib qual scope s.heap.objs.size f cd) e) (fun _ km=>CX outer H s E e km) (fun cN km=>CX outer H s E cN km) s'
theorem Ay{sc:aew}{n:Nat}{x:Str}(h:sc.names.lookup x=some .cell):∃c,(ad8 n sc.names []).lookup x=some c:=by have q:=PySem.W.cellsFrom_some sc.names n [] (.inl h);exact Option.isSome_iff_exists.mp q
theorem Rc{CX:ku}{P:ac_}{w:adB}{K:PySem.W.Frag}{mg:Str→Option acV}{base:adT}{N aO:List Str}{qual:Str}{scope:aew}{f:ac1}{cd:acV}{A:adp}{outer:List Env}{s s1:acW}{H:ag}{E:cT}{us:List acV}{vs:List V}(S:c2 N aO scope)(hd:A.handled=none)(cI:pR P w K mg base A outer s H)(av:vs.length=aO.length)(r:Vals vs us)(x:InCallC s s.heap.objs.size (bindL (aib qual scope s.heap.objs.size f cd).kindOf (aO.zip us) fun _=>none) (ad8 (s.heap.objs.size+1) scope.names []) (bindC (aib qual scope s.heap.objs.size f cd).kindOf (aO.zip us) fun _=>none) s1) :
  Inv (er CX P w K mg base N qual scope f cd A outer s H E) [] (start N vs) H s1:=by
 have di:aO.length≤N.length:=by have:=congrArg List.length S.pre;rw[agt]at this;omega
 obtain⟨h1,c4,rfl,aK⟩:=x.done;have uY:∀b:ac1,b∉(er CX P w K mg base N qual scope f cd A outer s H E).ex:=fun b z=>absurd (show b∈([]:List ac1)from z) (by simp)
 refine⟨⟨cI.mod,S.kind,rfl,rfl,ac3 _,fun y z c h1 h2=>?_,fun y b8=>?_,fun y c _ h=>?_,fun _=>hd,Around.frames_deeper cI.frames,.inr ⟨rfl,rfl⟩,fun b z=>absurd z (uY b),cI.bs,cI.oC,fun b _ _=>uY b,fun b z=>absurd z (uY b),cI.jI,cI.qj⟩,
  rfl,cI.bare,f7.kept aK,⟨_,x.toInCall.ns,fun i y v h1 h2 h3=>?_⟩,fun y c h=>⟨_,x.cell y c h⟩,cI.bR.fresh (ac3 _),fun y c h=>?_,fun p a5=>absurd (show p∈([]:List (ac1×Obj))from a5) (by simp),cI.bR.kept aK,?_⟩
 ·exact name_of_addr x.apart (PySem.mem_of_lookup h1) (PySem.mem_of_lookup h2)
 ·have b8:scope.names.lookup y=some .cell∨scope.names.lookup y=some .free:=b8;rcases b8 with b8|b8
  ·exact Ay b8
  ·exact absurd rfl (S.TQ _ (PySem.mem_of_lookup b8))
 ·exact ae7 (x.above y c (PySem.mem_of_lookup h))
 ·have ak:i<vs.length:=by
    unfold start at h2;by_cases ak:i<vs.length
    ·exact ak
    ·rw[adh (by simpa using ak)]at h2;rw[adC]at h2
     split at h2<;>cases h2
  have U:vs[i]?=some v:=by
   unfold start at h2;rw[adl (by simpa using ak),ac4]at h2;cases e:vs[i]? with
   |none=>rw[e]at h2;cases h2
   |some a=>rw[e]at h2;cases h2;rfl
  obtain⟨u,aV,b4⟩:=r.get U;have a5:aO[i]?=some y:=by rw[←S.pre,List.getElem?_take_of_lt (by omega)];exact h1
  have IP:aO.Nodup:=by rw[←S.pre];exact S.bI.sublist (List.take_sublist _ _)
  refine⟨u,b4,?_⟩;rcases S.par y (adg a5)with k|k
  ·exact .inl ⟨k,Fp IP a5 aV k⟩
  ·obtain⟨c,e⟩:=Ay (n:=s.heap.objs.size+1) k;refine .inr ⟨.inl k,c,e,?_⟩;have q:=x.cell y c e;rw[Fn IP a5 aV (by show scope.names.lookup y≠_;rw[k];decide)]at q;exact q
 ·exact cI.bR.fresh (ae7 (x.above y c (PySem.mem_of_lookup h)))
 ·unfold start;show _=N.length;rw[adA,adk,aea];omega
theorem G2 {CX:ku} {P:ac_} {w:adB} {K:PySem.W.Frag} {mg:Str→Option acV} {base:adT} {k:Nat} {f:ac1} {name qual:Str} {params:Arguments} {body:List ad4} {scope:aew} {wH de doc pm bV c7 ft:acV} {an dX:Option ac1}{lQ:Array (Option acV)} {N aO:List Str} {sp:ih} (lk:K.lookup f=some ⟨ft,dX,.func (PySem.W.fnOf name qual params body scope wH de doc pm an bV c7),lQ⟩) (dy:PySem.W.codeIn K bV qual=true) (S:c2 N aO scope)(len:∀vs H Q E,sp vs H Q E→vs.length=aO.length)(Bf:∀(A:adp)(outer:List Env)(s:acW)(H:ag)(vs:List V)(Q:cH)(E:cT),dx k (A.deeper (aib qual scope s.heap.objs.size f bV))→sp vs H Q E→
    ∃t,fi (er CX P w K mg base N qual scope f bV A outer s H E) body t∧t { bL:=fun _ H'=>Q .non H',c_:=Q } (start N vs) H) :
  gR P w K mg base CX (k+1) f (PySem.W.fnOf name qual params body scope wH de doc pm an bV c7) aO sp:=by
 refine⟨len,fun A outer s H args us vs Q E ay cI J r oT=>?_⟩;have av:=len _ _ _ _ oT;have lj:K.In s.heap:=cI.mod.mC.keeps fun b o e=>(cI.bs b o e).1;have lim:s.heap.NoLimit:=cI.mod.nolimit.keeps fun b o e=>(cI.bs b o e).1;have Pn:∀y∈aO.zip us,scope.names.lookup y.1=some .local∨(scope.names.lookup y.1=some .cell∧((ad8 (s.heap.objs.size+1) scope.names []).lookup y.1).isSome=true):=fun⟨n,v⟩ b8=>by
  rcases S.par n (afT b8).1 with q|q
  ·exact .inl q
  ·exact .inr ⟨q,PySem.W.cellsFrom_some _ _ _ (.inl q)⟩
 refine codeAny_call_function ay.depth (lj _ _ lk) rfl S.co S.gen rfl (PySem.W.codeRec_of lj dy) (J _ _ _ _ ?_);refine wpAny_newFunctionEnv_cells S.kind Pn fun env he s1 x=>?_;subst he;refine⟨lim.keeps x.toInCall.keep,codeAny_func ?_⟩;obtain⟨t,bJ,aP⟩:=Bf A outer s H vs Q E (ay.deeper _) oT;have I:Inv (er CX P w K mg base N qual scope f bV A outer s H E) [] (start N vs) H s1:=Rc S ay.hd cI av r x;refine adY (bJ [] s1 (start N vs) H _ I aP) (fun hj s' aD=>?_) fun e s' aD=>aD;have fin:∀{σ' :St}{H':ag}{v:V}{u:acV},Inv (er CX P w K mg base N qual scope f bV A outer s H E) [] σ' H' s'→RelV v u→Q v H'→zq outer P w H s Q u s':=
  fun{σ' H' v u} cC b4 q=>⟨v,H',cC.os,cC.bare,cC.base,cC.bR,b4,q⟩
 cases hj with
 |ret u=>obtain⟨v,σ',H',cC,b4,q⟩:=aD;exact fin cC b4 q
 |next=>obtain⟨σ',H',cC,q⟩:=aD;exact fin (v:=V.non) (u:=afj) cC rfl q
 |brk=>obtain⟨_,_,_,q⟩:=aD;exact aej q
 |cont=>obtain⟨_,_,_,q⟩:=aD;exact aej q
section
variable{X:aS}{x:Str}{p pos:Pos}{e:adq}{ah:List adq}{t:eS}{id T:String}{r:List V→ag→cH→Prop}
def yE(r:List V→ag→cH→Prop)(t:eS):TE:=fun σ H Q=>t σ H fun vs H1=>r vs H1 Q
theorem Cq(ax:hG X (.builtin id) r)(aI:dF X x)(hm:X.mg x=none)(bP:ad6 x=some (.builtin id))(U:fh X (e::ah) t)(aU:x≠"__name__":=by decide)(e0:(x==("__debug__" :Str))=false:=by decide)(he:acX (e::ah) X.env=(false,adW e X.env)::acX ah X.env:=by rfl)(di:(adF pos (acX ah X.env)).any (·.1)=false:=by rfl):a4 X (.Call (.Name x p) (e::ah) [] pos) (yE r t):=by intro pins s σ H Q I h;refine aeN (nK I aI hm bP ?_ aU e0);exact PyProof.Rows.callWith_builtin1 (bX (U pos pins s σ H _ I h) fun us s1⟨vs,H1,a6,aq,bb⟩=>ax pins s1 σ H1 vs us Q a6 aq bb) he di
theorem Jo(ax:hG X (.type T) r)(aI:dF X x)(hm:X.mg x=none)(bP:ad6 x=some (.type T))(U:fh X (e::ah) t)(aU:x≠"__name__":=by decide)(e0:(x==("__debug__" :Str))=false:=by decide)(he:acX (e::ah) X.env=(false,adW e X.env)::acX ah X.env:=by rfl)(di:(adF pos (acX ah X.env)).any (·.1)=false:=by rfl):a4 X (.Call (.Name x p) (e::ah) [] pos) (yE r t):=by intro pins s σ H Q I h;refine aeN (nK I aI hm bP ?_ aU e0);exact adL (bX (U pos pins s σ H _ I h) fun us s1⟨vs,H1,a6,aq,bb⟩=>ax pins s1 σ H1 vs us Q a6 aq bb) he di
end
end a7
namespace eH
open PySem PyProof.Rows
section
open PySem.SeqAt
open PySem.AutoSeq1 (wpAny_loadPart')
open PySem.MeetsSeq PySem.MeetsSeq2 PySem.MeetsSeq3
end
section
variable{prog:ac_}{w:adB}{A:adp}{E:acV→acW→Prop}{s:acW}
theorem M_{t b:ac1}{vs ws:List acV}{Q:acV→acW→Prop}(bJ:IsTup s.heap t vs.toArray)(J:IsTup s.heap b ws.toArray)(bP:vs≠[])(h1:ws=[]→Q (.ref t) s)(h2:ws≠[]→Q (.ref s.heap.objs.size) { s with heap:=s.heap.push { cls:=.type "tuple",data:=.seq (vs++ws).toArray } })(hsz:vs.length+ws.length≤ade):adi (adj prog w) A (aeM .Add (.ref t) (.ref b)) Q E s:=by
 obtain⟨⟨cls,dd,data,cB⟩,aH,ax,n,hd⟩:=id bJ;obtain⟨⟨Ng,rN,data2,pA⟩,lD,iF,dv,hd2⟩:=id J;simp only at ax hd iF hd2;subst ax hd iF hd2;have e:vs.toArray++ws.toArray=(vs++ws).toArray:=by simp
 by_cases hw:ws=[]
 ·exact concat_meets ⟨_,aH,rfl⟩ ⟨_,lD,rfl⟩ agu seq_tuple_add PySem.F.slot_tuple_add PySem.F.entry_tuple_add (PySem.F.args_tuple_add_2 _ _)
    (tuple_addW1 t b vs.toArray ws.toArray n dv dd rN cB pA (by simpa using bP) (by simp[hw])) ⟨aH,lD,h1 hw⟩
 ·refine concat_meets ⟨_,aH,rfl⟩ ⟨_,lD,rfl⟩ agu seq_tuple_add PySem.F.slot_tuple_add PySem.F.entry_tuple_add (PySem.F.args_tuple_add_2 _ _)
    (tuple_addW2 t b vs.toArray ws.toArray n dv dd rN cB pA (by simpa using bP) (by simpa using hw) (by rw[acY,acY];exact hsz)) ⟨aH,lD,?_⟩
  rw[e];exact h2 hw
def e7(n d:Nat):Option Int→Nat
 |none=>d
 |some v=>if v<0 then(v+(n:Int)).toNat else min v.toNat n
theorem Wb(n d k:Nat):e7 n d (some (k:Int))=min k n:=by show(if(k:Int)<0 then((k:Int)+(n:Int)).toNat else min (k:Int).toNat n)=min k n;rw[if_neg (by omega),aez]
theorem J1(n d:Nat)(hd:d≤n)(o:Option Int):e7 n d o≤n:=by
 cases o with
 |none=>exact hd
 |some v=>
  show(if v<0 then(v+(n:Int)).toNat else min v.toNat n)≤n;by_cases bP:v<0
  ·rw[if_pos bP];omega
  ·rw[if_neg bP];exact Nat.min_le_right _ _
end
end eH
namespace a7
open PySem PySem.Spec PyProof.Rows
abbrev bG:=St→ag→(Option Int→ag→Prop)→Prop
noncomputable def v8(X:aS)(e:Option adq)(t:bG):Prop:=
 ∀(pins:List (ac1×Obj))(s:acW)(σ :St)(H:ag)(Q:Option Int→ag→Prop),Inv X pins σ H s→t σ H Q→
  adi (adj X.prog X.w) X.A (evalPart e X.env) (fun u s'=>∃o H',Inv X pins σ H' s'∧IsPart u o∧Q o H') X.xe s
def Xn(t:TE):bG:=fun σ H Q=>t σ H fun x H1=>∃i,x=.int i∧Q (some i) H1
section
variable{X:aS}{e:adq}{te:TE}{lo ak:Option adq}{gm yM:bG}{pos cj:Pos}
theorem Vf(h:a4 X e te):v8 X (some e) (Xn te):=by intro pins s σ H Q I hw;rw[evalPart_some];refine bX (h pins s σ H _ I hw) fun u s1⟨x,H1,a6,aq,bb⟩=>?_;obtain⟨i,rfl,q⟩:=bb;obtain⟨t,rfl⟩:=aq;exact⟨some i,H1,a6,.int i t,q⟩
noncomputable def p0(X:aS)(r:V→Option Int→Option Int→ag→cH→Prop):Prop:=
 ∀(pins:List (ac1×Obj))(s:acW)(σ :St)(H:ag)(x:V)(v k6 k7:acV)(lo ak:Option Int)(cB:ac1)(Q:cH),Inv X pins σ H s→RelV x v→s.heap.IsSliceOf cB k6 k7 .none→IsPart k6 lo→IsPart k7 ak→r x lo ak H Q→
  ∃T id,typeLookup (.type T) "__getitem__"=pure (some (.builtin id))∧s.TypeIs v T∧adi (adj X.prog X.w) X.A (getItem v (.ref cB)) (gr X pins σ Q) X.xe s
theorem p0.or{r a9:V→Option Int→Option Int→ag→cH→Prop}(h:p0 X r)(h':p0 X a9):p0 X (fun x lo ak H Q=>r x lo ak H Q∨a9 x lo ak H Q):=by
 intro pins s σ H x v k6 k7 lo ak cB Q I bM aD pl pu q;rcases q with q|q
 ·exact h pins s σ H x v k6 k7 lo ak cB Q I bM aD pl pu q
 ·exact h' pins s σ H x v k6 k7 lo ak cB Q I bM aD pl pu q
noncomputable def KU(r:V→Option Int→Option Int→ag→cH→Prop)(te:TE)(gm yM:bG):TE:=fun σ H Q=>te σ H fun x H1=>gm σ H1 fun l aX=>yM σ aX fun u cK=>r x l u cK Q
theorem U0{r:V→Option Int→Option Int→ag→cH→Prop}(ay:p0 X r)(he:a4 X e te)(av:v8 X lo gm)(aV:v8 X ak yM):a4 X (.Subscript e (.Slice lo ak none cj) pos) (KU r te gm yM):=by intro pins s σ H Q I h;refine Subscript_ (bX (he pins s σ H _ I h) fun v s1⟨x,H1,a6,aq,bb⟩=>?_);refine wpAny_Slice (bX (av pins s1 σ H1 _ a6 bb) fun k6 s2⟨l,aX,cn,pl,bN⟩=>bX (aV pins s2 σ aX _ cn bN) fun k7 s3⟨u,cK,d0,pu,d6⟩=>?_);rw[evalPart_none];refine ac5 ?_;have kx:Inv X pins σ cK { s3 with heap:=s3.heap.push { cls:=.type "slice",data:=.fields #[k6,k7,.none] } }:=d0.kept (t':=s3.toks) fun b ob q=>acS _ q;obtain⟨T,id,hR,bJ,aI⟩:=ay pins { s3 with heap:=s3.heap.push { cls:=.type "slice",data:=.fields #[k6,k7,.none] } } σ cK x v k6 k7 l u s3.heap.objs.size Q kx aq (Heap.IsSliceOf.new ..) pl pu d6;show adi (adj X.prog X.w) X.A (subscriptTail e (.Slice lo ak none cj) v (.ref s3.heap.objs.size)) (gr X pins σ Q) X.xe { s3 with heap:=s3.heap.push { cls:=.type "slice",data:=.fields #[k6,k7,.none] } };exact tail_any (ops:=[.ref s3.heap.objs.size,v]) bJ hR aI (by with_unfolding_all rfl)
noncomputable def rK(xs:List V)(lo ak:Option Int):List V:=(xs.drop (eH.e7 xs.length 0 lo)).take (eH.e7 xs.length xs.length ak-eH.e7 xs.length 0 lo)
theorem Nn(xs:List V)(lo ak:Option Int):(rK xs lo ak).length≤xs.length:=by unfold rK;rw[agt,agv];omega
noncomputable def JI(K:PySem.W.Frag):eN:=fun x y H Q=>∃a b xs ys,x=.ref a∧y=.ref b∧b_ K H a xs∧b_ K H b ys∧xs≠[]∧xs.length+ys.length≤ade∧
 (ys=[]→Q (.ref a) H)∧(ys≠[]→∀p,H p=none→Q (.ref p) (upd H p (.tup (xs++ys))))
theorem Vals.Cb{xs:List V}{us:List acV}(r:Vals xs us):us=[]↔xs=[]:=by
 cases r with
 |nil=>simp
 |cons _ _=>simp
theorem Ul:d2 X (aeM .Add) (JI X.K):=by intro pins s σ H x y v u Q I bM ct h;obtain⟨a,b,xs,ys,rfl,rfl,U,J,aA,bj,bb,bN⟩:=h;cases bM;cases ct;obtain⟨its,aq,dr,_⟩:=I.tuple U;obtain⟨eC,bp,cj,_⟩:=I.tuple J;refine eH.M_ dr cj (fun z=>aA (aq.Cb.mp z)) (fun z=>⟨.ref a,H,I,rfl,bb (bp.Cb.mp z)⟩) (fun z=>?_) (by rw[←aq.length,←bp.length];exact bj);refine⟨.ref s.heap.objs.size,_,I.laid (t':=s.toks) (o:=.tup (xs++ys)) (fun b ob q=>acS _ q) (ac3 _) ?_,rfl,bN (fun w=>z (bp.Cb.mpr w)) _ (I.bR.fresh (ac3 _))⟩;exact⟨by rw[adA];exact bj,_,aq.append bp,IsTup.new _ _⟩
end
noncomputable def gA(n:Nat)(i:Int):Option Nat:=if 0≤i then(if i<n then some i.toNat else none)else if-(n:Int)≤i then some (i+n).toNat else none
def fb{α:Type}(xs:List α)(i:Int):Option α:=(gA xs.length i).bind fun j=>xs[j]?
theorem H4{n:Nat}{i:Int}{j:Nat}(h:gA n i=some j):agQ i n=some j∧j<n∧-(n:Int)≤i∧i<n:=by
 unfold gA at h;by_cases h0:0≤i
 ·rw[if_pos h0]at h;by_cases h1:i<n
  ·rw[if_pos h1]at h;have e:i.toNat=j:=ac0 h;exact⟨by rw[seqIndex_of h0 h1,e],by omega,by omega,h1⟩
  ·rw[if_neg h1]at h;cases h
 ·rw[if_neg h0]at h;by_cases h1: -(n:Int)≤i
  ·rw[if_pos h1]at h;have e:(i+n).toNat=j:=ac0 h;exact⟨by rw[seqIndex_neg (by omega) h1,e],by omega,h1,by omega⟩
  ·rw[if_neg h1]at h;cases h
theorem z0{α:Type}{xs:List α}{i:Int}{v:α}(h:fb xs i=some v):∃j,agQ i xs.length=some j∧xs[j]?=some v∧j<xs.length∧-(xs.length:Int)≤i∧i<xs.length:=by
 unfold fb at h;cases e:gA xs.length i with
 |none=>rw[e]at h;cases h
 |some j=>rw[e]at h;obtain⟨h1,h2,h3,h4⟩:=H4 e;exact⟨j,h1,h,h2,h3,h4⟩
def pY(b:adq):Prop:=∀o i,ahB b false o i=operate [o,i] (getItem o i)
noncomputable def m5(X:aS)(r:eN):Prop:=
 ∀(value slice:adq)(pins:List (ac1×Obj))(s:acW)(σ :St)(H:ag)(x y:V)(v u:acV)(Q:cH),Inv X pins σ H s→RelV x v→RelV y u→r x y H Q→
  ahB slice false v u=operate [v,u] (getItem v u)→adi (adj X.prog X.w) X.A (subscriptTail value slice v u) (gr X pins σ Q) X.xe s
noncomputable def v5(X:aS)(id:String)(r:V→List V→ag→cH→Prop):Prop:=
 ∀(pins:List (ac1×Obj))(s:acW)(σ :St)(H:ag)(x:V)(xs:List V)(v:acV)(us:List acV)(Q:cH),Inv X pins σ H s→RelV x v→Vals xs us→r x xs H Q→
  adi (adj X.prog X.w) X.A (call (.builtin id) (v::us)) (gr X pins σ Q) X.xe s
section
variable{X:aS}{a b:adq}{cg tb:TE}{pos:Pos}
theorem m5.or{r a9:eN}(h:m5 X r)(h':m5 X a9):m5 X (fun x y H Q=>r x y H Q∨a9 x y H Q):=by
 intro value slice pins s σ H x y v u Q I bM ct q aD;rcases q with q|q
 ·exact h value slice pins s σ H x y v u Q I bM ct q aD
 ·exact h' value slice pins s σ H x y v u Q I bM ct q aD
theorem qU{r:eN}(ay:m5 X r)(U:a4 X a cg)(J:a4 X b tb)(aD:pY b):a4 X (.Subscript a b pos) (mR r cg tb):=by intro pins s σ H Q I h;exact Subscript_ (Aw U J I h fun v u s2 x y aX cn bM ct q=>ay a b pins s2 σ aX x y v u Q cn bM ct q (aD _ _))
noncomputable def JK(K:PySem.W.Frag):eN:=fun x y H Q=>∃p xs i v,x=.ref p∧y=.int i∧bQ K H p xs∧fb xs i=some v∧Q v H
noncomputable def JM(K:PySem.W.Frag):eN:=fun x y H Q=>∃p xs i v,x=.ref p∧y=.int i∧b_ K H p xs∧fb xs i=some v∧Q v H
noncomputable def JL:eN:=fun x y H Q=>∃z i c,x=.str z∧y=.int i∧z.length≤ade∧fb z.cps.toList i=some c∧Q (.str ⟨#[c]⟩) H
theorem Ru:m5 X (JK X.K):=by
 intro value slice pins s σ H x y v u Q I bM ct h aD;obtain⟨p,xs,i,z,rfl,rfl,aP,he,q⟩:=h;cases bM;obtain⟨t,rfl⟩:=ct;obtain⟨its,r,pl,bj⟩:=I.list aP;obtain⟨j,h1,h2,h3,h4,h5⟩:=z0 he;obtain⟨w,gI,jl⟩:=r.get h2;have av:=r.length;have aU:=r6;have fin:gr X pins σ Q w s:=⟨z,H,I,jl,q⟩;by_cases h0:0≤i
 ·have cU:i.toNat=j:=by
    rw[seqIndex_of h0 h5]at h1;exact ac0 h1
  exact item_listR pl.isList h0 (by omega) (by rw[cU];simpa using gI) fin aD
 ·have cU:(i+(its.toArray.size:Int)).toNat=j:=by
    rw[seqIndex_neg (by omega) h4]at h1;rw[acY,←av];exact ac0 h1
  exact subscriptTail_builtinR (x:=w) pl.isList.typeIs slot_list_getitem.lookup
   (wpAny_getItem_list_neg (Q:=fun r s'=>r=w∧gr X pins σ Q r s') pl.isList (by omega) (by rw[acY]<;>omega) (by omega) (by rw[cU];simpa using gI) ⟨rfl,fin⟩) aD
theorem Rx:m5 X (JM X.K):=by
 intro value slice pins s σ H x y v u Q I bM ct h aD;obtain⟨p,xs,i,z,rfl,rfl,aP,he,q⟩:=h;cases bM;obtain⟨t,rfl⟩:=ct;obtain⟨its,r,pl,bj⟩:=I.tuple aP;obtain⟨j,h1,h2,h3,h4,h5⟩:=z0 he;obtain⟨w,gI,jl⟩:=r.get h2;have av:=r.length;have aU:=r6;have fin:gr X pins σ Q w s:=⟨z,H,I,jl,q⟩
 exact subscriptTail_builtinR (x:=w) pl.typeIs slot_tuple_getitem.lookup
  (getItem_tuple (j:=j) (Q:=fun r s'=>r=w∧gr X pins σ Q r s') pl (by omega) (by omega) (by rw[acY,←av];exact h1) (by simpa using gI) ⟨rfl,fin⟩) aD
theorem Rw:m5 X JL:=by
 intro value slice pins s σ H x y v u Q I bM ct h aD;obtain⟨z,i,c,rfl,rfl,bj,he,q⟩:=h;obtain⟨t,rfl⟩:=bM;obtain⟨t',rfl⟩:=ct;obtain⟨j,h1,h2,h3,h4,h5⟩:=z0 he;have av:z.cps.toList.length=z.length:=by simp[Str.length]
 rw[av]at h1 h4 h5;have aU:=r6;exact tail_any (typeIs_str s z t) slot_str_getitem.lookup (getItem_str (c:=c) (by have ae:decide (i< -(2^63:Int))=false:=decide_eq_false (by omega);have au:decide (i≥2^63)=false:=decide_eq_false (by omega);rw[ae,au,Bool.or_false]) (by rw[h1];simpa using h2) ⟨.str ⟨#[c]⟩,H,I.tok _,⟨_,rfl⟩,q⟩) aD
def ve(K:PySem.W.Frag):eN:=fun x y H Q=>JK K x y H Q∨JM K x y H Q∨JL x y H Q
theorem qx:m5 X (ve X.K):=Ru.or (Rx.or Rw)
theorem S7(its:List acV)(n j:Nat)(u:acV):aep (·.setIfInBounds j u) { cls:=.type "list",data:=.seq its.toArray n }={ cls:=.type "list",data:=.seq (its.set j u).toArray n }:=by simp[aep]
theorem Inv.lst{pins:List (ac1×Obj)}{σ :St}{H:ag}{s:acW}{p:ac1}{xs:List V}(I:Inv X pins σ H s)(h:H p=some (.lst xs)) :
  ∃(its:List acV)(n:Nat),Vals xs its∧s.heap.get? p=some { cls:=.type "list",data:=.seq its.toArray n }∧xs.length≤ade:=by
 obtain⟨z,its,n,r,e⟩:=I.bR p _ h;exact⟨its,n,r,e,z⟩
theorem Inv.SS{pins:List (ac1×Obj)}{σ :St}{H:ag}{s:acW}{p:ac1}{xs ys:List V}{its its':List acV}{n lN:Nat}{f:Obj→Obj}(I:Inv X pins σ H s)(h:H p=some (.lst xs))(aH:s.heap.get? p=some { cls:=.type "list",data:=.seq its.toArray n })(hf:f { cls:=.type "list",data:=.seq its.toArray n }={ cls:=.type "list",data:=.seq its'.toArray lN })(r:Vals ys its')(bj:ys.length≤ade)(t:Nat) :
  Inv X pins σ (upd H p (.lst ys)) { s with heap:=s.heap.update p f,toks:=t }:=by
 have e:(s.heap.update p f).get? p=some { cls:=.type "list",data:=.seq its'.toArray lN }:=by rw[agR f aH (by rw[hf]<;>rfl),hf]
 refine I.write (x:=p) (e:=p) (by rw[h];trivial) (.inl rfl) (fun b u J q=>(agz _ _ (afA J)).trans q) ⟨_,e⟩ ?_;exact⟨bj,its',lN,r,e⟩
noncomputable def JN:V→V→V→ag→(ag→Prop)→Prop:=fun o i v H Q=>∃p xs k j,o=.ref p∧i=.int k∧H p=some (.lst xs)∧gA xs.length k=some j∧Q (upd H p (.lst (xs.set j v)))
theorem set_list:ER X JN:=by
 intro pins s σ H o i v dY gL u Q I hr VV b4 h;obtain⟨p,xs,k,j,rfl,rfl,a5,cU,q⟩:=h;cases hr;obtain⟨t,rfl⟩:=VV;obtain⟨its,n,r,aH,bj⟩:=I.lst a5;obtain⟨h1,h2,h3,h4⟩:=H4 cU;have av:=r.length;have aU:=r6;have md:Inv X pins σ (upd H p (.lst (xs.set j v))) { s with heap:=s.heap.update p (aep (·.setIfInBounds j u)) }:=
  I.SS a5 aH (S7 its n j u) (r.set b4 j) (by rw[List.length_set];exact bj) s.toks
 by_cases h0:0≤k
 ·have aK:k.toNat=j:=by
    rw[seqIndex_of h0 h4]at h1;exact ac0 h1
  exact PySem.W.ki_setAt aH h0 (by omega) (by rw[acY,←av];exact h4) (by rw[aK];exact⟨_,md,q⟩)
 ·have aK:(k+(its.toArray.size:Int)).toNat=j:=by
    rw[seqIndex_neg (by omega) h3]at h1;rw[acY,←av];exact ac0 h1
  exact PySem.W.ki_setBack aH (by omega) (by rw[acY,←av];exact h3) (by omega) (by rw[aK];exact⟨_,md,q⟩)
theorem WX(lo ak:Option Int)(n:Nat):(afo lo ak none n).1=((eH.e7 n 0 lo:Nat):Int)∧(afo lo ak none n).2.1=((eH.e7 n n ak:Nat):Int)∧(afo lo ak none n).2.2=1:=by
 refine⟨?_,?_,rfl⟩
 ·cases lo with
  |none=>simp[afo,eH.e7]
  |some i=>
   simp only[afo,eH.e7,agw,show(1:Int)>0 by decide,if_true];by_cases h:i<0
   ·simp only[h,if_true]<;>omega
   ·simp only[h,if_false]<;>omega
 ·cases ak with
  |none=>simp[afo,eH.e7]
  |some i=>
   simp only[afo,eH.e7,agw,show(1:Int)>0 by decide,if_true];by_cases h:i<0
   ·simp only[h,if_true]<;>omega
   ·simp only[h,if_false]<;>omega
theorem WW(its:List acV)(lo ak:Option Int):slicePick its.toArray lo ak none=((its.drop (eH.e7 its.length 0 lo)).take (eH.e7 its.length its.length ak-eH.e7 its.length 0 lo)).toArray:=by obtain⟨h1,h2,h3⟩:=WX lo ak its.toArray.size;unfold slicePick;rw[h1,h2,h3];simp only[sliceRange_one,pick_run,acY]<;>rfl
noncomputable def JO(K:PySem.W.Frag):V→Option Int→Option Int→ag→cH→Prop:=fun x lo ak H Q=>∃a xs,x=.ref a∧bQ K H a xs∧∀p,H p=none→Q (.ref p) (upd H p (.lst (rK xs lo ak)))
theorem WU:p0 X (JO X.K):=by intro pins s σ H x v k6 k7 lo ak cB Q I bM aD pl pu h;obtain⟨a,xs,rfl,aA,q⟩:=h;cases bM;obtain⟨its,r,bJ,bj⟩:=I.list aA;have hlen:=r.length;refine⟨"list",_,slot_list_getitem.lookup,bJ.isList.typeIs,?_⟩;refine wpAny_getItem_list_slice bJ.isList aD pl pu .none (by simp) ?_ (by rw[acY]<;>omega);rw[WW,←hlen];refine⟨.ref s.heap.objs.size,_,I.laid (t':=s.toks) (o:=.lst (rK xs lo ak)) (fun b ob q=>acS _ q) (ac3 _) ?_,rfl,q _ (I.bR.fresh (ac3 _))⟩;exact⟨adt (Nn xs lo ak) bj,_,0,(r.drop (eH.e7 xs.length 0 lo)).take (eH.e7 xs.length xs.length ak-eH.e7 xs.length 0 lo),ac2 _ rfl⟩
theorem hG.or{f:acV}{r a9:List V→ag→cH→Prop}(h:hG X f r)(h':hG X f a9):hG X f (fun xs H Q=>r xs H Q∨a9 xs H Q):=by
 intro pins s σ H xs us Q I rs q;rcases q with q|q
 ·exact h pins s σ H xs us Q I rs q
 ·exact h' pins s σ H xs us Q I rs q
theorem M1:hG X (.type "list") (fun xs H Q=>∃p ys,xs=[.ref p]∧(bQ X.K H p ys∨b_ X.K H p ys)∧∀l,H l=none→Q (.ref l) (upd H l (.lst ys))):=by
 intro pins s σ H xs us Q I r h;obtain⟨p,ys,rfl,aP,q⟩:=h;obtain⟨u,rfl,bM⟩:=vals1 r;cases bM
 have fin:∀(its:List acV),Vals ys its→ys.length≤ade→∀(h':adT)(e2:Nat),(∀b cc,s.heap.get? b=some cc→h'.get? b=some cc)→
   h'.get? s.heap.objs.size=some { cls:=.type "list",dict:=none,data:=.seq its.toArray e2,slots:= #[] }→gr X pins σ Q (.ref s.heap.objs.size) { s with heap:=h' }:=fun its a9 bj h' e2 az e=>
  ⟨.ref s.heap.objs.size,_,I.laid (t':=s.toks) az (ac3 _) (show e9 X.prog X.w _ h' _ (.lst ys)from⟨bj,its,e2,a9,e⟩),rfl,q _ (I.bR.fresh (ac3 _))⟩
 rcases aP with aP|aP
 ·obtain⟨its,a9,pl,bj⟩:=I.list aP;have hlen:=a9.length;obtain⟨o,aH,ax,n,hd⟩:=pl.isList;exact call_list_seq p (.inl rfl) aH ax hd (fun h' e2 az e=>fin its a9 bj h' e2 az e) (by simp only[acY]<;>omega)
 ·obtain⟨its,a9,pl,bj⟩:=I.tuple aP;have hlen:=a9.length;obtain⟨o,aH,ax,n,hd⟩:=pl;exact call_list_seq p (.inr rfl) aH ax hd (fun h' e2 az e=>fin its a9 bj h' e2 az e) (by simp only[acY]<;>omega)
theorem M5:hG X (.type "tuple") (fun xs H Q=>∃p ys,xs=[.ref p]∧((bQ X.K H p ys∧∀l,H l=none→Q (.ref l) (upd H l (.tup ys)))∨(b_ X.K H p ys∧Q (.ref p) H))):=by
 intro pins s σ H xs us Q I r h;obtain⟨p,ys,rfl,h⟩:=h;obtain⟨u,rfl,bM⟩:=vals1 r;cases bM;rcases h with⟨aP,q⟩|⟨aP,q⟩
 ·obtain⟨its,a9,pl,bj⟩:=I.list aP;have hlen:=a9.length;refine call_tuple_list pl.isList (fun h' az=>?_) (by simp only[acY]<;>omega);have a6:Inv X pins σ H { s with heap:=h' }:=I.kept (t':=s.toks) az;have cn:Inv X pins σ (upd H h'.objs.size (.tup ys)) { s with heap:=h'.push { cls:=.type "tuple",data:=.seq its.toArray } }:=
   a6.laid (t':=s.toks) (fun b o e=>acS _ e) (ac3 _) (show e9 X.prog X.w _ _ _ (.tup ys)from⟨bj,its,a9,IsTup.new _ _⟩)
  exact⟨.ref h'.objs.size,_,cn,rfl,q _ (a6.bR.fresh (ac3 _))⟩
 ·obtain⟨its,a9,pl,bj⟩:=I.tuple aP;exact call_tuple_same pl ⟨.ref p,H,I,rfl,q⟩
noncomputable def D3(K:PySem.W.Frag)(T:String)(x:V)(H:ag):Prop:=match x with
 |.str _=>T="str"
 |.int _=>T="int"
 |.ref p=>(T="list"∧∃xs,bQ K H p xs)∨(T="tuple"∧∃o,K.lookup p=some o∧o.cls=.type "tuple"∧o.dict=none)∨
     (T="dict"∧((∃bq,H p=some (.eO bq))∨∃bq,H p=some (.bH bq)))∨(T="set"∧∃S n,H p=some (.set S n))
 |_=>False
theorem K5{pins:List (ac1×Obj)}{σ :St}{H:ag}{s:acW}{T:String}{x:V}{v:acV}(I:Inv X pins σ H s)(r:RelV x v)(ty:D3 X.K T x H) :
  s.TypeIs v T∧∀a,v=.ref a→∃ob,s.heap.get? a=some ob∧ob.dict=none:=by
 cases x with
 |str z=>obtain⟨t,rfl⟩:=r;cases(show T="str" from ty);exact⟨typeIs_str s z t,fun _ e=>nomatch e⟩
 |int i=>obtain⟨t,rfl⟩:=r;cases(show T="int" from ty);exact⟨typeIs_int s i t,fun _ e=>nomatch e⟩
 |ref p=>
  cases r;rcases ty with⟨rfl,xs,aP⟩|⟨rfl,o,aK,ax,hd⟩|⟨rfl,aK⟩|⟨rfl,S,n,aK⟩
  ·obtain⟨its,_,pl,_⟩:=I.list aP;refine⟨pl.isList.typeIs,fun a e=>?_⟩;cases e;obtain⟨o,n,e,c,hd,_⟩:=pl;exact⟨o,e,hd⟩
  ·refine⟨⟨o,I.gf p o aK,ax⟩,fun a e=>?_⟩;cases e;exact⟨o,I.gf _ o aK,hd⟩
  ·have z:∃o,s.heap.get? p=some o∧o.ExactDict:=by
     rcases aK with⟨bq,aK⟩|⟨bq,aK⟩
     ·obtain⟨_,_,_,_,o,_,_,e,ex,_⟩:=I.bR p _ aK;exact⟨o,e,ex⟩
     ·obtain⟨_,_,_,_,o,_,_,e,ex,_⟩:=I.bR p _ aK;exact⟨o,e,ex⟩
   obtain⟨o,e,ex⟩:=z;refine⟨⟨o,e,ex.1⟩,fun a au=>?_⟩;cases au;exact⟨o,e,ex.2.1⟩
  ·obtain⟨o,_,_,_,e,ex,_⟩:=I.bR p _ aK;refine⟨⟨o,e,ex.1⟩,fun a au=>?_⟩;cases au;exact⟨o,e,ex.2.1⟩
 |_=>exact aej ty
noncomputable def Xj(K:PySem.W.Frag)(T:String)(r:V→List V→ag→cH→Prop)(to:TE):TE:=fun σ H Q=>to σ H fun x H1=>D3 K T x H1∧r x [] H1 Q
noncomputable def Xi(K:PySem.W.Frag)(T:String)(r:V→List V→ag→cH→Prop)(to:TE)(t:eS):TE:=fun σ H Q=>to σ H fun x H1=>D3 K T x H1∧t σ H1 fun xs aX=>r x xs aX Q
variable{o e:adq}{ah:List adq}{to:TE}{t:eS}{name:Str}{apos b6:Pos}{T id:String}{r:V→List V→ag→cH→Prop}
theorem UI(Cp:PlainAttrs T)(slot:Slot T name id)(By:typeOf (.builtin id)=pure (.type "method_descriptor"))(hm:v5 X id r)(aH:a4 X o to)(gy:adJ o name X.env (adW o X.env)=adW o X.env:=by rfl)(gz:(apos.endLine==b6.line)=true:=by rfl):a4 X (.Call (.Attribute o name apos) [] [] b6) (Xj X.K T r to):=by intro pins s σ H Q I h;refine wpAny_Call_method0_late gy gz (bX (aH pins s σ H _ I h) fun v s1⟨x,H1,a6,aq,ty,bb⟩=>?_);obtain⟨h1,h2⟩:=K5 a6 aq ty;exact⟨T,id,Cp,slot,By,h1,h2,afh rfl (PySem.evalArgs_none (hm pins s1 σ H1 x [] v [] Q a6 aq .nil bb))⟩
theorem n1 (Cp:PlainAttrs T) (slot:Slot T name id) (By:typeOf (.builtin id)=pure (.type "method_descriptor")) (hm:v5 X id r) (aH:a4 X o to) (U:fh X (e::ah) t)(gy:adJ o name X.env (adW o X.env)=adW o X.env:=by rfl)(hy:((adF b6 (acX (e::ah) X.env)).all (fun x=>!x.1)&&(aeq b6 (adS [] X.env)).all (fun x=>x.1.isSome)
    &&decide ((e::ah).length+([]:List aeh).length+(if([]:List aeh).isEmpty then 0 else 1)<30))=true:=by rfl)
  (gz:(apos.endLine==b6.line)=true:=by rfl) (aD:acX (e::ah) X.env=(false,adW e X.env)::acX ah X.env:=by rfl) (hz:(adF b6 (acX ah X.env)).any (·.1)=false:=by rfl) :
  a4 X (.Call (.Attribute o name apos) (e::ah) [] b6) (Xi X.K T r to t):=by
 intro pins s σ H Q I h;refine wpAny_Call_method_late gy hy gz rfl (bX (aH pins s σ H _ I h) fun v s1⟨x,H1,a6,aq,ty,bb⟩=>?_);obtain⟨h1,h2⟩:=K5 a6 aq ty;refine⟨T,id,Cp,slot,By,h1,h2,?_⟩;have i6:=U b6 pins s1 σ H1 _ a6 bb;rw[aD]at i6 ⊢;refine afh (by show(false||(adF b6 (acX ah X.env)).any (·.1))=false;rw[hz]<;>rfl) (afH ?_);exact bX i6 fun us s2⟨vs,aX,cn,bp,bN⟩=>hm pins s2 σ aX x vs v us Q cn aq bp bN
end
noncomputable def sZ(X:aS)(id:String)(r:V→List V→ag→cH→Prop):Prop:=
 ∀(pins:List (ac1×Obj))(s:acW)(σ :St)(H:ag)(x:V)(xs:List V)(v:acV)(us:List acV)(Q:cH),Inv X pins σ H s→RelV x v→Vals xs us→r x xs H Q→
  adi (adj X.prog X.w) X.A (call (.builtin id) (v::us)) (gr X pins σ Q) X.xe s
theorem Vals.one:∀{x:V}{us:List acV},Vals [x] us→∃u,us=[u]∧RelV x u
 |_,_,.cons r .nil=>⟨_,rfl,r⟩
theorem Vals.zero:∀{us:List acV},Vals [] us→us=[]
 |_,.nil=>rfl
theorem Vals.dropLast{xs:List V}{us:List acV}(h:Vals xs us):Vals xs.dropLast us.dropLast:=by
 induction h with
 |nil=>exact .nil
 |cons r t cq=>
  cases t with
  |nil=>exact .nil
  |cons q t'=>exact .cons r cq
theorem Vals.eraseIdx:∀{xs:List V}{us:List acV}(i:Nat),Vals xs us→Vals (xs.eraseIdx i) (us.eraseIdx i)
 |_,_,_,.nil=>.nil
 |_,_,0,.cons _ t=>t
 |_,_,i+1,.cons r t=>.cons r (Vals.eraseIdx i t)
theorem Oo{α:Type}(l:List α):l.eraseIdx (l.length-1)=l.dropLast:=by
 induction l with
 |nil=>rfl
 |cons a r cq=>
  cases r with
  |nil=>rfl
  |cons b r=>
   have e:(a::b::r).length-1=((b::r).length-1)+1:=by have h1:(a::b::r).length=r.length+2:=rfl;have h2:(b::r).length=r.length+1:=rfl;omega
   rw[e,afc,cq]
   all_goals rfl
theorem Il{α:Type}:∀(l:List α)(i:Nat),(l.eraseIdx i).length≤l.length
 |[],_=>ac3 _
 |_::_,0=>afn _
 |_::r,i+1=>Nat.succ_le_succ (Il r i)
section
variable{X:aS}{pins:List (ac1×Obj)}{σ :St}{H:ag}{s:acW}{l b:ac1}{xs ys zs:List V}
theorem Inv.ud{its its':List acV}{n:Nat}{f:Array acV→Array acV}{t':Nat}(I:Inv X pins σ H s)(hl:H l=some (.lst xs))(e:s.heap.get? l=some { cls:=.type "list",data:=.seq its.toArray n })(hf:f its.toArray=its'.toArray)(bP:Vals ys its')(bj:ys.length≤ade) :
  Inv X pins σ (upd H l (.lst ys)) { s with heap:=s.heap.update l (aep f),toks:=t' }:=by
 have q:=PySem.IsL.update e f;rw[hf]at q;refine I.write (x:=l) (e:=l) (by rw[hl];exact trivial) (.inl rfl) (fun b' u J aV=>(agz s.heap (aep f) (afA J)).trans aV) ⟨_,q⟩ ?_;exact⟨bj,its',_,bP,q⟩
theorem Inv.Ir{its:List acV}{t':Nat}(I:Inv X pins σ H s)(bP:Vals ys its)(bj:ys.length≤ade) :
  Inv X pins σ (upd H s.heap.objs.size (.lst ys)) { s with heap:=s.heap.push { cls:=.type "list",data:=.seq its.toArray },toks:=t' }:=
 I.laid (fun _ _ q=>acS _ q) (ac3 _) ⟨bj,its,0,bP,ac2 _ rfl⟩
theorem Inv.fresh(I:Inv X pins σ H s):H s.heap.objs.size=none:=I.bR.fresh (ac3 _)
theorem Inv.oY(I:Inv X pins σ H s)(hl:H l=some (.lst xs)):xs.length≤ade∧∃(its:List acV)(n:Nat),Vals xs its∧xs.length=its.length∧s.heap.get? l=some { cls:=.type "list",data:=.seq its.toArray n }:=by obtain⟨z,its,n,r,e⟩:=I.bR l _ hl;exact⟨z,its,n,r,r.length,e⟩
theorem TS{n:Nat}(h:n≤ade):ae8 n=false:=by unfold ae8;exact decide_eq_false (by omega)
end
section
variable{X:aS}
noncomputable def VB:V→List V→ag→cH→Prop:=fun x vs H Q=>∃l xs y,x=.ref l∧vs=[y]∧H l=some (.lst xs)∧xs.length<ade∧Q .non (upd H l (.lst (xs++[y])))
theorem uT:sZ X "list.append" VB:=by intro pins s σ H x vs v us Q I bM b4 h;obtain⟨l,xs,y,rfl,rfl,hl,bj,q⟩:=h;cases bM;obtain⟨u,rfl,dV⟩:=b4.one;obtain⟨z,its,n,r,av,e⟩:=I.oY hl;refine agb F.slot_list_append ⟨_,e,rfl⟩ F.entry_list_append (F.args_list_append_2 _ _) (PySem.list_append l its.toArray n u (by rw[acY];omega)) ⟨e,?_⟩;refine⟨.non,_,I.ud (its':=its++[u]) hl e (by simp) (r.append (.cons dV .nil)) ?_,rfl,q⟩;rw[adA,afv];omega
noncomputable def VC:V→List V→ag→cH→Prop:=fun x vs H Q=>∃l b xs zs,x=.ref l∧vs=[.ref b]∧H l=some (.lst xs)∧H b=some (.lst zs)∧xs.length+zs.length≤ade∧Q .non (upd H l (.lst (xs++zs)))
theorem Tg:sZ X "list.extend" VC:=by
 intro pins s σ H x vs v us Q I bM b4 h;obtain⟨l,b,xs,zs,rfl,rfl,hl,nx,bj,q⟩:=h;cases bM;obtain⟨u,rfl,dV⟩:=b4.one;cases dV;obtain⟨z,its,n,r,av,e⟩:=I.oY hl;obtain⟨a_,eC,dv,bp,j7,au⟩:=I.oY nx;have hsz:its.toArray.size+eC.toArray.size≤ade:=by rw[acY,acY];omega
 have Pr:¬(!its.toArray.isEmpty&&ae8 (its.toArray.size+eC.toArray.size))=true:=by rw[TS hsz,ahy];exact adw
 refine agb F.slot_list_extend ⟨_,e,rfl⟩ F.entry_list_extend (F.args_list_extend_2 _ _)
  (AutoSeq1.list_extend_list_list_0 l its.toArray n b eC.toArray dv Pr (by rw[acY];omega) (by omega)) ⟨e,au,?_⟩
 refine⟨.non,_,I.ud (its':=its++eC) hl e (by simp) (r.append bp) ?_,rfl,q⟩;rw[adA];omega
noncomputable def VG:V→List V→ag→cH→Prop:=fun x vs H Q=>∃l xs y,x=.ref l∧vs=[]∧H l=some (.lst xs)∧xs[xs.length-1]?=some y∧Q y (upd H l (.lst xs.dropLast))
theorem Tn:sZ X "list.pop" VG:=by
 intro pins s σ H x vs v us Q I bM b4 h;obtain⟨l,xs,y,rfl,rfl,hl,b8,q⟩:=h;cases bM;have PM:=b4.zero;subst PM;obtain⟨z,its,n,r,av,e⟩:=I.oY hl;obtain⟨u,aV,dV⟩:=r.get b8;have PQ:its.toArray[its.toArray.size-1]?=some u:=by show its.toArray[its.length-1]?=some u;rw[←aeS,←av];exact aV
 refine agb F.slot_list_pop ⟨_,e,rfl⟩ F.entry_list_pop (F.args_list_pop_1 _) (MeetsSeq.list_pop_last l its.toArray n u PQ (by rw[acY];omega)) ⟨e,?_⟩;refine⟨y,_,I.ud (its':=its.dropLast) hl e ?_ r.dropLast ?_,dV,q⟩
 ·show its.toArray.eraseIdxIfInBounds (its.toArray.size-1)=its.dropLast.toArray;rw[acY,afp,Oo]
 ·rw[List.length_dropLast];omega
noncomputable def VH:V→List V→ag→cH→Prop:=fun x vs H Q=>∃l xs i k y,x=.ref l∧vs=[.int i]∧H l=some (.lst xs)∧-(2^63)≤i∧i<2^63∧agQ i xs.length=some k∧xs[k]?=some y∧Q y (upd H l (.lst (xs.eraseIdx k)))
theorem Tp:sZ X "list.pop" VH:=by
 intro pins s σ H x vs v us Q I bM b4 h;obtain⟨l,xs,i,k,y,rfl,rfl,hl,h1,h2,aK,b8,q⟩:=h;cases bM;obtain⟨u,rfl,dV⟩:=b4.one;obtain⟨t,rfl⟩:=dV;obtain⟨z,its,n,r,av,e⟩:=I.oY hl;obtain⟨w,hw,jl⟩:=r.get b8
 refine agb F.slot_list_pop ⟨_,e,rfl⟩ F.entry_list_pop (F.args_list_pop_2 _ _)
  (MeetsSeq.list_pop_at l its.toArray n i t k w (fitsIndex_both h1 h2) (by rw[acY,←av];exact aK) (by rw[←aeS];exact hw) (by rw[acY];omega)) ⟨e,?_⟩
 refine⟨y,_,I.ud (its':=its.eraseIdx k) hl e ?_ (r.eraseIdx k) ?_,jl,q⟩
 ·show its.toArray.eraseIdxIfInBounds k=(its.eraseIdx k).toArray;rw[afp]
 ·have:=Il xs k;omega
noncomputable def JH:eN:=fun x y H Q=>∃l b xs zs,x=.ref l∧y=.ref b∧H l=some (.lst xs)∧H b=some (.lst zs)∧xs.length+zs.length≤ade∧∀p,H p=none→Q (.ref p) (upd H p (.lst (xs++zs)))
theorem I7:d2 X (aeM .Add) JH:=by
 intro pins s σ H x y v u Q I bM ct h;obtain⟨l,b,xs,zs,rfl,rfl,hl,nx,bj,q⟩:=h;cases bM;cases ct;obtain⟨z,its,n,r,av,e⟩:=I.oY hl;obtain⟨a_,eC,dv,bp,j7,au⟩:=I.oY nx;refine PySem.P.add_list e au ?_ (by rw[acY,acY];omega);have aj:its.toArray++eC.toArray=(its++eC).toArray:=by simp
 rw[aj];exact⟨.ref _,_,I.Ir (t':=s.toks) (r.append bp) (by rw[adA];omega),rfl,q _ I.fresh⟩
end
section
variable{prog:ac_}{w:adB}{A:adp}{E:acV→acW→Prop}{s:acW}
end
section
variable{X:aS}
end
section
variable{κ:Type}[DecidableEq κ]
def hb(bq:List (κ×V))(k:κ):Option V:=(bq.find? fun fe=>decide (fe.1=k)).map (·.2)
noncomputable def putK(bq:List (κ×V))(k:κ)(v:V):List (κ×V):=
 if(bq.any fun fe=>decide (fe.1=k))=true then bq.map (fun fe=>if fe.1=k then(fe.1,v)else fe)else bq++[(k,v)]
theorem D7{p:κ×V}{r:List (κ×V)}{k:κ}(e:p.1=k):hb (p::r) k=some p.2:=by simp[hb,ad0,e]
theorem D6{p:κ×V}{r:List (κ×V)}{k:κ}(e:¬p.1=k):hb (p::r) k=hb r k:=by simp[hb,ad0,e]
theorem D5(k:κ):∀bq:List (κ×V),(bq.any fun fe=>decide (fe.1=k))=(hb bq k).isSome
 |[]=>rfl
 |p::r=>by
  rw[aeE];by_cases e:p.1=k
  ·simp only[D7 e,decide_eq_true e,Bool.true_or,ahV]
  ·rw[D6 e,decide_eq_false e,agi];exact D5 k r
theorem Ip(bq:List (κ×V))(k:κ)(v:V):(putK bq k v).length≤bq.length+1:=by
 unfold putK
 split
 ·rw[adk];omega
 ·rw[adA,adf,aeb];omega
theorem Vs{bq:List (κ×V)}{k:κ}(v:V)(h:hb bq k=none):putK bq k v=bq++[(k,v)]:=by unfold putK;rw[D5,h];exact if_neg (by decide)
theorem hJ.t6{o:Option V}{u:Option acV}(r:hJ o u):o.isSome=u.isSome:=by
 cases o with
 |none=>cases u with
  |none=>rfl
  |some _=>exact(show False from r).elim
 |some _=>cases u with
  |none=>exact(show False from r).elim
  |some _=>rfl
theorem hJ.getD{o:Option V}{u:Option acV}{d:V}{d':acV}(r:hJ o u)(sD:RelV d d'):RelV (o.getD d) (u.getD d'):=by
 cases o with
 |none=>cases u with
  |none=>exact sD
  |some _=>exact(show False from r).elim
 |some _=>cases u with
  |none=>exact(show False from r).elim
  |some _=>exact r
theorem gT.val{bq:List (κ×V)}{vs:List (κ×acV)}(r:gT bq vs)(k:κ):hJ (hb bq k) (ah2 vs k):=by
 unfold gT at r;induction r with
 |nil=>exact aeX
 | @cons p q aO hq h t cq=>
   obtain⟨h1,h2⟩:=h;by_cases e:p.1=k
   ·have cN:q.1=k:=h1.symm.trans e;have b:ah2 (q::hq) k=some q.2:=by simp[ah2,ad0,cN]
    rw[D7 e,b];exact h2
   ·have cN:¬q.1=k:=fun z=>e (h1.trans z);have b:ah2 (q::hq) k=ah2 hq k:=by simp[ah2,ad0,cN]
    rw[D6 e,b];exact cq
theorem gT.any{bq:List (κ×V)}{vs:List (κ×acV)}(r:gT bq vs)(k:κ):(bq.any fun fe=>decide (fe.1=k))=vs.any fun fe=>decide (fe.1=k):=by
 unfold gT at r;induction r with
 |nil=>rfl
 |cons h t cq=>rw[aeE,aeE,cq,h.1]
theorem gT.CD{bq:List (κ×V)}{vs:List (κ×acV)}(r:gT bq vs)(k:κ){y:V}{u:acV}(ct:RelV y u) :
  gT (bq.map fun fe=>if fe.1=k then(fe.1,y)else fe) (vs.map fun fe=>if fe.1=k then(fe.1,u)else fe):=by
 unfold gT at r ⊢;induction r with
 |nil=>exact .nil
 | @cons p q aO hq h t cq=>
   rw[ac8,ac8];refine .cons ?_ cq;obtain⟨h1,h2⟩:=h;by_cases e:p.1=k
   ·rw[if_pos e,if_pos (h1.symm.trans e)];exact⟨h1,ct⟩
   ·rw[if_neg e,if_neg (fun z=>e (h1.trans z))];exact⟨h1,h2⟩
theorem gT.put{bq:List (κ×V)}{vs:List (κ×acV)}(r:gT bq vs)(k:κ){y:V}{u:acV}(ct:RelV y u):gT (putK bq k y) (stored vs k u):=by
 unfold putK stored;rw[r.any k];by_cases e:(vs.any fun fe=>decide (fe.1=k))=true
 ·rw[if_pos e,if_pos e];exact r.CD k ct
 ·rw[if_neg e,if_neg e];exact Paired.snoc r ⟨rfl,ct⟩
theorem gT.length{bq:List (κ×V)}{vs:List (κ×acV)}(r:gT bq vs):bq.length=vs.length:=Paired.length r
end
theorem r2{P:ac_}{w:adB}{k:Key}{u:acV}(r:RelV (de k) u):(iM P w).is k u=true:=by
 cases k with
 |inl i=>obtain⟨t,e⟩:=(show ∃t,u=aie i t from r);subst e;exact Tc P w i t
 |inr x=>obtain⟨t,e⟩:=(show ∃t,u=aif x t from r);subst e;exact Td P w x t
theorem H2{P:ac_}{w:adB}:∀{ks:List Key}{us:List acV},Vals (ks.map de) us→ItemsAre (iM P w) ks us
 |[],_,r=>by rw[afw]at r;cases r;exact .nil
 |k::ks,_,r=>by
  rw[ac8]at r;cases r with
  |cons h t=>exact .cons (r2 h) (H2 t)
abbrev KT(H:ag):List (List Key×V)→List (List Key×ac1×acV)→Prop:=Paired fun p q=>p.1=q.1∧H q.2.1=some (.tup (p.1.map de))∧RelV p.2 q.2.2
theorem KT.val{H:ag}{bq:List (List Key×V)}{xs:List (List Key×ac1×acV)}(r:KT H bq xs)(k:List Key):hJ (hb bq k) ((atKey xs k).map (·.2)):=by
 induction r with
 |nil=>exact aeX
 | @cons p q aO hq h t cq=>
   obtain⟨h1,_,h2⟩:=h;by_cases e:p.1=k
   ·have cN:q.1=k:=h1.symm.trans e;have b:atKey (q::hq) k=some q.2:=by simp[atKey,ad0,cN]
    rw[D7 e,b];exact h2
   ·have cN:¬q.1=k:=fun z=>e (h1.trans z);have b:atKey (q::hq) k=atKey hq k:=by simp[atKey,ad0,cN]
    rw[D6 e,b];exact cq
theorem KT.CD{H:ag}{bq:List (List Key×V)}{xs:List (List Key×ac1×acV)}(r:KT H bq xs)(k:List Key){y:V}{u:acV}(ct:RelV y u) :
  KT H (bq.map fun fe=>if fe.1=k then(fe.1,y)else fe) (xs.map (putAt k u)):=by
 induction r with
 |nil=>exact .nil
 | @cons p q aO hq h t cq=>
   rw[ac8,ac8];refine .cons ?_ cq;obtain⟨h1,h2,h3⟩:=h;unfold putAt;by_cases e:p.1=k
   ·rw[if_pos e,if_pos (h1.symm.trans e)];exact⟨h1,h2,ct⟩
   ·rw[if_neg e,if_neg (fun z=>e (h1.trans z))];exact⟨h1,h2,h3⟩
theorem KT.put{H:ag}{bq:List (List Key×V)}{xs:List (List Key×ac1×acV)}(r:KT H bq xs)(k:List Key){b:ac1}{y:V}{u:acV}(J:H b=some (.tup (k.map de)))(ct:RelV y u) :
  KT H (putK bq k y) (storedH xs k b u):=by
 have e:(bq.any fun fe=>decide (fe.1=k))=(atKey xs k).isSome:=by rw[D5,(r.val k).t6,agc]
 unfold putK storedH;rw[e];by_cases q:(atKey xs k).isSome=true
 ·rw[if_pos q,if_pos q];exact r.CD k ct
 ·rw[if_neg q,if_neg q];exact Paired.snoc r ⟨rfl,J,ct⟩
theorem KT.keeps{H H':ag}{bq:List (List Key×V)}{xs:List (List Key×ac1×acV)}(r:KT H bq xs)(bJ:∀b ys,H b=some (.tup ys)→H' b=some (.tup ys)):KT H' bq xs:=
 Paired.B6 r fun _ _ z=>⟨z.1,bJ _ _ z.2.1,z.2.2⟩
section
variable{P:ac_}{w:adB}{H:ag}{h:adT}{a:ac1}
theorem JR{u:dG}(ok:eA P w H h)(e:fQ H a u):e9 P w H h a u:=e.ok ok
theorem p_{bq:List (Key×V)}(ok:eA P w H h)(e:fQ H a (.eO bq)):bq.length≤ade∧(a==aeL)=false∧∃vs,gT bq vs∧h.DictOf (iM P w) a vs:=
 show e9 P w H h a (.eO bq)from JR ok e
theorem NS{bq:List (Key×V)}(ok:eA P w H h)(e:H a=some (.eO bq)):bq.length≤ade∧(a==aeL)=false∧∃vs,gT bq vs∧h.DictOf (iM P w) a vs:=p_ ok (.inl e)
theorem r4{ks:List Key}(ok:eA P w H h)(e:H a=some (.tup (ks.map de))):(agL (iM P w)).is h ks a:=by obtain⟨_,its,r,o,h1,h2,n,h3⟩:=(show e9 P w H h a (.tup (ks.map de))from ok a _ e);exact⟨o,its.toArray,n,h1,h2,h3,by simpa using H2 r⟩
theorem qa{bq:List (List Key×V)}(ok:eA P w H h)(e:fQ H a (.bH bq)):bq.length≤ade∧(a==aeL)=false∧
  ∃xs,KT H bq xs∧h.DictOfH (agL (iM P w)) a xs:=by
 obtain⟨z,y,xs,r,o,ah,ek,h1,h2,h3,h4,h5⟩:=(show e9 P w H h a (.bH bq)from JR ok e);refine⟨z,y,xs,r,o,ah,ek,h1,h2,h3,h4,fun x aA=>?_,h5⟩;have all:∀{l:List (List Key×V)}{m:List (List Key×ac1×acV)},KT H l m→∀x∈m,(agL (iM P w)).is h x.1 x.2.1:=by
  intro l m q;induction q with
  |nil=>intro x aA;exact nomatch aA
  | @cons p q aO hq aP t cq=>
    intro x aA;rcases List.mem_cons.mp aA with e|aA
    ·subst e;exact r4 ok (by rw[←aP.1];exact aP.2.1)
    ·exact cq x aA
 exact all r x aA
theorem NY{bq:List (List Key×V)}(ok:eA P w H h)(e:H a=some (.bH bq)):bq.length≤ade∧(a==aeL)=false∧
  ∃xs,KT H bq xs∧h.DictOfH (agL (iM P w)) a xs:=qa ok (.inl e)
end
noncomputable def iV(H:ag)(a:ac1)(y:V)(r:Option V):Prop:=
 (∃bq k,fQ H a (.eO bq)∧y=de k∧r=hb bq k)∨∃bq k b,fQ H a (.bH bq)∧y=.ref b∧H b=some (.tup (k.map de))∧r=hb bq k
noncomputable def sT(H:ag)(a:ac1)(y v:V)(H':ag):Prop:=
 (∃bq k,H a=some (.eO bq)∧y=de k∧bq.length<ade∧H'=upd H a (.eO (putK bq k v)))∨
 ∃bq k b,H a=some (.bH bq)∧y=.ref b∧H b=some (.tup (k.map de))∧bq.length<ade∧H'=upd H a (.bH (putK bq k v))
theorem iV.t{H:ag}{a b:ac1}{bq:List (List Key×V)}{k:List Key}(e:H a=some (.bH bq))(bx:H b=some (.tup (k.map de))):iV H a (.ref b) (hb bq k):=.inr ⟨bq,k,b,.inl e,rfl,bx,rfl⟩
theorem sT.t{H:ag}{a b:ac1}{bq:List (List Key×V)}{k:List Key}{v:V}(e:H a=some (.bH bq))(bx:H b=some (.tup (k.map de)))(av:bq.length<ade) :
  sT H a (.ref b) v (upd H a (.bH (putK bq k v))):=.inr ⟨bq,k,b,e,rfl,bx,av,rfl⟩
section
variable{X:aS}{pins:List (ac1×Obj)}{σ :St}{H:ag}{s:acW}{a:ac1}{y v:V}{u r:acV}{o:Option V}{A:adp}{E:acV→acW→Prop}
theorem Inv.big(I:Inv X pins σ H s):aeL<s.heap.objs.size:=by have h:ada<s.heap.objs.size:=(I.mod.glob.keeps I.fk).lt;exact aei (by decide) h
theorem Nw{Q:acV→acW→Prop}(aV:A.units+1<aeB)(I:Inv X pins σ H s)(g:iV H a y (some v))(ct:RelV y u)(h:∀fG s',Inv X pins σ H s'→RelV v fG→Q fG s') :
  adi (adj X.prog X.w) A (getItem (.ref a) u) Q E s:=by
 rcases g with⟨bq,k,e,dk,l⟩|⟨bq,k,b,e,dk,bx,l⟩
 ·subst dk;obtain⟨z,hd,vs,rel,dd⟩:=p_ I.bR e;obtain⟨fG,hw,jl⟩:=hJ.some_of (v:=v) (o:=ah2 vs k) (by rw[l];exact rel.val k);exact wpAny_getItem_of (r2 ct) dd.mapOf hw (h fG _ (I.tok _) jl)
 ·subst dk;cases(show u=adE b from ct);obtain⟨z,hd,xs,rel,dd⟩:=qa I.bR e;obtain⟨fG,hw,jl⟩:=hJ.some_of (v:=v) (o:=(atKey xs k).map (·.2)) (by rw[l];exact rel.val k);obtain⟨p,a5,PE⟩:=Option.map_eq_some_iff.mp hw;refine wpAny_getItem_heap (aeO aV) (r4 I.bR bx) dd a5 ?_;rw[PE];exact h fG _ (I.tok _) jl
theorem Nx{Q:acV→acW→Prop}(aV:A.units+1<aeB)(I:Inv X pins σ H s)(g:iV H a y o)(ct:RelV y u)(h:∀s',Inv X pins σ H s'→Q (.bool o.isSome) s') :
  adi (adj X.prog X.w) A (adV .In u (.ref a)) Q E s:=by
 rcases g with⟨bq,k,e,dk,l⟩|⟨bq,k,b,e,dk,bx,l⟩
 ·subst dk;obtain⟨z,hd,vs,rel,dd⟩:=p_ I.bR e;refine wpAny_in_of (r2 ct) hd dd.mapOf ?_;rw[←(rel.val k).t6,←l];exact h _ (I.tok _)
 ·subst dk;cases(show u=adE b from ct);obtain⟨z,hd,xs,rel,dd⟩:=qa I.bR e;refine wpAny_in_heap (aeO aV) (r4 I.bR bx) hd dd ?_;have q:=(rel.val k).t6;rw[agc]at q;rw[←q,←l];exact h _ (I.tok _)
theorem Ny{Q:acV→acW→Prop}(aV:A.units+1<aeB)(I:Inv X pins σ H s)(g:iV H a y o)(ct:RelV y u)(h:∀s',Inv X pins σ H s'→Q (.bool (!o.isSome)) s') :
  adi (adj X.prog X.w) A (adV .NotIn u (.ref a)) Q E s:=by
 rcases g with⟨bq,k,e,dk,l⟩|⟨bq,k,b,e,dk,bx,l⟩
 ·subst dk;obtain⟨z,hd,vs,rel,dd⟩:=p_ I.bR e;refine wpAny_notIn_of (r2 ct) hd dd.mapOf ?_;rw[←(rel.val k).t6,←l];exact h _ (I.tok _)
 ·subst dk;cases(show u=adE b from ct);obtain⟨z,hd,xs,rel,dd⟩:=qa I.bR e;refine wpAny_notIn_heap (aeO aV) (r4 I.bR bx) hd dd ?_;have q:=(rel.val k).t6;rw[agc]at q;rw[←q,←l];exact h _ (I.tok _)
theorem FL{h':adT}{t':Nat}{ob:dG}(I:Inv X pins σ H s)(jM:s6 (H a))(aD:aeQ a s.heap h')(he:∃q,h'.get? a=some q)(new:e9 X.prog X.w (upd H a ob) h' a ob) :
  Inv X pins σ (upd H a ob) { s with heap:=h',toks:=t' }:=
 I.write (x:=a) (e:=a) jM (.inl rfl) (fun b q J z=>(aD.2 b J).trans z) he new
theorem NR{P:ac_}{w:adB}{H':ag}{h':adT}{bq:List (Key×V)}{vs:List (Key×acV)}(z:bq.length≤ade)(hd:(a==aeL)=false)(rel:gT bq vs)(dd:h'.DictOf (iM P w) a vs) :
  e9 P w H' h' a (.eO bq):=⟨z,hd,vs,rel,dd⟩
theorem NF{H':ag}{Q:Unit→acW→Prop}(aV:A.units+1<aeB)(I:Inv X pins σ H s)(g:sT H a y v H')(ct:RelV y u)(b4:RelV v r)(h:∀s',Inv X pins σ H' s'→Q () s') :
  adi (adj X.prog X.w) A (setItem (.ref a) u r) Q E s:=by
 rcases g with⟨bq,k,e,dk,l,AJ⟩|⟨bq,k,b,e,dk,bx,l,AJ⟩
 ·subst dk AJ;obtain⟨z,hd,vs,rel,dd⟩:=NS I.bR e;have bj:vs.length≤ade:=by rw[←rel.length];exact z
  have av:(putK bq k v).length≤ade:=by have:=Ip bq k v;omega
  refine wpAny_setItem_pairs (hsz:=bj) (r2 ct) dd fun h' hi aD=>h _ ?_;have he:∃q,h'.get? a=some q:=let⟨q,_,_,aP,_⟩:=hi;⟨q,aP⟩
  exact FL I (by rw[e];exact aeX) aD he (NR av hd (rel.put k b4) hi)
 ·subst dk AJ;cases(show u=adE b from ct);obtain⟨z,hd,xs,rel,dd⟩:=NY I.bR e;have bj:xs.length≤ade:=by rw[←Paired.length rel];exact z
  have av:(putK bq k v).length≤ade:=by have:=Ip bq k v;omega
  refine wpAny_setItem_heap (hsz:=bj) (aeO aV) (r4 I.bR bx) dd fun h' hi aD=>h _ ?_;obtain⟨q,ah,ek,aP,h2,h3,h4,_,h5⟩:=hi;refine FL I (by rw[e];exact aeX) aD ⟨q,aP⟩ ⟨av,hd,_,(rel.put k bx b4).keeps fun c ys ec=>?_,q,ah,ek,aP,h2,h3,h4,h5⟩;rw[c8 (Tx ec e (fun z=>nomatch z))];exact ec
end
section
variable{X:aS}{pins:List (ac1×Obj)}{σ :St}{H:ag}{s:acW}{a:ac1}{bq:List (Key×V)}{k:Key}{u:acV}{A:adp}{E:acV→acW→Prop}
end
def zD(i:adq):Prop:=∀dY gL,ahB i false dY gL=operate [dY,gL] (getItem dY gL)
theorem Xg{prog:ac_}{w:adB}{A:adp}{E:acV→acW→Prop}{s:acW}{env:Env}{value slice:adq}{pos:Pos}{T id:String}{Q:acV→acW→Prop}(av:typeLookup (.type T) "__getitem__"=pure (some (.builtin id)))(aD:zD slice)(h:adi (adj prog w) A (adW value env) (fun o dp=>adi (adj prog w) A (adW slice env) (fun i kn=>kn.TypeIs o T∧adi (adj prog w) A (getItem o i) Q E kn) E dp) E s) :
  adi (adj prog w) A (adW (.Subscript value slice pos) env) Q E s:=by
 refine Subscript_ (adY h (fun o dp j9=>adY j9 (fun i kn lG=>?_) fun _ _ x=>x) fun _ _ x=>x);obtain⟨hR,lG⟩:=lG;unfold subscriptTail;refine acU ?_;rw[getitemInPython_of_ne hR.not_modules];refine acU (wpAny_specialOf hR av ?_);have fin:adi (adj prog w) A (ahB slice false o i) (fun r pC=>adi (adj prog w) A (letTemporaryGo value o r>>=fun _=>pure r) Q E pC) E kn:=by rw[aD o i];exact wpAny_operating (adY lG (fun r pC mB=>acU (wpAny_letTemporaryGo (ac5 mB))) fun _ _ x=>x)
 first
  |exact ac5 (acU fin)
  |exact acU (ac5 (acU fin))
  |exact acU fin
theorem NM{X:aS}{pins:List (ac1×Obj)}{σ :St}{H:ag}{s:acW}{a:ac1}{y:V}{o:Option V}(I:Inv X pins σ H s)(g:iV H a y o):s.TypeIs (.ref a) "dict":=by
 rcases g with⟨bq,k,e,_,_⟩|⟨bq,k,b,e,_,_,_⟩
 ·obtain⟨_,_,vs,_,dd⟩:=p_ I.bR e;exact dd.typeIs
 ·obtain⟨_,_,xs,_,dd⟩:=qa I.bR e;exact dd.typeIs
noncomputable def KC(g_ ty:TE):TE:=fun σ H Q=>g_ σ H fun x H1=>ty σ H1 fun y aX=>∃a v,x=.ref a∧iV aX a y (some v)∧Q v aX
noncomputable def KG(ty g_:TE):TE:=fun σ H Q=>ty σ H fun y H1=>g_ σ H1 fun x aX=>∃a o,x=.ref a∧iV aX a y o∧Q (.aC o.isSome) aX
noncomputable def KH(ty g_:TE):TE:=fun σ H Q=>ty σ H fun y H1=>g_ σ H1 fun x aX=>∃a o,x=.ref a∧iV aX a y o∧Q (.aC (!o.isSome)) aX
noncomputable def V9(g_ ty og:TE):eT:=fun D σ H=>og σ H fun v H1=>g_ σ H1 fun x aX=>ty σ aX fun y cK=>∃a gS,x=.ref a∧sT cK a y v gS∧D.bL σ gS
section
variable{X:aS}{o i e value:adq}{pos pos' mS:Pos}{g_ ty og:TE}
theorem UL(aV:X.A.units+1<aeB)(aH:a4 X o g_)(ak:a4 X i ty)(aD:zD i):a4 X (.Subscript o i pos) (KC g_ ty):=by intro pins s σ H Q I h;refine Xg PySem.F.slot_dict_getitem.lookup aD (bX (aH pins s σ H _ I h) fun u s1⟨x,H1,a6,bM,bb⟩=>bX (ak pins s1 σ H1 _ a6 bb) fun gL s2⟨y,aX,cn,ct,a,v,ex,g,bN⟩=>?_);subst ex;obtain rfl:u=adE a:=bM;exact⟨NM cn g,Nw aV cn g ct fun fG s3 d0 jl=>⟨v,aX,d0,jl,bN⟩⟩
theorem Jl(aV:X.A.units+1<aeB)(ak:a4 X i ty)(aH:a4 X o g_):v7 X .In i o (KG ty g_):=by intro pins s σ H Q I h;refine bX (ak pins s σ H _ I h) fun gL s1⟨y,H1,a6,ct,bb⟩=>bX (aH pins s1 σ H1 _ a6 bb) fun u s2⟨x,aX,cn,bM,a,dY,ex,g,bN⟩=>?_;subst ex;obtain rfl:u=adE a:=bM;exact Nx aV cn g ct fun s3 d0=>⟨.aC dY.isSome,aX,d0,rfl,bN⟩
theorem Jm(aV:X.A.units+1<aeB)(ak:a4 X i ty)(aH:a4 X o g_):v7 X .NotIn i o (KH ty g_):=by intro pins s σ H Q I h;refine bX (ak pins s σ H _ I h) fun gL s1⟨y,H1,a6,ct,bb⟩=>bX (aH pins s1 σ H1 _ a6 bb) fun u s2⟨x,aX,cn,bM,a,dY,ex,g,bN⟩=>?_;subst ex;obtain rfl:u=adE a:=bM;exact Ny aV cn g ct fun s3 d0=>⟨.aC (!dY.isSome),aX,d0,rfl,bN⟩
theorem Vj(aV:X.A.units+1<aeB)(aH:a4 X o g_)(ak:a4 X i ty)(bP:a4 X value og)(aD:afu value (some (.Subscript o i pos')) pos.line X.env=pure false) :
  cS X (.Assign [.Subscript o i pos'] value pos) (V9 g_ ty og):=by
 intro pins s σ H D I h;refine wpAny_Assign_Subscript (bX (bP pins s σ H _ I h) fun r s1⟨v,H1,a6,b4,bb⟩=>bX (aH pins s1 σ H1 _ a6 bb) fun u s2⟨x,aX,cn,bM,bN⟩=>bX (ak pins s2 σ aX _ cn bN) fun gL s3⟨y,cK,d0,ct,a,gS,ex,g,d6⟩=>?_) aD;subst ex;obtain rfl:u=adE a:=bM;exact NF aV d0 g ct b4 fun s4 kx=>⟨σ,gS,kx,d6⟩
end
theorem NX{P:ac_}{w:adB}{H:ag}(h:adT)(J:aeL<h.objs.size):e9 P w H (h.push { cls:=.type "dict",data:=.dict #[] }) h.objs.size (.bH []):=
 ⟨aee _,beq_eq_false_iff_ne.mpr (afA (adn J)),[],.nil,_,#[],0,ac2 _ rfl,⟨rfl,rfl,rfl⟩,rfl,rfl,af8⟩
def Xk:TE:=fun _ H Q=>∀p,H p=none→Q (.ref p) (upd H p (.bH []))
section
variable{X:aS}{pos:Pos}
theorem UN:a4 X (.Dict [] [] pos) Xk:=fun pins s σ H Q I h=>
 wpAny_Dict_empty ⟨.ref s.heap.objs.size,_,I.laid (a:=s.heap.objs.size) (o:=.bH []) (t':=s.toks) (fun _ _ q=>acS _ q) (ac3 _) (NX s.heap I.big),rfl,h _ (I.bR.fresh (ac3 _))⟩
end
structure Mc(X:aS)(o:adq)(m:Str)(apos:Pos)(e:adq)(b6:Pos):Prop where
 base:adJ o m X.env (adW o X.env)=adW o X.env
 few:((adF b6 (acX [e] X.env)).all (fun x=>!x.1)&&(aeq b6 (adS [] X.env)).all (fun x=>x.1.isSome)
  &&decide (([e]:List adq).length+([]:List aeh).length+(if([]:List aeh).isEmpty then 0 else 1)<30))=true
 line:(apos.endLine==b6.line)=true
 trees:adF b6 (acX [e] X.env)=[(false,adW e X.env)]
def EN(H:ag)(a:ac1):Prop:=(∃bq,fQ H a (.eO bq))∨∃bq,fQ H a (.bH bq)
theorem Rf{X:aS}{pins:List (ac1×Obj)}{σ :St}{H:ag}{s:acW}{a:ac1}(I:Inv X pins σ H s)(d:EN H a) :
  s.TypeIs (.ref a) "dict"∧(∀b,adE a=.ref b→∃ob,s.heap.get? b=some ob∧ob.dict=none)∧(a==aeL)=false:=by
 rcases d with⟨bq,e⟩|⟨bq,e⟩
 ·obtain⟨_,hd,vs,_,dd⟩:=p_ I.bR e;refine⟨dd.typeIs,fun b q=>?_,hd⟩;cases q;obtain⟨ob,_,_,h1,h2,_⟩:=dd;exact⟨ob,h1,h2.2.1⟩
 ·obtain⟨_,hd,xs,_,dd⟩:=qa I.bR e;refine⟨dd.typeIs,fun b q=>?_,hd⟩;cases q;obtain⟨ob,_,_,h1,h2,_⟩:=dd;exact⟨ob,h1,h2.2.1⟩
section
variable{X:aS}{pins:List (ac1×Obj)}{σ :St}{H:ag}{s:acW}{a:ac1}{y d:V}{u r:acV}{o:Option V}{A:adp}{E:acV→acW→Prop}
theorem Nv{Q:acV→acW→Prop}(aV:A.units+1<aeB)(I:Inv X pins σ H s)(g:iV H a y o)(ct:RelV y u)(h:∀fG s',Inv X pins σ H s'→RelV (o.getD .non) fG→Q fG s') :
  adi (adj X.prog X.w) A (call (.builtin "dict.get") [.ref a,u]) Q E s:=by
 rcases g with⟨bq,k,e,dk,l⟩|⟨bq,k,b,e,dk,bx,l⟩
 ·subst dk;obtain⟨z,hd,vs,rel,dd⟩:=p_ I.bR e;refine call_meetsIn PySem.F.slot_dict_get dd.typeIs PySem.F.entry_dict_get (PySem.F.args_dict_get_2 _ _) (meets_dict_get (iM X.prog X.w) a (r2 ct) hd) ⟨_,dd.mapOf,h _ _ (I.tok _) ?_⟩;rw[l];exact(rel.val k).getD rfl
 ·subst dk;cases(show u=adE b from ct);obtain⟨z,hd,xs,rel,dd⟩:=qa I.bR e;refine call_meetsIn PySem.F.slot_dict_get dd.typeIs PySem.F.entry_dict_get (PySem.F.args_dict_get_2 _ _) (meetsH_dict_get (agL (iM X.prog X.w)) a b hd) ⟨aeO aV,k,xs,r4 I.bR bx,dd,h _ _ (I.tok _) ?_⟩;rw[l];exact(rel.val k).getD rfl
end
noncomputable def KD(g_ ty:TE):TE:=fun σ H Q=>g_ σ H fun x H1=>∃a,x=.ref a∧EN H1 a∧ty σ H1 fun y aX=>∃o,iV aX a y o∧Q (o.getD .non) aX
section
variable{X:aS}{o e f:adq}{apos b6:Pos}{g_ ty abk:TE}
theorem UM(aV:X.A.units+1<aeB)(aH:a4 X o g_)(he:a4 X e ty)(m:Mc X o "get" apos e b6):a4 X (.Call (.Attribute o "get" apos) [e] [] b6) (KD g_ ty):=by intro pins s σ H Q I h;refine wpAny_Call_method m.base m.few m.line PySem.F.plainAttrs_dict PySem.F.slot_dict_get PySem.F.type_dict_get (bX (aH pins s σ H _ I h) fun u s1⟨x,H1,a6,bM,a,ex,d,bb⟩=>?_);subst ex;obtain rfl:u=adE a:=bM;obtain⟨t1,d7,_⟩:=Rf a6 d;refine⟨t1,d7,?_⟩;rw[m.trees];refine afh rfl (afH (afb (bX (he pins s1 σ H1 _ a6 bb) fun gL s2⟨y,aX,cn,ct,dY,g,bN⟩=>afm ?_)));exact Nv aV cn g ct fun fG s3 d0 jl=>⟨_,aX,d0,jl,bN⟩
end
section
variable{X:aS}{pins:List (ac1×Obj)}{σ :St}{H:ag}{s:acW}{a:ac1}{bq:List (Key×V)}{A:adp}{E:acV→acW→Prop}
end
section
variable{X:aS}{pins:List (ac1×Obj)}{σ :St}{H:ag}{s:acW}{a:ac1}{y:V}{u:acV}{A:adp}{E:acV→acW→Prop}
end
end a7
namespace EG
open PySem PySem.W PySem.Calls PyProof.Rows
theorem Ra{P:Params}{h:adT}:∀(ns:List Int)(vs:List acV),WellAll P h vs (ns.map WData.int)→IntsAre vs ns:=by
 intro ns;induction ns with
 |nil=>intro vs w;rw[afw]at w;cases w;exact .nil
 |cons n ns cq=>
  intro vs w;rw[ac8]at w;cases w with
  |cons a b=>cases a;exact .cons _ _ (cq _ b)
theorem WA{l:OpenLaw}{n:Nat}(aU:l.most=some n){P:Params}{h:adT}{args:List WData}{vals:List acV}(xk:l.row.toRowW.claim.pre args=true)(Bz:WellAll P h vals args) :
  ∃a vs ns,vals=[adE a]∧args=[WData.list (ns.map WData.int)]∧h.get? a=some { cls:=.type "list",data:=.seq vs.toArray }∧IntsAre vs ns∧ns.length≤n:=by
 have PI:WShape.hasAll [] args [.list .int]=true:=(pre_splitW xk).1;have ax:l.pre.holds [] { args:=args }=true:=(pre_splitW xk).2;obtain⟨d,r,rfl,h1,h2⟩:=hasAllW_cons PI;obtain rfl:=hasAllW_nil h2;obtain⟨xs,rfl,h3⟩:=hasW_list h1;obtain⟨ns,rfl⟩:=items_int h3;have hlen:ns.length≤n:=by
  unfold OpenLaw.pre at ax;have h4:(WTm.not (.lt (.lit (.int (n:Int))) (.len (.arg 0)))).holds [] { args:=[.list (ns.map .int)] }=true:=by have h4:=(holds_andW ax).1;rw[aU]at h4;exact h4
  have h5:=condW_of h4 (w_not (w_lt w_lit (w_len_list (w_arg rfl))));rw[adk]at h5;refine Nat.le_of_not_lt fun q=>?_;have dS:(n:Int)<((ns.length:Nat):Int):=by omega
  first
   |(rw[decide_eq_true dS]at h5;exact absurd h5 (by decide))
   |(simp at h5;omega)
 cases Bz with
 |cons dq dj=>
  cases dj;cases dq with
  |list aH Bd=>exact⟨_,_,ns,rfl,rfl,aH,Ra ns _ Bd,hlen⟩
theorem Vh(l:OpenLaw)(args:List WData):l.row.toRowW.claim.post args (.bool true) args=true:=
 postW_of (r:=l.row.toRowW) (X:=(true==true))
  (show WShape.has [] (.bool true) .bool=true by first|rfl|decide|simp[WShape.has,WShape.arms,WShape.armsAll])
  (show(WTm.eq .res (.lit (.bool true))).value [] { args:=args,res:=some (.bool true),after:=args }=some (.bool (true==true))from w_eq_bool (w_res rfl) w_lit) rfl
theorem Mx {l:OpenLaw} {n:Nat} {q:ac_} {loose:List Str} {rx:(Str→Option acV)→adT→Prop} {ov:adB→adT→Prop} {d:DefRec}(aU:l.most=some n) (tQ:d.params.defaults=[])(call:∀(w:adB)(fF dp:acW)(mg mb:Str→Option acV)(fS:ac1)(o:Obj)(pm cd doc:acV)(a:ac1)(vs:List acV)(ns:List Int),
    Ground q loose [] rx w fF mg mb dp.heap→ov w dp.heap→
    dp.heap.get? fS=some o→o.data=.func (docDef d.name d.params d.body d.scope pm cd doc)→dp.heap.CodeRec cd d.name→mg d.name=some (.ref fS)→
    dp.heap.get? a=some { cls:=.type "list",data:=.seq vs.toArray }→IntsAre vs ns→ns.length≤n→dp.gens= #[]→
    agO (adj l.prog w) ah3 (.call (.ref fS) ⟨[.ref a],[]⟩) (fun r s'=>r=.ok (.ret (.bool true))∧OldK dp.heap s'.heap∧s'.os=dp.os∧agg s'.gens) dp) :
  WalkO q loose rx ov l.row.toRowW d [] (fun f vs=>PySem.call f vs):=by
 intro w fF dp mg mb G Y fS o pm cd doc wH de aH hd dy w7 tS aI args vals as xk aaf aai Bz aag;obtain rfl:wH=.none:=Dflts.none w7 tQ;obtain rfl:de=.none:=Dflts.noKw w7;obtain⟨a,vs,ns,rfl,rfl,Bt,hints,hlen⟩:=WA aU xk Bz;refine enter_call (agP (call w fF dp mg mb fS o pm cd doc a vs ns G Y aH (fd_plain hd) dy tS Bt hints hlen aI) fun r s' aP=>?_);obtain⟨rfl,h2,h3,h4⟩:=aP;exact⟨.inl ⟨.bool true,.bool true,[],rfl,fun _=>rfl,.bool true,Vh l _,fun _=>⟨ah4,fun _ hm=>(nomatch hm)⟩⟩,h2,h3,h4⟩
section
variable{prog:ac_}{w:adB}{A:adp}{E:acV→acW→Prop}{s:acW}{K:Frag}
end
end EG
namespace a7
open PySem PySem.Spec PyProof.Rows
theorem Le:∀{vs:List acV}{ns:List Int},IntsAre vs ns→Vals (ns.map V.int) vs
 |_,_,.nil=>.nil
 |_,_,.cons n t h=>.cons ⟨t,rfl⟩ (Le h)
def zF(H:ag):Prop:=∀b,H b=none∨∃o xs,H b=some (.jH o (.lst xs))
theorem SA{P:ac_}{w:adB}{K:PySem.W.Frag}{mg mb:Str→Option acV}{CX:ku}{k:Nat}{fS a:ac1}{fd:ad1}{x:Str}{sp:ih}{dp:acW}{vs:List acV}{ns:List Int}(lj:K.In dp.heap)(Hr:dp.heap.Ns ada mg)(J:dp.heap.Ns builtinsNs mb)(Be:∀x:Str,x≠"__name__"→mb x=ad6 x)(Pq:dp.heap.NoLimit)(aI:dp.gens= #[])(U:dp.heap.get? a=some { cls:=.type "list",data:=.seq vs.toArray })(ak:IntsAre vs ns)(av:ns.length≤ade)(ay:dx k ah3)(F:∀base:adT,K.In base→base.Ns ada mg→gR P w K mg base CX k fS fd [x] sp)(O0:∀(s:acW)(u:acV),BindsTo s fd ⟨[u],[]⟩ [(x,u)])(oT:∀H:ag,zF H→bQ K H a (ns.map V.int)→sp [.ref a] H (fun v _=>v=.aC true) fun _ _ _=>False)(A_:∀H e s',CX [] H dp (fun _ _ _=>False) e s'→False) :
  agO (adj P w) ah3 (.call (.ref fS) ⟨[.ref a],[]⟩) (fun r s'=>r=.ok (.ret (.bool true))∧OldK dp.heap s'.heap∧s'.os=dp.os∧agg s'.gens) dp:=by
 have b4:=Le ak;have SN:=ak.length
 have core:∀H:ag,zF H→bQ K H a (ns.map V.int)→eA P w H dp.heap→(∀b,H b≠none→b=a)→(H a≠none→K.lookup a=none)→
   agO (adj P w) ah3 (.call (.ref fS) ⟨[.ref a],[]⟩) (fun r s'=>r=.ok (.ret (.bool true))∧OldK dp.heap s'.heap∧s'.os=dp.os∧agg s'.gens) dp:=by
  intro H w9 lC bR i6 aY;have Fl:∀{b:ac1}{o:Obj},dp.heap.get? b=some o→H b=none→(nA dp.heap H).get? b=some o:=fun e n=>Pd e n;have uY:∀{b:ac1}{o:Obj}{ah:Array DictEntry}{ek:Nat},dp.heap.get? b=some o→o.data=.dict ah ek→H b=none:=fun{b o ah ek} e d=>by
   cases q:H b with
   |none=>rfl
   |some u=>have cN:b=a:=i6 b (by rw[q];simp);subst cN;rw[U]at e;cases e;have d':ahd vs.toArray _=Data.dict ah ek:=d;cases d'
  have yc:∀{b:ac1}{m:Str→Option acV},dp.heap.Ns b m→(nA dp.heap H).Ns b m:=fun{b m}⟨o,ah,ek,e,d,r⟩=>⟨o,ah,ek,Fl e (uY e d),d,r⟩;have Hd:K.In (nA dp.heap H):=fun b o e=>Fl (lj b o e) (by
   cases q:H b with
   |none=>rfl
   |some u=>have cN:b=a:=i6 b (by rw[q];simp);subst cN;rw[aY (by rw[q];simp)]at e;cases e)
  have w8:Mod K mg (nA dp.heap H):=⟨Hd,yc Hr,⟨mb,yc J,Be⟩,let⟨x5,h1,h2⟩:=Pq;⟨x5,yc h1,h2⟩⟩;have cI:pR P w K mg (nA dp.heap H) ah3 [] dp H:=⟨rfl,w8,fun b o e=>T5 e,ah9 (Pe _ _),trivial,fun b J=>absurd (show b∈([]:List ac1)from J) (by simp),bR,.of_eq aI⟩;refine agP ((F _ Hd (yc Hr)).run ah3 [] dp H ⟨[.ref a],[]⟩ [.ref a] [.ref a] _ _ ay cI (O0 dp (.ref a)) (.cons rfl .nil) (oT H w9 lC)) fun r s' h=>?_;cases r with
  |error e=>exact(A_ H e s' h).elim
  |ok hj=>
   cases hj with
   |next=>exact aej h
   |brk=>exact aej h
   |cont=>exact aej h
   |ret u=>
    obtain⟨v,H',os,bare,un,PB,a9,q⟩:=h;have dS:v=.aC true:=q;subst dS;obtain rfl:u=af_ true:=a9;refine⟨rfl,OldK.of_keep fun b o e=>?_,os,bare⟩;cases q:H b with
    |none=>exact un.keep b o e q (by intro z;exact absurd (show b∈([]:List ac1)from z) (by simp)) (by simp)
    |some u=>
     rcases w9 b with z|⟨ob,xs,z⟩
     ·rw[q]at z;cases z
     ·have a_:=un.j6 b ob _ z;obtain⟨ae,_⟩:=bR b _ z;obtain⟨au,_⟩:=PB b _ a_;rw[e]at ae;cases ae;exact au
 cases aK:K.lookup a with
 |some o=>have e:=lj a o aK;rw[U]at e;cases e;refine core (fun _=>none) (fun _=>.inl rfl) (.inr ⟨_,vs.toArray,_,aK,rfl,rfl,rfl,by rw[acY,SN];exact av,by simpa using b4⟩) (fun b u z=>by have eh:(none:Option dG)=some u:=z;cases eh) (fun b z=>absurd rfl z) fun z=>absurd rfl z
 |none=>
  refine core (fun b=>if b=a then some (.jH { cls:=.type "list",data:=.seq vs.toArray } (.lst (ns.map V.int)))else none) (fun b=>?_) (.inl (.inr ⟨{ cls:=.type "list",data:=.seq vs.toArray },if_pos rfl⟩)) (fun b u z=>?_) (fun b z=>?_) fun _=>aK
  ·by_cases J:b=a
   ·exact .inr ⟨_,_,if_pos J⟩
   ·exact .inl (if_neg J)
  ·by_cases J:b=a
   ·have eh:=(if_pos J).symm.trans z;cases eh;subst J;exact⟨U,by rw[adk];exact av,vs,_,b4,U⟩
   ·have eh:=(if_neg J).symm.trans z;cases eh
  ·by_cases J:b=a
   ·exact J
   ·exact absurd (if_neg J) z
theorem Yl {l:PySem.W.OpenLaw} {n k:Nat} {q:ac_} {loose:List Str} {rx:(Str→Option acV)→adT→Prop} {ov:adB→adT→Prop} {d:DefRec} {K:Params→PySem.W.Frag} {CX:adB→ku} {sp:adB→ih} {x:Str}(aU:l.most=some n) (xi:n≤ade) (tQ:d.params.defaults=[]) (ay:dx k ah3)(Bb:∀(w:adB)(h:adT),ov w h→(K w.params).In h)(F:∀(w:adB)(mg:Str→Option acV)(fS:ac1)(h:adT),(K w.params).In h→h.Ns ada mg→mg d.name=some (.ref fS)→
    ∃fd:ad1,(∀(s:acW)(u:acV),BindsTo s fd ⟨[u],[]⟩ [(x,u)])∧
     ∀base:adT,(K w.params).In base→base.Ns ada mg→gR l.prog w (K w.params) mg base (CX w) k fS fd [x] (sp w))
  (oT:∀(w:adB)(H:ag)(a:ac1)(ns:List Int),ns.length≤n→zF H→bQ (K w.params) H a (ns.map V.int)→sp w [.ref a] H (fun v _=>v=.aC true) fun _ _ _=>False)
  (A_:∀(w:adB)(H:ag)(s:acW)(e:acV)(s':acW),CX w [] H s (fun _ _ _=>False) e s'→False) :
  PySem.W.WalkO q loose rx ov l.row.toRowW d [] (fun f vs=>PySem.call f vs):=by
 refine EG.Mx aU tQ fun w fF dp mg mb fS o pm cd doc a vs ns G Y aH hd dy tS Bt hints hlen aI=>?_;have lj:=Bb w _ Y;obtain⟨fd,J,ny⟩:=F w mg fS _ lj G.T.g tS;exact SA lj G.T.g G.T.b G.T.builtins G.T.nolimit aI Bt hints (adt hlen xi) ay ny J (fun H w9 lC=>oT w H a ns hlen w9 lC) fun H e s'=>A_ w H dp e s'
noncomputable def inClass(s:ad4)(j:Nat):ad4:=match s with
 |.ClassDef _ _ _ body _ _ _ _ _ _ _=>body.getD j (.Pass ⟨0,0,0,0⟩)
 |_=>.Pass ⟨0,0,0,0⟩
noncomputable def j4(s:ad4):Arguments:=match s with
 |.FunctionDef _ a _ _ _ _ _ _ _ _=>a
 |_=>{ posonlyargs:=[],args:=[],vararg:=none,kwonlyargs:=[],kw_defaults:=[],kwarg:=none,defaults:=[] }
def fl(s:ad4):List ad4:=match s with
 |.FunctionDef _ _ b _ _ _ _ _ _ _=>b
 |_=>[]
noncomputable def bW(s:ad4):aew:=match s with
 |.FunctionDef _ _ _ _ _ _ sc _ _ _=>sc
 |_=>{ kind:=.function,names:=[],isGenerator:=false,isCoroutine:=false }
abbrev fg:ku:=fun _ _ _ _ _ _=>False
abbrev vR:cT:=fun _ _ _=>False
theorem n0{X:aS}:Passes fg X vR:=fun _ _ _ _ _ _ _ h=>h.elim
structure lb(K:PySem.W.Frag)(x qual:Str)(st:ad4)(f:ac1)(fd:ad1):Prop where
 ex:∃(ft:acV)(dX:Option ac1)(de doc pm:acV)(an:Option ac1)(bV c7:acV)(lQ:Array (Option acV)),
  fd=PySem.W.fnOf x qual (j4 st) (fl st) (bW st) .none de doc pm an bV c7∧K.lookup f=some ⟨ft,dX,.func fd,lQ⟩∧PySem.W.codeIn K bV qual=true
 az:PySem.W.keepIn K (.ref f)=true
section
variable{P:ac_}{w:adB}{K:PySem.W.Frag}{mg:Str→Option acV}{base:adT}
theorem lb.ok {x qual:Str} {st:ad4} {f:ac1} {fd:ad1} {N aO:List Str} {k:Nat} {sp:ih} (F:lb K x qual st f fd) (S:c2 N aO (bW st)) (len:∀vs H Q E,sp vs H Q E→vs.length=aO.length)(Bf:∀(bV:acV)(A:adp)(outer:List Env)(s:acW)(H:ag)(vs:List V)(Q:cH)(E:cT),dx k (A.deeper (aib qual (bW st) s.heap.objs.size f bV))→sp vs H Q E→
    ∃t,fi (er fg P w K mg base N qual (bW st) f bV A outer s H E).gh (fl st) t∧t { bL:=fun _ H'=>Q .non H',c_:=Q } (start N vs) H):gR P w K mg base fg (k+1) f fd aO sp:=by
 obtain⟨ft,dX,de,doc,pm,an,bV,c7,lQ,rfl,lk,dy⟩:=F.ex;refine G2 lk dy S len fun A outer s H vs Q E ay oT=>?_;obtain⟨t,h,q⟩:=Bf bV A outer s H vs Q E ay oT;exact⟨t,h.gh,q⟩
theorem lb.binds{x qual:Str}{st:ad4}{f:ac1}{fd:ad1}{aO:List Str}(F:lb K x qual st f fd)(h:∀(de doc pm:acV)(an:Option ac1)(bV c7:acV)(us:List acV),us.length=aO.length→ahU (PySem.W.fnOf x qual (j4 st) (fl st) (bW st) .none de doc pm an bV c7) ⟨us,[]⟩=pure (aO.zip us)):Binds K fd aO []:=by obtain⟨ft,dX,de,doc,pm,an,bV,c7,lQ,rfl,lk,dy⟩:=F.ex;exact .all (h de doc pm an bV c7)
theorem qk{x qual:Str}{st:ad4}{f:ac1}{ft:acV}{dX an:Option ac1}{lQ:Array (Option acV)}{de doc pm bV c7:acV}(l:K.lookup f=some ⟨ft,dX,.func (PySem.W.fnOf x qual (j4 st) (fl st) (bW st) .none de doc pm an bV c7),lQ⟩)(c:PySem.W.codeIn K bV qual=true)(k:PySem.W.keepIn K (.ref f)=true):lb K x qual st f (PySem.W.fnOf x qual (j4 st) (fl st) (bW st) .none de doc pm an bV c7):=⟨⟨ft,dX,de,doc,pm,an,bV,c7,lQ,rfl,l,c⟩,k⟩
end
section
variable{X:aS}
theorem yj(i:Nat){x:Str}{pos:Pos}(b7:X.N[i]?=some x:=by rfl)(bP:fL X.env.scope x:=by first|exact adN rfl|exact ads (adN rfl)|exact ads (ads rfl))(hd:(x==("__debug__" :Str))=false:=by decide)(dy:(x==("__classdict__" :Str))=false:=by decide):a4 X (.Name x pos) (kY i):=fY b7 bP hd dy
end
section
variable{X:aS}
end
section
variable{κ:Type}[DecidableEq κ]
end
structure vT(P:ac_)(w:adB)(outer:List Env)(H H':ag)(s:acW)(a:ac1)(C hK:acV)(B:adT)(s':acW):Prop where
 os:s'.os=s.os
 bare:agg s'.gens
 un:f7 (eP outer) [] H H' s.heap s'.heap
 A4:Heap.FlyingW B outer a C hK s'.heap
 old:∀b o,s.heap.get? b=some o→H b=none→b∉eP outer→B.get? b=some o
 DW:∀b o,s.heap.get? b=some o→b∉eP outer→∃cc,B.get? b=some cc
 bR:eA P w H' B
 U:H' a=none
noncomputable def hs(P:ac_)(w:adB):ku:=fun outer H s E e s'=>∃(a:ac1)(C hK:acV)(B:adT)(H':ag),e=.ref a∧vT P w outer H H' s a C hK B s'∧E C (some a) H'
section
variable{X:aS}{pins:List (ac1×Obj)}{σ :St}{H H':ag}{s s':acW}{a:ac1}{C hK:acV}{B:adT}
theorem eA.part(x:eA X.prog X.w H s.heap)(k:∀b u,(H b).isSome=true→s.heap.get? b=some u→B.get? b=some u):eA X.prog X.w H B:=fun b o e=>
 (x b o e).n_ (fun c u ax q=>k c u (by rcases ax with rfl|ax<;>simp[*]) q) (fun _ q=>q) fun _ _ q=>q
theorem G5{env:Env}{outer:List Env}{L:ac1}(h:env.frame=some L){b:ac1}(J:b∈eP (env::outer)):b=L∨b∈eP outer:=by unfold eP at J;rw[aeD,h]at J;exact List.mem_cons.mp J
theorem Inv.SK{M:Model}{A:adp}{E:acV→acW→Prop}{h':adT}{vs:List acV}{Q:Unit→acW→Prop}(I:Inv X pins σ H s)(iH:X.stack=X.env::X.outer)(rW:X.env.frame=some X.env.locals)(hex:X.ex=[])(i6:A.frames=some X.stack)(aA:Heap.MadeExcOf s.heap h' a C vs)(gd:∀hK B km,vT X.prog X.w X.outer X.pU H X.fF a C hK B km→Q () km):adi M A (leaving X.env (.ref a)) Q E { s with heap:=h' }:=by
 have Pg:∀env∈X.stack,∀b,env.frame=some b→b∈eP X.stack:=fun env he b J=>List.mem_filterMap.mpr ⟨env,he,J⟩;have nx:∀b o,s.heap.get? b=some o→b∉eP X.stack→(PySem.W.hideAll s.heap (eP X.stack)).get? b=some o:=fun b o q n=>PySem.W.hideAll_get _ q n;have nB:∀b o,X.fF.heap.get? b=some o→b∉eP X.outer→b∉eP X.stack:=fun b o q n z=>by
  rw[iH]at z;rcases G5 rW z with r|r
  ·subst r;exact absurd (adb (acZ q) I.ok.above) (adU _)
  ·exact n r
 have iq:∀b,b∉X.ex:=fun b z=>by rw[hex]at z;cases z
 refine PySem.wpAny_leaves_madeW (base:=PySem.W.hideAll s.heap (eP X.stack)) (h:=s.heap) (by rw[i6,iH]) rW (fun b o q=>PySem.W.of_hideAll _ q) (by have:=PySem.W.funFrames_hide (as:=eP X.stack) I.stack Pg;rw[iH]at this ⊢;exact this) aA fun Hb t hc gp ra pI=>?_;refine gd (.ref t) (PySem.W.hideAll s.heap (eP X.stack)) _ ⟨I.os,I.bare,⟨?_,?_,?_,?_,I.base.k4,I.base.j6,I.base.kZ⟩,hc,?_,?_,?_,?_⟩
 ·exact fun b o q n J _=>hc.1 b o (nx b o (I.base.keep b o q n J (iq b)) (nB b o q J))
 ·intro b o q n J _;obtain⟨cB,bb⟩:=I.base.slot b o q n J (iq b);obtain⟨_,cc,dS,kQ⟩:=I.ok.jI.mem J;rw[q]at dS;cases dS;obtain⟨pA,bN⟩:=pI b _ (aA.keeps b _ bb) kQ;exact⟨pA,bN⟩
 ·exact fun b o q n _=>I.base.free b o q n (iq b)
 ·intro b o q _;by_cases J:b∈eP X.outer
  ·obtain⟨_,cc,dS,_⟩:=hc.2.2.1.mem J;exact⟨cc,dS⟩
  ·obtain⟨cc,dS⟩:=I.base.there b o q (iq b);exact⟨cc,hc.1 b cc (nx b cc dS (nB b o q J))⟩
 ·exact fun b o q n J=>nx b o (I.base.keep b o q n J (iq b)) (nB b o q J)
 ·intro b o q J;obtain⟨cc,dS⟩:=I.base.there b o q (iq b);exact⟨cc,nx b cc dS (nB b o q J)⟩
 ·exact eA.part (X:=X) (s:=s) I.bR fun b u aD q=>nx b u q fun z=>by rw[I.DH b z]at aD;cases aD
 ·cases q:H a with
  |none=>rfl
  |some o=>
   have k:∀o:dG,e9 X.prog X.w H s.heap a o→∃u,s.heap.get? a=some u:=fun o x=>by
    induction o with
    |lst xs=>obtain⟨_,_,_,_,e⟩:=x;exact⟨_,e⟩
    |tup xs=>obtain⟨_,_,_,_,e,_⟩:=x;exact⟨_,e⟩
    |eO bq=>obtain⟨_,_,_,_,o,_,_,e,_⟩:=x;exact⟨_,e⟩
    |bH bq=>obtain⟨_,_,_,_,o,_,_,e,_⟩:=x;exact⟨_,e⟩
    |set S n=>obtain⟨o,_,_,_,e,_⟩:=x;exact⟨_,e⟩
    |ins C bA a8=>obtain⟨_,_,_,e,_⟩:=x;exact⟨_,e⟩
    |own y=>obtain⟨_,e⟩:=x;exact⟨_,e⟩
    |y0 a8=>obtain⟨_,⟨_,_,_,e,_⟩,_⟩:=x;exact⟨_,e⟩
    |yl lo ak=>obtain⟨_,_,_,e⟩:=x;exact⟨_,e⟩
    |jH ob u=>obtain⟨e,_⟩:=x;exact⟨_,e⟩
    |pD aO=>exact⟨_,(show s.heap.get? a=some _ from x)⟩
    |met f y=>exact⟨_,(show s.heap.get? a=some _ from x)⟩
    |ext rn=>obtain⟨_,⟨_,e⟩,_⟩:=x;exact⟨_,e⟩
   obtain⟨u,e⟩:=k o (I.bR a o q);rw[aA.new]at e;cases e
theorem Inv.SM{M:Model}{A:adp}{E:acV→acW→Prop}{Q:Unit→acW→Prop}(I:Inv X pins σ H s)(iH:X.stack=X.env::X.outer)(rW:X.env.frame=some X.env.locals)(hex:X.ex=[])(i6:A.frames=some X.stack)(f:vT X.prog X.w X.stack H H' s a C hK B s')(gd:∀km,vT X.prog X.w X.outer X.pU H' X.fF a C hK B km→Q () km):adi M A (leaving X.env (.ref a)) Q E s':=by
 have nB:∀b o,X.fF.heap.get? b=some o→b∉eP X.outer→b∉eP X.stack:=fun b o q n z=>by
  rw[iH]at z;rcases G5 rW z with r|r
  ·subst r;exact absurd (adb (acZ q) I.ok.above) (adU _)
  ·exact n r
 have PD:∀b,b∈eP X.outer→b∈eP X.stack:=fun b z=>by rw[iH];unfold eP;rw[aeD,rW];exact ac7 _ z
 have iq:∀b,b∉X.ex:=fun b z=>by rw[hex]at z;cases z
 have no:∀b:ac1,b∉([]:List ac1):=fun b z=>by cases z
 obtain⟨os,bare,un,A4,old,DW,bR,U⟩:=f;rw[iH]at A4;refine PySem.wpAny_leaves_onW (by rw[i6,iH]) rW A4 fun Hb hc gp=>?_;refine gd _ ⟨os.trans I.os,bare,⟨?_,?_,?_,?_,fun b xs q=>un.k4 b xs (I.base.k4 b xs q),fun b o u q=>un.j6 b o u (I.base.j6 b o u q),?_⟩,hc,?_,?_,bR,U⟩
 ·exact fun b o q n J _=>hc.1 b o (old b o (I.base.keep b o q n J (iq b)) (I.base.free b o q n (iq b)) (nB b o q J))
 ·intro b o q n J _;obtain⟨cB,bb⟩:=I.base.slot b o q n J (iq b);obtain⟨_,cc,dS,kQ⟩:=I.ok.jI.mem J;rw[q]at dS;cases dS;obtain⟨aa5,bN⟩:=un.slot b _ bb (I.base.free b o q n (iq b)) (PD b J) (no b);obtain⟨pA,d6⟩:=gp b _ bN kQ;exact⟨pA,d6⟩
 ·intro b o q n _;obtain⟨cc,dS⟩:=I.base.there b o q (iq b);exact un.free b cc dS (I.base.free b o q n (iq b)) (no b)
 ·intro b o q _;by_cases J:b∈eP X.outer
  ·obtain⟨_,cc,dS,_⟩:=hc.2.2.1.mem J;exact⟨cc,dS⟩
  ·obtain⟨cc,dS⟩:=I.base.there b o q (iq b);obtain⟨cf,bN⟩:=DW b cc dS (nB b o q J);exact⟨cf,hc.1 b cf bN⟩
 ·intro b aO q;obtain⟨m1,ae⟩:=I.base.kZ b aO q;obtain⟨m2,au⟩:=un.kZ b _ ae;exact⟨m1++m2,by rw[au,Array.append_assoc]⟩
 ·exact fun b o q n J=>old b o (I.base.keep b o q n J (iq b)) (I.base.free b o q n (iq b)) (nB b o q J)
 ·intro b o q J;obtain⟨cc,dS⟩:=I.base.there b o q (iq b);exact DW b cc dS (nB b o q J)
end
theorem Ot{K:PySem.W.Frag}{h:adT}{C:ac1}{tn:List acV}{newId:String}(X:K.In h)(q:PySem.W.excIn K C tn newId=true) :
  ∃bm N nm q bs hdct sn sub ab col dd k0 k1 k2 k3 k5 mN,h.get? C=some (excClassObj nm q C N bs bm hdct sn sub ab col dd k0 k1 k2 k3 k5 newId)∧h.Ns N mN∧mN "__init__"=none∧OwnTail h tn bm:=by
 unfold PySem.W.excIn at q
 split at q
 ·rename_i dd cd cB aH
  split at q
  ·rename_i l7 bm k0 k1 k2 k3 n k5 hm aD;simp only[adm,beq_iff_eq,agd]at q;obtain⟨⟨⟨⟨⟨rfl,rfl⟩,Hj⟩,bJ⟩,bR⟩,xj⟩:=q;obtain⟨nm,bs,mro,ns,qn,hd,sn,sub,ab,col,del⟩:=cd;dsimp only at hm Hj bR xj;subst hm Hj;have PJ:cB= #[k0,k1,k2,k3,some (.builtin n),k5]:=by
    obtain⟨l⟩:=cB;simp only at aD;rw[aD]
   subst PJ;exact⟨bm,ns,nm,qn,bs,hd,sn,sub,ab,col,dd,k0,k1,k2,k3,k5,_,X _ _ aH,.of_isNs (PySem.W.isNs_of_in X bR),PySem.W.nsMap_none_of_in X bR xj,PySem.W.tail_of_in X bJ⟩
  ·cases q
 ·cases q
noncomputable def KS(X:aS)(C:ac1):eT:=fun _ σ H=>∀pins s h' a vs,Inv X pins σ H s→Heap.MadeExcOf s.heap h' a (.ref C) vs→X.xe (.ref a) { s with heap:=h' }
section
variable{X:aS}{x:Str}{np b6 pos wG:Pos}{C:ac1}{tn:List acV}{B newId Q7:String}{m:Str}{j:Nat}
theorem Vl(FB:ExcBaseFacts B newId Q7 tn)(q:PySem.W.excIn X.K C tn newId=true)(hm:X.mg x=some (.ref C))(ax:X.calm=true:=by rfl)(aI:dF X x:=by rfl)(hd:(x==("__debug__" :Str))=false:=by decide) :
  cS X (.Raise (some (.Call (.Name x np) [.Constant (.str m) j wG] [] b6)) none pos) (KS X C):=by
 intro pins s σ H D I h;obtain⟨bm,N,nm,qn,bs,hdct,sn,sub,ab,col,dd,k0,k1,k2,k3,k5,mN,ip,b7,xj,ET⟩:=Ot I.mod.mC q;refine wpAny_Raise_call_subT (mN:=mN) (C:=C) (nm:=nm) (q:=qn) (N:=N) (bs:=bs) (bm:=bm) (hdct:=hdct) (sn:=sn) (sub:=sub) (ab:=ab) (col:=col) (dd:=dd) (k0:=k0) (k1:=k1) (k2:=k2) (k3:=k3) (k5:=k5) FB (ET.hasType FB.hasBase) (I.ok.hd ax) rfl xj (xE I aI hm ⟨rfl,?_⟩ hd);refine afH (afb (bX (Cr (X:=X) (x:=m) (j:=j) (pos:=wG) pins s σ H (fun _ H1=>H1=H) I rfl) fun u s1⟨v,H1,a6,aq,ae⟩=>?_));subst ae;refine afm ⟨rfl,afx rfl,a6.fk _ _ ip,b7.keeps a6.fk,ET.keeps a6.fk,fun h' a aA=>h pins s1 h' a _ a6 aA⟩
theorem YK{P:ac_}{w:adB}{K:PySem.W.Frag}{mg:Str→Option acV}{base:adT}{N:List Str}{qual:Str}{scope:aew}{f:ac1}{cd:acV}{A:adp}{outer:List Env}{s0:acW}{aR:ag}{E:cT}{σ :St}{H:ag}{b2:Ends}(h:∀a,H a=none→E (.ref C) (some a) H):KS (er (hs P w) P w K mg base N qual scope f cd A outer s0 aR E) C b2 σ H:=fun pins s h' a vs I aA=>
 I.SK (C:=.ref C) rfl rfl rfl I.ok.frames aA fun hK B km hj=>⟨a,.ref C,hK,B,H,rfl,hj,h a hj.U⟩
theorem UC{P:ac_}{w:adB}{K:PySem.W.Frag}{mg:Str→Option acV}{base:adT}{N:List Str}{qual:Str}{scope:aew}{f:ac1}{cd:acV}{A:adp}{outer:List Env}{s0:acW}{aR:ag}{E:cT} :
  Passes (hs P w) (er (hs P w) P w K mg base N qual scope f cd A outer s0 aR E) E:=fun pins σ H s e s' I aA=>by
 obtain⟨a,C,hK,B,H',rfl,hj,hQ⟩:=aA;exact I.SM (X:=er (hs P w) P w K mg base N qual scope f cd A outer s0 aR E) rfl rfl rfl I.ok.frames hj fun km OG=>⟨a,C,hK,B,H',rfl,OG,hQ⟩
end
abbrev Oq(a:ac1)(C:acV):dG:=.ext fun h=>∃ob,h.get? a=some ob∧ob.cls=C
section
variable{X:aS}{pins:List (ac1×Obj)}{σ :St}{H H':ag}{s s':acW}{a:ac1}{C hK:acV}{B:adT}{Hb:adT}
end
section
variable{X:aS}{k:Nat}{f C:ac1}{fd:ad1}{aO:List Str}{sp:ih}{E:cT}{x:Str}{p pos:Pos}{e:adq}{ah:List adq}{t:eS}
end
section
variable{X:aS}{pins:List (ac1×Obj)}{σ :St}{H H':ag}{s s':acW}{a:ac1}
end
section
variable{X:aS}{i:Nat}{x n:Str}{W:ac1}{e:adq}{te:TE}{E:cT}{MR:ad4}{Xh:List ad4}{aL:eT}{UE np a5 pos:Pos}
end
noncomputable def hh(env:Env):List (Str×ae4)→List (Str×ac1)→List (Str×ac1)
 |[],cs=>cs
 |(x,k)::r,cs=>hh env r (if k==.free then(x,(env.cells.lookup x).getD 0)::cs else cs)
theorem FE{env:Env}:∀(names:List (Str×ae4))(cs:List (Str×ac1)),(∀p∈names,p.2=.free→∃c,env.cells.lookup p.1=some c)→
 (forIn (m:=Sem) names cs fun(x:Str×ae4) cs=>if(x.2==adR)=true then do
   let a ←cellOf env x.1
   pure (aec ((x.1,a)::cs))else pure (aec cs))=pure (hh env names cs)
 |[],cs,_=>rfl
 |(x,k)::r,cs,h=>by
  rw[afU];have cq:=FE (env:=env) r;by_cases aK:k=.free
  ·subst aK;obtain⟨c,ax⟩:=h (x,.free) adQ rfl;have ae:cellOf env x=pure c:=by unfold cellOf;rw[ax]
   simp only[beq_self_eq_true,if_true,hh,ae,ax,Option.getD_some,pure_bind];exact cq _ fun p a5=>h p (ac7 _ a5)
  ·have J:(k==adR)=false:=by simpa using aK
   simp only[J,adx,if_false,hh,pure_bind];exact cq _ fun p a5=>h p (ac7 _ a5)
theorem FD{env:Env}{scope:aew}(h:∀p∈scope.names,p.2=.free→∃c,env.cells.lookup p.1=some c):closureFor scope env=pure (hh env scope.names []):=by
 have e:=FE (env:=env) scope.names [] h;unfold closureFor
 refine Eq.trans (b:=(forIn (m:=Sem) scope.names [] fun(x:Str×ae4) cs=>if(x.2==adR)=true then do
   let a ←cellOf env x.1
   pure (aec ((x.1,a)::cs))else pure (aec cs))>>=pure) rfl ?_
 rw[e];rfl
theorem FC{env:Env}{x:Str}:∀(names:List (Str×ae4))(cs:List (Str×ac1)),(∀p∈names,p.2=.free→∃c,env.cells.lookup p.1=some c)→
  (hh env names cs).lookup x=if(x,adR)∈names then env.cells.lookup x else cs.lookup x
 |[],cs,_=>by simp[hh]
 |(y,k)::r,cs,h=>by
  rw[hh,FC r _ fun p a5=>h p (ac7 _ a5)];by_cases hm:(x,adR)∈r
  ·rw[if_pos hm,if_pos (ac7 _ hm)]
  ·rw[if_neg hm];by_cases aK:k=.free
   ·subst aK;obtain⟨c,ax⟩:=h (y,.free) adQ rfl;by_cases aA:x=y
    ·subst aA;rw[if_pos adQ];simp[afC,ax]
    ·have nm:¬(x,adR)∈(y,adR)::r:=fun z=>by
       rcases List.mem_cons.mp z with e|e
       ·exact aA (by injection e)
       ·exact hm e
     rw[if_neg nm];have J:(x==y)=false:=by simpa using aA
     simp[afC,J]
   ·have J:(k==adR)=false:=by simpa using aK
    have nm:¬(x,adR)∈(y,k)::r:=fun z=>by
     rcases List.mem_cons.mp z with e|e
     ·exact aK (by injection e with _ au;exact au.symm)
     ·exact hm e
    rw[if_neg nm];simp[J]
theorem Nh {prog:ac_} {w:adB} {A:adp} {R:Result→acW→Prop} {s:acW} {elt target iter:adq} {ifs:List adq} {scope:aew} {pos:Pos} {it acc:acV} {env:Env} (I:Nat→acW→Prop)(turn:∀n s,I n s→adi (adj prog w) A (pyNext it) (fun r dp=>match r with
    |none=>R (.ok .next) dp
    |some v=>adi (adj prog w) A (afS target it v) (fun _ Kx=>adi (adj prog w) A (agr target env v) (fun _ kn=>
       adi (adj prog w) A (forIn ifs true fun c r=>if r=true then do let ok ←isTrue c env (adW c env);pure (aec ok)else pure (aec r)) (fun ok pC=>
        if ok=true then adi (adj prog w) A (adW elt env) (fun x yC=>
         adi (adj prog w) A (call (.builtin "list.append") [acc,x]) (fun _ Ky=>∃m,m<n∧I m Ky) (ahC (adj prog w) A env fun e s'=>R (.error e) s') yC) (ahC (adj prog w) A env fun e s'=>R (.error e) s') pC
        else ∃m,m<n∧I m pC) (ahC (adj prog w) A env fun e s'=>R (.error e) s') kn) (ahC (adj prog w) A env fun e s'=>R (.error e) s') Kx) (ahC (adj prog w) A env fun e s'=>R (.error e) s') dp) (ahC (adj prog w) A env fun e s'=>R (.error e) s') s)
  (n:Nat) (h:I n s):agO (adj prog w) A (.compLoop (.ListComp elt [⟨target,iter,ifs,0⟩] scope pos) 0 it acc env) R s:=by
 refine codeAny_loop rfl I (fun n s lB=>?_) n h;show adi _ A ((compTurn (.ListComp elt [⟨target,iter,ifs,0⟩] scope pos) 0 it acc env).onRaise (fun x=>do noteFrame x env;theTreesLotGoes x)) _ _ s;refine wpAny_noted ?_;rw[compTurn_list];refine acU (wpAny_standAt (acU (adY (turn n s lB) (fun r dp j9=>?_) fun _ _ h'=>h')));cases r with
 |none=>exact ac5 j9
 |some v=>
  refine acU (adY j9 (fun _ Kx PX=>?_) fun _ _ h'=>h');refine acU (adY PX (fun _ kn lG=>acU (adY lG (fun ok pC mB=>?_) fun _ _ h'=>h')) fun _ _ h'=>h');cases ok with
  |false=>exact ac5 ⟨rfl,mB⟩
  |true=>exact acU (acU (adY mB (fun x yC tZ=>acU (adY tZ (fun _ Ky hA=>ac5 (ac5 ⟨rfl,hA⟩)) fun _ _ h'=>h')) fun _ _ h'=>h'))
abbrev eI(X:aS)(scope:aew)(N:List Str)(cl:List (Str×ac1))(C:ac1)(s:acW)(H:ag)(aQ:List ac1):aS where
 prog:=X.prog
 w:=X.w
 K:=X.K
 mg:=X.mg
 base:=X.base
 A:=X.A
 N:=N
 fF:=s
 pU:=H
 env:=compEnvC scope cl C X.env
 outer:=X.stack
 stack:=X.stack
 ex:=aQ
 calm:=X.calm
 fn:=fun x=>scope.names.lookup x==some .cell
 dg:=[]
 xe:=fun _ _=>False
def mm(nl:Nat)(caps:List Nat)(σ :St):St:=adZ nl none++caps.map fun j=> σ.getD j none
def xp:Option ae4→Bool
 |some .cell=>true
 |some .free=>true
 |_=>false
structure l_(sc:aew)(ou:List Str)(scope:aew)(N:List Str)(nl:Nat)(caps:List Nat):Prop where
 kind:scope.kind=.function
 uniq:∀x∈scope.names,scope.names.lookup x.1=some x.2
 free:∀x∈scope.names,x.2=.free→xp (sc.names.lookup x.1)=true
 len:N.length=nl+caps.length
 M9:∀k j,caps[k]?=some j→∃x,ou[j]?=some x∧N[nl+k]?=some x∧scope.names.lookup x=some .free∧xp (sc.names.lookup x)=true
noncomputable def oE(sc:aew)(ou:List Str)(scope:aew)(N:List Str)(nl:Nat)(caps:List Nat):Bool:=
 (scope.kind==.function)&&scope.names.all (fun x=>scope.names.lookup x.1==some x.2&&(x.2 !=.free||xp (sc.names.lookup x.1)))&&
 (N.length==nl+caps.length)&&(caps.zipIdx.all fun BM=>match ou[BM.1]? with
   |none=>false
   |some x=>N[nl+BM.2]?==some x&&scope.names.lookup x==some .free&&xp (sc.names.lookup x))
theorem l_.of{sc:aew}{ou:List Str}{scope:aew}{N:List Str}{nl:Nat}{caps:List Nat}(h:oE sc ou scope N nl caps=true):l_ sc ou scope N nl caps:=by
 unfold oE at h;rw[adm,adm,adm]at h;obtain⟨⟨⟨h1,h2⟩,h3⟩,h4⟩:=h;rw[aeH]at h2 h4;refine⟨eq_of_beq h1,fun x aA=>?_,fun x aA e=>?_,eq_of_beq h3,fun k j e=>?_⟩
 ·have:=h2 x aA;rw[adm]at this;exact eq_of_beq this.1
 ·have:=h2 x aA;rw[adm]at this;have q:=this.2;rw[e]at q;simpa using q
 ·have m:(j,k)∈caps.zipIdx:=by
    rw[List.mem_zipIdx_iff_getElem?];exact e
  have q:=h4 _ m;dsimp only at q
  split at q
  ·cases q
  ·rename_i x ex;rw[adm,adm]at q;exact⟨x,ex,eq_of_beq q.1.1,eq_of_beq q.1.2,q.2⟩
theorem l_.locs{sc:aew}{ou:List Str}{scope:aew}{N:List Str}{nl:Nat}{caps:List Nat}(S:l_ sc ou scope N nl caps):∀x∈scope.names,x.2=.local→scope.names.lookup x.1=some .local:=fun x aA e=>e▸S.uniq x aA
theorem Az:∀(ns:List (Str×ae4))(n:Nat)(a b:List (Str×ac1)),ad8 n ns (a++b)=ad8 n ns a++b
 |[],_,_,_=>rfl
 |(x,k)::r,n,a,b=>by
  unfold ad8
  split
  ·exact Az r (n+1) ((x,n)::a) b
  ·exact Az r n a b
theorem wF{x:Str}{c:ac1}:∀(ns:List (Str×ae4))(n:Nat)(a:List (Str×ac1)),(x,c)∈ad8 n ns a→(x,NameKind.cell)∈ns∨(x,c)∈a
 |[],_,_,h=>.inr h
 |(y,k)::r,n,a,h=>by
  unfold ad8 at h
  split at h
  ·rename_i aK;rcases wF r _ _ h with z|z
   ·exact .inl (ac7 _ z)
   ·rcases List.mem_cons.mp z with e|z
    ·injection e with ae au;subst ae;rw[eq_of_beq aK];exact .inl adQ
    ·exact .inr z
  ·rcases wF r _ _ h with z|z
   ·exact .inl (ac7 _ z)
   ·exact .inr z
theorem TA{M:Model}{A:adp}{E:acV→acW→Prop}{s:acW}{scope:aew}{globals:ac1}{cl:List (Str×ac1)}{qual:Str}{env:Env}{Q:Env→acW→Prop}(gd:Q { scope:=scope,locals:=s.heap.objs.size,globals:=globals,cells:=ad8 (s.heap.objs.size+1) scope.names cl,qual:=qual,func:=none,code:=env.code,frame:=env.frame,builtins:=env.builtins } { s with heap:=pushCells (s.heap.push { cls:=.type "dict",data:=.dict #[] }) scope.names }) :
  adi M A (ahz scope globals cl [] qual none .none (some env)) Q E s:=by
 simp only[ahz,ahV,if_true];refine acU (wpAny_alloc ?_);refine acU (wpAny_layCells _ (fun name kind cells=>by cases Pk:kind==NameKind.cell<;>simp[Pk]) _ _ _ _ ?_);rw[show({ s with heap:=s.heap.push { cls:=.type "dict",data:=.dict #[] } }:acW).heap.objs.size=s.heap.objs.size+1 from ado ..];exact acU (ac5 (ac5 gd))
theorem CC{scope:aew}{env:Env}{x:Str}{k:ae4}(h:(afD scope env).names.lookup x=some k):(x,k)∈scope.names∨(k=.cell∧(x,adR)∈scope.names):=by
 have m:=PySem.mem_of_lookup h;obtain⟨⟨y,q⟩,b8,e⟩:=List.mem_map.mp m;dsimp only at e
 split at e
 ·rename_i ax;injection e with ae au;subst ae;have hf:q=.free:=by
   rw[adm,adm]at ax;exact eq_of_beq ax.1.1
  subst hf;exact .inr ⟨au.symm,b8⟩
 ·injection e with ae au;subst ae;subst au;exact .inl b8
noncomputable def q4(iT:TI)(g:ht)(tc:TT)(te:TE)(nl:Nat)(caps:List Nat):TE:=fun σ H Q=>
 iT σ H fun cC H1=>∀acc,H1 acc=none→∃W:Nat→Nat→St→ag→Prop,(∃m,W 0 m (mm nl caps σ) (upd H1 acc (.lst [])))∧
  ∀i m σ' H',W i m σ' H'→(cC.stop i H'∧Q (.ref acc) H')∨
   (cC.go i H'∧∀x aX,cC.iU i H' x aX→g x σ' aX fun σ2 cK=>tc σ2 cK fun b gS=>
      if b=true then te σ2 gS fun y iX=>∃ys,iX acc=some (.lst ys)∧ys.length<ade∧∃eD,eD<m∧W (i+1) eD σ2 (upd iX acc (.lst (ys++[y])))
      else ∃eD,eD<m∧W (i+1) eD σ2 gS)
section
variable{X:aS}{elt target iter:adq}{ifs:List adq}{scope:aew}{pos:Pos}{N:List Str}{nl:Nat}{caps:List Nat}{iT:TI}{g:ht}{tc:TT}{te:TE}
noncomputable def nf(X:aS)(ifs:List adq)(t:TT):Prop:=
 ∀(pins:List (ac1×Obj))(s:acW)(σ :St)(H:ag)(Q:Bool→ag→Prop),Inv X pins σ H s→t σ H Q→
  adi (adj X.prog X.w) X.A (forIn ifs true fun c r=>if r=true then do let ok ←isTrue c X.env (adW c X.env);pure (aec ok)else pure (aec r)) (v_ X pins σ Q) X.xe s
def yJ:TT:=fun _ H Q=>Q true H
theorem JG:nf X [] yJ:=fun _ _ _ H _ I h=>wpAny_tests_nil ⟨H,I,h⟩
theorem Vr{c:adq}{t:TT}(h:e_ X c t):nf X [c] t:=fun pins s σ H Q I hw=>wpAny_tests_one (h pins s σ H Q I hw)
theorem Rb{pins:List (ac1×Obj)}{σ :St}{H:ag}{s s4:acW}{cl:List (Str×ac1)}{aQ:List ac1}(S:l_ X.env.scope X.N scope N nl caps)(I:Inv X pins σ H s)(k1:∀x c,cl.lookup x=some c→X.env.cells.lookup x=some c∨(scope.names.lookup x=some .cell∧s.heap.objs.size<c∧s4.heap.IsCell c none))(k2:∀x,(x,adR)∈scope.names→cl.lookup x=X.env.cells.lookup x)(k3:∀x,scope.names.lookup x=some .cell→∃c,cl.lookup x=some c∧s.heap.objs.size<c)(xu:∀x y c,cl.lookup x=some c→cl.lookup y=some c→x=y)(hf:∀b∈aQ,ia X pins H b)(ed:∀b∈aQ,b<s.heap.objs.size)(PC:s4.os=s.os)(aI:s4.gens=s.gens)(aU:∃m,s4.heap.Ns s.heap.objs.size m)(aK:∀b o,s.heap.get? b=some o→s4.heap.get? b=some o) :
  Inv (eI X scope N cl s.heap.objs.size s H aQ) [] (mm nl caps σ) H s4:=by
 refine⟨⟨I.ok.mod,?_,I.ok.glob,I.ok.blt,ac3 _,xu,fun x aA=>?_,fun x c z e=>?_,I.ok.hd,I.ok.frames,.inl rfl,fun b J=>⟨adn (ed b J),fun x c e=>(k1 x c e).elim (fun e=>(hf b J).2.2.2.2.1 x c e) fun e=>aeC (aei (ed b J) e.2.1)⟩,I.bs,adt I.ok.oC I.kX,fun b o e J=>?_,fun b J aD=>?_,I.stack,I.DH⟩,
  PC,?_,f7.kept aK,?_,fun x c e=>?_,I.bR.fresh (ac3 _),fun x c e=>(k1 x c e).elim (I.mw x c) fun e=>I.bR.fresh (ae7 e.2.1),fun p a5=>absurd (show p∈([]:List (ac1×Obj))from a5) (by simp),I.bR.kept aK,?_⟩
 ·show(afD scope X.env).kind=.function;exact S.kind
 ·have aA:(afD scope X.env).names.lookup x=some .cell∨(afD scope X.env).names.lookup x=some .free:=aA;have hm:(x,adR)∈scope.names∨scope.names.lookup x=some .cell:=by
   rcases aA with h|h
   ·rcases CC h with m|⟨_,m⟩
    ·exact .inr (S.uniq _ m)
    ·exact .inl m
   ·rcases CC h with m|⟨e,_⟩
    ·exact .inl m
    ·cases e
  rcases hm with hm|hm
  rotate_left
  ·obtain⟨c,e,_⟩:=k3 x hm;exact⟨c,e⟩
  have aP:=S.free _ hm rfl;have ax:∃c,X.env.cells.lookup x=some c:=by
   apply I.ok.has x;show X.env.scope.names.lookup x=some .cell∨X.env.scope.names.lookup x=some .free;cases e:X.env.scope.names.lookup x with
   |none=>rw[e]at aP;cases aP
   |some k=>
    rw[e]at aP
    cases k<;>first
     |exact .inl rfl
     |exact .inr rfl
     |cases aP
  obtain⟨c,e⟩:=ax;exact⟨c,by show cl.lookup x=some c;rw[k2 x hm];exact e⟩
 ·obtain⟨e2,cN,q⟩:=k3 x (eq_of_beq z);rw[show cl.lookup x=some c from e]at cN;cases cN;exact ae7 q
 ·rcases(hf b J).2.2.2.1 with z|z
  ·exact I.ok.nZ b o e z
  ·exact absurd (adb (acZ (I.ok.bs b o e).1) z) (adU _)
 ·rcases List.mem_cons.mp (I.yB b aD)with z|z
  ·exact(hf b J).2.1 z
  ·exact(hf b J).2.2.1 z
 ·rw[aI];exact I.bare
 ·obtain⟨m,aU⟩:=aU;refine⟨m,aU,fun i x v h1 h2 h3=>?_⟩;have b7:N[i]?=some x:=h1;unfold mm at h2;by_cases ak:i<nl
  ·rw[adl (by simpa using ak),adC,if_pos ak]at h2;cases h2
  ·rw[adh (by simpa using ak),aea,ac4]at h2;cases e:caps[i-nl]? with
   |none=>rw[e]at h2;cases h2
   |some j=>
    rw[e]at h2;have h2: σ.getD j none=some v:=ac0 h2;obtain⟨y,ae,au,tB,gZ⟩:=S.M9 _ _ e;have bE:(y,adR)∈scope.names:=PySem.mem_of_lookup tB;have c3:fL X.env.scope y:=by
     cases q:X.env.scope.names.lookup y with
     |none=>rw[q]at gZ;cases gZ
     |some k=>
      rw[q]at gZ
      cases k<;>first
       |exact .inr (.inl q)
       |exact .inr (.inr q)
       |cases gZ
    have fo:nl+(i-nl)=i:=by omega
    rw[fo,b7]at au;cases au;have aD: σ[j]?=some (some v):=by
     rw[ac6]at h2;cases q: σ[j]? with
     |none=>rw[q]at h2;cases h2
     |some o=>rw[q]at h2;exact congrArg some h2
    obtain⟨m0,_,av⟩:=I.loc;obtain⟨u,r,l⟩:=av j x v ae aD c3;refine⟨u,r,.inr ⟨?_,?_⟩⟩
    ·show(afD scope X.env).names.lookup x=some .cell∨(afD scope X.env).names.lookup x=some .free;rcases h3 with h3|h3|h3
     ·have h3:(afD scope X.env).names.lookup x=some .local:=h3;rcases CC h3 with z|⟨z,_⟩
      ·have a_:scope.names.lookup x=some .local:=S.locs _ z rfl;rw[a_]at tB;cases tB
      ·cases z
     ·exact .inl h3
     ·exact .inr h3
    ·have aP:X.env.scope.names.lookup x≠some .local:=fun z=>by rw[z]at gZ;cases gZ
     rcases l with⟨z,_⟩|⟨_,c,bl,a_⟩
     ·exact absurd z aP
     ·refine⟨c,?_,a_.keeps aK⟩;show cl.lookup x=some c;rw[k2 x bE];exact bl
 ·rcases k1 x c e with e|e
  ·obtain⟨v,z⟩:=I.cell x c e;exact⟨v,z.keeps aK⟩
  ·exact⟨_,e.2.2⟩
 ·show(mm nl caps σ).length=N.length;unfold mm;rw[adA,aea,adk,S.len]
theorem Rd{pins:List (ac1×Obj)}{σ σ' :St}{H H':ag}{s s':acW}{cl:List (Str×ac1)}{aQ:List ac1}{h':adT}(I:Inv X pins σ H s)(hf:∀b∈aQ,ia X pins H b)(cC:Inv (eI X scope N cl s.heap.objs.size s H aQ) [] σ' H' s')(aD:aeQ s.heap.objs.size s'.heap h'):Inv X pins σ H' { s' with heap:=h' }:=by
 have ne:∀b o,s.heap.get? b=some o→b≠s.heap.objs.size:=fun b o e=>adn (acZ e);have u:f7 (eP X.stack) aQ H H' s.heap s'.heap:=cC.base;have fr:H' s.heap.objs.size=none:=cC.free;refine I.MT (ch:=aQ) (s':={ s' with heap:=h' }) cC.os ⟨fun b o e n J aA=>(aD.2 b (ne b o e)).trans (u.keep b o e n J aA),fun b o e n J aA=>?_,u.free,fun b o e aA=>?_,u.k4,u.j6,u.kZ⟩ (fun b o e=>?_) cC.bare fun b J=>?_
 ·obtain⟨cB,q⟩:=u.slot b o e n J aA;exact⟨cB,(aD.2 b (ne b o e)).trans q⟩
 ·obtain⟨cc,q⟩:=u.there b o e aA;exact⟨cc,(aD.2 b (ne b o e)).trans q⟩
 ·refine(cC.bR b o e).n_ (fun c v ax q=>(aD.2 c ?_).trans q) (fun _ q=>q) fun _ _ q=>q;rintro rfl;rcases ax with z|z
  ·rw[←z,fr]at e;cases e
  ·rw[fr]at z;cases z
 ·obtain⟨_,f1,_,fO,f4,il⟩:=hf b J;exact⟨fO,f1,f4,il⟩
theorem FG {pins:List (ac1×Obj)} {σ :St} {s2:acW} {aX:ag} {it:ac1} {aQ:List ac1} {gF:Nat→adT→Prop} {cC:It} {E:acV→acW→Prop} {Q:ag→Prop} {W:Nat→Nat→St→ag→Prop} {m0:Nat}(S:l_ X.env.scope X.N scope N nl caps) (ax:X.calm=true) (cn:Inv X pins σ aX s2) (T:Turn X.prog X.w X.K target cC aQ it gF) (kW:gF 0 s2.heap) (f2:∀b∈aQ,ia X pins aX b)(aI:∀cl C s H aQ,iZ (eI X scope N cl C s H aQ) target g) (bJ:∀cl C s H aQ,nf (eI X scope N cl C s H aQ) ifs tc) (he:∀cl C s H aQ,a4 (eI X scope N cl C s H aQ) elt te)(oh:W 0 m0 (mm nl caps σ) (upd aX s2.heap.objs.size (.lst [])))(turn:∀i m σ' H',W i m σ' H'→(cC.stop i H'∧Q H')∨
    (cC.go i H'∧∀x cK,cC.iU i H' x cK→g x σ' cK fun σ2 gS=>tc σ2 gS fun b iX=>
       if b=true then te σ2 iX fun y lg=>∃ys,lg s2.heap.objs.size=some (.lst ys)∧ys.length<ade∧∃eD,eD<m∧W (i+1) eD σ2 (upd lg s2.heap.objs.size (.lst (ys++[y])))
       else ∃eD,eD<m∧W (i+1) eD σ2 iX))
  (s8:acV→ac1→Result→acW→Prop)
  (OU:∀(C:ac1) s' H',(∃m,s'.heap.Ns C m)→ia X pins H' C→(∀h',aeQ C s'.heap h'→Inv X pins σ H' { s' with heap:=h' })→Q H'→s8 (.ref s2.heap.objs.size) C (.ok .next) s') :
  adi (adj X.prog X.w) X.A (newList []) (fun acc pC=>adi (adj X.prog X.w) X.A (ahz scope X.env.globals (hh X.env scope.names []) [] X.env.qual none .none (some X.env)) (fun FA yC=>
   agO (adj X.prog X.w) X.A (.compStart (.ListComp elt [⟨target,iter,ifs,0⟩] scope pos) 0 (.ref it) acc { FA with scope:=afD scope X.env }) (s8 acc FA.locals) yC) E pC) E s2:=by
 have xd:∀p∈scope.names,p.2=.free→∃c,X.env.cells.lookup p.1=some c:=fun p a5 e=>by
  have q:=S.free p a5 e;apply cn.ok.has p.1;show X.env.scope.names.lookup p.1=some .cell∨X.env.scope.names.lookup p.1=some .free;cases au:X.env.scope.names.lookup p.1 with
  |none=>rw[au]at q;cases q
  |some k=>
   rw[au]at q
   cases k<;>first
    |exact .inl rfl
    |exact .inr rfl
    |cases q
 have xb:∀x,(hh X.env scope.names []).lookup x=if(x,adR)∈scope.names then X.env.cells.lookup x else none:=fun x=>FC scope.names [] xd
 have oO:aX s2.heap.objs.size=none:=cn.bR.fresh (ac3 _);refine age (TA ?_);dsimp only;have d0:Inv X pins σ (upd aX s2.heap.objs.size (.lst [])) { s2 with heap:=s2.heap.push { cls:=.type "list",dict:=none,data:=.seq ([]:List acV).toArray } }:=cn.Ir (its:=[]) (ys:=[]) (t':=s2.toks) .nil (aee _);generalize Bv:({ s2 with heap:=s2.heap.push { cls:=.type "list",dict:=none,data:=.seq ([]:List acV).toArray } }:acW)=s3 at d0;have Bn:s2.heap.push { cls:=.type "list",dict:=none,data:=.seq ([]:List acV).toArray }=s3.heap:=by rw[←Bv]
 rw[Bn];have I3:∀b o,s2.heap.get? b=some o→s3.heap.get? b=some o:=fun b o e=>by rw[←Bn];exact acS _ e
 have WO:s3.heap.objs.size=s2.heap.objs.size+1:=by rw[←Bn,ado]
 have xx:=Az scope.names (s3.heap.objs.size+1) [] (hh X.env scope.names []);have ok:=cellsFrom_ok scope.names (s3.heap.push { cls:=.type "dict",data:=.dict #[] }) (s3.heap.objs.size+1) [] ⟨fun _ _ hm=>(nomatch hm),ah4⟩ (by rw[ado];exact ac3 _);have Hs:=(Heap.Ns.new s3.heap (.type "dict")).keeps (pushCells_keeps scope.names _);have xy:∀b o,s3.heap.get? b=some o→(pushCells (s3.heap.push { cls:=.type "dict",data:=.dict #[] }) scope.names).get? b=some o:=fun b o e=>pushCells_keeps _ _ b o (acS _ e);rw[ado]at ok;rw[List.nil_append]at xx;rw[xx];generalize pushCells (s3.heap.push { cls:=.type "dict",data:=.dict #[] }) scope.names=j9 at Hs xy ok ⊢;have old:∀x c,X.env.cells.lookup x=some c→c<s3.heap.objs.size:=fun x c e=>by obtain⟨v,z⟩:=d0.cell x c e;exact z.lt
 have k0:∀x c,(ad8 (s3.heap.objs.size+1) scope.names []++hh X.env scope.names []).lookup x=some c→((x,c)∈ad8 (s3.heap.objs.size+1) scope.names []∧scope.names.lookup x=some .cell∧s3.heap.objs.size<c∧j9.IsCell c none)∨X.env.cells.lookup x=some c:=fun x c e=>by
  rw[af2]at e;cases ae:(ad8 (s3.heap.objs.size+1) scope.names []).lookup x with
  |some e2=>
   rw[ae]at e;have e:e2=c:=ac0 e;subst e;have m:=PySem.mem_of_lookup ae;rcases wF _ _ _ m with z|z
   ·exact .inl ⟨m,S.uniq _ z,(ok.empty _ _ m).2,(ok.empty _ _ m).1⟩
   ·cases z
  |none=>
   rw[ae]at e;have e:(hh X.env scope.names []).lookup x=some c:=e;rw[xb]at e
   split at e
   ·exact .inr e
   ·cases e
 have k2:∀x,(x,adR)∈scope.names→(ad8 (s3.heap.objs.size+1) scope.names []++hh X.env scope.names []).lookup x=X.env.cells.lookup x:=fun x aA=>by
  rw[af2];cases ae:(ad8 (s3.heap.objs.size+1) scope.names []).lookup x with
  |some e2=>
   rcases wF _ _ _ (PySem.mem_of_lookup ae)with z|z
   ·have bb:=S.uniq _ z;have bN:=S.uniq _ aA;dsimp only at bb bN;rw[bb]at bN;cases bN
   ·cases z
  |none=>show(hh X.env scope.names []).lookup x=_;rw[xb,if_pos aA]
 have k3:∀x,scope.names.lookup x=some .cell→∃c,(ad8 (s3.heap.objs.size+1) scope.names []++hh X.env scope.names []).lookup x=some c∧s3.heap.objs.size<c:=fun x aA=>by obtain⟨c,e⟩:=Ay (n:=s3.heap.objs.size+1) aA;exact⟨c,by rw[af2,e];rfl,(ok.empty _ _ (PySem.mem_of_lookup e)).2⟩
 have xu:∀x y c,(ad8 (s3.heap.objs.size+1) scope.names []++hh X.env scope.names []).lookup x=some c→(ad8 (s3.heap.objs.size+1) scope.names []++hh X.env scope.names []).lookup y=some c→x=y:=fun x y c h1 h2=>by
  rcases k0 x c h1 with bl|bl<;>rcases k0 y c h2 with a_|a_
  ·exact name_of_addr ok.apart bl.1 a_.1
  ·exact absurd (old y c a_) (Nat.not_lt_of_gt bl.2.2.1)
  ·exact absurd (old x c bl) (Nat.not_lt_of_gt a_.2.2.1)
  ·exact d0.ok.inj x y c bl a_
 have k1:∀x c,(ad8 (s3.heap.objs.size+1) scope.names []++hh X.env scope.names []).lookup x=some c→X.env.cells.lookup x=some c∨(scope.names.lookup x=some .cell∧s3.heap.objs.size<c∧j9.IsCell c none):=fun x c e=>(k0 x c e).elim (fun z=>.inr z.2) .inl;generalize ad8 (s3.heap.objs.size+1) scope.names []++hh X.env scope.names []=cl at k0 k1 k2 k3 xu ⊢;have Hq:∀b∈aQ,b<s2.heap.objs.size:=fun b J=>by obtain⟨o,e,_⟩:=T.obj 0 _ kW b J;exact acZ e
 have fO:∀b∈aQ,ia X pins (upd aX s2.heap.objs.size (.lst [])) b:=fun b J=>by obtain⟨hK,a1⟩:=f2 b J;exact⟨by rw[c8 (adn (Hq b J))];exact hK,a1⟩
 have Bq:∀b∈aQ,b<s3.heap.objs.size:=fun b J=>by rw[WO];exact Nat.lt_succ_of_lt (Hq b J)
 have loop:∀s4:acW,s4={ s3 with heap:=j9 }→
   agO (adj X.prog X.w) X.A (.compLoop (.ListComp elt [⟨target,iter,ifs,0⟩] scope pos) 0 (.ref it) (.ref s2.heap.objs.size) (compEnvC scope cl s3.heap.objs.size X.env))
    (s8 (.ref s2.heap.objs.size) s3.heap.objs.size) s4:=by
  intro s4 rX;have kx:Inv (eI X scope N cl s3.heap.objs.size s3 (upd aX s2.heap.objs.size (.lst [])) aQ) [] (mm nl caps σ) (upd aX s2.heap.objs.size (.lst [])) s4:=
   Rb S d0 (by rw[rX];exact k1) k2 k3 xu fO Bq (by rw[rX]) (by rw[rX]) ⟨_,by rw[rX];exact Hs⟩ (by rw[rX];exact xy)
  have Xa:gF 0 s4.heap:=T.keep 0 _ _ kW fun b J o e=>by rw[rX];exact xy b o (I3 b o e)
  generalize kI:eI X scope N cl s3.heap.objs.size s3 (upd aX s2.heap.objs.size (.lst [])) aQ=B at kx;have stat:∀{H':ag},(∀b∈aQ,H' b=none)→∀b∈aQ,ia B [] H' b:=fun{H'} aU b J=>by
   subst kI;obtain⟨hK,a1,a2,d3,gH,jB⟩:=fO b J;refine⟨aU b J,adn (Bq b J),fun z=>?_,.inl J,fun x c e=>?_,fun p a5=>absurd (show p∈([]:List (ac1×Obj))from a5) (by simp)⟩
   ·rcases List.mem_cons.mp (d0.yB b z)with q|q
    ·exact a1 q
    ·exact a2 q
   ·rcases k1 x c e with e|e
    ·exact gH x c e
    ·exact aeC (aei (Bq b J) e.2.1)
  have Pb:iZ B target g:=by subst kI;exact aI _ _ _ _ _
  have PL:nf B ifs tc:=by subst kI;exact bJ _ _ _ _ _
  have O9:a4 B elt te:=by subst kI;exact he _ _ _ _ _
  have tC:B.prog=X.prog:=by subst kI;rfl
  have gI:B.w=X.w:=by subst kI;rfl
  have FT:B.K=X.K:=by subst kI;rfl
  have N5:B.A=X.A:=by subst kI;rfl
  have AI:B.env=compEnvC scope cl s3.heap.objs.size X.env:=by subst kI;rfl
  have FV:B.calm=true:=by subst kI;exact ax
  have Ou:B.xe=fun _ _=>False:=by subst kI;rfl
  rw[←tC,←gI,←N5,←AI];refine Nh (fun n s'=>∃i σ' H',Inv B [] σ' H' s'∧gF i s'.heap∧(∀b∈aQ,H' b=none)∧W i n σ' H') ?_ m0 ⟨0,_,_,kx,Xa,fun b J=>(fO b J).1,oh⟩;rintro n s5 ⟨i,σ5,iX,rp,sJ,wX,Eb⟩;have away:∀{α:Type}{t:Sem α}{ES:α→acW→Prop}{L3:acV→acW→Prop}{n6:acW},adi (adj B.prog B.w) B.A t ES B.xe n6→adi (adj B.prog B.w) B.A t ES L3 n6:=fun h=>adY h (fun _ _ q=>q) fun e s' z=>by rw[Ou]at z;exact z.elim
  rcases turn i n σ5 iX Eb with⟨stop,q⟩|⟨go,step⟩
  ·have d:=T.done B tC gI FT FV i [] s5 σ5 iX (ahC (adj B.prog B.w) B.A B.env fun e s'=>s8 (.ref s2.heap.objs.size) s3.heap.objs.size (.error e) s') rp (stat wX) sJ stop;rw[←tC,←gI]at d;refine bX d fun r gD⟨ay,sX⟩=>?_;subst ay;refine OU _ gD iX ?_ (d0.nr (ac3 _) ?_) (fun h' oS=>?_) q
   ·obtain⟨m,aU,_⟩:=sX.loc;rw[AI]at aU;exact⟨m,aU⟩
   ·have z:=sX.free;rw[AI]at z;exact z
   ·subst kI;exact Rd d0 fO sX oS
  ·have d:=T.item B tC gI FT FV i [] s5 σ5 iX (ahC (adj B.prog B.w) B.A B.env fun e s'=>s8 (.ref s2.heap.objs.size) s3.heap.objs.size (.error e) s') rp (stat wX) sJ go;rw[←tC,←gI]at d;refine bX d fun r gD⟨u,ay,h6⟩=>?_;subst ay;refine bX h6 fun _ ee⟨x,fJ,jY,gj,Zr,DG,OL⟩=>?_;have L9:=jY.pinned (stat OL) (T.obj _ _ DG);refine away (bX (Pb _ ee σ5 fJ x u _ L9 gj (step x fJ Zr)) fun _ iv⟨σ8,lh,L_,pn⟩=>?_);refine away (bX (PL _ iv σ8 lh _ L_ pn) fun b mM⟨L4,EM,vd⟩=>?_);have again:∀{σa:St}{f5:ag}{n6:acW},Inv B ([]++u9 aQ ee.heap) σa f5 n6→(∃eD,eD<n∧W (i+1) eD σa f5)→∃m,m<n∧∃i σ' H',Inv B [] σ' H' n6∧gF i n6.heap∧(∀b∈aQ,H' b=none)∧W i m σ' H':=fun{σa f5 n6} zt⟨eD,hm,Yj⟩=>by
    refine⟨eD,hm,i+1,σa,f5,zt.yT,T.keep _ _ _ DG fun b J o e=>(zt.pin (b,o) (adu _ (adu _ (x7 J e)))).1,fun b J=>?_,Yj⟩;obtain⟨o,e,d⟩:=T.obj _ _ DG b J;exact(zt.pin (b,o) (adu _ (adu _ (x7 J e)))).2.1
   cases b with
   |false=>exact again EM vd
   |true=>show adi _ _ (adW elt B.env) _ _ mM;refine away (bX (O9 _ mM σ8 L4 _ EM vd) fun EB n5⟨y,EK,L6,ct,ys,U,bj,Vy⟩=>?_);refine away (bX (uT _ n5 σ8 EK (.ref s2.heap.objs.size) [y] (.ref s2.heap.objs.size) [EB] (fun _ EL=>EL=upd EK s2.heap.objs.size (.lst (ys++[y]))) L6 rfl (.cons ct .nil) ⟨_,ys,y,rfl,rfl,U,bj,rfl⟩) fun _ pw⟨z,EL,L7,_,N2⟩=>?_);subst N2;exact again L7 Vy
 exact codeAny_compStart_list (loop _ (by rw[←Bv])) (T.self X.A 0 _ _ _ (T.keep 0 _ _ kW fun b J o e=>xy b o (I3 b o e)) (loop _ (by rw[←Bv])))
theorem Hm{pins:List (ac1×Obj)}{σ :St}{s:acW}{H:ag}(S:l_ X.env.scope X.N scope N nl caps)(I:Inv X pins σ H s):∀p∈scope.names,p.2=.free→∃c,X.env.cells.lookup p.1=some c:=fun p a5 e=>by
 have q:=S.free p a5 e;apply I.ok.has p.1;show X.env.scope.names.lookup p.1=some .cell∨X.env.scope.names.lookup p.1=some .free;cases au:X.env.scope.names.lookup p.1 with
 |none=>rw[au]at q;cases q
 |some k=>
  rw[au]at q
  cases k<;>first
   |exact .inl rfl
   |exact .inr rfl
   |cases q
theorem Jq(S:l_ X.env.scope X.N scope N nl caps)(ax:X.calm=true)(ak:f6 X target iter iT)(aI:∀cl C s H aQ,iZ (eI X scope N cl C s H aQ) target g)(bJ:∀cl C s H aQ,nf (eI X scope N cl C s H aQ) ifs tc)(he:∀cl C s H aQ,a4 (eI X scope N cl C s H aQ) elt te)(aD:∀x,adM iter X.env x=pure x:=by intro _;rfl):a4 X (.ListComp elt [⟨target,iter,ifs,0⟩] scope pos) (q4 iT g tc te nl caps):=by intro pins s σ H Q I h;rw[eval_ListComp];refine wpAny_comprehension_free (use:=none) rfl aD (FD (Hm S I)) S.kind S.locs ?_;refine bX (ak pins s σ H _ I h) fun v s1 h1=>bX h1 fun xq s2 h2=>?_;obtain⟨it,aQ,gF,cC,aX,e,cn,T,kW,f2,k⟩:=h2;subst e;obtain⟨W,⟨m0,oh⟩,turn⟩:=k s2.heap.objs.size (cn.bR.fresh (ac3 _));refine FG (Q:=fun H'=>Q (.ref s2.heap.objs.size) H') S ax cn T kW f2 aI bJ he oh turn (fun acc C=>compPost (adj X.prog X.w) X.A X.xe none (gr X pins σ Q) acc C) ?_;intro C s' H' aU _ lB q;obtain⟨m,aU⟩:=aU;exact⟨m,aU,fun h' oS=>⟨.ref s2.heap.objs.size,H',lB h' oS,rfl,q⟩⟩
theorem JC{i:Nat}{y:Str}{py sH:Pos}(S:l_ X.env.scope X.N scope N nl caps)(ax:X.calm=true)(b7:X.N.Nodup)(b8:X.N[i]?=some y)(av:X.env.kindOf y=some .local)(ak:f6 X target iter iT)(aI:∀cl C s H aQ,iZ (eI X scope N cl C s H aQ) target g)(bJ:∀cl C s H aQ,nf (eI X scope N cl C s H aQ) ifs tc)(he:∀cl C s H aQ,a4 (eI X scope N cl C s H aQ) elt te)(tV:afu (.ListComp elt [⟨target,iter,ifs,0⟩] scope pos) (some (.Name y py)) sH.line X.env=pure true:=by rfl)(aD:∀x,adM iter X.env x=pure x:=by intro _;rfl):cS X (.Assign [.Name y py] (.ListComp elt [⟨target,iter,ifs,0⟩] scope pos) sH) (jP (q4 iT g tc te nl caps) (g4 i)):=by
 intro pins s σ H b2 I h;rw[exec_Assign_Name_used _ _ _ _ tV];refine acU (wpAny_standAt (acU ?_));show adi _ X.A (do let _ ←comprehension (.ListComp elt [⟨target,iter,ifs,0⟩] scope pos) scope X.env _ (newList []) false (adW iter X.env) (some (agr (.Name y py) X.env))) _ _ s;refine acU (adY (wpAny_comprehension_free (use:=some (agr (.Name y py) X.env)) (Q:=fun _ s'=>pZ X pins b2 .next s') rfl aD (FD (Hm S I)) S.kind S.locs ?_) (fun _ s' aP=>ac5 (ac5 aP)) fun _ _ e=>e);refine bX (ak pins s σ H _ I h) fun v s1 h1=>bX h1 fun xq s2 h2=>?_;obtain⟨it,aQ,gF,cC,aX,e,cn,T,kW,f2,k⟩:=h2;subst e;obtain⟨W,⟨m0,oh⟩,turn⟩:=k s2.heap.objs.size (cn.bR.fresh (ac3 _));refine FG (Q:=fun H'=>b2.bL (σ.set i (some (.ref s2.heap.objs.size))) H') S ax cn T kW f2 aI bJ he oh turn (fun acc C=>compPost (adj X.prog X.w) X.A X.xe (some (agr (.Name y py) X.env)) (fun _ s'=>pZ X pins b2 .next s') acc C) ?_;intro C s' H' aU ip lB q;obtain⟨m,aU⟩:=aU;show adi _ X.A (agr (.Name y py) X.env (.ref s2.heap.objs.size)) _ _ s';have md:Inv X pins σ H' s':=lB s'.heap (Heap.SameBut.refl _ _);refine wpAny_assign_Name (Kr (v:=.ref s2.heap.objs.size) md b7 b8 (.inl av) (show RelV (V.ref _) _ from rfl) (fun km L5 PH=>?_) (.inr av));obtain⟨a,PG,U⟩:=PH;obtain⟨iC,cp,dO,e3,nj,MS⟩:=ip;have Ts:C≠a:=by
  rcases U with z|z
  ·rw[z];exact cp
  ·exact fun w=>nj y a z w.symm
 refine⟨m,aU.sameBut PG Ts,fun h' oS=>?_⟩;exact⟨_,H',L5.turned (t':=km.toks) (it:=C) (fun b o J e=>(oS.2 b J).trans e) iC cp e3 nj MS,q⟩
end
end a7
namespace bu
open PySem a7
inductive D where
 |non|aC (b:Bool)|int (i:Int)|str (x:Str)
 |tup (xs:List D)|lst (xs:List D)|cu (xs:List D)
 |eO (ks:List Key) (xs:List D)|bH (ks:List (List Key)) (xs:List D)
 |ins (c:Str) (ns:List Str) (xs:List D)
 |qg (c:Str)
 |dI (xs:List D)
def Sub(G H:ag):Prop:=∀b o,G b=some o→H b=some o
theorem Sub.refl(G:ag):Sub G G:=fun _ _ e=>e
theorem Sub.trans{G H I:ag}(a:Sub G H)(b:Sub H I):Sub G I:=fun c o e=>b c o (a c o e)
theorem Sub.gone{G H:ag}(a:Sub G H){b:ac1}(h:H b=none):G b=none:=by
 cases e:G b with
 |none=>rfl
 |some o=>rw[a b o e]at h;cases h
theorem Sub.upd{G:ag}{a:ac1}{o:dG}(h:G a=none):Sub G (upd G a o):=fun b u e=>by rw[c8 (iO e h)];exact e
theorem Sub.pG{G H:ag}{a:ac1}{o:dG}(s:Sub G H)(h:G a=none):Sub G (a7.upd H a o):=fun b u e=>by rw[c8 (iO e h)];exact s b u e
theorem Sub.both{G H:ag}{a:ac1}{o:dG}(s:Sub G H):Sub (a7.upd G a o) (a7.upd H a o):=fun b u e=>by
 by_cases J:b=a
 ·subst J;rw[dN]at e ⊢;exact e
 ·rw[c8 J]at e ⊢;exact s b u e
theorem Sub.at{G H:ag}{a:ac1}{o:dG}(s:Sub G H)(h:H a=some o):Sub (a7.upd G a o) H:=fun b u e=>by
 by_cases J:b=a
 ·subst J;rw[dN]at e;rw[h];exact e
 ·rw[c8 J]at e;exact s b u e
structure cG(G H G' H':ag):Prop where
 g:Sub G G'
 h:Sub H H'
 n:∀b,H b≠none→G' b=G b
theorem Sub.some{G H:ag}(s:Sub G H){b:ac1}(h:G b≠none):H b≠none:=fun z=>h (s.gone z)
theorem cG.refl(G H:ag):cG G H G H:=⟨Sub.refl _,Sub.refl _,fun _ _=>rfl⟩
theorem cG.trans{G H aM H1 ck aX:ag}(a:cG G H aM H1)(b:cG aM H1 ck aX):cG G H ck aX:=⟨a.g.trans b.g,a.h.trans b.h,fun c ax=>(b.n c (a.h.some ax)).trans (a.n c ax)⟩
theorem cG.lay{G H:ag}{p:ac1}{o:dG}(s:Sub G H)(a5:H p=none):cG G H (a7.upd G p o) (a7.upd H p o):=⟨Sub.upd (s.gone a5),Sub.upd a5,fun b J=>by rw[c8];intro e;subst e;exact J a5⟩
theorem cG.lay0{G H:ag}{p:ac1}{o:dG}(a5:H p=none):cG G H G (a7.upd H p o):=⟨Sub.refl _,Sub.upd a5,fun _ _=>rfl⟩
theorem cG.put{G H G' H':ag}{p:ac1}{o:dG}(u:cG G H G' H')(a5:H p=none)(aI:G' p=none):cG G H (a7.upd G' p o) H':=⟨u.g.trans (Sub.upd aI),u.h,fun b J=>by
 rw[c8]
 ·exact u.n b J
 ·intro e;subst e;exact J a5⟩
theorem fQ.mono{G H:ag}(s:Sub G H){a:ac1}{u:dG}(r:fQ G a u):fQ H a u:=by
 rcases r with r|⟨o,r⟩
 ·exact .inl (s _ _ r)
 ·exact .inr ⟨o,s _ _ r⟩
theorem bQ.mono{K:PySem.W.Frag}{G H:ag}(s:Sub G H){a:ac1}{xs:List V}(r:bQ K G a xs):bQ K H a xs:=by
 rcases r with r|r
 ·exact .inl (fQ.mono s r)
 ·exact .inr r
theorem b_.mono{K:PySem.W.Frag}{G H:ag}(s:Sub G H){a:ac1}{xs:List V}(r:b_ K G a xs):b_ K H a xs:=by
 rcases r with r|r
 ·exact .inl (fQ.mono s r)
 ·exact .inr r
def gQ(K:PySem.W.Frag)(c:Str)(C:ac1):Prop:=PySem.W.nsIn K ada c=some (some (.ref C))
mutual
noncomputable def At(K:PySem.W.Frag)(G:ag):D→V→Prop
 |.non,v=>v=.non
 |.aC b,v=>v=.aC b
 |.int i,v=>v=.int i
 |.str x,v=>v=.str x
 |.tup ds,v=>∃a xs,v=.ref a∧G a=some (.tup xs)∧aT K G ds xs
 |.dI ds,v=>∃a xs,v=.ref a∧b_ K G a xs∧aT K G ds xs
 |.lst ds,v=>∃a xs,v=.ref a∧G a=some (.lst xs)∧aT K G ds xs
 |.cu ds,v=>∃a xs,v=.ref a∧bQ K G a xs∧aT K G ds xs
 |.eO ks ds,v=>∃a xs,v=.ref a∧G a=some (.eO xs)∧xs.map (·.1)=ks∧aT K G ds (xs.map (·.2))
 |.bH ks ds,v=>∃a xs,v=.ref a∧G a=some (.bH xs)∧xs.map (·.1)=ks∧aT K G ds (xs.map (·.2))
 |.ins c ns ds,v=>∃a bA xs,v=.ref a∧(∃C,gQ K c C∧G a=some (.ins C bA xs))∧xs.map (·.1)=ns∧aT K G ds (xs.map (·.2))
 |.qg c,v=>∃(a:ac1)(xs:List V),v=.ref a∧(∃C,gQ K c C∧G a=some (Oq a (.ref C)))∧xs=[]
noncomputable def aT(K:PySem.W.Frag)(G:ag):List D→List V→Prop
 |[],vs=>vs=[]
 |d::ds,vs=>∃v r,vs=v::r∧At K G d v∧aT K G ds r
end
mutual
theorem At.mono{K:PySem.W.Frag}{G H:ag}(s:Sub G H):∀{d:D}{v:V},At K G d v→At K H d v
 |.non,_,h=>by simpa only[At]using h
 |.aC _,_,h=>by simpa only[At]using h
 |.int _,_,h=>by simpa only[At]using h
 |.str _,_,h=>by simpa only[At]using h
 |.tup _,_,h=>by simp only[At]at h ⊢;obtain⟨a,xs,e,q,r⟩:=h;exact⟨a,xs,e,s _ _ q,aT.mono s r⟩
 |.dI _,_,h=>by simp only[At]at h ⊢;obtain⟨a,xs,e,q,r⟩:=h;exact⟨a,xs,e,b_.mono s q,aT.mono s r⟩
 |.lst _,_,h=>by simp only[At]at h ⊢;obtain⟨a,xs,e,q,r⟩:=h;exact⟨a,xs,e,s _ _ q,aT.mono s r⟩
 |.cu _,_,h=>by simp only[At]at h ⊢;obtain⟨a,xs,e,q,r⟩:=h;exact⟨a,xs,e,bQ.mono s q,aT.mono s r⟩
 |.eO _ _,_,h=>by simp only[At]at h ⊢;obtain⟨a,xs,e,q,k,r⟩:=h;exact⟨a,xs,e,s _ _ q,k,aT.mono s r⟩
 |.bH _ _,_,h=>by simp only[At]at h ⊢;obtain⟨a,xs,e,q,k,r⟩:=h;exact⟨a,xs,e,s _ _ q,k,aT.mono s r⟩
 |.ins _ _ _,_,h=>by simp only[At]at h ⊢;obtain⟨a,bA,xs,e,⟨C,cp,q⟩,k,r⟩:=h;exact⟨a,bA,xs,e,⟨C,cp,s _ _ q⟩,k,aT.mono s r⟩
 |.qg _,_,h=>by simp only[At]at h ⊢;obtain⟨a,xs,e,⟨C,cp,q⟩,r⟩:=h;exact⟨a,xs,e,⟨C,cp,s _ _ q⟩,r⟩
theorem aT.mono{K:PySem.W.Frag}{G H:ag}(s:Sub G H):∀{ds:List D}{vs:List V},aT K G ds vs→aT K H ds vs
 |[],_,h=>by simpa only[aT]using h
 |_::_,_,h=>by simp only[aT]at h ⊢;obtain⟨v,r,e,q,t⟩:=h;exact⟨v,r,e,At.mono s q,aT.mono s t⟩
end
section
variable{K:PySem.W.Frag}{G:ag}
theorem aT.nil:aT K G [] []:=by simp only[aT]
theorem aT.cons{d:D}{ds:List D}{v:V}{vs:List V}(h:At K G d v)(t:aT K G ds vs):aT K G (d::ds) (v::vs):=by simp only[aT];exact⟨v,vs,rfl,h,t⟩
theorem aT.length:∀{ds:List D}{vs:List V},aT K G ds vs→ds.length=vs.length
 |[],_,h=>by simp only[aT]at h;subst h;rfl
 |_::_,_,h=>by simp only[aT]at h;obtain⟨v,r,rfl,_,t⟩:=h;simp[aT.length t]
theorem aT.get:∀{ds:List D}{vs:List V}{i:Nat}{d:D},aT K G ds vs→ds[i]?=some d→∃v,vs[i]?=some v∧At K G d v
 |[],_,_,_,_,e=>by simp at e
 |_::_,_,0,_,h,e=>by simp only[aT]at h;obtain⟨v,r,rfl,q,t⟩:=h;simp at e;subst e;exact⟨v,by simp,q⟩
 |_::_,_,i+1,d,h,e=>by simp only[aT]at h;obtain⟨v,r,rfl,q,t⟩:=h;obtain⟨u,h1,h2⟩:=aT.get (i:=i) (d:=d) t (by simpa using e);exact⟨u,by simpa using h1,h2⟩
theorem aT.oL{ds:List D}{vs:List V}{i:Nat}{v:V}(h:aT K G ds vs)(e:vs[i]?=some v):∃d,ds[i]?=some d∧At K G d v:=by
 have ak:i<ds.length:=by rw[h.length];exact(List.getElem?_eq_some_iff.mp e).1
 obtain⟨u,h1,h2⟩:=h.get (acT ak);rw[e]at h1;cases h1;exact⟨_,acT ak,h2⟩
theorem aT.append:∀{ds ah:List D}{vs ws:List V},aT K G ds vs→aT K G ah ws→aT K G (ds++ah) (vs++ws)
 |[],_,_,_,h,t=>by simp only[aT]at h;subst h;exact t
 |_::_,_,_,_,h,t=>by simp only[aT]at h;obtain⟨v,r,rfl,q,s⟩:=h;exact .cons q (aT.append s t)
theorem aT.take:∀(n:Nat){ds:List D}{vs:List V},aT K G ds vs→aT K G (ds.take n) (vs.take n)
 |0,_,_,_=>by simpa using aT.nil
 |_+1,[],_,h=>by simp only[aT]at h;subst h;simpa using aT.nil
 |n+1,_::_,_,h=>by simp only[aT]at h;obtain⟨v,r,rfl,q,t⟩:=h;exact .cons q (aT.take n t)
theorem aT.drop:∀(n:Nat){ds:List D}{vs:List V},aT K G ds vs→aT K G (ds.drop n) (vs.drop n)
 |0,_,_,h=>by simpa using h
 |_+1,[],_,h=>by simp only[aT]at h;subst h;simpa using aT.nil
 |n+1,_::_,_,h=>by simp only[aT]at h;obtain⟨v,r,rfl,q,t⟩:=h;simpa using aT.drop n t
theorem aT.snoc{ds:List D}{vs:List V}{d:D}{v:V}(h:aT K G ds vs)(q:At K G d v):aT K G (ds++[d]) (vs++[v]):=h.append (.cons q .nil)
end
inductive R(α:Type) where
 |ok (a:α)|exc (c:Str)|bad
namespace R
def bind{α β:Type}:R α→(α→R β)→R β
 |.ok a,k=>k a
 |.exc c,_=>.exc c
 |.bad,_=>.bad
def map{α β:Type}(f:α→β)(r:R α):R β:=r.bind fun a=>.ok (f a)
theorem bo{α β:Type}(a:α)(k:α→R β):(R.ok a).bind k=k a:=rfl
end R
inductive T where
 |ao (d:D)|lst (aL:List T)|tup (aL:List T)
mutual
noncomputable def toD:T→D
 |.ao d=>d
 |.lst aL=>.lst (js aL)
 |.tup aL=>.tup (js aL)
noncomputable def js:List T→List D
 |[]=>[]
 |t::aL=>toD t::js aL
end
mutual
noncomputable def aQ(H:ag):T→V→List ac1
 |.ao _,_=>[]
 |.lst aL,v=>match v with
  |.ref a=>match H a with
   |some (.lst xs)=>a::c0 H aL xs
   |_=>[]
  |_=>[]
 |.tup aL,v=>match v with
  |.ref a=>match H a with
   |some (.tup xs)=>a::c0 H aL xs
   |_=>[]
  |_=>[]
noncomputable def c0(H:ag):List T→List V→List ac1
 |[],_=>[]
 |t::aL,vs=>match vs with
  |v::r=>aQ H t v++c0 H aL r
  |[]=>[]
end
mutual
noncomputable def cE(K:PySem.W.Frag)(G H:ag):T→V→Prop
 |.ao d,v=>At K G d v
 |.lst aL,v=>∃a xs,v=.ref a∧H a=some (.lst xs)∧cw K G H aL xs
 |.tup aL,v=>∃a xs,v=.ref a∧H a=some (.tup xs)∧cw K G H aL xs
noncomputable def cw(K:PySem.W.Frag)(G H:ag):List T→List V→Prop
 |[],vs=>vs=[]
 |t::aL,vs=>∃v r,vs=v::r∧cE K G H t v∧cw K G H aL r
end
section
variable{K:PySem.W.Frag}{G G' H H' P:ag}
theorem fU{a:ac1}{xs:List V}{aL:List T}(q:H a=some (.lst xs)):aQ H (.lst aL) (.ref a)=a::c0 H aL xs:=by simp only[aQ,q]
theorem nt{a:ac1}{xs:List V}{aL:List T}(q:H a=some (.tup xs)):aQ H (.tup aL) (.ref a)=a::c0 H aL xs:=by simp only[aQ,q]
theorem hk{t:T}{aL:List T}{v:V}{r:List V}:c0 H (t::aL) (v::r)=aQ H t v++c0 H aL r:=by simp only[c0]
theorem mu{vs:List V}:c0 H [] vs=[]:=by simp only[c0]
mutual
theorem cE.mono(bt:Sub G G'):∀{t:T}{v:V},cE K G H t v→cE K G' H t v
 |.ao _,_,h=>by simp only[cE]at h ⊢;exact h.mono bt
 |.lst _,_,h=>by simp only[cE]at h ⊢;obtain⟨a,xs,e,q,r⟩:=h;exact⟨a,xs,e,q,cw.mono bt r⟩
 |.tup _,_,h=>by simp only[cE]at h ⊢;obtain⟨a,xs,e,q,r⟩:=h;exact⟨a,xs,e,q,cw.mono bt r⟩
theorem cw.mono(bt:Sub G G'):∀{aL:List T}{vs:List V},cw K G H aL vs→cw K G' H aL vs
 |[],_,h=>by simpa only[cw]using h
 |_::_,_,h=>by simp only[cw]at h ⊢;obtain⟨v,r,e,q,t⟩:=h;exact⟨v,r,e,cE.mono bt q,cw.mono bt t⟩
end
mutual
theorem cE.keep:∀{t:T}{v:V},(∀b∈aQ H t v,H' b=H b)→cE K G H t v→cE K G H' t v∧aQ H' t v=aQ H t v
 |.ao _,_,_,h=>by simp only[cE]at h;exact⟨by simp only[cE];exact h,by simp only[aQ]⟩
 |.lst _,_,k,h=>by simp only[cE]at h;obtain⟨a,xs,rfl,q,r⟩:=h;rw[fU q]at k;have mL:H' a=some (.lst xs):=(k a (by simp)).trans q;obtain⟨aq,bp⟩:=cw.keep (fun b J=>k b (ac7 _ J)) r;exact⟨by simp only[cE];exact⟨a,xs,rfl,mL,aq⟩,by rw[fU mL,fU q,bp]⟩
 |.tup _,_,k,h=>by simp only[cE]at h;obtain⟨a,xs,rfl,q,r⟩:=h;rw[nt q]at k;have mL:H' a=some (.tup xs):=(k a (by simp)).trans q;obtain⟨aq,bp⟩:=cw.keep (fun b J=>k b (ac7 _ J)) r;exact⟨by simp only[cE];exact⟨a,xs,rfl,mL,aq⟩,by rw[nt mL,nt q,bp]⟩
theorem cw.keep:∀{aL:List T}{vs:List V},(∀b∈c0 H aL vs,H' b=H b)→cw K G H aL vs→cw K G H' aL vs∧c0 H' aL vs=c0 H aL vs
 |[],_,_,h=>⟨by simpa only[cw]using h,by simp only[c0]⟩
 |_::_,_,k,h=>by simp only[cw]at h;obtain⟨v,r,rfl,q,t⟩:=h;rw[hk]at k;obtain⟨bb,bN⟩:=cE.keep (fun b J=>k b (aeg _ J)) q;obtain⟨t1,d7⟩:=cw.keep (fun b J=>k b (adu _ J)) t;exact⟨by simp only[cw];exact⟨v,r,rfl,bb,t1⟩,by rw[hk,hk,bN,d7]⟩
end
mutual
theorem cE.some:∀{t:T}{v:V},cE K G H t v→∀b∈aQ H t v,H b≠none
 |.ao _,_,_=>by intro b J;simp[aQ]at J
 |.lst _,_,h=>by
  simp only[cE]at h;obtain⟨a,xs,rfl,q,r⟩:=h;rw[fU q];intro b J;rcases List.mem_cons.mp J with rfl|J
  ·rw[q];exact fun z=>nomatch z
  ·exact cw.some r b J
 |.tup _,_,h=>by
  simp only[cE]at h;obtain⟨a,xs,rfl,q,r⟩:=h;rw[nt q];intro b J;rcases List.mem_cons.mp J with rfl|J
  ·rw[q];exact fun z=>nomatch z
  ·exact cw.some r b J
theorem cw.some:∀{aL:List T}{vs:List V},cw K G H aL vs→∀b∈c0 H aL vs,H b≠none
 |[],_,_=>by intro b J;simp[c0]at J
 |_::_,_,h=>by
  simp only[cw]at h;obtain⟨v,r,rfl,q,t⟩:=h;rw[hk];intro b J;rcases List.mem_append.mp J with J|J
  ·exact cE.some q b J
  ·exact cw.some t b J
end
mutual
theorem cE.view(bt:Sub G P):∀{t:T}{v:V},(∀a∈aQ H t v,P a=H a)→cE K G H t v→At K P (toD t) v
 |.ao _,_,_,h=>by simp only[cE,toD]at h ⊢;exact h.mono bt
 |.lst _,_,k,h=>by simp only[cE]at h;obtain⟨a,xs,rfl,q,r⟩:=h;rw[fU q]at k;simp only[toD,At];exact⟨a,xs,rfl,by rw[k a (by simp)];exact q,cw.view bt (fun b J=>k b (ac7 _ J)) r⟩
 |.tup _,_,k,h=>by simp only[cE]at h;obtain⟨a,xs,rfl,q,r⟩:=h;rw[nt q]at k;simp only[toD,At];exact⟨a,xs,rfl,by rw[k a (by simp)];exact q,cw.view bt (fun b J=>k b (ac7 _ J)) r⟩
theorem cw.view(bt:Sub G P):∀{aL:List T}{vs:List V},(∀a∈c0 H aL vs,P a=H a)→cw K G H aL vs→aT K P (js aL) vs
 |[],_,_,h=>by simp only[cw,js,aT]at h ⊢;exact h
 |_::_,_,k,h=>by simp only[cw]at h;obtain⟨v,r,rfl,q,t⟩:=h;rw[hk]at k;simp only[js,aT];exact⟨v,r,rfl,cE.view bt (fun b J=>k b (aeg _ J)) q,cw.view bt (fun b J=>k b (adu _ J)) t⟩
end
theorem cE.RN{a:ac1}{o:dG}{t:T}{v:V}(n:a∉aQ H t v)(h:cE K G H t v):cE K G (upd H a o) t v∧aQ (upd H a o) t v=aQ H t v:=h.keep fun b J=>c8 fun z=>n (z▸J)
end
inductive ky where
 |lst (ds:List D)|bH (ks:List (List Key)) (ds:List D)|ins (c:Str) (ns:List Str) (ds:List D)
noncomputable def mh(K:PySem.W.Frag)(G:ag):ky→dG→Prop
 |.lst ds,aH=>∃xs,aH=.lst xs∧aT K G ds xs
 |.bH ks ds,aH=>∃xs,aH=.bH xs∧xs.map (·.1)=ks∧aT K G ds (xs.map (·.2))
 |.ins c ns ds,aH=>∃C bA xs,gQ K c C∧aH=.ins C bA xs∧xs.map (·.1)=ns∧aT K G ds (xs.map (·.2))
theorem mh.mono{K:PySem.W.Frag}{G H:ag}(s:Sub G H):∀{o:ky}{aH:dG},mh K G o aH→mh K H o aH
 |.lst _,_,⟨xs,e,q⟩=>⟨xs,e,q.mono s⟩
 |.bH _ _,_,⟨xs,e,k,q⟩=>⟨xs,e,k,q.mono s⟩
 |.ins _ _ _,_,⟨C,bA,xs,c,e,k,q⟩=>⟨C,bA,xs,c,e,k,q.mono s⟩
def ji:ky→D
 |.lst ds=>.lst ds
 |.bH ks ds=>.bH ks ds
 |.ins c ns ds=>.ins c ns ds
theorem mh.at{K:PySem.W.Frag}{G:ag}{o:ky}{aH:dG}{a:ac1}(h:mh K G o aH)(e:G a=some aH):At K G (ji o) (.ref a):=by
 cases o with
 |lst ds=>obtain⟨xs,rfl,q⟩:=h;simp only[ji,At];exact⟨a,xs,rfl,e,q⟩
 |bH ks ds=>obtain⟨xs,rfl,k,q⟩:=h;simp only[ji,At];exact⟨a,xs,rfl,e,k,q⟩
 |ins c ns ds=>obtain⟨C,bA,xs,cp,rfl,k,q⟩:=h;simp only[ji,At];exact⟨a,bA,xs,rfl,⟨C,cp,e⟩,k,q⟩
inductive cJ where
 |un|ao (d:D)|ob (o:ky)|cy (t:T)|dg (k:Nat) (t:T)
abbrev cJ.br(ds:List D):cJ:=.ob (.lst ds)
abbrev ai:=List cJ
structure bg where
 K:PySem.W.Frag
 bD:ag
 aR:ag
 EX:Str→ag→Prop
 pin:Nat→Option V
def gC:Nat→Option V:=fun _=>none
structure d9(F:bg)(G H:ag):Prop where
 sub:Sub G H
 dh:Sub F.bD G
 bw:Sub F.aR H
 new:∀b,F.aR b≠none→G b=F.bD b
structure p1(F:bg)(G H:ag)(t:T)(v:V):Prop where
 at_:cE F.K G H t v
 bI:(aQ H t v).Nodup
 own:∀b∈aQ H t v,G b=none∧F.aR b=none
noncomputable def lq(F:bg)(G H:ag)(o:Option V):cJ→Prop
 |.un=>True
 |.ao d=>∃v,o=some v∧At F.K G d v
 |.ob ob=>∃a aH,o=some (.ref a)∧H a=some aH∧G a=none∧F.aR a=none∧mh F.K G ob aH
 |.cy t=>∃v,o=some v∧p1 F G H t v
 |.dg k t=>∃v,o=some v∧p1 F G H t v∧F.pin k=some v
noncomputable def fw(H:ag):cJ→Option V→ac1→Prop
 |.un,_,_=>False
 |.ao _,_,_=>False
 |.ob _,o,a=>o=some (.ref a)
 |.cy t,o,a=>∃v,o=some v∧a∈aQ H t v
 |.dg _ t,o,a=>∃v,o=some v∧a∈aQ H t v
structure Rel(F:bg)(G H:ag)(σ :St)(ρ:ai):Prop where
 az:d9 F G H
 len: σ.length=ρ.length
 cB:∀(i:Nat)(s:cJ),ρ[i]?=some s→∃o,σ[i]?=some o∧lq F G H o s
 kD:∀(i j:Nat)(a:ac1)(s s':cJ)(o cc:Option V),ρ[i]?=some s→ρ[j]?=some s'→ σ[i]?=some o→ σ[j]?=some cc→fw H s o a→fw H s' cc a→i=j
noncomputable def b3(H:ag)(σ :St)(ρ:ai)(a:ac1):Prop:=∃(i:Nat)(s:cJ)(o:Option V),ρ[i]?=some s∧ σ[i]?=some o∧fw H s o a
theorem sG{α:Type}{l:List α}{i:Nat}{x:α}(e:l[i]?=some x):l.set i x=l:=by
 apply List.ext_getElem?;intro j;rw[agf];by_cases h:i=j
 ·subst h;rw[if_pos rfl,if_pos (List.getElem?_eq_some_iff.mp e).1];exact e.symm
 ·simp[h]
section
variable{F:bg}{G G' H H':ag}{σ :St}{ρ:ai}
theorem b3.ob{a:ac1}{i:Nat}{o:ky}(ae:ρ[i]?=some (.ob o))(au: σ[i]?=some (some (.ref a))):b3 H σ ρ a:=⟨i,_,_,ae,au,rfl⟩
theorem lq.keep{o:Option V}{s:cJ}(h:lq F G H o s)(bt:Sub G G')(k:∀a,fw H s o a→H' a=H a∧G' a=none):lq F G' H' o s∧(∀a,fw H' s o a→fw H s o a):=by
 cases s with
 |un=>exact⟨trivial,fun _ z=>z⟩
 |ao d=>obtain⟨v,au,a⟩:=h;exact⟨⟨v,au,a.mono bt⟩,fun _ z=>z⟩
 |ob ds=>obtain⟨a,xs,au,h1,h2,h3,h4⟩:=h;exact⟨⟨a,xs,au,by rw[(k a au).1];exact h1,(k a au).2,h3,h4.mono bt⟩,fun _ z=>z⟩
 |cy t=>
  obtain⟨v,au,bb,bN,d6⟩:=h;obtain⟨dq,dj⟩:=bb.keep fun b J=>(k b ⟨v,au,J⟩).1;refine⟨⟨v,au,⟨dq.mono bt,by rw[dj];exact bN,fun b J=>?_⟩⟩,fun a z=>?_⟩
  ·rw[dj]at J;exact⟨(k b ⟨v,au,J⟩).2,(d6 b J).2⟩
  ·obtain⟨u,bE,J⟩:=z;rw[au]at bE;cases bE;rw[dj]at J;exact⟨v,au,J⟩
 |dg n t=>
  obtain⟨v,au,⟨bb,bN,d6⟩,a5⟩:=h;obtain⟨dq,dj⟩:=bb.keep fun b J=>(k b ⟨v,au,J⟩).1;refine⟨⟨v,au,⟨dq.mono bt,by rw[dj];exact bN,fun b J=>?_⟩,a5⟩,fun a z=>?_⟩
  ·rw[dj]at J;exact⟨(k b ⟨v,au,J⟩).2,(d6 b J).2⟩
  ·obtain⟨u,bE,J⟩:=z;rw[au]at bE;cases bE;rw[dj]at J;exact⟨v,au,J⟩
theorem lq.foot{o:Option V}{s:cJ}(h:lq F G H o s){a:ac1}(f:fw H s o a):H a≠none∧G a=none∧F.aR a=none:=by
 cases s with
 |un=>exact f.elim
 |ao d=>exact f.elim
 |ob ds=>obtain⟨b,xs,au,h1,h2,h3,h4⟩:=h;have f:o=some (.ref a):=f;rw[au]at f;cases f;exact⟨by rw[h1];exact(fun z=>nomatch z),h2,h3⟩
 |cy t=>obtain⟨v,au,bb,bN,d6⟩:=h;obtain⟨u,bE,J⟩:=f;rw[au]at bE;cases bE;exact⟨bb.some a J,d6 a J⟩
 |dg n t=>obtain⟨v,au,⟨bb,bN,d6⟩,_⟩:=h;obtain⟨u,bE,J⟩:=f;rw[au]at bE;cases bE;exact⟨bb.some a J,d6 a J⟩
theorem Rel.foot(r:Rel F G H σ ρ){a:ac1}(h:b3 H σ ρ a):H a≠none∧G a=none∧F.aR a=none:=by obtain⟨i,s,o,ae,au,f⟩:=h;obtain⟨cc,bE,q⟩:=r.cB i s ae;rw[au]at bE;cases bE;exact q.foot f
theorem Rel.over{F':bg}(r:Rel F G H σ ρ)(aY:F'.K=F.K)(az:d9 F' G' H')(bt:Sub G G')(k:∀a,b3 H σ ρ a→H' a=H a∧G' a=none∧F'.aR a=none)(hP:F'.pin=F.pin:=by rfl):Rel F' G' H' σ ρ:=by
 have one:∀(i:Nat)(s:cJ),ρ[i]?=some s→∃o,σ[i]?=some o∧lq F' G' H' o s∧(∀a,fw H' s o a→fw H s o a):=fun i s e=>by
  obtain⟨o,ae,q⟩:=r.cB i s e;obtain⟨bb,bN⟩:=q.keep bt fun a f=>⟨(k a ⟨i,s,o,e,ae,f⟩).1,(k a ⟨i,s,o,e,ae,f⟩).2.1⟩;refine⟨o,ae,?_,bN⟩;cases s with
  |un=>trivial
  |ao d=>obtain⟨v,au,a⟩:=bb;exact⟨v,au,by rw[aY];exact a⟩
  |ob ds=>obtain⟨a,xs,au,h1,h2,h3,h4⟩:=bb;exact⟨a,xs,au,h1,h2,(k a ⟨i,_,o,e,ae,au⟩).2.2,by rw[aY];exact h4⟩
  |cy t=>obtain⟨v,au,dq,dj,dZ⟩:=bb;exact⟨v,au,by rw[aY];exact dq,dj,fun b J=>⟨(dZ b J).1,(k b ⟨i,_,o,e,ae,bN b ⟨v,au,J⟩⟩).2.2⟩⟩
  |dg n t=>obtain⟨v,au,⟨dq,dj,dZ⟩,k8⟩:=bb;exact⟨v,au,⟨by rw[aY];exact dq,dj,fun b J=>⟨(dZ b J).1,(k b ⟨i,_,o,e,ae,bN b ⟨v,au,J⟩⟩).2.2⟩⟩,by rw[hP];exact k8⟩
 refine⟨az,r.len,fun i s e=>let⟨o,ae,q,_⟩:=one i s e;⟨o,ae,q⟩,fun i j a s s' o cc ae au bE c3 f1 f2=>?_⟩;obtain⟨u,bl,_,a_⟩:=one i s ae;rw[bE]at bl;cases bl;obtain⟨u,h_,_,jw⟩:=one j s' au;rw[c3]at h_;cases h_;exact r.kD i j a s s' o cc ae au bE c3 (a_ a f1) (jw a f2)
theorem Rel.grow(r:Rel F G H σ ρ)(bt:Sub G G')(WL:Sub G' H')(bw:Sub H H')(nw:∀b,H b≠none→G' b=G b):Rel F G' H' σ ρ:=by
 refine r.over rfl ⟨WL,r.az.dh.trans bt,r.az.bw.trans bw,fun b J=>?_⟩ bt fun a U=>?_
 ·rw[nw b (r.az.bw.some J)];exact r.az.new b J
 ·obtain⟨h1,h2,h3⟩:=r.foot U;refine⟨?_,(nw a h1).trans h2,h3⟩;cases e:H a with
  |none=>exact absurd e h1
  |some o=>exact bw a o e
theorem Rel.lay(r:Rel F G H σ ρ){p:ac1}{o:dG}(a5:H p=none):Rel F (upd G p o) (upd H p o) σ ρ:=by have OQ:G p=none:=r.az.sub.gone a5;refine r.grow (Sub.upd OQ) (Sub.both r.az.sub) (Sub.upd a5) fun b J=>?_;rw[c8];intro e;subst e;exact J a5
theorem Rel.lay0(r:Rel F G H σ ρ){p:ac1}{o:dG}(a5:H p=none):Rel F G (upd H p o) σ ρ:=
 r.grow (Sub.refl _) (Sub.pG r.az.sub (r.az.sub.gone a5)) (Sub.upd a5) fun _ _=>rfl
theorem Rel.take(r:Rel F G H σ ρ){p:ac1}{o:dG}(a5:H p=some o)(aI:G p=none)(h0:F.aR p=none)(no:¬b3 H σ ρ p):Rel F (upd G p o) H σ ρ:=by
 refine r.over rfl ⟨Sub.at r.az.sub a5,r.az.dh.trans (Sub.upd aI),r.az.bw,fun b J=>?_⟩ (Sub.upd aI) fun a U=>?_
 ·rw[c8]
  ·exact r.az.new b J
  ·intro e;subst e;exact J h0
 ·obtain⟨h1,h2,h3⟩:=r.foot U;exact⟨rfl,by rw[c8 (fun z=>no (by rw[←z];exact U))];exact h2,h3⟩
theorem Rel.ao(r:Rel F G H σ ρ){i:Nat}{d:D}(e:ρ[i]?=some (.ao d)):∃v,σ[i]?=some (some v)∧At F.K G d v:=by obtain⟨o,ae,v,rfl,a⟩:=r.cB i _ e;exact⟨v,ae,a⟩
theorem Rel.obj(r:Rel F G H σ ρ){i:Nat}{o:ky}(e:ρ[i]?=some (.ob o)):∃a aH,σ[i]?=some (some (.ref a))∧H a=some aH∧G a=none∧F.aR a=none∧mh F.K G o aH:=by obtain⟨v,ae,a,aH,rfl,h1,h2,h3,h4⟩:=r.cB i _ e;exact⟨a,aH,ae,h1,h2,h3,h4⟩
theorem Rel.own{G H:ag}{σ :St}{ρ:ai}(r:Rel F G H σ ρ){i:Nat}{ds:List D}(e:ρ[i]?=some (.br ds)):∃a xs,σ[i]?=some (some (.ref a))∧H a=some (.lst xs)∧G a=none∧F.aR a=none∧aT F.K G ds xs:=by obtain⟨a,aH,ae,h1,h2,h3,xs,rfl,h4⟩:=r.obj e;exact⟨a,xs,ae,h1,h2,h3,h4⟩
theorem Rel.tree{G H:ag}{σ :St}{ρ:ai}(r:Rel F G H σ ρ){i:Nat}{t:T}(e:ρ[i]?=some (.cy t)):∃v,σ[i]?=some (some v)∧p1 F G H t v:=by obtain⟨o,ae,v,rfl,a⟩:=r.cB i _ e;exact⟨v,ae,a⟩
theorem get_set{α:Type}{l:List α}{i j:Nat}{x y:α}(e:(l.set i x)[j]?=some y):(i=j∧y=x)∨(i≠j∧l[j]?=some y):=by
 rw[agf]at e;by_cases h:i=j
 ·rw[if_pos h]at e
  split at e
  ·cases e;exact .inl ⟨h,rfl⟩
  ·cases e
 ·rw[if_neg h]at e;exact .inr ⟨h,e⟩
theorem Rel.n8(r:Rel F G H σ ρ){i:Nat}{s:cJ}{o:Option V}(ak:i<ρ.length)(q:lq F G H o s)(no:∀a,fw H s o a→∀(j:Nat)(s':cJ)(cc:Option V),j≠i→ρ[j]?=some s'→ σ[j]?=some cc→¬fw H s' cc a):Rel F G H (σ.set i o) (ρ.set i s):=by
 have aD:i< σ.length:=by rw[r.len];exact ak
 refine⟨r.az,by simp[r.len],fun j s e=>?_,fun j k b s1 s2 cQ cf ae au bE c3 f1 f2=>?_⟩
 ·rcases get_set e with⟨rfl,rfl⟩|⟨ne,e⟩
  ·exact⟨o,by simp[aD],q⟩
  ·rw[adP ne];exact r.cB j s e
 ·rcases get_set ae with⟨bB,bl⟩|⟨dP,d8⟩
  ·subst bB bl;rw[adX aD]at bE;cases bE;rcases get_set au with⟨bz,a_⟩|⟨dv,ff⟩
   ·exact bz
   ·rw[adP dv]at c3;exact absurd f2 (no b f1 k s2 cf (afA dv) ff c3)
  ·rw[adP dP]at bE;rcases get_set au with⟨bz,a_⟩|⟨dv,ff⟩
   ·subst bz a_;rw[adX aD]at c3;cases c3;exact absurd f1 (no b f2 j s1 cQ (afA dP) d8 bE)
   ·rw[adP dv]at c3;exact r.kD j k b s1 s2 cQ cf d8 ff bE c3 f1 f2
theorem Rel.set(r:Rel F G H σ ρ){i:Nat}{d:D}{v:V}(ak:i<ρ.length)(a:At F.K G d v):Rel F G H (σ.set i (some v)) (ρ.set i (.ao d)):=
 r.n8 ak ⟨v,rfl,a⟩ fun _ f=>f.elim
theorem Rel.setB(r:Rel F G H σ ρ){i:Nat}{ob:ky}{a:ac1}{aH:dG}(ak:i<ρ.length)(U:H a=some aH)(aI:G a=none)(h0:F.aR a=none)(q:mh F.K G ob aH)(no:∀(j:Nat)(s:cJ)(o:Option V),j≠i→ρ[j]?=some s→ σ[j]?=some o→¬fw H s o a):Rel F G H (σ.set i (some (.ref a))) (ρ.set i (.ob ob)):=
 r.n8 ak ⟨a,aH,rfl,U,aI,h0,q⟩ fun b f=>by have f:some (V.ref a)=some (.ref b):=f;cases f;exact no
theorem Rel.WH(r:Rel F G H σ ρ){i:Nat}{ds:List D}{a:ac1}{xs:List V}(ak:i<ρ.length)(U:H a=some (.lst xs))(aI:G a=none)(h0:F.aR a=none)(q:aT F.K G ds xs)(no:∀(j:Nat)(s:cJ)(o:Option V),j≠i→ρ[j]?=some s→ σ[j]?=some o→¬fw H s o a):Rel F G H (σ.set i (some (.ref a))) (ρ.set i (.br ds)):=r.setB ak U aI h0 ⟨xs,rfl,q⟩ no
theorem Rel.B9(r:Rel F G H σ ρ){i:Nat}{s s':cJ}{o:Option V}{a:ac1}{aH:dG}(e:ρ[i]?=some s)(aj: σ[i]?=some o)(fS:fw H s o a)(q:lq F G (upd H a aH) o s')(f:∀b,fw (upd H a aH) s' o b→fw H s o b∨¬b3 H σ ρ b) :
  Rel F G (upd H a aH) σ (ρ.set i s'):=by
 have ak:i<ρ.length:=(List.getElem?_eq_some_iff.mp e).1;obtain⟨h1,h2,h3⟩:=r.foot ⟨i,s,o,e,aj,fS⟩;have yg:∀(j:Nat)(t:cJ),i≠j→ρ[j]?=some t→∃u,σ[j]?=some u∧lq F G (upd H a aH) u t∧(∀b,fw (upd H a aH) t u b→fw H t u b):=fun j t ne z=>by obtain⟨u,bl,a_⟩:=r.cB j t z;have na:¬fw H t u a:=fun w=>ne (r.kD i j a s t o u e z aj bl fS w);obtain⟨bb,bN⟩:=a_.keep (H':=upd H a aH) (Sub.refl G) fun b eW=>⟨c8 fun w=>na (w▸eW),(a_.foot eW).2.1⟩;exact⟨u,bl,bb,bN⟩
 refine⟨⟨Sub.pG r.az.sub h2,r.az.dh,fun c u z=>?_,r.az.new⟩,by simp[r.len],fun j t z=>?_,fun j k c s1 s2 cQ cf bE c3 gZ i4 f1 f2=>?_⟩
 ·rw[c8 (iO z h3)];exact r.az.bw c u z
 ·rcases get_set z with⟨rfl,rfl⟩|⟨ne,z⟩
  ·exact⟨o,aj,q⟩
  ·obtain⟨u,bl,a_,_⟩:=yg j t ne z;exact⟨u,bl,a_⟩
 ·rcases get_set bE with⟨bB,bl⟩|⟨dP,ra⟩
  ·subst bB bl;rw[aj]at gZ;cases gZ;rcases get_set c3 with⟨bz,a_⟩|⟨dv,pI⟩
   ·exact bz
   ·obtain⟨u,d8,_,ff⟩:=yg k s2 dv pI;rw[i4]at d8;cases d8;have g2:=ff c f2;rcases f c f1 with g1|g1
    ·exact r.kD i k c s s2 o cf e pI aj i4 g1 g2
    ·exact absurd ⟨k,s2,cf,pI,i4,g2⟩ g1
  ·obtain⟨u,d8,_,ff⟩:=yg j s1 dP ra;rw[gZ]at d8;cases d8;have g1:=ff c f1;rcases get_set c3 with⟨bz,a_⟩|⟨dv,pI⟩
   ·subst bz a_;rw[aj]at i4;cases i4;rcases f c f2 with g2|g2
    ·exact r.kD j i c s1 s cQ o ra e gZ aj g1 g2
    ·exact absurd ⟨j,s1,cQ,ra,gZ,g1⟩ g2
   ·obtain⟨u,mW,_,Zp⟩:=yg k s2 dv pI;rw[i4]at mW;cases mW;exact r.kD j k c s1 s2 cQ cf ra pI gZ i4 g1 (Zp c f2)
theorem Rel.B8(r:Rel F G H σ ρ){i:Nat}{o cc:ky}{a:ac1}{aH:dG}(e:ρ[i]?=some (.ob o))(aj: σ[i]?=some (some (.ref a)))(q:mh F.K G cc aH) :
  Rel F G (upd H a aH) σ (ρ.set i (.ob cc)):=by
 obtain⟨b,Ht,ae,h1,h2,h3,h4⟩:=r.obj e;rw[aj]at ae;have bx:b=a:=by cases ae;rfl
 subst bx;exact r.B9 e aj rfl ⟨b,aH,rfl,dN,h2,h3,q⟩ fun c f=>.inl f
theorem Rel.mut(r:Rel F G H σ ρ){i:Nat}{ds eV:List D}{a:ac1}{ys:List V}(e:ρ[i]?=some (.br ds))(aj: σ[i]?=some (some (.ref a)))(q:aT F.K G eV ys) :
  Rel F G (upd H a (.lst ys)) σ (ρ.set i (.br eV)):=r.B8 e aj ⟨ys,rfl,q⟩
theorem Rel.jH(r:Rel F G H σ ρ){i:Nat}{o:ky}(e:ρ[i]?=some (.ob o)):∃G',Rel F G' H σ (ρ.set i (.ao (ji o)))∧Sub G G':=by
 have ak:i<ρ.length:=(List.getElem?_eq_some_iff.mp e).1;obtain⟨a,aH,ae,h1,h2,h3,h4⟩:=r.obj e;have un:Rel F G H σ (ρ.set i .un):=by have z:=r.n8 (s:=.un) (o:=some (.ref a)) ak trivial fun _ f=>f.elim;rw[bu.sG ae]at z;exact z
 have no:¬b3 H σ (ρ.set i .un) a:=fun⟨j,s,u,d8,ff,mW⟩=>by
  rcases get_set d8 with⟨_,z⟩|⟨ne,d8⟩
  ·subst z;exact mW
  ·exact ne (r.kD i j a _ s _ u e d8 ae ff rfl mW)
 have bp:=un.take h1 h2 h3 no;have dt:=bp.n8 (i:=i) (s:=.ao (ji o)) (o:=some (.ref a)) (by simpa using ak) ⟨.ref a,rfl,(h4.mono (Sub.upd h2)).at dN⟩ fun _ f=>f.elim;rw[bu.sG ae,List.set_set]at dt;exact⟨upd G a aH,dt,Sub.upd h2⟩
end
abbrev aN:=ai→R D
abbrev cL:=ai→R Bool
abbrev aW:=ai→R (List D)
inductive ez where
 |bL (ρ:ai)|c_ (d:D)|hr (ds:List D)|fk (ρ:ai)|c7 (ρ:ai)|fE (t:T)|rs (d:D) (ρ:ai)
abbrev bf:=ai→R ez
def ja(F:bg)(c:Str):Prop:=∀G' H',d9 F G' H'→F.EX c H'
noncomputable def hT(F:bg)(G H:ag)(σ :St)(ρ:ai)(Q:cH):R D→Prop
 |.ok d=>∀v H' G',Rel F G' H' σ ρ→cG G H G' H'→At F.K G' d v→Q v H'
 |.exc c=>ja F c
 |.bad=>False
noncomputable def r1(F:bg)(G H:ag)(σ :St)(ρ:ai)(Q:Bool→ag→Prop):R Bool→Prop
 |.ok b=>∀H' G',Rel F G' H' σ ρ→cG G H G' H'→Q b H'
 |.exc c=>ja F c
 |.bad=>False
noncomputable def RD(F:bg)(G H:ag)(σ :St)(ρ:ai)(Q:List V→ag→Prop):R (List D)→Prop
 |.ok ds=>∀vs H' G',Rel F G' H' σ ρ→cG G H G' H'→aT F.K G' ds vs→Q vs H'
 |.exc c=>ja F c
 |.bad=>False
noncomputable def RJ(F:bg)(G H:ag)(σ :St)(ρ:ai)(Q:cH):R (List D)→Prop
 |.ok ds=>∀a xs H' G',Rel F G' H' σ ρ→cG G H G' H'→H a=none→H' a=some (.lst xs)→G' a=none→aT F.K G' ds xs→Q (.ref a) H'
 |.exc c=>ja F c
 |.bad=>False
noncomputable def fP(F:bg)(G:ag)(b2:Ends):R ez→Prop
 |.ok (.bL ρ')=>∀ σ' G' H',Rel F G' H' σ' ρ'→Sub G G'→b2.bL σ' H'
 |.ok (.fk ρ')=>∀ σ' G' H',Rel F G' H' σ' ρ'→Sub G G'→b2.fk σ' H'
 |.ok (.c7 ρ')=>∀ σ' G' H',Rel F G' H' σ' ρ'→Sub G G'→b2.c7 σ' H'
 |.ok (.c_ d)=>∀v G' H',d9 F G' H'→At F.K G' d v→b2.c_ v H'
 |.ok (.hr ds)=>∀a xs G' H',d9 F G' H'→G' a=none→F.aR a=none→H' a=some (.lst xs)→aT F.K G' ds xs→b2.c_ (.ref a) H'
 |.ok (.fE t)=>∀v G' H',d9 F G' H'→p1 F G' H' t v→b2.c_ v H'
 |.ok (.rs d ρ')=>∀v σ' G' H',Rel F G' H' σ' ρ'→At F.K G' d v→b2.c_ v H'
 |.exc c=>ja F c
 |.bad=>False
def cZ(F:bg)(m:aN):TE:=fun σ H Q=>∃G ρ,Rel F G H σ ρ∧hT F G H σ ρ Q (m ρ)
def gE(F:bg)(m:cL):TT:=fun σ H Q=>∃G ρ,Rel F G H σ ρ∧r1 F G H σ ρ Q (m ρ)
def eo(F:bg)(m:aW):eS:=fun σ H Q=>∃G ρ,Rel F G H σ ρ∧RD F G H σ ρ Q (m ρ)
def jr(F:bg)(m:aW):TE:=fun σ H Q=>∃G ρ,Rel F G H σ ρ∧RJ F G H σ ρ Q (m ρ)
def eG(F:bg)(m:bf):eT:=fun b2 σ H=>∃G ρ,Rel F G H σ ρ∧fP F G b2 (m ρ)
section
variable{F:bg}{G aM H H1:ag}{σ :St}{ρ:ai}
theorem hT.mono{Q:cH}(s:cG G H aM H1):∀{r:R D},hT F G H σ ρ Q r→hT F aM H1 σ ρ Q r
 |.ok _,h=>fun v H' G' r bt a=>h v H' G' r (s.trans bt) a
 |.exc _,h=>h
 |.bad,h=>h
theorem r1.mono{Q:Bool→ag→Prop}(s:cG G H aM H1):∀{r:R Bool},r1 F G H σ ρ Q r→r1 F aM H1 σ ρ Q r
 |.ok _,h=>fun H' G' r bt=>h H' G' r (s.trans bt)
 |.exc _,h=>h
 |.bad,h=>h
theorem fP.mono{b2:Ends}(s:Sub G aM):∀{r:R ez},fP F G b2 r→fP F aM b2 r
 |.ok (.bL _),h=>fun σ' G' H' r bt=>h σ' G' H' r (s.trans bt)
 |.ok (.fk _),h=>fun σ' G' H' r bt=>h σ' G' H' r (s.trans bt)
 |.ok (.c7 _),h=>fun σ' G' H' r bt=>h σ' G' H' r (s.trans bt)
 |.ok (.c_ _),h=>h
 |.ok (.hr _),h=>h
 |.ok (.fE _),h=>h
 |.ok (.rs _ _),h=>h
 |.exc _,h=>h
 |.bad,h=>h
end
abbrev dQ(t' t:TE):Prop:=∀ σ H Q,t' σ H Q→t σ H Q
abbrev m4(t' t:TT):Prop:=∀ σ H Q,t' σ H Q→t σ H Q
abbrev rq(t' t:eS):Prop:=∀ σ H Q,t' σ H Q→t σ H Q
abbrev gs(t' t:eT):Prop:=∀b2 σ H,t' b2 σ H→t b2 σ H
def af(i:Nat):aN:=fun ρ=>match ρ[i]? with
 |some (.ao d)=>.ok d
 |_=>.bad
def aG(d:D):aN:=fun _=>.ok d
section
variable{F:bg}
theorem QY(i:Nat):dQ (cZ F (af i)) (kY i):=by
 rintro σ H Q ⟨G,ρ,r,h⟩;unfold af at h;cases e:ρ[i]? with
 |none=>rw[e]at h;exact h.elim
 |some s=>
  rw[e]at h;cases s with
  |un=>exact h.elim
  |ob _=>exact h.elim
  |cy _=>exact h.elim
  |dg _ _=>exact h.elim
  |ao d=>obtain⟨v,ae,a⟩:=r.ao e;exact⟨v,ae,h v H G r (cG.refl _ _) a⟩
theorem t4{d:D}{v:V}(a:∀G,At F.K G d v):dQ (cZ F (aG d)) (mQ v):=by rintro σ H Q ⟨G,ρ,r,h⟩;exact h v H G r (cG.refl _ _) (a G)
def aE(f:D→D→R D)(a b:aN):aN:=fun ρ=>(a ρ).bind fun x=>(b ρ).bind fun y=>f x y
noncomputable def gV(F:bg)(r:eN)(f:D→D→R D):Prop:=∀ σ ρ G H x y bA fm Q,Rel F G H σ ρ→At F.K G bA x→At F.K G fm y→hT F G H σ ρ Q (f bA fm)→r x y H Q
theorem xn{r:eN}{f:D→D→R D}{ma mb:aN}(aH:gV F r f):dQ (cZ F (aE f ma mb)) (mR r (cZ F ma) (cZ F mb)):=by
 rintro σ H Q ⟨G,ρ,r,h⟩;unfold aE at h;refine⟨G,ρ,r,?_⟩;cases aj:ma ρ with
 |bad=>rw[aj]at h;exact h.elim
 |exc c=>rw[aj]at h;exact h
 |ok bA=>
  rw[aj,R.bo]at h;intro x H1 aM aq s1 bZ;refine⟨aM,ρ,aq,?_⟩;cases bx:mb ρ with
  |bad=>rw[bx]at h;exact h.elim
  |exc c=>rw[bx]at h;exact h
  |ok fm=>rw[bx,R.bo]at h;intro y aX ck bp s2 cV;exact aH σ ρ ck aX x y bA fm Q bp (bZ.mono s2.g) cV (h.mono (s1.trans s2))
def df(f:D→R D)(a:aN):aN:=fun ρ=>(a ρ).bind f
noncomputable def EV(F:bg)(r:V→ag→cH→Prop)(f:D→R D):Prop:=∀ σ ρ G H x bA Q,Rel F G H σ ρ→At F.K G bA x→hT F G H σ ρ Q (f bA)→r x H Q
theorem QX{r:V→ag→cH→Prop}{f:D→R D}{ma:aN}(aH:EV F r f):dQ (cZ F (df f ma)) (KV r (cZ F ma)):=by
 rintro σ H Q ⟨G,ρ,r,h⟩;unfold df at h;refine⟨G,ρ,r,?_⟩;cases aj:ma ρ with
 |bad=>rw[aj]at h;exact h.elim
 |exc c=>rw[aj]at h;exact h
 |ok bA=>rw[aj,R.bo]at h;intro x H1 aM aq s1 bZ;exact aH σ ρ aM H1 x bA Q aq bZ (h.mono s1)
def aF:aW:=fun _=>.ok []
def ar(a:aN)(r:aW):aW:=fun ρ=>(a ρ).bind fun x=>(r ρ).bind fun xs=>.ok (x::xs)
theorem HQ:rq (eo F aF) yI:=by rintro σ H Q ⟨G,ρ,r,h⟩;exact h [] H G r (cG.refl _ _) .nil
theorem Qe{ma:aN}{kj:aW}:rq (eo F (ar ma kj)) (yF (cZ F ma) (eo F kj)):=by
 rintro σ H Q ⟨G,ρ,r,h⟩;unfold ar at h;refine⟨G,ρ,r,?_⟩;cases aj:ma ρ with
 |bad=>rw[aj]at h;exact h.elim
 |exc c=>rw[aj]at h;exact h
 |ok bA=>
  rw[aj,R.bo]at h;intro x H1 aM aq s1 bZ;refine⟨aM,ρ,aq,?_⟩;cases bx:kj ρ with
  |bad=>rw[bx]at h;exact h.elim
  |exc c=>rw[bx]at h;exact h
  |ok fm=>rw[bx,R.bo]at h;intro y aX ck bp s2 cV;exact h (x::y) aX ck bp (s1.trans s2) (.cons (bZ.mono s2.g) cV)
def dK(m:aW):aN:=fun ρ=>(m ρ).bind fun xs=>if xs.length≤1000000 then .ok (.tup xs)else .bad
theorem QU{m:aW}:dQ (cZ F (dK m)) (DT (eo F m)):=by
 rintro σ H Q ⟨G,ρ,r,h⟩;unfold dK at h;refine⟨G,ρ,r,?_⟩;cases aj:m ρ with
 |bad=>rw[aj]at h;exact h.elim
 |exc c=>rw[aj]at h;exact h
 |ok ds=>
  rw[aj,R.bo]at h;intro vs H1 aM aq s1 a;by_cases av:ds.length≤1000000
  ·rw[if_pos av]at h;refine⟨by rw[←a.length];exact adt av (by decide),fun p a5=>?_⟩;refine h (.ref p) _ _ (aq.lay a5) (s1.trans (cG.lay aq.az.sub a5)) ?_;simp only[At];exact⟨p,vs,rfl,dN,a.mono (Sub.upd (aq.az.sub.gone a5))⟩
  ·rw[if_neg av]at h;exact h.elim
theorem b3.back{G H H':ag}{σ :St}{ρ:ai}(r:Rel F G H σ ρ)(s:Sub H H'){a:ac1}(h:b3 H' σ ρ a):b3 H σ ρ a:=by
 obtain⟨i,cB,o,ae,au,f⟩:=h;refine⟨i,cB,o,ae,au,?_⟩;obtain⟨cc,bE,q⟩:=r.cB i cB ae;rw[au]at bE;cases bE;exact(q.keep (G':=G) (H':=H') (Sub.refl _) fun b eW=>⟨by
  cases e:H b with
  |none=>exact absurd e (q.foot eW).1
  |some u=>exact s b u e,(q.foot eW).2.1⟩).2 a f
theorem b3.fresh{G H H':ag}{σ :St}{ρ:ai}(r:Rel F G H σ ρ)(s:Sub H H'){a:ac1}(n:H a=none):¬b3 H' σ ρ a:=fun h=>(r.foot (h.back r s)).1 n
def lim(xs:List D):R (List D):=if xs.length≤1000000 then .ok xs else .bad
def fX(m:aW):aW:=fun ρ=>(m ρ).bind lim
theorem Qw{m:aW}:dQ (jr F (fX m)) (KJ (eo F m)):=by
 rintro σ H Q ⟨G,ρ,r,h⟩;unfold fX lim at h;refine⟨G,ρ,r,?_⟩;cases aj:m ρ with
 |bad=>rw[aj]at h;exact h.elim
 |exc c=>rw[aj]at h;exact h
 |ok ds=>
  rw[aj,R.bo]at h;intro vs H1 aM aq s1 a;by_cases av:ds.length≤1000000
  ·rw[if_pos av]at h;refine⟨by rw[←a.length];exact adt av (by decide),fun p a5=>?_⟩;exact h p vs _ aM (aq.lay0 a5) (s1.trans (cG.lay0 a5)) (s1.h.gone a5) dN (aq.az.sub.gone a5) a
  ·rw[if_neg av]at h;exact h.elim
def fq(m:aW):aN:=fun ρ=>(m ρ).bind fun xs=>.ok (.lst xs)
theorem Qo{m:aW}:dQ (cZ F (fq m)) (jr F m):=by
 rintro σ H Q ⟨G,ρ,r,h⟩;unfold fq at h;refine⟨G,ρ,r,?_⟩;cases aj:m ρ with
 |bad=>rw[aj]at h;exact h.elim
 |exc c=>rw[aj]at h;exact h
 |ok ds=>rw[aj,R.bo]at h;intro a xs H' G' a9 s' aU U aI q;refine h (.ref a) H' _ (a9.take U aI (r.az.bw.gone aU) (b3.fresh r s'.h aU)) (s'.put aU aI) ?_;simp only[At];exact⟨a,xs,rfl,dN,q.mono (Sub.upd aI)⟩
def jC:D→R Bool
 |.aC b=>.ok b
 |_=>.bad
def bS(m:aN):cL:=fun ρ=>(m ρ).bind jC
theorem xm{m:aN}:m4 (gE F (bS m)) (DJ (cZ F m)):=by
 rintro σ H Q ⟨G,ρ,r,h⟩;unfold bS at h;refine⟨G,ρ,r,?_⟩;cases aj:m ρ with
 |bad=>rw[aj]at h;exact h.elim
 |exc c=>rw[aj]at h;exact h
 |ok d=>
  rw[aj,R.bo]at h;intro x H1 aM aq s1 bZ
  cases d<;>first
   |(exact h.elim)
   |(simp only[At]at bZ;exact⟨_,bZ,h H1 aM aq s1⟩)
theorem HI{m:aN}:m4 (gE F (bS m)) (DS (cZ F m)):=xm
def nO(a b:cL):cL:=fun ρ=>(a ρ).bind fun c=>if c=true then b ρ else .ok false
def g5(a b:cL):cL:=fun ρ=>(a ρ).bind fun c=>if c=true then .ok true else b ρ
def eu(a:cL):cL:=fun ρ=>(a ρ).bind fun c=>.ok (!c)
theorem PZ{a b:cL}:m4 (gE F (nO a b)) (Kz (gE F a) (gE F b)):=by
 rintro σ H Q ⟨G,ρ,r,h⟩;unfold nO at h;refine⟨G,ρ,r,?_⟩;cases aj:a ρ with
 |bad=>rw[aj]at h;exact h.elim
 |exc c=>rw[aj]at h;exact h
 |ok c=>
  rw[aj,R.bo]at h;intro H1 aM aq s1;cases c with
  |true=>exact⟨aM,ρ,aq,r1.mono s1 h⟩
  |false=>exact h H1 aM aq s1
theorem QE{a b:cL}:m4 (gE F (g5 a b)) (KQ (gE F a) (gE F b)):=by
 rintro σ H Q ⟨G,ρ,r,h⟩;unfold g5 at h;refine⟨G,ρ,r,?_⟩;cases aj:a ρ with
 |bad=>rw[aj]at h;exact h.elim
 |exc c=>rw[aj]at h;exact h
 |ok c=>
  rw[aj,R.bo]at h;intro H1 aM aq s1;cases c with
  |true=>exact h H1 aM aq s1
  |false=>exact⟨aM,ρ,aq,r1.mono s1 h⟩
theorem QB{a:cL}:m4 (gE F (eu a)) (KO (gE F a)):=by
 rintro σ H Q ⟨G,ρ,r,h⟩;unfold eu at h;refine⟨G,ρ,r,?_⟩;cases aj:a ρ with
 |bad=>rw[aj]at h;exact h.elim
 |exc c=>rw[aj]at h;exact h
 |ok c=>rw[aj,R.bo]at h;exact h
noncomputable def jL(a b:aN):aN:=fun ρ=>(a ρ).bind fun x=>(jC x).bind fun c=>if c=true then b ρ else .ok (.aC false)
noncomputable def qD(a b:aN):aN:=fun ρ=>(a ρ).bind fun x=>(jC x).bind fun c=>if c=true then .ok (.aC true)else b ρ
def sf(a:aN):aN:=fun ρ=>(a ρ).bind fun x=>(jC x).bind fun c=>.ok (.aC (!c))
theorem P0{a b:aN}:dQ (cZ F (jL a b)) (KA (cZ F a) (cZ F b)):=by
 rintro σ H Q ⟨G,ρ,r,h⟩;unfold jL at h;refine⟨G,ρ,r,?_⟩;cases aj:a ρ with
 |bad=>rw[aj]at h;exact h.elim
 |exc c=>rw[aj]at h;exact h
 |ok d=>
  rw[aj,R.bo]at h;intro x H1 aM aq s1 bZ;cases d with
  |aC c=>
   simp only[At]at bZ;refine⟨c,bZ,?_⟩;cases c with
   |true=>exact⟨aM,ρ,aq,hT.mono s1 h⟩
   |false=>exact h _ H1 aM aq s1 (by simp only[At])
  |_=>exact h.elim
theorem QF{a b:aN}:dQ (cZ F (qD a b)) (KR (cZ F a) (cZ F b)):=by
 rintro σ H Q ⟨G,ρ,r,h⟩;unfold qD at h;refine⟨G,ρ,r,?_⟩;cases aj:a ρ with
 |bad=>rw[aj]at h;exact h.elim
 |exc c=>rw[aj]at h;exact h
 |ok d=>
  rw[aj,R.bo]at h;intro x H1 aM aq s1 bZ;cases d with
  |aC c=>
   simp only[At]at bZ;refine⟨c,bZ,?_⟩;cases c with
   |false=>exact⟨aM,ρ,aq,hT.mono s1 h⟩
   |true=>exact h _ H1 aM aq s1 (by simp only[At])
  |_=>exact h.elim
theorem QC{a:aN}:dQ (cZ F (sf a)) (KP (cZ F a)):=by
 rintro σ H Q ⟨G,ρ,r,h⟩;unfold sf at h;refine⟨G,ρ,r,?_⟩;cases aj:a ρ with
 |bad=>rw[aj]at h;exact h.elim
 |exc c=>rw[aj]at h;exact h
 |ok d=>
  rw[aj,R.bo]at h;intro x H1 aM aq s1 bZ;cases d with
  |aC c=>simp only[At]at bZ;exact⟨c,bZ,h _ H1 aM aq s1 (by simp only[At])⟩
  |_=>exact h.elim
def sb(c:cL)(a b:aN):aN:=fun ρ=>(c ρ).bind fun k=>if k=true then a ρ else b ρ
theorem Qq{c:cL}{a b:aN}:dQ (cZ F (sb c a b)) (KI (gE F c) (cZ F a) (cZ F b)):=by
 rintro σ H Q ⟨G,ρ,r,h⟩;unfold sb at h;refine⟨G,ρ,r,?_⟩;cases aj:c ρ with
 |bad=>rw[aj]at h;exact h.elim
 |exc c=>rw[aj]at h;exact h
 |ok k=>
  rw[aj,R.bo]at h;intro H1 aM aq s1;cases k with
  |true=>exact⟨aM,ρ,aq,hT.mono s1 h⟩
  |false=>exact⟨aM,ρ,aq,hT.mono s1 h⟩
def du:bf:=fun ρ=>.ok (.bL ρ)
def bK(a b:bf):bf:=fun ρ=>(a ρ).bind fun f=>match f with
 |.bL ρ'=>b ρ'
 |f=>.ok f
theorem QA:gs (eG F du) DQ:=by rintro b2 σ H ⟨G,ρ,r,h⟩;exact h σ G H r (Sub.refl _)
theorem QO{a b:bf}:gs (eG F (bK a b)) (vt (eG F a) (eG F b)):=by
 rintro b2 σ H ⟨G,ρ,r,h⟩;unfold bK at h;refine⟨G,ρ,r,?_⟩;cases aj:a ρ with
 |bad=>rw[aj]at h;exact h.elim
 |exc c=>rw[aj]at h;exact h
 |ok f=>
  rw[aj,R.bo]at h;cases f with
  |bL ρ'=>exact fun σ' G' H' a9 s'=>⟨G',ρ',a9,fP.mono s' h⟩
  |c_ d=>exact h
  |hr d=>exact h
  |fk d=>exact h
  |c7 d=>exact h
  |fE d=>exact h
  |rs d _=>exact h
def um(a:aN):bf:=fun ρ=>(a ρ).bind fun _=>.ok (.bL ρ)
theorem Qi{a:aN}:gs (eG F (um a)) (DM (cZ F a)):=by
 rintro b2 σ H ⟨G,ρ,r,h⟩;unfold um at h;refine⟨G,ρ,r,?_⟩;cases aj:a ρ with
 |bad=>rw[aj]at h;exact h.elim
 |exc c=>rw[aj]at h;exact h
 |ok d=>rw[aj,R.bo]at h;exact fun v H' G' a9 s' _=>h σ G' H' a9 s'.g
def c9(a:aN):bf:=fun ρ=>(a ρ).bind fun d=>.ok (.c_ d)
theorem QJ{a:aN}:gs (eG F (c9 a)) (q5 (cZ F a)):=by
 rintro b2 σ H ⟨G,ρ,r,h⟩;unfold c9 at h;refine⟨G,ρ,r,?_⟩;cases aj:a ρ with
 |bad=>rw[aj]at h;exact h.elim
 |exc c=>rw[aj]at h;exact h
 |ok d=>rw[aj,R.bo]at h;exact fun v H' G' a9 s' a=>h v G' H' a9.az a
def kO(a:aW):bf:=fun ρ=>(a ρ).bind fun d=>.ok (.hr d)
theorem QK{a:aW}:gs (eG F (kO a)) (q5 (jr F a)):=by
 rintro b2 σ H ⟨G,ρ,r,h⟩;unfold kO at h;refine⟨G,ρ,r,?_⟩;cases aj:a ρ with
 |bad=>rw[aj]at h;exact h.elim
 |exc c=>rw[aj]at h;exact h
 |ok d=>rw[aj,R.bo]at h;exact fun a xs H' G' a9 s' h1 h2 h3 h4=>h a xs G' H' a9.az h3 (r.az.bw.gone h1) h2 h4
def qH(i:Nat):aW:=fun ρ=>match ρ[i]? with
 |some (.ob (.lst d))=>.ok d
 |_=>.bad
theorem QM(i:Nat):gs (eG F (kO (qH i))) (q5 (kY i)):=by
 rintro b2 σ H ⟨G,ρ,r,h⟩;unfold kO qH at h;cases e:ρ[i]? with
 |none=>rw[e]at h;exact h.elim
 |some s=>
  rw[e]at h;cases s with
  |un=>exact h.elim
  |ao _=>exact h.elim
  |cy _=>exact h.elim
  |dg _ _=>exact h.elim
  |ob o=>
   cases o with
   |lst ds=>obtain⟨a,xs,ae,h1,h2,h3,h4⟩:=r.own e;exact⟨.ref a,ae,h a xs G H r.az h2 h3 h1 h4⟩
   |bH _ _=>exact h.elim
   |ins _ _ _=>exact h.elim
def dn(c:cL)(a b:bf):bf:=fun ρ=>(c ρ).bind fun k=>if k=true then a ρ else b ρ
theorem Qr{c:cL}{a b:bf}:gs (eG F (dn c a b)) (DP (gE F c) (eG F a) (eG F b)):=by
 rintro b2 σ H ⟨G,ρ,r,h⟩;unfold dn at h;refine⟨G,ρ,r,?_⟩;cases aj:c ρ with
 |bad=>rw[aj]at h;exact h.elim
 |exc c=>rw[aj]at h;exact h
 |ok k=>
  rw[aj,R.bo]at h;intro H1 aM aq s1;cases k with
  |true=>exact⟨aM,ρ,aq,fP.mono s1.g h⟩
  |false=>exact⟨aM,ρ,aq,fP.mono s1.g h⟩
def bY(i:Nat)(d:D)(ρ:ai):R ai:=if i<ρ.length then .ok (ρ.set i (.ao d))else .bad
def eQ(i:Nat)(a:aN):bf:=fun ρ=>(a ρ).bind fun d=>(bY i d ρ).bind fun ρ'=>.ok (.bL ρ')
theorem QP{i:Nat}{a:aN}:gs (eG F (eQ i a)) (jP (cZ F a) (g4 i)):=by
 rintro b2 σ H ⟨G,ρ,r,h⟩;unfold eQ bY at h;refine⟨G,ρ,r,?_⟩;cases aj:a ρ with
 |bad=>rw[aj]at h;exact h.elim
 |exc c=>rw[aj]at h;exact h
 |ok d=>
  rw[aj,R.bo]at h;intro v H1 aM aq s1 bc;by_cases ak:i<ρ.length
  ·rw[if_pos ak]at h;exact h _ aM H1 (aq.set ak bc) s1.g
  ·rw[if_neg ak]at h;exact h.elim
noncomputable def gB(i:Nat)(a:aW):bf:=fun ρ=>(a ρ).bind fun ds=>if i<ρ.length then .ok (.bL (ρ.set i (.br ds)))else .bad
theorem HR{i:Nat}{a:aW}:gs (eG F (gB i a)) (jP (jr F a) (g4 i)):=by
 rintro b2 σ H ⟨G,ρ,r,h⟩;unfold gB at h;refine⟨G,ρ,r,?_⟩;cases aj:a ρ with
 |bad=>rw[aj]at h;exact h.elim
 |exc c=>rw[aj]at h;exact h
 |ok ds=>
  rw[aj,R.bo]at h;intro b xs H1 aM aq s1 h1 h2 h3 h4;by_cases ak:i<ρ.length
  ·rw[if_pos ak]at h;exact h _ aM H1 (aq.WH ak h2 h3 (r.az.bw.gone h1) h4 fun j ah o _ ae au f=>b3.fresh r s1.h h1 ⟨j,ah,o,ae,au,f⟩) s1.g
  ·rw[if_neg ak]at h;exact h.elim
def kE(i:Nat)(ρ:ai):ai:=match ρ[i]? with
 |some (.ob o)=>ρ.set i (.ao (ji o))
 |_=>ρ
theorem Rel.kE{G H:ag}{σ :St}{ρ:ai}(r:Rel F G H σ ρ)(i:Nat):∃G',Rel F G' H σ (bu.kE i ρ)∧Sub G G':=by
 unfold bu.kE;cases e:ρ[i]? with
 |none=>exact⟨G,r,Sub.refl _⟩
 |some s=>
  cases s with
  |un=>exact⟨G,r,Sub.refl _⟩
  |ao _=>exact⟨G,r,Sub.refl _⟩
  |cy _=>exact⟨G,r,Sub.refl _⟩
  |dg _ _=>exact⟨G,r,Sub.refl _⟩
  |ob o=>exact r.jH e
def xR(i:Nat)(m:bf):bf:=fun ρ=>m (kE i ρ)
theorem Qn{i:Nat}{m:bf}:gs (eG F (xR i m)) (eG F m):=by rintro b2 σ H ⟨G,ρ,r,h⟩;obtain⟨aM,aq,s1⟩:=r.kE i;exact⟨aM,_,aq,fP.mono s1 h⟩
def g8:D→Bool
 |.non=>true|.aC _=>true|.int _=>true|.str _=>true
 |_=>false
theorem At.J8{K:PySem.W.Frag}{G G':ag}{d:D}{v:V}(h:g8 d=true)(a:At K G d v):At K G' d v:=by
 cases d<;>first
  |(simp only[At]at a ⊢;exact a)
  |(cases h)
def nu:cJ→cJ
 |.ob o=>.ao (ji o)
 |.cy t=>.ao (toD t)
 |.dg _ t=>.ao (toD t)
 |s=>s
def d5(ρ:ai):ai:=ρ.map nu
open Classical in
noncomputable def hN(σ :St)(ρ:ai)(G H:ag):ag:=fun b=>if b3 H σ ρ b then H b else G b
theorem rT{G H:ag}{σ :St}{ρ:ai}(r:Rel F G H σ ρ):Sub G (hN σ ρ G H):=fun b o e=>by
 unfold hN
 split
 ·exact r.az.sub b o e
 ·exact e
theorem kH{G H:ag}{σ :St}{ρ:ai}{b:ac1}(h:b3 H σ ρ b):hN σ ρ G H b=H b:=by unfold hN;rw[if_pos h]
theorem OM{H:ag}{ρ:ai}{i:Nat}{s:cJ}(e:(d5 ρ)[i]?=some s)(o:Option V)(a:ac1):¬fw H s o a:=by
 unfold d5 at e;rw[ac4]at e;cases au:ρ[i]? with
 |none=>rw[au]at e;cases e
 |some t=>rw[au]at e;have ah:nu t=s:=ac0 e;subst ah;cases t<;>exact fun z=>z
theorem Rel.plus{G H:ag}{σ :St}{ρ:ai}(r:Rel F G H σ ρ):Rel F (hN σ ρ G H) H σ (d5 ρ):=by
 have bt:=rT r;refine⟨⟨fun b o e=>?_,r.az.dh.trans bt,r.az.bw,fun b J=>?_⟩,by simp[d5,r.len],fun i s e=>?_,fun i j a s s' o cc ae _ _ _ f _=>absurd f (OM ae o a)⟩
 ·unfold hN at e
  split at e
  ·exact e
  ·exact r.az.sub b o e
 ·unfold hN
  split
  ·rename_i z;exact absurd (r.foot z).2.2 J
  ·exact r.az.new b J
 ·unfold d5 at e;rw[ac4]at e;cases ae:ρ[i]? with
  |none=>rw[ae]at e;cases e
  |some t=>
   rw[ae]at e;have ah:nu t=s:=ac0 e;obtain⟨o,au,q⟩:=r.cB i t ae;refine⟨o,au,?_⟩;subst ah;cases t with
   |un=>trivial
   |ao d=>obtain⟨v,bE,a⟩:=q;exact⟨v,bE,a.mono bt⟩
   |ob ds=>obtain⟨a,aH,bE,h1,h2,h3,h4⟩:=q;subst bE;exact⟨.ref a,rfl,(h4.mono bt).at (by rw[kH (.ob ae au)];exact h1)⟩
   |cy t=>obtain⟨v,bE,q⟩:=q;exact⟨v,bE,q.at_.view bt fun a U=>kH ⟨i,_,o,ae,au,v,bE,U⟩⟩
   |dg n t=>obtain⟨v,bE,q,_⟩:=q;exact⟨v,bE,q.at_.view bt fun a U=>kH ⟨i,_,o,ae,au,v,bE,U⟩⟩
theorem Rel.back{G H G' H':ag}{σ :St}{ρ:ai}(r:Rel F G H σ ρ)(a9:Rel F G' H' σ (d5 ρ))(s:Sub (hN σ ρ G H) G'):Rel F G H' σ ρ:=
 r.over rfl ⟨(rT r).trans (s.trans a9.az.sub),r.az.dh,a9.az.bw,r.az.new⟩ (Sub.refl _) fun a U=>by
   obtain⟨h1,h2,h3⟩:=r.foot U;refine⟨?_,h2,h3⟩;cases e:H a with
   |none=>exact absurd e h1
   |some o=>exact a9.az.sub _ _ (s _ _ (by rw[kH U];exact e))
def pj(d:D):R D:=if g8 d=true then .ok d else .bad
def mE(m:aN):aN:=fun ρ=>(m (d5 ρ)).bind pj
theorem P1{m:aN}:dQ (cZ F (mE m)) (cZ F m):=by
 rintro σ H Q ⟨G,ρ,r,h⟩;refine⟨hN σ ρ G H,d5 ρ,r.plus,?_⟩;unfold mE pj at h;cases aj:m (d5 ρ)with
 |bad=>rw[aj]at h;exact h.elim
 |exc c=>rw[aj]at h;exact h
 |ok d=>
  rw[aj,R.bo]at h;intro v H' G' a9 s' a;by_cases hd:g8 d=true
  ·rw[if_pos hd]at h;exact h v H' G (r.back a9 s'.g) ⟨Sub.refl _,s'.h,fun _ _=>rfl⟩ (a.J8 hd)
  ·rw[if_neg hd]at h;exact h.elim
def gM(m:cL):cL:=fun ρ=>m (d5 ρ)
theorem P6{m:cL}:m4 (gE F (gM m)) (gE F m):=by
 rintro σ H Q ⟨G,ρ,r,h⟩;refine⟨hN σ ρ G H,d5 ρ,r.plus,?_⟩;unfold gM at h;cases aj:m (d5 ρ)with
 |bad=>rw[aj]at h;exact h.elim
 |exc c=>rw[aj]at h;exact h
 |ok d=>rw[aj]at h;exact fun H' G' a9 s'=>h H' G (r.back a9 s'.g) ⟨Sub.refl _,s'.h,fun _ _=>rfl⟩
end
section
variable{F:bg}
structure iY(K:PySem.W.Frag)(cC:It)(ds:List D)(G:ag):Prop where
 go:∀(i:Nat)(H:ag),Sub G H→i<ds.length→cC.go i H
 iU:∀(i:Nat)(H:ag)(x:V)(H':ag),Sub G H→i<ds.length→cC.iU i H x H'→∃d,ds[i]?=some d∧
  ((H'=H∧At K G d x)∨∃p xs ah,H p=none∧H'=upd H p (.tup xs)∧x=.ref p∧d=.tup ah∧aT K G ah xs)
 stop:∀(H:ag),Sub G H→cC.stop ds.length H
noncomputable def RG(F:bg)(G H:ag)(σ :St)(ρ:ai)(Q:It→ag→Prop):R (List D)→Prop
 |.ok ds=>∀cC H' G',Rel F G' H' σ ρ→cG G H G' H'→iY F.K cC ds G'→Q cC H'
 |.exc c=>ja F c
 |.bad=>False
def jq(F:bg)(m:aW):TI:=fun σ H Q=>∃G ρ,Rel F G H σ ρ∧RG F G H σ ρ Q (m ρ)
abbrev m3(t' t:TI):Prop:=∀ σ H Q,t' σ H Q→t σ H Q
theorem iY.turn{cC:It}{ds:List D}{G aM H H':ag}{σ :St}{ρ:ai}{i:Nat}{x:V}(t:iY F.K cC ds G)(r:Rel F aM H σ ρ)(s:Sub G aM)(ak:i<ds.length)(y:cC.iU i H x H') :
  ∃d G',ds[i]?=some d∧Rel F G' H' σ ρ∧cG aM H G' H'∧At F.K G' d x:=by
 obtain⟨d,e,h⟩:=t.iU i H x H' (s.trans r.az.sub) ak y;rcases h with⟨rfl,a⟩|⟨p,xs,ah,a5,rfl,rfl,rfl,a⟩
 ·exact⟨d,aM,e,r,cG.refl _ _,a.mono s⟩
 ·refine⟨_,_,e,r.lay a5,cG.lay r.az.sub a5,?_⟩;simp only[At];exact⟨p,xs,rfl,dN,(a.mono s).mono (Sub.upd (r.az.sub.gone a5))⟩
noncomputable def mc(F:bg)(g:ht)(set:D→ai→R ai):Prop:=∀ σ ρ G H v d Q ρ',Rel F G H σ ρ→At F.K G d v→set d ρ=.ok ρ'→(∀ σ',Rel F G H σ' ρ'→Q σ' H)→g v σ H Q
theorem w2(i:Nat):mc F (g4 i) (bY i):=by
 intro σ ρ G H v d Q ρ' r a e h;unfold bY at e;by_cases ak:i<ρ.length
 ·rw[if_pos ak]at e;cases e;exact h _ (r.set ak a)
 ·rw[if_neg ak]at e;cases e
noncomputable def hX:List (D→ai→R ai)→List D→ai→R ai
 |[],[],ρ=>.ok ρ
 |f::a8,d::ds,ρ=>(f d ρ).bind fun ρ'=>hX a8 ds ρ'
 |_,_,_=>.bad
noncomputable def sV(F:bg)(g:mj)(set:List D→ai→R ai):Prop:=∀ σ ρ G H vs ds Q ρ',Rel F G H σ ρ→aT F.K G ds vs→set ds ρ=.ok ρ'→(∀ σ',Rel F G H σ' ρ'→Q σ' H)→g vs σ H Q
theorem G7:sV F w0 (hX []):=by
 intro σ ρ G H vs ds Q ρ' r a e h;cases ds with
 |nil=>simp only[aT]at a;cases e;exact⟨a,h σ r⟩
 |cons d ds=>cases e
theorem A6{g:ht}{nv:mj}{f:D→ai→R ai}{a8:List (D→ai→R ai)}(h1:mc F g f)(h2:sV F nv (hX a8)):sV F (tJ g nv) (hX (f::a8)):=by
 intro σ ρ G H vs ds Q ρ' r a e h;cases ds with
 |nil=>cases e
 |cons d ds=>
  simp only[aT]at a;obtain⟨v,yV,rfl,bc,nh⟩:=a;simp only[hX]at e;cases ae:f d ρ with
  |bad=>rw[ae]at e;cases e
  |exc c=>rw[ae]at e;cases e
  |ok ρ1=>rw[ae,R.bo]at e;refine⟨v,yV,rfl,h1 σ ρ G H v d _ ρ1 r bc ae fun σ1 aq=>?_⟩;exact h2 σ1 ρ1 G H yV ds Q ρ' aq nh e h
def gk(a8:List (D→ai→R ai)):D→ai→R ai
 |.tup ds,ρ=>hX a8 ds ρ
 |_,_=>.bad
theorem Ke:∀{a8:List (D→ai→R ai)}{ds:List D}{ρ ρ':ai},hX a8 ds ρ=.ok ρ'→ds.length=a8.length
 |[],[],_,_,_=>rfl
 |[],_::_,_,_,e=>by cases e
 |_::_,[],_,_,e=>by cases e
 |f::a8,d::ds,ρ,ρ',e=>by
  simp only[hX]at e;cases ae:f d ρ with
  |bad=>rw[ae]at e;cases e
  |exc c=>rw[ae]at e;cases e
  |ok ρ1=>rw[ae,R.bo]at e;simp[Ke e]
theorem G8{nv:mj}{a8:List (D→ai→R ai)}{n:Nat}(aU:n=a8.length)(h:sV F nv (hX a8)):mc F (w1 F.K n nv) (gk a8):=by
 intro σ ρ G H v d Q ρ' r a e k;cases d with
 |tup ds=>simp only[At]at a;obtain⟨p,xs,rfl,aP,al⟩:=a;refine⟨p,xs,rfl,b_.of (r.az.sub _ _ aP),?_,h σ ρ G H xs ds Q ρ' r al e k⟩;rw[←al.length,aU];exact Ke e
 |_=>cases e
noncomputable def f9(set:D→ai→R ai)(body:bf):List D→ai→R ez
 |[],ρ=>.ok (.bL ρ)
 |d::ds,ρ=>(set d ρ).bind fun ρ1=>(body ρ1).bind fun f=>match f with
  |.bL c5=>f9 set body ds c5
  |.c7 c5=>f9 set body ds c5
  |.fk c5=>.ok (.bL c5)
  |f=>.ok f
def e6(mi:aW)(set:D→ai→R ai)(body:bf):bf:=fun ρ=>(mi ρ).bind fun ds=>f9 set body ds ρ
theorem Ql{mi:aW}{set:D→ai→R ai}{body:bf}{g:ht}(aI:mc F g set)(aA:∀d ρ c,set d ρ≠.exc c):gs (eG F (e6 mi set body)) (DN (jq F mi) g (eG F body)):=by
 rintro b2 σ H ⟨G,ρ,r,h⟩;unfold e6 at h;refine⟨G,ρ,r,?_⟩;cases aj:mi ρ with
 |bad=>rw[aj]at h;exact h.elim
 |exc c=>rw[aj]at h;exact h
 |ok ds=>
  rw[aj,R.bo]at h;intro cC H1 aM aq s1 it;refine⟨fun i m σ2 aX=>m=ds.length-i∧i≤ds.length∧∃ck c5,Rel F ck aX σ2 c5∧Sub aM ck∧fP F ck b2 (f9 set body (ds.drop i) c5),⟨ds.length,by simp,aee _,aM,ρ,aq,Sub.refl _,fP.mono s1.g (by simpa using h)⟩,?_⟩;rintro i m σ2 aX ⟨rfl,ak,ck,c5,bp,s2,k2⟩;by_cases ed:i<ds.length
  ·refine .inr ⟨it.go i aX (s2.trans bp.az.sub) ed,fun σ3 cK=>∃dJ om,Rel F dJ cK σ3 om∧Sub aM dJ∧fP F dJ b2 (f9 set body (ds.drop (i+1)) om),fun σ3 cK⟨dJ,om,dt,s3,k3⟩=>⟨ds.length-(i+1),by omega,rfl,ed,dJ,om,dt,s3,k3⟩,fun x cK y=>?_⟩;obtain⟨d,dJ,bE,dt,s3,d3⟩:=it.turn bp s2 ed y;have e4:ds.drop i=d::ds.drop (i+1):=by
    rw[ad9 ed];have:=acT ed;rw[bE]at this;rw[ac0 this]
   rw[e4]at k2;simp only[f9]at k2;cases c3:set d c5 with
   |bad=>rw[c3]at k2;exact k2.elim
   |exc c=>exact absurd c3 (aA d c5 c)
   |ok e8=>
    rw[c3,R.bo]at k2;refine aI σ2 c5 dJ cK x d _ e8 dt d3 c3 fun σ5 gi=>⟨dJ,e8,gi,?_⟩;have lV:Sub ck dJ:=s3.g;cases i4:body e8 with
    |bad=>rw[i4]at k2;exact k2.elim
    |exc c=>rw[i4]at k2;exact k2
    |ok f=>
     rw[i4,R.bo]at k2;cases f with
     |bL jx=>exact fun σ7 ib fJ gj ee=>⟨ib,jx,gj,s2.trans (lV.trans ee),fP.mono (lV.trans ee) k2⟩
     |c7 jx=>exact fun σ7 ib fJ gj ee=>⟨ib,jx,gj,s2.trans (lV.trans ee),fP.mono (lV.trans ee) k2⟩
     |fk jx=>exact fun σ7 ib fJ gj ee=>k2 σ7 ib fJ gj (lV.trans ee)
     |c_ d=>exact k2
     |hr ds=>exact k2
     |fE t=>exact k2
     |rs t _=>exact k2
  ·have e:ds.drop i=[]:=aen (by omega);rw[e]at k2;have fo:i=ds.length:=by omega
   subst fo;exact .inl ⟨it.stop aX (s2.trans bp.az.sub),k2 σ2 ck aX bp (Sub.refl _)⟩
theorem yy(i:Nat):∀d ρ c,bY i d ρ≠.exc c:=fun d ρ c=>by
 unfold bY
 split<;>exact fun z=>nomatch z
theorem Kf:∀{a8:List (D→ai→R ai)},(∀f∈a8,∀d ρ c,f d ρ≠.exc c)→∀ds ρ c,hX a8 ds ρ≠.exc c
 |[],_,[],_,_,e=>nomatch e
 |[],_,_::_,_,_,e=>nomatch e
 |_::_,_,[],_,_,e=>nomatch e
 |f::a8,h,d::ds,ρ,c,e=>by
  simp only[hX]at e;cases ae:f d ρ with
  |bad=>rw[ae]at e;cases e
  |exc c=>exact h f (by simp) d ρ c ae
  |ok ρ1=>rw[ae,R.bo]at e;exact Kf (fun g aI=>h g (by simp[aI])) ds ρ1 c e
theorem Kh{a8:List (D→ai→R ai)}(h:∀f∈a8,∀d ρ c,f d ρ≠.exc c):∀d ρ c,gk a8 d ρ≠.exc c:=fun d ρ c e=>by
 cases d<;>first
  |(exact Kf h _ _ _ e)
  |(cases e)
theorem HY{K:PySem.W.Frag}{G:ag}{a:ac1}{xs:List V}{ds:List D}(h:bQ K G a xs)(q:aT K G ds xs):iY K (zv K a) ds G where
 go:=fun i H s ak=>by obtain⟨v,e,_⟩:=q.get (acT ak);exact⟨xs,v,bQ.mono s h,e⟩
 iU:=fun i H x H' s ak y=>by obtain⟨rfl,y⟩:=y;obtain⟨d,e,a⟩:=q.oL (y xs (bQ.mono s h));exact⟨d,e,.inl ⟨rfl,a⟩⟩
 stop:=fun H s=>⟨xs,bQ.mono s h,by rw[←q.length];exact ac3 _⟩
theorem H0{K:PySem.W.Frag}{G:ag}{a:ac1}{xs:List V}{ds:List D}(h:b_ K G a xs)(q:aT K G ds xs):iY K (zx K a) ds G where
 go:=fun i H s ak=>by obtain⟨v,e,_⟩:=q.get (acT ak);exact⟨xs,v,b_.mono s h,e⟩
 iU:=fun i H x H' s ak y=>by obtain⟨rfl,y⟩:=y;obtain⟨d,e,a⟩:=q.oL (y xs (b_.mono s h));exact⟨d,e,.inl ⟨rfl,a⟩⟩
 stop:=fun H s=>⟨xs,b_.mono s h,by rw[←q.length];exact ac3 _⟩
def gN(lo:Int)(n:Nat):List D:=(adG n).map fun(i:Nat)=>.int (lo+(i:Int))
theorem HZ{K:PySem.W.Frag}{G:ag}(lo:Int)(n:Nat):iY K (vY lo n) (gN lo n) G where
 go:=fun i H s ak=>by
  have h:i<n:=by simpa[gN]using ak
  exact h
 iU:=fun i H x H' s ak y=>by
  have h:i<n:=by simpa[gN]using ak
  obtain⟨ae,au⟩:=y;refine⟨.int (lo+(i:Int)),?_,.inl ⟨ae,?_⟩⟩
  ·unfold gN;rw[ac4,afV h];rfl
  ·simp only[At];exact au
 stop:=fun H s=>by
  have h:n≤(gN lo n).length:=by simp[gN]
  exact h
def Dz:D→R (List D)
 |.lst ds=>.ok ds
 |.cu ds=>.ok ds
 |_=>.bad
def D2:D→R (List D)
 |.tup ds=>.ok ds
 |.dI ds=>.ok ds
 |_=>.bad
def hB(m:aN):aW:=fun ρ=>(m ρ).bind Dz
theorem Qu{m:aN}:m3 (jq F (hB m)) (HD F.K (cZ F m)):=by
 rintro σ H Q ⟨G,ρ,r,h⟩;unfold hB at h;refine⟨G,ρ,r,?_⟩;cases aj:m ρ with
 |bad=>rw[aj]at h;exact h.elim
 |exc c=>rw[aj]at h;exact h
 |ok d=>
  rw[aj,R.bo]at h;intro v H1 aM aq s1 a;cases d with
  |lst ds=>simp only[At]at a;obtain⟨p,xs,e,aP,al⟩:=a;exact⟨p,e,⟨xs,bQ.of (aq.az.sub _ _ aP)⟩,h _ H1 aM aq s1 (HY (bQ.of aP) al)⟩
  |cu ds=>simp only[At]at a;obtain⟨p,xs,e,aP,al⟩:=a;exact⟨p,e,⟨xs,bQ.mono aq.az.sub aP⟩,h _ H1 aM aq s1 (HY aP al)⟩
  |_=>exact h.elim
def sa(m:aN):aW:=fun ρ=>(m ρ).bind D2
theorem QW{m:aN}:m3 (jq F (sa m)) (HF F.K (cZ F m)):=by
 rintro σ H Q ⟨G,ρ,r,h⟩;unfold sa at h;refine⟨G,ρ,r,?_⟩;cases aj:m ρ with
 |bad=>rw[aj]at h;exact h.elim
 |exc c=>rw[aj]at h;exact h
 |ok d=>
  rw[aj,R.bo]at h;intro v H1 aM aq s1 a;cases d with
  |tup ds=>simp only[At]at a;obtain⟨p,xs,e,aP,al⟩:=a;exact⟨p,e,⟨xs,b_.of (aq.az.sub _ _ aP)⟩,h _ H1 aM aq s1 (H0 (b_.of aP) al)⟩
  |dI ds=>simp only[At]at a;obtain⟨p,xs,e,aP,al⟩:=a;exact⟨p,e,⟨xs,b_.mono aq.az.sub aP⟩,h _ H1 aM aq s1 (H0 aP al)⟩
  |_=>exact h.elim
def ps:List D→R (List D)
 |[.int j]=>if-(2^62)≤j∧j<2^62 then .ok (gN 0 j.toNat)else .bad
 |_=>.bad
theorem aT.ints1{K:PySem.W.Frag}{G:ag}{j:Int}{vs:List V}(a:aT K G [.int j] vs):vs=[.int j]:=by simp only[aT,At]at a;obtain⟨v,r,rfl,rfl,rfl⟩:=a;rfl
def hV(m:aW):aW:=fun ρ=>(m ρ).bind ps
theorem QH{m:aW}:m3 (jq F (hV m)) (BD (eo F m)):=by
 rintro σ H Q ⟨G,ρ,r,h⟩;unfold hV at h;refine⟨G,ρ,r,?_⟩;cases aj:m ρ with
 |bad=>rw[aj]at h;exact h.elim
 |exc c=>rw[aj]at h;exact h
 |ok ds=>
  rw[aj,R.bo]at h;intro vs H1 aM aq s1 a;unfold ps at h
  split at h
  ·rename_i j
   split at h
   ·rename_i cU;exact⟨j,a.ints1,cU.1,cU.2,h _ H1 aM aq s1 (HZ 0 j.toNat)⟩
   ·exact h.elim
  ·exact h.elim
inductive bT where
 |v (d:D)|o (ds:List D)|t (t:T)
noncomputable def BN(F:bg)(Q:cH):R bT→Prop
 |.ok (.v d)=>∀v G' H',d9 F G' H'→At F.K G' d v→Q v H'
 |.ok (.o ds)=>∀a xs G' H',d9 F G' H'→G' a=none→F.aR a=none→H' a=some (.lst xs)→aT F.K G' ds xs→Q (.ref a) H'
 |.ok (.t t)=>∀v G' H',d9 F G' H'→p1 F G' H' t v→Q v H'
 |.exc c=>ja F c
 |.bad=>False
noncomputable def mO(K:PySem.W.Frag)(n:Nat)(xe:cT→Str→ag→Prop)(mf:List D→R bT):ih:=fun vs H Q E=>∃G ds,Sub G H∧aT K G ds vs∧ds.length=n∧BN ⟨K,G,H,xe E,gC⟩ Q (mf ds)
theorem yz{K:PySem.W.Frag}{n:Nat}{xe:cT→Str→ag→Prop}{mf:List D→R bT}:∀vs H Q E,mO K n xe mf vs H Q E→vs.length=n:=fun vs H Q E h=>by obtain⟨G,ds,_,a,l,_⟩:=h;rw[←a.length];exact l
noncomputable def outD:ez→R bT
 |.bL _=>.ok (.v .non)
 |.c_ d=>.ok (.v d)
 |.hr ds=>.ok (.o ds)
 |.fE t=>.ok (.t t)
 |_=>.bad
def hS(N:Nat)(ds:List D):ai:=ds.map .ao++adZ (N-ds.length) .un
def dA(N:Nat)(m:bf)(ds:List D):R bT:=(m (hS N ds)).bind outD
def hY(N:Nat)(vs:List V):St:=vs.map some++adZ (N-vs.length) none
theorem JU{K:PySem.W.Frag}{G H:ag}{EX:Str→ag→Prop}{N:Nat}{ds:List D}{vs:List V}(s:Sub G H)(a:aT K G ds vs):Rel ⟨K,G,H,EX,gC⟩ G H (hY N vs) (hS N ds):=by
 have av:=a.length;refine⟨⟨s,Sub.refl _,Sub.refl _,fun _ _=>rfl⟩,by simp[hY,hS,av],fun i t e=>?_,fun i j b ah tE o cc ae au _ _ f _=>?_⟩
 ·unfold hS at e;unfold hY;by_cases ak:i<ds.length
  ·rw[adl (by simpa using ak),ac4,acT ak]at e;obtain⟨v,ae,bc⟩:=a.get (acT ak);rw[adl (by rw[adk,←av];exact ak),ac4,ae];have eK:cJ.ao ds[i]=t:=ac0 e;subst eK;exact⟨some v,rfl,v,rfl,bc⟩
  ·rw[adh (by simpa using ak),adC]at e;rw[adh (by rw[adk,←av];omega),adC,adk,←av];rw[adk]at e
   split at e
   ·rename_i bw;rw[if_pos bw];cases e;exact⟨none,rfl,trivial⟩
   ·cases e
 ·exfalso;unfold hS at ae;by_cases ak:i<ds.length
  ·rw[adl (by simpa using ak),ac4,acT ak]at ae;cases ae;exact f
  ·rw[adh (by simpa using ak),adC]at ae
   split at ae
   ·cases ae;exact f
   ·cases ae
theorem wC{K:PySem.W.Frag}{xe:cT→Str→ag→Prop}{n N:Nat}{m:bf}{vs:List V}{H:ag}{Q:cH}{E:cT}(h:mO K n xe (dA N m) vs H Q E) :
  ∃G,eG ⟨K,G,H,xe E,gC⟩ m { bL:=fun _ H'=>Q .non H',c_:=Q } (hY N vs) H:=by
 obtain⟨G,ds,s,a,l,k⟩:=h;refine⟨G,G,hS N ds,JU s a,?_⟩;unfold dA at k;cases e:m (hS N ds)with
 |bad=>rw[e]at k;exact k.elim
 |exc c=>rw[e]at k;exact k
 |ok f=>
  rw[e,R.bo]at k;cases f with
  |bL ρ=>exact fun σ' G' H' r _=>k .non G' H' r.az (by simp only[At])
  |c_ d=>exact k
  |hr ds=>exact k
  |fE t=>exact k
  |rs t _=>exact k.elim
  |fk ρ=>exact k.elim
  |c7 ρ=>exact k.elim
theorem d9.of{G H G' H':ag}{σ :St}{ρ:ai}{EX:Str→ag→Prop}(r:Rel F G H σ ρ)(k:d9 ⟨F.K,G,H,EX,gC⟩ G' H'):Rel F G' H' σ ρ:=r.grow k.dh k.sub k.bw fun b J=>k.new b J
def hD:bT→R D
 |.v d=>.ok d
 |.o ds=>.ok (.lst ds)
 |.t t=>.ok (toD t)
def vg:bT→R T
 |.t t=>.ok t
 |_=>.bad
def CG:bT→R (List D)
 |.o ds=>.ok ds
 |_=>.bad
def my(A:List ac1)(G H:ag):ag:=fun b=>if b∈A then H b else G b
theorem Rel.DV{G H bD aR:ag}{σ :St}{ρ:ai}(r:Rel F G H σ ρ){F':bg}{t:T}{v:V}(aY:F'.K=F.K)(q:p1 F' G H t v)(u:cG bD aR G H)(n:∀b∈aQ H t v,aR b=none∧F.aR b=none∧¬b3 H σ ρ b) :
  Rel F (my (aQ H t v) G H) H σ ρ∧cG bD aR (my (aQ H t v) G H) H∧At F.K (my (aQ H t v) G H) (toD t) v:=by
 have bt:Sub G (my (aQ H t v) G H):=fun b o e=>by
  unfold my;by_cases J:b∈aQ H t v
  ·rw[(q.own b J).1]at e;cases e
  ·rw[if_neg J];exact e
 refine⟨r.over rfl ⟨fun b o e=>?_,r.az.dh.trans bt,r.az.bw,fun b J=>?_⟩ bt fun a U=>?_,⟨u.g.trans bt,u.h,fun b J=>?_⟩,?_⟩
 ·unfold my at e
  split at e
  ·exact e
  ·exact r.az.sub b o e
 ·unfold my;rw[if_neg (fun z=>J (n b z).2.1)];exact r.az.new b J
 ·obtain⟨h1,h2,h3⟩:=r.foot U;refine⟨rfl,?_,h3⟩;unfold my;rw[if_neg (fun z=>(n a z).2.2 U)];exact h2
 ·unfold my;rw[if_neg (fun z=>J (n b z).1)];exact u.n b J
 ·rw[←aY];exact q.at_.view bt fun a U=>by unfold my;rw[if_pos U]
noncomputable def cD(n:Nat)(mf:List D→R bT)(m:aW):aN:=fun ρ=>(m ρ).bind fun ds=>if ds.length=n then(mf ds).bind hD else .bad
noncomputable def nP(n:Nat)(mf:List D→R bT)(m:aW):aW:=fun ρ=>(m ρ).bind fun ds=>if ds.length=n then(mf ds).bind CG else .bad
theorem HL{n:Nat}{mf:List D→R bT}{m:aW}{xe:cT→Str→ag→Prop}{E:cT}(aA:F.EX=xe E):dQ (cZ F (cD n mf m)) (q3 (mO F.K n xe mf) [] E (eo F m)):=by
 rintro σ H Q ⟨G,ρ,r,h⟩;unfold cD at h;refine⟨G,ρ,r,?_⟩;cases aj:m ρ with
 |bad=>rw[aj]at h;exact h.elim
 |exc c=>rw[aj]at h;exact h
 |ok ds=>
  rw[aj,R.bo]at h;intro vs H1 aM aq s1 a;by_cases aU:ds.length=n
  ·rw[if_pos aU]at h;rw[adz];refine⟨aM,ds,aq.az.sub,a,aU,?_⟩;cases e:mf ds with
   |bad=>rw[e]at h;exact h.elim
   |exc c=>rw[e]at h;intro G' H' k;have z:=h G' H' (d9.of aq k).az;rw[aA]at z;exact z
   |ok t=>
    rw[e,R.bo]at h;cases t with
    |v d=>exact fun v G' H' k bc=>h v H' G' (d9.of aq k) (s1.trans ⟨k.dh,k.bw,k.new⟩) bc
    |o ah=>intro p xs G' H' k h1 h2 h3 h4;have h2:H1 p=none:=h2;have a9:=d9.of aq k;have no:¬b3 H' σ ρ p:=b3.fresh aq k.bw h2;refine h (.ref p) H' _ (a9.take h3 h1 (aq.az.bw.gone h2) no) ((s1.trans ⟨k.dh,k.bw,k.new⟩).put (s1.h.gone h2) h1) ?_;simp only[At];exact⟨p,xs,rfl,dN,h4.mono (Sub.upd h1)⟩
    |t t=>intro v G' H' k q;obtain⟨a1,a2,d3⟩:=(d9.of aq k).DV (F':=⟨F.K,aM,H1,xe E,gC⟩) rfl q (s1.trans ⟨k.dh,k.bw,k.new⟩) fun b J=>⟨s1.h.gone (q.own b J).2,aq.az.bw.gone (q.own b J).2,b3.fresh aq k.bw (q.own b J).2⟩;exact h v H' _ a1 a2 d3
  ·rw[if_neg aU]at h;exact h.elim
theorem P8{n:Nat}{mf:List D→R bT}{m:aW}{xe:cT→Str→ag→Prop}{E:cT}(aA:F.EX=xe E):dQ (jr F (nP n mf m)) (q3 (mO F.K n xe mf) [] E (eo F m)):=by
 rintro σ H Q ⟨G,ρ,r,h⟩;unfold nP at h;refine⟨G,ρ,r,?_⟩;cases aj:m ρ with
 |bad=>rw[aj]at h;exact h.elim
 |exc c=>rw[aj]at h;exact h
 |ok ds=>
  rw[aj,R.bo]at h;intro vs H1 aM aq s1 a;by_cases aU:ds.length=n
  ·rw[if_pos aU]at h;rw[adz];refine⟨aM,ds,aq.az.sub,a,aU,?_⟩;cases e:mf ds with
   |bad=>rw[e]at h;exact h.elim
   |exc c=>rw[e]at h;intro G' H' k;have z:=h G' H' (d9.of aq k).az;rw[aA]at z;exact z
   |ok t=>
    rw[e,R.bo]at h;cases t with
    |v d=>exact h.elim
    |t t=>exact h.elim
    |o ah=>intro p xs G' H' k h1 h2 h3 h4;have h2:H1 p=none:=h2;have a9:=d9.of aq k;exact h p xs H' G' a9 (s1.trans ⟨k.dh,k.bw,k.new⟩) (s1.h.gone h2) h3 h1 h4
  ·rw[if_neg aU]at h;exact h.elim
abbrev gU:=ai→R T
noncomputable def RL(F:bg)(G H:ag)(σ :St)(ρ:ai)(Q:cH):R T→Prop
 |.ok t=>∀v H' G',Rel F G' H' σ ρ→cG G H G' H'→p1 F G' H' t v→(∀b∈aQ H' t v,H b=none)→Q v H'
 |.exc c=>ja F c
 |.bad=>False
def jQ(F:bg)(m:gU):TE:=fun σ H Q=>∃G ρ,Rel F G H σ ρ∧RL F G H σ ρ Q (m ρ)
noncomputable def uh(n:Nat)(mf:List D→R bT)(m:aW):gU:=fun ρ=>(m ρ).bind fun ds=>if ds.length=n then(mf ds).bind vg else .bad
theorem P_{n:Nat}{mf:List D→R bT}{m:aW}{xe:cT→Str→ag→Prop}{E:cT}(aA:F.EX=xe E):dQ (jQ F (uh n mf m)) (q3 (mO F.K n xe mf) [] E (eo F m)):=by
 rintro σ H Q ⟨G,ρ,r,h⟩;unfold uh at h;refine⟨G,ρ,r,?_⟩;cases aj:m ρ with
 |bad=>rw[aj]at h;exact h.elim
 |exc c=>rw[aj]at h;exact h
 |ok ds=>
  rw[aj,R.bo]at h;intro vs H1 aM aq s1 a;by_cases aU:ds.length=n
  ·rw[if_pos aU]at h;rw[adz];refine⟨aM,ds,aq.az.sub,a,aU,?_⟩;cases e:mf ds with
   |bad=>rw[e]at h;exact h.elim
   |exc c=>rw[e]at h;intro G' H' k;have z:=h G' H' (d9.of aq k).az;rw[aA]at z;exact z
   |ok t=>
    rw[e,R.bo]at h;cases t with
    |v d=>exact h.elim
    |o ah=>exact h.elim
    |t t=>intro v G' H' k q;exact h v H' G' (d9.of aq k) (s1.trans ⟨k.dh,k.bw,k.new⟩) ⟨q.at_,q.bI,fun b J=>⟨(q.own b J).1,aq.az.bw.gone (q.own b J).2⟩⟩ fun b J=>s1.h.gone (q.own b J).2
  ·rw[if_neg aU]at h;exact h.elim
noncomputable def lM(i:Nat)(a:gU):bf:=fun ρ=>(a ρ).bind fun t=>if i<ρ.length then .ok (.bL (ρ.set i (.cy t)))else .bad
theorem BE{i:Nat}{a:gU}:gs (eG F (lM i a)) (jP (jQ F a) (g4 i)):=by
 rintro b2 σ H ⟨G,ρ,r,h⟩;unfold lM at h;refine⟨G,ρ,r,?_⟩;cases aj:a ρ with
 |bad=>rw[aj]at h;exact h.elim
 |exc c=>rw[aj]at h;exact h
 |ok t=>
  rw[aj,R.bo]at h;intro v H1 aM aq s1 q n;by_cases ak:i<ρ.length
  ·rw[if_pos ak]at h;refine h _ aM H1 (aq.n8 ak ⟨v,rfl,q⟩ fun b f j s' cc _ ae au j5=>?_) s1.g;obtain⟨u,eL,J⟩:=f;cases eL;exact b3.fresh r s1.h (n b J) ⟨j,s',cc,ae,au,j5⟩
  ·rw[if_neg ak]at h;exact h.elim
def mH(a:gU):bf:=fun ρ=>(a ρ).bind fun t=>.ok (.fE t)
theorem QL{a:gU}:gs (eG F (mH a)) (q5 (jQ F a)):=by
 rintro b2 σ H ⟨G,ρ,r,h⟩;unfold mH at h;refine⟨G,ρ,r,?_⟩;cases aj:a ρ with
 |bad=>rw[aj]at h;exact h.elim
 |exc c=>rw[aj]at h;exact h
 |ok t=>rw[aj,R.bo]at h;intro v H1 aM aq s1 q n;exact h v aM H1 aq.az q
def si(i:Nat):gU:=fun ρ=>match ρ[i]? with
 |some (.cy t)=>.ok t
 |_=>.bad
theorem QN(i:Nat):gs (eG F (mH (si i))) (q5 (kY i)):=by
 rintro b2 σ H ⟨G,ρ,r,h⟩;unfold mH si at h;cases e:ρ[i]? with
 |none=>rw[e]at h;exact h.elim
 |some s=>
  rw[e]at h;cases s with
  |un=>exact h.elim
  |ao _=>exact h.elim
  |ob _=>exact h.elim
  |dg _ _=>exact h.elim
  |cy t=>obtain⟨v,ae,q⟩:=r.tree e;exact⟨v,ae,h v G H r.az q⟩
end
end bu
namespace bu
open PySem PySem.Spec a7
def fA:cJ→cJ
 |.ao d=>.ao d
 |_=>.un
def j1(nl:Nat)(caps:List Nat)(ρ:ai):ai:=adZ nl .un++caps.map fun j=>fA (ρ.getD j .un)
noncomputable def gx(set:D→ai→R ai)(tst:cL)(elt:aN):List D→ai→List D→R (List D)
 |[],_,ws=>.ok ws
 |d::ds,ρ,ws=>(set d ρ).bind fun ρ1=>(tst ρ1).bind fun b=>if b=true then(elt ρ1).bind fun y=>if ws.length<1000000 then gx set tst elt ds ρ1 (ws++[y])else .bad else gx set tst elt ds ρ1 ws
def eF{α:Type}:R α→R α
 |.exc _=>.bad
 |r=>r
noncomputable def fp(nl:Nat)(caps:List Nat)(mi:aW)(set:D→ai→R ai)(tst:cL)(elt:aN):aW:=fun ρ=>(mi ρ).bind fun ds=>eF (gx set tst elt ds (j1 nl caps ρ) [])
def dc(K:PySem.W.Frag)(G H:ag):bg:=⟨K,G,H,fun _ _=>False,gC⟩
def sP(K:PySem.W.Frag)(m:cL):TT:=fun σ H Q=>∃bD aR,gE (dc K bD aR) m σ H Q
def Ee(K:PySem.W.Frag)(m:aN):TE:=fun σ H Q=>∃bD aR,cZ (dc K bD aR) m σ H Q
def Cu:cJ→Bool
 |.un=>true|.ao _=>true
 |_=>false
theorem u_{H:ag}{s:cJ}(h:Cu s=true)(o:Option V)(a:ac1):¬fw H s o a:=by
 cases s<;>first
  |exact fun z=>z
  |cases h
def m9(ρ:ai):Prop:=∀(i:Nat)(s:cJ),ρ[i]?=some s→Cu s=true
theorem Cc(nl:Nat)(caps:List Nat)(ρ:ai):m9 (j1 nl caps ρ):=fun i s ae=>by
 unfold j1 at ae;by_cases ak:i<nl
 ·rw[adl (by simpa using ak),adC,if_pos ak]at ae;cases ae;rfl
 ·rw[adh (by simpa using ak),aea,ac4]at ae;cases hx:caps[i-nl]? with
  |none=>rw[hx]at ae;cases ae
  |some j=>rw[hx]at ae;have ah:fA (ρ.getD j .un)=s:=ac0 ae;subst ah;cases aD:ρ.getD j .un<;>rfl
def Keeps(set:D→ai→R ai):Prop:=∀d ρ ρ',set d ρ=.ok ρ'→m9 ρ→m9 ρ'
theorem yx(i:Nat):Keeps (bY i):=fun d ρ ρ' e n j ds z=>by
 unfold bY at e
 split at e
 ·cases e;rcases get_set z with⟨_,z⟩|⟨_,z⟩
  ·subst z;rfl
  ·exact n j ds z
 ·cases e
theorem Kd:∀{a8:List (D→ai→R ai)},(∀f∈a8,Keeps f)→∀ds ρ ρ',hX a8 ds ρ=.ok ρ'→m9 ρ→m9 ρ'
 |[],_,[],_,_,e,n=>by cases e;exact n
 |[],_,_::_,_,_,e,_=>by cases e
 |_::_,_,[],_,_,e,_=>by cases e
 |f::a8,h,d::ds,ρ,ρ',e,n=>by
  simp only[hX]at e;cases ae:f d ρ with
  |bad=>rw[ae]at e;cases e
  |exc c=>rw[ae]at e;cases e
  |ok ρ1=>rw[ae,R.bo]at e;exact Kd (fun g aI=>h g (by simp[aI])) ds ρ1 ρ' e (h f (by simp) d ρ ρ1 ae n)
theorem Kg{a8:List (D→ai→R ai)}(h:∀f∈a8,Keeps f):Keeps (gk a8):=fun d ρ ρ' e n=>by
 cases d<;>first
  |(exact Kd h _ _ _ e n)
  |(cases e)
section
variable{F:bg}
theorem JT{G H:ag}{σ :St}{ρ:ai}(r:Rel F G H σ ρ){acc:ac1}(U:H acc=none)(nl:Nat)(caps:List Nat) :
  Rel (dc F.K G H) G (upd H acc (.lst [])) (mm nl caps σ) (j1 nl caps ρ):=by
 refine⟨⟨Sub.pG r.az.sub (r.az.sub.gone U),Sub.refl _,Sub.upd U,fun _ _=>rfl⟩,by simp[mm,j1],fun i s e=>?_,fun i j b s s' o cc ae _ _ _ f _=>?_⟩
 ·unfold j1 at e;unfold mm;by_cases ak:i<nl
  ·rw[adl (by simpa using ak),adC,if_pos ak]at e;rw[adl (by simpa using ak),adC,if_pos ak];cases e;exact⟨none,rfl,trivial⟩
  ·rw[adh (by simpa using ak),aea,ac4]at e;rw[adh (by simpa using ak),aea,ac4];cases hx:caps[i-nl]? with
   |none=>rw[hx]at e;cases e
   |some j=>
    rw[hx]at e;refine⟨σ.getD j none,rfl,?_⟩;have ah:fA (ρ.getD j .un)=s:=ac0 e;subst ah;cases cb:ρ[j]? with
    |none=>
     have eg:ρ.getD j .un=.un:=by rw[ac6,cb];rfl
     rw[eg];exact trivial
    |some t=>
     have eg:ρ.getD j .un=t:=by rw[ac6,cb];rfl
     rw[eg];obtain⟨o,ae,q⟩:=r.cB j t cb;cases t with
     |un=>exact trivial
     |ob ds=>exact trivial
     |cy t=>exact trivial
     |dg _ t=>exact trivial
     |ao d=>obtain⟨v,au,a⟩:=q;refine⟨v,?_,a⟩;rw[ac6,ae,au];rfl
 ·exact absurd f (u_ (Cc nl caps ρ i s ae) o b)
theorem Qb{nl:Nat}{caps:List Nat}{mi:aW}{set:D→ai→R ai}{tst:cL}{elt:aN}{g:ht}(aI:∀G H,mc (dc F.K G H) g set)(aA:∀d ρ c,set d ρ≠.exc c)(aK:Keeps set) :
  dQ (jr F (fp nl caps mi set tst elt)) (q4 (jq F mi) g (sP F.K tst) (Ee F.K elt) nl caps):=by
 rintro σ H Q ⟨G,ρ,r,h⟩;unfold fp at h;refine⟨G,ρ,r,?_⟩;cases aj:mi ρ with
 |bad=>rw[aj]at h;exact h.elim
 |exc c=>rw[aj]at h;exact h
 |ok ds=>
  rw[aj,R.bo]at h;intro cC H1 aM aq ix it acc U;cases cb:gx set tst elt ds (j1 nl caps ρ) []with
  |bad=>rw[cb]at h;exact h.elim
  |exc c=>rw[cb]at h;exact h.elim
  |ok res=>
   rw[cb]at h
   refine⟨fun i m σ2 aX=>m=ds.length-i∧i≤ds.length∧∃ck c5 ys ws,Rel (dc F.K aM H1) ck aX σ2 c5∧m9 c5∧aX acc=some (.lst ys)∧ck acc=none∧aT F.K ck ws ys∧gx set tst elt (ds.drop i) c5 ws=.ok res,
    ⟨ds.length,by simp,aee _,aM,_,[],[],JT aq U nl caps,Cc _ _ _,dN,aq.az.sub.gone U,.nil,by simpa using cb⟩,?_⟩
   rintro i m σ2 aX ⟨rfl,ak,ck,c5,ys,ws,bp,dv,h1,h2,h3,h4⟩;have bt:Sub aM ck:=bp.az.dh;by_cases ed:i<ds.length
   ·refine .inr ⟨it.go i aX (bt.trans bp.az.sub) ed,fun x cK y=>?_⟩;obtain⟨d,dJ,bE,dt,ha,d3⟩:=iY.turn (F:=dc F.K aM H1) it bp bt ed y;have e4:ds.drop i=d::ds.drop (i+1):=by
     rw[ad9 ed];have:=acT ed;rw[bE]at this;rw[ac0 this]
    rw[e4]at h4;simp only[gx]at h4;cases c3:set d c5 with
    |bad=>rw[c3]at h4;cases h4
    |exc c=>exact absurd c3 (aA d c5 c)
    |ok e8=>
     rw[c3,R.bo]at h4;refine aI aM H1 σ2 c5 dJ cK x d _ e8 dt d3 c3 fun σ5 gi=>⟨aM,H1,dJ,e8,gi,?_⟩;have mJ:m9 e8:=aK d c5 e8 c3 dv;have tf:cK acc=some (.lst ys):=ha.h _ _ h1;have g3:dJ acc=none:=by rw[ha.n acc (by rw[h1];exact fun z=>nomatch z)];exact h2
     cases gZ:tst e8 with
     |bad=>rw[gZ]at h4;cases h4
     |exc c=>rw[gZ]at h4;cases h4
     |ok b=>
      rw[gZ,R.bo]at h4;intro lg kv kU q9;have oy:lg acc=some (.lst ys):=q9.h _ _ tf;have mx:kv acc=none:=by rw[q9.n acc (by rw[tf];exact fun z=>nomatch z)];exact g3
      have kA:aT F.K kv ws ys:=(h3.mono ha.g).mono q9.g;cases b with
      |false=>rw[if_neg adw]at h4;rw[if_neg adw];exact⟨_,by omega,rfl,ed,kv,e8,ys,ws,kU,mJ,oy,mx,kA,h4⟩
      |true=>
       rw[if_pos rfl]at h4;rw[if_pos rfl];refine⟨aM,H1,kv,e8,kU,?_⟩;cases qc:elt e8 with
       |bad=>rw[qc]at h4;cases h4
       |exc c=>rw[qc]at h4;cases h4
       |ok y=>
        rw[qc,R.bo]at h4;intro EB lh oo jO u8 zJ;have zL:lh acc=some (.lst ys):=u8.h _ _ oy;have tI:oo acc=none:=by rw[u8.n acc (by rw[oy];exact fun z=>nomatch z)];exact mx
        by_cases av:ws.length<1000000
        ·rw[if_pos av]at h4;have E0:aT F.K oo ws ys:=kA.mono u8.g;refine⟨ys,zL,by rw[←E0.length];exact aei av (by decide),_,by omega,rfl,ed,oo,e8,ys++[EB],ws++[y],?_,mJ,dN,tI,E0.snoc zJ,h4⟩;have k0:(dc F.K aM H1).aR acc=none:=U;refine⟨⟨Sub.pG jO.az.sub tI,jO.az.dh,fun c o z=>?_,jO.az.new⟩,jO.len,fun j t z=>?_,fun j k b s s' o cc d8 _ _ _ f _=>absurd f (u_ (mJ j s d8) o b)⟩
         ·rw[c8 (iO z k0)];exact jO.az.bw c o z
         ·obtain⟨o,bl,a_⟩:=jO.cB j t z;refine⟨o,bl,?_⟩;cases t with
          |un=>exact trivial
          |ao d=>exact a_
          |ob ah=>exact absurd (mJ j _ z) (fun w=>nomatch w)
          |cy ah=>exact absurd (mJ j _ z) (fun w=>nomatch w)
          |dg _ ah=>exact absurd (mJ j _ z) (fun w=>nomatch w)
        ·rw[if_neg av]at h4;cases h4
   ·have e:ds.drop i=[]:=aen (by omega);rw[e]at h4;simp only[gx]at h4;cases h4;have fo:i=ds.length:=by omega
    subst fo;refine .inl ⟨it.stop aX (bt.trans bp.az.sub),?_⟩;have k:d9 ⟨F.K,aM,H1,fun _ _=>False,gC⟩ ck aX:=bp.az;exact h acc ys aX ck (d9.of aq k) (ix.trans ⟨k.dh,k.bw,k.new⟩) (ix.h.gone U) h1 h2 h3
end
mutual
noncomputable def bO:D→D→Bool
 |.non,.non=>true
 |.aC a,.aC b=>a==b
 |.aC a,.int b=>(if a then 1 else 0)==b
 |.int a,.aC b=>a==(if b then 1 else 0)
 |.int a,.int b=>a==b
 |.str a,.str b=>a==b
 |.tup xs,.tup ys=>es xs ys
 |.tup xs,.dI ys=>es xs ys
 |.dI xs,.tup ys=>es xs ys
 |.dI xs,.dI ys=>es xs ys
 |.lst xs,.lst ys=>es xs ys
 |.lst xs,.cu ys=>es xs ys
 |.cu xs,.lst ys=>es xs ys
 |.cu xs,.cu ys=>es xs ys
 |_,_=>false
noncomputable def es:List D→List D→Bool
 |[],[]=>true
 |x::xs,y::ys=>bO x y&&es xs ys
 |_,_=>false
end
noncomputable def okN:Nat→D→Bool
 |_,.non=>true
 |_,.aC _=>true
 |_,.int _=>true
 |_,.str _=>true
 |n+1,.tup xs=>xs.all (okN n)
 |n+1,.dI xs=>xs.all (okN n)
 |n+1,.lst xs=>xs.all (okN n)
 |n+1,.cu xs=>xs.all (okN n)
 |_,_=>false
inductive j0(s:acW)(P:D→acV→Prop):D→acV→Prop where
 |non:j0 s P .non .none
 |aC (b:Bool):j0 s P (.aC b) (.bool b)
 |int (i:Int) (t:Tok):j0 s P (.int i) (.int i t)
 |str (x:Str) (t:Tok):j0 s P (.str x) (.str x t)
 |tup (a:ac1) (ds:List D) (its:List acV) (h:s.heap.IsTuple a its.toArray) (l:ds.length=its.length) (p:∀(i:Nat) d u,ds[i]?=some d→its[i]?=some u→P d u):j0 s P (.tup ds) (.ref a)
 |dI (a:ac1) (ds:List D) (its:List acV) (h:s.heap.IsTuple a its.toArray) (l:ds.length=its.length) (p:∀(i:Nat) d u,ds[i]?=some d→its[i]?=some u→P d u):j0 s P (.dI ds) (.ref a)
 |lst (a:ac1) (ds:List D) (its:List acV) (h:s.heap.IsList a its.toArray) (l:ds.length=its.length) (p:∀(i:Nat) d u,ds[i]?=some d→its[i]?=some u→P d u):j0 s P (.lst ds) (.ref a)
 |cu (a:ac1) (ds:List D) (its:List acV) (h:s.heap.IsList a its.toArray) (l:ds.length=its.length) (p:∀(i:Nat) d u,ds[i]?=some d→its[i]?=some u→P d u):j0 s P (.cu ds) (.ref a)
def l5(K:PySem.W.Frag)(G:ag)(d:D)(u:acV):Prop:=∃x,At K G d x∧RelV x u
section
variable{X:aS}{pins:List (ac1×Obj)}{σ :St}{H G:ag}{s:acW}
theorem r0{K:PySem.W.Frag}{ds:List D}{xs:List V}{its:List acV}(q:aT K G ds xs)(r:Vals xs its):∀(i:Nat) d u,ds[i]?=some d→its[i]?=some u→l5 K G d u:=fun i d u ae au=>by obtain⟨v,bE,a⟩:=q.get ae;obtain⟨fZ,c3,b4⟩:=r.get bE;rw[au]at c3;cases c3;exact⟨v,a,b4⟩
theorem pz(I:Inv X pins σ H s)(bt:Sub G H){d:D}{u:acV}{n:Nat}(ok:okN n d=true)(h:l5 X.K G d u):j0 s (l5 X.K G) d u:=by
 obtain⟨x,a,r⟩:=h;cases d with
 |non=>simp only[At]at a;subst a;cases r;exact .non
 |aC b=>simp only[At]at a;subst a;cases r;exact .aC b
 |int i=>simp only[At]at a;subst a;obtain⟨t,rfl⟩:=r;exact .int i t
 |str i=>simp only[At]at a;subst a;obtain⟨t,rfl⟩:=r;exact .str i t
 |tup ds=>simp only[At]at a;obtain⟨p,xs,rfl,aP,al⟩:=a;cases r;obtain⟨its,b4,bJ,_⟩:=I.tuple (b_.of (bt _ _ aP));exact .tup p ds its bJ (al.length.trans b4.length) (r0 al b4)
 |lst ds=>simp only[At]at a;obtain⟨p,xs,rfl,aP,al⟩:=a;cases r;obtain⟨its,b4,bJ,_⟩:=I.list (bQ.of (bt _ _ aP));exact .lst p ds its bJ.isList (al.length.trans b4.length) (r0 al b4)
 |cu ds=>simp only[At]at a;obtain⟨p,xs,rfl,aP,al⟩:=a;cases r;obtain⟨its,b4,bJ,_⟩:=I.list (bQ.mono bt aP);exact .cu p ds its bJ.isList (al.length.trans b4.length) (r0 al b4)
 |eO ks xs=>cases n<;>cases ok
 |bH ks xs=>cases n<;>cases ok
 |ins C ns xs=>cases n<;>cases ok
 |qg C=>cases n<;>cases ok
 |dI ds=>simp only[At]at a;obtain⟨p,xs,rfl,aP,al⟩:=a;cases r;obtain⟨its,b4,bJ,_⟩:=I.tuple (b_.mono bt aP);exact .dI p ds its bJ (al.length.trans b4.length) (r0 al b4)
theorem AU:∀{xs ys:List D},xs.length≠ys.length→es xs ys=false
 |[],[],h=>absurd rfl h
 |[],_::_,_=>by simp only[es]
 |_::_,[],_=>by simp only[es]
 |x::xs,y::ys,h=>by simp only[es];rw[AU (fun e=>h (by simp[e])),ahy]
def lH(xs ys:List D)(j:Nat):Bool:=match xs[j]?,ys[j]? with
 |some x,some y=>bO x y
 |_,_=>true
theorem Mq(f:Nat→Bool)(n:Nat):(adG (n+1)).all f=(f 0&&(adG n).all fun j=>f (j+1)):=by rw[List.range_succ_eq_map,afd,af3];rfl
theorem AV:∀{xs ys:List D},xs.length=ys.length→(adG xs.length).all (lH xs ys)=es xs ys
 |[],[],_=>by simp[es]
 |[],_::_,h=>by simp at h
 |_::_,[],h=>by simp at h
 |x::xs,y::ys,h=>by
  rw[adf,Mq];have e:(fun j=>lH (x::xs) (y::ys) (j+1))=lH xs ys:=by
   funext j
   simp[lH]
  rw[e,AV (by simpa using h)];simp only[es];rfl
theorem in1_units(A:adp):A.in1.units=A.units+1:=rfl
theorem J9{A:adp}{P:D→acV→Prop}{d1 cM:D}{u v:acV}(h1:j0 s P d1 u)(h2:j0 s P cM v)(cQ:g8 d1=true)(cf:g8 cM=true) :
  ahe A s u v (bO d1 cM)∧ah5 A s u v (bO d1 cM)∧agS A s u v (!bO d1 cM):=by
 cases h1 with
 |non=>
  cases h2 with
  |non=>simp only[bO];exact⟨aih _,SeqAt.RcAt.none_none,SeqAt.RcNeAt.none_none⟩
  |aC fc=>simp only[bO];exact⟨SeqAt.EqAt.none_bool _,SeqAt.RcAt.none_bool _,SeqAt.RcNeAt.none_bool _⟩
  |int bz d7=>simp only[bO];exact⟨SeqAt.EqAt.none_int _ _,SeqAt.RcAt.none_int _ _,SeqAt.RcNeAt.none_int _ _⟩
  |str gp d7=>simp only[bO];exact⟨SeqAt.EqAt.none_str _ _,SeqAt.RcAt.none_str _ _,SeqAt.RcNeAt.none_str _ _⟩
  |tup=>cases cf
  |dI=>cases cf
  |lst=>cases cf
  |cu=>cases cf
 |aC gX=>
  cases h2 with
  |non=>simp only[bO];exact⟨SeqAt.EqAt.bool_none _,SeqAt.RcAt.bool_none _,SeqAt.RcNeAt.bool_none _⟩
  |aC fc=>simp only[bO];exact⟨SeqAt.EqAt.bool_bool _ _,SeqAt.RcAt.bool_bool _ _,SeqAt.RcNeAt.bool_bool _ _⟩
  |int bz d7=>simp only[bO];exact⟨SeqAt.EqAt.bool_int _ _ _,SeqAt.RcAt.bool_int _ _ _,SeqAt.RcNeAt.bool_int _ _ _⟩
  |str gp d7=>simp only[bO];exact⟨SeqAt.EqAt.bool_str _ _ _,SeqAt.RcAt.bool_str _ _ _,SeqAt.RcNeAt.bool_str _ _ _⟩
  |tup=>cases cf
  |dI=>cases cf
  |lst=>cases cf
  |cu=>cases cf
 |int bB t1=>
  cases h2 with
  |non=>simp only[bO];exact⟨SeqAt.EqAt.int_none _ _,SeqAt.RcAt.int_none _ _,SeqAt.RcNeAt.int_none _ _⟩
  |aC fc=>simp only[bO];exact⟨SeqAt.EqAt.int_bool _ _ _,SeqAt.RcAt.int_bool _ _ _,SeqAt.RcNeAt.int_bool _ _ _⟩
  |int bz d7=>simp only[bO];exact⟨SeqAt.EqAt.int_int _ _ _ _,SeqAt.RcAt.int_int _ _ _ _,SeqAt.RcNeAt.int_int _ _ _ _⟩
  |str gp d7=>simp only[bO];exact⟨ahQ _ _ _ _,SeqAt.RcAt.int_str _ _ _ _,SeqAt.RcNeAt.int_str _ _ _ _⟩
  |tup=>cases cf
  |dI=>cases cf
  |lst=>cases cf
  |cu=>cases cf
 |str hc t1=>
  cases h2 with
  |non=>simp only[bO];exact⟨SeqAt.EqAt.str_none _ _,SeqAt.RcAt.str_none _ _,SeqAt.RcNeAt.str_none _ _⟩
  |aC fc=>simp only[bO];exact⟨SeqAt.EqAt.str_bool _ _ _,SeqAt.RcAt.str_bool _ _ _,SeqAt.RcNeAt.str_bool _ _ _⟩
  |int bz d7=>simp only[bO];exact⟨ahR _ _ _ _,SeqAt.RcAt.str_int _ _ _ _,SeqAt.RcNeAt.str_int _ _ _ _⟩
  |str gp d7=>simp only[bO];exact⟨SeqAt.EqAt.str_str _ _ _ _,SeqAt.RcAt.str_str _ _ _ _,SeqAt.RcNeAt.str_str _ _ _ _⟩
  |tup=>cases cf
  |dI=>cases cf
  |lst=>cases cf
  |cu=>cases cf
 |tup=>cases cQ
 |dI=>cases cQ
 |lst=>cases cQ
 |cu=>cases cQ
theorem IL{A:adp}{P:D→acV→Prop}{d1 cM:D}{u v:acV}(aV:A.units<aeB)(h1:j0 s P d1 u)(h2:j0 s P cM v)(o:g8 d1=true∧g8 cM=false∨g8 d1=false∧g8 cM=true) :
  ahe A s u v (bO d1 cM)∧ah5 A s u v (bO d1 cM)∧agS A s u v (!bO d1 cM):=by
 cases h1 with
 |non=>
  cases h2 with
  |non=>rcases o with⟨bl,a_⟩|⟨bl,a_⟩<;>first|(cases bl;done)|(cases a_;done)
  |aC=>rcases o with⟨bl,a_⟩|⟨bl,a_⟩<;>first|(cases bl;done)|(cases a_;done)
  |int=>rcases o with⟨bl,a_⟩|⟨bl,a_⟩<;>first|(cases bl;done)|(cases a_;done)
  |str=>rcases o with⟨bl,a_⟩|⟨bl,a_⟩<;>first|(cases bl;done)|(cases a_;done)
  |tup a2 ej eC cP a3 cj=>simp only[bO,ac9];exact⟨agT cP aV,agU cP aV,agj cP aV⟩
  |dI a2 ej eC cP a3 cj=>simp only[bO,ac9];exact⟨agT cP aV,agU cP aV,agj cP aV⟩
  |lst a2 ej eC cP a3 cj=>simp only[bO,ac9];exact⟨ahh cP aV,ahi cP aV,agA cP aV⟩
  |cu a2 ej eC cP a3 cj=>simp only[bO,ac9];exact⟨ahh cP aV,ahi cP aV,agA cP aV⟩
 |aC gX=>
  cases h2 with
  |non=>rcases o with⟨bl,a_⟩|⟨bl,a_⟩<;>first|(cases bl;done)|(cases a_;done)
  |aC=>rcases o with⟨bl,a_⟩|⟨bl,a_⟩<;>first|(cases bl;done)|(cases a_;done)
  |int=>rcases o with⟨bl,a_⟩|⟨bl,a_⟩<;>first|(cases bl;done)|(cases a_;done)
  |str=>rcases o with⟨bl,a_⟩|⟨bl,a_⟩<;>first|(cases bl;done)|(cases a_;done)
  |tup a2 ej eC cP a3 cj=>simp only[bO,ac9];exact⟨agV _ cP aV,agW _ cP aV,agk _ cP aV⟩
  |dI a2 ej eC cP a3 cj=>simp only[bO,ac9];exact⟨agV _ cP aV,agW _ cP aV,agk _ cP aV⟩
  |lst a2 ej eC cP a3 cj=>simp only[bO,ac9];exact⟨ahj _ cP aV,ahk _ cP aV,agB _ cP aV⟩
  |cu a2 ej eC cP a3 cj=>simp only[bO,ac9];exact⟨ahj _ cP aV,ahk _ cP aV,agB _ cP aV⟩
 |int bB t1=>
  cases h2 with
  |non=>rcases o with⟨bl,a_⟩|⟨bl,a_⟩<;>first|(cases bl;done)|(cases a_;done)
  |aC=>rcases o with⟨bl,a_⟩|⟨bl,a_⟩<;>first|(cases bl;done)|(cases a_;done)
  |int=>rcases o with⟨bl,a_⟩|⟨bl,a_⟩<;>first|(cases bl;done)|(cases a_;done)
  |str=>rcases o with⟨bl,a_⟩|⟨bl,a_⟩<;>first|(cases bl;done)|(cases a_;done)
  |tup a2 ej eC cP a3 cj=>simp only[bO,ac9];exact⟨ahl _ _ cP aV,ahm _ _ cP aV,agC _ _ cP aV⟩
  |dI a2 ej eC cP a3 cj=>simp only[bO,ac9];exact⟨ahl _ _ cP aV,ahm _ _ cP aV,agC _ _ cP aV⟩
  |lst a2 ej eC cP a3 cj=>simp only[bO,ac9];exact⟨ahD _ _ cP aV,ahE _ _ cP aV,agX _ _ cP aV⟩
  |cu a2 ej eC cP a3 cj=>simp only[bO,ac9];exact⟨ahD _ _ cP aV,ahE _ _ cP aV,agX _ _ cP aV⟩
 |str hc t1=>
  cases h2 with
  |non=>rcases o with⟨bl,a_⟩|⟨bl,a_⟩<;>first|(cases bl;done)|(cases a_;done)
  |aC=>rcases o with⟨bl,a_⟩|⟨bl,a_⟩<;>first|(cases bl;done)|(cases a_;done)
  |int=>rcases o with⟨bl,a_⟩|⟨bl,a_⟩<;>first|(cases bl;done)|(cases a_;done)
  |str=>rcases o with⟨bl,a_⟩|⟨bl,a_⟩<;>first|(cases bl;done)|(cases a_;done)
  |tup a2 ej eC cP a3 cj=>simp only[bO,ac9];exact⟨ahn _ _ cP aV,aho _ _ cP aV,agD _ _ cP aV⟩
  |dI a2 ej eC cP a3 cj=>simp only[bO,ac9];exact⟨ahn _ _ cP aV,aho _ _ cP aV,agD _ _ cP aV⟩
  |lst a2 ej eC cP a3 cj=>simp only[bO,ac9];exact⟨ahF _ _ cP aV,ahG _ _ cP aV,agY _ _ cP aV⟩
  |cu a2 ej eC cP a3 cj=>simp only[bO,ac9];exact⟨ahF _ _ cP aV,ahG _ _ cP aV,agY _ _ cP aV⟩
 |tup a1 fN fC cO fD dr=>
  cases h2 with
  |non=>simp only[bO,ac9];exact⟨agZ cO aV,ag0 cO aV,agl cO aV⟩
  |aC fc=>simp only[bO,ac9];exact⟨ag1 _ cO aV,ag2 _ cO aV,agm _ cO aV⟩
  |int bz d7=>simp only[bO,ac9];exact⟨ahp _ _ cO aV,ahq _ _ cO aV,agE _ _ cO aV⟩
  |str gp d7=>simp only[bO,ac9];exact⟨ahr _ _ cO aV,ahs _ _ cO aV,agF _ _ cO aV⟩
  |tup=>rcases o with⟨bl,a_⟩|⟨bl,a_⟩<;>first|(cases bl;done)|(cases a_;done)
  |dI=>rcases o with⟨bl,a_⟩|⟨bl,a_⟩<;>first|(cases bl;done)|(cases a_;done)
  |lst=>rcases o with⟨bl,a_⟩|⟨bl,a_⟩<;>first|(cases bl;done)|(cases a_;done)
  |cu=>rcases o with⟨bl,a_⟩|⟨bl,a_⟩<;>first|(cases bl;done)|(cases a_;done)
 |dI a1 fN fC cO fD dr=>
  cases h2 with
  |non=>simp only[bO,ac9];exact⟨agZ cO aV,ag0 cO aV,agl cO aV⟩
  |aC fc=>simp only[bO,ac9];exact⟨ag1 _ cO aV,ag2 _ cO aV,agm _ cO aV⟩
  |int bz d7=>simp only[bO,ac9];exact⟨ahp _ _ cO aV,ahq _ _ cO aV,agE _ _ cO aV⟩
  |str gp d7=>simp only[bO,ac9];exact⟨ahr _ _ cO aV,ahs _ _ cO aV,agF _ _ cO aV⟩
  |tup=>rcases o with⟨bl,a_⟩|⟨bl,a_⟩<;>first|(cases bl;done)|(cases a_;done)
  |dI=>rcases o with⟨bl,a_⟩|⟨bl,a_⟩<;>first|(cases bl;done)|(cases a_;done)
  |lst=>rcases o with⟨bl,a_⟩|⟨bl,a_⟩<;>first|(cases bl;done)|(cases a_;done)
  |cu=>rcases o with⟨bl,a_⟩|⟨bl,a_⟩<;>first|(cases bl;done)|(cases a_;done)
 |lst a1 fN fC cO fD dr=>
  cases h2 with
  |non=>simp only[bO,ac9];exact⟨aht cO aV,ahu cO aV,agG cO aV⟩
  |aC fc=>simp only[bO,ac9];exact⟨ahv _ cO aV,ahw _ cO aV,agH _ cO aV⟩
  |int bz d7=>simp only[bO,ac9];exact⟨ahH _ _ cO aV,ahI _ _ cO aV,ag3 _ _ cO aV⟩
  |str gp d7=>simp only[bO,ac9];exact⟨ahJ _ _ cO aV,ahK _ _ cO aV,ag4 _ _ cO aV⟩
  |tup=>rcases o with⟨bl,a_⟩|⟨bl,a_⟩<;>first|(cases bl;done)|(cases a_;done)
  |dI=>rcases o with⟨bl,a_⟩|⟨bl,a_⟩<;>first|(cases bl;done)|(cases a_;done)
  |lst=>rcases o with⟨bl,a_⟩|⟨bl,a_⟩<;>first|(cases bl;done)|(cases a_;done)
  |cu=>rcases o with⟨bl,a_⟩|⟨bl,a_⟩<;>first|(cases bl;done)|(cases a_;done)
 |cu a1 fN fC cO fD dr=>
  cases h2 with
  |non=>simp only[bO,ac9];exact⟨aht cO aV,ahu cO aV,agG cO aV⟩
  |aC fc=>simp only[bO,ac9];exact⟨ahv _ cO aV,ahw _ cO aV,agH _ cO aV⟩
  |int bz d7=>simp only[bO,ac9];exact⟨ahH _ _ cO aV,ahI _ _ cO aV,ag3 _ _ cO aV⟩
  |str gp d7=>simp only[bO,ac9];exact⟨ahJ _ _ cO aV,ahK _ _ cO aV,ag4 _ _ cO aV⟩
  |tup=>rcases o with⟨bl,a_⟩|⟨bl,a_⟩<;>first|(cases bl;done)|(cases a_;done)
  |dI=>rcases o with⟨bl,a_⟩|⟨bl,a_⟩<;>first|(cases bl;done)|(cases a_;done)
  |lst=>rcases o with⟨bl,a_⟩|⟨bl,a_⟩<;>first|(cases bl;done)|(cases a_;done)
  |cu=>rcases o with⟨bl,a_⟩|⟨bl,a_⟩<;>first|(cases bl;done)|(cases a_;done)
theorem F4:∀{xs ys:List D},xs.length=ys.length→(∀(i:Nat) x y,xs[i]?=some x→ys[i]?=some y→bO x y=true)→es xs ys=true
 |[],[],_,_=>by simp only[es]
 |[],_::_,h,_=>by simp at h
 |_::_,[],h,_=>by simp at h
 |x::xs,y::ys,h,k=>by simp only[es];rw[k 0 x y rfl rfl,F4 (by simpa using h) fun i a b ae au=>k (i+1) a b (by simpa using ae) (by simpa using au)];rfl
theorem Ka{K:PySem.W.Frag}{d1 cM:D}{x:V}(cQ:g8 d1=true)(a1:At K G d1 x)(a2:At K G cM x):bO d1 cM=true:=by
 cases d1 with
 |non=>simp only[At]at a1;subst a1;cases cM<;>simp only[At]at a2<;>first|(simp only[bO];done)|(cases a2;done)|(obtain⟨a,xs,e,_⟩:=a2;cases e;done)|(obtain⟨a,bA,xs,e,_⟩:=a2;cases e;done)
 |aC b=>simp only[At]at a1;subst a1;cases cM<;>simp only[At]at a2<;>first|(cases a2;simp only[bO,beq_self_eq_true];done)|(cases a2;done)|(obtain⟨a,xs,e,_⟩:=a2;cases e;done)|(obtain⟨a,bA,xs,e,_⟩:=a2;cases e;done)
 |int b=>simp only[At]at a1;subst a1;cases cM<;>simp only[At]at a2<;>first|(cases a2;simp only[bO,beq_self_eq_true];done)|(cases a2;done)|(obtain⟨a,xs,e,_⟩:=a2;cases e;done)|(obtain⟨a,bA,xs,e,_⟩:=a2;cases e;done)
 |str b=>simp only[At]at a1;subst a1;cases cM<;>simp only[At]at a2<;>first|(cases a2;simp only[bO,beq_self_eq_true];done)|(cases a2;done)|(obtain⟨a,xs,e,_⟩:=a2;cases e;done)|(obtain⟨a,bA,xs,e,_⟩:=a2;cases e;done)
 |_=>cases cQ
theorem F3{d1 cM:D}(cf:g8 cM=true)(cQ:g8 d1=false){K:PySem.W.Frag}{x:V}(a1:At K G d1 x)(a2:At K G cM x):False:=by
 cases cM<;>first
  |(cases cf;done)
  |(simp only[At]at a2;subst a2
    cases d1<;>first
     |(cases cQ;done)
     |(simp only[At]at a1;obtain⟨a,xs,e,_⟩:=a1;cases e;done)
     |(simp only[At]at a1;obtain⟨a,bA,xs,e,_⟩:=a1;cases e;done))
inductive hg(K:PySem.W.Frag)(G:ag):D→ac1→Bool→List D→List V→Prop where
 |tup {a ds xs} (h:b_ K G a xs) (q:aT K G ds xs):hg K G (.tup ds) a true ds xs
 |dI {a ds xs} (h:b_ K G a xs) (q:aT K G ds xs):hg K G (.dI ds) a true ds xs
 |lst {a ds xs} (h:G a=some (.lst xs)) (q:aT K G ds xs):hg K G (.lst ds) a false ds xs
 |cu {a ds xs} (h:bQ K G a xs) (q:aT K G ds xs):hg K G (.cu ds) a false ds xs
theorem sI{K:PySem.W.Frag}{n:Nat}{d:D}{x:V}(o:okN n d=true)(ns:g8 d=false)(a:At K G d x):∃p b ds xs,x=.ref p∧hg K G d p b ds xs∧∃m,n=m+1∧ds.all (okN m)=true:=by
 cases d with
 |tup ds=>
  simp only[At]at a;obtain⟨p,xs,e,h,q⟩:=a;cases n with
  |zero=>cases o
  |succ m=>exact⟨p,_,ds,xs,e,.tup (b_.of h) q,m,rfl,o⟩
 |lst ds=>
  simp only[At]at a;obtain⟨p,xs,e,h,q⟩:=a;cases n with
  |zero=>cases o
  |succ m=>exact⟨p,_,ds,xs,e,.lst h q,m,rfl,o⟩
 |cu ds=>
  simp only[At]at a;obtain⟨p,xs,e,h,q⟩:=a;cases n with
  |zero=>cases o
  |succ m=>exact⟨p,_,ds,xs,e,.cu h q,m,rfl,o⟩
 |eO _ _=>cases n<;>cases o
 |bH _ _=>cases n<;>cases o
 |ins _ _ _=>cases n<;>cases o
 |qg _=>cases n<;>cases o
 |dI ds=>
  simp only[At]at a;obtain⟨p,xs,e,h,q⟩:=a;cases n with
  |zero=>cases o
  |succ m=>exact⟨p,_,ds,xs,e,.dI h q,m,rfl,o⟩
 |_=>cases ns
theorem hg.hu{K:PySem.W.Frag}{d:D}{p:ac1}{b:Bool}{ds:List D}{xs:List V}(h:hg K G d p b ds xs):aT K G ds xs:=by cases h<;>assumption
theorem hg.eq{K:PySem.W.Frag}{d1 cM:D}{dr cj:ac1}{gX fc:Bool}{fN ej:List D}{pK mV:List V}(h1:hg K G d1 dr gX fN pK)(h2:hg K G cM cj fc ej mV):bO d1 cM=(gX==fc&&es fN ej):=by cases h1<;>cases h2<;>simp[bO]
theorem hg.heap(I:Inv X pins σ H s)(bt:Sub G H){d:D}{p:ac1}{b:Bool}{ds:List D}{xs:List V}(h:hg X.K G d p b ds xs) :
  ∃its:List acV,Vals xs its∧(b=true→s.heap.IsTuple p its.toArray)∧(b=false→s.heap.IsList p its.toArray):=by
 cases h with
 |tup h q=>obtain⟨its,b4,bJ,_⟩:=I.tuple (b_.mono bt h);exact⟨its,b4,fun _=>bJ,fun z=>by cases z⟩
 |dI h q=>obtain⟨its,b4,bJ,_⟩:=I.tuple (b_.mono bt h);exact⟨its,b4,fun _=>bJ,fun z=>by cases z⟩
 |lst h q=>obtain⟨its,b4,bJ,_⟩:=I.list (bQ.of (bt _ _ h));exact⟨its,b4,(fun z=>by cases z),fun _=>bJ.isList⟩
 |cu h q=>obtain⟨its,b4,bJ,_⟩:=I.list (bQ.mono bt h);exact⟨its,b4,(fun z=>by cases z),fun _=>bJ.isList⟩
theorem hg.same(I:Inv X pins σ H s)(bt:Sub G H){d1 cM:D}{p:ac1}{gX fc:Bool}{fN ej:List D}{pK mV:List V}(h1:hg X.K G d1 p gX fN pK)(h2:hg X.K G cM p fc ej mV):gX=fc∧pK=mV:=by
 obtain⟨fC,aq,t1,fD⟩:=h1.heap I bt;obtain⟨eC,bp,d7,a3⟩:=h2.heap I bt;cases gX with
 |true=>
  cases fc with
  |false=>exact absurd rfl (agI (a3 rfl) (t1 rfl))
  |true=>
   refine⟨rfl,?_⟩;cases h1<;>cases h2<;>
   exact I.vy (b_.mono bt (by assumption)) (b_.mono bt (by assumption))
 |false=>
  cases fc with
  |true=>exact absurd rfl (agI (fD rfl) (d7 rfl))
  |false=>
   refine⟨rfl,?_⟩;have g1:bQ X.K H p pK:=by
    cases h1 with
    |lst h q=>exact bQ.of (bt _ _ h)
    |cu h q=>exact bQ.mono bt h
   have g2:bQ X.K H p mV:=by
    cases h2 with
    |lst h q=>exact bQ.of (bt _ _ h)
    |cu h q=>exact bQ.mono bt h
   exact I.uc g1 g2
theorem rA{f:D→Bool}{ds:List D}(h:ds.all f=true){i:Nat}{d:D}(e:ds[i]?=some d):f d=true:=List.all_eq_true.mp h d (adg e)
theorem Mw(I:Inv X pins σ H s)(bt:Sub G H):∀(n:Nat){d1 cM:D}{x:V},okN n d1=true→okN n cM=true→At X.K G d1 x→At X.K G cM x→bO d1 cM=true:=by
 intro n;induction n with
 |zero=>intro d1 cM x cQ cf a1 a2;exact Ka (by cases d1<;>first|rfl|(cases cQ)) a1 a2
 |succ n cq=>
  intro d1 cM x cQ cf a1 a2;cases s1:g8 d1 with
  |true=>exact Ka s1 a1 a2
  |false=>
   cases s2:g8 cM with
   |true=>exact(F3 s2 s1 a1 a2).elim
   |false=>
    obtain⟨dr,gX,fN,pK,ae,bb,m1,FW,k1⟩:=sI cQ s1 a1;obtain⟨cj,fc,ej,mV,au,bN,m2,FX,k2⟩:=sI cf s2 a2;subst ae;cases au;have:n=m1:=by omega
    subst this;have:n=m2:=by omega
    subst this;obtain⟨bx,ex⟩:=bb.same I bt bN;subst bx;subst ex;rw[bb.eq bN,beq_self_eq_true,afM];refine F4 (bb.hu.length.trans bN.hu.length.symm) fun i a b aj bx=>?_;obtain⟨v,ev,bc⟩:=bb.hu.get aj;obtain⟨gn,tF,bv⟩:=bN.hu.get bx;rw[ev]at tF;cases tF;exact cq (rA k1 aj) (rA k2 bx) bc bv
theorem AS(I:Inv X pins σ H s)(bt:Sub G H):∀(n:Nat){d1 cM:D}{u v:acV}{A:adp},okN n d1=true→okN n cM=true→l5 X.K G d1 u→l5 X.K G cM v→A.units+n<aeB→
  ahe A s u v (bO d1 cM)∧ah5 A s u v (bO d1 cM)∧agS A s u v (!bO d1 cM):=by
 intro n;induction n with
 |zero=>
  intro d1 cM u v A cQ cf a1 a2 aV;refine J9 (pz I bt cQ a1) (pz I bt cf a2) ?_ ?_
  ·cases d1<;>first|rfl|(cases cQ)
  ·cases cM<;>first|rfl|(cases cf)
 |succ n cq=>
  intro d1 cM u v A cQ cf a1 a2 aV;have kK:A.units<aeB:=by omega
  cases s1:g8 d1 with
  |true=>
   cases s2:g8 cM with
   |true=>exact J9 (pz I bt cQ a1) (pz I bt cf a2) s1 s2
   |false=>exact IL kK (pz I bt cQ a1) (pz I bt cf a2) (.inl ⟨s1,s2⟩)
  |false=>
   cases s2:g8 cM with
   |true=>exact IL kK (pz I bt cQ a1) (pz I bt cf a2) (.inr ⟨s1,s2⟩)
   |false=>
    obtain⟨hc,E_,V4⟩:=a1;obtain⟨gp,at2,V5⟩:=a2;obtain⟨dr,gX,fN,pK,ae,bb,m1,FW,k1⟩:=sI cQ s1 E_;obtain⟨cj,fc,ej,mV,au,bN,m2,FX,k2⟩:=sI cf s2 at2;subst ae;subst au;cases V4;cases V5;have:n=m1:=by omega
    subst this;have:n=m2:=by omega
    subst this;obtain⟨fC,aq,t1,fD⟩:=bb.heap I bt;obtain⟨eC,bp,d7,a3⟩:=bN.heap I bt;have r5:fN.length=fC.length:=bb.hu.length.trans aq.length;have ub:ej.length=eC.length:=bN.hu.length.trans bp.length;have item:∀j(h1:j<fC.toArray.size)(h2:j<eC.toArray.size),ahe A.in1 s fC.toArray[j] eC.toArray[j] (lH fN ej j):=fun j h1 h2=>by
     have t8:j<fN.length:=by rw[r5];simpa using h1
     have lI:j<ej.length:=by rw[ub];simpa using h2
     have g1:l5 X.K G fN[j] fC.toArray[j]:=r0 bb.hu aq j _ _ (acT t8) (by simp at h1;simp[h1]);have g2:l5 X.K G ej[j] eC.toArray[j]:=r0 bN.hu bp j _ _ (acT lI) (by simp at h2;simp[h2]);have:=(cq (A:=A.in1) (rA k1 (acT t8)) (rA k2 (acT lI)) g1 g2 (by rw[in1_units];omega)).1;unfold lH;rw[acT t8,acT lI];exact this
    have whole:ah5 A s (.ref dr) (.ref cj) (bO d1 cM)∧agS A s (.ref dr) (.ref cj) (!bO d1 cM):=by
     rw[bb.eq bN];cases gX with
     |true=>
      cases fc with
      |false=>exact⟨SeqAt.RcAt.tuple_list (t1 rfl) (a3 rfl) kK,SeqAt.RcNeAt.tuple_list (t1 rfl) (a3 rfl) kK⟩
      |true=>
       have cp:=SeqAt.RcAt.tuples (e:=lH fN ej) (t1 rfl) (d7 rfl) kK item;have dO:=SeqAt.RcNeAt.tuples (e:=lH fN ej) (t1 rfl) (d7 rfl) kK item;have eq:((adG (min fC.toArray.size eC.toArray.size)).all (lH fN ej)&&fC.toArray.size==eC.toArray.size)=(true==true&&es fN ej):=by
        rw[acY,acY,←r5,←ub,beq_self_eq_true,afM];by_cases av:fN.length=ej.length
        ·rw[←av,Nat.min_self,AV av,beq_self_eq_true,afe]
        ·rw[AU av];have:(fN.length==ej.length)=false:=by simpa using av
         rw[this,ahy]
       rw[eq]at cp;refine⟨cp,?_⟩
       first
        |(rw[eq]at dO;exact dO)
        |exact dO
     |false=>
      cases fc with
      |true=>exact⟨SeqAt.RcAt.list_tuple (fD rfl) (d7 rfl) kK,SeqAt.RcNeAt.list_tuple (fD rfl) (d7 rfl) kK⟩
      |false=>
       rw[beq_self_eq_true,afM];by_cases av:fN.length=ej.length
       ·have cp:=SeqAt.RcAt.lists (e:=lH fN ej) (fD rfl) (a3 rfl) (by rw[acY,acY,←r5,←ub];exact av) kK item;have dO:=SeqAt.RcNeAt.lists (e:=lH fN ej) (fD rfl) (a3 rfl) (by rw[acY,acY,←r5,←ub];exact av) kK item;rw[acY,←r5,AV av]at cp dO;exact⟨cp,dO⟩
       ·have bj:(fC.toArray.size !=eC.toArray.size)=true:=by
          rw[acY,acY,←r5,←ub];simpa using av
        rw[AU av];exact⟨SeqAt.RcAt.lists_lengths (fD rfl) (a3 rfl) bj kK,SeqAt.RcNeAt.lists_lengths (fD rfl) (a3 rfl) bj kK⟩
    refine⟨?_,whole⟩;by_cases a5:dr=cj
    ·subst a5;rw[Mw I bt (n+1) cQ cf E_ at2];exact aih _
    ·exact SeqAt.EqAt.of_refs a5 whole.1
end
def notStar:adq→Bool
 |.Starred .. =>false
 |_=>true
theorem n9(e:adq)(ah:List adq)(env:Env)(h:notStar e=true):acX (e::ah) env=(false,adW e env)::acX ah env:=by cases e<;>first|rfl|(cases h)
def lP:adq→Bool
 |.ListComp .. =>false
 |.SetComp .. =>false
 |.DictComp .. =>false
 |_=>true
theorem iR(e:adq)(t:Option adq)(l:Nat)(env:Env)(h:lP e=true):afu e t l env=pure false:=by cases e<;>first|rfl|(cases h)
def TU:adq→Bool
 |.Slice .. =>false
 |_=>true
theorem bC{b:adq}(h:TU b=true:=by rfl):pY b:=fun o i=>by cases b<;>first|rfl|(cases h)
section
variable{X:aS}{F:bg}{e a b c:adq}{ah:List adq}{pos:Pos}
theorem a4.imp{t t':TE}(h:a4 X e t)(i:dQ t' t):a4 X e t':=fun pins s σ H Q I hw=>h pins s σ H Q I (i σ H Q hw)
theorem e_.imp{t t':TT}(h:e_ X e t)(i:m4 t' t):e_ X e t':=fun pins s σ H Q I hw=>h pins s σ H Q I (i σ H Q hw)
theorem i0.imp{t t':TT}(h:i0 X e t)(i:m4 t' t):i0 X e t':=fun q_ pins s σ H Q I hw=>h q_ pins s σ H Q I (i σ H Q hw)
theorem fh.imp{t t':eS}(h:fh X ah t)(i:rq t' t):fh X ah t':=fun p pins s σ H Q I hw=>h p pins s σ H Q I (i σ H Q hw)
theorem cS.imp{st:ad4}{t t':eT}(h:cS X st t)(i:gs t' t):cS X st t':=fun pins s σ H b2 I hw=>h pins s σ H b2 I (i b2 σ H hw)
theorem fi.imp{st:List ad4}{t t':eT}(h:fi X st t)(i:gs t' t):fi X st t':=fun pins s σ H b2 I hw=>h pins s σ H b2 I (i b2 σ H hw)
theorem f6.imp{bU:adq}{t t':TI}(h:f6 X bU e t)(i:m3 t' t):f6 X bU e t':=fun pins s σ H Q I hw=>h pins s σ H Q I (i σ H Q hw)
abbrev iW(X:aS)(F:bg)(e:adq)(m:aN):Prop:=a4 X e (cZ F m)
abbrev EJ(X:aS)(F:bg)(e:adq)(m:aW):Prop:=a4 X e (jr F m)
abbrev EU(X:aS)(F:bg)(e:adq)(m:cL):Prop:=e_ X e (gE F m)
abbrev EF(X:aS)(F:bg)(ah:List adq)(m:aW):Prop:=fh X ah (eo F m)
abbrev EH(X:aS)(F:bg)(st:List ad4)(m:bf):Prop:=fi X st (eG F m)
abbrev vX(X:aS)(F:bg)(bU e:adq)(m:aW):Prop:=f6 X bU e (jq F m)
theorem N6{x:Str}{v:V}{u:acV}{d:D}(hm:X.mg x=some u)(r:RelV v u)(at':∀G,At F.K G d v)(aI:dF X x:=by rfl)(hd:(x==("__debug__" :Str))=false:=by decide):iW X F (.Name x pos) (aG d):=
 a4.imp (UP aI hm r hd) (t4 at')
variable{st:ad4}{oa:List ad4}
theorem qd{op:Operator}{r:eN}{f:D→D→R D}{m n:aN}(aH:d2 X (aeM op) r)(hf:gV F r f)(U:iW X F a m)(J:iW X F b n):iW X F (.BinOp a op b pos) (aE f m n):=a4.imp (yi aH U J) (xn hf)
theorem wN{op:aic}{r:eN}{f:D→D→R D}{m n:aN}(aH:d2 X (adV op) r)(hf:gV F r f)(U:iW X F a m)(J:iW X F b n)(hm:adI op b=false):iW X F (.Compare a [op] [b] pos) (aE f m n):=a4.imp (UK aH U J hm) (xn hf)
theorem q6{op:aic}{r:eN}{f:D→D→R D}{m n:aN}(aH:d2 X (adV op) r)(hf:gV F r f)(U:iW X F a m)(J:iW X F b n)(hm:adI op b=false):EU X F (.Compare a [op] [b] pos) (bS (aE f m n)):=
 e_.imp (Vo aH U J hm) fun σ H Q h=>by obtain⟨G,ρ,r,k⟩:=HI (F:=F) (m:=aE f m n) σ H Q h;exact xn hf σ H _ ⟨G,ρ,r,k⟩
theorem N7{op:UnaryOp}{r:V→ag→cH→Prop}{f:D→R D}{m:aN}(aH:wa X (unaryOp op) r)(hf:EV F r f)(U:iW X F a m):iW X F (.UnaryOp op a pos) (df f m):=a4.imp (U1 aH U) (QX hf)
def kb(f:Int→Int→R D):D→D→R D
 |.int i,.int j=>f i j
 |_,_=>.bad
theorem u3{g:Int→Int→V}{f:Int→Int→D}(h:∀i j G,At F.K G (f i j) (g i j)):gV F (lU g) (kb fun i j=>.ok (f i j)):=by
 intro σ ρ G H x y bA fm Q r bZ cV k;unfold kb at k
 split at k
 ·rename_i i j;simp only[At]at bZ cV;exact⟨i,j,bZ,cV,k _ H G r (cG.refl _ _) (h i j G)⟩
 ·exact k.elim
theorem ye{C:Int→Int→Prop}[∀i j,Decidable (C i j)]{g:Int→Int→V}{f:Int→Int→D}(h:∀i j G,At F.K G (f i j) (g i j)):gV F (pq C g) (kb fun i j=>if C i j then .ok (f i j)else .bad):=by
 intro σ ρ G H x y bA fm Q r bZ cV k;unfold kb at k
 split at k
 ·rename_i i j;simp only[At]at bZ cV;dsimp only at k
  split at k
  ·rename_i ax;exact⟨i,j,bZ,cV,ax,k _ H G r (cG.refl _ _) (h i j G)⟩
  ·exact k.elim
 ·exact k.elim
instance(i j:Int):Decidable (pP i j):=by unfold pP;infer_instance
instance(i j:Int):Decidable (sS i j):=by unfold sS;infer_instance
instance(i j:Int):Decidable (ro i j):=by unfold ro;infer_instance
def q2:=kb fun i j=>.ok (.int (i-j))
def nX:=kb fun i j=>if ro i j then .ok (.int (i*j))else .bad
def i5:=kb fun i j=>if pP i j then .ok (.int (i/j))else .bad
def g6:=kb fun i j=>if 0<j then .ok (.int (i%j))else .bad
def vb:=kb fun i j=>if sS i j then .ok (.int (i^j.toNat))else .bad
def r7:=kb fun i j=>.ok (.aC (decide (i<j)))
def lJ:=kb fun i j=>.ok (.aC (decide (i≤j)))
def mz:=kb fun i j=>.ok (.aC (decide (j<i)))
variable{m n:aN}
def mK:D→R D
 |.int i=>.ok (.int (-i))
 |_=>.bad
noncomputable def fy:D→D→R D
 |.int i,.int j=>.ok (.int (i+j))
 |.str x,.str y=>if x.length+y.length≤1000000 then .ok (.str (x++y))else .bad
 |.lst xs,.lst ys=>if xs.length+ys.length≤1000000 then .ok (.lst (xs++ys))else .bad
 |_,_=>.bad
theorem I1:gV F (fun x y H Q=>lU (fun i j=>.int (i+j)) x y H Q∨(∃i j,x=.str i∧y=.str j∧i.length+j.length≤ade∧Q (.str (i++j)) H)∨JH x y H Q) fy:=by
 intro σ ρ G H x y bA fm Q r bZ cV k;unfold fy at k
 split at k
 ·rename_i i j;simp only[At]at bZ cV;exact .inl ⟨i,j,bZ,cV,k _ H G r (cG.refl _ _) (by simp only[At])⟩
 ·rename_i i j;simp only[At]at bZ cV
  split at k
  ·rename_i av;exact .inr (.inl ⟨i,j,bZ,cV,adt av (by decide),k _ H G r (cG.refl _ _) (by simp only[At])⟩)
  ·exact k.elim
 ·rename_i ds ah;simp only[At]at bZ cV
  split at k
  ·rename_i av;obtain⟨p,xs,ae,h1,bb⟩:=bZ;obtain⟨cj,ys,au,h2,bN⟩:=cV;refine .inr (.inr ⟨p,cj,xs,ys,ae,au,r.az.sub _ _ h1,r.az.sub _ _ h2,by rw[←bb.length,←bN.length];exact adt av (by decide),fun l aU=>?_⟩);refine k (.ref l) _ _ (r.lay aU) (cG.lay r.az.sub aU) ?_;simp only[At];exact⟨l,xs++ys,rfl,dN,(bb.append bN).mono (Sub.upd (r.az.sub.gone aU))⟩
  ·exact k.elim
 ·exact k.elim
noncomputable def dM(b:Bool)(x y:D):R D:=if okN 8 x=true∧okN 8 y=true then .ok (.aC (if b then bO x y else !bO x y))else .bad
noncomputable def CA(F:bg)(b:Bool):eN:=fun x y H Q=>∃G d1 cM,Sub G H∧At F.K G d1 x∧At F.K G cM y∧okN 8 d1=true∧okN 8 cM=true∧Q (.aC (if b then bO d1 cM else !bO d1 cM)) H
theorem I8(aY:F.K=X.K)(aV:X.A.units+64<aeB):d2 X (adV .Eq) (CA F true):=by intro pins s σ H x y v u Q I bM ct h;obtain⟨G,d1,cM,bt,a1,a2,cQ,cf,q⟩:=h;rw[aY]at a1 a2;exact(AS I bt 8 (A:=X.A) cQ cf ⟨x,a1,bM⟩ ⟨y,a2,ct⟩ (by omega)).2.1 X.prog X.w X.xe _ ⟨.aC _,H,I,rfl,q⟩
theorem Jd(aY:F.K=X.K)(aV:X.A.units+64<aeB):d2 X (adV .NotEq) (CA F false):=by intro pins s σ H x y v u Q I bM ct h;obtain⟨G,d1,cM,bt,a1,a2,cQ,cf,q⟩:=h;rw[aY]at a1 a2;exact(AS I bt 8 (A:=X.A) cQ cf ⟨x,a1,bM⟩ ⟨y,a2,ct⟩ (by omega)).2.2 X.prog X.w X.xe _ ⟨.aC _,H,I,rfl,q⟩
theorem yd(b:Bool):gV F (CA F b) (dM b):=by
 intro σ ρ G H x y bA fm Q r bZ cV k;unfold dM at k
 split at k
 ·rename_i aH;exact⟨G,bA,fm,r.az.sub,bZ,cV,aH.1,aH.2,k _ H G r (cG.refl _ _) (by simp only[At])⟩
 ·exact k.elim
end
section
variable{X:aS}{F:bg}{e a b c:adq}{ah:List adq}{pos:Pos}{m n:aN}
theorem F5:∀{ds eV:List D},ds.length=eV.length→(∀(i:Nat) x y,ds[i]?=some x→eV[i]?=some y→∀z,bO x z=bO y z)→∀ah,es ds ah=es eV ah
 |[],[],_,_,_=>rfl
 |[],_::_,h,_,_=>by simp at h
 |_::_,[],h,_,_=>by simp at h
 |x::xs,y::ys,h,k,[]=>by simp only[es]
 |x::xs,y::ys,h,k,e::ah=>by simp only[es];rw[k 0 x y rfl rfl e,F5 (by simpa using h) (fun i a b ae au=>k (i+1) a b (by simpa using ae) (by simpa using au)) ah]
theorem J_{K:PySem.W.Frag}{G:ag}{d d':D}{x:V}(o:g8 d=true)(a1:At K G d x)(a2:At K G d' x):d=d':=by
 cases d with
 |non=>simp only[At]at a1;subst a1;cases d'<;>simp only[At]at a2<;>first|rfl|(cases a2;done)|(obtain⟨a,xs,e,_⟩:=a2;cases e;done)|(obtain⟨a,bA,xs,e,_⟩:=a2;cases e;done)
 |aC b=>simp only[At]at a1;subst a1;cases d'<;>simp only[At]at a2<;>first|(cases a2;rfl)|(cases a2;done)|(obtain⟨a,xs,e,_⟩:=a2;cases e;done)|(obtain⟨a,bA,xs,e,_⟩:=a2;cases e;done)
 |int b=>simp only[At]at a1;subst a1;cases d'<;>simp only[At]at a2<;>first|(cases a2;rfl)|(cases a2;done)|(obtain⟨a,xs,e,_⟩:=a2;cases e;done)|(obtain⟨a,bA,xs,e,_⟩:=a2;cases e;done)
 |str b=>simp only[At]at a1;subst a1;cases d'<;>simp only[At]at a2<;>first|(cases a2;rfl)|(cases a2;done)|(obtain⟨a,xs,e,_⟩:=a2;cases e;done)|(obtain⟨a,bA,xs,e,_⟩:=a2;cases e;done)
 |_=>cases o
theorem hg.val{K:PySem.W.Frag}{G:ag}{d:D}{p:ac1}{b:Bool}{ds:List D}{xs:List V}(h:hg K G d p b ds xs)(e:D):bO d e=match e with
  |.tup ah=>b&&es ds ah
  |.dI ah=>b&&es ds ah
  |.lst ah=>!b&&es ds ah
  |.cu ah=>!b&&es ds ah
  |_=>false:=by
 cases h<;>cases e<;>simp[bO]
section
variable{pins:List (ac1×Obj)}{σ :St}{H G:ag}{s:acW}
theorem Mv(I:Inv X pins σ H s)(bt:Sub G H):∀(n:Nat){d d':D}{x:V},okN n d=true→okN n d'=true→At X.K G d x→At X.K G d' x→∀e,bO d e=bO d' e:=by
 intro n;induction n with
 |zero=>intro d d' x cQ cf a1 a2 e;rw[J_ (by cases d<;>first|rfl|(cases cQ)) a1 a2]
 |succ n cq=>
  intro d d' x cQ cf a1 a2 e;cases s1:g8 d with
  |true=>rw[J_ s1 a1 a2]
  |false=>
   cases s2:g8 d' with
   |true=>exact(F3 s2 s1 a1 a2).elim
   |false=>
    obtain⟨dr,gX,fN,pK,ae,bb,m1,FW,k1⟩:=sI cQ s1 a1;obtain⟨cj,fc,ej,mV,au,bN,m2,FX,k2⟩:=sI cf s2 a2;subst ae;cases au;have:n=m1:=by omega
    subst this;have:n=m2:=by omega
    subst this;obtain⟨bx,ex⟩:=bb.same I bt bN;subst bx;subst ex;have el:∀ah,es fN ah=es ej ah:=F5 (bb.hu.length.trans bN.hu.length.symm) fun i a b aj bx z=>by obtain⟨v,ev,bc⟩:=bb.hu.get aj;obtain⟨gn,tF,bv⟩:=bN.hu.get bx;rw[ev]at tF;cases tF;exact cq (rA k1 aj) (rA k2 bx) bc bv z
    rw[bb.val,bN.val];cases e<;>first|rfl|(simp only[el])
open Classical in
noncomputable def lr(K:PySem.W.Frag)(G:ag)(d:D)(u:acV):Bool:=if h:∃d',okN 7 d'=true∧l5 K G d' u then bO (agx h) d else false
theorem zU(I:Inv X pins σ H s)(bt:Sub G H){d d1:D}{u:acV}(o:okN 7 d=true)(h:l5 X.K G d u):lr X.K G d1 u=bO d d1:=by have aA:∃d',okN 7 d'=true∧l5 X.K G d' u:=⟨d,o,h⟩;unfold lr;rw[dif_pos aA];obtain⟨cc,h'⟩:=aeT aA;obtain⟨x,a,r⟩:=h;obtain⟨sO,ij,a9⟩:=h';have:sO=x:=a9.inj r;subst this;exact Mv I bt 7 cc o ij a d1
theorem zV(I:Inv X pins σ H s)(bt:Sub G H){d1:D}:∀{ds:List D}{xs:List V}{its:List acV},aT X.K G ds xs→Vals xs its→ds.all (okN 7)=true→its.any (lr X.K G d1)=ds.any fun y=>bO y d1
 |[],_,_,q,r,_=>by simp only[aT]at q;subst q;cases r;rfl
 |d::ds,_,_,q,r,o=>by
  simp only[aT]at q;obtain⟨v,yV,rfl,bc,nh⟩:=q;cases r with
  |cons aq bp=>rw[afd,adm]at o;rw[aeE,aeE,zU I bt o.1 ⟨v,bc,aq⟩,zV I bt nh bp o.2]
theorem x6(I:Inv X pins σ H s)(bt:Sub G H){d1:D}{x:V}{v:acV}{A:adp}(aV:A.units+8<aeB)(cQ:okN 7 d1=true)(a1:At X.K G d1 x)(bM:RelV x v):∀{ds:List D}{xs:List V}{its:List acV},aT X.K G ds xs→Vals xs its→ds.all (okN 7)=true→
  ∀u∈its,ahe A s u v (lr X.K G d1 u)
 |[],_,_,q,r,_=>by simp only[aT]at q;subst q;cases r;exact fun u aV=>nomatch aV
 |d::ds,_,_,q,r,o=>by
  simp only[aT]at q;obtain⟨w,wr,rfl,bc,nh⟩:=q;cases r with
  |cons aq bp=>
   rw[afd,adm]at o;intro fZ hm;rcases List.mem_cons.mp hm with e|hm
   ·subst e;rw[zU I bt o.1 ⟨w,bc,aq⟩];exact(AS I bt 7 (A:=A) o.1 cQ ⟨w,bc,aq⟩ ⟨x,a1,bM⟩ (by omega)).1
   ·exact x6 I bt aV cQ a1 bM nh bp o.2 fZ hm
end
noncomputable def sF:D→Option (List D)
 |.tup ys=>some ys
 |.dI ys=>some ys
 |.lst ys=>some ys
 |.cu ys=>some ys
 |_=>none
noncomputable def inD(b:Bool)(x y:D):R D:=match sF y with
 |some ys=>if okN 7 x=true∧ys.all (okN 7)=true then .ok (.aC (if b then ys.any (fun y=>bO y x)else !ys.any fun y=>bO y x))else .bad
 |none=>.bad
noncomputable def CB(F:bg)(b:Bool):eN:=fun x y H Q=>∃G d1 cM p ds xs k,Sub G H∧At F.K G d1 x∧y=.ref p∧hg F.K G cM p k ds xs∧okN 7 d1=true∧ds.all (okN 7)=true∧Q (.aC (if b then ds.any (fun y=>bO y d1)else !ds.any fun y=>bO y d1)) H
theorem I_(aY:F.K=X.K)(aV:X.A.units+64<aeB):d2 X (adV .In) (CB F true):=by
 intro pins s σ H x y v u Q I bM ct h;obtain⟨G,d1,cM,p,ds,xs,k,bt,a1,rfl,g9,cQ,cf,q⟩:=h;rw[aY]at a1 g9;cases ct;obtain⟨its,aq,t1,fD⟩:=g9.heap I bt;have q:Q (.aC (ds.any fun y=>bO y d1)) H:=q;rw[←zV I bt g9.hu aq cf]at q;have hm:=x6 I bt (A:=X.A.in1) (d1:=d1) (by rw[in1_units];omega) cQ a1 bM g9.hu aq cf;cases k with
 |true=>exact SeqAt.in_tupleAt (lr X.K G d1) (t1 rfl) (fun w hw=>hm w (by simpa using hw)) ⟨.aC _,H,I,rfl,by simpa using q⟩
 |false=>exact SeqAt.in_listAt (lr X.K G d1) (fD rfl) (fun w hw=>hm w (by simpa using hw)) ⟨.aC _,H,I,rfl,by simpa using q⟩
theorem Up(aY:F.K=X.K)(aV:X.A.units+64<aeB):d2 X (adV .NotIn) (CB F false):=by
 intro pins s σ H x y v u Q I bM ct h;obtain⟨G,d1,cM,p,ds,xs,k,bt,a1,rfl,g9,cQ,cf,q⟩:=h;rw[aY]at a1 g9;cases ct;obtain⟨its,aq,t1,fD⟩:=g9.heap I bt;have q:Q (.aC (!ds.any fun y=>bO y d1)) H:=q;rw[←zV I bt g9.hu aq cf]at q;have hm:=x6 I bt (A:=X.A.in1) (d1:=d1) (by rw[in1_units];omega) cQ a1 bM g9.hu aq cf;cases k with
 |true=>exact SeqAt.notIn_tupleAt (lr X.K G d1) (t1 rfl) (fun w hw=>hm w (by simpa using hw)) ⟨.aC _,H,I,rfl,by simpa using q⟩
 |false=>exact SeqAt.notIn_listAt (lr X.K G d1) (fD rfl) (fun w hw=>hm w (by simpa using hw)) ⟨.aC _,H,I,rfl,by simpa using q⟩
theorem W5{K:PySem.W.Frag}{G:ag}{d:D}{x:V}{ds:List D}(e:sF d=some ds)(a:At K G d x):∃p xs k,x=.ref p∧hg K G d p k ds xs:=by
 cases d<;>first
  |(cases e;done)
  |(cases e
    simp only[At]at a;obtain⟨p,xs,e,h,q⟩:=a
    first
     |exact⟨p,xs,_,e,.tup (b_.of h) q⟩
     |exact⟨p,xs,_,e,.dI h q⟩
     |exact⟨p,xs,_,e,.lst h q⟩
     |exact⟨p,xs,_,e,.cu h q⟩)
theorem Cg(b:Bool):gV F (CB F b) (inD b):=by
 intro σ ρ G H x y bA fm Q r bZ cV k;unfold inD at k;cases e:sF fm with
 |none=>rw[e]at k;exact k.elim
 |some ys=>
  rw[e]at k;dsimp only at k
  split at k
  ·rename_i aH;obtain⟨p,xs,cA,dk,g9⟩:=W5 e cV;exact⟨G,bA,fm,p,ys,xs,cA,r.az.sub,bZ,dk,g9,aH.1,aH.2,k _ H G r (cG.refl _ _) (by simp only[At])⟩
  ·exact k.elim
def i_:D→Bool
 |.non=>true
 |_=>false
def jK(b:Bool):D→D→R D
 |x,.non=>.ok (.aC (if b then i_ x else !i_ x))
 |_,_=>.bad
theorem HV{K:PySem.W.Frag}{G:ag}{d:D}{x:V}(a:At K G d x):i_ d=decide (x=.non):=by
 cases d<;>simp only[At]at a<;>first
  |(subst a;simp[i_];done)
  |(obtain⟨p,xs,e,_⟩:=a;subst e;simp[i_];done)
  |(obtain⟨p,bA,xs,e,_⟩:=a;subst e;simp[i_];done)
noncomputable def ke(f g:D→D→R D)(a b c:aN):aN:=fun ρ=>(a ρ).bind fun x=>(b ρ).bind fun y=>(f x y).bind fun z=>(jC z).bind fun k=>if k=true then(c ρ).bind fun w=>g y w else .ok (.aC false)
theorem HN{r a9:eN}{f g:D→D→R D}{l:aN}(hf:gV F r f)(aI:gV F a9 g):dQ (cZ F (ke f g m n l)) (DK r a9 (cZ F m) (cZ F n) (cZ F l)):=by
 rintro σ H Q ⟨G,ρ,CE,h⟩;unfold ke at h;refine⟨G,ρ,CE,?_⟩;cases aj:m ρ with
 |bad=>rw[aj]at h;exact h.elim
 |exc c=>rw[aj]at h;exact h
 |ok bA=>
  rw[aj,R.bo]at h;intro x H1 aM aq s1 bZ;refine⟨aM,ρ,aq,?_⟩;cases bx:n ρ with
  |bad=>rw[bx]at h;exact h.elim
  |exc c=>rw[bx]at h;exact h
  |ok fm=>
   rw[bx,R.bo]at h;intro y aX ck bp s2 cV;refine hf σ ρ ck aX x y bA fm _ bp (bZ.mono s2.g) cV ?_;cases dH:f bA fm with
   |bad=>rw[dH]at h;exact h.elim
   |exc c=>rw[dH]at h;exact h
   |ok AH=>
    rw[dH,R.bo]at h;intro z cK dJ dt s3 jD;cases AH with
    |aC k=>
     simp only[At]at jD;refine⟨k,jD,?_⟩;have h:hT F G H σ ρ Q (if k=true then(l ρ).bind fun w=>g fm w else .ok (.aC false)):=h;cases k with
     |false=>rw[if_neg adw]at h ⊢;exact h _ cK dJ dt (s1.trans (s2.trans s3)) (by simp only[At])
     |true=>
      rw[if_pos rfl]at h ⊢;refine⟨dJ,ρ,dt,?_⟩;cases ec:l ρ with
      |bad=>rw[ec]at h;exact h.elim
      |exc c=>rw[ec]at h;exact h
      |ok NZ=>rw[ec,R.bo]at h;intro w gS pT jN s4 fM;exact aI σ ρ pT gS y w fm NZ Q jN ((cV.mono s3.g).mono s4.g) fM (h.mono (s1.trans (s2.trans (s3.trans s4))))
    |_=>exact h.elim
theorem Ub:gV F (lU fun i j=>.aC (decide (i<j))) r7:=u3 fun _ _ _=>by simp only[At]
theorem u4:gV F (lU fun i j=>.aC (decide (i≤j))) lJ:=u3 fun _ _ _=>by simp only[At]
end
section
variable{X:aS}{F:bg}{e a b c:adq}{ah:List adq}{pos p:Pos}{m n:aN}{ma:aW}
def cW(f:List D→R D)(m:aW):aN:=fun ρ=>(m ρ).bind f
noncomputable def l8(F:bg)(r:List V→ag→cH→Prop)(f:List D→R D):Prop:=∀ σ ρ G H xs ds Q,Rel F G H σ ρ→aT F.K G ds xs→hT F G H σ ρ Q (f ds)→r xs H Q
theorem HM{r:List V→ag→cH→Prop}{f:List D→R D}(hf:l8 F r f):dQ (cZ F (cW f ma)) (yE r (eo F ma)):=by
 rintro σ H Q ⟨G,ρ,CE,h⟩;unfold cW at h;refine⟨G,ρ,CE,?_⟩;cases aj:ma ρ with
 |bad=>rw[aj]at h;exact h.elim
 |exc c=>rw[aj]at h;exact h
 |ok ds=>rw[aj,R.bo]at h;intro vs H1 aM aq s1 a;exact hf σ ρ aM H1 vs ds Q aq a (h.mono s1)
theorem AK{x:Str}{id:String}{r:List V→ag→cH→Prop}{f:List D→R D}(ax:hG X (.builtin id) r)(hf:l8 F r f)(hm:X.mg x=none)(bP:ad6 x=some (.builtin id))(U:EF X F (e::ah) ma)(aI:dF X x:=by rfl)(aU:x≠"__name__":=by decide)(e0:(x==("__debug__" :Str))=false:=by decide)(he:acX (e::ah) X.env=(false,adW e X.env)::acX ah X.env:=by rfl)(di:(adF pos (acX ah X.env)).any (·.1)=false:=by rfl):iW X F (.Call (.Name x p) (e::ah) [] pos) (cW f ma):=
 a4.imp (Cq ax aI hm bP U aU e0 he di) (HM hf)
theorem wM{x:Str}{T:String}{r:List V→ag→cH→Prop}{f:List D→R D}(ax:hG X (.type T) r)(hf:l8 F r f)(hm:X.mg x=none)(bP:ad6 x=some (.type T))(U:EF X F (e::ah) ma)(aI:dF X x:=by rfl)(aU:x≠"__name__":=by decide)(e0:(x==("__debug__" :Str))=false:=by decide)(he:acX (e::ah) X.env=(false,adW e X.env)::acX ah X.env:=by rfl)(di:(adF pos (acX ah X.env)).any (·.1)=false:=by rfl):iW X F (.Call (.Name x p) (e::ah) [] pos) (cW f ma):=
 a4.imp (Jo ax aI hm bP U aU e0 he di) (HM hf)
noncomputable def dR:List D→R D
 |[.str x]=>if x.length≤1000000 then .ok (.int x.length)else .bad
 |[.lst xs]=>.ok (.int xs.length)
 |[.cu xs]=>.ok (.int xs.length)
 |[.tup xs]=>.ok (.int xs.length)
 |[.dI xs]=>.ok (.int xs.length)
 |_=>.bad
theorem aT.one{K:PySem.W.Frag}{G:ag}{d:D}{vs:List V}(a:aT K G [d] vs):∃v,vs=[v]∧At K G d v:=by simp only[aT]at a;obtain⟨v,r,rfl,h,rfl⟩:=a;exact⟨v,rfl,h⟩
theorem aT.two{K:PySem.W.Frag}{G:ag}{d e:D}{vs:List V}(a:aT K G [d,e] vs):∃v w,vs=[v,w]∧At K G d v∧At K G e w:=by simp only[aT]at a;obtain⟨v,r,rfl,h,w,a9,rfl,h',rfl⟩:=a;exact⟨v,w,rfl,h,h'⟩
theorem Ua(aY:F.K=X.K):l8 F (fun xs H Q=>∃x n,xs=[x]∧EO X.K x H n∧Q (.int n) H) dR:=by
 intro σ ρ G H xs ds Q r al k;unfold dR at k
 split at k
 ·rename_i x;obtain⟨v,rfl,bc⟩:=al.one;simp only[At]at bc;subst bc
  split at k
  ·rename_i av;exact⟨_,x.length,rfl,⟨adt av (by decide),rfl⟩,k _ H G r (cG.refl _ _) (by simp only[At])⟩
  ·exact k.elim
 ·rename_i ys;obtain⟨v,rfl,bc⟩:=al.one;simp only[At]at bc;obtain⟨q,xs,rfl,h,al⟩:=bc;rw[al.length]at k;exact⟨_,xs.length,rfl,.inl ⟨xs,bQ.of (r.az.sub _ _ h),rfl⟩,k _ H G r (cG.refl _ _) (by simp only[At])⟩
 ·rename_i ys;obtain⟨v,rfl,bc⟩:=al.one;simp only[At]at bc;obtain⟨q,xs,rfl,h,al⟩:=bc;rw[al.length]at k;rw[aY]at h;exact⟨_,xs.length,rfl,.inl ⟨xs,bQ.mono r.az.sub h,rfl⟩,k _ H G r (cG.refl _ _) (by simp only[At])⟩
 ·rename_i ys;obtain⟨v,rfl,bc⟩:=al.one;simp only[At]at bc;obtain⟨q,xs,rfl,h,al⟩:=bc;rw[al.length]at k;exact⟨_,xs.length,rfl,.inr ⟨xs,b_.of (r.az.sub _ _ h),rfl⟩,k _ H G r (cG.refl _ _) (by simp only[At])⟩
 ·rename_i ys;obtain⟨v,rfl,bc⟩:=al.one;simp only[At]at bc;obtain⟨q,xs,rfl,h,al⟩:=bc;rw[al.length]at k;rw[aY]at h;exact⟨_,xs.length,rfl,.inr ⟨xs,b_.mono r.az.sub h,rfl⟩,k _ H G r (cG.refl _ _) (by simp only[At])⟩
 ·exact k.elim
noncomputable def vz:D→Option String
 |.non=>some "NoneType"
 |.aC _=>some "bool"
 |.int _=>some "int"
 |.str _=>some "str"
 |.lst _=>some "list"
 |.cu _=>some "list"
 |.tup _=>some "tuple"
 |.dI _=>some "tuple"
 |.eO _ _=>some "dict"
 |.bH _ _=>some "dict"
 |_=>none
def DI(T fa:String):Bool:=T==fa||(T=="bool"&&fa=="int")
def eB(fa:String)(d:D):R D:=match vz d with
 |some T=>.ok (.aC (DI T fa))
 |none=>.bad
noncomputable def p2(K:PySem.W.Frag)(fa:String):Prop:=∀T,T="NoneType"∨T="bool"∨T="int"∨T="str"∨T="list"∨T="tuple"∨T="dict"→PySem.W.kitOne K (.type T) (.type fa)=some (DI T fa)
theorem DZ(K:PySem.W.Frag):p2 K "int":=fun T h=>by rcases h with rfl|rfl|rfl|rfl|rfl|rfl|rfl<;>kernel_rfl
theorem K2(K:PySem.W.Frag):p2 K "bool":=fun T h=>by rcases h with rfl|rfl|rfl|rfl|rfl|rfl|rfl<;>kernel_rfl
theorem D0(K:PySem.W.Frag):p2 K "str":=fun T h=>by rcases h with rfl|rfl|rfl|rfl|rfl|rfl|rfl<;>kernel_rfl
theorem vw(K:PySem.W.Frag):p2 K "list":=fun T h=>by rcases h with rfl|rfl|rfl|rfl|rfl|rfl|rfl<;>kernel_rfl
theorem yQ(K:PySem.W.Frag):p2 K "tuple":=fun T h=>by rcases h with rfl|rfl|rfl|rfl|rfl|rfl|rfl<;>kernel_rfl
theorem Rj{pins:List (ac1×Obj)}{σ :St}{H G:ag}{s:acW}{Q:acV→acW→Prop}{E:acV→acW→Prop}{d:D}{x:V}{u:acV}{T fa:String}{k:Bool}(I:Inv X pins σ H s)(bt:Sub G H)(at':At X.K G d x)(bM:RelV x u)(e:vz d=some T)(tt:PySem.W.kitOne X.K (.type T) (.type fa)=some k)(h:∀c4,Q (.bool k) { s with toks:=c4 }):adi (adj X.prog X.w) X.A (call (.builtin "isinstance") [u,.type fa]) Q E s:=by
 cases d with
 |non=>cases e;simp only[At]at at';subst at';cases bM;exact PySem.W.kia_one PySem.W.kitx_none I.gf aeX tt (fun z=>nomatch z) h
 |aC b=>cases e;simp only[At]at at';subst at';cases bM;exact PySem.W.kia_one PySem.W.kitx_bool I.gf aeX tt (fun z=>nomatch z) h
 |int b=>cases e;simp only[At]at at';subst at';obtain⟨t,rfl⟩:=bM;exact PySem.W.kia_one PySem.W.kitx_int I.gf aeX tt (fun z=>nomatch z) h
 |str b=>cases e;simp only[At]at at';subst at';obtain⟨t,rfl⟩:=bM;exact PySem.W.kia_one PySem.W.kitx_str I.gf aeX tt (fun z=>nomatch z) h
 |lst ds=>cases e;simp only[At]at at';obtain⟨q,xs,rfl,aP,_⟩:=at';cases bM;obtain⟨its,_,⟨o,n,ae,au,_⟩,_⟩:=I.list (bQ.of (bt _ _ aP));exact PySem.W.kia_one PySem.W.kitx_list I.gf ⟨o,ae,au⟩ tt (fun z=>nomatch z) h
 |cu ds=>cases e;simp only[At]at at';obtain⟨q,xs,rfl,aP,_⟩:=at';cases bM;obtain⟨its,_,⟨o,n,ae,au,_⟩,_⟩:=I.list (bQ.mono bt aP);exact PySem.W.kia_one PySem.W.kitx_list I.gf ⟨o,ae,au⟩ tt (fun z=>nomatch z) h
 |tup ds=>cases e;simp only[At]at at';obtain⟨q,xs,rfl,aP,_⟩:=at';cases bM;obtain⟨its,_,⟨o,ae,au,_⟩,_⟩:=I.tuple (b_.of (bt _ _ aP));exact PySem.W.kia_one PySem.W.kitx_tuple I.gf ⟨o,ae,au⟩ tt (fun z=>nomatch z) h
 |dI ds=>cases e;simp only[At]at at';obtain⟨q,xs,rfl,aP,_⟩:=at';cases bM;obtain⟨its,_,⟨o,ae,au,_⟩,_⟩:=I.tuple (b_.mono bt aP);exact PySem.W.kia_one PySem.W.kitx_tuple I.gf ⟨o,ae,au⟩ tt (fun z=>nomatch z) h
 |eO ks ds=>cases e;simp only[At]at at';obtain⟨q,xs,rfl,aP,_⟩:=at';cases bM;obtain⟨_,_,vs,_,o,ah,ek,h1,h2,_⟩:=(show e9 X.prog X.w H s.heap q (.eO xs)from I.bR q _ (bt _ _ aP));exact PySem.W.kia_one PySem.W.kitx_dict I.gf ⟨o,h1,h2.1⟩ tt (fun z=>nomatch z) h
 |bH ks ds=>cases e;simp only[At]at at';obtain⟨q,xs,rfl,aP,_⟩:=at';cases bM;obtain⟨_,_,zs,_,o,ah,ek,h1,h2,_⟩:=(show e9 X.prog X.w H s.heap q (.bH xs)from I.bR q _ (bt _ _ aP));exact PySem.W.kia_one PySem.W.kitx_dict I.gf ⟨o,h1,h2.1⟩ tt (fun z=>nomatch z) h
 |ins C ns ds=>cases e
 |qg C=>cases e
theorem XU{d:D}{T:String}(e:vz d=some T):T="NoneType"∨T="bool"∨T="int"∨T="str"∨T="list"∨T="tuple"∨T="dict":=by cases d<;>cases e<;>simp
noncomputable def VF(F:bg)(fa:String):List V→ag→cH→Prop:=fun xs H Q=>∃G d x T,Sub G H∧xs=[x,.ty fa]∧At F.K G d x∧vz d=some T∧Q (.aC (DI T fa)) H
theorem MZ{fa:String}(aY:F.K=X.K)(tt:p2 X.K fa):hG X (.builtin "isinstance") (VF F fa):=by intro pins s σ H xs us Q I r h;obtain⟨G,d,x,T,bt,rfl,a,e,q⟩:=h;obtain⟨u,fG,rfl,bM,dV⟩:=vals2 r;obtain rfl:fG=ae6 fa:=dV;rw[aY]at a;exact Rj I bt a bM e (tt T (XU e)) fun c4=>⟨.aC _,H,I.tok c4,rfl,q⟩
noncomputable def bk:D→D→R D
 |.lst xs,.int i=>match fb xs i with|some d=>.ok d|none=>.bad
 |.cu xs,.int i=>match fb xs i with|some d=>.ok d|none=>.bad
 |.tup xs,.int i=>match fb xs i with|some d=>.ok d|none=>.bad
 |.dI xs,.int i=>match fb xs i with|some d=>.ok d|none=>.bad
 |.str x,.int i=>if x.length≤1000000 then match fb x.cps.toList i with|some c=>.ok (.str ⟨#[c]⟩)|none=>.bad else .bad
 |_,_=>.bad
theorem wi{K:PySem.W.Frag}{G:ag}{ds:List D}{xs:List V}{i:Int}{d:D}(q:aT K G ds xs)(e:fb ds i=some d):∃v,fb xs i=some v∧At K G d v:=by
 unfold fb at e ⊢;rw[q.length]at e;cases hx:gA xs.length i with
 |none=>rw[hx]at e;cases e
 |some j=>rw[hx]at e;obtain⟨v,ae,a⟩:=q.get e;exact⟨v,ae,a⟩
theorem I2(aY:F.K=X.K):gV F (ve X.K) bk:=by
 intro σ ρ G H x y bA fm Q r bZ cV k;unfold bk at k
 split at k
 ·rename_i ds i;simp only[At]at bZ cV;obtain⟨p,xs,e,h,q⟩:=bZ
  split at k
  ·rename_i d e4;obtain⟨v,ev,bc⟩:=wi q e4;exact .inl ⟨p,xs,i,v,e,cV,bQ.of (r.az.sub _ _ h),ev,k _ H G r (cG.refl _ _) bc⟩
  ·exact k.elim
 ·rename_i ds i;simp only[At]at bZ cV;obtain⟨p,xs,e,h,q⟩:=bZ
  split at k
  ·rename_i d e4;obtain⟨v,ev,bc⟩:=wi q e4;have h':=h;rw[aY]at h';exact .inl ⟨p,xs,i,v,e,cV,bQ.mono r.az.sub h',ev,k _ H G r (cG.refl _ _) bc⟩
  ·exact k.elim
 ·rename_i ds i;simp only[At]at bZ cV;obtain⟨p,xs,e,h,q⟩:=bZ
  split at k
  ·rename_i d e4;obtain⟨v,ev,bc⟩:=wi q e4;exact .inr (.inl ⟨p,xs,i,v,e,cV,b_.of (r.az.sub _ _ h),ev,k _ H G r (cG.refl _ _) bc⟩)
  ·exact k.elim
 ·rename_i ds i;simp only[At]at bZ cV;obtain⟨p,xs,e,h,q⟩:=bZ
  split at k
  ·rename_i d e4;obtain⟨v,ev,bc⟩:=wi q e4;have h':=h;rw[aY]at h';exact .inr (.inl ⟨p,xs,i,v,e,cV,b_.mono r.az.sub h',ev,k _ H G r (cG.refl _ _) bc⟩)
  ·exact k.elim
 ·rename_i z i;simp only[At]at bZ cV
  split at k
  ·rename_i av
   split at k
   ·rename_i c ec;exact .inr (.inr ⟨z,i,c,bZ,cV,adt av (by decide),ec,k _ H G r (cG.refl _ _) (by simp only[At])⟩)
   ·exact k.elim
  ·exact k.elim
 ·exact k.elim
end
section
variable{X:aS}{F:bg}{e a b c:adq}{ah:List adq}{pos p:Pos}{m n:aN}{ma:aW}
noncomputable def iD{α:Type}(xs:List α)(lo ak:Option Int):List α:=(xs.drop (eH.e7 xs.length 0 lo)).take (eH.e7 xs.length xs.length ak-eH.e7 xs.length 0 lo)
def p9(x:Str)(lo ak:Option Int):Str:=⟨(iD x.cps.toList lo ak).toArray⟩
theorem Xd(lo ak:Option Int)(n:Nat):afW lo ak 1 n=(adG (eH.e7 n n ak-eH.e7 n 0 lo)).map (eH.e7 n 0 lo+·):=by
 rw[←sliceRange_one];unfold afW;simp only[show(1:Int)>0 by decide,if_true]
 congr 1
 ·cases lo with
  |none=>rfl
  |some i=>
   show max 0 (min (if i<0 then i+(n:Int)else i) (n:Int))=((if i<0 then(i+(n:Int)).toNat else min i.toNat n:Nat):Int)
   split<;>omega
 ·cases ak with
  |none=>rfl
  |some i=>
   show max 0 (min (if i<0 then i+(n:Int)else i) (n:Int))=((if i<0 then(i+(n:Int)).toNat else min i.toNat n:Nat):Int)
   split<;>omega
theorem J1(n:Nat)(v:Option Int){d:Nat}(hd:d≤n):eH.e7 n d v≤n:=by
 cases v with
 |none=>exact hd
 |some i=>
  show(if i<0 then(i+(n:Int)).toNat else min i.toNat n)≤n
  split<;>omega
theorem WY(x:Str)(lo ak:Option Int):ahW x lo ak=p9 x lo ak:=by
 have av:x.cps.toList.length=x.length:=by simp[Str.length]
 unfold ahW p9 iD;rw[Xd,av]
 split
 ·rename_i h;have h:eH.e7 x.length x.length ak-eH.e7 x.length 0 lo=x.length:=by simpa using h
  have h1:=J1 x.length ak (ac3 _);have h2:eH.e7 x.length 0 lo=0∨x.length=0:=by omega
  have e:(x.cps.toList.drop (eH.e7 x.length 0 lo)).take (eH.e7 x.length x.length ak-eH.e7 x.length 0 lo)=x.cps.toList:=by
   rw[h];rcases h2 with z|z
   ·rw[z,List.drop_zero,afi (by omega)]
   ·have cI:x.cps.toList=[]:=List.length_eq_zero_iff.mp (by omega);rw[cI];simp
  rw[e]
 ·rw[pick_run]
noncomputable def JP:V→Option Int→Option Int→ag→cH→Prop:=fun x lo ak H Q=>∃z,x=.str z∧z.length≤ade∧Q (.str (p9 z lo ak)) H
theorem Ji{v:acV}{o:Option Int}(h:IsPart v o):∃l:Option (Int×Tok),v=partValue l∧l.map (·.1)=o:=by
 cases h with
 |none=>exact⟨none,rfl,rfl⟩
 |int i t=>exact⟨some (i,t),rfl,rfl⟩
theorem WV:p0 X JP:=by
 intro pins s σ H x v k6 k7 lo ak cB Q I bM aD pl pu h;obtain⟨z,rfl,bj,q⟩:=h;obtain⟨t,rfl⟩:=bM;obtain⟨l,rfl,el⟩:=Ji pl;obtain⟨u,rfl,eL⟩:=Ji pu;refine⟨"str",_,F.slot_str_getitem.lookup,typeIs_str s z t,wpAny_getItem_str_slice (l:=l) (u:=u) (st:=none) ?_ rfl ?_⟩
 ·obtain⟨o,h1,h2,h3⟩:=aD;exact⟨o,h1,h2,h3⟩
 ·have e:ahW z lo ak=p9 z lo ak:=WY z lo ak;have fin:∀t' k,gr X pins σ Q (.str (ahW z lo ak) t') { s with toks:=k }:=fun t' k=>⟨.str (p9 z lo ak),H,I.tok k,⟨t',by rw[e]⟩,q⟩;unfold ahW at fin;subst el eL;exact post_val_or_str ⟨adt (Txt.slice_le z _ _) bj,fin⟩
abbrev oq:=ai→R (Option Int)
def S1:oq:=fun _=>.ok none
def intD:D→R (Option Int)
 |.int i=>.ok (some i)
 |_=>.bad
def ux(m:aN):oq:=fun ρ=>(m ρ).bind intD
noncomputable def RK(F:bg)(G H:ag)(σ :St)(ρ:ai)(Q:Option Int→ag→Prop):R (Option Int)→Prop
 |.ok o=>∀H' G',Rel F G' H' σ ρ→cG G H G' H'→Q o H'
 |.exc c=>ja F c
 |.bad=>False
def DR(F:bg)(m:oq):bG:=fun σ H Q=>∃G ρ,Rel F G H σ ρ∧RK F G H σ ρ Q (m ρ)
noncomputable def uB(f:D→Option Int→Option Int→R D)(m:aN)(lo ak:oq):aN:=fun ρ=>(m ρ).bind fun d=>(lo ρ).bind fun l=>(ak ρ).bind fun h=>f d l h
noncomputable def vl(d:D)(l h:Option Int):R D:=match d with
 |.lst xs=>.ok (.lst (iD xs l h))
 |.cu xs=>.ok (.lst (iD xs l h))
 |.str x=>if x.length≤1000000 then .ok (.str (p9 x l h))else .bad
 |_=>.bad
theorem aT.cut{K:PySem.W.Frag}{G:ag}{ds:List D}{xs:List V}(q:aT K G ds xs)(l h:Option Int):aT K G (iD ds l h) (rK xs l h):=by unfold iD rK;rw[q.length];exact(q.drop _).take _
theorem QR(aY:F.K=X.K){lo ak:oq}:dQ (cZ F (uB vl m lo ak)) (KU (fun x lo ak H Q=>JO X.K x lo ak H Q∨JP x lo ak H Q) (cZ F m) (DR F lo) (DR F ak)):=by
 rintro σ H Q ⟨G,ρ,r,h⟩;unfold uB at h;refine⟨G,ρ,r,?_⟩;cases aj:m ρ with
 |bad=>rw[aj]at h;exact h.elim
 |exc c=>rw[aj]at h;exact h
 |ok d=>
  rw[aj,R.bo]at h;intro x H1 aM aq s1 bZ;refine⟨aM,ρ,aq,?_⟩;cases el:lo ρ with
  |bad=>rw[el]at h;exact h.elim
  |exc c=>rw[el]at h;exact h
  |ok l=>
   rw[el,R.bo]at h;intro aX ck bp s2;refine⟨ck,ρ,bp,?_⟩;cases oJ:ak ρ with
   |bad=>rw[oJ]at h;exact h.elim
   |exc c=>rw[oJ]at h;exact h
   |ok u=>
    rw[oJ,R.bo]at h;intro cK dJ dt s3;have up:=s1.trans (s2.trans s3);have rB:=(bZ.mono s2.g).mono s3.g;cases d with
    |lst ds=>simp only[At]at rB;obtain⟨q,xs,rfl,aP,al⟩:=rB;refine .inl ⟨q,xs,rfl,bQ.of (dt.az.sub _ _ aP),fun a3 aU=>?_⟩;refine h (.ref a3) _ _ (dt.lay aU) (up.trans (cG.lay dt.az.sub aU)) ?_;simp only[At];exact⟨a3,_,rfl,dN,(al.cut l u).mono (Sub.upd (dt.az.sub.gone aU))⟩
    |cu ds=>simp only[At]at rB;obtain⟨q,xs,rfl,aP,al⟩:=rB;have oR:=aP;rw[aY]at oR;refine .inl ⟨q,xs,rfl,bQ.mono dt.az.sub oR,fun a3 aU=>?_⟩;refine h (.ref a3) _ _ (dt.lay aU) (up.trans (cG.lay dt.az.sub aU)) ?_;simp only[At];exact⟨a3,_,rfl,dN,(al.cut l u).mono (Sub.upd (dt.az.sub.gone aU))⟩
    |str z=>
     simp only[At]at rB;have h:hT F G H σ ρ Q (if z.length≤1000000 then .ok (.str (p9 z l u))else .bad):=h
     split at h
     ·rename_i bj;exact .inr ⟨z,rB,adt bj (by decide),h _ cK dJ dt up (by simp only[At])⟩
     ·exact h.elim
    |_=>exact h.elim
def sL:List D→R D
 |[.int i]=>if i.natAbs.log2<1920 then .ok (.str (toString i))else .bad
 |_=>.bad
theorem Ud:l8 F (fun xs H Q=>∃i,xs=[.int i]∧i.natAbs.log2<1920∧Q (.str (toString i)) H) sL:=by
 intro σ ρ G H xs ds Q r al k;unfold sL at k
 split at k
 ·rename_i i
  split at k
  ·rename_i av;exact⟨i,al.ints1,av,k _ H G r (cG.refl _ _) (by simp only[At])⟩
  ·exact k.elim
 ·exact k.elim
noncomputable def od:List D→R D
 |[.int i]=>.ok (.int i)
 |[.str x]=>if x.length≤640 then match ahf x with|some i=>.ok (.int i)|none=>.bad else .bad
 |_=>.bad
theorem Fz:hG X (.type "int") (fun xs H Q=>(∃i,xs=[.int i]∧Q (.int i) H)∨∃x i,xs=[.str x]∧x.length≤640∧ahf x=some i∧Q (.int i) H):=by
 intro pins s σ H xs us Q I r h;rcases h with⟨i,rfl,q⟩|⟨x,i,rfl,av,ak,q⟩
 ·obtain⟨u,rfl,t,rfl⟩:=vals1 r;exact call_int_int ⟨.int i,H,I,⟨_,rfl⟩,q⟩
 ·obtain⟨u,rfl,t,rfl⟩:=vals1 r;exact PySem.W.KIN.call_text ak av ⟨.int i,H,I.tok _,⟨_,rfl⟩,q⟩
theorem Ue:l8 F (fun xs H Q=>(∃i,xs=[.int i]∧Q (.int i) H)∨∃x i,xs=[.str x]∧x.length≤640∧ahf x=some i∧Q (.int i) H) od:=by
 intro σ ρ G H xs ds Q r al k;unfold od at k
 split at k
 ·rename_i i;exact .inl ⟨i,al.ints1,k _ H G r (cG.refl _ _) (by simp only[At])⟩
 ·rename_i x
  split at k
  ·rename_i av
   split at k
   ·rename_i i ak;obtain⟨v,rfl,bc⟩:=al.one;simp only[At]at bc;subst bc;exact .inr ⟨x,i,rfl,av,ak,k _ H G r (cG.refl _ _) (by simp only[At])⟩
   ·exact k.elim
  ·exact k.elim
 ·exact k.elim
end
end bu
namespace a7
open PySem PySem.Spec
section
variable{prog:ac_}{w:adB}{A:adp}{E:acV→acW→Prop}{s:acW}
theorem TF{it t:ac1}{i:Nat}{items:Array acV}{x:acV}{Q:acV→acW→Prop}(hit:s.heap.IsTupleIter it t i)(bJ:s.heap.IsTuple t items)(aA:items[i]?=some x)(gd:∀h',h'.IsTupleIter it t (i+1)→aeQ it s.heap h'→Q x { s with heap:=h' }):adi (adj prog w) A (adH (.ref it)) Q E s:=by
 obtain⟨o,aH,ax,hd⟩:=id hit;obtain⟨ol,Bu,_,nl,xc⟩:=bJ;unfold adH
 refine acU (aeF (name:=ag5 "__next__") hit.typeIs aeo
  (aeI aeo hit.typeIs afX ?_ (afN _)))
 show adi _ _ (field (.ref it) 0>>=_) _ _ s;refine acU (aek aH hd (x:=.ref t) rfl ?_);show adi _ _ (if(adE t==afj)=true then _ else _) _ _ s;rw[if_neg (show¬((adE t==afj)=true)from adw)];show adi _ _ (field (.ref it) 1>>=_) _ _ s;refine acU (aek aH hd (x:=.int i 0) rfl ?_);show adi _ _ (seqItems? (.ref t)>>=_) _ _ s;refine acU (aev Bu xc ?_);simp only[aez,aA];refine acU (wpAny_setField aH hd (by simp) (ac5 ⟨x,rfl,ac5 (gd _ ?_ (ahL ..))⟩));exact⟨_,agR _ aH (Obj.isFreed_of_fields (Obj.data_mapFields hd _)),(Obj.cls_mapFields ..).trans ax,by
  rw[Obj.data_mapFields hd];simp[rawInt]⟩
theorem TC{it t:ac1}{i:Nat}{items:Array acV}{Q:acV→acW→Prop}(bw:A.handled=none)(hit:s.heap.IsTupleIter it t i)(bJ:s.heap.IsTuple t items)(aA:items[i]?=none)(hQ:∀h' e,Heap.ExtBut it s.heap h'→(∃o,h'.get? e=some o∧o.cls=.type "StopIteration")→E (.ref e) { s with heap:=h' }):adi (adj prog w) A (adH (.ref it)) Q E s:=by
 obtain⟨o,aH,ax,hd⟩:=id hit;obtain⟨ol,Bu,_,nl,xc⟩:=bJ;unfold adH
 refine acU (aeF (name:=ag5 "__next__") hit.typeIs aeo
  (aeI aeo hit.typeIs afX ?_ (afN _)))
 show adi _ _ (field (.ref it) 0>>=_) _ _ s;refine acU (aek aH hd (x:=.ref t) rfl ?_);show adi _ _ (if(adE t==afj)=true then _ else _) _ _ s;rw[if_neg (show¬((adE t==afj)=true)from adw)];show adi _ _ (field (.ref it) 1>>=_) _ _ s;refine acU (aek aH hd (x:=.int i 0) rfl ?_);show adi _ _ (seqItems? (.ref t)>>=_) _ _ s;refine acU (aev Bu xc ?_);simp only[aez,aA];refine acU (afP (acU (wpAny_setField aH hd (by simp) ?_)));show adi _ _ (newExc (.type "StopIteration") []>>=_) _ _ _;refine acU ?_;simp only[newExc,newTuple];refine acU (age ?_ (by size_fits));refine acU (m:=firstArgMember _ _) (wpAny_of_eq (a:=afj) (by first|rfl|(simp only[firstArgMember];rfl)) ?_);refine age ?_ (by size_fits);simp only[raiseNew];refine acU (wpAny_handled ?_)
 first|rw[show A.in1.handled=none from bw]|rw[bw]
 refine acU (ac5 (wpAny_throw ?_));exact hQ _ _ (((ahL ..).extBut.push _).push _) ⟨_,ac2 _ rfl,rfl⟩
theorem rO(bw:A.handled=none)(it l:ac1)(Bs:l≠it)(items:Array acV) :
  Draws prog w A it [it,l] items.size (fun i v=>items[i]?=some v) (fun i h=>h.IsTupleIter it l i∧h.IsTuple l items) where
 live:=fun _ _ st=>let⟨o,aH,_⟩:=st.1;⟨o,aH⟩
 frame:=fun _ _ _ st aK=>⟨st.1.at fun o e=>aK it (by simp) o e,st.2.at fun o e=>aK l (by simp) o e⟩
 item:=fun i s Q E ak st gd=>by refine TF st.1 st.2 (x:=items[i]) (by simp[ak]) fun h' Ph oS=>?_;exact gd _ h' s.toks (by simp[ak]) ⟨Ph,st.2.extBut oS.extBut Bs⟩ oS
 done:=fun s Q E st hQ=>TC bw st.1 st.2 (by simp) hQ
structure ng(z TI bG bB bz:ac1)(f1 f2:List ac1):Prop where
 TIz:TI≠z
 TOz:bG≠z
 TITO:TI≠bG
 TIi1:TI≠bB
 TIi2:TI≠bz
 TOi1:bG≠bB
 TOi2:bG≠bz
 i1z:bB≠z
 i2z:bz≠z
 i12:bB≠bz
 AY:z∉f1
 F_:bG∉f1
 Ov:bz∉f1
 A0:z∉f2
 AZ:bG∉f2
 Ga:bB∉f2
theorem kF{aQ:List ac1}{n:Nat}{P:Nat→acV→Prop}{St:Nat→adT→Prop}{it b:ac1}{h h':adT}{i:Nat}(D:Draws prog w A it aQ n P St)(st:St i h)(aD:aeQ b h h')(J:b∉aQ):St i h':=
 D.frame i h h' st fun c ax o e=>aD.extBut c o (fun z=>J (z▸ax)) e
theorem Zz {z TI bG bB bz:ac1} {f1 f2:List ac1} {dP dv i:Nat} {nc nd:Nat→acV→Prop} {i1 i2:Nat→adT→Prop} {a b:acV} {Q:acV→acW→Prop} (fI:Draws prog w A bB f1 dP nc i1) (fv:Draws prog w A bz f2 dv nd i2) (ap:ng z TI bG bB bz f1 f2)(bj:agn s.heap z TI bG .none) (en:aer s.heap TI (.ref bB) (.ref bz)) (eM:aer s.heap bG a b) (h1:i1 i s.heap) (h2:i2 i s.heap) (fD:i<dP) (a3:i<dv)(gd:∀x y h' c4,nc i x→nd i y→agn h' z TI bG (rawInt s.heap.objs.size)→aer h' bG x y→i1 (i+1) h'→i2 (i+1) h'→aer h' s.heap.objs.size x y→h'.objs.size=s.heap.objs.size+1→
    (∀c o,c≠z→c≠bG→c≠bB→c≠bz→s.heap.get? c=some o→h'.get? c=some o)→Q (.ref s.heap.objs.size) { s with heap:=h',toks:=c4 }) :
  adi (adj prog w) A (ahM.«zip.__next__» ⟨[.ref z],[]⟩) (fun fin s'=>∃v,fin=.done (.ret v)∧Q v s') E s:=by
 show adi _ _ (field (.ref z) 2>>=_) _ _ _;refine acU (aek bj rfl (x:=.bool false) rfl ?_);show adi _ _ (field (.ref z) 3>>=_) _ _ _;refine acU (aek bj rfl (x:=.ref TI) rfl ?_);refine acU (aev en rfl ?_);show adi _ _ (ad2 (.ref z)>>=_) _ _ _;refine acU ?_;unfold ad2;refine acU (aek bj rfl (x:=.none) rfl (ac5 ?_));simp only[if_true];refine acU (afP ?_);refine acU (aek bj rfl (x:=.ref bG) rfl ?_);refine acU (aes bj (by simp) fun j9 oW lE=>?_);replace oW:agn j9 z TI bG .ellipsis:=oW;refine acU ?_;simp only[afE,ag6,afU,ahA];refine acU (acU (ago ?_));show adi _ _ (adH (.ref bB)>>=_) _ _ _;refine acU (fI.item i _ _ _ fD (kF fI h1 lE ap.AY) fun x lG K6 aA Kv j8=>ac5 ?_);have tM:aer lG bG a b:=j8.extBut _ _ ap.TOi1 (lE.extBut _ _ ap.TOz eM);refine acU (aev tM rfl ?_);refine acU (afI tM fun mB w_ kJ=>?_);replace w_:aer mB bG x b:=w_;refine acU (wpAny_letGo (ac5 ?_));refine acU (acU (ago ?_));show adi _ _ (adH (.ref bz)>>=_) _ _ _;have W9:i2 i mB:=kF fv (kF fv (kF fv h2 lE ap.A0) j8 ap.Ga) kJ ap.AZ;refine acU (fv.item i _ _ _ a3 W9 fun y tZ abl b8 Xf oU=>ac5 ?_);have He:aer tZ bG x b:=oU.extBut _ _ ap.TOi2 w_;refine acU (aev He rfl ?_);refine acU (afI He fun hA xa oV=>?_);replace xa:aer hA bG x y:=xa;refine acU (wpAny_letGo (ac5 (ac5 ?_)));refine acU (aev xa rfl ?_);refine acU (wpAny_newTuple ?_);have hsz:hA.objs.size=s.heap.objs.size:=by rw[oV.1,oU.1,kJ.1,j8.1,lE.1]
 have HB:agn hA z TI bG .ellipsis:=oV.extBut _ _ ap.TOz.symm (oU.extBut _ _ ap.i2z.symm (kJ.extBut _ _ ap.TOz.symm (j8.extBut _ _ ap.i1z.symm oW)));have Pp:∀c o,c≠z→c≠bG→c≠bB→c≠bz→s.heap.get? c=some o→hA.get? c=some o:=fun c o cp dO e3 nj e=>
  oV.extBut _ _ dO (oU.extBut _ _ nj (kJ.extBut _ _ dO (j8.extBut _ _ e3 (lE.extBut _ _ cp e))))
 have W8:i1 (i+1) hA:=kF fI (kF fI (kF fI Kv kJ ap.F_) oU ap.Ov) oV ap.F_;have W_:i2 (i+1) hA:=kF fv Xf oV ap.AZ;have Hy:z<hA.objs.size:=acZ HB;show adi _ _ (ae0 (.ref z) (.ref hA.objs.size)>>=_) _ _ _;refine acU ?_;unfold ae0;have PW:agn (hA.push { cls:=.type "tuple",data:=.seq #[x,y] }) z TI bG .ellipsis:=acS _ HB;refine acU (aes PW (by simp) fun PY BC Bw=>?_);replace BC:agn PY z TI bG (rawInt hA.objs.size):=BC;refine aes BC (by simp) fun t2 xl Bx=>?_;replace xl:agn t2 z TI bG (rawInt hA.objs.size):=xl;have up:∀c o,c≠z→hA.get? c=some o→t2.get? c=some o:=fun c o cp e=>Bx.extBut _ _ cp (Bw.extBut _ _ cp (acS _ e));have Hg:aer t2 hA.objs.size x y:=Bx.extBut _ _ (aeC Hy) (Bw.extBut _ _ (aeC Hy) (ac2 _ rfl));have Hx:t2.objs.size=hA.objs.size+1:=by rw[Bx.1,Bw.1,ado]
 rw[hsz]at xl Hg Hx;refine ac5 ⟨_,rfl,?_⟩;show Q (.ref hA.objs.size) _;rw[hsz];exact gd x y t2 _ aA b8 xl (up _ _ ap.TOz xa) (fI.frame _ _ _ W8 fun c ax o e=>up c o (fun q=>ap.AY (q▸ax)) e) (fv.frame _ _ _ W_ fun c ax o e=>up c o (fun q=>ap.A0 (q▸ax)) e) Hg Hx fun c o cp dO e3 nj e=>up c o cp (Pp c o cp dO e3 nj e)
theorem Zy{z TI bG bB bz:ac1}{f1 f2:List ac1}{dP dv i:Nat}{nc nd:Nat→acV→Prop}{i1 i2:Nat→adT→Prop}{a b:acV}{Q:Fin→acW→Prop}(fI:Draws prog w A bB f1 dP nc i1)(fv:Draws prog w A bz f2 dv nd i2)(ap:ng z TI bG bB bz f1 f2)(bj:agn s.heap z TI bG .none)(en:aer s.heap TI (.ref bB) (.ref bz))(eM:aer s.heap bG a b)(h1:i1 i s.heap)(h2:i2 i s.heap)(Bj:i=dP∨(i<dP∧i=dv))(hQ:∀h' e c4,(∀c o,c≠z→c≠bG→c≠bB→c≠bz→s.heap.get? c=some o→h'.get? c=some o)→(∃o,h'.get? e=some o∧o.cls=.type "StopIteration")→E (.ref e) { s with heap:=h',toks:=c4 }) :
  adi (adj prog w) A (ahM.«zip.__next__» ⟨[.ref z],[]⟩) Q E s:=by
 show adi _ _ (field (.ref z) 2>>=_) _ _ _;refine acU (aek bj rfl (x:=.bool false) rfl ?_);show adi _ _ (field (.ref z) 3>>=_) _ _ _;refine acU (aek bj rfl (x:=.ref TI) rfl ?_);refine acU (aev en rfl ?_);show adi _ _ (ad2 (.ref z)>>=_) _ _ _;refine acU ?_;unfold ad2;refine acU (aek bj rfl (x:=.none) rfl (ac5 ?_));simp only[if_true];refine acU (afP ?_);refine acU (aek bj rfl (x:=.ref bG) rfl ?_);refine acU (aes bj (by simp) fun j9 oW lE=>?_);replace oW:agn j9 z TI bG .ellipsis:=oW;refine acU ?_;simp only[afE,ag6,afU,ahA];refine acU (acU (ago ?_));show adi _ _ (adH (.ref bB)>>=_) _ _ _;have Kn:i1 i j9:=kF fI h1 lE ap.AY;rcases Bj with ae|⟨fD,au⟩
 ·subst ae;refine acU (fI.done _ _ _ Kn fun lG e j8 he=>?_);obtain⟨Ce,qr,tP⟩:=he;have Hz:agn lG z TI bG .ellipsis:=j8 _ _ ap.i1z.symm oW;have Bk:e≠z:=fun x=>by subst x;rw[Hz]at qr;cases qr;simp at tP
  refine aes Hz (by simp) fun mB _ kJ=>hQ mB e s.toks (fun c o cp _ e3 _ x=>kJ.extBut _ _ cp (j8 _ _ e3 (lE.extBut _ _ cp x))) ⟨Ce,kJ.extBut _ _ Bk qr,tP⟩
 ·subst au;refine acU (fI.item _ _ _ _ fD Kn fun x lG K6 aA Kv j8=>ac5 ?_);have tM:aer lG bG a b:=j8.extBut _ _ ap.TOi1 (lE.extBut _ _ ap.TOz eM);refine acU (aev tM rfl ?_);refine acU (afI tM fun mB w_ kJ=>?_);refine acU (wpAny_letGo (ac5 ?_));refine acU (acU (ago ?_));show adi _ _ (adH (.ref bz)>>=_) _ _ _;refine acU (fv.done _ _ _ (kF fv (kF fv (kF fv h2 lE ap.A0) j8 ap.Ga) kJ ap.AZ) fun tZ e oU he=>?_);obtain⟨Ce,qr,tP⟩:=he;have HA:agn tZ z TI bG .ellipsis:=oU _ _ ap.i2z.symm (kJ.extBut _ _ ap.TOz.symm (j8.extBut _ _ ap.i1z.symm oW));have Bk:e≠z:=fun x=>by subst x;rw[HA]at qr;cases qr;simp at tP
  refine aes HA (by simp) fun hA _ oV=>hQ hA e K6 (fun c o cp dO e3 nj x=>oV.extBut _ _ cp (oU _ _ nj (kJ.extBut _ _ dO (j8.extBut _ _ e3 (lE.extBut _ _ cp x))))) ⟨Ce,oV.extBut _ _ Bk qr,tP⟩
theorem Cz {z TI bG bB bz:ac1} {f1 f2:List ac1} {dP dv i:Nat} {nc nd:Nat→acV→Prop} {i1 i2:Nat→adT→Prop} {a b:acV} {Q:Option acV→acW→Prop} (fI:Draws prog w A.in1 bB f1 dP nc i1) (fv:Draws prog w A.in1 bz f2 dv nd i2) (ap:ng z TI bG bB bz f1 f2)(bj:agn s.heap z TI bG .none) (en:aer s.heap TI (.ref bB) (.ref bz)) (eM:aer s.heap bG a b) (h1:i1 i s.heap) (h2:i2 i s.heap) (fD:i<dP) (a3:i<dv)(gd:∀x y h' c4,nc i x→nd i y→agn h' z TI bG (rawInt s.heap.objs.size)→aer h' bG x y→i1 (i+1) h'→i2 (i+1) h'→aer h' s.heap.objs.size x y→h'.objs.size=s.heap.objs.size+1→
    (∀c o,c≠z→c≠bG→c≠bB→c≠bz→s.heap.get? c=some o→h'.get? c=some o)→Q (some (.ref s.heap.objs.size)) { s with heap:=h',toks:=c4 }) :
  adi (adj prog w) A (pyNext (.ref z)) Q E s:=by
 have hR:s.TypeIs (.ref z) "zip":=⟨_,bj,rfl⟩;unfold pyNext
 exact acU (wpAny_attempt (aeF (name:=ag5 "__next__") hR afY
  (aeI afY hR F.entry_zip_next
    (Zz fI fv ap bj en eM h1 h2 fD a3 fun x y h' c4 a1 a2 d3 gH jB kA Mg zJ Mh=>ac5 (gd x y h' c4 a1 a2 d3 gH jB kA Mg zJ Mh)) (F.args_zip_next_1 _))))
theorem Cy{z TI bG bB bz:ac1}{f1 f2:List ac1}{dP dv i:Nat}{nc nd:Nat→acV→Prop}{i1 i2:Nat→adT→Prop}{a b:acV}{Q:Option acV→acW→Prop}(fI:Draws prog w A.in1 bB f1 dP nc i1)(fv:Draws prog w A.in1 bz f2 dv nd i2)(ap:ng z TI bG bB bz f1 f2)(bj:agn s.heap z TI bG .none)(en:aer s.heap TI (.ref bB) (.ref bz))(eM:aer s.heap bG a b)(h1:i1 i s.heap)(h2:i2 i s.heap)(Bj:i=dP∨(i<dP∧i=dv))(gd:∀h' c4,(∀c o,c≠z→c≠bG→c≠bB→c≠bz→s.heap.get? c=some o→h'.get? c=some o)→Q none { s with heap:=h',toks:=c4 }):adi (adj prog w) A (pyNext (.ref z)) Q E s:=by
 have hR:s.TypeIs (.ref z) "zip":=⟨_,bj,rfl⟩;unfold pyNext
 refine acU (wpAny_attempt (aeF (name:=ag5 "__next__") hR afY
  (aeI afY hR F.entry_zip_next (Zy fI fv ap bj en eM h1 h2 Bj fun h' e c4 aK he=>?_) (F.args_zip_next_1 _))))
 obtain⟨o,aH,ax⟩:=he;refine acU (wpAny_isInstance (T:="StopIteration") (b:=true) ⟨o,aH,ax⟩ isSubtype_stop ?_);exact ac5 (gd _ _ aK)
end
theorem Inv.sN{X:aS}{pins:List (ac1×Obj)}{σ :St}{H:ag}{s:acW}{h':adT}{t':Nat}{ch:List ac1}(I:Inv X pins σ H s)(k:∀b o,b∉ch→s.heap.get? b=some o→h'.get? b=some o)(hf:∀b∈ch,ia X pins H b):Inv X pins σ H { s with heap:=h',toks:=t' }:=by
 have pf:∀b u,H b=some u→b∉ch:=fun b u e z=>by rw[(hf b z).1]at e;cases e
 refine I.step (g':=s.gens) (d':=s.drawn) (ch:=ch) (fun b J=>?_) (fun b o _ _ ax e _=>k b o ax e) (fun b o _ _ ax e _=>⟨o.slots,k b o ax e⟩) (fun _ _ _ _ n=>n)
  (fun b o ax e=>⟨o,k b o ax e⟩) (fun _ _ e=>e) (fun _ _ _ e=>e) (fun b aO e=>⟨#[],by rw[e];simp⟩) (fun m hm=>?_) (fun b u e=>?_) I.bare
 ·obtain⟨_,f1,_,fO,f4,il⟩:=hf b J;exact⟨fO,f1,f4,il⟩
 ·obtain⟨o,ah,ek,aH,r⟩:=hm;exact⟨o,ah,ek,k _ o (fun z=>(hf _ z).2.1 rfl) aH,r⟩
 ·refine(I.bR b u e).n_ (fun c v ax q=>k c v ?_ q) (fun _ q=>q) fun _ _ q=>q;rcases ax with z|z
  ·rw[z];exact pf b u e
  ·exact pf c _ z
theorem Inv.yR{X:aS}{pins:List (ac1×Obj)}{σ :St}{H:ag}{s:acW}{h':adT}{t':Nat}{ch:List ac1}{T:ac1}{xs:List V}{its:List acV}(I:Inv X pins σ H s)(k:∀b o,b∉ch→s.heap.get? b=some o→h'.get? b=some o)(hf:∀b∈ch,ia X pins H b)(hR:s.heap.objs.size≤T)(bJ:aeP h' T its.toArray)(b4:Vals xs its)(bj:xs.length≤ade):Inv X pins σ (upd H T (.tup xs)) { s with heap:=h',toks:=t' }:=by
 have pf:∀b u,H b=some u→b∉ch:=fun b u e z=>by rw[(hf b z).1]at e;cases e
 have aU:H T=none:=I.bR.fresh hR;have neT:∀b o,s.heap.get? b=some o→b≠T:=fun b o e=>adn (adb (acZ e) hR)
 refine I.step (g':=s.gens) (d':=s.drawn) (ch:=ch) (fun b J=>?_) (fun b o _ _ ax e _=>k b o ax e) (fun b o _ _ ax e _=>⟨o.slots,k b o ax e⟩) (fun b o _ e n=>by rw[c8 (neT b o e)];exact n)
  (fun b o ax e=>⟨o,k b o ax e⟩) (fun b ys e=>by rw[c8 (iO e aU)];exact e) (fun b _ _ e=>by rw[c8 (iO e aU)];exact e) (fun b aO e=>⟨#[],by rw[c8 (iO e aU),e];simp⟩) (fun m hm=>?_) (fun b u e=>?_) I.bare
 ·obtain⟨_,f1,_,fO,f4,il⟩:=hf b J;exact⟨fO,f1,f4,il⟩
 ·obtain⟨o,ah,ek,aH,r⟩:=hm;exact⟨o,ah,ek,k _ o (fun z=>(hf _ z).2.1 rfl) aH,r⟩
 ·by_cases J:b=T
  ·subst J;rw[dN]at e;cases e;exact⟨bj,its,b4,bJ⟩
  ·rw[c8 J]at e;refine(I.bR b u e).n_ (fun c v ax q=>k c v ?_ q) (fun c q=>by rw[c8 (iO q aU)];exact q) fun c ys q=>by rw[c8 (iO q aU)];exact q
   rcases ax with z|z
   ·rw[z];exact pf b u e
   ·exact pf c _ z
noncomputable def zw(x:Str):It:=⟨fun i _=>i<x.cps.size,fun i H v H'=>H'=H∧∃c,x.cps[i]?=some c∧v=.str ⟨#[c]⟩,fun i _=>i=x.cps.size⟩
theorem Ll{prog:ac_}{w:adB}{A:adp}(bw:A.handled=none)(I:ac1)(x:Str)(t:Tok):Walks prog w A I [I] [I] x.cps.size (SignAt x) (fun i h=>h.IsStrIter I (ael x) x t i):=by
 unfold ael;cases U:x.cps.all (· <128)
 ·rw[if_neg adw];exact Walks.strWide bw I x t
 ·rw[if_pos rfl];exact Walks.strAscii bw I x t
theorem FP{prog:ac_}{w:adB}{A:adp}(bw:A.handled=none)(I:ac1)(x:Str)(t:Tok):Draws prog w A I [I] x.cps.size (fun i v=>∃c u,x.cps[i]?=some c∧v=.str ⟨#[c]⟩ u) (fun i h=>h.IsStrIter I (ael x) x t i):=by
 unfold ael;cases U:x.cps.all (· <128)
 ·rw[if_neg adw];exact Draws.strWide bw I x t
 ·rw[if_pos rfl];exact Draws.strAscii bw I x t
theorem Xc(x:Str):["enumerate","zip","dict_itemiterator","dict_reverseitemiterator","odict_iterator","itertools.zip_longest","itertools.pairwise"].contains (ael x)=false:=by
 unfold ael
 split<;>decide
theorem XO{P:ac_}{w:adB}{K:PySem.W.Frag}{bU:adq}(it:ac1)(x:Str)(t:Tok):Turn P w K bU (zw x) [it] it (fun i h=>h.IsStrIter it (ael x) x t i) where
 mem:=by simp
 obj:=fun i h st b J=>by
  have e:b=it:=by simpa using J
  subst e;obtain⟨o,e,c,d⟩:=st;exact⟨o,e,fun v z=>by rw[d]at z;cases z⟩
 keep:=fun i h h' st k=>by obtain⟨o,e,r⟩:=st;exact⟨o,k it (by simp) o e,r⟩
 item:=by intro X hP hw aY ax i pins s σ H E I hf st aI;subst hP hw aY;have W:=Ll (prog:=X.prog) (w:=X.w) (A:=X.A) (I.ok.hd ax) it x t;refine W.item i s _ _ aI st fun v h' c4 bP lX cA=>?_;obtain⟨c,u,rU,rfl⟩:=bP;have a6:Inv X pins σ H { s with heap:=h',toks:=c4 }:=I.sN (ch:=[it]) cA hf;obtain⟨o,e,cp,d1⟩:=id lX;exact⟨_,rfl,w4 (s:={ s with heap:=h',toks:=c4 }) e cp d1 (Xc x) ⟨.str ⟨#[c]⟩,H,a6,⟨u,rfl⟩,⟨rfl,c,rU,rfl⟩,lX,fun b J=>(hf b J).1⟩⟩
 done:=by intro X hP hw aY ax i pins s σ H E I hf st aI;subst hP hw aY;have W:=Ll (prog:=X.prog) (w:=X.w) (A:=X.A) (I.ok.hd ax) it x t;have ak:i=x.cps.size:=aI;subst ak;exact W.done s _ _ st fun h' c4 cA=>⟨rfl,I.sN (ch:=[it]) cA hf⟩
 self:=fun A i s Q E st h=>by
  unfold ael at st;cases U:x.cps.all (· <128)
  ·rw[U,if_neg adw]at st;exact wpAny_pyIter_striter_wide st h
  ·rw[U,if_pos rfl]at st;exact wpAny_pyIter_striter_ascii st h
section
variable{X:aS}{bU:adq}
def HE(gm:TE):TI:=fun σ H R=>gm σ H fun v H1=>∃x,v=.str x∧R (zw x) H1
theorem U6{l:adq}{gm:TE}(av:a4 X l gm):f6 X bU l (HE gm):=by
 intro pins s σ H R I h;refine bX (av pins s σ H _ I h) fun v s1⟨y,H1,a6,aq,bb⟩=>?_;obtain⟨x,e,q⟩:=bb;subst e;obtain⟨t,rfl⟩:=aq;refine wpAny_pyIter_strU ?_;refine⟨s1.heap.objs.size,[s1.heap.objs.size],_,_,H1,rfl,a6.kept (t':=s1.toks) fun b o e=>acS _ e,XO _ x t,⟨_,ac2 _ rfl,rfl,rfl⟩,fun b J=>?_,q⟩;have e:b=s1.heap.objs.size:=by simpa using J
 subst e;exact a6.nr (ac3 _) (a6.bR.fresh (ac3 _))
end
noncomputable def zu(K:PySem.W.Frag)(l:ac1):It:=⟨fun i H=>∃xs x,bQ K H l xs∧xs[i]?=some x,fun i H v H'=>∃p x,H p=none∧H'=upd H p (.tup [.int (i:Int),x])∧v=.ref p∧∀xs,bQ K H l xs→xs[i]?=some x,fun i H=>∃xs,bQ K H l xs∧xs.length=i⟩
theorem XK{P:ac_}{w:adB}{K:PySem.W.Frag}{elts:List adq}{cA:Nat}{pos:Pos}(e it l:ac1)(Hk:e≠it) :
  Turn P w K (.Tuple elts cA pos) (zu K l) [e,it] e (fun i h=>(∃old,IsEnum h e it i old)∧h.IsListIter it l i) where
 mem:=by simp
 obj:=fun i h st b J=>by
  obtain⟨⟨old,he⟩,o,ae,c,d⟩:=st;rcases List.mem_cons.mp J with z|z
  ·subst z;exact⟨_,he,fun v z=>by have eh:agh _=aeZ v:=z;cases eh⟩
  ·have z:b=it:=by simpa using z
   subst z;exact⟨o,ae,fun v z=>by rw[d]at z;cases z⟩
 keep:=fun i h h' st k=>by obtain⟨⟨old,he⟩,hit⟩:=st;exact⟨⟨old,k e (by simp) _ he⟩,hit.at fun o x=>k it (by simp) o x⟩
 item:=by
  intro X hP hw aY ax i pins s σ H E I hf st aI;subst hP hw aY;obtain⟨xs,x,aP,aA⟩:=aI;obtain⟨its,b4,pl,bj⟩:=I.list aP;obtain⟨⟨old,he⟩,hit⟩:=st;have hn:=pl.isList;have hle:l≠e:=fun z=>by subst z;obtain⟨o,aH,i7,_⟩:=hn;rw[he]at aH;cases aH;have i7:ae6 "enumerate"=ae6 "list":=i7;injection i7 with i7;exact absurd i7 (by decide)
  have xh:l≠it:=fun z=>by subst z;obtain⟨o,aH,i7,_⟩:=hn;obtain⟨cc,fW,nz,_⟩:=hit;rw[fW]at aH;cases aH;rw[i7]at nz;injection nz with nz;exact absurd nz (by decide)
  have W:=WalksT.enumerate (prog:=X.prog) (w:=X.w) (A:=X.A) (I.ok.hd ax) e it l Hk hle xh its.toArray;have hlen:=b4.length;have qp:i<xs.length:=(List.getElem?_eq_some_iff.mp aA).1;refine W.item i s _ _ (by rw[acY,←hlen];exact qp) ⟨⟨old,he⟩,hit,hn⟩ fun T vals h' c4 hP hR OV w8 aK=>?_;obtain⟨t,u,aV,rfl⟩:=hP;obtain⟨fZ,qv,dV⟩:=b4.get aA;have eL:fZ=u:=by rw[aed]at aV;rw[qv]at aV;exact ac0 aV
  subst eL;refine⟨_,rfl,?_⟩;refine W.go elts cA pos i T { s with heap:=h',toks:=c4 } _ _ w8 fun h2 kW Ho=>?_;have Hf:T∉[e,it]:=W.apart i T h' w8;have keep:∀b o,b∉[e,it]→s.heap.get? b=some o→h2.get? b=some o:=fun b o J q=>Ho b o J (aK b o J q);have qu:aeP h2 T (#[.int i t,fZ]:Array acV):=by obtain⟨o,aH,r⟩:=OV;exact⟨o,Ho T o Hf aH,r⟩
  have aU:H T=none:=I.bR.fresh hR;have cn:Inv X pins σ (upd H T (.tup [.int (i:Int),x])) { s with heap:=h2,toks:=c4 }:=I.yR (its:=[.int i t,fZ]) (ch:=[e,it]) keep hf hR qu (.cons ⟨t,rfl⟩ (.cons dV .nil)) (by show 2≤ade;decide);refine⟨.ref T,upd H T (.tup [.int (i:Int),x]),cn,rfl,⟨T,x,aU,rfl,rfl,fun ys b8=>by rw[I.uc b8 aP];exact aA⟩,⟨kW.1,kW.2.1⟩,fun b J=>?_⟩;have nb:b≠T:=fun z=>Hf (z▸J);rw[c8 nb];exact(hf b J).1
 done:=by
  intro X hP hw aY ax i pins s σ H E I hf st aI;subst hP hw aY;obtain⟨xs,aP,aA⟩:=aI;obtain⟨its,b4,pl,bj⟩:=I.list aP;obtain⟨⟨old,he⟩,hit⟩:=st;have hn:=pl.isList;have hle:l≠e:=fun z=>by subst z;obtain⟨o,aH,i7,_⟩:=hn;rw[he]at aH;cases aH;have i7:ae6 "enumerate"=ae6 "list":=i7;injection i7 with i7;exact absurd i7 (by decide)
  have xh:l≠it:=fun z=>by subst z;obtain⟨o,aH,i7,_⟩:=hn;obtain⟨cc,fW,nz,_⟩:=hit;rw[fW]at aH;cases aH;rw[i7]at nz;injection nz with nz;exact absurd nz (by decide)
  have W:=WalksT.enumerate (prog:=X.prog) (w:=X.w) (A:=X.A) (I.ok.hd ax) e it l Hk hle xh its.toArray;have fo:i=its.toArray.size:=by rw[acY,←b4.length];exact aA.symm
  subst fo;exact W.done s _ _ ⟨⟨old,he⟩,hit,hn⟩ fun h' c4 cA=>⟨rfl,I.sN (ch:=[e,it]) cA hf⟩
 self:=fun A i s Q E st h=>by obtain⟨⟨old,he⟩,_⟩:=st;exact wpAny_pyIter_enum he h
section
variable{X:aS}{elts:List adq}{cA:Nat}{mS:Pos}
noncomputable def HC(K:PySem.W.Frag)(cg:eS):TI:=fun σ H R=>cg σ H fun vs H1=>∃l,vs=[.ref l]∧(∃xs,bQ K H1 l xs)∧R (zu K l) H1
theorem U4{a:adq}{cg:eS}{p pos:Pos}(aI:dF X "enumerate")(hm:X.mg "enumerate"=none)(U:fh X [a] cg)(aD:acX [a] X.env=[(false,adW a X.env)]:=by rfl):f6 X (.Tuple elts cA mS) (.Call (.Name "enumerate" p) [a] [] pos) (HC X.K cg):=by
 have J:ad6 "enumerate"=some (.type "enumerate"):=by kernel_rfl
 intro pins s σ H R I h;refine af4 (nK I aI hm J (adL (bX (U pos pins s σ H _ I h) fun us s1⟨vs,H1,a6,aq,bb⟩=>?_) aD rfl));obtain⟨l,e,⟨xs,aP⟩,q⟩:=bb;subst e;obtain⟨u,rfl,dV⟩:=vals1 aq;cases dV;obtain⟨its,b4,pl,bj⟩:=a6.list aP;refine call_enumerate_list pl.isList fun h' he hit hsz aK=>?_;have cn:Inv X pins σ H1 { s1 with heap:=h' }:=a6.kept (t':=s1.toks) aK;refine wpAny_pyIter_enum he ?_;refine⟨s1.heap.objs.size+1,[s1.heap.objs.size+1,s1.heap.objs.size],_,_,H1,rfl,cn,XK _ _ l (Nat.succ_ne_self _),⟨⟨_,he⟩,hit⟩,fun b J=>?_,q⟩;have J:b=s1.heap.objs.size+1∨b=s1.heap.objs.size:=by simpa using J
 rcases J with z|z
 ·subst z;exact a6.nr (afn _) (a6.bR.fresh (afn _))
 ·subst z;exact a6.nr (ac3 _) (a6.bR.fresh (ac3 _))
end
abbrev zg(h:adT)(x:Str)(t:Tok):adT:=h.push { cls:=.type (ael x),data:=.fields #[.str x t,.int 0 0] }
abbrev zh(h:adT)(x:Str)(t:Tok)(l:ac1):adT:=(zg h x t).push { cls:=.type "tuple_iterator",data:=.fields #[.ref l,.int 0 0] }
abbrev zi(h:adT)(x:Str)(t:Tok)(l:ac1):adT:=(zh h x t l).push { cls:=.type "tuple",data:=.seq #[.ref h.objs.size,.ref (zg h x t).objs.size] }
abbrev zj(h:adT)(x:Str)(t:Tok)(l:ac1):adT:=(zi h x t l).push { cls:=.type "tuple",data:=.seq #[.none,.none] }
abbrev rm(h:adT)(x:Str)(t:Tok)(l:ac1):adT:=(zj h x t l).push { cls:=.type "zip",data:=.fields #[.none,.bool false,.bool false,.ref (zh h x t l).objs.size,.ref (zi h x t l).objs.size] }
set_option maxHeartbeats 4000000 in
theorem Ta(x:Str)(t:Tok)(a3:ac1)(ys:Array acV) :
  Meets (ahM.«zip.__new__» ⟨[.type "zip",.str x t,.ref a3],[]⟩) (fun _ R s=>s.heap.IsTuple a3 ys∧R (.ok (.ret (.ref (zj s.heap x t a3).objs.size))) { s with heap:=rm s.heap x t a3 }):=
 .of_wp fun prog w A R s h=>by
   obtain⟨a5,g,d,c4,os⟩:=s;obtain⟨j7,h⟩:=h;have Hw:=sub_zip;have tK:Heap.IsTuple (aii ⟨a5.push { cls:=.type (ael x),data:=.fields #[.str x t,.int 0 0] },g,d,c4,os⟩) a3 ys:=ah6 j7 _
   wp_walk using wpAny_pyIter_strU,ae_ tK
   exact⟨_,rfl,h⟩
theorem M8 {prog:ac_} {w:adB} {A:adp} {E:acV→acW→Prop} {s:acW} {x:Str} {t:Tok} {a3:ac1} {ys:Array acV} {Q:acV→acW→Prop} (j7:s.heap.IsTuple a3 ys)(h:∀h',agn h' (s.heap.objs.size+4) (s.heap.objs.size+2) (s.heap.objs.size+3) .none→aer h' (s.heap.objs.size+2) (.ref s.heap.objs.size) (.ref (s.heap.objs.size+1))→
    aer h' (s.heap.objs.size+3) .none .none→h'.IsStrIter s.heap.objs.size (ael x) x t 0→h'.IsTupleIter (s.heap.objs.size+1) a3 0→h'.objs.size=s.heap.objs.size+5→
    (∀c o,s.heap.get? c=some o→h'.get? c=some o)→Q (.ref (s.heap.objs.size+4)) { s with heap:=h' }) :
  adi (adj prog w) A (call (.type "zip") [.str x t,.ref a3]) Q E s:=by
 refine callType_new F.called_zip (by decide) (agy _ _) (ag7 _ _) (fun obj=>afJ obj _ _) ag8 (Ta x t a3 ys) ⟨j7,?_⟩;have bl:(zg s.heap x t).objs.size=s.heap.objs.size+1:=ado ..;have a_:(zh s.heap x t a3).objs.size=s.heap.objs.size+2:=by rw[ado,bl]
 have h_:(zi s.heap x t a3).objs.size=s.heap.objs.size+3:=by rw[ado,a_]
 have jw:(zj s.heap x t a3).objs.size=s.heap.objs.size+4:=by rw[ado,h_]
 have l4:(rm s.heap x t a3).objs.size=s.heap.objs.size+5:=by rw[ado,jw]
 have lA:(rm s.heap x t a3).get? (zj s.heap x t a3).objs.size=some _:=ac2 _ rfl;have f_:(rm s.heap x t a3).get? (zi s.heap x t a3).objs.size=some _:=acS _ (ac2 _ rfl);have g3:(rm s.heap x t a3).get? (zh s.heap x t a3).objs.size=some _:=acS _ (acS _ (ac2 _ rfl));have g2:(rm s.heap x t a3).get? (zg s.heap x t).objs.size=some _:=acS _ (acS _ (acS _ (ac2 _ rfl)));have g1:(rm s.heap x t a3).get? s.heap.objs.size=some _:=acS _ (acS _ (acS _ (acS _ (ac2 _ rfl))));show _∧_;rw[a_,h_,jw]at lA;rw[bl,a_]at g3;rw[h_]at f_;rw[bl]at g2;rw[jw];exact⟨⟨_,lA,rfl⟩,h _ lA g3 f_ ⟨_,g1,rfl,rfl⟩ ⟨_,g2,rfl,rfl⟩ l4 fun c o x=>
  acS _ (acS _ (acS _ (acS _ (acS _ x))))⟩
noncomputable def zy(K:PySem.W.Frag)(x:Str)(l:ac1):It:=⟨fun i H=>i<x.cps.size∧∃ys y,b_ K H l ys∧ys[i]?=some y,
 fun i H v H'=>∃p c y,x.cps[i]?=some c∧H p=none∧H'=upd H p (.tup [.str ⟨#[c]⟩,y])∧v=.ref p∧∀ys,b_ K H l ys→ys[i]?=some y,
 fun i H=>∃ys,b_ K H l ys∧i=min x.cps.size ys.length⟩
structure td(z TI bG bB bz:ac1):Prop where
 TIz:TI≠z
 TOz:bG≠z
 TITO:TI≠bG
 TIi1:TI≠bB
 TIi2:TI≠bz
 TOi1:bG≠bB
 TOi2:bG≠bz
 i1z:bB≠z
 i2z:bz≠z
 i12:bB≠bz
theorem XQ{P:ac_}{w:adB}{K:PySem.W.Frag}{elts:List adq}{cA:Nat}{pos:Pos}(x:Str)(t:Tok)(l z TI bG bB bz:ac1)(ap:td z TI bG bB bz) :
  Turn P w K (.Tuple elts cA pos) (zy K x l) [z,TI,bG,bB,bz] z (fun i h=>agn h z TI bG .none∧aer h TI (.ref bB) (.ref bz)∧(∃a b,aer h bG a b)∧h.IsStrIter bB (ael x) x t i∧h.IsTupleIter bz l i) where
 mem:=by simp
 obj:=fun i h st b J=>by
  obtain⟨bj,en,⟨a,b',eM⟩,⟨cQ,ae,cp,d1⟩,cf,au,dO,cM⟩:=st;have J:b=z∨b=TI∨b=bG∨b=bB∨b=bz:=by simpa using J
  rcases J with q|q|q|q|q<;>subst q
  ·exact⟨_,bj,fun v z=>by have eh:agh _=aeZ v:=z;cases eh⟩
  ·exact⟨_,en,fun v z=>by have eh:ahd _ _=aeZ v:=z;cases eh⟩
  ·exact⟨_,eM,fun v z=>by have eh:ahd _ _=aeZ v:=z;cases eh⟩
  ·exact⟨cQ,ae,fun v z=>by rw[d1]at z;cases z⟩
  ·exact⟨cf,au,fun v z=>by rw[cM]at z;cases z⟩
 keep:=fun i h h' st k=>by obtain⟨bj,en,⟨a,b',eM⟩,⟨cQ,ae,aq⟩,cf,au,bp⟩:=st;exact⟨k z (by simp) _ bj,k TI (by simp) _ en,⟨a,b',k bG (by simp) _ eM⟩,⟨cQ,k bB (by simp) _ ae,aq⟩,cf,k bz (by simp) _ au,bp⟩
 item:=by
  intro X hP hw aY ax i pins s σ H E I hf st aI;subst hP hw aY;obtain⟨ak,ys,y,aP,b8⟩:=aI;obtain⟨its,b4,bJ,tX⟩:=I.tuple aP;obtain⟨bj,en,⟨a,b',eM⟩,jJ,et⟩:=st;have nl:∀b∈[z,TI,bG,bB,bz],l≠b:=fun b J q=>by
   subst q;rcases aP with(h|⟨o,h⟩)|⟨o,BI,n,h,_⟩
   ·rw[(hf l J).1]at h;cases h
   ·rw[(hf l J).1]at h;cases h
   ·have h1:=I.ok.mod.mC l o h;rcases(hf l J).2.2.2.1 with q|q
    ·exact I.ok.nZ l o h1 q
    ·exact absurd (adb (acZ (I.ok.bs l o h1).1) q) (adU _)
  have bw:X.A.in1.handled=none:=I.ok.hd ax;have fI:=FP (prog:=X.prog) (w:=X.w) (A:=X.A.in1) bw bB x t;have fv:=rO (prog:=X.prog) (w:=X.w) (A:=X.A.in1) bw bz l (nl bz (by simp)) its.toArray;have hlen:=b4.length;have qp:i<ys.length:=(List.getElem?_eq_some_iff.mp b8).1
  have jD:ng z TI bG bB bz [bB] [bz,l]:=⟨ap.TIz,ap.TOz,ap.TITO,ap.TIi1,ap.TIi2,ap.TOi1,ap.TOi2,ap.i1z,ap.i2z,ap.i12,by simpa using ap.i1z.symm,by simpa using ap.TOi1,by simpa using ap.i12.symm,
   by simp only[aeG,ad7,or_false,not_or];exact⟨ap.i2z.symm,(nl z (by simp)).symm⟩,by simp only[aeG,ad7,or_false,not_or];exact⟨ap.TOi2,(nl bG (by simp)).symm⟩,by simp only[aeG,ad7,or_false,not_or];exact⟨ap.i12,(nl bB (by simp)).symm⟩⟩
  refine Cz fI fv jD bj en eM jJ ⟨et,bJ⟩ ak (by rw[acY,←hlen];exact qp) fun ix jt h' c4 dr cj a1 a2 d3 gH jB kA aK=>?_;obtain⟨c,t1,O4,rfl⟩:=dr;obtain⟨fZ,qv,dV⟩:=b4.get b8;have eL:fZ=jt:=by rw[aed]at cj;rw[qv]at cj;exact ac0 cj
  subst eL;refine⟨_,rfl,?_⟩;refine ae1 a1 fun h2 tY ho=>?_;have vq:∀b∈[z,TI,bG,bB,bz],b<s.heap.objs.size:=fun b J=>by
   have J:b=z∨b=TI∨b=bG∨b=bB∨b=bz:=by simpa using J
   obtain⟨cQ,ae,_⟩:=jJ;obtain⟨cf,au,_⟩:=et;rcases J with q|q|q|q|q<;>subst q
   ·exact acZ bj
   ·exact acZ en
   ·exact acZ eM
   ·exact acZ ae
   ·exact acZ au
  have pb:∀b∈[z,TI,bG,bB,bz],b≠s.heap.objs.size:=fun b J=>adn (vq b J);have keep:∀b o,b∉[z,bG,bB,bz]→s.heap.get? b=some o→h2.get? b=some o:=fun b o J q=>by have J:¬(b=z∨b=bG∨b=bB∨b=bz):=fun w=>J (by simpa using w);exact ho.extBut b o (fun w=>J (.inl w)) (aK b o (fun w=>J (.inl w)) (fun w=>J (.inr (.inl w))) (fun w=>J (.inr (.inr (.inl w)))) (fun w=>J (.inr (.inr (.inr w)))) q)
  have qu:aeP h2 s.heap.objs.size ([.str ⟨#[c]⟩ t1,fZ]:List acV).toArray:=⟨_,ho.extBut _ _ (pb z (by simp)).symm jB,rfl,_,rfl⟩;have aU:H s.heap.objs.size=none:=I.bR.fresh (ac3 _);have cn:Inv X pins σ (upd H s.heap.objs.size (.tup [.str ⟨#[c]⟩,y])) { s with heap:=h2,toks:=c4 }:=I.yR (its:=[.str ⟨#[c]⟩ t1,fZ]) (ch:=[z,bG,bB,bz]) keep (fun b J=>hf b (by
   have J:b=z∨b=bG∨b=bB∨b=bz:=by simpa using J
   rcases J with q|q|q|q<;>simp[q])) (ac3 _) qu (.cons ⟨t1,rfl⟩ (.cons dV .nil)) (by show 2≤ade;decide)
  refine⟨.ref s.heap.objs.size,_,cn,rfl,⟨s.heap.objs.size,c,y,O4,aU,rfl,rfl,fun zs nC=>by rw[I.vy nC aP];exact b8⟩,?_,fun b J=>?_⟩
  ·refine⟨tY,ho.extBut _ _ ap.TIz (aK _ _ ap.TIz ap.TITO ap.TIi1 ap.TIi2 en),⟨_,_,ho.extBut _ _ ap.TOz a2⟩,?_,?_⟩
   ·obtain⟨cQ,ae,aq⟩:=d3;exact⟨cQ,ho.extBut _ _ ap.i1z ae,aq⟩
   ·obtain⟨⟨cf,au,bp⟩,_⟩:=gH;exact⟨cf,ho.extBut _ _ ap.i2z au,bp⟩
  ·rw[c8 (pb b J)];exact(hf b J).1
 done:=by
  intro X hP hw aY ax i pins s σ H E I hf st aI;subst hP hw aY;obtain⟨ys,aP,ak⟩:=aI;obtain⟨its,b4,bJ,tX⟩:=I.tuple aP;obtain⟨bj,en,⟨a,b',eM⟩,jJ,et⟩:=st;have nl:∀b∈[z,TI,bG,bB,bz],l≠b:=fun b J q=>by
   subst q;rcases aP with(h|⟨o,h⟩)|⟨o,BI,n,h,_⟩
   ·rw[(hf l J).1]at h;cases h
   ·rw[(hf l J).1]at h;cases h
   ·have h1:=I.ok.mod.mC l o h;rcases(hf l J).2.2.2.1 with q|q
    ·exact I.ok.nZ l o h1 q
    ·exact absurd (adb (acZ (I.ok.bs l o h1).1) q) (adU _)
  have bw:X.A.in1.handled=none:=I.ok.hd ax;have fI:=FP (prog:=X.prog) (w:=X.w) (A:=X.A.in1) bw bB x t;have fv:=rO (prog:=X.prog) (w:=X.w) (A:=X.A.in1) bw bz l (nl bz (by simp)) its.toArray;have hlen:=b4.length
  have jD:ng z TI bG bB bz [bB] [bz,l]:=⟨ap.TIz,ap.TOz,ap.TITO,ap.TIi1,ap.TIi2,ap.TOi1,ap.TOi2,ap.i1z,ap.i2z,ap.i12,by simpa using ap.i1z.symm,by simpa using ap.TOi1,by simpa using ap.i12.symm,
   by simp only[aeG,ad7,or_false,not_or];exact⟨ap.i2z.symm,(nl z (by simp)).symm⟩,by simp only[aeG,ad7,or_false,not_or];exact⟨ap.TOi2,(nl bG (by simp)).symm⟩,by simp only[aeG,ad7,or_false,not_or];exact⟨ap.i12,(nl bB (by simp)).symm⟩⟩
  refine Cy fI fv jD bj en eM jJ ⟨et,bJ⟩ ?_ fun h' c4 cA=>⟨rfl,I.sN (ch:=[z,bG,bB,bz]) (fun b o J q=>?_) fun b J=>hf b ?_⟩
  ·have ah:its.toArray.size=its.length:=by simp
   rw[ah,←hlen];omega
  ·have J:¬(b=z∨b=bG∨b=bB∨b=bz):=fun w=>J (by simpa using w);exact cA b o (fun w=>J (.inl w)) (fun w=>J (.inr (.inl w))) (fun w=>J (.inr (.inr (.inl w)))) (fun w=>J (.inr (.inr (.inr w)))) q
  ·have J:b=z∨b=bG∨b=bB∨b=bz:=by simpa using J
   rcases J with q|q|q|q<;>simp[q]
 self:=fun A i s Q E st h=>aeJ st.1 h
section
variable{X:aS}{elts:List adq}{cA:Nat}{mS:Pos}
theorem EE(n:Nat):td (n+4) (n+2) (n+3) n (n+1):=
 ⟨(show n+2≠n+4 from adn (show(n+2:Nat)<n+4 by omega)),
  (show n+3≠n+4 from adn (show(n+3:Nat)<n+4 by omega)),
  (show n+2≠n+3 from adn (show(n+2:Nat)<n+3 by omega)),
  (show n+2≠n from aeC (show(n:Nat)<n+2 by omega)),
  (show n+2≠n+1 from aeC (show(n+1:Nat)<n+2 by omega)),
  (show n+3≠n from aeC (show(n:Nat)<n+3 by omega)),
  (show n+3≠n+1 from aeC (show(n+1:Nat)<n+3 by omega)),
  (show n≠n+4 from adn (show(n:Nat)<n+4 by omega)),
  (show n+1≠n+4 from adn (show(n+1:Nat)<n+4 by omega)),
  (show n≠n+1 from adn (show(n:Nat)<n+1 by omega))⟩
noncomputable def HH(K:PySem.W.Frag)(cg:eS):TI:=fun σ H R=>cg σ H fun vs H1=>∃x l,vs=[.str x,.ref l]∧(∃ys,b_ K H1 l ys)∧R (zy K x l) H1
theorem U9{a b:adq}{cg:eS}{p pos:Pos}(aI:dF X "zip")(hm:X.mg "zip"=none)(U:fh X [a,b] cg)(aD:acX [a,b] X.env=[(false,adW a X.env),(false,adW b X.env)]:=by rfl)(et:acX [b] X.env=[(false,adW b X.env)]:=by rfl) :
  f6 X (.Tuple elts cA mS) (.Call (.Name "zip" p) [a,b] [] pos) (HH X.K cg):=by
 have J:ad6 "zip"=some (.type "zip"):=by kernel_rfl
 intro pins s σ H R I h;refine af4 (nK I aI hm J (adL (bX (U pos pins s σ H _ I h) fun us s1⟨vs,H1,a6,aq,bb⟩=>?_) (by rw[aD,et]) (by rw[et];rfl)));obtain⟨x,l,e,⟨ys,aP⟩,q⟩:=bb;subst e;obtain⟨u,jt,rfl,⟨t,rfl⟩,dV⟩:=vals2 aq;cases dV;obtain⟨its,b4,bJ,bj⟩:=a6.tuple aP;refine M8 (show s1.heap.IsTuple l its.toArray from bJ) fun h' a1 a2 d3 gH jB kA aK=>?_;have cn:Inv X pins σ H1 { s1 with heap:=h' }:=a6.kept (t':=s1.toks) aK;refine aeJ a1 ?_;refine⟨s1.heap.objs.size+4,[s1.heap.objs.size+4,s1.heap.objs.size+2,s1.heap.objs.size+3,s1.heap.objs.size,s1.heap.objs.size+1],_,_,H1,rfl,cn,XQ x t l _ _ _ _ _ (EE s1.heap.objs.size),⟨a1,a2,⟨_,_,d3⟩,gH,jB⟩,fun b J=>?_,q⟩;have J:s1.heap.objs.size≤b:=by
  have J:b=s1.heap.objs.size+4∨b=s1.heap.objs.size+2∨b=s1.heap.objs.size+3∨b=s1.heap.objs.size∨b=s1.heap.objs.size+1:=by simpa using J
  rcases J with q|q|q|q|q
  ·rw[q];exact aef _ _
  ·rw[q];exact aef _ _
  ·rw[q];exact aef _ _
  ·rw[q];exact ac3 _
  ·rw[q];exact aef _ _
 exact a6.nr J (a6.bR.fresh J)
end
end a7
namespace bu
open PySem PySem.Spec a7
section
variable{X:aS}{F:bg}{e a b c bU iter elt:adq}{ah:List adq}{pos p:Pos}{m n:aN}{ma:aW}
def jn(c:Nat):D:=.str ⟨#[c]⟩
def DB:D→R (List D)
 |.str x=>.ok (x.cps.toList.map jn)
 |_=>.bad
theorem Rm{K:PySem.W.Frag}{G:ag}(x:Str):iY K (zw x) (x.cps.toList.map jn) G where
 go:=fun i H s ak=>by
  have h:i<x.cps.size:=by simpa using ak
  exact h
 iU:=fun i H v H' s ak y=>by obtain⟨e,c,ax,rfl⟩:=y;refine⟨jn c,?_,.inl ⟨e,by unfold jn;simp only[At]⟩⟩;rw[ac4,aeS,ax];rfl
 stop:=fun H s=>by
  have h:(x.cps.toList.map jn).length=x.cps.size:=by simp
  exact h
def ur(m:aN):aW:=fun ρ=>(m ρ).bind DB
theorem QS:m3 (jq F (ur m)) (HE (cZ F m)):=by
 rintro σ H Q ⟨G,ρ,r,h⟩;unfold ur at h;refine⟨G,ρ,r,?_⟩;cases aj:m ρ with
 |bad=>rw[aj]at h;exact h.elim
 |exc c=>rw[aj]at h;exact h
 |ok d=>
  rw[aj,R.bo]at h;intro v H1 aM aq s1 a;cases d with
  |str x=>simp only[At]at a;exact⟨x,a,h _ H1 aM aq s1 (Rm x)⟩
  |_=>exact h.elim
def oK(ds:List D):List D:=ds.zipIdx.map fun p=>.tup [.int (p.2:Int),p.1]
theorem Oe{ds:List D}{i:Nat}{d:D}(e:ds[i]?=some d):(oK ds)[i]?=some (.tup [.int (i:Int),d]):=by unfold oK;rw[ac4,ahx,e];simp
def qf:List D→R (List D)
 |[.lst ds]=>.ok (oK ds)
 |[.cu ds]=>.ok (oK ds)
 |_=>.bad
theorem HX{K:PySem.W.Frag}{G:ag}{l:ac1}{ds:List D}{xs:List V}(h:bQ K G l xs)(q:aT K G ds xs):iY K (zu K l) (oK ds) G where
 go:=fun i H s ak=>by
  have ak:i<ds.length:=by simpa[oK]using ak
  obtain⟨v,e,_⟩:=q.get (acT ak);exact⟨xs,v,bQ.mono s h,e⟩
 iU:=fun i H v H' s ak y=>by obtain⟨p,x,a5,rfl,rfl,y⟩:=y;have ex:=y xs (bQ.mono s h);obtain⟨d,e,a⟩:=q.oL ex;exact⟨_,Oe e,.inr ⟨p,_,_,a5,rfl,rfl,rfl,.cons (by simp only[At]) (.cons a .nil)⟩⟩
 stop:=fun H s=>⟨xs,bQ.mono s h,by simp[oK,q.length]⟩
def o4(m:aW):aW:=fun ρ=>(m ρ).bind qf
theorem Qk(aY:F.K=X.K):m3 (jq F (o4 ma)) (HC X.K (eo F ma)):=by
 rintro σ H Q ⟨G,ρ,r,h⟩;unfold o4 at h;refine⟨G,ρ,r,?_⟩;cases aj:ma ρ with
 |bad=>rw[aj]at h;exact h.elim
 |exc c=>rw[aj]at h;exact h
 |ok ds=>
  rw[aj,R.bo]at h;intro vs H1 aM aq s1 al;unfold qf at h
  split at h
  ·rename_i ds;obtain⟨v,rfl,a⟩:=al.one;simp only[At]at a;obtain⟨q,xs,rfl,aP,fz⟩:=a;have g9:bQ X.K aM q xs:=bQ.of aP;rw[←aY]at g9;refine⟨q,rfl,⟨xs,by rw[←aY];exact bQ.mono aq.az.sub g9⟩,?_⟩;rw[←aY];exact h _ H1 aM aq s1 (HX g9 fz)
  ·rename_i ds;obtain⟨v,rfl,a⟩:=al.one;simp only[At]at a;obtain⟨q,xs,rfl,aP,fz⟩:=a;refine⟨q,rfl,⟨xs,by rw[←aY];exact bQ.mono aq.az.sub aP⟩,?_⟩;rw[←aY];exact h _ H1 aM aq s1 (HX aP fz)
  ·exact h.elim
def rl(xs:List Nat)(ys:List D):List D:=(xs.zip ys).map fun p=>.tup [jn p.1,p.2]
def ED:List D→R (List D)
 |[.str x,.dI ys]=>.ok (rl x.cps.toList ys)
 |_=>.bad
theorem Rn{K:PySem.W.Frag}{G:ag}{x:Str}{l:ac1}{ds:List D}{xs:List V}(h:b_ K G l xs)(q:aT K G ds xs):iY K (zy K x l) (rl x.cps.toList ds) G where
 go:=fun i H s ak=>by
  have ak:i<min x.cps.size ds.length:=by simpa[rl]using ak
  have h1:i<ds.length:=by omega
  obtain⟨v,e,_⟩:=q.get (acT h1);exact⟨by omega,xs,v,b_.mono s h,e⟩
 iU:=fun i H v H' s ak y=>by
  obtain⟨p,c,sR,ax,a5,rfl,rfl,y⟩:=y;have ex:=y xs (b_.mono s h);obtain⟨d,e,a⟩:=q.oL ex;refine⟨.tup [jn c,d],?_,.inr ⟨p,_,_,a5,rfl,rfl,rfl,.cons (by unfold jn;simp only[At]) (.cons a .nil)⟩⟩;unfold rl;rw[ac4];have qh:(x.cps.toList.zip ds)[i]?=some (c,d):=by rw[ae2];exact⟨by rw[aeS];exact ax,e⟩
  rw[qh];rfl
 stop:=fun H s=>⟨xs,b_.mono s h,by simp[rl,q.length]⟩
def uu(m:aW):aW:=fun ρ=>(m ρ).bind ED
theorem Q0(aY:F.K=X.K):m3 (jq F (uu ma)) (HH X.K (eo F ma)):=by
 rintro σ H Q ⟨G,ρ,r,h⟩;unfold uu at h;refine⟨G,ρ,r,?_⟩;cases aj:ma ρ with
 |bad=>rw[aj]at h;exact h.elim
 |exc c=>rw[aj]at h;exact h
 |ok ds=>
  rw[aj,R.bo]at h;intro vs H1 aM aq s1 al;unfold ED at h
  split at h
  ·rename_i x ys;obtain⟨v,w,rfl,bc,fM⟩:=al.two;simp only[At]at bc fM;subst bc;obtain⟨q,xs,rfl,aP,fz⟩:=fM;refine⟨x,q,rfl,⟨xs,by rw[←aY];exact b_.mono aq.az.sub aP⟩,?_⟩;rw[←aY];exact h _ H1 aM aq s1 (Rn aP fz)
  ·exact h.elim
structure GM(X:aS)(bU:adq)(set:D→ai→R ai):Prop where
 ex:∃g,iZ X bU g∧∀F:bg,F.K=X.K→mc F g set
 eF:∀d ρ c,set d ρ≠.exc c
 keeps:Keeps set
theorem fs(i:Nat){x:Str}(b7:X.N.Nodup)(ak:X.N[i]?=some x:=by rfl)(aA:Loc X.env.scope x:=by first|exact adN rfl|exact ads rfl)(hf:X.fn x=true∨X.env.scope.names.lookup x=some .local:=by first|exact .inl rfl|exact .inr rfl):GM X (.Name x pos) (bY i):=
 ⟨⟨g4 i,u7 b7 ak aA hf,fun _ _=>w2 i⟩,yy i,yx i⟩
structure vW(X:aS)(XC:List adq)(a8:List (D→ai→R ai)):Prop where
 ex:∃g,s7 X XC g∧∀F:bg,F.K=X.K→sV F g (hX a8)
 eF:∀f∈a8,∀d ρ c,f d ρ≠.exc c
 keeps:∀f∈a8,Keeps f
theorem qM:vW X [] []:=⟨⟨w0,Jt,fun _ _=>G7⟩,(fun _ h=>nomatch h),(fun _ h=>nomatch h)⟩
theorem iN{f:D→ai→R ai}{a8:List (D→ai→R ai)}(h:GM X e f)(t:vW X ah a8)(aD:(aex (e::ah) X.env).map (·.2)=agr e X.env::(aex ah X.env).map (·.2):=by rfl):vW X (e::ah) (f::a8):=by obtain⟨⟨g,h1,h2⟩,h3,h4⟩:=h;obtain⟨⟨nv,t1,d7⟩,t3,vr⟩:=t;exact⟨⟨tJ g nv,Ct h1 t1 aD,fun F ny=>A6 (h2 F ny) (d7 F ny)⟩,fun k aK=>by rcases List.mem_cons.mp aK with rfl|aK;exact h3;exact t3 k aK,fun k aK=>by rcases List.mem_cons.mp aK with rfl|aK;exact h4;exact vr k aK⟩
theorem qN{k:Nat}{a8:List (D→ai→R ai)}(ax:X.calm=true)(h:vW X ah a8)(aU:(aex ah X.env).length=a8.length:=by rfl)(iH:(aex ah X.env).findIdx? (·.1)=none:=by rfl):GM X (.Tuple ah k pos) (gk a8):=by obtain⟨⟨nv,t1,d7⟩,t3,vr⟩:=h;exact⟨⟨w1 X.K a8.length nv,Js ax t1 aU iH,fun F ny=>by rw[←ny];exact G8 rfl (d7 F ny)⟩,Kh t3,Kg vr⟩
abbrev zo(X:aS)(scope:aew)(N:List Str)(e:adq)(m:aN):Prop:=∀cl C s H aQ bD aR,iW (eI X scope N cl C s H aQ) (dc X.K bD aR) e m
abbrev l6(X:aS)(scope:aew)(N:List Str)(ifs:List adq)(m:cL):Prop:=∀cl C s H aQ bD aR,nf (eI X scope N cl C s H aQ) ifs (gE (dc X.K bD aR) m)
abbrev vP(X:aS)(scope:aew)(N:List Str)(bU:adq)(set:D→ai→R ai):Prop:=∃g,(∀cl C s H aQ,iZ (eI X scope N cl C s H aQ) bU g)∧(∀bD aR,mc (dc X.K bD aR) g set)
theorem Fs{scope:aew}{N:List Str}{g:ht}{set:D→ai→R ai}(h:∀cl C s H aQ,iZ (eI X scope N cl C s H aQ) bU g)(k:∀F:bg,F.K=X.K→mc F g set):vP X scope N bU set:=⟨g,h,fun bD aR=>k (dc X.K bD aR) rfl⟩
def eE:cL:=fun _=>.ok true
theorem jE{scope:aew}{N:List Str}:l6 X scope N [] eE:=fun cl C s H aQ bD aR pins s' σ H' Q I h=>by obtain⟨G,ρ,r,k⟩:=h;exact JG pins s' σ H' Q I (k H' G r (cG.refl _ _))
theorem MF{scope:aew}{N:List Str}{mt:cL}(h:∀cl C s H aQ bD aR,EU (eI X scope N cl C s H aQ) (dc X.K bD aR) c mt):l6 X scope N [c] mt:=fun cl C s H aQ bD aR=>Vr (h cl C s H aQ bD aR)
theorem Ni{scope:aew}{N:List Str}{ifs:List adq}{nl:Nat}{caps:List Nat}{mi:aW}{set:D→ai→R ai}{mt:cL}{me:aN}(aY:F.K=X.K)(ak:vX X F bU iter mi)(aI:vP X scope N bU set)(bJ:l6 X scope N ifs mt)(he:zo X scope N elt me)(aA:∀d ρ c,set d ρ≠.exc c)(aK:Keeps set){Q:TE→Prop}(k:∀g,(∀cl C s H aQ,iZ (eI X scope N cl C s H aQ) bU g)→(∀cl C s H aQ,nf (eI X scope N cl C s H aQ) ifs (sP X.K mt))→(∀cl C s H aQ,a4 (eI X scope N cl C s H aQ) elt (Ee X.K me))→dQ (jr F (fp nl caps mi set mt me)) (q4 (jq F mi) g (sP X.K mt) (Ee X.K me) nl caps)→Q (jr F (fp nl caps mi set mt me))):Q (jr F (fp nl caps mi set mt me)):=by
 obtain⟨g,g1,g2⟩:=aI;refine k g g1 (fun cl C s H aQ pins s' σ H' ig I h=>?_) (fun cl C s H aQ pins s' σ H' ig I h=>?_) ?_
 ·obtain⟨bD,aR,h⟩:=h;exact bJ cl C s H aQ bD aR pins s' σ H' ig I h
 ·obtain⟨bD,aR,h⟩:=h;exact he cl C s H aQ bD aR pins s' σ H' ig I h
 ·have z:=Qb (F:=F) (nl:=nl) (caps:=caps) (mi:=mi) (tst:=mt) (elt:=me) (g:=g) (set:=set) (fun bD aR=>by rw[aY];exact g2 bD aR) aA aK;rw[aY]at z;exact z
theorem T3{scope:aew}{N:List Str}{ifs:List adq}{nl:Nat}{caps:List Nat}{mi:aW}{set:D→ai→R ai}{mt:cL}{me:aN}(S:l_ X.env.scope X.N scope N nl caps)(ak:vX X F bU iter mi)(aI:vP X scope N bU set)(aA:∀d ρ c,set d ρ≠.exc c)(aK:Keeps set)(bJ:l6 X scope N ifs mt)(he:zo X scope N elt me)(ax:X.calm=true:=by rfl)(aY:F.K=X.K:=by rfl)(aD:∀x,adM iter X.env x=pure x:=by intro _;rfl):EJ X F (.ListComp elt [⟨bU,iter,ifs,0⟩] scope pos) (fp nl caps mi set mt me):=
 Ni (nl:=nl) (caps:=caps) (Q:=fun t=>a4 X (.ListComp elt [⟨bU,iter,ifs,0⟩] scope pos) t) aY ak aI bJ he aA aK fun g g1 t1 ae imp=>a4.imp (Jq S ax ak g1 t1 ae aD) imp
end
section
variable{X:aS}{F:bg}{e a b c:adq}{ah:List adq}{pos p:Pos}{m n:aN}{ma:aW}
def ni:List D→Option (List Bool)
 |[]=>some []
 |.aC b::r=>(ni r).map (b::·)
 |_::_=>none
theorem Ft{K:PySem.W.Frag}{G:ag}:∀{ds:List D}{xs:List V}{bs:List Bool},aT K G ds xs→ni ds=some bs→xs=bs.map V.aC
 |[],_,_,q,e=>by simp only[aT]at q;subst q;cases e;rfl
 |d::ds,_,bs,q,e=>by
  simp only[aT]at q;obtain⟨v,r,rfl,a,nh⟩:=q;cases d with
  |aC b=>
   simp only[At]at a;subst a;simp only[ni]at e;cases ae:ni ds with
   |none=>rw[ae]at e;cases e
   |some cs=>rw[ae]at e;have bx:b::cs=bs:=ac0 e;subst bx;rw[Ft nh ae];rfl
  |_=>cases e
theorem Lc:∀{bs:List Bool}{us:List acV},Vals (bs.map V.aC) us→us=bs.map af_
 |[],_,r=>by cases r;rfl
 |b::bs,_,r=>by
  cases r with
  |cons aq bp=>cases aq;rw[Lc bp];rfl
theorem MX(ax:X.calm=true)(xb:X.A.handled=none):hG X (.builtin "all") (fun xs H Q=>∃(p:ac1)(bs:List Bool),xs=[.ref p]∧bQ X.K H p (bs.map V.aC)∧Q (.aC (bs.all id)) H):=by
 intro pins s σ H xs us Q I r h;obtain⟨p,bs,rfl,aP,q⟩:=h;obtain⟨u,rfl,dV⟩:=vals1 r;cases dV;obtain⟨its,b4,pl,bj⟩:=I.list aP;have fo:=Lc b4;refine call_all_walk (afk pl.isList ?_);have Bs:p≠s.heap.objs.size:=by obtain⟨o,aH,_⟩:=pl.isList;exact adn (acZ aH)
 refine⟨s.heap.objs.size,_,_,_,_,_,fun i=>(bs[i]?).getD true,rfl,Walks.list (prog:=X.prog) (w:=X.w) (A:=X.A.in1) xb s.heap.objs.size p Bs its.toArray,⟨⟨_,ac2 _ rfl,rfl,rfl⟩,pl.isList.push _⟩,?_,fun h' c4 cA=>?_⟩
 ·intro i v s' ig zr hP Ba;rw[fo]at hP;have hP:(bs.map af_)[i]?=some v:=by simpa using hP
  rw[ac4]at hP;cases bx:bs[i]? with
  |none=>rw[bx]at hP;cases hP
  |some b=>rw[bx]at hP;have ev:af_ b=v:=ac0 hP;subst ev;dsimp only at Ba;rw[bx]at Ba;exact adK Ba
 ·have Bd:(adG its.toArray.size).all (fun i=>(bs[i]?).getD true)=bs.all id:=by
    have av:its.toArray.size=bs.length:=by rw[fo];simp
    rw[av,aem,aeH,aeH];constructor
    ·intro bw x aA;obtain⟨i,ak,rfl⟩:=List.mem_iff_getElem.mp aA;have:=bw i (List.mem_range.mpr ak);rw[acT ak]at this;exact this
    ·intro bw i ak;have ak:=List.mem_range.mp ak;rw[acT ak];exact bw _ (aeK ak)
  rw[Bd];exact⟨.aC _,H,I.kept (t':=c4) fun b o au=>cA b o (by
   intro z;have z:b=s.heap.objs.size:=by simpa using z
   exact absurd (acZ au) (by rw[z];exact adU _)) (acS _ au),rfl,q⟩
def dz:List D→R D
 |[.lst ds]=>match ni ds with|some bs=>.ok (.aC (bs.all id))|none=>.bad
 |_=>.bad
theorem T8:l8 F (fun xs H Q=>∃(p:ac1)(bs:List Bool),xs=[.ref p]∧bQ X.K H p (bs.map V.aC)∧Q (.aC (bs.all id)) H) dz:=by
 intro σ ρ G H xs ds Q r al k;unfold dz at k
 split at k
 ·rename_i ds
  split at k
  ·rename_i bs bx;obtain⟨v,rfl,bc⟩:=al.one;simp only[At]at bc;obtain⟨q,xs,rfl,aP,fz⟩:=bc;have:=Ft fz bx;subst this;exact⟨q,bs,rfl,bQ.of (r.az.sub _ _ aP),k _ H G r (cG.refl _ _) (by simp only[At])⟩
  ·exact k.elim
 ·exact k.elim
end
section
variable{X:aS}{F:bg}{e a b c:adq}{ah:List adq}{pos p:Pos}{m n:aN}{ma:aW}
def ownAt(i:Nat)(ρ:ai):R (List D):=match ρ[i]? with
 |some (.ob (.lst ds))=>.ok ds
 |_=>.bad
noncomputable def kM(i:Nat)(m:aN):bf:=fun ρ=>(ownAt i ρ).bind fun ds=>(m ρ).bind fun d=>if ds.length<1000000 then .ok (.bL (ρ.set i (.br (ds++[d]))))else .bad
end
abbrev lW(K:PySem.W.Frag)(n:Nat)(mf:List D→R bT):ih:=mO K n (fun _ _ _=>False) mf
structure ei(P:ac_)(w:adB)(K:PySem.W.Frag)(mg:Str→Option acV)(base:adT)(x:Str)(n k:Nat)(mf:List D→R bT):Prop where
 ex:∃(f:ac1)(fd:ad1)(aO:List Str),aO.length=n∧gR P w K mg base fg k f fd aO (lW K n mf)∧mg x=some (.ref f)∧PySem.W.keepIn K (.ref f)=true∧Binds K fd aO []
section
variable{X:aS}{F:bg}{e:adq}{ah:List adq}{pos p:Pos}{ma:aW}{x:Str}{n k:Nat}{mf:List D→R bT}
end
structure dE(K:PySem.W.Frag)(mg:Str→Option acV)(x:Str)(st:ad4)(aO:List Str):Prop where
 ex:∃(f:ac1)(fd:ad1),lb K x x st f fd∧mg x=some (.ref f)∧Binds K fd aO []
theorem Nz{P:ac_}{w:adB}{K:PySem.W.Frag}{mg:Str→Option acV}{base:adT}{x:Str}{st:ad4}{N aO:List Str}{k:Nat}{m:bf}(d:dE K mg x st aO)(S:c2 N aO (bW st))(h:∀(f:ac1)(bV:acV)(A:adp)(outer:List Env)(s:acW)(H:ag)(E:cT),dx k (A.deeper (ady x (bW st) s.heap.objs.size f bV))→∀bD aR,EH (er fg P w K mg base N x (bW st) f bV A outer s H E).gh (dc K bD aR) (fl st) m) :
  ei P w K mg base x aO.length (k+1) (dA N.length m):=by
 obtain⟨f,fd,fn,hm,J⟩:=d.ex;refine⟨f,fd,aO,rfl,fn.ok S yz fun bV A outer s H vs Q E ay aD=>?_,hm,fn.az,J⟩;obtain⟨G,bJ⟩:=wC aD;exact⟨_,h f bV A outer s H E ay G H,bJ⟩
theorem OB{K:PySem.W.Frag}{h:adT}{mg:Str→Option acV}{x:Str}{st:ad4}{aO:List Str}{f:ac1}{ft:acV}{dX an:Option ac1}{lQ:Array (Option acV)}{de doc pm bV c7:acV}(X:K.In h)(G:h.Ns ada mg)(a:PySem.W.nsIn K ada x=some (some (.ref f)))(l:K.lookup f=some ⟨ft,dX,.func (PySem.W.fnOf x x (j4 st) (fl st) (bW st) .none de doc pm an bV c7),lQ⟩)(c:PySem.W.codeIn K bV x=true)(k:PySem.W.keepIn K (.ref f)=true)(b:∀(de doc pm:acV)(an:Option ac1)(bV c7:acV)(us:List acV),us.length=aO.length→ahU (PySem.W.fnOf x x (j4 st) (fl st) (bW st) .none de doc pm an bV c7) ⟨us,[]⟩=pure (aO.zip us)):dE K mg x st aO:=
 ⟨f,_,qk (st:=st) l c k,PySem.W.mg_of X G a,(qk (st:=st) l c k).binds b⟩
theorem SE{K:PySem.W.Frag}{mf:List D→R bT}{H:ag}{a:ac1}{ns:List Int}(lC:bQ K H a (ns.map V.int))(h:mf [.cu (ns.map .int)]=.ok (.v (.aC true)))(E:cT):lW K 1 mf [.ref a] H (fun v _=>v=.aC true) E:=by
 refine⟨H,[.cu (ns.map .int)],Sub.refl _,.cons ?_ .nil,rfl,?_⟩
 ·simp only[At];refine⟨a,_,rfl,lC,?_⟩;induction ns with
  |nil=>exact .nil
  |cons n r cq=>exact .cons (by simp only[At]) (HS r)
 ·rw[h];intro v G' H' _ bc;simp only[At]at bc;exact bc
where
 HS {K:PySem.W.Frag} {H:ag}:∀r:List Int,aT K H (r.map .int) (r.map V.int)
  |[]=>.nil
  |n::r=>.cons (by simp only[At]) (HS r)
section
variable{X:aS}{F:bg}{e a b c bU iter elt:adq}{ah:List adq}{pos p:Pos}{m n:aN}{ma:aW}{scope:aew}{N:List Str}
structure pN(X:aS)(scope:aew)(N:List Str)(bU:adq)(set:D→ai→R ai):Prop where
 g:vP X scope N bU set
 bL:∀d ρ c,set d ρ≠.exc c
 az:Keeps set
theorem lx(i:Nat){x:Str}(b7:N.Nodup:=by decide+kernel)(ak:N[i]?=some x:=by rfl)(av:(afD scope X.env).names.lookup x=some .local:=by rfl):pN X scope N (.Name x pos) (bY i):=
 ⟨Fs (g:=g4 i) (fun cl C s H aQ=>u7 (X:=eI X scope N cl C s H aQ) b7 ak (.inl av) (.inr av)) fun F _=>w2 i,yy i,yx i⟩
theorem wA(i j:Nat){x y:Str}{bC py:Pos}{k:Nat}(ax:X.calm=true:=by rfl)(b7:N.Nodup:=by decide+kernel)(ak:N[i]?=some x:=by rfl)(cU:N[j]?=some y:=by rfl)(av:(afD scope X.env).names.lookup x=some .local:=by rfl)(hm:(afD scope X.env).names.lookup y=some .local:=by rfl) :
  pN X scope N (.Tuple [.Name x bC,.Name y py] k pos) (gk [bY i,bY j]):=by
 refine⟨Fs (g:=w1 X.K 2 (tJ (g4 i) (tJ (g4 j) w0))) (fun cl C s H aQ=>?_) (fun F ny=>?_),Kh ?_,Kg ?_⟩
 ·exact Js (X:=eI X scope N cl C s H aQ) ax (Ct (u7 (X:=eI X scope N cl C s H aQ) b7 ak (.inl av) (.inr av)) (Ct (u7 (X:=eI X scope N cl C s H aQ) b7 cU (.inl hm) (.inr hm)) Jt rfl) rfl) rfl rfl
 ·rw[←ny];exact G8 rfl (A6 (w2 i) (A6 (w2 j) G7))
 ·intro f hf;rcases List.mem_cons.mp hf with rfl|hf
  ·exact yy i
  ·rw[List.mem_singleton.mp hf];exact yy j
 ·intro f hf;rcases List.mem_cons.mp hf with rfl|hf
  ·exact yx i
  ·rw[List.mem_singleton.mp hf];exact yx j
theorem T4(nl:Nat)(caps:List Nat){ifs:List adq}{mi:aW}{set:D→ai→R ai}{mt:cL}{me:aN}(S:oE X.env.scope X.N scope N nl caps=true)(ak:vX X F bU iter mi)(aI:pN X scope N bU set)(bJ:l6 X scope N ifs mt)(he:zo X scope N elt me)(ax:X.calm=true:=by rfl)(aY:F.K=X.K:=by rfl)(aD:∀x,adM iter X.env x=pure x:=by intro _;rfl):EJ X F (.ListComp elt [⟨bU,iter,ifs,0⟩] scope pos) (fp nl caps mi set mt me):=
 T3 (.of S) ak aI.g aI.bL aI.az bJ he ax aY aD
noncomputable def uA(i:Nat)(a:aW):bf:=fun ρ=>((gB i a) ρ).bind fun f=>match f with
 |.bL ρ'=>.ok (.bL (kE i ρ'))
 |f=>.ok f
def SY:aN:=fun _=>.ok (.eO [] [])
end
theorem K4{K:PySem.W.Frag}{c:ac1}{dd:Option ac1}{its:Array acV}{n:Nat}{cB:Array (Option acV)}{xs:List V}{ds:List D}(l:K.lookup c=some ⟨.type "tuple",dd,.seq its n,cB⟩)(bj:its.size≤ade)(v:Vals xs its.toList)(a:∀G,aT K G ds xs) :
  ∀G,At K G (.dI ds) (.ref c):=fun G=>by
 simp only[At];exact⟨c,xs,rfl,.inr ⟨_,its,n,l,rfl,rfl,bj,v⟩,a G⟩
theorem pv(i:Int)(t:Tok):RelV (.int i) (.int i t):=⟨t,rfl⟩
theorem CJ(x:Str)(t:Tok):RelV (.str x) (.str x t):=⟨t,rfl⟩
theorem ow{K:PySem.W.Frag}{G:ag}(i:Int):At K G (.int i) (.int i):=by simp only[At]
theorem zK{K:PySem.W.Frag}{G:ag}(i:Str):At K G (.str i) (.str i):=by simp only[At]
structure bh(X:aS)(F:bg)(e:adq)(m:aN):Prop where
 o:a4 X e (cZ F m)
structure jA(X:aS)(F:bg)(e:adq)(m:aW):Prop where
 o:a4 X e (jr F m)
structure fj(X:aS)(F:bg)(e:adq)(m:cL):Prop where
 o:e_ X e (gE F m)
structure p3(X:aS)(F:bg)(e:adq)(m:cL):Prop where
 o:i0 X e (gE F m)
structure eZ(X:aS)(F:bg)(ah:List adq)(m:aW):Prop where
 o:fh X ah (eo F m)
structure dU(X:aS)(F:bg)(st:ad4)(m:bf):Prop where
 o:cS X st (eG F m)
structure gW(X:aS)(F:bg)(st:List ad4)(m:bf):Prop where
 o:fi X st (eG F m)
structure kz(X:aS)(F:bg)(bU e:adq)(m:aW):Prop where
 o:f6 X bU e (jq F m)
structure zI(X:aS)(F:bg)(e:Option adq)(m:oq):Prop where
 o:v8 X e (DR F m)
section
variable{X:aS}{F:bg}{e a b c bU iter elt:adq}{ah:List adq}{pos p:Pos}{m n:aN}{ma:aW}{st:ad4}{oa:List ad4}
theorem aw(i:Nat){x:Str}(b7:X.N[i]?=some x:=by rfl)(bP:fL X.env.scope x:=by first|exact adN rfl|exact ads (adN rfl)|exact ads (ads rfl))(hd:(x==("__debug__" :Str))=false:=by decide)(dy:(x==("__classdict__" :Str))=false:=by decide):bh X F (.Name x pos) (af i):=⟨a4.imp (fY b7 bP hd dy) (QY i)⟩
theorem bF{i:Int}{j}:bh X F (.Constant (.int i) j pos) (aG (.int i)):=⟨a4.imp yh (t4 fun _=>by simp only[At])⟩
theorem iz{i:Bool}{j}:bh X F (.Constant (.bool i) j pos) (aG (.aC i)):=⟨a4.imp UG (t4 fun _=>by simp only[At])⟩
theorem jW{i:Str}{j}:bh X F (.Constant (.str i) j pos) (aG (.str i)):=⟨a4.imp Cr (t4 fun _=>by simp only[At])⟩
theorem jv{j}:bh X F (.Constant .none j pos) (aG .non):=⟨a4.imp UX (t4 fun _=>by simp only[At])⟩
theorem aZ:eZ X F [] aF:=⟨fh.imp kl HQ⟩
theorem aB{m:aN}{r:aW}(h:bh X F e m)(t:eZ X F ah r)(aD:notStar e=true:=by rfl):eZ X F (e::ah) (ar m r):=⟨have h:=h.1;have t:=t.1;fh.imp (hp h t (n9 e ah X.env aD)) Qe⟩
theorem gq{k}{m:aW}(h:eZ X F ah m):bh X F (.Tuple ah k pos) (dK m):=⟨have h:=h.1;a4.imp (Cs h) QU⟩
theorem hZ{m:aW}(h:eZ X F ah m):jA X F (.List ah pos) (fX m):=⟨have h:=h.1;a4.imp (US h) Qw⟩
theorem gO{m:aW}(h:jA X F e m):bh X F e (fq m):=⟨have h:=h.1;a4.imp h Qo⟩
theorem vG{m:aN}(h:bh X F e m):bh X F e (mE m):=⟨have h:=h.1;a4.imp h P1⟩
theorem pL{m:cL}(h:fj X F e m):fj X F e (gM m):=⟨have h:=h.1;e_.imp h P6⟩
theorem fu{m:aN}(h:bh X F e m)(he:∀whole,isTrue e X.env whole=(do let v ←whole;agN e.pos;afB [v] (truthy v)):=by intro _;rfl):fj X F e (bS m):=⟨have h:=h.1;e_.imp (Vq h he) xm⟩
theorem Ez{m:cL}(h:fj X F a m):p3 X F (.BoolOp .And [a] pos) m:=⟨have h:=h.1;Vv h⟩
theorem oj{m:cL}(h:fj X F a m):p3 X F (.BoolOp .Or [a] pos) m:=⟨have h:=h.1;Vx h⟩
theorem Ey{m n:cL}(h:fj X F a m)(k:p3 X F (.BoolOp .And (b::ah) pos) n):p3 X F (.BoolOp .And (a::b::ah) pos) (nO m n):=⟨have h:=h.1;have k:=k.1;i0.imp (Vu h k) PZ⟩
theorem oi{m n:cL}(h:fj X F a m)(k:p3 X F (.BoolOp .Or (b::ah) pos) n):p3 X F (.BoolOp .Or (a::b::ah) pos) (g5 m n):=⟨have h:=h.1;have k:=k.1;i0.imp (Vw h k) QE⟩
theorem la{m:cL}(h:p3 X F e m):fj X F e m:=⟨have h:=h.1;i0.pt h⟩
theorem gG{m:cL}(h:fj X F a m):fj X F (.UnaryOp .Not a pos) (eu m):=⟨have h:=h.1;e_.imp (Vp h) QB⟩
theorem l0{op}{m:aN}(h:bh X F a m):bh X F (.BoolOp op [a] pos) m:=⟨have h:=h.1;Jr h⟩
theorem mT{m n:aN}(h:bh X F a m)(k:bh X F (.BoolOp .And (b::ah) pos) n):bh X F (.BoolOp .And (a::b::ah) pos) (jL m n):=⟨have h:=h.1;have k:=k.1;a4.imp (Jn h k) P0⟩
theorem LA{m n:aN}(h:bh X F a m)(k:bh X F (.BoolOp .Or (b::ah) pos) n):bh X F (.BoolOp .Or (a::b::ah) pos) (qD m n):=⟨have h:=h.1;have k:=k.1;a4.imp (UZ h k) QF⟩
theorem Lz{m:aN}(h:bh X F a m):bh X F (.UnaryOp .Not a pos) (sf m):=⟨have h:=h.1;a4.imp (UY h) QC⟩
theorem Lw{k:cL}{m n:aN}(h:fj X F c k)(U:bh X F a m)(J:bh X F b n):bh X F (.IfExp c a b pos) (sb k m n):=⟨have h:=h.1;have U:=U.1;have J:=J.1;a4.imp (UQ h U J) Qq⟩
theorem ey:gW X F [] du:=⟨fi.imp Cw QA⟩
theorem b5{m n:bf}(h:dU X F st m)(k:gW X F oa n):gW X F (st::oa) (bK m n):=⟨have h:=h.1;have k:=k.1;fi.imp (qW h k) QO⟩
theorem b0{m:bf}(h:dU X F st m):gW X F [st] m:=⟨have h:=h.1;vc h⟩
theorem Y_{m:aN}(h:bh X F e m)(aD:lP e=true:=by rfl):dU X F (.Expr e pos) (um m):=⟨have h:=h.1;cS.imp (qV h (iR _ _ _ _ aD)) Qi⟩
theorem dD{m:aN}(h:bh X F e m):dU X F (.Return (some e) pos) (c9 m):=⟨have h:=h.1;cS.imp (lT h) QJ⟩
theorem Eu{m:aW}(h:jA X F e m):dU X F (.Return (some e) pos) (kO m):=⟨have h:=h.1;cS.imp (lT h) QK⟩
theorem LN(i:Nat){x:Str}{p:Pos}(b7:X.N[i]?=some x:=by rfl)(bP:fL X.env.scope x:=by first|exact adN rfl|exact ads (adN rfl)|exact ads (ads rfl))(hd:(x==("__debug__" :Str))=false:=by decide)(dy:(x==("__classdict__" :Str))=false:=by decide):dU X F (.Return (some (.Name x p)) pos) (kO (qH i)):=⟨cS.imp (lT (fY b7 bP hd dy)) (QM i)⟩
theorem ep{k:cL}{m n:bf}{xs ys:List ad4}(h:fj X F c k)(U:gW X F xs m)(J:gW X F ys n):dU X F (.If c xs ys pos) (dn k m n):=⟨have h:=h.1;have U:=U.1;have J:=J.1;cS.imp (Cv h U J) Qr⟩
theorem Zb{m:bf}(i:Nat)(h:dU X F st m):dU X F st (xR i m):=⟨have h:=h.1;cS.imp h Qn⟩
theorem f3(i:Nat){x:Str}{p:Pos}{m:aN}(b7:X.N.Nodup)(he:bh X F e m)(ak:X.N[i]?=some x:=by rfl)(aA:Loc X.env.scope x:=by first|exact adN rfl|exact ads rfl)(aD:lP e=true:=by rfl)(hf:X.fn x=true∨X.env.scope.names.lookup x=some .local:=by first|exact .inl rfl|exact .inr rfl):dU X F (.Assign [.Name x p] e pos) (eQ i m):=⟨have he:=he.1;cS.imp (pk b7 ak aA he (iR _ _ _ _ aD) hf) QP⟩
theorem l2(i:Nat){x:Str}{p:Pos}{m:aW}(b7:X.N.Nodup)(he:jA X F e m)(ak:X.N[i]?=some x:=by rfl)(aA:Loc X.env.scope x:=by first|exact adN rfl|exact ads rfl)(aD:lP e=true:=by rfl)(hf:X.fn x=true∨X.env.scope.names.lookup x=some .local:=by first|exact .inl rfl|exact .inr rfl):dU X F (.Assign [.Name x p] e pos) (gB i m):=⟨have he:=he.1;cS.imp (pk b7 ak aA he (iR _ _ _ _ aD) hf) HR⟩
theorem vH(U:bh X F a m)(J:bh X F b n):bh X F (.BinOp a .Sub b pos) (aE q2 m n):=⟨have U:=U.1;have J:=J.1;qd Ur (u3 fun _ _ _=>by simp only[At]) U J⟩
theorem sQ(U:bh X F a m)(J:bh X F b n):bh X F (.BinOp a .Mult b pos) (aE nX m n):=⟨have U:=U.1;have J:=J.1;qd Uo (ye fun _ _ _=>by simp only[At]) U J⟩
theorem kq(U:bh X F a m)(J:bh X F b n):bh X F (.BinOp a .FloorDiv b pos) (aE i5 m n):=⟨have U:=U.1;have J:=J.1;qd I9 (ye fun _ _ _=>by simp only[At]) U J⟩
theorem hE(U:bh X F a m)(J:bh X F b n):bh X F (.BinOp a .Mod b pos) (aE g6 m n):=⟨have U:=U.1;have J:=J.1;qd Jc (ye fun _ _ _=>by simp only[At]) U J⟩
theorem YM(U:bh X F a m)(J:bh X F b n):bh X F (.BinOp a .Pow b pos) (aE vb m n):=⟨have U:=U.1;have J:=J.1;qd Uq (ye fun _ _ _=>by simp only[At]) U J⟩
theorem LW(U:bh X F a m)(J:bh X F b n):fj X F (.Compare a [.Lt] [b] pos) (bS (aE r7 m n)):=⟨have U:=U.1;have J:=J.1;q6 Jb (u3 fun _ _ _=>by simp only[At]) U J (ph _)⟩
theorem LU(U:bh X F a m)(J:bh X F b n):fj X F (.Compare a [.Gt] [b] pos) (bS (aE mz m n)):=⟨have U:=U.1;have J:=J.1;q6 Un (u3 fun _ _ _=>by simp only[At]) U J (ph _)⟩
theorem Ej(U:bh X F a m):bh X F (.UnaryOp .USub a pos) (df mK m):=⟨have U:=U.1;N7 XX (fun σ ρ G H x bA Q r bZ k=>by
 unfold mK at k
 split at k
 ·rename_i i;simp only[At]at bZ;exact⟨i,bZ,k _ H G r (cG.refl _ _) (by simp only[At])⟩
 ·exact k.elim) U⟩
theorem iy(U:bh X F a m)(J:bh X F b n):bh X F (.BinOp a .Add b pos) (aE fy m n):=⟨have U:=U.1;have J:=J.1;qd (I5.or (I6.or I7)) I1 U J⟩
theorem vL(aV:X.A.units+64<aeB)(U:bh X F a m)(J:bh X F b n)(aY:F.K=X.K:=by rfl):fj X F (.Compare a [.Eq] [b] pos) (bS (aE (dM true) m n)):=⟨have U:=U.1;have J:=J.1;q6 (I8 aY aV) (yd true) U J (ph _)⟩
theorem vN(aV:X.A.units+64<aeB)(U:bh X F a m)(J:bh X F b n)(aY:F.K=X.K:=by rfl):fj X F (.Compare a [.NotEq] [b] pos) (bS (aE (dM false) m n)):=⟨have U:=U.1;have J:=J.1;q6 (Jd aY aV) (yd false) U J (ph _)⟩
theorem pJ(aV:X.A.units+64<aeB)(U:bh X F a m)(J:bh X F b n)(aY:F.K=X.K:=by rfl):bh X F (.Compare a [.Eq] [b] pos) (aE (dM true) m n):=⟨have U:=U.1;have J:=J.1;wN (I8 aY aV) (yd true) U J (ph _)⟩
theorem YJ(aV:X.A.units+64<aeB)(U:bh X F a m)(J:bh X F b n)(aY:F.K=X.K:=by rfl):bh X F (.Compare a [.NotEq] [b] pos) (aE (dM false) m n):=⟨have U:=U.1;have J:=J.1;wN (Jd aY aV) (yd false) U J (ph _)⟩
theorem LV(aV:X.A.units+64<aeB)(U:bh X F a m)(J:bh X F b n)(aY:F.K=X.K:=by rfl)(hm:adI .In b=false:=by with_unfolding_all rfl):fj X F (.Compare a [.In] [b] pos) (bS (aE (inD true) m n)):=⟨have U:=U.1;have J:=J.1;q6 (I_ aY aV) (Cg true) U J hm⟩
theorem Zk(aV:X.A.units+64<aeB)(U:bh X F a m)(J:bh X F b n)(aY:F.K=X.K:=by rfl)(hm:adI .NotIn b=false:=by with_unfolding_all rfl):fj X F (.Compare a [.NotIn] [b] pos) (bS (aE (inD false) m n)):=⟨have U:=U.1;have J:=J.1;q6 (Up aY aV) (Cg false) U J hm⟩
theorem Lx(aV:X.A.units+64<aeB)(U:bh X F a m)(J:bh X F b n)(aY:F.K=X.K:=by rfl)(hm:adI .In b=false:=by with_unfolding_all rfl):bh X F (.Compare a [.In] [b] pos) (aE (inD true) m n):=⟨have U:=U.1;have J:=J.1;wN (I_ aY aV) (Cg true) U J hm⟩
theorem vM(U:bh X F a m)(J:bh X F b n):fj X F (.Compare a [.Is] [b] pos) (bS (aE (jK true) m n)):=⟨have U:=U.1;have J:=J.1;q6 Ja (fun σ ρ G H x y bA fm Q r bZ cV k=>by
 unfold jK at k
 split at k
 ·simp only[At]at cV;rw[HV bZ]at k;exact⟨cV,k _ H G r (cG.refl _ _) (by simp only[At];rfl)⟩
 ·exact k.elim) U J (ph _)⟩
theorem YF(U:bh X F a m)(J:bh X F b n):bh X F (.Compare a [.Is] [b] pos) (aE (jK true) m n):=⟨have U:=U.1;have J:=J.1;wN Ja (fun σ ρ G H x y bA fm Q r bZ cV k=>by
 unfold jK at k
 split at k
 ·simp only[At]at cV;rw[HV bZ]at k;exact⟨cV,k _ H G r (cG.refl _ _) (by simp only[At];rfl)⟩
 ·exact k.elim) U J (ph _)⟩
theorem YA{op jk:aic}{r a9:eN}{f g:D→D→R D}{l:aN}(aH:d2 X (adV op) r)(fW:d2 X (adV jk) a9)(hf:gV F r f)(aI:gV F a9 g)(U:bh X F a m)(J:bh X F b n)(ax:bh X F c l)(hm:lastMarks [op,jk] [b,c]=false:=by with_unfolding_all rfl):bh X F (.Compare a [op,jk] [b,c] pos) (ke f g m n l):=⟨have U:=U.1;have J:=J.1;have ax:=ax.1;a4.imp (UJ aH fW U J ax hm) (HN hf aI)⟩
theorem LR{op jk:aic}{r a9:eN}{f g:D→D→R D}{l:aN}(aH:d2 X (adV op) r)(fW:d2 X (adV jk) a9)(hf:gV F r f)(aI:gV F a9 g)(U:bh X F a m)(J:bh X F b n)(ax:bh X F c l)(hm:lastMarks [op,jk] [b,c]=false:=by with_unfolding_all rfl):fj X F (.Compare a [op,jk] [b,c] pos) (bS (ke f g m n l)):=⟨have U:=U.1;have J:=J.1;have ax:=ax.1;e_.imp (Vn aH fW U J ax hm) fun σ H Q h=>by obtain⟨G,ρ,r,k⟩:=HI (F:=F) (m:=ke f g m n l) σ H Q h;exact HN hf aI σ H _ ⟨G,ρ,r,k⟩⟩
theorem gP(hm:X.mg "len"=none)(U:eZ X F [e] ma)(aY:F.K=X.K:=by rfl)(aI:dF X "len":=by rfl)(he:acX [e] X.env=(false,adW e X.env)::acX [] X.env:=by rfl)(di:(adF pos (acX [] X.env)).any (·.1)=false:=by rfl):bh X F (.Call (.Name "len" p) [e] [] pos) (cW dR ma):=⟨have U:=U.1;AK M0 (Ua aY) hm PySem.boot_len U aI (by decide) (by decide) he di⟩
theorem iA{fa:Str}{T:String}{cj:Pos}(tt:p2 X.K T)(hm:X.mg "isinstance"=none)(Pu:X.mg fa=none)(OW:ad6 fa=some (.type T))(U:bh X F a m)(aY:F.K=X.K:=by rfl)(aI:dF X "isinstance":=by rfl)(Pc:dF X fa:=by rfl)(Px:fa≠"__name__":=by decide)(O7:(fa==("__debug__" :Str))=false:=by decide)(et:acX [.Name fa cj] X.env=(false,adW (.Name fa cj) X.env)::acX [] X.env:=by rfl)(he:acX [a,.Name fa cj] X.env=(false,adW a X.env)::acX [.Name fa cj] X.env:=by rfl)(di:(adF pos (acX [.Name fa cj] X.env)).any (·.1)=false:=by rfl):bh X F (.Call (.Name "isinstance" p) [a,.Name fa cj] [] pos) (df (eB T) m):=⟨by
 have U:=U.1;have J:ad6 "isinstance"=some (.builtin "isinstance"):=by kernel_rfl
 refine a4.imp (Cq (MZ aY tt) aI hm J (hp U (hp (UH Pc Pu OW (v:=.ty T) rfl Px O7) kl et) he) (by decide) (by decide) he di) ?_;rintro σ H Q ⟨G,ρ,r,h⟩;unfold df at h;refine⟨G,ρ,r,?_⟩;cases aj:m ρ with
 |bad=>rw[aj]at h;exact h.elim
 |exc c=>rw[aj]at h;exact h
 |ok d=>
  rw[aj,R.bo]at h;intro x H1 aM aq s1 bZ;unfold eB at h;cases e:vz d with
  |none=>rw[e]at h;exact h.elim
  |some Md=>rw[e]at h;exact⟨aM,d,x,Md,aq.az.sub,rfl,bZ,e,h _ H1 aM aq s1 (by simp only[At])⟩⟩
theorem da(U:bh X F a m)(J:bh X F b n)(aD:pY b)(aY:F.K=X.K:=by rfl):bh X F (.Subscript a b pos) (aE bk m n):=⟨have U:=U.1;have J:=J.1;a4.imp (qU qx U J aD) (xn (I2 aY))⟩
theorem LI(h:bh X F e m):zI X F (some e) (ux m):=⟨have h:=h.1;fun pins s σ H Q I hw=>by
 obtain⟨G,ρ,r,k⟩:=hw;refine Vf h pins s σ H Q I ⟨G,ρ,r,?_⟩;unfold ux at k;cases aj:m ρ with
 |bad=>rw[aj]at k;exact k.elim
 |exc c=>rw[aj]at k;exact k
 |ok d=>
  rw[aj,R.bo]at k;intro x H1 aM aq s1 bZ;cases d with
  |int i=>simp only[At]at bZ;exact⟨i,bZ,k H1 aM aq s1⟩
  |_=>exact k.elim⟩
theorem YN{lo ak:Option adq}{cj:Pos}{IM IK:oq}(U:bh X F a m)(av:zI X F lo IM)(bw:zI X F ak IK)(aY:F.K=X.K:=by rfl):bh X F (.Subscript a (.Slice lo ak none cj) pos) (uB vl m IM IK):=⟨have U:=U.1;have av:=av.1;have bw:=bw.1;a4.imp (U0 (WU.or WV) U av bw) (QR aY)⟩
theorem YO(hm:X.mg "str"=none)(U:eZ X F [e] ma)(aI:dF X "str":=by rfl)(he:acX [e] X.env=(false,adW e X.env)::acX [] X.env:=by rfl)(di:(adF pos (acX [] X.env)).any (·.1)=false:=by rfl):bh X F (.Call (.Name "str" p) [e] [] pos) (cW sL ma):=⟨have U:=U.1;wM M4 Ud hm (by kernel_rfl) U aI (by decide) (by decide) he di⟩
theorem YP(hm:X.mg "int"=none)(U:eZ X F [e] ma)(aI:dF X "int":=by rfl)(he:acX [e] X.env=(false,adW e X.env)::acX [] X.env:=by rfl)(di:(adF pos (acX [] X.env)).any (·.1)=false:=by rfl):bh X F (.Call (.Name "int" p) [e] [] pos) (cW od ma):=⟨have U:=U.1;wM Fz Ue hm (by kernel_rfl) U aI (by decide) (by decide) he di⟩
theorem kr(h:bh X F e m)(aY:F.K=X.K:=by rfl):kz X F bU e (hB m):=⟨have h:=h.1;f6.imp (U5 h) (by rw[←aY];exact Qu)⟩
theorem Zm(h:bh X F e m)(aY:F.K=X.K:=by rfl):kz X F bU e (sa m):=⟨have h:=h.1;f6.imp (U7 h) (by rw[←aY];exact QW)⟩
theorem Zl(h:bh X F e m):kz X F bU e (ur m):=⟨have h:=h.1;f6.imp (U6 h) QS⟩
theorem l3(hm:X.mg "range"=none)(U:eZ X F [a] ma)(aI:dF X "range":=by rfl)(aD:acX [a] X.env=[(false,adW a X.env)]:=by rfl):kz X F bU (.Call (.Name "range" p) [a] [] pos) (hV ma):=⟨have U:=U.1;f6.imp (Jv aI hm U aD) QH⟩
theorem y6{elts:List adq}{k:Nat}{vv:Pos}(hm:X.mg "enumerate"=none)(U:eZ X F [a] ma)(aY:F.K=X.K:=by rfl)(aI:dF X "enumerate":=by rfl)(aD:acX [a] X.env=[(false,adW a X.env)]:=by rfl):kz X F (.Tuple elts k vv) (.Call (.Name "enumerate" p) [a] [] pos) (o4 ma):=⟨have U:=U.1;f6.imp (U4 aI hm U aD) (Qk aY)⟩
theorem Zn{elts:List adq}{k:Nat}{vv:Pos}(hm:X.mg "zip"=none)(U:eZ X F [a,b] ma)(aY:F.K=X.K:=by rfl)(aI:dF X "zip":=by rfl)(aD:acX [a,b] X.env=[(false,adW a X.env),(false,adW b X.env)]:=by rfl)(et:acX [b] X.env=[(false,adW b X.env)]:=by rfl):kz X F (.Tuple elts k vv) (.Call (.Name "zip" p) [a,b] [] pos) (uu ma):=⟨have U:=U.1;f6.imp (U9 aI hm U aD et) (Q0 aY)⟩
theorem jX{body:List ad4}{mi:aW}{set:D→ai→R ai}{mb:bf}(a5:ahS (adj X.prog X.w) X.A X.env X.xe)(ak:kz X F bU iter mi)(aI:GM X bU set)(J:gW X F body mb)(ax:X.calm=true:=by rfl)(aY:F.K=X.K:=by rfl)(aD:∀x,adM iter X.env x=pure x:=by intro _;rfl):dU X F (.For bU iter body [] pos) (e6 mi set mb):=⟨by
 have ak:=ak.1;have J:=J.1;obtain⟨⟨g,h1,h2⟩,h3,_⟩:=aI;exact cS.imp (JD a5 ax ak h1 J aD) (Ql (h2 F aY) h3)⟩
theorem Zh{st:ad4}{i:Nat}{a:aW}(h:dU X F st (gB i a)):dU X F st (uA i a):=⟨have h:=h.1;cS.imp h fun b2 σ H⟨G,ρ,r,k⟩=>by
 refine⟨G,ρ,r,?_⟩;unfold uA at k;cases e:gB i a ρ with
 |bad=>rw[e]at k;exact k.elim
 |exc c=>rw[e]at k;exact k
 |ok f=>
  rw[e,R.bo]at k;cases f with
  |bL ρ'=>intro σ' G' H' a9 s';obtain⟨ck,bp,s2⟩:=a9.kE i;exact k σ' ck H' bp (s'.trans s2)
  |c_ d=>exact k
  |hr d=>exact k
  |fE d=>exact k
  |rs d _=>exact k
  |fk d=>exact k
  |c7 d=>exact k⟩
theorem rd{k:Nat}(ay:dx k X.A)(hm:X.mg "all"=none)(U:eZ X F [e] ma)(ax:X.calm=true:=by rfl)(aI:dF X "all":=by rfl)(he:acX [e] X.env=(false,adW e X.env)::acX [] X.env:=by rfl)(di:(adF pos (acX [] X.env)).any (·.1)=false:=by rfl):bh X F (.Call (.Name "all" p) [e] [] pos) (cW dz ma):=⟨have U:=U.1;AK (MX ax ay.hd) T8 hm (by kernel_rfl) U aI (by decide) (by decide) he di⟩
theorem y4 (i:Nat) {x:Str} {bC:Pos} {apos:Pos} {b6:Pos} (he:bh X F e m) (b7:X.N[i]?=some x:=by rfl) (bP:fL X.env.scope x:=by first|exact adN rfl|exact ads (adN rfl)|exact ads (ads rfl)) (hd:(x==("__debug__" :Str))=false:=by decide) (dy:(x==("__classdict__" :Str))=false:=by decide) (gy:adJ (.Name x bC) "append" X.env (adW (.Name x bC) X.env)=adW (.Name x bC) X.env:=by rfl) (gz:(apos.endLine==b6.line)=true:=by rfl) (hy:((adF b6 (acX [e] X.env)).all (fun x=>!x.1)&&(aeq b6 (adS [] X.env)).all (fun x=>x.1.isSome)
   &&decide (([e]:List adq).length+([]:List aeh).length+(if([]:List aeh).isEmpty then 0 else 1)<30))=true:=by rfl) (aD:acX [e] X.env=(false,adW e X.env)::acX [] X.env:=by rfl) (hz:(adF b6 (acX [] X.env)).any (·.1)=false:=by rfl) (aY:F.K=X.K:=by rfl):dU X F (.Expr (.Call (.Attribute (.Name x bC) "append" apos) [e] [] b6) pos) (kM i m):=⟨by
 have he:=he.1;refine cS.imp (qV (n1 PySem.F.plainAttrs_list PySem.F.slot_list_append PySem.F.type_list_append uT (fY b7 bP hd dy) (hp he kl aD) gy hy gz aD hz) (iR _ _ _ _ rfl)) ?_;rintro b2 σ H ⟨G,ρ,r,h⟩;unfold kM ownAt at h;cases cb:ρ[i]? with
 |none=>rw[cb]at h;exact h.elim
 |some s=>
  rw[cb]at h;cases s with
  |un=>exact h.elim
  |ao _=>exact h.elim
  |cy _=>exact h.elim
  |dg _ _=>exact h.elim
  |ob ob=>
   cases ob with
   |bH _ _=>exact h.elim
   |ins _ _ _=>exact h.elim
   |lst ds=>
    obtain⟨q,xs,ae,h1,h2,h3,h4⟩:=r.own cb;have h:fP F G b2 ((m ρ).bind fun d=>if ds.length<1000000 then .ok (.bL (ρ.set i (.br (ds++[d]))))else .bad):=h;refine⟨.ref q,ae,.inl ⟨rfl,xs,bQ.of h1⟩,G,ρ,r,?_⟩;cases aj:m ρ with
    |bad=>rw[aj]at h;exact h.elim
    |exc c=>rw[aj]at h;exact h
    |ok d=>
     rw[aj,R.bo]at h;intro v H1 aM aq s1 bc;obtain⟨dS,dW,eJ,cO,cP,oM,gJ⟩:=aq.own cb;rw[ae]at eJ;cases eJ;by_cases av:ds.length<1000000
     ·rw[if_pos av]at h;refine⟨q,dW,v,rfl,rfl,cO,by rw[←gJ.length];exact aei av (by decide),?_⟩;exact h σ aM _ (aq.mut cb ae (gJ.snoc bc)) s1.g
     ·rw[if_neg av]at h;exact h.elim⟩
theorem dm{x:Str}{n k:Nat}{mf:List D→R bT}(c:ei X.prog X.w X.K X.mg X.base x n k mf)(ay:dx k X.A)(U:eZ X F (e::ah) ma)(hQ:F.EX=fun _ _=>False:=by rfl)(aY:F.K=X.K:=by rfl)(aI:dF X x:=by rfl)(e0:(x==("__debug__" :Str))=false:=by decide)(he:acX (e::ah) X.env=(false,adW e X.env)::acX ah X.env:=by rfl)(di:(adF pos (acX ah X.env)).any (·.1)=false:=by rfl):bh X F (.Call (.Name x p) (e::ah) [] pos) (cD n mf ma):=⟨by
 have U:=U.1;obtain⟨f,fd,aO,aU,fT,hm,aK,J⟩:=c.ex;refine a4.imp (n2 fT ay aI hm aK J .nil n0 U e0 he di) ?_;rw[←aY];exact HL (xe:=fun _ _ _=>False) (E:=vR) hQ⟩
theorem vK{x:Str}{n k:Nat}{mf:List D→R bT}(c:ei X.prog X.w X.K X.mg X.base x n k mf)(ay:dx k X.A)(U:eZ X F (e::ah) ma)(hQ:F.EX=fun _ _=>False:=by rfl)(aY:F.K=X.K:=by rfl)(aI:dF X x:=by rfl)(e0:(x==("__debug__" :Str))=false:=by decide)(he:acX (e::ah) X.env=(false,adW e X.env)::acX ah X.env:=by rfl)(di:(adF pos (acX ah X.env)).any (·.1)=false:=by rfl):jA X F (.Call (.Name x p) (e::ah) [] pos) (nP n mf ma):=⟨by
 have U:=U.1;obtain⟨f,fd,aO,aU,fT,hm,aK,J⟩:=c.ex;refine a4.imp (n2 fT ay aI hm aK J .nil n0 U e0 he di) ?_;rw[←aY];exact P8 (xe:=fun _ _ _=>False) (E:=vR) hQ⟩
variable{scope:aew}{N:List Str}
abbrev L1(X:aS)(scope:aew)(N:List Str)(e:adq)(m:aN):Prop:=∀cl C s H aQ bD aR,bh (eI X scope N cl C s H aQ) (dc X.K bD aR) e m
theorem Yu{mt:cL}(h:∀cl C s H aQ bD aR,fj (eI X scope N cl C s H aQ) (dc X.K bD aR) c mt):l6 X scope N [c] mt:=bu.MF fun cl C s H aQ bD aR=>(h cl C s H aQ bD aR).1
theorem k_(nl:Nat)(caps:List Nat){ifs:List adq}{mi:aW}{set:D→ai→R ai}{mt:cL}{me:aN}(S:oE X.env.scope X.N scope N nl caps=true)(ak:kz X F bU iter mi)(aI:pN X scope N bU set)(bJ:l6 X scope N ifs mt)(he:L1 X scope N elt me)(ax:X.calm=true:=by rfl)(aY:F.K=X.K:=by rfl)(aD:∀x,adM iter X.env x=pure x:=by intro _;rfl):jA X F (.ListComp elt [⟨bU,iter,ifs,0⟩] scope pos) (fp nl caps mi set mt me):=
 ⟨bu.T4 nl caps S ak.1 aI bJ (fun cl C s H aQ bD aR=>(he cl C s H aQ bD aR).1) ax aY aD⟩
end
theorem eR{P:ac_}{w:adB}{K:PySem.W.Frag}{mg:Str→Option acV}{base:adT}{x:Str}{st:ad4}{N aO:List Str}{k:Nat}{m:bf}(d:dE K mg x st aO)(S:c2 N aO (bW st))(h:∀(f:ac1)(bV:acV)(A:adp)(outer:List Env)(s:acW)(H:ag)(E:cT),dx k (A.deeper (ady x (bW st) s.heap.objs.size f bV))→∀bD aR,gW (er fg P w K mg base N x (bW st) f bV A outer s H E).gh (dc K bD aR) (fl st) m) :
  ei P w K mg base x aO.length (k+1) (dA N.length m):=bu.Nz d S fun f bV A outer s H E ay bD aR=>(h f bV A outer s H E ay bD aR).1
structure pQ(K:PySem.W.Frag)(mg:Str→Option acV)(x:Str)(d:D):Prop where
 ex:∃(v:V)(u:acV),mg x=some u∧RelV v u∧∀G,At K G d v
theorem rf{X:aS}{F:bg}{x:Str}{d:D}{pos:Pos}(c:pQ X.K X.mg x d)(aY:F.K=X.K:=by rfl)(aI:dF X x:=by rfl)(hd:(x==("__debug__" :Str))=false:=by decide):bh X F (.Name x pos) (aG d):=by obtain⟨v,u,h1,h2,h3⟩:=c.ex;exact⟨bu.N6 h1 h2 (by rw[aY];exact h3) aI hd⟩
end bu
namespace a7
open PySem PySem.Spec PyProof.Rows
section
variable{X:aS}{bU:adq}
noncomputable def EI(a b c:Int):Prop:=c≠0∧Builtin.Range.small a b c=true∧0≤afa a b c∧Builtin.divisionGoesByPylong (b-a) c=false
instance(a b c:Int):Decidable (EI a b c):=by unfold EI;infer_instance
end
section
variable{X:aS}{a e:adq}{cg:eS}{pos p pos' qS:Pos}
noncomputable def rJoin(K:PySem.W.Frag):V→List V→ag→cH→Prop:=fun x vs H Q=>∃sep p ys,x=.str sep∧vs=[.ref p]∧bQ K H p (ys.map V.str)∧(ys.map (·.length)).sum+ys.length*sep.length≤16777216∧Q (.str (Txt.join sep ys)) H
theorem Lf:∀{xs:List V}{us:List acV},xs.length=us.length→(∀(i:Nat) x y,xs[i]?=some x→us[i]?=some y→RelV x y)→Vals xs us
 |[],[],_,_=>.nil
 |[],_::_,h,_=>by simp at h
 |_::_,[],h,_=>by simp at h
 |x::xs,u::us,h,f=>.cons (f 0 x u (by simp) (by simp)) (Lf (by simpa using h) fun i a b ae au=>f (i+1) a b (by simpa using ae) (by simpa using au))
theorem Kt:∀{ys:List Str}{its:List acV},Vals (ys.map V.str) its→StrsAre its ys
 |[],_,h=>by cases h;exact .nil
 |y::ys,_,h=>by
  cases h with
  |cons r qZ=>obtain⟨t,rfl⟩:=r;exact .cons y t (Kt qZ)
theorem Tj:v5 X "str.join" (rJoin X.K):=by intro pins s σ H x vs v us Q I bM b4 h;obtain⟨sep,p,ys,rfl,rfl,aP,bj,q⟩:=h;obtain⟨t,rfl⟩:=bM;obtain⟨u,rfl,dV⟩:=vals1 b4;cases dV;obtain⟨its,r,pl,_⟩:=I.list aP;exact join_list pl.isList (by simpa using Kt r) bj fun t' k=>⟨.str _,H,I.tok _,⟨_,rfl⟩,q⟩
theorem SP{pins:List (ac1×Obj)}{σ :St}{H1:ag}{s2:acW}{Q:cH}{r:ac1}{j:Int}{t u v:Tok}(cn:Inv X pins σ H1 s2)(ax:X.calm=true)(ay:IsRange s2.heap r 0 j 1 t u v)(bb: -(2^62)≤j)(bN:j≤1000000)(q:∀l,H1 l=none→Q (.ref l) (upd H1 l (.lst ((adG j.toNat).map fun i=>.int (i:Nat))))):adi (adj X.prog X.w) X.A (call (.type "list") [.ref r]) (gr X pins σ Q) X.xe s2:=by
 have aU:afa 0 j 1=(j.toNat:Nat):=by rw[rangeSize_one];split<;>omega
 refine call_list_range (cn.ok.hd ax) ay (small_one (by omega) (by omega) (by omega) (by omega)) aU (by omega) fun h' c4 EY e2 az e it=>?_;obtain⟨acc,rfl⟩:∃l:List acV,EY=l.toArray:=⟨EY.toList,by simp⟩;have bP:Vals ((adG j.toNat).map fun i=>V.int ((i:Nat):Int)) acc:=by
  have av:acc.length=j.toNat:=by simpa using it.1
  refine Lf ?_ ?_
  ·simp[av]
  ·intro i x y ae au;rw[ac4]at ae;have ak:i<j.toNat:=by rw[←av];exact(List.getElem?_eq_some_iff.mp au).1
   rw[afV ak]at ae;cases ae;obtain⟨tt,rfl⟩:=it.2 i y (by simpa using au);exact⟨tt,by simp⟩
 exact⟨.ref _,_,cn.laid (t':=c4) az (ac3 _) (show e9 X.prog X.w _ h' _ (.lst _)from⟨adt (m:=1000000) (by simp;omega) (by decide),acc,e2,bP,e⟩),rfl,q _ (cn.bR.fresh (ac3 _))⟩
noncomputable def Xm(cg:eS):TE:=fun σ H Q=>cg σ H fun vs H1=>∃j:Int,vs=[.int j]∧-(2^62)≤j∧j≤1000000∧∀l,H1 l=none→Q (.ref l) (upd H1 l (.lst ((adG j.toNat).map fun i=>.int (i:Nat))))
theorem UR(aI:dF X "list")(hm:X.mg "list"=none)(Bm:dF X "range")(Br:X.mg "range"=none)(ax:X.calm=true)(U:fh X [a] cg)(aD:acX [a] X.env=[(false,adW a X.env)]:=by rfl)(et:acX [.Call (.Name "range" qS) [a] [] pos'] X.env=[(false,adW (.Call (.Name "range" qS) [a] [] pos') X.env)]:=by rfl) :
  a4 X (.Call (.Name "list" p) [.Call (.Name "range" qS) [a] [] pos'] [] pos) (Xm cg):=by
 intro pins s σ H Q I h;refine aeN (nK (u:=.type "list") I aI hm (by kernel_rfl) ?_);refine adL ?_ et rfl;rw[et];refine afb ?_;refine Call_ (nK I Bm Br boot_range (adL (bX (U pos' pins s σ H _ I h) fun us s1⟨vs,H1,a6,aq,bb⟩=>?_) aD rfl));obtain⟨j,e,bb,bN,q⟩:=bb;subst e;cases aq with
 |cons r qZ=>cases qZ;obtain⟨t,rfl⟩:=r;refine call_range_1 (afm ?_);exact SP (a6.kept fun b o e=>acS _ e) ax (IsRange.new ..) bb bN q
end
end a7
namespace bu
open PySem PySem.Spec a7
abbrev c6:=ai→R (D×ai)
abbrev fK:=ai→R (List D×ai)
noncomputable def xv(F:bg)(G:ag)(σ :St)(Q:cH):R (D×ai)→Prop
 |.ok (d,ρ')=>∀v H' G',Rel F G' H' σ ρ'→Sub G G'→At F.K G' d v→Q v H'
 |.exc c=>ja F c
 |.bad=>False
noncomputable def RE(F:bg)(G:ag)(σ :St)(Q:List V→ag→Prop):R (List D×ai)→Prop
 |.ok (d,ρ')=>∀v H' G',Rel F G' H' σ ρ'→Sub G G'→aT F.K G' d v→Q v H'
 |.exc c=>ja F c
 |.bad=>False
def jo(F:bg)(m:c6):TE:=fun σ H Q=>∃G ρ,Rel F G H σ ρ∧xv F G σ Q (m ρ)
def sM(F:bg)(m:fK):eS:=fun σ H Q=>∃G ρ,Rel F G H σ ρ∧RE F G σ Q (m ρ)
def lf(m:aN):c6:=fun ρ=>(m ρ).bind fun d=>.ok (d,ρ)
def lK(m:aW):fK:=fun ρ=>(m ρ).bind fun d=>.ok (d,ρ)
section
variable{F:bg}
theorem Qs{m:aN}:dQ (jo F (lf m)) (cZ F m):=by
 rintro σ H Q ⟨G,ρ,r,h⟩;refine⟨G,ρ,r,?_⟩;unfold lf at h;cases aj:m ρ with
 |bad=>rw[aj]at h;exact h.elim
 |exc c=>rw[aj]at h;exact h
 |ok d=>rw[aj]at h;exact fun v H' G' a9 u a=>h v H' G' a9 u.g a
theorem Qt{m:aW}:rq (sM F (lK m)) (eo F m):=by
 rintro σ H Q ⟨G,ρ,r,h⟩;refine⟨G,ρ,r,?_⟩;unfold lK at h;cases aj:m ρ with
 |bad=>rw[aj]at h;exact h.elim
 |exc c=>rw[aj]at h;exact h
 |ok d=>rw[aj]at h;exact fun v H' G' a9 u a=>h v H' G' a9 u.g a
theorem RF{G ck aX:ag}{σ :St}{c5:ai}{Q:cH}(s:Sub G ck):∀{r:R D},xv F G σ Q (r.bind fun d=>.ok (d,c5))→hT F ck aX σ c5 Q r
 |.ok d,h=>fun v H' G' a9 u a=>h v H' G' a9 (s.trans u.g) a
 |.exc _,h=>h
 |.bad,h=>h
noncomputable def lL(f:D→D→R D)(a b:c6):c6:=fun ρ=>(a ρ).bind fun x=>(b x.2).bind fun y=>(f x.1 y.1).bind fun d=>.ok (d,y.2)
theorem HJ{r:eN}{f:D→D→R D}{ma mb:c6}(aH:gV F r f):dQ (jo F (lL f ma mb)) (mR r (jo F ma) (jo F mb)):=by
 rintro σ H Q ⟨G,ρ,r,h⟩;unfold lL at h;refine⟨G,ρ,r,?_⟩;cases aj:ma ρ with
 |bad=>rw[aj]at h;exact h.elim
 |exc c=>rw[aj]at h;exact h
 |ok x=>
  obtain⟨bA,ρ1⟩:=x;rw[aj,R.bo]at h;intro x H1 aM aq s1 bZ;refine⟨aM,ρ1,aq,?_⟩;cases bx:mb ρ1 with
  |bad=>simp only[bx]at h;exact h.elim
  |exc c=>simp only[bx]at h;exact h
  |ok y=>obtain⟨fm,c5⟩:=y;simp only[bx,R.bo]at h;intro y aX ck bp s2 cV;exact aH σ c5 ck aX x y bA fm Q bp (bZ.mono s2) cV (RF (s1.trans s2) h)
def iL(a:c6)(r:fK):fK:=fun ρ=>(a ρ).bind fun x=>(r x.2).bind fun y=>.ok (x.1::y.1,y.2)
theorem Qf{ma:c6}{kj:fK}:rq (sM F (iL ma kj)) (yF (jo F ma) (sM F kj)):=by
 rintro σ H Q ⟨G,ρ,r,h⟩;unfold iL at h;refine⟨G,ρ,r,?_⟩;cases aj:ma ρ with
 |bad=>rw[aj]at h;exact h.elim
 |exc c=>rw[aj]at h;exact h
 |ok x=>
  obtain⟨bA,ρ1⟩:=x;rw[aj,R.bo]at h;intro x H1 aM aq s1 bZ;refine⟨aM,ρ1,aq,?_⟩;cases bx:kj ρ1 with
  |bad=>simp only[bx]at h;exact h.elim
  |exc c=>simp only[bx]at h;exact h
  |ok y=>obtain⟨fm,c5⟩:=y;simp only[bx,R.bo]at h;intro y aX ck bp s2 cV;exact h (x::y) aX ck bp (s1.trans s2) (.cons (bZ.mono s2) cV)
def o6(m:fK):c6:=fun ρ=>(m ρ).bind fun x=>if x.1.length≤1000000 then .ok (.tup x.1,x.2)else .bad
theorem QV{m:fK}:dQ (jo F (o6 m)) (DT (sM F m)):=by
 rintro σ H Q ⟨G,ρ,r,h⟩;unfold o6 at h;refine⟨G,ρ,r,?_⟩;cases aj:m ρ with
 |bad=>rw[aj]at h;exact h.elim
 |exc c=>rw[aj]at h;exact h
 |ok x=>
  obtain⟨ds,ρ1⟩:=x;rw[aj,R.bo]at h;intro vs H1 aM aq s1 a;by_cases av:ds.length≤1000000
  ·simp only[if_pos av]at h;refine⟨by rw[←a.length];exact adt av (by decide),fun p a5=>?_⟩;refine h (.ref p) _ _ (aq.lay a5) (s1.trans (Sub.upd (aq.az.sub.gone a5))) ?_;simp only[At];exact⟨p,vs,rfl,dN,a.mono (Sub.upd (aq.az.sub.gone a5))⟩
  ·simp only[if_neg av]at h;exact h.elim
def qG(i:Nat)(a:c6):bf:=fun ρ=>(a ρ).bind fun x=>(bY i x.1 x.2).bind fun ρ'=>.ok (.bL ρ')
theorem QQ{i:Nat}{a:c6}:gs (eG F (qG i a)) (jP (jo F a) (g4 i)):=by
 rintro b2 σ H ⟨G,ρ,r,h⟩;unfold qG bY at h;refine⟨G,ρ,r,?_⟩;cases aj:a ρ with
 |bad=>rw[aj]at h;exact h.elim
 |exc c=>rw[aj]at h;exact h
 |ok x=>
  obtain⟨d,ρ1⟩:=x;rw[aj,R.bo]at h;intro v H1 aM aq s1 bc;by_cases ak:i<ρ1.length
  ·simp only[if_pos ak]at h;exact h _ aM H1 (aq.set ak bc) s1
  ·simp only[if_neg ak]at h;exact h.elim
def uo(a:c6):bf:=fun ρ=>(a ρ).bind fun x=>.ok (.bL x.2)
theorem Qj{a:c6}:gs (eG F (uo a)) (DM (jo F a)):=by
 rintro b2 σ H ⟨G,ρ,r,h⟩;unfold uo at h;refine⟨G,ρ,r,?_⟩;cases aj:a ρ with
 |bad=>rw[aj]at h;exact h.elim
 |exc c=>rw[aj]at h;exact h
 |ok x=>obtain⟨d,ρ1⟩:=x;rw[aj]at h;exact fun v H' G' a9 s' _=>h σ G' H' a9 s'
noncomputable def RH(F:bg)(G:ag)(σ :St)(Q:It→ag→Prop):R (List D×ai)→Prop
 |.ok (ds,ρ')=>∀cC H' G',Rel F G' H' σ ρ'→Sub G G'→iY F.K cC ds G'→Q cC H'
 |.exc c=>ja F c
 |.bad=>False
def DO(F:bg)(m:fK):TI:=fun σ H Q=>∃G ρ,Rel F G H σ ρ∧RH F G σ Q (m ρ)
def qE(m:fK):fK:=fun ρ=>(m ρ).bind fun x=>(ps x.1).bind fun ds=>.ok (ds,x.2)
def nQ(mi:fK)(set:D→ai→R ai)(body:bf):bf:=fun ρ=>(mi ρ).bind fun x=>f9 set body x.1 x.2
end
section
variable{F:bg}
theorem QI{m:fK}:m3 (DO F (qE m)) (BD (sM F m)):=by
 rintro σ H Q ⟨G,ρ,r,h⟩;unfold qE at h;refine⟨G,ρ,r,?_⟩;cases aj:m ρ with
 |bad=>rw[aj]at h;exact h.elim
 |exc c=>rw[aj]at h;exact h
 |ok x=>
  obtain⟨ds,ρ1⟩:=x;rw[aj,R.bo]at h;intro vs H1 aM aq s1 a;unfold ps at h;simp only at h
  split at h
  ·rename_i j
   split at h
   ·rename_i cU;exact⟨j,a.ints1,cU.1,cU.2,h _ H1 aM aq s1 (HZ 0 j.toNat)⟩
   ·exact h.elim
  ·exact h.elim
theorem Qm{mi:fK}{set:D→ai→R ai}{body:bf}{g:ht}(aI:mc F g set)(aA:∀d ρ c,set d ρ≠.exc c):gs (eG F (nQ mi set body)) (DN (DO F mi) g (eG F body)):=by
 rintro b2 σ H ⟨G,ρ,r,h⟩;unfold nQ at h;refine⟨G,ρ,r,?_⟩;cases aj:mi ρ with
 |bad=>rw[aj]at h;exact h.elim
 |exc c=>rw[aj]at h;exact h
 |ok x=>
  obtain⟨ds,ρ⟩:=x;rw[aj,R.bo]at h;intro cC H1 aM aq s1 it;have h:fP F G b2 (f9 set body ds ρ):=h;refine⟨fun i m σ2 aX=>m=ds.length-i∧i≤ds.length∧∃ck c5,Rel F ck aX σ2 c5∧Sub aM ck∧fP F ck b2 (f9 set body (ds.drop i) c5),⟨ds.length,by simp,aee _,aM,ρ,aq,Sub.refl _,fP.mono s1 (by simpa using h)⟩,?_⟩;rintro i m σ2 aX ⟨rfl,ak,ck,c5,bp,s2,k2⟩;by_cases ed:i<ds.length
  ·refine .inr ⟨it.go i aX (s2.trans bp.az.sub) ed,fun σ3 cK=>∃dJ om,Rel F dJ cK σ3 om∧Sub aM dJ∧fP F dJ b2 (f9 set body (ds.drop (i+1)) om),fun σ3 cK⟨dJ,om,dt,s3,k3⟩=>⟨ds.length-(i+1),by omega,rfl,ed,dJ,om,dt,s3,k3⟩,fun x cK y=>?_⟩;obtain⟨d,dJ,bE,dt,s3,d3⟩:=it.turn bp s2 ed y;have e4:ds.drop i=d::ds.drop (i+1):=by
    rw[ad9 ed];have:=acT ed;rw[bE]at this;rw[ac0 this]
   rw[e4]at k2;simp only[f9]at k2;cases c3:set d c5 with
   |bad=>rw[c3]at k2;exact k2.elim
   |exc c=>exact absurd c3 (aA d c5 c)
   |ok e8=>
    rw[c3,R.bo]at k2;refine aI σ2 c5 dJ cK x d _ e8 dt d3 c3 fun σ5 gi=>⟨dJ,e8,gi,?_⟩;have lV:Sub ck dJ:=s3.g;cases i4:body e8 with
    |bad=>rw[i4]at k2;exact k2.elim
    |exc c=>rw[i4]at k2;exact k2
    |ok f=>
     rw[i4,R.bo]at k2;cases f with
     |bL jx=>exact fun σ7 ib fJ gj ee=>⟨ib,jx,gj,s2.trans (lV.trans ee),fP.mono (lV.trans ee) k2⟩
     |c7 jx=>exact fun σ7 ib fJ gj ee=>⟨ib,jx,gj,s2.trans (lV.trans ee),fP.mono (lV.trans ee) k2⟩
     |fk jx=>exact fun σ7 ib fJ gj ee=>k2 σ7 ib fJ gj (lV.trans ee)
     |c_ d=>exact k2
     |hr ds=>exact k2
     |fE t=>exact k2
     |rs t _=>exact k2
  ·have e:ds.drop i=[]:=aen (by omega);rw[e]at k2;have fo:i=ds.length:=by omega
   subst fo;exact .inl ⟨it.stop aX (s2.trans bp.az.sub),k2 σ2 ck aX bp (Sub.refl _)⟩
def del(H:ag)(a:ac1):ag:=fun b=>if b=a then none else H b
theorem tx{H:ag}{a:ac1}:del H a a=none:=by simp[del]
theorem oF{H:ag}{a b:ac1}(h:b≠a):del H a b=H b:=by simp[del,h]
theorem tA(H:ag)(a:ac1):Sub (del H a) H:=fun b o e=>by
 unfold del at e
 split at e
 ·cases e
 ·exact e
theorem b3.Fj{G H H':ag}{σ :St}{ρ:ai}(r:Rel F G H σ ρ)(k:∀a,b3 H σ ρ a→H' a=H a){a:ac1}(h:b3 H' σ ρ a):b3 H σ ρ a:=by obtain⟨i,cB,o,ae,au,f⟩:=h;refine⟨i,cB,o,ae,au,?_⟩;obtain⟨cc,bE,q⟩:=r.cB i cB ae;rw[au]at bE;cases bE;exact(q.keep (G':=G) (H':=H') (Sub.refl _) fun b eW=>⟨k b ⟨i,cB,o,ae,au,eW⟩,(q.foot eW).2.1⟩).2 a f
theorem Rel.drop{G H:ag}{σ :St}{ρ:ai}(r:Rel F G H σ ρ)(i:Nat):Rel F G H σ (ρ.set i .un):=by
 by_cases ak:i<ρ.length
 ·have aD:i< σ.length:=by rw[r.len];exact ak
  have z:=r.n8 (s:=.un) (o:= σ[i]) ak trivial fun _ f=>f.elim;rw[bu.sG (acT aD)]at z;exact z
 ·rw[List.set_eq_of_length_le (by omega)];exact r
theorem Rel.dropped{G H:ag}{σ :St}{ρ:ai}(r:Rel F G H σ ρ){i:Nat}{s:cJ}{o:Option V}{a:ac1}(e:ρ[i]?=some s)(ae: σ[i]?=some o)(f:fw H s o a):¬b3 H σ (ρ.set i .un) a:=fun⟨j,t,u,d8,ff,mW⟩=>by
 rcases get_set d8 with⟨_,z⟩|⟨ne,d8⟩
 ·subst z;exact mW
 ·exact ne (r.kD i j a s t o u e d8 ae ff f mW)
theorem Rel.behind{G H G' H':ag}{σ :St}{ρ:ai}{EX:Str→ag→Prop}(r:Rel F G H σ ρ){i:Nat}{ds:ky}{a:ac1}(e:ρ[i]?=some (.ob ds))(aj: σ[i]?=some (some (.ref a)))(k:d9 ⟨F.K,G,del H a,EX,gC⟩ G' H'){s':cJ}(aD:s'=.un∨∃eV dW,s'=.ob eV∧G' a=none∧H' a=some dW∧mh F.K G' eV dW):Rel F G' H' σ (ρ.set i s'):=by
 have ak:i<ρ.length:=(List.getElem?_eq_some_iff.mp e).1;obtain⟨b,xs,ae,h1,h2,h3,h4⟩:=r.obj e;rw[aj]at ae;have bx:b=a:=by cases ae;rfl
 subst bx;have nb:∀{c},F.aR c≠none→c≠b:=fun{c} ax z=>by subst z;exact ax h3
 have kT:=r.drop i;have no:¬b3 H σ (ρ.set i .un) b:=r.dropped e aj rfl;have cA:∀c,b3 H σ (ρ.set i .un) c→H' c=H c∧G' c=none∧F.aR c=none:=fun c ax=>by
  obtain⟨g1,g2,g3⟩:=kT.foot ax;have pd:c≠b:=fun z=>no (by rw[←z];exact ax);have aU:del H b c≠none:=by rw[oF pd];exact g1
  refine⟨?_,(k.new c aU).trans g2,g3⟩;cases ec:H c with
  |none=>exact absurd ec g1
  |some o=>exact k.bw c o (by show del H b c=some o;rw[oF pd];exact ec)
 have aq:Rel F G' H' σ (ρ.set i .un):=by
  refine kT.over rfl ⟨k.sub,r.az.dh.trans k.dh,fun c o z=>?_,fun c ax=>?_⟩ k.dh cA
  ·have pd:=nb (c:=c) (by rw[z];exact fun w=>nomatch w);exact k.bw c o (by show del H b c=some o;rw[oF pd];exact r.az.bw c o z)
  ·have pd:=nb ax;have aU:del H b c≠none:=by rw[oF pd];exact r.az.bw.some ax
   rw[k.new c aU];exact r.az.new c ax
 rcases aD with rfl|⟨eV,dW,rfl,g1,g2,g3⟩
 ·exact aq
 ·have TH:¬b3 H' σ (ρ.set i .un) b:=fun z=>no (z.Fj kT fun c ax=>(cA c ax).1);have bp:=aq.setB (i:=i) (ob:=eV) (by simpa using ak) g2 g1 h3 g3 fun j s o _ d8 ff f=>TH ⟨j,s,o,d8,ff,f⟩;rw[bu.sG aj,List.set_set]at bp;exact bp
noncomputable def H6(F:bg)(a:ac1)(Q:cH):R (D×List D)→Prop
 |.ok (d,eV)=>∀v dW G' H',d9 F G' H'→G' a=none→H' a=some (.lst dW)→aT F.K G' eV dW→At F.K G' d v→Q v H'
 |.exc _=>False
 |.bad=>False
noncomputable def spS(K:PySem.W.Frag)(n:Nat)(mf:List D→List D→R (D×List D)):ih:=fun vs H Q E=>∃G a xs ds ah ws,vs=.ref a::ws∧H a=some (.lst xs)∧G a=none∧Sub G H∧aT K G ds xs∧aT K G ah ws∧ah.length=n∧H6 ⟨K,G,del H a,fun _ _=>False,gC⟩ a Q (mf ds ah)
noncomputable def jc(i n:Nat)(mf:List D→List D→R (D×List D))(m:aW):c6:=fun ρ=>(ownAt i ρ).bind fun ds=>(m ρ).bind fun ah=>if ah.length=n then(eF (mf ds ah)).bind fun x=>.ok (x.1,ρ.set i (.br x.2))else .bad
theorem P9{i n:Nat}{mf:List D→List D→R (D×List D)}{m:aW}{E:cT}:dQ (jo F (jc i n mf m)) (q3 (spS F.K n mf) [] E (yF (kY i) (eo F m))):=by
 rintro σ H Q ⟨G,ρ,r,h⟩;unfold jc ownAt at h;cases cb:ρ[i]? with
 |none=>rw[cb]at h;exact h.elim
 |some s=>
  rw[cb]at h;cases s with
  |un=>exact h.elim
  |ao _=>exact h.elim
  |cy _=>exact h.elim
  |dg _ _=>exact h.elim
  |ob ob=>
   cases ob with
   |bH _ _=>exact h.elim
   |ins _ _ _=>exact h.elim
   |lst ds=>
    obtain⟨a,xs,ae,h1,h2,h3,h4⟩:=r.own cb;have h:xv F G σ Q ((m ρ).bind fun ah=>if ah.length=n then(eF (mf ds ah)).bind fun x=>.ok (x.1,ρ.set i (.br x.2))else .bad):=h;refine⟨.ref a,ae,G,ρ,r,?_⟩;cases aj:m ρ with
    |bad=>rw[aj]at h;exact h.elim
    |exc c=>rw[aj]at h;exact h
    |ok ah=>
     rw[aj,R.bo]at h;intro vs H1 aM aq s1 bc;obtain⟨ij,dW,eJ,cO,cP,oM,gJ⟩:=aq.own cb;rw[ae]at eJ;cases eJ;by_cases aU:ah.length=n
     ·rw[if_pos aU]at h;rw[adz];refine⟨aM,a,dW,ds,ah,vs,rfl,cO,cP,aq.az.sub,gJ,bc,aU,?_⟩;cases em:mf ds ah with
      |bad=>rw[em]at h;exact h.elim
      |exc c=>rw[em]at h;exact h.elim
      |ok x=>obtain⟨d,eV⟩:=x;rw[em]at h;intro v zs G' H' k g1 g2 g3 f_;exact h v H' G' (aq.behind cb ae k (.inr ⟨.lst eV,.lst zs,rfl,g1,g2,zs,rfl,g3⟩)) (s1.g.trans k.dh) f_
     ·rw[if_neg aU]at h;exact h.elim
noncomputable def DF(K:PySem.W.Frag)(n:Nat)(mf:List D→List D→R bT):ih:=fun vs H Q E=>∃G a xs ds ah ws,vs=.ref a::ws∧H a=some (.lst xs)∧G a=none∧Sub G H∧aT K G ds xs∧aT K G ah ws∧ah.length=n∧BN ⟨K,G,del H a,fun _ _=>False,gC⟩ Q (mf ds ah)
def nD(N:Nat)(ds ah:List D):ai:=.br ds::hS (N-1) ah
def uk(N:Nat)(m:bf)(ds ah:List D):R bT:=(m (nD N ds ah)).bind outD
theorem JV{K:PySem.W.Frag}{G H:ag}{EX:Str→ag→Prop}{N:Nat}{ds ah:List D}{a:ac1}{xs ws:List V}(h1:H a=some (.lst xs))(h2:G a=none)(s:Sub G H)(q:aT K G ds xs)(bc:aT K G ah ws) :
  Rel ⟨K,G,del H a,EX,gC⟩ G H (hY (N+1) (.ref a::ws)) (nD (N+1) ds ah):=by
 have kT:Rel ⟨K,G,H,EX,gC⟩ G H (hY N ws) (hS N ah):=JU s bc;have cI:hY (N+1) (.ref a::ws)=some (.ref a)::hY N ws:=by unfold hY;simp
 have ae:nD (N+1) ds ah=.br ds::hS N ah:=rfl;rw[cI,ae];have uZ:∀(i:Nat)(a8:cJ),(hS N ah)[i]?=some a8→Cu a8=true:=fun i a8 z=>by
  unfold hS at z;by_cases ak:i<ah.length
  ·rw[adl (by simpa using ak),ac4,acT ak]at z;cases z;rfl
  ·rw[adh (by simpa using ak),adC]at z
   split at z
   ·cases z;rfl
   ·cases z
 refine⟨⟨s,Sub.refl _,tA H a,fun _ _=>rfl⟩,by simp[kT.len],fun i t e=>?_,fun i j b a8 wY o cc bl a_ _ _ f j5=>?_⟩
 ·cases i with
  |zero=>simp at e;subst e;exact⟨some (.ref a),by simp,a,.lst xs,rfl,h1,h2,tx,xs,rfl,q⟩
  |succ i=>
   rw[ad5]at e ⊢;obtain⟨o,au,z⟩:=kT.cB i t e;refine⟨o,au,?_⟩;cases t with
   |un=>trivial
   |ao d=>exact z
   |ob a8=>exact absurd (uZ i _ e) (fun w=>nomatch w)
   |cy a8=>exact absurd (uZ i _ e) (fun w=>nomatch w)
   |dg _ a8=>exact absurd (uZ i _ e) (fun w=>nomatch w)
 ·cases i with
  |zero=>
   cases j with
   |zero=>rfl
   |succ j=>exact absurd j5 (u_ (uZ j wY (by simpa using a_)) cc b)
  |succ i=>exact absurd f (u_ (uZ i a8 (by simpa using bl)) o b)
theorem MH{K:PySem.W.Frag}{n N:Nat}{m:bf}{vs:List V}{H:ag}{Q:cH}{E:cT}(h:DF K n (uk (N+1) m) vs H Q E) :
  ∃G aR,eG (dc K G aR) m { bL:=fun _ H'=>Q .non H',c_:=Q } (hY (N+1) vs) H:=by
 obtain⟨G,a,xs,ds,ah,ws,rfl,h1,h2,s,q,bc,l,k⟩:=h;refine⟨G,del H a,G,nD (N+1) ds ah,JV h1 h2 s q bc,?_⟩;unfold uk at k;cases e:m (nD (N+1) ds ah)with
 |bad=>rw[e]at k;exact k.elim
 |exc c=>rw[e]at k;exact k
 |ok f=>
  rw[e,R.bo]at k;cases f with
  |bL ρ=>exact fun σ' G' H' r _=>k .non G' H' r.az (by simp only[At])
  |c_ d=>exact k
  |hr ds=>exact k
  |fE t=>exact k
  |rs t _=>exact k.elim
  |fk ρ=>exact k.elim
  |c7 ρ=>exact k.elim
end
noncomputable def nk(elt:c6):List D→List D→List D→R (List D×List D)
 |[],dd,ws=>.ok (ws,dd)
 |d::ds,dd,ws=>(elt [.ao d,.br dd]).bind fun y=>match y.2 with
  |[.ao _,.ob (.lst hi)]=>if ws.length<1000000 then nk elt ds hi (ws++[y.1])else .bad
  |_=>.bad
noncomputable def mF(j:Nat)(mi:aW)(elt:c6):c6:=fun ρ=>(ownAt j ρ).bind fun dd=>(mi ρ).bind fun ds=>(eF (nk elt ds dd [])).bind fun x=>.ok (.lst x.1,ρ.set j (.br x.2))
def Lo(K:PySem.W.Frag)(m:c6):TE:=fun σ H Q=>∃bD aR,jo (dc K bD aR) m σ H Q
section
variable{F:bg}
theorem Rel.guard{K:PySem.W.Frag}{bD aR G H:ag}{σ :St}{ρ:ai}{acc:ac1}{o:dG}(r:Rel (dc K bD aR) G H σ ρ)(h:H acc=some o)(aI:G acc=none)(no:¬b3 H σ ρ acc):Rel (dc K bD (upd aR acc o)) G H σ ρ:=by
 refine r.over (F':=dc K bD (upd aR acc o)) rfl ⟨r.az.sub,r.az.dh,Sub.at r.az.bw h,fun b J=>?_⟩ (Sub.refl _) fun a U=>?_
 ·by_cases z:b=acc
  ·subst z;rw[aI];exact(r.az.dh.gone aI).symm
  ·exact r.az.new b (by intro w;apply J;show upd aR acc o b=none;rw[c8 z];exact w)
 ·obtain⟨g1,g2,g3⟩:=r.foot U;exact⟨rfl,g2,by show upd aR acc o a=none;rw[c8 (fun w=>no (by rw[←w];exact U))];exact g3⟩
theorem Rel.XY{K:PySem.W.Frag}{bD aR G H:ag}{σ :St}{ρ:ai}{acc:ac1}{o:dG}(r:Rel (dc K bD (upd aR acc o)) G H σ ρ)(h0:aR acc=none):Rel (dc K bD aR) G H σ ρ:=by have jm:Sub aR (upd aR acc o):=Sub.upd h0;refine r.over (F':=dc K bD aR) rfl ⟨r.az.sub,r.az.dh,jm.trans r.az.bw,fun b J=>r.az.new b (jm.some J)⟩ (Sub.refl _) fun a U=>?_;obtain⟨g1,g2,g3⟩:=r.foot U;exact⟨rfl,g2,jm.gone g3⟩
theorem Rel.rewrite{K:PySem.W.Frag}{bD aR G H:ag}{σ :St}{ρ:ai}{acc:ac1}{o:dG}(r:Rel (dc K bD aR) G H σ ρ)(aI:G acc=none)(h0:aR acc=none)(no:¬b3 H σ ρ acc):Rel (dc K bD aR) G (upd H acc o) σ ρ:=by
 refine r.over rfl ⟨Sub.pG r.az.sub aI,r.az.dh,fun c u z=>?_,r.az.new⟩ (Sub.refl _) fun a U=>?_
 ·rw[c8 (iO z h0)];exact r.az.bw c u z
 ·obtain⟨g1,g2,g3⟩:=r.foot U;exact⟨c8 (fun w=>no (by rw[←w];exact U)),g2,g3⟩
theorem JW{K:PySem.W.Frag}{bD aR G H:ag}{a:ac1}{xs:List V}{d:D}{dd:List D}{x:V}(k:d9 (dc K bD aR) G H)(h0:aR a=none)(aI:G a=none)(U:H a=some (.lst xs))(q:aT K G dd xs)(bZ:At K G d x):Rel (dc K bD aR) G H [some x,some (.ref a)] [.ao d,.br dd]:=by
 refine⟨k,rfl,fun i s e=>?_,fun i j b s s' o cc bl a_ _ _ f j5=>?_⟩
 ·match i,e with
  |0,e=>simp at e;subst e;exact⟨some x,rfl,x,rfl,bZ⟩
  |1,e=>simp at e;subst e;exact⟨some (.ref a),rfl,a,.lst xs,rfl,U,aI,h0,xs,rfl,q⟩
  |i+2,e=>simp at e
 ·have one:∀{i:Nat}{s:cJ}{o:Option V},([cJ.ao d,.br dd]:ai)[i]?=some s→fw H s o b→i=1:=fun{i s o} e f=>by
    match i,e with
    |0,e=>simp at e;subst e;exact f.elim
    |1,_=>rfl
    |i+2,e=>simp at e
  rw[one bl f,one a_ j5]
theorem Jh{H:ag}{a b:ac1}{x:V}{s:D}{dd:List D}(h:b3 H [some x,some (.ref a)] [.ao s,.br dd] b):b=a:=by
 obtain⟨i,t,o,ae,au,f⟩:=h
 match i,ae,au with
 |0,ae,_=>simp at ae;subst ae;exact f.elim
 |1,ae,au=>simp at ae au;subst ae au;have f:some (V.ref a)=some (.ref b):=f;cases f;rfl
 |i+2,ae,_=>simp at ae
theorem Qc{j:Nat}{mi:aW}{elt:c6}:dQ (jo F (mF j mi elt)) (q4 (jq F mi) (g4 0) yJ (Lo F.K elt) 1 [j]):=by
 rintro σ H Q ⟨G,ρ,r,h⟩;unfold mF ownAt at h;refine⟨G,ρ,r,?_⟩;cases cb:ρ[j]? with
 |none=>rw[cb]at h;exact h.elim
 |some cB=>
  rw[cb]at h;cases cB with
  |un=>exact h.elim
  |ao _=>exact h.elim
  |cy _=>exact h.elim
  |dg _ _=>exact h.elim
  |ob ob=>
   cases ob with
   |bH _ _=>exact h.elim
   |ins _ _ _=>exact h.elim
   |lst AD=>
    have h:xv F G σ Q ((mi ρ).bind fun ds=>(eF (nk elt ds AD [])).bind fun x=>.ok (.lst x.1,ρ.set j (.br x.2))):=h;cases aj:mi ρ with
    |bad=>rw[aj]at h;exact h.elim
    |exc c=>rw[aj]at h;exact h
    |ok ds=>
     rw[aj,R.bo]at h;intro cC H1 aM aq ix it acc oO;obtain⟨a,xs,ae,h1,h2,h3,h4⟩:=aq.own cb;have nY:a≠acc:=fun w=>by rw[w,oO]at h1;cases h1
     cases eg:nk elt ds AD []with
     |bad=>rw[eg]at h;exact h.elim
     |exc c=>rw[eg]at h;exact h.elim
     |ok res=>
      obtain⟨jl,sD⟩:=res;rw[eg]at h;have Bh:del H1 a acc=none:=by rw[oF (afA nY)];exact oO
      refine⟨fun i m σ2 aX=>m=ds.length-i∧i≤ds.length∧∃ck o ys ws zs dd,σ2=[o,some (.ref a)]∧d9 (dc F.K aM (del H1 a)) ck aX∧aX acc=some (.lst ys)∧ck acc=none∧aT F.K ck ws ys∧aX a=some (.lst zs)∧ck a=none∧aT F.K ck dd zs∧nk elt (ds.drop i) dd ws=.ok (jl,sD),
       ⟨ds.length,by simp,aee _,aM,none,[],[],xs,AD,?_,⟨Sub.pG aq.az.sub (aq.az.sub.gone oO),Sub.refl _,fun b o z=>?_,fun _ _=>rfl⟩,dN,aq.az.sub.gone oO,.nil,by rw[c8 nY];exact h1,h2,h4,by simpa using eg⟩,?_⟩
      ·show adZ 1 none++[j].map (fun j=> σ.getD j none)=_;simp[ac6,ae]
      ·have nb:b≠acc:=fun w=>by
         have z:del H1 a b=some o:=z;rw[w,Bh]at z;cases z
       rw[c8 nb];exact tA H1 a b o z
      rintro i m σ2 aX ⟨rfl,ak,ck,o,ys,ws,zs,dd,rfl,k2,b8,w6,cV,bj,A9,jD,iG⟩;have bt:Sub aM ck:=k2.dh;by_cases ed:i<ds.length
      ·refine .inr ⟨it.go i aX (bt.trans k2.sub) ed,fun x cK y=>?_⟩;have rb:Rel (dc F.K aM (del H1 a)) ck aX [some .non,some (.ref a)] [.ao .non,.br dd]:=JW k2 tx A9 bj jD (by simp only[At]);obtain⟨d,dJ,bE,dt,ha,d3⟩:=iY.turn (F:=dc F.K aM (del H1 a)) it rb bt ed y;have e4:ds.drop i=d::ds.drop (i+1):=by
        rw[ad9 ed];have:=acT ed;rw[bE]at this;rw[ac0 this]
       rw[e4]at iG;simp only[nk]at iG;have PT:cK acc=some (.lst ys):=ha.h _ _ b8;have OR:dJ acc=none:=by rw[ha.n acc (by rw[b8];exact fun z=>nomatch z)];exact w6
       have PV:cK a=some (.lst zs):=ha.h _ _ bj;have OS:dJ a=none:=by rw[ha.n a (by rw[bj];exact fun z=>nomatch z)];exact A9
       have jN:Rel (dc F.K aM (del H1 a)) dJ cK [some x,some (.ref a)] [.ao d,.br dd]:=JW dt.az tx OS PV (jD.mono ha.g) d3;have TJ:¬b3 cK [some x,some (.ref a)] [.ao d,.br dd] acc:=fun w=>nY (Jh w).symm;have gi:=jN.guard PT OR TJ;dsimp only[g4,yJ];rw[if_pos rfl];refine⟨aM,upd (del H1 a) acc (.lst ys),dJ,[.ao d,.br dd],gi,?_⟩;cases oI:elt [.ao d,.br dd]with
       |bad=>rw[oI]at iG;cases iG
       |exc c=>rw[oI]at iG;cases iG
       |ok y=>
        obtain⟨Zs,jx⟩:=y;rw[oI,R.bo]at iG;intro v lg kv kU gD kA;simp only at iG
        split at iG
        ·rename_i V8 hi
         split at iG
         ·rename_i av;have PU:lg acc=some (.lst ys):=kU.az.bw _ _ dN;have Ha:kv acc=none:=by
           rw[kU.az.new acc (by show upd (del H1 a) acc (.lst ys) acc≠none;rw[dN];exact fun z=>nomatch z)];exact aq.az.sub.gone oO
          have TK:¬b3 lg [some x,some (.ref a)] [.ao V8,.br hi] acc:=fun w=>nY (Jh w).symm;have gj:=kU.XY Bh;have al:aT F.K kv ws ys:=(cV.mono ha.g).mono gD;obtain⟨ij,ZC,dq,dj,dZ,k8,Eb⟩:=gj.own (i:=1) rfl;have dq:some (some (V.ref a))=some (some (V.ref ij)):=dq;cases dq;have jO:=gj.rewrite (o:=.lst (ys++[v])) Ha Bh TK;refine⟨ys,PU,by rw[←al.length];exact aei av (by decide),_,by omega,rfl,ed,kv,some x,ys++[v],ws++[Zs],ZC,hi,rfl,jO.az,dN,Ha,al.snoc kA,?_,dZ,Eb,iG⟩;rw[c8 nY];exact dj
         ·cases iG
        ·cases iG
      ·have e:ds.drop i=[]:=aen (by omega);rw[e]at iG;simp only[nk]at iG;cases iG;have fo:i=ds.length:=by omega
       subst fo;refine .inl ⟨it.stop aX (bt.trans k2.sub),?_⟩;have VA:=aq.behind (EX:=fun _ _=>False) cb ae k2 (s':=.br sD) (.inr ⟨.lst sD,.lst zs,rfl,A9,bj,zs,rfl,jD⟩);have TL:¬b3 aX σ (ρ.set j (.br sD)) acc:=fun z=>by
        have g7:¬b3 H1 σ (ρ.set j .un) a:=aq.dropped cb ae rfl;have kT:=aq.drop j;obtain⟨l,s,o,bl,a_,f⟩:=z;rcases get_set bl with⟨rfl,zs⟩|⟨ne,bl⟩
        ·subst zs;rw[ae]at a_;cases a_;have f:some (V.ref a)=some (.ref acc):=f;cases f;exact nY rfl
        ·have ZD:b3 aX σ (ρ.set j .un) acc:=⟨l,s,o,by rw[adP ne];exact bl,a_,f⟩;have eh:=ZD.Fj kT fun c ax=>by
          have g1:=(kT.foot ax).1;have pd:c≠a:=fun w=>g7 (by rw[←w];exact ax);cases ec:H1 c with
          |none=>exact absurd ec g1
          |some o=>exact k2.bw c o (by show del H1 a c=some o;rw[oF pd];exact ec)
         exact(kT.foot eh).1 oO
       refine h (.ref acc) aX _ (VA.take b8 w6 (aq.az.bw.gone oO) TL) (ix.g.trans (bt.trans (Sub.upd w6))) ?_;simp only[At];exact⟨acc,ys,rfl,dN,cV.mono (Sub.upd w6)⟩
end
end bu
namespace bu
open PySem PySem.Spec a7 PyProof.Rows
abbrev sU(X:aS)(F:bg)(e:adq)(m:c6):Prop:=a4 X e (jo F m)
theorem aT.erase{K:PySem.W.Frag}{G:ag}{ds:List D}{xs:List V}(n:Nat)(q:aT K G ds xs):aT K G (ds.eraseIdx n) (xs.eraseIdx n):=by rw[afq,afq];exact(q.take n).append (q.drop (n+1))
theorem aT.NV{K:PySem.W.Frag}{G:ag}{ds:List D}{xs:List V}(q:aT K G ds xs):aT K G ds.dropLast xs.dropLast:=by rw[ag9,ag9,q.length];exact q.take _
section
variable{X:aS}{F:bg}{e a b c:adq}{ah:List adq}{pos p:Pos}{m n:aN}{ma:aW}
noncomputable def xT(i:Nat)(m:aN):c6:=fun ρ=>(ownAt i ρ).bind fun ds=>(m ρ).bind fun d=>match d with
 |.int k=>if-(2^63)≤k∧k<2^63 then match agQ k ds.length with
  |some j=>match ds[j]? with
   |some y=>.ok (y,ρ.set i (.br (ds.eraseIdx j)))
   |none=>.bad
  |none=>.bad
  else .bad
 |_=>.bad
noncomputable def nU(i:Nat):c6:=fun ρ=>(ownAt i ρ).bind fun ds=>match ds[ds.length-1]? with
 |some y=>.ok (y,ρ.set i (.br ds.dropLast))
 |none=>.bad
noncomputable def r8(i:Nat)(m:c6):bf:=fun ρ=>(ownAt i ρ).bind fun _=>(m ρ).bind fun x=>(ownAt i x.2).bind fun ds=>if ds.length<1000000 then .ok (.bL (x.2.set i (.br (ds++[x.1]))))else .bad
def xG:List D→R (List D)
 |[.lst xs]=>.ok xs
 |[.cu xs]=>.ok xs
 |[.tup xs]=>.ok xs
 |_=>.bad
def se(m:aW):aW:=fun ρ=>(m ρ).bind xG
theorem Qv(aY:F.K=X.K):dQ (jr F (se ma)) (yE (fun xs H Q=>∃p ys,xs=[.ref p]∧(bQ X.K H p ys∨b_ X.K H p ys)∧∀l,H l=none→Q (.ref l) (upd H l (.lst ys))) (eo F ma)):=by
 rintro σ H Q ⟨G,ρ,r,h⟩;unfold se at h;refine⟨G,ρ,r,?_⟩;cases aj:ma ρ with
 |bad=>rw[aj]at h;exact h.elim
 |exc c=>rw[aj]at h;exact h
 |ok ds=>
  rw[aj,R.bo]at h;intro vs H1 aM aq s1 a;unfold xG at h
  split at h
  ·obtain⟨v,rfl,bc⟩:=a.one;simp only[At]at bc;obtain⟨q,xs,rfl,aP,fz⟩:=bc;refine⟨q,xs,rfl,.inl (bQ.of (aq.az.sub _ _ aP)),fun l av=>?_⟩;exact h l xs _ aM (aq.lay0 av) (s1.trans (cG.lay0 av)) (s1.h.gone av) dN (aq.az.sub.gone av) fz
  ·obtain⟨v,rfl,bc⟩:=a.one;simp only[At]at bc;obtain⟨q,xs,rfl,aP,fz⟩:=bc;refine⟨q,xs,rfl,.inl (by rw[←aY];exact bQ.mono aq.az.sub aP),fun l av=>?_⟩;exact h l xs _ aM (aq.lay0 av) (s1.trans (cG.lay0 av)) (s1.h.gone av) dN (aq.az.sub.gone av) fz
  ·obtain⟨v,rfl,bc⟩:=a.one;simp only[At]at bc;obtain⟨q,xs,rfl,aP,fz⟩:=bc;refine⟨q,xs,rfl,.inr (b_.of (aq.az.sub _ _ aP)),fun l av=>?_⟩;exact h l xs _ aM (aq.lay0 av) (s1.trans (cG.lay0 av)) (s1.h.gone av) dN (aq.az.sub.gone av) fz
  ·exact h.elim
noncomputable def qB:List D→R (List D)
 |[.int j]=>if-(2^62)≤j∧j≤1000000 then .ok (gN 0 j.toNat)else .bad
 |_=>.bad
def sd(m:aW):aW:=fun ρ=>(m ρ).bind qB
theorem Fb{K:PySem.W.Frag}{G:ag}:∀(l:List Nat),aT K G (l.map fun i=>.int (0+((i:Nat):Int))) (l.map fun i=>V.int ((i:Nat):Int))
 |[]=>.nil
 |i::l=>.cons (by simp[At]) (Fb l)
def ox:List D→R D
 |[.int i]=>.ok (.int (if i<0 then-i else i))
 |_=>.bad
theorem T7:l8 F (fun xs H Q=>∃i,xs=[.int i]∧Q (.int (if i<0 then-i else i)) H) ox:=by
 intro σ ρ G H xs ds Q r al k;unfold ox at k
 split at k
 ·exact⟨_,al.ints1,k _ H G r (cG.refl _ _) (by simp only[At])⟩
 ·exact k.elim
def S8:List D→R D
 |[.int i,.int j]=>.ok (.int (if j>i then j else i))
 |_=>.bad
noncomputable def vu:List D→R D
 |[.int i]=>.ok (.int i)
 |[.aC k]=>.ok (.int (if k then 1 else 0))
 |[.str x]=>if x.length≤640 then match ahf x with|some i=>.ok (.int i)|none=>.bad else .bad
 |_=>.bad
theorem Ug:l8 F (fun xs H Q=>((∃i,xs=[.int i]∧Q (.int i) H)∨∃k,xs=[.aC k]∧Q (.int (if k then 1 else 0)) H)∨((∃i,xs=[.int i]∧Q (.int i) H)∨∃x i,xs=[.str x]∧x.length≤640∧ahf x=some i∧Q (.int i) H)) vu:=by
 intro σ ρ G H xs ds Q r al k;unfold vu at k
 split at k
 ·rename_i i;exact .inl (.inl ⟨i,al.ints1,k _ H G r (cG.refl _ _) (by simp only[At])⟩)
 ·rename_i c;obtain⟨v,rfl,bc⟩:=al.one;simp only[At]at bc;subst bc;exact .inl (.inr ⟨c,rfl,k _ H G r (cG.refl _ _) (by simp only[At])⟩)
 ·rename_i x
  split at k
  ·rename_i av
   split at k
   ·rename_i i ak;obtain⟨v,rfl,bc⟩:=al.one;simp only[At]at bc;subst bc;exact .inr (.inr ⟨x,i,rfl,av,ak,k _ H G r (cG.refl _ _) (by simp only[At])⟩)
   ·exact k.elim
  ·exact k.elim
 ·exact k.elim
def vp:List D→Option (List Str)
 |[]=>some []
 |.str x::r=>(vp r).map (x::·)
 |_=>none
theorem Ku{K:PySem.W.Frag}{G:ag}:∀{ds:List D}{xs:List V}{ys:List Str},aT K G ds xs→vp ds=some ys→xs=ys.map V.str
 |[],_,_,h,e=>by simp only[aT]at h;subst h;cases e;rfl
 |d::ds,_,_,h,e=>by
  simp only[aT]at h;obtain⟨v,r,rfl,q,t⟩:=h;cases d with
  |str x=>
   unfold vp at e;cases cb:vp ds with
   |none=>rw[cb]at e;cases e
   |some zs=>rw[cb]at e;cases e;simp only[At]at q;rw[q,Ku t cb];rfl
  |_=>cases e
noncomputable def xt(sep:Str):List D→R D
 |[.lst ds]=>match vp ds with
  |some ys=>if(ys.map (·.length)).sum+ys.length*sep.length≤16777216 then .ok (.str (Txt.join sep ys))else .bad
  |none=>.bad
 |_=>.bad
def xS(sep:Str)(m:fK):c6:=fun ρ=>(m ρ).bind fun x=>(xt sep x.1).bind fun d=>.ok (d,x.2)
def uC(set:D→ai→R ai)(m:aN):bf:=fun ρ=>(m ρ).bind fun d=>(set d ρ).bind fun ρ'=>.ok (.bL ρ')
theorem Ow{op:Operator}{r:eN}{f:D→D→R D}{m n:c6}(aH:d2 X (aeM op) r)(hf:gV F r f)(U:sU X F a m)(J:sU X F b n):sU X F (.BinOp a op b pos) (lL f m n):=a4.imp (yi aH U J) (HJ hf)
theorem Kl{n:Nat}{mf:List D→R bT}{xe:cT→Str→ag→Prop}{E:cT}{aM H1:ag}{σ :a7.St}{ρ:ai}{ds:List D}{vs:List V}{Q:cH}(aA:F.EX=xe E)(aq:Rel F aM H1 σ ρ)(a:aT F.K aM ds vs)(aU:ds.length=n)(h:hT F aM H1 σ ρ Q ((mf ds).bind hD)):mO F.K n xe mf vs H1 Q E:=by
 refine⟨aM,ds,aq.az.sub,a,aU,?_⟩;cases e:mf ds with
 |bad=>rw[e]at h;exact h.elim
 |exc c=>rw[e]at h;intro G' H' k;have z:=h G' H' (d9.of aq k).az;rw[aA]at z;exact z
 |ok t=>
  rw[e,R.bo]at h;cases t with
  |v d=>exact fun v G' H' k bc=>h v H' G' (d9.of aq k) ⟨k.dh,k.bw,k.new⟩ bc
  |o ah=>intro p xs G' H' k h1 h2 h3 h4;have h2:H1 p=none:=h2;have a9:=d9.of aq k;have no:¬b3 H' σ ρ p:=b3.fresh aq k.bw h2;refine h (.ref p) H' _ (a9.take h3 h1 (aq.az.bw.gone h2) no) (cG.put ⟨k.dh,k.bw,k.new⟩ h2 h1) ?_;simp only[At];exact⟨p,xs,rfl,dN,h4.mono (Sub.upd h1)⟩
  |t t=>intro v G' H' k q;obtain⟨a1,a2,d3⟩:=(d9.of aq k).DV (F':=⟨F.K,aM,H1,xe E,gC⟩) rfl q ⟨k.dh,k.bw,k.new⟩ fun b J=>⟨(q.own b J).2,aq.az.bw.gone (q.own b J).2,b3.fresh aq k.bw (q.own b J).2⟩;exact h v H' _ a1 a2 d3
end
structure sY(P:ac_)(w:adB)(K:PySem.W.Frag)(mg:Str→Option acV)(base:adT)(x:Str)(n k:Nat)(mf:List D→List D→R (D×List D)):Prop where
 ex:∃(f:ac1)(fd:ad1)(aO:List Str),gR P w K mg base fg k f fd aO (spS K n mf)∧mg x=some (.ref f)∧PySem.W.keepIn K (.ref f)=true∧Binds K fd aO []
structure vZ(P:ac_)(w:adB)(K:PySem.W.Frag)(mg:Str→Option acV)(base:adT)(x:Str)(n k:Nat)(mf:List D→List D→R bT):Prop where
 ex:∃(f:ac1)(fd:ad1)(aO:List Str),gR P w K mg base fg k f fd aO (DF K n mf)∧mg x=some (.ref f)∧PySem.W.keepIn K (.ref f)=true∧Binds K fd aO []
section
variable{X:aS}{F:bg}{e a b c:adq}{ah:List adq}{pos p:Pos}{m n:aN}{ma:aW}
theorem Ox(j:Nat){iter elt:adq}{scope:aew}{x y:Str}{bC:Pos}{mi:aW}{me:c6}(S:oE X.env.scope X.N scope [x,y] 1 [j]=true)(ak:vX X F (.Name x bC) iter mi)(he:∀cl C s H aQ bD aR,sU (eI X scope [x,y] cl C s H aQ) (dc X.K bD aR) elt me)(b7:[x,y].Nodup:=by decide+kernel)(av:(afD scope X.env).names.lookup x=some .local:=by rfl)(ax:X.calm=true:=by rfl)(aY:F.K=X.K:=by rfl)(aD:∀x,adM iter X.env x=pure x:=by intro _;rfl):sU X F (.ListComp elt [⟨.Name x bC,iter,[],0⟩] scope pos) (mF j mi me):=by
 refine a4.imp (Jq (N:=[x,y]) (nl:=1) (caps:=[j]) (g:=g4 0) (tc:=yJ) (te:=Lo X.K me) (.of S) ax ak (fun cl C s H aQ=>u7 (X:=eI X scope [x,y] cl C s H aQ) b7 rfl (.inl av) (.inr av)) (fun cl C s H aQ=>JG) (fun cl C s H aQ pins s' σ H' ig I h=>?_) aD) ?_
 ·obtain⟨bD,aR,h⟩:=h;exact he cl C s H aQ bD aR pins s' σ H' ig I h
 ·rw[←aY];exact Qc
end
theorem W2{K:PySem.W.Frag}{n:Nat}{mf:List D→List D→R bT}:∀vs H Q E,DF K n mf vs H Q E→vs.length=n+1:=fun vs H Q E h=>by obtain⟨G,a,xs,ds,ah,ws,rfl,_,_,_,_,q,l,_⟩:=h;rw[adf,←q.length,l]
theorem Kk{K:PySem.W.Frag}{n:Nat}{mf:List D→List D→R (D×List D)}:∀vs H Q E,spS K n mf vs H Q E→vs.length=n+1:=fun vs H Q E h=>by obtain⟨G,a,xs,ds,ah,ws,rfl,_,_,_,_,q,l,_⟩:=h;rw[adf,←q.length,l]
theorem NB{P:ac_}{w:adB}{K:PySem.W.Frag}{mg:Str→Option acV}{base:adT}{x eY g7:Str}{st:ad4}{N aO:List Str}{k:Nat}{m:bf}(d:dE K mg x st (eY::aO))(S:c2 (g7::N) (eY::aO) (bW st))(h:∀(f:ac1)(bV:acV)(A:adp)(outer:List Env)(s:acW)(H:ag)(E:cT),dx k (A.deeper (ady x (bW st) s.heap.objs.size f bV))→∀bD aR,EH (er fg P w K mg base (g7::N) x (bW st) f bV A outer s H E).gh (dc K bD aR) (fl st) m) :
  vZ P w K mg base x aO.length (k+1) (uk (N.length+1) m):=by
 obtain⟨f,fd,fn,hm,J⟩:=d.ex;refine⟨f,fd,eY::aO,fn.ok S W2 fun bV A outer s H vs Q E ay aD=>?_,hm,fn.az,J⟩;obtain⟨G,aR,bJ⟩:=MH aD;exact⟨_,h f bV A outer s H E ay G aR,bJ⟩
noncomputable def uQ:List D→List D→R (D×List D)
 |[.int n],[.int m]=>if 0<m∧pP n m then .ok (.int (n%m),[.int (n/m)])else .bad
 |_,_=>.bad
noncomputable def DL(K:PySem.W.Frag):eT:=vt (jP (mR (pq (fun _ j=>0<j) fun i j=>.int (i%j)) (mR (ve K) (kY 0) (mQ (.int 0))) (kY 1)) (g4 2))
 (vt (jP (mR (pq pP fun i j=>.int (i/j)) (mR (ve K) (kY 0) (mQ (.int 0))) (kY 1)) (G6 (kY 0) (mQ (.int 0)) JN)) (q5 (kY 2)))
theorem NO{K:PySem.W.Frag}{vs:List V}{H:ag}{Q:cH}{E:cT}{b2:Ends}(w7:b2.c_=Q)(h:spS K 1 uQ vs H Q E):DL K b2 (hY 3 vs) H:=by
 obtain⟨G,a,xs,ds,ah,ws,rfl,h1,h2,s,q,bc,l,k⟩:=h;unfold uQ at k
 split at k
 ·rename_i n m
  split at k
  ·rename_i hm;have ae:=q.ints1;have au:=bc.ints1;subst ae au;have E9:∀{H':ag}{j:Int},H' a=some (.lst [.int j])→∀ig:cH,ig (.int j) H'→ve K (.ref a) (.int 0) H' ig:=fun{H' j} bw ig dS=>.inl ⟨a,[.int j],0,.int j,rfl,rfl,bQ.of bw,rfl,dS⟩;refine⟨.ref a,rfl,E9 h1 _ ⟨.int m,rfl,n,m,rfl,rfl,hm.1,?_⟩⟩;refine⟨.ref a,rfl,E9 h1 _ ⟨.int m,rfl,n,m,rfl,rfl,hm.2,?_⟩⟩;refine⟨.ref a,rfl,a,[.int n],0,0,rfl,rfl,h1,rfl,?_⟩;refine⟨.int (n%m),rfl,?_⟩;rw[w7];refine k (.int (n%m)) [.int (n/m)] G _ ⟨Sub.pG s h2,Sub.refl _,fun b o z=>?_,fun _ _=>rfl⟩ h2 dN (.cons (by simp only[At]) .nil) (by simp only[At]);have z:del H a b=some o:=z;have nb:b≠a:=fun w=>by rw[w,tx]at z;cases z
   rw[c8 nb];exact tA H a b o z
  ·exact k.elim
 ·exact k.elim
theorem NN {X:aS} {x y z:Str} {dr cj qT Uy Uz UA UB bb bN d6 qX qY n3 kS pn vd aq bp:Pos} {t8 lI BL} (b7:X.N.Nodup) (h0:X.N[0]?=some x:=by rfl) (h1:X.N[1]?=some y:=by rfl) (h2:X.N[2]?=some z:=by rfl)(Ea:fL X.env.scope x:=by first|exact adN rfl|exact ads (adN rfl)|exact ads (ads rfl)) (Li:fL X.env.scope y:=by first|exact adN rfl|exact ads (adN rfl)|exact ads (ads rfl)) (Yh:fL X.env.scope z:=by first|exact adN rfl|exact ads (adN rfl)|exact ads (ads rfl)) (IA:Loc X.env.scope z:=by first|exact adN rfl|exact ads rfl)(bA:(x==("__debug__" :Str))=false:=by decide) (qb:(x==("__classdict__" :Str))=false:=by decide) (fm:(y==("__debug__" :Str))=false:=by decide) (FR:(y==("__classdict__" :Str))=false:=by decide) (AH:(z==("__debug__" :Str))=false:=by decide) (N0:(z==("__classdict__" :Str))=false:=by decide)(hf:X.fn z=true∨X.env.scope.names.lookup z=some .local:=by first|exact .inl rfl|exact .inr rfl)(aD:swapsWithSole [.Subscript (.Name x bb) (.Constant (.int 0) lI bN) d6] (.BinOp (.Subscript (.Name x qX) (.Constant (.int 0) BL qY) n3) .FloorDiv (.Name y kS) pn) vd.line X.env=pure false:=by rfl)(hw:swappedStores [.Subscript (.Name x bb) (.Constant (.int 0) lI bN) d6] (.BinOp (.Subscript (.Name x qX) (.Constant (.int 0) BL qY) n3) .FloorDiv (.Name y kS) pn) X.env=pure none:=by rfl)(cO:(aex [.Subscript (.Name x bb) (.Constant (.int 0) lI bN) d6] X.env).map (·.2)=[agr (.Subscript (.Name x bb) (.Constant (.int 0) lI bN) d6) X.env]:=by rfl)(U:∀v,agr (.Subscript (.Name x bb) (.Constant (.int 0) lI bN) d6) X.env v=(do
    let dY ←afB [v] (adW (.Name x bb) X.env)
    let gL ←afB [v,dY] (adW (.Constant (.int 0) lI bN) X.env)
    agN d6
    afB [v,dY,gL] (setItem dY gL v)
    release [v,dY,gL] []):=by intro _;rfl) :
  fi X [.Assign [.Name z dr] (.BinOp (.Subscript (.Name x cj) (.Constant (.int 0) t8 qT) Uy) .Mod (.Name y Uz) UA) UB,
   .Assign [.Subscript (.Name x bb) (.Constant (.int 0) lI bN) d6] (.BinOp (.Subscript (.Name x qX) (.Constant (.int 0) BL qY) n3) .FloorDiv (.Name y kS) pn) vd,.Return (some (.Name z aq)) bp] (DL X.K):=
 qW (pk b7 h2 IA (yi Jc (qU qx (fY h0 Ea bA qb) yh bC) (fY h1 Li fm FR)) (iR _ _ _ _ rfl) hf)
  (qW (JB (yi I9 (qU qx (fY h0 Ea bA qb) yh bC) (fY h1 Li fm FR)) (U3 (fY h0 Ea bA qb) yh set_list U) aD hw cO) (vc (lT (fY h2 Yh AH N0))))
theorem NA{P:ac_}{w:adB}{K:PySem.W.Frag}{mg:Str→Option acV}{base:adT}{x g7 dP dv eY dr:Str}{st:ad4}{k:Nat}(d:dE K mg x st [eY,dr])(S:c2 [g7,dP,dv] [eY,dr] (bW st))(h:∀(f:ac1)(bV:acV)(A:adp)(outer:List Env)(s:acW)(H:ag)(E:cT),dx k (A.deeper (ady x (bW st) s.heap.objs.size f bV))→fi (er fg P w K mg base [g7,dP,dv] x (bW st) f bV A outer s H E).gh (fl st) (DL K)) :
  sY P w K mg base x 1 (k+1) uQ:=by
 obtain⟨f,fd,fn,hm,J⟩:=d.ex;refine⟨f,fd,[eY,dr],fn.ok S Kk fun bV A outer s H vs Q E ay aD=>?_,hm,fn.az,J⟩;exact⟨_,h f bV A outer s H E ay,NO rfl aD⟩
end bu
namespace bu
open PySem PySem.Spec a7
structure fx(X:aS)(F:bg)(e:adq)(m:c6):Prop where
 o:a4 X e (jo F m)
structure ru(X:aS)(F:bg)(ah:List adq)(m:fK):Prop where
 o:fh X ah (sM F m)
structure EW(X:aS)(F:bg)(bU e:adq)(m:fK):Prop where
 o:f6 X bU e (DO F m)
section
variable{X:aS}{F:bg}{e a b c bU iter elt:adq}{ah:List adq}{pos p:Pos}{m n:aN}{ma:aW}{st:ad4}{oa:List ad4}
theorem YL(i:Nat){x:Str}{bC:Pos}{apos:Pos}{b6:Pos}(b7:X.N[i]?=some x:=by rfl)(bP:fL X.env.scope x:=by first|exact adN rfl|exact ads (adN rfl)|exact ads (ads rfl))(hd:(x==("__debug__" :Str))=false:=by decide)(dy:(x==("__classdict__" :Str))=false:=by decide)(gy:adJ (.Name x bC) "pop" X.env (adW (.Name x bC) X.env)=adW (.Name x bC) X.env:=by rfl)(gz:(apos.endLine==b6.line)=true:=by rfl):fx X F (.Call (.Attribute (.Name x bC) "pop" apos) [] [] b6) (nU i):=⟨by
 refine a4.imp (UI PySem.F.plainAttrs_list PySem.F.slot_list_pop PySem.F.type_list_pop Tn (fY b7 bP hd dy) gy gz) ?_;rintro σ H Q ⟨G,ρ,r,h⟩;unfold nU ownAt at h;cases cb:ρ[i]? with
 |none=>rw[cb]at h;exact h.elim
 |some s=>
  rw[cb]at h;cases s with
  |un=>exact h.elim
  |ao _=>exact h.elim
  |cy _=>exact h.elim
  |dg _ _=>exact h.elim
  |ob ob=>
   cases ob with
   |bH _ _=>exact h.elim
   |ins _ _ _=>exact h.elim
   |lst ds=>
    obtain⟨q,xs,ae,h1,h2,h3,h4⟩:=r.own cb;rw[R.bo]at h;refine⟨.ref q,ae,.inl ⟨rfl,xs,bQ.of h1⟩,?_⟩
    split at h
    ·rename_i y dk;obtain⟨w,gI,fM⟩:=h4.get dk;exact⟨q,xs,w,rfl,rfl,h1,by rw[←h4.length];exact gI,h w _ G (r.mut cb ae h4.NV) (Sub.refl _) fM⟩
    ·exact h.elim⟩
theorem Er (i:Nat) {x:Str} {bC:Pos} {apos:Pos} {b6:Pos} {m:c6} (he:fx X F e m) (b7:X.N[i]?=some x:=by rfl) (bP:fL X.env.scope x:=by first|exact adN rfl|exact ads (adN rfl)|exact ads (ads rfl)) (hd:(x==("__debug__" :Str))=false:=by decide) (dy:(x==("__classdict__" :Str))=false:=by decide) (gy:adJ (.Name x bC) "append" X.env (adW (.Name x bC) X.env)=adW (.Name x bC) X.env:=by rfl) (gz:(apos.endLine==b6.line)=true:=by rfl) (hy:((adF b6 (acX [e] X.env)).all (fun x=>!x.1)&&(aeq b6 (adS [] X.env)).all (fun x=>x.1.isSome)
   &&decide (([e]:List adq).length+([]:List aeh).length+(if([]:List aeh).isEmpty then 0 else 1)<30))=true:=by rfl) (aD:acX [e] X.env=(false,adW e X.env)::acX [] X.env:=by rfl) (hz:(adF b6 (acX [] X.env)).any (·.1)=false:=by rfl):dU X F (.Expr (.Call (.Attribute (.Name x bC) "append" apos) [e] [] b6) pos) (r8 i m):=⟨by
 have he:=he.1;refine cS.imp (qV (n1 PySem.F.plainAttrs_list PySem.F.slot_list_append PySem.F.type_list_append uT (fY b7 bP hd dy) (hp he kl aD) gy hy gz aD hz) (iR _ _ _ _ rfl)) ?_;rintro b2 σ H ⟨G,ρ,r,h⟩;unfold r8 ownAt at h;cases cb:ρ[i]? with
 |none=>rw[cb]at h;exact h.elim
 |some s=>
  rw[cb]at h;cases s with
  |un=>exact h.elim
  |ao _=>exact h.elim
  |cy _=>exact h.elim
  |dg _ _=>exact h.elim
  |ob ob=>
   cases ob with
   |bH _ _=>exact h.elim
   |ins _ _ _=>exact h.elim
   |lst ZU=>
    obtain⟨q,xs,ae,h1,h2,h3,h4⟩:=r.own cb;rw[R.bo]at h;refine⟨.ref q,ae,.inl ⟨rfl,xs,bQ.of h1⟩,G,ρ,r,?_⟩;cases aj:m ρ with
    |bad=>rw[aj]at h;exact h.elim
    |exc c=>rw[aj]at h;exact h
    |ok y=>
     obtain⟨d,ρ1⟩:=y;rw[aj,R.bo]at h;intro v H1 aM aq s1 bc;simp only at h;cases nq:ρ1[i]? with
     |none=>rw[nq]at h;exact h.elim
     |some s=>
      rw[nq]at h;cases s with
      |un=>exact h.elim
      |ao _=>exact h.elim
      |cy _=>exact h.elim
      |dg _ _=>exact h.elim
      |ob ob=>
       cases ob with
       |bH _ _=>exact h.elim
       |ins _ _ _=>exact h.elim
       |lst ds=>
        rw[R.bo]at h;obtain⟨dS,dW,eJ,cO,cP,oM,gJ⟩:=aq.own nq;rw[ae]at eJ;cases eJ;by_cases av:ds.length<1000000
        ·rw[if_pos av]at h;refine⟨q,dW,v,rfl,rfl,cO,by rw[←gJ.length];exact aei av (by decide),?_⟩;exact h σ aM _ (aq.mut nq ae (gJ.snoc bc)) s1
        ·rw[if_neg av]at h;exact h.elim⟩
theorem LH(hm:X.mg "list"=none)(U:eZ X F [e] ma)(aY:F.K=X.K:=by rfl)(aI:dF X "list":=by rfl)(he:acX [e] X.env=(false,adW e X.env)::acX [] X.env:=by rfl)(di:(adF pos (acX [] X.env)).any (·.1)=false:=by rfl):jA X F (.Call (.Name "list" p) [e] [] pos) (se ma):=⟨have U:=U.1;a4.imp (Jo M1 aI hm (by kernel_rfl) U (by decide) (by decide) he di) (Qv aY)⟩
theorem Eo{qS pos':Pos}(hm:X.mg "list"=none)(Br:X.mg "range"=none)(U:eZ X F [a] ma)(ax:X.calm=true:=by rfl)(aI:dF X "list":=by rfl)(Bm:dF X "range":=by rfl)(aD:acX [a] X.env=[(false,adW a X.env)]:=by rfl)(et:acX [.Call (.Name "range" qS) [a] [] pos'] X.env=[(false,adW (.Call (.Name "range" qS) [a] [] pos') X.env)]:=by rfl):jA X F (.Call (.Name "list" p) [.Call (.Name "range" qS) [a] [] pos'] [] pos) (sd ma):=⟨by
 have U:=U.1;refine a4.imp (UR aI hm Bm Br ax U aD et) ?_;rintro σ H Q ⟨G,ρ,r,h⟩;unfold sd at h;refine⟨G,ρ,r,?_⟩;cases aj:ma ρ with
 |bad=>rw[aj]at h;exact h.elim
 |exc c=>rw[aj]at h;exact h
 |ok ds=>
  rw[aj,R.bo]at h;intro vs H1 aM aq s1 a;unfold qB at h
  split at h
  ·rename_i j
   split at h
   ·rename_i cU;refine⟨j,a.ints1,cU.1,cU.2,fun l av=>?_⟩;exact h l _ _ aM (aq.lay0 av) (s1.trans (cG.lay0 av)) (s1.h.gone av) dN (aq.az.sub.gone av) (Fb _)
   ·exact h.elim
  ·exact h.elim⟩
theorem Eh(hm:X.mg "abs"=none)(U:eZ X F [e] ma)(aI:dF X "abs":=by rfl)(he:acX [e] X.env=(false,adW e X.env)::acX [] X.env:=by rfl)(di:(adF pos (acX [] X.env)).any (·.1)=false:=by rfl):bh X F (.Call (.Name "abs" p) [e] [] pos) (cW ox ma):=⟨have U:=U.1;AK MW T7 hm (by kernel_rfl) U aI (by decide) (by decide) he di⟩
theorem YQ(hm:X.mg "int"=none)(U:eZ X F [e] ma)(aI:dF X "int":=by rfl)(he:acX [e] X.env=(false,adW e X.env)::acX [] X.env:=by rfl)(di:(adF pos (acX [] X.env)).any (·.1)=false:=by rfl):bh X F (.Call (.Name "int" p) [e] [] pos) (cW vu ma):=⟨have U:=U.1;wM (MY.or Fz) Ug hm (by kernel_rfl) U aI (by decide) (by decide) he di⟩
theorem YG {sep:Str} {j:Nat} {bC apos b6:Pos} {m:fK} (U:ru X F [e] m) (aY:F.K=X.K:=by rfl) (gy:adJ (.Constant (.str sep) j bC) "join" X.env (adW (.Constant (.str sep) j bC) X.env)=adW (.Constant (.str sep) j bC) X.env:=by rfl) (gz:(apos.endLine==b6.line)=true:=by rfl) (hy:((adF b6 (acX [e] X.env)).all (fun x=>!x.1)&&(aeq b6 (adS [] X.env)).all (fun x=>x.1.isSome)
   &&decide (([e]:List adq).length+([]:List aeh).length+(if([]:List aeh).isEmpty then 0 else 1)<30))=true:=by rfl) (aD:acX [e] X.env=(false,adW e X.env)::acX [] X.env:=by rfl) (hz:(adF b6 (acX [] X.env)).any (·.1)=false:=by rfl):fx X F (.Call (.Attribute (.Constant (.str sep) j bC) "join" apos) [e] [] b6) (xS sep m):=⟨by
 have U:=U.1;refine a4.imp (n1 PySem.F.plainAttrs_str PySem.F.slot_str_join PySem.F.type_str_join Tj Cr U gy hy gz aD hz) ?_;rintro σ H Q ⟨G,ρ,r,h⟩;unfold xS at h;refine⟨rfl,G,ρ,r,?_⟩;cases aj:m ρ with
 |bad=>rw[aj]at h;exact h.elim
 |exc c=>rw[aj]at h;exact h
 |ok y=>
  obtain⟨ds,ρ1⟩:=y;rw[aj,R.bo]at h;intro vs H1 aM aq s1 bc;unfold xt at h;simp only at h
  split at h
  ·rename_i a8
   split at h
   ·rename_i ys dk
    split at h
    ·rename_i bj;obtain⟨v,rfl,fM⟩:=bc.one;simp only[At]at fM;obtain⟨q,xs,rfl,aP,fz⟩:=fM;refine⟨sep,q,ys,rfl,rfl,?_,bj,h _ H1 aM aq s1 (by simp only[At])⟩;rw[←Ku fz dk];exact bQ.of (aq.az.sub _ _ aP)
    ·exact h.elim
   ·exact h.elim
  ·exact h.elim⟩
theorem LP{bU:adq}{set:D→ai→R ai}(he:bh X F e m)(aI:GM X bU set)(aY:F.K=X.K:=by rfl)(aD:swapsWithSole [bU] e pos.line X.env=pure false:=by rfl)(hw:swappedStores [bU] e X.env=pure none:=by rfl)(h1:(aex [bU] X.env).map (·.2)=[agr bU X.env]:=by rfl):dU X F (.Assign [bU] e pos) (uC set m):=⟨by
 have he:=he.1;obtain⟨⟨g,g1,g2⟩,g3,_⟩:=aI;refine cS.imp (JB he g1 aD hw h1) ?_;rintro b2 σ H ⟨G,ρ,r,h⟩;unfold uC at h;refine⟨G,ρ,r,?_⟩;cases aj:m ρ with
 |bad=>rw[aj]at h;exact h.elim
 |exc c=>rw[aj]at h;exact h
 |ok d=>
  rw[aj,R.bo]at h;intro v H1 aM aq s1 bc;cases ah:set d ρ with
  |bad=>rw[ah]at h;exact h.elim
  |exc c=>exact absurd ah (g3 d ρ c)
  |ok ρ'=>rw[ah]at h;exact g2 F aY σ ρ aM H1 v d _ ρ' aq bc ah fun σ' a9=>h σ' aM H1 a9 s1.g⟩
theorem mU(h:bh X F e m):fx X F e (lf m):=⟨have h:=h.1;a4.imp h Qs⟩
theorem LC{m n:c6}(U:fx X F a m)(J:fx X F b n):fx X F (.BinOp a .Add b pos) (lL fy m n):=⟨have U:=U.1;have J:=J.1;Ow (I5.or (I6.or I7)) I1 U J⟩
theorem El{m n:c6}(U:fx X F a m)(J:fx X F b n)(aD:pY b)(aY:F.K=X.K:=by rfl):fx X F (.Subscript a b pos) (lL bk m n):=⟨have U:=U.1;have J:=J.1;a4.imp (qU qx U J aD) (HJ (I2 aY))⟩
theorem rg:ru X F [] (lK aF):=⟨fh.imp kl (fun σ H Q h=>HQ σ H Q (Qt σ H Q h))⟩
theorem k9{m:c6}{r:fK}(h:fx X F e m)(t:ru X F ah r)(aD:notStar e=true:=by rfl):ru X F (e::ah) (iL m r):=⟨have h:=h.1;have t:=t.1;fh.imp (hp h t (n9 e ah X.env aD)) Qf⟩
theorem Em{k}{m:fK}(h:ru X F ah m):fx X F (.Tuple ah k pos) (o6 m):=⟨have h:=h.1;a4.imp (Cs h) QV⟩
theorem Ew(i:Nat){x:Str}{p:Pos}{m:c6}(b7:X.N.Nodup)(he:fx X F e m)(ak:X.N[i]?=some x:=by rfl)(aA:Loc X.env.scope x:=by first|exact adN rfl|exact ads rfl)(aD:lP e=true:=by rfl)(hf:X.fn x=true∨X.env.scope.names.lookup x=some .local:=by first|exact .inl rfl|exact .inr rfl):dU X F (.Assign [.Name x p] e pos) (qG i m):=⟨have he:=he.1;cS.imp (pk b7 ak aA he (iR _ _ _ _ aD) hf) QQ⟩
theorem Za{m:c6}(h:fx X F e m)(aD:lP e=true:=by rfl):dU X F (.Expr e pos) (uo m):=⟨have h:=h.1;cS.imp (qV h (iR _ _ _ _ aD)) Qj⟩
theorem EA{bU:adq}{m:fK}(hm:X.mg "range"=none)(U:ru X F [a] m)(aI:dF X "range":=by rfl)(aD:acX [a] X.env=[(false,adW a X.env)]:=by rfl):EW X F bU (.Call (.Name "range" p) [a] [] pos) (qE m):=⟨have U:=U.1;f6.imp (Jv aI hm U aD) QI⟩
theorem Es{bU iter:adq}{body:List ad4}{mi:fK}{set:D→ai→R ai}{mb:bf}(a5:ahS (adj X.prog X.w) X.A X.env X.xe)(ak:EW X F bU iter mi)(aI:GM X bU set)(J:gW X F body mb)(ax:X.calm=true:=by rfl)(aY:F.K=X.K:=by rfl)(aD:∀x,adM iter X.env x=pure x:=by intro _;rfl):dU X F (.For bU iter body [] pos) (nQ mi set mb):=⟨by
 have ak:=ak.1;have J:=J.1;obtain⟨⟨g,h1,h2⟩,h3,_⟩:=aI;exact cS.imp (JD a5 ax ak h1 J aD) (Qm (h2 F aY) h3)⟩
theorem l1(i:Nat){x y:Str}{py:Pos}{n k:Nat}{mf:List D→List D→R (D×List D)}(c:sY X.prog X.w X.K X.mg X.base x n k mf)(ay:dx k X.A)(U:eZ X F ah ma)(b7:X.N[i]?=some y:=by rfl)(bP:fL X.env.scope y:=by first|exact adN rfl|exact ads (adN rfl)|exact ads (ads rfl))(hd:(y==("__debug__" :Str))=false:=by decide)(dy:(y==("__classdict__" :Str))=false:=by decide)(aY:F.K=X.K:=by rfl)(aI:dF X x:=by rfl)(e0:(x==("__debug__" :Str))=false:=by decide)(he:acX (.Name y py::ah) X.env=(false,adW (.Name y py) X.env)::acX ah X.env:=by rfl)(di:(adF pos (acX ah X.env)).any (·.1)=false:=by rfl):fx X F (.Call (.Name x p) (.Name y py::ah) [] pos) (jc i n mf ma):=⟨by
 have U:=U.1;obtain⟨f,fd,aO,fT,hm,aK,J⟩:=c.ex;refine a4.imp (n2 fT ay aI hm aK J .nil n0 (hp (fY b7 bP hd dy) U he) e0 he di) ?_;rw[←aY];exact P9⟩
theorem Ek(j:Nat){scope:aew}{x y:Str}{bC:Pos}{mi:aW}{me:c6}(S:oE X.env.scope X.N scope [x,y] 1 [j]=true)(ak:kz X F (.Name x bC) iter mi)(he:∀cl C s H aQ bD aR,fx (eI X scope [x,y] cl C s H aQ) (dc X.K bD aR) elt me)(b7:[x,y].Nodup:=by decide+kernel)(av:(afD scope X.env).names.lookup x=some .local:=by rfl)(ax:X.calm=true:=by rfl)(aY:F.K=X.K:=by rfl)(aD:∀x,adM iter X.env x=pure x:=by intro _;rfl):fx X F (.ListComp elt [⟨.Name x bC,iter,[],0⟩] scope pos) (mF j mi me):=
 ⟨bu.Ox j S ak.1 (fun cl C s H aQ bD aR=>(he cl C s H aQ bD aR).1) b7 av ax aY aD⟩
end
theorem Yv{P:ac_}{w:adB}{K:PySem.W.Frag}{mg:Str→Option acV}{base:adT}{x eY g7:Str}{st:ad4}{N aO:List Str}{k:Nat}{m:bf}(d:dE K mg x st (eY::aO))(S:c2 (g7::N) (eY::aO) (bW st))(h:∀(f:ac1)(bV:acV)(A:adp)(outer:List Env)(s:acW)(H:ag)(E:cT),dx k (A.deeper (ady x (bW st) s.heap.objs.size f bV))→∀bD aR,gW (er fg P w K mg base (g7::N) x (bW st) f bV A outer s H E).gh (dc K bD aR) (fl st) m) :
  vZ P w K mg base x aO.length (k+1) (uk (N.length+1) m):=bu.NB d S fun f bV A outer s H E ay bD aR=>(h f bV A outer s H E ay bD aR).1
theorem gQ.inj{K:PySem.W.Frag}{c:Str}{C l7:ac1}(h:gQ K c C)(h':gQ K c l7):C=l7:=by unfold gQ at h h';rw[h]at h';cases h';rfl
theorem Iq{K:PySem.W.Frag}{G:ag}{f:Str}{d:D}:∀{xs:List (Str×V)}{ds:List D},aT K G ds (xs.map (·.2))→((xs.map (·.1)).zip ds).lookup f=some d→∃v,xs.lookup f=some v∧At K G d v
 |[],_,_,e=>by simp at e
 |(k,v)::xs,[],h,_=>by have:=h.length;simp at this
 |(k,v)::xs,e::ds,h,l=>by
  simp only[ac8,aT]at h;obtain⟨gn,r,ae,a,t⟩:=h;cases ae;simp only[ac8,aet,afC]at l ⊢;cases aK:f==k with
  |true=>rw[aK]at l;cases l;exact⟨v,rfl,a⟩
  |false=>rw[aK]at l;exact Iq t l
theorem BW{f:Str}:∀{xs:List (Str×V)},(xs.map (·.1)).all (fun k=>!(f==k))=true→xs.lookup f=none
 |[],_=>rfl
 |(k,v)::xs,h=>by simp only[ac8,afd,adm,agd]at h;rw[afC,h.1];exact BW (by simpa using h.2)
structure vQ(K:PySem.W.Frag)(c:Str)(a8:List Str):Prop where
 ex:∃C,gQ K c C∧jz K C∧∀f∈a8,pW K C f
noncomputable def e5(c f:Str):D→R D
 |.ins e2 ns ds=>if e2=c then match(ns.zip ds).lookup f with
  |some d=>.ok d
  |none=>.bad
  else .bad
 |_=>.bad
section
variable{X:aS}{F:bg}{e a b c o:adq}{ah:List adq}{pos p:Pos}{m n:aN}{ma:aW}
structure m6(P:ac_)(w:adB)(K:PySem.W.Frag)(mg:Str→Option acV)(base:adT)(b1 mt:Str)(n k:Nat)(mf:List D→R bT):Prop where
 ex:∃(C f:ac1)(fd:ad1)(aO:List Str),gQ K b1 C∧jz K C∧Meth K C mt f∧gR P w K mg base fg k f fd aO (lW K (n+1) mf)∧Binds K fd aO []
noncomputable def n7(b1 mt:Str):D→R D
 |.ins e2 ns ds=>if e2=b1∧ns.all (fun k=>!(mt==k))=true then .ok (.ins e2 ns ds)else .bad
 |_=>.bad
noncomputable def kN(b1 mt:Str)(n:Nat)(mf:List D→R bT)(o:aN)(ma:aW):aN:=fun ρ=>(o ρ).bind fun d=>(n7 b1 mt d).bind fun d=>(ma ρ).bind fun ds=>if ds.length=n then(mf (d::ds)).bind hD else .bad
theorem Qy{b1 mt:Str}{n:Nat}{mf:List D→R bT}{C:ac1}{E:cT}(aA:F.EX=fun _ _=>False)(ip:gQ F.K b1 C):dQ (cZ F (kN b1 mt n mf m ma)) (yH C mt (lW F.K (n+1) mf) [] E (cZ F m) (eo F ma)):=by
 rintro σ H Q ⟨G,ρ,r,h⟩;unfold kN at h;refine⟨G,ρ,r,?_⟩;cases aj:m ρ with
 |bad=>rw[aj]at h;exact h.elim
 |exc c=>rw[aj]at h;exact h
 |ok d=>
  rw[aj,R.bo]at h;intro x H1 aM aq s1 bZ;cases d with
  |ins e2 ns ds=>
   simp only[n7]at h
   split at h
   ·rename_i ax;obtain⟨tO,iF⟩:=ax;subst tO;have ti:=bZ;simp only[At]at bZ;obtain⟨q,bA,xs,rfl,⟨l7,cp,g1⟩,rfl,al⟩:=bZ;have:=cp.inj ip;subst this;refine⟨q,bA,xs,rfl,aq.az.sub _ _ g1,BW iF,aM,ρ,aq,?_⟩;rw[R.bo]at h;cases bx:ma ρ with
    |bad=>rw[bx]at h;exact h.elim
    |exc c=>rw[bx]at h;exact h
    |ok ah=>
     rw[bx,R.bo]at h;intro vs aX ck bp s2 bc;by_cases aU:ah.length=n
     ·rw[if_pos aU]at h;rw[adz];exact Kl (xe:=fun _ _ _=>False) aA bp (.cons (ti.mono s2.g) bc) (by simp[aU]) (h.mono (s1.trans s2))
     ·rw[if_neg aU]at h;exact h.elim
   ·exact h.elim
  |_=>exact h.elim
def H_:D→Option Key
 |.int i=>some (.inl i)
 |.str x=>some (.inr x)
 |_=>none
noncomputable def xB:List D→Option (List Key)
 |[]=>some []
 |d::ds=>match H_ d,xB ds with
  |some k,some ks=>some (k::ks)
  |_,_=>none
def nG:D→Option (List Key)
 |.tup ds=>xB ds
 |_=>none
theorem RT{K:PySem.W.Frag}{G:ag}{d:D}{v:V}{k:Key}(e:H_ d=some k)(a:At K G d v):v=de k:=by
 cases d<;>first
  |(cases e;done)
  |(cases e;simp only[At]at a;exact a)
theorem Ia{K:PySem.W.Frag}{G:ag}:∀{ds:List D}{vs:List V}{ks:List Key},xB ds=some ks→aT K G ds vs→vs=ks.map de
 |[],_,_,e,a=>by simp only[aT]at a;subst a;cases e;rfl
 |d::ds,_,_,e,a=>by
  simp only[aT]at a;obtain⟨v,r,rfl,bc,nh⟩:=a;unfold xB at e
  split at e
  ·rename_i k ks ae au;cases e;rw[RT ae bc,Ia au nh];rfl
  ·cases e
theorem xA{K:PySem.W.Frag}{G:ag}{d:D}{v:V}{ks:List Key}(e:nG d=some ks)(a:At K G d v):∃b,v=.ref b∧G b=some (.tup (ks.map de)):=by
 cases d with
 |tup ds=>simp only[At]at a;obtain⟨b,xs,rfl,J,al⟩:=a;exact⟨b,rfl,by rw[J,Ia e al]⟩
 |_=>cases e
theorem D8{κ:Type}[DecidableEq κ](k:κ):∀bq:List (κ×V),(hb bq k).isSome=(bq.map (·.1)).any (fun x=>decide (x=k))
 |[]=>rfl
 |(x,v)::bq=>by
  have cq:=D8 k bq;unfold hb at cq ⊢;rw[ad0,ac8,aeE];by_cases h:x=k
  ·simp[h]
  ·simp only[h,decide_false,agi];exact cq
noncomputable def eU(b:Bool)(k d:D):R D:=match d with
 |.bH ks _=>match nG k with
  |some cA=>.ok (.aC (if b then ks.any (fun x=>decide (x=cA))else !ks.any (fun x=>decide (x=cA))))
  |none=>.bad
 |_=>.bad
theorem FN{b:Bool}{σ :St}{ρ:ai}{G H:ag}{y x:V}{oH dd:D}{Q:cH}(r:Rel F G H σ ρ)(cV:At F.K G oH y)(bZ:At F.K G dd x)(h:hT F G H σ ρ Q (eU b oH dd)) :
  ∃a o,x=.ref a∧iV H a y o∧Q (.aC (if b then o.isSome else !o.isSome)) H:=by
 unfold eU at h
 split at h
 ·rename_i ks ds
  split at h
  ·rename_i cA d4;simp only[At]at bZ;obtain⟨a,xs,rfl,aI,rfl,al⟩:=bZ;obtain⟨q,rfl,aP⟩:=xA d4 cV;refine⟨a,hb xs cA,rfl,iV.t (r.az.sub _ _ aI) (r.az.sub _ _ aP),?_⟩;rw[D8];exact h _ H G r (cG.refl _ _) (by simp only[At])
  ·exact h.elim
 ·exact h.elim
theorem HO:dQ (cZ F (aE (eU true) m n)) (KG (cZ F m) (cZ F n)):=by
 rintro σ H Q ⟨G,ρ,r,h⟩;unfold aE at h;refine⟨G,ρ,r,?_⟩;cases aj:m ρ with
 |bad=>rw[aj]at h;exact h.elim
 |exc c=>rw[aj]at h;exact h
 |ok oH=>
  rw[aj,R.bo]at h;intro y H1 aM aq s1 cV;refine⟨aM,ρ,aq,?_⟩;cases bx:n ρ with
  |bad=>rw[bx]at h;exact h.elim
  |exc c=>rw[bx]at h;exact h
  |ok dd=>rw[bx,R.bo]at h;intro x aX ck bp s2 bZ;exact FN (b:=true) bp (cV.mono s2.g) bZ (h.mono (s1.trans s2))
theorem HP:dQ (cZ F (aE (eU false) m n)) (KH (cZ F m) (cZ F n)):=by
 rintro σ H Q ⟨G,ρ,r,h⟩;unfold aE at h;refine⟨G,ρ,r,?_⟩;cases aj:m ρ with
 |bad=>rw[aj]at h;exact h.elim
 |exc c=>rw[aj]at h;exact h
 |ok oH=>
  rw[aj,R.bo]at h;intro y H1 aM aq s1 cV;refine⟨aM,ρ,aq,?_⟩;cases bx:n ρ with
  |bad=>rw[bx]at h;exact h.elim
  |exc c=>rw[bx]at h;exact h
  |ok dd=>rw[bx,R.bo]at h;intro x aX ck bp s2 bZ;exact FN (b:=false) bp (cV.mono s2.g) bZ (h.mono (s1.trans s2))
def sh(i:Nat):bf:=fun ρ=>if i<ρ.length then .ok (.bL (ρ.set i (.ob (.bH [] []))))else .bad
noncomputable def putD(ks:List (List Key))(ds:List D)(cA:List Key)(d:D):R ky:=if ks.any (fun x=>decide (x=cA))=false∧ks.length<1000000 then .ok (.bH (ks++[cA]) (ds++[d]))else .bad
noncomputable def mG(i:Nat)(mk mv:aN):bf:=fun ρ=>(mv ρ).bind fun v=>match ρ[i]? with
 |some (.ob (.bH ks ds))=>(mk ρ).bind fun k=>match nG k with
  |some cA=>(putD ks ds cA v).bind fun o=>.ok (.bL (ρ.set i (.ob o)))
  |none=>.bad
 |_=>.bad
def jd(m:aN):bf:=fun ρ=>(m (d5 ρ)).bind fun d=>.ok (.c_ d)
def oZ:bf:=fun _=>.bad
end
mutual
noncomputable def kk:D→Bool
 |.ins _ _ _=>false
 |.tup ds=>kR ds
 |.lst ds=>kR ds
 |.cu ds=>kR ds
 |.eO _ ds=>kR ds
 |.bH _ ds=>kR ds
 |.dI ds=>kR ds
 |_=>true
noncomputable def kR:List D→Bool
 |[]=>true
 |d::ds=>kk d&&kR ds
end
def t5:dG→Bool
 |.ins _ _ _=>true
 |_=>false
section
variable{K:PySem.W.Frag}{G G':ag}
theorem fQ.off(h:∀b o,G b=some o→t5 o=false→G' b=some o){a:ac1}{u:dG}(aV:t5 u=false)(r:fQ G a u):fQ G' a u:=by
 rcases r with r|⟨o,r⟩
 ·exact .inl (h _ _ r aV)
 ·exact .inr ⟨o,h _ _ r rfl⟩
mutual
theorem At.off(h:∀b o,G b=some o→t5 o=false→G' b=some o):∀{d:D}{v:V},kk d=true→At K G d v→At K G' d v
 |.non,_,_,q=>by simpa only[At]using q
 |.aC _,_,_,q=>by simpa only[At]using q
 |.int _,_,_,q=>by simpa only[At]using q
 |.str _,_,_,q=>by simpa only[At]using q
 |.tup _,_,n,q=>by simp only[At,kk]at q n ⊢;obtain⟨a,xs,e,g,r⟩:=q;exact⟨a,xs,e,h _ _ g rfl,aT.off h n r⟩
 |.lst _,_,n,q=>by simp only[At,kk]at q n ⊢;obtain⟨a,xs,e,g,r⟩:=q;exact⟨a,xs,e,h _ _ g rfl,aT.off h n r⟩
 |.cu _,_,n,q=>by
  simp only[At,kk]at q n ⊢;obtain⟨a,xs,e,g,r⟩:=q;refine⟨a,xs,e,?_,aT.off h n r⟩;rcases g with g|g
  ·exact .inl (fQ.off h rfl g)
  ·exact .inr g
 |.dI _,_,n,q=>by
  simp only[At,kk]at q n ⊢;obtain⟨a,xs,e,g,r⟩:=q;refine⟨a,xs,e,?_,aT.off h n r⟩;rcases g with g|g
  ·exact .inl (fQ.off h rfl g)
  ·exact .inr g
 |.eO _ _,_,n,q=>by simp only[At,kk]at q n ⊢;obtain⟨a,xs,e,g,k,r⟩:=q;exact⟨a,xs,e,h _ _ g rfl,k,aT.off h n r⟩
 |.bH _ _,_,n,q=>by simp only[At,kk]at q n ⊢;obtain⟨a,xs,e,g,k,r⟩:=q;exact⟨a,xs,e,h _ _ g rfl,k,aT.off h n r⟩
 |.ins _ _ _,_,n,_=>by simp only[kk]at n;cases n
 |.qg _,_,n,q=>by simp only[At]at q ⊢;obtain⟨a,xs,e,⟨C,cp,g⟩,r⟩:=q;exact⟨a,xs,e,⟨C,cp,h _ _ g rfl⟩,r⟩
theorem aT.off(h:∀b o,G b=some o→t5 o=false→G' b=some o):∀{ds:List D}{vs:List V},kR ds=true→aT K G ds vs→aT K G' ds vs
 |[],_,_,q=>by simpa only[aT]using q
 |_::_,_,n,q=>by simp only[aT,kR,adm]at q n ⊢;obtain⟨v,r,e,a,t⟩:=q;exact⟨v,r,e,At.off h n.1 a,aT.off h n.2 t⟩
end
end
def WR:cJ→Bool
 |.ob (.ins _ _ _)=>true
 |.ob _=>false
 |.cy _=>false
 |.dg _ _=>false
 |_=>true
def Cj(ρ:ai):Bool:=ρ.all WR
def qC(m:aN):aN:=fun ρ=>(m (d5 ρ)).bind fun d=>if kk d=true∧Cj ρ=true then .ok d else .bad
section
variable{F:bg}
open Classical in
noncomputable def gb(H:ag)(σ :St)(ρ:ai)(G:ag):ag:=fun b=>if b3 H σ ρ b then none else G b
theorem P2{m:aN}:dQ (cZ F (qC m)) (cZ F m):=by
 rintro σ H Q ⟨G,ρ,r,h⟩;refine⟨hN σ ρ G H,d5 ρ,r.plus,?_⟩;unfold qC at h;cases aj:m (d5 ρ)with
 |bad=>rw[aj]at h;exact h.elim
 |exc c=>rw[aj]at h;exact h
 |ok d=>
  rw[aj,R.bo]at h;intro v H' G' a9 s' a;by_cases hd:kk d=true∧Cj ρ=true
  ·rw[if_pos hd]at h;have lS:∀b,b3 H σ ρ b→G b=none:=fun b z=>(r.foot z).2.1;have lR:∀b,b3 H σ ρ b→F.aR b=none:=fun b z=>(r.foot z).2.2;have qR:∀b,b3 H σ ρ b→∃aH,H b=some aH∧t5 aH=true:=fun b⟨i,s,o,ae,au,f⟩=>by
    have ak:=List.all_eq_true.mp hd.2 _ (adg ae);cases s with
    |un=>exact f.elim
    |ao _=>exact f.elim
    |cy _=>cases ak
    |dg _ _=>cases ak
    |ob ob=>
     have f:o=some (.ref b):=f;obtain⟨c,aH,bE,h1,_,_,h4⟩:=r.obj ae;rw[au,f]at bE;cases bE;cases ob with
     |lst _=>cases ak
     |bH _ _=>cases ak
     |ins _ _ _=>obtain⟨C,bA,xs,_,rfl,_⟩:=h4;exact⟨_,h1,rfl⟩
   have off:∀b,¬b3 H σ ρ b→gb H σ ρ G' b=G' b:=fun b n=>by unfold gb;rw[if_neg n]
   have on:∀b,b3 H σ ρ b→gb H σ ρ G' b=none:=fun b n=>by unfold gb;rw[if_pos n]
   have bt:Sub G (gb H σ ρ G'):=fun b o e=>by
    have n:¬b3 H σ ρ b:=fun z=>by rw[lS b z]at e;cases e
    rw[off b n];exact s'.g b o (rT r b o e)
   have qz:∀b,b3 H σ ρ b→∀o,H b=some o→H' b=some o:=fun b z o e=>a9.az.sub _ _ (s'.g _ _ (by rw[kH z];exact e));have rel:Rel F (gb H σ ρ G') H' σ ρ:=by
    refine r.over rfl ⟨fun b o e=>?_,r.az.dh.trans bt,a9.az.bw,fun b J=>?_⟩ bt fun b br=>?_
    ·by_cases n:b3 H σ ρ b
     ·rw[on b n]at e;cases e
     ·rw[off b n]at e;exact a9.az.sub b o e
    ·have n:¬b3 H σ ρ b:=fun z=>J (lR b z);rw[off b n];exact a9.az.new b J
    ·refine⟨?_,on b br,lR b br⟩;cases bx:H b with
     |none=>exact absurd bx (r.foot br).1
     |some o=>exact qz b br o bx
   refine h v H' _ rel ⟨bt,s'.h,fun b J=>?_⟩ (At.off (fun b o e ak=>?_) hd.1 a)
   ·by_cases n:b3 H σ ρ b
    ·rw[on b n,lS b n]
    ·rw[off b n,s'.n b J];unfold hN;rw[if_neg n]
   ·have n:¬b3 H σ ρ b:=fun z=>by
      obtain⟨aH,ae,au⟩:=qR b z;have:=s'.g b aH (by rw[kH z];exact ae);rw[e]at this;cases this;rw[ak]at au;cases au
    rw[off b n];exact e
  ·rw[if_neg hd]at h;exact h.elim
abbrev e1:=ai→R ai
noncomputable def RI(F:bg)(σ :St)(b2:Ends):R ai→Prop
 |.ok ρ'=>∀G' H',Rel F G' H' σ ρ'→b2.bL σ H'
 |.exc c=>ja F c
 |.bad=>False
def oc(F:bg)(m:e1):eT:=fun b2 σ H=>∃G ρ,Rel F G H σ ρ∧RI F σ b2 (m ρ)
def je(a b:e1):e1:=fun ρ=>(a ρ).bind b
theorem QT{a b:e1}:gs (oc F (je a b)) (vt (oc F a) (oc F b)):=by
 rintro b2 σ H ⟨G,ρ,r,h⟩;unfold je at h;refine⟨G,ρ,r,?_⟩;cases aj:a ρ with
 |bad=>rw[aj]at h;exact h.elim
 |exc c=>rw[aj]at h;exact h
 |ok ρ1=>rw[aj,R.bo]at h;exact fun G' H' a9=>⟨G',ρ1,a9,h⟩
def o3(c:cL):e1:=fun ρ=>(c ρ).bind fun k=>if k=true then .bad else .ok ρ
theorem Qp{c:cL}:gs (oc F (o3 c)) (DP (gE F c) KN DQ):=by
 rintro b2 σ H ⟨G,ρ,r,h⟩;unfold o3 at h;refine⟨G,ρ,r,?_⟩;cases aj:c ρ with
 |bad=>rw[aj]at h;exact h.elim
 |exc c=>rw[aj]at h;exact h
 |ok k=>
  rw[aj,R.bo]at h;intro H1 aM aq s1;cases k with
  |true=>exact h.elim
  |false=>exact h aM H1 aq
theorem Cx{f:Str}{v:V}:∀{a8:List (Str×V)},(a8.map (·.1)).all (fun k=>!(f==k))=true→hC f v a8=a8++[(f,v)]
 |[],_=>rfl
 |(g,x)::a8,h=>by
  simp only[ac8,afd,adm,agd]at h;have ne:g≠f:=fun z=>by subst z;simp at h
  rw[hC,if_neg ne,Cx (by simpa using h.2)];rfl
noncomputable def kg(b1 f:Str)(m:aN):e1:=fun ρ=>(m ρ).bind fun d=>match(ρ[0]? :Option cJ)with
 |some (.ob (.ins e2 ns ds))=>if e2=b1∧ns.all (fun k=>!(f==k))=true∧ns.length<1000 then .ok (ρ.set 0 (.ob (.ins b1 (ns++[f]) (ds++[d]))))else .bad
 |_=>.bad
end
section
variable{X:aS}{F:bg}{e o:adq}{pos:Pos}{m:aN}
theorem Wc{b1 f x:Str}{a8:List Str}{bC pos':Pos}(k:vQ X.K b1 a8)(he:iW X F e m)(hf:f∈a8:=by decide+kernel)(b7:X.N[0]?=some x:=by rfl)(bP:fL X.env.scope x:=by first|exact adN rfl|exact ads (adN rfl)|exact ads (ads rfl))(hd:(x==("__debug__" :Str))=false:=by decide)(dy:(x==("__classdict__" :Str))=false:=by decide)(aD:lP e=true:=by rfl)(aY:F.K=X.K:=by rfl) :
  cS X (.Assign [.Attribute (.Name x bC) f pos'] e pos) (oc F (kg b1 f m)):=by
 refine cS.imp (Vk (fY b7 bP hd dy) he (iR _ _ _ _ aD)) ?_;rintro b2 σ H ⟨G,ρ,r,h⟩;unfold kg at h;refine⟨G,ρ,r,?_⟩;cases aj:m ρ with
 |bad=>rw[aj]at h;exact h.elim
 |exc c=>rw[aj]at h;exact h
 |ok d=>
  rw[aj,R.bo]at h;intro v H1 aM aq s1 bc
  split at h
  ·rename_i e2 ns ds cb
   split at h
   ·rename_i ax;obtain⟨rfl,iF,O1⟩:=ax;obtain⟨q,aH,ae,h1,h2,h3,C,bA,xs,cp,rfl,rfl,al⟩:=aq.obj cb;obtain⟨l7,k1,k2,k3⟩:=k.ex;rw[aY]at cp;have:=cp.inj k1;subst this;refine⟨.ref q,ae,q,C,bA,xs,rfl,h1,k2,k3 f hf,by simpa using O1,?_⟩;refine h aM _ (aq.B8 cb ae ⟨C,bA,hC f v xs,by rw[aY];exact cp,rfl,?_,?_⟩)
    ·rw[Cx iF];simp
    ·rw[Cx iF,aeU];exact al.snoc bc
   ·exact h.elim
  ·exact h.elim
end
noncomputable def H5(F:bg)(x C:ac1)(Q:cH):R (List Str×List D)→Prop
 |.ok (ns,ds)=>∀bA xs G' H',d9 F G' H'→G' x=none→H' x=some (.ins C bA xs)→xs.map (·.1)=ns→aT F.K G' ds (xs.map (·.2))→Q .non H'
 |.exc _=>False
 |.bad=>False
noncomputable def vn(K:PySem.W.Frag)(b1:Str)(n:Nat)(mf:List D→R (List Str×List D)):ih:=fun vs H Q E=>∃G x C bA ah ws,vs=.ref x::ws∧gQ K b1 C∧H x=some (.ins C bA [])∧G x=none∧Sub G H∧aT K G ah ws∧ah.length=n∧H5 ⟨K,G,del H x,fun _ _=>False,gC⟩ x C Q (mf ah)
noncomputable def uw(b1:Str)(n:Nat)(mf:List D→R (List Str×List D))(ma:aW):aN:=fun ρ=>(ma ρ).bind fun ds=>if ds.length=n then(eF (mf ds)).bind fun x=>.ok (.ins b1 x.1 x.2)else .bad
section
variable{X:aS}{F:bg}{e:adq}{ah:List adq}{pos p:Pos}{ma:aW}
theorem Qx{b1:Str}{n:Nat}{mf:List D→R (List Str×List D)}{C:ac1}{E:cT}(ip:gQ F.K b1 C):dQ (cZ F (uw b1 n mf ma)) (KL C (vn F.K b1 n mf) [] E (eo F ma)):=by
 rintro σ H Q ⟨G,ρ,r,h⟩;unfold uw at h;refine⟨G,ρ,r,?_⟩;cases aj:ma ρ with
 |bad=>rw[aj]at h;exact h.elim
 |exc c=>rw[aj]at h;exact h
 |ok ds=>
  rw[aj,R.bo]at h;intro vs H1 aM aq s1 bc x bA aA O8 ne;by_cases aU:ds.length=n
  ·rw[if_pos aU]at h;rw[adz];have CK:Sub H1 (del (upd (upd H1 bA (.own x)) x (.ins C bA [])) x):=fun b o e=>by
    have dP:b≠x:=fun z=>by rw[z,aA]at e;cases e
    have dv:b≠bA:=fun z=>by rw[z,O8]at e;cases e
    rw[oF dP,c8 dP,c8 dv];exact e
   have Wa:Sub aM (upd (upd H1 bA (.own x)) x (.ins C bA [])):=aq.az.sub.trans (CK.trans (tA _ _));refine⟨aM,x,C,bA,ds,vs,rfl,ip,dN,aq.az.sub.gone aA,Wa,bc,aU,?_⟩;cases em:mf ds with
   |bad=>rw[em]at h;exact h.elim
   |exc c=>rw[em]at h;exact h.elim
   |ok y=>obtain⟨ns,tE⟩:=y;rw[em]at h;intro qb xs G' H' k g1 g2 g3 f_;refine⟨rfl,?_⟩;have bw:Sub H1 H':=CK.trans k.bw;have nw:∀b,H1 b≠none→G' b=aM b:=fun b J=>k.new b (CK.some J);have bp:Rel F G' H' σ ρ:=aq.grow k.dh k.sub bw nw;have no:¬b3 H' σ ρ x:=b3.fresh aq bw aA;refine h (.ref x) H' _ (bp.take g2 g1 (aq.az.bw.gone aA) no) ((s1.trans ⟨k.dh,bw,nw⟩).put (s1.h.gone aA) g1) ?_;simp only[At];exact⟨x,qb,xs,rfl,⟨C,ip,dN⟩,g3,f_.mono (Sub.upd g1)⟩
  ·rw[if_neg aU]at h;exact h.elim
structure zB(P:ac_)(w:adB)(K:PySem.W.Frag)(mg:Str→Option acV)(base:adT)(b1:Str)(n k:Nat)(mf:List D→R (List Str×List D)):Prop where
 ex:∃(C f:ac1)(fd:ad1)(aO:List Str),gQ K b1 C∧v3 K C f∧gR P w K mg base fg k f fd aO (vn K b1 n mf)∧mg b1=some (.ref C)∧Binds K fd aO []
end
def ka(b1:Str)(ah:List D):ai:=.ob (.ins b1 [] [])::ah.map .ao
noncomputable def outI(b1:Str):R ai→R (List Str×List D)
 |.ok (.ob (.ins c ns ds)::_)=>if c=b1 then .ok (ns,ds)else .bad
 |_=>.bad
theorem VR{K:PySem.W.Frag}{G H:ag}{EX:Str→ag→Prop}{b1:Str}{C bA x:ac1}{ah:List D}{ws:List V}(ip:gQ K b1 C)(h1:H x=some (.ins C bA []))(h2:G x=none)(s:Sub G H)(bc:aT K G ah ws) :
  Rel ⟨K,G,del H x,EX,gC⟩ G H (some (.ref x)::ws.map some) (ka b1 ah):=by
 refine⟨⟨s,Sub.refl _,tA H x,fun _ _=>rfl⟩,by simp[ka,bc.length],fun i t e=>?_,fun i j b a8 wY o cc bl a_ _ _ f j5=>?_⟩
 ·cases i with
  |zero=>simp[ka]at e;subst e;exact⟨some (.ref x),by simp,x,_,rfl,h1,h2,tx,C,bA,[],ip,rfl,rfl,.nil⟩
  |succ i=>
   simp only[ka,ad5]at e ⊢;rw[ac4]at e;cases e4:ah[i]? with
   |none=>rw[e4]at e;cases e
   |some d=>rw[e4]at e;cases e;obtain⟨v,ae,a⟩:=bc.get e4;exact⟨some v,by rw[ac4,ae];rfl,v,rfl,a⟩
 ·have one:∀{i:Nat}{a8:cJ}{o:Option V},(ka b1 ah)[i]?=some a8→fw H a8 o b→i=0:=fun{i a8 o} e f=>by
    cases i with
    |zero=>rfl
    |succ i=>
     simp only[ka,ad5,ac4]at e;cases e4:ah[i]? with
     |none=>rw[e4]at e;cases e
     |some d=>rw[e4]at e;cases e;exact f.elim
  rw[one bl f,one a_ j5]
theorem Q9{K:PySem.W.Frag}{b1:Str}{n:Nat}{m:e1}{vs:List V}{H:ag}{Q:cH}{E:cT}(h:vn K b1 n (fun ah=>outI b1 (m (ka b1 ah))) vs H Q E) :
  ∃G aR,oc (dc K G aR) m { bL:=fun _ H'=>Q .non H',c_:=Q } (vs.map some) H:=by
 obtain⟨G,x,C,bA,ah,ws,rfl,ip,h1,h2,s,bc,l,k⟩:=h;refine⟨G,del H x,G,ka b1 ah,VR ip h1 h2 s bc,?_⟩;replace k:H5 ⟨K,G,del H x,fun _ _=>False,gC⟩ x C Q (outI b1 (m (ka b1 ah))):=k;cases em:m (ka b1 ah)with
 |bad=>rw[em]at k;exact k.elim
 |exc c=>rw[em]at k;exact k.elim
 |ok ρ'=>
  rw[em]at k;intro G' H' r;unfold outI at k
  split at k
  ·rename_i ZT ns ds gm heq;cases heq;obtain⟨a,aH,ae,g1,g2,g3,l7,qb,xs,cp,rfl,au,al⟩:=r.obj (i:=0) rfl;have ae:some (some (V.ref x))=some (some (V.ref a)):=ae;cases ae
   split at k
   ·rename_i ax;subst ax;have:=cp.inj ip;subst this;exact k qb xs G' H' r.az g2 g1 au al
   ·exact k.elim
  ·exact k.elim
end bu
namespace bu
open PySem PySem.Spec a7 PyProof.Rows
theorem Kj{K:PySem.W.Frag}{b1:Str}{n:Nat}{mf:List D→R (List Str×List D)}:∀vs H Q E,vn K b1 n mf vs H Q E→vs.length=n+1:=fun vs H Q E h=>by obtain⟨G,x,C,bA,ah,ws,rfl,_,_,_,_,q,l,_⟩:=h;rw[adf,←q.length,l]
theorem Xb{N:List Str}{vs:List V}(h:vs.length=N.length):a7.start N vs=vs.map some:=by unfold a7.start;simp[h]
theorem QD{P:ac_}{w:adB}{K:PySem.W.Frag}{mg:Str→Option acV}{base:adT}{x qual b1 eY:Str}{st:ad4}{aO:List Str}{k:Nat}{m:e1}{f:ac1}{fd:ad1}(fn:lb K x qual st f fd)(S:c2 (eY::aO) (eY::aO) (bW st))(h:∀(f:ac1)(bV:acV)(A:adp)(outer:List Env)(s:acW)(H:ag)(E:cT),dx k (A.deeper (ady qual (bW st) s.heap.objs.size f bV))→∀bD aR,fi (er fg P w K mg base (eY::aO) qual (bW st) f bV A outer s H E).gh (fl st) (oc (dc K bD aR) m)) :
  gR P w K mg base fg (k+1) f fd (eY::aO) (vn K b1 aO.length fun ah=>outI b1 (m (ka b1 ah))):=fn.ok S Kj fun bV A outer s H vs Q E ay aD=>by
 have av:=Kj vs H Q E aD;obtain⟨G,aR,bJ⟩:=Q9 aD;refine⟨_,h f bV A outer s H E ay G aR,?_⟩;rw[Xb (by simpa using av)];exact bJ
theorem S3{P:ac_}{w:adB}{K:PySem.W.Frag}{mg:Str→Option acV}{base:adT}{x qual b1 eY:Str}{st:ad4}{N aO:List Str}{k:Nat}{m:bf}{C f:ac1}{fd:ad1}(fn:lb K x qual st f fd)(ip:gQ K b1 C)(ax:jz K C)(hm:Meth K C x f)(J:Binds K fd (eY::aO) [])(S:c2 N (eY::aO) (bW st))(h:∀(f:ac1)(bV:acV)(A:adp)(outer:List Env)(s:acW)(H:ag)(E:cT),dx k (A.deeper (ady qual (bW st) s.heap.objs.size f bV))→∀bD aR,gW (er fg P w K mg base N qual (bW st) f bV A outer s H E).gh (dc K bD aR) (fl st) m) :
  m6 P w K mg base b1 x aO.length (k+1) (dA N.length m):=by
 refine⟨C,f,fd,eY::aO,ip,ax,hm,fn.ok S yz fun bV A outer s H vs Q E ay aD=>?_,J⟩;obtain⟨G,bJ⟩:=wC aD;exact⟨_,(h f bV A outer s H E ay G H).1,bJ⟩
section
variable{X:aS}{F:bg}{e a b c:adq}{ah:List adq}{pos p:Pos}{m n:aN}{ma:aW}
noncomputable def pF:List D→R D
 |[.lst xs]=>.ok (.tup xs)
 |[.cu xs]=>.ok (.tup xs)
 |[.tup xs]=>.ok (.tup xs)
 |_=>.bad
theorem Uh(aY:F.K=X.K):l8 F (fun xs H Q=>∃p ys,xs=[.ref p]∧((bQ X.K H p ys∧∀l,H l=none→Q (.ref l) (upd H l (.tup ys)))∨(b_ X.K H p ys∧Q (.ref p) H))) pF:=by
 intro σ ρ G H xs ds Q r al k;unfold pF at k
 split at k
 ·obtain⟨v,rfl,bc⟩:=al.one;simp only[At]at bc;obtain⟨q,ys,rfl,aP,fz⟩:=bc;refine⟨q,ys,rfl,.inl ⟨bQ.of (r.az.sub _ _ aP),fun l av=>?_⟩⟩;refine k (.ref l) _ _ (r.lay av) (cG.lay r.az.sub av) ?_;simp only[At];exact⟨l,ys,rfl,dN,fz.mono (Sub.upd (r.az.sub.gone av))⟩
 ·obtain⟨v,rfl,bc⟩:=al.one;simp only[At]at bc;obtain⟨q,ys,rfl,aP,fz⟩:=bc;refine⟨q,ys,rfl,.inl ⟨by rw[←aY];exact bQ.mono r.az.sub aP,fun l av=>?_⟩⟩;refine k (.ref l) _ _ (r.lay av) (cG.lay r.az.sub av) ?_;simp only[At];exact⟨l,ys,rfl,dN,fz.mono (Sub.upd (r.az.sub.gone av))⟩
 ·obtain⟨v,rfl,bc⟩:=al.one;have Mz:=bc;simp only[At]at bc;obtain⟨q,ys,rfl,aP,fz⟩:=bc;exact⟨q,ys,rfl,.inr ⟨b_.of (r.az.sub _ _ aP),k _ H G r (cG.refl _ _) Mz⟩⟩
 ·exact k.elim
end
end bu
namespace eH
open PySem PyProof.Rows
section
variable{prog:ac_}{w:adB}{A:adp}{E:acV→acW→Prop}{s:acW}
theorem Na{t b:ac1}{ws:List acV}{Q:acV→acW→Prop}(bJ:IsTup s.heap t ([]:List acV).toArray)(J:IsTup s.heap b ws.toArray)(h:Q (.ref b) s):adi (adj prog w) A (aeM .Add (.ref t) (.ref b)) Q E s:=by
 obtain⟨⟨cls,dd,data,cB⟩,aH,ax,n,hd⟩:=id bJ;obtain⟨⟨Ng,rN,data2,pA⟩,lD,iF,dv,hd2⟩:=id J;simp only at ax hd iF hd2;subst ax hd iF hd2
 exact concat_meets ⟨_,aH,rfl⟩ ⟨_,lD,rfl⟩ agu seq_tuple_add PySem.F.slot_tuple_add PySem.F.entry_tuple_add (PySem.F.args_tuple_add_2 _ _)
  (tuple_addW0 t b ([]:List acV).toArray ws.toArray n dv dd rN cB pA (by simp)) ⟨aH,lD,h⟩
end
end eH
namespace a7
open PySem PySem.Spec PyProof.Rows
variable{X:aS}
noncomputable def JJ(K:PySem.W.Frag):eN:=fun x y H Q=>∃a b ys,x=.ref a∧y=.ref b∧b_ K H a []∧b_ K H b ys∧Q (.ref b) H
theorem Um:d2 X (aeM .Add) (JJ X.K):=by intro pins s σ H x y v u Q I bM ct h;obtain⟨a,b,ys,rfl,rfl,U,J,q⟩:=h;cases bM;cases ct;obtain⟨its,aq,dr,_⟩:=I.tuple U;cases aq;obtain⟨eC,bp,cj,_⟩:=I.tuple J;exact eH.Na dr cj ⟨.ref b,H,I,rfl,q⟩
end a7
namespace bu
open PySem PySem.Spec a7 PyProof.Rows
section
variable{X:aS}{F:bg}{e a b c:adq}{ah:List adq}{pos p:Pos}{m n:aN}{ma:aW}
noncomputable def rJ:D→D→R D
 |.tup xs,.tup ys=>if xs.length+ys.length≤1000000 then .ok (.tup (xs++ys))else .bad
 |_,_=>.bad
theorem T_(aY:F.K=X.K):gV F (fun x y H Q=>JI X.K x y H Q∨JJ X.K x y H Q) rJ:=by
 intro σ ρ G H x y bA fm Q r bZ cV k;unfold rJ at k
 split at k
 ·rename_i ds ah;have ti:=bZ;have MB:=cV;simp only[At]at bZ cV
  split at k
  ·rename_i av;obtain⟨p,xs,rfl,h1,bb⟩:=bZ;obtain⟨cj,ys,rfl,h2,bN⟩:=cV;by_cases aA:xs=[]
   ·subst aA;refine .inr ⟨p,cj,ys,rfl,rfl,b_.of (r.az.sub _ _ h1),b_.of (r.az.sub _ _ h2),?_⟩;have e:ds=[]:=afF (by rw[bb.length];rfl);subst e;exact k _ H G r (cG.refl _ _) MB
   ·refine .inl ⟨p,cj,xs,ys,rfl,rfl,b_.of (r.az.sub _ _ h1),b_.of (r.az.sub _ _ h2),aA,by rw[←bb.length,←bN.length];exact adt av (by decide),fun b8=>?_,fun _ l aU=>?_⟩
    ·subst b8;have e:ah=[]:=afF (by rw[bN.length];rfl);subst e;rw[adz]at k;exact k _ H G r (cG.refl _ _) ti
    ·refine k (.ref l) _ _ (r.lay aU) (cG.lay r.az.sub aU) ?_;simp only[At];exact⟨l,xs++ys,rfl,dN,(bb.append bN).mono (Sub.upd (r.az.sub.gone aU))⟩
  ·exact k.elim
 ·exact k.elim
instance(i j:Int):Decidable (IntMulOk i j):=by unfold IntMulOk;infer_instance
end
section
variable{X:aS}{F:bg}{e a b c:adq}{ah:List adq}{pos p:Pos}{m n:aN}{ma:aW}
noncomputable def IH(i:Nat)(m:aN):aW:=fun ρ=>(ownAt i ρ).bind fun ds=>(m ρ).bind fun d=>match d with
 |.lst ah=>if ds.length+ah.length≤1000000 then .ok (ds++ah)else .bad
 |_=>.bad
end
end bu
namespace bu
open PySem PySem.Spec a7
section
variable{X:aS}{F:bg}{e a b c o bU iter elt:adq}{ah:List adq}{pos p:Pos}{m n:aN}{ma:aW}{st:ad4}{oa:List ad4}
theorem lZ{b1 f:Str}{a8:List Str}(k:vQ X.K b1 a8)(he:bh X F o m)(hf:f∈a8:=by decide+kernel)(aY:F.K=X.K:=by rfl)(J:adJ o f X.env (adW o X.env)=adW o X.env:=by rfl):bh X F (.Attribute o f pos) (df (e5 b1 f) m):=⟨by
 have he:=he.1;refine a4.imp (UO he J) ?_;rintro σ H Q ⟨G,ρ,r,h⟩;unfold df at h;refine⟨G,ρ,r,?_⟩;cases aj:m ρ with
 |bad=>rw[aj]at h;exact h.elim
 |exc c=>rw[aj]at h;exact h
 |ok d=>
  rw[aj,R.bo]at h;intro x H1 aM aq s1 bZ;cases d with
  |ins e2 ns ds=>
   simp only[e5]at h
   split at h
   ·rename_i ax;subst ax
    split at h
    ·rename_i d' av;simp only[At]at bZ;obtain⟨q,bA,xs,rfl,⟨C,cp,g1⟩,rfl,al⟩:=bZ;obtain⟨v,bP,bc⟩:=Iq al av;obtain⟨l7,k1,k2,k3⟩:=k.ex;rw[aY]at cp;have:=cp.inj k1;subst this;exact⟨q,C,bA,xs,v,rfl,aq.az.sub _ _ g1,k2,k3 f hf,bP,h v H1 aM aq s1 bc⟩
    ·exact h.elim
   ·exact h.elim
  |_=>exact h.elim⟩
theorem y1 {b1 mt:Str} {n k:Nat} {mf:List D→R bT} {pl:Sem Bool} {apos:Pos} (c:m6 X.prog X.w X.K X.mg X.base b1 mt n k mf) (ay:dx k X.A) (he:bh X F o m) (U:eZ X F (e::ah) ma) (hQ:F.EX=fun _ _=>False:=by rfl) (aY:F.K=X.K:=by rfl) (iH:acX (e::ah) X.env=(false,adW e X.env)::acX ah X.env:=by rfl) (di:(adF pos (acX ah X.env)).any (·.1)=false:=by rfl) (bJ:adW (.Call (.Attribute o mt apos) (e::ah) [] pos) X.env=(do
   let dY ←adW o X.env
   agN apos.atName
   let(f,first) ←afB [dY] (aga dY mt pl)
   ahT pos f first (adF pos (acX (e::ah) X.env)) (aeq pos (adS [] X.env))):=by rfl):bh X F (.Call (.Attribute o mt apos) (e::ah) [] pos) (kN b1 mt n mf m ma):=⟨by
 have he:=he.1;have U:=U.1;obtain⟨C,f,fd,aO,cp,dO,e3,fT,J⟩:=c.ex;refine a4.imp (UU (pl:=pl) he dO e3 fT ay J .nil n0 U iH di bJ) ?_;rw[←aY];exact Qy hQ (by rw[aY];exact cp)⟩
theorem acR(aV:X.A.units+64<aeB)(U:bh X F a m)(J:bh X F b n)(h1:adI .In b=false:=by with_unfolding_all rfl):bh X F (.Compare a [.In] [b] pos) (aE (eU true) m n):=⟨have U:=U.1;have J:=J.1;a4.imp (Jp (Jl (by omega) U J) h1) HO⟩
theorem YC(aV:X.A.units+64<aeB)(U:bh X F a m)(J:bh X F b n)(h1:adI .NotIn b=false:=by with_unfolding_all rfl):bh X F (.Compare a [.NotIn] [b] pos) (aE (eU false) m n):=⟨have U:=U.1;have J:=J.1;a4.imp (Jp (Jm (by omega) U J) h1) HP⟩
theorem LS(aV:X.A.units+64<aeB)(U:bh X F a m)(J:bh X F b n)(h1:adI .In b=false:=by with_unfolding_all rfl):fj X F (.Compare a [.In] [b] pos) (bS (aE (eU true) m n)):=⟨by
 have U:=U.1;have J:=J.1;refine e_.imp (JF (Jl (by omega) U J) h1) fun σ H Q h=>?_;obtain⟨G,ρ,r,k⟩:=xm σ H Q h;exact HO σ H _ ⟨G,ρ,r,k⟩⟩
theorem Ex(aV:X.A.units+64<aeB)(U:bh X F a m)(J:bh X F b n)(h1:adI .NotIn b=false:=by with_unfolding_all rfl):fj X F (.Compare a [.NotIn] [b] pos) (bS (aE (eU false) m n)):=⟨by
 have U:=U.1;have J:=J.1;refine e_.imp (JF (Jm (by omega) U J) h1) fun σ H Q h=>?_;obtain⟨G,ρ,r,k⟩:=xm σ H Q h;exact HP σ H _ ⟨G,ρ,r,k⟩⟩
theorem LO(i:Nat){x:Str}{p q:Pos}(b7:X.N.Nodup)(ak:X.N[i]?=some x:=by rfl)(aA:Loc X.env.scope x:=by first|exact adN rfl|exact ads rfl)(hf:X.fn x=true∨X.env.scope.names.lookup x=some .local:=by first|exact .inl rfl|exact .inr rfl):dU X F (.Assign [.Name x p] (.Dict [] [] q) pos) (sh i):=⟨by
 refine cS.imp (pk b7 ak aA UN (iR _ _ _ _ rfl) hf) ?_;rintro b2 σ H ⟨G,ρ,r,h⟩;unfold sh at h;intro a U
 split at h
 ·rename_i av;refine h _ G _ ((r.lay0 U).setB av dN (r.az.sub.gone U) (r.az.bw.gone U) ⟨[],rfl,rfl,.nil⟩ fun j ah o _ ae au f=>b3.fresh r (Sub.upd U) U ⟨j,ah,o,ae,au,f⟩) (Sub.refl _)
 ·exact h.elim⟩
theorem y5(i:Nat){x:Str}{bC pos':Pos}{k v:adq}{mk mv:aN}(aV:X.A.units+64<aeB)(aK:bh X F k mk)(bP:bh X F v mv)(b7:X.N[i]?=some x:=by rfl)(PO:fL X.env.scope x:=by first|exact adN rfl|exact ads (adN rfl)|exact ads (ads rfl))(hd:(x==("__debug__" :Str))=false:=by decide)(dy:(x==("__classdict__" :Str))=false:=by decide)(aD:lP v=true:=by rfl):dU X F (.Assign [.Subscript (.Name x bC) k pos'] v pos) (mG i mk mv):=⟨by
 have aK:=aK.1;have bP:=bP.1;refine cS.imp (Vj (by omega) (fY b7 PO hd dy) aK bP (iR _ _ _ _ aD)) ?_;rintro b2 σ H ⟨G,ρ,r,h⟩;unfold mG at h;refine⟨G,ρ,r,?_⟩;cases aj:mv ρ with
 |bad=>rw[aj]at h;exact h.elim
 |exc c=>rw[aj]at h;exact h
 |ok ZV=>
  rw[aj,R.bo]at h;intro v H1 aM aq s1 bc
  split at h
  ·rename_i ks ds cb;obtain⟨q,aH,ae,_⟩:=aq.obj cb;refine⟨.ref q,ae,aM,ρ,aq,?_⟩;cases bx:mk ρ with
   |bad=>rw[bx]at h;exact h.elim
   |exc c=>rw[bx]at h;exact h
   |ok oH=>
    rw[bx,R.bo]at h;intro y aX ck bp s2 cV;obtain⟨dS,fW,eJ,h1,h2,h3,xs,rfl,rfl,al⟩:=bp.obj cb;rw[ae]at eJ;cases eJ
    split at h
    ·rename_i cA d4;unfold putD at h
     split at h
     ·rename_i ax;obtain⟨tO,iF⟩:=ax;obtain⟨MD,rfl,Be⟩:=xA d4 cV;have aU:hb xs cA=none:=by
       have:=D8 cA xs;rw[tO]at this;exact Option.not_isSome_iff_eq_none.mp (by rw[this];exact adw)
      refine⟨q,_,rfl,sT.t h1 (bp.az.sub _ _ Be) (aei (by simpa using iF) (by decide)),?_⟩;rw[Vs _ aU];refine h σ ck _ (bp.B8 cb ae ⟨xs++[(cA,v)],rfl,by simp,?_⟩) (s1.g.trans s2.g);rw[aeU];exact al.snoc (bc.mono s2.g)
     ·exact h.elim
    ·exact h.elim
  ·exact h.elim⟩
theorem ri(h:bh X F e m):dU X F (.Return (some e) pos) (jd m):=⟨by
 have h:=h.1;refine cS.imp (lT h) ?_;rintro b2 σ H ⟨G,ρ,r,h⟩;unfold jd at h;refine⟨_,_,r.plus,?_⟩;cases aj:m (d5 ρ)with
 |bad=>rw[aj]at h;exact h.elim
 |exc c=>rw[aj]at h;exact h
 |ok d=>rw[aj,R.bo]at h;exact fun v H' G' a9 s' a=>h v G' H' a9.az a⟩
theorem LJ{st:ad4}:dU X F st oZ:=⟨cS.imp JE fun b2 σ H⟨G,ρ,r,h⟩=>h.elim⟩
theorem Yw(h:bh X F e m):bh X F e (qC m):=⟨have h:=h.1;a4.imp h P2⟩
theorem YH{b1:Str}{n k:Nat}{mf:List D→R (List Str×List D)}(c:zB X.prog X.w X.K X.mg X.base b1 n k mf)(ay:dx (k+1) X.A)(U:eZ X F (e::ah) ma)(aY:F.K=X.K:=by rfl)(aI:dF X b1:=by rfl)(e0:(b1==("__debug__" :Str))=false:=by decide)(he:acX (e::ah) X.env=(false,adW e X.env)::acX ah X.env:=by rfl)(di:(adF pos (acX ah X.env)).any (·.1)=false:=by rfl):bh X F (.Call (.Name b1 p) (e::ah) [] pos) (uw b1 n mf ma):=⟨by
 have U:=U.1;obtain⟨C,f,fd,aO,cp,dO,fT,hm,J⟩:=c.ex;refine a4.imp (UT dO fT ay aI hm J .nil n0 U e0 he di) ?_;rw[←aY];exact Qx (by rw[aY];exact cp)⟩
theorem LB(hm:X.mg "tuple"=none)(U:eZ X F [e] ma)(aY:F.K=X.K:=by rfl)(aI:dF X "tuple":=by rfl)(he:acX [e] X.env=(false,adW e X.env)::acX [] X.env:=by rfl)(di:(adF pos (acX [] X.env)).any (·.1)=false:=by rfl):bh X F (.Call (.Name "tuple" p) [e] [] pos) (cW pF ma):=⟨have U:=U.1;wM M5 (Uh aY) hm (by kernel_rfl) U aI (by decide) (by decide) he di⟩
theorem Yz(U:bh X F a m)(J:bh X F b n)(aY:F.K=X.K:=by rfl):bh X F (.BinOp a .Add b pos) (aE rJ m n):=⟨have U:=U.1;have J:=J.1;qd (Ul.or Um) (T_ aY) U J⟩
structure wd(X:aS)(F:bg)(st:ad4)(m:e1):Prop where
 o:cS X st (oc F m)
structure wc(X:aS)(F:bg)(st:List ad4)(m:e1):Prop where
 o:fi X st (oc F m)
theorem Y2{m:e1}(h:wd X F st m):wc X F [st] m:=⟨vc h.1⟩
theorem vJ{a b:e1}(h:wd X F st a)(k:wc X F oa b):wc X F (st::oa) (je a b):=⟨fi.imp (qW h.1 k.1) QT⟩
theorem LG{c:adq}{r:ad4}{k:cL}(h:fj X F c k):wd X F (.If c [r] [] pos) (o3 k):=⟨cS.imp (Cv h.1 (vc JE) Cw) Qp⟩
theorem y3{b1 f x:Str}{a8:List Str}{bC pos':Pos}(k:vQ X.K b1 a8)(he:bh X F e m)(hf:f∈a8:=by decide+kernel)(b7:X.N[0]?=some x:=by rfl)(bP:fL X.env.scope x:=by first|exact adN rfl|exact ads (adN rfl)|exact ads (ads rfl))(hd:(x==("__debug__" :Str))=false:=by decide)(dy:(x==("__classdict__" :Str))=false:=by decide)(aD:lP e=true:=by rfl)(aY:F.K=X.K:=by rfl) :
  wd X F (.Assign [.Attribute (.Name x bC) f pos'] e pos) (kg b1 f m):=⟨bu.Wc k he.1 hf b7 bP hd dy aD aY⟩
end
structure pV(K:PySem.W.Frag)(b1 x qual:Str)(st:ad4)(aO:List Str):Prop where
 ex:∃(C f:ac1)(fd:ad1),gQ K b1 C∧jz K C∧Meth K C x f∧lb K x qual st f fd∧Binds K fd aO []
structure InK(K:PySem.W.Frag)(mg:Str→Option acV)(b1 qual:Str)(st:ad4)(aO:List Str):Prop where
 ex:∃(C f:ac1)(fd:ad1),gQ K b1 C∧v3 K C f∧lb K "__init__" qual st f fd∧mg b1=some (.ref C)∧Binds K fd aO []
theorem vI{P:ac_}{w:adB}{K:PySem.W.Frag}{mg:Str→Option acV}{base:adT}{x qual b1 eY:Str}{st:ad4}{N aO:List Str}{k:Nat}{m:bf}(d:pV K b1 x qual st (eY::aO))(S:c2 N (eY::aO) (bW st))(h:∀(f:ac1)(bV:acV)(A:adp)(outer:List Env)(s:acW)(H:ag)(E:cT),dx k (A.deeper (ady qual (bW st) s.heap.objs.size f bV))→∀bD aR,gW (er fg P w K mg base N qual (bW st) f bV A outer s H E).gh (dc K bD aR) (fl st) m) :
  m6 P w K mg base b1 x aO.length (k+1) (dA N.length m):=by
 obtain⟨C,f,fd,h1,h2,h3,h4,h5⟩:=d.ex;exact S3 h4 h1 h2 h3 h5 S h
theorem YT{P:ac_}{w:adB}{K:PySem.W.Frag}{mg:Str→Option acV}{base:adT}{qual b1 eY:Str}{st:ad4}{aO:List Str}{k:Nat}{m:e1}(d:InK K mg b1 qual st (eY::aO))(S:c2 (eY::aO) (eY::aO) (bW st))(h:∀(f:ac1)(bV:acV)(A:adp)(outer:List Env)(s:acW)(H:ag)(E:cT),dx k (A.deeper (ady qual (bW st) s.heap.objs.size f bV))→∀bD aR,wc (er fg P w K mg base (eY::aO) qual (bW st) f bV A outer s H E).gh (dc K bD aR) (fl st) m) :
  zB P w K mg base b1 aO.length (k+1) (fun ah=>outI b1 (m (ka b1 ah))):=by
 obtain⟨C,f,fd,h1,h2,h3,h4,h5⟩:=d.ex;exact⟨C,f,fd,eY::aO,h1,h2,QD h3 S fun f bV A outer s H E ay bD aR=>(h f bV A outer s H E ay bD aR).1,h4,h5⟩
end bu
namespace bu
open PySem PySem.Spec a7 PyProof.Rows
section
variable{K:PySem.W.Frag}{G G' H H':ag}
theorem cw.nil:cw K G H [] []:=by simp only[cw]
theorem cw.cons{t:T}{aL:List T}{v:V}{vs:List V}(h:cE K G H t v)(k:cw K G H aL vs):cw K G H (t::aL) (v::vs):=by simp only[cw];exact⟨v,vs,rfl,h,k⟩
theorem cw.length:∀{aL:List T}{vs:List V},cw K G H aL vs→aL.length=vs.length
 |[],_,h=>by simp only[cw]at h;subst h;rfl
 |_::_,_,h=>by simp only[cw]at h;obtain⟨v,r,rfl,_,t⟩:=h;simp[cw.length t]
theorem pE:∀{aL:List T}{vs:List V}{i:Nat}{t:T},cw K G H aL vs→aL[i]?=some t→∃v,vs[i]?=some v∧cE K G H t v
 |[],_,_,_,_,e=>by simp at e
 |_::_,_,0,_,h,e=>by simp only[cw]at h;obtain⟨v,r,rfl,q,t⟩:=h;simp at e;subst e;exact⟨v,by simp,q⟩
 |_::_,_,i+1,d,h,e=>by simp only[cw]at h;obtain⟨v,r,rfl,q,t⟩:=h;obtain⟨u,h1,h2⟩:=pE (i:=i) (t:=d) t (by simpa using e);exact⟨u,by simpa using h1,h2⟩
theorem cw.append:∀{aL us:List T}{vs ws:List V},cw K G H aL vs→cw K G H us ws→cw K G H (aL++us) (vs++ws)∧c0 H (aL++us) (vs++ws)=c0 H aL vs++c0 H us ws
 |[],_,_,_,h,t=>by simp only[cw]at h;subst h;exact⟨t,by rw[mu];rfl⟩
 |_::_,_,_,_,h,t=>by simp only[cw]at h;obtain⟨v,r,rfl,q,s⟩:=h;obtain⟨h1,h2⟩:=cw.append s t;exact⟨.cons q h1,by rw[List.cons_append,List.cons_append,hk,hk,h2,afr]⟩
theorem KZ:∀{ds:List D}{xs:List V},aT K G ds xs→cw K G H (ds.map T.ao) xs∧c0 H (ds.map T.ao) xs=[]
 |[],_,h=>by simp only[aT]at h;subst h;exact⟨.nil,mu⟩
 |_::_,_,h=>by simp only[aT]at h;obtain⟨v,r,rfl,q,t⟩:=h;obtain⟨h1,h2⟩:=KZ t;exact⟨.cons (by simp only[cE];exact q) h1,by rw[ac8,hk,h2];simp only[aQ,adz]⟩
theorem rR:∀{aL:List T}{xs:List V}{k:Nat}{t:T}{v:V}{b:ac1},aL[k]?=some t→xs[k]?=some v→b∈aQ H t v→b∈c0 H aL xs
 |[],_,_,_,_,_,e,_,_=>by simp at e
 |_::_,[],_,_,_,_,_,e,_=>by simp at e
 |_::_,_::_,0,_,_,_,ae,au,h=>by simp at ae au;subst ae au;rw[hk];exact aeg _ h
 |_::_,_::_,k+1,_,_,_,ae,au,h=>by rw[hk];exact adu _ (rR (by simpa using ae) (by simpa using au) h)
theorem yO{us us':List T}{q:ac1}{ys ys':List V}(aP:H q=some (.lst ys))(n:cw K G H us' ys')(f:c0 H us' ys'=c0 H us ys):∀{aL:List T}{xs:List V}{k:Nat},cw K G H aL xs→(c0 H aL xs).Nodup→aL[k]?=some (.lst us)→xs[k]?=some (.ref q)→
  cw K G (upd H q (.lst ys')) (aL.set k (.lst us')) xs∧c0 (upd H q (.lst ys')) (aL.set k (.lst us')) xs=c0 H aL xs
 |[],_,_,_,_,e,_=>by simp at e
 |t::aL,_,k,h,bI,ae,au=>by
  simp only[cw]at h;obtain⟨v,r,rfl,h1,h2⟩:=h;rw[hk]at bI ⊢;obtain⟨sA,uX,B_⟩:=List.nodup_append.mp bI;cases k with
  |zero=>
   simp at ae au;subst ae au;have dH:aQ H (.lst us) (.ref q)=q::c0 H us ys:=fU aP;rw[dH]at sA B_ ⊢;have dP:q∉c0 H us ys:=(List.nodup_cons.mp sA).1;have dv:q∉c0 H aL r:=fun z=>B_ q (by simp) q z rfl;obtain⟨dq,dj⟩:=n.keep (H':=upd H q (.lst ys')) fun b J=>c8 fun z=>dP (by rw[←z,←f];exact J);obtain⟨dZ,k8⟩:=h2.keep (H':=upd H q (.lst ys')) fun b J=>c8 fun z=>dv (by rw[←z];exact J);refine⟨.cons ?_ dZ,?_⟩
   ·simp only[cE];exact⟨q,ys',rfl,dN,dq⟩
   ·rw[af5,hk,fU dN,dj,k8,f]
  |succ k=>simp only[ad5]at ae au;have mI:q∈c0 H aL r:=rR ae au (by rw[fU aP];simp);have dP:q∉aQ H t v:=fun z=>B_ q z q mI rfl;obtain⟨dq,dj⟩:=h1.RN (o:=.lst ys') dP;obtain⟨dZ,k8⟩:=yO aP n f h2 uX ae au;exact⟨.cons dq dZ,by rw[List.set_cons_succ,hk,dj,k8]⟩
end
section
variable{F:bg}{G H:ag}{σ :a7.St}{ρ:ai}
theorem Rel.Tq(r:Rel F G H σ ρ){i k:Nat}{aL us us':List T}{a q:ac1}{xs ys ys':List V}(e:ρ[i]?=some (.cy (.lst aL)))(ae: σ[i]?=some (some (.ref a)))(U:H a=some (.lst xs))(d4:aL[k]?=some (.lst us))(ex:xs[k]?=some (.ref q))(aP:H q=some (.lst ys))(n:cw F.K G H us' ys')(f:c0 H us' ys'=c0 H us ys):Rel F G (upd H q (.lst ys')) σ (ρ.set i (.cy (.lst (aL.set k (.lst us'))))):=by
 obtain⟨v,au,dq,dj,dZ⟩:=r.tree e;rw[ae]at au;cases au;simp only[cE]at dq;obtain⟨ij,dW,aj,fV,wl⟩:=dq;cases aj;rw[U]at fV;cases fV;have dH:aQ H (.lst aL) (.ref a)=a::c0 H aL xs:=fU U;rw[dH]at dj dZ;obtain⟨sA,uX⟩:=List.nodup_cons.mp dj;have mI:q∈c0 H aL xs:=rR d4 ex (by rw[fU aP];simp);have na:a≠q:=fun z=>sA (by rw[z];exact mI);obtain⟨dr,cj⟩:=yO aP n f wl uX d4 ex;have oN:upd H q (.lst ys') a=some (.lst xs):=by rw[c8 na];exact U
 have lz:aQ (upd H q (.lst ys')) (.lst (aL.set k (.lst us'))) (.ref a)=a::c0 H aL xs:=by rw[fU oN,cj]
 refine r.B9 e ae (a:=q) ⟨.ref a,rfl,by rw[dH];exact ac7 _ mI⟩ ⟨.ref a,rfl,⟨?_,?_,?_⟩⟩ fun b eW=>.inl ?_
 ·simp only[cE];exact⟨a,xs,rfl,oN,dr⟩
 ·rw[lz];exact dj
 ·rw[lz];exact dZ
 ·obtain⟨u,eL,J⟩:=eW;cases eL;rw[lz,←dH]at J;exact⟨.ref a,rfl,J⟩
end
structure rv(X:aS)(F:bg)(e:adq)(m:gU):Prop where
 o:a4 X e (jQ F m)
section
variable{X:aS}{F:bg}{e a b c bU iter elt:adq}{ah:List adq}{pos p:Pos}{m n:aN}{ma:aW}
theorem Y0{x:Str}{n k:Nat}{mf:List D→R bT}(c:ei X.prog X.w X.K X.mg X.base x n k mf)(ay:dx k X.A)(U:eZ X F (e::ah) ma)(hQ:F.EX=fun _ _=>False:=by rfl)(aY:F.K=X.K:=by rfl)(aI:dF X x:=by rfl)(e0:(x==("__debug__" :Str))=false:=by decide)(he:acX (e::ah) X.env=(false,adW e X.env)::acX ah X.env:=by rfl)(di:(adF pos (acX ah X.env)).any (·.1)=false:=by rfl):rv X F (.Call (.Name x p) (e::ah) [] pos) (uh n mf ma):=by obtain⟨f,fd,aO,aU,fT,hm,aK,J⟩:=c.ex;refine⟨a4.imp (n2 fT ay aI hm aK J .nil n0 U.1 e0 he di) ?_⟩;rw[←aY];exact P_ (xe:=fun _ _ _=>False) (E:=vR) hQ
theorem Zi(i:Nat){x:Str}{p:Pos}{m:gU}(b7:X.N.Nodup)(he:rv X F e m)(ak:X.N[i]?=some x:=by rfl)(aA:Loc X.env.scope x:=by first|exact adN rfl|exact ads rfl)(aD:lP e=true:=by rfl)(hf:X.fn x=true∨X.env.scope.names.lookup x=some .local:=by first|exact .inl rfl|exact .inr rfl):dU X F (.Assign [.Name x p] e pos) (lM i m):=⟨cS.imp (pk b7 ak aA he.1 (iR _ _ _ _ aD) hf) BE⟩
theorem Ze{m:gU}(h:rv X F e m):dU X F (.Return (some e) pos) (mH m):=⟨cS.imp (lT h.1) QL⟩
theorem Zf(i:Nat){x:Str}{p:Pos}(b7:X.N[i]?=some x:=by rfl)(bP:fL X.env.scope x:=by first|exact adN rfl|exact ads (adN rfl)|exact ads (ads rfl))(hd:(x==("__debug__" :Str))=false:=by decide)(dy:(x==("__classdict__" :Str))=false:=by decide) :
  dU X F (.Return (some (.Name x p)) pos) (mH (si i)):=⟨cS.imp (lT (fY b7 bP hd dy)) (QN i)⟩
def ko(i:Nat)(ρ:ai):R (List T):=match ρ[i]? with
 |some (.cy (.lst aL))=>.ok aL
 |_=>.bad
theorem K1{i:Nat}{ρ:ai}{aL:List T}(h:ko i ρ=.ok aL):ρ[i]?=some (.cy (.lst aL)):=by
 unfold ko at h
 split at h
 ·rename_i e;cases h;exact e
 ·cases h
theorem K0{i:Nat}{ρ:ai}{c:Str}(h:ko i ρ=.exc c):False:=by
 unfold ko at h
 split at h<;>cases h
theorem Rel.root{G H:ag}{σ :a7.St}{ρ:ai}(r:Rel F G H σ ρ){i:Nat}{aL:List T}(e:ρ[i]?=some (.cy (.lst aL))):∃a xs,σ[i]?=some (some (.ref a))∧H a=some (.lst xs)∧cw F.K G H aL xs∧(c0 H aL xs).Nodup:=by obtain⟨v,au,dq,dj,dZ⟩:=r.tree e;simp only[cE]at dq;obtain⟨a,xs,rfl,U,wl⟩:=dq;rw[fU U]at dj;exact⟨a,xs,au,U,wl,(List.nodup_cons.mp dj).2⟩
end
end bu
namespace bu
open PySem PySem.Spec a7
def hU(ds:List D):T:=.lst (ds.map T.ao)
noncomputable def kB(set:D→ai→R ai)(tst:cL)(elt:aW):List D→ai→List T→R (List T)
 |[],_,ws=>.ok ws
 |d::ds,ρ,ws=>(set d ρ).bind fun ρ1=>(tst ρ1).bind fun b=>if b=true then(elt ρ1).bind fun y=>if ws.length<1000000 then kB set tst elt ds ρ1 (ws++[hU y])else .bad else kB set tst elt ds ρ1 ws
noncomputable def iK(nl:Nat)(caps:List Nat)(mi:aW)(set:D→ai→R ai)(tst:cL)(elt:aW):gU:=fun ρ=>(mi ρ).bind fun ds=>(eF (kB set tst elt ds (j1 nl caps ρ) [])).bind fun aL=>.ok (.lst aL)
def Ef(K:PySem.W.Frag)(m:aW):TE:=fun σ H Q=>∃bD aR,jr (dc K bD aR) m σ H Q
section
variable{F:bg}
theorem Qd{nl:Nat}{caps:List Nat}{mi:aW}{set:D→ai→R ai}{tst:cL}{elt:aW}{g:ht}(aI:∀G H,mc (dc F.K G H) g set)(aA:∀d ρ c,set d ρ≠.exc c)(aK:Keeps set) :
  dQ (jQ F (iK nl caps mi set tst elt)) (q4 (jq F mi) g (sP F.K tst) (Ef F.K elt) nl caps):=by
 rintro σ H Q ⟨G,ρ,r,h⟩;unfold iK at h;refine⟨G,ρ,r,?_⟩;cases aj:mi ρ with
 |bad=>rw[aj]at h;exact h.elim
 |exc c=>rw[aj]at h;exact h
 |ok ds=>
  rw[aj,R.bo]at h;intro cC H1 aM aq ix it acc U;cases cb:kB set tst elt ds (j1 nl caps ρ) []with
  |bad=>rw[cb]at h;exact h.elim
  |exc c=>rw[cb]at h;exact h.elim
  |ok res=>
   rw[cb]at h
   refine⟨fun i m σ2 aX=>m=ds.length-i∧i≤ds.length∧∃ck c5 ys ws,Rel (dc F.K aM H1) ck aX σ2 c5∧m9 c5∧aX acc=some (.lst ys)∧ck acc=none∧cw F.K ck aX ws ys∧(c0 aX ws ys).Nodup∧(∀b∈c0 aX ws ys,b≠acc∧ck b=none∧H1 b=none)∧kB set tst elt (ds.drop i) c5 ws=.ok res,
    ⟨ds.length,by simp,aee _,aM,_,[],[],JT aq U nl caps,Cc _ _ _,dN,aq.az.sub.gone U,.nil,by simp[mu],by simp[mu],by simpa using cb⟩,?_⟩
   rintro i m σ2 aX ⟨rfl,ak,ck,c5,ys,ws,bp,dv,h1,h2,h3,h5,h6,h4⟩;have bt:Sub aM ck:=bp.az.dh;by_cases ed:i<ds.length
   ·refine .inr ⟨it.go i aX (bt.trans bp.az.sub) ed,fun x cK y=>?_⟩;obtain⟨d,dJ,bE,dt,ha,d3⟩:=iY.turn (F:=dc F.K aM H1) it bp bt ed y;have e4:ds.drop i=d::ds.drop (i+1):=by
     rw[ad9 ed];have:=acT ed;rw[bE]at this;rw[ac0 this]
    rw[e4]at h4;simp only[kB]at h4;have mv:∀{vU f5 vV sW:ag},cG vU f5 vV sW→cw F.K vU f5 ws ys→c0 f5 ws ys=c0 aX ws ys→(∀b∈c0 aX ws ys,vU b=none)→cw F.K vV sW ws ys∧c0 sW ws ys=c0 aX ws ys∧(∀b∈c0 aX ws ys,vV b=none):=fun{vU f5 vV sW} u q e n=>by
     obtain⟨dq,dj⟩:=q.keep (H':=sW) fun b J=>by
      cases bx:f5 b with
      |none=>exact absurd bx (q.some b J)
      |some o=>exact u.h b o bx
     refine⟨dq.mono u.g,dj.trans e,fun b J=>?_⟩;rw[u.n b (q.some b (by rw[e];exact J))];exact n b J
    obtain⟨d6,fO,kL⟩:=mv ha h3 rfl fun b J=>(h6 b J).2.1;cases c3:set d c5 with
    |bad=>rw[c3]at h4;cases h4
    |exc c=>exact absurd c3 (aA d c5 c)
    |ok e8=>
     rw[c3,R.bo]at h4;refine aI aM H1 σ2 c5 dJ cK x d _ e8 dt d3 c3 fun σ5 gi=>⟨aM,H1,dJ,e8,gi,?_⟩;have mJ:m9 e8:=aK d c5 e8 c3 dv;have tf:cK acc=some (.lst ys):=ha.h _ _ h1;have g3:dJ acc=none:=by rw[ha.n acc (by rw[h1];exact fun z=>nomatch z)];exact h2
     cases gZ:tst e8 with
     |bad=>rw[gZ]at h4;cases h4
     |exc c=>rw[gZ]at h4;cases h4
     |ok b=>
      rw[gZ,R.bo]at h4;intro lg kv kU q9;have oy:lg acc=some (.lst ys):=q9.h _ _ tf;have mx:kv acc=none:=by rw[q9.n acc (by rw[tf];exact fun z=>nomatch z)];exact g3
      obtain⟨n3,wV,IE⟩:=mv q9 d6 fO kL;cases b with
      |false=>rw[if_neg adw]at h4;rw[if_neg adw];exact⟨_,by omega,rfl,ed,kv,e8,ys,ws,kU,mJ,oy,mx,n3,by rw[wV];exact h5,by rw[wV];exact fun b J=>⟨(h6 b J).1,IE b J,(h6 b J).2.2⟩,h4⟩
      |true=>
       rw[if_pos rfl]at h4;rw[if_pos rfl];refine⟨aM,H1,kv,e8,kU,?_⟩;cases qc:elt e8 with
       |bad=>rw[qc]at h4;cases h4
       |exc c=>rw[qc]at h4;cases h4
       |ok y=>
        rw[qc,R.bo]at h4;intro a xs lh oo jO u8 a1 a2 d3 gH;have zL:lh acc=some (.lst ys):=u8.h _ _ oy;have tI:oo acc=none:=by rw[u8.n acc (by rw[oy];exact fun z=>nomatch z)];exact mx
        obtain⟨pn,f8,SX⟩:=mv u8 n3 wV IE;by_cases av:ws.length<1000000
        ·rw[if_pos av]at h4;have nY:a≠acc:=fun z=>by rw[z,oy]at a1;cases a1
         have na:a∉c0 aX ws ys:=fun z=>(n3.some a (by rw[wV];exact z)) a1;have hK:H1 a=none:=kU.az.bw.gone a1;obtain⟨bl,a_⟩:=KZ (K:=F.K) (G:=oo) (H:=lh) gH;have gF:cE F.K oo lh (hU y) (.ref a):=by unfold hU;simp only[cE];exact⟨a,xs,rfl,a2,bl⟩
         have fn:aQ lh (hU y) (.ref a)=[a]:=by unfold hU;rw[fU a2,a_]
         obtain⟨dr,cj⟩:=pn.append (.cons gF .nil);have qT:c0 lh [hU y] [V.ref a]=[a]:=by rw[hk,fn,mu];rfl
         rw[qT,f8]at cj;have TV:acc∉c0 lh (ws++[hU y]) (ys++[.ref a]):=by
          rw[cj];intro z;rcases List.mem_append.mp z with z|z
          ·exact(h6 acc z).1 rfl
          ·exact nY (List.mem_singleton.mp z).symm
         obtain⟨dq,dj⟩:=dr.keep (H':=upd lh acc (.lst (ys++[.ref a]))) fun b J=>c8 fun z=>TV (by rw[←z];exact J);rw[cj]at dj;refine⟨ys,zL,by rw[←pn.length];exact aei av (by decide),_,by omega,rfl,ed,oo,e8,ys++[.ref a],ws++[hU y],?_,mJ,dN,tI,dq,?_,?_,h4⟩
         ·have k0:(dc F.K aM H1).aR acc=none:=U;refine jO.over rfl ⟨Sub.pG jO.az.sub tI,jO.az.dh,fun c o z=>?_,jO.az.new⟩ (Sub.refl _) fun b⟨j,s,o,d8,_,f⟩=>absurd f (u_ (mJ j s d8) o b);rw[c8 (iO z k0)];exact jO.az.bw c o z
         ·rw[dj];refine List.nodup_append.mpr ⟨h5,by simp,fun x aA y b8 z=>?_⟩;have:=List.mem_singleton.mp b8;exact na (by rw[←this,←z];exact aA)
         ·rw[dj];intro b J;rcases List.mem_append.mp J with J|J
          ·exact⟨(h6 b J).1,SX b J,(h6 b J).2.2⟩
          ·have:=List.mem_singleton.mp J;subst this;exact⟨nY,d3,hK⟩
        ·rw[if_neg av]at h4;cases h4
   ·have e:ds.drop i=[]:=aen (by omega);rw[e]at h4;simp only[kB]at h4;cases h4;have fo:i=ds.length:=by omega
    subst fo;refine .inl ⟨it.stop aX (bt.trans bp.az.sub),?_⟩;have k:d9 ⟨F.K,aM,H1,fun _ _=>False,gC⟩ ck aX:=bp.az;have dH:aQ aX (.lst res) (.ref acc)=acc::c0 aX res ys:=fU h1;refine h (.ref acc) aX ck (d9.of aq k) (ix.trans ⟨k.dh,k.bw,k.new⟩) ⟨?_,?_,?_⟩ ?_
    ·simp only[cE];exact⟨acc,ys,rfl,h1,h3⟩
    ·rw[dH];exact List.nodup_cons.mpr ⟨fun z=>(h6 acc z).1 rfl,h5⟩
    ·rw[dH];intro b J;rcases List.mem_cons.mp J with rfl|J
     ·exact⟨h2,aq.az.bw.gone U⟩
     ·exact⟨(h6 b J).2.1,aq.az.bw.gone (h6 b J).2.2⟩
    ·rw[dH];intro b J;rcases List.mem_cons.mp J with rfl|J
     ·exact ix.h.gone U
     ·exact ix.h.gone (h6 b J).2.2
end
section
variable{X:aS}{F:bg}{e a b c bU iter elt:adq}{ah:List adq}{pos p:Pos}{m n:aN}{ma:aW}{scope:aew}{N:List Str}
abbrev zm(X:aS)(scope:aew)(N:List Str)(e:adq)(m:aW):Prop:=∀cl C s H aQ bD aR,jA (eI X scope N cl C s H aQ) (dc X.K bD aR) e m
theorem FH{ifs:List adq}{nl:Nat}{caps:List Nat}{mi:aW}{set:D→ai→R ai}{mt:cL}{me:aW}(aY:F.K=X.K)(aI:pN X scope N bU set)(bJ:l6 X scope N ifs mt)(he:zm X scope N elt me){Q:TE→Prop}(k:∀g,(∀cl C s H aQ,iZ (eI X scope N cl C s H aQ) bU g)→(∀cl C s H aQ,nf (eI X scope N cl C s H aQ) ifs (sP X.K mt))→(∀cl C s H aQ,a4 (eI X scope N cl C s H aQ) elt (Ef X.K me))→dQ (jQ F (iK nl caps mi set mt me)) (q4 (jq F mi) g (sP X.K mt) (Ef X.K me) nl caps)→Q (jQ F (iK nl caps mi set mt me))):Q (jQ F (iK nl caps mi set mt me)):=by
 obtain⟨⟨g,g1,g2⟩,aA,aK⟩:=aI;refine k g g1 (fun cl C s H aQ pins s' σ H' ig I h=>?_) (fun cl C s H aQ pins s' σ H' ig I h=>?_) ?_
 ·obtain⟨bD,aR,h⟩:=h;exact bJ cl C s H aQ bD aR pins s' σ H' ig I h
 ·obtain⟨bD,aR,h⟩:=h;exact(he cl C s H aQ bD aR).1 pins s' σ H' ig I h
 ·have z:=Qd (F:=F) (nl:=nl) (caps:=caps) (mi:=mi) (tst:=mt) (elt:=me) (g:=g) (set:=set) (fun bD aR=>by rw[aY];exact g2 bD aR) aA aK;rw[aY]at z;exact z
theorem LK(i:Nat)(nl:Nat)(caps:List Nat){y:Str}{py:Pos}{ifs:List adq}{mi:aW}{set:D→ai→R ai}{mt:cL}{me:aW}{b6:Pos}(b7:X.N.Nodup)(S:oE X.env.scope X.N scope N nl caps=true)(ak:kz X F bU iter mi)(aI:pN X scope N bU set)(bJ:l6 X scope N ifs mt)(he:zm X scope N elt me)(b8:X.N[i]?=some y:=by rfl)(av:X.env.kindOf y=some .local:=by rfl)(tV:afu (.ListComp elt [⟨bU,iter,ifs,0⟩] scope b6) (some (.Name y py)) pos.line X.env=pure true:=by rfl)(ax:X.calm=true:=by rfl)(aY:F.K=X.K:=by rfl)(aD:∀x,adM iter X.env x=pure x:=by intro _;rfl) :
  dU X F (.Assign [.Name y py] (.ListComp elt [⟨bU,iter,ifs,0⟩] scope b6) pos) (lM i (iK nl caps mi set mt me)):=by
 refine⟨cS.imp (t:=jP (jQ F (iK nl caps mi set mt me)) (g4 i)) ?_ BE⟩;refine FH (nl:=nl) (caps:=caps) (mi:=mi) (Q:=fun t=>cS X (.Assign [.Name y py] (.ListComp elt [⟨bU,iter,ifs,0⟩] scope b6) pos) (jP t (g4 i))) aY aI bJ he fun g g1 t1 ae imp=>?_;exact cS.imp (JC (.of S) ax b7 b8 av ak.1 g1 t1 ae tV aD) fun b2 σ H h=>imp σ H _ h
end
noncomputable def lY(c:cL)(b:bf):Nat→ai→R ez
 |0,_=>.bad
 |n+1,ρ=>(c ρ).bind fun k=>if k=true then(b ρ).bind fun f=>match f with
  |.bL ρ'=>lY c b n ρ'
  |.c7 ρ'=>lY c b n ρ'
  |.fk ρ'=>.ok (.bL ρ')
  |f=>.ok f
  else .ok (.bL ρ)
def o7(c:cL)(b:bf):bf:=lY c b 1000
section
variable{F:bg}
theorem QZ{c:cL}{b:bf}:gs (eG F (o7 c b)) (KW (gE F c) (eG F b)):=by
 rintro b2 σ H ⟨G,ρ,r,h⟩;refine⟨fun m σ2 aX=>∃ck c5,Rel F ck aX σ2 c5∧Sub G ck∧fP F ck b2 (lY c b m c5),⟨1000,G,ρ,r,Sub.refl _,h⟩,?_⟩;rintro m σ2 aX ⟨ck,c5,bp,s2,k2⟩;refine⟨ck,c5,bp,?_⟩;cases m with
 |zero=>exact k2.elim
 |succ n=>
  simp only[lY]at k2;cases ec:c c5 with
  |bad=>rw[ec]at k2;exact k2.elim
  |exc x=>rw[ec]at k2;exact k2
  |ok k=>
   rw[ec,R.bo]at k2;intro cK dJ dt ha;cases k with
   |false=>rw[if_neg adw]at k2 ⊢;exact k2 σ2 dJ cK dt ha.g
   |true=>
    rw[if_pos rfl]at k2 ⊢;refine⟨fun σ4 gS=>∃pT e8,Rel F pT gS σ4 e8∧Sub G pT∧fP F pT b2 (lY c b n e8),fun σ4 gS q=>⟨n,ags _,q⟩,dJ,c5,dt,?_⟩;cases bx:b c5 with
    |bad=>rw[bx]at k2;exact k2.elim
    |exc x=>rw[bx]at k2;exact k2
    |ok f=>
     rw[bx,R.bo]at k2;cases f with
     |bL jx=>exact fun σ7 ib fJ gj ee=>⟨ib,jx,gj,s2.trans (ha.g.trans ee),fP.mono (ha.g.trans ee) k2⟩
     |c7 jx=>exact fun σ7 ib fJ gj ee=>⟨ib,jx,gj,s2.trans (ha.g.trans ee),fP.mono (ha.g.trans ee) k2⟩
     |fk jx=>exact fun σ7 ib fJ gj ee=>k2 σ7 ib fJ gj (ha.g.trans ee)
     |c_ d=>exact k2
     |hr ds=>exact k2
     |fE t=>exact k2
     |rs t _=>exact k2
end
section
variable{X:aS}{F:bg}{e a b c o:adq}{ah:List adq}{pos p:Pos}{m n:aN}{ma:aW}
theorem LQ{body:List ad4}{x5:cL}{mb:bf}(a5:ahS (adj X.prog X.w) X.A X.env X.xe)(ax:fj X F c x5)(J:gW X F body mb):dU X F (.While c body [] pos) (o7 x5 mb):=⟨cS.imp (Vm a5 ax.1 J.1) QZ⟩
noncomputable def findD(ks:List (List Key))(ds:List D)(cA:List Key):Option D:=((ks.zip ds).find? fun p=>decide (p.1=cA)).map (·.2)
theorem A2{K:PySem.W.Frag}{G:ag}(cA:List Key):∀{ds:List D}{xs:List (List Key×V)},aT K G ds (xs.map (·.2))→match findD (xs.map (·.1)) ds cA with
  |some d=>∃v,hb xs cA=some v∧At K G d v
  |none=>hb xs cA=none
 |[],xs,h=>by
  simp only[aT]at h;have:xs=[]:=by simpa using h
  subst this;rfl
 |d::ds,[],h=>by simp only[aT,afw]at h;obtain⟨v,r,e,_⟩:=h;cases e
 |d::ds,(k,v)::xs,h=>by
  simp only[aT,ac8]at h;obtain⟨gn,r,e,a,t⟩:=h;cases e;have cq:=A2 (K:=K) (G:=G) cA (ds:=ds) (xs:=xs) t;unfold findD hb at cq ⊢;simp only[ac8,aet,ad0];by_cases aK:k=cA
  ·simp only[aK,decide_true,afZ];exact⟨v,rfl,a⟩
  ·simp only[aK,decide_false];exact cq
noncomputable def uj(m n:aN):aN:=fun ρ=>(m ρ).bind fun d=>match d with
 |.bH ks ds=>(n ρ).bind fun k=>match nG k with
  |some cA=>.ok ((findD ks ds cA).getD .non)
  |none=>.bad
 |_=>.bad
theorem Qg:dQ (cZ F (uj m n)) (KD (cZ F m) (cZ F n)):=by
 rintro σ H Q ⟨G,ρ,r,h⟩;unfold uj at h;refine⟨G,ρ,r,?_⟩;cases aj:m ρ with
 |bad=>rw[aj]at h;exact h.elim
 |exc c=>rw[aj]at h;exact h
 |ok dd=>
  rw[aj,R.bo]at h;intro x H1 aM aq s1 bZ;cases dd with
  |bH ks ds=>
   simp only at h;simp only[At]at bZ;obtain⟨a,xs,rfl,aI,rfl,al⟩:=bZ;refine⟨a,rfl,.inr ⟨xs,.inl (aq.az.sub _ _ aI)⟩,aM,ρ,aq,?_⟩;cases bx:n ρ with
   |bad=>rw[bx]at h;exact h.elim
   |exc c=>rw[bx]at h;exact h
   |ok oH=>
    rw[bx,R.bo]at h;intro y aX ck bp s2 cV;cases d4:nG oH with
    |none=>rw[d4]at h;exact h.elim
    |some cA=>
     rw[d4]at h;simp only at h;obtain⟨q,rfl,aP⟩:=xA d4 cV;refine⟨hb xs cA,iV.t (bp.az.sub _ _ (s2.g _ _ aI)) (bp.az.sub _ _ aP),?_⟩;have f:=A2 (K:=F.K) (G:=aM) cA al;cases dH:findD (xs.map (·.1)) ds cA with
     |none=>rw[dH]at f h;rw[show hb xs cA=none from f];exact h .non aX ck bp (s1.trans s2) (by simp only[agw,At])
     |some d=>rw[dH]at f h;obtain⟨v,ev,bc⟩:=f;rw[ev];exact h v aX ck bp (s1.trans s2) (bc.mono s2.g)
  |_=>exact h.elim
theorem YB {apos b6:Pos} (aV:X.A.units+64<aeB) (aH:bh X F o m) (he:bh X F e n) (h1:adJ o "get" X.env (adW o X.env)=adW o X.env:=by rfl)(h2:((adF b6 (acX [e] X.env)).all (fun x=>!x.1)&&(aeq b6 (adS [] X.env)).all (fun x=>x.1.isSome)
  &&decide (([e]:List adq).length+([]:List aeh).length+(if([]:List aeh).isEmpty then 0 else 1)<30))=true:=by rfl) (h3:(apos.endLine==b6.line)=true:=by rfl) (h4:adF b6 (acX [e] X.env)=[(false,adW e X.env)]:=by rfl) :
  bh X F (.Call (.Attribute o "get" apos) [e] [] b6) (uj m n):=⟨a4.imp (UM (by omega) aH.1 he.1 ⟨h1,h2,h3,h4⟩) Qg⟩
noncomputable def kC(d k:D):R D:=match d with
 |.bH ks ds=>match nG k with
  |some cA=>match findD ks ds cA with
   |some v=>.ok v
   |none=>.bad
  |none=>.bad
 |_=>.bad
theorem Qh:dQ (cZ F (aE kC m n)) (KC (cZ F m) (cZ F n)):=by
 rintro σ H Q ⟨G,ρ,r,h⟩;unfold aE at h;refine⟨G,ρ,r,?_⟩;cases aj:m ρ with
 |bad=>rw[aj]at h;exact h.elim
 |exc c=>rw[aj]at h;exact h
 |ok dd=>
  rw[aj,R.bo]at h;intro x H1 aM aq s1 bZ;refine⟨aM,ρ,aq,?_⟩;cases bx:n ρ with
  |bad=>rw[bx]at h;exact h.elim
  |exc c=>rw[bx]at h;exact h
  |ok oH=>
   rw[bx,R.bo]at h;intro y aX ck bp s2 cV;unfold kC at h
   split at h
   ·rename_i ks ds
    split at h
    ·rename_i cA d4;simp only[At]at bZ;obtain⟨a,xs,rfl,aI,rfl,al⟩:=bZ;obtain⟨q,rfl,aP⟩:=xA d4 cV;have f:=A2 (K:=F.K) (G:=aM) cA al
     split at h
     ·rename_i d dH;rw[dH]at f;obtain⟨v,ev,bc⟩:=f;refine⟨a,v,rfl,?_,h v aX ck bp (s1.trans s2) (bc.mono s2.g)⟩;rw[←ev];exact iV.t (bp.az.sub _ _ (s2.g _ _ aI)) (bp.az.sub _ _ aP)
     ·exact h.elim
    ·exact h.elim
   ·exact h.elim
theorem Ei(aV:X.A.units+64<aeB)(aH:bh X F o m)(he:bh X F e n)(aD:zD e):bh X F (.Subscript o e pos) (aE kC m n):=⟨a4.imp (UL (by omega) aH.1 he.1 aD) Qh⟩
noncomputable def VD(F:bg):V→List V→ag→cH→Prop:=fun x vs H Q=>∃G d1 cM p y ds xs j,Sub G H∧x=.ref p∧vs=[y]∧At F.K G d1 y∧hg F.K G cM p false ds xs∧okN 7 d1=true∧ds.all (okN 7)=true∧ds.length<1000000∧ds.findIdx? (fun z=>bO z d1)=some j∧Q (.int (j:Nat)) H
theorem Mr{pins:List (ac1×Obj)}{σ :a7.St}{G H:ag}{s:acW}(I:Inv X pins σ H s)(bt:Sub G H){d1:D}{ds:List D}{xs:List V}{its:List acV}(q:aT X.K G ds xs)(r:Vals xs its)(o:ds.all (okN 7)=true){i:Nat}{d:D}{u:acV}(ae:ds[i]?=some d)(au:its[i]?=some u):lr X.K G d1 u=bO d d1:=by
 obtain⟨v,ev,bc⟩:=q.get ae;have aH:okN 7 d=true:=List.all_eq_true.mp o d (adg ae);have b4:RelV v u:=by obtain⟨fZ,eL,dV⟩:=r.get ev;rw[au]at eL;cases eL;exact dV
 exact zU I bt aH ⟨v,bc,b4⟩
theorem Th(aY:F.K=X.K)(aV:X.A.units+64<aeB):v5 X "list.index" (VD F):=by
 intro pins s σ H x vs v us Q I bM b4 h;obtain⟨G,d1,cM,p,y,ds,xs,j,bt,rfl,rfl,a1,g9,cQ,cf,av,cU,q⟩:=h;rw[aY]at a1 g9;cases bM;obtain⟨u,rfl,dV⟩:=vals1 b4;obtain⟨its,aq,t1,fD⟩:=g9.heap I bt;have hm:=x6 I bt (A:=X.A.in1) (d1:=d1) (by simp only[in1_units];omega) cQ a1 dV g9.hu aq cf;obtain⟨⟨cls,dict,data,slots⟩,g1,g2,nn,g3⟩:=fD rfl;simp only at g2 g3;subst g2 g3;obtain⟨ed,ae,au⟩:=List.findIdx?_eq_some_iff_getElem.mp cU;have xh:its.length=ds.length:=by rw[←aq.length,←g9.hu.length]
 have Pt:j<its.length:=by omega
 have E4:∀(i:Nat)(h:i<ds.length),lr X.K G d1 (its[i]'(by omega))=bO ds[i] d1:=fun i h=>Mr I bt g9.hu aq cf (acT h) (acT (by omega));have hR:s.TypeIs (.ref p) "list":=⟨_,g1,rfl⟩;have PK:(j:Int)<2^63-1:=by
  have:(j:Int)<1000000:=by omega
  omega
 refine agb PySem.F.slot_list_index hR PySem.F.entry_list_index (PySem.F.args_list_index_2 _ _) (SeqAt.list_indexAt p its.toArray nn dict slots u (lr X.K G d1) j (by simpa using Pt) PK ?_ ?_) ⟨g1,fun w hw=>hm w (by simpa using hw),?_⟩
 ·have:=E4 j ed;rw[ae]at this;simpa using this
 ·intro k aK Po;have z:=E4 k (by omega);have bE:=au k Po;rw[Bool.not_eq_true]at bE;rw[bE]at z;simpa using z
 ·exact⟨.int (j:Nat),H,I.tok _,⟨_,rfl⟩,q⟩
noncomputable def xo:D→List D→R D
 |.lst ds,[d]=>if okN 7 d=true∧ds.all (okN 7)=true∧ds.length<1000000 then match ds.findIdx? (fun z=>bO z d)with
  |some j=>.ok (.int (j:Nat))
  |none=>.bad
  else .bad
 |_,_=>.bad
noncomputable def nS(m:aN)(ma:aW):aN:=fun ρ=>(m ρ).bind fun d=>match d with
 |.lst ds=>(ma ρ).bind fun ah=>xo (.lst ds) ah
 |_=>.bad
theorem Ly {apos b6:Pos} (aV:X.A.units+64<aeB) (aH:bh X F o m) (U:eZ X F [e] ma) (aY:F.K=X.K:=by rfl)(gy:adJ o "index" X.env (adW o X.env)=adW o X.env:=by rfl)(hy:((adF b6 (acX [e] X.env)).all (fun x=>!x.1)&&(aeq b6 (adS [] X.env)).all (fun x=>x.1.isSome)
    &&decide (([e]:List adq).length+([]:List aeh).length+(if([]:List aeh).isEmpty then 0 else 1)<30))=true:=by rfl)
  (gz:(apos.endLine==b6.line)=true:=by rfl) (aD:acX [e] X.env=(false,adW e X.env)::acX [] X.env:=by rfl) (hz:(adF b6 (acX [] X.env)).any (·.1)=false:=by rfl) :
  bh X F (.Call (.Attribute o "index" apos) [e] [] b6) (nS m ma):=by
 refine⟨a4.imp (n1 PySem.F.plainAttrs_list PySem.F.slot_list_index PySem.F.type_list_index (Th (F:=F) aY aV) aH.1 U.1 gy hy gz aD hz) ?_⟩;rintro σ H Q ⟨G,ρ,r,h⟩;unfold nS at h;refine⟨G,ρ,r,?_⟩;cases aj:m ρ with
 |bad=>rw[aj]at h;exact h.elim
 |exc c=>rw[aj]at h;exact h
 |ok dd=>
  rw[aj,R.bo]at h;intro x H1 aM aq s1 bZ;cases dd with
  |lst ds=>
   simp only at h;simp only[At]at bZ;obtain⟨p,xs,rfl,aI,al⟩:=bZ;refine⟨.inl ⟨rfl,xs,bQ.of (aq.az.sub _ _ aI)⟩,aM,ρ,aq,?_⟩;cases bx:ma ρ with
   |bad=>rw[bx]at h;exact h.elim
   |exc c=>rw[bx]at h;exact h
   |ok ah=>
    rw[bx,R.bo]at h;intro vs aX ck bp s2 cV;unfold xo at h
    split at h
    ·rename_i eV d ae;cases ae
     split at h
     ·rename_i ax
      split at h
      ·rename_i j hx;obtain⟨y,rfl,bc⟩:=cV.one;exact⟨ck,d,.lst ds,p,y,ds,xs,j,bp.az.sub,rfl,rfl,bc,.lst (s2.g _ _ aI) (al.mono s2.g),ax.1,ax.2.1,ax.2.2,hx,h _ aX ck bp (s1.trans s2) (by simp only[At])⟩
      ·exact h.elim
     ·exact h.elim
    ·exact h.elim
  |_=>exact h.elim
end
def Eg(K:PySem.W.Frag):cT→Str→ag→Prop:=fun E c H=>∃C,gQ K c C∧∀a,H a=none→E (.ref C) (some a) H
def kG(K:PySem.W.Frag)(G H:ag)(E:cT):bg:=⟨K,G,H,Eg K E,gC⟩
theorem Rel.j2{F F':bg}{G H:ag}{σ :a7.St}{ρ:ai}(r:Rel F G H σ ρ)(aY:F'.K=F.K)(h0:F'.bD=F.bD)(h1:F'.aR=F.aR)(hP:F'.pin=F.pin:=by rfl):Rel F' G H σ ρ:=
 r.over (hP:=hP) aY ⟨r.az.sub,by rw[h0];exact r.az.dh,by rw[h1];exact r.az.bw,fun b J=>by rw[h1]at J;rw[h0];exact r.az.new b J⟩ (Sub.refl _) fun a U=>⟨rfl,(r.foot U).2.1,by rw[h1];exact(r.foot U).2.2⟩
def qP(m:cL):cL:=fun ρ=>eF (m ρ)
def u1(m:bf):bf:=fun ρ=>eF (m ρ)
def u0(m:aW):aW:=fun ρ=>eF (m ρ)
section
variable{K:PySem.W.Frag}{bD aR:ag}{E:cT}
theorem Sz{m:cL}:m4 (gE (kG K bD aR E) (qP m)) (gE (dc K bD aR) m):=by
 rintro σ H Q ⟨G,ρ,r,h⟩;unfold qP at h;refine⟨G,ρ,r.j2 rfl rfl rfl,?_⟩;cases e:m ρ with
 |bad=>rw[e]at h;exact h.elim
 |exc c=>rw[e]at h;exact h.elim
 |ok b=>rw[e]at h;exact fun H' G' a9 u=>h H' G' (a9.j2 rfl rfl rfl) u
theorem Sx{m:aW}:rq (eo (kG K bD aR E) (u0 m)) (eo (dc K bD aR) m):=by
 rintro σ H Q ⟨G,ρ,r,h⟩;unfold u0 at h;refine⟨G,ρ,r.j2 rfl rfl rfl,?_⟩;cases e:m ρ with
 |bad=>rw[e]at h;exact h.elim
 |exc c=>rw[e]at h;exact h.elim
 |ok b=>rw[e]at h;exact fun vs H' G' a9 u a=>h vs H' G' (a9.j2 rfl rfl rfl) u a
theorem d9.j2{F F':bg}{G H:ag}(k:d9 F G H)(h0:F'.bD=F.bD)(h1:F'.aR=F.aR):d9 F' G H:=⟨k.sub,by rw[h0];exact k.dh,by rw[h1];exact k.bw,fun b J=>by rw[h1]at J;rw[h0];exact k.new b J⟩
theorem Sy{m:bf}:gs (eG (kG K bD aR E) (u1 m)) (eG (dc K bD aR) m):=by
 rintro b2 σ H ⟨G,ρ,r,h⟩;unfold u1 at h;refine⟨G,ρ,r.j2 rfl rfl rfl,?_⟩;cases e:m ρ with
 |bad=>rw[e]at h;exact h.elim
 |exc c=>rw[e]at h;exact h.elim
 |ok f=>
  rw[e]at h;cases f with
  |bL ρ'=>exact fun σ' G' H' a9 s=>h σ' G' H' (a9.j2 rfl rfl rfl) s
  |fk ρ'=>exact fun σ' G' H' a9 s=>h σ' G' H' (a9.j2 rfl rfl rfl) s
  |c7 ρ'=>exact fun σ' G' H' a9 s=>h σ' G' H' (a9.j2 rfl rfl rfl) s
  |c_ d=>exact fun v G' H' k a=>h v G' H' (k.j2 rfl rfl) a
  |hr ds=>exact fun a xs G' H' k h1 h2 h3 h4=>h a xs G' H' (k.j2 rfl rfl) h1 h2 h3 h4
  |fE t=>exact fun v G' H' k q=>h v G' H' (k.j2 rfl rfl) ⟨q.at_,q.bI,q.own⟩
  |rs d ρ'=>exact fun v σ' G' H' a9 a=>h v σ' G' H' (a9.j2 rfl rfl rfl) a
end
section
variable{X:aS}{e c:adq}{ah:List adq}{st:ad4}{pos p:Pos}{K:PySem.W.Frag}{bD aR:ag}{E:cT}{mt:cL}{ms:bf}{ma:aW}
theorem X2{t:TT}(h:e_ X.gh e t):e_ X e t:=fun pins s σ H Q I q=>adY (h pins s σ H Q (I.kp _) q) (fun _ s'⟨H',cC,z⟩=>⟨H',cC.jU,z⟩) fun _ _ z=>z.elim
theorem X0{t:eS}(h:fh X.gh ah t):fh X ah t:=fun pos pins s σ H Q I q=>adY (h pos pins s σ H Q (I.kp _) q) (fun _ s'⟨vs,H',cC,r,z⟩=>⟨vs,H',cC.jU,r,z⟩) fun _ _ z=>z.elim
theorem X1{t:eT}(h:cS X.gh st t):cS X st t:=fun pins s σ H D I q=>adY (h pins s σ H D (I.kp _) q) (fun f s' z=>by
 cases f with
 |next=>obtain⟨σ',H',cC,z⟩:=z;exact⟨σ',H',cC.jU,z⟩
 |brk=>obtain⟨σ',H',cC,z⟩:=z;exact⟨σ',H',cC.jU,z⟩
 |cont=>obtain⟨σ',H',cC,z⟩:=z;exact⟨σ',H',cC.jU,z⟩
 |ret v=>obtain⟨x,σ',H',cC,z⟩:=z;exact⟨x,σ',H',cC.jU,z⟩) fun _ _ z=>z.elim
theorem En(h:fj X.gh (dc K bD aR) e mt):fj X (kG K bD aR E) e (qP mt):=⟨fun pins s σ H Q I q=>X2 h.1 pins s σ H Q I (Sz σ H Q q)⟩
theorem YX(h:eZ X.gh (dc K bD aR) ah ma):eZ X (kG K bD aR E) ah (u0 ma):=⟨fun pos pins s σ H Q I q=>X0 h.1 pos pins s σ H Q I (Sx σ H Q q)⟩
theorem YY(h:dU X.gh (dc K bD aR) st ms):dU X (kG K bD aR E) st (u1 ms):=⟨fun pins s σ H D I q=>X1 h.1 pins s σ H D I (Sy D σ H q)⟩
end
structure rr(P:ac_)(w:adB)(K:PySem.W.Frag)(mg:Str→Option acV)(base:adT)(x:Str)(n k:Nat)(mf:List D→R bT):Prop where
 ex:∃(f:ac1)(fd:ad1)(aO:List Str),aO.length=n∧gR P w K mg base (hs P w) k f fd aO (mO K n (Eg K) mf)∧mg x=some (.ref f)∧PySem.W.keepIn K (.ref f)=true∧Binds K fd aO []
structure vS(K:PySem.W.Frag)(mg:Str→Option acV)(c:Str):Prop where
 ex:∃C,gQ K c C∧mg c=some (.ref C)∧PySem.W.excIn K C [.type "ValueError",.type "Exception",.type "BaseException",.type "object"] "ValueError.__new__"=true
def uy(c:Str):bf:=fun _=>.exc c
section
variable{P:ac_}{w:adB}{K:PySem.W.Frag}{mg:Str→Option acV}{base:adT}{N:List Str}{qual:Str}{scope:aew}{f:ac1}{cd:acV}{A:adp}{outer:List Env}{s0:acW}{f5:ag}{E:cT}{bD aR:ag}
theorem Et{x:Str}{np b6 pos wG:Pos}{m:Str}{j:Nat}(k:vS K mg x)(aI:dF (er (hs P w) P w K mg base N qual scope f cd A outer s0 f5 E) x:=by rfl)(hd:(x==("__debug__" :Str))=false:=by decide) :
  dU (er (hs P w) P w K mg base N qual scope f cd A outer s0 f5 E) (kG K bD aR E) (.Raise (some (.Call (.Name x np) [.Constant (.str m) j wG] [] b6)) none pos) (uy x):=by
 obtain⟨C,h1,h2,h3⟩:=k.ex;refine⟨fun pins s σ H D I q=>Vl (X:=er (hs P w) P w K mg base N qual scope f cd A outer s0 f5 E) PySem.F.excBase_ValueError h3 h2 rfl aI hd pins s σ H D I ?_⟩;obtain⟨G,ρ,r,h⟩:=q;obtain⟨l7,cp,dO⟩:=(show ja (kG K bD aR E) x from h) G H r.az;have:l7=C:=by unfold gQ at cp h1;rw[h1]at cp;cases cp;rfl
 subst this;exact YK dO
theorem Yy{x:Str}{n k:Nat}{mf:List D→R bT}{e:adq}{ah:List adq}{ma:aW}{pos p:Pos}(c:rr P w K mg base x n k mf)(ay:dx k (er (hs P w) P w K mg base N qual scope f cd A outer s0 f5 E).A)(U:eZ (er (hs P w) P w K mg base N qual scope f cd A outer s0 f5 E) (kG K bD aR E) (e::ah) ma)(aI:dF (er (hs P w) P w K mg base N qual scope f cd A outer s0 f5 E) x:=by rfl)(e0:(x==("__debug__" :Str))=false:=by decide)(he:acX (e::ah) (er (hs P w) P w K mg base N qual scope f cd A outer s0 f5 E).env=(false,adW e (er (hs P w) P w K mg base N qual scope f cd A outer s0 f5 E).env)::acX ah (er (hs P w) P w K mg base N qual scope f cd A outer s0 f5 E).env:=by rfl)(di:(adF pos (acX ah (er (hs P w) P w K mg base N qual scope f cd A outer s0 f5 E).env)).any (·.1)=false:=by rfl) :
  bh (er (hs P w) P w K mg base N qual scope f cd A outer s0 f5 E) (kG K bD aR E) (.Call (.Name x p) (e::ah) [] pos) (cD n mf ma):=by
 obtain⟨j5,fd,aO,aU,fT,hm,aK,J⟩:=c.ex;exact⟨a4.imp (n2 (X:=er (hs P w) P w K mg base N qual scope f cd A outer s0 f5 E) fT ay aI hm aK J .nil UC U.1 e0 he di) (HL (F:=kG K bD aR E) (xe:=Eg K) (E:=E) rfl)⟩
end
theorem Ls{P:ac_}{w:adB}{K:PySem.W.Frag}{mg:Str→Option acV}{base:adT}{x:Str}{st:ad4}{N aO:List Str}{k:Nat}{m:bf}(d:dE K mg x st aO)(S:c2 N aO (bW st))(h:∀(f:ac1)(bV:acV)(A:adp)(outer:List Env)(s:acW)(H:ag)(E:cT),dx k (A.deeper (ady x (bW st) s.heap.objs.size f bV))→∀bD aR,gW (er (hs P w) P w K mg base N x (bW st) f bV A outer s H E) (kG K bD aR E) (fl st) m) :
  rr P w K mg base x aO.length (k+1) (dA N.length m):=by
 obtain⟨f,fd,fn,hm,J⟩:=d.ex;refine⟨f,fd,aO,rfl,?_,hm,fn.az,J⟩;obtain⟨ft,dX,de,doc,pm,an,bV,c7,lQ,rfl,lk,dy⟩:=fn.ex;refine G2 lk dy S yz fun A outer s H vs Q E ay aD=>?_;obtain⟨G,bJ⟩:=wC aD;exact⟨_,(h f bV A outer s H E ay G H).1,bJ⟩
noncomputable def r_(n:Nat)(mf:List D→R bT)(m:aW):aN:=fun ρ=>(m ρ).bind fun ds=>if ds.length=n then(eF (mf ds)).bind hD else .bad
section
variable{X:aS}{F:bg}{e:adq}{ah:List adq}{pos p:Pos}{ma:aW}
theorem Jj{P:ac_}{w:adB}:Passes (hs P w) X (fun _ _ _=>False):=fun _ _ _ _ _ _ _ h=>by obtain⟨_,_,_,_,_,_,_,z⟩:=h;exact z.elim
theorem P7{n:Nat}{mf:List D→R bT}{m:aW}{xe:cT→Str→ag→Prop}{E:cT}:dQ (cZ F (r_ n mf m)) (q3 (mO F.K n xe mf) [] E (eo F m)):=by
 rintro σ H Q ⟨G,ρ,r,h⟩;unfold r_ at h;refine⟨G,ρ,r,?_⟩;cases aj:m ρ with
 |bad=>rw[aj]at h;exact h.elim
 |exc c=>rw[aj]at h;exact h
 |ok ds=>
  rw[aj,R.bo]at h;intro vs H1 aM aq s1 a;by_cases aU:ds.length=n
  ·rw[if_pos aU]at h;rw[adz];refine⟨aM,ds,aq.az.sub,a,aU,?_⟩;cases e:mf ds with
   |bad=>rw[e]at h;exact h.elim
   |exc c=>rw[e]at h;exact h.elim
   |ok t=>
    rw[e]at h;have h:hT F G H σ ρ Q (hD t):=h;cases t with
    |v d=>exact fun v G' H' k bc=>h v H' G' (d9.of aq k) (s1.trans ⟨k.dh,k.bw,k.new⟩) bc
    |o ah=>intro p xs G' H' k h1 h2 h3 h4;have h2:H1 p=none:=h2;have a9:=d9.of aq k;have no:¬b3 H' σ ρ p:=b3.fresh aq k.bw h2;refine h (.ref p) H' _ (a9.take h3 h1 (aq.az.bw.gone h2) no) ((s1.trans ⟨k.dh,k.bw,k.new⟩).put (s1.h.gone h2) h1) ?_;simp only[At];exact⟨p,xs,rfl,dN,h4.mono (Sub.upd h1)⟩
    |t t=>intro v G' H' k q;obtain⟨a1,a2,d3⟩:=(d9.of aq k).DV (F':=⟨F.K,aM,H1,xe E,gC⟩) rfl q (s1.trans ⟨k.dh,k.bw,k.new⟩) fun b J=>⟨s1.h.gone (q.own b J).2,aq.az.bw.gone (q.own b J).2,b3.fresh aq k.bw (q.own b J).2⟩;exact h v H' _ a1 a2 d3
  ·rw[if_neg aU]at h;exact h.elim
theorem Lv{x:Str}{n k:Nat}{mf:List D→R bT}(c:rr X.prog X.w X.K X.mg X.base x n k mf)(ay:dx k X.A)(U:eZ X F (e::ah) ma)(aY:F.K=X.K:=by rfl)(aI:dF X x:=by rfl)(e0:(x==("__debug__" :Str))=false:=by decide)(he:acX (e::ah) X.env=(false,adW e X.env)::acX ah X.env:=by rfl)(di:(adF pos (acX ah X.env)).any (·.1)=false:=by rfl):bh X F (.Call (.Name x p) (e::ah) [] pos) (r_ n mf ma):=by obtain⟨f,fd,aO,aU,fT,hm,aK,J⟩:=c.ex;refine⟨a4.imp (n2 fT ay aI hm aK J .nil Jj U.1 e0 he di) ?_⟩;rw[←aY];exact P7
end
end bu
namespace a7
open PySem PySem.Spec PySem.Calls PyProof.Rows PySem.W PySem.Builtin PySem.Builtin.ObjectAttr PySem.Builtin.Getset_descriptor
section
variable{prog:ac_}{w:adB}{A:adp}{E:acV→acW→Prop}{s:acW}{K:Frag}{a D:ac1}
end
end a7
namespace bu
open PySem PySem.Spec a7
section
variable{X:aS}{F:bg}{a:adq}{pos p:Pos}{m:aN}
end
noncomputable def JX:D→D→R D
 |.lst xs,.int k=>if 0≤k∧k≤1000∧xs.length≤100 then .ok (.lst (adZ k.toNat xs).flatten)else .bad
 |_,_=>.bad
section
variable{X:aS}{F:bg}{a b:adq}{pos p:Pos}{m n:aN}
noncomputable def II(i:Nat)(n:aN):aN:=fun ρ=>(ownAt i ρ).bind fun ds=>(n ρ).bind fun k=>match k with
 |.int j=>match fb ds j with
  |some d=>.ok d
  |none=>.bad
 |_=>.bad
end
end bu
namespace hI
open PySem PySem.SetTable
noncomputable def nM(mask:Nat)(h:Int):Nat→Nat×Nat
 |0=>(bits h%(mask+1),bits h)
 |n+1=>leap mask (nM mask h n).1 (nM mask h n).2
def fE(mask i:Nat):Nat:=runEnd mask i-i
def bt(mask:Nat)(h:Int):Nat→Nat
 |0=>0
 |n+1=>bt mask h n+fE mask (nM mask h n).1+1
theorem least(p:Nat→Prop):(∃n,p n)→∃n,p n∧∀m,m<n→¬p m:=by
 rintro⟨n,h⟩;induction n using Nat.strongRecOn with
 |_ n cq=>
  by_cases q:∃m,m<n∧p m
  ·obtain⟨m,m1,m2⟩:=q;exact cq m m1 m2
  ·exact⟨n,h,fun m hm a5=>q ⟨m,hm,a5⟩⟩
section
variable{α:Type}
end
section
variable{α:Type}
end
section
variable{prog:ac_}{w:adB}{A:adp}{E:acV→acW→Prop}{s:acW}{K:Type}[DecidableEq K]{knd:KeyKind prog w K}
end
section
variable{prog:ac_}{w:adB}{A:adp}{E:acV→acW→Prop}{s:acW}{K:Type}[DecidableEq K]{knd:KeyKind prog w K}
end
section
variable{prog:ac_}{w:adB}{A:adp}{E:acV→acW→Prop}{s:acW}{K:Type}[DecidableEq K]{knd:KeyKind prog w K}
end
end hI
namespace hI
open PySem PySem.Spec PyProof.Rows
section
variable{prog:ac_}{w:adB}{K:Type}[DecidableEq K]{knd:PySem.KeyKind prog w K}
def NH(S:List (List K))(ks:List K):List (List K):=if ks∈S then S else S++[ks]
def NK(keys:List (List K)):List (List K):=keys.foldl NH []
section
variable{A:adp}{R:Result→acW→Prop}{I:ac1}{aQ wr:List ac1}{G:Array GenState→Array GenState→Prop}{n:Nat}{P:Nat→acV→Prop}{St:Nat→acW→Prop}
end
end
section
variable{prog:ac_}{w:adB}{A:adp}{E:acV→acW→Prop}{s:acW}{K:Type}[DecidableEq K]{knd:PySem.KeyKind prog w K}
end
end hI
namespace LT
open PySem PyProof.Rows
structure fH(kd:afO)(cF:Array aid)(st:ae3):Prop where
 k:af1 st=kd
 p:(adD st).Perm cF
 n:afy st= #[]
 f:ahX st=none
theorem fH.kX{kd:afO}{cF:Array aid}{st:ae3}(b:fH kd cF st):(adD st).size=cF.size:=b.p.size_eq
theorem fH.to{kd:afO}{cF:Array aid}{st:ae3}(b:fH kd cF st){xs:Array aid}(q:xs.Perm (adD st)):fH kd cF (setArr st xs):=⟨b.k,q.trans b.p,b.n,b.f⟩
structure l9(prog:ac_)(w:adB)(A:adp)(s:acW)(kd:afO)(κ:KeyKind)(cF:Array aid):Prop where
 lt:∀(E:acV→acW→Prop)(x y:aid){Q:Bool→acW→Prop},x∈cF.toList→y∈cF.toList→Q (κ.blt ((κ.keyOf x.1).getD κ.dflt) ((κ.keyOf y.1).getD κ.dflt)) s→adi (adj prog w) A (keyLt' kd x.1 y.1) Q E s
section
variable{prog:ac_}{w:adB}{A:adp}{E:acV→acW→Prop}{s:acW}{cF:Array aid}{κ:KeyKind}{kd:afO}
theorem fH.at{st:ae3}(b:fH kd cF st){i:Nat}(ak:i<cF.size):∃x,(adD st)[i]?=some x∧x∈cF.toList∧KK κ (adD st) i=(κ.keyOf x.1).getD κ.dflt:=by
 have g:i<(adD st).size:=by rw[b.kX];exact ak
 have e:=getElem?_pos (adD st) i g;refine⟨_,e,(Array.perm_iff_toList_perm.mp b.p).mem_iff.mp (by simp),?_⟩;unfold KK;rw[e]
theorem ue(C:l9 prog w A s kd κ cF){st:ae3}(b:fH kd cF st){i j:Nat}{Q:Option Bool→ae3→Prop}(ak:i<cF.size)(cU:j<cF.size)(h:Q (some (κ.blt (KK κ (adD st) i) (KK κ (adD st) j))) st):wpS (adj prog w) A E s (ltAt' i j) Q st:=by obtain⟨x,hc,gp,ra⟩:=b.at (κ:=κ) ak;obtain⟨y,d8,ff,mW⟩:=b.at (κ:=κ) cU;rw[ra,mW]at h;rw[ltAt'_eq];refine adO (wpS_get ?_);show wpS _ _ _ _ (elem' (adD st) i>>=fun x=>elem' (adD st) j>>=fun y=>lt' x y) Q st;rw[elem'_eq,hc,elem'_eq,d8];refine adO (ad_ (adO (ad_ ?_)));rw[lt'_eq];refine adO (wpS_get (adO (wpS_lift (wpAny_attempt ?_))));rw[b.k];exact C.lt _ x y gp ff ⟨rfl,ad_ h⟩
theorem K9{xs:Array aid}:ad3 κ xs 1:=fun i j a c=>by
 have:i=j:=by omega
 subst this;exact aeA _
theorem X3{xs:Array aid}{n:Nat}(h:ad3 κ xs n)(q:κ.kle (KK κ xs (n-1)) (KK κ xs n)):ad3 κ xs (n+1):=fun i j a c=>by
 by_cases e:j<n
 ·exact h i j a e
 have e:j=n:=by omega
 subst e;by_cases g:i=j
 ·subst g;exact aeA _
 ·exact afG (h i (j-1) (by omega) (by omega)) q
theorem wJ{xs:Array aid}{n:Nat}(h:NonIncK κ xs n)(q:κ.kle (KK κ xs n) (KK κ xs (n-1))):NonIncK κ xs (n+1):=fun i j a c=>by
 by_cases e:j<n
 ·exact h i j a e
 have e:j=n:=by omega
 subst e;by_cases g:i=j
 ·subst g;exact aeA _
 ·exact afG q (h i (j-1) (by omega) (by omega))
theorem NonIncK.same{xs ys:Array aid}{n:Nat}(h:NonIncK κ xs n)(e:∀k,KK κ ys k=KK κ xs k):NonIncK κ ys n:=fun i j a c=>by rw[e,e];exact h i j a c
theorem E7(C:l9 prog w A s kd κ cF){st:ae3}{a eX:Nat}{Q:AscSt→ae3→Prop}(aU:eX≤cF.size)(U:1≤a)(an:a≤eX)(b:fH kd cF st)(aD:ad3 κ (adD st) a)(h:∀n,a≤n→n≤eX→ad3 κ (adD st) n→(n<eX→κ.klt (KK κ (adD st) n) (KK κ (adD st) (n-1)))→Q (none,n) st):wpS (adj prog w) A E s (ascLoop a eX) Q st:=by
 unfold ascLoop;refine afz (I:=fun x c t=>t=st∧c=(none,x)∧ad3 κ (adD st) x) ?_ ?_ ⟨rfl,rfl,aD⟩
 ·rintro x c t g1 g2 ⟨rfl,rfl,g3⟩;dsimp only;refine adO (ue C b (by omega) (by omega) ?_);cases e:κ.blt (KK κ (adD t) x) (KK κ (adD t) (x-1))with
  |true=>exact ad_ (h x g1 (by omega) g3 fun _=>e)
  |false=>exact ad_ ⟨rfl,rfl,X3 g3 e⟩
 ·rintro c t ⟨rfl,rfl,g⟩;have em:max a eX=eX:=by omega
  rw[em]at g ⊢;exact h eX an (ac3 _) g fun z=>absurd z (adU _)
theorem KX(C:l9 prog w A s kd κ cF){st:ae3}{n eX:Nat}{Q:Option Nat→ae3→Prop}(aU:eX≤cF.size)(h1:1≤n)(nn:n≤eX)(b:fH kd cF st)(aD:NonIncK κ (adD st) n)(h:∀m t,fH kd cF t→m≤eX→ad3 κ (adD t) m→Q (some m) t):wpS (adj prog w) A E s (tail3 n eX) Q st:=by
 have bj:n≤(adD st).size:=by rw[b.kX];omega
 have b':fH kd cF (setArr st (mirror (adD st) 0 n ((n-0)/2))):=b.to (ahN _ _ _ _);unfold tail3;refine adO (ahO (adO (E7 C aU h1 nn b' (fun i j g1 g2=>?_) fun m m1 m2 kL _=>ad_ (h m _ b' m2 kL))));show κ.kle (KK κ (mirror (adD st) 0 n ((n-0)/2)) i) (KK κ (mirror (adD st) 0 n ((n-0)/2)) j);rw[KK_mirror bj,KK_mirror bj,if_pos ⟨aee _,by omega⟩,if_pos ⟨aee _,g2⟩];exact aD _ _ (by omega) (by omega)
def Flat(κ:KeyKind)(xs:Array aid)(m q:Nat):Prop:=q+1≤m∧∀i,m-(q+1)≤i→i<m→KK κ xs i=KK κ xs (m-1)
theorem A3{xs:Array aid}{m:Nat}(h:1≤m):Flat κ xs m 0:=⟨h,fun i a c=>by
 have:i=m-1:=by omega
 rw[this]⟩
theorem NL(C:l9 prog w A s kd κ cF){st:ae3}{n eX:Nat}{Q:DescSt→ae3→Prop}(aU:eX≤cF.size)(h1:1≤n)(nn:n≤eX)(b:fH kd cF st)(aD:NonIncK κ (adD st) n)(h:∀m q t,fH kd cF t→n≤m→m≤eX→NonIncK κ (adD t) m→Flat κ (adD t) m q→Q (none,m,q) t):wpS (adj prog w) A E s (descLoop n eX) Q st:=by
 unfold descLoop;refine afz (I:=fun x c t=>∃q,c=(none,x,q)∧fH kd cF t∧NonIncK κ (adD t) x∧Flat κ (adD t) x q) ?_ ?_ ⟨0,rfl,b,aD,A3 h1⟩
 ·rintro x c t g1 g2 ⟨q,rfl,b,g3,f_⟩;dsimp only;have bj:x≤(adD t).size:=by rw[b.kX];omega
  refine adO (ue C b (by omega) (by omega) ?_);cases e:κ.blt (KK κ (adD t) x) (KK κ (adD t) (x-1))with
  |true=>
   have up:=wJ g3 (afs e);dsimp only;rw[if_pos rfl];by_cases z:q>0
   ·rw[if_pos z];exact adO (ahO (ad_ ⟨0,rfl,b.to (ahN _ _ _ _),NonIncK.same up (ag_ bj f_.2),A3 (by omega)⟩))
   ·rw[if_neg z];exact ad_ ⟨0,rfl,b,up,A3 (by omega)⟩
  |false=>
   dsimp only;rw[if_neg (by simp)];refine adO (ue C b (by omega) (by omega) ?_);cases cN:κ.blt (KK κ (adD t) (x-1)) (KK κ (adD t) x)with
   |true=>exact ad_ (h x q t b g1 (by omega) g3 f_)
   |false=>
    have oI:KK κ (adD t) x=KK κ (adD t) (x-1):=ahP cN e;refine ad_ ⟨q+1,rfl,b,wJ g3 cN,by have:=f_.1;omega,fun i a c=>?_⟩;rw[show x+1-1=x by omega];by_cases w:i=x
    ·rw[w]
    ·rw[oI];exact f_.2 i (by omega) (by omega)
 ·rintro c t ⟨q,rfl,b,g3,f_⟩;have em:max n eX=eX:=by omega
  rw[em]at g3 f_ ⊢;exact h eX q t b nn (ac3 _) g3 f_
theorem FO(C:l9 prog w A s kd κ cF){st:ae3}{n eX:Nat}{Q:Option Nat→ae3→Prop}(aU:eX≤cF.size)(nn:n+1≤eX)(b:fH kd cF st)(aD:NonIncK κ (adD st) (n+1))(h:∀m t,fH kd cF t→m≤eX→ad3 κ (adD t) m→Q (some m) t):wpS (adj prog w) A E s (descPart n eX) Q st:=by
 unfold descPart;refine adO (wpS_lift (afP ⟨rfl,adO (NL C aU (by omega) nn b aD fun m q t b' m1 m2 g1 g2=>?_)⟩));dsimp only;have bj:m≤(adD t).size:=by rw[b'.kX];omega
 by_cases z:q>0
 ·rw[if_pos z];exact adO (ahO (KX C aU (by omega) m2 (b'.to (ahN _ _ _ _)) (NonIncK.same g1 (ag_ bj g2.2)) h))
 ·rw[if_neg z];exact KX C aU (by omega) m2 b' g1 h
theorem V2(C:l9 prog w A s kd κ cF){st:ae3}{eX:Nat}{Q:Option Nat→ae3→Prop}(aU:eX≤cF.size)(h1:1≤eX)(b:fH kd cF st)(h:∀m t,fH kd cF t→m≤eX→ad3 κ (adD t) m→Q (some m) t) :
  wpS (adj prog w) A E s (countRun' 0 eX) Q st:=by
 rw[countRun0_eq];refine adO (E7 C aU (ac3 1) h1 b K9 fun n dP dv g1 g2=>?_);dsimp only;by_cases e:n=eX
 ·rw[if_pos (by simpa using e)];exact ad_ (h n st b dv g1)
 rw[if_neg (by simpa using e)];have g2:=g2 (by omega);have bj:n≤(adD st).size:=by rw[b.kX];omega
 by_cases z:n>1
 ·rw[if_pos z];refine adO (ue C b (by omega) (by omega) ?_);cases cN:κ.blt (KK κ (adD st) 0) (KK κ (adD st) (n-1))with
  |true=>exact ad_ (h n st b dv g1)
  |false=>
   dsimp only;rw[if_neg (by simp)];have hj:∀k,0≤k→k<n→KK κ (adD st) k=KK κ (adD st) (n-1):=fun k _ aK=>
    ahP (g1 k (n-1) (by omega) (by omega)) (afG cN (g1 0 k (aee _) aK))
   have jF:NonIncK κ (adD st) n:=fun i j a c=>by rw[hj i (aee _) (by omega),hj j (aee _) c];exact aeA _
   exact adO (ahO (FO C aU (by omega) (b.to (ahN _ _ _ _)) (NonIncK.same (wJ jF (afs g2)) (ag_ bj hj)) h))
 ·rw[if_neg z];have ae:n=1:=by omega
  subst ae;exact FO C aU (by omega) b (wJ (fun i j a c=>by
   have:i=j:=by omega
   subst this;exact aeA _) (afs g2)) h
theorem tm(C:l9 prog w A s kd κ cF){st:ae3}{n ok:Nat}{Q:Bool→ae3→Prop}(aU:n≤cF.size)(aK:ok≤n)(b:fH kd cF st)(aD:ad3 κ (adD st) ok)(h:∀t,fH kd cF t→ad3 κ (adD t) n→Q true t):wpS (adj prog w) A E s (binarySort' 0 n ok) Q st:=by
 rw[binarySort'_eq];simp only[ae9];refine adO (wpS_mono (afz (I:=fun k c t=>c=(none,())∧fH kd cF t∧ad3 κ (adD t) (min k n)) (Q:=fun c t=>c=(none,())∧fH kd cF t∧ad3 κ (adD t) n) ?_ ?_ ?_) ?_)
 ·rintro k c t k1 k2 ⟨rfl,b,g⟩;have d4:min k n=k:=by omega
  rw[d4]at g;have bj:k<(adD t).size:=by rw[b.kX];omega
  refine adO (wpS_mono (afz (I:=fun x c u=>u=t∧∃l r,c=(none,l,r)∧l≤r∧r≤k∧r-l≤k-x∧(∀i,i<l→κ.kle (KK κ (adD t) i) (KK κ (adD t) k))∧∀i,r≤i→i<k→κ.klt (KK κ (adD t) k) (KK κ (adD t) i))
   (Q:=fun c u=>u=t∧∃l r,c=(none,l,r)∧l≤k∧(∀i,i<l→κ.kle (KK κ (adD t) i) (KK κ (adD t) k))∧∀i,l≤i→i<k→κ.klt (KK κ (adD t) k) (KK κ (adD t) i)) ?_ ?_ ⟨rfl,0,k,rfl,by omega,by omega,by omega,fun i z=>by omega,fun i z eh=>by omega⟩) ?_)
  ·rintro x c u _ gp ⟨rfl,l,r,rfl,fD,a3,Sw,lo,ak⟩;dsimp only;by_cases z:l≥r
   ·rw[if_pos z];have e:l=r:=by omega
    subst e;exact ad_ ⟨rfl,l,l,rfl,a3,lo,ak⟩
   rw[if_neg z];refine adO (ue C b (by omega) (by omega) ?_);cases e:κ.blt (KK κ (adD u) k) (KK κ (adD u) ((l+r)/2))with
   |true=>exact ad_ ⟨rfl,l,(l+r)/2,rfl,by omega,by omega,by omega,lo,fun i a c=>KeyOrd.klt_of_klt_of_kle e (g _ _ a c)⟩
   |false=>exact ad_ ⟨rfl,(l+r)/2+1,r,rfl,by omega,by omega,by omega,fun i a=>afG (g i ((l+r)/2) (by omega) (by omega)) (show κ.kle _ _ from e),ak⟩
  ·rintro c u ⟨rfl,l,r,rfl,fD,a3,Sw,lo,ak⟩;have e:l=r:=by omega
   subst e;exact⟨rfl,l,l,rfl,a3,lo,ak⟩
  ·rintro c u ⟨rfl,l,r,rfl,fD,lo,ak⟩;show wpS _ _ _ _ (moveDown' k l>>=fun _=>pure (aec (none,()))) _ _;rw[moveDown'_eq];refine adO (wpS_modify (ad_ ⟨rfl,b.to (bubble_perm _ _ _),?_⟩));rw[show min (k+1) n=k+1 by omega];intro i j aaj BM;show κ.kle (KK κ (bubble (adD u) k (k-l)) i) (KK κ (bubble (adD u) k (k-l)) j);rw[KK_bubble bj (by omega),KK_bubble bj (by omega),show k-(k-l)=l by omega]
   repeat' split
   all_goals first|omega|exact aeA _|exact lo _ (by omega)|exact afs (ak _ (by omega) (by omega))|exact g _ _ (by omega) (by omega)
 ·rintro c t ⟨rfl,b,g⟩;rw[show min (max (max ok 1) n) n=n by omega]at g;exact⟨rfl,b,g⟩
 ·refine⟨rfl,b,?_⟩;by_cases z:ok=0
  ·subst z;intro i j a c;exact K9 i j a (by omega)
  ·rw[show min (max ok 1) n=ok by omega];exact aD
 ·rintro c t ⟨rfl,b,g⟩;exact ad_ (h t b g)
theorem V3(C:l9 prog w A s kd κ cF){st:ae3}{Q:Unit→ae3→Prop}(b:fH kd cF st)(h2:2≤cF.size)(qm:cF.size<64)(h:∀t,(adD t).Perm cF→ahX t=none→ad3 κ (adD t) cF.size→Q () t):wpS (adj prog w) A E s sortRuns' Q st:=by
 rw[sortRuns'_eq];refine adO (wpS_get ?_);dsimp only;have kj:minRun' cF.size cF.size 0=cF.size:=by
  obtain⟨f,hf⟩:∃f,cF.size=f+1:=⟨cF.size-1,by omega⟩;have:minRun' (f+1) cF.size 0=cF.size:=by rw[minRun'_succ,if_pos qm,Nat.add_zero]
  rwa [←hf]at this
 simp only[b.kX,kj]
 refine adO (wpS_mono (afz (I:=fun x c t=>(x=0∧c=(none,0)∧fH kd cF t)∨(1≤x∧c=(none,cF.size)∧(adD t).Perm cF∧ahX t=none∧afy t= #[(0,cF.size,0)]∧ad3 κ (adD t) cF.size))
  (Q:=fun c t=>c=(none,cF.size)∧(adD t).Perm cF∧ahX t=none∧afy t= #[(0,cF.size,0)]∧ad3 κ (adD t) cF.size) ?_ ?_ (.inl ⟨rfl,rfl,b⟩)) ?_)
 ·have last:∀t,fH kd cF t→ad3 κ (adD t) cF.size→(adD (setPending t ((afy t).push (0,cF.size,0)))).Perm cF∧ahX (setPending t ((afy t).push (0,cF.size,0)))=none∧afy (setPending t ((afy t).push (0,cF.size,0)))= #[(0,cF.size,0)]∧ad3 κ (adD (setPending t ((afy t).push (0,cF.size,0)))) cF.size:=
    fun t b g=>⟨b.p,b.f,by show(afy t).push _=_;rw[b.n];rfl,g⟩
  rintro x c t _ gp (⟨rfl,rfl,b⟩|⟨hc,rfl,g⟩)
  ·dsimp only;rw[if_neg (by omega)];simp only[Nat.sub_zero,Nat.min_self,ae9];refine adO (V2 C (ac3 _) (by omega) b fun m t b m1 g=>?_);dsimp only;by_cases z:m<cF.size
   ·rw[if_pos z];refine adO (wpS_lift (afP ⟨rfl,adO (tm C (ac3 _) m1 b g fun u b g=>?_)⟩));simp only[agp,adx,if_false];refine adO (wpS_get ?_);rw[b.n];exact adO (wpS_modify (ad_ (.inr ⟨by omega,rfl,last u b g⟩)))
   ·rw[if_neg z];have e:m=cF.size:=by omega
    subst e;refine adO (wpS_get ?_);rw[b.n];exact adO (wpS_modify (ad_ (.inr ⟨by omega,rfl,last t b g⟩)))
  ·dsimp only;rw[if_pos (ac3 _)];exact ad_ ⟨rfl,g⟩
 ·rintro c t (⟨z,_,_⟩|⟨_,e,g⟩)
  ·omega
  ·exact⟨e,g⟩
 ·rintro c t ⟨rfl,g1,g2,g3,f_⟩;dsimp only;refine adO (wpS_mono (afz (I:=fun _ c u=>u=t∧c=(none,())) (Q:=fun c u=>u=t∧c=(none,())) ?_ (fun _ _ z=>z) ⟨rfl,rfl⟩) ?_)
  ·rintro x c u _ _ ⟨rfl,rfl⟩;refine adO (wpS_get ?_);rw[if_pos (by rw[g3];exact ac3 1)];exact ad_ ⟨rfl,rfl⟩
  ·rintro c u ⟨rfl,rfl⟩;exact ad_ (h _ g1 g2 f_)
end
noncomputable def ltI:List Int→List Int→Bool
 |[],[]=>false
 |[],_::_=>true
 |_::_,[]=>false
 |a::x,b::y=>if a=b then ltI x y else decide (a<b)
theorem BX:∀a,ltI a a=false
 |[]=>rfl
 |_::x=>by simp[ltI,BX x]
theorem xJ:∀a b c,ltI a b=true→ltI b c=true→ltI a c=true
 |[],[],_,h,_=>by cases h
 |[],_::_,[],_,h=>by cases h
 |[],_::_,_::_,_,_=>rfl
 |_::_,[],_,h,_=>by cases h
 |_::_,_::_,[],_,h=>by cases h
 |a::x,b::y,c::z,h1,h2=>by
  simp only[ltI]at h1 h2 ⊢;by_cases ae:a=b
  ·subst ae;rw[if_pos rfl]at h1;by_cases au:a=c
   ·subst au;rw[if_pos rfl]at h2 ⊢;exact xJ x y z h1 h2
   ·rw[if_neg au]at h2 ⊢;exact h2
  ·rw[if_neg ae]at h1;have h1:=of_decide_eq_true h1;by_cases au:b=c
   ·subst au;rw[if_neg ae];exact decide_eq_true h1
   ·rw[if_neg au]at h2;have h2:=of_decide_eq_true h2;rw[if_neg (by omega)];exact decide_eq_true (by omega)
theorem xI:∀a b,ltI a b=false→ltI b a=false→a=b
 |[],[],_,_=>rfl
 |[],_::_,h,_=>by cases h
 |_::_,[],_,h=>by cases h
 |a::x,b::y,h1,h2=>by
  simp only[ltI]at h1 h2;by_cases e:a=b
  ·subst e;rw[if_pos rfl]at h1 h2;rw[xI x y h1 h2]
  ·rw[if_neg e]at h1;rw[if_neg (fun z=>e z.symm)]at h2;have h1:=of_decide_eq_false h1;have h2:=of_decide_eq_false h2;exact absurd (by omega) e
theorem Iw(a b c:List Int)(h:ltI a c=true):ltI a b=true∨ltI b c=true:=by
 cases ae:ltI a b with
 |true=>exact .inl rfl
 |false=>
  cases au:ltI b c with
  |true=>exact .inr rfl
  |false=>
   exfalso;cases bE:ltI b a with
   |true=>rw[xJ b a c bE h]at au;cases au
   |false=>rw[xI a b ae bE,au]at h;cases h
section
variable{prog:ac_}{w:adB}{A:adp}{E:acV→acW→Prop}{s:acW}
theorem VO{a b:Int}{t u:Tok}{Q:acV→acW→Prop}(h:Q (.bool (decide (a<b))) s):adi (adj prog w) A (richCompare .Lt (.int a t) (.int b u)) Q E s:=
 wpAny_richCompare_same (op:=.Lt) (typeIs_int s a t) (typeIs_int s b u) slot_int_lt (call_int_lt ⟨(fun e=>nomatch e),h⟩)
theorem Q_{x y:List Int}{a b:ac1}{P:Fin→acW→Prop}(aA:ahg (agM prog w) s.heap x a)(b8:ahg (agM prog w) s.heap y b)(h:P (.done (.ret (.bool (ltI x y)))) s) :
  adi (adj prog w) A (ahM.«tuple.__lt__» ⟨[.ref a,.ref b],[]⟩) P E s:=by
 have tb:=b8.typeIs;obtain⟨aaJ,xs,na,mL,_,NG,Q2⟩:=aA;obtain⟨ob,ys,nb,Vz,_,db,j_⟩:=b8;show adi _ _ (isInstance (.ref b) (.type "tuple")>>=_) _ _ s;refine acU (wpAny_isInstance tb isSubtype_tuple_tuple ?_);simp only[agp,adx,if_false];refine acU (wpAny_tupleItemsOf mL NG (acU (wpAny_tupleItemsOf Vz db (acU ?_))));refine wpAny_forIn_list _ (fun rest r s'=>r.1=none∧s'=s∧∃sO sR dW ys',rest=List.zip dW ys'∧ItemsAre (agM prog w) sO dW∧ItemsAre (agM prog w) sR ys'∧ltI sO sR=ltI x y∧decide (dW.length<ys'.length)=decide (xs.size<ys.size)) _ ?_ ?_ _ _ ⟨rfl,rfl,x,y,xs.toList,ys.toList,rfl,Q2,j_,rfl,by simp⟩
 ·rintro⟨u,v⟩ rest r s' ⟨ay,rfl,sO,sR,dW,ys',bj,h1,h2,av,aU⟩;cases h1 with
  |nil=>simp at bj
  | @cons k1 fZ gp mV g1 h1=>
    cases h2 with
    |nil=>simp at bj
    | @cons k2 gn ff Zt g2 h2=>
      simp only[aet,aff,ahY]at bj;obtain⟨⟨rfl,rfl⟩,rfl⟩:=bj;refine acU ((agM prog w).eqBool g1 g2 ?_);by_cases e:k1=k2
      ·subst e;simp only[decide_true,agp,adx,if_false];refine ac5 ⟨rfl,rfl,gp,ff,mV,Zt,rfl,h1,h2,?_,by simpa using aU⟩;rw[←av];simp[ltI]
      ·simp only[decide_eq_false e,ac9,if_true];obtain⟨t1,rfl⟩:=af9 g1;obtain⟨d7,rfl⟩:=af9 g2;refine acU (afP (acU (VO ?_)));rw[←av]at h;simp only[ltI,if_neg e]at h;exact acU (ac5 (ac5 (ac5 h)))
 ·rintro⟨aq,bp⟩ s' ⟨ay,rfl,sO,sR,dW,ys',bj,h1,h2,av,aU⟩;simp only at ay;subst ay;refine ac5 ?_;have fin:decide (xs.size<ys.size)=ltI x y:=by
   rw[←av,←aU];cases h1 with
   |nil=>cases h2<;>simp[ltI]
   |cons _ _=>cases h2 with
    |nil=>simp[ltI]
    |cons _ _=>simp at bj
  show P (.done (.ret (.bool (decide (xs.size<ys.size))))) s';rw[fin];exact h
theorem VP{x y:List Int}{a b:ac1}{Q:acV→acW→Prop}(aV:A.units<aeB)(aA:ahg (agM prog w) s.heap x a)(b8:ahg (agM prog w) s.heap y b)(h:Q (.bool (ltI x y)) s) :
  adi (adj prog w) A (richCompare .Lt (.ref a) (.ref b)) Q E s:=
 wpAny_richCompare_same_room (op:=.Lt) aA.typeIs b8.typeIs F.slot_tuple_lt (aeI F.slot_tuple_lt aA.typeIs F.entry_tuple_lt (Q_ aA b8 ⟨_,rfl,(fun e=>nomatch e),h⟩) (F.args_tuple_lt_2 _ _)) aV
structure ic(prog:ac_)(w:adB)(h:adT)(v:acV)(k:Int×Int×Int):Prop where
 ex:∃a o m b t,v=.ref a∧h.get? a=some o∧o.cls=.type "tuple"∧o.data=.seq #[.int k.1 t,.ref b] m∧ahg (agM prog w) h [k.2.1,k.2.2] b
def g0(k:Int×Int×Int):List Int:=[k.1,k.2.1,k.2.2]
theorem ic.inj{h:adT}{v:acV}{k k':Int×Int×Int}(x:ic prog w h v k)(y:ic prog w h v k'):k=k':=by obtain⟨a,o,m,b,t,rfl,aH,ax,hd,J⟩:=x.ex;obtain⟨ij,cc,eD,b',t',e,fW,rU,i8,oP⟩:=y.ex;cases e;rw[aH]at fW;cases fW;rw[hd]at i8;simp at i8;obtain⟨⟨⟨ae,_⟩,rfl⟩,_⟩:=i8;have au:=J.inj oP;simp at au;obtain⟨k1,k2,k3⟩:=k;obtain⟨Rz,RA,RB⟩:=k';simp at ae au ⊢;exact⟨ae,au⟩
theorem RR(b:Bool)(x y:acV):keyLt' (tuples' b) x y=(do
  let xs ←agJ x;let ys ←agJ y
  for ((p,q),i) in(xs.toList.zip ys.toList).zipIdx do
   if !(←eqBool p q)then return ←oneLt' (b&&i==0) p q
  return xs.size<ys.size):=rfl
theorem Uj{x y:acV}{Q:Bool→acW→Prop}(h:adi (adj prog w) A (richCompare .Lt x y) (fun v s'=>∃c,v=.bool c∧Q c s') E s):adi (adj prog w) A (oneLt' false x y) Q E s:=by rw[oneLt'_eq];simp only[adx,if_false];refine acU (adY h (fun v s'⟨c,e,q⟩=>?_) fun _ _ e=>e);subst e;exact adK q
theorem SU{x y:acV}{k k':Int×Int×Int}{Q:Bool→acW→Prop}(aV:A.units<aeB)(aA:ic prog w s.heap x k)(b8:ic prog w s.heap y k')(h:Q (ltI (g0 k) (g0 k')) s):adi (adj prog w) A (keyLt' (tuples' true) x y) Q E s:=by
 obtain⟨a,o,m,b,t,rfl,aH,ax,hd,J⟩:=aA.ex;obtain⟨ij,cc,eD,b',t',rfl,fW,rU,i8,oP⟩:=b8.ex;rw[RR];refine acU (aha aH hd (acU (aha fW i8 ?_)));simp only[aet,List.zip_nil_left,afE,ag6,afU,ahA,g0,ltI]at h ⊢;refine acU (acU (acU (wpAny_eqBool_int ?_)));by_cases e:k.1=k'.1
 ·rw[if_pos e]at h;rw[if_neg (by simp[e])];refine ac5 ?_;dsimp only;refine acU (acU (wpAny_eqBool_tuple aV J oP ?_));by_cases au:k.2.1=k'.2.1∧k.2.2=k'.2.2
  ·rw[if_neg (by simp[au.1,au.2])];rw[if_pos au.1,if_pos au.2]at h;exact ac5 (ac5 (ac5 h))
  ·rw[if_pos (by simp;exact Classical.not_and_iff_not_or_not.mp au)];refine acU (Uj (VP aV J oP ⟨_,rfl,ac5 (ac5 (ac5 ?_))⟩));simpa only[ltI]using h
 ·rw[if_neg e]at h;rw[if_pos (by simpa using e)];exact acU (oneLt_int (ac5 (ac5 (ac5 h))))
def Us:KeyOrd:=⟨List Int,ltI,BX,xJ,Iw,xI⟩
open Classical in
noncomputable def xC(prog:ac_)(w:adB)(h:adT):KeyKind:={ Us with keyOf:=fun v=>if q:∃k,ic prog w h v k then some (g0 (choose q))else none,dflt:=[] }
theorem BQ{h:adT}{v:acV}{k:Int×Int×Int}(x:ic prog w h v k):(xC prog w h).keyOf v=some (g0 k):=by have q:∃k,ic prog w h v k:=⟨k,x⟩;exact(dif_pos q).trans (congrArg (fun z=>some (g0 z)) ((aeT q).inj x))
theorem ic.mono{h h':adT}{v:acV}{k:Int×Int×Int}(m:∀b o,h.get? b=some o→h'.get? b=some o)(x:ic prog w h v k):ic prog w h' v k:=by obtain⟨a,o,m1,b,t,e,aH,ax,hd,cf,it,n,g,r⟩:=x.ex;exact⟨a,o,m1,b,t,e,m _ _ aH,ax,hd,cf,it,n,m _ _ g,r⟩
theorem B5{β:Type}{f:acV→Sem β}{g:acV→β}:∀{vs:List acV}{Q:List β→acW→Prop},(∀v∈vs,∀(R:β→acW→Prop),R (g v) s→adi (adj prog w) A (f v) R E s)→Q (vs.map g) s→adi (adj prog w) A (vs.mapM f) Q E s
 |[],Q,_,h=>by rw[List.mapM_nil];exact ac5 h
 |v::vs,Q,hf,h=>by rw[List.mapM_cons];refine acU (hf v (by simp) _ (acU (B5 (fun u aV=>hf u (by simp[aV])) (ac5 h))))
theorem RY{vs:List acV}{g:acV→acV}{T:String}{Q:afO→acW→Prop}(aU:vs≠[])(h1:∀v∈vs,∃a o m r,v=.ref a∧s.heap.get? a=some o∧o.cls=.type "tuple"∧o.data=.seq (g v::r).toArray m)(h2:∀v∈vs,s.TypeIs (g v) T)(h:Q (tuples' (ae6 T !=.type "tuple")) s) :
  adi (adj prog w) A (keyKind' vs.toArray) Q E s:=by
 rw[keyKind'_eq,List.mapM_toArray];rw[map_eq_pure_bind];refine acU (acU (B5 (g:=fun v=>some (g v)) (fun v bP R tL=>?_) (ac5 ?_)))
 ·obtain⟨a,o,m,r,rfl,aH,ax,hd⟩:=h1 v bP;show adi _ _ (typeOf (.ref a)>>=_) R E s;refine acU (wpAny_typeOf ⟨o,aH,ax⟩ ?_);rw[if_neg (by simp)];refine acU (aha aH hd (ac5 ?_));simpa using tL
 ·rw[if_pos (by simp)];refine acU (afP ?_);have e:Array.filterMap id (vs.map fun v=>some (g v)).toArray=(vs.map g).toArray:=by simp
  rw[e,oneTypeOnly'_eq,List.mapM_toArray,map_eq_pure_bind];refine acU (acU (acU (B5 (g:=fun _=>.type T) (fun v bP R tL=>?_) (ac5 ?_))))
  ·obtain⟨u,aV,rfl⟩:=List.mem_map.mp bP;exact wpAny_typeOf (h2 u aV) tL
  ·obtain⟨v,r,rfl⟩:=List.exists_cons_of_ne_nil aU;have cI:(List.map (fun _=>ae6 T) (List.map g (v::r))).toArray[0]?=some (.type T):=by simp
   rw[cI];dsimp only;rw[if_pos (by simp)];exact ac5 (ac5 h)
end
section
variable{prog:ac_}{w:adB}{A:adp}{E:acV→acW→Prop}{s:acW}
theorem DE{a:ac1}{vs:List acV}{n:Nat}{κ:KeyKind}{kd:afO}{P:Fin→acW→Prop}(aH:s.heap.get? a=some (afK "list" vs.toArray n))(qm:vs.length<64)(aK:∀h':adT,(∀b o,b≠a→s.heap.get? b=some o→h'.get? b=some o)→vs≠[]→(∀R:afO→acW→Prop,R kd { s with heap:=h' }→adi (adj prog w) A (keyKind' vs.toArray) R E { s with heap:=h' })∧l9 prog w A { s with heap:=h' } kd κ (pairsOf vs))(h:∀t:ae3,(adD t).Perm (pairsOf vs)→ad3 κ (adD t) (pairsOf vs).size→P (.done (.ret .none)) { s with heap:=sortedHeap s.heap a vs ((adD t).map (·.2)) }) :
  adi (adj prog w) A (ahM.«list.sort» ⟨[.ref a],[]⟩) P E s:=by
 rw[list_sort_plain];have U:a<s.heap.objs.size:=acZ aH;obtain⟨ae,g1⟩:∃ae,(s.heap.update a (aep fun _=> #[])).get? a=some (afK "list" #[] ae):=⟨_,get?_update_seq aH (fun _=> #[])⟩;refine acU (aha aH rfl (acU (listUpdate_at aH rfl (acU (seqEpoch_at g1 rfl (acU (wpAny_newTuple (acU (wpAny_newList (afL ?_))))))))));have keep:∀b o,b≠a→s.heap.get? b=some o→(((s.heap.update a (aep fun _=> #[])).push (afK "tuple" vs.toArray 0)).push (afK "list" #[] 0)).get? b=some o:=fun b o nb e=>
  acS _ (acS _ (by rw[Heap.get?_update_ne _ _ _ _ nb];exact e))
 have mx:(((s.heap.update a (aep fun _=> #[])).push (afK "tuple" vs.toArray 0)).push (afK "list" #[] 0)).get? a=some (afK "list" #[] ae):=acS _ (acS _ g1);show adi (adj prog w) A _ P E { s with heap:=((s.heap.update a (aep fun _=> #[])).push (afK "tuple" vs.toArray 0)).push (afK "list" #[] 0) };dsimp only;by_cases z:vs.toArray.size<2
 ·rw[if_pos z,if_pos z];refine acU (ac5 ?_);rw[StateT.run_pure];refine acU (ac5 (acU (seqEpoch_at mx rfl (acU (listUpdate_at mx rfl ?_ (hsz2:=by rw[Array.size_map];show(pairsOf vs).size≤_;rw[af6,aeR];omega))))));simp only[bne_self_eq_false,adx,if_false];refine ac5 (h (SortSt.mk' general' (vs.toArray.zip vs.toArray) #[] 7 none) (aij _) fun i j c d=>?_);have z:vs.length<2:=by simpa using z
  have:i=j:=by rw[af6]at d;omega
  subst this;exact aeA _
 ·rw[if_neg z,if_neg z];have z:¬vs.length<2:=by simpa using z
  obtain⟨k1,k2⟩:=aK _ keep (by intro e;subst e;simp at z)
  refine acU (k1 _ (acU (adY (V3 (κ:=κ) k2 (st:=SortSt.mk' kd (vs.toArray.zip vs.toArray) #[] 7 none) (Q:=fun _ t=>(adD t).Perm (pairsOf vs)∧ahX t=none∧ad3 κ (adD t) (pairsOf vs).size)
   ⟨rfl,aij _,rfl,rfl⟩ (by rw[af6];omega) (by rw[af6];exact qm) fun t a1 a2 d3=>⟨a1,a2,d3⟩) ?_ fun _ _ e=>e)))
  rintro⟨⟨⟩,t⟩ s' ⟨rfl,a5,hf,aD⟩;dsimp only;refine acU (seqEpoch_at mx rfl (acU (listUpdate_at mx rfl ?_ (hsz2:=by refine adt (ah9 ((Array.size_map ..).trans (a5.size_eq.trans (af6 _)))) ?_;rw[aeR];omega))));rw[hf];simp only[bne_self_eq_false,adx,if_false];exact ac5 (h t a5 aD)
theorem W0{l:ac1}{vs:List acV}{κ:KeyKind}{kd:afO}{Q:acV→acW→Prop}(av:s.heap.IsList l vs.toArray)(qm:vs.length<64)(aK:∀(h':adT)(vO:adp)(zr:acV→acW→Prop),vO.units≤A.units+8→(∀b o,s.heap.get? b=some o→h'.get? b=some o)→vs≠[]→(∀R:afO→acW→Prop,R kd { s with heap:=h' }→adi (adj prog w) vO (keyKind' vs.toArray) R zr { s with heap:=h' })∧l9 prog w vO { s with heap:=h' } kd κ (pairsOf vs))(h:∀t:ae3,(adD t).Perm (pairsOf vs)→ad3 κ (adD t) (pairsOf vs).size→Q (.ref (s.heap.objs.size+1)) { s with heap:=sortedAll s.heap vs ((adD t).map (·.2)) }) :
  adi (adj prog w) A (call (.builtin "sorted") [.ref l]) Q E s:=by
 refine Calls.call_function_entry kind_sorted plain_sorted entry_sorted (args_sorted1 _) ?_;unfold ahM.«sorted»;refine acU (m:=checkCount "sorted" 1 1 _) (ac5 (acU (collect_list av (acU (wpAny_newList ?_)))));have bj:((s.heap.push (afK "list" #[] 0)).update s.heap.objs.size (aep (· ++vs.toArray))).objs.size=s.heap.objs.size+1:=by rw[Heap.size_update,size_push']
 have g:(((s.heap.push (afK "list" #[] 0)).update s.heap.objs.size (aep (· ++vs.toArray))).push (afK "list" vs.toArray 0)).get? (s.heap.objs.size+1)=some (afK "list" vs.toArray 0):=by rw[←bj];exact ac2 _ rfl
 have keep:∀b o,s.heap.get? b=some o→(((s.heap.push (afK "list" #[] 0)).update s.heap.objs.size (aep (· ++vs.toArray))).push (afK "list" vs.toArray 0)).get? b=some o:=fun b o e=>
  acS _ (by rw[Heap.get?_update_ne _ _ _ _ (adn (acZ e))];exact acS _ e)
 show adi _ _ _ _ _ { s with heap:=((s.heap.push (afK "list" #[] 0)).update s.heap.objs.size (aep (· ++vs.toArray))).push (afK "list" vs.toArray 0) };rw[bj];refine acU (afL (aeI slot_list_sort ⟨_,g,rfl⟩ entry_list_sort (DE g qm (fun h' k ne=>aK h' _ _ (by simp only[Around.in1_units];omega) (fun b o e=>k b o (fun z=>absurd (z▸acZ e) (by have:=acZ e;exact fun q=>absurd q (Nat.not_lt.mpr (afn _)))) (keep b o e)) ne) fun t a1 a2=>⟨_,rfl,?_⟩) (args_list_sort _)))
 exact ac5 ⟨_,rfl,h t a1 a2⟩
end
def kc(a b:Int×Int×Int):Bool:=!ltI (g0 b) (g0 a)
def mP(ks:List (Int×Int×Int)):List (Int×Int×Int):=ks.mergeSort kc
theorem vo(ks:List (Int×Int×Int)):(mP ks).Perm ks:=List.mergeSort_perm _ _
theorem OH{a b:Int×Int×Int}(h:g0 a=g0 b):a=b:=by obtain⟨a1,a2,d3⟩:=a;obtain⟨gX,fc,Fd⟩:=b;simp only[g0,aff,and_true]at h;simp only[ahY];exact h
theorem SJ(a b c:Int×Int×Int)(h1:kc a b=true)(h2:kc b c=true):kc a c=true:=by
 unfold kc at*;cases e:ltI (g0 c) (g0 a)with
 |false=>rfl
 |true=>
  rcases Iw _ (g0 b) _ e with z|z
  ·rw[z]at h2;cases h2
  ·rw[z]at h1;cases h1
theorem SI(a b:Int×Int×Int):(kc a b||kc b a)=true:=by
 unfold kc;cases e:ltI (g0 b) (g0 a)with
 |false=>rfl
 |true=>
  cases au:ltI (g0 a) (g0 b)with
  |false=>rfl
  |true=>have:=xJ _ _ _ e au;rw[BX]at this;cases this
theorem W7{ks l:List (Int×Int×Int)}(p:l.Perm ks)(h:l.Pairwise fun a b=>kc a b=true):l=mP ks:=
 List.Perm.eq_of_pairwise (le:=fun a b=>kc a b=true) (fun a b _ _ h1 h2=>by unfold kc at h1 h2;exact OH (xI _ _ (by simpa using h2) (by simpa using h1))) h (List.pairwise_mergeSort SJ SI ks) (p.trans (vo ks).symm)
section
variable{prog:ac_}{w:adB}{A:adp}{E:acV→acW→Prop}{s:acW}
theorem WZ{l:ac1}{vs:List acV}{ks:List (Int×Int×Int)}{Q:acV→acW→Prop}(aV:A.units+64<aeB)(av:s.heap.IsList l vs.toArray)(qm:vs.length<64)(aU:vs.length=ks.length)(aK:∀(i:Nat) v k,vs[i]?=some v→ks[i]?=some k→ic prog w s.heap v k)(h:∀ju:List acV,ju.length=vs.length→(∀(i:Nat) v k,ju[i]?=some v→(mP ks)[i]?=some k→v∈vs∧ic prog w s.heap v k)→Q (.ref (s.heap.objs.size+1)) { s with heap:=sortedAll s.heap vs ju.toArray }) :
  adi (adj prog w) A (call (.builtin "sorted") [.ref l]) Q E s:=by
 classical
 have all:∀v∈vs,∃k,ic prog w s.heap v k:=fun v bP=>by obtain⟨i,ak,rfl⟩:=ae5 bP;exact⟨_,aK i _ _ (acT ak) (acT (by omega))⟩
 obtain⟨nI,oQ⟩:∃nI:acV→Int×Int×Int,∀v∈vs,ic prog w s.heap v (nI v):=⟨fun v=>if q:∃k,ic prog w s.heap v k then agx q else default,fun v bP=>by have q:=all v bP;simp only[dif_pos q];exact aeT q⟩
 have N_:ks=vs.map nI:=by
  apply List.ext_getElem?;intro i;rw[ac4];cases e:vs[i]? with
  |none=>rw[List.getElem?_eq_none_iff]at e;simp;omega
  |some v=>have ak:=(List.getElem?_eq_some_iff.mp e).1;have au:ks[i]?=some ks[i]:=acT (by omega);rw[au,(aK i v _ e au).inj (oQ v (adg e))];rfl
 have pm:∀p∈(pairsOf vs).toList,p.1=p.2∧p.1∈vs:=fun p a5=>by rw[pairsOf_toList]at a5;exact mem_zip_self a5
 refine W0 (κ:=xC prog w s.heap) (kd:=tuples' true) av qm (fun h' vO zr i6 az ne=>⟨fun R tL=>?_,⟨fun ZF x y ZH aA b8 gd=>?_⟩⟩) fun t a5 aD=>?_
 ·have g:∀v∈vs,∃u,(∃a o m r,v=adE a∧h'.get? a=some o∧o.cls=.type "tuple"∧o.data=.seq (u::r).toArray m)∧ahZ { s with heap:=h' } u "int":=fun v bP=>by
    obtain⟨a,o,m,b,t,e,aH,ax,hd,J⟩:=((oQ v bP).mono az).ex;exact⟨_,⟨a,o,m,[.ref b],e,aH,ax,hd⟩,typeIs_int _ _ _⟩
  obtain⟨w3,Hn⟩:∃w3:acV→acV,∀v∈vs,(∃a o m r,v=adE a∧h'.get? a=some o∧o.cls=.type "tuple"∧o.data=.seq (w3 v::r).toArray m)∧ahZ { s with heap:=h' } (w3 v) "int":=⟨fun v=>if q:∃u,(∃a o m r,v=adE a∧h'.get? a=some o∧o.cls=.type "tuple"∧o.data=.seq (u::r).toArray m)∧ahZ { s with heap:=h' } u "int" then agx q else .none,fun v bP=>by have q:=g v bP;simp only[dif_pos q];exact aeT q⟩
  exact RY (s:={ s with heap:=h' }) (g:=w3) (T:="int") ne (fun v bP=>(Hn v bP).1) (fun v bP=>(Hn v bP).2) tL
 ·obtain⟨_,gp⟩:=pm x aA;obtain⟨_,ff⟩:=pm y b8;rw[BQ (oQ _ gp),BQ (oQ _ ff)]at gd;exact SU (s:={ s with heap:=h' }) (by omega) ((oQ _ gp).mono az) ((oQ _ ff).mono az) gd
 ·obtain⟨ju,ev⟩:∃ju:List acV,ju=(adD t).toList.map (·.2):=⟨_,rfl⟩;have fB:(adD t).map (·.2)=ju.toArray:=by rw[ev];apply Array.ext';simp
  have nM:(adD t).toList.Perm (pairsOf vs).toList:=Array.perm_iff_toList_perm.mp a5;have N3:∀p∈(adD t).toList,p.1=p.2∧p.1∈vs:=fun p a5=>pm p (nM.mem_iff.mp a5);have yj:ju.Perm vs:=by
   rw[ev];have:=nM.map (·.2);rw[pairsOf_toList]at this;have e:(vs.zip vs).map (·.2)=vs:=by
    have:∀l:List acV,(l.zip l).map (·.2)=l:=fun l=>by induction l with
     |nil=>rfl
     |cons a l cq=>simp[cq]
    exact this vs
   rwa [e]at this
  have W6:(ju.map nI).Pairwise fun a b=>kc a b=true:=by
   rw[List.pairwise_iff_getElem];intro i j ak cU Pf;have li:i<(adD t).toList.length:=by rw[ev]at ak;simpa using ak
   have SQ:j<(adD t).toList.length:=by rw[ev]at cU;simpa using cU
   have WM:i<(adD t).size:=by simpa using li
   have Ki:j<(adD t).size:=by simpa using SQ
   have q:=aD i j (ae7 Pf) (by rw[←a5.size_eq];exact Ki);have cA:∀n(aU:n<(adD t).size),KK (xC prog w s.heap) (adD t) n=g0 (nI (adD t)[n].2):=fun n aU=>by have m:=N3 (adD t)[n] (by simp);unfold KK;rw[Array.getElem?_eq_getElem aU];show((xC prog w s.heap).keyOf (adD t)[n].1).getD _=_;rw[BQ (oQ _ m.2),m.1];rfl
   rw[cA i WM,cA j Ki]at q;have q:ltI (g0 (nI (adD t)[j].2)) (g0 (nI (adD t)[i].2))=false:=q;unfold kc;simp only[ev,List.getElem_map,Array.getElem_toList];rw[q];rfl
  have ah:ju.map nI=mP ks:=W7 (by rw[N_];exact yj.map nI) W6;rw[fB];refine h ju yj.length_eq fun i v k ae au=>?_;have mv:v∈vs:=yj.mem_iff.mp (adg ae);rw[←ah,ac4,ae]at au;simp at au;exact⟨mv,by rw[←au];exact oQ v mv⟩
end
end LT
namespace a7
open PySem PySem.Spec PyProof.Rows
section
variable{X:aS}
noncomputable def jZ(H:ag)(y:V)(k:Int×Int×Int):Prop:=∃a b,y=.ref a∧H a=some (.tup [.int k.1,.ref b])∧H b=some (.tup [.int k.2.1,.int k.2.2])
theorem H9{pins:List (ac1×Obj)}{σ :St}{H:ag}{s:acW}{y:V}{u:acV}{k:Int×Int×Int}(I:Inv X pins σ H s)(r:RelV y u)(h:jZ H y k):LT.ic X.prog X.w s.heap u k:=by
 obtain⟨a,b,rfl,U,J⟩:=h;cases r;obtain⟨_,its,v1,o,aH,ax,n,hd⟩:=(show e9 X.prog X.w H s.heap a (.tup _)from I.bR a _ U);obtain⟨_,eC,v2,cf,lD,iF,dv,hd2⟩:=(show e9 X.prog X.w H s.heap b (.tup _)from I.bR b _ J);cases v1 with
 |cons hc t1=>
  cases t1 with
  |cons gp d7=>
   cases d7;obtain⟨t,rfl⟩:=hc;cases gp;cases v2 with
   |cons d8 ix=>
    cases ix with
    |cons ff jt=>cases jt;obtain⟨t1,rfl⟩:=d8;obtain⟨d7,rfl⟩:=ff;exact⟨a,o,n,b,t,rfl,aH,ax,hd,cf,_,dv,lD,iF,hd2,.cons (intKind_is _ _ _ _) (.cons (intKind_is _ _ _ _) .nil)⟩
noncomputable def VI(K:PySem.W.Frag):List V→ag→cH→Prop:=fun xs H Q=>∃p ys ks,xs=[.ref p]∧bQ K H p ys∧ys.length<64∧ys.length=ks.length∧(∀(i:Nat) y k,ys[i]?=some y→ks[i]?=some k→jZ H y k)∧
 ∀l zs,H l=none→zs.length=ys.length→(∀(i:Nat) z k,zs[i]?=some z→(LT.mP ks)[i]?=some k→z∈ys∧jZ H z k)→Q (.ref l) (upd H l (.lst zs))
theorem jZ.inj{H:ag}{y:V}{k k':Int×Int×Int}(x:jZ H y k)(z:jZ H y k'):k=k':=by obtain⟨a,b,rfl,U,J⟩:=x;obtain⟨ij,b',e,fV,oP⟩:=z;cases e;rw[U]at fV;simp only[ah7,dG.tup.injEq,aff,V.int.injEq,V.ref.injEq,and_true]at fV;obtain⟨ae,rfl⟩:=fV;rw[J]at oP;simp only[ah7,dG.tup.injEq,aff,V.int.injEq,and_true]at oP;obtain⟨k1,k2,k3⟩:=k;obtain⟨Rz,RA,RB⟩:=k';simp only[ahY];exact⟨ae,oP⟩
theorem Ld{κ:Type}{R:V→κ→Prop}:∀{vs:List acV}{ks:List κ},vs.length=ks.length→(∀(i:Nat) v k,vs[i]?=some v→ks[i]?=some k→∃z,RelV z v∧R z k)→∃zs,Vals zs vs∧zs.length=vs.length∧∀(i:Nat) z k,zs[i]?=some z→ks[i]?=some k→R z k
 |[],_,_,_=>⟨[],.nil,rfl,fun i z k e=>by simp at e⟩
 |v::vs,[],h,_=>by simp at h
 |v::vs,k::ks,h,g=>by
  obtain⟨z,bl,a_⟩:=g 0 v k rfl rfl;obtain⟨zs,dq,dj,dZ⟩:=Ld (vs:=vs) (ks:=ks) (by simpa using h) fun i v k ae au=>g (i+1) v k (by simpa using ae) (by simpa using au);refine⟨z::zs,.cons bl dq,by simp[dj],fun i eh k' ae au=>?_⟩;cases i with
  |zero=>simp at ae au;subst ae au;exact a_
  |succ i=>exact dZ i eh k' (by simpa using ae) (by simpa using au)
theorem M3(aV:X.A.units+64<aeB):hG X (.builtin "sorted") (VI X.K):=by
 intro pins s σ H xs us Q I r h;obtain⟨p,ys,ks,rfl,aP,aU,aK,Hp,q⟩:=h;obtain⟨u,rfl,bM⟩:=vals1 r;cases bM;obtain⟨its,a9,pl,bj⟩:=I.list aP;have hlen:=a9.length;refine LT.WZ (ks:=ks) aV pl.isList (by omega) (by omega) (fun i v k ae au=>?_) fun ju Su g=>?_
 ·obtain⟨y,dk,ct⟩:∃y,ys[i]?=some y∧RelV y v:=by
    have ak:i<ys.length:=by rw[hlen];exact(List.getElem?_eq_some_iff.mp ae).1
    obtain⟨gn,cN,b4⟩:=a9.get (acT ak);rw[ae]at cN;cases cN;exact⟨_,acT ak,b4⟩
  exact H9 I ct (Hp i y k dk au)
 ·have back:∀v∈its,∃y∈ys,RelV y v:=fun v bP=>by
    obtain⟨i,ak,rfl⟩:=ae5 bP;have tR:i<ys.length:=by omega
    obtain⟨gn,cN,b4⟩:=a9.get (acT tR);rw[acT ak]at cN;cases cN;exact⟨_,aeK tR,b4⟩
  have find:∀y∈ys,∃k,jZ H y k:=fun y b8=>by obtain⟨j,cU,rfl⟩:=ae5 b8;exact⟨_,Hp j _ _ (acT cU) (acT (by omega))⟩
  obtain⟨zs,dq,dj,dZ⟩:=Ld (R:=fun z k=>z∈ys∧jZ H z k) (vs:=ju) (ks:=LT.mP ks) (by rw[Su,(LT.vo ks).length_eq];omega) fun i v k ae au=>by obtain⟨g1,g2⟩:=g i v k ae au;obtain⟨y,d8,ff⟩:=back v g1;obtain⟨k',xf⟩:=find y d8;have:=(H9 I ff xf).inj g2;subst this;exact⟨y,ff,d8,xf⟩
  obtain⟨ek,he⟩:=sortedAll_at s.heap its ju.toArray;refine⟨.ref (s.heap.objs.size+1),_,I.laid (a:=s.heap.objs.size+1) (t':=s.toks) (fun b o e=>sortedAll_old e) (afn _) (show e9 X.prog X.w _ _ _ (.lst zs)from⟨by rw[aeR];omega,ju,ek,dq,he⟩),rfl,q _ zs (I.bR.fresh (afn _)) (by omega) dZ⟩
noncomputable def VE:V→List V→ag→cH→Prop:=fun x vs H Q=>∃l xs i y,x=.ref l∧vs=[.int i,y]∧H l=some (.lst xs)∧0≤i∧i<2^63∧xs.length<ade∧Q .non (upd H l (.lst (xs.take (min i.toNat xs.length)++y::xs.drop (min i.toNat xs.length))))
theorem Ti:sZ X "list.insert" VE:=by
 intro pins s σ H x vs v us Q I bM b4 h;obtain⟨l,xs,i,y,rfl,rfl,hl,h1,h2,bj,q⟩:=h;cases bM;obtain⟨u,jt,rfl,⟨t,rfl⟩,dV⟩:∃u jt,us=[u,jt]∧RelV (.int i) u∧RelV y jt:=by
  cases b4 with
  |cons a1 gX=>cases gX with
   |cons a2 fc=>cases fc;exact⟨_,_,rfl,a1,a2⟩
 obtain⟨z,its,n,r,av,e⟩:=I.oY hl;refine agb F.slot_list_insert ⟨_,e,rfl⟩ F.entry_list_insert (F.args_list_insert_3 _ _ _) (AutoListH.list_insert_list_int_val_1 l its.toArray n i t jt (by rw[fitsIndex_both (by omega) h2];simp) (by rw[acY];omega)) ⟨e,?_⟩;refine⟨.non,_,I.ud (its':=its.take (min i.toNat xs.length)++jt::its.drop (min i.toNat xs.length)) hl e ?_ ((r.take _).append (.cons dV (r.drop _))) ?_,rfl,q⟩
 ·dsimp only;rw[if_neg (by omega),acY,←av];apply Array.ext';simp[List.extract_eq_take_drop];exact afi (by rw[agv];omega)
 ·rw[adA,adf,agt,agv];omega
end
end a7
namespace bu
open PySem PySem.Spec a7 PyProof.Rows
section
variable{X:aS}{F:bg}{e a b c:adq}{ah:List adq}{pos p:Pos}{m n:aN}{ma:aW}
def RS:D→Option Key
 |.int i=>some (.inl i)
 |.str x=>some (.inr x)
 |_=>none
noncomputable def keysOf:List D→Option (List Key)
 |[]=>some []
 |d::ds=>match RS d,keysOf ds with
  |some k,some ks=>some (k::ks)
  |_,_=>none
def XJ:D→Option (List Key)
 |.tup ds=>keysOf ds
 |_=>none
noncomputable def K3:List D→Option (List (List Key))
 |[]=>some []
 |d::ds=>match XJ d,K3 ds with
  |some k,some ks=>some (k::ks)
  |_,_=>none
noncomputable def aat:List D→R D
 |[.lst ds]=>if ds.length<77 then match K3 ds with
  |some ks=>.ok (.int (hI.NK ks).length)
  |none=>.bad
  else .bad
 |_=>.bad
noncomputable def uq(i:Nat)(m:aN):c6:=fun ρ=>(ownAt i ρ).bind fun ds=>(m ρ).bind fun d=>match d with
 |.lst ah=>if ds.length+ah.length≤1000000 then .ok (.non,ρ.set i (.br (ds++ah)))else .bad
 |_=>.bad
theorem YD (i:Nat) {x:Str} {bC:Pos} {apos:Pos} {b6:Pos} (he:bh X F e m) (b7:X.N[i]?=some x:=by rfl) (bP:fL X.env.scope x:=by first|exact adN rfl|exact ads (adN rfl)|exact ads (ads rfl)) (hd:(x==("__debug__" :Str))=false:=by decide) (dy:(x==("__classdict__" :Str))=false:=by decide)(gy:adJ (.Name x bC) "extend" X.env (adW (.Name x bC) X.env)=adW (.Name x bC) X.env:=by rfl) (gz:(apos.endLine==b6.line)=true:=by rfl)(hy:((adF b6 (acX [e] X.env)).all (fun x=>!x.1)&&(aeq b6 (adS [] X.env)).all (fun x=>x.1.isSome)
    &&decide (([e]:List adq).length+([]:List aeh).length+(if([]:List aeh).isEmpty then 0 else 1)<30))=true:=by rfl)
  (aD:acX [e] X.env=(false,adW e X.env)::acX [] X.env:=by rfl) (hz:(adF b6 (acX [] X.env)).any (·.1)=false:=by rfl) :
  fx X F (.Call (.Attribute (.Name x bC) "extend" apos) [e] [] b6) (uq i m):=by
 refine⟨a4.imp (n1 PySem.F.plainAttrs_list PySem.F.slot_list_extend PySem.F.type_list_extend Tg (fY b7 bP hd dy) (hp he.1 kl aD) gy hy gz aD hz) ?_⟩;rintro σ H Q ⟨G,ρ,r,h⟩;unfold uq ownAt at h;cases cb:ρ[i]? with
 |none=>rw[cb]at h;exact h.elim
 |some s=>
  rw[cb]at h;cases s with
  |un=>exact h.elim
  |ao _=>exact h.elim
  |cy _=>exact h.elim
  |dg _ _=>exact h.elim
  |ob ob=>
   cases ob with
   |bH _ _=>exact h.elim
   |ins _ _ _=>exact h.elim
   |lst ds=>
    obtain⟨q,xs,ae,h1,h2,h3,h4⟩:=r.own cb;rw[R.bo]at h;refine⟨.ref q,ae,.inl ⟨rfl,xs,bQ.of h1⟩,G,ρ,r,?_⟩;cases aj:m ρ with
    |bad=>rw[aj]at h;exact h.elim
    |exc c=>rw[aj]at h;exact h
    |ok d=>
     rw[aj,R.bo]at h;intro v H1 aM aq s1 bc;obtain⟨dS,dW,eJ,cO,cP,oM,gJ⟩:=aq.own cb;rw[ae]at eJ;cases eJ;cases d with
     |lst ah=>
      simp only at h
      split at h
      ·rename_i av;simp only[At]at bc;obtain⟨cj,ys,rfl,g2,bN⟩:=bc;refine⟨q,cj,dW,ys,rfl,rfl,cO,aq.az.sub _ _ g2,by rw[←gJ.length,←bN.length,aeR];omega,?_⟩;exact h .non _ aM (aq.mut cb ae (gJ.append bN)) s1.g (by simp only[At])
      ·exact h.elim
     |_=>exact h.elim
noncomputable def o5(i:Nat)(m n:aN):c6:=fun ρ=>(ownAt i ρ).bind fun ds=>(m ρ).bind fun d=>(n ρ).bind fun y=>match d with
 |.int k=>if 0≤k∧k<2^63∧ds.length<1000000 then .ok (.non,ρ.set i (.br (ds.take (min k.toNat ds.length)++y::ds.drop (min k.toNat ds.length))))else .bad
 |_=>.bad
theorem YE (i:Nat) {x:Str} {bC:Pos} {apos:Pos} {b6:Pos} (U:bh X F a m) (J:bh X F b n) (b7:X.N[i]?=some x:=by rfl) (bP:fL X.env.scope x:=by first|exact adN rfl|exact ads (adN rfl)|exact ads (ads rfl)) (hd:(x==("__debug__" :Str))=false:=by decide) (dy:(x==("__classdict__" :Str))=false:=by decide)(gy:adJ (.Name x bC) "insert" X.env (adW (.Name x bC) X.env)=adW (.Name x bC) X.env:=by rfl) (gz:(apos.endLine==b6.line)=true:=by rfl)(hy:((adF b6 (acX [a,b] X.env)).all (fun x=>!x.1)&&(aeq b6 (adS [] X.env)).all (fun x=>x.1.isSome)
    &&decide (([a,b]:List adq).length+([]:List aeh).length+(if([]:List aeh).isEmpty then 0 else 1)<30))=true:=by rfl)
  (aD:acX [a,b] X.env=(false,adW a X.env)::acX [b] X.env:=by rfl) (et:acX [b] X.env=(false,adW b X.env)::acX [] X.env:=by rfl) (hz:(adF b6 (acX [b] X.env)).any (·.1)=false:=by rfl) :
  fx X F (.Call (.Attribute (.Name x bC) "insert" apos) [a,b] [] b6) (o5 i m n):=by
 refine⟨a4.imp (n1 PySem.F.plainAttrs_list PySem.F.slot_list_insert PySem.F.type_list_insert Ti (fY b7 bP hd dy) (hp U.1 (hp J.1 kl et) aD) gy hy gz aD hz) ?_⟩;rintro σ H Q ⟨G,ρ,r,h⟩;unfold o5 ownAt at h;cases cb:ρ[i]? with
 |none=>rw[cb]at h;exact h.elim
 |some s=>
  rw[cb]at h;cases s with
  |un=>exact h.elim
  |ao _=>exact h.elim
  |cy _=>exact h.elim
  |dg _ _=>exact h.elim
  |ob ob=>
   cases ob with
   |bH _ _=>exact h.elim
   |ins _ _ _=>exact h.elim
   |lst ds=>
    obtain⟨q,xs,ae,h1,h2,h3,h4⟩:=r.own cb;rw[R.bo]at h;refine⟨.ref q,ae,.inl ⟨rfl,xs,bQ.of h1⟩,G,ρ,r,?_⟩;cases aj:m ρ with
    |bad=>rw[aj]at h;exact h.elim
    |exc c=>rw[aj]at h;exact h
    |ok d=>
     rw[aj,R.bo]at h;intro v H1 aM aq s1 bc;refine⟨aM,ρ,aq,?_⟩;cases bx:n ρ with
     |bad=>rw[bx]at h;exact h.elim
     |exc c=>rw[bx]at h;exact h
     |ok y=>
      rw[bx,R.bo]at h;intro v2 aX ck bp s2 MA;obtain⟨dS,dW,eJ,cO,cP,oM,gJ⟩:=bp.own cb;rw[ae]at eJ;cases eJ;cases d with
      |int k=>
       simp only[At]at bc;subst bc;simp only at h
       split at h
       ·rename_i aK;have av:=gJ.length;refine⟨q,dW,k,v2,rfl,rfl,cO,aK.1,aK.2.1,by rw[aeR];omega,?_⟩;rw[←av];exact h .non _ ck (bp.mut cb ae ((gJ.take _).append (.cons MA (gJ.drop _)))) (s1.trans s2).g (by simp only[At])
       ·exact h.elim
      |_=>exact h.elim
noncomputable def IG(ma:aW)(m:aN):aW:=fun ρ=>(ma ρ).bind fun ds=>(m ρ).bind fun d=>match d with
 |.lst ah=>if ds.length+ah.length≤1000000 then .ok (ds++ah)else .bad
 |_=>.bad
noncomputable def IF(m n:aN):aW:=fun ρ=>(m ρ).bind fun c=>(n ρ).bind fun d=>match c,d with
 |.lst ds,.lst ah=>if ds.length+ah.length≤1000000 then .ok (ds++ah)else .bad
 |_,_=>.bad
def rM(k:Int×Int×Int):D:=.tup [.int k.1,.tup [.int k.2.1,.int k.2.2]]
def BO:D→Option (Int×Int×Int)
 |.tup [.int n,.tup [.int h,.int d]]=>some (n,h,d)
 |_=>none
noncomputable def qy:List D→Option (List (Int×Int×Int))
 |[]=>some []
 |d::ds=>match BO d,qy ds with
  |some k,some ks=>some (k::ks)
  |_,_=>none
noncomputable def vm:List D→R (List D)
 |[.lst ds]=>if ds.length<64 then match qy ds with
  |some ks=>.ok ((LT.mP ks).map rM)
  |none=>.bad
  else .bad
 |_=>.bad
def xW(m:aW):aW:=fun ρ=>(m ρ).bind vm
theorem RM{d:D}{k:Int×Int×Int}(h:BO d=some k):d=rM k:=by
 unfold BO at h
 split at h
 ·cases h;rfl
 ·cases h
theorem FK{K:PySem.W.Frag}{G:ag}{v:V}{k:Int×Int×Int}:At K G (rM k) v↔jZ G v k:=by
 unfold rM jZ;simp only[At,aT];constructor
 ·rintro⟨a,xs,rfl,g,v1,aq,rfl,rfl,v2,bp,rfl,⟨b,ys,rfl,g2,dq,s1,rfl,rfl,dj,s2,rfl,rfl,rfl⟩,rfl⟩;exact⟨a,b,rfl,g,g2⟩
 ·rintro⟨a,b,rfl,g,g2⟩;exact⟨a,_,rfl,g,_,_,rfl,rfl,_,_,rfl,⟨b,_,rfl,g2,_,_,rfl,rfl,_,_,rfl,rfl,rfl⟩,rfl⟩
theorem H7:∀{ds:List D}{ks:List (Int×Int×Int)},qy ds=some ks→ds=ks.map rM
 |[],ks,h=>by simp only[qy]at h;cases h;rfl
 |d::ds,ks,h=>by
  simp only[qy]at h
  split at h
  ·rename_i k aao ae au;cases h;rw[RM ae,H7 au];rfl
  ·cases h
theorem Fc{K:PySem.W.Frag}{G:ag}:∀{ds:List D}{xs:List V},xs.length=ds.length→(∀(i:Nat) x d,xs[i]?=some x→ds[i]?=some d→At K G d x)→aT K G ds xs
 |[],[],_,_=>.nil
 |[],_::_,h,_=>by simp at h
 |_::_,[],h,_=>by simp at h
 |d::ds,x::xs,h,g=>.cons (g 0 x d rfl rfl) (Fc (by simpa using h) fun i x d ae au=>g (i+1) x d (by simpa using ae) (by simpa using au))
theorem Y4(aV:X.A.units+64<aeB)(hm:X.mg "sorted"=none)(U:eZ X F [e] ma)(aY:F.K=X.K:=by rfl)(aI:dF X "sorted":=by rfl)(he:acX [e] X.env=(false,adW e X.env)::acX [] X.env:=by rfl)(di:(adF pos (acX [] X.env)).any (·.1)=false:=by rfl) :
  jA X F (.Call (.Name "sorted" p) [e] [] pos) (xW ma):=by
 refine⟨a4.imp (Cq (M3 aV) aI hm (by kernel_rfl) U.1 (by decide) (by decide) he di) ?_⟩;rintro σ H Q ⟨G,ρ,r,h⟩;unfold xW at h;refine⟨G,ρ,r,?_⟩;cases aj:ma ρ with
 |bad=>rw[aj]at h;exact h.elim
 |exc c=>rw[aj]at h;exact h
 |ok ds=>
  rw[aj,R.bo]at h;intro vs H1 aM aq s1 a;unfold vm at h
  split at h
  ·split at h
   ·split at h
    ·rename_i ks d4;obtain⟨v,rfl,bc⟩:=a.one;simp only[At]at bc;obtain⟨q,xs,rfl,aP,fz⟩:=bc;have hd:=H7 d4;subst hd;have av:=fz.length;rw[adk]at av;have Ib:∀(i:Nat) y k,xs[i]?=some y→ks[i]?=some k→jZ aM y k:=fun i y k ae au=>by
      obtain⟨sR,bE,c3⟩:=fz.get (i:=i) (d:=rM k) (by rw[ac4,au];rfl);rw[ae]at bE;cases bE;exact FK.mp c3
     have up:∀{y k},jZ aM y k→jZ H1 y k:=fun⟨a,b,e,g1,g2⟩=>⟨a,b,e,aq.az.sub _ _ g1,aq.az.sub _ _ g2⟩;rename_i _ ed;rw[adk]at ed;refine⟨q,xs,ks,rfl,bQ.of (aq.az.sub _ _ aP),by omega,by omega,fun i y k ae au=>up (Ib i y k ae au),fun l zs xg bj aI=>?_⟩;have IA:(LT.mP ks).length=ks.length:=(LT.vo ks).length_eq;refine h l zs _ aM (aq.lay0 xg) (s1.trans (cG.lay0 xg)) (s1.h.gone xg) dN (aq.az.sub.gone xg) (Fc (by rw[adk];omega) fun i z d ae au=>?_);rw[ac4]at au;cases bE:(LT.mP ks)[i]? with
     |none=>rw[bE]at au;cases au
     |some k=>rw[bE]at au;cases au;obtain⟨m1,m2⟩:=aI i z k ae bE;obtain⟨j,cU,rfl⟩:=ae5 m1;have g1:=Ib j _ _ (acT cU) (acT (by omega));rw[(up g1).inj m2]at g1;exact FK.mpr g1
    ·exact h.elim
   ·exact h.elim
  ·exact h.elim
def S0(k:Str)(i:Int):aN:=fun _=>.ok (.eO [.inr k] [.int i])
end
section
variable{X:aS}{F:bg}{e a b c:adq}{ah:List adq}{pos p:Pos}{m n:aN}{ma:aW}
noncomputable def putN(i:Nat)(ρ:ai)(ds:List D)(v:D):Option Nat→R ez
 |some j=>.ok (.bL (ρ.set i (.br (ds.set j v))))
 |none=>.bad
def putK(i:Nat)(ρ:ai)(ds:List D)(v:D):D→R ez
 |.int j=>putN i ρ ds v (gA ds.length j)
 |_=>.bad
noncomputable def S2(i:Nat)(mk mv:aN):bf:=fun ρ=>(mv ρ).bind fun v=>(ownAt i ρ).bind fun ds=>(mk ρ).bind fun k=>putK i ρ ds v k
noncomputable def zX(i:Nat)(ρ:ai)(aL:List T)(m:aN):Option Nat→R ez
 |some j=>match aL[j]? with
  |some (.lst us)=>(m ρ).bind fun d=>if us.length<1000000 then .ok (.bL (ρ.set i (.cy (.lst (aL.set j (.lst (us++[.ao d])))))))else .bad
  |_=>.bad
 |none=>.bad
def tg(i:Nat)(ρ:ai)(aL:List T)(m:aN):D→R ez
 |.int j=>zX i ρ aL m (gA aL.length j)
 |_=>.bad
def xK(i:Nat)(mk m:aN):bf:=fun ρ=>(ko i ρ).bind fun aL=>(mk ρ).bind fun k=>tg i ρ aL m k
theorem Y6 (i:Nat) {x:Str} {bC sH pos':Pos} {apos b6:Pos} {k:adq} {mk:aN} (aK:bh X F k mk) (tT:pY k) (he:bh X F e m) (b7:X.N[i]?=some x:=by rfl) (bP:fL X.env.scope x:=by first|exact adN rfl|exact ads (adN rfl)|exact ads (ads rfl)) (hd:(x==("__debug__" :Str))=false:=by decide) (dy:(x==("__classdict__" :Str))=false:=by decide)(gy:adJ (.Subscript (.Name x bC) k pos') "append" X.env (adW (.Subscript (.Name x bC) k pos') X.env)=adW (.Subscript (.Name x bC) k pos') X.env:=by rfl) (gz:(apos.endLine==b6.line)=true:=by rfl)(hy:((adF b6 (acX [e] X.env)).all (fun x=>!x.1)&&(aeq b6 (adS [] X.env)).all (fun x=>x.1.isSome)
    &&decide (([e]:List adq).length+([]:List aeh).length+(if([]:List aeh).isEmpty then 0 else 1)<30))=true:=by rfl)
  (aD:acX [e] X.env=(false,adW e X.env)::acX [] X.env:=by rfl) (hz:(adF b6 (acX [] X.env)).any (·.1)=false:=by rfl) :
  dU X F (.Expr (.Call (.Attribute (.Subscript (.Name x bC) k pos') "append" apos) [e] [] b6) sH) (xK i mk m):=by
 refine⟨cS.imp (qV (n1 PySem.F.plainAttrs_list PySem.F.slot_list_append PySem.F.type_list_append uT (qU qx (fY b7 bP hd dy) aK.1 tT) (hp he.1 kl aD) gy hy gz aD hz) (iR _ _ _ _ rfl)) ?_⟩;rintro b2 σ H ⟨G,ρ,r,h⟩;unfold xK at h;cases cb:ko i ρ with
 |bad=>rw[cb]at h;exact h.elim
 |exc c=>exact(K0 cb).elim
 |ok aL=>
  rw[cb,R.bo]at h;have cI:=K1 cb;obtain⟨a,xs,ae,U,wl,bI⟩:=r.root cI;refine⟨.ref a,ae,G,ρ,r,?_⟩;cases d4:mk ρ with
  |bad=>rw[d4]at h;exact h.elim
  |exc c=>rw[d4]at h;exact h
  |ok kd=>
   rw[d4,R.bo]at h;intro w H1 aM aq s1 fM;cases kd with
   |int j=>
    simp only[tg]at h;simp only[At]at fM;cases iE:gA aL.length j with
    |none=>rw[iE]at h;exact h.elim
    |some n=>
     rw[iE]at h;simp only[zX]at h;obtain⟨ij,dW,eJ,fV,pH,x8⟩:=aq.root cI;rw[ae]at eJ;cases eJ;cases eK:aL[n]? with
     |none=>rw[eK]at h;exact h.elim
     |some t=>
      rw[eK]at h;cases t with
      |ao _=>exact h.elim
      |tup _=>exact h.elim
      |lst us=>
       simp only at h;obtain⟨v,ev,jV⟩:=pE pH eK;simp only[cE]at jV;obtain⟨q,ys,rfl,aP,vE⟩:=jV;have tD:fb dW j=some (.ref q):=by unfold fb;rw[←pH.length,iE];exact ev
       refine .inl ⟨a,dW,j,.ref q,rfl,fM,bQ.of fV,tD,.inl ⟨rfl,ys,bQ.of aP⟩,aM,ρ,aq,?_⟩;cases em:m ρ with
       |bad=>rw[em]at h;exact h.elim
       |exc c=>rw[em]at h;exact h
       |ok d=>
        rw[em,R.bo]at h;intro u aX ck bp s2 z1;by_cases qw:us.length<1000000
        ·rw[if_pos qw]at h;obtain⟨gH,Ep,c3,tN,Ed,Tv⟩:=bp.root cI;rw[ae]at c3;cases c3;have BA:Ep=dW:=by
          have:=s2.h _ _ fV;rw[tN]at this;cases this;rfl
         subst BA;have qt:aX q=some (.lst ys):=s2.h _ _ aP;obtain⟨X5,tG,vD⟩:=pE Ed eK;rw[ev]at tG;cases tG;simp only[cE]at vD;obtain⟨qY,Zu,l4,tU,vF⟩:=vD;cases l4;rw[qt]at tU;cases tU;obtain⟨dr,cj⟩:=vF.append (us:=[T.ao d]) (ws:=[u]) (.cons (by simp only[cE];exact z1) .nil);have qT:c0 aX [T.ao d] [u]=[]:=by rw[hk,mu];simp only[aQ,adz]
         rw[qT,adz]at cj;have gi:=bp.Tq cI ae tN eK ev qt dr cj;exact⟨q,ys,u,rfl,rfl,qt,by rw[←vF.length];exact aei qw (by decide),h _ ck _ gi (s1.trans s2).g⟩
        ·rw[if_neg qw]at h;exact h.elim
   |_=>exact h.elim
theorem Zg(i:Nat){x:Str}{p:Pos}(b7:X.N.Nodup)(he:jA X F e ma)(ak:X.N[i]?=some x:=by rfl)(aA:Loc X.env.scope x:=by first|exact adN rfl|exact ads rfl)(aD:afu e (some (.Name x p)) pos.line X.env=pure false:=by rfl)(hf:X.fn x=true∨X.env.scope.names.lookup x=some .local:=by first|exact .inl rfl|exact .inr rfl):dU X F (.Assign [.Name x p] e pos) (gB i ma):=⟨cS.imp (pk b7 ak aA he.1 aD hf) HR⟩
end
section
variable{P:ac_}{w:adB}{K:PySem.W.Frag}{mg:Str→Option acV}{base:adT}{N:List Str}{qual:Str}{scope:aew}{f:ac1}{cd:acV}{A:adp}{outer:List Env}{s0:acW}{f5:ag}{E:cT}{bD aR:ag}
end
section
variable{X:aS}{F:bg}{e:adq}{ah:List adq}{pos p:Pos}{ma:aW}
end
section
variable{X:aS}{F:bg}{e:adq}{pos p:Pos}{m n:aN}{ma:aW}
end
end bu
namespace a7
open PySem PySem.Spec PyProof.Rows
section
variable{X:aS}{i j:Nat}{x n y:Str}{W:ac1}{e:adq}{te:TE}{E:cT}{MR:ad4}{Xh:List ad4}{aL:eT}{UE np a5 pos py:Pos}
end
end a7
namespace bu
open PySem PySem.Spec a7 PyProof.Rows
section
variable{X:aS}{F:bg}{pos:Pos}
end
section
variable{X:aS}{F:bg}{a b:adq}{pos p:Pos}{m n:aN}{ma:aW}
end
end bu
namespace a7
open PySem PySem.Spec PyProof.Rows
section
variable{prog:ac_}{w:adB}{A:adp}{E:acV→acW→Prop}{s:acW}
end
section
variable{X:aS}{pos:Pos}
end
end a7
namespace bu
open PySem PySem.Spec a7 PyProof.Rows
section
variable{X:aS}{F:bg}{e:adq}{ah:List adq}{pos p:Pos}{m n:aN}{ma:aW}
theorem Qz{b1 mt:Str}{mf:List D→R bT}{C:ac1}{E:cT}(aA:F.EX=fun _ _=>False)(ip:gQ F.K b1 C):dQ (cZ F (kN b1 mt 0 mf m aF)) (yH C mt (lW F.K (0+1) mf) [] E (cZ F m) yI):=by
 rintro σ H Q ⟨G,ρ,r,h⟩;unfold kN at h;refine⟨G,ρ,r,?_⟩;cases aj:m ρ with
 |bad=>rw[aj]at h;exact h.elim
 |exc c=>rw[aj]at h;exact h
 |ok d=>
  rw[aj,R.bo]at h;intro x H1 aM aq s1 bZ;cases d with
  |ins e2 ns ds=>
   simp only[n7]at h
   split at h
   ·rename_i ax;obtain⟨tO,iF⟩:=ax;subst tO;have ti:=bZ;simp only[At]at bZ;obtain⟨q,bA,xs,rfl,⟨l7,cp,g1⟩,rfl,al⟩:=bZ;have:=cp.inj ip;subst this;refine⟨q,bA,xs,rfl,aq.az.sub _ _ g1,BW iF,?_⟩;rw[R.bo]at h;have h:hT F G H σ ρ Q ((mf [.ins e2 (xs.map (·.1)) ds]).bind hD):=h;show lW F.K (0+1) mf ([V.ref q]++[]) H1 Q E;rw[adz];exact Kl (xe:=fun _ _ _=>False) aA aq (.cons ti .nil) (by simp) (h.mono s1)
   ·exact h.elim
  |_=>exact h.elim
theorem YI {o:adq} {b1 mt:Str} {k:Nat} {mf:List D→R bT} {pl:Sem Bool} {apos:Pos} (c:m6 X.prog X.w X.K X.mg X.base b1 mt 0 k mf) (ay:dx k X.A) (he:bh X F o m) (hQ:F.EX=fun _ _=>False:=by rfl) (aY:F.K=X.K:=by rfl)(bJ:adW (.Call (.Attribute o mt apos) [] [] pos) X.env=(do
    let dY ←adW o X.env
    agN apos.atName
    let(f,first) ←afB [dY] (aga dY mt pl)
    ahT pos f first (adF pos (acX [] X.env)) (aeq pos (adS [] X.env))):=by rfl) :
  bh X F (.Call (.Attribute o mt apos) [] [] pos) (kN b1 mt 0 mf m aF):=by
 obtain⟨C,f,fd,aO,cp,dO,e3,fT,J⟩:=c.ex;refine⟨a4.imp (UW (pl:=pl) he.1 dO e3 fT ay J .nil n0 bJ) ?_⟩;rw[←aY];exact Qz hQ (by rw[aY];exact cp)
end
end bu
namespace a7
open PySem PySem.Spec PyProof.Rows
section
variable{X:aS}{elts:List adq}{cA:Nat}{mS:Pos}
end
end a7
namespace bu
open PySem PySem.Spec a7 PyProof.Rows
section
variable{X:aS}{F:bg}{a b:adq}{pos p:Pos}{ma:aW}
end
end bu
namespace bu
open PySem PySem.Spec a7
mutual
noncomputable def iP:D→Bool
 |.lst _=>false
 |.cu _=>false
 |.tup ds=>jg ds
 |.ins _ _ ds=>jg ds
 |.eO _ ds=>jg ds
 |.bH _ ds=>jg ds
 |.dI ds=>jg ds
 |_=>true
noncomputable def jg:List D→Bool
 |[]=>true
 |d::ds=>iP d&&jg ds
end
def nE:dG→Bool
 |.lst _=>true
 |_=>false
section
variable{K:PySem.W.Frag}{G G':ag}
theorem fQ.u2(h:∀b o,G b=some o→nE o=false→G' b=some o){a:ac1}{u:dG}(aV:nE u=false)(r:fQ G a u):fQ G' a u:=by
 rcases r with r|⟨o,r⟩
 ·exact .inl (h _ _ r aV)
 ·exact .inr ⟨o,h _ _ r rfl⟩
mutual
theorem At.u2(h:∀b o,G b=some o→nE o=false→G' b=some o):∀{d:D}{v:V},iP d=true→At K G d v→At K G' d v
 |.non,_,_,q=>by simpa only[At]using q
 |.aC _,_,_,q=>by simpa only[At]using q
 |.int _,_,_,q=>by simpa only[At]using q
 |.str _,_,_,q=>by simpa only[At]using q
 |.tup _,_,n,q=>by simp only[At,iP]at q n ⊢;obtain⟨a,xs,e,g,r⟩:=q;exact⟨a,xs,e,h _ _ g rfl,aT.qQ h n r⟩
 |.lst _,_,n,_=>by simp only[iP]at n;cases n
 |.cu _,_,n,_=>by simp only[iP]at n;cases n
 |.dI _,_,n,q=>by
  simp only[At,iP]at q n ⊢;obtain⟨a,xs,e,g,r⟩:=q;refine⟨a,xs,e,?_,aT.qQ h n r⟩;rcases g with g|g
  ·exact .inl (fQ.u2 h rfl g)
  ·exact .inr g
 |.eO _ _,_,n,q=>by simp only[At,iP]at q n ⊢;obtain⟨a,xs,e,g,k,r⟩:=q;exact⟨a,xs,e,h _ _ g rfl,k,aT.qQ h n r⟩
 |.bH _ _,_,n,q=>by simp only[At,iP]at q n ⊢;obtain⟨a,xs,e,g,k,r⟩:=q;exact⟨a,xs,e,h _ _ g rfl,k,aT.qQ h n r⟩
 |.ins _ _ _,_,n,q=>by simp only[At,iP]at q n ⊢;obtain⟨a,bA,xs,e,⟨C,cp,g⟩,k,r⟩:=q;exact⟨a,bA,xs,e,⟨C,cp,h _ _ g rfl⟩,k,aT.qQ h n r⟩
 |.qg _,_,n,q=>by simp only[At]at q ⊢;obtain⟨a,xs,e,⟨C,cp,g⟩,r⟩:=q;exact⟨a,xs,e,⟨C,cp,h _ _ g rfl⟩,r⟩
theorem aT.qQ(h:∀b o,G b=some o→nE o=false→G' b=some o):∀{ds:List D}{vs:List V},jg ds=true→aT K G ds vs→aT K G' ds vs
 |[],_,_,q=>by simpa only[aT]using q
 |_::_,_,n,q=>by simp only[aT,jg,adm]at q n ⊢;obtain⟨v,r,e,a,t⟩:=q;exact⟨v,r,e,At.u2 h n.1 a,aT.qQ h n.2 t⟩
end
end
mutual
noncomputable def ml:T→Bool
 |.ao _=>true
 |.lst aL=>ry aL
 |_=>false
noncomputable def ry:List T→Bool
 |[]=>true
 |t::aL=>ml t&&ry aL
end
mutual
theorem p4{K:PySem.W.Frag}{G H:ag}:∀{t:T}{v:V},ml t=true→cE K G H t v→∀b∈aQ H t v,∃xs,H b=some (.lst xs)
 |.ao _,_,_,_,b,J=>by simp only[aQ]at J;cases J
 |.lst _,_,n,h,b,J=>by
  simp only[cE,ml]at h n;obtain⟨a,xs,rfl,q,r⟩:=h;rw[fU q]at J;rcases List.mem_cons.mp J with rfl|J
  ·exact⟨xs,q⟩
  ·exact E2 n r b J
 |.tup _,_,n,_,_,_=>by simp only[ml]at n;cases n
theorem E2{K:PySem.W.Frag}{G H:ag}:∀{aL:List T}{vs:List V},ry aL=true→cw K G H aL vs→∀b∈c0 H aL vs,∃xs,H b=some (.lst xs)
 |[],_,_,_,b,J=>by rw[mu]at J;cases J
 |_::_,_,n,h,b,J=>by
  simp only[cw,ry,adm]at h n;obtain⟨v,r,rfl,q,t⟩:=h;rw[hk]at J;rcases List.mem_append.mp J with J|J
  ·exact p4 n.1 q b J
  ·exact E2 n.2 t b J
end
def DC:cJ→Bool
 |.ob (.lst _)=>true
 |.ob _=>false
 |.cy t=>ml t
 |.dg _ t=>ml t
 |_=>true
def iu(ρ:ai):Bool:=ρ.all DC
def o1(m:aN):aN:=fun ρ=>(m (d5 ρ)).bind fun d=>if iP d=true∧iu ρ=true then .ok d else .bad
section
variable{F:bg}
theorem P4{m:aN}:dQ (cZ F (o1 m)) (cZ F m):=by
 rintro σ H Q ⟨G,ρ,r,h⟩;refine⟨hN σ ρ G H,d5 ρ,r.plus,?_⟩;unfold o1 at h;cases aj:m (d5 ρ)with
 |bad=>rw[aj]at h;exact h.elim
 |exc c=>rw[aj]at h;exact h
 |ok d=>
  rw[aj,R.bo]at h;intro v H' G' a9 s' a;by_cases hd:iP d=true∧iu ρ=true
  ·rw[if_pos hd]at h;have lS:∀b,b3 H σ ρ b→G b=none:=fun b z=>(r.foot z).2.1;have lR:∀b,b3 H σ ρ b→F.aR b=none:=fun b z=>(r.foot z).2.2;have qR:∀b,b3 H σ ρ b→∃aH,H b=some aH∧nE aH=true:=fun b⟨i,s,o,ae,au,f⟩=>by
    have ak:=List.all_eq_true.mp hd.2 _ (adg ae);cases s with
    |un=>exact f.elim
    |ao _=>exact f.elim
    |cy t=>obtain⟨v,rfl,eW⟩:=f;obtain⟨cc,bE,gn,c3,ok⟩:=r.cB i _ ae;rw[au]at bE;cases bE;cases c3;obtain⟨xs,e⟩:=p4 ak ok.at_ b eW;exact⟨_,e,rfl⟩
    |dg n t=>obtain⟨v,rfl,eW⟩:=f;obtain⟨cc,bE,gn,c3,ok,_⟩:=r.cB i _ ae;rw[au]at bE;cases bE;cases c3;obtain⟨xs,e⟩:=p4 ak ok.at_ b eW;exact⟨_,e,rfl⟩
    |ob ob=>
     have f:o=some (.ref b):=f;obtain⟨c,aH,bE,h1,_,_,h4⟩:=r.obj ae;rw[au,f]at bE;cases bE;cases ob with
     |lst _=>obtain⟨xs,rfl,_⟩:=h4;exact⟨_,h1,rfl⟩
     |bH _ _=>cases ak
     |ins _ _ _=>cases ak
   have off:∀b,¬b3 H σ ρ b→gb H σ ρ G' b=G' b:=fun b n=>by unfold gb;rw[if_neg n]
   have on:∀b,b3 H σ ρ b→gb H σ ρ G' b=none:=fun b n=>by unfold gb;rw[if_pos n]
   have bt:Sub G (gb H σ ρ G'):=fun b o e=>by
    have n:¬b3 H σ ρ b:=fun z=>by rw[lS b z]at e;cases e
    rw[off b n];exact s'.g b o (rT r b o e)
   have qz:∀b,b3 H σ ρ b→∀o,H b=some o→H' b=some o:=fun b z o e=>a9.az.sub _ _ (s'.g _ _ (by rw[kH z];exact e));have rel:Rel F (gb H σ ρ G') H' σ ρ:=by
    refine r.over rfl ⟨fun b o e=>?_,r.az.dh.trans bt,a9.az.bw,fun b J=>?_⟩ bt fun b br=>?_
    ·by_cases n:b3 H σ ρ b
     ·rw[on b n]at e;cases e
     ·rw[off b n]at e;exact a9.az.sub b o e
    ·have n:¬b3 H σ ρ b:=fun z=>J (lR b z);rw[off b n];exact a9.az.new b J
    ·refine⟨?_,on b br,lR b br⟩;cases bx:H b with
     |none=>exact absurd bx (r.foot br).1
     |some o=>exact qz b br o bx
   refine h v H' _ rel ⟨bt,s'.h,fun b J=>?_⟩ (At.u2 (fun b o e ak=>?_) hd.1 a)
   ·by_cases n:b3 H σ ρ b
    ·rw[on b n,lS b n]
    ·rw[off b n,s'.n b J];unfold hN;rw[if_neg n]
   ·have n:¬b3 H σ ρ b:=fun z=>by
      obtain⟨aH,ae,au⟩:=qR b z;have:=s'.g b aH (by rw[kH z];exact ae);rw[e]at this;cases this;rw[ak]at au;cases au
    rw[off b n];exact e
  ·rw[if_neg hd]at h;exact h.elim
end
section
variable{X:aS}{F:bg}{e:adq}
theorem Lu{m:aN}(h:bh X F e m):bh X F e (o1 m):=⟨a4.imp h.1 P4⟩
end
section
variable{K:PySem.W.Frag}{bD aR:ag}{E:cT}
end
section
variable{X:aS}{e:adq}{K:PySem.W.Frag}{bD aR:ag}{E:cT}{m:aN}
end
section
variable{F:bg}
end
section
variable{X:aS}{F:bg}{e o:adq}{ah:List adq}{pos:Pos}{ma:aW}{m n:aN}
end
def jT:List T→Option (List D)
 |[]=>some []
 |.ao d::aL=>(jT aL).map (d::·)
 |_=>none
theorem yS:∀{aL:List T}{ds:List D},jT aL=some ds→aL=ds.map .ao
 |[],ds,h=>by simp only[jT]at h;cases h;rfl
 |t::aL,ds,h=>by
  cases t with
  |ao d=>simp only[jT]at h;obtain⟨r,e,rfl⟩:=Option.map_eq_some_iff.mp h;rw[yS e];rfl
  |_=>simp[jT]at h
theorem K7:∀ds:List D,jT (ds.map .ao)=some ds
 |[]=>rfl
 |d::ds=>by simp only[ac8,jT,K7 ds];rfl
section
variable{K:PySem.W.Frag}{G H:ag}
theorem yK:∀{ds:List D}{xs:List V},aT K G ds xs→cw K G H (ds.map .ao) xs
 |[],xs,h=>by simp only[aT]at h;subst h;exact cw.nil
 |d::ds,xs,h=>by simp only[aT]at h;obtain⟨v,r,rfl,a,t⟩:=h;exact cw.cons (by simp only[cE];exact a) (yK t)
theorem yL:∀{ds:List D}{xs:List V},cw K G H (ds.map .ao) xs→aT K G ds xs
 |[],xs,h=>by simp only[afw,cw]at h;subst h;exact aT.nil
 |d::ds,xs,h=>by simp only[ac8,cw]at h;obtain⟨v,r,rfl,a,t⟩:=h;simp only[cE]at a;exact aT.cons a (yL t)
theorem rS:∀(ds:List D)(xs:List V),c0 H (ds.map .ao) xs=[]
 |[],xs=>mu
 |d::ds,[]=>by simp only[ac8,c0]
 |d::ds,x::xs=>by rw[ac8,hk,rS ds xs];simp only[aQ,List.nil_append]
end
section
variable{F:bg}{G H:ag}{σ :a7.St}{ρ:ai}
theorem Rel.JZ(r:Rel F G H σ ρ){i:Nat}{s s':cJ}{o:Option V}(e:ρ[i]?=some s)(fB: σ[i]?=some o)(q:lq F G H o s')(f:∀b,fw H s' o b→fw H s o b):Rel F G H σ (ρ.set i s'):=by have ak:i<ρ.length:=(List.getElem?_eq_some_iff.mp e).1;have z:=r.n8 (i:=i) (s:=s') (o:=o) ak q fun b eW j t u ne au bE ON=>ne (r.kD i j b _ _ _ _ e au fB bE (f b eW) ON).symm;rw[bu.sG fB]at z;exact z
theorem Rel.XZ(r:Rel F G H σ ρ){i k:Nat}{ds:List D}(e:ρ[i]?=some (.dg k (.lst (ds.map .ao)))):∃a,σ[i]?=some (some (.ref a))∧F.pin k=some (.ref a)∧Rel F G H σ (ρ.set i (.br ds)):=by
 obtain⟨o,ae,v,rfl,⟨dq,dj,dZ⟩,k8⟩:=r.cB i _ e;simp only[cE]at dq;obtain⟨a,xs,rfl,q,gm⟩:=dq;have dH:aQ H (.lst (ds.map .ao)) (.ref a)=[a]:=by rw[fU q,rS]
 rw[dH]at dZ;have:=dZ a (by simp);refine⟨a,ae,k8,r.JZ e ae ⟨a,_,rfl,q,this.1,this.2,xs,rfl,yL gm⟩ fun b eW=>?_⟩;have eW:some (V.ref a)=some (.ref b):=eW;cases eW;exact⟨.ref a,rfl,by rw[dH];simp⟩
theorem Rel.JY(r:Rel F G H σ ρ){i k:Nat}{ds:List D}{a:ac1}(e:ρ[i]?=some (.br ds))(aj: σ[i]?=some (some (.ref a)))(a5:F.pin k=some (.ref a)):Rel F G H σ (ρ.set i (.dg k (.lst (ds.map .ao)))):=by
 obtain⟨b,xs,ae,h1,h2,h3,h4⟩:=r.own e;rw[aj]at ae;cases ae;have dH:aQ H (.lst (ds.map .ao)) (.ref a)=[a]:=by rw[fU h1,rS]
 refine r.JZ e aj ⟨.ref a,rfl,⟨by simp only[cE];exact⟨a,xs,rfl,h1,yK h4⟩,by rw[dH];simp,fun b J=>?_⟩,a5⟩ fun b eW=>?_
 ·rw[dH,af7]at J;subst J;exact⟨h2,h3⟩
 ·obtain⟨v,au,J⟩:=eW;cases au;rw[dH,af7]at J;subst J;rfl
end
noncomputable def nT(i:Nat)(m:c6):c6:=fun ρ=>match ρ[i]? with
 |some (.dg k (.lst aL))=>match jT aL with
  |some ds=>(m (ρ.set i (.br ds))).bind fun x=>match x.2[i]? with
   |some (.ob (.lst eV))=>.ok (x.1,x.2.set i (.dg k (.lst (eV.map .ao))))
   |_=>.bad
  |none=>.bad
 |_=>.bad
theorem QG{F:bg}{i:Nat}{m:c6}:dQ (jo F (nT i m)) (jo F m):=by
 rintro σ H Q ⟨G,ρ,r,h⟩;unfold nT at h
 split at h
 ·rename_i k aL e
  split at h
  ·rename_i ds eL;have:=yS eL;subst this;obtain⟨a,aj,a5,aq⟩:=r.XZ e;refine⟨G,_,aq,?_⟩;cases em:m (ρ.set i (.br ds))with
   |bad=>rw[em]at h;exact h.elim
   |exc c=>rw[em]at h;exact h
   |ok x=>
    obtain⟨d,ρ'⟩:=x;rw[em,R.bo]at h;intro v H' G' a9 s' bc;simp only at h
    split at h
    ·rename_i eV cN;exact h v H' G' (a9.JY cN aj a5) s' bc
    ·exact h.elim
  ·exact h.elim
 ·exact h.elim
section
variable{X:aS}{F:bg}{e:adq}{pos:Pos}{m:aN}{me:c6}
theorem y2(i:Nat)(h:fx X F e me):fx X F e (nT i me):=⟨a4.imp h.1 QG⟩
noncomputable def xV(i:Nat):bf:=fun ρ=>match ρ[i]? with
 |some (.ob o)=>.ok (.rs (ji o) (ρ.set i (.ao (ji o))))
 |_=>.bad
theorem Zd(i:Nat){x:Str}{bC:Pos}(b7:X.N[i]?=some x:=by rfl)(bP:fL X.env.scope x:=by first|exact adN rfl|exact ads (adN rfl)|exact ads (ads rfl))(hd:(x==("__debug__" :Str))=false:=by decide)(dy:(x==("__classdict__" :Str))=false:=by decide) :
  dU X F (.Return (some (.Name x bC)) pos) (xV i):=⟨cS.imp (lT (fY b7 bP hd dy)) fun b2 σ H⟨G,ρ,r,k⟩=>by
 unfold xV at k
 split at k
 ·rename_i o e;obtain⟨a,aH,ae,_⟩:=r.obj e;obtain⟨G',a9,s'⟩:=r.jH e;have ak:i<ρ.length:=(List.getElem?_eq_some_iff.mp e).1;obtain⟨v,au,bc⟩:=a9.ao (i:=i) (d:=ji o) (by rw[adX ak]);exact⟨v,au,k v σ G' H a9 bc⟩
 ·exact k.elim⟩
end
def Vb(a:ac1):Nat→Option V:=fun k=>if k=0 then some (.ref a)else none
def wZ(K:PySem.W.Frag)(G H:ag)(a:ac1):bg:=⟨K,G,H,fun _ _=>False,Vb a⟩
theorem Rel.TB{F F':bg}{G H:ag}{σ :a7.St}{ρ:ai}(r:Rel F G H σ ρ)(aY:F'.K=F.K)(h0:F'.bD=F.bD)(h1:F'.aR=F.aR)(np:∀(i k:Nat)(t:T),ρ[i]?≠some (.dg k t)):Rel F' G H σ ρ:=by
 refine⟨⟨r.az.sub,by rw[h0];exact r.az.dh,by rw[h1];exact r.az.bw,fun b J=>by rw[h1]at J;rw[h0];exact r.az.new b J⟩,r.len,fun i s e=>?_,r.kD⟩;obtain⟨o,ae,q⟩:=r.cB i s e;refine⟨o,ae,?_⟩;cases s with
 |un=>trivial
 |ao d=>obtain⟨v,z,a⟩:=q;exact⟨v,z,by rw[aY];exact a⟩
 |ob ob=>obtain⟨a,aH,bl,a_,h_,jw,l4⟩:=q;exact⟨a,aH,bl,a_,h_,by rw[h1];exact jw,by rw[aY];exact l4⟩
 |cy t=>obtain⟨v,z,dq,dj,dZ⟩:=q;exact⟨v,z,by rw[aY];exact dq,dj,fun b J=>by rw[h1];exact dZ b J⟩
 |dg k t=>exact absurd e (np i k t)
def BG(N:Nat)(ds ah:List D):ai:=.dg 0 (.lst (ds.map .ao))::hS (N-1) ah
noncomputable def u6(d:D)(ρ:ai):R (D×List D):=match(ρ[0]? :Option cJ)with
 |some (.dg 0 (.lst aL))=>match jT aL with
  |some ds=>.ok (d,ds)
  |none=>.bad
 |_=>.bad
def Cm:ez→R (D×List D)
 |.bL ρ=>u6 .non ρ
 |.rs d ρ=>u6 d ρ
 |_=>.bad
def xP(N:Nat)(m:bf)(ds ah:List D):R (D×List D):=(m (BG N ds ah)).bind Cm
theorem MI{K:PySem.W.Frag}{n N:Nat}{m:bf}{vs:List V}{H:ag}{Q:cH}{E:cT}(h:spS K n (xP (N+1) m) vs H Q E) :
  ∃G aR a,eG (wZ K G aR a) m { bL:=fun _ H'=>Q .non H',c_:=Q } (hY (N+1) vs) H:=by
 obtain⟨G,a,xs,ds,ah,ws,rfl,h1,h2,s,q,bc,l,k⟩:=h;have kT:Rel ⟨K,G,del H a,fun _ _=>False,gC⟩ G H (hY (N+1) (.ref a::ws)) (nD (N+1) ds ah):=JV h1 h2 s q bc;have aq:Rel (wZ K G (del H a) a) G H (hY (N+1) (.ref a::ws)) (nD (N+1) ds ah):=kT.TB rfl rfl rfl fun i k t e=>by
  have m:=adg e;unfold nD hS at m;rcases List.mem_cons.mp m with z|m
  ·cases z
  ·rcases List.mem_append.mp m with m|m
   ·obtain⟨d,_,z⟩:=List.mem_map.mp m;cases z
   ·obtain⟨_,z⟩:=List.mem_replicate.mp m;cases z
 have bp:=aq.JY (i:=0) (k:=0) (ds:=ds) (a:=a) rfl rfl rfl;refine⟨G,del H a,a,G,_,bp,?_⟩;unfold xP at k;have fin:∀(d:D)(ρ':ai)(σ' :a7.St)(G' H':ag)(v:V),H6 ⟨K,G,del H a,fun _ _=>False,gC⟩ a Q (u6 d ρ')→Rel (wZ K G (del H a) a) G' H' σ' ρ'→At K G' d v→Q v H':=fun d ρ' σ' G' H' v k r bc=>by
  unfold u6 at k
  split at k
  ·rename_i aL cI
   split at k
   ·rename_i eV eL;have:=yS eL;subst this;obtain⟨o,ae,u,rfl,⟨dq,dj,dZ⟩,k8⟩:=r.cB 0 _ cI;have k8:some (V.ref a)=some u:=k8;cases k8;simp only[cE]at dq;obtain⟨b,ys,bx,dS,gm⟩:=dq;cases bx;have br:=dZ a (by rw[fU dS];simp);exact k v ys G' H' ⟨r.az.sub,r.az.dh,r.az.bw,r.az.new⟩ br.1 dS (yL gm) bc
   ·exact k.elim
  ·exact k.elim
 have fo:(nD (N+1) ds ah).set 0 (.dg 0 (.lst (ds.map .ao)))=BG (N+1) ds ah:=rfl;rw[fo];cases e:m (BG (N+1) ds ah)with
 |bad=>rw[e]at k;exact k.elim
 |exc c=>rw[e]at k;exact k.elim
 |ok f=>
  rw[e,R.bo]at k;cases f with
  |bL ρ'=>exact fun σ' G' H' r s'=>fin .non ρ' σ' G' H' .non k r (by simp only[At])
  |rs d ρ'=>exact fun v σ' G' H' r bc=>fin d ρ' σ' G' H' v k r bc
  |c_ d=>exact k.elim
  |hr ds=>exact k.elim
  |fE t=>exact k.elim
  |fk ρ=>exact k.elim
  |c7 ρ=>exact k.elim
theorem NC{P:ac_}{w:adB}{K:PySem.W.Frag}{mg:Str→Option acV}{base:adT}{x eY g7:Str}{st:ad4}{N aO:List Str}{k:Nat}{m:bf}(d:dE K mg x st (eY::aO))(S:c2 (g7::N) (eY::aO) (bW st))(h:∀(f:ac1)(bV:acV)(A:adp)(outer:List Env)(s:acW)(H:ag)(E:cT),dx k (A.deeper (ady x (bW st) s.heap.objs.size f bV))→∀bD aR a,gW (er fg P w K mg base (g7::N) x (bW st) f bV A outer s H E).gh (wZ K bD aR a) (fl st) m) :
  sY P w K mg base x aO.length (k+1) (xP (N.length+1) m):=by
 obtain⟨f,fd,fn,hm,J⟩:=d.ex;refine⟨f,fd,eY::aO,fn.ok S Kk fun bV A outer s H vs Q E ay aD=>?_,hm,fn.az,J⟩;obtain⟨G,aR,a,bJ⟩:=MI aD;exact⟨_,(h f bV A outer s H E ay G aR a).1,bJ⟩
section
variable{F:bg}{G H:ag}{σ :a7.St}{ρ:ai}
end
noncomputable def xw(F:bg)(G:ag)(σ :a7.St)(b2:Ends):R ai→Prop
 |.ok ρ'=>∀G' H',Rel F G' H' σ ρ'→Sub G G'→b2.bL σ H'
 |.exc c=>ja F c
 |.bad=>False
def yG(F:bg)(m:e1):eT:=fun b2 σ H=>∃G ρ,Rel F G H σ ρ∧xw F G σ b2 (m ρ)
theorem xw.mono{F:bg}{G aM:ag}{σ :a7.St}{b2:Ends}(s:Sub G aM):∀{r:R ai},xw F G σ b2 r→xw F aM σ b2 r
 |.ok _,h=>fun G' H' r bt=>h G' H' r (s.trans bt)
 |.exc _,h=>h
 |.bad,h=>h
structure ta(X:aS)(F:bg)(st:ad4)(m:e1):Prop where
 o:cS X st (yG F m)
structure wb(X:aS)(F:bg)(st:List ad4)(m:e1):Prop where
 o:fi X st (yG F m)
theorem YW{X:aS}{F:bg}{st:ad4}{m:e1}(h:ta X F st m):wb X F [st] m:=⟨vc h.1⟩
section
variable{X:aS}{F:bg}{e c:adq}{pos:Pos}{m:aN}
def nR(k:cL)(a b:e1):e1:=fun ρ=>(k ρ).bind fun c=>if c=true then a ρ else b ρ
theorem YU{st Kw:List ad4}{k:cL}{a b:e1}(h:fj X F c k)(U:wb X F st a)(J:wb X F Kw b):ta X F (.If c st Kw pos) (nR k a b):=by
 refine⟨cS.imp (Cv h.1 U.1 J.1) ?_⟩;rintro b2 σ H ⟨G,ρ,r,h⟩;unfold nR at h;refine⟨G,ρ,r,?_⟩;cases aj:k ρ with
 |bad=>rw[aj]at h;exact h.elim
 |exc c=>rw[aj]at h;exact h
 |ok b=>
  rw[aj,R.bo]at h;intro H1 aM aq s1;cases b with
  |true=>exact⟨aM,ρ,aq,h.mono s1.g⟩
  |false=>exact⟨aM,ρ,aq,h.mono s1.g⟩
end
section
variable{X:aS}{F:bg}{e c:adq}{pos:Pos}{m:aN}
end
section
variable{F:bg}
end
section
variable{X:aS}{F:bg}{k:adq}{pos:Pos}{mk:aN}
end
open Classical in
noncomputable def ly(H:ag)(l:List ac1):ag:=fun b=>if b∈l then none else H b
theorem FJ{H:ag}{l:List ac1}{b:ac1}(h:b∈l):ly H l b=none:=by unfold ly;rw[if_pos h]
theorem tw{H:ag}{l:List ac1}{b:ac1}(h:b∉l):ly H l b=H b:=by unfold ly;rw[if_neg h]
theorem Nu(H:ag)(l:List ac1):Sub (ly H l) H:=fun b o e=>by
 by_cases h:b∈l
 ·rw[FJ h]at e;cases e
 ·rw[tw h]at e;exact e
section
variable{X:aS}{F:bg}{ah:List adq}{pos:Pos}{ma:aW}
end
def ug(m:aW):aW:=fun ρ=>(m (d5 ρ)).bind fun ds=>if jg ds=true∧iu ρ=true then .ok ds else .bad
section
variable{F:bg}
theorem P5{m:aW}:dQ (jr F (ug m)) (jr F m):=by
 rintro σ H Q ⟨G,ρ,r,h⟩;refine⟨hN σ ρ G H,d5 ρ,r.plus,?_⟩;unfold ug at h;cases aj:m (d5 ρ)with
 |bad=>rw[aj]at h;exact h.elim
 |exc c=>rw[aj]at h;exact h
 |ok ds=>
  rw[aj,R.bo]at h;intro p xs H' G' a9 s' aU U aI q;by_cases hd:jg ds=true∧iu ρ=true
  ·rw[if_pos hd]at h;have lS:∀b,b3 H σ ρ b→G b=none:=fun b z=>(r.foot z).2.1;have lR:∀b,b3 H σ ρ b→F.aR b=none:=fun b z=>(r.foot z).2.2;have qR:∀b,b3 H σ ρ b→∃aH,H b=some aH∧nE aH=true:=fun b⟨i,s,o,ae,au,f⟩=>by
    have ak:=List.all_eq_true.mp hd.2 _ (adg ae);cases s with
    |un=>exact f.elim
    |ao _=>exact f.elim
    |cy t=>obtain⟨v,rfl,eW⟩:=f;obtain⟨cc,bE,gn,c3,ok⟩:=r.cB i _ ae;rw[au]at bE;cases bE;cases c3;obtain⟨xs,e⟩:=p4 ak ok.at_ b eW;exact⟨_,e,rfl⟩
    |dg n t=>obtain⟨v,rfl,eW⟩:=f;obtain⟨cc,bE,gn,c3,ok,_⟩:=r.cB i _ ae;rw[au]at bE;cases bE;cases c3;obtain⟨xs,e⟩:=p4 ak ok.at_ b eW;exact⟨_,e,rfl⟩
    |ob ob=>
     have f:o=some (.ref b):=f;obtain⟨c,aH,bE,h1,_,_,h4⟩:=r.obj ae;rw[au,f]at bE;cases bE;cases ob with
     |lst _=>obtain⟨xs,rfl,_⟩:=h4;exact⟨_,h1,rfl⟩
     |bH _ _=>cases ak
     |ins _ _ _=>cases ak
   have off:∀b,¬b3 H σ ρ b→gb H σ ρ G' b=G' b:=fun b n=>by unfold gb;rw[if_neg n]
   have on:∀b,b3 H σ ρ b→gb H σ ρ G' b=none:=fun b n=>by unfold gb;rw[if_pos n]
   have bt:Sub G (gb H σ ρ G'):=fun b o e=>by
    have n:¬b3 H σ ρ b:=fun z=>by rw[lS b z]at e;cases e
    rw[off b n];exact s'.g b o (rT r b o e)
   have qz:∀b,b3 H σ ρ b→∀o,H b=some o→H' b=some o:=fun b z o e=>a9.az.sub _ _ (s'.g _ _ (by rw[kH z];exact e));have rel:Rel F (gb H σ ρ G') H' σ ρ:=by
    refine r.over rfl ⟨fun b o e=>?_,r.az.dh.trans bt,a9.az.bw,fun b J=>?_⟩ bt fun b br=>?_
    ·by_cases n:b3 H σ ρ b
     ·rw[on b n]at e;cases e
     ·rw[off b n]at e;exact a9.az.sub b o e
    ·have n:¬b3 H σ ρ b:=fun z=>J (lR b z);rw[off b n];exact a9.az.new b J
    ·refine⟨?_,on b br,lR b br⟩;cases bx:H b with
     |none=>exact absurd bx (r.foot br).1
     |some o=>exact qz b br o bx
   refine h p xs H' _ rel ⟨bt,s'.h,fun b J=>?_⟩ aU U (by rw[off p (fun z=>(r.foot z).1 aU)];exact aI) (aT.qQ (fun b o e ak=>?_) hd.1 q)
   ·by_cases n:b3 H σ ρ b
    ·rw[on b n,lS b n]
    ·rw[off b n,s'.n b J];unfold hN;rw[if_neg n]
   ·have n:¬b3 H σ ρ b:=fun z=>by
      obtain⟨aH,ae,au⟩:=qR b z;have:=s'.g b aH (by rw[kH z];exact ae);rw[e]at this;cases this;rw[ak]at au;cases au
    rw[off b n];exact e
  ·rw[if_neg hd]at h;exact h.elim
end
section
variable{X:aS}{F:bg}{e:adq}{pos:Pos}
theorem Y3{m:aW}(h:jA X F e m):jA X F e (ug m):=⟨a4.imp h.1 P5⟩
end
section
variable{X:aS}{F:bg}{e:adq}{pos:Pos}
end
end bu
namespace a7
open PySem PySem.Spec PyProof.Rows
theorem ze{z TI bG bB bz l a3:ac1}(ap:td z TI bG bB bz)(jf:∀b∈[z,TI,bG,bB,bz],l≠b)(nl:∀b∈[z,TI,bG,bB,bz],a3≠b):ng z TI bG bB bz [bB,l] [bz,a3]:=by
 refine⟨ap.TIz,ap.TOz,ap.TITO,ap.TIi1,ap.TIi2,ap.TOi1,ap.TOi2,ap.i1z,ap.i2z,ap.i12,?_,?_,?_,?_,?_,?_⟩<;>simp only[aeG,ad7,or_false,not_or]
 ·exact⟨ap.i1z.symm,(jf z (by simp)).symm⟩
 ·exact⟨ap.TOi1,(jf bG (by simp)).symm⟩
 ·exact⟨ap.i12.symm,(jf bz (by simp)).symm⟩
 ·exact⟨ap.i2z.symm,(nl z (by simp)).symm⟩
 ·exact⟨ap.TOi2,(nl bG (by simp)).symm⟩
 ·exact⟨ap.i12,(nl bB (by simp)).symm⟩
theorem ya{X:aS}{pins:List (ac1×Obj)}{σ :St}{H:ag}{s:acW}{l b:ac1}{xs:List V}{L:List ac1}(I:Inv X pins σ H s)(hf:∀b∈L,ia X pins H b)(J:b∈L)(aP:b_ X.K H l xs):l≠b:=fun q=>by
 subst q;rcases aP with(h|⟨o,h⟩)|⟨o,BI,n,h,_⟩
 ·rw[(hf l J).1]at h;cases h
 ·rw[(hf l J).1]at h;cases h
 ·have h1:=I.ok.mod.mC l o h;rcases(hf l J).2.2.2.1 with q|q
  ·exact I.ok.nZ l o h1 q
  ·exact absurd (adb (acZ (I.ok.bs l o h1).1) q) (adU _)
theorem x_{X:aS}{pins:List (ac1×Obj)}{σ :St}{H:ag}{s:acW}{l b:ac1}{xs:List V}{L:List ac1}(I:Inv X pins σ H s)(hf:∀b∈L,ia X pins H b)(J:b∈L)(aP:bQ X.K H l xs):l≠b:=fun q=>by
 subst q;rcases aP with(h|⟨o,h⟩)|⟨o,BI,n,h,_⟩
 ·rw[(hf l J).1]at h;cases h
 ·rw[(hf l J).1]at h;cases h
 ·have h1:=I.ok.mod.mC l o h;rcases(hf l J).2.2.2.1 with q|q
  ·exact I.ok.nZ l o h1 q
  ·exact absurd (adb (acZ (I.ok.bs l o h1).1) q) (adU _)
abbrev za(h:adT)(l:ac1):adT:=h.push { cls:=.type "tuple_iterator",data:=.fields #[.ref l,.int 0 0] }
abbrev zb(h:adT)(l a3:ac1):adT:=(za h l).push { cls:=.type "tuple_iterator",data:=.fields #[.ref a3,.int 0 0] }
abbrev zc(h:adT)(l a3:ac1):adT:=(zb h l a3).push { cls:=.type "tuple",data:=.seq #[.ref h.objs.size,.ref (za h l).objs.size] }
abbrev zd(h:adT)(l a3:ac1):adT:=(zc h l a3).push { cls:=.type "tuple",data:=.seq #[.none,.none] }
abbrev rk(h:adT)(l a3:ac1):adT:=(zd h l a3).push { cls:=.type "zip",data:=.fields #[.none,.bool false,.bool false,.ref (zb h l a3).objs.size,.ref (zc h l a3).objs.size] }
set_option maxHeartbeats 4000000 in
theorem S_(l a3:ac1)(xs ys:Array acV) :
  Meets (ahM.«zip.__new__» ⟨[.type "zip",.ref l,.ref a3],[]⟩) (fun _ R s=>s.heap.IsTuple l xs∧s.heap.IsTuple a3 ys∧R (.ok (.ret (.ref (zd s.heap l a3).objs.size))) { s with heap:=rk s.heap l a3 }):=
 .of_wp fun prog w A R s h=>by
   obtain⟨a5,g,d,c4,os⟩:=s;obtain⟨av,j7,h⟩:=h;have Hw:=sub_zip;have tK:Heap.IsTuple (aii ⟨a5.push { cls:=.type "tuple_iterator",data:=.fields #[.ref l,.int 0 0] },g,d,c4,os⟩) a3 ys:=ah6 j7 _
   wp_walk using ae_ av,ae_ tK
   exact⟨_,rfl,h⟩
theorem M7 {prog:ac_} {w:adB} {A:adp} {E:acV→acW→Prop} {s:acW} {l a3:ac1} {xs ys:Array acV} {Q:acV→acW→Prop} (av:s.heap.IsTuple l xs) (j7:s.heap.IsTuple a3 ys)(h:∀h',agn h' (s.heap.objs.size+4) (s.heap.objs.size+2) (s.heap.objs.size+3) .none→aer h' (s.heap.objs.size+2) (.ref s.heap.objs.size) (.ref (s.heap.objs.size+1))→
    aer h' (s.heap.objs.size+3) .none .none→h'.IsTupleIter s.heap.objs.size l 0→h'.IsTupleIter (s.heap.objs.size+1) a3 0→h'.objs.size=s.heap.objs.size+5→
    (∀c o,s.heap.get? c=some o→h'.get? c=some o)→Q (.ref (s.heap.objs.size+4)) { s with heap:=h' }) :
  adi (adj prog w) A (call (.type "zip") [.ref l,.ref a3]) Q E s:=by
 refine callType_new F.called_zip (by decide) (agy _ _) (ag7 _ _) (fun obj=>afJ obj _ _) ag8 (S_ l a3 xs ys) ⟨av,j7,?_⟩;have bl:(za s.heap l).objs.size=s.heap.objs.size+1:=ado ..;have a_:(zb s.heap l a3).objs.size=s.heap.objs.size+2:=by rw[ado,bl]
 have h_:(zc s.heap l a3).objs.size=s.heap.objs.size+3:=by rw[ado,a_]
 have jw:(zd s.heap l a3).objs.size=s.heap.objs.size+4:=by rw[ado,h_]
 have l4:(rk s.heap l a3).objs.size=s.heap.objs.size+5:=by rw[ado,jw]
 have lA:(rk s.heap l a3).get? (zd s.heap l a3).objs.size=some _:=ac2 _ rfl;have f_:(rk s.heap l a3).get? (zc s.heap l a3).objs.size=some _:=acS _ (ac2 _ rfl);have g3:(rk s.heap l a3).get? (zb s.heap l a3).objs.size=some _:=acS _ (acS _ (ac2 _ rfl));have g2:(rk s.heap l a3).get? (za s.heap l).objs.size=some _:=acS _ (acS _ (acS _ (ac2 _ rfl)));have g1:(rk s.heap l a3).get? s.heap.objs.size=some _:=acS _ (acS _ (acS _ (acS _ (ac2 _ rfl))));show _∧_;rw[a_,h_,jw]at lA;rw[bl,a_]at g3;rw[h_]at f_;rw[bl]at g2;rw[jw];exact⟨⟨_,lA,rfl⟩,h _ lA g3 f_ ⟨_,g1,rfl,rfl⟩ ⟨_,g2,rfl,rfl⟩ l4 fun c o x=>
  acS _ (acS _ (acS _ (acS _ (acS _ x))))⟩
noncomputable def zA(K:PySem.W.Frag)(l a3:ac1):It:=⟨fun i H=>∃xs x ys y,b_ K H l xs∧xs[i]?=some x∧b_ K H a3 ys∧ys[i]?=some y,
 fun i H v H'=>∃p x y,H p=none∧H'=upd H p (.tup [x,y])∧v=.ref p∧(∀xs,b_ K H l xs→xs[i]?=some x)∧∀ys,b_ K H a3 ys→ys[i]?=some y,
 fun i H=>∃xs ys,b_ K H l xs∧b_ K H a3 ys∧i=min xs.length ys.length⟩
theorem XS{P:ac_}{w:adB}{K:PySem.W.Frag}{elts:List adq}{cA:Nat}{pos:Pos}(l a3 z TI bG bB bz:ac1)(ap:td z TI bG bB bz) :
  Turn P w K (.Tuple elts cA pos) (zA K l a3) [z,TI,bG,bB,bz] z (fun i h=>agn h z TI bG .none∧aer h TI (.ref bB) (.ref bz)∧(∃a b,aer h bG a b)∧h.IsTupleIter bB l i∧h.IsTupleIter bz a3 i) where
 mem:=by simp
 obj:=fun i h st b J=>by
  obtain⟨bj,en,⟨a,b',eM⟩,⟨cQ,ae,cp,d1⟩,cf,au,dO,cM⟩:=st;have J:b=z∨b=TI∨b=bG∨b=bB∨b=bz:=by simpa using J
  rcases J with q|q|q|q|q<;>subst q
  ·exact⟨_,bj,fun v z=>by have eh:agh _=aeZ v:=z;cases eh⟩
  ·exact⟨_,en,fun v z=>by have eh:ahd _ _=aeZ v:=z;cases eh⟩
  ·exact⟨_,eM,fun v z=>by have eh:ahd _ _=aeZ v:=z;cases eh⟩
  ·exact⟨cQ,ae,fun v z=>by rw[d1]at z;cases z⟩
  ·exact⟨cf,au,fun v z=>by rw[cM]at z;cases z⟩
 keep:=fun i h h' st k=>by obtain⟨bj,en,⟨a,b',eM⟩,⟨cQ,ae,aq⟩,cf,au,bp⟩:=st;exact⟨k z (by simp) _ bj,k TI (by simp) _ en,⟨a,b',k bG (by simp) _ eM⟩,⟨cQ,k bB (by simp) _ ae,aq⟩,cf,k bz (by simp) _ au,bp⟩
 item:=by
  intro X hP hw aY ax i pins s σ H E I hf st aI;subst hP hw aY;obtain⟨xs,x,ys,y,i9,aA,aP,b8⟩:=aI;obtain⟨fC,n4,lF,BB⟩:=I.tuple i9;obtain⟨its,b4,bJ,tX⟩:=I.tuple aP;obtain⟨bj,en,⟨a,b',eM⟩,jJ,et⟩:=st;have nl:∀b∈[z,TI,bG,bB,bz],a3≠b:=fun b J=>ya I hf J aP;have jf:∀b∈[z,TI,bG,bB,bz],l≠b:=fun b J=>ya I hf J i9;have bw:X.A.in1.handled=none:=I.ok.hd ax;have fI:=rO (prog:=X.prog) (w:=X.w) (A:=X.A.in1) bw bB l (jf bB (by simp)) fC.toArray;have fv:=rO (prog:=X.prog) (w:=X.w) (A:=X.A.in1) bw bz a3 (nl bz (by simp)) its.toArray;have hlen:=b4.length;have qq:=n4.length;have qp:i<ys.length:=(List.getElem?_eq_some_iff.mp b8).1;have Bo:i<xs.length:=(List.getElem?_eq_some_iff.mp aA).1;have jD:ng z TI bG bB bz [bB,l] [bz,a3]:=ze ap jf nl;refine Cz fI fv jD bj en eM ⟨jJ,lF⟩ ⟨et,bJ⟩ (by rw[acY,←qq];exact Bo) (by rw[acY,←hlen];exact qp) fun ix jt h' c4 dr cj a1 a2 d3 gH jB kA aK=>?_;obtain⟨gn,tW,CI⟩:=n4.get aA;have ev:gn=ix:=by rw[aed]at dr;rw[tW]at dr;exact ac0 dr
  subst ev;obtain⟨fZ,qv,dV⟩:=b4.get b8;have eL:fZ=jt:=by rw[aed]at cj;rw[qv]at cj;exact ac0 cj
  subst eL;refine⟨_,rfl,?_⟩;refine ae1 a1 fun h2 tY ho=>?_;have vq:∀b∈[z,TI,bG,bB,bz],b<s.heap.objs.size:=fun b J=>by
   have J:b=z∨b=TI∨b=bG∨b=bB∨b=bz:=by simpa using J
   obtain⟨cQ,ae,_⟩:=jJ;obtain⟨cf,au,_⟩:=et;rcases J with q|q|q|q|q<;>subst q
   ·exact acZ bj
   ·exact acZ en
   ·exact acZ eM
   ·exact acZ ae
   ·exact acZ au
  have pb:∀b∈[z,TI,bG,bB,bz],b≠s.heap.objs.size:=fun b J=>adn (vq b J);have keep:∀b o,b∉[z,bG,bB,bz]→s.heap.get? b=some o→h2.get? b=some o:=fun b o J q=>by have J:¬(b=z∨b=bG∨b=bB∨b=bz):=fun w=>J (by simpa using w);exact ho.extBut b o (fun w=>J (.inl w)) (aK b o (fun w=>J (.inl w)) (fun w=>J (.inr (.inl w))) (fun w=>J (.inr (.inr (.inl w)))) (fun w=>J (.inr (.inr (.inr w)))) q)
  have qu:aeP h2 s.heap.objs.size ([gn,fZ]:List acV).toArray:=⟨_,ho.extBut _ _ (pb z (by simp)).symm jB,rfl,_,rfl⟩;have aU:H s.heap.objs.size=none:=I.bR.fresh (ac3 _);have cn:Inv X pins σ (upd H s.heap.objs.size (.tup [x,y])) { s with heap:=h2,toks:=c4 }:=I.yR (its:=[gn,fZ]) (ch:=[z,bG,bB,bz]) keep (fun b J=>hf b (by
   have J:b=z∨b=bG∨b=bB∨b=bz:=by simpa using J
   rcases J with q|q|q|q<;>simp[q])) (ac3 _) qu (.cons CI (.cons dV .nil)) (by show 2≤ade;decide)
  refine⟨.ref s.heap.objs.size,_,cn,rfl,⟨s.heap.objs.size,x,y,aU,rfl,rfl,fun zs nC=>by rw[I.vy nC i9];exact aA,fun zs nC=>by rw[I.vy nC aP];exact b8⟩,?_,fun b J=>?_⟩
  ·refine⟨tY,ho.extBut _ _ ap.TIz (aK _ _ ap.TIz ap.TITO ap.TIi1 ap.TIi2 en),⟨_,_,ho.extBut _ _ ap.TOz a2⟩,?_,?_⟩
   ·obtain⟨⟨cQ,ae,aq⟩,_⟩:=d3;exact⟨cQ,ho.extBut _ _ ap.i1z ae,aq⟩
   ·obtain⟨⟨cf,au,bp⟩,_⟩:=gH;exact⟨cf,ho.extBut _ _ ap.i2z au,bp⟩
  ·rw[c8 (pb b J)];exact(hf b J).1
 done:=by
  intro X hP hw aY ax i pins s σ H E I hf st aI;subst hP hw aY;obtain⟨xs,ys,i9,aP,ak⟩:=aI;obtain⟨fC,n4,lF,BB⟩:=I.tuple i9;obtain⟨its,b4,bJ,tX⟩:=I.tuple aP;obtain⟨bj,en,⟨a,b',eM⟩,jJ,et⟩:=st;have nl:∀b∈[z,TI,bG,bB,bz],a3≠b:=fun b J=>ya I hf J aP;have jf:∀b∈[z,TI,bG,bB,bz],l≠b:=fun b J=>ya I hf J i9;have bw:X.A.in1.handled=none:=I.ok.hd ax;have fI:=rO (prog:=X.prog) (w:=X.w) (A:=X.A.in1) bw bB l (jf bB (by simp)) fC.toArray;have fv:=rO (prog:=X.prog) (w:=X.w) (A:=X.A.in1) bw bz a3 (nl bz (by simp)) its.toArray;have hlen:=b4.length;have qq:=n4.length;refine Cy fI fv (ze ap jf nl) bj en eM ⟨jJ,lF⟩ ⟨et,bJ⟩ ?_ fun h' c4 cA=>⟨rfl,I.sN (ch:=[z,bG,bB,bz]) (fun b o J q=>?_) fun b J=>hf b ?_⟩
  ·have ah:its.toArray.size=its.length:=by simp
   have AX:fC.toArray.size=fC.length:=by simp
   rw[ah,AX,←hlen,←qq];omega
  ·have J:¬(b=z∨b=bG∨b=bB∨b=bz):=fun w=>J (by simpa using w);exact cA b o (fun w=>J (.inl w)) (fun w=>J (.inr (.inl w))) (fun w=>J (.inr (.inr (.inl w)))) (fun w=>J (.inr (.inr (.inr w)))) q
  ·have J:b=z∨b=bG∨b=bB∨b=bz:=by simpa using J
   rcases J with q|q|q|q<;>simp[q]
 self:=fun A i s Q E st h=>aeJ st.1 h
abbrev y7(h:adT)(l:ac1):adT:=h.push { cls:=.type "list_iterator",data:=.fields #[.ref l,.int 0 0] }
abbrev y8(h:adT)(l a3:ac1):adT:=(y7 h l).push { cls:=.type "list_iterator",data:=.fields #[.ref a3,.int 0 0] }
abbrev y9(h:adT)(l a3:ac1):adT:=(y8 h l a3).push { cls:=.type "tuple",data:=.seq #[.ref h.objs.size,.ref (y7 h l).objs.size] }
abbrev y_(h:adT)(l a3:ac1):adT:=(y9 h l a3).push { cls:=.type "tuple",data:=.seq #[.none,.none] }
abbrev rj(h:adT)(l a3:ac1):adT:=(y_ h l a3).push { cls:=.type "zip",data:=.fields #[.none,.bool false,.bool false,.ref (y8 h l a3).objs.size,.ref (y9 h l a3).objs.size] }
set_option maxHeartbeats 4000000 in
theorem S9(l a3:ac1)(xs ys:Array acV) :
  Meets (ahM.«zip.__new__» ⟨[.type "zip",.ref l,.ref a3],[]⟩) (fun _ R s=>s.heap.IsList l xs∧s.heap.IsList a3 ys∧R (.ok (.ret (.ref (y_ s.heap l a3).objs.size))) { s with heap:=rj s.heap l a3 }):=
 .of_wp fun prog w A R s h=>by
   obtain⟨a5,g,d,c4,os⟩:=s;obtain⟨av,j7,h⟩:=h;have Hw:=sub_zip;have tK:Heap.IsList (aii ⟨a5.push { cls:=.type "list_iterator",data:=.fields #[.ref l,.int 0 0] },g,d,c4,os⟩) a3 ys:=Heap.IsList.push j7 _
   wp_walk using afk av,afk tK
   exact⟨_,rfl,h⟩
theorem M6 {prog:ac_} {w:adB} {A:adp} {E:acV→acW→Prop} {s:acW} {l a3:ac1} {xs ys:Array acV} {Q:acV→acW→Prop} (av:s.heap.IsList l xs) (j7:s.heap.IsList a3 ys)(h:∀h',agn h' (s.heap.objs.size+4) (s.heap.objs.size+2) (s.heap.objs.size+3) .none→aer h' (s.heap.objs.size+2) (.ref s.heap.objs.size) (.ref (s.heap.objs.size+1))→
    aer h' (s.heap.objs.size+3) .none .none→h'.IsListIter s.heap.objs.size l 0→h'.IsListIter (s.heap.objs.size+1) a3 0→h'.objs.size=s.heap.objs.size+5→
    (∀c o,s.heap.get? c=some o→h'.get? c=some o)→Q (.ref (s.heap.objs.size+4)) { s with heap:=h' }) :
  adi (adj prog w) A (call (.type "zip") [.ref l,.ref a3]) Q E s:=by
 refine callType_new F.called_zip (by decide) (agy _ _) (ag7 _ _) (fun obj=>afJ obj _ _) ag8 (S9 l a3 xs ys) ⟨av,j7,?_⟩;have bl:(y7 s.heap l).objs.size=s.heap.objs.size+1:=ado ..;have a_:(y8 s.heap l a3).objs.size=s.heap.objs.size+2:=by rw[ado,bl]
 have h_:(y9 s.heap l a3).objs.size=s.heap.objs.size+3:=by rw[ado,a_]
 have jw:(y_ s.heap l a3).objs.size=s.heap.objs.size+4:=by rw[ado,h_]
 have l4:(rj s.heap l a3).objs.size=s.heap.objs.size+5:=by rw[ado,jw]
 have lA:(rj s.heap l a3).get? (y_ s.heap l a3).objs.size=some _:=ac2 _ rfl;have f_:(rj s.heap l a3).get? (y9 s.heap l a3).objs.size=some _:=acS _ (ac2 _ rfl);have g3:(rj s.heap l a3).get? (y8 s.heap l a3).objs.size=some _:=acS _ (acS _ (ac2 _ rfl));have g2:(rj s.heap l a3).get? (y7 s.heap l).objs.size=some _:=acS _ (acS _ (acS _ (ac2 _ rfl)));have g1:(rj s.heap l a3).get? s.heap.objs.size=some _:=acS _ (acS _ (acS _ (acS _ (ac2 _ rfl))));show _∧_;rw[a_,h_,jw]at lA;rw[bl,a_]at g3;rw[h_]at f_;rw[bl]at g2;rw[jw];exact⟨⟨_,lA,rfl⟩,h _ lA g3 f_ ⟨_,g1,rfl,rfl⟩ ⟨_,g2,rfl,rfl⟩ l4 fun c o x=>
  acS _ (acS _ (acS _ (acS _ (acS _ x))))⟩
noncomputable def zz(K:PySem.W.Frag)(l a3:ac1):It:=⟨fun i H=>∃xs x ys y,bQ K H l xs∧xs[i]?=some x∧bQ K H a3 ys∧ys[i]?=some y,
 fun i H v H'=>∃p x y,H p=none∧H'=upd H p (.tup [x,y])∧v=.ref p∧(∀xs,bQ K H l xs→xs[i]?=some x)∧∀ys,bQ K H a3 ys→ys[i]?=some y,
 fun i H=>∃xs ys,bQ K H l xs∧bQ K H a3 ys∧i=min xs.length ys.length⟩
theorem XR{P:ac_}{w:adB}{K:PySem.W.Frag}{elts:List adq}{cA:Nat}{pos:Pos}(l a3 z TI bG bB bz:ac1)(ap:td z TI bG bB bz) :
  Turn P w K (.Tuple elts cA pos) (zz K l a3) [z,TI,bG,bB,bz] z (fun i h=>agn h z TI bG .none∧aer h TI (.ref bB) (.ref bz)∧(∃a b,aer h bG a b)∧h.IsListIter bB l i∧h.IsListIter bz a3 i) where
 mem:=by simp
 obj:=fun i h st b J=>by
  obtain⟨bj,en,⟨a,b',eM⟩,⟨cQ,ae,cp,d1⟩,cf,au,dO,cM⟩:=st;have J:b=z∨b=TI∨b=bG∨b=bB∨b=bz:=by simpa using J
  rcases J with q|q|q|q|q<;>subst q
  ·exact⟨_,bj,fun v z=>by have eh:agh _=aeZ v:=z;cases eh⟩
  ·exact⟨_,en,fun v z=>by have eh:ahd _ _=aeZ v:=z;cases eh⟩
  ·exact⟨_,eM,fun v z=>by have eh:ahd _ _=aeZ v:=z;cases eh⟩
  ·exact⟨cQ,ae,fun v z=>by rw[d1]at z;cases z⟩
  ·exact⟨cf,au,fun v z=>by rw[cM]at z;cases z⟩
 keep:=fun i h h' st k=>by obtain⟨bj,en,⟨a,b',eM⟩,⟨cQ,ae,aq⟩,cf,au,bp⟩:=st;exact⟨k z (by simp) _ bj,k TI (by simp) _ en,⟨a,b',k bG (by simp) _ eM⟩,⟨cQ,k bB (by simp) _ ae,aq⟩,cf,k bz (by simp) _ au,bp⟩
 item:=by
  intro X hP hw aY ax i pins s σ H E I hf st aI;subst hP hw aY;obtain⟨xs,x,ys,y,i9,aA,aP,b8⟩:=aI;obtain⟨fC,n4,lF,BB⟩:=I.list i9;obtain⟨its,b4,bJ,tX⟩:=I.list aP;obtain⟨bj,en,⟨a,b',eM⟩,jJ,et⟩:=st;have nl:∀b∈[z,TI,bG,bB,bz],a3≠b:=fun b J=>x_ I hf J aP;have jf:∀b∈[z,TI,bG,bB,bz],l≠b:=fun b J=>x_ I hf J i9;have bw:X.A.in1.handled=none:=I.ok.hd ax;have fI:=ah8 (prog:=X.prog) (w:=X.w) (A:=X.A.in1) bw bB l (jf bB (by simp)) fC.toArray;have fv:=ah8 (prog:=X.prog) (w:=X.w) (A:=X.A.in1) bw bz a3 (nl bz (by simp)) its.toArray;have hlen:=b4.length;have qq:=n4.length;have qp:i<ys.length:=(List.getElem?_eq_some_iff.mp b8).1;have Bo:i<xs.length:=(List.getElem?_eq_some_iff.mp aA).1;have jD:ng z TI bG bB bz [bB,l] [bz,a3]:=ze ap jf nl;refine Cz fI fv jD bj en eM ⟨jJ,lF.isList⟩ ⟨et,bJ.isList⟩ (by rw[acY,←qq];exact Bo) (by rw[acY,←hlen];exact qp) fun ix jt h' c4 dr cj a1 a2 d3 gH jB kA aK=>?_;obtain⟨gn,tW,CI⟩:=n4.get aA;have ev:gn=ix:=by rw[aed]at dr;rw[tW]at dr;exact ac0 dr
  subst ev;obtain⟨fZ,qv,dV⟩:=b4.get b8;have eL:fZ=jt:=by rw[aed]at cj;rw[qv]at cj;exact ac0 cj
  subst eL;refine⟨_,rfl,?_⟩;refine ae1 a1 fun h2 tY ho=>?_;have vq:∀b∈[z,TI,bG,bB,bz],b<s.heap.objs.size:=fun b J=>by
   have J:b=z∨b=TI∨b=bG∨b=bB∨b=bz:=by simpa using J
   obtain⟨cQ,ae,_⟩:=jJ;obtain⟨cf,au,_⟩:=et;rcases J with q|q|q|q|q<;>subst q
   ·exact acZ bj
   ·exact acZ en
   ·exact acZ eM
   ·exact acZ ae
   ·exact acZ au
  have pb:∀b∈[z,TI,bG,bB,bz],b≠s.heap.objs.size:=fun b J=>adn (vq b J);have keep:∀b o,b∉[z,bG,bB,bz]→s.heap.get? b=some o→h2.get? b=some o:=fun b o J q=>by have J:¬(b=z∨b=bG∨b=bB∨b=bz):=fun w=>J (by simpa using w);exact ho.extBut b o (fun w=>J (.inl w)) (aK b o (fun w=>J (.inl w)) (fun w=>J (.inr (.inl w))) (fun w=>J (.inr (.inr (.inl w)))) (fun w=>J (.inr (.inr (.inr w)))) q)
  have qu:aeP h2 s.heap.objs.size ([gn,fZ]:List acV).toArray:=⟨_,ho.extBut _ _ (pb z (by simp)).symm jB,rfl,_,rfl⟩;have aU:H s.heap.objs.size=none:=I.bR.fresh (ac3 _);have cn:Inv X pins σ (upd H s.heap.objs.size (.tup [x,y])) { s with heap:=h2,toks:=c4 }:=I.yR (its:=[gn,fZ]) (ch:=[z,bG,bB,bz]) keep (fun b J=>hf b (by
   have J:b=z∨b=bG∨b=bB∨b=bz:=by simpa using J
   rcases J with q|q|q|q<;>simp[q])) (ac3 _) qu (.cons CI (.cons dV .nil)) (by show 2≤ade;decide)
  refine⟨.ref s.heap.objs.size,_,cn,rfl,⟨s.heap.objs.size,x,y,aU,rfl,rfl,fun zs nC=>by rw[I.uc nC i9];exact aA,fun zs nC=>by rw[I.uc nC aP];exact b8⟩,?_,fun b J=>?_⟩
  ·refine⟨tY,ho.extBut _ _ ap.TIz (aK _ _ ap.TIz ap.TITO ap.TIi1 ap.TIi2 en),⟨_,_,ho.extBut _ _ ap.TOz a2⟩,?_,?_⟩
   ·obtain⟨⟨cQ,ae,aq⟩,_⟩:=d3;exact⟨cQ,ho.extBut _ _ ap.i1z ae,aq⟩
   ·obtain⟨⟨cf,au,bp⟩,_⟩:=gH;exact⟨cf,ho.extBut _ _ ap.i2z au,bp⟩
  ·rw[c8 (pb b J)];exact(hf b J).1
 done:=by
  intro X hP hw aY ax i pins s σ H E I hf st aI;subst hP hw aY;obtain⟨xs,ys,i9,aP,ak⟩:=aI;obtain⟨fC,n4,lF,BB⟩:=I.list i9;obtain⟨its,b4,bJ,tX⟩:=I.list aP;obtain⟨bj,en,⟨a,b',eM⟩,jJ,et⟩:=st;have nl:∀b∈[z,TI,bG,bB,bz],a3≠b:=fun b J=>x_ I hf J aP;have jf:∀b∈[z,TI,bG,bB,bz],l≠b:=fun b J=>x_ I hf J i9;have bw:X.A.in1.handled=none:=I.ok.hd ax;have fI:=ah8 (prog:=X.prog) (w:=X.w) (A:=X.A.in1) bw bB l (jf bB (by simp)) fC.toArray;have fv:=ah8 (prog:=X.prog) (w:=X.w) (A:=X.A.in1) bw bz a3 (nl bz (by simp)) its.toArray;have hlen:=b4.length;have qq:=n4.length;refine Cy fI fv (ze ap jf nl) bj en eM ⟨jJ,lF.isList⟩ ⟨et,bJ.isList⟩ ?_ fun h' c4 cA=>⟨rfl,I.sN (ch:=[z,bG,bB,bz]) (fun b o J q=>?_) fun b J=>hf b ?_⟩
  ·have ah:its.toArray.size=its.length:=by simp
   have AX:fC.toArray.size=fC.length:=by simp
   rw[ah,AX,←hlen,←qq];omega
  ·have J:¬(b=z∨b=bG∨b=bB∨b=bz):=fun w=>J (by simpa using w);exact cA b o (fun w=>J (.inl w)) (fun w=>J (.inr (.inl w))) (fun w=>J (.inr (.inr (.inl w)))) (fun w=>J (.inr (.inr (.inr w)))) q
  ·have J:b=z∨b=bG∨b=bB∨b=bz:=by simpa using J
   rcases J with q|q|q|q<;>simp[q]
 self:=fun A i s Q E st h=>aeJ st.1 h
section
variable{X:aS}{elts:List adq}{cA:Nat}{mS:Pos}
noncomputable def HG(K:PySem.W.Frag)(cg:eS):TI:=fun σ H R=>cg σ H fun vs H1=>∃l a3,vs=[.ref l,.ref a3]∧(((∃xs,b_ K H1 l xs)∧(∃ys,b_ K H1 a3 ys)∧R (zA K l a3) H1)∨((∃xs,bQ K H1 l xs)∧(∃ys,bQ K H1 a3 ys)∧R (zz K l a3) H1))
theorem LX{pins:List (ac1×Obj)}{σ :St}{H:ag}{s:acW}{n b:ac1}(I:Inv X pins σ H s)(aU:n=s.heap.objs.size)(J:b∈[n+4,n+2,n+3,n,n+1]):ia X pins H b:=by
 subst aU;have J:s.heap.objs.size≤b:=by
  have J:b=s.heap.objs.size+4∨b=s.heap.objs.size+2∨b=s.heap.objs.size+3∨b=s.heap.objs.size∨b=s.heap.objs.size+1:=by simpa using J
  rcases J with q|q|q|q|q
  ·rw[q];exact aef _ _
  ·rw[q];exact aef _ _
  ·rw[q];exact aef _ _
  ·rw[q];exact ac3 _
  ·rw[q];exact aef _ _
 exact I.nr J (I.bR.fresh J)
theorem U8{a b:adq}{cg:eS}{p pos:Pos}(aI:dF X "zip")(hm:X.mg "zip"=none)(U:fh X [a,b] cg)(aD:acX [a,b] X.env=[(false,adW a X.env),(false,adW b X.env)]:=by rfl)(et:acX [b] X.env=[(false,adW b X.env)]:=by rfl) :
  f6 X (.Tuple elts cA mS) (.Call (.Name "zip" p) [a,b] [] pos) (HG X.K cg):=by
 have J:ad6 "zip"=some (.type "zip"):=by kernel_rfl
 intro pins s σ H R I h;refine af4 (nK I aI hm J (adL (bX (U pos pins s σ H _ I h) fun us s1⟨vs,H1,a6,aq,bb⟩=>?_) (by rw[aD,et]) (by rw[et];rfl)));obtain⟨l,a3,e,q⟩:=bb;subst e;obtain⟨u,jt,rfl,dV,V0⟩:=vals2 aq;cases dV;cases V0;rcases q with⟨⟨xs,aA⟩,⟨ys,b8⟩,q⟩|⟨⟨xs,aA⟩,⟨ys,b8⟩,q⟩
 ·obtain⟨fC,_,lF,_⟩:=a6.tuple aA;obtain⟨its,_,bJ,_⟩:=a6.tuple b8;refine M7 (show s1.heap.IsTuple l fC.toArray from lF) (show s1.heap.IsTuple a3 its.toArray from bJ) fun h' a1 a2 d3 gH jB kA aK=>?_;have cn:Inv X pins σ H1 { s1 with heap:=h' }:=a6.kept (t':=s1.toks) aK;refine aeJ a1 ?_;exact⟨s1.heap.objs.size+4,[s1.heap.objs.size+4,s1.heap.objs.size+2,s1.heap.objs.size+3,s1.heap.objs.size,s1.heap.objs.size+1],_,_,H1,rfl,cn,XS l a3 _ _ _ _ _ (EE s1.heap.objs.size),⟨a1,a2,⟨_,_,d3⟩,gH,jB⟩,fun b J=>LX a6 rfl J,q⟩
 ·obtain⟨fC,_,lF,_⟩:=a6.list aA;obtain⟨its,_,bJ,_⟩:=a6.list b8;refine M6 lF.isList bJ.isList fun h' a1 a2 d3 gH jB kA aK=>?_;have cn:Inv X pins σ H1 { s1 with heap:=h' }:=a6.kept (t':=s1.toks) aK;refine aeJ a1 ?_;exact⟨s1.heap.objs.size+4,[s1.heap.objs.size+4,s1.heap.objs.size+2,s1.heap.objs.size+3,s1.heap.objs.size,s1.heap.objs.size+1],_,_,H1,rfl,cn,XR l a3 _ _ _ _ _ (EE s1.heap.objs.size),⟨a1,a2,⟨_,_,d3⟩,gH,jB⟩,fun b J=>LX a6 rfl J,q⟩
end
end a7
namespace bu
open PySem PySem.Spec a7 PyProof.Rows
section
variable{X:aS}{F:bg}{a b:adq}{pos p:Pos}{ma:aW}
def zip2(xs ys:List D):List D:=(xs.zip ys).map fun p=>.tup [p.1,p.2]
noncomputable def EC:List D→R (List D)
 |[.tup xs,.tup ys]=>.ok (zip2 xs ys)
 |[.lst xs,.lst ys]=>.ok (zip2 xs ys)
 |_=>.bad
theorem Rp{K:PySem.W.Frag}{G:ag}{l a3:ac1}{ds ah:List D}{xs ys:List V}(h:b_ K G l xs)(q:aT K G ds xs)(h2:b_ K G a3 ys)(bN:aT K G ah ys):iY K (zA K l a3) (zip2 ds ah) G where
 go:=fun i H s ak=>by
  have ak:i<min ds.length ah.length:=by simpa[zip2]using ak
  obtain⟨v,ae,_⟩:=q.get (acT (show i<ds.length by omega));obtain⟨u,au,_⟩:=bN.get (acT (show i<ah.length by omega));exact⟨xs,v,ys,u,b_.mono s h,ae,b_.mono s h2,au⟩
 iU:=fun i H v H' s ak z=>by
  obtain⟨p,x,y,a5,rfl,rfl,aA,b8⟩:=z;obtain⟨d,ae,a1⟩:=q.oL (aA xs (b_.mono s h));obtain⟨e,au,a2⟩:=bN.oL (b8 ys (b_.mono s h2));refine⟨.tup [d,e],?_,.inr ⟨p,_,_,a5,rfl,rfl,rfl,.cons a1 (.cons a2 .nil)⟩⟩;unfold zip2;rw[ac4];have qh:(ds.zip ah)[i]?=some (d,e):=by rw[ae2];exact⟨ae,au⟩
  rw[qh];rfl
 stop:=fun H s=>⟨xs,ys,b_.mono s h,b_.mono s h2,by simp[zip2,q.length,bN.length]⟩
theorem Ro{K:PySem.W.Frag}{G:ag}{l a3:ac1}{ds ah:List D}{xs ys:List V}(h:bQ K G l xs)(q:aT K G ds xs)(h2:bQ K G a3 ys)(bN:aT K G ah ys):iY K (zz K l a3) (zip2 ds ah) G where
 go:=fun i H s ak=>by
  have ak:i<min ds.length ah.length:=by simpa[zip2]using ak
  obtain⟨v,ae,_⟩:=q.get (acT (show i<ds.length by omega));obtain⟨u,au,_⟩:=bN.get (acT (show i<ah.length by omega));exact⟨xs,v,ys,u,bQ.mono s h,ae,bQ.mono s h2,au⟩
 iU:=fun i H v H' s ak z=>by
  obtain⟨p,x,y,a5,rfl,rfl,aA,b8⟩:=z;obtain⟨d,ae,a1⟩:=q.oL (aA xs (bQ.mono s h));obtain⟨e,au,a2⟩:=bN.oL (b8 ys (bQ.mono s h2));refine⟨.tup [d,e],?_,.inr ⟨p,_,_,a5,rfl,rfl,rfl,.cons a1 (.cons a2 .nil)⟩⟩;unfold zip2;rw[ac4];have qh:(ds.zip ah)[i]?=some (d,e):=by rw[ae2];exact⟨ae,au⟩
  rw[qh];rfl
 stop:=fun H s=>⟨xs,ys,bQ.mono s h,bQ.mono s h2,by simp[zip2,q.length,bN.length]⟩
def uv(m:aW):aW:=fun ρ=>(m ρ).bind EC
theorem Q1(aY:F.K=X.K):m3 (jq F (uv ma)) (HG X.K (eo F ma)):=by
 rintro σ H Q ⟨G,ρ,r,h⟩;unfold uv at h;refine⟨G,ρ,r,?_⟩;cases aj:ma ρ with
 |bad=>rw[aj]at h;exact h.elim
 |exc c=>rw[aj]at h;exact h
 |ok ds=>
  rw[aj,R.bo]at h;intro vs H1 aM aq s1 al;unfold EC at h
  split at h
  ·obtain⟨v,w,rfl,bc,fM⟩:=al.two;simp only[At]at bc fM;obtain⟨l,xs,rfl,aP,fz⟩:=bc;obtain⟨a3,ys,rfl,qs,zZ⟩:=fM;have k1:=b_.of (K:=X.K) (aq.az.sub _ _ aP);have k2:=b_.of (K:=X.K) (aq.az.sub _ _ qs);refine⟨l,a3,rfl,.inl ⟨⟨_,k1⟩,⟨_,k2⟩,?_⟩⟩;rw[←aY];exact h _ H1 aM aq s1 (Rp (b_.of aP) fz (b_.of qs) zZ)
  ·obtain⟨v,w,rfl,bc,fM⟩:=al.two;simp only[At]at bc fM;obtain⟨l,xs,rfl,aP,fz⟩:=bc;obtain⟨a3,ys,rfl,qs,zZ⟩:=fM;have k1:=bQ.of (K:=X.K) (aq.az.sub _ _ aP);have k2:=bQ.of (K:=X.K) (aq.az.sub _ _ qs);refine⟨l,a3,rfl,.inr ⟨⟨_,k1⟩,⟨_,k2⟩,?_⟩⟩;rw[←aY];exact h _ H1 aM aq s1 (Ro (bQ.of aP) fz (bQ.of qs) zZ)
  ·exact h.elim
theorem Zo{elts:List adq}{k:Nat}{vv:Pos}(hm:X.mg "zip"=none)(U:eZ X F [a,b] ma)(aY:F.K=X.K:=by rfl)(aI:dF X "zip":=by rfl)(aD:acX [a,b] X.env=[(false,adW a X.env),(false,adW b X.env)]:=by rfl)(et:acX [b] X.env=[(false,adW b X.env)]:=by rfl) :
  kz X F (.Tuple elts k vv) (.Call (.Name "zip" p) [a,b] [] pos) (uv ma):=⟨f6.imp (U8 aI hm U.1 aD et) (Q1 aY)⟩
end
end bu
namespace bu
open PySem PySem.Spec a7
def sg(i:Nat)(m:c6):c6:=fun ρ=>(ownAt i ρ).bind fun _=>(m ρ).bind fun x=>xT i (fun _=>.ok x.1) x.2
section
variable{X:aS}{F:bg}{e:adq}{ah:List adq}{pos p:Pos}{m:aN}{ma:aW}
theorem LD (i:Nat) {x:Str} {bC:Pos} {apos:Pos} {b6:Pos} {m:c6} (he:fx X F e m) (b7:X.N[i]?=some x:=by rfl) (bP:fL X.env.scope x:=by first|exact adN rfl|exact ads (adN rfl)|exact ads (ads rfl)) (hd:(x==("__debug__" :Str))=false:=by decide) (dy:(x==("__classdict__" :Str))=false:=by decide) (gy:adJ (.Name x bC) "pop" X.env (adW (.Name x bC) X.env)=adW (.Name x bC) X.env:=by rfl) (gz:(apos.endLine==b6.line)=true:=by rfl) (hy:((adF b6 (acX [e] X.env)).all (fun x=>!x.1)&&(aeq b6 (adS [] X.env)).all (fun x=>x.1.isSome)
   &&decide (([e]:List adq).length+([]:List aeh).length+(if([]:List aeh).isEmpty then 0 else 1)<30))=true:=by rfl) (aD:acX [e] X.env=(false,adW e X.env)::acX [] X.env:=by rfl) (hz:(adF b6 (acX [] X.env)).any (·.1)=false:=by rfl):fx X F (.Call (.Attribute (.Name x bC) "pop" apos) [e] [] b6) (sg i m):=⟨by
 have he:=he.1;refine a4.imp (n1 PySem.F.plainAttrs_list PySem.F.slot_list_pop PySem.F.type_list_pop Tp (fY b7 bP hd dy) (hp he kl aD) gy hy gz aD hz) ?_;rintro σ H Q ⟨G,ρ,r,h⟩;unfold sg ownAt at h;cases cb:ρ[i]? with
 |none=>rw[cb]at h;exact h.elim
 |some s=>
  rw[cb]at h;cases s with
  |un=>exact h.elim
  |ao _=>exact h.elim
  |cy _=>exact h.elim
  |dg _ _=>exact h.elim
  |ob ob=>
   cases ob with
   |bH _ _=>exact h.elim
   |ins _ _ _=>exact h.elim
   |lst ds=>
    obtain⟨q,xs,ae,h1,h2,h3,h4⟩:=r.own cb;rw[R.bo]at h;refine⟨.ref q,ae,.inl ⟨rfl,xs,bQ.of h1⟩,G,ρ,r,?_⟩;cases aj:m ρ with
    |bad=>rw[aj]at h;exact h.elim
    |exc c=>rw[aj]at h;exact h
    |ok y=>
     obtain⟨d,ρ1⟩:=y;rw[aj,R.bo]at h;intro v H1 aM aq s1 bc;simp only[xT,ownAt]at h;cases nq:ρ1[i]? with
     |none=>rw[nq]at h;exact h.elim
     |some V6=>
      rw[nq]at h;cases V6 with
      |un=>exact h.elim
      |ao _=>exact h.elim
      |cy _=>exact h.elim
      |dg _ _=>exact h.elim
      |ob ob=>
       cases ob with
       |bH _ _=>exact h.elim
       |ins _ _ _=>exact h.elim
       |lst fN=>
        rw[R.bo,R.bo]at h;obtain⟨dS,dW,eJ,cO,cP,oM,gJ⟩:=aq.own nq;rw[ae]at eJ;cases eJ;cases d with
        |int k=>
         simp only[At]at bc;subst bc;simp only at h
         split at h
         ·rename_i aK
          split at h
          ·rename_i j hx
           split at h
           ·rename_i y dk;obtain⟨w,gI,fM⟩:=gJ.get dk;refine⟨q,dW,k,j,w,rfl,rfl,cO,aK.1,aK.2,by rw[←gJ.length];exact hx,gI,?_⟩;exact h w _ aM (aq.mut nq ae (gJ.erase j)) s1 fM
           ·exact h.elim
          ·exact h.elim
         ·exact h.elim
        |_=>exact h.elim⟩
def uz(m:c6):bf:=fun ρ=>(m ρ).bind fun x=>.ok (.c_ x.1)
theorem LL{m:c6}(h:fx X F e m):dU X F (.Return (some e) pos) (uz m):=⟨cS.imp (lT h.1) fun b2 σ H⟨G,ρ,r,k⟩=>by
 unfold uz at k;refine⟨G,ρ,r,?_⟩;cases aj:m ρ with
 |bad=>rw[aj]at k;exact k.elim
 |exc c=>rw[aj]at k;exact k
 |ok d=>rw[aj,R.bo]at k;exact fun v H' G' a9 u a=>k v G' H' a9.az a⟩
def ym:bT→R D
 |.v d=>.ok d
 |_=>.bad
def xN(mf:List D→List D→R bT)(mo:aW):aN:=fun ρ=>(mo ρ).bind fun ds=>(eF (mf ds [])).bind ym
theorem Yx{x:Str}{k:Nat}{mf:List D→List D→R bT}{mo:aW}(c:vZ X.prog X.w X.K X.mg X.base x 0 k mf)(ay:dx k X.A)(aH:jA X F e mo)(aY:F.K=X.K:=by rfl)(aI:dF X x:=by rfl)(e0:(x==("__debug__" :Str))=false:=by decide)(he:acX [e] X.env=(false,adW e X.env)::acX [] X.env:=by rfl)(di:(adF pos (acX [] X.env)).any (·.1)=false:=by rfl) :
  bh X F (.Call (.Name x p) [e] [] pos) (xN mf mo):=⟨by
 obtain⟨f,fd,aO,fT,hm,aK,J⟩:=c.ex;refine a4.imp (n2 fT ay aI hm aK J .nil n0 (hp aH.1 kl he) e0 he di) ?_;rw[←aY];rintro σ H Q ⟨G,ρ,r,h⟩;unfold xN at h;refine⟨G,ρ,r,?_⟩;cases aj:mo ρ with
 |bad=>rw[aj]at h;exact h.elim
 |exc c=>rw[aj]at h;exact h
 |ok ds=>
  rw[aj,R.bo]at h;intro a xs H1 aM aq s1 aU U Pa q;refine⟨aM,a,xs,ds,[],[],rfl,U,Pa,aq.az.sub,q,aT.nil,rfl,?_⟩;cases em:mf ds []with
  |bad=>rw[em]at h;exact h.elim
  |exc c=>rw[em]at h;exact h.elim
  |ok t=>
   rw[em]at h;cases t with
   |t _=>exact h.elim
   |o _=>exact h.elim
   |v d=>
    intro v G' H' k bc;have na:∀b,b3 H1 σ ρ b→b≠a:=fun b br z=>b3.fresh r s1.h aU (by rw[←z];exact br);have h0:F.aR a=none:=r.az.bw.gone aU;have jF:∀b,b≠a→del H1 a b=H1 b:=fun b J=>oF J;refine h v H' G' (aq.over rfl ⟨k.sub,aq.az.dh.trans k.dh,fun b o e=>?_,fun b J=>?_⟩ k.dh fun b br=>?_) ⟨s1.g.trans k.dh,fun b o e=>?_,fun b J=>?_⟩ bc
    ·have nb:b≠a:=fun z=>by rw[z,h0]at e;cases e
     exact k.bw b o (by show del H1 a b=some o;rw[jF b nb];exact aq.az.bw b o e)
    ·have nb:b≠a:=fun z=>J (by rw[z];exact h0);rw[show G' b=aM b from k.new b (by show del H1 a b≠none;rw[jF b nb];exact aq.az.bw.some J)];exact aq.az.new b J
    ·obtain⟨g1,g2,g3⟩:=aq.foot br;refine⟨?_,?_,g3⟩
     ·cases bx:H1 b with
      |none=>exact absurd bx g1
      |some o=>exact k.bw b o (by show del H1 a b=some o;rw[jF b (na b br)];exact bx)
     ·rw[show G' b=aM b from k.new b (by show del H1 a b≠none;rw[jF b (na b br)];exact g1)];exact g2
    ·have nb:b≠a:=fun z=>by rw[z,aU]at e;cases e
     exact k.bw b o (by show del H1 a b=some o;rw[jF b nb];exact s1.h b o e)
    ·have nb:b≠a:=fun z=>J (by rw[z];exact aU);rw[show G' b=aM b from k.new b (by show del H1 a b≠none;rw[jF b nb];exact s1.h.some J)];exact s1.n b J⟩
def B1(i:Nat)(m:bf):bf:=fun ρ=>m (ρ.set i .un)
theorem Zj(i:Nat){st:ad4}{m:bf}(h:dU X F st m):dU X F st (B1 i m):=⟨cS.imp h.1 fun b2 σ H⟨G,ρ,r,k⟩=>⟨G,_,r.drop i,k⟩⟩
noncomputable def ui(n:Nat)(mf:List D→R bT)(m:aW):gU:=fun ρ=>(m ρ).bind fun ds=>if ds.length=n then(eF (mf ds)).bind vg else .bad
theorem Qa{n:Nat}{mf:List D→R bT}{m:aW}{xe:cT→Str→ag→Prop}{E:cT}:dQ (jQ F (ui n mf m)) (q3 (mO F.K n xe mf) [] E (eo F m)):=by
 rintro σ H Q ⟨G,ρ,r,h⟩;unfold ui at h;refine⟨G,ρ,r,?_⟩;cases aj:m ρ with
 |bad=>rw[aj]at h;exact h.elim
 |exc c=>rw[aj]at h;exact h
 |ok ds=>
  rw[aj,R.bo]at h;intro vs H1 aM aq s1 a;by_cases aU:ds.length=n
  ·rw[if_pos aU]at h;rw[adz];refine⟨aM,ds,aq.az.sub,a,aU,?_⟩;cases e:mf ds with
   |bad=>rw[e]at h;exact h.elim
   |exc c=>rw[e]at h;exact h.elim
   |ok t=>
    rw[e]at h;cases t with
    |v d=>exact h.elim
    |o ah=>exact h.elim
    |t t=>intro v G' H' k q;exact h v H' G' (d9.of aq k) (s1.trans ⟨k.dh,k.bw,k.new⟩) ⟨q.at_,q.bI,fun b J=>⟨(q.own b J).1,aq.az.bw.gone (q.own b J).2⟩⟩ fun b J=>s1.h.gone (q.own b J).2
  ·rw[if_neg aU]at h;exact h.elim
theorem Y1{x:Str}{n k:Nat}{mf:List D→R bT}(c:rr X.prog X.w X.K X.mg X.base x n k mf)(ay:dx k X.A)(U:eZ X F (e::ah) ma)(aY:F.K=X.K:=by rfl)(aI:dF X x:=by rfl)(e0:(x==("__debug__" :Str))=false:=by decide)(he:acX (e::ah) X.env=(false,adW e X.env)::acX ah X.env:=by rfl)(di:(adF pos (acX ah X.env)).any (·.1)=false:=by rfl):rv X F (.Call (.Name x p) (e::ah) [] pos) (ui n mf ma):=by obtain⟨f,fd,aO,aU,fT,hm,aK,J⟩:=c.ex;refine⟨a4.imp (n2 fT ay aI hm aK J .nil Jj U.1 e0 he di) ?_⟩;rw[←aY];exact Qa
end
mutual
noncomputable def jh:T→Bool
 |.ao d=>iP d
 |.lst aL=>pg aL
 |.tup aL=>pg aL
noncomputable def pg:List T→Bool
 |[]=>true
 |t::aL=>jh t&&pg aL
end
mutual
theorem cE.I0{K:PySem.W.Frag}{G G' H:ag}(h:∀b o,G b=some o→nE o=false→G' b=some o):∀{t:T}{v:V},jh t=true→cE K G H t v→cE K G' H t v
 |.ao _,_,n,q=>by simp only[cE,jh]at q n ⊢;exact At.u2 h n q
 |.lst _,_,n,q=>by simp only[cE,jh]at q n ⊢;obtain⟨a,xs,e,g,r⟩:=q;exact⟨a,xs,e,g,cw.Cf h n r⟩
 |.tup _,_,n,q=>by simp only[cE,jh]at q n ⊢;obtain⟨a,xs,e,g,r⟩:=q;exact⟨a,xs,e,g,cw.Cf h n r⟩
theorem cw.Cf{K:PySem.W.Frag}{G G' H:ag}(h:∀b o,G b=some o→nE o=false→G' b=some o):∀{aL:List T}{vs:List V},pg aL=true→cw K G H aL vs→cw K G' H aL vs
 |[],_,_,q=>by simpa only[cw]using q
 |_::_,_,n,q=>by simp only[cw,pg,adm]at q n ⊢;obtain⟨v,r,e,a,t⟩:=q;exact⟨v,r,e,cE.I0 h n.1 a,cw.Cf h n.2 t⟩
end
def o2(m:gU):gU:=fun ρ=>(m (d5 ρ)).bind fun t=>if jh t=true∧iu ρ=true then .ok t else .bad
section
variable{F:bg}
theorem HK{m:gU}:dQ (jQ F (o2 m)) (jQ F m):=by
 rintro σ H Q ⟨G,ρ,r,h⟩;refine⟨hN σ ρ G H,d5 ρ,r.plus,?_⟩;unfold o2 at h;cases aj:m (d5 ρ)with
 |bad=>rw[aj]at h;exact h.elim
 |exc c=>rw[aj]at h;exact h
 |ok t=>
  rw[aj,R.bo]at h;intro v H' G' a9 s' q aU;by_cases hd:jh t=true∧iu ρ=true
  ·rw[if_pos hd]at h;have lS:∀b,b3 H σ ρ b→G b=none:=fun b z=>(r.foot z).2.1;have lR:∀b,b3 H σ ρ b→F.aR b=none:=fun b z=>(r.foot z).2.2;have qR:∀b,b3 H σ ρ b→∃aH,H b=some aH∧nE aH=true:=fun b⟨i,s,o,ae,au,f⟩=>by
    have ak:=List.all_eq_true.mp hd.2 _ (adg ae);cases s with
    |un=>exact f.elim
    |ao _=>exact f.elim
    |cy t=>obtain⟨v,rfl,eW⟩:=f;obtain⟨cc,bE,gn,c3,ok⟩:=r.cB i _ ae;rw[au]at bE;cases bE;cases c3;obtain⟨xs,e⟩:=p4 ak ok.at_ b eW;exact⟨_,e,rfl⟩
    |dg n t=>obtain⟨v,rfl,eW⟩:=f;obtain⟨cc,bE,gn,c3,ok,_⟩:=r.cB i _ ae;rw[au]at bE;cases bE;cases c3;obtain⟨xs,e⟩:=p4 ak ok.at_ b eW;exact⟨_,e,rfl⟩
    |ob ob=>
     have f:o=some (.ref b):=f;obtain⟨c,aH,bE,h1,_,_,h4⟩:=r.obj ae;rw[au,f]at bE;cases bE;cases ob with
     |lst _=>obtain⟨xs,rfl,_⟩:=h4;exact⟨_,h1,rfl⟩
     |bH _ _=>cases ak
     |ins _ _ _=>cases ak
   have off:∀b,¬b3 H σ ρ b→gb H σ ρ G' b=G' b:=fun b n=>by unfold gb;rw[if_neg n]
   have on:∀b,b3 H σ ρ b→gb H σ ρ G' b=none:=fun b n=>by unfold gb;rw[if_pos n]
   have bt:Sub G (gb H σ ρ G'):=fun b o e=>by
    have n:¬b3 H σ ρ b:=fun z=>by rw[lS b z]at e;cases e
    rw[off b n];exact s'.g b o (rT r b o e)
   have qz:∀b,b3 H σ ρ b→∀o,H b=some o→H' b=some o:=fun b z o e=>a9.az.sub _ _ (s'.g _ _ (by rw[kH z];exact e));have rel:Rel F (gb H σ ρ G') H' σ ρ:=by
    refine r.over rfl ⟨fun b o e=>?_,r.az.dh.trans bt,a9.az.bw,fun b J=>?_⟩ bt fun b br=>?_
    ·by_cases n:b3 H σ ρ b
     ·rw[on b n]at e;cases e
     ·rw[off b n]at e;exact a9.az.sub b o e
    ·have n:¬b3 H σ ρ b:=fun z=>J (lR b z);rw[off b n];exact a9.az.new b J
    ·refine⟨?_,on b br,lR b br⟩;cases bx:H b with
     |none=>exact absurd bx (r.foot br).1
     |some o=>exact qz b br o bx
   refine h v H' _ rel ⟨bt,s'.h,fun b J=>?_⟩ ⟨q.at_.I0 (fun b o e ak=>?_) hd.1,q.bI,fun b J=>⟨?_,(q.own b J).2⟩⟩ aU
   ·by_cases n:b3 H σ ρ b
    ·rw[on b n,lS b n]
    ·rw[off b n,s'.n b J];unfold hN;rw[if_neg n]
   ·have n:¬b3 H σ ρ b:=fun z=>by
      obtain⟨aH,ae,au⟩:=qR b z;have:=s'.g b aH (by rw[kH z];exact ae);rw[e]at this;cases this;rw[ak]at au;cases au
    rw[off b n];exact e
   ·by_cases n:b3 H σ ρ b
    ·exact on b n
    ·rw[off b n];exact(q.own b J).1
  ·rw[if_neg hd]at h;exact h.elim
end
section
variable{X:aS}{F:bg}{e:adq}{pos:Pos}{m:aN}
theorem YZ{m:gU}(h:rv X F e m):rv X F e (o2 m):=⟨a4.imp h.1 HK⟩
noncomputable def qF(i:Nat)(m:aN):bf:=fun ρ=>(ownAt i ρ).bind fun ds=>(m ρ).bind fun d=>.ok (.fE (.tup [.lst (ds.map .ao),.ao d]))
theorem LM(i:Nat){x:Str}{bC:Pos}{j:Nat}{mS:Pos}(he:bh X F e m)(b7:X.N[i]?=some x:=by rfl)(bP:fL X.env.scope x:=by first|exact adN rfl|exact ads (adN rfl)|exact ads (ads rfl))(hd:(x==("__debug__" :Str))=false:=by decide)(dy:(x==("__classdict__" :Str))=false:=by decide)(aD:notStar e=true:=by rfl):dU X F (.Return (some (.Tuple [.Name x bC,e] j mS)) pos) (qF i m):=⟨by
 refine cS.imp (lT (Cs (hp (fY b7 bP hd dy) (hp he.1 kl (n9 e [] X.env aD)) (n9 (.Name x bC) [e] X.env rfl)))) ?_;rintro b2 σ H ⟨G,ρ,r,h⟩;unfold qF ownAt at h;cases cb:ρ[i]? with
 |none=>rw[cb]at h;exact h.elim
 |some s=>
  rw[cb]at h;cases s with
  |un=>exact h.elim
  |ao _=>exact h.elim
  |cy _=>exact h.elim
  |dg _ _=>exact h.elim
  |ob ob=>
   cases ob with
   |bH _ _=>exact h.elim
   |ins _ _ _=>exact h.elim
   |lst ds=>
    obtain⟨a,xs,ae,h1,h2,h3,h4⟩:=r.own cb;rw[R.bo]at h;refine⟨.ref a,ae,G,ρ,r,?_⟩;cases aj:m ρ with
    |bad=>rw[aj]at h;exact h.elim
    |exc c=>rw[aj]at h;exact h
    |ok d=>
     rw[aj,R.bo]at h;intro v H1 aM aq s1 bc;obtain⟨ij,dW,eJ,cO,cP,oM,gJ⟩:=aq.own cb;rw[ae]at eJ;cases eJ;refine⟨(show 2≤ade by decide),fun p a5=>?_⟩;have np:a≠p:=fun z=>by rw[z,a5]at cO;cases cO
     have mL:upd H1 p (.tup [.ref a,v]) a=some (.lst dW):=by rw[c8 np];exact cO
     have f1:aQ (upd H1 p (.tup [.ref a,v])) (.lst (ds.map .ao)) (.ref a)=[a]:=by rw[fU mL,rS]
     have f2:aQ (upd H1 p (.tup [.ref a,v])) (.tup [.lst (ds.map .ao),.ao d]) (.ref p)=[p,a]:=by rw[nt dN,hk,f1,hk,mu];simp only[aQ,adz,List.singleton_append]
     refine h (.ref p) aM _ (aq.lay0 a5).az ⟨?_,?_,fun b J=>?_⟩
     ·simp only[cE];exact⟨p,_,rfl,dN,.cons (by simp only[cE];exact⟨a,dW,rfl,mL,yK gJ⟩) (.cons (by simp only[cE];exact bc) .nil)⟩
     ·rw[f2];simp;exact afA np
     ·rw[f2]at J;rcases List.mem_cons.mp J with rfl|J
      ·exact⟨aq.az.sub.gone a5,aq.az.bw.gone a5⟩
      ·rw[af7]at J;subst J;exact⟨cP,oM⟩⟩
end
def oe(i:Nat)(ρ:ai):R (List T):=match ρ[i]? with
 |some (.cy (.tup aL))=>.ok aL
 |_=>.bad
theorem XH{i:Nat}{ρ:ai}{aL:List T}(h:oe i ρ=.ok aL):ρ[i]?=some (.cy (.tup aL)):=by
 unfold oe at h
 split at h
 ·rename_i e;cases h;exact e
 ·cases h
theorem XG{i:Nat}{ρ:ai}{c:Str}(h:oe i ρ=.exc c):False:=by
 unfold oe at h
 split at h<;>cases h
section
variable{F:bg}{G H:ag}{σ :a7.St}{ρ:ai}
theorem Rel.CF(r:Rel F G H σ ρ){i:Nat}{aL:List T}(e:ρ[i]?=some (.cy (.tup aL))):∃a xs,σ[i]?=some (some (.ref a))∧H a=some (.tup xs)∧cw F.K G H aL xs∧(c0 H aL xs).Nodup:=by obtain⟨v,au,dq,dj,dZ⟩:=r.tree e;simp only[cE]at dq;obtain⟨a,xs,rfl,U,wl⟩:=dq;rw[nt U]at dj;exact⟨a,xs,au,U,wl,(List.nodup_cons.mp dj).2⟩
theorem Rel.Tr(r:Rel F G H σ ρ){i k:Nat}{aL us us':List T}{a q:ac1}{xs ys ys':List V}(e:ρ[i]?=some (.cy (.tup aL)))(ae: σ[i]?=some (some (.ref a)))(U:H a=some (.tup xs))(d4:aL[k]?=some (.lst us))(ex:xs[k]?=some (.ref q))(aP:H q=some (.lst ys))(n:cw F.K G H us' ys')(f:c0 H us' ys'=c0 H us ys):Rel F G (upd H q (.lst ys')) σ (ρ.set i (.cy (.tup (aL.set k (.lst us'))))):=by
 obtain⟨v,au,dq,dj,dZ⟩:=r.tree e;rw[ae]at au;cases au;simp only[cE]at dq;obtain⟨ij,dW,aj,fV,wl⟩:=dq;cases aj;rw[U]at fV;cases fV;have dH:aQ H (.tup aL) (.ref a)=a::c0 H aL xs:=nt U;rw[dH]at dj dZ;obtain⟨sA,uX⟩:=List.nodup_cons.mp dj;have mI:q∈c0 H aL xs:=rR d4 ex (by rw[fU aP];simp);have na:a≠q:=fun z=>sA (by rw[z];exact mI);obtain⟨dr,cj⟩:=yO aP n f wl uX d4 ex;have oN:upd H q (.lst ys') a=some (.tup xs):=by rw[c8 na];exact U
 have lz:aQ (upd H q (.lst ys')) (.tup (aL.set k (.lst us'))) (.ref a)=a::c0 H aL xs:=by rw[nt oN,cj]
 refine r.B9 e ae (a:=q) ⟨.ref a,rfl,by rw[dH];exact ac7 _ mI⟩ ⟨.ref a,rfl,⟨?_,?_,?_⟩⟩ fun b eW=>.inl ?_
 ·simp only[cE];exact⟨a,xs,rfl,oN,dr⟩
 ·rw[lz];exact dj
 ·rw[lz];exact dZ
 ·obtain⟨u,eL,J⟩:=eW;cases eL;rw[lz,←dH]at J;exact⟨.ref a,rfl,J⟩
end
noncomputable def zY(i:Nat)(ρ:ai)(aL:List T)(m:aN):Option Nat→R ez
 |some j=>match aL[j]? with
  |some (.lst us)=>(m ρ).bind fun d=>if us.length<1000000 then .ok (.bL (ρ.set i (.cy (.tup (aL.set j (.lst (us++[.ao d])))))))else .bad
  |_=>.bad
 |none=>.bad
def th(i:Nat)(ρ:ai)(aL:List T)(m:aN):D→R ez
 |.int j=>zY i ρ aL m (gA aL.length j)
 |_=>.bad
def xM(i:Nat)(mk m:aN):bf:=fun ρ=>(oe i ρ).bind fun aL=>(mk ρ).bind fun k=>th i ρ aL m k
section
variable{X:aS}{F:bg}{e:adq}{pos p:Pos}{m:aN}
theorem Y7 (i:Nat) {x:Str} {bC sH pos':Pos} {apos b6:Pos} {k:adq} {mk:aN} (aK:bh X F k mk) (tT:pY k) (he:bh X F e m) (b7:X.N[i]?=some x:=by rfl) (bP:fL X.env.scope x:=by first|exact adN rfl|exact ads (adN rfl)|exact ads (ads rfl)) (hd:(x==("__debug__" :Str))=false:=by decide) (dy:(x==("__classdict__" :Str))=false:=by decide)(gy:adJ (.Subscript (.Name x bC) k pos') "append" X.env (adW (.Subscript (.Name x bC) k pos') X.env)=adW (.Subscript (.Name x bC) k pos') X.env:=by rfl) (gz:(apos.endLine==b6.line)=true:=by rfl)(hy:((adF b6 (acX [e] X.env)).all (fun x=>!x.1)&&(aeq b6 (adS [] X.env)).all (fun x=>x.1.isSome)
    &&decide (([e]:List adq).length+([]:List aeh).length+(if([]:List aeh).isEmpty then 0 else 1)<30))=true:=by rfl)
  (aD:acX [e] X.env=(false,adW e X.env)::acX [] X.env:=by rfl) (hz:(adF b6 (acX [] X.env)).any (·.1)=false:=by rfl) :
  dU X F (.Expr (.Call (.Attribute (.Subscript (.Name x bC) k pos') "append" apos) [e] [] b6) sH) (xM i mk m):=by
 refine⟨cS.imp (qV (n1 PySem.F.plainAttrs_list PySem.F.slot_list_append PySem.F.type_list_append uT (qU qx (fY b7 bP hd dy) aK.1 tT) (hp he.1 kl aD) gy hy gz aD hz) (iR _ _ _ _ rfl)) ?_⟩;rintro b2 σ H ⟨G,ρ,r,h⟩;unfold xM at h;cases cb:oe i ρ with
 |bad=>rw[cb]at h;exact h.elim
 |exc c=>exact(XG cb).elim
 |ok aL=>
  rw[cb,R.bo]at h;have cI:=XH cb;obtain⟨a,xs,ae,U,wl,bI⟩:=r.CF cI;refine⟨.ref a,ae,G,ρ,r,?_⟩;cases d4:mk ρ with
  |bad=>rw[d4]at h;exact h.elim
  |exc c=>rw[d4]at h;exact h
  |ok kd=>
   rw[d4,R.bo]at h;intro w H1 aM aq s1 fM;cases kd with
   |int j=>
    simp only[th]at h;simp only[At]at fM;cases iE:gA aL.length j with
    |none=>rw[iE]at h;exact h.elim
    |some n=>
     rw[iE]at h;simp only[zY]at h;obtain⟨ij,dW,eJ,fV,pH,x8⟩:=aq.CF cI;rw[ae]at eJ;cases eJ;cases eK:aL[n]? with
     |none=>rw[eK]at h;exact h.elim
     |some t=>
      rw[eK]at h;cases t with
      |ao _=>exact h.elim
      |tup _=>exact h.elim
      |lst us=>
       simp only at h;obtain⟨v,ev,jV⟩:=pE pH eK;simp only[cE]at jV;obtain⟨q,ys,rfl,aP,vE⟩:=jV;have tD:fb dW j=some (.ref q):=by unfold fb;rw[←pH.length,iE];exact ev
       refine .inr (.inl ⟨a,dW,j,.ref q,rfl,fM,b_.of fV,tD,.inl ⟨rfl,ys,bQ.of aP⟩,aM,ρ,aq,?_⟩);cases em:m ρ with
       |bad=>rw[em]at h;exact h.elim
       |exc c=>rw[em]at h;exact h
       |ok d=>
        rw[em,R.bo]at h;intro u aX ck bp s2 z1;by_cases qw:us.length<1000000
        ·rw[if_pos qw]at h;obtain⟨gH,Ep,c3,tN,Ed,Tv⟩:=bp.CF cI;rw[ae]at c3;cases c3;have BA:Ep=dW:=by
          have:=s2.h _ _ fV;rw[tN]at this;cases this;rfl
         subst BA;have qt:aX q=some (.lst ys):=s2.h _ _ aP;obtain⟨X5,tG,vD⟩:=pE Ed eK;rw[ev]at tG;cases tG;simp only[cE]at vD;obtain⟨qY,Zu,l4,tU,vF⟩:=vD;cases l4;rw[qt]at tU;cases tU;obtain⟨dr,cj⟩:=vF.append (us:=[T.ao d]) (ws:=[u]) (.cons (by simp only[cE];exact z1) .nil);have qT:c0 aX [T.ao d] [u]=[]:=by rw[hk,mu];simp only[aQ,adz]
         rw[qT,adz]at cj;have gi:=bp.Tr cI ae tN eK ev qt dr cj;exact⟨q,ys,u,rfl,rfl,qt,by rw[←vF.length];exact aei qw (by decide),h _ ck _ gi (s1.trans s2).g⟩
        ·rw[if_neg qw]at h;exact h.elim
   |_=>exact h.elim
end
noncomputable def spT(K:PySem.W.Frag)(n:Nat)(mf:List D→T→R bT):ih:=fun vs H Q E=>∃G t v ah ws,vs=ws++[v]∧Sub G H∧cE K G H t v∧(aQ H t v).Nodup∧(∀b∈aQ H t v,G b=none)∧aT K G ah ws∧ah.length=n∧
 BN ⟨K,G,ly H (aQ H t v),fun _ _=>False,gC⟩ Q (mf ah t)
theorem W3{K:PySem.W.Frag}{n:Nat}{mf:List D→T→R bT}:∀vs H Q E,spT K n mf vs H Q E→vs.length=n+1:=fun vs H Q E h=>by obtain⟨G,t,v,ah,ws,rfl,_,_,_,_,a,l,_⟩:=h;simp[←a.length,l]
def rZ(N:Nat)(ah:List D)(t:T):ai:=ah.map .ao++.cy t::adZ (N-(ah.length+1)) .un
def xQ(N:Nat)(m:bf):List D→T→R bT:=fun ah t=>(m (rZ N ah t)).bind outD
theorem get3{α:Type}{A B:List α}{x y:α}{i:Nat}(e:(A++x::B)[i]?=some y):A[i]?=some y∧i<A.length∨i=A.length∧y=x∨∃k,i=A.length+1+k∧B[k]?=some y:=by
 by_cases h:i<A.length
 ·rw[adl h]at e;exact .inl ⟨e,h⟩
 ·rw[adh (by omega)]at e;cases aK:i-A.length with
  |zero=>rw[aK]at e;simp at e;exact .inr (.inl ⟨by omega,e.symm⟩)
  |succ k=>rw[aK]at e;exact .inr (.inr ⟨k,by omega,by simpa using e⟩)
theorem VT{K:PySem.W.Frag}{G H:ag}{EX:Str→ag→Prop}{N:Nat}{t:T}{v:V}{ah:List D}{ws:List V}(s:Sub G H)(a1:cE K G H t v)(bI:(aQ H t v).Nodup)(no:∀b∈aQ H t v,G b=none)(a:aT K G ah ws) :
  Rel ⟨K,G,ly H (aQ H t v),EX,gC⟩ G H (hY N (ws++[v])) (rZ N ah t):=by
 have av:=a.length;have st:hY N (ws++[v])=ws.map some++some v::adZ (N-(ah.length+1)) none:=by unfold hY;simp[av]
 rw[st];have foot:∀(i:Nat)(q:cJ)(o:Option V)(b:ac1),(rZ N ah t)[i]?=some q→(ws.map some++some v::adZ (N-(ah.length+1)) (none:Option V))[i]?=some o→fw H q o b→i=ah.length∧b∈aQ H t v:=fun i q o b ae au f=>by
  rcases get3 ae with⟨e,_⟩|⟨fo,rfl⟩|⟨k,_,e⟩
  ·obtain⟨d,_,rfl⟩:=List.mem_map.mp (adg e);exact f.elim
  ·have e:i=ws.length:=by rw[adk]at fo;omega
   rw[e,adh (by simp)]at au;simp at au;subst au;obtain⟨u,z,J⟩:=f;cases z;exact⟨by omega,J⟩
  ·obtain⟨_,rfl⟩:=List.mem_replicate.mp (adg e);exact f.elim
 refine⟨⟨s,Sub.refl _,Nu _ _,fun _ _=>rfl⟩,by simp[rZ,av],fun i q e=>?_,fun i j b s1 s2 cQ cf ae au bE c3 f1 f2=>?_⟩
 ·rcases get3 e with⟨e,ak⟩|⟨fo,rfl⟩|⟨k,fo,e⟩
  ·have ak:i<ah.length:=by simpa using ak
   rw[ac4,acT ak]at e;obtain⟨u,ae,bc⟩:=a.get (acT ak);have eK:cJ.ao ah[i]=q:=ac0 e;subst eK;exact⟨some u,by rw[adl (by simpa[←av]using ak),ac4,ae];rfl,u,rfl,bc⟩
  ·have e:i=ws.length:=by rw[adk]at fo;omega
   exact⟨some v,by rw[e,adh (by simp)];simp,v,rfl,a1,bI,fun b J=>⟨no b J,FJ J⟩⟩
  ·obtain⟨aK,rfl⟩:=List.mem_replicate.mp (adg e);have aK:k<N-(ah.length+1):=by
    have:=(List.getElem?_eq_some_iff.mp e).1;simpa using this
   have fo:i=ws.length+1+k:=by simpa[av]using fo
   refine⟨none,?_,trivial⟩;rw[fo,adh (by simp;omega)];simp only[adk];rw[show ws.length+1+k-ws.length=k+1 by omega,ad5,adC,if_pos aK]
 ·rw[(foot i s1 cQ b ae bE f1).1,(foot j s2 cf b au c3 f2).1]
theorem MJ{K:PySem.W.Frag}{n N:Nat}{m:bf}{vs:List V}{H:ag}{Q:cH}{E:cT}(h:spT K n (xQ N m) vs H Q E) :
  ∃G aR,eG (dc K G aR) m { bL:=fun _ H'=>Q .non H',c_:=Q } (hY N vs) H:=by
 obtain⟨G,t,v,ah,ws,rfl,s,a1,bI,no,a,l,k⟩:=h;refine⟨G,_,G,rZ N ah t,VT s a1 bI no a,?_⟩;unfold xQ at k;cases e:m (rZ N ah t)with
 |bad=>rw[e]at k;exact k.elim
 |exc c=>rw[e]at k;exact k
 |ok f=>
  rw[e,R.bo]at k;cases f with
  |bL ρ=>exact fun σ' G' H' r _=>k .non G' H' r.az (by simp only[At])
  |c_ d=>exact k
  |hr ds=>exact k
  |fE t=>exact k
  |rs t _=>exact k.elim
  |fk ρ=>exact k.elim
  |c7 ρ=>exact k.elim
structure zC(P:ac_)(w:adB)(K:PySem.W.Frag)(mg:Str→Option acV)(base:adT)(x:Str)(n k:Nat)(mf:List D→T→R bT):Prop where
 ex:∃(f:ac1)(fd:ad1)(aO:List Str),gR P w K mg base fg k f fd aO (spT K n mf)∧mg x=some (.ref f)∧PySem.W.keepIn K (.ref f)=true∧Binds K fd aO []
theorem ND{P:ac_}{w:adB}{K:PySem.W.Frag}{mg:Str→Option acV}{base:adT}{x:Str}{st:ad4}{N aO:List Str}{k n:Nat}{m:bf}(d:dE K mg x st aO)(S:c2 N aO (bW st))(h:∀(f:ac1)(bV:acV)(A:adp)(outer:List Env)(s:acW)(H:ag)(E:cT),dx k (A.deeper (ady x (bW st) s.heap.objs.size f bV))→∀bD aR,gW (er fg P w K mg base N x (bW st) f bV A outer s H E).gh (dc K bD aR) (fl st) m)(aU:aO.length=n+1:=by rfl) :
  zC P w K mg base x n (k+1) (xQ N.length m):=by
 obtain⟨f,fd,fn,hm,J⟩:=d.ex;refine⟨f,fd,aO,fn.ok S (fun vs H Q E z=>by rw[aU];exact W3 vs H Q E z) fun bV A outer s H vs Q E ay aD=>?_,hm,fn.az,J⟩;obtain⟨G,aR,bJ⟩:=MJ aD;exact⟨_,(h f bV A outer s H E ay G aR).1,bJ⟩
noncomputable def wD(x:Nat)(mf:List D→T→R bT)(ρ:ai)(ah:List D):Option cJ→R (D×ai)
 |some (.cy t)=>((eF (mf ah t)).bind ym).bind fun d=>.ok (d,ρ.set x .un)
 |_=>.bad
noncomputable def xO(x:Nat)(mf:List D→T→R bT)(m1 m2 kL:aN):c6:=fun ρ=>(m1 ρ).bind fun d1=>(m2 ρ).bind fun cM=>(kL ρ).bind fun rL=>wD x mf ρ [d1,cM,rL] ρ[x]?
section
variable{X:aS}{F:bg}{e a b c:adq}{pos p:Pos}{m m1 m2 kL:aN}
theorem YR(x:Nat){f rh:Str}{k:Nat}{mf:List D→T→R bT}{bC:Pos}(b1:zC X.prog X.w X.K X.mg X.base f 3 k mf)(ay:dx k X.A)(h1:bh X F a m1)(h2:bh X F b m2)(h3:bh X F c kL)(b7:X.N[x]?=some rh:=by rfl)(bP:fL X.env.scope rh:=by first|exact adN rfl|exact ads (adN rfl)|exact ads (ads rfl))(hd:(rh==("__debug__" :Str))=false:=by decide)(dy:(rh==("__classdict__" :Str))=false:=by decide)(aY:F.K=X.K:=by rfl)(aI:dF X f:=by rfl)(e0:(f==("__debug__" :Str))=false:=by decide)(dP:notStar a=true:=by rfl)(dv:notStar b=true:=by rfl)(lO:notStar c=true:=by rfl)(di:(adF pos (acX [b,c,.Name rh bC] X.env)).any (·.1)=false:=by rfl) :
  fx X F (.Call (.Name f p) [a,b,c,.Name rh bC] [] pos) (xO x mf m1 m2 kL):=⟨by
 obtain⟨fS,fd,aO,fT,hm,aK,J⟩:=b1.ex;refine a4.imp (n2 fT ay aI hm aK J .nil n0 (hp h1.1 (hp h2.1 (hp h3.1 (hp (fY b7 bP hd dy) kl (n9 (.Name rh bC) [] X.env rfl)) (n9 c _ X.env lO)) (n9 b _ X.env dv)) (n9 a _ X.env dP)) e0 (n9 a _ X.env dP) di) ?_;rw[←aY];rintro σ H Q ⟨G,ρ,r,h⟩;unfold xO at h;refine⟨G,ρ,r,?_⟩;cases ae:m1 ρ with
 |bad=>rw[ae]at h;exact h.elim
 |exc c=>rw[ae]at h;exact h
 |ok d1=>
  rw[ae,R.bo]at h;intro v1 H1 aM aq s1 a1;refine⟨aM,ρ,aq,?_⟩;cases au:m2 ρ with
  |bad=>rw[au]at h;exact h.elim
  |exc c=>rw[au]at h;exact h
  |ok cM=>
   rw[au,R.bo]at h;intro v2 aX ck bp s2 a2;refine⟨ck,ρ,bp,?_⟩;cases bE:kL ρ with
   |bad=>rw[bE]at h;exact h.elim
   |exc c=>rw[bE]at h;exact h
   |ok rL=>
    rw[bE,R.bo]at h;intro X4 cK dJ dt s3 d3;cases ex:ρ[x]? with
    |none=>rw[ex]at h;exact h.elim
    |some s=>
     rw[ex]at h;cases s with
     |un=>exact h.elim
     |ao _=>exact h.elim
     |ob _=>exact h.elim
     |dg _ _=>exact h.elim
     |cy t=>
      simp only[wD]at h;obtain⟨v,ev,ok⟩:=dt.tree ex;refine⟨v,ev,?_⟩;refine⟨dJ,t,v,[d1,cM,rL],[v1,v2,X4],rfl,dt.az.sub,ok.at_,ok.bI,fun b J=>(ok.own b J).1,.cons (a1.mono (s2.g.trans s3.g)) (.cons (a2.mono s3.g) (.cons d3 .nil)),rfl,?_⟩;cases em:mf [d1,cM,rL] t with
      |bad=>rw[em]at h;exact h.elim
      |exc c=>rw[em]at h;exact h.elim
      |ok y=>
       rw[em]at h;cases y with
       |t _=>exact h.elim
       |o _=>exact h.elim
       |v d=>
        intro w G' H' k bc;have jN:=dt.drop x;have na:∀b,b3 cK σ (ρ.set x .un) b→b∉aQ cK t v:=fun b⟨i,s,o,bl,a_,f⟩ J=>by
         rcases get_set bl with⟨_,rfl⟩|⟨ne,bl⟩
         ·exact f.elim
         ·exact ne (dt.kD x i b _ _ _ _ ex bl ev a_ ⟨v,rfl,J⟩ f)
        have IU:∀b,F.aR b≠none→b∉aQ cK t v:=fun b J z=>J (ok.own b z).2;refine h w H' G' (jN.over rfl ⟨k.sub,dt.az.dh.trans k.dh,fun b o e=>?_,fun b J=>?_⟩ k.dh fun b br=>?_) (s1.g.trans (s2.g.trans (s3.g.trans k.dh))) bc
        ·have nb:=IU b (by rw[e];exact fun z=>nomatch z);exact k.bw b o (by show ly cK _ b=some o;rw[tw nb];exact dt.az.bw b o e)
        ·rw[show G' b=dJ b from k.new b (by show ly cK _ b≠none;rw[tw (IU b J)];exact dt.az.bw.some J)];exact dt.az.new b J
        ·obtain⟨g1,g2,g3⟩:=jN.foot br;refine⟨?_,?_,g3⟩
         ·cases bx:cK b with
          |none=>exact absurd bx g1
          |some o=>exact k.bw b o (by show ly cK _ b=some o;rw[tw (na b br)];exact bx)
         ·rw[show G' b=dJ b from k.new b (by show ly cK _ b≠none;rw[tw (na b br)];exact g1)];exact g2⟩
noncomputable def yk(mb:c6)(ρ:ai):D→R ez
 |.aC true=>(mb ρ).bind fun x=>.ok (.c_ x.1)
 |.aC false=>.ok (.c_ (.aC false))
 |_=>.bad
def xU(m:aN)(mb:c6):bf:=fun ρ=>(m ρ).bind fun d=>yk mb ρ d
theorem Zc{mb:c6}(U:bh X F a m)(J:fx X F b mb):dU X F (.Return (some (.BoolOp .And [a,b] p)) pos) (xU m mb):=⟨by
 refine cS.imp (lT (Jn U.1 (Jr J.1))) ?_;rintro b2 σ H ⟨G,ρ,r,h⟩;unfold xU at h;refine⟨G,ρ,r,?_⟩;cases aj:m ρ with
 |bad=>rw[aj]at h;exact h.elim
 |exc c=>rw[aj]at h;exact h
 |ok d=>
  rw[aj,R.bo]at h;intro x H1 aM aq s1 bZ;cases d with
  |aC c=>
   simp only[At]at bZ;refine⟨c,bZ,?_⟩;cases c with
   |true=>
    simp only[yk]at h;refine⟨aM,ρ,aq,?_⟩;cases bx:mb ρ with
    |bad=>rw[bx]at h;exact h.elim
    |exc c=>rw[bx]at h;exact h
    |ok y=>rw[bx,R.bo]at h;exact fun v H' G' a9 u a=>h v G' H' a9.az a
   |false=>exact h _ aM H1 aq.az (by simp only[At])
  |_=>exact h.elim⟩
def kf(m:c6):e1:=fun ρ=>(m ρ).bind fun x=>.ok x.2
theorem LF{m:c6}(h:fx X F e m)(aD:lP e=true:=by rfl):ta X F (.Expr e pos) (kf m):=⟨cS.imp (qV h.1 (iR _ _ _ _ aD)) fun b2 σ H⟨G,ρ,r,k⟩=>by
 unfold kf at k;refine⟨G,ρ,r,?_⟩;cases aj:m ρ with
 |bad=>rw[aj]at k;exact k.elim
 |exc c=>rw[aj]at k;exact k
 |ok y=>rw[aj,R.bo]at k;exact fun v H' G' a9 u a=>k G' H' a9 u⟩
theorem YV:wb X F [] (fun ρ=>.ok ρ):=⟨fi.imp Cw fun b2 σ H⟨G,ρ,r,k⟩=>k G H r (Sub.refl _)⟩
end
noncomputable def zM(j h:Nat)(aL:List T)(n:Nat)(ρ':ai):Option cJ→R ez
 |some (.ob (.lst eV))=>.ok (.bL ((ρ'.set j .un).set h (.cy (.lst (aL.set n (.lst (eV.map .ao)))))))
 |_=>.bad
noncomputable def zQ(h j:Nat)(mb:e1)(ρ:ai)(aL:List T)(n:Nat):Option (List D)→R ez
 |some ds=>if h≠j∧j<ρ.length then(eF (mb ((ρ.set h .un).set j (.br ds)))).bind fun ρ'=>zM j h aL n ρ' ρ'[j]? else .bad
 |none=>.bad
noncomputable def zP(h j:Nat)(mb:e1)(ρ:ai)(aL:List T)(n:Nat):Option T→R ez
 |some (.lst us)=>zQ h j mb ρ aL n (jT us)
 |_=>.bad
noncomputable def zO(h j:Nat)(mb:e1)(ρ:ai)(aL:List T):Option Nat→R ez
 |some n=>zP h j mb ρ aL n aL[n]?
 |none=>.bad
def zN(h j:Nat)(mb:e1)(ρ:ai)(aL:List T):D→R ez
 |.int z=>zO h j mb ρ aL (gA aL.length z)
 |_=>.bad
noncomputable def uf(h j:Nat)(me:aN)(mb:e1):bf:=fun ρ=>(ko h ρ).bind fun aL=>(me ρ).bind fun kd=>zN h j mb ρ aL kd
open Classical in
noncomputable def hO(H aR:ag)(l:List ac1)(q:ac1):ag:=fun b=>if b∈l∧b≠q then H b else aR b
theorem w5{H aR:ag}{l:List ac1}{q b:ac1}(h:b∈l)(n:b≠q):hO H aR l q b=H b:=by unfold hO;rw[if_pos ⟨h,n⟩]
theorem ql{H aR:ag}{l:List ac1}{q b:ac1}(h:¬(b∈l∧b≠q)):hO H aR l q b=aR b:=by unfold hO;rw[if_neg h]
section
variable{F:bg}{G H G' H':ag}{σ :a7.St}{ρ ρ':ai}
abbrev pS(F:bg)(H1:ag):bg:=⟨F.K,F.bD,H1,F.EX,F.pin⟩
theorem Rel.lift(r:Rel F G H σ ρ){h j n:Nat}{aL:List T}{ds:List D}{a q:ac1}{xs:List V}(oJ:ρ[h]?=some (.cy (.lst aL)))(aj: σ[h]?=some (some (.ref a)))(U:H a=some (.lst xs))(eK:aL[n]?=some (.lst (ds.map .ao)))(ex:xs[n]?=some (.ref q))(ne:h≠j)(cU:j<ρ.length) :
  Rel (pS F (hO H F.aR (aQ H (.lst aL) (.ref a)) q)) G H (σ.set j (some (.ref q))) ((ρ.set h .un).set j (.br ds)):=by
 obtain⟨v,au,dq,dj,dZ⟩:=r.tree oJ;rw[aj]at au;cases au;simp only[cE]at dq;obtain⟨ij,dW,z,fV,wl⟩:=dq;cases z;rw[U]at fV;cases fV;obtain⟨u,eL,jV⟩:=pE wl eK;rw[ex]at eL;cases eL;simp only[cE]at jV;obtain⟨dS,ys,z,aP,vE⟩:=jV;cases z;have mI:q∈aQ H (.lst aL) (.ref a):=by rw[fU U];exact ac7 _ (rR eK ex (by rw[fU aP];simp))
 have Je:=dZ q mI;have bp:Rel F G H σ (ρ.set h .un):=r.drop h;have nw:∀b,b3 H σ (ρ.set h .un) b→b∉aQ H (.lst aL) (.ref a):=fun b⟨i,s,o,bl,a_,f⟩ J=>by
  rcases get_set bl with⟨_,rfl⟩|⟨ne,bl⟩
  ·exact f.elim
  ·exact ne (r.kD h i b _ _ _ _ oJ bl aj a_ ⟨_,rfl,J⟩ f)
 have dt:Rel (pS F (hO H F.aR (aQ H (.lst aL) (.ref a)) q)) G H σ (ρ.set h .un):=by
  refine bp.over rfl ⟨r.az.sub,r.az.dh,fun b o e=>?_,fun b J=>?_⟩ (Sub.refl _) fun b br=>⟨rfl,(bp.foot br).2.1,?_⟩
  ·by_cases g:b∈aQ H (.lst aL) (.ref a)∧b≠q
   ·have e:hO H F.aR _ q b=some o:=e;rw[w5 g.1 g.2]at e;exact e
   ·have e:hO H F.aR _ q b=some o:=e;rw[ql g]at e;exact r.az.bw b o e
  ·by_cases g:b∈aQ H (.lst aL) (.ref a)∧b≠q
   ·have g1:=(dZ b g.1).1;show G b=F.bD b;rw[g1,r.az.dh.gone g1]
   ·have J:hO H F.aR _ q b≠none:=J;rw[ql g]at J;exact r.az.new b J
  ·show hO H F.aR _ q b=none;rw[ql fun g=>nw b br g.1];exact(bp.foot br).2.2
 refine dt.n8 (by simpa using cU) ⟨q,.lst ys,rfl,aP,Je.1,?_,ys,rfl,yL vE⟩ fun b f i s' cc TG ae au j5=>?_
 ·show hO H F.aR _ q q=none;rw[ql fun g=>g.2 rfl];exact Je.2
 ·have f:some (V.ref q)=some (.ref b):=f;cases f;exact nw q ⟨i,s',cc,ae,au,j5⟩ mI
theorem Rel.land(r:Rel F G H σ ρ){h j n:Nat}{aL:List T}{ds eV:List D}{a q:ac1}{xs:List V}{σ' :a7.St}(oJ:ρ[h]?=some (.cy (.lst aL)))(aj: σ[h]?=some (some (.ref a)))(U:H a=some (.lst xs))(eK:aL[n]?=some (.lst (ds.map .ao)))(ex:xs[n]?=some (.ref q))(a9:Rel (pS F (hO H F.aR (aQ H (.lst aL) (.ref a)) q)) G' H' σ' ρ')(bt:Sub G G')(hx:ρ'[j]?=some (.br eV))(eq: σ'[j]?=some (some (.ref q)))(FU: σ'[h]?=some (some (.ref a))) :
  Rel F G' H' σ' ((ρ'.set j .un).set h (.cy (.lst (aL.set n (.lst (eV.map .ao)))))):=by
 obtain⟨v,au,dq,dj,dZ⟩:=r.tree oJ;rw[aj]at au;cases au;simp only[cE]at dq;obtain⟨ij,dW,z,fV,wl⟩:=dq;cases z;rw[U]at fV;cases fV;obtain⟨u,eL,jV⟩:=pE wl eK;rw[ex]at eL;cases eL;simp only[cE]at jV;obtain⟨dS,ys,z,aP,vE⟩:=jV;cases z;have dH:aQ H (.lst aL) (.ref a)=a::c0 H aL xs:=fU U;have Tf:q∈c0 H aL xs:=rR eK ex (by rw[fU aP];simp);have na:a≠q:=fun z=>by rw[dH]at dj;exact(List.nodup_cons.mp dj).1 (by rw[z];exact Tf)
 have aD:∀b∈aQ H (.lst aL) (.ref a),H b≠none:=fun b J=>cE.some (by simp only[cE];exact⟨a,xs,rfl,U,wl⟩) b J;obtain⟨bN,ys',z,cO,cP,oM,gJ⟩:=a9.own hx;rw[eq]at z;cases z;have G9:∀b∈aQ H (.lst aL) (.ref a),b≠q→H' b=H b:=fun b J n=>by
  cases e:H b with
  |none=>exact absurd e (aD b J)
  |some o=>exact a9.az.bw b o (by show hO H F.aR _ q b=some o;rw[w5 J n];exact e)
 have f0:∀b,F.aR b≠none→¬(b∈aQ H (.lst aL) (.ref a)∧b≠q):=fun b J g=>J (dZ b g.1).2;have gi:=a9.drop j;have pe:∀b,b3 H' σ' (ρ'.set j .un) b→¬(b∈aQ H (.lst aL) (.ref a)∧b≠q):=fun b br g=>by have z:hO H F.aR (aQ H (.lst aL) (.ref a)) q b=none:=(gi.foot br).2.2;rw[w5 g.1 g.2]at z;exact aD b g.1 z
 have TY:¬b3 H' σ' (ρ'.set j .un) q:=a9.dropped hx eq rfl;have kU:Rel F G' H' σ' (ρ'.set j .un):=by
  refine gi.over (F':=F) rfl ⟨a9.az.sub,a9.az.dh,fun b o e=>?_,fun b J=>?_⟩ (Sub.refl _) fun b br=>⟨rfl,(gi.foot br).2.1,?_⟩
  ·exact a9.az.bw b o (by show hO H F.aR _ q b=some o;rw[ql (f0 b (by rw[e];exact fun z=>nomatch z))];exact e)
  ·exact a9.az.new b (by show hO H F.aR _ q b≠none;rw[ql (f0 b J)];exact J)
  ·have z:hO H F.aR (aQ H (.lst aL) (.ref a)) q b=none:=(gi.foot br).2.2;rw[ql (pe b br)]at z;exact z
 have bI:(c0 H aL xs).Nodup:=by rw[dH]at dj;exact(List.nodup_cons.mp dj).2
 obtain⟨dr,cj⟩:=yO (G:=G') (us':=eV.map .ao) (ys':=ys') aP (yK gJ) (by rw[rS,rS]) (wl.mono bt) bI eK ex;have az:∀b∈c0 (upd H q (.lst ys')) (aL.set n (.lst (eV.map .ao))) xs,H' b=upd H q (.lst ys') b:=fun b J=>by
  rw[cj]at J;by_cases z:b=q
  ·subst z;rw[dN];exact cO
  ·rw[c8 z];exact G9 b (by rw[dH];exact ac7 _ J) z
 obtain⟨t1,d7⟩:=dr.keep az;have oN:H' a=some (.lst xs):=(G9 a (by rw[dH];simp) na).trans U;have lz:aQ H' (.lst (aL.set n (.lst (eV.map .ao)))) (.ref a)=aQ H (.lst aL) (.ref a):=by rw[fU oN,d7,cj,dH]
 have bw:h<(ρ'.set j .un).length:=by have:=(List.getElem?_eq_some_iff.mp FU).1;rw[a9.len]at this;simpa using this
 have fin:=kU.n8 (i:=h) (s:=.cy (.lst (aL.set n (.lst (eV.map .ao))))) (o:=some (.ref a)) bw ⟨.ref a,rfl,by simp only[cE];exact⟨a,xs,rfl,oN,t1⟩,by rw[lz];exact dj,fun b J=>?_⟩ fun b f i s' cc TG ae au j5=>?_
 ·rw[sG FU]at fin;exact fin
 ·rw[lz]at J;refine⟨?_,(dZ b J).2⟩;by_cases z:b=q
  ·subst z;exact cP
  ·have bl:F.bD b=none:=r.az.dh.gone (dZ b J).1;rw[show G' b=F.bD b from a9.az.new b (by show hO H F.aR _ q b≠none;rw[w5 J z];exact aD b J)];exact bl
 ·obtain⟨u,eL,J⟩:=f;cases eL;rw[lz]at J;by_cases z:b=q
  ·subst z;exact TY ⟨i,s',cc,ae,au,j5⟩
  ·exact pe b ⟨i,s',cc,ae,au,j5⟩ ⟨J,z⟩
end
section
variable{X:aS}{F:bg}{e:adq}{pos:Pos}{me:aN}
theorem Y5(h j:Nat){x y:Str}{bC py pos':Pos}{s1 s2:ad4}{rest:List ad4}{m1 m2:e1}{kj:bf}(OT:X.N.Nodup)(he:bh X F e me)(tT:pY e)(h1:∀H1,ta X (pS F H1) s1 m1)(h2:∀H1,ta X (pS F H1) s2 m2)(ay:gW X F rest kj)(b7:X.N[h]?=some x:=by rfl)(bP:fL X.env.scope x:=by first|exact adN rfl|exact ads (adN rfl)|exact ads (ads rfl))(hd:(x==("__debug__" :Str))=false:=by decide)(dy:(x==("__classdict__" :Str))=false:=by decide)(ak:X.N[j]?=some y:=by rfl)(aA:Loc X.env.scope y:=by first|exact adN rfl|exact ads rfl)(hf:X.fn y=true∨X.env.scope.names.lookup y=some .local:=by first|exact .inl rfl|exact .inr rfl) :
  gW X F (.Assign [.Name y py] (.Subscript (.Name x bC) e pos') pos::s1::s2::rest) (bK (uf h j me (je m1 m2)) kj):=by
 have dr:cS X s1 (fun b2 σ H=>∃H1,yG (pS F H1) m1 b2 σ H):=fun pins s σ H D I⟨H1,q⟩=>(h1 H1).o pins s σ H D I q;have cj:cS X s2 (fun b2 σ H=>∃H1,yG (pS F H1) m2 b2 σ H):=fun pins s σ H D I⟨H1,q⟩=>(h2 H1).o pins s σ H D I q;refine⟨fi.imp (qW (pk OT ak aA (qU qx (fY b7 bP hd dy) he.1 tT) (iR _ _ _ _ rfl) hf) (qW dr (qW cj ay.1))) ?_⟩;rintro b2 σ H ⟨G,ρ,r,k⟩;unfold bK uf at k;cases cb:ko h ρ with
 |bad=>rw[cb]at k;exact k.elim
 |exc c=>exact(K0 cb).elim
 |ok aL=>
  rw[cb,R.bo]at k;have cI:=K1 cb;obtain⟨a,xs,ae,U,wl,bI⟩:=r.root cI;refine⟨.ref a,ae,G,ρ,r,?_⟩;cases d4:me ρ with
  |bad=>rw[d4]at k;exact k.elim
  |exc c=>rw[d4]at k;exact k
  |ok kd=>
   rw[d4,R.bo]at k;intro w H1 aM aq ix fM;cases kd with
   |int z=>
    simp only[zN]at k;simp only[At]at fM;cases iE:gA aL.length z with
    |none=>rw[iE]at k;exact k.elim
    |some n=>
     rw[iE]at k;simp only[zO]at k;obtain⟨ij,dW,eJ,fV,pH,x8⟩:=aq.root cI;rw[ae]at eJ;cases eJ;cases eK:aL[n]? with
     |none=>rw[eK]at k;exact k.elim
     |some t=>
      rw[eK]at k;cases t with
      |ao _=>exact k.elim
      |tup _=>exact k.elim
      |lst us=>
       simp only[zP]at k;cases eL:jT us with
       |none=>rw[eL]at k;exact k.elim
       |some ds=>
        rw[eL]at k;have:=yS eL;subst this;simp only[zQ]at k;by_cases ax:h≠j∧j<ρ.length
        ·rw[if_pos ax]at k;obtain⟨v,ev,jV⟩:=pE pH eK;simp only[cE]at jV;obtain⟨q,ys,rfl,aP,vE⟩:=jV;have tD:fb dW z=some (.ref q):=by
          unfold fb;rw[←pH.length,iE];exact ev
         refine .inl ⟨a,dW,z,.ref q,rfl,fM,bQ.of fV,tD,?_⟩;have bp:=aq.lift cI ae fV eK ev ax.1 ax.2;unfold je at k;have cU:j< σ.length:=by rw[r.len];exact ax.2
         refine⟨_,aM,_,bp,?_⟩;cases aj:m1 ((ρ.set h .un).set j (.br ds))with
         |bad=>rw[aj]at k;exact k.elim
         |exc c=>rw[aj]at k;exact k.elim
         |ok ρ1=>
          rw[aj,R.bo]at k;intro dJ cK dt s3;refine⟨_,dJ,ρ1,dt,?_⟩;cases bx:m2 ρ1 with
          |bad=>rw[bx]at k;exact k.elim
          |exc c=>rw[bx]at k;exact k.elim
          |ok c5=>
           rw[bx]at k;replace k:fP F G b2 ((zM j h aL n c5 c5[j]?).bind fun f=>match f with
            |.bL ρ'=>kj ρ'
            |f=>.ok f):=k
           intro pT gS jN s4;cases hx:c5[j]? with
           |none=>rw[hx]at k;exact k.elim
           |some s=>
            rw[hx]at k;cases s with
            |un=>exact k.elim
            |ao _=>exact k.elim
            |cy _=>exact k.elim
            |dg _ _=>exact k.elim
            |ob o=>
             cases o with
             |bH _ _=>exact k.elim
             |ins _ _ _=>exact k.elim
             |lst eV=>have gi:=aq.land cI ae fV eK ev jN (s3.trans s4) hx (by rw[adX cU]) (by rw[adP (afA ax.1)];exact ae);exact⟨pT,_,gi,fP.mono (ix.g.trans (s3.trans s4)) k⟩
        ·rw[if_neg ax]at k;exact k.elim
   |_=>exact k.elim
end
section
variable{X:aS}{F:bg}{bU iter elt:adq}{scope:aew}{N:List Str}{pos:Pos}
theorem Y8(i:Nat)(nl:Nat)(caps:List Nat){y:Str}{py:Pos}{ifs:List adq}{mi:aW}{set:D→ai→R ai}{mt:cL}{me:aW}{b6:Pos}(b7:X.N.Nodup)(S:oE X.env.scope X.N scope N nl caps=true)(ak:kz X F bU iter mi)(aI:pN X scope N bU set)(bJ:l6 X scope N ifs mt)(he:zm X scope N elt me)(b8:X.N[i]?=some y:=by rfl)(av:X.env.kindOf y=some .local:=by rfl)(tV:afu (.ListComp elt [⟨bU,iter,ifs,0⟩] scope b6) (some (.Name y py)) pos.line X.env=pure true:=by rfl)(ax:X.calm=true:=by rfl)(aY:F.K=X.K:=by rfl)(aD:∀x,adM iter X.env x=pure x:=by intro _;rfl) :
  dU X F (.Assign [.Name y py] (.ListComp elt [⟨bU,iter,ifs,0⟩] scope b6) pos) (lM i (o2 (iK nl caps mi set mt me))):=by
 refine⟨cS.imp (t:=jP (jQ F (o2 (iK nl caps mi set mt me))) (g4 i)) (cS.imp (t:=jP (jQ F (iK nl caps mi set mt me)) (g4 i)) ?_ fun b2 σ H h=>HK σ H _ h) BE⟩;refine FH (nl:=nl) (caps:=caps) (mi:=mi) (Q:=fun t=>cS X (.Assign [.Name y py] (.ListComp elt [⟨bU,iter,ifs,0⟩] scope b6) pos) (jP t (g4 i))) aY aI bJ he fun g g1 t1 ae imp=>?_;exact cS.imp (JC (.of S) ax b7 b8 av ak.1 g1 t1 ae tV aD) fun b2 σ H h=>imp σ H _ h
end
end bu
namespace bu
open PySem PySem.Spec a7 PyProof.Rows
section
variable{X:aS}{F:bg}{e:adq}{ah:List adq}{pos p:Pos}{ma:aW}
theorem Y9{oa:List ad4}:gW X F oa oZ:=⟨fun _ _ _ _ _ _⟨_,_,_,h⟩=>h.elim⟩
end
end bu
namespace bu
open PySem PySem.Spec a7
@[simp] theorem dw{α β:Type}(a:α)(k:α→R β):(R.ok a).bind k=k a:=(rfl)
@[simp] theorem acN{α β:Type}(k:α→R β):(R.bad:R α).bind k=.bad:=(rfl)
@[simp] theorem acO{α β:Type}(c:Str)(k:α→R β):(R.exc c:R α).bind k=.exc c:=(rfl)
def pB(b:bf):ez→R ez
 |.bL ρ=>b ρ
 |f=>.ok f
@[simp] theorem D4(a b:bf)(ρ:ai):bK a b ρ=(a ρ).bind (pB b):=by unfold bK;congr 1
@[simp] theorem Km(b:bf)(ρ:ai):pB b (.bL ρ)=b ρ:=(rfl)
@[simp] theorem aa_(b:bf)(d:D):pB b (.c_ d)=.ok (.c_ d):=(rfl)
@[simp] theorem aa9(b:bf)(d:List D):pB b (.hr d)=.ok (.hr d):=(rfl)
def vf:Option cJ→R D
 |some (.ao d)=>.ok d
 |_=>.bad
@[simp] theorem v_var(i:Nat)(ρ:ai):af i ρ=vf ρ[i]?:=by unfold af vf;rfl
@[simp] theorem aaV(d:D):vf (some (.ao d))=.ok d:=(rfl)
@[simp] theorem X6(d:D)(ρ:ai):aG d ρ=.ok d:=(rfl)
@[simp] theorem abt(f:D→D→R D)(a b:aN)(ρ:ai):aE f a b ρ=(a ρ).bind fun x=>(b ρ).bind fun y=>f x y:=(rfl)
@[simp] theorem acH(f:D→R D)(a:aN)(ρ:ai):df f a ρ=(a ρ).bind f:=(rfl)
@[simp] theorem vB(ρ:ai):aF ρ=.ok []:=(rfl)
@[simp] theorem yU(a:aN)(r:aW)(ρ:ai):ar a r ρ=(a ρ).bind fun x=>(r ρ).bind fun xs=>.ok (x::xs):=(rfl)
def vx(xs:List D):R D:=if xs.length≤1000000 then .ok (.tup xs)else .bad
@[simp] theorem Yg(m:aW)(ρ:ai):dK m ρ=(m ρ).bind vx:=(rfl)
@[simp] theorem abg{xs:List D}(h:xs.length≤1000000):vx xs=.ok (.tup xs):=if_pos h
@[simp] theorem abS(m:aW)(ρ:ai):fq m ρ=(m ρ).bind fun xs=>.ok (.lst xs):=(rfl)
@[simp] theorem Yb(m:aW)(ρ:ai):fX m ρ=(m ρ).bind lim:=(rfl)
@[simp] theorem abm(m:aN)(ρ:ai):bS m ρ=(m ρ).bind jC:=(rfl)
@[simp] theorem ZP(b:Bool):jC (.aC b)=.ok b:=(rfl)
@[simp] theorem v_and(a b:cL)(ρ:ai):nO a b ρ=(a ρ).bind fun c=>if c=true then b ρ else .ok false:=(rfl)
@[simp] theorem v_or(a b:cL)(ρ:ai):g5 a b ρ=(a ρ).bind fun c=>if c=true then .ok true else b ρ:=(rfl)
@[simp] theorem v_not(a:cL)(ρ:ai):eu a ρ=(a ρ).bind fun c=>.ok (!c):=(rfl)
@[simp] theorem abn(a b:aN)(ρ:ai):jL a b ρ=(a ρ).bind fun x=>(jC x).bind fun c=>if c=true then b ρ else .ok (.aC false):=(rfl)
@[simp] theorem abT(c:cL)(a b:bf)(ρ:ai):dn c a b ρ=(c ρ).bind fun k=>if k=true then a ρ else b ρ:=(rfl)
@[simp] theorem ab_(ρ:ai):du ρ=.ok (.bL ρ):=(rfl)
@[simp] theorem acr(a:aN)(ρ:ai):c9 a ρ=(a ρ).bind fun d=>.ok (.c_ d):=(rfl)
@[simp] theorem acv(a:aW)(ρ:ai):kO a ρ=(a ρ).bind fun d=>.ok (.hr d):=(rfl)
@[simp] theorem Yf(i:Nat)(d:D)(ρ:ai):bY i d ρ=if i<ρ.length then .ok (ρ.set i (.ao d))else .bad:=(rfl)
@[simp] theorem acy(i:Nat)(a:aN)(ρ:ai):eQ i a ρ=(a ρ).bind fun d=>(bY i d ρ).bind fun ρ'=>.ok (.bL ρ'):=(rfl)
@[simp] theorem Ye(i:Nat)(a:aW)(ρ:ai):gB i a ρ=(a ρ).bind fun ds=>if i<ρ.length then .ok (.bL (ρ.set i (.br ds)))else .bad:=(rfl)
@[simp] theorem acz(i:Nat)(a:c6)(ρ:ai):qG i a ρ=(a ρ).bind fun x=>(bY i x.1 x.2).bind fun ρ'=>.ok (.bL ρ'):=(rfl)
@[simp] theorem abQ(a:c6)(ρ:ai):uo a ρ=(a ρ).bind fun x=>.ok (.bL x.2):=(rfl)
@[simp] theorem abJ(f:List D→R D)(m:aW)(ρ:ai):cW f m ρ=(m ρ).bind f:=(rfl)
@[simp] theorem aby(n:Nat)(mf:List D→R bT)(m:aW)(ρ:ai):cD n mf m ρ=(m ρ).bind fun ds=>if ds.length=n then(mf ds).bind hD else .bad:=(rfl)
@[simp] theorem abB(n:Nat)(mf:List D→R bT)(m:aW)(ρ:ai):nP n mf m ρ=(m ρ).bind fun ds=>if ds.length=n then(mf ds).bind CG else .bad:=(rfl)
theorem La(mi:aW)(set:D→ai→R ai)(body:bf)(ρ:ai):e6 mi set body ρ=(mi ρ).bind fun ds=>f9 set body ds ρ:=(rfl)
@[simp] theorem aco(m:aW)(ρ:ai):hV m ρ=(m ρ).bind ps:=(rfl)
@[simp] theorem abV(m:aN)(ρ:ai):hB m ρ=(m ρ).bind Dz:=(rfl)
@[simp] theorem v_bor(m:aN)(ρ:ai):mE m ρ=(m (d5 ρ)).bind pj:=(rfl)
@[simp] theorem abx(m:cL)(ρ:ai):gM m ρ=m (d5 ρ):=(rfl)
theorem K_(nl:Nat)(caps:List Nat)(mi:aW)(set:D→ai→R ai)(tst:cL)(elt:aN)(ρ:ai):fp nl caps mi set tst elt ρ=(mi ρ).bind fun ds=>eF (gx set tst elt ds (j1 nl caps ρ) []):=(rfl)
@[simp] theorem ZM(i j:Int):fy (.int i) (.int j)=.ok (.int (i+j)):=(rfl)
@[simp] theorem abb(i j:Int):q2 (.int i) (.int j)=.ok (.int (i-j)):=(rfl)
@[simp] theorem aaF{i j:Int}(h1: -18446744073709551616<i)(h2:i<18446744073709551616):nX (.int i) (.int j)=.ok (.int (i*j)):=if_pos (adN ⟨h1,h2⟩)
@[simp] theorem mul_r{i j:Int}(h1: -18446744073709551616<j)(h2:j<18446744073709551616):nX (.int i) (.int j)=.ok (.int (i*j)):=if_pos (ads ⟨h1,h2⟩)
@[simp] theorem Z3{i j:Int}(h1:0<j)(h2:j<1073741824):i5 (.int i) (.int j)=.ok (.int (i/j)):=if_pos ⟨h1,h2⟩
@[simp] theorem aaE{i j:Int}(h:0<j):g6 (.int i) (.int j)=.ok (.int (i%j)):=if_pos h
@[simp] theorem aaU{i:Int}{j:Nat}(h:j≤1000000)(h1: -1000000<i)(h2:i<1000000):vb (.int i) (.int (j:Int))=.ok (.int (i^j)):=by have:sS i (j:Int):=⟨by omega,by omega,by omega⟩;simp only[vb,kb,if_pos this,aez]
theorem Vi:vb (.int 10) (.int 30)=.ok (.int 1000000000000000000000000000000):=(rfl)
@[simp] theorem aaB(i j:Int):r7 (.int i) (.int j)=.ok (.aC (decide (i<j))):=(rfl)
@[simp] theorem aas(i j:Int):lJ (.int i) (.int j)=.ok (.aC (decide (i≤j))):=(rfl)
@[simp] theorem aad(i j:Int):mz (.int i) (.int j)=.ok (.aC (decide (j<i))):=(rfl)
@[simp] theorem ZZ(i j:Int):dM true (.int i) (.int j)=.ok (.aC (i==j)):=(rfl)
@[simp] theorem aaG(i j:Int):dM false (.int i) (.int j)=.ok (.aC (!(i==j))):=(rfl)
@[simp] theorem aau(xs:List D):dR [.lst xs]=.ok (.int xs.length):=(rfl)
@[simp] theorem aaw(xs:List D):dR [.tup xs]=.ok (.int xs.length):=(rfl)
@[simp] theorem aav(xs:List D):dR [.cu xs]=.ok (.int xs.length):=(rfl)
@[simp] theorem aa2(d:D):hD (.v d)=.ok d:=(rfl)
@[simp] theorem aa0(ds:List D):hD (.o ds)=.ok (.lst ds):=(rfl)
@[simp] theorem aaX(ds:List D):CG (.o ds)=.ok ds:=(rfl)
@[simp] theorem aaR(d:D):outD (.c_ d)=.ok (.v d):=(rfl)
@[simp] theorem aaQ(d:List D):outD (.hr d)=.ok (.o d):=(rfl)
@[simp] theorem X8(N:Nat)(m:bf)(ds:List D):dA N m ds=(m (hS N ds)).bind outD:=(rfl)
def Co:Option cJ→R (List D)
 |some (.br ds)=>.ok ds
 |_=>.bad
@[simp] theorem ach(i:Nat)(ρ:ai):ownAt i ρ=Co ρ[i]?:=by unfold ownAt Co;rfl
@[simp] theorem aaS(ds:List D):Co (some (.br ds))=.ok ds:=(rfl)
@[simp] theorem Z4(set:D→ai→R ai)(body:bf)(ρ:ai):f9 set body [] ρ=.ok (.bL ρ):=(rfl)
theorem G3{set:D→ai→R ai}{body:bf}(I:Nat→ai→Prop):∀(ds:List D)(i:Nat)(ρ:ai),(∀(j:Nat) d ρ,ds[j]?=some d→I (i+j) ρ→∃ρ1 ρ',set d ρ=.ok ρ1∧body ρ1=.ok (.bL ρ')∧I (i+j+1) ρ')→I i ρ→∃ρ',f9 set body ds ρ=.ok (.bL ρ')∧I (i+ds.length) ρ'
 |[],i,ρ,_,h=>⟨ρ,rfl,h⟩
 |d::ds,i,ρ,st,h=>by
  obtain⟨ρ1,c5,ae,au,h2⟩:=st 0 d ρ rfl h;obtain⟨ρ',bE,h3⟩:=G3 I ds (i+1) c5 (fun j d ρ e ak=>by obtain⟨a,b,cp,dO,e3⟩:=st (j+1) d ρ (by simpa using e) (by rw[show i+(j+1)=i+1+j by omega];exact ak);exact⟨a,b,cp,dO,by rw[show i+1+j+1=i+(j+1)+1 by omega];exact e3⟩) (by simpa using h2)
  refine⟨ρ',?_,by rw[adf,show i+(ds.length+1)=i+1+ds.length by omega];exact h3⟩;rw[f9,ae,dw,au,dw];exact bE
theorem OI{mi:aW}{set:D→ai→R ai}{body:bf}{ds:List D}{ρ:ai}(I:Nat→ai→Prop)(ak:mi ρ=.ok ds)(st:∀(j:Nat) d ρ,ds[j]?=some d→I j ρ→∃ρ1 ρ',set d ρ=.ok ρ1∧body ρ1=.ok (.bL ρ')∧I (j+1) ρ')(h:I 0 ρ):∃ρ',e6 mi set body ρ=.ok (.bL ρ')∧I ds.length ρ':=by obtain⟨ρ',e,h'⟩:=G3 I ds 0 ρ (fun j d ρ e cU=>by rw[ae9]at cU ⊢;exact st j d ρ e cU) h;rw[ae9]at h';exact⟨ρ',by rw[La,ak,dw,e],h'⟩
@[simp] theorem ZS(d:D):fA (.ao d)=.ao d:=(rfl)
noncomputable def zW(i:Nat)(ρ:ai)(ds:List D)(d:D):R ez:=if ds.length<1000000 then .ok (.bL (ρ.set i (.br (ds++[d]))))else .bad
@[simp] theorem ZO{i:Nat}{ρ:ai}{ds:List D}{d:D}(h:ds.length<1000000):zW i ρ ds d=.ok (.bL (ρ.set i (.br (ds++[d])))):=if_pos h
@[simp] theorem abo(i:Nat)(m:aN)(ρ:ai):kM i m ρ=(ownAt i ρ).bind fun ds=>(m ρ).bind fun d=>zW i ρ ds d:=(rfl)
@[simp] theorem abq(i:Nat)(m:c6)(ρ:ai):r8 i m ρ=(ownAt i ρ).bind fun _=>(m ρ).bind fun x=>(ownAt i x.2).bind fun ds=>zW i x.2 ds x.1:=(rfl)
@[simp] theorem Ya(m:aN)(ρ:ai):lf m ρ=(m ρ).bind fun d=>.ok (d,ρ):=(rfl)
@[simp] theorem ab2(m:aW)(ρ:ai):lK m ρ=(m ρ).bind fun d=>.ok (d,ρ):=(rfl)
@[simp] theorem abL(a:c6)(r:fK)(ρ:ai):iL a r ρ=(a ρ).bind fun x=>(r x.2).bind fun y=>.ok (x.1::y.1,y.2):=(rfl)
@[simp] theorem acG(m:fK)(ρ:ai):o6 m ρ=(m ρ).bind fun x=>(vx x.1).bind fun d=>.ok (d,x.2):=by
  unfold o6 vx
  congr 1;funext x
  split<;>rfl
noncomputable def F8(i:Nat)(ds:List D)(ρ:ai):D→R (D×ai)
 |.lst ah=>if ds.length+ah.length≤1000000 then .ok (.non,ρ.set i (.br (ds++ah)))else .bad
 |_=>.bad
@[simp] theorem abR(i:Nat)(m:aN)(ρ:ai):uq i m ρ=(ownAt i ρ).bind fun ds=>(m ρ).bind fun d=>F8 i ds ρ d:=by unfold uq;congr 1
@[simp] theorem Z2{i:Nat}{ds ah:List D}{ρ:ai}(h:ds.length+ah.length≤1000000):F8 i ds ρ (.lst ah)=.ok (.non,ρ.set i (.br (ds++ah))):=if_pos h
noncomputable def va(i:Nat)(ds:List D)(ρ:ai):D→R (D×ai)
 |.int k=>if-(2^63)≤k∧k<2^63 then match agQ k ds.length with
  |some j=>match ds[j]? with
   |some y=>.ok (y,ρ.set i (.br (ds.eraseIdx j)))
   |none=>.bad
  |none=>.bad
  else .bad
 |_=>.bad
@[simp] theorem ack(i:Nat)(m:aN)(ρ:ai):xT i m ρ=(ownAt i ρ).bind fun ds=>(m ρ).bind fun d=>va i ds ρ d:=by unfold xT;congr 1
theorem Ve{i:Nat}{ds:List D}{ρ:ai}{k:Nat}(h:k<ds.length)(av:ds.length<1000000):va i ds ρ (.int (k:Int))=.ok (ds[k],ρ.set i (.br (ds.eraseIdx k))):=by
 have gX: -(2^63)≤(k:Int):=Int.le_trans (by decide) (Int.natCast_nonneg k);have fc:(k:Int)<2^63:=Int.lt_trans (b:=1000000) (by omega) (by decide);have s:agQ (k:Int) ds.length=some k:=by rw[PySem.seqIndex_of (by omega) (by omega)];simp
 simp only[va,if_pos (And.intro gX fc),s,acT h]
noncomputable def BF(i:Nat)(ds:List D)(ρ:ai)(y:D):D→R (D×ai)
 |.int k=>if 0≤k∧k<2^63∧ds.length<1000000 then .ok (.non,ρ.set i (.br (ds.take (min k.toNat ds.length)++y::ds.drop (min k.toNat ds.length))))else .bad
 |_=>.bad
@[simp] theorem abW(i:Nat)(m n:aN)(ρ:ai):o5 i m n ρ=(ownAt i ρ).bind fun ds=>(m ρ).bind fun d=>(n ρ).bind fun y=>BF i ds ρ y d:=by unfold o5;congr 1
@[simp] theorem ab4(m:aW)(ρ:ai):sd m ρ=(m ρ).bind qB:=(rfl)
@[simp] theorem ab3(m:aW)(ρ:ai):se m ρ=(m ρ).bind xG:=(rfl)
@[simp] theorem abX(m:aN)(ρ:ai):sa m ρ=(m ρ).bind D2:=(rfl)
@[simp] theorem acJ(set:D→ai→R ai)(m:aN)(ρ:ai):uC set m ρ=(m ρ).bind fun d=>(set d ρ).bind fun ρ'=>.ok (.bL ρ'):=(rfl)
@[simp] theorem Yd(m:aN)(ρ:ai):jd m ρ=(m (d5 ρ)).bind fun d=>.ok (.c_ d):=(rfl)
@[simp] theorem acf(a:aN)(ρ:ai):sf a ρ=(a ρ).bind fun x=>(jC x).bind fun c=>.ok (.aC (!c)):=(rfl)
@[simp] theorem aa3(ds:List D):Dz (.lst ds)=.ok ds:=(rfl)
@[simp] theorem abi(ds:List D):D2 (.tup ds)=.ok ds:=(rfl)
@[simp] theorem aay(ds:List D):xG [.lst ds]=.ok ds:=(rfl)
@[simp] theorem aax{xs:List D}(h:xs.length≤1000000):lim xs=.ok xs:=if_pos h
@[simp] theorem aab:d5 []=[]:=(rfl)
@[simp] theorem aaa(s:cJ)(ρ:ai):d5 (s::ρ)=nu s::d5 ρ:=(rfl)
@[simp] theorem Z7(d:D):nu (.ao d)=.ao d:=(rfl)
@[simp] theorem Z_:nu .un=.un:=(rfl)
@[simp] theorem Z8(ds:List D):nu (.ob (.lst ds))=.ao (.lst ds):=(rfl)
@[simp] theorem aaM(i:Int):pj (.int i)=.ok (.int i):=(rfl)
@[simp] theorem aaK(i:Bool):pj (.aC i)=.ok (.aC i):=(rfl)
@[simp] theorem IV{α:Type}(a:α):eF (R.ok a)=.ok a:=(rfl)
def D9:Option cJ→R (List D)
 |some (.ob (.lst ds))=>.ok ds
 |_=>.bad
@[simp] theorem acK(i:Nat)(ρ:ai):qH i ρ=D9 ρ[i]?:=by unfold qH D9;rfl
@[simp] theorem acP(ds:List D):D9 (some (.br ds))=.ok ds:=(rfl)
@[simp] theorem abK(f g:D→D→R D)(a b c:aN)(ρ:ai):ke f g a b c ρ=(a ρ).bind fun x=>(b ρ).bind fun y=>(f x y).bind fun z=>(jC z).bind fun k=>if k=true then(c ρ).bind fun w=>g y w else .ok (.aC false):=(rfl)
@[simp] theorem aak(N:Nat)(ds:List D):hS N ds=ds.map .ao++adZ (N-ds.length) .un:=(rfl)
theorem iI{xs:List D}{k:Nat}{d:D}(h:xs[k]?=some d):bk (.lst xs) (.int (k:Int))=.ok d:=by
 have aK:=(List.getElem?_eq_some_iff.mp h).1;have e:fb xs (k:Int)=some d:=by unfold fb gA;rw[if_pos (by omega),if_pos (by omega)];simpa using h
 simp only[bk,e]
theorem Rv{xs:List D}{k:Nat}{d:D}(h:xs[k]?=some d):bk (.cu xs) (.int (k:Int))=.ok d:=by
 have aK:=(List.getElem?_eq_some_iff.mp h).1;have e:fb xs (k:Int)=some d:=by unfold fb gA;rw[if_pos (by omega),if_pos (by omega)];simpa using h
 simp only[bk,e]
theorem BK{xs:List D}{k:Nat}{d:D}(h:xs[k]?=some d):bk (.tup xs) (.int (k:Int))=.ok d:=by
 have aK:=(List.getElem?_eq_some_iff.mp h).1;have e:fb xs (k:Int)=some d:=by unfold fb gA;rw[if_pos (by omega),if_pos (by omega)];simpa using h
 simp only[bk,e]
theorem uV(x:Int){n:Nat}(h:0<n):∃k:Nat,k<n∧x%(n:Int)=(k:Int):=by have h0:0≤x%(n:Int):=aeV _ (by omega);have h1:x%(n:Int)<(n:Int):=aeu _ (by omega);obtain⟨k,e⟩:=afg h0;exact⟨k,by omega,e⟩
@[simp] theorem VW(n:Nat)(h:n<1000000):ps [.int (n:Int)]=.ok (gN 0 n):=by have: -(2^62)≤(n:Int)∧(n:Int)<2^62:=⟨by omega,by omega⟩;simp only[ps,if_pos this,aez]
theorem VL{n j:Nat}{d:D}(h:(gN 0 n)[j]?=some d):j<n∧d=.int (j:Int):=by
 unfold gN at h;rw[ac4]at h;cases e:(adG n)[j]? with
 |none=>rw[e]at h;cases h
 |some k=>
  rw[e]at h;have cU:j<n:=by have:=(List.getElem?_eq_some_iff.mp e).1;simpa using this
  rw[afV cU]at e;cases e;simp at h;exact⟨cU,h.symm⟩
@[simp] theorem VN(a:Int)(n:Nat):(gN a n).length=n:=by simp[gN]
@[simp] theorem acM{α β ZE:Type}(r:R α)(f:α→R β)(g:β→R ZE):(r.bind f).bind g=r.bind fun x=>(f x).bind g:=by cases r<;>rfl
def Ends{β:Type}(r:R β)(T:β→Prop):Prop:=∃b,r=.ok b∧T b
@[simp] theorem ZX{β:Type}(b:β)(T:β→Prop):Ends (.ok b) T=T b:=propext ⟨fun⟨c,e,h⟩=>by cases e;exact h,fun h=>⟨b,rfl,h⟩⟩
@[simp] theorem ZW{β:Type}(T:β→Prop):Ends (.bad) T=False:=propext ⟨fun⟨c,e,h⟩=>(by cases e),aej⟩
theorem Ends.bind{α β:Type}{r:R α}{k:α→R β}{S:α→Prop}{T:β→Prop}(h:Ends r S)(f:∀b,S b→Ends (k b) T):Ends (r.bind k) T:=by obtain⟨b,rfl,J⟩:=h;exact f b J
def m_(I:ai→Prop)(f:ez):Prop:=∃ρ,f=.bL ρ∧I ρ
@[simp] theorem ZG(I:ai→Prop)(ρ:ai):m_ I (.bL ρ)=I ρ:=propext ⟨fun⟨r,e,h⟩=>by cases e;exact h,fun h=>⟨ρ,rfl,h⟩⟩
theorem FZ{β:Type}{mi:aW}{set:D→ai→R ai}{body:bf}{ds:List D}{ρ:ai}{k:ez→R β}{T:β→Prop}(I:Nat→ai→Prop)(ak:mi ρ=.ok ds)(h0:I 0 ρ)(st:∀(j:Nat) d ρ,ds[j]?=some d→I j ρ→Ends ((set d ρ).bind body) (m_ (I (j+1))))(fin:∀ρ',I ds.length ρ'→Ends (k (.bL ρ')) T):Ends ((e6 mi set body ρ).bind k) T:=by
 obtain⟨ρ',e,h⟩:=OI (body:=body) (set:=set) (mi:=mi) I ak (fun j d ρ hd lB=>by
  obtain⟨b,e,ρ',rfl,h⟩:=st j d ρ hd lB;cases ah:set d ρ with
  |bad=>rw[ah]at e;cases e
  |exc c=>rw[ah]at e;cases e
  |ok ρ1=>rw[ah,dw]at e;exact⟨ρ1,ρ',rfl,e,h⟩) h0
 rw[e,dw];exact fin ρ' h
def Kp(i:Nat):ez→R ez
 |.bL ρ'=>.ok (.bL (kE i ρ'))
 |f=>.ok f
@[simp] theorem acA(i:Nat)(a:aW)(ρ:ai):uA i a ρ=(gB i a ρ).bind (Kp i):=by unfold uA;congr 1
@[simp] theorem aba(i:Nat)(ρ:ai):Kp i (.bL ρ)=.ok (.bL (kE i ρ)):=(rfl)
noncomputable def Ax(ds:List D):D→R (List D)
 |.lst ah=>if ds.length+ah.length≤1000000 then .ok (ds++ah)else .bad
 |_=>.bad
@[simp] theorem ZR{ds ah:List D}(h:ds.length+ah.length≤1000000):Ax ds (.lst ah)=.ok (ds++ah):=if_pos h
noncomputable def Fy:D→D→R (List D)
 |.lst ds,.lst ah=>if ds.length+ah.length≤1000000 then .ok (ds++ah)else .bad
 |_,_=>.bad
@[simp] theorem ZQ{ds ah:List D}(h:ds.length+ah.length≤1000000):Fy (.lst ds) (.lst ah)=.ok (ds++ah):=if_pos h
@[simp] theorem abG(m n:aN)(ρ:ai):IF m n ρ=(m ρ).bind fun c=>(n ρ).bind fun d=>Fy c d:=by unfold IF;congr 1
@[simp] theorem abI(i:Nat)(m:aN)(ρ:ai):IH i m ρ=(ownAt i ρ).bind fun ds=>(m ρ).bind fun d=>Ax ds d:=by unfold IH;congr 1
@[simp] theorem abH(ma:aW)(m:aN)(ρ:ai):IG ma m ρ=(ma ρ).bind fun ds=>(m ρ).bind fun d=>Ax ds d:=by unfold IG;congr 1
@[simp] theorem acC(f:D→Option Int→Option Int→R D)(m:aN)(lo ak:oq)(ρ:ai):uB f m lo ak ρ=(m ρ).bind fun d=>(lo ρ).bind fun l=>(ak ρ).bind fun h=>f d l h:=(rfl)
def A5(i:Nat)(ρ:ai):Option cJ→ai
 |some (.ob o)=>ρ.set i (.ao (ji o))
 |_=>ρ
@[simp] theorem Z6(i:Nat)(ρ:ai):kE i ρ=A5 i ρ ρ[i]?:=by unfold kE A5;rfl
@[simp] theorem Z5(i:Nat)(ρ:ai)(ds:List D):A5 i ρ (some (.br ds))=ρ.set i (.ao (.lst ds)):=(rfl)
@[simp] theorem aca(ρ:ai):S1 ρ=.ok none:=(rfl)
@[simp] theorem aci(m:aN)(ρ:ai):ux m ρ=(m ρ).bind intD:=(rfl)
@[simp] theorem aal(i:Int):intD (.int i)=.ok (some i):=(rfl)
theorem FY{β α:Type}{mi:aW}{elt:aN}{tst:cL}{caps:List Nat}{ρ:ai}{k:List D→R β}{T:β→Prop}(g:α→D)(xs:List α)(p:α→Bool)(f:α→D)(ak:mi ρ=.ok (xs.map g))(av:xs.length≤1000)(bJ:∀a∈xs,tst (.ao (g a)::caps.map fun j=>fA (ρ.getD j .un))=.ok (p a))(h:∀a∈xs,p a=true→elt (.ao (g a)::caps.map fun j=>fA (ρ.getD j .un))=.ok (f a))(fin:Ends (k ((xs.filter p).map f)) T):Ends ((fp 1 caps mi (bY 0) tst elt ρ).bind k) T:=by
 have go:∀(xs:List α)(ws:List D)(s0:cJ),ws.length+xs.length≤1000000→(∀a∈xs,tst (.ao (g a)::caps.map fun j=>fA (ρ.getD j .un))=.ok (p a))→(∀a∈xs,p a=true→elt (.ao (g a)::caps.map fun j=>fA (ρ.getD j .un))=.ok (f a))→gx (bY 0) tst elt (xs.map g) (s0::caps.map fun j=>fA (ρ.getD j .un)) ws=.ok (ws++(xs.filter p).map f):=by
  intro xs;induction xs with
  |nil=>intro ws s0 _ _ _;simp[gx]
  |cons a xs cq=>
   intro ws s0 av bJ h;simp only[adf]at av;have cI:bY 0 (g a) (s0::caps.map fun j=>fA (ρ.getD j .un))=.ok (.ao (g a)::caps.map fun j=>fA (ρ.getD j .un)):=by simp
   rw[ac8,gx,cI,dw,bJ a (by simp),dw];cases e:p a with
   |true=>simp only[if_true,h a (by simp) e,dw,if_pos (show ws.length<1000000 by omega)];rw[cq (ws++[f a]) _ (by simp;omega) (fun x aA=>bJ x (by simp[aA])) fun x aA=>h x (by simp[aA])];simp[e]
   |false=>simp only[adx,if_false];rw[cq ws _ (by omega) (fun x aA=>bJ x (by simp[aA])) fun x aA=>h x (by simp[aA])];simp[e]
 rw[K_,ak,dw];have e:=go xs [] .un (by simp;omega) bJ h;have:eF (gx (bY 0) tst elt (xs.map g) (j1 1 caps ρ) [])=.ok ((xs.filter p).map f):=by show eF (gx (bY 0) tst elt (xs.map g) (.un::caps.map fun j=>fA (ρ.getD j .un)) [])=_;rw[e];rfl
 rw[this,dw];exact fin
theorem AL{β α:Type}{mi:aW}{elt:aN}{caps:List Nat}{ρ:ai}{k:List D→R β}{T:β→Prop}(g:α→D)(xs:List α)(f:α→D)(ak:mi ρ=.ok (xs.map g))(av:xs.length≤1000)(h:∀a∈xs,elt (.ao (g a)::caps.map fun j=>fA (ρ.getD j .un))=.ok (f a))(fin:Ends (k (xs.map f)) T):Ends ((fp 1 caps mi (bY 0) eE elt ρ).bind k) T:=
 FY g xs (fun _=>true) f ak av (fun _ _=>rfl) (fun a U _=>h a U) (by rw[List.filter_eq_self.mpr fun _ _=>rfl];exact fin)
theorem VK(n:Nat):gN 0 n=(adG n).map fun(i:Nat)=>.int (i:Int):=by simp[gN]
theorem wQ{β:Type}{mi:aW}{elt:aN}{caps:List Nat}{ρ:ai}{k:List D→R β}{T:β→Prop}(n:Nat)(f:Nat→D)(ak:mi ρ=.ok (gN 0 n))(av:n≤1000)(h:∀a,a<n→elt (.ao (.int (a:Int))::caps.map fun j=>fA (ρ.getD j .un))=.ok (f a))(fin:Ends (k ((adG n).map f)) T):Ends ((fp 1 caps mi (bY 0) eE elt ρ).bind k) T:=
 AL (fun(i:Nat)=>.int (i:Int)) (adG n) f (by rw[ak,VK]) (by simpa using av) (fun a U=>h a (by simpa using U)) fin
theorem rP{β α:Type}{mi:aW}{set:D→ai→R ai}{body:bf}{ρ:ai}{k:ez→R β}{T:β→Prop}(g:α→D)(xs:List α)(I:Nat→ai→Prop)(ak:mi ρ=.ok (xs.map g))(h0:I 0 ρ)(st:∀(j:Nat) a ρ,xs[j]?=some a→I j ρ→Ends ((set (g a) ρ).bind body) (m_ (I (j+1))))(fin:∀ρ',I xs.length ρ'→Ends (k (.bL ρ')) T):Ends ((e6 mi set body ρ).bind k) T:=
 FZ I ak h0 (fun j d ρ hd lB=>by
  rw[ac4]at hd;cases e:xs[j]? with
  |none=>rw[e]at hd;cases hd
  |some a=>rw[e]at hd;cases hd;exact st j a ρ e lB) (by rw[adk];exact fin)
theorem rQ{β:Type}{mi:aW}{set:D→ai→R ai}{body:bf}{ρ:ai}{k:ez→R β}{T:β→Prop}(n:Nat)(I:Nat→ai→Prop)(ak:mi ρ=.ok (gN 0 n))(h0:I 0 ρ)(st:∀(j:Nat) ρ,j<n→I j ρ→Ends ((set (.int (j:Int)) ρ).bind body) (m_ (I (j+1))))(fin:∀ρ',I n ρ'→Ends (k (.bL ρ')) T):Ends ((e6 mi set body ρ).bind k) T:=
 FZ I ak h0 (fun j d ρ hd lB=>by obtain⟨cU,rfl⟩:=VL hd;exact st j ρ cU lB) (by rw[VN];exact fin)
theorem IJ{α β:Type}(f:α→β):∀(l:List α)(i:Nat),(l.map f).eraseIdx i=(l.eraseIdx i).map f
 |[],_=>rfl
 |x::l,0=>rfl
 |x::l,i+1=>by simp only[afc,ac8,IJ f l i]
theorem JA{α:Type}(g:α→D){l:List α}{i:Nat}{k:Nat}(h:k<l.length)(av:l.length<1000000)(ρ:ai):va i (l.map g) ρ (.int (k:Int))=.ok (g l[k],ρ.set i (.br ((l.eraseIdx k).map g))):=by rw[Ve (by simpa using h) (by simpa using av),IJ];simp
@[simp] theorem aaA(n:Nat)(h:n≤1000000):qB [.int (n:Int)]=.ok (gN 0 n):=by have: -(2^62)≤(n:Int)∧(n:Int)≤1000000:=⟨by omega,by omega⟩;simp only[qB,if_pos this,aez]
@[simp] theorem aaC(i j:Int):S8 [.int i,.int j]=.ok (.int (if j>i then j else i)):=(rfl)
@[simp] theorem ZN{xs ys:List D}(h:xs.length+ys.length≤1000000):fy (.lst xs) (.lst ys)=.ok (.lst (xs++ys)):=if_pos h
@[simp] theorem aa6(xs:List D)(l h:Option Int):vl (.lst xs) l h=.ok (.lst (iD xs l h)):=(rfl)
@[simp] theorem aa7(xs:List D)(l h:Option Int):vl (.cu xs) l h=.ok (.lst (iD xs l h)):=(rfl)
theorem Nq{α β:Type}(g:α→β)(xs:List α)(l h:Option Int):iD (xs.map g) l h=(iD xs l h).map g:=by unfold iD;simp[List.map_take,List.map_drop]
@[simp] theorem WI(a8:List (D→ai→R ai))(ds:List D)(ρ:ai):gk a8 (.tup ds) ρ=hX a8 ds ρ:=(rfl)
@[simp] theorem WG(ρ:ai):hX [] [] ρ=.ok ρ:=(rfl)
@[simp] theorem WE(f:D→ai→R ai)(a8:List (D→ai→R ai))(d:D)(ds:List D)(ρ:ai):hX (f::a8) (d::ds) ρ=(f d ρ).bind fun ρ'=>hX a8 ds ρ':=(rfl)
@[simp] theorem ab7(b1:Str)(n:Nat)(mf:List D→R (List Str×List D))(ma:aW)(ρ:ai):uw b1 n mf ma ρ=(ma ρ).bind fun ds=>if ds.length=n then(eF (mf ds)).bind fun x=>.ok (.ins b1 x.1 x.2)else .bad:=(rfl)
@[simp] theorem abj(xs:List D):pF [.lst xs]=.ok (.tup xs):=(rfl)
@[simp] theorem abO(k:Str)(i:Int)(ρ:ai):S0 k i ρ=.ok (.eO [.inr k] [.int i]):=(rfl)
@[simp] theorem aaH(i:Int):mK (.int i)=.ok (.int (-i)):=(rfl)
@[simp] theorem aaW{x:D}{k:Int}(h0:0≤k)(h:k≤1000):JX (.lst [x]) (.int k)=.ok (.lst (adZ k.toNat x)):=by
  have b:0≤k∧k≤1000∧[x].length≤100:=⟨h0,h,by simp⟩;simp only[JX,if_pos b]
  congr 2
  generalize k.toNat=n;induction n with
  |zero=>rfl
  |succ n cq=>simp[List.replicate_succ,cq]
@[simp] theorem Lb(m:aW)(ρ:ai):o4 m ρ=(m ρ).bind qf:=(rfl)
@[simp] theorem v_is(m:aN)(ρ:ai):ur m ρ=(m ρ).bind DB:=(rfl)
@[simp] theorem acD(m:aW)(ρ:ai):xW m ρ=(m ρ).bind vm:=(rfl)
@[simp] theorem ab9(i:Nat)(m:bf)(ρ:ai):xR i m ρ=m (kE i ρ):=(rfl)
@[simp] theorem abU(c:cL)(a b:aN)(ρ:ai):sb c a b ρ=(c ρ).bind fun k=>if k=true then a ρ else b ρ:=(rfl)
@[simp] theorem acg(a b:aN)(ρ:ai):qD a b ρ=(a ρ).bind fun x=>(jC x).bind fun c=>if c=true then .ok (.aC true)else b ρ:=(rfl)
@[simp] theorem ab8(b1 mt:Str)(n:Nat)(mf:List D→R bT)(o:aN)(ma:aW)(ρ:ai):kN b1 mt n mf o ma ρ=(o ρ).bind fun d=>(n7 b1 mt d).bind fun d=>(ma ρ).bind fun ds=>if ds.length=n then(mf (d::ds)).bind hD else .bad:=(rfl)
@[simp] theorem abN(ρ:ai):SY ρ=.ok (.eO [] []):=(rfl)
@[simp] theorem ab6(i:Nat)(a:gU)(ρ:ai):lM i a ρ=(a ρ).bind fun t=>if i<ρ.length then .ok (.bL (ρ.set i (.cy t)))else .bad:=(rfl)
@[simp] theorem ab5(a:gU)(ρ:ai):mH a ρ=(a ρ).bind fun t=>.ok (.fE t):=(rfl)
def D_:Option cJ→R T
 |some (.cy t)=>.ok t
 |_=>.bad
@[simp] theorem acL(i:Nat)(ρ:ai):si i ρ=D_ ρ[i]?:=by unfold si D_;rfl
@[simp] theorem acQ(t:T):D_ (some (.cy t))=.ok t:=(rfl)
def DY:Option cJ→R (List T)
 |some (.cy (.lst aL))=>.ok aL
 |_=>.bad
@[simp] theorem acE(i:Nat)(ρ:ai):ko i ρ=DY ρ[i]?:=by unfold ko DY;rfl
@[simp] theorem abe(aL:List T):DY (some (.cy (.lst aL)))=.ok aL:=(rfl)
@[simp] theorem aa8(b:bf)(t:T):pB b (.fE t)=.ok (.fE t):=(rfl)
@[simp] theorem aaP(t:T):outD (.fE t)=.ok (.t t):=(rfl)
@[simp] theorem aa1(t:T):hD (.t t)=.ok (toD t):=(rfl)
@[simp] theorem Z9(t:T):nu (.cy t)=.ao (toD t):=(rfl)
@[simp] theorem abp(i:Nat)(mk m:aN)(ρ:ai):xK i mk m ρ=(ko i ρ).bind fun aL=>(mk ρ).bind fun k=>tg i ρ aL m k:=(rfl)
theorem Ms{i:Nat}{ρ:ai}{aL:List T}{m:aN}{k:Nat}{us:List T}{d:D}(h:aL[k]?=some (.lst us))(hm:m ρ=.ok d)(aV:us.length<1000000):tg i ρ aL m (.int (k:Int))=.ok (.bL (ρ.set i (.cy (.lst (aL.set k (.lst (us++[.ao d]))))))):=by
 have aK:=(List.getElem?_eq_some_iff.mp h).1;have e:gA aL.length (k:Int)=some k:=by unfold gA;rw[if_pos (by omega),if_pos (by omega)];simp
 simp only[tg,e,zX,h,hm,dw,if_pos aV]
@[simp] theorem acn(i:Nat)(mk mv:aN)(ρ:ai):S2 i mk mv ρ=(mv ρ).bind fun v=>(ownAt i ρ).bind fun ds=>(mk ρ).bind fun k=>putK i ρ ds v k:=(rfl)
def Rr(ds:List D):D→R D
 |.int j=>match fb ds j with
  |some d=>.ok d
  |none=>.bad
 |_=>.bad
@[simp] theorem abY(i:Nat)(n:aN)(ρ:ai):II i n ρ=(ownAt i ρ).bind fun ds=>(n ρ).bind (Rr ds):=by unfold II;congr 1
@[simp] theorem abd(k:Bool):vu [.aC k]=.ok (.int (if k then 1 else 0)):=(rfl)
@[simp] theorem aam(x:D):jK true x .non=.ok (.aC (i_ x)):=(rfl)
@[simp] theorem aa4(x:Str):DB (.str x)=.ok (x.cps.toList.map jn):=(rfl)
theorem wR{α:Type}(g:α→D)(xs:List α):qf [.lst (xs.map g)]=.ok (xs.zipIdx.map fun p=>.tup [.int (p.2:Int),g p.1]):=by
 simp only[qf,oK]
 congr 1
 rw[List.zipIdx_map,aeW];rfl
theorem LY{α:Type}{xs:List α}{j:Nat}{p:α×Nat}(h:xs.zipIdx[j]?=some p):p.2=j∧xs[j]?=some p.1:=by
 rw[ahx]at h;cases e:xs[j]? with
 |none=>rw[e]at h;cases h
 |some a=>rw[e]at h;simp at h;subst h;exact⟨rfl,rfl⟩
theorem LZ{α:Type}{xs:List α}{p:α×Nat}(h:p∈xs.zipIdx):xs[p.2]?=some p.1:=by obtain⟨j,e⟩:=List.mem_iff_getElem?.mp h;obtain⟨h1,h2⟩:=LY e;rw[h1];exact h2
theorem wO{β α:Type}{mi:aW}{elt:aN}{caps:List Nat}{ρ:ai}{k:List D→R β}{s_:β→Prop}(g1 g2:α→D)(xs:List α)(f:α→D)(ak:mi ρ=.ok (xs.map fun a=>.tup [g1 a,g2 a]))(av:xs.length≤1000)(h:∀a∈xs,elt (.ao (g1 a)::.ao (g2 a)::caps.map fun j=>fA (ρ.getD j .un))=.ok (f a))(fin:Ends (k (xs.map f)) s_):Ends ((fp 2 caps mi (gk [bY 0,bY 1]) eE elt ρ).bind k) s_:=by
 have go:∀(xs:List α)(ws:List D)(s0 s1:cJ),ws.length+xs.length≤1000000→(∀a∈xs,elt (.ao (g1 a)::.ao (g2 a)::caps.map fun j=>fA (ρ.getD j .un))=.ok (f a))→gx (gk [bY 0,bY 1]) eE elt (xs.map fun a=>.tup [g1 a,g2 a]) (s0::s1::caps.map fun j=>fA (ρ.getD j .un)) ws=.ok (ws++xs.map f):=by
  intro xs;induction xs with
  |nil=>intro ws s0 s1 _ _;simp[gx]
  |cons a xs cq=>
   intro ws s0 s1 av h;simp only[adf]at av;have cI:gk [bY 0,bY 1] (.tup [g1 a,g2 a]) (s0::s1::caps.map fun j=>fA (ρ.getD j .un))=.ok (.ao (g1 a)::.ao (g2 a)::caps.map fun j=>fA (ρ.getD j .un)):=by simp
   rw[ac8,gx,cI,dw];simp only[eE,dw,if_true,h a (by simp),if_pos (show ws.length<1000000 by omega)];rw[cq (ws++[f a]) _ _ (by simp;omega) fun x aA=>h x (by simp[aA])];simp
 rw[K_,ak,dw];have e:=go xs [] .un .un (by simp;omega) h;have:eF (gx (gk [bY 0,bY 1]) eE elt (xs.map fun a=>.tup [g1 a,g2 a]) (j1 2 caps ρ) [])=.ok (xs.map f):=by show eF (gx (gk [bY 0,bY 1]) eE elt (xs.map fun a=>.tup [g1 a,g2 a]) (.un::.un::caps.map fun j=>fA (ρ.getD j .un)) [])=_;rw[e];rfl
 rw[this,dw];exact fin
theorem AO{β α:Type}{mi:aW}{elt:aW}{caps:List Nat}{ρ:ai}{k:T→R β}{s_:β→Prop}(g:α→D)(xs:List α)(f:α→List D)(ak:mi ρ=.ok (xs.map g))(av:xs.length≤1000)(h:∀a∈xs,elt (.ao (g a)::caps.map fun j=>fA (ρ.getD j .un))=.ok (f a))(fin:Ends (k (.lst (xs.map fun a=>hU (f a)))) s_):Ends ((iK 1 caps mi (bY 0) eE elt ρ).bind k) s_:=by
 have go:∀(xs:List α)(ws:List T)(s0:cJ),ws.length+xs.length≤1000000→(∀a∈xs,elt (.ao (g a)::caps.map fun j=>fA (ρ.getD j .un))=.ok (f a))→kB (bY 0) eE elt (xs.map g) (s0::caps.map fun j=>fA (ρ.getD j .un)) ws=.ok (ws++xs.map fun a=>hU (f a)):=by
  intro xs;induction xs with
  |nil=>intro ws s0 _ _;simp[kB]
  |cons a xs cq=>
   intro ws s0 av h;simp only[adf]at av;have cI:bY 0 (g a) (s0::caps.map fun j=>fA (ρ.getD j .un))=.ok (.ao (g a)::caps.map fun j=>fA (ρ.getD j .un)):=by simp
   rw[ac8,kB,cI,dw];simp only[eE,dw,if_true,h a (by simp),if_pos (show ws.length<1000000 by omega)];rw[cq (ws++[hU (f a)]) _ (by simp;omega) fun x aA=>h x (by simp[aA])];simp
 have e:=go xs [] .un (by simp;omega) h;have:iK 1 caps mi (bY 0) eE elt ρ=.ok (.lst (xs.map fun a=>hU (f a))):=by
  unfold iK;rw[ak,dw];have:eF (kB (bY 0) eE elt (xs.map g) (j1 1 caps ρ) [])=.ok (xs.map fun a=>hU (f a)):=by show eF (kB (bY 0) eE elt (xs.map g) (.un::caps.map fun j=>fA (ρ.getD j .un)) [])=_;rw[e];rfl
  rw[this,dw]
 rw[this,dw];exact fin
theorem Ends.done{β:Type}{r:R β}{b:β}(h:Ends r (· =b)):r=.ok b:=by obtain⟨c,e,rfl⟩:=h;exact e
end bu
namespace cv
open PySem PySem.Spec a7 bu
noncomputable def top(i:Nat):ad4:=PySem.Challenge.pw_nohalfway_k05_ways_walked.main.body.getD i (.Pass ⟨0,0,0,0⟩)
abbrev yn:ad4:=top 46
abbrev De:ad4:=top 41
abbrev Dh:ad4:=top 47
abbrev Dc:ad4:=top 38
abbrev C9:ad4:=top 48
abbrev Dg:ad4:=top 39
abbrev Dd:ad4:=top 40
abbrev Dn:ad4:=top 42
abbrev Dj:ad4:=top 43
abbrev Dl:ad4:=top 44
abbrev C_:ad4:=top 45
abbrev Dp:ad4:=top 49
abbrev C8:ad4:=top 54
abbrev C3:ad4:=top 7
abbrev C4:ad4:=top 8
abbrev CR:ad4:=top 31
abbrev C0:ad4:=top 32
abbrev CY:ad4:=top 33
abbrev C5:ad4:=top 34
abbrev CS:ad4:=top 35
abbrev CN:ad4:=inClass (top 36) 0
abbrev C7:ad4:=top 50
abbrev Df:ad4:=top 51
abbrev Di:ad4:=top 52
abbrev Dm:ad4:=top 53
abbrev C1:ad4:=top 14
abbrev CZ:ad4:=top 18
abbrev C2:ad4:=top 19
abbrev CV:ad4:=top 20
abbrev CM:ad4:=inClass (top 36) 1
abbrev CW:ad4:=top 21
abbrev Dr:ad4:=top 22
abbrev CO:ad4:=inClass (top 36) 5
abbrev CP:ad4:=inClass (top 36) 6
abbrev CU:ad4:=top 13
abbrev CT:ad4:=top 15
abbrev Ds:ad4:=top 23
abbrev CL:ad4:=inClass (top 36) 3
abbrev Dq:ad4:=top 25
abbrev Dt:ad4:=top 26
abbrev Du:ad4:=top 27
abbrev C6:ad4:=top 55
abbrev CQ:ad4:=inClass (top 36) 4
abbrev Dk:ad4:=top 56
abbrev px:ad4:=top 57
def rF:D:=.int 15
def rG:D:=.int 4
def p7:D:=.int 6
def rH:D:=.int 12
noncomputable def rI:D:=.dI [.str (PySem.Str.ofString "0"),.str (PySem.Str.ofString "1"),.str (PySem.Str.ofString "x")]
def oD:D:=.dI [.int 8,.int 4,.int 2,.int 1]
structure zH(K:PySem.W.Frag)(mg:Str→Option acV):Prop where
 GF:dE K mg "_law_digit" yn ["_law_state","_law_many"]
 GG:dE K mg "_law_doors" De ["_law_counts_here"]
 GJ:dE K mg "_law_net_by" Dh ["_law_state"]
 GC:dE K mg "_law_cell_at" Dc ["_law_script","_law_k"]
 GA:dE K mg "_law_book_by" C9 ["_law_state","_law_doors_here"]
 GI:dE K mg "_law_mix" Dg ["_law_cell","_law_k"]
 GD:dE K mg "_law_counts" Dd ["_law_script"]
 GQ:dE K mg "_law_wires" Dn ["_law_script","_law_counts_here"]
 GL:dE K mg "_law_pattern" Dj ["_law_number"]
 GO:dE K mg "_law_row" Dl ["_law_cell","_law_k","_law_doors_here"]
 GB:dE K mg "_law_books" C_ ["_law_cells","_law_counts_here"]
 GR:dE K mg "_law_world" Dp ["_law_script"]
 Gz:dE K mg "_law_beyond" C8 ["_law_wires_here"]
 Gv:dE K mg "is_whole" C3 ["thing"]
 Gw:dE K mg "is_whole_within" C4 ["thing","least","greatest"]
 Gi:dE K mg "are_counts" CR ["thing"]
 Gr:dE K mg "is_pair" C0 ["thing"]
 Gp:dE K mg "is_door_among" CY ["counts","thing"]
 Gx:dE K mg "is_wire_among" C5 ["counts","thing"]
 Gj:dE K mg "far_doors" CS ["counts","wires"]
 Ge:InK K mg "Net" "Net.__init__" CN ["self","counts","wires"]
 Gy:dE K mg "_law_asked" C7 ["_law_script"]
 GH:dE K mg "_law_fits" Df ["_law_pattern_here","_law_address"]
 GK:dE K mg "_law_out_of" Di ["_law_books_here","_law_door","_law_address"]
 GP:dE K mg "_law_walk" Dm ["_law_books_here","_law_beyond_here","_law_door","_law_address"]
 Gs:dE K mg "is_pattern" C1 ["thing"]
 Gq:dE K mg "is_number_or_none" CZ ["thing","doors"]
 Gu:dE K mg "is_row" C2 ["thing","doors"]
 Gm:dE K mg "is_book" CV ["thing","doors"]
 Gd:pV K "Net" "count" "Net.count" CM ["self","house"]
 Gn:dE K mg "is_books" CW ["thing","net"]
 GV:dE K mg "refuse_unless_books" Dr ["thing","net"]
 Gf:pV K "Net" "is_door" "Net.is_door" CO ["self","thing"]
 Gg:pV K "Net" "is_outer" "Net.is_outer" CP ["self","thing"]
 Gl:dE K mg "is_address" CU ["thing"]
 Gk:dE K mg "fits" CT ["pattern","address"]
 GW:dE K mg "taken" Ds ["book","door","address"]
 Gb:pV K "Net" "beyond" "Net.beyond" CL ["self","door"]
 GU:dE K mg "onward" Dq ["net","book","door","address"]
 GX:dE K mg "walked" Dt ["net","books","door","address"]
 GY:dE K mg "way" Du ["net","books","door","address"]
 A1:dE K mg "_law_alike" C6 ["_law_found","_law_due"]
 Gh:pV K "Net" "outer" "Net.outer" CQ ["self"]
 GN:dE K mg "_law_right_again" Dk ["_law_script","_law_net","_law_beyond_here","_law_handed"]
 Oy:dE K mg "law" px ["_law_script"]
 Lp:vS K mg "NoAddress"
 Lq:vS K mg "NoBooks"
 Lr:vS K mg "NoDoor"
 iJ:vQ K "Net" ["many","counts","joined","far"]
 wk:mg "abs"=none
 oA:mg "all"=none
 z7:mg "bool"=none
 tj:mg "enumerate"=none
 rC:mg "int"=none
 hL:mg "isinstance"=none
 gu:mg "len"=none
 lu:mg "list"=none
 hM:mg "range"=none
 Fh:mg "sorted"=none
 tl:mg "str"=none
 p5:mg "tuple"=none
 Av:mg "zip"=none
 rF:pQ K mg "GREATEST_ADDRESS" rF
 rG:pQ K mg "MOST_DOORS" rG
 p7:pQ K mg "MOST_HOUSES" p7
 rH:pQ K mg "MOST_ROWS" rH
 rI:pQ K mg "SIGNS" rI
 oD:pQ K mg "WORTHS" oD
theorem J6:c2 ["_law_state","_law_many","_law_found"] ["_law_state","_law_many"] (bW yn):=⟨rfl,rfl,rfl,by decide+kernel,rfl,by decide+kernel,by decide+kernel⟩
def kh:List D→List D→R (D×List D):=uQ
theorem Dw:c2 ["_law_counts_here","_law_doors_here","_law_house"] ["_law_counts_here"] (bW De):=⟨rfl,rfl,rfl,by decide+kernel,rfl,by decide+kernel,by decide+kernel⟩
noncomputable def Ak:bf:=
    bK (gB 1 (fX (aF)))
    (bK (e6 (hV (ar (cW dR (ar (af 0) (aF))) (aF))) (bY 2) (uo (uq 1 (fq (fp 1 [2] (hV (ar (aE bk (af 0) (af 2)) (aF))) (bY 0) (eE) (dK (ar (af 1) (ar (af 0) (aF)))))))))
    (kO (qH 1)))
def sv:List D→R bT:=dA 3 Ak
theorem q0:c2 ["_law_state","_law_counts_here","_law_house","_law_doors_here","_law_wires_here","_law_k","_law_one"] ["_law_state"] (bW Dh):=⟨rfl,rfl,rfl,by decide+kernel,rfl,by decide+kernel,by decide+kernel⟩
noncomputable def wy:bf:=
    bK (gB 1 (fX (aF)))
    (bK (nQ (qE (iL (lL fy (lf (aG (.int 1))) (jc 0 1 kh (ar (aG (.int 6)) (aF)))) (lK aF))) (bY 2) (r8 1 (lL fy (lf (aG (.int 1))) (jc 0 1 kh (ar (aG (.int 4)) (aF))))))
    (bK (gB 3 (ug (nP 1 sv (ar (af 1) (aF)))))
    (bK (gB 4 (fX (aF)))
    (bK (nQ (qE (iL (jc 0 1 kh (ar (mE (aE fy (aE i5 (cW dR (ar (af 3) (aF))) (aG (.int 2))) (aG (.int 1)))) (aF))) (lK aF))) (bY 5) (bK (qG 6 (sg 3 (jc 0 1 kh (ar (mE (cW dR (ar (af 3) (aF)))) (aF)))))
    (r8 4 (o6 (iL (lf (af 6)) (iL (sg 3 (jc 0 1 kh (ar (mE (cW dR (ar (af 3) (aF)))) (aF)))) (lK aF)))))))
    (jd (dK (ar (af 1) (ar (af 4) (aF)))))))))
def uK:List D→List D→R bT:=uk 7 wy
theorem Ww:c2 ["_law_script","_law_k"] ["_law_script","_law_k"] (bW Dc):=⟨rfl,rfl,rfl,by decide+kernel,rfl,by decide+kernel,by decide+kernel⟩
noncomputable def wx:bf:=
    bK (dn (bS (aE r7 (af 1) (cW dR (ar (af 0) (aF))))) (c9 (aE bk (af 0) (af 1))) (du))
    (c9 (aG (.int 0)))
def hW:List D→R bT:=dA 2 wx
theorem vh:c2 ["_law_state","_law_doors_here","_law_book","_law_k","_law_pattern_here","_law_into"] ["_law_state","_law_doors_here"] (bW C9):=⟨rfl,rfl,rfl,by decide+kernel,rfl,by decide+kernel,by decide+kernel⟩
noncomputable def wu:bf:=
    bK (gB 2 (fX (aF)))
    (bK (nQ (qE (iL (nT 0 (jc 0 1 kh (ar (aG (.int 13)) (aF)))) (lK aF))) (bY 3) (bK (qG 4 (nT 0 (xS (PySem.Str.ofString "") (iL (mF 0 (hV (ar (aG (.int 4)) (aF))) (lL bk (lf (aG (.str (PySem.Str.ofString "01x")))) (jc 1 1 kh (ar (aG (.int 3)) (aF))))) (lK aF)))))
    (bK (qG 5 (nT 0 (lL bk (lf (aE fy (fq (fX (ar (aG .non) (aF)))) (fq (sd (ar (af 1) (aF)))))) (jc 0 1 kh (ar (aE fy (af 1) (aG (.int 1))) (aF))))))
    (r8 2 (nT 0 (o6 (iL (lf (af 4)) (iL (lf (af 5)) (iL (lL bk (lf (aE fy (fq (fX (ar (aG .non) (aF)))) (fq (sd (ar (af 1) (aF)))))) (jc 0 1 kh (ar (aE fy (af 1) (aG (.int 1))) (aF)))) (lK aF))))))))))
    (xV 2))
def uH:List D→List D→R (D×List D):=xP 6 wu
theorem Wx:c2 ["_law_cell","_law_k"] ["_law_cell","_law_k"] (bW Dg):=⟨rfl,rfl,rfl,by decide+kernel,rfl,by decide+kernel,by decide+kernel⟩
noncomputable def Am:bf:=
    c9 (aE i5 (aE g6 (aE nX (aE fy (aE g6 (af 0) (aE vb (aG (.int 10)) (aG (.int 30)))) (aG (.int 1))) (aE fy (aE fy (aG (.int 48271)) (aE nX (aE nX (aG (.int 2)) (af 1)) (af 1))) (af 1))) (aG (.int 2147483647))) (aG (.int 7)))
def ki:List D→R bT:=dA 2 Am
theorem J5:c2 ["_law_script","_law_many"] ["_law_script"] (bW Dd):=⟨rfl,rfl,rfl,by decide+kernel,rfl,by decide+kernel,by decide+kernel⟩
noncomputable def Aj:bf:=
    bK (eQ 1 (aE fy (aG (.int 1)) (aE g6 (cD 2 ki (ar (cD 2 hW (ar (af 0) (ar (aG (.int 0)) (aF)))) (ar (aG (.int 1)) (aF)))) (aG (.int 6)))))
    (kO (fp 1 [0] (hV (ar (af 1) (aF))) (bY 0) (eE) (aE fy (aG (.int 1)) (aE g6 (cD 2 ki (ar (cD 2 hW (ar (af 1) (ar (aG (.int 1)) (aF)))) (ar (aE fy (aG (.int 3)) (af 0)) (aF)))) (aG (.int 4))))))
def uJ:List D→R bT:=dA 2 Aj
theorem q1:c2 ["_law_script","_law_counts_here","_law_doors_here","_law_some","_law_k","_law_dealt","_law_most","_law_many"] ["_law_script","_law_counts_here"] (bW Dn):=⟨rfl,rfl,rfl,by decide+kernel,rfl,by decide+kernel,by decide+kernel⟩
noncomputable def Aq:bf:=
    bK (eQ 2 (fq (nP 1 sv (ar (af 1) (aF)))))
    (bK (gB 3 (fX (aF)))
    (bK (e6 (hV (ar (cW dR (ar (af 2) (aF))) (aF))) (bY 4) (kM 3 (dK (ar (cD 2 ki (ar (aE fy (cD 2 hW (ar (af 0) (ar (aG (.int 2)) (aF)))) (aE nX (af 4) (af 4))) (ar (aE fy (aG (.int 20)) (af 4)) (aF)))) (ar (aE bk (af 2) (af 4)) (aF))))))
    (bK (xR 3 (uA 5 (fp 2 [] (hB (fq (xW (ar (af 3) (aF))))) (gk [bY 0,bY 1]) (eE) (af 1))))
    (bK (eQ 6 (aE i5 (aE q2 (cW dR (ar (af 2) (aF))) (aG (.int 1))) (aG (.int 2))))
    (bK (eQ 7 (aE q2 (af 6) (aE g6 (cD 2 ki (ar (cD 2 hW (ar (af 0) (ar (aG (.int 3)) (aF)))) (ar (aG (.int 11)) (aF)))) (aE fy (aE i5 (af 6) (aG (.int 3))) (aG (.int 1))))))
    (kO (fp 1 [5] (hV (ar (af 7) (aF))) (bY 0) (eE) (dK (ar (aE bk (af 1) (aE nX (aG (.int 2)) (af 0))) (ar (aE bk (af 1) (aE fy (aE nX (aG (.int 2)) (af 0)) (aG (.int 1)))) (aF)))))))))))
def uO:List D→R bT:=dA 8 Aq
theorem vj:c2 ["_law_number","_law_signs","_law_k"] ["_law_number"] (bW Dj):=⟨rfl,rfl,rfl,by decide+kernel,rfl,by decide+kernel,by decide+kernel⟩
noncomputable def Ao:bf:=
    bK (eQ 1 (aG (.str (PySem.Str.ofString ""))))
    (bK (e6 (hV (ar (aG (.int 4)) (aF))) (bY 2) (bK (eQ 1 (aE fy (af 1) (aE bk (aG (.str (PySem.Str.ofString "01xx"))) (aE g6 (af 0) (aG (.int 4))))))
    (eQ 0 (aE i5 (af 0) (aG (.int 4))))))
    (c9 (af 1)))
def uL:List D→R bT:=dA 3 Ao
theorem yr:c2 ["_law_cell","_law_k","_law_doors_here","_law_number","_law_into","_law_out"] ["_law_cell","_law_k","_law_doors_here"] (bW Dl):=⟨rfl,rfl,rfl,by decide+kernel,rfl,by decide+kernel,by decide+kernel⟩
noncomputable def Ap:bf:=
    bK (eQ 3 (cD 2 ki (ar (af 0) (ar (af 1) (aF)))))
    (bK (eQ 4 (aE bk (fq (fX (ar (aG .non) (ar (aE g6 (aE i5 (af 3) (aG (.int 700))) (af 2)) (aF))))) (aE g6 (aE i5 (af 3) (aG (.int 256))) (aG (.int 2)))))
    (bK (eQ 5 (aE bk (fq (fX (ar (aE g6 (aE i5 (af 3) (aG (.int 3000))) (af 2)) (ar (aG .non) (aF))))) (cW vu (ar (aE (dM true) (aE g6 (aE i5 (af 3) (aG (.int 20000))) (aG (.int 9))) (aG (.int 0))) (aF)))))
    (c9 (dK (ar (cD 1 uL (ar (af 3) (aF))) (ar (af 4) (ar (af 5) (aF))))))))
def uN:List D→R bT:=dA 6 Ap
theorem vi:c2 ["_law_cells","_law_counts_here","_law_books_here","_law_k","_law_cell","_law_house"] ["_law_cells","_law_counts_here"] (bW C_):=⟨rfl,rfl,rfl,by decide+kernel,rfl,by decide+kernel,by decide+kernel⟩
noncomputable def Ai:bf:=
    bK (lM 2 (iK 1 [] (hB (af 1)) (bY 0) (eE) (fX (aF))))
    (bK (e6 (o4 (ar (af 0) (aF))) (gk [bY 3,bY 4]) (bK (eQ 5 (aE g6 (af 3) (cW dR (ar (af 1) (aF)))))
    (dn (gM (bS (aE r7 (cW dR (ar (aE bk (af 2) (af 5)) (aF))) (aG (.int 12))))) (xK 2 (af 5) (cD 3 uN (ar (af 4) (ar (aE fy (aG (.int 31)) (af 3)) (ar (aE bk (af 1) (af 5)) (aF)))))) (du))))
    (mH (si 2)))
def uI:List D→R bT:=dA 6 Ai
theorem vk:c2 ["_law_script","_law_counts_here","_law_wires_here","_law_state"] ["_law_script"] (bW Dp):=⟨rfl,rfl,rfl,by decide+kernel,rfl,by decide+kernel,by decide+kernel⟩
noncomputable def wz:bf:=
    bK (dn (bS (aE (dM true) (aE g6 (cD 2 hW (ar (af 0) (ar (aG (.int 0)) (aF)))) (aG (.int 2))) (aG (.int 1)))) (bK (uC (gk [bY 1,bY 2]) (xN uK (fX (ar (cW ox (ar (cD 2 hW (ar (af 0) (ar (aG (.int 1)) (aF)))) (aF))) (aF)))))
    (bK (gB 3 (fX (ar (cW ox (ar (cD 2 hW (ar (af 0) (ar (aG (.int 2)) (aF)))) (aF))) (aF))))
    (uz (o6 (iL (lf (af 1)) (iL (lf (af 2)) (iL (mF 3 (hB (af 1)) (jc 1 1 uH (ar (af 0) (aF)))) (lK aF)))))))) (du))
    (bK (eQ 1 (fq (nP 1 uJ (ar (af 0) (aF)))))
    (c9 (dK (ar (af 1) (ar (fq (nP 2 uO (ar (af 0) (ar (af 1) (aF))))) (ar (cD 2 uI (ar (uB vl (af 0) (ux (aG (.int 4))) (ux (aG (.int 63)))) (ar (af 1) (aF)))) (aF)))))))
def sy:List D→R bT:=dA 4 wz
theorem yp:c2 ["_law_wires_here","_law_beyond_here","_law_one","_law_two"] ["_law_wires_here"] (bW C8):=⟨rfl,rfl,rfl,by decide+kernel,rfl,by decide+kernel,by decide+kernel⟩
noncomputable def Ah:bf:=
    bK (sh 1)
    (bK (e6 (hB (af 0)) (gk [bY 2,bY 3]) (bK (mG 1 (af 2) (af 3))
    (mG 1 (af 3) (af 2))))
    (jd (af 1)))
def x1:List D→R bT:=dA 4 Ah
theorem Wu:c2 ["thing"] ["thing"] (bW C3):=⟨rfl,rfl,rfl,by decide+kernel,rfl,by decide+kernel,by decide+kernel⟩
def Ff:bf:=
    c9 (jL (df (eB "int") (af 0)) (sf (df (eB "bool") (af 0))))
def B3:List D→R bT:=dA 1 Ff
theorem Wv:c2 ["thing","least","greatest"] ["thing","least","greatest"] (bW C4):=⟨rfl,rfl,rfl,by decide+kernel,rfl,by decide+kernel,by decide+kernel⟩
def Ae:bf:=
    c9 (jL (cD 1 B3 (ar (af 0) (aF))) (ke lJ lJ (af 1) (af 0) (af 2)))
def nV:List D→R bT:=dA 3 Ae
theorem Wj:c2 ["thing"] ["thing"] (bW CR):=⟨rfl,rfl,rfl,by decide+kernel,rfl,by decide+kernel,by decide+kernel⟩
noncomputable def wm:bf:=
    bK (dn (g5 (eu (bS (df (eB "list") (af 0)))) (eu (bS (ke lJ lJ (aG (.int 1)) (cW dR (ar (af 0) (aF))) (aG p7))))) (c9 (aG (.aC false))) (du))
    (c9 (cW dz (ar (fq (fp 1 [] (hB (af 0)) (bY 0) (eE) (cD 3 nV (ar (af 0) (ar (aG (.int 1)) (ar (aG rG) (aF))))))) (aF))))
def uF:List D→R bT:=dA 1 wm
theorem Wr:c2 ["thing"] ["thing"] (bW C0):=⟨rfl,rfl,rfl,by decide+kernel,rfl,by decide+kernel,by decide+kernel⟩
noncomputable def Fe:bf:=
    c9 (jL (df (eB "tuple") (af 0)) (aE (dM true) (cW dR (ar (af 0) (aF))) (aG (.int 2))))
def uG:List D→R bT:=dA 1 Fe
theorem Wo:c2 ["counts","thing"] ["counts","thing"] (bW CY):=⟨rfl,rfl,rfl,by decide+kernel,rfl,by decide+kernel,by decide+kernel⟩
noncomputable def Ab:bf:=
    bK (dn (g5 (eu (bS (cD 1 uG (ar (af 1) (aF))))) (eu (bS (cD 3 nV (ar (aE bk (af 1) (aG (.int 0))) (ar (aG (.int 0)) (ar (aE q2 (cW dR (ar (af 0) (aF))) (aG (.int 1))) (aF)))))))) (c9 (aG (.aC false))) (du))
    (c9 (cD 3 nV (ar (aE bk (af 1) (aG (.int 1))) (ar (aG (.int 0)) (ar (aE q2 (aE bk (af 0) (aE bk (af 1) (aG (.int 0)))) (aG (.int 1))) (aF))))))
def qJ:List D→R bT:=dA 2 Ab
theorem J2:c2 ["counts","thing","both"] ["counts","thing"] (bW C5):=⟨rfl,rfl,rfl,by decide+kernel,rfl,by decide+kernel,by decide+kernel⟩
noncomputable def Af:bf:=
    bK (dn (eu (bS (cD 1 uG (ar (af 1) (aF))))) (c9 (aG (.aC false))) (du))
    (bK (eQ 2 (jL (cD 2 qJ (ar (af 0) (ar (aE bk (af 1) (aG (.int 0))) (aF)))) (cD 2 qJ (ar (af 0) (ar (aE bk (af 1) (aG (.int 1))) (aF))))))
    (c9 (jL (af 2) (aE (dM false) (aE bk (af 1) (aG (.int 0))) (aE bk (af 1) (aG (.int 1)))))))
def su:List D→R bT:=dA 3 Af
theorem Dv:c2 ["counts","wires","far","wire"] ["counts","wires"] (bW CS):=⟨rfl,rfl,rfl,by decide+kernel,rfl,by decide+kernel,by decide+kernel⟩
noncomputable def wo:bf:=
    bK (sh 2)
    (bK (e6 (sa (af 1)) (bY 3) (bK (dn (eu (bS (cD 2 su (ar (af 0) (ar (af 3) (aF)))))) (oZ) (du))
    (bK (dn (gM (g5 (bS (aE (eU true) (aE bk (af 3) (aG (.int 0))) (af 2))) (bS (aE (eU true) (aE bk (af 3) (aG (.int 1))) (af 2))))) (oZ) (du))
    (bK (mG 2 (aE bk (af 3) (aG (.int 0))) (aE bk (af 3) (aG (.int 1))))
    (mG 2 (aE bk (af 3) (aG (.int 1))) (aE bk (af 3) (aG (.int 0))))))))
    (jd (af 2)))
def sj:List D→R bT:=dA 4 wo
theorem Wg:c2 ["self","counts","wires"] ["self","counts","wires"] (bW CN):=⟨rfl,rfl,rfl,by decide+kernel,rfl,by decide+kernel,by decide+kernel⟩
noncomputable def wj:e1:=
    je (o3 (eu (bS (cD 1 uF (ar (af 1) (aF))))))
    (je (o3 (eu (bS (df (eB "list") (af 2)))))
    (je (kg "Net" "many" (cW dR (ar (af 1) (aF))))
    (je (kg "Net" "counts" (cW pF (ar (af 1) (aF))))
    (je (kg "Net" "joined" (cW pF (ar (af 2) (aF))))
    (kg "Net" "far" (qC (cD 2 sj (ar (df (e5 "Net" "counts") (af 0)) (ar (df (e5 "Net" "joined") (af 0)) (aF))))))))))
def B2:List D→R (List Str×List D):=fun ah=>outI "Net" (wj (ka "Net" ah))
theorem J4:c2 ["_law_script","_law_state"] ["_law_script"] (bW C7):=⟨rfl,rfl,rfl,by decide+kernel,rfl,by decide+kernel,by decide+kernel⟩
noncomputable def wt:bf:=
    bK (dn (bS (aE (dM true) (aE g6 (cD 2 hW (ar (af 0) (ar (aG (.int 0)) (aF)))) (aG (.int 2))) (aG (.int 0)))) (kO (sd (ar (aG (.int 16)) (aF)))) (du))
    (bK (gB 1 (fX (ar (cW ox (ar (cD 2 hW (ar (af 0) (ar (aG (.int 3)) (aF)))) (aF))) (aF))))
    (uz (mF 1 (hV (ar (aG (.int 4)) (aF))) (jc 1 1 kh (ar (aG (.int 16)) (aF))))))
def qK:List D→R bT:=dA 2 wt
theorem J7:c2 ["_law_pattern_here","_law_address","_law_bits"] ["_law_pattern_here","_law_address"] (bW Df):=⟨rfl,rfl,rfl,by decide+kernel,rfl,by decide+kernel,by decide+kernel⟩
noncomputable def Al:bf:=
    bK (eQ 2 (fq (fX (ar (aE g6 (aE i5 (af 1) (aG (.int 8))) (aG (.int 2))) (ar (aE g6 (aE i5 (af 1) (aG (.int 4))) (aG (.int 2))) (ar (aE g6 (aE i5 (af 1) (aG (.int 2))) (aG (.int 2))) (ar (aE g6 (af 1) (aG (.int 2))) (aF))))))))
    (c9 (cW dz (ar (fq (fp 1 [0,2] (hV (ar (aG (.int 4)) (aF))) (bY 0) (eE) (qD (aE (dM true) (aE bk (af 1) (af 0)) (aG (.str (PySem.Str.ofString "x")))) (aE (dM true) (cW od (ar (aE bk (af 1) (af 0)) (aF))) (aE bk (af 2) (af 0)))))) (aF))))
def x2:List D→R bT:=dA 3 Al
theorem yq:c2 ["_law_books_here","_law_door","_law_address","_law_pattern_here","_law_into","_law_out"] ["_law_books_here","_law_door","_law_address"] (bW Di):=⟨rfl,rfl,rfl,by decide+kernel,rfl,by decide+kernel,by decide+kernel⟩
noncomputable def An:bf:=
    bK (e6 (hB (aE bk (af 0) (aE bk (af 1) (aG (.int 0))))) (gk [bY 3,bY 4,bY 5]) (dn (nO (bS (cD 2 x2 (ar (af 3) (ar (af 2) (aF))))) (bS (aE (inD true) (af 4) (fq (fX (ar (aG .non) (ar (aE bk (af 1) (aG (.int 1))) (aF)))))))) (c9 (af 5)) (du)))
    (c9 (aG .non))
def o_:List D→R bT:=dA 6 An
theorem yt:c2 ["_law_books_here","_law_beyond_here","_law_door","_law_address","_law_road","_law_out","_law_behind"] ["_law_books_here","_law_beyond_here","_law_door","_law_address"] (bW Dm):=⟨rfl,rfl,rfl,by decide+kernel,rfl,by decide+kernel,by decide+kernel⟩
noncomputable def Fg:bf:=
    bK (gB 4 (fX (ar (af 2) (aF))))
    (o7 (bS (aG (.aC true))) (bK (eQ 5 (mE (cD 3 o_ (ar (af 0) (ar (aE bk (af 4) (df mK (aG (.int 1)))) (ar (af 3) (aF)))))))
    (bK (dn (bS (aE (jK true) (af 5) (aG .non))) (jd (dK (ar (af 4) (ar (dK (ar (aG (.str (PySem.Str.ofString "drop"))) (ar (aE bk (aE bk (af 4) (df mK (aG (.int 1)))) (aG (.int 0))) (aF)))) (aF))))) (du))
    (bK (eQ 6 (o1 (dK (ar (aE bk (aE bk (af 4) (df mK (aG (.int 1)))) (aG (.int 0))) (ar (af 5) (aF))))))
    (bK (dn (bS (aE (eU false) (af 6) (af 1))) (jd (dK (ar (af 4) (ar (aE rJ (dK (ar (aG (.str (PySem.Str.ofString "out"))) (aF))) (af 6)) (aF))))) (du))
    (bK (dn (gM (bS (aE (inD true) (aE kC (af 1) (af 6)) (af 4)))) (jd (dK (ar (af 4) (ar (dK (ar (aG (.str (PySem.Str.ofString "ring"))) (ar (nS (af 4) (ar (aE kC (af 1) (af 6)) (aF))) (aF)))) (aF))))) (du))
    (kM 4 (aE kC (af 1) (af 6)))))))))
def sx:List D→R bT:=dA 7 Fg
theorem Ws:c2 ["thing"] ["thing"] (bW C1):=⟨rfl,rfl,rfl,by decide+kernel,rfl,by decide+kernel,by decide+kernel⟩
noncomputable def Ac:bf:=
    bK (dn (g5 (eu (bS (df (eB "str") (af 0)))) (bS (aE (dM false) (cW dR (ar (af 0) (aF))) (cW dR (ar (aG oD) (aF)))))) (c9 (aG (.aC false))) (du))
    (c9 (cW dz (ar (fq (fp 1 [] (ur (af 0)) (bY 0) (eE) (aE (inD true) (af 0) (aG rI)))) (aF))))
def sq:List D→R bT:=dA 1 Ac
theorem Wq:c2 ["thing","doors"] ["thing","doors"] (bW CZ):=⟨rfl,rfl,rfl,by decide+kernel,rfl,by decide+kernel,by decide+kernel⟩
noncomputable def wq:bf:=
    c9 (qD (aE (jK true) (af 0) (aG .non)) (cD 3 nV (ar (af 0) (ar (aG (.int 0)) (ar (aE q2 (af 1) (aG (.int 1))) (aF))))))
def o8:List D→R bT:=dA 2 wq
theorem Wt:c2 ["thing","doors"] ["thing","doors"] (bW C2):=⟨rfl,rfl,rfl,by decide+kernel,rfl,by decide+kernel,by decide+kernel⟩
noncomputable def Ad:bf:=
    bK (dn (g5 (eu (bS (df (eB "tuple") (af 0)))) (bS (aE (dM false) (cW dR (ar (af 0) (aF))) (aG (.int 3))))) (c9 (aG (.aC false))) (du))
    (bK (dn (eu (bS (cD 1 sq (ar (aE bk (af 0) (aG (.int 0))) (aF))))) (c9 (aG (.aC false))) (du))
    (c9 (jL (cD 2 o8 (ar (aE bk (af 0) (aG (.int 1))) (ar (af 1) (aF)))) (cD 2 o8 (ar (aE bk (af 0) (aG (.int 2))) (ar (af 1) (aF)))))))
def sr:List D→R bT:=dA 2 Ad
theorem Wm:c2 ["thing","doors"] ["thing","doors"] (bW CV):=⟨rfl,rfl,rfl,by decide+kernel,rfl,by decide+kernel,by decide+kernel⟩
noncomputable def z_:bf:=
    bK (dn (g5 (eu (bS (df (eB "list") (af 0)))) (bS (aE mz (cW dR (ar (af 0) (aF))) (aG rH)))) (c9 (aG (.aC false))) (du))
    (c9 (cW dz (ar (fq (fp 1 [1] (hB (af 0)) (bY 0) (eE) (cD 2 sr (ar (af 0) (ar (af 1) (aF)))))) (aF))))
def sm:List D→R bT:=dA 2 z_
theorem Wf:c2 ["self","house"] ["self","house"] (bW CM):=⟨rfl,rfl,rfl,by decide+kernel,rfl,by decide+kernel,by decide+kernel⟩
noncomputable def z3:bf:=
    c9 (sb (bS (ke lJ r7 (aG (.int 0)) (af 1) (df (e5 "Net" "many") (af 0)))) (aE bk (df (e5 "Net" "counts") (af 0)) (af 1)) (aG (.int 0)))
def xX:List D→R bT:=dA 2 z3
theorem Wn:c2 ["thing","net"] ["thing","net"] (bW CW):=⟨rfl,rfl,rfl,by decide+kernel,rfl,by decide+kernel,by decide+kernel⟩
noncomputable def Aa:bf:=
    bK (dn (g5 (eu (bS (df (eB "list") (af 0)))) (bS (aE (dM false) (cW dR (ar (af 0) (aF))) (df (e5 "Net" "many") (af 1))))) (c9 (aG (.aC false))) (du))
    (c9 (cW dz (ar (fq (fp 2 [1] (o4 (ar (af 0) (aF))) (gk [bY 0,bY 1]) (eE) (cD 2 sm (ar (af 1) (ar (kN "Net" "count" 1 xX (af 2) (ar (af 0) (aF))) (aF)))))) (aF))))
def qI:List D→R bT:=dA 2 Aa
theorem Wy:c2 ["thing","net"] ["thing","net"] (bW Dr):=⟨rfl,rfl,rfl,by decide+kernel,rfl,by decide+kernel,by decide+kernel⟩
def Ar:bf:=
    dn (qP (eu (bS (cD 2 qI (ar (af 0) (ar (af 1) (aF))))))) (uy "NoBooks") (du)
def x3:List D→R bT:=dA 2 Ar
theorem Wh:c2 ["self","thing"] ["self","thing"] (bW CO):=⟨rfl,rfl,rfl,by decide+kernel,rfl,by decide+kernel,by decide+kernel⟩
def z4:bf:=
    c9 (cD 2 qJ (ar (df (e5 "Net" "counts") (af 0)) (ar (af 1) (aF))))
def xY:List D→R bT:=dA 2 z4
theorem Wi:c2 ["self","thing"] ["self","thing"] (bW CP):=⟨rfl,rfl,rfl,by decide+kernel,rfl,by decide+kernel,by decide+kernel⟩
noncomputable def z5:bf:=
    c9 (jL (kN "Net" "is_door" 1 xY (af 0) (ar (af 1) (aF))) (aE (eU false) (af 1) (df (e5 "Net" "far") (af 0))))
def uE:List D→R bT:=dA 2 z5
theorem Wl:c2 ["thing"] ["thing"] (bW CU):=⟨rfl,rfl,rfl,by decide+kernel,rfl,by decide+kernel,by decide+kernel⟩
def z9:bf:=
    c9 (cD 3 nV (ar (af 0) (ar (aG (.int 0)) (ar (aG rF) (aF)))))
def sl:List D→R bT:=dA 1 z9
theorem Wk:c2 ["pattern","address"] ["pattern","address"] (bW CT):=⟨rfl,rfl,rfl,by decide+kernel,rfl,by decide+kernel,by decide+kernel⟩
noncomputable def z8:bf:=
    bK (dn (g5 (eu (bS (cD 1 sq (ar (af 0) (aF))))) (eu (bS (cD 1 sl (ar (af 1) (aF)))))) (c9 (aG (.aC false))) (du))
    (c9 (cW dz (ar (fq (fp 2 [1] (uu (ar (af 0) (ar (aG oD) (aF)))) (gk [bY 0,bY 1]) (eE) (aE (inD true) (af 0) (dK (ar (aG (.str (PySem.Str.ofString "x"))) (ar (cW sL (ar (aE g6 (aE i5 (af 2) (af 1)) (aG (.int 2))) (aF))) (aF))))))) (aF))))
def sk:List D→R bT:=dA 2 z8
theorem Dx:c2 ["book","door","address","number","row"] ["book","door","address"] (bW Ds):=⟨rfl,rfl,rfl,by decide+kernel,rfl,by decide+kernel,by decide+kernel⟩
noncomputable def As:bf:=
    bK (e6 (o4 (ar (af 0) (aF))) (gk [bY 3,bY 4]) (dn (nO (g5 (bS (aE (jK true) (aE bk (af 4) (aG (.int 1))) (aG .non))) (bS (aE (dM true) (aE bk (af 4) (aG (.int 1))) (af 1)))) (bS (cD 2 sk (ar (aE bk (af 4) (aG (.int 0))) (ar (af 2) (aF)))))) (c9 (af 3)) (du)))
    (c9 (aG .non))
def x4:List D→R bT:=dA 5 As
theorem We:c2 ["self","door"] ["self","door"] (bW CL):=⟨rfl,rfl,rfl,by decide+kernel,rfl,by decide+kernel,by decide+kernel⟩
def z2:bf:=
    c9 (uj (df (e5 "Net" "far") (af 0)) (af 1))
def uD:List D→R bT:=dA 2 z2
theorem yu:c2 ["net","book","door","address","number","out","far"] ["net","book","door","address"] (bW Dq):=⟨rfl,rfl,rfl,by decide+kernel,rfl,by decide+kernel,by decide+kernel⟩
noncomputable def rE:bf:=
    bK (eQ 4 (cD 3 x4 (ar (af 1) (ar (aE bk (af 2) (aG (.int 1))) (ar (af 3) (aF))))))
    (bK (eQ 5 (sb (bS (aE (jK true) (af 4) (aG .non))) (aG .non) (aE bk (aE bk (af 1) (af 4)) (aG (.int 2)))))
    (bK (dn (bS (aE (jK true) (af 5) (aG .non))) (c9 (dK (ar (aG (.str (PySem.Str.ofString "drop"))) (ar (aE bk (af 2) (aG (.int 0))) (aF))))) (du))
    (bK (eQ 6 (kN "Net" "beyond" 1 uD (af 0) (ar (dK (ar (aE bk (af 2) (aG (.int 0))) (ar (af 5) (aF)))) (aF))))
    (bK (dn (bS (aE (jK true) (af 6) (aG .non))) (c9 (dK (ar (aG (.str (PySem.Str.ofString "out"))) (ar (aE bk (af 2) (aG (.int 0))) (ar (af 5) (aF)))))) (du))
    (c9 (dK (ar (aG (.str (PySem.Str.ofString "at"))) (ar (aE bk (af 6) (aG (.int 0))) (ar (aE bk (af 6) (aG (.int 1))) (aF))))))))))
def nW:List D→R bT:=dA 7 rE
theorem yv:c2 ["net","books","door","address","doors","told"] ["net","books","door","address"] (bW Dt):=⟨rfl,rfl,rfl,by decide+kernel,rfl,by decide+kernel,by decide+kernel⟩
noncomputable def Fi:bf:=
    bK (gB 4 (fX (aF)))
    (bK (o7 (gM (bS (aE (inD false) (af 2) (af 4)))) (bK (kM 4 (af 2))
    (bK (eQ 5 (cD 4 nW (ar (af 0) (ar (aE bk (af 1) (aE bk (af 2) (aG (.int 0)))) (ar (af 2) (ar (af 3) (aF)))))))
    (bK (dn (bS (aE (dM false) (aE bk (af 5) (aG (.int 0))) (aG (.str (PySem.Str.ofString "at"))))) (qF 4 (af 5)) (du))
    (eQ 2 (dK (ar (aE bk (af 5) (aG (.int 1))) (ar (aE bk (af 5) (aG (.int 2))) (aF)))))))))
    (qF 4 (o1 (dK (ar (aG (.str (PySem.Str.ofString "ring"))) (ar (nS (af 4) (ar (af 2) (aF))) (aF)))))))
def uP:List D→R bT:=dA 6 Fi
theorem Wz:c2 ["net","books","door","address"] ["net","books","door","address"] (bW Du):=⟨rfl,rfl,rfl,by decide+kernel,rfl,by decide+kernel,by decide+kernel⟩
noncomputable def Au:bf:=
    bK (um (cD 2 x3 (u0 (ar (af 1) (ar (af 0) (aF))))))
    (bK (dn (qP (eu (bS (kN "Net" "is_outer" 1 uE (af 0) (ar (af 2) (aF)))))) (uy "NoDoor") (du))
    (bK (dn (qP (eu (bS (cD 1 sl (ar (af 3) (aF)))))) (uy "NoAddress") (du))
    (u1 (mH (uh 4 uP (ar (af 0) (ar (af 1) (ar (af 2) (ar (af 3) (aF))))))))))
def qL:List D→R bT:=dA 4 Au
theorem J3:c2 ["_law_found","_law_due"] ["_law_found","_law_due"] (bW C6):=⟨rfl,rfl,rfl,by decide+kernel,rfl,by decide+kernel,by decide+kernel⟩
noncomputable def rD(mf:List D→R bT):bf:=
    bK (dn (bS (df (eB "int") (af 1))) (c9 (jL (df (eB "int") (af 0)) (jL (sf (df (eB "bool") (af 0))) (aE (dM true) (af 0) (af 1))))) (du))
    (bK (dn (bS (df (eB "str") (af 1))) (c9 (jL (df (eB "str") (af 0)) (aE (dM true) (af 0) (af 1)))) (du))
    (bK (dn (bS (df (eB "tuple") (af 1))) (dn (eu (bS (df (eB "tuple") (af 0)))) (c9 (aG (.aC false))) (du)) (dn (eu (bS (df (eB "list") (af 0)))) (c9 (aG (.aC false))) (du)))
    (bK (dn (bS (aE (dM false) (cW dR (ar (af 0) (aF))) (cW dR (ar (af 1) (aF))))) (c9 (aG (.aC false))) (du))
    (c9 (cW dz (ar (fq (fp 2 [] (uv (ar (af 0) (ar (af 1) (aF)))) (gk [bY 0,bY 1]) (eE) (cD 2 mf (ar (af 0) (ar (af 1) (aF)))))) (aF)))))))
def kP:Nat→List D→R bT
 |0=>dA 2 oZ
 |n+1=>dA 2 (rD (kP n))
theorem yo:c2 ["self","found","house","number"] ["self"] (bW CQ):=⟨rfl,rfl,rfl,by decide+kernel,rfl,by decide+kernel,by decide+kernel⟩
noncomputable def z6:bf:=
    bK (gB 1 (fX (aF)))
    (bK (e6 (hV (ar (df (e5 "Net" "many") (af 0)) (aF))) (bY 2) (e6 (hV (ar (aE bk (df (e5 "Net" "counts") (af 0)) (af 2)) (aF))) (bY 3) (dn (bS (aE (eU false) (dK (ar (af 2) (ar (af 3) (aF)))) (df (e5 "Net" "far") (af 0)))) (kM 1 (dK (ar (af 2) (ar (af 3) (aF))))) (du))))
    (kO (qH 1)))
def xZ:List D→R bT:=dA 4 z6
theorem sE:c2 ["_law_script","_law_net","_law_beyond_here","_law_handed","_law_outer","_law_mine","_law_books_here","_law_door","_law_address"] ["_law_script","_law_net","_law_beyond_here","_law_handed"] (bW Dk):=⟨rfl,rfl,rfl,by decide+kernel,rfl,by decide+kernel,by decide+kernel⟩
noncomputable def tk:bf:=
    bK (eQ 4 (kN "Net" "outer" 0 xZ (af 1) aF))
    (bK (dn (bS (aE (dM true) (cW dR (ar (af 4) (aF))) (aG (.int 0)))) (c9 (aG (.aC true))) (du))
    (bK (uf 3 5 (aE bk (aE bk (af 4) (aG (.int 0))) (aG (.int 0))) (je (nR (gM (bS (aE mz (cW dR (ar (af 5) (aF))) (aG (.int 11))))) (kf (nU 5)) (fun ρ=>.ok ρ)) (kf (o5 5 (aG (.int 0)) (dK (ar (aG (.str (PySem.Str.ofString "xxxx"))) (ar (aG .non) (ar (aG (.int 0)) (aF)))))))))
    (bK (lM 6 (o2 (iK 1 [] (hB (af 3)) (bY 0) (eE) (se (ar (af 0) (aF))))))
    (bK (e6 (hB (af 4)) (bY 7) (e6 (hB (cD 1 qK (ar (af 0) (aF)))) (bY 8) (dn (gM (eu (bS (cD 2 (kP 5) (ar (r_ 4 qL (ar (af 1) (ar (af 3) (ar (af 7) (ar (af 8) (aF)))))) (ar (cD 4 sx (ar (af 6) (ar (af 2) (ar (af 7) (ar (af 8) (aF)))))) (aF))))))) (c9 (aG (.aC false))) (du))))
    (jd (aE (dM true) (af 3) (af 6)))))))
def uM:List D→T→R bT:=xQ 9 tk
theorem kV:c2 ["_law_script","_law_counts_here","_law_wires_here","_law_books_here","_law_beyond_here","_law_net","_law_handed","_law_door","_law_k","_law_address","_law_due","_law_found"] ["_law_script"] (bW px):=⟨rfl,rfl,rfl,by decide+kernel,rfl,by decide+kernel,by decide+kernel⟩
noncomputable def Ag:bf:=
    bK (uC (gk [bY 1,bY 2,bY 3]) (cD 1 sy (ar (af 0) (aF))))
    (bK (eQ 4 (cD 1 x1 (ar (af 2) (aF))))
    (bK (eQ 5 (uw "Net" 2 B2 (ar (af 1) (ar (af 2) (aF)))))
    (bK (lM 6 (iK 1 [] (hB (af 3)) (bY 0) (eE) (se (ar (af 0) (aF)))))
    (bK (e6 (hB (fq (fp 1 [4] (hB (fq (nP 1 sv (ar (af 1) (aF))))) (bY 0) (bS (aE (eU false) (af 0) (af 1))) (af 0)))) (bY 7) (e6 (o4 (ar (cD 1 qK (ar (af 0) (aF))) (aF))) (gk [bY 8,bY 9]) (bK (eQ 10 (cD 4 sx (ar (af 3) (ar (af 4) (ar (af 7) (ar (af 9) (aF)))))))
    (bK (B1 11 (lM 11 (o2 (ui 4 qL (ar (af 5) (ar (af 6) (ar (af 7) (ar (af 9) (aF)))))))))
    (bK (dn (gM (eu (bS (cD 2 (kP 5) (ar (af 11) (ar (af 10) (aF))))))) (c9 (aG (.aC false))) (du))
    (bK (xM 11 (aG (.int 0)) (dK (ar (aG (.int 9)) (ar (aG (.int 9)) (aF)))))
    (dn (gM (nO (bS (aE (dM true) (aE g6 (af 8) (aG (.int 5))) (aG (.int 0)))) (eu (bS (cD 2 (kP 5) (ar (r_ 4 qL (ar (af 5) (ar (af 6) (ar (af 7) (ar (af 9) (aF)))))) (ar (af 10) (aF)))))))) (c9 (aG (.aC false))) (du))))))))
    (xU (mE (aE (dM true) (af 6) (af 3))) (xO 6 uM (af 0) (af 5) (af 4)))))))
def o9:List D→R bT:=dA 12 Ag
section
variable{P:ac_}{w:adB}{K:PySem.W.Frag}{mg:Str→Option acV}{base:adT}(T:zH K mg)
include T
set_option maxHeartbeats 4000000
theorem mD:sY P w K mg base "_law_digit" 1 1 kh:=NA (k:=0) T.GF J6 fun f bV A outer s H E ay=>NN (X:=(er fg P w K mg base ["_law_state","_law_many","_law_found"] "_law_digit" (bW yn) f bV A outer s H E).gh) J6.bI
theorem BU:ei P w K mg base "_law_doors" 1 1 sv:=by
 have h:=eR (P:=P) (w:=w) (mg:=mg) (base:=base) (k:=0) (m:=Ak) T.GG Dw;exact h fun _ _ _ _ _ _ _ ay _ _=>
 b5 (l2 1 Dw.bI (hZ (aZ)))
  (b5 (jX adv (l3 T.hM (aB (gP T.gu (aB (aw 0) (aZ))) (aZ))) (fs 2 Dw.bI) (b0 (Za (YD 1 (gO (k_ (N:=["_law_number","_law_house"]) 1 [2] (by rfl) (l3 T.hM (aB (da (aw 0) (aw 2) bC) (aZ))) (lx 0) (jE) (fun _ _ _ _ _ _ _=>gq (aB (aw 1) (aB (aw 0) (aZ))))))))))
  (b0 (LN 1)))
theorem Si:vZ P w K mg base "_law_net_by" 0 2 uK:=by
 have h:=Yv (P:=P) (w:=w) (mg:=mg) (base:=base) (k:=1) (m:=wy) T.GJ q0;exact h fun _ _ _ _ _ _ _ ay _ _=>
 b5 (l2 1 q0.bI (hZ (aZ)))
  (b5 (Es adv (EA T.hM (k9 (LC (mU (bF)) (l1 0 (mD T) (ay.mono (by decide)) (aB (bF) (aZ)))) (rg))) (fs 2 q0.bI) (b0 (Er 1 (LC (mU (bF)) (l1 0 (mD T) (ay.mono (by decide)) (aB (bF) (aZ)))))))
  (b5 (l2 3 q0.bI (Y3 (vK (BU T) (ay.mono (by decide)) (aB (aw 1) (aZ)))))
  (b5 (l2 4 q0.bI (hZ (aZ)))
  (b5 (Es adv (EA T.hM (k9 (l1 0 (mD T) (ay.mono (by decide)) (aB (vG (iy (kq (gP T.gu (aB (aw 3) (aZ))) (bF)) (bF))) (aZ))) (rg))) (fs 5 q0.bI) (b5 (Ew 6 q0.bI (LD 3 (l1 0 (mD T) (ay.mono (by decide)) (aB (vG (gP T.gu (aB (aw 3) (aZ)))) (aZ)))))
  (b0 (Er 4 (Em (k9 (mU (aw 6)) (k9 (LD 3 (l1 0 (mD T) (ay.mono (by decide)) (aB (vG (gP T.gu (aB (aw 3) (aZ)))) (aZ)))) (rg))))))))
  (b0 (ri (gq (aB (aw 1) (aB (aw 4) (aZ))))))))))
theorem nJ:ei P w K mg base "_law_cell_at" 2 1 hW:=by
 have h:=eR (P:=P) (w:=w) (mg:=mg) (base:=base) (k:=0) (m:=wx) T.GC Ww;exact h fun _ _ _ _ _ _ _ ay _ _=>
 b5 (ep (LW (aw 1) (gP T.gu (aB (aw 0) (aZ)))) (b0 (dD (da (aw 0) (aw 1) bC))) (ey))
  (b0 (dD (bF)))
theorem Se:sY P w K mg base "_law_book_by" 1 2 uH:=by
 have h:=NC (P:=P) (w:=w) (mg:=mg) (base:=base) (k:=1) (m:=wu) T.GA vh;exact h fun _ _ _ _ _ _ _ ay _ _ _=>
 b5 (l2 2 vh.bI (hZ (aZ)))
  (b5 (Es adv (EA T.hM (k9 (y2 0 (l1 0 (mD T) (ay.mono (by decide)) (aB (bF) (aZ)))) (rg))) (fs 3 vh.bI) (b5 (Ew 4 vh.bI (y2 0 (YG (k9 (Ek (y:="_law_state") 0 (by rfl) (l3 T.hM (aB (bF) (aZ))) (fun _ _ _ _ _ _ _=>El (mU (jW)) (l1 1 (mD T) (ay.mono (by decide)) (aB (bF) (aZ))) bC)) (rg)))))
  (b5 (Ew 5 vh.bI (y2 0 (El (mU (iy (gO (hZ (aB (jv) (aZ)))) (gO (Eo T.lu T.hM (aB (aw 1) (aZ)))))) (l1 0 (mD T) (ay.mono (by decide)) (aB (iy (aw 1) (bF)) (aZ))) bC)))
  (b0 (Er 2 (y2 0 (Em (k9 (mU (aw 4)) (k9 (mU (aw 5)) (k9 (El (mU (iy (gO (hZ (aB (jv) (aZ)))) (gO (Eo T.lu T.hM (aB (aw 1) (aZ)))))) (l1 0 (mD T) (ay.mono (by decide)) (aB (iy (aw 1) (bF)) (aZ))) bC) (rg)))))))))))
  (b0 (Zd 2)))
theorem ua:ei P w K mg base "_law_mix" 2 1 ki:=by
 have h:=eR (P:=P) (w:=w) (mg:=mg) (base:=base) (k:=0) (m:=Am) T.GI Wx;exact h fun _ _ _ _ _ _ _ ay _ _=>
 b0 (dD (kq (hE (sQ (iy (hE (aw 0) (YM (bF) (bF))) (bF)) (iy (iy (bF) (sQ (sQ (bF) (aw 1)) (aw 1))) (aw 1))) (bF)) (bF)))
theorem Sg:ei P w K mg base "_law_counts" 1 2 uJ:=by
 have h:=eR (P:=P) (w:=w) (mg:=mg) (base:=base) (k:=1) (m:=Aj) T.GD J5;exact h fun _ _ _ _ _ _ _ ay _ _=>
 b5 (f3 1 J5.bI (iy (bF) (hE (dm (ua T) (ay.mono (by decide)) (aB (dm (nJ T) (ay.mono (by decide)) (aB (aw 0) (aB (bF) (aZ)))) (aB (bF) (aZ)))) (bF))))
  (b0 (Eu (k_ (N:=["_law_house","_law_script"]) 1 [0] (by rfl) (l3 T.hM (aB (aw 1) (aZ))) (lx 0) (jE) (fun _ _ _ _ _ _ _=>iy (bF) (hE (dm (ua T) (ay.mono (by decide)) (aB (dm (nJ T) (ay.mono (by decide)) (aB (aw 1) (aB (bF) (aZ)))) (aB (iy (bF) (aw 0)) (aZ)))) (bF))))))
theorem Sn:ei P w K mg base "_law_wires" 2 2 uO:=by
 have h:=eR (P:=P) (w:=w) (mg:=mg) (base:=base) (k:=1) (m:=Aq) T.GQ q1;exact h fun _ _ _ _ _ _ _ ay _ _=>
 b5 (f3 2 q1.bI (gO (vK (BU T) (ay.mono (by decide)) (aB (aw 1) (aZ)))))
  (b5 (l2 3 q1.bI (hZ (aZ)))
  (b5 (jX adv (l3 T.hM (aB (gP T.gu (aB (aw 2) (aZ))) (aZ))) (fs 4 q1.bI) (b0 (y4 3 (gq (aB (dm (ua T) (ay.mono (by decide)) (aB (iy (dm (nJ T) (ay.mono (by decide)) (aB (aw 0) (aB (bF) (aZ)))) (sQ (aw 4) (aw 4))) (aB (iy (bF) (aw 4)) (aZ)))) (aB (da (aw 2) (aw 4) bC) (aZ)))))))
  (b5 (Zb 3 (Zh (Zg 5 q1.bI (k_ (N:=["_law_number","_law_door"]) 2 [] (by rfl) (kr (gO (Y4 ay.units T.Fh (aB (aw 3) (aZ))))) (wA 0 1) (jE) (fun _ _ _ _ _ _ _=>aw 1)))))
  (b5 (f3 6 q1.bI (kq (vH (gP T.gu (aB (aw 2) (aZ))) (bF)) (bF)))
  (b5 (f3 7 q1.bI (vH (aw 6) (hE (dm (ua T) (ay.mono (by decide)) (aB (dm (nJ T) (ay.mono (by decide)) (aB (aw 0) (aB (bF) (aZ)))) (aB (bF) (aZ)))) (iy (kq (aw 6) (bF)) (bF)))))
  (b0 (Eu (k_ (N:=["_law_k","_law_dealt"]) 1 [5] (by rfl) (l3 T.hM (aB (aw 7) (aZ))) (lx 0) (jE) (fun _ _ _ _ _ _ _=>gq (aB (da (aw 1) (sQ (bF) (aw 0)) bC) (aB (da (aw 1) (iy (sQ (bF) (aw 0)) (bF)) bC) (aZ))))))))))))
theorem Sk:ei P w K mg base "_law_pattern" 1 1 uL:=by
 have h:=eR (P:=P) (w:=w) (mg:=mg) (base:=base) (k:=0) (m:=Ao) T.GL vj;exact h fun _ _ _ _ _ _ _ ay _ _=>
 b5 (f3 1 vj.bI (jW))
  (b5 (jX adv (l3 T.hM (aB (bF) (aZ))) (fs 2 vj.bI) (b5 (f3 1 vj.bI (iy (aw 1) (da (jW) (hE (aw 0) (bF)) bC)))
  (b0 (f3 0 vj.bI (kq (aw 0) (bF))))))
  (b0 (dD (aw 1))))
theorem Sm:ei P w K mg base "_law_row" 3 2 uN:=by
 have h:=eR (P:=P) (w:=w) (mg:=mg) (base:=base) (k:=1) (m:=Ap) T.GO yr;exact h fun _ _ _ _ _ _ _ ay _ _=>
 b5 (f3 3 yr.bI (dm (ua T) (ay.mono (by decide)) (aB (aw 0) (aB (aw 1) (aZ)))))
  (b5 (f3 4 yr.bI (da (gO (hZ (aB (jv) (aB (hE (kq (aw 3) (bF)) (aw 2)) (aZ))))) (hE (kq (aw 3) (bF)) (bF)) bC))
  (b5 (f3 5 yr.bI (da (gO (hZ (aB (hE (kq (aw 3) (bF)) (aw 2)) (aB (jv) (aZ))))) (YQ T.rC (aB (pJ ay.units (hE (kq (aw 3) (bF)) (bF)) (bF)) (aZ))) bC))
  (b0 (dD (gq (aB (dm (Sk T) (ay.mono (by decide)) (aB (aw 3) (aZ))) (aB (aw 4) (aB (aw 5) (aZ)))))))))
theorem Sf:ei P w K mg base "_law_books" 2 3 uI:=by
 have h:=eR (P:=P) (w:=w) (mg:=mg) (base:=base) (k:=2) (m:=Ai) T.GB vi;exact h fun _ _ _ _ _ _ _ ay _ _=>
 b5 (LK (N:=["_law_house"]) 2 1 [] vi.bI (by rfl) (kr (aw 1)) (lx 0) (jE) (fun _ _ _ _ _ _ _=>hZ (aZ)))
  (b5 (jX adv (y6 T.tj (aB (aw 0) (aZ))) (qN rfl (iN (fs 3 vi.bI) (iN (fs 4 vi.bI) (qM)))) (b5 (f3 5 vi.bI (hE (aw 3) (gP T.gu (aB (aw 1) (aZ)))))
  (b0 (ep (pL (LW (gP T.gu (aB (da (aw 2) (aw 5) bC) (aZ))) (bF))) (b0 (Y6 2 (aw 5) bC (dm (Sm T) (ay.mono (by decide)) (aB (aw 4) (aB (iy (bF) (aw 3)) (aB (da (aw 1) (aw 5) bC) (aZ))))))) (ey)))))
  (b0 (Zf 2)))
theorem So:ei P w K mg base "_law_world" 1 4 sy:=by
 have h:=eR (P:=P) (w:=w) (mg:=mg) (base:=base) (k:=3) (m:=wz) T.GR vk;exact h fun _ _ _ _ _ _ _ ay _ _=>
 b5 (ep (vL ay.units (hE (dm (nJ T) (ay.mono (by decide)) (aB (aw 0) (aB (bF) (aZ)))) (bF)) (bF)) (b5 (LP (Yx (Si T) (ay.mono (by decide)) (hZ (aB (Eh T.wk (aB (dm (nJ T) (ay.mono (by decide)) (aB (aw 0) (aB (bF) (aZ)))) (aZ))) (aZ)))) (qN rfl (iN (fs 1 vk.bI) (iN (fs 2 vk.bI) (qM)))))
  (b5 (l2 3 vk.bI (hZ (aB (Eh T.wk (aB (dm (nJ T) (ay.mono (by decide)) (aB (aw 0) (aB (bF) (aZ)))) (aZ))) (aZ))))
  (b0 (LL (Em (k9 (mU (aw 1)) (k9 (mU (aw 2)) (k9 (Ek (y:="_law_state") 3 (by rfl) (kr (aw 1)) (fun _ _ _ _ _ _ _=>l1 1 (Se T) (ay.mono (by decide)) (aB (aw 0) (aZ)))) (rg))))))))) (ey))
  (b5 (f3 1 vk.bI (gO (vK (Sg T) (ay.mono (by decide)) (aB (aw 0) (aZ)))))
  (b0 (dD (gq (aB (aw 1) (aB (gO (vK (Sn T) (ay.mono (by decide)) (aB (aw 0) (aB (aw 1) (aZ))))) (aB (dm (Sf T) (ay.mono (by decide)) (aB (YN (aw 0) (LI (bF)) (LI (bF))) (aB (aw 1) (aZ)))) (aZ))))))))
theorem Sd:ei P w K mg base "_law_beyond" 1 1 x1:=by
 have h:=eR (P:=P) (w:=w) (mg:=mg) (base:=base) (k:=0) (m:=Ah) T.Gz yp;exact h fun _ _ _ _ _ _ _ ay _ _=>
 b5 (LO 1 yp.bI)
  (b5 (jX adv (kr (aw 0)) (qN rfl (iN (fs 2 yp.bI) (iN (fs 3 yp.bI) (qM)))) (b5 (y5 1 ay.units (aw 2) (aw 3))
  (b0 (y5 1 ay.units (aw 3) (aw 2)))))
  (b0 (ri (aw 1))))
theorem Sa:ei P w K mg base "is_whole" 1 1 B3:=by
 have h:=eR (P:=P) (w:=w) (mg:=mg) (base:=base) (k:=0) (m:=Ff) T.Gv Wu;exact h fun _ _ _ _ _ _ _ ay _ _=>
 b0 (dD (mT (iA (DZ _) T.hL T.rC (by kernel_rfl) (aw 0)) (l0 (Lz (iA (K2 _) T.hL T.z7 (by kernel_rfl) (aw 0))))))
theorem t_:ei P w K mg base "is_whole_within" 3 2 nV:=by
 have h:=eR (P:=P) (w:=w) (mg:=mg) (base:=base) (k:=1) (m:=Ae) T.Gw Wv;exact h fun _ _ _ _ _ _ _ ay _ _=>
 b0 (dD (mT (dm (Sa T) (ay.mono (by decide)) (aB (aw 0) (aZ))) (l0 (YA u5 u5 u4 u4 (aw 1) (aw 0) (aw 2)))))
theorem R5:ei P w K mg base "are_counts" 1 3 uF:=by
 have h:=eR (P:=P) (w:=w) (mg:=mg) (base:=base) (k:=2) (m:=wm) T.Gi Wj;exact h fun _ _ _ _ _ _ _ ay _ _=>
 b5 (ep (la (oi (gG (fu (iA (vw _) T.hL T.lu (by kernel_rfl) (aw 0)))) (oj (gG (LR u5 u5 u4 u4 (bF) (gP T.gu (aB (aw 0) (aZ))) (rf T.p7)))))) (b0 (dD (iz))) (ey))
  (b0 (dD (rd ay T.oA (aB (gO (k_ (N:=["doors"]) 1 [] (by rfl) (kr (aw 0)) (lx 0) (jE) (fun _ _ _ _ _ _ _=>dm (t_ T) (ay.mono (by decide)) (aB (aw 0) (aB (bF) (aB (rf T.rG) (aZ))))))) (aZ)))))
theorem Ig:ei P w K mg base "is_pair" 1 1 uG:=by
 have h:=eR (P:=P) (w:=w) (mg:=mg) (base:=base) (k:=0) (m:=Fe) T.Gr Wr;exact h fun _ _ _ _ _ _ _ ay _ _=>
 b0 (dD (mT (iA (yQ _) T.hL T.p5 (by kernel_rfl) (aw 0)) (l0 (pJ ay.units (gP T.gu (aB (aw 0) (aZ))) (bF)))))
theorem BR:ei P w K mg base "is_door_among" 2 3 qJ:=by
 have h:=eR (P:=P) (w:=w) (mg:=mg) (base:=base) (k:=2) (m:=Ab) T.Gp Wo;exact h fun _ _ _ _ _ _ _ ay _ _=>
 b5 (ep (la (oi (gG (fu (dm (Ig T) (ay.mono (by decide)) (aB (aw 1) (aZ))))) (oj (gG (fu (dm (t_ T) (ay.mono (by decide)) (aB (da (aw 1) (bF) bC) (aB (bF) (aB (vH (gP T.gu (aB (aw 0) (aZ))) (bF)) (aZ)))))))))) (b0 (dD (iz))) (ey))
  (b0 (dD (dm (t_ T) (ay.mono (by decide)) (aB (da (aw 1) (bF) bC) (aB (bF) (aB (vH (da (aw 0) (da (aw 1) (bF) bC) bC) (bF)) (aZ)))))))
theorem Sb:ei P w K mg base "is_wire_among" 2 4 su:=by
 have h:=eR (P:=P) (w:=w) (mg:=mg) (base:=base) (k:=3) (m:=Af) T.Gx J2;exact h fun _ _ _ _ _ _ _ ay _ _=>
 b5 (ep (gG (fu (dm (Ig T) (ay.mono (by decide)) (aB (aw 1) (aZ))))) (b0 (dD (iz))) (ey))
  (b5 (f3 2 J2.bI (mT (dm (BR T) (ay.mono (by decide)) (aB (aw 0) (aB (da (aw 1) (bF) bC) (aZ)))) (l0 (dm (BR T) (ay.mono (by decide)) (aB (aw 0) (aB (da (aw 1) (bF) bC) (aZ)))))))
  (b0 (dD (mT (aw 2) (l0 (YJ ay.units (da (aw 1) (bF) bC) (da (aw 1) (bF) bC)))))))
theorem R6:ei P w K mg base "far_doors" 2 5 sj:=by
 have h:=eR (P:=P) (w:=w) (mg:=mg) (base:=base) (k:=4) (m:=wo) T.Gj Dv;exact h fun _ _ _ _ _ _ _ ay _ _=>
 b5 (LO 2 Dv.bI)
  (b5 (jX adv (Zm (aw 1)) (fs 3 Dv.bI) (b5 (ep (gG (fu (dm (Sb T) (ay.mono (by decide)) (aB (aw 0) (aB (aw 3) (aZ)))))) (b0 (LJ)) (ey))
  (b5 (ep (pL (la (oi (LS ay.units (da (aw 3) (bF) bC) (aw 2)) (oj (LS ay.units (da (aw 3) (bF) bC) (aw 2)))))) (b0 (LJ)) (ey))
  (b5 (y5 2 ay.units (da (aw 3) (bF) bC) (da (aw 3) (bF) bC))
  (b0 (y5 2 ay.units (da (aw 3) (bF) bC) (da (aw 3) (bF) bC)))))))
  (b0 (ri (aw 2))))
theorem R1:zB P w K mg base "Net" 2 6 B2:=by
 have h:=YT (P:=P) (w:=w) (mg:=mg) (base:=base) (k:=5) (m:=wj) T.Ge Wg;exact h fun _ _ _ _ _ _ _ ay _ _=>
 vJ (LG (gG (fu (dm (R5 T) (ay.mono (by decide)) (aB (aw 1) (aZ))))))
  (vJ (LG (gG (fu (iA (vw _) T.hL T.lu (by kernel_rfl) (aw 2)))))
  (vJ (y3 T.iJ (gP T.gu (aB (aw 1) (aZ))))
  (vJ (y3 T.iJ (LB T.p5 (aB (aw 1) (aZ))))
  (vJ (y3 T.iJ (LB T.p5 (aB (aw 2) (aZ))))
  (Y2 (y3 T.iJ (Yw (dm (R6 T) (ay.mono (by decide)) (aB (lZ T.iJ (aw 0)) (aB (lZ T.iJ (aw 0)) (aZ)))))))))))
theorem Ii:ei P w K mg base "_law_asked" 1 2 qK:=by
 have h:=eR (P:=P) (w:=w) (mg:=mg) (base:=base) (k:=1) (m:=wt) T.Gy J4;exact h fun _ _ _ _ _ _ _ ay _ _=>
 b5 (ep (vL ay.units (hE (dm (nJ T) (ay.mono (by decide)) (aB (aw 0) (aB (bF) (aZ)))) (bF)) (bF)) (b0 (Eu (Eo T.lu T.hM (aB (bF) (aZ))))) (ey))
  (b5 (l2 1 J4.bI (hZ (aB (Eh T.wk (aB (dm (nJ T) (ay.mono (by decide)) (aB (aw 0) (aB (bF) (aZ)))) (aZ))) (aZ))))
  (b0 (LL (Ek (y:="_law_state") 1 (by rfl) (l3 T.hM (aB (bF) (aZ))) (fun _ _ _ _ _ _ _=>l1 1 (mD T) (ay.mono (by decide)) (aB (bF) (aZ)))))))
theorem Sh:ei P w K mg base "_law_fits" 2 1 x2:=by
 have h:=eR (P:=P) (w:=w) (mg:=mg) (base:=base) (k:=0) (m:=Al) T.GH J7;exact h fun _ _ _ _ _ _ _ ay _ _=>
 b5 (f3 2 J7.bI (gO (hZ (aB (hE (kq (aw 1) (bF)) (bF)) (aB (hE (kq (aw 1) (bF)) (bF)) (aB (hE (kq (aw 1) (bF)) (bF)) (aB (hE (aw 1) (bF)) (aZ))))))))
  (b0 (dD (rd ay T.oA (aB (gO (k_ (N:=["_law_k","_law_pattern_here","_law_bits"]) 1 [0,2] (by rfl) (l3 T.hM (aB (bF) (aZ))) (lx 0) (jE) (fun _ _ _ _ _ _ _=>LA (pJ ay.units (da (aw 1) (aw 0) bC) (jW)) (l0 (pJ ay.units (YP T.rC (aB (da (aw 1) (aw 0) bC) (aZ))) (da (aw 2) (aw 0) bC)))))) (aZ)))))
theorem Sj:ei P w K mg base "_law_out_of" 3 2 o_:=by
 have h:=eR (P:=P) (w:=w) (mg:=mg) (base:=base) (k:=1) (m:=An) T.GK yq;exact h fun _ _ _ _ _ _ _ ay _ _=>
 b5 (jX adv (kr (da (aw 0) (da (aw 1) (bF) bC) bC)) (qN rfl (iN (fs 3 yq.bI) (iN (fs 4 yq.bI) (iN (fs 5 yq.bI) (qM))))) (b0 (ep (la (Ey (fu (dm (Sh T) (ay.mono (by decide)) (aB (aw 3) (aB (aw 2) (aZ))))) (Ez (LV ay.units (aw 4) (gO (hZ (aB (jv) (aB (da (aw 1) (bF) bC) (aZ))))))))) (b0 (dD (aw 5))) (ey))))
  (b0 (dD (jv)))
theorem Ij:ei P w K mg base "_law_walk" 4 3 sx:=by
 have h:=eR (P:=P) (w:=w) (mg:=mg) (base:=base) (k:=2) (m:=Fg) T.GP yt;exact h fun _ _ _ _ _ _ _ ay _ _=>
 b5 (l2 4 yt.bI (hZ (aB (aw 2) (aZ))))
  (b0 (LQ adv (fu (iz)) (b5 (f3 5 yt.bI (vG (dm (Sj T) (ay.mono (by decide)) (aB (aw 0) (aB (da (aw 4) (Ej (bF)) bC) (aB (aw 3) (aZ)))))))
  (b5 (ep (vM (aw 5) (jv)) (b0 (ri (gq (aB (aw 4) (aB (gq (aB (jW) (aB (da (da (aw 4) (Ej (bF)) bC) (bF) bC) (aZ)))) (aZ)))))) (ey))
  (b5 (f3 6 yt.bI (Lu (gq (aB (da (da (aw 4) (Ej (bF)) bC) (bF) bC) (aB (aw 5) (aZ))))))
  (b5 (ep (Ex ay.units (aw 6) (aw 1)) (b0 (ri (gq (aB (aw 4) (aB (Yz (gq (aB (jW) (aZ))) (aw 6)) (aZ)))))) (ey))
  (b5 (ep (pL (LV ay.units (Ei ay.units (aw 1) (aw 6) (by intro _ _;rfl)) (aw 4))) (b0 (ri (gq (aB (aw 4) (aB (gq (aB (jW) (aB (Ly ay.units (aw 4) (aB (Ei ay.units (aw 1) (aw 6) (by intro _ _;rfl)) (aZ))) (aZ)))) (aZ)))))) (ey))
  (b0 (y4 4 (Ei ay.units (aw 1) (aw 6) (by intro _ _;rfl)))))))))))
theorem Ih:ei P w K mg base "is_pattern" 1 1 sq:=by
 have h:=eR (P:=P) (w:=w) (mg:=mg) (base:=base) (k:=0) (m:=Ac) T.Gs Ws;exact h fun _ _ _ _ _ _ _ ay _ _=>
 b5 (ep (la (oi (gG (fu (iA (D0 _) T.hL T.tl (by kernel_rfl) (aw 0)))) (oj (vN ay.units (gP T.gu (aB (aw 0) (aZ))) (gP T.gu (aB (rf T.oD) (aZ))))))) (b0 (dD (iz))) (ey))
  (b0 (dD (rd ay T.oA (aB (gO (k_ (N:=["sign"]) 1 [] (by rfl) (Zl (aw 0)) (lx 0) (jE) (fun _ _ _ _ _ _ _=>Lx ay.units (aw 0) (rf T.rI)))) (aZ)))))
theorem Ie:ei P w K mg base "is_number_or_none" 2 3 o8:=by
 have h:=eR (P:=P) (w:=w) (mg:=mg) (base:=base) (k:=2) (m:=wq) T.Gq Wq;exact h fun _ _ _ _ _ _ _ ay _ _=>
 b0 (dD (LA (YF (aw 0) (jv)) (l0 (dm (t_ T) (ay.mono (by decide)) (aB (aw 0) (aB (bF) (aB (vH (aw 1) (bF)) (aZ))))))))
theorem R_:ei P w K mg base "is_row" 2 4 sr:=by
 have h:=eR (P:=P) (w:=w) (mg:=mg) (base:=base) (k:=3) (m:=Ad) T.Gu Wt;exact h fun _ _ _ _ _ _ _ ay _ _=>
 b5 (ep (la (oi (gG (fu (iA (yQ _) T.hL T.p5 (by kernel_rfl) (aw 0)))) (oj (vN ay.units (gP T.gu (aB (aw 0) (aZ))) (bF))))) (b0 (dD (iz))) (ey))
  (b5 (ep (gG (fu (dm (Ih T) (ay.mono (by decide)) (aB (da (aw 0) (bF) bC) (aZ))))) (b0 (dD (iz))) (ey))
  (b0 (dD (mT (dm (Ie T) (ay.mono (by decide)) (aB (da (aw 0) (bF) bC) (aB (aw 1) (aZ)))) (l0 (dm (Ie T) (ay.mono (by decide)) (aB (da (aw 0) (bF) bC) (aB (aw 1) (aZ)))))))))
theorem R8:ei P w K mg base "is_book" 2 5 sm:=by
 have h:=eR (P:=P) (w:=w) (mg:=mg) (base:=base) (k:=4) (m:=z_) T.Gm Wm;exact h fun _ _ _ _ _ _ _ ay _ _=>
 b5 (ep (la (oi (gG (fu (iA (vw _) T.hL T.lu (by kernel_rfl) (aw 0)))) (oj (LU (gP T.gu (aB (aw 0) (aZ))) (rf T.rH))))) (b0 (dD (iz))) (ey))
  (b0 (dD (rd ay T.oA (aB (gO (k_ (N:=["row","doors"]) 1 [1] (by rfl) (kr (aw 0)) (lx 0) (jE) (fun _ _ _ _ _ _ _=>dm (R_ T) (ay.mono (by decide)) (aB (aw 0) (aB (aw 1) (aZ)))))) (aZ)))))
theorem R0:m6 P w K mg base "Net" "count" 1 1 xX:=by
 have h:=vI (P:=P) (w:=w) (mg:=mg) (base:=base) (k:=0) (m:=z3) T.Gd Wf;exact h fun _ _ _ _ _ _ _ ay _ _=>
 b0 (dD (Lw (LR u5 Jb u4 Ub (bF) (aw 1) (lZ T.iJ (aw 0))) (da (lZ T.iJ (aw 0)) (aw 1) bC) (bF)))
theorem R9:ei P w K mg base "is_books" 2 6 qI:=by
 have h:=eR (P:=P) (w:=w) (mg:=mg) (base:=base) (k:=5) (m:=Aa) T.Gn Wn;exact h fun _ _ _ _ _ _ _ ay _ _=>
 b5 (ep (la (oi (gG (fu (iA (vw _) T.hL T.lu (by kernel_rfl) (aw 0)))) (oj (vN ay.units (gP T.gu (aB (aw 0) (aZ))) (lZ T.iJ (aw 1)))))) (b0 (dD (iz))) (ey))
  (b0 (dD (rd ay T.oA (aB (gO (k_ (N:=["house","book","net"]) 2 [1] (by rfl) (y6 T.tj (aB (aw 0) (aZ))) (wA 0 1) (jE) (fun _ _ _ _ _ _ _=>dm (R8 T) (ay.mono (by decide)) (aB (aw 1) (aB (y1 (R0 T) (ay.mono (by decide)) (aw 2) (aB (aw 0) (aZ))) (aZ)))))) (aZ)))))
theorem Sq:rr P w K mg base "refuse_unless_books" 2 7 x3:=by
 have h:=Ls (P:=P) (w:=w) (mg:=mg) (base:=base) (k:=6) (m:=Ar) T.GV Wy;exact h fun _ _ _ _ _ _ _ ay _ _=>
 b0 (ep (En (gG (fu (dm (R9 T) (ay.mono (by decide)) (aB (aw 0) (aB (aw 1) (aZ))))))) (b0 (Et T.Lq)) (ey))
theorem R2:m6 P w K mg base "Net" "is_door" 1 4 xY:=by
 have h:=vI (P:=P) (w:=w) (mg:=mg) (base:=base) (k:=3) (m:=z4) T.Gf Wh;exact h fun _ _ _ _ _ _ _ ay _ _=>
 b0 (dD (dm (BR T) (ay.mono (by decide)) (aB (lZ T.iJ (aw 0)) (aB (aw 1) (aZ)))))
theorem R3:m6 P w K mg base "Net" "is_outer" 1 5 uE:=by
 have h:=vI (P:=P) (w:=w) (mg:=mg) (base:=base) (k:=4) (m:=z5) T.Gg Wi;exact h fun _ _ _ _ _ _ _ ay _ _=>
 b0 (dD (mT (y1 (R2 T) (ay.mono (by decide)) (aw 0) (aB (aw 1) (aZ))) (l0 (YC ay.units (aw 1) (lZ T.iJ (aw 0))))))
theorem Ic:ei P w K mg base "is_address" 1 3 sl:=by
 have h:=eR (P:=P) (w:=w) (mg:=mg) (base:=base) (k:=2) (m:=z9) T.Gl Wl;exact h fun _ _ _ _ _ _ _ ay _ _=>
 b0 (dD (dm (t_ T) (ay.mono (by decide)) (aB (aw 0) (aB (bF) (aB (rf T.rF) (aZ))))))
theorem R7:ei P w K mg base "fits" 2 4 sk:=by
 have h:=eR (P:=P) (w:=w) (mg:=mg) (base:=base) (k:=3) (m:=z8) T.Gk Wk;exact h fun _ _ _ _ _ _ _ ay _ _=>
 b5 (ep (la (oi (gG (fu (dm (Ih T) (ay.mono (by decide)) (aB (aw 0) (aZ))))) (oj (gG (fu (dm (Ic T) (ay.mono (by decide)) (aB (aw 1) (aZ)))))))) (b0 (dD (iz))) (ey))
  (b0 (dD (rd ay T.oA (aB (gO (k_ (N:=["sign","worth","address"]) 2 [1] (by rfl) (Zn T.Av (aB (aw 0) (aB (rf T.oD) (aZ)))) (wA 0 1) (jE) (fun _ _ _ _ _ _ _=>Lx ay.units (aw 0) (gq (aB (jW) (aB (YO T.tl (aB (hE (kq (aw 2) (aw 1)) (bF)) (aZ))) (aZ))))))) (aZ)))))
theorem Sr:ei P w K mg base "taken" 3 5 x4:=by
 have h:=eR (P:=P) (w:=w) (mg:=mg) (base:=base) (k:=4) (m:=As) T.GW Dx;exact h fun _ _ _ _ _ _ _ ay _ _=>
 b5 (jX adv (y6 T.tj (aB (aw 0) (aZ))) (qN rfl (iN (fs 3 Dx.bI) (iN (fs 4 Dx.bI) (qM)))) (b0 (ep (la (Ey (la (oi (vM (da (aw 4) (bF) bC) (jv)) (oj (vL ay.units (da (aw 4) (bF) bC) (aw 1))))) (Ez (fu (dm (R7 T) (ay.mono (by decide)) (aB (da (aw 4) (bF) bC) (aB (aw 2) (aZ)))))))) (b0 (dD (aw 3))) (ey))))
  (b0 (dD (jv)))
theorem RZ:m6 P w K mg base "Net" "beyond" 1 1 uD:=by
 have h:=vI (P:=P) (w:=w) (mg:=mg) (base:=base) (k:=0) (m:=z2) T.Gb We;exact h fun _ _ _ _ _ _ _ ay _ _=>
 b0 (dD (YB ay.units (lZ T.iJ (aw 0)) (aw 1)))
theorem Sp:ei P w K mg base "onward" 4 6 nW:=by
 have h:=eR (P:=P) (w:=w) (mg:=mg) (base:=base) (k:=5) (m:=rE) T.GU yu;exact h fun _ _ _ _ _ _ _ ay _ _=>
 b5 (f3 4 yu.bI (dm (Sr T) (ay.mono (by decide)) (aB (aw 1) (aB (da (aw 2) (bF) bC) (aB (aw 3) (aZ))))))
  (b5 (f3 5 yu.bI (Lw (vM (aw 4) (jv)) (jv) (da (da (aw 1) (aw 4) bC) (bF) bC)))
  (b5 (ep (vM (aw 5) (jv)) (b0 (dD (gq (aB (jW) (aB (da (aw 2) (bF) bC) (aZ)))))) (ey))
  (b5 (f3 6 yu.bI (y1 (RZ T) (ay.mono (by decide)) (aw 0) (aB (gq (aB (da (aw 2) (bF) bC) (aB (aw 5) (aZ)))) (aZ))))
  (b5 (ep (vM (aw 6) (jv)) (b0 (dD (gq (aB (jW) (aB (da (aw 2) (bF) bC) (aB (aw 5) (aZ))))))) (ey))
  (b0 (dD (gq (aB (jW) (aB (da (aw 6) (bF) bC) (aB (da (aw 6) (bF) bC) (aZ)))))))))))
theorem Ss:ei P w K mg base "walked" 4 7 uP:=by
 have h:=eR (P:=P) (w:=w) (mg:=mg) (base:=base) (k:=6) (m:=Fi) T.GX yv;exact h fun _ _ _ _ _ _ _ ay _ _=>
 b5 (l2 4 yv.bI (hZ (aZ)))
  (b5 (LQ adv (pL (Zk ay.units (aw 2) (aw 4))) (b5 (y4 4 (aw 2))
  (b5 (f3 5 yv.bI (dm (Sp T) (ay.mono (by decide)) (aB (aw 0) (aB (da (aw 1) (da (aw 2) (bF) bC) bC) (aB (aw 2) (aB (aw 3) (aZ)))))))
  (b5 (ep (vN ay.units (da (aw 5) (bF) bC) (jW)) (b0 (LM 4 (aw 5))) (ey))
  (b0 (f3 2 yv.bI (gq (aB (da (aw 5) (bF) bC) (aB (da (aw 5) (bF) bC) (aZ))))))))))
  (b0 (LM 4 (Lu (gq (aB (jW) (aB (Ly ay.units (aw 4) (aB (aw 2) (aZ))) (aZ))))))))
theorem BV:rr P w K mg base "way" 4 8 qL:=by
 have h:=Ls (P:=P) (w:=w) (mg:=mg) (base:=base) (k:=7) (m:=Au) T.GY Wz;exact h fun _ _ _ _ _ _ _ ay _ _=>
 b5 (Y_ (Yy (Sq T) (ay.mono (by decide)) (YX (aB (aw 1) (aB (aw 0) (aZ))))))
  (b5 (ep (En (gG (fu (y1 (R3 T) (ay.mono (by decide)) (aw 0) (aB (aw 2) (aZ)))))) (b0 (Et T.Lr)) (ey))
  (b5 (ep (En (gG (fu (dm (Ic T) (ay.mono (by decide)) (aB (aw 3) (aZ)))))) (b0 (Et T.Lp)) (ey))
  (b0 (YY (Ze (Y0 (Ss T) (ay.mono (by decide)) (aB (aw 0) (aB (aw 1) (aB (aw 2) (aB (aw 3) (aZ)))))))))))
theorem BS(n:Nat):ei P w K mg base "_law_alike" 2 (n+1) (kP n):=by
 induction n with
 |zero=>have h:=eR (P:=P) (w:=w) (mg:=mg) (base:=base) (k:=0) (m:=oZ) T.A1 J3;exact h fun _ _ _ _ _ _ _ ay _ _=>Y9
 |succ n cq=>
  have h:=eR (P:=P) (w:=w) (mg:=mg) (base:=base) (k:=n+1) (m:=rD (kP n)) T.A1 J3;exact h fun _ _ _ _ _ _ _ ay _ _=>
  b5 (ep (fu (iA (DZ _) T.hL T.rC (by kernel_rfl) (aw 1))) (b0 (dD (mT (iA (DZ _) T.hL T.rC (by kernel_rfl) (aw 0)) (mT (Lz (iA (K2 _) T.hL T.z7 (by kernel_rfl) (aw 0))) (l0 (pJ ay.units (aw 0) (aw 1))))))) (ey))
   (b5 (ep (fu (iA (D0 _) T.hL T.tl (by kernel_rfl) (aw 1))) (b0 (dD (mT (iA (D0 _) T.hL T.tl (by kernel_rfl) (aw 0)) (l0 (pJ ay.units (aw 0) (aw 1)))))) (ey))
   (b5 (ep (fu (iA (yQ _) T.hL T.p5 (by kernel_rfl) (aw 1))) (b0 (ep (gG (fu (iA (yQ _) T.hL T.p5 (by kernel_rfl) (aw 0)))) (b0 (dD (iz))) (ey))) (b0 (ep (gG (fu (iA (vw _) T.hL T.lu (by kernel_rfl) (aw 0)))) (b0 (dD (iz))) (ey))))
   (b5 (ep (vN ay.units (gP T.gu (aB (aw 0) (aZ))) (gP T.gu (aB (aw 1) (aZ)))) (b0 (dD (iz))) (ey))
   (b0 (dD (rd ay T.oA (aB (gO (k_ (N:=["_law_one","_law_other"]) 2 [] (by rfl) (Zo T.Av (aB (aw 0) (aB (aw 1) (aZ)))) (wA 0 1) (jE) (fun _ _ _ _ _ _ _=>dm cq (ay.mono (ac3 _)) (aB (aw 0) (aB (aw 1) (aZ)))))) (aZ))))))))
theorem R4:m6 P w K mg base "Net" "outer" 0 1 xZ:=by
 have h:=vI (P:=P) (w:=w) (mg:=mg) (base:=base) (k:=0) (m:=z6) T.Gh yo;exact h fun _ _ _ _ _ _ _ ay _ _=>
 b5 (l2 1 yo.bI (hZ (aZ)))
  (b5 (jX adv (l3 T.hM (aB (lZ T.iJ (aw 0)) (aZ))) (fs 2 yo.bI) (b0 (jX adv (l3 T.hM (aB (da (lZ T.iJ (aw 0)) (aw 2) bC) (aZ))) (fs 3 yo.bI) (b0 (ep (Ex ay.units (gq (aB (aw 2) (aB (aw 3) (aZ)))) (lZ T.iJ (aw 0))) (b0 (y4 1 (gq (aB (aw 2) (aB (aw 3) (aZ)))))) (ey))))))
  (b0 (LN 1)))
theorem Sl:zC P w K mg base "_law_right_again" 3 9 uM:=by
 have h:=ND (P:=P) (w:=w) (mg:=mg) (base:=base) (k:=8) (m:=tk) T.GN sE;exact h fun _ _ _ _ _ _ _ ay _ _=>
 b5 (f3 4 sE.bI (YI (R4 T) (ay.mono (by decide)) (aw 1)))
  (b5 (ep (vL ay.units (gP T.gu (aB (aw 4) (aZ))) (bF)) (b0 (dD (iz))) (ey))
  (Y5 3 5 sE.bI (da (da (aw 4) (bF) bC) (bF) bC) bC (fun _=>YU (pL (LU (gP T.gu (aB (aw 5) (aZ))) (bF))) (YW (LF (YL 5))) YV) (fun _=>LF (YE 5 (bF) (gq (aB (jW) (aB (jv) (aB (bF) (aZ)))))))
  (b5 (Y8 (N:=["_law_book"]) 6 1 [] sE.bI (by rfl) (kr (aw 3)) (lx 0) (jE) (fun _ _ _ _ _ _ _=>LH T.lu (aB (aw 0) (aZ))))
  (b5 (jX adv (kr (aw 4)) (fs 7 sE.bI) (b0 (jX adv (kr (dm (Ii T) (ay.mono (by decide)) (aB (aw 0) (aZ)))) (fs 8 sE.bI) (b0 (ep (pL (gG (fu (dm (BS T 5) (ay.mono (by decide)) (aB (Lv (BV T) (ay.mono (by decide)) (aB (aw 1) (aB (aw 3) (aB (aw 7) (aB (aw 8) (aZ)))))) (aB (dm (Ij T) (ay.mono (by decide)) (aB (aw 6) (aB (aw 2) (aB (aw 7) (aB (aw 8) (aZ)))))) (aZ))))))) (b0 (dD (iz))) (ey))))))
  (b0 (ri (pJ ay.units (aw 3) (aw 6))))))))
theorem MG(f:ac1)(bV:acV)(A:adp)(outer:List Env)(s:acW)(H:ag)(E:cT)(ay:dx 9 (A.deeper (ady "law" (bW px) s.heap.objs.size f bV)))(bD aR:ag):gW (er fg P w K mg base ["_law_script","_law_counts_here","_law_wires_here","_law_books_here","_law_beyond_here","_law_net","_law_handed","_law_door","_law_k","_law_address","_law_due","_law_found"] "law" (bW px) f bV A outer s H E).gh (dc K bD aR) (fl px) Ag:=
 b5 (LP (dm (So T) (ay.mono (by decide)) (aB (aw 0) (aZ))) (qN rfl (iN (fs 1 kV.bI) (iN (fs 2 kV.bI) (iN (fs 3 kV.bI) (qM))))))
  (b5 (f3 4 kV.bI (dm (Sd T) (ay.mono (by decide)) (aB (aw 2) (aZ))))
  (b5 (f3 5 kV.bI (YH (R1 T) (ay.mono (by decide)) (aB (aw 1) (aB (aw 2) (aZ)))))
  (b5 (LK (N:=["_law_book"]) 6 1 [] kV.bI (by rfl) (kr (aw 3)) (lx 0) (jE) (fun _ _ _ _ _ _ _=>LH T.lu (aB (aw 0) (aZ))))
  (b5 (jX adv (kr (gO (k_ (N:=["_law_one","_law_beyond_here"]) 1 [4] (by rfl) (kr (gO (vK (BU T) (ay.mono (by decide)) (aB (aw 1) (aZ))))) (lx 0) (Yu (fun _ _ _ _ _ _ _=>Ex ay.units (aw 0) (aw 1))) (fun _ _ _ _ _ _ _=>aw 0)))) (fs 7 kV.bI) (b0 (jX adv (y6 T.tj (aB (dm (Ii T) (ay.mono (by decide)) (aB (aw 0) (aZ))) (aZ))) (qN rfl (iN (fs 8 kV.bI) (iN (fs 9 kV.bI) (qM)))) (b5 (f3 10 kV.bI (dm (Ij T) (ay.mono (by decide)) (aB (aw 3) (aB (aw 4) (aB (aw 7) (aB (aw 9) (aZ)))))))
  (b5 (Zj 11 (Zi 11 kV.bI (YZ (Y1 (BV T) (ay.mono (by decide)) (aB (aw 5) (aB (aw 6) (aB (aw 7) (aB (aw 9) (aZ)))))))))
  (b5 (ep (pL (gG (fu (dm (BS T 5) (ay.mono (by decide)) (aB (aw 11) (aB (aw 10) (aZ))))))) (b0 (dD (iz))) (ey))
  (b5 (Y7 11 (bF) bC (gq (aB (bF) (aB (bF) (aZ)))))
  (b0 (ep (pL (la (Ey (vL ay.units (hE (aw 8) (bF)) (bF)) (Ez (gG (fu (dm (BS T 5) (ay.mono (by decide)) (aB (Lv (BV T) (ay.mono (by decide)) (aB (aw 5) (aB (aw 6) (aB (aw 7) (aB (aw 9) (aZ)))))) (aB (aw 10) (aZ)))))))))) (b0 (dD (iz))) (ey))))))))))
  (b0 (Zc (vG (pJ ay.units (aw 6) (aw 3))) (YR 6 (Sl T) (ay.mono (by decide)) (aw 0) (aw 5) (aw 4))))))))
end
end cv
namespace cv
open PySem PySem.Spec a7 bu
theorem fR{α β:Type}(a:α)(k:α→R β):(R.ok a).bind k=k a:=rfl
theorem yw{a b:bf}{ρ ρ':ai}(h:a ρ=.ok (.bL ρ')):bK a b ρ=b ρ':=by simp only[bK,h,fR]
theorem MU{f:List D→R bT}{a:aN}{ρ:ai}{x y:D}(U:a ρ=.ok x)(h:f [x]=.ok (.v y)):cD 1 f (ar a aF) ρ=.ok y:=by simp only[cD,ar,aF,U,fR,adf,aeb,if_true,h,hD]
theorem call2{f:List D→R bT}{a b:aN}{ρ:ai}{x z y:D}(U:a ρ=.ok x)(J:b ρ=.ok z)(h:f [x,z]=.ok (.v y)):cD 2 f (ar a (ar b aF)) ρ=.ok y:=by simp only[cD,ar,aF,U,J,fR,adf,aeb,if_true,h,hD]
theorem MV{f:List D→R bT}{a b c:aN}{ρ:ai}{x z w y:D}(U:a ρ=.ok x)(J:b ρ=.ok z)(ax:c ρ=.ok w)(h:f [x,z,w]=.ok (.v y)):cD 3 f (ar a (ar b (ar c aF))) ρ=.ok y:=by simp only[cD,ar,aF,U,J,ax,fR,adf,aeb,if_true,h,hD]
theorem tm{f:D→D→R D}{a b:aN}{ρ:ai}{x y z:D}(U:a ρ=.ok x)(J:b ρ=.ok y)(h:f x y=.ok z):aE f a b ρ=.ok z:=by simp only[aE,U,J,fR,h]
theorem r9{a:aN}{ρ:ai}{c:Bool}(U:a ρ=.ok (.aC c)):bS a ρ=.ok c:=by simp only[bS,U,fR,jC]
theorem B0{a:cL}{ρ:ai}{c:Bool}(U:a ρ=.ok c):eu a ρ=.ok (!c):=by simp only[eu,U,fR]
theorem Jf{a b:cL}{ρ:ai}{c d:Bool}(U:a ρ=.ok c)(J:c=false→b ρ=.ok d):g5 a b ρ=.ok (c||d):=by
 cases c
 ·simp only[g5,U,fR,J rfl,adx,if_false,agi]
 ·simp only[g5,U,fR,if_true,Bool.true_or]
theorem Nd{f g:D→D→R D}{a b c:aN}{ρ:ai}{x y w:D}{k l:Bool}(U:a ρ=.ok x)(J:b ρ=.ok y)(ax:c ρ=.ok w)(hf:f x y=.ok (.aC k))(aI:g y w=.ok (.aC l)):ke f g a b c ρ=.ok (.aC (k&&l)):=by
 cases k
 ·simp only[ke,U,J,hf,fR,jC,adx,if_false,Bool.false_and]
 ·simp only[ke,U,J,ax,hf,aI,fR,jC,if_true,afM]
theorem DA{c:cL}{a b:bf}{ρ:ai}(ax:c ρ=.ok false):bK (dn c a du) b ρ=b ρ:=by simp only[bK,dn,ax,fR,du];rfl
theorem VU{e:aN}{ρ:ai}{d:D}(he:e ρ=.ok d):c9 e ρ=.ok (.c_ d):=by simp only[c9,he,fR]
theorem OJ{mi:aW}{set:D→ai→R ai}{body:bf}{ds:List D}{ρ:ai}(ak:mi ρ=.ok ds):e6 mi set body ρ=f9 set body ds ρ:=by rw[e6,ak];rfl
theorem OK{mi:aW}{set:D→ai→R ai}{body:bf}{ds:List D}{ρ ρ':ai}(ak:mi ρ=.ok ds)(h:f9 set body ds ρ=.ok (.bL ρ')):e6 mi set body ρ=.ok (.bL ρ'):=by rw[OJ ak];exact h
theorem Im{a:aN}{ρ:ai}{xs:List D}(U:a ρ=.ok (.lst xs)):cW dR (ar a aF) ρ=.ok (.int (xs.length:Nat)):=by simp only[cW,ar,aF,U,fR,dR]
def b9(cs:List Nat):List D:=cs.map fun(c:Nat)=>D.int (c:Int)
abbrev aJ:=Nat×Nat
def a0(d:aJ):D:=.tup [.int (d.1:Nat),.int (d.2:Nat)]
def dC(w:aJ×aJ):D:=.tup [a0 w.1,a0 w.2]
def ends(ws:List (aJ×aJ)):List aJ:=(ws.map fun w=>[w.1,w.2]).flatten
theorem AW{α:Type}:∀(l:List α)(i:Nat)(h:i<l.length),List.Perm (l[i]::l.eraseIdx i) l
 |x::l,0,_=>List.Perm.refl _
 |x::l,i+1,h=>by have cq:=AW l i (by simpa using h);simp only[List.getElem_cons_succ,afc];exact(List.Perm.swap x _ _).trans (cq.cons x)
def hv(cs:List Nat)(h:Nat):List aJ:=(adG (cs.getD h 0)).map fun k=>(h,k)
def dz(cs:List Nat)(n:Nat):List aJ:=(adG n).flatMap (hv cs)
theorem wh(cs:List Nat)(n:Nat):dz cs (n+1)=dz cs n++hv cs n:=by unfold dz;rw[ahb,List.flatMap_append];simp
theorem B7{cs:List Nat}{h:Nat}{d:aJ}:d∈hv cs h↔d.1=h∧d.2<cs.getD h 0:=by
 unfold hv;rw[List.mem_map];constructor
 ·rintro⟨k,aK,rfl⟩;exact⟨rfl,List.mem_range.mp aK⟩
 ·rintro⟨rfl,h2⟩;exact⟨d.2,List.mem_range.mpr h2,rfl⟩
theorem pa{cs:List Nat}{n:Nat}{d:aJ}:d∈dz cs n↔d.1<n∧d.2<cs.getD d.1 0:=by
 unfold dz;rw[List.mem_flatMap];constructor
 ·rintro⟨h,bw,hd⟩;obtain⟨rfl,h2⟩:=B7.mp hd;exact⟨List.mem_range.mp bw,h2⟩
 ·rintro⟨h1,h2⟩;exact⟨d.1,List.mem_range.mpr h1,B7.mpr ⟨rfl,h2⟩⟩
theorem NW(cs:List Nat)(h:Nat):(hv cs h).Nodup:=by unfold hv;rw[List.nodup_iff_pairwise_ne,List.pairwise_map];exact List.nodup_range.imp fun OX z=>OX (Prod.mk.inj z).2
theorem zT(cs:List Nat):∀n,(dz cs n).Nodup
 |0=>af8
 |n+1=>by rw[wh];refine List.nodup_append.mpr ⟨zT cs n,NW cs n,fun a U b J z=>?_⟩;subst z;have h1:=(pa.mp U).1;have h2:=(B7.mp J).1;omega
theorem A7{cs:List Nat}(h:∀c∈cs,c≤4)(k:Nat):cs.getD k 0≤4:=by
 rw[ac6];cases e:cs[k]? with
 |none=>simp
 |some c=>simpa using h c (adg e)
theorem FQ{cs:List Nat}(h:∀c∈cs,1≤c∧c≤4)(k:Nat):(hv cs k).length≤4:=by unfold hv;rw[adk,List.length_range];exact A7 (fun c ax=>(h c ax).2) k
theorem oz{cs:List Nat}(h:∀c∈cs,1≤c∧c≤4):∀n,(dz cs n).length≤4*n
 |0=>by simp[dz]
 |n+1=>by rw[wh,adA];have:=oz h n;have:=FQ h n;omega
theorem tv{cs:List Nat}{h:Nat}(bw:h<cs.length):(b9 cs)[h]?=some (.int (cs.getD h 0:Nat)):=by simp[b9,acT bw,ac6]
structure ie(cs:List Nat)(ws:List (aJ×aJ)):Prop where
 h1:1≤cs.length
 h6:cs.length≤6
 c:∀c∈cs,1≤c∧c≤4
 bI:(ends ws).Nodup
 sub:∀d∈ends ws,d∈dz cs cs.length
 few:ws.length<100
theorem head_mem{cs:List Nat}(h1:1≤cs.length)(c:∀c∈cs,1≤c∧c≤4):((0,0):aJ)∈dz cs cs.length:=by
 refine pa.mpr ⟨h1,?_⟩;cases cs with
 |nil=>simp at h1
 |cons x r=>exact(c x (adQ ..)).1
def gg(d:aJ):List Key:=[.inl (d.1:Nat),.inl (d.2:Nat)]
theorem t9{a b:aJ}(h:gg a=gg b):a=b:=by
 obtain⟨a1,a2⟩:=a;obtain⟨gX,fc⟩:=b;simp only[gg,aff,Sum.inl.injEq,and_true]at h;have h1:a1=gX:=by omega
 have h2:a2=fc:=by omega
 rw[h1,h2]
theorem nH(d:aJ):nG (a0 d)=some (gg d):=rfl
def cx(ws:List (aJ×aJ)):List (List Key):=(ends ws).map gg
def cR(ws:List (aJ×aJ)):List D:=(ws.map fun w=>[a0 w.2,a0 w.1]).flatten
theorem ks_any(ws:List (aJ×aJ))(d:aJ):(cx ws).any (fun x=>decide (x=gg d))=decide (d∈ends ws):=by
 unfold cx;rw[List.any_map];by_cases h:d∈ends ws
 ·rw[decide_eq_true h,List.any_eq_true];exact⟨d,h,by simp⟩
 ·rw[decide_eq_false h,List.any_eq_false];intro x aA;simp only[Function.comp,decide_eq_true_eq];exact fun z=>h (t9 z▸aA)
theorem AQ(ws:List (aJ×aJ)):(ends ws).length=2*ws.length:=by
 induction ws with
 |nil=>rfl
 |cons w r cq=>simp only[ends,ac8,List.flatten_cons,adA,adf,aeb]at cq ⊢;omega
theorem wL{i:Nat}{mk mv:aN}{ρ:ai}{ks:List (List Key)}{ds:List D}{k v:D}{cA:List Key}(aD:ρ[i]?=some (.ob (.bH ks ds)))(aK:mk ρ=.ok k)(bP:mv ρ=.ok v)(d4:nG k=some cA)(aU:ks.any (fun x=>decide (x=cA))=false)(av:ks.length<1000000) :
  mG i mk mv ρ=.ok (.bL (ρ.set i (.ob (.bH (ks++[cA]) (ds++[v]))))):=by
 simp only[mG,bP,aD,aK,fR,d4,putD,if_pos (And.intro aU av)]
theorem E6{ks:List (List Key)}{a b:List Key}(h:ks.any (fun x=>decide (x=b))=false)(ne:a≠b):(ks++[a]).any (fun x=>decide (x=b))=false:=by rw[List.any_append,h];simp[ne]
theorem Ik(ws:List (aJ×aJ))(w:aJ×aJ):cx (ws++[w])=cx ws++[gg w.1]++[gg w.2]:=by simp[cx,ends]
theorem Lh(ws:List (aJ×aJ))(w:aJ×aJ):cR (ws++[w])=cR ws++[a0 w.2]++[a0 w.1]:=by simp[cR]
theorem IT{P:List (aJ×aJ)}{w:aJ×aJ}{r:List (aJ×aJ)}(bI:(ends (P++w::r)).Nodup):w.1∉ends P∧w.2∉ends P∧w.1≠w.2:=by
 have e:ends (P++w::r)=ends P++(w.1::w.2::ends r):=by simp[ends]
 rw[e]at bI;obtain⟨_,dv,lO⟩:=List.nodup_append.mp bI;refine⟨fun z=>lO _ z w.1 (by simp) rfl,fun z=>lO _ z w.2 (by simp) rfl,fun z=>?_⟩;rw[List.nodup_cons]at dv;exact dv.1 (by rw[z];simp)
theorem yW(i lo ak:Int):nV [.int i,.int lo,.int ak]=.ok (.v (.aC (decide (lo≤i)&&decide (i≤ak)))):=by have w:B3 [.int i]=.ok (.v (.aC true)):=rfl;simp[nV,Ae,w];by_cases h:lo≤i<;>simp[h]
theorem AB{cs:List Nat}{d:aJ}(h:d∈dz cs cs.length):qJ [.tup (b9 cs),a0 d]=.ok (.v (.aC true)):=by
 obtain⟨h1,h2⟩:=pa.mp h;have p:uG [a0 d]=.ok (.v (.aC true)):=rfl;have cI:bk (a0 d) (.int 0)=.ok (.int d.1):=rfl;have ae:bk (a0 d) (.int 1)=.ok (.int d.2):=rfl;have au:bk (.tup (b9 cs)) (.int (d.1:Nat))=.ok (.int (cs.getD d.1 0:Nat)):=BK (tv h1);have l:(b9 cs).length=cs.length:=by simp[b9]
 simp only[ac6]at h2 au;simp[qJ,Ab,p,cI,ae,au,l,yW,show¬((cs.length:Int)-1<(d.1:Nat))by omega];omega
theorem NU{a b:aJ}(h:a≠b):dM false (a0 a) (a0 b)=.ok (.aC true):=by
 show R.ok (D.aC (!(((a.1:Nat):Int)==((b.1:Nat):Int)&&(((a.2:Nat):Int)==((b.2:Nat):Int)&&true))))=_;by_cases h1:a.1=b.1
 ·by_cases h2:a.2=b.2
  ·exact absurd (Prod.ext h1 h2) h
  ·rw[beq_eq_false_iff_ne.mpr (show((a.2:Nat):Int)≠((b.2:Nat):Int)by omega)];simp
 ·rw[beq_eq_false_iff_ne.mpr (show((a.1:Nat):Int)≠((b.1:Nat):Int)by omega)];simp
theorem Yo{cs:List Nat}{w:aJ×aJ}(h1:w.1∈dz cs cs.length)(h2:w.2∈dz cs cs.length)(ne:w.1≠w.2):su [.tup (b9 cs),dC w]=.ok (.v (.aC true)):=by have p:uG [dC w]=.ok (.v (.aC true)):=rfl;have cI:bk (dC w) (.int 0)=.ok (a0 w.1):=rfl;have ae:bk (dC w) (.int 1)=.ok (a0 w.2):=rfl;simp[su,Af,p,cI,ae,AB h1,AB h2,NU ne]
noncomputable def fBody:bf:=(bK (dn (eu (bS (cD 2 su (ar (af 0) (ar (af 3) (aF)))))) (oZ) (du))
    (bK (dn (gM (g5 (bS (aE (eU true) (aE bk (af 3) (aG (.int 0))) (af 2))) (bS (aE (eU true) (aE bk (af 3) (aG (.int 1))) (af 2))))) (oZ) (du))
    (bK (mG 2 (aE bk (af 3) (aG (.int 0))) (aE bk (af 3) (aG (.int 1))))
    (mG 2 (aE bk (af 3) (aG (.int 1))) (aE bk (af 3) (aG (.int 0)))))))
theorem GS(cs:List Nat)(W:D):∀(r P:List (aJ×aJ)),(ends (P++r)).Nodup→(∀d∈ends r,d∈dz cs cs.length)→(P++r).length<1000→∀s3:cJ,∃t3,f9 (bY 3) fBody (r.map dC) [.ao (.tup (b9 cs)),.ao W,.ob (.bH (cx P) (cR P)),s3]=.ok (.bL [.ao (.tup (b9 cs)),.ao W,.ob (.bH (cx (P++r)) (cR (P++r))),t3])
 |[],P,_,_,_,s3=>⟨s3,by rw[adz];rfl⟩
 |w::r,P,bI,sub,av,s3=>by
  obtain⟨dP,dv,lO⟩:=IT bI;have lk:(cx P).length<10000:=by unfold cx;rw[adk,AQ];rw[adA]at av;omega
  have cI:bY 3 (dC w) [.ao (.tup (b9 cs)),.ao W,.ob (.bH (cx P) (cR P)),s3]=.ok [.ao (.tup (b9 cs)),.ao W,.ob (.bH (cx P) (cR P)),.ao (dC w)]:=rfl;have cp:eu (bS (cD 2 su (ar (af 0) (ar (af 3) (aF))))) [.ao (.tup (b9 cs)),.ao W,.ob (.bH (cx P) (cR P)),.ao (dC w)]=.ok false:=B0 (c:=true) (r9 (call2 rfl rfl (Yo (sub _ (by simp[ends])) (sub _ (by simp[ends])) lO)));have k1:eU true (a0 w.1) (.bH (cx P) (cR P))=.ok (.aC false):=by simp only[eU,nH,ks_any,decide_eq_false dP,if_true]
  have k2:eU true (a0 w.2) (.bH (cx P) (cR P))=.ok (.aC false):=by simp only[eU,nH,ks_any,decide_eq_false dv,if_true]
  have dO:gM (g5 (bS (aE (eU true) (aE bk (af 3) (aG (.int 0))) (af 2))) (bS (aE (eU true) (aE bk (af 3) (aG (.int 1))) (af 2)))) [.ao (.tup (b9 cs)),.ao W,.ob (.bH (cx P) (cR P)),.ao (dC w)]=.ok (false||false):=by unfold gM;exact Jf (r9 (tm (x:=a0 w.1) (y:=.bH (cx P) (cR P)) rfl rfl k1)) fun _=>r9 (tm (x:=a0 w.2) (y:=.bH (cx P) (cR P)) rfl rfl k2)
  have a1:=wL (i:=2) (mk:=aE bk (af 3) (aG (.int 0))) (mv:=aE bk (af 3) (aG (.int 1))) (ρ:=[.ao (.tup (b9 cs)),.ao W,.ob (.bH (cx P) (cR P)),.ao (dC w)]) rfl rfl rfl (nH w.1) (by rw[ks_any];exact decide_eq_false dP) (by omega);have a2:=wL (i:=2) (mk:=aE bk (af 3) (aG (.int 1))) (mv:=aE bk (af 3) (aG (.int 0))) (ρ:=[.ao (.tup (b9 cs)),.ao W,.ob (.bH (cx P++[gg w.1]) (cR P++[a0 w.2])),.ao (dC w)]) rfl rfl rfl (nH w.2) (E6 (by rw[ks_any];exact decide_eq_false dv) (fun z=>lO (t9 z))) (by rw[adA,afv];omega);have ae:fBody [.ao (.tup (b9 cs)),.ao W,.ob (.bH (cx P) (cR P)),.ao (dC w)]=.ok (.bL [.ao (.tup (b9 cs)),.ao W,.ob (.bH (cx (P++[w])) (cR (P++[w]))),.ao (dC w)]):=by unfold fBody;rw[DA cp,DA dO,yw a1,Ik,Lh];exact a2
  rw[ac8,f9,cI,fR,ae,fR];have q:P++w::r=(P++[w])++r:=by simp
  rw[q]at bI av ⊢;exact GS cs W r (P++[w]) bI (fun d hd=>sub d (by simp only[ends,ac8,List.flatten_cons,List.mem_append]at hd ⊢;exact .inr hd)) av _
theorem Oz(cs:List Nat)(ws:List (aJ×aJ))(h:ie cs ws):sj [.tup (b9 cs),.tup (ws.map dC)]=.ok (.v (.bH (cx ws) (cR ws))):=by show(wo [.ao (.tup (b9 cs)),.ao (.tup (ws.map dC)),.un,.un]).bind outD=_;have s1:sh 2 [.ao (.tup (b9 cs)),.ao (.tup (ws.map dC)),.un,.un]=.ok (.bL [.ao (.tup (b9 cs)),.ao (.tup (ws.map dC)),.ob (.bH (cx []) (cR [])),.un]):=rfl;obtain⟨t3,e⟩:=GS cs (.tup (ws.map dC)) ws [] (by simpa using h.bI) h.sub (by have:=h.few;simp;omega) .un;have f:=OK (mi:=sa (af 1)) (ρ:=[.ao (.tup (b9 cs)),.ao (.tup (ws.map dC)),.ob (.bH (cx []) (cR [])),.un]) rfl e;unfold fBody at f;unfold wo;rw[yw s1,yw f];rfl
def qe:aN:=(cD 3 nV (ar (af 0) (ar (aG (.int 1)) (ar (aG rG) (aF)))))
theorem FI:∀(cs:List Nat),(∀c∈cs,1≤c∧c≤4)→∀(ws:List D)(s0:cJ),ws.length+cs.length<1000→gx (bY 0) eE qe (b9 cs) [s0] ws=.ok (ws++cs.map fun _=>D.aC true)
 |[],_,ws,s0,_=>by simp[gx,b9]
 |c::cs,h,ws,s0,av=>by
  simp only[adf]at av;obtain⟨cp,nj⟩:=h c (adQ ..);have cI:bY 0 (.int (c:Nat)) [s0]=.ok [.ao (.int (c:Nat))]:=rfl;have ae:qe [.ao (.int (c:Nat))]=.ok (.aC true):=by have z:=yW (c:Nat) 1 4;rw[decide_eq_true (by omega),decide_eq_true (by omega)]at z;exact MV rfl rfl rfl z
  show gx (bY 0) eE qe (.int (c:Nat)::b9 cs) [s0] ws=_;rw[gx,cI,fR];simp only[eE,fR,ae,if_true,if_pos (show ws.length<1000000 by omega)];rw[FI cs (fun c h'=>h c (ac7 _ h')) _ _ (by rw[adA,afv];omega),afr];rfl
theorem Fv:∀cs:List Nat,ni (cs.map fun _=>D.aC true)=some (cs.map fun _=>true)
 |[]=>rfl
 |c::cs=>by simp only[ac8,ni,Fv cs,afZ]
theorem Nl(cs:List Nat)(h1:1≤cs.length)(h6:cs.length≤6)(h:∀c∈cs,1≤c∧c≤4):uF [.lst (b9 cs)]=.ok (.v (.aC true)):=by
 show(wm [.ao (.lst (b9 cs))]).bind outD=_;have nL:cW dR (ar (af 0) aF) [.ao (.lst (b9 cs))]=.ok (.int (cs.length:Nat)):=by rw[Im (xs:=b9 cs) rfl];simp[b9]
 have cp:g5 (eu (bS (df (eB "list") (af 0)))) (eu (bS (ke lJ lJ (aG (.int 1)) (cW dR (ar (af 0) (aF))) (aG p7)))) [.ao (.lst (b9 cs))]=.ok (false||false):=by refine Jf rfl fun _=>?_;have z:=Nd (f:=lJ) (g:=lJ) (a:=aG (.int 1)) (c:=aG p7) (ρ:=[.ao (.lst (b9 cs))]) rfl nL rfl (k:=true) (l:=true) (by show R.ok (D.aC (decide ((1:Int)≤(cs.length:Nat))))=_;rw[decide_eq_true (by omega)]) (by show R.ok (D.aC (decide (((cs.length:Nat):Int)≤6)))=_;rw[decide_eq_true (by omega)]);exact B0 (c:=true) (r9 z)
 have gw:fp 1 [] (hB (af 0)) (bY 0) (eE) qe [.ao (.lst (b9 cs))]=.ok (cs.map fun _=>D.aC true):=by show eF (gx (bY 0) eE qe (b9 cs) [.un] [])=_;rw[FI cs h _ _ (by simp;omega)];rfl
 have e:cW bu.dz (ar (fq (fp 1 [] (hB (af 0)) (bY 0) (eE) qe)) (aF)) [.ao (.lst (b9 cs))]=.ok (.aC true):=by
  simp only[cW,ar,aF,fq,gw,fR,bu.dz,Fv]
  congr 2
  rw[af3];simp
 unfold qe at e;unfold wm;rw[DA cp,VU e];rfl
theorem q7{a b:e1}{ρ ρ1:ai}(h:a ρ=.ok ρ1):je a b ρ=b ρ1:=by simp only[je,h,fR]
theorem Lg:∀ws:List (aJ×aJ),kR (cR ws)=true
 |[]=>rfl
 |w::ws=>by show kR (a0 w.2::a0 w.1::cR ws)=true;simp only[kR,Lg ws];rfl
theorem Q8(cs:List Nat)(ws:List (aJ×aJ))(h:ie cs ws):B2 [.lst (b9 cs),.lst (ws.map dC)]=.ok (["many","counts","joined","far"],[.int (cs.length:Nat),.tup (b9 cs),.tup (ws.map dC),.bH (cx ws) (cR ws)]):=by
 let r (ns:List Str) (ds:List D):ai:=[.ob (.ins "Net" ns ds),.ao (.lst (b9 cs)),.ao (.lst (ws.map dC))]
 have g1:o3 (eu (bS (cD 1 uF (ar (af 1) (aF))))) (r [] [])=.ok (r [] []):=by have z:eu (bS (cD 1 uF (ar (af 1) (aF)))) (r [] [])=.ok false:=B0 (c:=true) (r9 (MU rfl (Nl cs h.h1 h.h6 h.c)));simp only[o3,z,fR,adx,if_false]
 have g2:o3 (eu (bS (df (eB "list") (af 2)))) (r [] [])=.ok (r [] []):=rfl;have f1:kg "Net" "many" (cW dR (ar (af 1) (aF))) (r [] [])=.ok (r ["many"] [.int (cs.length:Nat)]):=by
  have nL:cW dR (ar (af 1) aF) (r [] [])=.ok (.int (cs.length:Nat)):=by rw[Im (xs:=b9 cs) rfl];simp[b9]
  rw[kg,nL];rfl
 have f2:kg "Net" "counts" (cW pF (ar (af 1) (aF))) (r ["many"] [.int (cs.length:Nat)])=.ok (r ["many","counts"] [.int (cs.length:Nat),.tup (b9 cs)]):=rfl;have fO:kg "Net" "joined" (cW pF (ar (af 2) (aF))) (r ["many","counts"] [.int (cs.length:Nat),.tup (b9 cs)])=.ok (r ["many","counts","joined"] [.int (cs.length:Nat),.tup (b9 cs),.tup (ws.map dC)]):=rfl;have f4:kg "Net" "far" (qC (cD 2 sj (ar (df (e5 "Net" "counts") (af 0)) (ar (df (e5 "Net" "joined") (af 0)) (aF))))) (r ["many","counts","joined"] [.int (cs.length:Nat),.tup (b9 cs),.tup (ws.map dC)])=.ok (r ["many","counts","joined","far"] [.int (cs.length:Nat),.tup (b9 cs),.tup (ws.map dC),.bH (cx ws) (cR ws)]):=by
  have z:qC (cD 2 sj (ar (df (e5 "Net" "counts") (af 0)) (ar (df (e5 "Net" "joined") (af 0)) (aF)))) (r ["many","counts","joined"] [.int (cs.length:Nat),.tup (b9 cs),.tup (ws.map dC)])=.ok (.bH (cx ws) (cR ws)):=by have y:cD 2 sj (ar (df (e5 "Net" "counts") (af 0)) (ar (df (e5 "Net" "joined") (af 0)) (aF))) (d5 (r ["many","counts","joined"] [.int (cs.length:Nat),.tup (b9 cs),.tup (ws.map dC)]))=.ok (.bH (cx ws) (cR ws)):=call2 (x:=.tup (b9 cs)) (z:=.tup (ws.map dC)) rfl rfl (Oz cs ws h);have n:kk (.bH (cx ws) (cR ws))=true∧Cj (r ["many","counts","joined"] [.int (cs.length:Nat),.tup (b9 cs),.tup (ws.map dC)])=true:=⟨by simp only[kk];exact Lg ws,rfl⟩;simp only[qC,y,fR,if_pos n]
  rw[kg,z];rfl
 show outI "Net" (wj (r [] []))=_;unfold wj;rw[q7 g1,q7 g2,q7 f1,q7 f2,q7 fO,f4];rfl
theorem ts(ns:List Int)(k:Nat):∃c:Int,hW [.cu (ns.map D.int),.int k]=.ok (.v (.int c)):=by
 by_cases h:k<ns.length
 ·refine⟨ns[k],?_⟩;have e:bk (.cu (ns.map D.int)) (.int (k:Int))=.ok (.int ns[k]):=Rv (by simp[h]);simp[hW,wx,h,e]
 ·exact⟨0,by simp[hW,wx,h]⟩
theorem uR(c:Int)(k:Nat)(aK:k<1000):∃y:Int,ki [.int c,.int k]=.ok (.v (.int y)):=by
 have h1:(2:Int)*(k:Int)*(k:Int)≤2000000:=by
  have:k*k≤1000*1000:=Nat.mul_le_mul (by omega) (by omega);have e:(2:Int)*(k:Int)*(k:Int)=2*((k*k:Nat):Int):=by rw[Int.natCast_mul,Int.mul_assoc]
  rw[e];omega
 have h0:0≤(2:Int)*(k:Int)*(k:Int):=Int.mul_nonneg (by omega) (by omega);simp(disch:=first|omega|(simp;done)|(simp;omega)) [ki,Am,Vi]
theorem Nk(ns:List Int):∃cs:List Nat,(1≤cs.length∧cs.length≤6)∧(∀c∈cs,1≤c∧c≤4)∧uJ [.cu (ns.map D.int)]=.ok (.o (b9 cs)):=by
 suffices h:Ends (uJ [.cu (ns.map D.int)]) fun b=>∃cs:List Nat,(1≤cs.length∧cs.length≤6)∧(∀c∈cs,1≤c∧c≤4)∧b=.o (b9 cs)by
  obtain⟨b,e,cs,h1,h2,rfl⟩:=h;exact⟨cs,h1,h2,e⟩
 obtain⟨iC,cI⟩:=ts ns 0;obtain⟨cp,ae⟩:=ts ns 1;have N1:hW [.cu (ns.map D.int),.int 0]=.ok (.v (.int iC)):=cI;have eJ:hW [.cu (ns.map D.int),.int 1]=.ok (.v (.int cp)):=ae;obtain⟨y,dk⟩:=uR iC 1 (by decide);have tH:ki [.int iC,.int 1]=.ok (.v (.int y)):=dk;obtain⟨m,hm,em⟩:=uV y (n:=6) (by decide);have Oa:(1:Int)+y%6=((m+1:Nat):Int):=by have:y%6=(m:Int):=em;omega
 have ex:∀k:Nat,∃c:Nat,(1≤c∧c≤4)∧(k<10→∃z:Int,ki [.int cp,.int (3+(k:Int))]=.ok (.v (.int z))∧1+z%4=(c:Int)):=fun k=>by
  by_cases aK:k<10
  ·obtain⟨z,qh⟩:=uR cp (3+k) (by omega);obtain⟨q,aP,eq⟩:=uV z (n:=4) (by decide);exact⟨1+q,by omega,fun _=>⟨z,by rw[←qh];simp,by have:z%4=(q:Int):=eq;omega⟩⟩
  ·exact⟨1,by omega,fun h=>absurd h aK⟩
 let tu:Nat→Nat:=fun k=>(ex k).choose
 have Nb:∀k,1≤tu k∧tu k≤4:=fun k=>(ex k).choose_spec.1;have Nc:∀k:Nat,k<10→∃z:Int,ki [.int cp,.int (3+(k:Int))]=.ok (.v (.int z))∧1+z%4=(tu k:Int):=fun k=>(ex k).choose_spec.2;simp(disch:=first|omega|(simp;done)|(simp;omega)) [uJ,Aj,N1,tH,Oa,-Int.natCast_add];refine wQ (m+1) (fun k=>.int (tu k:Int)) (by simp[show m+1<1000000 by omega,-Int.natCast_add]) (by omega) (fun k aK=>?_) ?_
 ·obtain⟨z,au,bE⟩:=Nc k (by omega);simp[eJ,au,bE]
 ·simp;refine⟨(adG (m+1)).map tu,⟨by simp,by simp;omega⟩,fun c ax=>?_,by simp[b9]⟩;obtain⟨k,_,rfl⟩:=List.mem_map.mp ax;exact Nb k
theorem AE{cs:List Nat}(h6:cs.length≤6)(gw:∀c∈cs,1≤c∧c≤4):sv [.lst (b9 cs)]=.ok (.o ((dz cs cs.length).map a0)):=by
 apply Ends.done;have lcs:(b9 cs).length=cs.length:=by simp[b9]
 simp(disch:=first|omega|(simp;done)|(simp;omega)) [sv,Ak];refine rQ cs.length (fun j ρ=>∃s2,ρ=[.ao (.lst (b9 cs)),.br ((dz cs j).map a0),s2]) (by simp[lcs,show cs.length<1000000 by omega]) ⟨.un,by simp[dz]⟩ ?_ ?_
 ·rintro j _ cU ⟨s5,rfl⟩;have bE:bk (.lst (b9 cs)) (.int (j:Int))=.ok (.int (cs.getD j 0:Nat)):=iI (tv cU);have xD:=A7 (fun c h=>(gw c h).2) j;simp;refine wQ (cs.getD j 0) (fun k=>a0 (j,k)) (by simp only[ac6]at bE xD;simp[bE,show cs[j]?.getD 0<1000000 by omega]) (by omega) (fun k aK=>by simp[a0]) ?_;have nL:=oz gw j;simp only[ac6]at xD ⊢;simp[show(dz cs j).length+cs[j]?.getD 0≤1000000 by omega];rw[wh];simp[hv]
 ·rintro _ ⟨s5,rfl⟩;simp
abbrev m8:=Int×aJ
def sC(p:m8):D:=.tup [.int p.1,a0 p.2]
def qO(p:m8):Int×Int×Int:=(p.1,(p.2.1:Int),(p.2.2:Int))
def vA(k:Int×Int×Int):m8:=(k.1,(k.2.1.toNat,k.2.2.toNat))
theorem K8(p:m8):vA (qO p)=p:=by simp[vA,qO]
theorem H8:∀aO:List m8,qy (aO.map sC)=some (aO.map qO)
 |[]=>rfl
 |p::aO=>by simp only[ac8,qy,H8 aO];rfl
theorem DE(aO:List m8)(h:aO.length<64):∃hq:List m8,hq.Perm aO∧vm [.lst (aO.map sC)]=.ok (hq.map sC):=by
 refine⟨(LT.mP (aO.map qO)).map vA,?_,?_⟩
 ·refine((LT.vo (aO.map qO)).map vA).trans ?_;rw[aeW,show vA∘qO=id from funext K8,List.map_id]
 ·have av:(aO.map sC).length<64:=by simpa using h
  simp only[vm,if_pos av,H8]
  congr 1
  rw[aeW];refine List.map_congr_left fun k aK=>?_;obtain⟨p,_,rfl⟩:=List.mem_map.mp ((LT.vo (aO.map qO)).mem_iff.mp aK);simp only[Function.comp,K8];rfl
noncomputable def pairUp(l:List aJ)(n:Nat):List (aJ×aJ):=(adG n).map fun k=>(l.getD (2*k) (0,0),l.getD (2*k+1) (0,0))
theorem F1(l:List aJ):∀n,2*n≤l.length→ends (pairUp l n)=l.take (2*n)
 |0,_=>by simp[pairUp,ends]
 |n+1,h=>by
  have cq:=F1 l n (by omega);have e:pairUp l (n+1)=pairUp l n++[(l.getD (2*n) (0,0),l.getD (2*n+1) (0,0))]:=by simp[pairUp,ahb]
  have au:ends (pairUp l n++[(l.getD (2*n) (0,0),l.getD (2*n+1) (0,0))])=ends (pairUp l n)++[l.getD (2*n) (0,0),l.getD (2*n+1) (0,0)]:=by simp[ends]
  have t1:l.take (2*n+1+1)=l.take (2*n)++[l[2*n],l[2*n+1]]:=by rw[aft,aft,acT (show 2*n<l.length by omega),acT (show 2*n+1<l.length by omega),afr];rfl
  rw[e,au,cq,show 2*(n+1)=2*n+1+1 by omega,t1];simp[acT (show 2*n<l.length by omega),acT (show 2*n+1<l.length by omega)]
theorem Yp(ns:List Int)(cs:List Nat)(h1:1≤cs.length)(h6:cs.length≤6)(gw:∀c∈cs,1≤c∧c≤4):∃ws,ie cs ws∧uO [.cu (ns.map D.int),.lst (b9 cs)]=.ok (.o (ws.map dC)):=by
 suffices h:Ends (uO [.cu (ns.map D.int),.lst (b9 cs)]) fun b=>∃ws,ie cs ws∧b=.o (ws.map dC)by
  obtain⟨b,e,ws,h,rfl⟩:=h;exact⟨ws,h,e⟩
 have Ma:1≤(dz cs cs.length).length:=agK (head_mem h1 gw);have Mb:=oz gw cs.length;have Ca:=zT cs cs.length;have out:=AE h6 gw;generalize Bc:dz cs cs.length=al at*;obtain⟨dO,au⟩:=ts ns 2;obtain⟨e3,bE⟩:=ts ns 3;have N4:hW [.cu (ns.map D.int),.int 2]=.ok (.v (.int dO)):=au;have tB:hW [.cu (ns.map D.int),.int 3]=.ok (.v (.int e3)):=bE;simp(disch:=first|omega|(simp;done)|(simp;omega)) [uO,Aq,out];refine rQ al.length (fun j ρ=>∃(aO:List m8)(s4:cJ),aO.map (·.2)=al.take j∧ρ=[.ao (.cu (ns.map D.int)),.ao (.lst (b9 cs)),.ao (.lst (al.map a0)),.br (aO.map sC),s4,.un,.un,.un]) (by simp(disch:=first|omega|(simp;done)|(simp;omega))) ⟨[],.un,rfl,rfl⟩ ?_ ?_
 ·rintro j _ cU ⟨aO,s4,a5,rfl⟩;have nM:aO.length=j:=by
   have:=congrArg List.length a5;simpa[Nat.min_eq_left (ae7 cU)]using this
  obtain⟨y,dk⟩:=uR (dO+(j:Int)*(j:Int)) (20+j) (by omega);have tH:ki [.int (dO+(j:Int)*(j:Int)),.int (20+(j:Int))]=.ok (.v (.int y)):=by rw[←dk];simp
  have e4:bk (.lst (al.map a0)) (.int (j:Int))=.ok (a0 al[j]):=iI (by simp[cU]);simp(disch:=first|omega|(simp;done)|(simp;omega)) [N4,tH,e4];refine⟨aO++[(y,al[j])],?_,by simp[sC]⟩;rw[aeU,a5,aft,acT cU];rfl
 ·rintro _ ⟨aO,s4,a5,rfl⟩;rw[List.take_length]at a5;have nM:aO.length=al.length:=by rw[←a5,adk]
  obtain⟨hq,aP,ah⟩:=DE aO (by omega);have aaz:hq.length=al.length:=by rw[aP.length_eq,nM]
  simp;refine wO (fun p:m8=>.int p.1) (fun p=>a0 p.2) hq (fun p=>a0 p.2) (by simp[ah];intros;rfl) (by omega) (fun p _=>by simp) ?_;have hd:(hq.map (·.2)).Perm al:=by rw[←a5];exact aP.map _
  have N8:hq.map (fun p=>a0 p.2)=(hq.map (·.2)).map a0:=by simp
  rw[N8];generalize xc:hq.map (·.2)=dl at hd;have aar:dl.length=al.length:=hd.length_eq;obtain⟨y,dk⟩:=uR e3 11 (by decide);have tH:ki [.int e3,.int 11]=.ok (.v (.int y)):=dk;have ZK:=aeV y (b:=((al.length:Int)-1)/2/3+1) (by omega);have ZL:=aeu y (b:=((al.length:Int)-1)/2/3+1) (by omega);generalize bP:((al.length:Int)-1)/2-y%(((al.length:Int)-1)/2/3+1)=v;have PN:0≤v∧2*v+1≤al.length:=by omega
  obtain⟨n,rfl⟩:=afg PN.1;simp(disch:=first|omega|(simp;done)|(simp;omega)) [tB,tH,bP];refine wQ n (fun k=>dC (dl.getD (2*k) (0,0),dl.getD (2*k+1) (0,0))) (by simp(disch:=first|omega|(simp;done)|(simp;omega))) (by omega) (fun k aK=>?_) ?_
  ·have a1:bk (.lst (dl.map a0)) (.int (2*(k:Int)))=.ok (a0 (dl.getD (2*k) (0,0))):=by
     have:=iI (xs:=dl.map a0) (k:=2*k) (d:=a0 (dl.getD (2*k) (0,0))) (by simp[show 2*k<dl.length by omega]);rw[←this];simp
   have a2:bk (.lst (dl.map a0)) (.int (2*(k:Int)+1))=.ok (a0 (dl.getD (2*k+1) (0,0))):=by have:=iI (xs:=dl.map a0) (k:=2*k+1) (d:=a0 (dl.getD (2*k+1) (0,0))) (by simp[show 2*k+1<dl.length by omega]);rw[←this];simp
   simp only[ac6]at a1 a2;simp[a1,a2,dC]
  ·have oI:=F1 dl n (by omega);have Tw:dl.Nodup:=hd.nodup_iff.mpr Ca;simp;refine⟨pairUp dl n,⟨h1,h6,gw,by rw[oI];exact Tw.sublist (List.take_sublist _ _),fun d i8=>?_,?_⟩,by simp[pairUp,dC]⟩
   ·rw[oI]at i8;rw[Bc];exact hd.mem_iff.mp (List.mem_of_mem_take i8)
   ·simp[pairUp];omega
def ot(c:Nat):Prop:=c=48∨c=49∨c=120
structure iB(x:Str):Prop where
 l:x.cps.toList.length=4
 s:∀c∈x.cps.toList,ot c
theorem WN{c:Nat}(h:ot c):inD true (jn c) rI=.ok (.aC true):=by rcases h with h|h|h<;>subst h<;>rfl
theorem len_str(x:Str)(h:x.cps.toList.length≤1000):dR [.str x]=.ok (.int (x.cps.toList.length:Int)):=by
 have e:x.length=x.cps.toList.length:=rfl;have au:x.length≤1000000:=by omega
 rw[←e];simp only[dR,if_pos au]
theorem Rk(x:Str):eB "str" (.str x)=.ok (.aC true):=rfl
theorem HW(l:List D):eB "list" (.lst l)=.ok (.aC true):=rfl
theorem Rl(l:List D):eB "tuple" (.tup l)=.ok (.aC true):=rfl
theorem Fu{α:Type}(f:α→Bool):∀l:List α,ni (l.map fun a=>D.aC (f a))=some (l.map f)
 |[]=>rfl
 |a::l=>by simp[ni,Fu f l]
theorem rz{α:Type}(f:α→Bool)(l:List α):bu.dz [.lst (l.map fun a=>D.aC (f a))]=.ok (.aC (l.all f)):=by simp[bu.dz,Fu,Function.comp_def]
theorem Ys:dR [oD]=.ok (.int 4):=rfl
theorem Jk{x:Str}(h:iB x):sq [.str x]=.ok (.v (.aC true)):=by apply Ends.done;have l:=h.l;simp[sq,Ac,Rk,len_str x (by omega),Ys,l];refine AL jn x.cps.toList (fun _=>.aC true) (by simp) (by omega) (fun c ax=>by simp[WN (h.s c ax)]) ?_;have a:=rz (fun _:Nat=>true) x.cps.toList;simp only[a];simp
theorem Va(y:Int):∃c,ot c∧bk (.str (PySem.Str.ofString "01xx")) (.int (y%4))=.ok (.str ⟨#[c]⟩):=by
 have h:y%4=0∨y%4=1∨y%4=2∨y%4=3:=by omega
 rcases h with h|h|h|h<;>rw[h]
 ·exact⟨48,.inl rfl,rfl⟩
 ·exact⟨49,.inr (.inl rfl),rfl⟩
 ·exact⟨120,.inr (.inr rfl),rfl⟩
 ·exact⟨120,.inr (.inr rfl),rfl⟩
theorem Mj{x y:Str}(h:x.length+y.length≤1000000):fy (.str x) (.str y)=.ok (.str (x++y)):=if_pos h
theorem Nm(x:Str)(c:Nat):(x++(⟨#[c]⟩:Str)).cps.toList=x.cps.toList++[c]:=by show(x.cps++ #[c]).toList=_;simp
theorem UD(y:Int):∃p,iB p∧uL [.int y]=.ok (.v (.str p)):=by
 suffices h:Ends (uL [.int y]) fun b=>∃p,iB p∧b=.v (.str p)by
  obtain⟨b,e,p,h,rfl⟩:=h;exact⟨p,h,e⟩
 simp[uL,Ao];refine rQ 4 (fun j ρ=>∃(z:Int)(x:Str)(s2:cJ),x.cps.toList.length=j∧(∀c∈x.cps.toList,ot c)∧ρ=[.ao (.int z),.ao (.str x),s2]) (by simp;exact VW 4 (by decide)) ⟨y,PySem.Str.ofString "",.un,by decide,(fun c h=>nomatch (show c∈([]:List Nat)from h)),rfl⟩ ?_ ?_
 ·rintro j _ cU ⟨z,x,s2,av,aD,rfl⟩;obtain⟨c,ax,e⟩:=Va z;have qA:x.length+(⟨#[c]⟩:Str).length≤1000000:=by
   have h1:x.length=x.cps.toList.length:=rfl;have h2:(⟨#[c]⟩:Str).length=1:=rfl;omega
  simp(disch:=first|omega|(simp;done)|(simp;omega)) [e,Mj qA];have ca:=Nm x c;refine⟨_,_,by rw[←afQ,ca];simp[av],fun d hd=>?_,rfl,rfl⟩;rw[←Array.mem_toList_iff,ca]at hd;rcases List.mem_append.mp hd with h|h
  ·exact aD d h
  ·rw[List.mem_singleton.mp h];exact ax
 ·rintro _ ⟨z,x,s2,av,aD,rfl⟩;simp;exact⟨av,aD⟩
structure c1 where
 p:Str
 a:Option Nat
 b:Option Nat
def ew:Option Nat→D
 |none=>.non
 |some k=>.int (k:Int)
def cY(r:c1):D:=.tup [.str r.p,ew r.a,ew r.b]
structure s9(c:Nat)(r:c1):Prop where
 p:iB r.p
 a:∀k,r.a=some k→k<c
 b:∀k,r.b=some k→k<c
theorem IZ{c:Nat}{o:Option Nat}(h:∀k,o=some k→k<c):o8 [ew o,.int (c:Int)]=.ok (.v (.aC true)):=by
 cases o with
 |none=>simp[o8,wq,ew,i_]
 |some k=>have:=h k rfl;simp[o8,wq,ew,i_,yW];omega
theorem VX{c:Nat}{p a b:D}{h1 h2 h3:Bool}(ae:sq [p]=.ok (.v (.aC h1)))(au:o8 [a,.int (c:Int)]=.ok (.v (.aC h2)))(bE:o8 [b,.int (c:Int)]=.ok (.v (.aC h3))):sr [.tup [p,a,b],.int (c:Int)]=.ok (.v (.aC (h1&&h2&&h3))):=by have gK:bk (.tup [p,a,b]) (.int 0)=.ok p:=rfl;have bB:bk (.tup [p,a,b]) (.int 1)=.ok a:=rfl;have bz:bk (.tup [p,a,b]) (.int 2)=.ok b:=rfl;cases h1<;>cases h2<;>cases h3<;>simp[sr,Ad,Rl,gK,bB,bz,ae,au,bE]
theorem VZ{c:Nat}{r:c1}(h:s9 c r):sr [cY r,.int (c:Int)]=.ok (.v (.aC true)):=VX (Jk h.p) (IZ h.a) (IZ h.b)
theorem VY(cell:Int)(k:Nat)(aK:k<900)(c:Nat)(ax:1≤c):∃r,s9 c r∧uN [.int cell,.int k,.int (c:Int)]=.ok (.v (cY r)):=by
 obtain⟨y,dk⟩:=uR cell k (by omega);obtain⟨p,a5,ek⟩:=UD y;obtain⟨bb,i9,eq1⟩:=uV (y/700) (n:=c) (by omega);obtain⟨bN,qs,eq2⟩:=uV (y/3000) (n:=c) (by omega);have hc:∃o:Option Nat,(∀k,o=some k→k<c)∧bk (.lst [.non,.int (bb:Int)]) (.int (y/256%2))=.ok (ew o):=by
  have h:y/256%2=0∨y/256%2=1:=by omega
  rcases h with h|h<;>rw[h]
  ·exact⟨none,(fun _ z=>nomatch z),rfl⟩
  ·exact⟨some bb,(fun k z=>by cases z;exact i9),rfl⟩
 have gp:∃o:Option Nat,(∀k,o=some k→k<c)∧bk (.lst [.int (bN:Int),.non]) (.int (if(y/20000%9==0)=true then 1 else 0))=.ok (ew o):=by
  cases h:(y/20000%9==0)
  ·exact⟨some bN,(fun k z=>by cases z;exact qs),rfl⟩
  ·exact⟨none,(fun _ z=>nomatch z),rfl⟩
 obtain⟨cQ,h1,bB⟩:=hc;obtain⟨cf,h2,bz⟩:=gp;refine⟨⟨p,cQ,cf⟩,⟨a5,h1,h2⟩,?_⟩;simp only[beq_iff_eq]at bz;simp(disch:=first|omega|(simp;done)|(simp;omega)) [uN,Ap,dk,eq1,eq2,bB,bz,ek,cY]
def cz(b:List c1):D:=.lst (b.map cY)
structure pO(c:Nat)(b:List c1):Prop where
 l:b.length≤12
 r:∀r∈b,s9 c r
theorem MK{c:Nat}{l:List D}{f:D→Bool}(av:l.length≤12)(h:∀d∈l,sr [d,.int (c:Int)]=.ok (.v (.aC (f d)))):sm [.lst l,.int (c:Int)]=.ok (.v (.aC (l.all f))):=by apply Ends.done;simp[sm,z_,HW,rH,show¬((12:Int)<l.length)by omega];refine AL id l (fun d=>.aC (f d)) (by simp) (by omega) (fun d hd=>by simp[h d hd]) ?_;have a:=rz f l;simp[a]
theorem MN{c:Nat}{b:List c1}(h:pO c b):sm [cz b,.int (c:Int)]=.ok (.v (.aC true)):=by
 have:=MK (c:=c) (l:=b.map cY) (f:=fun _=>true) (by simpa using h.l) fun d hd=>by obtain⟨r,ay,rfl⟩:=List.mem_map.mp hd;exact VZ (h.r r ay)
 unfold cz;rw[this];simp
noncomputable def cX(cs:List Nat)(ws:List (aJ×aJ)):D:=.ins "Net" ["many","counts","joined","far"] [.int (cs.length:Nat),.tup (b9 cs),.tup (ws.map dC),.bH (cx ws) (cR ws)]
theorem B4(cs:List Nat)(ws:List (aJ×aJ)):e5 "Net" "many" (cX cs ws)=.ok (.int (cs.length:Int)):=rfl
theorem FF(cs:List Nat)(ws:List (aJ×aJ)):e5 "Net" "counts" (cX cs ws)=.ok (.tup (b9 cs)):=rfl
theorem WD(cs:List Nat)(ws:List (aJ×aJ)):n7 "Net" "count" (cX cs ws)=.ok (cX cs ws):=rfl
theorem Nj{cs:List Nat}{ws:List (aJ×aJ)}{h:Nat}(bw:h<cs.length):xX [cX cs ws,.int (h:Int)]=.ok (.v (.int (cs.getD h 0:Nat))):=by have e:bk (.tup (b9 cs)) (.int (h:Int))=.ok (.int (cs.getD h 0:Nat)):=BK (tv bw);simp only[ac6]at e ⊢;simp[xX,z3,B4,FF,e,bw]
theorem MO{cs:List Nat}{ws:List (aJ×aJ)}{l:List D}{f:D×Nat→Bool}(av:l.length=cs.length)(h6:cs.length≤6)(h:∀p∈l.zipIdx,sm [p.1,.int (cs.getD p.2 0:Nat)]=.ok (.v (.aC (f p)))):qI [.lst l,cX cs ws]=.ok (.v (.aC (l.zipIdx.all f))):=by
 apply Ends.done;simp[qI,Aa,HW,B4,av];have iE:=wR id l;rw[List.map_id]at iE;refine wO (fun p:D×Nat=>.int (p.2:Int)) (fun p=>p.1) l.zipIdx (fun p=>.aC (f p)) (by simp only[Lb,yU,v_var,vB];simp[iE]) (by simp;omega) (fun p a5=>?_) ?_
 ·have:=(List.getElem?_eq_some_iff.mp (LZ a5)).1;have ax:=Nj (cs:=cs) (ws:=ws) (h:=p.2) (by omega);have J:=h p a5;simp only[ac6]at ax J;simp[WD,ax,J]
 ·have a:=rz f l.zipIdx;simp[a]
structure jy(cs:List Nat)(bs:List (List c1)):Prop where
 l:bs.length=cs.length
 b:∀(i:Nat) b,bs[i]?=some b→pO (cs.getD i 0) b
theorem MQ{cs:List Nat}{ws:List (aJ×aJ)}{bs:List (List c1)}(h6:cs.length≤6)(h:jy cs bs):qI [.lst (bs.map cz),cX cs ws]=.ok (.v (.aC true)):=by
 have:=MO (ws:=ws) (l:=bs.map cz) (f:=fun _=>true) (by simpa using h.l) h6 fun p a5=>by
  have e:=LZ a5;rw[ac4]at e;cases bx:bs[p.2]? with
  |none=>rw[bx]at e;cases e
  |some b=>rw[bx]at e;rw[←ac0 (show some (cz b)=some p.1 from e)];exact MN (h.b _ _ bx)
 rw[this];simp
def jR(b:List c1):T:=.lst (b.map fun r=>T.ao (cY r))
def ef(bs:List (List c1)):List T:=bs.map jR
theorem XF(b:List c1):toD (jR b)=cz b:=by
 have:∀l:List c1,js (l.map fun r=>T.ao (cY r))=l.map cY:=fun l=>by
  induction l with
  |nil=>simp[js]
  |cons r l cq=>simp[js,toD,cq]
 unfold jR cz;rw[toD,this]
theorem q8(bs:List (List c1)):toD (.lst (ef bs))=.lst (bs.map cz):=by
 have:∀l:List (List c1),js (l.map jR)=l.map cz:=fun l=>by
  induction l with
  |nil=>simp[js]
  |cons r l cq=>simp[js,XF,cq]
 unfold ef;rw[toD,this]
theorem jy.put{cs:List Nat}{bs:List (List c1)}(h:jy cs bs){k:Nat}{b:List c1}{r:c1}(e:bs[k]?=some b)(av:b.length<12)(ay:s9 (cs.getD k 0) r):jy cs (bs.set k (b++[r])):=by
 refine⟨by simpa using h.l,fun i x ex=>?_⟩;rw[agf]at ex;have aK:=(List.getElem?_eq_some_iff.mp e).1;by_cases q:k=i
 ·rw[if_pos q,if_pos aK]at ex;cases ex;subst q;refine⟨by simp;omega,fun x aA=>?_⟩;rcases List.mem_append.mp aA with aA|aA
  ·exact(h.b _ _ e).r x aA
  ·rw[List.mem_singleton.mp aA];exact ay
 ·rw[if_neg q]at ex;exact h.b _ _ ex
theorem G_{cs:List Nat}(h:∀c∈cs,1≤c∧c≤4){k:Nat}(aK:k<cs.length):1≤cs.getD k 0∧cs.getD k 0≤4:=by have:=h (cs[k]) (aeK _);simpa[aK]using this
theorem MP(zs:List Int)(bj:zs.length≤100)(cs:List Nat)(h1:1≤cs.length)(h6:cs.length≤6)(gw:∀c∈cs,1≤c∧c≤4):∃bs,jy cs bs∧uI [.lst (zs.map D.int),.lst (b9 cs)]=.ok (.t (.lst (ef bs))):=by
 suffices h:Ends (uI [.lst (zs.map D.int),.lst (b9 cs)]) fun b=>∃bs,jy cs bs∧b=.t (.lst (ef bs))by
  obtain⟨b,e,bs,h,rfl⟩:=h;exact⟨bs,h,e⟩
 have lcs:(b9 cs).length=cs.length:=by simp[b9]
 simp[uI,Ai];refine AO (fun c:Nat=>D.int (c:Int)) cs (fun _=>[]) (by simp[b9]) (by omega) (fun c _=>by simp) ?_;refine rP (fun p:Int×Nat=>.tup [.int (p.2:Int),.int p.1]) zs.zipIdx (fun _ ρ=>∃(bs:List (List c1))(s3 s4 s5:cJ),jy cs bs∧ρ=[.ao (.lst (zs.map D.int)),.ao (.lst (b9 cs)),.cy (.lst (ef bs)),s3,s4,s5]) (by simp[wR]) ⟨cs.map fun _=>[],.un,.un,.un,⟨by simp,fun i b e=>?_⟩,by simp[ef,jR,hU]⟩ ?_ ?_
 ·rw[ac4]at e;cases ec:cs[i]? with
  |none=>rw[ec]at e;cases e
  |some c=>rw[ec]at e;cases e;exact⟨by simp,fun r h=>nomatch h⟩
 ·rintro j ⟨z,xr⟩ _ cU ⟨bs,s3,s4,s5,ok,rfl⟩;obtain⟨ae,au⟩:=LY cU;simp only at ae au;subst ae;have aae:xr<zs.length:=(List.getElem?_eq_some_iff.mp au).1;obtain⟨k,aK,d4⟩:=uV (xr:Int) (n:=cs.length) (by omega);have Bp:k<bs.length:=by rw[ok.l];exact aK
  have bx:bs[k]?=some bs[k]:=acT Bp;have BJ:bk (.lst (bs.map cz)) (.int (k:Int))=.ok (cz bs[k]):=iI (by simp[Bp]);have jb:dR [cz bs[k]]=.ok (.int (bs[k].length:Int)):=by simp[cz]
  have H3:bk (.lst (b9 cs)) (.int (k:Int))=.ok (.int (cs.getD k 0:Nat)):=iI (tv aK);simp(disch:=first|omega|(simp;done)|(simp;omega)) [lcs,d4,q8,BJ,jb];by_cases av:bs[k].length<12
  ·obtain⟨r,ay,cb⟩:=VY z (31+xr) (by omega) (cs.getD k 0) (G_ gw aK).1;have F7:uN [.int z,.int (31+(xr:Int)),.int (cs.getD k 0:Nat)]=.ok (.v (cY r)):=by rw[←cb];simp
   have eK:(ef bs)[k]?=some (.lst (bs[k].map fun r=>T.ao (cY r))):=by simp[ef,Bp,jR]
   rw[if_pos (by omega),Ms eK (d:=cY r) (by simp only[ac6]at F7 H3;simp[H3,F7]) (by simp;omega)]
   simp;refine⟨bs.set k (bs[k]++[r]),ok.put bx av ay,?_⟩;simp[ef,jR,List.map_set]
  ·rw[if_neg (by omega)];simp;exact⟨bs,ok,rfl⟩
 ·rintro _ ⟨bs,s3,s4,s5,ok,rfl⟩;simp;exact⟨bs,ok,rfl⟩
@[simp] theorem abZ(m:aW)(ρ:ai):uu m ρ=(m ρ).bind ED:=(rfl)
@[simp] theorem abM(m n:aN)(ρ:ai):uj m n ρ=(m ρ).bind fun d=>match d with
  |.bH ks ds=>(n ρ).bind fun k=>match nG k with
   |some cA=>.ok ((findD ks ds cA).getD .non)
   |none=>.bad
  |_=>.bad:=(rfl)
@[simp] theorem Yd(e:aN)(ρ:ai):jd e ρ=(e (d5 ρ)).bind fun d=>.ok (.c_ d):=by unfold jd;rfl
@[simp] theorem X_(m:aN)(ma:aW)(ρ:ai):nS m ma ρ=(m ρ).bind fun d=>match d with
  |.lst ds=>(ma ρ).bind fun ah=>xo (.lst ds) ah
  |_=>.bad:=(rfl)
theorem EZ(i:Int):sl [.int i]=.ok (.v (.aC (decide (0≤i)&&decide (i≤15)))):=by simp[sl,z9,yW,rF]
def p6(a w:Nat):Nat:=48+a/w%2
def qi(p:Str)(a:Nat):Bool:=(p.cps.toList.zip [8,4,2,1]).all fun q=>decide (q.1=120∨q.1=p6 a q.2)
theorem Xe(b:Nat)(h:b=0∨b=1):sL [.int (b:Int)]=.ok (.str ⟨#[48+b]⟩):=by rcases h with rfl|rfl<;>rfl
theorem sign_eq(c d:Nat):bO (.str ⟨#[d]⟩) (jn c)=decide (c=d):=by show bO (.str ⟨#[d]⟩) (.str ⟨#[c]⟩)=_;simp only[bO];rw[aem,beq_iff_eq,decide_eq_true_iff];simp;exact eq_comm
theorem Ks:PySem.Str.ofString "x"=⟨#[120]⟩:=by decide
theorem Q4(c d:Nat):inD true (jn c) (.tup [.str (PySem.Str.ofString "x"),.str ⟨#[d]⟩])=.ok (.aC (decide (c=120∨c=d))):=by have o:okN 7 (jn c)=true:=rfl;have cQ:okN 7 (.str (PySem.Str.ofString "x"))=true:=rfl;have cf:okN 7 (.str ⟨#[d]⟩)=true:=rfl;have s:sF (.tup [.str (PySem.Str.ofString "x"),.str ⟨#[d]⟩])=some [.str (PySem.Str.ofString "x"),.str ⟨#[d]⟩]:=rfl;simp only[inD,s,o,cQ,cf,afd,List.all_nil,afe,and_self,if_true,aeE,List.any_nil,Bool.or_false];rw[Ks,sign_eq,sign_eq];simp
theorem OE{p:Str}(a5:iB p){a:Nat}(U:a<16):sk [.str p,.int (a:Int)]=.ok (.v (.aC (qi p a))):=by
 apply Ends.done;have l:=a5.l;simp[sk,z8,Jk a5,EZ,show(a:Int)≤15 by omega];refine wO (fun q:Nat×Nat=>jn q.1) (fun q=>.int (q.2:Int)) (p.cps.toList.zip [8,4,2,1]) (fun q=>.aC (decide (q.1=120∨q.1=p6 a q.2))) ?_ (by simp;omega) (fun q aP=>?_) ?_
 ·show R.ok (rl p.cps.toList [.int 8,.int 4,.int 2,.int 1])=_;unfold rl;rw[show([.int 8,.int 4,.int 2,.int 1]:List D)=([8,4,2,1]:List Nat).map fun(n:Nat)=>D.int (n:Int)from rfl,List.zip_map_right,aeW];rfl
 ·have hw:q.2=8∨q.2=4∨q.2=2∨q.2=1:=by
    have:=(afT (show(q.1,q.2)∈_ from aP)).2;simpa using this
  have jm:sL [.int ((a:Int)/(q.2:Int)%2)]=.ok (.str ⟨#[48+a/q.2%2]⟩):=by have:=Xe (a/q.2%2) (by omega);rw[←this];simp
  simp(disch:=first|omega|(simp;done)|(simp;omega)) [jm,Q4,p6];rw[aem];simp;exact decide_eq_true_iff.symm
 ·have al:=rz (fun q:Nat×Nat=>decide (q.1=120∨q.1=p6 a q.2)) (p.cps.toList.zip [8,4,2,1]);simp only[al];simp[qi]
def mt(d a:Nat)(r:c1):Bool:=(r.a.isNone||r.a==some d)&&qi r.p a
theorem Rh(o:Option Nat):i_ (ew o)=o.isNone:=by cases o<;>rfl
theorem Oj(o:Option Nat)(d:Nat):dM true (ew o) (.int (d:Int))=.ok (.aC (o==some d)):=by
 cases o with
 |none=>rfl
 |some k=>
  show R.ok (D.aC ((k:Int)==(d:Int)))=_
  congr 2
  rw[aem];simp;omega
theorem X9(mi:aW)(set:D→ai→R ai)(body:bf)(ρ:ai):e6 mi set body ρ=(mi ρ).bind fun ds=>f9 set body ds ρ:=(rfl)
noncomputable def iS(d a:Nat):Nat→List c1→Option Nat
 |_,[]=>none
 |i,r::rs=>if mt d a r=true then some i else iS d a (i+1) rs
theorem KY{d a:Nat}(U:a<16):∀(rs:List c1)(i:Nat)(s0 s3 s4:cJ),(∀r∈rs,iB r.p)→
  Ends ((f9 (gk [bY 3,bY 4]) (dn (nO (g5 (bS (aE (jK true) (aE bk (af 4) (aG (.int 1))) (aG .non))) (bS (aE (dM true) (aE bk (af 4) (aG (.int 1))) (af 1)))) (bS (cD 2 sk (ar (aE bk (af 4) (aG (.int 0))) (ar (af 2) (aF)))))) (c9 (af 3)) (du)) ((rs.zipIdx i).map fun p=>.tup [.int (p.2:Int),cY p.1]) [s0,.ao (.int (d:Int)),.ao (.int (a:Int)),s3,s4]).bind (pB (c9 (aG .non)))) (· =.c_ (ew (iS d a i rs)))
 |[],i,s0,s3,s4,_=>by simp[iS,ew]
 |r::rs,i,s0,s3,s4,h=>by
  have gK:bk (cY r) (.int 0)=.ok (.str r.p):=rfl;have bB:bk (cY r) (.int 1)=.ok (ew r.a):=rfl;have cq:=KY (d:=d) U rs (i+1) s0 (.ao (.int (i:Int))) (.ao (cY r)) fun x aA=>h x (ac7 _ aA);have f:=OE (h r adQ) U;have bd:(dn (nO (g5 (bS (aE (jK true) (aE bk (af 4) (aG (.int 1))) (aG .non))) (bS (aE (dM true) (aE bk (af 4) (aG (.int 1))) (af 1)))) (bS (cD 2 sk (ar (aE bk (af 4) (aG (.int 0))) (ar (af 2) (aF)))))) (c9 (af 3)) (du)) [s0,.ao (.int (d:Int)),.ao (.int (a:Int)),.ao (.int (i:Int)),.ao (cY r)]=if mt d a r=true then .ok (.c_ (.int (i:Int)))else .ok (.bL [s0,.ao (.int (d:Int)),.ao (.int (a:Int)),.ao (.int (i:Int)),.ao (cY r)]):=by unfold mt;have bb:=Rh r.a;have bN:=Oj r.a d;generalize r.a.isNone=gX at bb ⊢;generalize(r.a==some d)=fc at bN ⊢;generalize qi r.p a=Fd at f ⊢;cases gX<;>cases fc<;>cases Fd<;>simp[gK,bB,bb,bN,f]
  rw[afE,ac8,f9];simp only[WI,WE,WG,Yf,adf,aeb,dw];simp only[show(3:Nat)<0+1+1+1+1+1 by decide,if_true,dw,List.set_cons_succ,af5,adf,aeb,show(4:Nat)<0+1+1+1+1+1 by decide,bd];cases hm:mt d a r with
  |true=>simp[iS,hm,ew]
  |false=>simp only[adx,if_false,dw,iS,hm];exact cq
theorem Xz{b:List c1}(J:∀r∈b,iB r.p)(d a:Nat)(U:a<16):x4 [cz b,.int (d:Int),.int (a:Int)]=.ok (.v (ew (iS d a 0 b))):=by apply Ends.done;have e:qf [cz b]=.ok (b.zipIdx.map fun p=>.tup [.int (p.2:Int),cY p.1]):=wR cY b;have k:=KY (d:=d) U b 0 (.ao (cz b)) .un .un J;obtain⟨f,hf,rfl⟩:=k;simp only[x4,X8,As,D4,X9,Lb,yU,v_var,vB];have z:vf (hS 5 [cz b,.int (d:Int),.int (a:Int)])[0]?=.ok (cz b):=rfl;simp only[z,dw,e];have a_:hS 5 [cz b,.int (d:Int),.int (a:Int)]=[.ao (cz b),.ao (.int (d:Int)),.ao (.int (a:Int)),.un,.un]:=rfl;rw[a_,hf];simp
def st(s:String):D:=.str (PySem.Str.ofString s)
inductive On where
 |drop|out (o:Nat)|to (e:aJ)
def pairsOf(ws:List (aJ×aJ)):List (aJ×aJ):=ws.flatMap fun w=>[(w.1,w.2),(w.2,w.1)]
def i3(ws:List (aJ×aJ))(d:aJ):Option aJ:=((pairsOf ws).find? fun p=>decide (p.1=d)).map (·.2)
theorem zf:∀ws:List (aJ×aJ),(cx ws).zip (cR ws)=(pairsOf ws).map fun p=>(gg p.1,a0 p.2)
 |[]=>rfl
 |w::ws=>by
  have cq:=zf ws;have ae:cx (w::ws)=gg w.1::gg w.2::cx ws:=by simp[cx,ends]
  have au:cR (w::ws)=a0 w.2::a0 w.1::cR ws:=by simp[cR]
  have bE:pairsOf (w::ws)=(w.1,w.2)::(w.2,w.1)::pairsOf ws:=by simp[pairsOf]
  rw[ae,au,bE,aet,aet,cq];rfl
theorem OD(aO:List (aJ×aJ))(d:aJ):((aO.map fun p=>(gg p.1,a0 p.2)).find? fun p=>decide (p.1=gg d))=(aO.find? fun p=>decide (p.1=d)).map fun p=>(gg p.1,a0 p.2):=by
 induction aO with
 |nil=>rfl
 |cons p aO cq=>
  rw[ac8,ad0,ad0];by_cases h:p.1=d
  ·simp[h]
  ·have:gg p.1≠gg d:=fun z=>h (t9 z);simp[h,this,cq]
theorem G1(ws:List (aJ×aJ))(d:aJ):findD (cx ws) (cR ws) (gg d)=(i3 ws d).map a0:=by unfold findD i3;rw[zf,OD,Option.map_map,Option.map_map];rfl
theorem Fm{ws:List (aJ×aJ)}{d e:aJ}(h:i3 ws d=some e):e∈ends ws:=by
 unfold i3 at h;obtain⟨p,a5,rfl⟩:=Option.map_eq_some_iff.mp h;have hm:=List.mem_of_find?_eq_some a5;unfold pairsOf at hm;obtain⟨w,hw,bj⟩:=List.mem_flatMap.mp hm;have Hl:∀x,x=w.1∨x=w.2→x∈ends ws:=fun x aA=>List.mem_flatten.mpr ⟨[w.1,w.2],List.mem_map.mpr ⟨w,hw,rfl⟩,by simpa using aA⟩;simp only[aeG,ad7,or_false]at bj;rcases bj with rfl|rfl
 ·exact Hl _ (.inr rfl)
 ·exact Hl _ (.inl rfl)
theorem NP(ws:List (aJ×aJ))(d:aJ):eU true (a0 d) (.bH (cx ws) (cR ws))=.ok (.aC (i3 ws d).isSome):=by
 have h:(cx ws).any (fun x=>decide (x=gg d))=(i3 ws d).isSome:=by
  have bj:(cx ws)=((cx ws).zip (cR ws)).map (·.1):=by
   rw[zf,aeW];induction ws with
   |nil=>rfl
   |cons w ws cq=>simp[cx,ends,pairsOf]at cq ⊢;exact cq
  rw[bj,zf];unfold i3;induction pairsOf ws with
  |nil=>rfl
  |cons p aO cq=>
   simp only[ac8,aeE,ad0]at cq ⊢;by_cases bw:p.1=d
   ·simp[bw]
   ·have:gg p.1≠gg d:=fun z=>bw (t9 z);simp only[bw,this,decide_false,agi];exact cq
 show R.ok (D.aC ((cx ws).any fun x=>decide (x=gg d)))=_;rw[h]
noncomputable def jj(h:Nat):On→D
 |.drop=>.tup [st "drop",.int (h:Int)]
 |.out o=>.tup [st "out",.int (h:Int),.int (o:Int)]
 |.to e=>.tup [st "at",.int (e.1:Int),.int (e.2:Int)]
noncomputable def bL(ws:List (aJ×aJ))(b:List c1)(h d a:Nat):On:=match iS d a 0 b with
 |none=>.drop
 |some i=>match(b[i]?).bind (·.b)with
  |none=>.drop
  |some o=>match i3 ws (h,o)with
   |none=>.out o
   |some e=>.to e
theorem DU{d a:Nat}:∀(rs:List c1)(i k:Nat),iS d a i rs=some k→i≤k∧k<i+rs.length
 |[],_,_,h=>by simp[iS]at h
 |r::rs,i,k,h=>by
  simp only[iS]at h
  split at h
  ·cases h;simp
  ·have:=DU rs (i+1) k h;simp;omega
theorem GZ(cs:List Nat)(ws:List (aJ×aJ)):e5 "Net" "far" (cX cs ws)=.ok (.bH (cx ws) (cR ws)):=rfl
theorem Kc(cs:List Nat)(ws:List (aJ×aJ)):n7 "Net" "beyond" (cX cs ws)=.ok (cX cs ws):=rfl
theorem ME(cs:List Nat)(ws:List (aJ×aJ))(d:aJ):uD [cX cs ws,a0 d]=.ok (.v (((i3 ws d).map a0).getD .non)):=by simp[uD,z2,GZ,nH,G1]
theorem Uk{cs:List Nat}{ws:List (aJ×aJ)}{b:List c1}(J:∀r∈b,iB r.p)(h d a:Nat)(U:a<16):nW [cX cs ws,cz b,a0 (h,d),.int (a:Int)]=.ok (.v (jj h (bL ws b h d a))):=by
 have gK:bk (a0 (h,d)) (.int 0)=.ok (.int (h:Int)):=rfl;have bB:bk (a0 (h,d)) (.int 1)=.ok (.int (d:Int)):=rfl;have c4:=Xz J d a U;have tp:∀o:Nat,uD [cX cs ws,.tup [.int (h:Int),.int (o:Int)]]=.ok (.v (((i3 ws (h,o)).map a0).getD .non)):=fun o=>ME cs ws (h,o);have g7:i_ .non=true:=rfl;have dP:∀i,i_ (.int i)=false:=fun _=>rfl;unfold bL;cases e:iS d a 0 b with
 |none=>simp[nW,rE,gK,bB,c4,e,ew,g7,dP,jj,st]
 |some i=>
  have ak:=DU b 0 i e;have tR:i<b.length:=by omega
  have j_:bk (cz b) (.int (i:Int))=.ok (cY b[i]):=iI (by simp[tR]);have bz:bk (cY b[i]) (.int 2)=.ok (ew b[i].b):=rfl;simp only[acT tR,Option.bind_some];cases bx:b[i].b with
  |none=>simp[nW,rE,gK,bB,c4,e,ew,g7,dP,jj,st,j_,bz,bx]
  |some o=>
   have wB:=tp o;cases dk:i3 ws (h,o)with
   |none=>rw[dk]at wB;simp[nW,rE,gK,bB,c4,e,ew,g7,dP,jj,st,j_,bz,bx,Kc,wB,dk]
   |some f=>rw[dk]at wB;have f0:bk (a0 f) (.int 0)=.ok (.int (f.1:Int)):=rfl;have f1:bk (a0 f) (.int 1)=.ok (.int (f.2:Int)):=rfl;have kQ:i_ (a0 f)=false:=rfl;simp[nW,rE,gK,bB,c4,e,ew,g7,dP,jj,st,j_,bz,bx,Kc,wB,dk,f0,f1,kQ]
inductive hH where
 |drop (h:Nat)|out (h o:Nat)|ring (d:aJ)
noncomputable def walk(N:aJ→On):Nat→List aJ→aJ→Option (List aJ×hH)
 |0,_,_=>none
 |n+1,ds,d=>if d∈ds then some (ds,.ring d)else match N d with
  |.to e=>walk N n (ds++[d]) e
  |.drop=>some (ds++[d],.drop d.1)
  |.out o=>some (ds++[d],.out d.1 o)
theorem Ec{N:aJ→On}{A:List aJ}(i6:A.length<100)(cl:∀d∈A,∀e,N d=.to e→e∈A):∀(n:Nat)(ds:List aJ)(d:aJ),ds.Nodup→(∀x∈ds,x∈A)→d∈A→101≤n+ds.length→∃r,walk N n ds d=some r
 |0,ds,d,bI,jm,_,h=>by have:=List.Nodup.length_le_of_subset bI jm;omega
 |n+1,ds,d,bI,jm,hd,h=>by
  simp only[walk];by_cases hm:d∈ds
  ·rw[if_pos hm];exact⟨_,rfl⟩
  ·rw[if_neg hm];cases e:N d with
   |drop=>exact⟨_,rfl⟩
   |out o=>exact⟨_,rfl⟩
   |to f=>
    have x8:(ds++[d]).Nodup:=List.nodup_append.mpr ⟨bI,by simp,fun x aA y b8 z=>hm (by rw[←List.mem_singleton.mp b8,←z];exact aA)⟩;have Wd:∀x∈ds++[d],x∈A:=fun x aA=>by
     rcases List.mem_append.mp aA with h|h
     ·exact jm x h
     ·rw[List.mem_singleton.mp h];exact hd
    exact Ec i6 cl n (ds++[d]) f x8 Wd (cl d hd f e) (by simp;omega)
theorem AF(a b:aJ):bO (a0 a) (a0 b)=decide (a=b):=by
 show(((a.1:Int)==(b.1:Int))&&(((a.2:Int)==(b.2:Int))&&true))=_;rw[afe,aem,adm,beq_iff_eq,beq_iff_eq,decide_eq_true_iff];constructor
 ·intro⟨h1,h2⟩;exact Prod.ext (by omega) (by omega)
 ·rintro rfl;exact⟨rfl,rfl⟩
theorem AG(ds:List aJ):(ds.map a0).all (okN 7)=true:=by rw[af3,aeH];intro d _;rfl
theorem E5(ds:List aJ)(d:aJ):((ds.map a0).any fun y=>bO y (a0 d))=decide (d∈ds):=by
 rw[List.any_map,aem,List.any_eq_true,decide_eq_true_iff];constructor
 ·rintro⟨x,aA,h⟩;have:=(AF x d).symm.trans h;rw[decide_eq_true_iff]at this;rw[←this];exact aA
 ·intro h;exact⟨d,h,by show bO (a0 d) (a0 d)=true;rw[AF];simp⟩
theorem TX{m1 m2:aN}{ρ:ai}{ds:List aJ}{d:aJ}(h1:m1 ρ=.ok (a0 d))(h2:m2 ρ=.ok (.lst (ds.map a0))):bS (aE (inD false) m1 m2) ρ=.ok (!decide (d∈ds)):=by refine r9 (tm h1 h2 ?_);have s:sF (.lst (ds.map a0))=some (ds.map a0):=rfl;have o:okN 7 (a0 d)=true:=rfl;simp only[inD,s,AG,o,and_self,if_true,E5];rfl
def idx(ds:List aJ)(d:aJ):Nat:=(ds.findIdx? fun x=>decide (x=d)).getD 0
theorem HT{m1 m2:aN}{ρ:ai}{ds:List aJ}{d:aJ}(h2:m2 ρ=.ok (.lst (ds.map a0)))(h1:m1 ρ=.ok (a0 d))(hm:d∈ds)(av:ds.length<1000):nS m2 (ar m1 aF) ρ=.ok (.int (idx ds d:Nat)):=by
 have f:(ds.map a0).findIdx? (fun z=>bO z (a0 d))=ds.findIdx? (fun x=>decide (x=d)):=by
  rw[List.findIdx?_map]
  congr 1
  funext x
  exact AF x d
 have g:∃j,ds.findIdx? (fun x=>decide (x=d))=some j:=by
  cases e:ds.findIdx? (fun x=>decide (x=d))with
  |some j=>exact⟨j,rfl⟩
  |none=>exact absurd (List.findIdx?_eq_none_iff.mp e d hm) (by simp)
 obtain⟨j,g⟩:=g;have o:okN 7 (a0 d)=true:=rfl;have l:(ds.map a0).length<1000000:=by rw[adk];omega
 rw[nS,h2,fR];simp only[show ar m1 aF ρ=.ok [a0 d]by simp[h1],fR,xo,o,AG,l,and_self,if_true,f,g,idx,Option.getD_some]
noncomputable def jG(ds:List aJ):hH→D
 |.drop h=>.tup [st "drop",.int (h:Nat)]
 |.out h o=>.tup [st "out",.int (h:Nat),.int (o:Nat)]
 |.ring d=>.tup [st "ring",.int (idx ds d:Nat)]
def iw(r:List aJ×hH):D:=.tup [.lst (r.1.map a0),jG r.1 r.2]
@[simp] theorem Yc(i:Nat)(m:aN)(ρ:ai):qF i m ρ=(ownAt i ρ).bind fun ds=>(m ρ).bind fun d=>.ok (.fE (.tup [.lst (ds.map .ao),.ao d])):=(rfl)
@[simp] theorem X7(m:aN)(ρ:ai):o1 m ρ=(m (d5 ρ)).bind fun d=>if iP d=true∧iu ρ=true then .ok d else .bad:=(rfl)
def jS(r:List aJ×hH):T:=.tup [.lst ((r.1.map a0).map .ao),.ao (jG r.1 r.2)]
def yX:cL:=gM (bS (aE (inD false) (af 2) (af 4)))
noncomputable def vC:bf:=(bK (kM 4 (af 2))
    (bK (eQ 5 (cD 4 nW (ar (af 0) (ar (aE bk (af 1) (aE bk (af 2) (aG (.int 0)))) (ar (af 2) (ar (af 3) (aF)))))))
    (bK (dn (bS (aE (dM false) (aE bk (af 5) (aG (.int 0))) (aG (.str (PySem.Str.ofString "at"))))) (qF 4 (af 5)) (du))
    (eQ 2 (dK (ar (aE bk (af 5) (aG (.int 1))) (ar (aE bk (af 5) (aG (.int 2))) (aF))))))))
noncomputable def yY:bf:=(qF 4 (o1 (dK (ar (aG (.str (PySem.Str.ofString "ring"))) (ar (nS (af 4) (ar (af 2) (aF))) (aF))))))
noncomputable def lp(X Y:D)(d:aJ)(a:Nat)(ds:List aJ)(s5:cJ):ai:=[.ao X,.ao Y,.ao (a0 d),.ao (.int (a:Int)),.br (ds.map a0),s5]
theorem Lm(X Y:D)(d:aJ)(a:Nat)(ds:List aJ)(s5:cJ):yX (lp X Y d a ds s5)=.ok (!decide (d∈ds)):=TX rfl rfl
structure zp(cs:List Nat)(bs:List (List c1)):Prop where
 l:bs.length=cs.length
 p:∀b∈bs,∀r∈b,iB r.p
def iQ(ws:List (aJ×aJ))(bs:List (List c1))(a:Nat)(d:aJ):On:=bL ws (bs.getD d.1 []) d.1 d.2 a
theorem IS(s:String)(h:(PySem.Str.ofString s==PySem.Str.ofString "at")=false):dM false (st s) (.str (PySem.Str.ofString "at"))=.ok (.aC true):=by show R.ok (D.aC (!(PySem.Str.ofString s==PySem.Str.ofString "at")))=_;rw[h];rfl
theorem Yq{cs:List Nat}{ws:List (aJ×aJ)}{bs:List (List c1)}(J:zp cs bs){d:aJ}(hd:d.1<cs.length){a:Nat}(U:a<16)(ds:List aJ)(av:ds.length<1000)(s5:cJ) :
  vC (lp (cX cs ws) (.lst (bs.map cz)) d a ds s5)=match iQ ws bs a d with
   |.to e=>.ok (.bL (lp (cX cs ws) (.lst (bs.map cz)) e a (ds++[d]) (.ao (jj d.1 (.to e)))))
   |o=>.ok (.fE (.tup [.lst (((ds++[d]).map a0).map .ao),.ao (jj d.1 o)])):=by
 have gK:bk (a0 d) (.int 0)=.ok (.int (d.1:Int)):=rfl;have i8:d.1<bs.length:=by rw[J.l];exact hd
 have eg:bs.getD d.1 []=bs[d.1]:=by simp[i8]
 have j_:bk (.lst (bs.map cz)) (.int (d.1:Int))=.ok (cz (bs.getD d.1 [])):=by rw[eg];exact iI (by simp[i8])
 have on:=Uk (cs:=cs) (ws:=ws) (b:=bs.getD d.1 []) (fun r ay=>J.p bs[d.1] (aeK _) r (by rw[←eg];exact ay)) d.1 d.2 a U;have Ci:nW [cX cs ws,cz (bs.getD d.1 []),a0 d,.int (a:Int)]=.ok (.v (jj d.1 (iQ ws bs a d))):=on;have nL:(ds.map a0).length<1000000:=by simp;omega
 generalize bs.getD d.1 []=MD at*;generalize iQ ws bs a d=o at*;simp only[vC,lp];cases o with
 |drop=>have cI:bk (jj d.1 .drop) (.int 0)=.ok (st "drop"):=rfl;have n:=IS "drop" (by decide);simp(disch:=first|omega|(simp;done)|(simp;omega)) [gK,j_,Ci,cI,n]
 |out o=>have cI:bk (jj d.1 (.out o)) (.int 0)=.ok (st "out"):=rfl;have n:=IS "out" (by decide);simp(disch:=first|omega|(simp;done)|(simp;omega)) [gK,j_,Ci,cI,n]
 |to e=>have cI:bk (jj d.1 (.to e)) (.int 0)=.ok (st "at"):=rfl;have ae:bk (jj d.1 (.to e)) (.int 1)=.ok (.int (e.1:Int)):=rfl;have au:bk (jj d.1 (.to e)) (.int 2)=.ok (.int (e.2:Int)):=rfl;have n:dM false (st "at") (.str (PySem.Str.ofString "at"))=.ok (.aC false):=rfl;simp(disch:=first|omega|(simp;done)|(simp;omega)) [gK,j_,Ci,cI,ae,au,n];rfl
theorem Ln{cs:List Nat}{ws:List (aJ×aJ)}{bs:List (List c1)}(dB:ie cs ws)(J:zp cs bs){a:Nat}(U:a<16):∀(n:Nat)(ds:List aJ)(d:aJ)(s5:cJ)(r:List aJ×hH),(s5=.un∨∃x,s5=.ao x)→d.1<cs.length→ds.length+n<1001→walk (iQ ws bs a) n ds d=some r→
  (lY yX vC n (lp (cX cs ws) (.lst (bs.map cz)) d a ds s5)).bind (pB yY)=.ok (.fE (jS r))
 |0,ds,d,s5,r,_,_,_,h=>by simp[walk]at h
 |n+1,ds,d,s5,r,h5,hd,av,h=>by
  simp only[walk]at h;by_cases hm:d∈ds
  ·rw[if_pos hm]at h;obtain rfl:=ac0 h;rw[lY,Lm,dw,decide_eq_true hm];have i:=HT (m1:=af 2) (m2:=af 4) (ρ:=d5 (lp (cX cs ws) (.lst (bs.map cz)) d a ds s5)) (ds:=ds) (d:=d) rfl rfl hm (by omega);have v4:af 4 (d5 (lp (cX cs ws) (.lst (bs.map cz)) d a ds s5))=.ok (.lst (ds.map a0)):=rfl;simp only[agp,adx,if_false,dw,Km];have T1:ownAt 4 (lp (cX cs ws) (.lst (bs.map cz)) d a ds s5)=.ok (ds.map a0):=rfl;have ol:iu (lp (cX cs ws) (.lst (bs.map cz)) d a ds s5)=true:=by rcases h5 with rfl|⟨x,rfl⟩<;>rfl
   simp only[yY,Yc,X7,Yg,yU,vB,X6,i,T1,dw,vx,adf,aeb];simp[jS,jG,st,iP,jg,ol]
  ·rw[if_neg hm]at h;rw[lY,Lm,dw,decide_eq_false hm];have b:=Yq (ws:=ws) J hd U ds (by omega) s5;simp only[ac9,if_true,b];cases e:iQ ws bs a d with
   |drop=>rw[e]at h;obtain rfl:=ac0 h;simp[jS,jG,jj]
   |out o=>rw[e]at h;obtain rfl:=ac0 h;simp[jS,jG,jj]
   |to f=>
    rw[e]at h;simp only[dw];have hf:f∈ends ws:=by
     unfold iQ bL at e
     split at e
     ·cases e
     ·split at e
      ·cases e
      ·split at e
       ·cases e
       ·rename_i dk;cases e;exact Fm dk
    exact Ln dB J U n (ds++[d]) f _ r (.inr ⟨_,rfl⟩) (pa.mp (dB.sub f hf)).1 (by simp;omega) h
theorem Cd{cs:List Nat}{ws:List (aJ×aJ)}{bs:List (List c1)}{a:Nat}(dB:ie cs ws){d f:aJ}(e:iQ ws bs a d=.to f):f∈dz cs cs.length:=by
 unfold iQ bL at e
 split at e
 ·cases e
 ·split at e
  ·cases e
  ·split at e
   ·cases e
   ·rename_i dk;cases e;exact dB.sub _ (Fm dk)
theorem Ym{cs:List Nat}{ws:List (aJ×aJ)}{bs:List (List c1)}(dB:ie cs ws)(J:zp cs bs){a:Nat}(U:a<16){d:aJ}(hd:d∈dz cs cs.length):∃r,walk (iQ ws bs a) 1000 [] d=some r∧uP [cX cs ws,.lst (bs.map cz),a0 d,.int (a:Int)]=.ok (.t (jS r)):=by have i6:=oz dB.c cs.length;have h6:=dB.h6;obtain⟨r,ay⟩:=Ec (N:=iQ ws bs a) (A:=dz cs cs.length) (by omega) (fun d _ e he=>Cd dB he) 1000 [] d af8 (by simp) hd (by simp);refine⟨r,ay,?_⟩;have k:=Ln dB J U 1000 [] d .un r (.inl rfl) (pa.mp hd).1 (by simp) ay;have z:uP [cX cs ws,.lst (bs.map cz),a0 d,.int (a:Int)]=(bK (gB 4 (fX aF)) (bK (o7 yX vC) yY) [.ao (cX cs ws),.ao (.lst (bs.map cz)),.ao (a0 d),.ao (.int (a:Int)),.un,.un]).bind outD:=rfl;rw[z];simp only[D4,Ye,Yb,vB,dw];have Sv:lim []=.ok []:=rfl;simp only[Sv,dw];have a_:(o7 yX vC (lp (cX cs ws) (.lst (bs.map cz)) d a [] .un)).bind (pB yY)=.ok (.fE (jS r)):=k;have h_:([.ao (cX cs ws),.ao (.lst (bs.map cz)),.ao (a0 d),.ao (.int (a:Int)),.un,.un]:ai).set 4 (.br [])=lp (cX cs ws) (.lst (bs.map cz)) d a [] .un:=rfl;simp only[show(4:Nat)<([.ao (cX cs ws),.ao (.lst (bs.map cz)),.ao (a0 d),.ao (.int (a:Int)),.un,.un]:ai).length from(by simp),if_true,dw,Km,D4,h_,a_];rfl
@[simp] theorem ace(m:cL)(ρ:ai):qP m ρ=eF (m ρ):=(rfl)
@[simp] theorem acb(m:aW)(ρ:ai):u0 m ρ=eF (m ρ):=(rfl)
@[simp] theorem acd(m:bf)(ρ:ai):u1 m ρ=eF (m ρ):=(rfl)
@[simp] theorem IV{α:Type}(a:α):eF (R.ok a)=.ok a:=(rfl)
@[simp] theorem acq(c:Str)(ρ:ai):uy c ρ=.exc c:=(rfl)
@[simp] theorem abP(m:aN)(ρ:ai):um m ρ=(m ρ).bind fun _=>.ok (.bL ρ):=(rfl)
theorem WC(cs:List Nat)(ws:List (aJ×aJ)):n7 "Net" "is_door" (cX cs ws)=.ok (cX cs ws):=rfl
theorem WB(cs:List Nat)(ws:List (aJ×aJ)):n7 "Net" "is_outer" (cX cs ws)=.ok (cX cs ws):=rfl
theorem Ri(cs:List Nat)(ws:List (aJ×aJ))(x:D){b:Bool}(h:qJ [.tup (b9 cs),x]=.ok (.v (.aC b))):xY [cX cs ws,x]=.ok (.v (.aC b)):=by simp[xY,z4,FF,h]
theorem wI(ws:List (aJ×aJ))(d:aJ):eU false (a0 d) (.bH (cx ws) (cR ws))=.ok (.aC (!decide (d∈ends ws))):=by simp only[eU,nH,ks_any];rfl
theorem Uv{cs:List Nat}(ws:List (aJ×aJ)){d:aJ}(h:d∈dz cs cs.length):uE [cX cs ws,a0 d]=.ok (.v (.aC (!decide (d∈ends ws)))):=by simp[uE,z5,WC,Ri cs ws _ (AB h),GZ,wI]
theorem VQ{cs:List Nat}{ws:List (aJ×aJ)}{B:D}{b:Bool}(h:qI [B,cX cs ws]=.ok (.v (.aC b))):x3 [B,cX cs ws]=if b=true then .ok (.v .non)else .exc "NoBooks":=by
 cases b<;>simp[x3,Ar,h]
 rfl
@[simp] theorem acx(m:gU)(ρ:ai):mH m ρ=(m ρ).bind fun t=>.ok (.fE t):=(rfl)
@[simp] theorem abD(n:Nat)(mf:List D→R bT)(m:aW)(ρ:ai):uh n mf m ρ=(m ρ).bind fun ds=>if ds.length=n then(mf ds).bind vg else .bad:=(rfl)
@[simp] theorem aaY(t:T):vg (.t t)=.ok t:=(rfl)
@[simp] theorem aaO(t:T):outD (.fE t)=.ok (.t t):=(rfl)
theorem Yn{cs:List Nat}{ws:List (aJ×aJ)}{B x y:D}{t:T}(h1:qI [B,cX cs ws]=.ok (.v (.aC true)))(h2:uE [cX cs ws,x]=.ok (.v (.aC true)))(h3:sl [y]=.ok (.v (.aC true)))(h4:uP [cX cs ws,B,x,y]=.ok (.t t)) :
  qL [cX cs ws,B,x,y]=.ok (.t t):=by
 have r:=VQ h1;simp at r;simp[qL,Au,r,WB,h2,h3,h4]
@[simp] theorem abC(i n:Nat)(mf:List D→List D→R (D×List D))(m:aW)(ρ:ai):jc i n mf m ρ=(ownAt i ρ).bind fun ds=>(m ρ).bind fun ah=>if ah.length=n then(eF (mf ds ah)).bind fun x=>.ok (x.1,ρ.set i (.br x.2))else .bad:=(rfl)
theorem oG(n k:Int)(h1:0<k)(h2:k<1000):kh [.int n] [.int k]=.ok (.int (n%k),[.int (n/k)]):=by have hm:0<k∧pP n k:=⟨h1,h1,by omega⟩;simp only[kh,uQ,if_pos hm]
@[simp] theorem Ya(m:aN)(ρ:ai):lf m ρ=(m ρ).bind fun d=>.ok (d,ρ):=(rfl)
@[simp] theorem abu(f:D→D→R D)(a b:c6)(ρ:ai):lL f a b ρ=(a ρ).bind fun x=>(b x.2).bind fun y=>(f x.1 y.1).bind fun d=>.ok (d,y.2):=(rfl)
@[simp] theorem ab1(s:Str)(m:fK)(ρ:ai):xS s m ρ=(m ρ).bind fun x=>(xt s x.1).bind fun d=>.ok (d,x.2):=(rfl)
@[simp] theorem acm(i:Nat)(m:c6)(ρ:ai):sg i m ρ=(ownAt i ρ).bind fun _=>(m ρ).bind fun x=>(ownAt i x.2).bind fun ds=>va i ds x.2 x.1:=by unfold sg;simp
@[simp] theorem acu(m:c6)(ρ:ai):uz m ρ=(m ρ).bind fun x=>.ok (.c_ x.1):=(rfl)
@[simp] theorem acp(m:fK)(ρ:ai):qE m ρ=(m ρ).bind fun x=>(ps x.1).bind fun ds=>.ok (ds,x.2):=(rfl)
@[simp] theorem abw(m:aW)(ρ:ai):ug m ρ=(m (d5 ρ)).bind fun ds=>if jg ds=true∧iu ρ=true then .ok ds else .bad:=(rfl)
theorem AP{β:Type}{mi:fK}{set:D→ai→R ai}{body:bf}{ρ ρ1:ai}{k:ez→R β}{T:β→Prop}(n:Nat)(I:Nat→ai→Prop)(ak:mi ρ=.ok (gN 0 n,ρ1))(h0:I 0 ρ1)(st:∀(j:Nat) ρ,j<n→I j ρ→Ends ((set (.int (j:Int)) ρ).bind body) (m_ (I (j+1))))(fin:∀ρ',I n ρ'→Ends (k (.bL ρ')) T):Ends ((nQ mi set body ρ).bind k) T:=by
 have z:nQ mi set body ρ=e6 (fun _=>.ok (gN 0 n)) set body ρ1:=by unfold nQ;rw[ak];rfl
 rw[z];exact rQ n I rfl h0 st fin
theorem AM{β α:Type}{mi:aW}{elt:c6}{j:Nat}{ρ:ai}{k:D×ai→R β}{T:β→Prop}(g:α→D)(xs:List α)(dd:List D)(cC:Nat→List D→List D→Prop)(aH:ownAt j ρ=.ok dd)(ak:mi ρ=.ok (xs.map g))(av:xs.length≤1000)(h0:cC 0 [] dd)(st:∀(i:Nat) a ws dd,xs[i]?=some a→cC i ws dd→Ends (elt [.ao (g a),.br dd]) fun y=>∃s hi,y.2=[.ao s,.br hi]∧cC (i+1) (ws++[y.1]) hi)(fin:∀ws dd,cC xs.length ws dd→Ends (k (.lst ws,ρ.set j (.br dd))) T):Ends ((mF j mi elt ρ).bind k) T:=by
 have go:∀(ys:List α)(i:Nat)(ws dd:List D),i+ys.length≤1000→ws.length=i→(∀m a,ys[m]?=some a→xs[i+m]?=some a)→cC i ws dd→∃yZ hi,nk elt (ys.map g) dd ws=.ok (yZ,hi)∧cC (i+ys.length) yZ hi:=by
  intro ys;induction ys with
  |nil=>intro i ws dd _ _ _ h;exact⟨ws,dd,rfl,by simpa using h⟩
  |cons a ys cq=>intro i ws dd av hw aA h;obtain⟨⟨d,ρ'⟩,e,s,hi,au,h'⟩:=st i a ws dd (by simpa using aA 0 a rfl) h;simp only at au h';subst au;obtain⟨yZ,rN,bE,h3⟩:=cq (i+1) (ws++[d]) hi (by simp at av;omega) (by simp[hw]) (fun m b hm=>by have:=aA (m+1) b (by simpa using hm);rw[←this];congr 1;omega) h';refine⟨yZ,rN,?_,by rw[adf,show i+(ys.length+1)=i+1+ys.length by omega];exact h3⟩;rw[ac8,nk,e];simp only[dw];rw[if_pos (by simp at av;omega)];exact bE
 obtain⟨ws,hi,e,h⟩:=go xs 0 [] dd (by omega) rfl (fun m a h=>by rw[ae9];exact h) h0;rw[ae9]at h;have z:mF j mi elt ρ=.ok (.lst ws,ρ.set j (.br hi)):=by unfold mF;rw[aH,dw,ak,dw,e];rfl
 rw[z,dw];exact fin ws hi h
theorem ints_snoc(cs:List Nat)(c:Nat):b9 cs++[.int (c:Int)]=b9 (cs++[c]):=by simp[b9]
theorem Od(ws:List (aJ×aJ))(a b:aJ):ends (ws++[(a,b)])=ends ws++[a,b]:=by simp[ends]
theorem TM(al:List aJ):jg (al.map a0)=true:=by
 induction al with
 |nil=>rfl
 |cons a al cq=>simp only[ac8,jg,cq,afe];rfl
theorem Tz(n:Int):∃cs ws,ie cs ws∧uK [.int n] []=.ok (.v (.tup [.lst (b9 cs),.lst (ws.map dC)])):=by
 suffices h:Ends (uK [.int n] []) fun b=>∃cs ws,ie cs ws∧b=.v (.tup [.lst (b9 cs),.lst (ws.map dC)])by
  obtain⟨b,e,cs,ws,h,rfl⟩:=h;exact⟨cs,ws,h,e⟩
 have cI:uK [.int n] []=(wy [.br [.int n],.un,.un,.un,.un,.un,.un]).bind outD:=rfl;rw[cI];obtain⟨RC,h6,aaq⟩:∃k:Nat,1+n%6=(k:Int)∧1≤k∧k≤6:=⟨(1+n%6).toNat,by omega,by omega,by omega⟩;simp(disch:=first|omega|(simp;done)|(simp;omega)) [wy];refine AP (ρ1:=[.br [.int (n/6)],.br [],.un,.un,.un,.un,.un]) RC (fun j ρ=>∃(cs:List Nat)(m:Int)(s2:cJ),cs.length=j∧(∀c∈cs,1≤c∧c≤4)∧(s2=.un∨∃x,s2=.ao x)∧ρ=[.br [.int m],.br (b9 cs),s2,.un,.un,.un,.un]) (by simp(disch:=first|omega|(simp;done)|(simp;omega)) [oG,h6]) ⟨[],_,_,rfl,by simp,.inl rfl,rfl⟩ ?_ ?_
 ·rintro j _ cU ⟨cs,m,s2,lc,gw,aD,rfl⟩;obtain⟨c,ax,l⟩:∃c:Nat,1+m%4=(c:Int)∧1≤c∧c≤4:=⟨(1+m%4).toNat,by omega,by omega,by omega⟩;have av:(b9 cs).length<1000000:=by simp[b9];omega
  simp(disch:=first|omega|(simp;done)|(simp;omega)) [oG,ax];refine⟨cs++[c],by simp[lc],fun d hd=>?_,_,_,⟨_,rfl⟩,rfl,ints_snoc cs c,rfl⟩;rcases List.mem_append.mp hd with hd|hd
  ·exact gw d hd
  ·rw[List.mem_singleton.mp hd];exact l
 ·rintro _ ⟨cs,m,s2,lc,gw,aD,rfl⟩;have Hc:cs.length≤6:=by omega
  have cO:1≤cs.length:=by omega
  have NT:=AE Hc gw;have Ma:1≤(dz cs cs.length).length:=agK (head_mem cO gw);have Mb:=oz gw cs.length;have Ca:=zT cs cs.length;generalize Bc:dz cs cs.length=al at*;have ol:iu [cJ.br [D.int m],cJ.br (b9 cs),s2,cJ.un,cJ.un,cJ.un,cJ.un]=true:=by rcases aD with rfl|⟨x,rfl⟩<;>rfl
  simp(disch:=first|omega|(simp;done)|(simp;omega)) [NT,ol,TM];obtain⟨y,b8,BY⟩:∃k:Nat,m%((al.length:Int)/2+1)=(k:Int)∧2*k≤al.length:=by have dr:=aeV m (b:=(al.length:Int)/2+1) (by omega);have cj:=aeu m (b:=(al.length:Int)/2+1) (by omega);exact⟨(m%((al.length:Int)/2+1)).toNat,by omega,by omega⟩
  refine AP (ρ1:=[.br [.int (m/((al.length:Int)/2+1))],.br (b9 cs),s2,.br (al.map a0),.br [],.un,.un]) y (fun j ρ=>∃(ws:List (aJ×aJ))(dl:List aJ)(m:Int)(s5 gD:cJ),ws.length=j∧(ends ws++dl).Perm al∧ρ=[.br [.int m],.br (b9 cs),s2,.br (dl.map a0),.br (ws.map dC),s5,gD]) (by simp(disch:=first|omega|(simp;done)|(simp;omega)) [oG,b8]) ⟨[],al,_,_,_,rfl,by simp[ends],rfl⟩ ?_ ?_
  ·rintro j _ cU ⟨ws,dl,m,s5,gD,lw,pm,rfl⟩;have ld:2*j+dl.length=al.length:=by
    have:=pm.length_eq;rw[adA,AQ,lw]at this;exact this
   obtain⟨d8,PR,BZ⟩:∃k:Nat,m%(dl.length:Int)=(k:Int)∧k<dl.length:=by have dr:=aeV m (b:=(dl.length:Int)) (by omega);have cj:=aeu m (b:=(dl.length:Int)) (by omega);exact⟨(m%(dl.length:Int)).toNat,by omega,by omega⟩
   have le:(dl.eraseIdx d8).length=dl.length-1:=by rw[List.length_eraseIdx,if_pos BZ]
   obtain⟨ff,PS,Iz⟩:∃k:Nat,m/(dl.length:Int)%((dl.eraseIdx d8).length:Int)=(k:Int)∧k<(dl.eraseIdx d8).length:=by have dr:=aeV (m/(dl.length:Int)) (b:=((dl.eraseIdx d8).length:Int)) (by omega);have cj:=aeu (m/(dl.length:Int)) (b:=((dl.eraseIdx d8).length:Int)) (by omega);exact⟨(m/(dl.length:Int)%((dl.eraseIdx d8).length:Int)).toNat,by omega,by omega⟩
   have Vc:=fun ρ=>JA a0 (i:=3) BZ (by omega) ρ;have Vd:=fun ρ=>JA a0 (i:=3) Iz (by omega) ρ;simp(disch:=first|omega|(simp;done)|(simp;omega)) [oG,PR,Vc,PS,Vd];refine⟨ws++[(dl[d8],(dl.eraseIdx d8)[ff])],by simp[lw],(dl.eraseIdx d8).eraseIdx ff,?_,rfl,by simp[dC]⟩;rw[Od,afr];refine .trans (.append_left _ ?_) pm;exact((AW _ ff Iz).cons _).trans (AW dl d8 BZ)
  ·rintro _ ⟨ws,dl,m,s5,gD,lw,pm,rfl⟩;simp;have bI:=pm.nodup_iff.mpr Ca;exact⟨cs,ws,⟨cO,Hc,gw,(List.nodup_append.mp bI).1,fun d hd=>by rw[Bc];exact pm.mem_iff.mp (aeg _ hd),by omega⟩,rfl,rfl⟩
noncomputable def Ju(i k:Nat)(x:D×ai):Option cJ→R (D×ai)
 |some (.ob (.lst eV))=>.ok (x.1,x.2.set i (.dg k (.lst (eV.map .ao))))
 |_=>.bad
@[simp] theorem acj(m:c6)(d:D)(ρ:ai):nT 0 m (.dg 0 (.lst [.ao d])::ρ)=(m (.br [d]::ρ)).bind fun x=>Ju 0 0 x x.2[0]?:=by unfold nT;simp only[agq,jT,afZ,af5];rfl
@[simp] theorem aaT(i k:Nat)(x:D×ai)(ds:List D):Ju i k x (some (.ob (.lst ds)))=.ok (x.1,x.2.set i (.dg k (.lst (ds.map .ao)))):=(rfl)
theorem U_(n:Int):∃c,ot c∧bk (.str (PySem.Str.ofString "01x")) (.int (n%3))=.ok (.str ⟨#[c]⟩):=by
 have h:n%3=0∨n%3=1∨n%3=2:=by omega
 rcases h with h|h|h<;>rw[h]
 ·exact⟨48,.inl rfl,rfl⟩
 ·exact⟨49,.inr (.inl rfl),rfl⟩
 ·exact⟨120,.inr (.inr rfl),rfl⟩
def AA(c:Nat):List D:=.non::(adG c).map fun(k:Nat)=>.int (k:Int)
theorem Jw(n:Int)(c:Nat)(ax:c≤4):∃o:Option Nat,(∀k,o=some k→k<c)∧bk (.lst (AA c)) (.int (n%((c:Int)+1)))=.ok (ew o):=by
 have dr:=aeV n (b:=(c:Int)+1) (by omega);have cj:=aeu n (b:=(c:Int)+1) (by omega);obtain⟨y,b8⟩:=afg dr;rw[b8]at cj ⊢;cases y with
 |zero=>exact⟨none,by simp,iI rfl⟩
 |succ y=>exact⟨some y,by rintro k ⟨⟩;omega,iI (by simp[AA,show y<c by omega,ew])⟩
theorem Ry(a b c d:Nat):xt (PySem.Str.ofString "") [.lst [.str ⟨#[a]⟩,.str ⟨#[b]⟩,.str ⟨#[c]⟩,.str ⟨#[d]⟩]]=.ok (.str ⟨#[a,b,c,d]⟩):=rfl
@[simp] theorem acw(i:Nat)(ρ:ai):xV i ρ=match ρ[i]? with
  |some (.ob o)=>.ok (.rs (ji o) (ρ.set i (.ao (ji o))))
  |_=>.bad:=(rfl)
theorem Nf(c:Nat)(ax:c≤4):fy (.lst [.non]) (.lst (gN 0 c))=.ok (.lst (AA c)):=by
 have:c=0∨c=1∨c=2∨c=3∨c=4:=by omega
 rcases this with rfl|rfl|rfl|rfl|rfl<;>rfl
theorem ML(n:Int)(c:Nat)(h1:1≤c)(h4:c≤4):∃(b:List c1)(lN:Int),pO c b∧uH [.int n] [.int (c:Int)]=.ok (cz b,[.int lN]):=by
 suffices h:Ends (uH [.int n] [.int (c:Int)]) fun x=>∃(b:List c1)(lN:Int),pO c b∧x=(cz b,[.int lN])by
  obtain⟨x,e,b,lN,h,rfl⟩:=h;exact⟨b,lN,h,e⟩
 have cI:uH [.int n] [.int (c:Int)]=(wu [.dg 0 (.lst [.ao (.int n)]),.ao (.int (c:Int)),.un,.un,.un,.un]).bind Cm:=rfl;rw[cI];obtain⟨y,b8,BY⟩:∃k:Nat,n%13=(k:Int)∧k≤12:=⟨(n%13).toNat,by omega,by omega⟩;simp(disch:=first|omega|(simp;done)|(simp;omega)) [wu];refine AP (ρ1:=[.dg 0 (.lst [.ao (.int (n/13))]),.ao (.int (c:Int)),.br [],.un,.un,.un]) y (fun j ρ=>∃(b:List c1)(m:Int)(s3 s4 s5:cJ),b.length=j∧(∀r∈b,s9 c r)∧ρ=[.dg 0 (.lst [.ao (.int m)]),.ao (.int (c:Int)),.br (b.map cY),s3,s4,s5]) ?_ ⟨[],_,_,_,_,rfl,by simp,rfl⟩ ?_ ?_
 ·simp(disch:=first|omega|(simp;done)|(simp;omega)) [oG,b8]
 ·rintro j _ cU ⟨b,m,s3,s4,s5,jb,J,rfl⟩;simp(disch:=first|omega|(simp;done)|(simp;omega)) [];refine AM (fun(i:Nat)=>D.int (i:Int)) (adG 4) [.int m] (fun i ws dd=>∃(cs:List Nat)(m:Int),cs.length=i∧(∀c∈cs,ot c)∧ws=cs.map (fun c=>.str ⟨#[c]⟩)∧dd=[.int m]) rfl rfl (by simp) ⟨[],m,rfl,by simp,rfl,rfl⟩ ?_ ?_
  ·rintro i a _ _ _ ⟨cs,m,lc,ax,rfl,rfl⟩;obtain⟨c,sc,ec⟩:=U_ m;refine⟨(.str ⟨#[c]⟩,[.ao (.int (a:Int)),.br [.int (m/3)]]),by simp(disch:=first|omega|(simp;done)|(simp;omega)) [oG,ec],_,_,rfl,cs++[c],m/3,by simp[lc],fun x aA=>?_,by simp,rfl⟩;rcases List.mem_append.mp aA with aA|aA
   ·exact ax x aA
   ·rw[List.mem_singleton.mp aA];exact sc
  ·rintro _ _ ⟨cs,m,lc,ax,rfl,rfl⟩;obtain⟨a1,a2,d3,gH,rfl⟩:∃a b c d,cs=[a,b,c,d]:=by
    match cs,lc with
    |[a,b,c,d],_=>exact⟨a,b,c,d,rfl⟩
   have a5:iB ⟨#[a1,a2,d3,gH]⟩:=⟨rfl,ax⟩;obtain⟨cQ,Ht,Og⟩:=Jw m c h4;obtain⟨cf,lD,Oh⟩:=Jw (m/((c:Int)+1)) c h4;have oX:qB [.int (c:Int)]=.ok (gN 0 c):=by
    have:c=0∨c=1∨c=2∨c=3∨c=4:=by omega
    rcases this with rfl|rfl|rfl|rfl|rfl<;>rfl
   simp(disch:=first|omega|(simp;done)|(simp;omega)) [oG,Ry,Nf c h4,oX,Og,Oh];refine⟨b++[⟨⟨#[a1,a2,d3,gH]⟩,cQ,cf⟩],by simp[jb],fun r ay=>?_,by simp[cY]⟩;rcases List.mem_append.mp ay with ay|ay
   ·exact J r ay
   ·rw[List.mem_singleton.mp ay];exact⟨a5,Ht,lD⟩
 ·rintro _ ⟨b,m,s3,s4,s5,jb,J,rfl⟩;simp[Cm,u6,jT,ji];exact⟨b,⟨by omega,J⟩,rfl⟩
theorem Np(xs:List Int)(l:Option Int)(h:Nat):(iD xs l (some (h:Int))).length≤h:=by unfold iD;rw[eH.Wb];simp;omega
theorem tr(ns:List Int)(k:Nat)(i:Int)(ak:i=(k:Int)):∃c:Int,hW [.cu (ns.map D.int),.int i]=.ok (.v (.int c)):=by rw[ak];exact ts ns k
@[simp] theorem abz(mf:List D→List D→R bT)(mo:aW)(ρ:ai):xN mf mo ρ=(mo ρ).bind fun ds=>(eF (mf ds [])).bind ym:=(rfl)
@[simp] theorem aaZ(d:D):ym (.v d)=.ok d:=(rfl)
theorem Yr(ns:List Int):∃cs ws bs,ie cs ws∧jy cs bs∧sy [.cu (ns.map D.int)]=.ok (.v (.tup [.lst (b9 cs),.lst (ws.map dC),.lst (bs.map cz)])):=by
 suffices h:Ends (sy [.cu (ns.map D.int)]) fun b=>∃cs ws bs,ie cs ws∧jy cs bs∧b=.v (.tup [.lst (b9 cs),.lst (ws.map dC),.lst (bs.map cz)])by
  obtain⟨b,e,cs,ws,bs,h1,h2,rfl⟩:=h;exact⟨cs,ws,bs,h1,h2,e⟩
 obtain⟨iC,cI⟩:=tr ns 0 0 rfl;obtain⟨cp,ae⟩:=tr ns 1 1 rfl;obtain⟨dO,au⟩:=tr ns 2 2 rfl;by_cases h:iC%2=1
 ·have ab:∀i:Int,ox [.int i]=.ok (.int (if i<0 then-i else i)):=fun _=>rfl;obtain⟨cs,ws,dB,iE⟩:=Tz (if cp<0 then-cp else cp);simp(disch:=first|omega|(simp;done)|(simp;omega)) [sy,wz,cI,ae,au,h,ab,iE];refine AM (fun(c:Nat)=>D.int (c:Int)) cs [.int (if dO<0 then-dO else dO)] (fun i ds dd=>∃(bs:List (List c1))(m:Int),bs.length=i∧(∀(k:Nat) b,bs[k]?=some b→pO (cs.getD k 0) b)∧ds=bs.map cz∧dd=[.int m]) rfl (by simp[b9]) (adt dB.h6 (by decide)) ⟨[],_,rfl,by simp,rfl,rfl⟩ ?_ ?_
  ·rintro i c _ _ ax ⟨bs,m,jb,J,rfl,rfl⟩;have Fx:=dB.c c (adg ax);obtain⟨b,eD,gv,bx⟩:=ML m c Fx.1 Fx.2;refine⟨(cz b,[.ao (.int (c:Int)),.br [.int eD]]),by simp(disch:=first|omega|(simp;done)|(simp;omega)) [bx],_,_,rfl,bs++[b],eD,by simp[jb],fun k b' aK=>?_,by simp,rfl⟩;by_cases Pm:k<bs.length
   ·rw[adl Pm]at aK;exact J k b' aK
   ·rw[adh (by omega)]at aK;have bj:k-bs.length=0:=by
     have:=(List.getElem?_eq_some_iff.mp aK).1;simp at this;omega
    rw[bj]at aK;simp at aK;subst aK;have:cs.getD k 0=c:=by rw[show k=i by omega,ac6,ax];rfl
    rw[this];exact gv
  ·rintro _ _ ⟨bs,m,jb,J,rfl,rfl⟩;simp;exact⟨cs,ws,dB,bs,⟨jb,J⟩,rfl,rfl,rfl⟩
 ·simp(disch:=first|omega|(simp;done)|(simp;omega)) [sy,wz,cI,ae,au,h];obtain⟨cs,⟨h1,h6⟩,gw,ec⟩:=Nk ns;obtain⟨ws,dB,gI⟩:=Yp ns cs h1 h6 gw;obtain⟨bs,gv,bx⟩:=MP (iD ns (some 4) (some 63)) (adt (Np ns (some 4) 63) (by decide)) cs h1 h6 gw;have cm:iD (ns.map D.int) (some 4) (some 63)=(iD ns (some 4) (some 63)).map D.int:=Nq _ _ _ _;have c_:hD (.t (.lst (ef bs)))=.ok (.lst (bs.map cz)):=by rw[←q8];rfl
  simp[ec,gI,cm,bx,c_];exact⟨cs,ws,dB,bs,gv,rfl,rfl,rfl⟩
theorem E8(ns:List Int):∃(as:List Nat)(r:bT),(∀a∈as,a<16)∧as.length≤16∧qK [.cu (ns.map D.int)]=.ok r∧hD r=.ok (.lst (as.map fun(a:Nat)=>.int (a:Int))):=by
 suffices h:Ends (qK [.cu (ns.map D.int)]) fun r=>∃as:List Nat,(∀a∈as,a<16)∧as.length≤16∧hD r=.ok (.lst (as.map fun(a:Nat)=>.int (a:Int)))by
  obtain⟨b,e,as,h1,h2,h3⟩:=h;exact⟨as,b,h1,h2,e,h3⟩
 obtain⟨iC,cI⟩:=tr ns 0 0 rfl;obtain⟨e3,bE⟩:=tr ns 3 3 rfl;by_cases h:iC%2=0
 ·have oX:qB [.int 16]=.ok ((adG 16).map fun(a:Nat)=>.int (a:Int)):=rfl;simp(disch:=first|omega|(simp;done)|(simp;omega)) [qK,wt,cI,h,oX];exact⟨adG 16,by simp,by simp,rfl⟩
 ·have ab:∀i:Int,ox [.int i]=.ok (.int (if i<0 then-i else i)):=fun _=>rfl;simp(disch:=first|omega|(simp;done)|(simp;omega)) [qK,wt,cI,bE,h,ab];refine AM (fun(i:Nat)=>D.int (i:Int)) (adG 4) [.int (if e3<0 then-e3 else e3)] (fun i ds dd=>∃(as:List Nat)(m:Int),as.length=i∧(∀a∈as,a<16)∧ds=as.map (fun(a:Nat)=>.int (a:Int))∧dd=[.int m]) rfl rfl (by simp) ⟨[],_,rfl,by simp,rfl,rfl⟩ ?_ ?_
  ·rintro i a _ _ _ ⟨as,m,qA,U,rfl,rfl⟩;obtain⟨y,b8,BY⟩:∃k:Nat,m%16=(k:Int)∧k<16:=⟨(m%16).toNat,by omega,by omega⟩;refine⟨(.int (y:Int),[.ao (.int (a:Int)),.br [.int (m/16)]]),by simp(disch:=first|omega|(simp;done)|(simp;omega)) [oG,b8],_,_,rfl,as++[y],m/16,by simp[qA],fun x aA=>?_,by simp,rfl⟩;rcases List.mem_append.mp aA with aA|aA
   ·exact U x aA
   ·rw[List.mem_singleton.mp aA];exact BY
  ·rintro _ _ ⟨as,m,qA,U,rfl,rfl⟩;simp;exact⟨as,U,by rw[qA];simp,rfl⟩
def rt(I:ai→Prop)(o:Option D)(f:ez):Prop:=match o with
 |some d=>f=.c_ d
 |none=>m_ I f
@[simp] theorem ZI(I:ai→Prop):rt I none=m_ I:=(rfl)
@[simp] theorem ZJ(I:ai→Prop)(d:D):rt I (some d)=(· =.c_ d):=(rfl)
theorem Kb{α:Type}{set:D→ai→R ai}{body:bf}(g:α→D)(I:ai→Prop)(f:α→Option D):∀(xs:List α)(ρ:ai),(∀a ρ,a∈xs→I ρ→Ends ((set (g a) ρ).bind body) (rt I (f a)))→I ρ→Ends (f9 set body (xs.map g) ρ) (rt I (xs.findSome? f))
 |[],ρ,_,h=>by simpa[rt,m_]using h
 |a::xs,ρ,st,h=>by
  obtain⟨hj,e,hf⟩:=st a ρ (by simp) h;rw[ac8,f9];cases ah:set (g a) ρ with
  |bad=>rw[ah]at e;cases e
  |exc c=>rw[ah]at e;cases e
  |ok ρ1=>
   rw[ah,dw]at e;rw[dw,e,dw,List.findSome?_cons];cases dH:f a with
   |some d=>rw[dH]at hf;have hf:hj=.c_ d:=hf;subst hf;exact⟨_,rfl,rfl⟩
   |none=>rw[dH]at hf;obtain⟨c5,rfl,h2⟩:=hf;exact Kb g I f xs c5 (fun b ρ J=>st b ρ (by simp[J])) h2
theorem Oc{β α:Type}{mi:aW}{set:D→ai→R ai}{body:bf}{ρ:ai}{k:ez→R β}{T:β→Prop}(g:α→D)(xs:List α)(I:ai→Prop)(f:α→Option D)(ak:mi ρ=.ok (xs.map g))(h0:I ρ)(st:∀a ρ,a∈xs→I ρ→Ends ((set (g a) ρ).bind body) (rt I (f a)))(f1:∀d,xs.findSome? f=some d→Ends (k (.c_ d)) T)(f2:∀ρ',xs.findSome? f=none→I ρ'→Ends (k (.bL ρ')) T):Ends ((e6 mi set body ρ).bind k) T:=by
 obtain⟨hj,e,h⟩:=Kb (set:=set) (body:=body) g I f xs ρ st h0;rw[La,ak,dw,e,dw];cases dH:xs.findSome? f with
 |some d=>rw[dH]at h;have h:hj=.c_ d:=h;rw[h];exact f1 d dH
 |none=>rw[dH]at h;obtain⟨c5,rfl,h2⟩:=h;exact f2 c5 dH h2
theorem SH{ws:List (aJ×aJ)}(bI:(ends ws).Nodup)(few:ws.length<100):x1 [.lst (ws.map dC)]=.ok (.v (.bH (cx ws) (cR ws))):=by
 apply Ends.done;simp[x1,Ah,sh];refine rP dC ws (fun j ρ=>∃s2 s3,ρ=[.ao (.lst (ws.map dC)),.ob (.bH (cx (ws.take j)) (cR (ws.take j))),s2,s3]) (by simp) ⟨.un,.un,by simp[cx,cR,ends]⟩ ?_ ?_
 ·rintro j w _ hw ⟨s2,s3,rfl⟩;obtain⟨cU,gI⟩:=List.getElem?_eq_some_iff.mp hw;have W4:ws=ws.take j++w::ws.drop (j+1):=by rw[←gI];simp
  have nn:=IT (P:=ws.take j) (w:=w) (r:=ws.drop (j+1)) (by rw[←W4];exact bI);have c4:ws.take (j+1)=ws.take j++[w]:=by rw[List.take_succ,hw];rfl
  have nL:(cx (ws.take j)).length<1000:=by simp[cx,AQ];omega
  have dr:=wL (i:=1) (mk:=af 2) (mv:=af 3) (ρ:=[.ao (.lst (ws.map dC)),.ob (.bH (cx (ws.take j)) (cR (ws.take j))),.ao (a0 w.1),.ao (a0 w.2)]) rfl rfl rfl (nH w.1) (by rw[ks_any];simp[nn.1]) (by omega);have cj:=wL (i:=1) (mk:=af 3) (mv:=af 2) (ρ:=[.ao (.lst (ws.map dC)),.ob (.bH (cx (ws.take j)++[gg w.1]) (cR (ws.take j)++[a0 w.2])),.ao (a0 w.1),.ao (a0 w.2)]) rfl rfl rfl (nH w.2) (E6 (by rw[ks_any];simp[nn.2.1]) fun z=>nn.2.2 (t9 z)) (by simp;omega);simp at dr cj;simp[dC,dr,cj,c4,Ik,Lh]
 ·rintro _ ⟨s2,s3,rfl⟩;have fT:nu (.ob (.bH (cx ws) (cR ws)))=.ao (.bH (cx ws) (cR ws)):=rfl;simp[d5,fT]
def outs(cs:List Nat)(ws:List (aJ×aJ))(n:Nat):List aJ:=(dz cs n).filter fun d=>!decide (d∈ends ws)
theorem Ux(cs:List Nat)(ws:List (aJ×aJ))(n:Nat):outs cs ws (n+1)=outs cs ws n++(hv cs n).filter (fun d=>!decide (d∈ends ws)):=by unfold outs;rw[wh,List.filter_append]
theorem Jg{cs:List Nat}(ws:List (aJ×aJ))(h:∀c∈cs,1≤c∧c≤4)(n:Nat):(outs cs ws n).length≤4*n:=adt (ahc _ _) (oz h n)
theorem Cn{cs:List Nat}{ws:List (aJ×aJ)}{n:Nat}{d:aJ}(h:d∈outs cs ws n):d∈dz cs n:=(List.mem_filter.mp h).1
theorem XB(c:Nat):dM true (.str ⟨#[c]⟩) (.str (PySem.Str.ofString "x"))=.ok (.aC (decide (c=120))):=by
 rw[Ks];have z:bO (.str ⟨#[c]⟩) (.str ⟨#[120]⟩)=decide (120=c):=sign_eq 120 c;show R.ok (D.aC (if true=true then bO (.str ⟨#[c]⟩) (.str ⟨#[120]⟩)else !bO (.str ⟨#[c]⟩) (.str ⟨#[120]⟩)))=_;rw[z,if_pos rfl]
 congr 2
 rw[decide_eq_decide];exact eq_comm
theorem XD:od [.str ⟨#[48]⟩]=.ok (.int 0):=by
 have h:ahf ⟨#[48]⟩=some 0:=by decide+kernel
 simp only[od,h];rfl
theorem XE:od [.str ⟨#[49]⟩]=.ok (.int 1):=by
 have h:ahf ⟨#[49]⟩=some 1:=by decide+kernel
 simp only[od,h];rfl
theorem xF{ρ:ai}{c b:Nat}{k:Int}{P B:D}(ax:ot c)(J:b=0∨b=1)(cI:ρ[0]?=some (.ao (.int k)))(ae:ρ[1]?=some (.ao P))(au:ρ[2]?=some (.ao B))(h1:bk P (.int k)=.ok (.str ⟨#[c]⟩))(h2:bk B (.int k)=.ok (.int (b:Int))) :
  qD (aE (dM true) (aE bk (af 1) (af 0)) (aG (.str (PySem.Str.ofString "x")))) (aE (dM true) (cW od (ar (aE bk (af 1) (af 0)) (aF))) (aE bk (af 2) (af 0))) ρ=.ok (.aC (decide (c=120∨c=48+b))):=by
 rcases ax with rfl|rfl|rfl<;>rcases J with rfl|rfl<;>simp[cI,ae,au,vf,h1,h2,XB,XD,XE]<;>rfl
theorem SO{p:Str}(a5:iB p){a:Nat}(U:a<16):x2 [.str p,.int (a:Int)]=.ok (.v (.aC (qi p a))):=by
 apply Ends.done;obtain⟨⟨l⟩⟩:=p;have av:l.length=4:=a5.l;have aD:∀c∈l,ot c:=a5.s;obtain⟨iC,cp,dO,e3,rfl⟩:∃a b c d,l=[a,b,c,d]:=by
  match l,av with
  |[a,b,c,d],_=>exact⟨a,b,c,d,rfl⟩
 simp(disch:=first|omega|(simp;done)|(simp;omega)) [x2,Al];refine wQ 4 (fun k=>.aC (decide ([iC,cp,dO,e3].getD k 0=120∨[iC,cp,dO,e3].getD k 0=p6 a ([8,4,2,1].getD k 0)))) rfl (by simp) (fun k aK=>?_) ?_
 ·have h:k=0∨k=1∨k=2∨k=3:=by omega
  rcases h with rfl|rfl|rfl|rfl
  ·exact xF (b:=a/8%2) (aD iC (by simp)) (by omega) rfl rfl rfl rfl (iI (k:=0) rfl)
  ·exact xF (b:=a/4%2) (aD cp (by simp)) (by omega) rfl rfl rfl rfl (iI (k:=1) rfl)
  ·exact xF (b:=a/2%2) (aD dO (by simp)) (by omega) rfl rfl rfl rfl (iI (k:=2) rfl)
  ·have:=xF (ρ:=.ao (.int ((3:Nat):Int))::[0,2].map fun j=>fA (([.ao (.str ⟨⟨[iC,cp,dO,e3]⟩⟩),.ao (.int (a:Int)),.ao (.lst [.int ((a:Int)/8%2),.int ((a:Int)/4%2),.int ((a:Int)/2%2),.int ((a:Int)%2)])]:ai).getD j .un)) (b:=a%2) (aD e3 (by simp)) (by omega) rfl rfl rfl rfl (iI (k:=3) rfl);rw[this];simp[p6]
 ·have al:=rz (fun k:Nat=>decide ([iC,cp,dO,e3].getD k 0=120∨[iC,cp,dO,e3].getD k 0=p6 a ([8,4,2,1].getD k 0))) (adG 4);simp only[al,dw];simp[qi,ahb,Bool.and_assoc]
def xH(b:List c1)(d a:Nat):Option Nat:=(iS d a 0 b).bind fun i=>(b[i]?).bind (·.b)
theorem Dy(d a:Nat):∀(b:List c1)(i:Nat),b.findSome? (fun r=>if mt d a r=true then some (ew r.b)else none)=(iS d a i b).map fun k=>ew ((b[k-i]?).bind (·.b))
 |[],i=>rfl
 |r::b,i=>by
  rw[List.findSome?_cons,iS];by_cases h:mt d a r=true
  ·simp[h]
  ·simp only[h,adx,if_false];rw[Dy d a b (i+1)];cases e:iS d a (i+1) b with
   |none=>simp
   |some k=>have:=DU b (i+1) k e;simp only[afZ];rw[show k-i=(k-(i+1))+1 by omega,ad5]
theorem Q6(o:Option Nat)(d:Nat):inD true (ew o) (.lst [.non,.int (d:Int)])=.ok (.aC (o.isNone||o==some d)):=by
 cases o with
 |none=>rfl
 |some k=>
  show R.ok (D.aC _)=_
  congr 2
  rw[aem];simp[bO,ew];omega
theorem Uu{bs:List (List c1)}{d:aJ}(hd:d.1<bs.length)(J:∀b∈bs,∀r∈b,iB r.p){a:Nat}(U:a<16):o_ [.lst (bs.map cz),a0 d,.int (a:Int)]=.ok (.v (ew (xH (bs.getD d.1 []) d.2 a))):=by
 apply Ends.done;have gK:bk (a0 d) (.int 0)=.ok (.int (d.1:Int)):=rfl;have bB:bk (a0 d) (.int 1)=.ok (.int (d.2:Int)):=rfl;have eg:bs.getD d.1 []=bs[d.1]:=by simp[hd]
 have j_:bk (.lst (bs.map cz)) (.int (d.1:Int))=.ok (cz bs[d.1]):=iI (by simp[hd]);rw[eg];simp(disch:=first|omega|(simp;done)|(simp;omega)) [o_,An];refine Oc cY bs[d.1] (fun ρ=>∃s3 s4 s5,ρ=[.ao (.lst (bs.map cz)),.ao (a0 d),.ao (.int (a:Int)),s3,s4,s5]) (fun r=>if mt d.2 a r=true then some (ew r.b)else none) (by simp[gK,j_,cz]) ⟨_,_,_,rfl⟩ ?_ ?_ ?_
 ·rintro r _ ay ⟨s3,s4,s5,rfl⟩;have f:=SO (J bs[d.1] (aeK _) r ay) U;have q:=Q6 r.a d.2;cases h1:qi r.p a<;>cases h2:(r.a.isNone||r.a==some d.2)<;>rw[h1]at f<;>rw[h2]at q<;>simp[mt,h1,h2,f,q,bB,cY]
 ·intro x aA;rw[Dy d.2 a _ 0]at aA;obtain⟨k,d4,rfl⟩:=Option.map_eq_some_iff.mp aA;simp[xH,d4]
 ·rintro _ aA ⟨s3,s4,s5,rfl⟩;rw[Dy d.2 a _ 0,Option.map_eq_none_iff]at aA;simp[xH,aA,ew]
theorem Rt(xs:List D)(x:D):bk (.lst (xs++[x])) (.int (-1))=.ok x:=by
 have h:gA (xs++[x]).length (-1)=some xs.length:=by unfold gA;simp;omega
 have h2:fb (xs++[x]) (-1)=some x:=by unfold fb;rw[h];simp
 simp[bk,h2]
theorem Ob(ws:List (aJ×aJ))(d:aJ):decide (d∈ends ws)=(i3 ws d).isSome:=by have h:=NP ws d;have h2:eU true (a0 d) (.bH (cx ws) (cR ws))=.ok (.aC ((cx ws).any fun x=>decide (x=gg d))):=rfl;rw[ks_any,h]at h2;injection h2 with h2;injection h2 with h2;exact h2.symm
theorem NQ{ws:List (aJ×aJ)}{d e:aJ}(h:i3 ws d=some e):kC (.bH (cx ws) (cR ws)) (a0 d)=.ok (a0 e):=by have f:=G1 ws d;rw[h]at f;simp[kC,nH,f]
theorem Q5(d:aJ)(ds:List aJ):inD true (a0 d) (.lst (ds.map a0))=.ok (.aC (decide (d∈ds))):=by have s:sF (.lst (ds.map a0))=some (ds.map a0):=rfl;have o:okN 7 (a0 d)=true:=rfl;simp only[inD,s,AG,o,and_self,if_true,E5]
@[simp] theorem aaN:pj .non=.ok .non:=(rfl)
@[simp] theorem aaL(i:Int):pj (.int i)=.ok (.int i):=(rfl)
noncomputable def nN:bf:=(bK (eQ 5 (mE (cD 3 o_ (ar (af 0) (ar (aE bk (af 4) (df mK (aG (.int 1)))) (ar (af 3) (aF)))))))
    (bK (dn (bS (aE (jK true) (af 5) (aG .non))) (jd (dK (ar (af 4) (ar (dK (ar (aG (.str (PySem.Str.ofString "drop"))) (ar (aE bk (aE bk (af 4) (df mK (aG (.int 1)))) (aG (.int 0))) (aF)))) (aF))))) (du))
    (bK (eQ 6 (o1 (dK (ar (aE bk (aE bk (af 4) (df mK (aG (.int 1)))) (aG (.int 0))) (ar (af 5) (aF))))))
    (bK (dn (bS (aE (eU false) (af 6) (af 1))) (jd (dK (ar (af 4) (ar (aE rJ (dK (ar (aG (.str (PySem.Str.ofString "out"))) (aF))) (af 6)) (aF))))) (du))
    (bK (dn (gM (bS (aE (inD true) (aE kC (af 1) (af 6)) (af 4)))) (jd (dK (ar (af 4) (ar (dK (ar (aG (.str (PySem.Str.ofString "ring"))) (ar (nS (af 4) (ar (aE kC (af 1) (af 6)) (aF))) (aF)))) (aF))))) (du))
    (kM 4 (aE kC (af 1) (af 6))))))))
noncomputable def ll(B Y X:D)(a:Nat)(ds:List aJ)(s5 gD:cJ):ai:=[.ao B,.ao Y,.ao X,.ao (.int (a:Int)),.br (ds.map a0),s5,gD]
def v9(s:cJ):Prop:=s=.un∨∃x,s=.ao x
theorem SV{ws:List (aJ×aJ)}{bs:List (List c1)}{X:D}(J:∀b∈bs,∀r∈b,iB r.p){d:aJ}(hd:d.1<bs.length){a:Nat}(U:a<16)(ds:List aJ)(av:ds.length<500)(s5 gD:cJ)(h5:v9 s5)(h6:v9 gD) :
  Ends (nN (ll (.lst (bs.map cz)) (.bH (cx ws) (cR ws)) X a (ds++[d]) s5 gD)) fun f=>match iQ ws bs a d with
   |.drop=>f=.c_ (iw (ds++[d],.drop d.1))
   |.out o=>f=.c_ (iw (ds++[d],.out d.1 o))
   |.to e=>if e∈ds++[d]then f=.c_ (iw (ds++[d],.ring e))else ∃x y,f=.bL (ll (.lst (bs.map cz)) (.bH (cx ws) (cR ws)) X a (ds++[d]++[e]) (.ao x) (.ao y)):=by
 have gK:bk (a0 d) (.int 0)=.ok (.int (d.1:Int)):=rfl;have rY:bk (.lst ((ds++[d]).map a0)) (.int (-1))=.ok (a0 d):=by rw[aeU];exact Rt _ _
 have fB:=Uu hd J U (d:=d);have pe:mK (.int 1)=.ok (.int (-1)):=rfl;have ol:iu (ll (.lst (bs.map cz)) (.bH (cx ws) (cR ws)) X a (ds++[d]) s5 gD)=true:=by rcases h5 with rfl|⟨x,rfl⟩<;>rcases h6 with rfl|⟨y,rfl⟩<;>rfl
 have g7:i_ .non=true:=rfl;have dP:∀i,i_ (.int i)=false:=fun _=>rfl;have nL:(ds.map a0).length+1<1000000:=by simp;omega
 simp only[aeU,ac8,afw]at rY;unfold iQ bL;unfold xH at fB;cases d4:iS d.2 a 0 (bs.getD d.1 [])with
 |none=>rw[d4]at fB;have fB:o_ [.lst (bs.map cz),a0 d,.int (a:Int)]=.ok (.v .non):=fB;simp[nN,ll,rY,pe,gK,fB,g7,iw,jG,st]
 |some i=>
  rw[d4]at fB;simp only[Option.bind_some]at fB ⊢;cases bx:((bs.getD d.1 [])[i]?).bind (·.b)with
  |none=>rw[bx]at fB;have fB:o_ [.lst (bs.map cz),a0 d,.int (a:Int)]=.ok (.v .non):=fB;simp[nN,ll,rY,pe,gK,fB,g7,iw,jG,st]
  |some o=>
   rw[bx]at fB;have fB:o_ [.lst (bs.map cz),a0 d,.int (a:Int)]=.ok (.v (.int (o:Int))):=fB;have jF:eU false (.tup [.int (d.1:Int),.int (o:Int)]) (.bH (cx ws) (cR ws))=.ok (.aC (!(i3 ws (d.1,o)).isSome)):=by rw[←Ob];exact wI ws (d.1,o)
   have nl:iP (.tup [.int (d.1:Int),.int (o:Int)])=true:=rfl;have ol:iu [.ao (.lst (bs.map cz)),.ao (.bH (cx ws) (cR ws)),.ao X,.ao (.int (a:Int)),.br (ds.map a0++[a0 d]),.ao (.int (o:Int)),gD]=true:=by rcases h6 with rfl|⟨y,rfl⟩<;>rfl
   cases dk:i3 ws (d.1,o)with
   |none=>rw[dk]at jF;have c7:rJ (.tup [.str (PySem.Str.ofString "out")]) (.tup [.int (d.1:Int),.int (o:Int)])=.ok (.tup [.str (PySem.Str.ofString "out"),.int (d.1:Int),.int (o:Int)]):=rfl;simp[nN,ll,rY,pe,gK,fB,dP,jF,nl,ol,c7,iw,jG,st,dk]
   |some e=>
    rw[dk]at jF;have bA:kC (.bH (cx ws) (cR ws)) (.tup [.int (d.1:Int),.int (o:Int)])=.ok (a0 e):=NQ dk;have ii:inD true (a0 e) (.lst (ds.map a0++[a0 d]))=.ok (.aC (decide (e∈ds++[d]))):=by have:=Q5 e (ds++[d]);simpa using this
    by_cases hm:e∈ds++[d]
    ·rw[decide_eq_true hm]at ii;have t7:=HT (m1:=fun _=>.ok (a0 e)) (m2:=fun _=>.ok (.lst ((ds++[d]).map a0))) (ρ:=[]) (ds:=ds++[d]) (d:=e) rfl rfl hm (by simp;omega);simp only[X_,yU,vB,dw]at t7;simp only[aeU,ac8,afw]at t7;simp only[dk,if_pos hm];simp[nN,ll,rY,pe,gK,fB,dP,jF,nl,ol,bA,ii,t7,iw,jG,st]
    ·rw[decide_eq_false hm]at ii;simp only[dk,if_neg hm];simp(disch:=first|omega|(simp;done)|(simp;omega)) [nN,ll,rY,pe,gK,fB,dP,jF,nl,ol,bA,ii]
theorem Iy{cs:List Nat}{ws:List (aJ×aJ)}{bs:List (List c1)}{X:D}(dB:ie cs ws)(jb:bs.length=cs.length)(J:∀b∈bs,∀r∈b,iB r.p){a:Nat}(U:a<16){c:cL}(ax:∀ρ,c ρ=.ok true)(cA:ez→R ez)(aK:∀x,cA (.c_ x)=.ok (.c_ x)):∀(n m:Nat)(ds:List aJ)(d:aJ)(s5 gD:cJ)(r:List aJ×hH),v9 s5→v9 gD→d.1<cs.length→d∉ds→ds.length+n<400→n<m→walk (iQ ws bs a) (n+1) ds d=some r→
  (lY c nN m (ll (.lst (bs.map cz)) (.bH (cx ws) (cR ws)) X a (ds++[d]) s5 gD)).bind cA=.ok (.c_ (iw r))
 |n,0,ds,d,s5,gD,r,_,_,_,_,_,h,_=>by omega
 |n,m+1,ds,d,s5,gD,r,h5,h6,hd,nm,av,aah,h=>by
  simp only[walk,if_neg nm]at h;obtain⟨f,dH,hf⟩:=SV (ws:=ws) (X:=X) J (d:=d) (by rw[jb];exact hd) U ds (by omega) s5 gD h5 h6;rw[lY,ax,dw];simp only[if_true,dH,dw];cases e:iQ ws bs a d with
  |drop=>rw[e]at h hf;obtain rfl:=ac0 h;have hf:f=.c_ (iw (ds++[d],.drop d.1)):=hf;subst hf;exact aK _
  |out o=>rw[e]at h hf;obtain rfl:=ac0 h;have hf:f=.c_ (iw (ds++[d],.out d.1 o)):=hf;subst hf;exact aK _
  |to g=>
   rw[e]at h hf;simp only at h hf;cases n with
   |zero=>simp[walk]at h
   |succ n=>
    by_cases hm:g∈ds++[d]
    ·rw[if_pos hm]at hf;rw[walk,if_pos hm]at h;obtain rfl:=ac0 h;subst hf;exact aK _
    ·rw[if_neg hm]at hf;obtain⟨x,y,rfl⟩:=hf;have aI:g∈dz cs cs.length:=Cd dB e;exact Iy dB jb J U ax cA aK n m (ds++[d]) g _ _ r (.inr ⟨_,rfl⟩) (.inr ⟨_,rfl⟩) (pa.mp aI).1 hm (by simp;omega) (by omega) h
theorem SW{cs:List Nat}{ws:List (aJ×aJ)}{bs:List (List c1)}(dB:ie cs ws)(jb:bs.length=cs.length)(J:∀b∈bs,∀r∈b,iB r.p){a:Nat}(U:a<16){d:aJ}(hd:d∈dz cs cs.length){r:List aJ×hH}(h:walk (iQ ws bs a) 200 [] d=some r) :
  sx [.lst (bs.map cz),.bH (cx ws) (cR ws),a0 d,.int (a:Int)]=.ok (.v (iw r)):=by
 have k:=Iy (X:=a0 d) dB jb J U (c:=bS (aG (.aC true))) (fun ρ=>by simp) .ok (fun x=>rfl) 199 1000 [] d .un .un r (.inl rfl) (.inl rfl) (pa.mp hd).1 (by simp) (by simp) (by decide) h;have z:sx [.lst (bs.map cz),.bH (cx ws) (cR ws),a0 d,.int (a:Int)]=(bK (gB 4 (fX (ar (af 2) aF))) (o7 (bS (aG (.aC true))) nN) [.ao (.lst (bs.map cz)),.ao (.bH (cx ws) (cR ws)),.ao (a0 d),.ao (.int (a:Int)),.un,.un,.un]).bind outD:=rfl;rw[z];have w:gB 4 (fX (ar (af 2) aF)) [.ao (.lst (bs.map cz)),.ao (.bH (cx ws) (cR ws)),.ao (a0 d),.ao (.int (a:Int)),.un,.un,.un]=.ok (.bL (ll (.lst (bs.map cz)) (.bH (cx ws) (cR ws)) (a0 d) a ([]++[d]) .un .un)):=rfl;have tp:∀r:R ez,r.bind R.ok=r:=fun r=>by cases r<;>rfl
 rw[tp]at k;have k:o7 (bS (aG (.aC true))) nN (ll (.lst (bs.map cz)) (.bH (cx ws) (cR ws)) (a0 d) a ([]++[d]) .un .un)=.ok (.c_ (iw r)):=k;rw[yw w,k];rfl
theorem Lk{N:aJ→On}:∀(n m:Nat)(ds:List aJ)(d:aJ)(r:List aJ×hH),n≤m→walk N n ds d=some r→walk N m ds d=some r
 |0,m,ds,d,r,_,h=>by simp[walk]at h
 |n+1,0,ds,d,r,hm,h=>by omega
 |n+1,m+1,ds,d,r,hm,h=>by
  rw[walk]at h ⊢;by_cases hd:d∈ds
  ·rw[if_pos hd]at h ⊢;exact h
  ·rw[if_neg hd]at h ⊢;cases e:N d with
   |drop=>rw[e]at h;exact h
   |out o=>rw[e]at h;exact h
   |to g=>rw[e]at h;exact Lk n m _ g r (by omega) h
theorem Lj{N:aJ→On}:∀(n:Nat)(ds:List aJ)(d:aJ)(r:List aJ×hH),walk N n ds d=some r→r.1.length≤ds.length+n
 |0,ds,d,r,h=>by simp[walk]at h
 |n+1,ds,d,r,h=>by
  rw[walk]at h;by_cases hd:d∈ds
  ·rw[if_pos hd]at h;obtain rfl:=ac0 h;simp
  ·rw[if_neg hd]at h;cases e:N d with
   |drop=>rw[e]at h;obtain rfl:=ac0 h;simp
   |out o=>rw[e]at h;obtain rfl:=ac0 h;simp
   |to g=>rw[e]at h;have:=Lj n _ g r h;simp at this;omega
theorem Fw{cs:List Nat}{ws:List (aJ×aJ)}{bs:List (List c1)}(dB:ie cs ws)(gv:jy cs bs){a:Nat}(U:a<16){d:aJ}(hd:d∈dz cs cs.length)(aH:d∉ends ws) :
  ∃r:List aJ×hH,r.1.length<500∧qL [cX cs ws,.lst (bs.map cz),a0 d,.int (a:Int)]=.ok (.t (jS r))∧sx [.lst (bs.map cz),.bH (cx ws) (cR ws),a0 d,.int (a:Int)]=.ok (.v (iw r)):=by
 have a5:∀b∈bs,∀r∈b,iB r.p:=fun b J r ay=>by obtain⟨i,ak⟩:=List.mem_iff_getElem?.mp J;exact((gv.b i b ak).r r ay).p
 have i6:=oz dB.c cs.length;have h6:=dB.h6;obtain⟨r,ay⟩:=Ec (N:=iQ ws bs a) (A:=dz cs cs.length) (by omega) (fun d _ e he=>Cd dB he) 200 [] d af8 (by simp) hd (by simp);have PF:=Lk 200 1000 [] d r (by decide) ay;obtain⟨a9,Hv,gI⟩:=Ym dB ⟨gv.l,a5⟩ U hd;rw[PF]at Hv;obtain rfl:=ac0 Hv;refine⟨r,?_,Yn (MQ dB.h6 gv) ?_ ?_ gI,SW dB gv.l a5 U hd ay⟩
 ·have:=Lj 200 [] d r ay;simp at this;omega
 ·rw[Uv ws hd];simp[aH]
 ·rw[EZ];simp;omega
noncomputable def pM:Nat→D→Prop
 |0,_=>False
 |n+1,d=>(∃i,d=.int i)∨(∃x,d=.str x)∨∃xs:List D,xs.length≤1000∧(∀x∈xs,pM n x)∧(d=.tup xs∨d=.lst xs)
@[simp] theorem ab0(m:aW)(ρ:ai):uv m ρ=(m ρ).bind EC:=(rfl)
theorem ZA(xs:List D):zip2 xs xs=xs.map fun a=>.tup [a,a]:=by unfold zip2;rw[show xs.zip xs=xs.map fun a=>(a,a)from by simp[List.zip_eq_zipWith],aeW];rfl
theorem zS:∀(n:Nat)(d:D),pM n d→kP n [d,d]=.ok (.v (.aC true))
 |0,_,h=>h.elim
 |n+1,d,h=>by
  apply Ends.done;have j_:∀i,eB "bool" (.int i)=.ok (.aC false):=fun _=>rfl;have ii:∀i,eB "int" (.int i)=.ok (.aC true):=fun _=>rfl;have is:∀x,eB "int" (.str x)=.ok (.aC false):=fun _=>rfl;have ss:∀x,eB "str" (.str x)=.ok (.aC true):=fun _=>rfl;rcases h with⟨i,rfl⟩|⟨x,rfl⟩|⟨xs,av,aA,h⟩
  ·have e:dM true (.int i) (.int i)=.ok (.aC true):=by
     show R.ok (D.aC (i==i))=_;simp
   simp[kP,rD,ii,j_,e]
  ·have e:dM true (.str x) (.str x)=.ok (.aC true):=by
     show R.ok (D.aC (x==x))=_;simp
   simp[kP,rD,is,ss,e]
  ·have e:∀k:Int,dM false (.int k) (.int k)=.ok (.aC false):=fun k=>by
     show R.ok (D.aC (!(k==k)))=_;simp
   have al:=rz (fun _:D=>true) xs;have fin:∀mi ρ(k:List D→R bT),mi ρ=.ok (zip2 xs xs)→(k (xs.map fun _=>.aC true)=.ok (.v (.aC true)))→Ends ((fp 2 [] mi (gk [bY 0,bY 1]) eE (cD 2 (kP n) (ar (af 0) (ar (af 1) aF))) ρ).bind k) (· =.v (.aC true)):=fun mi ρ k hm aK=>
    wO (fun a=>a) (fun a=>a) xs (fun _=>.aC true) (by rw[hm,ZA]) av (fun a U=>by simp[zS n a (aA a U)]) (by rw[aK];exact⟨_,rfl,rfl⟩)
   rcases h with rfl|rfl
   ·have t1:eB "int" (.tup xs)=.ok (.aC false):=rfl;have d7:eB "str" (.tup xs)=.ok (.aC false):=rfl;have t3:eB "tuple" (.tup xs)=.ok (.aC true):=rfl;simp(disch:=first|omega|(simp;done)|(simp;omega)) [kP,rD,t1,d7,t3,e];exact fin _ _ _ rfl (by simp[al])
   ·have t1:eB "int" (.lst xs)=.ok (.aC false):=rfl;have d7:eB "str" (.lst xs)=.ok (.aC false):=rfl;have t3:eB "tuple" (.lst xs)=.ok (.aC false):=rfl;have vr:eB "list" (.lst xs)=.ok (.aC true):=rfl;simp(disch:=first|omega|(simp;done)|(simp;omega)) [kP,rD,t1,d7,t3,vr,e];exact fin _ _ _ rfl (by simp[al])
theorem wg(n:Nat)(i:Int):pM (n+1) (.int i):=.inl ⟨i,rfl⟩
theorem zR(n:Nat)(x:Str):pM (n+1) (.str x):=.inr (.inl ⟨x,rfl⟩)
theorem Mm(n:Nat)(d:aJ):pM (n+2) (a0 d):=.inr (.inr ⟨[.int (d.1:Int),.int (d.2:Int)],by simp,fun x aA=>by simp at aA;rcases aA with rfl|rfl<;>exact wg _ _,.inl rfl⟩)
theorem Mn(n:Nat)(ds:List aJ)(e:hH):pM (n+2) (jG ds e):=by
 cases e with
 |drop h=>exact .inr (.inr ⟨_,by simp,fun x aA=>by simp at aA;rcases aA with rfl|rfl<;>first|exact wg _ _|exact zR _ _,.inl rfl⟩)
 |out h o=>exact .inr (.inr ⟨_,by simp,fun x aA=>by simp at aA;rcases aA with rfl|rfl|rfl<;>first|exact wg _ _|exact zR _ _,.inl rfl⟩)
 |ring d=>exact .inr (.inr ⟨_,by simp,fun x aA=>by simp at aA;rcases aA with rfl|rfl<;>first|exact wg _ _|exact zR _ _,.inl rfl⟩)
theorem E1(r:List aJ×hH)(h:r.1.length<500):pM 5 (iw r):=.inr (.inr ⟨[.lst (r.1.map a0),jG r.1 r.2],by simp,fun x aA=>by
 simp at aA;rcases aA with rfl|rfl
 ·exact .inr (.inr ⟨r.1.map a0,by simp;omega,fun y b8=>by obtain⟨d,_,rfl⟩:=List.mem_map.mp b8;exact Mm 1 d,.inr rfl⟩)
 ·exact Mn 2 _ _,.inl rfl⟩)
theorem DX(r:List aJ×hH):toD (jS r)=iw r:=by
 have h:∀l:List D,js (l.map .ao)=l:=fun l=>by
  induction l with
  |nil=>rfl
  |cons a l cq=>simp only[ac8,js,toD,cq]
 simp only[jS,toD,js,h,iw]
theorem Ol(o:Option Nat):bO (ew o) (ew o)=true:=by
 cases o with
 |none=>rfl
 |some k=>simp[ew,bO]
theorem Om(r:c1):bO (cY r) (cY r)=true:=by
 have h:es [.str r.p,ew r.a,ew r.b] [.str r.p,ew r.a,ew r.b]=true:=by simp[es,Ol];simp[bO]
 unfold cY;rw[bO];exact h
theorem eq_self{α:Type}(g:α→D)(h:∀a,bO (g a) (g a)=true):∀l:List α,es (l.map g) (l.map g)=true
 |[]=>by simp[es]
 |a::l=>by simp[es,h a,eq_self g h l]
theorem Oi(b:List c1):bO (cz b) (cz b)=true:=by unfold cz;rw[bO];exact eq_self cY Om b
theorem Uc(n:Nat)(o:Option Nat):okN n (ew o)=true:=by cases o<;>cases n<;>rfl
theorem T9(bs:List (List c1)):okN 8 (.lst (bs.map cz))=true:=by simp only[okN,af3,aeH];intro b _;show okN 7 (cz b)=true;unfold cz;simp only[okN,af3,aeH];intro r _;show okN 6 (cY r)=true;unfold cY;simp[okN,Uc]
theorem F6(bs:List (List c1)):dM true (.lst (bs.map cz)) (.lst (bs.map cz))=.ok (.aC true):=by
 have q:bO (.lst (bs.map cz)) (.lst (bs.map cz))=true:=by rw[bO];exact eq_self cz Oi bs
 simp only[dM,T9,and_self,if_true,q]
theorem Uw{cs:List Nat}{ws:List (aJ×aJ)}(dB:ie cs ws):xZ [cX cs ws]=.ok (.o ((outs cs ws cs.length).map a0)):=by
 apply Ends.done;have h6:=dB.h6;have G0:e5 "Net" "far" (cX cs ws)=.ok (.bH (cx ws) (cR ws)):=rfl;have OA:e5 "Net" "counts" (cX cs ws)=.ok (.tup (b9 cs)):=rfl;simp(disch:=first|omega|(simp;done)|(simp;omega)) [xZ,z6];refine rQ cs.length (fun j ρ=>∃s2 s3,ρ=[.ao (cX cs ws),.br ((outs cs ws j).map a0),s2,s3]) (by simp(disch:=first|omega|(simp;done)|(simp;omega)) [B4]) ⟨.un,.un,by simp[outs,dz]⟩ ?_ ?_
 ·rintro j _ cU ⟨s2,s3,rfl⟩;have xD:=A7 (fun c h=>(dB.c c h).2) j;have bE:bk (.tup (b9 cs)) (.int (j:Int))=.ok (.int (cs.getD j 0:Nat)):=BK (tv cU);have lo:=Jg ws dB.c j;simp only[ac6]at bE xD;simp;have z:=rQ (β:=ez) (set:=bY 3) (body:=dn (bS (aE (eU false) (dK (ar (af 2) (ar (af 3) (aF)))) (df (e5 "Net" "far") (af 0)))) (kM 1 (dK (ar (af 2) (ar (af 3) (aF))))) (du)) (mi:=hV (ar (aE bk (df (e5 "Net" "counts") (af 0)) (af 2)) (aF))) (ρ:=[.ao (cX cs ws),.br ((outs cs ws j).map a0),.ao (.int (j:Int)),s3]) (k:=fun f=>.ok f) (T:=m_ fun ρ=>∃s3,ρ=[.ao (cX cs ws),.br ((outs cs ws (j+1)).map a0),.ao (.int (j:Int)),s3]) (cs[j]?.getD 0) (fun k ρ=>∃s3,ρ=[.ao (cX cs ws),.br ((outs cs ws j++((hv cs j).take k).filter (fun d=>!decide (d∈ends ws))).map a0),.ao (.int (j:Int)),s3]) (by simp[OA,bE,show cs[j]?.getD 0<1000000 by omega]) ⟨s3,by simp⟩ ?_ ?_
  ·obtain⟨f,dH,ρ',rfl,V7,rfl⟩:=z;have N9:e6 (hV (ar (aE bk (df (e5 "Net" "counts") (af 0)) (af 2)) (aF))) (bY 3) (dn (bS (aE (eU false) (dK (ar (af 2) (ar (af 3) (aF)))) (df (e5 "Net" "far") (af 0)))) (kM 1 (dK (ar (af 2) (ar (af 3) (aF))))) (du)) [.ao (cX cs ws),.br ((outs cs ws j).map a0),.ao (.int (j:Int)),s3]=.ok (.bL [.ao (cX cs ws),.br ((outs cs ws (j+1)).map a0),.ao (.int (j:Int)),V7]):=by
    rw[←dH];cases e6 (hV (ar (aE bk (df (e5 "Net" "counts") (af 0)) (af 2)) (aF))) (bY 3) (dn (bS (aE (eU false) (dK (ar (af 2) (ar (af 3) (aF)))) (df (e5 "Net" "far") (af 0)))) (kM 1 (dK (ar (af 2) (ar (af 3) (aF))))) (du)) [.ao (cX cs ws),.br ((outs cs ws j).map a0),.ao (.int (j:Int)),s3]<;>rfl
   rw[N9];simp
  ·rintro k _ aK ⟨s3,rfl⟩;have xf:k<(hv cs j).length:=by simp[hv,ac6];exact aK
   have e4:(hv cs j)[k]=(j,k):=by simp[hv]
   have dd:eU false (.tup [.int (j:Int),.int (k:Int)]) (.bH (cx ws) (cR ws))=.ok (.aC (!decide ((j,k)∈ends ws))):=wI ws (j,k);have nL:(((hv cs j).take k).filter (fun d=>!decide (d∈ends ws))).length≤4:=adt (ahc _ _) (adt (List.length_take_le' _ _) (FQ dB.c j));rw[aft,acT xf,e4,Option.toList_some,List.filter_append];by_cases hm:(j,k)∈ends ws
   ·simp[G0,dd,hm]
   ·simp(disch:=first|omega|(simp;done)|(simp;omega)) [G0,dd,hm];rfl
  ·rintro _ ⟨s3,rfl⟩;have:(hv cs j).take (cs[j]?.getD 0)=hv cs j:=afi (by simp[hv,ac6]);rw[this,←Ux];simp
 ·rintro _ ⟨s2,s3,rfl⟩;simp
@[simp] theorem acI(i:Nat)(m:bf)(ρ:ai):B1 i m ρ=m (ρ.set i .un):=(rfl)
@[simp] theorem acB(i:Nat)(a:gU)(ρ:ai):lM i a ρ=(a ρ).bind fun t=>if i<ρ.length then .ok (.bL (ρ.set i (.cy t)))else .bad:=(rfl)
@[simp] theorem abv(m:gU)(ρ:ai):o2 m ρ=(m (d5 ρ)).bind fun t=>if jh t=true∧iu ρ=true then .ok t else .bad:=(rfl)
@[simp] theorem abF(n:Nat)(mf:List D→R bT)(m:aW)(ρ:ai):ui n mf m ρ=(m ρ).bind fun ds=>if ds.length=n then(eF (mf ds)).bind vg else .bad:=(rfl)
@[simp] theorem abA(n:Nat)(mf:List D→R bT)(m:aW)(ρ:ai):r_ n mf m ρ=(m ρ).bind fun ds=>if ds.length=n then(eF (mf ds)).bind hD else .bad:=(rfl)
@[simp] theorem abr(i:Nat)(mk m:aN)(ρ:ai):xM i mk m ρ=(oe i ρ).bind fun aL=>(mk ρ).bind fun k=>th i ρ aL m k:=(rfl)
@[simp] theorem acs(m:aN)(mb:c6)(ρ:ai):xU m mb ρ=(m ρ).bind fun d=>yk mb ρ d:=(rfl)
@[simp] theorem abE(x:Nat)(mf:List D→T→R bT)(m1 m2 kL:aN)(ρ:ai):xO x mf m1 m2 kL ρ=(m1 ρ).bind fun d1=>(m2 ρ).bind fun cM=>(kL ρ).bind fun rL=>wD x mf ρ [d1,cM,rL] ρ[x]?:=(rfl)
theorem Iv(b:List c1):hU (b.map cY)=jR b:=by simp[hU,jR]
theorem E3(bs:List (List c1)):ml (.lst (ef bs))=true:=by
 have h:∀l:List T,(∀t∈l,ml t=true)→ry l=true:=fun l=>by
  induction l with
  |nil=>intro _;rfl
  |cons t l cq=>intro h;simp only[ry,h t (by simp),cq fun x aA=>h x (by simp[aA]),Bool.and_self]
 simp only[ml];refine h _ fun t bJ=>?_;obtain⟨b,_,rfl⟩:=List.mem_map.mp bJ;simp only[jR,ml];refine h _ fun u aV=>?_;obtain⟨r,_,rfl⟩:=List.mem_map.mp aV;rfl
theorem yb:∀l:List T,(∀t∈l,jh t=true)→pg l=true
 |[],_=>rfl
 |t::l,h=>by simp only[pg,h t (by simp),yb l fun x aA=>h x (by simp[aA]),Bool.and_self]
theorem TN(r:List aJ×hH):jh (jS r)=true:=by
 obtain⟨ds,e⟩:=r;simp only[jS,jh,pg,afe,adm];refine⟨yb _ fun t bJ=>?_,?_⟩
 ·obtain⟨d,hd,rfl⟩:=List.mem_map.mp bJ;obtain⟨x,_,rfl⟩:=List.mem_map.mp hd;rfl
 ·cases e<;>rfl
theorem TO(bs:List (List c1)):jh (.lst (ef bs))=true:=by simp only[jh];refine yb _ fun t bJ=>?_;obtain⟨b,_,rfl⟩:=List.mem_map.mp bJ;simp only[jR,jh];refine yb _ fun u aV=>?_;obtain⟨r,_,rfl⟩:=List.mem_map.mp aV;obtain⟨p,x,y⟩:=r;simp only[jh,cY,iP,jg,afe,afM];cases x<;>cases y<;>rfl
theorem Of(as:List Nat):qf [.lst (as.map fun(a:Nat)=>.int (a:Int))]=.ok (as.zipIdx.map fun p=>.tup [.int (p.2:Int),.int (p.1:Int)]):=wR (fun(a:Nat)=>.int (a:Int)) as
theorem J0(r:List aJ×hH):hD (.t (jS r))=.ok (iw r):=by show R.ok (toD (jS r))=_;rw[DX]
theorem Te(k:Nat):dM true (.int ((k:Int)%5)) (.int 0)=.ok (.aC (decide (k%5=0))):=by
 show R.ok (D.aC ((k:Int)%5==0))=_
 congr 2
 rw[aem];simp;omega
def Mt(r:List aJ×hH)(d:D):T:=.tup [.lst ((r.1.map a0).map .ao++[.ao d]),.ao (jG r.1 r.2)]
def D1:Option cJ→R (List T)
 |some (.cy (.tup aL))=>.ok aL
 |_=>.bad
@[simp] theorem acF(i:Nat)(ρ:ai):oe i ρ=D1 ρ[i]?:=by unfold oe D1;rfl
@[simp] theorem abh(r:List aJ×hH):D1 (some (.cy (jS r)))=.ok [.lst ((r.1.map a0).map .ao),.ao (jG r.1 r.2)]:=(rfl)
theorem Mu(r:List aJ×hH)(h:r.1.length<500)(i:Nat)(ρ:ai)(m:aN):th i ρ [.lst ((r.1.map a0).map .ao),.ao (jG r.1 r.2)] m (.int 0)=(m ρ).bind fun d=>.ok (.bL (ρ.set i (.cy (Mt r d)))):=by
 have e:gA 2 0=some 0:=rfl;simp only[th,adf,aeb,ae9,e,zY,agq]
 congr 1
 funext d
 rw[if_pos (by simp;omega)];rfl
theorem tp{β:Type}(r:R β):r.bind R.ok=r:=by cases r<;>rfl
theorem F0{β:Type}{r:R β}{T:β→Prop}(h:Ends (r.bind R.ok) T):Ends r T:=by rwa [tp]at h
theorem Ui{A B C E F G:D}{bs:List (List c1)}{x y z w:D}:iu [.ao A,.ao B,.ao C,.ao E,.ao F,.ao G,.cy (.lst (ef bs)),.ao x,.ao y,.ao z,.ao w,.un]=true:=by simp[iu,DC,E3]
theorem SD(ns:List Int)(again:∀cs ws bs,ie cs ws→jy cs bs→uM [.cu (ns.map D.int),cX cs ws,.bH (cx ws) (cR ws)] (.lst (ef bs))=.ok (.v (.aC true))):o9 [.cu (ns.map D.int)]=.ok (.v (.aC true)):=by
 apply Ends.done;obtain⟨cs,ws,bs,dB,gv,gI⟩:=Yr ns;have fo:=Q8 cs ws dB;have bx:=SH dB.bI dB.few;have fold:D.ins "Net" ["many","counts","joined","far"] [.int (cs.length:Int),.tup (b9 cs),.tup (ws.map dC),.bH (cx ws) (cR ws)]=cX cs ws:=rfl;have e4:=AE dB.h6 dB.c;have Mk:=again cs ws bs dB gv;obtain⟨as,VJ,U,qA,aj,eq⟩:=E8 ns;have i6:=oz dB.c cs.length;have h6:=dB.h6;have jb:=gv.l;simp[o9,Ag,gI,fo,bx,fold];refine AO cz bs (fun b=>b.map cY) (by simp) (by omega) (fun b _=>rfl) ?_;have eK:(bs.map fun a=>hU (a.map cY))=ef bs:=by simp[Iv,ef]
 simp only[eK];refine rP a0 (outs cs ws cs.length) (fun j ρ=>∃ee iv mM n5 pw,ρ=[.ao (.cu (ns.map D.int)),.ao (.lst (b9 cs)),.ao (.lst (ws.map dC)),.ao (.lst (bs.map cz)),.ao (.bH (cx ws) (cR ws)),.ao (cX cs ws),.cy (.lst (ef bs)),ee,iv,mM,n5,pw]) ?_ ⟨_,_,_,_,_,rfl⟩ ?_ ?_
 ·apply Ends.done;simp;refine FY a0 (dz cs cs.length) (fun d=>!decide (d∈ends ws)) a0 (by simp[e4]) (by omega) (fun d _=>?_) (fun d _ _=>by simp) ?_
  ·simp[wI]
  ·simp[outs]
 ·rintro j d _ cU ⟨ee,iv,mM,n5,pw,rfl⟩;have hd:=adg cU;have Bg:=Cn hd;have Bi:d∉ends ws:=by
   have:=(List.mem_filter.mp hd).2;simpa using this
  simp;refine F0 (rP (fun p:Nat×Nat=>.tup [.int (p.2:Int),.int (p.1:Int)]) as.zipIdx (fun j ρ=>∃iv mM n5 pw,ρ=[.ao (.cu (ns.map D.int)),.ao (.lst (b9 cs)),.ao (.lst (ws.map dC)),.ao (.lst (bs.map cz)),.ao (.bH (cx ws) (cR ws)),.ao (cX cs ws),.cy (.lst (ef bs)),.ao (a0 d),iv,mM,n5,pw]) (by simp[aj,eq,Of]) ⟨_,_,_,_,rfl⟩ ?_ ?_)
  ·rintro i ⟨a,k⟩ _ ak ⟨iv,mM,n5,pw,rfl⟩;have OY:a∈as:=by
    have:=adg ak;exact(List.mem_zipIdx' this).2▸aeK _
   obtain⟨r,oX,ae,au⟩:=Fw dB gv (U a OY) Bg Bi;have al:=zS 5 _ (E1 r oX);have ap:=Mu r oX;simp only[aeW]at ap;have ID:=Te k;generalize decide (k%5=0)=MC at ID;cases MC<;>simp(disch:=first|omega|(simp;done)|(simp;omega)) [q8,DX,ae,au,TN,Ui,al,ap,ID,J0]
  ·rintro _ ⟨iv,mM,n5,pw,rfl⟩;simp
 ·rintro _ ⟨ee,iv,mM,n5,pw,rfl⟩;have os:pj (.aC true)=.ok (.aC true):=rfl;simp[q8,F6,os,yk,wD,Mk]
theorem XI(ρ:ai)(bs:List (List c1))(i:Nat)(h:ρ[i]?=some (.cy (.lst (ef bs)))):ko i ρ=.ok (ef bs):=by unfold ko;rw[h]
theorem Mo{ρ ρ':ai}{bs:List (List c1)}{b b':List c1}{h j k:Nat}{me:aN}{mb:e1}(bw:ρ[h]?=some (.cy (.lst (ef bs))))(he:me ρ=.ok (.int (k:Int)))(J:bs[k]?=some b)(ne:h≠j)(cU:j<ρ.length)(hm:mb ((ρ.set h .un).set j (.br (b.map cY)))=.ok ρ')(ay:ρ'[j]?=some (.br (b'.map cY))) :
  uf h j me mb ρ=.ok (.bL ((ρ'.set j .un).set h (.cy (.lst (ef (bs.set k b')))))):=by
 have aK:k<bs.length:=(List.getElem?_eq_some_iff.mp J).1;have t7:gA (ef bs).length (k:Int)=some k:=by unfold gA;simp[ef,aK]
 have c4:(ef bs)[k]?=some (jR b):=by simp[ef,J]
 have un:jT (b.map fun r=>T.ao (cY r))=some (b.map cY):=by
  have:=K7 (b.map cY)
  rwa [aeW]at this
 unfold uf;rw[XI ρ bs h bw,dw,he,dw];simp only[zN,t7,zO,c4,jR,zP,un,zQ];rw[if_pos ⟨ne,cU⟩,hm];simp only[IV,dw,ay,zM]
 congr 4
 simp[ef,List.map_set,jR];rfl
def pre:c1:=⟨PySem.Str.ofString "xxxx",none,some 0⟩
def mq(b:List c1):List c1:=if 11<b.length then b.dropLast else b
theorem Nr{c:Nat}{b:List c1}(ax:1≤c)(h:pO c b):pO c (pre::mq b):=by
 have av:=h.l;refine⟨?_,fun r ay=>?_⟩
 ·unfold mq
  split
  ·simp;omega
  ·simp;omega
 ·rcases List.mem_cons.mp ay with rfl|ay
  ·refine⟨⟨rfl,fun c ax=>?_⟩,by simp[pre],by simp[pre];omega⟩;have:c∈[120,120,120,120]:=ax;simp at this;exact .inr (.inr this)
  ·refine h.r r ?_;unfold mq at ay
   split at ay
   ·exact List.dropLast_subset _ ay
   ·exact ay
theorem Vt{cs:List Nat}{bs:List (List c1)}(gw:∀c∈cs,1≤c∧c≤4)(gv:jy cs bs){k:Nat}{b:List c1}(J:bs[k]?=some b):jy cs (bs.set k (pre::mq b)):=by
 have aK:k<bs.length:=(List.getElem?_eq_some_iff.mp J).1;refine⟨by simp[gv.l],fun i b' ak=>?_⟩;by_cases z:k=i
 ·subst z;rw[adX aK]at ak;cases ak;exact Nr (G_ gw (by rw[←gv.l];exact aK)).1 (gv.b k b J)
 ·rw[adP z]at ak;exact gv.b i b' ak
theorem Q3{i:Nat}{ds:List D}{ρ:ai}{y:D}(h:ds.length<1000000):BF i ds ρ y (.int 0)=.ok (.non,ρ.set i (.br (y::ds))):=by simp only[BF];rw[if_pos ⟨by decide,by decide,h⟩];simp
theorem Vg{ρ:ai}{i:Nat}{b:List c1}(h:ρ[i]?=some (.br (b.map cY)))(J:b≠[]):∃y,nU i ρ=.ok (y,ρ.set i (.br (b.dropLast.map cY))):=by
 have av:b.length-1<b.length:=by
  cases b with
  |nil=>exact absurd rfl J
  |cons x b=>simp
 have o:ownAt i ρ=.ok (b.map cY):=by unfold ownAt;rw[h]
 have g:(b.map cY)[(b.map cY).length-1]?=some (cY b[b.length-1]):=by rw[adk,ac4,acT av];rfl
 have dl:(b.map cY).dropLast=b.dropLast.map cY:=by rw[List.map_dropLast]
 refine⟨cY b[b.length-1],?_⟩;unfold nU;rw[o,dw,g,dl]
theorem Nt(A B C E:D)(b:List c1)(aC:b.length≤12):je (nR (gM (bS (aE mz (cW dR (ar (af 5) aF)) (aG (.int 11))))) (kf (nU 5)) fun ρ=>.ok ρ) (kf (o5 5 (aG (.int 0)) (dK (ar (aG (.str (PySem.Str.ofString "xxxx"))) (ar (aG .non) (ar (aG (.int 0)) aF)))))) [.ao A,.ao B,.ao C,.un,.ao E,.br (b.map cY),.un,.un,.un]=.ok [.ao A,.ao B,.ao C,.un,.ao E,.br ((pre::mq b).map cY),.un,.un,.un]:=by
 have fin:∀c:List c1,c.length≤12→kf (o5 5 (aG (.int 0)) (dK (ar (aG (.str (PySem.Str.ofString "xxxx"))) (ar (aG .non) (ar (aG (.int 0)) aF))))) [.ao A,.ao B,.ao C,.un,.ao E,.br (c.map cY),.un,.un,.un]=.ok [.ao A,.ao B,.ao C,.un,.ao E,.br ((pre::c).map cY),.un,.un,.un]:=fun c ax=>by have gK:=Q3 (i:=5) (ds:=c.map cY) (ρ:=[.ao A,.ao B,.ao C,.un,.ao E,.br (c.map cY),.un,.un,.un]) (y:=.tup [.str (PySem.Str.ofString "xxxx"),.non,.int 0]) (by simp;omega);simp[kf,gK];rfl
 have av:(b.map cY).length=b.length:=by simp
 have tst:gM (bS (aE mz (cW dR (ar (af 5) aF)) (aG (.int 11)))) [.ao A,.ao B,.ao C,.un,.ao E,.br (b.map cY),.un,.un,.un]=.ok (decide (11<b.length)):=by
  have g:mz (.int (b.length:Int)) (.int 11)=.ok (.aC (decide (11<b.length))):=by
   show R.ok (D.aC (decide ((11:Int)<(b.length:Int))))=_
   congr 2
   rw[decide_eq_decide];omega
  simp[g]
 by_cases h:11<b.length
 ·obtain⟨y,dk⟩:=Vg (ρ:=[.ao A,.ao B,.ao C,.un,.ao E,.br (b.map cY),.un,.un,.un]) (i:=5) (b:=b) rfl (by intro z;rw[z]at h;simp at h);have a1:nR (gM (bS (aE mz (cW dR (ar (af 5) aF)) (aG (.int 11))))) (kf (nU 5)) (fun ρ=>.ok ρ) [.ao A,.ao B,.ao C,.un,.ao E,.br (b.map cY),.un,.un,.un]=.ok [.ao A,.ao B,.ao C,.un,.ao E,.br (b.dropLast.map cY),.un,.un,.un]:=by
   simp only[nR,tst,dw,decide_eq_true h,if_true,kf,dk];rfl
  rw[q7 a1,fin _ (by simp;omega)];simp[mq,h]
 ·have a1:nR (gM (bS (aE mz (cW dR (ar (af 5) aF)) (aG (.int 11))))) (kf (nU 5)) (fun ρ=>.ok ρ) [.ao A,.ao B,.ao C,.un,.ao E,.br (b.map cY),.un,.un,.un]=.ok [.ao A,.ao B,.ao C,.un,.ao E,.br (b.map cY),.un,.un,.un]:=by
    simp only[nR,tst,dw,decide_eq_false h,adx,if_false]
  rw[q7 a1,fin _ aC];simp[mq,h]
theorem Ml(ns:List Int)(cs:List Nat)(ws:List (aJ×aJ))(bs:List (List c1))(dB:ie cs ws)(gv:jy cs bs):uM [.cu (ns.map D.int),cX cs ws,.bH (cx ws) (cR ws)] (.lst (ef bs))=.ok (.v (.aC true)):=by
 apply Ends.done;have cI:uM [.cu (ns.map D.int),cX cs ws,.bH (cx ws) (cR ws)] (.lst (ef bs))=(tk [.ao (.cu (ns.map D.int)),.ao (cX cs ws),.ao (.bH (cx ws) (cR ws)),.cy (.lst (ef bs)),.un,.un,.un,.un,.un]).bind outD:=rfl;rw[cI];have fB:=Uw dB;have so:n7 "Net" "outer" (cX cs ws)=.ok (cX cs ws):=rfl;have lo:=Jg ws dB.c cs.length;have h6:=dB.h6;obtain⟨as,VJ,U,qA,aj,eq⟩:=E8 ns;cases aH:outs cs ws cs.length with
 |nil=>rw[aH]at fB;have q:dM true (.int 0) (.int 0)=.ok (.aC true):=rfl;simp[tk,so,fB,q]
 |cons ik mr=>
  have nL:(outs cs ws cs.length).length=mr.length+1:=by rw[aH];rfl
  rw[aH]at fB;have q:dM true (.int ((mr.length:Int)+1)) (.int 0)=.ok (.aC false):=by
   show R.ok (D.aC ((mr.length:Int)+1==0))=_
   congr 2
  simp(disch:=first|omega|(simp;done)|(simp;omega)) [tk,so,fB,q];have O5:ik∈dz cs cs.length:=Cn (ws:=ws) (by rw[aH];simp);have Pj:ik.1<bs.length:=by rw[gv.l];exact(pa.mp O5).1
  obtain⟨b,J⟩:∃b,bs[ik.1]?=some b:=⟨bs[ik.1],acT Pj⟩;have aC:=(gv.b ik.1 b J).l;have Jz:=Vt dB.c gv J;have Rq:bk (.lst (a0 ik::mr.map a0)) (.int 0)=.ok (a0 ik):=iI (k:=0) rfl;have BJ:bk (a0 ik) (.int 0)=.ok (.int (ik.1:Int)):=rfl
  have al:=Mo (ρ:=[.ao (.cu (ns.map D.int)),.ao (cX cs ws),.ao (.bH (cx ws) (cR ws)),.cy (.lst (ef bs)),.ao (.lst (a0 ik::mr.map a0)),.un,.un,.un,.un]) (h:=3) (j:=5) (bs:=bs) (b:=b) (b':=pre::mq b) (k:=ik.1) (me:=aE bk (aE bk (af 4) (aG (.int 0))) (aG (.int 0))) (mb:=je (nR (gM (bS (aE mz (cW dR (ar (af 5) aF)) (aG (.int 11))))) (kf (nU 5)) fun ρ=>.ok ρ) (kf (o5 5 (aG (.int 0)) (dK (ar (aG (.str (PySem.Str.ofString "xxxx"))) (ar (aG .non) (ar (aG (.int 0)) aF)))))))
   (ρ':=[.ao (.cu (ns.map D.int)),.ao (cX cs ws),.ao (.bH (cx ws) (cR ws)),.un,.ao (.lst (a0 ik::mr.map a0)),.br ((pre::mq b).map cY),.un,.un,.un]) rfl (by simp[Rq,BJ]) J (by decide) (by simp) ?_ rfl
  ·rw[al];generalize bs.set ik.1 (pre::mq b)=oB at*;have jb:=Jz.l;simp[q8];refine AO cz oB (fun b=>b.map cY) (by simp) (by omega) (fun b _=>rfl) ?_;have eK:(oB.map fun a=>hU (a.map cY))=ef oB:=by simp[Iv,ef]
   have ol:iu [.ao (.cu (ns.map D.int)),.ao (cX cs ws),.ao (.bH (cx ws) (cR ws)),.cy (.lst (ef oB)),.ao (.lst (a0 ik::mr.map a0)),.un,.un,.un,.un]=true:=by simp[iu,DC,E3]
   simp only[eK,TO,ol,and_self,if_true,dw];refine rP a0 (ik::mr) (fun j ρ=>∃ee iv,ρ=[.ao (.cu (ns.map D.int)),.ao (cX cs ws),.ao (.bH (cx ws) (cR ws)),.cy (.lst (ef oB)),.ao (.lst (a0 ik::mr.map a0)),.un,.cy (.lst (ef oB)),ee,iv]) (by simp) ⟨_,_,rfl⟩ ?_ ?_
   ·rintro j d _ cU ⟨ee,iv,rfl⟩;have hd:d∈outs cs ws cs.length:=by rw[aH];exact adg cU
    have Bg:=Cn hd;have Bi:d∉ends ws:=by have:=(List.mem_filter.mp hd).2;simpa using this
    simp;refine F0 (rP (fun(a:Nat)=>.int (a:Int)) as (fun j ρ=>∃iv,ρ=[.ao (.cu (ns.map D.int)),.ao (cX cs ws),.ao (.bH (cx ws) (cR ws)),.cy (.lst (ef oB)),.ao (.lst (a0 ik::mr.map a0)),.un,.cy (.lst (ef oB)),.ao (a0 d),iv]) (by simp[aj,eq]) ⟨_,rfl⟩ ?_ ?_)
    ·rintro i a _ ak ⟨iv,rfl⟩;obtain⟨r,oX,ae,au⟩:=Fw dB Jz (U a (adg ak)) Bg Bi;have al:=zS 5 _ (E1 r oX);simp(disch:=first|omega|(simp;done)|(simp;omega)) [q8,DX,ae,au,al,J0]
    ·rintro _ ⟨iv,rfl⟩;simp
   ·rintro _ ⟨ee,iv,rfl⟩;simp[q8,F6]
  ·exact Nt _ _ _ _ b aC
theorem SF(ns:List Int):o9 [.cu (ns.map D.int)]=.ok (.v (.aC true)):=SD ns fun cs ws bs dB gv=>Ml ns cs ws bs dB gv
theorem YS{P:ac_}{w:adB}{K:PySem.W.Frag}{mg:Str→Option acV}{base:adT}{x:Str}{st:ad4}{N aO:List Str}{k:Nat}{m:bf}{f:ac1}{fd:ad1}(fn:lb K x x st f fd)(S:c2 N aO (bW st))(h:∀(f:ac1)(bV:acV)(A:adp)(outer:List PySem.Env)(s:acW)(H:ag)(E:cT),dx k (A.deeper (ady x (bW st) s.heap.objs.size f bV))→∀bD aR,gW (er fg P w K mg base N x (bW st) f bV A outer s H E).gh (dc K bD aR) (fl st) m) :
  gR P w K mg base fg (k+1) f fd aO (lW K aO.length (dA N.length m)):=fn.ok S yz fun bV A outer s H vs Q E ay aD=>by
 obtain⟨G,bJ⟩:=wC aD;exact⟨_,(h f bV A outer s H E ay G H).1,bJ⟩
structure dT(K:PySem.W.Frag)(x:Str)(st:ad4):Prop where
 ex:∃(f:ac1)(dX an:Option ac1)(cB:Array (Option acV))(ft de j3 pm cd c7:acV),PySem.W.nsIn K ada x=some (some (.ref f))∧K.lookup f=some ⟨ft,dX,.func (PySem.W.fnOf x x (j4 st) (fl st) (bW st) .none de j3 pm an cd c7),cB⟩∧PySem.W.codeIn K cd x=true∧PySem.W.keepIn K (.ref f)=true
theorem ea{K:PySem.W.Frag}{x:Str}{st:ad4}{f:ac1}{dX an:Option ac1}{cB:Array (Option acV)}{ft de j3 pm cd c7:acV}(a:PySem.W.nsIn K ada x=some (some (.ref f)))(l:K.lookup f=some ⟨ft,dX,.func (PySem.W.fnOf x x (j4 st) (fl st) (bW st) .none de j3 pm an cd c7),cB⟩)(c:PySem.W.codeIn K cd x=true)(k:PySem.W.keepIn K (.ref f)=true):dT K x st:=⟨f,dX,an,cB,ft,de,j3,pm,cd,c7,a,l,c,k⟩
theorem d_{K:PySem.W.Frag}{h:adT}{mg:Str→Option acV}{x:Str}{st:ad4}{aO:List Str}(X:K.In h)(G:h.Ns ada mg)(F:dT K x st)(b:∀(de doc pm:acV)(an:Option ac1)(bV c7:acV)(us:List acV),us.length=aO.length→ahU (PySem.W.fnOf x x (j4 st) (fl st) (bW st) .none de doc pm an bV c7) ⟨us,[]⟩=pure (aO.zip us)):dE K mg x st aO:=by obtain⟨f,dX,an,cB,ft,de,j3,pm,cd,c7,a,l,c,k⟩:=F.ex;exact OB (st:=st) X G a l c k b
structure m7(K:PySem.W.Frag)(C:ac1)(x qual:Str)(st:ad4):Prop where
 ex:∃(f:ac1)(dX an:Option ac1)(cB:Array (Option acV))(ft de j3 pm cd c7:acV),PySem.W.findIn K (.ref C) x=some (some (.ref f))∧K.lookup f=some ⟨ft,dX,.func (PySem.W.fnOf x qual (j4 st) (fl st) (bW st) .none de j3 pm an cd c7),cB⟩∧PySem.W.codeIn K cd qual=true∧PySem.W.keepIn K (.ref f)=true∧PySem.W.isFn K (.ref f)=true
theorem sz{K:PySem.W.Frag}{C:ac1}{x qual:Str}{st:ad4}{f:ac1}{dX an:Option ac1}{cB:Array (Option acV)}{ft de j3 pm cd c7:acV}(a:PySem.W.findIn K (.ref C) x=some (some (.ref f)))(l:K.lookup f=some ⟨ft,dX,.func (PySem.W.fnOf x qual (j4 st) (fl st) (bW st) .none de j3 pm an cd c7),cB⟩)(c:PySem.W.codeIn K cd qual=true)(k:PySem.W.keepIn K (.ref f)=true)(i:PySem.W.isFn K (.ref f)=true):m7 K C x qual st:=⟨f,dX,an,cB,ft,de,j3,pm,cd,c7,a,l,c,k,i⟩
theorem uS{K:PySem.W.Frag}{b1 x qual:Str}{C:ac1}{st:ad4}{aO:List Str}(n:PySem.W.nsIn K ada b1=some (some (.ref C)))(g1:PySem.W.plainGet K C Str.empty=true)(g2:PySem.W.hasDictIn K C=true)(g3:PySem.W.plainOver K C=true)(f_:PySem.W.findIn K (.ref C) "__setattr__"=some (some (.builtin "object.__setattr__")))(F:m7 K C x qual st)(b:∀(de doc pm:acV)(an:Option ac1)(bV c7:acV)(us:List acV),us.length=aO.length→ahU (PySem.W.fnOf x qual (j4 st) (fl st) (bW st) .none de doc pm an bV c7) ⟨us,[]⟩=pure (aO.zip us)):pV K b1 x qual st aO:=by obtain⟨f,dX,an,cB,ft,de,j3,pm,cd,c7,a,l,c,k,i⟩:=F.ex;exact⟨⟨C,f,_,n,⟨g1,g2,g3,f_⟩,⟨a,i,k⟩,qk (st:=st) l c k,(qk (st:=st) l c k).binds b⟩⟩
theorem Tb{K:PySem.W.Frag}{h:adT}{mg:Str→Option acV}{b1 qual:Str}{C:ac1}{st:ad4}{aO:List Str}(X:K.In h)(G:h.Ns ada mg)(n:PySem.W.nsIn K ada b1=some (some (.ref C)))(mk:PySem.W.makesIn K C=true)(xx:PySem.W.keepIn K (.ref C)=true)(F:m7 K C "__init__" qual st)(b:∀(de doc pm:acV)(an:Option ac1)(bV c7:acV)(us:List acV),us.length=aO.length→ahU (PySem.W.fnOf "__init__" qual (j4 st) (fl st) (bW st) .none de doc pm an bV c7) ⟨us,[]⟩=pure (aO.zip us)):InK K mg b1 qual st aO:=by obtain⟨f,dX,an,cB,ft,de,j3,pm,cd,c7,a,l,c,k,i⟩:=F.ex;exact⟨⟨C,f,_,n,⟨mk,a,i,xx⟩,qk (st:=st) l c k,PySem.W.mg_of X G n,(qk (st:=st) l c k).binds b⟩⟩
set_option maxHeartbeats 4000000 in
theorem XT{K:PySem.W.Frag}{h:adT}{mg:Str→Option acV}{hF:ac1}{mY:ac1}{Zw:ClassData}{mZ:ac1}{Zx:ClassData}{mX:ac1}{Zv:ClassData}{Xo:Tok}{Xp:Tok}{Xq:Tok}{Xr:Tok}{zk:ac1}{NI:Option ac1}{Tt:Nat}{WS:Array (Option acV)}{Xs Xt Xu:Tok}{zl:ac1}{NJ:Option ac1}{Tu:Nat}{WT:Array (Option acV)}{Xv Xw Xx Xy:Tok}(X:K.In h)(G:h.Ns ada mg)(n_Net:PySem.W.nsIn K ada "Net"=some (some (.ref hF)))(g1_Net:PySem.W.plainGet K hF Str.empty=true)(g2_Net:PySem.W.hasDictIn K hF=true)(g3_Net:PySem.W.plainOver K hF=true)(g4_Net:PySem.W.findIn K (.ref hF) "__setattr__"=some (some (.builtin "object.__setattr__")))(u_Net_many:PySem.W.findIn K (.ref hF) "many"=some none)(u_Net_counts:PySem.W.findIn K (.ref hF) "counts"=some none)(u_Net_joined:PySem.W.findIn K (.ref hF) "joined"=some none)(u_Net_far:PySem.W.findIn K (.ref hF) "far"=some none)(mk_Net:PySem.W.makesIn K hF=true)(kc_Net:PySem.W.keepIn K (.ref hF)=true)(n_NoBooks:PySem.W.nsIn K ada "NoBooks"=some (some (.ref mY)))(ct_NoBooks:PySem.W.clsIn K mY=some Zw)(e1_NoBooks:PySem.W.excIn K mY [.type "ValueError",.type "Exception",.type "BaseException",.type "object"] "ValueError.__new__"=true)(ga_NoBooks:PySem.W.findIn K (.ref mY) "__getattribute__"=some (some (.builtin "BaseException.__getattribute__")))(gn_NoBooks:PySem.W.findIn K (.ref mY) "__getattr__"=some none)(cl_NoBooks:PySem.W.findIn K (.ref mY) "__class__"=some (some (.builtin "object.__class__")))(sb_NoBooks:PySem.W.subIn K (.ref mY) (.type "BaseException")=some true)(mo_NoBooks:PySem.W.mroIn K mY (.type "object")=some true)(n_NoDoor:PySem.W.nsIn K ada "NoDoor"=some (some (.ref mZ)))(ct_NoDoor:PySem.W.clsIn K mZ=some Zx)(e1_NoDoor:PySem.W.excIn K mZ [.type "ValueError",.type "Exception",.type "BaseException",.type "object"] "ValueError.__new__"=true)(ga_NoDoor:PySem.W.findIn K (.ref mZ) "__getattribute__"=some (some (.builtin "BaseException.__getattribute__")))(gn_NoDoor:PySem.W.findIn K (.ref mZ) "__getattr__"=some none)(cl_NoDoor:PySem.W.findIn K (.ref mZ) "__class__"=some (some (.builtin "object.__class__")))(sb_NoDoor:PySem.W.subIn K (.ref mZ) (.type "BaseException")=some true)(mo_NoDoor:PySem.W.mroIn K mZ (.type "object")=some true)(n_NoAddress:PySem.W.nsIn K ada "NoAddress"=some (some (.ref mX)))(ct_NoAddress:PySem.W.clsIn K mX=some Zv)(e1_NoAddress:PySem.W.excIn K mX [.type "ValueError",.type "Exception",.type "BaseException",.type "object"] "ValueError.__new__"=true)(ga_NoAddress:PySem.W.findIn K (.ref mX) "__getattribute__"=some (some (.builtin "BaseException.__getattribute__")))(gn_NoAddress:PySem.W.findIn K (.ref mX) "__getattr__"=some none)(cl_NoAddress:PySem.W.findIn K (.ref mX) "__class__"=some (some (.builtin "object.__class__")))(sb_NoAddress:PySem.W.subIn K (.ref mX) (.type "BaseException")=some true)(mo_NoAddress:PySem.W.mroIn K mX (.type "object")=some true)(spc0:PySem.W.specialIn K (.builtin "object.__class__") "__get__"=some (some (.builtin "getset_descriptor.__get__")))(tkc0:PySem.W.takesIn K (.builtin "object.__class__")=some true)(h0:dT K "_law_digit" yn)(h1:dT K "_law_doors" De)(h2:dT K "_law_net_by" Dh)(h3:dT K "_law_cell_at" Dc)(h4:dT K "_law_book_by" C9)(h5:dT K "_law_mix" Dg)(h6:dT K "_law_counts" Dd)(h7:dT K "_law_wires" Dn)(h8:dT K "_law_pattern" Dj)(h9:dT K "_law_row" Dl)(h10:dT K "_law_books" C_)(h11:dT K "_law_world" Dp)(h12:dT K "_law_beyond" C8)(h13:dT K "is_whole" C3)(h14:dT K "is_whole_within" C4)(h15:dT K "are_counts" CR)(h16:dT K "is_pair" C0)(h17:dT K "is_door_among" CY)(h18:dT K "is_wire_among" C5)(h19:dT K "far_doors" CS)(h20:m7 K hF "__init__" "Net.__init__" CN)(h21:dT K "_law_asked" C7)(h22:dT K "_law_fits" Df)(h23:dT K "_law_out_of" Di)(h24:dT K "_law_walk" Dm)(h25:dT K "is_pattern" C1)(h26:dT K "is_number_or_none" CZ)(h27:dT K "is_row" C2)(h28:dT K "is_book" CV)(h29:m7 K hF "count" "Net.count" CM)(h30:dT K "is_books" CW)(h31:dT K "refuse_unless_books" Dr)(h32:m7 K hF "is_door" "Net.is_door" CO)(h33:m7 K hF "is_outer" "Net.is_outer" CP)(h34:dT K "is_address" CU)(h35:dT K "fits" CT)(h36:dT K "taken" Ds)(h37:m7 K hF "beyond" "Net.beyond" CL)(h38:dT K "onward" Dq)(h39:dT K "walked" Dt)(h40:dT K "way" Du)(h41:dT K "_law_alike" C6)(h42:m7 K hF "outer" "Net.outer" CQ)(h43:dT K "_law_right_again" Dk)(h44:dT K "law" px)(z_abs:PySem.W.nsIn K ada "abs"=some none)(z_all:PySem.W.nsIn K ada "all"=some none)(z_bool:PySem.W.nsIn K ada "bool"=some none)(z_enumerate:PySem.W.nsIn K ada "enumerate"=some none)(z_int:PySem.W.nsIn K ada "int"=some none)(z_isinstance:PySem.W.nsIn K ada "isinstance"=some none)(z_len:PySem.W.nsIn K ada "len"=some none)(z_list:PySem.W.nsIn K ada "list"=some none)(z_range:PySem.W.nsIn K ada "range"=some none)(z_sorted:PySem.W.nsIn K ada "sorted"=some none)(z_str:PySem.W.nsIn K ada "str"=some none)(z_tuple:PySem.W.nsIn K ada "tuple"=some none)(z_zip:PySem.W.nsIn K ada "zip"=some none)(z_GREATEST_ADDRESS:PySem.W.nsIn K ada "GREATEST_ADDRESS"=some (some (.int 15 Xo)))(z_MOST_DOORS:PySem.W.nsIn K ada "MOST_DOORS"=some (some (.int 4 Xp)))(z_MOST_HOUSES:PySem.W.nsIn K ada "MOST_HOUSES"=some (some (.int 6 Xq)))(z_MOST_ROWS:PySem.W.nsIn K ada "MOST_ROWS"=some (some (.int 12 Xr)))(z_SIGNS:PySem.W.nsIn K ada "SIGNS"=some (some (.ref zk)))(y_SIGNS:K.lookup zk=some ⟨.type "tuple",NI,.seq #[.str (PySem.Str.ofString "0") Xs,.str (PySem.Str.ofString "1") Xt,.str (PySem.Str.ofString "x") Xu] Tt,WS⟩)(z_WORTHS:PySem.W.nsIn K ada "WORTHS"=some (some (.ref zl)))(y_WORTHS:K.lookup zl=some ⟨.type "tuple",NJ,.seq #[.int 8 Xv,.int 4 Xw,.int 2 Xx,.int 1 Xy] Tu,WT⟩):zH K mg where
 iJ:=⟨hF,n_Net,⟨g1_Net,g2_Net,g3_Net,g4_Net⟩,(aeY.2 ⟨u_Net_many,(aeY.2 ⟨u_Net_counts,(aeY.2 ⟨u_Net_joined,(aeY.2 ⟨u_Net_far,(fun _ h=>absurd h ad7)⟩)⟩)⟩)⟩)⟩
 Lp:=⟨⟨mX,n_NoAddress,PySem.W.mg_of X G n_NoAddress,e1_NoAddress⟩⟩
 Lq:=⟨⟨mY,n_NoBooks,PySem.W.mg_of X G n_NoBooks,e1_NoBooks⟩⟩
 Lr:=⟨⟨mZ,n_NoDoor,PySem.W.mg_of X G n_NoDoor,e1_NoDoor⟩⟩
 GF:=d_ X G h0 fun _ _ _ _ _ _ us av=>match us,av with|[_,_],_=>rfl
 GG:=d_ X G h1 fun _ _ _ _ _ _ us av=>match us,av with|[_],_=>rfl
 GJ:=d_ X G h2 fun _ _ _ _ _ _ us av=>match us,av with|[_],_=>rfl
 GC:=d_ X G h3 fun _ _ _ _ _ _ us av=>match us,av with|[_,_],_=>rfl
 GA:=d_ X G h4 fun _ _ _ _ _ _ us av=>match us,av with|[_,_],_=>rfl
 GI:=d_ X G h5 fun _ _ _ _ _ _ us av=>match us,av with|[_,_],_=>rfl
 GD:=d_ X G h6 fun _ _ _ _ _ _ us av=>match us,av with|[_],_=>rfl
 GQ:=d_ X G h7 fun _ _ _ _ _ _ us av=>match us,av with|[_,_],_=>rfl
 GL:=d_ X G h8 fun _ _ _ _ _ _ us av=>match us,av with|[_],_=>rfl
 GO:=d_ X G h9 fun _ _ _ _ _ _ us av=>match us,av with|[_,_,_],_=>rfl
 GB:=d_ X G h10 fun _ _ _ _ _ _ us av=>match us,av with|[_,_],_=>rfl
 GR:=d_ X G h11 fun _ _ _ _ _ _ us av=>match us,av with|[_],_=>rfl
 Gz:=d_ X G h12 fun _ _ _ _ _ _ us av=>match us,av with|[_],_=>rfl
 Gv:=d_ X G h13 fun _ _ _ _ _ _ us av=>match us,av with|[_],_=>rfl
 Gw:=d_ X G h14 fun _ _ _ _ _ _ us av=>match us,av with|[_,_,_],_=>rfl
 Gi:=d_ X G h15 fun _ _ _ _ _ _ us av=>match us,av with|[_],_=>rfl
 Gr:=d_ X G h16 fun _ _ _ _ _ _ us av=>match us,av with|[_],_=>rfl
 Gp:=d_ X G h17 fun _ _ _ _ _ _ us av=>match us,av with|[_,_],_=>rfl
 Gx:=d_ X G h18 fun _ _ _ _ _ _ us av=>match us,av with|[_,_],_=>rfl
 Gj:=d_ X G h19 fun _ _ _ _ _ _ us av=>match us,av with|[_,_],_=>rfl
 Ge:=Tb X G n_Net mk_Net kc_Net h20 fun _ _ _ _ _ _ us av=>match us,av with|[_,_,_],_=>rfl
 Gy:=d_ X G h21 fun _ _ _ _ _ _ us av=>match us,av with|[_],_=>rfl
 GH:=d_ X G h22 fun _ _ _ _ _ _ us av=>match us,av with|[_,_],_=>rfl
 GK:=d_ X G h23 fun _ _ _ _ _ _ us av=>match us,av with|[_,_,_],_=>rfl
 GP:=d_ X G h24 fun _ _ _ _ _ _ us av=>match us,av with|[_,_,_,_],_=>rfl
 Gs:=d_ X G h25 fun _ _ _ _ _ _ us av=>match us,av with|[_],_=>rfl
 Gq:=d_ X G h26 fun _ _ _ _ _ _ us av=>match us,av with|[_,_],_=>rfl
 Gu:=d_ X G h27 fun _ _ _ _ _ _ us av=>match us,av with|[_,_],_=>rfl
 Gm:=d_ X G h28 fun _ _ _ _ _ _ us av=>match us,av with|[_,_],_=>rfl
 Gd:=uS n_Net g1_Net g2_Net g3_Net g4_Net h29 fun _ _ _ _ _ _ us av=>match us,av with|[_,_],_=>rfl
 Gn:=d_ X G h30 fun _ _ _ _ _ _ us av=>match us,av with|[_,_],_=>rfl
 GV:=d_ X G h31 fun _ _ _ _ _ _ us av=>match us,av with|[_,_],_=>rfl
 Gf:=uS n_Net g1_Net g2_Net g3_Net g4_Net h32 fun _ _ _ _ _ _ us av=>match us,av with|[_,_],_=>rfl
 Gg:=uS n_Net g1_Net g2_Net g3_Net g4_Net h33 fun _ _ _ _ _ _ us av=>match us,av with|[_,_],_=>rfl
 Gl:=d_ X G h34 fun _ _ _ _ _ _ us av=>match us,av with|[_],_=>rfl
 Gk:=d_ X G h35 fun _ _ _ _ _ _ us av=>match us,av with|[_,_],_=>rfl
 GW:=d_ X G h36 fun _ _ _ _ _ _ us av=>match us,av with|[_,_,_],_=>rfl
 Gb:=uS n_Net g1_Net g2_Net g3_Net g4_Net h37 fun _ _ _ _ _ _ us av=>match us,av with|[_,_],_=>rfl
 GU:=d_ X G h38 fun _ _ _ _ _ _ us av=>match us,av with|[_,_,_,_],_=>rfl
 GX:=d_ X G h39 fun _ _ _ _ _ _ us av=>match us,av with|[_,_,_,_],_=>rfl
 GY:=d_ X G h40 fun _ _ _ _ _ _ us av=>match us,av with|[_,_,_,_],_=>rfl
 A1:=d_ X G h41 fun _ _ _ _ _ _ us av=>match us,av with|[_,_],_=>rfl
 Gh:=uS n_Net g1_Net g2_Net g3_Net g4_Net h42 fun _ _ _ _ _ _ us av=>match us,av with|[_],_=>rfl
 GN:=d_ X G h43 fun _ _ _ _ _ _ us av=>match us,av with|[_,_,_,_],_=>rfl
 Oy:=d_ X G h44 fun _ _ _ _ _ _ us av=>match us,av with|[_],_=>rfl
 wk:=PySem.W.mg_none_of X G z_abs
 oA:=PySem.W.mg_none_of X G z_all
 z7:=PySem.W.mg_none_of X G z_bool
 tj:=PySem.W.mg_none_of X G z_enumerate
 rC:=PySem.W.mg_none_of X G z_int
 hL:=PySem.W.mg_none_of X G z_isinstance
 gu:=PySem.W.mg_none_of X G z_len
 lu:=PySem.W.mg_none_of X G z_list
 hM:=PySem.W.mg_none_of X G z_range
 Fh:=PySem.W.mg_none_of X G z_sorted
 tl:=PySem.W.mg_none_of X G z_str
 p5:=PySem.W.mg_none_of X G z_tuple
 Av:=PySem.W.mg_none_of X G z_zip
 rF:=⟨⟨_,_,PySem.W.mg_of X G z_GREATEST_ADDRESS,(pv _ _),fun _=>(ow _)⟩⟩
 rG:=⟨⟨_,_,PySem.W.mg_of X G z_MOST_DOORS,(pv _ _),fun _=>(ow _)⟩⟩
 p7:=⟨⟨_,_,PySem.W.mg_of X G z_MOST_HOUSES,(pv _ _),fun _=>(ow _)⟩⟩
 rH:=⟨⟨_,_,PySem.W.mg_of X G z_MOST_ROWS,(pv _ _),fun _=>(ow _)⟩⟩
 rI:=⟨⟨.ref zk,_,PySem.W.mg_of X G z_SIGNS,rfl,K4 y_SIGNS (afx rfl) (.cons (CJ _ _) (.cons (CJ _ _) (.cons (CJ _ _) .nil))) fun _=>(.cons (zK _) (.cons (zK _) (.cons (zK _) .nil)))⟩⟩
 oD:=⟨⟨.ref zl,_,PySem.W.mg_of X G z_WORTHS,rfl,K4 y_WORTHS (afx rfl) (.cons (pv _ _) (.cons (pv _ _) (.cons (pv _ _) (.cons (pv _ _) .nil)))) fun _=>(.cons (ow _) (.cons (ow _) (.cons (ow _) (.cons (ow _) .nil))))⟩⟩
set_option maxHeartbeats 4000000 in
theorem all_mk{l:PySem.W.OpenLaw}{w:adB}{K:PySem.W.Frag}{h:adT}{mg:Str→Option acV}{fS:ac1}(X:K.In h)(G:h.Ns ada mg)(O_:mg "law"=some (.ref fS))(F:dT K "law" px)(T:zH K mg) :
  ∃fd:ad1,(∀(s:acW)(v:acV),BindsTo s fd ⟨[v],[]⟩ [("_law_script",v)])∧∀base:adT,K.In base→base.Ns ada mg→gR l.prog w K mg base fg 10 fS fd ["_law_script"] (lW K 1 o9):=by
 obtain⟨f,dX,an,cB,ft,de,j3,pm,cd,c7,a,lk,c,k⟩:=F.ex;have e:=O_.symm.trans (PySem.W.mg_of X G a);cases e;exact⟨_,fun s v=>.of_eq rfl,fun base _ _=>YS (qk (st:=px) lk c k) kV (MG T)⟩
theorem SG(K:PySem.W.Frag)(H:ag)(a:ac1)(ns:List Int)(lC:bQ K H a (ns.map V.int)):lW K 1 o9 [.ref a] H (fun v _=>v=.aC true) (fun _ _ _=>False):=
 SE (K:=K) (mf:=o9) (H:=H) (a:=a) (ns:=ns) lC (SF ns) (fun _ _ _=>False)
theorem Yk {l:PySem.W.OpenLaw} {q:ac_} {loose:List Str} {rx:(Str→Option acV)→adT→Prop} {ov:adB→adT→Prop} {d:DefRec} {K:Params→PySem.W.Frag} (aU:l.most=some 63) (tQ:d.params.defaults=[])(Bb:∀(w:adB)(h:adT),ov w h→(K w.params).In h)(F:∀(w:adB)(mg:Str→Option acV)(fS:ac1)(h:adT),(K w.params).In h→h.Ns ada mg→mg d.name=some (.ref fS)→
    ∃fd:ad1,(∀(s:acW)(u:acV),BindsTo s fd ⟨[u],[]⟩ [("_law_script",u)])∧∀base:adT,(K w.params).In base→base.Ns ada mg→gR l.prog w (K w.params) mg base fg 10 fS fd ["_law_script"] (lW (K w.params) 1 o9)) :
  PySem.W.WalkO q loose rx ov l.row.toRowW d [] (fun f vs=>PySem.call f vs):=
 a7.Yl (n:=63) (k:=10) (x:="_law_script") (CX:=fun _=>fg) (sp:=fun w=>lW (K w.params) 1 o9) aU (by decide) tQ ⟨rfl,by decide,by decide⟩ Bb F (fun w H a ns _ _ lC=>SG (K w.params) H a ns lC) fun _ _ _ _ _ z=>z
end cv
end
namespace PySem.W.Fast
theorem tw15318311785581415244 : True := trivial
theorem tw13442156063037993762 : True := trivial
theorem tw15525587518241722340 : True := trivial
theorem tw3033645970433763427 : True := trivial
theorem tw12084392595684234503 : True := trivial
theorem tw12809392294763539075 : True := trivial
theorem tw1475376580381656866 : True := trivial
theorem tw134438613446018122 : True := trivial
theorem tw11682669085788737922 : True := trivial
theorem tw16846243204862245634 : True := trivial
theorem tw10109149097684077082 : True := trivial
theorem tw14033944072087138301 : True := trivial
theorem tw8157535559174918709 : True := trivial
theorem tw12620234845954246545 : True := trivial
theorem tw12679613464260670444 : True := trivial
theorem tw9335658828840098235 : True := trivial
theorem tw17096961108603215671 : True := trivial
theorem tw1899142647960682183 : True := trivial
theorem tw3447629861768133296 : True := trivial
theorem tw13869548909826928652 : True := trivial
theorem tw13211572197548884136 : True := trivial
theorem tw8041118467990191082 : True := trivial
theorem tw18406069544844713386 : True := trivial
theorem tw13509180488471998096 : True := trivial
theorem tw2253001364536240126 : True := trivial
theorem tw5455507608875247317 : True := trivial
theorem tw1318184522257744895 : True := trivial
theorem tw15176566926152270182 : True := trivial
theorem tw4178124227845571020 : True := trivial
theorem tw8621417274497753894 : True := trivial
theorem tw6836148265908268977 : True := trivial
theorem tw15792790600685211675 : True := trivial
theorem tw14746378005017133093 : True := trivial
theorem tw13820626042165211511 : True := trivial
theorem tw12274367031747326218 : True := trivial
theorem tw12541857447693445837 : True := trivial
theorem tw4305455136047690079 : True := trivial
theorem tw7467739263499956537 : True := trivial
theorem tw10883927231245821770 : True := trivial
theorem tw9810916484723794623 : True := trivial
theorem tw5042398817298138175 : True := trivial
theorem tw1786264739448717973 : True := trivial
theorem tw8703787284683646760 : True := trivial
theorem tw1565809496660832519 : True := trivial
theorem tw14036696167195583433 : True := trivial
theorem tw4704994630929275876 : True := trivial
theorem tw9867642647482911040 : True := trivial
theorem tw4498077420369732220 : True := trivial
theorem tw2481328175085624928 : True := trivial
theorem tw4022328129078769959 : True := trivial
theorem tw17136107498503789401 : True := trivial
theorem tw5963454850060693657 : True := trivial
theorem tw16480548318778540468 : True := trivial
theorem tw9071439658595664879 : True := trivial
theorem tw16823203528434969163 : True := trivial
theorem tw18240136375756776045 : True := trivial
theorem tw11561255109933818421 : True := trivial
theorem tw13868694788994963328 : True := trivial
theorem tw2748957719458845938 : True := trivial
theorem tw13724981802923072879 : True := trivial
theorem tw6157726236728794816 : True := trivial
theorem tw18240799067703520241 : True := trivial
theorem tw733586429443324937 : True := trivial
theorem tw1740093663415486103 : True := trivial
theorem tw14610228596554704681 : True := trivial
theorem tw14304074450151892284 : True := trivial
theorem tw7953163602790134229 : True := trivial
theorem tw7853486213085501524 : True := trivial
theorem tw95115073321794518 : True := trivial
theorem tw13489536989726240550 : True := trivial
theorem tw8666357097379064674 : True := trivial
theorem tw10686804739999802654 : True := trivial
theorem tw11967438567257506282 : True := trivial
theorem tw7609316355355989799 : True := trivial
theorem tw18295382268755390452 : True := trivial
theorem tw2922781592332578117 : True := trivial
theorem tw16980285367655312036 : True := trivial
theorem tw18121997347214492801 : True := trivial
theorem tw14600832290530405263 : True := trivial
theorem tw9644825378129490472 : True := trivial
theorem tw10523215015232894860 : True := trivial
end PySem.W.Fast
open PySem PySem.W PyProof.Rows
set_option maxRecDepth 100000 in
set_option maxHeartbeats 0 in
theorem PySem.Challenge.cw_nohalfway_k05_ways_walked_holds : PySem.Challenge.rw_nohalfway_k05_ways_walked.Holds := by
 w_on;o_law;k_head;(case hw=>w_witness2)
 k_fill
 refine cv.Yk (l:=PySem.Challenge.rw_nohalfway_k05_ways_walked) rfl rfl (fun w h Y=>PySem.W.kIn_of Y) ?F
 case F=>
  intro w mg fS h lj G tS
  refine' cv.all_mk lj G tS ?h44 (cv.XT lj G ?n_Net ?g1_Net ?g2_Net ?g3_Net ?g4_Net ?u_Net_many ?u_Net_counts ?u_Net_joined ?u_Net_far ?mk_Net ?kc_Net ?n_NoBooks ?ct_NoBooks ?e1_NoBooks ?ga_NoBooks ?gn_NoBooks ?cl_NoBooks ?sb_NoBooks ?mo_NoBooks ?n_NoDoor ?ct_NoDoor ?e1_NoDoor ?ga_NoDoor ?gn_NoDoor ?cl_NoDoor ?sb_NoDoor ?mo_NoDoor ?n_NoAddress ?ct_NoAddress ?e1_NoAddress ?ga_NoAddress ?gn_NoAddress ?cl_NoAddress ?sb_NoAddress ?mo_NoAddress ?spc0 ?tkc0 ?h0 ?h1 ?h2 ?h3 ?h4 ?h5 ?h6 ?h7 ?h8 ?h9 ?h10 ?h11 ?h12 ?h13 ?h14 ?h15 ?h16 ?h17 ?h18 ?h19 ?h20 ?h21 ?h22 ?h23 ?h24 ?h25 ?h26 ?h27 ?h28 ?h29 ?h30 ?h31 ?h32 ?h33 ?h34 ?h35 ?h36 ?h37 ?h38 ?h39 ?h40 ?h41 ?h42 ?h43 ?h44 ?z_abs ?z_all ?z_bool ?z_enumerate ?z_int ?z_isinstance ?z_len ?z_list ?z_range ?z_sorted ?z_str ?z_tuple ?z_zip ?z_GREATEST_ADDRESS ?z_MOST_DOORS ?z_MOST_HOUSES ?z_MOST_ROWS ?z_SIGNS ?y_SIGNS ?z_WORTHS ?y_WORTHS)
  (case n_Net=>k_is)
  (case g1_Net=>k_is)
  (case g2_Net=>k_is)
  (case g3_Net=>k_is)
  (case g4_Net=>k_is)
  (case u_Net_many=>k_is)
  (case u_Net_counts=>k_is)
  (case u_Net_joined=>k_is)
  (case u_Net_far=>k_is)
  (case mk_Net=>k_is)
  (case kc_Net=>k_is)
  (case n_NoBooks=>k_is)
  (case ct_NoBooks=>k_is)
  (case e1_NoBooks=>k_exc)
  (case ga_NoBooks=>k_is)
  (case gn_NoBooks=>k_is)
  (case cl_NoBooks=>k_is)
  (case sb_NoBooks=>k_is)
  (case mo_NoBooks=>k_is)
  (case n_NoDoor=>k_is)
  (case ct_NoDoor=>k_is)
  (case e1_NoDoor=>k_exc)
  (case ga_NoDoor=>k_is)
  (case gn_NoDoor=>k_is)
  (case cl_NoDoor=>k_is)
  (case sb_NoDoor=>k_is)
  (case mo_NoDoor=>k_is)
  (case n_NoAddress=>k_is)
  (case ct_NoAddress=>k_is)
  (case e1_NoAddress=>k_exc)
  (case ga_NoAddress=>k_is)
  (case gn_NoAddress=>k_is)
  (case cl_NoAddress=>k_is)
  (case sb_NoAddress=>k_is)
  (case mo_NoAddress=>k_is)
  (case spc0=>k_is)
  (case tkc0=>k_is)
  (case z_abs=>k_is)
  (case z_all=>k_is)
  (case z_bool=>k_is)
  (case z_enumerate=>k_is)
  (case z_int=>k_is)
  (case z_isinstance=>k_is)
  (case z_len=>k_is)
  (case z_list=>k_is)
  (case z_range=>k_is)
  (case z_sorted=>k_is)
  (case z_str=>k_is)
  (case z_tuple=>k_is)
  (case z_zip=>k_is)
  (case z_GREATEST_ADDRESS=>k_is)
  (case z_MOST_DOORS=>k_is)
  (case z_MOST_HOUSES=>k_is)
  (case z_MOST_ROWS=>k_is)
  (case z_SIGNS=>k_is)
  (case y_SIGNS=>k_is)
  (case z_WORTHS=>k_is)
  (case y_WORTHS=>k_is)
  (case h0=>(refine' cv.ea ?a ?l ?c ?k;(case a=>k_is);(case l=>k_is);(case c=>k_is);(case k=>k_is)))
  (case h1=>(refine' cv.ea ?a ?l ?c ?k;(case a=>k_is);(case l=>k_is);(case c=>k_is);(case k=>k_is)))
  (case h2=>(refine' cv.ea ?a ?l ?c ?k;(case a=>k_is);(case l=>k_is);(case c=>k_is);(case k=>k_is)))
  (case h3=>(refine' cv.ea ?a ?l ?c ?k;(case a=>k_is);(case l=>k_is);(case c=>k_is);(case k=>k_is)))
  (case h4=>(refine' cv.ea ?a ?l ?c ?k;(case a=>k_is);(case l=>k_is);(case c=>k_is);(case k=>k_is)))
  (case h5=>(refine' cv.ea ?a ?l ?c ?k;(case a=>k_is);(case l=>k_is);(case c=>k_is);(case k=>k_is)))
  (case h6=>(refine' cv.ea ?a ?l ?c ?k;(case a=>k_is);(case l=>k_is);(case c=>k_is);(case k=>k_is)))
  (case h7=>(refine' cv.ea ?a ?l ?c ?k;(case a=>k_is);(case l=>k_is);(case c=>k_is);(case k=>k_is)))
  (case h8=>(refine' cv.ea ?a ?l ?c ?k;(case a=>k_is);(case l=>k_is);(case c=>k_is);(case k=>k_is)))
  (case h9=>(refine' cv.ea ?a ?l ?c ?k;(case a=>k_is);(case l=>k_is);(case c=>k_is);(case k=>k_is)))
  (case h10=>(refine' cv.ea ?a ?l ?c ?k;(case a=>k_is);(case l=>k_is);(case c=>k_is);(case k=>k_is)))
  (case h11=>(refine' cv.ea ?a ?l ?c ?k;(case a=>k_is);(case l=>k_is);(case c=>k_is);(case k=>k_is)))
  (case h12=>(refine' cv.ea ?a ?l ?c ?k;(case a=>k_is);(case l=>k_is);(case c=>k_is);(case k=>k_is)))
  (case h13=>(refine' cv.ea ?a ?l ?c ?k;(case a=>k_is);(case l=>k_is);(case c=>k_is);(case k=>k_is)))
  (case h14=>(refine' cv.ea ?a ?l ?c ?k;(case a=>k_is);(case l=>k_is);(case c=>k_is);(case k=>k_is)))
  (case h15=>(refine' cv.ea ?a ?l ?c ?k;(case a=>k_is);(case l=>k_is);(case c=>k_is);(case k=>k_is)))
  (case h16=>(refine' cv.ea ?a ?l ?c ?k;(case a=>k_is);(case l=>k_is);(case c=>k_is);(case k=>k_is)))
  (case h17=>(refine' cv.ea ?a ?l ?c ?k;(case a=>k_is);(case l=>k_is);(case c=>k_is);(case k=>k_is)))
  (case h18=>(refine' cv.ea ?a ?l ?c ?k;(case a=>k_is);(case l=>k_is);(case c=>k_is);(case k=>k_is)))
  (case h19=>(refine' cv.ea ?a ?l ?c ?k;(case a=>k_is);(case l=>k_is);(case c=>k_is);(case k=>k_is)))
  (case h20=>(refine' cv.sz ?a ?l ?c ?k ?i;(case a=>k_is);(case l=>k_is);(case c=>k_is);(case k=>k_is);(case i=>k_is)))
  (case h21=>(refine' cv.ea ?a ?l ?c ?k;(case a=>k_is);(case l=>k_is);(case c=>k_is);(case k=>k_is)))
  (case h22=>(refine' cv.ea ?a ?l ?c ?k;(case a=>k_is);(case l=>k_is);(case c=>k_is);(case k=>k_is)))
  (case h23=>(refine' cv.ea ?a ?l ?c ?k;(case a=>k_is);(case l=>k_is);(case c=>k_is);(case k=>k_is)))
  (case h24=>(refine' cv.ea ?a ?l ?c ?k;(case a=>k_is);(case l=>k_is);(case c=>k_is);(case k=>k_is)))
  (case h25=>(refine' cv.ea ?a ?l ?c ?k;(case a=>k_is);(case l=>k_is);(case c=>k_is);(case k=>k_is)))
  (case h26=>(refine' cv.ea ?a ?l ?c ?k;(case a=>k_is);(case l=>k_is);(case c=>k_is);(case k=>k_is)))
  (case h27=>(refine' cv.ea ?a ?l ?c ?k;(case a=>k_is);(case l=>k_is);(case c=>k_is);(case k=>k_is)))
  (case h28=>(refine' cv.ea ?a ?l ?c ?k;(case a=>k_is);(case l=>k_is);(case c=>k_is);(case k=>k_is)))
  (case h29=>(refine' cv.sz ?a ?l ?c ?k ?i;(case a=>k_is);(case l=>k_is);(case c=>k_is);(case k=>k_is);(case i=>k_is)))
  (case h30=>(refine' cv.ea ?a ?l ?c ?k;(case a=>k_is);(case l=>k_is);(case c=>k_is);(case k=>k_is)))
  (case h31=>(refine' cv.ea ?a ?l ?c ?k;(case a=>k_is);(case l=>k_is);(case c=>k_is);(case k=>k_is)))
  (case h32=>(refine' cv.sz ?a ?l ?c ?k ?i;(case a=>k_is);(case l=>k_is);(case c=>k_is);(case k=>k_is);(case i=>k_is)))
  (case h33=>(refine' cv.sz ?a ?l ?c ?k ?i;(case a=>k_is);(case l=>k_is);(case c=>k_is);(case k=>k_is);(case i=>k_is)))
  (case h34=>(refine' cv.ea ?a ?l ?c ?k;(case a=>k_is);(case l=>k_is);(case c=>k_is);(case k=>k_is)))
  (case h35=>(refine' cv.ea ?a ?l ?c ?k;(case a=>k_is);(case l=>k_is);(case c=>k_is);(case k=>k_is)))
  (case h36=>(refine' cv.ea ?a ?l ?c ?k;(case a=>k_is);(case l=>k_is);(case c=>k_is);(case k=>k_is)))
  (case h37=>(refine' cv.sz ?a ?l ?c ?k ?i;(case a=>k_is);(case l=>k_is);(case c=>k_is);(case k=>k_is);(case i=>k_is)))
  (case h38=>(refine' cv.ea ?a ?l ?c ?k;(case a=>k_is);(case l=>k_is);(case c=>k_is);(case k=>k_is)))
  (case h39=>(refine' cv.ea ?a ?l ?c ?k;(case a=>k_is);(case l=>k_is);(case c=>k_is);(case k=>k_is)))
  (case h40=>(refine' cv.ea ?a ?l ?c ?k;(case a=>k_is);(case l=>k_is);(case c=>k_is);(case k=>k_is)))
  (case h41=>(refine' cv.ea ?a ?l ?c ?k;(case a=>k_is);(case l=>k_is);(case c=>k_is);(case k=>k_is)))
  (case h42=>(refine' cv.sz ?a ?l ?c ?k ?i;(case a=>k_is);(case l=>k_is);(case c=>k_is);(case k=>k_is);(case i=>k_is)))
  (case h43=>(refine' cv.ea ?a ?l ?c ?k;(case a=>k_is);(case l=>k_is);(case c=>k_is);(case k=>k_is)))
  (case h44=>(refine' cv.ea ?a ?l ?c ?k;(case a=>k_is);(case l=>k_is);(case c=>k_is);(case k=>k_is)))
