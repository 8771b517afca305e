import PyProof.Rows.All
import Wide.All
import OpenK.AllK
import Wide.FinOn
import Lean
import PyProof.EqAt
import PyProof.EqKinds
import PyProof.TupleCall
import PyProof.NeKinds
import KE.KIsAll
import PyProof.ExcArgsOwn
import PySem.SetOps
import PyProof.TupleKey
import PyProof.SetKind
import PyProof.IsRules
import PyProof.Rows.SetFrom
import PyProof.Rows.SortShellK
import PyProof.DictKinds
import PyProof.FactsAll.tuple_2
import PyProof.SetRoads
import PyProof.AutoListH
import PyProof.SumAny
import PyProof.StrCalls
import KE.KTab
import PyProof.StrBlock2
import PyProof.StrLawsTight
import KE.RegKIsAll
import KE.RegKTryMore
import PySem.Challenge.RW_nohalfway_k51_texts_shown_and_read
open PySem.Str renaming ofString -> As, length -> Fm, join -> Lb, ofString -> Rx, empty -> Ou
open PySem.W renaming Frag -> AZ, nsIn -> DW, mg_of -> Fj, mg_none_of -> Jt, findIn -> Hu, keepIn -> Ir, fnOf -> Iq, emptyDict -> NI, hideAll -> MM, kia_one -> ML, excIn -> La, instObj -> Oq, codeIn -> Op, plainGet -> Rk, hasDictIn -> UC, callWith_K -> Xm, plainOver -> Xa, methodCall_KW -> im, hideAll_get -> jE, plainGet_of -> jF, makesIn -> Xz, of_hideAll -> jG, isFn -> UQ, lookIn -> Y3, methodObj -> j6, cellsFrom_some -> sq, takerIn -> jV, OpenLaw -> jY, hideAll_none -> tN, kitx_tuple -> tH, kitx_list -> tE, kitx_dict -> tF
open PySem.Heap renaming get?_push_of_some -> Cv, lt_size -> D3, get?_push_size -> FV, size_push -> HU, SameBut -> IP, get?_update_other -> QD, get?_update_self -> XN, IsTuple -> UR, IsList -> Y9
open PySem renaming wpAny_bind -> Az, Value -> A4, Shared -> AL, starEach -> Ap, Addr -> A3, wpAny_pure -> CK, mainGlobals -> Ci, sizeLine -> CF, Program -> Bt, wpAny -> An, tupleKeyHash -> EP, model -> BA, Expr -> AT, Around -> C3, World -> Bg, wpAny_truthy_bool -> Ju, backTo -> Cj, behindInMarks -> HV, foldedSetIterable -> Ki, compareOp -> FK, mem_of_lookup -> MP, Heap -> B1, IsTupleKey -> Ga, wpAny_mono -> Gs, attributeBase -> JL, SetTable -> F9, Stmt -> B9, keywordEach -> Ht, eval -> BE, wpAny_field -> IQ, bootBuiltins -> Js, cellsFrom -> HB, FuncData -> GO, wpAny_seqItems -> MS, Scope -> D9, wpAny_holding -> MT, wpAny_callSpecial?_slot -> UI, sysModules -> JN, wpAny_pyIter_list -> QK, strIterType -> Kl, Keyword -> GA, wpAny_pyIter_tuple -> Rr, wpAny_Call_Name_kw -> Rs, wpAny_setField_rec -> Rt, sizeLine_eq -> LZ, backToKw -> Hw, wpAny_passesOwn -> QH, binaryOp -> IR, wpAny_call_entry -> Rn, IsPair -> FX, assignEach -> L_, cLine -> E4, call_meets -> MR, wpAny_setState_of -> UG, NameKind -> Jy, swapsWith -> MV, tupleKind_room_in1 -> Xn, holding -> JO, sliceBounds -> QM, notedBy -> JP, relabel -> JQ, ofAClassStatement -> Xd, carriedByValue -> UK, codeAny_mono -> Rw, wpAny_pyIter_zip -> XZ, wpAny_updateSeq_pair -> ig, wpAny_execs_nil -> Xx, letOwnedTupleGo -> Xy, wpAny_setField -> Xr, wpAny_letOwnedTupleGo_zip -> sw, getMethod -> QO, wpAny_newObj_type -> j8, KeyKind -> Xs, codeAny -> MW, wpAny_onRaise -> Xu, isExactStrKey -> Xw, noFill_tuple_add -> jD, wpAny_forIn_list -> j4, tupleKind -> S5, standAt -> NO, assign -> Km, seqIndex? -> S6, wpAny_specialOf -> jX, passOn -> YA, IsZip -> HW, codeAny_builtin -> ja, fitsIndex_both -> jO, newFunctionEnv -> jP, subscripted -> Y7, hashByValue -> Y8, callWith -> S1, bindArgs -> S2, compEnvC -> S3, leaving -> QR, getItem -> QS, callerA -> QT, Within -> jJ, pyNext -> NM, CmpOp -> Jz, Draws -> Kn
open List renaming getElem?_eq_getElem -> Dw, size_toArray -> DO, mem_cons_of_mem -> En, mem_of_getElem? -> F8, getD_eq_getElem?_getD -> Gq, getElem?_append_right -> HA, length_cons -> Eo, getElem?_append_left -> Hs, getElem?_map -> Fl, not_mem_nil -> FW, map_cons -> EU, range -> DT, replicate -> FU, mem_append_right -> Io, length_append -> HS, mem_cons_self -> IM, length_map -> Gp, mem_cons -> Fz, getElem?_replicate -> Oo, mem_append_left -> Oh, append_nil -> LY, replicate_succ -> Oi, find?_cons -> MN, length_nil -> MO, length_take -> NH, length_pos_of_mem -> Rg, filterMap_cons -> Q9, flatten_cons -> Og, getElem_of_mem -> QA, length_replicate -> Ro, take_append_drop -> Rp, map_map -> Kj, getElem?_set_ne -> Rq, getElem?_eq_none -> UE, getElem?_take_of_lt -> XQ, getElem?_range -> UF, getElem?_cons_succ -> XS, length_drop -> Rl, nodup_nil -> QJ, getElem?_set_self -> XT, take_of_length_le -> XU, length_singleton -> XO, getElem?_toArray -> XP, any_cons -> QG, getElem?_zipIdx -> Xg, mem_of_mem_take -> Xh, forall_mem_cons -> Xi, getElem?_zip_eq_some -> iu, all_eq_true -> UL, getElem_mem -> UM, length_erase_of_mem -> iw, of_mem_zip -> UN, all_cons -> Ry, zip_cons_cons -> Xp, getElem?_drop -> Xq, nodup_cons -> UJ, lookup -> QL, append_assoc -> Xc, eraseIdx_eq_take_drop_succ -> sl, length_filter_le -> iq, lookup_cons -> XY, eq_nil_of_length_eq_zero -> sk, take_length -> X_, mem_of_mem_drop -> ih, mem_erase_of_ne -> ii, length_eraseIdx -> ir, foldl_cons -> Y0, mem_append -> Y2, lookup_append -> jH, mem_map -> US, drop_eq_getElem_cons -> tC, extract_eq_take_drop -> sx, nodup_append -> jC, eraseIdx_cons_succ -> t6, map_take -> Xv, zipIdx_cons -> j2, nodup_range -> j3, mem_flatten -> j5, drop_eq_nil_of_le -> sv, nil_append -> jW, forIn_cons -> jZ, all_map -> YB, map_append -> j_, Perm -> S7, map_nil -> jc
open Nat renaming le_refl -> CO, lt_of_lt_of_le -> Fk, le_trans -> EB, ne_of_lt -> Em, lt_irrefl -> Hv, le_of_ble_eq_true -> NJ, le_add_right -> LX, zero_le -> Kk, ne_of_gt -> MU, lt_trichotomy -> Rj, eq_or_lt_of_le -> UB, lt_trans -> QN, le_of_lt -> Rv, lt_succ_self -> XX, lt_succ_of_lt -> j9, le_of_lt_succ -> jB, le_of_not_lt -> j1, le_succ -> Y6, succ_mul -> jU, sub_self -> jd
open Option.some renaming inj -> EH
open PySem.Value renaming ref -> Dm, none -> Gr, type -> NL, bool -> Rz, int -> YD, str -> YE
open Bool renaming false_ne_true -> IN, and_eq_true -> HT, false_eq_true -> JM, eq_iff_iff -> Rh, not_eq_true' -> UD, not_true -> UP, true_and -> Xt, and_false -> jN, not_false -> jQ, false_or -> jR, and_true -> jS
open PySem.Txt renaming join -> Dn, split -> Jw, slice -> UT
open Array renaming length_toList -> Kh, getElem?_eq_getElem -> Om, getD_eq_getD_getElem? -> QF, append_assoc -> Xk, getElem?_toList -> io, toList -> jK
open PySem.Builtin.SmallTypes renaming nextOf -> Ol, ownedTupleIsFree -> XM, ownedTupleHandOut -> so
open PyProof.Rows renaming callWith_type1 -> QE, envOfC -> Oj, IsTup -> Xo, Call_ -> jI, AllBare -> Lc, envOfC -> NN
open PySem.PassesOwn renaming never -> Jv
open Classical renaming byContradiction -> QC, choose_spec -> tL, choose -> tP
open PySem.NameKind renaming free -> Ip
open Or renaming inr -> DS, inl -> EV
open PySem.F renaming plainAttrs_list -> Rf, slot_tuple_iterator_next -> XW, slot_str_split -> XV, args_tuple_add_2 -> iv, args_str_split_2 -> ix, entry_tuple_add -> iz, entry_str_split -> ik, slot_tuple_add -> il, slot_dict_get -> ip, args_tuple_iterator_next_1 -> t8, entry_tuple_iterator_next -> tA, slot_zip_next -> Y1, slot_list_append -> sy, type_list_append -> sz, args_dict_get_2 -> t2, slot_list_index -> t4, entry_dict_get -> su, plainAttrs_str -> tK
open PySem.Builtin.Str renaming strKind -> QB, occurrences -> UH, strSliceIndices -> t9
open ForInStep renaming yield -> Os
open False renaming elim -> Jx
open Int renaming emod_lt_of_pos -> Ru, toNat_natCast -> Ri, emod_nonneg -> QI, natCast_add -> jb
open PySem.Obj renaming mapFields -> NK, isFreed_of_fields -> tM, mapSeq -> UU
open PySem.Builtin.List renaming listTooLong -> XR
open Option renaming getD_some -> Rm, isSome_map -> j7, getD_none -> j0, isSome_some -> tG
open True renaming intro -> MQ
open PySem.Heap.SameBut renaming update -> Xj, refl -> tD
open PySem.Builtin.Range renaming rangeSize -> iy
open PySem.Calls renaming spliced_cons -> Xl, spliced_nil -> Xb, evalArgs_plain -> ie, Name_function_global -> tB, callWith_builtin -> sr
open PyProof.Rows.F renaming plain_set_update_loop -> ij, entry_set_update_loop -> t5
open PySem.SetTable renaming insertAt -> Xe, leap -> jT, sizeAbove -> tI
open Function renaming comp_def -> Xf
open List.Nodup renaming length_le_of_subset -> sm
open PySem.StrLaws renaming glued_eq_join -> ic
open PySem.Data renaming cell -> Ot, fields -> Y5, seq -> UW
open PyProof.Rows.KTD renaming datumAt -> S0
open Ne renaming symm -> Ld
open PySem.Heap.IsTuple renaming push -> jA
open PySem.Shared renaming heap -> UO
open PySem.SeqAt renaming ne_of_list_tuple -> t7, RcNeAt -> YC, EqAt -> UV, RcAt -> Y4
open PySem.Around renaming under_plainId -> tO, under -> jL
open Prod renaming fst -> S4, snd -> UX
open Sum renaming inl -> QP, inr -> QQ
open List.Pairwise renaming nil -> tJ
open PySem.Code renaming isFrame -> jM
open PySem.Heap.IsList renaming push -> tQ
open List.cons renaming injEq -> tR
set_option Elab.async false
set_option linter.all false
set_option maxRecDepth 100000
noncomputable section
namespace C7
open PySem PySem.Spec PyProof.Rows
abbrev Key:=Sum Int Str
def Ta:Key->A4->Bool
 |.inl k,v=>Value.isInt k v
 |.inr x,v=>Value.isStrOf x v
def zx(w:Bg):Key->Int
 |.inl k=>hashInt k
 |.inr x=>hashStr w x
def Nr:∀{k:Key}{v:A4},Ta k v=true->(∃i t,k=QP i/\v=YD i t)\/(∃x t,k=QQ x/\v=YE x t)
 |.inl i,v,h=>by obtain⟨t,e⟩:=Value.isInt_shape (k:=i) (v:=v) h;exact .inl ⟨i,t,rfl,e⟩
 |.inr x,v,h=>by obtain⟨t,e⟩:=Value.isStrOf_shape (x:=x) (v:=v) h;exact .inr ⟨x,t,rfl,e⟩
def zy(i:Int)(t:Tok):Ta (.inl i) (.int i t)=true:=by simp[Ta,Value.isInt]
def zz(x:Str)(t:Tok):Ta (.inr x) (.str x t)=true:=by simp[Ta,Value.isStrOf]
def aa3(a b:Int):decide ((QP a:Key)=QP b)=(a==b):=by
 by_cases e:a=b
 .subst e;simp
 .have h:¬(QP a:Key)=QP b:=λq=>e (Sum.inl.inj q);rw[decide_eq_false h];exact(beq_eq_false_iff_ne.mpr e).symm
def aa6(a b:Str):decide ((QQ a:Key)=QQ b)=decide (a=b):=by
 by_cases e:a=b
 .subst e;simp
 .have h:¬(QQ a:Key)=QQ b:=λq=>e (Sum.inr.inj q);rw[decide_eq_false h,decide_eq_false e]
def aa4(a:Int)(b:Str):decide ((QP a:Key)=QQ b)=false:=decide_eq_false (λq=>nomatch q)
def aa5(a:Str)(b:Int):decide ((QQ a:Key)=QP b)=false:=decide_eq_false (λq=>nomatch q)
noncomputable def IK(prog:Bt)(w:Bg):Xs prog w Key where
 is:=Ta
 hash:=zx w
 inj:=λv a b A1 J=>by
  rcases Nr A1 with⟨i,t,rfl,rfl⟩|⟨x,t,rfl,rfl⟩
  .rcases Nr J with⟨j,u,rfl,e⟩|⟨y,u,rfl,e⟩
   .injection e with AD _;rw[AD]
   .exact nomatch e
  .rcases Nr J with⟨j,u,rfl,e⟩|⟨y,u,rfl,e⟩
   .exact nomatch e
   .injection e with AD _;rw[AD]
 byValue:=λk v h=>by rcases Nr h with⟨i,t,rfl,rfl⟩|⟨x,t,rfl,rfl⟩<;>rfl
 pyHash:=λBe h=>by
  rcases Nr Be with⟨i,t,rfl,rfl⟩|⟨x,t,rfl,rfl⟩
  .exact wpAny_pyHash_int h
  .exact wpAny_pyHash_str h
 eqBool:=λBX Be h=>by
  rcases Nr BX with⟨i,t,rfl,rfl⟩|⟨x,t,rfl,rfl⟩
  .rcases Nr Be with⟨j,u,rfl,rfl⟩|⟨y,u,rfl,rfl⟩
   .rw[aa3]at h;exact wpAny_eqBool_int h
   .rw[aa4]at h;exact SeqAt.EqAt.int_str i t y u _ _ _ _ h
  .rcases Nr Be with⟨j,u,rfl,rfl⟩|⟨y,u,rfl,rfl⟩
   .rw[aa5]at h;exact SeqAt.EqAt.str_int x t j u _ _ _ _ h
   .rw[aa6]at h;exact wpAny_eqBool_str h
 «strs»:=λk x t v h=>by
  rcases Nr h with⟨i,u,rfl,e⟩|⟨y,u,rfl,e⟩
  .exact nomatch e
  .injection e with AD _;subst AD;cases v<;>rfl
def aaT(prog:Bt)(w:Bg)(i:Int)(t:Tok):(IK prog w).is (.inl i) (.int i t)=true:=zy i t
def aaU(prog:Bt)(w:Bg)(x:Str)(t:Tok):(IK prog w).is (.inr x) (.str x t)=true:=zz x t
inductive V where
 |non|AI (b:Bool)|int (i:Int)|str (x:Str)|NF (b:Array UInt8)|Z4 (b:UInt64)|ref (a:A3)|ty (n:String)
 deriving DecidableEq
noncomputable def RelV:V->A4->Prop
 |.non,u=>u=Gr
 |.AI b,u=>u=Rz b
 |.int i,u=>∃t,u=YD i t
 |.str x,u=>∃t,u=YE x t
 |.NF b,u=>∃t,u=Value.bytes b t
 |.Z4 b,u=>∃t,u=Value.float b t
 |.ref a,u=>u=Dm a
 |.ty n,u=>u=NL n
abbrev Vals:List V->List A4->Prop:=Paired RelV
theorem Vals.length{xs:List V}{us:List A4}(r:Vals xs us):xs.length=us.length:=Paired.length r
theorem Vals.get:∀{xs:List V}{us:List A4}{i:Nat}{x:V},Vals xs us->xs[i]?=some x->∃u,us[i]?=some u/\RelV x u
 |_,_,_,_,.nil,e=>by simp at e
 |_,_,0,_,.cons r _,e=>by simp at e;subst e;exact⟨_,rfl,r⟩
 |_,_,i+1,x,.cons _ t,e=>by obtain⟨u,h1,h2⟩:=Vals.get (i:=i) (x:=x) t (by simpa using e);exact⟨u,by simpa using h1,h2⟩
theorem Vals.set{x:V}{u:A4}(r:RelV x u):∀{xs:List V}{us:List A4}(i:Nat),Vals xs us->Vals (xs.set i x) (us.set i u)
 |_,_,_,.nil=>.nil
 |_,_,0,.cons _ t=>.cons r t
 |_,_,i+1,.cons q t=>.cons q (Vals.set r i t)
theorem Vals.append:∀{xs ys:List V}{us ws:List A4},Vals xs us->Vals ys ws->Vals (xs++ys) (us++ws)
 |_,_,_,_,.nil,s=>s
 |_,_,_,_,.cons r t,s=>.cons r (Vals.append t s)
theorem Vals.take:∀{xs:List V}{us:List A4}(n:Nat),Vals xs us->Vals (xs.take n) (us.take n)
 |_,_,0,_=>.nil
 |_,_,_+1,.nil=>.nil
 |_,_,n+1,.cons r t=>.cons r (Vals.take n t)
theorem Vals.drop:∀{xs:List V}{us:List A4}(n:Nat),Vals xs us->Vals (xs.drop n) (us.drop n)
 |_,_,0,r=>r
 |_,_,_+1,.nil=>.nil
 |_,_,n+1,.cons _ t=>Vals.drop n t
def IT:Option V->Option A4->Prop
 |some v,some u=>RelV v u
 |none,none=>True
 |_,_=>False
def Ge{DR:Type}:List (DR×V)->List (DR×A4)->Prop:=Paired λ(p:DR×V)(q:DR×A4)=>p.1=q.1/\RelV p.2 q.2
def Cf:Key->V
 |.inl i=>.int i
 |.inr x=>.str x
inductive Dl where
 |lst (xs:List V)
 |tup (xs:List V)
 |Di (B3:List (Key×V))|B5 (B3:List (List Key×V))
 |set (S:Int->Bool) (n:Nat)
 |ins (C Ar:A3) (fs:List (Str×V))
 |own (x:A3)
 |ak (fs:List (Str×V))
 |met (f x:A3)
 |bQ (lo AC:Int)
 |K9 (o:Obj) (u:Dl)
 |Pn (AK:Array A4)
 |ext (Re:B1->Prop)
abbrev A8:=A3->Option Dl
def upd(H:A8)(a:A3)(o:Dl):A8:=λb=>if b=a then some o else H b
def Du{H:A8}{a:A3}{o:Dl}:upd H a o a=some o:=by unfold upd;rw[if_pos rfl]
def Df{H:A8}{a b:A3}{o:Dl}(h:b≠a):upd H a o b=H b:=by unfold upd;rw[if_neg h]
def abd{H:A8}{a b:A3}{o u:Dl}(h:H a=some o)(h':H b=some u)(d:o≠u):a≠b:=by intro e;subst e;rw[h]at h';exact d (EH h')
def Jb{H:A8}{a b:A3}{o:Dl}(h:H a=some o)(h':H b=none):a≠b:=by intro e;subst e;rw[h]at h';cases h'
section
variable(P:Bt)(w:Bg)
noncomputable def FC(H:A8)(h:B1)(a:A3):Dl->Prop
 |.lst xs=>xs.length<=CF/\∃(its:List A4)(n:Nat),Vals xs its/\h.get? a=some { cls:=.type "list",data:=.seq its.toArray n }
 |.tup xs=>xs.length<=CF/\∃its:List A4,Vals xs its/\IsTup h a its.toArray
 |.Di B3=>B3.length<=CF/\(a==JN)=false/\∃vs,Ge B3 vs/\h.DictOf (IK P w) a vs
 |.B5 B3=>B3.length<=CF/\(a==JN)=false/\∃xs:List (List Key×A3×A4),
     Paired (λ(p:List Key×V)(q:List Key×A3×A4)=>p.1=q.1/\H q.2.1=some (.tup (p.1.map Cf))/\RelV p.2 q.2.2) B3 xs/\
     ∃o es C5,h.get? a=some o/\o.ExactDict/\o.data=.dict es C5/\es.toList=xs.map (entryOfKey (S5 (IK P w)))/\(xs.map (·.1)).Nodup
 |.set S n=>h.SetOf (intKind P w) a S n
 |.ins C Ar fs=>H Ar=some (.own a)/\fs.length<=1000/\Ar≠a/\h.get? a=some (Oq C Ar)/\
     ∃Dz,h.Ns1 Ar Dz/\(∀f,IT (fs.lookup f) (Dz f))/\jJ Dz (fs.map (·.1))
 |.own _=>∃o,h.get? a=some o
 |.ak fs=>∃Dz,h.Ns1 a Dz/\∀f,IT (fs.lookup f) (Dz f)
 |.bQ lo AC=>∃t u v,h.get? a=some { cls:=.type "range",data:=.fields #[.int lo t,.int AC u,.int 1 v] }
 |.K9 o u=>h.get? a=some o/\FC H h a u
 |.Pn AK=>h.get? a=some { cls:=.none,data:=.fields AK }
 |.met f x=>h.get? a=some (j6 (.ref f) (.ref x))
 |.ext Re=>Re h/\(∃o,h.get? a=some o)/\∀h1 h2:B1,Re h1->(∀o,h1.get? a=some o->h2.get? a=some o)->Re h2
def ED(H:A8)(h:B1):Prop:=∀a o,H a=some o->FC P w H h a o
end
section
variable{P:Bt}{w:Bg}{H H':A8}{h h':B1}{a:A3}{o:Dl}
theorem FC.lt(x:FC P w H h a o):a<h.objs.size:=by
 cases o with
 |lst xs=>obtain⟨_,_,_,_,e⟩:=x;exact D3 e
 |tup xs=>obtain⟨_,_,_,p⟩:=x;exact p.lt
 |Di B3=>obtain⟨_,_,_,_,o,_,_,e,_⟩:=x;exact D3 e
 |B5 B3=>obtain⟨_,_,_,_,o,_,_,e,_⟩:=x;exact D3 e
 |set S n=>obtain⟨o,_,_,_,e,_⟩:=x;exact D3 e
 |ins C Ar fs=>obtain⟨_,_,_,e,_⟩:=x;exact D3 e
 |own y=>obtain⟨_,e⟩:=x;exact D3 e
 |ak fs=>obtain⟨_,⟨_,_,_,e,_⟩,_⟩:=x;exact D3 e
 |bQ lo AC=>obtain⟨_,_,_,e⟩:=x;exact D3 e
 |K9 Aj u=>obtain⟨e,_⟩:=x;exact D3 e
 |Pn AK=>exact D3 (show h.get? a=some _ from x)
 |met f y=>exact D3 (show h.get? a=some _ from x)
 |ext Re=>obtain⟨_,⟨_,e⟩,_⟩:=x;exact D3 e
theorem Paired.fA{α β:Type}{F G:α->β->Prop}:∀{l₁:List α}{l₂:List β},Paired F l₁ l₂->(∀a b,F a b->G a b)->Paired G l₁ l₂
 |_,_,.nil,_=>.nil
 |_,_,.cons r t,f=>.cons (f _ _ r) (Paired.fA t f)
def FC.OZ(x:FC P w H h a o)(k:∀b u,(b=a\/H b=some (.own a))->h.get? b=some u->h'.get? b=some u)(AN:∀b,H b=some (.own a)->H' b=some (.own a))(BB:∀b xs,H b=some (.tup xs)->H' b=some (.tup xs)):FC P w H' h' a o:=by
 induction o with
 |lst xs=>obtain⟨z,its,n,r,e⟩:=x;exact⟨z,its,n,r,k _ _ (.inl rfl) e⟩
 |tup xs=>obtain⟨z,its,r,Aj,e,c⟩:=x;exact⟨z,its,r,Aj,k _ _ (.inl rfl) e,c⟩
 |Di B3=>obtain⟨z,y,vs,r,Aj,es,C5,e,c⟩:=x;exact⟨z,y,vs,r,Aj,es,C5,k _ _ (.inl rfl) e,c⟩
 |B5 B3=>obtain⟨z,y,xs,r,Aj,es,C5,e,c⟩:=x;exact⟨z,y,xs,Paired.fA r λp q z=>⟨z.1,BB _ _ z.2.1,z.2.2⟩,Aj,es,C5,k _ _ (.inl rfl) e,c⟩
 |set S n=>obtain⟨Aj,es,C5,t,e,c⟩:=x;exact⟨Aj,es,C5,t,k _ _ (.inl rfl) e,c⟩
 |ins C Ar fs=>obtain⟨d,z,ne,e,Dz,⟨Dc,es,C5,AR,c⟩,r⟩:=x;exact⟨AN _ d,z,ne,k _ _ (.inl rfl) e,Dz,⟨Dc,es,C5,k _ _ (.inr d) AR,c⟩,r⟩
 |own y=>obtain⟨Aj,e⟩:=x;exact⟨Aj,k _ _ (.inl rfl) e⟩
 |ak fs=>obtain⟨Dz,⟨Dc,es,C5,e,c⟩,r⟩:=x;exact⟨Dz,⟨Dc,es,C5,k _ _ (.inl rfl) e,c⟩,r⟩
 |bQ lo AC=>obtain⟨t,u,v,e⟩:=x;exact⟨t,u,v,k _ _ (.inl rfl) e⟩
 |K9 Aj u Br=>obtain⟨e,q⟩:=x;exact⟨k _ _ (.inl rfl) e,Br q⟩
 |Pn AK=>have e:h.get? a=some { cls:=.none,data:=.fields AK }:=x;show h'.get? a=some { cls:=.none,data:=.fields AK };exact k a _ (.inl rfl) e
 |met f y=>have e:h.get? a=some (j6 (.ref f) (.ref y)):=x;show h'.get? a=some (j6 (.ref f) (.ref y));exact k a _ (.inl rfl) e
 |ext Re=>obtain⟨p,⟨o,e⟩,st⟩:=x;exact⟨st _ _ p λo q=>k _ _ (.inl rfl) q,⟨o,k _ _ (.inl rfl) e⟩,st⟩
theorem ED.lt(x:ED P w H h)(e:H a=some o):a<h.objs.size:=(x a o e).lt
def ED.fresh(x:ED P w H h)(e:h.objs.size<=a):H a=none:=by
 cases q:H a with
 |none=>rfl
 |some u=>exact absurd (Fk (x.lt q) e) (Hv _)
def ED.kept(x:ED P w H h)(k:∀b u,h.get? b=some u->h'.get? b=some u):ED P w H h':=λa o e=>
 (x a o e).OZ (λb u _ q=>k b u q) (λ_ q=>q) λ_ _ q=>q
def ED.laid(x:ED P w H h)(k:∀b u,h.get? b=some u->h'.get? b=some u)(Am:h.objs.size<=a)(new:FC P w (upd H a o) h' a o):ED P w (upd H a o) h':=λb u e=>by
 have AU:=x.fresh Am;by_cases J:b=a
 .subst J;rw[Du]at e;cases e;exact new
 .rw[Df J]at e;exact(x b u e).OZ (λc v _ q=>k c v q) (λc q=>by rw[Df (Jb q AU)];exact q) λc xs q=>by rw[Df (Jb q AU)];exact q
end
def Gf(H:A8)(a:A3)(u:Dl):Prop:=H a=some u\/∃o,H a=some (.K9 o u)
def Gf.ok{P:Bt}{w:Bg}{H:A8}{h:B1}{a:A3}{u:Dl}(r:Gf H a u)(x:ED P w H h):FC P w H h a u:=by
 rcases r with r|⟨o,r⟩
 .exact x a u r
 .obtain⟨_,q⟩:=x a _ r;exact q
def Up:Option Dl->Prop
 |some (.lst _)=>True
 |some (.Di _)=>True
 |some (.B5 _)=>True
 |some (.set _ _)=>True
 |some (.ins _ _ _)=>True
 |some (.ext _)=>True
 |_=>False
section
variable{P:Bt}{w:Bg}{H:A8}{h h':B1}{x e:A3}{BS:Dl}
def ED.write(ok:ED P w H h)(Ja:Up (H x))(he:e=x\/H e=some (.own x))(k:∀b u,b≠e->h.get? b=some u->h'.get? b=some u)(SF:∃u,h'.get? e=some u)(new:FC P w (upd H x BS) h' x BS):ED P w (upd H x BS) h':=λb u q=>by
 have p1:∀c y,H c=some (.own y)->c≠x:=λc y r z=>by subst z;rw[r]at Ja;exact Ja
 have abx:∀c xs,H c=some (.tup xs)->c≠x:=λc xs r z=>by subst z;rw[r]at Ja;exact Ja
 by_cases J:b=x
 .subst J;rw[Du]at q;cases q;exact new
 .rw[Df J]at q;by_cases Ml:b=e
  .have Cr:H b=some (.own x):=by
     rcases he with z|z
     .exact absurd (Ml.trans z) J
     .rw[Ml];exact z
   rw[q]at Cr;cases Cr;obtain⟨v,Be⟩:=SF;exact⟨v,by rw[Ml];exact Be⟩
  .refine(ok b u q).OZ (λc v AG r=>k c v ?_ r) (λc r=>by rw[Df (p1 c b r)];exact r) λc xs r=>by rw[Df (abx c xs r)];exact r
   rcases AG with rfl|AG
   .exact Ml
   .rintro rfl;rcases he with z|z
    .exact p1 c b AG z
    .rw[AG]at z;cases z;exact J rfl
end
structure EY(fs ex:List A3)(H H':A8)(h h':B1):Prop where
 keep:∀b o,h.get? b=some o->H b=none->b∉fs->b∉ex->h'.get? b=some o
 slot:∀b o,h.get? b=some o->H b=none->b∈fs->b∉ex->∃CJ,h'.get? b=some { o with slots:=CJ }
 free:∀b o,h.get? b=some o->H b=none->b∉ex->H' b=none
 there:∀b o,h.get? b=some o->b∉ex->∃BS,h'.get? b=some BS
 Hp:∀b xs,H b=some (.tup xs)->H' b=some (.tup xs)
 HN:∀b o u,H b=some (.K9 o u)->H' b=some (.K9 o u)
 Ho:∀b AK,H b=some (.Pn AK)->∃more,H' b=some (.Pn (AK++more))
section
variable{fs Z6 ex Yz:List A3}{H H1 Aw:A8}{h h1 h2 h':B1}{a x e:A3}{o:Dl}
def EY.any(u:EY fs ex H H1 h h1){b:A3}{Aj:Obj}(q:h.get? b=some Aj)(n:H b=none)(AA:b∉ex):∃CJ,h1.get? b=some { Aj with slots:=CJ }:=by
 by_cases J:b∈fs
 .exact u.slot b Aj q n J AA
 .exact⟨Aj.slots,u.keep b Aj q n J AA⟩
def EY.trans(a:EY fs ex H H1 h h1)(b:EY fs ex H1 Aw h1 h2):EY fs ex H Aw h h2 where
 keep:=λc Aj q n AG AA=>b.keep c Aj (a.keep c Aj q n AG AA) (a.free c Aj q n AA) AG AA
 slot:=λc Aj q n AG AA=>by obtain⟨CJ,AD⟩:=a.slot c Aj q n AG AA;obtain⟨hV,AR⟩:=b.slot c _ AD (a.free c Aj q n AA) AG AA;exact⟨hV,AR⟩
 free:=λc Aj q n AA=>by obtain⟨BS,AD⟩:=a.there c Aj q AA;exact b.free c BS AD (a.free c Aj q n AA) AA
 there:=λc Aj q AA=>by obtain⟨BS,AD⟩:=a.there c Aj q AA;exact b.there c BS AD AA
 Hp:=λc xs q=>b.Hp c xs (a.Hp c xs q)
 HN:=λc Aj xs q=>b.HN c Aj xs (a.HN c Aj xs q)
 Ho:=λc AK q=>by obtain⟨m1,AD⟩:=a.Ho c AK q;obtain⟨m2,AR⟩:=b.Ho c _ AD;exact⟨m1++m2,by rw[AR,Xk]⟩
def EY.kept(k:∀b u,h.get? b=some u->h'.get? b=some u):EY fs ex H H h h':=
 ⟨λb Aj q _ _ _=>k b Aj q,λb Aj q _ _ _=>⟨Aj.slots,k b Aj q⟩,λ_ _ _ n _=>n,λb Aj q _=>⟨Aj,k b Aj q⟩,λ_ _ q=>q,λ_ _ _ q=>q,λ_ AK q=>⟨#[],by rw[q];simp⟩⟩
def EY.refl:EY fs ex H H h h:=EY.kept λ_ _ q=>q
def EY.laid(k:∀b u,h.get? b=some u->h'.get? b=some u)(Am:h.objs.size<=a)(AU:H a=none):EY fs ex H (upd H a o) h h' where
 keep:=λb u q _ _ _=>k b u q
 slot:=λb u q _ _ _=>⟨u.slots,k b u q⟩
 free:=λb u q n _=>by rw[Df (Em (Fk (D3 q) Am))];exact n
 there:=λb u q _=>⟨u,k b u q⟩
 Hp:=λb xs q=>by rw[Df (Jb q AU)];exact q
 HN:=λb u xs q=>by rw[Df (Jb q AU)];exact q
 Ho:=λb AK q=>⟨#[],by rw[Df (Jb q AU),q];simp⟩
def EY.write(Ja:Up (H x))(he:e=x\/H e=some (.own x))(k:∀b u,b≠e->h.get? b=some u->h'.get? b=some u)(SF:∃u,h'.get? e=some u):EY fs ex H (upd H x o) h h':=by
 have AA:∀b,H b=none->b≠x:=λb n z=>by subst z;rw[n]at Ja;exact Ja
 have J:∀b,H b=none->b≠e:=λb n z=>by
  subst z;rcases he with r|r
  .exact AA b n r
  .rw[n]at r;cases r
 have hm:∀b u,H b=some u->¬Up (some u)->b≠x:=λb u q nm z=>by subst z;rw[q]at Ja;exact nm Ja
 refine⟨λb u q n _ _=>k b u (J b n) q,λb u q n _ _=>⟨u.slots,k b u (J b n) q⟩,λb u q n _=>by rw[Df (AA b n)];exact n,λb u q _=>?_,
  λb xs q=>by rw[Df (hm b _ q λz=>z)];exact q,λb u xs q=>by rw[Df (hm b _ q λz=>z)];exact q,λb AK q=>⟨#[],by rw[Df (hm b _ q λz=>z),q];simp⟩⟩
 by_cases Ml:b=e
 .subst Ml;exact SF
 .exact⟨u,k b u Ml q⟩
def EY.mono(u:EY fs ex H H1 h h1)(hs:∀b∈fs,b∈Z6)(AA:∀b∈ex,b∈Yz):EY Z6 Yz H H1 h h1:=
 ⟨λb Aj q n J he=>u.keep b Aj q n (λz=>J (hs b z)) λz=>he (AA b z),λ_ _ q n _ he=>u.any q n λz=>he (AA _ z),λb Aj q n he=>u.free b Aj q n λz=>he (AA b z),λb Aj q he=>u.there b Aj q λz=>he (AA b z),u.Hp,u.HN,u.Ho⟩
end
def bC(h:B1)(H:A8):List A3:=(DT h.objs.size).filter λa=>(H a).isSome
def Nn(h:B1)(H:A8):B1:=MM h (bC h H)
def wJ(h:B1)(H:A8):(Nn h H).objs.size=h.objs.size:=PySem.W.hideAll_size _ _
def wI{h:B1}{H:A8}{b:A3}{o:Obj}(e:h.get? b=some o)(n:H b=none):(Nn h H).get? b=some o:=
 jE _ e λhm=>by have q:(H b).isSome=true:=(List.mem_filter.mp hm).2;rw[n]at q;simp at q
def abE{h:B1}{H:A8}{b:A3}{o:Obj}(e:(Nn h H).get? b=some o):h.get? b=some o/\H b=none:=by
 have Bw:h.get? b=some o:=jG (bC h H) e;refine⟨Bw,?_⟩;cases q:H b with
 |none=>rfl
 |some x=>have hm:b∈bC h H:=List.mem_filter.mpr ⟨List.mem_range.mpr (D3 Bw),by simp[q]⟩;have z:(Nn h H).get? b=none:=tN (bC h H) hm;rw[z]at e;cases e
def tX(g h:B1)(L:A3):List (A3×Obj):=(DT h.objs.size).filterMap λa=>if a=L\/(g.get? a).isSome=true then none else(h.get? a).map λo=>(a,o)
def rest(g h:B1)(L d:A3):List (A3×Obj):=(tX g h L).filter λp=>decide (p.1≠d)
structure Mod(K:AZ)(mg:Str->Option A4)(base:B1):Prop where
 Mr:K.In base
 glob:base.Ns Ci mg
 blt:∃Gl,base.Ns builtinsNs Gl/\∀x:Str,x≠"__name__"->Gl x=Js x
 nolimit:base.NoLimit
structure AY where
 prog:Bt
 w:Bg
 K:AZ
 mg:Str->Option A4
 base:B1
 A:C3
 N:List Str
 Ee:AL
 N7:A8
 env:Env
 outer:List Env
 stack:List Env
 ex:List A3
 fn:Str->Bool
 calm:Bool
 Pe:List (A3×Obj)
 xe:A4->AL->Prop
def DH(l:List Env):List A3:=l.filterMap (·.frame)
abbrev AY.fs(X:AY):List A3:=DH X.outer
def H_(sc:D9)(x:Str):Prop:=sc.names.lookup x=some .local\/sc.names.lookup x=some .cell\/sc.names.lookup x=some .free
def Loc(sc:D9)(x:Str):Prop:=sc.names.lookup x=some .local\/sc.names.lookup x=some .cell
noncomputable def Look(env:Env)(h:B1)(m:Str->Option A4)(x:Str)(u:A4):Prop:=
 (env.kindOf x=some .local/\m x=some u)\/((env.kindOf x=some .cell\/env.kindOf x=some .free)/\∃c,env.cells.lookup x=some c/\h.IsCell c (some u))
structure AY.Ok(X:AY):Prop where
 mod:Mod X.K X.mg X.base
 kind:X.env.scope.kind=.function
 glob:X.env.globals=Ci
 blt:X.env.builtins=builtinsNs
 above:X.Ee.heap.objs.size<=X.env.locals
 inj:∀x y c,X.env.cells.lookup x=some c->X.env.cells.lookup y=some c->x=y
 has:∀x,(X.env.kindOf x=some .cell\/X.env.kindOf x=some .free)->∃c,X.env.cells.lookup x=some c
 Vb:∀x c,X.fn x=true->X.env.cells.lookup x=some c->X.Ee.heap.objs.size<=c
 hd:X.calm=true->X.A.handled=none
 frames:X.A.frames=some X.stack
 bg:X.stack=X.outer\/(X.stack=X.env::X.outer/\X.env.frame=some X.env.locals)
 lL:∀b∈X.ex,b≠X.env.locals/\∀x c,X.env.cells.lookup x=some c->c≠b
 bs:∀b o,X.base.get? b=some o->X.Ee.heap.get? b=some o/\X.N7 b=none
 PJ:X.base.objs.size<=X.Ee.heap.objs.size
 Pa:∀b o,X.base.get? b=some o->b∉X.ex
 Z0:∀b∈X.ex,b∉X.fs
 I_:X.Ee.heap.FunFrames X.base X.outer
 RQ:∀b∈X.fs,X.N7 b=none
structure Inv(X:AY)(pins:List (A3×Obj))(σ :List (Option V))(H:A8)(s:AL):Prop where
 ok:X.Ok
 os:s.os=X.Ee.os
 bare:Lc s.gens
 base:EY X.fs X.ex X.N7 H X.Ee.heap s.heap
 loc:∃m,s.heap.Ns X.env.locals m/\∀(i:Nat)(x:Str)(v:V),X.N[i]?=some x-> σ[i]?=some (some v)->H_ X.env.scope x->∃u,RelV v u/\Look X.env s.heap m x u
 cell:∀x c,X.env.cells.lookup x=some c->∃v,s.heap.IsCell c v
 free:H X.env.locals=none
 Mi:∀x c,X.env.cells.lookup x=some c->H c=none
 pin:∀p∈X.Pe++pins,s.heap.get? p.1=some p.2/\H p.1=none/\p.1≠X.env.locals/\p.1∉X.fs/\∀v,p.2.data≠.cell v
 BU:ED X.prog X.w H s.heap
 len: σ.length=X.N.length
section
variable{X:AY}{pins:List (A3×Obj)}{σ :List (Option V)}{H H':A8}{s:AL}{h':B1}
def AY.Ok.abn(ok:X.Ok){b:A3}{o:Obj}(e:X.base.get? b=some o):b∉X.fs:=λJ=>by have:=(ok.I_.mem J).1;rw[e]at this;cases this
theorem Inv.bs(I:Inv X pins σ H s):∀b o,X.base.get? b=some o->s.heap.get? b=some o/\H b=none:=λb o e=>
 ⟨I.base.keep b o (I.ok.bs b o e).1 (I.ok.bs b o e).2 (I.ok.abn e) (I.ok.Pa b o e),I.base.free b o (I.ok.bs b o e).1 (I.ok.bs b o e).2 (I.ok.Pa b o e)⟩
def Inv.G4(I:Inv X pins σ H s):∀b o,X.base.get? b=some o->s.heap.get? b=some o:=λb o e=>(I.bs b o e).1
theorem Inv.mod(I:Inv X pins σ H s):Mod X.K X.mg X.base:=I.ok.mod
def Inv.FI(I:Inv X pins σ H s):X.K.In s.heap:=I.ok.mod.Mr.keeps I.G4
theorem Inv.lt(I:Inv X pins σ H s):X.env.locals<s.heap.objs.size:=let⟨_,AU,_⟩:=I.loc;AU.lt
def Inv.bk(I:Inv X pins σ H s):X.Ee.heap.objs.size<=s.heap.objs.size:=EB I.ok.above (Rv I.lt)
def Inv.abp(I:Inv X pins σ H s){a:A3}(h:s.heap.objs.size<=a):a∉X.fs:=λJ=>by obtain⟨_,o,AN,_⟩:=I.ok.I_.mem J;exact absurd (Fk (D3 AN) (EB I.bk h)) (Hv _)
def Inv.RG(I:Inv X pins σ H s):∀x c,X.env.cells.lookup x=some c->c≠X.env.locals:=λx c e z=>by obtain⟨v,o,AN,hd⟩:=I.cell x c e;obtain⟨m,⟨BS,es,C5,FH,JS,_⟩,_⟩:=I.loc;rw[z,FH]at AN;cases AN;rw[JS]at hd;cases hd
theorem Inv.I_(I:Inv X pins σ H s):s.heap.FunFrames X.base X.outer:=by
 have all:∀(l:List Env),(∀b∈DH l,b∈X.fs)->X.Ee.heap.FunFrames X.base l->s.heap.FunFrames X.base l:=by
  intro l;induction l with
  |nil=>intro _ _;trivial
  |cons env r Br=>intro hs AF;obtain⟨AQ,⟨L,o,hf,AU,AN,hd⟩,A6⟩:=AF;have G6:L∈X.fs:=hs L (by unfold DH;rw[Q9,hf];exact IM);obtain⟨CJ,e⟩:=I.base.slot L o AN (I.ok.RQ L G6) G6 λz=>I.ok.Z0 L z G6;exact⟨AQ,⟨L,_,hf,AU,e,hd⟩,Br (λb J=>hs b (by unfold DH;rw[Q9,hf];exact En _ J)) A6⟩
 exact all X.outer (λ_ J=>J) I.ok.I_
theorem Inv.stack(I:Inv X pins σ H s):s.heap.FunFrames X.base X.stack:=by
 rcases I.ok.bg with e|⟨e,hf⟩
 .rw[e];exact I.I_
 .rw[e];obtain⟨m,AU,_⟩:=I.loc;refine .cons (by rw[I.ok.kind];decide) hf AU ?_ I.I_;exact Heap.get?_none_of_le (EB I.ok.PJ I.ok.above)
def Inv.bh(I:Inv X pins σ H s):∀b∈DH X.stack,b∈X.env.locals::X.fs:=λb J=>by
 rcases I.ok.bg with e|⟨e,hf⟩
 .rw[e]at J;exact En _ J
 .rw[e]at J;unfold DH at J;rw[Q9,hf]at J;exact J
def Inv.h_(I:Inv X pins σ H s):∀b∈DH X.stack,H b=none:=λb J=>by
 rcases List.mem_cons.mp (I.bh b J)with e|J
 .rw[e];exact I.free
 .obtain⟨_,o,AN,_⟩:=I.ok.I_.mem J;exact I.base.free b o AN (I.ok.RQ b J) λz=>I.ok.Z0 b z J
def Inv.step{g':Array GenState}{t':Nat}{d':Drawn}{ch:List A3}(I:Inv X pins σ H s)(Mm:∀b∈ch,(b∈X.ex\/X.Ee.heap.objs.size<=b)/\b≠X.env.locals/\(∀x c,X.env.cells.lookup x=some c->c≠b)/\∀p∈X.Pe++pins,p.1≠b)(keep:∀b o,b≠X.env.locals->b∉X.fs->b∉ch->s.heap.get? b=some o->H b=none->h'.get? b=some o)(slot:∀b o,b≠X.env.locals->b∈X.fs->b∉ch->s.heap.get? b=some o->H b=none->∃CJ,h'.get? b=some { o with slots:=CJ })(free:∀b o,b∉ch->s.heap.get? b=some o->H b=none->H' b=none)(there:∀b o,b∉ch->s.heap.get? b=some o->∃BS,h'.get? b=some BS)(Hp:∀b xs,H b=some (.tup xs)->H' b=some (.tup xs))(HN:∀b o u,H b=some (.K9 o u)->H' b=some (.K9 o u))(Ho:∀b AK,H b=some (.Pn AK)->∃more,H' b=some (.Pn (AK++more)))(ns:∀m,s.heap.Ns X.env.locals m->h'.Ns X.env.locals m)(BU:ED X.prog X.w H' h')(AW:Lc g') :
  Inv X pins σ H' { s with heap:=h',gens:=g',drawn:=d',toks:=t' }:=by
 have oz:∀b o,X.Ee.heap.get? b=some o->b≠X.env.locals:=λb o e=>Em (Fk (D3 e) I.ok.above);have a5:∀b o,X.Ee.heap.get? b=some o->b∉X.ex->b∉ch:=λb o e AA J=>by
  rcases(Mm b J).1 with z|z
  .exact AA z
  .exact absurd (Fk (D3 e) z) (Hv _)
 have cellK:∀x c,X.env.cells.lookup x=some c->∀v,s.heap.IsCell c v->h'.IsCell c v:=λx c e v⟨o,AN,hd⟩=>by
  have WA:c∉ch:=λz=>(Mm c z).2.2.1 x c e rfl;by_cases AG:c∈X.fs
  .obtain⟨CJ,q⟩:=slot c o (I.RG x c e) AG WA AN (I.Mi x c e);exact⟨_,q,hd⟩
  .exact⟨o,keep c o (I.RG x c e) AG WA AN (I.Mi x c e),hd⟩
 refine⟨I.ok,I.os,AW,⟨λb o e n J AA=>?_,λb o e n J AA=>?_,λb o e n AA=>?_,λb o e AA=>?_,λb xs e=>Hp b xs (I.base.Hp b xs e),λb o xs e=>HN b o xs (I.base.HN b o xs e),λb AK e=>?_⟩,?_,λx c e=>?_,?_,λx c e=>?_,λp Am=>?_,BU,I.len⟩
 .exact keep b o (oz b o e) J (a5 b o e AA) (I.base.keep b o e n J AA) (I.base.free b o e n AA)
 .obtain⟨CJ,AD⟩:=I.base.slot b o e n J AA;obtain⟨hV,AR⟩:=slot b _ (oz b o e) J (a5 b o e AA) AD (I.base.free b o e n AA);exact⟨hV,AR⟩
 .obtain⟨BS,AD⟩:=I.base.there b o e AA;exact free b BS (a5 b o e AA) AD (I.base.free b o e n AA)
 .obtain⟨BS,AD⟩:=I.base.there b o e AA;exact there b BS (a5 b o e AA) AD
 .obtain⟨m1,AD⟩:=I.base.Ho b AK e;obtain⟨m2,AR⟩:=Ho b _ AD;exact⟨m1++m2,by rw[AR,Xk]⟩
 .obtain⟨m,AU,AF⟩:=I.loc;refine⟨m,ns m AU,λi x v AD AR C2=>?_⟩;obtain⟨u,r,l⟩:=AF i x v AD AR C2;refine⟨u,r,?_⟩;rcases l with l|⟨k,c,e,z⟩
  .exact .inl l
  .exact .inr ⟨k,c,e,cellK x c e _ z⟩
 .obtain⟨v,z⟩:=I.cell x c e;exact⟨v,cellK x c e v z⟩
 .obtain⟨m,⟨o,_,_,AN,_⟩,_⟩:=I.loc;exact free _ o (λz=>(Mm _ z).2.1 rfl) AN I.free
 .obtain⟨v,o,AN,hd⟩:=I.cell x c e;exact free c o (λz=>(Mm c z).2.2.1 x c e rfl) AN (I.Mi x c e)
 .obtain⟨e,n,ne,Ii,d⟩:=I.pin p Am;have WA:p.1∉ch:=λz=>(Mm p.1 z).2.2.2 p Am rfl;exact⟨keep p.1 p.2 ne Ii WA e n,free p.1 p.2 WA e n,ne,Ii,d⟩
def Inv.un{t':Nat}(I:Inv X pins σ H s)(u:EY X.fs [] H H' s.heap h')(BU:ED X.prog X.w H' h'):Inv X pins σ H' { s with heap:=h',toks:=t' }:=by
 obtain⟨m,⟨o,es,C5,AN,r⟩,_⟩:=id I.loc;obtain⟨CJ,G6⟩:=u.any AN I.free (by simp);exact I.step (g':=s.gens) (d':=s.drawn) (ch:=[]) (λ_ z=>nomatch z) (λb o _ J _ e n=>u.keep b o e n J (by simp)) (λb o _ J _ e n=>u.slot b o e n J (by simp)) (λb o _ e n=>u.free b o e n (by simp)) (λb o _ e=>u.there b o e (by simp)) u.Hp u.HN u.Ho (λD0 hm=>by obtain⟨BS,es',RP,FH,BM⟩:=hm;rw[AN]at FH;cases FH;exact⟨_,es',RP,G6,BM⟩) BU I.bare
def Inv.call{g':Array GenState}{t':Nat}{d':Drawn}{ch:List A3}(I:Inv X pins σ H s)(u:EY (DH X.stack) ch H H' s.heap h')(BU:ED X.prog X.w H' h')(AW:Lc g')(Mm:∀b∈ch,(b∈X.ex\/X.Ee.heap.objs.size<=b)/\b≠X.env.locals/\(∀x c,X.env.cells.lookup x=some c->c≠b)/\∀p∈X.Pe++pins,p.1≠b) :
  Inv X pins σ H' { s with heap:=h',gens:=g',drawn:=d',toks:=t' }:=by
 obtain⟨m,⟨o,es,C5,AN,r⟩,_⟩:=id I.loc;obtain⟨CJ,G6⟩:=u.any AN I.free λz=>(Mm _ z).2.1 rfl;exact I.step (ch:=ch) Mm (λb o G6 J AG e n=>u.keep b o e n (λz=>(List.mem_cons.mp (I.bh b z)).elim G6 J) AG) (λb o _ _ AG e n=>u.any e n AG) (λb o AG e n=>u.free b o e n AG) (λb o AG e=>u.there b o e AG) u.Hp u.HN u.Ho (λD0 hm=>by obtain⟨BS,es',RP,FH,BM⟩:=hm;rw[AN]at FH;cases FH;exact⟨_,es',RP,G6,BM⟩) BU AW
def Inv.turned{t':Nat}{it:A3}(I:Inv X pins σ H s)(k:∀b o,b≠it->s.heap.get? b=some o->h'.get? b=some o)(AU:H it=none)(G6:it≠X.env.locals)(h1:it∈X.ex\/X.Ee.heap.objs.size<=it)(h2:∀x c,X.env.cells.lookup x=some c->c≠it)(h3:∀p∈X.Pe++pins,p.1≠it):Inv X pins σ H { s with heap:=h',toks:=t' }:=by
 have P_:∀b u,H b=some u->b≠it:=λb u e z=>by rw[z,AU]at e;cases e
 refine I.step (g':=s.gens) (d':=s.drawn) (ch:=[it]) (λb J=>?_) (λb o _ _ AG e _=>k b o (λz=>AG (by simp[z])) e) (λb o _ _ AG e _=>⟨o.slots,k b o (λz=>AG (by simp[z])) e⟩) (λ_ _ _ _ n=>n)
  (λb o AG e=>⟨o,k b o (λz=>AG (by simp[z])) e⟩) (λ_ _ e=>e) (λ_ _ _ e=>e) (λb AK e=>⟨#[],by rw[e];simp⟩) (λm hm=>?_) (λb u e=>?_) I.bare
 .have e:b=it:=by simpa using J
  subst e;exact⟨h1,G6,h2,h3⟩
 .obtain⟨o,es,C5,AN,r⟩:=hm;exact⟨o,es,C5,k _ o (Ld G6) AN,r⟩
 .refine(I.BU b u e).OZ (λc v AG q=>k c v ?_ q) (λ_ q=>q) λ_ _ q=>q;rcases AG with z|z
  .rw[z];exact P_ b u e
  .exact P_ c _ z
def Inv.tok(I:Inv X pins σ H s)(t:Nat):Inv X pins σ H { s with toks:=t }:=I.un (h':=s.heap) (t':=t) EY.refl I.BU
theorem Inv.kept{t':Nat}(I:Inv X pins σ H s)(k:∀b u,s.heap.get? b=some u->h'.get? b=some u):Inv X pins σ H { s with heap:=h',toks:=t' }:=I.un (EY.kept k) (I.BU.kept k)
theorem Inv.laid{a:A3}{o:Dl}{t':Nat}(I:Inv X pins σ H s)(k:∀b u,s.heap.get? b=some u->h'.get? b=some u)(Am:s.heap.objs.size<=a)(new:FC X.prog X.w (upd H a o) h' a o) :
  Inv X pins σ (upd H a o) { s with heap:=h',toks:=t' }:=I.un (EY.laid k Am (I.BU.fresh Am)) (I.BU.laid k Am new)
theorem Inv.write{x e:A3}{o:Dl}{t':Nat}(I:Inv X pins σ H s)(Ja:Up (H x))(he:e=x\/H e=some (.own x))(k:∀b u,b≠e->s.heap.get? b=some u->h'.get? b=some u)(SF:∃u,h'.get? e=some u)(new:FC X.prog X.w (upd H x o) h' x o):Inv X pins σ (upd H x o) { s with heap:=h',toks:=t' }:=I.un (EY.write Ja he k SF) (I.BU.write Ja he k SF new)
def Inv.pa{p_:List (A3×Obj)}(I:Inv X pins σ H s)(h:∀p∈p_,s.heap.get? p.1=some p.2/\H p.1=none/\p.1≠X.env.locals/\p.1∉X.fs/\∀v,p.2.data≠.cell v):Inv X p_ σ H s:=
 ⟨I.ok,I.os,I.bare,I.base,I.loc,I.cell,I.free,I.Mi,λp Am=>(List.mem_append.mp Am).elim (λz=>I.pin p (Oh _ z)) (h p),I.BU,I.len⟩
def oR{N:List Str}(Bs:N.Nodup){i j:Nat}{x:Str}(a:N[i]?=some x)(b:N[j]?=some x):i=j:=by obtain⟨h1,AD⟩:=List.getElem?_eq_some_iff.mp a;obtain⟨h2,AR⟩:=List.getElem?_eq_some_iff.mp b;exact(List.getElem_inj Bs).mp (AD.trans AR.symm)
def qr{M:Model}{A:C3}{E:A4->AL->Prop}{i:Nat}{x:Str}{v:V}{u:A4}{Q:Unit->AL->Prop}(I:Inv X pins σ H s)(Bs:X.N.Nodup)(AC:X.N[i]?=some x)(AA:Loc X.env.scope x)(r:RelV v u)(h:∀s',Inv X pins (σ.set i (some v)) H s'->(∃a,IP a s.heap s'.heap/\(a=X.env.locals\/X.env.cells.lookup x=some a))->Q () s')(hf:X.fn x=true\/X.env.scope.names.lookup x=some .local:=by first|exact .inl rfl|exact .inr rfl|assumption):An M A (storeName X.env x u) Q E s:=by
 obtain⟨m,AU,AF⟩:=id I.loc;have we:(X.env.scope.kind==.class||(X.env.scope.kind==.module&&X.env.locals !=X.env.globals))=false:=by rw[I.ok.kind];rfl
 have ACσ :i< σ.length:=by rw[I.len];exact(List.getElem?_eq_some_iff.mp AC).1
 have RG:=I.RG;have tracked:∀{a:A3}{h':B1},(∃o,s.heap.get? a=some o/\H a=none)->IP a s.heap h'->ED X.prog X.w H h':=λ{a h'} A1 hs b Aj e=>by
  obtain⟨_,_,Yh⟩:=A1;refine(I.BU b Aj e).OZ (λc Ff AG q=>(hs.2 c ?_).trans q) (λ_ q=>q) λ_ _ q=>q;rintro rfl;rcases AG with rfl|AG
  .rw[Yh]at e;cases e
  .rw[Yh]at AG;cases AG
 rcases AA with AQ|AQ
 .refine wpAny_storeName_local AQ AU (λh' xu hs=>?_) we;obtain⟨ac0,_,_,y0,_⟩:=id AU;refine h _ ⟨I.ok,I.os,I.bare,⟨λb o e n J AA=>?_,λb o e n J AA=>?_,I.base.free,λb o e AA=>?_,I.base.Hp,I.base.HN,I.base.Ho⟩,⟨_,xu,λj y LP AD AR C2=>?_⟩,λy c e=>?_,I.free,I.Mi,λp Am=>?_,tracked ⟨ac0,y0,I.free⟩ hs,by simpa using I.len⟩ ⟨_,hs,.inl rfl⟩
  .exact(hs.2 b (Em (Fk (D3 e) I.ok.above))).trans (I.base.keep b o e n J AA)
  .obtain⟨CJ,AD⟩:=I.base.slot b o e n J AA;exact⟨CJ,(hs.2 b (Em (Fk (D3 e) I.ok.above))).trans AD⟩
  .obtain⟨BS,AD⟩:=I.base.there b o e AA;exact⟨BS,(hs.2 b (Em (Fk (D3 e) I.ok.above))).trans AD⟩
  .by_cases Bx:j=i
   .subst Bx;rw[AC]at AD;cases AD;rw[XT ACσ]at AR;cases AR;exact⟨u,r,.inl ⟨AQ,by simp⟩⟩
   .rw[Rq (Ld Bx)]at AR;obtain⟨H8,BM,q⟩:=AF j y LP AD AR C2;refine⟨H8,BM,?_⟩;rcases q with⟨k,e⟩|⟨k,c,e,z⟩
    .refine .inl ⟨k,?_⟩;have:y≠x:=λe=>Bx (oR Bs AD (e▸AC));simp[this,e]
    .exact .inr ⟨k,c,e,z.sameBut hs (RG y c e)⟩
  .obtain⟨Ff,z⟩:=I.cell y c e;exact⟨Ff,z.sameBut hs (RG y c e)⟩
  .obtain⟨e,n,ne,Ii,d⟩:=I.pin p Am;exact⟨(hs.2 p.1 ne).trans e,n,ne,Ii,d⟩
 .have eA:X.fn x=true:=by
    rcases hf with z|z
    .exact z
    .rw[z]at AQ;cases AQ
  obtain⟨c,AG⟩:=I.ok.has x (.inl AQ);obtain⟨Ff,z⟩:=I.cell x c AG;refine wpAny_storeName_cell I.ok.kind AQ AG z (λh' JR hs=>?_);obtain⟨Ey,oH,y1⟩:=id z;refine h { s with heap:=h' } ⟨I.ok,I.os,I.bare,⟨λb o e n J AA=>?_,λb o e n J AA=>?_,I.base.free,λb o e AA=>?_,I.base.Hp,I.base.HN,I.base.Ho⟩,⟨m,AU.sameBut hs (Ld (RG x c AG)),λj y LP AD AR C2=>?_⟩,λy EQ e=>?_,I.free,I.Mi,λp Am=>?_,tracked ⟨Ey,oH,I.Mi x c AG⟩ hs,by simpa using I.len⟩ ⟨c,hs,.inr AG⟩
  .exact(hs.2 b (Em (Fk (D3 e) (I.ok.Vb x c eA AG)))).trans (I.base.keep b o e n J AA)
  .obtain⟨CJ,AD⟩:=I.base.slot b o e n J AA;exact⟨CJ,(hs.2 b (Em (Fk (D3 e) (I.ok.Vb x c eA AG)))).trans AD⟩
  .obtain⟨BS,AD⟩:=I.base.there b o e AA;exact⟨BS,(hs.2 b (Em (Fk (D3 e) (I.ok.Vb x c eA AG)))).trans AD⟩
  .by_cases Bx:j=i
   .subst Bx;rw[AC]at AD;cases AD;rw[XT ACσ]at AR;cases AR;exact⟨u,r,.inr ⟨.inl AQ,c,AG,JR⟩⟩
   .rw[Rq (Ld Bx)]at AR;obtain⟨H8,BM,q⟩:=AF j y LP AD AR C2;refine⟨H8,BM,?_⟩;rcases q with q|⟨k,EQ,e,FT⟩
    .exact .inl q
    .refine .inr ⟨k,EQ,e,FT.sameBut hs ?_⟩;rintro rfl;exact Bx (oR Bs AD (I.ok.inj _ _ _ e AG▸AC))
  .by_cases o1:EQ=c
   .subst o1;exact⟨_,JR⟩
   .obtain⟨Eu,Co⟩:=I.cell y EQ e;exact⟨Eu,Co.sameBut hs o1⟩
  .obtain⟨e,n,ne,Ii,d⟩:=I.pin p Am;refine⟨(hs.2 p.1 ?_).trans e,n,ne,Ii,d⟩;intro q;rw[q,oH]at e;have Cr:Ey=p.2:=EH e;exact d Ff (by rw[<-Cr];exact y1)
def ha{M:Model}{A:C3}{E:A4->AL->Prop}{i:Nat}{x:Str}{v:V}{u:A4}{Q:Unit->AL->Prop}(I:Inv X pins σ H s)(Bs:X.N.Nodup)(AC:X.N[i]?=some x)(AA:Loc X.env.scope x)(r:RelV v u)(h:∀s',Inv X pins (σ.set i (some v)) H s'->Q () s')(hf:X.fn x=true\/X.env.scope.names.lookup x=some .local:=by first|exact .inl rfl|exact .inr rfl|assumption):An M A (storeName X.env x u) Q E s:=
 qr I Bs AC AA r (λs' KC _=>h s' KC) hf
def Inv.vH{s':AL}{ch:List A3}(I:Inv X pins σ H s)(AN:s'.os=s.os)(u:EY (DH X.stack) ch H H' s.heap s'.heap)(BU:ED X.prog X.w H' s'.heap)(AW:Lc s'.gens)(Mm:∀b∈ch,(b∈X.ex\/X.Ee.heap.objs.size<=b)/\b≠X.env.locals/\(∀x c,X.env.cells.lookup x=some c->c≠b)/\∀p∈X.Pe++pins,p.1≠b):Inv X pins σ H' s':=by obtain⟨h',g',d',t',BS⟩:=s';have e:BS=s.os:=AN;subst e;exact I.call (g':=g') (t':=t') (d':=d') u BU AW Mm
end
abbrev CS:=A4->Option A3->A8->Prop
abbrev St:=List (Option V)
abbrev C_:=V->A8->Prop
abbrev TE:=St->A8->C_->Prop
abbrev TT:=St->A8->(Bool->A8->Prop)->Prop
abbrev EX:=St->A8->(List V->A8->Prop)->Prop
structure Ends where
 Bb:St->A8->Prop
 Ed:C_
 G4:St->A8->Prop:=λ_ _=>False
 Cn:St->A8->Prop:=λ_ _=>False
abbrev Ew:=Ends->St->A8->Prop
def G1(X:AY)(pins:List (A3×Obj))(σ :St)(Q:C_)(u:A4)(s':AL):Prop:=∃v H',Inv X pins σ H' s'/\RelV v u/\Q v H'
def YI(X:AY)(pins:List (A3×Obj))(σ :St)(Q:Bool->A8->Prop)(b:Bool)(s':AL):Prop:=∃H',Inv X pins σ H' s'/\Q b H'
def u4(X:AY)(pins:List (A3×Obj))(σ :St)(Q:List V->A8->Prop)(us:List A4)(s':AL):Prop:=∃vs H',Inv X pins σ H' s'/\Vals vs us/\Q vs H'
noncomputable def P9(X:AY)(pins:List (A3×Obj))(D:Ends)(f:Flow)(s':AL):Prop:=
 match f with
 |.next=>∃ σ' H',Inv X pins σ' H' s'/\D.Bb σ' H'
 |.brk=>∃ σ' H',Inv X pins σ' H' s'/\D.G4 σ' H'
 |.cont=>∃ σ' H',Inv X pins σ' H' s'/\D.Cn σ' H'
 |.ret u=>∃v σ' H',Inv X pins σ' H' s'/\RelV v u/\D.Ed v H'
def Ao(X:AY)(e:AT)(t:TE):Prop:=
 ∀(pins:List (A3×Obj))(s:AL)(σ :St)(H:A8)(Q:C_),Inv X pins σ H s->t σ H Q->An (BA X.prog X.w) X.A (BE e X.env) (G1 X pins σ Q) X.xe s
noncomputable def FD(X:AY)(e:AT)(t:TT):Prop:=
 ∀(pins:List (A3×Obj))(s:AL)(σ :St)(H:A8)(Q:Bool->A8->Prop),Inv X pins σ H s->t σ H Q->An (BA X.prog X.w) X.A (isTrue e X.env (BE e X.env)) (YI X pins σ Q) X.xe s
noncomputable def Ix(X:AY)(e:AT)(t:TT):Prop:=
 ∀(whole:Sem A4)(pins:List (A3×Obj))(s:AL)(σ :St)(H:A8)(Q:Bool->A8->Prop),Inv X pins σ H s->t σ H Q->An (BA X.prog X.w) X.A (isTrue e X.env whole) (YI X pins σ Q) X.xe s
def Ix.pt{X:AY}{e:AT}{t:TT}(h:Ix X e t):FD X e t:=h _
noncomputable def F1(X:AY)(es:List AT)(t:EX):Prop:=
 ∀(pos:Pos)(pins:List (A3×Obj))(s:AL)(σ :St)(H:A8)(Q:List V->A8->Prop),Inv X pins σ H s->t σ H Q->An (BA X.prog X.w) X.A (spliced (Cj pos (Ap es X.env))) (u4 X pins σ Q) X.xe s
def DF(X:AY)(st:B9)(t:Ew):Prop:=
 ∀(pins:List (A3×Obj))(s:AL)(σ :St)(H:A8)(D:Ends),Inv X pins σ H s->t D σ H->An (BA X.prog X.w) X.A (exec st X.env) (P9 X pins D) X.xe s
def GU(X:AY)(st:List B9)(t:Ew):Prop:=
 ∀(pins:List (A3×Obj))(s:AL)(σ :St)(H:A8)(D:Ends),Inv X pins σ H s->t D σ H->An (BA X.prog X.w) X.A (execs st X.env) (P9 X pins D) X.xe s
def Ba{α:Type}{t:Sem α}{Q Lw:α->AL->Prop}{M:Model}{A:C3}{E:A4->AL->Prop}{s:AL}(h:An M A t Q E s)(GH:∀a s,Q a s->Lw a s):An M A t Lw E s:=Gs h GH λ_ _ x=>x
section
variable{X:AY}
def bin{a b:AT}{Bu tb:TE}(A1:Ao X a Bu)(J:Ao X b tb){pins:List (A3×Obj)}{s:AL}{σ :St}{H:A8}{R:V->V->A8->Prop}(I:Inv X pins σ H s)(h:Bu σ H λx H1=>tb σ H1 λy Aw=>R x y Aw){α:Type}{Q:α->AL->Prop}{f:A4->A4->Sem α}(hf:∀v u s2 x y Aw,Inv X pins σ Aw s2->RelV x v->RelV y u->R x y Aw->An (BA X.prog X.w) X.A (f v u) Q X.xe s2) :
  An (BA X.prog X.w) X.A (BE a X.env) (λv Ct=>An (BA X.prog X.w) X.A (BE b X.env) (λu Hm=>An (BA X.prog X.w) X.A (f v u) Q X.xe Hm) X.xe Ct) X.xe s:=by
 refine Ba (A1 pins s σ H _ I h) λv s1⟨x,H1,Ak,AE,Aa⟩=>?_;refine Ba (J pins s1 σ H1 _ Ak Aa) λu s2⟨y,Aw,Bq,B4,B0⟩=>?_;exact hf v u s2 x y Aw Bq AE B4 B0
def hh(i:Nat):TE:=λσ H Q=>∃v,σ[i]?=some (some v)/\Q v H
def Qb(v:V):TE:=λ_ H Q=>Q v H
def Ks{i:Nat}{x:Str}{pos:Pos}(Bs:X.N[i]?=some x)(Be:H_ X.env.scope x)(hd:(x==("__debug__" :Str))=false:=by decide)(Dj:(x==("__classdict__" :Str))=false:=by decide):Ao X (.Name x pos) (hh i):=by
 intro pins s σ H Q I h;obtain⟨v,e,h⟩:=h;obtain⟨m,AU,AF⟩:=I.loc;obtain⟨u,r,l⟩:=AF i x v Bs e Be;have fin:G1 X pins σ Q u s:=⟨v,H,I,r,h⟩;rcases l with⟨AQ,hm⟩|⟨AQ,c,AG,ZE⟩
 .exact wpAny_Name (wpAny_loadName_local I.ok.kind AQ AU hm fin) hd
 .rcases AQ with AQ|AQ
  .exact wpAny_Name (wpAny_loadName_cell I.ok.kind AQ AG ZE fin) hd
  .exact wpAny_Name (wpAny_loadName_free I.ok.kind AQ AG ZE fin Dj) hd
def ad3{i j pos}:Ao X (.Constant (.int i) j pos) (Qb (.int i)):=λ_ _ _ H _ I h=>wpAny_Constant_int ⟨.int i,H,I.tok _,⟨_,rfl⟩,h⟩
def acu{b j pos}:Ao X (.Constant (.bool b) j pos) (Qb (.AI b)):=λ_ _ _ H _ I h=>Constant_bool ⟨.AI b,H,I,rfl,h⟩
def acG{j pos}:Ao X (.Constant .none j pos) (Qb .non):=λ_ _ _ H _ I h=>Constant_none ⟨.non,H,I,rfl,h⟩
def eo{x j pos}:Ao X (.Constant (.str x) j pos) (Qb (.str x)):=λ_ _ _ H _ I h=>Calls.Constant_str ⟨.str x,H,I.tok _,⟨_,rfl⟩,h⟩
def DI(X:AY)(x:Str):Prop:=X.env.kindOf x=some .globalImplicit
def aT{E:A4->AL->Prop}{pins:List (A3×Obj)}{s:AL}{σ :St}{H:A8}{x:Str}{u:A4}{pos:Pos}{Q:A4->AL->Prop}(I:Inv X pins σ H s)(AW:DI X x)(hm:X.mg x=some u)(h:Q u s)(hd:(x==("__debug__" :Str))=false:=by decide):An (BA X.prog X.w) X.A (BE (.Name x pos) X.env) Q E s:=
 tB I.ok.kind AW (Calls.loadGlobal_global (by rw[I.ok.glob];exact I.mod.glob.keeps I.G4) hm h) hd
def Nu{E:A4->AL->Prop}{pins:List (A3×Obj)}{s:AL}{σ :St}{H:A8}{x:Str}{u:A4}{pos:Pos}{Q:A4->AL->Prop}(I:Inv X pins σ H s)(AW:DI X x)(hm:X.mg x=none)(Be:Js x=some u)(h:Q u s)(AU:x≠"__name__":=by decide)(hd:(x==("__debug__" :Str))=false:=by decide):An (BA X.prog X.w) X.A (BE (.Name x pos) X.env) Q E s:=by obtain⟨Gl,h1,h2⟩:=I.mod.blt;exact tB I.ok.kind AW (Calls.loadGlobal_builtin (by rw[I.ok.glob];exact I.mod.glob.keeps I.G4) hm (by rw[I.ok.blt];exact h1.keeps I.G4) ((h2 x AU).trans Be) h) hd
def qS{x:Str}{v:V}{u:A4}{pos:Pos}(AW:DI X x)(hm:X.mg x=some u)(r:RelV v u)(hd:(x==("__debug__" :Str))=false:=by decide):Ao X (.Name x pos) (Qb v):=
 λ_ _ _ H _ I h=>aT I AW hm ⟨v,H,I,r,h⟩ hd
def acv{x:Str}{v:V}{u:A4}{pos:Pos}(AW:DI X x)(hm:X.mg x=none)(Be:Js x=some u)(r:RelV v u)(AU:x≠"__name__":=by decide)(hd:(x==("__debug__" :Str))=false:=by decide):Ao X (.Name x pos) (Qb v):=
 λ_ _ _ H _ I h=>Nu I AW hm Be ⟨v,H,I,r,h⟩ AU hd
variable{a b:AT}{Bu tb:TE}{pos:Pos}
noncomputable def Yf(X:AY)(op:Jz)(a b:AT)(t:TE):Prop:=
 ∀(pins:List (A3×Obj))(s:AL)(σ :St)(H:A8)(Q:C_),Inv X pins σ H s->t σ H Q->
  An (BA X.prog X.w) X.A (BE a X.env) (λv Ct=>An (BA X.prog X.w) X.A (BE b X.env) (λu Hm=>An (BA X.prog X.w) X.A (FK op v u) (G1 X pins σ Q) X.xe Hm) X.xe Ct) X.xe s
def oQ(b:AT){op:Jz}(h:op≠.In)(h2:op≠.NotIn):HV op b=false:=by
 have AD:(op==CmpOp.In)=false:=by cases op<;>first|rfl|exact absurd rfl h
 have AR:(op==CmpOp.NotIn)=false:=by cases op<;>first|rfl|exact absurd rfl h2
 cases b<;>simp[HV,AD,AR]
def gy(t:TE):TT:=λσ H Q=>t σ H λx H1=>∃c,x=.AI c/\Q c H1
def qQ{op:Jz}{t:TE}(h:Yf X op a b t)(h1:HV op b=false:=by first|exact oQ _ (by decide) (by decide)|rfl):Ao X (.Compare a [op] [b] pos) t:=λpins s σ H Q I hw=>wpAny_Compare1 (h pins s σ H Q I hw) h1
def adj{op:Jz}{t:TE}(h:Yf X op a b t)(h1:HV op b=false:=by first|exact oQ _ (by decide) (by decide)|rfl):FD X (.Compare a [op] [b] pos) (gy t):=by intro pins s σ H Q I hw;refine wpAny_isTrue_Compare1 (Ba (h pins s σ H _ I hw) λv s1 h1=>Ba h1 λu s2 h2=>Ba h2 λc s3⟨x,H1,Ak,AE,Aa⟩=>?_) h1;obtain⟨d,rfl,q⟩:=Aa;cases AE;exact Ju ⟨H1,Ak,q⟩
def adm{e:AT}{t:TE}(h:Ao X e t)(he:∀whole,isTrue e X.env whole=(do let v <-whole;NO e.pos;JO [v] (truthy v)):=by intro _;rfl):FD X e (gy t):=by intro pins s σ H Q I hw;refine isTrue_plain (Ba (h pins s σ H _ I hw) λv s1⟨x,H1,Ak,AE,Aa⟩=>?_) (he _);obtain⟨d,rfl,q⟩:=Aa;cases AE;exact Ju ⟨H1,Ak,q⟩
variable{EM az:TT}{rest:List AT}
def r0(t u:TT):TT:=λσ H Q=>t σ H λc H1=>if c=true then u σ H1 Q else Q false H1
def qc(t u:TT):TT:=λσ H Q=>t σ H λc H1=>if c=true then Q true H1 else u σ H1 Q
def qa(t:TT):TT:=λσ H Q=>t σ H λc H1=>Q (!c) H1
def adu(A1:FD X a EM):Ix X (.BoolOp .And [a] pos) EM:=by
 intro Qg pins s σ H Q I h;refine isTrue_and (Ba (A1 pins s σ H Q I h) λc s1 e=>?_);cases c with
 |true=>exact isTrue_and_nil e
 |false=>exact e
def adw(A1:FD X a EM):Ix X (.BoolOp .Or [a] pos) EM:=by
 intro Qg pins s σ H Q I h;refine isTrue_or (Ba (A1 pins s σ H Q I h) λc s1 e=>?_);cases c with
 |false=>exact isTrue_or_nil e
 |true=>exact e
def adt(A1:FD X a EM)(J:Ix X (.BoolOp .And (b::rest) pos) az):Ix X (.BoolOp .And (a::b::rest) pos) (r0 EM az):=by
 intro Qg pins s σ H Q I h;refine isTrue_and (Ba (A1 pins s σ H _ I h) λc s1⟨H1,Ak,Aa⟩=>?_);cases c with
 |true=>exact J Qg pins s1 σ H1 Q Ak Aa
 |false=>exact⟨H1,Ak,Aa⟩
def adv(A1:FD X a EM)(J:Ix X (.BoolOp .Or (b::rest) pos) az):Ix X (.BoolOp .Or (a::b::rest) pos) (qc EM az):=by
 intro Qg pins s σ H Q I h;refine isTrue_or (Ba (A1 pins s σ H _ I h) λc s1⟨H1,Ak,Aa⟩=>?_);cases c with
 |true=>exact⟨H1,Ak,Aa⟩
 |false=>exact J Qg pins s1 σ H1 Q Ak Aa
def adl(A1:FD X a EM):FD X (.UnaryOp .Not a pos) (qa EM):=by intro pins s σ H Q I h;exact isTrue_not (A1 pins s σ H (λc H1=>Q (!c) H1) I h)
def r1(Bu tb:TE):TE:=λσ H Q=>Bu σ H λx H1=>∃c,x=.AI c/\if c=true then tb σ H1 Q else Q (.AI false) H1
def qd(Bu tb:TE):TE:=λσ H Q=>Bu σ H λx H1=>∃c,x=.AI c/\if c=true then Q (.AI true) H1 else tb σ H1 Q
def qb(Bu:TE):TE:=λσ H Q=>Bu σ H λx H1=>∃c,x=.AI c/\Q (.AI (!c)) H1
def acI{op}{t:TE}(h:Ao X a t):Ao X (.BoolOp op [a] pos) t:=λpins s σ H Q I hw=>BoolOp_one (h pins s σ H Q I hw)
def acs(A1:Ao X a Bu)(J:Ao X (.BoolOp .And (b::rest) pos) tb):Ao X (.BoolOp .And (a::b::rest) pos) (r1 Bu tb):=by
 intro pins s σ H Q I h;refine BoolOp_and (Ba (A1 pins s σ H _ I h) λv s1⟨x,H1,Ak,AE,Aa⟩=>?_);obtain⟨c,rfl,Aa⟩:=Aa;cases AE;refine Ju ?_;cases c with
 |true=>exact J pins s1 σ H1 Q Ak Aa
 |false=>exact⟨.AI false,H1,Ak,rfl,Aa⟩
def acJ(A1:Ao X a Bu)(J:Ao X (.BoolOp .Or (b::rest) pos) tb):Ao X (.BoolOp .Or (a::b::rest) pos) (qd Bu tb):=by
 intro pins s σ H Q I h;refine BoolOp_or (Ba (A1 pins s σ H _ I h) λv s1⟨x,H1,Ak,AE,Aa⟩=>?_);obtain⟨c,rfl,Aa⟩:=Aa;cases AE;refine Ju ?_;cases c with
 |false=>exact J pins s1 σ H1 Q Ak Aa
 |true=>exact⟨.AI true,H1,Ak,rfl,Aa⟩
def acH(A1:Ao X a Bu):Ao X (.UnaryOp .Not a pos) (qb Bu):=by intro pins s σ H Q I h;refine UnaryOp_ (Ba (A1 pins s σ H _ I h) λv s1⟨x,H1,Ak,AE,Aa⟩=>?_);obtain⟨c,rfl,Aa⟩:=Aa;cases AE;exact not_of (Ju ⟨.AI (!c),H1,Ak,rfl,Aa⟩)
def qX(t:TT)(Bu tb:TE):TE:=λσ H Q=>t σ H λc H1=>if c=true then Bu σ H1 Q else tb σ H1 Q
def ad2{c:AT}(AG:FD X c EM)(A1:Ao X a Bu)(J:Ao X b tb):Ao X (.IfExp c a b pos) (qX EM Bu tb):=by
 intro pins s σ H Q I h;refine wpAny_IfExp (Ba (AG pins s σ H _ I h) λd s1⟨H1,Ak,Aa⟩=>?_);cases d with
 |true=>exact A1 pins s1 σ H1 Q Ak Aa
 |false=>exact J pins s1 σ H1 Q Ak Aa
end
noncomputable def Bp(K:AZ)(H:A8)(a:A3)(xs:List V):Prop:=
 Gf H a (.lst xs)\/
  ∃(o:Obj)(its:Array A4)(n:Nat),K.lookup a=some o/\o.cls=.type "list"/\o.dict=none/\o.data=.seq its n/\its.size<=CF/\Vals xs its.toList
noncomputable def CA(K:AZ)(H:A8)(a:A3)(xs:List V):Prop:=
 Gf H a (.tup xs)\/
  ∃(o:Obj)(its:Array A4)(n:Nat),K.lookup a=some o/\o.cls=.type "tuple"/\o.data=.seq its n/\its.size<=CF/\Vals xs its.toList
noncomputable def ts:A4->Option V
 |.none=>some .non
 |.bool b=>some (.AI b)
 |.int i _=>some (.int i)
 |.str x _=>some (.str x)
 |.bytes b _=>some (.NF b)
 |.float b _=>some (.Z4 b)
 |.ref a=>some (.ref a)
 |.type n=>some (.ty n)
 |_=>none
def RelV.abs{x:V}{u:A4}(r:RelV x u):ts u=some x:=by
 cases x with
 |non=>cases r;rfl
 |AI _=>cases r;rfl
 |int _=>obtain⟨t,rfl⟩:=r;rfl
 |str _=>obtain⟨t,rfl⟩:=r;rfl
 |NF _=>obtain⟨t,rfl⟩:=r;rfl
 |Z4 _=>obtain⟨t,rfl⟩:=r;rfl
 |ref _=>cases r;rfl
 |ty _=>cases r;rfl
def RelV.inj{x y:V}{u:A4}(r:RelV x u)(q:RelV y u):x=y:=EH (r.abs.symm.trans q.abs)
theorem Vals.inj:∀{xs ys:List V}{us:List A4},Vals xs us->Vals ys us->xs=ys
 |_,_,_,.nil,.nil=>rfl
 |_,_,_,.cons r t,.cons BM t'=>by rw[r.inj BM,Vals.inj t t']
section
variable{X:AY}{pins:List (A3×Obj)}{σ :St}{H:A8}{s:AL}{a:A3}{xs ys:List V}
def Bp.of{K:AZ}(h:H a=some (.lst xs)):Bp K H a xs:=.inl (.inl h)
def CA.of{K:AZ}(h:H a=some (.tup xs)):CA K H a xs:=.inl (.inl h)
def Inv.list(I:Inv X pins σ H s)(h:Bp X.K H a xs):∃its:List A4,Vals xs its/\PlainL s.heap a its.toArray/\xs.length<=CF:=by
 rcases h with h|⟨o,its,n,AQ,AG,hd,hs,BL,r⟩
 .obtain⟨z,its,n,r,e⟩:=h.ok I.BU;exact⟨its,r,⟨_,n,e,rfl,rfl,rfl⟩,z⟩
 .refine⟨its.toList,r,⟨o,n,I.FI a o AQ,AG,hd,by simpa using hs⟩,?_⟩;have e:=r.length;simp only[Kh]at e;omega
def Inv.tuple(I:Inv X pins σ H s)(h:CA X.K H a xs):∃its:List A4,Vals xs its/\IsTup s.heap a its.toArray/\xs.length<=CF:=by
 rcases h with h|⟨o,its,n,AQ,AG,hs,BL,r⟩
 .obtain⟨z,its,r,p⟩:=h.ok I.BU;exact⟨its,r,p,z⟩
 .refine⟨its.toList,r,⟨o,I.FI a o AQ,AG,n,by simpa using hs⟩,?_⟩;have e:=r.length;simp only[Kh]at e;omega
def Inv.aU(I:Inv X pins σ H s)(h:Bp X.K H a xs)(h':Bp X.K H a ys):xs=ys:=by
 obtain⟨its,r,⟨o,n,e,_,_,d⟩,_⟩:=I.list h;obtain⟨its',BM,⟨BS,W8,Bw,_,_,d'⟩,_⟩:=I.list h';rw[e]at Bw;cases Bw;rw[d]at d';injection d' with d1 _;have:its=its':=by simpa using congrArg jK d1
 subst this;exact r.inj BM
def Inv.bD(I:Inv X pins σ H s)(h:CA X.K H a xs)(h':CA X.K H a ys):xs=ys:=by
 obtain⟨its,r,⟨o,e,_,n,d⟩,_⟩:=I.tuple h;obtain⟨its',BM,⟨BS,Bw,_,W8,d'⟩,_⟩:=I.tuple h';rw[e]at Bw;cases Bw;rw[d]at d';injection d' with d1 _;have:its=its':=by simpa using congrArg jK d1
 subst this;exact r.inj BM
end
abbrev AY.JG(X:AY)(E:A4->AL->Prop):AY:={ X with xe:=E }
abbrev AY.Hi(X:AY):AY:=X.JG λ_ _=>False
theorem AY.Ok.JG{X:AY}(ok:X.Ok)(E:A4->AL->Prop):(X.JG E).Ok:=
 ⟨ok.mod,ok.kind,ok.glob,ok.blt,ok.above,ok.inj,ok.has,ok.Vb,ok.hd,ok.frames,ok.bg,ok.lL,ok.bs,ok.PJ,ok.Pa,ok.Z0,ok.I_,ok.RQ⟩
def AY.Ok.Ik{X:AY}{E:A4->AL->Prop}(ok:(X.JG E).Ok):X.Ok:=
 ⟨ok.mod,ok.kind,ok.glob,ok.blt,ok.above,ok.inj,ok.has,ok.Vb,ok.hd,ok.frames,ok.bg,ok.lL,ok.bs,ok.PJ,ok.Pa,ok.Z0,ok.I_,ok.RQ⟩
section
variable{X:AY}{pins:List (A3×Obj)}{σ :St}{H:A8}{s:AL}{E:A4->AL->Prop}
theorem Inv.JG(I:Inv X pins σ H s)(E:A4->AL->Prop):Inv (X.JG E) pins σ H s:=⟨I.ok.JG E,I.os,I.bare,I.base,I.loc,I.cell,I.free,I.Mi,I.pin,I.BU,I.len⟩
theorem Inv.Ik(I:Inv (X.JG E) pins σ H s):Inv X pins σ H s:=⟨I.ok.Ik,I.os,I.bare,I.base,I.loc,I.cell,I.free,I.Mi,I.pin,I.BU,I.len⟩
theorem P9.Ik{D:Ends}{f:Flow}{s':AL}(h:P9 (X.JG E) pins D f s'):P9 X pins D f s':=by
 cases f with
 |next=>obtain⟨σ',H',I,q⟩:=h;exact⟨σ',H',I.Ik,q⟩
 |brk=>obtain⟨σ',H',I,q⟩:=h;exact⟨σ',H',I.Ik,q⟩
 |cont=>obtain⟨σ',H',I,q⟩:=h;exact⟨σ',H',I.Ik,q⟩
 |ret u=>obtain⟨v,σ',H',I,r,q⟩:=h;exact⟨v,σ',H',I.Ik,r,q⟩
theorem GU.Hi{st:List B9}{t:Ew}(h:GU X.Hi st t):GU X st t:=λpins s σ H D I hw=>
 Gs (h pins s σ H D (I.JG _) hw) (λ_ _ q=>q.Ik) λ_ _ z=>Jx z
end
section
variable{X:AY}{st:B9}{rest:List B9}{t u:Ew}{e:AT}{DQ:TE}{pos:Pos}
def q_:Ew:=λD σ H=>D.Bb σ H
def hE(t u:Ew):Ew:=λD σ H=>t { D with Bb:=u D } σ H
def pi:GU X [] q_:=λ_ _ σ H _ I h=>Xx ⟨σ,H,I,h⟩
def ph(h1:DF X st t)(h2:GU X rest u):GU X (st::rest) (hE t u):=by
 intro pins s σ H D I h;refine wpAny_execs_cons (Ba (h1 pins s σ H { D with Bb:=u D } I h) λf s1 q=>?_);cases f with
 |next=>obtain⟨σ',H',KC,q⟩:=q;exact h2 pins s1 σ' H' D KC q
 |ret v=>exact q
 |brk=>exact q
 |cont=>exact q
def ew(h1:DF X st t):GU X [st] t:=by
 intro pins s σ H D I h;refine wpAny_execs_cons (Ba (h1 pins s σ H D I h) λf s1 q=>?_);cases f with
 |next=>exact Xx q
 |ret v=>exact q
 |brk=>exact q
 |cont=>exact q
def Inv.quiet{pins:List (A3×Obj)}{σ :St}{H:A8}{s:AL}(I:Inv X pins σ H s):interactive X.env=false:=by simp[interactive,I.ok.kind]
def hB(DQ:TE):Ew:=λD σ H=>DQ σ H λ_ H1=>D.Bb σ H1
def aF(he:Ao X e DQ)(hs:MV e none pos.line X.env=pure false:=by rfl):DF X (.Expr e pos) (hB DQ):=by intro pins s σ H D I h;exact wpAny_Expr_any (Ba (he pins s σ H _ I h) λv s1⟨x,H1,Ak,AE,Aa⟩=>⟨σ,H1,Ak,Aa⟩) I.quiet hs
def b4(DQ:TE):Ew:=λD σ H=>DQ σ H D.Ed
def bN(he:Ao X e DQ):DF X (.Return (some e) pos) (b4 DQ):=by intro pins s σ H D I h;exact wpAny_Return_some (Ba (he pins s σ H _ I h) λv s1⟨x,H1,Ak,AE,Aa⟩=>⟨x,σ,H1,Ak,AE,Aa⟩)
def qY(c:TT)(t u:Ew):Ew:=λD σ H=>c σ H λb H1=>if b=true then t D σ H1 else u D σ H1
def pg{c:AT}{a b:List B9}{GN:TT}(AG:FD X c GN)(A1:GU X a t)(J:GU X b u):DF X (.If c a b pos) (qY GN t u):=by
 intro pins s σ H D I h;refine wpAny_If (Ba (AG pins s σ H _ I h) λd s1⟨H1,Ak,Aa⟩=>?_);cases d with
 |true=>exact A1 pins s1 σ H1 D Ak Aa
 |false=>exact J pins s1 σ H1 D Ak Aa
end
abbrev I7:=V->St->A8->(St->A8->Prop)->Prop
abbrev NC:=List V->St->A8->(St->A8->Prop)->Prop
noncomputable def Iw(X:AY)(target:AT)(t:I7):Prop:=
 ∀(pins:List (A3×Obj))(s:AL)(σ :St)(H:A8)(v:V)(u:A4)(Q:St->A8->Prop),Inv X pins σ H s->RelV v u->t v σ H Q->
  An (BA X.prog X.w) X.A (Km target X.env u) (λ_ s'=>∃ σ' H',Inv X pins σ' H' s'/\Q σ' H') X.xe s
noncomputable def Us(X:AY)(Bn:List AT)(t:NC):Prop:=
 ∀(pins:List (A3×Obj))(s:AL)(σ :St)(H:A8)(vs:List V)(us:List A4)(Q:St->A8->Prop),Inv X pins σ H s->Vals vs us->t vs σ H Q->
  An (BA X.prog X.w) X.A (assignInOrder ((L_ Bn X.env).map (·.2)) us) (λ_ s'=>∃ σ' H',Inv X pins σ' H' s'/\Q σ' H') X.xe s
abbrev cA:=V->V->V->A8->(A8->Prop)->Prop
noncomputable def ji(X:AY)(t:cA):Prop:=
 ∀(pins:List (A3×Obj))(s:AL)(σ :St)(H:A8)(o i v:V)(Dk GZ u:A4)(Q:A8->Prop),Inv X pins σ H s->RelV o Dk->RelV i GZ->RelV v u->t o i v H Q->
  An (BA X.prog X.w) X.A (setItem Dk GZ u) (λ_ s'=>∃H',Inv X pins σ H' s'/\Q H') X.xe s
abbrev YG:=V->V->A8->C_->Prop
noncomputable def jg(X:AY)(op:Operator)(t:YG):Prop:=
 ∀(pins:List (A3×Obj))(s:AL)(σ :St)(H:A8)(x y:V)(v u:A4)(Q:C_),Inv X pins σ H s->RelV x v->RelV y u->t x y H Q->
  An (BA X.prog X.w) X.A (inplaceOp op v u) (G1 X pins σ Q) X.xe s
section
variable{X:AY}{pos:Pos}
def IC(i:Nat):I7:=λv σ H Q=>Q (σ.set i (some v)) H
def R4{i:Nat}{x:Str}(Bs:X.N.Nodup)(AC:X.N[i]?=some x)(AA:Loc X.env.scope x)(hf:X.fn x=true\/X.env.scope.names.lookup x=some .local:=by first|exact .inl rfl|exact .inr rfl|assumption):Iw X (.Name x pos) (IC i):=by intro pins s σ H v u Q I r h;exact wpAny_assign_Name (ha I Bs AC AA r (λs' KC=>⟨_,H,KC,h⟩) hf)
def VC:NC:=λvs σ H Q=>vs=[]/\Q σ H
def RT(t:I7)(u:NC):NC:=λvs σ H Q=>∃v r,vs=v::r/\t v σ H λσ' H'=>u r σ' H' Q
def er:Us X [] VC:=by intro pins s σ H vs us Q I r h;obtain⟨e,h⟩:=h;subst e;cases r;exact assignInOrder_nil ⟨σ,H,I,h⟩
def WJ{e:AT}{es:List AT}{t:I7}{u:NC}(h1:Iw X e t)(h2:Us X es u)(hs:(L_ (e::es) X.env).map (·.2)=Km e X.env::(L_ es X.env).map (·.2):=by rfl):Us X (e::es) (RT t u):=by
 intro pins s σ H vs us Q I r h;obtain⟨v,bL,AD,h⟩:=h;subst AD;cases r with
 |cons r KZ=>rw[hs];refine assignInOrder_cons (Ba (h1 pins s σ H _ _ _ I r h) λ_ s1⟨σ1,H1,Ak,Aa⟩=>?_);exact h2 pins s1 σ1 H1 _ _ Q Ak KZ Aa
def VE(K:AZ)(n:Nat)(t:NC):I7:=λv σ H Q=>∃a xs,v=.ref a/\CA K H a xs/\xs.length=n/\t xs σ H Q
def ep{es:List AT}{k:Nat}{t:NC}{n:Nat}(AG:X.calm=true)(h:Us X es t)(AU:(L_ es X.env).length=n:=by rfl)(ES:(L_ es X.env).findIdx? (·.1)=none:=by rfl):Iw X (.Tuple es k pos) (VE X.K n t):=by intro pins s σ H v u Q I r hw;obtain⟨a,xs,AD,Ab,AF,hw⟩:=hw;subst AD;cases r;obtain⟨its,Bj,BB,BL⟩:=I.tuple Ab;refine assign_Tuple_tuple (I.ok.hd AG) BB (by simp[AU,<-AF,Bj.length]) ES λh' AA=>?_;have Ak:Inv X pins σ H { s with heap:=h' }:=I.kept (t':=s.toks) λb o e=>AA b o (Em (D3 e)) e;exact h pins _ σ H xs _ Q Ak (by simpa using Bj) hw
def x9(to Oe:TE)(t:cA):I7:=λv σ H Q=>to σ H λo H1=>Oe σ H1 λi Aw=>t o i v Aw λCx=>Q σ Cx
def acM {o i:AT} {to Oe:TE} {t:cA} (AN:Ao X o to) (AC:Ao X i Oe) (hs:ji X t)(A1:∀v,Km (.Subscript o i pos) X.env v=(do
    let Dk <-JO [v] (BE o X.env)
    let GZ <-JO [v,Dk] (BE i X.env)
    NO pos
    JO [v,Dk,GZ] (setItem Dk GZ v)
    release [v,Dk,GZ] []):=by intro _;rfl):Iw X (.Subscript o i pos) (x9 to Oe t):=by
 intro pins s σ H v u Q I r h;rw[A1];refine Az (MT (Ba (AN pins s σ H _ I h) λDk s1⟨x,H1,Ak,AE,Aa⟩=>?_));refine Az (MT (Ba (AC pins s1 σ H1 _ Ak Aa) λGZ s2⟨y,Aw,Bq,B4,B0⟩=>?_));refine Az (wpAny_standAt (Az (MT (Ba (hs pins s2 σ Aw x y v Dk GZ u _ Bq AE B4 r B0) λ_ s3⟨Cx,Dg,E1⟩=>?_))));exact wpAny_release ⟨σ,Cx,Dg,E1⟩
def Oa(DQ:TE)(g:I7):Ew:=λD σ H=>DQ σ H λx H1=>g x σ H1 D.Bb
def ac7{Bd e:AT}{DQ:TE}{g:I7}(he:Ao X e DQ)(AW:Iw X Bd g)(hs:swapsWithSole [Bd] e pos.line X.env=pure false:=by rfl)(hw:swappedStores [Bd] e X.env=pure none:=by rfl)(h1:(L_ [Bd] X.env).map (·.2)=[Km Bd X.env]:=by rfl):DF X (.Assign [Bd] e pos) (Oa DQ g):=by intro pins s σ H D I h;refine wpAny_Assign_stores (Ba (he pins s σ H _ I h) λv s1⟨x,H1,Ak,AE,Aa⟩=>?_) hs hw;rw[h1];exact Ba (AW pins s1 σ H1 x v _ Ak AE Aa) λ_ s2 q=>q
def bO{i:Nat}{x:Str}{e:AT}{DQ:TE}{pos':Pos}(Bs:X.N.Nodup)(AC:X.N[i]?=some x)(AA:Loc X.env.scope x)(he:Ao X e DQ)(hs:MV e (some (.Name x pos')) pos.line X.env=pure false:=by rfl)(hf:X.fn x=true\/X.env.scope.names.lookup x=some .local:=by first|exact .inl rfl|exact .inr rfl|assumption) :
  DF X (.Assign [.Name x pos'] e pos) (Oa DQ (IC i)):=by
 intro pins s σ H D I h;refine wpAny_Assign_Name (Ba (he pins s σ H _ I h) λv s1⟨y,H1,Ak,AE,Aa⟩=>?_) hs;exact ha Ak Bs AC AA AE (λs2 Bq=>⟨_,H1,Bq,Aa⟩) hf
def afT(i:Nat)(DQ:TE)(Oe:YG):Ew:=λD σ H=>∃x,σ[i]?=some (some x)/\DQ σ H λy H1=>Oe x y H1 λz Aw=>D.Bb (σ.set i (some z)) Aw
def ac8{i:Nat}{x:Str}{e:AT}{DQ:TE}{op:Operator}{Oe:YG}{pos':Pos}(Bs:X.N.Nodup)(AC:X.N[i]?=some x)(AA:Loc X.env.scope x)(he:Ao X e DQ)(AN:jg X op Oe)(hf:X.fn x=true\/X.env.scope.names.lookup x=some .local:=by first|exact .inl rfl|exact .inr rfl|assumption) :
  DF X (.AugAssign (.Name x pos') op e pos) (afT i DQ Oe):=by
 intro pins s σ H D I h;obtain⟨v,AD,h⟩:=h;obtain⟨m,AU,AF⟩:=I.loc;have agV:H_ X.env.scope x:=by rcases AA with k|k;exact .inl k;exact .inr (.inl k)
 obtain⟨u,r,l⟩:=AF i x v AC AD agV;refine wpAny_AugAssign_Name ?_;have go:An (BA X.prog X.w) X.A (BE e X.env) (λw Hm=>An (BA X.prog X.w) X.A (inplaceOp op u w) (λr Ma=>An (BA X.prog X.w) X.A (storeName X.env x r) (λ_=>P9 X pins D .next) X.xe Ma) X.xe Hm) X.xe s:=by refine Ba (he pins s σ H _ I h) λw s1⟨y,H1,Ak,AE,Aa⟩=>?_;refine Ba (AN pins s1 σ H1 v y u w _ Ak r AE Aa) λz s2⟨akK,Aw,Bq,B4,B0⟩=>?_;exact ha Bq Bs AC AA B4 (λs3 Dg=>⟨_,Aw,Dg,B0⟩) hf
 rcases l with⟨AQ,hm⟩|⟨AQ,c,AG,ZE⟩
 .exact wpAny_loadName_local I.ok.kind AQ AU hm go
 .rcases AQ with AQ|AQ
  .exact wpAny_loadName_cell I.ok.kind AQ AG ZE go
  .rcases AA with k|k
   .have:X.env.scope.names.lookup x=some .free:=AQ;rw[k]at this;cases this
   .have:X.env.scope.names.lookup x=some .free:=AQ;rw[k]at this;cases this
def yc(f:Int->Int->Int):YG:=λx y H Q=>∃i j,x=.int i/\y=.int j/\Q (.int (f i j)) H
def yd:jg X .Add (yc λi j=>i+j):=by intro pins s σ H x y v u Q I AE B4 h;obtain⟨i,j,AD,AR,q⟩:=h;subst AD;subst AR;obtain⟨t,rfl⟩:=AE;obtain⟨t',rfl⟩:=B4;exact iadd_int ⟨.int _,H,I.tok _,⟨_,rfl⟩,q⟩
end
section
variable{X:AY}{pos:Pos}
noncomputable def sB(c:TT)(tb:Ew):Ew:=λD σ H=>∃W:Nat->St->A8->Prop,(∃m,W m σ H)/\∀m σ H,W m σ H->
 c σ H λb H1=>if b=true then ∃N:St->A8->Prop,(∀ σ' H',N σ' H'->∃D0,D0<m/\W D0 σ' H')/\tb { D with Bb:=N,Cn:=N,G4:=D.Bb } σ H1 else D.Bb σ H1
def acD{c:AT}{body:List B9}{GN:TT}{tb:Ew}(Am:PassesOwn (BA X.prog X.w) X.A X.env X.xe)(AG:FD X c GN)(J:GU X body tb):DF X (.While c body [] pos) (sB GN tb):=by
 intro pins s σ H D I h;obtain⟨W,⟨m0,OI⟩,turn⟩:=h;refine wpAny_While (codeAny_whileLoop (λn s'=>∃ σ' H',Inv X pins σ' H' s'/\W n σ' H') ?_ m0 ⟨σ,H,I,OI⟩);rintro n s1 ⟨σ1,H1,Ak,Fs⟩;refine QH Am (Ba (AG pins s1 σ1 H1 _ Ak (turn n σ1 H1 Fs)) λb s2⟨Aw,Bq,B0⟩=>?_);cases b with
 |true=>
  obtain⟨N,Bs,B0⟩:=B0;rw[if_pos rfl];refine QH Am (Ba (J pins s2 σ1 Aw _ Bq B0) λf s3 E1=>?_);cases f with
  |next=>obtain⟨σ3,Cx,Dg,KV⟩:=E1;obtain⟨D0,hm,N2⟩:=Bs σ3 Cx KV;exact⟨D0,hm,σ3,Cx,Dg,N2⟩
  |cont=>obtain⟨σ3,Cx,Dg,KV⟩:=E1;obtain⟨D0,hm,N2⟩:=Bs σ3 Cx KV;exact⟨D0,hm,σ3,Cx,Dg,N2⟩
  |brk=>exact E1
  |ret v=>exact E1
 |false=>rw[if_neg IN];exact Xx ⟨σ1,Aw,Bq,B0⟩
end
structure It where
 go:Nat->A8->Prop
 JJ:Nat->A8->V->A8->Prop
 stop:Nat->A8->Prop
def HZ(X:AY)(pins:List (A3×Obj))(H:A8)(b:A3):Prop:=
 H b=none/\b≠X.env.locals/\b∉X.fs/\(b∈X.ex\/X.Ee.heap.objs.size<=b)/\(∀x c,X.env.cells.lookup x=some c->c≠b)/\∀p∈X.Pe++pins,p.1≠b
def Inv.Ng{X:AY}{pins:List (A3×Obj)}{σ :St}{H H':A8}{s:AL}{b:A3}(I:Inv X pins σ H s)(J:s.heap.objs.size<=b)(AU:H' b=none):HZ X pins H' b:=by
 refine⟨AU,MU (Fk I.lt J),I.abp J,.inr (EB I.bk J),λx c e z=>?_,λp Am z=>?_⟩
 .obtain⟨v,q⟩:=I.cell x c e;exact absurd (Fk q.lt (by rw[z];exact J)) (Hv _)
 .exact absurd (Fk (D3 (I.pin p Am).1) (by rw[z];exact J)) (Hv _)
structure Turn(P:Bt)(w:Bg)(K:AZ)(Bd:AT)(CH:It)(Ad:List A3)(it:A3)(Go:Nat->B1->Prop):Prop where
 mem:it∈Ad
 obj:∀i h,Go i h->∀b∈Ad,∃o,h.get? b=some o/\∀v,o.data≠.cell v
 keep:∀i h h',Go i h->(∀b∈Ad,∀o,h.get? b=some o->h'.get? b=some o)->Go i h'
 item:∀(X:AY),X.prog=P->X.w=w->X.K=K->X.calm=true->∀(i:Nat)(pins:List (A3×Obj))(s:AL)(σ :St)(H:A8)(E:A4->AL->Prop),Inv X pins σ H s->(∀b∈Ad,HZ X pins H b)->Go i s.heap->CH.go i H->
  An (BA P w) X.A (NM (.ref it)) (λr s1=>∃u,r=some u/\
   An (BA P w) X.A (Xy Bd (.ref it) u) (λ_ s2=>∃x H',Inv X pins σ H' s2/\RelV x u/\CH.JJ i H x H'/\Go (i+1) s2.heap/\∀b∈Ad,H' b=none) E s1) E s
 done:∀(X:AY),X.prog=P->X.w=w->X.K=K->X.calm=true->∀(i:Nat)(pins:List (A3×Obj))(s:AL)(σ :St)(H:A8)(E:A4->AL->Prop),Inv X pins σ H s->(∀b∈Ad,HZ X pins H b)->Go i s.heap->CH.stop i H->
  An (BA P w) X.A (NM (.ref it)) (λr s1=>r=none/\Inv X pins σ H s1) E s
 self:∀(A:C3)(i:Nat)(s:AL)(Q:A4->AL->Prop)(E:A4->AL->Prop),Go i s.heap->Q (.ref it) s->An (BA P w) A (pyIter (.ref it)) Q E s
abbrev TI:=St->A8->(It->A8->Prop)->Prop
noncomputable def jf(X:AY)(pins:List (A3×Obj))(σ :St)(Bd:AT)(R:It->A8->Prop)(aH:A4)(s2:AL):Prop:=
 ∃(it:A3)(Ad:List A3)(Go:Nat->B1->Prop)(CH:It)(H':A8),aH=.ref it/\Inv X pins σ H' s2/\Turn X.prog X.w X.K Bd CH Ad it Go/\Go 0 s2.heap/\(∀b∈Ad,HZ X pins H' b)/\R CH H'
noncomputable def GF(X:AY)(Bd iter:AT)(HE:TI):Prop:=
 ∀(pins:List (A3×Obj))(s:AL)(σ :St)(H:A8)(R:It->A8->Prop),Inv X pins σ H s->HE σ H R->
  An (BA X.prog X.w) X.A (BE iter X.env) (λv s1=>An (BA X.prog X.w) X.A (pyIter v) (jf X pins σ Bd R) X.xe s1) X.xe s
def Z8{M:Model}{A:C3}{E:A4->AL->Prop}{s:AL}{Bd:AT}{it:A3}{u:A4}{o:Obj}{n:String}{vs:Array A4}{Q:Unit->AL->Prop}(AN:s.heap.get? it=some o)(AG:o.cls=.type n)(hd:o.data=.fields vs)(AU:["enumerate","zip","dict_itemiterator","dict_reverseitemiterator","odict_iterator","itertools.zip_longest","itertools.pairwise"].contains n=false)(GH:Q () s):An M A (Xy Bd (.ref it) u) Q E s:=by
 unfold Xy
 cases Bd<;>first
  |exact CK GH
  |(cases u<;>first
      |exact CK GH
      |(refine Az (wpAny_load AN ?_)
        rw[AG,hd];show An M A (if(["enumerate","zip","dict_itemiterator","dict_reverseitemiterator","odict_iterator","itertools.zip_longest","itertools.pairwise"].contains n&&vs[0]?==some (rawInt _))=true then _ else _) Q E s;rw[if_neg (by intro h;rw[AU,Bool.false_and]at h;cases h)];exact CK GH))
def c2(K:AZ)(a:A3):It:=
 ⟨λi H=>∃xs x,Bp K H a xs/\xs[i]?=some x,λi H x H'=>H'=H/\∀xs,Bp K H a xs->xs[i]?=some x,λi H=>∃xs,Bp K H a xs/\xs.length<=i⟩
def c4(K:AZ)(a:A3):It:=
 ⟨λi H=>∃xs x,CA K H a xs/\xs[i]?=some x,λi H x H'=>H'=H/\∀xs,CA K H a xs->xs[i]?=some x,λi H=>∃xs,CA K H a xs/\xs.length<=i⟩
def YY(lo:Int)(n:Nat):It:=⟨λi _=>i<n,λi H x H'=>H'=H/\x=.int (lo+i),λi _=>n<=i⟩
def agw{P:Bt}{w:Bg}{K:AZ}{Bd:AT}(a it:A3):Turn P w K Bd (c2 K a) [it] it (λi h=>h.IsListIter it a i) where
 mem:=by simp
 obj:=λi h st b J=>by
  have e:b=it:=by simpa using J
  subst e;obtain⟨o,e,c,d⟩:=st;exact⟨o,e,λv z=>by rw[d]at z;cases z⟩
 keep:=λi h h' st k=>st.at λo e=>k it (by simp) o e
 item:=by intro X DK hw Ag AG i pins s σ H E I hf st AW;subst DK hw Ag;obtain⟨xs,x,Ab,AA⟩:=AW;obtain⟨its,Bj,p,BL⟩:=I.list Ab;obtain⟨u,BX,Ds⟩:=Bj.get AA;obtain⟨f0,f1,f2,F3,f4,H3⟩:=hf it (by simp);refine wpAny_pyNext_list_item st p.isList (x:=u) (by simpa using BX) λh' Ll Et=>?_;have Ak:Inv X pins σ H { s with heap:=h' }:=I.turned (t':=s.toks) (λb o J e=>(Et.2 b J).trans e) f0 f1 F3 f4 H3;obtain⟨o,e,c,d⟩:=id Ll;exact⟨u,rfl,Z8 (s:={ s with heap:=h' }) e c d (by decide) ⟨x,H,Ak,Ds,⟨rfl,λys BO=>by rw[I.aU BO Ab];exact AA⟩,Ll,λb J=>(hf b J).1⟩⟩
 done:=by intro X DK hw Ag AG i pins s σ H E I hf st AW;subst DK hw Ag;obtain⟨xs,Ab,AA⟩:=AW;obtain⟨its,Bj,p,BL⟩:=I.list Ab;obtain⟨f0,f1,f2,F3,f4,H3⟩:=hf it (by simp);have AF:=Bj.length;exact wpAny_pyNext_list_end (I.ok.hd AG) st p.isList (by simp;omega) λh' BC=>⟨rfl,I.turned (t':=s.toks) (λb o J e=>BC b o J e) f0 f1 F3 f4 H3⟩
 self:=λ_ _ _ _ _ st h=>wpAny_pyIter_listiter st h
def agz{P:Bt}{w:Bg}{K:AZ}{Bd:AT}(a it:A3):Turn P w K Bd (c4 K a) [it] it (λi h=>h.IsTupleIter it a i) where
 mem:=by simp
 obj:=λi h st b J=>by
  have e:b=it:=by simpa using J
  subst e;obtain⟨o,e,c,d⟩:=st;exact⟨o,e,λv z=>by rw[d]at z;cases z⟩
 keep:=λi h h' st k=>st.at λo e=>k it (by simp) o e
 item:=by intro X DK hw Ag AG i pins s σ H E I hf st AW;subst DK hw Ag;obtain⟨xs,x,Ab,AA⟩:=AW;obtain⟨its,Bj,p,BL⟩:=I.tuple Ab;obtain⟨u,BX,Ds⟩:=Bj.get AA;obtain⟨f0,f1,f2,F3,f4,H3⟩:=hf it (by simp);refine wpAny_pyNext_tuple_item st (show s.heap.IsTuple a its.toArray from p) (x:=u) (by simpa using BX) λh' Ll Et=>?_;have Ak:Inv X pins σ H { s with heap:=h' }:=I.turned (t':=s.toks) (λb o J e=>(Et.2 b J).trans e) f0 f1 F3 f4 H3;obtain⟨o,e,c,d⟩:=id Ll;exact⟨u,rfl,Z8 (s:={ s with heap:=h' }) e c d (by decide) ⟨x,H,Ak,Ds,⟨rfl,λys BO=>by rw[I.bD BO Ab];exact AA⟩,Ll,λb J=>(hf b J).1⟩⟩
 done:=by intro X DK hw Ag AG i pins s σ H E I hf st AW;subst DK hw Ag;obtain⟨xs,Ab,AA⟩:=AW;obtain⟨its,Bj,p,BL⟩:=I.tuple Ab;obtain⟨f0,f1,f2,F3,f4,H3⟩:=hf it (by simp);have AF:=Bj.length;exact wpAny_pyNext_tuple_end (I.ok.hd AG) st (show s.heap.IsTuple a its.toArray from p) (by simp;omega) λh' BC=>⟨rfl,I.turned (t':=s.toks) (λb o J e=>BC b o J e) f0 f1 F3 f4 H3⟩
 self:=λ_ _ _ _ _ st h=>wpAny_pyIter_tupleiter st h
def agx{P:Bt}{w:Bg}{K:AZ}{Bd:AT}(it:A3)(lo:Int)(n:Nat):Turn P w K Bd (YY lo n) [it] it (λi h=>IsRangeIter h it (lo+(i:Nat)*1) ((n:Int)-(i:Nat)) 1) where
 mem:=by simp
 obj:=λi h st b J=>by
  have e:b=it:=by simpa using J
  subst e;exact⟨_,st,λv z=>by have FT:Y5 _=Ot v:=z;cases FT⟩
 keep:=λi h h' st k=>k it (by simp) _ st
 item:=by intro X DK hw Ag AG i pins s σ H E I hf st AW;subst DK hw Ag;obtain⟨f0,f1,f2,F3,f4,H3⟩:=hf it (by simp);have W:=Walks.range (prog:=X.prog) (w:=X.w) (I.ok.hd AG) it lo 1 n;refine W.item i s _ _ AW st λv h' C8 Be Ll CW=>?_;obtain⟨t,rfl⟩:=Be;have Ak:Inv X pins σ H { s with heap:=h',toks:=C8 }:=I.turned (λb o J e=>CW b o (by simpa using J) e) f0 f1 F3 f4 H3;refine⟨_,rfl,Z8 (s:={ s with heap:=h',toks:=C8 }) (n:="range_iterator") Ll rfl rfl (by decide) ⟨.int (lo+i),H,Ak,⟨t,?_⟩,⟨rfl,rfl⟩,Ll,λb J=>(hf b J).1⟩⟩;rw[Int.mul_one]
 done:=by intro X DK hw Ag AG i pins s σ H E I hf st AW;subst DK hw Ag;obtain⟨f0,f1,f2,F3,f4,H3⟩:=hf it (by simp);exact wpAny_pyNext_range_end (I.ok.hd AG) st (by have:n<=i:=AW;omega) λh' BC=>⟨rfl,I.turned (t':=s.toks) (λb o J e=>BC b o J e) f0 f1 F3 f4 H3⟩
 self:=λ_ _ _ _ _ st h=>wpAny_pyIter_rangeiter st h
section
variable{X:AY}{Bd:AT}
def nX(K:AZ)(Fe:TE):TI:=λσ H R=>Fe σ H λx H1=>∃a,x=.ref a/\(∃xs,Bp K H1 a xs)/\R (c2 K a) H1
def n_(K:AZ)(Fe:TE):TI:=λσ H R=>Fe σ H λx H1=>∃a,x=.ref a/\(∃xs,CA K H1 a xs)/\R (c4 K a) H1
def acO{l:AT}{Fe:TE}(AF:Ao X l Fe):GF X Bd l (nX X.K Fe):=by
 intro pins s σ H R I h;refine Ba (AF pins s σ H _ I h) λv s1⟨x,H1,Ak,AE,Aa⟩=>?_;obtain⟨a,e,⟨xs,Ab⟩,q⟩:=Aa;subst e;cases AE;obtain⟨its,Bj,p,BL⟩:=Ak.list Ab;refine QK p.isList ?_;refine⟨s1.heap.objs.size,[s1.heap.objs.size],_,_,H1,rfl,Ak.kept (t':=s1.toks) λb o e=>Cv _ e,agw a _,⟨_,FV _ rfl,rfl,rfl⟩,λb J=>?_,q⟩;have e:b=s1.heap.objs.size:=by simpa using J
 subst e;exact Ak.Ng (CO _) (Ak.BU.fresh (CO _))
def acR{l:AT}{Fe:TE}(AF:Ao X l Fe):GF X Bd l (n_ X.K Fe):=by
 intro pins s σ H R I h;refine Ba (AF pins s σ H _ I h) λv s1⟨x,H1,Ak,AE,Aa⟩=>?_;obtain⟨a,e,⟨xs,Ab⟩,q⟩:=Aa;subst e;cases AE;obtain⟨its,Bj,p,BL⟩:=Ak.tuple Ab;refine Rr (show s1.heap.IsTuple a its.toArray from p) ?_;refine⟨s1.heap.objs.size,[s1.heap.objs.size],_,_,H1,rfl,Ak.kept (t':=s1.toks) λb o e=>Cv _ e,agz a _,⟨_,FV _ rfl,rfl,rfl⟩,λb J=>?_,q⟩;have e:b=s1.heap.objs.size:=by simpa using J
 subst e;exact Ak.Ng (CO _) (Ak.BU.fresh (CO _))
def adL{pins:List (A3×Obj)}{σ :St}{H:A8}{s:AL}{R:It->A8->Prop}{E:A4->AL->Prop}{lo AC:Int}{t u v:Tok}{C8:Nat}(I:Inv X pins σ H s)(h1: -(2^62)<=lo)(h2:lo<2^62)(h3: -(2^62)<=AC)(h4:AC<2^62)(q:R (YY lo (AC-lo).toNat) H):An (BA X.prog X.w) X.A (pyIter (.ref s.heap.objs.size)) (jf X pins σ Bd R) E { s with heap:=s.heap.push { cls:=.type "range",data:=.fields #[.int lo t,.int AC u,.int 1 v] },toks:=C8 }:=by
 refine wpAny_pyIter_range (IsRange.new ..) (small_one h1 h2 h3 h4) ?_;have Ak:Inv X pins σ H { s with heap:=s.heap.push { cls:=.type "range",data:=.fields #[.int lo t,.int AC u,.int 1 v] },toks:=C8 }:=I.kept λb o e=>Cv _ e
 refine⟨(s.heap.push { cls:=.type "range",data:=.fields #[.int lo t,.int AC u,.int 1 v] }).objs.size,[(s.heap.push { cls:=.type "range",data:=.fields #[.int lo t,.int AC u,.int 1 v] }).objs.size],_,_,H,rfl,
  Ak.kept (t':=C8) λb o e=>Cv _ e,agx _ lo (AC-lo).toNat,?_,λb J=>?_,q⟩
 .have AD:lo+((0:Nat):Int)*1=lo:=by simp
  have AR:(((AC-lo).toNat:Nat):Int)-((0:Nat):Int)=iy lo AC 1:=by rw[rangeSize_one];split<;>omega
  show IsRangeIter _ _ (lo+((0:Nat):Int)*1) ((((AC-lo).toNat:Nat):Int)-((0:Nat):Int)) 1;rw[AD,AR];exact FV _ rfl
 .have e:b=(s.heap.push { cls:=.type "range",data:=.fields #[.int lo t,.int AC u,.int 1 v] }).objs.size:=by simpa using J
  subst e;exact Ak.Ng (CO _) (Ak.BU.fresh (CO _))
def nY(Bu:EX):TI:=λσ H R=>Bu σ H λvs H1=>∃j:Int,vs=[.int j]/\-(2^62)<=j/\j<2^62/\R (YY 0 j.toNat) H1
def acP{a:AT}{Bu:EX}{p pos:Pos}(AW:DI X "range")(hm:X.mg "range"=none)(A1:F1 X [a] Bu)(hs:Ap [a] X.env=[(false,BE a X.env)]:=by rfl):GF X Bd (.Call (.Name "range" p) [a] [] pos) (nY Bu):=by
 intro pins s σ H R I h;refine Call_ (Nu I AW hm boot_range (QE (Ba (A1 pos pins s σ H _ I h) λus s1⟨vs,H1,Ak,AE,Aa⟩=>?_) hs rfl));obtain⟨j,e,Aa,B0,q⟩:=Aa;subst e;cases AE with
 |cons r KZ=>cases KZ;obtain⟨t,rfl⟩:=r;exact call_range_1 (adL Ak (by omega) (by omega) Aa B0 (by simpa using q))
noncomputable def qW(HE:TI)(g:I7)(tb:Ew):Ew:=λD σ H=>HE σ H λCH H1=>∃W:Nat->Nat->St->A8->Prop,(∃m,W 0 m σ H1)/\∀i m σ H,W i m σ H->
 (CH.stop i H/\D.Bb σ H)\/(CH.go i H/\∃N:St->A8->Prop,(∀ σ' H',N σ' H'->∃D0,D0<m/\W (i+1) D0 σ' H')/\∀x H',CH.JJ i H x H'->g x σ H' λσ2 Aw=>tb { D with Bb:=N,Cn:=N,G4:=D.Bb } σ2 Aw)
def WK(Ad:List A3)(h:B1):List (A3×Obj):=Ad.filterMap λb=>(h.get? b).map λo=>(b,o)
def a3{Ad:List A3}{h:B1}{b:A3}{o:Obj}(J:b∈Ad)(e:h.get? b=some o):(b,o)∈WK Ad h:=List.mem_filterMap.mpr ⟨b,J,by rw[e];rfl⟩
def abF{Ad:List A3}{h:B1}{p:A3×Obj}(Am:p∈WK Ad h):p.1∈Ad/\h.get? p.1=some p.2:=by
 obtain⟨b,J,e⟩:=List.mem_filterMap.mp Am;cases q:h.get? b with
 |none=>rw[q]at e;cases e
 |some o=>rw[q]at e;have Bw:(b,o)=p:=EH e;subst Bw;exact⟨J,q⟩
def Inv.pinned{pins:List (A3×Obj)}{σ :St}{H:A8}{s:AL}{Ad:List A3}(I:Inv X pins σ H s)(hf:∀b∈Ad,HZ X pins H b)(AN:∀b∈Ad,∃o,s.heap.get? b=some o/\∀v,o.data≠.cell v):Inv X (pins++WK Ad s.heap) σ H s:=
 I.pa λp Am=>(List.mem_append.mp Am).elim (λz=>I.pin p (Io _ z)) λz=>by obtain⟨J,e⟩:=abF z;obtain⟨f0,f1,f2,_⟩:=hf p.1 J;obtain⟨o,Bw,d⟩:=AN p.1 J;rw[e]at Bw;cases Bw;exact⟨e,f0,f1,f2,d⟩
def Inv.bF{pins pl:List (A3×Obj)}{σ :St}{H:A8}{s:AL}(I:Inv X (pins++pl) σ H s):Inv X pins σ H s:=I.pa λp Am=>I.pin p (Io _ (Oh _ Am))
def acB{iter:AT}{body:List B9}{HE:TI}{g:I7}{tb:Ew}{pos:Pos}(Am:PassesOwn (BA X.prog X.w) X.A X.env X.xe)(AG:X.calm=true)(AC:GF X Bd iter HE)(AW:Iw X Bd g)(J:GU X body tb)(hs:∀x,Ki iter X.env x=pure x:=by intro _;rfl):DF X (.For Bd iter body [] pos) (qW HE g tb):=by
 intro pins s σ H D I h;refine wpAny_For (Ba (AC pins s σ H _ I h) λv s1 h1=>Ba h1 λaH s2 h2=>?_) hs;obtain⟨it,Ad,Go,CH,Aw,e,Bq,T,LN,f2,W,⟨m0,OI⟩,turn⟩:=h2;subst e;have stat:∀{H':A8},(∀b∈Ad,H' b=none)->∀b∈Ad,HZ X pins H' b:=λAU b J=>⟨AU b J,(f2 b J).2⟩;refine codeAny_forLoop_any (λn s'=>∃i σ' H',Inv X pins σ' H' s'/\Go i s'.heap/\(∀b∈Ad,H' b=none)/\W i n σ' H') ?_ m0 ⟨0,σ,Aw,Bq,LN,λb J=>(f2 b J).1,OI⟩;rintro n s3 ⟨i,σ3,Cx,Dg,qo,mn,N2⟩;rcases turn i n σ3 Cx N2 with⟨stop,qn⟩|⟨go,N,Bs,step⟩
 .refine QH Am (Ba (T.done X rfl rfl rfl AG i pins s3 σ3 Cx X.xe Dg (stat mn) qo stop) λr s4⟨A6,LL⟩=>?_);subst A6;exact Xx ⟨σ3,Cx,LL,qn⟩
 .refine QH Am (Ba (T.item X rfl rfl rfl AG i pins s3 σ3 Cx X.xe Dg (stat mn) qo go) λr s4⟨u,A6,h4⟩=>?_);subst A6;refine QH Am (Ba h4 λ_ s5⟨x,Iv,Sq,Pf,I3,Tx,Z5⟩=>?_);have uD:=Sq.pinned (stat Z5) (T.obj _ _ Tx);refine QH Am (Ba (AW _ s5 σ3 Iv x u _ uD Pf (step x Iv I3)) λ_ G_⟨σ6,Sp,Um,Jc⟩=>?_);refine QH Am (Ba (J _ G_ σ6 Sp _ Um Jc) λf Dt Hk=>?_);have again:∀{σ7:St}{GR:A8},Inv X (pins++WK Ad s5.heap) σ7 GR Dt->N σ7 GR->∃m,m<n/\∃i σ' H',Inv X pins σ' H' Dt/\Go i Dt.heap/\(∀b∈Ad,H' b=none)/\W i m σ' H':=λ{σ7 GR} KD PY=>by
   obtain⟨D0,hm,agY⟩:=Bs σ7 GR PY;refine⟨D0,hm,i+1,σ7,GR,KD.bF,T.keep _ _ _ Tx λb J o e=>(KD.pin (b,o) (Io _ (Io _ (a3 J e)))).1,λb J=>?_,agY⟩;obtain⟨o,e,d⟩:=T.obj _ _ Tx b J;exact(KD.pin (b,o) (Io _ (Io _ (a3 J e)))).2.1
  cases f with
  |next=>obtain⟨σ7,GR,KD,PY⟩:=Hk;exact again KD PY
  |cont=>obtain⟨σ7,GR,KD,PY⟩:=Hk;exact again KD PY
  |brk=>obtain⟨σ7,GR,KD,Hk⟩:=Hk;exact⟨σ7,GR,KD.bF,Hk⟩
  |ret v=>obtain⟨U3,σ7,GR,KD,HD,Hk⟩:=Hk;exact⟨U3,σ7,GR,KD.bF,HD,Hk⟩
end
abbrev EI:=V->V->A8->C_->Prop
noncomputable def DX(X:AY)(f:A4->A4->Sem A4)(r:EI):Prop:=
 ∀(pins:List (A3×Obj))(s:AL)(σ :St)(H:A8)(x y:V)(v u:A4)(Q:C_),Inv X pins σ H s->RelV x v->RelV y u->r x y H Q->
  An (BA X.prog X.w) X.A (f v u) (G1 X pins σ Q) X.xe s
noncomputable def Gu(X:AY)(f:A4)(r:List V->A8->C_->Prop):Prop:=
 ∀(pins:List (A3×Obj))(s:AL)(σ :St)(H:A8)(xs:List V)(us:List A4)(Q:C_),Inv X pins σ H s->Vals xs us->r xs H Q->
  An (BA X.prog X.w) X.A (call f us) (G1 X pins σ Q) X.xe s
noncomputable def tm(X:AY)(r:V->A8->(Bool->A8->Prop)->Prop):Prop:=
 ∀(pins:List (A3×Obj))(s:AL)(σ :St)(H:A8)(x:V)(v:A4)(Q:Bool->A8->Prop),Inv X pins σ H s->RelV x v->r x H Q->
  An (BA X.prog X.w) X.A (truthy v) (YI X pins σ Q) X.xe s
def U0(r:EI)(Bu tb:TE):TE:=λσ H Q=>Bu σ H λx H1=>tb σ H1 λy Aw=>r x y Aw Q
def TR(C:Int->Int->Prop)(g:Int->Int->V):EI:=λx y H Q=>∃i j,x=.int i/\y=.int j/\C i j/\Q (g i j) H
def Li(g:Int->Int->V):EI:=λx y H Q=>∃i j,x=.int i/\y=.int j/\Q (g i j) H
section
variable{X:AY}{a b c:AT}{Bu tb GN:TE}{pos:Pos}
def d7(A1:Ao X a Bu)(J:Ao X b tb){pins:List (A3×Obj)}{s:AL}{σ :St}{H:A8}{R:V->V->A8->Prop}(I:Inv X pins σ H s)(h:Bu σ H λx H1=>tb σ H1 λy Aw=>R x y Aw){Q:A4->AL->Prop}{f:A4->A4->Sem A4}(hf:∀v u s2 x y Aw,Inv X pins σ Aw s2->RelV x v->RelV y u->R x y Aw->An (BA X.prog X.w) X.A (f v u) Q X.xe s2) :
  An (BA X.prog X.w) X.A (BE a X.env) (λv Ct=>An (BA X.prog X.w) X.A (BE b X.env) (λu Hm=>An (BA X.prog X.w) X.A (f v u) Q X.xe Hm) X.xe Ct) X.xe s:=by
 refine Ba (A1 pins s σ H _ I h) λv s1⟨x,H1,Ak,AE,Aa⟩=>?_;refine Ba (J pins s1 σ H1 _ Ak Aa) λu s2⟨y,Aw,Bq,B4,B0⟩=>?_;exact hf v u s2 x y Aw Bq AE B4 B0
def Zi{op:Operator}{r:EI}(AN:DX X (IR op) r)(A1:Ao X a Bu)(J:Ao X b tb):Ao X (.BinOp a op b pos) (U0 r Bu tb):=by intro pins s σ H Q I h;exact wpAny_BinOp (d7 A1 J I h λv u s2 x y Aw Bq BF Bo q=>AN pins s2 σ Aw x y v u Q Bq BF Bo q)
def aE{f:A4->A4->Sem A4}{C:Int->Int->Prop}{g:Int->Int->Int}(rule:∀(i j:Int)(t u:Tok)(s:AL)(Q:A4->AL->Prop)(E:A4->AL->Prop),C i j->Q (.int (g i j) s.toks) { s with toks:=s.toks+1 }->An (BA X.prog X.w) X.A (f (.int i t) (.int j u)) Q E s) :
  DX X f (TR C λi j=>.int (g i j)):=by
 intro pins s σ H x y v u Q I BF Bo h;obtain⟨i,j,rfl,rfl,AG,q⟩:=h;obtain⟨t,rfl⟩:=BF;obtain⟨t',rfl⟩:=Bo;exact rule i j t t' s _ _ AG ⟨.int (g i j),H,I.tok _,⟨_,rfl⟩,q⟩
def qB{f:A4->A4->Sem A4}{g:Int->Int->Int}(rule:∀(i j:Int)(t u:Tok)(s:AL)(Q:A4->AL->Prop)(E:A4->AL->Prop),Q (.int (g i j) s.toks) { s with toks:=s.toks+1 }->An (BA X.prog X.w) X.A (f (.int i t) (.int j u)) Q E s) :
  DX X f (Li λi j=>.int (g i j)):=by
 intro pins s σ H x y v u Q I BF Bo h;obtain⟨i,j,rfl,rfl,q⟩:=h;obtain⟨t,rfl⟩:=BF;obtain⟨t',rfl⟩:=Bo;exact rule i j t t' s _ _ ⟨.int (g i j),H,I.tok _,⟨_,rfl⟩,q⟩
def fN{f:A4->A4->Sem A4}{g:Int->Int->Bool}(rule:∀(i j:Int)(t u:Tok)(s:AL)(Q:A4->AL->Prop)(E:A4->AL->Prop),Q (.bool (g i j)) s->An (BA X.prog X.w) X.A (f (.int i t) (.int j u)) Q E s) :
  DX X f (Li λi j=>.AI (g i j)):=by
 intro pins s σ H x y v u Q I BF Bo h;obtain⟨i,j,rfl,rfl,q⟩:=h;obtain⟨t,rfl⟩:=BF;obtain⟨t',rfl⟩:=Bo;exact rule i j t t' s _ _ ⟨.AI (g i j),H,I,rfl,q⟩
def YR(i j:Int):Prop:=0<j/\j<1073741824
def YS(i j:Int):Prop:=0<=j/\j<=1000000/\i.natAbs<2^64
def Sm(i j:Int):Prop:=(-(2^64)<i/\i<2^64)\/(-(2^64)<j/\j<2^64)
def Sm.ok{i j:Int}(h:Sm i j):IntMulOk i j:=by
 rcases h with⟨h1,h2⟩|⟨h1,h2⟩
 .exact .of_left (intBits_le_64 h1 h2)
 .exact .of_right (intBits_le_64 h1 h2)
def ab_:DX X (IR .Add) (Li λi j=>.int (i+j)):=qB λ_ _ _ _ _ _ _ q=>add_int q
def ach:DX X (IR .Sub) (Li λi j=>.int (i-j)):=qB λ_ _ _ _ _ _ _ q=>sub_int q
def abB:DX X (IR .Mult) (TR Sm λi j=>.int (i*j)):=aE λ_ _ _ _ _ _ _ AG q=>mul_int q AG.ok
def ab7:DX X (IR .FloorDiv) (TR YR λi j=>.int (i/j)):=aE λi j _ _ _ _ _ AG q=>by have h1:(0:Int)<j:=AG.1;have h2:j<1073741824:=AG.2;exact floordiv_int (by omega) (by rw[Int.fdiv_eq_ediv_of_nonneg i (by omega)];exact q) (.inl (PyProof.noPylong_small (by omega)))
def abA:DX X (IR .Mod) (TR (λ_ j=>0<j) λi j=>.int (i%j)):=aE λi j _ _ _ _ _ AG q=>by have h1:(0:Int)<j:=AG;exact mod_int' (by omega) (by rw[Int.fmod_eq_emod_of_nonneg i (by omega)];exact q)
def acf:DX X (IR .Pow) (TR YS λi j=>.int (i^j.toNat)):=aE λ_ _ _ _ _ _ _ AG q=>pow_int_small AG.1 AG.2.1 AG.2.2 q
end
noncomputable def rE:V->V->Bool
 |.non,.non=>true|.non,.int _=>true|.int _,.non=>true|.non,.AI _=>true|.AI _,.non=>true|.non,.str _=>true|.str _,.non=>true
 |.int _,.int _=>true|.AI _,.AI _=>true|.str _,.str _=>true|.NF _,.NF _=>true
 |.int _,.str _=>true|.str _,.int _=>true|.AI _,.str _=>true|.str _,.AI _=>true
 |_,_=>false
section
variable{X:AY}{a b c:AT}{Bu tb GN:TE}{pos:Pos}
def eb{pins:List (A3×Obj)}{σ :St}{H:A8}{s:AL}{Q:C_}{k k':Bool}(I:Inv X pins σ H s)(q:Q (.AI k) H)(e:k=k'):G1 X pins σ Q (.bool k') s:=by subst e;exact⟨.AI k,H,I,rfl,q⟩
def qF:DX X (FK .Lt) (Li λi j=>.AI (decide (i<j))):=fN λ_ _ _ _ _ _ _ q=>lt_int q
def R3:DX X (FK .LtE) (Li λi j=>.AI (decide (i<=j))):=fN λ_ _ _ _ _ _ _ q=>le_int q
def ab8:DX X (FK .Gt) (Li λi j=>.AI (decide (j<i))):=fN λ_ _ _ _ _ _ _ q=>gt_int q
def ab9:DX X (FK .In) (λx y H Q=>∃i j,x=.str i/\y=.str j/\Q (.AI (!(UH j i 0 j.length 1).isEmpty)) H):=by intro pins s σ H x y v u Q I BF Bo h;obtain⟨i,j,rfl,rfl,q⟩:=h;obtain⟨t,rfl⟩:=BF;obtain⟨t',rfl⟩:=Bo;exact in_str (eb I q rfl)
def qE:DX X (FK .Is) (λx y H Q=>y=.non/\Q (.AI (decide (x=.non))) H):=by
 intro pins s σ H x y v u Q I BF Bo h;obtain⟨rfl,q⟩:=h;cases Bo;refine is_none_gen (eb I q ?_)
 cases x<;>first
  |(cases BF;rfl)
  |(obtain⟨t,rfl⟩:=BF;rfl)
def abb:DX X (FK .IsNot) (λx y H Q=>y=.non/\Q (.AI (!decide (x=.non))) H):=by
 intro pins s σ H x y v u Q I BF Bo h;obtain⟨rfl,q⟩:=h;cases Bo;refine isnot_none_gen (eb I q ?_)
 cases x<;>first
  |(cases BF;rfl)
  |(obtain⟨t,rfl⟩:=BF;rfl)
def DX.or{f:A4->A4->Sem A4}{r BM:EI}(h:DX X f r)(h':DX X f BM):DX X f (λx y H Q=>r x y H Q\/BM x y H Q):=by
 intro pins s σ H x y v u Q I BF Bo q;rcases q with q|q
 .exact h pins s σ H x y v u Q I BF Bo q
 .exact h' pins s σ H x y v u Q I BF Bo q
def NX(b:AT){op:Jz}(h:op≠.In:=by decide)(h2:op≠.NotIn:=by decide):HV op b=false:=by
 have AD:(op==CmpOp.In)=false:=by cases op<;>first|rfl|exact absurd rfl h
 have AR:(op==CmpOp.NotIn)=false:=by cases op<;>first|rfl|exact absurd rfl h2
 cases b<;>simp[HV,AD,AR]
def acy{op:Jz}{r:EI}(AN:DX X (FK op) r)(A1:Ao X a Bu)(J:Ao X b tb)(hm:HV op b=false):Ao X (.Compare a [op] [b] pos) (U0 r Bu tb):=by intro pins s σ H Q I h;exact wpAny_Compare1 (d7 A1 J I h λv u s2 x y Aw Bq BF Bo q=>AN pins s2 σ Aw x y v u Q Bq BF Bo q) hm
def hF(t:TE):TT:=λσ H Q=>t σ H λx H'=>∃k,x=.AI k/\Q k H'
def adk{op:Jz}{r:EI}(AN:DX X (FK op) r)(A1:Ao X a Bu)(J:Ao X b tb)(hm:HV op b=false):FD X (.Compare a [op] [b] pos) (hF (U0 r Bu tb)):=by
 intro pins s σ H Q I h;refine wpAny_isTrue_Compare1 (Ba (A1 pins s σ H _ I h) λv s1⟨x,H1,Ak,AE,Aa⟩=>Ba (J pins s1 σ H1 _ Ak Aa) λu s2⟨y,Aw,Bq,B4,B0⟩=>
  Ba (AN pins s2 σ Aw x y v u _ Bq AE B4 B0) λc s3⟨z,Cx,Dg,E2,k,e,E1⟩=>?_) hm
 subst e;cases E2;exact Ju ⟨Cx,Dg,E1⟩
def gz(r BM:EI)(Bu tb GN:TE):TE:=λσ H Q=>Bu σ H λx H1=>tb σ H1 λy Aw=>r x y Aw λz Cx=>∃k,z=.AI k/\
 (if k=true then GN σ Cx λFf Gw=>BM y Ff Gw Q else Q (.AI false) Cx)
def acx{op JC:Jz}{r BM:EI}(AN:DX X (FK op) r)(FH:DX X (FK JC) BM)(A1:Ao X a Bu)(J:Ao X b tb)(AG:Ao X c GN)(hm:lastMarks [op,JC] [b,c]=false:=by with_unfolding_all rfl):Ao X (.Compare a [op,JC] [b,c] pos) (gz r BM Bu tb GN):=by
 intro pins s σ H Q I h;refine Compare_chain (Ba (A1 pins s σ H _ I h) λv s1⟨x,H1,Ak,AE,Aa⟩=>chain_link (Ba (J pins s1 σ H1 _ Ak Aa) λu s2⟨y,Aw,Bq,B4,B0⟩=>
  Ba (AN pins s2 σ Aw x y v u _ Bq AE B4 B0) λd s3⟨z,Cx,Dg,E2,k,e,E1⟩=>?_)) hm
 subst e;cases E2;refine Ju ?_;cases k with
 |false=>exact ite_ff ⟨.AI false,Cx,Dg,rfl,E1⟩
 |true=>exact ite_tt (chain_last (Ba (AG pins s3 σ Cx _ Dg E1) λFf s4⟨FT,Gw,LL,LK,KX⟩=>FH pins s4 σ Gw y FT u Ff Q LL B4 LK KX))
def adi{op JC:Jz}{r BM:EI}(AN:DX X (FK op) r)(FH:DX X (FK JC) BM)(A1:Ao X a Bu)(J:Ao X b tb)(AG:Ao X c GN)(hm:lastMarks [op,JC] [b,c]=false:=by with_unfolding_all rfl):FD X (.Compare a [op,JC] [b,c] pos) (hF (gz r BM Bu tb GN)):=by
 intro pins s σ H Q I h;refine isTrue_chain (Ba (A1 pins s σ H _ I h) λv s1⟨x,H1,Ak,AE,Aa⟩=>test_link (Ba (J pins s1 σ H1 _ Ak Aa) λu s2⟨y,Aw,Bq,B4,B0⟩=>
  Ba (AN pins s2 σ Aw x y v u _ Bq AE B4 B0) λd s3⟨z,Cx,Dg,E2,k,e,E1⟩=>?_)) hm
 subst e;cases E2;refine Ju ?_;cases k with
 |false=>obtain⟨k',Bw,Cr⟩:=E1;cases Bw;exact ite_ff ⟨Cx,Dg,Cr⟩
 |true=>refine ite_tt (test_last (Ba (AG pins s3 σ Cx _ Dg E1) λFf s4⟨FT,Gw,LL,LK,KX⟩=>Ba (FH pins s4 σ Gw y FT u Ff _ LL B4 LK KX) λd' s5⟨Co,Iv,Sq,Pf,k2,AR,Lg⟩=>?_));subst AR;cases Pf;exact Ju ⟨Iv,Sq,Lg⟩
noncomputable def tn(K:AZ)(x:V)(H:A8)(k:Bool):Prop:=
 match x with
 |.non=>k=false
 |.AI b=>k=b
 |.int i=>k=(i !=0)
 |.str y=>y.length<=CF/\k=((y.length:Int) !=0)
 |.NF y=>y.size<=CF/\k=((y.size:Int) !=0)
 |.ref p=>(∃xs,Bp K H p xs/\k=!xs.isEmpty)\/(∃xs,CA K H p xs/\k=!xs.isEmpty)\/∃B3,H p=some (.Di B3)/\k=!B3.isEmpty
 |_=>False
def yf{DR:Type}{B3:List (DR×V)}{vs:List (DR×A4)}(r:Ge B3 vs):(!vs.isEmpty)=!B3.isEmpty:=by cases r<;>rfl
def nu{xs:List V}{its:List A4}(r:Vals xs its):(!its.toArray.isEmpty)=!xs.isEmpty:=by cases r<;>simp
def Tf:(CF:Nat)<2^63:=by rw[LZ];decide
def ajv:tm X (λx H Q=>∃k,tn X.K x H k/\Q k H):=by
 intro pins s σ H x v Q I BF h;obtain⟨k,e,q⟩:=h;have AF:=Tf;have hs:CF=16777216:=LZ;cases x with
 |non=>cases BF;have Bw:k=false:=e;subst Bw;exact truthy_none ⟨H,I,q⟩
 |AI b=>cases BF;have Bw:k=b:=e;subst Bw;exact Ju ⟨H,I,q⟩
 |int i=>obtain⟨t,rfl⟩:=BF;have Bw:k=(i !=0):=e;subst Bw;exact PySem.P.truthy_int ⟨H,I,q⟩
 |str y=>obtain⟨t,rfl⟩:=BF;obtain⟨BO,Bw⟩:y.length<=CF/\k=((y.length:Int) !=0):=e;subst Bw;exact PySem.P.truthy_str (by omega) ⟨H,I.tok _,q⟩
 |NF y=>obtain⟨t,rfl⟩:=BF;obtain⟨BO,Bw⟩:y.size<=CF/\k=((y.size:Int) !=0):=e;subst Bw;exact PySem.W.truthy_bytes (by omega) ⟨H,I.tok _,q⟩
 |ref p=>
  cases BF;have Bw:(∃xs,Bp X.K H p xs/\k=!xs.isEmpty)\/(∃xs,CA X.K H p xs/\k=!xs.isEmpty)\/∃B3,H p=some (.Di B3)/\k=!B3.isEmpty:=e;rcases Bw with⟨xs,AA,Bw⟩|⟨xs,AA,Bw⟩|⟨B3,AA,Bw⟩
  .subst Bw;obtain⟨its,r,pl,BL⟩:=I.list AA;have hlen:=r.length;exact wpAny_truthy_list pl.isList (by simp only[DO];omega) ⟨H,I.tok _,by rw[nu r];exact q⟩
  .subst Bw;obtain⟨its,r,pl,BL⟩:=I.tuple AA;have hlen:=r.length;exact truthy_tuple pl (by simp only[DO];omega) ⟨H,I.tok _,by rw[nu r];exact q⟩
  .subst Bw;obtain⟨BL,J4,vs,r,m⟩:B3.length<=CF/\(p==JN)=false/\∃vs,Ge B3 vs/\s.heap.DictOf (IK X.prog X.w) p vs:=I.BU p _ AA;have hlen:B3.length=vs.length:=Paired.length r;exact wpAny_truthy_dict J4 m (by omega) ⟨H,I.tok _,by rw[yf r];exact q⟩
 |_=>exact(show False from e).elim
def aba:DX X (IR .Add) (λx y H Q=>∃i j,x=.str i/\y=.str j/\i.length+j.length<=CF/\Q (.str (i++j)) H):=by intro pins s σ H x y v u Q I BF Bo h;obtain⟨i,j,rfl,rfl,BL,q⟩:=h;obtain⟨t,rfl⟩:=BF;obtain⟨t',rfl⟩:=Bo;exact add_str (λt' C8=>⟨.str (i++j),H,I.tok _,⟨_,rfl⟩,q⟩) BL
def vals1{x:V}{us:List A4}(r:Vals [x] us):∃u,us=[u]/\RelV x u:=by
 cases r with
 |cons AE B4=>cases B4;exact⟨_,rfl,AE⟩
def vals2{x y:V}{us:List A4}(r:Vals [x,y] us):∃u Ff,us=[u,Ff]/\RelV x u/\RelV y Ff:=by
 cases r with
 |cons AE B4=>
  cases B4 with
  |cons E2 LK=>cases LK;exact⟨_,_,rfl,AE,E2⟩
def uV(AG:X.calm=true):Gu X (.builtin "max") (λxs H Q=>∃i j,xs=[.int i,.int j]/\Q (.int (if j>i then j else i)) H):=by
 intro pins s σ H xs us Q I r h;obtain⟨i,j,rfl,q⟩:=h;obtain⟨u,Ff,rfl,⟨t,rfl⟩,⟨t',rfl⟩⟩:=vals2 r;refine max_two_ints (I.ok.hd AG) λh' C8 k=>⟨_,H,I.kept k,?_,q⟩;by_cases Bx:j>i
 .rw[if_pos Bx,if_pos Bx];exact⟨_,rfl⟩
 .rw[if_neg Bx,if_neg Bx];exact⟨_,rfl⟩
def uQ:Gu X (.type "int") (λxs H Q=>(∃i,xs=[.int i]/\Q (.int i) H)\/∃k,xs=[.AI k]/\Q (.int (if k then 1 else 0)) H):=by
 intro pins s σ H xs us Q I r h;rcases h with⟨i,rfl,q⟩|⟨k,rfl,q⟩
 .obtain⟨u,rfl,t,rfl⟩:=vals1 r;exact call_int_int ⟨.int i,H,I,⟨_,rfl⟩,q⟩
 .obtain⟨u,rfl,AE⟩:=vals1 r;cases AE;exact call_int_bool ⟨.int (if k then 1 else 0),H,I.tok _,⟨_,rfl⟩,q⟩
def kc:Gu X (.type "str") (λxs H Q=>∃i,xs=[.int i]/\i.natAbs.log2<1920/\Q (.str (toString i)) H):=by intro pins s σ H xs us Q I r h;obtain⟨i,rfl,BL,q⟩:=h;obtain⟨u,rfl,t,rfl⟩:=vals1 r;exact PySem.P.str_of_int BL ⟨.str _,H,I.tok _,⟨_,rfl⟩,q⟩
noncomputable def jz(K:AZ)(x:V)(H:A8)(n:Nat):Prop:=
 match x with
 |.str y=>y.length<=CF/\n=y.length
 |.NF y=>y.size<=CF/\n=y.size
 |.ref p=>(∃xs,Bp K H p xs/\n=xs.length)\/∃xs,CA K H p xs/\n=xs.length
 |_=>False
def uS:Gu X (.builtin "len") (λxs H Q=>∃x n,xs=[x]/\jz X.K x H n/\Q (.int n) H):=by
 intro pins s σ H xs us Q I r h;obtain⟨x,n,rfl,e,q⟩:=h;obtain⟨u,rfl,BF⟩:=vals1 r;have AF:=Tf;have hs:CF=16777216:=LZ;cases x with
 |str y=>obtain⟨t,rfl⟩:=BF;obtain⟨BO,Bw⟩:y.length<=CF/\n=y.length:=e;subst Bw;exact len_str (by omega) ⟨.int _,H,I.tok _,⟨_,rfl⟩,q⟩
 |NF y=>obtain⟨t,rfl⟩:=BF;obtain⟨BO,Bw⟩:y.size<=CF/\n=y.size:=e;subst Bw;exact PySem.W.len_bytes (by omega) ⟨.int _,H,I.tok _,⟨_,rfl⟩,q⟩
 |ref p=>
  cases BF;have Bw:(∃xs,Bp X.K H p xs/\n=xs.length)\/∃xs,CA X.K H p xs/\n=xs.length:=e;rcases Bw with⟨xs,AA,Bw⟩|⟨xs,AA,Bw⟩
  .subst Bw;obtain⟨its,BM,pl,BL⟩:=I.list AA;have hlen:=BM.length;exact Calls.call_len_list pl.isList (by simp only[DO];omega) ⟨.int xs.length,H,I.tok _,⟨_,by simp only[DO];rw[hlen]⟩,q⟩
  .subst Bw;obtain⟨its,BM,pl,BL⟩:=I.tuple AA;have hlen:=BM.length;exact len_tuple pl (by simp only[DO];omega) ⟨.int xs.length,H,I.tok _,⟨_,by simp only[DO];rw[hlen]⟩,q⟩
 |_=>exact(show False from e).elim
end
structure R9(h:B1)(x Ar C:A3)(Dz:Str->Option A4):Prop where
 obj:h.get? x=some (Oq C Ar)
 ns:h.Ns1 Ar Dz
 ne:Ar≠x
def ab1{h:B1}{Ar:A3}{Dz:Str->Option A4}(n:h.Ns1 Ar Dz):∃Dc,h.get? Ar=some Dc/\∀name,Y3 name Dc=some (Dz name):=by
 obtain⟨o,es,C5,AN,hd,AQ,_,hm⟩:=n;refine⟨o,AN,λname=>?_⟩;have e:=hm name;unfold nsFind findBy at e;rw[<-Array.find?_toList]at e;unfold Y3;rw[hd];dsimp only
 split
 .rename_i y q;rw[q]at e;exact congrArg some e
 .rename_i q;rw[q]at e;have a:es.toList.any (·.refKey)=false:=by
   rw[List.any_eq_false];intro y BO;obtain⟨z,t,wQ⟩:=AQ y (Array.mem_toList_iff.mp BO);simp[DictEntry.refKey,wQ]
  have K0:¬es.toList.any (·.refKey)=true:=by rw[a];exact IN
  rw[if_neg K0];exact congrArg some e
def R9.look{h:B1}{x Ar C:A3}{Dz:Str->Option A4}(I:R9 h x Ar C Dz):∃Dc,PySem.W.InstAt h x (Oq C Ar) C (some Dc)/\∀name,Y3 name Dc=some (Dz name):=
 let⟨Dc,AN,AF⟩:=ab1 I.ns
 ⟨Dc,⟨I.obj,rfl,rfl,AN⟩,AF⟩
section
variable{prog:Bt}{w:Bg}{A:C3}{E:A4->AL->Prop}{s:AL}{K:AZ}{x Ar C f:A3}{Dz:Str->Option A4}{name:Str}{v:A4}
def get_map{expr:Bool}{Q:A4->AL->Prop}(X:K.In s.heap)(I:R9 s.heap x Ar C Dz)(AW:Rk K C name=true)(BN:UC K C=true)(A1:Hu K (.ref C) name=some none)(Be:Dz name=some v)(TU:PySem.W.handedIn v=true)(h:Q v { s with toks:=s.toks+1 }) :
  An (BA prog w) A (getAttr (.ref x) name expr) Q E s:=by
 obtain⟨Dc,CH,AF⟩:=I.look;exact PySem.W.get_value X CH (jF AW).1 (PySem.W.findObj_own BN A1 rfl (by rw[AF,Be])) TU h
def xB{pl:Sem Bool}{Q:A4×List A4->AL->Prop}(X:K.In s.heap)(I:R9 s.heap x Ar C Dz)(AW:Rk K C name=true)(hf:Hu K (.ref C) name=some (some (.ref f)))(BB:UQ K (.ref f)=true)(Be:Dz name=none)(h:Q (.ref f,[.ref x]) s) :
  An (BA prog w) A (QO (.ref x) name pl) Q E s:=by
 obtain⟨Dc,CH,AF⟩:=I.look;exact PySem.W.method_fn X CH (jF AW).1 (jF AW).2 hf (beq_iff_eq.mp BB) (by show(Y3 name Dc).map (·.isSome)=some false;rw[AF,Be];rfl) h
def aeD{ns:List Str}{Q:Unit->AL->Prop}(X:K.In s.heap)(I:R9 s.heap x Ar C Dz)(hs:Hu K (.ref C) "__setattr__"=some (some (.builtin "object.__setattr__")))(Am:Xa K C=true)(BB:jV K C name=some none)(BN:UC K C=true)(hw:jJ Dz ns)(hsz:ns.length<=CF)(h:∀h',R9 h' x Ar C (λy=>if y=name then some v else Dz y)->IP Ar s.heap h'->Q () { s with heap:=h',toks:=s.toks+2 }) :
  An (BA prog w) A (setAttr (.ref x) name v) Q E s:=by
 obtain⟨Dc,CH,AF⟩:=I.look;refine PySem.W.set_plain X CH hs (PySem.W.osa_open (s:={ s with toks:=s.toks+1 }) (r:=none) X CH Am BB λb=>?_);obtain⟨cd,AG,JS⟩:=PySem.W.any_some BN;have AA:s.heap.get? x=some ⟨.ref C,some Ar,.plain,#[]⟩:=I.obj;refine Az (CK (Az (Az (wpAny_loadPart AA (Az (PySem.W.Looks.here (s:={ s with toks:=s.toks+1 }) (PySem.W.looks_clsIn X AG) ?_))))));rw[JS];refine CK (a:=some Ar) (Az (CK (Az ?_)));refine wpAny_nsSet1 (s:={ s with toks:=s.toks+1 }) I.ns λh' Yi Es=>?_;obtain⟨aia,aik,aii,xz,wh,wb⟩:=Yi.count (PySem.Within.cons name v hw);refine Az (wpAny_lookBehind xz (by rw[wh];exact pastItsLine_dict (EB wb (by rw[Eo];omega))) ?_);exact CK (h _ ⟨(Es.2 _ (Ld I.ne)).trans I.obj,Yi,I.ne⟩ Es)
def aaN {R:Result->AL->Prop} {vs:List A4} {kw:List (Str×A4)} (X:K.In s.heap) (hm:Xz K C=true)(AC:Hu K (.ref C) "__init__"=some (some (.ref f))) (hf:PySem.W.typeIn K (.ref f)=some (.type "function"))(h:MW (BA prog w) (A.under (.builtin "type.__call__" ⟨.ref C::vs,kw⟩)) (.call (.ref f) ⟨.ref (s.heap.objs.size+1)::vs,kw⟩) (PySem.W.InitBack (s.heap.objs.size+1) R)
    { s with heap:=(s.heap.push NI).push (Oq C s.heap.objs.size) }) :
  MW (BA prog w) A (.call (.ref C) ⟨vs,kw⟩) R s:=by
 obtain⟨BN,g,d,t,os⟩:=s;exact PySem.W.make_core (PySem.W.makes_of X hm) (PySem.W.looks_findIn X AC) (λself=>PySem.W.bind_fn X self hf) (.inl rfl) h
end
def HC(f:Str)(v:V):List (Str×V)->List (Str×V)
 |[]=>[(f,v)]
 |(g,x)::r=>if g=f then(g,v)::r else(g,x)::HC f v r
theorem oe(f g:Str)(v:V):∀fs:List (Str×V),(HC f v fs).lookup g=if g=f then some v else fs.lookup g
 |[]=>by
  show QL g [(f,v)]=_;by_cases h:g=f
  .have J:(g==f)=true:=beq_iff_eq.mpr h;simp only[QL,J,if_pos h]
  .have J:(g==f)=false:=beq_eq_false_iff_ne.mpr h;simp only[QL,J,if_neg h]
 |(k,x)::r=>by
  have Br:=oe f g v r;rw[show HC f v ((k,x)::r)=(if k=f then(k,v)::r else(k,x)::HC f v r)from rfl];by_cases AQ:k=f
  .rw[if_pos AQ];by_cases h:g=k
   .have J:(g==k)=true:=beq_iff_eq.mpr h;simp only[QL,J,if_pos (h.trans AQ)]
   .have J:(g==k)=false:=beq_eq_false_iff_ne.mpr h;simp only[QL,J,if_neg (λe:g=f=>h (e.trans AQ.symm))]
  .rw[if_neg AQ];by_cases h:g=k
   .have J:(g==k)=true:=beq_iff_eq.mpr h;simp only[QL,J,if_neg (λe:g=f=>AQ (h.symm.trans e))]
   .have J:(g==k)=false:=beq_eq_false_iff_ne.mpr h;simp only[QL,J];exact Br
theorem fc(f:Str)(v:V):∀fs:List (Str×V),f∈(HC f v fs).map (·.1)/\∀g,g∈fs.map (·.1)->g∈(HC f v fs).map (·.1)
 |[]=>⟨by simp[HC],λg h=>by simp at h⟩
 |(k,x)::r=>by
  obtain⟨BG,BH⟩:=fc f v r;rw[show HC f v ((k,x)::r)=(if k=f then(k,v)::r else(k,x)::HC f v r)from rfl];by_cases AQ:k=f
  .rw[if_pos AQ];subst AQ;exact⟨by simp,λg h=>by simpa using h⟩
  .rw[if_neg AQ];refine⟨?_,λg h=>?_⟩
   .rw[EU];exact En _ BG
   .rw[EU]at h |-;rcases List.mem_cons.mp h with e|e
    .exact List.mem_cons.mpr (.inl e)
    .exact En _ (BH g e)
theorem ob(f:Str)(v:V):∀fs:List (Str×V),(HC f v fs).length<=fs.length+1
 |[]=>by simp[HC]
 |(k,x)::r=>by
  have Br:=ob f v r;rw[show HC f v ((k,x)::r)=(if k=f then(k,v)::r else(k,x)::HC f v r)from rfl];by_cases AQ:k=f
  .rw[if_pos AQ,Eo,Eo];omega
  .rw[if_neg AQ,Eo,Eo];omega
def IT.some_of{v:V}{o:Option A4}(r:IT (some v) o):∃u,o=some u/\RelV v u:=by
 cases o with
 |none=>exact(show False from r).elim
 |some u=>exact⟨u,rfl,r⟩
def IT.none_of{o:Option A4}(r:IT none o):o=none:=by
 cases o with
 |none=>rfl
 |some u=>exact(show False from r).elim
def wZ{v:V}{u:A4}(r:RelV v u):PySem.W.handedIn u=true:=by
 cases v with
 |non=>cases(show u=Gr from r);rfl
 |AI b=>cases(show u=Rz b from r);rfl
 |int i=>obtain⟨t,e⟩:=(show ∃t,u=YD i t from r);cases e;rfl
 |str x=>obtain⟨t,e⟩:=(show ∃t,u=YE x t from r);cases e;rfl
 |NF b=>obtain⟨t,e⟩:=(show ∃t,u=Value.bytes b t from r);cases e;rfl
 |Z4 b=>obtain⟨t,e⟩:=(show ∃t,u=Value.float b t from r);cases e;rfl
 |ref a=>cases(show u=Dm a from r);rfl
 |ty n=>cases(show u=NL n from r);rfl
section
variable{P:Bt}{w:Bg}{H H':A8}{h h':B1}{a C Ar:A3}{fs Z6:List (Str×V)}
def fW(BU:ED P w H h)(e:H a=some (.ins C Ar fs)):∃Dz,R9 h a Ar C Dz/\(∀f,IT (fs.lookup f) (Dz f))/\jJ Dz (fs.map (·.1))/\fs.length<=1000/\H Ar=some (.own a):=by obtain⟨d,z,ne,Aj,Dz,n,r,q⟩:=(show FC P w H h a (.ins C Ar fs)from BU a _ e);exact⟨Dz,⟨Aj,n,ne⟩,r,q,z,d⟩
end
structure Jj(K:AZ)(C:A3):Prop where
 acL:Rk K C Ou=true
 hd:UC K C=true
 po:Xa K C=true
 OT:Hu K (.ref C) "__setattr__"=some (some (.builtin "object.__setattr__"))
def Jj.get{K:AZ}{C:A3}(c:Jj K C)(f:Str):Rk K C f=true:=c.acL
def QX(K:AZ)(C:A3)(f:Str):Prop:=Hu K (.ref C) f=some none
def QX.agn{K:AZ}{C:A3}{f:Str}(n:QX K C f):jV K C f=some none:=by unfold jV;rw[show Hu K (.ref C) f=some none from n];rfl
structure Meth(K:AZ)(C:A3)(m:Str)(f:A3):Prop where
 at_:Hu K (.ref C) m=some (some (.ref f))
 fn:UQ K (.ref f)=true
 AV:Ir K (.ref f)=true
section
variable{X:AY}{pins:List (A3×Obj)}{σ :St}{H:A8}{s:AL}{a C Ar:A3}{fs:List (Str×V)}{f:Str}{v:V}{A:C3}{E:A4->AL->Prop}
def xD{b:Bool}{Q:A4->AL->Prop}(I:Inv X pins σ H s)(e:H a=some (.ins C Ar fs))(c:Jj X.K C)(n:QX X.K C f)(l:fs.lookup f=some v)(h:∀u s',Inv X pins σ H s'->RelV v u->Q u s'):An (BA X.prog X.w) A (getAttr (.ref a) f b) Q E s:=by obtain⟨Dz,O,r,_,_,_⟩:=fW I.BU e;obtain⟨u,BX,Ds⟩:=IT.some_of (v:=v) (o:=Dz f) (by rw[<-l];exact r f);exact get_map I.FI O (c.get f) c.hd n BX (wZ Ds) (h u _ (I.tok _) Ds)
def dy{m:Str}{g:A3}{pl:Sem Bool}{Q:A4×List A4->AL->Prop}(I:Inv X pins σ H s)(e:H a=some (.ins C Ar fs))(c:Jj X.K C)(k:Meth X.K C m g)(l:fs.lookup m=none)(h:Q (.ref g,[.ref a]) s):An (BA X.prog X.w) A (QO (.ref a) m pl) Q E s:=by obtain⟨Dz,O,r,_,_,_⟩:=fW I.BU e;have AU:Dz m=none:=IT.none_of (by rw[<-l];exact r m);exact xB I.FI O (c.get m) k.at_ k.fn AU h
def aeE{y:V}{u:A4}{Q:Unit->AL->Prop}(I:Inv X pins σ H s)(e:H a=some (.ins C Ar fs))(c:Jj X.K C)(n:QX X.K C f)(AF:fs.length<1000)(Bo:RelV y u)(h:∀s',Inv X pins σ (upd H a (.ins C Ar (HC f y fs))) s'->Q () s'):An (BA X.prog X.w) A (setAttr (.ref a) f u) Q E s:=by
 obtain⟨Dz,O,r,HE,_,AN⟩:=fW I.BU e;have BL:(fs.map (·.1)).length<=CF:=by rw[Gp,LZ];omega
 refine aeD I.FI O c.OT c.po n.agn c.hd HE BL λh' Ur Et=>h _ ?_;have hd:∃o,h'.get? Ar=some o:=let⟨o,_,_,Bw,_⟩:=Ur.ns;⟨o,Bw⟩
 refine I.write (x:=a) (e:=Ar) (by rw[e];exact MQ) (.inr AN) (λb q J z=>(Et.2 b J).trans z) hd ?_;refine⟨by rw[Df O.ne];exact AN,?_,O.ne,Ur.obj,_,Ur.ns,λg=>?_,λg AW=>?_⟩
 .have:=ob f y fs;omega
 .show IT ((HC f y fs).lookup g) (if g=f then some u else Dz g);rw[oe];by_cases q:g=f
  .rw[if_pos q,if_pos q];exact Bo
  .rw[if_neg q,if_neg q];exact r g
 .by_cases q:g=f
  .rw[q];exact(fc f y fs).1
  .refine(fc f y fs).2 g (HE g λz=>AW ?_);show(if g=f then some u else Dz g)=none;rw[if_neg q];exact z
def Inv.made(I:Inv X pins σ H s):Inv X pins σ (upd (upd H s.heap.objs.size (.own (s.heap.objs.size+1))) (s.heap.objs.size+1) (.ins C s.heap.objs.size []))
  { s with heap:=(s.heap.push NI).push (Oq C s.heap.objs.size) }:=by
 have AD:(s.heap.push NI).get? s.heap.objs.size=some NI:=FV s.heap rfl;have AR:((s.heap.push NI).push (Oq C s.heap.objs.size)).get? (s.heap.objs.size+1)=some (Oq C s.heap.objs.size):=by
  have:=FV (s.heap.push NI) (o:=Oq C s.heap.objs.size) rfl
  rwa [HU]at this
 have C2:(s.heap.push NI).Ns s.heap.objs.size (λ_=>none):=⟨NI,#[],_,AD,rfl,(λe he=>absurd he (by simp)),λ_=>rfl⟩;have Ak:=I.laid (a:=s.heap.objs.size) (o:=.own (s.heap.objs.size+1)) (h':=s.heap.push NI) (t':=s.toks) (λb u q=>Cv _ q) (CO _) ⟨_,AD⟩;refine Ak.laid (a:=s.heap.objs.size+1) (o:=.ins C s.heap.objs.size []) (t':=s.toks) (λb u q=>Cv _ q) (Nat.le_of_eq (HU _ _)) ?_;have ne:s.heap.objs.size≠s.heap.objs.size+1:=Em (XX _);refine⟨by rw[Df ne,Du],Kk _,ne,AR,λ_=>none,(Heap.Ns1.of_empty C2).at λo q=>Cv _ q,λ_=>MQ,λy BO=>absurd rfl BO⟩
def uu{prog:Bt}{w:Bg}{env:Env}{e:AT}{f:Str}{pos:Pos}{s:AL}{Q:A4->AL->Prop}(J:JL e f env (BE e env)=BE e env)(h:An (BA prog w) A (BE e env) (λo Ct=>An (BA prog w) A (getAttr o f true) Q E Ct) E s):An (BA prog w) A (BE (.Attribute e f pos) env) Q E s:=
 Attribute_any_ h (by rw[arm_eval_Attribute,J])
end
def afW(K:AZ)(Bu:TE)(f:Str):TE:=λσ H Q=>Bu σ H λx H1=>∃a C Ar fs v,x=.ref a/\H1 a=some (.ins C Ar fs)/\Jj K C/\QX K C f/\fs.lookup f=some v/\Q v H1
noncomputable def adE(K:AZ)(Bu OH:TE)(f:Str):Ew:=λD σ H=>OH σ H λy H1=>Bu σ H1 λx Aw=>∃a C Ar fs,x=.ref a/\Aw a=some (.ins C Ar fs)/\Jj K C/\QX K C f/\fs.length<1000/\
 D.Bb σ (upd Aw a (.ins C Ar (HC f y fs)))
section
variable{X:AY}{o e value:AT}{f:Str}{pos pos' Pp:Pos}{Bu OH:TE}
def ad1(he:Ao X e Bu)(J:JL e f X.env (BE e X.env)=BE e X.env):Ao X (.Attribute e f pos) (afW X.K Bu f):=by intro pins s σ H Q I h;refine uu J (Ba (he pins s σ H _ I h) λu s1⟨x,H1,Ak,BF,a,C,Ar,fs,v,ex,Ai,c,n,l,q⟩=>?_);subst ex;obtain rfl:u=Dm a:=BF;exact xD Ak Ai c n l λH8 s2 Bq Ds=>⟨v,H1,Bq,Ds,q⟩
def acA(A1:Ao X o Bu)(Be:Ao X value OH)(hs:MV value (some (.Attribute o f pos')) pos.line X.env=pure false):DF X (.Assign [.Attribute o f pos'] value pos) (adE X.K Bu OH f):=by intro pins s σ H D I h;refine plainObj_wpAny_Assign_Attribute (Ba (Be pins s σ H _ I h) λu s1⟨y,H1,Ak,Bo,q⟩=>Ba (A1 pins s1 σ H1 _ Ak q) λDk s2⟨x,Aw,Bq,BF,a,C,Ar,fs,ex,Ai,c,n,l,B0⟩=>?_) hs;subst ex;obtain rfl:Dk=Dm a:=BF;exact aeE Bq Ai c n l Bo λs3 Dg=>⟨σ,_,Dg,B0⟩
def ai5 {pl:Sem Bool} {m:Str} {apos:Pos} {args:List AT} {pins:List (A3×Obj)} {s:AL} {σ :St} {H:A8} {Q:A4->AL->Prop} {DQ:TE} (he:Ao X e DQ) (I:Inv X pins σ H s)(h:DQ σ H λx H1=>∃a C Ar fs g,x=.ref a/\H1 a=some (.ins C Ar fs)/\Jj X.K C/\Meth X.K C m g/\fs.lookup m=none/\
    ∀s1,Inv X pins σ H1 s1->An (BA X.prog X.w) X.A (S1 pos (.ref g) [.ref a] (Cj pos (Ap args X.env)) (Hw pos (Ht [] X.env))) Q X.xe s1)
  (BB:BE (.Call (.Attribute e m apos) args [] pos) X.env=(do
    let Dk <-BE e X.env
    NO apos.atName
    let(f,first) <-JO [Dk] (QO Dk m pl)
    S1 pos f first (Cj pos (Ap args X.env)) (Hw pos (Ht [] X.env)))) :
  An (BA X.prog X.w) X.A (BE (.Call (.Attribute e m apos) args [] pos) X.env) Q X.xe s:=by
 refine im (pl:=pl) (Ba (he pins s σ H _ I h) λu s1⟨x,H1,Ak,BF,a,C,Ar,fs,g,ex,Ai,c,k,l,q⟩=>?_) BB;subst ex;obtain rfl:u=Dm a:=BF;exact dy Ak Ai c k l (q s1 Ak)
end
section
variable{X:AY}{pins:List (A3×Obj)}{σ :St}{H:A8}{s:AL}{A:C3}{E:A4->AL->Prop}{Q:A4->AL->Prop}{c:A4}{b:Bool}
end
structure DY(k:Nat)(A:C3):Prop where
 hd:A.handled=none
 Yt:A.depth+3*k+5<recursionLimit
 un:A.units+16*k+200<E4
def DY.mono{j k:Nat}{A:C3}(r:DY k A)(h:j<=k):DY j A:=⟨r.hd,by have:=r.Yt;omega,by have:=r.un;omega⟩
theorem DY.deeper{k:Nat}{A:C3}(r:DY (k+1) A)(env:Env):DY k (A.deeper env):=
 ⟨r.hd,by have:=r.Yt;show A.depth+1+3*k+5<_;omega,by have:=r.un;show A.units+3+16*k+200<_;omega⟩
def aaM{A:C3}{C:A3}{us:List A4}{kw:List (Str×A4)}:(A.under (.builtin "type.__call__" ⟨.ref C::us,kw⟩)).depth=A.depth+1:=by
 first|rfl|simp[jL,Code.weight,Code.isCreation,Code.isGuard,Code.isCaller,Code.frames,jM,guardIds]
def aaO{A:C3}{C:A3}{us:List A4}{kw:List (Str×A4)}:(A.under (.builtin "type.__call__" ⟨.ref C::us,kw⟩)).units=A.units+1:=by
 first|rfl|simp[jL,Code.cUnits,Code.frames,jM]
def DY.make{k:Nat}{A:C3}(r:DY (k+1) A)(C:A3)(us:List A4)(kw:List (Str×A4)):DY k (A.under (.builtin "type.__call__" ⟨.ref C::us,kw⟩)):=
 ⟨r.hd,by have:=r.Yt;rw[aaM];omega,by have:=r.un;rw[aaO];omega⟩
theorem DY.depth{k:Nat}{A:C3}(r:DY k A):A.depth<recursionLimit:=by have:=r.Yt;omega
theorem DY.units{k:Nat}{A:C3}(r:DY k A):A.units+64<E4:=by have:=r.un;omega
def b3:EX:=λ_ H Q=>Q [] H
def hA(Bu:TE)(Fq:EX):EX:=λσ H Q=>Bu σ H λx H1=>Fq σ H1 λxs Aw=>Q (x::xs) Aw
section
variable{X:AY}{e:AT}{es:List AT}{DQ:TE}{t:EX}{pos:Pos}
def N1:F1 X [] b3:=λ_ _ _ _ H Q I h=>Xb ⟨[],H,I,.nil,h⟩
def Kr(A1:Ao X e DQ)(A6:F1 X es t)(hs:Ap (e::es) X.env=(false,BE e X.env)::Ap es X.env:=by rfl):F1 X (e::es) (hA DQ t):=by intro pos pins s σ H Q I h;rw[hs];show An _ _ (spliced ((false,BE e X.env)::Cj pos (Ap es X.env))) _ _ s;refine Xl (Ba (A1 pins s σ H _ I h) λu s1⟨x,H1,Ak,AE,Aa⟩=>?_);exact Ba (A6 pos pins s1 σ H1 _ Ak Aa) λus s2⟨xs,Aw,Bq,B4,B0⟩=>⟨x::xs,Aw,Bq,.cons AE B4,B0⟩
def hG(t:EX):TE:=λσ H Q=>t σ H λxs H1=>xs.length<=CF/\∀p,H1 p=none->Q (.ref p) (upd H1 p (.tup xs))
def qZ(t:EX):TE:=λσ H Q=>t σ H λxs H1=>xs.length<=CF/\∀p,H1 p=none->Q (.ref p) (upd H1 p (.lst xs))
def qU{F7}(h:F1 X es t):Ao X (.Tuple es F7 pos) (hG t):=by intro pins s σ H Q I Ab;refine wpAny_Tuple_spliced (Ba (h pos pins s σ H _ I Ab) λus s1⟨xs,H1,Ak,r,z,q⟩=>⟨by rw[<-r.length];exact z,?_⟩);have hf:H1 s1.heap.objs.size=none:=Ak.BU.fresh (CO _);refine⟨.ref s1.heap.objs.size,upd H1 s1.heap.objs.size (.tup xs),Ak.laid (t':=s1.toks) (λb u e=>Cv _ e) (CO _) ?_,rfl,q _ hf⟩;exact⟨z,us,r,⟨_,FV _ rfl,rfl,_,rfl⟩⟩
def ad6(h:F1 X es t):Ao X (.List es pos) (qZ t):=by intro pins s σ H Q I Ab;refine wpAny_List_spliced (Ba (h pos pins s σ H _ I Ab) λus s1⟨xs,H1,Ak,r,z,q⟩=>⟨by rw[<-r.length];exact z,?_⟩);have hf:H1 s1.heap.objs.size=none:=Ak.BU.fresh (CO _);refine⟨.ref s1.heap.objs.size,upd H1 s1.heap.objs.size (.lst xs),Ak.laid (t':=s1.toks) (λb u e=>Cv _ e) (CO _) ?_,rfl,q _ hf⟩;exact⟨z,us,0,r,FV _ rfl⟩
end
abbrev J0:=List V->A8->C_->CS->Prop
abbrev KA:=List Env->A8->AL->CS->A4->AL->Prop
structure QU(P:Bt)(w:Bg)(K:AZ)(mg:Str->Option A4)(base:B1)(A:C3)(outer:List Env)(s:AL)(H:A8):Prop where
 frames:A.frames=some outer
 mod:Mod K mg base
 bs:∀b o,base.get? b=some o->s.heap.get? b=some o/\H b=none
 PJ:base.objs.size<=s.heap.objs.size
 I_:s.heap.FunFrames base outer
 RQ:∀b∈DH outer,H b=none
 BU:ED P w H s.heap
 bare:Lc s.gens
def cR(outer:List Env)(P:Bt)(w:Bg)(H:A8)(s:AL)(Q:C_)(u:A4)(s':AL):Prop:=
 ∃v H',s'.os=s.os/\Lc s'.gens/\EY (DH outer) [] H H' s.heap s'.heap/\ED P w H' s'.heap/\RelV v u/\Q v H'
noncomputable def u6(CX:KA)(outer:List Env)(P:Bt)(w:Bg)(H:A8)(s:AL)(Q:C_)(E:CS)(r:Result)(s':AL):Prop:=
 match r with
 |.ok (.ret u)=>cR outer P w H s Q u s'
 |.ok _=>False
 |.error e=>CX outer H s E e s'
structure HY(P:Bt)(w:Bg)(K:AZ)(mg:Str->Option A4)(base:B1)(CX:KA)(k:Nat)(f:A3)(fd:GO)(AK:List Str)(sp:J0):Prop where
 len:∀vs H Q E,sp vs H Q E->vs.length=AK.length
 run:∀(A:C3)(outer:List Env)(s:AL)(H:A8)(args:Args)(us:List A4)(vs:List V)(Q:C_)(E:CS),DY k A->QU P w K mg base A outer s H->BindsTo s fd args (AK.zip us)->Vals vs us->sp vs H Q E->
  MW (BA P w) A (.call (.ref f) args) (u6 CX outer P w H s Q E) s
def QU.make{P:Bt}{w:Bg}{K:AZ}{mg:Str->Option A4}{base:B1}{A:C3}{outer:List Env}{s:AL}{H:A8}(e:QU P w K mg base A outer s H)(C:A3)(us:List A4)(kw:List (Str×A4)) :
  QU P w K mg base (A.under (.builtin "type.__call__" ⟨.ref C::us,kw⟩)) outer s H:=⟨by first|exact e.frames|(simpa[jL,Code.envs,jM,pushEnvs]using e.frames),e.mod,e.bs,e.PJ,e.I_,e.RQ,e.BU,e.bare⟩
section
variable{X:AY}{pins:List (A3×Obj)}{σ :St}{H:A8}{s s':AL}
def Inv.m7(I:Inv X pins σ H s):QU X.prog X.w X.K X.mg X.base X.A X.stack s H:=
 ⟨I.ok.frames,I.ok.mod,I.bs,EB I.ok.PJ I.bk,I.stack,I.h_,I.BU,I.bare⟩
def Inv.after{Q:C_}{u:A4}(I:Inv X pins σ H s)(h:cR X.stack X.prog X.w H s Q u s'):G1 X pins σ Q u s':=by obtain⟨v,H',os,bare,un,BU,r,q⟩:=h;obtain⟨BN,g,d,t,fO⟩:=s';obtain rfl:fO=s.os:=os;exact⟨v,H',I.call (h':=BN) (g':=g) (d':=d) (t':=t) (ch:=[]) un BU bare (λb z=>absurd z (by simp)),r,q⟩
end
def Vy(sp:J0)(Gi:List V)(E:CS)(t:EX):TE:=λσ H Q=>t σ H λvs H1=>sp (vs++Gi) H1 Q E
def b2(C:A3)(m:Str)(sp:J0)(Gi:List V)(E:CS)(Bu:TE)(t:EX):TE:=λσ H Q=>Bu σ H λx H1=>∃a Ar fs,x=.ref a/\H1 a=some (.ins C Ar fs)/\fs.lookup m=none/\
 t σ H1 λvs Aw=>sp (x::(vs++Gi)) Aw Q E
noncomputable def hC(C:A3)(sp:J0)(Gi:List V)(E:CS)(t:EX):TE:=λσ H Q=>t σ H λvs H1=>∀x Ar,H1 x=none->H1 Ar=none->Ar≠x->
 sp (.ref x::(vs++Gi)) (upd (upd H1 Ar (.own x)) x (.ins C Ar [])) (λv Aw=>v=.non/\Q (.ref x) Aw) E
def Binds(K:AZ)(fd:GO)(AK:List Str)(ds:List A4):Prop:=
 ∀(s:AL)(us:List A4),K.In s.heap->(us++ds).length=AK.length->BindsTo s fd ⟨us,[]⟩ (AK.zip (us++ds))
def Binds.all{K:AZ}{fd:GO}{AK:List Str}(h:∀us:List A4,us.length=AK.length->S2 fd ⟨us,[]⟩=pure (AK.zip us)):Binds K fd AK []:=λs us _ AF=>by rw[LY]at AF |-;exact .of_eq (h us AF)
def Passes(CX:KA)(X:AY)(E:CS):Prop:=∀(pins:List (A3×Obj))(σ :St)(H:A8)(s:AL)(e:A4)(s':AL),Inv X pins σ H s->CX X.stack H s E e s'->X.xe e s'
section
variable{X:AY}{CX:KA}{k:Nat}{f C:A3}{fd:GO}{AK:List Str}{sp:J0}{Gi:List V}{ds:List A4}{E:CS}{x m:Str}{p pos apos:Pos}{e o:AT}{es:List AT}{Bu:TE}{t:EX}
def bR{pins:List (A3×Obj)}{σ :St}{H:A8}{s:AL}{Q:C_}{us:List A4}{vs:List V}(F:HY X.prog X.w X.K X.mg X.base CX k f fd AK sp)(A6:DY k X.A)(J:Binds X.K fd AK ds)(hd:Vals Gi ds)(AA:Passes CX X E)(I:Inv X pins σ H s)(r:Vals vs us)(h:sp (vs++Gi) H Q E):An (BA X.prog X.w) X.A (call (.ref f) us) (G1 X pins σ Q) X.xe s:=by
 have B4:Vals (vs++Gi) (us++ds):=r.append hd;have AF:(us++ds).length=AK.length:=by rw[<-B4.length];exact F.len _ _ _ _ h
 refine wpAny_call (Rw (F.run X.A X.stack s H ⟨us,[]⟩ (us++ds) (vs++Gi) Q E A6 I.m7 (J s us I.FI AF) B4 h) λr s' Ab=>?_);cases r with
 |error e=>exact AA pins σ H s e s' I Ab
 |ok fl=>
  cases fl with
  |ret u=>exact I.after Ab
  |next=>exact Jx Ab
  |brk=>exact Jx Ab
  |cont=>exact Jx Ab
def WI(F:HY X.prog X.w X.K X.mg X.base CX k f fd AK sp)(A6:DY k X.A)(AW:DI X x)(hm:X.mg x=some (.ref f))(AQ:Ir X.K (.ref f)=true)(J:Binds X.K fd AK ds)(hd:Vals Gi ds)(AA:Passes CX X E)(A1:F1 X (e::es) t)(Fn:(x==("__debug__" :Str))=false:=by decide)(he:Ap (e::es) X.env=(false,BE e X.env)::Ap es X.env:=by rfl)(Cz:(Cj pos (Ap es X.env)).any (·.1)=false:=by rfl) :
  Ao X (.Call (.Name x p) (e::es) [] pos) (Vy sp Gi E t):=by
 intro pins s σ H Q I h;refine Rs (aT I AW hm ?_ Fn);refine Xm (h₀:=X.base) I.ok.mod.Mr AQ (Ba (A1 pos pins s σ H _ I h) λus s1⟨vs,H1,Ak,r,q⟩=>⟨Ak.FI,?_⟩) he Cz;exact bR F A6 J hd AA Ak r q
def acE {pl:Sem Bool} (he:Ao X o Bu) (c:Jj X.K C) (hm:Meth X.K C m f) (F:HY X.prog X.w X.K X.mg X.base CX k f fd AK sp) (A6:DY k X.A) (J:Binds X.K fd AK ds) (hd:Vals Gi ds) (AA:Passes CX X E) (A1:F1 X (e::es) t)(ES:Ap (e::es) X.env=(false,BE e X.env)::Ap es X.env:=by rfl) (Cz:(Cj pos (Ap es X.env)).any (·.1)=false:=by rfl)(BB:BE (.Call (.Attribute o m apos) (e::es) [] pos) X.env=(do
    let Dk <-BE o X.env
    NO apos.atName
    let(f,first) <-JO [Dk] (QO Dk m pl)
    S1 pos f first (Cj pos (Ap (e::es) X.env)) (Hw pos (Ht [] X.env))):=by rfl) :
  Ao X (.Call (.Attribute o m apos) (e::es) [] pos) (b2 C m sp Gi E Bu t):=by
 intro pins s σ H Q I h;refine im (pl:=pl) (Ba (he pins s σ H _ I h) λu s1⟨x,H1,Ak,BF,a,Ar,fs,ex,Ai,l,q⟩=>?_) BB;subst ex;obtain rfl:u=Dm a:=BF;refine dy Ak Ai c hm l ?_;refine Xm (first:=[.ref a]) (h₀:=X.base) I.ok.mod.Mr hm.AV (Ba (A1 pos pins s1 σ H1 _ Ak q) λus s2⟨vs,Aw,Bq,r,B0⟩=>⟨Bq.FI,?_⟩) ES Cz;exact bR (us:=.ref a::us) (vs:=.ref a::vs) F A6 J hd AA Bq (.cons rfl r) B0
def acF {pl:Sem Bool} (he:Ao X o Bu) (c:Jj X.K C) (hm:Meth X.K C m f) (F:HY X.prog X.w X.K X.mg X.base CX k f fd AK sp) (A6:DY k X.A) (J:Binds X.K fd AK ds) (hd:Vals Gi ds) (AA:Passes CX X E)(BB:BE (.Call (.Attribute o m apos) [] [] pos) X.env=(do
    let Dk <-BE o X.env
    NO apos.atName
    let(f,first) <-JO [Dk] (QO Dk m pl)
    S1 pos f first (Cj pos (Ap [] X.env)) (Hw pos (Ht [] X.env))):=by rfl) :
  Ao X (.Call (.Attribute o m apos) [] [] pos) (b2 C m sp Gi E Bu b3):=by
 intro pins s σ H Q I h;refine im (pl:=pl) (Ba (he pins s σ H _ I h) λu s1⟨x,H1,Ak,BF,a,Ar,fs,ex,Ai,l,q⟩=>?_) BB;subst ex;obtain rfl:u=Dm a:=BF;refine dy Ak Ai c hm l ?_;exact PySem.W.callWith_K0 (first:=[.ref a]) Ak.FI hm.AV (bR (us:=[.ref a]) (vs:=[.ref a]) F A6 J hd AA Ak (.cons rfl .nil) q)
structure Y_(K:AZ)(C f:A3):Prop where
 makes:Xz K C=true
 init:Hu K (.ref C) "__init__"=some (some (.ref f))
 fn:UQ K (.ref f)=true
 AV:Ir K (.ref C)=true
def ad8{pins:List (A3×Obj)}{σ :St}{H:A8}{s:AL}{Q:C_}{us:List A4}{vs:List V}(M:Y_ X.K C f)(F:HY X.prog X.w X.K X.mg X.base CX k f fd AK sp)(A6:DY (k+1) X.A)(J:Binds X.K fd AK ds)(hd:Vals Gi ds)(AA:Passes CX X E)(I:Inv X pins σ H s)(r:Vals vs us)(h:∀x Ar,H x=none->H Ar=none->Ar≠x->sp (.ref x::(vs++Gi)) (upd (upd H Ar (.own x)) x (.ins C Ar [])) (λv Aw=>v=.non/\Q (.ref x) Aw) E) :
  An (BA X.prog X.w) X.A (call (.ref C) us) (G1 X pins σ Q) X.xe s:=by
 have Ab:=h (s.heap.objs.size+1) s.heap.objs.size (I.BU.fresh (Y6 _)) (I.BU.fresh (CO _)) (Em (XX _));have Bq:=Inv.made (C:=C) I;have B4:Vals (V.ref (s.heap.objs.size+1)::(vs++Gi)) (Dm (s.heap.objs.size+1)::(us++ds)):=.cons rfl (r.append hd);have AF:(Dm (s.heap.objs.size+1)::us++ds).length=AK.length:=by have e:=B4.length;rw[F.len _ _ _ _ Ab]at e;exact e.symm
 refine wpAny_call (aaN (f:=f) I.FI M.makes M.init (beq_iff_eq.mp M.fn) (Rw (F.run _ X.stack _ _ ⟨Dm (s.heap.objs.size+1)::us,[]⟩ (Dm (s.heap.objs.size+1)::(us++ds)) _ _ E (A6.make C us [])
  (Bq.m7.make C us []) (J _ (Dm (s.heap.objs.size+1)::us) Bq.FI AF) B4 Ab) λr s' PM=>?_))
 cases r with
 |error e=>exact AA pins σ _ _ e s' Bq PM
 |ok fl=>
  cases fl with
  |ret u=>obtain⟨v,H',Dg,Bj,ev,E1⟩:=Bq.after PM;subst ev;exact⟨Bj,⟨V.ref (s.heap.objs.size+1),H',Dg,rfl,E1⟩⟩
  |next=>exact Jx PM
  |brk=>exact Jx PM
  |cont=>exact Jx PM
def qT(M:Y_ X.K C f)(F:HY X.prog X.w X.K X.mg X.base CX k f fd AK sp)(A6:DY (k+1) X.A)(AW:DI X x)(hm:X.mg x=some (.ref C))(J:Binds X.K fd AK ds)(hd:Vals Gi ds)(AA:Passes CX X E)(A1:F1 X (e::es) t)(Fn:(x==("__debug__" :Str))=false:=by decide)(he:Ap (e::es) X.env=(false,BE e X.env)::Ap es X.env:=by rfl)(Cz:(Cj pos (Ap es X.env)).any (·.1)=false:=by rfl) :
  Ao X (.Call (.Name x p) (e::es) [] pos) (hC C sp Gi E t):=by
 intro pins s σ H Q I h;refine Rs (aT I AW hm ?_ Fn);refine Xm (h₀:=X.base) I.ok.mod.Mr M.AV (Ba (A1 pos pins s σ H _ I h) λus s1⟨vs,H1,Ak,r,q⟩=>⟨Ak.FI,?_⟩) he Cz;exact ad8 M F A6 J hd AA Ak r q
end
section
variable{X:AY}{CX:KA}{k:Nat}{f C:A3}{fd:GO}{AK A_:List Str}{sp:J0}{E:CS}{x m:Str}{p pos apos aiS:Pos}{e o:AT}{es:List AT}{aiT:List GA}{DQ Bu:TE}{t C8:EX}{nm:Option Str}
variable{g:List A4->List A4->List A4}{aiv:List V->List V->List V}
end
structure Bv(N P:List Str)(sc:D9):Prop where
 kind:sc.kind=.function
 co:sc.isCoroutine=false
 gen:sc.isGenerator=false
 B6:N.Nodup
 pre:N.take P.length=P
 par:∀x∈P,sc.names.lookup x=some .local\/sc.names.lookup x=some .cell
 abo:∀y∈sc.names,y.2≠.free
theorem kS{kindOf:Str->Option Jy}{x:Str}:∀{binds:List (Str×A4)}{m:Str->Option A4},(∀v,(x,v)∉binds)->bindL kindOf binds m x=m x
 |[],_,_=>rfl
 |(n,v)::r,m,h=>by
  unfold bindL;rw[kS λw hw=>h w (En _ hw)]
  split
  .have:x≠n:=by rintro rfl;exact h v IM
   simp[this]
  .rfl
theorem kQ{kindOf:Str->Option Jy}{x:Str}:∀{binds:List (Str×A4)}{m:Str->Option A4},(∀v,(x,v)∉binds)->bindC kindOf binds m x=m x
 |[],_,_=>rfl
 |(n,v)::r,m,h=>by
  unfold bindC;rw[kQ λw hw=>h w (En _ hw)]
  split
  .rfl
  .have:x≠n:=by rintro rfl;exact h v IM
   simp[this]
theorem kR{kindOf:Str->Option Jy}{x:Str}{v:A4}:∀{P:List Str}{vs:List A4}{i:Nat}{m:Str->Option A4},P.Nodup->P[i]?=some x->vs[i]?=some v->kindOf x=some .local->
  bindL kindOf (P.zip vs) m x=some v
 |[],_,_,_,_,h,_,_=>by simp at h
 |_::_,[],_,_,_,_,h,_=>by simp at h
 |p::P,w::vs,0,m,B6,h1,h2,AQ=>by simp at h1 h2;subst h1;subst h2;show bindL kindOf ((p,w)::P.zip vs) m p=_;unfold bindL;rw[kS λv Be=>(List.nodup_cons.mp B6).1 (UN Be).1,if_pos AQ];simp
 |p::P,w::vs,i+1,m,B6,h1,h2,AQ=>by show bindL kindOf ((p,w)::P.zip vs) m x=_;unfold bindL;exact kR (i:=i) (List.nodup_cons.mp B6).2 (by simpa using h1) (by simpa using h2) AQ
theorem kP{kindOf:Str->Option Jy}{x:Str}{v:A4}:∀{P:List Str}{vs:List A4}{i:Nat}{m:Str->Option A4},P.Nodup->P[i]?=some x->vs[i]?=some v->kindOf x≠some .local->
  bindC kindOf (P.zip vs) m x=some v
 |[],_,_,_,_,h,_,_=>by simp at h
 |_::_,[],_,_,_,_,h,_=>by simp at h
 |p::P,w::vs,0,m,B6,h1,h2,AQ=>by simp at h1 h2;subst h1;subst h2;show bindC kindOf ((p,w)::P.zip vs) m p=_;unfold bindC;rw[kQ λv Be=>(List.nodup_cons.mp B6).1 (UN Be).1,if_neg AQ];simp
 |p::P,w::vs,i+1,m,B6,h1,h2,AQ=>by show bindC kindOf ((p,w)::P.zip vs) m x=_;unfold bindC;exact kP (i:=i) (List.nodup_cons.mp B6).2 (by simpa using h1) (by simpa using h2) AQ
def start(N:List Str)(vs:List V):St:=vs.map some++FU (N.length-vs.length) none
noncomputable def Eb(CX:KA)(P:Bt)(w:Bg)(K:AZ)(mg:Str->Option A4)(base:B1)(N:List Str)(qual:Str)(scope:D9)(f:A3)(cd:A4)(A:C3)(outer:List Env)(s:AL)(H:A8)(E:CS):AY where
 prog:=P
 w:=w
 K:=K
 mg:=mg
 base:=base
 A:=A.deeper (NN qual scope s.heap.objs.size f cd)
 N:=N
 Ee:=s
 N7:=H
 env:=NN qual scope s.heap.objs.size f cd
 outer:=outer
 stack:=NN qual scope s.heap.objs.size f cd::outer
 ex:=[]
 calm:=true
 fn:=λ_=>true
 Pe:=[]
 xe:=λe s'=>An (BA P w) (A.deeper (NN qual scope s.heap.objs.size f cd)) (QR (NN qual scope s.heap.objs.size f cd) e) (λ_ GK=>CX outer H s E e GK) (λBw GK=>CX outer H s E Bw GK) s'
def dE{sc:D9}{n:Nat}{x:Str}(h:sc.names.lookup x=some .cell):∃c,(HB n sc.names []).lookup x=some c:=by have q:=sq sc.names n [] (.inl h);exact Option.isSome_iff_exists.mp q
def y_{CX:KA}{P:Bt}{w:Bg}{K:AZ}{mg:Str->Option A4}{base:B1}{N AK:List Str}{qual:Str}{scope:D9}{f:A3}{cd:A4}{A:C3}{outer:List Env}{s s1:AL}{H:A8}{E:CS}{us:List A4}{vs:List V}(S:Bv N AK scope)(hd:A.handled=none)(Cc:QU P w K mg base A outer s H)(AF:vs.length=AK.length)(r:Vals vs us)(x:InCallC s s.heap.objs.size (bindL (NN qual scope s.heap.objs.size f cd).kindOf (AK.zip us) λ_=>none) (HB (s.heap.objs.size+1) scope.names []) (bindC (NN qual scope s.heap.objs.size f cd).kindOf (AK.zip us) λ_=>none) s1) :
  Inv (Eb CX P w K mg base N qual scope f cd A outer s H E) [] (start N vs) H s1:=by
 have Cz:AK.length<=N.length:=by have:=congrArg List.length S.pre;rw[NH]at this;omega
 obtain⟨h1,C8,rfl,AQ⟩:=x.done;have WC:∀b:A3,b∉(Eb CX P w K mg base N qual scope f cd A outer s H E).ex:=λb z=>absurd (show b∈([]:List A3)from z) (by simp)
 refine⟨⟨Cc.mod,S.kind,rfl,rfl,CO _,λy z c h1 h2=>?_,λy BO=>?_,λy c _ h=>?_,λ_=>hd,Around.frames_deeper Cc.frames,.inr ⟨rfl,rfl⟩,λb z=>absurd z (WC b),Cc.bs,Cc.PJ,λb _ _=>WC b,λb z=>absurd z (WC b),Cc.I_,Cc.RQ⟩,
  rfl,Cc.bare,EY.kept AQ,⟨_,x.toInCall.ns,λi y v h1 h2 h3=>?_⟩,λy c h=>⟨_,x.cell y c h⟩,Cc.BU.fresh (CO _),λy c h=>?_,λp Am=>absurd (show p∈([]:List (A3×Obj))from Am) (by simp),Cc.BU.kept AQ,?_⟩
 .exact name_of_addr x.apart (MP h1) (MP h2)
 .have BO:scope.names.lookup y=some .cell\/scope.names.lookup y=some .free:=BO;rcases BO with BO|BO
  .exact dE BO
  .exact absurd rfl (S.abo _ (MP BO))
 .exact Rv (x.above y c (MP h))
 .have AC:i<vs.length:=by
    unfold start at h2;by_cases AC:i<vs.length
    .exact AC
    .rw[HA (by simpa using AC)]at h2;rw[Oo]at h2
     split at h2<;>cases h2
  have A1:vs[i]?=some v:=by
   unfold start at h2;rw[Hs (by simpa using AC),Fl]at h2;cases e:vs[i]? with
   |none=>rw[e]at h2;cases h2
   |some a=>rw[e]at h2;cases h2;rfl
  obtain⟨u,BX,Bj⟩:=r.get A1;have Am:AK[i]?=some y:=by rw[<-S.pre,XQ (by omega)];exact h1
  have oy:AK.Nodup:=by rw[<-S.pre];exact S.B6.sublist (List.take_sublist _ _)
  refine⟨u,Bj,?_⟩;rcases S.par y (F8 Am)with k|k
  .exact .inl ⟨k,kR oy Am BX k⟩
  .obtain⟨c,e⟩:=dE (n:=s.heap.objs.size+1) k;refine .inr ⟨.inl k,c,e,?_⟩;have q:=x.cell y c e;rw[kP oy Am BX (by show scope.names.lookup y≠_;rw[k];decide)]at q;exact q
 .exact Cc.BU.fresh (Rv (x.above y c (MP h)))
 .unfold start;show _=N.length;rw[HS,Gp,Ro];omega
def ee {CX:KA} {P:Bt} {w:Bg} {K:AZ} {mg:Str->Option A4} {base:B1} {k:Nat} {f:A3} {name qual:Str} {params:Arguments} {body:List B9} {scope:D9} {Zb Cf doc pm CB Cn Ey:A4} {an Dc:Option A3}{Kq:Array (Option A4)} {N AK:List Str} {sp:J0} (lk:K.lookup f=some ⟨Ey,Dc,.func (Iq name qual params body scope Zb Cf doc pm an CB Cn),Kq⟩) (Dj:Op K CB qual=true) (S:Bv N AK scope)(len:∀vs H Q E,sp vs H Q E->vs.length=AK.length)(e7:∀(A:C3)(outer:List Env)(s:AL)(H:A8)(vs:List V)(Q:C_)(E:CS),DY k (A.deeper (NN qual scope s.heap.objs.size f CB))->sp vs H Q E->
    ∃t,GU (Eb CX P w K mg base N qual scope f CB A outer s H E) body t/\t { Bb:=λ_ H'=>Q .non H',Ed:=Q } (start N vs) H) :
  HY P w K mg base CX (k+1) f (Iq name qual params body scope Zb Cf doc pm an CB Cn) AK sp:=by
 refine⟨len,λA outer s H args us vs Q E A6 Cc J r Pu=>?_⟩;have AF:=len _ _ _ _ Pu;have Lr:K.In s.heap:=Cc.mod.Mr.keeps λb o e=>(Cc.bs b o e).1;have lim:s.heap.NoLimit:=Cc.mod.nolimit.keeps λb o e=>(Cc.bs b o e).1;have wR:∀y∈AK.zip us,scope.names.lookup y.1=some .local\/(scope.names.lookup y.1=some .cell/\((HB (s.heap.objs.size+1) scope.names []).lookup y.1).isSome=true):=λ⟨n,v⟩ BO=>by
  rcases S.par n (UN BO).1 with q|q
  .exact .inl q
  .exact .inr ⟨q,sq _ _ _ (.inl q)⟩
 refine codeAny_call_function A6.depth (Lr _ _ lk) rfl S.co S.gen rfl (PySem.W.codeRec_of Lr Dj) (J _ _ _ _ ?_);refine wpAny_newFunctionEnv_cells S.kind wR λenv he s1 x=>?_;subst he;refine⟨lim.keeps x.toInCall.keep,codeAny_func ?_⟩;obtain⟨t,BB,Ab⟩:=e7 A outer s H vs Q E (A6.deeper _) Pu;have I:Inv (Eb CX P w K mg base N qual scope f CB A outer s H E) [] (start N vs) H s1:=y_ S A6.hd Cc AF r x;refine Gs (BB [] s1 (start N vs) H _ I Ab) (λfl s' hs=>?_) λe s' hs=>hs;have fin:∀{σ' :St}{H':A8}{v:V}{u:A4},Inv (Eb CX P w K mg base N qual scope f CB A outer s H E) [] σ' H' s'->RelV v u->Q v H'->cR outer P w H s Q u s':=
  λ{σ' H' v u} CH Bj q=>⟨v,H',CH.os,CH.bare,CH.base,CH.BU,Bj,q⟩
 cases fl with
 |ret u=>obtain⟨v,σ',H',CH,Bj,q⟩:=hs;exact fin CH Bj q
 |next=>obtain⟨σ',H',CH,q⟩:=hs;exact fin (v:=V.non) (u:=Gr) CH rfl q
 |brk=>obtain⟨_,_,_,q⟩:=hs;exact Jx q
 |cont=>obtain⟨_,_,_,q⟩:=hs;exact Jx q
section
variable{X:AY}{x:Str}{p pos:Pos}{e:AT}{es:List AT}{t:EX}{id T:String}{r:List V->A8->C_->Prop}
def b0(r:List V->A8->C_->Prop)(t:EX):TE:=λσ H Q=>t σ H λvs H1=>r vs H1 Q
def fT(AG:Gu X (.builtin id) r)(AW:DI X x)(hm:X.mg x=none)(Be:Js x=some (.builtin id))(A1:F1 X (e::es) t)(AU:x≠"__name__":=by decide)(Fn:(x==("__debug__" :Str))=false:=by decide)(he:Ap (e::es) X.env=(false,BE e X.env)::Ap es X.env:=by rfl)(Cz:(Cj pos (Ap es X.env)).any (·.1)=false:=by rfl):Ao X (.Call (.Name x p) (e::es) [] pos) (b0 r t):=by intro pins s σ H Q I h;refine Rs (Nu I AW hm Be ?_ AU Fn);exact PyProof.Rows.callWith_builtin1 (Ba (A1 pos pins s σ H _ I h) λus s1⟨vs,H1,Ak,AE,Aa⟩=>AG pins s1 σ H1 vs us Q Ak AE Aa) he Cz
def en(AG:Gu X (.type T) r)(AW:DI X x)(hm:X.mg x=none)(Be:Js x=some (.type T))(A1:F1 X (e::es) t)(AU:x≠"__name__":=by decide)(Fn:(x==("__debug__" :Str))=false:=by decide)(he:Ap (e::es) X.env=(false,BE e X.env)::Ap es X.env:=by rfl)(Cz:(Cj pos (Ap es X.env)).any (·.1)=false:=by rfl):Ao X (.Call (.Name x p) (e::es) [] pos) (b0 r t):=by intro pins s σ H Q I h;refine Rs (Nu I AW hm Be ?_ AU Fn);exact QE (Ba (A1 pos pins s σ H _ I h) λus s1⟨vs,H1,Ak,AE,Aa⟩=>AG pins s1 σ H1 vs us Q Ak AE Aa) he Cz
end
end C7
namespace Dx
open PySem PyProof.Rows
section
open PySem.SeqAt
open PySem.AutoSeq1 (wpAny_loadPart')
open PySem.MeetsSeq PySem.MeetsSeq2 PySem.MeetsSeq3
end
section
variable{prog:Bt}{w:Bg}{A:C3}{E:A4->AL->Prop}{s:AL}
def uc{t b:A3}{vs ws:List A4}{Q:A4->AL->Prop}(BB:IsTup s.heap t vs.toArray)(J:IsTup s.heap b ws.toArray)(Be:vs≠[])(h1:ws=[]->Q (.ref t) s)(h2:ws≠[]->Q (.ref s.heap.objs.size) { s with heap:=s.heap.push { cls:=.type "tuple",data:=.seq (vs++ws).toArray } })(hsz:vs.length+ws.length<=CF):An (BA prog w) A (IR .Add (.ref t) (.ref b)) Q E s:=by
 obtain⟨⟨cls,dd,data,CJ⟩,AN,AG,n,hd⟩:=id BB;obtain⟨⟨uf,Ys,data2,OW⟩,RX,Hc,Ch,hd2⟩:=id J;simp only at AG hd Hc hd2;subst AG hd Hc hd2;have e:vs.toArray++ws.toArray=(vs++ws).toArray:=by simp
 by_cases hw:ws=[]
 .exact concat_meets ⟨_,AN,rfl⟩ ⟨_,RX,rfl⟩ jD seq_tuple_add il iz (iv _ _)
    (tuple_addW1 t b vs.toArray ws.toArray n Ch dd Ys CJ OW (by simpa using Be) (by simp[hw])) ⟨AN,RX,h1 hw⟩
 .refine concat_meets ⟨_,AN,rfl⟩ ⟨_,RX,rfl⟩ jD seq_tuple_add il iz (iv _ _)
    (tuple_addW2 t b vs.toArray ws.toArray n Ch dd Ys CJ OW (by simpa using Be) (by simpa using hw) (by rw[DO,DO];exact hsz)) ⟨AN,RX,?_⟩
  rw[e];exact h2 hw
def Ez(n d:Nat):Option Int->Nat
 |none=>d
 |some v=>if v<0 then(v+(n:Int)).toNat else min v.toNat n
def pY(n d:Nat):Ez n d none=d:=rfl
def bU(n d k:Nat):Ez n d (some (k:Int))=min k n:=by show(if(k:Int)<0 then((k:Int)+(n:Int)).toNat else min (k:Int).toNat n)=min k n;rw[if_neg (by omega),Ri]
end
end Dx
namespace C7
open PySem PySem.Spec PyProof.Rows
abbrev BV:=St->A8->(Option Int->A8->Prop)->Prop
noncomputable def Ut(X:AY)(e:Option AT)(t:BV):Prop:=
 ∀(pins:List (A3×Obj))(s:AL)(σ :St)(H:A8)(Q:Option Int->A8->Prop),Inv X pins σ H s->t σ H Q->
  An (BA X.prog X.w) X.A (evalPart e X.env) (λu s'=>∃o H',Inv X pins σ H' s'/\IsPart u o/\Q o H') X.xe s
def afY:BV:=λ_ H Q=>Q none H
def afZ(t:TE):BV:=λσ H Q=>t σ H λx H1=>∃i,x=.int i/\Q (some i) H1
section
variable{X:AY}{e:AT}{DQ:TE}{lo AC:Option AT}{Fe bA:BV}{pos Cd:Pos}
def aca:Ut X none afY:=by intro pins s σ H Q I h;rw[evalPart_none];exact CK ⟨none,H,I,.none,h⟩
def acb(h:Ao X e DQ):Ut X (some e) (afZ DQ):=by intro pins s σ H Q I hw;rw[evalPart_some];refine Ba (h pins s σ H _ I hw) λu s1⟨x,H1,Ak,AE,Aa⟩=>?_;obtain⟨i,rfl,q⟩:=Aa;obtain⟨t,rfl⟩:=AE;exact⟨some i,H1,Ak,.int i t,q⟩
noncomputable def RA(X:AY)(r:V->Option Int->Option Int->A8->C_->Prop):Prop:=
 ∀(pins:List (A3×Obj))(s:AL)(σ :St)(H:A8)(x:V)(v LQ LR:A4)(lo AC:Option Int)(CJ:A3)(Q:C_),Inv X pins σ H s->RelV x v->s.heap.IsSliceOf CJ LQ LR .none->IsPart LQ lo->IsPart LR AC->r x lo AC H Q->
  ∃T id,typeLookup (.type T) "__getitem__"=pure (some (.builtin id))/\s.TypeIs v T/\An (BA X.prog X.w) X.A (QS v (.ref CJ)) (G1 X pins σ Q) X.xe s
def RA.or{r BM:V->Option Int->Option Int->A8->C_->Prop}(h:RA X r)(h':RA X BM):RA X (λx lo AC H Q=>r x lo AC H Q\/BM x lo AC H Q):=by
 intro pins s σ H x v LQ LR lo AC CJ Q I BF hs pl pu q;rcases q with q|q
 .exact h pins s σ H x v LQ LR lo AC CJ Q I BF hs pl pu q
 .exact h' pins s σ H x v LQ LR lo AC CJ Q I BF hs pl pu q
def r5(r:V->Option Int->Option Int->A8->C_->Prop)(DQ:TE)(Fe bA:BV):TE:=λσ H Q=>DQ σ H λx H1=>Fe σ H1 λl Aw=>bA σ Aw λu Cx=>r x l u Cx Q
def acK{r:V->Option Int->Option Int->A8->C_->Prop}(A6:RA X r)(he:Ao X e DQ)(AF:Ut X lo Fe)(BX:Ut X AC bA):Ao X (.Subscript e (.Slice lo AC none Cd) pos) (r5 r DQ Fe bA):=by intro pins s σ H Q I h;refine Subscript_ (Ba (he pins s σ H _ I h) λv s1⟨x,H1,Ak,AE,Aa⟩=>?_);refine wpAny_Slice (Ba (AF pins s1 σ H1 _ Ak Aa) λLQ s2⟨l,Aw,Bq,pl,B0⟩=>Ba (BX pins s2 σ Aw _ Bq B0) λLR s3⟨u,Cx,Dg,pu,E1⟩=>?_);rw[evalPart_none];refine CK ?_;have LL:Inv X pins σ Cx { s3 with heap:=s3.heap.push { cls:=.type "slice",data:=.fields #[LQ,LR,.none] } }:=Dg.kept (t':=s3.toks) λb Aj q=>Cv _ q;obtain⟨T,id,F4,BB,AW⟩:=A6 pins { s3 with heap:=s3.heap.push { cls:=.type "slice",data:=.fields #[LQ,LR,.none] } } σ Cx x v LQ LR l u s3.heap.objs.size Q LL AE (Heap.IsSliceOf.new ..) pl pu E1;show An (BA X.prog X.w) X.A (subscriptTail e (.Slice lo AC none Cd) v (.ref s3.heap.objs.size)) (G1 X pins σ Q) X.xe { s3 with heap:=s3.heap.push { cls:=.type "slice",data:=.fields #[LQ,LR,.none] } };exact tail_any (ops:=[.ref s3.heap.objs.size,v]) BB F4 AW (by with_unfolding_all rfl)
def S_(xs:List V)(lo AC:Option Int):List V:=(xs.drop (Dx.Ez xs.length 0 lo)).take (Dx.Ez xs.length xs.length AC-Dx.Ez xs.length 0 lo)
def uk(xs:List V)(lo AC:Option Int):(S_ xs lo AC).length<=xs.length:=by unfold S_;rw[NH,Rl];omega
noncomputable def pv(K:AZ):EI:=λx y H Q=>∃a b xs ys,x=.ref a/\y=.ref b/\CA K H a xs/\CA K H b ys/\xs≠[]/\xs.length+ys.length<=CF/\
 (ys=[]->Q (.ref a) H)/\(ys≠[]->∀p,H p=none->Q (.ref p) (upd H p (.tup (xs++ys))))
def Vals.fI{xs:List V}{us:List A4}(r:Vals xs us):us=[]↔xs=[]:=by
 cases r with
 |nil=>simp
 |cons _ _=>simp
def ab4:DX X (IR .Add) (pv X.K):=by intro pins s σ H x y v u Q I BF Bo h;obtain⟨a,b,xs,ys,rfl,rfl,A1,J,AA,BL,Aa,B0⟩:=h;cases BF;cases Bo;obtain⟨its,AE,Dd,_⟩:=I.tuple A1;obtain⟨Hd,B4,Cd,_⟩:=I.tuple J;refine Dx.uc Dd Cd (λz=>AA (AE.fI.mp z)) (λz=>⟨.ref a,H,I,rfl,Aa (B4.fI.mp z)⟩) (λz=>?_) (by rw[<-AE.length,<-B4.length];exact BL);refine⟨.ref s.heap.objs.size,_,I.laid (t':=s.toks) (o:=.tup (xs++ys)) (λb Aj q=>Cv _ q) (CO _) ?_,rfl,B0 (λw=>z (B4.fI.mpr w)) _ (I.BU.fresh (CO _))⟩;exact⟨by rw[HS];exact BL,_,AE.append B4,IsTup.new _ _⟩
end
def M6(n:Nat)(i:Int):Option Nat:=if 0<=i then(if i<n then some i.toNat else none)else if-(n:Int)<=i then some (i+n).toNat else none
def HJ{α:Type}(xs:List α)(i:Int):Option α:=(M6 xs.length i).bind λj=>xs[j]?
def nQ{n:Nat}{i:Int}{j:Nat}(h:M6 n i=some j):S6 i n=some j/\j<n/\-(n:Int)<=i/\i<n:=by
 unfold M6 at h;by_cases h0:0<=i
 .rw[if_pos h0]at h;by_cases h1:i<n
  .rw[if_pos h1]at h;have e:i.toNat=j:=EH h;exact⟨by rw[seqIndex_of h0 h1,e],by omega,by omega,h1⟩
  .rw[if_neg h1]at h;cases h
 .rw[if_neg h0]at h;by_cases h1: -(n:Int)<=i
  .rw[if_pos h1]at h;have e:(i+n).toNat=j:=EH h;exact⟨by rw[seqIndex_neg (by omega) h1,e],by omega,h1,by omega⟩
  .rw[if_neg h1]at h;cases h
def cJ{α:Type}{xs:List α}{i:Int}{v:α}(h:HJ xs i=some v):∃j,S6 i xs.length=some j/\xs[j]?=some v/\j<xs.length/\-(xs.length:Int)<=i/\i<xs.length:=by
 unfold HJ at h;cases e:M6 xs.length i with
 |none=>rw[e]at h;cases h
 |some j=>rw[e]at h;obtain⟨h1,h2,h3,h4⟩:=nQ e;exact⟨j,h1,h,h2,h3,h4⟩
def c8(b:AT):Prop:=∀o i,Y7 b false o i=operate [o,i] (QS o i)
noncomputable def O5(X:AY)(r:EI):Prop:=
 ∀(value slice:AT)(pins:List (A3×Obj))(s:AL)(σ :St)(H:A8)(x y:V)(v u:A4)(Q:C_),Inv X pins σ H s->RelV x v->RelV y u->r x y H Q->
  Y7 slice false v u=operate [v,u] (QS v u)->An (BA X.prog X.w) X.A (subscriptTail value slice v u) (G1 X pins σ Q) X.xe s
noncomputable def Yb(X:AY)(id:String)(r:V->List V->A8->C_->Prop):Prop:=
 ∀(pins:List (A3×Obj))(s:AL)(σ :St)(H:A8)(x:V)(xs:List V)(v:A4)(us:List A4)(Q:C_),Inv X pins σ H s->RelV x v->Vals xs us->r x xs H Q->
  An (BA X.prog X.w) X.A (call (.builtin id) (v::us)) (G1 X pins σ Q) X.xe s
section
variable{X:AY}{a b:AT}{Bu tb:TE}{pos:Pos}
def O5.or{r BM:EI}(h:O5 X r)(h':O5 X BM):O5 X (λx y H Q=>r x y H Q\/BM x y H Q):=by
 intro value slice pins s σ H x y v u Q I BF Bo q hs;rcases q with q|q
 .exact h value slice pins s σ H x y v u Q I BF Bo q hs
 .exact h' value slice pins s σ H x y v u Q I BF Bo q hs
def ad4{r:EI}(A6:O5 X r)(A1:Ao X a Bu)(J:Ao X b tb)(hs:c8 b):Ao X (.Subscript a b pos) (U0 r Bu tb):=by intro pins s σ H Q I h;exact Subscript_ (d7 A1 J I h λv u s2 x y Aw Bq BF Bo q=>A6 a b pins s2 σ Aw x y v u Q Bq BF Bo q (hs _ _))
def q1(K:AZ):EI:=λx y H Q=>∃p xs i v,x=.ref p/\y=.int i/\Bp K H p xs/\HJ xs i=some v/\Q v H
def q3(K:AZ):EI:=λx y H Q=>∃p xs i v,x=.ref p/\y=.int i/\CA K H p xs/\HJ xs i=some v/\Q v H
def q2:EI:=λx y H Q=>∃z i c,x=.str z/\y=.int i/\z.length<=CF/\HJ z.cps.toList i=some c/\Q (.str ⟨#[c]⟩) H
def zh:O5 X (q1 X.K):=by
 intro value slice pins s σ H x y v u Q I BF Bo h hs;obtain⟨p,xs,i,z,rfl,rfl,Ab,he,q⟩:=h;cases BF;obtain⟨t,rfl⟩:=Bo;obtain⟨its,r,pl,BL⟩:=I.list Ab;obtain⟨j,h1,h2,h3,h4,h5⟩:=cJ he;obtain⟨w,IZ,R5⟩:=r.get h2;have AF:=r.length;have AU:=Tf;have fin:G1 X pins σ Q w s:=⟨z,H,I,R5,q⟩;by_cases h0:0<=i
 .have Bx:i.toNat=j:=by
    rw[seqIndex_of h0 h5]at h1;exact EH h1
  exact item_listR pl.isList h0 (by omega) (by rw[Bx];simpa using IZ) fin hs
 .have Bx:(i+(its.toArray.size:Int)).toNat=j:=by
    rw[seqIndex_neg (by omega) h4]at h1;rw[DO,<-AF];exact EH h1
  exact subscriptTail_builtinR (x:=w) pl.isList.typeIs slot_list_getitem.lookup
   (wpAny_getItem_list_neg (Q:=λr s'=>r=w/\G1 X pins σ Q r s') pl.isList (by omega) (by rw[DO]<;>omega) (by omega) (by rw[Bx];simpa using IZ) ⟨rfl,fin⟩) hs
def zl:O5 X (q3 X.K):=by
 intro value slice pins s σ H x y v u Q I BF Bo h hs;obtain⟨p,xs,i,z,rfl,rfl,Ab,he,q⟩:=h;cases BF;obtain⟨t,rfl⟩:=Bo;obtain⟨its,r,pl,BL⟩:=I.tuple Ab;obtain⟨j,h1,h2,h3,h4,h5⟩:=cJ he;obtain⟨w,IZ,R5⟩:=r.get h2;have AF:=r.length;have AU:=Tf;have fin:G1 X pins σ Q w s:=⟨z,H,I,R5,q⟩
 exact subscriptTail_builtinR (x:=w) pl.typeIs slot_tuple_getitem.lookup
  (getItem_tuple (j:=j) (Q:=λr s'=>r=w/\G1 X pins σ Q r s') pl (by omega) (by omega) (by rw[DO,<-AF];exact h1) (by simpa using IZ) ⟨rfl,fin⟩) hs
def zk:O5 X q2:=by
 intro value slice pins s σ H x y v u Q I BF Bo h hs;obtain⟨z,i,c,rfl,rfl,BL,he,q⟩:=h;obtain⟨t,rfl⟩:=BF;obtain⟨t',rfl⟩:=Bo;obtain⟨j,h1,h2,h3,h4,h5⟩:=cJ he;have AF:z.cps.toList.length=z.length:=by simp[Fm]
 rw[AF]at h1 h4 h5;have AU:=Tf;exact tail_any (typeIs_str s z t) slot_str_getitem.lookup (getItem_str (c:=c) (by have AD:decide (i< -(2^63:Int))=false:=decide_eq_false (by omega);have AR:decide (i≥2^63)=false:=decide_eq_false (by omega);rw[AD,AR,Bool.or_false]) (by rw[h1];simpa using h2) ⟨.str ⟨#[c]⟩,H,I.tok _,⟨_,rfl⟩,q⟩) hs
def q0(K:AZ):EI:=λx y H Q=>q1 K x y H Q\/q3 K x y H Q\/q2 x y H Q
def zj:O5 X (q0 X.K):=zh.or (zl.or zk)
def aaP(its:List A4)(n j:Nat)(u:A4):UU (·.setIfInBounds j u) { cls:=.type "list",data:=.seq its.toArray n }={ cls:=.type "list",data:=.seq (its.set j u).toArray n }:=by simp[UU]
theorem Inv.lst{pins:List (A3×Obj)}{σ :St}{H:A8}{s:AL}{p:A3}{xs:List V}(I:Inv X pins σ H s)(h:H p=some (.lst xs)) :
  ∃(its:List A4)(n:Nat),Vals xs its/\s.heap.get? p=some { cls:=.type "list",data:=.seq its.toArray n }/\xs.length<=CF:=by
 obtain⟨z,its,n,r,e⟩:=I.BU p _ h;exact⟨its,n,r,e,z⟩
def Inv.aaH{pins:List (A3×Obj)}{σ :St}{H:A8}{s:AL}{p:A3}{xs ys:List V}{its its':List A4}{n W8:Nat}{f:Obj->Obj}(I:Inv X pins σ H s)(h:H p=some (.lst xs))(AN:s.heap.get? p=some { cls:=.type "list",data:=.seq its.toArray n })(hf:f { cls:=.type "list",data:=.seq its.toArray n }={ cls:=.type "list",data:=.seq its'.toArray W8 })(r:Vals ys its')(BL:ys.length<=CF)(t:Nat) :
  Inv X pins σ (upd H p (.lst ys)) { s with heap:=s.heap.update p f,toks:=t }:=by
 have e:(s.heap.update p f).get? p=some { cls:=.type "list",data:=.seq its'.toArray W8 }:=by rw[XN f AN (by rw[hf]<;>rfl),hf]
 refine I.write (x:=p) (e:=p) (by rw[h];trivial) (.inl rfl) (λb u J q=>(QD _ _ (Ld J)).trans q) ⟨_,e⟩ ?_;exact⟨BL,its',W8,r,e⟩
def adI:V->V->V->A8->(A8->Prop)->Prop:=λo i v H Q=>∃p xs k j,o=.ref p/\i=.int k/\H p=some (.lst xs)/\M6 xs.length k=some j/\Q (upd H p (.lst (xs.set j v)))
def set_list:ji X adI:=by
 intro pins s σ H o i v Dk GZ u Q I Ij adY Bj h;obtain⟨p,xs,k,j,rfl,rfl,Am,Bx,q⟩:=h;cases Ij;obtain⟨t,rfl⟩:=adY;obtain⟨its,n,r,AN,BL⟩:=I.lst Am;obtain⟨h1,h2,h3,h4⟩:=nQ Bx;have AF:=r.length;have AU:=Tf;have KC:Inv X pins σ (upd H p (.lst (xs.set j v))) { s with heap:=s.heap.update p (UU (·.setIfInBounds j u)) }:=
  I.aaH Am AN (aaP its n j u) (r.set Bj j) (by rw[List.length_set];exact BL) s.toks
 by_cases h0:0<=k
 .have AQ:k.toNat=j:=by
    rw[seqIndex_of h0 h4]at h1;exact EH h1
  exact PySem.W.ki_setAt AN h0 (by omega) (by rw[DO,<-AF];exact h4) (by rw[AQ];exact⟨_,KC,q⟩)
 .have AQ:(k+(its.toArray.size:Int)).toNat=j:=by
    rw[seqIndex_neg (by omega) h3]at h1;rw[DO,<-AF];exact EH h1
  exact PySem.W.ki_setBack AN (by omega) (by rw[DO,<-AF];exact h3) (by omega) (by rw[AQ];exact⟨_,KC,q⟩)
def afv(lo AC:Option Int)(n:Nat):(QM lo AC none n).1=((Dx.Ez n 0 lo:Nat):Int)/\(QM lo AC none n).2.1=((Dx.Ez n n AC:Nat):Int)/\(QM lo AC none n).2.2=1:=by
 refine⟨?_,?_,rfl⟩
 .cases lo with
  |none=>simp[QM,Dx.Ez]
  |some i=>
   simp only[QM,Dx.Ez,j0,show(1:Int)>0 by decide,if_true];by_cases h:i<0
   .simp only[h,if_true]<;>omega
   .simp only[h,if_false]<;>omega
 .cases AC with
  |none=>simp[QM,Dx.Ez]
  |some i=>
   simp only[QM,Dx.Ez,j0,show(1:Int)>0 by decide,if_true];by_cases h:i<0
   .simp only[h,if_true]<;>omega
   .simp only[h,if_false]<;>omega
def afu(its:List A4)(lo AC:Option Int):slicePick its.toArray lo AC none=((its.drop (Dx.Ez its.length 0 lo)).take (Dx.Ez its.length its.length AC-Dx.Ez its.length 0 lo)).toArray:=by obtain⟨h1,h2,h3⟩:=afv lo AC its.toArray.size;unfold slicePick;rw[h1,h2,h3];simp only[sliceRange_one,pick_run,DO]<;>rfl
def pS(K:AZ):V->Option Int->Option Int->A8->C_->Prop:=λx lo AC H Q=>∃a xs,x=.ref a/\Bp K H a xs/\∀p,H p=none->Q (.ref p) (upd H p (.lst (S_ xs lo AC)))
def afs:RA X (pS X.K):=by intro pins s σ H x v LQ LR lo AC CJ Q I BF hs pl pu h;obtain⟨a,xs,rfl,AA,q⟩:=h;cases BF;obtain⟨its,r,BB,BL⟩:=I.list AA;have hlen:=r.length;refine⟨"list",_,slot_list_getitem.lookup,BB.isList.typeIs,?_⟩;refine wpAny_getItem_list_slice BB.isList hs pl pu .none (by simp) ?_ (by rw[DO]<;>omega);rw[afu,<-hlen];refine⟨.ref s.heap.objs.size,_,I.laid (t':=s.toks) (o:=.lst (S_ xs lo AC)) (λb Aj q=>Cv _ q) (CO _) ?_,rfl,q _ (I.BU.fresh (CO _))⟩;exact⟨EB (uk xs lo AC) BL,_,0,(r.drop (Dx.Ez xs.length 0 lo)).take (Dx.Ez xs.length xs.length AC-Dx.Ez xs.length 0 lo),FV _ rfl⟩
def Gu.or{f:A4}{r BM:List V->A8->C_->Prop}(h:Gu X f r)(h':Gu X f BM):Gu X f (λxs H Q=>r xs H Q\/BM xs H Q):=by
 intro pins s σ H xs us Q I rs q;rcases q with q|q
 .exact h pins s σ H xs us Q I rs q
 .exact h' pins s σ H xs us Q I rs q
def uU:Gu X (.type "list") (λxs H Q=>∃p ys,xs=[.ref p]/\(Bp X.K H p ys\/CA X.K H p ys)/\∀l,H l=none->Q (.ref l) (upd H l (.lst ys))):=by
 intro pins s σ H xs us Q I r h;obtain⟨p,ys,rfl,Ab,q⟩:=h;obtain⟨u,rfl,BF⟩:=vals1 r;cases BF
 have fin:∀(its:List A4),Vals ys its->ys.length<=CF->∀(h':B1)(EQ:Nat),(∀b BS,s.heap.get? b=some BS->h'.get? b=some BS)->
   h'.get? s.heap.objs.size=some { cls:=.type "list",dict:=none,data:=.seq its.toArray EQ,slots:= #[] }->G1 X pins σ Q (.ref s.heap.objs.size) { s with heap:=h' }:=λits BM BL h' EQ AV e=>
  ⟨.ref s.heap.objs.size,_,I.laid (t':=s.toks) AV (CO _) (show FC X.prog X.w _ h' _ (.lst ys)from⟨BL,its,EQ,BM,e⟩),rfl,q _ (I.BU.fresh (CO _))⟩
 rcases Ab with Ab|Ab
 .obtain⟨its,BM,pl,BL⟩:=I.list Ab;have hlen:=BM.length;obtain⟨o,AN,AG,n,hd⟩:=pl.isList;exact call_list_seq p (.inl rfl) AN AG hd (λh' EQ AV e=>fin its BM BL h' EQ AV e) (by simp only[DO]<;>omega)
 .obtain⟨its,BM,pl,BL⟩:=I.tuple Ab;have hlen:=BM.length;obtain⟨o,AN,AG,n,hd⟩:=pl;exact call_list_seq p (.inr rfl) AN AG hd (λh' EQ AV e=>fin its BM BL h' EQ AV e) (by simp only[DO]<;>omega)
def uZ:Gu X (.type "tuple") (λxs H Q=>∃p ys,xs=[.ref p]/\((Bp X.K H p ys/\∀l,H l=none->Q (.ref l) (upd H l (.tup ys)))\/(CA X.K H p ys/\Q (.ref p) H))):=by
 intro pins s σ H xs us Q I r h;obtain⟨p,ys,rfl,h⟩:=h;obtain⟨u,rfl,BF⟩:=vals1 r;cases BF;rcases h with⟨Ab,q⟩|⟨Ab,q⟩
 .obtain⟨its,BM,pl,BL⟩:=I.list Ab;have hlen:=BM.length;refine call_tuple_list pl.isList (λh' AV=>?_) (by simp only[DO]<;>omega);have Ak:Inv X pins σ H { s with heap:=h' }:=I.kept (t':=s.toks) AV;have Bq:Inv X pins σ (upd H h'.objs.size (.tup ys)) { s with heap:=h'.push { cls:=.type "tuple",data:=.seq its.toArray } }:=
   Ak.laid (t':=s.toks) (λb o e=>Cv _ e) (CO _) (show FC X.prog X.w _ _ _ (.tup ys)from⟨BL,its,BM,IsTup.new _ _⟩)
  exact⟨.ref h'.objs.size,_,Bq,rfl,q _ (Ak.BU.fresh (CO _))⟩
 .obtain⟨its,BM,pl,BL⟩:=I.tuple Ab;exact call_tuple_same pl ⟨.ref p,H,I,rfl,q⟩
noncomputable def sI(K:AZ)(T:String)(x:V)(H:A8):Prop:=match x with
 |.str _=>T="str"
 |.int _=>T="int"
 |.ref p=>(T="list"/\∃xs,Bp K H p xs)\/(T="tuple"/\∃o,K.lookup p=some o/\o.cls=.type "tuple"/\o.dict=none)\/
     (T="dict"/\((∃B3,H p=some (.Di B3))\/∃B3,H p=some (.B5 B3)))\/(T="set"/\∃S n,H p=some (.set S n))
 |_=>False
def agH{pins:List (A3×Obj)}{σ :St}{H:A8}{s:AL}{T:String}{x:V}{v:A4}(I:Inv X pins σ H s)(r:RelV x v)(ty:sI X.K T x H) :
  s.TypeIs v T/\∀a,v=.ref a->∃Aj,s.heap.get? a=some Aj/\Aj.dict=none:=by
 cases x with
 |str z=>obtain⟨t,rfl⟩:=r;cases(show T="str" from ty);exact⟨typeIs_str s z t,λ_ e=>nomatch e⟩
 |int i=>obtain⟨t,rfl⟩:=r;cases(show T="int" from ty);exact⟨typeIs_int s i t,λ_ e=>nomatch e⟩
 |ref p=>
  cases r;rcases ty with⟨rfl,xs,Ab⟩|⟨rfl,o,AQ,AG,hd⟩|⟨rfl,AQ⟩|⟨rfl,S,n,AQ⟩
  .obtain⟨its,_,pl,_⟩:=I.list Ab;refine⟨pl.isList.typeIs,λa e=>?_⟩;cases e;obtain⟨o,n,e,c,hd,_⟩:=pl;exact⟨o,e,hd⟩
  .refine⟨⟨o,I.FI p o AQ,AG⟩,λa e=>?_⟩;cases e;exact⟨o,I.FI _ o AQ,hd⟩
  .have z:∃o,s.heap.get? p=some o/\o.ExactDict:=by
     rcases AQ with⟨B3,AQ⟩|⟨B3,AQ⟩
     .obtain⟨_,_,_,_,o,_,_,e,ex,_⟩:=I.BU p _ AQ;exact⟨o,e,ex⟩
     .obtain⟨_,_,_,_,o,_,_,e,ex,_⟩:=I.BU p _ AQ;exact⟨o,e,ex⟩
   obtain⟨o,e,ex⟩:=z;refine⟨⟨o,e,ex.1⟩,λa AR=>?_⟩;cases AR;exact⟨o,e,ex.2.1⟩
  .obtain⟨o,_,_,_,e,ex,_⟩:=I.BU p _ AQ;refine⟨⟨o,e,ex.1⟩,λa AR=>?_⟩;cases AR;exact⟨o,e,ex.2.1⟩
 |_=>exact Jx ty
def afU(K:AZ)(T:String)(r:V->List V->A8->C_->Prop)(to:TE)(t:EX):TE:=λσ H Q=>to σ H λx H1=>sI K T x H1/\t σ H1 λxs Aw=>r x xs Aw Q
variable{o e:AT}{es:List AT}{to:TE}{t:EX}{name:Str}{apos cpos:Pos}{T id:String}{r:V->List V->A8->C_->Prop}
def Pd (acq:PlainAttrs T) (slot:Slot T name id) (xc:typeOf (.builtin id)=pure (.type "method_descriptor")) (hm:Yb X id r) (AN:Ao X o to) (A1:F1 X (e::es) t)(ID:JL o name X.env (BE o X.env)=BE o X.env:=by rfl)(IE:((Cj cpos (Ap (e::es) X.env)).all (λx=>!x.1)&&(Hw cpos (Ht [] X.env)).all (λx=>x.1.isSome)
    &&decide ((e::es).length+([]:List GA).length+(if([]:List GA).isEmpty then 0 else 1)<30))=true:=by rfl)
  (IF:(apos.endLine==cpos.line)=true:=by rfl) (hs:Ap (e::es) X.env=(false,BE e X.env)::Ap es X.env:=by rfl) (IG:(Cj cpos (Ap es X.env)).any (·.1)=false:=by rfl) :
  Ao X (.Call (.Attribute o name apos) (e::es) [] cpos) (afU X.K T r to t):=by
 intro pins s σ H Q I h;refine wpAny_Call_method_late ID IE IF rfl (Ba (AN pins s σ H _ I h) λv s1⟨x,H1,Ak,AE,ty,Aa⟩=>?_);obtain⟨h1,h2⟩:=agH Ak AE ty;refine⟨T,id,acq,slot,xc,h1,h2,?_⟩;have H4:=A1 cpos pins s1 σ H1 _ Ak Aa;rw[hs]at H4 |-;refine sr (by show(false||(Cj cpos (Ap es X.env)).any (·.1))=false;rw[IG]<;>rfl) (ie ?_);exact Ba H4 λus s2⟨vs,Aw,Bq,B4,B0⟩=>hm pins s2 σ Aw x vs v us Q Bq AE B4 B0
end
noncomputable def Ya(X:AY)(id:String)(r:V->List V->A8->C_->Prop):Prop:=
 ∀(pins:List (A3×Obj))(s:AL)(σ :St)(H:A8)(x:V)(xs:List V)(v:A4)(us:List A4)(Q:C_),Inv X pins σ H s->RelV x v->Vals xs us->r x xs H Q->
  An (BA X.prog X.w) X.A (call (.builtin id) (v::us)) (G1 X pins σ Q) X.xe s
def Vals.one:∀{x:V}{us:List A4},Vals [x] us->∃u,us=[u]/\RelV x u
 |_,_,.cons r .nil=>⟨_,rfl,r⟩
theorem Vals.eraseIdx:∀{xs:List V}{us:List A4}(i:Nat),Vals xs us->Vals (xs.eraseIdx i) (us.eraseIdx i)
 |_,_,_,.nil=>.nil
 |_,_,0,.cons _ t=>t
 |_,_,i+1,.cons r t=>.cons r (Vals.eraseIdx i t)
theorem Vals.rep{xs:List V}{us:List A4}(h:Vals xs us):∀k:Nat,Vals (FU k xs).flatten (FU k us).flatten
 |0=>.nil
 |k+1=>by rw[Oi,Oi,Og,Og];exact Vals.append h (Vals.rep h k)
theorem o_{α:Type}:∀(l:List α)(i:Nat),(l.eraseIdx i).length<=l.length
 |[],_=>CO _
 |_::_,0=>Y6 _
 |_::r,i+1=>Nat.succ_le_succ (o_ r i)
theorem foldl_rep(its:List A4):∀(k:Nat)(acc:List A4),
  List.foldl (λF7 Hy=>F7++Hy) acc.toArray (FU k its.toArray)=(acc++(FU k its).flatten).toArray
 |0,acc=>by simp
 |k+1,acc=>by
  have e:acc.toArray++its.toArray=(acc++its).toArray:=by simp
  have AR:(acc++its)++(FU k its).flatten=acc++(FU (k+1) its).flatten:=by rw[Oi,Og,Xc]
  rw[<-AR,<-foldl_rep its k (acc++its),<-e,Oi,Y0]
section
variable{X:AY}{pins:List (A3×Obj)}{σ :St}{H:A8}{s:AL}{l b:A3}{xs ys zs:List V}
def Inv.aV{its its':List A4}{n:Nat}{f:Array A4->Array A4}{t':Nat}(I:Inv X pins σ H s)(HP:H l=some (.lst xs))(e:s.heap.get? l=some { cls:=.type "list",data:=.seq its.toArray n })(hf:f its.toArray=its'.toArray)(Be:Vals ys its')(BL:ys.length<=CF) :
  Inv X pins σ (upd H l (.lst ys)) { s with heap:=s.heap.update l (UU f),toks:=t' }:=by
 have q:=PySem.IsL.update e f;rw[hf]at q;refine I.write (x:=l) (e:=l) (by rw[HP];exact trivial) (.inl rfl) (λFN u J BX=>(QD s.heap (UU f) (Ld J)).trans BX) ⟨_,q⟩ ?_;exact⟨BL,its',_,Be,q⟩
def Inv.WW{its:List A4}{t':Nat}(I:Inv X pins σ H s)(Be:Vals ys its)(BL:ys.length<=CF) :
  Inv X pins σ (upd H s.heap.objs.size (.lst ys)) { s with heap:=s.heap.push { cls:=.type "list",data:=.seq its.toArray },toks:=t' }:=
 I.laid (λ_ _ q=>Cv _ q) (CO _) ⟨BL,its,0,Be,FV _ rfl⟩
theorem Inv.fresh(I:Inv X pins σ H s):H s.heap.objs.size=none:=I.BU.fresh (CO _)
def Inv.Q2(I:Inv X pins σ H s)(HP:H l=some (.lst xs)):xs.length<=CF/\∃(its:List A4)(n:Nat),Vals xs its/\xs.length=its.length/\s.heap.get? l=some { cls:=.type "list",data:=.seq its.toArray n }:=by obtain⟨z,its,n,r,e⟩:=I.BU l _ HP;exact⟨z,its,n,r,r.length,e⟩
def oV{n:Nat}(h:n<=CF):XR n=false:=by unfold XR;exact decide_eq_false (by omega)
end
section
variable{X:AY}
def ae2:V->List V->A8->C_->Prop:=λx vs H Q=>∃l xs y,x=.ref l/\vs=[y]/\H l=some (.lst xs)/\xs.length<CF/\Q .non (upd H l (.lst (xs++[y])))
theorem fD:Ya X "list.append" ae2:=by intro pins s σ H x vs v us Q I BF Bj h;obtain⟨l,xs,y,rfl,rfl,HP,BL,q⟩:=h;cases BF;obtain⟨u,rfl,Ds⟩:=Bj.one;obtain⟨z,its,n,r,AF,e⟩:=I.Q2 HP;refine MR F.slot_list_append ⟨_,e,rfl⟩ F.entry_list_append (F.args_list_append_2 _ _) (PySem.list_append l its.toArray n u (by rw[DO];omega)) ⟨e,?_⟩;refine⟨.non,_,I.aV (its':=its++[u]) HP e (by simp) (r.append (.cons Ds .nil)) ?_,rfl,q⟩;rw[HS,XO];omega
def ae3:V->List V->A8->C_->Prop:=λx vs H Q=>∃l b xs zs,x=.ref l/\vs=[.ref b]/\H l=some (.lst xs)/\H b=some (.lst zs)/\xs.length+zs.length<=CF/\Q .non (upd H l (.lst (xs++zs)))
theorem aaV:Ya X "list.extend" ae3:=by
 intro pins s σ H x vs v us Q I BF Bj h;obtain⟨l,b,xs,zs,rfl,rfl,HP,L5,BL,q⟩:=h;cases BF;obtain⟨u,rfl,Ds⟩:=Bj.one;cases Ds;obtain⟨z,its,n,r,AF,e⟩:=I.Q2 HP;obtain⟨Co,Hd,Ch,B4,L8,AR⟩:=I.Q2 L5;have hsz:its.toArray.size+Hd.toArray.size<=CF:=by rw[DO,DO];omega
 have eF:¬(!its.toArray.isEmpty&&XR (its.toArray.size+Hd.toArray.size))=true:=by rw[oV hsz,jN];exact IN
 refine MR F.slot_list_extend ⟨_,e,rfl⟩ F.entry_list_extend (F.args_list_extend_2 _ _)
  (AutoSeq1.list_extend_list_list_0 l its.toArray n b Hd.toArray Ch eF (by rw[DO];omega) (by omega)) ⟨e,AR,?_⟩
 refine⟨.non,_,I.aV (its':=its++Hd) HP e (by simp) (r.append B4) ?_,rfl,q⟩;rw[HS];omega
def ae8:V->List V->A8->C_->Prop:=λx vs H Q=>∃l xs i k y,x=.ref l/\vs=[.int i]/\H l=some (.lst xs)/\-(2^63)<=i/\i<2^63/\S6 i xs.length=some k/\xs[k]?=some y/\Q y (upd H l (.lst (xs.eraseIdx k)))
theorem aaZ:Ya X "list.pop" ae8:=by
 intro pins s σ H x vs v us Q I BF Bj h;obtain⟨l,xs,i,k,y,rfl,rfl,HP,h1,h2,AQ,BO,q⟩:=h;cases BF;obtain⟨u,rfl,Ds⟩:=Bj.one;obtain⟨t,rfl⟩:=Ds;obtain⟨z,its,n,r,AF,e⟩:=I.Q2 HP;obtain⟨w,hw,R5⟩:=r.get BO
 refine MR F.slot_list_pop ⟨_,e,rfl⟩ F.entry_list_pop (F.args_list_pop_2 _ _)
  (MeetsSeq.list_pop_at l its.toArray n i t k w (jO h1 h2) (by rw[DO,<-AF];exact AQ) (by rw[<-io];exact hw) (by rw[DO];omega)) ⟨e,?_⟩
 refine⟨y,_,I.aV (its':=its.eraseIdx k) HP e ?_ (r.eraseIdx k) ?_,R5,q⟩
 .show its.toArray.eraseIdxIfInBounds k=(its.eraseIdx k).toArray;rw[List.eraseIdxIfInBounds_toArray]
 .have:=o_ xs k;omega
def ps:EI:=λx y H Q=>∃l b xs zs,x=.ref l/\y=.ref b/\H l=some (.lst xs)/\H b=some (.lst zs)/\xs.length+zs.length<=CF/\∀p,H p=none->Q (.ref p) (upd H p (.lst (xs++zs)))
def Zc:DX X (IR .Add) ps:=by
 intro pins s σ H x y v u Q I BF Bo h;obtain⟨l,b,xs,zs,rfl,rfl,HP,L5,BL,q⟩:=h;cases BF;cases Bo;obtain⟨z,its,n,r,AF,e⟩:=I.Q2 HP;obtain⟨Co,Hd,Ch,B4,L8,AR⟩:=I.Q2 L5;refine PySem.P.add_list e AR ?_ (by rw[DO,DO];omega);have Ai:its.toArray++Hd.toArray=(its++Hd).toArray:=by simp
 rw[Ai];exact⟨.ref _,_,I.WW (t':=s.toks) (r.append B4) (by rw[HS];omega),rfl,q _ I.fresh⟩
def pR:EI:=λx y H Q=>∃l k xs,x=.ref l/\y=.int k/\H l=some (.lst xs)/\-(2^63)<=k/\k<2^63/\xs.length*k.toNat<=CF/\
 ∀p,H p=none->Q (.ref p) (upd H p (.lst (FU k.toNat xs).flatten))
def len_rep{α:Type}(xs:List α)(k:Nat):(FU k xs).flatten.length=k*xs.length:=by
 induction k with
 |zero=>simp
 |succ k Br=>rw[Oi,Og,HS,Br,jU,Nat.add_comm]
theorem acg:DX X (IR .Mult) pR:=by
 intro pins s σ H x y v u Q I BF Bo h;obtain⟨l,k,xs,rfl,rfl,HP,h1,h2,BL,q⟩:=h;cases BF;obtain⟨t,rfl⟩:=Bo;obtain⟨z,its,n,r,AF,e⟩:=I.Q2 HP;have hlen:its.toArray.size*k.toNat<=CF:=by rw[DO,<-AF];exact BL
 have wc:¬its.toArray.size*k.toNat>(2^63-1)/8:=by
  have:(CF:Nat)<=(2^63-1)/8:=by decide
  omega
 have wm:¬(!Builtin.List.listFitsIndex k)=true:=by rw[jO h1 h2];exact IN
 have eF:¬XR (its.toArray.size*k.toNat)=true:=by rw[oV hlen];exact IN
 have xy:List.foldl (λF7 Hy=>F7++Hy) #[] (FU (if its.toArray.isEmpty=true then 0 else k.toNat) its.toArray)=(FU k.toNat its).flatten.toArray:=by
  have f0:∀m:Nat,List.foldl (λF7 Hy=>F7++Hy) #[] (FU m its.toArray)=(FU m its).flatten.toArray:=λm=>by have:=foldl_rep its m [];rw[jW]at this;exact this
  rw[f0];cases its with
  |nil=>simp
  |cons a BM=>rw[if_neg (by simp)]
 refine wpAny_binaryOp_repeat_ref (T:="list") (U:="int") (by decide) ⟨_,e,rfl⟩ (λs'=>typeIs_int s' k t) noFill_list_mul F.fills_int_mul F.slot_int_rmul repeat_list F.slot_int_index.lookup
  (MR F.slot_int_rmul (typeIs_int s k t) F.entry_int_rmul (F.args_int_rmul_2 _ _) (int___rmul___int_list k t l its.toArray n)
    ⟨e,rfl,⟨_,e,rfl⟩,MR F.slot_list_mul ⟨_,e,rfl⟩ F.entry_list_mul (F.args_list_mul_2 _ _) (AutoListH.list___mul___list_int_3 l its.toArray n k t wm wc eF) ⟨e,?_⟩⟩)
 rw[xy];exact⟨.ref _,_,I.WW (t':=s.toks) (r.rep k.toNat) (by rw[len_rep,Nat.mul_comm];exact BL),rfl,q _ I.fresh⟩
end
section
variable{prog:Bt}{w:Bg}{A:C3}{E:A4->AL->Prop}{s:AL}
end
section
variable{X:AY}
end
section
variable{DR:Type}[DecidableEq DR]
def Gb(B3:List (DR×V))(k:DR):Option V:=(B3.find? λF5=>decide (F5.1=k)).map (·.2)
def putK(B3:List (DR×V))(k:DR)(v:V):List (DR×V):=
 if(B3.any λF5=>decide (F5.1=k))=true then B3.map (λF5=>if F5.1=k then(F5.1,v)else F5)else B3++[(k,v)]
def iV{p:DR×V}{r:List (DR×V)}{k:DR}(e:p.1=k):Gb (p::r) k=some p.2:=by simp[Gb,MN,e]
def iU{p:DR×V}{r:List (DR×V)}{k:DR}(e:¬p.1=k):Gb (p::r) k=Gb r k:=by simp[Gb,MN,e]
theorem iT(k:DR):∀B3:List (DR×V),(B3.any λF5=>decide (F5.1=k))=(Gb B3 k).isSome
 |[]=>rfl
 |p::r=>by
  rw[QG];by_cases e:p.1=k
  .simp only[iV e,decide_eq_true e,Bool.true_or,tG]
  .rw[iU e,decide_eq_false e,jR];exact iT k r
def oc(B3:List (DR×V))(k:DR)(v:V):(putK B3 k v).length<=B3.length+1:=by
 unfold putK
 split
 .rw[Gp];omega
 .rw[HS,Eo,MO];omega
def adq{B3:List (DR×V)}{k:DR}(v:V)(h:Gb B3 k=none):putK B3 k v=B3++[(k,v)]:=by unfold putK;rw[iT,h];exact if_neg (by decide)
def IT.V4{o:Option V}{u:Option A4}(r:IT o u):o.isSome=u.isSome:=by
 cases o with
 |none=>cases u with
  |none=>rfl
  |some _=>exact(show False from r).elim
 |some _=>cases u with
  |none=>exact(show False from r).elim
  |some _=>rfl
theorem IT.getD{o:Option V}{u:Option A4}{d:V}{d':A4}(r:IT o u)(adN:RelV d d'):RelV (o.getD d) (u.getD d'):=by
 cases o with
 |none=>cases u with
  |none=>exact adN
  |some _=>exact(show False from r).elim
 |some _=>cases u with
  |none=>exact(show False from r).elim
  |some _=>exact r
def Ge.val{B3:List (DR×V)}{vs:List (DR×A4)}(r:Ge B3 vs)(k:DR):IT (Gb B3 k) (valueAt vs k):=by
 unfold Ge at r;induction r with
 |nil=>exact MQ
 | @cons p q AK KY h t Br=>
   obtain⟨h1,h2⟩:=h;by_cases e:p.1=k
   .have Bw:q.1=k:=h1.symm.trans e;have b:valueAt (q::KY) k=some q.2:=by simp[valueAt,MN,Bw]
    rw[iV e,b];exact h2
   .have Bw:¬q.1=k:=λz=>e (h1.trans z);have b:valueAt (q::KY) k=valueAt KY k:=by simp[valueAt,MN,Bw]
    rw[iU e,b];exact Br
theorem Ge.any{B3:List (DR×V)}{vs:List (DR×A4)}(r:Ge B3 vs)(k:DR):(B3.any λF5=>decide (F5.1=k))=vs.any λF5=>decide (F5.1=k):=by
 unfold Ge at r;induction r with
 |nil=>rfl
 |cons h t Br=>rw[QG,QG,Br,h.1]
def Ge.gd{B3:List (DR×V)}{vs:List (DR×A4)}(r:Ge B3 vs)(k:DR){y:V}{u:A4}(Bo:RelV y u) :
  Ge (B3.map λF5=>if F5.1=k then(F5.1,y)else F5) (vs.map λF5=>if F5.1=k then(F5.1,u)else F5):=by
 unfold Ge at r |-;induction r with
 |nil=>exact .nil
 | @cons p q AK KY h t Br=>
   rw[EU,EU];refine .cons ?_ Br;obtain⟨h1,h2⟩:=h;by_cases e:p.1=k
   .rw[if_pos e,if_pos (h1.symm.trans e)];exact⟨h1,Bo⟩
   .rw[if_neg e,if_neg (λz=>e (h1.trans z))];exact⟨h1,h2⟩
def Ge.put{B3:List (DR×V)}{vs:List (DR×A4)}(r:Ge B3 vs)(k:DR){y:V}{u:A4}(Bo:RelV y u):Ge (putK B3 k y) (stored vs k u):=by
 unfold putK stored;rw[r.any k];by_cases e:(vs.any λF5=>decide (F5.1=k))=true
 .rw[if_pos e,if_pos e];exact r.gd k Bo
 .rw[if_neg e,if_neg e];exact Paired.snoc r ⟨rfl,Bo⟩
theorem Ge.length{B3:List (DR×V)}{vs:List (DR×A4)}(r:Ge B3 vs):B3.length=vs.length:=Paired.length r
end
def V6{P:Bt}{w:Bg}{k:Key}{u:A4}(r:RelV (Cf k) u):(IK P w).is k u=true:=by
 cases k with
 |inl i=>obtain⟨t,e⟩:=(show ∃t,u=YD i t from r);subst e;exact aaT P w i t
 |inr x=>obtain⟨t,e⟩:=(show ∃t,u=YE x t from r);subst e;exact aaU P w x t
theorem nP{P:Bt}{w:Bg}:∀{A_:List Key}{us:List A4},Vals (A_.map Cf) us->ItemsAre (IK P w) A_ us
 |[],_,r=>by rw[jc]at r;cases r;exact .nil
 |k::A_,_,r=>by
  rw[EU]at r;cases r with
  |cons h t=>exact .cons (V6 h) (nP t)
abbrev KT(H:A8):List (List Key×V)->List (List Key×A3×A4)->Prop:=Paired λp q=>p.1=q.1/\H q.2.1=some (.tup (p.1.map Cf))/\RelV p.2 q.2.2
def KT.val{H:A8}{B3:List (List Key×V)}{xs:List (List Key×A3×A4)}(r:KT H B3 xs)(k:List Key):IT (Gb B3 k) ((atKey xs k).map (·.2)):=by
 induction r with
 |nil=>exact MQ
 | @cons p q AK KY h t Br=>
   obtain⟨h1,_,h2⟩:=h;by_cases e:p.1=k
   .have Bw:q.1=k:=h1.symm.trans e;have b:atKey (q::KY) k=some q.2:=by simp[atKey,MN,Bw]
    rw[iV e,b];exact h2
   .have Bw:¬q.1=k:=λz=>e (h1.trans z);have b:atKey (q::KY) k=atKey KY k:=by simp[atKey,MN,Bw]
    rw[iU e,b];exact Br
def KT.gd{H:A8}{B3:List (List Key×V)}{xs:List (List Key×A3×A4)}(r:KT H B3 xs)(k:List Key){y:V}{u:A4}(Bo:RelV y u) :
  KT H (B3.map λF5=>if F5.1=k then(F5.1,y)else F5) (xs.map (putAt k u)):=by
 induction r with
 |nil=>exact .nil
 | @cons p q AK KY h t Br=>
   rw[EU,EU];refine .cons ?_ Br;obtain⟨h1,h2,h3⟩:=h;unfold putAt;by_cases e:p.1=k
   .rw[if_pos e,if_pos (h1.symm.trans e)];exact⟨h1,h2,Bo⟩
   .rw[if_neg e,if_neg (λz=>e (h1.trans z))];exact⟨h1,h2,h3⟩
def KT.put{H:A8}{B3:List (List Key×V)}{xs:List (List Key×A3×A4)}(r:KT H B3 xs)(k:List Key){b:A3}{y:V}{u:A4}(J:H b=some (.tup (k.map Cf)))(Bo:RelV y u) :
  KT H (putK B3 k y) (storedH xs k b u):=by
 have e:(B3.any λF5=>decide (F5.1=k))=(atKey xs k).isSome:=by rw[iT,(r.val k).V4,j7]
 unfold putK storedH;rw[e];by_cases q:(atKey xs k).isSome=true
 .rw[if_pos q,if_pos q];exact r.gd k Bo
 .rw[if_neg q,if_neg q];exact Paired.snoc r ⟨rfl,J,Bo⟩
def KT.keeps{H H':A8}{B3:List (List Key×V)}{xs:List (List Key×A3×A4)}(r:KT H B3 xs)(BB:∀b ys,H b=some (.tup ys)->H' b=some (.tup ys)):KT H' B3 xs:=
 Paired.fA r λ_ _ z=>⟨z.1,BB _ _ z.2.1,z.2.2⟩
section
variable{P:Bt}{w:Bg}{H:A8}{h:B1}{a:A3}
def pW{u:Dl}(ok:ED P w H h)(e:Gf H a u):FC P w H h a u:=e.ok ok
def Vf{B3:List (Key×V)}(ok:ED P w H h)(e:Gf H a (.Di B3)):B3.length<=CF/\(a==JN)=false/\∃vs,Ge B3 vs/\h.DictOf (IK P w) a vs:=
 show FC P w H h a (.Di B3)from pW ok e
def w5{B3:List (Key×V)}(ok:ED P w H h)(e:H a=some (.Di B3)):B3.length<=CF/\(a==JN)=false/\∃vs,Ge B3 vs/\h.DictOf (IK P w) a vs:=Vf ok (.inl e)
def Tb{A_:List Key}(ok:ED P w H h)(e:H a=some (.tup (A_.map Cf))):(S5 (IK P w)).is h A_ a:=by obtain⟨_,its,r,o,h1,h2,n,h3⟩:=(show FC P w H h a (.tup (A_.map Cf))from ok a _ e);exact⟨o,its.toArray,n,h1,h2,h3,by simpa using nP r⟩
def Vg{B3:List (List Key×V)}(ok:ED P w H h)(e:Gf H a (.B5 B3)):B3.length<=CF/\(a==JN)=false/\
  ∃xs,KT H B3 xs/\h.DictOfH (S5 (IK P w)) a xs:=by
 obtain⟨z,y,xs,r,o,es,C5,h1,h2,h3,h4,h5⟩:=(show FC P w H h a (.B5 B3)from pW ok e);refine⟨z,y,xs,r,o,es,C5,h1,h2,h3,h4,λx AA=>?_,h5⟩;have all:∀{l:List (List Key×V)}{m:List (List Key×A3×A4)},KT H l m->∀x∈m,(S5 (IK P w)).is h x.1 x.2.1:=by
  intro l m q;induction q with
  |nil=>intro x AA;exact nomatch AA
  | @cons p q AK KY Ab t Br=>
    intro x AA;rcases List.mem_cons.mp AA with e|AA
    .subst e;exact Tb ok (by rw[<-Ab.1];exact Ab.2.1)
    .exact Br x AA
 exact all r x AA
def w9{B3:List (List Key×V)}(ok:ED P w H h)(e:H a=some (.B5 B3)):B3.length<=CF/\(a==JN)=false/\
  ∃xs,KT H B3 xs/\h.DictOfH (S5 (IK P w)) a xs:=Vg ok (.inl e)
end
def Lo(H:A8)(a:A3)(y:V)(r:Option V):Prop:=
 (∃B3 k,Gf H a (.Di B3)/\y=Cf k/\r=Gb B3 k)\/∃B3 k b,Gf H a (.B5 B3)/\y=.ref b/\H b=some (.tup (k.map Cf))/\r=Gb B3 k
noncomputable def Uh(H:A8)(a:A3)(y v:V)(H':A8):Prop:=
 (∃B3 k,H a=some (.Di B3)/\y=Cf k/\B3.length<CF/\H'=upd H a (.Di (putK B3 k v)))\/
 ∃B3 k b,H a=some (.B5 B3)/\y=.ref b/\H b=some (.tup (k.map Cf))/\B3.length<CF/\H'=upd H a (.B5 (putK B3 k v))
def Lo.t{H:A8}{a b:A3}{B3:List (List Key×V)}{k:List Key}(e:H a=some (.B5 B3))(BC:H b=some (.tup (k.map Cf))):Lo H a (.ref b) (Gb B3 k):=.inr ⟨B3,k,b,.inl e,rfl,BC,rfl⟩
def Uh.t{H:A8}{a b:A3}{B3:List (List Key×V)}{k:List Key}{v:V}(e:H a=some (.B5 B3))(BC:H b=some (.tup (k.map Cf)))(AF:B3.length<CF) :
  Uh H a (.ref b) v (upd H a (.B5 (putK B3 k v))):=.inr ⟨B3,k,b,e,rfl,BC,AF,rfl⟩
section
variable{X:AY}{pins:List (A3×Obj)}{σ :St}{H:A8}{s:AL}{a:A3}{y v:V}{u r:A4}{o:Option V}{A:C3}{E:A4->AL->Prop}
def Inv.big(I:Inv X pins σ H s):JN<s.heap.objs.size:=by have h:Ci<s.heap.objs.size:=(I.mod.glob.keeps I.G4).lt;exact QN (by decide) h
def uF{Q:A4->AL->Prop}(BX:A.units+1<E4)(I:Inv X pins σ H s)(g:Lo H a y o)(Bo:RelV y u)(h:∀s',Inv X pins σ H s'->Q (.bool o.isSome) s') :
  An (BA X.prog X.w) A (FK .In u (.ref a)) Q E s:=by
 rcases g with⟨B3,k,e,EK,l⟩|⟨B3,k,b,e,EK,BC,l⟩
 .subst EK;obtain⟨z,hd,vs,rel,dd⟩:=Vf I.BU e;refine wpAny_in_of (V6 Bo) hd dd.mapOf ?_;rw[<-(rel.val k).V4,<-l];exact h _ (I.tok _)
 .subst EK;cases(show u=Dm b from Bo);obtain⟨z,hd,xs,rel,dd⟩:=Vg I.BU e;refine wpAny_in_heap (Xn BX) (Tb I.BU BC) hd dd ?_;have q:=(rel.val k).V4;rw[j7]at q;rw[<-q,<-l];exact h _ (I.tok _)
def uG{Q:A4->AL->Prop}(BX:A.units+1<E4)(I:Inv X pins σ H s)(g:Lo H a y o)(Bo:RelV y u)(h:∀s',Inv X pins σ H s'->Q (.bool (!o.isSome)) s') :
  An (BA X.prog X.w) A (FK .NotIn u (.ref a)) Q E s:=by
 rcases g with⟨B3,k,e,EK,l⟩|⟨B3,k,b,e,EK,BC,l⟩
 .subst EK;obtain⟨z,hd,vs,rel,dd⟩:=Vf I.BU e;refine wpAny_notIn_of (V6 Bo) hd dd.mapOf ?_;rw[<-(rel.val k).V4,<-l];exact h _ (I.tok _)
 .subst EK;cases(show u=Dm b from Bo);obtain⟨z,hd,xs,rel,dd⟩:=Vg I.BU e;refine wpAny_notIn_heap (Xn BX) (Tb I.BU BC) hd dd ?_;have q:=(rel.val k).V4;rw[j7]at q;rw[<-q,<-l];exact h _ (I.tok _)
def ll{h':B1}{t':Nat}{Aj:Dl}(I:Inv X pins σ H s)(Ja:Up (H a))(hs:IP a s.heap h')(he:∃q,h'.get? a=some q)(new:FC X.prog X.w (upd H a Aj) h' a Aj) :
  Inv X pins σ (upd H a Aj) { s with heap:=h',toks:=t' }:=
 I.write (x:=a) (e:=a) Ja (.inl rfl) (λb q J z=>(hs.2 b J).trans z) he new
def w4{P:Bt}{w:Bg}{H':A8}{h':B1}{B3:List (Key×V)}{vs:List (Key×A4)}(z:B3.length<=CF)(hd:(a==JN)=false)(rel:Ge B3 vs)(dd:h'.DictOf (IK P w) a vs) :
  FC P w H' h' a (.Di B3):=⟨z,hd,vs,rel,dd⟩
def uI{H':A8}{Q:Unit->AL->Prop}(BX:A.units+1<E4)(I:Inv X pins σ H s)(g:Uh H a y v H')(Bo:RelV y u)(Bj:RelV v r)(h:∀s',Inv X pins σ H' s'->Q () s') :
  An (BA X.prog X.w) A (setItem (.ref a) u r) Q E s:=by
 rcases g with⟨B3,k,e,EK,l,eM⟩|⟨B3,k,b,e,EK,BC,l,eM⟩
 .subst EK eM;obtain⟨z,hd,vs,rel,dd⟩:=w5 I.BU e;have BL:vs.length<=CF:=by rw[<-rel.length];exact z
  have AF:(putK B3 k v).length<=CF:=by have:=oc B3 k v;omega
  refine wpAny_setItem_pairs (hsz:=BL) (V6 Bo) dd λh' Yr hs=>h _ ?_;have he:∃q,h'.get? a=some q:=let⟨q,_,_,Ab,_⟩:=Yr;⟨q,Ab⟩
  exact ll I (by rw[e];exact MQ) hs he (w4 AF hd (rel.put k Bj) Yr)
 .subst EK eM;cases(show u=Dm b from Bo);obtain⟨z,hd,xs,rel,dd⟩:=w9 I.BU e;have BL:xs.length<=CF:=by rw[<-Paired.length rel];exact z
  have AF:(putK B3 k v).length<=CF:=by have:=oc B3 k v;omega
  refine wpAny_setItem_heap (hsz:=BL) (Xn BX) (Tb I.BU BC) dd λh' Yr hs=>h _ ?_;obtain⟨q,es,C5,Ab,h2,h3,h4,_,h5⟩:=Yr;refine ll I (by rw[e];exact MQ) hs ⟨q,Ab⟩ ⟨AF,hd,_,(rel.put k BC Bj).keeps λc ys ec=>?_,q,es,C5,Ab,h2,h3,h4,h5⟩;rw[Df (abd ec e (λz=>nomatch z))];exact ec
end
section
variable{X:AY}{pins:List (A3×Obj)}{σ :St}{H:A8}{s:AL}{a:A3}{B3:List (Key×V)}{k:Key}{u:A4}{A:C3}{E:A4->AL->Prop}
end
def k6(i:AT):Prop:=∀Dk GZ,Y7 i false Dk GZ=operate [Dk,GZ] (QS Dk GZ)
def afQ{prog:Bt}{w:Bg}{A:C3}{E:A4->AL->Prop}{s:AL}{env:Env}{value slice:AT}{pos:Pos}{T id:String}{Q:A4->AL->Prop}(AF:typeLookup (.type T) "__getitem__"=pure (some (.builtin id)))(hs:k6 slice)(h:An (BA prog w) A (BE value env) (λo Ct=>An (BA prog w) A (BE slice env) (λi Hm=>Hm.TypeIs o T/\An (BA prog w) A (QS o i) Q E Hm) E Ct) E s) :
  An (BA prog w) A (BE (.Subscript value slice pos) env) Q E s:=by
 refine Subscript_ (Gs h (λo Ct KN=>Gs KN (λi Hm M4=>?_) λ_ _ x=>x) λ_ _ x=>x);obtain⟨F4,M4⟩:=M4;unfold subscriptTail;refine Az ?_;rw[getitemInPython_of_ne F4.not_modules];refine Az (jX F4 AF ?_);have fin:An (BA prog w) A (Y7 slice false o i) (λr Ma=>An (BA prog w) A (letTemporaryGo value o r>>=λ_=>pure r) Q E Ma) E Hm:=by rw[hs o i];exact wpAny_operating (Gs M4 (λr Ma Mo=>Az (wpAny_letTemporaryGo (CK Mo))) λ_ _ x=>x)
 first
  |exact CK (Az fin)
  |exact Az (CK (Az fin))
  |exact Az fin
def r3(ty IL:TE):TE:=λσ H Q=>ty σ H λy H1=>IL σ H1 λx Aw=>∃a o,x=.ref a/\Lo Aw a y o/\Q (.AI o.isSome) Aw
def r4(ty IL:TE):TE:=λσ H Q=>ty σ H λy H1=>IL σ H1 λx Aw=>∃a o,x=.ref a/\Lo Aw a y o/\Q (.AI (!o.isSome)) Aw
def adD(IL ty OH:TE):Ew:=λD σ H=>OH σ H λv H1=>IL σ H1 λx Aw=>ty σ Aw λy Cx=>∃a Gw,x=.ref a/\Uh Cx a y v Gw/\D.Bb σ Gw
section
variable{X:AY}{o i e value:AT}{pos pos' Pp:Pos}{IL ty OH:TE}
def qP(BX:X.A.units+1<E4)(AC:Ao X i ty)(AN:Ao X o IL):Yf X .In i o (r3 ty IL):=by intro pins s σ H Q I h;refine Ba (AC pins s σ H _ I h) λGZ s1⟨y,H1,Ak,Bo,Aa⟩=>Ba (AN pins s1 σ H1 _ Ak Aa) λu s2⟨x,Aw,Bq,BF,a,Dk,ex,g,B0⟩=>?_;subst ex;obtain rfl:u=Dm a:=BF;exact uF BX Bq g Bo λs3 Dg=>⟨.AI Dk.isSome,Aw,Dg,rfl,B0⟩
def acr(BX:X.A.units+1<E4)(AC:Ao X i ty)(AN:Ao X o IL):Yf X .NotIn i o (r4 ty IL):=by intro pins s σ H Q I h;refine Ba (AC pins s σ H _ I h) λGZ s1⟨y,H1,Ak,Bo,Aa⟩=>Ba (AN pins s1 σ H1 _ Ak Aa) λu s2⟨x,Aw,Bq,BF,a,Dk,ex,g,B0⟩=>?_;subst ex;obtain rfl:u=Dm a:=BF;exact uG BX Bq g Bo λs3 Dg=>⟨.AI (!Dk.isSome),Aw,Dg,rfl,B0⟩
def ac9(BX:X.A.units+1<E4)(AN:Ao X o IL)(AC:Ao X i ty)(Be:Ao X value OH)(hs:MV value (some (.Subscript o i pos')) pos.line X.env=pure false) :
  DF X (.Assign [.Subscript o i pos'] value pos) (adD IL ty OH):=by
 intro pins s σ H D I h;refine wpAny_Assign_Subscript (Ba (Be pins s σ H _ I h) λr s1⟨v,H1,Ak,Bj,Aa⟩=>Ba (AN pins s1 σ H1 _ Ak Aa) λu s2⟨x,Aw,Bq,BF,B0⟩=>Ba (AC pins s2 σ Aw _ Bq B0) λGZ s3⟨y,Cx,Dg,Bo,a,Gw,ex,g,E1⟩=>?_) hs;subst ex;obtain rfl:u=Dm a:=BF;exact uI BX Dg g Bo Bj λs4 LL=>⟨σ,Gw,LL,E1⟩
end
def w8{P:Bt}{w:Bg}{H:A8}(h:B1)(J:JN<h.objs.size):FC P w H (h.push { cls:=.type "dict",data:=.dict #[] }) h.objs.size (.B5 []):=
 ⟨Kk _,beq_eq_false_iff_ne.mpr (Ld (Em J)),[],.nil,_,#[],0,FV _ rfl,⟨rfl,rfl,rfl⟩,rfl,rfl,QJ⟩
def afV:TE:=λ_ H Q=>∀p,H p=none->Q (.ref p) (upd H p (.B5 []))
section
variable{X:AY}{pos:Pos}
def ad0:Ao X (.Dict [] [] pos) afV:=λpins s σ H Q I h=>
 wpAny_Dict_empty ⟨.ref s.heap.objs.size,_,I.laid (a:=s.heap.objs.size) (o:=.B5 []) (t':=s.toks) (λ_ _ q=>Cv _ q) (CO _) (w8 s.heap I.big),rfl,h _ (I.BU.fresh (CO _))⟩
end
structure tg(X:AY)(o:AT)(m:Str)(apos:Pos)(e:AT)(cpos:Pos):Prop where
 base:JL o m X.env (BE o X.env)=BE o X.env
 few:((Cj cpos (Ap [e] X.env)).all (λx=>!x.1)&&(Hw cpos (Ht [] X.env)).all (λx=>x.1.isSome)
  &&decide (([e]:List AT).length+([]:List GA).length+(if([]:List GA).isEmpty then 0 else 1)<30))=true
 line:(apos.endLine==cpos.line)=true
 trees:Cj cpos (Ap [e] X.env)=[(false,BE e X.env)]
def jx(H:A8)(a:A3):Prop:=(∃B3,Gf H a (.Di B3))\/∃B3,Gf H a (.B5 B3)
def ye{X:AY}{pins:List (A3×Obj)}{σ :St}{H:A8}{s:AL}{a:A3}(I:Inv X pins σ H s)(d:jx H a) :
  s.TypeIs (.ref a) "dict"/\(∀b,Dm a=.ref b->∃Aj,s.heap.get? b=some Aj/\Aj.dict=none)/\(a==JN)=false:=by
 rcases d with⟨B3,e⟩|⟨B3,e⟩
 .obtain⟨_,hd,vs,_,dd⟩:=Vf I.BU e;refine⟨dd.typeIs,λb q=>?_,hd⟩;cases q;obtain⟨Aj,_,_,h1,h2,_⟩:=dd;exact⟨Aj,h1,h2.2.1⟩
 .obtain⟨_,hd,xs,_,dd⟩:=Vg I.BU e;refine⟨dd.typeIs,λb q=>?_,hd⟩;cases q;obtain⟨Aj,_,_,h1,h2,_⟩:=dd;exact⟨Aj,h1,h2.2.1⟩
section
variable{X:AY}{pins:List (A3×Obj)}{σ :St}{H:A8}{s:AL}{a:A3}{y d:V}{u r:A4}{o:Option V}{A:C3}{E:A4->AL->Prop}
def uE{Q:A4->AL->Prop}(BX:A.units+1<E4)(I:Inv X pins σ H s)(g:Lo H a y o)(Bo:RelV y u)(h:∀Ff s',Inv X pins σ H s'->RelV (o.getD .non) Ff->Q Ff s') :
  An (BA X.prog X.w) A (call (.builtin "dict.get") [.ref a,u]) Q E s:=by
 rcases g with⟨B3,k,e,EK,l⟩|⟨B3,k,b,e,EK,BC,l⟩
 .subst EK;obtain⟨z,hd,vs,rel,dd⟩:=Vf I.BU e;refine call_meetsIn ip dd.typeIs su (t2 _ _) (meets_dict_get (IK X.prog X.w) a (V6 Bo) hd) ⟨_,dd.mapOf,h _ _ (I.tok _) ?_⟩;rw[l];exact(rel.val k).getD rfl
 .subst EK;cases(show u=Dm b from Bo);obtain⟨z,hd,xs,rel,dd⟩:=Vg I.BU e;refine call_meetsIn ip dd.typeIs su (t2 _ _) (meetsH_dict_get (S5 (IK X.prog X.w)) a b hd) ⟨Xn BX,k,xs,Tb I.BU BC,dd,h _ _ (I.tok _) ?_⟩;rw[l];exact(rel.val k).getD rfl
end
def r2(IL ty:TE):TE:=λσ H Q=>IL σ H λx H1=>∃a,x=.ref a/\jx H1 a/\ty σ H1 λy Aw=>∃o,Lo Aw a y o/\Q (o.getD .non) Aw
section
variable{X:AY}{o e f:AT}{apos cpos:Pos}{IL ty ajy:TE}
def acz(BX:X.A.units+1<E4)(AN:Ao X o IL)(he:Ao X e ty)(m:tg X o "get" apos e cpos):Ao X (.Call (.Attribute o "get" apos) [e] [] cpos) (r2 IL ty):=by intro pins s σ H Q I h;refine wpAny_Call_method m.base m.few m.line PySem.F.plainAttrs_dict ip PySem.F.type_dict_get (Ba (AN pins s σ H _ I h) λu s1⟨x,H1,Ak,BF,a,ex,d,Aa⟩=>?_);subst ex;obtain rfl:u=Dm a:=BF;obtain⟨t1,Hn,_⟩:=ye Ak d;refine⟨t1,Hn,?_⟩;rw[m.trees];refine sr rfl (ie (Xl (Ba (he pins s1 σ H1 _ Ak Aa) λGZ s2⟨y,Aw,Bq,Bo,Dk,g,B0⟩=>Xb ?_)));exact uE BX Bq g Bo λFf s3 Dg R5=>⟨_,Aw,Dg,R5,B0⟩
end
section
variable{X:AY}{pins:List (A3×Obj)}{σ :St}{H:A8}{s:AL}{a:A3}{B3:List (Key×V)}{A:C3}{E:A4->AL->Prop}
end
section
variable{X:AY}{pins:List (A3×Obj)}{σ :St}{H:A8}{s:AL}{a:A3}{y:V}{u:A4}{A:C3}{E:A4->AL->Prop}
end
end C7
namespace jo
open PySem PySem.W PySem.Calls PyProof.Rows
def yY{P:Params}{h:B1}:∀(ns:List Int)(vs:List A4),WellAll P h vs (ns.map WData.int)->IntsAre vs ns:=by
 intro ns;induction ns with
 |nil=>intro vs w;rw[jc]at w;cases w;exact .nil
 |cons n ns Br=>
  intro vs w;rw[EU]at w;cases w with
  |cons a b=>cases a;exact .cons _ _ (Br _ b)
def aeg{l:OpenLaw}{n:Nat}(AU:l.most=some n){P:Params}{h:B1}{args:List WData}{vals:List A4}(Yk:l.row.toRowW.claim.pre args=true)(dn:WellAll P h vals args) :
  ∃a vs ns,vals=[Dm a]/\args=[WData.list (ns.map WData.int)]/\h.get? a=some { cls:=.type "list",data:=.seq vs.toArray }/\IntsAre vs ns/\ns.length<=n:=by
 have xY:WShape.hasAll [] args [.list .int]=true:=(pre_splitW Yk).1;have AG:l.pre.holds [] { args:=args }=true:=(pre_splitW Yk).2;obtain⟨d,r,rfl,h1,h2⟩:=hasAllW_cons xY;obtain rfl:=hasAllW_nil h2;obtain⟨xs,rfl,h3⟩:=hasW_list h1;obtain⟨ns,rfl⟩:=items_int h3;have hlen:ns.length<=n:=by
  unfold OpenLaw.pre at AG;have h4:(WTm.not (.lt (.lit (.int (n:Int))) (.len (.arg 0)))).holds [] { args:=[.list (ns.map .int)] }=true:=by have h4:=(holds_andW AG).1;rw[AU]at h4;exact h4
  have h5:=condW_of h4 (w_not (w_lt w_lit (w_len_list (w_arg rfl))));rw[Gp]at h5;refine j1 λq=>?_;have Cr:(n:Int)<((ns.length:Nat):Int):=by omega
  first
   |(rw[decide_eq_true Cr]at h5;exact absurd h5 (by decide))
   |(simp at h5;omega)
 cases dn with
 |cons Fs Eu=>
  cases Eu;cases Fs with
  |list AN Nk=>exact⟨_,_,ns,rfl,rfl,AN,yY ns _ Nk,hlen⟩
def acd(l:OpenLaw)(args:List WData):l.row.toRowW.claim.post args (.bool true) args=true:=
 postW_of (r:=l.row.toRowW) (X:=(true==true))
  (show WShape.has [] (.bool true) .bool=true by first|rfl|decide|simp[WShape.has,WShape.arms,WShape.armsAll])
  (show(WTm.eq .res (.lit (.bool true))).value [] { args:=args,res:=some (.bool true),after:=args }=some (.bool (true==true))from w_eq_bool (w_res rfl) w_lit) rfl
def ut {l:OpenLaw} {n:Nat} {q:Bt} {loose:List Str} {Sv:(Str->Option A4)->B1->Prop} {PE:Bg->B1->Prop} {d:DefRec}(AU:l.most=some n) (VN:d.params.defaults=[])(call:∀(w:Bg)(Ee Ct:AL)(mg Gl:Str->Option A4)(G5:A3)(o:Obj)(pm cd doc:A4)(a:A3)(vs:List A4)(ns:List Int),
    Ground q loose [] Sv w Ee mg Gl Ct.heap->PE w Ct.heap->
    Ct.heap.get? G5=some o->o.data=.func (docDef d.name d.params d.body d.scope pm cd doc)->Ct.heap.CodeRec cd d.name->mg d.name=some (.ref G5)->
    Ct.heap.get? a=some { cls:=.type "list",data:=.seq vs.toArray }->IntsAre vs ns->ns.length<=n->Ct.gens= #[]->
    MW (BA l.prog w) QT (.call (.ref G5) ⟨[.ref a],[]⟩) (λr s'=>r=.ok (.ret (.bool true))/\OldK Ct.heap s'.heap/\s'.os=Ct.os/\Lc s'.gens) Ct) :
  WalkO q loose Sv PE l.row.toRowW d [] (λf vs=>PySem.call f vs):=by
 intro w Ee Ct mg Gl G Y G5 o pm cd doc Zb Cf AN hd Dj mI VS AW args vals as Yk aiE aiK dn aiF;obtain rfl:Zb=.none:=Dflts.none mI VN;obtain rfl:Cf=.none:=Dflts.noKw mI;obtain⟨a,vs,ns,rfl,rfl,eH,hints,hlen⟩:=aeg AU Yk dn;refine enter_call (Rw (call w Ee Ct mg Gl G5 o pm cd doc a vs ns G Y AN (fd_plain hd) Dj VS eH hints hlen AW) λr s' Ab=>?_);obtain⟨rfl,h2,h3,h4⟩:=Ab;exact⟨.inl ⟨.bool true,.bool true,[],rfl,λ_=>rfl,.bool true,acd l _,λ_=>⟨tJ,λ_ hm=>(nomatch hm)⟩⟩,h2,h3,h4⟩
section
variable{prog:Bt}{w:Bg}{A:C3}{E:A4->AL->Prop}{s:AL}{K:Frag}
end
end jo
namespace C7
open PySem PySem.Spec PyProof.Rows
theorem sR:∀{vs:List A4}{ns:List Int},IntsAre vs ns->Vals (ns.map V.int) vs
 |_,_,.nil=>.nil
 |_,_,.cons n t h=>.cons ⟨t,rfl⟩ (sR h)
def c7(H:A8):Prop:=∀b,H b=none\/∃o xs,H b=some (.K9 o (.lst xs))
def aaq{P:Bt}{w:Bg}{K:AZ}{mg Gl:Str->Option A4}{CX:KA}{k:Nat}{G5 a:A3}{fd:GO}{x:Str}{sp:J0}{Ct:AL}{vs:List A4}{ns:List Int}(Lr:K.In Ct.heap)(oF:Ct.heap.Ns Ci mg)(J:Ct.heap.Ns builtinsNs Gl)(e6:∀x:Str,x≠"__name__"->Gl x=Js x)(xp:Ct.heap.NoLimit)(AW:Ct.gens= #[])(A1:Ct.heap.get? a=some { cls:=.type "list",data:=.seq vs.toArray })(AC:IntsAre vs ns)(AF:ns.length<=CF)(A6:DY k QT)(F:∀base:B1,K.In base->base.Ns Ci mg->HY P w K mg base CX k G5 fd [x] sp)(w_:∀(s:AL)(u:A4),BindsTo s fd ⟨[u],[]⟩ [(x,u)])(Pu:∀H:A8,c7 H->Bp K H a (ns.map V.int)->sp [.ref a] H (λv _=>v=.AI true) λ_ _ _=>False)(e1:∀H e s',CX [] H Ct (λ_ _ _=>False) e s'->False) :
  MW (BA P w) QT (.call (.ref G5) ⟨[.ref a],[]⟩) (λr s'=>r=.ok (.ret (.bool true))/\OldK Ct.heap s'.heap/\s'.os=Ct.os/\Lc s'.gens) Ct:=by
 have Bj:=sR AC;have aay:=AC.length
 have core:∀H:A8,c7 H->Bp K H a (ns.map V.int)->ED P w H Ct.heap->(∀b,H b≠none->b=a)->(H a≠none->K.lookup a=none)->
   MW (BA P w) QT (.call (.ref G5) ⟨[.ref a],[]⟩) (λr s'=>r=.ok (.ret (.bool true))/\OldK Ct.heap s'.heap/\s'.os=Ct.os/\Lc s'.gens) Ct:=by
  intro H ZA J4 BU H4 Ag;have kM:∀{b:A3}{o:Obj},Ct.heap.get? b=some o->H b=none->(Nn Ct.heap H).get? b=some o:=λe n=>wI e n;have WC:∀{b:A3}{o:Obj}{es:Array DictEntry}{C5:Nat},Ct.heap.get? b=some o->o.data=.dict es C5->H b=none:=λ{b o es C5} e d=>by
   cases q:H b with
   |none=>rfl
   |some u=>have Bw:b=a:=H4 b (by rw[q];simp);subst Bw;rw[A1]at e;cases e;have d':UW vs.toArray _=Data.dict es C5:=d;cases d'
  have a7:∀{b:A3}{m:Str->Option A4},Ct.heap.Ns b m->(Nn Ct.heap H).Ns b m:=λ{b m}⟨o,es,C5,e,d,r⟩=>⟨o,es,C5,kM e (WC e d),d,r⟩;have mo:K.In (Nn Ct.heap H):=λb o e=>kM (Lr b o e) (by
   cases q:H b with
   |none=>rfl
   |some u=>have Bw:b=a:=H4 b (by rw[q];simp);subst Bw;rw[Ag (by rw[q];simp)]at e;cases e)
  have RV:Mod K mg (Nn Ct.heap H):=⟨mo,a7 oF,⟨Gl,a7 J,e6⟩,let⟨Zy,h1,h2⟩:=xp;⟨Zy,a7 h1,h2⟩⟩;have Cc:QU P w K mg (Nn Ct.heap H) QT [] Ct H:=⟨rfl,RV,λb o e=>abE e,Nat.le_of_eq (wJ _ _),trivial,λb J=>absurd (show b∈([]:List A3)from J) (by simp),BU,.of_eq AW⟩;refine Rw ((F _ mo (a7 oF)).run QT [] Ct H ⟨[.ref a],[]⟩ [.ref a] [.ref a] _ _ A6 Cc (w_ Ct (.ref a)) (.cons rfl .nil) (Pu H ZA J4)) λr s' h=>?_;cases r with
  |error e=>exact(e1 H e s' h).elim
  |ok fl=>
   cases fl with
   |next=>exact Jx h
   |brk=>exact Jx h
   |cont=>exact Jx h
   |ret u=>
    obtain⟨v,H',os,bare,un,y2,BM,q⟩:=h;have Cr:v=.AI true:=q;subst Cr;obtain rfl:u=Rz true:=BM;refine⟨rfl,OldK.of_keep λb o e=>?_,os,bare⟩;cases q:H b with
    |none=>exact un.keep b o e q (by intro z;exact absurd (show b∈([]:List A3)from z) (by simp)) (by simp)
    |some u=>
     rcases ZA b with z|⟨Aj,xs,z⟩
     .rw[q]at z;cases z
     .have Co:=un.HN b Aj _ z;obtain⟨AD,_⟩:=BU b _ z;obtain⟨AR,_⟩:=y2 b _ Co;rw[e]at AD;cases AD;exact AR
 cases AQ:K.lookup a with
 |some o=>have e:=Lr a o AQ;rw[A1]at e;cases e;refine core (λ_=>none) (λ_=>.inl rfl) (.inr ⟨_,vs.toArray,_,AQ,rfl,rfl,rfl,by rw[DO,aay];exact AF,by simpa using Bj⟩) (λb u z=>by have FT:(none:Option Dl)=some u:=z;cases FT) (λb z=>absurd rfl z) λz=>absurd rfl z
 |none=>
  refine core (λb=>if b=a then some (.K9 { cls:=.type "list",data:=.seq vs.toArray } (.lst (ns.map V.int)))else none) (λb=>?_) (.inl (.inr ⟨{ cls:=.type "list",data:=.seq vs.toArray },if_pos rfl⟩)) (λb u z=>?_) (λb z=>?_) λ_=>AQ
  .by_cases J:b=a
   .exact .inr ⟨_,_,if_pos J⟩
   .exact .inl (if_neg J)
  .by_cases J:b=a
   .have FT:=(if_pos J).symm.trans z;cases FT;subst J;exact⟨A1,by rw[Gp];exact AF,vs,_,Bj,A1⟩
   .have FT:=(if_neg J).symm.trans z;cases FT
  .by_cases J:b=a
   .exact J
   .exact absurd (if_neg J) z
def agc {l:jY} {n k:Nat} {q:Bt} {loose:List Str} {Sv:(Str->Option A4)->B1->Prop} {PE:Bg->B1->Prop} {d:DefRec} {K:Params->AZ} {CX:Bg->KA} {sp:Bg->J0} {x:Str}(AU:l.most=some n) (Yi:n<=CF) (VN:d.params.defaults=[]) (A6:DY k QT)(VI:∀(w:Bg)(h:B1),PE w h->(K w.params).In h)(F:∀(w:Bg)(mg:Str->Option A4)(G5:A3)(h:B1),(K w.params).In h->h.Ns Ci mg->mg d.name=some (.ref G5)->
    ∃fd:GO,(∀(s:AL)(u:A4),BindsTo s fd ⟨[u],[]⟩ [(x,u)])/\
     ∀base:B1,(K w.params).In base->base.Ns Ci mg->HY l.prog w (K w.params) mg base (CX w) k G5 fd [x] (sp w))
  (Pu:∀(w:Bg)(H:A8)(a:A3)(ns:List Int),ns.length<=n->c7 H->Bp (K w.params) H a (ns.map V.int)->sp w [.ref a] H (λv _=>v=.AI true) λ_ _ _=>False)
  (e1:∀(w:Bg)(H:A8)(s:AL)(e:A4)(s':AL),CX w [] H s (λ_ _ _=>False) e s'->False) :
  PySem.W.WalkO q loose Sv PE l.row.toRowW d [] (λf vs=>PySem.call f vs):=by
 refine jo.ut AU VN λw Ee Ct mg Gl G5 o pm cd doc a vs ns G Y AN hd Dj VS eH hints hlen AW=>?_;have Lr:=VI w _ Y;obtain⟨fd,J,Jr⟩:=F w mg G5 _ Lr G.T.g VS;exact aaq Lr G.T.g G.T.b G.T.builtins G.T.nolimit AW eH hints (EB hlen Yi) A6 Jr J (λH ZA J4=>Pu w H a ns hlen ZA J4) λH e s'=>e1 w H Ct e s'
def inClass(s:B9)(j:Nat):B9:=match s with
 |.ClassDef _ _ _ body _ _ _ _ _ _ _=>body.getD j (.Pass ⟨0,0,0,0⟩)
 |_=>.Pass ⟨0,0,0,0⟩
def K5(s:B9):Arguments:=match s with
 |.FunctionDef _ a _ _ _ _ _ _ _ _=>a
 |_=>{ posonlyargs:=[],args:=[],vararg:=none,kwonlyargs:=[],kw_defaults:=[],kwarg:=none,defaults:=[] }
def GW(s:B9):List B9:=match s with
 |.FunctionDef _ _ b _ _ _ _ _ _ _=>b
 |_=>[]
def BW(s:B9):D9:=match s with
 |.FunctionDef _ _ _ _ _ _ sc _ _ _=>sc
 |_=>{ kind:=.function,names:=[],isGenerator:=false,isCoroutine:=false }
abbrev Iu:KA:=λ_ _ _ _ _ _=>False
abbrev cZ:CS:=λ_ _ _=>False
def Zg{X:AY}:Passes Iu X cZ:=λ_ _ _ _ _ _ _ h=>h.elim
structure N6(K:AZ)(x qual:Str)(st:B9)(f:A3)(fd:GO):Prop where
 ex:∃(Ey:A4)(Dc:Option A3)(Cf doc pm:A4)(an:Option A3)(CB Cn:A4)(Kq:Array (Option A4)),
  fd=Iq x qual (K5 st) (GW st) (BW st) .none Cf doc pm an CB Cn/\K.lookup f=some ⟨Ey,Dc,.func fd,Kq⟩/\Op K CB qual=true
 AV:Ir K (.ref f)=true
section
variable{P:Bt}{w:Bg}{K:AZ}{mg:Str->Option A4}{base:B1}
def N6.ok {x qual:Str} {st:B9} {f:A3} {fd:GO} {N AK:List Str} {k:Nat} {sp:J0} (F:N6 K x qual st f fd) (S:Bv N AK (BW st)) (len:∀vs H Q E,sp vs H Q E->vs.length=AK.length)(e7:∀(CB:A4)(A:C3)(outer:List Env)(s:AL)(H:A8)(vs:List V)(Q:C_)(E:CS),DY k (A.deeper (NN qual (BW st) s.heap.objs.size f CB))->sp vs H Q E->
    ∃t,GU (Eb Iu P w K mg base N qual (BW st) f CB A outer s H E).Hi (GW st) t/\t { Bb:=λ_ H'=>Q .non H',Ed:=Q } (start N vs) H):HY P w K mg base Iu (k+1) f fd AK sp:=by
 obtain⟨Ey,Dc,Cf,doc,pm,an,CB,Cn,Kq,rfl,lk,Dj⟩:=F.ex;refine ee lk Dj S len λA outer s H vs Q E A6 Pu=>?_;obtain⟨t,h,q⟩:=e7 CB A outer s H vs Q E A6 Pu;exact⟨t,h.Hi,q⟩
def N6.binds{x qual:Str}{st:B9}{f:A3}{fd:GO}{AK:List Str}(F:N6 K x qual st f fd)(h:∀(Cf doc pm:A4)(an:Option A3)(CB Cn:A4)(us:List A4),us.length=AK.length->S2 (Iq x qual (K5 st) (GW st) (BW st) .none Cf doc pm an CB Cn) ⟨us,[]⟩=pure (AK.zip us)):Binds K fd AK []:=by obtain⟨Ey,Dc,Cf,doc,pm,an,CB,Cn,Kq,rfl,lk,Dj⟩:=F.ex;exact .all (h Cf doc pm an CB Cn)
def RS{x qual:Str}{st:B9}{f:A3}{Ey:A4}{Dc an:Option A3}{Kq:Array (Option A4)}{Cf doc pm CB Cn:A4}(l:K.lookup f=some ⟨Ey,Dc,.func (Iq x qual (K5 st) (GW st) (BW st) .none Cf doc pm an CB Cn),Kq⟩)(c:Op K CB qual=true)(k:Ir K (.ref f)=true):N6 K x qual st f (Iq x qual (K5 st) (GW st) (BW st) .none Cf doc pm an CB Cn):=⟨⟨Ey,Dc,Cf,doc,pm,an,CB,Cn,Kq,rfl,l,c⟩,k⟩
end
section
variable{X:AY}
end
section
variable{X:AY}
end
section
variable{DR:Type}[DecidableEq DR]
end
structure Uj(P:Bt)(w:Bg)(outer:List Env)(H H':A8)(s:AL)(a:A3)(C a0:A4)(B:B1)(s':AL):Prop where
 os:s'.os=s.os
 bare:Lc s'.gens
 un:EY (DH outer) [] H H' s.heap s'.heap
 P1:Heap.FlyingW B outer a C a0 s'.heap
 old:∀b o,s.heap.get? b=some o->H b=none->b∉DH outer->B.get? b=some o
 Od:∀b o,s.heap.get? b=some o->b∉DH outer->∃BS,B.get? b=some BS
 BU:ED P w H' B
 A1:H' a=none
def Ep(P:Bt)(w:Bg):KA:=λouter H s E e s'=>∃(a:A3)(C a0:A4)(B:B1)(H':A8),e=.ref a/\Uj P w outer H H' s a C a0 B s'/\E C (some a) H'
section
variable{X:AY}{pins:List (A3×Obj)}{σ :St}{H H':A8}{s s':AL}{a:A3}{C a0:A4}{B:B1}
def ED.part(x:ED X.prog X.w H s.heap)(k:∀b u,(H b).isSome=true->s.heap.get? b=some u->B.get? b=some u):ED X.prog X.w H B:=λb o e=>
 (x b o e).OZ (λc u AG q=>k c u (by rcases AG with rfl|AG<;>simp[*]) q) (λ_ q=>q) λ_ _ q=>q
def eh{env:Env}{outer:List Env}{L:A3}(h:env.frame=some L){b:A3}(J:b∈DH (env::outer)):b=L\/b∈DH outer:=by unfold DH at J;rw[Q9,h]at J;exact List.mem_cons.mp J
def Inv.aaw{M:Model}{A:C3}{E:A4->AL->Prop}{h':B1}{vs:List A4}{Q:Unit->AL->Prop}(I:Inv X pins σ H s)(ES:X.stack=X.env::X.outer)(JT:X.env.frame=some X.env.locals)(hex:X.ex=[])(H4:A.frames=some X.stack)(AA:Heap.MadeExcOf s.heap h' a C vs)(GH:∀a0 B GK,Uj X.prog X.w X.outer X.N7 H X.Ee a C a0 B GK->Q () GK):An M A (QR X.env (.ref a)) Q E { s with heap:=h' }:=by
 have o9:∀env∈X.stack,∀b,env.frame=some b->b∈DH X.stack:=λenv he b J=>List.mem_filterMap.mpr ⟨env,he,J⟩;have L5:∀b o,s.heap.get? b=some o->b∉DH X.stack->(MM s.heap (DH X.stack)).get? b=some o:=λb o q n=>jE _ q n;have JU:∀b o,X.Ee.heap.get? b=some o->b∉DH X.outer->b∉DH X.stack:=λb o q n z=>by
  rw[ES]at z;rcases eh JT z with r|r
  .subst r;exact absurd (Fk (D3 q) I.ok.above) (Hv _)
  .exact n r
 have Ex:∀b,b∉X.ex:=λb z=>by rw[hex]at z;cases z
 refine PySem.wpAny_leaves_madeW (base:=MM s.heap (DH X.stack)) (h:=s.heap) (by rw[H4,ES]) JT (λb o q=>jG _ q) (by have:=PySem.W.funFrames_hide (as:=DH X.stack) I.stack o9;rw[ES]at this |-;exact this) AA λdz t F7 Hy OJ LS=>?_;refine GH (.ref t) (MM s.heap (DH X.stack)) _ ⟨I.os,I.bare,⟨?_,?_,?_,?_,I.base.Hp,I.base.HN,I.base.Ho⟩,F7,?_,?_,?_,?_⟩
 .exact λb o q n J _=>F7.1 b o (L5 b o (I.base.keep b o q n J (Ex b)) (JU b o q J))
 .intro b o q n J _;obtain⟨CJ,Aa⟩:=I.base.slot b o q n J (Ex b);obtain⟨_,BS,Cr,Ii⟩:=I.ok.I_.mem J;rw[q]at Cr;cases Cr;obtain⟨OW,B0⟩:=LS b _ (AA.keeps b _ Aa) Ii;exact⟨OW,B0⟩
 .exact λb o q n _=>I.base.free b o q n (Ex b)
 .intro b o q _;by_cases J:b∈DH X.outer
  .obtain⟨_,BS,Cr,_⟩:=F7.2.2.1.mem J;exact⟨BS,Cr⟩
  .obtain⟨BS,Cr⟩:=I.base.there b o q (Ex b);exact⟨BS,F7.1 b BS (L5 b BS Cr (JU b o q J))⟩
 .exact λb o q n J=>L5 b o (I.base.keep b o q n J (Ex b)) (JU b o q J)
 .intro b o q J;obtain⟨BS,Cr⟩:=I.base.there b o q (Ex b);exact⟨BS,L5 b BS Cr (JU b o q J)⟩
 .exact ED.part (X:=X) (s:=s) I.BU λb u hs q=>L5 b u q λz=>by rw[I.h_ b z]at hs;cases hs
 .cases q:H a with
  |none=>rfl
  |some o=>
   have k:∀o:Dl,FC X.prog X.w H s.heap a o->∃u,s.heap.get? a=some u:=λo x=>by
    induction o with
    |lst xs=>obtain⟨_,_,_,_,e⟩:=x;exact⟨_,e⟩
    |tup xs=>obtain⟨_,_,_,_,e,_⟩:=x;exact⟨_,e⟩
    |Di B3=>obtain⟨_,_,_,_,o,_,_,e,_⟩:=x;exact⟨_,e⟩
    |B5 B3=>obtain⟨_,_,_,_,o,_,_,e,_⟩:=x;exact⟨_,e⟩
    |set S n=>obtain⟨o,_,_,_,e,_⟩:=x;exact⟨_,e⟩
    |ins C Ar fs=>obtain⟨_,_,_,e,_⟩:=x;exact⟨_,e⟩
    |own y=>obtain⟨_,e⟩:=x;exact⟨_,e⟩
    |ak fs=>obtain⟨_,⟨_,_,_,e,_⟩,_⟩:=x;exact⟨_,e⟩
    |bQ lo AC=>obtain⟨_,_,_,e⟩:=x;exact⟨_,e⟩
    |K9 Aj u=>obtain⟨e,_⟩:=x;exact⟨_,e⟩
    |Pn AK=>exact⟨_,(show s.heap.get? a=some _ from x)⟩
    |met f y=>exact⟨_,(show s.heap.get? a=some _ from x)⟩
    |ext Re=>obtain⟨_,⟨_,e⟩,_⟩:=x;exact⟨_,e⟩
   obtain⟨u,e⟩:=k o (I.BU a o q);rw[AA.new]at e;cases e
def Inv.aax{M:Model}{A:C3}{E:A4->AL->Prop}{Q:Unit->AL->Prop}(I:Inv X pins σ H s)(ES:X.stack=X.env::X.outer)(JT:X.env.frame=some X.env.locals)(hex:X.ex=[])(H4:A.frames=some X.stack)(f:Uj X.prog X.w X.stack H H' s a C a0 B s')(GH:∀GK,Uj X.prog X.w X.outer X.N7 H' X.Ee a C a0 B GK->Q () GK):An M A (QR X.env (.ref a)) Q E s':=by
 have JU:∀b o,X.Ee.heap.get? b=some o->b∉DH X.outer->b∉DH X.stack:=λb o q n z=>by
  rw[ES]at z;rcases eh JT z with r|r
  .subst r;exact absurd (Fk (D3 q) I.ok.above) (Hv _)
  .exact n r
 have eI:∀b,b∈DH X.outer->b∈DH X.stack:=λb z=>by rw[ES];unfold DH;rw[Q9,JT];exact En _ z
 have Ex:∀b,b∉X.ex:=λb z=>by rw[hex]at z;cases z
 have no:∀b:A3,b∉([]:List A3):=λb z=>by cases z
 obtain⟨os,bare,un,P1,old,Od,BU,A1⟩:=f;rw[ES]at P1;refine PySem.wpAny_leaves_onW (by rw[H4,ES]) JT P1 λdz F7 Hy=>?_;refine GH _ ⟨os.trans I.os,bare,⟨?_,?_,?_,?_,λb xs q=>un.Hp b xs (I.base.Hp b xs q),λb o u q=>un.HN b o u (I.base.HN b o u q),?_⟩,F7,?_,?_,BU,A1⟩
 .exact λb o q n J _=>F7.1 b o (old b o (I.base.keep b o q n J (Ex b)) (I.base.free b o q n (Ex b)) (JU b o q J))
 .intro b o q n J _;obtain⟨CJ,Aa⟩:=I.base.slot b o q n J (Ex b);obtain⟨_,BS,Cr,Ii⟩:=I.ok.I_.mem J;rw[q]at Cr;cases Cr;obtain⟨aeI,B0⟩:=un.slot b _ Aa (I.base.free b o q n (Ex b)) (eI b J) (no b);obtain⟨OW,E1⟩:=Hy b _ B0 Ii;exact⟨OW,E1⟩
 .intro b o q n _;obtain⟨BS,Cr⟩:=I.base.there b o q (Ex b);exact un.free b BS Cr (I.base.free b o q n (Ex b)) (no b)
 .intro b o q _;by_cases J:b∈DH X.outer
  .obtain⟨_,BS,Cr,_⟩:=F7.2.2.1.mem J;exact⟨BS,Cr⟩
  .obtain⟨BS,Cr⟩:=I.base.there b o q (Ex b);obtain⟨CN,B0⟩:=Od b BS Cr (JU b o q J);exact⟨CN,F7.1 b CN B0⟩
 .intro b AK q;obtain⟨m1,AD⟩:=I.base.Ho b AK q;obtain⟨m2,AR⟩:=un.Ho b _ AD;exact⟨m1++m2,by rw[AR,Xk]⟩
 .exact λb o q n J=>old b o (I.base.keep b o q n J (Ex b)) (I.base.free b o q n (Ex b)) (JU b o q J)
 .intro b o q J;obtain⟨BS,Cr⟩:=I.base.there b o q (Ex b);exact Od b BS Cr (JU b o q J)
end
def vL{K:AZ}{h:B1}{C:A3}{Ud:List A4}{newId:String}(X:K.In h)(q:La K C Ud newId=true) :
  ∃bm N nm q bs hdct sn sub ab col dd k0 k1 k2 k3 k5 mN,h.get? C=some (excClassObj nm q C N bs bm hdct sn sub ab col dd k0 k1 k2 k3 k5 newId)/\h.Ns N mN/\mN "__init__"=none/\OwnTail h Ud bm:=by
 unfold La at q
 split at q
 .rename_i dd cd CJ AN
  split at q
  .rename_i N5 bm k0 k1 k2 k3 n k5 hm hs;simp only[HT,beq_iff_eq,UD]at q;obtain⟨⟨⟨⟨⟨rfl,rfl⟩,o3⟩,BB⟩,BU⟩,Yj⟩:=q;obtain⟨nm,bs,mro,ns,qn,hd,sn,sub,ab,col,del⟩:=cd;dsimp only at hm o3 BU Yj;subst hm o3;have xZ:CJ= #[k0,k1,k2,k3,some (.builtin n),k5]:=by
    obtain⟨l⟩:=CJ;simp only at hs;rw[hs]
   subst xZ;exact⟨bm,ns,nm,qn,bs,hd,sn,sub,ab,col,dd,k0,k1,k2,k3,k5,_,X _ _ AN,.of_isNs (PySem.W.isNs_of_in X BU),PySem.W.nsMap_none_of_in X BU Yj,PySem.W.tail_of_in X BB⟩
  .cases q
 .cases q
def qe(X:AY)(C:A3):Ew:=λ_ σ H=>∀pins s h' a vs,Inv X pins σ H s->Heap.MadeExcOf s.heap h' a (.ref C) vs->X.xe (.ref a) { s with heap:=h' }
section
variable{X:AY}{x:Str}{np cpos pos cp:Pos}{C:A3}{Ud:List A4}{B newId yW:String}{m:Str}{j:Nat}
def acC(FB:ExcBaseFacts B newId yW Ud)(q:La X.K C Ud newId=true)(hm:X.mg x=some (.ref C))(AG:X.calm=true:=by rfl)(AW:DI X x:=by rfl)(hd:(x==("__debug__" :Str))=false:=by decide) :
  DF X (.Raise (some (.Call (.Name x np) [.Constant (.str m) j cp] [] cpos)) none pos) (qe X C):=by
 intro pins s σ H D I h;obtain⟨bm,N,nm,qn,bs,hdct,sn,sub,ab,col,dd,k0,k1,k2,k3,k5,mN,Fa,Bs,Yj,jm⟩:=vL I.mod.Mr q;refine wpAny_Raise_call_subT (mN:=mN) (C:=C) (nm:=nm) (q:=qn) (N:=N) (bs:=bs) (bm:=bm) (hdct:=hdct) (sn:=sn) (sub:=sub) (ab:=ab) (col:=col) (dd:=dd) (k0:=k0) (k1:=k1) (k2:=k2) (k3:=k3) (k5:=k5) FB (jm.hasType FB.hasBase) (I.ok.hd AG) rfl Yj (aT I AW hm ⟨rfl,?_⟩ hd);refine ie (Xl (Ba (eo (X:=X) (x:=m) (j:=j) (pos:=cp) pins s σ H (λ_ H1=>H1=H) I rfl) λu s1⟨v,H1,Ak,AE,AD⟩=>?_));subst AD;refine Xb ⟨rfl,NJ rfl,Ak.G4 _ _ Fa,Bs.keeps Ak.G4,jm.keeps Ak.G4,λh' a AA=>h pins s1 h' a _ Ak AA⟩
def ahf{P:Bt}{w:Bg}{K:AZ}{mg:Str->Option A4}{base:B1}{N:List Str}{qual:Str}{scope:D9}{f:A3}{cd:A4}{A:C3}{outer:List Env}{s0:AL}{H0:A8}{E:CS}{σ :St}{H:A8}{CZ:Ends}(h:∀a,H a=none->E (.ref C) (some a) H):qe (Eb (Ep P w) P w K mg base N qual scope f cd A outer s0 H0 E) C CZ σ H:=λpins s h' a vs I AA=>
 I.aaw (C:=.ref C) rfl rfl rfl I.ok.frames AA λa0 B GK fl=>⟨a,.ref C,a0,B,H,rfl,fl,h a fl.A1⟩
def HR{P:Bt}{w:Bg}{K:AZ}{mg:Str->Option A4}{base:B1}{N:List Str}{qual:Str}{scope:D9}{f:A3}{cd:A4}{A:C3}{outer:List Env}{s0:AL}{H0:A8}{E:CS} :
  Passes (Ep P w) (Eb (Ep P w) P w K mg base N qual scope f cd A outer s0 H0 E) E:=λpins σ H s e s' I AA=>by
 obtain⟨a,C,a0,B,H',rfl,fl,H5⟩:=AA;exact I.aax (X:=Eb (Ep P w) P w K mg base N qual scope f cd A outer s0 H0 E) rfl rfl rfl I.ok.frames fl λGK wu=>⟨a,C,a0,B,H',rfl,wu,H5⟩
end
abbrev vK(a:A3)(C:A4):Dl:=.ext λh=>∃Aj,h.get? a=some Aj/\Aj.cls=C
section
variable{X:AY}{pins:List (A3×Obj)}{σ :St}{H H':A8}{s s':AL}{a:A3}{C a0:A4}{B:B1}{dz:B1}
end
section
variable{X:AY}{k:Nat}{f C:A3}{fd:GO}{AK:List Str}{sp:J0}{E:CS}{x:Str}{p pos:Pos}{e:AT}{es:List AT}{t:EX}
end
section
variable{X:AY}{pins:List (A3×Obj)}{σ :St}{H H':A8}{s s':AL}{a:A3}
end
section
variable{X:AY}{i:Nat}{x n:Str}{W:A3}{e:AT}{DQ:TE}{E:CS}{vE:B9}{afR:List B9}{Bn:Ew}{fS np Am pos:Pos}
end
def Gz(env:Env):List (Str×Jy)->List (Str×A3)->List (Str×A3)
 |[],cs=>cs
 |(x,k)::r,cs=>Gz env r (if k==.free then(x,(env.cells.lookup x).getD 0)::cs else cs)
theorem k9{env:Env}:∀(names:List (Str×Jy))(cs:List (Str×A3)),(∀p∈names,p.2=.free->∃c,env.cells.lookup p.1=some c)->
 (forIn (m:=Sem) names cs λ(x:Str×Jy) cs=>if(x.2==Ip)=true then do
   let a <-cellOf env x.1
   pure (Os ((x.1,a)::cs))else pure (Os cs))=pure (Gz env names cs)
 |[],cs,_=>rfl
 |(x,k)::r,cs,h=>by
  rw[jZ];have Br:=k9 (env:=env) r;by_cases AQ:k=.free
  .subst AQ;obtain⟨c,AG⟩:=h (x,.free) IM rfl;have AD:cellOf env x=pure c:=by unfold cellOf;rw[AG]
   simp only[beq_self_eq_true,if_true,Gz,AD,AG,Rm,pure_bind];exact Br _ λp Am=>h p (En _ Am)
  .have J:(k==Ip)=false:=by simpa using AQ
   simp only[J,JM,if_false,Gz,pure_bind];exact Br _ λp Am=>h p (En _ Am)
def k8{env:Env}{scope:D9}(h:∀p∈scope.names,p.2=.free->∃c,env.cells.lookup p.1=some c):closureFor scope env=pure (Gz env scope.names []):=by
 have e:=k9 (env:=env) scope.names [] h;unfold closureFor
 refine Eq.trans (b:=(forIn (m:=Sem) scope.names [] λ(x:Str×Jy) cs=>if(x.2==Ip)=true then do
   let a <-cellOf env x.1
   pure (Os ((x.1,a)::cs))else pure (Os cs))>>=pure) rfl ?_
 rw[e];rfl
theorem ke{env:Env}{x:Str}:∀(names:List (Str×Jy))(cs:List (Str×A3)),(∀p∈names,p.2=.free->∃c,env.cells.lookup p.1=some c)->
  (Gz env names cs).lookup x=if(x,Ip)∈names then env.cells.lookup x else cs.lookup x
 |[],cs,_=>by simp[Gz]
 |(y,k)::r,cs,h=>by
  rw[Gz,ke r _ λp Am=>h p (En _ Am)];by_cases hm:(x,Ip)∈r
  .rw[if_pos hm,if_pos (En _ hm)]
  .rw[if_neg hm];by_cases AQ:k=.free
   .subst AQ;obtain⟨c,AG⟩:=h (y,.free) IM rfl;by_cases AA:x=y
    .subst AA;rw[if_pos IM];simp[XY,AG]
    .have nm:¬(x,Ip)∈(y,Ip)::r:=λz=>by
       rcases List.mem_cons.mp z with e|e
       .exact AA (by injection e)
       .exact hm e
     rw[if_neg nm];have J:(x==y)=false:=by simpa using AA
     simp[XY,J]
   .have J:(k==Ip)=false:=by simpa using AQ
    have nm:¬(x,Ip)∈(y,k)::r:=λz=>by
     rcases List.mem_cons.mp z with e|e
     .exact AQ (by injection e with _ AR;exact AR.symm)
     .exact hm e
    rw[if_neg nm];simp[J]
def ug {prog:Bt} {w:Bg} {A:C3} {R:Result->AL->Prop} {s:AL} {elt target iter:AT} {ifs:List AT} {scope:D9} {pos:Pos} {it acc:A4} {env:Env} (I:Nat->AL->Prop)(turn:∀n s,I n s->An (BA prog w) A (NM it) (λr Ct=>match r with
    |none=>R (.ok .next) Ct
    |some v=>An (BA prog w) A (Xy target it v) (λ_ qy=>An (BA prog w) A (Km target env v) (λ_ Hm=>
       An (BA prog w) A (forIn ifs true λc r=>if r=true then do let ok <-isTrue c env (BE c env);pure (Os ok)else pure (Os r)) (λok Ma=>
        if ok=true then An (BA prog w) A (BE elt env) (λx ax=>
         An (BA prog w) A (call (.builtin "list.append") [acc,x]) (λ_ qz=>∃m,m<n/\I m qz) (JP (BA prog w) A env λe s'=>R (.error e) s') ax) (JP (BA prog w) A env λe s'=>R (.error e) s') Ma
        else ∃m,m<n/\I m Ma) (JP (BA prog w) A env λe s'=>R (.error e) s') Hm) (JP (BA prog w) A env λe s'=>R (.error e) s') qy) (JP (BA prog w) A env λe s'=>R (.error e) s') Ct) (JP (BA prog w) A env λe s'=>R (.error e) s') s)
  (n:Nat) (h:I n s):MW (BA prog w) A (.compLoop (.ListComp elt [⟨target,iter,ifs,0⟩] scope pos) 0 it acc env) R s:=by
 refine codeAny_loop rfl I (λn s KJ=>?_) n h;show An _ A ((compTurn (.ListComp elt [⟨target,iter,ifs,0⟩] scope pos) 0 it acc env).onRaise (λx=>do noteFrame x env;theTreesLotGoes x)) _ _ s;refine wpAny_noted ?_;rw[compTurn_list];refine Az (wpAny_standAt (Az (Gs (turn n s KJ) (λr Ct KN=>?_) λ_ _ h'=>h')));cases r with
 |none=>exact CK KN
 |some v=>
  refine Az (Gs KN (λ_ qy xg=>?_) λ_ _ h'=>h');refine Az (Gs xg (λ_ Hm M4=>Az (Gs M4 (λok Ma Mo=>?_) λ_ _ h'=>h')) λ_ _ h'=>h');cases ok with
  |false=>exact CK ⟨rfl,Mo⟩
  |true=>exact Az (Az (Gs Mo (λx ax VX=>Az (Gs VX (λ_ qz HQ=>CK (CK ⟨rfl,HQ⟩)) λ_ _ h'=>h')) λ_ _ h'=>h'))
abbrev IA(X:AY)(scope:D9)(N:List Str)(cl:List (Str×A3))(C:A3)(s:AL)(H:A8)(Ad:List A3):AY where
 prog:=X.prog
 w:=X.w
 K:=X.K
 mg:=X.mg
 base:=X.base
 A:=X.A
 N:=N
 Ee:=s
 N7:=H
 env:=S3 scope cl C X.env
 outer:=X.stack
 stack:=X.stack
 ex:=Ad
 calm:=X.calm
 fn:=λx=>scope.names.lookup x==some .cell
 Pe:=[]
 xe:=λ_ _=>False
abbrev RC:=List (Str×A3)->A3->AL->A8->List A3->A4->AL->Prop
abbrev Kx(H9:RC)(X:AY)(scope:D9)(N:List Str)(cl:List (Str×A3))(C:A3)(s:AL)(H:A8)(Ad:List A3):AY:={ IA X scope N cl C s H Ad with xe:=H9 cl C s H Ad }
def ahI:RC:=λ_ _ _ _ _ _ _=>False
noncomputable def Ux(H9:RC)(X:AY)(scope:D9):Prop:=∀(pins:List (A3×Obj))(σ :St)(H:A8)(s:AL)(cl:List (Str×A3))(Ad:List A3),Inv X pins σ H s->(∀b∈Ad,HZ X pins H b)->∀e s',H9 cl s.heap.objs.size s H Ad e s'->
 JP (BA X.prog X.w) X.A (S3 scope cl s.heap.objs.size X.env) (λe s1=>∃m,s1.heap.Ns s.heap.objs.size m/\∀h',IP s.heap.objs.size s1.heap h'->∀K4:Env,K4.locals=s.heap.objs.size->An (BA X.prog X.w) X.A (YA "comprehension.variables-let-go" e K4:Sem A4) (λ_ _=>False) X.xe { s1 with heap:=h' }) e s'
def sZ{X:AY}{scope:D9}:Ux ahI X scope:=λ_ _ _ _ _ _ _ _ _ _ h=>h.elim
def NE(nl:Nat)(caps:List Nat)(σ :St):St:=FU nl none++caps.map λj=> σ.getD j none
def aG:Option Jy->Bool
 |some .cell=>true
 |some .free=>true
 |_=>false
structure MI(sc:D9)(PC:List Str)(scope:D9)(N:List Str)(nl:Nat)(caps:List Nat):Prop where
 kind:scope.kind=.function
 uniq:∀x∈scope.names,scope.names.lookup x.1=some x.2
 free:∀x∈scope.names,x.2=.free->aG (sc.names.lookup x.1)=true
 len:N.length=nl+caps.length
 ub:∀k j,caps[k]?=some j->∃x,PC[j]?=some x/\N[nl+k]?=some x/\scope.names.lookup x=some .free/\aG (sc.names.lookup x)=true
noncomputable def Ov(sc:D9)(PC:List Str)(scope:D9)(N:List Str)(nl:Nat)(caps:List Nat):Bool:=
 (scope.kind==.function)&&scope.names.all (λx=>scope.names.lookup x.1==some x.2&&(x.2 !=.free||aG (sc.names.lookup x.1)))&&
 (N.length==nl+caps.length)&&(caps.zipIdx.all λnS=>match PC[nS.1]? with
   |none=>false
   |some x=>N[nl+nS.2]?==some x&&scope.names.lookup x==some .free&&aG (sc.names.lookup x))
def MI.of{sc:D9}{PC:List Str}{scope:D9}{N:List Str}{nl:Nat}{caps:List Nat}(h:Ov sc PC scope N nl caps=true):MI sc PC scope N nl caps:=by
 unfold Ov at h;rw[HT,HT,HT]at h;obtain⟨⟨⟨h1,h2⟩,h3⟩,h4⟩:=h;rw[UL]at h2 h4;refine⟨eq_of_beq h1,λx AA=>?_,λx AA e=>?_,eq_of_beq h3,λk j e=>?_⟩
 .have:=h2 x AA;rw[HT]at this;exact eq_of_beq this.1
 .have:=h2 x AA;rw[HT]at this;have q:=this.2;rw[e]at q;simpa using q
 .have m:(j,k)∈caps.zipIdx:=by
    rw[List.mem_zipIdx_iff_getElem?];exact e
  have q:=h4 _ m;dsimp only at q
  split at q
  .cases q
  .rename_i x ex;rw[HT,HT]at q;exact⟨x,ex,eq_of_beq q.1.1,eq_of_beq q.1.2,q.2⟩
def MI.locs{sc:D9}{PC:List Str}{scope:D9}{N:List Str}{nl:Nat}{caps:List Nat}(S:MI sc PC scope N nl caps):∀x∈scope.names,x.2=.local->scope.names.lookup x.1=some .local:=λx AA e=>e▸S.uniq x AA
theorem dF:∀(ns:List (Str×Jy))(n:Nat)(a b:List (Str×A3)),HB n ns (a++b)=HB n ns a++b
 |[],_,_,_=>rfl
 |(x,k)::r,n,a,b=>by
  unfold HB
  split
  .exact dF r (n+1) ((x,n)::a) b
  .exact dF r n a b
theorem ZY{x:Str}{c:A3}:∀(ns:List (Str×Jy))(n:Nat)(a:List (Str×A3)),(x,c)∈HB n ns a->(x,NameKind.cell)∈ns\/(x,c)∈a
 |[],_,_,h=>.inr h
 |(y,k)::r,n,a,h=>by
  unfold HB at h
  split at h
  .rename_i AQ;rcases ZY r _ _ h with z|z
   .exact .inl (En _ z)
   .rcases List.mem_cons.mp z with e|z
    .injection e with AD AR;subst AD;rw[eq_of_beq AQ];exact .inl IM
    .exact .inr z
  .rcases ZY r _ _ h with z|z
   .exact .inl (En _ z)
   .exact .inr z
def abh{M:Model}{A:C3}{E:A4->AL->Prop}{s:AL}{scope:D9}{globals:A3}{cl:List (Str×A3)}{qual:Str}{env:Env}{Q:Env->AL->Prop}(GH:Q { scope:=scope,locals:=s.heap.objs.size,globals:=globals,cells:=HB (s.heap.objs.size+1) scope.names cl,qual:=qual,func:=none,code:=env.code,frame:=env.frame,builtins:=env.builtins } { s with heap:=pushCells (s.heap.push { cls:=.type "dict",data:=.dict #[] }) scope.names }) :
  An M A (jP scope globals cl [] qual none .none (some env)) Q E s:=by
 simp only[jP,tG,if_true];refine Az (wpAny_alloc ?_);refine Az (wpAny_layCells _ (λname kind cells=>by cases wP:kind==NameKind.cell<;>simp[wP]) _ _ _ _ ?_);rw[show({ s with heap:=s.heap.push { cls:=.type "dict",data:=.dict #[] } }:AL).heap.objs.size=s.heap.objs.size+1 from HU ..];exact Az (CK (CK GH))
def gc{scope:D9}{env:Env}{x:Str}{k:Jy}(h:(JQ scope env).names.lookup x=some k):(x,k)∈scope.names\/(k=.cell/\(x,Ip)∈scope.names):=by
 have m:=MP h;obtain⟨⟨y,q⟩,BO,e⟩:=List.mem_map.mp m;dsimp only at e
 split at e
 .rename_i AG;injection e with AD AR;subst AD;have hf:q=.free:=by
   rw[HT,HT]at AG;exact eq_of_beq AG.1.1
  subst hf;exact .inr ⟨AR.symm,BO⟩
 .injection e with AD AR;subst AD;subst AR;exact .inl BO
noncomputable def b1(HE:TI)(g:I7)(GN:TT)(DQ:TE)(nl:Nat)(caps:List Nat):TE:=λσ H Q=>
 HE σ H λCH H1=>∀acc,H1 acc=none->∃W:Nat->Nat->St->A8->Prop,(∃m,W 0 m (NE nl caps σ) (upd H1 acc (.lst [])))/\
  ∀i m σ' H',W i m σ' H'->(CH.stop i H'/\Q (.ref acc) H')\/
   (CH.go i H'/\∀x Aw,CH.JJ i H' x Aw->g x σ' Aw λσ2 Cx=>GN σ2 Cx λb Gw=>
      if b=true then DQ σ2 Gw λy Iv=>∃ys,Iv acc=some (.lst ys)/\ys.length<CF/\∃D0,D0<m/\W (i+1) D0 σ2 (upd Iv acc (.lst (ys++[y])))
      else ∃D0,D0<m/\W (i+1) D0 σ2 Gw)
section
variable{X:AY}{elt target iter:AT}{ifs:List AT}{scope:D9}{pos:Pos}{N:List Str}{nl:Nat}{caps:List Nat}{HE:TI}{g:I7}{GN:TT}{DQ:TE}
noncomputable def OA(X:AY)(ifs:List AT)(t:TT):Prop:=
 ∀(pins:List (A3×Obj))(s:AL)(σ :St)(H:A8)(Q:Bool->A8->Prop),Inv X pins σ H s->t σ H Q->
  An (BA X.prog X.w) X.A (forIn ifs true λc r=>if r=true then do let ok <-isTrue c X.env (BE c X.env);pure (Os ok)else pure (Os r)) (YI X pins σ Q) X.xe s
def af_:TT:=λ_ H Q=>Q true H
def adn:OA X [] af_:=λ_ _ _ H _ I h=>wpAny_tests_nil ⟨H,I,h⟩
def ado{c:AT}{t:TT}(h:FD X c t):OA X [c] t:=λpins s σ H Q I hw=>wpAny_tests_one (h pins s σ H Q I hw)
def yZ{pins:List (A3×Obj)}{σ :St}{H:A8}{s s4:AL}{cl:List (Str×A3)}{Ad:List A3}(S:MI X.env.scope X.N scope N nl caps)(I:Inv X pins σ H s)(k1:∀x c,cl.lookup x=some c->X.env.cells.lookup x=some c\/(scope.names.lookup x=some .cell/\s.heap.objs.size<c/\s4.heap.IsCell c none))(k2:∀x,(x,Ip)∈scope.names->cl.lookup x=X.env.cells.lookup x)(k3:∀x,scope.names.lookup x=some .cell->∃c,cl.lookup x=some c/\s.heap.objs.size<c)(aK:∀x y c,cl.lookup x=some c->cl.lookup y=some c->x=y)(hf:∀b∈Ad,HZ X pins H b)(Gk:∀b∈Ad,b<s.heap.objs.size)(y4:s4.os=s.os)(AW:s4.gens=s.gens)(AU:∃m,s4.heap.Ns s.heap.objs.size m)(AQ:∀b o,s.heap.get? b=some o->s4.heap.get? b=some o) :
  Inv (IA X scope N cl s.heap.objs.size s H Ad) [] (NE nl caps σ) H s4:=by
 refine⟨⟨I.ok.mod,?_,I.ok.glob,I.ok.blt,CO _,aK,λx AA=>?_,λx c z e=>?_,I.ok.hd,I.ok.frames,.inl rfl,λb J=>⟨Em (Gk b J),λx c e=>(k1 x c e).elim (λe=>(hf b J).2.2.2.2.1 x c e) λe=>MU (QN (Gk b J) e.2.1)⟩,I.bs,EB I.ok.PJ I.bk,λb o e J=>?_,λb J hs=>?_,I.stack,I.h_⟩,
  y4,?_,EY.kept AQ,?_,λx c e=>?_,I.BU.fresh (CO _),λx c e=>(k1 x c e).elim (I.Mi x c) λe=>I.BU.fresh (Rv e.2.1),λp Am=>absurd (show p∈([]:List (A3×Obj))from Am) (by simp),I.BU.kept AQ,?_⟩
 .show(JQ scope X.env).kind=.function;exact S.kind
 .have AA:(JQ scope X.env).names.lookup x=some .cell\/(JQ scope X.env).names.lookup x=some .free:=AA;have hm:(x,Ip)∈scope.names\/scope.names.lookup x=some .cell:=by
   rcases AA with h|h
   .rcases gc h with m|⟨_,m⟩
    .exact .inr (S.uniq _ m)
    .exact .inl m
   .rcases gc h with m|⟨e,_⟩
    .exact .inl m
    .cases e
  rcases hm with hm|hm
  rotate_left
  .obtain⟨c,e,_⟩:=k3 x hm;exact⟨c,e⟩
  have Ab:=S.free _ hm rfl;have AG:∃c,X.env.cells.lookup x=some c:=by
   apply I.ok.has x;show X.env.scope.names.lookup x=some .cell\/X.env.scope.names.lookup x=some .free;cases e:X.env.scope.names.lookup x with
   |none=>rw[e]at Ab;cases Ab
   |some k=>
    rw[e]at Ab
    cases k<;>first
     |exact .inl rfl
     |exact .inr rfl
     |cases Ab
  obtain⟨c,e⟩:=AG;exact⟨c,by show cl.lookup x=some c;rw[k2 x hm];exact e⟩
 .obtain⟨EQ,Bw,q⟩:=k3 x (eq_of_beq z);rw[show cl.lookup x=some c from e]at Bw;cases Bw;exact Rv q
 .rcases(hf b J).2.2.2.1 with z|z
  .exact I.ok.Pa b o e z
  .exact absurd (Fk (D3 (I.ok.bs b o e).1) z) (Hv _)
 .rcases List.mem_cons.mp (I.bh b hs)with z|z
  .exact(hf b J).2.1 z
  .exact(hf b J).2.2.1 z
 .rw[AW];exact I.bare
 .obtain⟨m,AU⟩:=AU;refine⟨m,AU,λi x v h1 h2 h3=>?_⟩;have Bs:N[i]?=some x:=h1;unfold NE at h2;by_cases AC:i<nl
  .rw[Hs (by simpa using AC),Oo,if_pos AC]at h2;cases h2
  .rw[HA (by simpa using AC),Ro,Fl]at h2;cases e:caps[i-nl]? with
   |none=>rw[e]at h2;cases h2
   |some j=>
    rw[e]at h2;have h2: σ.getD j none=some v:=EH h2;obtain⟨y,AD,AR,Vj,F2⟩:=S.ub _ _ e;have C2:(y,Ip)∈scope.names:=MP Vj;have E7:H_ X.env.scope y:=by
     cases q:X.env.scope.names.lookup y with
     |none=>rw[q]at F2;cases F2
     |some k=>
      rw[q]at F2
      cases k<;>first
       |exact .inr (.inl q)
       |exact .inr (.inr q)
       |cases F2
    have IY:nl+(i-nl)=i:=by omega
    rw[IY,Bs]at AR;cases AR;have hs: σ[j]?=some (some v):=by
     rw[Gq]at h2;cases q: σ[j]? with
     |none=>rw[q]at h2;cases h2
     |some o=>rw[q]at h2;exact congrArg some h2
    obtain⟨m0,_,AF⟩:=I.loc;obtain⟨u,r,l⟩:=AF j x v AD hs E7;refine⟨u,r,.inr ⟨?_,?_⟩⟩
    .show(JQ scope X.env).names.lookup x=some .cell\/(JQ scope X.env).names.lookup x=some .free;rcases h3 with h3|h3|h3
     .have h3:(JQ scope X.env).names.lookup x=some .local:=h3;rcases gc h3 with z|⟨z,_⟩
      .have Co:scope.names.lookup x=some .local:=S.locs _ z rfl;rw[Co]at Vj;cases Vj
      .cases z
     .exact .inl h3
     .exact .inr h3
    .have Ab:X.env.scope.names.lookup x≠some .local:=λz=>by rw[z]at F2;cases F2
     rcases l with⟨z,_⟩|⟨_,c,Dv,Co⟩
     .exact absurd z Ab
     .refine⟨c,?_,Co.keeps AQ⟩;show cl.lookup x=some c;rw[k2 x C2];exact Dv
 .rcases k1 x c e with e|e
  .obtain⟨v,z⟩:=I.cell x c e;exact⟨v,z.keeps AQ⟩
  .exact⟨_,e.2.2⟩
 .show(NE nl caps σ).length=N.length;unfold NE;rw[HS,Ro,Gp,S.len]
def ya{pins:List (A3×Obj)}{σ σ' :St}{H H':A8}{s s':AL}{cl:List (Str×A3)}{Ad:List A3}{h':B1}(I:Inv X pins σ H s)(hf:∀b∈Ad,HZ X pins H b)(CH:Inv (IA X scope N cl s.heap.objs.size s H Ad) [] σ' H' s')(hs:IP s.heap.objs.size s'.heap h'):Inv X pins σ H' { s' with heap:=h' }:=by
 have ne:∀b o,s.heap.get? b=some o->b≠s.heap.objs.size:=λb o e=>Em (D3 e);have u:EY (DH X.stack) Ad H H' s.heap s'.heap:=CH.base;have fr:H' s.heap.objs.size=none:=CH.free;refine I.vH (ch:=Ad) (s':={ s' with heap:=h' }) CH.os ⟨λb o e n J AA=>(hs.2 b (ne b o e)).trans (u.keep b o e n J AA),λb o e n J AA=>?_,u.free,λb o e AA=>?_,u.Hp,u.HN,u.Ho⟩ (λb o e=>?_) CH.bare λb J=>?_
 .obtain⟨CJ,q⟩:=u.slot b o e n J AA;exact⟨CJ,(hs.2 b (ne b o e)).trans q⟩
 .obtain⟨BS,q⟩:=u.there b o e AA;exact⟨BS,(hs.2 b (ne b o e)).trans q⟩
 .refine(CH.BU b o e).OZ (λc v AG q=>(hs.2 c ?_).trans q) (λ_ q=>q) λ_ _ q=>q;rintro rfl;rcases AG with z|z
  .rw[<-z,fr]at e;cases e
  .rw[fr]at z;cases z
 .obtain⟨_,f1,_,F3,f4,H3⟩:=hf b J;exact⟨F3,f1,f4,H3⟩
def eB{pins:List (A3×Obj)}{σ :St}{s:AL}{H:A8}(S:MI X.env.scope X.N scope N nl caps)(I:Inv X pins σ H s):∀p∈scope.names,p.2=.free->∃c,X.env.cells.lookup p.1=some c:=λp Am e=>by
 have q:=S.free p Am e;apply I.ok.has p.1;show X.env.scope.names.lookup p.1=some .cell\/X.env.scope.names.lookup p.1=some .free;cases AR:X.env.scope.names.lookup p.1 with
 |none=>rw[AR]at q;cases q
 |some k=>
  rw[AR]at q
  cases k<;>first
   |exact .inl rfl
   |exact .inr rfl
   |cases q
def kC {pins:List (A3×Obj)} {σ :St} {s2:AL} {Aw:A8} {it:A3} {Ad:List A3} {Go:Nat->B1->Prop} {CH:It} {E:A4->AL->Prop} {Q:A8->Prop} {W:Nat->Nat->St->A8->Prop} {m0:Nat}{H9:RC} (hw:Ux H9 X scope) (S:MI X.env.scope X.N scope N nl caps) (AG:X.calm=true) (Bq:Inv X pins σ Aw s2) (T:Turn X.prog X.w X.K target CH Ad it Go) (LN:Go 0 s2.heap) (f2:∀b∈Ad,HZ X pins Aw b)(AW:∀cl C s H Ad,Iw (Kx H9 X scope N cl C s H Ad) target g) (BB:∀cl C s H Ad,OA (Kx H9 X scope N cl C s H Ad) ifs GN) (he:∀cl C s H Ad,Ao (Kx H9 X scope N cl C s H Ad) elt DQ)(OI:W 0 m0 (NE nl caps σ) (upd Aw s2.heap.objs.size (.lst [])))(turn:∀i m σ' H',W i m σ' H'->(CH.stop i H'/\Q H')\/
    (CH.go i H'/\∀x Cx,CH.JJ i H' x Cx->g x σ' Cx λσ2 Gw=>GN σ2 Gw λb Iv=>
       if b=true then DQ σ2 Iv λy Sp=>∃ys,Sp s2.heap.objs.size=some (.lst ys)/\ys.length<CF/\∃D0,D0<m/\W (i+1) D0 σ2 (upd Sp s2.heap.objs.size (.lst (ys++[y])))
       else ∃D0,D0<m/\W (i+1) D0 σ2 Iv))
  (P6:A4->A3->Result->AL->Prop)
  (nx:∀(C:A3) e s',(∃m,s'.heap.Ns C m/\∀h',IP C s'.heap h'->∀K4:Env,K4.locals=C->An (BA X.prog X.w) X.A (YA "comprehension.variables-let-go" e K4:Sem A4) (λ_ _=>False) X.xe { s' with heap:=h' })->P6 (.ref s2.heap.objs.size) C (.error e) s')
  (xI:∀(C:A3) s' H',(∃m,s'.heap.Ns C m)->HZ X pins H' C->(∀h',IP C s'.heap h'->Inv X pins σ H' { s' with heap:=h' })->Q H'->P6 (.ref s2.heap.objs.size) C (.ok .next) s') :
  An (BA X.prog X.w) X.A (newList []) (λacc Ma=>An (BA X.prog X.w) X.A (jP scope X.env.globals (Gz X.env scope.names []) [] X.env.qual none .none (some X.env)) (λK4 ax=>
   MW (BA X.prog X.w) X.A (.compStart (.ListComp elt [⟨target,iter,ifs,0⟩] scope pos) 0 (.ref it) acc { K4 with scope:=JQ scope X.env }) (P6 acc K4.locals) ax) E Ma) E s2:=by
 have Yh:=eB S Bq;have P2:∀x,(Gz X.env scope.names []).lookup x=if(x,Ip)∈scope.names then X.env.cells.lookup x else none:=λx=>ke scope.names [] Yh
 have aix:Aw s2.heap.objs.size=none:=Bq.BU.fresh (CO _);refine j8 (abh ?_);dsimp only;have Dg:Inv X pins σ (upd Aw s2.heap.objs.size (.lst [])) { s2 with heap:=s2.heap.push { cls:=.type "list",dict:=none,data:=.seq ([]:List A4).toArray } }:=Bq.WW (its:=[]) (ys:=[]) (t':=s2.toks) .nil (Kk _);generalize eK:({ s2 with heap:=s2.heap.push { cls:=.type "list",dict:=none,data:=.seq ([]:List A4).toArray } }:AL)=s3 at Dg;have eC:s2.heap.push { cls:=.type "list",dict:=none,data:=.seq ([]:List A4).toArray }=s3.heap:=by rw[<-eK]
 rw[eC];have qA:∀b o,s2.heap.get? b=some o->s3.heap.get? b=some o:=λb o e=>by rw[<-eC];exact Cv _ e
 have aeH:s3.heap.objs.size=s2.heap.objs.size+1:=by rw[<-eC,HU]
 have aL:=dF scope.names (s3.heap.objs.size+1) [] (Gz X.env scope.names []);have ok:=cellsFrom_ok scope.names (s3.heap.push { cls:=.type "dict",data:=.dict #[] }) (s3.heap.objs.size+1) [] ⟨λ_ _ hm=>(nomatch hm),tJ⟩ (by rw[HU];exact CO _);have oG:=(Heap.Ns.new s3.heap (.type "dict")).keeps (pushCells_keeps scope.names _);have aM:∀b o,s3.heap.get? b=some o->(pushCells (s3.heap.push { cls:=.type "dict",data:=.dict #[] }) scope.names).get? b=some o:=λb o e=>pushCells_keeps _ _ b o (Cv _ e);rw[HU]at ok;rw[jW]at aL;rw[aL];generalize pushCells (s3.heap.push { cls:=.type "dict",data:=.dict #[] }) scope.names=KN at oG aM ok |-;have old:∀x c,X.env.cells.lookup x=some c->c<s3.heap.objs.size:=λx c e=>by obtain⟨v,z⟩:=Dg.cell x c e;exact z.lt
 have k0:∀x c,(HB (s3.heap.objs.size+1) scope.names []++Gz X.env scope.names []).lookup x=some c->((x,c)∈HB (s3.heap.objs.size+1) scope.names []/\scope.names.lookup x=some .cell/\s3.heap.objs.size<c/\KN.IsCell c none)\/X.env.cells.lookup x=some c:=λx c e=>by
  rw[jH]at e;cases AD:(HB (s3.heap.objs.size+1) scope.names []).lookup x with
  |some EQ=>
   rw[AD]at e;have e:EQ=c:=EH e;subst e;have m:=MP AD;rcases ZY _ _ _ m with z|z
   .exact .inl ⟨m,S.uniq _ z,(ok.empty _ _ m).2,(ok.empty _ _ m).1⟩
   .cases z
  |none=>
   rw[AD]at e;have e:(Gz X.env scope.names []).lookup x=some c:=e;rw[P2]at e
   split at e
   .exact .inr e
   .cases e
 have k2:∀x,(x,Ip)∈scope.names->(HB (s3.heap.objs.size+1) scope.names []++Gz X.env scope.names []).lookup x=X.env.cells.lookup x:=λx AA=>by
  rw[jH];cases AD:(HB (s3.heap.objs.size+1) scope.names []).lookup x with
  |some EQ=>
   rcases ZY _ _ _ (MP AD)with z|z
   .have Aa:=S.uniq _ z;have B0:=S.uniq _ AA;dsimp only at Aa B0;rw[Aa]at B0;cases B0
   .cases z
  |none=>show(Gz X.env scope.names []).lookup x=_;rw[P2,if_pos AA]
 have k3:∀x,scope.names.lookup x=some .cell->∃c,(HB (s3.heap.objs.size+1) scope.names []++Gz X.env scope.names []).lookup x=some c/\s3.heap.objs.size<c:=λx AA=>by obtain⟨c,e⟩:=dE (n:=s3.heap.objs.size+1) AA;exact⟨c,by rw[jH,e];rfl,(ok.empty _ _ (MP e)).2⟩
 have aK:∀x y c,(HB (s3.heap.objs.size+1) scope.names []++Gz X.env scope.names []).lookup x=some c->(HB (s3.heap.objs.size+1) scope.names []++Gz X.env scope.names []).lookup y=some c->x=y:=λx y c h1 h2=>by
  rcases k0 x c h1 with Dv|Dv<;>rcases k0 y c h2 with Co|Co
  .exact name_of_addr ok.apart Dv.1 Co.1
  .exact absurd (old y c Co) (Nat.not_lt_of_gt Dv.2.2.1)
  .exact absurd (old x c Dv) (Nat.not_lt_of_gt Co.2.2.1)
  .exact Dg.ok.inj x y c Dv Co
 have k1:∀x c,(HB (s3.heap.objs.size+1) scope.names []++Gz X.env scope.names []).lookup x=some c->X.env.cells.lookup x=some c\/(scope.names.lookup x=some .cell/\s3.heap.objs.size<c/\KN.IsCell c none):=λx c e=>(k0 x c e).elim (λz=>.inr z.2) .inl;generalize HB (s3.heap.objs.size+1) scope.names []++Gz X.env scope.names []=cl at k0 k1 k2 k3 aK |-;have oE:∀b∈Ad,b<s2.heap.objs.size:=λb J=>by obtain⟨o,e,_⟩:=T.obj 0 _ LN b J;exact D3 e
 have F3:∀b∈Ad,HZ X pins (upd Aw s2.heap.objs.size (.lst [])) b:=λb J=>by obtain⟨a0,a1⟩:=f2 b J;exact⟨by rw[Df (Em (oE b J))];exact a0,a1⟩
 have eG:∀b∈Ad,b<s3.heap.objs.size:=λb J=>by rw[aeH];exact j9 (oE b J)
 have loop:∀s4:AL,s4={ s3 with heap:=KN }->
   MW (BA X.prog X.w) X.A (.compLoop (.ListComp elt [⟨target,iter,ifs,0⟩] scope pos) 0 (.ref it) (.ref s2.heap.objs.size) (S3 scope cl s3.heap.objs.size X.env))
    (P6 (.ref s2.heap.objs.size) s3.heap.objs.size) s4:=by
  intro s4 TS;have LL:Inv (Kx H9 X scope N cl s3.heap.objs.size s3 (upd Aw s2.heap.objs.size (.lst [])) Ad) [] (NE nl caps σ) (upd Aw s2.heap.objs.size (.lst [])) s4:=
   (yZ S Dg (by rw[TS];exact k1) k2 k3 aK F3 eG (by rw[TS]) (by rw[TS]) ⟨_,by rw[TS];exact oG⟩ (by rw[TS];exact aM)).JG _
  have ag5:Go 0 s4.heap:=T.keep 0 _ _ LN λb J o e=>by rw[TS];exact aM b o (qA b o e)
  generalize L6:Kx H9 X scope N cl s3.heap.objs.size s3 (upd Aw s2.heap.objs.size (.lst [])) Ad=B at LL;have stat:∀{H':A8},(∀b∈Ad,H' b=none)->∀b∈Ad,HZ B [] H' b:=λ{H'} AU b J=>by
   subst L6;obtain⟨a0,a1,a2,Dp,FM,HI⟩:=F3 b J;refine⟨AU b J,Em (eG b J),λz=>?_,.inl J,λx c e=>?_,λp Am=>absurd (show p∈([]:List (A3×Obj))from Am) (by simp)⟩
   .rcases List.mem_cons.mp (Dg.bh b z)with q|q
    .exact a1 q
    .exact a2 q
   .rcases k1 x c e with e|e
    .exact FM x c e
    .exact MU (QN (eG b J) e.2.1)
  have wp:Iw B target g:=by subst L6;exact AW _ _ _ _ _
  have xb:OA B ifs GN:=by subst L6;exact BB _ _ _ _ _
  have wj:Ao B elt DQ:=by subst L6;exact he _ _ _ _ _
  have Sd:B.prog=X.prog:=by subst L6;rfl
  have IZ:B.w=X.w:=by subst L6;rfl
  have m3:B.K=X.K:=by subst L6;rfl
  have lz:B.A=X.A:=by subst L6;rfl
  have Yw:B.env=S3 scope cl s3.heap.objs.size X.env:=by subst L6;rfl
  have m4:B.calm=true:=by subst L6;exact AG
  have conv:∀e s',B.xe e s'->JP (BA X.prog X.w) X.A (S3 scope cl s3.heap.objs.size X.env) (λe s1=>P6 (.ref s2.heap.objs.size) s3.heap.objs.size (.error e) s1) e s':=λe s' AA=>by subst L6;have z:=hw _ _ _ _ _ _ Dg F3 e s' AA;unfold JP at z |-;exact Gs z (λ_ s1 q=>nx _ _ s1 q) λBw s1 q=>nx _ _ s1 q
  rw[<-Sd,<-IZ,<-lz,<-Yw];refine ug (λn s'=>∃i σ' H',Inv B [] σ' H' s'/\Go i s'.heap/\(∀b∈Ad,H' b=none)/\W i n σ' H') ?_ m0 ⟨0,_,_,LL,ag5,λb J=>(F3 b J).1,OI⟩;rintro n s5 ⟨i,σ5,Iv,Sq,Tx,Z5,agX⟩;have away:∀{α:Type}{t:Sem α}{jj:α->AL->Prop}{OT:AL},An (BA B.prog B.w) B.A t jj B.xe OT->An (BA B.prog B.w) B.A t jj (JP (BA B.prog B.w) B.A B.env λe s'=>P6 (.ref s2.heap.objs.size) s3.heap.objs.size (.error e) s') OT:=λh=>Gs h (λ_ _ q=>q) λe s' z=>by rw[Sd,IZ,lz,Yw];exact conv e s' z
  rcases turn i n σ5 Iv agX with⟨stop,q⟩|⟨go,step⟩
  .have d:=T.done B Sd IZ m3 m4 i [] s5 σ5 Iv (JP (BA B.prog B.w) B.A B.env λe s'=>P6 (.ref s2.heap.objs.size) s3.heap.objs.size (.error e) s') Sq (stat Z5) Tx stop;rw[<-Sd,<-IZ]at d;refine Ba d λr G_⟨A6,Um⟩=>?_;subst A6;refine xI _ G_ Iv ?_ (Dg.Ng (CO _) ?_) (λh' Ia=>?_) q
   .obtain⟨m,AU,_⟩:=Um.loc;rw[Yw]at AU;exact⟨m,AU⟩
   .have z:=Um.free;rw[Yw]at z;exact z
   .subst L6;exact ya Dg F3 Um.Ik Ia
  .have d:=T.item B Sd IZ m3 m4 i [] s5 σ5 Iv (JP (BA B.prog B.w) B.A B.env λe s'=>P6 (.ref s2.heap.objs.size) s3.heap.objs.size (.error e) s') Sq (stat Z5) Tx go;rw[<-Sd,<-IZ]at d;refine Ba d λr G_⟨u,A6,h6⟩=>?_;subst A6;refine Ba h6 λ_ Dt⟨x,GR,KD,HD,I4,hY,x1⟩=>?_;have ta:=KD.pinned (stat x1) (T.obj _ _ hY);refine away (Ba (wp _ Dt σ5 GR x u _ ta HD (step x GR I4)) λ_ Ka⟨σ8,bz,tc,f3⟩=>?_);refine away (Ba (xb _ Ka σ8 bz _ tc f3) λb Tt⟨u9,jw,fU⟩=>?_);have again:∀{σa:St}{Ha:A8}{OT:AL},Inv B ([]++WK Ad Dt.heap) σa Ha OT->(∃D0,D0<n/\W (i+1) D0 σa Ha)->∃m,m<n/\∃i σ' H',Inv B [] σ' H' OT/\Go i OT.heap/\(∀b∈Ad,H' b=none)/\W i m σ' H':=λ{σa Ha OT} c0⟨D0,hm,aga⟩=>by
    refine⟨D0,hm,i+1,σa,Ha,c0.bF,T.keep _ _ _ hY λb J o e=>(c0.pin (b,o) (Io _ (Io _ (a3 J e)))).1,λb J=>?_,aga⟩;obtain⟨o,e,d⟩:=T.obj _ _ hY b J;exact(c0.pin (b,o) (Io _ (Io _ (a3 J e)))).2.1
   cases b with
   |false=>exact again jw fU
   |true=>show An _ _ (BE elt B.env) _ _ Tt;refine away (Ba (wj _ Tt σ8 u9 _ jw fU) λiC Ts⟨y,ju,uB,Bo,ys,A1,BL,adx⟩=>?_);refine away (Ba (fD _ Ts σ8 ju (.ref s2.heap.objs.size) [y] (.ref s2.heap.objs.size) [iC] (λ_ jv=>jv=upd ju s2.heap.objs.size (.lst (ys++[y]))) uB rfl (.cons Bo .nil) ⟨_,ys,y,rfl,rfl,A1,BL,rfl⟩) λ_ bT⟨z,jv,uC,_,wC⟩=>?_);subst wC;exact again uC adx
 exact codeAny_compStart_list (loop _ (by rw[<-eK])) (T.self X.A 0 _ _ _ (T.keep 0 _ _ LN λb J o e=>aM b o (qA b o e)) (loop _ (by rw[<-eK])))
def qR{H9:RC}(hw:Ux H9 X scope)(S:MI X.env.scope X.N scope N nl caps)(AG:X.calm=true)(AC:GF X target iter HE)(AW:∀cl C s H Ad,Iw (Kx H9 X scope N cl C s H Ad) target g)(BB:∀cl C s H Ad,OA (Kx H9 X scope N cl C s H Ad) ifs GN)(he:∀cl C s H Ad,Ao (Kx H9 X scope N cl C s H Ad) elt DQ)(hs:∀x,Ki iter X.env x=pure x:=by intro _;rfl):Ao X (.ListComp elt [⟨target,iter,ifs,0⟩] scope pos) (b1 HE g GN DQ nl caps):=by intro pins s σ H Q I h;rw[eval_ListComp];refine wpAny_comprehension_free (use:=none) rfl hs (k8 (eB S I)) S.kind S.locs ?_;refine Ba (AC pins s σ H _ I h) λv s1 h1=>Ba h1 λaH s2 h2=>?_;obtain⟨it,Ad,Go,CH,Aw,e,Bq,T,LN,f2,k⟩:=h2;subst e;obtain⟨W,⟨m0,OI⟩,turn⟩:=k s2.heap.objs.size (Bq.BU.fresh (CO _));refine kC hw (Q:=λH'=>Q (.ref s2.heap.objs.size) H') S AG Bq T LN f2 AW BB he OI turn (λacc C=>compPost (BA X.prog X.w) X.A X.xe none (G1 X pins σ Q) acc C) (λC e s' q=>q) ?_;intro C s' H' AU _ KJ q;obtain⟨m,AU⟩:=AU;exact⟨m,AU,λh' Ia=>⟨.ref s2.heap.objs.size,H',KJ h' Ia,rfl,q⟩⟩
def pf{i:Nat}{y:Str}{py qi:Pos}{H9:RC}(hw:Ux H9 X scope)(S:MI X.env.scope X.N scope N nl caps)(AG:X.calm=true)(Bs:X.N.Nodup)(BO:X.N[i]?=some y)(AF:X.env.kindOf y=some .local)(AC:GF X target iter HE)(AW:∀cl C s H Ad,Iw (Kx H9 X scope N cl C s H Ad) target g)(BB:∀cl C s H Ad,OA (Kx H9 X scope N cl C s H Ad) ifs GN)(he:∀cl C s H Ad,Ao (Kx H9 X scope N cl C s H Ad) elt DQ)(Np:MV (.ListComp elt [⟨target,iter,ifs,0⟩] scope pos) (some (.Name y py)) qi.line X.env=pure true:=by rfl)(hs:∀x,Ki iter X.env x=pure x:=by intro _;rfl):DF X (.Assign [.Name y py] (.ListComp elt [⟨target,iter,ifs,0⟩] scope pos) qi) (Oa (b1 HE g GN DQ nl caps) (IC i)):=by
 intro pins s σ H CZ I h;rw[exec_Assign_Name_used _ _ _ _ Np];refine Az (wpAny_standAt (Az ?_));show An _ X.A (do let _ <-comprehension (.ListComp elt [⟨target,iter,ifs,0⟩] scope pos) scope X.env _ (newList []) false (BE iter X.env) (some (Km (.Name y py) X.env))) _ _ s;refine Az (Gs (wpAny_comprehension_free (use:=some (Km (.Name y py) X.env)) (Q:=λ_ s'=>P9 X pins CZ .next s') rfl hs (k8 (eB S I)) S.kind S.locs ?_) (λ_ s' Ab=>CK (CK Ab)) λ_ _ e=>e);refine Ba (AC pins s σ H _ I h) λv s1 h1=>Ba h1 λaH s2 h2=>?_;obtain⟨it,Ad,Go,CH,Aw,e,Bq,T,LN,f2,k⟩:=h2;subst e;obtain⟨W,⟨m0,OI⟩,turn⟩:=k s2.heap.objs.size (Bq.BU.fresh (CO _));refine kC hw (Q:=λH'=>CZ.Bb (σ.set i (some (.ref s2.heap.objs.size))) H') S AG Bq T LN f2 AW BB he OI turn (λacc C=>compPost (BA X.prog X.w) X.A X.xe (some (Km (.Name y py) X.env)) (λ_ s'=>P9 X pins CZ .next s') acc C) (λC e s' q=>q) ?_;intro C s' H' AU Fa KJ q;obtain⟨m,AU⟩:=AU;show An _ X.A (Km (.Name y py) X.env (.ref s2.heap.objs.size)) _ _ s';have KC:Inv X pins σ H' s':=KJ s'.heap (tD _ _);refine wpAny_assign_Name (qr (v:=.ref s2.heap.objs.size) KC Bs BO (.inl AF) (show RelV (V.ref _) _ from rfl) (λGK uA xX=>?_) (.inr AF));obtain⟨a,xW,A1⟩:=xX;obtain⟨Md,BP,Ce,ER,K3,dC⟩:=Fa;have aab:C≠a:=by
  rcases A1 with z|z
  .rw[z];exact BP
  .exact λw=>K3 y a z w.symm
 refine⟨m,AU.sameBut xW aab,λh' Ia=>?_⟩;exact⟨_,H',uA.turned (t':=GK.toks) (it:=C) (λb o J e=>(Ia.2 b J).trans e) Md BP ER K3 dC,q⟩
end
end C7
namespace CP
open PySem C7
inductive D where
 |non|AI (b:Bool)|int (i:Int)|str (x:Str)
 |tup (xs:List D)|lst (xs:List D)|Cs (xs:List D)
 |Di (A_:List Key) (xs:List D)|B5 (A_:List (List Key)) (xs:List D)
 |ins (c:Str) (ns:List Str) (xs:List D)
 |S8 (c:Str)
 |fn (c:Str)
 |DB (xs:List D)
def Sub(G H:A8):Prop:=∀b o,G b=some o->H b=some o
def Sub.refl(G:A8):Sub G G:=λ_ _ e=>e
def Sub.trans{G H I:A8}(a:Sub G H)(b:Sub H I):Sub G I:=λc o e=>b c o (a c o e)
def Sub.gone{G H:A8}(a:Sub G H){b:A3}(h:H b=none):G b=none:=by
 cases e:G b with
 |none=>rfl
 |some o=>rw[a b o e]at h;cases h
theorem Sub.upd{G:A8}{a:A3}{o:Dl}(h:G a=none):Sub G (upd G a o):=λb u e=>by rw[Df (Jb e h)];exact e
def Sub.bG{G H:A8}{a:A3}{o:Dl}(s:Sub G H)(h:G a=none):Sub G (C7.upd H a o):=λb u e=>by rw[Df (Jb e h)];exact s b u e
def Sub.both{G H:A8}{a:A3}{o:Dl}(s:Sub G H):Sub (C7.upd G a o) (C7.upd H a o):=λb u e=>by
 by_cases J:b=a
 .subst J;rw[Du]at e |-;exact e
 .rw[Df J]at e |-;exact s b u e
theorem Sub.at{G H:A8}{a:A3}{o:Dl}(s:Sub G H)(h:H a=some o):Sub (C7.upd G a o) H:=λb u e=>by
 by_cases J:b=a
 .subst J;rw[Du]at e;rw[h];exact e
 .rw[Df J]at e;exact s b u e
structure Bl(G H G' H':A8):Prop where
 g:Sub G G'
 h:Sub H H'
 n:∀b,H b≠none->G' b=G b
def Sub.some{G H:A8}(s:Sub G H){b:A3}(h:G b≠none):H b≠none:=λz=>h (s.gone z)
theorem Bl.refl(G H:A8):Bl G H G H:=⟨Sub.refl _,Sub.refl _,λ_ _=>rfl⟩
theorem Bl.trans{G H Ae H1 Cw Aw:A8}(a:Bl G H Ae H1)(b:Bl Ae H1 Cw Aw):Bl G H Cw Aw:=⟨a.g.trans b.g,a.h.trans b.h,λc AG=>(b.n c (a.h.some AG)).trans (a.n c AG)⟩
def Bl.lay{G H:A8}{p:A3}{o:Dl}(s:Sub G H)(Am:H p=none):Bl G H (C7.upd G p o) (C7.upd H p o):=⟨Sub.upd (s.gone Am),Sub.upd Am,λb J=>by rw[Df];intro e;subst e;exact J Am⟩
def Bl.lay0{G H:A8}{p:A3}{o:Dl}(Am:H p=none):Bl G H G (C7.upd H p o):=⟨Sub.refl _,Sub.upd Am,λ_ _=>rfl⟩
def Bl.put{G H G' H':A8}{p:A3}{o:Dl}(u:Bl G H G' H')(Am:H p=none)(AW:G' p=none):Bl G H (C7.upd G' p o) H':=⟨u.g.trans (Sub.upd AW),u.h,λb J=>by
 rw[Df]
 .exact u.n b J
 .intro e;subst e;exact J Am⟩
def Gf.mono{G H:A8}(s:Sub G H){a:A3}{u:Dl}(r:Gf G a u):Gf H a u:=by
 rcases r with r|⟨o,r⟩
 .exact .inl (s _ _ r)
 .exact .inr ⟨o,s _ _ r⟩
theorem Bp.mono{K:AZ}{G H:A8}(s:Sub G H){a:A3}{xs:List V}(r:Bp K G a xs):Bp K H a xs:=by
 rcases r with r|r
 .exact .inl (Gf.mono s r)
 .exact .inr r
theorem CA.mono{K:AZ}{G H:A8}(s:Sub G H){a:A3}{xs:List V}(r:CA K G a xs):CA K H a xs:=by
 rcases r with r|r
 .exact .inl (Gf.mono s r)
 .exact .inr r
def EW(K:AZ)(c:Str)(C:A3):Prop:=DW K Ci c=some (some (.ref C))
mutual
noncomputable def At(K:AZ)(G:A8):D->V->Prop
 |.non,v=>v=.non
 |.AI b,v=>v=.AI b
 |.int i,v=>v=.int i
 |.str x,v=>v=.str x
 |.tup ds,v=>∃a xs,v=.ref a/\G a=some (.tup xs)/\Ac K G ds xs
 |.DB ds,v=>∃a xs,v=.ref a/\CA K G a xs/\Ac K G ds xs
 |.lst ds,v=>∃a xs,v=.ref a/\G a=some (.lst xs)/\Ac K G ds xs
 |.Cs ds,v=>∃a xs,v=.ref a/\Bp K G a xs/\Ac K G ds xs
 |.Di A_ ds,v=>∃a xs,v=.ref a/\G a=some (.Di xs)/\xs.map (·.1)=A_/\Ac K G ds (xs.map (·.2))
 |.B5 A_ ds,v=>∃a xs,v=.ref a/\G a=some (.B5 xs)/\xs.map (·.1)=A_/\Ac K G ds (xs.map (·.2))
 |.ins c ns ds,v=>∃a Ar xs,v=.ref a/\(∃C,EW K c C/\G a=some (.ins C Ar xs))/\xs.map (·.1)=ns/\Ac K G ds (xs.map (·.2))
 |.S8 c,v=>∃(a:A3)(xs:List V),v=.ref a/\(∃C,EW K c C/\G a=some (vK a (.ref C)))/\xs=[]
 |.fn c,v=>∃(a:A3)(xs:List V),v=.ref a/\EW K c a/\xs=[]
noncomputable def Ac(K:AZ)(G:A8):List D->List V->Prop
 |[],vs=>vs=[]
 |d::ds,vs=>∃v r,vs=v::r/\At K G d v/\Ac K G ds r
end
mutual
theorem At.mono{K:AZ}{G H:A8}(s:Sub G H):∀{d:D}{v:V},At K G d v->At K H d v
 |.non,_,h=>by simpa only[At]using h
 |.AI _,_,h=>by simpa only[At]using h
 |.int _,_,h=>by simpa only[At]using h
 |.str _,_,h=>by simpa only[At]using h
 |.tup _,_,h=>by simp only[At]at h |-;obtain⟨a,xs,e,q,r⟩:=h;exact⟨a,xs,e,s _ _ q,Ac.mono s r⟩
 |.DB _,_,h=>by simp only[At]at h |-;obtain⟨a,xs,e,q,r⟩:=h;exact⟨a,xs,e,CA.mono s q,Ac.mono s r⟩
 |.lst _,_,h=>by simp only[At]at h |-;obtain⟨a,xs,e,q,r⟩:=h;exact⟨a,xs,e,s _ _ q,Ac.mono s r⟩
 |.Cs _,_,h=>by simp only[At]at h |-;obtain⟨a,xs,e,q,r⟩:=h;exact⟨a,xs,e,Bp.mono s q,Ac.mono s r⟩
 |.Di _ _,_,h=>by simp only[At]at h |-;obtain⟨a,xs,e,q,k,r⟩:=h;exact⟨a,xs,e,s _ _ q,k,Ac.mono s r⟩
 |.B5 _ _,_,h=>by simp only[At]at h |-;obtain⟨a,xs,e,q,k,r⟩:=h;exact⟨a,xs,e,s _ _ q,k,Ac.mono s r⟩
 |.ins _ _ _,_,h=>by simp only[At]at h |-;obtain⟨a,Ar,xs,e,⟨C,BP,q⟩,k,r⟩:=h;exact⟨a,Ar,xs,e,⟨C,BP,s _ _ q⟩,k,Ac.mono s r⟩
 |.S8 _,_,h=>by simp only[At]at h |-;obtain⟨a,xs,e,⟨C,BP,q⟩,r⟩:=h;exact⟨a,xs,e,⟨C,BP,s _ _ q⟩,r⟩
 |.fn _,_,h=>by simpa only[At]using h
theorem Ac.mono{K:AZ}{G H:A8}(s:Sub G H):∀{ds:List D}{vs:List V},Ac K G ds vs->Ac K H ds vs
 |[],_,h=>by simpa only[Ac]using h
 |_::_,_,h=>by simp only[Ac]at h |-;obtain⟨v,r,e,q,t⟩:=h;exact⟨v,r,e,At.mono s q,Ac.mono s t⟩
end
section
variable{K:AZ}{G:A8}
def Ac.nil:Ac K G [] []:=by simp only[Ac]
def Ac.cons{d:D}{ds:List D}{v:V}{vs:List V}(h:At K G d v)(t:Ac K G ds vs):Ac K G (d::ds) (v::vs):=by simp only[Ac];exact⟨v,vs,rfl,h,t⟩
theorem Ac.length:∀{ds:List D}{vs:List V},Ac K G ds vs->ds.length=vs.length
 |[],_,h=>by simp only[Ac]at h;subst h;rfl
 |_::_,_,h=>by simp only[Ac]at h;obtain⟨v,r,rfl,_,t⟩:=h;simp[Ac.length t]
theorem Ac.get:∀{ds:List D}{vs:List V}{i:Nat}{d:D},Ac K G ds vs->ds[i]?=some d->∃v,vs[i]?=some v/\At K G d v
 |[],_,_,_,_,e=>by simp at e
 |_::_,_,0,_,h,e=>by simp only[Ac]at h;obtain⟨v,r,rfl,q,t⟩:=h;simp at e;subst e;exact⟨v,by simp,q⟩
 |_::_,_,i+1,d,h,e=>by simp only[Ac]at h;obtain⟨v,r,rfl,q,t⟩:=h;obtain⟨u,h1,h2⟩:=Ac.get (i:=i) (d:=d) t (by simpa using e);exact⟨u,by simpa using h1,h2⟩
def Ac.SA{ds:List D}{vs:List V}{i:Nat}{v:V}(h:Ac K G ds vs)(e:vs[i]?=some v):∃d,ds[i]?=some d/\At K G d v:=by
 have AC:i<ds.length:=by rw[h.length];exact(List.getElem?_eq_some_iff.mp e).1
 obtain⟨u,h1,h2⟩:=h.get (Dw AC);rw[e]at h1;cases h1;exact⟨_,Dw AC,h2⟩
theorem Ac.append:∀{ds es:List D}{vs ws:List V},Ac K G ds vs->Ac K G es ws->Ac K G (ds++es) (vs++ws)
 |[],_,_,_,h,t=>by simp only[Ac]at h;subst h;exact t
 |_::_,_,_,_,h,t=>by simp only[Ac]at h;obtain⟨v,r,rfl,q,s⟩:=h;exact .cons q (Ac.append s t)
theorem Ac.take:∀(n:Nat){ds:List D}{vs:List V},Ac K G ds vs->Ac K G (ds.take n) (vs.take n)
 |0,_,_,_=>by simpa using Ac.nil
 |_+1,[],_,h=>by simp only[Ac]at h;subst h;simpa using Ac.nil
 |n+1,_::_,_,h=>by simp only[Ac]at h;obtain⟨v,r,rfl,q,t⟩:=h;exact .cons q (Ac.take n t)
theorem Ac.drop:∀(n:Nat){ds:List D}{vs:List V},Ac K G ds vs->Ac K G (ds.drop n) (vs.drop n)
 |0,_,_,h=>by simpa using h
 |_+1,[],_,h=>by simp only[Ac]at h;subst h;simpa using Ac.nil
 |n+1,_::_,_,h=>by simp only[Ac]at h;obtain⟨v,r,rfl,q,t⟩:=h;simpa using Ac.drop n t
def Ac.snoc{ds:List D}{vs:List V}{d:D}{v:V}(h:Ac K G ds vs)(q:At K G d v):Ac K G (ds++[d]) (vs++[v]):=h.append (.cons q .nil)
end
inductive R(α:Type) where
 |ok (a:α)|exc (c:Str)|bad
namespace R
def bind{α β:Type}:R α->(α->R β)->R β
 |.ok a,k=>k a
 |.exc c,_=>.exc c
 |.bad,_=>.bad
def E_{α β:Type}(a:α)(k:α->R β):(R.ok a).bind k=k a:=rfl
end R
def rb{α β:Type}{P:R α->Prop}{Ye:R β->Prop}{r:R α}{k:α->R β}(h:Ye (r.bind k))(f:∀a,r=.ok a->Ye (k a)->P (.ok a))(J:Ye .bad->P .bad:=by exact id)(AA:∀c,Ye (.exc c)->P (.exc c):=by exact λ_=>id):P r:=by
 cases r with
 |ok a=>exact f a rfl h
 |exc c=>exact AA c h
 |bad=>exact J h
inductive T where
 |AM (d:D)|lst (Bn:List T)|Di (A_:List Key) (Bn:List T)|B5 (A_:List (List Key)) (Bn:List T)|ins (c:Str) (ns:List Str) (Bn:List T)
mutual
noncomputable def toD:T->D
 |.AM d=>d
 |.lst Bn=>.lst (Po Bn)
 |.Di A_ Bn=>.Di A_ (Po Bn)
 |.B5 A_ Bn=>.B5 A_ (Po Bn)
 |.ins c ns Bn=>.ins c ns (Po Bn)
noncomputable def Po:List T->List D
 |[]=>[]
 |t::Bn=>toD t::Po Bn
end
mutual
noncomputable def Ad(H:A8):T->V->List A3
 |.AM _,_=>[]
 |.lst Bn,v=>match v with
  |.ref a=>match H a with
   |some (.lst xs)=>a::HM H Bn xs
   |_=>[]
  |_=>[]
 |.Di _ Bn,v=>match v with
  |.ref a=>match H a with
   |some (.Di xs)=>a::HM H Bn (xs.map (·.2))
   |_=>[]
  |_=>[]
 |.B5 _ Bn,v=>match v with
  |.ref a=>match H a with
   |some (.B5 xs)=>a::HM H Bn (xs.map (·.2))
   |_=>[]
  |_=>[]
 |.ins _ _ Bn,v=>match v with
  |.ref a=>match H a with
   |some (.ins _ _ xs)=>a::HM H Bn (xs.map (·.2))
   |_=>[]
  |_=>[]
noncomputable def HM(H:A8):List T->List V->List A3
 |[],_=>[]
 |t::Bn,vs=>match vs with
  |v::r=>Ad H t v++HM H Bn r
  |[]=>[]
end
mutual
noncomputable def Do(K:AZ)(G H:A8):T->V->Prop
 |.AM d,v=>At K G d v
 |.lst Bn,v=>∃a xs,v=.ref a/\H a=some (.lst xs)/\DJ K G H Bn xs
 |.Di A_ Bn,v=>∃a xs,v=.ref a/\H a=some (.Di xs)/\xs.map (·.1)=A_/\DJ K G H Bn (xs.map (·.2))
 |.B5 A_ Bn,v=>∃a xs,v=.ref a/\H a=some (.B5 xs)/\xs.map (·.1)=A_/\DJ K G H Bn (xs.map (·.2))
 |.ins c ns Bn,v=>∃a Ar xs,v=.ref a/\(∃C,EW K c C/\H a=some (.ins C Ar xs))/\xs.map (·.1)=ns/\DJ K G H Bn (xs.map (·.2))
noncomputable def DJ(K:AZ)(G H:A8):List T->List V->Prop
 |[],vs=>vs=[]
 |t::Bn,vs=>∃v r,vs=v::r/\Do K G H t v/\DJ K G H Bn r
end
section
variable{K:AZ}{G G' H H' P:A8}
def Vv{a:A3}{xs:List V}{Bn:List T}(q:H a=some (.lst xs)):Ad H (.lst Bn) (.ref a)=a::HM H Bn xs:=by simp only[Ad,q]
def Vs{a:A3}{xs:List (Key×V)}{A_:List Key}{Bn:List T}(q:H a=some (.Di xs)):Ad H (.Di A_ Bn) (.ref a)=a::HM H Bn (xs.map (·.2)):=by simp only[Ad,q]
def Vt{a:A3}{xs:List (List Key×V)}{A_:List (List Key)}{Bn:List T}(q:H a=some (.B5 xs)):Ad H (.B5 A_ Bn) (.ref a)=a::HM H Bn (xs.map (·.2)):=by simp only[Ad,q]
def Vu{a C:A3}{Ar}{xs:List (Str×V)}{c:Str}{ns:List Str}{Bn:List T}(q:H a=some (.ins C Ar xs)):Ad H (.ins c ns Bn) (.ref a)=a::HM H Bn (xs.map (·.2)):=by simp only[Ad,q]
def Vr{t:T}{Bn:List T}{v:V}{r:List V}:HM H (t::Bn) (v::r)=Ad H t v++HM H Bn r:=by simp only[HM]
mutual
theorem Do.mono(B7:Sub G G'):∀{t:T}{v:V},Do K G H t v->Do K G' H t v
 |.AM _,_,h=>by simp only[Do]at h |-;exact h.mono B7
 |.lst _,_,h=>by simp only[Do]at h |-;obtain⟨a,xs,e,q,r⟩:=h;exact⟨a,xs,e,q,DJ.mono B7 r⟩
 |.Di _ _,_,h=>by simp only[Do]at h |-;obtain⟨a,xs,e,q,n,r⟩:=h;exact⟨a,xs,e,q,n,DJ.mono B7 r⟩
 |.B5 _ _,_,h=>by simp only[Do]at h |-;obtain⟨a,xs,e,q,n,r⟩:=h;exact⟨a,xs,e,q,n,DJ.mono B7 r⟩
 |.ins _ _ _,_,h=>by simp only[Do]at h |-;obtain⟨a,Ar,xs,e,q,n,r⟩:=h;exact⟨a,Ar,xs,e,q,n,DJ.mono B7 r⟩
theorem DJ.mono(B7:Sub G G'):∀{Bn:List T}{vs:List V},DJ K G H Bn vs->DJ K G' H Bn vs
 |[],_,h=>by simpa only[DJ]using h
 |_::_,_,h=>by simp only[DJ]at h |-;obtain⟨v,r,e,q,t⟩:=h;exact⟨v,r,e,Do.mono B7 q,DJ.mono B7 t⟩
end
mutual
theorem Do.keep:∀{t:T}{v:V},(∀b∈Ad H t v,H' b=H b)->Do K G H t v->Do K G H' t v/\Ad H' t v=Ad H t v
 |.AM _,_,_,h=>by simp only[Do]at h;exact⟨by simp only[Do];exact h,by simp only[Ad]⟩
 |.lst _,_,k,h=>by simp only[Do]at h;obtain⟨a,xs,rfl,q,r⟩:=h;rw[Vv q]at k;have Lh:H' a=some (.lst xs):=(k a (by simp)).trans q;obtain⟨AE,B4⟩:=DJ.keep (λb J=>k b (En _ J)) r;exact⟨by simp only[Do];exact⟨a,xs,rfl,Lh,AE⟩,by rw[Vv Lh,Vv q,B4]⟩
 |.Di _ _,_,k,h=>by simp only[Do]at h;obtain⟨a,xs,rfl,q,n,r⟩:=h;rw[Vs q]at k;have Lh:H' a=some (.Di xs):=(k a (by simp)).trans q;obtain⟨AE,B4⟩:=DJ.keep (λb J=>k b (En _ J)) r;exact⟨by simp only[Do];exact⟨a,xs,rfl,Lh,n,AE⟩,by rw[Vs Lh,Vs q,B4]⟩
 |.B5 _ _,_,k,h=>by simp only[Do]at h;obtain⟨a,xs,rfl,q,n,r⟩:=h;rw[Vt q]at k;have Lh:H' a=some (.B5 xs):=(k a (by simp)).trans q;obtain⟨AE,B4⟩:=DJ.keep (λb J=>k b (En _ J)) r;exact⟨by simp only[Do];exact⟨a,xs,rfl,Lh,n,AE⟩,by rw[Vt Lh,Vt q,B4]⟩
 |.ins _ _ _,_,k,h=>by simp only[Do]at h;obtain⟨a,Ar,xs,rfl,⟨C,BP,q⟩,n,r⟩:=h;rw[Vu q]at k;have Lh:H' a=some (.ins C Ar xs):=(k a (by simp)).trans q;obtain⟨AE,B4⟩:=DJ.keep (λb J=>k b (En _ J)) r;exact⟨by simp only[Do];exact⟨a,Ar,xs,rfl,⟨C,BP,Lh⟩,n,AE⟩,by rw[Vu Lh,Vu q,B4]⟩
theorem DJ.keep:∀{Bn:List T}{vs:List V},(∀b∈HM H Bn vs,H' b=H b)->DJ K G H Bn vs->DJ K G H' Bn vs/\HM H' Bn vs=HM H Bn vs
 |[],_,_,h=>⟨by simpa only[DJ]using h,by simp only[HM]⟩
 |_::_,_,k,h=>by simp only[DJ]at h;obtain⟨v,r,rfl,q,t⟩:=h;rw[Vr]at k;obtain⟨Aa,B0⟩:=Do.keep (λb J=>k b (Oh _ J)) q;obtain⟨t1,Hn⟩:=DJ.keep (λb J=>k b (Io _ J)) t;exact⟨by simp only[DJ];exact⟨v,r,rfl,Aa,t1⟩,by rw[Vr,Vr,B0,Hn]⟩
end
mutual
theorem Do.some:∀{t:T}{v:V},Do K G H t v->∀b∈Ad H t v,H b≠none
 |.AM _,_,_=>by intro b J;simp[Ad]at J
 |.lst _,_,h=>by
  simp only[Do]at h;obtain⟨a,xs,rfl,q,r⟩:=h;rw[Vv q];intro b J;rcases List.mem_cons.mp J with rfl|J
  .rw[q];exact λz=>nomatch z
  .exact DJ.some r b J
 |.Di _ _,_,h=>by
  simp only[Do]at h;obtain⟨a,xs,rfl,q,n,r⟩:=h;rw[Vs q];intro b J;rcases List.mem_cons.mp J with rfl|J
  .rw[q];exact λz=>nomatch z
  .exact DJ.some r b J
 |.B5 _ _,_,h=>by
  simp only[Do]at h;obtain⟨a,xs,rfl,q,n,r⟩:=h;rw[Vt q];intro b J;rcases List.mem_cons.mp J with rfl|J
  .rw[q];exact λz=>nomatch z
  .exact DJ.some r b J
 |.ins _ _ _,_,h=>by
  simp only[Do]at h;obtain⟨a,Ar,xs,rfl,⟨C,BP,q⟩,n,r⟩:=h;rw[Vu q];intro b J;rcases List.mem_cons.mp J with rfl|J
  .rw[q];exact λz=>nomatch z
  .exact DJ.some r b J
theorem DJ.some:∀{Bn:List T}{vs:List V},DJ K G H Bn vs->∀b∈HM H Bn vs,H b≠none
 |[],_,_=>by intro b J;simp[HM]at J
 |_::_,_,h=>by
  simp only[DJ]at h;obtain⟨v,r,rfl,q,t⟩:=h;rw[Vr];intro b J;rcases List.mem_append.mp J with J|J
  .exact Do.some q b J
  .exact DJ.some t b J
end
mutual
theorem Do.view(B7:Sub G P):∀{t:T}{v:V},(∀a∈Ad H t v,P a=H a)->Do K G H t v->At K P (toD t) v
 |.AM _,_,_,h=>by simp only[Do,toD]at h |-;exact h.mono B7
 |.lst _,_,k,h=>by simp only[Do]at h;obtain⟨a,xs,rfl,q,r⟩:=h;rw[Vv q]at k;simp only[toD,At];exact⟨a,xs,rfl,by rw[k a (by simp)];exact q,DJ.view B7 (λb J=>k b (En _ J)) r⟩
 |.Di _ _,_,k,h=>by simp only[Do]at h;obtain⟨a,xs,rfl,q,n,r⟩:=h;rw[Vs q]at k;simp only[toD,At];exact⟨a,xs,rfl,by rw[k a (by simp)];exact q,n,DJ.view B7 (λb J=>k b (En _ J)) r⟩
 |.B5 _ _,_,k,h=>by simp only[Do]at h;obtain⟨a,xs,rfl,q,n,r⟩:=h;rw[Vt q]at k;simp only[toD,At];exact⟨a,xs,rfl,by rw[k a (by simp)];exact q,n,DJ.view B7 (λb J=>k b (En _ J)) r⟩
 |.ins _ _ _,_,k,h=>by simp only[Do]at h;obtain⟨a,Ar,xs,rfl,⟨C,BP,q⟩,n,r⟩:=h;rw[Vu q]at k;simp only[toD,At];exact⟨a,Ar,xs,rfl,⟨C,BP,by rw[k a (by simp)];exact q⟩,n,DJ.view B7 (λb J=>k b (En _ J)) r⟩
theorem DJ.view(B7:Sub G P):∀{Bn:List T}{vs:List V},(∀a∈HM H Bn vs,P a=H a)->DJ K G H Bn vs->Ac K P (Po Bn) vs
 |[],_,_,h=>by simp only[DJ,Po,Ac]at h |-;exact h
 |_::_,_,k,h=>by simp only[DJ]at h;obtain⟨v,r,rfl,q,t⟩:=h;rw[Vr]at k;simp only[Po,Ac];exact⟨v,r,rfl,Do.view B7 (λb J=>k b (Oh _ J)) q,DJ.view B7 (λb J=>k b (Io _ J)) t⟩
end
end
inductive Ls where
 |lst (ds:List D)|B5 (A_:List (List Key)) (ds:List D)|ins (c:Str) (ns:List Str) (ds:List D)
noncomputable def O9(K:AZ)(G:A8):Ls->Dl->Prop
 |.lst ds,AN=>∃xs,AN=.lst xs/\Ac K G ds xs
 |.B5 A_ ds,AN=>∃xs,AN=.B5 xs/\xs.map (·.1)=A_/\Ac K G ds (xs.map (·.2))
 |.ins c ns ds,AN=>∃C Ar xs,EW K c C/\AN=.ins C Ar xs/\xs.map (·.1)=ns/\Ac K G ds (xs.map (·.2))
theorem O9.mono{K:AZ}{G H:A8}(s:Sub G H):∀{o:Ls}{AN:Dl},O9 K G o AN->O9 K H o AN
 |.lst _,_,⟨xs,e,q⟩=>⟨xs,e,q.mono s⟩
 |.B5 _ _,_,⟨xs,e,k,q⟩=>⟨xs,e,k,q.mono s⟩
 |.ins _ _ _,_,⟨C,Ar,xs,c,e,k,q⟩=>⟨C,Ar,xs,c,e,k,q.mono s⟩
def O0:Ls->D
 |.lst ds=>.lst ds
 |.B5 A_ ds=>.B5 A_ ds
 |.ins c ns ds=>.ins c ns ds
def O9.at{K:AZ}{G:A8}{o:Ls}{AN:Dl}{a:A3}(h:O9 K G o AN)(e:G a=some AN):At K G (O0 o) (.ref a):=by
 cases o with
 |lst ds=>obtain⟨xs,rfl,q⟩:=h;simp only[O0,At];exact⟨a,xs,rfl,e,q⟩
 |B5 A_ ds=>obtain⟨xs,rfl,k,q⟩:=h;simp only[O0,At];exact⟨a,xs,rfl,e,k,q⟩
 |ins c ns ds=>obtain⟨C,Ar,xs,BP,rfl,k,q⟩:=h;simp only[O0,At];exact⟨a,Ar,xs,rfl,⟨C,BP,e⟩,k,q⟩
inductive DG where
 |un|AM (d:D)|Aj (o:Ls)|Fq (t:T)
abbrev DG.DV(ds:List D):DG:=.Aj (.lst ds)
abbrev AH:=List DG
structure BK where
 K:AZ
 G0:A8
 H0:A8
 Hx:Str->A8->Prop
structure Eg(F:BK)(G H:A8):Prop where
 sub:Sub G H
 FP:Sub F.G0 G
 BN:Sub F.H0 H
 new:∀b,F.H0 b≠none->G b=F.G0 b
structure YJ(F:BK)(G H:A8)(t:T)(v:V):Prop where
 at_:Do F.K G H t v
 B6:(Ad H t v).Nodup
 own:∀b∈Ad H t v,G b=none/\F.H0 b=none
noncomputable def NB(F:BK)(G H:A8)(o:Option V):DG->Prop
 |.un=>True
 |.AM d=>∃v,o=some v/\At F.K G d v
 |.Aj Aj=>∃a AN,o=some (.ref a)/\H a=some AN/\G a=none/\F.H0 a=none/\O9 F.K G Aj AN
 |.Fq t=>∃v,o=some v/\YJ F G H t v
def GQ(H:A8):DG->Option V->A3->Prop
 |.un,_,_=>False
 |.AM _,_,_=>False
 |.Aj _,o,a=>o=some (.ref a)
 |.Fq t,o,a=>∃v,o=some v/\a∈Ad H t v
structure Rel(F:BK)(G H:A8)(σ :St)(ρ:AH):Prop where
 AV:Eg F G H
 len: σ.length=ρ.length
 CJ:∀(i:Nat)(s:DG),ρ[i]?=some s->∃o,σ[i]?=some o/\NB F G H o s
 RI:∀(i j:Nat)(a:A3)(s s':DG)(o BS:Option V),ρ[i]?=some s->ρ[j]?=some s'-> σ[i]?=some o-> σ[j]?=some BS->GQ H s o a->GQ H s' BS a->i=j
def Da(H:A8)(σ :St)(ρ:AH)(a:A3):Prop:=∃(i:Nat)(s:DG)(o:Option V),ρ[i]?=some s/\ σ[i]?=some o/\GQ H s o a
def rR{α:Type}{l:List α}{i:Nat}{x:α}(e:l[i]?=some x):l.set i x=l:=by
 apply List.ext_getElem?;intro j;rw[List.getElem?_set];by_cases h:i=j
 .subst h;rw[if_pos rfl,if_pos (List.getElem?_eq_some_iff.mp e).1];exact e.symm
 .simp[h]
section
variable{F:BK}{G G' H H':A8}{σ :St}{ρ:AH}
theorem Da.Aj{a:A3}{i:Nat}{o:Ls}(AD:ρ[i]?=some (.Aj o))(AR: σ[i]?=some (some (.ref a))):Da H σ ρ a:=⟨i,_,_,AD,AR,rfl⟩
theorem NB.keep{o:Option V}{s:DG}(h:NB F G H o s)(B7:Sub G G')(k:∀a,GQ H s o a->H' a=H a/\G' a=none):NB F G' H' o s/\(∀a,GQ H' s o a->GQ H s o a):=by
 cases s with
 |un=>exact⟨trivial,λ_ z=>z⟩
 |AM d=>obtain⟨v,AR,a⟩:=h;exact⟨⟨v,AR,a.mono B7⟩,λ_ z=>z⟩
 |Aj ds=>obtain⟨a,xs,AR,h1,h2,h3,h4⟩:=h;exact⟨⟨a,xs,AR,by rw[(k a AR).1];exact h1,(k a AR).2,h3,h4.mono B7⟩,λ_ z=>z⟩
 |Fq t=>
  obtain⟨v,AR,Aa,B0,E1⟩:=h;obtain⟨Fs,Eu⟩:=Aa.keep λb J=>(k b ⟨v,AR,J⟩).1;refine⟨⟨v,AR,⟨Fs.mono B7,by rw[Eu];exact B0,λb J=>?_⟩⟩,λa z=>?_⟩
  .rw[Eu]at J;exact⟨(k b ⟨v,AR,J⟩).2,(E1 b J).2⟩
  .obtain⟨u,C2,J⟩:=z;rw[AR]at C2;cases C2;rw[Eu]at J;exact⟨v,AR,J⟩
def NB.foot{o:Option V}{s:DG}(h:NB F G H o s){a:A3}(f:GQ H s o a):H a≠none/\G a=none/\F.H0 a=none:=by
 cases s with
 |un=>cases f
 |AM d=>cases f
 |Aj ds=>obtain⟨b,xs,AR,h1,h2,h3,h4⟩:=h;have f:o=some (.ref a):=f;rw[AR]at f;cases f;exact⟨by rw[h1];exact(λz=>nomatch z),h2,h3⟩
 |Fq t=>obtain⟨v,AR,Aa,B0,E1⟩:=h;obtain⟨u,C2,J⟩:=f;rw[AR]at C2;cases C2;exact⟨Aa.some a J,E1 a J⟩
theorem Rel.foot(r:Rel F G H σ ρ){a:A3}(h:Da H σ ρ a):H a≠none/\G a=none/\F.H0 a=none:=by obtain⟨i,s,o,AD,AR,f⟩:=h;obtain⟨BS,C2,q⟩:=r.CJ i s AD;rw[AR]at C2;cases C2;exact q.foot f
def Rel.over{F':BK}(r:Rel F G H σ ρ)(Ag:F'.K=F.K)(AV:Eg F' G' H')(B7:Sub G G')(k:∀a,Da H σ ρ a->H' a=H a/\G' a=none/\F'.H0 a=none):Rel F' G' H' σ ρ:=by
 have one:∀(i:Nat)(s:DG),ρ[i]?=some s->∃o,σ[i]?=some o/\NB F' G' H' o s/\(∀a,GQ H' s o a->GQ H s o a):=λi s e=>by
  obtain⟨o,AD,q⟩:=r.CJ i s e;obtain⟨Aa,B0⟩:=q.keep B7 λa f=>⟨(k a ⟨i,s,o,e,AD,f⟩).1,(k a ⟨i,s,o,e,AD,f⟩).2.1⟩;refine⟨o,AD,?_,B0⟩;cases s with
  |un=>trivial
  |AM d=>obtain⟨v,AR,a⟩:=Aa;exact⟨v,AR,by rw[Ag];exact a⟩
  |Aj ds=>obtain⟨a,xs,AR,h1,h2,h3,h4⟩:=Aa;exact⟨a,xs,AR,h1,h2,(k a ⟨i,_,o,e,AD,AR⟩).2.2,by rw[Ag];exact h4⟩
  |Fq t=>obtain⟨v,AR,Fs,Eu,N2⟩:=Aa;exact⟨v,AR,by rw[Ag];exact Fs,Eu,λb J=>⟨(N2 b J).1,(k b ⟨i,_,o,e,AD,B0 b ⟨v,AR,J⟩⟩).2.2⟩⟩
 refine⟨AV,r.len,λi s e=>let⟨o,AD,q,_⟩:=one i s e;⟨o,AD,q⟩,λi j a s s' o BS AD AR C2 E7 f1 f2=>?_⟩;obtain⟨u,Dv,_,Co⟩:=one i s AD;rw[C2]at Dv;cases Dv;obtain⟨u,Ji,_,OM⟩:=one j s' AR;rw[E7]at Ji;cases Ji;exact r.RI i j a s s' o BS AD AR C2 E7 (Co a f1) (OM a f2)
def Rel.grow(r:Rel F G H σ ρ)(B7:Sub G G')(aeF:Sub G' H')(BN:Sub H H')(nw:∀b,H b≠none->G' b=G b):Rel F G' H' σ ρ:=by
 refine r.over rfl ⟨aeF,r.AV.FP.trans B7,r.AV.BN.trans BN,λb J=>?_⟩ B7 λa A1=>?_
 .rw[nw b (r.AV.BN.some J)];exact r.AV.new b J
 .obtain⟨h1,h2,h3⟩:=r.foot A1;refine⟨?_,(nw a h1).trans h2,h3⟩;cases e:H a with
  |none=>exact absurd e h1
  |some o=>exact BN a o e
def Rel.lay(r:Rel F G H σ ρ){p:A3}{o:Dl}(Am:H p=none):Rel F (upd G p o) (upd H p o) σ ρ:=by have xE:G p=none:=r.AV.sub.gone Am;refine r.grow (Sub.upd xE) (Sub.both r.AV.sub) (Sub.upd Am) λb J=>?_;rw[Df];intro e;subst e;exact J Am
def Rel.lay0(r:Rel F G H σ ρ){p:A3}{o:Dl}(Am:H p=none):Rel F G (upd H p o) σ ρ:=
 r.grow (Sub.refl _) (Sub.bG r.AV.sub (r.AV.sub.gone Am)) (Sub.upd Am) λ_ _=>rfl
def Rel.take(r:Rel F G H σ ρ){p:A3}{o:Dl}(Am:H p=some o)(AW:G p=none)(h0:F.H0 p=none)(no:¬Da H σ ρ p):Rel F (upd G p o) H σ ρ:=by
 refine r.over rfl ⟨Sub.at r.AV.sub Am,r.AV.FP.trans (Sub.upd AW),r.AV.BN,λb J=>?_⟩ (Sub.upd AW) λa A1=>?_
 .rw[Df]
  .exact r.AV.new b J
  .intro e;subst e;exact J h0
 .obtain⟨h1,h2,h3⟩:=r.foot A1;exact⟨rfl,by rw[Df (λz=>no (by rw[<-z];exact A1))];exact h2,h3⟩
theorem Rel.AM(r:Rel F G H σ ρ){i:Nat}{d:D}(e:ρ[i]?=some (.AM d)):∃v,σ[i]?=some (some v)/\At F.K G d v:=by obtain⟨o,AD,v,rfl,a⟩:=r.CJ i _ e;exact⟨v,AD,a⟩
def Rel.obj(r:Rel F G H σ ρ){i:Nat}{o:Ls}(e:ρ[i]?=some (.Aj o)):∃a AN,σ[i]?=some (some (.ref a))/\H a=some AN/\G a=none/\F.H0 a=none/\O9 F.K G o AN:=by obtain⟨v,AD,a,AN,rfl,h1,h2,h3,h4⟩:=r.CJ i _ e;exact⟨a,AN,AD,h1,h2,h3,h4⟩
def Rel.own{G H:A8}{σ :St}{ρ:AH}(r:Rel F G H σ ρ){i:Nat}{ds:List D}(e:ρ[i]?=some (.DV ds)):∃a xs,σ[i]?=some (some (.ref a))/\H a=some (.lst xs)/\G a=none/\F.H0 a=none/\Ac F.K G ds xs:=by obtain⟨a,AN,AD,h1,h2,h3,xs,rfl,h4⟩:=r.obj e;exact⟨a,xs,AD,h1,h2,h3,h4⟩
def get_set{α:Type}{l:List α}{i j:Nat}{x y:α}(e:(l.set i x)[j]?=some y):(i=j/\y=x)\/(i≠j/\l[j]?=some y):=by
 rw[List.getElem?_set]at e;by_cases h:i=j
 .rw[if_pos h]at e
  split at e
  .cases e;exact .inl ⟨h,rfl⟩
  .cases e
 .rw[if_neg h]at e;exact .inr ⟨h,e⟩
def Rel.ba(r:Rel F G H σ ρ){i:Nat}{s:DG}{o:Option V}(AC:i<ρ.length)(q:NB F G H o s)(no:∀a,GQ H s o a->∀(j:Nat)(s':DG)(BS:Option V),j≠i->ρ[j]?=some s'-> σ[j]?=some BS->¬GQ H s' BS a):Rel F G H (σ.set i o) (ρ.set i s):=by
 have hs:i< σ.length:=by rw[r.len];exact AC
 refine⟨r.AV,by simp[r.len],λj s e=>?_,λj k b s1 s2 CY CN AD AR C2 E7 f1 f2=>?_⟩
 .rcases get_set e with⟨rfl,rfl⟩|⟨ne,e⟩
  .exact⟨o,by simp[hs],q⟩
  .rw[Rq ne];exact r.CJ j s e
 .rcases get_set AD with⟨BG,Dv⟩|⟨DD,FS⟩
  .subst BG Dv;rw[XT hs]at C2;cases C2;rcases get_set AR with⟨BH,Co⟩|⟨Ch,GC⟩
   .exact BH
   .rw[Rq Ch]at E7;exact absurd f2 (no b f1 k s2 CN (Ld Ch) GC E7)
  .rw[Rq DD]at C2;rcases get_set AR with⟨BH,Co⟩|⟨Ch,GC⟩
   .subst BH Co;rw[XT hs]at E7;cases E7;exact absurd f1 (no b f2 j s1 CY (Ld DD) FS C2)
   .rw[Rq Ch]at E7;exact r.RI j k b s1 s2 CY CN FS GC C2 E7 f1 f2
theorem Rel.set(r:Rel F G H σ ρ){i:Nat}{d:D}{v:V}(AC:i<ρ.length)(a:At F.K G d v):Rel F G H (σ.set i (some v)) (ρ.set i (.AM d)):=
 r.ba AC ⟨v,rfl,a⟩ λ_ f=>f.elim
def Rel.setB(r:Rel F G H σ ρ){i:Nat}{Aj:Ls}{a:A3}{AN:Dl}(AC:i<ρ.length)(A1:H a=some AN)(AW:G a=none)(h0:F.H0 a=none)(q:O9 F.K G Aj AN)(no:∀(j:Nat)(s:DG)(o:Option V),j≠i->ρ[j]?=some s-> σ[j]?=some o->¬GQ H s o a):Rel F G H (σ.set i (some (.ref a))) (ρ.set i (.Aj Aj)):=
 r.ba AC ⟨a,AN,rfl,A1,AW,h0,q⟩ λb f=>by have f:some (V.ref a)=some (.ref b):=f;cases f;exact no
def Rel.aeB(r:Rel F G H σ ρ){i:Nat}{ds:List D}{a:A3}{xs:List V}(AC:i<ρ.length)(A1:H a=some (.lst xs))(AW:G a=none)(h0:F.H0 a=none)(q:Ac F.K G ds xs)(no:∀(j:Nat)(s:DG)(o:Option V),j≠i->ρ[j]?=some s-> σ[j]?=some o->¬GQ H s o a):Rel F G H (σ.set i (some (.ref a))) (ρ.set i (.DV ds)):=r.setB AC A1 AW h0 ⟨xs,rfl,q⟩ no
def Rel.aaa(r:Rel F G H σ ρ){i:Nat}{s s':DG}{o:Option V}{a:A3}{AN:Dl}(e:ρ[i]?=some s)(Ai: σ[i]?=some o)(G5:GQ H s o a)(q:NB F G (upd H a AN) o s')(f:∀b,GQ (upd H a AN) s' o b->GQ H s o b\/¬Da H σ ρ b) :
  Rel F G (upd H a AN) σ (ρ.set i s'):=by
 have AC:i<ρ.length:=(List.getElem?_eq_some_iff.mp e).1;obtain⟨h1,h2,h3⟩:=r.foot ⟨i,s,o,e,Ai,G5⟩;have Ze:∀(j:Nat)(t:DG),i≠j->ρ[j]?=some t->∃u,σ[j]?=some u/\NB F G (upd H a AN) u t/\(∀b,GQ (upd H a AN) t u b->GQ H t u b):=λj t ne z=>by obtain⟨u,Dv,Co⟩:=r.CJ j t z;have na:¬GQ H t u a:=λw=>ne (r.RI i j a s t o u e z Ai Dv G5 w);obtain⟨Aa,B0⟩:=Co.keep (H':=upd H a AN) (Sub.refl G) λb Vq=>⟨Df λw=>na (w▸Vq),(Co.foot Vq).2.1⟩;exact⟨u,Dv,Aa,B0⟩
 refine⟨⟨Sub.bG r.AV.sub h2,r.AV.FP,λc u z=>?_,r.AV.new⟩,by simp[r.len],λj t z=>?_,λj k c s1 s2 CY CN C2 E7 F2 Hb f1 f2=>?_⟩
 .rw[Df (Jb z h3)];exact r.AV.BN c u z
 .rcases get_set z with⟨rfl,rfl⟩|⟨ne,z⟩
  .exact⟨o,Ai,q⟩
  .obtain⟨u,Dv,Co,_⟩:=Ze j t ne z;exact⟨u,Dv,Co⟩
 .rcases get_set C2 with⟨BG,Dv⟩|⟨DD,OJ⟩
  .subst BG Dv;rw[Ai]at F2;cases F2;rcases get_set E7 with⟨BH,Co⟩|⟨Ch,LS⟩
   .exact BH
   .obtain⟨u,FS,_,GC⟩:=Ze k s2 Ch LS;rw[Hb]at FS;cases FS;have g2:=GC c f2;rcases f c f1 with g1|g1
    .exact r.RI i k c s s2 o CN e LS Ai Hb g1 g2
    .exact absurd ⟨k,s2,CN,LS,Hb,g2⟩ g1
  .obtain⟨u,FS,_,GC⟩:=Ze j s1 DD OJ;rw[F2]at FS;cases FS;have g1:=GC c f1;rcases get_set E7 with⟨BH,Co⟩|⟨Ch,LS⟩
   .subst BH Co;rw[Ai]at Hb;cases Hb;rcases f c f2 with g2|g2
    .exact r.RI j i c s1 s CY o OJ e F2 Ai g1 g2
    .exact absurd ⟨j,s1,CY,OJ,F2,g1⟩ g2
   .obtain⟨u,I2,_,Hr⟩:=Ze k s2 Ch LS;rw[Hb]at I2;cases I2;exact r.RI j k c s1 s2 CY CN OJ LS F2 Hb g1 (Hr c f2)
def Rel.fE(r:Rel F G H σ ρ){i:Nat}{o BS:Ls}{a:A3}{AN:Dl}(e:ρ[i]?=some (.Aj o))(Ai: σ[i]?=some (some (.ref a)))(q:O9 F.K G BS AN) :
  Rel F G (upd H a AN) σ (ρ.set i (.Aj BS)):=by
 obtain⟨b,aiI,AD,h1,h2,h3,h4⟩:=r.obj e;rw[Ai]at AD;have BC:b=a:=by cases AD;rfl
 subst BC;exact r.aaa e Ai rfl ⟨b,AN,rfl,Du,h2,h3,q⟩ λc f=>.inl f
def Rel.mut(r:Rel F G H σ ρ){i:Nat}{ds RK:List D}{a:A3}{ys:List V}(e:ρ[i]?=some (.DV ds))(Ai: σ[i]?=some (some (.ref a)))(q:Ac F.K G RK ys) :
  Rel F G (upd H a (.lst ys)) σ (ρ.set i (.DV RK)):=r.fE e Ai ⟨ys,rfl,q⟩
def Rel.K9(r:Rel F G H σ ρ){i:Nat}{o:Ls}(e:ρ[i]?=some (.Aj o)):∃G',Rel F G' H σ (ρ.set i (.AM (O0 o)))/\Sub G G':=by
 have AC:i<ρ.length:=(List.getElem?_eq_some_iff.mp e).1;obtain⟨a,AN,AD,h1,h2,h3,h4⟩:=r.obj e;have un:Rel F G H σ (ρ.set i .un):=by have z:=r.ba (s:=.un) (o:=some (.ref a)) AC trivial λ_ f=>f.elim;rw[CP.rR AD]at z;exact z
 have no:¬Da H σ (ρ.set i .un) a:=λ⟨j,s,u,FS,GC,I2⟩=>by
  rcases get_set FS with⟨_,z⟩|⟨ne,FS⟩
  .subst z;exact I2
  .exact ne (r.RI i j a _ s _ u e FS AD GC rfl I2)
 have B4:=un.take h1 h2 h3 no;have E2:=B4.ba (i:=i) (s:=.AM (O0 o)) (o:=some (.ref a)) (by simpa using AC) ⟨.ref a,rfl,(h4.mono (Sub.upd h2)).at Du⟩ λ_ f=>f.elim;rw[CP.rR AD,List.set_set]at E2;exact⟨upd G a AN,E2,Sub.upd h2⟩
end
abbrev AX:=AH->R D
abbrev C9:=AH->R Bool
abbrev Al:=AH->R (List D)
inductive HH where
 |Bb (ρ:AH)|Ed (d:D)|Ij (ds:List D)|G4 (ρ:AH)|Cn (ρ:AH)|Ec (t:T)
abbrev Ay:=AH->R HH
def JW(F:BK)(c:Str):Prop:=∀G' H',Eg F G' H'->F.Hx c H'
def Ib(F:BK)(G H:A8)(σ :St)(ρ:AH)(Q:C_):R D->Prop
 |.ok d=>∀v H' G',Rel F G' H' σ ρ->Bl G H G' H'->At F.K G' d v->Q v H'
 |.exc c=>JW F c
 |.bad=>False
def T_(F:BK)(G H:A8)(σ :St)(ρ:AH)(Q:Bool->A8->Prop):R Bool->Prop
 |.ok b=>∀H' G',Rel F G' H' σ ρ->Bl G H G' H'->Q b H'
 |.exc c=>JW F c
 |.bad=>False
def zm(F:BK)(G H:A8)(σ :St)(ρ:AH)(Q:List V->A8->Prop):R (List D)->Prop
 |.ok ds=>∀vs H' G',Rel F G' H' σ ρ->Bl G H G' H'->Ac F.K G' ds vs->Q vs H'
 |.exc c=>JW F c
 |.bad=>False
noncomputable def zt(F:BK)(G H:A8)(σ :St)(ρ:AH)(Q:C_):R (List D)->Prop
 |.ok ds=>∀a xs H' G',Rel F G' H' σ ρ->Bl G H G' H'->H a=none->H' a=some (.lst xs)->G' a=none->Ac F.K G' ds xs->Q (.ref a) H'
 |.exc c=>JW F c
 |.bad=>False
noncomputable def He(F:BK)(G:A8)(CZ:Ends):R HH->Prop
 |.ok (.Bb BZ)=>∀ σ' G' H',Rel F G' H' σ' BZ->Sub G G'->CZ.Bb σ' H'
 |.ok (.G4 BZ)=>∀ σ' G' H',Rel F G' H' σ' BZ->Sub G G'->CZ.G4 σ' H'
 |.ok (.Cn BZ)=>∀ σ' G' H',Rel F G' H' σ' BZ->Sub G G'->CZ.Cn σ' H'
 |.ok (.Ed d)=>∀v G' H',Eg F G' H'->At F.K G' d v->CZ.Ed v H'
 |.ok (.Ij ds)=>∀a xs G' H',Eg F G' H'->G' a=none->F.H0 a=none->H' a=some (.lst xs)->Ac F.K G' ds xs->CZ.Ed (.ref a) H'
 |.ok (.Ec t)=>∀v G' H',Eg F G' H'->YJ F G' H' t v->CZ.Ed v H'
 |.exc c=>JW F c
 |.bad=>False
def Ca(F:BK)(m:AX):TE:=λσ H Q=>∃G ρ,Rel F G H σ ρ/\Ib F G H σ ρ Q (m ρ)
def GL(F:BK)(m:C9):TT:=λσ H Q=>∃G ρ,Rel F G H σ ρ/\T_ F G H σ ρ Q (m ρ)
def EM(F:BK)(m:Al):EX:=λσ H Q=>∃G ρ,Rel F G H σ ρ/\zm F G H σ ρ Q (m ρ)
def Je(F:BK)(m:Al):TE:=λσ H Q=>∃G ρ,Rel F G H σ ρ/\zt F G H σ ρ Q (m ρ)
def Fd(F:BK)(m:Ay):Ew:=λCZ σ H=>∃G ρ,Rel F G H σ ρ/\He F G CZ (m ρ)
section
variable{F:BK}{G Ae H H1:A8}{σ :St}{ρ:AH}
def Ib.mono{Q:C_}(s:Bl G H Ae H1):∀{r:R D},Ib F G H σ ρ Q r->Ib F Ae H1 σ ρ Q r
 |.ok _,h=>λv H' G' r B7 a=>h v H' G' r (s.trans B7) a
 |.exc _,h=>h
 |.bad,h=>h
def T_.mono{Q:Bool->A8->Prop}(s:Bl G H Ae H1):∀{r:R Bool},T_ F G H σ ρ Q r->T_ F Ae H1 σ ρ Q r
 |.ok _,h=>λH' G' r B7=>h H' G' r (s.trans B7)
 |.exc _,h=>h
 |.bad,h=>h
def He.mono{CZ:Ends}(s:Sub G Ae):∀{r:R HH},He F G CZ r->He F Ae CZ r
 |.ok (.Bb _),h=>λσ' G' H' r B7=>h σ' G' H' r (s.trans B7)
 |.ok (.G4 _),h=>λσ' G' H' r B7=>h σ' G' H' r (s.trans B7)
 |.ok (.Cn _),h=>λσ' G' H' r B7=>h σ' G' H' r (s.trans B7)
 |.ok (.Ed _),h=>h
 |.ok (.Ij _),h=>h
 |.ok (.Ec _),h=>h
 |.exc _,h=>h
 |.bad,h=>h
end
abbrev El(t' t:TE):Prop:=∀ σ H Q,t' σ H Q->t σ H Q
abbrev O4(t' t:TT):Prop:=∀ σ H Q,t' σ H Q->t σ H Q
abbrev Sr(t' t:EX):Prop:=∀ σ H Q,t' σ H Q->t σ H Q
abbrev I5(t' t:Ew):Prop:=∀CZ σ H,t' CZ σ H->t CZ σ H
def Z(i:Nat):AX:=λρ=>match ρ[i]? with
 |some (.AM d)=>.ok d
 |_=>.bad
def A7(d:D):AX:=λ_=>.ok d
section
variable{F:BK}
def yP(i:Nat):El (Ca F (Z i)) (hh i):=by
 rintro σ H Q ⟨G,ρ,r,h⟩;unfold Z at h;cases e:ρ[i]? with
 |none=>rw[e]at h;cases h
 |some s=>
  rw[e]at h;cases s with
  |un=>cases h
  |Aj _=>cases h
  |Fq _=>cases h
  |AM d=>obtain⟨v,AD,a⟩:=r.AM e;exact⟨v,AD,h v H G r (Bl.refl _ _) a⟩
def V_{d:D}{v:V}(a:∀G,At F.K G d v):El (Ca F (A7 d)) (Qb v):=by rintro σ H Q ⟨G,ρ,r,h⟩;exact h v H G r (Bl.refl _ _) (a G)
def A9(f:D->D->R D)(a b:AX):AX:=λρ=>(a ρ).bind λx=>(b ρ).bind λy=>f x y
def G3(F:BK)(r:EI)(f:D->D->R D):Prop:=∀ σ ρ G H x y Ar FG Q,Rel F G H σ ρ->At F.K G Ar x->At F.K G FG y->Ib F G H σ ρ Q (f Ar FG)->r x y H Q
def V2{r:EI}{f:D->D->R D}{ma Gl:AX}(AN:G3 F r f):El (Ca F (A9 f ma Gl)) (U0 r (Ca F ma) (Ca F Gl)):=by rintro σ H Q ⟨G,ρ,r,h⟩;unfold A9 at h;refine⟨G,ρ,r,?_⟩;refine rb h λAr Ai h x H1 Ae AE s1 B_=>?_;refine⟨Ae,ρ,AE,?_⟩;refine rb h λFG BC h y Aw Cw B4 s2 C1=>?_;exact AN σ ρ Cw Aw x y Ar FG Q B4 (B_.mono s2.g) C1 (h.mono (s1.trans s2))
def D4(f:D->R D)(a:AX):AX:=λρ=>(a ρ).bind f
def AB:Al:=λ_=>.ok []
def A0(a:AX)(r:Al):Al:=λρ=>(a ρ).bind λx=>(r ρ).bind λxs=>.ok (x::xs)
def nj:Sr (EM F AB) b3:=by rintro σ H Q ⟨G,ρ,r,h⟩;exact h [] H G r (Bl.refl _ _) .nil
def xL{ma:AX}{TP:Al}:Sr (EM F (A0 ma TP)) (hA (Ca F ma) (EM F TP)):=by rintro σ H Q ⟨G,ρ,r,h⟩;unfold A0 at h;refine⟨G,ρ,r,?_⟩;refine rb h λAr Ai h x H1 Ae AE s1 B_=>?_;refine⟨Ae,ρ,AE,?_⟩;refine rb h λFG BC h y Aw Cw B4 s2 C1=>?_;exact h (x::y) Aw Cw B4 (s1.trans s2) (.cons (B_.mono s2.g) C1)
def Db(m:Al):AX:=λρ=>(m ρ).bind λxs=>if xs.length<=1000000 then .ok (.tup xs)else .bad
def yM{m:Al}:El (Ca F (Db m)) (hG (EM F m)):=by
 rintro σ H Q ⟨G,ρ,r,h⟩;unfold Db at h;refine⟨G,ρ,r,?_⟩;refine rb h λds Ai h vs H1 Ae AE s1 a=>?_;by_cases AF:ds.length<=1000000
 .rw[if_pos AF]at h;refine⟨by rw[<-a.length];exact EB AF (by decide),λp Am=>?_⟩;refine h (.ref p) _ _ (AE.lay Am) (s1.trans (Bl.lay AE.AV.sub Am)) ?_;simp only[At];exact⟨p,vs,rfl,Du,a.mono (Sub.upd (AE.AV.sub.gone Am))⟩
 .rw[if_neg AF]at h;cases h
def Da.back{G H H':A8}{σ :St}{ρ:AH}(r:Rel F G H σ ρ)(s:Sub H H'){a:A3}(h:Da H' σ ρ a):Da H σ ρ a:=by
 obtain⟨i,CJ,o,AD,AR,f⟩:=h;refine⟨i,CJ,o,AD,AR,?_⟩;obtain⟨BS,C2,q⟩:=r.CJ i CJ AD;rw[AR]at C2;cases C2;exact(q.keep (G':=G) (H':=H') (Sub.refl _) λb Vq=>⟨by
  cases e:H b with
  |none=>exact absurd e (q.foot Vq).1
  |some u=>exact s b u e,(q.foot Vq).2.1⟩).2 a f
def Da.fresh{G H H':A8}{σ :St}{ρ:AH}(r:Rel F G H σ ρ)(s:Sub H H'){a:A3}(n:H a=none):¬Da H' σ ρ a:=λh=>(r.foot (h.back r s)).1 n
def lim(xs:List D):R (List D):=if xs.length<=1000000 then .ok xs else .bad
def E0(m:Al):Al:=λρ=>(m ρ).bind lim
def yp{m:Al}:El (Je F (E0 m)) (qZ (EM F m)):=by
 rintro σ H Q ⟨G,ρ,r,h⟩;unfold E0 lim at h;refine⟨G,ρ,r,?_⟩;refine rb h λds Ai h vs H1 Ae AE s1 a=>?_;by_cases AF:ds.length<=1000000
 .rw[if_pos AF]at h;refine⟨by rw[<-a.length];exact EB AF (by decide),λp Am=>?_⟩;exact h p vs _ Ae (AE.lay0 Am) (s1.trans (Bl.lay0 Am)) (s1.h.gone Am) Du (AE.AV.sub.gone Am) a
 .rw[if_neg AF]at h;cases h
def C6(m:Al):AX:=λρ=>(m ρ).bind λxs=>.ok (.lst xs)
def yi{m:Al}:El (Ca F (C6 m)) (Je F m):=by rintro σ H Q ⟨G,ρ,r,h⟩;unfold C6 at h;refine⟨G,ρ,r,?_⟩;refine rb h λds Ai h a xs H' G' BM s' AU A1 AW q=>?_;refine h (.ref a) H' _ (BM.take A1 AW (r.AV.BN.gone AU) (Da.fresh r s'.h AU)) (s'.put AU AW) ?_;simp only[At];exact⟨a,xs,rfl,Du,q.mono (Sub.upd AW)⟩
def K2:D->R Bool
 |.AI b=>.ok b
 |_=>.bad
def B2(m:AX):C9:=λρ=>(m ρ).bind K2
def dr{m:AX}:O4 (GL F (B2 m)) (gy (Ca F m)):=by
 rintro σ H Q ⟨G,ρ,r,h⟩;unfold B2 at h;refine⟨G,ρ,r,?_⟩;refine rb h λd Ai h x H1 Ae AE s1 B_=>?_
 cases d<;>first
  |(cases h)
  |(simp only[At]at B_;exact⟨_,B_,h H1 Ae AE s1⟩)
def nf{m:AX}:O4 (GL F (B2 m)) (hF (Ca F m)):=dr
def LF(a b:C9):C9:=λρ=>(a ρ).bind λc=>if c=true then b ρ else .ok false
def EL(a b:C9):C9:=λρ=>(a ρ).bind λc=>if c=true then .ok true else b ρ
def Cq(a:C9):C9:=λρ=>(a ρ).bind λc=>.ok (!c)
def xi{a b:C9}:O4 (GL F (LF a b)) (r0 (GL F a) (GL F b)):=by
 rintro σ H Q ⟨G,ρ,r,h⟩;unfold LF at h;refine⟨G,ρ,r,?_⟩;refine rb h λc Ai h H1 Ae AE s1=>?_;cases c with
 |true=>exact⟨Ae,ρ,AE,T_.mono s1 h⟩
 |false=>exact h H1 Ae AE s1
def yy{a b:C9}:O4 (GL F (EL a b)) (qc (GL F a) (GL F b)):=by
 rintro σ H Q ⟨G,ρ,r,h⟩;unfold EL at h;refine⟨G,ρ,r,?_⟩;refine rb h λc Ai h H1 Ae AE s1=>?_;cases c with
 |true=>exact h H1 Ae AE s1
 |false=>exact⟨Ae,ρ,AE,T_.mono s1 h⟩
def yw{a:C9}:O4 (GL F (Cq a)) (qa (GL F a)):=by
 rintro σ H Q ⟨G,ρ,r,h⟩;unfold Cq at h;refine⟨G,ρ,r,?_⟩;cases Ai:a ρ with
 |bad=>rw[Ai]at h;cases h
 |exc c=>rw[Ai]at h;exact h
 |ok c=>rw[Ai,R.E_]at h;exact h
def JY(a b:AX):AX:=λρ=>(a ρ).bind λx=>(K2 x).bind λc=>if c=true then b ρ else .ok (.AI false)
def T3(a b:AX):AX:=λρ=>(a ρ).bind λx=>(K2 x).bind λc=>if c=true then .ok (.AI true)else b ρ
def a_(a:AX):AX:=λρ=>(a ρ).bind λx=>(K2 x).bind λc=>.ok (.AI (!c))
def xj{a b:AX}:El (Ca F (JY a b)) (r1 (Ca F a) (Ca F b)):=by
 rintro σ H Q ⟨G,ρ,r,h⟩;unfold JY at h;refine⟨G,ρ,r,?_⟩;refine rb h λd Ai h x H1 Ae AE s1 B_=>?_;cases d with
 |AI c=>
  simp only[At]at B_;refine⟨c,B_,?_⟩;cases c with
  |true=>exact⟨Ae,ρ,AE,Ib.mono s1 h⟩
  |false=>exact h _ H1 Ae AE s1 (by simp only[At])
 |_=>cases h
def yz{a b:AX}:El (Ca F (T3 a b)) (qd (Ca F a) (Ca F b)):=by
 rintro σ H Q ⟨G,ρ,r,h⟩;unfold T3 at h;refine⟨G,ρ,r,?_⟩;refine rb h λd Ai h x H1 Ae AE s1 B_=>?_;cases d with
 |AI c=>
  simp only[At]at B_;refine⟨c,B_,?_⟩;cases c with
  |false=>exact⟨Ae,ρ,AE,Ib.mono s1 h⟩
  |true=>exact h _ H1 Ae AE s1 (by simp only[At])
 |_=>cases h
def yx{a:AX}:El (Ca F (a_ a)) (qb (Ca F a)):=by
 rintro σ H Q ⟨G,ρ,r,h⟩;unfold a_ at h;refine⟨G,ρ,r,?_⟩;refine rb h λd Ai h x H1 Ae AE s1 B_=>?_;cases d with
 |AI c=>simp only[At]at B_;exact⟨c,B_,h _ H1 Ae AE s1 (by simp only[At])⟩
 |_=>cases h
def LG(c:C9)(a b:AX):AX:=λρ=>(c ρ).bind λk=>if k=true then a ρ else b ρ
def yj{c:C9}{a b:AX}:El (Ca F (LG c a b)) (qX (GL F c) (Ca F a) (Ca F b)):=by
 rintro σ H Q ⟨G,ρ,r,h⟩;unfold LG at h;refine⟨G,ρ,r,?_⟩;refine rb h λk Ai h H1 Ae AE s1=>?_;cases k with
 |true=>exact⟨Ae,ρ,AE,Ib.mono s1 h⟩
 |false=>exact⟨Ae,ρ,AE,Ib.mono s1 h⟩
def CI:Ay:=λρ=>.ok (.Bb ρ)
def Aq(a b:Ay):Ay:=λρ=>(a ρ).bind λf=>match f with
 |.Bb BZ=>b BZ
 |f=>.ok f
def yv:I5 (Fd F CI) q_:=by rintro CZ σ H ⟨G,ρ,r,h⟩;exact h σ G H r (Sub.refl _)
def z4{a b:Ay}:I5 (Fd F (Aq a b)) (hE (Fd F a) (Fd F b)):=by
 rintro CZ σ H ⟨G,ρ,r,h⟩;unfold Aq at h;refine⟨G,ρ,r,?_⟩;refine rb h λf Ai h=>?_;cases f with
 |Bb BZ=>exact λσ' G' H' BM s'=>⟨G',BZ,BM,He.mono s' h⟩
 |Ed d=>exact h
 |Ij d=>exact h
 |G4 d=>exact h
 |Cn d=>exact h
 |Ec d=>exact h
def Wc(a:AX):Ay:=λρ=>(a ρ).bind λ_=>.ok (.Bb ρ)
def xP{a:AX}:I5 (Fd F (Wc a)) (hB (Ca F a)):=by
 rintro CZ σ H ⟨G,ρ,r,h⟩;unfold Wc at h;refine⟨G,ρ,r,?_⟩;cases Ai:a ρ with
 |bad=>rw[Ai]at h;cases h
 |exc c=>rw[Ai]at h;exact h
 |ok d=>rw[Ai,R.E_]at h;exact λv H' G' BM s' _=>h σ G' H' BM s'.g
def Bc(a:AX):Ay:=λρ=>(a ρ).bind λd=>.ok (.Ed d)
def z1{a:AX}:I5 (Fd F (Bc a)) (b4 (Ca F a)):=by
 rintro CZ σ H ⟨G,ρ,r,h⟩;unfold Bc at h;refine⟨G,ρ,r,?_⟩;cases Ai:a ρ with
 |bad=>rw[Ai]at h;cases h
 |exc c=>rw[Ai]at h;exact h
 |ok d=>rw[Ai,R.E_]at h;exact λv H' G' BM s' a=>h v G' H' BM.AV a
def Ie(a:Al):Ay:=λρ=>(a ρ).bind λd=>.ok (.Ij d)
def z2{a:Al}:I5 (Fd F (Ie a)) (b4 (Je F a)):=by
 rintro CZ σ H ⟨G,ρ,r,h⟩;unfold Ie at h;refine⟨G,ρ,r,?_⟩;cases Ai:a ρ with
 |bad=>rw[Ai]at h;cases h
 |exc c=>rw[Ai]at h;exact h
 |ok d=>rw[Ai,R.E_]at h;exact λa xs H' G' BM s' h1 h2 h3 h4=>h a xs G' H' BM.AV h3 (r.AV.BN.gone h1) h2 h4
def NP(i:Nat):Al:=λρ=>match ρ[i]? with
 |some (.Aj (.lst d))=>.ok d
 |_=>.bad
def z3(i:Nat):I5 (Fd F (Ie (NP i))) (b4 (hh i)):=by
 rintro CZ σ H ⟨G,ρ,r,h⟩;unfold Ie NP at h;cases e:ρ[i]? with
 |none=>rw[e]at h;cases h
 |some s=>
  rw[e]at h;cases s with
  |un=>cases h
  |AM _=>cases h
  |Fq _=>cases h
  |Aj o=>
   cases o with
   |lst ds=>obtain⟨a,xs,AD,h1,h2,h3,h4⟩:=r.own e;exact⟨.ref a,AD,h a xs G H r.AV h2 h3 h1 h4⟩
   |B5 _ _=>cases h
   |ins _ _ _=>cases h
def C4(c:C9)(a b:Ay):Ay:=λρ=>(c ρ).bind λk=>if k=true then a ρ else b ρ
def yk{c:C9}{a b:Ay}:I5 (Fd F (C4 c a b)) (qY (GL F c) (Fd F a) (Fd F b)):=by
 rintro CZ σ H ⟨G,ρ,r,h⟩;unfold C4 at h;refine⟨G,ρ,r,?_⟩;refine rb h λk Ai h H1 Ae AE s1=>?_;cases k with
 |true=>exact⟨Ae,ρ,AE,He.mono s1.g h⟩
 |false=>exact⟨Ae,ρ,AE,He.mono s1.g h⟩
def BI(i:Nat)(d:D)(ρ:AH):R AH:=if i<ρ.length then .ok (ρ.set i (.AM d))else .bad
def Cg(i:Nat)(a:AX):Ay:=λρ=>(a ρ).bind λd=>(BI i d ρ).bind λBZ=>.ok (.Bb BZ)
def z5{i:Nat}{a:AX}:I5 (Fd F (Cg i a)) (Oa (Ca F a) (IC i)):=by
 rintro CZ σ H ⟨G,ρ,r,h⟩;unfold Cg BI at h;refine⟨G,ρ,r,?_⟩;refine rb h λd Ai h v H1 Ae AE s1 Av=>?_;by_cases AC:i<ρ.length
 .rw[if_pos AC]at h;exact h _ Ae H1 (AE.set AC Av) s1.g
 .rw[if_neg AC]at h;cases h
def GI(i:Nat)(a:Al):Ay:=λρ=>(a ρ).bind λds=>if i<ρ.length then .ok (.Bb (ρ.set i (.DV ds)))else .bad
def du{i:Nat}{a:Al}:I5 (Fd F (GI i a)) (Oa (Je F a) (IC i)):=by
 rintro CZ σ H ⟨G,ρ,r,h⟩;unfold GI at h;refine⟨G,ρ,r,?_⟩;refine rb h λds Ai h b xs H1 Ae AE s1 h1 h2 h3 h4=>?_;by_cases AC:i<ρ.length
 .rw[if_pos AC]at h;exact h _ Ae H1 (AE.aeB AC h2 h3 (r.AV.BN.gone h1) h4 λj es o _ AD AR f=>Da.fresh r s1.h h1 ⟨j,es,o,AD,AR,f⟩) s1.g
 .rw[if_neg AC]at h;cases h
def Nh(i:Nat)(ρ:AH):AH:=match ρ[i]? with
 |some (.Aj o)=>ρ.set i (.AM (O0 o))
 |_=>ρ
theorem Rel.Nh{G H:A8}{σ :St}{ρ:AH}(r:Rel F G H σ ρ)(i:Nat):∃G',Rel F G' H σ (CP.Nh i ρ)/\Sub G G':=by
 unfold CP.Nh;cases e:ρ[i]? with
 |none=>exact⟨G,r,Sub.refl _⟩
 |some s=>
  cases s with
  |un=>exact⟨G,r,Sub.refl _⟩
  |AM _=>exact⟨G,r,Sub.refl _⟩
  |Fq _=>exact⟨G,r,Sub.refl _⟩
  |Aj o=>exact r.K9 e
def Gm:D->Bool
 |.non=>true|.AI _=>true|.int _=>true|.str _=>true
 |_=>false
def At.rE{K:AZ}{G G':A8}{d:D}{v:V}(h:Gm d=true)(a:At K G d v):At K G' d v:=by
 cases d<;>first
  |(simp only[At]at a |-;exact a)
  |(cases h)
def RR:DG->DG
 |.Aj o=>.AM (O0 o)
 |.Fq t=>.AM (toD t)
 |s=>s
def F_(ρ:AH):AH:=ρ.map RR
open Classical in
noncomputable def L4(σ :St)(ρ:AH)(G H:A8):A8:=λb=>if Da H σ ρ b then H b else G b
def ek{G H:A8}{σ :St}{ρ:AH}(r:Rel F G H σ ρ):Sub G (L4 σ ρ G H):=λb o e=>by
 unfold L4
 split
 .exact r.AV.sub b o e
 .exact e
def VD{G H:A8}{σ :St}{ρ:AH}{b:A3}(h:Da H σ ρ b):L4 σ ρ G H b=H b:=by unfold L4;rw[if_pos h]
def x6{H:A8}{ρ:AH}{i:Nat}{s:DG}(e:(F_ ρ)[i]?=some s)(o:Option V)(a:A3):¬GQ H s o a:=by
 unfold F_ at e;rw[Fl]at e;cases AR:ρ[i]? with
 |none=>rw[AR]at e;cases e
 |some t=>rw[AR]at e;have es:RR t=s:=EH e;subst es;cases t<;>exact λz=>z
def Rel.plus{G H:A8}{σ :St}{ρ:AH}(r:Rel F G H σ ρ):Rel F (L4 σ ρ G H) H σ (F_ ρ):=by
 have B7:=ek r;refine⟨⟨λb o e=>?_,r.AV.FP.trans B7,r.AV.BN,λb J=>?_⟩,by simp[F_,r.len],λi s e=>?_,λi j a s s' o BS AD _ _ _ f _=>absurd f (x6 AD o a)⟩
 .unfold L4 at e
  split at e
  .exact e
  .exact r.AV.sub b o e
 .unfold L4
  split
  .rename_i z;exact absurd (r.foot z).2.2 J
  .exact r.AV.new b J
 .unfold F_ at e;rw[Fl]at e;cases AD:ρ[i]? with
  |none=>rw[AD]at e;cases e
  |some t=>
   rw[AD]at e;have es:RR t=s:=EH e;obtain⟨o,AR,q⟩:=r.CJ i t AD;refine⟨o,AR,?_⟩;subst es;cases t with
   |un=>trivial
   |AM d=>obtain⟨v,C2,a⟩:=q;exact⟨v,C2,a.mono B7⟩
   |Aj ds=>obtain⟨a,AN,C2,h1,h2,h3,h4⟩:=q;subst C2;exact⟨.ref a,rfl,(h4.mono B7).at (by rw[VD (.Aj AD AR)];exact h1)⟩
   |Fq t=>obtain⟨v,C2,q⟩:=q;exact⟨v,C2,q.at_.view B7 λa A1=>VD ⟨i,_,o,AD,AR,v,C2,A1⟩⟩
def Rel.back{G H G' H':A8}{σ :St}{ρ:AH}(r:Rel F G H σ ρ)(BM:Rel F G' H' σ (F_ ρ))(s:Sub (L4 σ ρ G H) G'):Rel F G H' σ ρ:=
 r.over rfl ⟨(ek r).trans (s.trans BM.AV.sub),r.AV.FP,BM.AV.BN,r.AV.new⟩ (Sub.refl _) λa A1=>by
   obtain⟨h1,h2,h3⟩:=r.foot A1;refine⟨?_,h2,h3⟩;cases e:H a with
   |none=>exact absurd e h1
   |some o=>exact BM.AV.sub _ _ (s _ _ (by rw[VD A1];exact e))
def WE(d:D):R D:=if Gm d=true then .ok d else .bad
def Mt(m:AX):AX:=λρ=>(m (F_ ρ)).bind WE
def xk{m:AX}:El (Ca F (Mt m)) (Ca F m):=by
 rintro σ H Q ⟨G,ρ,r,h⟩;refine⟨L4 σ ρ G H,F_ ρ,r.plus,?_⟩;unfold Mt WE at h;refine rb h λd Ai h v H' G' BM s' a=>?_;by_cases hd:Gm d=true
 .rw[if_pos hd]at h;exact h v H' G (r.back BM s'.g) ⟨Sub.refl _,s'.h,λ_ _=>rfl⟩ (a.rE hd)
 .rw[if_neg hd]at h;cases h
def KQ(m:C9):C9:=λρ=>m (F_ ρ)
def xm{m:C9}:O4 (GL F (KQ m)) (GL F m):=by
 rintro σ H Q ⟨G,ρ,r,h⟩;refine⟨L4 σ ρ G H,F_ ρ,r.plus,?_⟩;unfold KQ at h;cases Ai:m (F_ ρ)with
 |bad=>rw[Ai]at h;cases h
 |exc c=>rw[Ai]at h;exact h
 |ok d=>rw[Ai]at h;exact λH' G' BM s'=>h H' G (r.back BM s'.g) ⟨Sub.refl _,s'.h,λ_ _=>rfl⟩
end
section
variable{F:BK}
structure Lq(K:AZ)(CH:It)(ds:List D)(G:A8):Prop where
 go:∀(i:Nat)(H:A8),Sub G H->i<ds.length->CH.go i H
 JJ:∀(i:Nat)(H:A8)(x:V)(H':A8),Sub G H->i<ds.length->CH.JJ i H x H'->∃d,ds[i]?=some d/\
  ((H'=H/\At K G d x)\/∃p xs es,H p=none/\H'=upd H p (.tup xs)/\x=.ref p/\d=.tup es/\Ac K G es xs)
 stop:∀(H:A8),Sub G H->CH.stop ds.length H
def zq(F:BK)(G H:A8)(σ :St)(ρ:AH)(Q:It->A8->Prop):R (List D)->Prop
 |.ok ds=>∀CH H' G',Rel F G' H' σ ρ->Bl G H G' H'->Lq F.K CH ds G'->Q CH H'
 |.exc c=>JW F c
 |.bad=>False
def LO(F:BK)(m:Al):TI:=λσ H Q=>∃G ρ,Rel F G H σ ρ/\zq F G H σ ρ Q (m ρ)
abbrev P4(t' t:TI):Prop:=∀ σ H Q,t' σ H Q->t σ H Q
def Lq.turn{CH:It}{ds:List D}{G Ae H H':A8}{σ :St}{ρ:AH}{i:Nat}{x:V}(t:Lq F.K CH ds G)(r:Rel F Ae H σ ρ)(s:Sub G Ae)(AC:i<ds.length)(y:CH.JJ i H x H') :
  ∃d G',ds[i]?=some d/\Rel F G' H' σ ρ/\Bl Ae H G' H'/\At F.K G' d x:=by
 obtain⟨d,e,h⟩:=t.JJ i H x H' (s.trans r.AV.sub) AC y;rcases h with⟨rfl,a⟩|⟨p,xs,es,Am,rfl,rfl,rfl,a⟩
 .exact⟨d,Ae,e,r,Bl.refl _ _,a.mono s⟩
 .refine⟨_,_,e,r.lay Am,Bl.lay r.AV.sub Am,?_⟩;simp only[At];exact⟨p,xs,rfl,Du,(a.mono s).mono (Sub.upd (r.AV.sub.gone Am))⟩
def O3(F:BK)(g:I7)(set:D->AH->R AH):Prop:=∀ σ ρ G H v d Q BZ,Rel F G H σ ρ->At F.K G d v->set d ρ=.ok BZ->(∀ σ',Rel F G H σ' BZ->Q σ' H)->g v σ H Q
def RU(i:Nat):O3 F (IC i) (BI i):=by
 intro σ ρ G H v d Q BZ r a e h;unfold BI at e;by_cases AC:i<ρ.length
 .rw[if_pos AC]at e;cases e;exact h _ (r.set AC a)
 .rw[if_neg AC]at e;cases e
def Hl:List (D->AH->R AH)->List D->AH->R AH
 |[],[],ρ=>.ok ρ
 |f::fs,d::ds,ρ=>(f d ρ).bind λBZ=>Hl fs ds BZ
 |_,_,_=>.bad
def Ul(F:BK)(g:NC)(set:List D->AH->R AH):Prop:=∀ σ ρ G H vs ds Q BZ,Rel F G H σ ρ->Ac F.K G ds vs->set ds ρ=.ok BZ->(∀ σ',Rel F G H σ' BZ->Q σ' H)->g vs σ H Q
def dw:Ul F VC (Hl []):=by
 intro σ ρ G H vs ds Q BZ r a e h;cases ds with
 |nil=>simp only[Ac]at a;cases e;exact⟨a,h σ r⟩
 |cons d ds=>cases e
def VF{g:I7}{Ni:NC}{f:D->AH->R AH}{fs:List (D->AH->R AH)}(h1:O3 F g f)(h2:Ul F Ni (Hl fs)):Ul F (RT g Ni) (Hl (f::fs)):=by
 intro σ ρ G H vs ds Q BZ r a e h;cases ds with
 |nil=>cases e
 |cons d ds=>
  simp only[Ac]at a;obtain⟨v,bL,rfl,Av,OD⟩:=a;simp only[Hl]at e;cases AD:f d ρ with
  |bad=>rw[AD]at e;cases e
  |exc c=>rw[AD]at e;cases e
  |ok EA=>rw[AD,R.E_]at e;refine⟨v,bL,rfl,h1 σ ρ G H v d _ EA r Av AD λσ1 AE=>?_⟩;exact h2 σ1 EA G H bL ds Q BZ AE OD e h
def F6(fs:List (D->AH->R AH)):D->AH->R AH
 |.tup ds,ρ=>Hl fs ds ρ
 |_,_=>.bad
theorem rP:∀{fs:List (D->AH->R AH)}{ds:List D}{ρ BZ:AH},Hl fs ds ρ=.ok BZ->ds.length=fs.length
 |[],[],_,_,_=>rfl
 |[],_::_,_,_,e=>by cases e
 |_::_,[],_,_,e=>by cases e
 |f::fs,d::ds,ρ,BZ,e=>by
  simp only[Hl]at e;cases AD:f d ρ with
  |bad=>rw[AD]at e;cases e
  |exc c=>rw[AD]at e;cases e
  |ok EA=>rw[AD,R.E_]at e;simp[rP e]
def dx{Ni:NC}{fs:List (D->AH->R AH)}{n:Nat}(AU:n=fs.length)(h:Ul F Ni (Hl fs)):O3 F (VE F.K n Ni) (F6 fs):=by
 intro σ ρ G H v d Q BZ r a e k;cases d with
 |tup ds=>simp only[At]at a;obtain⟨p,xs,rfl,Ab,al⟩:=a;refine⟨p,xs,rfl,CA.of (r.AV.sub _ _ Ab),?_,h σ ρ G H xs ds Q BZ r al e k⟩;rw[<-al.length,AU];exact rP e
 |_=>cases e
noncomputable def IB(set:D->AH->R AH)(body:Ay):List D->AH->R HH
 |[],ρ=>.ok (.Bb ρ)
 |d::ds,ρ=>(set d ρ).bind λEA=>(body EA).bind λf=>match f with
  |.Bb F0=>IB set body ds F0
  |.Cn F0=>IB set body ds F0
  |.G4 F0=>.ok (.Bb F0)
  |f=>.ok f
def G7(mi:Al)(set:D->AH->R AH)(body:Ay):Ay:=λρ=>(mi ρ).bind λds=>IB set body ds ρ
def xn{mi:Al}{set:D->AH->R AH}{body:Ay}{g:I7}(AW:O3 F g set)(AA:∀d ρ c,set d ρ≠.exc c):I5 (Fd F (G7 mi set body)) (qW (LO F mi) g (Fd F body)):=by
 rintro CZ σ H ⟨G,ρ,r,h⟩;unfold G7 at h;refine⟨G,ρ,r,?_⟩;refine rb h λds Ai h CH H1 Ae AE s1 it=>?_;refine⟨λi m σ2 Aw=>m=ds.length-i/\i<=ds.length/\∃Cw F0,Rel F Cw Aw σ2 F0/\Sub Ae Cw/\He F Cw CZ (IB set body (ds.drop i) F0),⟨ds.length,by simp,Kk _,Ae,ρ,AE,Sub.refl _,He.mono s1.g (by simpa using h)⟩,?_⟩;rintro i m σ2 Aw ⟨rfl,AC,Cw,F0,B4,s2,k2⟩;by_cases Gk:i<ds.length
 .refine .inr ⟨it.go i Aw (s2.trans B4.AV.sub) Gk,λσ3 Cx=>∃Gd XK,Rel F Gd Cx σ3 XK/\Sub Ae Gd/\He F Gd CZ (IB set body (ds.drop (i+1)) XK),λσ3 Cx⟨Gd,XK,E2,s3,k3⟩=>⟨ds.length-(i+1),by omega,rfl,Gk,Gd,XK,E2,s3,k3⟩,λx Cx y=>?_⟩;obtain⟨d,Gd,C2,E2,s3,Dp⟩:=it.turn B4 s2 Gk y;have EC:ds.drop i=d::ds.drop (i+1):=by
   rw[tC Gk];have:=Dw Gk;rw[C2]at this;rw[EH this]
  rw[EC]at k2;simp only[IB]at k2;cases E7:set d F0 with
  |bad=>rw[E7]at k2;cases k2
  |exc c=>exact absurd E7 (AA d F0 c)
  |ok JK=>
   rw[E7,R.E_]at k2;refine AW σ2 F0 Gd Cx x d _ JK E2 Dp E7 λσ5 Pf=>⟨Gd,JK,Pf,?_⟩;have WO:Sub Cw Gd:=s3.g;refine rb k2 λf Hb k2=>?_;cases f with
   |Bb ON=>exact λσ7 Lp GR HD Dt=>⟨Lp,ON,HD,s2.trans (WO.trans Dt),He.mono (WO.trans Dt) k2⟩
   |Cn ON=>exact λσ7 Lp GR HD Dt=>⟨Lp,ON,HD,s2.trans (WO.trans Dt),He.mono (WO.trans Dt) k2⟩
   |G4 ON=>exact λσ7 Lp GR HD Dt=>k2 σ7 Lp GR HD (WO.trans Dt)
   |Ed d=>exact k2
   |Ij ds=>exact k2
   |Ec t=>exact k2
 .have e:ds.drop i=[]:=sv (by omega);rw[e]at k2;have IY:i=ds.length:=by omega
  subst IY;exact .inl ⟨it.stop Aw (s2.trans B4.AV.sub),k2 σ2 Cw Aw B4 (Sub.refl _)⟩
def QZ(i:Nat):∀d ρ c,BI i d ρ≠.exc c:=λd ρ c=>by
 unfold BI
 split<;>exact λz=>nomatch z
theorem rQ:∀{fs:List (D->AH->R AH)},(∀f∈fs,∀d ρ c,f d ρ≠.exc c)->∀ds ρ c,Hl fs ds ρ≠.exc c
 |[],_,[],_,_,e=>nomatch e
 |[],_,_::_,_,_,e=>nomatch e
 |_::_,_,[],_,_,e=>nomatch e
 |f::fs,h,d::ds,ρ,c,e=>by
  simp only[Hl]at e;cases AD:f d ρ with
  |bad=>rw[AD]at e;cases e
  |exc c=>exact h f (by simp) d ρ c AD
  |ok EA=>rw[AD,R.E_]at e;exact rQ (λg AW=>h g (by simp[AW])) ds EA c e
def hT{fs:List (D->AH->R AH)}(h:∀f∈fs,∀d ρ c,f d ρ≠.exc c):∀d ρ c,F6 fs d ρ≠.exc c:=λd ρ c e=>by
 cases d<;>first
  |(exact rQ h _ _ _ e)
  |(cases e)
def nN{K:AZ}{G:A8}{a:A3}{xs:List V}{ds:List D}(h:Bp K G a xs)(q:Ac K G ds xs):Lq K (c2 K a) ds G where
 go:=λi H s AC=>by obtain⟨v,e,_⟩:=q.get (Dw AC);exact⟨xs,v,Bp.mono s h,e⟩
 JJ:=λi H x H' s AC y=>by obtain⟨rfl,y⟩:=y;obtain⟨d,e,a⟩:=q.SA (y xs (Bp.mono s h));exact⟨d,e,.inl ⟨rfl,a⟩⟩
 stop:=λH s=>⟨xs,Bp.mono s h,by rw[<-q.length];exact CO _⟩
def nO{K:AZ}{G:A8}{a:A3}{xs:List V}{ds:List D}(h:CA K G a xs)(q:Ac K G ds xs):Lq K (c4 K a) ds G where
 go:=λi H s AC=>by obtain⟨v,e,_⟩:=q.get (Dw AC);exact⟨xs,v,CA.mono s h,e⟩
 JJ:=λi H x H' s AC y=>by obtain⟨rfl,y⟩:=y;obtain⟨d,e,a⟩:=q.SA (y xs (CA.mono s h));exact⟨d,e,.inl ⟨rfl,a⟩⟩
 stop:=λH s=>⟨xs,CA.mono s h,by rw[<-q.length];exact CO _⟩
def GJ(lo:Int)(n:Nat):List D:=(DT n).map λ(i:Nat)=>.int (lo+(i:Int))
def yH{K:AZ}{G:A8}(lo:Int)(n:Nat):Lq K (YY lo n) (GJ lo n) G where
 go:=λi H s AC=>by
  have h:i<n:=by simpa[GJ]using AC
  exact h
 JJ:=λi H x H' s AC y=>by
  have h:i<n:=by simpa[GJ]using AC
  obtain⟨AD,AR⟩:=y;refine⟨.int (lo+(i:Int)),?_,.inl ⟨AD,?_⟩⟩
  .unfold GJ;rw[Fl,UF h];rfl
  .simp only[At];exact AR
 stop:=λH s=>by
  have h:n<=(GJ lo n).length:=by simp[GJ]
  exact h
def hO:D->R (List D)
 |.lst ds=>.ok ds
 |.Cs ds=>.ok ds
 |_=>.bad
def iI:D->R (List D)
 |.tup ds=>.ok ds
 |.DB ds=>.ok ds
 |_=>.bad
def ET(m:AX):Al:=λρ=>(m ρ).bind hO
def yn{m:AX}:P4 (LO F (ET m)) (nX F.K (Ca F m)):=by
 rintro σ H Q ⟨G,ρ,r,h⟩;unfold ET at h;refine⟨G,ρ,r,?_⟩;refine rb h λd Ai h v H1 Ae AE s1 a=>?_;cases d with
 |lst ds=>simp only[At]at a;obtain⟨p,xs,e,Ab,al⟩:=a;exact⟨p,e,⟨xs,Bp.of (AE.AV.sub _ _ Ab)⟩,h _ H1 Ae AE s1 (nN (Bp.of Ab) al)⟩
 |Cs ds=>simp only[At]at a;obtain⟨p,xs,e,Ab,al⟩:=a;exact⟨p,e,⟨xs,Bp.mono AE.AV.sub Ab⟩,h _ H1 Ae AE s1 (nN Ab al)⟩
 |_=>cases h
def Q5(m:AX):Al:=λρ=>(m ρ).bind iI
def yO{m:AX}:P4 (LO F (Q5 m)) (n_ F.K (Ca F m)):=by
 rintro σ H Q ⟨G,ρ,r,h⟩;unfold Q5 at h;refine⟨G,ρ,r,?_⟩;refine rb h λd Ai h v H1 Ae AE s1 a=>?_;cases d with
 |tup ds=>simp only[At]at a;obtain⟨p,xs,e,Ab,al⟩:=a;exact⟨p,e,⟨xs,CA.of (AE.AV.sub _ _ Ab)⟩,h _ H1 Ae AE s1 (nO (CA.of Ab) al)⟩
 |DB ds=>simp only[At]at a;obtain⟨p,xs,e,Ab,al⟩:=a;exact⟨p,e,⟨xs,CA.mono AE.AV.sub Ab⟩,h _ H1 Ae AE s1 (nO Ab al)⟩
 |_=>cases h
def OR:List D->R (List D)
 |[.int j]=>if-(2^62)<=j/\j<2^62 then .ok (GJ 0 j.toNat)else .bad
 |_=>.bad
def Ac.ints1{K:AZ}{G:A8}{j:Int}{vs:List V}(a:Ac K G [.int j] vs):vs=[.int j]:=by simp only[Ac,At]at a;obtain⟨v,r,rfl,rfl,rfl⟩:=a;rfl
def Ac.ints2{K:AZ}{G:A8}{i j:Int}{vs:List V}(a:Ac K G [.int i,.int j] vs):vs=[.int i,.int j]:=by simp only[Ac,At]at a;obtain⟨v,r,rfl,rfl,v,r,rfl,rfl,rfl⟩:=a;rfl
def II(m:Al):Al:=λρ=>(m ρ).bind OR
def z0{m:Al}:P4 (LO F (II m)) (nY (EM F m)):=by
 rintro σ H Q ⟨G,ρ,r,h⟩;unfold II at h;refine⟨G,ρ,r,?_⟩;refine rb h λds Ai h vs H1 Ae AE s1 a=>?_;unfold OR at h
 split at h
 .rename_i j
  split at h
  .rename_i Bx;exact⟨j,a.ints1,Bx.1,Bx.2,h _ H1 Ae AE s1 (yH 0 j.toNat)⟩
  .exact h.elim
 .exact h.elim
inductive BQ where
 |v (d:D)|o (ds:List D)|t (t:T)
noncomputable def zo(F:BK)(Q:C_):R BQ->Prop
 |.ok (.v d)=>∀v G' H',Eg F G' H'->At F.K G' d v->Q v H'
 |.ok (.o ds)=>∀a xs G' H',Eg F G' H'->G' a=none->F.H0 a=none->H' a=some (.lst xs)->Ac F.K G' ds xs->Q (.ref a) H'
 |.ok (.t t)=>∀v G' H',Eg F G' H'->YJ F G' H' t v->Q v H'
 |.exc c=>JW F c
 |.bad=>False
def OX(K:AZ)(n:Nat)(xe:CS->Str->A8->Prop)(mf:List D->R BQ):J0:=λvs H Q E=>∃G ds,Sub G H/\Ac K G ds vs/\ds.length=n/\zo ⟨K,G,H,xe E⟩ Q (mf ds)
def bc{K:AZ}{n:Nat}{xe:CS->Str->A8->Prop}{mf:List D->R BQ}:∀vs H Q E,OX K n xe mf vs H Q E->vs.length=n:=λvs H Q E h=>by obtain⟨G,ds,_,a,l,_⟩:=h;rw[<-a.length];exact l
def outD:HH->R BQ
 |.Bb _=>.ok (.v .non)
 |.Ed d=>.ok (.v d)
 |.Ij ds=>.ok (.o ds)
 |.Ec t=>.ok (.t t)
 |_=>.bad
def LB(N:Nat)(ds:List D):AH:=ds.map .AM++FU (N-ds.length) .un
def C0(N:Nat)(m:Ay)(ds:List D):R BQ:=(m (LB N ds)).bind outD
def be(N:Nat)(vs:List V):St:=vs.map some++FU (N-vs.length) none
def adR{K:AZ}{G H:A8}{Hx:Str->A8->Prop}{N:Nat}{ds:List D}{vs:List V}(s:Sub G H)(a:Ac K G ds vs):Rel ⟨K,G,H,Hx⟩ G H (be N vs) (LB N ds):=by
 have AF:=a.length;refine⟨⟨s,Sub.refl _,Sub.refl _,λ_ _=>rfl⟩,by simp[be,LB,AF],λi t e=>?_,λi j b es es' o BS AD AR _ _ f _=>?_⟩
 .unfold LB at e;unfold be;by_cases AC:i<ds.length
  .rw[Hs (by simpa using AC),Fl,Dw AC]at e;obtain⟨v,AD,Av⟩:=a.get (Dw AC);rw[Hs (by rw[Gp,<-AF];exact AC),Fl,AD];have Nf:DG.AM ds[i]=t:=EH e;subst Nf;exact⟨some v,rfl,v,rfl,Av⟩
  .rw[HA (by simpa using AC),Oo]at e;rw[HA (by rw[Gp,<-AF];omega),Oo,Gp,<-AF];rw[Gp]at e
   split at e
   .rename_i BN;rw[if_pos BN];cases e;exact⟨none,rfl,trivial⟩
   .cases e
 .exfalso;unfold LB at AD;by_cases AC:i<ds.length
  .rw[Hs (by simpa using AC),Fl,Dw AC]at AD;cases AD;exact f
  .rw[HA (by simpa using AC),Oo]at AD
   split at AD
   .cases AD;exact f
   .cases AD
def ZX{K:AZ}{xe:CS->Str->A8->Prop}{n N:Nat}{m:Ay}{vs:List V}{H:A8}{Q:C_}{E:CS}(h:OX K n xe (C0 N m) vs H Q E) :
  ∃G,Fd ⟨K,G,H,xe E⟩ m { Bb:=λ_ H'=>Q .non H',Ed:=Q } (be N vs) H:=by
 obtain⟨G,ds,s,a,l,k⟩:=h;refine⟨G,G,LB N ds,adR s a,?_⟩;unfold C0 at k;refine rb k λf e k=>?_;cases f with
 |Bb ρ=>exact λσ' G' H' r _=>k .non G' H' r.AV (by simp only[At])
 |Ed d=>exact k
 |Ij ds=>exact k
 |Ec t=>exact k
 |G4 ρ=>cases k
 |Cn ρ=>cases k
def Eg.of{G H G' H':A8}{σ :St}{ρ:AH}{Hx:Str->A8->Prop}(r:Rel F G H σ ρ)(k:Eg ⟨F.K,G,H,Hx⟩ G' H'):Rel F G' H' σ ρ:=r.grow k.FP k.sub k.BN λb J=>k.new b J
def JD:BQ->R D
 |.v d=>.ok d
 |.o ds=>.ok (.lst ds)
 |.t t=>.ok (toD t)
def gg:BQ->R (List D)
 |.o ds=>.ok ds
 |_=>.bad
def Mk(A:List A3)(G H:A8):A8:=λb=>if b∈A then H b else G b
def Rel.iG{G H G0 H0:A8}{σ :St}{ρ:AH}(r:Rel F G H σ ρ){F':BK}{t:T}{v:V}(Ag:F'.K=F.K)(q:YJ F' G H t v)(u:Bl G0 H0 G H)(n:∀b∈Ad H t v,H0 b=none/\F.H0 b=none/\¬Da H σ ρ b) :
  Rel F (Mk (Ad H t v) G H) H σ ρ/\Bl G0 H0 (Mk (Ad H t v) G H) H/\At F.K (Mk (Ad H t v) G H) (toD t) v:=by
 have B7:Sub G (Mk (Ad H t v) G H):=λb o e=>by
  unfold Mk;by_cases J:b∈Ad H t v
  .rw[(q.own b J).1]at e;cases e
  .rw[if_neg J];exact e
 refine⟨r.over rfl ⟨λb o e=>?_,r.AV.FP.trans B7,r.AV.BN,λb J=>?_⟩ B7 λa A1=>?_,⟨u.g.trans B7,u.h,λb J=>?_⟩,?_⟩
 .unfold Mk at e
  split at e
  .exact e
  .exact r.AV.sub b o e
 .unfold Mk;rw[if_neg (λz=>J (n b z).2.1)];exact r.AV.new b J
 .obtain⟨h1,h2,h3⟩:=r.foot A1;refine⟨rfl,?_,h3⟩;unfold Mk;rw[if_neg (λz=>(n a z).2.2 A1)];exact h2
 .unfold Mk;rw[if_neg (λz=>J (n b z).1)];exact u.n b J
 .rw[<-Ag];exact q.at_.view B7 λa A1=>by unfold Mk;rw[if_pos A1]
def Au(n:Nat)(mf:List D->R BQ)(m:Al):AX:=λρ=>(m ρ).bind λds=>if ds.length=n then(mf ds).bind JD else .bad
def KR(n:Nat)(mf:List D->R BQ)(m:Al):Al:=λρ=>(m ρ).bind λds=>if ds.length=n then(mf ds).bind gg else .bad
def Yn{n:Nat}{mf:List D->R BQ}{m:Al}{xe:CS->Str->A8->Prop}{E:CS}(AA:F.Hx=xe E):El (Ca F (Au n mf m)) (Vy (OX F.K n xe mf) [] E (EM F m)):=by
 rintro σ H Q ⟨G,ρ,r,h⟩;unfold Au at h;refine⟨G,ρ,r,?_⟩;refine rb h λds Ai h vs H1 Ae AE s1 a=>?_;by_cases AU:ds.length=n
 .rw[if_pos AU]at h;rw[LY];refine⟨Ae,ds,AE.AV.sub,a,AU,?_⟩;cases e:mf ds with
  |bad=>rw[e]at h;cases h
  |exc c=>rw[e]at h;intro G' H' k;have z:=h G' H' (Eg.of AE k).AV;rw[AA]at z;exact z
  |ok t=>
   rw[e,R.E_]at h;cases t with
   |v d=>exact λv G' H' k Av=>h v H' G' (Eg.of AE k) (s1.trans ⟨k.FP,k.BN,k.new⟩) Av
   |o es=>intro p xs G' H' k h1 h2 h3 h4;have h2:H1 p=none:=h2;have BM:=Eg.of AE k;have no:¬Da H' σ ρ p:=Da.fresh AE k.BN h2;refine h (.ref p) H' _ (BM.take h3 h1 (AE.AV.BN.gone h2) no) ((s1.trans ⟨k.FP,k.BN,k.new⟩).put (s1.h.gone h2) h1) ?_;simp only[At];exact⟨p,xs,rfl,Du,h4.mono (Sub.upd h1)⟩
   |t t=>intro v G' H' k q;obtain⟨a1,a2,Dp⟩:=(Eg.of AE k).iG (F':=⟨F.K,Ae,H1,xe E⟩) rfl q (s1.trans ⟨k.FP,k.BN,k.new⟩) λb J=>⟨s1.h.gone (q.own b J).2,AE.AV.BN.gone (q.own b J).2,Da.fresh AE k.BN (q.own b J).2⟩;exact h v H' _ a1 a2 Dp
 .rw[if_neg AU]at h;cases h
def xK{n:Nat}{mf:List D->R BQ}{m:Al}{xe:CS->Str->A8->Prop}{E:CS}(AA:F.Hx=xe E):El (Je F (KR n mf m)) (Vy (OX F.K n xe mf) [] E (EM F m)):=by
 rintro σ H Q ⟨G,ρ,r,h⟩;unfold KR at h;refine⟨G,ρ,r,?_⟩;refine rb h λds Ai h vs H1 Ae AE s1 a=>?_;by_cases AU:ds.length=n
 .rw[if_pos AU]at h;rw[LY];refine⟨Ae,ds,AE.AV.sub,a,AU,?_⟩;cases e:mf ds with
  |bad=>rw[e]at h;cases h
  |exc c=>rw[e]at h;intro G' H' k;have z:=h G' H' (Eg.of AE k).AV;rw[AA]at z;exact z
  |ok t=>
   rw[e,R.E_]at h;cases t with
   |v d=>cases h
   |t t=>cases h
   |o es=>intro p xs G' H' k h1 h2 h3 h4;have h2:H1 p=none:=h2;have BM:=Eg.of AE k;exact h p xs H' G' BM (s1.trans ⟨k.FP,k.BN,k.new⟩) (s1.h.gone h2) h3 h1 h4
 .rw[if_neg AU]at h;cases h
end
end CP
namespace CP
open PySem PySem.Spec C7
def GV:DG->DG
 |.AM d=>.AM d
 |_=>.un
def Kw(nl:Nat)(caps:List Nat)(ρ:AH):AH:=FU nl .un++caps.map λj=>GV (ρ.getD j .un)
noncomputable def Ea(set:D->AH->R AH)(tst:C9)(elt:AX):List D->AH->List D->R (List D)
 |[],_,ws=>.ok ws
 |d::ds,ρ,ws=>(set d ρ).bind λEA=>(tst EA).bind λb=>if b=true then(elt EA).bind λy=>if ws.length<1000000 then Ea set tst elt ds EA (ws++[y])else .bad else Ea set tst elt ds EA ws
def Fb{α:Type}:R α->R α
 |.exc _=>.bad
 |r=>r
def DC(nl:Nat)(caps:List Nat)(mi:Al)(set:D->AH->R AH)(tst:C9)(elt:AX):Al:=λρ=>(mi ρ).bind λds=>Fb (Ea set tst elt ds (Kw nl caps ρ) [])
def Gj(K:AZ)(G H:A8):BK:=⟨K,G,H,λ_ _=>False⟩
def rq(K:AZ)(Jh:Str->A8->Prop)(m:C9):TT:=λσ H Q=>∃G0 H0,GL ⟨K,G0,H0,Jh⟩ m σ H Q
def ro(K:AZ)(Jh:Str->A8->Prop)(m:AX):TE:=λσ H Q=>∃G0 H0,Ca ⟨K,G0,H0,Jh⟩ m σ H Q
def Im(K:AZ)(m:C9):TT:=rq K (λ_ _=>False) m
def rn(K:AZ)(m:AX):TE:=ro K (λ_ _=>False) m
def pb:DG->Bool
 |.un=>true|.AM _=>true
 |_=>false
def pc{H:A8}{s:DG}(h:pb s=true)(o:Option V)(a:A3):¬GQ H s o a:=by
 cases s<;>first
  |exact λz=>z
  |cases h
def QY(ρ:AH):Prop:=∀(i:Nat)(s:DG),ρ[i]?=some s->pb s=true
def oP(nl:Nat)(caps:List Nat)(ρ:AH):QY (Kw nl caps ρ):=λi s AD=>by
 unfold Kw at AD;by_cases AC:i<nl
 .rw[Hs (by simpa using AC),Oo,if_pos AC]at AD;cases AD;rfl
 .rw[HA (by simpa using AC),Ro,Fl]at AD;cases Jq:caps[i-nl]? with
  |none=>rw[Jq]at AD;cases AD
  |some j=>rw[Jq]at AD;have es:GV (ρ.getD j .un)=s:=EH AD;subst es;cases hs:ρ.getD j .un<;>rfl
def Keeps(set:D->AH->R AH):Prop:=∀d ρ BZ,set d ρ=.ok BZ->QY ρ->QY BZ
def R7(i:Nat):Keeps (BI i):=λd ρ BZ e n j ds z=>by
 unfold BI at e
 split at e
 .cases e;rcases get_set z with⟨_,z⟩|⟨_,z⟩
  .subst z;rfl
  .exact n j ds z
 .cases e
theorem rO:∀{fs:List (D->AH->R AH)},(∀f∈fs,Keeps f)->∀ds ρ BZ,Hl fs ds ρ=.ok BZ->QY ρ->QY BZ
 |[],_,[],_,_,e,n=>by cases e;exact n
 |[],_,_::_,_,_,e,_=>by cases e
 |_::_,_,[],_,_,e,_=>by cases e
 |f::fs,h,d::ds,ρ,BZ,e,n=>by
  simp only[Hl]at e;cases AD:f d ρ with
  |bad=>rw[AD]at e;cases e
  |exc c=>rw[AD]at e;cases e
  |ok EA=>rw[AD,R.E_]at e;exact rO (λg AW=>h g (by simp[AW])) ds EA BZ e (h f (by simp) d ρ EA AD n)
def hS{fs:List (D->AH->R AH)}(h:∀f∈fs,Keeps f):Keeps (F6 fs):=λd ρ BZ e n=>by
 cases d<;>first
  |(exact rO h _ _ _ e n)
  |(cases e)
section
variable{F:BK}
def adQ{G H:A8}{σ :St}{ρ:AH}{Jh:Str->A8->Prop}(r:Rel F G H σ ρ){acc:A3}(A1:H acc=none)(nl:Nat)(caps:List Nat) :
  Rel ⟨F.K,G,H,Jh⟩ G (upd H acc (.lst [])) (NE nl caps σ) (Kw nl caps ρ):=by
 refine⟨⟨Sub.bG r.AV.sub (r.AV.sub.gone A1),Sub.refl _,Sub.upd A1,λ_ _=>rfl⟩,by simp[NE,Kw],λi s e=>?_,λi j b s s' o BS AD _ _ _ f _=>?_⟩
 .unfold Kw at e;unfold NE;by_cases AC:i<nl
  .rw[Hs (by simpa using AC),Oo,if_pos AC]at e;rw[Hs (by simpa using AC),Oo,if_pos AC];cases e;exact⟨none,rfl,trivial⟩
  .rw[HA (by simpa using AC),Ro,Fl]at e;rw[HA (by simpa using AC),Ro,Fl];cases Jq:caps[i-nl]? with
   |none=>rw[Jq]at e;cases e
   |some j=>
    rw[Jq]at e;refine⟨σ.getD j none,rfl,?_⟩;have es:GV (ρ.getD j .un)=s:=EH e;subst es;cases CV:ρ[j]? with
    |none=>
     have eg:ρ.getD j .un=.un:=by rw[Gq,CV];rfl
     rw[eg];exact trivial
    |some t=>
     have eg:ρ.getD j .un=t:=by rw[Gq,CV];rfl
     rw[eg];obtain⟨o,AD,q⟩:=r.CJ j t CV;cases t with
     |un=>exact trivial
     |Aj ds=>exact trivial
     |Fq t=>exact trivial
     |AM d=>obtain⟨v,AR,a⟩:=q;refine⟨v,?_,a⟩;rw[Gq,AD,AR];rfl
 .exact absurd f (pc (oP nl caps ρ i s AD) o b)
def dt{Jh:Str->A8->Prop}{po:R (List D)->R (List D)}(J:po .bad=.bad)(AN:∀l,po (.ok l)=.ok l)(Am:∀c,po (.exc c)=.bad\/po (.exc c)=.exc c/\Jh=F.Hx){nl:Nat}{caps:List Nat}{mi:Al}{set:D->AH->R AH}{tst:C9}{elt:AX}{g:I7}(AW:∀G H,O3 ⟨F.K,G,H,Jh⟩ g set)(AA:∀d ρ c,set d ρ≠.exc c)(AQ:Keeps set) :
  El (Je F (λρ=>(mi ρ).bind λds=>po (Ea set tst elt ds (Kw nl caps ρ) []))) (b1 (LO F mi) g (rq F.K Jh tst) (ro F.K Jh elt) nl caps):=by
 rintro σ H Q ⟨G,ρ,r,h⟩;dsimp only at h;refine⟨G,ρ,r,?_⟩;refine rb h λds Ai h CH H1 Ae AE Wy it acc A1=>?_;generalize CV:Ea set tst elt ds (Kw nl caps ρ) []=res at h;have no:res≠.bad:=λz=>by rw[z,J]at h;exact h
 have ex:∀c,res=.exc c->JW ⟨F.K,Ae,H1,Jh⟩ c:=λc z=>by
  rw[z]at h;rcases Am c with q|⟨q,w⟩<;>rw[q]at h
  .exact h.elim
  .intro G' H' k;rw[w];exact h G' H' (Eg.of AE k).AV
 refine⟨λi m σ2 Aw=>m=ds.length-i/\i<=ds.length/\∃Cw F0 ys ws,Rel (⟨F.K,Ae,H1,Jh⟩) Cw Aw σ2 F0/\QY F0/\Aw acc=some (.lst ys)/\Cw acc=none/\Ac F.K Cw ws ys/\Ea set tst elt (ds.drop i) F0 ws=res,
  ⟨ds.length,by simp,Kk _,Ae,_,[],[],adQ AE A1 nl caps,oP _ _ _,Du,AE.AV.sub.gone A1,.nil,by simpa using CV⟩,?_⟩
 rintro i m σ2 Aw ⟨rfl,AC,Cw,F0,ys,ws,B4,Ch,h1,h2,h3,h4⟩;have B7:Sub Ae Cw:=B4.AV.FP;by_cases Gk:i<ds.length
 .refine .inr ⟨it.go i Aw (B7.trans B4.AV.sub) Gk,λx Cx y=>?_⟩;obtain⟨d,Gd,C2,E2,Mc,Dp⟩:=Lq.turn (F:=⟨F.K,Ae,H1,Jh⟩) it B4 B7 Gk y;have EC:ds.drop i=d::ds.drop (i+1):=by
   rw[tC Gk];have:=Dw Gk;rw[C2]at this;rw[EH this]
  rw[EC]at h4;simp only[Ea]at h4;cases E7:set d F0 with
  |bad=>rw[E7]at h4;exact absurd h4.symm no
  |exc c=>exact absurd E7 (AA d F0 c)
  |ok JK=>
   rw[E7,R.E_]at h4;refine AW Ae H1 σ2 F0 Gd Cx x d _ JK E2 Dp E7 λσ5 Pf=>⟨Ae,H1,Gd,JK,Pf,?_⟩;have Mz:QY JK:=AQ d F0 JK E7 Ch;have ko:Cx acc=some (.lst ys):=Mc.h _ _ h1;have g3:Gd acc=none:=by rw[Mc.n acc (by rw[h1];exact λz=>nomatch z)];exact h2
   cases F2:tst JK with
   |bad=>rw[F2]at h4;exact absurd h4.symm no
   |exc c=>rw[F2]at h4;exact ex c h4.symm
   |ok b=>
    rw[F2,R.E_]at h4;intro Sp YV g_ iM;have cE:Sp acc=some (.lst ys):=iM.h _ _ ko;have ei:YV acc=none:=by rw[iM.n acc (by rw[ko];exact λz=>nomatch z)];exact g3
    have Jn:Ac F.K YV ws ys:=(h3.mono Mc.g).mono iM.g;cases b with
    |false=>rw[if_neg IN]at h4;rw[if_neg IN];exact⟨_,by omega,rfl,Gk,YV,JK,ys,ws,g_,Mz,cE,ei,Jn,h4⟩
    |true=>
     rw[if_pos rfl]at h4;rw[if_pos rfl];refine⟨Ae,H1,YV,JK,g_,?_⟩;cases K7:elt JK with
     |bad=>rw[K7]at h4;exact absurd h4.symm no
     |exc c=>rw[K7]at h4;exact ex c h4.symm
     |ok y=>
      rw[K7,R.E_]at h4;intro iC bz ca Pg u8 cD;have tu:bz acc=some (.lst ys):=u8.h _ _ cE;have ej:ca acc=none:=by rw[u8.n acc (by rw[cE];exact λz=>nomatch z)];exact ei
      by_cases AF:ws.length<1000000
      .rw[if_pos AF]at h4;have ks:Ac F.K ca ws ys:=Jn.mono u8.g;refine⟨ys,tu,by rw[<-ks.length];exact QN AF (by decide),_,by omega,rfl,Gk,ca,JK,ys++[iC],ws++[y],?_,Mz,Du,ej,ks.snoc cD,h4⟩;have k0:H1 acc=none:=A1;refine⟨⟨Sub.bG Pg.AV.sub ej,Pg.AV.FP,λc o z=>?_,Pg.AV.new⟩,Pg.len,λj t z=>?_,λj k b s s' o BS FS _ _ _ f _=>absurd f (pc (Mz j s FS) o b)⟩
       .rw[Df (Jb z k0)];exact Pg.AV.BN c o z
       .obtain⟨o,Dv,Co⟩:=Pg.CJ j t z;refine⟨o,Dv,?_⟩;cases t with
        |un=>exact trivial
        |AM d=>exact Co
        |Aj es=>exact absurd (Mz j _ z) (λw=>nomatch w)
        |Fq es=>exact absurd (Mz j _ z) (λw=>nomatch w)
      .rw[if_neg AF]at h4;exact absurd h4.symm no
 .have e:ds.drop i=[]:=sv (by omega);rw[e]at h4;simp only[Ea]at h4;rw[<-h4,AN]at h;have IY:i=ds.length:=by omega
  subst IY;refine .inl ⟨it.stop Aw (B7.trans B4.AV.sub),?_⟩;have k:Eg ⟨F.K,Ae,H1,Jh⟩ Cw Aw:=B4.AV;exact h acc ys Aw Cw (Eg.of AE k) (Wy.trans ⟨k.FP,k.BN,k.new⟩) (Wy.h.gone A1) h1 h2 h3
end
mutual
noncomputable def D1:D->D->Bool
 |.non,.non=>true
 |.AI a,.AI b=>a==b
 |.AI a,.int b=>(if a then 1 else 0)==b
 |.int a,.AI b=>a==(if b then 1 else 0)
 |.int a,.int b=>a==b
 |.str a,.str b=>a==b
 |.tup xs,.tup ys=>EJ xs ys
 |.tup xs,.DB ys=>EJ xs ys
 |.DB xs,.tup ys=>EJ xs ys
 |.DB xs,.DB ys=>EJ xs ys
 |.lst xs,.lst ys=>EJ xs ys
 |.lst xs,.Cs ys=>EJ xs ys
 |.Cs xs,.lst ys=>EJ xs ys
 |.Cs xs,.Cs ys=>EJ xs ys
 |_,_=>false
noncomputable def EJ:List D->List D->Bool
 |[],[]=>true
 |x::xs,y::ys=>D1 x y&&EJ xs ys
 |_,_=>false
end
noncomputable def okN:Nat->D->Bool
 |_,.non=>true
 |_,.AI _=>true
 |_,.int _=>true
 |_,.str _=>true
 |n+1,.tup xs=>xs.all (okN n)
 |n+1,.DB xs=>xs.all (okN n)
 |n+1,.lst xs=>xs.all (okN n)
 |n+1,.Cs xs=>xs.all (okN n)
 |_,_=>false
inductive KF(s:AL)(P:D->A4->Prop):D->A4->Prop where
 |non:KF s P .non .none
 |AI (b:Bool):KF s P (.AI b) (.bool b)
 |int (i:Int) (t:Tok):KF s P (.int i) (.int i t)
 |str (x:Str) (t:Tok):KF s P (.str x) (.str x t)
 |tup (a:A3) (ds:List D) (its:List A4) (h:s.heap.IsTuple a its.toArray) (l:ds.length=its.length) (p:∀(i:Nat) d u,ds[i]?=some d->its[i]?=some u->P d u):KF s P (.tup ds) (.ref a)
 |DB (a:A3) (ds:List D) (its:List A4) (h:s.heap.IsTuple a its.toArray) (l:ds.length=its.length) (p:∀(i:Nat) d u,ds[i]?=some d->its[i]?=some u->P d u):KF s P (.DB ds) (.ref a)
 |lst (a:A3) (ds:List D) (its:List A4) (h:s.heap.IsList a its.toArray) (l:ds.length=its.length) (p:∀(i:Nat) d u,ds[i]?=some d->its[i]?=some u->P d u):KF s P (.lst ds) (.ref a)
 |Cs (a:A3) (ds:List D) (its:List A4) (h:s.heap.IsList a its.toArray) (l:ds.length=its.length) (p:∀(i:Nat) d u,ds[i]?=some d->its[i]?=some u->P d u):KF s P (.Cs ds) (.ref a)
def N3(K:AZ)(G:A8)(d:D)(u:A4):Prop:=∃x,At K G d x/\RelV x u
section
variable{X:AY}{pins:List (A3×Obj)}{σ :St}{H G:A8}{s:AL}
def TW{K:AZ}{ds:List D}{xs:List V}{its:List A4}(q:Ac K G ds xs)(r:Vals xs its):∀(i:Nat) d u,ds[i]?=some d->its[i]?=some u->N3 K G d u:=λi d u AD AR=>by obtain⟨v,C2,a⟩:=q.get AD;obtain⟨H8,E7,Bj⟩:=r.get C2;rw[AR]at E7;cases E7;exact⟨v,a,Bj⟩
def Pk(I:Inv X pins σ H s)(B7:Sub G H){d:D}{u:A4}{n:Nat}(ok:okN n d=true)(h:N3 X.K G d u):KF s (N3 X.K G) d u:=by
 obtain⟨x,a,r⟩:=h;cases d with
 |non=>simp only[At]at a;subst a;cases r;exact .non
 |AI b=>simp only[At]at a;subst a;cases r;exact .AI b
 |int i=>simp only[At]at a;subst a;obtain⟨t,rfl⟩:=r;exact .int i t
 |str i=>simp only[At]at a;subst a;obtain⟨t,rfl⟩:=r;exact .str i t
 |tup ds=>simp only[At]at a;obtain⟨p,xs,rfl,Ab,al⟩:=a;cases r;obtain⟨its,Bj,BB,_⟩:=I.tuple (CA.of (B7 _ _ Ab));exact .tup p ds its BB (al.length.trans Bj.length) (TW al Bj)
 |lst ds=>simp only[At]at a;obtain⟨p,xs,rfl,Ab,al⟩:=a;cases r;obtain⟨its,Bj,BB,_⟩:=I.list (Bp.of (B7 _ _ Ab));exact .lst p ds its BB.isList (al.length.trans Bj.length) (TW al Bj)
 |Cs ds=>simp only[At]at a;obtain⟨p,xs,rfl,Ab,al⟩:=a;cases r;obtain⟨its,Bj,BB,_⟩:=I.list (Bp.mono B7 Ab);exact .Cs p ds its BB.isList (al.length.trans Bj.length) (TW al Bj)
 |Di A_ xs=>cases n<;>cases ok
 |B5 A_ xs=>cases n<;>cases ok
 |ins C ns xs=>cases n<;>cases ok
 |S8 C=>cases n<;>cases ok
 |fn C=>cases n<;>cases ok
 |DB ds=>simp only[At]at a;obtain⟨p,xs,rfl,Ab,al⟩:=a;cases r;obtain⟨its,Bj,BB,_⟩:=I.tuple (CA.mono B7 Ab);exact .DB p ds its BB (al.length.trans Bj.length) (TW al Bj)
theorem eU:∀{xs ys:List D},xs.length≠ys.length->EJ xs ys=false
 |[],[],h=>absurd rfl h
 |[],_::_,_=>by simp only[EJ]
 |_::_,[],_=>by simp only[EJ]
 |x::xs,y::ys,h=>by simp only[EJ];rw[eU (λe=>h (by simp[e])),jN]
def M5(xs ys:List D)(j:Nat):Bool:=match xs[j]?,ys[j]? with
 |some x,some y=>D1 x y
 |_,_=>true
def tY(f:Nat->Bool)(n:Nat):(DT (n+1)).all f=(f 0&&(DT n).all λj=>f (j+1)):=by rw[List.range_succ_eq_map,Ry,YB];rfl
theorem eV:∀{xs ys:List D},xs.length=ys.length->(DT xs.length).all (M5 xs ys)=EJ xs ys
 |[],[],_=>by simp[EJ]
 |[],_::_,h=>by simp at h
 |_::_,[],h=>by simp at h
 |x::xs,y::ys,h=>by
  rw[Eo,tY];have e:(λj=>M5 (x::xs) (y::ys) (j+1))=M5 xs ys:=by
   funext j
   simp[M5]
  rw[e,eV (by simpa using h)];simp only[EJ];rfl
def in1_units(A:C3):A.in1.units=A.units+1:=rfl
def rF{A:C3}{P:D->A4->Prop}{d1 CC:D}{u v:A4}(h1:KF s P d1 u)(h2:KF s P CC v)(CY:Gm d1=true)(CN:Gm CC=true) :
  UV A s u v (D1 d1 CC)/\Y4 A s u v (D1 d1 CC)/\YC A s u v (!D1 d1 CC):=by
 cases h1<;>cases h2<;>first
  |(cases CY;done)
  |(cases CN;done)
  |(simp only[D1,UP,jQ];refine⟨?_,?_,?_⟩<;>with_reducible first|exact .same _|exact .none_none|exact .none_bool _|exact .none_int _ _|exact .none_str _ _|exact .bool_none _|exact .bool_bool _ _|exact .bool_int _ _ _|exact .bool_str _ _ _|exact .int_none _ _|exact .int_bool _ _ _|exact .int_int _ _ _ _|exact .int_str _ _ _ _|exact .str_none _ _|exact .str_bool _ _ _|exact .str_int _ _ _ _|exact .str_str _ _ _ _)
def ow{A:C3}{P:D->A4->Prop}{d1 CC:D}{u v:A4}(BX:A.units<E4)(h1:KF s P d1 u)(h2:KF s P CC v)(o:Gm d1=true/\Gm CC=false\/Gm d1=false/\Gm CC=true) :
  UV A s u v (D1 d1 CC)/\Y4 A s u v (D1 d1 CC)/\YC A s u v (!D1 d1 CC):=by
 cases h1<;>cases h2<;>first
  |(rcases o with⟨Dv,Co⟩|⟨Dv,Co⟩<;>first|(cases Dv;done)|(cases Co;done))
  |(simp only[D1,jQ];refine⟨?_,?_,?_⟩<;>with_reducible first|exact .none_tuple ‹_› BX|exact .none_list ‹_› BX|exact .bool_tuple _ ‹_› BX|exact .bool_list _ ‹_› BX|exact .int_tuple _ _ ‹_› BX|exact .int_list _ _ ‹_› BX|exact .str_tuple _ _ ‹_› BX|exact .str_list _ _ ‹_› BX|exact .tuple_none ‹_› BX|exact .list_none ‹_› BX|exact .tuple_bool _ ‹_› BX|exact .list_bool _ ‹_› BX|exact .tuple_int _ _ ‹_› BX|exact .list_int _ _ ‹_› BX|exact .tuple_str _ _ ‹_› BX|exact .list_str _ _ ‹_› BX)
theorem lH:∀{xs ys:List D},xs.length=ys.length->(∀(i:Nat) x y,xs[i]?=some x->ys[i]?=some y->D1 x y=true)->EJ xs ys=true
 |[],[],_,_=>by simp only[EJ]
 |[],_::_,h,_=>by simp at h
 |_::_,[],h,_=>by simp at h
 |x::xs,y::ys,h,k=>by simp only[EJ];rw[k 0 x y rfl rfl,lH (by simpa using h) λi a b AD AR=>k (i+1) a b (by simpa using AD) (by simpa using AR)];rfl
def rH{K:AZ}{d1 CC:D}{x:V}(CY:Gm d1=true)(a1:At K G d1 x)(a2:At K G CC x):D1 d1 CC=true:=by
 cases d1 with
 |non=>simp only[At]at a1;subst a1;cases CC<;>simp only[At]at a2<;>first|(simp only[D1];done)|(cases a2;done)|(obtain⟨a,xs,e,_⟩:=a2;cases e;done)|(obtain⟨a,Ar,xs,e,_⟩:=a2;cases e;done)
 |AI b=>simp only[At]at a1;subst a1;cases CC<;>simp only[At]at a2<;>first|(cases a2;simp only[D1,beq_self_eq_true];done)|(cases a2;done)|(obtain⟨a,xs,e,_⟩:=a2;cases e;done)|(obtain⟨a,Ar,xs,e,_⟩:=a2;cases e;done)
 |int b=>simp only[At]at a1;subst a1;cases CC<;>simp only[At]at a2<;>first|(cases a2;simp only[D1,beq_self_eq_true];done)|(cases a2;done)|(obtain⟨a,xs,e,_⟩:=a2;cases e;done)|(obtain⟨a,Ar,xs,e,_⟩:=a2;cases e;done)
 |str b=>simp only[At]at a1;subst a1;cases CC<;>simp only[At]at a2<;>first|(cases a2;simp only[D1,beq_self_eq_true];done)|(cases a2;done)|(obtain⟨a,xs,e,_⟩:=a2;cases e;done)|(obtain⟨a,Ar,xs,e,_⟩:=a2;cases e;done)
 |_=>cases CY
def m8{d1 CC:D}(CN:Gm CC=true)(CY:Gm d1=false){K:AZ}{x:V}(a1:At K G d1 x)(a2:At K G CC x):False:=by
 cases CC<;>first
  |(cases CN;done)
  |(simp only[At]at a2;subst a2
    cases d1<;>first
     |(cases CY;done)
     |(simp only[At]at a1;obtain⟨a,xs,e,_⟩:=a1;cases e;done)
     |(simp only[At]at a1;obtain⟨a,Ar,xs,e,_⟩:=a1;cases e;done))
inductive Gy(K:AZ)(G:A8):D->A3->Bool->List D->List V->Prop where
 |tup {a ds xs} (h:CA K G a xs) (q:Ac K G ds xs):Gy K G (.tup ds) a true ds xs
 |DB {a ds xs} (h:CA K G a xs) (q:Ac K G ds xs):Gy K G (.DB ds) a true ds xs
 |lst {a ds xs} (h:G a=some (.lst xs)) (q:Ac K G ds xs):Gy K G (.lst ds) a false ds xs
 |Cs {a ds xs} (h:Bp K G a xs) (q:Ac K G ds xs):Gy K G (.Cs ds) a false ds xs
def Tw{K:AZ}{n:Nat}{d:D}{x:V}(o:okN n d=true)(ns:Gm d=false)(a:At K G d x):∃p b ds xs,x=.ref p/\Gy K G d p b ds xs/\∃m,n=m+1/\ds.all (okN m)=true:=by
 cases d with
 |tup ds=>
  simp only[At]at a;obtain⟨p,xs,e,h,q⟩:=a;cases n with
  |zero=>cases o
  |succ m=>exact⟨p,_,ds,xs,e,.tup (CA.of h) q,m,rfl,o⟩
 |lst ds=>
  simp only[At]at a;obtain⟨p,xs,e,h,q⟩:=a;cases n with
  |zero=>cases o
  |succ m=>exact⟨p,_,ds,xs,e,.lst h q,m,rfl,o⟩
 |Cs ds=>
  simp only[At]at a;obtain⟨p,xs,e,h,q⟩:=a;cases n with
  |zero=>cases o
  |succ m=>exact⟨p,_,ds,xs,e,.Cs h q,m,rfl,o⟩
 |Di _ _=>cases n<;>cases o
 |B5 _ _=>cases n<;>cases o
 |ins _ _ _=>cases n<;>cases o
 |S8 _=>cases n<;>cases o
 |fn _=>cases n<;>cases o
 |DB ds=>
  simp only[At]at a;obtain⟨p,xs,e,h,q⟩:=a;cases n with
  |zero=>cases o
  |succ m=>exact⟨p,_,ds,xs,e,.DB h q,m,rfl,o⟩
 |_=>cases ns
def Gy.HK{K:AZ}{d:D}{p:A3}{b:Bool}{ds:List D}{xs:List V}(h:Gy K G d p b ds xs):Ac K G ds xs:=by cases h<;>assumption
def Gy.eq{K:AZ}{d1 CC:D}{Dd Cd:A3}{EE DZ:Bool}{Gg Gh:List D}{PS PT:List V}(h1:Gy K G d1 Dd EE Gg PS)(h2:Gy K G CC Cd DZ Gh PT):D1 d1 CC=(EE==DZ&&EJ Gg Gh):=by cases h1<;>cases h2<;>simp[D1]
theorem Gy.heap(I:Inv X pins σ H s)(B7:Sub G H){d:D}{p:A3}{b:Bool}{ds:List D}{xs:List V}(h:Gy X.K G d p b ds xs) :
  ∃its:List A4,Vals xs its/\(b=true->s.heap.IsTuple p its.toArray)/\(b=false->s.heap.IsList p its.toArray):=by
 cases h with
 |tup h q=>obtain⟨its,Bj,BB,_⟩:=I.tuple (CA.mono B7 h);exact⟨its,Bj,λ_=>BB,λz=>by cases z⟩
 |DB h q=>obtain⟨its,Bj,BB,_⟩:=I.tuple (CA.mono B7 h);exact⟨its,Bj,λ_=>BB,λz=>by cases z⟩
 |lst h q=>obtain⟨its,Bj,BB,_⟩:=I.list (Bp.of (B7 _ _ h));exact⟨its,Bj,(λz=>by cases z),λ_=>BB.isList⟩
 |Cs h q=>obtain⟨its,Bj,BB,_⟩:=I.list (Bp.mono B7 h);exact⟨its,Bj,(λz=>by cases z),λ_=>BB.isList⟩
def Gy.same(I:Inv X pins σ H s)(B7:Sub G H){d1 CC:D}{p:A3}{EE DZ:Bool}{Gg Gh:List D}{PS PT:List V}(h1:Gy X.K G d1 p EE Gg PS)(h2:Gy X.K G CC p DZ Gh PT):EE=DZ/\PS=PT:=by
 obtain⟨J6,AE,t1,Dq⟩:=h1.heap I B7;obtain⟨Hd,B4,Hn,BR⟩:=h2.heap I B7;cases EE with
 |true=>
  cases DZ with
  |false=>exact absurd rfl (t7 (BR rfl) (t1 rfl))
  |true=>
   refine⟨rfl,?_⟩;cases h1<;>cases h2<;>
   exact I.bD (CA.mono B7 (by assumption)) (CA.mono B7 (by assumption))
 |false=>
  cases DZ with
  |true=>exact absurd rfl (t7 (Dq rfl) (Hn rfl))
  |false=>
   refine⟨rfl,?_⟩;have g1:Bp X.K H p PS:=by
    cases h1 with
    |lst h q=>exact Bp.of (B7 _ _ h)
    |Cs h q=>exact Bp.mono B7 h
   have g2:Bp X.K H p PT:=by
    cases h2 with
    |lst h q=>exact Bp.of (B7 _ _ h)
    |Cs h q=>exact Bp.mono B7 h
   exact I.aU g1 g2
def SL{f:D->Bool}{ds:List D}(h:ds.all f=true){i:Nat}{d:D}(e:ds[i]?=some d):f d=true:=List.all_eq_true.mp h d (F8 e)
def ur(I:Inv X pins σ H s)(B7:Sub G H):∀(n:Nat){d1 CC:D}{x:V},okN n d1=true->okN n CC=true->At X.K G d1 x->At X.K G CC x->D1 d1 CC=true:=by
 intro n;induction n with
 |zero=>intro d1 CC x CY CN a1 a2;exact rH (by cases d1<;>first|rfl|(cases CY)) a1 a2
 |succ n Br=>
  intro d1 CC x CY CN a1 a2;cases s1:Gm d1 with
  |true=>exact rH s1 a1 a2
  |false=>
   cases s2:Gm CC with
   |true=>exact(m8 s2 s1 a1 a2).elim
   |false=>
    obtain⟨Dd,EE,Gg,PS,AD,Aa,m1,m5,k1⟩:=Tw CY s1 a1;obtain⟨Cd,DZ,Gh,PT,AR,B0,m2,Oz,k2⟩:=Tw CN s2 a2;subst AD;cases AR;have:n=m1:=by omega
    subst this;have:n=m2:=by omega
    subst this;obtain⟨BC,ex⟩:=Aa.same I B7 B0;subst BC;subst ex;rw[Aa.eq B0,beq_self_eq_true,Xt];refine lH (Aa.HK.length.trans B0.HK.length.symm) λi a b Ai BC=>?_;obtain⟨v,ev,Av⟩:=Aa.HK.get Ai;obtain⟨LP,Vo,bv⟩:=B0.HK.get BC;rw[ev]at Vo;cases Vo;exact Br (SL k1 Ai) (SL k2 BC) Av bv
def eT(I:Inv X pins σ H s)(B7:Sub G H):∀(n:Nat){d1 CC:D}{u v:A4}{A:C3},okN n d1=true->okN n CC=true->N3 X.K G d1 u->N3 X.K G CC v->A.units+n<E4->
  UV A s u v (D1 d1 CC)/\Y4 A s u v (D1 d1 CC)/\YC A s u v (!D1 d1 CC):=by
 intro n;induction n with
 |zero=>
  intro d1 CC u v A CY CN a1 a2 BX;refine rF (Pk I B7 CY a1) (Pk I B7 CN a2) ?_ ?_
  .cases d1<;>first|rfl|(cases CY)
  .cases CC<;>first|rfl|(cases CN)
 |succ n Br=>
  intro d1 CC u v A CY CN a1 a2 BX;have LA:A.units<E4:=by omega
  cases s1:Gm d1 with
  |true=>
   cases s2:Gm CC with
   |true=>exact rF (Pk I B7 CY a1) (Pk I B7 CN a2) s1 s2
   |false=>exact ow LA (Pk I B7 CY a1) (Pk I B7 CN a2) (.inl ⟨s1,s2⟩)
  |false=>
   cases s2:Gm CC with
   |true=>exact ow LA (Pk I B7 CY a1) (Pk I B7 CN a2) (.inr ⟨s1,s2⟩)
   |false=>
    obtain⟨F7,l0,adA⟩:=a1;obtain⟨Hy,at2,adB⟩:=a2;obtain⟨Dd,EE,Gg,PS,AD,Aa,m1,m5,k1⟩:=Tw CY s1 l0;obtain⟨Cd,DZ,Gh,PT,AR,B0,m2,Oz,k2⟩:=Tw CN s2 at2;subst AD;subst AR;cases adA;cases adB;have:n=m1:=by omega
    subst this;have:n=m2:=by omega
    subst this;obtain⟨J6,AE,t1,Dq⟩:=Aa.heap I B7;obtain⟨Hd,B4,Hn,BR⟩:=B0.heap I B7;have Nv:Gg.length=J6.length:=Aa.HK.length.trans AE.length;have WT:Gh.length=Hd.length:=B0.HK.length.trans B4.length;have item:∀j(h1:j<J6.toArray.size)(h2:j<Hd.toArray.size),UV A.in1 s J6.toArray[j] Hd.toArray[j] (M5 Gg Gh j):=λj h1 h2=>by
     have Nq:j<Gg.length:=by rw[Nv];simpa using h1
     have J7:j<Gh.length:=by rw[WT];simpa using h2
     have g1:N3 X.K G Gg[j] J6.toArray[j]:=TW Aa.HK AE j _ _ (Dw Nq) (by simp at h1;simp[h1]);have g2:N3 X.K G Gh[j] Hd.toArray[j]:=TW B0.HK B4 j _ _ (Dw J7) (by simp at h2;simp[h2]);have:=(Br (A:=A.in1) (SL k1 (Dw Nq)) (SL k2 (Dw J7)) g1 g2 (by rw[in1_units];omega)).1;unfold M5;rw[Dw Nq,Dw J7];exact this
    have whole:Y4 A s (.ref Dd) (.ref Cd) (D1 d1 CC)/\YC A s (.ref Dd) (.ref Cd) (!D1 d1 CC):=by
     rw[Aa.eq B0];cases EE with
     |true=>
      cases DZ with
      |false=>exact⟨SeqAt.RcAt.tuple_list (t1 rfl) (BR rfl) LA,SeqAt.RcNeAt.tuple_list (t1 rfl) (BR rfl) LA⟩
      |true=>
       have BP:=SeqAt.RcAt.tuples (e:=M5 Gg Gh) (t1 rfl) (Hn rfl) LA item;have Ce:=SeqAt.RcNeAt.tuples (e:=M5 Gg Gh) (t1 rfl) (Hn rfl) LA item;have eq:((DT (min J6.toArray.size Hd.toArray.size)).all (M5 Gg Gh)&&J6.toArray.size==Hd.toArray.size)=(true==true&&EJ Gg Gh):=by
        rw[DO,DO,<-Nv,<-WT,beq_self_eq_true,Xt];by_cases AF:Gg.length=Gh.length
        .rw[<-AF,Nat.min_self,eV AF,beq_self_eq_true,jS]
        .rw[eU AF];have:(Gg.length==Gh.length)=false:=by simpa using AF
         rw[this,jN]
       rw[eq]at BP;refine⟨BP,?_⟩
       first
        |(rw[eq]at Ce;exact Ce)
        |exact Ce
     |false=>
      cases DZ with
      |true=>exact⟨SeqAt.RcAt.list_tuple (Dq rfl) (Hn rfl) LA,SeqAt.RcNeAt.list_tuple (Dq rfl) (Hn rfl) LA⟩
      |false=>
       rw[beq_self_eq_true,Xt];by_cases AF:Gg.length=Gh.length
       .have BP:=SeqAt.RcAt.lists (e:=M5 Gg Gh) (Dq rfl) (BR rfl) (by rw[DO,DO,<-Nv,<-WT];exact AF) LA item;have Ce:=SeqAt.RcNeAt.lists (e:=M5 Gg Gh) (Dq rfl) (BR rfl) (by rw[DO,DO,<-Nv,<-WT];exact AF) LA item;rw[DO,<-Nv,eV AF]at BP Ce;exact⟨BP,Ce⟩
       .have BL:(J6.toArray.size !=Hd.toArray.size)=true:=by
          rw[DO,DO,<-Nv,<-WT];simpa using AF
        rw[eU AF];exact⟨SeqAt.RcAt.lists_lengths (Dq rfl) (BR rfl) BL LA,SeqAt.RcNeAt.lists_lengths (Dq rfl) (BR rfl) BL LA⟩
    refine⟨?_,whole⟩;by_cases Am:Dd=Cd
    .subst Am;rw[ur I B7 (n+1) CY CN l0 at2];exact SeqAt.EqAt.same _
    .exact SeqAt.EqAt.of_refs Am whole.1
end
def notStar:AT->Bool
 |.Starred .. =>false
 |_=>true
def qq(e:AT)(es:List AT)(env:Env)(h:notStar e=true):Ap (e::es) env=(false,BE e env)::Ap es env:=by cases e<;>first|rfl|(cases h)
def NY:AT->Bool
 |.ListComp .. =>false
 |.SetComp .. =>false
 |.DictComp .. =>false
 |_=>true
def M_(e:AT)(t:Option AT)(l:Nat)(env:Env)(h:NY e=true):MV e t l env=pure false:=by cases e<;>first|rfl|(cases h)
def abr:AT->Bool
 |.Slice .. =>false
 |_=>true
def Af{b:AT}(h:abr b=true:=by rfl):c8 b:=λo i=>by cases b<;>first|rfl|(cases h)
section
variable{X:AY}{F:BK}{e a b c:AT}{es:List AT}{pos:Pos}
def Ao.imp{t t':TE}(h:Ao X e t)(i:El t' t):Ao X e t':=λpins s σ H Q I hw=>h pins s σ H Q I (i σ H Q hw)
def FD.imp{t t':TT}(h:FD X e t)(i:O4 t' t):FD X e t':=λpins s σ H Q I hw=>h pins s σ H Q I (i σ H Q hw)
def Ix.imp{t t':TT}(h:Ix X e t)(i:O4 t' t):Ix X e t':=λQg pins s σ H Q I hw=>h Qg pins s σ H Q I (i σ H Q hw)
def F1.imp{t t':EX}(h:F1 X es t)(i:Sr t' t):F1 X es t':=λp pins s σ H Q I hw=>h p pins s σ H Q I (i σ H Q hw)
def DF.imp{st:B9}{t t':Ew}(h:DF X st t)(i:I5 t' t):DF X st t':=λpins s σ H CZ I hw=>h pins s σ H CZ I (i CZ σ H hw)
def GU.imp{st:List B9}{t t':Ew}(h:GU X st t)(i:I5 t' t):GU X st t':=λpins s σ H CZ I hw=>h pins s σ H CZ I (i CZ σ H hw)
def GF.imp{Bd:AT}{t t':TI}(h:GF X Bd e t)(i:P4 t' t):GF X Bd e t':=λpins s σ H Q I hw=>h pins s σ H Q I (i σ H Q hw)
abbrev KB(X:AY)(F:BK)(e:AT)(m:AX):Prop:=Ao X e (Ca F m)
abbrev js(X:AY)(F:BK)(e:AT)(m:Al):Prop:=Ao X e (Je F m)
abbrev k7(X:AY)(F:BK)(e:AT)(m:C9):Prop:=FD X e (GL F m)
abbrev jn(X:AY)(F:BK)(es:List AT)(m:Al):Prop:=F1 X es (EM F m)
abbrev jk(X:AY)(F:BK)(st:B9)(m:Ay):Prop:=DF X st (Fd F m)
abbrev u5(X:AY)(F:BK)(st:List B9)(m:Ay):Prop:=GU X st (Fd F m)
abbrev Un(X:AY)(F:BK)(Bd e:AT)(m:Al):Prop:=GF X Bd e (LO F m)
def vV{x:Str}{v:V}{u:A4}{d:D}(hm:X.mg x=some u)(r:RelV v u)(at':∀G,At F.K G d v)(AW:DI X x:=by rfl)(hd:(x==("__debug__" :Str))=false:=by decide):KB X F (.Name x pos) (A7 d):=
 Ao.imp (qS AW hm r hd) (V_ at')
variable{st:B9}{O_:List B9}
def Nd{op:Operator}{r:EI}{f:D->D->R D}{m n:AX}(AN:DX X (IR op) r)(hf:G3 F r f)(A1:KB X F a m)(J:KB X F b n):KB X F (.BinOp a op b pos) (A9 f m n):=Ao.imp (Zi AN A1 J) (V2 hf)
def Vl{op:Jz}{r:EI}{f:D->D->R D}{m n:AX}(AN:DX X (FK op) r)(hf:G3 F r f)(A1:KB X F a m)(J:KB X F b n)(hm:HV op b=false):KB X F (.Compare a [op] [b] pos) (A9 f m n):=Ao.imp (acy AN A1 J hm) (V2 hf)
def Ob{op:Jz}{r:EI}{f:D->D->R D}{m n:AX}(AN:DX X (FK op) r)(hf:G3 F r f)(A1:KB X F a m)(J:KB X F b n)(hm:HV op b=false):k7 X F (.Compare a [op] [b] pos) (B2 (A9 f m n)):=
 FD.imp (adk AN A1 J hm) λσ H Q h=>by obtain⟨G,ρ,r,k⟩:=nf (F:=F) (m:=A9 f m n) σ H Q h;exact V2 hf σ H _ ⟨G,ρ,r,k⟩
def LD(f:Int->Int->R D):D->D->R D
 |.int i,.int j=>f i j
 |_,_=>.bad
def WD{g:Int->Int->V}{f:Int->Int->D}(h:∀i j G,At F.K G (f i j) (g i j)):G3 F (Li g) (LD λi j=>.ok (f i j)):=by
 intro σ ρ G H x y Ar FG Q r B_ C1 k;unfold LD at k
 split at k
 .rename_i i j;simp only[At]at B_ C1;exact⟨i,j,B_,C1,k _ H G r (Bl.refl _ _) (h i j G)⟩
 .exact k.elim
def aC{C:Int->Int->Prop}[∀i j,Decidable (C i j)]{g:Int->Int->V}{f:Int->Int->D}(h:∀i j G,At F.K G (f i j) (g i j)):G3 F (TR C g) (LD λi j=>if C i j then .ok (f i j)else .bad):=by
 intro σ ρ G H x y Ar FG Q r B_ C1 k;unfold LD at k
 split at k
 .rename_i i j;simp only[At]at B_ C1;dsimp only at k
  split at k
  .rename_i AG;exact⟨i,j,B_,C1,AG,k _ H G r (Bl.refl _ _) (h i j G)⟩
  .exact k.elim
 .exact k.elim
instance(i j:Int):Decidable (YR i j):=by unfold YR;infer_instance
instance(i j:Int):Decidable (YS i j):=by unfold YS;infer_instance
instance(i j:Int):Decidable (Sm i j):=by unfold Sm;infer_instance
def Kc:=LD λi j=>.ok (.int (i-j))
def MD:=LD λi j=>if Sm i j then .ok (.int (i*j))else .bad
def K8:=LD λi j=>if YR i j then .ok (.int (i/j))else .bad
def Dr:=LD λi j=>if 0<j then .ok (.int (i%j))else .bad
def OP:=LD λi j=>if YS i j then .ok (.int (i^j.toNat))else .bad
def Nw:=LD λi j=>.ok (.AI (decide (i<j)))
def J8:=LD λi j=>.ok (.AI (decide (i<=j)))
def SB:=LD λi j=>.ok (.AI (decide (j<i)))
variable{m n:AX}
noncomputable def Cy:D->D->R D
 |.int i,.int j=>.ok (.int (i+j))
 |.str x,.str y=>if x.length+y.length<=1000000 then .ok (.str (x++y))else .bad
 |.lst xs,.lst ys=>if xs.length+ys.length<=1000000 then .ok (.lst (xs++ys))else .bad
 |_,_=>.bad
def abH:G3 F (λx y H Q=>Li (λi j=>.int (i+j)) x y H Q\/(∃i j,x=.str i/\y=.str j/\i.length+j.length<=CF/\Q (.str (i++j)) H)\/ps x y H Q) Cy:=by
 intro σ ρ G H x y Ar FG Q r B_ C1 k;unfold Cy at k
 split at k
 .rename_i i j;simp only[At]at B_ C1;exact .inl ⟨i,j,B_,C1,k _ H G r (Bl.refl _ _) (by simp only[At])⟩
 .rename_i i j;simp only[At]at B_ C1
  split at k
  .rename_i AF;exact .inr (.inl ⟨i,j,B_,C1,EB AF (by decide),k _ H G r (Bl.refl _ _) (by simp only[At])⟩)
  .exact k.elim
 .rename_i ds es;simp only[At]at B_ C1
  split at k
  .rename_i AF;obtain⟨p,xs,AD,h1,Aa⟩:=B_;obtain⟨Cd,ys,AR,h2,B0⟩:=C1;refine .inr (.inr ⟨p,Cd,xs,ys,AD,AR,r.AV.sub _ _ h1,r.AV.sub _ _ h2,by rw[<-Aa.length,<-B0.length];exact EB AF (by decide),λl AU=>?_⟩);refine k (.ref l) _ _ (r.lay AU) (Bl.lay r.AV.sub AU) ?_;simp only[At];exact⟨l,xs++ys,rfl,Du,(Aa.append B0).mono (Sub.upd (r.AV.sub.gone AU))⟩
  .exact k.elim
 .exact k.elim
def Bz(b:Bool)(x y:D):R D:=if okN 8 x=true/\okN 8 y=true then .ok (.AI (if b then D1 x y else !D1 x y))else .bad
def ga(F:BK)(b:Bool):EI:=λx y H Q=>∃G d1 CC,Sub G H/\At F.K G d1 x/\At F.K G CC y/\okN 8 d1=true/\okN 8 CC=true/\Q (.AI (if b then D1 d1 CC else !D1 d1 CC)) H
def qC(Ag:F.K=X.K)(BX:X.A.units+64<E4):DX X (FK .Eq) (ga F true):=by intro pins s σ H x y v u Q I BF Bo h;obtain⟨G,d1,CC,B7,a1,a2,CY,CN,q⟩:=h;rw[Ag]at a1 a2;exact(eT I B7 8 (A:=X.A) CY CN ⟨x,a1,BF⟩ ⟨y,a2,Bo⟩ (by omega)).2.1 X.prog X.w X.xe _ ⟨.AI _,H,I,rfl,q⟩
def qG(Ag:F.K=X.K)(BX:X.A.units+64<E4):DX X (FK .NotEq) (ga F false):=by intro pins s σ H x y v u Q I BF Bo h;obtain⟨G,d1,CC,B7,a1,a2,CY,CN,q⟩:=h;rw[Ag]at a1 a2;exact(eT I B7 8 (A:=X.A) CY CN ⟨x,a1,BF⟩ ⟨y,a2,Bo⟩ (by omega)).2.2 X.prog X.w X.xe _ ⟨.AI _,H,I,rfl,q⟩
def aB(b:Bool):G3 F (ga F b) (Bz b):=by
 intro σ ρ G H x y Ar FG Q r B_ C1 k;unfold Bz at k
 split at k
 .rename_i AN;exact⟨G,Ar,FG,r.AV.sub,B_,C1,AN.1,AN.2,k _ H G r (Bl.refl _ _) (by simp only[At])⟩
 .exact k.elim
end
section
variable{X:AY}{F:BK}{e a b c:AT}{es:List AT}{pos:Pos}{m n:AX}
theorem lI:∀{ds RK:List D},ds.length=RK.length->(∀(i:Nat) x y,ds[i]?=some x->RK[i]?=some y->∀z,D1 x z=D1 y z)->∀es,EJ ds es=EJ RK es
 |[],[],_,_,_=>rfl
 |[],_::_,h,_,_=>by simp at h
 |_::_,[],h,_,_=>by simp at h
 |x::xs,y::ys,h,k,[]=>by simp only[EJ]
 |x::xs,y::ys,h,k,e::es=>by simp only[EJ];rw[k 0 x y rfl rfl e,lI (by simpa using h) (λi a b AD AR=>k (i+1) a b (by simpa using AD) (by simpa using AR)) es]
def rG{K:AZ}{G:A8}{d d':D}{x:V}(o:Gm d=true)(a1:At K G d x)(a2:At K G d' x):d=d':=by
 cases d with
 |non=>simp only[At]at a1;subst a1;cases d'<;>simp only[At]at a2<;>first|rfl|(cases a2;done)|(obtain⟨a,xs,e,_⟩:=a2;cases e;done)|(obtain⟨a,Ar,xs,e,_⟩:=a2;cases e;done)
 |AI b=>simp only[At]at a1;subst a1;cases d'<;>simp only[At]at a2<;>first|(cases a2;rfl)|(cases a2;done)|(obtain⟨a,xs,e,_⟩:=a2;cases e;done)|(obtain⟨a,Ar,xs,e,_⟩:=a2;cases e;done)
 |int b=>simp only[At]at a1;subst a1;cases d'<;>simp only[At]at a2<;>first|(cases a2;rfl)|(cases a2;done)|(obtain⟨a,xs,e,_⟩:=a2;cases e;done)|(obtain⟨a,Ar,xs,e,_⟩:=a2;cases e;done)
 |str b=>simp only[At]at a1;subst a1;cases d'<;>simp only[At]at a2<;>first|(cases a2;rfl)|(cases a2;done)|(obtain⟨a,xs,e,_⟩:=a2;cases e;done)|(obtain⟨a,Ar,xs,e,_⟩:=a2;cases e;done)
 |_=>cases o
def Gy.val{K:AZ}{G:A8}{d:D}{p:A3}{b:Bool}{ds:List D}{xs:List V}(h:Gy K G d p b ds xs)(e:D):D1 d e=match e with
  |.tup es=>b&&EJ ds es
  |.DB es=>b&&EJ ds es
  |.lst es=>!b&&EJ ds es
  |.Cs es=>!b&&EJ ds es
  |_=>false:=by
 cases h<;>cases e<;>simp[D1]
section
variable{pins:List (A3×Obj)}{σ :St}{H G:A8}{s:AL}
def uq(I:Inv X pins σ H s)(B7:Sub G H):∀(n:Nat){d d':D}{x:V},okN n d=true->okN n d'=true->At X.K G d x->At X.K G d' x->∀e,D1 d e=D1 d' e:=by
 intro n;induction n with
 |zero=>intro d d' x CY CN a1 a2 e;rw[rG (by cases d<;>first|rfl|(cases CY)) a1 a2]
 |succ n Br=>
  intro d d' x CY CN a1 a2 e;cases s1:Gm d with
  |true=>rw[rG s1 a1 a2]
  |false=>
   cases s2:Gm d' with
   |true=>exact(m8 s2 s1 a1 a2).elim
   |false=>
    obtain⟨Dd,EE,Gg,PS,AD,Aa,m1,m5,k1⟩:=Tw CY s1 a1;obtain⟨Cd,DZ,Gh,PT,AR,B0,m2,Oz,k2⟩:=Tw CN s2 a2;subst AD;cases AR;have:n=m1:=by omega
    subst this;have:n=m2:=by omega
    subst this;obtain⟨BC,ex⟩:=Aa.same I B7 B0;subst BC;subst ex;have el:∀es,EJ Gg es=EJ Gh es:=lI (Aa.HK.length.trans B0.HK.length.symm) λi a b Ai BC z=>by obtain⟨v,ev,Av⟩:=Aa.HK.get Ai;obtain⟨LP,Vo,bv⟩:=B0.HK.get BC;rw[ev]at Vo;cases Vo;exact Br (SL k1 Ai) (SL k2 BC) Av bv z
    rw[Aa.val,B0.val];cases e<;>first|rfl|(simp only[el])
open Classical in
noncomputable def Ly(K:AZ)(G:A8)(d:D)(u:A4):Bool:=if h:∃d',okN 7 d'=true/\N3 K G d' u then D1 (tP h) d else false
def cG(I:Inv X pins σ H s)(B7:Sub G H){d d1:D}{u:A4}(o:okN 7 d=true)(h:N3 X.K G d u):Ly X.K G d1 u=D1 d d1:=by have AA:∃d',okN 7 d'=true/\N3 X.K G d' u:=⟨d,o,h⟩;unfold Ly;rw[dif_pos AA];obtain⟨BS,h'⟩:=tL AA;obtain⟨x,a,r⟩:=h;obtain⟨ahT,K0,BM⟩:=h';have:ahT=x:=BM.inj r;subst this;exact uq I B7 7 BS o K0 a d1
theorem cH(I:Inv X pins σ H s)(B7:Sub G H){d1:D}:∀{ds:List D}{xs:List V}{its:List A4},Ac X.K G ds xs->Vals xs its->ds.all (okN 7)=true->its.any (Ly X.K G d1)=ds.any λy=>D1 y d1
 |[],_,_,q,r,_=>by simp only[Ac]at q;subst q;cases r;rfl
 |d::ds,_,_,q,r,o=>by
  simp only[Ac]at q;obtain⟨v,bL,rfl,Av,OD⟩:=q;cases r with
  |cons AE B4=>rw[Ry,HT]at o;rw[QG,QG,cG I B7 o.1 ⟨v,Av,AE⟩,cH I B7 OD B4 o.2]
theorem Zz(I:Inv X pins σ H s)(B7:Sub G H){d1:D}{x:V}{v:A4}{A:C3}(BX:A.units+8<E4)(CY:okN 7 d1=true)(a1:At X.K G d1 x)(BF:RelV x v):∀{ds:List D}{xs:List V}{its:List A4},Ac X.K G ds xs->Vals xs its->ds.all (okN 7)=true->
  ∀u∈its,UV A s u v (Ly X.K G d1 u)
 |[],_,_,q,r,_=>by simp only[Ac]at q;subst q;cases r;exact λu BX=>nomatch BX
 |d::ds,_,_,q,r,o=>by
  simp only[Ac]at q;obtain⟨w,wr,rfl,Av,OD⟩:=q;cases r with
  |cons AE B4=>
   rw[Ry,HT]at o;intro H8 hm;rcases List.mem_cons.mp hm with e|hm
   .subst e;rw[cG I B7 o.1 ⟨w,Av,AE⟩];exact(eT I B7 7 (A:=A) o.1 CY ⟨w,Av,AE⟩ ⟨x,a1,BF⟩ (by omega)).1
   .exact Zz I B7 BX CY a1 BF OD B4 o.2 H8 hm
end
def WQ:D->Option (List D)
 |.tup ys=>some ys
 |.DB ys=>some ys
 |.lst ys=>some ys
 |.Cs ys=>some ys
 |_=>none
def inD(b:Bool)(x y:D):R D:=match WQ y with
 |some ys=>if okN 7 x=true/\ys.all (okN 7)=true then .ok (.AI (if b then ys.any (λy=>D1 y x)else !ys.any λy=>D1 y x))else .bad
 |none=>.bad
noncomputable def gb(F:BK)(b:Bool):EI:=λx y H Q=>∃G d1 CC p ds xs k,Sub G H/\At F.K G d1 x/\y=.ref p/\Gy F.K G CC p k ds xs/\okN 7 d1=true/\ds.all (okN 7)=true/\Q (.AI (if b then ds.any (λy=>D1 y d1)else !ds.any λy=>D1 y d1)) H
def qD(Ag:F.K=X.K)(BX:X.A.units+64<E4):DX X (FK .In) (gb F true):=by
 intro pins s σ H x y v u Q I BF Bo h;obtain⟨G,d1,CC,p,ds,xs,k,B7,a1,rfl,Gn,CY,CN,q⟩:=h;rw[Ag]at a1 Gn;cases Bo;obtain⟨its,AE,t1,Dq⟩:=Gn.heap I B7;have q:Q (.AI (ds.any λy=>D1 y d1)) H:=q;rw[<-cH I B7 Gn.HK AE CN]at q;have hm:=Zz I B7 (A:=X.A.in1) (d1:=d1) (by rw[in1_units];omega) CY a1 BF Gn.HK AE CN;cases k with
 |true=>exact SeqAt.in_tupleAt (Ly X.K G d1) (t1 rfl) (λw hw=>hm w (by simpa using hw)) ⟨.AI _,H,I,rfl,by simpa using q⟩
 |false=>exact SeqAt.in_listAt (Ly X.K G d1) (Dq rfl) (λw hw=>hm w (by simpa using hw)) ⟨.AI _,H,I,rfl,by simpa using q⟩
def abD(Ag:F.K=X.K)(BX:X.A.units+64<E4):DX X (FK .NotIn) (gb F false):=by
 intro pins s σ H x y v u Q I BF Bo h;obtain⟨G,d1,CC,p,ds,xs,k,B7,a1,rfl,Gn,CY,CN,q⟩:=h;rw[Ag]at a1 Gn;cases Bo;obtain⟨its,AE,t1,Dq⟩:=Gn.heap I B7;have q:Q (.AI (!ds.any λy=>D1 y d1)) H:=q;rw[<-cH I B7 Gn.HK AE CN]at q;have hm:=Zz I B7 (A:=X.A.in1) (d1:=d1) (by rw[in1_units];omega) CY a1 BF Gn.HK AE CN;cases k with
 |true=>exact SeqAt.notIn_tupleAt (Ly X.K G d1) (t1 rfl) (λw hw=>hm w (by simpa using hw)) ⟨.AI _,H,I,rfl,by simpa using q⟩
 |false=>exact SeqAt.notIn_listAt (Ly X.K G d1) (Dq rfl) (λw hw=>hm w (by simpa using hw)) ⟨.AI _,H,I,rfl,by simpa using q⟩
def ag0{K:AZ}{G:A8}{d:D}{x:V}{ds:List D}(e:WQ d=some ds)(a:At K G d x):∃p xs k,x=.ref p/\Gy K G d p k ds xs:=by
 cases d<;>first
  |(cases e;done)
  |(cases e
    simp only[At]at a;obtain⟨p,xs,e,h,q⟩:=a
    first
     |exact⟨p,xs,_,e,.tup (CA.of h) q⟩
     |exact⟨p,xs,_,e,.DB h q⟩
     |exact⟨p,xs,_,e,.lst h q⟩
     |exact⟨p,xs,_,e,.Cs h q⟩)
def fK(b:Bool):G3 F (gb F b) (inD b):=by
 intro σ ρ G H x y Ar FG Q r B_ C1 k;unfold inD at k;cases e:WQ FG with
 |none=>rw[e]at k;cases k
 |some ys=>
  rw[e]at k;dsimp only at k
  split at k
  .rename_i AN;obtain⟨p,xs,CW,EK,Gn⟩:=ag0 e C1;exact⟨G,Ar,FG,p,ys,xs,CW,r.AV.sub,B_,EK,Gn,AN.1,AN.2,k _ H G r (Bl.refl _ _) (by simp only[At])⟩
  .exact k.elim
def JV:D->Bool
 |.non=>true
 |_=>false
def H6(b:Bool):D->D->R D
 |x,.non=>.ok (.AI (if b then JV x else !JV x))
 |_,_=>.bad
def fX{K:AZ}{G:A8}{d:D}{x:V}(a:At K G d x):JV d=decide (x=.non):=by
 cases d<;>simp only[At]at a<;>first
  |(subst a;simp[JV];done)
  |(obtain⟨p,xs,e,_⟩:=a;subst e;simp[JV];done)
  |(obtain⟨p,Ar,xs,e,_⟩:=a;subst e;simp[JV];done)
def JZ(f g:D->D->R D)(a b c:AX):AX:=λρ=>(a ρ).bind λx=>(b ρ).bind λy=>(f x y).bind λz=>(K2 z).bind λk=>if k=true then(c ρ).bind λw=>g y w else .ok (.AI false)
def nh{r BM:EI}{f g:D->D->R D}{l:AX}(hf:G3 F r f)(AW:G3 F BM g):El (Ca F (JZ f g m n l)) (gz r BM (Ca F m) (Ca F n) (Ca F l)):=by
 rintro σ H Q ⟨G,ρ,gf,h⟩;unfold JZ at h;refine⟨G,ρ,gf,?_⟩;refine rb h λAr Ai h x H1 Ae AE s1 B_=>?_;refine⟨Ae,ρ,AE,?_⟩;refine rb h λFG BC h y Aw Cw B4 s2 C1=>?_;refine hf σ ρ Cw Aw x y Ar FG _ B4 (B_.mono s2.g) C1 ?_;refine rb h λwB RL h z Cx Gd E2 s3 PH=>?_;cases wB with
 |AI k=>
  simp only[At]at PH;refine⟨k,PH,?_⟩;have h:Ib F G H σ ρ Q (if k=true then(l ρ).bind λw=>g FG w else .ok (.AI false)):=h;cases k with
  |false=>rw[if_neg IN]at h |-;exact h _ Cx Gd E2 (s1.trans (s2.trans s3)) (by simp only[At])
  |true=>rw[if_pos rfl]at h |-;refine⟨Gd,ρ,E2,?_⟩;refine rb h λwA ec h w Gw Uk LK s4 I8=>?_;exact AW σ ρ Uk Gw y w FG wA Q LK ((C1.mono s3.g).mono s4.g) I8 (h.mono (s1.trans (s2.trans (s3.trans s4))))
 |_=>cases h
def abP:G3 F (Li λi j=>.AI (decide (i<j))) Nw:=WD λ_ _ _=>by simp only[At]
def R2:G3 F (Li λi j=>.AI (decide (i<=j))) J8:=WD λ_ _ _=>by simp only[At]
end
section
variable{X:AY}{F:BK}{e a b c:AT}{es:List AT}{pos p:Pos}{m n:AX}{ma:Al}
def Bm(f:List D->R D)(m:Al):AX:=λρ=>(m ρ).bind f
def MH(F:BK)(r:List V->A8->C_->Prop)(f:List D->R D):Prop:=∀ σ ρ G H xs ds Q,Rel F G H σ ρ->Ac F.K G ds xs->Ib F G H σ ρ Q (f ds)->r xs H Q
def ng{r:List V->A8->C_->Prop}{f:List D->R D}(hf:MH F r f):El (Ca F (Bm f ma)) (b0 r (EM F ma)):=by rintro σ H Q ⟨G,ρ,gf,h⟩;unfold Bm at h;refine⟨G,ρ,gf,?_⟩;refine rb h λds Ai h vs H1 Ae AE s1 a=>?_;exact hf σ ρ Ae H1 vs ds Q AE a (h.mono s1)
def eN{x:Str}{id:String}{r:List V->A8->C_->Prop}{f:List D->R D}(AG:Gu X (.builtin id) r)(hf:MH F r f)(hm:X.mg x=none)(Be:Js x=some (.builtin id))(A1:jn X F (e::es) ma)(AW:DI X x:=by rfl)(AU:x≠"__name__":=by decide)(Fn:(x==("__debug__" :Str))=false:=by decide)(he:Ap (e::es) X.env=(false,BE e X.env)::Ap es X.env:=by rfl)(Cz:(Cj pos (Ap es X.env)).any (·.1)=false:=by rfl):KB X F (.Call (.Name x p) (e::es) [] pos) (Bm f ma):=
 Ao.imp (fT AG AW hm Be A1 AU Fn he Cz) (ng hf)
def Vk{x:Str}{T:String}{r:List V->A8->C_->Prop}{f:List D->R D}(AG:Gu X (.type T) r)(hf:MH F r f)(hm:X.mg x=none)(Be:Js x=some (.type T))(A1:jn X F (e::es) ma)(AW:DI X x:=by rfl)(AU:x≠"__name__":=by decide)(Fn:(x==("__debug__" :Str))=false:=by decide)(he:Ap (e::es) X.env=(false,BE e X.env)::Ap es X.env:=by rfl)(Cz:(Cj pos (Ap es X.env)).any (·.1)=false:=by rfl):KB X F (.Call (.Name x p) (e::es) [] pos) (Bm f ma):=
 Ao.imp (en AG AW hm Be A1 AU Fn he Cz) (ng hf)
noncomputable def CQ:List D->R D
 |[.str x]=>if x.length<=1000000 then .ok (.int x.length)else .bad
 |[.lst xs]=>.ok (.int xs.length)
 |[.Cs xs]=>.ok (.int xs.length)
 |[.tup xs]=>.ok (.int xs.length)
 |[.DB xs]=>.ok (.int xs.length)
 |_=>.bad
def Ac.one{K:AZ}{G:A8}{d:D}{vs:List V}(a:Ac K G [d] vs):∃v,vs=[v]/\At K G d v:=by simp only[Ac]at a;obtain⟨v,r,rfl,h,rfl⟩:=a;exact⟨v,rfl,h⟩
def Ac.two{K:AZ}{G:A8}{d e:D}{vs:List V}(a:Ac K G [d,e] vs):∃v w,vs=[v,w]/\At K G d v/\At K G e w:=by simp only[Ac]at a;obtain⟨v,r,rfl,h,w,BM,rfl,h',rfl⟩:=a;exact⟨v,w,rfl,h,h'⟩
def abO(Ag:F.K=X.K):MH F (λxs H Q=>∃x n,xs=[x]/\jz X.K x H n/\Q (.int n) H) CQ:=by
 intro σ ρ G H xs ds Q r al k;unfold CQ at k
 split at k
 .rename_i x;obtain⟨v,rfl,Av⟩:=al.one;simp only[At]at Av;subst Av
  split at k
  .rename_i AF;exact⟨_,x.length,rfl,⟨EB AF (by decide),rfl⟩,k _ H G r (Bl.refl _ _) (by simp only[At])⟩
  .exact k.elim
 .rename_i ys;obtain⟨v,rfl,Av⟩:=al.one;simp only[At]at Av;obtain⟨q,xs,rfl,h,al⟩:=Av;rw[al.length]at k;exact⟨_,xs.length,rfl,.inl ⟨xs,Bp.of (r.AV.sub _ _ h),rfl⟩,k _ H G r (Bl.refl _ _) (by simp only[At])⟩
 .rename_i ys;obtain⟨v,rfl,Av⟩:=al.one;simp only[At]at Av;obtain⟨q,xs,rfl,h,al⟩:=Av;rw[al.length]at k;rw[Ag]at h;exact⟨_,xs.length,rfl,.inl ⟨xs,Bp.mono r.AV.sub h,rfl⟩,k _ H G r (Bl.refl _ _) (by simp only[At])⟩
 .rename_i ys;obtain⟨v,rfl,Av⟩:=al.one;simp only[At]at Av;obtain⟨q,xs,rfl,h,al⟩:=Av;rw[al.length]at k;exact⟨_,xs.length,rfl,.inr ⟨xs,CA.of (r.AV.sub _ _ h),rfl⟩,k _ H G r (Bl.refl _ _) (by simp only[At])⟩
 .rename_i ys;obtain⟨v,rfl,Av⟩:=al.one;simp only[At]at Av;obtain⟨q,xs,rfl,h,al⟩:=Av;rw[al.length]at k;rw[Ag]at h;exact⟨_,xs.length,rfl,.inr ⟨xs,CA.mono r.AV.sub h,rfl⟩,k _ H G r (Bl.refl _ _) (by simp only[At])⟩
 .exact k.elim
noncomputable def Wx:D->Option String
 |.non=>some "NoneType"
 |.AI _=>some "bool"
 |.int _=>some "int"
 |.str _=>some "str"
 |.lst _=>some "list"
 |.Cs _=>some "list"
 |.tup _=>some "tuple"
 |.DB _=>some "tuple"
 |.Di _ _=>some "dict"
 |.B5 _ _=>some "dict"
 |_=>none
def hc(T U:String):Bool:=T==U||(T=="bool"&&U=="int")
def Cp(U:String)(d:D):R D:=match Wx d with
 |some T=>.ok (.AI (hc T U))
 |none=>.bad
def RB(K:AZ)(U:String):Prop:=∀T,T="NoneType"\/T="bool"\/T="int"\/T="str"\/T="list"\/T="tuple"\/T="dict"->PySem.W.kitOne K (.type T) (.type U)=some (hc T U)
def iH(K:AZ):RB K "int":=λT h=>by rcases h with rfl|rfl|rfl|rfl|rfl|rfl|rfl<;>kernel_rfl
def sG(K:AZ):RB K "bool":=λT h=>by rcases h with rfl|rfl|rfl|rfl|rfl|rfl|rfl<;>kernel_rfl
def Wu(K:AZ):RB K "str":=λT h=>by rcases h with rfl|rfl|rfl|rfl|rfl|rfl|rfl<;>kernel_rfl
def Of(K:AZ):RB K "list":=λT h=>by rcases h with rfl|rfl|rfl|rfl|rfl|rfl|rfl<;>kernel_rfl
def Qe(K:AZ):RB K "tuple":=λT h=>by rcases h with rfl|rfl|rfl|rfl|rfl|rfl|rfl<;>kernel_rfl
def yB{pins:List (A3×Obj)}{σ :St}{H G:A8}{s:AL}{Q:A4->AL->Prop}{E:A4->AL->Prop}{d:D}{x:V}{u:A4}{T U:String}{k:Bool}(I:Inv X pins σ H s)(B7:Sub G H)(at':At X.K G d x)(BF:RelV x u)(e:Wx d=some T)(tt:PySem.W.kitOne X.K (.type T) (.type U)=some k)(h:∀C8,Q (.bool k) { s with toks:=C8 }):An (BA X.prog X.w) X.A (call (.builtin "isinstance") [u,.type U]) Q E s:=by
 cases d with
 |non=>cases e;simp only[At]at at';subst at';cases BF;exact ML PySem.W.kitx_none I.FI MQ tt (λz=>nomatch z) h
 |AI b=>cases e;simp only[At]at at';subst at';cases BF;exact ML PySem.W.kitx_bool I.FI MQ tt (λz=>nomatch z) h
 |int b=>cases e;simp only[At]at at';subst at';obtain⟨t,rfl⟩:=BF;exact ML PySem.W.kitx_int I.FI MQ tt (λz=>nomatch z) h
 |str b=>cases e;simp only[At]at at';subst at';obtain⟨t,rfl⟩:=BF;exact ML PySem.W.kitx_str I.FI MQ tt (λz=>nomatch z) h
 |lst ds=>cases e;simp only[At]at at';obtain⟨q,xs,rfl,Ab,_⟩:=at';cases BF;obtain⟨its,_,⟨o,n,AD,AR,_⟩,_⟩:=I.list (Bp.of (B7 _ _ Ab));exact ML tE I.FI ⟨o,AD,AR⟩ tt (λz=>nomatch z) h
 |Cs ds=>cases e;simp only[At]at at';obtain⟨q,xs,rfl,Ab,_⟩:=at';cases BF;obtain⟨its,_,⟨o,n,AD,AR,_⟩,_⟩:=I.list (Bp.mono B7 Ab);exact ML tE I.FI ⟨o,AD,AR⟩ tt (λz=>nomatch z) h
 |tup ds=>cases e;simp only[At]at at';obtain⟨q,xs,rfl,Ab,_⟩:=at';cases BF;obtain⟨its,_,⟨o,AD,AR,_⟩,_⟩:=I.tuple (CA.of (B7 _ _ Ab));exact ML tH I.FI ⟨o,AD,AR⟩ tt (λz=>nomatch z) h
 |DB ds=>cases e;simp only[At]at at';obtain⟨q,xs,rfl,Ab,_⟩:=at';cases BF;obtain⟨its,_,⟨o,AD,AR,_⟩,_⟩:=I.tuple (CA.mono B7 Ab);exact ML tH I.FI ⟨o,AD,AR⟩ tt (λz=>nomatch z) h
 |Di A_ ds=>cases e;simp only[At]at at';obtain⟨q,xs,rfl,Ab,_⟩:=at';cases BF;obtain⟨_,_,vs,_,o,es,C5,h1,h2,_⟩:=(show FC X.prog X.w H s.heap q (.Di xs)from I.BU q _ (B7 _ _ Ab));exact ML tF I.FI ⟨o,h1,h2.1⟩ tt (λz=>nomatch z) h
 |B5 A_ ds=>cases e;simp only[At]at at';obtain⟨q,xs,rfl,Ab,_⟩:=at';cases BF;obtain⟨_,_,zs,_,o,es,C5,h1,h2,_⟩:=(show FC X.prog X.w H s.heap q (.B5 xs)from I.BU q _ (B7 _ _ Ab));exact ML tF I.FI ⟨o,h1,h2.1⟩ tt (λz=>nomatch z) h
 |ins C ns ds=>cases e
 |S8 C=>cases e
 |fn C=>cases e
def ah3{d:D}{T:String}(e:Wx d=some T):T="NoneType"\/T="bool"\/T="int"\/T="str"\/T="list"\/T="tuple"\/T="dict":=by cases d<;>cases e<;>simp
def ae6(F:BK)(U:String):List V->A8->C_->Prop:=λxs H Q=>∃G d x T,Sub G H/\xs=[x,.ty U]/\At F.K G d x/\Wx d=some T/\Q (.AI (hc T U)) H
def uR{U:String}(Ag:F.K=X.K)(tt:RB X.K U):Gu X (.builtin "isinstance") (ae6 F U):=by intro pins s σ H xs us Q I r h;obtain⟨G,d,x,T,B7,rfl,a,e,q⟩:=h;obtain⟨u,Ff,rfl,BF,Ds⟩:=vals2 r;obtain rfl:Ff=NL U:=Ds;rw[Ag]at a;exact yB I B7 a BF e (tt T (ah3 e)) λC8=>⟨.AI _,H,I.tok C8,rfl,q⟩
noncomputable def AO:D->D->R D
 |.lst xs,.int i=>match HJ xs i with|some d=>.ok d|none=>.bad
 |.Cs xs,.int i=>match HJ xs i with|some d=>.ok d|none=>.bad
 |.tup xs,.int i=>match HJ xs i with|some d=>.ok d|none=>.bad
 |.DB xs,.int i=>match HJ xs i with|some d=>.ok d|none=>.bad
 |.str x,.int i=>if x.length<=1000000 then match HJ x.cps.toList i with|some c=>.ok (.str ⟨#[c]⟩)|none=>.bad else .bad
 |_,_=>.bad
def ZJ{K:AZ}{G:A8}{ds:List D}{xs:List V}{i:Int}{d:D}(q:Ac K G ds xs)(e:HJ ds i=some d):∃v,HJ xs i=some v/\At K G d v:=by
 unfold HJ at e |-;rw[q.length]at e;cases Jq:M6 xs.length i with
 |none=>rw[Jq]at e;cases e
 |some j=>rw[Jq]at e;obtain⟨v,AD,a⟩:=q.get e;exact⟨v,AD,a⟩
def abN(Ag:F.K=X.K):G3 F (q0 X.K) AO:=by
 intro σ ρ G H x y Ar FG Q r B_ C1 k;unfold AO at k
 split at k
 .rename_i ds i;simp only[At]at B_ C1;obtain⟨p,xs,e,h,q⟩:=B_
  split at k
  .rename_i d EC;obtain⟨v,ev,Av⟩:=ZJ q EC;exact .inl ⟨p,xs,i,v,e,C1,Bp.of (r.AV.sub _ _ h),ev,k _ H G r (Bl.refl _ _) Av⟩
  .exact k.elim
 .rename_i ds i;simp only[At]at B_ C1;obtain⟨p,xs,e,h,q⟩:=B_
  split at k
  .rename_i d EC;obtain⟨v,ev,Av⟩:=ZJ q EC;have h':=h;rw[Ag]at h';exact .inl ⟨p,xs,i,v,e,C1,Bp.mono r.AV.sub h',ev,k _ H G r (Bl.refl _ _) Av⟩
  .exact k.elim
 .rename_i ds i;simp only[At]at B_ C1;obtain⟨p,xs,e,h,q⟩:=B_
  split at k
  .rename_i d EC;obtain⟨v,ev,Av⟩:=ZJ q EC;exact .inr (.inl ⟨p,xs,i,v,e,C1,CA.of (r.AV.sub _ _ h),ev,k _ H G r (Bl.refl _ _) Av⟩)
  .exact k.elim
 .rename_i ds i;simp only[At]at B_ C1;obtain⟨p,xs,e,h,q⟩:=B_
  split at k
  .rename_i d EC;obtain⟨v,ev,Av⟩:=ZJ q EC;have h':=h;rw[Ag]at h';exact .inr (.inl ⟨p,xs,i,v,e,C1,CA.mono r.AV.sub h',ev,k _ H G r (Bl.refl _ _) Av⟩)
  .exact k.elim
 .rename_i z i;simp only[At]at B_ C1
  split at k
  .rename_i AF
   split at k
   .rename_i c ec;exact .inr (.inr ⟨z,i,c,B_,C1,EB AF (by decide),ec,k _ H G r (Bl.refl _ _) (by simp only[At])⟩)
   .exact k.elim
  .exact k.elim
 .exact k.elim
end
section
variable{X:AY}{F:BK}{e a b c:AT}{es:List AT}{pos p:Pos}{m n:AX}{ma:Al}
def FF{α:Type}(xs:List α)(lo AC:Option Int):List α:=(xs.drop (Dx.Ez xs.length 0 lo)).take (Dx.Ez xs.length xs.length AC-Dx.Ez xs.length 0 lo)
def RH(x:Str)(lo AC:Option Int):Str:=⟨(FF x.cps.toList lo AC).toArray⟩
def afL(lo AC:Option Int)(n:Nat):t9 lo AC 1 n=(DT (Dx.Ez n n AC-Dx.Ez n 0 lo)).map (Dx.Ez n 0 lo+·):=by
 rw[<-sliceRange_one];unfold t9;simp only[show(1:Int)>0 by decide,if_true]
 congr 1
 .cases lo with
  |none=>rfl
  |some i=>
   show max 0 (min (if i<0 then i+(n:Int)else i) (n:Int))=((if i<0 then(i+(n:Int)).toNat else min i.toNat n:Nat):Int)
   split<;>omega
 .cases AC with
  |none=>rfl
  |some i=>
   show max 0 (min (if i<0 then i+(n:Int)else i) (n:Int))=((if i<0 then(i+(n:Int)).toNat else min i.toNat n:Nat):Int)
   split<;>omega
def adF(n:Nat)(v:Option Int){d:Nat}(hd:d<=n):Dx.Ez n d v<=n:=by
 cases v with
 |none=>exact hd
 |some i=>
  show(if i<0 then(i+(n:Int)).toNat else min i.toNat n)<=n
  split<;>omega
def afw(x:Str)(lo AC:Option Int):UT x lo AC=RH x lo AC:=by
 have AF:x.cps.toList.length=x.length:=by simp[Fm]
 unfold UT RH FF;rw[afL,AF]
 split
 .rename_i h;have h:Dx.Ez x.length x.length AC-Dx.Ez x.length 0 lo=x.length:=by simpa using h
  have h1:=adF x.length AC (CO _);have h2:Dx.Ez x.length 0 lo=0\/x.length=0:=by omega
  have e:(x.cps.toList.drop (Dx.Ez x.length 0 lo)).take (Dx.Ez x.length x.length AC-Dx.Ez x.length 0 lo)=x.cps.toList:=by
   rw[h];rcases h2 with z|z
   .rw[z,List.drop_zero,XU (by omega)]
   .have Cc:x.cps.toList=[]:=List.length_eq_zero_iff.mp (by omega);rw[Cc];simp
  rw[e]
 .rw[pick_run]
def pT:V->Option Int->Option Int->A8->C_->Prop:=λx lo AC H Q=>∃z,x=.str z/\z.length<=CF/\Q (.str (RH z lo AC)) H
def qM{v:A4}{o:Option Int}(h:IsPart v o):∃l:Option (Int×Tok),v=partValue l/\l.map (·.1)=o:=by
 cases h with
 |none=>exact⟨none,rfl,rfl⟩
 |int i t=>exact⟨some (i,t),rfl,rfl⟩
theorem aft:RA X pT:=by
 intro pins s σ H x v LQ LR lo AC CJ Q I BF hs pl pu h;obtain⟨z,rfl,BL,q⟩:=h;obtain⟨t,rfl⟩:=BF;obtain⟨l,rfl,el⟩:=qM pl;obtain⟨u,rfl,Mh⟩:=qM pu;refine⟨"str",_,F.slot_str_getitem.lookup,typeIs_str s z t,wpAny_getItem_str_slice (l:=l) (u:=u) (st:=none) ?_ rfl ?_⟩
 .obtain⟨o,h1,h2,h3⟩:=hs;exact⟨o,h1,h2,h3⟩
 .have e:UT z lo AC=RH z lo AC:=afw z lo AC;have fin:∀t' k,G1 X pins σ Q (.str (UT z lo AC) t') { s with toks:=k }:=λt' k=>⟨.str (RH z lo AC),H,I.tok k,⟨t',by rw[e]⟩,q⟩;unfold UT at fin;subst el Mh;exact post_val_or_str ⟨EB (Txt.slice_le z _ _) BL,fin⟩
abbrev P5:=AH->R (Option Int)
def LI:P5:=λ_=>.ok none
def intD:D->R (Option Int)
 |.int i=>.ok (some i)
 |_=>.bad
def J9(m:AX):P5:=λρ=>(m ρ).bind intD
def zu(F:BK)(G H:A8)(σ :St)(ρ:AH)(Q:Option Int->A8->Prop):R (Option Int)->Prop
 |.ok o=>∀H' G',Rel F G' H' σ ρ->Bl G H G' H'->Q o H'
 |.exc c=>JW F c
 |.bad=>False
def hD(F:BK)(m:P5):BV:=λσ H Q=>∃G ρ,Rel F G H σ ρ/\zu F G H σ ρ Q (m ρ)
def JA(f:D->Option Int->Option Int->R D)(m:AX)(lo AC:P5):AX:=λρ=>(m ρ).bind λd=>(lo ρ).bind λl=>(AC ρ).bind λh=>f d l h
def JF(d:D)(l h:Option Int):R D:=match d with
 |.lst xs=>.ok (.lst (FF xs l h))
 |.Cs xs=>.ok (.lst (FF xs l h))
 |.str x=>if x.length<=1000000 then .ok (.str (RH x l h))else .bad
 |_=>.bad
def Ac.cut{K:AZ}{G:A8}{ds:List D}{xs:List V}(q:Ac K G ds xs)(l h:Option Int):Ac K G (FF ds l h) (S_ xs l h):=by unfold FF S_;rw[q.length];exact(q.drop _).take _
def z7(Ag:F.K=X.K){lo AC:P5}:El (Ca F (JA JF m lo AC)) (r5 (λx lo AC H Q=>pS X.K x lo AC H Q\/pT x lo AC H Q) (Ca F m) (hD F lo) (hD F AC)):=by
 rintro σ H Q ⟨G,ρ,r,h⟩;unfold JA at h;refine⟨G,ρ,r,?_⟩;refine rb h λd Ai h x H1 Ae AE s1 B_=>?_;refine⟨Ae,ρ,AE,?_⟩;refine rb h λl el h Aw Cw B4 s2=>?_;refine⟨Cw,ρ,B4,?_⟩;refine rb h λu aif h Cx Gd E2 s3=>?_;have up:=s1.trans (s2.trans s3);have SN:=(B_.mono s2.g).mono s3.g;cases d with
 |lst ds=>simp only[At]at SN;obtain⟨q,xs,rfl,Ab,al⟩:=SN;refine .inl ⟨q,xs,rfl,Bp.of (E2.AV.sub _ _ Ab),λBR AU=>?_⟩;refine h (.ref BR) _ _ (E2.lay AU) (up.trans (Bl.lay E2.AV.sub AU)) ?_;simp only[At];exact⟨BR,_,rfl,Du,(al.cut l u).mono (Sub.upd (E2.AV.sub.gone AU))⟩
 |Cs ds=>simp only[At]at SN;obtain⟨q,xs,rfl,Ab,al⟩:=SN;have PM:=Ab;rw[Ag]at PM;refine .inl ⟨q,xs,rfl,Bp.mono E2.AV.sub PM,λBR AU=>?_⟩;refine h (.ref BR) _ _ (E2.lay AU) (up.trans (Bl.lay E2.AV.sub AU)) ?_;simp only[At];exact⟨BR,_,rfl,Du,(al.cut l u).mono (Sub.upd (E2.AV.sub.gone AU))⟩
 |str z=>
  simp only[At]at SN;have h:Ib F G H σ ρ Q (if z.length<=1000000 then .ok (.str (RH z l u))else .bad):=h
  split at h
  .rename_i BL;exact .inr ⟨z,SN,EB BL (by decide),h _ Cx Gd E2 up (by simp only[At])⟩
  .exact h.elim
 |_=>cases h
def Jd:List D->R D
 |[.int i]=>if i.natAbs.log2<1920 then .ok (.str (toString i))else .bad
 |_=>.bad
def abT:MH F (λxs H Q=>∃i,xs=[.int i]/\i.natAbs.log2<1920/\Q (.str (toString i)) H) Jd:=by
 intro σ ρ G H xs ds Q r al k;unfold Jd at k
 split at k
 .rename_i i
  split at k
  .rename_i AF;exact⟨i,al.ints1,AF,k _ H G r (Bl.refl _ _) (by simp only[At])⟩
  .exact k.elim
 .exact k.elim
def bB:List D->R D
 |[.int i]=>.ok (.int i)
 |[.str x]=>if x.length<=640 then match intText? x with|some i=>.ok (.int i)|none=>.bad else .bad
 |_=>.bad
def kb:Gu X (.type "int") (λxs H Q=>(∃i,xs=[.int i]/\Q (.int i) H)\/∃x i,xs=[.str x]/\x.length<=640/\intText? x=some i/\Q (.int i) H):=by
 intro pins s σ H xs us Q I r h;rcases h with⟨i,rfl,q⟩|⟨x,i,rfl,AF,AC,q⟩
 .obtain⟨u,rfl,t,rfl⟩:=vals1 r;exact call_int_int ⟨.int i,H,I,⟨_,rfl⟩,q⟩
 .obtain⟨u,rfl,t,rfl⟩:=vals1 r;exact PySem.W.KIN.call_text AC AF ⟨.int i,H,I.tok _,⟨_,rfl⟩,q⟩
def abV:MH F (λxs H Q=>(∃i,xs=[.int i]/\Q (.int i) H)\/∃x i,xs=[.str x]/\x.length<=640/\intText? x=some i/\Q (.int i) H) bB:=by
 intro σ ρ G H xs ds Q r al k;unfold bB at k
 split at k
 .rename_i i;exact .inl ⟨i,al.ints1,k _ H G r (Bl.refl _ _) (by simp only[At])⟩
 .rename_i x
  split at k
  .rename_i AF
   split at k
   .rename_i i AC;obtain⟨v,rfl,Av⟩:=al.one;simp only[At]at Av;subst Av;exact .inr ⟨x,i,rfl,AF,AC,k _ H G r (Bl.refl _ _) (by simp only[At])⟩
   .exact k.elim
  .exact k.elim
 .exact k.elim
end
end CP
namespace C7
open PySem PySem.Spec
section
variable{prog:Bt}{w:Bg}{A:C3}{E:A4->AL->Prop}{s:AL}
def abk{it t:A3}{i:Nat}{items:Array A4}{x:A4}{Q:A4->AL->Prop}(hit:s.heap.IsTupleIter it t i)(BB:s.heap.IsTuple t items)(AA:items[i]?=some x)(GH:∀h',h'.IsTupleIter it t (i+1)->IP it s.heap h'->Q x { s with heap:=h' }):An (BA prog w) A (Ol (.ref it)) Q E s:=by
 obtain⟨o,AN,AG,hd⟩:=id hit;obtain⟨ol,Si,_,nl,SE⟩:=BB;unfold Ol
 refine Az (UI (name:=Rx "__next__") hit.typeIs XW
  (Rn XW hit.typeIs tA ?_ (t8 _)))
 show An _ _ (field (.ref it) 0>>=_) _ _ s;refine Az (IQ AN hd (x:=.ref t) rfl ?_);show An _ _ (if(Dm t==Gr)=true then _ else _) _ _ s;rw[if_neg (show¬((Dm t==Gr)=true)from IN)];show An _ _ (field (.ref it) 1>>=_) _ _ s;refine Az (IQ AN hd (x:=.int i 0) rfl ?_);show An _ _ (seqItems? (.ref t)>>=_) _ _ s;refine Az (MS Si SE ?_);simp only[Ri,AA];refine Az (Xr AN hd (by simp) (CK ⟨x,rfl,CK (GH _ ?_ (Xj ..))⟩));exact⟨_,XN _ AN (tM (Obj.data_mapFields hd _)),(Obj.cls_mapFields ..).trans AG,by
  rw[Obj.data_mapFields hd];simp[rawInt]⟩
def abj{it t:A3}{i:Nat}{items:Array A4}{Q:A4->AL->Prop}(BN:A.handled=none)(hit:s.heap.IsTupleIter it t i)(BB:s.heap.IsTuple t items)(AA:items[i]?=none)(H5:∀h' e,Heap.ExtBut it s.heap h'->(∃o,h'.get? e=some o/\o.cls=.type "StopIteration")->E (.ref e) { s with heap:=h' }):An (BA prog w) A (Ol (.ref it)) Q E s:=by
 obtain⟨o,AN,AG,hd⟩:=id hit;obtain⟨ol,Si,_,nl,SE⟩:=BB;unfold Ol
 refine Az (UI (name:=Rx "__next__") hit.typeIs XW
  (Rn XW hit.typeIs tA ?_ (t8 _)))
 show An _ _ (field (.ref it) 0>>=_) _ _ s;refine Az (IQ AN hd (x:=.ref t) rfl ?_);show An _ _ (if(Dm t==Gr)=true then _ else _) _ _ s;rw[if_neg (show¬((Dm t==Gr)=true)from IN)];show An _ _ (field (.ref it) 1>>=_) _ _ s;refine Az (IQ AN hd (x:=.int i 0) rfl ?_);show An _ _ (seqItems? (.ref t)>>=_) _ _ s;refine Az (MS Si SE ?_);simp only[Ri,AA];refine Az (wpAny_rule (Az (Xr AN hd (by simp) ?_)));show An _ _ (newExc (.type "StopIteration") []>>=_) _ _ _;refine Az ?_;simp only[newExc,newTuple];refine Az (j8 ?_ (by size_fits));refine Az (m:=firstArgMember _ _) (wpAny_of_eq (a:=Gr) (by first|rfl|(simp only[firstArgMember];rfl)) ?_);refine j8 ?_ (by size_fits);simp only[raiseNew];refine Az (wpAny_handled ?_)
 first|rw[show A.in1.handled=none from BN]|rw[BN]
 refine Az (CK (wpAny_throw ?_));exact H5 _ _ (((Xj ..).extBut.push _).push _) ⟨_,FV _ rfl,rfl⟩
def cq(BN:A.handled=none)(it l:A3)(M2:l≠it)(items:Array A4) :
  Kn prog w A it [it,l] items.size (λi v=>items[i]?=some v) (λi h=>h.IsTupleIter it l i/\h.IsTuple l items) where
 live:=λ_ _ st=>let⟨o,AN,_⟩:=st.1;⟨o,AN⟩
 frame:=λ_ _ _ st AQ=>⟨st.1.at λo e=>AQ it (by simp) o e,st.2.at λo e=>AQ l (by simp) o e⟩
 item:=λi s Q E AC st GH=>by refine abk st.1 st.2 (x:=items[i]) (by simp[AC]) λh' wM Ia=>?_;exact GH _ h' s.toks (by simp[AC]) ⟨wM,st.2.extBut Ia.extBut M2⟩ Ia
 done:=λs Q E st H5=>abj BN st.1 st.2 (by simp) H5
structure PF(z TI BV BG BH:A3)(f1 f2:List A3):Prop where
 TIz:TI≠z
 TOz:BV≠z
 TITO:TI≠BV
 TIi1:TI≠BG
 TIi2:TI≠BH
 TOi1:BV≠BG
 TOi2:BV≠BH
 i1z:BG≠z
 i2z:BH≠z
 i12:BG≠BH
 eY:z∉f1
 lM:BV∉f1
 vM:BH∉f1
 e_:z∉f2
 eZ:BV∉f2
 lN:BG∉f2
def L3{Ad:List A3}{n:Nat}{P:Nat->A4->Prop}{St:Nat->B1->Prop}{it b:A3}{h h':B1}{i:Nat}(D:Kn prog w A it Ad n P St)(st:St i h)(hs:IP b h h')(J:b∉Ad):St i h':=
 D.frame i h h' st λc AG o e=>hs.extBut c o (λz=>J (z▸AG)) e
def ahP {z TI BV BG BH:A3} {f1 f2:List A3} {DD Ch i:Nat} {Lu Lv:Nat->A4->Prop} {J1 J2:Nat->B1->Prop} {a b:A4} {Q:A4->AL->Prop} (GP:Kn prog w A BG f1 DD Lu J1) (GE:Kn prog w A BH f2 Ch Lv J2) (ap:PF z TI BV BG BH f1 f2)(BL:HW s.heap z TI BV .none) (FQ:FX s.heap TI (.ref BG) (.ref BH)) (Fw:FX s.heap BV a b) (h1:J1 i s.heap) (h2:J2 i s.heap) (Dq:i<DD) (BR:i<Ch)(GH:∀x y h' C8,Lu i x->Lv i y->HW h' z TI BV (rawInt s.heap.objs.size)->FX h' BV x y->J1 (i+1) h'->J2 (i+1) h'->FX h' s.heap.objs.size x y->h'.objs.size=s.heap.objs.size+1->
    (∀c o,c≠z->c≠BV->c≠BG->c≠BH->s.heap.get? c=some o->h'.get? c=some o)->Q (.ref s.heap.objs.size) { s with heap:=h',toks:=C8 }) :
  An (BA prog w) A (Builtin.«zip.__next__» ⟨[.ref z],[]⟩) (λfin s'=>∃v,fin=.done (.ret v)/\Q v s') E s:=by
 show An _ _ (field (.ref z) 2>>=_) _ _ _;refine Az (IQ BL rfl (x:=.bool false) rfl ?_);show An _ _ (field (.ref z) 3>>=_) _ _ _;refine Az (IQ BL rfl (x:=.ref TI) rfl ?_);refine Az (MS FQ rfl ?_);show An _ _ (XM (.ref z)>>=_) _ _ _;refine Az ?_;unfold XM;refine Az (IQ BL rfl (x:=.none) rfl (CK ?_));simp only[if_true];refine Az (wpAny_rule ?_);refine Az (IQ BL rfl (x:=.ref BV) rfl ?_);refine Az (Rt BL (by simp) λKN Px M3=>?_);replace Px:HW KN z TI BV .ellipsis:=Px;refine Az ?_;simp only[j2,List.zipIdx_nil,jZ,List.forIn_nil];refine Az (Az (Xu ?_));show An _ _ (Ol (.ref BG)>>=_) _ _ _;refine Az (GP.item i _ _ _ Dq (L3 GP h1 M3 ap.eY) λx M4 sJ AA qv KM=>CK ?_);have VH:FX M4 BV a b:=KM.extBut _ _ ap.TOi1 (M3.extBut _ _ ap.TOz Fw);refine Az (MS VH rfl ?_);refine Az (ig VH λMo ZC L9=>?_);replace ZC:FX Mo BV x b:=ZC;refine Az (wpAny_letGo (CK ?_));refine Az (Az (Xu ?_));show An _ _ (Ol (.ref BH)>>=_) _ _ _;have ag3:J2 i Mo:=L3 GE (L3 GE (L3 GE h2 M3 ap.e_) KM ap.lN) L9 ap.eZ;refine Az (GE.item i _ _ _ BR ag3 λy VX ajz BO afP Pv=>CK ?_);have ny:FX VX BV x b:=Pv.extBut _ _ ap.TOi2 ZC;refine Az (MS ny rfl ?_);refine Az (ig ny λHQ ZD Pw=>?_);replace ZD:FX HQ BV x y:=ZD;refine Az (wpAny_letGo (CK (CK ?_)));refine Az (MS ZD rfl ?_);refine Az (wpAny_newTuple ?_);have hsz:HQ.objs.size=s.heap.objs.size:=by rw[Pw.1,Pv.1,L9.1,KM.1,M3.1]
 have oM:HW HQ z TI BV .ellipsis:=Pw.extBut _ _ ap.TOz.symm (Pv.extBut _ _ ap.i2z.symm (L9.extBut _ _ ap.TOz.symm (KM.extBut _ _ ap.i1z.symm Px)));have xo:∀c o,c≠z->c≠BV->c≠BG->c≠BH->s.heap.get? c=some o->HQ.get? c=some o:=λc o BP Ce ER K3 e=>
  Pw.extBut _ _ Ce (Pv.extBut _ _ K3 (L9.extBut _ _ Ce (KM.extBut _ _ ER (M3.extBut _ _ BP e))))
 have ag2:J1 (i+1) HQ:=L3 GP (L3 GP (L3 GP qv L9 ap.lM) Pv ap.vM) Pw ap.lM;have ag4:J2 (i+1) HQ:=L3 GE afP Pw ap.eZ;have oJ:z<HQ.objs.size:=D3 oM;show An _ _ (so (.ref z) (.ref HQ.objs.size)>>=_) _ _ _;refine Az ?_;unfold so;have xf:HW (HQ.push { cls:=.type "tuple",data:=.seq #[x,y] }) z TI BV .ellipsis:=Cv _ oM;refine Az (Rt xf (by simp) λxh dq dj=>?_);replace dq:HW xh z TI BV (rawInt HQ.objs.size):=dq;refine Rt dq (by simp) λVY Yl dk=>?_;replace Yl:HW VY z TI BV (rawInt HQ.objs.size):=Yl;have up:∀c o,c≠z->HQ.get? c=some o->VY.get? c=some o:=λc o BP e=>dk.extBut _ _ BP (dj.extBut _ _ BP (Cv _ e));have o0:FX VY HQ.objs.size x y:=dk.extBut _ _ (MU oJ) (dj.extBut _ _ (MU oJ) (FV _ rfl));have oI:VY.objs.size=HQ.objs.size+1:=by rw[dk.1,dj.1,HU]
 rw[hsz]at Yl o0 oI;refine CK ⟨_,rfl,?_⟩;show Q (.ref HQ.objs.size) _;rw[hsz];exact GH x y VY _ AA BO Yl (up _ _ ap.TOz ZD) (GP.frame _ _ _ ag2 λc AG o e=>up c o (λq=>ap.eY (q▸AG)) e) (GE.frame _ _ _ ag4 λc AG o e=>up c o (λq=>ap.e_ (q▸AG)) e) o0 oI λc o BP Ce ER K3 e=>up c o BP (xo c o BP Ce ER K3 e)
def ahO{z TI BV BG BH:A3}{f1 f2:List A3}{DD Ch i:Nat}{Lu Lv:Nat->A4->Prop}{J1 J2:Nat->B1->Prop}{a b:A4}{Q:Fin->AL->Prop}(GP:Kn prog w A BG f1 DD Lu J1)(GE:Kn prog w A BH f2 Ch Lv J2)(ap:PF z TI BV BG BH f1 f2)(BL:HW s.heap z TI BV .none)(FQ:FX s.heap TI (.ref BG) (.ref BH))(Fw:FX s.heap BV a b)(h1:J1 i s.heap)(h2:J2 i s.heap)(e8:i=DD\/(i<DD/\i=Ch))(H5:∀h' e C8,(∀c o,c≠z->c≠BV->c≠BG->c≠BH->s.heap.get? c=some o->h'.get? c=some o)->(∃o,h'.get? e=some o/\o.cls=.type "StopIteration")->E (.ref e) { s with heap:=h',toks:=C8 }) :
  An (BA prog w) A (Builtin.«zip.__next__» ⟨[.ref z],[]⟩) Q E s:=by
 show An _ _ (field (.ref z) 2>>=_) _ _ _;refine Az (IQ BL rfl (x:=.bool false) rfl ?_);show An _ _ (field (.ref z) 3>>=_) _ _ _;refine Az (IQ BL rfl (x:=.ref TI) rfl ?_);refine Az (MS FQ rfl ?_);show An _ _ (XM (.ref z)>>=_) _ _ _;refine Az ?_;unfold XM;refine Az (IQ BL rfl (x:=.none) rfl (CK ?_));simp only[if_true];refine Az (wpAny_rule ?_);refine Az (IQ BL rfl (x:=.ref BV) rfl ?_);refine Az (Rt BL (by simp) λKN Px M3=>?_);replace Px:HW KN z TI BV .ellipsis:=Px;refine Az ?_;simp only[j2,List.zipIdx_nil,jZ,List.forIn_nil];refine Az (Az (Xu ?_));show An _ _ (Ol (.ref BG)>>=_) _ _ _;have qm:J1 i KN:=L3 GP h1 M3 ap.eY;rcases e8 with AD|⟨Dq,AR⟩
 .subst AD;refine Az (GP.done _ _ _ qm λM4 e KM he=>?_);obtain⟨OO,Qi,VL⟩:=he;have oK:HW M4 z TI BV .ellipsis:=KM _ _ ap.i1z.symm Px;have e9:e≠z:=λx=>by subst x;rw[oK]at Qi;cases Qi;simp at VL
  refine Rt oK (by simp) λMo _ L9=>H5 Mo e s.toks (λc o BP _ ER _ x=>L9.extBut _ _ BP (KM _ _ ER (M3.extBut _ _ BP x))) ⟨OO,L9.extBut _ _ e9 Qi,VL⟩
 .subst AR;refine Az (GP.item _ _ _ _ Dq qm λx M4 sJ AA qv KM=>CK ?_);have VH:FX M4 BV a b:=KM.extBut _ _ ap.TOi1 (M3.extBut _ _ ap.TOz Fw);refine Az (MS VH rfl ?_);refine Az (ig VH λMo ZC L9=>?_);refine Az (wpAny_letGo (CK ?_));refine Az (Az (Xu ?_));show An _ _ (Ol (.ref BH)>>=_) _ _ _;refine Az (GE.done _ _ _ (L3 GE (L3 GE (L3 GE h2 M3 ap.e_) KM ap.lN) L9 ap.eZ) λVX e Pv he=>?_);obtain⟨OO,Qi,VL⟩:=he;have oL:HW VX z TI BV .ellipsis:=Pv _ _ ap.i2z.symm (L9.extBut _ _ ap.TOz.symm (KM.extBut _ _ ap.i1z.symm Px));have e9:e≠z:=λx=>by subst x;rw[oL]at Qi;cases Qi;simp at VL
  refine Rt oL (by simp) λHQ _ Pw=>H5 HQ e sJ (λc o BP Ce ER K3 x=>Pw.extBut _ _ BP (Pv _ _ K3 (L9.extBut _ _ Ce (KM.extBut _ _ ER (M3.extBut _ _ BP x))))) ⟨OO,Pw.extBut _ _ e9 Qi,VL⟩
theorem pr {z TI BV BG BH:A3} {f1 f2:List A3} {DD Ch i:Nat} {Lu Lv:Nat->A4->Prop} {J1 J2:Nat->B1->Prop} {a b:A4} {Q:Option A4->AL->Prop} (GP:Kn prog w A.in1 BG f1 DD Lu J1) (GE:Kn prog w A.in1 BH f2 Ch Lv J2) (ap:PF z TI BV BG BH f1 f2)(BL:HW s.heap z TI BV .none) (FQ:FX s.heap TI (.ref BG) (.ref BH)) (Fw:FX s.heap BV a b) (h1:J1 i s.heap) (h2:J2 i s.heap) (Dq:i<DD) (BR:i<Ch)(GH:∀x y h' C8,Lu i x->Lv i y->HW h' z TI BV (rawInt s.heap.objs.size)->FX h' BV x y->J1 (i+1) h'->J2 (i+1) h'->FX h' s.heap.objs.size x y->h'.objs.size=s.heap.objs.size+1->
    (∀c o,c≠z->c≠BV->c≠BG->c≠BH->s.heap.get? c=some o->h'.get? c=some o)->Q (some (.ref s.heap.objs.size)) { s with heap:=h',toks:=C8 }) :
  An (BA prog w) A (NM (.ref z)) Q E s:=by
 have F4:s.TypeIs (.ref z) "zip":=⟨_,BL,rfl⟩;unfold NM
 exact Az (wpAny_attempt (UI (name:=Rx "__next__") F4 Y1
  (Rn Y1 F4 F.entry_zip_next
    (ahP GP GE ap BL FQ Fw h1 h2 Dq BR λx y h' C8 a1 a2 Dp FM HI Jn cC cD tq=>CK (GH x y h' C8 a1 a2 Dp FM HI Jn cC cD tq)) (F.args_zip_next_1 _))))
theorem pq{z TI BV BG BH:A3}{f1 f2:List A3}{DD Ch i:Nat}{Lu Lv:Nat->A4->Prop}{J1 J2:Nat->B1->Prop}{a b:A4}{Q:Option A4->AL->Prop}(GP:Kn prog w A.in1 BG f1 DD Lu J1)(GE:Kn prog w A.in1 BH f2 Ch Lv J2)(ap:PF z TI BV BG BH f1 f2)(BL:HW s.heap z TI BV .none)(FQ:FX s.heap TI (.ref BG) (.ref BH))(Fw:FX s.heap BV a b)(h1:J1 i s.heap)(h2:J2 i s.heap)(e8:i=DD\/(i<DD/\i=Ch))(GH:∀h' C8,(∀c o,c≠z->c≠BV->c≠BG->c≠BH->s.heap.get? c=some o->h'.get? c=some o)->Q none { s with heap:=h',toks:=C8 }):An (BA prog w) A (NM (.ref z)) Q E s:=by
 have F4:s.TypeIs (.ref z) "zip":=⟨_,BL,rfl⟩;unfold NM
 refine Az (wpAny_attempt (UI (name:=Rx "__next__") F4 Y1
  (Rn Y1 F4 F.entry_zip_next (ahO GP GE ap BL FQ Fw h1 h2 e8 λh' e C8 AQ he=>?_) (F.args_zip_next_1 _))))
 obtain⟨o,AN,AG⟩:=he;refine Az (wpAny_isInstance (T:="StopIteration") (b:=true) ⟨o,AN,AG⟩ isSubtype_stop ?_);exact CK (GH _ _ AQ)
end
def Inv.Ww{X:AY}{pins:List (A3×Obj)}{σ :St}{H:A8}{s:AL}{h':B1}{t':Nat}{ch:List A3}(I:Inv X pins σ H s)(k:∀b o,b∉ch->s.heap.get? b=some o->h'.get? b=some o)(hf:∀b∈ch,HZ X pins H b):Inv X pins σ H { s with heap:=h',toks:=t' }:=by
 have P_:∀b u,H b=some u->b∉ch:=λb u e z=>by rw[(hf b z).1]at e;cases e
 refine I.step (g':=s.gens) (d':=s.drawn) (ch:=ch) (λb J=>?_) (λb o _ _ AG e _=>k b o AG e) (λb o _ _ AG e _=>⟨o.slots,k b o AG e⟩) (λ_ _ _ _ n=>n)
  (λb o AG e=>⟨o,k b o AG e⟩) (λ_ _ e=>e) (λ_ _ _ e=>e) (λb AK e=>⟨#[],by rw[e];simp⟩) (λm hm=>?_) (λb u e=>?_) I.bare
 .obtain⟨_,f1,_,F3,f4,H3⟩:=hf b J;exact⟨F3,f1,f4,H3⟩
 .obtain⟨o,es,C5,AN,r⟩:=hm;exact⟨o,es,C5,k _ o (λz=>(hf _ z).2.1 rfl) AN,r⟩
 .refine(I.BU b u e).OZ (λc v AG q=>k c v ?_ q) (λ_ q=>q) λ_ _ q=>q;rcases AG with z|z
  .rw[z];exact P_ b u e
  .exact P_ c _ z
def Inv.iK{X:AY}{pins:List (A3×Obj)}{σ :St}{H:A8}{s:AL}{h':B1}{t':Nat}{ch:List A3}{T:A3}{xs:List V}{its:List A4}(I:Inv X pins σ H s)(k:∀b o,b∉ch->s.heap.get? b=some o->h'.get? b=some o)(hf:∀b∈ch,HZ X pins H b)(F4:s.heap.objs.size<=T)(BB:Xo h' T its.toArray)(Bj:Vals xs its)(BL:xs.length<=CF):Inv X pins σ (upd H T (.tup xs)) { s with heap:=h',toks:=t' }:=by
 have P_:∀b u,H b=some u->b∉ch:=λb u e z=>by rw[(hf b z).1]at e;cases e
 have AU:H T=none:=I.BU.fresh F4;have neT:∀b o,s.heap.get? b=some o->b≠T:=λb o e=>Em (Fk (D3 e) F4)
 refine I.step (g':=s.gens) (d':=s.drawn) (ch:=ch) (λb J=>?_) (λb o _ _ AG e _=>k b o AG e) (λb o _ _ AG e _=>⟨o.slots,k b o AG e⟩) (λb o _ e n=>by rw[Df (neT b o e)];exact n)
  (λb o AG e=>⟨o,k b o AG e⟩) (λb ys e=>by rw[Df (Jb e AU)];exact e) (λb _ _ e=>by rw[Df (Jb e AU)];exact e) (λb AK e=>⟨#[],by rw[Df (Jb e AU),e];simp⟩) (λm hm=>?_) (λb u e=>?_) I.bare
 .obtain⟨_,f1,_,F3,f4,H3⟩:=hf b J;exact⟨F3,f1,f4,H3⟩
 .obtain⟨o,es,C5,AN,r⟩:=hm;exact⟨o,es,C5,k _ o (λz=>(hf _ z).2.1 rfl) AN,r⟩
 .by_cases J:b=T
  .subst J;rw[Du]at e;cases e;exact⟨BL,its,Bj,BB⟩
  .rw[Df J]at e;refine(I.BU b u e).OZ (λc v AG q=>k c v ?_ q) (λc q=>by rw[Df (Jb q AU)];exact q) λc ys q=>by rw[Df (Jb q AU)];exact q
   rcases AG with z|z
   .rw[z];exact P_ b u e
   .exact P_ c _ z
def c3(x:Str):It:=⟨λi _=>i<x.cps.size,λi H v H'=>H'=H/\∃c,x.cps[i]?=some c/\v=.str ⟨#[c]⟩,λi _=>i=x.cps.size⟩
def re{prog:Bt}{w:Bg}{A:C3}(BN:A.handled=none)(I:A3)(x:Str)(t:Tok):Walks prog w A I [I] [I] x.cps.size (SignAt x) (λi h=>h.IsStrIter I (Kl x) x t i):=by
 unfold Kl;cases A1:x.cps.all (· <128)
 .rw[if_neg IN];exact Walks.strWide BN I x t
 .rw[if_pos rfl];exact Walks.strAscii BN I x t
def lw{prog:Bt}{w:Bg}{A:C3}(BN:A.handled=none)(I:A3)(x:Str)(t:Tok):Kn prog w A I [I] x.cps.size (λi v=>∃c u,x.cps[i]?=some c/\v=.str ⟨#[c]⟩ u) (λi h=>h.IsStrIter I (Kl x) x t i):=by
 unfold Kl;cases A1:x.cps.all (· <128)
 .rw[if_neg IN];exact Draws.strWide BN I x t
 .rw[if_pos rfl];exact Draws.strAscii BN I x t
def afK(x:Str):["enumerate","zip","dict_itemiterator","dict_reverseitemiterator","odict_iterator","itertools.zip_longest","itertools.pairwise"].contains (Kl x)=false:=by
 unfold Kl
 split<;>decide
def agy{P:Bt}{w:Bg}{K:AZ}{Bd:AT}(it:A3)(x:Str)(t:Tok):Turn P w K Bd (c3 x) [it] it (λi h=>h.IsStrIter it (Kl x) x t i) where
 mem:=by simp
 obj:=λi h st b J=>by
  have e:b=it:=by simpa using J
  subst e;obtain⟨o,e,c,d⟩:=st;exact⟨o,e,λv z=>by rw[d]at z;cases z⟩
 keep:=λi h h' st k=>by obtain⟨o,e,r⟩:=st;exact⟨o,k it (by simp) o e,r⟩
 item:=by intro X DK hw Ag AG i pins s σ H E I hf st AW;subst DK hw Ag;have W:=re (prog:=X.prog) (w:=X.w) (A:=X.A) (I.ok.hd AG) it x t;refine W.item i s _ _ AW st λv h' C8 Be Ll CW=>?_;obtain⟨c,u,JR,rfl⟩:=Be;have Ak:Inv X pins σ H { s with heap:=h',toks:=C8 }:=I.Ww (ch:=[it]) CW hf;obtain⟨o,e,BP,d1⟩:=id Ll;exact⟨_,rfl,Z8 (s:={ s with heap:=h',toks:=C8 }) e BP d1 (afK x) ⟨.str ⟨#[c]⟩,H,Ak,⟨u,rfl⟩,⟨rfl,c,JR,rfl⟩,Ll,λb J=>(hf b J).1⟩⟩
 done:=by intro X DK hw Ag AG i pins s σ H E I hf st AW;subst DK hw Ag;have W:=re (prog:=X.prog) (w:=X.w) (A:=X.A) (I.ok.hd AG) it x t;have AC:i=x.cps.size:=AW;subst AC;exact W.done s _ _ st λh' C8 CW=>⟨rfl,I.Ww (ch:=[it]) CW hf⟩
 self:=λA i s Q E st h=>by
  unfold Kl at st;cases A1:x.cps.all (· <128)
  .rw[A1,if_neg IN]at st;exact wpAny_pyIter_striter_wide st h
  .rw[A1,if_pos rfl]at st;exact wpAny_pyIter_striter_ascii st h
section
variable{X:AY}{Bd:AT}
def nZ(Fe:TE):TI:=λσ H R=>Fe σ H λv H1=>∃x,v=.str x/\R (c3 x) H1
def acQ{l:AT}{Fe:TE}(AF:Ao X l Fe):GF X Bd l (nZ Fe):=by
 intro pins s σ H R I h;refine Ba (AF pins s σ H _ I h) λv s1⟨y,H1,Ak,AE,Aa⟩=>?_;obtain⟨x,e,q⟩:=Aa;subst e;obtain⟨t,rfl⟩:=AE;refine wpAny_pyIter_strU ?_;refine⟨s1.heap.objs.size,[s1.heap.objs.size],_,_,H1,rfl,Ak.kept (t':=s1.toks) λb o e=>Cv _ e,agy _ x t,⟨_,FV _ rfl,rfl,rfl⟩,λb J=>?_,q⟩;have e:b=s1.heap.objs.size:=by simpa using J
 subst e;exact Ak.Ng (CO _) (Ak.BU.fresh (CO _))
end
noncomputable def c1(K:AZ)(l:A3):It:=⟨λi H=>∃xs x,Bp K H l xs/\xs[i]?=some x,λi H v H'=>∃p x,H p=none/\H'=upd H p (.tup [.int (i:Int),x])/\v=.ref p/\∀xs,Bp K H l xs->xs[i]?=some x,λi H=>∃xs,Bp K H l xs/\xs.length=i⟩
def agv{P:Bt}{w:Bg}{K:AZ}{elts:List AT}{CW:Nat}{pos:Pos}(e it l:A3)(o4:e≠it) :
  Turn P w K (.Tuple elts CW pos) (c1 K l) [e,it] e (λi h=>(∃old,IsEnum h e it i old)/\h.IsListIter it l i) where
 mem:=by simp
 obj:=λi h st b J=>by
  obtain⟨⟨old,he⟩,o,AD,c,d⟩:=st;rcases List.mem_cons.mp J with z|z
  .subst z;exact⟨_,he,λv z=>by have FT:Y5 _=Ot v:=z;cases FT⟩
  .have z:b=it:=by simpa using z
   subst z;exact⟨o,AD,λv z=>by rw[d]at z;cases z⟩
 keep:=λi h h' st k=>by obtain⟨⟨old,he⟩,hit⟩:=st;exact⟨⟨old,k e (by simp) _ he⟩,hit.at λo x=>k it (by simp) o x⟩
 item:=by
  intro X DK hw Ag AG i pins s σ H E I hf st AW;subst DK hw Ag;obtain⟨xs,x,Ab,AA⟩:=AW;obtain⟨its,Bj,pl,BL⟩:=I.list Ab;obtain⟨⟨old,he⟩,hit⟩:=st;have G6:=pl.isList;have hle:l≠e:=λz=>by subst z;obtain⟨o,AN,J5,_⟩:=G6;rw[he]at AN;cases AN;have J5:NL "enumerate"=NL "list":=J5;injection J5 with J5;exact absurd J5 (by decide)
  have VR:l≠it:=λz=>by subst z;obtain⟨o,AN,J5,_⟩:=G6;obtain⟨BS,FH,Nm,_⟩:=hit;rw[FH]at AN;cases AN;rw[J5]at Nm;injection Nm with Nm;exact absurd Nm (by decide)
  have W:=WalksT.enumerate (prog:=X.prog) (w:=X.w) (A:=X.A) (I.ok.hd AG) e it l o4 hle VR its.toArray;have hlen:=Bj.length;have VQ:i<xs.length:=(List.getElem?_eq_some_iff.mp AA).1;refine W.item i s _ _ (by rw[DO,<-hlen];exact VQ) ⟨⟨old,he⟩,hit,G6⟩ λT vals h' C8 DK F4 wW RV AQ=>?_;obtain⟨t,u,BX,rfl⟩:=DK;obtain⟨H8,VV,Ds⟩:=Bj.get AA;have Mh:H8=u:=by rw[XP]at BX;rw[VV]at BX;exact EH BX
  subst Mh;refine⟨_,rfl,?_⟩;refine W.go elts CW pos i T { s with heap:=h',toks:=C8 } _ _ RV λh2 LN SH=>?_;have nz:T∉[e,it]:=W.apart i T h' RV;have keep:∀b o,b∉[e,it]->s.heap.get? b=some o->h2.get? b=some o:=λb o J q=>SH b o J (AQ b o J q);have VU:Xo h2 T (#[.int i t,H8]:Array A4):=by obtain⟨o,AN,r⟩:=wW;exact⟨o,SH T o nz AN,r⟩
  have AU:H T=none:=I.BU.fresh F4;have Bq:Inv X pins σ (upd H T (.tup [.int (i:Int),x])) { s with heap:=h2,toks:=C8 }:=I.iK (its:=[.int i t,H8]) (ch:=[e,it]) keep hf F4 VU (.cons ⟨t,rfl⟩ (.cons Ds .nil)) (by show 2<=CF;decide);refine⟨.ref T,upd H T (.tup [.int (i:Int),x]),Bq,rfl,⟨T,x,AU,rfl,rfl,λys BO=>by rw[I.aU BO Ab];exact AA⟩,⟨LN.1,LN.2.1⟩,λb J=>?_⟩;have nb:b≠T:=λz=>nz (z▸J);rw[Df nb];exact(hf b J).1
 done:=by
  intro X DK hw Ag AG i pins s σ H E I hf st AW;subst DK hw Ag;obtain⟨xs,Ab,AA⟩:=AW;obtain⟨its,Bj,pl,BL⟩:=I.list Ab;obtain⟨⟨old,he⟩,hit⟩:=st;have G6:=pl.isList;have hle:l≠e:=λz=>by subst z;obtain⟨o,AN,J5,_⟩:=G6;rw[he]at AN;cases AN;have J5:NL "enumerate"=NL "list":=J5;injection J5 with J5;exact absurd J5 (by decide)
  have VR:l≠it:=λz=>by subst z;obtain⟨o,AN,J5,_⟩:=G6;obtain⟨BS,FH,Nm,_⟩:=hit;rw[FH]at AN;cases AN;rw[J5]at Nm;injection Nm with Nm;exact absurd Nm (by decide)
  have W:=WalksT.enumerate (prog:=X.prog) (w:=X.w) (A:=X.A) (I.ok.hd AG) e it l o4 hle VR its.toArray;have IY:i=its.toArray.size:=by rw[DO,<-Bj.length];exact AA.symm
  subst IY;exact W.done s _ _ ⟨⟨old,he⟩,hit,G6⟩ λh' C8 CW=>⟨rfl,I.Ww (ch:=[e,it]) CW hf⟩
 self:=λA i s Q E st h=>by obtain⟨⟨old,he⟩,_⟩:=st;exact wpAny_pyIter_enum he h
section
variable{X:AY}{elts:List AT}{CW:Nat}{Pp:Pos}
def nW(K:AZ)(Bu:EX):TI:=λσ H R=>Bu σ H λvs H1=>∃l,vs=[.ref l]/\(∃xs,Bp K H1 l xs)/\R (c1 K l) H1
def acN{a:AT}{Bu:EX}{p pos:Pos}(AW:DI X "enumerate")(hm:X.mg "enumerate"=none)(A1:F1 X [a] Bu)(hs:Ap [a] X.env=[(false,BE a X.env)]:=by rfl):GF X (.Tuple elts CW Pp) (.Call (.Name "enumerate" p) [a] [] pos) (nW X.K Bu):=by
 have J:Js "enumerate"=some (.type "enumerate"):=by kernel_rfl
 intro pins s σ H R I h;refine jI (Nu I AW hm J (QE (Ba (A1 pos pins s σ H _ I h) λus s1⟨vs,H1,Ak,AE,Aa⟩=>?_) hs rfl));obtain⟨l,e,⟨xs,Ab⟩,q⟩:=Aa;subst e;obtain⟨u,rfl,Ds⟩:=vals1 AE;cases Ds;obtain⟨its,Bj,pl,BL⟩:=Ak.list Ab;refine call_enumerate_list pl.isList λh' he hit hsz AQ=>?_;have Bq:Inv X pins σ H1 { s1 with heap:=h' }:=Ak.kept (t':=s1.toks) AQ;refine wpAny_pyIter_enum he ?_;refine⟨s1.heap.objs.size+1,[s1.heap.objs.size+1,s1.heap.objs.size],_,_,H1,rfl,Bq,agv _ _ l (Nat.succ_ne_self _),⟨⟨_,he⟩,hit⟩,λb J=>?_,q⟩;have J:b=s1.heap.objs.size+1\/b=s1.heap.objs.size:=by simpa using J
 rcases J with z|z
 .subst z;exact Ak.Ng (Y6 _) (Ak.BU.fresh (Y6 _))
 .subst z;exact Ak.Ng (CO _) (Ak.BU.fresh (CO _))
end
abbrev XG(h:B1)(x:Str)(t:Tok):B1:=h.push { cls:=.type (Kl x),data:=.fields #[.str x t,.int 0 0] }
abbrev XH(h:B1)(x:Str)(t:Tok)(l:A3):B1:=(XG h x t).push { cls:=.type "tuple_iterator",data:=.fields #[.ref l,.int 0 0] }
abbrev XI(h:B1)(x:Str)(t:Tok)(l:A3):B1:=(XH h x t l).push { cls:=.type "tuple",data:=.seq #[.ref h.objs.size,.ref (XG h x t).objs.size] }
abbrev XJ(h:B1)(x:Str)(t:Tok)(l:A3):B1:=(XI h x t l).push { cls:=.type "tuple",data:=.seq #[.none,.none] }
abbrev Rd(h:B1)(x:Str)(t:Tok)(l:A3):B1:=(XJ h x t l).push { cls:=.type "zip",data:=.fields #[.none,.bool false,.bool false,.ref (XH h x t l).objs.size,.ref (XI h x t l).objs.size] }
set_option maxHeartbeats 4000000 in
def aaR(x:Str)(t:Tok)(BR:A3)(ys:Array A4) :
  Meets (Builtin.«zip.__new__» ⟨[.type "zip",.str x t,.ref BR],[]⟩) (λ_ R s=>s.heap.IsTuple BR ys/\R (.ok (.ret (.ref (XJ s.heap x t BR).objs.size))) { s with heap:=Rd s.heap x t BR }):=
 .of_wp λprog w A R s h=>by
   obtain⟨Am,g,d,C8,os⟩:=s;obtain⟨L8,h⟩:=h;have Mn:=sub_zip;have Nj:UR (UO ⟨Am.push { cls:=.type (Kl x),data:=.fields #[.str x t,.int 0 0] },g,d,C8,os⟩) BR ys:=jA L8 _
   wp_walk using wpAny_pyIter_strU,Rr Nj
   exact⟨_,rfl,h⟩
theorem ua {prog:Bt} {w:Bg} {A:C3} {E:A4->AL->Prop} {s:AL} {x:Str} {t:Tok} {BR:A3} {ys:Array A4} {Q:A4->AL->Prop} (L8:s.heap.IsTuple BR ys)(h:∀h',HW h' (s.heap.objs.size+4) (s.heap.objs.size+2) (s.heap.objs.size+3) .none->FX h' (s.heap.objs.size+2) (.ref s.heap.objs.size) (.ref (s.heap.objs.size+1))->
    FX h' (s.heap.objs.size+3) .none .none->h'.IsStrIter s.heap.objs.size (Kl x) x t 0->h'.IsTupleIter (s.heap.objs.size+1) BR 0->h'.objs.size=s.heap.objs.size+5->
    (∀c o,s.heap.get? c=some o->h'.get? c=some o)->Q (.ref (s.heap.objs.size+4)) { s with heap:=h' }) :
  An (BA prog w) A (call (.type "zip") [.str x t,.ref BR]) Q E s:=by
 refine callType_new F.called_zip (by decide) (F.typeCall_zip_2 _ _) (F.newCall_zip_2 _ _) (λobj=>F.args_object_init_3 obj _ _) F.entry_zip_new (aaR x t BR ys) ⟨L8,?_⟩;have Dv:(XG s.heap x t).objs.size=s.heap.objs.size+1:=HU ..;have Co:(XH s.heap x t BR).objs.size=s.heap.objs.size+2:=by rw[HU,Dv]
 have Ji:(XI s.heap x t BR).objs.size=s.heap.objs.size+3:=by rw[HU,Co]
 have OM:(XJ s.heap x t BR).objs.size=s.heap.objs.size+4:=by rw[HU,Ji]
 have iD:(Rd s.heap x t BR).objs.size=s.heap.objs.size+5:=by rw[HU,OM]
 have Mj:(Rd s.heap x t BR).get? (XJ s.heap x t BR).objs.size=some _:=FV _ rfl;have HO:(Rd s.heap x t BR).get? (XI s.heap x t BR).objs.size=some _:=Cv _ (FV _ rfl);have g3:(Rd s.heap x t BR).get? (XH s.heap x t BR).objs.size=some _:=Cv _ (Cv _ (FV _ rfl));have g2:(Rd s.heap x t BR).get? (XG s.heap x t).objs.size=some _:=Cv _ (Cv _ (Cv _ (FV _ rfl)));have g1:(Rd s.heap x t BR).get? s.heap.objs.size=some _:=Cv _ (Cv _ (Cv _ (Cv _ (FV _ rfl))));show _/\_;rw[Co,Ji,OM]at Mj;rw[Dv,Co]at g3;rw[Ji]at HO;rw[Dv]at g2;rw[OM];exact⟨⟨_,Mj,rfl⟩,h _ Mj g3 HO ⟨_,g1,rfl,rfl⟩ ⟨_,g2,rfl,rfl⟩ iD λc o x=>
  Cv _ (Cv _ (Cv _ (Cv _ (Cv _ x))))⟩
noncomputable def c5(K:AZ)(x:Str)(l:A3):It:=⟨λi H=>i<x.cps.size/\∃ys y,CA K H l ys/\ys[i]?=some y,
 λi H v H'=>∃p c y,x.cps[i]?=some c/\H p=none/\H'=upd H p (.tup [.str ⟨#[c]⟩,y])/\v=.ref p/\∀ys,CA K H l ys->ys[i]?=some y,
 λi H=>∃ys,CA K H l ys/\i=min x.cps.size ys.length⟩
structure ZG(z TI BV BG BH:A3):Prop where
 TIz:TI≠z
 TOz:BV≠z
 TITO:TI≠BV
 TIi1:TI≠BG
 TIi2:TI≠BH
 TOi1:BV≠BG
 TOi2:BV≠BH
 i1z:BG≠z
 i2z:BH≠z
 i12:BG≠BH
def ah0{P:Bt}{w:Bg}{K:AZ}{elts:List AT}{CW:Nat}{pos:Pos}(x:Str)(t:Tok)(l z TI BV BG BH:A3)(ap:ZG z TI BV BG BH) :
  Turn P w K (.Tuple elts CW pos) (c5 K x l) [z,TI,BV,BG,BH] z (λi h=>HW h z TI BV .none/\FX h TI (.ref BG) (.ref BH)/\(∃a b,FX h BV a b)/\h.IsStrIter BG (Kl x) x t i/\h.IsTupleIter BH l i) where
 mem:=by simp
 obj:=λi h st b J=>by
  obtain⟨BL,FQ,⟨a,FN,Fw⟩,⟨CY,AD,BP,d1⟩,CN,AR,Ce,CC⟩:=st;have J:b=z\/b=TI\/b=BV\/b=BG\/b=BH:=by simpa using J
  rcases J with q|q|q|q|q<;>subst q
  .exact⟨_,BL,λv z=>by have FT:Y5 _=Ot v:=z;cases FT⟩
  .exact⟨_,FQ,λv z=>by have FT:UW _ _=Ot v:=z;cases FT⟩
  .exact⟨_,Fw,λv z=>by have FT:UW _ _=Ot v:=z;cases FT⟩
  .exact⟨CY,AD,λv z=>by rw[d1]at z;cases z⟩
  .exact⟨CN,AR,λv z=>by rw[CC]at z;cases z⟩
 keep:=λi h h' st k=>by obtain⟨BL,FQ,⟨a,FN,Fw⟩,⟨CY,AD,AE⟩,CN,AR,B4⟩:=st;exact⟨k z (by simp) _ BL,k TI (by simp) _ FQ,⟨a,FN,k BV (by simp) _ Fw⟩,⟨CY,k BG (by simp) _ AD,AE⟩,CN,k BH (by simp) _ AR,B4⟩
 item:=by
  intro X DK hw Ag AG i pins s σ H E I hf st AW;subst DK hw Ag;obtain⟨AC,ys,y,Ab,BO⟩:=AW;obtain⟨its,Bj,BB,xd⟩:=I.tuple Ab;obtain⟨BL,FQ,⟨a,FN,Fw⟩,No,Es⟩:=st;have nl:∀b∈[z,TI,BV,BG,BH],l≠b:=λb J q=>by
   subst q;rcases Ab with(h|⟨o,h⟩)|⟨o,TV,n,h,_⟩
   .rw[(hf l J).1]at h;cases h
   .rw[(hf l J).1]at h;cases h
   .have h1:=I.ok.mod.Mr l o h;rcases(hf l J).2.2.2.1 with q|q
    .exact I.ok.Pa l o h1 q
    .exact absurd (Fk (D3 (I.ok.bs l o h1).1) q) (Hv _)
  have BN:X.A.in1.handled=none:=I.ok.hd AG;have GP:=lw (prog:=X.prog) (w:=X.w) (A:=X.A.in1) BN BG x t;have GE:=cq (prog:=X.prog) (w:=X.w) (A:=X.A.in1) BN BH l (nl BH (by simp)) its.toArray;have hlen:=Bj.length;have VQ:i<ys.length:=(List.getElem?_eq_some_iff.mp BO).1
  have PH:PF z TI BV BG BH [BG] [BH,l]:=⟨ap.TIz,ap.TOz,ap.TITO,ap.TIi1,ap.TIi2,ap.TOi1,ap.TOi2,ap.i1z,ap.i2z,ap.i12,by simpa using ap.i1z.symm,by simpa using ap.TOi1,by simpa using ap.i12.symm,
   by simp only[Fz,FW,or_false,not_or];exact⟨ap.i2z.symm,(nl z (by simp)).symm⟩,by simp only[Fz,FW,or_false,not_or];exact⟨ap.TOi2,(nl BV (by simp)).symm⟩,by simp only[Fz,FW,or_false,not_or];exact⟨ap.i12,(nl BG (by simp)).symm⟩⟩
  refine pr GP GE PH BL FQ Fw No ⟨Es,BB⟩ AC (by rw[DO,<-hlen];exact VQ) λWy Ln h' C8 Dd Cd a1 a2 Dp FM HI Jn AQ=>?_;obtain⟨c,t1,wg,rfl⟩:=Dd;obtain⟨H8,VV,Ds⟩:=Bj.get BO;have Mh:H8=Ln:=by rw[XP]at Cd;rw[VV]at Cd;exact EH Cd
  subst Mh;refine⟨_,rfl,?_⟩;refine sw a1 λh2 dp KL=>?_;have gx:∀b∈[z,TI,BV,BG,BH],b<s.heap.objs.size:=λb J=>by
   have J:b=z\/b=TI\/b=BV\/b=BG\/b=BH:=by simpa using J
   obtain⟨CY,AD,_⟩:=No;obtain⟨CN,AR,_⟩:=Es;rcases J with q|q|q|q|q<;>subst q
   .exact D3 BL
   .exact D3 FQ
   .exact D3 Fw
   .exact D3 AD
   .exact D3 AR
  have W9:∀b∈[z,TI,BV,BG,BH],b≠s.heap.objs.size:=λb J=>Em (gx b J);have keep:∀b o,b∉[z,BV,BG,BH]->s.heap.get? b=some o->h2.get? b=some o:=λb o J q=>by have J:¬(b=z\/b=BV\/b=BG\/b=BH):=λw=>J (by simpa using w);exact KL.extBut b o (λw=>J (.inl w)) (AQ b o (λw=>J (.inl w)) (λw=>J (.inr (.inl w))) (λw=>J (.inr (.inr (.inl w)))) (λw=>J (.inr (.inr (.inr w)))) q)
  have VU:Xo h2 s.heap.objs.size ([.str ⟨#[c]⟩ t1,H8]:List A4).toArray:=⟨_,KL.extBut _ _ (W9 z (by simp)).symm HI,rfl,_,rfl⟩;have AU:H s.heap.objs.size=none:=I.BU.fresh (CO _);have Bq:Inv X pins σ (upd H s.heap.objs.size (.tup [.str ⟨#[c]⟩,y])) { s with heap:=h2,toks:=C8 }:=I.iK (its:=[.str ⟨#[c]⟩ t1,H8]) (ch:=[z,BV,BG,BH]) keep (λb J=>hf b (by
   have J:b=z\/b=BV\/b=BG\/b=BH:=by simpa using J
   rcases J with q|q|q|q<;>simp[q])) (CO _) VU (.cons ⟨t1,rfl⟩ (.cons Ds .nil)) (by show 2<=CF;decide)
  refine⟨.ref s.heap.objs.size,_,Bq,rfl,⟨s.heap.objs.size,c,y,wg,AU,rfl,rfl,λzs VW=>by rw[I.bD VW Ab];exact BO⟩,?_,λb J=>?_⟩
  .refine⟨dp,KL.extBut _ _ ap.TIz (AQ _ _ ap.TIz ap.TITO ap.TIi1 ap.TIi2 FQ),⟨_,_,KL.extBut _ _ ap.TOz a2⟩,?_,?_⟩
   .obtain⟨CY,AD,AE⟩:=Dp;exact⟨CY,KL.extBut _ _ ap.i1z AD,AE⟩
   .obtain⟨⟨CN,AR,B4⟩,_⟩:=FM;exact⟨CN,KL.extBut _ _ ap.i2z AR,B4⟩
  .rw[Df (W9 b J)];exact(hf b J).1
 done:=by
  intro X DK hw Ag AG i pins s σ H E I hf st AW;subst DK hw Ag;obtain⟨ys,Ab,AC⟩:=AW;obtain⟨its,Bj,BB,xd⟩:=I.tuple Ab;obtain⟨BL,FQ,⟨a,FN,Fw⟩,No,Es⟩:=st;have nl:∀b∈[z,TI,BV,BG,BH],l≠b:=λb J q=>by
   subst q;rcases Ab with(h|⟨o,h⟩)|⟨o,TV,n,h,_⟩
   .rw[(hf l J).1]at h;cases h
   .rw[(hf l J).1]at h;cases h
   .have h1:=I.ok.mod.Mr l o h;rcases(hf l J).2.2.2.1 with q|q
    .exact I.ok.Pa l o h1 q
    .exact absurd (Fk (D3 (I.ok.bs l o h1).1) q) (Hv _)
  have BN:X.A.in1.handled=none:=I.ok.hd AG;have GP:=lw (prog:=X.prog) (w:=X.w) (A:=X.A.in1) BN BG x t;have GE:=cq (prog:=X.prog) (w:=X.w) (A:=X.A.in1) BN BH l (nl BH (by simp)) its.toArray;have hlen:=Bj.length
  have PH:PF z TI BV BG BH [BG] [BH,l]:=⟨ap.TIz,ap.TOz,ap.TITO,ap.TIi1,ap.TIi2,ap.TOi1,ap.TOi2,ap.i1z,ap.i2z,ap.i12,by simpa using ap.i1z.symm,by simpa using ap.TOi1,by simpa using ap.i12.symm,
   by simp only[Fz,FW,or_false,not_or];exact⟨ap.i2z.symm,(nl z (by simp)).symm⟩,by simp only[Fz,FW,or_false,not_or];exact⟨ap.TOi2,(nl BV (by simp)).symm⟩,by simp only[Fz,FW,or_false,not_or];exact⟨ap.i12,(nl BG (by simp)).symm⟩⟩
  refine pq GP GE PH BL FQ Fw No ⟨Es,BB⟩ ?_ λh' C8 CW=>⟨rfl,I.Ww (ch:=[z,BV,BG,BH]) (λb o J q=>?_) λb J=>hf b ?_⟩
  .have es:its.toArray.size=its.length:=by simp
   rw[es,<-hlen];omega
  .have J:¬(b=z\/b=BV\/b=BG\/b=BH):=λw=>J (by simpa using w);exact CW b o (λw=>J (.inl w)) (λw=>J (.inr (.inl w))) (λw=>J (.inr (.inr (.inl w)))) (λw=>J (.inr (.inr (.inr w)))) q
  .have J:b=z\/b=BV\/b=BG\/b=BH:=by simpa using J
   rcases J with q|q|q|q<;>simp[q]
 self:=λA i s Q E st h=>XZ st.1 h
section
variable{X:AY}{elts:List AT}{CW:Nat}{Pp:Pos}
def sj(n:Nat):ZG (n+4) (n+2) (n+3) n (n+1):=
 ⟨(show n+2≠n+4 from Em (show(n+2:Nat)<n+4 by omega)),
  (show n+3≠n+4 from Em (show(n+3:Nat)<n+4 by omega)),
  (show n+2≠n+3 from Em (show(n+2:Nat)<n+3 by omega)),
  (show n+2≠n from MU (show(n:Nat)<n+2 by omega)),
  (show n+2≠n+1 from MU (show(n+1:Nat)<n+2 by omega)),
  (show n+3≠n from MU (show(n:Nat)<n+3 by omega)),
  (show n+3≠n+1 from MU (show(n+1:Nat)<n+3 by omega)),
  (show n≠n+4 from Em (show(n:Nat)<n+4 by omega)),
  (show n+1≠n+4 from Em (show(n+1:Nat)<n+4 by omega)),
  (show n≠n+1 from Em (show(n:Nat)<n+1 by omega))⟩
def nd(K:AZ)(Bu:EX):TI:=λσ H R=>Bu σ H λvs H1=>∃x l,vs=[.str x,.ref l]/\(∃ys,CA K H1 l ys)/\R (c5 K x l) H1
def acT{a b:AT}{Bu:EX}{p pos:Pos}(AW:DI X "zip")(hm:X.mg "zip"=none)(A1:F1 X [a,b] Bu)(hs:Ap [a,b] X.env=[(false,BE a X.env),(false,BE b X.env)]:=by rfl)(Es:Ap [b] X.env=[(false,BE b X.env)]:=by rfl) :
  GF X (.Tuple elts CW Pp) (.Call (.Name "zip" p) [a,b] [] pos) (nd X.K Bu):=by
 have J:Js "zip"=some (.type "zip"):=by kernel_rfl
 intro pins s σ H R I h;refine jI (Nu I AW hm J (QE (Ba (A1 pos pins s σ H _ I h) λus s1⟨vs,H1,Ak,AE,Aa⟩=>?_) (by rw[hs,Es]) (by rw[Es];rfl)));obtain⟨x,l,e,⟨ys,Ab⟩,q⟩:=Aa;subst e;obtain⟨u,Ln,rfl,⟨t,rfl⟩,Ds⟩:=vals2 AE;cases Ds;obtain⟨its,Bj,BB,BL⟩:=Ak.tuple Ab;refine ua (show s1.heap.IsTuple l its.toArray from BB) λh' a1 a2 Dp FM HI Jn AQ=>?_;have Bq:Inv X pins σ H1 { s1 with heap:=h' }:=Ak.kept (t':=s1.toks) AQ;refine XZ a1 ?_;refine⟨s1.heap.objs.size+4,[s1.heap.objs.size+4,s1.heap.objs.size+2,s1.heap.objs.size+3,s1.heap.objs.size,s1.heap.objs.size+1],_,_,H1,rfl,Bq,ah0 x t l _ _ _ _ _ (sj s1.heap.objs.size),⟨a1,a2,⟨_,_,Dp⟩,FM,HI⟩,λb J=>?_,q⟩;have J:s1.heap.objs.size<=b:=by
  have J:b=s1.heap.objs.size+4\/b=s1.heap.objs.size+2\/b=s1.heap.objs.size+3\/b=s1.heap.objs.size\/b=s1.heap.objs.size+1:=by simpa using J
  rcases J with q|q|q|q|q
  .rw[q];exact LX _ _
  .rw[q];exact LX _ _
  .rw[q];exact LX _ _
  .rw[q];exact CO _
  .rw[q];exact LX _ _
 exact Ak.Ng J (Ak.BU.fresh J)
end
end C7
namespace CP
open PySem PySem.Spec C7
section
variable{X:AY}{F:BK}{e a b c Bd iter elt:AT}{es:List AT}{pos p:Pos}{m n:AX}{ma:Al}
def EF(c:Nat):D:=.str ⟨#[c]⟩
def hU:D->R (List D)
 |.str x=>.ok (x.cps.toList.map EF)
 |_=>.bad
def yI{K:AZ}{G:A8}(x:Str):Lq K (c3 x) (x.cps.toList.map EF) G where
 go:=λi H s AC=>by
  have h:i<x.cps.size:=by simpa using AC
  exact h
 JJ:=λi H v H' s AC y=>by obtain⟨e,c,AG,rfl⟩:=y;refine⟨EF c,?_,.inl ⟨e,by unfold EF;simp only[At]⟩⟩;rw[Fl,io,AG];rfl
 stop:=λH s=>by
  have h:(x.cps.toList.map EF).length=x.cps.size:=by simp
  exact h
def Tk(m:AX):Al:=λρ=>(m ρ).bind hU
def yK:P4 (LO F (Tk m)) (nZ (Ca F m)):=by
 rintro σ H Q ⟨G,ρ,r,h⟩;unfold Tk at h;refine⟨G,ρ,r,?_⟩;refine rb h λd Ai h v H1 Ae AE s1 a=>?_;cases d with
 |str x=>simp only[At]at a;exact⟨x,a,h _ H1 Ae AE s1 (yI x)⟩
 |_=>cases h
def P0(ds:List D):List D:=ds.zipIdx.map λp=>.tup [.int (p.2:Int),p.1]
def vl{ds:List D}{i:Nat}{d:D}(e:ds[i]?=some d):(P0 ds)[i]?=some (.tup [.int (i:Int),d]):=by unfold P0;rw[Fl,Xg,e];simp
def RO:List D->R (List D)
 |[.lst ds]=>.ok (P0 ds)
 |[.Cs ds]=>.ok (P0 ds)
 |_=>.bad
def nM{K:AZ}{G:A8}{l:A3}{ds:List D}{xs:List V}(h:Bp K G l xs)(q:Ac K G ds xs):Lq K (c1 K l) (P0 ds) G where
 go:=λi H s AC=>by
  have AC:i<ds.length:=by simpa[P0]using AC
  obtain⟨v,e,_⟩:=q.get (Dw AC);exact⟨xs,v,Bp.mono s h,e⟩
 JJ:=λi H v H' s AC y=>by obtain⟨p,x,Am,rfl,rfl,y⟩:=y;have ex:=y xs (Bp.mono s h);obtain⟨d,e,a⟩:=q.SA ex;exact⟨_,vl e,.inr ⟨p,_,_,Am,rfl,rfl,rfl,.cons (by simp only[At]) (.cons a .nil)⟩⟩
 stop:=λH s=>⟨xs,Bp.mono s h,by simp[P0,q.length]⟩
def Q4(m:Al):Al:=λρ=>(m ρ).bind RO
def xR(Ag:F.K=X.K):P4 (LO F (Q4 ma)) (nW X.K (EM F ma)):=by
 rintro σ H Q ⟨G,ρ,r,h⟩;unfold Q4 at h;refine⟨G,ρ,r,?_⟩;refine rb h λds Ai h vs H1 Ae AE s1 al=>?_;unfold RO at h
 split at h
 .rename_i ds;obtain⟨v,rfl,a⟩:=al.one;simp only[At]at a;obtain⟨q,xs,rfl,Ab,Ft⟩:=a;have Gn:Bp X.K Ae q xs:=Bp.of Ab;rw[<-Ag]at Gn;refine⟨q,rfl,⟨xs,by rw[<-Ag];exact Bp.mono AE.AV.sub Gn⟩,?_⟩;rw[<-Ag];exact h _ H1 Ae AE s1 (nM Gn Ft)
 .rename_i ds;obtain⟨v,rfl,a⟩:=al.one;simp only[At]at a;obtain⟨q,xs,rfl,Ab,Ft⟩:=a;refine⟨q,rfl,⟨xs,by rw[<-Ag];exact Bp.mono AE.AV.sub Ab⟩,?_⟩;rw[<-Ag];exact h _ H1 Ae AE s1 (nM Ab Ft)
 .exact h.elim
def Rc(xs:List Nat)(ys:List D):List D:=(xs.zip ys).map λp=>.tup [EF p.1,p.2]
def sh:List D->R (List D)
 |[.str x,.DB ys]=>.ok (Rc x.cps.toList ys)
 |_=>.bad
def yJ{K:AZ}{G:A8}{x:Str}{l:A3}{ds:List D}{xs:List V}(h:CA K G l xs)(q:Ac K G ds xs):Lq K (c5 K x l) (Rc x.cps.toList ds) G where
 go:=λi H s AC=>by
  have AC:i<min x.cps.size ds.length:=by simpa[Rc]using AC
  have h1:i<ds.length:=by omega
  obtain⟨v,e,_⟩:=q.get (Dw h1);exact⟨by omega,xs,v,CA.mono s h,e⟩
 JJ:=λi H v H' s AC y=>by
  obtain⟨p,c,Wt,AG,Am,rfl,rfl,y⟩:=y;have ex:=y xs (CA.mono s h);obtain⟨d,e,a⟩:=q.SA ex;refine⟨.tup [EF c,d],?_,.inr ⟨p,_,_,Am,rfl,rfl,rfl,.cons (by unfold EF;simp only[At]) (.cons a .nil)⟩⟩;unfold Rc;rw[Fl];have eX:(x.cps.toList.zip ds)[i]?=some (c,d):=by rw[iu];exact⟨by rw[io];exact AG,e⟩
  rw[eX];rfl
 stop:=λH s=>⟨xs,CA.mono s h,by simp[Rc,q.length]⟩
def aY(m:Al):Al:=λρ=>(m ρ).bind sh
def yR(Ag:F.K=X.K):P4 (LO F (aY ma)) (nd X.K (EM F ma)):=by
 rintro σ H Q ⟨G,ρ,r,h⟩;unfold aY at h;refine⟨G,ρ,r,?_⟩;refine rb h λds Ai h vs H1 Ae AE s1 al=>?_;unfold sh at h
 split at h
 .rename_i x ys;obtain⟨v,w,rfl,Av,I8⟩:=al.two;simp only[At]at Av I8;subst Av;obtain⟨q,xs,rfl,Ab,Ft⟩:=I8;refine⟨x,q,rfl,⟨xs,by rw[<-Ag];exact CA.mono AE.AV.sub Ab⟩,?_⟩;rw[<-Ag];exact h _ H1 Ae AE s1 (yJ Ab Ft)
 .exact h.elim
structure GM(X:AY)(Bd:AT)(set:D->AH->R AH):Prop where
 ex:∃g,Iw X Bd g/\∀F:BK,F.K=X.K->O3 F g set
 Fb:∀d ρ c,set d ρ≠.exc c
 keeps:Keeps set
def Ih(i:Nat){x:Str}(Bs:X.N.Nodup)(AC:X.N[i]?=some x:=by rfl)(AA:Loc X.env.scope x:=by first|exact EV rfl|exact DS rfl)(hf:X.fn x=true\/X.env.scope.names.lookup x=some .local:=by first|exact .inl rfl|exact .inr rfl):GM X (.Name x pos) (BI i):=
 ⟨⟨IC i,R4 Bs AC AA hf,λ_ _=>RU i⟩,QZ i,R7 i⟩
structure YW(X:AY)(ago:List AT)(fs:List (D->AH->R AH)):Prop where
 ex:∃g,Us X ago g/\∀F:BK,F.K=X.K->Ul F g (Hl fs)
 Fb:∀f∈fs,∀d ρ c,f d ρ≠.exc c
 keeps:∀f∈fs,Keeps f
def fG:YW X [] []:=⟨⟨VC,er,λ_ _=>dw⟩,(λ_ h=>nomatch h),(λ_ h=>nomatch h)⟩
def R0{f:D->AH->R AH}{fs:List (D->AH->R AH)}(h:GM X e f)(t:YW X es fs)(hs:(L_ (e::es) X.env).map (·.2)=Km e X.env::(L_ es X.env).map (·.2):=by rfl):YW X (e::es) (f::fs):=by obtain⟨⟨g,h1,h2⟩,h3,h4⟩:=h;obtain⟨⟨Ni,t1,Hn⟩,t3,ay⟩:=t;exact⟨⟨RT g Ni,WJ h1 t1 hs,λF Jr=>VF (h2 F Jr) (Hn F Jr)⟩,λk AQ=>by rcases List.mem_cons.mp AQ with rfl|AQ;exact h3;exact t3 k AQ,λk AQ=>by rcases List.mem_cons.mp AQ with rfl|AQ;exact h4;exact ay k AQ⟩
def fH{k:Nat}{fs:List (D->AH->R AH)}(AG:X.calm=true)(h:YW X es fs)(AU:(L_ es X.env).length=fs.length:=by rfl)(ES:(L_ es X.env).findIdx? (·.1)=none:=by rfl):GM X (.Tuple es k pos) (F6 fs):=by obtain⟨⟨Ni,t1,Hn⟩,t3,ay⟩:=h;exact⟨⟨VE X.K fs.length Ni,ep AG t1 AU ES,λF Jr=>by rw[<-Jr];exact dx rfl (Hn F Jr)⟩,hT t3,hS ay⟩
abbrev Uf(X:AY)(scope:D9)(N:List Str)(e:AT)(m:AX):Prop:=∀cl C s H Ad G0 H0,KB (IA X scope N cl C s H Ad) (Gj X.K G0 H0) e m
abbrev N4(X:AY)(scope:D9)(N:List Str)(ifs:List AT)(m:C9):Prop:=∀cl C s H Ad G0 H0,OA (IA X scope N cl C s H Ad) ifs (GL (Gj X.K G0 H0) m)
abbrev Ug(X:AY)(scope:D9)(N:List Str)(Bd:AT)(set:D->AH->R AH):Prop:=∃g,(∀cl C s H Ad,Iw (IA X scope N cl C s H Ad) Bd g)/\(∀G0 H0,O3 (Gj X.K G0 H0) g set)
def kT{scope:D9}{N:List Str}{g:I7}{set:D->AH->R AH}(h:∀cl C s H Ad,Iw (IA X scope N cl C s H Ad) Bd g)(k:∀F:BK,F.K=X.K->O3 F g set):Ug X scope N Bd set:=⟨g,h,λG0 H0=>k (Gj X.K G0 H0) rfl⟩
def D2:C9:=λ_=>.ok true
def ey{X:AY}{F:BK}:OA X [] (GL F D2):=λpins s σ H Q I⟨G,_,r,k⟩=>adn pins s σ H Q I (k H G r (Bl.refl _ _))
def Er{scope:D9}{N:List Str}:N4 X scope N [] D2:=λ_ _ _ _ _ _ _=>ey
def v1{scope:D9}{N:List Str}{mt:C9}(h:∀cl C s H Ad G0 H0,k7 (IA X scope N cl C s H Ad) (Gj X.K G0 H0) c mt):N4 X scope N [c] mt:=λcl C s H Ad G0 H0=>ado (h cl C s H Ad G0 H0)
def kD{scope:D9}{N:List Str}{ifs:List AT}{nl:Nat}{caps:List Nat}{mi:Al}{set:D->AH->R AH}{mt:C9}{me:AX}(Ag:F.K=X.K)(AC:Un X F Bd iter mi)(AW:Ug X scope N Bd set)(BB:N4 X scope N ifs mt)(he:Uf X scope N elt me)(AA:∀d ρ c,set d ρ≠.exc c)(AQ:Keeps set){Q:TE->Prop}(k:∀g,(∀cl C s H Ad,Iw (IA X scope N cl C s H Ad) Bd g)->(∀cl C s H Ad,OA (IA X scope N cl C s H Ad) ifs (Im X.K mt))->(∀cl C s H Ad,Ao (IA X scope N cl C s H Ad) elt (rn X.K me))->El (Je F (DC nl caps mi set mt me)) (b1 (LO F mi) g (Im X.K mt) (rn X.K me) nl caps)->Q (Je F (DC nl caps mi set mt me))):Q (Je F (DC nl caps mi set mt me)):=by
 obtain⟨g,g1,g2⟩:=AW;refine k g g1 (λcl C s H Ad pins s' σ H' Lw I h=>?_) (λcl C s H Ad pins s' σ H' Lw I h=>?_) ?_
 .obtain⟨G0,H0,h⟩:=h;exact BB cl C s H Ad G0 H0 pins s' σ H' Lw I h
 .obtain⟨G0,H0,h⟩:=h;exact he cl C s H Ad G0 H0 pins s' σ H' Lw I h
 .have z:=dt (F:=F) (po:=Fb) rfl (λ_=>rfl) (λ_=>.inl rfl) (nl:=nl) (caps:=caps) (mi:=mi) (tst:=mt) (elt:=me) (g:=g) (set:=set) (λG0 H0=>by rw[Ag];exact g2 G0 H0) AA AQ;rw[Ag]at z;exact z
def ac1{scope:D9}{N:List Str}{ifs:List AT}{nl:Nat}{caps:List Nat}{mi:Al}{set:D->AH->R AH}{mt:C9}{me:AX}(S:MI X.env.scope X.N scope N nl caps)(AC:Un X F Bd iter mi)(AW:Ug X scope N Bd set)(AA:∀d ρ c,set d ρ≠.exc c)(AQ:Keeps set)(BB:N4 X scope N ifs mt)(he:Uf X scope N elt me)(AG:X.calm=true:=by rfl)(Ag:F.K=X.K:=by rfl)(hs:∀x,Ki iter X.env x=pure x:=by intro _;rfl):js X F (.ListComp elt [⟨Bd,iter,ifs,0⟩] scope pos) (DC nl caps mi set mt me):=
 kD (nl:=nl) (caps:=caps) (Q:=λt=>Ao X (.ListComp elt [⟨Bd,iter,ifs,0⟩] scope pos) t) Ag AC AW BB he AA AQ λg g1 t1 AD imp=>Ao.imp (qR sZ S AG AC g1 t1 AD hs) imp
def adh(i:Nat){y:Str}{py:Pos}{scope:D9}{N:List Str}{ifs:List AT}{nl:Nat}{caps:List Nat}{mi:Al}{set:D->AH->R AH}{mt:C9}{me:AX}{cpos:Pos}(Bs:X.N.Nodup)(S:MI X.env.scope X.N scope N nl caps)(AC:Un X F Bd iter mi)(AW:Ug X scope N Bd set)(AA:∀d ρ c,set d ρ≠.exc c)(AQ:Keeps set)(BB:N4 X scope N ifs mt)(he:Uf X scope N elt me)(BO:X.N[i]?=some y:=by rfl)(AF:X.env.kindOf y=some .local:=by rfl)(Np:MV (.ListComp elt [⟨Bd,iter,ifs,0⟩] scope cpos) (some (.Name y py)) pos.line X.env=pure true:=by rfl)(AG:X.calm=true:=by rfl)(Ag:F.K=X.K:=by rfl)(hs:∀x,Ki iter X.env x=pure x:=by intro _;rfl) :
  jk X F (.Assign [.Name y py] (.ListComp elt [⟨Bd,iter,ifs,0⟩] scope cpos) pos) (GI i (DC nl caps mi set mt me)):=by
 refine DF.imp (t:=Oa (Je F (DC nl caps mi set mt me)) (IC i)) ?_ du;refine kD (nl:=nl) (caps:=caps) (Q:=λt=>DF X (.Assign [.Name y py] (.ListComp elt [⟨Bd,iter,ifs,0⟩] scope cpos) pos) (Oa t (IC i))) Ag AC AW BB he AA AQ λg g1 t1 AD imp=>?_;exact DF.imp (pf sZ S AG Bs BO AF AC g1 t1 AD Np hs) λCZ σ H h=>imp σ H _ h
end
section
variable{X:AY}{F:BK}{e a b c:AT}{es:List AT}{pos p:Pos}{m n:AX}{ma:Al}
def NZ:List D->Option (List Bool)
 |[]=>some []
 |.AI b::r=>(NZ r).map (b::·)
 |_::_=>none
theorem kV{K:AZ}{G:A8}:∀{ds:List D}{xs:List V}{bs:List Bool},Ac K G ds xs->NZ ds=some bs->xs=bs.map V.AI
 |[],_,_,q,e=>by simp only[Ac]at q;subst q;cases e;rfl
 |d::ds,_,bs,q,e=>by
  simp only[Ac]at q;obtain⟨v,r,rfl,a,OD⟩:=q;cases d with
  |AI b=>
   simp only[At]at a;subst a;simp only[NZ]at e;cases AD:NZ ds with
   |none=>rw[AD]at e;cases e
   |some cs=>rw[AD]at e;have BC:b::cs=bs:=EH e;subst BC;rw[kV OD AD];rfl
  |_=>cases e
theorem sQ:∀{bs:List Bool}{us:List A4},Vals (bs.map V.AI) us->us=bs.map Rz
 |[],_,r=>by cases r;rfl
 |b::bs,_,r=>by
  cases r with
  |cons AE B4=>cases AE;rw[sQ B4];rfl
def uP(AG:X.calm=true)(P2:X.A.handled=none):Gu X (.builtin "all") (λxs H Q=>∃(p:A3)(bs:List Bool),xs=[.ref p]/\Bp X.K H p (bs.map V.AI)/\Q (.AI (bs.all id)) H):=by
 intro pins s σ H xs us Q I r h;obtain⟨p,bs,rfl,Ab,q⟩:=h;obtain⟨u,rfl,Ds⟩:=vals1 r;cases Ds;obtain⟨its,Bj,pl,BL⟩:=I.list Ab;have IY:=sQ Bj;refine call_all_walk (QK pl.isList ?_);have M2:p≠s.heap.objs.size:=by obtain⟨o,AN,_⟩:=pl.isList;exact Em (D3 AN)
 refine⟨s.heap.objs.size,_,_,_,_,_,λi=>(bs[i]?).getD true,rfl,Walks.list (prog:=X.prog) (w:=X.w) (A:=X.A.in1) P2 s.heap.objs.size p M2 its.toArray,⟨⟨_,FV _ rfl,rfl,rfl⟩,pl.isList.push _⟩,?_,λh' C8 CW=>?_⟩
 .intro i v s' Lw ahz DK e2;rw[IY]at DK;have DK:(bs.map Rz)[i]?=some v:=by simpa using DK
  rw[Fl]at DK;cases BC:bs[i]? with
  |none=>rw[BC]at DK;cases DK
  |some b=>rw[BC]at DK;have ev:Rz b=v:=EH DK;subst ev;dsimp only at e2;rw[BC]at e2;exact Ju e2
 .have Nk:(DT its.toArray.size).all (λi=>(bs[i]?).getD true)=bs.all id:=by
    have AF:its.toArray.size=bs.length:=by rw[IY];simp
    rw[AF,Rh,UL,UL];constructor
    .intro BN x AA;obtain⟨i,AC,rfl⟩:=List.mem_iff_getElem.mp AA;have:=BN i (List.mem_range.mpr AC);rw[Dw AC]at this;exact this
    .intro BN i AC;have AC:=List.mem_range.mp AC;rw[Dw AC];exact BN _ (UM AC)
  rw[Nk];exact⟨.AI _,H,I.kept (t':=C8) λb o AR=>CW b o (by
   intro z;have z:b=s.heap.objs.size:=by simpa using z
   exact absurd (D3 AR) (by rw[z];exact Hv _)) (Cv _ AR),rfl,q⟩
def DP:List D->R D
 |[.lst ds]=>match NZ ds with|some bs=>.ok (.AI (bs.all id))|none=>.bad
 |_=>.bad
def abI:MH F (λxs H Q=>∃(p:A3)(bs:List Bool),xs=[.ref p]/\Bp X.K H p (bs.map V.AI)/\Q (.AI (bs.all id)) H) DP:=by
 intro σ ρ G H xs ds Q r al k;unfold DP at k
 split at k
 .rename_i ds
  split at k
  .rename_i bs BC;obtain⟨v,rfl,Av⟩:=al.one;simp only[At]at Av;obtain⟨q,xs,rfl,Ab,Ft⟩:=Av;have:=kV Ft BC;subst this;exact⟨q,bs,rfl,Bp.of (r.AV.sub _ _ Ab),k _ H G r (Bl.refl _ _) (by simp only[At])⟩
  .exact k.elim
 .exact k.elim
end
section
variable{X:AY}{F:BK}{e a b c:AT}{es:List AT}{pos p:Pos}{m n:AX}{ma:Al}
def ownAt(i:Nat)(ρ:AH):R (List D):=match ρ[i]? with
 |some (.Aj (.lst ds))=>.ok ds
 |_=>.bad
def KP(i:Nat)(m:AX):Ay:=λρ=>(ownAt i ρ).bind λds=>(m ρ).bind λd=>if ds.length<1000000 then .ok (.Bb (ρ.set i (.DV (ds++[d]))))else .bad
end
abbrev Lk(K:AZ)(n:Nat)(mf:List D->R BQ):J0:=OX K n (λ_ _ _=>False) mf
structure DA(P:Bt)(w:Bg)(K:AZ)(mg:Str->Option A4)(base:B1)(x:Str)(n k:Nat)(mf:List D->R BQ):Prop where
 ex:∃(f:A3)(fd:GO)(AK:List Str),AK.length=n/\HY P w K mg base Iu k f fd AK (Lk K n mf)/\mg x=some (.ref f)/\Ir K (.ref f)=true/\Binds K fd AK []
section
variable{X:AY}{F:BK}{e:AT}{es:List AT}{pos p:Pos}{ma:Al}{x:Str}{n k:Nat}{mf:List D->R BQ}
end
structure CG(K:AZ)(mg:Str->Option A4)(x:Str)(st:B9)(AK:List Str):Prop where
 ex:∃(f:A3)(fd:GO),N6 K x x st f fd/\mg x=some (.ref f)/\Binds K fd AK []
def uH{P:Bt}{w:Bg}{K:AZ}{mg:Str->Option A4}{base:B1}{x:Str}{st:B9}{N AK:List Str}{k:Nat}{m:Ay}(d:CG K mg x st AK)(S:Bv N AK (BW st))(h:∀(f:A3)(CB:A4)(A:C3)(outer:List Env)(s:AL)(H:A8)(E:CS),DY k (A.deeper (Oj x (BW st) s.heap.objs.size f CB))->∀G0 H0,u5 (Eb Iu P w K mg base N x (BW st) f CB A outer s H E).Hi (Gj K G0 H0) (GW st) m) :
  DA P w K mg base x AK.length (k+1) (C0 N.length m):=by
 obtain⟨f,fd,fn,hm,J⟩:=d.ex;refine⟨f,fd,AK,rfl,fn.ok S bc λCB A outer s H vs Q E A6 hs=>?_,hm,fn.AV,J⟩;obtain⟨G,BB⟩:=ZX hs;exact⟨_,h f CB A outer s H E A6 G H,BB⟩
def vQ{K:AZ}{h:B1}{mg:Str->Option A4}{x:Str}{st:B9}{AK:List Str}{f:A3}{Ey:A4}{Dc an:Option A3}{Kq:Array (Option A4)}{Cf doc pm CB Cn:A4}(X:K.In h)(G:h.Ns Ci mg)(a:DW K Ci x=some (some (.ref f)))(l:K.lookup f=some ⟨Ey,Dc,.func (Iq x x (K5 st) (GW st) (BW st) .none Cf doc pm an CB Cn),Kq⟩)(c:Op K CB x=true)(k:Ir K (.ref f)=true)(b:∀(Cf doc pm:A4)(an:Option A3)(CB Cn:A4)(us:List A4),us.length=AK.length->S2 (Iq x x (K5 st) (GW st) (BW st) .none Cf doc pm an CB Cn) ⟨us,[]⟩=pure (AK.zip us)):CG K mg x st AK:=
 ⟨f,_,RS (st:=st) l c k,Fj X G a,(RS (st:=st) l c k).binds b⟩
def aar{K:AZ}{mf:List D->R BQ}{H:A8}{a:A3}{ns:List Int}(J4:Bp K H a (ns.map V.int))(h:mf [.Cs (ns.map .int)]=.ok (.v (.AI true)))(E:CS):Lk K 1 mf [.ref a] H (λv _=>v=.AI true) E:=by
 refine⟨H,[.Cs (ns.map .int)],Sub.refl _,.cons ?_ .nil,rfl,?_⟩
 .simp only[At];refine⟨a,_,rfl,J4,?_⟩;induction ns with
  |nil=>exact .nil
  |cons n r Br=>exact .cons (by simp only[At]) (nk r)
 .rw[h];intro v G' H' _ Av;simp only[At]at Av;exact Av
where
 nk {K:AZ} {H:A8}:∀r:List Int,Ac K H (r.map .int) (r.map V.int)
  |[]=>.nil
  |n::r=>.cons (by simp only[At]) (nk r)
section
variable{X:AY}{F:BK}{e a b c Bd iter elt:AT}{es:List AT}{pos p:Pos}{m n:AX}{ma:Al}{scope:D9}{N:List Str}
structure Sk(X:AY)(scope:D9)(N:List Str)(Bd:AT)(set:D->AH->R AH):Prop where
 g:Ug X scope N Bd set
 Bb:∀d ρ c,set d ρ≠.exc c
 AV:Keeps set
def FY(i:Nat){x:Str}(Bs:N.Nodup:=by decide+kernel)(AC:N[i]?=some x:=by rfl)(AF:(JQ scope X.env).names.lookup x=some .local:=by rfl):Sk X scope N (.Name x pos) (BI i):=
 ⟨kT (g:=IC i) (λcl C s H Ad=>R4 (X:=IA X scope N cl C s H Ad) Bs AC (.inl AF) (.inr AF)) λF _=>RU i,QZ i,R7 i⟩
def RE(i j:Nat){x y:Str}{Af py:Pos}{k:Nat}(AG:X.calm=true:=by rfl)(Bs:N.Nodup:=by decide+kernel)(AC:N[i]?=some x:=by rfl)(Bx:N[j]?=some y:=by rfl)(AF:(JQ scope X.env).names.lookup x=some .local:=by rfl)(hm:(JQ scope X.env).names.lookup y=some .local:=by rfl) :
  Sk X scope N (.Tuple [.Name x Af,.Name y py] k pos) (F6 [BI i,BI j]):=by
 refine⟨kT (g:=VE X.K 2 (RT (IC i) (RT (IC j) VC))) (λcl C s H Ad=>?_) (λF Jr=>?_),hT ?_,hS ?_⟩
 .exact ep (X:=IA X scope N cl C s H Ad) AG (WJ (R4 (X:=IA X scope N cl C s H Ad) Bs AC (.inl AF) (.inr AF)) (WJ (R4 (X:=IA X scope N cl C s H Ad) Bs Bx (.inl hm) (.inr hm)) er rfl) rfl) rfl rfl
 .rw[<-Jr];exact dx rfl (VF (RU i) (VF (RU j) dw))
 .intro f hf;rcases List.mem_cons.mp hf with rfl|hf
  .exact QZ i
  .rw[List.mem_singleton.mp hf];exact QZ j
 .intro f hf;rcases List.mem_cons.mp hf with rfl|hf
  .exact R7 i
  .rw[List.mem_singleton.mp hf];exact R7 j
def ac2(nl:Nat)(caps:List Nat){ifs:List AT}{mi:Al}{set:D->AH->R AH}{mt:C9}{me:AX}(S:Ov X.env.scope X.N scope N nl caps=true)(AC:Un X F Bd iter mi)(AW:Sk X scope N Bd set)(BB:N4 X scope N ifs mt)(he:Uf X scope N elt me)(AG:X.calm=true:=by rfl)(Ag:F.K=X.K:=by rfl)(hs:∀x,Ki iter X.env x=pure x:=by intro _;rfl):js X F (.ListComp elt [⟨Bd,iter,ifs,0⟩] scope pos) (DC nl caps mi set mt me):=
 ac1 (.of S) AC AW.g AW.Bb AW.AV BB he AG Ag hs
def aej(i:Nat)(nl:Nat)(caps:List Nat){y:Str}{py:Pos}{ifs:List AT}{mi:Al}{set:D->AH->R AH}{mt:C9}{me:AX}{cpos:Pos}(Bs:X.N.Nodup)(S:Ov X.env.scope X.N scope N nl caps=true)(AC:Un X F Bd iter mi)(AW:Sk X scope N Bd set)(BB:N4 X scope N ifs mt)(he:Uf X scope N elt me)(BO:X.N[i]?=some y:=by rfl)(AF:X.env.kindOf y=some .local:=by rfl)(Np:MV (.ListComp elt [⟨Bd,iter,ifs,0⟩] scope cpos) (some (.Name y py)) pos.line X.env=pure true:=by rfl)(AG:X.calm=true:=by rfl)(Ag:F.K=X.K:=by rfl)(hs:∀x,Ki iter X.env x=pure x:=by intro _;rfl) :
  jk X F (.Assign [.Name y py] (.ListComp elt [⟨Bd,iter,ifs,0⟩] scope cpos) pos) (GI i (DC nl caps mi set mt me)):=
 adh i Bs (.of S) AC AW.g AW.Bb AW.AV BB he BO AF Np AG Ag hs
def LJ(i:Nat)(a:Al):Ay:=λρ=>((GI i a) ρ).bind λf=>match f with
 |.Bb BZ=>.ok (.Bb (Nh i BZ))
 |f=>.ok f
end
def Pq{K:AZ}{c:A3}{dd:Option A3}{its:Array A4}{n:Nat}{CJ:Array (Option A4)}{xs:List V}{ds:List D}(l:K.lookup c=some ⟨.type "tuple",dd,.seq its n,CJ⟩)(BL:its.size<=CF)(v:Vals xs its.toList)(a:∀G,Ac K G ds xs) :
  ∀G,At K G (.DB ds) (.ref c):=λG=>by
 simp only[At];exact⟨c,xs,rfl,.inr ⟨_,its,n,l,rfl,rfl,BL,v⟩,a G⟩
def MX(i:Int)(t:Tok):RelV (.int i) (.int i t):=⟨t,rfl⟩
def Pi(x:Str)(t:Tok):RelV (.str x) (.str x t):=⟨t,rfl⟩
def ND{K:AZ}{G:A8}(i:Int):At K G (.int i) (.int i):=by simp only[At]
def PG{K:AZ}{G:A8}(i:Str):At K G (.str i) (.str i):=by simp only[At]
structure Ah(X:AY)(F:BK)(e:AT)(m:AX):Prop where
 o:Ao X e (Ca F m)
structure Jm(X:AY)(F:BK)(e:AT)(m:Al):Prop where
 o:Ao X e (Je F m)
structure FE(X:AY)(F:BK)(e:AT)(m:C9):Prop where
 o:FD X e (GL F m)
structure RD(X:AY)(F:BK)(e:AT)(m:C9):Prop where
 o:Ix X e (GL F m)
structure EZ(X:AY)(F:BK)(es:List AT)(m:Al):Prop where
 o:F1 X es (EM F m)
structure FL(X:AY)(F:BK)(st:B9)(m:Ay):Prop where
 o:DF X st (Fd F m)
structure J3(X:AY)(F:BK)(st:List B9)(m:Ay):Prop where
 o:GU X st (Fd F m)
structure KH(X:AY)(F:BK)(Bd e:AT)(m:Al):Prop where
 o:GF X Bd e (LO F m)
structure YO(X:AY)(F:BK)(e:Option AT)(m:P5):Prop where
 o:Ut X e (hD F m)
section
variable{X:AY}{F:BK}{e a b c Bd iter elt:AT}{es:List AT}{pos p:Pos}{m n:AX}{ma:Al}{st:B9}{O_:List B9}
def A2(i:Nat){x:Str}(Bs:X.N[i]?=some x:=by rfl)(Be:H_ X.env.scope x:=by first|exact EV rfl|exact DS (EV rfl)|exact DS (DS rfl))(hd:(x==("__debug__" :Str))=false:=by decide)(Dj:(x==("__classdict__" :Str))=false:=by decide):Ah X F (.Name x pos) (Z i):=⟨Ao.imp (Ks Bs Be hd Dj) (yP i)⟩
def AS{i:Int}{j}:Ah X F (.Constant (.int i) j pos) (A7 (.int i)):=⟨Ao.imp ad3 (V_ λ_=>by simp only[At])⟩
def Fg{i:Bool}{j}:Ah X F (.Constant (.bool i) j pos) (A7 (.AI i)):=⟨Ao.imp acu (V_ λ_=>by simp only[At])⟩
def Cu{i:Str}{j}:Ah X F (.Constant (.str i) j pos) (A7 (.str i)):=⟨Ao.imp eo (V_ λ_=>by simp only[At])⟩
def Hq{j}:Ah X F (.Constant .none j pos) (A7 .non):=⟨Ao.imp acG (V_ λ_=>by simp only[At])⟩
def AJ:EZ X F [] AB:=⟨F1.imp N1 nj⟩
def A5{m:AX}{r:Al}(h:Ah X F e m)(t:EZ X F es r)(hs:notStar e=true:=by rfl):EZ X F (e::es) (A0 m r):=⟨have h:=h.1;have t:=t.1;F1.imp (Kr h t (qq e es X.env hs)) xL⟩
def EO{k}{m:Al}(h:EZ X F es m):Ah X F (.Tuple es k pos) (Db m):=⟨have h:=h.1;Ao.imp (qU h) yM⟩
def Ek{m:Al}(h:EZ X F es m):Jm X F (.List es pos) (E0 m):=⟨have h:=h.1;Ao.imp (ad6 h) yp⟩
def CR{m:Al}(h:Jm X F e m):Ah X F e (C6 m):=⟨have h:=h.1;Ao.imp h yi⟩
def U5{m:AX}(h:Ah X F e m):Ah X F e (Mt m):=⟨have h:=h.1;Ao.imp h xk⟩
def XA{m:C9}(h:FE X F e m):FE X F e (KQ m):=⟨have h:=h.1;FD.imp h xm⟩
def DN{m:AX}(h:Ah X F e m)(he:∀whole,isTrue e X.env whole=(do let v <-whole;NO e.pos;JO [v] (truthy v)):=by intro _;rfl):FE X F e (B2 m):=⟨have h:=h.1;FD.imp (adm h he) dr⟩
def Ws{m:C9}(h:FE X F a m):RD X F (.BoolOp .And [a] pos) m:=⟨have h:=h.1;adu h⟩
def Gc{m:C9}(h:FE X F a m):RD X F (.BoolOp .Or [a] pos) m:=⟨have h:=h.1;adw h⟩
def Wr{m n:C9}(h:FE X F a m)(k:RD X F (.BoolOp .And (b::es) pos) n):RD X F (.BoolOp .And (a::b::es) pos) (LF m n):=⟨have h:=h.1;have k:=k.1;Ix.imp (adt h k) xi⟩
def GB{m n:C9}(h:FE X F a m)(k:RD X F (.BoolOp .Or (b::es) pos) n):RD X F (.BoolOp .Or (a::b::es) pos) (EL m n):=⟨have h:=h.1;have k:=k.1;Ix.imp (adv h k) yy⟩
def Fi{m:C9}(h:RD X F e m):FE X F e m:=⟨have h:=h.1;Ix.pt h⟩
def D_{m:C9}(h:FE X F a m):FE X F (.UnaryOp .Not a pos) (Cq m):=⟨have h:=h.1;FD.imp (adl h) yw⟩
def LU{op}{m:AX}(h:Ah X F a m):Ah X F (.BoolOp op [a] pos) m:=⟨have h:=h.1;acI h⟩
def NG{m n:AX}(h:Ah X F a m)(k:Ah X F (.BoolOp .And (b::es) pos) n):Ah X F (.BoolOp .And (a::b::es) pos) (JY m n):=⟨have h:=h.1;have k:=k.1;Ao.imp (acs h k) xj⟩
def rV{m n:AX}(h:Ah X F a m)(k:Ah X F (.BoolOp .Or (b::es) pos) n):Ah X F (.BoolOp .Or (a::b::es) pos) (T3 m n):=⟨have h:=h.1;have k:=k.1;Ao.imp (acJ h k) yz⟩
def ahg{m:AX}(h:Ah X F a m):Ah X F (.UnaryOp .Not a pos) (a_ m):=⟨have h:=h.1;Ao.imp (acH h) yx⟩
def RY{k:C9}{m n:AX}(h:FE X F c k)(A1:Ah X F a m)(J:Ah X F b n):Ah X F (.IfExp c a b pos) (LG k m n):=⟨have h:=h.1;have A1:=A1.1;have J:=J.1;Ao.imp (ad2 h A1 J) yj⟩
def Cm:J3 X F [] CI:=⟨GU.imp pi yv⟩
def B8{m n:Ay}(h:FL X F st m)(k:J3 X F O_ n):J3 X F (st::O_) (Aq m n):=⟨have h:=h.1;have k:=k.1;GU.imp (ph h k) z4⟩
def Ax{m:Ay}(h:FL X F st m):J3 X F [st] m:=⟨have h:=h.1;ew h⟩
def ahF{m:AX}(h:Ah X F e m)(hs:NY e=true:=by rfl):FL X F (.Expr e pos) (Wc m):=⟨have h:=h.1;DF.imp (aF h (M_ _ _ _ _ hs)) xP⟩
def Bk{m:AX}(h:Ah X F e m):FL X F (.Return (some e) pos) (Bc m):=⟨have h:=h.1;DF.imp (bN h) z1⟩
def X9{m:Al}(h:Jm X F e m):FL X F (.Return (some e) pos) (Ie m):=⟨have h:=h.1;DF.imp (bN h) z2⟩
def au(i:Nat){x:Str}{p:Pos}(Bs:X.N[i]?=some x:=by rfl)(Be:H_ X.env.scope x:=by first|exact EV rfl|exact DS (EV rfl)|exact DS (DS rfl))(hd:(x==("__debug__" :Str))=false:=by decide)(Dj:(x==("__classdict__" :Str))=false:=by decide):FL X F (.Return (some (.Name x p)) pos) (Ie (NP i)):=⟨DF.imp (bN (Ks Bs Be hd Dj)) (z3 i)⟩
def Cb{k:C9}{m n:Ay}{xs ys:List B9}(h:FE X F c k)(A1:J3 X F xs m)(J:J3 X F ys n):FL X F (.If c xs ys pos) (C4 k m n):=⟨have h:=h.1;have A1:=A1.1;have J:=J.1;DF.imp (pg h A1 J) yk⟩
def D8(i:Nat){x:Str}{p:Pos}{m:AX}(Bs:X.N.Nodup)(he:Ah X F e m)(AC:X.N[i]?=some x:=by rfl)(AA:Loc X.env.scope x:=by first|exact EV rfl|exact DS rfl)(hs:NY e=true:=by rfl)(hf:X.fn x=true\/X.env.scope.names.lookup x=some .local:=by first|exact .inl rfl|exact .inr rfl):FL X F (.Assign [.Name x p] e pos) (Cg i m):=⟨have he:=he.1;DF.imp (bO Bs AC AA he (M_ _ _ _ _ hs) hf) z5⟩
def MJ(i:Nat){x:Str}{p:Pos}{m:Al}(Bs:X.N.Nodup)(he:Jm X F e m)(AC:X.N[i]?=some x:=by rfl)(AA:Loc X.env.scope x:=by first|exact EV rfl|exact DS rfl)(hs:NY e=true:=by rfl)(hf:X.fn x=true\/X.env.scope.names.lookup x=some .local:=by first|exact .inl rfl|exact .inr rfl):FL X F (.Assign [.Name x p] e pos) (GI i m):=⟨have he:=he.1;DF.imp (bO Bs AC AA he (M_ _ _ _ _ hs) hf) du⟩
def MF(A1:Ah X F a m)(J:Ah X F b n):Ah X F (.BinOp a .Sub b pos) (A9 Kc m n):=⟨have A1:=A1.1;have J:=J.1;Nd ach (WD λ_ _ _=>by simp only[At]) A1 J⟩
def U7(A1:Ah X F a m)(J:Ah X F b n):Ah X F (.BinOp a .Mult b pos) (A9 MD m n):=⟨have A1:=A1.1;have J:=J.1;Nd abB (aC λ_ _ _=>by simp only[At]) A1 J⟩
def PN(A1:Ah X F a m)(J:Ah X F b n):Ah X F (.BinOp a .FloorDiv b pos) (A9 K8 m n):=⟨have A1:=A1.1;have J:=J.1;Nd ab7 (aC λ_ _ _=>by simp only[At]) A1 J⟩
def Ej(A1:Ah X F a m)(J:Ah X F b n):Ah X F (.BinOp a .Mod b pos) (A9 Dr m n):=⟨have A1:=A1.1;have J:=J.1;Nd abA (aC λ_ _ _=>by simp only[At]) A1 J⟩
def ia(A1:Ah X F a m)(J:Ah X F b n):Ah X F (.BinOp a .Pow b pos) (A9 OP m n):=⟨have A1:=A1.1;have J:=J.1;Nd acf (aC λ_ _ _=>by simp only[At]) A1 J⟩
def bM(A1:Ah X F a m)(J:Ah X F b n):FE X F (.Compare a [.Lt] [b] pos) (B2 (A9 Nw m n)):=⟨have A1:=A1.1;have J:=J.1;Ob qF (WD λ_ _ _=>by simp only[At]) A1 J (NX _)⟩
def av(A1:Ah X F a m)(J:Ah X F b n):FE X F (.Compare a [.Gt] [b] pos) (B2 (A9 SB m n)):=⟨have A1:=A1.1;have J:=J.1;Ob ab8 (WD λ_ _ _=>by simp only[At]) A1 J (NX _)⟩
def Ef(A1:Ah X F a m)(J:Ah X F b n):Ah X F (.BinOp a .Add b pos) (A9 Cy m n):=⟨have A1:=A1.1;have J:=J.1;Nd (ab_.or (aba.or Zc)) abH A1 J⟩
def Kf(BX:X.A.units+64<E4)(A1:Ah X F a m)(J:Ah X F b n)(Ag:F.K=X.K:=by rfl):FE X F (.Compare a [.Eq] [b] pos) (B2 (A9 (Bz true) m n)):=⟨have A1:=A1.1;have J:=J.1;Ob (qC Ag BX) (aB true) A1 J (NX _)⟩
def Jg(BX:X.A.units+64<E4)(A1:Ah X F a m)(J:Ah X F b n)(Ag:F.K=X.K:=by rfl):FE X F (.Compare a [.NotEq] [b] pos) (B2 (A9 (Bz false) m n)):=⟨have A1:=A1.1;have J:=J.1;Ob (qG Ag BX) (aB false) A1 J (NX _)⟩
def Qh(BX:X.A.units+64<E4)(A1:Ah X F a m)(J:Ah X F b n)(Ag:F.K=X.K:=by rfl):Ah X F (.Compare a [.Eq] [b] pos) (A9 (Bz true) m n):=⟨have A1:=A1.1;have J:=J.1;Vl (qC Ag BX) (aB true) A1 J (NX _)⟩
def rU(BX:X.A.units+64<E4)(A1:Ah X F a m)(J:Ah X F b n)(Ag:F.K=X.K:=by rfl):Ah X F (.Compare a [.NotEq] [b] pos) (A9 (Bz false) m n):=⟨have A1:=A1.1;have J:=J.1;Vl (qG Ag BX) (aB false) A1 J (NX _)⟩
def sX(BX:X.A.units+64<E4)(A1:Ah X F a m)(J:Ah X F b n)(Ag:F.K=X.K:=by rfl)(hm:HV .In b=false:=by with_unfolding_all rfl):FE X F (.Compare a [.In] [b] pos) (B2 (A9 (inD true) m n)):=⟨have A1:=A1.1;have J:=J.1;Ob (qD Ag BX) (fK true) A1 J hm⟩
def Wq(BX:X.A.units+64<E4)(A1:Ah X F a m)(J:Ah X F b n)(Ag:F.K=X.K:=by rfl)(hm:HV .NotIn b=false:=by with_unfolding_all rfl):FE X F (.Compare a [.NotIn] [b] pos) (B2 (A9 (inD false) m n)):=⟨have A1:=A1.1;have J:=J.1;Ob (abD Ag BX) (fK false) A1 J hm⟩
def X4(BX:X.A.units+64<E4)(A1:Ah X F a m)(J:Ah X F b n)(Ag:F.K=X.K:=by rfl)(hm:HV .In b=false:=by with_unfolding_all rfl):Ah X F (.Compare a [.In] [b] pos) (A9 (inD true) m n):=⟨have A1:=A1.1;have J:=J.1;Vl (qD Ag BX) (fK true) A1 J hm⟩
def Tn(A1:Ah X F a m)(J:Ah X F b n):FE X F (.Compare a [.Is] [b] pos) (B2 (A9 (H6 true) m n)):=⟨have A1:=A1.1;have J:=J.1;Ob qE (λσ ρ G H x y Ar FG Q r B_ C1 k=>by
 unfold H6 at k
 split at k
 .simp only[At]at C1;rw[fX B_]at k;exact⟨C1,k _ H G r (Bl.refl _ _) (by simp only[At];rfl)⟩
 .exact k.elim) A1 J (NX _)⟩
def sY(A1:Ah X F a m)(J:Ah X F b n):FE X F (.Compare a [.IsNot] [b] pos) (B2 (A9 (H6 false) m n)):=⟨have A1:=A1.1;have J:=J.1;Ob abb (λσ ρ G H x y Ar FG Q r B_ C1 k=>by
 unfold H6 at k
 split at k
 .simp only[At]at C1;rw[fX B_]at k;exact⟨C1,k _ H G r (Bl.refl _ _) (by simp only[At];rfl)⟩
 .exact k.elim) A1 J (NX _)⟩
def ah_(A1:Ah X F a m)(J:Ah X F b n):Ah X F (.Compare a [.Is] [b] pos) (A9 (H6 true) m n):=⟨have A1:=A1.1;have J:=J.1;Vl qE (λσ ρ G H x y Ar FG Q r B_ C1 k=>by
 unfold H6 at k
 split at k
 .simp only[At]at C1;rw[fX B_]at k;exact⟨C1,k _ H G r (Bl.refl _ _) (by simp only[At];rfl)⟩
 .exact k.elim) A1 J (NX _)⟩
def ahV{op JC:Jz}{r BM:EI}{f g:D->D->R D}{l:AX}(AN:DX X (FK op) r)(FH:DX X (FK JC) BM)(hf:G3 F r f)(AW:G3 F BM g)(A1:Ah X F a m)(J:Ah X F b n)(AG:Ah X F c l)(hm:lastMarks [op,JC] [b,c]=false:=by with_unfolding_all rfl):Ah X F (.Compare a [op,JC] [b,c] pos) (JZ f g m n l):=⟨have A1:=A1.1;have J:=J.1;have AG:=AG.1;Ao.imp (acx AN FH A1 J AG hm) (nh hf AW)⟩
def iA{op JC:Jz}{r BM:EI}{f g:D->D->R D}{l:AX}(AN:DX X (FK op) r)(FH:DX X (FK JC) BM)(hf:G3 F r f)(AW:G3 F BM g)(A1:Ah X F a m)(J:Ah X F b n)(AG:Ah X F c l)(hm:lastMarks [op,JC] [b,c]=false:=by with_unfolding_all rfl):FE X F (.Compare a [op,JC] [b,c] pos) (B2 (JZ f g m n l)):=⟨have A1:=A1.1;have J:=J.1;have AG:=AG.1;FD.imp (adi AN FH A1 J AG hm) λσ H Q h=>by obtain⟨G,ρ,r,k⟩:=nf (F:=F) (m:=JZ f g m n l) σ H Q h;exact nh hf AW σ H _ ⟨G,ρ,r,k⟩⟩
def E3(hm:X.mg "len"=none)(A1:EZ X F [e] ma)(Ag:F.K=X.K:=by rfl)(AW:DI X "len":=by rfl)(he:Ap [e] X.env=(false,BE e X.env)::Ap [] X.env:=by rfl)(Cz:(Cj pos (Ap [] X.env)).any (·.1)=false:=by rfl):Ah X F (.Call (.Name "len" p) [e] [] pos) (Bm CQ ma):=⟨have A1:=A1.1;eN uS (abO Ag) hm PySem.boot_len A1 AW (by decide) (by decide) he Cz⟩
def Fh{U:Str}{T:String}{Cd:Pos}(tt:RB X.K T)(hm:X.mg "isinstance"=none)(xt:X.mg U=none)(wX:Js U=some (.type T))(A1:Ah X F a m)(Ag:F.K=X.K:=by rfl)(AW:DI X "isinstance":=by rfl)(wq:DI X U:=by rfl)(xw:U≠"__name__":=by decide)(wi:(U==("__debug__" :Str))=false:=by decide)(Es:Ap [.Name U Cd] X.env=(false,BE (.Name U Cd) X.env)::Ap [] X.env:=by rfl)(he:Ap [a,.Name U Cd] X.env=(false,BE a X.env)::Ap [.Name U Cd] X.env:=by rfl)(Cz:(Cj pos (Ap [.Name U Cd] X.env)).any (·.1)=false:=by rfl):Ah X F (.Call (.Name "isinstance" p) [a,.Name U Cd] [] pos) (D4 (Cp T) m):=⟨by
 have A1:=A1.1;have J:Js "isinstance"=some (.builtin "isinstance"):=by kernel_rfl
 refine Ao.imp (fT (uR Ag tt) AW hm J (Kr A1 (Kr (acv wq xt wX (v:=.ty T) rfl xw wi) N1 Es) he) (by decide) (by decide) he Cz) ?_;rintro σ H Q ⟨G,ρ,r,h⟩;unfold D4 at h;refine⟨G,ρ,r,?_⟩;refine rb h λd Ai h x H1 Ae AE s1 B_=>?_;unfold Cp at h;cases e:Wx d with
 |none=>rw[e]at h;cases h
 |some Uu=>rw[e]at h;exact⟨Ae,d,x,Uu,AE.AV.sub,rfl,B_,e,h _ H1 Ae AE s1 (by simp only[At])⟩⟩
def BJ(A1:Ah X F a m)(J:Ah X F b n)(hs:c8 b)(Ag:F.K=X.K:=by rfl):Ah X F (.Subscript a b pos) (A9 AO m n):=⟨have A1:=A1.1;have J:=J.1;Ao.imp (ad4 zj A1 J hs) (V2 (abN Ag))⟩
def U9:YO X F none LI:=⟨λpins s σ H Q I h=>by obtain⟨G,ρ,r,k⟩:=h;exact aca pins s σ H Q I (k H G r (Bl.refl _ _))⟩
def PR(h:Ah X F e m):YO X F (some e) (J9 m):=⟨have h:=h.1;λpins s σ H Q I hw=>by
 obtain⟨G,ρ,r,k⟩:=hw;refine acb h pins s σ H Q I ⟨G,ρ,r,?_⟩;unfold J9 at k;refine rb k λd Ai k x H1 Ae AE s1 B_=>?_;cases d with
 |int i=>simp only[At]at B_;exact⟨i,B_,k H1 Ae AE s1⟩
 |_=>exact k.elim⟩
def RZ{lo AC:Option AT}{Cd:Pos}{ox ov:P5}(A1:Ah X F a m)(AF:YO X F lo ox)(BN:YO X F AC ov)(Ag:F.K=X.K:=by rfl):Ah X F (.Subscript a (.Slice lo AC none Cd) pos) (JA JF m ox ov):=⟨have A1:=A1.1;have AF:=AF.1;have BN:=BN.1;Ao.imp (acK (afs.or aft) A1 AF BN) (z7 Ag)⟩
def PQ(hm:X.mg "str"=none)(A1:EZ X F [e] ma)(AW:DI X "str":=by rfl)(he:Ap [e] X.env=(false,BE e X.env)::Ap [] X.env:=by rfl)(Cz:(Cj pos (Ap [] X.env)).any (·.1)=false:=by rfl):Ah X F (.Call (.Name "str" p) [e] [] pos) (Bm Jd ma):=⟨have A1:=A1.1;Vk kc abT hm (by kernel_rfl) A1 AW (by decide) (by decide) he Cz⟩
def ahi(hm:X.mg "int"=none)(A1:EZ X F [e] ma)(AW:DI X "int":=by rfl)(he:Ap [e] X.env=(false,BE e X.env)::Ap [] X.env:=by rfl)(Cz:(Cj pos (Ap [] X.env)).any (·.1)=false:=by rfl):Ah X F (.Call (.Name "int" p) [e] [] pos) (Bm bB ma):=⟨have A1:=A1.1;Vk kb abV hm (by kernel_rfl) A1 AW (by decide) (by decide) he Cz⟩
def Fy(h:Ah X F e m)(Ag:F.K=X.K:=by rfl):KH X F Bd e (ET m):=⟨have h:=h.1;GF.imp (acO h) (by rw[<-Ag];exact yn)⟩
def iB(h:Ah X F e m)(Ag:F.K=X.K:=by rfl):KH X F Bd e (Q5 m):=⟨have h:=h.1;GF.imp (acR h) (by rw[<-Ag];exact yO)⟩
def sd(h:Ah X F e m):KH X F Bd e (Tk m):=⟨have h:=h.1;GF.imp (acQ h) yK⟩
def LW(hm:X.mg "range"=none)(A1:EZ X F [a] ma)(AW:DI X "range":=by rfl)(hs:Ap [a] X.env=[(false,BE a X.env)]:=by rfl):KH X F Bd (.Call (.Name "range" p) [a] [] pos) (II ma):=⟨have A1:=A1.1;GF.imp (acP AW hm A1 hs) z0⟩
def XB{elts:List AT}{k:Nat}{Qd:Pos}(hm:X.mg "enumerate"=none)(A1:EZ X F [a] ma)(Ag:F.K=X.K:=by rfl)(AW:DI X "enumerate":=by rfl)(hs:Ap [a] X.env=[(false,BE a X.env)]:=by rfl):KH X F (.Tuple elts k Qd) (.Call (.Name "enumerate" p) [a] [] pos) (Q4 ma):=⟨have A1:=A1.1;GF.imp (acN AW hm A1 hs) (xR Ag)⟩
def ahJ{elts:List AT}{k:Nat}{Qd:Pos}(hm:X.mg "zip"=none)(A1:EZ X F [a,b] ma)(Ag:F.K=X.K:=by rfl)(AW:DI X "zip":=by rfl)(hs:Ap [a,b] X.env=[(false,BE a X.env),(false,BE b X.env)]:=by rfl)(Es:Ap [b] X.env=[(false,BE b X.env)]:=by rfl):KH X F (.Tuple elts k Qd) (.Call (.Name "zip" p) [a,b] [] pos) (aY ma):=⟨have A1:=A1.1;GF.imp (acT AW hm A1 hs Es) (yR Ag)⟩
def LV{body:List B9}{mi:Al}{set:D->AH->R AH}{Gl:Ay}(Am:PassesOwn (BA X.prog X.w) X.A X.env X.xe)(AC:KH X F Bd iter mi)(AW:GM X Bd set)(J:J3 X F body Gl)(AG:X.calm=true:=by rfl)(Ag:F.K=X.K:=by rfl)(hs:∀x,Ki iter X.env x=pure x:=by intro _;rfl):FL X F (.For Bd iter body [] pos) (G7 mi set Gl):=⟨by
 have AC:=AC.1;have J:=J.1;obtain⟨⟨g,h1,h2⟩,h3,_⟩:=AW;exact DF.imp (acB Am AG AC h1 J hs) (xn (h2 F Ag) h3)⟩
def Tl{st:B9}{i:Nat}{a:Al}(h:FL X F st (GI i a)):FL X F st (LJ i a):=⟨have h:=h.1;DF.imp h λCZ σ H⟨G,ρ,r,k⟩=>by
 refine⟨G,ρ,r,?_⟩;unfold LJ at k;refine rb k λf e k=>?_;cases f with
 |Bb BZ=>intro σ' G' H' BM s';obtain⟨Cw,B4,s2⟩:=BM.Nh i;exact k σ' Cw H' B4 (s'.trans s2)
 |Ed d=>exact k
 |Ij d=>exact k
 |Ec d=>exact k
 |G4 d=>exact k
 |Cn d=>exact k⟩
def Ps{k:Nat}(A6:DY k X.A)(hm:X.mg "all"=none)(A1:EZ X F [e] ma)(AG:X.calm=true:=by rfl)(AW:DI X "all":=by rfl)(he:Ap [e] X.env=(false,BE e X.env)::Ap [] X.env:=by rfl)(Cz:(Cj pos (Ap [] X.env)).any (·.1)=false:=by rfl):Ah X F (.Call (.Name "all" p) [e] [] pos) (Bm DP ma):=⟨have A1:=A1.1;eN (uP AG A6.hd) abI hm (by kernel_rfl) A1 AW (by decide) (by decide) he Cz⟩
def R_ (i:Nat) {x:Str} {Af:Pos} {apos:Pos} {cpos:Pos} (he:Ah X F e m) (Bs:X.N[i]?=some x:=by rfl) (Be:H_ X.env.scope x:=by first|exact EV rfl|exact DS (EV rfl)|exact DS (DS rfl)) (hd:(x==("__debug__" :Str))=false:=by decide) (Dj:(x==("__classdict__" :Str))=false:=by decide) (ID:JL (.Name x Af) "append" X.env (BE (.Name x Af) X.env)=BE (.Name x Af) X.env:=by rfl) (IF:(apos.endLine==cpos.line)=true:=by rfl) (IE:((Cj cpos (Ap [e] X.env)).all (λx=>!x.1)&&(Hw cpos (Ht [] X.env)).all (λx=>x.1.isSome)
   &&decide (([e]:List AT).length+([]:List GA).length+(if([]:List GA).isEmpty then 0 else 1)<30))=true:=by rfl) (hs:Ap [e] X.env=(false,BE e X.env)::Ap [] X.env:=by rfl) (IG:(Cj cpos (Ap [] X.env)).any (·.1)=false:=by rfl) (Ag:F.K=X.K:=by rfl):FL X F (.Expr (.Call (.Attribute (.Name x Af) "append" apos) [e] [] cpos) pos) (KP i m):=⟨by
 have he:=he.1;refine DF.imp (aF (Pd Rf sy sz fD (Ks Bs Be hd Dj) (Kr he N1 hs) ID IE IF hs IG) (M_ _ _ _ _ rfl)) ?_;rintro CZ σ H ⟨G,ρ,r,h⟩;unfold KP ownAt at h;cases CV:ρ[i]? with
 |none=>rw[CV]at h;cases h
 |some s=>
  rw[CV]at h;cases s with
  |un=>cases h
  |AM _=>cases h
  |Fq _=>cases h
  |Aj Aj=>
   cases Aj with
   |B5 _ _=>cases h
   |ins _ _ _=>cases h
   |lst ds=>
    obtain⟨q,xs,AD,h1,h2,h3,h4⟩:=r.own CV;have h:He F G CZ ((m ρ).bind λd=>if ds.length<1000000 then .ok (.Bb (ρ.set i (.DV (ds++[d]))))else .bad):=h;refine⟨.ref q,AD,.inl ⟨rfl,xs,Bp.of h1⟩,G,ρ,r,?_⟩;refine rb h λd Ai h v H1 Ae AE s1 Av=>?_;obtain⟨Cr,Jf,Fu,KI,SC,SD,GY⟩:=AE.own CV;rw[AD]at Fu;cases Fu;by_cases AF:ds.length<1000000
    .rw[if_pos AF]at h;refine⟨q,Jf,v,rfl,rfl,KI,by rw[<-GY.length];exact QN AF (by decide),?_⟩;exact h σ Ae _ (AE.mut CV AD (GY.snoc Av)) s1.g
    .rw[if_neg AF]at h;exact h.elim⟩
def Bf{x:Str}{n k:Nat}{mf:List D->R BQ}(c:DA X.prog X.w X.K X.mg X.base x n k mf)(A6:DY k X.A)(A1:EZ X F (e::es) ma)(H5:F.Hx=λ_ _=>False:=by rfl)(Ag:F.K=X.K:=by rfl)(AW:DI X x:=by rfl)(Fn:(x==("__debug__" :Str))=false:=by decide)(he:Ap (e::es) X.env=(false,BE e X.env)::Ap es X.env:=by rfl)(Cz:(Cj pos (Ap es X.env)).any (·.1)=false:=by rfl):Ah X F (.Call (.Name x p) (e::es) [] pos) (Au n mf ma):=⟨by
 have A1:=A1.1;obtain⟨f,fd,AK,AU,HL,hm,AQ,J⟩:=c.ex;refine Ao.imp (WI HL A6 AW hm AQ J .nil Zg A1 Fn he Cz) ?_;rw[<-Ag];exact Yn (xe:=λ_ _ _=>False) (E:=cZ) H5⟩
def OL{x:Str}{n k:Nat}{mf:List D->R BQ}(c:DA X.prog X.w X.K X.mg X.base x n k mf)(A6:DY k X.A)(A1:EZ X F (e::es) ma)(H5:F.Hx=λ_ _=>False:=by rfl)(Ag:F.K=X.K:=by rfl)(AW:DI X x:=by rfl)(Fn:(x==("__debug__" :Str))=false:=by decide)(he:Ap (e::es) X.env=(false,BE e X.env)::Ap es X.env:=by rfl)(Cz:(Cj pos (Ap es X.env)).any (·.1)=false:=by rfl):Jm X F (.Call (.Name x p) (e::es) [] pos) (KR n mf ma):=⟨by
 have A1:=A1.1;obtain⟨f,fd,AK,AU,HL,hm,AQ,J⟩:=c.ex;refine Ao.imp (WI HL A6 AW hm AQ J .nil Zg A1 Fn he Cz) ?_;rw[<-Ag];exact xK (xe:=λ_ _ _=>False) (E:=cZ) H5⟩
variable{scope:D9}{N:List Str}
abbrev jp(X:AY)(scope:D9)(N:List Str)(e:AT)(m:AX):Prop:=∀cl C s H Ad G0 H0,Ah (IA X scope N cl C s H Ad) (Gj X.K G0 H0) e m
def ry{mt:C9}(h:∀cl C s H Ad G0 H0,FE (IA X scope N cl C s H Ad) (Gj X.K G0 H0) c mt):N4 X scope N [c] mt:=CP.v1 λcl C s H Ad G0 H0=>(h cl C s H Ad G0 H0).1
def FA(nl:Nat)(caps:List Nat){ifs:List AT}{mi:Al}{set:D->AH->R AH}{mt:C9}{me:AX}(S:Ov X.env.scope X.N scope N nl caps=true)(AC:KH X F Bd iter mi)(AW:Sk X scope N Bd set)(BB:N4 X scope N ifs mt)(he:jp X scope N elt me)(AG:X.calm=true:=by rfl)(Ag:F.K=X.K:=by rfl)(hs:∀x,Ki iter X.env x=pure x:=by intro _;rfl):Jm X F (.ListComp elt [⟨Bd,iter,ifs,0⟩] scope pos) (DC nl caps mi set mt me):=
 ⟨CP.ac2 nl caps S AC.1 AW BB (λcl C s H Ad G0 H0=>(he cl C s H Ad G0 H0).1) AG Ag hs⟩
def X7(i:Nat)(nl:Nat)(caps:List Nat){y:Str}{py:Pos}{ifs:List AT}{mi:Al}{set:D->AH->R AH}{mt:C9}{me:AX}{cpos:Pos}(Bs:X.N.Nodup)(S:Ov X.env.scope X.N scope N nl caps=true)(AC:KH X F Bd iter mi)(AW:Sk X scope N Bd set)(BB:N4 X scope N ifs mt)(he:jp X scope N elt me)(BO:X.N[i]?=some y:=by rfl)(AF:X.env.kindOf y=some .local:=by rfl)(Np:MV (.ListComp elt [⟨Bd,iter,ifs,0⟩] scope cpos) (some (.Name y py)) pos.line X.env=pure true:=by rfl)(AG:X.calm=true:=by rfl)(Ag:F.K=X.K:=by rfl)(hs:∀x,Ki iter X.env x=pure x:=by intro _;rfl) :
  FL X F (.Assign [.Name y py] (.ListComp elt [⟨Bd,iter,ifs,0⟩] scope cpos) pos) (GI i (DC nl caps mi set mt me)):=
 ⟨CP.aej i nl caps Bs S AC.1 AW BB (λcl C s H Ad G0 H0=>(he cl C s H Ad G0 H0).1) BO AF Np AG Ag hs⟩
end
def DM{P:Bt}{w:Bg}{K:AZ}{mg:Str->Option A4}{base:B1}{x:Str}{st:B9}{N AK:List Str}{k:Nat}{m:Ay}(d:CG K mg x st AK)(S:Bv N AK (BW st))(h:∀(f:A3)(CB:A4)(A:C3)(outer:List Env)(s:AL)(H:A8)(E:CS),DY k (A.deeper (Oj x (BW st) s.heap.objs.size f CB))->∀G0 H0,J3 (Eb Iu P w K mg base N x (BW st) f CB A outer s H E).Hi (Gj K G0 H0) (GW st) m) :
  DA P w K mg base x AK.length (k+1) (C0 N.length m):=CP.uH d S λf CB A outer s H E A6 G0 H0=>(h f CB A outer s H E A6 G0 H0).1
structure Jk(K:AZ)(mg:Str->Option A4)(x:Str)(d:D):Prop where
 ex:∃(v:V)(u:A4),mg x=some u/\RelV v u/\∀G,At K G d v
def HF{X:AY}{F:BK}{x:Str}{d:D}{pos:Pos}(c:Jk X.K X.mg x d)(Ag:F.K=X.K:=by rfl)(AW:DI X x:=by rfl)(hd:(x==("__debug__" :Str))=false:=by decide):Ah X F (.Name x pos) (A7 d):=by obtain⟨v,u,h1,h2,h3⟩:=c.ex;exact⟨CP.vV h1 h2 (by rw[Ag];exact h3) AW hd⟩
end CP
namespace C7
open PySem PySem.Spec PyProof.Rows
section
variable{X:AY}{Bd:AT}
def jr(a b c:Int):Prop:=c≠0/\Builtin.Range.small a b c=true/\0<=iy a b c/\Builtin.divisionGoesByPylong (b-a) c=false
instance(a b c:Int):Decidable (jr a b c):=by unfold jr;infer_instance
end
section
variable{X:AY}{a e:AT}{Bu:EX}{pos p pos' Lf:Pos}
noncomputable def rJoin(K:AZ):V->List V->A8->C_->Prop:=λx vs H Q=>∃sep p ys,x=.str sep/\vs=[.ref p]/\Bp K H p (ys.map V.str)/\(ys.map (·.length)).sum+ys.length*sep.length<=16777216/\Q (.str (Dn sep ys)) H
theorem sS:∀{xs:List V}{us:List A4},xs.length=us.length->(∀(i:Nat) x y,xs[i]?=some x->us[i]?=some y->RelV x y)->Vals xs us
 |[],[],_,_=>.nil
 |[],_::_,h,_=>by simp at h
 |_::_,[],h,_=>by simp at h
 |x::xs,u::us,h,f=>.cons (f 0 x u (by simp) (by simp)) (sS (by simpa using h) λi a b AD AR=>f (i+1) a b (by simpa using AD) (by simpa using AR))
theorem qt:∀{ys:List Str}{its:List A4},Vals (ys.map V.str) its->StrsAre its ys
 |[],_,h=>by cases h;exact .nil
 |y::ys,_,h=>by
  cases h with
  |cons r KZ=>obtain⟨t,rfl⟩:=r;exact .cons y t (qt KZ)
def aaY:Yb X "str.join" (rJoin X.K):=by intro pins s σ H x vs v us Q I BF Bj h;obtain⟨sep,p,ys,rfl,rfl,Ab,BL,q⟩:=h;obtain⟨t,rfl⟩:=BF;obtain⟨u,rfl,Ds⟩:=vals1 Bj;cases Ds;obtain⟨its,r,pl,_⟩:=I.list Ab;exact join_list pl.isList (by simpa using qt r) BL λt' k=>⟨.str _,H,I.tok _,⟨_,rfl⟩,q⟩
def aaz{pins:List (A3×Obj)}{σ :St}{H1:A8}{s2:AL}{Q:C_}{r:A3}{j:Int}{t u v:Tok}(Bq:Inv X pins σ H1 s2)(AG:X.calm=true)(A6:IsRange s2.heap r 0 j 1 t u v)(Aa: -(2^62)<=j)(B0:j<=1000000)(q:∀l,H1 l=none->Q (.ref l) (upd H1 l (.lst ((DT j.toNat).map λi=>.int (i:Nat))))):An (BA X.prog X.w) X.A (call (.type "list") [.ref r]) (G1 X pins σ Q) X.xe s2:=by
 have AU:iy 0 j 1=(j.toNat:Nat):=by rw[rangeSize_one];split<;>omega
 refine call_list_range (Bq.ok.hd AG) A6 (small_one (by omega) (by omega) (by omega) (by omega)) AU (by omega) λh' C8 kn EQ AV e it=>?_;obtain⟨acc,rfl⟩:∃l:List A4,kn=l.toArray:=⟨kn.toList,by simp⟩;have Be:Vals ((DT j.toNat).map λi=>V.int ((i:Nat):Int)) acc:=by
  have AF:acc.length=j.toNat:=by simpa using it.1
  refine sS ?_ ?_
  .simp[AF]
  .intro i x y AD AR;rw[Fl]at AD;have AC:i<j.toNat:=by rw[<-AF];exact(List.getElem?_eq_some_iff.mp AR).1
   rw[UF AC]at AD;cases AD;obtain⟨tt,rfl⟩:=it.2 i y (by simpa using AR);exact⟨tt,by simp⟩
 exact⟨.ref _,_,Bq.laid (t':=C8) AV (CO _) (show FC X.prog X.w _ h' _ (.lst _)from⟨EB (m:=1000000) (by simp;omega) (by decide),acc,EQ,Be,e⟩),rfl,q _ (Bq.BU.fresh (CO _))⟩
def afX(Bu:EX):TE:=λσ H Q=>Bu σ H λvs H1=>∃j:Int,vs=[.int j]/\-(2^62)<=j/\j<=1000000/\∀l,H1 l=none->Q (.ref l) (upd H1 l (.lst ((DT j.toNat).map λi=>.int (i:Nat))))
def ad5(AW:DI X "list")(hm:X.mg "list"=none)(VP:DI X "range")(P3:X.mg "range"=none)(AG:X.calm=true)(A1:F1 X [a] Bu)(hs:Ap [a] X.env=[(false,BE a X.env)]:=by rfl)(Es:Ap [.Call (.Name "range" Lf) [a] [] pos'] X.env=[(false,BE (.Call (.Name "range" Lf) [a] [] pos') X.env)]:=by rfl) :
  Ao X (.Call (.Name "list" p) [.Call (.Name "range" Lf) [a] [] pos'] [] pos) (afX Bu):=by
 intro pins s σ H Q I h;refine Rs (Nu (u:=.type "list") I AW hm (by kernel_rfl) ?_);refine QE ?_ Es rfl;rw[Es];refine Xl ?_;refine Call_ (Nu I VP P3 boot_range (QE (Ba (A1 pos' pins s σ H _ I h) λus s1⟨vs,H1,Ak,AE,Aa⟩=>?_) hs rfl));obtain⟨j,e,Aa,B0,q⟩:=Aa;subst e;cases AE with
 |cons r KZ=>cases KZ;obtain⟨t,rfl⟩:=r;refine call_range_1 (Xb ?_);exact aaz (Ak.kept λb o e=>Cv _ e) AG (IsRange.new ..) Aa B0 q
end
end C7
namespace CP
open PySem PySem.Spec C7
abbrev GT:=AH->R (D×AH)
abbrev Kt:=AH->R (List D×AH)
def zp(F:BK)(G:A8)(σ :St)(Q:C_):R (D×AH)->Prop
 |.ok (d,BZ)=>∀v H' G',Rel F G' H' σ BZ->Sub G G'->At F.K G' d v->Q v H'
 |.exc c=>JW F c
 |.bad=>False
def zn(F:BK)(G:A8)(σ :St)(Q:List V->A8->Prop):R (List D×AH)->Prop
 |.ok (d,BZ)=>∀v H' G',Rel F G' H' σ BZ->Sub G G'->Ac F.K G' d v->Q v H'
 |.exc c=>JW F c
 |.bad=>False
def Tz(F:BK)(m:GT):TE:=λσ H Q=>∃G ρ,Rel F G H σ ρ/\zp F G σ Q (m ρ)
def Vx(F:BK)(m:Kt):EX:=λσ H Q=>∃G ρ,Rel F G H σ ρ/\zn F G σ Q (m ρ)
def lf(m:AX):GT:=λρ=>(m ρ).bind λd=>.ok (d,ρ)
def WV(m:Al):Kt:=λρ=>(m ρ).bind λd=>.ok (d,ρ)
section
variable{F:BK}
def yl{m:AX}:El (Tz F (lf m)) (Ca F m):=by
 rintro σ H Q ⟨G,ρ,r,h⟩;refine⟨G,ρ,r,?_⟩;unfold lf at h;cases Ai:m ρ with
 |bad=>rw[Ai]at h;cases h
 |exc c=>rw[Ai]at h;exact h
 |ok d=>rw[Ai]at h;exact λv H' G' BM u a=>h v H' G' BM u.g a
def ym{m:Al}:Sr (Vx F (WV m)) (EM F m):=by
 rintro σ H Q ⟨G,ρ,r,h⟩;refine⟨G,ρ,r,?_⟩;unfold WV at h;cases Ai:m ρ with
 |bad=>rw[Ai]at h;cases h
 |exc c=>rw[Ai]at h;exact h
 |ok d=>rw[Ai]at h;exact λv H' G' BM u a=>h v H' G' BM u.g a
def Ti(a:GT)(r:Kt):Kt:=λρ=>(a ρ).bind λx=>(r x.2).bind λy=>.ok (x.1::y.1,y.2)
def xM{ma:GT}{TP:Kt}:Sr (Vx F (Ti ma TP)) (hA (Tz F ma) (Vx F TP)):=by
 rintro σ H Q ⟨G,ρ,r,h⟩;unfold Ti at h;refine⟨G,ρ,r,?_⟩;cases Ai:ma ρ with
 |bad=>rw[Ai]at h;cases h
 |exc c=>rw[Ai]at h;exact h
 |ok x=>
  obtain⟨Ar,EA⟩:=x;rw[Ai,R.E_]at h;intro x H1 Ae AE s1 B_;refine⟨Ae,EA,AE,?_⟩;cases BC:TP EA with
  |bad=>simp only[BC]at h;cases h
  |exc c=>simp only[BC]at h;exact h
  |ok y=>obtain⟨FG,F0⟩:=y;simp only[BC,R.E_]at h;intro y Aw Cw B4 s2 C1;exact h (x::y) Aw Cw B4 (s1.trans s2) (.cons (B_.mono s2) C1)
def T5(m:Kt):GT:=λρ=>(m ρ).bind λx=>if x.1.length<=1000000 then .ok (.tup x.1,x.2)else .bad
def yN{m:Kt}:El (Tz F (T5 m)) (hG (Vx F m)):=by
 rintro σ H Q ⟨G,ρ,r,h⟩;unfold T5 at h;refine⟨G,ρ,r,?_⟩;cases Ai:m ρ with
 |bad=>rw[Ai]at h;cases h
 |exc c=>rw[Ai]at h;exact h
 |ok x=>
  obtain⟨ds,EA⟩:=x;rw[Ai,R.E_]at h;intro vs H1 Ae AE s1 a;by_cases AF:ds.length<=1000000
  .simp only[if_pos AF]at h;refine⟨by rw[<-a.length];exact EB AF (by decide),λp Am=>?_⟩;refine h (.ref p) _ _ (AE.lay Am) (s1.trans (Sub.upd (AE.AV.sub.gone Am))) ?_;simp only[At];exact⟨p,vs,rfl,Du,a.mono (Sub.upd (AE.AV.sub.gone Am))⟩
  .simp only[if_neg AF]at h;cases h
def T4(i:Nat)(a:GT):Ay:=λρ=>(a ρ).bind λx=>(BI i x.1 x.2).bind λBZ=>.ok (.Bb BZ)
def z6{i:Nat}{a:GT}:I5 (Fd F (T4 i a)) (Oa (Tz F a) (IC i)):=by
 rintro CZ σ H ⟨G,ρ,r,h⟩;unfold T4 BI at h;refine⟨G,ρ,r,?_⟩;cases Ai:a ρ with
 |bad=>rw[Ai]at h;cases h
 |exc c=>rw[Ai]at h;exact h
 |ok x=>
  obtain⟨d,EA⟩:=x;rw[Ai,R.E_]at h;intro v H1 Ae AE s1 Av;by_cases AC:i<EA.length
  .simp only[if_pos AC]at h;exact h _ Ae H1 (AE.set AC Av) s1
  .simp only[if_neg AC]at h;cases h
def Ny(a:GT):Ay:=λρ=>(a ρ).bind λx=>.ok (.Bb x.2)
def xQ{a:GT}:I5 (Fd F (Ny a)) (hB (Tz F a)):=by
 rintro CZ σ H ⟨G,ρ,r,h⟩;unfold Ny at h;refine⟨G,ρ,r,?_⟩;cases Ai:a ρ with
 |bad=>rw[Ai]at h;cases h
 |exc c=>rw[Ai]at h;exact h
 |ok x=>obtain⟨d,EA⟩:=x;rw[Ai]at h;exact λv H' G' BM s' _=>h σ G' H' BM s'
end
section
variable{F:BK}
def del(H:A8)(a:A3):A8:=λb=>if b=a then none else H b
def w2{H:A8}{a:A3}:del H a a=none:=by simp[del]
def w1{H:A8}{a b:A3}(h:b≠a):del H a b=H b:=by simp[del,h]
def ci(H:A8)(a:A3):Sub (del H a) H:=λb o e=>by
 unfold del at e
 split at e
 .cases e
 .exact e
end
section
variable{F:BK}
end
end CP
namespace CP
open PySem PySem.Spec C7 PyProof.Rows
def Ac.erase{K:AZ}{G:A8}{ds:List D}{xs:List V}(n:Nat)(q:Ac K G ds xs):Ac K G (ds.eraseIdx n) (xs.eraseIdx n):=by rw[sl,sl];exact(q.take n).append (q.drop (n+1))
section
variable{X:AY}{F:BK}{e a b c:AT}{es:List AT}{pos p:Pos}{m n:AX}{ma:Al}
noncomputable def Q6(i:Nat)(m:AX):GT:=λρ=>(ownAt i ρ).bind λds=>(m ρ).bind λd=>match d with
 |.int k=>if-(2^63)<=k/\k<2^63 then match S6 k ds.length with
  |some j=>match ds[j]? with
   |some y=>.ok (y,ρ.set i (.DV (ds.eraseIdx j)))
   |none=>.bad
  |none=>.bad
  else .bad
 |_=>.bad
def aW(i:Nat)(m:GT):Ay:=λρ=>(ownAt i ρ).bind λ_=>(m ρ).bind λx=>(ownAt i x.2).bind λds=>if ds.length<1000000 then .ok (.Bb (x.2.set i (.DV (ds++[x.1]))))else .bad
def Tg:List D->R (List D)
 |[.lst xs]=>.ok xs
 |[.Cs xs]=>.ok xs
 |[.tup xs]=>.ok xs
 |[.DB xs]=>.ok xs
 |_=>.bad
def Mv(m:Al):Al:=λρ=>(m ρ).bind Tg
def yo(Ag:F.K=X.K):El (Je F (Mv ma)) (b0 (λxs H Q=>∃p ys,xs=[.ref p]/\(Bp X.K H p ys\/CA X.K H p ys)/\∀l,H l=none->Q (.ref l) (upd H l (.lst ys))) (EM F ma)):=by
 rintro σ H Q ⟨G,ρ,r,h⟩;unfold Mv at h;refine⟨G,ρ,r,?_⟩;refine rb h λds Ai h vs H1 Ae AE s1 a=>?_;unfold Tg at h
 split at h
 .obtain⟨v,rfl,Av⟩:=a.one;simp only[At]at Av;obtain⟨q,xs,rfl,Ab,Ft⟩:=Av;refine⟨q,xs,rfl,.inl (Bp.of (AE.AV.sub _ _ Ab)),λl AF=>?_⟩;exact h l xs _ Ae (AE.lay0 AF) (s1.trans (Bl.lay0 AF)) (s1.h.gone AF) Du (AE.AV.sub.gone AF) Ft
 .obtain⟨v,rfl,Av⟩:=a.one;simp only[At]at Av;obtain⟨q,xs,rfl,Ab,Ft⟩:=Av;refine⟨q,xs,rfl,.inl (by rw[<-Ag];exact Bp.mono AE.AV.sub Ab),λl AF=>?_⟩;exact h l xs _ Ae (AE.lay0 AF) (s1.trans (Bl.lay0 AF)) (s1.h.gone AF) Du (AE.AV.sub.gone AF) Ft
 .obtain⟨v,rfl,Av⟩:=a.one;simp only[At]at Av;obtain⟨q,xs,rfl,Ab,Ft⟩:=Av;refine⟨q,xs,rfl,.inr (CA.of (AE.AV.sub _ _ Ab)),λl AF=>?_⟩;exact h l xs _ Ae (AE.lay0 AF) (s1.trans (Bl.lay0 AF)) (s1.h.gone AF) Du (AE.AV.sub.gone AF) Ft
 .obtain⟨v,rfl,Av⟩:=a.one;simp only[At]at Av;obtain⟨q,xs,rfl,Ab,Ft⟩:=Av;refine⟨q,xs,rfl,.inr (by rw[<-Ag];exact CA.mono AE.AV.sub Ab),λl AF=>?_⟩;exact h l xs _ Ae (AE.lay0 AF) (s1.trans (Bl.lay0 AF)) (s1.h.gone AF) Du (AE.AV.sub.gone AF) Ft
 .exact h.elim
def WX:List D->R (List D)
 |[.int j]=>if-(2^62)<=j/\j<=1000000 then .ok (GJ 0 j.toNat)else .bad
 |_=>.bad
def aZ(m:Al):Al:=λρ=>(m ρ).bind WX
theorem l3{K:AZ}{G:A8}:∀(l:List Nat),Ac K G (l.map λi=>.int (0+((i:Nat):Int))) (l.map λi=>V.int ((i:Nat):Int))
 |[]=>.nil
 |i::l=>.cons (by simp[At]) (l3 l)
def ai6:List D->R D
 |[.int i,.int j]=>.ok (.int (if j<i then j else i))
 |_=>.bad
def W6:List D->R D
 |[.int i,.int j]=>.ok (.int (if j>i then j else i))
 |_=>.bad
def abQ:MH F (λxs H Q=>∃i j,xs=[.int i,.int j]/\Q (.int (if j>i then j else i)) H) W6:=by
 intro σ ρ G H xs ds Q r al k;unfold W6 at k
 split at k
 .exact⟨_,_,al.ints2,k _ H G r (Bl.refl _ _) (by simp only[At])⟩
 .exact k.elim
def WR:List D->R D
 |[.int i]=>.ok (.int i)
 |[.AI k]=>.ok (.int (if k then 1 else 0))
 |[.str x]=>if x.length<=640 then match intText? x with|some i=>.ok (.int i)|none=>.bad else .bad
 |_=>.bad
def abW:MH F (λxs H Q=>((∃i,xs=[.int i]/\Q (.int i) H)\/∃k,xs=[.AI k]/\Q (.int (if k then 1 else 0)) H)\/((∃i,xs=[.int i]/\Q (.int i) H)\/∃x i,xs=[.str x]/\x.length<=640/\intText? x=some i/\Q (.int i) H)) WR:=by
 intro σ ρ G H xs ds Q r al k;unfold WR at k
 split at k
 .rename_i i;exact .inl (.inl ⟨i,al.ints1,k _ H G r (Bl.refl _ _) (by simp only[At])⟩)
 .rename_i c;obtain⟨v,rfl,Av⟩:=al.one;simp only[At]at Av;subst Av;exact .inl (.inr ⟨c,rfl,k _ H G r (Bl.refl _ _) (by simp only[At])⟩)
 .rename_i x
  split at k
  .rename_i AF
   split at k
   .rename_i i AC;obtain⟨v,rfl,Av⟩:=al.one;simp only[At]at Av;subst Av;exact .inr (.inr ⟨x,i,rfl,AF,AC,k _ H G r (Bl.refl _ _) (by simp only[At])⟩)
   .exact k.elim
  .exact k.elim
 .exact k.elim
def Qa:List D->Option (List Str)
 |[]=>some []
 |.str x::r=>(Qa r).map (x::·)
 |_=>none
theorem qu{K:AZ}{G:A8}:∀{ds:List D}{xs:List V}{ys:List Str},Ac K G ds xs->Qa ds=some ys->xs=ys.map V.str
 |[],_,_,h,e=>by simp only[Ac]at h;subst h;cases e;rfl
 |d::ds,_,_,h,e=>by
  simp only[Ac]at h;obtain⟨v,r,rfl,q,t⟩:=h;cases d with
  |str x=>
   unfold Qa at e;cases CV:Qa ds with
   |none=>rw[CV]at e;cases e
   |some zs=>rw[CV]at e;cases e;simp only[At]at q;rw[q,qu t CV];rfl
  |_=>cases e
def M8(sep:Str):List D->R D
 |[.lst ds]=>match Qa ds with
  |some ys=>if(ys.map (·.length)).sum+ys.length*sep.length<=16777216 then .ok (.str (Dn sep ys))else .bad
  |none=>.bad
 |_=>.bad
def qh{n:Nat}{mf:List D->R BQ}{xe:CS->Str->A8->Prop}{E:CS}{Ae H1:A8}{σ :C7.St}{ρ:AH}{ds:List D}{vs:List V}{Q:C_}(AA:F.Hx=xe E)(AE:Rel F Ae H1 σ ρ)(a:Ac F.K Ae ds vs)(AU:ds.length=n)(h:Ib F Ae H1 σ ρ Q ((mf ds).bind JD)):OX F.K n xe mf vs H1 Q E:=by
 refine⟨Ae,ds,AE.AV.sub,a,AU,?_⟩;cases e:mf ds with
 |bad=>rw[e]at h;cases h
 |exc c=>rw[e]at h;intro G' H' k;have z:=h G' H' (Eg.of AE k).AV;rw[AA]at z;exact z
 |ok t=>
  rw[e,R.E_]at h;cases t with
  |v d=>exact λv G' H' k Av=>h v H' G' (Eg.of AE k) ⟨k.FP,k.BN,k.new⟩ Av
  |o es=>intro p xs G' H' k h1 h2 h3 h4;have h2:H1 p=none:=h2;have BM:=Eg.of AE k;have no:¬Da H' σ ρ p:=Da.fresh AE k.BN h2;refine h (.ref p) H' _ (BM.take h3 h1 (AE.AV.BN.gone h2) no) (Bl.put ⟨k.FP,k.BN,k.new⟩ h2 h1) ?_;simp only[At];exact⟨p,xs,rfl,Du,h4.mono (Sub.upd h1)⟩
  |t t=>intro v G' H' k q;obtain⟨a1,a2,Dp⟩:=(Eg.of AE k).iG (F':=⟨F.K,Ae,H1,xe E⟩) rfl q ⟨k.FP,k.BN,k.new⟩ λb J=>⟨(q.own b J).2,AE.AV.BN.gone (q.own b J).2,Da.fresh AE k.BN (q.own b J).2⟩;exact h v H' _ a1 a2 Dp
end
section
variable{X:AY}{F:BK}{e a b c:AT}{es:List AT}{pos p:Pos}{m n:AX}{ma:Al}
end
end CP
namespace CP
open PySem PySem.Spec C7
structure OC(X:AY)(F:BK)(e:AT)(m:GT):Prop where
 o:Ao X e (Tz F m)
structure YK(X:AY)(F:BK)(es:List AT)(m:Kt):Prop where
 o:F1 X es (Vx F m)
section
variable{X:AY}{F:BK}{e a b c Bd iter elt:AT}{es:List AT}{pos p:Pos}{m n:AX}{ma:Al}{st:B9}{O_:List B9}
def ao (i:Nat) {x:Str} {Af:Pos} {apos:Pos} {cpos:Pos} (he:Ah X F e m) (Bs:X.N[i]?=some x:=by rfl) (Be:H_ X.env.scope x:=by first|exact EV rfl|exact DS (EV rfl)|exact DS (DS rfl)) (hd:(x==("__debug__" :Str))=false:=by decide) (Dj:(x==("__classdict__" :Str))=false:=by decide) (ID:JL (.Name x Af) "pop" X.env (BE (.Name x Af) X.env)=BE (.Name x Af) X.env:=by rfl) (IF:(apos.endLine==cpos.line)=true:=by rfl) (IE:((Cj cpos (Ap [e] X.env)).all (λx=>!x.1)&&(Hw cpos (Ht [] X.env)).all (λx=>x.1.isSome)
   &&decide (([e]:List AT).length+([]:List GA).length+(if([]:List GA).isEmpty then 0 else 1)<30))=true:=by rfl) (hs:Ap [e] X.env=(false,BE e X.env)::Ap [] X.env:=by rfl) (IG:(Cj cpos (Ap [] X.env)).any (·.1)=false:=by rfl):OC X F (.Call (.Attribute (.Name x Af) "pop" apos) [e] [] cpos) (Q6 i m):=⟨by
 have he:=he.1;refine Ao.imp (Pd Rf PySem.F.slot_list_pop PySem.F.type_list_pop aaZ (Ks Bs Be hd Dj) (Kr he N1 hs) ID IE IF hs IG) ?_;rintro σ H Q ⟨G,ρ,r,h⟩;unfold Q6 ownAt at h;cases CV:ρ[i]? with
 |none=>rw[CV]at h;cases h
 |some s=>
  rw[CV]at h;cases s with
  |un=>cases h
  |AM _=>cases h
  |Fq _=>cases h
  |Aj Aj=>
   cases Aj with
   |B5 _ _=>cases h
   |ins _ _ _=>cases h
   |lst ds=>
    obtain⟨q,xs,AD,h1,h2,h3,h4⟩:=r.own CV;rw[R.E_]at h;refine⟨.ref q,AD,.inl ⟨rfl,xs,Bp.of h1⟩,G,ρ,r,?_⟩;refine rb h λd Ai h v H1 Ae AE s1 Av=>?_;obtain⟨Cr,Jf,Fu,KI,SC,SD,GY⟩:=AE.own CV;rw[AD]at Fu;cases Fu;cases d with
    |int k=>
     simp only[At]at Av;subst Av;simp only at h
     split at h
     .rename_i AQ
      split at h
      .rename_i j Jq
       split at h
       .rename_i y EK;obtain⟨w,IZ,I8⟩:=GY.get EK;refine⟨q,Jf,k,j,w,rfl,rfl,KI,AQ.1,AQ.2,by rw[<-GY.length];exact Jq,IZ,?_⟩;exact h w _ Ae (AE.mut CV AD (GY.erase j)) s1.g I8
       .exact h.elim
      .exact h.elim
     .exact h.elim
    |_=>exact h.elim⟩
def ahB (i:Nat) {x:Str} {Af:Pos} {apos:Pos} {cpos:Pos} {m:GT} (he:OC X F e m) (Bs:X.N[i]?=some x:=by rfl) (Be:H_ X.env.scope x:=by first|exact EV rfl|exact DS (EV rfl)|exact DS (DS rfl)) (hd:(x==("__debug__" :Str))=false:=by decide) (Dj:(x==("__classdict__" :Str))=false:=by decide) (ID:JL (.Name x Af) "append" X.env (BE (.Name x Af) X.env)=BE (.Name x Af) X.env:=by rfl) (IF:(apos.endLine==cpos.line)=true:=by rfl) (IE:((Cj cpos (Ap [e] X.env)).all (λx=>!x.1)&&(Hw cpos (Ht [] X.env)).all (λx=>x.1.isSome)
   &&decide (([e]:List AT).length+([]:List GA).length+(if([]:List GA).isEmpty then 0 else 1)<30))=true:=by rfl) (hs:Ap [e] X.env=(false,BE e X.env)::Ap [] X.env:=by rfl) (IG:(Cj cpos (Ap [] X.env)).any (·.1)=false:=by rfl):FL X F (.Expr (.Call (.Attribute (.Name x Af) "append" apos) [e] [] cpos) pos) (aW i m):=⟨by
 have he:=he.1;refine DF.imp (aF (Pd Rf sy sz fD (Ks Bs Be hd Dj) (Kr he N1 hs) ID IE IF hs IG) (M_ _ _ _ _ rfl)) ?_;rintro CZ σ H ⟨G,ρ,r,h⟩;unfold aW ownAt at h;cases CV:ρ[i]? with
 |none=>rw[CV]at h;cases h
 |some s=>
  rw[CV]at h;cases s with
  |un=>cases h
  |AM _=>cases h
  |Fq _=>cases h
  |Aj Aj=>
   cases Aj with
   |B5 _ _=>cases h
   |ins _ _ _=>cases h
   |lst aid=>
    obtain⟨q,xs,AD,h1,h2,h3,h4⟩:=r.own CV;rw[R.E_]at h;refine⟨.ref q,AD,.inl ⟨rfl,xs,Bp.of h1⟩,G,ρ,r,?_⟩;cases Ai:m ρ with
    |bad=>rw[Ai]at h;cases h
    |exc c=>rw[Ai]at h;exact h
    |ok y=>
     obtain⟨d,EA⟩:=y;rw[Ai,R.E_]at h;intro v H1 Ae AE s1 Av;simp only at h;cases Yx:EA[i]? with
     |none=>rw[Yx]at h;cases h
     |some s=>
      rw[Yx]at h;cases s with
      |un=>cases h
      |AM _=>cases h
      |Fq _=>cases h
      |Aj Aj=>
       cases Aj with
       |B5 _ _=>cases h
       |ins _ _ _=>cases h
       |lst ds=>
        rw[R.E_]at h;obtain⟨Cr,Jf,Fu,KI,SC,SD,GY⟩:=AE.own Yx;rw[AD]at Fu;cases Fu;by_cases AF:ds.length<1000000
        .rw[if_pos AF]at h;refine⟨q,Jf,v,rfl,rfl,KI,by rw[<-GY.length];exact QN AF (by decide),?_⟩;exact h σ Ae _ (AE.mut Yx AD (GY.snoc Av)) s1
        .rw[if_neg AF]at h;exact h.elim⟩
def U8(hm:X.mg "list"=none)(A1:EZ X F [e] ma)(Ag:F.K=X.K:=by rfl)(AW:DI X "list":=by rfl)(he:Ap [e] X.env=(false,BE e X.env)::Ap [] X.env:=by rfl)(Cz:(Cj pos (Ap [] X.env)).any (·.1)=false:=by rfl):Jm X F (.Call (.Name "list" p) [e] [] pos) (Mv ma):=⟨have A1:=A1.1;Ao.imp (en uU AW hm (by kernel_rfl) A1 (by decide) (by decide) he Cz) (yo Ag)⟩
def ah9{Lf pos':Pos}(hm:X.mg "list"=none)(P3:X.mg "range"=none)(A1:EZ X F [a] ma)(AG:X.calm=true:=by rfl)(AW:DI X "list":=by rfl)(VP:DI X "range":=by rfl)(hs:Ap [a] X.env=[(false,BE a X.env)]:=by rfl)(Es:Ap [.Call (.Name "range" Lf) [a] [] pos'] X.env=[(false,BE (.Call (.Name "range" Lf) [a] [] pos') X.env)]:=by rfl):Jm X F (.Call (.Name "list" p) [.Call (.Name "range" Lf) [a] [] pos'] [] pos) (aZ ma):=⟨by
 have A1:=A1.1;refine Ao.imp (ad5 AW hm VP P3 AG A1 hs Es) ?_;rintro σ H Q ⟨G,ρ,r,h⟩;unfold aZ at h;refine⟨G,ρ,r,?_⟩;refine rb h λds Ai h vs H1 Ae AE s1 a=>?_;unfold WX at h
 split at h
 .rename_i j
  split at h
  .rename_i Bx;refine⟨j,a.ints1,Bx.1,Bx.2,λl AF=>?_⟩;exact h l _ _ Ae (AE.lay0 AF) (s1.trans (Bl.lay0 AF)) (s1.h.gone AF) Du (AE.AV.sub.gone AF) (l3 _)
  .exact h.elim
 .exact h.elim⟩
def ahd(hm:X.mg "max"=none)(A1:EZ X F [a,b] ma)(AG:X.calm=true:=by rfl)(AW:DI X "max":=by rfl)(he:Ap [a,b] X.env=(false,BE a X.env)::Ap [b] X.env:=by rfl)(Cz:(Cj pos (Ap [b] X.env)).any (·.1)=false:=by rfl):Ah X F (.Call (.Name "max" p) [a,b] [] pos) (Bm W6 ma):=⟨have A1:=A1.1;eN (uV AG) abQ hm (by kernel_rfl) A1 AW (by decide) (by decide) he Cz⟩
def ahj(hm:X.mg "int"=none)(A1:EZ X F [e] ma)(AW:DI X "int":=by rfl)(he:Ap [e] X.env=(false,BE e X.env)::Ap [] X.env:=by rfl)(Cz:(Cj pos (Ap [] X.env)).any (·.1)=false:=by rfl):Ah X F (.Call (.Name "int" p) [e] [] pos) (Bm WR ma):=⟨have A1:=A1.1;Vk (uQ.or kb) abW hm (by kernel_rfl) A1 AW (by decide) (by decide) he Cz⟩
def ahk(h:Ah X F e m):OC X F e (lf m):=⟨have h:=h.1;Ao.imp h yl⟩
def ahl:YK X F [] (WV AB):=⟨F1.imp N1 (λσ H Q h=>nj σ H Q (ym σ H Q h))⟩
def rX{m:GT}{r:Kt}(h:OC X F e m)(t:YK X F es r)(hs:notStar e=true:=by rfl):YK X F (e::es) (Ti m r):=⟨have h:=h.1;have t:=t.1;F1.imp (Kr h t (qq e es X.env hs)) xM⟩
def ahn{k}{m:Kt}(h:YK X F es m):OC X F (.Tuple es k pos) (T5 m):=⟨have h:=h.1;Ao.imp (qU h) yN⟩
def rc(i:Nat){x:Str}{p:Pos}{m:GT}(Bs:X.N.Nodup)(he:OC X F e m)(AC:X.N[i]?=some x:=by rfl)(AA:Loc X.env.scope x:=by first|exact EV rfl|exact DS rfl)(hs:NY e=true:=by rfl)(hf:X.fn x=true\/X.env.scope.names.lookup x=some .local:=by first|exact .inl rfl|exact .inr rfl):FL X F (.Assign [.Name x p] e pos) (T4 i m):=⟨have he:=he.1;DF.imp (bO Bs AC AA he (M_ _ _ _ _ hs) hf) z6⟩
def X8{m:GT}(h:OC X F e m)(hs:NY e=true:=by rfl):FL X F (.Expr e pos) (Ny m):=⟨have h:=h.1;DF.imp (aF h (M_ _ _ _ _ hs)) xQ⟩
end
def EW.inj{K:AZ}{c:Str}{C N5:A3}(h:EW K c C)(h':EW K c N5):C=N5:=by unfold EW at h h';rw[h]at h';cases h';rfl
theorem od{K:AZ}{G:A8}{f:Str}{d:D}:∀{xs:List (Str×V)}{ds:List D},Ac K G ds (xs.map (·.2))->((xs.map (·.1)).zip ds).lookup f=some d->∃v,xs.lookup f=some v/\At K G d v
 |[],_,_,e=>by simp at e
 |(k,v)::xs,[],h,_=>by have:=h.length;simp at this
 |(k,v)::xs,e::ds,h,l=>by
  simp only[EU,Ac]at h;obtain⟨LP,r,AD,a,t⟩:=h;cases AD;simp only[EU,Xp,XY]at l |-;cases AQ:f==k with
  |true=>rw[AQ]at l;cases l;exact⟨v,rfl,a⟩
  |false=>rw[AQ]at l;exact od t l
theorem fq{f:Str}:∀{xs:List (Str×V)},(xs.map (·.1)).all (λk=>!(f==k))=true->xs.lookup f=none
 |[],_=>rfl
 |(k,v)::xs,h=>by simp only[EU,Ry,HT,UD]at h;rw[XY,h.1];exact fq (by simpa using h.2)
structure YT(K:AZ)(c:Str)(fs:List Str):Prop where
 ex:∃C,EW K c C/\Jj K C/\∀f∈fs,QX K C f
def Fv(c f:Str):D->R D
 |.ins EQ ns ds=>if EQ=c then match(ns.zip ds).lookup f with
  |some d=>.ok d
  |none=>.bad
  else .bad
 |_=>.bad
section
variable{X:AY}{F:BK}{e a b c o:AT}{es:List AT}{pos p:Pos}{m n:AX}{ma:Al}
structure O6(P:Bt)(w:Bg)(K:AZ)(mg:Str->Option A4)(base:B1)(BY mt:Str)(n k:Nat)(mf:List D->R BQ):Prop where
 ex:∃(C f:A3)(fd:GO)(AK:List Str),EW K BY C/\Jj K C/\Meth K C mt f/\HY P w K mg base Iu k f fd AK (Lk K (n+1) mf)/\Binds K fd AK []
def MY(BY mt:Str):D->R D
 |.ins EQ ns ds=>if EQ=BY/\ns.all (λk=>!(mt==k))=true then .ok (.ins EQ ns ds)else .bad
 |_=>.bad
def IH(BY mt:Str)(n:Nat)(mf:List D->R BQ)(o:AX)(ma:Al):AX:=λρ=>(o ρ).bind λd=>(MY BY mt d).bind λd=>(ma ρ).bind λds=>if ds.length=n then(mf (d::ds)).bind JD else .bad
def yt{BY mt:Str}{n:Nat}{mf:List D->R BQ}{C:A3}{E:CS}(AA:F.Hx=λ_ _=>False)(Fa:EW F.K BY C):El (Ca F (IH BY mt n mf m ma)) (b2 C mt (Lk F.K (n+1) mf) [] E (Ca F m) (EM F ma)):=by
 rintro σ H Q ⟨G,ρ,r,h⟩;unfold IH at h;refine⟨G,ρ,r,?_⟩;refine rb h λd Ai h x H1 Ae AE s1 B_=>?_;cases d with
 |ins EQ ns ds=>
  simp only[MY]at h
  split at h
  .rename_i AG;obtain⟨VK,Hc⟩:=AG;subst VK;have UZ:=B_;simp only[At]at B_;obtain⟨q,Ar,xs,rfl,⟨N5,BP,g1⟩,rfl,al⟩:=B_;have:=BP.inj Fa;subst this;refine⟨q,Ar,xs,rfl,AE.AV.sub _ _ g1,fq Hc,Ae,ρ,AE,?_⟩;rw[R.E_]at h;refine rb h λes BC h vs Aw Cw B4 s2 Av=>?_;by_cases AU:es.length=n
   .rw[if_pos AU]at h;rw[LY];exact qh (xe:=λ_ _ _=>False) AA B4 (.cons (UZ.mono s2.g) Av) (by simp[AU]) (h.mono (s1.trans s2))
   .rw[if_neg AU]at h;cases h
  .exact h.elim
 |_=>cases h
def M9:D->Option Key
 |.int i=>some (.inl i)
 |.str x=>some (.inr x)
 |_=>none
def aO:List D->Option (List Key)
 |[]=>some []
 |d::ds=>match M9 d,aO ds with
  |some k,some A_=>some (k::A_)
  |_,_=>none
def Q0:D->Option (List Key)
 |.tup ds=>aO ds
 |_=>none
def aa0{K:AZ}{G:A8}{d:D}{v:V}{k:Key}(e:M9 d=some k)(a:At K G d v):v=Cf k:=by
 cases d<;>first
  |(cases e;done)
  |(cases e;simp only[At]at a;exact a)
theorem p6{K:AZ}{G:A8}:∀{ds:List D}{vs:List V}{A_:List Key},aO ds=some A_->Ac K G ds vs->vs=A_.map Cf
 |[],_,_,e,a=>by simp only[Ac]at a;subst a;cases e;rfl
 |d::ds,_,_,e,a=>by
  simp only[Ac]at a;obtain⟨v,r,rfl,Av,OD⟩:=a;unfold aO at e
  split at e
  .rename_i k A_ AD AR;cases e;rw[aa0 AD Av,p6 AR OD];rfl
  .cases e
def fb{K:AZ}{G:A8}{d:D}{v:V}{A_:List Key}(e:Q0 d=some A_)(a:At K G d v):∃b,v=.ref b/\G b=some (.tup (A_.map Cf)):=by
 cases d with
 |tup ds=>simp only[At]at a;obtain⟨b,xs,rfl,J,al⟩:=a;exact⟨b,rfl,by rw[J,p6 e al]⟩
 |_=>cases e
theorem iW{DR:Type}[DecidableEq DR](k:DR):∀B3:List (DR×V),(Gb B3 k).isSome=(B3.map (·.1)).any (λx=>decide (x=k))
 |[]=>rfl
 |(x,v)::B3=>by
  have Br:=iW k B3;unfold Gb at Br |-;rw[MN,EU,QG];by_cases h:x=k
  .simp[h]
  .simp only[h,decide_false,jR];exact Br
def H2(b:Bool)(k d:D):R D:=match d with
 |.B5 A_ _=>match Q0 k with
  |some CW=>.ok (.AI (if b then A_.any (λx=>decide (x=CW))else !A_.any (λx=>decide (x=CW))))
  |none=>.bad
 |_=>.bad
def lr{b:Bool}{σ :St}{ρ:AH}{G H:A8}{y x:V}{RJ dd:D}{Q:C_}(r:Rel F G H σ ρ)(C1:At F.K G RJ y)(B_:At F.K G dd x)(h:Ib F G H σ ρ Q (H2 b RJ dd)) :
  ∃a o,x=.ref a/\Lo H a y o/\Q (.AI (if b then o.isSome else !o.isSome)) H:=by
 unfold H2 at h
 split at h
 .rename_i A_ ds
  split at h
  .rename_i CW GX;simp only[At]at B_;obtain⟨a,xs,rfl,AW,rfl,al⟩:=B_;obtain⟨q,rfl,Ab⟩:=fb GX C1;refine⟨a,Gb xs CW,rfl,Lo.t (r.AV.sub _ _ AW) (r.AV.sub _ _ Ab),?_⟩;rw[iW];exact h _ H G r (Bl.refl _ _) (by simp only[At])
  .exact h.elim
 .exact h.elim
def ni:El (Ca F (A9 (H2 true) m n)) (r3 (Ca F m) (Ca F n)):=by rintro σ H Q ⟨G,ρ,r,h⟩;unfold A9 at h;refine⟨G,ρ,r,?_⟩;refine rb h λRJ Ai h y H1 Ae AE s1 C1=>?_;refine⟨Ae,ρ,AE,?_⟩;refine rb h λdd BC h x Aw Cw B4 s2 B_=>?_;exact lr (b:=true) B4 (C1.mono s2.g) B_ (h.mono (s1.trans s2))
def xO:El (Ca F (A9 (H2 false) m n)) (r4 (Ca F m) (Ca F n)):=by rintro σ H Q ⟨G,ρ,r,h⟩;unfold A9 at h;refine⟨G,ρ,r,?_⟩;refine rb h λRJ Ai h y H1 Ae AE s1 C1=>?_;refine⟨Ae,ρ,AE,?_⟩;refine rb h λdd BC h x Aw Cw B4 s2 B_=>?_;exact lr (b:=false) B4 (C1.mono s2.g) B_ (h.mono (s1.trans s2))
def aa(i:Nat):Ay:=λρ=>if i<ρ.length then .ok (.Bb (ρ.set i (.Aj (.B5 [] []))))else .bad
def putD(A_:List (List Key))(ds:List D)(CW:List Key)(d:D):R Ls:=if A_.any (λx=>decide (x=CW))=false/\A_.length<1000000 then .ok (.B5 (A_++[CW]) (ds++[d]))else .bad
noncomputable def Q3(i:Nat)(mk mv:AX):Ay:=λρ=>(mv ρ).bind λv=>match ρ[i]? with
 |some (.Aj (.B5 A_ ds))=>(mk ρ).bind λk=>match Q0 k with
  |some CW=>(putD A_ ds CW v).bind λo=>.ok (.Bb (ρ.set i (.Aj o)))
  |none=>.bad
 |_=>.bad
def KU(m:AX):Ay:=λρ=>(m (F_ ρ)).bind λd=>.ok (.Ed d)
def f7:Ay:=λ_=>.bad
end
mutual
noncomputable def KW:D->Bool
 |.ins _ _ _=>false
 |.tup ds=>Ko ds
 |.lst ds=>Ko ds
 |.Cs ds=>Ko ds
 |.Di _ ds=>Ko ds
 |.B5 _ ds=>Ko ds
 |.DB ds=>Ko ds
 |_=>true
noncomputable def Ko:List D->Bool
 |[]=>true
 |d::ds=>KW d&&Ko ds
end
def V3:Dl->Bool
 |.ins _ _ _=>true
 |_=>false
section
variable{K:AZ}{G G':A8}
def Gf.off(h:∀b o,G b=some o->V3 o=false->G' b=some o){a:A3}{u:Dl}(BX:V3 u=false)(r:Gf G a u):Gf G' a u:=by
 rcases r with r|⟨o,r⟩
 .exact .inl (h _ _ r BX)
 .exact .inr ⟨o,h _ _ r rfl⟩
mutual
theorem At.off(h:∀b o,G b=some o->V3 o=false->G' b=some o):∀{d:D}{v:V},KW d=true->At K G d v->At K G' d v
 |.non,_,_,q=>by simpa only[At]using q
 |.AI _,_,_,q=>by simpa only[At]using q
 |.int _,_,_,q=>by simpa only[At]using q
 |.str _,_,_,q=>by simpa only[At]using q
 |.tup _,_,n,q=>by simp only[At,KW]at q n |-;obtain⟨a,xs,e,g,r⟩:=q;exact⟨a,xs,e,h _ _ g rfl,Ac.off h n r⟩
 |.lst _,_,n,q=>by simp only[At,KW]at q n |-;obtain⟨a,xs,e,g,r⟩:=q;exact⟨a,xs,e,h _ _ g rfl,Ac.off h n r⟩
 |.Cs _,_,n,q=>by
  simp only[At,KW]at q n |-;obtain⟨a,xs,e,g,r⟩:=q;refine⟨a,xs,e,?_,Ac.off h n r⟩;rcases g with g|g
  .exact .inl (Gf.off h rfl g)
  .exact .inr g
 |.DB _,_,n,q=>by
  simp only[At,KW]at q n |-;obtain⟨a,xs,e,g,r⟩:=q;refine⟨a,xs,e,?_,Ac.off h n r⟩;rcases g with g|g
  .exact .inl (Gf.off h rfl g)
  .exact .inr g
 |.Di _ _,_,n,q=>by simp only[At,KW]at q n |-;obtain⟨a,xs,e,g,k,r⟩:=q;exact⟨a,xs,e,h _ _ g rfl,k,Ac.off h n r⟩
 |.B5 _ _,_,n,q=>by simp only[At,KW]at q n |-;obtain⟨a,xs,e,g,k,r⟩:=q;exact⟨a,xs,e,h _ _ g rfl,k,Ac.off h n r⟩
 |.ins _ _ _,_,n,_=>by simp only[KW]at n;cases n
 |.S8 _,_,n,q=>by simp only[At]at q |-;obtain⟨a,xs,e,⟨C,BP,g⟩,r⟩:=q;exact⟨a,xs,e,⟨C,BP,h _ _ g rfl⟩,r⟩
 |.fn _,_,n,q=>by simpa only[At]using q
theorem Ac.off(h:∀b o,G b=some o->V3 o=false->G' b=some o):∀{ds:List D}{vs:List V},Ko ds=true->Ac K G ds vs->Ac K G' ds vs
 |[],_,_,q=>by simpa only[Ac]using q
 |_::_,_,n,q=>by simp only[Ac,Ko,HT]at q n |-;obtain⟨v,r,e,a,t⟩:=q;exact⟨v,r,e,At.off h n.1 a,Ac.off h n.2 t⟩
end
end
def afj:DG->Bool
 |.Aj (.ins _ _ _)=>true
 |.Aj _=>false
 |.Fq _=>false
 |_=>true
def fM(ρ:AH):Bool:=ρ.all afj
def Qn(m:AX):AX:=λρ=>(m (F_ ρ)).bind λd=>if KW d=true/\fM ρ=true then .ok d else .bad
section
variable{F:BK}
open Classical in
noncomputable def S9(H:A8)(σ :St)(ρ:AH)(G:A8):A8:=λb=>if Da H σ ρ b then none else G b
def xl{m:AX}:El (Ca F (Qn m)) (Ca F m):=by
 rintro σ H Q ⟨G,ρ,r,h⟩;refine⟨L4 σ ρ G H,F_ ρ,r.plus,?_⟩;unfold Qn at h;refine rb h λd Ai h v H' G' BM s' a=>?_;by_cases hd:KW d=true/\fM ρ=true
 .rw[if_pos hd]at h;have qK:∀b,Da H σ ρ b->G b=none:=λb z=>(r.foot z).2.1;have qJ:∀b,Da H σ ρ b->F.H0 b=none:=λb z=>(r.foot z).2.2;have acp:∀b,Da H σ ρ b->∃AN,H b=some AN/\V3 AN=true:=λb⟨i,s,o,AD,AR,f⟩=>by
   have AC:=List.all_eq_true.mp hd.2 _ (F8 AD);cases s with
   |un=>cases f
   |AM _=>cases f
   |Fq _=>cases AC
   |Aj Aj=>
    have f:o=some (.ref b):=f;obtain⟨c,AN,C2,h1,_,_,h4⟩:=r.obj AD;rw[AR,f]at C2;cases C2;cases Aj with
    |lst _=>cases AC
    |B5 _ _=>cases AC
    |ins _ _ _=>obtain⟨C,Ar,xs,_,rfl,_⟩:=h4;exact⟨_,h1,rfl⟩
  have off:∀b,¬Da H σ ρ b->S9 H σ ρ G' b=G' b:=λb n=>by unfold S9;rw[if_neg n]
  have on:∀b,Da H σ ρ b->S9 H σ ρ G' b=none:=λb n=>by unfold S9;rw[if_pos n]
  have B7:Sub G (S9 H σ ρ G'):=λb o e=>by
   have n:¬Da H σ ρ b:=λz=>by rw[qK b z]at e;cases e
   rw[off b n];exact s'.g b o (ek r b o e)
  have zw:∀b,Da H σ ρ b->∀o,H b=some o->H' b=some o:=λb z o e=>BM.AV.sub _ _ (s'.g _ _ (by rw[VD z];exact e));have rel:Rel F (S9 H σ ρ G') H' σ ρ:=by
   refine r.over rfl ⟨λb o e=>?_,r.AV.FP.trans B7,BM.AV.BN,λb J=>?_⟩ B7 λb DV=>?_
   .by_cases n:Da H σ ρ b
    .rw[on b n]at e;cases e
    .rw[off b n]at e;exact BM.AV.sub b o e
   .have n:¬Da H σ ρ b:=λz=>J (qJ b z);rw[off b n];exact BM.AV.new b J
   .refine⟨?_,on b DV,qJ b DV⟩;cases BC:H b with
    |none=>exact absurd BC (r.foot DV).1
    |some o=>exact zw b DV o BC
  refine h v H' _ rel ⟨B7,s'.h,λb J=>?_⟩ (At.off (λb o e AC=>?_) hd.1 a)
  .by_cases n:Da H σ ρ b
   .rw[on b n,qK b n]
   .rw[off b n,s'.n b J];unfold L4;rw[if_neg n]
  .have n:¬Da H σ ρ b:=λz=>by
     obtain⟨AN,AD,AR⟩:=acp b z;have:=s'.g b AN (by rw[VD z];exact AD);rw[e]at this;cases this;rw[AC]at AR;cases AR
   rw[off b n];exact e
 .rw[if_neg hd]at h;cases h
abbrev Jl:=AH->R AH
def zr(F:BK)(σ :St)(CZ:Ends):R AH->Prop
 |.ok BZ=>∀G' H',Rel F G' H' σ BZ->CZ.Bb σ H'
 |.exc c=>JW F c
 |.bad=>False
def Qc(F:BK)(m:Jl):Ew:=λCZ σ H=>∃G ρ,Rel F G H σ ρ/\zr F σ CZ (m ρ)
def Mw(a b:Jl):Jl:=λρ=>(a ρ).bind b
def yL{a b:Jl}:I5 (Qc F (Mw a b)) (hE (Qc F a) (Qc F b)):=by
 rintro CZ σ H ⟨G,ρ,r,h⟩;unfold Mw at h;refine⟨G,ρ,r,?_⟩;cases Ai:a ρ with
 |bad=>rw[Ai]at h;cases h
 |exc c=>rw[Ai]at h;exact h
 |ok EA=>rw[Ai,R.E_]at h;exact λG' H' BM=>⟨G',EA,BM,h⟩
theorem ez{f:Str}{v:V}:∀{fs:List (Str×V)},(fs.map (·.1)).all (λk=>!(f==k))=true->HC f v fs=fs++[(f,v)]
 |[],_=>rfl
 |(g,x)::fs,h=>by
  simp only[EU,Ry,HT,UD]at h;have ne:g≠f:=λz=>by subst z;simp at h
  rw[HC,if_neg ne,ez (by simpa using h.2)];rfl
noncomputable def KS(BY f:Str)(m:AX):Jl:=λρ=>(m ρ).bind λd=>match(ρ[0]? :Option DG)with
 |some (.Aj (.ins EQ ns ds))=>if EQ=BY/\ns.all (λk=>!(f==k))=true/\ns.length<1000 then .ok (ρ.set 0 (.Aj (.ins BY (ns++[f]) (ds++[d]))))else .bad
 |_=>.bad
end
section
variable{X:AY}{F:BK}{e o:AT}{pos:Pos}{m:AX}
def aek{BY f x:Str}{fs:List Str}{Af pos':Pos}(k:YT X.K BY fs)(he:KB X F e m)(hf:f∈fs:=by decide+kernel)(Bs:X.N[0]?=some x:=by rfl)(Be:H_ X.env.scope x:=by first|exact EV rfl|exact DS (EV rfl)|exact DS (DS rfl))(hd:(x==("__debug__" :Str))=false:=by decide)(Dj:(x==("__classdict__" :Str))=false:=by decide)(hs:NY e=true:=by rfl)(Ag:F.K=X.K:=by rfl) :
  DF X (.Assign [.Attribute (.Name x Af) f pos'] e pos) (Qc F (KS BY f m)):=by
 refine DF.imp (acA (Ks Bs Be hd Dj) he (M_ _ _ _ _ hs)) ?_;rintro CZ σ H ⟨G,ρ,r,h⟩;unfold KS at h;refine⟨G,ρ,r,?_⟩;refine rb h λd Ai h v H1 Ae AE s1 Av=>?_
 split at h
 .rename_i EQ ns ds CV
  split at h
  .rename_i AG;obtain⟨rfl,Hc,wa⟩:=AG;obtain⟨q,AN,AD,h1,h2,h3,C,Ar,xs,BP,rfl,rfl,al⟩:=AE.obj CV;obtain⟨N5,k1,k2,k3⟩:=k.ex;rw[Ag]at BP;have:=BP.inj k1;subst this;refine⟨.ref q,AD,q,C,Ar,xs,rfl,h1,k2,k3 f hf,by simpa using wa,?_⟩;refine h Ae _ (AE.fE CV AD ⟨C,Ar,HC f v xs,by rw[Ag];exact BP,rfl,?_,?_⟩)
   .rw[ez Hc];simp
   .rw[ez Hc,j_];exact al.snoc Av
  .exact h.elim
 .exact h.elim
end
def Wd(BY:Str)(n:Nat)(mf:List D->R (List Str×List D))(ma:Al):AX:=λρ=>(ma ρ).bind λds=>if ds.length=n then(Fb (mf ds)).bind λx=>.ok (.ins BY x.1 x.2)else .bad
section
variable{X:AY}{F:BK}{e:AT}{es:List AT}{pos p:Pos}{ma:Al}
end
def LC(BY:Str)(es:List D):AH:=.Aj (.ins BY [] [])::es.map .AM
def adS{K:AZ}{G H:A8}{Hx:Str->A8->Prop}{BY:Str}{C Ar x:A3}{es:List D}{ws:List V}(Fa:EW K BY C)(h1:H x=some (.ins C Ar []))(h2:G x=none)(s:Sub G H)(Av:Ac K G es ws) :
  Rel ⟨K,G,del H x,Hx⟩ G H (some (.ref x)::ws.map some) (LC BY es):=by
 refine⟨⟨s,Sub.refl _,ci H x,λ_ _=>rfl⟩,by simp[LC,Av.length],λi t e=>?_,λi j b fs Z6 o BS Dv Co _ _ f Vp=>?_⟩
 .cases i with
  |zero=>simp[LC]at e;subst e;exact⟨some (.ref x),by simp,x,_,rfl,h1,h2,w2,C,Ar,[],Fa,rfl,rfl,.nil⟩
  |succ i=>
   simp only[LC,XS]at e |-;rw[Fl]at e;cases EC:es[i]? with
   |none=>rw[EC]at e;cases e
   |some d=>rw[EC]at e;cases e;obtain⟨v,AD,a⟩:=Av.get EC;exact⟨some v,by rw[Fl,AD];rfl,v,rfl,a⟩
 .have one:∀{i:Nat}{fs:DG}{o:Option V},(LC BY es)[i]?=some fs->GQ H fs o b->i=0:=λ{i fs o} e f=>by
    cases i with
    |zero=>rfl
    |succ i=>
     simp only[LC,XS,Fl]at e;cases EC:es[i]? with
     |none=>rw[EC]at e;cases e
     |some d=>rw[EC]at e;cases e;cases f
  rw[one Dv f,one Co Vp]
end CP
namespace CP
open PySem PySem.Spec C7 PyProof.Rows
def ag6{N:List Str}{vs:List V}(h:vs.length=N.length):C7.start N vs=vs.map some:=by unfold C7.start;simp[h]
def aaL{P:Bt}{w:Bg}{K:AZ}{mg:Str->Option A4}{base:B1}{x qual BY G9:Str}{st:B9}{N AK:List Str}{k:Nat}{m:Ay}{C f:A3}{fd:GO}(fn:N6 K x qual st f fd)(Fa:EW K BY C)(AG:Jj K C)(hm:Meth K C x f)(J:Binds K fd (G9::AK) [])(S:Bv N (G9::AK) (BW st))(h:∀(f:A3)(CB:A4)(A:C3)(outer:List Env)(s:AL)(H:A8)(E:CS),DY k (A.deeper (Oj qual (BW st) s.heap.objs.size f CB))->∀G0 H0,J3 (Eb Iu P w K mg base N qual (BW st) f CB A outer s H E).Hi (Gj K G0 H0) (GW st) m) :
  O6 P w K mg base BY x AK.length (k+1) (C0 N.length m):=by
 refine⟨C,f,fd,G9::AK,Fa,AG,hm,fn.ok S bc λCB A outer s H vs Q E A6 hs=>?_,J⟩;obtain⟨G,BB⟩:=ZX hs;exact⟨_,(h f CB A outer s H E A6 G H).1,BB⟩
section
variable{X:AY}{F:BK}{e a b c:AT}{es:List AT}{pos p:Pos}{m n:AX}{ma:Al}
def OG:List D->R D
 |[.lst xs]=>.ok (.tup xs)
 |[.Cs xs]=>.ok (.tup xs)
 |[.tup xs]=>.ok (.tup xs)
 |_=>.bad
def abX(Ag:F.K=X.K):MH F (λxs H Q=>∃p ys,xs=[.ref p]/\((Bp X.K H p ys/\∀l,H l=none->Q (.ref l) (upd H l (.tup ys)))\/(CA X.K H p ys/\Q (.ref p) H))) OG:=by
 intro σ ρ G H xs ds Q r al k;unfold OG at k
 split at k
 .obtain⟨v,rfl,Av⟩:=al.one;simp only[At]at Av;obtain⟨q,ys,rfl,Ab,Ft⟩:=Av;refine⟨q,ys,rfl,.inl ⟨Bp.of (r.AV.sub _ _ Ab),λl AF=>?_⟩⟩;refine k (.ref l) _ _ (r.lay AF) (Bl.lay r.AV.sub AF) ?_;simp only[At];exact⟨l,ys,rfl,Du,Ft.mono (Sub.upd (r.AV.sub.gone AF))⟩
 .obtain⟨v,rfl,Av⟩:=al.one;simp only[At]at Av;obtain⟨q,ys,rfl,Ab,Ft⟩:=Av;refine⟨q,ys,rfl,.inl ⟨by rw[<-Ag];exact Bp.mono r.AV.sub Ab,λl AF=>?_⟩⟩;refine k (.ref l) _ _ (r.lay AF) (Bl.lay r.AV.sub AF) ?_;simp only[At];exact⟨l,ys,rfl,Du,Ft.mono (Sub.upd (r.AV.sub.gone AF))⟩
 .obtain⟨v,rfl,Av⟩:=al.one;have uv:=Av;simp only[At]at Av;obtain⟨q,ys,rfl,Ab,Ft⟩:=Av;exact⟨q,ys,rfl,.inr ⟨CA.of (r.AV.sub _ _ Ab),k _ H G r (Bl.refl _ _) uv⟩⟩
 .exact k.elim
end
end CP
namespace Dx
open PySem PyProof.Rows
section
variable{prog:Bt}{w:Bg}{A:C3}{E:A4->AL->Prop}{s:AL}
def ud{t b:A3}{ws:List A4}{Q:A4->AL->Prop}(BB:IsTup s.heap t ([]:List A4).toArray)(J:IsTup s.heap b ws.toArray)(h:Q (.ref b) s):An (BA prog w) A (IR .Add (.ref t) (.ref b)) Q E s:=by
 obtain⟨⟨cls,dd,data,CJ⟩,AN,AG,n,hd⟩:=id BB;obtain⟨⟨uf,Ys,data2,OW⟩,RX,Hc,Ch,hd2⟩:=id J;simp only at AG hd Hc hd2;subst AG hd Hc hd2
 exact concat_meets ⟨_,AN,rfl⟩ ⟨_,RX,rfl⟩ jD seq_tuple_add il iz (iv _ _)
  (tuple_addW0 t b ([]:List A4).toArray ws.toArray n Ch dd Ys CJ OW (by simp)) ⟨AN,RX,h⟩
end
end Dx
namespace C7
open PySem PySem.Spec PyProof.Rows
variable{X:AY}
def pw(K:AZ):EI:=λx y H Q=>∃a b ys,x=.ref a/\y=.ref b/\CA K H a []/\CA K H b ys/\Q (.ref b) H
def ab5:DX X (IR .Add) (pw X.K):=by intro pins s σ H x y v u Q I BF Bo h;obtain⟨a,b,ys,rfl,rfl,A1,J,q⟩:=h;cases BF;cases Bo;obtain⟨its,AE,Dd,_⟩:=I.tuple A1;cases AE;obtain⟨Hd,B4,Cd,_⟩:=I.tuple J;exact Dx.ud Dd Cd ⟨.ref b,H,I,rfl,q⟩
end C7
namespace CP
open PySem PySem.Spec C7 PyProof.Rows
section
variable{X:AY}{F:BK}{e a b c:AT}{es:List AT}{pos p:Pos}{m n:AX}{ma:Al}
def SY:D->D->R D
 |.tup xs,.tup ys=>if xs.length+ys.length<=1000000 then .ok (.tup (xs++ys))else .bad
 |_,_=>.bad
def abJ(Ag:F.K=X.K):G3 F (λx y H Q=>pv X.K x y H Q\/pw X.K x y H Q) SY:=by
 intro σ ρ G H x y Ar FG Q r B_ C1 k;unfold SY at k
 split at k
 .rename_i ds es;have UZ:=B_;have uw:=C1;simp only[At]at B_ C1
  split at k
  .rename_i AF;obtain⟨p,xs,rfl,h1,Aa⟩:=B_;obtain⟨Cd,ys,rfl,h2,B0⟩:=C1;by_cases AA:xs=[]
   .subst AA;refine .inr ⟨p,Cd,ys,rfl,rfl,CA.of (r.AV.sub _ _ h1),CA.of (r.AV.sub _ _ h2),?_⟩;have e:ds=[]:=sk (by rw[Aa.length];rfl);subst e;exact k _ H G r (Bl.refl _ _) uw
   .refine .inl ⟨p,Cd,xs,ys,rfl,rfl,CA.of (r.AV.sub _ _ h1),CA.of (r.AV.sub _ _ h2),AA,by rw[<-Aa.length,<-B0.length];exact EB AF (by decide),λBO=>?_,λ_ l AU=>?_⟩
    .subst BO;have e:es=[]:=sk (by rw[B0.length];rfl);subst e;rw[LY]at k;exact k _ H G r (Bl.refl _ _) UZ
    .refine k (.ref l) _ _ (r.lay AU) (Bl.lay r.AV.sub AU) ?_;simp only[At];exact⟨l,xs++ys,rfl,Du,(Aa.append B0).mono (Sub.upd (r.AV.sub.gone AU))⟩
  .exact k.elim
 .exact k.elim
def Yo(x y:D):R D:=match x,y with
 |.str i,.str j=>.ok (.AI (!(UH j i 0 j.length 1).isEmpty))
 |_,_=>.bad
def abM:G3 F (λx y H Q=>∃i j,x=.str i/\y=.str j/\Q (.AI (!(UH j i 0 j.length 1).isEmpty)) H) Yo:=by
 intro σ ρ G H x y Ar FG Q r B_ C1 k;unfold Yo at k
 split at k
 .rename_i i j;simp only[At]at B_ C1;exact⟨i,j,B_,C1,k _ H G r (Bl.refl _ _) (by simp only[At])⟩
 .exact k.elim
instance(i j:Int):Decidable (IntMulOk i j):=by unfold IntMulOk;infer_instance
end
section
variable{X:AY}{F:BK}{e a b c:AT}{es:List AT}{pos p:Pos}{m n:AX}{ma:Al}
def Wa(i:Nat)(m:AX):Al:=λρ=>(ownAt i ρ).bind λds=>(m ρ).bind λd=>match d with
 |.lst es=>if ds.length+es.length<=1000000 then .ok (ds++es)else .bad
 |_=>.bad
end
end CP
namespace CP
open PySem PySem.Spec C7
section
variable{X:AY}{F:BK}{e a b c o Bd iter elt:AT}{es:List AT}{pos p:Pos}{m n:AX}{ma:Al}{st:B9}{O_:List B9}
def Ke{BY f:Str}{fs:List Str}(k:YT X.K BY fs)(he:Ah X F o m)(hf:f∈fs:=by decide+kernel)(Ag:F.K=X.K:=by rfl)(J:JL o f X.env (BE o X.env)=BE o X.env:=by rfl):Ah X F (.Attribute o f pos) (D4 (Fv BY f) m):=⟨by
 have he:=he.1;refine Ao.imp (ad1 he J) ?_;rintro σ H Q ⟨G,ρ,r,h⟩;unfold D4 at h;refine⟨G,ρ,r,?_⟩
 revert h;refine λg=>rb g λd Ai h x H1 Ae AE s1 B_=>?_
 cases d with
 |ins EQ ns ds=>
  simp only[Fv]at h
  split at h
  .rename_i AG;subst AG
   split at h
   .rename_i d' AF;simp only[At]at B_;obtain⟨q,Ar,xs,rfl,⟨C,BP,g1⟩,rfl,al⟩:=B_;obtain⟨v,Be,Av⟩:=od al AF;obtain⟨N5,k1,k2,k3⟩:=k.ex;rw[Ag]at BP;have:=BP.inj k1;subst this;exact⟨q,C,Ar,xs,v,rfl,AE.AV.sub _ _ g1,k2,k3 f hf,Be,h v H1 Ae AE s1 Av⟩
   .exact h.elim
  .exact h.elim
 |_=>exact h.elim⟩
def PO {BY mt:Str} {n k:Nat} {mf:List D->R BQ} {pl:Sem Bool} {apos:Pos} (c:O6 X.prog X.w X.K X.mg X.base BY mt n k mf) (A6:DY k X.A) (he:Ah X F o m) (A1:EZ X F (e::es) ma) (H5:F.Hx=λ_ _=>False:=by rfl) (Ag:F.K=X.K:=by rfl) (ES:Ap (e::es) X.env=(false,BE e X.env)::Ap es X.env:=by rfl) (Cz:(Cj pos (Ap es X.env)).any (·.1)=false:=by rfl) (BB:BE (.Call (.Attribute o mt apos) (e::es) [] pos) X.env=(do
   let Dk <-BE o X.env
   NO apos.atName
   let(f,first) <-JO [Dk] (QO Dk mt pl)
   S1 pos f first (Cj pos (Ap (e::es) X.env)) (Hw pos (Ht [] X.env))):=by rfl):Ah X F (.Call (.Attribute o mt apos) (e::es) [] pos) (IH BY mt n mf m ma):=⟨by
 have he:=he.1;have A1:=A1.1;obtain⟨C,f,fd,AK,BP,Ce,ER,HL,J⟩:=c.ex;refine Ao.imp (acE (pl:=pl) he Ce ER HL A6 J .nil Zg A1 ES Cz BB) ?_;rw[<-Ag];exact yt H5 (by rw[Ag];exact BP)⟩
def akJ(BX:X.A.units+64<E4)(A1:Ah X F a m)(J:Ah X F b n)(h1:HV .In b=false:=by with_unfolding_all rfl):Ah X F (.Compare a [.In] [b] pos) (A9 (H2 true) m n):=⟨have A1:=A1.1;have J:=J.1;Ao.imp (qQ (qP (by omega) A1 J) h1) ni⟩
def ahX(BX:X.A.units+64<E4)(A1:Ah X F a m)(J:Ah X F b n)(h1:HV .NotIn b=false:=by with_unfolding_all rfl):Ah X F (.Compare a [.NotIn] [b] pos) (A9 (H2 false) m n):=⟨have A1:=A1.1;have J:=J.1;Ao.imp (qQ (acr (by omega) A1 J) h1) xO⟩
def sW(BX:X.A.units+64<E4)(A1:Ah X F a m)(J:Ah X F b n)(h1:HV .In b=false:=by with_unfolding_all rfl):FE X F (.Compare a [.In] [b] pos) (B2 (A9 (H2 true) m n)):=⟨by
 have A1:=A1.1;have J:=J.1;refine FD.imp (adj (qP (by omega) A1 J) h1) λσ H Q h=>?_;obtain⟨G,ρ,r,k⟩:=dr σ H Q h;exact ni σ H _ ⟨G,ρ,r,k⟩⟩
def ahG(i:Nat){x:Str}{p q:Pos}(Bs:X.N.Nodup)(AC:X.N[i]?=some x:=by rfl)(AA:Loc X.env.scope x:=by first|exact EV rfl|exact DS rfl)(hf:X.fn x=true\/X.env.scope.names.lookup x=some .local:=by first|exact .inl rfl|exact .inr rfl):FL X F (.Assign [.Name x p] (.Dict [] [] q) pos) (aa i):=⟨by
 refine DF.imp (bO Bs AC AA ad0 (M_ _ _ _ _ rfl) hf) ?_;rintro CZ σ H ⟨G,ρ,r,h⟩;unfold aa at h;intro a A1
 split at h
 .rename_i AF;refine h _ G _ ((r.lay0 A1).setB AF Du (r.AV.sub.gone A1) (r.AV.BN.gone A1) ⟨[],rfl,rfl,.nil⟩ λj es o _ AD AR f=>Da.fresh r (Sub.upd A1) A1 ⟨j,es,o,AD,AR,f⟩) (Sub.refl _)
 .exact h.elim⟩
def r_(i:Nat){x:Str}{Af pos':Pos}{k v:AT}{mk mv:AX}(BX:X.A.units+64<E4)(AQ:Ah X F k mk)(Be:Ah X F v mv)(Bs:X.N[i]?=some x:=by rfl)(dm:H_ X.env.scope x:=by first|exact EV rfl|exact DS (EV rfl)|exact DS (DS rfl))(hd:(x==("__debug__" :Str))=false:=by decide)(Dj:(x==("__classdict__" :Str))=false:=by decide)(hs:NY v=true:=by rfl):FL X F (.Assign [.Subscript (.Name x Af) k pos'] v pos) (Q3 i mk mv):=⟨by
 have AQ:=AQ.1;have Be:=Be.1;refine DF.imp (ac9 (by omega) (Ks Bs dm hd Dj) AQ Be (M_ _ _ _ _ hs)) ?_;rintro CZ σ H ⟨G,ρ,r,h⟩;unfold Q3 at h;refine⟨G,ρ,r,?_⟩;refine rb h λaie Ai h v H1 Ae AE s1 Av=>?_
 split at h
 .rename_i A_ ds CV;obtain⟨q,AN,AD,_⟩:=AE.obj CV;refine⟨.ref q,AD,Ae,ρ,AE,?_⟩;refine rb h λRJ BC h y Aw Cw B4 s2 C1=>?_;obtain⟨Cr,FH,Fu,h1,h2,h3,xs,rfl,rfl,al⟩:=B4.obj CV;rw[AD]at Fu;cases Fu
  split at h
  .rename_i CW GX;unfold putD at h
   split at h
   .rename_i AG;obtain⟨VK,Hc⟩:=AG;obtain⟨Uc,rfl,e6⟩:=fb GX C1;have AU:Gb xs CW=none:=by
     have:=iW CW xs;rw[VK]at this;exact Option.not_isSome_iff_eq_none.mp (by rw[this];exact IN)
    refine⟨q,_,rfl,Uh.t h1 (B4.AV.sub _ _ e6) (QN (by simpa using Hc) (by decide)),?_⟩;rw[adq _ AU];refine h σ Cw _ (B4.fE CV AD ⟨xs++[(CW,v)],rfl,by simp,?_⟩) (s1.g.trans s2.g);rw[j_];exact al.snoc (Av.mono s2.g)
   .exact h.elim
  .exact h.elim
 .exact h.elim⟩
def UA(h:Ah X F e m):FL X F (.Return (some e) pos) (KU m):=⟨by
 have h:=h.1;refine DF.imp (bN h) ?_;rintro CZ σ H ⟨G,ρ,r,h⟩;unfold KU at h;refine⟨_,_,r.plus,?_⟩;cases Ai:m (F_ ρ)with
 |bad=>rw[Ai]at h;cases h
 |exc c=>rw[Ai]at h;exact h
 |ok d=>rw[Ai,R.E_]at h;exact λv H' G' BM s' a=>h v G' H' BM.AV a⟩
def ahU(h:Ah X F e m):Ah X F e (Qn m):=⟨have h:=h.1;Ao.imp h xl⟩
def ib(hm:X.mg "tuple"=none)(A1:EZ X F [e] ma)(Ag:F.K=X.K:=by rfl)(AW:DI X "tuple":=by rfl)(he:Ap [e] X.env=(false,BE e X.env)::Ap [] X.env:=by rfl)(Cz:(Cj pos (Ap [] X.env)).any (·.1)=false:=by rfl):Ah X F (.Call (.Name "tuple" p) [e] [] pos) (Bm OG ma):=⟨have A1:=A1.1;Vk uZ (abX Ag) hm (by kernel_rfl) A1 AW (by decide) (by decide) he Cz⟩
def s6(A1:Ah X F a m)(J:Ah X F b n)(Ag:F.K=X.K:=by rfl):Ah X F (.BinOp a .Add b pos) (A9 SY m n):=⟨have A1:=A1.1;have J:=J.1;Nd (ab4.or ab5) (abJ Ag) A1 J⟩
def ahY(A1:Ah X F a m)(J:Ah X F b n)(hm:HV .In b=false:=by with_unfolding_all rfl):Ah X F (.Compare a [.In] [b] pos) (A9 Yo m n):=⟨have A1:=A1.1;have J:=J.1;Vl ab9 abM A1 J hm⟩
def ah8(i:Nat){x:Str}{Af:Pos}(J:Ah X F b m)(Bs:X.N[i]?=some x:=by rfl)(Be:H_ X.env.scope x:=by first|exact EV rfl|exact DS (EV rfl)|exact DS (DS rfl))(hd:(x==("__debug__" :Str))=false:=by decide)(Dj:(x==("__classdict__" :Str))=false:=by decide):Jm X F (.BinOp (.Name x Af) .Add b pos) (Wa i m):=⟨by
 have J:=J.1;refine Ao.imp (Zi Zc (Ks Bs Be hd Dj) J) ?_;rintro σ H Q ⟨G,ρ,r,h⟩;unfold Wa ownAt at h;cases CV:ρ[i]? with
 |none=>rw[CV]at h;cases h
 |some s=>
  rw[CV]at h;cases s with
  |un=>cases h
  |AM _=>cases h
  |Fq _=>cases h
  |Aj Aj=>
   cases Aj with
   |B5 _ _=>cases h
   |ins _ _ _=>cases h
   |lst ds=>
    obtain⟨q,xs,AD,h1,h2,h3,h4⟩:=r.own CV;rw[R.E_]at h;refine⟨.ref q,AD,G,ρ,r,?_⟩;refine rb h λd Ai h v H1 Ae AE s1 Av=>?_;obtain⟨Cr,Jf,Fu,KI,SC,SD,GY⟩:=AE.own CV;rw[AD]at Fu;cases Fu;cases d with
    |lst es=>
     simp only at h
     split at h
     .rename_i AF;simp only[At]at Av;obtain⟨Cd,ys,rfl,g2,B0⟩:=Av;refine⟨q,Cd,Jf,ys,rfl,rfl,KI,AE.AV.sub _ _ g2,by rw[<-GY.length,<-B0.length];exact EB AF (by decide),λl AU=>?_⟩;exact h l (Jf++ys) _ Ae (AE.lay0 AU) (s1.trans (Bl.lay0 AU)) (s1.h.gone AU) Du (AE.AV.sub.gone AU) (GY.append B0)
     .exact h.elim
    |_=>exact h.elim⟩
structure YM(X:AY)(F:BK)(st:B9)(m:Jl):Prop where
 o:DF X st (Qc F m)
structure YL(X:AY)(F:BK)(st:List B9)(m:Jl):Prop where
 o:GU X st (Qc F m)
def ah5{m:Jl}(h:YM X F st m):YL X F [st] m:=⟨ew h.1⟩
def X6{a b:Jl}(h:YM X F st a)(k:YL X F O_ b):YL X F (st::O_) (Mw a b):=⟨GU.imp (ph h.1 k.1) yL⟩
def aq{BY f x:Str}{fs:List Str}{Af pos':Pos}(k:YT X.K BY fs)(he:Ah X F e m)(hf:f∈fs:=by decide+kernel)(Bs:X.N[0]?=some x:=by rfl)(Be:H_ X.env.scope x:=by first|exact EV rfl|exact DS (EV rfl)|exact DS (DS rfl))(hd:(x==("__debug__" :Str))=false:=by decide)(Dj:(x==("__classdict__" :Str))=false:=by decide)(hs:NY e=true:=by rfl)(Ag:F.K=X.K:=by rfl) :
  YM X F (.Assign [.Attribute (.Name x Af) f pos'] e pos) (KS BY f m):=⟨CP.aek k he.1 hf Bs Be hd Dj hs Ag⟩
end
structure QW(K:AZ)(BY x qual:Str)(st:B9)(AK:List Str):Prop where
 ex:∃(C f:A3)(fd:GO),EW K BY C/\Jj K C/\Meth K C x f/\N6 K x qual st f fd/\Binds K fd AK []
structure InK(K:AZ)(mg:Str->Option A4)(BY qual:Str)(st:B9)(AK:List Str):Prop where
 ex:∃(C f:A3)(fd:GO),EW K BY C/\Y_ K C f/\N6 K "__init__" qual st f fd/\mg BY=some (.ref C)/\Binds K fd AK []
def X5{P:Bt}{w:Bg}{K:AZ}{mg:Str->Option A4}{base:B1}{x qual BY G9:Str}{st:B9}{N AK:List Str}{k:Nat}{m:Ay}(d:QW K BY x qual st (G9::AK))(S:Bv N (G9::AK) (BW st))(h:∀(f:A3)(CB:A4)(A:C3)(outer:List Env)(s:AL)(H:A8)(E:CS),DY k (A.deeper (Oj qual (BW st) s.heap.objs.size f CB))->∀G0 H0,J3 (Eb Iu P w K mg base N qual (BW st) f CB A outer s H E).Hi (Gj K G0 H0) (GW st) m) :
  O6 P w K mg base BY x AK.length (k+1) (C0 N.length m):=by
 obtain⟨C,f,fd,h1,h2,h3,h4,h5⟩:=d.ex;exact aaL h4 h1 h2 h3 h5 S h
end CP
namespace CP
open PySem PySem.Spec C7 PyProof.Rows
section
variable{K:AZ}{G G' H H':A8}
theorem DJ.length:∀{Bn:List T}{vs:List V},DJ K G H Bn vs->Bn.length=vs.length
 |[],_,h=>by simp only[DJ]at h;subst h;rfl
 |_::_,_,h=>by simp only[DJ]at h;obtain⟨v,r,rfl,_,t⟩:=h;simp[DJ.length t]
end
section
variable{F:BK}{G H:A8}{σ :C7.St}{ρ:AH}
end
section
variable{X:AY}{F:BK}{e a b c Bd iter elt:AT}{es:List AT}{pos p:Pos}{m n:AX}{ma:Al}
end
end CP
namespace CP
open PySem PySem.Spec C7
section
variable{F:BK}
end
section
variable{X:AY}{F:BK}{e a b c Bd iter elt:AT}{es:List AT}{pos p:Pos}{m n:AX}{ma:Al}{scope:D9}{N:List Str}
end
noncomputable def Kd(c:C9)(b:Ay):Nat->AH->R HH
 |0,_=>.bad
 |n+1,ρ=>(c ρ).bind λk=>if k=true then(b ρ).bind λf=>match f with
  |.Bb BZ=>Kd c b n BZ
  |.Cn BZ=>Kd c b n BZ
  |.G4 BZ=>.ok (.Bb BZ)
  |f=>.ok f
  else .ok (.Bb ρ)
def Qp(c:C9)(b:Ay):Ay:=Kd c b 1000
section
variable{F:BK}
def yQ{c:C9}{b:Ay}:I5 (Fd F (Qp c b)) (sB (GL F c) (Fd F b)):=by
 rintro CZ σ H ⟨G,ρ,r,h⟩;refine⟨λm σ2 Aw=>∃Cw F0,Rel F Cw Aw σ2 F0/\Sub G Cw/\He F Cw CZ (Kd c b m F0),⟨1000,G,ρ,r,Sub.refl _,h⟩,?_⟩;rintro m σ2 Aw ⟨Cw,F0,B4,s2,k2⟩;refine⟨Cw,F0,B4,?_⟩;cases m with
 |zero=>cases k2
 |succ n=>
  simp only[Kd]at k2;refine rb k2 λk ec k2 Cx Gd E2 Mc=>?_;cases k with
  |false=>rw[if_neg IN]at k2 |-;exact k2 σ2 Gd Cx E2 Mc.g
  |true=>
   rw[if_pos rfl]at k2 |-;refine⟨λσ4 Gw=>∃Uk JK,Rel F Uk Gw σ4 JK/\Sub G Uk/\He F Uk CZ (Kd c b n JK),λσ4 Gw q=>⟨n,XX _,q⟩,Gd,F0,E2,?_⟩;refine rb k2 λf BC k2=>?_;cases f with
   |Bb ON=>exact λσ7 Lp GR HD Dt=>⟨Lp,ON,HD,s2.trans (Mc.g.trans Dt),He.mono (Mc.g.trans Dt) k2⟩
   |Cn ON=>exact λσ7 Lp GR HD Dt=>⟨Lp,ON,HD,s2.trans (Mc.g.trans Dt),He.mono (Mc.g.trans Dt) k2⟩
   |G4 ON=>exact λσ7 Lp GR HD Dt=>k2 σ7 Lp GR HD (Mc.g.trans Dt)
   |Ed d=>exact k2
   |Ij ds=>exact k2
   |Ec t=>exact k2
end
section
variable{X:AY}{F:BK}{e a b c o:AT}{es:List AT}{pos p:Pos}{m n:AX}{ma:Al}
def sA{body:List B9}{Zy:C9}{Gl:Ay}(Am:PassesOwn (BA X.prog X.w) X.A X.env X.xe)(AG:FE X F c Zy)(J:J3 X F body Gl):FL X F (.While c body [] pos) (Qp Zy Gl):=⟨DF.imp (acD Am AG.1 J.1) yQ⟩
def findD(A_:List (List Key))(ds:List D)(CW:List Key):Option D:=((A_.zip ds).find? λp=>decide (p.1=CW)).map (·.2)
theorem md{K:AZ}{G:A8}(CW:List Key):∀{ds:List D}{xs:List (List Key×V)},Ac K G ds (xs.map (·.2))->match findD (xs.map (·.1)) ds CW with
  |some d=>∃v,Gb xs CW=some v/\At K G d v
  |none=>Gb xs CW=none
 |[],xs,h=>by
  simp only[Ac]at h;have:xs=[]:=by simpa using h
  subst this;rfl
 |d::ds,[],h=>by simp only[Ac,jc]at h;obtain⟨v,r,e,_⟩:=h;cases e
 |d::ds,(k,v)::xs,h=>by
  simp only[Ac,EU]at h;obtain⟨LP,r,e,a,t⟩:=h;cases e;have Br:=md (K:=K) (G:=G) CW (ds:=ds) (xs:=xs) t;unfold findD Gb at Br |-;simp only[EU,Xp,MN];by_cases AQ:k=CW
  .simp only[AQ,decide_true,Option.map_some];exact⟨v,rfl,a⟩
  .simp only[AQ,decide_false];exact Br
def Wb(m n:AX):AX:=λρ=>(m ρ).bind λd=>match d with
 |.B5 A_ ds=>(n ρ).bind λk=>match Q0 k with
  |some CW=>.ok ((findD A_ ds CW).getD .non)
  |none=>.bad
 |_=>.bad
def xN:El (Ca F (Wb m n)) (r2 (Ca F m) (Ca F n)):=by
 rintro σ H Q ⟨G,ρ,r,h⟩;unfold Wb at h;refine⟨G,ρ,r,?_⟩;refine rb h λdd Ai h x H1 Ae AE s1 B_=>?_;cases dd with
 |B5 A_ ds=>
  simp only at h;simp only[At]at B_;obtain⟨a,xs,rfl,AW,rfl,al⟩:=B_;refine⟨a,rfl,.inr ⟨xs,.inl (AE.AV.sub _ _ AW)⟩,Ae,ρ,AE,?_⟩;refine rb h λRJ BC h y Aw Cw B4 s2 C1=>?_;cases GX:Q0 RJ with
  |none=>rw[GX]at h;cases h
  |some CW=>
   rw[GX]at h;simp only at h;obtain⟨q,rfl,Ab⟩:=fb GX C1;refine⟨Gb xs CW,Lo.t (B4.AV.sub _ _ (s2.g _ _ AW)) (B4.AV.sub _ _ Ab),?_⟩;have f:=md (K:=F.K) (G:=Ae) CW al;cases RL:findD (xs.map (·.1)) ds CW with
   |none=>rw[RL]at f h;rw[show Gb xs CW=none from f];exact h .non Aw Cw B4 (s1.trans s2) (by simp only[j0,At])
   |some d=>rw[RL]at f h;obtain⟨v,ev,Av⟩:=f;rw[ev];exact h v Aw Cw B4 (s1.trans s2) (Av.mono s2.g)
 |_=>cases h
def ahW {apos cpos:Pos} (BX:X.A.units+64<E4) (AN:Ah X F o m) (he:Ah X F e n) (h1:JL o "get" X.env (BE o X.env)=BE o X.env:=by rfl)(h2:((Cj cpos (Ap [e] X.env)).all (λx=>!x.1)&&(Hw cpos (Ht [] X.env)).all (λx=>x.1.isSome)
  &&decide (([e]:List AT).length+([]:List GA).length+(if([]:List GA).isEmpty then 0 else 1)<30))=true:=by rfl) (h3:(apos.endLine==cpos.line)=true:=by rfl) (h4:Cj cpos (Ap [e] X.env)=[(false,BE e X.env)]:=by rfl) :
  Ah X F (.Call (.Attribute o "get" apos) [e] [] cpos) (Wb m n):=⟨Ao.imp (acz (by omega) AN.1 he.1 ⟨h1,h2,h3,h4⟩) xN⟩
noncomputable def ae4(F:BK):V->List V->A8->C_->Prop:=λx vs H Q=>∃G d1 CC p y ds xs j,Sub G H/\x=.ref p/\vs=[y]/\At F.K G d1 y/\Gy F.K G CC p false ds xs/\okN 7 d1=true/\ds.all (okN 7)=true/\ds.length<1000000/\ds.findIdx? (λz=>D1 z d1)=some j/\Q (.int (j:Nat)) H
def tZ{pins:List (A3×Obj)}{σ :C7.St}{G H:A8}{s:AL}(I:Inv X pins σ H s)(B7:Sub G H){d1:D}{ds:List D}{xs:List V}{its:List A4}(q:Ac X.K G ds xs)(r:Vals xs its)(o:ds.all (okN 7)=true){i:Nat}{d:D}{u:A4}(AD:ds[i]?=some d)(AR:its[i]?=some u):Ly X.K G d1 u=D1 d d1:=by
 obtain⟨v,ev,Av⟩:=q.get AD;have AN:okN 7 d=true:=List.all_eq_true.mp o d (F8 AD);have Bj:RelV v u:=by obtain⟨H8,Mh,Ds⟩:=r.get ev;rw[AR]at Mh;cases Mh;exact Ds
 exact cG I B7 AN ⟨v,Av,Bj⟩
def aaW(Ag:F.K=X.K)(BX:X.A.units+64<E4):Yb X "list.index" (ae4 F):=by
 intro pins s σ H x vs v us Q I BF Bj h;obtain⟨G,d1,CC,p,y,ds,xs,j,B7,rfl,rfl,a1,Gn,CY,CN,AF,Bx,q⟩:=h;rw[Ag]at a1 Gn;cases BF;obtain⟨u,rfl,Ds⟩:=vals1 Bj;obtain⟨its,AE,t1,Dq⟩:=Gn.heap I B7;have hm:=Zz I B7 (A:=X.A.in1) (d1:=d1) (by simp only[in1_units];omega) CY a1 Ds Gn.HK AE CN;obtain⟨⟨cls,dict,data,slots⟩,g1,g2,nn,g3⟩:=Dq rfl;simp only at g2 g3;subst g2 g3;obtain⟨Gk,AD,AR⟩:=List.findIdx?_eq_some_iff_getElem.mp Bx;have VR:its.length=ds.length:=by rw[<-AE.length,<-Gn.HK.length]
 have xq:j<its.length:=by omega
 have kz:∀(i:Nat)(h:i<ds.length),Ly X.K G d1 (its[i]'(by omega))=D1 ds[i] d1:=λi h=>tZ I B7 Gn.HK AE CN (Dw h) (Dw (by omega));have F4:s.TypeIs (.ref p) "list":=⟨_,g1,rfl⟩;have x_:(j:Int)<2^63-1:=by
  have:(j:Int)<1000000:=by omega
  omega
 refine MR t4 F4 PySem.F.entry_list_index (PySem.F.args_list_index_2 _ _) (SeqAt.list_indexAt p its.toArray nn dict slots u (Ly X.K G d1) j (by simpa using xq) x_ ?_ ?_) ⟨g1,λw hw=>hm w (by simpa using hw),?_⟩
 .have:=kz j Gk;rw[AD]at this;simpa using this
 .intro k AQ wt;have z:=kz k (by omega);have C2:=AR k wt;rw[Bool.not_eq_true]at C2;rw[C2]at z;simpa using z
 .exact⟨.int (j:Nat),H,I.tok _,⟨_,rfl⟩,q⟩
def eL:D->List D->R D
 |.lst ds,[d]=>if okN 7 d=true/\ds.all (okN 7)=true/\ds.length<1000000 then match ds.findIdx? (λz=>D1 z d)with
  |some j=>.ok (.int (j:Nat))
  |none=>.bad
  else .bad
 |_,_=>.bad
def T1(m:AX)(ma:Al):AX:=λρ=>(m ρ).bind λd=>match d with
 |.lst ds=>(ma ρ).bind λes=>eL (.lst ds) es
 |_=>.bad
def ahZ {apos cpos:Pos} (BX:X.A.units+64<E4) (AN:Ah X F o m) (A1:EZ X F [e] ma) (Ag:F.K=X.K:=by rfl)(ID:JL o "index" X.env (BE o X.env)=BE o X.env:=by rfl)(IE:((Cj cpos (Ap [e] X.env)).all (λx=>!x.1)&&(Hw cpos (Ht [] X.env)).all (λx=>x.1.isSome)
    &&decide (([e]:List AT).length+([]:List GA).length+(if([]:List GA).isEmpty then 0 else 1)<30))=true:=by rfl)
  (IF:(apos.endLine==cpos.line)=true:=by rfl) (hs:Ap [e] X.env=(false,BE e X.env)::Ap [] X.env:=by rfl) (IG:(Cj cpos (Ap [] X.env)).any (·.1)=false:=by rfl) :
  Ah X F (.Call (.Attribute o "index" apos) [e] [] cpos) (T1 m ma):=by
 refine⟨Ao.imp (Pd Rf t4 PySem.F.type_list_index (aaW (F:=F) Ag BX) AN.1 A1.1 ID IE IF hs IG) ?_⟩;rintro σ H Q ⟨G,ρ,r,h⟩;unfold T1 at h;refine⟨G,ρ,r,?_⟩;refine rb h λdd Ai h x H1 Ae AE s1 B_=>?_;cases dd with
 |lst ds=>
  simp only at h;simp only[At]at B_;obtain⟨p,xs,rfl,AW,al⟩:=B_;refine⟨.inl ⟨rfl,xs,Bp.of (AE.AV.sub _ _ AW)⟩,Ae,ρ,AE,?_⟩;refine rb h λes BC h vs Aw Cw B4 s2 C1=>?_;unfold eL at h
  split at h
  .rename_i RK d AD;cases AD
   split at h
   .rename_i AG
    split at h
    .rename_i j Jq;obtain⟨y,rfl,Av⟩:=C1.one;exact⟨Cw,d,.lst ds,p,y,ds,xs,j,B4.AV.sub,rfl,rfl,Av,.lst (s2.g _ _ AW) (al.mono s2.g),AG.1,AG.2.1,AG.2.2,Jq,h _ Aw Cw B4 (s1.trans s2) (by simp only[At])⟩
    .exact h.elim
   .exact h.elim
  .exact h.elim
 |_=>cases h
end
def U4(K:AZ):CS->Str->A8->Prop:=λE c H=>∃C,EW K c C/\∀a,H a=none->E (.ref C) (some a) H
def E8(K:AZ)(G H:A8)(E:CS):BK:=⟨K,G,H,U4 K E⟩
def Rel.IV{F F':BK}{G H:A8}{σ :C7.St}{ρ:AH}(r:Rel F G H σ ρ)(Ag:F'.K=F.K)(h0:F'.G0=F.G0)(h1:F'.H0=F.H0):Rel F' G H σ ρ:=
 r.over Ag ⟨r.AV.sub,by rw[h0];exact r.AV.FP,by rw[h1];exact r.AV.BN,λb J=>by rw[h1]at J;rw[h0];exact r.AV.new b J⟩ (Sub.refl _) λa A1=>⟨rfl,(r.foot A1).2.1,by rw[h1];exact(r.foot A1).2.2⟩
def FJ(m:C9):C9:=λρ=>Fb (m ρ)
def Fo(m:Ay):Ay:=λρ=>Fb (m ρ)
def NW(m:Al):Al:=λρ=>Fb (m ρ)
section
variable{K:AZ}{G0 H0:A8}{E:CS}
def aan{m:C9}:O4 (GL (E8 K G0 H0 E) (FJ m)) (GL (Gj K G0 H0) m):=by
 rintro σ H Q ⟨G,ρ,r,h⟩;unfold FJ at h;refine⟨G,ρ,r.IV rfl rfl rfl,?_⟩;cases e:m ρ with
 |bad=>rw[e]at h;cases h
 |exc c=>rw[e]at h;cases h
 |ok b=>rw[e]at h;exact λH' G' BM u=>h H' G' (BM.IV rfl rfl rfl) u
def aak{m:Al}:Sr (EM (E8 K G0 H0 E) (NW m)) (EM (Gj K G0 H0) m):=by
 rintro σ H Q ⟨G,ρ,r,h⟩;unfold NW at h;refine⟨G,ρ,r.IV rfl rfl rfl,?_⟩;cases e:m ρ with
 |bad=>rw[e]at h;cases h
 |exc c=>rw[e]at h;cases h
 |ok b=>rw[e]at h;exact λvs H' G' BM u a=>h vs H' G' (BM.IV rfl rfl rfl) u a
def Eg.IV{F F':BK}{G H:A8}(k:Eg F G H)(h0:F'.G0=F.G0)(h1:F'.H0=F.H0):Eg F' G H:=⟨k.sub,by rw[h0];exact k.FP,by rw[h1];exact k.BN,λb J=>by rw[h1]at J;rw[h0];exact k.new b J⟩
def aam{m:Ay}:I5 (Fd (E8 K G0 H0 E) (Fo m)) (Fd (Gj K G0 H0) m):=by
 rintro CZ σ H ⟨G,ρ,r,h⟩;unfold Fo at h;refine⟨G,ρ,r.IV rfl rfl rfl,?_⟩;cases e:m ρ with
 |bad=>rw[e]at h;cases h
 |exc c=>rw[e]at h;cases h
 |ok f=>
  rw[e]at h;cases f with
  |Bb BZ=>exact λσ' G' H' BM s=>h σ' G' H' (BM.IV rfl rfl rfl) s
  |G4 BZ=>exact λσ' G' H' BM s=>h σ' G' H' (BM.IV rfl rfl rfl) s
  |Cn BZ=>exact λσ' G' H' BM s=>h σ' G' H' (BM.IV rfl rfl rfl) s
  |Ed d=>exact λv G' H' k a=>h v G' H' (k.IV rfl rfl) a
  |Ij ds=>exact λa xs G' H' k h1 h2 h3 h4=>h a xs G' H' (k.IV rfl rfl) h1 h2 h3 h4
  |Ec t=>exact λv G' H' k q=>h v G' H' (k.IV rfl rfl) ⟨q.at_,q.B6,q.own⟩
end
section
variable{X:AY}{e c:AT}{es:List AT}{st:B9}{pos p:Pos}{K:AZ}{G0 H0:A8}{E:CS}{mt:C9}{ms:Ay}{ma:Al}
def agL{t:TT}(h:FD X.Hi e t):FD X e t:=λpins s σ H Q I q=>Gs (h pins s σ H Q (I.JG _) q) (λ_ s'⟨H',CH,z⟩=>⟨H',CH.Ik,z⟩) λ_ _ z=>z.elim
def agI{t:EX}(h:F1 X.Hi es t):F1 X es t:=λpos pins s σ H Q I q=>Gs (h pos pins s σ H Q (I.JG _) q) (λ_ s'⟨vs,H',CH,r,z⟩=>⟨vs,H',CH.Ik,r,z⟩) λ_ _ z=>z.elim
def agK{t:Ew}(h:DF X.Hi st t):DF X st t:=λpins s σ H D I q=>Gs (h pins s σ H D (I.JG _) q) (λf s' z=>by
 cases f with
 |next=>obtain⟨σ',H',CH,z⟩:=z;exact⟨σ',H',CH.Ik,z⟩
 |brk=>obtain⟨σ',H',CH,z⟩:=z;exact⟨σ',H',CH.Ik,z⟩
 |cont=>obtain⟨σ',H',CH,z⟩:=z;exact⟨σ',H',CH.Ik,z⟩
 |ret v=>obtain⟨x,σ',H',CH,z⟩:=z;exact⟨x,σ',H',CH.Ik,z⟩) λ_ _ z=>z.elim
def I1(h:FE X.Hi (Gj K G0 H0) e mt):FE X (E8 K G0 H0 E) e (FJ mt):=⟨λpins s σ H Q I q=>agL h.1 pins s σ H Q I (aan σ H Q q)⟩
def rY(h:EZ X.Hi (Gj K G0 H0) es ma):EZ X (E8 K G0 H0 E) es (NW ma):=⟨λpos pins s σ H Q I q=>agI h.1 pos pins s σ H Q I (aak σ H Q q)⟩
def JH(h:FL X.Hi (Gj K G0 H0) st ms):FL X (E8 K G0 H0 E) st (Fo ms):=⟨λpins s σ H D I q=>agK h.1 pins s σ H D I (aam D σ H q)⟩
end
structure GS(P:Bt)(w:Bg)(K:AZ)(mg:Str->Option A4)(base:B1)(x:Str)(n k:Nat)(mf:List D->R BQ):Prop where
 ex:∃(f:A3)(fd:GO)(AK:List Str),AK.length=n/\HY P w K mg base (Ep P w) k f fd AK (OX K n (U4 K) mf)/\mg x=some (.ref f)/\Ir K (.ref f)=true/\Binds K fd AK []
structure O1(K:AZ)(mg:Str->Option A4)(c:Str):Prop where
 ex:∃C,EW K c C/\mg c=some (.ref C)/\La K C [.type "ValueError",.type "Exception",.type "BaseException",.type "object"] "ValueError.__new__"=true
def Hh(c:Str):Ay:=λ_=>.exc c
section
variable{P:Bt}{w:Bg}{K:AZ}{mg:Str->Option A4}{base:B1}{N:List Str}{qual:Str}{scope:D9}{f:A3}{cd:A4}{A:C3}{outer:List Env}{s0:AL}{Ha:A8}{E:CS}{G0 H0:A8}
def JI{x:Str}{np cpos pos cp:Pos}{m:Str}{j:Nat}(k:O1 K mg x)(AW:DI (Eb (Ep P w) P w K mg base N qual scope f cd A outer s0 Ha E) x:=by rfl)(hd:(x==("__debug__" :Str))=false:=by decide) :
  FL (Eb (Ep P w) P w K mg base N qual scope f cd A outer s0 Ha E) (E8 K G0 H0 E) (.Raise (some (.Call (.Name x np) [.Constant (.str m) j cp] [] cpos)) none pos) (Hh x):=by
 obtain⟨C,h1,h2,h3⟩:=k.ex;refine⟨λpins s σ H D I q=>acC (X:=Eb (Ep P w) P w K mg base N qual scope f cd A outer s0 Ha E) PySem.F.excBase_ValueError h3 h2 rfl AW hd pins s σ H D I ?_⟩;obtain⟨G,ρ,r,h⟩:=q;obtain⟨N5,BP,Ce⟩:=(show JW (E8 K G0 H0 E) x from h) G H r.AV;have:N5=C:=by unfold EW at BP h1;rw[h1]at BP;cases BP;rfl
 subst this;exact ahf Ce
def rz{x:Str}{n k:Nat}{mf:List D->R BQ}{e:AT}{es:List AT}{ma:Al}{pos p:Pos}(c:GS P w K mg base x n k mf)(A6:DY k (Eb (Ep P w) P w K mg base N qual scope f cd A outer s0 Ha E).A)(A1:EZ (Eb (Ep P w) P w K mg base N qual scope f cd A outer s0 Ha E) (E8 K G0 H0 E) (e::es) ma)(AW:DI (Eb (Ep P w) P w K mg base N qual scope f cd A outer s0 Ha E) x:=by rfl)(Fn:(x==("__debug__" :Str))=false:=by decide)(he:Ap (e::es) (Eb (Ep P w) P w K mg base N qual scope f cd A outer s0 Ha E).env=(false,BE e (Eb (Ep P w) P w K mg base N qual scope f cd A outer s0 Ha E).env)::Ap es (Eb (Ep P w) P w K mg base N qual scope f cd A outer s0 Ha E).env:=by rfl)(Cz:(Cj pos (Ap es (Eb (Ep P w) P w K mg base N qual scope f cd A outer s0 Ha E).env)).any (·.1)=false:=by rfl) :
  Ah (Eb (Ep P w) P w K mg base N qual scope f cd A outer s0 Ha E) (E8 K G0 H0 E) (.Call (.Name x p) (e::es) [] pos) (Au n mf ma):=by
 obtain⟨Vp,fd,AK,AU,HL,hm,AQ,J⟩:=c.ex;exact⟨Ao.imp (WI (X:=Eb (Ep P w) P w K mg base N qual scope f cd A outer s0 Ha E) HL A6 AW hm AQ J .nil HR A1.1 Fn he Cz) (Yn (F:=E8 K G0 H0 E) (xe:=U4 K) (E:=E) rfl)⟩
end
def Hz{P:Bt}{w:Bg}{K:AZ}{mg:Str->Option A4}{base:B1}{x:Str}{st:B9}{N AK:List Str}{k:Nat}{m:Ay}(d:CG K mg x st AK)(S:Bv N AK (BW st))(h:∀(f:A3)(CB:A4)(A:C3)(outer:List Env)(s:AL)(H:A8)(E:CS),DY k (A.deeper (Oj x (BW st) s.heap.objs.size f CB))->∀G0 H0,J3 (Eb (Ep P w) P w K mg base N x (BW st) f CB A outer s H E) (E8 K G0 H0 E) (GW st) m) :
  GS P w K mg base x AK.length (k+1) (C0 N.length m):=by
 obtain⟨f,fd,fn,hm,J⟩:=d.ex;refine⟨f,fd,AK,rfl,?_,hm,fn.AV,J⟩;obtain⟨Ey,Dc,Cf,doc,pm,an,CB,Cn,Kq,rfl,lk,Dj⟩:=fn.ex;refine ee lk Dj S bc λA outer s H vs Q E A6 hs=>?_;obtain⟨G,BB⟩:=ZX hs;exact⟨_,(h f CB A outer s H E A6 G H).1,BB⟩
def Mu(n:Nat)(mf:List D->R BQ)(m:Al):AX:=λρ=>(m ρ).bind λds=>if ds.length=n then(Fb (mf ds)).bind JD else .bad
section
variable{X:AY}{F:BK}{e:AT}{es:List AT}{pos p:Pos}{ma:Al}
def qO{P:Bt}{w:Bg}:Passes (Ep P w) X (λ_ _ _=>False):=λ_ _ _ _ _ _ _ h=>by obtain⟨_,_,_,_,_,_,_,z⟩:=h;cases z
def xJ{n:Nat}{mf:List D->R BQ}{m:Al}{xe:CS->Str->A8->Prop}{E:CS}:El (Ca F (Mu n mf m)) (Vy (OX F.K n xe mf) [] E (EM F m)):=by
 rintro σ H Q ⟨G,ρ,r,h⟩;unfold Mu at h;refine⟨G,ρ,r,?_⟩;refine rb h λds Ai h vs H1 Ae AE s1 a=>?_;by_cases AU:ds.length=n
 .rw[if_pos AU]at h;rw[LY];refine⟨Ae,ds,AE.AV.sub,a,AU,?_⟩;cases e:mf ds with
  |bad=>rw[e]at h;cases h
  |exc c=>rw[e]at h;cases h
  |ok t=>
   rw[e]at h;have h:Ib F G H σ ρ Q (JD t):=h;cases t with
   |v d=>exact λv G' H' k Av=>h v H' G' (Eg.of AE k) (s1.trans ⟨k.FP,k.BN,k.new⟩) Av
   |o es=>intro p xs G' H' k h1 h2 h3 h4;have h2:H1 p=none:=h2;have BM:=Eg.of AE k;have no:¬Da H' σ ρ p:=Da.fresh AE k.BN h2;refine h (.ref p) H' _ (BM.take h3 h1 (AE.AV.BN.gone h2) no) ((s1.trans ⟨k.FP,k.BN,k.new⟩).put (s1.h.gone h2) h1) ?_;simp only[At];exact⟨p,xs,rfl,Du,h4.mono (Sub.upd h1)⟩
   |t t=>intro v G' H' k q;obtain⟨a1,a2,Dp⟩:=(Eg.of AE k).iG (F':=⟨F.K,Ae,H1,xe E⟩) rfl q (s1.trans ⟨k.FP,k.BN,k.new⟩) λb J=>⟨s1.h.gone (q.own b J).2,AE.AV.BN.gone (q.own b J).2,Da.fresh AE k.BN (q.own b J).2⟩;exact h v H' _ a1 a2 Dp
 .rw[if_neg AU]at h;cases h
def U6{x:Str}{n k:Nat}{mf:List D->R BQ}(c:GS X.prog X.w X.K X.mg X.base x n k mf)(A6:DY k X.A)(A1:EZ X F (e::es) ma)(Ag:F.K=X.K:=by rfl)(AW:DI X x:=by rfl)(Fn:(x==("__debug__" :Str))=false:=by decide)(he:Ap (e::es) X.env=(false,BE e X.env)::Ap es X.env:=by rfl)(Cz:(Cj pos (Ap es X.env)).any (·.1)=false:=by rfl):Ah X F (.Call (.Name x p) (e::es) [] pos) (Mu n mf ma):=by obtain⟨f,fd,AK,AU,HL,hm,AQ,J⟩:=c.ex;refine⟨Ao.imp (WI HL A6 AW hm AQ J .nil qO A1.1 Fn he Cz) ?_⟩;rw[<-Ag];exact xJ
end
end CP
namespace C7
open PySem PySem.Spec PySem.Calls PyProof.Rows PySem.W PySem.Builtin PySem.Builtin.ObjectAttr PySem.Builtin.Getset_descriptor
section
variable{prog:Bt}{w:Bg}{A:C3}{E:A4->AL->Prop}{s:AL}{K:Frag}{a D:A3}
end
end C7
namespace CP
open PySem PySem.Spec C7
section
variable{X:AY}{F:BK}{a:AT}{pos p:Pos}{m:AX}
end
def WN:D->D->R D
 |.lst xs,.int k=>if 0<=k/\k<=1000/\xs.length<=100 then .ok (.lst (FU k.toNat xs).flatten)else .bad
 |_,_=>.bad
theorem Ac.rep{K:AZ}{G:A8}{ds:List D}{xs:List V}(q:Ac K G ds xs):∀n:Nat,Ac K G (FU n ds).flatten (FU n xs).flatten
 |0=>by simpa using Ac.nil
 |n+1=>by rw[Oi,Oi,Og,Og];exact q.append (Ac.rep q n)
section
variable{X:AY}{F:BK}{a b:AT}{pos p:Pos}{m n:AX}
def abS:G3 F pR WN:=by
 intro σ ρ G H x y Ar FG Q r B_ C1 k;unfold WN at k
 split at k
 .rename_i xs j
  split at k
  .rename_i AG;simp only[At]at B_ C1;obtain⟨l,vs,rfl,AF,al⟩:=B_;refine⟨l,j,vs,rfl,C1,r.AV.sub _ _ AF,by omega,by omega,?_,λq Ab=>?_⟩
   .rw[<-al.length];have h1:j.toNat<=1000:=by omega
    exact EB (Nat.mul_le_mul AG.2.2 h1) (by decide)
   .refine k (.ref q) _ _ (r.lay Ab) (Bl.lay r.AV.sub Ab) ?_;simp only[At];exact⟨q,_,rfl,Du,(al.mono (Sub.upd (r.AV.sub.gone Ab))).rep j.toNat⟩
  .exact k.elim
 .exact k.elim
def ahh(A1:Ah X F a m)(J:Ah X F b n):Ah X F (.BinOp a .Mult b pos) (A9 WN m n):=⟨Nd acg abS A1.1 J.1⟩
def aco{i:Nat}{ρ:AH}{ds:List D}(h:ownAt i ρ=.ok ds):ρ[i]?=some (.DV ds):=by
 unfold ownAt at h
 split at h
 .rename_i e;cases h;exact e
 .cases h
def acn{i:Nat}{ρ:AH}{c:Str}(h:ownAt i ρ=.exc c):False:=by
 unfold ownAt at h
 split at h<;>cases h
end
end CP
namespace IS
open PySem PySem.SetTable
theorem d6(xs:Array Nat)(j:Nat)(hs:xs.toList.Pairwise (· <·)):∀fuel lo AC,AC<=lo+fuel->lo<=AC->AC<=xs.size->(∀k,k<lo->xs.getD k j<j)->(∀k,AC<=k->k<xs.size->j<=xs.getD k j)->
  below.go xs j fuel lo AC<=xs.size/\(∀k,k<below.go xs j fuel lo AC->xs.getD k j<j)/\(∀k,below.go xs j fuel lo AC<=k->k<xs.size->j<=xs.getD k j)
 |0,lo,AC,h1,h2,h3,h4,h5=>by
  have e:lo=AC:=by omega
  subst e;exact⟨h3,h4,h5⟩
 |fuel+1,lo,AC,h1,h2,h3,h4,h5=>by
  have mono:∀a b,a<=b->b<xs.size->xs.getD a j<=xs.getD b j:=by
   intro a b RW J;rcases UB RW with rfl|RW
   .exact CO _
   have:=List.pairwise_iff_getElem.mp hs a b (by simp;omega) (by simpa using J) RW;simp only[Array.getElem_toList]at this;rw[QF,QF,Om (by omega),Om J];exact Rv this
  unfold below.go;by_cases h:lo<AC
  .rw[if_pos h];dsimp only;by_cases q:xs.getD ((lo+AC)/2) j<j
   .rw[if_pos q];refine d6 xs j hs fuel _ AC (by omega) (by omega) h3 (λk AQ=>?_) h5;exact Nat.lt_of_le_of_lt (mono k ((lo+AC)/2) (by omega) (by omega)) q
   .rw[if_neg q];refine d6 xs j hs fuel lo _ (by omega) (by omega) (by omega) h4 λk AQ Ia=>?_;exact EB (Nat.not_lt.mp q) (mono _ k AQ Ia)
  .rw[if_neg h];have e:lo=AC:=by omega
   subst e;exact⟨h3,h4,h5⟩
def kN{xs:Array Nat}(hs:xs.toList.Pairwise (· <·))(j:Nat):below xs j<=xs.size/\(∀y∈xs.toList.take (below xs j),y<j)/\(∀y∈xs.toList.drop (below xs j),j<=y):=by
 obtain⟨a,b,c⟩:=d6 xs j hs xs.size 0 xs.size (by omega) (by omega) (CO _) (λk AQ=>absurd AQ (Nat.not_lt_zero _)) (λk h1 h2=>absurd h2 (by omega));refine⟨a,λy BO=>?_,λy BO=>?_⟩
 .obtain⟨k,AQ,rfl⟩:=QA BO;have L7:k<below xs j/\k<xs.size:=by simpa[NH,Nat.lt_min]using AQ
  have:=b k L7.1;rw[QF,Om L7.2]at this;simpa using this
 .obtain⟨k,AQ,rfl⟩:=QA BO;have L7:below xs j+k<xs.size:=by simp at AQ;omega
  have:=c (below xs j+k) (LX _ _) L7;rw[QF,Om L7]at this;simpa using this
def ZF{α:Type}(xs:Array α)(p:Nat)(x:α):(insertAt xs p x).toList=xs.toList.take p++x::xs.toList.drop p:=by unfold insertAt;simp[Array.toList_extract,sx];exact XU (by simp)
structure Tab(t:F9)(n:Nat):Prop where
 Vh:t.dummies= #[]
 MZ:t.place.size=n
 Tq:t.place.toList.Pairwise (· <·)
 le:∀j∈t.place.toList,j<=t.mask
def slot_of{t:F9}{n:Nat}(T:Tab t n)(j:Nat):(∃i,t.slot j=.live i/\t.place.toList[i]?=some j)\/(t.slot j=.empty/\j∉t.place.toList):=by
 obtain⟨a,b,c⟩:=kN T.Tq j;unfold slot;dsimp only;by_cases h:t.place[below t.place j]?=some j
 .left
  refine⟨below t.place j,?_,by simpa using h⟩;rw[h];simp
 .right
  constructor
  .have:(t.place[below t.place j]?==some j)=false:=by simpa using h
   rw[this,T.Vh];simp[has]
  .intro m;have D0:=m;rw[<-Rp (below t.place j) t.place.toList]at D0;rcases List.mem_append.mp D0 with D0|D0
   .exact absurd (b j D0) (Hv _)
   .cases hd:t.place.toList.drop (below t.place j)with
    |nil=>rw[hd]at D0;cases D0
    |cons y r=>
     have BO:t.place[below t.place j]?=some y:=by
      have:(t.place.toList.drop (below t.place j))[0]?=some y:=by rw[hd];rfl
      rw[Xq]at this;simpa using this
     have A6:=T.Tq;rw[<-Rp (below t.place j) t.place.toList,hd]at A6;have A6:=(List.pairwise_append.mp A6).2.1;rw[hd]at D0;rcases List.mem_cons.mp D0 with rfl|D0
     .exact h BO
     .have h1:=(List.pairwise_cons.mp A6).1 j D0;have h2:=c y (by rw[hd];simp);omega
def qf{t:F9}{n:Nat}(T:Tab t n){j:Nat}(m:j∈t.place.toList):∃i,t.slot j=.live i/\t.place.toList[i]?=some j:=by
 rcases slot_of T j with h|h
 .exact h
 .exact absurd m h.2
def afx{t:F9}{n:Nat}(T:Tab t n){j:Nat}(m:j∉t.place.toList):t.slot j=.empty:=by
 rcases slot_of T j with⟨i,h,e⟩|h
 .exact absurd (F8 e) m
 .exact h.1
def ads{t:F9}{n:Nat}(T:Tab t n){j:Nat}(m:j∉t.place.toList)(Bx:j<=t.mask):∃p,(t.put j).2=p/\p<=n/\Tab (t.put j).1 (n+1)/\(t.put j).1.place.toList=t.place.toList.take p++j::t.place.toList.drop p/\(t.put j).1={ t with place:=(t.put j).1.place }:=by
 obtain⟨a,b,c⟩:=kN T.Tq j;have e:(t.put j).1.place.toList=t.place.toList.take (below t.place j)++j::t.place.toList.drop (below t.place j):=by unfold put;exact ZF _ _ _
 have EC:(t.put j).1.dummies= #[]:=by unfold put;simp[has,T.Vh]
 have em:(t.put j).1.mask=t.mask:=rfl;refine⟨below t.place j,rfl,T.MZ▸a,⟨EC,?_,?_,?_⟩,e,?_⟩
 .have:(t.put j).1.place.toList.length=n+1:=by
    rw[e,HS,Eo,NH,Rl];have:=T.MZ;simp only[Kh];omega
  simpa using this
 .rw[e];have A6:=T.Tq;rw[<-Rp (below t.place j) t.place.toList]at A6;obtain⟨AE,B4,E2⟩:=List.pairwise_append.mp A6;refine List.pairwise_append.mpr ⟨AE,List.pairwise_cons.mpr ⟨λy BO=>?_,B4⟩,λx AA y BO=>?_⟩
  .rcases UB (c y BO)with q|q
   .exact absurd (q▸ih BO) m
   .exact q
  .rcases List.mem_cons.mp BO with rfl|BO
   .exact b x AA
   .exact E2 x AA y BO
 .intro y BO;rw[em];rw[e]at BO;rcases List.mem_append.mp BO with BO|BO
  .exact T.le y (Xh BO)
  .rcases List.mem_cons.mp BO with rfl|BO
   .exact Bx
   .exact T.le y (ih BO)
 .have eO:(t.put j).1.dummies=t.dummies:=EC.trans T.Vh.symm;show(t.put j).1=_;have:(t.put j).1={ t with place:=(t.put j).1.place,dummies:=(t.put j).1.dummies }:=rfl;rw[this,eO]
noncomputable def Ku(mask:Nat)(p:Probe):Probe:=
 if p.more>0 then{ p with j:=p.j+1,more:=p.more-1 }else
 { p with j:=(leap mask p.i p.perturb).1,more:=runEnd mask (leap mask p.i p.perturb).1-(leap mask p.i p.perturb).1,i:=(leap mask p.i p.perturb).1,perturb:=(leap mask p.i p.perturb).2 }
def kq(t:F9)(p:Probe):t.advance p=Ku t.mask p:=rfl
def pj(mask:Nat)(i q:Nat):Probe:={ j:=i,more:=runEnd mask i-i,i,perturb:=q,dummy:=none }
def CD(mask:Nat)(h:Int):Nat->Probe
 |0=>pj mask (bits h%(mask+1)) (bits h)
 |n+1=>Ku mask (CD mask h n)
def D7(mask:Nat)(h:Int):Nat->Nat×Nat
 |0=>(bits h%(mask+1),bits h)
 |n+1=>leap mask (D7 mask h n).1 (D7 mask h n).2
def Ec(mask i:Nat):Nat:=runEnd mask i-i
def B7(mask:Nat)(h:Int):Nat->Nat
 |0=>0
 |n+1=>B7 mask h n+Ec mask (D7 mask h n).1+1
def adZ(mask i:Nat):Ec mask i<=9:=by unfold Ec runEnd;split<;>omega
def gh(mask i:Nat):i<=runEnd mask i:=by unfold runEnd;split<;>omega
theorem rS(mask:Nat)(h:Int):∀n,B7 mask h n<=10*n
 |0=>CO _
 |n+1=>by have:=rS mask h n;have:=adZ mask (D7 mask h n).1;unfold B7;omega
def tx{mask i q r:Nat}(A6:r<Ec mask i):Ku mask { j:=i+r,more:=Ec mask i-r,i:=i,perturb:=q,dummy:=none }={ j:=i+(r+1),more:=Ec mask i-(r+1),i:=i,perturb:=q,dummy:=none }:=by unfold Ku;rw[if_pos (by show Ec mask i-r>0;omega)];simp only[Probe.mk.injEq];refine⟨by omega,by omega,trivial,trivial,trivial⟩
def tz{mask i q:Nat}:Ku mask { j:=i+Ec mask i,more:=Ec mask i-Ec mask i,i:=i,perturb:=q,dummy:=none }=pj mask (leap mask i q).1 (leap mask i q).2:=by unfold Ku;rw[if_neg (by show¬(Ec mask i-Ec mask i>0);omega)];rfl
theorem Sz(mask:Nat)(h:Int):∀L r,r<=Ec mask (D7 mask h L).1->CD mask h (B7 mask h L+r)={ j:=(D7 mask h L).1+r,more:=Ec mask (D7 mask h L).1-r,i:=(D7 mask h L).1,perturb:=(D7 mask h L).2,dummy:=none }
 |0,0,_=>rfl
 |L,r+1,A6=>by have:=Sz mask h L r (by omega);show Ku mask (CD mask h (B7 mask h L+r))=_;rw[this];exact tx (by omega)
 |L+1,0,_=>by have:=Sz mask h L (Ec mask (D7 mask h L).1) (CO _);show Ku mask (CD mask h (B7 mask h L+Ec mask (D7 mask h L).1))=_;rw[this,tz];rfl
def v0(h:Int):bits h<2^64:=by unfold bits;have:=Ru h (b:=2^64) (by decide);have:=QI h (b:=2^64) (by decide);omega
theorem oj(mask:Nat)(h:Int):∀n,(D7 mask h n).2=bits h/32^n
 |0=>by simp[D7]
 |n+1=>by show(D7 mask h n).2/32=_;rw[oj mask h n,Nat.div_div_eq_div_mul,Nat.pow_succ]
def ab3(mask:Nat)(h:Int)(n:Nat)(AU:13<=n):(D7 mask h n).2=0:=by
 rw[oj];apply Nat.div_eq_of_lt;have h1:=v0 h;have h2:32^13<=32^n:=Nat.pow_le_pow_right (by decide) AU;have h3:(2:Nat)^64<32^13:=by decide
 omega
def KO(mask:Nat):Nat->Nat->Nat
 |0,i=>i
 |n+1,i=>(KO mask n i*5+1)%(mask+1)
theorem oi(mask:Nat)(h:Int):∀m,(D7 mask h (13+m)).1=KO mask m (D7 mask h 13).1
 |0=>rfl
 |m+1=>by have e:(D7 mask h (13+(m+1))).2=0:=ab3 mask h _ (by omega);have AR:(D7 mask h (13+m)).2/32=0:=e;show((D7 mask h (13+m)).1*5+1+(D7 mask h (13+m)).2/32)%(mask+1)=_;rw[AR,oi mask h m];rfl
theorem aS(mask:Nat)(a:Nat):∀b i,KO mask (a+b) i=KO mask b (KO mask a i)
 |0,_=>rfl
 |b+1,i=>by show(KO mask (a+b) i*5+1)%(mask+1)=_;rw[aS mask a b i];rfl
def Zd(mask:Nat):Nat->Nat->List Nat
 |0,_=>[]
 |n+1,i=>i::Zd mask n ((i*5+1)%(mask+1))
theorem oZ(mask i:Nat):∀n,KO mask n ((i*5+1)%(mask+1))=KO mask (n+1) i
 |0=>rfl
 |n+1=>by show(KO mask n _*5+1)%_=_;rw[oZ mask i n];rfl
theorem fC(mask:Nat):∀n i j,j∈Zd mask n i->∃m,m<n/\KO mask m i=j
 |0,_,_,h=>by cases h
 |n+1,i,j,h=>by
  rcases List.mem_cons.mp h with rfl|h
  .exact⟨0,by omega,rfl⟩
  .obtain⟨m,h1,h2⟩:=fC mask n _ j h;exact⟨m+1,by omega,by rw[<-oZ];exact h2⟩
structure Gv(mask:Nat):Prop where
 all:∀j,j<=mask->j∈Zd mask (mask+1) 0
 back:KO mask (mask+1) 0=0
def Gv.reach{mask:Nat}(C:Gv mask){i j:Nat}(AC:i<=mask)(Bx:j<=mask):∃m,m<=mask/\KO mask m i=j:=by
 obtain⟨a,a1,a2⟩:=fC _ _ _ _ (C.all i AC);obtain⟨b,EE,DZ⟩:=fC _ _ _ _ (C.all j Bx);by_cases h:a<=b
 .refine⟨b-a,by omega,?_⟩;rw[<-a2,<-aS,show a+(b-a)=b by omega,DZ]
 .refine⟨mask+1-a+b,by omega,?_⟩;rw[<-a2,<-aS,show a+(mask+1-a+b)=(mask+1)+b by omega,aS,C.back,DZ]
def cf{mask:Nat}(h:(DT (mask+1)).all (λj=>(Zd mask (mask+1) 0).contains j)=true)(b:KO mask (mask+1) 0=0):Gv mask:=
 ⟨λj Bx=>by have:=List.all_eq_true.mp h j (List.mem_range.mpr (by omega));exact List.contains_iff_mem.mp this,b⟩
def lj:Gv 7:=cf (by decide+kernel) (by decide+kernel)
def li:Gv 31:=cf (by decide+kernel) (by decide+kernel)
def lh:Gv 127:=cf (by decide+kernel) (by decide+kernel)
def ft(mask:Nat)(h:Int):∀n,(D7 mask h n).1<=mask
 |0=>jB (Nat.mod_lt _ (by omega))
 |n+1=>jB (Nat.mod_lt _ (by omega))
def Gv.leap{mask:Nat}(C:Gv mask)(h:Int){j:Nat}(Bx:j<=mask):∃L,L<mask+15/\(D7 mask h L).1=j:=by obtain⟨m,h1,h2⟩:=C.reach (ft mask h 13) Bx;exact⟨13+m,by omega,by rw[oi];exact h2⟩
def Gv.cover{mask:Nat}(C:Gv mask)(h:Int){j:Nat}(Bx:j<=mask):∃n,n<10*turns mask/\(CD mask h n).j=j:=by
 obtain⟨L,h1,h2⟩:=C.leap h Bx;refine⟨B7 mask h L,?_,?_⟩
 .have:=rS mask h L;unfold turns;omega
 .have:=Sz mask h L 0 (Kk _);simp only[Nat.add_zero]at this;rw[this];exact h2
def x4{P:List Nat}{mask:Nat}(hs:P.Pairwise (· <·))(AU:P.length<=mask):∃j,j<=mask/\j∉P:=by
 apply QC;intro no;have all:∀j,j<=mask->j∈P:=λj Bx=>QC λz=>no ⟨j,Bx,z⟩;have B6:(DT (mask+1)).Nodup:=j3;have sub:∀x∈DT (mask+1),x∈P:=λx AA=>all x (by have:=List.mem_range.mp AA;omega);have key:∀(l:List Nat),l.Nodup->∀(P:List Nat),(∀x∈l,x∈P)->l.length<=P.length:=by
  intro l;induction l with
  |nil=>intro _ P _;simp
  |cons a r Br=>intro B6 P sub;obtain⟨DD,Ch⟩:=List.nodup_cons.mp B6;have A1:=sub a (by simp);have:=Br Ch (P.erase a) (λx AA=>(ii (by intro e;subst e;exact DD AA)).mpr (sub x (by simp[AA])));rw[iw A1]at this;have:0<P.length:=Rg A1;simp;omega
 have:=key _ B6 P sub;simp at this;omega
def least(p:Nat->Prop):(∃n,p n)->∃n,p n/\∀m,m<n->¬p m:=by
 rintro⟨n,h⟩;induction n using Nat.strongRecOn with
 |_ n Br=>
  by_cases q:∃m,m<n/\p m
  .obtain⟨m,m1,m2⟩:=q;exact Br m m1 m2
  .exact⟨n,h,λm hm Am=>q ⟨m,hm,Am⟩⟩
def Gv.first{mask:Nat}(C:Gv mask){P:List Nat}(hs:P.Pairwise (· <·))(AU:P.length<=mask)(h:Int):∃N,N<10*turns mask/\(CD mask h N).j∉P/\∀m,m<N->(CD mask h m).j∈P:=by obtain⟨j,Nq,J7⟩:=x4 hs AU;obtain⟨n,DD,Ch⟩:=C.cover h Nq;obtain⟨N,Yc,Uq⟩:=least (λn=>(CD mask h n).j∉P) ⟨n,by rw[Ch];exact J7⟩;refine⟨N,?_,Yc,λm hm=>QC (Uq m hm)⟩;have:¬n<N:=λz=>Uq n z (by rw[Ch];exact J7);omega
theorem oh(mask:Nat)(h:Int):∀n,(CD mask h n).dummy=none
 |0=>rfl
 |n+1=>by
  show(Ku mask (CD mask h n)).dummy=none;unfold Ku
  split<;>exact oh mask h n
def gi{mask i:Nat}(AC:i<=mask):runEnd mask i<=mask:=by unfold runEnd;split<;>omega
structure jh(mask:Nat)(p:Probe):Prop where
 i:p.i<=mask
 j:p.j+p.more<=mask
theorem pn(mask:Nat)(h:Int):∀n,jh mask (CD mask h n)
 |0=>by have:=ft mask h 0;have h2:=gi this;have h3:=gh mask (D7 mask h 0).1;exact⟨this,by show(D7 mask h 0).1+(runEnd mask (D7 mask h 0).1-(D7 mask h 0).1)<=mask;omega⟩
 |n+1=>by
  obtain⟨a,b⟩:=pn mask h n;show jh mask (Ku mask (CD mask h n));unfold Ku
  split
  .rename_i q;refine⟨a,?_⟩;show(CD mask h n).j+1+((CD mask h n).more-1)<=mask;omega
  .have h1:(jT mask (CD mask h n).i (CD mask h n).perturb).1<=mask:=jB (Nat.mod_lt _ (by omega));have h2:=gi h1;have h3:=gh mask (jT mask (CD mask h n).i (CD mask h n).perturb).1;refine⟨h1,?_⟩;show(jT mask (CD mask h n).i (CD mask h n).perturb).1+(runEnd mask _-_)<=mask;omega
def pk(mask:Nat)(h:Int)(n:Nat):(CD mask h n).j<=mask:=by have:=(pn mask h n).j;omega
section
variable{α:Type}
def HG(t:F9)(es:Array (Int×α))(j:Nat)(e:Int×α):Prop:=∃i:Nat,t.place.toList[i]?=some j/\es.toList[i]?=some e
structure GG(t:F9)(es:Array (Int×α)):Prop where
 tab:Tab t es.size
 kf:Gv t.mask
 room:es.size<=t.mask
 find:∀j e,HG t es j e->∃n,(CD t.mask e.1 n).j=j/\∀m,m<n->(CD t.mask e.1 m).j∈t.place.toList
def GG.len{t:F9}{es:Array (Int×α)}(I:GG t es):t.place.toList.length=es.size:=by simpa using I.tab.MZ
theorem GG.first{t:F9}{es:Array (Int×α)}(I:GG t es)(h:Int):∃N,N<10*turns t.mask/\(CD t.mask h N).j∉t.place.toList/\∀m,m<N->(CD t.mask h m).j∈t.place.toList:=
 I.kf.first I.tab.Tq (by rw[I.len];exact I.room) h
def GG.ent{t:F9}{es:Array (Int×α)}(I:GG t es){j i:Nat}(e:t.place.toList[i]?=some j):∃x,es.toList[i]?=some x:=by have:i<t.place.toList.length:=(List.getElem?_eq_some_iff.mp e).1;rw[I.len]at this;exact⟨_,Dw (by simpa using this)⟩
def pd{t:F9}{n:Nat}(T:Tab t n){i k j:Nat}(a:t.place.toList[i]?=some j)(b:t.place.toList[k]?=some j):i=k:=by
 obtain⟨a1,a2⟩:=List.getElem?_eq_some_iff.mp a;obtain⟨EE,DZ⟩:=List.getElem?_eq_some_iff.mp b;have r:=List.pairwise_iff_getElem.mp T.Tq;rcases Rj i k with h|h|h
 .have:=r i k a1 EE h;omega
 .exact h
 .have:=r k i EE a1 h;omega
def HG.inj{t:F9}{es:Array (Int×α)}{n:Nat}(T:Tab t n){j:Nat}{e Bw:Int×α}(a:HG t es j e)(b:HG t es j Bw):e=Bw:=by obtain⟨i,a1,a2⟩:=a;obtain⟨k,EE,DZ⟩:=b;have:=pd T a1 EE;subst this;rw[a2]at DZ;exact EH DZ
theorem pe{t:F9}{es:Array (Int×α)}(I:GG t es){f:Nat->Int}(hf:∀(i:Nat) e,es.toList[i]?=some e->f i=e.1)(h:Int){N:Nat}(h1:(CD t.mask h N).j∉t.place.toList)(h2:∀m,m<N->(CD t.mask h m).j∈t.place.toList) :
  ∀fuel n,n<=N->N-n<fuel->
  (probe.go t f h fuel (CD t.mask h n)=some (.empty (CD t.mask h N).j none)/\∀m,n<=m->m<N->∀e,HG t es (CD t.mask h m).j e->e.1≠h)\/
  (∃m i e,n<=m/\m<N/\t.place.toList[i]?=some (CD t.mask h m).j/\es.toList[i]?=some e/\e.1=h/\probe.go t f h fuel (CD t.mask h n)=some (.candidate (CD t.mask h m).j i (CD t.mask h (m+1)))/\∀D0,n<=D0->D0<m->∀e,HG t es (CD t.mask h D0).j e->e.1≠h)
 |0,n,_,aj0=>by omega
 |fuel+1,n,AU,Jr=>by
  unfold probe.go;by_cases q:n=N
  .subst q
   left
   rw[afx I.tab h1];dsimp only;rw[oh];exact⟨rfl,λm a b=>by omega⟩
  .obtain⟨i,s1,s2⟩:=qf I.tab (h2 n (by omega));obtain⟨x,AA⟩:=I.ent s2;rw[s1];dsimp only;by_cases w:x.1=h
   .right
    refine⟨n,i,x,CO _,by omega,s2,AA,w,?_,λD0 a b=>by omega⟩;rw[if_pos (by rw[hf i x AA,w];simp),kq];rfl
   .rw[if_neg (by rw[hf i x AA];simpa using w),kq];have no:∀e,HG t es (CD t.mask h n).j e->e.1≠h:=λe he=>by
     rw[HG.inj I.tab he ⟨i,s2,AA⟩];exact w
    rcases pe I hf h h1 h2 fuel (n+1) (by omega) (by omega)with⟨a,b⟩|⟨m,Ym,e,a1,a2,Dp,FM,HI,Jn,cC⟩
    .refine .inl ⟨a,λm c d=>?_⟩;rcases UB c with rfl|c
     .exact no
     .exact b m c d
    .refine .inr ⟨m,Ym,e,by omega,a2,Dp,FM,HI,Jn,λD0 c d=>?_⟩;rcases UB c with rfl|c
     .exact no
     .exact cC D0 c d
def vk{t t':F9}{es:Array (Int×α)}(AF:t.place.toList.length=es.size){j p:Nat}{e:Int×α}(Am:p<=es.size)(DK:t'.place.toList=t.place.toList.take p++j::t.place.toList.drop p){M7:Nat}{Bw:Int×α}(h:HG t' (insertAt es p e) M7 Bw):(M7=j/\Bw=e)\/HG t es M7 Bw:=by
 obtain⟨i,a,b⟩:=h;rw[DK]at a;rw[ZF]at b;have Dq:(t.place.toList.take p).length=p:=by rw[NH,AF];omega
 have BR:(es.toList.take p).length=p:=by rw[NH,Kh];omega
 rcases Rj i p with q|q|q
 .right
  rw[Hs (by omega),XQ q]at a;rw[Hs (by omega),XQ q]at b;exact⟨i,a,b⟩
 .left
  subst q;rw[HA (by omega),Dq,jd]at a;rw[HA (by omega),BR,jd]at b;simp at a b;exact⟨a.symm,b.symm⟩
 .right
  obtain⟨k,rfl⟩:∃k,i=p+1+k:=⟨i-p-1,by omega⟩;rw[HA (by omega),Dq,show p+1+k-p=k+1 by omega,XS,Xq]at a;rw[HA (by omega),BR,show p+1+k-p=k+1 by omega,XS,Xq]at b;exact⟨p+k,a,b⟩
theorem GG.put{t:F9}{es:Array (Int×α)}(I:GG t es){h:Int}{x:α}{N:Nat}(h1:(CD t.mask h N).j∉t.place.toList)(h2:∀m,m<N->(CD t.mask h m).j∈t.place.toList)(A6:es.size+1<=t.mask) :
  GG (t.put (CD t.mask h N).j).1 (insertAt es (t.put (CD t.mask h N).j).2 (h,x))/\(t.put (CD t.mask h N).j).2<=es.size/\(insertAt es (t.put (CD t.mask h N).j).2 (h,x)).size=es.size+1:=by
 obtain⟨p,Dd,Cd,Uu,DK,_⟩:=ads I.tab h1 (pk _ _ _);have hsz:(insertAt es p (h,x)).size=es.size+1:=by
  have:(insertAt es p (h,x)).toList.length=es.size+1:=by rw[ZF,HS,Eo,NH,Rl,Kh];omega
  simpa using this
 rw[Dd];have Mn:∀y∈t.place.toList,y∈(t.put (CD t.mask h N).j).1.place.toList:=λy BO=>by
  rw[DK];rw[<-Rp p t.place.toList]at BO;rcases List.mem_append.mp BO with BO|BO
  .exact Oh _ BO
  .exact Io _ (En _ BO)
 refine⟨⟨by rw[hsz];exact Uu,I.kf,by rw[hsz];exact A6,λj e he=>?_⟩,Cd,hsz⟩;rcases vk I.len Cd DK he with⟨rfl,rfl⟩|he
 .exact⟨N,rfl,λm hm=>Mn _ (h2 m hm)⟩
 .obtain⟨n,DD,Ch⟩:=I.find j e he;exact⟨n,DD,λm hm=>Mn _ (Ch m hm)⟩
end
theorem rJ(mask:Nat)(h:Int):∀L m,m<B7 mask h L->∃G2 r,G2<L/\r<=Ec mask (D7 mask h G2).1/\m=B7 mask h G2+r
 |0,m,hm=>by simp[B7]at hm
 |L+1,m,hm=>by
  by_cases q:m<B7 mask h L
  .obtain⟨G2,r,a,b,c⟩:=rJ mask h L m q;exact⟨G2,r,by omega,b,c⟩
  .unfold B7 at hm;exact⟨L,m-B7 mask h L,by omega,by omega,by omega⟩
structure Own(M:Nat)(owner:Array (Option Nat))(a:List Nat):Prop where
 MZ:owner.size=M+1
 B6:a.Nodup
 le:∀j∈a,j<=M
 of:∀j k:Nat,owner[j]?=some (some k)↔a[k]?=some j
def Own.free{M:Nat}{owner:Array (Option Nat)}{a:List Nat}(O:Own M owner a){j:Nat}(Bx:j<=M):(owner.getD j (some 0)).isNone=true↔j∉a:=by
 have hs:j<owner.size:=by have:=O.MZ;omega
 rw[QF,Om hs];constructor
 .intro h m;obtain⟨k,AQ,rfl⟩:=QA m;have:=(O.of _ k).mpr (Dw AQ);rw[Om hs]at this;simp only[Rm]at h;rw[EH this]at h;cases h
 .intro h;simp only[Rm];cases e:owner[j]with
  |none=>rfl
  |some k=>exfalso;have:=(O.of j k).mp (by rw[Om hs,e]);exact h (F8 this)
theorem mA{M:Nat}{owner:Array (Option Nat)}{a:List Nat}(O:Own M owner a)(h:Int):∀fuel L,(∃O7,L<=O7/\O7<L+fuel/\(D7 M h O7).1∉a)->
  ∃G2 k,layClean.free M owner fuel (D7 M h L).1 (D7 M h L).2=some ((D7 M h G2).1+k)/\k<=Ec M (D7 M h G2).1/\(D7 M h G2).1+k∉a/\L<=G2/\(∀N9,L<=N9->N9<G2->∀r,r<=Ec M (D7 M h N9).1->(D7 M h N9).1+r∈a)/\∀r,r<k->(D7 M h G2).1+r∈a
 |0,L,⟨O7,h1,h2,_⟩=>by omega
 |fuel+1,L,⟨O7,h1,h2,h3⟩=>by
  unfold layClean.free;have hle:=ft M h L;have aiL:=gi hle;have aiC:=gh M (D7 M h L).1;cases hf:(DT (runEnd M (D7 M h L).1+1-(D7 M h L).1)).find? λk=>(owner.getD ((D7 M h L).1+k) (some 0)).isNone with
  |some k=>
   dsimp only;obtain⟨Aa,as,bs,B0,E1⟩:=List.find?_eq_some_iff_append.mp hf;have AQ:k∈DT (runEnd M (D7 M h L).1+1-(D7 M h L).1):=by rw[B0];simp
   have AQ:=List.mem_range.mp AQ;refine⟨L,k,rfl,by unfold Ec;omega,(O.free (by omega)).mp Aa,CO _,λN9 c d=>by omega,λr A6=>?_⟩;have:r∈as:=by
    have GX:as.length=k:=by
     have:=congrArg (·[as.length]?) B0;simp only[HA (CO _),jd,List.getElem?_cons_zero]at this;have l:as.length<runEnd M (D7 M h L).1+1-(D7 M h L).1:=by have:=congrArg List.length B0;simp at this;omega
     rw[UF l]at this;exact EH this
    have:=congrArg (·[r]?) B0;rw[Hs (by omega),UF (by omega)]at this;exact F8 this.symm
   have no:=E1 r this;apply QC;intro z;rw[(O.free (by omega)).mpr z]at no;simp at no
  |none=>
   dsimp only;have all:∀r,r<=Ec M (D7 M h L).1->(D7 M h L).1+r∈a:=λr A6=>by have:=List.find?_eq_none.mp hf r (List.mem_range.mpr (by unfold Ec at A6;omega));apply QC;intro z;exact this ((O.free (by unfold Ec at A6;omega)).mpr z)
   have ne:L≠O7:=by rintro rfl;exact h3 (by simpa using all 0 (Kk _))
   obtain⟨G2,k,a1,a2,Dp,FM,HI,Jn⟩:=mA O h fuel (L+1) ⟨O7,by omega,by omega,h3⟩;refine⟨G2,k,a1,a2,Dp,by omega,λN9 c d=>?_,Jn⟩;rcases UB c with rfl|c
   .exact all
   .exact HI N9 c d
def x5{M:Nat}(C:Gv M){owner:Array (Option Nat)}{a:List Nat}(O:Own M owner a)(AF:a.length<=M)(h:Int):∃N,layClean.free M owner (turns M) (bits h%(M+1)) (bits h)=some (CD M h N).j/\(CD M h N).j∉a/\∀m,m<N->(CD M h m).j∈a:=by
 have:∃j,j<=M/\j∉a:=by
  apply QC;intro no;have all:∀j,j<=M->j∈a:=λj Bx=>QC λz=>no ⟨j,Bx,z⟩;have key:∀(l:List Nat),l.Nodup->∀(P:List Nat),(∀x∈l,x∈P)->l.length<=P.length:=by
   intro l;induction l with
   |nil=>intro _ P _;simp
   |cons a r Br=>intro B6 P sub;obtain⟨DD,Ch⟩:=List.nodup_cons.mp B6;have A1:=sub a (by simp);have:=Br Ch (P.erase a) (λx AA=>(ii (by intro e;subst e;exact DD AA)).mpr (sub x (by simp[AA])));rw[iw A1]at this;have:0<P.length:=Rg A1;simp;omega
  have:=key (DT (M+1)) j3 a (λx AA=>all x (by have:=List.mem_range.mp AA;omega));simp at this;omega
 obtain⟨j,Nq,J7⟩:=this;obtain⟨O7,Dq,BR⟩:=C.leap h Nq;obtain⟨G2,k,a1,a2,Dp,FM,HI,Jn⟩:=mA O h (turns M) 0 ⟨O7,Kk _,by unfold turns;omega,by rw[BR];exact J7⟩;have e:=Sz M h G2 k a2;refine⟨B7 M h G2+k,by rw[e];exact a1,by rw[e];exact Dp,λm hm=>?_⟩;by_cases q:m<B7 M h G2
 .obtain⟨N9,r,EE,DZ,Kv⟩:=rJ M h G2 m q;rw[Kv,Sz M h N9 r DZ];exact HI N9 (Kk _) EE r DZ
 .obtain⟨r,rfl⟩:∃r,m=B7 M h G2+r:=⟨m-B7 M h G2,by omega⟩;rw[Sz M h G2 r (by omega)];exact Jn r (by omega)
noncomputable def bf(M:Nat)(acc:Option (Array (Option Nat)×Nat))(h:Int):Option (Array (Option Nat)×Nat):=do
 let(owner,k) <-acc
 let j <-layClean.free M owner (turns M) (bits h%(M+1)) (bits h)
 pure (owner.setIfInBounds j (some k),k+1)
def aau(M:Nat)(hs:Array Int):layClean M hs=(hs.toList.foldl (bf M) (some (Array.replicate (M+1) none,0))).map (·.1):=by unfold layClean;rw[<-Array.foldl_toList];rfl
structure Laid(M:Nat)(hs:List Int)(a:List Nat):Prop where
 len:a.length=hs.length
 find:∀(k:Nat) j h,a[k]?=some j->hs[k]?=some h->∃n,(CD M h n).j=j/\∀m,m<n->(CD M h m).j∈a
def Own.add{M:Nat}{owner:Array (Option Nat)}{a:List Nat}(O:Own M owner a){j:Nat}(Bx:j<=M)(AU:j∉a):Own M (owner.setIfInBounds j (some a.length)) (a++[j]):=by
 have hs:j<owner.size:=by have:=O.MZ;omega
 refine⟨by simp[O.MZ],?_,?_,λi k=>?_⟩
 .refine List.nodup_append.mpr ⟨O.B6,by simp,λx AA y BO=>?_⟩;simp at BO;subst BO;intro e;subst e;exact AU AA
 .intro i AC;rcases List.mem_append.mp AC with AC|AC
  .exact O.le i AC
  .simp at AC;omega
 .rw[Array.getElem?_setIfInBounds];by_cases q:j=i
  .subst q;rw[if_pos rfl,if_pos hs];constructor
   .intro e;have e:=EH (EH e);subst e;rw[HA (CO _)];simp
   .intro e;rcases Rj k a.length with w|w|w
    .rw[Hs w]at e;exact absurd (F8 e) AU
    .rw[w]
    .rw[UE (by simp;omega)]at e;cases e
  .rw[if_neg q,O.of i k];rcases Rj k a.length with w|w|w
   .rw[Hs w]
   .subst w;rw[HA (CO _),UE (CO _)];simp;exact q
   .rw[UE (by omega),UE (by simp;omega)]
theorem mj{M:Nat}(C:Gv M):∀(hs done:List Int)(owner:Array (Option Nat))(a:List Nat),Own M owner a->Laid M done a->done.length+hs.length<=M->
  ∃Zf K0,hs.foldl (bf M) (some (owner,a.length))=some (Zf,K0.length)/\Own M Zf K0/\Laid M (done++hs) K0
 |[],done,owner,a,O,L,_=>⟨owner,a,rfl,O,by simpa using L⟩
 |h::hs,done,owner,a,O,L,AF=>by
  simp only[Eo]at AF;obtain⟨N,f1,f2,F3⟩:=x5 C O (by rw[L.len];omega) h;have Ur:=O.add (pk M h N) f2;have G2:Laid M (done++[h]) (a++[(CD M h N).j]):=by
   refine⟨by simp[L.len],λk j g h1 h2=>?_⟩;rcases Rj k a.length with w|w|w
   .rw[Hs w]at h1;rw[Hs (by rw[<-L.len];exact w)]at h2;obtain⟨n,DD,Ch⟩:=L.find k j g h1 h2;exact⟨n,DD,λm hm=>Oh _ (Ch m hm)⟩
   .subst w;rw[HA (CO _)]at h1;rw[L.len,HA (CO _)]at h2;simp at h1 h2;subst h1;subst h2;exact⟨N,rfl,λm hm=>Oh _ (F3 m hm)⟩
   .rw[UE (by simp;omega)]at h1;cases h1
  have step:bf M (some (owner,a.length)) h=some (owner.setIfInBounds (CD M h N).j (some a.length),(a++[(CD M h N).j]).length):=by unfold bf;simp only[Option.bind_eq_bind,Option.bind_some,f1];simp
  obtain⟨Zf,K0,AE,B4,E2⟩:=mj C hs (done++[h]) _ _ Ur G2 (by simp;omega);refine⟨Zf,K0,?_,B4,by simpa using E2⟩;rw[Y0,step];exact AE
def aav{M:Nat}(C:Gv M){hs:Array Int}(AF:hs.size<=M):∃owner a,layClean M hs=some owner/\Own M owner a/\Laid M hs.toList a:=by
 have O:Own M (Array.replicate (M+1) none) []:=⟨by simp,by simp,by simp,λj k=>by
  rw[Array.getElem?_replicate]
  split<;>simp⟩
 obtain⟨owner,a,AE,B4,E2⟩:=mj C hs.toList [] _ [] O ⟨rfl,by simp⟩ (by simpa using AF);refine⟨owner,a,?_,B4,by simpa using E2⟩;rw[aau];have:(List.length ([]:List Nat))=0:=rfl;rw[this]at AE;rw[AE];rfl
def oS{l P:List Nat}(B6:l.Nodup)(sub:∀x∈l,x∈P):l.length<=P.length:=by
 induction l generalizing P with
 |nil=>simp
 |cons a r Br=>obtain⟨DD,Ch⟩:=List.nodup_cons.mp B6;have A1:=sub a (by simp);have:=Br Ch (P:=P.erase a) (λx AA=>(ii (by intro e;subst e;exact DD AA)).mpr (sub x (by simp[AA])));rw[iw A1]at this;have:0<P.length:=Rg A1;simp;omega
section
variable{α:Type}
theorem filterMap_get{es:List α}:∀{l:List Nat},(∀k∈l,k<es.length)->(l.filterMap (es[·]?)).length=l.length/\∀(i:Nat) e,(l.filterMap (es[·]?))[i]?=some e->∃k,l[i]?=some k/\es[k]?=some e
 |[],_=>⟨rfl,λi e h=>by simp at h⟩
 |k::l,AQ=>by
  have wN:k<es.length:=AQ k (by simp);have h0:es[k]?=some es[k]:=Dw wN;obtain⟨a,b⟩:=filterMap_get (es:=es) (l:=l) λx AA=>AQ x (by simp[AA]);rw[Q9,h0];refine⟨by simp[a],λi e h=>?_⟩;cases i with
  |zero=>simp at h;exact⟨k,rfl,by rw[h0,h]⟩
  |succ i=>simpa using b i e (by simpa using h)
def aap{M:Nat}(C:Gv M){es:Array (Int×α)}(AF:es.size<=M)(finger moves:Nat)(led plain:Bool) :
  ∃t' order,laid M finger moves led plain (es.map (·.1))=some (t',order)/\t'.mask=M/\t'.led=led/\t'.plain=plain/\t'.moves=moves/\t'.dummies= #[]/\
   (order.filterMap (es[·]?)).size=es.size/\GG t' (order.filterMap (es[·]?))/\∀e,e∈(order.filterMap (es[·]?)).toList↔e∈es.toList:=by
 obtain⟨owner,a,BP,O,L⟩:=aav C (hs:=es.map (·.1)) (by simpa using AF);have ab0:a.length=es.size:=by rw[L.len];simp
 have abG:∀j,j<=M->∃x,owner[j]?=some x:=λj Bx=>⟨_,Om (by have:=O.MZ;omega)⟩;obtain⟨live,eP⟩:∃live,live=(DT (M+1)).filterMap λj=>(owner.getD j none).map (j,·):=⟨_,rfl⟩;have mem:∀j k,(j,k)∈live↔a[k]?=some j:=by
  intro j k;rw[eP,List.mem_filterMap];constructor
  .rintro⟨i,AC,e⟩;obtain⟨x,AA⟩:=abG i (by have:=List.mem_range.mp AC;omega);rw[QF,AA,Rm]at e;cases x with
   |none=>cases e
   |some y=>simp at e;obtain⟨rfl,rfl⟩:=e;exact(O.of _ _).mp AA
  .intro e;have Bx:=O.le j (F8 e);refine⟨j,List.mem_range.mpr (by omega),?_⟩;rw[QF,(O.of j k).mpr e];rfl
 have rise:(live.map (·.1)).Pairwise (· <·):=by
  rw[eP,List.pairwise_map];refine List.Pairwise.filterMap _ (R:=(· <·)) ?_ (by simpa using List.pairwise_lt_range);intro i Ym wK b J FN Nl;cases q:owner.getD i none with
  |none=>rw[q]at J;simp at J
  |some y=>
   cases Cr:owner.getD Ym none with
   |none=>rw[Cr]at Nl;simp at Nl
   |some Wt=>rw[q]at J;rw[Cr]at Nl;simp at J Nl;subst J;subst Nl;exact wK
 have aaG:(live.map (·.1)).Nodup:=rise.imp (λh=>Em h);have Nv:live.length=es.size:=by
  apply Nat.le_antisymm
  .have:=oS aaG (P:=a) (λx AA=>by
     obtain⟨p,Dd,rfl⟩:=List.mem_map.mp AA;exact F8 ((mem p.1 p.2).mp Dd))
   simp at this;omega
  .have:=oS O.B6 (P:=live.map (·.1)) (λx AA=>by
     obtain⟨k,AQ,rfl⟩:=QA AA;exact List.mem_map.mpr ⟨(a[k],k),(mem _ _).mpr (Dw AQ),rfl⟩)
   simp at this;omega
 have aci:∀k∈live.map (·.2),k<es.toList.length:=λk AQ=>by obtain⟨p,Dd,rfl⟩:=List.mem_map.mp AQ;have:=(List.getElem?_eq_some_iff.mp ((mem p.1 p.2).mp Dd)).1;simp;omega
 have ed:((live.map (·.2)).toArray.filterMap (es[·]?)).toList=(live.map (·.2)).filterMap (es.toList[·]?):=by rw[Array.toList_filterMap];simp
 obtain⟨g1,g2⟩:=filterMap_get aci;have hsz:((live.map (·.2)).toArray.filterMap (es[·]?)).size=es.size:=by
  have:((live.map (·.2)).toArray.filterMap (es[·]?)).toList.length=es.size:=by rw[ed,g1];simp[Nv]
  simpa using this
 refine⟨_,_,by
  unfold laid;rw[BP];show some _=_;rw[<-eP],rfl,rfl,rfl,rfl,rfl,hsz,⟨⟨rfl,?_,?_,?_⟩,C,by rw[hsz];exact AF,?_⟩,λe=>?_⟩
 .rw[hsz];simp[Nv]
 .simpa using rise
 .intro j Bx;have Bx:j∈live.map (·.1):=by simpa using Bx
  obtain⟨p,Dd,rfl⟩:=List.mem_map.mp Bx;exact O.le _ (F8 ((mem p.1 p.2).mp Dd))
 .rintro j e ⟨i,h1,h2⟩;have h1:(live.map (·.1))[i]?=some j:=by simpa using h1
  rw[ed]at h2;obtain⟨k,k1,k2⟩:=g2 i e h2;have AQ:live[i]?=some (j,k):=by
   rw[Fl]at h1 k1;cases q:live[i]? with
   |none=>rw[q]at h1;cases h1
   |some p=>rw[q]at h1 k1;simp at h1 k1;rw[<-h1,<-k1]
  have AQ:=(mem j k).mp (F8 AQ);obtain⟨n,DD,Ch⟩:=L.find k j e.1 AQ (by simp at k2 |-;exact⟨_,k2⟩);refine⟨n,DD,λm hm=>?_⟩;have:=Ch m hm;obtain⟨k',L7,Bw⟩:=QA this;have:(CD M e.1 m).j∈live.map (·.1):=List.mem_map.mpr ⟨((CD M e.1 m).j,k'),(mem _ _).mpr (by rw[<-Bw];exact Dw L7),rfl⟩;simpa using this
 .rw[ed,List.mem_filterMap];constructor
  .rintro⟨k,_,q⟩;exact F8 q
  .intro q;obtain⟨k,AQ,rfl⟩:=QA q;refine⟨k,?_,Dw AQ⟩;have wO:k<a.length:=by rw[ab0];simpa using AQ
   exact List.mem_map.mpr ⟨(a[k],k),(mem _ _).mpr (Dw wO),rfl⟩
end
section
variable{prog:Bt}{w:Bg}{A:C3}{E:A4->AL->Prop}{s:AL}{K:Type}[DecidableEq K]{knd:KeyKind prog w K}
def oU{A_:List K}{a:A3}{n:Nat}{Q:Bool->AL->Prop}(AQ:Ga knd s.heap A_ a)(h:Q false s):An (BA prog w) A (Xd (n+1) (.ref a)) Q E s:=by
 have F4:=AQ.typeIs;obtain⟨o,items,m,AN,_,hd,AC⟩:=AQ;unfold Xd;refine Az (wpAny_typeOf F4 ?_);dsimp only;rw[if_pos (by rfl)];refine Az (CK ?_);simp only[UP,JM,if_false];refine Az (MS AN hd ?_);dsimp only;refine Az ?_;rw[<-Array.forIn_toList];refine j4 _ (λrest r s'=>r.1=none/\s'=s/\∀v∈rest,UK v=true) _ ?_ ?_ _ _ ⟨rfl,rfl,AC.byValue⟩
 .rintro v rest r s' ⟨A6,rfl,al⟩;have e:Xd n v=pure false:=by
   have:=al v IM;cases v<;>first|(simp[UK]at this;done)|(unfold Xd;rfl)
  rw[e];refine Az (CK ?_);simp only[JM,if_false];exact CK ⟨rfl,rfl,λu BX=>al u (En _ BX)⟩
 .rintro⟨AE,B4⟩ s' ⟨A6,rfl,_⟩;simp only at A6;subst A6;exact CK h
theorem vD{A_:List K}{a:A3}{Q:Bool->AL->Prop}(AQ:Ga knd s.heap A_ a)(h:∀b,Q b s):An (BA prog w) A (Y8 8 (.ref a)) Q E s:=by
 have F4:=AQ.typeIs;obtain⟨o,items,m,AN,_,hd,AC⟩:=AQ;unfold Y8;refine Az (jX F4 F.slot_tuple_hash.lookup ?_);dsimp only;refine Az (MS AN hd ?_);simp only[Rm];refine Az ?_;rw[<-Array.forIn_toList];refine j4 _ (λrest r s'=>r.1=none/\s'=s/\∀v∈rest,UK v=true) _ ?_ ?_ _ _ ⟨rfl,rfl,AC.byValue⟩
 .rintro v rest r s' ⟨A6,rfl,al⟩;have e:∃b,Y8 7 v=pure b:=by
   have:=al v IM;cases v<;>first|(simp[UK]at this;done)|(unfold Y8;exact⟨_,rfl⟩)
  obtain⟨b,e⟩:=e;rw[e];refine Az (CK ?_);cases b with
  |true=>exact CK ⟨rfl,rfl,λu BX=>al u (En _ BX)⟩
  |false=>exact CK (CK (h _))
 .rintro⟨AE,B4⟩ s' ⟨A6,rfl,_⟩;simp only at A6;subst A6;exact CK (h _)
structure Ui(knd:KeyKind prog w K)(h:B1)(es:List (Int×A4)):Prop where
 el:∀e∈es,∃A_ b,e.2=.ref b/\Ga knd h A_ b/\e.1=EP knd A_
def YX(knd:KeyKind prog w K)(h:B1)(es:List (Int×A4))(A_:List K):Prop:=∃e∈es,∃b,e.2=.ref b/\Ga knd h A_ b
def abq{A_:List K}{x:A3}(AA:Ga knd s.heap A_ x):∀(l:List A4),(∀y∈l,∃MA b,y=.ref b/\Ga knd s.heap MA b)->∀{Q:Bool->AL->Prop},Q false s->An (BA prog w) A (searchCouldBeSeen (.ref x) l) Q E s:=by
 intro l AF Q h;unfold searchCouldBeSeen;refine Az ?_;refine j4 _ (λrest r s'=>r.1=none/\s'=s/\∀y∈rest,∃MA b,y=.ref b/\Ga knd s.heap MA b) _ ?_ ?_ _ _ ⟨rfl,rfl,AF⟩
 .rintro v rest r s' ⟨A6,rfl,al⟩;obtain⟨MA,b,rfl,J⟩:=al v IM;have kr:=λu(BX:u∈rest)=>al u (En _ BX);dsimp only;by_cases q:(x==b)=true
  .rw[if_pos (by simp[q])];exact CK ⟨rfl,rfl,kr⟩
  .rw[if_neg (by simp[UK];simpa using q)];refine Az (wpAny_eqIsQuiet_tuple AA ?_);simp only[UP,JM,if_false];refine Az (wpAny_eqIsQuiet_tuple J ?_);simp only[UP,JM,if_false];refine Az (oU AA ?_);simp only[JM,if_false];refine Az (oU J ?_);simp only[JM,if_false];exact CK ⟨rfl,rfl,kr⟩
 .rintro⟨AE,B4⟩ s' ⟨A6,rfl,_⟩;simp only at A6;subst A6;exact CK h
end
section
variable{prog:Bt}{w:Bg}{A:C3}{E:A4->AL->Prop}{s:AL}{K:Type}[DecidableEq K]{knd:KeyKind prog w K}
def Ui.at{h:B1}{t:F9}{es:Array (Int×A4)}(X:Ui knd h es.toList){j:Nat}{e:Int×A4}(q:HG t es j e):∃A_ b,e.2=.ref b/\Ga knd h A_ b/\e.1=EP knd A_:=by obtain⟨i,_,q⟩:=q;exact X.el e (F8 q)
theorem GG.fits{t:F9}{es:Array (Int×A4)}(I:GG t es):t.fits es.size=true:=by unfold SetTable.fits SetTable.fill;rw[I.tab.Vh,I.tab.MZ];have:=I.room;simp;omega
def GG.mem{t:F9}{es:Array (Int×A4)}(I:GG t es){e:Int×A4}(m:e∈es.toList):∃j,HG t es j e:=by
 obtain⟨i,AC,rfl⟩:=QA m;have:i<t.place.toList.length:=by rw[I.len];simpa using AC
 exact⟨_,i,Dw this,Dw AC⟩
theorem HG.place{t:F9}{es:Array (Int×A4)}{j:Nat}{e:Int×A4}(q:HG t es j e):j∈t.place.toList:=by obtain⟨i,q,_⟩:=q;exact F8 q
def GG.abZ{t:F9}{es:Array (Int×A4)}(I:GG t es)(X:Ui knd s.heap es.toList){A_:List K}{N:Nat}(h1:(CD t.mask (EP knd A_) N).j∉t.place.toList)(BN:YX knd s.heap es.toList A_) :
  ∃m e b,m<N/\HG t es (CD t.mask (EP knd A_) m).j e/\e.1=EP knd A_/\e.2=.ref b/\Ga knd s.heap A_ b:=by
 obtain⟨e,me,b,BC,H7⟩:=BN;obtain⟨j,q⟩:=I.mem me;obtain⟨MA,FN,AD,k1,AR⟩:=X.el e me;rw[BC]at AD;cases AD;have:=H7.inj k1;subst this;obtain⟨n,DD,Ch⟩:=I.find j e q;rw[AR]at DD Ch;refine⟨n,e,b,?_,by rw[DD];exact q,AR,BC,H7⟩;rcases Rj n N with z|z|z
 .exact z
 .subst z;exact absurd (by rw[DD];exact q.place) h1
 .exact absurd (Ch N z) h1
theorem rI{a x:A3}{o:Obj}{C5:Nat}{t:F9}{es:Array (Int×A4)}{A_:List K}(BX:A.units<E4)(AN:s.heap.get? a=some o)(hd:o.data=.set es C5 t)(I:GG t es)(X:Ui knd s.heap es.toList)(AA:Ga knd s.heap A_ x)(aD:t.mask%2=1){N:Nat}(Bs:N<10*turns t.mask)(h1:(CD t.mask (EP knd A_) N).j∉t.place.toList)(h2:∀m,m<N->(CD t.mask (EP knd A_) m).j∈t.place.toList){Q:SetFound->AL->Prop}(yes:YX knd s.heap es.toList A_->Q (.there none) s)(no:¬YX knd s.heap es.toList A_->Q (.free (CD t.mask (EP knd A_) N).j false) s) :
  ∀(fuel n:Nat)(st:Option Probe),n<=N->N-n<fuel->st.getD (t.probeStart (EP knd A_))=CD t.mask (EP knd A_) n->
   (∀m,m<n->∀e,HG t es (CD t.mask (EP knd A_) m).j e->∀b,e.2=.ref b->¬Ga knd s.heap A_ b)->
   An (BA prog w) A (setSearchFrom a (.ref x) (EP knd A_) true fuel st) Q E s
 |0,n,_,_,z,_,_=>by omega
 |fuel+1,n,st,AU,hf,ES,Ml=>by
  unfold setSearchFrom;refine Az (UG AN hd I.fits ?_);dsimp only;rw[if_neg (by unfold SetTable.gaveWay;simp[aD])];rw[ES];unfold SetTable.probe;have G:=pe I (f:=λi=>(es[i]?.map (·.1)).getD 0) (λi e q=>by simp at q;simp[q]) (EP knd A_) h1 h2 (10*turns t.mask) n AU (by omega);generalize BL:probe.go t _ (EP knd A_) (10*turns t.mask) (CD t.mask (EP knd A_) n)=z;rcases G with⟨g,g2⟩|⟨m,i,e,m1,m2,f5,f6,ai3,g,g2⟩
  .have g:=BL.symm.trans g;subst g;dsimp only;refine CK (no λBN=>?_);obtain⟨m,e,b,m1,q,B0,E1,KX⟩:=I.abZ X h1 BN;by_cases z:m<n
   .exact Ml m z e q b E1 KX
   .exact g2 m (by omega) m1 e q B0
  .have g:=BL.symm.trans g;subst g;dsimp only;have Sf:HG t es (CD t.mask (EP knd A_) m).j e:=⟨i,f5,f6⟩;obtain⟨MA,b,BC,H7,_⟩:=X.at Sf;have IY:es[i]?=some (e.1,.ref b):=by
    have:es[i]?=some e:=by simpa using f6
    rw[this,<-BC]
   have CJ:t.slot (CD t.mask (EP knd A_) m).j=.live i:=by obtain⟨Ym,s1,s2⟩:=qf I.tab (F8 f5);rw[s1,pd I.tab s2 f5]
   have seen:∀y∈(Array.filter (λz:Int×A4=>z.1==EP knd A_) es).toList.map (·.2),∃MA b,y=.ref b/\Ga knd s.heap MA b:=λy BO=>by
    obtain⟨e,he,rfl⟩:=List.mem_map.mp BO;have he:e∈es.toList:=by simp at he;simpa using he.1
    obtain⟨k2,DZ,BP,Ce,ER⟩:=X.el e he;exact⟨k2,DZ,BP,Ce⟩
   cases AF:t.led
   all_goals first
    |rw[if_neg (show¬((!true)=true)by simp)]
    |(rw[if_pos (show(!false)=true from rfl)];refine Az (abq AA _ seen ?_);rw[if_neg (show¬(false=true)by simp)])
   all_goals
    rw[IY];dsimp only;refine Az (MT (wpAny_eqBool_tuple BX H7 AA ?_));refine Az (UG AN hd I.fits ?_);dsimp only;by_cases q:MA=A_
    .subst q;rw[if_pos (by simp)];exact CK (yes ⟨e,F8 f6,b,BC,H7⟩)
    .rw[if_neg (by simp[q])];have vr:t.sameMemory t.moves t.mask=some true:=by unfold SetTable.sameMemory;simp
     rw[vr];dsimp only;rw[if_pos rfl,CJ];dsimp only;rw[IY];dsimp only;refine Az (wpAny_isSame_ref_self ?_);rw[if_pos rfl];refine Az (CK ?_);dsimp only;rw[if_neg (by simp[q])];refine rI BX AN hd I X AA aD Bs h1 h2 yes no fuel (m+1) _ (by omega) (by omega) rfl λD0 hm Bw he FN Se f_=>?_;have key:∀e:Int×A4,HG t es (CD t.mask (EP knd A_) D0).j e->e.2=.ref FN->e.1=EP knd A_:=λe he BC=>by obtain⟨k2,DZ,BP,Ce,ER⟩:=X.at he;rw[BC]at BP;cases BP;rw[ER,Ce.inj f_]
     by_cases z:D0<n
     .exact Ml D0 z Bw he FN Se f_
     .by_cases Co:D0<m
      .exact g2 D0 (by omega) Co Bw he (key Bw he Se)
      .have:D0=m:=by omega
       subst this;have:=HG.inj I.tab he Sf;subst this;rw[BC]at Se;cases Se;exact q (H7.inj f_)
end
section
variable{prog:Bt}{w:Bg}{A:C3}{E:A4->AL->Prop}{s:AL}{K:Type}[DecidableEq K]{knd:KeyKind prog w K}
def YF(mask n:Nat):Prop:=(mask=7/\n<5)\/(mask=31/\n<19)\/(mask=127/\n<77)
def um{mask n:Nat}(h:YF mask n):Gv mask/\mask%2=1:=by
 rcases h with⟨rfl,_⟩|⟨rfl,_⟩|⟨rfl,_⟩
 .exact⟨lj,rfl⟩
 .exact⟨li,rfl⟩
 .exact⟨lh,rfl⟩
structure Iz(knd:KeyKind prog w K)(ok:A3->Prop)(h:B1)(a:A3)(S:List (List K)):Prop where
 ex:∃o es C5 t,h.get? a=some o/\o.ExactSet/\o.data=.set es C5 t/\GG t es/\Ui knd h es.toList/\(∀A_,YX knd h es.toList A_↔A_∈S)/\es.size=S.length/\YF t.mask es.size/\∀e∈es.toList,∀b,e.2=.ref b->ok b
def aN{h h':B1}{a b:A3}{o:Obj}{A_:List K}{es:Array (Int×A4)}{C5:Nat}{t:F9}(AN:h.get? a=some o)(hd:o.data=.set es C5 t)(Et:IP a h h')(x:Ga knd h A_ b):Ga knd h' A_ b:=by
 obtain⟨BS,items,n,FH,AG,JS,AC⟩:=x;have M2:b≠a:=by rintro rfl;rw[AN]at FH;cases FH;rw[hd]at JS;cases JS
 exact⟨BS,items,n,(Et.2 b M2).trans FH,AG,JS,AC⟩
def aa2{h h':B1}{a b:A3}{o:Obj}{A_:List K}{es:Array (Int×A4)}{C5:Nat}{t:F9}(AN:h'.get? a=some o)(hd:o.data=.set es C5 t)(Et:IP a h h')(x:Ga knd h' A_ b):Ga knd h A_ b:=by
 obtain⟨BS,items,n,FH,AG,JS,AC⟩:=x;have M2:b≠a:=by rintro rfl;rw[AN]at FH;cases FH;rw[hd]at JS;cases JS
 exact⟨BS,items,n,(Et.2 b M2).symm.trans FH,AG,JS,AC⟩
def mD{h:B1}{a:A3}{o:Obj}{es es':Array (Int×A4)}{C5:Nat}{t t':F9}(AN:h.get? a=some o)(AA:o.ExactSet)(hd:o.data=.set es C5 t):∃BS,(h.update a (Obj.putSet es' t')).get? a=some BS/\BS.ExactSet/\BS.data=.set es' (C5+1) t':=by
 refine⟨_,XN _ AN (by rw[putSet_of es' t' hd];rfl),?_,?_⟩
 .rw[putSet_of es' t' hd];exact AA
 .rw[putSet_of es' t' hd]
def ou{α:Type}{es:Array α}{p:Nat}{x e:α}:e∈(insertAt es p x).toList↔e=x\/e∈es.toList:=by
 rw[ZF];constructor
 .intro h;rcases List.mem_append.mp h with h|h
  .exact .inr (Xh h)
  .rcases List.mem_cons.mp h with h|h
   .exact .inl h
   .exact .inr (ih h)
 .rintro(rfl|h)
  .simp
  .rw[<-Rp p es.toList]at h;rcases List.mem_append.mp h with h|h
   .exact Oh _ h
   .exact Io _ (En _ h)
def adT{a:A3}{o:Obj}{C5:Nat}{t:F9}{es:Array (Int×A4)}{M wanted:Nat}{Q:Unit->AL->Prop}(AN:s.heap.get? a=some o)(AA:o.ExactSet)(hd:o.data=.set es C5 t)(I:GG t es)(C:Gv M)(AF:es.size<=M)(RV:tI wanted=M+1)(hm:M<=127)(h:∀es' t' BS h',IP a s.heap h'->h'.get? a=some BS->BS.ExactSet->BS.data=.set es' (C5+1) t'->t'.mask=M->GG t' es'->es'.size=es.size->(∀e,e∈es'.toList↔e∈es.toList)->Q () { s with heap:=h' }) :
  An (BA prog w) A (setRelay a wanted) Q E s:=by
 unfold setRelay;refine Az (UG AN hd I.fits ?_);dsimp only;rw[if_neg (by rw[RV];show¬(M+1>CF);rw[LZ];omega)];obtain⟨t',order,AE,B4,E2,LK,Pf,g_,HD,Pg,ae1⟩:=aap C AF t.finger (t.movedTo M) t.led t.plain;have e:t.relaid (es.map (·.1)) wanted=some (t',order):=by unfold SetTable.relaid;rw[RV];exact AE
 rw[e];have step:An (BA prog w) A (if((order.filterMap (es[·]?)).size !=es.size)=true then(do unsupported "internal:set-table-lost-an-element";pure (order.filterMap (es[·]?),t'))else pure (order.filterMap (es[·]?),t')) (λr s'=>An (BA prog w) A (storeSet a r.1 r.2) Q E s') E s:=by rw[if_neg (by rw[HD];simp)];refine CK ?_;obtain⟨BS,g1,g2,g3⟩:=mD (es':=order.filterMap (es[·]?)) (t':=t') AN AA hd;exact wpAny_storeSet_of AN hd (h _ t' BS _ (Xj _ _ _) g1 g2 g3 B4 Pg HD ae1) (by rw[HD,LZ];omega)
 exact Az step
def tv{ok:A3->Prop}{a x:A3}{S:List (List K)}{A_:List K}{Q:Bool->AL->Prop}(BX:A.units<E4)(T:Iz knd ok s.heap a S)(AA:Ga knd s.heap A_ x)(BU:ok x)(J4:S.length<76)(h:∀b h',IP a s.heap h'->Iz knd ok h' a (if A_∈S then S else S++[A_])->Q b { s with heap:=h' }) :
  An (BA prog w) A (setAddHashed a (.ref x) (EP knd A_)) Q E s:=by
 obtain⟨o,es,C5,t,AN,hex,hd,I,X,hm,AU,A6,AQ⟩:=T.ex;obtain⟨C,aD⟩:=um A6;obtain⟨N,th,Yc,Uq⟩:=I.first (EP knd A_);unfold setAddHashed setAddHashedIn;refine MT (Az (UG AN hd I.fits ?_));dsimp only;rw[if_neg (by simp[byScan,Value.scannable])];unfold setSearch;refine Az (rI BX AN hd I X AA aD th Yc Uq (λyes=>?_) (λno=>?_) 100000 0 none (Kk _) ?_ rfl λm hm=>absurd hm (Nat.not_lt_zero _))
 .dsimp only;refine CK ?_;have:=h false s.heap (tD _ _) (by rw[if_pos ((hm A_).mp yes)];exact T);exact this
 .dsimp only;refine Az (UG AN hd I.fits ?_);dsimp only;have BL:es.size+1<=t.mask:=by
   rcases A6 with⟨e,_⟩|⟨e,_⟩|⟨e,_⟩<;>omega
  obtain⟨KC,Dd,Cd⟩:=I.put (x:=Dm x) Yc Uq BL;have oO:A_∉S:=λz=>no ((hm A_).mpr z)
  have fin:∀(t1:F9),t1.mask=t.mask->t1.place=(t.put (CD t.mask (EP knd A_) N).j).1.place->t1.dummies= #[]->
    An (BA prog w) A (do
     storeSet a (Xe es (t.put (CD t.mask (EP knd A_) N).j).2 (EP knd A_,Dm x)) t1
     if(!false&&t1.tooFull)=true then do
        setRelay a (SetTable.grown (es.size+1))
        pure true
      else pure true) Q E s:=by
   intro t1 AD AR C2;have Ak:GG t1 (Xe es (t.put (CD t.mask (EP knd A_) N).j).2 (EP knd A_,Dm x)):=by obtain⟨⟨a1,a2,Dp,FM⟩,b,c,d⟩:=KC;have em:(t.put (CD t.mask (EP knd A_) N).j).1.mask=t.mask:=rfl;rw[em]at FM b c d;refine⟨⟨C2,by rw[AR];exact a2,by rw[AR];exact Dp,by rw[AR,AD];exact FM⟩,by rw[AD];exact b,by rw[AD];exact c,λj e he=>?_⟩;rw[AD,AR];exact d j e (by obtain⟨i,BG,BH⟩:=he;exact⟨i,by rw[<-AR];exact BG,BH⟩)
   obtain⟨CY,g1,g2,g3⟩:=mD (es':=Xe es (t.put (CD t.mask (EP knd A_) N).j).2 (EP knd A_,Dm x)) (t':=t1) AN hex hd;have pZ:=Xj s.heap a (Obj.putSet (Xe es (t.put (CD t.mask (EP knd A_) N).j).2 (EP knd A_,Dm x)) t1);have done:∀(h':B1)(es':Array (Int×A4))(t':F9)(BS:Obj)(RP:Nat),IP a s.heap h'->h'.get? a=some BS->BS.ExactSet->BS.data=.set es' RP t'->GG t' es'->es'.size=es.size+1->(∀e,e∈es'.toList↔e=(EP knd A_,Dm x)\/e∈es.toList)->YF t'.mask es'.size->Q true { s with heap:=h' }:=by
    intro h' es' t' BS RP Et Aa B0 E1 KX Lg Jc Hk;refine h true h' Et ⟨BS,es',RP,t',Aa,B0,E1,KX,⟨λe he=>?_⟩,λk2=>?_,?_,Hk,λe he b BC=>?_⟩
    .rcases(Jc e).mp he with rfl|he
     .exact⟨A_,x,rfl,aN AN hd Et AA,rfl⟩
     .obtain⟨k3,Kv,BP,Ce,ER⟩:=X.el e he;exact⟨k3,Kv,BP,aN AN hd Et Ce,ER⟩
    .rw[if_neg oO,Y2,<-hm k2];constructor
     .rintro⟨e,he,b,BC,H7⟩;have H7:=aa2 Aa E1 Et H7;rcases(Jc e).mp he with rfl|he
      .cases BC;exact .inr (by rw[H7.inj AA];simp)
      .exact .inl ⟨e,he,b,BC,H7⟩
     .rintro(⟨e,he,b,BC,H7⟩|z)
      .exact⟨e,(Jc e).mpr (.inr he),b,BC,aN AN hd Et H7⟩
      .simp at z;subst z;exact⟨_,(Jc _).mpr (.inl rfl),x,rfl,aN AN hd Et AA⟩
    .rw[if_neg oO,Lg,AU];simp
    .rcases(Jc e).mp he with rfl|he
     .cases BC;exact BU
     .exact AQ e he b BC
   refine Az (wpAny_storeSet_of AN hd ?_ (by rw[Cd,LZ];omega));have sE:t1.tooFull=decide ((es.size+1)*5≥t.mask*3):=by
    unfold SetTable.tooFull SetTable.fill;have:t1.place.size=es.size+1:=by have:=Ak.tab.MZ;rw[Cd]at this;exact this
    rw[this,AD,C2];simp
   by_cases full:(es.size+1)*5≥t.mask*3
   .rw[if_pos (by rw[sE];simpa using full)];have big:∃M,Gv M/\tI (SetTable.grown (es.size+1))=M+1/\M<=127/\es.size+1<=M/\YF M (es.size+1):=by
     rcases A6 with⟨e,l⟩|⟨e,l⟩|⟨e,l⟩
     .have:es.size=4:=by omega
      rw[this];exact⟨31,li,by decide+kernel,by omega,by omega,.inr (.inl ⟨rfl,by omega⟩)⟩
     .have:es.size=18:=by omega
      rw[this];exact⟨127,lh,by decide+kernel,by omega,by omega,.inr (.inr ⟨rfl,by omega⟩)⟩
     .omega
    obtain⟨M,BP,Ce,ER,K3,dC⟩:=big;refine Az (adT g1 g2 g3 Ak BP (by rw[Cd];exact K3) Ce ER λes' t' BS h' Et Aa B0 E1 KX Lg Jc Hk=>CK ?_);exact done h' es' t' BS _ (pZ.trans Et) Aa B0 E1 Lg (by rw[Jc,Cd]) (λe=>by rw[Hk e,ou]) (by rw[KX,Jc,Cd];exact dC)
   .rw[if_neg (by rw[sE];simpa using full)];refine CK (done _ _ t1 CY _ pZ g1 g2 g3 Ak Cd (λe=>ou) ?_);rw[AD,Cd];rcases A6 with⟨e,l⟩|⟨e,l⟩|⟨e,l⟩
    .exact .inl ⟨e,by omega⟩
    .exact .inr (.inl ⟨e,by omega⟩)
    .exact .inr (.inr ⟨e,by omega⟩)
  have EC:(t.put (CD t.mask (EP knd A_) N).j).1.dummies= #[]:=KC.tab.Vh
  split
  .refine Az (vD AA λb=>?_);cases b
   .exact fin _ rfl rfl EC
   .exact fin _ rfl rfl EC
  .refine Az (CK ?_);exact fin _ rfl rfl EC
 .have:10*turns t.mask<=1420:=by
    rcases A6 with⟨e,_⟩|⟨e,_⟩|⟨e,_⟩<;>rw[e]<;>decide
  omega
end
end IS
namespace IS
open PySem PySem.Spec PyProof.Rows
section
variable{prog:Bt}{w:Bg}{K:Type}[DecidableEq K]{knd:Xs prog w K}
def Ky(S:List (List K))(A_:List K):List (List K):=if A_∈S then S else S++[A_]
def IW(keys:List (List K)):List (List K):=keys.foldl Ky []
def lp(keys:List (List K)):(IW keys).length<=keys.length:=by
 have:∀(l S:List (List K)),(l.foldl Ky S).length<=S.length+l.length:=by
  intro l;induction l with
  |nil=>intro S;simp
  |cons k l Br=>
   intro S;have:=Br (Ky S k);have h2:(Ky S k).length<=S.length+1:=by unfold Ky;split<;>simp
   simp only[Y0,Eo];omega
 have:=this keys [];simpa[IW]using this
def w0{keys:List (List K)}{i:Nat}{A_:List K}(h:keys[i]?=some A_):IW (keys.take (i+1))=Ky (IW (keys.take i)) A_:=by unfold IW;rw[List.take_add_one,h];simp[List.foldl_append]
section
variable{A:C3}{R:Result->AL->Prop}{I:A3}{Ad wr:List A3}{G:Array GenState->Array GenState->Prop}{n:Nat}{P:Nat->A4->Prop}{St:Nat->AL->Prop}
def Uo(knd:Xs prog w K)(keys:List (List K))(P:Nat->A4->Prop)(no:List A3)(h:B1):Prop:=∀i v,P i v->∃b A_,v=.ref b/\b∉no/\keys[i]?=some A_/\Ga knd h A_ b
def Uo.but{keys:List (List K)}{no:List A3}{h h':B1}(k:Uo knd keys P no h)(m:∀b o,b∉no->h.get? b=some o->h'.get? b=some o):Uo knd keys P no h':=λi v p=>by obtain⟨b,A_,e,nb,q,o,it,c,AN,r⟩:=k i v p;exact⟨b,A_,e,nb,q,o,it,c,m b o nb AN,r⟩
def Iz.moved{ok:A3->Prop}{h h':B1}{S:A3}{L:List (List K)}(T:Iz knd ok h S L)(aaK:∀o,h.get? S=some o->h'.get? S=some o)(m:∀b o,ok b->h.get? b=some o->h'.get? b=some o):Iz knd ok h' S L:=by
 obtain⟨o,es,C5,t,AN,hex,hd,ti,X,hm,AU,A6,J⟩:=T.ex;have AV:∀e∈es.toList,∀b A_,e.2=.ref b->(Ga knd h A_ b↔Ga knd h' A_ b):=λe he b A_ BC=>by
  have nb:=J e he b BC;obtain⟨k2,DZ,BP,⟨CN,it,c,g1,g2⟩,ER⟩:=X.el e he;rw[BC]at BP;cases BP;have mB:=m b CN nb g1;constructor
  .rintro⟨BS,TV,EQ,Aa,B0⟩;rw[g1]at Aa;cases Aa;exact⟨CN,TV,EQ,mB,B0⟩
  .rintro⟨BS,TV,EQ,Aa,B0⟩;rw[mB]at Aa;cases Aa;exact⟨CN,TV,EQ,g1,B0⟩
 refine⟨o,es,C5,t,aaK o AN,hex,hd,ti,⟨λe he=>?_⟩,λA_=>?_,AU,A6,J⟩
 .obtain⟨k2,DZ,BP,Ce,ER⟩:=X.el e he;exact⟨k2,DZ,BP,(AV e he DZ k2 BP).mp Ce,ER⟩
 .rw[<-hm A_];constructor
  .rintro⟨e,he,b,BC,H7⟩;exact⟨e,he,b,BC,(AV e he b A_ BC).mpr H7⟩
  .rintro⟨e,he,b,BC,H7⟩;exact⟨e,he,b,BC,(AV e he b A_ BC).mp H7⟩
def ab2(W:WalksS prog w A.in1 I Ad wr G n P St)(S:A3)(ZB:S∉Ad)(keys:List (List K))(AU:keys.length=n)(J:n<77)(BX:A.in1.units<E4) :
  ∀(k i:Nat)(s:AL),n-i=k->i<=n->St i s->Uo knd keys P (S::wr) s.heap->Iz knd (λb=>b∉S::wr) s.heap S (IW (keys.take i))->
   (∀s',Moved (S::wr) G s s'->Iz knd (λb=>b∉S::wr) s'.heap S (IW keys)->R (.ok (.ret .none)) s')->
   MW (BA prog w) A (.builtin "set.update.loop" ⟨[.ref S,.ref I],[]⟩) R s:=by
 have wV:S∉wr:=λh=>ZB (W.sub _ h);have Mn:∀b∈wr,b∈S::wr:=λb J=>En _ J;have keep:∀{s s':AL}{L:List (List K)},Moved wr G s s'->Iz knd (λb=>b∉S::wr) s.heap S L->Iz knd (λb=>b∉S::wr) s'.heap S L:=λm T=>
  T.moved (λo e=>m.heap S o wV e) λb o nb e=>m.heap b o (λz=>nb (Mn b z)) e
 intro k;induction k with
 |zero=>
  intro i s AQ AC ES pN T hR;have e:i=n:=by omega
  subst e;refine ja t5 ?_;rw[tO ij _];show An _ A.in1 (NM (.ref I)>>=_) _ _ s;refine Az (W.done s _ _ ES λs' hm=>?_);show An _ A.in1 (ret Gr) _ _ s';rw[<-AU,X_]at T;exact CK (hR s' (hm.mono Mn) (keep hm T))
 |succ k Br=>
  intro i s AQ AC ES pN T hR;have Gk:i<n:=by omega
  refine ja t5 ?_;rw[tO ij _];show An _ A.in1 (NM (.ref I)>>=_) _ _ s;refine Az (W.item i s _ _ Gk ES λv s' DK xa hm=>?_);have pO:Uo knd keys P (S::wr) s'.heap:=pN.but λb o nb e=>hm.heap b o (λz=>nb (Mn b z)) e;have Uu:=keep hm T;obtain⟨b,A_,rfl,nb,GX,H7⟩:=pO i v DK;show An _ A.in1 (JO [Dm b] (setAdd S (.ref b))>>=_) _ _ s';refine Az (MT ?_);unfold setAdd;refine MT (Az (wpAny_pyHash_tuple BX H7 ?_));have room:(IW (keys.take i)).length<76:=by have:=lp (keys.take i);rw[NH]at this;omega
  refine tv (s:={ s' with toks:=s'.toks+(A_.length+1) }) BX Uu H7 nb room λc h' Et tj=>?_;have tk:Iz knd (λb=>b∉S::wr) h' S (IW (keys.take (i+1))):=by rw[w0 GX];exact tj
  have Z1:∀FN o,FN∉S::wr->s'.heap.get? FN=some o->h'.get? FN=some o:=λFN o aaF e=>by rw[Et.2 FN (λz=>aaF (by rw[z];exact IM))];exact e
  refine CK ⟨plainId_quiet ij _,Br (i+1) _ (by omega) Gk (W.frame _ s' _ _ xa (LX _ _) λFN Nl o e=>?_) (pO.but Z1) tk λGK xr wU=>?_⟩
  .rw[Et.2 FN (λh:FN=S=>ZB (by rw[<-h];exact Nl))];exact e
  .refine hR GK (Moved.trans W.gtrans ((hm.mono Mn).then_heap (LX _ _) λFN o Nl e=>?_) xr) wU;rw[Et.2 FN (λh:FN=S=>Nl (by rw[h];exact IM))];exact e
end
end
section
variable{prog:Bt}{w:Bg}{A:C3}{E:A4->AL->Prop}{s:AL}{K:Type}[DecidableEq K]{knd:Xs prog w K}
def LM(led:Bool):Obj:={ cls:=.type "set",dict:=none,data:=.set #[] 0 (.fresh 0 0 led) }
def Iz.new{ok:A3->Prop}{h:B1}{S:A3}{led:Bool}(e:h.get? S=some (LM led)):Iz knd ok h S []:=
 ⟨_,#[],0,_,e,⟨rfl,rfl,rfl⟩,rfl,⟨⟨rfl,rfl,by simp[SetTable.fresh],by simp[SetTable.fresh]⟩,lj,Kk _,λj e he=>by obtain⟨i,_,q⟩:=he;simp at q⟩,⟨λe he=>by simp at he⟩,λA_=>⟨λ⟨e,he,_⟩=>by simp at he,λz=>by simp at z⟩,rfl,.inl ⟨rfl,by show 0<5;omega⟩,λe he=>by simp at he⟩
set_option maxHeartbeats 3200000 in
theorem uX{l:A3}{items:Array A4}{keys:List (List K)}{Q:A4->AL->Prop}(BN:A.handled=none)(BX:A.units+64<E4)(AF:s.heap.IsList l items)(AQ:keys.length=items.size)(J:items.size<77)(AC:∀(i:Nat) v,items[i]?=some v->∃b A_,v=.ref b/\keys[i]?=some A_/\Ga knd s.heap A_ b)(h:∀(h':B1)(C8:Nat),Iz knd (λ_=>True) h' s.heap.objs.size (IW keys)->(∀b o,s.heap.get? b=some o->h'.get? b=some o)->Q (.ref s.heap.objs.size) { s with heap:=h',toks:=C8 }) :
  An (BA prog w) A (call (.type "set") [.ref l]) Q E s:=by
 obtain⟨c,Fe,aiH⟩:=F.called_set.mro;have aiG:=F.called_set.made;have Mn:=F.called_set.sub;refine wpAny_call (codeAny_of_tree ?_);show An _ _ (callAny (.type "set") _) _ _ _;refine CK ⟨Code.quiet_builtin _ (by decide+kernel),ja F.entry_type_call ?_⟩;rw[Around.under_plain (weight_type_call_type "set" [.ref l] []) rfl];have h1:=F.called_set.notType;have h2:=F.called_set.canCreate;have aiz:=F.typeCall_set_1 (.ref l)
 repeat (any_goals (first|assumption|wp_step))
 refine Rw (code_set_new_1 (.ref l) (E:=E) (Q₁:=λobj Ct=>∃led:Bool,obj=.ref s.heap.objs.size/\Ct={ s with heap:=s.heap.push (LM led) }) λled=>⟨led,rfl,rfl⟩) λr Ct A6=>?_;rcases r with e|fl
 .exact A6
 .cases fl with
  |ret obj=>
   obtain⟨led,rfl,rfl⟩:=A6;have J4:(s.heap.push (LM led)).get? s.heap.objs.size=some (LM led):=FV _ rfl;have F4:Shared.TypeIs { s with heap:=s.heap.push (LM led) } (.ref s.heap.objs.size) "set":=⟨_,J4,rfl⟩;have VR:=F.called_set.init.lookup;have aiy:=F.called_set.init.bind (.ref s.heap.objs.size)
   repeat (any_goals (first|assumption|wp_step))
   refine Rw (codeAny_call_builtin (R:=wants (λr Hm=>r=.none/\∃h' C8,Hm={ s with heap:=h',toks:=C8 }/\Iz knd (λ_=>True) h' s.heap.objs.size (IW keys)/\(∀b o,s.heap.get? b=some o->h'.get? b=some o)) E) F.called_set.init.plain F.entry_set_init (check_set_init_1 F4 ?_)) λadC Hm eJ=>?_
   .obtain⟨ol,Si,P2,nl,SE⟩:=AF;obtain⟨ajc,ac3,ajd,acj⟩:=ol;simp only at P2 SE;subst P2;subst SE;have y3:(s.heap.push (LM led)).get? l=some { cls:=.type "list",dict:=ac3,data:=.seq items nl,slots:=acj }:=Cv _ Si;have aiN:=F.sub_list_set;have aiM:=F.sub_list_frozenset;have M2:(NL "list"==NL "dict")=false:=by decide
    have oC:(s.heap.push (LM led)).IsList l items:=⟨_,y3,rfl,nl,rfl⟩;unfold Builtin.«set.__init__» noKeywords Builtin.Frozenset.updateFrom;generalize xH:pyIter=GF
    wp_walk
    subst xH;refine QK oC ?_;refine Az (wpAny_runValue ?_);have oD:l<s.heap.objs.size:=D3 Si;have eW:(s.heap.push (LM led)).objs.size=s.heap.objs.size+1:=HU _ _;have xx:l≠(s.heap.push (LM led)).objs.size:=by rw[eW];exact Em (j9 oD)
    have ZB:s.heap.objs.size∉[(s.heap.push (LM led)).objs.size,l]:=by rw[eW];simp only[Fz,List.mem_singleton,FW,or_false,not_or];exact⟨Em (XX _),MU oD⟩
    have mC:∀b o,s.heap.get? b=some o->((s.heap.push (LM led)).push { cls:=.type "list_iterator",data:=.fields #[.ref l,.int 0 0] }).get? b=some o:=λb o e=>Cv _ (Cv _ e);have Z1:∀b o,s.heap.get? b=some o->b∉s.heap.objs.size::[(s.heap.push (LM led)).objs.size]:=λb o e=>by have:=D3 e;rw[eW];simp only[Fz,List.mem_singleton,FW,or_false,not_or];exact⟨Em this,Em (j9 this)⟩
    refine ab2 (knd:=knd) ((Walks.list (by simp[BN]) _ l xx items).toS) s.heap.objs.size ZB keys AQ J (by simp only[Around.in1_units];omega) (items.size-0) 0 _ (by omega) (Kk _)
     ⟨⟨_,FV _ rfl,rfl,rfl⟩,(oC.push _)⟩ (λi v p=>?_) (Iz.new (led:=led) (Cv _ J4)) ?hR
    .obtain⟨b,A_,rfl,q,o,it,c,AN,r⟩:=AC i v p;exact⟨b,A_,rfl,Z1 b o AN,q,o,it,c,mC b o AN,r⟩
    case hR=>intro s' hm e3;obtain⟨h',g',d',agp,fO⟩:=s';have eg:g'=s.gens:=hm.gens;have EC:d'=s.drawn:=hm.drawn;have Vn:fO=s.os:=hm.os;subst eg;subst EC;subst Vn;show An _ _ _ _ _ _;refine CK ?_;show An _ _ (ret Gr) _ _ _;obtain⟨o,es,C5,t,Aa,B0,E1,KX,Lg,Jc,Hk,f3,fU⟩:=e3.ex;exact CK ⟨rfl,h',agp,rfl,⟨o,es,C5,t,Aa,B0,E1,KX,Lg,Jc,Hk,f3,λ_ _ _ _=>trivial⟩,λb o e=>hm.heap b o (Z1 b o e) (mC b o e)⟩
   .rcases adC with e|wx
    .exact eJ
    .cases wx with
     |ret r=>
      obtain⟨rfl,h',C8,rfl,e3,L7⟩:=eJ
      repeat (any_goals (first|assumption|wp_step))
      exact h _ _ e3 L7
     |_=>cases eJ
  |_=>cases A6
end
end IS
namespace LT
open PySem PyProof.Rows
section
variable{prog:Bt}{w:Bg}{A:C3}{E:A4->AL->Prop}{s:AL}{ahu:Array Keyed}{DR:KeyKind}{p3:SortKind}
end
section
variable{prog:Bt}{w:Bg}{A:C3}{E:A4->AL->Prop}{s:AL}
end
section
variable{prog:Bt}{w:Bg}{A:C3}{E:A4->AL->Prop}{s:AL}
end
section
variable{prog:Bt}{w:Bg}{A:C3}{E:A4->AL->Prop}{s:AL}
end
end LT
namespace C7
open PySem PySem.Spec PyProof.Rows
section
variable{X:AY}
def jl(a:A3)(n:Nat)(h:B1):Prop:=∃o es C5 t,h.get? a=some o/\o.ExactSet/\o.data=.set es C5 t/\t.fits es.size=true/\es.size=n
def aw(a:A3)(n:Nat):Dl:=.ext (jl a n)
def afS{P:Bt}{w:Bg}{H:A8}{h:B1}{a:A3}{n:Nat}(x:jl a n h):FC P w H h a (aw a n):=
 ⟨x,by obtain⟨o,_,_,_,e,_⟩:=x;exact⟨o,e⟩,λh1 h2 y k=>by obtain⟨o,es,C5,t,e,r⟩:=y;exact⟨o,es,C5,t,k o e,r⟩⟩
def jy(H:A8)(ys:List V)(keys:List (List Key)):Prop:=keys.length=ys.length/\∀(i:Nat) y k,ys[i]?=some y->keys[i]?=some k->∃b,y=.ref b/\H b=some (.tup (k.map Cf))
def adH(K:AZ):List V->A8->C_->Prop:=λxs H Q=>∃p ys keys,xs=[.ref p]/\Bp K H p ys/\ys.length<77/\jy H ys keys/\∀l,H l=none->Q (.ref l) (upd H l (aw l (IS.IW keys).length))
def uW(BN:X.A.handled=none)(BX:X.A.units+64<E4):Gu X (.type "set") (adH X.K):=by
 intro pins s σ H xs us Q I r h;obtain⟨p,ys,keys,rfl,Ab,AU,⟨AF,AQ⟩,q⟩:=h;obtain⟨u,rfl,BF⟩:=vals1 r;cases BF;obtain⟨its,BM,pl,BL⟩:=I.list Ab;have hlen:=BM.length;refine IS.uX (knd:=IK X.prog X.w) (items:=its.toArray) (keys:=keys) BN BX pl.isList (by rw[DO];omega) (by rw[DO];omega) (λi v Be=>?_) λh' C8 T AV=>?_
 .have Be:its[i]?=some v:=by simpa using Be
  have AC:=(List.getElem?_eq_some_iff.mp Be).1;have EK:ys[i]?=some ys[i]:=Dw (by omega);have GX:keys[i]?=some keys[i]:=Dw (by omega);obtain⟨b,AD,AR⟩:=AQ i _ _ EK GX;obtain⟨LP,TU,Bj⟩:=BM.get EK;rw[Be]at TU;cases TU;rw[AD]at Bj;cases Bj;exact⟨b,_,rfl,GX,Tb I.BU AR⟩
 .obtain⟨o,es,C5,t,g1,g2,g3,HO,Mj,ei,x8,ej⟩:=T.ex;exact⟨.ref s.heap.objs.size,_,I.laid (t':=C8) AV (CO _) (afS ⟨o,es,C5,t,g1,g2,g3,HO.fits,x8⟩),rfl,q _ (I.BU.fresh (CO _))⟩
def ae7:List V->A8->C_->Prop:=λxs H Q=>∃a n,xs=[.ref a]/\H a=some (aw a n)/\n<1000/\Q (.int n) H
def uT:Gu X (.builtin "len") ae7:=by intro pins s σ H xs us Q I r h;obtain⟨a,n,rfl,A1,AU,q⟩:=h;obtain⟨u,rfl,BF⟩:=vals1 r;cases BF;obtain⟨⟨o,es,C5,t,g1,g2,g3,HO,Mj⟩,_⟩:=(show FC X.prog X.w H s.heap a (aw a n)from I.BU a _ A1);subst Mj;exact call_len_set g1 g2 g3 HO (by omega) ⟨.int es.size,H,I.tok _,⟨_,rfl⟩,q⟩
noncomputable def ae5:V->List V->A8->C_->Prop:=λx vs H Q=>∃l xs i y,x=.ref l/\vs=[.int i,y]/\H l=some (.lst xs)/\0<=i/\i<2^63/\xs.length<CF/\Q .non (upd H l (.lst (xs.take (min i.toNat xs.length)++y::xs.drop (min i.toNat xs.length))))
theorem aaX:Ya X "list.insert" ae5:=by
 intro pins s σ H x vs v us Q I BF Bj h;obtain⟨l,xs,i,y,rfl,rfl,HP,h1,h2,BL,q⟩:=h;cases BF;obtain⟨u,Ln,rfl,⟨t,rfl⟩,Ds⟩:∃u Ln,us=[u,Ln]/\RelV (.int i) u/\RelV y Ln:=by
  cases Bj with
  |cons a1 EE=>cases EE with
   |cons a2 DZ=>cases DZ;exact⟨_,_,rfl,a1,a2⟩
 obtain⟨z,its,n,r,AF,e⟩:=I.Q2 HP;refine MR F.slot_list_insert ⟨_,e,rfl⟩ F.entry_list_insert (F.args_list_insert_3 _ _ _) (AutoListH.list_insert_list_int_val_1 l its.toArray n i t Ln (by rw[jO (by omega) h2];simp) (by rw[DO];omega)) ⟨e,?_⟩;refine⟨.non,_,I.aV (its':=its.take (min i.toNat xs.length)++Ln::its.drop (min i.toNat xs.length)) HP e ?_ ((r.take _).append (.cons Ds (r.drop _))) ?_,rfl,q⟩
 .dsimp only;rw[if_neg (by omega),DO,<-AF];apply Array.ext';simp[sx];exact XU (by rw[Rl];omega)
 .rw[HS,Eo,NH,Rl];omega
end
end C7
namespace CP
open PySem PySem.Spec C7 PyProof.Rows
section
variable{X:AY}{F:BK}{e a b c:AT}{es:List AT}{pos p:Pos}{m n:AX}{ma:Al}
def p5:D->Option Key
 |.int i=>some (.inl i)
 |.str x=>some (.inr x)
 |_=>none
def keysOf:List D->Option (List Key)
 |[]=>some []
 |d::ds=>match p5 d,keysOf ds with
  |some k,some A_=>some (k::A_)
  |_,_=>none
def iJ:D->Option (List Key)
 |.tup ds=>keysOf ds
 |_=>none
def Qf:List D->Option (List (List Key))
 |[]=>some []
 |d::ds=>match iJ d,Qf ds with
  |some k,some A_=>some (k::A_)
  |_,_=>none
def WU:List D->R D
 |[.lst ds]=>if ds.length<77 then match Qf ds with
  |some A_=>.ok (.int (IS.IW A_).length)
  |none=>.bad
  else .bad
 |_=>.bad
theorem p7{K:AZ}{G:A8}:∀{ds:List D}{A_:List Key}{xs:List V},keysOf ds=some A_->Ac K G ds xs->xs=A_.map Cf
 |[],A_,xs,e,h=>by simp only[keysOf]at e;cases e;simp only[Ac]at h;subst h;rfl
 |d::ds,A_,xs,e,h=>by
  simp only[keysOf]at e
  split at e
  .rename_i k MA AD AR;cases e;simp only[Ac]at h;obtain⟨v,r,rfl,a1,a2⟩:=h;rw[p7 AR a2,EU];cases d<;>simp only[p5]at AD<;>first|(cases AD;done)|(cases AD;simp only[At]at a1;subst a1;rfl)
  .cases e
theorem sH{K:AZ}{G:A8}:∀{ds:List D}{A_:List (List Key)}{xs:List V},Qf ds=some A_->Ac K G ds xs->jy G xs A_
 |[],A_,xs,e,h=>by simp only[Qf]at e;cases e;simp only[Ac]at h;subst h;exact⟨rfl,λi y k AD=>by simp at AD⟩
 |d::ds,A_,xs,e,h=>by
  simp only[Qf]at e
  split at e
  .rename_i k MA AD AR;cases e;simp only[Ac]at h;obtain⟨v,r,rfl,a1,a2⟩:=h;obtain⟨Dq,BR⟩:=sH AR a2;refine⟨by simp[Dq],λi y k' Aa B0=>?_⟩;cases i with
   |succ i=>exact BR i y k' (by simpa using Aa) (by simpa using B0)
   |zero=>
    simp at Aa B0;subst Aa B0;cases d<;>simp only[iJ]at AD<;>first|(cases AD;done)|skip
    simp only[At]at a1;obtain⟨b,ys,rfl,g,q⟩:=a1;exact⟨b,rfl,by rw[g,p7 AD q]⟩
  .cases e
def aha{Lf pos':Pos}(BN:X.A.handled=none)(BX:X.A.units+64<E4)(hm:X.mg "len"=none)(P3:X.mg "set"=none)(A1:EZ X F [e] ma)(Ag:F.K=X.K:=by rfl)(AW:DI X "len":=by rfl)(VP:DI X "set":=by rfl)(hs:Ap [.Call (.Name "set" Lf) [e] [] pos'] X.env=(false,BE (.Call (.Name "set" Lf) [e] [] pos') X.env)::Ap [] X.env:=by rfl)(he:Ap [e] X.env=(false,BE e X.env)::Ap [] X.env:=by rfl)(Cz:(Cj pos (Ap [] X.env)).any (·.1)=false:=by rfl)(y6:(Cj pos' (Ap [] X.env)).any (·.1)=false:=by rfl) :
  Ah X F (.Call (.Name "len" p) [.Call (.Name "set" Lf) [e] [] pos'] [] pos) (Bm WU ma):=by
 refine⟨Ao.imp (fT uT AW hm PySem.boot_len (Kr (en (uW BN BX) VP P3 (by kernel_rfl) A1.1 (by decide) (by decide) he y6) N1 hs) (by decide) (by decide) hs Cz) ?_⟩;rintro σ H Q ⟨G,ρ,r,h⟩;unfold Bm at h;refine⟨G,ρ,r,?_⟩;refine rb h λds Ai h vs H1 Ae AE s1 a=>?_;unfold WU at h
 split at h
 .split at h
  .split at h
   .rename_i A_ GX;obtain⟨v,rfl,Av⟩:=a.one;simp only[At]at Av;obtain⟨q,xs,rfl,Ab,Ft⟩:=Av;have kt:=sH GX Ft;have AF:=Ft.length;refine⟨q,xs,A_,rfl,Bp.of (AE.AV.sub _ _ Ab),by omega,⟨kt.1,λi y k AD AR=>?_⟩,λl oB=>?_⟩
    .obtain⟨b,BC,xA⟩:=kt.2 i y k AD AR;exact⟨b,BC,AE.AV.sub _ _ xA⟩
    .have:=IS.lp A_;have:=kt.1;refine⟨l,_,rfl,Du,by omega,?_⟩;exact h _ _ Ae (AE.lay0 oB) (s1.trans (Bl.lay0 oB)) (by simp only[At])
   .exact h.elim
  .exact h.elim
 .exact h.elim
def Tj(i:Nat)(m:AX):GT:=λρ=>(ownAt i ρ).bind λds=>(m ρ).bind λd=>match d with
 |.lst es=>if ds.length+es.length<=1000000 then .ok (.non,ρ.set i (.DV (ds++es)))else .bad
 |_=>.bad
def s8 (i:Nat) {x:Str} {Af:Pos} {apos:Pos} {cpos:Pos} (he:Ah X F e m) (Bs:X.N[i]?=some x:=by rfl) (Be:H_ X.env.scope x:=by first|exact EV rfl|exact DS (EV rfl)|exact DS (DS rfl)) (hd:(x==("__debug__" :Str))=false:=by decide) (Dj:(x==("__classdict__" :Str))=false:=by decide)(ID:JL (.Name x Af) "extend" X.env (BE (.Name x Af) X.env)=BE (.Name x Af) X.env:=by rfl) (IF:(apos.endLine==cpos.line)=true:=by rfl)(IE:((Cj cpos (Ap [e] X.env)).all (λx=>!x.1)&&(Hw cpos (Ht [] X.env)).all (λx=>x.1.isSome)
    &&decide (([e]:List AT).length+([]:List GA).length+(if([]:List GA).isEmpty then 0 else 1)<30))=true:=by rfl)
  (hs:Ap [e] X.env=(false,BE e X.env)::Ap [] X.env:=by rfl) (IG:(Cj cpos (Ap [] X.env)).any (·.1)=false:=by rfl) :
  OC X F (.Call (.Attribute (.Name x Af) "extend" apos) [e] [] cpos) (Tj i m):=by
 refine⟨Ao.imp (Pd Rf PySem.F.slot_list_extend PySem.F.type_list_extend aaV (Ks Bs Be hd Dj) (Kr he.1 N1 hs) ID IE IF hs IG) ?_⟩;rintro σ H Q ⟨G,ρ,r,h⟩;unfold Tj ownAt at h;cases CV:ρ[i]? with
 |none=>rw[CV]at h;cases h
 |some s=>
  rw[CV]at h;cases s with
  |un=>cases h
  |AM _=>cases h
  |Fq _=>cases h
  |Aj Aj=>
   cases Aj with
   |B5 _ _=>cases h
   |ins _ _ _=>cases h
   |lst ds=>
    obtain⟨q,xs,AD,h1,h2,h3,h4⟩:=r.own CV;rw[R.E_]at h;refine⟨.ref q,AD,.inl ⟨rfl,xs,Bp.of h1⟩,G,ρ,r,?_⟩;refine rb h λd Ai h v H1 Ae AE s1 Av=>?_;obtain⟨Cr,Jf,Fu,KI,SC,SD,GY⟩:=AE.own CV;rw[AD]at Fu;cases Fu;cases d with
    |lst es=>
     simp only at h
     split at h
     .rename_i AF;simp only[At]at Av;obtain⟨Cd,ys,rfl,g2,B0⟩:=Av;refine⟨q,Cd,Jf,ys,rfl,rfl,KI,AE.AV.sub _ _ g2,by rw[<-GY.length,<-B0.length,LZ];omega,?_⟩;exact h .non _ Ae (AE.mut CV AD (GY.append B0)) s1.g (by simp only[At])
     .exact h.elim
    |_=>cases h
noncomputable def T2(i:Nat)(m n:AX):GT:=λρ=>(ownAt i ρ).bind λds=>(m ρ).bind λd=>(n ρ).bind λy=>match d with
 |.int k=>if 0<=k/\k<2^63/\ds.length<1000000 then .ok (.non,ρ.set i (.DV (ds.take (min k.toNat ds.length)++y::ds.drop (min k.toNat ds.length))))else .bad
 |_=>.bad
def s9 (i:Nat) {x:Str} {Af:Pos} {apos:Pos} {cpos:Pos} (A1:Ah X F a m) (J:Ah X F b n) (Bs:X.N[i]?=some x:=by rfl) (Be:H_ X.env.scope x:=by first|exact EV rfl|exact DS (EV rfl)|exact DS (DS rfl)) (hd:(x==("__debug__" :Str))=false:=by decide) (Dj:(x==("__classdict__" :Str))=false:=by decide)(ID:JL (.Name x Af) "insert" X.env (BE (.Name x Af) X.env)=BE (.Name x Af) X.env:=by rfl) (IF:(apos.endLine==cpos.line)=true:=by rfl)(IE:((Cj cpos (Ap [a,b] X.env)).all (λx=>!x.1)&&(Hw cpos (Ht [] X.env)).all (λx=>x.1.isSome)
    &&decide (([a,b]:List AT).length+([]:List GA).length+(if([]:List GA).isEmpty then 0 else 1)<30))=true:=by rfl)
  (hs:Ap [a,b] X.env=(false,BE a X.env)::Ap [b] X.env:=by rfl) (Es:Ap [b] X.env=(false,BE b X.env)::Ap [] X.env:=by rfl) (IG:(Cj cpos (Ap [b] X.env)).any (·.1)=false:=by rfl) :
  OC X F (.Call (.Attribute (.Name x Af) "insert" apos) [a,b] [] cpos) (T2 i m n):=by
 refine⟨Ao.imp (Pd Rf PySem.F.slot_list_insert PySem.F.type_list_insert aaX (Ks Bs Be hd Dj) (Kr A1.1 (Kr J.1 N1 Es) hs) ID IE IF hs IG) ?_⟩;rintro σ H Q ⟨G,ρ,r,h⟩;unfold T2 ownAt at h;cases CV:ρ[i]? with
 |none=>rw[CV]at h;cases h
 |some s=>
  rw[CV]at h;cases s with
  |un=>cases h
  |AM _=>cases h
  |Fq _=>cases h
  |Aj Aj=>
   cases Aj with
   |B5 _ _=>cases h
   |ins _ _ _=>cases h
   |lst ds=>
    obtain⟨q,xs,AD,h1,h2,h3,h4⟩:=r.own CV;rw[R.E_]at h;refine⟨.ref q,AD,.inl ⟨rfl,xs,Bp.of h1⟩,G,ρ,r,?_⟩;refine rb h λd Ai h v H1 Ae AE s1 Av=>?_;refine⟨Ae,ρ,AE,?_⟩;refine rb h λy BC h v2 Aw Cw B4 s2 ZK=>?_;obtain⟨Cr,Jf,Fu,KI,SC,SD,GY⟩:=B4.own CV;rw[AD]at Fu;cases Fu;cases d with
    |int k=>
     simp only[At]at Av;subst Av;simp only at h
     split at h
     .rename_i AQ;have AF:=GY.length;refine⟨q,Jf,k,v2,rfl,rfl,KI,AQ.1,AQ.2.1,by rw[LZ];omega,?_⟩;rw[<-AF];exact h .non _ Cw (B4.mut CV AD ((GY.take _).append (.cons ZK (GY.drop _)))) (s1.trans s2).g (by simp only[At])
     .exact h.elim
    |_=>cases h
def W_(ma:Al)(m:AX):Al:=λρ=>(ma ρ).bind λds=>(m ρ).bind λd=>match d with
 |.lst es=>if ds.length+es.length<=1000000 then .ok (ds++es)else .bad
 |_=>.bad
def ah6(A1:Jm X F a ma)(J:Ah X F b m):Jm X F (.BinOp a .Add b pos) (W_ ma m):=by
 refine⟨Ao.imp (Zi Zc A1.1 J.1) ?_⟩;rintro σ H Q ⟨G,ρ,r,h⟩;unfold W_ at h;refine⟨G,ρ,r,?_⟩;refine rb h λds Ai h l xs H1 Ae AE s1 AF h1 g1 Aa=>?_;refine⟨Ae,ρ,AE,?_⟩;refine rb h λd BC h v Aw Cw B4 s2 Av=>?_;cases d with
 |lst es=>
  simp only at h
  split at h
  .rename_i AF;simp only[At]at Av;obtain⟨Cd,ys,rfl,g2,B0⟩:=Av;refine⟨l,Cd,xs,ys,rfl,rfl,s2.h _ _ h1,B4.AV.sub _ _ g2,by rw[<-Aa.length,<-B0.length,LZ];omega,λfm AU=>?_⟩;exact h fm (xs++ys) _ Cw (B4.lay0 AU) ((s1.trans s2).trans (Bl.lay0 AU)) ((s1.trans s2).h.gone AU) Du (B4.AV.sub.gone AU) ((Aa.mono s2.g).append B0)
  .exact h.elim
 |_=>cases h
def WZ(m n:AX):Al:=λρ=>(m ρ).bind λc=>(n ρ).bind λd=>match c,d with
 |.lst ds,.lst es=>if ds.length+es.length<=1000000 then .ok (ds++es)else .bad
 |_,_=>.bad
def ah7(A1:Ah X F a m)(J:Ah X F b n):Jm X F (.BinOp a .Add b pos) (WZ m n):=by
 refine⟨Ao.imp (Zi Zc A1.1 J.1) ?_⟩;rintro σ H Q ⟨G,ρ,r,h⟩;unfold WZ at h;refine⟨G,ρ,r,?_⟩;refine rb h λc Ai h u H1 Ae AE s1 SM=>?_;refine⟨Ae,ρ,AE,?_⟩;refine rb h λd BC h v Aw Cw B4 s2 Av=>?_
 split at h
 .split at h
  .rename_i AF;simp only[At]at SM Av;obtain⟨Dd,xs,rfl,g1,Aa⟩:=SM;obtain⟨Cd,ys,rfl,g2,B0⟩:=Av;refine⟨Dd,Cd,xs,ys,rfl,rfl,s2.h _ _ (AE.AV.sub _ _ g1),B4.AV.sub _ _ g2,by rw[<-Aa.length,<-B0.length,LZ];omega,λfm AU=>?_⟩;exact h fm (xs++ys) _ Cw (B4.lay0 AU) ((s1.trans s2).trans (Bl.lay0 AU)) ((s1.trans s2).h.gone AU) Du (B4.AV.sub.gone AU) ((Aa.mono s2.g).append B0)
  .exact h.elim
 .exact h.elim
end
section
variable{X:AY}{F:BK}{e a b c:AT}{es:List AT}{pos p:Pos}{m n:AX}{ma:Al}
theorem Ac.rN{K:AZ}{G:A8}:∀{ds:List D}{xs:List V}{j:Nat}{d:D}{v:V},Ac K G ds xs->At K G d v->Ac K G (ds.set j d) (xs.set j v)
 |[],_,_,_,_,h,_=>by simp only[Ac]at h;subst h;simp[Ac]
 |_::_,_,0,_,_,h,a=>by simp only[Ac]at h;obtain⟨v,r,rfl,q,t⟩:=h;exact .cons a t
 |_::_,_,j+1,_,_,h,a=>by simp only[Ac]at h;obtain⟨v,r,rfl,q,t⟩:=h;exact .cons q (Ac.rN t a)
def putN(i:Nat)(ρ:AH)(ds:List D)(v:D):Option Nat->R HH
 |some j=>.ok (.Bb (ρ.set i (.DV (ds.set j v))))
 |none=>.bad
def putK(i:Nat)(ρ:AH)(ds:List D)(v:D):D->R HH
 |.int j=>putN i ρ ds v (M6 ds.length j)
 |_=>.bad
def Wf(i:Nat)(mk mv:AX):Ay:=λρ=>(mv ρ).bind λv=>(ownAt i ρ).bind λds=>(mk ρ).bind λk=>putK i ρ ds v k
def ra (i:Nat) {x:Str} {Af pos':Pos} {k v:AT} {mk mv:AX} (AQ:Ah X F k mk) (Be:Ah X F v mv) (Bs:X.N[i]?=some x:=by rfl) (dm:H_ X.env.scope x:=by first|exact EV rfl|exact DS (EV rfl)|exact DS (DS rfl)) (hd:(x==("__debug__" :Str))=false:=by decide) (Dj:(x==("__classdict__" :Str))=false:=by decide)(hs:swapsWithSole [.Subscript (.Name x Af) k pos'] v pos.line X.env=pure false:=by rfl) (hw:swappedStores [.Subscript (.Name x Af) k pos'] v X.env=pure none:=by rfl)(h1:(L_ [.Subscript (.Name x Af) k pos'] X.env).map (·.2)=[Km (.Subscript (.Name x Af) k pos') X.env]:=by rfl)(A1:∀u,Km (.Subscript (.Name x Af) k pos') X.env u=(do
    let Dk <-JO [u] (BE (.Name x Af) X.env)
    let GZ <-JO [u,Dk] (BE k X.env)
    NO pos'
    JO [u,Dk,GZ] (setItem Dk GZ u)
    release [u,Dk,GZ] []):=by intro _;rfl) :
  FL X F (.Assign [.Subscript (.Name x Af) k pos'] v pos) (Wf i mk mv):=by
 refine⟨DF.imp (ac7 Be.1 (acM (Ks Bs dm hd Dj) AQ.1 set_list A1) hs hw h1) ?_⟩;rintro CZ σ H ⟨G,ρ,r,h⟩;unfold Wf at h;refine⟨G,ρ,r,?_⟩;refine rb h λd ev h u H1 Ae AE s1 SM=>?_;cases CV:ownAt i ρ with
 |bad=>rw[CV]at h;cases h
 |exc c=>exact(acn CV).elim
 |ok ds=>
  rw[CV,R.E_]at h;have Cc:=aco CV;obtain⟨q,xs,AD,h1,h2,h3,h4⟩:=AE.own Cc;refine⟨.ref q,AD,Ae,ρ,AE,?_⟩;refine rb h λp3 GX h w Aw Cw B4 s2 I8=>?_;obtain⟨Cr,Jf,Fu,KI,SC,SD,GY⟩:=B4.own Cc;rw[AD]at Fu;cases Fu;cases p3 with
  |int j=>
   simp only[putK]at h;simp only[At]at I8;cases L1:M6 ds.length j with
   |none=>rw[L1]at h;cases h
   |some n=>rw[L1]at h;simp only[putN]at h;refine⟨q,Jf,j,n,rfl,I8,KI,by rw[<-GY.length];exact L1,?_⟩;exact h _ Cw _ (B4.mut Cc AD (GY.rN (SM.mono s2.g))) (s1.trans s2).g
  |_=>cases h
end
noncomputable def p2(F:BK)(x C:A3)(Q:C_):R (List Str×List D)->Prop
 |.ok (ns,ds)=>∀Ar xs G' H',Eg F G' H'->G' x=none->H' x=some (.ins C Ar xs)->xs.map (·.1)=ns->Ac F.K G' ds (xs.map (·.2))->Q .non H'
 |.exc c=>JW F c
 |.bad=>False
noncomputable def Vw(K:AZ)(BY:Str)(n:Nat)(mf:List D->R (List Str×List D)):J0:=λvs H Q E=>∃G x C Ar es ws,vs=.ref x::ws/\EW K BY C/\H x=some (.ins C Ar [])/\G x=none/\Sub G H/\Ac K G es ws/\es.length=n/\p2 (E8 K G (del H x) E) x C Q (mf es)
def qg{K:AZ}{BY:Str}{n:Nat}{mf:List D->R (List Str×List D)}:∀vs H Q E,Vw K BY n mf vs H Q E->vs.length=n+1:=λvs H Q E h=>by obtain⟨G,x,C,Ar,es,ws,rfl,_,_,_,_,q,l,_⟩:=h;rw[Eo,<-q.length,l]
def Sx(BY:Str):R AH->R (List Str×List D)
 |.ok (.Aj (.ins c ns ds)::_)=>if c=BY then .ok (ns,ds)else .bad
 |.exc c=>.exc c
 |_=>.bad
def yX{K:AZ}{BY:Str}{n:Nat}{m:Jl}{vs:List V}{H:A8}{Q:C_}{E:CS}(h:Vw K BY n (λes=>Sx BY (m (LC BY es))) vs H Q E) :
  ∃G H0,Qc (E8 K G H0 E) m { Bb:=λ_ H'=>Q .non H',Ed:=Q } (vs.map some) H:=by
 obtain⟨G,x,C,Ar,es,ws,rfl,Fa,h1,h2,s,Av,l,k⟩:=h;refine⟨G,del H x,G,LC BY es,adS Fa h1 h2 s Av,?_⟩;replace k:p2 (E8 K G (del H x) E) x C Q (Sx BY (m (LC BY es))):=k;cases em:m (LC BY es)with
 |bad=>rw[em]at k;cases k
 |exc c=>rw[em]at k;exact k
 |ok BZ=>
  rw[em]at k;intro G' H' r;unfold Sx at k
  split at k
  .rename_i aib ns ds Fe heq;cases heq;obtain⟨a,AN,AD,g1,g2,g3,N5,Vi,xs,BP,rfl,AR,al⟩:=r.obj (i:=0) rfl;have AD:some (some (V.ref x))=some (some (V.ref a)):=AD;cases AD
   split at k
   .rename_i AG;subst AG;have:=BP.inj Fa;subst this;exact k Vi xs G' H' r.AV g2 g1 AR al
   .exact k.elim
  .rename_i heq;cases heq
  .exact k.elim
structure YZ(P:Bt)(w:Bg)(K:AZ)(mg:Str->Option A4)(base:B1)(BY:Str)(n k:Nat)(mf:List D->R (List Str×List D)):Prop where
 ex:∃(C f:A3)(fd:GO)(AK:List Str),EW K BY C/\Y_ K C f/\HY P w K mg base (Ep P w) k f fd AK (Vw K BY n mf)/\mg BY=some (.ref C)/\Binds K fd AK []
def ah4{P:Bt}{w:Bg}{K:AZ}{mg:Str->Option A4}{base:B1}{qual BY G9:Str}{st:B9}{AK:List Str}{k:Nat}{m:Jl}(d:InK K mg BY qual st (G9::AK))(S:Bv (G9::AK) (G9::AK) (BW st))(h:∀(f:A3)(CB:A4)(A:C3)(outer:List Env)(s:AL)(H:A8)(E:CS),DY k (A.deeper (Oj qual (BW st) s.heap.objs.size f CB))->∀G0 H0,YL (Eb (Ep P w) P w K mg base (G9::AK) qual (BW st) f CB A outer s H E) (E8 K G0 H0 E) (GW st) m) :
  YZ P w K mg base BY AK.length (k+1) (λes=>Sx BY (m (LC BY es))):=by
 obtain⟨C,f,fd,h1,h2,h3,h4,h5⟩:=d.ex;refine⟨C,f,fd,G9::AK,h1,h2,?_,h4,h5⟩;obtain⟨Ey,Dc,Cf,doc,pm,an,CB,Cn,Kq,rfl,lk,Dj⟩:=h3.ex;refine ee lk Dj S qg λA outer s H vs Q E A6 hs=>?_;have AF:=qg vs H Q E hs;obtain⟨G,H0,BB⟩:=yX hs;refine⟨_,(h f CB A outer s H E A6 G H0).1,?_⟩;rw[ag6 (by simpa using AF)];exact BB
def Qo(c:C9)(x:Str):Jl:=λρ=>(c ρ).bind λk=>if k=true then .exc x else .ok ρ
section
variable{P:Bt}{w:Bg}{K:AZ}{mg:Str->Option A4}{base:B1}{N:List Str}{qual:Str}{scope:D9}{f:A3}{cd:A4}{A:C3}{outer:List Env}{s0:AL}{Ha:A8}{E:CS}{G0 H0:A8}
def rZ{x:Str}{np cpos pos cp yb:Pos}{m:Str}{j:Nat}{c:AT}{kt:C9}(k:O1 K mg x)(h:FE (Eb (Ep P w) P w K mg base N qual scope f cd A outer s0 Ha E) (E8 K G0 H0 E) c kt)(AW:DI (Eb (Ep P w) P w K mg base N qual scope f cd A outer s0 Ha E) x:=by rfl)(hd:(x==("__debug__" :Str))=false:=by decide) :
  YM (Eb (Ep P w) P w K mg base N qual scope f cd A outer s0 Ha E) (E8 K G0 H0 E) (.If c [.Raise (some (.Call (.Name x np) [.Constant (.str m) j cp] [] cpos)) none pos] [] yb) (Qo kt x):=by
 refine⟨DF.imp (pg h.1 (ew (JI (P:=P) (w:=w) (K:=K) (mg:=mg) (base:=base) (N:=N) (qual:=qual) (scope:=scope) (f:=f) (cd:=cd) (A:=A) (outer:=outer) (s0:=s0) (Ha:=Ha) (E:=E) (G0:=G0) (H0:=H0) (np:=np) (cpos:=cpos) (pos:=pos) (cp:=cp) (m:=m) (j:=j) k AW hd).1) pi) ?_⟩;rintro CZ σ H ⟨G,ρ,r,h⟩;unfold Qo at h;refine⟨G,ρ,r,?_⟩;refine rb h λb Ai h H1 Ae AE s1=>?_;cases b with
 |true=>exact⟨Ae,ρ,AE,h⟩
 |false=>exact h Ae H1 AE
end
section
variable{X:AY}{F:BK}{e:AT}{es:List AT}{pos p:Pos}{ma:Al}
def oq{H1:A8}{x Ar C:A3}(AA:H1 x=none)(VO:H1 Ar=none):Sub H1 (del (upd (upd H1 Ar (.own x)) x (.ins C Ar [])) x):=λb o e=>by
 have DD:b≠x:=λz=>by rw[z,AA]at e;cases e
 have Ch:b≠Ar:=λz=>by rw[z,VO]at e;cases e
 rw[w1 DD,Df DD,Df Ch];exact e
def yq{BY:Str}{n:Nat}{mf:List D->R (List Str×List D)}{C:A3}{E:CS}(Fa:EW F.K BY C):El (Ca F (Wd BY n mf ma)) (hC C (Vw F.K BY n mf) [] E (EM F ma)):=by
 rintro σ H Q ⟨G,ρ,r,h⟩;unfold Wd at h;refine⟨G,ρ,r,?_⟩;refine rb h λds Ai h vs H1 Ae AE s1 Av x Ar AA VO ne=>?_;by_cases AU:ds.length=n
 .rw[if_pos AU]at h;rw[LY];have OS:=oq (C:=C) AA VO;have gj:Sub Ae (upd (upd H1 Ar (.own x)) x (.ins C Ar [])):=AE.AV.sub.trans (OS.trans (ci _ _));refine⟨Ae,x,C,Ar,ds,vs,rfl,Fa,Du,AE.AV.sub.gone AA,gj,Av,AU,?_⟩;cases em:mf ds with
  |bad=>rw[em]at h;cases h
  |exc c=>rw[em]at h;cases h
  |ok y=>obtain⟨ns,es'⟩:=y;rw[em]at h;intro Vi xs G' H' k g1 g2 g3 HO;refine⟨rfl,?_⟩;have BN:Sub H1 H':=OS.trans k.BN;have nw:∀b,H1 b≠none->G' b=Ae b:=λb J=>k.new b (OS.some J);have B4:Rel F G' H' σ ρ:=AE.grow k.FP k.sub BN nw;have no:¬Da H' σ ρ x:=Da.fresh AE BN AA;refine h (.ref x) H' _ (B4.take g2 g1 (AE.AV.BN.gone AA) no) ((s1.trans ⟨k.FP,BN,nw⟩).put (s1.h.gone AA) g1) ?_;simp only[At];exact⟨x,Vi,xs,rfl,⟨C,Fa,Du⟩,g3,HO.mono (Sub.upd g1)⟩
 .rw[if_neg AU]at h;cases h
def ahb{BY:Str}{n k:Nat}{mf:List D->R (List Str×List D)}(c:YZ X.prog X.w X.K X.mg X.base BY n k mf)(A6:DY (k+1) X.A)(A1:EZ X F (e::es) ma)(Ag:F.K=X.K:=by rfl)(AW:DI X BY:=by rfl)(Fn:(BY==("__debug__" :Str))=false:=by decide)(he:Ap (e::es) X.env=(false,BE e X.env)::Ap es X.env:=by rfl)(Cz:(Cj pos (Ap es X.env)).any (·.1)=false:=by rfl):Ah X F (.Call (.Name BY p) (e::es) [] pos) (Wd BY n mf ma):=by obtain⟨C,f,fd,AK,BP,Ce,HL,hm,J⟩:=c.ex;refine⟨Ao.imp (qT Ce HL A6 AW hm J .nil qO A1.1 Fn he Cz) ?_⟩;rw[<-Ag];exact yq (by rw[Ag];exact BP)
end
section
variable{X:AY}{F:BK}{e:AT}{pos p:Pos}{m n:AX}{ma:Al}
end
end CP
namespace C7
open PySem PySem.Spec PyProof.Rows
section
variable{X:AY}{i j:Nat}{x n y:Str}{W:A3}{e:AT}{DQ:TE}{E:CS}{vE:B9}{afR:List B9}{Bn:Ew}{fS np Am pos py:Pos}
end
end C7
namespace CP
open PySem PySem.Spec C7 PyProof.Rows
section
variable{X:AY}{F:BK}{pos:Pos}
end
section
variable{X:AY}{F:BK}{a b:AT}{pos p:Pos}{m n:AX}{ma:Al}
end
end CP
namespace C7
open PySem PySem.Spec PyProof.Rows
section
variable{prog:Bt}{w:Bg}{A:C3}{E:A4->AL->Prop}{s:AL}
end
section
variable{X:AY}{pos:Pos}
end
end C7
namespace CP
open PySem PySem.Spec C7 PyProof.Rows
section
variable{X:AY}{F:BK}{e:AT}{es:List AT}{pos p:Pos}{m n:AX}{ma:Al}
def LH(sep:Str)(m:Al):AX:=λρ=>(m ρ).bind (M8 sep)
def OK {sep:Str} {j:Nat} {Af apos cpos:Pos} (A1:EZ X F [e] ma) (Ag:F.K=X.K:=by rfl)(ID:JL (.Constant (.str sep) j Af) "join" X.env (BE (.Constant (.str sep) j Af) X.env)=BE (.Constant (.str sep) j Af) X.env:=by rfl) (IF:(apos.endLine==cpos.line)=true:=by rfl)(IE:((Cj cpos (Ap [e] X.env)).all (λx=>!x.1)&&(Hw cpos (Ht [] X.env)).all (λx=>x.1.isSome)
    &&decide (([e]:List AT).length+([]:List GA).length+(if([]:List GA).isEmpty then 0 else 1)<30))=true:=by rfl)
  (hs:Ap [e] X.env=(false,BE e X.env)::Ap [] X.env:=by rfl) (IG:(Cj cpos (Ap [] X.env)).any (·.1)=false:=by rfl) :
  Ah X F (.Call (.Attribute (.Constant (.str sep) j Af) "join" apos) [e] [] cpos) (LH sep ma):=by
 refine⟨Ao.imp (Pd tK PySem.F.slot_str_join PySem.F.type_str_join aaY eo A1.1 ID IE IF hs IG) ?_⟩;rintro σ H Q ⟨G,ρ,r,h⟩;unfold LH at h;refine⟨rfl,G,ρ,r,?_⟩;refine rb h λds Ai h vs H1 Ae AE s1 Av=>?_;unfold M8 at h
 split at h
 .rename_i fs
  split at h
  .rename_i ys EK
   split at h
   .rename_i BL;obtain⟨v,rfl,I8⟩:=Av.one;simp only[At]at I8;obtain⟨q,xs,rfl,Ab,Ft⟩:=I8;refine⟨sep,q,ys,rfl,rfl,?_,BL,h _ H1 Ae AE s1 (by simp only[At])⟩;rw[<-qu Ft EK];exact Bp.of (AE.AV.sub _ _ Ab)
   .exact h.elim
  .exact h.elim
 .exact h.elim
def yu{BY mt:Str}{mf:List D->R BQ}{C:A3}{E:CS}(AA:F.Hx=λ_ _=>False)(Fa:EW F.K BY C):El (Ca F (IH BY mt 0 mf m AB)) (b2 C mt (Lk F.K (0+1) mf) [] E (Ca F m) b3):=by
 rintro σ H Q ⟨G,ρ,r,h⟩;unfold IH at h;refine⟨G,ρ,r,?_⟩;refine rb h λd Ai h x H1 Ae AE s1 B_=>?_;cases d with
 |ins EQ ns ds=>
  simp only[MY]at h
  split at h
  .rename_i AG;obtain⟨VK,Hc⟩:=AG;subst VK;have UZ:=B_;simp only[At]at B_;obtain⟨q,Ar,xs,rfl,⟨N5,BP,g1⟩,rfl,al⟩:=B_;have:=BP.inj Fa;subst this;refine⟨q,Ar,xs,rfl,AE.AV.sub _ _ g1,fq Hc,?_⟩;rw[R.E_]at h;have h:Ib F G H σ ρ Q ((mf [.ins EQ (xs.map (·.1)) ds]).bind JD):=h;show Lk F.K (0+1) mf ([V.ref q]++[]) H1 Q E;rw[LY];exact qh (xe:=λ_ _ _=>False) AA AE (.cons UZ .nil) (by simp) (h.mono s1)
  .exact h.elim
 |_=>cases h
def rT {o:AT} {BY mt:Str} {k:Nat} {mf:List D->R BQ} {pl:Sem Bool} {apos:Pos} (c:O6 X.prog X.w X.K X.mg X.base BY mt 0 k mf) (A6:DY k X.A) (he:Ah X F o m) (H5:F.Hx=λ_ _=>False:=by rfl) (Ag:F.K=X.K:=by rfl)(BB:BE (.Call (.Attribute o mt apos) [] [] pos) X.env=(do
    let Dk <-BE o X.env
    NO apos.atName
    let(f,first) <-JO [Dk] (QO Dk mt pl)
    S1 pos f first (Cj pos (Ap [] X.env)) (Hw pos (Ht [] X.env))):=by rfl) :
  Ah X F (.Call (.Attribute o mt apos) [] [] pos) (IH BY mt 0 mf m AB):=by
 obtain⟨C,f,fd,AK,BP,Ce,ER,HL,J⟩:=c.ex;refine⟨Ao.imp (acF (pl:=pl) he.1 Ce ER HL A6 J .nil Zg BB) ?_⟩;rw[<-Ag];exact yu H5 (by rw[Ag];exact BP)
end
end CP
namespace C7
open PySem PySem.Spec PyProof.Rows
section
variable{X:AY}{elts:List AT}{CW:Nat}{Pp:Pos}
end
end C7
namespace CP
open PySem PySem.Spec C7 PyProof.Rows
section
variable{X:AY}{F:BK}{a b:AT}{pos p:Pos}{ma:Al}
end
end CP
namespace CP
open PySem PySem.Spec C7
section
variable{K:AZ}{G G':A8}
end
section
variable{F:BK}
end
section
variable{X:AY}{F:BK}{e:AT}
end
def Le(m:AX):AX:=λρ=>Fb (m ρ)
section
variable{K:AZ}{G0 H0:A8}{E:CS}
def aal{m:AX}:El (Ca (E8 K G0 H0 E) (Le m)) (Ca (Gj K G0 H0) m):=by
 rintro σ H Q ⟨G,ρ,r,h⟩;unfold Le at h;refine⟨G,ρ,r.IV rfl rfl rfl,?_⟩;cases e:m ρ with
 |bad=>rw[e]at h;cases h
 |exc c=>rw[e]at h;cases h
 |ok b=>rw[e]at h;exact λv H' G' BM u a=>h v H' G' (BM.IV rfl rfl rfl) u a
end
section
variable{X:AY}{e:AT}{K:AZ}{G0 H0:A8}{E:CS}{m:AX}
def agJ{t:TE}(h:Ao X.Hi e t):Ao X e t:=λpins s σ H Q I q=>Gs (h pins s σ H Q (I.JG _) q) (λ_ s'⟨v,H',CH,r,z⟩=>⟨v,H',CH.Ik,r,z⟩) λ_ _ z=>z.elim
def i8(h:Ah X.Hi (Gj K G0 H0) e m):Ah X (E8 K G0 H0 E) e (Le m):=⟨λpins s σ H Q I q=>agJ h.1 pins s σ H Q I (aal σ H Q q)⟩
end
section
variable{F:BK}
end
section
variable{X:AY}{F:BK}{e o:AT}{es:List AT}{pos:Pos}{ma:Al}{m n:AX}
end
end CP
namespace CP
open PySem PySem.Spec C7 PyProof.Rows
section
variable{X:AY}{F:BK}{e:AT}{es:List AT}{pos p:Pos}{ma:Al}
def ahE{O_:List B9}:J3 X F O_ f7:=⟨λ_ _ _ _ _ _⟨_,_,_,h⟩=>h.elim⟩
end
end CP
namespace CP
open PySem PySem.Spec C7
@[simp] theorem EN{α β:Type}(a:α)(k:α->R β):(R.ok a).bind k=k a:=(rfl)
@[simp] theorem akH{α β:Type}(c:Str)(k:α->R β):(R.exc c:R α).bind k=.exc c:=(rfl)
def Q_(b:Ay):HH->R HH
 |.Bb ρ=>b ρ
 |f=>.ok f
@[simp] theorem iR(a b:Ay)(ρ:AH):Aq a b ρ=(a ρ).bind (Q_ b):=by unfold Aq;congr 1
@[simp] theorem qk(b:Ay)(ρ:AH):Q_ b (.Bb ρ)=b ρ:=(rfl)
@[simp] theorem ajs(b:Ay)(d:D):Q_ b (.Ed d)=.ok (.Ed d):=(rfl)
@[simp] theorem ajr(b:Ay)(d:List D):Q_ b (.Ij d)=.ok (.Ij d):=(rfl)
def bP:Option DG->R D
 |some (.AM d)=>.ok d
 |_=>.bad
@[simp] theorem v_var(i:Nat)(ρ:AH):Z i ρ=bP ρ[i]?:=by unfold Z bP;rfl
@[simp] theorem aji(d:D):bP (some (.AM d))=.ok d:=(rfl)
@[simp] theorem agO(d:D)(ρ:AH):A7 d ρ=.ok d:=(rfl)
@[simp] theorem ajE(f:D->D->R D)(a b:AX)(ρ:AH):A9 f a b ρ=(a ρ).bind λx=>(b ρ).bind λy=>f x y:=(rfl)
@[simp] theorem akE(f:D->R D)(a:AX)(ρ:AH):D4 f a ρ=(a ρ).bind f:=(rfl)
@[simp] theorem X0(ρ:AH):AB ρ=.ok []:=(rfl)
@[simp] theorem bI(a:AX)(r:Al)(ρ:AH):A0 a r ρ=(a ρ).bind λx=>(r ρ).bind λxs=>.ok (x::xs):=(rfl)
def Wv(xs:List D):R D:=if xs.length<=1000000 then .ok (.tup xs)else .bad
@[simp] theorem agU(m:Al)(ρ:AH):Db m ρ=(m ρ).bind Wv:=(rfl)
@[simp] theorem ajw{xs:List D}(h:xs.length<=1000000):Wv xs=.ok (.tup xs):=if_pos h
@[simp] theorem ajT(m:Al)(ρ:AH):C6 m ρ=(m ρ).bind λxs=>.ok (.lst xs):=(rfl)
@[simp] theorem sN(m:Al)(ρ:AH):E0 m ρ=(m ρ).bind lim:=(rfl)
@[simp] theorem ak0(m:AX)(ρ:AH):B2 m ρ=(m ρ).bind K2:=(rfl)
@[simp] theorem aht(b:Bool):K2 (.AI b)=.ok b:=(rfl)
@[simp] theorem v_and(a b:C9)(ρ:AH):LF a b ρ=(a ρ).bind λc=>if c=true then b ρ else .ok false:=(rfl)
@[simp] theorem v_or(a b:C9)(ρ:AH):EL a b ρ=(a ρ).bind λc=>if c=true then .ok true else b ρ:=(rfl)
@[simp] theorem v_not(a:C9)(ρ:AH):Cq a ρ=(a ρ).bind λc=>.ok (!c):=(rfl)
@[simp] theorem ak1(a b:AX)(ρ:AH):JY a b ρ=(a ρ).bind λx=>(K2 x).bind λc=>if c=true then b ρ else .ok (.AI false):=(rfl)
@[simp] theorem ajU(c:C9)(a b:Ay)(ρ:AH):C4 c a b ρ=(c ρ).bind λk=>if k=true then a ρ else b ρ:=(rfl)
@[simp] theorem aj6(ρ:AH):CI ρ=.ok (.Bb ρ):=(rfl)
@[simp] theorem ak7(a:AX)(ρ:AH):Bc a ρ=(a ρ).bind λd=>.ok (.Ed d):=(rfl)
@[simp] theorem ak8(a:Al)(ρ:AH):Ie a ρ=(a ρ).bind λd=>.ok (.Ij d):=(rfl)
@[simp] theorem agT(i:Nat)(d:D)(ρ:AH):BI i d ρ=if i<ρ.length then .ok (ρ.set i (.AM d))else .bad:=(rfl)
@[simp] theorem ak9(i:Nat)(a:AX)(ρ:AH):Cg i a ρ=(a ρ).bind λd=>(BI i d ρ).bind λBZ=>.ok (.Bb BZ):=(rfl)
@[simp] theorem agS(i:Nat)(a:Al)(ρ:AH):GI i a ρ=(a ρ).bind λds=>if i<ρ.length then .ok (.Bb (ρ.set i (.DV ds)))else .bad:=(rfl)
@[simp] theorem akA(i:Nat)(a:GT)(ρ:AH):T4 i a ρ=(a ρ).bind λx=>(BI i x.1 x.2).bind λBZ=>.ok (.Bb BZ):=(rfl)
@[simp] theorem ajR(a:GT)(ρ:AH):Ny a ρ=(a ρ).bind λx=>.ok (.Bb x.2):=(rfl)
@[simp] theorem ajM(f:List D->R D)(m:Al)(ρ:AH):Bm f m ρ=(m ρ).bind f:=(rfl)
@[simp] theorem ajG(n:Nat)(mf:List D->R BQ)(m:Al)(ρ:AH):Au n mf m ρ=(m ρ).bind λds=>if ds.length=n then(mf ds).bind JD else .bad:=(rfl)
@[simp] theorem ajI(n:Nat)(mf:List D->R BQ)(m:Al)(ρ:AH):KR n mf m ρ=(m ρ).bind λds=>if ds.length=n then(mf ds).bind gg else .bad:=(rfl)
def agQ(mi:Al)(set:D->AH->R AH)(body:Ay)(ρ:AH):G7 mi set body ρ=(mi ρ).bind λds=>IB set body ds ρ:=(rfl)
@[simp] theorem ak5(m:Al)(ρ:AH):II m ρ=(m ρ).bind OR:=(rfl)
@[simp] theorem ajW(m:AX)(ρ:AH):ET m ρ=(m ρ).bind hO:=(rfl)
@[simp] theorem v_bor(m:AX)(ρ:AH):Mt m ρ=(m (F_ ρ)).bind WE:=(rfl)
@[simp] theorem ajF(m:C9)(ρ:AH):KQ m ρ=m (F_ ρ):=(rfl)
def sM(nl:Nat)(caps:List Nat)(mi:Al)(set:D->AH->R AH)(tst:C9)(elt:AX)(ρ:AH):DC nl caps mi set tst elt ρ=(mi ρ).bind λds=>Fb (Ea set tst elt ds (Kw nl caps ρ) []):=(rfl)
@[simp] theorem ahr(i j:Int):Cy (.int i) (.int j)=.ok (.int (i+j)):=(rfl)
@[simp] theorem aju(i j:Int):Kc (.int i) (.int j)=.ok (.int (i-j)):=(rfl)
@[simp] theorem ai8{i j:Int}(h1: -18446744073709551616<i)(h2:i<18446744073709551616):MD (.int i) (.int j)=.ok (.int (i*j)):=if_pos (EV ⟨h1,h2⟩)
@[simp] theorem mul_r{i j:Int}(h1: -18446744073709551616<j)(h2:j<18446744073709551616):MD (.int i) (.int j)=.ok (.int (i*j)):=if_pos (DS ⟨h1,h2⟩)
@[simp] theorem aim{i j:Int}(h1:0<j)(h2:j<1073741824):K8 (.int i) (.int j)=.ok (.int (i/j)):=if_pos ⟨h1,h2⟩
@[simp] theorem ai7{i j:Int}(h:0<j):Dr (.int i) (.int j)=.ok (.int (i%j)):=if_pos h
def ac5:OP (.int 10) (.int 6)=.ok (.int 1000000):=(rfl)
def ac4:OP (.int 10) (.int 30)=.ok (.int 1000000000000000000000000000000):=(rfl)
@[simp] theorem ai2(i j:Int):Nw (.int i) (.int j)=.ok (.AI (decide (i<j))):=(rfl)
@[simp] theorem aiV(i j:Int):J8 (.int i) (.int j)=.ok (.AI (decide (i<=j))):=(rfl)
@[simp] theorem aiw(i j:Int):SB (.int i) (.int j)=.ok (.AI (decide (j<i))):=(rfl)
@[simp] theorem aij(i j:Int):Bz true (.int i) (.int j)=.ok (.AI (i==j)):=(rfl)
@[simp] theorem ai9(i j:Int):Bz false (.int i) (.int j)=.ok (.AI (!(i==j))):=(rfl)
@[simp] theorem aiW(xs:List D):CQ [.lst xs]=.ok (.int xs.length):=(rfl)
@[simp] theorem aiY(xs:List D):CQ [.tup xs]=.ok (.int xs.length):=(rfl)
@[simp] theorem aiX(xs:List D):CQ [.Cs xs]=.ok (.int xs.length):=(rfl)
@[simp] theorem ajm(d:D):JD (.v d)=.ok d:=(rfl)
@[simp] theorem ajl(ds:List D):JD (.o ds)=.ok (.lst ds):=(rfl)
@[simp] theorem ajk(ds:List D):gg (.o ds)=.ok ds:=(rfl)
@[simp] theorem ajg(d:D):outD (.Ed d)=.ok (.v d):=(rfl)
@[simp] theorem ajf(d:List D):outD (.Ij d)=.ok (.o d):=(rfl)
@[simp] theorem agP(N:Nat)(m:Ay)(ds:List D):C0 N m ds=(m (LB N ds)).bind outD:=(rfl)
def fQ:Option DG->R (List D)
 |some (.DV ds)=>.ok ds
 |_=>.bad
@[simp] theorem ajb(i:Nat)(ρ:AH):ownAt i ρ=fQ ρ[i]?:=by unfold ownAt fQ;rfl
@[simp] theorem ajh(ds:List D):fQ (some (.DV ds))=.ok ds:=(rfl)
@[simp] theorem ain(set:D->AH->R AH)(body:Ay)(ρ:AH):IB set body [] ρ=.ok (.Bb ρ):=(rfl)
theorem mm{set:D->AH->R AH}{body:Ay}(I:Nat->AH->Prop):∀(ds:List D)(i:Nat)(ρ:AH),(∀(j:Nat) d ρ,ds[j]?=some d->I (i+j) ρ->∃EA BZ,set d ρ=.ok EA/\body EA=.ok (.Bb BZ)/\I (i+j+1) BZ)->I i ρ->∃BZ,IB set body ds ρ=.ok (.Bb BZ)/\I (i+ds.length) BZ
 |[],i,ρ,_,h=>⟨ρ,rfl,h⟩
 |d::ds,i,ρ,st,h=>by
  obtain⟨EA,F0,AD,AR,h2⟩:=st 0 d ρ rfl h;obtain⟨BZ,C2,h3⟩:=mm I ds (i+1) F0 (λj d ρ e AC=>by obtain⟨a,b,BP,Ce,ER⟩:=st (j+1) d ρ (by simpa using e) (by rw[show i+(j+1)=i+1+j by omega];exact AC);exact⟨a,b,BP,Ce,by rw[show i+1+j+1=i+(j+1)+1 by omega];exact ER⟩) (by simpa using h2)
  refine⟨BZ,?_,by rw[Eo,show i+(ds.length+1)=i+1+ds.length by omega];exact h3⟩;rw[IB,AD,EN,AR,EN];exact C2
def ml{mi:Al}{set:D->AH->R AH}{body:Ay}{ds:List D}{ρ:AH}(I:Nat->AH->Prop)(AC:mi ρ=.ok ds)(st:∀(j:Nat) d ρ,ds[j]?=some d->I j ρ->∃EA BZ,set d ρ=.ok EA/\body EA=.ok (.Bb BZ)/\I (j+1) BZ)(h:I 0 ρ):∃BZ,G7 mi set body ρ=.ok (.Bb BZ)/\I ds.length BZ:=by obtain⟨BZ,e,h'⟩:=mm I ds 0 ρ (λj d ρ e Bx=>by rw[Nat.zero_add]at Bx |-;exact st j d ρ e Bx) h;rw[Nat.zero_add]at h';exact⟨BZ,by rw[agQ,AC,EN,e],h'⟩
@[simp] theorem ai0(d:D):GV (.AM d)=.AM d:=(rfl)
def cI(i:Nat)(ρ:AH)(ds:List D)(d:D):R HH:=if ds.length<1000000 then .ok (.Bb (ρ.set i (.DV (ds++[d]))))else .bad
@[simp] theorem ahs{i:Nat}{ρ:AH}{ds:List D}{d:D}(h:ds.length<1000000):cI i ρ ds d=.ok (.Bb (ρ.set i (.DV (ds++[d])))):=if_pos h
@[simp] theorem ajC(i:Nat)(m:AX)(ρ:AH):KP i m ρ=(ownAt i ρ).bind λds=>(m ρ).bind λd=>cI i ρ ds d:=(rfl)
@[simp] theorem ajD(i:Nat)(m:GT)(ρ:AH):aW i m ρ=(ownAt i ρ).bind λ_=>(m ρ).bind λx=>(ownAt i x.2).bind λds=>cI i x.2 ds x.1:=(rfl)
@[simp] theorem aj_(m:AX)(ρ:AH):lf m ρ=(m ρ).bind λd=>.ok (d,ρ):=(rfl)
@[simp] theorem aja(m:Al)(ρ:AH):WV m ρ=(m ρ).bind λd=>.ok (d,ρ):=(rfl)
@[simp] theorem ajO(a:GT)(r:Kt)(ρ:AH):Ti a r ρ=(a ρ).bind λx=>(r x.2).bind λy=>.ok (x.1::y.1,y.2):=(rfl)
@[simp] theorem akD(m:Kt)(ρ:AH):T5 m ρ=(m ρ).bind λx=>(Wv x.1).bind λd=>.ok (d,x.2):=by
  unfold T5 Wv
  congr 1;funext x
  split<;>rfl
def lK(i:Nat)(ds:List D)(ρ:AH):D->R (D×AH)
 |.lst es=>if ds.length+es.length<=1000000 then .ok (.non,ρ.set i (.DV (ds++es)))else .bad
 |_=>.bad
@[simp] theorem ajS(i:Nat)(m:AX)(ρ:AH):Tj i m ρ=(ownAt i ρ).bind λds=>(m ρ).bind λd=>lK i ds ρ d:=by unfold Tj;congr 1
@[simp] theorem ail{i:Nat}{ds es:List D}{ρ:AH}(h:ds.length+es.length<=1000000):lK i ds ρ (.lst es)=.ok (.non,ρ.set i (.DV (ds++es))):=if_pos h
noncomputable def Zk(i:Nat)(ds:List D)(ρ:AH):D->R (D×AH)
 |.int k=>if-(2^63)<=k/\k<2^63 then match S6 k ds.length with
  |some j=>match ds[j]? with
   |some y=>.ok (y,ρ.set i (.DV (ds.eraseIdx j)))
   |none=>.bad
  |none=>.bad
  else .bad
 |_=>.bad
@[simp] theorem ak3(i:Nat)(m:AX)(ρ:AH):Q6 i m ρ=(ownAt i ρ).bind λds=>(m ρ).bind λd=>Zk i ds ρ d:=by unfold Q6;congr 1
def ac_{i:Nat}{ds:List D}{ρ:AH}{k:Nat}(h:k<ds.length)(AF:ds.length<1000000):Zk i ds ρ (.int (k:Int))=.ok (ds[k],ρ.set i (.DV (ds.eraseIdx k))):=by
 have EE: -(2^63)<=(k:Int):=Int.le_trans (by decide) (Int.natCast_nonneg k);have DZ:(k:Int)<2^63:=Int.lt_trans (b:=1000000) (by omega) (by decide);have s:S6 (k:Int) ds.length=some k:=by rw[PySem.seqIndex_of (by omega) (by omega)];simp
 simp only[Zk,if_pos (And.intro EE DZ),s,Dw h]
noncomputable def dv(i:Nat)(ds:List D)(ρ:AH)(y:D):D->R (D×AH)
 |.int k=>if 0<=k/\k<2^63/\ds.length<1000000 then .ok (.non,ρ.set i (.DV (ds.take (min k.toNat ds.length)++y::ds.drop (min k.toNat ds.length))))else .bad
 |_=>.bad
@[simp] theorem ajX(i:Nat)(m n:AX)(ρ:AH):T2 i m n ρ=(ownAt i ρ).bind λds=>(m ρ).bind λd=>(n ρ).bind λy=>dv i ds ρ y d:=by unfold T2;congr 1
@[simp] theorem aj3(m:Al)(ρ:AH):aZ m ρ=(m ρ).bind WX:=(rfl)
@[simp] theorem aj2(m:Al)(ρ:AH):Mv m ρ=(m ρ).bind Tg:=(rfl)
@[simp] theorem ajY(m:AX)(ρ:AH):Q5 m ρ=(m ρ).bind iI:=(rfl)
@[simp] theorem sP(m:AX)(ρ:AH):KU m ρ=(m (F_ ρ)).bind λd=>.ok (.Ed d):=(rfl)
@[simp] theorem ajn(ds:List D):hO (.lst ds)=.ok ds:=(rfl)
@[simp] theorem ajx(ds:List D):iI (.tup ds)=.ok ds:=(rfl)
@[simp] theorem aiZ{xs:List D}(h:xs.length<=1000000):lim xs=.ok xs:=if_pos h
@[simp] theorem aiu:F_ []=[]:=(rfl)
@[simp] theorem ait(s:DG)(ρ:AH):F_ (s::ρ)=RR s::F_ ρ:=(rfl)
@[simp] theorem aiq(d:D):RR (.AM d)=.AM d:=(rfl)
@[simp] theorem ais:RR .un=.un:=(rfl)
@[simp] theorem air(ds:List D):RR (.Aj (.lst ds))=.AM (.lst ds):=(rfl)
@[simp] theorem aje(i:Int):WE (.int i)=.ok (.int i):=(rfl)
@[simp] theorem aiA{α:Type}(a:α):Fb (R.ok a)=.ok a:=(rfl)
def iX:Option DG->R (List D)
 |some (.Aj (.lst ds))=>.ok ds
 |_=>.bad
@[simp] theorem akF(i:Nat)(ρ:AH):NP i ρ=iX ρ[i]?:=by unfold NP iX;rfl
@[simp] theorem akI(ds:List D):iX (some (.DV ds))=.ok ds:=(rfl)
@[simp] theorem ajN(f g:D->D->R D)(a b c:AX)(ρ:AH):JZ f g a b c ρ=(a ρ).bind λx=>(b ρ).bind λy=>(f x y).bind λz=>(K2 z).bind λk=>if k=true then(c ρ).bind λw=>g y w else .ok (.AI false):=(rfl)
@[simp] theorem aiP(N:Nat)(ds:List D):LB N ds=ds.map .AM++FU (N-ds.length) .un:=(rfl)
def Mq{xs:List D}{k:Nat}{d:D}(h:xs[k]?=some d):AO (.lst xs) (.int (k:Int))=.ok d:=by
 have AQ:=(List.getElem?_eq_some_iff.mp h).1;have e:HJ xs (k:Int)=some d:=by unfold HJ M6;rw[if_pos (by omega),if_pos (by omega)];simpa using h
 simp only[AO,e]
def zi{xs:List D}{k:Nat}{d:D}(h:xs[k]?=some d):AO (.Cs xs) (.int (k:Int))=.ok d:=by
 have AQ:=(List.getElem?_eq_some_iff.mp h).1;have e:HJ xs (k:Int)=some d:=by unfold HJ M6;rw[if_pos (by omega),if_pos (by omega)];simpa using h
 simp only[AO,e]
def nR{xs:List D}{k:Nat}{d:D}(h:xs[k]?=some d):AO (.tup xs) (.int (k:Int))=.ok d:=by
 have AQ:=(List.getElem?_eq_some_iff.mp h).1;have e:HJ xs (k:Int)=some d:=by unfold HJ M6;rw[if_pos (by omega),if_pos (by omega)];simpa using h
 simp only[AO,e]
def fZ{ys:List Int}{k:Nat}(h:k<ys.length):AO (.lst (ys.map D.int)) (.int (k:Int))=.ok (.int ys[k]):=Mq (by simp[h])
def ME(x:Int){n:Nat}(h:0<n):∃k:Nat,k<n/\x%(n:Int)=(k:Int):=by have h0:0<=x%(n:Int):=QI _ (by omega);have h1:x%(n:Int)<(n:Int):=Ru _ (by omega);obtain⟨k,e⟩:=Int.eq_ofNat_of_zero_le h0;exact⟨k,by omega,e⟩
@[simp] theorem ajj(n:Nat)(h:n<1000000):OR [.int (n:Int)]=.ok (GJ 0 n):=by have: -(2^62)<=(n:Int)/\(n:Int)<2^62:=⟨by omega,by omega⟩;simp only[OR,if_pos this,Ri]
def pV{n j:Nat}{d:D}(h:(GJ 0 n)[j]?=some d):j<n/\d=.int (j:Int):=by
 unfold GJ at h;rw[Fl]at h;cases e:(DT n)[j]? with
 |none=>rw[e]at h;cases h
 |some k=>
  rw[e]at h;have Bx:j<n:=by have:=(List.getElem?_eq_some_iff.mp e).1;simpa using this
  rw[UF Bx]at e;cases e;simp at h;exact⟨Bx,h.symm⟩
@[simp] theorem adM(a:Int)(n:Nat):(GJ a n).length=n:=by simp[GJ]
@[simp] theorem akG{α β ahR:Type}(r:R α)(f:α->R β)(g:β->R ahR):(r.bind f).bind g=r.bind λx=>(f x).bind g:=by cases r<;>rfl
def Ends{β:Type}(r:R β)(T:β->Prop):Prop:=∃b,r=.ok b/\T b
@[simp] theorem aih{β:Type}(b:β)(T:β->Prop):Ends (.ok b) T=T b:=propext ⟨λ⟨c,e,h⟩=>by cases e;exact h,λh=>⟨b,rfl,h⟩⟩
theorem Ends.bind{α β:Type}{r:R α}{k:α->R β}{S:α->Prop}{T:β->Prop}(h:Ends r S)(f:∀b,S b->Ends (k b) T):Ends (r.bind k) T:=by obtain⟨b,rfl,J⟩:=h;exact f b J
def Yd(I:AH->Prop)(f:HH):Prop:=∃ρ,f=.Bb ρ/\I ρ
@[simp] theorem aho(I:AH->Prop)(ρ:AH):Yd I (.Bb ρ)=I ρ:=propext ⟨λ⟨r,e,h⟩=>by cases e;exact h,λh=>⟨ρ,rfl,h⟩⟩
def m6{β:Type}{mi:Al}{set:D->AH->R AH}{body:Ay}{ds:List D}{ρ:AH}{k:HH->R β}{T:β->Prop}(I:Nat->AH->Prop)(AC:mi ρ=.ok ds)(h0:I 0 ρ)(st:∀(j:Nat) d ρ,ds[j]?=some d->I j ρ->Ends ((set d ρ).bind body) (Yd (I (j+1))))(fin:∀BZ,I ds.length BZ->Ends (k (.Bb BZ)) T):Ends ((G7 mi set body ρ).bind k) T:=by
 obtain⟨BZ,e,h⟩:=ml (body:=body) (set:=set) (mi:=mi) I AC (λj d ρ hd KJ=>by
  obtain⟨b,e,BZ,rfl,h⟩:=st j d ρ hd KJ;cases es:set d ρ with
  |bad=>rw[es]at e;cases e
  |exc c=>rw[es]at e;cases e
  |ok EA=>rw[es,EN]at e;exact⟨EA,BZ,rfl,e,h⟩) h0
 rw[e,EN];exact fin BZ h
def qp(i:Nat):HH->R HH
 |.Bb BZ=>.ok (.Bb (Nh i BZ))
 |f=>.ok f
@[simp] theorem akB(i:Nat)(a:Al)(ρ:AH):LJ i a ρ=(GI i a ρ).bind (qp i):=by unfold LJ;congr 1
@[simp] theorem ajt(i:Nat)(ρ:AH):qp i (.Bb ρ)=.ok (.Bb (Nh i ρ)):=(rfl)
def dD(ds:List D):D->R (List D)
 |.lst es=>if ds.length+es.length<=1000000 then .ok (ds++es)else .bad
 |_=>.bad
@[simp] theorem ahx{ds es:List D}(h:ds.length+es.length<=1000000):dD ds (.lst es)=.ok (ds++es):=if_pos h
def ka:D->D->R (List D)
 |.lst ds,.lst es=>if ds.length+es.length<=1000000 then .ok (ds++es)else .bad
 |_,_=>.bad
@[simp] theorem ahw{ds es:List D}(h:ds.length+es.length<=1000000):ka (.lst ds) (.lst es)=.ok (ds++es):=if_pos h
@[simp] theorem ajJ(m n:AX)(ρ:AH):WZ m n ρ=(m ρ).bind λc=>(n ρ).bind λd=>ka c d:=by unfold WZ;congr 1
@[simp] theorem ajL(i:Nat)(m:AX)(ρ:AH):Wa i m ρ=(ownAt i ρ).bind λds=>(m ρ).bind λd=>dD ds d:=by unfold Wa;congr 1
@[simp] theorem ajK(ma:Al)(m:AX)(ρ:AH):W_ ma m ρ=(ma ρ).bind λds=>(m ρ).bind λd=>dD ds d:=by unfold W_;congr 1
@[simp] theorem akC(f:D->Option Int->Option Int->R D)(m:AX)(lo AC:P5)(ρ:AH):JA f m lo AC ρ=(m ρ).bind λd=>(lo ρ).bind λl=>(AC ρ).bind λh=>f d l h:=(rfl)
def ef(i:Nat)(ρ:AH):Option DG->AH
 |some (.Aj o)=>ρ.set i (.AM (O0 o))
 |_=>ρ
@[simp] theorem aip(i:Nat)(ρ:AH):Nh i ρ=ef i ρ ρ[i]?:=by unfold Nh ef;rfl
@[simp] theorem aio(i:Nat)(ρ:AH)(ds:List D):ef i ρ (some (.DV ds))=ρ.set i (.AM (.lst ds)):=(rfl)
@[simp] theorem aj7(ρ:AH):LI ρ=.ok none:=(rfl)
@[simp] theorem ak2(m:AX)(ρ:AH):J9 m ρ=(m ρ).bind intD:=(rfl)
@[simp] theorem aiQ(i:Int):intD (.int i)=.ok (some i):=(rfl)
def eQ{β α:Type}{mi:Al}{elt:AX}{tst:C9}{caps:List Nat}{ρ:AH}{k:List D->R β}{T:β->Prop}(g:α->D)(xs:List α)(p:α->Bool)(f:α->D)(AC:mi ρ=.ok (xs.map g))(AF:xs.length<=1000)(BB:∀a∈xs,tst (.AM (g a)::caps.map λj=>GV (ρ.getD j .un))=.ok (p a))(h:∀a∈xs,p a=true->elt (.AM (g a)::caps.map λj=>GV (ρ.getD j .un))=.ok (f a))(fin:Ends (k ((xs.filter p).map f)) T):Ends ((DC 1 caps mi (BI 0) tst elt ρ).bind k) T:=by
 have go:∀(xs:List α)(ws:List D)(s0:DG),ws.length+xs.length<=1000000->(∀a∈xs,tst (.AM (g a)::caps.map λj=>GV (ρ.getD j .un))=.ok (p a))->(∀a∈xs,p a=true->elt (.AM (g a)::caps.map λj=>GV (ρ.getD j .un))=.ok (f a))->Ea (BI 0) tst elt (xs.map g) (s0::caps.map λj=>GV (ρ.getD j .un)) ws=.ok (ws++(xs.filter p).map f):=by
  intro xs;induction xs with
  |nil=>intro ws s0 _ _ _;simp[Ea]
  |cons a xs Br=>
   intro ws s0 AF BB h;simp only[Eo]at AF;have Cc:BI 0 (g a) (s0::caps.map λj=>GV (ρ.getD j .un))=.ok (.AM (g a)::caps.map λj=>GV (ρ.getD j .un)):=by simp
   rw[EU,Ea,Cc,EN,BB a (by simp),EN];cases e:p a with
   |true=>simp only[if_true,h a (by simp) e,EN,if_pos (show ws.length<1000000 by omega)];rw[Br (ws++[f a]) _ (by simp;omega) (λx AA=>BB x (by simp[AA])) λx AA=>h x (by simp[AA])];simp[e]
   |false=>simp only[JM,if_false];rw[Br ws _ (by omega) (λx AA=>BB x (by simp[AA])) λx AA=>h x (by simp[AA])];simp[e]
 rw[sM,AC,EN];have e:=go xs [] .un (by simp;omega) BB h;have:Fb (Ea (BI 0) tst elt (xs.map g) (Kw 1 caps ρ) [])=.ok ((xs.filter p).map f):=by show Fb (Ea (BI 0) tst elt (xs.map g) (.un::caps.map λj=>GV (ρ.getD j .un)) [])=_;rw[e];rfl
 rw[this,EN];exact fin
def L2{β α:Type}{mi:Al}{elt:AX}{caps:List Nat}{ρ:AH}{k:List D->R β}{T:β->Prop}(g:α->D)(xs:List α)(f:α->D)(AC:mi ρ=.ok (xs.map g))(AF:xs.length<=1000)(h:∀a∈xs,elt (.AM (g a)::caps.map λj=>GV (ρ.getD j .un))=.ok (f a))(fin:Ends (k (xs.map f)) T):Ends ((DC 1 caps mi (BI 0) D2 elt ρ).bind k) T:=
 eQ g xs (λ_=>true) f AC AF (λ_ _=>rfl) (λa A1 _=>h a A1) (by rw[List.filter_eq_self.mpr λ_ _=>rfl];exact fin)
def pU(n:Nat):GJ 0 n=(DT n).map λ(i:Nat)=>.int (i:Int):=by simp[GJ]
def Mg{β:Type}{mi:Al}{elt:AX}{caps:List Nat}{ρ:AH}{k:List D->R β}{T:β->Prop}(n:Nat)(f:Nat->D)(AC:mi ρ=.ok (GJ 0 n))(AF:n<=1000)(h:∀a,a<n->elt (.AM (.int (a:Int))::caps.map λj=>GV (ρ.getD j .un))=.ok (f a))(fin:Ends (k ((DT n).map f)) T):Ends ((DC 1 caps mi (BI 0) D2 elt ρ).bind k) T:=
 L2 (λ(i:Nat)=>.int (i:Int)) (DT n) f (by rw[AC,pU]) (by simpa using AF) (λa A1=>h a (by simpa using A1)) fin
def Sh{β α:Type}{mi:Al}{set:D->AH->R AH}{body:Ay}{ρ:AH}{k:HH->R β}{T:β->Prop}(g:α->D)(xs:List α)(I:Nat->AH->Prop)(AC:mi ρ=.ok (xs.map g))(h0:I 0 ρ)(st:∀(j:Nat) a ρ,xs[j]?=some a->I j ρ->Ends ((set (g a) ρ).bind body) (Yd (I (j+1))))(fin:∀BZ,I xs.length BZ->Ends (k (.Bb BZ)) T):Ends ((G7 mi set body ρ).bind k) T:=
 m6 I AC h0 (λj d ρ hd KJ=>by
  rw[Fl]at hd;cases e:xs[j]? with
  |none=>rw[e]at hd;cases hd
  |some a=>rw[e]at hd;cases hd;exact st j a ρ e KJ) (by rw[Gp];exact fin)
def eR{β:Type}{mi:Al}{set:D->AH->R AH}{body:Ay}{ρ:AH}{k:HH->R β}{T:β->Prop}(n:Nat)(I:Nat->AH->Prop)(AC:mi ρ=.ok (GJ 0 n))(h0:I 0 ρ)(st:∀(j:Nat) ρ,j<n->I j ρ->Ends ((set (.int (j:Int)) ρ).bind body) (Yd (I (j+1))))(fin:∀BZ,I n BZ->Ends (k (.Bb BZ)) T):Ends ((G7 mi set body ρ).bind k) T:=
 m6 I AC h0 (λj d ρ hd KJ=>by obtain⟨Bx,rfl⟩:=pV hd;exact st j ρ Bx KJ) (by rw[adM];exact fin)
theorem ot{α β:Type}(f:α->β):∀(l:List α)(i:Nat),(l.map f).eraseIdx i=(l.eraseIdx i).map f
 |[],_=>rfl
 |x::l,0=>rfl
 |x::l,i+1=>by simp only[t6,EU,ot f l i]
def eu{α:Type}(g:α->D){l:List α}{i:Nat}{k:Nat}(h:k<l.length)(AF:l.length<1000000)(ρ:AH):Zk i (l.map g) ρ (.int (k:Int))=.ok (g l[k],ρ.set i (.DV ((l.eraseIdx k).map g))):=by rw[ac_ (by simpa using h) (by simpa using AF),ot];simp
def ad_{v:Int}(h1: -1000000<=v)(h2:v<=1000000):OR [.int v]=.ok (GJ 0 v.toNat):=by have: -(2^62)<=v/\v<2^62:=⟨by omega,by omega⟩;simp only[OR,if_pos this]
def Qk{α:Type}(l:List α)(n:Nat)(y:α):List α:=l.take (min n l.length)++y::l.drop (min n l.length)
def fV{α:Type}(l:List α)(n:Nat)(y:α):S7 (Qk l n y) (y::l):=by unfold Qk;refine List.perm_middle.trans ?_;rw[Rp]
def Yp{α:Type}(l:List α)(n:Nat)(y:α):(Qk l n y).length=l.length+1:=by rw[(fV l n y).length_eq,Eo]
def nq{α:Type}(g:α->D){l:List α}{i:Nat}{v:Int}(h:0<=v)(h2:v<=1000000)(AF:l.length<1000000)(y:α)(d:D)(e:d=g y)(ρ:AH):dv i (l.map g) ρ d (.int v)=.ok (.non,ρ.set i (.DV ((Qk l v.toNat y).map g))):=by subst e;have b:0<=v/\v<2^63/\(l.map g).length<1000000:=⟨h,by omega,by simpa using AF⟩;simp only[dv,if_pos b,Qk];simp[Xv,List.map_drop]
@[simp] theorem ai_(n:Nat)(h:n<=1000000):WX [.int (n:Int)]=.ok (GJ 0 n):=by have: -(2^62)<=(n:Int)/\(n:Int)<=1000000:=⟨by omega,by omega⟩;simp only[WX,if_pos this,Ri]
@[simp] theorem ai4(i j:Int):W6 [.int i,.int j]=.ok (.int (if j>i then j else i)):=(rfl)
@[simp] theorem Uy{xs ys:List D}(h:xs.length+ys.length<=1000000):Cy (.lst xs) (.lst ys)=.ok (.lst (xs++ys)):=if_pos h
@[simp] theorem ajp(xs:List D)(l h:Option Int):JF (.lst xs) l h=.ok (.lst (FF xs l h)):=(rfl)
@[simp] theorem ajq(xs:List D)(l h:Option Int):JF (.Cs xs) l h=.ok (.lst (FF xs l h)):=(rfl)
def cc{α:Type}(xs:List α)(k:Nat):FF xs none (some (k:Int))=xs.take k:=by
 unfold FF;rw[Dx.pY,Dx.bU,List.drop_zero,Nat.sub_zero];by_cases h:k<=xs.length
 .rw[Nat.min_eq_left h]
 .rw[Nat.min_eq_right (by omega),X_,XU (by omega)]
def kF{α:Type}(xs:List α)(k:Nat):FF xs (some (k:Int)) none=xs.drop k:=by
 unfold FF;rw[Dx.pY,Dx.bU];by_cases h:k<=xs.length
 .rw[Nat.min_eq_left h,<-Rl,X_]
 .rw[Nat.min_eq_right (by omega),List.drop_length,List.drop_of_length_le (by omega)];simp
def cb{α β:Type}(g:α->β)(xs:List α)(l h:Option Int):FF (xs.map g) l h=(FF xs l h).map g:=by unfold FF;simp[Xv,List.map_drop]
@[simp] theorem aeC(fs:List (D->AH->R AH))(ds:List D)(ρ:AH):F6 fs (.tup ds) ρ=Hl fs ds ρ:=(rfl)
@[simp] theorem aeA(ρ:AH):Hl [] [] ρ=.ok ρ:=(rfl)
@[simp] theorem ae9(f:D->AH->R AH)(fs:List (D->AH->R AH))(d:D)(ds:List D)(ρ:AH):Hl (f::fs) (d::ds) ρ=(f d ρ).bind λBZ=>Hl fs ds BZ:=(rfl)
@[simp] theorem aj4(BY:Str)(n:Nat)(mf:List D->R (List Str×List D))(ma:Al)(ρ:AH):Wd BY n mf ma ρ=(ma ρ).bind λds=>if ds.length=n then(Fb (mf ds)).bind λx=>.ok (.ins BY x.1 x.2)else .bad:=(rfl)
@[simp] theorem iP(m:Al)(ρ:AH):Q4 m ρ=(m ρ).bind RO:=(rfl)
@[simp] theorem v_is(m:AX)(ρ:AH):Tk m ρ=(m ρ).bind hU:=(rfl)
@[simp] theorem ajV(c:C9)(a b:AX)(ρ:AH):LG c a b ρ=(c ρ).bind λk=>if k=true then a ρ else b ρ:=(rfl)
@[simp] theorem ajB(a b:AX)(ρ:AH):T3 a b ρ=(a ρ).bind λx=>(K2 x).bind λc=>if c=true then .ok (.AI true)else b ρ:=(rfl)
@[simp] theorem aj5(BY mt:Str)(n:Nat)(mf:List D->R BQ)(o:AX)(ma:Al)(ρ:AH):IH BY mt n mf o ma ρ=(o ρ).bind λd=>(MY BY mt d).bind λd=>(ma ρ).bind λds=>if ds.length=n then(mf (d::ds)).bind JD else .bad:=(rfl)
@[simp] theorem ak4(i:Nat)(mk mv:AX)(ρ:AH):Wf i mk mv ρ=(mv ρ).bind λv=>(ownAt i ρ).bind λds=>(mk ρ).bind λk=>putK i ρ ds v k:=(rfl)
@[simp] theorem aiR(x:D):H6 true x .non=.ok (.AI (JV x)):=(rfl)
@[simp] theorem ajo(x:Str):hU (.str x)=.ok (x.cps.toList.map EF):=(rfl)
def eS{α:Type}(g:α->D)(xs:List α):RO [.lst (xs.map g)]=.ok (xs.zipIdx.map λp=>.tup [.int (p.2:Int),g p.1]):=by
 simp only[RO,P0]
 congr 1
 rw[List.zipIdx_map,Kj];rfl
def ahQ{α:Type}{xs:List α}{j:Nat}{p:α×Nat}(h:xs.zipIdx[j]?=some p):p.2=j/\xs[j]?=some p.1:=by
 rw[Xg]at h;cases e:xs[j]? with
 |none=>rw[e]at h;cases h
 |some a=>rw[e]at h;simp at h;subst h;exact⟨rfl,rfl⟩
def iF{α:Type}{xs:List α}{p:α×Nat}(h:p∈xs.zipIdx):xs[p.2]?=some p.1:=by obtain⟨j,e⟩:=List.mem_iff_getElem?.mp h;obtain⟨h1,h2⟩:=ahQ e;rw[h1];exact h2
def RN{β α:Type}{mi:Al}{elt:AX}{caps:List Nat}{ρ:AH}{k:List D->R β}{kh:β->Prop}(g1 g2:α->D)(xs:List α)(f:α->D)(AC:mi ρ=.ok (xs.map λa=>.tup [g1 a,g2 a]))(AF:xs.length<=1000)(h:∀a∈xs,elt (.AM (g1 a)::.AM (g2 a)::caps.map λj=>GV (ρ.getD j .un))=.ok (f a))(fin:Ends (k (xs.map f)) kh):Ends ((DC 2 caps mi (F6 [BI 0,BI 1]) D2 elt ρ).bind k) kh:=by
 have go:∀(xs:List α)(ws:List D)(s0 s1:DG),ws.length+xs.length<=1000000->(∀a∈xs,elt (.AM (g1 a)::.AM (g2 a)::caps.map λj=>GV (ρ.getD j .un))=.ok (f a))->Ea (F6 [BI 0,BI 1]) D2 elt (xs.map λa=>.tup [g1 a,g2 a]) (s0::s1::caps.map λj=>GV (ρ.getD j .un)) ws=.ok (ws++xs.map f):=by
  intro xs;induction xs with
  |nil=>intro ws s0 s1 _ _;simp[Ea]
  |cons a xs Br=>
   intro ws s0 s1 AF h;simp only[Eo]at AF;have Cc:F6 [BI 0,BI 1] (.tup [g1 a,g2 a]) (s0::s1::caps.map λj=>GV (ρ.getD j .un))=.ok (.AM (g1 a)::.AM (g2 a)::caps.map λj=>GV (ρ.getD j .un)):=by simp
   rw[EU,Ea,Cc,EN];simp only[D2,EN,if_true,h a (by simp),if_pos (show ws.length<1000000 by omega)];rw[Br (ws++[f a]) _ _ (by simp;omega) λx AA=>h x (by simp[AA])];simp
 rw[sM,AC,EN];have e:=go xs [] .un .un (by simp;omega) h;have:Fb (Ea (F6 [BI 0,BI 1]) D2 elt (xs.map λa=>.tup [g1 a,g2 a]) (Kw 2 caps ρ) [])=.ok (xs.map f):=by show Fb (Ea (F6 [BI 0,BI 1]) D2 elt (xs.map λa=>.tup [g1 a,g2 a]) (.un::.un::caps.map λj=>GV (ρ.getD j .un)) [])=_;rw[e];rfl
 rw[this,EN];exact fin
def Ends.done{β:Type}{r:R β}{b:β}(h:Ends r (· =b)):r=.ok b:=by obtain⟨c,e,rfl⟩:=h;exact e
end CP
namespace C7
open PySem PySem.Spec PyProof.Rows
def sK{h:B1}{T:A3}{f:Obj->Obj}{De:Obj}{Bn:Array A4}(q:h.get? T=some De)(d:De.data=.fields Bn):∀b o,h.get? b=some o->(∀vs:Array A4,o.data≠.fields vs)->(h.update T f).get? b=some o:=λb o e n=>by
 have ne:b≠T:=λz=>by rw[z,q]at e;cases e;exact n Bn d
 rw[QD h f (Ld ne)];exact e
def adO{M:Model}{A:C3}{E:A4->AL->Prop}{s:AL}{base:B1}{env:Env}{outer:List Env}{L e:A3}{K a0 fl:A4}{Q:Unit->AL->Prop}(H4:A.frames=some (env::outer))(o6:s.heap.FunFrames base (env::outer))(JT:env.frame=some L)(BB:s.heap.TracedAtW base e K a0 fl)(ES:base.StaysIn s.heap)(J:base.get? e=none)(k:∀h',base.FlyingW outer e K a0 h'->s.heap.UpToSlots h'->Q () { s with heap:=h' }):An M A (QR env (.ref e)) Q E s:=by
 have wo:s.heap.FunFrames base outer:=o6.2.2;unfold QR;refine Az ?_;obtain⟨OO,vs,T,De,Bn,AD,⟨AR,C2⟩,E7,F2,Hb,K7,Oy,Kz,Sc⟩:=BB;unfold noteFrame;rw[JT];refine Az (IQ AD E7 F2 ?_);show An M A (if(Dm T !=Gr)=true then _ else _) _ E s;rw[if_pos (show(Dm T !=Gr)=true from rfl)];refine Az (IQ Oy Kz Sc ?_);by_cases o7:(fl==rawInt ↑L)=true
 .rw[if_pos o7];exact CK (wpAny_setFlight_noneW ES wo ⟨OO,vs,T,De,Bn,AD,⟨AR,C2⟩,E7,F2,Hb,K7,Oy,Kz,Sc⟩ λh' F7 Hy OJ LS=>k h' ⟨F7,J,Hy,OJ⟩ λb o q n=>⟨o.slots,LS b o q n⟩)
 .rw[if_neg o7];refine Az (Xr Oy Kz (Array.getElem?_eq_some_iff.mp Sc).1 ?_);have bE:=sK (f:=NK λx=>x.setIfInBounds 3 Gr) Oy Kz;have he:(s.heap.update T (NK λx=>x.setIfInBounds 3 Gr)).get? e=some OO:=by rw[QD _ _ K7];exact AD
  refine wpAny_newEntryW (s:={ s with heap:=s.heap.update T (NK λx=>x.setIfInBounds 3 Gr) }) H4 (Heap.FunFrames.of_keeps (λb o q n=>⟨o,bE b o q n,rfl⟩) o6) JT he (λb o q=>?_) J E7 (Array.getElem?_eq_some_iff.mp F2).1 C2 λh'⟨F7,Hy,OJ,LS⟩=>k h' ⟨F7,J,Hy.2.2,by rw[<-AR];exact OJ⟩ λb o q n=>LS b o (bE b o q n) n;have ne:T≠b:=λz=>by rw[<-z,Hb]at q;cases q
  show(s.heap.update T _).get? b=some o;rw[QD _ _ ne];exact ES b o q
structure jt(P:Bt)(w:Bg)(st:List Env)(Ad:List A3)(C:A3)(H H':A8)(s:AL)(a:A3)(K a0:A4)(B:B1)(s':AL):Prop where
 os:s'.os=s.os
 bare:Lc s'.gens
 un:EY (DH st) Ad H H' s.heap s'.heap
 P1:Heap.FlyingW B st a K a0 s'.heap
 old:∀b o,s.heap.get? b=some o->H b=none->b∉DH st->b∉Ad->B.get? b=some o
 Od:∀b o,s.heap.get? b=some o->b∉DH st->b∉Ad->∃BS,B.get? b=some BS
 BU:ED P w H' B
 A1:H' a=none
 Fa:H' C=none
 PZ:∃m,B.Ns C m
def s_(X:AY)(E:CS):RC:=λ_ C s H Ad e s'=>∃(a:A3)(K a0:A4)(B:B1)(H':A8),e=.ref a/\jt X.prog X.w X.stack Ad C H H' s a K a0 B s'/\E K (some a) H'
abbrev Ow(X:AY)(E:CS):=Kx (s_ X E) X
def xC(h:B1):h.get? h.objs.size=none:=by
 cases e:h.get? h.objs.size with
 |none=>rfl
 |some o=>exact absurd (D3 e) (Hv _)
def je{h h':B1}{C:A3}{m:Str->Option A4}(n:h.Ns C m)(k:∀o,h.get? C=some o->h'.get? C=some o):h'.Ns C m:=by obtain⟨o,es,C5,q,r⟩:=n;exact⟨o,es,C5,k o q,r⟩
def Zh{X:AY}{E:CS}{scope:D9}{N:List Str}{cl:List (Str×A3)}{C:A3}{s0:AL}{H0:A8}{Ad:List A3}:Passes (Ep X.prog X.w) (Ow X E scope N cl C s0 H0 Ad) E:=λpins σ H s e s' I AA=>by
 obtain⟨a,K,a0,B,H',rfl,f,H5⟩:=AA;obtain⟨os,bare,un,P1,old,Od,BU,A1⟩:=f;have base:EY (DH X.stack) Ad H0 H s0.heap s.heap:=I.base;have xG:C∉DH X.stack:=λz=>by obtain⟨_,o,q,_⟩:=I.ok.I_.mem (show C∈DH (Ow X E scope N cl C s0 H0 Ad).outer from z);exact absurd (Fk (D3 q) I.ok.above) (Hv _)
 have Fa:H C=none:=I.free;obtain⟨m,PZ,_⟩:=I.loc;have PZ:s.heap.Ns C m:=PZ;refine⟨a,K,a0,B,H',rfl,⟨os.trans I.os,bare,base.trans (un.mono (λ_ z=>z) λ_ z=>by cases z),P1,?_,?_,BU,A1,?_,m,je PZ λo q=>old C o q Fa xG⟩,H5⟩
 .exact λb o q n J AA=>old b o (base.keep b o q n J AA) (base.free b o q n AA) J
 .intro b o q J AA;obtain⟨BS,Cr⟩:=base.there b o q AA;exact Od b BS Cr J
 .obtain⟨o,_,_,q,_⟩:=PZ;exact un.free C o q Fa (λz=>by cases z)
theorem m9{h h2 B Sj:B1}(L5:∀b,B.get? b=none->Sj.get? b=none):∀{l:List Env},(∀b∈DH l,∀o,h.get? b=some o->(∀vs:Array A4,o.data≠.fields vs)->h2.get? b=some o)->h.FunFrames B l->h2.FunFrames Sj l
 |[],_,_=>trivial
 |env::l,k,f=>by obtain⟨f1,⟨L,o,f2,F3,f4,H3⟩,vN⟩:=f;have G6:L∈DH (env::l):=List.mem_filterMap.mpr ⟨env,IM,f2⟩;refine⟨f1,⟨L,o,f2,L5 L F3,k L G6 o f4 H3,H3⟩,m9 L5 (λb J=>k b ?_) vN⟩;obtain⟨e,he,z⟩:=List.mem_filterMap.mp J;exact List.mem_filterMap.mpr ⟨e,En _ he,z⟩
section
variable{X:AY}{pins:List (A3×Obj)}{σ :St}{Cx H':A8}{s3 s':AL}{a C:A3}{K a0:A4}{B:B1}{Ad:List A3}
def Inv.uh{M:Model}{A:C3}{E Y:A4->AL->Prop}{Q:Unit->AL->Prop}{α:Type}{scope:D9}{cl:List (Str×A3)}{what:String}(I:Inv X pins σ Cx s3)(ES:X.stack=X.env::X.outer)(JT:X.env.frame=some X.env.locals)(hex:X.ex=[])(H4:A.frames=some X.stack)(hf:∀b∈Ad,HZ X pins Cx b)(xF:s3.heap.get? C=none)(f:jt X.prog X.w X.stack Ad C Cx H' s3 a K a0 B s')(GH:∀Sj GK,Uj X.prog X.w X.outer X.N7 H' X.Ee a K a0 Sj GK->Q () GK)(VI:∀s2,An M A (QR X.env (.ref a)) Q E s2->Y (.ref a) s2) :
  JP M A (S3 scope cl C X.env) (λe s1=>∃m,s1.heap.Ns C m/\∀h',IP C s1.heap h'->∀K4:Env,K4.locals=C->An M A (YA what e K4:Sem α) (λ_ _=>False) Y { s1 with heap:=h' }) (.ref a) s':=by
 obtain⟨os,bare,un,P1,old,Od,BU,A1,Fa,m,PZ⟩:=f;obtain⟨wv,Z3,mh,ww⟩:=P1;unfold JP;show An M A (noteFrame (.ref a) X.env) _ _ s';rw[ES]at mh;refine wpAny_noteFrame_onW (by rw[H4,ES]) mh JT ww wv Z3 λh1⟨DD,Ch,KV,Mz⟩=>?_;refine⟨m,je PZ λo q=>DD C o q,λh' hs K4 P2=>?_⟩;obtain⟨OO,vs,T,De,Bn,AD,⟨AR,C2⟩,E7,F2,Hb,K7,Oy,Kz,Sc⟩:=KV;obtain⟨q9,gZ⟩:∃q9,B.get? C=some q9:=by obtain⟨o,_,_,q,_⟩:=PZ;exact⟨o,q⟩
 have tr:a≠C:=λz=>by rw[z,gZ]at Z3;cases Z3
 have tl:T≠C:=λz=>by rw[z,gZ]at Hb;cases Hb
 have e5:h'.get? a=some OO:=(hs.2 a tr).trans AD;have e4:h'.get? T=some De:=(hs.2 T tl).trans Oy;unfold YA;refine Az (IQ e5 E7 F2 ?_);show An M A (if(Dm T==Gr)=true then _ else _) _ _ _;rw[if_neg (show¬(Dm T==Gr)=true from λz=>nomatch z)];refine Az ?_;unfold setFlight;refine Az (IQ e5 E7 F2 ?_);rw[if_pos (show(Dm T !=Gr)=true from rfl)];refine Xr e4 Kz (Array.getElem?_eq_some_iff.mp Sc).1 (wpAny_throw ?_);generalize(K4.frame.elim Gr λf=>rawInt ↑f)=fl;have abm:C∉DH X.stack:=λz=>by rw[ES]at z;have:=(Ch.mem z).1;rw[gZ]at this;cases this
 have mH:∀b o,(MM B [C]).get? b=some o->B.get? b=some o/\b≠C:=λb o q=>⟨jG _ q,λz=>by rw[z,tN _ (by simp)]at q;cases q⟩;have e0:∀b,B.get? b=none->(MM B [C]).get? b=none:=λb q=>by
  cases e:(MM B [C]).get? b with
  |none=>rfl
  |some o=>rw[(mH b o e).1]at q;cases q
 have VG:∀b o,B.get? b=some o->b≠C->(MM B [C]).get? b=some o:=λb o q n=>jE _ q (by simpa using n);have bE:=sK (f:=NK λx=>x.setIfInBounds 3 fl) e4 Kz;have sF:∀b o,b≠C->h1.get? b=some o->(∀vs:Array A4,o.data≠.fields vs)->(h'.update T (NK λx=>x.setIfInBounds 3 fl)).get? b=some o:=λb o nb q n=>bE b o ((hs.2 b nb).trans q) n;have B5:(NK (λx=>x.setIfInBounds 3 fl) De).data=.fields (Bn.setIfInBounds 3 fl):=by obtain⟨c,d,dd,CJ⟩:=De;have Kz:dd=.fields Bn:=Kz;subst Kz;rfl
 have abi:(h'.update T (NK λx=>x.setIfInBounds 3 fl)).get? T=some (NK (λx=>x.setIfInBounds 3 fl) De):=XN _ e4 (tM B5);have x2:∀b∈DH X.stack,b≠C:=λb J z=>abm (z▸J);refine VI _ (adO (base:=MM B [C]) (L:=X.env.locals) (K:=K) (a0:=a0) (fl:=fl) (by rw[H4,ES]) (m9 e0 (λb J o q n=>sF b o (x2 b (by rw[ES];exact J)) q n) Ch) JT ⟨OO,vs,T,NK (λx=>x.setIfInBounds 3 fl) De,Bn.setIfInBounds 3 fl,by rw[QD _ _ K7];exact e5,⟨AR,C2⟩,E7,F2,e0 T Hb,K7,abi,B5,by rw[Array.getElem?_setIfInBounds_self_of_lt (Array.getElem?_eq_some_iff.mp Sc).1]⟩ (λb o q=>?_) (e0 a Z3) λdz F7 Hy=>?_)
 .obtain⟨Aa,B0⟩:=mH b o q;have ne:T≠b:=λz=>by rw[<-z,Hb]at Aa;cases Aa
  show(h'.update T _).get? b=some o;rw[QD _ _ ne,hs.2 b B0];exact DD b o Aa
 .have JU:∀b o,X.Ee.heap.get? b=some o->b∉DH X.outer->b∉DH X.stack:=λb o q n z=>by
    rw[ES]at z;rcases eh JT z with r|r
    .subst r;exact absurd (Fk (D3 q) I.ok.above) (Hv _)
    .exact n r
  have eI:∀b,b∈DH X.outer->b∈DH X.stack:=λb z=>by rw[ES];unfold DH;rw[Q9,JT];exact En _ z
  have Ex:∀b,b∉X.ex:=λb z=>by rw[hex]at z;cases z
  have SG:∀b o,X.Ee.heap.get? b=some o->b∉Ad:=λb o q z=>by
   rcases(hf b z).2.2.2.1 with r|r
   .exact Ex b r
   .exact absurd (Fk (D3 q) r) (Hv _)
  have VJ:∀b o,X.Ee.heap.get? b=some o->b≠C:=λb o q z=>by obtain⟨BS,Cr⟩:=I.base.there b o q (Ex b);rw[z,xF]at Cr;cases Cr
  refine GH (MM B [C]) _ ⟨os.trans I.os,bare,⟨?_,?_,?_,?_,λb xs q=>un.Hp b xs (I.base.Hp b xs q),λb o u q=>un.HN b o u (I.base.HN b o u q),?_⟩,F7,?_,?_,?_,A1⟩
  .exact λb o q n J _=>F7.1 b o (VG b o (old b o (I.base.keep b o q n J (Ex b)) (I.base.free b o q n (Ex b)) (JU b o q J) (SG b o q)) (VJ b o q))
  .intro b o q n J _;obtain⟨CJ,Aa⟩:=I.base.slot b o q n J (Ex b);obtain⟨_,BS,Cr,Ii⟩:=I.ok.I_.mem J;rw[q]at Cr;cases Cr;obtain⟨aeI,B0⟩:=un.slot b _ Aa (I.base.free b o q n (Ex b)) (eI b J) (SG b o q);obtain⟨OW,E1⟩:=Mz b _ B0 Ii;obtain⟨aei,KX⟩:=Hy b _ (sF b _ (VJ b o q) E1 Ii) Ii;exact⟨aei,KX⟩
  .intro b o q n _;obtain⟨BS,Cr⟩:=I.base.there b o q (Ex b);exact un.free b BS Cr (I.base.free b o q n (Ex b)) (SG b o q)
  .intro b o q _;by_cases J:b∈DH X.outer
   .obtain⟨_,BS,Cr,_⟩:=F7.2.2.1.mem J;exact⟨BS,Cr⟩
   .obtain⟨BS,Cr⟩:=I.base.there b o q (Ex b);obtain⟨CN,B0⟩:=Od b BS Cr (JU b o q J) (SG b o q);exact⟨CN,F7.1 b CN (VG b CN B0 (VJ b o q))⟩
  .intro b AK q;obtain⟨m1,AD⟩:=I.base.Ho b AK q;obtain⟨m2,AR⟩:=un.Ho b _ AD;exact⟨m1++m2,by rw[AR,Xk]⟩
  .exact λb o q n J=>VG b o (old b o (I.base.keep b o q n J (Ex b)) (I.base.free b o q n (Ex b)) (JU b o q J) (SG b o q)) (VJ b o q)
  .intro b o q J;obtain⟨BS,Cr⟩:=I.base.there b o q (Ex b);obtain⟨CN,B0⟩:=Od b BS Cr (JU b o q J) (SG b o q);exact⟨CN,VG b CN B0 (VJ b o q)⟩
  .exact ED.part (X:=X) (s:={ s' with heap:=B }) BU λb u BN q=>VG b u q λz=>by rw[z,Fa]at BN;cases BN
end
structure YN(X:AY)(E:CS):Prop where
 st:X.stack=X.env::X.outer
 fr:X.env.frame=some X.env.locals
 ex:X.ex=[]
 xe:∀e s',An (BA X.prog X.w) X.A (QR X.env e) (λ_ GK=>Ep X.prog X.w X.outer X.N7 X.Ee E e GK) (λBw GK=>Ep X.prog X.w X.outer X.N7 X.Ee E Bw GK) s'->X.xe e s'
def sa{X:AY}{E:CS}{scope:D9}(PD:YN X E):Ux (s_ X E) X scope:=by rintro pins σ H s cl Ad I f e s' ⟨a,td,a0,ahy,H',rfl,fl,H5⟩;exact I.uh PD.st PD.fr PD.ex I.ok.frames f (xC _) fl (λSj GK fl=>⟨a,td,a0,Sj,H',rfl,fl,H5⟩) λ_ w=>PD.xe _ _ w
end C7
namespace CP
open PySem PySem.Spec C7
def Nx(nl:Nat)(caps:List Nat)(mi:Al)(set:D->AH->R AH)(elt:AX):Al:=λρ=>(mi ρ).bind λds=>Ea set D2 elt ds (Kw nl caps ρ) []
section
variable{X:AY}{Bd iter elt:AT}{pos:Pos}{scope:D9}{N:List Str}{E:CS}{G0 H0:A8}{me:AX}
structure YP(X:AY)(E:CS)(scope:D9)(N:List Str)(Bd:AT)(set:D->AH->R AH):Prop where
 g:∃g,(∀cl C s H Ad,Iw (Ow X E scope N cl C s H Ad) Bd g)/\∀F:BK,F.K=X.K->O3 F g set
 Bb:∀d ρ c,set d ρ≠.exc c
 AV:Keeps set
def d9(i:Nat){x:Str}(Bs:N.Nodup:=by decide+kernel)(AC:N[i]?=some x:=by rfl)(AF:(JQ scope X.env).names.lookup x=some .local:=by rfl):YP X E scope N (.Name x pos) (BI i):=
 ⟨⟨IC i,λcl C s H Ad=>R4 (X:=Ow X E scope N cl C s H Ad) Bs AC (.inl AF) (.inr AF),λF _=>RU i⟩,QZ i,R7 i⟩
def vC(i j:Nat){x y:Str}{Af py:Pos}{k:Nat}(AG:X.calm=true:=by rfl)(Bs:N.Nodup:=by decide+kernel)(AC:N[i]?=some x:=by rfl)(Bx:N[j]?=some y:=by rfl)(AF:(JQ scope X.env).names.lookup x=some .local:=by rfl)(hm:(JQ scope X.env).names.lookup y=some .local:=by rfl) :
  YP X E scope N (.Tuple [.Name x Af,.Name y py] k pos) (F6 [BI i,BI j]):=by
 refine⟨⟨VE X.K 2 (RT (IC i) (RT (IC j) VC)),λcl C s H Ad=>?_,λF Jr=>?_⟩,hT ?_,hS ?_⟩
 .exact ep (X:=Ow X E scope N cl C s H Ad) AG (WJ (R4 (X:=Ow X E scope N cl C s H Ad) Bs AC (.inl AF) (.inr AF)) (WJ (R4 (X:=Ow X E scope N cl C s H Ad) Bs Bx (.inl hm) (.inr hm)) er rfl) rfl) rfl rfl
 .rw[<-Jr];exact dx rfl (VF (RU i) (VF (RU j) dw))
 .intro f hf;rcases List.mem_cons.mp hf with rfl|hf
  .exact QZ i
  .rw[List.mem_singleton.mp hf];exact QZ j
 .intro f hf;rcases List.mem_cons.mp hf with rfl|hf
  .exact R7 i
  .rw[List.mem_singleton.mp hf];exact R7 j
abbrev jq(X:AY)(E:CS)(scope:D9)(N:List Str)(e:AT)(m:AX):Prop:=∀cl C s H Ad G0 H0,Ah (Ow X E scope N cl C s H Ad) (E8 X.K G0 H0 E) e m
def i9(nl:Nat)(caps:List Nat){mi:Al}{set:D->AH->R AH}(PD:YN X E)(S:Ov X.env.scope X.N scope N nl caps=true)(AC:KH X (E8 X.K G0 H0 E) Bd iter mi)(AW:YP X E scope N Bd set)(he:jq X E scope N elt me)(AG:X.calm=true:=by rfl)(hs:∀x,Ki iter X.env x=pure x:=by intro _;rfl):Jm X (E8 X.K G0 H0 E) (.ListComp elt [⟨Bd,iter,[],0⟩] scope pos) (Nx nl caps mi set me):=by obtain⟨⟨g,g1,g2⟩,g3,HO⟩:=AW;exact⟨Ao.imp (qR (sa PD) (.of S) AG AC.1 g1 (λ_ _ _ _ _ _ _ _ _ _ I⟨_,_,h⟩=>ey _ _ _ _ _ I h) (λcl C s H Ad pins s' σ H' Lw I⟨Ae,H1,h⟩=>(he cl C s H Ad Ae H1).1 pins s' σ H' Lw I h) hs) (dt (po:=id) rfl (λ_=>rfl) (λ_=>.inr ⟨rfl,rfl⟩) (λG H=>g2 _ rfl) g3 HO)⟩
def ahD(i:Nat)(nl:Nat)(caps:List Nat){y:Str}{py:Pos}{mi:Al}{set:D->AH->R AH}{cpos:Pos}(PD:YN X E)(Bs:X.N.Nodup)(S:Ov X.env.scope X.N scope N nl caps=true)(AC:KH X (E8 X.K G0 H0 E) Bd iter mi)(AW:YP X E scope N Bd set)(he:jq X E scope N elt me)(BO:X.N[i]?=some y:=by rfl)(AF:X.env.kindOf y=some .local:=by rfl)(Np:MV (.ListComp elt [⟨Bd,iter,[],0⟩] scope cpos) (some (.Name y py)) pos.line X.env=pure true:=by rfl)(AG:X.calm=true:=by rfl)(hs:∀x,Ki iter X.env x=pure x:=by intro _;rfl) :
  FL X (E8 X.K G0 H0 E) (.Assign [.Name y py] (.ListComp elt [⟨Bd,iter,[],0⟩] scope cpos) pos) (GI i (Nx nl caps mi set me)):=by
 obtain⟨⟨g,g1,g2⟩,g3,HO⟩:=AW;refine⟨DF.imp (t:=Oa (Je (E8 X.K G0 H0 E) (Nx nl caps mi set me)) (IC i)) ?_ du⟩;exact DF.imp (pf (sa PD) (.of S) AG Bs BO AF AC.1 g1 (λ_ _ _ _ _ _ _ _ _ _ I⟨_,_,h⟩=>ey _ _ _ _ _ I h) (λcl C s H Ad pins s' σ H' Lw I⟨Ae,H1,h⟩=>(he cl C s H Ad Ae H1).1 pins s' σ H' Lw I h) Np hs) λCZ σ H h=>dt (po:=id) rfl (λ_=>rfl) (λ_=>.inr ⟨rfl,rfl⟩) (λG H=>g2 _ rfl) g3 HO σ H _ h
end
def ar{P:Bt}{w:Bg}{K:AZ}{mg:Str->Option A4}{base:B1}{N:List Str}{qual:Str}{scope:D9}{f:A3}{cd:A4}{A:C3}{outer:List Env}{s0:AL}{Ha:A8}{E:CS}:YN (Eb (Ep P w) P w K mg base N qual scope f cd A outer s0 Ha E) E:=⟨rfl,rfl,rfl,λ_ _ h=>h⟩
end CP
namespace C7
open PySem PySem.Spec PyProof.Rows
def acw{X:AY}{CX:KA}{E:CS}{i:Nat}{x:Str}{p pos:Pos}{e:AT}{es:List AT}{t:EX}(mb:A3->J0->Prop)(Jr:∀f sp,mb f sp->∃k fd AK,HY X.prog X.w X.K X.mg X.base CX k f fd AK sp/\DY k X.A/\Ir X.K (.ref f)=true/\Binds X.K fd AK [])(Bs:X.N[i]?=some x)(Be:H_ X.env.scope x)(AA:Passes CX X E)(A1:F1 X (e::es) t)(hd:(x==("__debug__" :Str))=false)(Dj:(x==("__classdict__" :Str))=false)(he:Ap (e::es) X.env=(false,BE e X.env)::Ap es X.env)(Cz:(Cj pos (Ap es X.env)).any (·.1)=false) :
  Ao X (.Call (.Name x p) (e::es) [] pos) (λσ H Q=>∃f sp,σ[i]?=some (some (.ref f))/\mb f sp/\Vy sp [] E t σ H Q):=by
 rintro pins s σ H Q I ⟨f,sp,ev,hf,h⟩;obtain⟨k,fd,AK,F,A6,AQ,J⟩:=Jr f sp hf;refine Rs (Gs (Ks Bs Be hd Dj pins s σ H (λv H1=>v=.ref f/\H1=H) I ⟨.ref f,ev,rfl,rfl⟩) (λu s1⟨v,H1,Ak,AE,Aa⟩=>?_) λ_ _ z=>z);obtain⟨rfl,rfl⟩:=Aa;have AE:u=.ref f:=AE;subst AE;refine Xm (h₀:=X.base) I.ok.mod.Mr AQ (Ba (A1 pos pins s1 σ H1 _ Ak h) λus s2⟨vs,Aw,Bq,r,q⟩=>⟨Bq.FI,?_⟩) he Cz;exact bR F A6 J .nil AA Bq r q
end C7
namespace CP
open PySem PySem.Spec C7
structure O2(K:AZ)(mg:Str->Option A4)(x:Str):Prop where
 ex:∃f,mg x=some (.ref f)/\EW K x f
abbrev Tab:=Str->Option (List D->R BQ)
structure PB(P:Bt)(w:Bg)(K:AZ)(mg:Str->Option A4)(base:B1)(k:Nat)(tab:Tab):Prop where
 ok:∀x mf,tab x=some mf->(∃j,j<=k/\GS P w K mg base x 1 j mf)/\O2 K mg x
def ce(tab:Tab)(m:Al)(ρ:AH):Option DG->R D
 |some (.AM (.fn x))=>match tab x with
  |some mf=>Au 1 mf m ρ
  |none=>.bad
 |_=>.bad
def Ic(i:Nat)(tab:Tab)(m:Al):AX:=λρ=>ce tab m ρ ρ[i]?
section
variable{X:AY}{F:BK}{e:AT}{es:List AT}{pos p:Pos}{ma:Al}{E:CS}{G0 H0:A8}
def R8{x:Str}(c:O2 X.K X.mg x)(Ag:F.K=X.K:=by rfl)(AW:DI X x:=by rfl)(hd:(x==("__debug__" :Str))=false:=by decide):Ah X F (.Name x pos) (A7 (.fn x)):=by obtain⟨f,hm,AG⟩:=c.ex;refine⟨Ao.imp (qS (v:=.ref f) AW hm rfl hd) ?_⟩;rintro σ H Q ⟨G,ρ,r,h⟩;exact h _ H G r (Bl.refl _ _) (by simp only[At];exact⟨f,[],rfl,by rw[Ag];exact AG,rfl⟩)
def I0{x:Str}{n k:Nat}{mf:List D->R BQ}(Am:Passes (Ep X.prog X.w) X E)(c:GS X.prog X.w X.K X.mg X.base x n k mf)(A6:DY k X.A)(A1:EZ X (E8 X.K G0 H0 E) (e::es) ma)(AW:DI X x:=by rfl)(Fn:(x==("__debug__" :Str))=false:=by decide)(he:Ap (e::es) X.env=(false,BE e X.env)::Ap es X.env:=by rfl)(Cz:(Cj pos (Ap es X.env)).any (·.1)=false:=by rfl) :
  Ah X (E8 X.K G0 H0 E) (.Call (.Name x p) (e::es) [] pos) (Au n mf ma):=by
 obtain⟨Vp,fd,AK,AU,HL,hm,AQ,J⟩:=c.ex;exact⟨Ao.imp (WI HL A6 AW hm AQ J .nil Am A1.1 Fn he Cz) (Yn (F:=E8 X.K G0 H0 E) (xe:=U4 X.K) (E:=E) rfl)⟩
def am(i:Nat){y:Str}{k:Nat}{tab:Tab}(Am:Passes (Ep X.prog X.w) X E)(T:PB X.prog X.w X.K X.mg X.base k tab)(A6:DY k X.A)(A1:EZ X (E8 X.K G0 H0 E) (e::es) ma)(Bs:X.N[i]?=some y:=by rfl)(Be:H_ X.env.scope y:=by first|exact EV rfl|exact DS (EV rfl)|exact DS (DS rfl))(hd:(y==("__debug__" :Str))=false:=by decide)(Dj:(y==("__classdict__" :Str))=false:=by decide)(he:Ap (e::es) X.env=(false,BE e X.env)::Ap es X.env:=by rfl)(Cz:(Cj pos (Ap es X.env)).any (·.1)=false:=by rfl) :
  Ah X (E8 X.K G0 H0 E) (.Call (.Name y p) (e::es) [] pos) (Ic i tab ma):=by
 refine⟨Ao.imp (acw (λf sp=>∃x mf,tab x=some mf/\EW X.K x f/\sp=OX X.K 1 (U4 X.K) mf) (λf sp⟨x,mf,BB,AG,hs⟩=>?_) Bs Be Am A1.1 hd Dj he Cz) ?_⟩
 .subst hs;obtain⟨⟨j,Bx,aa7⟩,x7⟩:=T.ok x mf BB;obtain⟨Vp,fd,AK,AU,HL,hm,AQ,J⟩:=aa7.ex;obtain⟨f2,P3,Hc⟩:=x7.ex;have AD:f2=Vp:=by rw[hm]at P3;cases P3;rfl
  have AR:f2=f:=by unfold EW at AG Hc;rw[AG]at Hc;cases Hc;rfl
  subst AD AR;exact⟨j,fd,AK,HL,A6.mono Bx,AQ,J⟩
 .rintro σ H Q ⟨G,ρ,r,h⟩;unfold Ic at h;cases CV:ρ[i]? with
  |none=>rw[CV]at h;cases h
  |some s=>
   rw[CV]at h;cases s with
   |un=>cases h
   |Aj _=>cases h
   |Fq _=>cases h
   |AM d=>
    cases d with
    |fn x=>
     simp only[ce]at h;obtain⟨v,ev,Av⟩:=r.AM CV;simp only[At]at Av;obtain⟨a,_,rfl,AG,_⟩:=Av;cases Nf:tab x with
     |none=>rw[Nf]at h;cases h
     |some mf=>rw[Nf]at h;exact⟨a,_,ev,⟨x,mf,Nf,AG,rfl⟩,Yn (F:=E8 X.K G0 H0 E) (xe:=U4 X.K) (E:=E) rfl σ H Q ⟨G,ρ,r,h⟩⟩
    |_=>cases h
end
noncomputable def adJ:V->List V->A8->C_->Prop:=λx vs H Q=>∃a b,x=.str a/\vs=[.str b]/\(b.length==0)=false/\a.length<=CF/\(Jw a b).length<=CF/\∀p,H p=none->Q (.ref p) (upd H p (.lst ((Jw a b).map V.str)))
theorem sT:∀(xs:List Str)(n:Nat),Vals (xs.map V.str) (strsFrom n xs)
 |[],_=>.nil
 |x::xs,n=>.cons ⟨_,rfl⟩ (sT xs (n+1))
def aa_{X:AY}:Yb X "str.split" adJ:=by
 intro pins s σ H x vs v us Q I BF Bj h;obtain⟨a,b,rfl,rfl,h0,h1,h2,q⟩:=h;obtain⟨t,rfl⟩:=BF;obtain⟨u,rfl,Ds⟩:=vals1 Bj;obtain⟨t',rfl⟩:=Ds;have T0:=q s.heap.objs.size (I.BU.fresh (CO _));have one:Jw a b=[a]->listOfItself a t X.A (wants (G1 X pins σ Q) X.xe) s:=λe=>by rw[e]at T0;exact⟨.ref s.heap.objs.size,_,I.WW (its:=[.str a t]) (ys:=[.str a]) (t':=s.toks) (.cons ⟨t,rfl⟩ .nil) (show 1<=CF by decide),rfl,T0⟩
 by_cases BP:(decide (a.length<b.length)||decide (QB a<QB b))=true
 .exact MR XV rfl ik (ix _ _) (meets_str_split_cannot_occur a b t t' BP) (one (by unfold Jw;rw[if_pos BP]))
 .have k_:=Bool.eq_false_iff.mpr BP;by_cases Ce:(UH a b 0 a.length (a.length+1)).isEmpty=true
  .exact MR XV rfl ik (ix _ _) (meets_str_split_not_found a b t t' k_ h0 Ce) (one (by unfold Jw;rw[if_neg BP,if_pos Ce]))
  .have e:Jw a b=Builtin.Str.partsBetween a (UH a b 0 a.length (a.length+1)) b.length:=by unfold Jw;rw[if_neg BP,if_neg Ce]
   rw[e]at h2 T0;refine MR XV rfl ik (ix _ _) (meets_str_split_sep a b t t' k_ h0 (Bool.eq_false_iff.mpr Ce) h1 h2) ?_;exact⟨.ref s.heap.objs.size,_,I.WW (sT _ _) (by rw[Gp];exact h2),rfl,T0⟩
def bb(a:Str):D->R (List D)
 |.str b=>if(b.length==0)=false/\a.length<=1000/\(Jw a b).length<=1000 then .ok ((Jw a b).map .str)else .bad
 |_=>.bad
def hW(n:AX)(ρ:AH):D->R (List D)
 |.str a=>(n ρ).bind (bb a)
 |_=>.bad
def ae(m n:AX):Al:=λρ=>(m ρ).bind (hW n ρ)
theorem l1{K:AZ}{G:A8}:∀xs:List Str,Ac K G (xs.map .str) (xs.map V.str)
 |[]=>.nil
 |x::xs=>.cons (by simp only[At]) (l1 xs)
section
variable{X:AY}{F:BK}{o e:AT}{m n:AX}
def ahA {apos cpos:Pos} (AN:Ah X F o m) (he:Ah X F e n)(ID:JL o "split" X.env (BE o X.env)=BE o X.env:=by rfl) (IF:(apos.endLine==cpos.line)=true:=by rfl)(IE:((Cj cpos (Ap [e] X.env)).all (λx=>!x.1)&&(Hw cpos (Ht [] X.env)).all (λx=>x.1.isSome)
    &&decide (([e]:List AT).length+([]:List GA).length+(if([]:List GA).isEmpty then 0 else 1)<30))=true:=by rfl)
  (hs:Ap [e] X.env=(false,BE e X.env)::Ap [] X.env:=by rfl) (IG:(Cj cpos (Ap [] X.env)).any (·.1)=false:=by rfl) :
  Jm X F (.Call (.Attribute o "split" apos) [e] [] cpos) (ae m n):=by
 refine⟨Ao.imp (Pd tK XV PySem.F.type_str_split aa_ AN.1 (Kr he.1 N1 hs) ID IE IF hs IG) ?_⟩;rintro σ H Q ⟨G,ρ,r,h⟩;unfold ae at h;refine⟨G,ρ,r,?_⟩;refine rb h λd Ai h v H1 Ae AE s1 Av=>?_;cases d with
 |str a=>
  simp only[hW]at h;simp only[At]at Av;subst Av;refine⟨rfl,Ae,ρ,AE,?_⟩;refine rb h λCC BC h v2 Aw Cw B4 s2 ZK=>?_;cases CC with
  |str b=>
   simp only[At]at ZK;subst ZK;simp only[bb]at h;by_cases AG:(b.length==0)=false/\a.length<=1000/\(Jw a b).length<=1000
   .rw[if_pos AG]at h;refine⟨a,b,rfl,rfl,AG.1,EB AG.2.1 (by decide),EB AG.2.2 (by decide),λp Am=>?_⟩;exact h p _ _ Cw (B4.lay0 Am) ((s1.trans s2).trans (Bl.lay0 Am)) ((s1.h.trans s2.h).gone Am) Du (B4.AV.sub.gone Am) (l1 _)
   .rw[if_neg AG]at h;cases h
  |_=>cases h
 |_=>cases h
end
def We(BY:Str)(n:Nat)(mf:List D->R (List Str×List D))(ma:Al):AX:=λρ=>(ma ρ).bind λds=>if ds.length=n then(mf ds).bind λx=>.ok (.ins BY x.1 x.2)else .bad
section
variable{X:AY}{e:AT}{es:List AT}{pos p:Pos}{ma:Al}{E:CS}{G0 H0:A8}
def yr{K:AZ}{BY:Str}{n:Nat}{mf:List D->R (List Str×List D)}{C:A3}(Fa:EW K BY C):El (Ca (E8 K G0 H0 E) (We BY n mf ma)) (hC C (Vw K BY n mf) [] E (EM (E8 K G0 H0 E) ma)):=by
 rintro σ H Q ⟨G,ρ,r,h⟩;unfold We at h;refine⟨G,ρ,r,?_⟩;refine rb h λds Ai h vs H1 Ae AE s1 Av x Ar AA VO ne=>?_;by_cases AU:ds.length=n
 .rw[if_pos AU]at h;rw[LY];have OS:=oq (C:=C) AA VO;have gj:Sub Ae (upd (upd H1 Ar (.own x)) x (.ins C Ar [])):=AE.AV.sub.trans (OS.trans (ci _ _));refine⟨Ae,x,C,Ar,ds,vs,rfl,Fa,Du,AE.AV.sub.gone AA,gj,Av,AU,?_⟩;have mG:∀{G' H':A8},Eg (E8 K Ae (del (upd (upd H1 Ar (.own x)) x (.ins C Ar [])) x) E) G' H'->Rel (E8 K G0 H0 E) G' H' σ ρ:=λk=>AE.grow k.FP k.sub (OS.trans k.BN) λb J=>k.new b (OS.some J);cases em:mf ds with
  |bad=>rw[em]at h;cases h
  |exc c=>rw[em]at h;exact λG' H' k=>h G' H' (mG k).AV
  |ok y=>obtain⟨ns,es'⟩:=y;rw[em,R.E_]at h;intro Vi xs G' H' k g1 g2 g3 HO;refine⟨rfl,?_⟩;have BN:Sub H1 H':=OS.trans k.BN;have nw:∀b,H1 b≠none->G' b=Ae b:=λb J=>k.new b (OS.some J);have no:¬Da H' σ ρ x:=Da.fresh AE BN AA;refine h (.ref x) H' _ ((mG k).take g2 g1 (AE.AV.BN.gone AA) no) ((s1.trans ⟨k.FP,BN,nw⟩).put (s1.h.gone AA) g1) ?_;simp only[At];exact⟨x,Vi,xs,rfl,⟨C,Fa,Du⟩,g3,HO.mono (Sub.upd g1)⟩
 .rw[if_neg AU]at h;cases h
def ahc{BY:Str}{n k:Nat}{mf:List D->R (List Str×List D)}(Am:Passes (Ep X.prog X.w) X E)(c:YZ X.prog X.w X.K X.mg X.base BY n k mf)(A6:DY (k+1) X.A)(A1:EZ X (E8 X.K G0 H0 E) (e::es) ma)(AW:DI X BY:=by rfl)(Fn:(BY==("__debug__" :Str))=false:=by decide)(he:Ap (e::es) X.env=(false,BE e X.env)::Ap es X.env:=by rfl)(Cz:(Cj pos (Ap es X.env)).any (·.1)=false:=by rfl):Ah X (E8 X.K G0 H0 E) (.Call (.Name BY p) (e::es) [] pos) (We BY n mf ma):=by obtain⟨C,f,fd,AK,BP,Ce,HL,hm,J⟩:=c.ex;exact⟨Ao.imp (qT Ce HL A6 AW hm J .nil Am A1.1 Fn he Cz) (yr BP)⟩
end
def cF(i:Nat)(ρ:AH)(d:D):Option DG->R HH
 |some (.AM (.int a))=>match d with
  |.int b=>(BI i (.int (a+b)) ρ).bind λBZ=>.ok (.Bb BZ)
  |_=>.bad
 |_=>.bad
def WY(i:Nat)(m:AX):Ay:=λρ=>(Fb (m ρ)).bind λd=>cF i ρ d ρ[i]?
section
variable{X:AY}{F:BK}{e:AT}{pos:Pos}{m:AX}
def ahC(i:Nat){x:Str}{p:Pos}(Bs:X.N.Nodup)(he:Ah X F e m)(AC:X.N[i]?=some x:=by rfl)(AA:Loc X.env.scope x:=by first|exact EV rfl|exact DS rfl)(hf:X.fn x=true\/X.env.scope.names.lookup x=some .local:=by first|exact .inl rfl|exact .inr rfl):FL X F (.AugAssign (.Name x p) .Add e pos) (WY i m):=by
 refine⟨DF.imp (ac8 Bs AC AA he.1 yd hf) ?_⟩;rintro CZ σ H ⟨G,ρ,r,h⟩;unfold WY at h;cases Ai:m ρ with
 |bad=>rw[Ai]at h;cases h
 |exc c=>rw[Ai]at h;cases h
 |ok d=>
  rw[Ai]at h;replace h:He F G CZ (cF i ρ d ρ[i]?):=h;cases CV:ρ[i]? with
  |none=>rw[CV]at h;cases h
  |some s=>
   rw[CV]at h;cases s with
   |un=>cases h
   |Aj _=>cases h
   |Fq _=>cases h
   |AM Vd=>
    cases Vd with
    |int a=>
     cases d with
     |int b=>
      simp only[cF]at h;obtain⟨v,ev,Av⟩:=r.AM CV;simp only[At]at Av;subst Av;refine⟨.int a,ev,G,ρ,r,?_⟩;rw[Ai];intro w H1 Ae AE s1 I8;simp only[At]at I8;subst I8;refine⟨a,b,rfl,rfl,?_⟩;unfold BI at h;by_cases AF:i<ρ.length
      .rw[if_pos AF,R.E_]at h;exact h _ Ae H1 (AE.set AF (by simp only[At])) s1.g
      .rw[if_neg AF]at h;cases h
     |_=>cases h
    |_=>cases h
end
end CP
namespace C7
open PySem PySem.Spec PyProof.Rows
def sg{z TI BV BG BH l BR:A3}(ap:ZG z TI BV BG BH)(NV:∀b∈[z,TI,BV,BG,BH],l≠b)(nl:∀b∈[z,TI,BV,BG,BH],BR≠b):PF z TI BV BG BH [BG,l] [BH,BR]:=by
 refine⟨ap.TIz,ap.TOz,ap.TITO,ap.TIi1,ap.TIi2,ap.TOi1,ap.TOi2,ap.i1z,ap.i2z,ap.i12,?_,?_,?_,?_,?_,?_⟩<;>simp only[Fz,FW,or_false,not_or]
 .exact⟨ap.i1z.symm,(NV z (by simp)).symm⟩
 .exact⟨ap.TOi1,(NV BV (by simp)).symm⟩
 .exact⟨ap.i12.symm,(NV BH (by simp)).symm⟩
 .exact⟨ap.i2z.symm,(nl z (by simp)).symm⟩
 .exact⟨ap.TOi2,(nl BV (by simp)).symm⟩
 .exact⟨ap.i12,(nl BG (by simp)).symm⟩
def nL(k:Bool):String:=if k then "tuple_iterator" else "list_iterator"
def Ss(k:Bool)(h:B1)(l:A3)(xs:Array A4):Prop:=match k with|true=>h.IsTuple l xs|false=>h.IsList l xs
def N8(k:Bool)(h:B1)(i l:A3)(n:Nat):Prop:=match k with|true=>h.IsTupleIter i l n|false=>h.IsListIter i l n
def I6(k:Bool)(K:AZ)(H:A8)(l:A3)(xs:List V):Prop:=match k with|true=>CA K H l xs|false=>Bp K H l xs
def N8.Aj{k:Bool}{h:B1}{i l:A3}{n:Nat}(q:N8 k h i l n):∃o,h.get? i=some o/\(∀v,o.data≠.cell v)/\∀h':B1,h'.get? i=some o->N8 k h' i l n:=by cases k<;>obtain⟨o,e,AE,B4⟩:=q<;>exact⟨o,e,λv z=>(by rw[B4]at z;cases z),λh' Bw=>⟨o,Bw,AE,B4⟩⟩
section
variable{k:Bool}{X:AY}{pins:List (A3×Obj)}{σ :St}{H:A8}{s:AL}{l b:A3}{xs ys:List V}{L:List A3}
def Inv.seq(I:Inv X pins σ H s)(h:I6 k X.K H l xs):∃its:List A4,Vals xs its/\Ss k s.heap l its.toArray:=by
 cases k
 .obtain⟨its,r,p,_⟩:=I.list h;exact⟨its,r,p.isList⟩
 .obtain⟨its,r,p,_⟩:=I.tuple h;exact⟨its,r,p⟩
def Inv.rM(I:Inv X pins σ H s)(h:I6 k X.K H l xs)(h':I6 k X.K H l ys):xs=ys:=by
 cases k
 .exact I.aU h h'
 .exact I.bD h h'
def a6(I:Inv X pins σ H s)(hf:∀b∈L,HZ X pins H b)(J:b∈L)(Ab:I6 k X.K H l xs):l≠b:=λq=>by
 subst q;cases k<;>rcases Ab with(h|⟨o,h⟩)|⟨o,TV,n,h,_⟩
 all_goals first
  |(rw[(hf l J).1]at h;cases h;done)
  |(have h1:=I.ok.mod.Mr l o h
    rcases(hf l J).2.2.2.1 with q|q
    .exact I.ok.Pa l o h1 q
    .exact absurd (Fk (D3 (I.ok.bs l o h1).1) q) (Hv _))
end
def Yu(k:Bool){prog:Bt}{w:Bg}{A:C3}(BN:A.handled=none)(it l:A3)(M2:l≠it)(items:Array A4) :
  Kn prog w A it [it,l] items.size (λi v=>items[i]?=some v) (λi h=>N8 k h it l i/\Ss k h l items):=by
 cases k
 .exact Draws.list BN it l M2 items
 .exact cq BN it l M2 items
abbrev XC(k:Bool)(h:B1)(l:A3):B1:=h.push { cls:=.type (nL k),data:=.fields #[.ref l,.int 0 0] }
abbrev XD(k k2:Bool)(h:B1)(l BR:A3):B1:=(XC k h l).push { cls:=.type (nL k2),data:=.fields #[.ref BR,.int 0 0] }
abbrev XE(k k2:Bool)(h:B1)(l BR:A3):B1:=(XD k k2 h l BR).push { cls:=.type "tuple",data:=.seq #[.ref h.objs.size,.ref (XC k h l).objs.size] }
abbrev XF(k k2:Bool)(h:B1)(l BR:A3):B1:=(XE k k2 h l BR).push { cls:=.type "tuple",data:=.seq #[.none,.none] }
abbrev Rb(k k2:Bool)(h:B1)(l BR:A3):B1:=(XF k k2 h l BR).push { cls:=.type "zip",data:=.fields #[.none,.bool false,.bool false,.ref (XD k k2 h l BR).objs.size,.ref (XE k k2 h l BR).objs.size] }
set_option maxHeartbeats 4000000 in
def aaQ(k k2:Bool)(l BR:A3)(xs ys:Array A4) :
  Meets (Builtin.«zip.__new__» ⟨[.type "zip",.ref l,.ref BR],[]⟩) (λ_ R s=>Ss k s.heap l xs/\Ss k2 s.heap BR ys/\R (.ok (.ret (.ref (XF k k2 s.heap l BR).objs.size))) { s with heap:=Rb k k2 s.heap l BR }):=
 .of_wp λprog w A R s h=>by
   obtain⟨Am,g,d,C8,os⟩:=s;obtain⟨AF,L8,h⟩:=h;have Mn:=sub_zip;cases k<;>cases k2
   .have Nj:Y9 (UO ⟨Am.push { cls:=.type "list_iterator",data:=.fields #[.ref l,.int 0 0] },g,d,C8,os⟩) BR ys:=tQ L8 _;have AF:Y9 Am l xs:=AF
    wp_walk using QK AF,QK Nj
    exact⟨_,rfl,h⟩
   .have Nj:UR (UO ⟨Am.push { cls:=.type "list_iterator",data:=.fields #[.ref l,.int 0 0] },g,d,C8,os⟩) BR ys:=jA L8 _;have AF:Y9 Am l xs:=AF
    wp_walk using QK AF,Rr Nj
    exact⟨_,rfl,h⟩
   .have Nj:Y9 (UO ⟨Am.push { cls:=.type "tuple_iterator",data:=.fields #[.ref l,.int 0 0] },g,d,C8,os⟩) BR ys:=tQ L8 _;have AF:UR Am l xs:=AF
    wp_walk using Rr AF,QK Nj
    exact⟨_,rfl,h⟩
   .have Nj:UR (UO ⟨Am.push { cls:=.type "tuple_iterator",data:=.fields #[.ref l,.int 0 0] },g,d,C8,os⟩) BR ys:=jA L8 _;have AF:UR Am l xs:=AF
    wp_walk using Rr AF,Rr Nj
    exact⟨_,rfl,h⟩
theorem u_ (k k2:Bool) {prog:Bt} {w:Bg} {A:C3} {E:A4->AL->Prop} {s:AL} {l BR:A3} {xs ys:Array A4} {Q:A4->AL->Prop} (AF:Ss k s.heap l xs) (L8:Ss k2 s.heap BR ys)(h:∀h',HW h' (s.heap.objs.size+4) (s.heap.objs.size+2) (s.heap.objs.size+3) .none->FX h' (s.heap.objs.size+2) (.ref s.heap.objs.size) (.ref (s.heap.objs.size+1))->
    FX h' (s.heap.objs.size+3) .none .none->N8 k h' s.heap.objs.size l 0->N8 k2 h' (s.heap.objs.size+1) BR 0->h'.objs.size=s.heap.objs.size+5->
    (∀c o,s.heap.get? c=some o->h'.get? c=some o)->Q (.ref (s.heap.objs.size+4)) { s with heap:=h' }) :
  An (BA prog w) A (call (.type "zip") [.ref l,.ref BR]) Q E s:=by
 refine callType_new F.called_zip (by decide) (F.typeCall_zip_2 _ _) (F.newCall_zip_2 _ _) (λobj=>F.args_object_init_3 obj _ _) F.entry_zip_new (aaQ k k2 l BR xs ys) ⟨AF,L8,?_⟩;have Dv:(XC k s.heap l).objs.size=s.heap.objs.size+1:=HU ..;have Co:(XD k k2 s.heap l BR).objs.size=s.heap.objs.size+2:=by rw[HU,Dv]
 have Ji:(XE k k2 s.heap l BR).objs.size=s.heap.objs.size+3:=by rw[HU,Co]
 have OM:(XF k k2 s.heap l BR).objs.size=s.heap.objs.size+4:=by rw[HU,Ji]
 have iD:(Rb k k2 s.heap l BR).objs.size=s.heap.objs.size+5:=by rw[HU,OM]
 have Mj:(Rb k k2 s.heap l BR).get? (XF k k2 s.heap l BR).objs.size=some _:=FV _ rfl;have HO:(Rb k k2 s.heap l BR).get? (XE k k2 s.heap l BR).objs.size=some _:=Cv _ (FV _ rfl);have g3:(Rb k k2 s.heap l BR).get? (XD k k2 s.heap l BR).objs.size=some _:=Cv _ (Cv _ (FV _ rfl));have g2:(Rb k k2 s.heap l BR).get? (XC k s.heap l).objs.size=some _:=Cv _ (Cv _ (Cv _ (FV _ rfl)));have g1:(Rb k k2 s.heap l BR).get? s.heap.objs.size=some _:=Cv _ (Cv _ (Cv _ (Cv _ (FV _ rfl))));show _/\_;rw[Co,Ji,OM]at Mj;rw[Dv,Co]at g3;rw[Ji]at HO;rw[Dv]at g2;rw[OM];exact⟨⟨_,Mj,rfl⟩,h _ Mj g3 HO (by cases k<;>exact⟨_,g1,rfl,rfl⟩) (by cases k2<;>exact⟨_,g2,rfl,rfl⟩) iD λc o x=>
  Cv _ (Cv _ (Cv _ (Cv _ (Cv _ x))))⟩
noncomputable def c6(k k2:Bool)(K:AZ)(l BR:A3):It:=⟨λi H=>∃xs x ys y,I6 k K H l xs/\xs[i]?=some x/\I6 k2 K H BR ys/\ys[i]?=some y,
 λi H v H'=>∃p x y,H p=none/\H'=upd H p (.tup [x,y])/\v=.ref p/\(∀xs,I6 k K H l xs->xs[i]?=some x)/\∀ys,I6 k2 K H BR ys->ys[i]?=some y,
 λi H=>∃xs ys,I6 k K H l xs/\I6 k2 K H BR ys/\i=min xs.length ys.length⟩
def ah1{P:Bt}{w:Bg}{K:AZ}{elts:List AT}{CW:Nat}{pos:Pos}(k k2:Bool)(l BR z TI BV BG BH:A3)(ap:ZG z TI BV BG BH) :
  Turn P w K (.Tuple elts CW pos) (c6 k k2 K l BR) [z,TI,BV,BG,BH] z (λi h=>HW h z TI BV .none/\FX h TI (.ref BG) (.ref BH)/\(∃a b,FX h BV a b)/\N8 k h BG l i/\N8 k2 h BH BR i) where
 mem:=by simp
 obj:=λi h st b J=>by
  obtain⟨BL,FQ,⟨a,FN,Fw⟩,s1,s2⟩:=st;obtain⟨CY,AD,d1,_⟩:=s1.Aj;obtain⟨CN,AR,CC,_⟩:=s2.Aj;have J:b=z\/b=TI\/b=BV\/b=BG\/b=BH:=by simpa using J
  rcases J with q|q|q|q|q<;>subst q
  .exact⟨_,BL,λv z=>by have FT:Y5 _=Ot v:=z;cases FT⟩
  .exact⟨_,FQ,λv z=>by have FT:UW _ _=Ot v:=z;cases FT⟩
  .exact⟨_,Fw,λv z=>by have FT:UW _ _=Ot v:=z;cases FT⟩
  .exact⟨CY,AD,d1⟩
  .exact⟨CN,AR,CC⟩
 keep:=λi h h' st AV=>by obtain⟨BL,FQ,⟨a,FN,Fw⟩,s1,s2⟩:=st;obtain⟨CY,AD,_,AE⟩:=s1.Aj;obtain⟨CN,AR,_,B4⟩:=s2.Aj;exact⟨AV z (by simp) _ BL,AV TI (by simp) _ FQ,⟨a,FN,AV BV (by simp) _ Fw⟩,AE _ (AV BG (by simp) _ AD),B4 _ (AV BH (by simp) _ AR)⟩
 item:=by
  intro X DK hw Ag AG i pins s σ H E I hf st AW;subst DK hw Ag;obtain⟨xs,x,ys,y,Pt,AA,Ab,BO⟩:=AW;obtain⟨J6,bS,VT⟩:=I.seq Pt;obtain⟨its,Bj,BB⟩:=I.seq Ab;obtain⟨BL,FQ,⟨a,FN,Fw⟩,No,Es⟩:=st;have nl:∀b∈[z,TI,BV,BG,BH],BR≠b:=λb J=>a6 I hf J Ab;have NV:∀b∈[z,TI,BV,BG,BH],l≠b:=λb J=>a6 I hf J Pt;have BN:X.A.in1.handled=none:=I.ok.hd AG;have GP:=Yu k (prog:=X.prog) (w:=X.w) (A:=X.A.in1) BN BG l (NV BG (by simp)) J6.toArray;have GE:=Yu k2 (prog:=X.prog) (w:=X.w) (A:=X.A.in1) BN BH BR (nl BH (by simp)) its.toArray;have hlen:=Bj.length;have eE:=bS.length;have VQ:i<ys.length:=(List.getElem?_eq_some_iff.mp BO).1;have wL:i<xs.length:=(List.getElem?_eq_some_iff.mp AA).1;have PH:PF z TI BV BG BH [BG,l] [BH,BR]:=sg ap NV nl;refine pr GP GE PH BL FQ Fw ⟨No,VT⟩ ⟨Es,BB⟩ (by rw[DO,<-eE];exact wL) (by rw[DO,<-hlen];exact VQ) λWy Ln h' C8 Dd Cd a1 a2 Dp FM HI Jn AQ=>?_;obtain⟨LP,TU,ad9⟩:=bS.get AA;have ev:LP=Wy:=by rw[XP]at Dd;rw[TU]at Dd;exact EH Dd
  subst ev;obtain⟨H8,VV,Ds⟩:=Bj.get BO;have Mh:H8=Ln:=by rw[XP]at Cd;rw[VV]at Cd;exact EH Cd
  subst Mh;refine⟨_,rfl,?_⟩;refine sw a1 λh2 dp KL=>?_;have gx:∀b∈[z,TI,BV,BG,BH],b<s.heap.objs.size:=λb J=>by
   have J:b=z\/b=TI\/b=BV\/b=BG\/b=BH:=by simpa using J
   obtain⟨CY,AD,_⟩:=No.Aj;obtain⟨CN,AR,_⟩:=Es.Aj;rcases J with q|q|q|q|q<;>subst q
   .exact D3 BL
   .exact D3 FQ
   .exact D3 Fw
   .exact D3 AD
   .exact D3 AR
  have W9:∀b∈[z,TI,BV,BG,BH],b≠s.heap.objs.size:=λb J=>Em (gx b J);have keep:∀b o,b∉[z,BV,BG,BH]->s.heap.get? b=some o->h2.get? b=some o:=λb o J q=>by have J:¬(b=z\/b=BV\/b=BG\/b=BH):=λw=>J (by simpa using w);exact KL.extBut b o (λw=>J (.inl w)) (AQ b o (λw=>J (.inl w)) (λw=>J (.inr (.inl w))) (λw=>J (.inr (.inr (.inl w)))) (λw=>J (.inr (.inr (.inr w)))) q)
  have VU:Xo h2 s.heap.objs.size ([LP,H8]:List A4).toArray:=⟨_,KL.extBut _ _ (W9 z (by simp)).symm HI,rfl,_,rfl⟩;have AU:H s.heap.objs.size=none:=I.BU.fresh (CO _);have Bq:Inv X pins σ (upd H s.heap.objs.size (.tup [x,y])) { s with heap:=h2,toks:=C8 }:=I.iK (its:=[LP,H8]) (ch:=[z,BV,BG,BH]) keep (λb J=>hf b (by
   have J:b=z\/b=BV\/b=BG\/b=BH:=by simpa using J
   rcases J with q|q|q|q<;>simp[q])) (CO _) VU (.cons ad9 (.cons Ds .nil)) (by show 2<=CF;decide)
  refine⟨.ref s.heap.objs.size,_,Bq,rfl,⟨s.heap.objs.size,x,y,AU,rfl,rfl,λzs VW=>by rw[I.rM VW Pt];exact AA,λzs VW=>by rw[I.rM VW Ab];exact BO⟩,?_,λb J=>?_⟩
  .refine⟨dp,KL.extBut _ _ ap.TIz (AQ _ _ ap.TIz ap.TITO ap.TIi1 ap.TIi2 FQ),⟨_,_,KL.extBut _ _ ap.TOz a2⟩,?_,?_⟩
   .obtain⟨CY,AD,_,AE⟩:=N8.Aj Dp.1;exact AE _ (KL.extBut _ _ ap.i1z AD)
   .obtain⟨CN,AR,_,B4⟩:=N8.Aj FM.1;exact B4 _ (KL.extBut _ _ ap.i2z AR)
  .rw[Df (W9 b J)];exact(hf b J).1
 done:=by
  intro X DK hw Ag AG i pins s σ H E I hf st AW;subst DK hw Ag;obtain⟨xs,ys,Pt,Ab,AC⟩:=AW;obtain⟨J6,bS,VT⟩:=I.seq Pt;obtain⟨its,Bj,BB⟩:=I.seq Ab;obtain⟨BL,FQ,⟨a,FN,Fw⟩,No,Es⟩:=st;have nl:∀b∈[z,TI,BV,BG,BH],BR≠b:=λb J=>a6 I hf J Ab;have NV:∀b∈[z,TI,BV,BG,BH],l≠b:=λb J=>a6 I hf J Pt;have BN:X.A.in1.handled=none:=I.ok.hd AG;have GP:=Yu k (prog:=X.prog) (w:=X.w) (A:=X.A.in1) BN BG l (NV BG (by simp)) J6.toArray;have GE:=Yu k2 (prog:=X.prog) (w:=X.w) (A:=X.A.in1) BN BH BR (nl BH (by simp)) its.toArray;have hlen:=Bj.length;have eE:=bS.length;refine pq GP GE (sg ap NV nl) BL FQ Fw ⟨No,VT⟩ ⟨Es,BB⟩ ?_ λh' C8 CW=>⟨rfl,I.Ww (ch:=[z,BV,BG,BH]) (λb o J q=>?_) λb J=>hf b ?_⟩
  .have es:its.toArray.size=its.length:=by simp
   have vq:J6.toArray.size=J6.length:=by simp
   rw[es,vq,<-hlen,<-eE];omega
  .have J:¬(b=z\/b=BV\/b=BG\/b=BH):=λw=>J (by simpa using w);exact CW b o (λw=>J (.inl w)) (λw=>J (.inr (.inl w))) (λw=>J (.inr (.inr (.inl w)))) (λw=>J (.inr (.inr (.inr w)))) q
  .have J:b=z\/b=BV\/b=BG\/b=BH:=by simpa using J
   rcases J with q|q|q|q<;>simp[q]
 self:=λA i s Q E st h=>XZ st.1 h
section
variable{X:AY}{elts:List AT}{CW:Nat}{Pp:Pos}
def nc(K:AZ)(Bu:EX):TI:=λσ H R=>Bu σ H λvs H1=>∃k k2 l BR,vs=[.ref l,.ref BR]/\(∃xs,I6 k K H1 l xs)/\(∃ys,I6 k2 K H1 BR ys)/\R (c6 k k2 K l BR) H1
def ahN{pins:List (A3×Obj)}{σ :St}{H:A8}{s:AL}{n b:A3}(I:Inv X pins σ H s)(AU:n=s.heap.objs.size)(J:b∈[n+4,n+2,n+3,n,n+1]):HZ X pins H b:=by
 subst AU;have J:s.heap.objs.size<=b:=by
  have J:b=s.heap.objs.size+4\/b=s.heap.objs.size+2\/b=s.heap.objs.size+3\/b=s.heap.objs.size\/b=s.heap.objs.size+1:=by simpa using J
  rcases J with q|q|q|q|q
  .rw[q];exact LX _ _
  .rw[q];exact LX _ _
  .rw[q];exact LX _ _
  .rw[q];exact CO _
  .rw[q];exact LX _ _
 exact I.Ng J (I.BU.fresh J)
def acS{a b:AT}{Bu:EX}{p pos:Pos}(AW:DI X "zip")(hm:X.mg "zip"=none)(A1:F1 X [a,b] Bu)(hs:Ap [a,b] X.env=[(false,BE a X.env),(false,BE b X.env)]:=by rfl)(Es:Ap [b] X.env=[(false,BE b X.env)]:=by rfl) :
  GF X (.Tuple elts CW Pp) (.Call (.Name "zip" p) [a,b] [] pos) (nc X.K Bu):=by
 have J:Js "zip"=some (.type "zip"):=by kernel_rfl
 intro pins s σ H R I h;refine jI (Nu I AW hm J (QE (Ba (A1 pos pins s σ H _ I h) λus s1⟨vs,H1,Ak,AE,Aa⟩=>?_) (by rw[hs,Es]) (by rw[Es];rfl)));obtain⟨k,k2,l,BR,e,⟨xs,AA⟩,⟨ys,BO⟩,q⟩:=Aa;subst e;obtain⟨u,Ln,rfl,Ds,ad7⟩:=vals2 AE;cases Ds;cases ad7;obtain⟨J6,_,VT⟩:=Ak.seq AA;obtain⟨its,_,BB⟩:=Ak.seq BO;refine u_ k k2 VT BB λh' a1 a2 Dp FM HI Jn AQ=>?_;have Bq:Inv X pins σ H1 { s1 with heap:=h' }:=Ak.kept (t':=s1.toks) AQ;refine XZ a1 ?_;exact⟨s1.heap.objs.size+4,[s1.heap.objs.size+4,s1.heap.objs.size+2,s1.heap.objs.size+3,s1.heap.objs.size,s1.heap.objs.size+1],_,_,H1,rfl,Bq,ah1 k k2 l BR _ _ _ _ _ (sj s1.heap.objs.size),⟨a1,a2,⟨_,_,Dp⟩,FM,HI⟩,λb J=>ahN Ak rfl J,q⟩
end
end C7
namespace CP
open PySem PySem.Spec C7 PyProof.Rows
section
variable{X:AY}{F:BK}{a b:AT}{pos p:Pos}{ma:Al}
def zip2(xs ys:List D):List D:=(xs.zip ys).map λp=>.tup [p.1,p.2]
def PA{k:Bool}{K:AZ}{G H:A8}{l:A3}{xs:List V}(s:Sub G H)(h:I6 k K G l xs):I6 k K H l xs:=by
 cases k
 .exact Bp.mono s h
 .exact CA.mono s h
def hX:D->Option (Bool×List D)
 |.tup xs=>some (true,xs)
 |.DB xs=>some (true,xs)
 |.lst xs=>some (false,xs)
 |_=>none
def iE:List D->R (List D)
 |[a,b]=>match hX a,hX b with
  |some x,some y=>.ok (zip2 x.2 y.2)
  |_,_=>.bad
 |_=>.bad
def qj{K:AZ}{G:A8}{d:D}{x:Bool×List D}{v:V}(e:hX d=some x)(h:At K G d v):∃l xs,v=.ref l/\I6 x.1 K G l xs/\Ac K G x.2 xs:=by
 cases d<;>cases e<;>simp only[At]at h<;>obtain⟨l,xs,rfl,q,al⟩:=h
 .exact⟨l,xs,rfl,CA.of q,al⟩
 .exact⟨l,xs,rfl,Bp.of q,al⟩
 .exact⟨l,xs,rfl,q,al⟩
def yh{k k2:Bool}{K:AZ}{G:A8}{l BR:A3}{ds es:List D}{xs ys:List V}(h:I6 k K G l xs)(q:Ac K G ds xs)(h2:I6 k2 K G BR ys)(B0:Ac K G es ys):Lq K (c6 k k2 K l BR) (zip2 ds es) G where
 go:=λi H s AC=>by
  have AC:i<min ds.length es.length:=by simpa[zip2]using AC
  obtain⟨v,AD,_⟩:=q.get (Dw (show i<ds.length by omega));obtain⟨u,AR,_⟩:=B0.get (Dw (show i<es.length by omega));exact⟨xs,v,ys,u,PA s h,AD,PA s h2,AR⟩
 JJ:=λi H v H' s AC z=>by
  obtain⟨p,x,y,Am,rfl,rfl,AA,BO⟩:=z;obtain⟨d,AD,a1⟩:=q.SA (AA xs (PA s h));obtain⟨e,AR,a2⟩:=B0.SA (BO ys (PA s h2));refine⟨.tup [d,e],?_,.inr ⟨p,_,_,Am,rfl,rfl,rfl,.cons a1 (.cons a2 .nil)⟩⟩;unfold zip2;rw[Fl];have eX:(ds.zip es)[i]?=some (d,e):=by rw[iu];exact⟨AD,AR⟩
  rw[eX];rfl
 stop:=λH s=>⟨xs,ys,PA s h,PA s h2,by simp[zip2,q.length,B0.length]⟩
def Nz(m:Al):Al:=λρ=>(m ρ).bind iE
def yS(Ag:F.K=X.K):P4 (LO F (Nz ma)) (nc X.K (EM F ma)):=by
 rintro σ H Q ⟨G,ρ,r,h⟩;unfold Nz at h;refine⟨G,ρ,r,?_⟩;refine rb h λds Ai h vs H1 Ae AE s1 al=>?_;unfold iE at h
 split at h
 .split at h
  .rename_i AD AR;obtain⟨v,w,rfl,Av,I8⟩:=al.two;obtain⟨l,xs,rfl,Aa,a1⟩:=qj AD Av;obtain⟨BR,ys,rfl,B0,a2⟩:=qj AR I8;refine⟨_,_,l,BR,rfl,⟨xs,by rw[<-Ag];exact PA AE.AV.sub Aa⟩,⟨ys,by rw[<-Ag];exact PA AE.AV.sub B0⟩,?_⟩;rw[<-Ag];exact h _ H1 Ae AE s1 (yh Aa a1 B0 a2)
  .exact h.elim
 .exact h.elim
def se{elts:List AT}{k:Nat}{Qd:Pos}(hm:X.mg "zip"=none)(A1:EZ X F [a,b] ma)(Ag:F.K=X.K:=by rfl)(AW:DI X "zip":=by rfl)(hs:Ap [a,b] X.env=[(false,BE a X.env),(false,BE b X.env)]:=by rfl)(Es:Ap [b] X.env=[(false,BE b X.env)]:=by rfl) :
  KH X F (.Tuple elts k Qd) (.Call (.Name "zip" p) [a,b] [] pos) (Nz ma):=⟨GF.imp (acS AW hm A1.1 hs Es) (yS Ag)⟩
end
end CP
namespace C7
open PySem PySem.Spec PyProof.Rows
section
variable{prog:Bt}{w:Bg}{A:C3}{E:A4->AL->Prop}{s:AL}{a:A3}{o:Obj}{es:Array DictEntry}{C5:Nat}{k:Str}{C8:Tok}
def Pz(es:Array DictEntry)(k:Str):Option A4:=(es.toList.find? λe=>e.key.isStr k).map (·.val)
def p4{Q:Option A4->AL->Prop}(AN:s.heap.get? a=some o)(hd:o.data=.dict es C5)(Nk:(es.all λe=>Xw e.key)=true)(h:Q (Pz es k) { s with toks:=s.toks+1 }) :
  An (BA prog w) A (dictGet a (.str k C8)) Q E s:=by
 unfold dictGet
 try with_reducible refine MT ?_
 refine Az (wpAny_pyHash_str (Az (KTD.kt_dictFind_strs (s:={ s with toks:=s.toks+1 }) AN hd Nk ?_)));have hf:findBy (λk v=>v.isStr k) es k=Pz es k:=by obtain⟨l⟩:=es;simp[findBy,Pz]
 rw[<-hf,findBy_of_findIdx?]at h;cases AC:es.findIdx? λe=>e.key.isStr k with
 |none=>rw[AC]at h;exact CK h
 |some i=>rw[AC]at h;exact Az (wpAny_dictEntries (s:={ s with toks:=s.toks+1 }) AN hd (CK h))
theorem zv{Q:A4->AL->Prop}(hs:(a==JN)=false)(AN:s.heap.get? a=some o)(AG:o.ExactDict)(hd:o.data=.dict es C5)(Nk:(es.all λe=>Xw e.key)=true)(h:Q (.bool (!(Pz es k).isSome)) { s with toks:=s.toks+1 }):An (BA prog w) A (FK .NotIn (.str k C8) (.ref a)) Q E s:=by
 have ty:s.TypeIs (.ref a) "dict":=⟨o,AN,AG.1⟩;show An _ _ (do return .bool (!(<-contains (.ref a) (.str k C8)))) Q E s;refine Az ?_;unfold contains
 try with_reducible refine MT ?_
 refine Az (jX ty F.slot_dict_contains.lookup ?_);show An _ _ (if(some (Value.builtin "dict.__contains__")==some Gr)=true then _ else _) _ E s;rw[if_neg (by rw[beq_builtin_none];exact IN)];refine Az (wpAny_callSpecialUnlessNone?_slot (name:=Rx "__contains__") ty F.slot_dict_contains (Rn F.slot_dict_contains ty F.entry_dict_contains ?_ (args_dict_contains _ _)));show An _ _ (dictGet a (.str k C8)>>=_) _ _ s;refine Az (p4 AN hd Nk ?_);cases q:Pz es k with
 |some v=>rw[q]at h;show An _ _ (ret (.bool true)) _ _ _;exact CK ⟨_,rfl,Ju (CK h)⟩
 |none=>rw[q]at h;show An _ _ (Builtin.Dict.pendingKey? a (.str k C8)>>=_) _ _ _;exact Az (wpAny_pendingKey_other hs (CK ⟨_,rfl,Ju (CK h)⟩))
theorem kd_item{Q:A4->AL->Prop}{v:A4}(AN:s.heap.get? a=some o)(AG:o.ExactDict)(hd:o.data=.dict es C5)(Nk:(es.all λe=>Xw e.key)=true)(Be:Pz es k=some v)(h:Q v { s with toks:=s.toks+1 }):An (BA prog w) A (QS (.ref a) (.str k C8)) Q E s:=by
 have ty:s.TypeIs (.ref a) "dict":=⟨o,AN,AG.1⟩;unfold QS
 try with_reducible refine MT ?_
 refine Az (wpAny_sequenceKey ty (by decide) ?_);refine Az (UI (name:=Rx "__getitem__") ty F.slot_dict_getitem (Rn F.slot_dict_getitem ty F.entry_dict_getitem ?_ (args_dict_getitem _ _)));show An _ _ (dictGet a (.str k C8)>>=_) _ _ s;refine Az (p4 AN hd Nk ?_);rw[Be];exact CK ⟨v,rfl,CK h⟩
end
end C7
namespace CP
open PySem PySem.Spec C7 PyProof.Rows
structure YU(K:AZ)(x:Str)(tab:List (Str×D)):Prop where
 ex:∃a es C5,EW K x a/\(a==JN)=false/\K.lookup a=some ⟨.type "dict",none,.dict es C5,#[]⟩/\KTD.Rows (λd v=>∃c,v=.ref c/\∀G,At K G d (.ref c)) es.toList tab
def Ve(x:Str)(tab:List (Str×D)):D->D->R D
 |.str k,.fn y=>if y=x then .ok (.AI (!(S0 k tab).isSome))else .bad
 |_,_=>.bad
def Ox(x:Str)(tab:List (Str×D)):D->D->R D
 |.fn y,.str k=>if y=x then(match S0 k tab with|some d=>.ok d|none=>.bad)else .bad
 |_,_=>.bad
section
variable{X:AY}{F:BK}{a b:AT}{m n:AX}{pos:Pos}{x:Str}{tab:List (Str×D)}
def kd_all{K:AZ}{es:Array DictEntry}(h:KTD.Rows (λd v=>∃c,v=.ref c/\∀G,At K G d (.ref c)) es.toList tab):(es.all λe=>Xw e.key)=true:=by obtain⟨l⟩:=es;simpa using h.exact
def pz(K:AZ)(x:Str)(tab:List (Str×D)):EI:=λv y H Q=>∃k a,v=.str k/\y=.ref a/\EW K x a/\Q (.AI (!(S0 k tab).isSome)) H
def px(K:AZ)(x:Str)(tab:List (Str×D)):EI:=λv y H Q=>∃k a d,v=.ref a/\y=.str k/\EW K x a/\S0 k tab=some d/\∀c,(∀G,At K G d (.ref c))->Q (.ref c) H
def ab6(T:YU X.K x tab):DX X (FK .NotIn) (pz X.K x tab):=by
 intro pins s σ H v y u Ff Q I BF Bo h;obtain⟨k,a,rfl,rfl,AG,q⟩:=h;obtain⟨t,rfl⟩:=BF;obtain rfl:Ff=Dm a:=Bo;obtain⟨K0,es,C5,JR,hs,AF,A6⟩:=T.ex;have e:K0=a:=by unfold EW at AG JR;rw[AG]at JR;cases JR;rfl
 subst e;refine zv hs (I.FI _ _ AF) ⟨rfl,rfl,rfl⟩ rfl (kd_all A6) ⟨.AI _,H,I.tok _,rfl,?_⟩;have RL:(Pz es k).isSome=(S0 k tab).isSome:=by
  unfold Pz;cases hd:S0 k tab with
  |some d=>obtain⟨v,Be,_⟩:=A6.find_some hd;rw[Be];rfl
  |none=>rw[A6.find_none hd];rfl
 rw[RL];exact q
def abL(Ag:F.K=X.K):G3 F (pz X.K x tab) (Ve x tab):=by
 intro σ ρ G H v y Ar FG Q r B_ C1 k;unfold Ve at k
 split at k
 .rename_i k' Wt
  split at k
  .rename_i e;subst e;simp only[At]at B_ C1;obtain⟨f,_,rfl,AG,_⟩:=C1;rw[Ag]at AG;exact⟨k',f,B_,rfl,AG,k _ H G r (Bl.refl _ _) (by simp only[At])⟩
  .exact k.elim
 .exact k.elim
def abK(Ag:F.K=X.K):G3 F (px X.K x tab) (Ox x tab):=by
 intro σ ρ G H v y Ar FG Q r B_ C1 k;unfold Ox at k
 split at k
 .rename_i Wt k'
  split at k
  .rename_i e;subst e;simp only[At]at B_ C1;obtain⟨f,_,rfl,AG,_⟩:=B_;rw[Ag]at AG
   split at k
   .rename_i d EC;exact⟨k',f,d,rfl,C1,AG,EC,λc JR=>k _ H G r (Bl.refl _ _) (by rw[Ag];exact JR G)⟩
   .exact k.elim
  .exact k.elim
 .exact k.elim
def ahH(T:YU X.K x tab)(A1:Ah X F a m)(J:Ah X F b n)(Ag:F.K=X.K:=by rfl)(hm:HV .NotIn b=false:=by with_unfolding_all rfl):FE X F (.Compare a [.NotIn] [b] pos) (B2 (A9 (Ve x tab) m n)):=⟨Ob (ab6 T) (abL Ag) A1.1 J.1 hm⟩
def s7(T:YU X.K x tab)(A1:Ah X F a m)(J:Ah X F b n)(hs:k6 b:=by intro _ _;rfl)(Ag:F.K=X.K:=by rfl):Ah X F (.Subscript a b pos) (A9 (Ox x tab) m n):=by
 refine⟨Ao.imp (t:=U0 (px X.K x tab) (Ca F m) (Ca F n)) ?_ (V2 (abK Ag))⟩;intro pins s σ H Q I h;refine afQ PySem.F.slot_dict_getitem.lookup hs (Ba (A1.1 pins s σ H _ I h) λu s1⟨v,H1,Ak,BF,Aa⟩=>Ba (J.1 pins s1 σ H1 _ Ak Aa) λGZ s2⟨y,Aw,Bq,Bo,B0⟩=>?_);obtain⟨k,a,d,rfl,rfl,AG,hd,q⟩:=B0;obtain rfl:u=Dm a:=BF;obtain⟨t,rfl⟩:=Bo;obtain⟨K0,es,C5,JR,_,AF,A6⟩:=T.ex;have e:K0=a:=by unfold EW at AG JR;rw[AG]at JR;cases JR;rfl
 subst e;obtain⟨v,Be,c,rfl,H4⟩:=A6.find_some hd;exact⟨⟨_,Bq.FI _ _ AF,rfl⟩,kd_item (Bq.FI _ _ AF) ⟨rfl,rfl,rfl⟩ rfl (kd_all A6) Be ⟨.ref c,Aw,Bq.tok _,rfl,q c H4⟩⟩
def K1{K:AZ}{G:A8}{y:Str}{f:A3}(h:EW K y f):At K G (.fn y) (.ref f):=by simp only[At];exact⟨f,[],rfl,h,rfl⟩
def K_(c:A3):RelV (.ref c) (.ref c):=rfl
end
end CP
namespace CP
open PySem PySem.Spec C7
section
variable{X:AY}{F:BK}{e a b:AT}{m n:AX}{ma:Al}{pos p:Pos}{Bd:AT}
def nJ:R D->Bool
 |.ok (.tup _)=>true
 |.ok (.DB _)=>true
 |_=>false
def aX(m:AX):Al:=λρ=>if nJ (m ρ)=true then Q5 m ρ else ET m ρ
def sb(h:Ah X F e m)(Ag:F.K=X.K:=by rfl):KH X F Bd e (aX m):=⟨λpins s σ H R I q=>by
 obtain⟨G,ρ,r,k⟩:=q;unfold aX at k;by_cases c:nJ (m ρ)=true
 .rw[if_pos c]at k;exact(iB h Ag).1 pins s σ H R I ⟨G,ρ,r,k⟩
 .rw[if_neg c]at k;exact(Fy h Ag).1 pins s σ H R I ⟨G,ρ,r,k⟩⟩
def Kb:List D->R D
 |[.int i]=>if i.natAbs.log2<1920 then .ok (.str (toString i))else .bad
 |[.str x]=>.ok (.str x)
 |_=>.bad
def uY:Gu X (.type "str") (λxs H Q=>(∃i,xs=[.int i]/\i.natAbs.log2<1920/\Q (.str (toString i)) H)\/∃x,xs=[.str x]/\Q (.str x) H):=by
 intro pins s σ H xs us Q I r h;rcases h with h|⟨x,rfl,q⟩
 .exact kc pins s σ H xs us Q I r h
 .obtain⟨u,rfl,t,rfl⟩:=vals1 r;exact PySem.P.str_of_str ⟨.str _,H,I,⟨_,rfl⟩,q⟩
def abU:MH F (λxs H Q=>(∃i,xs=[.int i]/\i.natAbs.log2<1920/\Q (.str (toString i)) H)\/∃x,xs=[.str x]/\Q (.str x) H) Kb:=by
 intro σ ρ G H xs ds Q r al k;unfold Kb at k
 split at k
 .rename_i i
  split at k
  .rename_i AF;exact .inl ⟨i,al.ints1,AF,k _ H G r (Bl.refl _ _) (by simp only[At])⟩
  .exact k.elim
 .rename_i x;obtain⟨v,rfl,Av⟩:=al.one;simp only[At]at Av;exact .inr ⟨x,by rw[Av],k _ H G r (Bl.refl _ _) (by simp only[At])⟩
 .exact k.elim
def rW(hm:X.mg "str"=none)(A1:EZ X F [e] ma)(AW:DI X "str":=by rfl)(he:Ap [e] X.env=(false,BE e X.env)::Ap [] X.env:=by rfl)(Cz:(Cj pos (Ap [] X.env)).any (·.1)=false:=by rfl):Ah X F (.Call (.Name "str" p) [e] [] pos) (Bm Kb ma):=
 ⟨Vk uY abU hm (by kernel_rfl) A1.1 AW (by decide) (by decide) he Cz⟩
def TQ:D->D->R D
 |.str x,.int n=>if n=0 then .ok (.str Ou)else if n=1 then .ok (.str x)else .bad
 |_,_=>.bad
def q4:EI:=λx y H Q=>∃z k,x=.str z/\y=.int k/\((k=0/\Q (.str Ou) H)\/(k=1/\Q (.str z) H))
def abC:DX X (IR .Mult) q4:=by
 intro pins s σ H x y v u Q I BF Bo h;obtain⟨z,k,rfl,rfl,h⟩:=h;obtain⟨t,rfl⟩:=BF;obtain⟨t',rfl⟩:=Bo;rcases h with⟨rfl,q⟩|⟨rfl,q⟩
 .exact PySem.P.mul_str_none (by decide) (by decide) ⟨.str _,H,I.tok _,⟨_,rfl⟩,q⟩
 .exact PySem.P.mul_str (by decide) (λ_ h=>by cases h) (λ_ h=>by cases h) (by rw[if_neg (by decide),if_pos (c:=((1:Int)==1||z.length==0)=true) rfl];exact⟨.str _,H,I,⟨_,rfl⟩,q⟩)
def abR:G3 F q4 TQ:=by
 intro σ ρ G H x y Ar FG Q r B_ C1 k;unfold TQ at k
 split at k
 .rename_i z n;simp only[At]at B_ C1
  split at k
  .rename_i e;exact⟨z,n,B_,C1,.inl ⟨e,k _ H G r (Bl.refl _ _) (by simp only[At])⟩⟩
  .split at k
   .rename_i e;exact⟨z,n,B_,C1,.inr ⟨e,k _ H G r (Bl.refl _ _) (by simp only[At])⟩⟩
   .exact k.elim
 .exact k.elim
def ahe(A1:Ah X F a m)(J:Ah X F b n):Ah X F (.BinOp a .Mult b pos) (A9 TQ m n):=⟨Nd abC abR A1.1 J.1⟩
end
def CE{N P:List Str}{sc:D9}(a:sc.kind=.function:=by rfl)(b:sc.isCoroutine=false:=by rfl)(c:sc.isGenerator=false:=by rfl)(d:N.Nodup:=by decide+kernel)(e:N.take P.length=P:=by rfl)(f:∀x∈P,sc.names.lookup x=some .local\/sc.names.lookup x=some .cell:=by decide+kernel)(g:∀y∈sc.names,y.2≠.free:=by decide+kernel):Bv N P sc:=⟨a,b,c,d,e,f,g⟩
end CP
namespace By
open PySem PySem.Spec C7 CP
def top(i:Nat):B9:=PySem.Challenge.pw_nohalfway_k51_texts_shown_and_read.main.body.getD i (.Pass ⟨0,0,0,0⟩)
abbrev gW:B9:=top 81
abbrev fw:B9:=top 83
abbrev gU:B9:=top 80
abbrev gN:B9:=top 10
abbrev gO:B9:=top 11
abbrev gs:B9:=top 15
abbrev gH:B9:=top 16
abbrev gE:B9:=top 17
abbrev gP:B9:=top 18
abbrev g9:B9:=top 19
abbrev gn:B9:=inClass (top 20) 0
abbrev g7:B9:=top 90
abbrev gV:B9:=top 89
abbrev hp:B9:=top 63
abbrev gF:B9:=top 64
abbrev hl:B9:=top 65
abbrev ho:B9:=top 68
abbrev gv:B9:=top 69
abbrev i5:B9:=top 70
abbrev hi:B9:=top 72
abbrev g5:B9:=top 95
abbrev gm:B9:=inClass (top 20) 1
abbrev i7:B9:=top 53
abbrev gw:B9:=top 54
abbrev i6:B9:=top 55
abbrev gr:B9:=inClass (top 20) 2
abbrev hj:B9:=top 58
abbrev gQ:B9:=top 92
abbrev fz:B9:=top 85
abbrev gR:B9:=top 86
abbrev gT:B9:=top 87
abbrev gY:B9:=top 57
abbrev hx:B9:=top 56
abbrev gu:B9:=top 59
abbrev gS:B9:=top 91
abbrev gI:B9:=top 26
abbrev hq:B9:=top 67
abbrev hk:B9:=top 66
abbrev hv:B9:=top 73
abbrev g8:B9:=top 71
abbrev gt:B9:=top 74
abbrev gX:B9:=top 82
abbrev fy:B9:=top 88
abbrev ht:B9:=top 60
abbrev i0:B9:=top 75
abbrev gM:B9:=top 43
abbrev gJ:B9:=top 44
abbrev hr:B9:=top 76
abbrev fx:B9:=top 84
abbrev g4:B9:=top 93
abbrev g0:B9:=top 94
abbrev hz:B9:=top 62
abbrev gp:B9:=inClass (top 20) 5
abbrev gq:B9:=inClass (top 20) 6
abbrev gL:B9:=top 46
abbrev hy:B9:=top 78
abbrev gG:B9:=top 30
abbrev gK:B9:=top 31
abbrev gC:B9:=top 32
abbrev gD:B9:=top 33
abbrev hu:B9:=top 34
abbrev gB:B9:=top 25
abbrev gA:B9:=top 27
abbrev i1:B9:=top 35
abbrev gl:B9:=inClass (top 20) 3
abbrev hn:B9:=top 37
abbrev i2:B9:=top 38
abbrev i3:B9:=top 39
abbrev i4:B9:=top 61
abbrev g6:B9:=top 96
abbrev Pj:B9:=top 97
noncomputable def Pm:List (Str×D):=[("comes",.DB [.fn "pattern_read",.fn "door_read",.fn "door_read"]),("leaves",.DB [.fn "pattern_read",.fn "door_read"]),("noring",.DB [.fn "pattern_read",.fn "door_read"]),("by",.DB [.fn "pattern_read",.fn "door_read",.fn "number_read"]),("never",.DB [.fn "pattern_read",.fn "door_read",.fn "number_read"])]
def N_:D:=.str (As "any")
def Na:D:=.str (As "drop")
def V1:D:=.str (As "0123456789")
def SR:D:=.int 15
def SS:D:=.int 4
def SU:D:=.int 3
def RF:D:=.int 6
def SV:D:=.int 12
def SW:D:=.int 40
def M0:D:=.str (As "-")
def SX:D:=.DB [.str (As "0"),.str (As "1"),.str (As "x")]
def M1:D:=.DB [.str (As "wait")]
def PL:D:=.DB [.int 8,.int 4,.int 2,.int 1]
structure cB(K:AZ)(mg:Str->Option A4):Prop where
 mz:CG K mg "_law_draws" gW ["_law_cell","_law_many"]
 n1:CG K mg "_law_net" fw ["_law_cell"]
 mx:CG K mg "_law_cell_at" gU ["_law_script","_law_k"]
 lG:CG K mg "is_whole" gN ["thing"]
 lg:CG K mg "is_whole_within" gO ["thing","least","greatest"]
 lU:CG K mg "are_counts" gs ["thing"]
 lA:CG K mg "is_pair" gH ["thing"]
 l7:CG K mg "is_door_among" gE ["counts","thing"]
 mq:CG K mg "is_wire_among" gP ["counts","thing"]
 lZ:CG K mg "far_doors" g9 ["counts","wires"]
 lQ:InK K mg "Net" "Net.__init__" gn ["self","counts","wires"]
 n9:CG K mg "_law_words" g7 ["_law_things"]
 my:CG K mg "_law_door" gV ["_law_door_here"]
 mJ:CG K mg "parted" hp ["text","between"]
 l8:CG K mg "is_number" gF ["text"]
 nG:CG K mg "number_read" hl ["text"]
 nI:CG K mg "pair_read" ho ["text","between","read"]
 lX:CG K mg "door_read" gv ["text"]
 mY:CG K mg "wire_read" i5 ["text"]
 nD:CG K mg "net_read" hi ["text"]
 n7:CG K mg "_law_text_right" g5 ["_law_found","_law_due"]
 lP:QW K "Net" "count" "Net.count" gm ["self","house"]
 m_:CG K mg "words_shown" i7 ["things"]
 lY:CG K mg "door_shown" gw ["door"]
 mZ:CG K mg "wire_shown" i6 ["wire"]
 lT:QW K "Net" "wires" "Net.wires" gr ["self"]
 nE:CG K mg "net_shown" hj ["net"]
 ea:CG K mg "_law_alike" gQ ["_law_found","_law_due"]
 n4:CG K mg "_law_row" fz ["_law_draws_here","_law_count"]
 mr:CG K mg "_law_book" gR ["_law_cell","_law_count"]
 mw:CG K mg "_law_books" gT ["_law_script","_law_start","_law_counts"]
 nB:CG K mg "list_shown" gY ["texts"]
 mQ:CG K mg "row_shown" hx ["row"]
 lW:CG K mg "book_shown" gu ["book"]
 mu:CG K mg "_law_book_text" gS ["_law_book_here"]
 lB:CG K mg "is_pattern" gI ["thing"]
 mK:CG K mg "pattern_read" hq ["text"]
 nF:CG K mg "number_or_none_read" hk ["text","word"]
 mP:CG K mg "row_read" hv ["text"]
 nA:CG K mg "list_read" g8 ["text","read"]
 lV:CG K mg "book_read" gt ["text"]
 n0:CG K mg "_law_mixed" gX ["_law_cell","_law_k"]
 n3:CG K mg "_law_plan" fy ["_law_cells","_law_many"]
 mM:CG K mg "plan_shown" ht ["plan"]
 mT:CG K mg "step_read" i0 ["text"]
 lF:CG K mg "is_step" gM ["thing","net"]
 lC:CG K mg "is_plan" gJ ["thing","net"]
 mL:CG K mg "plan_read" hr ["text","net"]
 n2:CG K mg "_law_outer" fx ["_law_parts"]
 n6:CG K mg "_law_sayings" g4 ["_law_parts","_law_script"]
 n5:CG K mg "_law_saying_text" g0 ["_law_saying"]
 mS:CG K mg "saying_shown" hz ["saying"]
 lR:QW K "Net" "is_door" "Net.is_door" gp ["self","thing"]
 lS:QW K "Net" "is_outer" "Net.is_outer" gq ["self","thing"]
 lE:CG K mg "is_saying" gL ["thing","net"]
 mR:CG K mg "saying_read" hy ["text","net"]
 l9:CG K mg "is_number_or_none" gG ["thing","doors"]
 lD:CG K mg "is_row" gK ["thing","doors"]
 lb:CG K mg "is_book" gC ["thing","doors"]
 lc:CG K mg "is_books" gD ["thing","net"]
 mO:CG K mg "refuse_unless_books" hu ["thing","net"]
 la:CG K mg "is_address" gB ["thing"]
 l_:CG K mg "fits" gA ["pattern","address"]
 mU:CG K mg "taken" i1 ["book","door","address"]
 lO:QW K "Net" "beyond" "Net.beyond" gl ["self","door"]
 nH:CG K mg "onward" hn ["net","book","door","address"]
 mV:CG K mg "walked" i2 ["net","books","door","address"]
 mW:CG K mg "way" i3 ["net","books","door","address"]
 mX:CG K mg "way_shown" i4 ["told"]
 n8:CG K mg "_law_way_right" g6 ["_law_net_here","_law_books_here","_law_door_here","_law_address"]
 vO:CG K mg "law" Pj ["_law_script"]
 rr:O1 K mg "NoAddress"
 rt:O1 K mg "NoBooks"
 ru:O1 K mg "NoDoor"
 X3:O1 K mg "NoNet"
 rv:O1 K mg "NoPlan"
 rx:O1 K mg "NoSaying"
 Pr:O1 K mg "NoText"
 Hf:YT K "Net" ["many","counts","joined","far"]
 bH:O2 K mg "SAYING_READS"
 bJ:O2 K mg "door_read"
 bK:O2 K mg "number_read"
 sO:O2 K mg "pattern_read"
 iQ:O2 K mg "row_read"
 iS:O2 K mg "step_read"
 Yq:YU K "SAYING_READS" Pm
 OE:mg "all"=none
 br:mg "bool"=none
 U_:mg "enumerate"=none
 SO:mg "int"=none
 FO:mg "isinstance"=none
 Dh:mg "len"=none
 I9:mg "list"=none
 kH:mg "max"=none
 Jo:mg "range"=none
 kJ:mg "set"=none
 IU:mg "str"=none
 Lz:mg "tuple"=none
 ZT:mg "zip"=none
 N_:Jk K mg "ANY_DOOR" N_
 Na:Jk K mg "DROPPED" Na
 V1:Jk K mg "FIGURES" V1
 SR:Jk K mg "GREATEST_ADDRESS" SR
 SS:Jk K mg "MOST_DOORS" SS
 SU:Jk K mg "MOST_FIGURES" SU
 RF:Jk K mg "MOST_HOUSES" RF
 SV:Jk K mg "MOST_ROWS" SV
 SW:Jk K mg "MOST_STEPS" SW
 M0:Jk K mg "NONE_LISTED" M0
 SX:Jk K mg "SIGNS" SX
 M1:Jk K mg "WAIT" M1
 PL:Jk K mg "WORTHS" PL
def R6:Bv ["_law_cell","_law_many","_law_draws_here","_law_rest","_law_k","_law_prime","_law_factor"] ["_law_cell","_law_many"] (BW gW):=CE
noncomputable def dW:Ay:=
    Aq (GI 2 (E0 (AB)))
    (Aq (Cg 3 (A9 K8 (Z 0) (A7 (.int 2))))
    (Aq (G7 (II (A0 (Z 1) (AB))) (BI 4) (C4 (B2 (A9 (Bz true) (A9 Dr (Z 0) (A7 (.int 2))) (A7 (.int 1)))) (Aq (Cg 5 (A9 AO (C6 (E0 (A0 (A7 (.int 2147483647)) (A0 (A7 (.int 2147483629)) (A0 (A7 (.int 2147483587)) (A0 (A7 (.int 2147483579)) (AB))))))) (A9 Dr (A9 K8 (Z 4) (A7 (.int 4))) (A7 (.int 4)))))
    (Aq (Cg 6 (A9 AO (C6 (E0 (A0 (A7 (.int 48271)) (A0 (A7 (.int 69621)) (A0 (A7 (.int 16807)) (A0 (A7 (.int 39373)) (AB))))))) (A9 Dr (Z 4) (A7 (.int 4)))))
    (KP 2 (A9 K8 (A9 Dr (A9 MD (A9 Cy (A9 Cy (A9 Dr (Z 3) (A9 OP (A7 (.int 10)) (A7 (.int 30)))) (A9 MD (A7 (.int 7919)) (Z 4))) (A7 (.int 1))) (Z 6)) (Z 5)) (A7 (.int 7)))))) (Aq (KP 2 (A9 Dr (Z 3) (A9 OP (A7 (.int 10)) (A7 (.int 6)))))
    (Cg 3 (A9 K8 (Z 3) (A9 OP (A7 (.int 10)) (A7 (.int 6))))))))
    (Ie (NP 2))))
def NS:List D->R BQ:=C0 7 dW
def OU:Bv ["_law_cell","_law_draws_here","_law_many","_law_counts","_law_free","_law_house","_law_wires","_law_k","_law_one"] ["_law_cell"] (BW fw):=CE
noncomputable def dY:Ay:=
    Aq (Cg 1 (C6 (KR 2 NS (A0 (Z 0) (A0 (A7 (.int 40)) (AB))))))
    (Aq (Cg 2 (A9 Cy (A7 (.int 1)) (A9 Dr (A9 AO (Z 1) (A7 (.int 0))) (A7 (.int 6)))))
    (Aq (LJ 3 (DC 1 [1,2] (II (A0 (Z 2) (AB))) (BI 0) (D2) (A9 Cy (A7 (.int 1)) (A9 Dr (A9 AO (Z 1) (A9 Cy (A7 (.int 1)) (Z 0))) (A9 AO (C6 (E0 (A0 (A7 (.int 4)) (A0 (A7 (.int 4)) (A0 (A7 (.int 4)) (A0 (A7 (.int 3)) (A0 (A7 (.int 2)) (A0 (A7 (.int 2)) (AB))))))))) (A9 Kc (Z 2) (A7 (.int 1))))))))
    (Aq (GI 4 (E0 (AB)))
    (Aq (G7 (II (A0 (Bm CQ (A0 (Z 3) (AB))) (AB))) (BI 5) (Ny (Tj 4 (C6 (DC 1 [5] (II (A0 (A9 AO (Z 3) (Z 5)) (AB))) (BI 0) (D2) (Db (A0 (Z 1) (A0 (Z 0) (AB)))))))))
    (Aq (GI 6 (E0 (AB)))
    (Aq (G7 (II (A0 (Mt (A9 Kc (A9 K8 (A9 Kc (Bm CQ (A0 (Z 4) (AB))) (A7 (.int 1))) (A7 (.int 2))) (A9 Dr (A9 AO (Z 1) (A7 (.int 7))) (A7 (.int 2))))) (AB))) (BI 7) (Aq (T4 8 (Q6 4 (Mt (A9 Dr (A9 AO (Z 1) (A9 Cy (A7 (.int 8)) (A9 MD (A7 (.int 2)) (Z 7)))) (Bm CQ (A0 (Z 4) (AB)))))))
    (aW 6 (T5 (Ti (lf (Z 8)) (Ti (Q6 4 (Mt (A9 Dr (A9 AO (Z 1) (A9 Cy (A7 (.int 9)) (A9 MD (A7 (.int 2)) (Z 7)))) (Bm CQ (A0 (Z 4) (AB)))))) (WV AB)))))))
    (KU (Db (A0 (Z 3) (A0 (Z 6) (AB)))))))))))
def TF:List D->R BQ:=C0 9 dY
def aeO:Bv ["_law_script","_law_k"] ["_law_script","_law_k"] (BW gU):=CE
def ZP:Ay:=
    Aq (C4 (B2 (A9 Nw (Z 1) (Bm CQ (A0 (Z 0) (AB))))) (Bc (A9 AO (Z 0) (Z 1))) (CI))
    (Bc (A7 (.int 0)))
def Ig:List D->R BQ:=C0 2 ZP
def aeL:Bv ["thing"] ["thing"] (BW gN):=CE
def l5:Ay:=
    Bc (JY (D4 (Cp "int") (Z 0)) (a_ (D4 (Cp "bool") (Z 0))))
def f9:List D->R BQ:=C0 1 l5
def aeM:Bv ["thing","least","greatest"] ["thing","least","greatest"] (BW gO):=CE
def dQ:Ay:=
    Bc (JY (Au 1 f9 (A0 (Z 0) (AB))) (JZ J8 J8 (Z 1) (Z 0) (Z 2)))
def MB:List D->R BQ:=C0 3 dQ
def aeu:Bv ["thing"] ["thing"] (BW gs):=CE
noncomputable def ZM:Ay:=
    Aq (C4 (EL (Cq (B2 (D4 (Cp "list") (Z 0)))) (Cq (B2 (JZ J8 J8 (A7 (.int 1)) (Bm CQ (A0 (Z 0) (AB))) (A7 RF))))) (Bc (A7 (.AI false))) (CI))
    (Bc (Bm DP (A0 (C6 (DC 1 [] (ET (Z 0)) (BI 0) (D2) (Au 3 MB (A0 (Z 0) (A0 (A7 (.int 1)) (A0 (A7 SS) (AB))))))) (AB))))
def Wi:List D->R BQ:=C0 1 ZM
def af6:Bv ["thing"] ["thing"] (BW gH):=CE
def l4:Ay:=
    Bc (JY (D4 (Cp "tuple") (Z 0)) (A9 (Bz true) (Bm CQ (A0 (Z 0) (AB))) (A7 (.int 2))))
def Wk:List D->R BQ:=C0 1 l4
def af3:Bv ["counts","thing"] ["counts","thing"] (BW gE):=CE
noncomputable def dK:Ay:=
    Aq (C4 (EL (Cq (B2 (Au 1 Wk (A0 (Z 1) (AB))))) (Cq (B2 (Au 3 MB (A0 (A9 AO (Z 1) (A7 (.int 0))) (A0 (A7 (.int 0)) (A0 (A9 Kc (Bm CQ (A0 (Z 0) (AB))) (A7 (.int 1))) (AB)))))))) (Bc (A7 (.AI false))) (CI))
    (Bc (Au 3 MB (A0 (A9 AO (Z 1) (A7 (.int 1))) (A0 (A7 (.int 0)) (A0 (A9 Kc (A9 AO (Z 0) (A9 AO (Z 1) (A7 (.int 0)))) (A7 (.int 1))) (AB))))))
def Qt:List D->R BQ:=C0 2 dK
def r6:Bv ["counts","thing","both"] ["counts","thing"] (BW gP):=CE
noncomputable def dR:Ay:=
    Aq (C4 (Cq (B2 (Au 1 Wk (A0 (Z 1) (AB))))) (Bc (A7 (.AI false))) (CI))
    (Aq (Cg 2 (JY (Au 2 Qt (A0 (Z 0) (A0 (A9 AO (Z 1) (A7 (.int 0))) (AB)))) (Au 2 Qt (A0 (Z 0) (A0 (A9 AO (Z 1) (A7 (.int 1))) (AB))))))
    (Bc (JY (Z 2) (A9 (Bz false) (A9 AO (Z 1) (A7 (.int 0))) (A9 AO (Z 1) (A7 (.int 1)))))))
def TB:List D->R BQ:=C0 3 dR
def hH:Bv ["counts","wires","far","wire"] ["counts","wires"] (BW g9):=CE
noncomputable def ZN:Ay:=
    Aq (Fo (aa 2))
    (Aq (G7 (Q5 (Z 1)) (BI 3) (Aq (C4 (FJ (Cq (B2 (Au 2 TB (A0 (Z 0) (A0 (Z 3) (AB))))))) (Hh "NoNet") (CI))
    (Aq (C4 (FJ (KQ (EL (B2 (A9 (H2 true) (A9 AO (Z 3) (A7 (.int 0))) (Z 2))) (B2 (A9 (H2 true) (A9 AO (Z 3) (A7 (.int 1))) (Z 2)))))) (Hh "NoNet") (CI))
    (Aq (Fo (Q3 2 (A9 AO (Z 3) (A7 (.int 0))) (A9 AO (Z 3) (A7 (.int 1)))))
    (Fo (Q3 2 (A9 AO (Z 3) (A7 (.int 1))) (A9 AO (Z 3) (A7 (.int 0)))))))))
    (Fo (KU (Z 2))))
def Qq:List D->R BQ:=C0 4 ZN
def aeq:Bv ["self","counts","wires"] ["self","counts","wires"] (BW gn):=CE
noncomputable def ZL:Jl:=
    Mw (Qo (FJ (Cq (B2 (Au 1 Wi (A0 (Z 1) (AB)))))) "NoNet")
    (Mw (Qo (FJ (Cq (B2 (D4 (Cp "list") (Z 2))))) "NoNet")
    (Mw (KS "Net" "many" (Le (Bm CQ (A0 (Z 1) (AB)))))
    (Mw (KS "Net" "counts" (Le (Bm OG (A0 (Z 1) (AB)))))
    (Mw (KS "Net" "joined" (Le (Bm OG (A0 (Z 2) (AB)))))
    (KS "Net" "far" (Qn (Au 2 Qq (NW (A0 (D4 (Fv "Net" "counts") (Z 0)) (A0 (D4 (Fv "Net" "joined") (Z 0)) (AB)))))))))))
def af:List D->R (List Str×List D):=λes=>Sx "Net" (ZL (LC "Net" es))
def aeS:Bv ["_law_things"] ["_law_things"] (BW g7):=CE
def kG:Ay:=
    Bc (LH (As " ") (A0 (C6 (DC 1 [] (aX (Z 0)) (BI 0) (D2) (Bm Kb (A0 (Z 0) (AB))))) (AB)))
def Wn:List D->R BQ:=C0 1 kG
def aeP:Bv ["_law_door_here"] ["_law_door_here"] (BW gV):=CE
def l6:Ay:=
    Bc (A9 Cy (A9 Cy (Bm Jd (A0 (A9 AO (Z 0) (A7 (.int 0))) (AB))) (A7 (.str (As ".")))) (Bm Jd (A0 (A9 AO (Z 0) (A7 (.int 1))) (AB))))
def NR:List D->R BQ:=C0 1 l6
def aeX:Bv ["text","between"] ["text","between"] (BW hp):=CE
def di:Ay:=
    Aq (C4 (FJ (Cq (B2 (D4 (Cp "str") (Z 0))))) (Hh "NoText") (CI))
    (Fo (Ie (ae (Z 0) (Z 1))))
def Mx:List D->R BQ:=C0 2 di
def af4:Bv ["text"] ["text"] (BW gF):=CE
noncomputable def dL:Ay:=
    Aq (C4 (EL (Cq (B2 (JZ J8 J8 (A7 (.int 1)) (Bm CQ (A0 (Z 0) (AB))) (A7 SU)))) (Cq (B2 (Bm DP (A0 (C6 (DC 1 [] (Tk (Z 0)) (BI 0) (D2) (A9 Yo (Z 0) (A7 V1)))) (AB)))))) (Bc (A7 (.AI false))) (CI))
    (Bc (T3 (A9 (Bz true) (Z 0) (A7 (.str (As "0")))) (A9 (Bz false) (A9 AO (Z 0) (A7 (.int 0))) (A7 (.str (As "0"))))))
def Qu:List D->R BQ:=C0 1 dL
def aeW:Bv ["text"] ["text"] (BW hl):=CE
def kI:Ay:=
    Aq (C4 (FJ (Cq (B2 (Au 1 Qu (A0 (Z 0) (AB)))))) (Hh "NoText") (CI))
    (Fo (Bc (Bm bB (A0 (Z 0) (AB)))))
def MC:List D->R BQ:=C0 1 kI
def rA:Bv ["text","between","read","pair"] ["text","between","read"] (BW ho):=CE
def b6:Tab:=λx=>if x="number_read" then some MC else none
noncomputable def dh(tab:Tab):Ay:=
    Aq (Cg 3 (Au 2 Mx (A0 (Z 0) (A0 (Z 1) (AB)))))
    (Aq (C4 (FJ (B2 (A9 (Bz false) (Bm CQ (A0 (Z 3) (AB))) (A7 (.int 2))))) (Hh "NoText") (CI))
    (Bc (Db (A0 (Ic 2 tab (A0 (A9 AO (Z 3) (A7 (.int 0))) (AB))) (A0 (Ic 2 tab (A0 (A9 AO (Z 3) (A7 (.int 1))) (AB))) (AB))))))
def Wp(tab:Tab):List D->R BQ:=C0 4 (dh tab)
def aex:Bv ["text"] ["text"] (BW gv):=CE
def bt:Ay:=
    Bc (Au 3 (Wp b6) (A0 (Z 0) (A0 (A7 (.str (As "."))) (A0 (A7 (.fn "number_read")) (AB)))))
def Q8:List D->R BQ:=C0 1 bt
def aed:Bv ["text"] ["text"] (BW i5):=CE
def b5:Tab:=λx=>if x="door_read" then some Q8 else none
def d3:Ay:=
    Bc (Au 3 (Wp b5) (A0 (Z 0) (A0 (A7 (.str (As "-"))) (A0 (A7 (.fn "door_read")) (AB)))))
def W5:List D->R BQ:=C0 1 d3
def bX:Bv ["text","words","many"] ["text"] (BW hi):=CE
noncomputable def df:Ay:=
    Aq (Cg 1 (Au 2 Mx (A0 (Z 0) (A0 (A7 (.str (As " "))) (AB)))))
    (Aq (Fo (Cg 2 (A7 (.int 0))))
    (Aq (Fo (Qp (LF (B2 (A9 Nw (Z 2) (Bm CQ (A0 (Z 1) (AB))))) (B2 (Au 1 Qu (A0 (A9 AO (Z 1) (Z 2)) (AB))))) (WY 2 (A7 (.int 1)))))
    (Bc (We "Net" 2 af (A0 (C6 (Nx 1 [] (ET (JA JF (Z 1) (LI) (J9 (Z 2)))) (BI 0) (Au 1 MC (A0 (Z 0) (AB))))) (A0 (C6 (Nx 1 [] (ET (JA JF (Z 1) (J9 (Z 2)) (LI))) (BI 0) (Au 1 W5 (A0 (Z 0) (AB))))) (AB)))))))
def Zp:List D->R BQ:=C0 3 df
def aeR:Bv ["_law_found","_law_due"] ["_law_found","_law_due"] (BW g5):=CE
def dc:Ay:=
    Bc (JY (D4 (Cp "str") (Z 0)) (A9 (Bz true) (Z 0) (Z 1)))
def PW:List D->R BQ:=C0 2 dc
def aep:Bv ["self","house"] ["self","house"] (BW gm):=CE
def cL:Ay:=
    Bc (LG (B2 (JZ J8 Nw (A7 (.int 0)) (Z 1) (D4 (Fv "Net" "many") (Z 0)))) (A9 AO (D4 (Fv "Net" "counts") (Z 0)) (Z 1)) (A7 (.int 0)))
def T6:List D->R BQ:=C0 2 cL
def aef:Bv ["things"] ["things"] (BW i7):=CE
def d5:Ay:=
    Bc (LH (As " ") (A0 (C6 (DC 1 [] (aX (Z 0)) (BI 0) (D2) (Bm Kb (A0 (Z 0) (AB))))) (AB)))
def J_:List D->R BQ:=C0 1 d5
def aey:Bv ["door"] ["door"] (BW gw):=CE
def bu:Ay:=
    Bc (A9 Cy (A9 Cy (Bm Jd (A0 (A9 AO (Z 0) (A7 (.int 0))) (AB))) (A7 (.str (As ".")))) (Bm Jd (A0 (A9 AO (Z 0) (A7 (.int 1))) (AB))))
def NQ:List D->R BQ:=C0 1 bu
def aee:Bv ["wire"] ["wire"] (BW i6):=CE
def d4:Ay:=
    Bc (A9 Cy (A9 Cy (Au 1 NQ (A0 (A9 AO (Z 0) (A7 (.int 0))) (AB))) (A7 (.str (As "-")))) (Au 1 NQ (A0 (A9 AO (Z 0) (A7 (.int 1))) (AB))))
def Zx:List D->R BQ:=C0 1 d4
def aet:Bv ["self"] ["self"] (BW gr):=CE
def bo:Ay:=
    Ie (Mv (A0 (D4 (Fv "Net" "joined") (Z 0)) (AB)))
def Wh:List D->R BQ:=C0 1 bo
def r9:Bv ["net","counts"] ["net"] (BW hj):=CE
noncomputable def dg:Ay:=
    Aq (LJ 1 (DC 1 [0] (II (A0 (D4 (Fv "Net" "many") (Z 0)) (AB))) (BI 0) (D2) (IH "Net" "count" 1 T6 (Z 1) (A0 (Z 0) (AB)))))
    (Bc (Au 1 J_ (A0 (A9 Cy (Z 1) (C6 (DC 1 [] (ET (IH "Net" "wires" 0 Wh (Z 0) AB)) (BI 0) (D2) (Au 1 Zx (A0 (Z 0) (AB)))))) (AB))))
def Wo:List D->R BQ:=C0 2 dg
def r7:Bv ["_law_found","_law_due"] ["_law_found","_law_due"] (BW gQ):=CE
noncomputable def OF(mf:List D->R BQ):Ay:=
    Aq (C4 (EL (B2 (D4 (Cp "list") (Z 1))) (B2 (D4 (Cp "tuple") (Z 1)))) (Aq (C4 (LF (Cq (B2 (D4 (Cp "list") (Z 0)))) (Cq (B2 (D4 (Cp "tuple") (Z 0))))) (Bc (A7 (.AI false))) (CI))
    (Aq (C4 (EL (B2 (A9 (Bz false) (D4 (Cp "list") (Z 0)) (D4 (Cp "list") (Z 1)))) (B2 (A9 (Bz false) (Bm CQ (A0 (Z 0) (AB))) (Bm CQ (A0 (Z 1) (AB)))))) (Bc (A7 (.AI false))) (CI))
    (Bc (Bm DP (A0 (C6 (DC 2 [] (Nz (A0 (Z 0) (A0 (Z 1) (AB)))) (F6 [BI 0,BI 1]) (D2) (Au 2 mf (A0 (Z 0) (A0 (Z 1) (AB)))))) (AB)))))) (CI))
    (Aq (C4 (EL (B2 (D4 (Cp "bool") (Z 0))) (B2 (A9 (Bz false) (D4 (Cp "int") (Z 0)) (D4 (Cp "int") (Z 1))))) (Bc (A7 (.AI false))) (CI))
    (Bc (A9 (Bz true) (Z 0) (Z 1))))
def IJ:Nat->List D->R BQ
 |0=>C0 2 f7
 |n+1=>C0 2 (OF (IJ n))
def bW:Bv ["_law_draws_here","_law_count","_law_pattern","_law_begin","_law_end"] ["_law_draws_here","_law_count"] (BW fz):=CE
noncomputable def da:Ay:=
    Aq (Cg 2 (LH (As "") (A0 (C6 (DC 1 [0] (II (A0 (A7 (.int 4)) (AB))) (BI 0) (D2) (A9 AO (A7 (.str (As "01xxx"))) (A9 Dr (A9 AO (Z 1) (Z 0)) (A7 (.int 5)))))) (AB))))
    (Aq (Cg 3 (A9 AO (C6 (E0 (A0 (A7 .non) (A0 (A7 .non) (A0 (A7 .non) (A0 (A9 Dr (A9 AO (Z 0) (A7 (.int 5))) (Z 1)) (AB))))))) (A9 Dr (A9 AO (Z 0) (A7 (.int 4))) (A7 (.int 4)))))
    (Aq (Cg 4 (A9 AO (C6 (E0 (A0 (A9 Dr (A9 AO (Z 0) (A7 (.int 7))) (Z 1)) (A0 (A7 .non) (AB))))) (A9 K8 (A9 Dr (A9 AO (Z 0) (A7 (.int 6))) (A7 (.int 7))) (A7 (.int 6)))))
    (Bc (Db (A0 (Z 2) (A0 (Z 3) (A0 (Z 4) (AB))))))))
def Qy:List D->R BQ:=C0 5 da
def WP:Bv ["_law_cell","_law_count","_law_draws_here","_law_many","_law_book_here"] ["_law_cell","_law_count"] (BW gR):=CE
noncomputable def dT:Ay:=
    Aq (Cg 2 (C6 (KR 2 NS (A0 (Z 0) (A0 (A7 (.int 104)) (AB))))))
    (Aq (Cg 3 (A9 AO (C6 (E0 (A0 (A9 Dr (A9 AO (Z 2) (A7 (.int 0))) (A7 (.int 5))) (A0 (A9 Dr (A9 AO (Z 2) (A7 (.int 0))) (A7 (.int 13))) (AB))))) (A9 K8 (A9 Dr (A9 AO (Z 2) (A7 (.int 1))) (A7 (.int 4))) (A7 (.int 3)))))
    (Aq (LJ 4 (DC 1 [1,2] (II (A0 (Z 3) (AB))) (BI 0) (D2) (Au 2 Qy (A0 (JA JF (Z 2) (J9 (A9 Cy (A7 (.int 4)) (A9 MD (A7 (.int 8)) (Z 0)))) (J9 (A9 Cy (A7 (.int 12)) (A9 MD (A7 (.int 8)) (Z 0))))) (A0 (Z 1) (AB))))))
    (Aq (C4 (B2 (A9 SB (A9 Dr (A9 AO (Z 2) (A7 (.int 2))) (A7 (.int 3))) (A7 (.int 0)))) (Cg 4 (A9 Cy (JA JF (Z 4) (LI) (J9 (A7 (.int 11)))) (C6 (E0 (A0 (Db (A0 (A7 (.str (As "xxxx"))) (A0 (A7 .non) (A0 (A9 Dr (A9 AO (Z 2) (A7 (.int 3))) (Z 1)) (AB))))) (AB)))))) (CI))
    (Bc (Z 4)))))
def Qx:List D->R BQ:=C0 5 dT
def aeN:Bv ["_law_script","_law_start","_law_counts"] ["_law_script","_law_start","_law_counts"] (BW gT):=CE
def dV:Ay:=
    Ie (DC 2 [0,1] (Q4 (A0 (Z 2) (AB))) (F6 [BI 0,BI 1]) (D2) (Au 2 Qx (A0 (Au 2 Ig (A0 (Z 2) (A0 (A9 Cy (Z 3) (Z 0)) (AB)))) (A0 (Z 1) (AB)))))
def TD:List D->R BQ:=C0 3 dV
def aeU:Bv ["texts"] ["texts"] (BW gY):=CE
def ZR:Ay:=
    Bc (LG (B2 (A9 (Bz false) (Z 0) (C6 (E0 (AB))))) (LH (As ", ") (A0 (Z 0) (AB))) (A7 M0))
def TK:List D->R BQ:=C0 1 ZR
def hJ:Bv ["row","came_in","goes_out"] ["row"] (BW hx):=CE
noncomputable def cx:Ay:=
    Aq (Cg 1 (LG (B2 (A9 (H6 true) (A9 AO (Z 0) (A7 (.int 1))) (A7 .non))) (A7 N_) (A9 AO (Z 0) (A7 (.int 1)))))
    (Aq (Cg 2 (LG (B2 (A9 (H6 true) (A9 AO (Z 0) (A7 (.int 2))) (A7 .non))) (A7 Na) (A9 AO (Z 0) (A7 (.int 2)))))
    (Bc (Au 1 J_ (A0 (C6 (E0 (A0 (A9 AO (Z 0) (A7 (.int 0))) (A0 (Z 1) (A0 (Z 2) (AB)))))) (AB)))))
def Zt:List D->R BQ:=C0 3 cx
def aew:Bv ["book"] ["book"] (BW gu):=CE
def bq:Ay:=
    Bc (Au 1 TK (A0 (C6 (DC 1 [] (ET (Z 0)) (BI 0) (D2) (Au 1 Zt (A0 (Z 0) (AB))))) (AB)))
def Zm:List D->R BQ:=C0 1 bq
def Tv:Bv ["_law_book_here","_law_rows","_law_pattern","_law_begin","_law_end","_law_words_here"] ["_law_book_here"] (BW gS):=CE
noncomputable def dU:Ay:=
    Aq (GI 1 (E0 (AB)))
    (Aq (G7 (ET (Z 0)) (F6 [BI 2,BI 3,BI 4]) (Aq (GI 5 (E0 (A0 (Z 2) (A0 (A7 (.str (As "any"))) (A0 (A7 (.str (As "drop"))) (AB))))))
    (Aq (C4 (B2 (A9 (H6 false) (Z 3) (A7 .non))) (Wf 5 (A7 (.int 1)) (Bm Jd (A0 (Z 3) (AB)))) (CI))
    (Aq (C4 (B2 (A9 (H6 false) (Z 4) (A7 .non))) (Wf 5 (A7 (.int 2)) (Bm Jd (A0 (Z 4) (AB)))) (CI))
    (KP 1 (Mt (LH (As " ") (A0 (Z 5) (AB)))))))))
    (Aq (C4 (KQ (B2 (A9 (Bz true) (Z 1) (C6 (E0 (AB)))))) (Bc (A7 (.str (As "-")))) (CI))
    (KU (LH (As ", ") (A0 (Z 1) (AB))))))
def TC:List D->R BQ:=C0 6 dU
def af7:Bv ["thing"] ["thing"] (BW gI):=CE
noncomputable def dM:Ay:=
    Aq (C4 (EL (Cq (B2 (D4 (Cp "str") (Z 0)))) (B2 (A9 (Bz false) (Bm CQ (A0 (Z 0) (AB))) (Bm CQ (A0 (A7 PL) (AB)))))) (Bc (A7 (.AI false))) (CI))
    (Bc (Bm DP (A0 (C6 (DC 1 [] (Tk (Z 0)) (BI 0) (D2) (A9 (inD true) (Z 0) (A7 SX)))) (AB))))
def PV:List D->R BQ:=C0 1 dM
def aeY:Bv ["text"] ["text"] (BW hq):=CE
def cr:Ay:=
    Aq (C4 (FJ (Cq (B2 (Au 1 PV (A0 (Z 0) (AB)))))) (Hh "NoText") (CI))
    (Fo (Bc (Z 0)))
def Qz:List D->R BQ:=C0 1 cr
def aeV:Bv ["text","word"] ["text","word"] (BW hk):=CE
def b7:Tab:=λx=>if x="pattern_read" then some Qz else if x="door_read" then some Q8 else if x="number_read" then some MC else none
def ZS:Ay:=
    Bc (LG (FJ (B2 (A9 (Bz true) (Z 0) (Z 1)))) (A7 .non) (Au 1 MC (A0 (Z 0) (AB))))
def TL:List D->R BQ:=C0 2 ZS
def rC:Bv ["text","words"] ["text"] (BW hv):=CE
noncomputable def cw:Ay:=
    Aq (Cg 1 (Au 2 Mx (A0 (Z 0) (A0 (A7 (.str (As " "))) (AB)))))
    (Aq (C4 (FJ (B2 (A9 (Bz false) (Bm CQ (A0 (Z 1) (AB))) (A7 (.int 3))))) (Hh "NoText") (CI))
    (Bc (Db (A0 (Au 1 Qz (A0 (A9 AO (Z 1) (A7 (.int 0))) (AB))) (A0 (Au 2 TL (A0 (A9 AO (Z 1) (A7 (.int 1))) (A0 (A7 N_) (AB)))) (A0 (Au 2 TL (A0 (A9 AO (Z 1) (A7 (.int 2))) (A0 (A7 Na) (AB)))) (AB)))))))
def W1:List D->R BQ:=C0 2 cw
def aeT:Bv ["text","read"] ["text","read"] (BW g8):=CE
def b8:Tab:=λx=>if x="row_read" then some W1 else none
noncomputable def ZQ(tab:Tab):Ay:=
    Aq (Fo (C4 (B2 (A9 (Bz true) (Z 0) (A7 M0))) (Ie (E0 (AB))) (CI)))
    (Ie (Nx 1 [1] (ET (Au 2 Mx (A0 (Z 0) (A0 (A7 (.str (As ", "))) (AB))))) (BI 0) (Ic 1 tab (A0 (Z 0) (AB)))))
def TJ(tab:Tab):List D->R BQ:=C0 2 (ZQ tab)
def aev:Bv ["text"] ["text"] (BW gt):=CE
def bp:Ay:=
    Bc (Au 2 (TJ b8) (A0 (Z 0) (A0 (A7 (.fn "row_read")) (AB))))
def Wj:List D->R BQ:=C0 1 bp
def aeQ:Bv ["_law_cell","_law_k"] ["_law_cell","_law_k"] (BW gX):=CE
def dX:Ay:=
    Bc (A9 AO (C6 (KR 2 NS (A0 (Z 0) (A0 (A9 Cy (Z 1) (A7 (.int 1))) (AB))))) (Z 1))
def G8:List D->R BQ:=C0 2 dX
def OV:Bv ["_law_cells","_law_many","_law_houses","_law_plan_here","_law_cell","_law_at","_law_kind","_law_step","_law_near"] ["_law_cells","_law_many"] (BW fy):=CE
noncomputable def d_:Ay:=
    Aq (Cg 2 (C6 (aZ (A0 (Z 1) (AB)))))
    (Aq (GI 3 (WZ (C6 (DC 1 [] (ET (Z 2)) (BI 0) (D2) (Db (A0 (A7 (.str (As "teach"))) (A0 (Z 0) (AB)))))) (C6 (DC 1 [] (ET (Z 2)) (BI 0) (D2) (Db (A0 (A7 (.str (As "turn"))) (A0 (Z 0) (AB))))))))
    (Aq (GI 3 (W_ (Wa 3 (C6 (E0 (A0 (Db (A0 (A7 (.str (As "wait"))) (AB))) (AB))))) (C6 (DC 1 [] (ET (Z 2)) (BI 0) (D2) (Db (A0 (A7 (.str (As "forget"))) (A0 (Z 0) (AB))))))))
    (Aq (G7 (ET (Z 0)) (BI 4) (Aq (Cg 5 (Mt (A9 Dr (Au 2 G8 (A0 (Z 4) (A0 (A7 (.int 0)) (AB)))) (Bm CQ (A0 (Z 3) (AB))))))
    (Aq (Cg 6 (A9 Dr (Au 2 G8 (A0 (Z 4) (A0 (A7 (.int 1)) (AB)))) (A7 (.int 6))))
    (C4 (KQ (LF (B2 (A9 (Bz true) (Z 6) (A7 (.int 0)))) (B2 (A9 SB (Bm CQ (A0 (Z 3) (AB))) (A7 (.int 1)))))) (Ny (Q6 3 (Z 5))) (C4 (KQ (LF (B2 (A9 (Bz true) (Z 6) (A7 (.int 1)))) (B2 (A9 Nw (Bm CQ (A0 (Z 3) (AB))) (A7 (.int 39)))))) (Ny (T2 3 (Z 5) (Db (A0 (A7 (.str (As "wait"))) (AB))))) (C4 (B2 (A9 Nw (Z 6) (A7 (.int 5)))) (Aq (T4 7 (Q6 3 (Z 5)))
    (Aq (Cg 8 (Mt (A9 AO (C6 (E0 (A0 (A9 Cy (Z 5) (A7 (.int 1))) (A0 (Bm W6 (A0 (A7 (.int 0)) (A0 (A9 Kc (Z 5) (A7 (.int 1))) (AB)))) (A0 (A9 Dr (Au 2 G8 (A0 (Z 4) (A0 (A7 (.int 2)) (AB)))) (A9 Cy (Bm CQ (A0 (Z 3) (AB))) (A7 (.int 1)))) (AB)))))) (A9 Kc (Z 6) (A7 (.int 2))))))
    (Ny (T2 3 (Z 8) (Z 7))))) (CI)))))))
    (Ie (NP 3)))))
def Wl:List D->R BQ:=C0 9 d_
def aeZ:Bv ["plan"] ["plan"] (BW ht):=CE
def cu:Ay:=
    Bc (Au 1 TK (A0 (C6 (DC 1 [] (ET (Z 0)) (BI 0) (D2) (Au 1 J_ (A0 (Z 0) (AB))))) (AB)))
def Zr:List D->R BQ:=C0 1 cu
def rD:Bv ["text","words"] ["text"] (BW i0):=CE
noncomputable def kK:Ay:=
    Aq (Cg 1 (Au 2 Mx (A0 (Z 0) (A0 (A7 (.str (As " "))) (AB)))))
    (Aq (Fo (C4 (B2 (A9 (Bz true) (Z 1) (C6 (Mv (A0 (A7 M1) (AB)))))) (Bc (A7 M1)) (CI)))
    (Aq (C4 (FJ (EL (B2 (A9 (Bz false) (Bm CQ (A0 (Z 1) (AB))) (A7 (.int 2)))) (B2 (A9 (inD false) (A9 AO (Z 1) (A7 (.int 0))) (Db (A0 (A7 (.str (As "teach"))) (A0 (A7 (.str (As "turn"))) (A0 (A7 (.str (As "forget"))) (AB))))))))) (Hh "NoText") (CI))
    (Bc (Db (A0 (A9 AO (Z 1) (A7 (.int 0))) (A0 (Au 1 MC (A0 (A9 AO (Z 1) (A7 (.int 1))) (AB))) (AB)))))))
def W3:List D->R BQ:=C0 2 kK
def aeK:Bv ["thing","net"] ["thing","net"] (BW gM):=CE
def b9:Tab:=λx=>if x="step_read" then some W3 else none
noncomputable def dP:Ay:=
    Aq (C4 (EL (Cq (B2 (D4 (Cp "tuple") (Z 0)))) (EL (B2 (A9 (inD false) (Bm CQ (A0 (Z 0) (AB))) (Db (A0 (A7 (.int 1)) (A0 (A7 (.int 2)) (AB)))))) (Cq (B2 (D4 (Cp "str") (A9 AO (Z 0) (A7 (.int 0)))))))) (Bc (A7 (.AI false))) (CI))
    (Aq (C4 (B2 (A9 (Bz true) (Bm CQ (A0 (Z 0) (AB))) (A7 (.int 1)))) (Bc (A9 (Bz true) (A9 AO (Z 0) (A7 (.int 0))) (A7 (.str (As "wait"))))) (CI))
    (Bc (JY (A9 (inD true) (A9 AO (Z 0) (A7 (.int 0))) (Db (A0 (A7 (.str (As "teach"))) (A0 (A7 (.str (As "turn"))) (A0 (A7 (.str (As "forget"))) (AB)))))) (Au 3 MB (A0 (A9 AO (Z 0) (A7 (.int 1))) (A0 (A7 (.int 0)) (A0 (A9 Kc (D4 (Fv "Net" "many") (Z 1)) (A7 (.int 1))) (AB))))))))
def Zn:List D->R BQ:=C0 2 dP
def q5:Bv ["thing","net","once"] ["thing","net"] (BW gJ):=CE
noncomputable def dN:Ay:=
    Aq (C4 (EL (Cq (B2 (D4 (Cp "list") (Z 0)))) (B2 (A9 SB (Bm CQ (A0 (Z 0) (AB))) (A7 SW)))) (Bc (A7 (.AI false))) (CI))
    (Aq (C4 (Cq (B2 (Bm DP (A0 (C6 (DC 1 [1] (ET (Z 0)) (BI 0) (D2) (Au 2 Zn (A0 (Z 0) (A0 (Z 1) (AB)))))) (AB))))) (Bc (A7 (.AI false))) (CI))
    (Aq (LJ 2 (DC 1 [] (ET (Z 0)) (BI 0) (B2 (A9 (Bz false) (Z 0) (A7 M1))) (Z 0)))
    (Bc (A9 (Bz true) (Bm WU (A0 (Z 2) (AB))) (Bm CQ (A0 (Z 2) (AB)))))))
def Qv:List D->R BQ:=C0 3 dN
def rB:Bv ["text","net","plan"] ["text","net"] (BW hr):=CE
def ct:Ay:=
    Aq (Cg 2 (Au 2 (TJ b9) (A0 (Z 0) (A0 (A7 (.fn "step_read")) (AB)))))
    (Aq (C4 (FJ (Cq (B2 (Au 2 Qv (A0 (Z 2) (A0 (Z 1) (AB))))))) (Hh "NoPlan") (CI))
    (Fo (Bc (Z 2))))
def Zq:List D->R BQ:=C0 3 ct
def bV:Bv ["_law_parts","_law_used","_law_found","_law_house"] ["_law_parts"] (BW fx):=CE
noncomputable def dZ:Ay:=
    Aq (Cg 1 (A9 Cy (C6 (DC 2 [] (ET (A9 AO (Z 0) (A7 (.int 1)))) (F6 [BI 0,BI 1]) (D2) (Z 0))) (C6 (DC 2 [] (ET (A9 AO (Z 0) (A7 (.int 1)))) (F6 [BI 0,BI 1]) (D2) (Z 1)))))
    (Aq (GI 2 (E0 (AB)))
    (Aq (G7 (II (A0 (Bm CQ (A0 (A9 AO (Z 0) (A7 (.int 0))) (AB))) (AB))) (BI 3) (Ny (Tj 2 (C6 (DC 1 [3,1] (II (A0 (A9 AO (A9 AO (Z 0) (A7 (.int 0))) (Z 3)) (AB))) (BI 0) (B2 (A9 (inD false) (Db (A0 (Z 1) (A0 (Z 0) (AB)))) (Z 2))) (Db (A0 (Z 1) (A0 (Z 0) (AB)))))))))
    (Ie (NP 2))))
def TG:List D->R BQ:=C0 4 dZ
def Lj:Bv ["_law_parts","_law_script","_law_outer_here","_law_found","_law_k","_law_word","_law_cell","_law_pattern","_law_door_here","_law_saying"] ["_law_parts","_law_script"] (BW g4):=CE
noncomputable def db:Ay:=
    Aq (Cg 2 (C6 (KR 1 TG (A0 (Z 0) (AB)))))
    (Aq (GI 3 (E0 (AB)))
    (Aq (G7 (Q4 (A0 (C6 (E0 (A0 (A7 (.str (As "comes"))) (A0 (A7 (.str (As "leaves"))) (A0 (A7 (.str (As "noring"))) (A0 (A7 (.str (As "by"))) (A0 (A7 (.str (As "never"))) (AB)))))))) (AB))) (F6 [BI 4,BI 5]) (Aq (Cg 6 (Au 2 Ig (A0 (Z 1) (A0 (A9 Cy (A7 (.int 1)) (Z 4)) (AB)))))
    (Aq (Cg 7 (LH (As "") (A0 (C6 (DC 1 [6] (II (A0 (A7 (.int 4)) (AB))) (BI 0) (D2) (A9 AO (A7 (.str (As "01x"))) (A9 Dr (Au 2 G8 (A0 (Z 1) (A0 (Z 0) (AB)))) (A7 (.int 3)))))) (AB))))
    (Aq (Cg 8 (A9 AO (Z 2) (A9 Dr (Au 2 G8 (A0 (Z 6) (A0 (A7 (.int 5)) (AB)))) (Bm CQ (A0 (Z 2) (AB))))))
    (Aq (Cg 9 (Db (A0 (Z 5) (A0 (Z 7) (A0 (Z 8) (AB))))))
    (Aq (C4 (B2 (A9 (Bz true) (Z 5) (A7 (.str (As "comes"))))) (Cg 9 (A9 SY (Z 9) (Db (A0 (A9 AO (Z 2) (A9 Dr (Au 2 G8 (A0 (Z 6) (A0 (A7 (.int 6)) (AB)))) (Bm CQ (A0 (Z 2) (AB))))) (AB))))) (CI))
    (Aq (C4 (B2 (A9 (inD true) (Z 5) (Db (A0 (A7 (.str (As "by"))) (A0 (A7 (.str (As "never"))) (AB)))))) (Cg 9 (A9 SY (Z 9) (Db (A0 (A9 Dr (Au 2 G8 (A0 (Z 6) (A0 (A7 (.int 7)) (AB)))) (Bm CQ (A0 (A9 AO (Z 0) (A7 (.int 0))) (AB)))) (AB))))) (CI))
    (KP 3 (Z 9)))))))))
    (Ie (NP 3))))
def Wm:List D->R BQ:=C0 10 db
def r8:Bv ["_law_saying","_law_words_here"] ["_law_saying"] (BW g0):=CE
noncomputable def Ub:Ay:=
    Aq (GI 1 (E0 (A0 (A9 AO (Z 0) (A7 (.int 0))) (A0 (A9 AO (Z 0) (A7 (.int 1))) (A0 (Au 1 NR (A0 (A9 AO (Z 0) (A7 (.int 2))) (AB))) (AB))))))
    (Aq (C4 (B2 (A9 (Bz true) (A9 AO (Z 0) (A7 (.int 0))) (A7 (.str (As "comes"))))) (KP 1 (Au 1 NR (A0 (A9 AO (Z 0) (A7 (.int 3))) (AB)))) (CI))
    (Aq (C4 (B2 (A9 (inD true) (A9 AO (Z 0) (A7 (.int 0))) (Db (A0 (A7 (.str (As "by"))) (A0 (A7 (.str (As "never"))) (AB)))))) (KP 1 (Bm Jd (A0 (A9 AO (Z 0) (A7 (.int 3))) (AB)))) (CI))
    (KU (LH (As " ") (A0 (Z 1) (AB))))))
def TH:List D->R BQ:=C0 2 Ub
def aea:Bv ["saying"] ["saying"] (BW hz):=CE
def cz:Ay:=
    Bc (Au 1 J_ (A0 (C6 (DC 1 [] (Q5 (Z 0)) (BI 0) (D2) (LG (B2 (D4 (Cp "tuple") (Z 0))) (Au 1 NQ (A0 (Z 0) (AB))) (Z 0)))) (AB)))
def Zu:List D->R BQ:=C0 1 cz
def aer:Bv ["self","thing"] ["self","thing"] (BW gp):=CE
def bl:Ay:=
    Bc (Au 2 Qt (A0 (D4 (Fv "Net" "counts") (Z 0)) (A0 (Z 1) (AB))))
def ag:List D->R BQ:=C0 2 bl
def aes:Bv ["self","thing"] ["self","thing"] (BW gq):=CE
def bn:Ay:=
    Bc (JY (IH "Net" "is_door" 1 ag (Z 0) (A0 (Z 1) (AB))) (A9 (H2 false) (Z 1) (D4 (Fv "Net" "far") (Z 0))))
def Q7:List D->R BQ:=C0 2 bn
def aeJ:Bv ["thing","net"] ["thing","net"] (BW gL):=CE
noncomputable def Ua:Ay:=
    Aq (C4 (EL (Cq (B2 (D4 (Cp "tuple") (Z 0)))) (B2 (A9 (inD false) (Bm CQ (A0 (Z 0) (AB))) (Db (A0 (A7 (.int 3)) (A0 (A7 (.int 4)) (AB))))))) (Bc (A7 (.AI false))) (CI))
    (Aq (C4 (EL (Cq (B2 (D4 (Cp "str") (A9 AO (Z 0) (A7 (.int 0)))))) (EL (Cq (B2 (Au 1 PV (A0 (A9 AO (Z 0) (A7 (.int 1))) (AB))))) (Cq (B2 (IH "Net" "is_outer" 1 Q7 (Z 1) (A0 (A9 AO (Z 0) (A7 (.int 2))) (AB))))))) (Bc (A7 (.AI false))) (CI))
    (Aq (C4 (B2 (A9 (Bz true) (Bm CQ (A0 (Z 0) (AB))) (A7 (.int 3)))) (Bc (A9 (inD true) (A9 AO (Z 0) (A7 (.int 0))) (Db (A0 (A7 (.str (As "leaves"))) (A0 (A7 (.str (As "noring"))) (AB)))))) (CI))
    (Aq (C4 (B2 (A9 (Bz true) (A9 AO (Z 0) (A7 (.int 0))) (A7 (.str (As "comes"))))) (Bc (IH "Net" "is_outer" 1 Q7 (Z 1) (A0 (A9 AO (Z 0) (A7 (.int 3))) (AB)))) (CI))
    (Bc (JY (A9 (inD true) (A9 AO (Z 0) (A7 (.int 0))) (Db (A0 (A7 (.str (As "by"))) (A0 (A7 (.str (As "never"))) (AB))))) (Au 3 MB (A0 (A9 AO (Z 0) (A7 (.int 3))) (A0 (A7 (.int 0)) (A0 (A9 Kc (D4 (Fv "Net" "many") (Z 1)) (A7 (.int 1))) (AB))))))))))
def TA:List D->R BQ:=C0 2 Ua
def bZ:Bv ["text","net","words","things","saying"] ["text","net"] (BW hy):=CE
noncomputable def cy:Ay:=
    Aq (Cg 2 (Au 2 Mx (A0 (Z 0) (A0 (A7 (.str (As " "))) (AB)))))
    (Aq (C4 (FJ (EL (B2 (A9 (Ve "SAYING_READS" Pm) (A9 AO (Z 2) (A7 (.int 0))) (A7 (.fn "SAYING_READS")))) (B2 (A9 (Bz false) (A9 Kc (Bm CQ (A0 (Z 2) (AB))) (A7 (.int 1))) (Bm CQ (A0 (A9 (Ox "SAYING_READS" Pm) (A7 (.fn "SAYING_READS")) (A9 AO (Z 2) (A7 (.int 0)))) (AB))))))) (Hh "NoText") (CI))
    (Aq (LJ 3 (Nx 2 [] (Nz (A0 (A9 (Ox "SAYING_READS" Pm) (A7 (.fn "SAYING_READS")) (A9 AO (Z 2) (A7 (.int 0)))) (A0 (JA JF (Z 2) (J9 (A7 (.int 1))) (LI)) (AB)))) (F6 [BI 0,BI 1]) (Ic 0 b7 (A0 (Z 1) (AB)))))
    (Aq (Fo (Cg 4 (Bm OG (A0 (A9 Cy (C6 (E0 (A0 (A9 AO (Z 2) (A7 (.int 0))) (AB)))) (Z 3)) (AB)))))
    (Aq (C4 (FJ (Cq (B2 (Au 2 TA (A0 (Z 4) (A0 (Z 1) (AB))))))) (Hh "NoSaying") (CI))
    (Fo (Bc (Z 4)))))))
def W2:List D->R BQ:=C0 5 cy
def af5:Bv ["thing","doors"] ["thing","doors"] (BW gG):=CE
def ZO:Ay:=
    Bc (T3 (A9 (H6 true) (Z 0) (A7 .non)) (Au 3 MB (A0 (Z 0) (A0 (A7 (.int 0)) (A0 (A9 Kc (Z 1) (A7 (.int 1))) (AB))))))
def PU:List D->R BQ:=C0 2 ZO
def af8:Bv ["thing","doors"] ["thing","doors"] (BW gK):=CE
noncomputable def dO:Ay:=
    Aq (C4 (EL (Cq (B2 (D4 (Cp "tuple") (Z 0)))) (B2 (A9 (Bz false) (Bm CQ (A0 (Z 0) (AB))) (A7 (.int 3))))) (Bc (A7 (.AI false))) (CI))
    (Aq (C4 (Cq (B2 (Au 1 PV (A0 (A9 AO (Z 0) (A7 (.int 0))) (AB))))) (Bc (A7 (.AI false))) (CI))
    (Bc (JY (Au 2 PU (A0 (A9 AO (Z 0) (A7 (.int 1))) (A0 (Z 1) (AB)))) (Au 2 PU (A0 (A9 AO (Z 0) (A7 (.int 2))) (A0 (Z 1) (AB)))))))
def T9:List D->R BQ:=C0 2 dO
def af1:Bv ["thing","doors"] ["thing","doors"] (BW gC):=CE
noncomputable def cM:Ay:=
    Aq (C4 (EL (Cq (B2 (D4 (Cp "list") (Z 0)))) (B2 (A9 SB (Bm CQ (A0 (Z 0) (AB))) (A7 SV)))) (Bc (A7 (.AI false))) (CI))
    (Bc (Bm DP (A0 (C6 (DC 1 [1] (ET (Z 0)) (BI 0) (D2) (Au 2 T9 (A0 (Z 0) (A0 (Z 1) (AB)))))) (AB))))
def T8:List D->R BQ:=C0 2 cM
def af2:Bv ["thing","net"] ["thing","net"] (BW gD):=CE
noncomputable def dJ:Ay:=
    Aq (C4 (EL (Cq (B2 (D4 (Cp "list") (Z 0)))) (B2 (A9 (Bz false) (Bm CQ (A0 (Z 0) (AB))) (D4 (Fv "Net" "many") (Z 1))))) (Bc (A7 (.AI false))) (CI))
    (Bc (Bm DP (A0 (C6 (DC 2 [1] (Q4 (A0 (Z 0) (AB))) (F6 [BI 0,BI 1]) (D2) (Au 2 T8 (A0 (Z 1) (A0 (IH "Net" "count" 1 T6 (Z 2) (A0 (Z 0) (AB))) (AB)))))) (AB))))
def Qs:List D->R BQ:=C0 2 dJ
def ae_:Bv ["thing","net"] ["thing","net"] (BW hu):=CE
def cv:Ay:=
    C4 (FJ (Cq (B2 (Au 2 Qs (A0 (Z 0) (A0 (Z 1) (AB))))))) (Hh "NoBooks") (CI)
def Zs:List D->R BQ:=C0 2 cv
def af0:Bv ["thing"] ["thing"] (BW gB):=CE
def bx:Ay:=
    Bc (Au 3 MB (A0 (Z 0) (A0 (A7 (.int 0)) (A0 (A7 SR) (AB)))))
def Qr:List D->R BQ:=C0 1 bx
def aez:Bv ["pattern","address"] ["pattern","address"] (BW gA):=CE
noncomputable def bw:Ay:=
    Aq (C4 (EL (Cq (B2 (Au 1 PV (A0 (Z 0) (AB))))) (Cq (B2 (Au 1 Qr (A0 (Z 1) (AB)))))) (Bc (A7 (.AI false))) (CI))
    (Bc (Bm DP (A0 (C6 (DC 2 [1] (aY (A0 (Z 0) (A0 (A7 PL) (AB)))) (F6 [BI 0,BI 1]) (D2) (A9 (inD true) (Z 0) (Db (A0 (A7 (.str (As "x"))) (A0 (Bm Jd (A0 (A9 Dr (A9 K8 (Z 2) (Z 1)) (A7 (.int 2))) (AB))) (AB))))))) (AB))))
def T7:List D->R BQ:=C0 2 bw
def hK:Bv ["book","door","address","number","row"] ["book","door","address"] (BW i1):=CE
noncomputable def d0:Ay:=
    Aq (G7 (Q4 (A0 (Z 0) (AB))) (F6 [BI 3,BI 4]) (C4 (LF (EL (B2 (A9 (H6 true) (A9 AO (Z 4) (A7 (.int 1))) (A7 .non))) (B2 (A9 (Bz true) (A9 AO (Z 4) (A7 (.int 1))) (Z 1)))) (B2 (Au 2 T7 (A0 (A9 AO (Z 4) (A7 (.int 0))) (A0 (Z 2) (AB)))))) (Bc (Z 3)) (CI)))
    (Bc (A7 .non))
def Zv:List D->R BQ:=C0 5 d0
def aeo:Bv ["self","door"] ["self","door"] (BW gl):=CE
def cK:Ay:=
    Bc (Wb (D4 (Fv "Net" "far") (Z 0)) (Z 1))
def Wg:List D->R BQ:=C0 2 cK
def bY:Bv ["net","book","door","address","number","out","far"] ["net","book","door","address"] (BW hn):=CE
noncomputable def SP:Ay:=
    Aq (Cg 4 (Au 3 Zv (A0 (Z 1) (A0 (A9 AO (Z 2) (A7 (.int 1))) (A0 (Z 3) (AB))))))
    (Aq (Cg 5 (LG (B2 (A9 (H6 true) (Z 4) (A7 .non))) (A7 .non) (A9 AO (A9 AO (Z 1) (Z 4)) (A7 (.int 2)))))
    (Aq (C4 (B2 (A9 (H6 true) (Z 5) (A7 .non))) (Bc (Db (A0 (A7 (.str (As "drop"))) (A0 (A9 AO (Z 2) (A7 (.int 0))) (AB))))) (CI))
    (Aq (Cg 6 (IH "Net" "beyond" 1 Wg (Z 0) (A0 (Db (A0 (A9 AO (Z 2) (A7 (.int 0))) (A0 (Z 5) (AB)))) (AB))))
    (Aq (C4 (B2 (A9 (H6 true) (Z 6) (A7 .non))) (Bc (Db (A0 (A7 (.str (As "out"))) (A0 (A9 AO (Z 2) (A7 (.int 0))) (A0 (Z 5) (AB)))))) (CI))
    (Bc (Db (A0 (A7 (.str (As "at"))) (A0 (A9 AO (Z 6) (A7 (.int 0))) (A0 (A9 AO (Z 6) (A7 (.int 1))) (AB))))))))))
def NT:List D->R BQ:=C0 7 SP
def b_:Bv ["net","books","door","address","doors","told"] ["net","books","door","address"] (BW i2):=CE
noncomputable def kL:Ay:=
    Aq (GI 4 (E0 (AB)))
    (Aq (Qp (KQ (B2 (A9 (inD false) (Z 2) (Z 4)))) (Aq (KP 4 (Z 2))
    (Aq (Cg 5 (Au 4 NT (A0 (Z 0) (A0 (A9 AO (Z 1) (A9 AO (Z 2) (A7 (.int 0)))) (A0 (Z 2) (A0 (Z 3) (AB)))))))
    (Aq (C4 (B2 (A9 (Bz false) (A9 AO (Z 5) (A7 (.int 0))) (A7 (.str (As "at"))))) (KU (Db (A0 (Z 4) (A0 (Z 5) (AB))))) (CI))
    (Cg 2 (Db (A0 (A9 AO (Z 5) (A7 (.int 1))) (A0 (A9 AO (Z 5) (A7 (.int 2))) (AB)))))))))
    (KU (Db (A0 (Z 4) (A0 (Db (A0 (A7 (.str (As "ring"))) (A0 (T1 (Z 4) (A0 (Z 2) (AB))) (AB)))) (AB))))))
def W4:List D->R BQ:=C0 6 kL
def aeb:Bv ["net","books","door","address"] ["net","books","door","address"] (BW i3):=CE
noncomputable def SQ:Ay:=
    Aq (Wc (Au 2 Zs (NW (A0 (Z 1) (A0 (Z 0) (AB))))))
    (Aq (C4 (FJ (Cq (B2 (IH "Net" "is_outer" 1 Q7 (Z 0) (A0 (Z 2) (AB)))))) (Hh "NoDoor") (CI))
    (Aq (C4 (FJ (Cq (B2 (Au 1 Qr (A0 (Z 3) (AB)))))) (Hh "NoAddress") (CI))
    (Fo (Bc (Au 4 W4 (A0 (Z 0) (A0 (Z 1) (A0 (Z 2) (A0 (Z 3) (AB))))))))))
def PX:List D->R BQ:=C0 4 SQ
def aec:Bv ["told"] ["told"] (BW i4):=CE
noncomputable def d2:Ay:=
    Bc (Au 1 J_ (A0 (A9 Cy (A9 Cy (C6 (DC 1 [] (ET (A9 AO (Z 0) (A7 (.int 0)))) (BI 0) (D2) (Au 1 NQ (A0 (Z 0) (AB))))) (C6 (E0 (A0 (A7 (.str (As ":"))) (AB))))) (C6 (Mv (A0 (A9 AO (Z 0) (A7 (.int 1))) (AB))))) (AB)))
def Zw:List D->R BQ:=C0 1 d2
def hI:Bv ["_law_net_here","_law_books_here","_law_door_here","_law_address","_law_told","_law_due"] ["_law_net_here","_law_books_here","_law_door_here","_law_address"] (BW g6):=CE
noncomputable def de:Ay:=
    Aq (Cg 4 (Mu 4 PX (A0 (Z 0) (A0 (Z 1) (A0 (Z 2) (A0 (Z 3) (AB)))))))
    (Aq (Cg 5 (Au 1 Wn (A0 (A9 Cy (A9 Cy (C6 (DC 1 [] (ET (A9 AO (Z 4) (A7 (.int 0)))) (BI 0) (D2) (Au 1 NR (A0 (Z 0) (AB))))) (C6 (E0 (A0 (A7 (.str (As ":"))) (AB))))) (C6 (Mv (A0 (A9 AO (Z 4) (A7 (.int 1))) (AB))))) (AB))))
    (Bc (Au 2 PW (A0 (Au 1 Zw (A0 (Z 4) (AB))) (A0 (Z 5) (AB))))))
def Zo:List D->R BQ:=C0 6 de
def JE:Bv ["_law_script","_law_parts","_law_net_here","_law_text","_law_again","_law_counts","_law_books_here","_law_book_here","_law_far","_law_plan_here","_law_steps","_law_saying","_law_door_here"] ["_law_script"] (BW Pj):=CE
noncomputable def dS:Ay:=
    Aq (Cg 1 (Au 1 TF (A0 (Au 2 Ig (A0 (Z 0) (A0 (A7 (.int 0)) (AB)))) (AB))))
    (Aq (Cg 2 (Wd "Net" 2 af (A0 (C6 (Mv (A0 (A9 AO (Z 1) (A7 (.int 0))) (AB)))) (A0 (C6 (Mv (A0 (A9 AO (Z 1) (A7 (.int 1))) (AB)))) (AB)))))
    (Aq (Cg 3 (Au 1 Wn (A0 (A9 Cy (A9 AO (Z 1) (A7 (.int 0))) (C6 (DC 2 [] (ET (A9 AO (Z 1) (A7 (.int 1)))) (F6 [BI 0,BI 1]) (D2) (A9 Cy (A9 Cy (Au 1 NR (A0 (Z 0) (AB))) (A7 (.str (As "-")))) (Au 1 NR (A0 (Z 1) (AB))))))) (AB))))
    (Aq (Cg 4 (Mu 1 Zp (A0 (Z 3) (AB))))
    (Aq (C4 (EL (Cq (B2 (Au 2 PW (A0 (Au 1 Wo (A0 (Z 2) (AB))) (A0 (Z 3) (AB)))))) (B2 (A9 (Bz false) (Au 1 Wo (A0 (Z 4) (AB))) (Z 3)))) (Bc (A7 (.AI false))) (CI))
    (Aq (LJ 5 (DC 1 [4] (II (A0 (D4 (Fv "Net" "many") (Z 4)) (AB))) (BI 0) (D2) (IH "Net" "count" 1 T6 (Z 1) (A0 (Z 0) (AB)))))
    (Aq (C4 (Cq (B2 (Au 2 (IJ 5) (A0 (C6 (E0 (A0 (Z 5) (A0 (IH "Net" "wires" 0 Wh (Z 4) AB) (AB))))) (A0 (C6 (E0 (A0 (A9 AO (Z 1) (A7 (.int 0))) (A0 (A9 AO (Z 1) (A7 (.int 1))) (AB))))) (AB)))))) (Bc (A7 (.AI false))) (CI))
    (Aq (Cg 6 (C6 (KR 3 TD (A0 (Z 0) (A0 (A7 (.int 1)) (A0 (A9 AO (Z 1) (A7 (.int 0))) (AB)))))))
    (Aq (G7 (ET (Z 6)) (BI 7) (Aq (C4 (Cq (B2 (Au 2 PW (A0 (Au 1 Zm (A0 (Z 7) (AB))) (A0 (Au 1 TC (A0 (Z 7) (AB))) (AB)))))) (Bc (A7 (.AI false))) (CI))
    (C4 (Cq (B2 (Au 2 (IJ 5) (A0 (Mu 1 Wj (A0 (Au 1 TC (A0 (Z 7) (AB))) (AB))) (A0 (Z 7) (AB)))))) (Bc (A7 (.AI false))) (CI))))
    (Aq (Cg 8 (A9 WN (C6 (E0 (A0 (Db (A0 (A7 (.str (As "xx01"))) (A0 (A7 .non) (A0 (A7 (.int 2)) (AB))))) (AB)))) (A9 Cy (A7 (.int 13)) (A9 Dr (Au 2 G8 (A0 (Au 2 Ig (A0 (Z 0) (A0 (A7 (.int 1)) (AB)))) (A0 (A7 (.int 5)) (AB)))) (A7 (.int 8))))))
    (Aq (C4 (Cq (B2 (Au 2 (IJ 5) (A0 (Mu 1 Wj (A0 (Au 1 TC (A0 (Z 8) (AB))) (AB))) (A0 (Z 8) (AB)))))) (Bc (A7 (.AI false))) (CI))
    (Aq (Cg 9 (C6 (KR 2 Wl (A0 (JA JF (Z 0) (J9 (A7 (.int 13))) (LI)) (A0 (Bm CQ (A0 (A9 AO (Z 1) (A7 (.int 0))) (AB))) (AB))))))
    (Aq (G7 (ET (C6 (E0 (A0 (Z 9) (A0 (JA JF (Z 9) (LI) (J9 (A7 (.int 2)))) (A0 (C6 (E0 (AB))) (AB))))))) (BI 10) (Aq (Cg 3 (A9 Cy (LH (As ", ") (A0 (C6 (DC 1 [] (ET (Z 10)) (BI 0) (D2) (Au 1 Wn (A0 (Z 0) (AB))))) (AB))) (A9 TQ (A7 (.str (As "-"))) (Bm WR (A0 (A9 (Bz true) (Z 10) (C6 (E0 (AB)))) (AB))))))
    (C4 (EL (Cq (B2 (Au 2 PW (A0 (Au 1 Zr (A0 (Z 10) (AB))) (A0 (Z 3) (AB)))))) (Cq (B2 (Au 2 (IJ 5) (A0 (Mu 2 Zq (A0 (Z 3) (A0 (Z 2) (AB)))) (A0 (Z 10) (AB))))))) (Bc (A7 (.AI false))) (CI))))
    (Aq (G7 (ET (C6 (KR 2 Wm (A0 (Z 1) (A0 (Z 0) (AB)))))) (BI 11) (Aq (Cg 3 (Au 1 TH (A0 (Z 11) (AB))))
    (Aq (C4 (Cq (B2 (Au 2 PW (A0 (Au 1 Zu (A0 (Z 11) (AB))) (A0 (Z 3) (AB)))))) (Bc (A7 (.AI false))) (CI))
    (C4 (Cq (B2 (Au 2 (IJ 5) (A0 (Mu 2 W2 (A0 (Z 3) (A0 (Z 2) (AB)))) (A0 (Z 11) (AB)))))) (Bc (A7 (.AI false))) (CI)))))
    (Aq (Cg 12 (A9 AO (C6 (KR 1 TG (A0 (Z 1) (AB)))) (A9 Dr (Au 2 G8 (A0 (Au 2 Ig (A0 (Z 0) (A0 (A7 (.int 13)) (AB)))) (A0 (A7 (.int 3)) (AB)))) (Bm CQ (A0 (C6 (KR 1 TG (A0 (Z 1) (AB)))) (AB))))))
    (Bc (Au 4 Zo (A0 (Z 2) (A0 (Z 6) (A0 (Z 12) (A0 (A9 Dr (Au 2 G8 (A0 (Au 2 Ig (A0 (Z 0) (A0 (A7 (.int 12)) (AB)))) (A0 (A7 (.int 4)) (AB)))) (A7 (.int 16))) (AB)))))))))))))))))))))
def Qw:List D->R BQ:=C0 13 dS
section
variable{P:Bt}{w:Bg}{K:AZ}{mg:Str->Option A4}{base:B1}(T:cB K mg)
include T
set_option maxHeartbeats 4000000
def fi:DA P w K mg base "_law_draws" 2 1 NS:=by
 have h:=DM (P:=P) (w:=w) (mg:=mg) (base:=base) (k:=0) (m:=dW) T.mz R6;exact h λ_ _ _ _ _ _ _ A6 _ _=>
 B8 (MJ 2 R6.B6 (Ek (AJ)))
  (B8 (D8 3 R6.B6 (PN (A2 0) (AS)))
  (B8 (LV Jv (LW T.Jo (A5 (A2 1) (AJ))) (Ih 4 R6.B6) (Ax (Cb (Kf A6.units (Ej (A2 0) (AS)) (AS)) (B8 (D8 5 R6.B6 (BJ (CR (Ek (A5 (AS) (A5 (AS) (A5 (AS) (A5 (AS) (AJ))))))) (Ej (PN (A2 4) (AS)) (AS)) Af))
  (B8 (D8 6 R6.B6 (BJ (CR (Ek (A5 (AS) (A5 (AS) (A5 (AS) (A5 (AS) (AJ))))))) (Ej (A2 4) (AS)) Af))
  (Ax (R_ 2 (PN (Ej (U7 (Ef (Ef (Ej (A2 3) (ia (AS) (AS))) (U7 (AS) (A2 4))) (AS)) (A2 6)) (A2 5)) (AS)))))) (B8 (R_ 2 (Ej (A2 3) (ia (AS) (AS))))
  (Ax (D8 3 R6.B6 (PN (A2 3) (ia (AS) (AS)))))))))
  (Ax (au 2))))
def zY:DA P w K mg base "_law_net" 1 2 TF:=by
 have h:=DM (P:=P) (w:=w) (mg:=mg) (base:=base) (k:=1) (m:=dY) T.n1 OU;exact h λ_ _ _ _ _ _ _ A6 _ _=>
 B8 (D8 1 OU.B6 (CR (OL (fi T) (A6.mono (by decide)) (A5 (A2 0) (A5 (AS) (AJ))))))
  (B8 (D8 2 OU.B6 (Ef (AS) (Ej (BJ (A2 1) (AS) Af) (AS))))
  (B8 (Tl (X7 (N:=["_law_k","_law_draws_here","_law_many"]) 3 1 [1,2] OU.B6 (by rfl) (LW T.Jo (A5 (A2 2) (AJ))) (FY 0) (Er) (λ_ _ _ _ _ _ _=>Ef (AS) (Ej (BJ (A2 1) (Ef (AS) (A2 0)) Af) (BJ (CR (Ek (A5 (AS) (A5 (AS) (A5 (AS) (A5 (AS) (A5 (AS) (A5 (AS) (AJ))))))))) (MF (A2 2) (AS)) Af)))))
  (B8 (MJ 4 OU.B6 (Ek (AJ)))
  (B8 (LV Jv (LW T.Jo (A5 (E3 T.Dh (A5 (A2 3) (AJ))) (AJ))) (Ih 5 OU.B6) (Ax (X8 (s8 4 (CR (FA (N:=["_law_door_here","_law_house"]) 1 [5] (by rfl) (LW T.Jo (A5 (BJ (A2 3) (A2 5) Af) (AJ))) (FY 0) (Er) (λ_ _ _ _ _ _ _=>EO (A5 (A2 1) (A5 (A2 0) (AJ))))))))))
  (B8 (MJ 6 OU.B6 (Ek (AJ)))
  (B8 (LV Jv (LW T.Jo (A5 (U5 (MF (PN (MF (E3 T.Dh (A5 (A2 4) (AJ))) (AS)) (AS)) (Ej (BJ (A2 1) (AS) Af) (AS)))) (AJ))) (Ih 7 OU.B6) (B8 (rc 8 OU.B6 (ao 4 (U5 (Ej (BJ (A2 1) (Ef (AS) (U7 (AS) (A2 7))) Af) (E3 T.Dh (A5 (A2 4) (AJ)))))))
  (Ax (ahB 6 (ahn (rX (ahk (A2 8)) (rX (ao 4 (U5 (Ej (BJ (A2 1) (Ef (AS) (U7 (AS) (A2 7))) Af) (E3 T.Dh (A5 (A2 4) (AJ)))))) (ahl))))))))
  (Ax (UA (EO (A5 (A2 3) (A5 (A2 6) (AJ))))))))))))
def Td:DA P w K mg base "_law_cell_at" 2 1 Ig:=by
 have h:=DM (P:=P) (w:=w) (mg:=mg) (base:=base) (k:=0) (m:=ZP) T.mx aeO;exact h λ_ _ _ _ _ _ _ A6 _ _=>
 B8 (Cb (bM (A2 1) (E3 T.Dh (A5 (A2 0) (AJ)))) (Ax (Bk (BJ (A2 0) (A2 1) Af))) (Cm))
  (Ax (Bk (AS)))
def zU:DA P w K mg base "is_whole" 1 1 f9:=by
 have h:=DM (P:=P) (w:=w) (mg:=mg) (base:=base) (k:=0) (m:=l5) T.lG aeL;exact h λ_ _ _ _ _ _ _ A6 _ _=>
 Ax (Bk (NG (Fh (iH _) T.FO T.SO (by kernel_rfl) (A2 0)) (LU (ahg (Fh (sG _) T.FO T.br (by kernel_rfl) (A2 0))))))
def Qm:DA P w K mg base "is_whole_within" 3 2 MB:=by
 have h:=DM (P:=P) (w:=w) (mg:=mg) (base:=base) (k:=1) (m:=dQ) T.lg aeM;exact h λ_ _ _ _ _ _ _ A6 _ _=>
 Ax (Bk (NG (Bf (zU T) (A6.mono (by decide)) (A5 (A2 0) (AJ))) (LU (ahV R3 R3 R2 R2 (A2 1) (A2 0) (A2 2)))))
def zK:DA P w K mg base "are_counts" 1 3 Wi:=by
 have h:=DM (P:=P) (w:=w) (mg:=mg) (base:=base) (k:=2) (m:=ZM) T.lU aeu;exact h λ_ _ _ _ _ _ _ A6 _ _=>
 B8 (Cb (Fi (GB (D_ (DN (Fh (Of _) T.FO T.I9 (by kernel_rfl) (A2 0)))) (Gc (D_ (iA R3 R3 R2 R2 (AS) (E3 T.Dh (A5 (A2 0) (AJ))) (HF T.RF)))))) (Ax (Bk (Fg))) (Cm))
  (Ax (Bk (Ps A6 T.OE (A5 (CR (FA (N:=["doors"]) 1 [] (by rfl) (Fy (A2 0)) (FY 0) (Er) (λ_ _ _ _ _ _ _=>Bf (Qm T) (A6.mono (by decide)) (A5 (A2 0) (A5 (AS) (A5 (HF T.SS) (AJ))))))) (AJ)))))
def pG:DA P w K mg base "is_pair" 1 1 Wk:=by
 have h:=DM (P:=P) (w:=w) (mg:=mg) (base:=base) (k:=0) (m:=l4) T.lA af6;exact h λ_ _ _ _ _ _ _ A6 _ _=>
 Ax (Bk (NG (Fh (Qe _) T.FO T.Lz (by kernel_rfl) (A2 0)) (LU (Qh A6.units (E3 T.Dh (A5 (A2 0) (AJ))) (AS)))))
def fg:DA P w K mg base "is_door_among" 2 3 Qt:=by
 have h:=DM (P:=P) (w:=w) (mg:=mg) (base:=base) (k:=2) (m:=dK) T.l7 af3;exact h λ_ _ _ _ _ _ _ A6 _ _=>
 B8 (Cb (Fi (GB (D_ (DN (Bf (pG T) (A6.mono (by decide)) (A5 (A2 1) (AJ))))) (Gc (D_ (DN (Bf (Qm T) (A6.mono (by decide)) (A5 (BJ (A2 1) (AS) Af) (A5 (AS) (A5 (MF (E3 T.Dh (A5 (A2 0) (AJ))) (AS)) (AJ)))))))))) (Ax (Bk (Fg))) (Cm))
  (Ax (Bk (Bf (Qm T) (A6.mono (by decide)) (A5 (BJ (A2 1) (AS) Af) (A5 (AS) (A5 (MF (BJ (A2 0) (BJ (A2 1) (AS) Af) Af) (AS)) (AJ)))))))
def zV:DA P w K mg base "is_wire_among" 2 4 TB:=by
 have h:=DM (P:=P) (w:=w) (mg:=mg) (base:=base) (k:=3) (m:=dR) T.mq r6;exact h λ_ _ _ _ _ _ _ A6 _ _=>
 B8 (Cb (D_ (DN (Bf (pG T) (A6.mono (by decide)) (A5 (A2 1) (AJ))))) (Ax (Bk (Fg))) (Cm))
  (B8 (D8 2 r6.B6 (NG (Bf (fg T) (A6.mono (by decide)) (A5 (A2 0) (A5 (BJ (A2 1) (AS) Af) (AJ)))) (LU (Bf (fg T) (A6.mono (by decide)) (A5 (A2 0) (A5 (BJ (A2 1) (AS) Af) (AJ)))))))
  (Ax (Bk (NG (A2 2) (LU (rU A6.units (BJ (A2 1) (AS) Af) (BJ (A2 1) (AS) Af)))))))
def zM:GS P w K mg base "far_doors" 2 5 Qq:=by
 have h:=Hz (P:=P) (w:=w) (mg:=mg) (base:=base) (k:=4) (m:=ZN) T.lZ hH;exact h λ_ _ _ _ _ _ _ A6 _ _=>
 B8 (JH (ahG 2 hH.B6))
  (B8 (LV PassesOwn.leaving (iB (A2 1)) (Ih 3 hH.B6) (B8 (Cb (I1 (D_ (DN (Bf (zV T) (A6.mono (by decide)) (A5 (A2 0) (A5 (A2 3) (AJ))))))) (Ax (JI T.X3)) (Cm))
  (B8 (Cb (I1 (XA (Fi (GB (sW A6.units (BJ (A2 3) (AS) Af) (A2 2)) (Gc (sW A6.units (BJ (A2 3) (AS) Af) (A2 2))))))) (Ax (JI T.X3)) (Cm))
  (B8 (JH (r_ 2 A6.units (BJ (A2 3) (AS) Af) (BJ (A2 3) (AS) Af)))
  (Ax (JH (r_ 2 A6.units (BJ (A2 3) (AS) Af) (BJ (A2 3) (AS) Af))))))))
  (Ax (JH (UA (A2 2)))))
def p9:YZ P w K mg base "Net" 2 6 af:=by
 have h:=ah4 (P:=P) (w:=w) (mg:=mg) (base:=base) (k:=5) (m:=ZL) T.lQ aeq;exact h λ_ _ _ _ _ _ _ A6 _ _=>
 X6 (rZ T.X3 (I1 (D_ (DN (Bf (zK T) (A6.mono (by decide)) (A5 (A2 1) (AJ)))))))
  (X6 (rZ T.X3 (I1 (D_ (DN (Fh (Of _) T.FO T.I9 (by kernel_rfl) (A2 2))))))
  (X6 (aq T.Hf (i8 (E3 T.Dh (A5 (A2 1) (AJ)))))
  (X6 (aq T.Hf (i8 (ib T.Lz (A5 (A2 1) (AJ)))))
  (X6 (aq T.Hf (i8 (ib T.Lz (A5 (A2 2) (AJ)))))
  (ah5 (aq T.Hf (ahU (rz (zM T) (A6.mono (by decide)) (rY (A5 (Ke T.Hf (A2 0)) (A5 (Ke T.Hf (A2 0)) (AJ))))))))))))
def fk:DA P w K mg base "_law_words" 1 1 Wn:=by
 have h:=DM (P:=P) (w:=w) (mg:=mg) (base:=base) (k:=0) (m:=kG) T.n9 aeS;exact h λ_ _ _ _ _ _ _ A6 _ _=>
 Ax (Bk (OK (A5 (CR (FA (N:=["_law_thing"]) 1 [] (by rfl) (sb (A2 0)) (FY 0) (Er) (λ_ _ _ _ _ _ _=>rW T.IU (A5 (A2 0) (AJ))))) (AJ))))
def V8:DA P w K mg base "_law_door" 1 1 NR:=by
 have h:=DM (P:=P) (w:=w) (mg:=mg) (base:=base) (k:=0) (m:=l6) T.my aeP;exact h λ_ _ _ _ _ _ _ A6 _ _=>
 Ax (Bk (Ef (Ef (PQ T.IU (A5 (BJ (A2 0) (AS) Af) (AJ))) (Cu)) (PQ T.IU (A5 (BJ (A2 0) (AS) Af) (AJ)))))
def Te:GS P w K mg base "parted" 2 1 Mx:=by
 have h:=Hz (P:=P) (w:=w) (mg:=mg) (base:=base) (k:=0) (m:=di) T.mJ aeX;exact h λ_ _ _ _ _ _ _ A6 _ _=>
 B8 (Cb (I1 (D_ (DN (Fh (Wu _) T.FO T.IU (by kernel_rfl) (A2 0))))) (Ax (JI T.Pr)) (Cm))
  (Ax (JH (X9 (ahA (A2 0) (A2 1)))))
def pE:DA P w K mg base "is_number" 1 1 Qu:=by
 have h:=DM (P:=P) (w:=w) (mg:=mg) (base:=base) (k:=0) (m:=dL) T.l8 af4;exact h λ_ _ _ _ _ _ _ A6 _ _=>
 B8 (Cb (Fi (GB (D_ (iA R3 R3 R2 R2 (AS) (E3 T.Dh (A5 (A2 0) (AJ))) (HF T.SU))) (Gc (D_ (DN (Ps A6 T.OE (A5 (CR (FA (N:=["sign"]) 1 [] (by rfl) (sd (A2 0)) (FY 0) (Er) (λ_ _ _ _ _ _ _=>ahY (A2 0) (HF T.V1)))) (AJ)))))))) (Ax (Bk (Fg))) (Cm))
  (Ax (Bk (rV (Qh A6.units (A2 0) (Cu)) (LU (rU A6.units (BJ (A2 0) (AS) Af) (Cu))))))
def VA:GS P w K mg base "number_read" 1 2 MC:=by
 have h:=Hz (P:=P) (w:=w) (mg:=mg) (base:=base) (k:=1) (m:=kI) T.nG aeW;exact h λ_ _ _ _ _ _ _ A6 _ _=>
 B8 (Cb (I1 (D_ (DN (Bf (pE T) (A6.mono (by decide)) (A5 (A2 0) (AJ)))))) (Ax (JI T.Pr)) (Cm))
  (Ax (JH (Bk (ahi T.SO (A5 (A2 0) (AJ))))))
def agr:PB P w K mg base 2 b6:=⟨λx mf h=>by
 unfold b6 at h
 split at h
 .rename_i e;subst e;cases h;exact⟨⟨_,by decide,VA T⟩,T.bK⟩
 cases h⟩
def pL{k:Nat}{tab:Tab}(YH:PB P w K mg base k tab):GS P w K mg base "pair_read" 3 (k+3) (Wp tab):=by
 have h:=Hz (P:=P) (w:=w) (mg:=mg) (base:=base) (k:=k+2) (m:=dh tab) T.nI rA;exact h λ_ _ _ _ _ _ _ A6 _ _=>
 B8 (D8 3 rA.B6 (I0 HR (Te T) (A6.mono (by omega)) (A5 (A2 0) (A5 (A2 1) (AJ)))))
  (B8 (Cb (I1 (Jg A6.units (E3 T.Dh (A5 (A2 3) (AJ))) (AS))) (Ax (JI T.Pr)) (Cm))
  (Ax (Bk (EO (A5 (am 2 HR YH (A6.mono (by omega)) (A5 (BJ (A2 3) (AS) Af) (AJ))) (A5 (am 2 HR YH (A6.mono (by omega)) (A5 (BJ (A2 3) (AS) Af) (AJ))) (AJ)))))))
def pC:GS P w K mg base "door_read" 1 6 Q8:=by
 have h:=Hz (P:=P) (w:=w) (mg:=mg) (base:=base) (k:=5) (m:=bt) T.lX aex;exact h λ_ _ _ _ _ _ _ A6 _ _=>
 Ax (Bk (I0 HR (pL T (agr T)) (A6.mono (by decide)) (A5 (A2 0) (A5 (Cu) (A5 (R8 T.bK) (AJ))))))
def agq:PB P w K mg base 6 b5:=⟨λx mf h=>by
 unfold b5 at h
 split at h
 .rename_i e;subst e;cases h;exact⟨⟨_,by decide,pC T⟩,T.bJ⟩
 cases h⟩
def aaf:GS P w K mg base "wire_read" 1 10 W5:=by
 have h:=Hz (P:=P) (w:=w) (mg:=mg) (base:=base) (k:=9) (m:=d3) T.mY aed;exact h λ_ _ _ _ _ _ _ A6 _ _=>
 Ax (Bk (I0 HR (pL T (agq T)) (A6.mono (by decide)) (A5 (A2 0) (A5 (Cu) (A5 (R8 T.bJ) (AJ))))))
def zd:GS P w K mg base "net_read" 1 11 Zp:=by
 have h:=Hz (P:=P) (w:=w) (mg:=mg) (base:=base) (k:=10) (m:=df) T.nD bX;exact h λ_ _ _ _ _ _ _ A6 _ _=>
 B8 (D8 1 bX.B6 (I0 HR (Te T) (A6.mono (by decide)) (A5 (A2 0) (A5 (Cu) (AJ)))))
  (B8 (JH (D8 2 bX.B6 (AS)))
  (B8 (JH (sA Jv (Fi (Wr (bM (A2 2) (E3 T.Dh (A5 (A2 1) (AJ)))) (Ws (DN (Bf (pE T) (A6.mono (by decide)) (A5 (BJ (A2 1) (A2 2) Af) (AJ))))))) (Ax (ahC 2 bX.B6 (AS)))))
  (Ax (Bk (ahc HR (p9 T) (A6.mono (by decide)) (A5 (CR (i9 (N:=["word"]) 1 [] ar (by rfl) (Fy (RZ (A2 1) (U9) (PR (A2 2)))) (d9 0) (λ_ _ _ _ _ _ _=>I0 Zh (VA T) (A6.mono (by decide)) (A5 (A2 0) (AJ))))) (A5 (CR (i9 (N:=["word"]) 1 [] ar (by rfl) (Fy (RZ (A2 1) (PR (A2 2)) (U9))) (d9 0) (λ_ _ _ _ _ _ _=>I0 Zh (aaf T) (A6.mono (by decide)) (A5 (A2 0) (AJ))))) (AJ))))))))
def V9:DA P w K mg base "_law_text_right" 2 1 PW:=by
 have h:=DM (P:=P) (w:=w) (mg:=mg) (base:=base) (k:=0) (m:=dc) T.n7 aeR;exact h λ_ _ _ _ _ _ _ A6 _ _=>
 Ax (Bk (NG (Fh (Wu _) T.FO T.IU (by kernel_rfl) (A2 0)) (LU (Qh A6.units (A2 0) (A2 1)))))
def fe:O6 P w K mg base "Net" "count" 1 1 T6:=by
 have h:=X5 (P:=P) (w:=w) (mg:=mg) (base:=base) (k:=0) (m:=cL) T.lP aep;exact h λ_ _ _ _ _ _ _ A6 _ _=>
 Ax (Bk (RY (iA R3 qF R2 abP (AS) (A2 1) (Ke T.Hf (A2 0))) (BJ (Ke T.Hf (A2 0)) (A2 1) Af) (AS)))
def Va:DA P w K mg base "words_shown" 1 1 J_:=by
 have h:=DM (P:=P) (w:=w) (mg:=mg) (base:=base) (k:=0) (m:=d5) T.m_ aef;exact h λ_ _ _ _ _ _ _ A6 _ _=>
 Ax (Bk (OK (A5 (CR (FA (N:=["thing"]) 1 [] (by rfl) (sb (A2 0)) (FY 0) (Er) (λ_ _ _ _ _ _ _=>rW T.IU (A5 (A2 0) (AJ))))) (AJ))))
def aP:DA P w K mg base "door_shown" 1 1 NQ:=by
 have h:=DM (P:=P) (w:=w) (mg:=mg) (base:=base) (k:=0) (m:=bu) T.lY aey;exact h λ_ _ _ _ _ _ _ A6 _ _=>
 Ax (Bk (Ef (Ef (PQ T.IU (A5 (BJ (A2 0) (AS) Af) (AJ))) (Cu)) (PQ T.IU (A5 (BJ (A2 0) (AS) Af) (AJ)))))
def aag:DA P w K mg base "wire_shown" 1 2 Zx:=by
 have h:=DM (P:=P) (w:=w) (mg:=mg) (base:=base) (k:=1) (m:=d4) T.mZ aee;exact h λ_ _ _ _ _ _ _ A6 _ _=>
 Ax (Bk (Ef (Ef (Bf (aP T) (A6.mono (by decide)) (A5 (BJ (A2 0) (AS) Af) (AJ))) (Cu)) (Bf (aP T) (A6.mono (by decide)) (A5 (BJ (A2 0) (AS) Af) (AJ)))))
def pA:O6 P w K mg base "Net" "wires" 0 1 Wh:=by
 have h:=X5 (P:=P) (w:=w) (mg:=mg) (base:=base) (k:=0) (m:=bo) T.lT aet;exact h λ_ _ _ _ _ _ _ A6 _ _=>
 Ax (X9 (U8 T.I9 (A5 (Ke T.Hf (A2 0)) (AJ))))
def pJ:DA P w K mg base "net_shown" 1 3 Wo:=by
 have h:=DM (P:=P) (w:=w) (mg:=mg) (base:=base) (k:=2) (m:=dg) T.nE r9;exact h λ_ _ _ _ _ _ _ A6 _ _=>
 B8 (Tl (X7 (N:=["house","net"]) 1 1 [0] r9.B6 (by rfl) (LW T.Jo (A5 (Ke T.Hf (A2 0)) (AJ))) (FY 0) (Er) (λ_ _ _ _ _ _ _=>PO (fe T) (A6.mono (by decide)) (A2 1) (A5 (A2 0) (AJ)))))
  (Ax (Bk (Bf (Va T) (A6.mono (by decide)) (A5 (Ef (A2 1) (CR (FA (N:=["wire"]) 1 [] (by rfl) (Fy (rT (pA T) (A6.mono (by decide)) (A2 0))) (FY 0) (Er) (λ_ _ _ _ _ _ _=>Bf (aag T) (A6.mono (by decide)) (A5 (A2 0) (AJ)))))) (AJ)))))
def V7(n:Nat):DA P w K mg base "_law_alike" 2 (n+1) (IJ n):=by
 induction n with
 |zero=>have h:=DM (P:=P) (w:=w) (mg:=mg) (base:=base) (k:=0) (m:=f7) T.ea r7;exact h λ_ _ _ _ _ _ _ A6 _ _=>ahE
 |succ n Br=>
  have h:=DM (P:=P) (w:=w) (mg:=mg) (base:=base) (k:=n+1) (m:=OF (IJ n)) T.ea r7;exact h λ_ _ _ _ _ _ _ A6 _ _=>
  B8 (Cb (Fi (GB (DN (Fh (Of _) T.FO T.I9 (by kernel_rfl) (A2 1))) (Gc (DN (Fh (Qe _) T.FO T.Lz (by kernel_rfl) (A2 1)))))) (B8 (Cb (Fi (Wr (D_ (DN (Fh (Of _) T.FO T.I9 (by kernel_rfl) (A2 0)))) (Ws (D_ (DN (Fh (Qe _) T.FO T.Lz (by kernel_rfl) (A2 0))))))) (Ax (Bk (Fg))) (Cm))
   (B8 (Cb (Fi (GB (Jg A6.units (Fh (Of _) T.FO T.I9 (by kernel_rfl) (A2 0)) (Fh (Of _) T.FO T.I9 (by kernel_rfl) (A2 1))) (Gc (Jg A6.units (E3 T.Dh (A5 (A2 0) (AJ))) (E3 T.Dh (A5 (A2 1) (AJ))))))) (Ax (Bk (Fg))) (Cm))
   (Ax (Bk (Ps A6 T.OE (A5 (CR (FA (N:=["_law_one","_law_other"]) 2 [] (by rfl) (se T.ZT (A5 (A2 0) (A5 (A2 1) (AJ)))) (RE 0 1) (Er) (λ_ _ _ _ _ _ _=>Bf Br (A6.mono (CO _)) (A5 (A2 0) (A5 (A2 1) (AJ)))))) (AJ))))))) (Cm))
   (B8 (Cb (Fi (GB (DN (Fh (sG _) T.FO T.br (by kernel_rfl) (A2 0))) (Gc (Jg A6.units (Fh (iH _) T.FO T.SO (by kernel_rfl) (A2 0)) (Fh (iH _) T.FO T.SO (by kernel_rfl) (A2 1)))))) (Ax (Bk (Fg))) (Cm))
   (Ax (Bk (Qh A6.units (A2 0) (A2 1)))))
def z_:DA P w K mg base "_law_row" 2 1 Qy:=by
 have h:=DM (P:=P) (w:=w) (mg:=mg) (base:=base) (k:=0) (m:=da) T.n4 bW;exact h λ_ _ _ _ _ _ _ A6 _ _=>
 B8 (D8 2 bW.B6 (OK (A5 (CR (FA (N:=["_law_k","_law_draws_here"]) 1 [0] (by rfl) (LW T.Jo (A5 (AS) (AJ))) (FY 0) (Er) (λ_ _ _ _ _ _ _=>BJ (Cu) (Ej (BJ (A2 1) (A2 0) Af) (AS)) Af))) (AJ))))
  (B8 (D8 3 bW.B6 (BJ (CR (Ek (A5 (Hq) (A5 (Hq) (A5 (Hq) (A5 (Ej (BJ (A2 0) (AS) Af) (A2 1)) (AJ))))))) (Ej (BJ (A2 0) (AS) Af) (AS)) Af))
  (B8 (D8 4 bW.B6 (BJ (CR (Ek (A5 (Ej (BJ (A2 0) (AS) Af) (A2 1)) (A5 (Hq) (AJ))))) (PN (Ej (BJ (A2 0) (AS) Af) (AS)) (AS)) Af))
  (Ax (Bk (EO (A5 (A2 2) (A5 (A2 3) (A5 (A2 4) (AJ)))))))))
def zW:DA P w K mg base "_law_book" 2 2 Qx:=by
 have h:=DM (P:=P) (w:=w) (mg:=mg) (base:=base) (k:=1) (m:=dT) T.mr WP;exact h λ_ _ _ _ _ _ _ A6 _ _=>
 B8 (D8 2 WP.B6 (CR (OL (fi T) (A6.mono (by decide)) (A5 (A2 0) (A5 (AS) (AJ))))))
  (B8 (D8 3 WP.B6 (BJ (CR (Ek (A5 (Ej (BJ (A2 2) (AS) Af) (AS)) (A5 (Ej (BJ (A2 2) (AS) Af) (AS)) (AJ))))) (PN (Ej (BJ (A2 2) (AS) Af) (AS)) (AS)) Af))
  (B8 (Tl (X7 (N:=["_law_k","_law_count","_law_draws_here"]) 4 1 [1,2] WP.B6 (by rfl) (LW T.Jo (A5 (A2 3) (AJ))) (FY 0) (Er) (λ_ _ _ _ _ _ _=>Bf (z_ T) (A6.mono (by decide)) (A5 (RZ (A2 2) (PR (Ef (AS) (U7 (AS) (A2 0)))) (PR (Ef (AS) (U7 (AS) (A2 0))))) (A5 (A2 1) (AJ))))))
  (B8 (Cb (av (Ej (BJ (A2 2) (AS) Af) (AS)) (AS)) (Ax (D8 4 WP.B6 (Ef (RZ (A2 4) (U9) (PR (AS))) (CR (Ek (A5 (EO (A5 (Cu) (A5 (Hq) (A5 (Ej (BJ (A2 2) (AS) Af) (A2 1)) (AJ))))) (AJ))))))) (Cm))
  (Ax (Bk (A2 4))))))
def zX:DA P w K mg base "_law_books" 3 3 TD:=by
 have h:=DM (P:=P) (w:=w) (mg:=mg) (base:=base) (k:=2) (m:=dV) T.mw aeN;exact h λ_ _ _ _ _ _ _ A6 _ _=>
 Ax (X9 (FA (N:=["_law_k","_law_many","_law_script","_law_start"]) 2 [0,1] (by rfl) (XB T.U_ (A5 (A2 2) (AJ))) (RE 0 1) (Er) (λ_ _ _ _ _ _ _=>Bf (zW T) (A6.mono (by decide)) (A5 (Bf (Td T) (A6.mono (by decide)) (A5 (A2 2) (A5 (Ef (A2 3) (A2 0)) (AJ)))) (A5 (A2 1) (AJ))))))
def pI:DA P w K mg base "list_shown" 1 1 TK:=by
 have h:=DM (P:=P) (w:=w) (mg:=mg) (base:=base) (k:=0) (m:=ZR) T.nB aeU;exact h λ_ _ _ _ _ _ _ A6 _ _=>
 Ax (Bk (RY (Jg A6.units (A2 0) (CR (Ek (AJ)))) (OK (A5 (A2 0) (AJ))) (HF T.M0)))
def zB:DA P w K mg base "row_shown" 1 2 Zt:=by
 have h:=DM (P:=P) (w:=w) (mg:=mg) (base:=base) (k:=1) (m:=cx) T.mQ hJ;exact h λ_ _ _ _ _ _ _ A6 _ _=>
 B8 (D8 1 hJ.B6 (RY (Tn (BJ (A2 0) (AS) Af) (Hq)) (HF T.N_) (BJ (A2 0) (AS) Af)))
  (B8 (D8 2 hJ.B6 (RY (Tn (BJ (A2 0) (AS) Af) (Hq)) (HF T.Na) (BJ (A2 0) (AS) Af)))
  (Ax (Bk (Bf (Va T) (A6.mono (by decide)) (A5 (CR (Ek (A5 (BJ (A2 0) (AS) Af) (A5 (A2 1) (A5 (A2 2) (AJ)))))) (AJ))))))
def zL:DA P w K mg base "book_shown" 1 3 Zm:=by
 have h:=DM (P:=P) (w:=w) (mg:=mg) (base:=base) (k:=2) (m:=bq) T.lW aew;exact h λ_ _ _ _ _ _ _ A6 _ _=>
 Ax (Bk (Bf (pI T) (A6.mono (by decide)) (A5 (CR (FA (N:=["row"]) 1 [] (by rfl) (Fy (A2 0)) (FY 0) (Er) (λ_ _ _ _ _ _ _=>Bf (zB T) (A6.mono (by decide)) (A5 (A2 0) (AJ))))) (AJ))))
def fh:DA P w K mg base "_law_book_text" 1 1 TC:=by
 have h:=DM (P:=P) (w:=w) (mg:=mg) (base:=base) (k:=0) (m:=dU) T.mu Tv;exact h λ_ _ _ _ _ _ _ A6 _ _=>
 B8 (MJ 1 Tv.B6 (Ek (AJ)))
  (B8 (LV Jv (Fy (A2 0)) (fH rfl (R0 (Ih 2 Tv.B6) (R0 (Ih 3 Tv.B6) (R0 (Ih 4 Tv.B6) (fG))))) (B8 (MJ 5 Tv.B6 (Ek (A5 (A2 2) (A5 (Cu) (A5 (Cu) (AJ))))))
  (B8 (Cb (sY (A2 3) (Hq)) (Ax (ra 5 (AS) (PQ T.IU (A5 (A2 3) (AJ))))) (Cm))
  (B8 (Cb (sY (A2 4) (Hq)) (Ax (ra 5 (AS) (PQ T.IU (A5 (A2 4) (AJ))))) (Cm))
  (Ax (R_ 1 (U5 (OK (A5 (A2 5) (AJ))))))))))
  (B8 (Cb (XA (Kf A6.units (A2 1) (CR (Ek (AJ))))) (Ax (Bk (Cu))) (Cm))
  (Ax (UA (OK (A5 (A2 1) (AJ)))))))
def aQ:DA P w K mg base "is_pattern" 1 1 PV:=by
 have h:=DM (P:=P) (w:=w) (mg:=mg) (base:=base) (k:=0) (m:=dM) T.lB af7;exact h λ_ _ _ _ _ _ _ A6 _ _=>
 B8 (Cb (Fi (GB (D_ (DN (Fh (Wu _) T.FO T.IU (by kernel_rfl) (A2 0)))) (Gc (Jg A6.units (E3 T.Dh (A5 (A2 0) (AJ))) (E3 T.Dh (A5 (HF T.PL) (AJ))))))) (Ax (Bk (Fg))) (Cm))
  (Ax (Bk (Ps A6 T.OE (A5 (CR (FA (N:=["sign"]) 1 [] (by rfl) (sd (A2 0)) (FY 0) (Er) (λ_ _ _ _ _ _ _=>X4 A6.units (A2 0) (HF T.SX)))) (AJ)))))
def pM:GS P w K mg base "pattern_read" 1 2 Qz:=by
 have h:=Hz (P:=P) (w:=w) (mg:=mg) (base:=base) (k:=1) (m:=cr) T.mK aeY;exact h λ_ _ _ _ _ _ _ A6 _ _=>
 B8 (Cb (I1 (D_ (DN (Bf (aQ T) (A6.mono (by decide)) (A5 (A2 0) (AJ)))))) (Ax (JI T.Pr)) (Cm))
  (Ax (JH (Bk (A2 0))))
def ags:PB P w K mg base 6 b7:=⟨λx mf h=>by
 unfold b7 at h
 split at h
 .rename_i e;subst e;cases h;exact⟨⟨_,by decide,pM T⟩,T.sO⟩
 split at h
 .rename_i e;subst e;cases h;exact⟨⟨_,by decide,pC T⟩,T.bJ⟩
 split at h
 .rename_i e;subst e;cases h;exact⟨⟨_,by decide,VA T⟩,T.bK⟩
 cases h⟩
def pK:GS P w K mg base "number_or_none_read" 2 3 TL:=by
 have h:=Hz (P:=P) (w:=w) (mg:=mg) (base:=base) (k:=2) (m:=ZS) T.nF aeV;exact h λ_ _ _ _ _ _ _ A6 _ _=>
 Ax (Bk (RY (I1 (Kf A6.units (A2 0) (A2 1))) (Hq) (I0 HR (VA T) (A6.mono (by decide)) (A5 (A2 0) (AJ)))))
def zA:GS P w K mg base "row_read" 1 4 W1:=by
 have h:=Hz (P:=P) (w:=w) (mg:=mg) (base:=base) (k:=3) (m:=cw) T.mP rC;exact h λ_ _ _ _ _ _ _ A6 _ _=>
 B8 (D8 1 rC.B6 (I0 HR (Te T) (A6.mono (by decide)) (A5 (A2 0) (A5 (Cu) (AJ)))))
  (B8 (Cb (I1 (Jg A6.units (E3 T.Dh (A5 (A2 1) (AJ))) (AS))) (Ax (JI T.Pr)) (Cm))
  (Ax (Bk (EO (A5 (I0 HR (pM T) (A6.mono (by decide)) (A5 (BJ (A2 1) (AS) Af) (AJ))) (A5 (I0 HR (pK T) (A6.mono (by decide)) (A5 (BJ (A2 1) (AS) Af) (A5 (HF T.N_) (AJ)))) (A5 (I0 HR (pK T) (A6.mono (by decide)) (A5 (BJ (A2 1) (AS) Af) (A5 (HF T.Na) (AJ)))) (AJ))))))))
def agt:PB P w K mg base 4 b8:=⟨λx mf h=>by
 unfold b8 at h
 split at h
 .rename_i e;subst e;cases h;exact⟨⟨_,by decide,zA T⟩,T.iQ⟩
 cases h⟩
def pH{k:Nat}{tab:Tab}(YH:PB P w K mg base k tab):GS P w K mg base "list_read" 2 (k+3) (TJ tab):=by
 have h:=Hz (P:=P) (w:=w) (mg:=mg) (base:=base) (k:=k+2) (m:=ZQ tab) T.nA aeT;exact h λ_ _ _ _ _ _ _ A6 _ _=>
 B8 (JH (Cb (Kf A6.units (A2 0) (HF T.M0)) (Ax (X9 (Ek (AJ)))) (Cm)))
  (Ax (X9 (i9 (N:=["part","read"]) 1 [1] ar (by rfl) (Fy (I0 HR (Te T) (A6.mono (by omega)) (A5 (A2 0) (A5 (Cu) (AJ))))) (d9 0) (λ_ _ _ _ _ _ _=>am 1 Zh YH (A6.mono (by omega)) (A5 (A2 0) (AJ))))))
def pB:GS P w K mg base "book_read" 1 8 Wj:=by
 have h:=Hz (P:=P) (w:=w) (mg:=mg) (base:=base) (k:=7) (m:=bp) T.lV aev;exact h λ_ _ _ _ _ _ _ A6 _ _=>
 Ax (Bk (I0 HR (pH T (agt T)) (A6.mono (by decide)) (A5 (A2 0) (A5 (R8 T.iQ) (AJ)))))
def Ms:DA P w K mg base "_law_mixed" 2 2 G8:=by
 have h:=DM (P:=P) (w:=w) (mg:=mg) (base:=base) (k:=1) (m:=dX) T.n0 aeQ;exact h λ_ _ _ _ _ _ _ A6 _ _=>
 Ax (Bk (BJ (CR (OL (fi T) (A6.mono (by decide)) (A5 (A2 0) (A5 (Ef (A2 1) (AS)) (AJ))))) (A2 1) Af))
def zZ:DA P w K mg base "_law_plan" 2 3 Wl:=by
 have h:=DM (P:=P) (w:=w) (mg:=mg) (base:=base) (k:=2) (m:=d_) T.n3 OV;exact h λ_ _ _ _ _ _ _ A6 _ _=>
 B8 (D8 2 OV.B6 (CR (ah9 T.I9 T.Jo (A5 (A2 1) (AJ)))))
  (B8 (MJ 3 OV.B6 (ah7 (CR (FA (N:=["_law_house"]) 1 [] (by rfl) (Fy (A2 2)) (FY 0) (Er) (λ_ _ _ _ _ _ _=>EO (A5 (Cu) (A5 (A2 0) (AJ)))))) (CR (FA (N:=["_law_house"]) 1 [] (by rfl) (Fy (A2 2)) (FY 0) (Er) (λ_ _ _ _ _ _ _=>EO (A5 (Cu) (A5 (A2 0) (AJ))))))))
  (B8 (MJ 3 OV.B6 (ah6 (ah8 3 (CR (Ek (A5 (EO (A5 (Cu) (AJ))) (AJ))))) (CR (FA (N:=["_law_house"]) 1 [] (by rfl) (Fy (A2 2)) (FY 0) (Er) (λ_ _ _ _ _ _ _=>EO (A5 (Cu) (A5 (A2 0) (AJ))))))))
  (B8 (LV Jv (Fy (A2 0)) (Ih 4 OV.B6) (B8 (D8 5 OV.B6 (U5 (Ej (Bf (Ms T) (A6.mono (by decide)) (A5 (A2 4) (A5 (AS) (AJ)))) (E3 T.Dh (A5 (A2 3) (AJ))))))
  (B8 (D8 6 OV.B6 (Ej (Bf (Ms T) (A6.mono (by decide)) (A5 (A2 4) (A5 (AS) (AJ)))) (AS)))
  (Ax (Cb (XA (Fi (Wr (Kf A6.units (A2 6) (AS)) (Ws (av (E3 T.Dh (A5 (A2 3) (AJ))) (AS)))))) (Ax (X8 (ao 3 (A2 5)))) (Ax (Cb (XA (Fi (Wr (Kf A6.units (A2 6) (AS)) (Ws (bM (E3 T.Dh (A5 (A2 3) (AJ))) (AS)))))) (Ax (X8 (s9 3 (A2 5) (EO (A5 (Cu) (AJ)))))) (Ax (Cb (bM (A2 6) (AS)) (B8 (rc 7 OV.B6 (ao 3 (A2 5)))
  (B8 (D8 8 OV.B6 (U5 (BJ (CR (Ek (A5 (Ef (A2 5) (AS)) (A5 (ahd T.kH (A5 (AS) (A5 (MF (A2 5) (AS)) (AJ)))) (A5 (Ej (Bf (Ms T) (A6.mono (by decide)) (A5 (A2 4) (A5 (AS) (AJ)))) (Ef (E3 T.Dh (A5 (A2 3) (AJ))) (AS))) (AJ)))))) (MF (A2 6) (AS)) Af)))
  (Ax (X8 (s9 3 (A2 8) (A2 7)))))) (Cm))))))))))
  (Ax (au 3)))))
def z8:DA P w K mg base "plan_shown" 1 2 Zr:=by
 have h:=DM (P:=P) (w:=w) (mg:=mg) (base:=base) (k:=1) (m:=cu) T.mM aeZ;exact h λ_ _ _ _ _ _ _ A6 _ _=>
 Ax (Bk (Bf (pI T) (A6.mono (by decide)) (A5 (CR (FA (N:=["step"]) 1 [] (by rfl) (Fy (A2 0)) (FY 0) (Er) (λ_ _ _ _ _ _ _=>Bf (Va T) (A6.mono (by decide)) (A5 (A2 0) (AJ))))) (AJ))))
def zE:GS P w K mg base "step_read" 1 3 W3:=by
 have h:=Hz (P:=P) (w:=w) (mg:=mg) (base:=base) (k:=2) (m:=kK) T.mT rD;exact h λ_ _ _ _ _ _ _ A6 _ _=>
 B8 (D8 1 rD.B6 (I0 HR (Te T) (A6.mono (by decide)) (A5 (A2 0) (A5 (Cu) (AJ)))))
  (B8 (JH (Cb (Kf A6.units (A2 1) (CR (U8 T.I9 (A5 (HF T.M1) (AJ))))) (Ax (Bk (HF T.M1))) (Cm)))
  (B8 (Cb (I1 (Fi (GB (Jg A6.units (E3 T.Dh (A5 (A2 1) (AJ))) (AS)) (Gc (Wq A6.units (BJ (A2 1) (AS) Af) (EO (A5 (Cu) (A5 (Cu) (A5 (Cu) (AJ)))))))))) (Ax (JI T.Pr)) (Cm))
  (Ax (Bk (EO (A5 (BJ (A2 1) (AS) Af) (A5 (I0 HR (VA T) (A6.mono (by decide)) (A5 (BJ (A2 1) (AS) Af) (AJ))) (AJ))))))))
def agu:PB P w K mg base 3 b9:=⟨λx mf h=>by
 unfold b9 at h
 split at h
 .rename_i e;subst e;cases h;exact⟨⟨_,by decide,zE T⟩,T.iS⟩
 cases h⟩
def zT:DA P w K mg base "is_step" 2 3 Zn:=by
 have h:=DM (P:=P) (w:=w) (mg:=mg) (base:=base) (k:=2) (m:=dP) T.lF aeK;exact h λ_ _ _ _ _ _ _ A6 _ _=>
 B8 (Cb (Fi (GB (D_ (DN (Fh (Qe _) T.FO T.Lz (by kernel_rfl) (A2 0)))) (GB (Wq A6.units (E3 T.Dh (A5 (A2 0) (AJ))) (EO (A5 (AS) (A5 (AS) (AJ))))) (Gc (D_ (DN (Fh (Wu _) T.FO T.IU (by kernel_rfl) (BJ (A2 0) (AS) Af)))))))) (Ax (Bk (Fg))) (Cm))
  (B8 (Cb (Kf A6.units (E3 T.Dh (A5 (A2 0) (AJ))) (AS)) (Ax (Bk (Qh A6.units (BJ (A2 0) (AS) Af) (Cu)))) (Cm))
  (Ax (Bk (NG (X4 A6.units (BJ (A2 0) (AS) Af) (EO (A5 (Cu) (A5 (Cu) (A5 (Cu) (AJ)))))) (LU (Bf (Qm T) (A6.mono (by decide)) (A5 (BJ (A2 0) (AS) Af) (A5 (AS) (A5 (MF (Ke T.Hf (A2 1)) (AS)) (AJ))))))))))
def zQ:DA P w K mg base "is_plan" 2 4 Qv:=by
 have h:=DM (P:=P) (w:=w) (mg:=mg) (base:=base) (k:=3) (m:=dN) T.lC q5;exact h λ_ _ _ _ _ _ _ A6 _ _=>
 B8 (Cb (Fi (GB (D_ (DN (Fh (Of _) T.FO T.I9 (by kernel_rfl) (A2 0)))) (Gc (av (E3 T.Dh (A5 (A2 0) (AJ))) (HF T.SW))))) (Ax (Bk (Fg))) (Cm))
  (B8 (Cb (D_ (DN (Ps A6 T.OE (A5 (CR (FA (N:=["step","net"]) 1 [1] (by rfl) (Fy (A2 0)) (FY 0) (Er) (λ_ _ _ _ _ _ _=>Bf (zT T) (A6.mono (by decide)) (A5 (A2 0) (A5 (A2 1) (AJ)))))) (AJ))))) (Ax (Bk (Fg))) (Cm))
  (B8 (Tl (X7 (N:=["step"]) 2 1 [] q5.B6 (by rfl) (Fy (A2 0)) (FY 0) (ry (λ_ _ _ _ _ _ _=>Jg A6.units (A2 0) (HF T.M1))) (λ_ _ _ _ _ _ _=>A2 0)))
  (Ax (Bk (Qh A6.units (aha A6.hd A6.units T.Dh T.kJ (A5 (A2 2) (AJ))) (E3 T.Dh (A5 (A2 2) (AJ))))))))
def zf:GS P w K mg base "plan_read" 2 7 Zq:=by
 have h:=Hz (P:=P) (w:=w) (mg:=mg) (base:=base) (k:=6) (m:=ct) T.mL rB;exact h λ_ _ _ _ _ _ _ A6 _ _=>
 B8 (D8 2 rB.B6 (I0 HR (pH T (agu T)) (A6.mono (by decide)) (A5 (A2 0) (A5 (R8 T.iS) (AJ)))))
  (B8 (Cb (I1 (D_ (DN (Bf (zQ T) (A6.mono (by decide)) (A5 (A2 2) (A5 (A2 1) (AJ))))))) (Ax (JI T.rv)) (Cm))
  (Ax (JH (Bk (A2 2)))))
def fj:DA P w K mg base "_law_outer" 1 1 TG:=by
 have h:=DM (P:=P) (w:=w) (mg:=mg) (base:=base) (k:=0) (m:=dZ) T.n2 bV;exact h λ_ _ _ _ _ _ _ A6 _ _=>
 B8 (D8 1 bV.B6 (Ef (CR (FA (N:=["_law_one","_law_other"]) 2 [] (by rfl) (Fy (BJ (A2 0) (AS) Af)) (RE 0 1) (Er) (λ_ _ _ _ _ _ _=>A2 0))) (CR (FA (N:=["_law_one","_law_other"]) 2 [] (by rfl) (Fy (BJ (A2 0) (AS) Af)) (RE 0 1) (Er) (λ_ _ _ _ _ _ _=>A2 1)))))
  (B8 (MJ 2 bV.B6 (Ek (AJ)))
  (B8 (LV Jv (LW T.Jo (A5 (E3 T.Dh (A5 (BJ (A2 0) (AS) Af) (AJ))) (AJ))) (Ih 3 bV.B6) (Ax (X8 (s8 2 (CR (FA (N:=["_law_door_here","_law_house","_law_used"]) 1 [3,1] (by rfl) (LW T.Jo (A5 (BJ (BJ (A2 0) (AS) Af) (A2 3) Af) (AJ))) (FY 0) (ry (λ_ _ _ _ _ _ _=>Wq A6.units (EO (A5 (A2 1) (A5 (A2 0) (AJ)))) (A2 2))) (λ_ _ _ _ _ _ _=>EO (A5 (A2 1) (A5 (A2 0) (AJ))))))))))
  (Ax (au 2))))
def zb:DA P w K mg base "_law_sayings" 2 3 Wm:=by
 have h:=DM (P:=P) (w:=w) (mg:=mg) (base:=base) (k:=2) (m:=db) T.n6 Lj;exact h λ_ _ _ _ _ _ _ A6 _ _=>
 B8 (D8 2 Lj.B6 (CR (OL (fj T) (A6.mono (by decide)) (A5 (A2 0) (AJ)))))
  (B8 (MJ 3 Lj.B6 (Ek (AJ)))
  (B8 (LV Jv (XB T.U_ (A5 (CR (Ek (A5 (Cu) (A5 (Cu) (A5 (Cu) (A5 (Cu) (A5 (Cu) (AJ)))))))) (AJ))) (fH rfl (R0 (Ih 4 Lj.B6) (R0 (Ih 5 Lj.B6) (fG)))) (B8 (D8 6 Lj.B6 (Bf (Td T) (A6.mono (by decide)) (A5 (A2 1) (A5 (Ef (AS) (A2 4)) (AJ)))))
  (B8 (D8 7 Lj.B6 (OK (A5 (CR (FA (N:=["_law_j","_law_cell"]) 1 [6] (by rfl) (LW T.Jo (A5 (AS) (AJ))) (FY 0) (Er) (λ_ _ _ _ _ _ _=>BJ (Cu) (Ej (Bf (Ms T) (A6.mono (by decide)) (A5 (A2 1) (A5 (A2 0) (AJ)))) (AS)) Af))) (AJ))))
  (B8 (D8 8 Lj.B6 (BJ (A2 2) (Ej (Bf (Ms T) (A6.mono (by decide)) (A5 (A2 6) (A5 (AS) (AJ)))) (E3 T.Dh (A5 (A2 2) (AJ)))) Af))
  (B8 (D8 9 Lj.B6 (EO (A5 (A2 5) (A5 (A2 7) (A5 (A2 8) (AJ))))))
  (B8 (Cb (Kf A6.units (A2 5) (Cu)) (Ax (D8 9 Lj.B6 (s6 (A2 9) (EO (A5 (BJ (A2 2) (Ej (Bf (Ms T) (A6.mono (by decide)) (A5 (A2 6) (A5 (AS) (AJ)))) (E3 T.Dh (A5 (A2 2) (AJ)))) Af) (AJ)))))) (Cm))
  (B8 (Cb (sX A6.units (A2 5) (EO (A5 (Cu) (A5 (Cu) (AJ))))) (Ax (D8 9 Lj.B6 (s6 (A2 9) (EO (A5 (Ej (Bf (Ms T) (A6.mono (by decide)) (A5 (A2 6) (A5 (AS) (AJ)))) (E3 T.Dh (A5 (BJ (A2 0) (AS) Af) (AJ)))) (AJ)))))) (Cm))
  (Ax (R_ 3 (A2 9))))))))))
  (Ax (au 3))))
def za:DA P w K mg base "_law_saying_text" 1 2 TH:=by
 have h:=DM (P:=P) (w:=w) (mg:=mg) (base:=base) (k:=1) (m:=Ub) T.n5 r8;exact h λ_ _ _ _ _ _ _ A6 _ _=>
 B8 (MJ 1 r8.B6 (Ek (A5 (BJ (A2 0) (AS) Af) (A5 (BJ (A2 0) (AS) Af) (A5 (Bf (V8 T) (A6.mono (by decide)) (A5 (BJ (A2 0) (AS) Af) (AJ))) (AJ))))))
  (B8 (Cb (Kf A6.units (BJ (A2 0) (AS) Af) (Cu)) (Ax (R_ 1 (Bf (V8 T) (A6.mono (by decide)) (A5 (BJ (A2 0) (AS) Af) (AJ))))) (Cm))
  (B8 (Cb (sX A6.units (BJ (A2 0) (AS) Af) (EO (A5 (Cu) (A5 (Cu) (AJ))))) (Ax (R_ 1 (PQ T.IU (A5 (BJ (A2 0) (AS) Af) (AJ))))) (Cm))
  (Ax (UA (OK (A5 (A2 1) (AJ)))))))
def zD:DA P w K mg base "saying_shown" 1 2 Zu:=by
 have h:=DM (P:=P) (w:=w) (mg:=mg) (base:=base) (k:=1) (m:=cz) T.mS aea;exact h λ_ _ _ _ _ _ _ A6 _ _=>
 Ax (Bk (Bf (Va T) (A6.mono (by decide)) (A5 (CR (FA (N:=["thing"]) 1 [] (by rfl) (iB (A2 0)) (FY 0) (Er) (λ_ _ _ _ _ _ _=>RY (DN (Fh (Qe _) T.FO T.Lz (by kernel_rfl) (A2 0))) (Bf (aP T) (A6.mono (by decide)) (A5 (A2 0) (AJ))) (A2 0)))) (AJ))))
def zJ:O6 P w K mg base "Net" "is_door" 1 4 ag:=by
 have h:=X5 (P:=P) (w:=w) (mg:=mg) (base:=base) (k:=3) (m:=bl) T.lR aer;exact h λ_ _ _ _ _ _ _ A6 _ _=>
 Ax (Bk (Bf (fg T) (A6.mono (by decide)) (A5 (Ke T.Hf (A2 0)) (A5 (A2 1) (AJ)))))
def ff:O6 P w K mg base "Net" "is_outer" 1 5 Q7:=by
 have h:=X5 (P:=P) (w:=w) (mg:=mg) (base:=base) (k:=4) (m:=bn) T.lS aes;exact h λ_ _ _ _ _ _ _ A6 _ _=>
 Ax (Bk (NG (PO (zJ T) (A6.mono (by decide)) (A2 0) (A5 (A2 1) (AJ))) (LU (ahX A6.units (A2 1) (Ke T.Hf (A2 0))))))
def zS:DA P w K mg base "is_saying" 2 6 TA:=by
 have h:=DM (P:=P) (w:=w) (mg:=mg) (base:=base) (k:=5) (m:=Ua) T.lE aeJ;exact h λ_ _ _ _ _ _ _ A6 _ _=>
 B8 (Cb (Fi (GB (D_ (DN (Fh (Qe _) T.FO T.Lz (by kernel_rfl) (A2 0)))) (Gc (Wq A6.units (E3 T.Dh (A5 (A2 0) (AJ))) (EO (A5 (AS) (A5 (AS) (AJ)))))))) (Ax (Bk (Fg))) (Cm))
  (B8 (Cb (Fi (GB (D_ (DN (Fh (Wu _) T.FO T.IU (by kernel_rfl) (BJ (A2 0) (AS) Af)))) (GB (D_ (DN (Bf (aQ T) (A6.mono (by decide)) (A5 (BJ (A2 0) (AS) Af) (AJ))))) (Gc (D_ (DN (PO (ff T) (A6.mono (by decide)) (A2 1) (A5 (BJ (A2 0) (AS) Af) (AJ))))))))) (Ax (Bk (Fg))) (Cm))
  (B8 (Cb (Kf A6.units (E3 T.Dh (A5 (A2 0) (AJ))) (AS)) (Ax (Bk (X4 A6.units (BJ (A2 0) (AS) Af) (EO (A5 (Cu) (A5 (Cu) (AJ))))))) (Cm))
  (B8 (Cb (Kf A6.units (BJ (A2 0) (AS) Af) (Cu)) (Ax (Bk (PO (ff T) (A6.mono (by decide)) (A2 1) (A5 (BJ (A2 0) (AS) Af) (AJ))))) (Cm))
  (Ax (Bk (NG (X4 A6.units (BJ (A2 0) (AS) Af) (EO (A5 (Cu) (A5 (Cu) (AJ))))) (LU (Bf (Qm T) (A6.mono (by decide)) (A5 (BJ (A2 0) (AS) Af) (A5 (AS) (A5 (MF (Ke T.Hf (A2 1)) (AS)) (AJ))))))))))))
def zC:GS P w K mg base "saying_read" 2 7 W2:=by
 have h:=Hz (P:=P) (w:=w) (mg:=mg) (base:=base) (k:=6) (m:=cy) T.mR bZ;exact h λ_ _ _ _ _ _ _ A6 _ _=>
 B8 (D8 2 bZ.B6 (I0 HR (Te T) (A6.mono (by decide)) (A5 (A2 0) (A5 (Cu) (AJ)))))
  (B8 (Cb (I1 (Fi (GB (ahH T.Yq (BJ (A2 2) (AS) Af) (R8 T.bH)) (Gc (Jg A6.units (MF (E3 T.Dh (A5 (A2 2) (AJ))) (AS)) (E3 T.Dh (A5 (s7 T.Yq (R8 T.bH) (BJ (A2 2) (AS) Af)) (AJ)))))))) (Ax (JI T.Pr)) (Cm))
  (B8 (Tl (ahD (N:=["read","word"]) 3 2 [] ar bZ.B6 (by rfl) (se T.ZT (A5 (s7 T.Yq (R8 T.bH) (BJ (A2 2) (AS) Af)) (A5 (RZ (A2 2) (PR (AS)) (U9)) (AJ)))) (vC 0 1) (λ_ _ _ _ _ _ _=>am 0 Zh (ags T) (A6.mono (by decide)) (A5 (A2 1) (AJ)))))
  (B8 (JH (D8 4 bZ.B6 (ib T.Lz (A5 (Ef (CR (Ek (A5 (BJ (A2 2) (AS) Af) (AJ)))) (A2 3)) (AJ)))))
  (B8 (Cb (I1 (D_ (DN (Bf (zS T) (A6.mono (by decide)) (A5 (A2 4) (A5 (A2 1) (AJ))))))) (Ax (JI T.rx)) (Cm))
  (Ax (JH (Bk (A2 4))))))))
def pF:DA P w K mg base "is_number_or_none" 2 3 PU:=by
 have h:=DM (P:=P) (w:=w) (mg:=mg) (base:=base) (k:=2) (m:=ZO) T.l9 af5;exact h λ_ _ _ _ _ _ _ A6 _ _=>
 Ax (Bk (rV (ah_ (A2 0) (Hq)) (LU (Bf (Qm T) (A6.mono (by decide)) (A5 (A2 0) (A5 (AS) (A5 (MF (A2 1) (AS)) (AJ))))))))
def zR:DA P w K mg base "is_row" 2 4 T9:=by
 have h:=DM (P:=P) (w:=w) (mg:=mg) (base:=base) (k:=3) (m:=dO) T.lD af8;exact h λ_ _ _ _ _ _ _ A6 _ _=>
 B8 (Cb (Fi (GB (D_ (DN (Fh (Qe _) T.FO T.Lz (by kernel_rfl) (A2 0)))) (Gc (Jg A6.units (E3 T.Dh (A5 (A2 0) (AJ))) (AS))))) (Ax (Bk (Fg))) (Cm))
  (B8 (Cb (D_ (DN (Bf (aQ T) (A6.mono (by decide)) (A5 (BJ (A2 0) (AS) Af) (AJ))))) (Ax (Bk (Fg))) (Cm))
  (Ax (Bk (NG (Bf (pF T) (A6.mono (by decide)) (A5 (BJ (A2 0) (AS) Af) (A5 (A2 1) (AJ)))) (LU (Bf (pF T) (A6.mono (by decide)) (A5 (BJ (A2 0) (AS) Af) (A5 (A2 1) (AJ)))))))))
def zO:DA P w K mg base "is_book" 2 5 T8:=by
 have h:=DM (P:=P) (w:=w) (mg:=mg) (base:=base) (k:=4) (m:=cM) T.lb af1;exact h λ_ _ _ _ _ _ _ A6 _ _=>
 B8 (Cb (Fi (GB (D_ (DN (Fh (Of _) T.FO T.I9 (by kernel_rfl) (A2 0)))) (Gc (av (E3 T.Dh (A5 (A2 0) (AJ))) (HF T.SV))))) (Ax (Bk (Fg))) (Cm))
  (Ax (Bk (Ps A6 T.OE (A5 (CR (FA (N:=["row","doors"]) 1 [1] (by rfl) (Fy (A2 0)) (FY 0) (Er) (λ_ _ _ _ _ _ _=>Bf (zR T) (A6.mono (by decide)) (A5 (A2 0) (A5 (A2 1) (AJ)))))) (AJ)))))
def zP:DA P w K mg base "is_books" 2 6 Qs:=by
 have h:=DM (P:=P) (w:=w) (mg:=mg) (base:=base) (k:=5) (m:=dJ) T.lc af2;exact h λ_ _ _ _ _ _ _ A6 _ _=>
 B8 (Cb (Fi (GB (D_ (DN (Fh (Of _) T.FO T.I9 (by kernel_rfl) (A2 0)))) (Gc (Jg A6.units (E3 T.Dh (A5 (A2 0) (AJ))) (Ke T.Hf (A2 1)))))) (Ax (Bk (Fg))) (Cm))
  (Ax (Bk (Ps A6 T.OE (A5 (CR (FA (N:=["house","book","net"]) 2 [1] (by rfl) (XB T.U_ (A5 (A2 0) (AJ))) (RE 0 1) (Er) (λ_ _ _ _ _ _ _=>Bf (zO T) (A6.mono (by decide)) (A5 (A2 1) (A5 (PO (fe T) (A6.mono (by decide)) (A2 2) (A5 (A2 0) (AJ))) (AJ)))))) (AJ)))))
def z9:GS P w K mg base "refuse_unless_books" 2 7 Zs:=by
 have h:=Hz (P:=P) (w:=w) (mg:=mg) (base:=base) (k:=6) (m:=cv) T.mO ae_;exact h λ_ _ _ _ _ _ _ A6 _ _=>
 Ax (Cb (I1 (D_ (DN (Bf (zP T) (A6.mono (by decide)) (A5 (A2 0) (A5 (A2 1) (AJ))))))) (Ax (JI T.rt)) (Cm))
def pD:DA P w K mg base "is_address" 1 3 Qr:=by
 have h:=DM (P:=P) (w:=w) (mg:=mg) (base:=base) (k:=2) (m:=bx) T.la af0;exact h λ_ _ _ _ _ _ _ A6 _ _=>
 Ax (Bk (Bf (Qm T) (A6.mono (by decide)) (A5 (A2 0) (A5 (AS) (A5 (HF T.SR) (AJ))))))
def zN:DA P w K mg base "fits" 2 4 T7:=by
 have h:=DM (P:=P) (w:=w) (mg:=mg) (base:=base) (k:=3) (m:=bw) T.l_ aez;exact h λ_ _ _ _ _ _ _ A6 _ _=>
 B8 (Cb (Fi (GB (D_ (DN (Bf (aQ T) (A6.mono (by decide)) (A5 (A2 0) (AJ))))) (Gc (D_ (DN (Bf (pD T) (A6.mono (by decide)) (A5 (A2 1) (AJ)))))))) (Ax (Bk (Fg))) (Cm))
  (Ax (Bk (Ps A6 T.OE (A5 (CR (FA (N:=["sign","worth","address"]) 2 [1] (by rfl) (ahJ T.ZT (A5 (A2 0) (A5 (HF T.PL) (AJ)))) (RE 0 1) (Er) (λ_ _ _ _ _ _ _=>X4 A6.units (A2 0) (EO (A5 (Cu) (A5 (PQ T.IU (A5 (Ej (PN (A2 2) (A2 1)) (AS)) (AJ))) (AJ))))))) (AJ)))))
def zF:DA P w K mg base "taken" 3 5 Zv:=by
 have h:=DM (P:=P) (w:=w) (mg:=mg) (base:=base) (k:=4) (m:=d0) T.mU hK;exact h λ_ _ _ _ _ _ _ A6 _ _=>
 B8 (LV Jv (XB T.U_ (A5 (A2 0) (AJ))) (fH rfl (R0 (Ih 3 hK.B6) (R0 (Ih 4 hK.B6) (fG)))) (Ax (Cb (Fi (Wr (Fi (GB (Tn (BJ (A2 4) (AS) Af) (Hq)) (Gc (Kf A6.units (BJ (A2 4) (AS) Af) (A2 1))))) (Ws (DN (Bf (zN T) (A6.mono (by decide)) (A5 (BJ (A2 4) (AS) Af) (A5 (A2 2) (AJ)))))))) (Ax (Bk (A2 3))) (Cm))))
  (Ax (Bk (Hq)))
def zI:O6 P w K mg base "Net" "beyond" 1 1 Wg:=by
 have h:=X5 (P:=P) (w:=w) (mg:=mg) (base:=base) (k:=0) (m:=cK) T.lO aeo;exact h λ_ _ _ _ _ _ _ A6 _ _=>
 Ax (Bk (ahW A6.units (Ke T.Hf (A2 0)) (A2 1)))
def ze:DA P w K mg base "onward" 4 6 NT:=by
 have h:=DM (P:=P) (w:=w) (mg:=mg) (base:=base) (k:=5) (m:=SP) T.nH bY;exact h λ_ _ _ _ _ _ _ A6 _ _=>
 B8 (D8 4 bY.B6 (Bf (zF T) (A6.mono (by decide)) (A5 (A2 1) (A5 (BJ (A2 2) (AS) Af) (A5 (A2 3) (AJ))))))
  (B8 (D8 5 bY.B6 (RY (Tn (A2 4) (Hq)) (Hq) (BJ (BJ (A2 1) (A2 4) Af) (AS) Af)))
  (B8 (Cb (Tn (A2 5) (Hq)) (Ax (Bk (EO (A5 (Cu) (A5 (BJ (A2 2) (AS) Af) (AJ)))))) (Cm))
  (B8 (D8 6 bY.B6 (PO (zI T) (A6.mono (by decide)) (A2 0) (A5 (EO (A5 (BJ (A2 2) (AS) Af) (A5 (A2 5) (AJ)))) (AJ))))
  (B8 (Cb (Tn (A2 6) (Hq)) (Ax (Bk (EO (A5 (Cu) (A5 (BJ (A2 2) (AS) Af) (A5 (A2 5) (AJ))))))) (Cm))
  (Ax (Bk (EO (A5 (Cu) (A5 (BJ (A2 6) (AS) Af) (A5 (BJ (A2 6) (AS) Af) (AJ)))))))))))
def zG:DA P w K mg base "walked" 4 7 W4:=by
 have h:=DM (P:=P) (w:=w) (mg:=mg) (base:=base) (k:=6) (m:=kL) T.mV b_;exact h λ_ _ _ _ _ _ _ A6 _ _=>
 B8 (MJ 4 b_.B6 (Ek (AJ)))
  (B8 (sA Jv (XA (Wq A6.units (A2 2) (A2 4))) (B8 (R_ 4 (A2 2))
  (B8 (D8 5 b_.B6 (Bf (ze T) (A6.mono (by decide)) (A5 (A2 0) (A5 (BJ (A2 1) (BJ (A2 2) (AS) Af) Af) (A5 (A2 2) (A5 (A2 3) (AJ)))))))
  (B8 (Cb (Jg A6.units (BJ (A2 5) (AS) Af) (Cu)) (Ax (UA (EO (A5 (A2 4) (A5 (A2 5) (AJ)))))) (Cm))
  (Ax (D8 2 b_.B6 (EO (A5 (BJ (A2 5) (AS) Af) (A5 (BJ (A2 5) (AS) Af) (AJ))))))))))
  (Ax (UA (EO (A5 (A2 4) (A5 (EO (A5 (Cu) (A5 (ahZ A6.units (A2 4) (A5 (A2 2) (AJ))) (AJ)))) (AJ)))))))
def zH:GS P w K mg base "way" 4 8 PX:=by
 have h:=Hz (P:=P) (w:=w) (mg:=mg) (base:=base) (k:=7) (m:=SQ) T.mW aeb;exact h λ_ _ _ _ _ _ _ A6 _ _=>
 B8 (ahF (rz (z9 T) (A6.mono (by decide)) (rY (A5 (A2 1) (A5 (A2 0) (AJ))))))
  (B8 (Cb (I1 (D_ (DN (PO (ff T) (A6.mono (by decide)) (A2 0) (A5 (A2 2) (AJ)))))) (Ax (JI T.ru)) (Cm))
  (B8 (Cb (I1 (D_ (DN (Bf (pD T) (A6.mono (by decide)) (A5 (A2 3) (AJ)))))) (Ax (JI T.rr)) (Cm))
  (Ax (JH (Bk (Bf (zG T) (A6.mono (by decide)) (A5 (A2 0) (A5 (A2 1) (A5 (A2 2) (A5 (A2 3) (AJ)))))))))))
def zg:DA P w K mg base "way_shown" 1 2 Zw:=by
 have h:=DM (P:=P) (w:=w) (mg:=mg) (base:=base) (k:=1) (m:=d2) T.mX aec;exact h λ_ _ _ _ _ _ _ A6 _ _=>
 Ax (Bk (Bf (Va T) (A6.mono (by decide)) (A5 (Ef (Ef (CR (FA (N:=["door"]) 1 [] (by rfl) (Fy (BJ (A2 0) (AS) Af)) (FY 0) (Er) (λ_ _ _ _ _ _ _=>Bf (aP T) (A6.mono (by decide)) (A5 (A2 0) (AJ))))) (CR (Ek (A5 (Cu) (AJ))))) (CR (U8 T.I9 (A5 (BJ (A2 0) (AS) Af) (AJ))))) (AJ))))
def zc:DA P w K mg base "_law_way_right" 4 9 Zo:=by
 have h:=DM (P:=P) (w:=w) (mg:=mg) (base:=base) (k:=8) (m:=de) T.n8 hI;exact h λ_ _ _ _ _ _ _ A6 _ _=>
 B8 (D8 4 hI.B6 (U6 (zH T) (A6.mono (by decide)) (A5 (A2 0) (A5 (A2 1) (A5 (A2 2) (A5 (A2 3) (AJ)))))))
  (B8 (D8 5 hI.B6 (Bf (fk T) (A6.mono (by decide)) (A5 (Ef (Ef (CR (FA (N:=["_law_entry"]) 1 [] (by rfl) (Fy (BJ (A2 4) (AS) Af)) (FY 0) (Er) (λ_ _ _ _ _ _ _=>Bf (V8 T) (A6.mono (by decide)) (A5 (A2 0) (AJ))))) (CR (Ek (A5 (Cu) (AJ))))) (CR (U8 T.I9 (A5 (BJ (A2 4) (AS) Af) (AJ))))) (AJ))))
  (Ax (Bk (Bf (V9 T) (A6.mono (by decide)) (A5 (Bf (zg T) (A6.mono (by decide)) (A5 (A2 4) (AJ))) (A5 (A2 5) (AJ)))))))
def v3(f:A3)(CB:A4)(A:C3)(outer:List Env)(s:AL)(H:A8)(E:CS)(A6:DY 11 (A.deeper (Oj "law" (BW Pj) s.heap.objs.size f CB)))(G0 H0:A8):J3 (Eb Iu P w K mg base ["_law_script","_law_parts","_law_net_here","_law_text","_law_again","_law_counts","_law_books_here","_law_book_here","_law_far","_law_plan_here","_law_steps","_law_saying","_law_door_here"] "law" (BW Pj) f CB A outer s H E).Hi (Gj K G0 H0) (GW Pj) dS:=
 B8 (D8 1 JE.B6 (Bf (zY T) (A6.mono (by decide)) (A5 (Bf (Td T) (A6.mono (by decide)) (A5 (A2 0) (A5 (AS) (AJ)))) (AJ))))
  (B8 (D8 2 JE.B6 (ahb (p9 T) (A6.mono (by decide)) (A5 (CR (U8 T.I9 (A5 (BJ (A2 1) (AS) Af) (AJ)))) (A5 (CR (U8 T.I9 (A5 (BJ (A2 1) (AS) Af) (AJ)))) (AJ)))))
  (B8 (D8 3 JE.B6 (Bf (fk T) (A6.mono (by decide)) (A5 (Ef (BJ (A2 1) (AS) Af) (CR (FA (N:=["_law_one","_law_other"]) 2 [] (by rfl) (Fy (BJ (A2 1) (AS) Af)) (RE 0 1) (Er) (λ_ _ _ _ _ _ _=>Ef (Ef (Bf (V8 T) (A6.mono (by decide)) (A5 (A2 0) (AJ))) (Cu)) (Bf (V8 T) (A6.mono (by decide)) (A5 (A2 1) (AJ))))))) (AJ))))
  (B8 (D8 4 JE.B6 (U6 (zd T) (A6.mono (by decide)) (A5 (A2 3) (AJ))))
  (B8 (Cb (Fi (GB (D_ (DN (Bf (V9 T) (A6.mono (by decide)) (A5 (Bf (pJ T) (A6.mono (by decide)) (A5 (A2 2) (AJ))) (A5 (A2 3) (AJ)))))) (Gc (Jg A6.units (Bf (pJ T) (A6.mono (by decide)) (A5 (A2 4) (AJ))) (A2 3))))) (Ax (Bk (Fg))) (Cm))
  (B8 (Tl (X7 (N:=["_law_house","_law_again"]) 5 1 [4] JE.B6 (by rfl) (LW T.Jo (A5 (Ke T.Hf (A2 4)) (AJ))) (FY 0) (Er) (λ_ _ _ _ _ _ _=>PO (fe T) (A6.mono (by decide)) (A2 1) (A5 (A2 0) (AJ)))))
  (B8 (Cb (D_ (DN (Bf (V7 T 5) (A6.mono (by decide)) (A5 (CR (Ek (A5 (A2 5) (A5 (rT (pA T) (A6.mono (by decide)) (A2 4)) (AJ))))) (A5 (CR (Ek (A5 (BJ (A2 1) (AS) Af) (A5 (BJ (A2 1) (AS) Af) (AJ))))) (AJ)))))) (Ax (Bk (Fg))) (Cm))
  (B8 (D8 6 JE.B6 (CR (OL (zX T) (A6.mono (by decide)) (A5 (A2 0) (A5 (AS) (A5 (BJ (A2 1) (AS) Af) (AJ)))))))
  (B8 (LV Jv (Fy (A2 6)) (Ih 7 JE.B6) (B8 (Cb (D_ (DN (Bf (V9 T) (A6.mono (by decide)) (A5 (Bf (zL T) (A6.mono (by decide)) (A5 (A2 7) (AJ))) (A5 (Bf (fh T) (A6.mono (by decide)) (A5 (A2 7) (AJ))) (AJ)))))) (Ax (Bk (Fg))) (Cm))
  (Ax (Cb (D_ (DN (Bf (V7 T 5) (A6.mono (by decide)) (A5 (U6 (pB T) (A6.mono (by decide)) (A5 (Bf (fh T) (A6.mono (by decide)) (A5 (A2 7) (AJ))) (AJ))) (A5 (A2 7) (AJ)))))) (Ax (Bk (Fg))) (Cm)))))
  (B8 (D8 8 JE.B6 (ahh (CR (Ek (A5 (EO (A5 (Cu) (A5 (Hq) (A5 (AS) (AJ))))) (AJ)))) (Ef (AS) (Ej (Bf (Ms T) (A6.mono (by decide)) (A5 (Bf (Td T) (A6.mono (by decide)) (A5 (A2 0) (A5 (AS) (AJ)))) (A5 (AS) (AJ)))) (AS)))))
  (B8 (Cb (D_ (DN (Bf (V7 T 5) (A6.mono (by decide)) (A5 (U6 (pB T) (A6.mono (by decide)) (A5 (Bf (fh T) (A6.mono (by decide)) (A5 (A2 8) (AJ))) (AJ))) (A5 (A2 8) (AJ)))))) (Ax (Bk (Fg))) (Cm))
  (B8 (D8 9 JE.B6 (CR (OL (zZ T) (A6.mono (by decide)) (A5 (RZ (A2 0) (PR (AS)) (U9)) (A5 (E3 T.Dh (A5 (BJ (A2 1) (AS) Af) (AJ))) (AJ))))))
  (B8 (LV Jv (Fy (CR (Ek (A5 (A2 9) (A5 (RZ (A2 9) (U9) (PR (AS))) (A5 (CR (Ek (AJ))) (AJ))))))) (Ih 10 JE.B6) (B8 (D8 3 JE.B6 (Ef (OK (A5 (CR (FA (N:=["_law_step"]) 1 [] (by rfl) (Fy (A2 10)) (FY 0) (Er) (λ_ _ _ _ _ _ _=>Bf (fk T) (A6.mono (by decide)) (A5 (A2 0) (AJ))))) (AJ))) (ahe (Cu) (ahj T.SO (A5 (Qh A6.units (A2 10) (CR (Ek (AJ)))) (AJ))))))
  (Ax (Cb (Fi (GB (D_ (DN (Bf (V9 T) (A6.mono (by decide)) (A5 (Bf (z8 T) (A6.mono (by decide)) (A5 (A2 10) (AJ))) (A5 (A2 3) (AJ)))))) (Gc (D_ (DN (Bf (V7 T 5) (A6.mono (by decide)) (A5 (U6 (zf T) (A6.mono (by decide)) (A5 (A2 3) (A5 (A2 2) (AJ)))) (A5 (A2 10) (AJ))))))))) (Ax (Bk (Fg))) (Cm)))))
  (B8 (LV Jv (Fy (CR (OL (zb T) (A6.mono (by decide)) (A5 (A2 1) (A5 (A2 0) (AJ)))))) (Ih 11 JE.B6) (B8 (D8 3 JE.B6 (Bf (za T) (A6.mono (by decide)) (A5 (A2 11) (AJ))))
  (B8 (Cb (D_ (DN (Bf (V9 T) (A6.mono (by decide)) (A5 (Bf (zD T) (A6.mono (by decide)) (A5 (A2 11) (AJ))) (A5 (A2 3) (AJ)))))) (Ax (Bk (Fg))) (Cm))
  (Ax (Cb (D_ (DN (Bf (V7 T 5) (A6.mono (by decide)) (A5 (U6 (zC T) (A6.mono (by decide)) (A5 (A2 3) (A5 (A2 2) (AJ)))) (A5 (A2 11) (AJ)))))) (Ax (Bk (Fg))) (Cm))))))
  (B8 (D8 12 JE.B6 (BJ (CR (OL (fj T) (A6.mono (by decide)) (A5 (A2 1) (AJ)))) (Ej (Bf (Ms T) (A6.mono (by decide)) (A5 (Bf (Td T) (A6.mono (by decide)) (A5 (A2 0) (A5 (AS) (AJ)))) (A5 (AS) (AJ)))) (E3 T.Dh (A5 (CR (OL (fj T) (A6.mono (by decide)) (A5 (A2 1) (AJ)))) (AJ)))) Af))
  (Ax (Bk (Bf (zc T) (A6.mono (by decide)) (A5 (A2 2) (A5 (A2 6) (A5 (A2 12) (A5 (Ej (Bf (Ms T) (A6.mono (by decide)) (A5 (Bf (Td T) (A6.mono (by decide)) (A5 (A2 0) (A5 (AS) (AJ)))) (A5 (AS) (AJ)))) (AS)) (AJ))))))))))))))))))))))
end
end By
namespace By
open PySem PySem.Spec C7 CP
def FZ{α β:Type}(a:α)(k:α->R β):(R.ok a).bind k=k a:=rfl
def hQ{a b:Ay}{ρ BZ:AH}(h:a ρ=.ok (.Bb BZ)):Aq a b ρ=b BZ:=by simp only[Aq,h,FZ]
def vI{f:List D->R BQ}{a:AX}{ρ:AH}{x y:D}(A1:a ρ=.ok x)(h:f [x]=.ok (.v y)):Au 1 f (A0 a AB) ρ=.ok y:=by simp only[Au,A0,AB,A1,FZ,Eo,MO,if_true,h,JD]
def call2{f:List D->R BQ}{a b:AX}{ρ:AH}{x z y:D}(A1:a ρ=.ok x)(J:b ρ=.ok z)(h:f [x,z]=.ok (.v y)):Au 2 f (A0 a (A0 b AB)) ρ=.ok y:=by simp only[Au,A0,AB,A1,J,FZ,Eo,MO,if_true,h,JD]
def uO{f:List D->R BQ}{a b c:AX}{ρ:AH}{x z w y:D}(A1:a ρ=.ok x)(J:b ρ=.ok z)(AG:c ρ=.ok w)(h:f [x,z,w]=.ok (.v y)):Au 3 f (A0 a (A0 b (A0 c AB))) ρ=.ok y:=by simp only[Au,A0,AB,A1,J,AG,FZ,Eo,MO,if_true,h,JD]
def d8{f:D->D->R D}{a b:AX}{ρ:AH}{x y z:D}(A1:a ρ=.ok x)(J:b ρ=.ok y)(h:f x y=.ok z):A9 f a b ρ=.ok z:=by simp only[A9,A1,J,FZ,h]
def Th{a:AX}{ρ:AH}{c:Bool}(A1:a ρ=.ok (.AI c)):B2 a ρ=.ok c:=by simp only[B2,A1,FZ,K2]
def f8{a:C9}{ρ:AH}{c:Bool}(A1:a ρ=.ok c):Cq a ρ=.ok (!c):=by simp only[Cq,A1,FZ]
def qH{a b:C9}{ρ:AH}{c d:Bool}(A1:a ρ=.ok c)(J:c=false->b ρ=.ok d):EL a b ρ=.ok (c||d):=by
 cases c
 .simp only[EL,A1,FZ,J rfl,JM,if_false,jR]
 .simp only[EL,A1,FZ,if_true,Bool.true_or]
def ue{f g:D->D->R D}{a b c:AX}{ρ:AH}{x y w:D}{k l:Bool}(A1:a ρ=.ok x)(J:b ρ=.ok y)(AG:c ρ=.ok w)(hf:f x y=.ok (.AI k))(AW:g y w=.ok (.AI l)):JZ f g a b c ρ=.ok (.AI (k&&l)):=by
 cases k
 .simp only[JZ,A1,J,hf,FZ,K2,JM,if_false,Bool.false_and]
 .simp only[JZ,A1,J,AG,hf,AW,FZ,K2,if_true,Xt]
def hP{c:C9}{a b:Ay}{ρ:AH}(AG:c ρ=.ok false):Aq (C4 c a CI) b ρ=b ρ:=by simp only[Aq,C4,AG,FZ,CI];rfl
def adV{e:AX}{ρ:AH}{d:D}(he:e ρ=.ok d):Bc e ρ=.ok (.Ed d):=by simp only[Bc,he,FZ]
def wy{mi:Al}{set:D->AH->R AH}{body:Ay}{ds:List D}{ρ:AH}(AC:mi ρ=.ok ds):G7 mi set body ρ=IB set body ds ρ:=by rw[G7,AC];rfl
def wz{mi:Al}{set:D->AH->R AH}{body:Ay}{ds:List D}{ρ BZ:AH}(AC:mi ρ=.ok ds)(h:IB set body ds ρ=.ok (.Bb BZ)):G7 mi set body ρ=.ok (.Bb BZ):=by rw[wy AC];exact h
def oa{a:AX}{ρ:AH}{xs:List D}(A1:a ρ=.ok (.lst xs)):Bm CQ (A0 a AB) ρ=.ok (.int (xs.length:Nat)):=by simp only[Bm,A0,AB,A1,FZ,CQ]
def Bh(cs:List Nat):List D:=cs.map λ(c:Nat)=>D.int (c:Int)
abbrev AP:=Nat×Nat
def BD(d:AP):D:=.tup [.int (d.1:Nat),.int (d.2:Nat)]
def D6(w:AP×AP):D:=.tup [BD w.1,BD w.2]
def ends(ws:List (AP×AP)):List AP:=(ws.map λw=>[w.1,w.2]).flatten
structure Lay(all left:List AP)(ws:List (AP×AP)):Prop where
 B6:(left++ends ws).Nodup
 sub:∀d∈left++ends ws,d∈all
theorem Yy{α:Type}:∀(l:List α)(i:Nat)(h:i<l.length),S7 (l[i]::l.eraseIdx i) l
 |x::l,0,_=>List.Perm.refl _
 |x::l,i+1,h=>by have Br:=Yy l i (by simpa using h);simp only[List.getElem_cons_succ,t6];exact(List.Perm.swap x _ _).trans (Br.cons x)
def Lay.take{all left:List AP}{ws:List (AP×AP)}(h:Lay all left ws){i j:Nat}(AC:i<left.length)(Bx:j<(left.eraseIdx i).length) :
  Lay all ((left.eraseIdx i).eraseIdx j) (ws++[(left[i],(left.eraseIdx i)[j])]):=by
 have Dd:S7 left (left[i]::left.eraseIdx i):=(Yy left i AC).symm;have Cd:S7 (left.eraseIdx i) ((left.eraseIdx i)[j]::(left.eraseIdx i).eraseIdx j):=(Yy (left.eraseIdx i) j Bx).symm;have fS:ends (ws++[(left[i],(left.eraseIdx i)[j])])=ends ws++[left[i],(left.eraseIdx i)[j]]:=by simp[ends]
 have pp:S7 (left++ends ws) ((left.eraseIdx i).eraseIdx j++ends (ws++[(left[i],(left.eraseIdx i)[j])])):=by rw[fS];refine(List.Perm.append_right _ (Dd.trans (List.Perm.cons _ Cd))).trans ?_;refine(List.perm_append_comm (l₁:=[left[i],(left.eraseIdx i)[j]]) (l₂:=(left.eraseIdx i).eraseIdx j++ends ws)).trans ?_;rw[Xc]
 exact⟨pp.nodup_iff.mp h.B6,λd hd=>h.sub d (pp.mem_iff.mpr hd)⟩
def K6(cs:List Nat)(h:Nat):List AP:=(DT (cs.getD h 0)).map λk=>(h,k)
def DP(cs:List Nat)(n:Nat):List AP:=(DT n).flatMap (K6 cs)
def ZI(cs:List Nat)(n:Nat):DP cs (n+1)=DP cs n++K6 cs n:=by unfold DP;rw[List.range_succ,List.flatMap_append];simp
def fB{cs:List Nat}{h:Nat}{d:AP}:d∈K6 cs h↔d.1=h/\d.2<cs.getD h 0:=by
 unfold K6;rw[US];constructor
 .rintro⟨k,AQ,rfl⟩;exact⟨rfl,List.mem_range.mp AQ⟩
 .rintro⟨rfl,h2⟩;exact⟨d.2,List.mem_range.mpr h2,rfl⟩
def TN{cs:List Nat}{n:Nat}{d:AP}:d∈DP cs n↔d.1<n/\d.2<cs.getD d.1 0:=by
 unfold DP;rw[List.mem_flatMap];constructor
 .rintro⟨h,BN,hd⟩;obtain⟨rfl,h2⟩:=fB.mp hd;exact⟨List.mem_range.mp BN,h2⟩
 .rintro⟨h1,h2⟩;exact⟨d.1,List.mem_range.mpr h1,fB.mpr ⟨rfl,h2⟩⟩
def w7(cs:List Nat)(h:Nat):(K6 cs h).Nodup:=by unfold K6;rw[List.nodup_iff_pairwise_ne,List.pairwise_map];exact List.nodup_range.imp λRW z=>RW (Prod.mk.inj z).2
theorem kx(cs:List Nat):∀n,(DP cs n).Nodup
 |0=>QJ
 |n+1=>by rw[ZI];refine List.nodup_append.mpr ⟨kx cs n,w7 cs n,λa A1 b J z=>?_⟩;subst z;have h1:=(TN.mp A1).1;have h2:=(fB.mp J).1;omega
def Z7{cs:List Nat}(h:∀c∈cs,c<=4)(k:Nat):cs.getD k 0<=4:=by
 rw[Gq];cases e:cs[k]? with
 |none=>simp
 |some c=>simpa using h c (F8 e)
def lx{cs:List Nat}(h:∀c∈cs,1<=c/\c<=4)(k:Nat):(K6 cs k).length<=4:=by unfold K6;rw[Gp,List.length_range];exact Z7 (λc AG=>(h c AG).2) k
theorem SJ{cs:List Nat}(h:∀c∈cs,1<=c/\c<=4):∀n,(DP cs n).length<=4*n
 |0=>by simp[DP]
 |n+1=>by rw[ZI,HS];have:=SJ h n;have:=lx h n;omega
def Z_{cs:List Nat}{h:Nat}(BN:h<cs.length):(Bh cs)[h]?=some (.int (cs.getD h 0:Nat)):=by simp[Bh,Dw BN,Gq]
structure Eh(cs:List Nat)(ws:List (AP×AP)):Prop where
 h1:1<=cs.length
 h6:cs.length<=6
 c:∀c∈cs,1<=c/\c<=4
 B6:(ends ws).Nodup
 sub:∀d∈ends ws,d∈DP cs cs.length
 out:∃d,d∈DP cs cs.length/\d∉ends ws
 few:ws.length<100
def head_mem{cs:List Nat}(h1:1<=cs.length)(c:∀c∈cs,1<=c/\c<=4):((0,0):AP)∈DP cs cs.length:=by
 refine TN.mpr ⟨h1,?_⟩;cases cs with
 |nil=>simp at h1
 |cons x r=>exact(c x (IM ..)).1
def Hg(d:AP):List Key:=[.inl (d.1:Nat),.inl (d.2:Nat)]
def fa{a b:AP}(h:Hg a=Hg b):a=b:=by
 obtain⟨a1,a2⟩:=a;obtain⟨EE,DZ⟩:=b;simp only[Hg,tR,Sum.inl.injEq,and_true]at h;have h1:a1=EE:=by omega
 have h2:a2=DZ:=by omega
 rw[h1,h2]
def Tc(d:AP):Q0 (BD d)=some (Hg d):=rfl
def E9(ws:List (AP×AP)):List (List Key):=(ends ws).map Hg
def EG(ws:List (AP×AP)):List D:=(ws.map λw=>[BD w.2,BD w.1]).flatten
def ks_any(ws:List (AP×AP))(d:AP):(E9 ws).any (λx=>decide (x=Hg d))=decide (d∈ends ws):=by
 unfold E9;rw[List.any_map];by_cases h:d∈ends ws
 .rw[decide_eq_true h,List.any_eq_true];exact⟨d,h,by simp⟩
 .rw[decide_eq_false h,List.any_eq_false];intro x AA;simp only[Function.comp,decide_eq_true_eq];exact λz=>h (fa z▸AA)
def vh(ws:List (AP×AP)):(ends ws).length=2*ws.length:=by
 induction ws with
 |nil=>rfl
 |cons w r Br=>simp only[ends,EU,Og,HS,Eo,MO]at Br |-;omega
def lu{i:Nat}{mk mv:AX}{ρ:AH}{A_:List (List Key)}{ds:List D}{k v:D}{CW:List Key}(hs:ρ[i]?=some (.Aj (.B5 A_ ds)))(AQ:mk ρ=.ok k)(Be:mv ρ=.ok v)(GX:Q0 k=some CW)(AU:A_.any (λx=>decide (x=CW))=false)(AF:A_.length<1000000) :
  Q3 i mk mv ρ=.ok (.Bb (ρ.set i (.Aj (.B5 (A_++[CW]) (ds++[v]))))):=by
 simp only[Q3,Be,hs,AQ,FZ,GX,putD,if_pos (And.intro AU AF)]
def u3{A_:List (List Key)}{a b:List Key}(h:A_.any (λx=>decide (x=b))=false)(ne:a≠b):(A_++[a]).any (λx=>decide (x=b))=false:=by rw[List.any_append,h];simp[ne]
def aah(ws:List (AP×AP))(w:AP×AP):E9 (ws++[w])=E9 ws++[Hg w.1]++[Hg w.2]:=by simp[E9,ends]
def agW(ws:List (AP×AP))(w:AP×AP):EG (ws++[w])=EG ws++[BD w.2]++[BD w.1]:=by simp[EG]
def abl{P:List (AP×AP)}{w:AP×AP}{r:List (AP×AP)}(B6:(ends (P++w::r)).Nodup):w.1∉ends P/\w.2∉ends P/\w.1≠w.2:=by
 have e:ends (P++w::r)=ends P++(w.1::w.2::ends r):=by simp[ends]
 rw[e]at B6;obtain⟨_,Ch,KV⟩:=List.nodup_append.mp B6;refine⟨λz=>KV _ z w.1 (by simp) rfl,λz=>KV _ z w.2 (by simp) rfl,λz=>?_⟩;rw[UJ]at Ch;exact Ch.1 (by rw[z];simp)
def U2(i lo AC:Int):MB [.int i,.int lo,.int AC]=.ok (.v (.AI (decide (lo<=i)&&decide (i<=AC)))):=by have w:f9 [.int i]=.ok (.v (.AI true)):=rfl;simp[MB,dQ,w];by_cases h:lo<=i<;>simp[h]
def cg{cs:List Nat}{d:AP}(h:d∈DP cs cs.length):Qt [.tup (Bh cs),BD d]=.ok (.v (.AI true)):=by
 obtain⟨h1,h2⟩:=TN.mp h;have p:Wk [BD d]=.ok (.v (.AI true)):=rfl;have Cc:AO (BD d) (.int 0)=.ok (.int d.1):=rfl;have AD:AO (BD d) (.int 1)=.ok (.int d.2):=rfl;have AR:AO (.tup (Bh cs)) (.int (d.1:Nat))=.ok (.int (cs.getD d.1 0:Nat)):=nR (Z_ h1);have l:(Bh cs).length=cs.length:=by simp[Bh]
 simp only[Gq]at h2 AR;simp[Qt,dK,p,Cc,AD,AR,l,U2,show¬((cs.length:Int)-1<(d.1:Nat))by omega];omega
def w6{a b:AP}(h:a≠b):Bz false (BD a) (BD b)=.ok (.AI true):=by
 show R.ok (D.AI (!(((a.1:Nat):Int)==((b.1:Nat):Int)&&(((a.2:Nat):Int)==((b.2:Nat):Int)&&true))))=_;by_cases h1:a.1=b.1
 .by_cases h2:a.2=b.2
  .exact absurd (Prod.ext h1 h2) h
  .rw[beq_eq_false_iff_ne.mpr (show((a.2:Nat):Int)≠((b.2:Nat):Int)by omega)];simp
 .rw[beq_eq_false_iff_ne.mpr (show((a.1:Nat):Int)≠((b.1:Nat):Int)by omega)];simp
def agA{cs:List Nat}{w:AP×AP}(h1:w.1∈DP cs cs.length)(h2:w.2∈DP cs cs.length)(ne:w.1≠w.2):TB [.tup (Bh cs),D6 w]=.ok (.v (.AI true)):=by have p:Wk [D6 w]=.ok (.v (.AI true)):=rfl;have Cc:AO (D6 w) (.int 0)=.ok (BD w.1):=rfl;have AD:AO (D6 w) (.int 1)=.ok (BD w.2):=rfl;simp[TB,dR,p,Cc,AD,cg h1,cg h2,w6 ne]
def fJ{m:C9}{ρ:AH}{b:Bool}(h:m ρ=.ok b):FJ m ρ=.ok b:=by simp only[FJ,h];rfl
def q7{m:Ay}{ρ:AH}{b:HH}(h:m ρ=.ok b):Fo m ρ=.ok b:=by simp only[Fo,h];rfl
def aby{m:AX}{ρ:AH}{b:D}(h:m ρ=.ok b):Le m ρ=.ok b:=by simp only[Le,h];rfl
noncomputable def fBody:Ay:=(Aq (C4 (FJ (Cq (B2 (Au 2 TB (A0 (Z 0) (A0 (Z 3) (AB))))))) (Hh "NoNet") (CI))
    (Aq (C4 (FJ (KQ (EL (B2 (A9 (H2 true) (A9 AO (Z 3) (A7 (.int 0))) (Z 2))) (B2 (A9 (H2 true) (A9 AO (Z 3) (A7 (.int 1))) (Z 2)))))) (Hh "NoNet") (CI))
    (Aq (Fo (Q3 2 (A9 AO (Z 3) (A7 (.int 0))) (A9 AO (Z 3) (A7 (.int 1)))))
    (Fo (Q3 2 (A9 AO (Z 3) (A7 (.int 1))) (A9 AO (Z 3) (A7 (.int 0))))))))
theorem nC(cs:List Nat)(W:D):∀(r P:List (AP×AP)),(ends (P++r)).Nodup->(∀d∈ends r,d∈DP cs cs.length)->(P++r).length<1000->∀s3:DG,∃t3,IB (BI 3) fBody (r.map D6) [.AM (.tup (Bh cs)),.AM W,.Aj (.B5 (E9 P) (EG P)),s3]=.ok (.Bb [.AM (.tup (Bh cs)),.AM W,.Aj (.B5 (E9 (P++r)) (EG (P++r))),t3])
 |[],P,_,_,_,s3=>⟨s3,by rw[LY];rfl⟩
 |w::r,P,B6,sub,AF,s3=>by
  obtain⟨DD,Ch,KV⟩:=abl B6;have lk:(E9 P).length<10000:=by unfold E9;rw[Gp,vh];rw[HS]at AF;omega
  have Cc:BI 3 (D6 w) [.AM (.tup (Bh cs)),.AM W,.Aj (.B5 (E9 P) (EG P)),s3]=.ok [.AM (.tup (Bh cs)),.AM W,.Aj (.B5 (E9 P) (EG P)),.AM (D6 w)]:=rfl;have BP:Cq (B2 (Au 2 TB (A0 (Z 0) (A0 (Z 3) (AB))))) [.AM (.tup (Bh cs)),.AM W,.Aj (.B5 (E9 P) (EG P)),.AM (D6 w)]=.ok false:=f8 (c:=true) (Th (call2 rfl rfl (agA (sub _ (by simp[ends])) (sub _ (by simp[ends])) KV)));have k1:H2 true (BD w.1) (.B5 (E9 P) (EG P))=.ok (.AI false):=by simp only[H2,Tc,ks_any,decide_eq_false DD,if_true]
  have k2:H2 true (BD w.2) (.B5 (E9 P) (EG P))=.ok (.AI false):=by simp only[H2,Tc,ks_any,decide_eq_false Ch,if_true]
  have Ce:KQ (EL (B2 (A9 (H2 true) (A9 AO (Z 3) (A7 (.int 0))) (Z 2))) (B2 (A9 (H2 true) (A9 AO (Z 3) (A7 (.int 1))) (Z 2)))) [.AM (.tup (Bh cs)),.AM W,.Aj (.B5 (E9 P) (EG P)),.AM (D6 w)]=.ok (false||false):=by unfold KQ;exact qH (Th (d8 (x:=BD w.1) (y:=.B5 (E9 P) (EG P)) rfl rfl k1)) λ_=>Th (d8 (x:=BD w.2) (y:=.B5 (E9 P) (EG P)) rfl rfl k2)
  have a1:=lu (i:=2) (mk:=A9 AO (Z 3) (A7 (.int 0))) (mv:=A9 AO (Z 3) (A7 (.int 1))) (ρ:=[.AM (.tup (Bh cs)),.AM W,.Aj (.B5 (E9 P) (EG P)),.AM (D6 w)]) rfl rfl rfl (Tc w.1) (by rw[ks_any];exact decide_eq_false DD) (by omega);have a2:=lu (i:=2) (mk:=A9 AO (Z 3) (A7 (.int 1))) (mv:=A9 AO (Z 3) (A7 (.int 0))) (ρ:=[.AM (.tup (Bh cs)),.AM W,.Aj (.B5 (E9 P++[Hg w.1]) (EG P++[BD w.2])),.AM (D6 w)]) rfl rfl rfl (Tc w.2) (u3 (by rw[ks_any];exact decide_eq_false Ch) (λz=>KV (fa z))) (by rw[HS,XO];omega);have AD:fBody [.AM (.tup (Bh cs)),.AM W,.Aj (.B5 (E9 P) (EG P)),.AM (D6 w)]=.ok (.Bb [.AM (.tup (Bh cs)),.AM W,.Aj (.B5 (E9 (P++[w])) (EG (P++[w]))),.AM (D6 w)]):=by unfold fBody;rw[hP (fJ BP),hP (fJ Ce),hQ (q7 a1),aah,agW];exact q7 a2
  rw[EU,IB,Cc,FZ,AD,FZ];have q:P++w::r=(P++[w])++r:=by simp
  rw[q]at B6 AF |-;exact nC cs W r (P++[w]) B6 (λd hd=>sub d (by simp only[ends,EU,Og,Y2]at hd |-;exact .inr hd)) AF _
def vP(cs:List Nat)(ws:List (AP×AP))(h:Eh cs ws):Qq [.tup (Bh cs),.tup (ws.map D6)]=.ok (.v (.B5 (E9 ws) (EG ws))):=by show(ZN [.AM (.tup (Bh cs)),.AM (.tup (ws.map D6)),.un,.un]).bind outD=_;have s1:Fo (aa 2) [.AM (.tup (Bh cs)),.AM (.tup (ws.map D6)),.un,.un]=.ok (.Bb [.AM (.tup (Bh cs)),.AM (.tup (ws.map D6)),.Aj (.B5 (E9 []) (EG [])),.un]):=rfl;obtain⟨t3,e⟩:=nC cs (.tup (ws.map D6)) ws [] (by simpa using h.B6) h.sub (by have:=h.few;simp;omega) .un;have f:=wz (mi:=Q5 (Z 1)) (ρ:=[.AM (.tup (Bh cs)),.AM (.tup (ws.map D6)),.Aj (.B5 (E9 []) (EG [])),.un]) rfl e;unfold fBody at f;unfold ZN;rw[hQ s1,hQ f];rfl
def RM:AX:=(Au 3 MB (A0 (Z 0) (A0 (A7 (.int 1)) (A0 (A7 SS) (AB)))))
theorem kE:∀(cs:List Nat),(∀c∈cs,1<=c/\c<=4)->∀(ws:List D)(s0:DG),ws.length+cs.length<1000->Ea (BI 0) D2 RM (Bh cs) [s0] ws=.ok (ws++cs.map λ_=>D.AI true)
 |[],_,ws,s0,_=>by simp[Ea,Bh]
 |c::cs,h,ws,s0,AF=>by
  simp only[Eo]at AF;obtain⟨BP,K3⟩:=h c (IM ..);have Cc:BI 0 (.int (c:Nat)) [s0]=.ok [.AM (.int (c:Nat))]:=rfl;have AD:RM [.AM (.int (c:Nat))]=.ok (.AI true):=by have z:=U2 (c:Nat) 1 4;rw[decide_eq_true (by omega),decide_eq_true (by omega)]at z;exact uO rfl rfl rfl z
  show Ea (BI 0) D2 RM (.int (c:Nat)::Bh cs) [s0] ws=_;rw[Ea,Cc,FZ];simp only[D2,FZ,AD,if_true,if_pos (show ws.length<1000000 by omega)];rw[kE cs (λc h'=>h c (En _ h')) _ _ (by rw[HS,XO];omega),Xc];rfl
theorem kX:∀cs:List Nat,NZ (cs.map λ_=>D.AI true)=some (cs.map λ_=>true)
 |[]=>rfl
 |c::cs=>by simp only[EU,NZ,kX cs,Option.map_some]
def ui(cs:List Nat)(h1:1<=cs.length)(h6:cs.length<=6)(h:∀c∈cs,1<=c/\c<=4):Wi [.lst (Bh cs)]=.ok (.v (.AI true)):=by
 show(ZM [.AM (.lst (Bh cs))]).bind outD=_;have Q1:Bm CQ (A0 (Z 0) AB) [.AM (.lst (Bh cs))]=.ok (.int (cs.length:Nat)):=by rw[oa (xs:=Bh cs) rfl];simp[Bh]
 have BP:EL (Cq (B2 (D4 (Cp "list") (Z 0)))) (Cq (B2 (JZ J8 J8 (A7 (.int 1)) (Bm CQ (A0 (Z 0) (AB))) (A7 RF)))) [.AM (.lst (Bh cs))]=.ok (false||false):=by refine qH rfl λ_=>?_;have z:=ue (f:=J8) (g:=J8) (a:=A7 (.int 1)) (c:=A7 RF) (ρ:=[.AM (.lst (Bh cs))]) rfl Q1 rfl (k:=true) (l:=true) (by show R.ok (D.AI (decide ((1:Int)<=(cs.length:Nat))))=_;rw[decide_eq_true (by omega)]) (by show R.ok (D.AI (decide (((cs.length:Nat):Int)<=6)))=_;rw[decide_eq_true (by omega)]);exact f8 (c:=true) (Th z)
 have Nb:DC 1 [] (ET (Z 0)) (BI 0) (D2) RM [.AM (.lst (Bh cs))]=.ok (cs.map λ_=>D.AI true):=by show Fb (Ea (BI 0) D2 RM (Bh cs) [.un] [])=_;rw[kE cs h _ _ (by simp;omega)];rfl
 have e:Bm CP.DP (A0 (C6 (DC 1 [] (ET (Z 0)) (BI 0) (D2) RM)) (AB)) [.AM (.lst (Bh cs))]=.ok (.AI true):=by
  simp only[Bm,A0,AB,C6,Nb,FZ,CP.DP,kX]
  congr 2
  rw[YB];simp
 unfold RM at e;unfold ZM;rw[hP BP,adV e];rfl
def W0{a b:Jl}{ρ EA:AH}(h:a ρ=.ok EA):Mw a b ρ=b EA:=by simp only[Mw,h,FZ]
theorem sU:∀ws:List (AP×AP),Ko (EG ws)=true
 |[]=>rfl
 |w::ws=>by show Ko (BD w.2::BD w.1::EG ws)=true;simp only[Ko,sU ws];rfl
def nr(cs:List Nat)(ws:List (AP×AP))(h:Eh cs ws):af [.lst (Bh cs),.lst (ws.map D6)]=.ok (["many","counts","joined","far"],[.int (cs.length:Nat),.tup (Bh cs),.tup (ws.map D6),.B5 (E9 ws) (EG ws)]):=by
 let r (ns:List Str) (ds:List D):AH:=[.Aj (.ins "Net" ns ds),.AM (.lst (Bh cs)),.AM (.lst (ws.map D6))]
 have g1:Qo (FJ (Cq (B2 (Au 1 Wi (A0 (Z 1) (AB)))))) "NoNet" (r [] [])=.ok (r [] []):=by have z:Cq (B2 (Au 1 Wi (A0 (Z 1) (AB)))) (r [] [])=.ok false:=f8 (c:=true) (Th (vI rfl (ui cs h.h1 h.h6 h.c)));simp only[Qo,fJ z,FZ,JM,if_false]
 have g2:Qo (FJ (Cq (B2 (D4 (Cp "list") (Z 2))))) "NoNet" (r [] [])=.ok (r [] []):=rfl;have f1:KS "Net" "many" (Le (Bm CQ (A0 (Z 1) (AB)))) (r [] [])=.ok (r ["many"] [.int (cs.length:Nat)]):=by
  have Q1:Bm CQ (A0 (Z 1) AB) (r [] [])=.ok (.int (cs.length:Nat)):=by rw[oa (xs:=Bh cs) rfl];simp[Bh]
  rw[KS,aby Q1];rfl
 have f2:KS "Net" "counts" (Le (Bm OG (A0 (Z 1) (AB)))) (r ["many"] [.int (cs.length:Nat)])=.ok (r ["many","counts"] [.int (cs.length:Nat),.tup (Bh cs)]):=rfl;have F3:KS "Net" "joined" (Le (Bm OG (A0 (Z 2) (AB)))) (r ["many","counts"] [.int (cs.length:Nat),.tup (Bh cs)])=.ok (r ["many","counts","joined"] [.int (cs.length:Nat),.tup (Bh cs),.tup (ws.map D6)]):=rfl;have f4:KS "Net" "far" (Qn (Au 2 Qq (NW (A0 (D4 (Fv "Net" "counts") (Z 0)) (A0 (D4 (Fv "Net" "joined") (Z 0)) (AB)))))) (r ["many","counts","joined"] [.int (cs.length:Nat),.tup (Bh cs),.tup (ws.map D6)])=.ok (r ["many","counts","joined","far"] [.int (cs.length:Nat),.tup (Bh cs),.tup (ws.map D6),.B5 (E9 ws) (EG ws)]):=by
  have z:Qn (Au 2 Qq (NW (A0 (D4 (Fv "Net" "counts") (Z 0)) (A0 (D4 (Fv "Net" "joined") (Z 0)) (AB))))) (r ["many","counts","joined"] [.int (cs.length:Nat),.tup (Bh cs),.tup (ws.map D6)])=.ok (.B5 (E9 ws) (EG ws)):=by
   have y:Au 2 Qq (NW (A0 (D4 (Fv "Net" "counts") (Z 0)) (A0 (D4 (Fv "Net" "joined") (Z 0)) (AB)))) (F_ (r ["many","counts","joined"] [.int (cs.length:Nat),.tup (Bh cs),.tup (ws.map D6)]))=.ok (.B5 (E9 ws) (EG ws)):=by show(R.ok [D.tup (Bh cs),D.tup (ws.map D6)]).bind (λds=>if ds.length=2 then(Qq ds).bind JD else .bad)=_;simp only[FZ,vP cs ws h];rfl
   have n:KW (.B5 (E9 ws) (EG ws))=true/\fM (r ["many","counts","joined"] [.int (cs.length:Nat),.tup (Bh cs),.tup (ws.map D6)])=true:=⟨by simp only[KW];exact sU ws,rfl⟩;simp only[Qn,y,FZ,if_pos n]
  rw[KS,z];rfl
 show Sx "Net" (ZL (r [] []))=_;unfold ZL;rw[W0 g1,W0 g2,W0 f1,W0 f2,W0 F3,f4];rfl
def SZ(ns:List Int)(k:Nat):∃c:Int,Ig [.Cs (ns.map D.int),.int k]=.ok (.v (.int c)):=by
 by_cases h:k<ns.length
 .refine⟨ns[k],?_⟩;have e:AO (.Cs (ns.map D.int)) (.int (k:Int))=.ok (.int ns[k]):=zi (by simp[h]);simp(disch:=first|omega|(simp;done)|(simp;omega)) [Ig,ZP,h,e]
 .exact⟨0,by simp(disch:=first|omega|(simp;done)|(simp;omega)) [Ig,ZP,h]⟩
def qV(P:Int->Prop){a b c d:Int}(A1:P a)(J:P b)(AG:P c)(hd:P d)(x:Int):∃y,P y/\AO (.lst [.int a,.int b,.int c,.int d]) (.int (x%4))=.ok (.int y):=by
 have h:x%4=0\/x%4=1\/x%4=2\/x%4=3:=by omega
 rcases h with h|h|h|h<;>rw[h]
 .exact⟨a,A1,rfl⟩
 .exact⟨b,J,rfl⟩
 .exact⟨c,AG,rfl⟩
 .exact⟨d,hd,rfl⟩
def cn(c:Int)(n:Nat)(AU:n<1000):∃ys:List Int,ys.length=n/\NS [.int c,.int n]=.ok (.o (ys.map D.int)):=by
 let I:Nat->AH->Prop:=λj ρ=>∃(ys:List Int)(r:Int)(s4 s5 G_:DG),ys.length=j/\ρ=[.AM (.int c),.AM (.int n),.DV (ys.map D.int),.AM (.int r),s4,s5,G_]
 have L:=ml (mi:=II (A0 (Z 1) (AB))) (set:=BI 4) (ρ:=[.AM (.int c),.AM (.int n),.DV [],.AM (.int (c/2)),.un,.un,.un]) (ds:=GJ 0 n) I (body:=(C4 (B2 (A9 (Bz true) (A9 Dr (Z 0) (A7 (.int 2))) (A7 (.int 1)))) (Aq (Cg 5 (A9 AO (C6 (E0 (A0 (A7 (.int 2147483647)) (A0 (A7 (.int 2147483629)) (A0 (A7 (.int 2147483587)) (A0 (A7 (.int 2147483579)) (AB))))))) (A9 Dr (A9 K8 (Z 4) (A7 (.int 4))) (A7 (.int 4)))))
  (Aq (Cg 6 (A9 AO (C6 (E0 (A0 (A7 (.int 48271)) (A0 (A7 (.int 69621)) (A0 (A7 (.int 16807)) (A0 (A7 (.int 39373)) (AB))))))) (A9 Dr (Z 4) (A7 (.int 4)))))
  (KP 2 (A9 K8 (A9 Dr (A9 MD (A9 Cy (A9 Cy (A9 Dr (Z 3) (A9 OP (A7 (.int 10)) (A7 (.int 30)))) (A9 MD (A7 (.int 7919)) (Z 4))) (A7 (.int 1))) (Z 6)) (Z 5)) (A7 (.int 7)))))) (Aq (KP 2 (A9 Dr (Z 3) (A9 OP (A7 (.int 10)) (A7 (.int 6)))))
  (Cg 3 (A9 K8 (Z 3) (A9 OP (A7 (.int 10)) (A7 (.int 6)))))))) (by simp[show n<1000000 by omega]) (λj d ρ hd KJ=>?_) ⟨[],c/2,.un,.un,.un,rfl,rfl⟩
 .obtain⟨BZ,e,ys,r,s4,s5,G_,AF,rfl⟩:=L;refine⟨ys,by simpa using AF,?_⟩;simp(disch:=first|omega|(simp;done)|(simp;omega)) [NS,dW,e]
 .obtain⟨Bx,rfl⟩:=pV hd;obtain⟨ys,r,s4,s5,G_,AF,rfl⟩:=KJ;obtain⟨p,Am,C5⟩:=qV (λy=>0<y) (a:=2147483647) (b:=2147483629) (c:=2147483587) (d:=2147483579) (by decide) (by decide) (by decide) (by decide) ((j:Int)/4);obtain⟨f,hf,RL⟩:=qV (λy=>0<y/\y<2^64) (a:=48271) (b:=69621) (c:=16807) (d:=39373) (by decide) (by decide) (by decide) (by decide) (j:Int);have aiB:f<18446744073709551616:=hf.2;have aj1:=hf.1;by_cases AG:c%2=1
  .exact⟨_,_,by simp;rfl,by simp(disch:=first|omega|(simp;done)|(simp;omega)) [AG,C5,RL,ac4];rfl,ys++[_],r,_,_,_,by simp[AF],by simp;exact⟨rfl,rfl,rfl,rfl⟩⟩
  .exact⟨_,_,by simp;rfl,by simp(disch:=first|omega|(simp;done)|(simp;omega)) [AG,ac5];rfl,ys++[_],_,_,_,_,by simp[AF],by simp;exact⟨rfl,rfl,rfl,rfl,rfl⟩⟩
def My(c:Int)(k:Nat)(AQ:k<900):∃y:Int,G8 [.int c,.int k]=.ok (.v (.int y)):=by
 obtain⟨ys,AF,e⟩:=cn c (k+1) (by omega);have h:k<ys.length:=by omega
 refine⟨ys[k],?_⟩;have Bw:NS [.int c,.int ((k:Int)+1)]=.ok (.o (ys.map D.int)):=by rw[<-e];rfl
 simp(disch:=first|omega|(simp;done)|(simp;omega)) [G8,dX,Bw,fZ h]
def agl(NU:Nat)(h1:1<=NU)(h6:NU<=6):∃t:Nat,1<=t/\t<=4/\AO (.lst [.int 4,.int 4,.int 4,.int 3,.int 2,.int 2]) (.int ((NU:Int)-1))=.ok (.int (t:Nat)):=by
 have:NU=1\/NU=2\/NU=3\/NU=4\/NU=5\/NU=6:=by omega
 rcases this with h|h|h|h|h|h<;>subst h
 .exact⟨4,by decide,by decide,rfl⟩
 .exact⟨4,by decide,by decide,rfl⟩
 .exact⟨4,by decide,by decide,rfl⟩
 .exact⟨3,by decide,by decide,rfl⟩
 .exact⟨2,by decide,by decide,rfl⟩
 .exact⟨2,by decide,by decide,rfl⟩
def abg(cell:Int):∃(cs:List Nat)(ws:List (AP×AP)),Eh cs ws/\TF [.int cell]=.ok (.v (.tup [.lst (Bh cs),.lst (ws.map D6)])):=by
 suffices h:Ends (TF [.int cell]) λb=>∃cs ws,Eh cs ws/\b=.v (.tup [.lst (Bh cs),.lst (ws.map D6)])by
  obtain⟨b,e,cs,ws,h,rfl⟩:=h;exact⟨cs,ws,h,e⟩
 obtain⟨xs,AA,ex⟩:=cn cell 40 (by decide);have Yz:NS [.int cell,.int 40]=.ok (.o (xs.map D.int)):=ex;have at':∀k:Nat,k<40->∃x,AO (.lst (xs.map D.int)) (.int (k:Int))=.ok (.int x):=λk AQ=>⟨_,fZ (by omega)⟩;obtain⟨x0,Cc⟩:=at' 0 (by decide);obtain⟨U3,K7⟩:=at' 7 (by decide);obtain⟨m,hm,em⟩:=ME x0 (n:=6) (by decide);have dI:AO (.lst (xs.map D.int)) (.int 0)=.ok (.int x0):=Cc;have wH:AO (.lst (xs.map D.int)) (.int 7)=.ok (.int U3):=K7;have Vm:(1:Int)+x0%6=((m+1:Nat):Int):=by have:x0%6=(m:Int):=em;omega
 simp(disch:=first|omega|(simp;done)|(simp;omega)) [TF,dY,Yz,dI,Vm,-jb];obtain⟨t,t1,ay,Nf⟩:=agl (m+1) (by omega) (by omega)
 let E6:Nat->Nat:=λk=>(1+xs.getD (1+k) 0%(t:Int)).toNat
 have ZZ:∀k,1<=E6 k/\E6 k<=4/\1+xs.getD (1+k) 0%(t:Int)=(E6 k:Int):=λk=>by have a:=QI (xs.getD (1+k) 0) (b:=(t:Int)) (by omega);have b:=Ru (xs.getD (1+k) 0) (b:=(t:Int)) (by omega);show 1<=(1+xs.getD (1+k) 0%(t:Int)).toNat/\(1+xs.getD (1+k) 0%(t:Int)).toNat<=4/\_=((1+xs.getD (1+k) 0%(t:Int)).toNat:Int);omega
 have eg:∀k:Nat,k<10->AO (.lst (xs.map D.int)) (.int (1+(k:Int)))=.ok (.int (xs.getD (1+k) 0)):=λk AQ=>by
  have h:1+k<xs.length:=by omega
  have:=fZ h;rw[Gq,Dw h];exact this
 refine Mg (m+1) (λk=>.int (E6 k:Int)) (by simp[show m+1<1000000 by omega,-jb]) (by omega) (λk AQ=>?_) ?_
 .simp only[Gq]at eg ZZ;simp[eg k (by omega),Nf,show 0<t by omega,(ZZ k).2.2,-jb]
 have vb:(DT (m+1)).map (λk=>D.int (E6 k:Int))=Bh ((DT (m+1)).map E6):=by simp[Bh]
 rw[vb];generalize o2:(DT (m+1)).map E6=cs;have BP:cs.length=m+1:=by rw[<-o2];simp
 have Nb:∀c∈cs,1<=c/\c<=4:=λc AG=>by rw[<-o2]at AG;obtain⟨k,_,rfl⟩:=List.mem_map.mp AG;exact⟨(ZZ k).1,(ZZ k).2.1⟩
 have lcs:(Bh cs).length=cs.length:=by simp[Bh]
 refine eR cs.length (λj ρ=>∃s5,ρ=[.AM (.int cell),.AM (.lst (xs.map D.int)),.AM (.int (m+1:Nat)),.AM (.lst (Bh cs)),.DV ((DP cs j).map BD),s5,.un,.un,.un]) (by simp[lcs,show cs.length<1000000 by omega]) ⟨.un,by simp[DP]⟩ ?_ ?_
 .rintro j _ Bx ⟨s5,rfl⟩;have C2:AO (.lst (Bh cs)) (.int (j:Int))=.ok (.int (cs.getD j 0:Nat)):=Mq (Z_ Bx);have Nt:=Z7 (λc h=>(Nb c h).2) j;simp;refine Mg (cs.getD j 0) (λk=>BD (j,k)) (by simp only[Gq]at C2 Nt;simp[C2,show cs[j]?.getD 0<1000000 by omega]) (by omega) (λk AQ=>by simp[BD]) ?_;have Q1:=SJ Nb j;simp only[Gq]at Nt |-;simp[show(DP cs j).length+cs[j]?.getD 0<=1000000 by omega];rw[ZI];simp[K6]
  done
 .rintro _ ⟨s5,rfl⟩;have te:1<=(DP cs cs.length).length:=Rg (head_mem (by omega) Nb);have tf:=SJ Nb cs.length;generalize G6:(DP cs cs.length).length=L at te tf;obtain⟨Hk,aiJ,vm⟩:=ME U3 (n:=2) (by decide);generalize Be:((L:Int)-1)/2-U3%2=v;have aiO: -1<=v/\2*v+1<=L:=by have:U3%2=(Hk:Int):=vm;omega
  simp[F_];refine eR v.toNat (λj ρ=>∃left ws Dt Ka,Lay (DP cs cs.length) left ws/\left.length+2*j=L/\ws.length=j/\ρ=[.AM (.int cell),.AM (.lst (xs.map D.int)),.AM (.int (m+1:Nat)),.AM (.lst (Bh cs)),.DV (left.map BD),s5,.DV (ws.map D6),Dt,Ka]) ?_ ⟨DP cs cs.length,[],.un,.un,⟨by simpa[ends]using kx cs cs.length,λd hd=>by simpa[ends]using hd⟩,by omega,rfl,rfl⟩ ?_ ?_
  .simp(disch:=first|omega|(simp;done)|(simp;omega)) [wH,G6,Be,ad_ (v:=v) (by omega) (by omega)]
  .rintro j _ Bx ⟨left,ws,Dt,Ka,lay,h1,h2,rfl⟩;obtain⟨rk,Oy⟩:=at' (8+2*j) (by omega);obtain⟨rl,Kz⟩:=at' (9+2*j) (by omega);obtain⟨k1,eD,vd⟩:=ME rk (n:=left.length) (by omega);have le:(left.eraseIdx k1).length=left.length-1:=by simp[ir,eD]
   obtain⟨k2,SH,ve⟩:=ME rl (n:=(left.eraseIdx k1).length) (by omega);have vT:AO (.lst (xs.map D.int)) (.int (8+2*(j:Int)))=.ok (.int rk):=by rw[<-Oy];simp
   have vU:AO (.lst (xs.map D.int)) (.int (9+2*(j:Int)))=.ok (.int rl):=by rw[<-Kz];simp
   have Lu:=eu BD (i:=4) eD (by omega);have Lv:=eu BD (i:=4) SH (by omega);simp(disch:=first|omega|(simp;done)|(simp;omega)) [vT,vU,vd,Lu,ve,Lv];refine⟨_,_,lay.take eD SH,by rw[ir,if_pos SH,le];omega,by simp[h2],rfl,by simp[D6]⟩
  .rintro _ ⟨left,ws,Dt,Ka,lay,h1,h2,rfl⟩;have nl:1<=left.length:=by omega
   simp;refine⟨cs,ws,⟨by omega,by omega,Nb,(List.nodup_append.mp lay.B6).2.1,λd hd=>lay.sub d (Io _ hd),?_,by omega⟩,rfl,rfl⟩;cases left with
   |nil=>simp at nl
   |cons d r=>exact⟨d,lay.sub d (by simp),λz=>(List.nodup_append.mp lay.B6).2.2 d (by simp) d z rfl⟩
inductive Ck where
 |Fx (k:Bool)
 |ac (w h:Nat)
def wS:Str:=As "wait"
def Il(w:Nat):Str:=if w=0 then As "teach" else if w=1 then As "turn" else As "forget"
def DE:Ck->D
 |.Fx true=>M1
 |.Fx false=>.tup [.str wS]
 |.ac w h=>.tup [.str (Il w),.int (h:Int)]
def Ck.act:Ck->Bool
 |.Fx _=>false
 |.ac _ _=>true
def Ck.ok(n:Nat):Ck->Prop
 |.Fx _=>True
 |.ac w h=>w<3/\h<n
def M9:Ck->List Key
 |.Fx _=>[]
 |.ac w h=>[.inr (Il w),.inl (h:Int)]
def CM(cs:List Nat)(ws:List (AP×AP)):D:=.ins "Net" ["many","counts","joined","far"] [.int (cs.length:Nat),.tup (Bh cs),.tup (ws.map D6),.B5 (E9 ws) (EG ws)]
def TM(cs:List Nat)(ws:List (AP×AP)):Fv "Net" "many" (CM cs ws)=.ok (.int (cs.length:Int)):=rfl
def iZ(w:Nat)(h:w<3):w=0\/w=1\/w=2:=by omega
def afJ{cs:List Nat}{ws:List (AP×AP)}{s:Ck}(h:s.ok cs.length):Zn [DE s,CM cs ws]=.ok (.v (.AI true)):=by
 cases s with
 |Fx k=>cases k<;>rfl
 |ac w k=>
  obtain⟨hw,AQ⟩:=h;have Cc:AO (DE (.ac w k)) (.int 0)=.ok (.str (Il w)):=rfl;have AD:AO (DE (.ac w k)) (.int 1)=.ok (.int k):=rfl;have l:CQ [DE (.ac w k)]=.ok (.int 2):=rfl;have t1:Cp "tuple" (DE (.ac w k))=.ok (.AI true):=rfl;have Hn:Cp "str" (.str (Il w))=.ok (.AI true):=rfl;have BG:inD false (.int 2) (.tup [.int 1,.int 2])=.ok (.AI false):=rfl;have BH:inD true (.str (Il w)) (.tup [.str (As "teach"),.str (As "turn"),.str (As "forget")])=.ok (.AI true):=by rcases iZ w hw with h|h|h<;>subst h<;>rfl
  simp[Zn,dP,Cc,AD,l,t1,Hn,BG,BH,TM,U2];omega
def abe(s:Ck):Bz false (DE s) M1=.ok (.AI s.act)/\Bz false (DE s) (.tup [.str wS])=.ok (.AI s.act):=by
 cases s with
 |Fx k=>cases k<;>exact⟨rfl,rfl⟩
 |ac w k=>
  have e:EJ [.str (Il w),.int (k:Int)] [.str wS]=false:=by simp[EJ]
  exact⟨by show R.ok (D.AI (!EJ [.str (Il w),.int (k:Int)] [.str wS]))=_;rw[e];rfl,by show R.ok (D.AI (!EJ [.str (Il w),.int (k:Int)] [.str wS]))=_;rw[e];rfl⟩
def ag7{a b:Nat}(A1:a<3)(J:b<3)(h:Il a=Il b):a=b:=by rcases iZ a A1 with h1|h1|h1<;>rcases iZ b J with h2|h2|h2<;>subst h1<;>subst h2<;>first|rfl|(exact absurd h (by decide))
def aa1{n:Nat}{s t:Ck}(hs:s.ok n)(BB:t.ok n)(as:s.act=true)(at':t.act=true)(h:M9 s=M9 t):s=t:=by
 cases s with
 |Fx k=>cases as
 |ac w k=>
  cases t with
  |Fx k=>cases at'
  |ac Ff k'=>
   simp only[M9,tR,Sum.inr.injEq,Sum.inl.injEq,and_true]at h;have:=ag7 hs.1 BB.1 h.1;have:k=k':=by omega
   subst_vars;rfl
theorem p8:∀{ss:List Ck},(∀s∈ss,s.act=true)->Qf (ss.map DE)=some (ss.map M9)
 |[],_=>rfl
 |s::ss,h=>by
  have Br:=p8 (ss:=ss) λx AA=>h x (by simp[AA]);have e:iJ (DE s)=some (M9 s):=by
   cases s with
   |Fx k=>exact nomatch h (.Fx k) (by simp)
   |ac w k=>rfl
  simp only[EU,Qf,e,Br]
def vz{α:Type}[DecidableEq α](l:List (List α)):∀S:List (List α),S.Nodup->((l.foldl IS.Ky S).length=S.length+l.length↔(S++l).Nodup)/\(l.foldl IS.Ky S).length<=S.length+l.length:=by
 induction l with
 |nil=>intro S h;simp[h]
 |cons a l Br=>
  intro S h;simp only[Y0,Eo];by_cases A1:a∈S
  .have e:IS.Ky S a=S:=by simp[IS.Ky,A1]
   rw[e];have:=(Br S h).2;refine⟨⟨λz=>by omega,λz=>?_⟩,by omega⟩;exact absurd A1 λq=>(List.nodup_append.mp z).2.2 a q a (by simp) rfl
  .have e:IS.Ky S a=S++[a]:=by simp[IS.Ky,A1]
   rw[e];have AU:(S++[a]).Nodup:=by rw[jC];refine⟨h,by simp,λx AA y BO z=>?_⟩;rw[List.mem_singleton.mp BO]at z;exact A1 (z▸AA)
   have:=Br (S++[a]) AU;simp only[HS,XO,Xc,List.singleton_append]at this;rw[show S.length+(l.length+1)=S.length+1+l.length by omega];exact this
def vy{α:Type}[DecidableEq α](l:List (List α)):(IS.IW l).length=l.length↔l.Nodup:=by have:=(vz l [] QJ).1;simpa[IS.IW]using this
structure Gx(n:Nat)(AK:List Ck):Prop where
 ok:∀s∈AK,s.ok n
 B6:(AK.filter Ck.act).Nodup
theorem nodup_map_on{α β:Type}{f:α->β}:∀{l:List α},(∀a∈l,∀b∈l,f a=f b->a=b)->l.Nodup->(l.map f).Nodup
 |[],_,_=>QJ
 |a::l,h,AU=>by rw[UJ]at AU;rw[EU,UJ];refine⟨λz=>?_,nodup_map_on (λx AA y BO=>h x (by simp[AA]) y (by simp[BO])) AU.2⟩;obtain⟨b,J,e⟩:=List.mem_map.mp z;exact AU.1 (h b (by simp[J]) a (by simp) e▸J)
theorem oT{α β:Type}{f:α->β}:∀{l:List α},(l.map f).Nodup->l.Nodup
 |[],_=>QJ
 |a::l,h=>by rw[EU,UJ]at h;rw[UJ];exact⟨λz=>h.1 (List.mem_map.mpr ⟨a,z,rfl⟩),oT h.2⟩
theorem kW{α:Type}(f:α->Bool):∀l:List α,NZ (l.map λa=>D.AI (f a))=some (l.map f)
 |[]=>rfl
 |a::l=>by simp[NZ,kW f l]
def SK{α:Type}(f:α->Bool)(l:List α):CP.DP [.lst (l.map λa=>D.AI (f a))]=.ok (.AI (l.all f)):=by simp[CP.DP,kW,Xf]
def fY(l:List D):Cp "list" (.lst l)=.ok (.AI true):=rfl
def acW{cs:List Nat}{ws:List (AP×AP)}{AK:List Ck}(h:∀s∈AK,s.ok cs.length)(AF:AK.length<=40){c:Bool}(AG:c=true↔(AK.filter Ck.act).Nodup):Qv [.lst (AK.map DE),CM cs ws]=.ok (.v (.AI c)):=by
 suffices h:Ends (Qv [.lst (AK.map DE),CM cs ws]) (· =.v (.AI c))by
  obtain⟨b,e,rfl⟩:=h;exact e
 simp[Qv,dN,fY,SW,show¬((40:Int)<AK.length)by omega];refine L2 DE AK (λ_=>.AI true) (by simp) (by omega) (λs hs=>by simp[afJ (ws:=ws) (h s hs)]) ?_;have a:=SK (λ_=>true) AK;simp[a];refine eQ DE AK Ck.act DE (by simp) (by omega) (λs hs=>by simp[abe]) (λs _ _=>by simp) ?_;have k:=p8 (ss:=AK.filter Ck.act) λs hs=>(List.mem_filter.mp hs).2;have fl:=iq Ck.act AK;have ls:WU [.lst ((AK.filter Ck.act).map DE)]=.ok (.int (IS.IW ((AK.filter Ck.act).map M9)).length):=by simp[WU,k,show(AK.filter Ck.act).length<77 by omega]
 simp[ls];have q:=vy ((AK.filter Ck.act).map M9);rw[Gp]at q;have r:((AK.filter Ck.act).map M9).Nodup↔(AK.filter Ck.act).Nodup:=⟨oT,nodup_map_on λa A1 b J=>aa1 (h a (List.mem_filter.mp A1).1) (h b (List.mem_filter.mp J).1) (List.mem_filter.mp A1).2 (List.mem_filter.mp J).2⟩;rw[r]at q;by_cases AU:(AK.filter Ck.act).Nodup
 .rw[AG.mpr AU,q.mpr AU];simp
 .have:c=false:=by
    cases c with
    |true=>exact absurd (AG.mp rfl) AU
    |false=>rfl
  rw[this,beq_eq_false_iff_ne];exact λz=>AU (q.mp (by omega))
def acZ{cs:List Nat}{ws:List (AP×AP)}{AK:List Ck}(h:Gx cs.length AK)(AF:AK.length<=40):Qv [.lst (AK.map DE),CM cs ws]=.ok (.v (.AI true)):=by rw[acW h.ok AF (c:=true) ⟨λ_=>h.B6,λ_=>rfl⟩]
def Gx.perm{n:Nat}{AK KY:List Ck}(h:Gx n AK)(p:S7 AK KY):Gx n KY:=⟨λs hs=>h.ok s (p.mem_iff.mpr hs),(p.filter _).nodup_iff.mp h.B6⟩
theorem Gx.Fx{n:Nat}{AK:List Ck}{k:Bool}(h:Gx n AK):Gx n (.Fx k::AK):=⟨λs hs=>(List.mem_cons.mp hs).elim (λe=>by rw[e];trivial) (h.ok s),by simpa[Ck.act]using h.B6⟩
def Gx.erase{n:Nat}{AK:List Ck}{k:Nat}(h:Gx n AK):Gx n (AK.eraseIdx k):=⟨λs hs=>h.ok s (List.eraseIdx_subset hs),h.B6.sublist ((List.eraseIdx_sublist AK k).filter _)⟩
def plain(n:Nat)(k:Bool):List Ck:=((DT n).map (Ck.ac 0)++(DT n).map (Ck.ac 1))++[.Fx k]++(DT n).map (Ck.ac 2)
def plain_len(n:Nat)(k:Bool):(plain n k).length=3*n+1:=by simp[plain];omega
def acV(n:Nat)(k:Bool):Gx n (plain n k):=by
 constructor
 .intro s hs;simp[plain]at hs;rcases hs with⟨a,h,rfl⟩|⟨a,h,rfl⟩|rfl|⟨a,h,rfl⟩
  .exact⟨by decide,h⟩
  .exact⟨by decide,h⟩
  .trivial
  .exact⟨by decide,h⟩
 .have f:∀w:Nat,((DT n).map (Ck.ac w)).filter Ck.act=(DT n).map (Ck.ac w):=λw=>List.filter_eq_self.mpr λs hs=>by
    obtain⟨a,_,rfl⟩:=List.mem_map.mp hs;rfl
  have B6:∀w:Nat,((DT n).map (Ck.ac w)).Nodup:=λw=>nodup_map_on (λa _ b _ e=>by cases e;rfl) j3;simp only[plain,List.filter_append,f];simp only[Ck.act,List.filter_cons,List.filter_nil,JM,if_false,LY];rw[jC,jC];refine⟨⟨B6 0,B6 1,λa A1 b J e=>?_⟩,B6 2,λa A1 b J e=>?_⟩
  .obtain⟨x,_,rfl⟩:=List.mem_map.mp A1;obtain⟨y,_,rfl⟩:=List.mem_map.mp J;cases e
  .obtain⟨y,_,rfl⟩:=List.mem_map.mp J;rcases List.mem_append.mp A1 with A1|A1
   .obtain⟨x,_,rfl⟩:=List.mem_map.mp A1;cases e
   .obtain⟨x,_,rfl⟩:=List.mem_map.mp A1;cases e
def abf{a b c:Int}{N:Int}(A1:0<=a/\a<=N)(J:0<=b/\b<=N)(AG:0<=c/\c<=N)(t:Int)(h0:0<=t)(h:t<=4):∃v,(0<=v/\v<=N)/\AO (.lst [.int a,.int b,.int c]) (.int (t-2))=.ok (.int v):=by
 have:t=0\/t=1\/t=2\/t=3\/t=4:=by omega
 rcases this with h|h|h|h|h<;>subst h
 .exact⟨b,J,rfl⟩
 .exact⟨c,AG,rfl⟩
 .exact⟨a,A1,rfl⟩
 .exact⟨b,J,rfl⟩
 .exact⟨c,AG,rfl⟩
def acX(zs:List Int)(n:Nat)(h1:1<=n)(h6:n<=6):∃AK,Gx n AK/\1<=AK.length/\AK.length<=39/\Wl [.lst (zs.map D.int),.int n]=.ok (.o (AK.map DE)):=by
 suffices h:Ends (Wl [.lst (zs.map D.int),.int n]) λb=>∃AK,Gx n AK/\1<=AK.length/\AK.length<=39/\b=.o (AK.map DE)by
  obtain⟨b,e,AK,a,b,c,rfl⟩:=h;exact⟨AK,a,b,c,e⟩
 simp(disch:=first|omega|(simp;done)|(simp;omega)) [Wl,d_];refine Mg n (λi=>DE (.ac 0 i)) (by simp) (by omega) (λk AQ=>by simp[DE,Il]) ?_;refine Mg n (λi=>DE (.ac 1 i)) (by simp) (by omega) (λk AQ=>by simp[DE,Il]) ?_;simp(disch:=first|omega|(simp;done)|(simp;omega));refine Mg n (λi=>DE (.ac 2 i)) (by simp) (by omega) (λk AQ=>by simp[DE,Il]) ?_;simp(disch:=first|omega|(simp;done)|(simp;omega));refine Sh D.int zs (λj ρ=>∃AK s4 s5 G_ Dt Ka,Gx n AK/\1<=AK.length/\AK.length<=39/\ρ=[.AM (.lst (zs.map D.int)),.AM (.int n),.AM (.lst (GJ 0 n)),.DV (AK.map DE),s4,s5,G_,Dt,Ka]) (by simp) ⟨plain n false,.un,.un,.un,.un,.un,acV n false,by rw[plain_len];omega,by rw[plain_len];omega,by simp[plain,DE,wS,Xf]⟩ ?_ ?_
 .rintro j z _ BL ⟨AK,s4,s5,G_,Dt,Ka,ok,Dq,aR,rfl⟩;obtain⟨MK,Cc⟩:=My z 0 (by decide);obtain⟨FS,AD⟩:=My z 1 (by decide);obtain⟨GC,AR⟩:=My z 2 (by decide);have dI:G8 [.int z,.int 0]=.ok (.v (.int MK)):=Cc;have Fu:G8 [.int z,.int 1]=.ok (.v (.int FS)):=AD;have wD:G8 [.int z,.int 2]=.ok (.v (.int GC)):=AR;obtain⟨k,AQ,GX⟩:=ME MK (n:=AK.length) (by omega);obtain⟨t,BB,Nf⟩:=ME FS (n:=6) (by decide);have vJ:FS%6=(t:Int):=Nf;simp(disch:=first|omega|(simp;done)|(simp;omega)) [dI,Fu,GX,vJ];have BP:(if t=0 then R.ok (decide ((1:Int)<(AK.length:Int)))else R.ok false)=R.ok (decide (t=0/\1<AK.length)):=by
   by_cases h:t=0<;>simp[h]<;>omega
  have Ce:(if(t:Int)=1 then R.ok (decide ((AK.length:Int)<39))else R.ok false)=R.ok (decide (t=1/\AK.length<39)):=by
   by_cases h:t=1
   .simp[h];omega
   .simp[h,show¬(t:Int)=1 by omega]
  have P:=eu DE (i:=3) AQ (by omega);have le:(AK.eraseIdx k).length=AK.length-1:=by simp[ir,AQ]
  rw[BP];by_cases A:t=0/\1<AK.length
  .simp[A,P];exact⟨AK.eraseIdx k,ok.erase,by omega,by omega,rfl⟩
  .rw[decide_eq_false A,EN,Ce];simp;by_cases B:t=1/\AK.length<39
   .have Q:=nq DE (i:=3) (l:=AK) (v:=(k:Int)) (by omega) (by omega) (by omega) (.Fx false) (.tup [.str (As "wait")]) rfl;simp[B,Q];exact⟨Qk AK k (.Fx false),ok.Fx.perm (fV _ _ _).symm,by rw[Yp];omega,by rw[Yp];omega,rfl⟩
   .rw[if_neg B];by_cases C:(t:Int)<5
    .simp only[C,if_true,P,EN];have ahp:=QI GC (b:=((AK.length-1:Nat):Int)+1) (by omega);have ahq:=Ru GC (b:=((AK.length-1:Nat):Int)+1) (by omega);obtain⟨v,Be,ev⟩:=abf (a:=(k:Int)+1) (b:=if(1:Int)<(k:Int)then(k:Int)-1 else 0) (c:=GC%(((AK.length-1:Nat):Int)+1)) (N:=100) (by omega) (by split<;>omega) (by omega) (t:Int) (by omega) (by omega);have Q:=nq DE (i:=3) (l:=AK.eraseIdx k) (v:=v) Be.1 (by omega) (by omega) AK[k] (DE AK[k]) rfl;simp(disch:=first|omega|(simp;done)|(simp;omega)) [wD,le,ev,Q];refine⟨Qk (AK.eraseIdx k) v.toNat AK[k],ok.perm ((fV _ _ _).trans (Yy AK k AQ)).symm,by rw[Yp];omega,by rw[Yp];omega,rfl⟩
    .simp only[C,if_false];simp;exact⟨AK,ok,Dq,aR,rfl⟩
 .rintro _ ⟨AK,s4,s5,G_,Dt,Ka,ok,Dq,aR,rfl⟩;simp;exact⟨AK,ok,Dq,aR,rfl⟩
def Su(c:Nat):Prop:=c=48\/c=49\/c=120
structure Iy(x:Str):Prop where
 l:x.cps.toList.length=4
 s:∀c∈x.cps.toList,Su c
def aeG{c:Nat}(h:Su c):inD true (EF c) SX=.ok (.AI true):=by rcases h with h|h|h<;>subst h<;>rfl
def len_str(x:Str)(h:x.cps.toList.length<=1000):CQ [.str x]=.ok (.int (x.cps.toList.length:Int)):=by
 have e:x.length=x.cps.toList.length:=rfl;have AR:x.length<=1000000:=by omega
 rw[<-e];simp only[CQ,if_pos AR]
def yC(x:Str):Cp "str" (.str x)=.ok (.AI true):=rfl
def yD(l:List D):Cp "tuple" (.tup l)=.ok (.AI true):=rfl
def agF:CQ [PL]=.ok (.int 4):=rfl
def Sy{x:Str}(h:Iy x):PV [.str x]=.ok (.v (.AI true)):=by apply Ends.done;have l:=h.l;simp[PV,dM,yC,len_str x (by omega),agF,l];refine L2 EF x.cps.toList (λ_=>.AI true) (by simp) (by omega) (λc AG=>by simp[aeG (h.s c AG)]) ?_;have a:=SK (λ_:Nat=>true) x.cps.toList;simp only[a];simp
structure E5 where
 p:Str
 a:Option Nat
 b:Option Nat
def Ei:Option Nat->D
 |none=>.non
 |some k=>.int (k:Int)
def D5(r:E5):D:=.tup [.str r.p,Ei r.a,Ei r.b]
structure P8(c:Nat)(r:E5):Prop where
 p:Iy r.p
 a:∀k,r.a=some k->k<c
 b:∀k,r.b=some k->k<c
def q6{c:Nat}{o:Option Nat}(h:∀k,o=some k->k<c):PU [Ei o,.int (c:Int)]=.ok (.v (.AI true)):=by
 cases o with
 |none=>simp[PU,ZO,Ei,JV]
 |some k=>have:=h k rfl;simp[PU,ZO,Ei,JV,U2];omega
def ada{c:Nat}{p a b:D}{h1 h2 h3:Bool}(AD:PV [p]=.ok (.v (.AI h1)))(AR:PU [a,.int (c:Int)]=.ok (.v (.AI h2)))(C2:PU [b,.int (c:Int)]=.ok (.v (.AI h3))):T9 [.tup [p,a,b],.int (c:Int)]=.ok (.v (.AI (h1&&h2&&h3))):=by have FR:AO (.tup [p,a,b]) (.int 0)=.ok p:=rfl;have BG:AO (.tup [p,a,b]) (.int 1)=.ok a:=rfl;have BH:AO (.tup [p,a,b]) (.int 2)=.ok b:=rfl;cases h1<;>cases h2<;>cases h3<;>simp[T9,dO,yD,FR,BG,BH,AD,AR,C2]
def ade{c:Nat}{r:E5}(h:P8 c r):T9 [D5 r,.int (c:Int)]=.ok (.v (.AI true)):=ada (Sy h.p) (q6 h.a) (q6 h.b)
def DU(b:List E5):D:=.lst (b.map D5)
structure Sl(c:Nat)(b:List E5):Prop where
 l:b.length<=12
 r:∀r∈b,P8 c r
def v5{c:Nat}{l:List D}{f:D->Bool}(AF:l.length<=12)(h:∀d∈l,T9 [d,.int (c:Int)]=.ok (.v (.AI (f d)))):T8 [.lst l,.int (c:Int)]=.ok (.v (.AI (l.all f))):=by apply Ends.done;simp[T8,cM,fY,SV,show¬((12:Int)<l.length)by omega];refine L2 id l (λd=>.AI (f d)) (by simp) (by omega) (λd hd=>by simp[h d hd]) ?_;have a:=SK f l;simp[a]
def v7{c:Nat}{b:List E5}(h:Sl c b):T8 [DU b,.int (c:Int)]=.ok (.v (.AI true)):=by
 have:=v5 (c:=c) (l:=b.map D5) (f:=λ_=>true) (by simpa using h.l) λd hd=>by obtain⟨r,A6,rfl⟩:=List.mem_map.mp hd;exact ade (h.r r A6)
 unfold DU;rw[this];simp
def kB(cs:List Nat)(ws:List (AP×AP)):Fv "Net" "counts" (CM cs ws)=.ok (.tup (Bh cs)):=rfl
def hN(cs:List Nat)(ws:List (AP×AP)):MY "Net" "count" (CM cs ws)=.ok (CM cs ws):=rfl
def dH{cs:List Nat}{ws:List (AP×AP)}{h:Nat}(BN:h<cs.length):T6 [CM cs ws,.int (h:Int)]=.ok (.v (.int (cs.getD h 0:Nat))):=by have e:AO (.tup (Bh cs)) (.int (h:Int))=.ok (.int (cs.getD h 0:Nat)):=nR (Z_ BN);simp only[Gq]at e |-;simp[T6,cL,TM,kB,e,BN]
def v8{cs:List Nat}{ws:List (AP×AP)}{l:List D}{f:D×Nat->Bool}(AF:l.length=cs.length)(h6:cs.length<=6)(h:∀p∈l.zipIdx,T8 [p.1,.int (cs.getD p.2 0:Nat)]=.ok (.v (.AI (f p)))):Qs [.lst l,CM cs ws]=.ok (.v (.AI (l.zipIdx.all f))):=by
 apply Ends.done;simp[Qs,dJ,fY,TM,AF];have L1:=eS id l;rw[List.map_id]at L1;refine RN (λp:D×Nat=>.int (p.2:Int)) (λp=>p.1) l.zipIdx (λp=>.AI (f p)) (by simp only[iP,bI,v_var,X0];simp[L1]) (by simp;omega) (λp Am=>?_) ?_
 .have:=(List.getElem?_eq_some_iff.mp (iF Am)).1;have AG:=dH (cs:=cs) (ws:=ws) (h:=p.2) (by omega);have J:=h p Am;simp only[Gq]at AG J;simp[hN,AG,J]
 .have a:=SK f l.zipIdx;simp[a]
structure MG(cs:List Nat)(bs:List (List E5)):Prop where
 l:bs.length=cs.length
 b:∀(i:Nat) b,bs[i]?=some b->Sl (cs.getD i 0) b
def vA{cs:List Nat}{ws:List (AP×AP)}{bs:List (List E5)}(h6:cs.length<=6)(h:MG cs bs):Qs [.lst (bs.map DU),CM cs ws]=.ok (.v (.AI true)):=by
 have:=v8 (ws:=ws) (l:=bs.map DU) (f:=λ_=>true) (by simpa using h.l) h6 λp Am=>by
  have e:=iF Am;rw[Fl]at e;cases BC:bs[p.2]? with
  |none=>rw[BC]at e;cases e
  |some b=>rw[BC]at e;rw[<-EH (show some (DU b)=some p.1 from e)];exact v7 (h.b _ _ BC)
 rw[this];simp
@[simp] theorem ajP(m n:AX)(ρ:AH):Wb m n ρ=(m ρ).bind λd=>match d with
  |.B5 A_ ds=>(n ρ).bind λk=>match Q0 k with
   |some CW=>.ok ((findD A_ ds CW).getD .non)
   |none=>.bad
  |_=>.bad:=(rfl)
@[simp] theorem sP(e:AX)(ρ:AH):KU e ρ=(e (F_ ρ)).bind λd=>.ok (.Ed d):=by unfold KU;rfl
def kp(i:Int):Qr [.int i]=.ok (.v (.AI (decide (0<=i)&&decide (i<=15)))):=by simp[Qr,bx,U2,SR]
def ZV(a w:Nat):Nat:=48+a/w%2
def Z2(p:Str)(a:Nat):Bool:=(p.cps.toList.zip [8,4,2,1]).all λq=>decide (q.1=120\/q.1=ZV a q.2)
def afN(b:Nat)(h:b=0\/b=1):Jd [.int (b:Int)]=.ok (.str ⟨#[48+b]⟩):=by rcases h with rfl|rfl<;>rfl
def sign_eq(c d:Nat):D1 (.str ⟨#[d]⟩) (EF c)=decide (c=d):=by show D1 (.str ⟨#[d]⟩) (.str ⟨#[c]⟩)=_;simp only[D1];rw[Rh,beq_iff_eq,decide_eq_true_iff];simp;exact eq_comm
def afO:As "x"=⟨#[120]⟩:=by decide
def yU(c d:Nat):inD true (EF c) (.tup [.str (As "x"),.str ⟨#[d]⟩])=.ok (.AI (decide (c=120\/c=d))):=by have o:okN 7 (EF c)=true:=rfl;have CY:okN 7 (.str (As "x"))=true:=rfl;have CN:okN 7 (.str ⟨#[d]⟩)=true:=rfl;have s:WQ (.tup [.str (As "x"),.str ⟨#[d]⟩])=some [.str (As "x"),.str ⟨#[d]⟩]:=rfl;simp only[inD,s,o,CY,CN,Ry,List.all_nil,jS,and_self,if_true,QG,List.any_nil,Bool.or_false];rw[afO,sign_eq,sign_eq];simp
def vt{p:Str}(Am:Iy p){a:Nat}(A1:a<16):T7 [.str p,.int (a:Int)]=.ok (.v (.AI (Z2 p a))):=by
 apply Ends.done;have l:=Am.l;simp[T7,bw,Sy Am,kp,show(a:Int)<=15 by omega];refine RN (λq:Nat×Nat=>EF q.1) (λq=>.int (q.2:Int)) (p.cps.toList.zip [8,4,2,1]) (λq=>.AI (decide (q.1=120\/q.1=ZV a q.2))) ?_ (by simp;omega) (λq Ab=>?_) ?_
 .show R.ok (Rc p.cps.toList [.int 8,.int 4,.int 2,.int 1])=_;unfold Rc;rw[show([.int 8,.int 4,.int 2,.int 1]:List D)=([8,4,2,1]:List Nat).map λ(n:Nat)=>D.int (n:Int)from rfl,List.zip_map_right,Kj];rfl
 .have hw:q.2=8\/q.2=4\/q.2=2\/q.2=1:=by
    have:=(UN (show(q.1,q.2)∈_ from Ab)).2;simpa using this
  have Et:Jd [.int ((a:Int)/(q.2:Int)%2)]=.ok (.str ⟨#[48+a/q.2%2]⟩):=by have:=afN (a/q.2%2) (by omega);rw[<-this];simp
  simp(disch:=first|omega|(simp;done)|(simp;omega)) [Et,yU,ZV];rw[Rh];simp;exact decide_eq_true_iff.symm
 .have al:=SK (λq:Nat×Nat=>decide (q.1=120\/q.1=ZV a q.2)) (p.cps.toList.zip [8,4,2,1]);simp only[al];simp[Z2]
def mt(d a:Nat)(r:E5):Bool:=(r.a.isNone||r.a==some d)&&Z2 r.p a
def yg(o:Option Nat):JV (Ei o)=o.isNone:=by cases o<;>rfl
def vn(o:Option Nat)(d:Nat):Bz true (Ei o) (.int (d:Int))=.ok (.AI (o==some d)):=by
 cases o with
 |none=>rfl
 |some k=>
  show R.ok (D.AI ((k:Int)==(d:Int)))=_
  congr 2
  rw[Rh];simp;omega
def agR(mi:Al)(set:D->AH->R AH)(body:Ay)(ρ:AH):G7 mi set body ρ=(mi ρ).bind λds=>IB set body ds ρ:=(rfl)
def Lm(d a:Nat):Nat->List E5->Option Nat
 |_,[]=>none
 |i,r::rs=>if mt d a r=true then some i else Lm d a (i+1) rs
theorem sD{d a:Nat}(A1:a<16):∀(rs:List E5)(i:Nat)(s0 s3 s4:DG),(∀r∈rs,Iy r.p)->
  Ends ((IB (F6 [BI 3,BI 4]) (C4 (LF (EL (B2 (A9 (H6 true) (A9 AO (Z 4) (A7 (.int 1))) (A7 .non))) (B2 (A9 (Bz true) (A9 AO (Z 4) (A7 (.int 1))) (Z 1)))) (B2 (Au 2 T7 (A0 (A9 AO (Z 4) (A7 (.int 0))) (A0 (Z 2) (AB)))))) (Bc (Z 3)) (CI)) ((rs.zipIdx i).map λp=>.tup [.int (p.2:Int),D5 p.1]) [s0,.AM (.int (d:Int)),.AM (.int (a:Int)),s3,s4]).bind (Q_ (Bc (A7 .non)))) (· =.Ed (Ei (Lm d a i rs)))
 |[],i,s0,s3,s4,_=>by simp[Lm,Ei]
 |r::rs,i,s0,s3,s4,h=>by
  have FR:AO (D5 r) (.int 0)=.ok (.str r.p):=rfl;have BG:AO (D5 r) (.int 1)=.ok (Ei r.a):=rfl;have Br:=sD (d:=d) A1 rs (i+1) s0 (.AM (.int (i:Int))) (.AM (D5 r)) λx AA=>h x (En _ AA);have f:=vt (h r IM) A1;have bd:(C4 (LF (EL (B2 (A9 (H6 true) (A9 AO (Z 4) (A7 (.int 1))) (A7 .non))) (B2 (A9 (Bz true) (A9 AO (Z 4) (A7 (.int 1))) (Z 1)))) (B2 (Au 2 T7 (A0 (A9 AO (Z 4) (A7 (.int 0))) (A0 (Z 2) (AB)))))) (Bc (Z 3)) (CI)) [s0,.AM (.int (d:Int)),.AM (.int (a:Int)),.AM (.int (i:Int)),.AM (D5 r)]=if mt d a r=true then .ok (.Ed (.int (i:Int)))else .ok (.Bb [s0,.AM (.int (d:Int)),.AM (.int (a:Int)),.AM (.int (i:Int)),.AM (D5 r)]):=by unfold mt;have Aa:=yg r.a;have B0:=vn r.a d;generalize r.a.isNone=EE at Aa |-;generalize(r.a==some d)=DZ at B0 |-;generalize Z2 r.p a=Kv at f |-;cases EE<;>cases DZ<;>cases Kv<;>simp[FR,BG,Aa,B0,f]
  rw[j2,EU,IB];simp only[aeC,ae9,aeA,agT,Eo,MO,EN];simp only[show(3:Nat)<0+1+1+1+1+1 by decide,if_true,EN,List.set_cons_succ,List.set_cons_zero,Eo,MO,show(4:Nat)<0+1+1+1+1+1 by decide,bd];cases hm:mt d a r with
  |true=>simp[Lm,hm,Ei]
  |false=>simp only[JM,if_false,EN,Lm,hm];exact Br
def agm{b:List E5}(J:∀r∈b,Iy r.p)(d a:Nat)(A1:a<16):Zv [DU b,.int (d:Int),.int (a:Int)]=.ok (.v (Ei (Lm d a 0 b))):=by apply Ends.done;have e:RO [DU b]=.ok (b.zipIdx.map λp=>.tup [.int (p.2:Int),D5 p.1]):=eS D5 b;have k:=sD (d:=d) A1 b 0 (.AM (DU b)) .un .un J;obtain⟨f,hf,rfl⟩:=k;simp only[Zv,agP,d0,iR,agR,iP,bI,v_var,X0];have z:bP (LB 5 [DU b,.int (d:Int),.int (a:Int)])[0]?=.ok (DU b):=rfl;simp only[z,EN,e];have Co:LB 5 [DU b,.int (d:Int),.int (a:Int)]=[.AM (DU b),.AM (.int (d:Int)),.AM (.int (a:Int)),.un,.un]:=rfl;rw[Co,hf];simp
def st(s:String):D:=.str (As s)
inductive On where
 |drop|out (o:Nat)|to (e:AP)
def pairsOf(ws:List (AP×AP)):List (AP×AP):=ws.flatMap λw=>[(w.1,w.2),(w.2,w.1)]
def PI(ws:List (AP×AP))(d:AP):Option AP:=((pairsOf ws).find? λp=>decide (p.1=d)).map (·.2)
theorem si:∀ws:List (AP×AP),(E9 ws).zip (EG ws)=(pairsOf ws).map λp=>(Hg p.1,BD p.2)
 |[]=>rfl
 |w::ws=>by
  have Br:=si ws;have AD:E9 (w::ws)=Hg w.1::Hg w.2::E9 ws:=by simp[E9,ends]
  have AR:EG (w::ws)=BD w.2::BD w.1::EG ws:=by simp[EG]
  have C2:pairsOf (w::ws)=(w.1,w.2)::(w.2,w.1)::pairsOf ws:=by simp[pairsOf]
  rw[AD,AR,C2,Xp,Xp,Br];rfl
def vS(AK:List (AP×AP))(d:AP):((AK.map λp=>(Hg p.1,BD p.2)).find? λp=>decide (p.1=Hg d))=(AK.find? λp=>decide (p.1=d)).map λp=>(Hg p.1,BD p.2):=by
 induction AK with
 |nil=>rfl
 |cons p AK Br=>
  rw[EU,MN,MN];by_cases h:p.1=d
  .simp[h]
  .have:Hg p.1≠Hg d:=λz=>h (fa z);simp[h,this,Br]
def vR(ws:List (AP×AP))(d:AP):findD (E9 ws) (EG ws) (Hg d)=(PI ws d).map BD:=by unfold findD PI;rw[si,vS,Option.map_map,Option.map_map];rfl
def kO{ws:List (AP×AP)}{d e:AP}(h:PI ws d=some e):e∈ends ws:=by
 unfold PI at h;obtain⟨p,Am,rfl⟩:=Option.map_eq_some_iff.mp h;have hm:=List.mem_of_find?_eq_some Am;unfold pairsOf at hm;obtain⟨w,hw,BL⟩:=List.mem_flatMap.mp hm;have o5:∀x,x=w.1\/x=w.2->x∈ends ws:=λx AA=>List.mem_flatten.mpr ⟨[w.1,w.2],List.mem_map.mpr ⟨w,hw,rfl⟩,by simpa using AA⟩;simp only[Fz,FW,or_false]at BL;rcases BL with rfl|rfl
 .exact o5 _ (.inr rfl)
 .exact o5 _ (.inl rfl)
def JB(h:Nat):On->D
 |.drop=>.tup [st "drop",.int (h:Int)]
 |.out o=>.tup [st "out",.int (h:Int),.int (o:Int)]
 |.to e=>.tup [st "at",.int (e.1:Int),.int (e.2:Int)]
noncomputable def Bb(ws:List (AP×AP))(b:List E5)(h d a:Nat):On:=match Lm d a 0 b with
 |none=>.drop
 |some i=>match(b[i]?).bind (·.b)with
  |none=>.drop
  |some o=>match PI ws (h,o)with
   |none=>.out o
   |some e=>.to e
theorem sC{d a:Nat}:∀(rs:List E5)(i k:Nat),Lm d a i rs=some k->i<=k/\k<i+rs.length
 |[],_,_,h=>by simp[Lm]at h
 |r::rs,i,k,h=>by
  simp only[Lm]at h
  split at h
  .cases h;simp
  .have:=sC rs (i+1) k h;simp;omega
def mc(cs:List Nat)(ws:List (AP×AP)):Fv "Net" "far" (CM cs ws)=.ok (.B5 (E9 ws) (EG ws)):=rfl
def rK(cs:List Nat)(ws:List (AP×AP)):MY "Net" "beyond" (CM cs ws)=.ok (CM cs ws):=rfl
def ux(cs:List Nat)(ws:List (AP×AP))(d:AP):Wg [CM cs ws,BD d]=.ok (.v (((PI ws d).map BD).getD .non)):=by simp[Wg,cK,mc,Tc,vR]
def abY{cs:List Nat}{ws:List (AP×AP)}{b:List E5}(J:∀r∈b,Iy r.p)(h d a:Nat)(A1:a<16):NT [CM cs ws,DU b,BD (h,d),.int (a:Int)]=.ok (.v (JB h (Bb ws b h d a))):=by
 have FR:AO (BD (h,d)) (.int 0)=.ok (.int (h:Int)):=rfl;have BG:AO (BD (h,d)) (.int 1)=.ok (.int (d:Int)):=rfl;have C8:=agm J d a A1;have kU:∀o:Nat,Wg [CM cs ws,.tup [.int (h:Int),.int (o:Int)]]=.ok (.v (((PI ws (h,o)).map BD).getD .non)):=λo=>ux cs ws (h,o);have a4:JV .non=true:=rfl;have DD:∀i,JV (.int i)=false:=λ_=>rfl;unfold Bb;cases e:Lm d a 0 b with
 |none=>simp[NT,SP,FR,BG,C8,e,Ei,a4,DD,JB,st]
 |some i=>
  have AC:=sC b 0 i e;have o8:i<b.length:=by omega
  have Qj:AO (DU b) (.int (i:Int))=.ok (D5 b[i]):=Mq (by simp[o8]);have BH:AO (D5 b[i]) (.int 2)=.ok (Ei b[i].b):=rfl;simp only[Dw o8,Option.bind_some];cases BC:b[i].b with
  |none=>simp[NT,SP,FR,BG,C8,e,Ei,a4,DD,JB,st,Qj,BH,BC]
  |some o=>
   have ZW:=kU o;cases EK:PI ws (h,o)with
   |none=>rw[EK]at ZW;simp[NT,SP,FR,BG,C8,e,Ei,a4,DD,JB,st,Qj,BH,BC,rK,ZW,EK]
   |some f=>rw[EK]at ZW;have f0:AO (BD f) (.int 0)=.ok (.int (f.1:Int)):=rfl;have f1:AO (BD f) (.int 1)=.ok (.int (f.2:Int)):=rfl;have Ii:JV (BD f)=false:=rfl;simp[NT,SP,FR,BG,C8,e,Ei,a4,DD,JB,st,Qj,BH,BC,rK,ZW,EK,f0,f1,Ii]
inductive Sn where
 |drop (h:Nat)|out (h o:Nat)|ring (d:AP)
noncomputable def walk(N:AP->On):Nat->List AP->AP->Option (List AP×Sn)
 |0,_,_=>none
 |n+1,ds,d=>if d∈ds then some (ds,.ring d)else match N d with
  |.to e=>walk N n (ds++[d]) e
  |.drop=>some (ds++[d],.drop d.1)
  |.out o=>some (ds++[d],.out d.1 o)
theorem rd{N:AP->On}{A:List AP}(H4:A.length<100)(cl:∀d∈A,∀e,N d=.to e->e∈A):∀(n:Nat)(ds:List AP)(d:AP),ds.Nodup->(∀x∈ds,x∈A)->d∈A->101<=n+ds.length->∃r,walk N n ds d=some r
 |0,ds,d,B6,Et,_,h=>by have:=sm B6 Et;omega
 |n+1,ds,d,B6,Et,hd,h=>by
  simp only[walk];by_cases hm:d∈ds
  .rw[if_pos hm];exact⟨_,rfl⟩
  .rw[if_neg hm];cases e:N d with
   |drop=>exact⟨_,rfl⟩
   |out o=>exact⟨_,rfl⟩
   |to f=>
    have WB:(ds++[d]).Nodup:=List.nodup_append.mpr ⟨B6,by simp,λx AA y BO z=>hm (by rw[<-List.mem_singleton.mp BO,<-z];exact AA)⟩;have aen:∀x∈ds++[d],x∈A:=λx AA=>by
     rcases List.mem_append.mp AA with h|h
     .exact Et x h
     .rw[List.mem_singleton.mp h];exact hd
    exact rd H4 cl n (ds++[d]) f WB aen (cl d hd f e) (by simp;omega)
def ck(a b:AP):D1 (BD a) (BD b)=decide (a=b):=by
 show(((a.1:Int)==(b.1:Int))&&(((a.2:Int)==(b.2:Int))&&true))=_;rw[jS,Rh,HT,beq_iff_eq,beq_iff_eq,decide_eq_true_iff];constructor
 .intro⟨h1,h2⟩;exact Prod.ext (by omega) (by omega)
 .rintro rfl;exact⟨rfl,rfl⟩
def lv(ds:List AP):(ds.map BD).all (okN 7)=true:=by rw[YB,UL];intro d _;rfl
def t_(ds:List AP)(d:AP):((ds.map BD).any λy=>D1 y (BD d))=decide (d∈ds):=by
 rw[List.any_map,Rh,List.any_eq_true,decide_eq_true_iff];constructor
 .rintro⟨x,AA,h⟩;have:=(ck x d).symm.trans h;rw[decide_eq_true_iff]at this;rw[<-this];exact AA
 .intro h;exact⟨d,h,by show D1 (BD d) (BD d)=true;rw[ck];simp⟩
def oW{m1 m2:AX}{ρ:AH}{ds:List AP}{d:AP}(h1:m1 ρ=.ok (BD d))(h2:m2 ρ=.ok (.lst (ds.map BD))):B2 (A9 (inD false) m1 m2) ρ=.ok (!decide (d∈ds)):=by refine Th (d8 h1 h2 ?_);have s:WQ (.lst (ds.map BD))=some (ds.map BD):=rfl;have o:okN 7 (BD d)=true:=rfl;simp only[inD,s,lv,o,and_self,if_true,t_];rfl
def idx(ds:List AP)(d:AP):Nat:=(ds.findIdx? λx=>decide (x=d)).getD 0
def yV{m1 m2:AX}{ρ:AH}{ds:List AP}{d:AP}(h2:m2 ρ=.ok (.lst (ds.map BD)))(h1:m1 ρ=.ok (BD d))(hm:d∈ds)(AF:ds.length<1000):T1 m2 (A0 m1 AB) ρ=.ok (.int (idx ds d:Nat)):=by
 have f:(ds.map BD).findIdx? (λz=>D1 z (BD d))=ds.findIdx? (λx=>decide (x=d)):=by
  rw[List.findIdx?_map]
  congr 1
  funext x
  exact ck x d
 have g:∃j,ds.findIdx? (λx=>decide (x=d))=some j:=by
  cases e:ds.findIdx? (λx=>decide (x=d))with
  |some j=>exact⟨j,rfl⟩
  |none=>exact absurd (List.findIdx?_eq_none_iff.mp e d hm) (by simp)
 obtain⟨j,g⟩:=g;have o:okN 7 (BD d)=true:=rfl;have l:(ds.map BD).length<1000000:=by rw[Gp];omega
 rw[T1,h2,FZ];simp only[show A0 m1 AB ρ=.ok [BD d]by simp[h1],FZ,eL,o,lv,l,and_self,if_true,f,g,idx,Rm]
def Sg(ds:List AP):Sn->D
 |.drop h=>.tup [st "drop",.int (h:Nat)]
 |.out h o=>.tup [st "out",.int (h:Nat),.int (o:Nat)]
 |.ring d=>.tup [st "ring",.int (idx ds d:Nat)]
def Mb(r:List AP×Sn):D:=.tup [.lst (r.1.map BD),Sg r.1 r.2]
def ah:C9:=KQ (B2 (A9 (inD false) (Z 2) (Z 4)))
noncomputable def X2:Ay:=(Aq (KP 4 (Z 2))
    (Aq (Cg 5 (Au 4 NT (A0 (Z 0) (A0 (A9 AO (Z 1) (A9 AO (Z 2) (A7 (.int 0)))) (A0 (Z 2) (A0 (Z 3) (AB)))))))
    (Aq (C4 (B2 (A9 (Bz false) (A9 AO (Z 5) (A7 (.int 0))) (A7 (.str (As "at"))))) (KU (Db (A0 (Z 4) (A0 (Z 5) (AB))))) (CI))
    (Cg 2 (Db (A0 (A9 AO (Z 5) (A7 (.int 1))) (A0 (A9 AO (Z 5) (A7 (.int 2))) (AB))))))))
def ai:Ay:=(KU (Db (A0 (Z 4) (A0 (Db (A0 (A7 (.str (As "ring"))) (A0 (T1 (Z 4) (A0 (Z 2) (AB))) (AB)))) (AB)))))
def OB(X Y:D)(d:AP)(a:Nat)(ds:List AP)(s5:DG):AH:=[.AM X,.AM Y,.AM (BD d),.AM (.int (a:Int)),.DV (ds.map BD),s5]
def ri(X Y:D)(d:AP)(a:Nat)(ds:List AP)(s5:DG):ah (OB X Y d a ds s5)=.ok (!decide (d∈ds)):=oW rfl rfl
structure YQ(cs:List Nat)(bs:List (List E5)):Prop where
 l:bs.length=cs.length
 p:∀b∈bs,∀r∈b,Iy r.p
def Kp(ws:List (AP×AP))(bs:List (List E5))(a:Nat)(d:AP):On:=Bb ws (bs.getD d.1 []) d.1 d.2 a
def p0(s:String)(h:(As s==As "at")=false):Bz false (st s) (.str (As "at"))=.ok (.AI true):=by show R.ok (D.AI (!(As s==As "at")))=_;rw[h];rfl
def agD{cs:List Nat}{ws:List (AP×AP)}{bs:List (List E5)}(J:YQ cs bs){d:AP}(hd:d.1<cs.length){a:Nat}(A1:a<16)(ds:List AP)(AF:ds.length<1000)(s5:DG) :
  X2 (OB (CM cs ws) (.lst (bs.map DU)) d a ds s5)=match Kp ws bs a d with
   |.to e=>.ok (.Bb (OB (CM cs ws) (.lst (bs.map DU)) e a (ds++[d]) (.AM (JB d.1 (.to e)))))
   |o=>.ok (.Ed (.tup [.lst ((ds++[d]).map BD),JB d.1 o])):=by
 have FR:AO (BD d) (.int 0)=.ok (.int (d.1:Int)):=rfl;have JS:d.1<bs.length:=by rw[J.l];exact hd
 have eg:bs.getD d.1 []=bs[d.1]:=by simp[JS]
 have Qj:AO (.lst (bs.map DU)) (.int (d.1:Int))=.ok (DU (bs.getD d.1 [])):=by rw[eg];exact Mq (by simp[JS])
 have on:=abY (cs:=cs) (ws:=ws) (b:=bs.getD d.1 []) (λr A6=>J.p bs[d.1] (UM _) r (by rw[<-eg];exact A6)) d.1 d.2 a A1;have fL:NT [CM cs ws,DU (bs.getD d.1 []),BD d,.int (a:Int)]=.ok (.v (JB d.1 (Kp ws bs a d))):=on;have Q1:(ds.map BD).length<1000000:=by simp;omega
 generalize bs.getD d.1 []=Uc at*;generalize Kp ws bs a d=o at*;simp only[X2,OB];cases o with
 |drop=>have Cc:AO (JB d.1 .drop) (.int 0)=.ok (st "drop"):=rfl;have n:=p0 "drop" (by decide);simp(disch:=first|omega|(simp;done)|(simp;omega)) [FR,Qj,fL,Cc,n]
 |out o=>have Cc:AO (JB d.1 (.out o)) (.int 0)=.ok (st "out"):=rfl;have n:=p0 "out" (by decide);simp(disch:=first|omega|(simp;done)|(simp;omega)) [FR,Qj,fL,Cc,n]
 |to e=>have Cc:AO (JB d.1 (.to e)) (.int 0)=.ok (st "at"):=rfl;have AD:AO (JB d.1 (.to e)) (.int 1)=.ok (.int (e.1:Int)):=rfl;have AR:AO (JB d.1 (.to e)) (.int 2)=.ok (.int (e.2:Int)):=rfl;have n:Bz false (st "at") (.str (As "at"))=.ok (.AI false):=rfl;simp(disch:=first|omega|(simp;done)|(simp;omega)) [FR,Qj,fL,Cc,AD,AR,n];rfl
theorem rj{cs:List Nat}{ws:List (AP×AP)}{bs:List (List E5)}(Bi:Eh cs ws)(J:YQ cs bs){a:Nat}(A1:a<16):∀(n:Nat)(ds:List AP)(d:AP)(s5:DG)(r:List AP×Sn),d.1<cs.length->ds.length+n<1001->walk (Kp ws bs a) n ds d=some r->
  (Kd ah X2 n (OB (CM cs ws) (.lst (bs.map DU)) d a ds s5)).bind (Q_ ai)=.ok (.Ed (Mb r))
 |0,ds,d,s5,r,_,_,h=>by simp[walk]at h
 |n+1,ds,d,s5,r,hd,AF,h=>by
  simp only[walk]at h;by_cases hm:d∈ds
  .rw[if_pos hm]at h;obtain rfl:=EH h;rw[Kd,ri,EN,decide_eq_true hm];have i:=yV (m1:=Z 2) (m2:=Z 4) (ρ:=F_ (OB (CM cs ws) (.lst (bs.map DU)) d a ds s5)) (ds:=ds) (d:=d) rfl rfl hm (by omega);have v4:Z 4 (F_ (OB (CM cs ws) (.lst (bs.map DU)) d a ds s5))=.ok (.lst (ds.map BD)):=rfl;simp only[UP,JM,if_false,EN,qk];simp only[ai,sP,agU,bI,X0,agO,i,v4,EN,Wv,Eo,MO];simp[Mb,Sg,st]
  .rw[if_neg hm]at h;rw[Kd,ri,EN,decide_eq_false hm];have b:=agD (ws:=ws) J hd A1 ds (by omega) s5;simp only[jQ,if_true,b];cases e:Kp ws bs a d with
   |drop=>rw[e]at h;obtain rfl:=EH h;simp[Mb,Sg,JB]
   |out o=>rw[e]at h;obtain rfl:=EH h;simp[Mb,Sg,JB]
   |to f=>
    rw[e]at h;simp only[EN];have hf:f∈ends ws:=by
     unfold Kp Bb at e
     split at e
     .cases e
     .split at e
      .cases e
      .split at e
       .cases e
       .rename_i EK;cases e;exact kO EK
    exact rj Bi J A1 n (ds++[d]) f _ r (TN.mp (Bi.sub f hf)).1 (by simp;omega) h
def q8{cs:List Nat}{ws:List (AP×AP)}{bs:List (List E5)}{a:Nat}(Bi:Eh cs ws){d f:AP}(e:Kp ws bs a d=.to f):f∈DP cs cs.length:=by
 unfold Kp Bb at e
 split at e
 .cases e
 .split at e
  .cases e
  .split at e
   .cases e
   .rename_i EK;cases e;exact Bi.sub _ (kO EK)
def agd{cs:List Nat}{ws:List (AP×AP)}{bs:List (List E5)}(Bi:Eh cs ws)(J:YQ cs bs){a:Nat}(A1:a<16){d:AP}(hd:d∈DP cs cs.length):∃r,walk (Kp ws bs a) 1000 [] d=some r/\W4 [CM cs ws,.lst (bs.map DU),BD d,.int (a:Int)]=.ok (.v (Mb r)):=by have H4:=SJ Bi.c cs.length;have h6:=Bi.h6;obtain⟨r,A6⟩:=rd (N:=Kp ws bs a) (A:=DP cs cs.length) (by omega) (λd _ e he=>q8 Bi he) 1000 [] d QJ (by simp) hd (by simp);refine⟨r,A6,?_⟩;have k:=rj Bi J A1 1000 [] d .un r (TN.mp hd).1 (by simp) A6;have z:W4 [CM cs ws,.lst (bs.map DU),BD d,.int (a:Int)]=(Aq (GI 4 (E0 AB)) (Aq (Qp ah X2) ai) [.AM (CM cs ws),.AM (.lst (bs.map DU)),.AM (BD d),.AM (.int (a:Int)),.un,.un]).bind outD:=rfl;rw[z];simp only[iR,agS,sN,X0,EN];have fo:lim []=.ok []:=rfl;simp only[fo,EN];have Co:(Qp ah X2 (OB (CM cs ws) (.lst (bs.map DU)) d a [] .un)).bind (Q_ ai)=.ok (.Ed (Mb r)):=k;have Ji:([.AM (CM cs ws),.AM (.lst (bs.map DU)),.AM (BD d),.AM (.int (a:Int)),.un,.un]:AH).set 4 (.DV [])=OB (CM cs ws) (.lst (bs.map DU)) d a [] .un:=rfl;simp only[show(4:Nat)<([.AM (CM cs ws),.AM (.lst (bs.map DU)),.AM (BD d),.AM (.int (a:Int)),.un,.un]:AH).length from(by simp),if_true,EN,qk,iR,Ji,Co];rfl
@[simp] theorem ajZ(sep:Str)(m:Al)(ρ:AH):LH sep m ρ=(m ρ).bind (M8 sep):=(rfl)
def aJ(a b c d:Nat):M8 (As "") [.lst [EF a,EF b,EF c,EF d]]=.ok (.str ⟨#[a,b,c,d]⟩):=rfl
def Zj(y:Int):∃c,Su c/\AO (.str (As "01xxx")) (.int (y%5))=.ok (EF c):=by
 have h:y%5=0\/y%5=1\/y%5=2\/y%5=3\/y%5=4:=by omega
 rcases h with h|h|h|h|h<;>rw[h]
 .exact⟨48,.inl rfl,rfl⟩
 .exact⟨49,.inr (.inl rfl),rfl⟩
 .exact⟨120,.inr (.inr rfl),rfl⟩
 .exact⟨120,.inr (.inr rfl),rfl⟩
 .exact⟨120,.inr (.inr rfl),rfl⟩
def adb(ys:List Int)(BO:ys.length=8)(c:Nat)(AG:1<=c):∃r,P8 c r/\Qy [.lst (ys.map D.int),.int (c:Int)]=.ok (.v (D5 r)):=by
 suffices h:Ends (Qy [.lst (ys.map D.int),.int (c:Int)]) λb=>∃r,P8 c r/\b=.v (D5 r)by
  obtain⟨b,e,r,h,rfl⟩:=h;exact⟨r,h,e⟩
 match ys,BO with
 |[MK,FS,GC,I2,Hr,I3,Kg,I4],_=>
 obtain⟨Md,h0,Cc⟩:=Zj MK;obtain⟨BP,h1,AD⟩:=Zj FS;obtain⟨Ce,h2,AR⟩:=Zj GC;obtain⟨ER,h3,C2⟩:=Zj I2;have LK:OR [.int 4]=.ok (GJ 0 4):=rfl
 let E6:Nat->Nat:=λk=>if k=0 then Md else if k=1 then BP else if k=2 then Ce else ER
 have TX:∀k:Nat,k<4->∃y,AO (.lst (([MK,FS,GC,I2,Hr,I3,Kg,I4]:List Int).map D.int)) (.int (k:Int))=.ok (.int y)/\AO (.str (As "01xxx")) (.int (y%5))=.ok (EF (E6 k)):=λk AQ=>by
  have:k=0\/k=1\/k=2\/k=3:=by omega
  rcases this with rfl|rfl|rfl|rfl
  .exact⟨MK,rfl,Cc⟩
  .exact⟨FS,rfl,AD⟩
  .exact⟨GC,rfl,AR⟩
  .exact⟨I2,rfl,C2⟩
 have VZ:AO (.lst (([MK,FS,GC,I2,Hr,I3,Kg,I4]:List Int).map D.int)) (.int 4)=.ok (.int Hr):=rfl;have nT:AO (.lst (([MK,FS,GC,I2,Hr,I3,Kg,I4]:List Int).map D.int)) (.int 5)=.ok (.int I3):=rfl;have nU:AO (.lst (([MK,FS,GC,I2,Hr,I3,Kg,I4]:List Int).map D.int)) (.int 6)=.ok (.int Kg):=rfl;have nV:AO (.lst (([MK,FS,GC,I2,Hr,I3,Kg,I4]:List Int).map D.int)) (.int 7)=.ok (.int I4):=rfl;generalize([MK,FS,GC,I2,Hr,I3,Kg,I4]:List Int).map D.int=Y at TX VZ nT nU nV |-;simp[Qy,da];refine Mg 4 (λk=>EF (E6 k)) (by simp[LK]) (by omega) (λk AQ=>?_) ?_
 .obtain⟨y,Aa,B0⟩:=TX k AQ;simp[Aa,B0]
 have CV:(DT 4).map (λk=>EF (E6 k))=[EF Md,EF BP,EF Ce,EF ER]:=rfl;rw[CV];obtain⟨Aa,Pt,eq1⟩:=ME I3 (n:=c) (by omega);obtain⟨B0,y7,eq2⟩:=ME I4 (n:=c) (by omega);have F7:∃o:Option Nat,(∀k,o=some k->k<c)/\AO (.lst [.non,.non,.non,.int (Aa:Int)]) (.int (Hr%4))=.ok (Ei o):=by
  have h:Hr%4=0\/Hr%4=1\/Hr%4=2\/Hr%4=3:=by omega
  rcases h with h|h|h|h<;>rw[h]
  .exact⟨none,(λ_ z=>nomatch z),rfl⟩
  .exact⟨none,(λ_ z=>nomatch z),rfl⟩
  .exact⟨none,(λ_ z=>nomatch z),rfl⟩
  .exact⟨some Aa,(λk z=>by cases z;exact Pt),rfl⟩
 have Hy:∃o:Option Nat,(∀k,o=some k->k<c)/\AO (.lst [.int (B0:Int),.non]) (.int (Kg%7/6))=.ok (Ei o):=by
  have h:Kg%7/6=0\/Kg%7/6=1:=by omega
  rcases h with h|h<;>rw[h]
  .exact⟨some B0,(λk z=>by cases z;exact y7),rfl⟩
  .exact⟨none,(λ_ z=>nomatch z),rfl⟩
 obtain⟨CY,g1,Dv⟩:=F7;obtain⟨CN,g2,Co⟩:=Hy;simp(disch:=first|omega|(simp;done)|(simp;omega)) [aJ,VZ,nT,nU,nV,eq1,eq2,Dv,Co];refine⟨⟨⟨#[Md,BP,Ce,ER]⟩,CY,CN⟩,⟨⟨rfl,λd hd=>?_⟩,g1,g2⟩,rfl⟩;have hd:d∈[Md,BP,Ce,ER]:=hd;simp at hd;rcases hd with rfl|rfl|rfl|rfl<;>assumption
def Yv{ys:List Int}{k:Nat}(h:k<ys.length):AO (.lst (ys.map D.int)) (.int (k:Int))=.ok (.int ys[k]):=Mq (by simp[h])
def ul{α:Type}(xs:List α)(a b:Nat):FF xs (some (a:Int)) (some (b:Int))=(xs.drop (min a xs.length)).take (min b xs.length-min a xs.length):=by unfold FF;rw[Dx.bU,Dx.bU]
def sf{c q:Nat}(Ab:q<c):P8 c ⟨As "xxxx",none,some q⟩:=⟨⟨show(As "xxxx").cps.toList.length=4 by decide,λd hd=>by have:d∈[120,120,120,120]:=hd;simp at this;exact .inr (.inr this)⟩,(λ_ z=>nomatch z),(λk z=>by cases z;exact Ab)⟩
def v6(cell:Int)(c:Nat)(AG:1<=c):∃b,Sl c b/\Qx [.int cell,.int (c:Int)]=.ok (.v (DU b)):=by
 suffices h:Ends (Qx [.int cell,.int (c:Int)]) λx=>∃b,Sl c b/\x=.v (DU b)by
  obtain⟨b,e,r,h,rfl⟩:=h;exact⟨r,h,e⟩
 obtain⟨ys,AF,EC⟩:=cn cell 104 (by decide);have eO:NS [.int cell,.int 104]=.ok (.o (ys.map D.int)):=EC;have a0:AO (.lst (ys.map D.int)) (.int 0)=.ok (.int ys[0]):=Yv (k:=0) (by omega);have a1:AO (.lst (ys.map D.int)) (.int 1)=.ok (.int ys[1]):=Yv (k:=1) (by omega);have a2:AO (.lst (ys.map D.int)) (.int 2)=.ok (.int ys[2]):=Yv (k:=2) (by omega);have Dp:AO (.lst (ys.map D.int)) (.int 3)=.ok (.int ys[3]):=Yv (k:=3) (by omega);generalize ys[0]=To at a0;generalize ys[1]=Dv at a1;generalize ys[2]=Co at a2;generalize ys[3]=Ji at Dp;have x:∃m:Nat,m<=12/\AO (.lst [.int (To%5),.int (To%13)]) (.int (Dv%4/3))=.ok (.int (m:Int)):=by
  have h:Dv%4/3=0\/Dv%4/3=1:=by omega
  rcases h with h|h<;>rw[h]
  .obtain⟨m,hm,em⟩:=ME To (n:=5) (by decide);have Vm:To%5=(m:Int):=em;exact⟨m,by omega,by rw[Vm];rfl⟩
  .obtain⟨m,hm,em⟩:=ME To (n:=13) (by decide);have Vm:To%13=(m:Int):=em;exact⟨m,by omega,by rw[Vm];rfl⟩
 obtain⟨m,hm,em⟩:=x;have KZ:∀k:Nat,∃r,P8 c r/\(k<12->Qy [.lst (FF (ys.map D.int) (some (4+8*(k:Int))) (some (12+8*(k:Int)))),.int (c:Int)]=.ok (.v (D5 r))):=λk=>by
  by_cases AQ:k<12
  .have AD:FF (ys.map D.int) (some (4+8*(k:Int))) (some (12+8*(k:Int)))=(FF ys (some ((4+8*k:Nat):Int)) (some ((12+8*k:Nat):Int))).map D.int:=by
     rw[<-cb];simp
   obtain⟨r,h1,h2⟩:=adb (FF ys (some ((4+8*k:Nat):Int)) (some ((12+8*k:Nat):Int))) (by rw[ul];simp;omega) c AG;exact⟨r,h1,λ_=>by rw[AD];exact h2⟩
  .exact⟨_,sf (q:=0) (by omega),λz=>absurd z AQ⟩
 let Ph:Nat->E5:=λk=>(KZ k).choose
 have adW:∀k,P8 c (Ph k):=λk=>(KZ k).choose_spec.1;have adX:∀k:Nat,k<12->Qy [.lst (FF (ys.map D.int) (some (4+8*(k:Int))) (some (12+8*(k:Int)))),.int (c:Int)]=.ok (.v (D5 (Ph k))):=λk=>(KZ k).choose_spec.2;simp(disch:=first|omega|(simp;done)|(simp;omega)) [Qx,dT,eO,a0,a1,em];refine Mg m (λk=>D5 (Ph k)) (by simp[show m<1000000 by omega]) (by omega) (λk AQ=>?_) ?_
 .have q:=adX k (by omega);simp(disch:=first|omega|(simp;done)|(simp;omega)) [q]
 .have BC:(DT m).map (λk=>D5 (Ph k))=((DT m).map Ph).map D5:=by simp
  rw[BC];have EE:∀r∈(DT m).map Ph,P8 c r:=λr A6=>by obtain⟨k,_,rfl⟩:=List.mem_map.mp A6;exact adW k
  have AI:((DT m).map Ph).length=m:=by simp
  generalize(DT m).map Ph=b at EE AI;obtain⟨q,Ab,eq⟩:=ME Ji (n:=c) (by omega);have vF:FF (b.map D5) none (some 11)=(b.take 11).map D5:=by rw[cb];congr 1;exact cc b 11
  simp(disch:=first|omega|(simp;done)|(simp;omega)) [a2,Dp,eq];by_cases t:0<Co%3
  .rw[if_pos t,vF];simp(disch:=first|omega|(simp;done)|(simp;omega)) [-Xv];refine⟨b.take 11++[⟨As "xxxx",none,some q⟩],⟨by simp;omega,λr A6=>?_⟩,?_⟩
   .rcases List.mem_append.mp A6 with A6|A6
    .exact EE r (Xh A6)
    .rw[List.mem_singleton.mp A6];exact sf Ab
   .simp[DU,D5,Ei]
  .rw[if_neg t];simp;exact⟨b,⟨by omega,EE⟩,rfl⟩
def v9(ns:List Int)(st:Nat)(ES:st<100)(cs:List Nat)(h6:cs.length<=6)(Nb:∀c∈cs,1<=c/\c<=4):∃bs,MG cs bs/\TD [.Cs (ns.map D.int),.int (st:Int),.lst (Bh cs)]=.ok (.o (bs.map DU)):=by
 suffices h:Ends (TD [.Cs (ns.map D.int),.int (st:Int),.lst (Bh cs)]) λx=>∃bs,MG cs bs/\x=.o (bs.map DU)by
  obtain⟨b,e,r,h,rfl⟩:=h;exact⟨r,h,e⟩
 have Uc:∀p:Nat×Nat,∃b,(p∈cs.zipIdx->Sl p.1 b)/\(p∈cs.zipIdx->∃cl:Int,Ig [.Cs (ns.map D.int),.int ((st:Int)+(p.2:Int))]=.ok (.v (.int cl))/\Qx [.int cl,.int (p.1:Int)]=.ok (.v (DU b))):=λp=>by
  by_cases Am:p∈cs.zipIdx
  .have hm:p.1∈cs:=F8 (iF Am);obtain⟨cl,va⟩:=SZ ns (st+p.2);obtain⟨b,h1,h2⟩:=v6 cl p.1 (Nb _ hm).1;exact⟨b,λ_=>h1,λ_=>⟨cl,by rw[<-va];simp,h2⟩⟩
  .exact⟨[],λz=>absurd z Am,λz=>absurd z Am⟩
 let ZU:Nat×Nat->List E5:=λp=>(Uc p).choose
 have uy:∀p∈cs.zipIdx,Sl p.1 (ZU p):=λp=>(Uc p).choose_spec.1;have uz:∀p∈cs.zipIdx,∃cl:Int,Ig [.Cs (ns.map D.int),.int ((st:Int)+(p.2:Int))]=.ok (.v (.int cl))/\Qx [.int cl,.int (p.1:Int)]=.ok (.v (DU (ZU p))):=λp=>(Uc p).choose_spec.2;simp[TD,dV];have L1:RO [.lst (Bh cs)]=.ok (cs.zipIdx.map λp=>.tup [.int (p.2:Int),.int (p.1:Int)]):=eS (λc:Nat=>D.int (c:Int)) cs;refine RN (λp:Nat×Nat=>.int (p.2:Int)) (λp=>.int (p.1:Int)) cs.zipIdx (λp=>DU (ZU p)) (by simp only[iP,bI,v_var,X0];simp[L1]) (by simp;omega) (λp Am=>?_) ?_
 .obtain⟨cl,AD,AR⟩:=uz p Am;simp[AD,AR]
 .simp;refine⟨cs.zipIdx.map ZU,⟨by simp,λi b e=>?_⟩,by simp⟩;rw[Fl,Xg]at e;cases ec:cs[i]? with
  |none=>rw[ec]at e;cases e
  |some c=>
   rw[ec]at e;simp at e;subst e;have:(c,i)∈cs.zipIdx:=by rw[List.mem_iff_getElem?];exact⟨i,by rw[Xg,ec];simp⟩
   have k:=uy _ this;rw[Gq,ec];exact k
@[simp] theorem ajA(m:C9)(ρ:AH):FJ m ρ=Fb (m ρ):=(rfl)
@[simp] theorem aj8(m:Al)(ρ:AH):NW m ρ=Fb (m ρ):=(rfl)
@[simp] theorem aj9(m:Ay)(ρ:AH):Fo m ρ=Fb (m ρ):=(rfl)
@[simp] theorem ak6(c:Str)(ρ:AH):Hh c ρ=.exc c:=(rfl)
@[simp] theorem ajQ(m:AX)(ρ:AH):Wc m ρ=(m ρ).bind λ_=>.ok (.Bb ρ):=(rfl)
def aeh(cs:List Nat)(ws:List (AP×AP)):MY "Net" "is_door" (CM cs ws)=.ok (CM cs ws):=rfl
def hL(cs:List Nat)(ws:List (AP×AP)):MY "Net" "is_outer" (CM cs ws)=.ok (CM cs ws):=rfl
def yA(cs:List Nat)(ws:List (AP×AP))(x:D){b:Bool}(h:Qt [.tup (Bh cs),x]=.ok (.v (.AI b))):ag [CM cs ws,x]=.ok (.v (.AI b)):=by simp[ag,bl,kB,h]
def w3(ws:List (AP×AP))(d:AP):H2 false (BD d) (.B5 (E9 ws) (EG ws))=.ok (.AI (!decide (d∈ends ws))):=by simp only[H2,Tc,ks_any];rfl
def ack{cs:List Nat}(ws:List (AP×AP)){d:AP}(h:d∈DP cs cs.length):Q7 [CM cs ws,BD d]=.ok (.v (.AI (!decide (d∈ends ws)))):=by simp[Q7,bn,aeh,yA cs ws _ (cg h),mc,w3]
def adP{cs:List Nat}{ws:List (AP×AP)}{B:D}{b:Bool}(h:Qs [B,CM cs ws]=.ok (.v (.AI b))):Zs [B,CM cs ws]=if b=true then .ok (.v .non)else .exc "NoBooks":=by
 cases b<;>simp[Zs,cv,h]
 rfl
def kindOf(EE DZ Kv:Bool):Option Str:=if EE=false then some "NoBooks" else if DZ=false then some "NoDoor" else if Kv=false then some "NoAddress" else none
def X1(t:D):Option Str->R BQ
 |some c=>.exc c
 |none=>.ok (.v t)
def age{cs:List Nat}{ws:List (AP×AP)}{B x y:D}{EE DZ Kv:Bool}{t:D}(h1:Qs [B,CM cs ws]=.ok (.v (.AI EE)))(h2:Q7 [CM cs ws,x]=.ok (.v (.AI DZ)))(h3:Qr [y]=.ok (.v (.AI Kv)))(h4:EE=true->DZ=true->Kv=true->W4 [CM cs ws,B,x,y]=.ok (.v t)) :
  PX [CM cs ws,B,x,y]=X1 t (kindOf EE DZ Kv):=by
 have r:=adP h1;cases EE
 .simp at r;simp[PX,SQ,r,kindOf,X1]
 .simp at r;cases DZ
  .simp[PX,SQ,r,kindOf,X1,hL,h2]
  .cases Kv
   .simp[PX,SQ,r,kindOf,X1,hL,h2,h3]
   .simp[PX,SQ,r,kindOf,X1,hL,h2,h3,h4]
end By
namespace By
open PySem PySem.Spec C7 CP PySem.StrLaws PySem.Builtin.Str
def bj{x y:Str}(h:x.cps.toList=y.cps.toList):x=y:=by obtain⟨⟨a⟩⟩:=x;obtain⟨⟨b⟩⟩:=y;cases h;rfl
def l2{x y:Str}{c i:Nat}{q:List Nat}(BO:y.cps.toList=c::q)(h:At x y x.length i):x.cps.toList[i]?=some c:=by
 have e:(strSub x i (i+y.length)).cps.toList=c::q:=by rw[<-BO];exact congrArg jK (beq_iff_eq.mp h.2)
 rw[strSub_toList,show i+y.length-i=y.length by omega]at e;have AR:=congrArg (λl:List Nat=>l[0]?) e;have Dq:0<y.length:=by unfold Fm;rw[<-Kh,BO];simp
 rw[XQ Dq,Xq]at AR;simpa using AR
def at_of{x y:Str}{A B:List Nat}(h:x.cps.toList=A++(y.cps.toList++B)):At x y x.length A.length:=by
 have l:y.length=y.cps.toList.length:=by unfold Fm;simp
 refine⟨?_,?_⟩
 .unfold Fm;rw[<-Kh,<-Kh,h];simp
 .have e:(strSub x A.length (A.length+y.length)).cps.toList=y.cps.toList:=by
    rw[strSub_toList,h,show A.length+y.length-A.length=y.length by omega,List.drop_left,l,List.take_left]
  exact beq_iff_eq.mpr (congrArg Str.cps (bj e))
def qw{x:Str}{A w B:List Nat}{a b:Nat}(h:x.cps.toList=A++(w++B))(A1:a=A.length)(J:b=A.length+w.length):(strSub x a b).cps.toList=w:=by subst A1 J;rw[strSub_toList,h,show A.length+w.length-A.length=w.length by omega,List.drop_left,List.take_left]
def afy(x y:Str)(BO:QB y=1)(hw:1<=y.length):Jw x y=partsFrom x y.length 0 (occurrences x y 0 x.length (x.length+1)):=by
 obtain⟨f,ch,_⟩:=occ_tight x y hw;unfold Jw
 split
 .rename_i h;rw[BO]at h;have AF:x.length<y.length:=by
   simp only[Bool.or_eq_true,decide_eq_true_eq]at h;rcases h with h|h
   .exact h
   .exfalso;unfold QB at h;split at h
    .omega
    .split at h<;>omega
  cases e:occurrences x y 0 x.length (x.length+1)with
  |nil=>simp[partsFrom,sub_whole]
  |cons i r=>rw[e]at ch;have:=ch.2.1.1;omega
 .split
  .rename_i h;rw[List.isEmpty_iff.mp h];simp[partsFrom,sub_whole]
  .exact partsBetween_eq ..
theorem qN{x y:Str}{c:Nat}{q:List Nat}(BO:y.cps.toList=c::q):∀(ws:List Str)(P:List Nat)(Sa:List Nat)(f:Nat),ws≠[]->(∀w∈ws,c∉w.cps.toList)->x.cps.toList=P++(Lb y ws).cps.toList->
  ChainG x y x.length P.length Sa f->(∀k,f<=k->¬At x y x.length k)->partsFrom x y.length P.length Sa=ws
 |[],_,_,_,h,_,_,_,_=>absurd rfl h
 |[w],P,Sa,f,_,hf,AA,ch,no=>by
  have AA:x.cps.toList=P++w.cps.toList:=AA;have aaI:x.length=P.length+w.cps.toList.length:=by unfold Fm;rw[<-Kh,AA];simp
  cases Sa with
  |nil=>show[strSub x P.length x.length]=[w];rw[bj (qw (B:=[]) (by simpa using AA) rfl aaI)]
  |cons i r=>have g:=l2 BO ch.2.1;rw[AA,HA ch.1]at g;exact absurd (F8 g) (hf w (by simp))
 |w::Eu::r,P,Sa,f,_,hf,AA,ch,no=>by
  have AA:x.cps.toList=P++(w.cps.toList++(y.cps.toList++(Lb y (Eu::r)).cps.toList)):=by rw[AA];show P++(w.cps++y.cps++(Lb y (Eu::r)).cps).toList=_;simp
  have cN:At x y x.length (P++w.cps.toList).length:=at_of (B:=(Lb y (Eu::r)).cps.toList) (by rw[AA];simp);rw[HS]at cN;cases Sa with
  |nil=>exact absurd cN (no _ (by have:f=P.length:=ch;omega))
  |cons i s=>
   obtain⟨BP,Ce,ER,K3⟩:=ch;have BG:i<=P.length+w.cps.toList.length:=by refine j1 λz=>ER _ (by omega) z cN
   have BH:P.length+w.cps.toList.length<=i:=by refine j1 λz=>?_;have g:=l2 BO Ce;rw[AA,HA BP,Hs (by omega)]at g;exact hf w (by simp) (F8 g)
   have IY:i=P.length+w.cps.toList.length:=by omega
   have D7:(P++(w.cps.toList++y.cps.toList)).length=i+y.length:=by unfold Fm;rw[IY];simp;omega
   have Br:=qN BO (Eu::r) (P++(w.cps.toList++y.cps.toList)) s f (by simp) (λv Be=>hf v (by simp[List.mem_cons.mp Be])) (by rw[AA];simp) (by rw[D7];exact K3) no;rw[D7]at Br;show strSub x P.length i::partsFrom x y.length (i+y.length) s=_;rw[Br,bj (qw AA rfl IY)]
def afz{y:Str}{c:Nat}{q:List Nat}(BO:y.cps.toList=c::q)(AQ:QB y=1)(ws:List Str)(AU:ws≠[])(hf:∀w∈ws,c∉w.cps.toList):Jw (Dn y ws) y=ws:=by
 have Dq:1<=y.length:=by unfold Fm;rw[<-Kh,BO];simp
 have Jq:Dn y ws=Lb y ws:=glued_eq_join y ws;rw[Jq,afy _ _ AQ Dq];obtain⟨f,ch,no⟩:=occ_tight (Lb y ws) y Dq;exact qN (P:=[]) BO ws _ f AU hf (by simp) ch no
end By
namespace By
open PySem PySem.Spec C7 CP
def Hj{β:Type}(b:β):Fb (.ok b:R β)=.ok b:=rfl
def Pb{m:C9}{ρ:AH}:FJ m ρ=Fb (m ρ):=rfl
def R1{m:Ay}{ρ:AH}:Fo m ρ=Fb (m ρ):=rfl
def V5(x:Str):Cp "str" (.str x)=.ok (.AI true):=rfl
abbrev sp:Str:=As " "
abbrev cm:Str:=As ", "
abbrev dot:Str:=As "."
abbrev dash:Str:=As "-"
def Dy(n:Nat):Str:=⟨#[48+n]⟩
def B5(d:AP):Str:=⟨#[48+d.1,46,48+d.2]⟩
def wT(w:AP×AP):Str:=⟨#[48+w.1.1,46,48+w.1.2,45,48+w.2.1,46,48+w.2.2]⟩
def join_le{y:Str}{ws:List Str}{m:Nat}(h:∀w∈ws,w.length<=m):(Dn y ws).length<=ws.length*(m+y.length):=by
 have e:Dn y ws=Lb y ws:=ic y ws;rw[e];refine EB (StrLaws.join_length_le y ws) ?_;have:(ws.map (·.length)).sum<=ws.length*m:=by
  clear e;induction ws with
  |nil=>simp
  |cons w r Br=>have a:=h w (by simp);have b:=Br λv Be=>h v (by simp[Be]);simp only[EU,List.sum_cons,Eo,jU];omega
 rw[Nat.mul_add];omega
def WG{y:Str}{c:Nat}{q:List Nat}(BO:y.cps.toList=c::q)(AQ:QB y=1){ws:List Str}(AU:ws≠[])(hf:∀w∈ws,c∉w.cps.toList)(AF:(Dn y ws).length<=1000)(hw:ws.length<=1000) :
  Mx [.str (Dn y ws),.str y]=.ok (.o (ws.map .str)):=by
 have fo:(y.length==0)=false:=by
  have:y.length=q.length+1:=by unfold Fm;rw[<-Kh,BO];simp
  rw[this];simp
 have e:bb (Dn y ws) (.str y)=.ok (ws.map .str):=by simp only[bb];rw[afz BO AQ ws AU hf,if_pos ⟨fo,AF,hw⟩]
 simp[Mx,di,ae,hW,e,R1,Pb,Hj,V5]
def small{P:Nat->Prop}(h0:P 0)(h1:P 1)(h2:P 2)(h3:P 3)(h4:P 4)(h5:P 5):∀n,n<6->P n:=λn h=>by
 have:n=0\/n=1\/n=2\/n=3\/n=4\/n=5:=by omega
 rcases this with rfl|rfl|rfl|rfl|rfl|rfl<;>assumption
def Pl:∀n,n<6->Jd [.int (n:Nat)]=.ok (.str (Dy n)):=small (by kernel_rfl) (by kernel_rfl) (by kernel_rfl) (by kernel_rfl) (by kernel_rfl) (by kernel_rfl)
def hb:∀n,n<6->Kb [.int (n:Nat)]=.ok (.str (Dy n)):=λn h=>Pl n h
def yE:∀n,n<6->Qu [.str (Dy n)]=.ok (.v (.AI true)):=small (by kernel_rfl) (by kernel_rfl) (by kernel_rfl) (by kernel_rfl) (by kernel_rfl) (by kernel_rfl)
def WM:∀n,n<6->MC [.str (Dy n)]=.ok (.v (.int (n:Nat))):=small (by kernel_rfl) (by kernel_rfl) (by kernel_rfl) (by kernel_rfl) (by kernel_rfl) (by kernel_rfl)
theorem tw(x y:Str)(h:x.length+y.length<=1000000):Cy (.str x) (.str y)=.ok (.str (x++y)):=if_pos h
def Me{d:AP}(h1:d.1<6)(h2:d.2<6):NQ [BD d]=.ok (.v (.str (B5 d))):=by
 have Cc:AO (BD d) (.int 0)=.ok (.int (d.1:Nat)):=rfl;have AD:AO (BD d) (.int 1)=.ok (.int (d.2:Nat)):=rfl;have a1:Cy (.str (Dy d.1)) (.str (As "."))=.ok (.str ⟨#[48+d.1,46]⟩):=by kernel_rfl
 have a2:Cy (.str ⟨#[48+d.1,46]⟩) (.str (Dy d.2))=.ok (.str (B5 d)):=by kernel_rfl
 simp[NQ,bu,Cc,AD,Pl _ h1,Pl _ h2,a1,a2]
def agC{w:AP×AP}(h1:w.1.1<6)(h2:w.1.2<6)(h3:w.2.1<6)(h4:w.2.2<6):Zx [D6 w]=.ok (.v (.str (wT w))):=by
 have Cc:AO (D6 w) (.int 0)=.ok (BD w.1):=rfl;have AD:AO (D6 w) (.int 1)=.ok (BD w.2):=rfl;have a1:Cy (.str (B5 w.1)) (.str (As "-"))=.ok (.str ⟨#[48+w.1.1,46,48+w.1.2,45]⟩):=by kernel_rfl
 have a2:Cy (.str ⟨#[48+w.1.1,46,48+w.1.2,45]⟩) (.str (B5 w.2))=.ok (.str (wT w)):=by kernel_rfl
 simp[Zx,d4,Cc,AD,Me h1 h2,Me h3 h4,a1,a2]
def Vc{tab:Tab}{i:Nat}{m:Al}{ρ:AH}{x:Str}{mf:List D->R BQ}(h:ρ[i]?=some (.AM (.fn x)))(BB:tab x=some mf):Ic i tab m ρ=Au 1 mf m ρ:=by simp only[Ic,h,ce,BB]
def qL{tab:Tab}{x:Str}{mf:List D->R BQ}(BB:tab x=some mf){y:Str}{c:Nat}(BO:y.cps.toList=[c])(AQ:QB y=1){a b:Str}{u v:D}(A1:c∉a.cps.toList)(J:c∉b.cps.toList)(aao:a.length<=100)(oY:b.length<=100)(Ai:mf [.str a]=.ok (.v u))(BC:mf [.str b]=.ok (.v v)):Wp tab [.str (Dn y [a,b]),.str y,.fn x]=.ok (.v (.tup [u,v])):=by
 have oo:y.length=1:=by unfold Fm;rw[<-Kh,BO];rfl
 have p:=WG (ws:=[a,b]) BO AQ (by simp) (by intro w hw;simp only[Fz,FW,or_false]at hw;rcases hw with rfl|rfl<;>assumption) (by have:=join_le (y:=y) (ws:=[a,b]) (m:=100) (by simp[aao,oY]);simp at this;omega) (by simp);have FR:AO (.lst [.str a,.str b]) (.int 0)=.ok (.str a):=rfl;have BG:AO (.lst [.str a,.str b]) (.int 1)=.ok (.str b):=rfl;have AR:Bz false (.int 2) (.int 2)=.ok (.AI false):=rfl;have BP:∀m,Ic 2 tab m [.AM (.str (Dn y [a,b])),.AM (.str y),.AM (.fn x),.AM (.lst [.str a,.str b])]=Au 1 mf m [.AM (.str (Dn y [a,b])),.AM (.str y),.AM (.fn x),.AM (.lst [.str a,.str b])]:=λm=>Vc rfl BB;simp[Wp,dh,p,Pb,Hj,AR,BP,FR,BG,Ai,BC]
def Sb{d:AP}(h1:d.1<6)(h2:d.2<6):Q8 [.str (B5 d)]=.ok (.v (BD d)):=by
 have e:B5 d=Dn dot [Dy d.1,Dy d.2]:=by kernel_rfl
 have p:=qL (tab:=b6) (x:="number_read") (mf:=MC) rfl (y:=dot) (c:=46) (by kernel_rfl) (by kernel_rfl) (a:=Dy d.1) (b:=Dy d.2) (by simp[Dy];omega) (by simp[Dy];omega) (by simp[Dy,Fm]) (by simp[Dy,Fm]) (WM _ h1) (WM _ h2);rw[e];simp[Q8,bt,p,BD]
def agB{w:AP×AP}(h1:w.1.1<6)(h2:w.1.2<6)(h3:w.2.1<6)(h4:w.2.2<6):W5 [.str (wT w)]=.ok (.v (D6 w)):=by
 have e:wT w=Dn dash [B5 w.1,B5 w.2]:=by kernel_rfl
 have p:=qL (tab:=b5) (x:="door_read") (mf:=Q8) rfl (y:=dash) (c:=45) (by kernel_rfl) (by kernel_rfl) (a:=B5 w.1) (b:=B5 w.2) (by simp[B5];omega) (by simp[B5];omega) (by simp[B5,Fm]) (by simp[B5,Fm]) (Sb h1 h2) (Sb h3 h4);rw[e];simp[W5,d3,p,D6]
abbrev GD(n:Nat)(f d:D):Prop:=IJ n [f,d]=.ok (.v (.AI true))
def UY{n:Nat}{fs ds:List D}{F E:D}(k:(F=.lst fs/\E=.lst ds)\/(F=.tup fs/\E=.tup ds)\/(F=.DB fs/\E=.tup ds)\/(F=.DB fs/\E=.DB ds))(AF:fs.length=ds.length)(h5:fs.length<500)(h:∀p∈fs.zip ds,GD n p.1 p.2):GD (n+1) F E:=by
 apply Ends.done;have al:=SK (λ_:D×D=>true) (fs.zip ds);have fin:∀mi ρ(k:List D->R BQ),mi ρ=.ok (zip2 fs ds)->(k ((fs.zip ds).map λ_=>.AI true)=.ok (.v (.AI true)))->Ends ((DC 2 [] mi (F6 [BI 0,BI 1]) D2 (Au 2 (IJ n) (A0 (Z 0) (A0 (Z 1) AB))) ρ).bind k) (· =.v (.AI true)):=λmi ρ k hm AQ=>
  RN S4 UX (fs.zip ds) (λ_=>.AI true) (by rw[hm];rfl) (by simp;omega) (λa A1=>by simp[h a A1]) (by rw[AQ];exact⟨_,rfl,rfl⟩)
 have e:∀k:Int,Bz false (.int k) (.int k)=.ok (.AI false):=λk=>by show R.ok (D.AI (!(k==k)))=_;simp
 have BC:∀b:Bool,Bz false (.AI b) (.AI b)=.ok (.AI false):=λb=>by cases b<;>rfl
 have Dq:CQ [.lst fs]=.ok (.int (fs.length:Nat)):=rfl;have BR:CQ [.lst ds]=.ok (.int (fs.length:Nat)):=by rw[AF];rfl
 have aai:CQ [.tup fs]=.ok (.int (fs.length:Nat)):=rfl;have Nt:CQ [.tup ds]=.ok (.int (fs.length:Nat)):=by rw[AF];rfl
 have pP:CQ [.DB fs]=.ok (.int (fs.length:Nat)):=rfl;have fp:CQ [.DB ds]=.ok (.int (fs.length:Nat)):=by rw[AF];rfl
 have a1:∀l,Cp "list" (.lst l)=.ok (.AI true):=λ_=>rfl;have a2:∀l,Cp "list" (.tup l)=.ok (.AI false):=λ_=>rfl;have Dp:∀l,Cp "list" (.DB l)=.ok (.AI false):=λ_=>rfl;have FM:∀l,Cp "tuple" (.tup l)=.ok (.AI true):=λ_=>rfl;have HI:∀l,Cp "tuple" (.DB l)=.ok (.AI true):=λ_=>rfl;rcases k with⟨rfl,rfl⟩|⟨rfl,rfl⟩|⟨rfl,rfl⟩|⟨rfl,rfl⟩
 .simp[IJ,OF,a1,e,BC,Dq,BR];exact fin _ _ _ rfl (by simp[al])
 .simp[IJ,OF,a2,FM,e,BC,aai,Nt];exact fin _ _ _ rfl (by simp[al])
 .simp[IJ,OF,a2,Dp,FM,HI,e,BC,pP,Nt];exact fin _ _ _ rfl (by simp[al])
 .simp[IJ,OF,Dp,HI,e,BC,pP,fp];exact fin _ _ _ rfl (by simp[al])
def Sw(n:Nat)(i:Int):GD (n+1) (.int i) (.int i):=by
 have e:Bz true (.int i) (.int i)=.ok (.AI true):=by show R.ok (D.AI (i==i))=_;simp
 have a1:Cp "list" (.int i)=.ok (.AI false):=rfl;have a2:Cp "tuple" (.int i)=.ok (.AI false):=rfl;have Dp:Cp "bool" (.int i)=.ok (.AI false):=rfl;have FM:Cp "int" (.int i)=.ok (.AI true):=rfl;have BC:Bz false (.AI true) (.AI true)=.ok (.AI false):=rfl;simp[GD,IJ,OF,a1,a2,Dp,FM,BC,e]
def SI(n:Nat)(x:Str):GD (n+1) (.str x) (.str x):=by
 have e:Bz true (.str x) (.str x)=.ok (.AI true):=by show R.ok (D.AI (x==x))=_;simp
 have a1:Cp "list" (.str x)=.ok (.AI false):=rfl;have a2:Cp "tuple" (.str x)=.ok (.AI false):=rfl;have Dp:Cp "bool" (.str x)=.ok (.AI false):=rfl;have FM:Cp "int" (.str x)=.ok (.AI false):=rfl;have BC:Bz false (.AI false) (.AI false)=.ok (.AI false):=rfl;simp[GD,IJ,OF,a1,a2,Dp,FM,BC,e]
def tS(n:Nat):GD (n+1) .non .non:=by have e:Bz true .non .non=.ok (.AI true):=rfl;have a1:Cp "list" .non=.ok (.AI false):=rfl;have a2:Cp "tuple" .non=.ok (.AI false):=rfl;have Dp:Cp "bool" .non=.ok (.AI false):=rfl;have FM:Cp "int" .non=.ok (.AI false):=rfl;have BC:Bz false (.AI false) (.AI false)=.ok (.AI false):=rfl;simp[GD,IJ,OF,a1,a2,Dp,FM,BC,e]
def Uz{α:Type}{n:Nat}{xs:List α}{f g:α->D}(AF:xs.length<500)(h:∀a∈xs,GD n (f a) (g a)):GD (n+1) (.lst (xs.map f)) (.lst (xs.map g)):=
 UY (.inl ⟨rfl,rfl⟩) (by simp) (by simpa using AF) λp Am=>by rw[List.zip_map',US]at Am;obtain⟨a,A1,rfl⟩:=Am;exact h a A1
def V0{n:Nat}{ds:List D}(AF:ds.length<500)(h:∀d∈ds,GD n d d):GD (n+1) (.tup ds) (.tup ds):=
 UY (.inr (.inl ⟨rfl,rfl⟩)) rfl AF λp Am=>by
  obtain⟨h1,h2⟩:=UN Am;have e:p.1=p.2:=by obtain⟨i,AC⟩:=List.getElem?_of_mem Am;rw[iu]at AC;exact EH (AC.1.symm.trans AC.2)
  rw[<-e];exact h _ h1
def ZH(n:Nat)(d:AP):GD (n+2) (BD d) (BD d):=V0 (by simp) (by simp;exact⟨Sw _ _,Sw _ _⟩)
def tW(n:Nat)(w:AP×AP):GD (n+3) (D6 w) (D6 w):=V0 (by simp) (by simp;exact⟨ZH _ _,ZH _ _⟩)
def ku(n:Nat)(o:Option Nat):GD (n+1) (Ei o) (Ei o):=by
 cases o with
 |none=>exact tS _
 |some k=>exact Sw _ _
def kv(n:Nat)(r:E5):GD (n+2) (D5 r) (D5 r):=V0 (by simp) (by simp;exact⟨SI _ _,ku _ _,ku _ _⟩)
def u1(n:Nat)(cs:List Nat)(h:cs.length<500):GD (n+2) (.lst (Bh cs)) (.lst (Bh cs)):=Uz h λa _=>Sw _ _
def N0:Ck->Ck
 |.Fx _=>.Fx true
 |s=>s
def tV(n:Nat)(s:Ck):GD (n+2) (DE (N0 s)) (DE s):=by
 cases s with
 |Fx k=>
  cases k with
  |true=>exact UY (fs:=[.str wS]) (ds:=[.str wS]) (.inr (.inr (.inr ⟨rfl,rfl⟩))) rfl (by simp) (by simp;exact SI _ _)
  |false=>exact UY (fs:=[.str wS]) (ds:=[.str wS]) (.inr (.inr (.inl ⟨rfl,rfl⟩))) rfl (by simp) (by simp;exact SI _ _)
 |ac w h=>exact V0 (by simp) (by simp;exact⟨SI _ _,Sw _ _⟩)
theorem mE{Fe:AH}{me:AX}{α:Type}(g o:α->D):∀(xs:List α)(ws:List D)(s0:DG),ws.length+xs.length<=1000->(∀a∈xs,me (.AM (g a)::Fe)=.ok (o a))->Ea (BI 0) D2 me (xs.map g) (s0::Fe) ws=.ok (ws++xs.map o)
 |[],ws,s0,_,_=>by simp[Ea]
 |a::xs,ws,s0,AF,h=>by
  simp only[Eo]at AF;have Cc:BI 0 (g a) (s0::Fe)=.ok (.AM (g a)::Fe):=by simp[BI]
  simp only[EU,Ea,D2,Cc,EN,if_true,h a (by simp),if_pos (show ws.length<1000000 by omega)];rw[mE g o xs _ _ (by simp;omega) λb J=>h b (by simp[J])];simp
def dG{mi:Al}{me:AX}{caps:List Nat}{ρ:AH}{α:Type}(g o:α->D)(xs:List α)(AC:mi ρ=.ok (xs.map g))(AF:xs.length<=1000)(h:∀a∈xs,me (.AM (g a)::caps.map λj=>GV (ρ.getD j .un))=.ok (o a)):Nx 1 caps mi (BI 0) me ρ=.ok (xs.map o):=by show(mi ρ).bind (λds=>Ea (BI 0) D2 me ds (.un::caps.map λj=>GV (ρ.getD j .un)) [])=_;rw[AC,EN,mE g o xs [] .un (by simpa using AF) h];simp
theorem strs_map:∀ys:List Str,Qa (ys.map .str)=some ys
 |[]=>rfl
 |y::ys=>by simp[Qa,strs_map ys]
theorem qx:∀(ys:List Str),(∀s∈ys,s.length<=1000)->(ys.map (·.length)).sum<=ys.length*1000
 |[],_=>by simp
 |y::ys,h=>by have a:=h y (by simp);have b:=qx ys λs hs=>h s (by simp[hs]);simp only[EU,List.sum_cons,Eo,jU];omega
def TZ{y:Str}(oo:y.length<=2)(ys:List Str)(h:∀s∈ys,s.length<=1000)(AF:ys.length<=200):M8 y [.lst (ys.map .str)]=.ok (.str (Dn y ys)):=by have:=qx ys h;have z:ys.length*y.length<=ys.length*2:=Nat.mul_le_mul_left _ oo;simp only[M8,strs_map];rw[if_pos (by omega)]
def aj{α:Type}{xs:List α}{f:α->D}{t:α->Str}{W:D}(wY:W=.lst (xs.map f)\/W=.tup (xs.map f)\/W=.DB (xs.map f))(h:∀a∈xs,Kb [f a]=.ok (.str (t a)))(lt:∀a∈xs,(t a).length<=20)(AF:xs.length<=200):J_ [W]=.ok (.v (.str (Dn sp (xs.map t)))):=by
 apply Ends.done;have j:=TZ (y:=sp) (by decide) (xs.map t) (λs hs=>by obtain⟨a,A1,rfl⟩:=List.mem_map.mp hs;exact EB (lt a A1) (by decide)) (by simpa using AF);rw[Kj]at j;simp[J_,d5];refine L2 f xs (λa=>.str (t a)) ?_ (by omega) (λa A1=>by simp[h a A1]) ?_
 .rcases wY with rfl|rfl|rfl<;>rfl
 .have M7:M8 sp [.lst (xs.map λa=>.str (t a))]=.ok (.str (Dn sp (xs.map t))):=j;simp[M7]
def JX(Bn:List Str):Str:=if Bn=[]then dash else Dn cm Bn
def ky{α:Type}(t:α->Str)(xs:List α):okN 8 (.lst (xs.map λa=>.str (t a)))=true:=by simp[okN]
def ne_nil{α:Type}(t:α->Str)(xs:List α):Bz false (.lst (xs.map λa=>.str (t a))) (.lst [])=.ok (.AI (!xs.isEmpty)):=by unfold Bz;rw[if_pos ⟨ky t xs,rfl⟩];cases xs<;>rfl
def fu{α:Type}(t:α->Str)(xs:List α)(h:∀a∈xs,(t a).length<=20)(AF:xs.length<=200):TK [.lst (xs.map λa=>.str (t a))]=.ok (.v (.str (JX (xs.map t)))):=by
 have j:=TZ (y:=cm) (by decide) (xs.map t) (λs hs=>by obtain⟨a,A1,rfl⟩:=List.mem_map.mp hs;exact EB (h a A1) (by decide)) (by simpa using AF);rw[Kj]at j;have M7:M8 cm [.lst (xs.map λa=>.str (t a))]=.ok (.str (Dn cm (xs.map t))):=j;have nl:=ne_nil t xs;cases xs with
 |nil=>simp[TK,ZR,JX,M0]at nl |-;simp[nl]
 |cons a r=>simp[TK,ZR,JX]at nl M7 |-;simp[nl,M7]
def nv(y w:Str)(r:List Str):w.length<=(Dn y (w::r)).length:=by
 have e:Dn y (w::r)=Lb y (w::r):=ic y _;rw[e];cases r with
 |nil=>exact CO _
 |cons v r=>show w.cps.size<=(w.cps++y.cps++(Lb y (v::r)).cps).size;simp;try omega
def om{α:Type}{tab:Tab}{x:Str}{mf:List D->R BQ}(BB:tab x=some mf){t:α->Str}{o:α->D}{xs:List α}(h:∀a∈xs,mf [.str (t a)]=.ok (.v (o a)))(hf:∀a∈xs,44∉(t a).cps.toList)(Dq:∀a∈xs,2<=(t a).length)(BR:∀a∈xs,(t a).length<=20)(AF:xs.length<=40) :
  TJ tab [.str (JX (xs.map t)),.fn x]=.ok (.o (xs.map o)):=by
 cases xs with
 |nil=>
  have e:Bz true (.str dash) M0=.ok (.AI true):=by kernel_rfl
  simp[TJ,ZQ,JX,R1,Hj,e]
 |cons a r=>
  have g:=EB (Dq a (by simp)) (nv cm (t a) (r.map t));have e:Bz true (.str (Dn cm (t a::r.map t))) M0=.ok (.AI false):=by
   unfold Bz;rw[if_pos ⟨rfl,rfl⟩];have:D1 (.str (Dn cm (t a::r.map t))) M0=false:=by show(Dn cm (t a::r.map t)==As "-")=false;rw[beq_eq_false_iff_ne];intro z;rw[z]at g;exact absurd g (by decide)
   rw[this];rfl
  have TY:=join_le (y:=cm) (ws:=(a::r).map t) (m:=20) λw hw=>by obtain⟨b,J,rfl⟩:=List.mem_map.mp hw;exact BR b J
  rw[Gp,show cm.length=2 from rfl]at TY;have p:=WG (y:=cm) (c:=44) (q:=[32]) (by kernel_rfl) (by kernel_rfl) (ws:=(a::r).map t) (by simp) (λw hw=>by obtain⟨b,J,rfl⟩:=List.mem_map.mp hw;exact hf b J) (by omega) (by simp at AF |-;omega)
  have c:=dG (mi:=ET (Au 2 Mx (A0 (Z 0) (A0 (A7 (.str (As ", "))) (AB))))) (me:=Ic 1 tab (A0 (Z 0) (AB))) (caps:=[1]) (ρ:=[.AM (.str (Dn cm (t a::r.map t))),.AM (.fn x)]) (λa=>.str (t a)) o (a::r)
   (by simp at p;simp[p]) (by simp at AF |-;omega) (λb J=>by rw[Vc (x:=x) rfl BB];simp[h b J])
  simp at c;simp[TJ,ZQ,JX,R1,Hj,e,c]
def x3{c:Nat}{y:Str}(BO:c∉y.cps.toList):∀ws:List Str,(∀w∈ws,c∉w.cps.toList)->c∉(Dn y ws).cps.toList:=λws=>by
 have e:Dn y ws=Lb y ws:=ic y ws;rw[e];clear e;induction ws with
 |nil=>intro _;exact FW
 |cons w r Br=>
  intro h;cases r with
  |nil=>exact h w (by simp)
  |cons v r=>have i:=Br λu BX=>h u (by simp[List.mem_cons.mp BX]);have a:=h w (by simp);show c∉(w.cps++y.cps++(Lb y (v::r)).cps).toList;simp only[Array.toList_append,Y2,not_or];exact⟨⟨a,BO⟩,i⟩
abbrev anyS:Str:=As "any"
abbrev IX:Str:=As "drop"
def De(s:Str):Option Nat->Str
 |none=>s
 |some n=>Dy n
def PK(s:Str):Option Nat->D
 |none=>.str s
 |some n=>.int (n:Nat)
def Fc(r:E5):Str:=Dn sp [r.p,De anyS r.a,De IX r.b]
def fR{x:Str}(h:Iy x){c:Nat}(h1:c<48):c∉x.cps.toList:=λz=>by rcases h.s c z with e|e|e<;>omega
def cj{n c:Nat}(h:c<48):c∉(Dy n).cps.toList:=by simp[Dy];omega
def a9{s:Str}{o:Option Nat}{c:Nat}(h:c<48)(hs:c∉s.cps.toList):c∉(De s o).cps.toList:=by
 cases o with
 |none=>exact hs
 |some n=>exact cj h
def aA{s:Str}{o:Option Nat}(h:s.length<=4):(De s o).length<=4:=by
 cases o with
 |none=>exact h
 |some n=>simp[De,Dy,Fm]
def WH{x:Str}(h:Iy x):x.length=4:=by have:=h.l;simpa[Fm]using this
def adK{r:E5}(h:Iy r.p):44∉(Fc r).cps.toList:=x3 (by decide) _ λw hw=>by
 simp only[Fz,FW,or_false]at hw;rcases hw with rfl|rfl|rfl
 .exact fR h (by decide)
 .exact a9 (by decide) (by decide)
 .exact a9 (by decide) (by decide)
def Tp{r:E5}(h:Iy r.p):2<=(Fc r).length/\(Fc r).length<=20:=by
 have g:=nv sp r.p [De anyS r.a,De IX r.b];have l:=join_le (y:=sp) (ws:=[r.p,De anyS r.a,De IX r.b]) (m:=4) λw hw=>by
  simp only[Fz,FW,or_false]at hw;rcases hw with rfl|rfl|rfl
  .rw[WH h];exact CO _
  .exact aA (by decide)
  .exact aA (by decide)
 rw[WH h]at g;rw[show sp.length=1 from rfl]at l;simp only[Eo,MO]at l;unfold Fc;omega
def qs{s:Str}{o:Option Nat}(h:∀k,o=some k->k<6):Kb [PK s o]=.ok (.str (De s o)):=by
 cases o with
 |none=>rfl
 |some n=>exact hb n (h n rfl)
structure P7(r:E5):Prop where
 p:Iy r.p
 a:∀k,r.a=some k->k<6
 b:∀k,r.b=some k->k<6
def adg{r:E5}(h:P7 r):Zt [D5 r]=.ok (.v (.str (Fc r))):=by
 have Cc:AO (D5 r) (.int 0)=.ok (.str r.p):=rfl;have AD:AO (D5 r) (.int 1)=.ok (Ei r.a):=rfl;have AR:AO (D5 r) (.int 2)=.ok (Ei r.b):=rfl;have w:=aj (W:=.lst [.str r.p,PK anyS r.a,PK IX r.b]) (xs:=[(D.str r.p,r.p),(PK anyS r.a,De anyS r.a),(PK IX r.b,De IX r.b)]) (f:=S4) (t:=UX) (.inl rfl) (λa A1=>by
  simp only[Fz,FW,or_false]at A1;rcases A1 with rfl|rfl|rfl
  .rfl
  .exact qs h.a
  .exact qs h.b) (λa A1=>by
  simp only[Fz,FW,or_false]at A1;rcases A1 with rfl|rfl|rfl
  .show r.p.length<=20;rw[WH h.p];decide
  .exact EB (aA (by decide)) (by decide)
  .exact EB (aA (by decide)) (by decide)) (by simp)
 have Ff:J_ [.lst [.str r.p,PK anyS r.a,PK IX r.b]]=.ok (.v (.str (Fc r))):=w;cases Ai:r.a<;>cases BC:r.b<;>simp only[Ai,BC,PK]at Ff<;>simp[Zt,cx,Cc,AD,AR,JV,Ai,BC,Ei,N_,Na,Ff]
def vB{b:List E5}(h:∀r∈b,P7 r)(AF:b.length<=40):Zm [.lst (b.map D5)]=.ok (.v (.str (JX (b.map Fc)))):=by apply Ends.done;have l:=fu Fc b (λr A6=>(Tp (h r A6).p).2) (by omega);simp[Zm,bq];refine L2 D5 b (λr=>.str (Fc r)) (by simp) (by omega) (λr A6=>by simp[adg (h r A6)]) ?_;simp[l]
def vp{x y:Str}(h:x≠y):Bz true (.str x) (.str y)=.ok (.AI false):=by show R.ok (D.AI (x==y))=_;rw[beq_eq_false_iff_ne.mpr h]
def lJ(x:Str):Bz true (.str x) (.str x)=.ok (.AI true):=by show R.ok (D.AI (x==x))=_;simp
def oN{s:Str}(hs:s.length≠1){o:Option Nat}(h:∀k,o=some k->k<6):TL [.str (De s o),.str s]=.ok (.v (Ei o)):=by
 cases o with
 |none=>simp[TL,ZS,Pb,Hj,De,Ei,lJ]
 |some n=>have ne:Dy n≠s:=λe=>hs (by rw[<-e];rfl);simp[TL,ZS,Pb,Hj,De,Ei,vp ne,WM n (h n rfl)]
def Zl{x:Str}(h:Iy x):Qz [.str x]=.ok (.v (.str x)):=by simp[Qz,cr,Pb,R1,Hj,Sy h]
def adf{r:E5}(h:P7 r):W1 [.str (Fc r)]=.ok (.v (D5 r)):=by
 have p:=WG (y:=sp) (c:=32) (q:=[]) (by kernel_rfl) (by kernel_rfl) (ws:=[r.p,De anyS r.a,De IX r.b]) (by simp) (λw hw=>by
  simp only[Fz,FW,or_false]at hw;rcases hw with rfl|rfl|rfl
  .exact fR h.p (by decide)
  .exact a9 (by decide) (by decide)
  .exact a9 (by decide) (by decide)) (EB (Tp h.p).2 (by decide)) (by simp)
 have FR:AO (.lst [.str r.p,.str (De anyS r.a),.str (De IX r.b)]) (.int 0)=.ok (.str r.p):=rfl;have BG:AO (.lst [.str r.p,.str (De anyS r.a),.str (De IX r.b)]) (.int 1)=.ok (.str (De anyS r.a)):=rfl;have BH:AO (.lst [.str r.p,.str (De anyS r.a),.str (De IX r.b)]) (.int 2)=.ok (.str (De IX r.b)):=rfl;have C2:Bz false (.int 3) (.int 3)=.ok (.AI false):=rfl;have DD:=oN (s:=anyS) (by decide) h.a;have Ch:=oN (s:=IX) (by decide) h.b;unfold Fc;simp[W1,cw,p,Pb,Hj,C2,FR,BG,BH,Zl h.p,N_,Na,DD,Ch,D5]
def kY{b:List E5}(h:∀r∈b,P7 r)(AF:b.length<=40):Wj [.str (JX (b.map Fc))]=.ok (.v (.lst (b.map D5))):=by have l:=om (tab:=b8) (x:="row_read") (mf:=W1) rfl (t:=Fc) (o:=D5) (xs:=b) (λr A6=>adf (h r A6)) (λr A6=>adK (h r A6).p) (λr A6=>(Tp (h r A6).p).1) (λr A6=>(Tp (h r A6).p).2) AF;simp[Wj,bp,l]
def eq_nil{α:Type}(t:α->Str)(xs:List α):Bz true (.lst (xs.map λa=>.str (t a))) (.lst [])=.ok (.AI xs.isEmpty):=by unfold Bz;rw[if_pos ⟨ky t xs,rfl⟩];cases xs<;>rfl
def kZ{b:List E5}(h:∀r∈b,P7 r)(AF:b.length<=40):TC [.lst (b.map D5)]=.ok (.v (.str (JX (b.map Fc)))):=by
 apply Ends.done;simp[TC,dU];refine Sh D5 b (λj ρ=>∃s2 s3 s4 s5,ρ=[.AM (.lst (b.map D5)),.DV ((b.take j).map λr=>.str (Fc r)),s2,s3,s4,s5]) (by simp) ⟨_,_,_,_,rfl⟩ ?_ ?_
 .rintro j r _ Bx ⟨s2,s3,s4,s5,rfl⟩;have A6:=h r (F8 Bx);have Gk:j<b.length:=(List.getElem?_eq_some_iff.mp Bx).1;have C8:(b.take (j+1)).map (λr=>D.str (Fc r))=(b.take j).map (λr=>D.str (Fc r))++[.str (Fc r)]:=by
   rw[List.take_add_one,Bx];simp
  have D7:((b.take j).map (λr=>D.str (Fc r))).length<=40:=by simp;omega
  simp only[C8];generalize(b.take j).map (λr=>D.str (Fc r))=pre at D7 |-;generalize D.lst (b.map D5)=B;have Aa:H6 false .non .non=.ok (.AI false):=rfl;have B0:∀k,H6 false (.int k) .non=.ok (.AI true):=λ_=>rfl;have Dd:∀ρ a b c v,CP.putK 5 ρ [a,b,c] v (.int 1)=.ok (.Bb (ρ.set 5 (.DV [a,v,c]))):=λ_ _ _ _ _=>rfl;have Cd:∀ρ a b c v,CP.putK 5 ρ [a,b,c] v (.int 2)=.ok (.Bb (ρ.set 5 (.DV [a,b,v]))):=λ_ _ _ _ _=>rfl;have a8:∀x,WE (.str x)=.ok (.str x):=λ_=>rfl;have L0:Dn sp [r.p,De anyS r.a,De IX r.b]=Fc r:=rfl;have aI:∀x y:Str,x.length<=4->y.length<=4->M8 sp [.lst [.str r.p,.str x,.str y]]=.ok (.str (Dn sp [r.p,x,y])):=λx y AA BO=>TZ (y:=sp) (by decide) [r.p,x,y] (λs hs=>by
   simp only[Fz,FW,or_false]at hs;rcases hs with rfl|rfl|rfl
   .rw[WH A6.p];decide
   .omega
   .omega) (by simp)
  have Za:∀n,(Dy n).length<=4:=λn=>by simp[Dy,Fm]
  cases Ai:r.a with
  |none=>
   cases BC:r.b with
   |none=>rw[Ai,BC]at L0;simp only[De]at L0;have Ql:=aI anyS IX (by decide) (by decide);simp(disch:=first|omega|(simp;done)|(simp;omega)) [D5,Ai,BC,Ei,Aa,B0,Dd,Cd,a8,Ql,L0]
   |some n=>rw[Ai,BC]at L0;simp only[De]at L0;have Ql:=aI anyS (Dy n) (by decide) (Za n);simp(disch:=first|omega|(simp;done)|(simp;omega)) [D5,Ai,BC,Ei,Aa,B0,Dd,Cd,a8,Ql,L0,Pl n (A6.b n BC)]
  |some k=>
   cases BC:r.b with
   |none=>rw[Ai,BC]at L0;simp only[De]at L0;have Ql:=aI (Dy k) IX (Za k) (by decide);simp(disch:=first|omega|(simp;done)|(simp;omega)) [D5,Ai,BC,Ei,Aa,B0,Dd,Cd,a8,Ql,L0,Pl k (A6.a k Ai)]
   |some n=>rw[Ai,BC]at L0;simp only[De]at L0;have Ql:=aI (Dy k) (Dy n) (Za k) (Za n);simp(disch:=first|omega|(simp;done)|(simp;omega)) [D5,Ai,BC,Ei,Aa,B0,Dd,Cd,a8,Ql,L0,Pl k (A6.a k Ai),Pl n (A6.b n BC)]
 .rintro _ ⟨s2,s3,s4,s5,rfl⟩;have l:=fu Fc b (λr A6=>(Tp (h r A6).p).2) (by omega);have j:=TZ (y:=cm) (by decide) (b.map Fc) (λs hs=>by obtain⟨a,A1,rfl⟩:=List.mem_map.mp hs;exact EB (Tp (h a A1).p).2 (by decide)) (by simp;omega);rw[Kj]at j;have M7:M8 cm [.lst (b.map λa=>.str (Fc a))]=.ok (.str (Dn cm (b.map Fc))):=j;have nl:=eq_nil Fc b;rw[X_];cases b with
  |nil=>simp[JX]at nl |-;simp[nl]
  |cons a r=>simp[JX]at nl M7 |-;simp[nl,M7]
def Fp:Ck->Str
 |.Fx _=>wS
 |.ac w h=>Dn sp [Il w,Dy h]
def hZ{P:Ck->Prop}(h0:P (.Fx true))(h1:P (.Fx false))(h:∀w h,w<3->h<6->P (.ac w h)){s:Ck}{n:Nat}(AU:n<=6)(hs:s.ok n):P s:=by
 cases s with
 |Fx k=>cases k<;>assumption
 |ac w k=>exact h w k hs.1 (Fk hs.2 AU)
def three{P:Nat->Nat->Prop}(h0:∀n,n<6->P 0 n)(h1:∀n,n<6->P 1 n)(h2:∀n,n<6->P 2 n):∀w h,w<3->h<6->P w h:=λw h hw BN=>by
 have:w=0\/w=1\/w=2:=by omega
 rcases this with rfl|rfl|rfl
 .exact h0 h BN
 .exact h1 h BN
 .exact h2 h BN
def ql{s:Ck}{n:Nat}(AU:n<=6)(hs:s.ok n):J_ [DE s]=.ok (.v (.str (Fp s))):=
 hZ (P:=λs=>J_ [DE s]=.ok (.v (.str (Fp s)))) (by kernel_rfl) (by kernel_rfl) (three (small (by kernel_rfl) (by kernel_rfl) (by kernel_rfl) (by kernel_rfl) (by kernel_rfl) (by kernel_rfl)) (small (by kernel_rfl) (by kernel_rfl) (by kernel_rfl) (by kernel_rfl) (by kernel_rfl) (by kernel_rfl)) (small (by kernel_rfl) (by kernel_rfl) (by kernel_rfl) (by kernel_rfl) (by kernel_rfl) (by kernel_rfl))) AU hs
def ag1{s:Ck}{n:Nat}(AU:n<=6)(hs:s.ok n):W3 [.str (Fp s)]=.ok (.v (DE (N0 s))):=
 hZ (P:=λs=>W3 [.str (Fp s)]=.ok (.v (DE (N0 s)))) (by kernel_rfl) (by kernel_rfl) (three (small (by kernel_rfl) (by kernel_rfl) (by kernel_rfl) (by kernel_rfl) (by kernel_rfl) (by kernel_rfl)) (small (by kernel_rfl) (by kernel_rfl) (by kernel_rfl) (by kernel_rfl) (by kernel_rfl) (by kernel_rfl)) (small (by kernel_rfl) (by kernel_rfl) (by kernel_rfl) (by kernel_rfl) (by kernel_rfl) (by kernel_rfl))) AU hs
def gk(s:Ck):Bool:=!(Fp s).cps.toList.contains 44&&decide (2<=(Fp s).length)&&decide ((Fp s).length<=20)
def adG{s:Ck}{n:Nat}(AU:n<=6)(hs:s.ok n):gk s=true:=
 hZ (P:=λs=>gk s=true) (by kernel_rfl) (by kernel_rfl) (three (small (by kernel_rfl) (by kernel_rfl) (by kernel_rfl) (by kernel_rfl) (by kernel_rfl) (by kernel_rfl)) (small (by kernel_rfl) (by kernel_rfl) (by kernel_rfl) (by kernel_rfl) (by kernel_rfl) (by kernel_rfl)) (small (by kernel_rfl) (by kernel_rfl) (by kernel_rfl) (by kernel_rfl) (by kernel_rfl) (by kernel_rfl))) AU hs
def Tu{s:Ck}{n:Nat}(AU:n<=6)(hs:s.ok n):44∉(Fp s).cps.toList/\2<=(Fp s).length/\(Fp s).length<=20:=by have h:=adG AU hs;simp only[gk,HT,decide_eq_true_eq,UD]at h;exact⟨λz=>by rw[List.contains_iff_mem.mpr z]at h;exact absurd h.1.1 (by decide),h.1.2,h.2⟩
def ace{AK:List Ck}{n:Nat}(AU:n<=6)(h:∀s∈AK,s.ok n)(AF:AK.length<=40):Zr [.lst (AK.map DE)]=.ok (.v (.str (JX (AK.map Fp)))):=by apply Ends.done;have l:=fu Fp AK (λs hs=>(Tu AU (h s hs)).2.2) (by omega);simp[Zr,cu];refine L2 DE AK (λr=>.str (Fp r)) (by simp) (by omega) (λr A6=>by simp[ql AU (h r A6)]) ?_;simp[l]
def abu{n:Nat}{AK:List Ck}(h:Gx n AK):Gx n (AK.map N0):=by
 refine⟨λs hs=>?_,?_⟩
 .obtain⟨t,BB,rfl⟩:=List.mem_map.mp hs;have:=h.ok t BB;cases t<;>exact this
 .have e:(AK.map N0).filter Ck.act=AK.filter Ck.act:=by
    clear h;induction AK with
    |nil=>rfl
    |cons s r Br=>cases s<;>simp[N0,Ck.act,List.filter_cons,Br]
  rw[e];exact h.B6
def ac6{cs:List Nat}{ws:List (AP×AP)}(h6:cs.length<=6){AK:List Ck}(h:Gx cs.length AK)(AF:AK.length<=40):Zq [.str (JX (AK.map Fp)),CM cs ws]=.ok (.v (.lst (AK.map λs=>DE (N0 s)))):=by have l:=om (tab:=b9) (x:="step_read") (mf:=W3) rfl (t:=Fp) (o:=λs=>DE (N0 s)) (xs:=AK) (λr A6=>ag1 h6 (h.ok r A6)) (λr A6=>(Tu h6 (h.ok r A6)).1) (λr A6=>(Tu h6 (h.ok r A6)).2.1) (λr A6=>(Tu h6 (h.ok r A6)).2.2) AF;have y:=acZ (ws:=ws) (abu h) (by simpa using AF);rw[Kj]at y;have Wt:Qv [.lst (AK.map λs=>DE (N0 s)),CM cs ws]=.ok (.v (.AI true)):=y;simp[Zq,ct,l,Wt,Pb,R1,Hj]
def acY{n k:Nat}{AK:List Ck}(h:Gx n AK):Gx n (AK.take k):=
 ⟨λs hs=>h.ok s (Xh hs),(List.Sublist.filter _ (List.take_sublist k AK)).nodup h.B6⟩
def tT{AK:List Ck}(h:AK.length<=40):GD 5 (.lst (AK.map λs=>DE (N0 s))) (.lst (AK.map DE)):=Uz (by omega) λs _=>tV 2 s
section
variable{cs:List Nat}{ws:List (AP×AP)}
def Mf(h:Eh cs ws){d:AP}(hd:d∈DP cs cs.length):d.1<6/\d.2<6:=by
 obtain⟨a,b⟩:=TN.mp hd;have h6:=h.h6;have:cs.getD d.1 0<=4:=by rw[Gq,Dw a];exact(h.c _ (UM a)).2
 omega
def i_(h:Eh cs ws){w:AP×AP}(hw:w∈ws):(w.1.1<6/\w.1.2<6)/\w.2.1<6/\w.2.2<6:=
 ⟨Mf h (h.sub _ (by simp only[ends,j5,US];exact⟨_,⟨w,hw,rfl⟩,by simp⟩)),Mf h (h.sub _ (by simp only[ends,j5,US];exact⟨_,⟨w,hw,rfl⟩,by simp⟩))⟩
def Ev(cs:List Nat)(ws:List (AP×AP)):List Str:=cs.map Dy++ws.map wT
def NA(cs:List Nat)(ws:List (AP×AP)):Str:=Dn sp (Ev cs ws)
def rf(h:Eh cs ws):J_ [.lst (Bh cs++ws.map λw=>.str (wT w))]=.ok (.v (.str (NA cs ws))):=by
 have w:=aj (W:=.lst (Bh cs++ws.map λw=>.str (wT w))) (xs:=(cs.map λc=>(D.int (c:Nat),Dy c))++ws.map λw=>(D.str (wT w),wT w)) (f:=S4) (t:=UX) (.inl (by simp[Bh,Xf])) (λa A1=>by
  rcases List.mem_append.mp A1 with A1|A1
  .obtain⟨c,AG,rfl⟩:=List.mem_map.mp A1;exact hb c (by have:=h.c c AG;omega)
  .obtain⟨c,AG,rfl⟩:=List.mem_map.mp A1;rfl) (λa A1=>by
  rcases List.mem_append.mp A1 with A1|A1
  .obtain⟨c,AG,rfl⟩:=List.mem_map.mp A1;show(Dy c).length<=20;simp[Dy,Fm]
  .obtain⟨c,AG,rfl⟩:=List.mem_map.mp A1;show(wT c).length<=20;simp[wT,Fm]) (by have:=h.few;have:=h.h6;simp;omega)
 have e:((cs.map λc=>(D.int (c:Nat),Dy c))++ws.map λw=>(D.str (wT w),wT w)).map UX=Ev cs ws:=by simp[Ev,Xf]
 rw[e]at w;exact w
def rh:Wh [CM cs ws]=.ok (.o (ws.map D6)):=by have f:Fv "Net" "joined" (CM cs ws)=.ok (.tup (ws.map D6)):=rfl;have l:Tg [.tup (ws.map D6)]=.ok (ws.map D6):=rfl;simp[Wh,bo,f,l]
def rL:MY "Net" "wires" (CM cs ws)=.ok (CM cs ws):=rfl
def kA:(DT cs.length).map (λh=>D.int (cs.getD h 0:Nat))=Bh cs:=by unfold Bh;apply List.ext_getElem (by simp);intro i h1 h2;simp only[Gp,List.length_range]at h1;simp[Gq,h1]
def kd(h:Eh cs ws):Cy (.lst (Bh cs)) (.lst (ws.map λw=>.str (wT w)))=.ok (.lst (Bh cs++ws.map λw=>.str (wT w))):=Uy (by have:=h.few;have:=h.h6;simp[Bh];omega)
def abv(h:Eh cs ws):Wo [CM cs ws]=.ok (.v (.str (NA cs ws))):=by apply Ends.done;have h6:=h.h6;have few:=h.few;simp[Wo,dg,LJ];refine Mg cs.length (λh=>.int (cs.getD h 0:Nat)) (by simp[TM,show cs.length<1000000 by omega]) (by omega) (λa A1=>by simp[hN,dH A1]) ?_;rw[kA];refine L2 D6 ws (λw=>.str (wT w)) (by simp[rL,rh]) (by omega) (λw hw=>by have l:=i_ h hw;simp[agC l.1.1 l.1.2 l.2.1 l.2.2]) ?_;simp[kd h,rf h]
def yF(w:AP×AP):Qu [.str (wT w)]=.ok (.v (.AI false)):=by have l:CQ [.str (wT w)]=.ok (.int 7):=rfl;have c:J8 (.int 7) SU=.ok (.AI false):=rfl;have BP:J8 (.int 1) (.int 7)=.ok (.AI true):=rfl;simp[Qu,dL,l,c,BP]
def ag8(h:Eh cs ws):∀x∈Ev cs ws,32∉x.cps.toList:=λx AA=>by
 rcases List.mem_append.mp AA with AA|AA
 .obtain⟨c,_,rfl⟩:=List.mem_map.mp AA;exact cj (by decide)
 .obtain⟨w,_,rfl⟩:=List.mem_map.mp AA;simp[wT];omega
def k4(h:Eh cs ws):(NA cs ws).length<=1000/\(Ev cs ws).length<=110:=by
 have few:=h.few;have h6:=h.h6;have l:(Ev cs ws).length=cs.length+ws.length:=by simp[Ev]
 have j:=join_le (y:=sp) (ws:=Ev cs ws) (m:=7) λx AA=>by
  rcases List.mem_append.mp AA with AA|AA
  .obtain⟨c,_,rfl⟩:=List.mem_map.mp AA;simp[Dy,Fm]
  .obtain⟨w,_,rfl⟩:=List.mem_map.mp AA;simp[wT,Fm]
 rw[show sp.length=1 from rfl]at j;unfold NA;omega
theorem rg(h:Eh cs ws)(T:D):∀(m k f:Nat),cs.length-k=m->k<=cs.length->m<f->
  Kd (LF (B2 (A9 Nw (Z 2) (Bm CQ (A0 (Z 1) (AB))))) (B2 (Au 1 Qu (A0 (A9 AO (Z 1) (Z 2)) (AB))))) (WY 2 (A7 (.int 1))) f [.AM T,.AM (.lst ((Ev cs ws).map .str)),.AM (.int (k:Nat))]=.ok (.Bb [.AM T,.AM (.lst ((Ev cs ws).map .str)),.AM (.int (cs.length:Nat))])
 |m,k,0,_,_,hf=>by omega
 |0,k,f+1,e,AQ,hf=>by
  have GX:k=cs.length:=by omega
  subst GX;cases IZ:ws with
  |nil=>simp[Kd,Ev]
  |cons w r=>
   have TX:AO (.lst ((Ev cs (w::r)).map .str)) (.int (cs.length:Nat))=.ok (.str (wT w)):=Mq (by simp[Ev]);have lt:((cs.length:Nat):Int)<((Ev cs (w::r)).length:Nat):=by simp[Ev];omega
   simp[Kd,TX,yF,lt]
 |m+1,k,f+1,e,AQ,hf=>by
  have L7:k<cs.length:=by omega
  have TX:AO (.lst ((Ev cs ws).map .str)) (.int (k:Nat))=.ok (.str (Dy cs[k])):=Mq (by simp[Ev,Hs,L7]);have lt:(k:Int)<((Ev cs ws).length:Nat):=by simp[Ev];omega
  have vG:cs[k]<6:=by have:=h.c _ (UM L7);omega
  have Br:=rg h T m (k+1) f (by omega) (by omega) (by omega);have SM:WY 2 (A7 (.int 1)) [.AM T,.AM (.lst ((Ev cs ws).map .str)),.AM (.int (k:Nat))]=.ok (.Bb [.AM T,.AM (.lst ((Ev cs ws).map .str)),.AM (.int ((k+1:Nat):Int))]):=rfl;simp[Kd,TX,yE _ vG,lt,SM];exact Br
def abt(h:Eh cs ws):Zp [.str (NA cs ws)]=.ok (.v (CM cs ws)):=by
 have aae:Ev cs ws≠[]:=λz=>by
  have l:(Ev cs ws).length=cs.length+ws.length:=by simp[Ev]
  rw[z]at l;have:=h.h1;simp only[MO]at l;omega
 have p:=WG (y:=sp) (c:=32) (q:=[]) (by kernel_rfl) (by kernel_rfl) (ws:=Ev cs ws) aae (ag8 h) (k4 h).1 (by have:=(k4 h).2;omega);have wl:=rg h (.str (NA cs ws)) cs.length 0 1000 (by omega) (by omega) (by have:=h.h6;omega);have few:=h.few;have h6:=h.h6;have BP:FF ((Ev cs ws).map D.str) none (some (cs.length:Int))=cs.map λc=>D.str (Dy c):=by rw[cc];simp[Ev]
 have Ce:FF ((Ev cs ws).map D.str) (some (cs.length:Int)) none=ws.map λw=>D.str (wT w):=by rw[kF];simp[Ev]
 have k1:=dG (mi:=ET (JA JF (Z 1) (LI) (J9 (Z 2)))) (me:=Au 1 MC (A0 (Z 0) (AB))) (caps:=[]) (ρ:=[.AM (.str (NA cs ws)),.AM (.lst ((Ev cs ws).map .str)),.AM (.int (cs.length:Nat))]) (λc:Nat=>.str (Dy c)) (λc:Nat=>.int (c:Nat)) cs (by simp[BP]) (by omega) (λc AG=>by simp[WM c (by have:=h.c c AG;omega)]);have k2:=dG (mi:=ET (JA JF (Z 1) (J9 (Z 2)) (LI))) (me:=Au 1 W5 (A0 (Z 0) (AB))) (caps:=[]) (ρ:=[.AM (.str (NA cs ws)),.AM (.lst ((Ev cs ws).map .str)),.AM (.int (cs.length:Nat))]) (λw:AP×AP=>.str (wT w)) D6 ws (by simp[Ce]) (by omega) (λw hw=>by have l:=i_ h hw;simp[agB l.1.1 l.1.2 l.2.1 l.2.2]);have i:=nr cs ws h;unfold NA at p wl k1 k2 |-;simp[Zp,df,p,R1,Hj,Qp]at wl |-;simp[wl,We,k1,k2];unfold Bh at i;simp[i,CM,Bh]
end
def outs(cs:List Nat)(ws:List (AP×AP))(n:Nat):List AP:=(DP cs n).filter λd=>!decide (d∈ends ws)
def acm(cs:List Nat)(ws:List (AP×AP))(n:Nat):outs cs ws (n+1)=outs cs ws n++(K6 cs n).filter (λd=>!decide (d∈ends ws)):=by unfold outs;rw[ZI,List.filter_append]
def qI{cs:List Nat}(ws:List (AP×AP))(h:∀c∈cs,1<=c/\c<=4)(n:Nat):(outs cs ws n).length<=4*n:=EB (iq _ _) (SJ h n)
abbrev parts(cs:List Nat)(ws:List (AP×AP)):D:=.tup [.lst (Bh cs),.lst (ws.map D6)]
def og{cs:List Nat}{ws:List (AP×AP)}(Bi:Eh cs ws):TG [parts cs ws]=.ok (.o ((outs cs ws cs.length).map BD)):=by
 apply Ends.done;have h6:=Bi.h6;have few:=Bi.few;have G9:AO (parts cs ws) (.int 0)=.ok (.lst (Bh cs)):=rfl;have Dd:AO (parts cs ws) (.int 1)=.ok (.lst (ws.map D6)):=rfl;have lcs:(Bh cs).length=cs.length:=by simp[Bh]
 simp[TG,dZ];refine RN (λw:AP×AP=>BD w.1) (λw=>BD w.2) ws (λw=>BD w.1) (by simp[Dd];intros;rfl) (by omega) (λw _=>by simp) ?_;refine RN (λw:AP×AP=>BD w.1) (λw=>BD w.2) ws (λw=>BD w.2) (by simp[Dd];intros;rfl) (by omega) (λw _=>by simp) ?_;have nt:Cy (.lst (ws.map λw=>BD w.1)) (.lst (ws.map λw=>BD w.2))=.ok (.lst ((ws.map (·.1)++ws.map (·.2)).map BD)):=by rw[Uy (by simp;omega),j_,Kj,Kj];rfl
 have hm:∀d,d∈ws.map (·.1)++ws.map (·.2)↔d∈ends ws:=λd=>by
  simp only[ends,Y2,US,j5];constructor
  .rintro(⟨w,hw,rfl⟩|⟨w,hw,rfl⟩)
   .exact⟨[w.1,w.2],⟨w,hw,rfl⟩,by simp⟩
   .exact⟨[w.1,w.2],⟨w,hw,rfl⟩,by simp⟩
  .rintro⟨_,⟨w,hw,rfl⟩,hd⟩;simp at hd;rcases hd with rfl|rfl
   .exact .inl ⟨w,hw,rfl⟩
   .exact .inr ⟨w,hw,rfl⟩
 generalize o9:ws.map (·.1)++ws.map (·.2)=inner at nt hm;rw[nt,EN];refine eR cs.length (λj ρ=>∃s3,ρ=[.AM (parts cs ws),.AM (.lst (inner.map BD)),.DV ((outs cs ws j).map BD),s3]) (by simp(disch:=first|omega|(simp;done)|(simp;omega)) [G9,lcs]) ⟨.un,by simp[outs,DP]⟩ ?_ ?_
 .rintro j _ Bx ⟨s3,rfl⟩;have Nt:=Z7 (λc h=>(Bi.c c h).2) j;have C2:AO (.lst (Bh cs)) (.int (j:Int))=.ok (.int (cs.getD j 0:Nat)):=Mq (Z_ Bx);have lo:=qI ws Bi.c j;simp only[Gq]at C2 Nt;simp;refine eQ (λk:Nat=>D.int (k:Int)) (DT (cs[j]?.getD 0)) (λk=>!decide ((j,k)∈inner)) (λk=>BD (j,k)) (by simp[G9,C2,show cs[j]?.getD 0<1000000 by omega,pU]) (by simp;omega) (λk _=>?_) (λk _ _=>by simp[BD]) ?_
  .exact oW (d:=(j,k)) (by simp[BD]) rfl
  .have el:((DT (cs[j]?.getD 0)).filter (λk=>!decide ((j,k)∈inner))).map (λk=>BD (j,k))=((K6 cs j).filter (λd=>!decide (d∈ends ws))).map BD:=by
     unfold K6;rw[List.filter_map,Kj,Gq]
     congr 1
     congr 1
     funext k
     simp only[Function.comp];rw[show decide ((j,k)∈inner)=decide ((j,k)∈ends ws)from decide_eq_decide.mpr (hm (j,k))]
   have Q1:((K6 cs j).filter (λd=>!decide (d∈ends ws))).length<=4:=EB (iq _ _) (lx Bi.c j);rw[el];simp(disch:=first|omega|(simp;done)|(simp;omega)) [acm]
 .rintro _ ⟨s3,rfl⟩;simp
inductive Yg where
 |no
 |Nc (e:AP)
 |AN (n:Nat)
structure Lx where
 w:Nat
 p:Str
 d:AP
 x:Yg
noncomputable def wn(k:Nat):Str:=if k=0 then As "comes" else if k=1 then As "leaves" else if k=2 then As "noring" else if k=3 then As "by" else As "never"
def rm:Yg->List D
 |.no=>[]
 |.Nc e=>[BD e]
 |.AN n=>[.int (n:Nat)]
def DL(s:Lx):D:=.tup ([.str (wn s.w),.str s.p,BD s.d]++rm s.x)
structure KG(cs:List Nat)(os:List AP)(s:Lx):Prop where
 p:Iy s.p
 d:s.d∈os
 k:(s.w=0/\∃e∈os,s.x=.Nc e)\/((s.w=1\/s.w=2)/\s.x=.no)\/((s.w=3\/s.w=4)/\∃n,n<cs.length/\s.x=.AN n)
def et{os:List AP}(h:0<os.length)(y:Int):∃d,d∈os/\AO (.lst (os.map BD)) (.int (y%(os.length:Int)))=.ok (BD d):=by
 have h1:0<=y%(os.length:Int):=QI _ (by omega);have h2:y%(os.length:Int)<os.length:=Ru _ (by omega);have AQ:(y%(os.length:Int)).toNat<os.length:=by omega
 refine⟨os[(y%(os.length:Int)).toNat],UM AQ,?_⟩;have e:=Mq (xs:=os.map BD) (k:=(y%(os.length:Int)).toNat) (d:=BD os[(y%(os.length:Int)).toNat]) (by simp[AQ])
 rwa [Int.toNat_of_nonneg h1]at e
def acU(y:Int):∃c,Su c/\AO (.str (As "01x")) (.int (y%3))=.ok (EF c):=by
 have h:y%3=0\/y%3=1\/y%3=2:=by omega
 rcases h with h|h|h<;>rw[h]
 .exact⟨48,.inl rfl,rfl⟩
 .exact⟨49,.inr (.inl rfl),rfl⟩
 .exact⟨120,.inr (.inr rfl),rfl⟩
def five{P:Nat->Prop}(h0:P 0)(h1:P 1)(h2:P 2)(h3:P 3)(h4:P 4):∀n,n<5->P n:=λn h=>by
 have:n=0\/n=1\/n=2\/n=3\/n=4:=by omega
 rcases this with rfl|rfl|rfl|rfl|rfl<;>assumption
def w_is:∀k,k<5->Bz true (.str (wn k)) (.str (As "comes"))=.ok (.AI (decide (k=0))):=five (by kernel_rfl) (by kernel_rfl) (by kernel_rfl) (by kernel_rfl) (by kernel_rfl)
def iY:∀k,k<5->inD true (.str (wn k)) (.tup [.str (As "by"),.str (As "never")])=.ok (.AI (decide (3<=k))):=five (by kernel_rfl) (by kernel_rfl) (by kernel_rfl) (by kernel_rfl) (by kernel_rfl)
def aem{cs:List Nat}{ws:List (AP×AP)}(Bi:Eh cs ws)(ns:List Int):∃ss:List Lx,(∀s∈ss,KG cs (outs cs ws cs.length) s)/\Wm [parts cs ws,.Cs (ns.map D.int)]=.ok (.o (ss.map DL)):=by
 suffices h:Ends (Wm [parts cs ws,.Cs (ns.map D.int)]) λb=>∃ss:List Lx,(∀s∈ss,KG cs (outs cs ws cs.length) s)/\b=.o (ss.map DL)by
  obtain⟨b,e,ss,h,rfl⟩:=h;exact⟨ss,h,e⟩
 have lo:=og Bi;have h1:=Bi.h1;have h6:=Bi.h6;have ol:=qI ws Bi.c cs.length;have op:0<(outs cs ws cs.length).length:=by obtain⟨d,h1,h2⟩:=Bi.out;exact Rg (List.mem_filter.mpr ⟨h1,by simpa using h2⟩)
 have G9:AO (parts cs ws) (.int 0)=.ok (.lst (Bh cs)):=rfl;have lcs:(Bh cs).length=cs.length:=by simp[Bh]
 simp[Wm,db,lo];generalize outs cs ws cs.length=os at op ol |-;generalize parts cs ws=PP at G9 |-;refine Sh (λk:Nat=>.tup [.int (k:Int),.str (wn k)]) [0,1,2,3,4] (λj ρ=>∃(ss:List Lx)(s4 s5 G_ Dt Ka Tt:DG),(∀s∈ss,KG cs os s)/\ss.length=j/\ρ=[.AM PP,.AM (.Cs (ns.map D.int)),.AM (.lst (os.map BD)),.DV (ss.map DL),s4,s5,G_,Dt,Ka,Tt]) rfl ⟨[],_,_,_,_,_,_,by simp,rfl,rfl⟩ ?_ ?_
 .rintro j k _ Bx ⟨ss,s4,s5,G_,Dt,Ka,Tt,hs,hlen,rfl⟩;have oA:k<5:=by have:=F8 Bx;simp at this;omega
  have aiD:j<5:=by have:=(List.getElem?_eq_some_iff.mp Bx).1;simpa using this
  obtain⟨c,ec⟩:=SZ ns (1+k);rw[show((1+k:Nat):Int)=1+(k:Int)by omega]at ec;obtain⟨I3,F2⟩:=My c 5 (by omega);obtain⟨Kg,Hb⟩:=My c 6 (by omega);obtain⟨I4,K7⟩:=My c 7 (by omega);obtain⟨d,hd,EC⟩:=et op I3;obtain⟨CC,hd2,vc⟩:=et op Kg;have Am:∀i:Nat,∃s,Su s/\(i<4->∃y,G8 [.int c,.int (i:Int)]=.ok (.v (.int y))/\AO (.str (As "01x")) (.int (y%3))=.ok (EF s)):=λi=>by
   by_cases AC:i<4
   .obtain⟨y,EK⟩:=My c i (by omega);obtain⟨s,h1,h2⟩:=acU y;exact⟨s,h1,λ_=>⟨y,EK,h2⟩⟩
   .exact⟨48,.inl rfl,λz=>absurd z AC⟩
  have y5:=λi=>tL (Am i);generalize wd:(λi=>tP (Am i))=E6;have VM:∀i,Su (E6 i)/\(i<4->∃y,G8 [.int c,.int (i:Int)]=.ok (.v (.int y))/\AO (.str (As "01x")) (.int (y%3))=.ok (EF (E6 i))):=λi=>by rw[<-wd];exact y5 i
  have pt:Iy ⟨#[E6 0,E6 1,E6 2,E6 3]⟩:=⟨rfl,by simp[(VM 0).1,(VM 1).1,(VM 2).1,(VM 3).1]⟩;have Lg:G8 [.int c,.int 5]=.ok (.v (.int I3)):=F2;have Jc:G8 [.int c,.int 6]=.ok (.v (.int Kg)):=Hb;have Hk:G8 [.int c,.int 7]=.ok (.v (.int I4)):=K7;have LK:OR [.int 4]=.ok (GJ 0 4):=rfl;have aaJ:∃n:Nat,n<cs.length/\I4%(cs.length:Int)=(n:Int):=⟨(I4%(cs.length:Int)).toNat,by have:=QI I4 (show(cs.length:Int)≠0 by omega);have:=Ru I4 (show(0:Int)<cs.length by omega);omega,by have:=QI I4 (show(cs.length:Int)≠0 by omega);omega⟩;obtain⟨PY,xv,vg⟩:=aaJ;simp[ec];refine Mg 4 (λi=>EF (E6 i)) (by simp[LK]) (by omega) (λi AC=>by obtain⟨y,a,b⟩:=(VM i).2 AC;simp[a,b]) ?_;have KZ:(DT 4).map (λi=>EF (E6 i))=[EF (E6 0),EF (E6 1),EF (E6 2),EF (E6 3)]:=rfl;have WF:(os.length:Int)≠0:=by omega
  have uj:(cs.length:Int)≠0:=by omega
  have Fs:=w_is k oA;have Eu:=iY k oA;have ai1:(ss.map DL).length<1000:=by simp;omega
  rw[KZ];have fin:∀x,KG cs os ⟨k,⟨#[E6 0,E6 1,E6 2,E6 3]⟩,d,x⟩->∃OY:List Lx,(∀s∈OY,KG cs os s)/\OY.length=j+1/\ss.map DL++[DL ⟨k,⟨#[E6 0,E6 1,E6 2,E6 3]⟩,d,x⟩]=OY.map DL:=λx AA=>
   ⟨ss++[⟨k,⟨#[E6 0,E6 1,E6 2,E6 3]⟩,d,x⟩],λs Ia=>by
     rcases List.mem_append.mp Ia with h|h
     .exact hs s h
     .rw[List.mem_singleton.mp h];exact AA,by simp[hlen],by simp⟩
  have Cn:∀(xs ys:List D),xs.length+ys.length<=10->SY (.tup xs) (.tup ys)=.ok (.tup (xs++ys)):=λxs ys h=>if_pos (by omega);by_cases h0:k=0
  .have h3:¬3<=k:=by omega
   rw[decide_eq_true h0]at Fs;rw[decide_eq_false h3]at Eu;obtain⟨OY,a,b,e⟩:=fin (.Nc CC) ⟨pt,hd,.inl ⟨h0,CC,hd2,rfl⟩⟩;simp(disch:=first|omega|(simp;done)|(simp;omega)) [aJ,Lg,Jc,EC,vc,Fs,Eu,WF,Cn];exact⟨OY,a,b,e⟩
  .rw[decide_eq_false h0]at Fs;by_cases h3:3<=k
   .rw[decide_eq_true h3]at Eu;obtain⟨OY,a,b,e⟩:=fin (.AN PY) ⟨pt,hd,.inr (.inr ⟨show k=3\/k=4 by omega,PY,xv,rfl⟩)⟩;simp(disch:=first|omega|(simp;done)|(simp;omega)) [aJ,Lg,Hk,EC,Fs,Eu,WF,uj,Cn,G9,lcs,vg];exact⟨OY,a,b,e⟩
   .rw[decide_eq_false h3]at Eu;obtain⟨OY,a,b,e⟩:=fin .no ⟨pt,hd,.inr (.inl ⟨show k=1\/k=2 by omega,rfl⟩)⟩;simp(disch:=first|omega|(simp;done)|(simp;omega)) [aJ,Lg,EC,Fs,Eu,WF];exact⟨OY,a,b,e⟩
 .rintro _ ⟨ss,s4,s5,G_,Dt,Ka,Tt,hs,_,rfl⟩;simp;exact⟨ss,hs,rfl⟩
def Im:Yg->List Str
 |.no=>[]
 |.Nc e=>[B5 e]
 |.AN n=>[Dy n]
def Ra(s:Lx):Str:=Dn sp ([wn s.w,s.p,B5 s.d]++Im s.x)
def rp:Yg->List (D×D×Str)
 |.no=>[]
 |.Nc e=>[(BD e,.str (B5 e),B5 e)]
 |.AN n=>[(.int (n:Nat),.int (n:Nat),Dy n)]
def Mp(s:Lx):List (D×D×Str):=[(.str (wn s.w),.str (wn s.w),wn s.w),(.str s.p,.str s.p,s.p),(BD s.d,.str (B5 s.d),B5 s.d)]++rp s.x
section
variable{cs:List Nat}{ws:List (AP×AP)}{s:Lx}
def Pc(h:Eh cs ws){d:AP}(hd:d∈outs cs ws cs.length):d∈DP cs cs.length/\d∉ends ws:=by obtain⟨a,b⟩:=List.mem_filter.mp hd;exact⟨a,by simpa using b⟩
def agZ:∀k,k<5->(!(wn k).cps.toList.contains 32&&decide ((wn k).length<=20))=true:=five (by kernel_rfl) (by kernel_rfl) (by kernel_rfl) (by kernel_rfl) (by kernel_rfl)
def w_lt(h:KG cs (outs cs ws cs.length) s):s.w<5:=by rcases h.k with⟨a,_⟩|⟨a,_⟩|⟨a,_⟩<;>omega
def iL(Bi:Eh cs ws)(h:KG cs (outs cs ws cs.length) s):∀t∈[wn s.w,s.p,B5 s.d]++Im s.x,32∉t.cps.toList/\t.length<=20:=λt BB=>by
 have wf:=agZ s.w (w_lt h);simp only[HT,decide_eq_true_eq,UD]at wf;have lq:∀d:AP,32∉(B5 d).cps.toList/\(B5 d).length<=20:=λd=>⟨by simp[B5];omega,by simp[B5,Fm]⟩;rcases List.mem_append.mp BB with BB|BB
 .simp only[Fz,FW,or_false]at BB;rcases BB with rfl|rfl|rfl
  .exact⟨λz=>by rw[List.contains_iff_mem.mpr z]at wf;exact absurd wf.1 (by decide),wf.2⟩
  .exact⟨fR h.p (by decide),by rw[WH h.p];decide⟩
  .exact lq _
 .cases AA:s.x with
  |no=>rw[AA]at BB;cases BB
  |Nc e=>rw[AA]at BB;rw[List.mem_singleton.mp BB];exact lq _
  |AN n=>rw[AA]at BB;rw[List.mem_singleton.mp BB];exact⟨cj (by decide),by simp[Dy,Fm]⟩
def fF(Bi:Eh cs ws)(h:KG cs (outs cs ws cs.length) s){n:Nat}(AA:s.x=.AN n):n<6:=by
 have h6:=Bi.h6;rcases h.k with⟨_,e,_,z⟩|⟨_,z⟩|⟨_,m,hm,z⟩
 .rw[AA]at z;cases z
 .rw[AA]at z;cases z
 .rw[AA]at z;cases z;omega
def vW(Bi:Eh cs ws)(h:KG cs (outs cs ws cs.length) s){d:AP}(AA:s.x=.Nc d):d∈outs cs ws cs.length:=by
 rcases h.k with⟨_,e,he,z⟩|⟨_,z⟩|⟨_,m,hm,z⟩
 .rw[AA]at z;cases z;exact he
 .rw[AA]at z;cases z
 .rw[AA]at z;cases z
def ahL(Bi:Eh cs ws)(h:KG cs (outs cs ws cs.length) s):Zu [DL s]=.ok (.v (.str (Ra s))):=by
 have ld:=Mf Bi (Pc Bi h.d).1;have Bn:=iL Bi h;have it:∀x:Str,Cp "tuple" (.str x)=.ok (.AI false):=λ_=>rfl;have nK:∀d:AP,Cp "tuple" (BD d)=.ok (.AI true):=λ_=>rfl;have yG:∀i,Cp "tuple" (.int i)=.ok (.AI false):=λ_=>rfl;have BG:DL s=.tup ((Mp s).map (·.1)):=by unfold DL Mp;cases s.x<;>rfl
 have BH:[wn s.w,s.p,B5 s.d]++Im s.x=(Mp s).map (·.2.2):=by unfold Mp;cases s.x<;>rfl
 have Py:(Mp s).length<=4:=by unfold Mp;cases s.x<;>simp[rp]
 have VZ:∀a∈Mp s,LG (B2 (D4 (Cp "tuple") (Z 0))) (Au 1 NQ (A0 (Z 0) (AB))) (Z 0) [.AM a.1]=.ok a.2.1/\Kb [a.2.1]=.ok (.str a.2.2):=λa A1=>by
  rcases List.mem_append.mp A1 with A1|A1
  .simp only[Fz,FW,or_false]at A1;rcases A1 with rfl|rfl|rfl
   .exact⟨by simp[it],rfl⟩
   .exact⟨by simp[it],rfl⟩
   .exact⟨by simp[nK,Me ld.1 ld.2],rfl⟩
  .cases AA:s.x with
   |no=>rw[AA]at A1;cases A1
   |Nc e=>have le:=Mf Bi (Pc Bi (vW Bi h AA)).1;rw[AA]at A1;rw[List.mem_singleton.mp A1];exact⟨by simp[nK,Me le.1 le.2],rfl⟩
   |AN n=>rw[AA]at A1;rw[List.mem_singleton.mp A1];exact⟨by simp[yG],hb n (fF Bi h AA)⟩
 have w:=aj (W:=.lst ((Mp s).map (·.2.1))) (xs:=Mp s) (f:=(·.2.1)) (t:=(·.2.2)) (.inl rfl) (λa A1=>(VZ a A1).2) (λa A1=>(Bn a.2.2 (by rw[BH];exact List.mem_map.mpr ⟨a,A1,rfl⟩)).2) (by omega);rw[BG];unfold Ra;rw[BH];apply Ends.done;simp[Zu,cz];refine L2 (·.1) (Mp s) (·.2.1) (by simp) (by omega) (λa A1=>(VZ a A1).1) ?_;simp[w]
def WS:NR=NQ:=rfl
def ahM(Bi:Eh cs ws)(h:KG cs (outs cs ws cs.length) s):TH [DL s]=.ok (.v (.str (Ra s))):=by
 have ld:=Mf Bi (Pc Bi h.d).1;have Bn:=iL Bi h;have Fs:=w_is s.w (w_lt h);have Eu:=iY s.w (w_lt h);have j:=TZ (y:=sp) (by decide) ([wn s.w,s.p,B5 s.d]++Im s.x) (λt BB=>EB (Bn t BB).2 (by decide)) (by cases s.x<;>simp[Im]);have FR:AO (DL s) (.int 0)=.ok (.str (wn s.w)):=by unfold DL;cases s.x<;>rfl
 have BG:AO (DL s) (.int 1)=.ok (.str s.p):=by unfold DL;cases s.x<;>rfl
 have BH:AO (DL s) (.int 2)=.ok (BD s.d):=by unfold DL;cases s.x<;>rfl
 have Vd:=Me ld.1 ld.2;unfold Ra;rcases h.k with⟨a,e,he,z⟩|⟨a,z⟩|⟨a,n,AU,z⟩
 .have le:=Mf Bi (Pc Bi he).1;have Py:AO (DL s) (.int 3)=.ok (BD e):=by unfold DL;rw[z];rfl
  rw[decide_eq_true a]at Fs;rw[decide_eq_false (by omega)]at Eu;rw[z]at j |-;simp[Im]at j |-;simp[TH,Ub,WS,FR,BG,BH,Py,Vd,Me le.1 le.2,Fs,Eu,j]
 .rw[decide_eq_false (by omega)]at Fs Eu;rw[z]at j |-;simp[Im]at j |-;simp[TH,Ub,WS,FR,BG,BH,Vd,Fs,Eu,j]
 .have Py:AO (DL s) (.int 3)=.ok (.int (n:Nat)):=by unfold DL;rw[z];rfl
  have fp:n<6:=fF Bi h z;rw[decide_eq_false (by omega)]at Fs;rw[decide_eq_true (by omega)]at Eu;rw[z]at j |-;simp[Im]at j |-;simp[TH,Ub,WS,FR,BG,BH,Py,Vd,Pl n fp,Fs,Eu,j]
end
theorem mF{me:AX}:∀(xs:List (Str×Str×D))(ws:List D)(s0 s1:DG),ws.length+xs.length<=1000->(∀a∈xs,me [.AM (.fn a.1),.AM (.str a.2.1)]=.ok a.2.2)->Ea (F6 [BI 0,BI 1]) D2 me (xs.map λa=>.tup [.fn a.1,.str a.2.1]) [s0,s1] ws=.ok (ws++xs.map (·.2.2))
 |[],ws,s0,s1,_,_=>by simp[Ea]
 |a::xs,ws,s0,s1,AF,h=>by simp only[Eo]at AF;have Cc:F6 [BI 0,BI 1] (.tup [.fn a.1,.str a.2.1]) [s0,s1]=.ok [.AM (.fn a.1),.AM (.str a.2.1)]:=rfl;simp only[EU,Ea,D2,Cc,EN,if_true,h a (by simp),if_pos (show ws.length<1000000 by omega)];rw[mF xs _ _ _ (by simp;omega) λb J=>h b (by simp[J])];simp
abbrev Oc:=b7
def uK:∀k,k<5->Ve "SAYING_READS" Pm (.str (wn k)) (.fn "SAYING_READS")=.ok (.AI false):=five (by kernel_rfl) (by kernel_rfl) (by kernel_rfl) (by kernel_rfl) (by kernel_rfl)
def WL(k:Nat):List D:=if k=0 then[.fn "pattern_read",.fn "door_read",.fn "door_read"]else if k<3 then[.fn "pattern_read",.fn "door_read"]else[.fn "pattern_read",.fn "door_read",.fn "number_read"]
def uJ:∀k,k<5->Ox "SAYING_READS" Pm (.fn "SAYING_READS") (.str (wn k))=.ok (.DB (WL k)):=five (by kernel_rfl) (by kernel_rfl) (by kernel_rfl) (by kernel_rfl) (by kernel_rfl)
def ag_:∀k,k<5->inD true (.str (wn k)) (.tup [.str (As "leaves"),.str (As "noring")])=.ok (.AI (decide (k=1\/k=2))):=five (by kernel_rfl) (by kernel_rfl) (by kernel_rfl) (by kernel_rfl) (by kernel_rfl)
section
variable{cs:List Nat}{ws:List (AP×AP)}{s:Lx}
def fP(Bi:Eh cs ws){d:AP}(hd:d∈outs cs ws cs.length):Q7 [CM cs ws,BD d]=.ok (.v (.AI true)):=by obtain⟨a,b⟩:=Pc Bi hd;rw[ack ws a,decide_eq_false b];rfl
def hM:MY "Net" "is_outer" (CM cs ws)=.ok (CM cs ws):=rfl
def ael(Bi:Eh cs ws)(h:KG cs (outs cs ws cs.length) s):TA [DL s,CM cs ws]=.ok (.v (.AI true)):=by
 have Fs:=w_is s.w (w_lt h);have Eu:=iY s.w (w_lt h);have N2:=ag_ s.w (w_lt h);have FR:AO (DL s) (.int 0)=.ok (.str (wn s.w)):=by unfold DL;cases s.x<;>rfl
 have BG:AO (DL s) (.int 1)=.ok (.str s.p):=by unfold DL;cases s.x<;>rfl
 have BH:AO (DL s) (.int 2)=.ok (BD s.d):=by unfold DL;cases s.x<;>rfl
 have it:Cp "tuple" (DL s)=.ok (.AI true):=rfl;have KV:inD false (.int 3) (.tup [.int 3,.int 4])=.ok (.AI false):=rfl;have Mz:inD false (.int 4) (.tup [.int 3,.int 4])=.ok (.AI false):=rfl;have wE:Bz true (.int 3) (.int 3)=.ok (.AI true):=rfl;have ly:Bz true (.int 4) (.int 3)=.ok (.AI false):=rfl;have CY:=fP Bi h.d;rcases h.k with⟨a,e,he,z⟩|⟨a,z⟩|⟨a,n,AU,z⟩
 .have Py:AO (DL s) (.int 3)=.ok (BD e):=by unfold DL;rw[z];rfl
  have l:CQ [DL s]=.ok (.int 4):=by unfold DL;rw[z];rfl
  rw[decide_eq_true a]at Fs;simp[TA,Ua,it,l,Mz,FR,BG,BH,Py,V5,Sy h.p,hM,CY,ly,Fs,fP Bi he]
 .have l:CQ [DL s]=.ok (.int 3):=by unfold DL;rw[z];rfl
  rw[decide_eq_true a]at N2;simp[TA,Ua,it,l,KV,FR,BG,BH,V5,Sy h.p,hM,CY,wE,N2]
 .have Py:AO (DL s) (.int 3)=.ok (.int (n:Nat)):=by unfold DL;rw[z];rfl
  have l:CQ [DL s]=.ok (.int 4):=by unfold DL;rw[z];rfl
  rw[decide_eq_false (by omega)]at Fs;rw[decide_eq_true (by omega)]at Eu;have HE:=U2 (n:Nat) 0 ((cs.length:Int)-1);rw[decide_eq_true (by omega),decide_eq_true (by omega)]at HE;simp[TA,Ua,it,l,Mz,FR,BG,BH,Py,V5,Sy h.p,hM,CY,ly,Fs,Eu,TM,HE]
def ahK(Bi:Eh cs ws)(h:KG cs (outs cs ws cs.length) s):W2 [.str (Ra s),CM cs ws]=.ok (.v (DL s)):=by
 have Bn:=iL Bi h;have ld:=Mf Bi (Pc Bi h.d).1;have Nt:([wn s.w,s.p,B5 s.d]++Im s.x).length<=4:=by cases s.x<;>simp[Im]
 have TY:=join_le (y:=sp) (ws:=[wn s.w,s.p,B5 s.d]++Im s.x) (m:=20) λt BB=>(Bn t BB).2;have p:=WG (y:=sp) (c:=32) (q:=[]) (by kernel_rfl) (by kernel_rfl) (ws:=[wn s.w,s.p,B5 s.d]++Im s.x) (by simp) (λt BB=>(Bn t BB).1) (by rw[show sp.length=1 from rfl]at TY;omega) (by omega);have t1:Oc "pattern_read"=some Qz:=by kernel_rfl
 have Hn:Oc "door_read"=some Q8:=by kernel_rfl
 have t3:Oc "number_read"=some MC:=by kernel_rfl
 have BP:∀x:Str,Ic 0 Oc (A0 (Z 1) (AB)) [.AM (.fn "pattern_read"),.AM (.str x)]=Au 1 Qz (A0 (Z 1) (AB)) [.AM (.fn "pattern_read"),.AM (.str x)]:=λx=>Vc rfl t1;have Ce:∀x:Str,Ic 0 Oc (A0 (Z 1) (AB)) [.AM (.fn "door_read"),.AM (.str x)]=Au 1 Q8 (A0 (Z 1) (AB)) [.AM (.fn "door_read"),.AM (.str x)]:=λx=>Vc rfl Hn;have ER:∀x:Str,Ic 0 Oc (A0 (Z 1) (AB)) [.AM (.fn "number_read"),.AM (.str x)]=Au 1 MC (A0 (Z 1) (AB)) [.AM (.fn "number_read"),.AM (.str x)]:=λx=>Vc rfl t3;have fin:∀(xs:List (Str×Str×D)),xs.length<=3->[wn s.w,s.p,B5 s.d]++Im s.x=wn s.w::xs.map (·.2.1)->WL s.w=xs.map (λa=>D.fn a.1)->DL s=.tup (.str (wn s.w)::xs.map (·.2.2))->(∀a∈xs,Ic 0 Oc (A0 (Z 1) (AB)) [.AM (.fn a.1),.AM (.str a.2.1)]=.ok a.2.2)->W2 [.str (Ra s),CM cs ws]=.ok (.v (DL s)):=λxs AF h1 h2 h3 h4=>by
  have hg:=ael Bi h;rw[h3]at hg;unfold Ra;rw[h1]at p |-;have g:=uJ s.w (w_lt h);have nn:=uK s.w (w_lt h);rw[h2]at g;have Co:iE [.DB (xs.map λa=>D.fn a.1),.lst ((xs.map (·.2.1)).map D.str)]=.ok (xs.map λa=>.tup [.fn a.1,.str a.2.1]):=by show R.ok (zip2 _ _)=_;unfold zip2;rw[Kj,List.zip_map',Kj];rfl
  have Z9:=mF xs [] .un .un (by simp;omega) h4;rw[jW]at Z9;rw[EU]at p;rw[h3];have oX:((xs.map (·.2.1)).map D.str).length=xs.length:=by simp
  have pQ:(xs.map λa=>D.fn a.1).length=xs.length:=by simp
  have aaj:(xs.map (·.2.2)).length=xs.length:=by simp
  generalize(xs.map (·.2.1)).map D.str=Uw at p Co oX |-;generalize Dn sp (wn s.w::xs.map (·.2.1))=kg at p |-;generalize(xs.map λa=>D.fn a.1)=KT at Co g pQ |-;generalize(xs.map λa=>D.tup [.fn a.1,.str a.2.1])=tp at Co Z9 |-;generalize xs.map (·.2.2)=Uv at Z9 aaj hg |-;have FR:AO (.lst (.str (wn s.w)::Uw)) (.int 0)=.ok (.str (wn s.w)):=Mq (k:=0) rfl;have E6:FF (D.str (wn s.w)::Uw) (some 1) none=Uw:=kF _ 1;have le:Bz false (.int (xs.length:Int)) (.int (xs.length:Int))=.ok (.AI false):=by show R.ok (D.AI (!(((xs.length:Nat):Int)==((xs.length:Nat):Int))))=_;simp
  have lk:CQ [.DB KT]=.ok (.int (xs.length:Nat)):=by rw[<-pQ];rfl
  have mi:∀s3 s4,Nz (A0 (A9 (Ox "SAYING_READS" Pm) (A7 (.fn "SAYING_READS")) (A9 AO (Z 2) (A7 (.int 0)))) (A0 (JA JF (Z 2) (J9 (A7 (.int 1))) (LI)) (AB))) [.AM (.str kg),.AM (CM cs ws),.AM (.lst (.str (wn s.w)::Uw)),s3,s4]=.ok tp:=λs3 s4=>by simp only[Nz];simp[FR,g,E6,Co]
  have IV:Nx 2 [] (Nz (A0 (A9 (Ox "SAYING_READS" Pm) (A7 (.fn "SAYING_READS")) (A9 AO (Z 2) (A7 (.int 0)))) (A0 (JA JF (Z 2) (J9 (A7 (.int 1))) (LI)) (AB)))) (F6 [BI 0,BI 1]) (Ic 0 Oc (A0 (Z 1) (AB))) [.AM (.str kg),.AM (CM cs ws),.AM (.lst (.str (wn s.w)::Uw)),.un,.un]=.ok Uv:=by show(Nz _ _).bind (λds=>Ea (F6 [BI 0,BI 1]) D2 (Ic 0 Oc (A0 (Z 1) (AB))) ds [.un,.un] [])=_;rw[mi,EN,Z9]
  have Qd:OG [.lst (.str (wn s.w)::Uv)]=.ok (.tup (.str (wn s.w)::Uv)):=rfl;have ad:Cy (.lst [.str (wn s.w)]) (.lst Uv)=.ok (.lst (.str (wn s.w)::Uv)):=Uy (by simp;omega);simp[W2,cy,p,FR,nn,g,lk,oX,le,Pb,R1,Hj,LJ,IV,ad,Qd,hg]
 rcases h.k with⟨a,e,he,z⟩|⟨a,z⟩|⟨a,n,AU,z⟩
 .have le:=Mf Bi (Pc Bi he).1;refine fin [("pattern_read",s.p,.str s.p),("door_read",B5 s.d,BD s.d),("door_read",B5 e,BD e)] (by simp) (by rw[z];rfl) (by unfold WL;rw[if_pos a];rfl) (by unfold DL;rw[z];rfl) λx AA=>?_;simp only[Fz,FW,or_false]at AA;rcases AA with rfl|rfl|rfl
  .rw[BP];simp[Zl h.p]
  .rw[Ce];simp[Sb ld.1 ld.2]
  .rw[Ce];simp[Sb le.1 le.2]
 .refine fin [("pattern_read",s.p,.str s.p),("door_read",B5 s.d,BD s.d)] (by simp) (by rw[z];rfl) (by unfold WL;rw[if_neg (by omega),if_pos (by omega)];rfl) (by unfold DL;rw[z];rfl) λx AA=>?_;simp only[Fz,FW,or_false]at AA;rcases AA with rfl|rfl
  .rw[BP];simp[Zl h.p]
  .rw[Ce];simp[Sb ld.1 ld.2]
 .refine fin [("pattern_read",s.p,.str s.p),("door_read",B5 s.d,BD s.d),("number_read",Dy n,.int (n:Nat))] (by simp) (by rw[z];rfl) (by unfold WL;rw[if_neg (by omega),if_neg (by omega)];rfl) (by unfold DL;rw[z];rfl) λx AA=>?_;simp only[Fz,FW,or_false]at AA;rcases AA with rfl|rfl|rfl
  .rw[BP];simp[Zl h.p]
  .rw[Ce];simp[Sb ld.1 ld.2]
  .rw[ER];simp[WM n (fF Bi h z)]
def tU(s:Lx):GD 5 (DL s) (DL s):=V0 (by cases s.x<;>simp[rm]) λd hd=>by
 rcases List.mem_append.mp hd with hd|hd
 .simp only[Fz,FW,or_false]at hd;rcases hd with rfl|rfl|rfl
  .exact SI _ _
  .exact SI _ _
  .exact ZH _ _
 .cases AA:s.x with
  |no=>rw[AA]at hd;cases hd
  |Nc e=>rw[AA]at hd;rw[List.mem_singleton.mp hd];exact ZH _ _
  |AN n=>rw[AA]at hd;rw[List.mem_singleton.mp hd];exact Sw _ _
end
theorem MG.p{cs:List Nat}{bs:List (List E5)}(h:MG cs bs):YQ cs bs:=⟨h.l,λb J r A6=>by obtain⟨i,AC⟩:=List.mem_iff_getElem?.mp J;exact((h.b i b AC).r r A6).p⟩
def MG.Tr{cs:List Nat}{ws:List (AP×AP)}{bs:List (List E5)}(Bi:Eh cs ws)(h:MG cs bs){b:List E5}(J:b∈bs):b.length<=12/\∀r∈b,P7 r:=by obtain⟨i,AC⟩:=List.mem_iff_getElem?.mp J;have k:=h.b i b AC;have Nt:=Z7 (λc h=>(Bi.c c h).2) i;exact⟨k.l,λr A6=>⟨(k.r r A6).p,λj e=>by have:=(k.r r A6).a j e;omega,λj e=>by have:=(k.r r A6).b j e;omega⟩⟩
structure u7(e:Sn):Prop where
 d:∀h,e=.drop h->h<6
 o:∀h o,e=.out h o->h<6/\o<6
theorem sV{N:AP->On}{S:List AP}(G_:∀d∈S,d.1<6)(cl:∀d∈S,∀e,N d=.to e->e∈S)(co:∀d∈S,∀o,N d=.out o->o<6):∀(n:Nat)(ds:List AP)(d:AP)(r:List AP×Sn),ds.Nodup->(∀x∈ds,x∈S)->d∈S->walk N n ds d=some r->(r.1.Nodup/\∀x∈r.1,x∈S)/\u7 r.2
 |0,ds,d,r,_,_,_,h=>by simp[walk]at h
 |n+1,ds,d,r,B6,hs,hd,h=>by
  have Ia:∀x∈ds++[d],x∈S:=λx AA=>by
   rcases List.mem_append.mp AA with AA|AA
   .exact hs x AA
   .rw[List.mem_singleton.mp AA];exact hd
  simp only[walk]at h
  split at h
  .cases h;exact⟨⟨B6,hs⟩,⟨λ_ z=>(nomatch z),λ_ _ z=>(nomatch z)⟩⟩
  .rename_i hm;have WB:(ds++[d]).Nodup:=List.nodup_append.mpr ⟨B6,by simp,λx AA y BO z=>hm (by rw[<-List.mem_singleton.mp BO,<-z];exact AA)⟩
   split at h
   .rename_i e;exact sV G_ cl co n _ _ r WB Ia (cl d hd _ e) h
   .cases h;exact⟨⟨WB,Ia⟩,⟨λ_ z=>by cases z;exact G_ d hd,λ_ _ z=>(nomatch z)⟩⟩
   .rename_i o e;cases h;exact⟨⟨WB,Ia⟩,⟨λ_ z=>(nomatch z),λ_ _ z=>by cases z;exact⟨G_ d hd,co d hd _ e⟩⟩⟩
def afM:((DT 30).all λk=>match Kb [.int (k:Nat)]with|.ok (.str t)=>decide (t.length<=20)|_=>false)=true:=by decide+kernel
def bi{k:Nat}(h:k<30):∃t,Kb [.int (k:Nat)]=.ok (.str t)/\t.length<=20:=by
 have:=List.all_eq_true.mp afM k (List.mem_range.mpr h)
 split at this
 .rename_i t e;exact⟨t,e,by simpa using this⟩
 .cases this
def c9(d:D):Prop:=∃t,Kb [d]=.ok (.str t)/\t.length<=20
def agE{ds:List D}(h:∀d∈ds,c9 d)(AF:ds.length<=200):∃T,J_ [.lst ds]=.ok (.v (.str T)):=by
 have AA:∀ds:List D,(∀d∈ds,c9 d)->∃xs:List (D×Str),xs.map S4=ds/\∀a∈xs,Kb [a.1]=.ok (.str a.2)/\a.2.length<=20:=λds=>by
  induction ds with
  |nil=>exact λ_=>⟨[],rfl,by simp⟩
  |cons d r Br=>intro h;obtain⟨xs,e,g⟩:=Br λb J=>h b (by simp[J]);obtain⟨t,AD,AR⟩:=h d (by simp);exact⟨(d,t)::xs,by simp[e],by simp[AD,AR];exact λa b RW=>g (a,b) RW⟩
 obtain⟨xs,e,g⟩:=AA ds h;exact⟨_,aj (xs:=xs) (f:=S4) (t:=UX) (.inl (by rw[e])) (λa A1=>(g a A1).1) (λa A1=>(g a A1).2) (by rw[<-Gp (f:=S4),e];exact AF)⟩
section
variable{cs:List Nat}{ws:List (AP×AP)}{bs:List (List E5)}
def abz(Bi:Eh cs ws)(J:MG cs bs){a o:Nat}{d:AP}(e:Kp ws bs a d=.out o):o<6:=by
 unfold Kp Bb at e
 split at e
 .cases e
 .rename_i i AC
  split at e
  .cases e
  .rename_i BS AN
   split at e
   .cases e;obtain⟨r,A6,y8⟩:=Option.bind_eq_some_iff.mp AN;cases BC:bs[d.1]? with
    |none=>rw[Gq,BC]at A6;cases A6
    |some b=>rw[Gq,BC]at A6;exact((MG.Tr Bi J (F8 BC)).2 r (F8 A6)).b _ y8
   .cases e
@[simp] theorem ajH(n:Nat)(mf:List D->R BQ)(m:Al)(ρ:AH):Mu n mf m ρ=(m ρ).bind λds=>if ds.length=n then(Fb (mf ds)).bind JD else .bad:=(rfl)
def Vz(T:Str):PW [.str T,.str T]=.ok (.v (.AI true)):=by simp[PW,dc,V5,lJ]
def fv:Wn=J_:=rfl
def agf(Bi:Eh cs ws)(J:MG cs bs){d:AP}(hd:d∈outs cs ws cs.length){a:Nat}(A1:a<16):Zo [CM cs ws,.lst (bs.map DU),BD d,.int (a:Int)]=.ok (.v (.AI true)):=by
 obtain⟨lm,aic⟩:=Pc Bi hd;obtain⟨r,A6,IZ⟩:=agd Bi J.p A1 lm;have G_:∀d∈DP cs cs.length,d.1<6:=λd hd=>(Mf Bi hd).1;obtain⟨⟨B6,Et⟩,Vn⟩:=sV G_ (λd _ e he=>q8 Bi he) (λd _ o AN=>abz Bi J AN) 1000 [] d r QJ (by simp) lm A6;have H4:=SJ Bi.c cs.length;have h6:=Bi.h6;have aiU:r.1.length<=24:=by have:=sm B6 Et;omega
 have ad:Qr [.int (a:Int)]=.ok (.v (.AI true)):=by have z:=kp (a:Int);rw[decide_eq_true (by omega),decide_eq_true (by omega)]at z;exact z
 have agg:=age (vA h6 J) (fP Bi hd) ad (λ_ _ _=>IZ);have ahS:PX [CM cs ws,.lst (bs.map DU),BD d,.int (a:Int)]=.ok (.v (Mb r)):=agg;have t0:AO (Mb r) (.int 0)=.ok (.lst (r.1.map BD)):=rfl;have t1:AO (Mb r) (.int 1)=.ok (Sg r.1 r.2):=rfl;have L1:∃es:List D,Sg r.1 r.2=.tup es/\es.length<=3/\∀x∈es,c9 x:=by
  cases e:r.2 with
  |drop h=>exact⟨_,rfl,by simp,by simp;exact⟨⟨_,rfl,by decide⟩,bi (by have:=Vn.d h e;omega)⟩⟩
  |out h o=>exact⟨_,rfl,by simp,by simp;exact⟨⟨_,rfl,by decide⟩,bi (by have:=Vn.o h o e;omega),bi (by have:=Vn.o h o e;omega)⟩⟩
  |ring d=>
   have yT:idx r.1 d<30:=by
    unfold idx;cases q:r.1.findIdx? (λx=>decide (x=d))with
    |none=>simp
    |some i=>have:=(List.findIdx?_eq_some_iff_findIdx_eq.mp q).1;simp;omega
   exact⟨_,rfl,by simp,by simp;exact⟨⟨_,rfl,by decide⟩,bi yT⟩⟩
 obtain⟨es,Sf,el,eg⟩:=L1;have ld:∀d∈r.1,d.1<6/\d.2<6:=λd hd=>Mf Bi (Et d hd);have ls:Tg [.tup es]=.ok es:=rfl;obtain⟨T,F4⟩:=agE (ds:=(r.1.map λd=>D.str (B5 d))++[.str (As ":")]++es) (λx AA=>by
  rcases List.mem_append.mp AA with AA|AA
  .rcases List.mem_append.mp AA with AA|AA
   .obtain⟨d,_,rfl⟩:=List.mem_map.mp AA;exact⟨_,rfl,by simp[B5,Fm]⟩
   .rw[List.mem_singleton.mp AA];exact⟨_,rfl,by decide⟩
  .exact eg x AA) (by simp;omega)
 have a1:Cy (.lst (r.1.map λd=>D.str (B5 d))) (.lst [.str (As ":")])=.ok (.lst ((r.1.map λd=>D.str (B5 d))++[.str (As ":")])):=Uy (by simp;omega);have a2:Cy (.lst ((r.1.map λd=>D.str (B5 d))++[.str (As ":")])) (.lst es)=.ok (.lst ((r.1.map λd=>D.str (B5 d))++[.str (As ":")]++es)):=Uy (by simp;omega);have agG:Zw [Mb r]=.ok (.v (.str T)):=by apply Ends.done;simp[Zw,d2];refine L2 BD r.1 (λd=>.str (B5 d)) (by simp[t0]) (by omega) (λd hd=>by simp[Me (ld d hd).1 (ld d hd).2]) ?_;simp only[a1,a2,EN,t1,Sf,ls,sN];simp[a1,t1,Sf,ls];simp at a2 F4;simp[a2,F4]
 apply Ends.done;simp[Zo,de,Hj,ahS,fv,WS];refine L2 BD r.1 (λd=>.str (B5 d)) (by simp[t0]) (by omega) (λd hd=>by simp[Me (ld d hd).1 (ld d hd).2]) ?_;simp at a2 F4;simp[a1,t1,Sf,ls,a2,F4,agG,Vz]
end
def kU{β:Type}(r:R β):r.bind R.ok=r:=by cases r<;>rfl
def vo(x:Str):Bz false (.str x) (.str x)=.ok (.AI false):=by show R.ok (D.AI (!(x==x)))=_;simp
def OQ:E5:=⟨As "xx01",none,some 2⟩
def ae0:P7 OQ:=⟨⟨rfl,λc AG=>by
 rw[show OQ.p.cps.toList=[120,120,48,49]from rfl]at AG;simp at AG;rcases AG with rfl|rfl|rfl
 .exact .inr (.inr rfl)
 .exact .inl rfl
 .exact .inr (.inl rfl)⟩,λ_ h=>(nomatch h),λk h=>by cases h;decide⟩
def adU(n:Nat)(h:n<=30):WN (.lst [.tup [.str (As "xx01"),.non,.int 2]]) (.int (n:Int))=.ok (.lst ((FU n OQ).map D5)):=by
 have e:D5 OQ=.tup [.str (As "xx01"),.non,.int 2]:=rfl;rw[<-e];show(if 0<=(n:Int)/\(n:Int)<=1000/\[D5 OQ].length<=100 then R.ok (D.lst (FU (n:Int).toNat [D5 OQ]).flatten)else .bad)=_;rw[if_pos ⟨by omega,by omega,by simp⟩,Ri]
 congr 2
 induction n with
 |zero=>rfl
 |succ n Br=>simp[Oi,Br (by omega)]
section
variable{cs:List Nat}{ws:List (AP×AP)}
def ag9(Bi:Eh cs ws){w:AP×AP}(hw:w∈ws):A9 Cy (A9 Cy (Au 1 NR (A0 (Z 0) (AB))) (A7 (.str (As "-")))) (Au 1 NR (A0 (Z 1) (AB))) [.AM (BD w.1),.AM (BD w.2)]=.ok (.str (wT w)):=by
 have l:=i_ Bi hw;have a1:Cy (.str (B5 w.1)) (.str (As "-"))=.ok (.str ⟨#[48+w.1.1,46,48+w.1.2,45]⟩):=by kernel_rfl
 have a2:Cy (.str ⟨#[48+w.1.1,46,48+w.1.2,45]⟩) (.str (B5 w.2))=.ok (.str (wT w)):=by kernel_rfl
 simp[WS,Me l.1.1 l.1.2,Me l.2.1 l.2.2,a1,a2]
def u2(Bi:Eh cs ws):GD 5 (.lst [.lst (Bh cs),.lst (ws.map D6)]) (.lst [.lst (Bh cs),.lst (ws.map D6)]):=
 UY (.inl ⟨rfl,rfl⟩) rfl (by simp) (by have:=Bi.few;have:=Bi.h6;simp;exact⟨u1 2 cs (by omega),Uz (by omega) λw _=>tW 0 w⟩)
def vf(AK:List Ck)(n:Nat)(h:∀s∈AK,s.ok n):Bz true (.lst (AK.map DE)) (.lst [])=.ok (.AI AK.isEmpty):=by
 unfold Bz;have o:okN 8 (.lst (AK.map DE))=true:=by
  simp only[okN,YB,UL];intro s _;cases s with
  |Fx k=>cases k<;>rfl
  |ac w h=>rfl
 rw[if_pos ⟨o,rfl⟩];cases AK<;>rfl
def adp{AK:List Ck}{n:Nat}(AU:n<=6)(h:∀s∈AK,s.ok n)(AF:AK.length<=40):∃e:List D,True/\M8 cm [.lst (AK.map λs=>.str (Fp s))]=.ok (.str (Dn cm (AK.map Fp)))/\(TQ (.str dash) (.int (if AK.isEmpty then 1 else 0))).bind (λy=>Cy (.str (Dn cm (AK.map Fp))) y)=.ok (.str (JX (AK.map Fp))):=by
 have j:=TZ (y:=cm) (by decide) (AK.map Fp) (λs hs=>by obtain⟨a,A1,rfl⟩:=List.mem_map.mp hs;exact EB (Tu AU (h a A1)).2.2 (by decide)) (by simp;omega);rw[Kj]at j;refine⟨[],trivial,j,?_⟩;cases AK with
 |nil=>kernel_rfl
 |cons s r=>
  have TY:=join_le (y:=cm) (ws:=(s::r).map Fp) (m:=20) λw hw=>by obtain⟨b,J,rfl⟩:=List.mem_map.mp hw;exact(Tu AU (h b J)).2.2
  rw[Gp,show cm.length=2 from rfl]at TY;show Cy (.str (Dn cm ((s::r).map Fp))) (.str Ou)=_;have Cc:(Dn cm ((s::r).map Fp))++Ou=Dn cm ((s::r).map Fp):=bj (by show(_++(#[]:Array Nat)).toList=_;simp);rw[tw _ _ (by simp[Fm,Ou]at TY AF |-;omega),Cc];rfl
end
def aas(ns:List Int):Qw [.Cs (ns.map D.int)]=.ok (.v (.AI true)):=by
 apply Ends.done;obtain⟨Md,vX⟩:=SZ ns 0;obtain⟨BP,vY⟩:=SZ ns 1;obtain⟨dA,vZ⟩:=SZ ns 12;obtain⟨dB,v_⟩:=SZ ns 13;obtain⟨cs,ws,Bi,vi⟩:=abg Md;have h1:=Bi.h1;have h6:=Bi.h6;have few:=Bi.few;have T0:Ig [.Cs (ns.map D.int),.int 0]=.ok (.v (.int Md)):=vX;have Aa:Ig [.Cs (ns.map D.int),.int 1]=.ok (.v (.int BP)):=vY;have ady:Ig [.Cs (ns.map D.int),.int 12]=.ok (.v (.int dA)):=vZ;have adz:Ig [.Cs (ns.map D.int),.int 13]=.ok (.v (.int dB)):=v_;have G9:AO (parts cs ws) (.int 0)=.ok (.lst (Bh cs)):=rfl;have Dd:AO (parts cs ws) (.int 1)=.ok (.lst (ws.map D6)):=rfl;have lcs:(Bh cs).length=cs.length:=by simp[Bh]
 have Q1:∀l:List D,Tg [.lst l]=.ok l:=λ_=>rfl;have LB:=nr cs ws Bi;have vj:TF [.int Md]=.ok (.v (parts cs ws)):=vi;have abw:D.ins (As "Net") [As "many",As "counts",As "joined",As "far"] [.int (cs.length:Nat),.tup (Bh cs),.tup (ws.map D6),.B5 (E9 ws) (EG ws)]=CM cs ws:=rfl;simp[Qw,dS,T0,vj,G9,Dd,Q1,LB,Hj,abw];generalize DK:parts cs ws=PP at G9 Dd |-;refine RN (λw:AP×AP=>BD w.1) (λw=>BD w.2) ws (λw=>.str (wT w)) (by simp[Dd];intros;rfl) (by omega) (λw hw=>ag9 Bi hw) ?_;have Il:=rf Bi;simp[G9,kd Bi,fv,Il,abt Bi,Hj,abv Bi,Vz,vo];refine Mg cs.length (λh=>.int (cs.getD h 0:Nat)) (by simp[TM,show cs.length<1000000 by omega]) (by omega) (λa A1=>by simp[hN,dH A1]) ?_;rw[kA];have an:=u2 Bi;simp[G9,Dd,rL,rh,an];obtain⟨bs,J,BC⟩:=v9 ns 1 (by omega) cs h6 Bi.c;have Se:TD [.Cs (ns.map D.int),.int 1,.lst (Bh cs)]=.ok (.o (bs.map DU)):=BC;have oY:bs.length=cs.length:=J.l;simp[Se];refine Sh DU bs (λj ρ=>∃Dt,ρ=[.AM (.Cs (ns.map D.int)),.AM PP,.AM (CM cs ws),.AM (.str (NA cs ws)),.AM (CM cs ws),.AM (.lst (Bh cs)),.AM (.lst (bs.map DU)),Dt,.un,.un,.un,.un,.un]) (by simp) ⟨_,rfl⟩ ?_ ?_
 .rintro j b _ Bx ⟨Dt,rfl⟩;obtain⟨ahv,Tr⟩:=MG.Tr Bi J (F8 Bx);have ab:GD 5 (.lst (b.map D5)) (.lst (b.map D5)):=Uz (by omega) λr _=>kv 2 r;simp[DU,vB Tr (by omega),kZ Tr (by omega),kY Tr (by omega),Vz,Hj,ab]
 .rintro _ ⟨Dt,rfl⟩;obtain⟨I3,F2⟩:=My BP 5 (by omega);have wG:G8 [.int BP,.int 5]=.ok (.v (.int I3)):=F2;obtain⟨n,AU,L1⟩:∃n:Nat,n<=20/\13+I3%8=(n:Int):=⟨(13+I3%8).toNat,by omega,by omega⟩;have pX:=adU n (by omega);have ge:∀r∈FU n OQ,P7 r:=λr A6=>by rw[List.eq_of_mem_replicate A6];exact ae0
  have ln:(FU n OQ).length=n:=by simp
  generalize FU n OQ=fr at pX ge ln;have u0:GD 5 (.lst (fr.map D5)) (.lst (fr.map D5)):=Uz (by omega) λr _=>kv 2 r;obtain⟨AK,Am,Dq,aR,C5⟩:=acX (FF ns (some 13) none) cs.length h1 h6;rw[<-cb]at C5;simp[Aa,wG,L1,pX,kZ ge (by omega),kY ge (by omega),u0,Hj,G9,lcs,C5];have Ce:FF (AK.map DE) none (some 2)=(AK.take 2).map DE:=by rw[show(some 2:Option Int)=some ((2:Nat):Int)from rfl,cc,Xv]
  refine Sh (λq:List Ck=>.lst (q.map DE)) [AK,AK.take 2,[]] (λj ρ=>∃s3 Ts,ρ=[.AM (.Cs (ns.map D.int)),.AM PP,.AM (CM cs ws),s3,.AM (CM cs ws),.AM (.lst (Bh cs)),.AM (.lst (bs.map DU)),Dt,.AM (.lst (fr.map D5)),.AM (.lst (AK.map DE)),Ts,.un,.un]) (by simp[Ce]) ⟨_,_,rfl⟩ ?_ ?_
  .rintro j q _ Bx ⟨s3,Ts,rfl⟩;have Ab:Gx cs.length q/\q.length<=40:=by
    have hm:=F8 Bx;simp only[Fz,FW,or_false]at hm;rcases hm with rfl|rfl|rfl
    .exact⟨Am,by omega⟩
    .exact⟨acY Am,by simp;omega⟩
    .exact⟨⟨by simp,by simp⟩,by simp⟩
   obtain⟨_,_,Nq,J7⟩:=adp h6 Ab.1.ok Ab.2;have em:=vf q cs.length Ab.1.ok;have tb:∀b:Bool,WR [.AI b]=.ok (.int (if b then 1 else 0)):=λ_=>rfl;have ap:=tT Ab.2;simp;refine L2 DE q (λs=>.str (Fp s)) (by simp) (by omega) (λs hs=>by simp[fv,ql h6 (Ab.1.ok s hs)]) ?_;simp[Nq,em,tb];cases Oz:TQ (.str dash) (.int (if q.isEmpty=true then 1 else 0))with
   |bad=>rw[Oz]at J7;cases J7
   |exc c=>rw[Oz]at J7;cases J7
   |ok z=>rw[Oz,EN]at J7;simp at Oz;simp[Oz,J7,ace h6 Ab.1.ok Ab.2,Vz,ac6 h6 Ab.1 Ab.2,Hj,ap]
  .rintro _ ⟨s3,Ts,rfl⟩;obtain⟨ss,hs,es⟩:=aem Bi ns;rw[DK]at es;have ls:ss.length<=1000000\/True:=.inr trivial;simp[es];refine Sh DL ss (λj ρ=>∃s3 bT,ρ=[.AM (.Cs (ns.map D.int)),.AM PP,.AM (CM cs ws),s3,.AM (CM cs ws),.AM (.lst (Bh cs)),.AM (.lst (bs.map DU)),Dt,.AM (.lst (fr.map D5)),.AM (.lst (AK.map DE)),Ts,bT,.un]) (by simp[es]) ⟨_,_,rfl⟩ ?_ ?_
   .rintro j s _ Bx ⟨s3,bT,rfl⟩;have k:=hs s (F8 Bx);have as:=tU s;simp[ahM Bi k,ahL Bi k,Vz,ahK Bi k,Hj,as]
   .rintro _ ⟨s3,bT,rfl⟩;have lo:=og Bi;rw[DK]at lo;have op:0<(outs cs ws cs.length).length:=by
     obtain⟨d,h1,h2⟩:=Bi.out;exact Rg (List.mem_filter.mpr ⟨h1,by simpa using h2⟩)
    obtain⟨I2,C2⟩:=My dB 3 (by omega);obtain⟨Hr,E7⟩:=My dA 4 (by omega);have Vj:G8 [.int dB,.int 3]=.ok (.v (.int I2)):=C2;have wF:G8 [.int dA,.int 4]=.ok (.v (.int Hr)):=E7;obtain⟨d,hd,EC⟩:=et op I2;obtain⟨a,A1,Ai⟩:∃a:Nat,a<16/\Hr%16=(a:Int):=⟨(Hr%16).toNat,by omega,by omega⟩;have wr:=agf Bi J hd A1;have WF:((outs cs ws cs.length).length:Int)≠0:=by omega
    simp(disch:=first|omega|(simp;done)|(simp;omega)) [lo,adz,ady,Vj,wF,EC,Ai,WF,wr]
def ahm{P:Bt}{w:Bg}{K:AZ}{mg:Str->Option A4}{base:B1}{x:Str}{st:B9}{N AK:List Str}{k:Nat}{m:Ay}{f:A3}{fd:GO}(fn:N6 K x x st f fd)(S:Bv N AK (BW st))(h:∀(f:A3)(CB:A4)(A:C3)(outer:List PySem.Env)(s:AL)(H:A8)(E:CS),DY k (A.deeper (Oj x (BW st) s.heap.objs.size f CB))->∀G0 H0,J3 (Eb Iu P w K mg base N x (BW st) f CB A outer s H E).Hi (Gj K G0 H0) (GW st) m) :
  HY P w K mg base Iu (k+1) f fd AK (Lk K AK.length (C0 N.length m)):=fn.ok S bc λCB A outer s H vs Q E A6 hs=>by
 obtain⟨G,BB⟩:=ZX hs;exact⟨_,(h f CB A outer s H E A6 G H).1,BB⟩
structure CL(K:AZ)(x:Str)(st:B9):Prop where
 ex:∃(f:A3)(Dc an:Option A3)(CJ:Array (Option A4))(Ey Cf Jp pm cd Cn:A4),DW K Ci x=some (some (.ref f))/\K.lookup f=some ⟨Ey,Dc,.func (Iq x x (K5 st) (GW st) (BW st) .none Cf Jp pm an cd Cn),CJ⟩/\Op K cd x=true/\Ir K (.ref f)=true
def CU{K:AZ}{x:Str}{st:B9}{f:A3}{Dc an:Option A3}{CJ:Array (Option A4)}{Ey Cf Jp pm cd Cn:A4}(a:DW K Ci x=some (some (.ref f)))(l:K.lookup f=some ⟨Ey,Dc,.func (Iq x x (K5 st) (GW st) (BW st) .none Cf Jp pm an cd Cn),CJ⟩)(c:Op K cd x=true)(k:Ir K (.ref f)=true):CL K x st:=⟨f,Dc,an,CJ,Ey,Cf,Jp,pm,cd,Cn,a,l,c,k⟩
def agM{P:List A4->Prop}(h:P []):∀us:List A4,us.length=0->P us
 |[],_=>h
def Wz{P:List A4->Prop}{n:Nat}(h:∀a us,us.length=n->P (a::us)):∀us:List A4,us.length=n+1->P us
 |a::us,e=>h a us (Nat.succ.inj e)
def iN{P:List A4->Prop}(h:∀a,P [a]):∀us:List A4,us.length=1->P us:=Wz λa=>agM (h a)
def U1{P:List A4->Prop}(h:∀a b,P [a,b]):∀us:List A4,us.length=2->P us:=Wz λa=>iN (h a)
def iO{P:List A4->Prop}(h:∀a b c,P [a,b,c]):∀us:List A4,us.length=3->P us:=Wz λa=>U1 (h a)
def sL{P:List A4->Prop}(h:∀a b c d,P [a,b,c,d]):∀us:List A4,us.length=4->P us:=Wz λa=>iO (h a)
def agN{P:List A4->Prop}(h:∀a b c d f,P [a,b,c,d,f]):∀us:List A4,us.length=5->P us:=Wz λa=>sL (h a)
def CT{K:AZ}{h:B1}{mg:Str->Option A4}{x:Str}{st:B9}{AK:List Str}(X:K.In h)(G:h.Ns Ci mg)(F:CL K x st)(b:∀(Cf doc pm:A4)(an:Option A3)(CB Cn:A4)(us:List A4),us.length=AK.length->S2 (Iq x x (K5 st) (GW st) (BW st) .none Cf doc pm an CB Cn) ⟨us,[]⟩=pure (AK.zip us):=by intro _ _ _ _ _ _;first|exact iN λ_=>rfl|exact U1 λ_ _=>rfl|exact iO λ_ _ _=>rfl|exact sL λ_ _ _ _=>rfl|exact agN λ_ _ _ _ _=>rfl):CG K mg x st AK:=by obtain⟨f,Dc,an,CJ,Ey,Cf,Jp,pm,cd,Cn,a,l,c,k⟩:=F.ex;exact vQ (st:=st) X G a l c k b
def VB{K:AZ}{h:B1}{mg:Str->Option A4}{x:Str}{st:B9}(X:K.In h)(G:h.Ns Ci mg)(F:CL K x st):O2 K mg x:=by obtain⟨f,Dc,an,CJ,Ey,Cf,Jp,pm,cd,Cn,a,l,c,k⟩:=F.ex;exact⟨⟨f,Fj X G a,a⟩⟩
structure O8(K:AZ)(C:A3)(x qual:Str)(st:B9):Prop where
 ex:∃(f:A3)(Dc an:Option A3)(CJ:Array (Option A4))(Ey Cf Jp pm cd Cn:A4),Hu K (.ref C) x=some (some (.ref f))/\K.lookup f=some ⟨Ey,Dc,.func (Iq x qual (K5 st) (GW st) (BW st) .none Cf Jp pm an cd Cn),CJ⟩/\Op K cd qual=true/\Ir K (.ref f)=true/\UQ K (.ref f)=true
def TO{K:AZ}{C:A3}{x qual:Str}{st:B9}{f:A3}{Dc an:Option A3}{CJ:Array (Option A4)}{Ey Cf Jp pm cd Cn:A4}(a:Hu K (.ref C) x=some (some (.ref f)))(l:K.lookup f=some ⟨Ey,Dc,.func (Iq x qual (K5 st) (GW st) (BW st) .none Cf Jp pm an cd Cn),CJ⟩)(c:Op K cd qual=true)(k:Ir K (.ref f)=true)(i:UQ K (.ref f)=true):O8 K C x qual st:=⟨f,Dc,an,CJ,Ey,Cf,Jp,pm,cd,Cn,a,l,c,k,i⟩
def W7{K:AZ}{BY x qual:Str}{C:A3}{st:B9}{AK:List Str}(n:DW K Ci BY=some (some (.ref C)))(g1:Rk K C Ou=true)(g2:UC K C=true)(g3:Xa K C=true)(HO:Hu K (.ref C) "__setattr__"=some (some (.builtin "object.__setattr__")))(F:O8 K C x qual st)(b:∀(Cf doc pm:A4)(an:Option A3)(CB Cn:A4)(us:List A4),us.length=AK.length->S2 (Iq x qual (K5 st) (GW st) (BW st) .none Cf doc pm an CB Cn) ⟨us,[]⟩=pure (AK.zip us)):QW K BY x qual st AK:=by obtain⟨f,Dc,an,CJ,Ey,Cf,Jp,pm,cd,Cn,a,l,c,k,i⟩:=F.ex;exact⟨⟨C,f,_,n,⟨g1,g2,g3,HO⟩,⟨a,i,k⟩,RS (st:=st) l c k,(RS (st:=st) l c k).binds b⟩⟩
def aaS{K:AZ}{h:B1}{mg:Str->Option A4}{BY qual:Str}{C:A3}{st:B9}{AK:List Str}(X:K.In h)(G:h.Ns Ci mg)(n:DW K Ci BY=some (some (.ref C)))(mk:Xz K C=true)(aL:Ir K (.ref C)=true)(F:O8 K C "__init__" qual st)(b:∀(Cf doc pm:A4)(an:Option A3)(CB Cn:A4)(us:List A4),us.length=AK.length->S2 (Iq "__init__" qual (K5 st) (GW st) (BW st) .none Cf doc pm an CB Cn) ⟨us,[]⟩=pure (AK.zip us)):InK K mg BY qual st AK:=by obtain⟨f,Dc,an,CJ,Ey,Cf,Jp,pm,cd,Cn,a,l,c,k,i⟩:=F.ex;exact⟨⟨C,f,_,n,⟨mk,a,i,aL⟩,RS (st:=st) l c k,Fj X G n,(RS (st:=st) l c k).binds b⟩⟩
set_option maxHeartbeats 4000000 in
def ah2{K:AZ}{h:B1}{mg:Str->Option A4}{HX:A3}{cY:A3}{cV:A3}{cW:A3}{cX:A3}{cT:A3}{cU:A3}{cS:A3}{afa:Tok}{afb:Tok}{afc:Tok}{afd:Tok}{afe:Tok}{aff:Tok}{afg:Tok}{afh:Tok}{af9:Tok}{afA:Tok}{cO:A3}{vv:Option A3}{aaC:Nat}{afp:Array (Option A4)}{afG afH afI:Tok}{cP:A3}{vw:Option A3}{aaD:Nat}{afq:Array (Option A4)}{afi:Tok}{cQ:A3}{vx:Option A3}{aaE:Nat}{afr:Array (Option A4)}{agh agi agj agk:Tok}{QV:A3}{c_:A3}{So:A3}{Ue:A3}{aac:Nat}{y9 xS xT xU xV:Int}{afB afC afD afE afF:Tok}{ki kj kk kl km:A3}{uL uM uN uo vu:Option A3}{aad aa8 aa9 aaA aaB:Nat}{afk afl afm afn afo:Array (Option A4)}(X:K.In h)(G:h.Ns Ci mg)(n_Net:DW K Ci "Net"=some (some (.ref HX)))(g1_Net:Rk K HX Ou=true)(g2_Net:UC K HX=true)(g3_Net:Xa K HX=true)(g4_Net:Hu K (.ref HX) "__setattr__"=some (some (.builtin "object.__setattr__")))(u_Net_many:Hu K (.ref HX) "many"=some none)(u_Net_counts:Hu K (.ref HX) "counts"=some none)(u_Net_joined:Hu K (.ref HX) "joined"=some none)(u_Net_far:Hu K (.ref HX) "far"=some none)(mk_Net:Xz K HX=true)(kc_Net:Ir K (.ref HX)=true)(n_NoText:DW K Ci "NoText"=some (some (.ref cY)))(e1_NoText:La K cY [.type "ValueError",.type "Exception",.type "BaseException",.type "object"] "ValueError.__new__"=true)(n_NoNet:DW K Ci "NoNet"=some (some (.ref cV)))(e1_NoNet:La K cV [.type "ValueError",.type "Exception",.type "BaseException",.type "object"] "ValueError.__new__"=true)(n_NoPlan:DW K Ci "NoPlan"=some (some (.ref cW)))(e1_NoPlan:La K cW [.type "ValueError",.type "Exception",.type "BaseException",.type "object"] "ValueError.__new__"=true)(n_NoSaying:DW K Ci "NoSaying"=some (some (.ref cX)))(e1_NoSaying:La K cX [.type "ValueError",.type "Exception",.type "BaseException",.type "object"] "ValueError.__new__"=true)(n_NoBooks:DW K Ci "NoBooks"=some (some (.ref cT)))(e1_NoBooks:La K cT [.type "ValueError",.type "Exception",.type "BaseException",.type "object"] "ValueError.__new__"=true)(n_NoDoor:DW K Ci "NoDoor"=some (some (.ref cU)))(e1_NoDoor:La K cU [.type "ValueError",.type "Exception",.type "BaseException",.type "object"] "ValueError.__new__"=true)(n_NoAddress:DW K Ci "NoAddress"=some (some (.ref cS)))(e1_NoAddress:La K cS [.type "ValueError",.type "Exception",.type "BaseException",.type "object"] "ValueError.__new__"=true)(h0:CL K "_law_draws" gW)(h1:CL K "_law_net" fw)(h2:CL K "_law_cell_at" gU)(h3:CL K "is_whole" gN)(h4:CL K "is_whole_within" gO)(h5:CL K "are_counts" gs)(h6:CL K "is_pair" gH)(h7:CL K "is_door_among" gE)(h8:CL K "is_wire_among" gP)(h9:CL K "far_doors" g9)(h10:O8 K HX "__init__" "Net.__init__" gn)(h11:CL K "_law_words" g7)(h12:CL K "_law_door" gV)(h13:CL K "parted" hp)(h14:CL K "is_number" gF)(h15:CL K "number_read" hl)(h16:CL K "pair_read" ho)(h17:CL K "door_read" gv)(h18:CL K "wire_read" i5)(h19:CL K "net_read" hi)(h20:CL K "_law_text_right" g5)(h21:O8 K HX "count" "Net.count" gm)(h22:CL K "words_shown" i7)(h23:CL K "door_shown" gw)(h24:CL K "wire_shown" i6)(h25:O8 K HX "wires" "Net.wires" gr)(h26:CL K "net_shown" hj)(h27:CL K "_law_alike" gQ)(h28:CL K "_law_row" fz)(h29:CL K "_law_book" gR)(h30:CL K "_law_books" gT)(h31:CL K "list_shown" gY)(h32:CL K "row_shown" hx)(h33:CL K "book_shown" gu)(h34:CL K "_law_book_text" gS)(h35:CL K "is_pattern" gI)(h36:CL K "pattern_read" hq)(h37:CL K "number_or_none_read" hk)(h38:CL K "row_read" hv)(h39:CL K "list_read" g8)(h40:CL K "book_read" gt)(h41:CL K "_law_mixed" gX)(h42:CL K "_law_plan" fy)(h43:CL K "plan_shown" ht)(h44:CL K "step_read" i0)(h45:CL K "is_step" gM)(h46:CL K "is_plan" gJ)(h47:CL K "plan_read" hr)(h48:CL K "_law_outer" fx)(h49:CL K "_law_sayings" g4)(h50:CL K "_law_saying_text" g0)(h51:CL K "saying_shown" hz)(h52:O8 K HX "is_door" "Net.is_door" gp)(h53:O8 K HX "is_outer" "Net.is_outer" gq)(h54:CL K "is_saying" gL)(h55:CL K "saying_read" hy)(h56:CL K "is_number_or_none" gG)(h57:CL K "is_row" gK)(h58:CL K "is_book" gC)(h59:CL K "is_books" gD)(h60:CL K "refuse_unless_books" hu)(h61:CL K "is_address" gB)(h62:CL K "fits" gA)(h63:CL K "taken" i1)(h64:O8 K HX "beyond" "Net.beyond" gl)(h65:CL K "onward" hn)(h66:CL K "walked" i2)(h67:CL K "way" i3)(h68:CL K "way_shown" i4)(h69:CL K "_law_way_right" g6)(h70:CL K "law" Pj)(z_all:DW K Ci "all"=some none)(z_bool:DW K Ci "bool"=some none)(z_enumerate:DW K Ci "enumerate"=some none)(z_int:DW K Ci "int"=some none)(z_isinstance:DW K Ci "isinstance"=some none)(z_len:DW K Ci "len"=some none)(z_list:DW K Ci "list"=some none)(z_max:DW K Ci "max"=some none)(z_range:DW K Ci "range"=some none)(z_set:DW K Ci "set"=some none)(z_str:DW K Ci "str"=some none)(z_tuple:DW K Ci "tuple"=some none)(z_zip:DW K Ci "zip"=some none)(z_ANY_DOOR:DW K Ci "ANY_DOOR"=some (some (.str (As "any") afa)))(z_DROPPED:DW K Ci "DROPPED"=some (some (.str (As "drop") afb)))(z_FIGURES:DW K Ci "FIGURES"=some (some (.str (As "0123456789") afc)))(z_GREATEST_ADDRESS:DW K Ci "GREATEST_ADDRESS"=some (some (.int 15 afd)))(z_MOST_DOORS:DW K Ci "MOST_DOORS"=some (some (.int 4 afe)))(z_MOST_FIGURES:DW K Ci "MOST_FIGURES"=some (some (.int 3 aff)))(z_MOST_HOUSES:DW K Ci "MOST_HOUSES"=some (some (.int 6 afg)))(z_MOST_ROWS:DW K Ci "MOST_ROWS"=some (some (.int 12 afh)))(z_MOST_STEPS:DW K Ci "MOST_STEPS"=some (some (.int 40 af9)))(z_NONE_LISTED:DW K Ci "NONE_LISTED"=some (some (.str (As "-") afA)))(z_SIGNS:DW K Ci "SIGNS"=some (some (.ref cO)))(y_SIGNS:K.lookup cO=some ⟨.type "tuple",vv,.seq #[.str (As "0") afG,.str (As "1") afH,.str (As "x") afI] aaC,afp⟩)(z_WAIT:DW K Ci "WAIT"=some (some (.ref cP)))(y_WAIT:K.lookup cP=some ⟨.type "tuple",vw,.seq #[.str (As "wait") afi] aaD,afq⟩)(z_WORTHS:DW K Ci "WORTHS"=some (some (.ref cQ)))(y_WORTHS:K.lookup cQ=some ⟨.type "tuple",vx,.seq #[.int 8 agh,.int 4 agi,.int 2 agj,.int 1 agk] aaE,afr⟩)(nf_door_read:DW K Ci "door_read"=some (some (.ref QV)))(nf_number_read:DW K Ci "number_read"=some (some (.ref c_)))(nf_pattern_read:DW K Ci "pattern_read"=some (some (.ref So)))(z_SAYING_READS:DW K Ci "SAYING_READS"=some (some (.ref Ue)))(s_SAYING_READS:(Ue==JN)=false)(y_SAYING_READS:K.lookup Ue=some ⟨.type "dict",none,.dict #[⟨y9,.str (As "comes") afB,.ref ki⟩,⟨xS,.str (As "leaves") afC,.ref kj⟩,⟨xT,.str (As "noring") afD,.ref kk⟩,⟨xU,.str (As "by") afE,.ref kl⟩,⟨xV,.str (As "never") afF,.ref km⟩] aac,#[]⟩)(y_SAYING_READS_0:K.lookup ki=some ⟨.type "tuple",uL,.seq #[.ref So,.ref QV,.ref QV] aad,afk⟩)(y_SAYING_READS_1:K.lookup kj=some ⟨.type "tuple",uM,.seq #[.ref So,.ref QV] aa8,afl⟩)(y_SAYING_READS_2:K.lookup kk=some ⟨.type "tuple",uN,.seq #[.ref So,.ref QV] aa9,afm⟩)(y_SAYING_READS_3:K.lookup kl=some ⟨.type "tuple",uo,.seq #[.ref So,.ref QV,.ref c_] aaA,afn⟩)(y_SAYING_READS_4:K.lookup km=some ⟨.type "tuple",vu,.seq #[.ref So,.ref QV,.ref c_] aaB,afo⟩):cB K mg where
 Hf:=⟨HX,n_Net,⟨g1_Net,g2_Net,g3_Net,g4_Net⟩,(Xi.2 ⟨u_Net_many,(Xi.2 ⟨u_Net_counts,(Xi.2 ⟨u_Net_joined,(Xi.2 ⟨u_Net_far,(λ_ h=>absurd h FW)⟩)⟩)⟩)⟩)⟩
 rr:=⟨⟨cS,n_NoAddress,Fj X G n_NoAddress,e1_NoAddress⟩⟩
 rt:=⟨⟨cT,n_NoBooks,Fj X G n_NoBooks,e1_NoBooks⟩⟩
 ru:=⟨⟨cU,n_NoDoor,Fj X G n_NoDoor,e1_NoDoor⟩⟩
 X3:=⟨⟨cV,n_NoNet,Fj X G n_NoNet,e1_NoNet⟩⟩
 rv:=⟨⟨cW,n_NoPlan,Fj X G n_NoPlan,e1_NoPlan⟩⟩
 rx:=⟨⟨cX,n_NoSaying,Fj X G n_NoSaying,e1_NoSaying⟩⟩
 Pr:=⟨⟨cY,n_NoText,Fj X G n_NoText,e1_NoText⟩⟩
 mz:=CT X G h0
 n1:=CT X G h1
 mx:=CT X G h2
 lG:=CT X G h3
 lg:=CT X G h4
 lU:=CT X G h5
 lA:=CT X G h6
 l7:=CT X G h7
 mq:=CT X G h8
 lZ:=CT X G h9
 lQ:=aaS X G n_Net mk_Net kc_Net h10 λ_ _ _ _ _ _=>iO λ_ _ _=>rfl
 n9:=CT X G h11
 my:=CT X G h12
 mJ:=CT X G h13
 l8:=CT X G h14
 nG:=CT X G h15
 nI:=CT X G h16
 lX:=CT X G h17
 mY:=CT X G h18
 nD:=CT X G h19
 n7:=CT X G h20
 lP:=W7 n_Net g1_Net g2_Net g3_Net g4_Net h21 λ_ _ _ _ _ _=>U1 λ_ _=>rfl
 m_:=CT X G h22
 lY:=CT X G h23
 mZ:=CT X G h24
 lT:=W7 n_Net g1_Net g2_Net g3_Net g4_Net h25 λ_ _ _ _ _ _=>iN λ_=>rfl
 nE:=CT X G h26
 ea:=CT X G h27
 n4:=CT X G h28
 mr:=CT X G h29
 mw:=CT X G h30
 nB:=CT X G h31
 mQ:=CT X G h32
 lW:=CT X G h33
 mu:=CT X G h34
 lB:=CT X G h35
 mK:=CT X G h36
 nF:=CT X G h37
 mP:=CT X G h38
 nA:=CT X G h39
 lV:=CT X G h40
 n0:=CT X G h41
 n3:=CT X G h42
 mM:=CT X G h43
 mT:=CT X G h44
 lF:=CT X G h45
 lC:=CT X G h46
 mL:=CT X G h47
 n2:=CT X G h48
 n6:=CT X G h49
 n5:=CT X G h50
 mS:=CT X G h51
 lR:=W7 n_Net g1_Net g2_Net g3_Net g4_Net h52 λ_ _ _ _ _ _=>U1 λ_ _=>rfl
 lS:=W7 n_Net g1_Net g2_Net g3_Net g4_Net h53 λ_ _ _ _ _ _=>U1 λ_ _=>rfl
 lE:=CT X G h54
 mR:=CT X G h55
 l9:=CT X G h56
 lD:=CT X G h57
 lb:=CT X G h58
 lc:=CT X G h59
 mO:=CT X G h60
 la:=CT X G h61
 l_:=CT X G h62
 mU:=CT X G h63
 lO:=W7 n_Net g1_Net g2_Net g3_Net g4_Net h64 λ_ _ _ _ _ _=>U1 λ_ _=>rfl
 nH:=CT X G h65
 mV:=CT X G h66
 mW:=CT X G h67
 mX:=CT X G h68
 n8:=CT X G h69
 vO:=CT X G h70
 OE:=Jt X G z_all
 br:=Jt X G z_bool
 U_:=Jt X G z_enumerate
 SO:=Jt X G z_int
 FO:=Jt X G z_isinstance
 Dh:=Jt X G z_len
 I9:=Jt X G z_list
 kH:=Jt X G z_max
 Jo:=Jt X G z_range
 kJ:=Jt X G z_set
 IU:=Jt X G z_str
 Lz:=Jt X G z_tuple
 ZT:=Jt X G z_zip
 N_:=⟨⟨_,_,Fj X G z_ANY_DOOR,(Pi _ _),λ_=>(PG _)⟩⟩
 Na:=⟨⟨_,_,Fj X G z_DROPPED,(Pi _ _),λ_=>(PG _)⟩⟩
 V1:=⟨⟨_,_,Fj X G z_FIGURES,(Pi _ _),λ_=>(PG _)⟩⟩
 SR:=⟨⟨_,_,Fj X G z_GREATEST_ADDRESS,(MX _ _),λ_=>(ND _)⟩⟩
 SS:=⟨⟨_,_,Fj X G z_MOST_DOORS,(MX _ _),λ_=>(ND _)⟩⟩
 SU:=⟨⟨_,_,Fj X G z_MOST_FIGURES,(MX _ _),λ_=>(ND _)⟩⟩
 RF:=⟨⟨_,_,Fj X G z_MOST_HOUSES,(MX _ _),λ_=>(ND _)⟩⟩
 SV:=⟨⟨_,_,Fj X G z_MOST_ROWS,(MX _ _),λ_=>(ND _)⟩⟩
 SW:=⟨⟨_,_,Fj X G z_MOST_STEPS,(MX _ _),λ_=>(ND _)⟩⟩
 M0:=⟨⟨_,_,Fj X G z_NONE_LISTED,(Pi _ _),λ_=>(PG _)⟩⟩
 SX:=⟨⟨.ref cO,_,Fj X G z_SIGNS,rfl,Pq y_SIGNS (NJ rfl) (.cons (Pi _ _) (.cons (Pi _ _) (.cons (Pi _ _) .nil))) λ_=>(.cons (PG _) (.cons (PG _) (.cons (PG _) .nil)))⟩⟩
 M1:=⟨⟨.ref cP,_,Fj X G z_WAIT,rfl,Pq y_WAIT (NJ rfl) (.cons (Pi _ _) .nil) λ_=>(.cons (PG _) .nil)⟩⟩
 PL:=⟨⟨.ref cQ,_,Fj X G z_WORTHS,rfl,Pq y_WORTHS (NJ rfl) (.cons (MX _ _) (.cons (MX _ _) (.cons (MX _ _) (.cons (MX _ _) .nil)))) λ_=>(.cons (ND _) (.cons (ND _) (.cons (ND _) (.cons (ND _) .nil))))⟩⟩
 bJ:=VB X G h17
 bK:=VB X G h15
 sO:=VB X G h36
 iQ:=VB X G h38
 iS:=VB X G h44
 bH:=⟨⟨Ue,Fj X G z_SAYING_READS,z_SAYING_READS⟩⟩
 Yq:=⟨⟨Ue,_,_,z_SAYING_READS,s_SAYING_READS,y_SAYING_READS,(.cons rfl ⟨_,rfl,Pq y_SAYING_READS_0 (NJ rfl) (.cons (K_ _) (.cons (K_ _) (.cons (K_ _) .nil))) λ_=>(.cons (K1 nf_pattern_read) (.cons (K1 nf_door_read) (.cons (K1 nf_door_read) .nil)))⟩ (.cons rfl ⟨_,rfl,Pq y_SAYING_READS_1 (NJ rfl) (.cons (K_ _) (.cons (K_ _) .nil)) λ_=>(.cons (K1 nf_pattern_read) (.cons (K1 nf_door_read) .nil))⟩ (.cons rfl ⟨_,rfl,Pq y_SAYING_READS_2 (NJ rfl) (.cons (K_ _) (.cons (K_ _) .nil)) λ_=>(.cons (K1 nf_pattern_read) (.cons (K1 nf_door_read) .nil))⟩ (.cons rfl ⟨_,rfl,Pq y_SAYING_READS_3 (NJ rfl) (.cons (K_ _) (.cons (K_ _) (.cons (K_ _) .nil))) λ_=>(.cons (K1 nf_pattern_read) (.cons (K1 nf_door_read) (.cons (K1 nf_number_read) .nil)))⟩ (.cons rfl ⟨_,rfl,Pq y_SAYING_READS_4 (NJ rfl) (.cons (K_ _) (.cons (K_ _) (.cons (K_ _) .nil))) λ_=>(.cons (K1 nf_pattern_read) (.cons (K1 nf_door_read) (.cons (K1 nf_number_read) .nil)))⟩ .nil)))))⟩⟩
set_option maxHeartbeats 4000000 in
def all_mk{l:jY}{w:Bg}{K:AZ}{h:B1}{mg:Str->Option A4}{G5:A3}(X:K.In h)(G:h.Ns Ci mg)(wk:mg "law"=some (.ref G5))(F:CL K "law" Pj)(T:cB K mg) :
  ∃fd:GO,(∀(s:AL)(v:A4),BindsTo s fd ⟨[v],[]⟩ [("_law_script",v)])/\∀base:B1,K.In base->base.Ns Ci mg->HY l.prog w K mg base Iu 12 G5 fd ["_law_script"] (Lk K 1 Qw):=by
 obtain⟨f,Dc,an,CJ,Ey,Cf,Jp,pm,cd,Cn,a,lk,c,k⟩:=F.ex;have e:=wk.symm.trans (Fj X G a);cases e;exact⟨_,λs v=>.of_eq rfl,λbase _ _=>ahm (RS (st:=Pj) lk c k) JE (v3 T)⟩
def aat(K:AZ)(H:A8)(a:A3)(ns:List Int)(J4:Bp K H a (ns.map V.int)):Lk K 1 Qw [.ref a] H (λv _=>v=.AI true) (λ_ _ _=>False):=
 aar (K:=K) (mf:=Qw) (H:=H) (a:=a) (ns:=ns) J4 (aas ns) (λ_ _ _=>False)
def agb {l:jY} {q:Bt} {loose:List Str} {Sv:(Str->Option A4)->B1->Prop} {PE:Bg->B1->Prop} {d:DefRec} {K:Params->AZ} (AU:l.most=some 63) (VN:d.params.defaults=[])(VI:∀(w:Bg)(h:B1),PE w h->(K w.params).In h)(F:∀(w:Bg)(mg:Str->Option A4)(G5:A3)(h:B1),(K w.params).In h->h.Ns Ci mg->mg d.name=some (.ref G5)->
    ∃fd:GO,(∀(s:AL)(u:A4),BindsTo s fd ⟨[u],[]⟩ [("_law_script",u)])/\∀base:B1,(K w.params).In base->base.Ns Ci mg->HY l.prog w (K w.params) mg base Iu 12 G5 fd ["_law_script"] (Lk (K w.params) 1 Qw)) :
  PySem.W.WalkO q loose Sv PE l.row.toRowW d [] (λf vs=>PySem.call f vs):=
 C7.agc (n:=63) (k:=12) (x:="_law_script") (CX:=λ_=>Iu) (sp:=λw=>Lk (K w.params) 1 Qw) AU (by decide) VN ⟨rfl,by decide,by decide⟩ VI F (λw H a ns _ _ J4=>aat (K w.params) H a ns J4) λ_ _ _ _ _ z=>z
end By
end
namespace PySem.W.Fast
def tw10830477825397026347:=0
def tw10954151025871900212:=0
def tw18017979908870953764:=0
def tw8620673499179291560:=0
def tw16121597147200868729:=0
def tw7567953341479566884:=0
def tw2338658132327131205:=0
def tw2873180800916819432:=0
def tw14662403647144316392:=0
def tw2695197161386552877:=0
def tw7258695542965474594:=0
def tw12135489432477465636:=0
def tw11764296378777570083:=0
def tw7890843886764767750:=0
def tw15690220868306860672:=0
def tw14062107117764758228:=0
def tw12612274381082092286:=0
def tw16292660142727429585:=0
def tw17900812845358998820:=0
def tw11899374605848256377:=0
def tw18288085330488254277:=0
def tw9053615656086636644:=0
def tw13364035903861636789:=0
def tw16522391030335973674:=0
def tw14638718974735486842:=0
def tw17057467076361900403:=0
def tw13299085179147689144:=0
def tw8134939204229680367:=0
def tw13211476546981467930:=0
def tw9069045153145696004:=0
def tw16239912363863214545:=0
def tw6600305334758416677:=0
def tw13367915928057911468:=0
def tw18357613230851217775:=0
def tw11692167379180297191:=0
def tw16974633739324131398:=0
def tw2759440211501645137:=0
def tw16932145384196452815:=0
def tw5728139903824504517:=0
def tw17603553642051462329:=0
def tw16233169132663871530:=0
def tw13785986625709174381:=0
def tw15272231217258107308:=0
def tw9311324854180614677:=0
def tw10399682249385325102:=0
def tw6078319186083097542:=0
def tw2395954071251544140:=0
def tw2446211335759214935:=0
def tw7860278611942935171:=0
def tw14764936952126083399:=0
def tw13768608032475156619:=0
def tw14101928787991745351:=0
def tw2589617616359484220:=0
def tw17794492386680679350:=0
def tw763181722611213998:=0
def tw15950188418908871078:=0
def tw2097069646558540817:=0
def tw7836165906735463891:=0
def tw6067640311169272885:=0
def tw4871332111699641846:=0
def tw10882249248557605200:=0
def tw8648602266147738421:=0
def tw64795996393793635:=0
def tw12491905478098058875:=0
def tw13067230605574012422:=0
def tw14643958756794957876:=0
def tw5286970347353616800:=0
def tw11516638312263045304:=0
def tw1557418286188274033:=0
def tw15148297612378096181:=0
def tw147202331086635037:=0
def tw5929451809513367034:=0
def tw4230434967994911356:=0
def tw15105701606150611904:=0
def tw17568768030460589687:=0
def tw11260534599410831297:=0
def tw17229216910746633251:=0
def tw9877923104041254315:=0
def tw882642341897622966:=0
def tw8536231220347062553:=0
def tw13502794205945860423:=0
def tw11661957126696967511:=0
def tw17283778861986056732:=0
def tw461654686619744240:=0
def tw7785544263841954479:=0
def tw4220108394307062318:=0
def tw8848574013119076245:=0
def tw7671107494046441143:=0
def tw14270149597360221225:=0
def tw6664600072669648809:=0
def tw12580922148180357824:=0
def tw11469258884208449062:=0
def tw581588963588468201:=0
def tw6125408207815333383:=0
def tw17145858502709505619:=0
def tw4216416099644506293:=0
def tw6985815423927611934:=0
def tw12684570388690963768:=0
def tw11143222714943113409:=0
def tw6902739964172799380:=0
def tw10561011158340540279:=0
def tw7719429618138904790:=0
def tw1016446029036941794:=0
def tw8608143051167425515:=0
def tw11506841253279777194:=0
def tw18399248861972875865:=0
def tw8183762434432558164:=0
def tw167273464957417934:=0
def tw554186447657279053:=0
def tw7313414487707082737:=0
def tw17361954224921850740:=0
def tw12255264037410191945:=0
def tw10789747916458896952:=0
def tw18239435212100698899:=0
def tw17475339894155500384:=0
def tw2735183450860560767:=0
def tw16781944141988304046:=0
def tw11214081807330005869:=0
def tw7972679234473405620:=0
def tw7072229396207229637:=0
def tw6920309211189521071:=0
def tw452636927432848340:=0
def tw4652807311472986465:=0
def tw16568644864968596988:=0
def tw16180475646616801327:=0
def tw4392104606718362150:=0
def tw5340535712136317377:=0
def tw17298108794040100398:=0
def tw15359808291945575953:=0
def tw7662081772245038730:=0
def tw2114687322309518512:=0
def tw16212704162996891699:=0
def tw9854760399781199839:=0
def tw17799898603394224118:=0
def tw4471542263880894609:=0
def tw17311755543501734548:=0
def tw14828882592944822913:=0
def tw6483239643733283526:=0
def tw16139285160971108080:=0
def tw13097564710768075867:=0
def tw216847020898345703:=0
def tw2871042320529447310:=0
def tw832012078114898441:=0
def tw5377961909240311598:=0
def tw17374567839652024074:=0
def tw6086986071250544038:=0
def tw4821720225167098294:=0
def tw7105830277609051496:=0
def tw4168307020965306390:=0
def tw12537724263044994203:=0
def tw3533292742138948278:=0
def tw9950337037618029116:=0
def tw8000082088539259533:=0
def tw3694280643425945303:=0
def tw2025243713616344975:=0
def tw15377516644581133897:=0
def tw8267621218510604072:=0
def tw6510462046159242993:=0
def tw13350896642406615369:=0
def tw8271657958280339314:=0
def tw3628984481228342935:=0
def tw13280987480971304215:=0
def tw10370648390042189633:=0
def tw16868838719585114370:=0
def tw15033535688659510071:=0
def tw2075075232617659849:=0
def tw701827130496666068:=0
def tw15653083803299617086:=0
def tw6470521526605353462:=0
def tw9738922512682382922:=0
def tw12797935265159931334:=0
def tw13279151084459537642:=0
def tw16035464366900948356:=0
def tw3844960246255028811:=0
def tw2295080005604661287:=0
def tw9062181761633171000:=0
def tw5594704519974946999:=0
def tw5945461976158672433:=0
def tw8329100329045683764:=0
def tw13520324629999532680:=0
def tw4329741828698413154:=0
def tw16399401981635181316:=0
def tw16958274475923931032:=0
def tw5691679483207163457:=0
def tw17879838265119400342:=0
def tw2778348543941071411:=0
def tw789139987110285339:=0
def tw3433413423803243136:=0
def tw6577697062893026031:=0
def tw3406265386745446703:=0
def tw10816225457392089093:=0
def tw362759267237301701:=0
def tw4056652505969261497:=0
def tw10400563700574107369:=0
def tw9405187912431922985:=0
def tw6412800204407431341:=0
def tw12251211964316134777:=0
def tw18146852725190405064:=0
def tw4146199077196295754:=0
def tw7928918921418711870:=0
def tw5152294499673054492:=0
def tw14017469509507136864:=0
def tw15759765277623711818:=0
def tw6238957392341986468:=0
def tw297123698359661218:=0
def tw5508656999060710544:=0
def tw17158839386402862274:=0
def tw72912684868754187:=0
def tw11551687528190210401:=0
def tw6151688848006464689:=0
def tw2539351013694604463:=0
def tw7058574193351729804:=0
def tw7173377671331447965:=0
def tw13643951210770371167:=0
def tw17837311171495727405:=0
def tw1799817792527020463:=0
def tw10626860631992137661:=0
def tw2006845101769668875:=0
def tw8453756360140489023:=0
def tw11393647556112852803:=0
def tw3704279815818772761:=0
def tw6811449893374325537:=0
def tw1382343997918995061:=0
def tw7216375822596496648:=0
def tw13817009496719543752:=0
def tw646760245380684260:=0
def tw10274692009050207087:=0
def tw4753908199129902569:=0
def tw10471728776397528590:=0
def tw16054440340986268109:=0
def tw6815464784310364200:=0
def tw8623754641325509223:=0
def tw7508289423210277051:=0
def tw14739411854114876885:=0
def tw9808500164004057083:=0
def tw7096042147394821544:=0
def tw16017689434784711728:=0
def tw2972786982322425714:=0
def tw12888455411505127901:=0
def tw2012551408865282093:=0
def tw14492289021030937044:=0
def tw1243436303271837585:=0
def tw3792271331651811076:=0
def tw6877043140122629094:=0
def tw4947772169095837109:=0
def tw15338096838826091017:=0
def tw7772955611848747027:=0
def tw7797149724538615020:=0
def tw3238640552821443029:=0
def tw2422035359141189691:=0
def tw1073077082080344129:=0
def tw12356099772518789924:=0
def tw9532362753528992432:=0
def tw11866890162855747883:=0
def tw16598581340548698058:=0
def tw7707980020302305257:=0
def tw8405994864816705813:=0
def tw11151616276286072951:=0
def tw5228367843693147454:=0
def tw15561251942247038596:=0
def tw13090826128077800651:=0
def tw11933195995862108228:=0
def tw6650349356951003122:=0
def tw8424281580240969109:=0
def tw16215522622159861915:=0
def tw13976839089570193679:=0
def tw16810429750639852705:=0
def tw1304680831732772095:=0
def tw6593939352697680914:=0
def tw5575789021539485980:=0
def tw6354720066710686824:=0
def tw7055029678954696124:=0
def tw5222514836092426883:=0
def tw5612601892428058132:=0
def tw4862532417628649437:=0
def tw5083248088218666508:=0
def tw3027089243195195010:=0
def tw1549251146976358272:=0
def tw14345002574476118555:=0
def tw589060728398935138:=0
def tw12486064097075853855:=0
def tw1227627908270876406:=0
def tw10498717729661042532:=0
def tw8856334623467209801:=0
def tw6244166250397734233:=0
def tw2566842966998414931:=0
def tw7135875640846626622:=0
def tw8440363319333066249:=0
def tw9211971998771413021:=0
def tw1923580117481617234:=0
def tw9237112918725762035:=0
def tw8087865703962008926:=0
def tw9619428633447090331:=0
def tw16057279660504212759:=0
def tw13761961067005741664:=0
def tw16469345241998461641:=0
def tw9995300955591523230:=0
def tw7341581904060339083:=0
def tw399113655495843994:=0
def tw8835521463666787765:=0
def tw17518003013373756835:=0
def tw1401755608368328735:=0
def tw17635484686536332313:=0
def tw5201960057685913909:=0
def tw3964728029397736686:=0
def tw1958135136135179422:=0
def tw12543216941358601296:=0
def tw13047496442592948415:=0
def tw8532314474364854261:=0
def tw9918573590288753094:=0
def tw16960178390161461699:=0
def tw10315651867530741576:=0
def tw11527378327878651052:=0
def tw4122630095374111135:=0
def tw9728750275284495744:=0
def tw8472344787329890168:=0
def tw3204398119421307894:=0
def tw6280794281275050187:=0
def tw3619651889132478699:=0
def tw3047556236301446490:=0
def tw8488751526921647844:=0
def tw9500983260369380784:=0
def tw15640221961448184875:=0
def tw11986370874707470855:=0
def tw10201716736829418660:=0
def tw6487824595789137543:=0
def tw18025575565787015439:=0
def tw6208236311350191873:=0
def tw12249891007486539774:=0
def tw925306406007868258:=0
end PySem.W.Fast
open PySem PySem.W PyProof.Rows
set_option maxRecDepth 100000 in
set_option maxHeartbeats 0 in
theorem PySem.Challenge.cw_nohalfway_k51_texts_shown_and_read_holds : PySem.Challenge.rw_nohalfway_k51_texts_shown_and_read.Holds := by
 w_on;o_law;k_head;(case hw=>w_witness2)
 k_fill
 refine By.agb (l:=PySem.Challenge.rw_nohalfway_k51_texts_shown_and_read) rfl rfl (λw h Y=>PySem.W.kIn_of Y) ?F
 case F=>
  intro w mg G5 h Lr G VS
  refine' By.all_mk Lr G VS ?h70 (By.ah2 Lr G ?n_Net ?g1_Net ?g2_Net ?g3_Net ?g4_Net ?u_Net_many ?u_Net_counts ?u_Net_joined ?u_Net_far ?mk_Net ?kc_Net ?n_NoText ?e1_NoText ?n_NoNet ?e1_NoNet ?n_NoPlan ?e1_NoPlan ?n_NoSaying ?e1_NoSaying ?n_NoBooks ?e1_NoBooks ?n_NoDoor ?e1_NoDoor ?n_NoAddress ?e1_NoAddress ?h0 ?h1 ?h2 ?h3 ?h4 ?h5 ?h6 ?h7 ?h8 ?h9 ?h10 ?h11 ?h12 ?h13 ?h14 ?h15 ?h16 ?h17 ?h18 ?h19 ?h20 ?h21 ?h22 ?h23 ?h24 ?h25 ?h26 ?h27 ?h28 ?h29 ?h30 ?h31 ?h32 ?h33 ?h34 ?h35 ?h36 ?h37 ?h38 ?h39 ?h40 ?h41 ?h42 ?h43 ?h44 ?h45 ?h46 ?h47 ?h48 ?h49 ?h50 ?h51 ?h52 ?h53 ?h54 ?h55 ?h56 ?h57 ?h58 ?h59 ?h60 ?h61 ?h62 ?h63 ?h64 ?h65 ?h66 ?h67 ?h68 ?h69 ?h70 ?z_all ?z_bool ?z_enumerate ?z_int ?z_isinstance ?z_len ?z_list ?z_max ?z_range ?z_set ?z_str ?z_tuple ?z_zip ?z_ANY_DOOR ?z_DROPPED ?z_FIGURES ?z_GREATEST_ADDRESS ?z_MOST_DOORS ?z_MOST_FIGURES ?z_MOST_HOUSES ?z_MOST_ROWS ?z_MOST_STEPS ?z_NONE_LISTED ?z_SIGNS ?y_SIGNS ?z_WAIT ?y_WAIT ?z_WORTHS ?y_WORTHS ?nf_door_read ?nf_number_read ?nf_pattern_read ?z_SAYING_READS ?s_SAYING_READS ?y_SAYING_READS ?y_SAYING_READS_0 ?y_SAYING_READS_1 ?y_SAYING_READS_2 ?y_SAYING_READS_3 ?y_SAYING_READS_4)
  case n_Net|g1_Net|g2_Net|g3_Net|g4_Net|u_Net_many|u_Net_counts|u_Net_joined|u_Net_far|mk_Net|kc_Net|n_NoText|n_NoNet|n_NoPlan|n_NoSaying|n_NoBooks|n_NoDoor|n_NoAddress|z_all|z_bool|z_enumerate|z_int|z_isinstance|z_len|z_list|z_max|z_range|z_set|z_str|z_tuple|z_zip|z_ANY_DOOR|z_DROPPED|z_FIGURES|z_GREATEST_ADDRESS|z_MOST_DOORS|z_MOST_FIGURES|z_MOST_HOUSES|z_MOST_ROWS|z_MOST_STEPS|z_NONE_LISTED|z_SIGNS|y_SIGNS|z_WAIT|y_WAIT|z_WORTHS|y_WORTHS|nf_door_read|nf_number_read|nf_pattern_read|z_SAYING_READS=>k_is
  case e1_NoText|e1_NoNet|e1_NoPlan|e1_NoSaying|e1_NoBooks|e1_NoDoor|e1_NoAddress=>k_exc
  case s_SAYING_READS=>rfl
  case y_SAYING_READS|y_SAYING_READS_0|y_SAYING_READS_1|y_SAYING_READS_2|y_SAYING_READS_3|y_SAYING_READS_4=>k_is
  case h0|h1|h2|h3|h4|h5|h6|h7|h8|h9|h11|h12|h13|h14|h15|h16|h17|h18|h19|h20|h22|h23|h24|h26|h27|h28|h29|h30|h31|h32|h33|h34|h35|h36|h37|h38|h39|h40|h41|h42|h43|h44|h45|h46|h47|h48|h49|h50|h51|h54|h55|h56|h57|h58|h59|h60|h61|h62|h63|h65|h66|h67|h68|h69|h70=>(refine' By.CU ?a ?l ?c ?k;case a|l|c|k=>k_is)
  case h10|h21|h25|h52|h53|h64=>(refine' By.TO ?a ?l ?c ?k ?i;case a|l|c|k|i=>k_is)
