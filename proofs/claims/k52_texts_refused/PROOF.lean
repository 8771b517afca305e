import PyProof.Rows.All
import Wide.All
import OpenK.AllK
import Wide.FinOn
import Lean
import PyProof.EqAt
import PyProof.EqKinds
import PyProof.TupleCall
import PyProof.NeKinds
import KE.KIsAll
import PyProof.ExcArgsOwn
import PySem.SetOps
import PyProof.TupleKey
import PyProof.SetKind
import PyProof.IsRules
import PyProof.Rows.SetFrom
import PyProof.Rows.SortShellK
import PyProof.DictKinds
import PyProof.FactsAll.tuple_2
import PyProof.SetRoads
import PyProof.AutoListH
import PyProof.SumAny
import PyProof.StrCalls
import KE.KTab
import KE.RegKIsAll
import KE.RegKTryMore
import PySem.Challenge.RW_nohalfway_k52_texts_refused
open PySem renaming wpAny_bind -> Vv, Value -> Vw, Shared -> Vx, starEach -> VA, wpAny_pure -> VB, Addr -> VD, mainGlobals -> VF, wpAny -> VL, sizeLine -> VP, Program -> VR, model -> VT, tupleKeyHash -> VU, Around -> V0, wpAny_mono -> V1, Expr -> V3, foldedSetIterable -> V4, wpAny_truthy_bool -> V8, World -> V9, cellsFrom -> Wc, behindInMarks -> Wd, compareOp -> Wn, IsTupleKey -> Wo, SetTable -> Wt, backTo -> Wu, Heap -> Wv, wpAny_field -> WA, bootBuiltins -> WH, FuncData -> WM, wpAny_seqItems -> WN, Stmt -> WO, wpAny_callSpecial?_slot -> WT, wpAny_holding -> WU, eval -> WW, Scope -> WX, wpAny_execs_nil -> WY, sysModules -> W3, wpAny_Call_Name_kw -> W5, wpAny_setField_rec -> W7, wpAny_passesOwn -> Xb, wpAny_comprehension_free -> Xg, attributeBase -> Xj, wpAny_call_entry -> Xl, assignEach -> Xm, swapsWith -> Xp, sizeLine_eq -> Xr, keywordEach -> Xs, wpAny_setState_of -> Xv, IsPair -> Xy, NameKind -> XB, cLine -> XE, codeAny_mono -> XH, notedBy -> XO, wpAny_pyIter_list -> XU, sliceBounds -> XX, wpAny_newObj_type -> XY, ofAClassStatement -> X0, binaryOp -> X2, carriedByValue -> X3, wpAny_execs_cons -> X7, codeAny -> X8, relabel -> X_, wpAny_updateSeq_pair -> Yc, codeAny_call_builtin -> Yd, call_meets -> Yi, letOwnedTupleGo -> Yj, pushCells_keeps -> Yk, strIterType -> Yo, codeAny_builtin -> Yp, backToKw -> Yt, tupleKind_room_in1 -> Yu, Keyword -> Yy, newFunctionEnv -> Yz, wpAny_setField -> YA, assign -> YC, wpAny_assign_Name -> YD, wpAny_call -> YE, wpAny_onRaise -> YR, wpAny_attempt -> YS, isExactStrKey -> YV, wpAny_forIn_list -> YY, wpAny_specialOf -> Za, compEnvC -> Zs, subscripted -> ZP, IsZip -> ZY, hashByValue -> ZZ, tupleKind -> Z3, getMethod -> Z4, bindArgs -> Z5, seqIndex? -> Z6, pushCells -> Z8, holding -> aag, leaving -> aah, getItem -> aai, callerA -> aaj, Builtin -> aal, pyNext -> aam, CmpOp -> aar
open PySem.Heap renaming get?_push_of_some -> Vy, lt_size -> VH, get?_push_size -> VN, size_push -> V_, SameBut -> Wm, get?_update_other -> WI, get?_update_self -> X6
open List renaming getElem?_eq_getElem -> Vz, mem_cons_of_mem -> VC, size_toArray -> VE, getElem?_append_right -> VI, getElem?_append_left -> VO, mem_append_right -> VQ, getElem?_map -> VW, mem_of_getElem? -> VX, replicate -> VY, mem_cons_self -> V5, length_cons -> Wf, getElem?_replicate -> Wj, range -> Wk, length_map -> Wq, map_cons -> Ws, mem_append_left -> Ww, length_append -> Wx, replicate_succ -> Wz, append_nil -> WD, getElem?_set_ne -> WE, filterMap_cons -> WJ, getElem_of_mem -> WL, length_replicate -> WQ, length_take -> WR, getD_eq_getElem?_getD -> W0, lookup_append -> W6, take_append_drop -> W9, getElem?_eq_none -> W_, flatten_cons -> Xd, find?_cons -> Xf, getElem?_cons_succ -> Xk, getElem?_set_self -> Xn, forall_mem_cons -> Xw, drop_eq_getElem_cons -> Xx, lookup_cons -> XD, getElem?_range -> XF, getElem?_take_of_lt -> XI, set_eq_of_length_le -> XJ, length_erase_of_mem -> XK, any_cons -> XN, drop_eq_nil_of_le -> XR, take_of_length_le -> XS, length_pos_of_mem -> XT, lookup -> XW, not_mem_nil -> Yb, mem_of_mem_drop -> Ye, mem_erase_of_ne -> Yf, all_cons -> Yg, getElem?_drop -> Yv, getElem?_set -> YJ, length_drop -> YW, all_eq_true -> YX, of_mem_zip -> Y8, foldl_cons -> Y9, nil_append -> Y_, forIn_cons -> Zb, getElem?_toArray -> Zq, mem_of_mem_take -> ZM, mem_cons -> aad
open Nat renaming le_refl -> VG, lt_of_lt_of_le -> VJ, ne_of_lt -> VV, le_trans -> V7, le_of_ble_eq_true -> Wh, lt_irrefl -> Wi, zero_le -> WK, ne_of_gt -> WV, le_add_right -> W4, lt_trichotomy -> Xh, eq_or_lt_of_le -> Xo, lt_trans -> Xt, lt_succ_of_lt -> XZ, le_of_lt -> X4, lt_succ_self -> X9, not_lt_of_gt -> Ya, le_of_lt_succ -> YL, sub_self -> aaq
open Bool renaming not_false -> VK, false_ne_true -> VZ, and_eq_true -> V6, false_eq_true -> Wy, not_eq_true' -> YI, not_true -> YT, and_false -> ZO, true_and -> Z9
open Option.some renaming inj -> VM
open PySem.Value renaming ref -> V2, none -> Wr, bool -> YB, type -> Zr, int -> aas, str -> aat
open PySem.Builtin.SmallTypes renaming nextOf -> Wa, ownedTupleIsFree -> WB, ownedTupleHandOut -> Xz
open Array renaming getElem?_eq_getElem -> Wb, getD_eq_getD_getElem? -> Wg, length_toList -> Xi, append_assoc -> XM
open PySem.NameKind renaming free -> We
open Classical renaming byContradiction -> Wl
open PyProof.Rows renaming envOfC -> WC, callWith_type1 -> Xq, AllBare -> Yw, kindOf -> YF, IsTup -> aaa, envOfC -> aap
open False renaming elim -> WG
open PySem.Builtin.Str renaming occurrences -> WS, strSliceIndices -> Yl, strKind -> Z0
open ForInStep renaming yield -> WZ
open PySem.F renaming slot_tuple_iterator_next -> W2, args_tuple_iterator_next_1 -> Yh, entry_tuple_iterator_next -> Ym, slot_zip_next -> Yn
open Or renaming inr -> W8, inl -> XA
open PySem.Obj renaming mapFields -> Xa, isFreed_of_fields -> Zp
open Int renaming toNat_natCast -> Xc
open PySem.Builtin.List renaming listTooLong -> Xe
open True renaming intro -> Xu
open Option renaming getD_some -> XC, isSome_map -> YG, isSome_some -> Z7
open PySem.Heap.SameBut renaming update -> XG, refl -> YK
open PyProof.Rows.F renaming plain_set_update_loop -> XP, entry_set_update_loop -> YU
open PySem.Txt renaming split -> XQ, slice -> Z_
open PySem.SetTable renaming insertAt -> X1, leap -> aab, sizeAbove -> aac
open PySem.Str renaming ofString -> X5
open PyProof.Rows.KTD renaming datumAt -> Yq
open PySem.PassesOwn renaming never -> Yr
open PySem.Calls renaming Name_function_global -> Ys, evalArgs_plain -> Zu
open Ne renaming symm -> Yx
open List.Pairwise renaming nil -> YH
open PySem.Builtin.Range renaming rangeSize -> YM
open PySem.SeqAt.RcNeAt renaming none_tuple -> YN, bool_tuple -> YO, tuple_none -> YP, tuple_bool -> YQ, none_list -> YZ, bool_list -> Y0, int_tuple -> Y1, str_tuple -> Y2, tuple_int -> Y3, tuple_str -> Y4, list_none -> Y5, list_bool -> Y6, int_list -> Zh, str_list -> Zi, list_int -> Zn, list_str -> Zo
open PySem.SeqAt renaming ne_of_list_tuple -> Y7, RcNeAt -> Zc, EqAt -> Zt, RcAt -> aak
open PySem.SeqAt.EqAt renaming none_tuple -> Zd, bool_tuple -> Zf, tuple_none -> Zj, tuple_bool -> Zl, none_list -> Zv, bool_list -> Zx, int_tuple -> Zz, str_tuple -> ZC, tuple_int -> ZE, tuple_str -> ZG, list_none -> ZI, list_bool -> ZK, int_list -> ZQ, str_list -> ZS, list_int -> ZU, list_str -> ZW, int_str -> Z1, str_int -> Z2, same -> aav
open PySem.SeqAt.RcAt renaming none_tuple -> Ze, bool_tuple -> Zg, tuple_none -> Zk, tuple_bool -> Zm, none_list -> Zw, bool_list -> Zy, int_tuple -> ZA, str_tuple -> ZD, tuple_int -> ZF, tuple_str -> ZH, list_none -> ZJ, list_bool -> ZL, int_list -> ZR, str_list -> ZT, list_int -> ZV, list_str -> ZX
open PySem.Around renaming under_plainId -> ZN, under -> aan
open Sum renaming inl -> aae, inr -> aaf
open PySem.Code renaming isFrame -> aao
open PySem.Data renaming cell -> aau
set_option Elab.async false
set_option linter.all false
set_option maxRecDepth 100000
noncomputable section
namespace aY
open PySem PySem.Spec PyProof.Rows
abbrev Key:=Sum Int Str
def ot:Key→Vw→Bool
 |.inl k,v=>Value.isInt k v
 |.inr x,v=>Value.isStrOf x v
def Lc(w:V9):Key→Int
 |.inl k=>hashInt k
 |.inr x=>hashStr w x
theorem kO:∀{k:Key}{v:Vw},ot k v=true→(∃i t,k=aae i∧v=aas i t)∨(∃x t,k=aaf x∧v=aat x t)
 |.inl i,v,h=>by obtain⟨t,e⟩:=Value.isInt_shape (k:=i) (v:=v) h;exact .inl ⟨i,t,rfl,e⟩
 |.inr x,v,h=>by obtain⟨t,e⟩:=Value.isStrOf_shape (x:=x) (v:=v) h;exact .inr ⟨x,t,rfl,e⟩
theorem Ld(i:Int)(t:Tok):ot (.inl i) (.int i t)=true:=by simp[ot,Value.isInt]
theorem Le(x:Str)(t:Tok):ot (.inr x) (.str x t)=true:=by simp[ot,Value.isStrOf]
theorem Lh(a b:Int):decide ((aae a:Key)=aae b)=(a==b):=by
 by_cases e:a=b
 ·subst e;simp
 ·have h:¬(aae a:Key)=aae b:=fun q=>e (Sum.inl.inj q);rw[decide_eq_false h];exact(beq_eq_false_iff_ne.mpr e).symm
theorem Lk(a b:Str):decide ((aaf a:Key)=aaf b)=decide (a=b):=by
 by_cases e:a=b
 ·subst e;simp
 ·have h:¬(aaf a:Key)=aaf b:=fun q=>e (Sum.inr.inj q);rw[decide_eq_false h,decide_eq_false e]
theorem Li(a:Int)(b:Str):decide ((aae a:Key)=aaf b)=false:=decide_eq_false (fun q=>nomatch q)
theorem Lj(a:Str)(b:Int):decide ((aaf a:Key)=aae b)=false:=decide_eq_false (fun q=>nomatch q)
noncomputable def hv(prog:VR)(w:V9):PySem.KeyKind prog w Key where
 is:=ot
 hash:=Lc w
 inj:=fun v a b ah J=>by
  rcases kO ah with⟨i,t,rfl,rfl⟩|⟨x,t,rfl,rfl⟩
  ·rcases kO J with⟨j,u,rfl,e⟩|⟨y,u,rfl,e⟩
   ·injection e with ao _;rw[ao]
   ·exact nomatch e
  ·rcases kO J with⟨j,u,rfl,e⟩|⟨y,u,rfl,e⟩
   ·exact nomatch e
   ·injection e with ao _;rw[ao]
 byValue:=fun k v h=>by rcases kO h with⟨i,t,rfl,rfl⟩|⟨x,t,rfl,rfl⟩<;>rfl
 pyHash:=fun bS h=>by
  rcases kO bS with⟨i,t,rfl,rfl⟩|⟨x,t,rfl,rfl⟩
  ·exact wpAny_pyHash_int h
  ·exact wpAny_pyHash_str h
 eqBool:=fun aN bS h=>by
  rcases kO aN with⟨i,t,rfl,rfl⟩|⟨x,t,rfl,rfl⟩
  ·rcases kO bS with⟨j,u,rfl,rfl⟩|⟨y,u,rfl,rfl⟩
   ·rw[Lh]at h;exact wpAny_eqBool_int h
   ·rw[Li]at h;exact Z1 i t y u _ _ _ _ h
  ·rcases kO bS with⟨j,u,rfl,rfl⟩|⟨y,u,rfl,rfl⟩
   ·rw[Lj]at h;exact Z2 x t j u _ _ _ _ h
   ·rw[Lk]at h;exact wpAny_eqBool_str h
 «strs»:=fun k x t v h=>by
  rcases kO h with⟨i,u,rfl,e⟩|⟨y,u,rfl,e⟩
  ·exact nomatch e
  ·injection e with ao _;subst ao;cases v<;>rfl
theorem Mt(prog:VR)(w:V9)(i:Int)(t:Tok):(hv prog w).is (.inl i) (.int i t)=true:=Ld i t
theorem Mu(prog:VR)(w:V9)(x:Str)(t:Tok):(hv prog w).is (.inr x) (.str x t)=true:=Le x t
inductive V where
 |non|aU (b:Bool)|int (i:Int)|str (x:Str)|lz (b:Array UInt8)|sr (b:UInt64)|ref (a:VD)|ty (n:String)
 deriving DecidableEq
noncomputable def RelV:V→Vw→Prop
 |.non,u=>u=Wr
 |.aU b,u=>u=YB b
 |.int i,u=>∃t,u=aas i t
 |.str x,u=>∃t,u=aat x t
 |.lz b,u=>∃t,u=Value.bytes b t
 |.sr b,u=>∃t,u=Value.float b t
 |.ref a,u=>u=V2 a
 |.ty n,u=>u=Zr n
abbrev Vals:List V→List Vw→Prop:=Paired RelV
theorem Vals.length{xs:List V}{us:List Vw}(r:Vals xs us):xs.length=us.length:=Paired.length r
theorem Vals.get:∀{xs:List V}{us:List Vw}{i:Nat}{x:V},Vals xs us→xs[i]?=some x→∃u,us[i]?=some u∧RelV x u
 |_,_,_,_,.nil,e=>by simp at e
 |_,_,0,_,.cons r _,e=>by simp at e;subst e;exact⟨_,rfl,r⟩
 |_,_,i+1,x,.cons _ t,e=>by obtain⟨u,h1,h2⟩:=Vals.get (i:=i) (x:=x) t (by simpa using e);exact⟨u,by simpa using h1,h2⟩
theorem Vals.set{x:V}{u:Vw}(r:RelV x u):∀{xs:List V}{us:List Vw}(i:Nat),Vals xs us→Vals (xs.set i x) (us.set i u)
 |_,_,_,.nil=>.nil
 |_,_,0,.cons _ t=>.cons r t
 |_,_,i+1,.cons q t=>.cons q (Vals.set r i t)
theorem Vals.append:∀{xs ys:List V}{us ws:List Vw},Vals xs us→Vals ys ws→Vals (xs++ys) (us++ws)
 |_,_,_,_,.nil,s=>s
 |_,_,_,_,.cons r t,s=>.cons r (Vals.append t s)
theorem Vals.take:∀{xs:List V}{us:List Vw}(n:Nat),Vals xs us→Vals (xs.take n) (us.take n)
 |_,_,0,_=>.nil
 |_,_,_+1,.nil=>.nil
 |_,_,n+1,.cons r t=>.cons r (Vals.take n t)
theorem Vals.drop:∀{xs:List V}{us:List Vw}(n:Nat),Vals xs us→Vals (xs.drop n) (us.drop n)
 |_,_,0,r=>r
 |_,_,_+1,.nil=>.nil
 |_,_,n+1,.cons _ t=>Vals.drop n t
def hI:Option V→Option Vw→Prop
 |some v,some u=>RelV v u
 |none,none=>True
 |_,_=>False
noncomputable def eU{cU:Type}:List (cU×V)→List (cU×Vw)→Prop:=Paired fun(p:cU×V)(q:cU×Vw)=>p.1=q.1∧RelV p.2 q.2
def cB:Key→V
 |.inl i=>.int i
 |.inr x=>.str x
inductive dj where
 |lst (xs:List V)
 |tup (xs:List V)
 |dc (a6:List (Key×V))|cA (a6:List (List Key×V))
 |set (S:Int→Bool) (n:Nat)
 |ins (C a5:VD) (aT:List (Str×V))
 |own (x:VD)
 |uj (aT:List (Str×V))
 |met (f x:VD)
 |tK (lo af:Int)
 |ix (o:Obj) (u:dj)
 |mb (aP:Array Vw)
 |ext (nC:Wv→Prop)
abbrev ae:=VD→Option dj
def upd(H:ae)(a:VD)(o:dj):ae:=fun b=>if b=a then some o else H b
theorem dI{H:ae}{a:VD}{o:dj}:upd H a o a=some o:=by unfold upd;rw[if_pos rfl]
theorem cY{H:ae}{a b:VD}{o:dj}(h:b≠a):upd H a o b=H b:=by unfold upd;rw[if_neg h]
theorem MP{H:ae}{a b:VD}{o u:dj}(h:H a=some o)(h':H b=some u)(d:o≠u):a≠b:=by intro e;subst e;rw[h]at h';exact d (VM h')
theorem g6{H:ae}{a b:VD}{o:dj}(h:H a=some o)(h':H b=none):a≠b:=by intro e;subst e;rw[h]at h';cases h'
section
variable(P:VR)(w:V9)
noncomputable def eF(H:ae)(h:Wv)(a:VD):dj→Prop
 |.lst xs=>xs.length≤VP∧∃(its:List Vw)(n:Nat),Vals xs its∧h.get? a=some { cls:=.type "list",data:=.seq its.toArray n }
 |.tup xs=>xs.length≤VP∧∃its:List Vw,Vals xs its∧IsTup h a its.toArray
 |.dc a6=>a6.length≤VP∧(a==W3)=false∧∃vs,eU a6 vs∧h.DictOf (hv P w) a vs
 |.cA a6=>a6.length≤VP∧(a==W3)=false∧∃xs:List (List Key×VD×Vw),
     Paired (fun(p:List Key×V)(q:List Key×VD×Vw)=>p.1=q.1∧H q.2.1=some (.tup (p.1.map cB))∧RelV p.2 q.2.2) a6 xs∧
     ∃o es b7,h.get? a=some o∧o.ExactDict∧o.data=.dict es b7∧es.toList=xs.map (entryOfKey (Z3 (hv P w)))∧(xs.map (·.1)).Nodup
 |.set S n=>h.SetOf (intKind P w) a S n
 |.ins C a5 aT=>H a5=some (.own a)∧aT.length≤1000∧a5≠a∧h.get? a=some (PySem.W.instObj C a5)∧
     ∃dA,h.Ns1 a5 dA∧(∀f,hI (aT.lookup f) (dA f))∧PySem.Within dA (aT.map (·.1))
 |.own _=>∃o,h.get? a=some o
 |.uj aT=>∃dA,h.Ns1 a dA∧∀f,hI (aT.lookup f) (dA f)
 |.tK lo af=>∃t u v,h.get? a=some { cls:=.type "range",data:=.fields #[.int lo t,.int af u,.int 1 v] }
 |.ix o u=>h.get? a=some o∧eF H h a u
 |.mb aP=>h.get? a=some { cls:=.none,data:=.fields aP }
 |.met f x=>h.get? a=some (PySem.W.methodObj (.ref f) (.ref x))
 |.ext nC=>nC h∧(∃o,h.get? a=some o)∧∀h1 h2:Wv,nC h1→(∀o,h1.get? a=some o→h2.get? a=some o)→nC h2
def dJ(H:ae)(h:Wv):Prop:=∀a o,H a=some o→eF P w H h a o
end
section
variable{P:VR}{w:V9}{H H':ae}{h h':Wv}{a:VD}{o:dj}
theorem eF.lt(x:eF P w H h a o):a<h.objs.size:=by
 cases o with
 |lst xs=>obtain⟨_,_,_,_,e⟩:=x;exact VH e
 |tup xs=>obtain⟨_,_,_,p⟩:=x;exact p.lt
 |dc a6=>obtain⟨_,_,_,_,o,_,_,e,_⟩:=x;exact VH e
 |cA a6=>obtain⟨_,_,_,_,o,_,_,e,_⟩:=x;exact VH e
 |set S n=>obtain⟨o,_,_,_,e,_⟩:=x;exact VH e
 |ins C a5 aT=>obtain⟨_,_,_,e,_⟩:=x;exact VH e
 |own y=>obtain⟨_,e⟩:=x;exact VH e
 |uj aT=>obtain⟨_,⟨_,_,_,e,_⟩,_⟩:=x;exact VH e
 |tK lo af=>obtain⟨_,_,_,e⟩:=x;exact VH e
 |ix bg u=>obtain⟨e,_⟩:=x;exact VH e
 |mb aP=>exact VH (show h.get? a=some _ from x)
 |met f y=>exact VH (show h.get? a=some _ from x)
 |ext nC=>obtain⟨_,⟨_,e⟩,_⟩:=x;exact VH e
theorem Paired.w9{α β:Type}{F G:α→β→Prop}:∀{Ds:List α}{Dt:List β},Paired F Ds Dt→(∀a b,F a b→G a b)→Paired G Ds Dt
 |_,_,.nil,_=>.nil
 |_,_,.cons r t,f=>.cons (f _ _ r) (Paired.w9 t f)
theorem eF.jN(x:eF P w H h a o)(k:∀b u,(b=a∨H b=some (.own a))→h.get? b=some u→h'.get? b=some u)(aB:∀b,H b=some (.own a)→H' b=some (.own a))(bH:∀b xs,H b=some (.tup xs)→H' b=some (.tup xs)):eF P w H' h' a o:=by
 induction o with
 |lst xs=>obtain⟨z,its,n,r,e⟩:=x;exact⟨z,its,n,r,k _ _ (.inl rfl) e⟩
 |tup xs=>obtain⟨z,its,r,bg,e,c⟩:=x;exact⟨z,its,r,bg,k _ _ (.inl rfl) e,c⟩
 |dc a6=>obtain⟨z,y,vs,r,bg,es,b7,e,c⟩:=x;exact⟨z,y,vs,r,bg,es,b7,k _ _ (.inl rfl) e,c⟩
 |cA a6=>obtain⟨z,y,xs,r,bg,es,b7,e,c⟩:=x;exact⟨z,y,xs,Paired.w9 r fun p q z=>⟨z.1,bH _ _ z.2.1,z.2.2⟩,bg,es,b7,k _ _ (.inl rfl) e,c⟩
 |set S n=>obtain⟨bg,es,b7,t,e,c⟩:=x;exact⟨bg,es,b7,t,k _ _ (.inl rfl) e,c⟩
 |ins C a5 aT=>obtain⟨d,z,ne,e,dA,⟨dh,es,b7,aA,c⟩,r⟩:=x;exact⟨aB _ d,z,ne,k _ _ (.inl rfl) e,dA,⟨dh,es,b7,k _ _ (.inr d) aA,c⟩,r⟩
 |own y=>obtain⟨bg,e⟩:=x;exact⟨bg,k _ _ (.inl rfl) e⟩
 |uj aT=>obtain⟨dA,⟨dh,es,b7,e,c⟩,r⟩:=x;exact⟨dA,⟨dh,es,b7,k _ _ (.inl rfl) e,c⟩,r⟩
 |tK lo af=>obtain⟨t,u,v,e⟩:=x;exact⟨t,u,v,k _ _ (.inl rfl) e⟩
 |ix bg u cW=>obtain⟨e,q⟩:=x;exact⟨k _ _ (.inl rfl) e,cW q⟩
 |mb aP=>have e:h.get? a=some { cls:=.none,data:=.fields aP }:=x;show h'.get? a=some { cls:=.none,data:=.fields aP };exact k a _ (.inl rfl) e
 |met f y=>have e:h.get? a=some (PySem.W.methodObj (.ref f) (.ref y)):=x;show h'.get? a=some (PySem.W.methodObj (.ref f) (.ref y));exact k a _ (.inl rfl) e
 |ext nC=>obtain⟨p,⟨o,e⟩,st⟩:=x;exact⟨st _ _ p fun o q=>k _ _ (.inl rfl) q,⟨o,k _ _ (.inl rfl) e⟩,st⟩
theorem dJ.lt(x:dJ P w H h)(e:H a=some o):a<h.objs.size:=(x a o e).lt
theorem dJ.fresh(x:dJ P w H h)(e:h.objs.size≤a):H a=none:=by
 cases q:H a with
 |none=>rfl
 |some u=>exact absurd (VJ (x.lt q) e) (Wi _)
theorem dJ.kept(x:dJ P w H h)(k:∀b u,h.get? b=some u→h'.get? b=some u):dJ P w H h':=fun a o e=>
 (x a o e).jN (fun b u _ q=>k b u q) (fun _ q=>q) fun _ _ q=>q
theorem dJ.laid(x:dJ P w H h)(k:∀b u,h.get? b=some u→h'.get? b=some u)(bf:h.objs.size≤a)(new:eF P w (upd H a o) h' a o):dJ P w (upd H a o) h':=fun b u e=>by
 have aK:=x.fresh bf;by_cases J:b=a
 ·subst J;rw[dI]at e;cases e;exact new
 ·rw[cY J]at e;exact(x b u e).jN (fun c v _ q=>k c v q) (fun c q=>by rw[cY (g6 q aK)];exact q) fun c xs q=>by rw[cY (g6 q aK)];exact q
end
def f7(H:ae)(a:VD)(u:dj):Prop:=H a=some u∨∃o,H a=some (.ix o u)
theorem f7.ok{P:VR}{w:V9}{H:ae}{h:Wv}{a:VD}{u:dj}(r:f7 H a u)(x:dJ P w H h):eF P w H h a u:=by
 rcases r with r|⟨o,r⟩
 ·exact x a u r
 ·obtain⟨_,q⟩:=x a _ r;exact q
noncomputable def pD:Option dj→Prop
 |some (.lst _)=>True
 |some (.dc _)=>True
 |some (.cA _)=>True
 |some (.set _ _)=>True
 |some (.ins _ _ _)=>True
 |some (.ext _)=>True
 |_=>False
section
variable{P:VR}{w:V9}{H:ae}{h h':Wv}{x e:VD}{bk:dj}
theorem dJ.write(ok:dJ P w H h)(hS:pD (H x))(he:e=x∨H e=some (.own x))(k:∀b u,b≠e→h.get? b=some u→h'.get? b=some u)(ob:∃u,h'.get? e=some u)(new:eF P w (upd H x bk) h' x bk):dJ P w (upd H x bk) h':=fun b u q=>by
 have D9:∀c y,H c=some (.own y)→c≠x:=fun c y r z=>by subst z;rw[r]at hS;exact hS
 have M3:∀c xs,H c=some (.tup xs)→c≠x:=fun c xs r z=>by subst z;rw[r]at hS;exact hS
 by_cases J:b=x
 ·subst J;rw[dI]at q;cases q;exact new
 ·rw[cY J]at q;by_cases j_:b=e
  ·have cq:H b=some (.own x):=by
     rcases he with z|z
     ·exact absurd (j_.trans z) J
     ·rw[j_];exact z
   rw[q]at cq;cases cq;obtain⟨v,bS⟩:=ob;exact⟨v,by rw[j_];exact bS⟩
  ·refine(ok b u q).jN (fun c v aq r=>k c v ?_ r) (fun c r=>by rw[cY (D9 c b r)];exact r) fun c xs r=>by rw[cY (M3 c xs r)];exact r
   rcases aq with rfl|aq
   ·exact j_
   ·rintro rfl;rcases he with z|z
    ·exact D9 c b aq z
    ·rw[aq]at z;cases z;exact J rfl
end
structure d2(aT ex:List VD)(H H':ae)(h h':Wv):Prop where
 keep:∀b o,h.get? b=some o→H b=none→b∉aT→b∉ex→h'.get? b=some o
 slot:∀b o,h.get? b=some o→H b=none→b∈aT→b∉ex→∃cb,h'.get? b=some { o with slots:=cb }
 free:∀b o,h.get? b=some o→H b=none→b∉ex→H' b=none
 there:∀b o,h.get? b=some o→b∉ex→∃bk,h'.get? b=some bk
 fP:∀b xs,H b=some (.tup xs)→H' b=some (.tup xs)
 fA:∀b o u,H b=some (.ix o u)→H' b=some (.ix o u)
 fN:∀b aP,H b=some (.mb aP)→∃more,H' b=some (.mb (aP++more))
section
variable{aT sv ex Be:List VD}{H H1 aM:ae}{h h1 h2 h':Wv}{a x e:VD}{o:dj}
theorem d2.any(u:d2 aT ex H H1 h h1){b:VD}{bg:Obj}(q:h.get? b=some bg)(n:H b=none)(av:b∉ex):∃cb,h1.get? b=some { bg with slots:=cb }:=by
 by_cases J:b∈aT
 ·exact u.slot b bg q n J av
 ·exact⟨bg.slots,u.keep b bg q n J av⟩
theorem d2.trans(a:d2 aT ex H H1 h h1)(b:d2 aT ex H1 aM h1 h2):d2 aT ex H aM h h2 where
 keep:=fun c bg q n aq av=>b.keep c bg (a.keep c bg q n aq av) (a.free c bg q n av) aq av
 slot:=fun c bg q n aq av=>by obtain⟨cb,ao⟩:=a.slot c bg q n aq av;obtain⟨yB,aA⟩:=b.slot c _ ao (a.free c bg q n av) aq av;exact⟨yB,aA⟩
 free:=fun c bg q n av=>by obtain⟨bk,ao⟩:=a.there c bg q av;exact b.free c bk ao (a.free c bg q n av) av
 there:=fun c bg q av=>by obtain⟨bk,ao⟩:=a.there c bg q av;exact b.there c bk ao av
 fP:=fun c xs q=>b.fP c xs (a.fP c xs q)
 fA:=fun c bg xs q=>b.fA c bg xs (a.fA c bg xs q)
 fN:=fun c aP q=>by obtain⟨gz,ao⟩:=a.fN c aP q;obtain⟨g5,aA⟩:=b.fN c _ ao;exact⟨gz++g5,by rw[aA,XM]⟩
theorem d2.kept(k:∀b u,h.get? b=some u→h'.get? b=some u):d2 aT ex H H h h':=
 ⟨fun b bg q _ _ _=>k b bg q,fun b bg q _ _ _=>⟨bg.slots,k b bg q⟩,fun _ _ _ n _=>n,fun b bg q _=>⟨bg,k b bg q⟩,fun _ _ q=>q,fun _ _ _ q=>q,fun _ aP q=>⟨#[],by rw[q];simp⟩⟩
theorem d2.refl:d2 aT ex H H h h:=d2.kept fun _ _ q=>q
theorem d2.laid(k:∀b u,h.get? b=some u→h'.get? b=some u)(bf:h.objs.size≤a)(aK:H a=none):d2 aT ex H (upd H a o) h h' where
 keep:=fun b u q _ _ _=>k b u q
 slot:=fun b u q _ _ _=>⟨u.slots,k b u q⟩
 free:=fun b u q n _=>by rw[cY (VV (VJ (VH q) bf))];exact n
 there:=fun b u q _=>⟨u,k b u q⟩
 fP:=fun b xs q=>by rw[cY (g6 q aK)];exact q
 fA:=fun b u xs q=>by rw[cY (g6 q aK)];exact q
 fN:=fun b aP q=>⟨#[],by rw[cY (g6 q aK),q];simp⟩
theorem d2.write(hS:pD (H x))(he:e=x∨H e=some (.own x))(k:∀b u,b≠e→h.get? b=some u→h'.get? b=some u)(ob:∃u,h'.get? e=some u):d2 aT ex H (upd H x o) h h':=by
 have av:∀b,H b=none→b≠x:=fun b n z=>by subst z;rw[n]at hS;exact hS
 have J:∀b,H b=none→b≠e:=fun b n z=>by
  subst z;rcases he with r|r
  ·exact av b n r
  ·rw[n]at r;cases r
 have hm:∀b u,H b=some u→¬pD (some u)→b≠x:=fun b u q nm z=>by subst z;rw[q]at hS;exact nm hS
 refine⟨fun b u q n _ _=>k b u (J b n) q,fun b u q n _ _=>⟨u.slots,k b u (J b n) q⟩,fun b u q n _=>by rw[cY (av b n)];exact n,fun b u q _=>?_,
  fun b xs q=>by rw[cY (hm b _ q fun z=>z)];exact q,fun b u xs q=>by rw[cY (hm b _ q fun z=>z)];exact q,fun b aP q=>⟨#[],by rw[cY (hm b _ q fun z=>z),q];simp⟩⟩
 by_cases j_:b=e
 ·subst j_;exact ob
 ·exact⟨u,k b u j_ q⟩
theorem d2.mono(u:d2 aT ex H H1 h h1)(hs:∀b∈aT,b∈sv)(av:∀b∈ex,b∈Be):d2 sv Be H H1 h h1:=
 ⟨fun b bg q n J he=>u.keep b bg q n (fun z=>J (hs b z)) fun z=>he (av b z),fun _ _ q n _ he=>u.any q n fun z=>he (av _ z),fun b bg q n he=>u.free b bg q n fun z=>he (av b z),fun b bg q he=>u.there b bg q fun z=>he (av b z),u.fP,u.fA,u.fN⟩
end
def ua(h:Wv)(H:ae):List VD:=(Wk h.objs.size).filter fun a=>(H a).isSome
def kH(h:Wv)(H:ae):Wv:=PySem.W.hideAll h (ua h H)
theorem Jc(h:Wv)(H:ae):(kH h H).objs.size=h.objs.size:=PySem.W.hideAll_size _ _
theorem Jb{h:Wv}{H:ae}{b:VD}{o:Obj}(e:h.get? b=some o)(n:H b=none):(kH h H).get? b=some o:=
 PySem.W.hideAll_get _ e fun hm=>by have q:(H b).isSome=true:=(List.mem_filter.mp hm).2;rw[n]at q;simp at q
theorem Na{h:Wv}{H:ae}{b:VD}{o:Obj}(e:(kH h H).get? b=some o):h.get? b=some o∧H b=none:=by
 have bN:h.get? b=some o:=PySem.W.of_hideAll (ua h H) e;refine⟨bN,?_⟩;cases q:H b with
 |none=>rfl
 |some x=>have hm:b∈ua h H:=List.mem_filter.mpr ⟨List.mem_range.mpr (VH bN),by simp[q]⟩;have z:(kH h H).get? b=none:=PySem.W.hideAll_none (ua h H) hm;rw[z]at e;cases e
noncomputable def G4(g h:Wv)(L:VD):List (VD×Obj):=(Wk h.objs.size).filterMap fun a=>if a=L∨(g.get? a).isSome=true then none else(h.get? a).map fun o=>(a,o)
def rest(g h:Wv)(L d:VD):List (VD×Obj):=(G4 g h L).filter fun p=>decide (p.1≠d)
structure Mod(K:PySem.W.Frag)(mg:Str→Option Vw)(base:Wv):Prop where
 kd:K.In base
 glob:base.Ns VF mg
 blt:∃fC,base.Ns builtinsNs fC∧∀x:Str,x≠"__name__"→fC x=WH x
 nolimit:base.NoLimit
structure aD where
 prog:VR
 w:V9
 K:PySem.W.Frag
 mg:Str→Option Vw
 base:Wv
 A:V0
 N:List Str
 dP:Vx
 iS:ae
 env:Env
 outer:List Env
 stack:List Env
 ex:List VD
 fn:Str→Bool
 calm:Bool
 l1:List (VD×Obj)
 xe:Vw→Vx→Prop
def cZ(l:List Env):List VD:=l.filterMap (·.frame)
abbrev aD.aT(X:aD):List VD:=cZ X.outer
noncomputable def hJ(sc:WX)(x:Str):Prop:=sc.names.lookup x=some .local∨sc.names.lookup x=some .cell∨sc.names.lookup x=some .free
def Loc(sc:WX)(x:Str):Prop:=sc.names.lookup x=some .local∨sc.names.lookup x=some .cell
noncomputable def Look(env:Env)(h:Wv)(m:Str→Option Vw)(x:Str)(u:Vw):Prop:=
 (env.kindOf x=some .local∧m x=some u)∨((env.kindOf x=some .cell∨env.kindOf x=some .free)∧∃c,env.cells.lookup x=some c∧h.IsCell c (some u))
structure aD.Ok(X:aD):Prop where
 mod:Mod X.K X.mg X.base
 kind:X.env.scope.kind=.function
 glob:X.env.globals=VF
 blt:X.env.builtins=builtinsNs
 above:X.dP.heap.objs.size≤X.env.locals
 inj:∀x y c,X.env.cells.lookup x=some c→X.env.cells.lookup y=some c→x=y
 has:∀x,(X.env.kindOf x=some .cell∨X.env.kindOf x=some .free)→∃c,X.env.cells.lookup x=some c
 nZ:∀x c,X.fn x=true→X.env.cells.lookup x=some c→X.dP.heap.objs.size≤c
 hd:X.calm=true→X.A.handled=none
 frames:X.A.frames=some X.stack
 rp:X.stack=X.outer∨(X.stack=X.env::X.outer∧X.env.frame=some X.env.locals)
 vG:∀b∈X.ex,b≠X.env.locals∧∀x c,X.env.cells.lookup x=some c→c≠b
 bs:∀b o,X.base.get? b=some o→X.dP.heap.get? b=some o∧X.iS b=none
 kz:X.base.objs.size≤X.dP.heap.objs.size
 lZ:∀b o,X.base.get? b=some o→b∉X.ex
 qb:∀b∈X.ex,b∉X.aT
 gI:X.dP.heap.FunFrames X.base X.outer
 lH:∀b∈X.aT,X.iS b=none
structure Inv(X:aD)(pins:List (VD×Obj))(σ :List (Option V))(H:ae)(s:Vx):Prop where
 ok:X.Ok
 os:s.os=X.dP.os
 bare:Yw s.gens
 base:d2 X.aT X.ex X.iS H X.dP.heap s.heap
 loc:∃m,s.heap.Ns X.env.locals m∧∀(i:Nat)(x:Str)(v:V),X.N[i]?=some x→ σ[i]?=some (some v)→hJ X.env.scope x→∃u,RelV v u∧Look X.env s.heap m x u
 cell:∀x c,X.env.cells.lookup x=some c→∃v,s.heap.IsCell c v
 free:H X.env.locals=none
 hM:∀x c,X.env.cells.lookup x=some c→H c=none
 pin:∀p∈X.l1++pins,s.heap.get? p.1=some p.2∧H p.1=none∧p.1≠X.env.locals∧p.1∉X.aT∧∀v,p.2.data≠.cell v
 bw:dJ X.prog X.w H s.heap
 len: σ.length=X.N.length
section
variable{X:aD}{pins:List (VD×Obj)}{σ :List (Option V)}{H H':ae}{s:Vx}{h':Wv}
theorem aD.Ok.MX(ok:X.Ok){b:VD}{o:Obj}(e:X.base.get? b=some o):b∉X.aT:=fun J=>by have:=(ok.gI.mem J).1;rw[e]at this;cases this
theorem Inv.bs(I:Inv X pins σ H s):∀b o,X.base.get? b=some o→s.heap.get? b=some o∧H b=none:=fun b o e=>
 ⟨I.base.keep b o (I.ok.bs b o e).1 (I.ok.bs b o e).2 (I.ok.MX e) (I.ok.lZ b o e),I.base.free b o (I.ok.bs b o e).1 (I.ok.bs b o e).2 (I.ok.lZ b o e)⟩
theorem Inv.ey(I:Inv X pins σ H s):∀b o,X.base.get? b=some o→s.heap.get? b=some o:=fun b o e=>(I.bs b o e).1
theorem Inv.mod(I:Inv X pins σ H s):Mod X.K X.mg X.base:=I.ok.mod
theorem Inv.ej(I:Inv X pins σ H s):X.K.In s.heap:=I.ok.mod.kd.keeps I.ey
theorem Inv.lt(I:Inv X pins σ H s):X.env.locals<s.heap.objs.size:=let⟨_,aK,_⟩:=I.loc;aK.lt
theorem Inv.tY(I:Inv X pins σ H s):X.dP.heap.objs.size≤s.heap.objs.size:=V7 I.ok.above (X4 I.lt)
theorem Inv.MZ(I:Inv X pins σ H s){a:VD}(h:s.heap.objs.size≤a):a∉X.aT:=fun J=>by obtain⟨_,o,aB,_⟩:=I.ok.gI.mem J;exact absurd (VJ (VH aB) (V7 I.tY h)) (Wi _)
theorem Inv.lB(I:Inv X pins σ H s):∀x c,X.env.cells.lookup x=some c→c≠X.env.locals:=fun x c e z=>by obtain⟨v,o,aB,hd⟩:=I.cell x c e;obtain⟨m,⟨bk,es,b7,e_,jx,_⟩,_⟩:=I.loc;rw[z,e_]at aB;cases aB;rw[jx]at hd;cases hd
theorem Inv.gI(I:Inv X pins σ H s):s.heap.FunFrames X.base X.outer:=by
 have all:∀(l:List Env),(∀b∈cZ l,b∈X.aT)→X.dP.heap.FunFrames X.base l→s.heap.FunFrames X.base l:=by
  intro l;induction l with
  |nil=>intro _ _;trivial
  |cons env r cW=>intro hs ak;obtain⟨aH,⟨L,o,hf,aK,aB,hd⟩,aw⟩:=ak;have gK:L∈X.aT:=hs L (by unfold cZ;rw[WJ,hf];exact V5);obtain⟨cb,e⟩:=I.base.slot L o aB (I.ok.lH L gK) gK fun z=>I.ok.qb L z gK;exact⟨aH,⟨L,_,hf,aK,e,hd⟩,cW (fun b J=>hs b (by unfold cZ;rw[WJ,hf];exact VC _ J)) aw⟩
 exact all X.outer (fun _ J=>J) I.ok.gI
theorem Inv.stack(I:Inv X pins σ H s):s.heap.FunFrames X.base X.stack:=by
 rcases I.ok.rp with e|⟨e,hf⟩
 ·rw[e];exact I.gI
 ·rw[e];obtain⟨m,aK,_⟩:=I.loc;refine .cons (by rw[I.ok.kind];decide) hf aK ?_ I.gI;exact Heap.get?_none_of_le (V7 I.ok.kz I.ok.above)
theorem Inv.rq(I:Inv X pins σ H s):∀b∈cZ X.stack,b∈X.env.locals::X.aT:=fun b J=>by
 rcases I.ok.rp with e|⟨e,hf⟩
 ·rw[e]at J;exact VC _ J
 ·rw[e]at J;unfold cZ at J;rw[WJ,hf]at J;exact J
theorem Inv.yD(I:Inv X pins σ H s):∀b∈cZ X.stack,H b=none:=fun b J=>by
 rcases List.mem_cons.mp (I.rq b J)with e|J
 ·rw[e];exact I.free
 ·obtain⟨_,o,aB,_⟩:=I.ok.gI.mem J;exact I.base.free b o aB (I.ok.lH b J) fun z=>I.ok.qb b z J
theorem Inv.step{g':Array GenState}{t':Nat}{d':Drawn}{ch:List VD}(I:Inv X pins σ H s)(kb:∀b∈ch,(b∈X.ex∨X.dP.heap.objs.size≤b)∧b≠X.env.locals∧(∀x c,X.env.cells.lookup x=some c→c≠b)∧∀p∈X.l1++pins,p.1≠b)(keep:∀b o,b≠X.env.locals→b∉X.aT→b∉ch→s.heap.get? b=some o→H b=none→h'.get? b=some o)(slot:∀b o,b≠X.env.locals→b∈X.aT→b∉ch→s.heap.get? b=some o→H b=none→∃cb,h'.get? b=some { o with slots:=cb })(free:∀b o,b∉ch→s.heap.get? b=some o→H b=none→H' b=none)(there:∀b o,b∉ch→s.heap.get? b=some o→∃bk,h'.get? b=some bk)(fP:∀b xs,H b=some (.tup xs)→H' b=some (.tup xs))(fA:∀b o u,H b=some (.ix o u)→H' b=some (.ix o u))(fN:∀b aP,H b=some (.mb aP)→∃more,H' b=some (.mb (aP++more)))(ns:∀m,s.heap.Ns X.env.locals m→h'.Ns X.env.locals m)(bw:dJ X.prog X.w H' h')(aF:Yw g') :
  Inv X pins σ H' { s with heap:=h',gens:=g',drawn:=d',toks:=t' }:=by
 have D0:∀b o,X.dP.heap.get? b=some o→b≠X.env.locals:=fun b o e=>VV (VJ (VH e) I.ok.above);have tl:∀b o,X.dP.heap.get? b=some o→b∉X.ex→b∉ch:=fun b o e av J=>by
  rcases(kb b J).1 with z|z
  ·exact av z
  ·exact absurd (VJ (VH e) z) (Wi _)
 have cellK:∀x c,X.env.cells.lookup x=some c→∀v,s.heap.IsCell c v→h'.IsCell c v:=fun x c e v⟨o,aB,hd⟩=>by
  have q8:c∉ch:=fun z=>(kb c z).2.2.1 x c e rfl;by_cases aq:c∈X.aT
  ·obtain⟨cb,q⟩:=slot c o (I.lB x c e) aq q8 aB (I.hM x c e);exact⟨_,q,hd⟩
  ·exact⟨o,keep c o (I.lB x c e) aq q8 aB (I.hM x c e),hd⟩
 refine⟨I.ok,I.os,aF,⟨fun b o e n J av=>?_,fun b o e n J av=>?_,fun b o e n av=>?_,fun b o e av=>?_,fun b xs e=>fP b xs (I.base.fP b xs e),fun b o xs e=>fA b o xs (I.base.fA b o xs e),fun b aP e=>?_⟩,?_,fun x c e=>?_,?_,fun x c e=>?_,fun p bf=>?_,bw,I.len⟩
 ·exact keep b o (D0 b o e) J (tl b o e av) (I.base.keep b o e n J av) (I.base.free b o e n av)
 ·obtain⟨cb,ao⟩:=I.base.slot b o e n J av;obtain⟨yB,aA⟩:=slot b _ (D0 b o e) J (tl b o e av) ao (I.base.free b o e n av);exact⟨yB,aA⟩
 ·obtain⟨bk,ao⟩:=I.base.there b o e av;exact free b bk (tl b o e av) ao (I.base.free b o e n av)
 ·obtain⟨bk,ao⟩:=I.base.there b o e av;exact there b bk (tl b o e av) ao
 ·obtain⟨gz,ao⟩:=I.base.fN b aP e;obtain⟨g5,aA⟩:=fN b _ ao;exact⟨gz++g5,by rw[aA,XM]⟩
 ·obtain⟨m,aK,ak⟩:=I.loc;refine⟨m,ns m aK,fun i x v ao aA b9=>?_⟩;obtain⟨u,r,l⟩:=ak i x v ao aA b9;refine⟨u,r,?_⟩;rcases l with l|⟨k,c,e,z⟩
  ·exact .inl l
  ·exact .inr ⟨k,c,e,cellK x c e _ z⟩
 ·obtain⟨v,z⟩:=I.cell x c e;exact⟨v,cellK x c e v z⟩
 ·obtain⟨m,⟨o,_,_,aB,_⟩,_⟩:=I.loc;exact free _ o (fun z=>(kb _ z).2.1 rfl) aB I.free
 ·obtain⟨v,o,aB,hd⟩:=I.cell x c e;exact free c o (fun z=>(kb c z).2.2.1 x c e rfl) aB (I.hM x c e)
 ·obtain⟨e,n,ne,fZ,d⟩:=I.pin p bf;have q8:p.1∉ch:=fun z=>(kb p.1 z).2.2.2 p bf rfl;exact⟨keep p.1 p.2 ne fZ q8 e n,free p.1 p.2 q8 e n,ne,fZ,d⟩
theorem Inv.un{t':Nat}(I:Inv X pins σ H s)(u:d2 X.aT [] H H' s.heap h')(bw:dJ X.prog X.w H' h'):Inv X pins σ H' { s with heap:=h',toks:=t' }:=by
 obtain⟨m,⟨o,es,b7,aB,r⟩,_⟩:=id I.loc;obtain⟨cb,gK⟩:=u.any aB I.free (by simp);exact I.step (g':=s.gens) (d':=s.drawn) (ch:=[]) (fun _ z=>nomatch z) (fun b o _ J _ e n=>u.keep b o e n J (by simp)) (fun b o _ J _ e n=>u.slot b o e n J (by simp)) (fun b o _ e n=>u.free b o e n (by simp)) (fun b o _ e=>u.there b o e (by simp)) u.fP u.fA u.fN (fun ck hm=>by obtain⟨bk,es',mO,e_,bq⟩:=hm;rw[aB]at e_;cases e_;exact⟨_,es',mO,gK,bq⟩) bw I.bare
theorem Inv.call{g':Array GenState}{t':Nat}{d':Drawn}{ch:List VD}(I:Inv X pins σ H s)(u:d2 (cZ X.stack) ch H H' s.heap h')(bw:dJ X.prog X.w H' h')(aF:Yw g')(kb:∀b∈ch,(b∈X.ex∨X.dP.heap.objs.size≤b)∧b≠X.env.locals∧(∀x c,X.env.cells.lookup x=some c→c≠b)∧∀p∈X.l1++pins,p.1≠b) :
  Inv X pins σ H' { s with heap:=h',gens:=g',drawn:=d',toks:=t' }:=by
 obtain⟨m,⟨o,es,b7,aB,r⟩,_⟩:=id I.loc;obtain⟨cb,gK⟩:=u.any aB I.free fun z=>(kb _ z).2.1 rfl;exact I.step (ch:=ch) kb (fun b o gK J aq e n=>u.keep b o e n (fun z=>(List.mem_cons.mp (I.rq b z)).elim gK J) aq) (fun b o _ _ aq e n=>u.any e n aq) (fun b o aq e n=>u.free b o e n aq) (fun b o aq e=>u.there b o e aq) u.fP u.fA u.fN (fun ck hm=>by obtain⟨bk,es',mO,e_,bq⟩:=hm;rw[aB]at e_;cases e_;exact⟨_,es',mO,gK,bq⟩) bw aF
theorem Inv.turned{t':Nat}{it:VD}(I:Inv X pins σ H s)(k:∀b o,b≠it→s.heap.get? b=some o→h'.get? b=some o)(aK:H it=none)(gK:it≠X.env.locals)(h1:it∈X.ex∨X.dP.heap.objs.size≤it)(h2:∀x c,X.env.cells.lookup x=some c→c≠it)(h3:∀p∈X.l1++pins,p.1≠it):Inv X pins σ H { s with heap:=h',toks:=t' }:=by
 have lY:∀b u,H b=some u→b≠it:=fun b u e z=>by rw[z,aK]at e;cases e
 refine I.step (g':=s.gens) (d':=s.drawn) (ch:=[it]) (fun b J=>?_) (fun b o _ _ aq e _=>k b o (fun z=>aq (by simp[z])) e) (fun b o _ _ aq e _=>⟨o.slots,k b o (fun z=>aq (by simp[z])) e⟩) (fun _ _ _ _ n=>n)
  (fun b o aq e=>⟨o,k b o (fun z=>aq (by simp[z])) e⟩) (fun _ _ e=>e) (fun _ _ _ e=>e) (fun b aP e=>⟨#[],by rw[e];simp⟩) (fun m hm=>?_) (fun b u e=>?_) I.bare
 ·have e:b=it:=by simpa using J
  subst e;exact⟨h1,gK,h2,h3⟩
 ·obtain⟨o,es,b7,aB,r⟩:=hm;exact⟨o,es,b7,k _ o (Yx gK) aB,r⟩
 ·refine(I.bw b u e).jN (fun c v aq q=>k c v ?_ q) (fun _ q=>q) fun _ _ q=>q;rcases aq with z|z
  ·rw[z];exact lY b u e
  ·exact lY c _ z
theorem Inv.tok(I:Inv X pins σ H s)(t:Nat):Inv X pins σ H { s with toks:=t }:=I.un (h':=s.heap) (t':=t) d2.refl I.bw
theorem Inv.kept{t':Nat}(I:Inv X pins σ H s)(k:∀b u,s.heap.get? b=some u→h'.get? b=some u):Inv X pins σ H { s with heap:=h',toks:=t' }:=I.un (d2.kept k) (I.bw.kept k)
theorem Inv.laid{a:VD}{o:dj}{t':Nat}(I:Inv X pins σ H s)(k:∀b u,s.heap.get? b=some u→h'.get? b=some u)(bf:s.heap.objs.size≤a)(new:eF X.prog X.w (upd H a o) h' a o) :
  Inv X pins σ (upd H a o) { s with heap:=h',toks:=t' }:=I.un (d2.laid k bf (I.bw.fresh bf)) (I.bw.laid k bf new)
theorem Inv.write{x e:VD}{o:dj}{t':Nat}(I:Inv X pins σ H s)(hS:pD (H x))(he:e=x∨H e=some (.own x))(k:∀b u,b≠e→s.heap.get? b=some u→h'.get? b=some u)(ob:∃u,h'.get? e=some u)(new:eF X.prog X.w (upd H x o) h' x o):Inv X pins σ (upd H x o) { s with heap:=h',toks:=t' }:=I.un (d2.write hS he k ob) (I.bw.write hS he k ob new)
theorem Inv.Et{Es:List (VD×Obj)}(I:Inv X pins σ H s)(h:∀p∈Es,s.heap.get? p.1=some p.2∧H p.1=none∧p.1≠X.env.locals∧p.1∉X.aT∧∀v,p.2.data≠.cell v):Inv X Es σ H s:=
 ⟨I.ok,I.os,I.bare,I.base,I.loc,I.cell,I.free,I.hM,fun p bf=>(List.mem_append.mp bf).elim (fun z=>I.pin p (Ww _ z)) (h p),I.bw,I.len⟩
theorem xj{N:List Str}(bR:N.Nodup){i j:Nat}{x:Str}(a:N[i]?=some x)(b:N[j]?=some x):i=j:=by obtain⟨h1,ao⟩:=List.getElem?_eq_some_iff.mp a;obtain⟨h2,aA⟩:=List.getElem?_eq_some_iff.mp b;exact(List.getElem_inj bR).mp (ao.trans aA.symm)
theorem yE{M:Model}{A:V0}{E:Vw→Vx→Prop}{i:Nat}{x:Str}{v:V}{u:Vw}{Q:Unit→Vx→Prop}(I:Inv X pins σ H s)(bR:X.N.Nodup)(af:X.N[i]?=some x)(av:Loc X.env.scope x)(r:RelV v u)(h:∀s',Inv X pins (σ.set i (some v)) H s'→(∃a,Wm a s.heap s'.heap∧(a=X.env.locals∨X.env.cells.lookup x=some a))→Q () s')(hf:X.fn x=true∨X.env.scope.names.lookup x=some .local:=by first|exact .inl rfl|exact .inr rfl|assumption):VL M A (storeName X.env x u) Q E s:=by
 obtain⟨m,aK,ak⟩:=id I.loc;have I4:(X.env.scope.kind==.class||(X.env.scope.kind==.module&&X.env.locals !=X.env.globals))=false:=by rw[I.ok.kind];rfl
 have afσ :i< σ.length:=by rw[I.len];exact(List.getElem?_eq_some_iff.mp af).1
 have lB:=I.lB;have tracked:∀{a:VD}{h':Wv},(∃o,s.heap.get? a=some o∧H a=none)→Wm a s.heap h'→dJ X.prog X.w H h':=fun{a h'} ah hs b bg e=>by
  obtain⟨_,_,od⟩:=ah;refine(I.bw b bg e).jN (fun c f3 aq q=>(hs.2 c ?_).trans q) (fun _ q=>q) fun _ _ q=>q;rintro rfl;rcases aq with rfl|aq
  ·rw[od]at e;cases e
  ·rw[od]at aq;cases aq
 rcases av with aH|aH
 ·refine wpAny_storeName_local aH aK (fun h' qB hs=>?_) I4;obtain⟨M7,_,_,Ju,_⟩:=id aK;refine h _ ⟨I.ok,I.os,I.bare,⟨fun b o e n J av=>?_,fun b o e n J av=>?_,I.base.free,fun b o e av=>?_,I.base.fP,I.base.fA,I.base.fN⟩,⟨_,qB,fun j y iJ ao aA b9=>?_⟩,fun y c e=>?_,I.free,I.hM,fun p bf=>?_,tracked ⟨M7,Ju,I.free⟩ hs,by simpa using I.len⟩ ⟨_,hs,.inl rfl⟩
  ·exact(hs.2 b (VV (VJ (VH e) I.ok.above))).trans (I.base.keep b o e n J av)
  ·obtain⟨cb,ao⟩:=I.base.slot b o e n J av;exact⟨cb,(hs.2 b (VV (VJ (VH e) I.ok.above))).trans ao⟩
  ·obtain⟨bk,ao⟩:=I.base.there b o e av;exact⟨bk,(hs.2 b (VV (VJ (VH e) I.ok.above))).trans ao⟩
  ·by_cases cV:j=i
   ·subst cV;rw[af]at ao;cases ao;rw[Xn afσ]at aA;cases aA;exact⟨u,r,.inl ⟨aH,by simp⟩⟩
   ·rw[WE (Yx cV)]at aA;obtain⟨jQ,bq,q⟩:=ak j y iJ ao aA b9;refine⟨jQ,bq,?_⟩;rcases q with⟨k,e⟩|⟨k,c,e,z⟩
    ·refine .inl ⟨k,?_⟩;have:y≠x:=fun e=>cV (xj bR ao (e▸af));simp[this,e]
    ·exact .inr ⟨k,c,e,z.sameBut hs (lB y c e)⟩
  ·obtain⟨f3,z⟩:=I.cell y c e;exact⟨f3,z.sameBut hs (lB y c e)⟩
  ·obtain⟨e,n,ne,fZ,d⟩:=I.pin p bf;exact⟨(hs.2 p.1 ne).trans e,n,ne,fZ,d⟩
 ·have wg:X.fn x=true:=by
    rcases hf with z|z
    ·exact z
    ·rw[z]at aH;cases aH
  obtain⟨c,aq⟩:=I.ok.has x (.inl aH);obtain⟨f3,z⟩:=I.cell x c aq;refine wpAny_storeName_cell I.ok.kind aH aq z (fun h' hN hs=>?_);obtain⟨eu,Cr,Jx⟩:=id z;refine h { s with heap:=h' } ⟨I.ok,I.os,I.bare,⟨fun b o e n J av=>?_,fun b o e n J av=>?_,I.base.free,fun b o e av=>?_,I.base.fP,I.base.fA,I.base.fN⟩,⟨m,aK.sameBut hs (Yx (lB x c aq)),fun j y iJ ao aA b9=>?_⟩,fun y d3 e=>?_,I.free,I.hM,fun p bf=>?_,tracked ⟨eu,Cr,I.hM x c aq⟩ hs,by simpa using I.len⟩ ⟨c,hs,.inr aq⟩
  ·exact(hs.2 b (VV (VJ (VH e) (I.ok.nZ x c wg aq)))).trans (I.base.keep b o e n J av)
  ·obtain⟨cb,ao⟩:=I.base.slot b o e n J av;exact⟨cb,(hs.2 b (VV (VJ (VH e) (I.ok.nZ x c wg aq)))).trans ao⟩
  ·obtain⟨bk,ao⟩:=I.base.there b o e av;exact⟨bk,(hs.2 b (VV (VJ (VH e) (I.ok.nZ x c wg aq)))).trans ao⟩
  ·by_cases cV:j=i
   ·subst cV;rw[af]at ao;cases ao;rw[Xn afσ]at aA;cases aA;exact⟨u,r,.inr ⟨.inl aH,c,aq,hN⟩⟩
   ·rw[WE (Yx cV)]at aA;obtain⟨jQ,bq,q⟩:=ak j y iJ ao aA b9;refine⟨jQ,bq,?_⟩;rcases q with q|⟨k,d3,e,gq⟩
    ·exact .inl q
    ·refine .inr ⟨k,d3,e,gq.sameBut hs ?_⟩;rintro rfl;exact cV (xj bR ao (I.ok.inj _ _ _ e aq▸af))
  ·by_cases qs:d3=c
   ·subst qs;exact⟨_,hN⟩
   ·obtain⟨iK,a7⟩:=I.cell y d3 e;exact⟨iK,a7.sameBut hs qs⟩
  ·obtain⟨e,n,ne,fZ,d⟩:=I.pin p bf;refine⟨(hs.2 p.1 ?_).trans e,n,ne,fZ,d⟩;intro q;rw[q,Cr]at e;have cq:eu=p.2:=VM e;exact d f3 (by rw[←cq];exact Jx)
theorem tW{M:Model}{A:V0}{E:Vw→Vx→Prop}{i:Nat}{x:Str}{v:V}{u:Vw}{Q:Unit→Vx→Prop}(I:Inv X pins σ H s)(bR:X.N.Nodup)(af:X.N[i]?=some x)(av:Loc X.env.scope x)(r:RelV v u)(h:∀s',Inv X pins (σ.set i (some v)) H s'→Q () s')(hf:X.fn x=true∨X.env.scope.names.lookup x=some .local:=by first|exact .inl rfl|exact .inr rfl|assumption):VL M A (storeName X.env x u) Q E s:=
 yE I bR af av r (fun s' iT _=>h s' iT) hf
theorem Inv.AK{s':Vx}{ch:List VD}(I:Inv X pins σ H s)(aB:s'.os=s.os)(u:d2 (cZ X.stack) ch H H' s.heap s'.heap)(bw:dJ X.prog X.w H' s'.heap)(aF:Yw s'.gens)(kb:∀b∈ch,(b∈X.ex∨X.dP.heap.objs.size≤b)∧b≠X.env.locals∧(∀x c,X.env.cells.lookup x=some c→c≠b)∧∀p∈X.l1++pins,p.1≠b):Inv X pins σ H' s':=by obtain⟨h',g',d',t',bk⟩:=s';have e:bk=s.os:=aB;subst e;exact I.call (g':=g') (t':=t') (d':=d') u bw aF kb
end
abbrev cj:=Vw→Option VD→ae→Prop
abbrev St:=List (Option V)
abbrev cD:=V→ae→Prop
abbrev TE:=St→ae→cD→Prop
abbrev TT:=St→ae→(Bool→ae→Prop)→Prop
abbrev eK:=St→ae→(List V→ae→Prop)→Prop
structure Ends where
 bJ:St→ae→Prop
 eA:cD
 ey:St→ae→Prop:=fun _ _=>False
 cv:St→ae→Prop:=fun _ _=>False
abbrev et:=Ends→St→ae→Prop
noncomputable def eS(X:aD)(pins:List (VD×Obj))(σ :St)(Q:cD)(u:Vw)(s':Vx):Prop:=∃v H',Inv X pins σ H' s'∧RelV v u∧Q v H'
noncomputable def rZ(X:aD)(pins:List (VD×Obj))(σ :St)(Q:Bool→ae→Prop)(b:Bool)(s':Vx):Prop:=∃H',Inv X pins σ H' s'∧Q b H'
noncomputable def GA(X:aD)(pins:List (VD×Obj))(σ :St)(Q:List V→ae→Prop)(us:List Vw)(s':Vx):Prop:=∃vs H',Inv X pins σ H' s'∧Vals vs us∧Q vs H'
noncomputable def j0(X:aD)(pins:List (VD×Obj))(D:Ends)(f:Flow)(s':Vx):Prop:=
 match f with
 |.next=>∃ σ' H',Inv X pins σ' H' s'∧D.bJ σ' H'
 |.brk=>∃ σ' H',Inv X pins σ' H' s'∧D.ey σ' H'
 |.cont=>∃ σ' H',Inv X pins σ' H' s'∧D.cv σ' H'
 |.ret u=>∃v σ' H',Inv X pins σ' H' s'∧RelV v u∧D.eA v H'
noncomputable def a3(X:aD)(e:V3)(t:TE):Prop:=
 ∀(pins:List (VD×Obj))(s:Vx)(σ :St)(H:ae)(Q:cD),Inv X pins σ H s→t σ H Q→VL (VT X.prog X.w) X.A (WW e X.env) (eS X pins σ Q) X.xe s
noncomputable def eG(X:aD)(e:V3)(t:TT):Prop:=
 ∀(pins:List (VD×Obj))(s:Vx)(σ :St)(H:ae)(Q:Bool→ae→Prop),Inv X pins σ H s→t σ H Q→VL (VT X.prog X.w) X.A (isTrue e X.env (WW e X.env)) (rZ X pins σ Q) X.xe s
noncomputable def hh(X:aD)(e:V3)(t:TT):Prop:=
 ∀(whole:Sem Vw)(pins:List (VD×Obj))(s:Vx)(σ :St)(H:ae)(Q:Bool→ae→Prop),Inv X pins σ H s→t σ H Q→VL (VT X.prog X.w) X.A (isTrue e X.env whole) (rZ X pins σ Q) X.xe s
theorem hh.pt{X:aD}{e:V3}{t:TT}(h:hh X e t):eG X e t:=h _
noncomputable def e6(X:aD)(es:List V3)(t:eK):Prop:=
 ∀(pos:Pos)(pins:List (VD×Obj))(s:Vx)(σ :St)(H:ae)(Q:List V→ae→Prop),Inv X pins σ H s→t σ H Q→VL (VT X.prog X.w) X.A (spliced (Wu pos (VA es X.env))) (GA X pins σ Q) X.xe s
noncomputable def c7(X:aD)(st:WO)(t:et):Prop:=
 ∀(pins:List (VD×Obj))(s:Vx)(σ :St)(H:ae)(D:Ends),Inv X pins σ H s→t D σ H→VL (VT X.prog X.w) X.A (exec st X.env) (j0 X pins D) X.xe s
noncomputable def fv(X:aD)(st:List WO)(t:et):Prop:=
 ∀(pins:List (VD×Obj))(s:Vx)(σ :St)(H:ae)(D:Ends),Inv X pins σ H s→t D σ H→VL (VT X.prog X.w) X.A (execs st X.env) (j0 X pins D) X.xe s
theorem bA{α:Type}{t:Sem α}{Q ie:α→Vx→Prop}{M:Model}{A:V0}{E:Vw→Vx→Prop}{s:Vx}(h:VL M A t Q E s)(fj:∀a s,Q a s→ie a s):VL M A t ie E s:=V1 h fj fun _ _ x=>x
section
variable{X:aD}
theorem bin{a b:V3}{cg tb:TE}(ah:a3 X a cg)(J:a3 X b tb){pins:List (VD×Obj)}{s:Vx}{σ :St}{H:ae}{R:V→V→ae→Prop}(I:Inv X pins σ H s)(h:cg σ H fun x H1=>tb σ H1 fun y aM=>R x y aM){α:Type}{Q:α→Vx→Prop}{f:Vw→Vw→Sem α}(hf:∀v u s2 x y aM,Inv X pins σ aM s2→RelV x v→RelV y u→R x y aM→VL (VT X.prog X.w) X.A (f v u) Q X.xe s2) :
  VL (VT X.prog X.w) X.A (WW a X.env) (fun v cH=>VL (VT X.prog X.w) X.A (WW b X.env) (fun u gC=>VL (VT X.prog X.w) X.A (f v u) Q X.xe gC) X.xe cH) X.xe s:=by
 refine bA (ah pins s σ H _ I h) fun v s1⟨x,H1,aW,au,aQ⟩=>?_;refine bA (J pins s1 σ H1 _ aW aQ) fun u s2⟨y,aM,bT,bl,a9⟩=>?_;exact hf v u s2 x y aM bT au bl a9
def yP(i:Nat):TE:=fun σ H Q=>∃v,σ[i]?=some (some v)∧Q v H
def l_(v:V):TE:=fun _ H Q=>Q v H
theorem nf{i:Nat}{x:Str}{pos:Pos}(bR:X.N[i]?=some x)(bS:hJ X.env.scope x)(hd:(x==("__debug__" :Str))=false:=by decide)(ei:(x==("__classdict__" :Str))=false:=by decide):a3 X (.Name x pos) (yP i):=by
 intro pins s σ H Q I h;obtain⟨v,e,h⟩:=h;obtain⟨m,aK,ak⟩:=I.loc;obtain⟨u,r,l⟩:=ak i x v bR e bS;have fin:eS X pins σ Q u s:=⟨v,H,I,r,h⟩;rcases l with⟨aH,hm⟩|⟨aH,c,aq,sH⟩
 ·exact wpAny_Name (wpAny_loadName_local I.ok.kind aH aK hm fin) hd
 ·rcases aH with aH|aH
  ·exact wpAny_Name (wpAny_loadName_cell I.ok.kind aH aq sH fin) hd
  ·exact wpAny_Name (wpAny_loadName_free I.ok.kind aH aq sH fin ei) hd
theorem NW{i j pos}:a3 X (.Constant (.int i) j pos) (l_ (.int i)):=fun _ _ _ H _ I h=>wpAny_Constant_int ⟨.int i,H,I.tok _,⟨_,rfl⟩,h⟩
theorem NN{b j pos}:a3 X (.Constant (.bool b) j pos) (l_ (.aU b)):=fun _ _ _ H _ I h=>Constant_bool ⟨.aU b,H,I,rfl,h⟩
theorem N0{j pos}:a3 X (.Constant .none j pos) (l_ .non):=fun _ _ _ H _ I h=>Constant_none ⟨.non,H,I,rfl,h⟩
theorem xq{x j pos}:a3 X (.Constant (.str x) j pos) (l_ (.str x)):=fun _ _ _ H _ I h=>Calls.Constant_str ⟨.str x,H,I.tok _,⟨_,rfl⟩,h⟩
def da(X:aD)(x:Str):Prop:=X.env.kindOf x=some .globalImplicit
theorem ov{E:Vw→Vx→Prop}{pins:List (VD×Obj)}{s:Vx}{σ :St}{H:ae}{x:Str}{u:Vw}{pos:Pos}{Q:Vw→Vx→Prop}(I:Inv X pins σ H s)(aF:da X x)(hm:X.mg x=some u)(h:Q u s)(hd:(x==("__debug__" :Str))=false:=by decide):VL (VT X.prog X.w) X.A (WW (.Name x pos) X.env) Q E s:=
 Ys I.ok.kind aF (Calls.loadGlobal_global (by rw[I.ok.glob];exact I.mod.glob.keeps I.ey) hm h) hd
theorem qN{E:Vw→Vx→Prop}{pins:List (VD×Obj)}{s:Vx}{σ :St}{H:ae}{x:Str}{u:Vw}{pos:Pos}{Q:Vw→Vx→Prop}(I:Inv X pins σ H s)(aF:da X x)(hm:X.mg x=none)(bS:WH x=some u)(h:Q u s)(aK:x≠"__name__":=by decide)(hd:(x==("__debug__" :Str))=false:=by decide):VL (VT X.prog X.w) X.A (WW (.Name x pos) X.env) Q E s:=by obtain⟨fC,h1,h2⟩:=I.mod.blt;exact Ys I.ok.kind aF (Calls.loadGlobal_builtin (by rw[I.ok.glob];exact I.mod.glob.keeps I.ey) hm (by rw[I.ok.blt];exact h1.keeps I.ey) ((h2 x aK).trans bS) h) hd
theorem xp{x:Str}{v:V}{u:Vw}{pos:Pos}(aF:da X x)(hm:X.mg x=some u)(r:RelV v u)(hd:(x==("__debug__" :Str))=false:=by decide):a3 X (.Name x pos) (l_ v):=
 fun _ _ _ H _ I h=>ov I aF hm ⟨v,H,I,r,h⟩ hd
theorem Ek{x:Str}{v:V}{u:Vw}{pos:Pos}(aF:da X x)(hm:X.mg x=none)(bS:WH x=some u)(r:RelV v u)(aK:x≠"__name__":=by decide)(hd:(x==("__debug__" :Str))=false:=by decide):a3 X (.Name x pos) (l_ v):=
 fun _ _ _ H _ I h=>qN I aF hm bS ⟨v,H,I,r,h⟩ aK hd
variable{a b:V3}{cg tb:TE}{pos:Pos}
noncomputable def rV(X:aD)(op:aar)(a b:V3)(t:TE):Prop:=
 ∀(pins:List (VD×Obj))(s:Vx)(σ :St)(H:ae)(Q:cD),Inv X pins σ H s→t σ H Q→
  VL (VT X.prog X.w) X.A (WW a X.env) (fun v cH=>VL (VT X.prog X.w) X.A (WW b X.env) (fun u gC=>VL (VT X.prog X.w) X.A (Wn op v u) (eS X pins σ Q) X.xe gC) X.xe cH) X.xe s
theorem D5(b:V3){op:aar}(h:op≠.In)(h2:op≠.NotIn):Wd op b=false:=by
 have ao:(op==CmpOp.In)=false:=by cases op<;>first|rfl|exact absurd rfl h
 have aA:(op==CmpOp.NotIn)=false:=by cases op<;>first|rfl|exact absurd rfl h2
 cases b<;>simp[Wd,ao,aA]
def yI(t:TE):TT:=fun σ H Q=>t σ H fun x H1=>∃c,x=.aU c∧Q c H1
theorem El{op:aar}{t:TE}(h:rV X op a b t)(h1:Wd op b=false:=by first|exact D5 _ (by decide) (by decide)|rfl):a3 X (.Compare a [op] [b] pos) t:=fun pins s σ H Q I hw=>wpAny_Compare1 (h pins s σ H Q I hw) h1
theorem Oy{op:aar}{t:TE}(h:rV X op a b t)(h1:Wd op b=false:=by first|exact D5 _ (by decide) (by decide)|rfl):eG X (.Compare a [op] [b] pos) (yI t):=by intro pins s σ H Q I hw;refine wpAny_isTrue_Compare1 (bA (h pins s σ H _ I hw) fun v s1 h1=>bA h1 fun u s2 h2=>bA h2 fun c s3⟨x,H1,aW,au,aQ⟩=>?_) h1;obtain⟨d,rfl,q⟩:=aQ;cases au;exact V8 ⟨H1,aW,q⟩
theorem OB{e:V3}{t:TE}(h:a3 X e t)(he:∀whole,isTrue e X.env whole=(do let v ←whole;standAt e.pos;aag [v] (truthy v)):=by intro _;rfl):eG X e (yI t):=by intro pins s σ H Q I hw;refine isTrue_plain (bA (h pins s σ H _ I hw) fun v s1⟨x,H1,aW,au,aQ⟩=>?_) (he _);obtain⟨d,rfl,q⟩:=aQ;cases au;exact V8 ⟨H1,aW,q⟩
variable{eb t2:TT}{rest:List V3}
def Fv(t u:TT):TT:=fun σ H Q=>t σ H fun c H1=>if c=true then u σ H1 Q else Q false H1
def FI(t u:TT):TT:=fun σ H Q=>t σ H fun c H1=>if c=true then Q true H1 else u σ H1 Q
def FG(t:TT):TT:=fun σ H Q=>t σ H fun c H1=>Q (!c) H1
theorem OH(ah:eG X a eb):hh X (.BoolOp .And [a] pos) eb:=by
 intro nu pins s σ H Q I h;refine isTrue_and (bA (ah pins s σ H Q I h) fun c s1 e=>?_);cases c with
 |true=>exact isTrue_and_nil e
 |false=>exact e
theorem OJ(ah:eG X a eb):hh X (.BoolOp .Or [a] pos) eb:=by
 intro nu pins s σ H Q I h;refine isTrue_or (bA (ah pins s σ H Q I h) fun c s1 e=>?_);cases c with
 |false=>exact isTrue_or_nil e
 |true=>exact e
theorem OG(ah:eG X a eb)(J:hh X (.BoolOp .And (b::rest) pos) t2):hh X (.BoolOp .And (a::b::rest) pos) (Fv eb t2):=by
 intro nu pins s σ H Q I h;refine isTrue_and (bA (ah pins s σ H _ I h) fun c s1⟨H1,aW,aQ⟩=>?_);cases c with
 |true=>exact J nu pins s1 σ H1 Q aW aQ
 |false=>exact⟨H1,aW,aQ⟩
theorem OI(ah:eG X a eb)(J:hh X (.BoolOp .Or (b::rest) pos) t2):hh X (.BoolOp .Or (a::b::rest) pos) (FI eb t2):=by
 intro nu pins s σ H Q I h;refine isTrue_or (bA (ah pins s σ H _ I h) fun c s1⟨H1,aW,aQ⟩=>?_);cases c with
 |true=>exact⟨H1,aW,aQ⟩
 |false=>exact J nu pins s1 σ H1 Q aW aQ
theorem OA(ah:eG X a eb):eG X (.UnaryOp .Not a pos) (FG eb):=by intro pins s σ H Q I h;exact isTrue_not (ah pins s σ H (fun c H1=>Q (!c) H1) I h)
noncomputable def Fw(cg tb:TE):TE:=fun σ H Q=>cg σ H fun x H1=>∃c,x=.aU c∧if c=true then tb σ H1 Q else Q (.aU false) H1
noncomputable def FJ(cg tb:TE):TE:=fun σ H Q=>cg σ H fun x H1=>∃c,x=.aU c∧if c=true then Q (.aU true) H1 else tb σ H1 Q
def FH(cg:TE):TE:=fun σ H Q=>cg σ H fun x H1=>∃c,x=.aU c∧Q (.aU (!c)) H1
theorem N2{op}{t:TE}(h:a3 X a t):a3 X (.BoolOp op [a] pos) t:=fun pins s σ H Q I hw=>BoolOp_one (h pins s σ H Q I hw)
theorem NM(ah:a3 X a cg)(J:a3 X (.BoolOp .And (b::rest) pos) tb):a3 X (.BoolOp .And (a::b::rest) pos) (Fw cg tb):=by
 intro pins s σ H Q I h;refine BoolOp_and (bA (ah pins s σ H _ I h) fun v s1⟨x,H1,aW,au,aQ⟩=>?_);obtain⟨c,rfl,aQ⟩:=aQ;cases au;refine V8 ?_;cases c with
 |true=>exact J pins s1 σ H1 Q aW aQ
 |false=>exact⟨.aU false,H1,aW,rfl,aQ⟩
theorem N3(ah:a3 X a cg)(J:a3 X (.BoolOp .Or (b::rest) pos) tb):a3 X (.BoolOp .Or (a::b::rest) pos) (FJ cg tb):=by
 intro pins s σ H Q I h;refine BoolOp_or (bA (ah pins s σ H _ I h) fun v s1⟨x,H1,aW,au,aQ⟩=>?_);obtain⟨c,rfl,aQ⟩:=aQ;cases au;refine V8 ?_;cases c with
 |false=>exact J pins s1 σ H1 Q aW aQ
 |true=>exact⟨.aU true,H1,aW,rfl,aQ⟩
theorem N1(ah:a3 X a cg):a3 X (.UnaryOp .Not a pos) (FH cg):=by intro pins s σ H Q I h;refine UnaryOp_ (bA (ah pins s σ H _ I h) fun v s1⟨x,H1,aW,au,aQ⟩=>?_);obtain⟨c,rfl,aQ⟩:=aQ;cases au;exact not_of (V8 ⟨.aU (!c),H1,aW,rfl,aQ⟩)
def FA(t:TT)(cg tb:TE):TE:=fun σ H Q=>t σ H fun c H1=>if c=true then cg σ H1 Q else tb σ H1 Q
theorem NV{c:V3}(aq:eG X c eb)(ah:a3 X a cg)(J:a3 X b tb):a3 X (.IfExp c a b pos) (FA eb cg tb):=by
 intro pins s σ H Q I h;refine wpAny_IfExp (bA (aq pins s σ H _ I h) fun d s1⟨H1,aW,aQ⟩=>?_);cases d with
 |true=>exact ah pins s1 σ H1 Q aW aQ
 |false=>exact J pins s1 σ H1 Q aW aQ
end
noncomputable def bQ(K:PySem.W.Frag)(H:ae)(a:VD)(xs:List V):Prop:=
 f7 H a (.lst xs)∨
  ∃(o:Obj)(its:Array Vw)(n:Nat),K.lookup a=some o∧o.cls=.type "list"∧o.dict=none∧o.data=.seq its n∧its.size≤VP∧Vals xs its.toList
noncomputable def cz(K:PySem.W.Frag)(H:ae)(a:VD)(xs:List V):Prop:=
 f7 H a (.tup xs)∨
  ∃(o:Obj)(its:Array Vw)(n:Nat),K.lookup a=some o∧o.cls=.type "tuple"∧o.data=.seq its n∧its.size≤VP∧Vals xs its.toList
noncomputable def GY:Vw→Option V
 |.none=>some .non
 |.bool b=>some (.aU b)
 |.int i _=>some (.int i)
 |.str x _=>some (.str x)
 |.bytes b _=>some (.lz b)
 |.float b _=>some (.sr b)
 |.ref a=>some (.ref a)
 |.type n=>some (.ty n)
 |_=>none
theorem RelV.abs{x:V}{u:Vw}(r:RelV x u):GY u=some x:=by
 cases x with
 |non=>cases r;rfl
 |aU _=>cases r;rfl
 |int _=>obtain⟨t,rfl⟩:=r;rfl
 |str _=>obtain⟨t,rfl⟩:=r;rfl
 |lz _=>obtain⟨t,rfl⟩:=r;rfl
 |sr _=>obtain⟨t,rfl⟩:=r;rfl
 |ref _=>cases r;rfl
 |ty _=>cases r;rfl
theorem RelV.inj{x y:V}{u:Vw}(r:RelV x u)(q:RelV y u):x=y:=VM (r.abs.symm.trans q.abs)
theorem Vals.inj:∀{xs ys:List V}{us:List Vw},Vals xs us→Vals ys us→xs=ys
 |_,_,_,.nil,.nil=>rfl
 |_,_,_,.cons r t,.cons bq t'=>by rw[r.inj bq,Vals.inj t t']
section
variable{X:aD}{pins:List (VD×Obj)}{σ :St}{H:ae}{s:Vx}{a:VD}{xs ys:List V}
theorem bQ.of{K:PySem.W.Frag}(h:H a=some (.lst xs)):bQ K H a xs:=.inl (.inl h)
theorem cz.of{K:PySem.W.Frag}(h:H a=some (.tup xs)):cz K H a xs:=.inl (.inl h)
theorem Inv.list(I:Inv X pins σ H s)(h:bQ X.K H a xs):∃its:List Vw,Vals xs its∧PlainL s.heap a its.toArray∧xs.length≤VP:=by
 rcases h with h|⟨o,its,n,aH,aq,hd,hs,bG,r⟩
 ·obtain⟨z,its,n,r,e⟩:=h.ok I.bw;exact⟨its,r,⟨_,n,e,rfl,rfl,rfl⟩,z⟩
 ·refine⟨its.toList,r,⟨o,n,I.ej a o aH,aq,hd,by simpa using hs⟩,?_⟩;have e:=r.length;simp only[Xi]at e;omega
theorem Inv.tuple(I:Inv X pins σ H s)(h:cz X.K H a xs):∃its:List Vw,Vals xs its∧IsTup s.heap a its.toArray∧xs.length≤VP:=by
 rcases h with h|⟨o,its,n,aH,aq,hs,bG,r⟩
 ·obtain⟨z,its,r,p⟩:=h.ok I.bw;exact⟨its,r,p,z⟩
 ·refine⟨its.toList,r,⟨o,I.ej a o aH,aq,n,by simpa using hs⟩,?_⟩;have e:=r.length;simp only[Xi]at e;omega
theorem Inv.wO(I:Inv X pins σ H s)(h:bQ X.K H a xs)(h':bQ X.K H a ys):xs=ys:=by
 obtain⟨its,r,⟨o,n,e,_,_,d⟩,_⟩:=I.list h;obtain⟨its',bq,⟨bk,MA,bN,_,_,d'⟩,_⟩:=I.list h';rw[e]at bN;cases bN;rw[d]at d';injection d' with d1 _;have:its=its':=by simpa using congrArg Array.toList d1
 subst this;exact r.inj bq
theorem Inv.y1(I:Inv X pins σ H s)(h:cz X.K H a xs)(h':cz X.K H a ys):xs=ys:=by
 obtain⟨its,r,⟨o,e,_,n,d⟩,_⟩:=I.tuple h;obtain⟨its',bq,⟨bk,bN,_,MA,d'⟩,_⟩:=I.tuple h';rw[e]at bN;cases bN;rw[d]at d';injection d' with d1 _;have:its=its':=by simpa using congrArg Array.toList d1
 subst this;exact r.inj bq
end
abbrev aD.gT(X:aD)(E:Vw→Vx→Prop):aD:={ X with xe:=E }
abbrev aD.fL(X:aD):aD:=X.gT fun _ _=>False
theorem aD.Ok.gT{X:aD}(ok:X.Ok)(E:Vw→Vx→Prop):(X.gT E).Ok:=
 ⟨ok.mod,ok.kind,ok.glob,ok.blt,ok.above,ok.inj,ok.has,ok.nZ,ok.hd,ok.frames,ok.rp,ok.vG,ok.bs,ok.kz,ok.lZ,ok.qb,ok.gI,ok.lH⟩
theorem aD.Ok.gm{X:aD}{E:Vw→Vx→Prop}(ok:(X.gT E).Ok):X.Ok:=
 ⟨ok.mod,ok.kind,ok.glob,ok.blt,ok.above,ok.inj,ok.has,ok.nZ,ok.hd,ok.frames,ok.rp,ok.vG,ok.bs,ok.kz,ok.lZ,ok.qb,ok.gI,ok.lH⟩
section
variable{X:aD}{pins:List (VD×Obj)}{σ :St}{H:ae}{s:Vx}{E:Vw→Vx→Prop}
theorem Inv.gT(I:Inv X pins σ H s)(E:Vw→Vx→Prop):Inv (X.gT E) pins σ H s:=⟨I.ok.gT E,I.os,I.bare,I.base,I.loc,I.cell,I.free,I.hM,I.pin,I.bw,I.len⟩
theorem Inv.gm(I:Inv (X.gT E) pins σ H s):Inv X pins σ H s:=⟨I.ok.gm,I.os,I.bare,I.base,I.loc,I.cell,I.free,I.hM,I.pin,I.bw,I.len⟩
theorem j0.gm{D:Ends}{f:Flow}{s':Vx}(h:j0 (X.gT E) pins D f s'):j0 X pins D f s':=by
 cases f with
 |next=>obtain⟨σ',H',I,q⟩:=h;exact⟨σ',H',I.gm,q⟩
 |brk=>obtain⟨σ',H',I,q⟩:=h;exact⟨σ',H',I.gm,q⟩
 |cont=>obtain⟨σ',H',I,q⟩:=h;exact⟨σ',H',I.gm,q⟩
 |ret u=>obtain⟨v,σ',H',I,r,q⟩:=h;exact⟨v,σ',H',I.gm,r,q⟩
theorem fv.fL{st:List WO}{t:et}(h:fv X.fL st t):fv X st t:=fun pins s σ H D I hw=>
 V1 (h pins s σ H D (I.gT _) hw) (fun _ _ q=>q.gm) fun _ _ z=>WG z
end
section
variable{X:aD}{st:WO}{rest:List WO}{t u:et}{e:V3}{cQ:TE}{pos:Pos}
def FF:et:=fun D σ H=>D.bJ σ H
def yN(t u:et):et:=fun D σ H=>t { D with bJ:=u D } σ H
theorem EA:fv X [] FF:=fun _ _ σ H _ I h=>WY ⟨σ,H,I,h⟩
theorem Ez(h1:c7 X st t)(h2:fv X rest u):fv X (st::rest) (yN t u):=by
 intro pins s σ H D I h;refine X7 (bA (h1 pins s σ H { D with bJ:=u D } I h) fun f s1 q=>?_);cases f with
 |next=>obtain⟨σ',H',iT,q⟩:=q;exact h2 pins s1 σ' H' D iT q
 |ret v=>exact q
 |brk=>exact q
 |cont=>exact q
theorem xw(h1:c7 X st t):fv X [st] t:=by
 intro pins s σ H D I h;refine X7 (bA (h1 pins s σ H D I h) fun f s1 q=>?_);cases f with
 |next=>exact WY q
 |ret v=>exact q
 |brk=>exact q
 |cont=>exact q
theorem Inv.quiet{pins:List (VD×Obj)}{σ :St}{H:ae}{s:Vx}(I:Inv X pins σ H s):interactive X.env=false:=by simp[interactive,I.ok.kind]
def Qj(cQ:TE):et:=fun D σ H=>cQ σ H fun _ H1=>D.bJ σ H1
theorem Oq(he:a3 X e cQ)(hs:Xp e none pos.line X.env=pure false:=by rfl):c7 X (.Expr e pos) (Qj cQ):=by intro pins s σ H D I h;exact wpAny_Expr_any (bA (he pins s σ H _ I h) fun v s1⟨x,H1,aW,au,aQ⟩=>⟨σ,H1,aW,aQ⟩) I.quiet hs
def t5(cQ:TE):et:=fun D σ H=>cQ σ H D.eA
theorem tI(he:a3 X e cQ):c7 X (.Return (some e) pos) (t5 cQ):=by intro pins s σ H D I h;exact wpAny_Return_some (bA (he pins s σ H _ I h) fun v s1⟨x,H1,aW,au,aQ⟩=>⟨x,σ,H1,aW,au,aQ⟩)
def FC(c:TT)(t u:et):et:=fun D σ H=>c σ H fun b H1=>if b=true then t D σ H1 else u D σ H1
theorem Ey{c:V3}{a b:List WO}{er:TT}(aq:eG X c er)(ah:fv X a t)(J:fv X b u):c7 X (.If c a b pos) (FC er t u):=by
 intro pins s σ H D I h;refine wpAny_If (bA (aq pins s σ H _ I h) fun d s1⟨H1,aW,aQ⟩=>?_);cases d with
 |true=>exact ah pins s1 σ H1 D aW aQ
 |false=>exact J pins s1 σ H1 D aW aQ
end
abbrev gv:=V→St→ae→(St→ae→Prop)→Prop
abbrev j2:=List V→St→ae→(St→ae→Prop)→Prop
noncomputable def gu(X:aD)(target:V3)(t:gv):Prop:=
 ∀(pins:List (VD×Obj))(s:Vx)(σ :St)(H:ae)(v:V)(u:Vw)(Q:St→ae→Prop),Inv X pins σ H s→RelV v u→t v σ H Q→
  VL (VT X.prog X.w) X.A (YC target X.env u) (fun _ s'=>∃ σ' H',Inv X pins σ' H' s'∧Q σ' H') X.xe s
noncomputable def pG(X:aD)(bB:List V3)(t:j2):Prop:=
 ∀(pins:List (VD×Obj))(s:Vx)(σ :St)(H:ae)(vs:List V)(us:List Vw)(Q:St→ae→Prop),Inv X pins σ H s→Vals vs us→t vs σ H Q→
  VL (VT X.prog X.w) X.A (assignInOrder ((Xm bB X.env).map (·.2)) us) (fun _ s'=>∃ σ' H',Inv X pins σ' H' s'∧Q σ' H') X.xe s
abbrev rX:=V→V→ae→cD→Prop
noncomputable def zF(X:aD)(op:Operator)(t:rX):Prop:=
 ∀(pins:List (VD×Obj))(s:Vx)(σ :St)(H:ae)(x y:V)(v u:Vw)(Q:cD),Inv X pins σ H s→RelV x v→RelV y u→t x y H Q→
  VL (VT X.prog X.w) X.A (inplaceOp op v u) (eS X pins σ Q) X.xe s
section
variable{X:aD}{pos:Pos}
def hq(i:Nat):gv:=fun v σ H Q=>Q (σ.set i (some v)) H
theorem rf{i:Nat}{x:Str}(bR:X.N.Nodup)(af:X.N[i]?=some x)(av:Loc X.env.scope x)(hf:X.fn x=true∨X.env.scope.names.lookup x=some .local:=by first|exact .inl rfl|exact .inr rfl|assumption):gu X (.Name x pos) (hq i):=by intro pins s σ H v u Q I r h;exact YD (tW I bR af av r (fun s' iT=>⟨_,H,iT,h⟩) hf)
def sx:j2:=fun vs σ H Q=>vs=[]∧Q σ H
def qk(t:gv)(u:j2):j2:=fun vs σ H Q=>∃v r,vs=v::r∧t v σ H fun σ' H'=>u r σ' H' Q
theorem Ep:pG X [] sx:=by intro pins s σ H vs us Q I r h;obtain⟨e,h⟩:=h;subst e;cases r;exact assignInOrder_nil ⟨σ,H,I,h⟩
theorem xr{e:V3}{es:List V3}{t:gv}{u:j2}(h1:gu X e t)(h2:pG X es u)(hs:(Xm (e::es) X.env).map (·.2)=YC e X.env::(Xm es X.env).map (·.2):=by rfl):pG X (e::es) (qk t u):=by
 intro pins s σ H vs us Q I r h;obtain⟨v,ui,ao,h⟩:=h;subst ao;cases r with
 |cons r rh=>rw[hs];refine assignInOrder_cons (bA (h1 pins s σ H _ _ _ I r h) fun _ s1⟨σ1,H1,aW,aQ⟩=>?_);exact h2 pins s1 σ1 H1 _ _ Q aW rh aQ
noncomputable def sy(K:PySem.W.Frag)(n:Nat)(t:j2):gv:=fun v σ H Q=>∃a xs,v=.ref a∧cz K H a xs∧xs.length=n∧t xs σ H Q
theorem Eo{es:List V3}{k:Nat}{t:j2}{n:Nat}(aq:X.calm=true)(h:pG X es t)(aK:(Xm es X.env).length=n:=by rfl)(dF:(Xm es X.env).findIdx? (·.1)=none:=by rfl):gu X (.Tuple es k pos) (sy X.K n t):=by intro pins s σ H v u Q I r hw;obtain⟨a,xs,ao,aS,ak,hw⟩:=hw;subst ao;cases r;obtain⟨its,b_,bH,bG⟩:=I.tuple aS;refine assign_Tuple_tuple (I.ok.hd aq) bH (by simp[aK,←ak,b_.length]) dF fun h' av=>?_;have aW:Inv X pins σ H { s with heap:=h' }:=I.kept (t':=s.toks) fun b o e=>av b o (VV (VH e)) e;exact h pins _ σ H xs _ Q aW (by simpa using b_) hw
def k7(cQ:TE)(g:gv):et:=fun D σ H=>cQ σ H fun x H1=>g x σ H1 D.bJ
theorem Oi{bz e:V3}{cQ:TE}{g:gv}(he:a3 X e cQ)(aF:gu X bz g)(hs:swapsWithSole [bz] e pos.line X.env=pure false:=by rfl)(hw:swappedStores [bz] e X.env=pure none:=by rfl)(h1:(Xm [bz] X.env).map (·.2)=[YC bz X.env]:=by rfl):c7 X (.Assign [bz] e pos) (k7 cQ g):=by intro pins s σ H D I h;refine wpAny_Assign_stores (bA (he pins s σ H _ I h) fun v s1⟨x,H1,aW,au,aQ⟩=>?_) hs hw;rw[h1];exact bA (aF pins s1 σ H1 x v _ aW au aQ) fun _ s2 q=>q
theorem xv{i:Nat}{x:Str}{e:V3}{cQ:TE}{pos':Pos}(bR:X.N.Nodup)(af:X.N[i]?=some x)(av:Loc X.env.scope x)(he:a3 X e cQ)(hs:Xp e (some (.Name x pos')) pos.line X.env=pure false:=by rfl)(hf:X.fn x=true∨X.env.scope.names.lookup x=some .local:=by first|exact .inl rfl|exact .inr rfl|assumption) :
  c7 X (.Assign [.Name x pos'] e pos) (k7 cQ (hq i)):=by
 intro pins s σ H D I h;refine wpAny_Assign_Name (bA (he pins s σ H _ I h) fun v s1⟨y,H1,aW,au,aQ⟩=>?_) hs;exact tW aW bR af av au (fun s2 bT=>⟨_,H1,bT,aQ⟩) hf
noncomputable def Qg(i:Nat)(cQ:TE)(t8:rX):et:=fun D σ H=>∃x,σ[i]?=some (some x)∧cQ σ H fun y H1=>t8 x y H1 fun z aM=>D.bJ (σ.set i (some z)) aM
theorem Oj{i:Nat}{x:Str}{e:V3}{cQ:TE}{op:Operator}{t8:rX}{pos':Pos}(bR:X.N.Nodup)(af:X.N[i]?=some x)(av:Loc X.env.scope x)(he:a3 X e cQ)(aB:zF X op t8)(hf:X.fn x=true∨X.env.scope.names.lookup x=some .local:=by first|exact .inl rfl|exact .inr rfl|assumption) :
  c7 X (.AugAssign (.Name x pos') op e pos) (Qg i cQ t8):=by
 intro pins s σ H D I h;obtain⟨v,ao,h⟩:=h;obtain⟨m,aK,ak⟩:=I.loc;have Rd:hJ X.env.scope x:=by rcases av with k|k;exact .inl k;exact .inr (.inl k)
 obtain⟨u,r,l⟩:=ak i x v af ao Rd;refine wpAny_AugAssign_Name ?_;have go:VL (VT X.prog X.w) X.A (WW e X.env) (fun w gC=>VL (VT X.prog X.w) X.A (inplaceOp op u w) (fun r jh=>VL (VT X.prog X.w) X.A (storeName X.env x r) (fun _=>j0 X pins D .next) X.xe jh) X.xe gC) X.xe s:=by refine bA (he pins s σ H _ I h) fun w s1⟨y,H1,aW,au,aQ⟩=>?_;refine bA (aB pins s1 σ H1 v y u w _ aW r au aQ) fun z s2⟨Vu,aM,bT,bl,a9⟩=>?_;exact tW bT bR af av bl (fun s3 c6=>⟨_,aM,c6,a9⟩) hf
 rcases l with⟨aH,hm⟩|⟨aH,c,aq,sH⟩
 ·exact wpAny_loadName_local I.ok.kind aH aK hm go
 ·rcases aH with aH|aH
  ·exact wpAny_loadName_cell I.ok.kind aH aq sH go
  ·rcases av with k|k
   ·have:X.env.scope.names.lookup x=some .free:=aH;rw[k]at this;cases this
   ·have:X.env.scope.names.lookup x=some .free:=aH;rw[k]at this;cases this
def KJ(f:Int→Int→Int):rX:=fun x y H Q=>∃i j,x=.int i∧y=.int j∧Q (.int (f i j)) H
theorem KL:zF X .Add (KJ fun i j=>i+j):=by intro pins s σ H x y v u Q I au bl h;obtain⟨i,j,ao,aA,q⟩:=h;subst ao;subst aA;obtain⟨t,rfl⟩:=au;obtain⟨t',rfl⟩:=bl;exact iadd_int ⟨.int _,H,I.tok _,⟨_,rfl⟩,q⟩
end
section
variable{X:aD}{pos:Pos}
noncomputable def FO(c:TT)(tb:et):et:=fun D σ H=>∃W:Nat→St→ae→Prop,(∃m,W m σ H)∧∀m σ H,W m σ H→
 c σ H fun b H1=>if b=true then ∃N:St→ae→Prop,(∀ σ' H',N σ' H'→∃ck,ck<m∧W ck σ' H')∧tb { D with bJ:=N,cv:=N,ey:=D.bJ } σ H1 else D.bJ σ H1
theorem Ow{c:V3}{body:List WO}{er:TT}{tb:et}(bf:PassesOwn (VT X.prog X.w) X.A X.env X.xe)(aq:eG X c er)(J:fv X body tb):c7 X (.While c body [] pos) (FO er tb):=by
 intro pins s σ H D I h;obtain⟨W,⟨m0,hB⟩,turn⟩:=h;refine wpAny_While (codeAny_whileLoop (fun n s'=>∃ σ' H',Inv X pins σ' H' s'∧W n σ' H') ?_ m0 ⟨σ,H,I,hB⟩);rintro n s1 ⟨σ1,H1,aW,jR⟩;refine Xb bf (bA (aq pins s1 σ1 H1 _ aW (turn n σ1 H1 jR)) fun b s2⟨aM,bT,a9⟩=>?_);cases b with
 |true=>
  obtain⟨N,bR,a9⟩:=a9;rw[if_pos rfl];refine Xb bf (bA (J pins s2 σ1 aM _ bT a9) fun f s3 c5=>?_);cases f with
  |next=>obtain⟨σ3,cy,c6,q6⟩:=c5;obtain⟨ck,hm,nt⟩:=bR σ3 cy q6;exact⟨ck,hm,σ3,cy,c6,nt⟩
  |cont=>obtain⟨σ3,cy,c6,q6⟩:=c5;obtain⟨ck,hm,nt⟩:=bR σ3 cy q6;exact⟨ck,hm,σ3,cy,c6,nt⟩
  |brk=>exact c5
  |ret v=>exact c5
 |false=>rw[if_neg VZ];exact WY ⟨σ1,aM,bT,a9⟩
end
structure It where
 go:Nat→ae→Prop
 hX:Nat→ae→V→ae→Prop
 stop:Nat→ae→Prop
noncomputable def ft(X:aD)(pins:List (VD×Obj))(H:ae)(b:VD):Prop:=
 H b=none∧b≠X.env.locals∧b∉X.aT∧(b∈X.ex∨X.dP.heap.objs.size≤b)∧(∀x c,X.env.cells.lookup x=some c→c≠b)∧∀p∈X.l1++pins,p.1≠b
theorem Inv.mQ{X:aD}{pins:List (VD×Obj)}{σ :St}{H H':ae}{s:Vx}{b:VD}(I:Inv X pins σ H s)(J:s.heap.objs.size≤b)(aK:H' b=none):ft X pins H' b:=by
 refine⟨aK,WV (VJ I.lt J),I.MZ J,.inr (V7 I.tY J),fun x c e z=>?_,fun p bf z=>?_⟩
 ·obtain⟨v,q⟩:=I.cell x c e;exact absurd (VJ q.lt (by rw[z];exact J)) (Wi _)
 ·exact absurd (VJ (VH (I.pin p bf).1) (by rw[z];exact J)) (Wi _)
structure Turn(P:VR)(w:V9)(K:PySem.W.Frag)(bz:V3)(br:It)(aC:List VD)(it:VD)(eB:Nat→Wv→Prop):Prop where
 mem:it∈aC
 obj:∀i h,eB i h→∀b∈aC,∃o,h.get? b=some o∧∀v,o.data≠.cell v
 keep:∀i h h',eB i h→(∀b∈aC,∀o,h.get? b=some o→h'.get? b=some o)→eB i h'
 item:∀(X:aD),X.prog=P→X.w=w→X.K=K→X.calm=true→∀(i:Nat)(pins:List (VD×Obj))(s:Vx)(σ :St)(H:ae)(E:Vw→Vx→Prop),Inv X pins σ H s→(∀b∈aC,ft X pins H b)→eB i s.heap→br.go i H→
  VL (VT P w) X.A (aam (.ref it)) (fun r s1=>∃u,r=some u∧
   VL (VT P w) X.A (Yj bz (.ref it) u) (fun _ s2=>∃x H',Inv X pins σ H' s2∧RelV x u∧br.hX i H x H'∧eB (i+1) s2.heap∧∀b∈aC,H' b=none) E s1) E s
 done:∀(X:aD),X.prog=P→X.w=w→X.K=K→X.calm=true→∀(i:Nat)(pins:List (VD×Obj))(s:Vx)(σ :St)(H:ae)(E:Vw→Vx→Prop),Inv X pins σ H s→(∀b∈aC,ft X pins H b)→eB i s.heap→br.stop i H→
  VL (VT P w) X.A (aam (.ref it)) (fun r s1=>r=none∧Inv X pins σ H s1) E s
 self:∀(A:V0)(i:Nat)(s:Vx)(Q:Vw→Vx→Prop)(E:Vw→Vx→Prop),eB i s.heap→Q (.ref it) s→VL (VT P w) A (pyIter (.ref it)) Q E s
abbrev TI:=St→ae→(It→ae→Prop)→Prop
noncomputable def zE(X:aD)(pins:List (VD×Obj))(σ :St)(bz:V3)(R:It→ae→Prop)(oo:Vw)(s2:Vx):Prop:=
 ∃(it:VD)(aC:List VD)(eB:Nat→Wv→Prop)(br:It)(H':ae),oo=.ref it∧Inv X pins σ H' s2∧Turn X.prog X.w X.K bz br aC it eB∧eB 0 s2.heap∧(∀b∈aC,ft X pins H' b)∧R br H'
noncomputable def fG(X:aD)(bz iter:V3)(fQ:TI):Prop:=
 ∀(pins:List (VD×Obj))(s:Vx)(σ :St)(H:ae)(R:It→ae→Prop),Inv X pins σ H s→fQ σ H R→
  VL (VT X.prog X.w) X.A (WW iter X.env) (fun v s1=>VL (VT X.prog X.w) X.A (pyIter v) (zE X pins σ bz R) X.xe s1) X.xe s
theorem sA{M:Model}{A:V0}{E:Vw→Vx→Prop}{s:Vx}{bz:V3}{it:VD}{u:Vw}{o:Obj}{n:String}{vs:Array Vw}{Q:Unit→Vx→Prop}(aB:s.heap.get? it=some o)(aq:o.cls=.type n)(hd:o.data=.fields vs)(aK:["enumerate","zip","dict_itemiterator","dict_reverseitemiterator","odict_iterator","itertools.zip_longest","itertools.pairwise"].contains n=false)(fj:Q () s):VL M A (Yj bz (.ref it) u) Q E s:=by
 unfold Yj
 cases bz<;>first
  |exact VB fj
  |(cases u<;>first
      |exact VB fj
      |(refine Vv (wpAny_load aB ?_)
        rw[aq,hd];show VL M A (if(["enumerate","zip","dict_itemiterator","dict_reverseitemiterator","odict_iterator","itertools.zip_longest","itertools.pairwise"].contains n&&vs[0]?==some (rawInt _))=true then _ else _) Q E s;rw[if_neg (by intro h;rw[aK,Bool.false_and]at h;cases h)];exact VB fj))
noncomputable def uU(K:PySem.W.Frag)(a:VD):It:=
 ⟨fun i H=>∃xs x,bQ K H a xs∧xs[i]?=some x,fun i H x H'=>H'=H∧∀xs,bQ K H a xs→xs[i]?=some x,fun i H=>∃xs,bQ K H a xs∧xs.length≤i⟩
noncomputable def uW(K:PySem.W.Frag)(a:VD):It:=
 ⟨fun i H=>∃xs x,cz K H a xs∧xs[i]?=some x,fun i H x H'=>H'=H∧∀xs,cz K H a xs→xs[i]?=some x,fun i H=>∃xs,cz K H a xs∧xs.length≤i⟩
def rP(lo:Int)(n:Nat):It:=⟨fun i _=>i<n,fun i H x H'=>H'=H∧x=.int (lo+i),fun i _=>n≤i⟩
theorem QZ{P:VR}{w:V9}{K:PySem.W.Frag}{bz:V3}(a it:VD):Turn P w K bz (uU K a) [it] it (fun i h=>h.IsListIter it a i) where
 mem:=by simp
 obj:=fun i h st b J=>by
  have e:b=it:=by simpa using J
  subst e;obtain⟨o,e,c,d⟩:=st;exact⟨o,e,fun v z=>by rw[d]at z;cases z⟩
 keep:=fun i h h' st k=>st.at fun o e=>k it (by simp) o e
 item:=by intro X dW hw aX aq i pins s σ H E I hf st aF;subst dW hw aX;obtain⟨xs,x,aS,av⟩:=aF;obtain⟨its,b_,p,bG⟩:=I.list aS;obtain⟨u,aN,eR⟩:=b_.get av;obtain⟨f0,f1,f2,d9,f4,fV⟩:=hf it (by simp);refine wpAny_pyNext_list_item st p.isList (x:=u) (by simpa using aN) fun h' jM fb=>?_;have aW:Inv X pins σ H { s with heap:=h' }:=I.turned (t':=s.toks) (fun b o J e=>(fb.2 b J).trans e) f0 f1 d9 f4 fV;obtain⟨o,e,c,d⟩:=id jM;exact⟨u,rfl,sA (s:={ s with heap:=h' }) e c d (by decide) ⟨x,H,aW,eR,⟨rfl,fun ys bO=>by rw[I.wO bO aS];exact av⟩,jM,fun b J=>(hf b J).1⟩⟩
 done:=by intro X dW hw aX aq i pins s σ H E I hf st aF;subst dW hw aX;obtain⟨xs,aS,av⟩:=aF;obtain⟨its,b_,p,bG⟩:=I.list aS;obtain⟨f0,f1,f2,d9,f4,fV⟩:=hf it (by simp);have ak:=b_.length;exact wpAny_pyNext_list_end (I.ok.hd aq) st p.isList (by simp;omega) fun h' bx=>⟨rfl,I.turned (t':=s.toks) (fun b o J e=>bx b o J e) f0 f1 d9 f4 fV⟩
 self:=fun _ _ _ _ _ st h=>wpAny_pyIter_listiter st h
theorem Q2{P:VR}{w:V9}{K:PySem.W.Frag}{bz:V3}(a it:VD):Turn P w K bz (uW K a) [it] it (fun i h=>h.IsTupleIter it a i) where
 mem:=by simp
 obj:=fun i h st b J=>by
  have e:b=it:=by simpa using J
  subst e;obtain⟨o,e,c,d⟩:=st;exact⟨o,e,fun v z=>by rw[d]at z;cases z⟩
 keep:=fun i h h' st k=>st.at fun o e=>k it (by simp) o e
 item:=by intro X dW hw aX aq i pins s σ H E I hf st aF;subst dW hw aX;obtain⟨xs,x,aS,av⟩:=aF;obtain⟨its,b_,p,bG⟩:=I.tuple aS;obtain⟨u,aN,eR⟩:=b_.get av;obtain⟨f0,f1,f2,d9,f4,fV⟩:=hf it (by simp);refine wpAny_pyNext_tuple_item st (show s.heap.IsTuple a its.toArray from p) (x:=u) (by simpa using aN) fun h' jM fb=>?_;have aW:Inv X pins σ H { s with heap:=h' }:=I.turned (t':=s.toks) (fun b o J e=>(fb.2 b J).trans e) f0 f1 d9 f4 fV;obtain⟨o,e,c,d⟩:=id jM;exact⟨u,rfl,sA (s:={ s with heap:=h' }) e c d (by decide) ⟨x,H,aW,eR,⟨rfl,fun ys bO=>by rw[I.y1 bO aS];exact av⟩,jM,fun b J=>(hf b J).1⟩⟩
 done:=by intro X dW hw aX aq i pins s σ H E I hf st aF;subst dW hw aX;obtain⟨xs,aS,av⟩:=aF;obtain⟨its,b_,p,bG⟩:=I.tuple aS;obtain⟨f0,f1,f2,d9,f4,fV⟩:=hf it (by simp);have ak:=b_.length;exact wpAny_pyNext_tuple_end (I.ok.hd aq) st (show s.heap.IsTuple a its.toArray from p) (by simp;omega) fun h' bx=>⟨rfl,I.turned (t':=s.toks) (fun b o J e=>bx b o J e) f0 f1 d9 f4 fV⟩
 self:=fun _ _ _ _ _ st h=>wpAny_pyIter_tupleiter st h
theorem Q0{P:VR}{w:V9}{K:PySem.W.Frag}{bz:V3}(it:VD)(lo:Int)(n:Nat):Turn P w K bz (rP lo n) [it] it (fun i h=>IsRangeIter h it (lo+(i:Nat)*1) ((n:Int)-(i:Nat)) 1) where
 mem:=by simp
 obj:=fun i h st b J=>by
  have e:b=it:=by simpa using J
  subst e;exact⟨_,st,fun v z=>by have gq:Data.fields _=aau v:=z;cases gq⟩
 keep:=fun i h h' st k=>k it (by simp) _ st
 item:=by intro X dW hw aX aq i pins s σ H E I hf st aF;subst dW hw aX;obtain⟨f0,f1,f2,d9,f4,fV⟩:=hf it (by simp);have W:=Walks.range (prog:=X.prog) (w:=X.w) (I.ok.hd aq) it lo 1 n;refine W.item i s _ _ aF st fun v h' cK bS jM df=>?_;obtain⟨t,rfl⟩:=bS;have aW:Inv X pins σ H { s with heap:=h',toks:=cK }:=I.turned (fun b o J e=>df b o (by simpa using J) e) f0 f1 d9 f4 fV;refine⟨_,rfl,sA (s:={ s with heap:=h',toks:=cK }) (n:="range_iterator") jM rfl rfl (by decide) ⟨.int (lo+i),H,aW,⟨t,?_⟩,⟨rfl,rfl⟩,jM,fun b J=>(hf b J).1⟩⟩;rw[Int.mul_one]
 done:=by intro X dW hw aX aq i pins s σ H E I hf st aF;subst dW hw aX;obtain⟨f0,f1,f2,d9,f4,fV⟩:=hf it (by simp);exact wpAny_pyNext_range_end (I.ok.hd aq) st (by have:n≤i:=aF;omega) fun h' bx=>⟨rfl,I.turned (t':=s.toks) (fun b o J e=>bx b o J e) f0 f1 d9 f4 fV⟩
 self:=fun _ _ _ _ _ st h=>wpAny_pyIter_rangeiter st h
section
variable{X:aD}{bz:V3}
noncomputable def Cz(K:PySem.W.Frag)(fO:TE):TI:=fun σ H R=>fO σ H fun x H1=>∃a,x=.ref a∧(∃xs,bQ K H1 a xs)∧R (uU K a) H1
noncomputable def CC(K:PySem.W.Frag)(fO:TE):TI:=fun σ H R=>fO σ H fun x H1=>∃a,x=.ref a∧(∃xs,cz K H1 a xs)∧R (uW K a) H1
theorem N8{l:V3}{fO:TE}(ak:a3 X l fO):fG X bz l (Cz X.K fO):=by
 intro pins s σ H R I h;refine bA (ak pins s σ H _ I h) fun v s1⟨x,H1,aW,au,aQ⟩=>?_;obtain⟨a,e,⟨xs,aS⟩,q⟩:=aQ;subst e;cases au;obtain⟨its,b_,p,bG⟩:=aW.list aS;refine XU p.isList ?_;refine⟨s1.heap.objs.size,[s1.heap.objs.size],_,_,H1,rfl,aW.kept (t':=s1.toks) fun b o e=>Vy _ e,QZ a _,⟨_,VN _ rfl,rfl,rfl⟩,fun b J=>?_,q⟩;have e:b=s1.heap.objs.size:=by simpa using J
 subst e;exact aW.mQ (VG _) (aW.bw.fresh (VG _))
theorem Oa{l:V3}{fO:TE}(ak:a3 X l fO):fG X bz l (CC X.K fO):=by
 intro pins s σ H R I h;refine bA (ak pins s σ H _ I h) fun v s1⟨x,H1,aW,au,aQ⟩=>?_;obtain⟨a,e,⟨xs,aS⟩,q⟩:=aQ;subst e;cases au;obtain⟨its,b_,p,bG⟩:=aW.tuple aS;refine wpAny_pyIter_tuple (show s1.heap.IsTuple a its.toArray from p) ?_;refine⟨s1.heap.objs.size,[s1.heap.objs.size],_,_,H1,rfl,aW.kept (t':=s1.toks) fun b o e=>Vy _ e,Q2 a _,⟨_,VN _ rfl,rfl,rfl⟩,fun b J=>?_,q⟩;have e:b=s1.heap.objs.size:=by simpa using J
 subst e;exact aW.mQ (VG _) (aW.bw.fresh (VG _))
theorem OT{pins:List (VD×Obj)}{σ :St}{H:ae}{s:Vx}{R:It→ae→Prop}{E:Vw→Vx→Prop}{lo af:Int}{t u v:Tok}{cK:Nat}(I:Inv X pins σ H s)(h1: -(2^62)≤lo)(h2:lo<2^62)(h3: -(2^62)≤af)(h4:af<2^62)(q:R (rP lo (af-lo).toNat) H):VL (VT X.prog X.w) X.A (pyIter (.ref s.heap.objs.size)) (zE X pins σ bz R) E { s with heap:=s.heap.push { cls:=.type "range",data:=.fields #[.int lo t,.int af u,.int 1 v] },toks:=cK }:=by
 refine wpAny_pyIter_range (IsRange.new ..) (small_one h1 h2 h3 h4) ?_;have aW:Inv X pins σ H { s with heap:=s.heap.push { cls:=.type "range",data:=.fields #[.int lo t,.int af u,.int 1 v] },toks:=cK }:=I.kept fun b o e=>Vy _ e
 refine⟨(s.heap.push { cls:=.type "range",data:=.fields #[.int lo t,.int af u,.int 1 v] }).objs.size,[(s.heap.push { cls:=.type "range",data:=.fields #[.int lo t,.int af u,.int 1 v] }).objs.size],_,_,H,rfl,
  aW.kept (t':=cK) fun b o e=>Vy _ e,Q0 _ lo (af-lo).toNat,?_,fun b J=>?_,q⟩
 ·have ao:lo+((0:Nat):Int)*1=lo:=by simp
  have aA:(((af-lo).toNat:Nat):Int)-((0:Nat):Int)=YM lo af 1:=by rw[rangeSize_one];split<;>omega
  show IsRangeIter _ _ (lo+((0:Nat):Int)*1) ((((af-lo).toNat:Nat):Int)-((0:Nat):Int)) 1;rw[ao,aA];exact VN _ rfl
 ·have e:b=(s.heap.push { cls:=.type "range",data:=.fields #[.int lo t,.int af u,.int 1 v] }).objs.size:=by simpa using J
  subst e;exact aW.mQ (VG _) (aW.bw.fresh (VG _))
noncomputable def CA(cg:eK):TI:=fun σ H R=>cg σ H fun vs H1=>∃j:Int,vs=[.int j]∧-(2^62)≤j∧j<2^62∧R (rP 0 j.toNat) H1
theorem N9{a:V3}{cg:eK}{p pos:Pos}(aF:da X "range")(hm:X.mg "range"=none)(ah:e6 X [a] cg)(hs:VA [a] X.env=[(false,WW a X.env)]:=by rfl):fG X bz (.Call (.Name "range" p) [a] [] pos) (CA cg):=by
 intro pins s σ H R I h;refine Call_ (qN I aF hm boot_range (Xq (bA (ah pos pins s σ H _ I h) fun us s1⟨vs,H1,aW,au,aQ⟩=>?_) hs rfl));obtain⟨j,e,aQ,a9,q⟩:=aQ;subst e;cases au with
 |cons r rh=>cases rh;obtain⟨t,rfl⟩:=r;exact call_range_1 (OT aW (by omega) (by omega) aQ a9 (by simpa using q))
noncomputable def Fz(fQ:TI)(g:gv)(tb:et):et:=fun D σ H=>fQ σ H fun br H1=>∃W:Nat→Nat→St→ae→Prop,(∃m,W 0 m σ H1)∧∀i m σ H,W i m σ H→
 (br.stop i H∧D.bJ σ H)∨(br.go i H∧∃N:St→ae→Prop,(∀ σ' H',N σ' H'→∃ck,ck<m∧W (i+1) ck σ' H')∧∀x H',br.hX i H x H'→g x σ H' fun σ2 aM=>tb { D with bJ:=N,cv:=N,ey:=D.bJ } σ2 aM)
def oQ(aC:List VD)(h:Wv):List (VD×Obj):=aC.filterMap fun b=>(h.get? b).map fun o=>(b,o)
theorem oH{aC:List VD}{h:Wv}{b:VD}{o:Obj}(J:b∈aC)(e:h.get? b=some o):(b,o)∈oQ aC h:=List.mem_filterMap.mpr ⟨b,J,by rw[e];rfl⟩
theorem Nb{aC:List VD}{h:Wv}{p:VD×Obj}(bf:p∈oQ aC h):p.1∈aC∧h.get? p.1=some p.2:=by
 obtain⟨b,J,e⟩:=List.mem_filterMap.mp bf;cases q:h.get? b with
 |none=>rw[q]at e;cases e
 |some o=>rw[q]at e;have bN:(b,o)=p:=VM e;subst bN;exact⟨J,q⟩
theorem Inv.pinned{pins:List (VD×Obj)}{σ :St}{H:ae}{s:Vx}{aC:List VD}(I:Inv X pins σ H s)(hf:∀b∈aC,ft X pins H b)(aB:∀b∈aC,∃o,s.heap.get? b=some o∧∀v,o.data≠.cell v):Inv X (pins++oQ aC s.heap) σ H s:=
 I.Et fun p bf=>(List.mem_append.mp bf).elim (fun z=>I.pin p (VQ _ z)) fun z=>by obtain⟨J,e⟩:=Nb z;obtain⟨f0,f1,f2,_⟩:=hf p.1 J;obtain⟨o,bN,d⟩:=aB p.1 J;rw[e]at bN;cases bN;exact⟨e,f0,f1,f2,d⟩
theorem Inv.rx{pins pl:List (VD×Obj)}{σ :St}{H:ae}{s:Vx}(I:Inv X (pins++pl) σ H s):Inv X pins σ H s:=I.Et fun p bf=>I.pin p (VQ _ (Ww _ bf))
theorem Ou{iter:V3}{body:List WO}{fQ:TI}{g:gv}{tb:et}{pos:Pos}(bf:PassesOwn (VT X.prog X.w) X.A X.env X.xe)(aq:X.calm=true)(af:fG X bz iter fQ)(aF:gu X bz g)(J:fv X body tb)(hs:∀x,V4 iter X.env x=pure x:=by intro _;rfl):c7 X (.For bz iter body [] pos) (Fz fQ g tb):=by
 intro pins s σ H D I h;refine wpAny_For (bA (af pins s σ H _ I h) fun v s1 h1=>bA h1 fun oo s2 h2=>?_) hs;obtain⟨it,aC,eB,br,aM,e,bT,T,gS,f2,W,⟨m0,hB⟩,turn⟩:=h2;subst e;have stat:∀{H':ae},(∀b∈aC,H' b=none)→∀b∈aC,ft X pins H' b:=fun aK b J=>⟨aK b J,(f2 b J).2⟩;refine codeAny_forLoop_any (fun n s'=>∃i σ' H',Inv X pins σ' H' s'∧eB i s'.heap∧(∀b∈aC,H' b=none)∧W i n σ' H') ?_ m0 ⟨0,σ,aM,bT,gS,fun b J=>(f2 b J).1,hB⟩;rintro n s3 ⟨i,σ3,cy,c6,Fm,B3,nt⟩;rcases turn i n σ3 cy nt with⟨stop,qn⟩|⟨go,N,bR,step⟩
 ·refine Xb bf (bA (T.done X rfl rfl rfl aq i pins s3 σ3 cy X.xe c6 (stat B3) Fm stop) fun r s4⟨aw,hc⟩=>?_);subst aw;exact WY ⟨σ3,cy,hc,qn⟩
 ·refine Xb bf (bA (T.item X rfl rfl rfl aq i pins s3 σ3 cy X.xe c6 (stat B3) Fm go) fun r s4⟨u,aw,h4⟩=>?_);subst aw;refine Xb bf (bA h4 fun _ s5⟨x,fe,iU,kj,R5,k4,mR⟩=>?_);have GF:=iU.pinned (stat mR) (T.obj _ _ k4);refine Xb bf (bA (aF _ s5 σ3 fe x u _ GF kj (step x fe R5)) fun _ jK⟨σ6,ko,jr,jf⟩=>?_);refine Xb bf (bA (J _ jK σ6 ko _ jr jf) fun f eM hT=>?_);have again:∀{σ7:St}{eT:ae},Inv X (pins++oQ aC s5.heap) σ7 eT eM→N σ7 eT→∃m,m<n∧∃i σ' H',Inv X pins σ' H' eM∧eB i eM.heap∧(∀b∈aC,H' b=none)∧W i m σ' H':=fun{σ7 eT} gD q7=>by
   obtain⟨ck,hm,Rf⟩:=bR σ7 eT q7;refine⟨ck,hm,i+1,σ7,eT,gD.rx,T.keep _ _ _ k4 fun b J o e=>(gD.pin (b,o) (VQ _ (VQ _ (oH J e)))).1,fun b J=>?_,Rf⟩;obtain⟨o,e,d⟩:=T.obj _ _ k4 b J;exact(gD.pin (b,o) (VQ _ (VQ _ (oH J e)))).2.1
  cases f with
  |next=>obtain⟨σ7,eT,gD,q7⟩:=hT;exact again gD q7
  |cont=>obtain⟨σ7,eT,gD,q7⟩:=hT;exact again gD q7
  |brk=>obtain⟨σ7,eT,gD,hT⟩:=hT;exact⟨σ7,eT,gD.rx,hT⟩
  |ret v=>obtain⟨Rk,σ7,eT,gD,fM,hT⟩:=hT;exact⟨Rk,σ7,eT,gD.rx,fM,hT⟩
end
abbrev d7:=V→V→ae→cD→Prop
noncomputable def dw(X:aD)(f:Vw→Vw→Sem Vw)(r:d7):Prop:=
 ∀(pins:List (VD×Obj))(s:Vx)(σ :St)(H:ae)(x y:V)(v u:Vw)(Q:cD),Inv X pins σ H s→RelV x v→RelV y u→r x y H Q→
  VL (VT X.prog X.w) X.A (f v u) (eS X pins σ Q) X.xe s
noncomputable def h_(X:aD)(f:Vw)(r:List V→ae→cD→Prop):Prop:=
 ∀(pins:List (VD×Obj))(s:Vx)(σ :St)(H:ae)(xs:List V)(us:List Vw)(Q:cD),Inv X pins σ H s→Vals xs us→r xs H Q→
  VL (VT X.prog X.w) X.A (call f us) (eS X pins σ Q) X.xe s
noncomputable def GS(X:aD)(r:V→ae→(Bool→ae→Prop)→Prop):Prop:=
 ∀(pins:List (VD×Obj))(s:Vx)(σ :St)(H:ae)(x:V)(v:Vw)(Q:Bool→ae→Prop),Inv X pins σ H s→RelV x v→r x H Q→
  VL (VT X.prog X.w) X.A (truthy v) (rZ X pins σ Q) X.xe s
def o5(r:d7)(cg tb:TE):TE:=fun σ H Q=>cg σ H fun x H1=>tb σ H1 fun y aM=>r x y aM Q
def oT(C:Int→Int→Prop)(g:Int→Int→V):d7:=fun x y H Q=>∃i j,x=.int i∧y=.int j∧C i j∧Q (g i j) H
def kk(g:Int→Int→V):d7:=fun x y H Q=>∃i j,x=.int i∧y=.int j∧Q (g i j) H
section
variable{X:aD}{a b c:V3}{cg tb er:TE}{pos:Pos}
theorem vj(ah:a3 X a cg)(J:a3 X b tb){pins:List (VD×Obj)}{s:Vx}{σ :St}{H:ae}{R:V→V→ae→Prop}(I:Inv X pins σ H s)(h:cg σ H fun x H1=>tb σ H1 fun y aM=>R x y aM){Q:Vw→Vx→Prop}{f:Vw→Vw→Sem Vw}(hf:∀v u s2 x y aM,Inv X pins σ aM s2→RelV x v→RelV y u→R x y aM→VL (VT X.prog X.w) X.A (f v u) Q X.xe s2) :
  VL (VT X.prog X.w) X.A (WW a X.env) (fun v cH=>VL (VT X.prog X.w) X.A (WW b X.env) (fun u gC=>VL (VT X.prog X.w) X.A (f v u) Q X.xe gC) X.xe cH) X.xe s:=by
 refine bA (ah pins s σ H _ I h) fun v s1⟨x,H1,aW,au,aQ⟩=>?_;refine bA (J pins s1 σ H1 _ aW aQ) fun u s2⟨y,aM,bT,bl,a9⟩=>?_;exact hf v u s2 x y aM bT au bl a9
theorem En{op:Operator}{r:d7}(aB:dw X (X2 op) r)(ah:a3 X a cg)(J:a3 X b tb):a3 X (.BinOp a op b pos) (o5 r cg tb):=by intro pins s σ H Q I h;exact wpAny_BinOp (vj ah J I h fun v u s2 x y aM bT bu bX q=>aB pins s2 σ aM x y v u Q bT bu bX q)
theorem tw{f:Vw→Vw→Sem Vw}{C:Int→Int→Prop}{g:Int→Int→Int}(rule:∀(i j:Int)(t u:Tok)(s:Vx)(Q:Vw→Vx→Prop)(E:Vw→Vx→Prop),C i j→Q (.int (g i j) s.toks) { s with toks:=s.toks+1 }→VL (VT X.prog X.w) X.A (f (.int i t) (.int j u)) Q E s) :
  dw X f (oT C fun i j=>.int (g i j)):=by
 intro pins s σ H x y v u Q I bu bX h;obtain⟨i,j,rfl,rfl,aq,q⟩:=h;obtain⟨t,rfl⟩:=bu;obtain⟨t',rfl⟩:=bX;exact rule i j t t' s _ _ aq ⟨.int (g i j),H,I.tok _,⟨_,rfl⟩,q⟩
theorem Ec{f:Vw→Vw→Sem Vw}{g:Int→Int→Int}(rule:∀(i j:Int)(t u:Tok)(s:Vx)(Q:Vw→Vx→Prop)(E:Vw→Vx→Prop),Q (.int (g i j) s.toks) { s with toks:=s.toks+1 }→VL (VT X.prog X.w) X.A (f (.int i t) (.int j u)) Q E s) :
  dw X f (kk fun i j=>.int (g i j)):=by
 intro pins s σ H x y v u Q I bu bX h;obtain⟨i,j,rfl,rfl,q⟩:=h;obtain⟨t,rfl⟩:=bu;obtain⟨t',rfl⟩:=bX;exact rule i j t t' s _ _ ⟨.int (g i j),H,I.tok _,⟨_,rfl⟩,q⟩
theorem xk{f:Vw→Vw→Sem Vw}{g:Int→Int→Bool}(rule:∀(i j:Int)(t u:Tok)(s:Vx)(Q:Vw→Vx→Prop)(E:Vw→Vx→Prop),Q (.bool (g i j)) s→VL (VT X.prog X.w) X.A (f (.int i t) (.int j u)) Q E s) :
  dw X f (kk fun i j=>.aU (g i j)):=by
 intro pins s σ H x y v u Q I bu bX h;obtain⟨i,j,rfl,rfl,q⟩:=h;obtain⟨t,rfl⟩:=bu;obtain⟨t',rfl⟩:=bX;exact rule i j t t' s _ _ ⟨.aU (g i j),H,I,rfl,q⟩
def rG(i j:Int):Prop:=0<j∧j<1073741824
def ph(i j:Int):Prop:=0≤j∧j≤1000000∧i.natAbs<2^64
def nE(i j:Int):Prop:=(-(2^64)<i∧i<2^64)∨(-(2^64)<j∧j<2^64)
theorem nE.ok{i j:Int}(h:nE i j):IntMulOk i j:=by
 rcases h with⟨h1,h2⟩|⟨h1,h2⟩
 ·exact .of_left (intBits_le_64 h1 h2)
 ·exact .of_right (intBits_le_64 h1 h2)
theorem Nq:dw X (X2 .Add) (kk fun i j=>.int (i+j)):=Ec fun _ _ _ _ _ _ _ q=>add_int q
theorem NF:dw X (X2 .Sub) (kk fun i j=>.int (i-j)):=Ec fun _ _ _ _ _ _ _ q=>sub_int q
theorem NA:dw X (X2 .Mult) (oT nE fun i j=>.int (i*j)):=tw fun _ _ _ _ _ _ _ aq q=>mul_int q aq.ok
theorem Nu:dw X (X2 .FloorDiv) (oT rG fun i j=>.int (i/j)):=tw fun i j _ _ _ _ _ aq q=>by have h1:(0:Int)<j:=aq.1;have h2:j<1073741824:=aq.2;exact floordiv_int (by omega) (by rw[Int.fdiv_eq_ediv_of_nonneg i (by omega)];exact q) (.inl (PyProof.noPylong_small (by omega)))
theorem Nz:dw X (X2 .Mod) (oT (fun _ j=>0<j) fun i j=>.int (i%j)):=tw fun i j _ _ _ _ _ aq q=>by have h1:(0:Int)<j:=aq;exact mod_int' (by omega) (by rw[Int.fmod_eq_emod_of_nonneg i (by omega)];exact q)
theorem NC:dw X (X2 .Pow) (oT ph fun i j=>.int (i^j.toNat)):=tw fun _ _ _ _ _ _ _ aq q=>pow_int_small aq.1 aq.2.1 aq.2.2 q
end
section
variable{X:aD}{a b c:V3}{cg tb er:TE}{pos:Pos}
theorem Ir{pins:List (VD×Obj)}{σ :St}{H:ae}{s:Vx}{Q:cD}{k k':Bool}(I:Inv X pins σ H s)(q:Q (.aU k) H)(e:k=k'):eS X pins σ Q (.bool k') s:=by subst e;exact⟨.aU k,H,I,rfl,q⟩
theorem Ny:dw X (Wn .Lt) (kk fun i j=>.aU (decide (i<j))):=xk fun _ _ _ _ _ _ _ q=>lt_int q
theorem oP:dw X (Wn .LtE) (kk fun i j=>.aU (decide (i≤j))):=xk fun _ _ _ _ _ _ _ q=>le_int q
theorem Nv:dw X (Wn .Gt) (kk fun i j=>.aU (decide (j<i))):=xk fun _ _ _ _ _ _ _ q=>gt_int q
theorem Nx:dw X (Wn .In) (fun x y H Q=>∃i j,x=.str i∧y=.str j∧Q (.aU (!(WS j i 0 j.length 1).isEmpty)) H):=by intro pins s σ H x y v u Q I bu bX h;obtain⟨i,j,rfl,rfl,q⟩:=h;obtain⟨t,rfl⟩:=bu;obtain⟨t',rfl⟩:=bX;exact in_str (Ir I q rfl)
theorem dw.or{f:Vw→Vw→Sem Vw}{r bq:d7}(h:dw X f r)(h':dw X f bq):dw X f (fun x y H Q=>r x y H Q∨bq x y H Q):=by
 intro pins s σ H x y v u Q I bu bX q;rcases q with q|q
 ·exact h pins s σ H x y v u Q I bu bX q
 ·exact h' pins s σ H x y v u Q I bu bX q
theorem oM(b:V3){op:aar}(h:op≠.In:=by decide)(h2:op≠.NotIn:=by decide):Wd op b=false:=by
 have ao:(op==CmpOp.In)=false:=by cases op<;>first|rfl|exact absurd rfl h
 have aA:(op==CmpOp.NotIn)=false:=by cases op<;>first|rfl|exact absurd rfl h2
 cases b<;>simp[Wd,ao,aA]
theorem NQ{op:aar}{r:d7}(aB:dw X (Wn op) r)(ah:a3 X a cg)(J:a3 X b tb)(hm:Wd op b=false):a3 X (.Compare a [op] [b] pos) (o5 r cg tb):=by intro pins s σ H Q I h;exact wpAny_Compare1 (vj ah J I h fun v u s2 x y aM bT bu bX q=>aB pins s2 σ aM x y v u Q bT bu bX q) hm
def yO(t:TE):TT:=fun σ H Q=>t σ H fun x H'=>∃k,x=.aU k∧Q k H'
theorem Oz{op:aar}{r:d7}(aB:dw X (Wn op) r)(ah:a3 X a cg)(J:a3 X b tb)(hm:Wd op b=false):eG X (.Compare a [op] [b] pos) (yO (o5 r cg tb)):=by
 intro pins s σ H Q I h;refine wpAny_isTrue_Compare1 (bA (ah pins s σ H _ I h) fun v s1⟨x,H1,aW,au,aQ⟩=>bA (J pins s1 σ H1 _ aW aQ) fun u s2⟨y,aM,bT,bl,a9⟩=>
  bA (aB pins s2 σ aM x y v u _ bT au bl a9) fun c s3⟨z,cy,c6,dp,k,e,c5⟩=>?_) hm
 subst e;cases dp;exact V8 ⟨cy,c6,c5⟩
noncomputable def yJ(r bq:d7)(cg tb er:TE):TE:=fun σ H Q=>cg σ H fun x H1=>tb σ H1 fun y aM=>r x y aM fun z cy=>∃k,z=.aU k∧
 (if k=true then er σ cy fun f3 fu=>bq y f3 fu Q else Q (.aU false) cy)
theorem NP{op hx:aar}{r bq:d7}(aB:dw X (Wn op) r)(e_:dw X (Wn hx) bq)(ah:a3 X a cg)(J:a3 X b tb)(aq:a3 X c er)(hm:lastMarks [op,hx] [b,c]=false:=by with_unfolding_all rfl):a3 X (.Compare a [op,hx] [b,c] pos) (yJ r bq cg tb er):=by
 intro pins s σ H Q I h;refine Compare_chain (bA (ah pins s σ H _ I h) fun v s1⟨x,H1,aW,au,aQ⟩=>chain_link (bA (J pins s1 σ H1 _ aW aQ) fun u s2⟨y,aM,bT,bl,a9⟩=>
  bA (aB pins s2 σ aM x y v u _ bT au bl a9) fun d s3⟨z,cy,c6,dp,k,e,c5⟩=>?_)) hm
 subst e;cases dp;refine V8 ?_;cases k with
 |false=>exact ite_ff ⟨.aU false,cy,c6,rfl,c5⟩
 |true=>exact ite_tt (chain_last (bA (aq pins s3 σ cy _ c6 c5) fun f3 s4⟨gq,fu,hc,l2,gj⟩=>e_ pins s4 σ fu y gq u f3 Q hc bl l2 gj))
theorem Ox{op hx:aar}{r bq:d7}(aB:dw X (Wn op) r)(e_:dw X (Wn hx) bq)(ah:a3 X a cg)(J:a3 X b tb)(aq:a3 X c er)(hm:lastMarks [op,hx] [b,c]=false:=by with_unfolding_all rfl):eG X (.Compare a [op,hx] [b,c] pos) (yO (yJ r bq cg tb er)):=by
 intro pins s σ H Q I h;refine isTrue_chain (bA (ah pins s σ H _ I h) fun v s1⟨x,H1,aW,au,aQ⟩=>test_link (bA (J pins s1 σ H1 _ aW aQ) fun u s2⟨y,aM,bT,bl,a9⟩=>
  bA (aB pins s2 σ aM x y v u _ bT au bl a9) fun d s3⟨z,cy,c6,dp,k,e,c5⟩=>?_)) hm
 subst e;cases dp;refine V8 ?_;cases k with
 |false=>obtain⟨k',bN,cq⟩:=c5;cases bN;exact ite_ff ⟨cy,c6,cq⟩
 |true=>refine ite_tt (test_last (bA (aq pins s3 σ cy _ c6 c5) fun f3 s4⟨gq,fu,hc,l2,gj⟩=>bA (e_ pins s4 σ fu y gq u f3 _ hc bl l2 gj) fun d' s5⟨a7,fe,iU,kj,k2,aA,iG⟩=>?_));subst aA;cases kj;exact V8 ⟨fe,iU,iG⟩
noncomputable def GU(K:PySem.W.Frag)(x:V)(H:ae)(k:Bool):Prop:=
 match x with
 |.non=>k=false
 |.aU b=>k=b
 |.int i=>k=(i !=0)
 |.str y=>y.length≤VP∧k=((y.length:Int) !=0)
 |.lz y=>y.size≤VP∧k=((y.size:Int) !=0)
 |.ref p=>(∃xs,bQ K H p xs∧k=!xs.isEmpty)∨(∃xs,cz K H p xs∧k=!xs.isEmpty)∨∃a6,H p=some (.dc a6)∧k=!a6.isEmpty
 |_=>False
theorem KN{cU:Type}{a6:List (cU×V)}{vs:List (cU×Vw)}(r:eU a6 vs):(!vs.isEmpty)=!a6.isEmpty:=by cases r<;>rfl
theorem CN{xs:List V}{its:List Vw}(r:Vals xs its):(!its.toArray.isEmpty)=!xs.isEmpty:=by cases r<;>simp
theorem qP:(VP:Nat)<2^63:=by rw[Xr];decide
theorem T_:GS X (fun x H Q=>∃k,GU X.K x H k∧Q k H):=by
 intro pins s σ H x v Q I bu h;obtain⟨k,e,q⟩:=h;have ak:=qP;have hs:VP=16777216:=Xr;cases x with
 |non=>cases bu;have bN:k=false:=e;subst bN;exact truthy_none ⟨H,I,q⟩
 |aU b=>cases bu;have bN:k=b:=e;subst bN;exact V8 ⟨H,I,q⟩
 |int i=>obtain⟨t,rfl⟩:=bu;have bN:k=(i !=0):=e;subst bN;exact PySem.P.truthy_int ⟨H,I,q⟩
 |str y=>obtain⟨t,rfl⟩:=bu;obtain⟨bO,bN⟩:y.length≤VP∧k=((y.length:Int) !=0):=e;subst bN;exact PySem.P.truthy_str (by omega) ⟨H,I.tok _,q⟩
 |lz y=>obtain⟨t,rfl⟩:=bu;obtain⟨bO,bN⟩:y.size≤VP∧k=((y.size:Int) !=0):=e;subst bN;exact PySem.W.truthy_bytes (by omega) ⟨H,I.tok _,q⟩
 |ref p=>
  cases bu;have bN:(∃xs,bQ X.K H p xs∧k=!xs.isEmpty)∨(∃xs,cz X.K H p xs∧k=!xs.isEmpty)∨∃a6,H p=some (.dc a6)∧k=!a6.isEmpty:=e;rcases bN with⟨xs,av,bN⟩|⟨xs,av,bN⟩|⟨a6,av,bN⟩
  ·subst bN;obtain⟨its,r,pl,bG⟩:=I.list av;have hlen:=r.length;exact wpAny_truthy_list pl.isList (by simp only[VE];omega) ⟨H,I.tok _,by rw[CN r];exact q⟩
  ·subst bN;obtain⟨its,r,pl,bG⟩:=I.tuple av;have hlen:=r.length;exact truthy_tuple pl (by simp only[VE];omega) ⟨H,I.tok _,by rw[CN r];exact q⟩
  ·subst bN;obtain⟨bG,hr,vs,r,m⟩:a6.length≤VP∧(p==W3)=false∧∃vs,eU a6 vs∧s.heap.DictOf (hv X.prog X.w) p vs:=I.bw p _ av;have hlen:a6.length=vs.length:=Paired.length r;exact wpAny_truthy_dict hr m (by omega) ⟨H,I.tok _,by rw[KN r];exact q⟩
 |_=>exact(show False from e).elim
theorem Nr:dw X (X2 .Add) (fun x y H Q=>∃i j,x=.str i∧y=.str j∧i.length+j.length≤VP∧Q (.str (i++j)) H):=by intro pins s σ H x y v u Q I bu bX h;obtain⟨i,j,rfl,rfl,bG,q⟩:=h;obtain⟨t,rfl⟩:=bu;obtain⟨t',rfl⟩:=bX;exact add_str (fun t' cK=>⟨.str (i++j),H,I.tok _,⟨_,rfl⟩,q⟩) bG
theorem vals1{x:V}{us:List Vw}(r:Vals [x] us):∃u,us=[u]∧RelV x u:=by
 cases r with
 |cons au bl=>cases bl;exact⟨_,rfl,au⟩
theorem vals2{x y:V}{us:List Vw}(r:Vals [x,y] us):∃u f3,us=[u,f3]∧RelV x u∧RelV y f3:=by
 cases r with
 |cons au bl=>
  cases bl with
  |cons dp l2=>cases l2;exact⟨_,_,rfl,au,dp⟩
noncomputable def zA(K:PySem.W.Frag)(x:V)(H:ae)(n:Nat):Prop:=
 match x with
 |.str y=>y.length≤VP∧n=y.length
 |.lz y=>y.size≤VP∧n=y.size
 |.ref p=>(∃xs,bQ K H p xs∧n=xs.length)∨∃xs,cz K H p xs∧n=xs.length
 |_=>False
theorem Hp:h_ X (.builtin "len") (fun xs H Q=>∃x n,xs=[x]∧zA X.K x H n∧Q (.int n) H):=by
 intro pins s σ H xs us Q I r h;obtain⟨x,n,rfl,e,q⟩:=h;obtain⟨u,rfl,bu⟩:=vals1 r;have ak:=qP;have hs:VP=16777216:=Xr;cases x with
 |str y=>obtain⟨t,rfl⟩:=bu;obtain⟨bO,bN⟩:y.length≤VP∧n=y.length:=e;subst bN;exact len_str (by omega) ⟨.int _,H,I.tok _,⟨_,rfl⟩,q⟩
 |lz y=>obtain⟨t,rfl⟩:=bu;obtain⟨bO,bN⟩:y.size≤VP∧n=y.size:=e;subst bN;exact PySem.W.len_bytes (by omega) ⟨.int _,H,I.tok _,⟨_,rfl⟩,q⟩
 |ref p=>
  cases bu;have bN:(∃xs,bQ X.K H p xs∧n=xs.length)∨∃xs,cz X.K H p xs∧n=xs.length:=e;rcases bN with⟨xs,av,bN⟩|⟨xs,av,bN⟩
  ·subst bN;obtain⟨its,bq,pl,bG⟩:=I.list av;have hlen:=bq.length;exact Calls.call_len_list pl.isList (by simp only[VE];omega) ⟨.int xs.length,H,I.tok _,⟨_,by simp only[VE];rw[hlen]⟩,q⟩
  ·subst bN;obtain⟨its,bq,pl,bG⟩:=I.tuple av;have hlen:=bq.length;exact len_tuple pl (by simp only[VE];omega) ⟨.int xs.length,H,I.tok _,⟨_,by simp only[VE];rw[hlen]⟩,q⟩
 |_=>exact(show False from e).elim
end
structure mB(h:Wv)(x a5 C:VD)(dA:Str→Option Vw):Prop where
 obj:h.get? x=some (PySem.W.instObj C a5)
 ns:h.Ns1 a5 dA
 ne:a5≠x
theorem L4{h:Wv}{a5:VD}{dA:Str→Option Vw}(n:h.Ns1 a5 dA):∃dh,h.get? a5=some dh∧∀name,PySem.W.lookIn name dh=some (dA name):=by
 obtain⟨o,es,b7,aB,hd,aH,_,hm⟩:=n;refine⟨o,aB,fun name=>?_⟩;have e:=hm name;unfold nsFind findBy at e;rw[←Array.find?_toList]at e;unfold PySem.W.lookIn;rw[hd];dsimp only
 split
 ·rename_i y q;rw[q]at e;exact congrArg some e
 ·rename_i q;rw[q]at e;have a:es.toList.any (·.refKey)=false:=by
   rw[List.any_eq_false];intro y bO;obtain⟨z,t,Jk⟩:=aH y (Array.mem_toList_iff.mp bO);simp[DictEntry.refKey,Jk]
  have ij:¬es.toList.any (·.refKey)=true:=by rw[a];exact VZ
  rw[if_neg ij];exact congrArg some e
theorem mB.look{h:Wv}{x a5 C:VD}{dA:Str→Option Vw}(I:mB h x a5 C dA):∃dh,PySem.W.InstAt h x (PySem.W.instObj C a5) C (some dh)∧∀name,PySem.W.lookIn name dh=some (dA name):=
 let⟨dh,aB,ak⟩:=L4 I.ns
 ⟨dh,⟨I.obj,rfl,rfl,aB⟩,ak⟩
section
variable{prog:VR}{w:V9}{A:V0}{E:Vw→Vx→Prop}{s:Vx}{K:PySem.W.Frag}{x a5 C f:VD}{dA:Str→Option Vw}{name:Str}{v:Vw}
theorem get_map{expr:Bool}{Q:Vw→Vx→Prop}(X:K.In s.heap)(I:mB s.heap x a5 C dA)(aF:PySem.W.plainGet K C name=true)(bF:PySem.W.hasDictIn K C=true)(ah:PySem.W.findIn K (.ref C) name=some none)(bS:dA name=some v)(oi:PySem.W.handedIn v=true)(h:Q v { s with toks:=s.toks+1 }) :
  VL (VT prog w) A (getAttr (.ref x) name expr) Q E s:=by
 obtain⟨dh,br,ak⟩:=I.look;exact PySem.W.get_value X br (PySem.W.plainGet_of aF).1 (PySem.W.findObj_own bF ah rfl (by rw[ak,bS])) oi h
theorem IH{pl:Sem Bool}{Q:Vw×List Vw→Vx→Prop}(X:K.In s.heap)(I:mB s.heap x a5 C dA)(aF:PySem.W.plainGet K C name=true)(hf:PySem.W.findIn K (.ref C) name=some (some (.ref f)))(bH:PySem.W.isFn K (.ref f)=true)(bS:dA name=none)(h:Q (.ref f,[.ref x]) s) :
  VL (VT prog w) A (Z4 (.ref x) name pl) Q E s:=by
 obtain⟨dh,br,ak⟩:=I.look;exact PySem.W.method_fn X br (PySem.W.plainGet_of aF).1 (PySem.W.plainGet_of aF).2 hf (beq_iff_eq.mp bH) (by show(PySem.W.lookIn name dh).map (·.isSome)=some false;rw[ak,bS];rfl) h
theorem PH{ns:List Str}{Q:Unit→Vx→Prop}(X:K.In s.heap)(I:mB s.heap x a5 C dA)(hs:PySem.W.findIn K (.ref C) "__setattr__"=some (some (.builtin "object.__setattr__")))(bf:PySem.W.plainOver K C=true)(bH:PySem.W.takerIn K C name=some none)(bF:PySem.W.hasDictIn K C=true)(hw:PySem.Within dA ns)(hsz:ns.length≤VP)(h:∀h',mB h' x a5 C (fun y=>if y=name then some v else dA y)→Wm a5 s.heap h'→Q () { s with heap:=h',toks:=s.toks+2 }) :
  VL (VT prog w) A (setAttr (.ref x) name v) Q E s:=by
 obtain⟨dh,br,ak⟩:=I.look;refine PySem.W.set_plain X br hs (PySem.W.osa_open (s:={ s with toks:=s.toks+1 }) (r:=none) X br bf bH fun b=>?_);obtain⟨cd,aq,jx⟩:=PySem.W.any_some bF;have av:s.heap.get? x=some ⟨.ref C,some a5,.plain,#[]⟩:=I.obj;refine Vv (VB (Vv (Vv (wpAny_loadPart av (Vv (PySem.W.Looks.here (s:={ s with toks:=s.toks+1 }) (PySem.W.looks_clsIn X aq) ?_))))));rw[jx];refine VB (a:=some a5) (Vv (VB (Vv ?_)));refine wpAny_nsSet1 (s:={ s with toks:=s.toks+1 }) I.ns fun h' sM fW=>?_;obtain⟨Tv,Sx,Sv,Jt,I5,I2⟩:=sM.count (PySem.Within.cons name v hw);refine Vv (wpAny_lookBehind Jt (by rw[I5];exact pastItsLine_dict (V7 I2 (by rw[Wf];omega))) ?_);exact VB (h _ ⟨(fW.2 _ (Yx I.ne)).trans I.obj,sM,I.ne⟩ fW)
theorem Mo {R:Result→Vx→Prop} {vs:List Vw} {kw:List (Str×Vw)} (X:K.In s.heap) (hm:PySem.W.makesIn K C=true)(af:PySem.W.findIn K (.ref C) "__init__"=some (some (.ref f))) (hf:PySem.W.typeIn K (.ref f)=some (.type "function"))(h:X8 (VT prog w) (A.under (.builtin "type.__call__" ⟨.ref C::vs,kw⟩)) (.call (.ref f) ⟨.ref (s.heap.objs.size+1)::vs,kw⟩) (PySem.W.InitBack (s.heap.objs.size+1) R)
    { s with heap:=(s.heap.push PySem.W.emptyDict).push (PySem.W.instObj C s.heap.objs.size) }) :
  X8 (VT prog w) A (.call (.ref C) ⟨vs,kw⟩) R s:=by
 obtain⟨bF,g,d,t,os⟩:=s;exact PySem.W.make_core (PySem.W.makes_of X hm) (PySem.W.looks_findIn X af) (fun self=>PySem.W.bind_fn X self hf) (.inl rfl) h
end
noncomputable def gi(f:Str)(v:V):List (Str×V)→List (Str×V)
 |[]=>[(f,v)]
 |(g,x)::r=>if g=f then(g,v)::r else(g,x)::gi f v r
theorem Dm(f g:Str)(v:V):∀aT:List (Str×V),(gi f v aT).lookup g=if g=f then some v else aT.lookup g
 |[]=>by
  show XW g [(f,v)]=_;by_cases h:g=f
  ·have J:(g==f)=true:=beq_iff_eq.mpr h;simp only[XW,J,if_pos h]
  ·have J:(g==f)=false:=beq_eq_false_iff_ne.mpr h;simp only[XW,J,if_neg h]
 |(k,x)::r=>by
  have cW:=Dm f g v r;rw[show gi f v ((k,x)::r)=(if k=f then(k,v)::r else(k,x)::gi f v r)from rfl];by_cases aH:k=f
  ·rw[if_pos aH];by_cases h:g=k
   ·have J:(g==k)=true:=beq_iff_eq.mpr h;simp only[XW,J,if_pos (h.trans aH)]
   ·have J:(g==k)=false:=beq_eq_false_iff_ne.mpr h;simp only[XW,J,if_neg (fun e:g=f=>h (e.trans aH.symm))]
  ·rw[if_neg aH];by_cases h:g=k
   ·have J:(g==k)=true:=beq_iff_eq.mpr h;simp only[XW,J,if_neg (fun e:g=f=>aH (h.symm.trans e))]
   ·have J:(g==k)=false:=beq_eq_false_iff_ne.mpr h;simp only[XW,J];exact cW
theorem wL(f:Str)(v:V):∀aT:List (Str×V),f∈(gi f v aT).map (·.1)∧∀g,g∈aT.map (·.1)→g∈(gi f v aT).map (·.1)
 |[]=>⟨by simp[gi],fun g h=>by simp at h⟩
 |(k,x)::r=>by
  obtain⟨bY,bM⟩:=wL f v r;rw[show gi f v ((k,x)::r)=(if k=f then(k,v)::r else(k,x)::gi f v r)from rfl];by_cases aH:k=f
  ·rw[if_pos aH];subst aH;exact⟨by simp,fun g h=>by simpa using h⟩
  ·rw[if_neg aH];refine⟨?_,fun g h=>?_⟩
   ·rw[Ws];exact VC _ bY
   ·rw[Ws]at h ⊢;rcases List.mem_cons.mp h with e|e
    ·exact List.mem_cons.mpr (.inl e)
    ·exact VC _ (bM g e)
theorem Di(f:Str)(v:V):∀aT:List (Str×V),(gi f v aT).length≤aT.length+1
 |[]=>by simp[gi]
 |(k,x)::r=>by
  have cW:=Di f v r;rw[show gi f v ((k,x)::r)=(if k=f then(k,v)::r else(k,x)::gi f v r)from rfl];by_cases aH:k=f
  ·rw[if_pos aH,Wf,Wf];omega
  ·rw[if_neg aH,Wf,Wf];omega
theorem hI.some_of{v:V}{o:Option Vw}(r:hI (some v) o):∃u,o=some u∧RelV v u:=by
 cases o with
 |none=>exact(show False from r).elim
 |some u=>exact⟨u,rfl,r⟩
theorem hI.none_of{o:Option Vw}(r:hI none o):o=none:=by
 cases o with
 |none=>rfl
 |some u=>exact(show False from r).elim
theorem IZ{v:V}{u:Vw}(r:RelV v u):PySem.W.handedIn u=true:=by
 cases v with
 |non=>cases(show u=Wr from r);rfl
 |aU b=>cases(show u=YB b from r);rfl
 |int i=>obtain⟨t,e⟩:=(show ∃t,u=aas i t from r);cases e;rfl
 |str x=>obtain⟨t,e⟩:=(show ∃t,u=aat x t from r);cases e;rfl
 |lz b=>obtain⟨t,e⟩:=(show ∃t,u=Value.bytes b t from r);cases e;rfl
 |sr b=>obtain⟨t,e⟩:=(show ∃t,u=Value.float b t from r);cases e;rfl
 |ref a=>cases(show u=V2 a from r);rfl
 |ty n=>cases(show u=Zr n from r);rfl
section
variable{P:VR}{w:V9}{H H':ae}{h h':Wv}{a C a5:VD}{aT sv:List (Str×V)}
theorem wF(bw:dJ P w H h)(e:H a=some (.ins C a5 aT)):∃dA,mB h a a5 C dA∧(∀f,hI (aT.lookup f) (dA f))∧PySem.Within dA (aT.map (·.1))∧aT.length≤1000∧H a5=some (.own a):=by obtain⟨d,z,ne,bg,dA,n,r,q⟩:=(show eF P w H h a (.ins C a5 aT)from bw a _ e);exact⟨dA,⟨bg,n,ne⟩,r,q,z,d⟩
end
structure ia(K:PySem.W.Frag)(C:VD):Prop where
 N7:PySem.W.plainGet K C Str.empty=true
 hd:PySem.W.hasDictIn K C=true
 po:PySem.W.plainOver K C=true
 gR:PySem.W.findIn K (.ref C) "__setattr__"=some (some (.builtin "object.__setattr__"))
theorem ia.get{K:PySem.W.Frag}{C:VD}(c:ia K C)(f:Str):PySem.W.plainGet K C f=true:=c.N7
def mA(K:PySem.W.Frag)(C:VD)(f:Str):Prop:=PySem.W.findIn K (.ref C) f=some none
theorem mA.QJ{K:PySem.W.Frag}{C:VD}{f:Str}(n:mA K C f):PySem.W.takerIn K C f=some none:=by unfold PySem.W.takerIn;rw[show PySem.W.findIn K (.ref C) f=some none from n];rfl
structure Meth(K:PySem.W.Frag)(C:VD)(m:Str)(f:VD):Prop where
 at_:PySem.W.findIn K (.ref C) m=some (some (.ref f))
 fn:PySem.W.isFn K (.ref f)=true
 aG:PySem.W.keepIn K (.ref f)=true
section
variable{X:aD}{pins:List (VD×Obj)}{σ :St}{H:ae}{s:Vx}{a C a5:VD}{aT:List (Str×V)}{f:Str}{v:V}{A:V0}{E:Vw→Vx→Prop}
theorem IJ{b:Bool}{Q:Vw→Vx→Prop}(I:Inv X pins σ H s)(e:H a=some (.ins C a5 aT))(c:ia X.K C)(n:mA X.K C f)(l:aT.lookup f=some v)(h:∀u s',Inv X pins σ H s'→RelV v u→Q u s'):VL (VT X.prog X.w) A (getAttr (.ref a) f b) Q E s:=by obtain⟨dA,O,r,_,_,_⟩:=wF I.bw e;obtain⟨u,aN,eR⟩:=hI.some_of (v:=v) (o:=dA f) (by rw[←l];exact r f);exact get_map I.ej O (c.get f) c.hd n aN (IZ eR) (h u _ (I.tok _) eR)
theorem Ca{m:Str}{g:VD}{pl:Sem Bool}{Q:Vw×List Vw→Vx→Prop}(I:Inv X pins σ H s)(e:H a=some (.ins C a5 aT))(c:ia X.K C)(k:Meth X.K C m g)(l:aT.lookup m=none)(h:Q (.ref g,[.ref a]) s):VL (VT X.prog X.w) A (Z4 (.ref a) m pl) Q E s:=by obtain⟨dA,O,r,_,_,_⟩:=wF I.bw e;have aK:dA m=none:=hI.none_of (by rw[←l];exact r m);exact IH I.ej O (c.get m) k.at_ k.fn aK h
theorem PI{y:V}{u:Vw}{Q:Unit→Vx→Prop}(I:Inv X pins σ H s)(e:H a=some (.ins C a5 aT))(c:ia X.K C)(n:mA X.K C f)(ak:aT.length<1000)(bX:RelV y u)(h:∀s',Inv X pins σ (upd H a (.ins C a5 (gi f y aT))) s'→Q () s'):VL (VT X.prog X.w) A (setAttr (.ref a) f u) Q E s:=by
 obtain⟨dA,O,r,fQ,_,aB⟩:=wF I.bw e;have bG:(aT.map (·.1)).length≤VP:=by rw[Wq,Xr];omega
 refine PH I.ej O c.gR c.po n.QJ c.hd fQ bG fun h' pF fb=>h _ ?_;have hd:∃o,h'.get? a5=some o:=let⟨o,_,_,bN,_⟩:=pF.ns;⟨o,bN⟩
 refine I.write (x:=a) (e:=a5) (by rw[e];exact Xu) (.inr aB) (fun b q J z=>(fb.2 b J).trans z) hd ?_;refine⟨by rw[cY O.ne];exact aB,?_,O.ne,pF.obj,_,pF.ns,fun g=>?_,fun g aF=>?_⟩
 ·have:=Di f y aT;omega
 ·show hI ((gi f y aT).lookup g) (if g=f then some u else dA g);rw[Dm];by_cases q:g=f
  ·rw[if_pos q,if_pos q];exact bX
  ·rw[if_neg q,if_neg q];exact r g
 ·by_cases q:g=f
  ·rw[q];exact(wL f y aT).1
  ·refine(wL f y aT).2 g (fQ g fun z=>aF ?_);show(if g=f then some u else dA g)=none;rw[if_neg q];exact z
theorem Inv.made(I:Inv X pins σ H s):Inv X pins σ (upd (upd H s.heap.objs.size (.own (s.heap.objs.size+1))) (s.heap.objs.size+1) (.ins C s.heap.objs.size []))
  { s with heap:=(s.heap.push PySem.W.emptyDict).push (PySem.W.instObj C s.heap.objs.size) }:=by
 have ao:(s.heap.push PySem.W.emptyDict).get? s.heap.objs.size=some PySem.W.emptyDict:=VN s.heap rfl;have aA:((s.heap.push PySem.W.emptyDict).push (PySem.W.instObj C s.heap.objs.size)).get? (s.heap.objs.size+1)=some (PySem.W.instObj C s.heap.objs.size):=by
  have:=VN (s.heap.push PySem.W.emptyDict) (o:=PySem.W.instObj C s.heap.objs.size) rfl
  rwa [V_]at this
 have b9:(s.heap.push PySem.W.emptyDict).Ns s.heap.objs.size (fun _=>none):=⟨PySem.W.emptyDict,#[],_,ao,rfl,(fun e he=>absurd he (by simp)),fun _=>rfl⟩;have aW:=I.laid (a:=s.heap.objs.size) (o:=.own (s.heap.objs.size+1)) (h':=s.heap.push PySem.W.emptyDict) (t':=s.toks) (fun b u q=>Vy _ q) (VG _) ⟨_,ao⟩;refine aW.laid (a:=s.heap.objs.size+1) (o:=.ins C s.heap.objs.size []) (t':=s.toks) (fun b u q=>Vy _ q) (Nat.le_of_eq (V_ _ _)) ?_;have ne:s.heap.objs.size≠s.heap.objs.size+1:=VV (X9 _);refine⟨by rw[cY ne,dI],WK _,ne,aA,fun _=>none,(Heap.Ns1.of_empty b9).at fun o q=>Vy _ q,fun _=>Xu,fun y bO=>absurd rfl bO⟩
theorem Hb{prog:VR}{w:V9}{env:Env}{e:V3}{f:Str}{pos:Pos}{s:Vx}{Q:Vw→Vx→Prop}(J:Xj e f env (WW e env)=WW e env)(h:VL (VT prog w) A (WW e env) (fun o cH=>VL (VT prog w) A (getAttr o f true) Q E cH) E s):VL (VT prog w) A (WW (.Attribute e f pos) env) Q E s:=
 Attribute_any_ h (by rw[arm_eval_Attribute,J])
end
noncomputable def Ql(K:PySem.W.Frag)(cg:TE)(f:Str):TE:=fun σ H Q=>cg σ H fun x H1=>∃a C a5 aT v,x=.ref a∧H1 a=some (.ins C a5 aT)∧ia K C∧mA K C f∧aT.lookup f=some v∧Q v H1
noncomputable def O9(K:PySem.W.Frag)(cg k8:TE)(f:Str):et:=fun D σ H=>k8 σ H fun y H1=>cg σ H1 fun x aM=>∃a C a5 aT,x=.ref a∧aM a=some (.ins C a5 aT)∧ia K C∧mA K C f∧aT.length<1000∧
 D.bJ σ (upd aM a (.ins C a5 (gi f y aT)))
section
variable{X:aD}{o e value:V3}{f:Str}{pos pos' o7:Pos}{cg k8:TE}
theorem NU(he:a3 X e cg)(J:Xj e f X.env (WW e X.env)=WW e X.env):a3 X (.Attribute e f pos) (Ql X.K cg f):=by intro pins s σ H Q I h;refine Hb J (bA (he pins s σ H _ I h) fun u s1⟨x,H1,aW,bu,a,C,a5,aT,v,ex,ax,c,n,l,q⟩=>?_);subst ex;obtain rfl:u=V2 a:=bu;exact IJ aW ax c n l fun jQ s2 bT eR=>⟨v,H1,bT,eR,q⟩
theorem Ot(ah:a3 X o cg)(bS:a3 X value k8)(hs:Xp value (some (.Attribute o f pos')) pos.line X.env=pure false):c7 X (.Assign [.Attribute o f pos'] value pos) (O9 X.K cg k8 f):=by intro pins s σ H D I h;refine plainObj_wpAny_Assign_Attribute (bA (bS pins s σ H _ I h) fun u s1⟨y,H1,aW,bX,q⟩=>bA (ah pins s1 σ H1 _ aW q) fun gA s2⟨x,aM,bT,bu,a,C,a5,aT,ex,ax,c,n,l,a9⟩=>?_) hs;subst ex;obtain rfl:gA=V2 a:=bu;exact PI bT ax c n l bX fun s3 c6=>⟨σ,_,c6,a9⟩
theorem Tp {pl:Sem Bool} {m:Str} {apos:Pos} {args:List V3} {pins:List (VD×Obj)} {s:Vx} {σ :St} {H:ae} {Q:Vw→Vx→Prop} {cQ:TE} (he:a3 X e cQ) (I:Inv X pins σ H s)(h:cQ σ H fun x H1=>∃a C a5 aT g,x=.ref a∧H1 a=some (.ins C a5 aT)∧ia X.K C∧Meth X.K C m g∧aT.lookup m=none∧
    ∀s1,Inv X pins σ H1 s1→VL (VT X.prog X.w) X.A (callWith pos (.ref g) [.ref a] (Wu pos (VA args X.env)) (Yt pos (Xs [] X.env))) Q X.xe s1)
  (bH:WW (.Call (.Attribute e m apos) args [] pos) X.env=(do
    let gA ←WW e X.env
    standAt apos.atName
    let(f,first) ←aag [gA] (Z4 gA m pl)
    callWith pos f first (Wu pos (VA args X.env)) (Yt pos (Xs [] X.env)))) :
  VL (VT X.prog X.w) X.A (WW (.Call (.Attribute e m apos) args [] pos) X.env) Q X.xe s:=by
 refine PySem.W.methodCall_KW (pl:=pl) (bA (he pins s σ H _ I h) fun u s1⟨x,H1,aW,bu,a,C,a5,aT,g,ex,ax,c,k,l,q⟩=>?_) bH;subst ex;obtain rfl:u=V2 a:=bu;exact Ca aW ax c k l (q s1 aW)
end
section
variable{X:aD}{pins:List (VD×Obj)}{σ :St}{H:ae}{s:Vx}{A:V0}{E:Vw→Vx→Prop}{Q:Vw→Vx→Prop}{c:Vw}{b:Bool}
end
structure dg(k:Nat)(A:V0):Prop where
 hd:A.handled=none
 si:A.depth+3*k+5<recursionLimit
 un:A.units+16*k+200<XE
theorem dg.mono{j k:Nat}{A:V0}(r:dg k A)(h:j≤k):dg j A:=⟨r.hd,by have:=r.si;omega,by have:=r.un;omega⟩
theorem dg.deeper{k:Nat}{A:V0}(r:dg (k+1) A)(env:Env):dg k (A.deeper env):=
 ⟨r.hd,by have:=r.si;show A.depth+1+3*k+5<_;omega,by have:=r.un;show A.units+3+16*k+200<_;omega⟩
theorem Mn{A:V0}{C:VD}{us:List Vw}{kw:List (Str×Vw)}:(A.under (.builtin "type.__call__" ⟨.ref C::us,kw⟩)).depth=A.depth+1:=by
 first|rfl|simp[aan,Code.weight,Code.isCreation,Code.isGuard,Code.isCaller,Code.frames,aao,guardIds]
theorem Mp{A:V0}{C:VD}{us:List Vw}{kw:List (Str×Vw)}:(A.under (.builtin "type.__call__" ⟨.ref C::us,kw⟩)).units=A.units+1:=by
 first|rfl|simp[aan,Code.cUnits,Code.frames,aao]
theorem dg.make{k:Nat}{A:V0}(r:dg (k+1) A)(C:VD)(us:List Vw)(kw:List (Str×Vw)):dg k (A.under (.builtin "type.__call__" ⟨.ref C::us,kw⟩)):=
 ⟨r.hd,by have:=r.si;rw[Mn];omega,by have:=r.un;rw[Mp];omega⟩
theorem dg.depth{k:Nat}{A:V0}(r:dg k A):A.depth<recursionLimit:=by have:=r.si;omega
theorem dg.units{k:Nat}{A:V0}(r:dg k A):A.units+64<XE:=by have:=r.un;omega
def yL:eK:=fun _ H Q=>Q [] H
def t4(cg:TE)(ed:eK):eK:=fun σ H Q=>cg σ H fun x H1=>ed σ H1 fun xs aM=>Q (x::xs) aM
section
variable{X:aD}{e:V3}{es:List V3}{cQ:TE}{t:eK}{pos:Pos}
theorem l0:e6 X [] yL:=fun _ _ _ _ H Q I h=>Calls.spliced_nil ⟨[],H,I,.nil,h⟩
theorem jG(ah:a3 X e cQ)(aw:e6 X es t)(hs:VA (e::es) X.env=(false,WW e X.env)::VA es X.env:=by rfl):e6 X (e::es) (t4 cQ t):=by intro pos pins s σ H Q I h;rw[hs];show VL _ _ (spliced ((false,WW e X.env)::Wu pos (VA es X.env))) _ _ s;refine Calls.spliced_cons (bA (ah pins s σ H _ I h) fun u s1⟨x,H1,aW,au,aQ⟩=>?_);exact bA (aw pos pins s1 σ H1 _ aW aQ) fun us s2⟨xs,aM,bT,bl,a9⟩=>⟨x::xs,aM,bT,.cons au bl,a9⟩
noncomputable def FN(t:eK):TE:=fun σ H Q=>t σ H fun xs H1=>xs.length≤VP∧∀p,H1 p=none→Q (.ref p) (upd H1 p (.tup xs))
noncomputable def FD(t:eK):TE:=fun σ H Q=>t σ H fun xs H1=>xs.length≤VP∧∀p,H1 p=none→Q (.ref p) (upd H1 p (.lst xs))
theorem N5{eC}(h:e6 X es t):a3 X (.Tuple es eC pos) (FN t):=by intro pins s σ H Q I aS;refine wpAny_Tuple_spliced (bA (h pos pins s σ H _ I aS) fun us s1⟨xs,H1,aW,r,z,q⟩=>⟨by rw[←r.length];exact z,?_⟩);have hf:H1 s1.heap.objs.size=none:=aW.bw.fresh (VG _);refine⟨.ref s1.heap.objs.size,upd H1 s1.heap.objs.size (.tup xs),aW.laid (t':=s1.toks) (fun b u e=>Vy _ e) (VG _) ?_,rfl,q _ hf⟩;exact⟨z,us,r,⟨_,VN _ rfl,rfl,_,rfl⟩⟩
theorem NY(h:e6 X es t):a3 X (.List es pos) (FD t):=by intro pins s σ H Q I aS;refine wpAny_List_spliced (bA (h pos pins s σ H _ I aS) fun us s1⟨xs,H1,aW,r,z,q⟩=>⟨by rw[←r.length];exact z,?_⟩);have hf:H1 s1.heap.objs.size=none:=aW.bw.fresh (VG _);refine⟨.ref s1.heap.objs.size,upd H1 s1.heap.objs.size (.lst xs),aW.laid (t':=s1.toks) (fun b u e=>Vy _ e) (VG _) ?_,rfl,q _ hf⟩;exact⟨z,us,0,r,VN _ rfl⟩
end
abbrev hj:=List V→ae→cD→cj→Prop
abbrev hZ:=List Env→ae→Vx→cj→Vw→Vx→Prop
structure mr(P:VR)(w:V9)(K:PySem.W.Frag)(mg:Str→Option Vw)(base:Wv)(A:V0)(outer:List Env)(s:Vx)(H:ae):Prop where
 frames:A.frames=some outer
 mod:Mod K mg base
 bs:∀b o,base.get? b=some o→s.heap.get? b=some o∧H b=none
 kz:base.objs.size≤s.heap.objs.size
 gI:s.heap.FunFrames base outer
 lH:∀b∈cZ outer,H b=none
 bw:dJ P w H s.heap
 bare:Yw s.gens
noncomputable def uL(outer:List Env)(P:VR)(w:V9)(H:ae)(s:Vx)(Q:cD)(u:Vw)(s':Vx):Prop:=
 ∃v H',s'.os=s.os∧Yw s'.gens∧d2 (cZ outer) [] H H' s.heap s'.heap∧dJ P w H' s'.heap∧RelV v u∧Q v H'
noncomputable def GC(CX:hZ)(outer:List Env)(P:VR)(w:V9)(H:ae)(s:Vx)(Q:cD)(E:cj)(r:Result)(s':Vx):Prop:=
 match r with
 |.ok (.ret u)=>uL outer P w H s Q u s'
 |.ok _=>False
 |.error e=>CX outer H s E e s'
structure gs(P:VR)(w:V9)(K:PySem.W.Frag)(mg:Str→Option Vw)(base:Wv)(CX:hZ)(k:Nat)(f:VD)(fd:WM)(aP:List Str)(sp:hj):Prop where
 len:∀vs H Q E,sp vs H Q E→vs.length=aP.length
 run:∀(A:V0)(outer:List Env)(s:Vx)(H:ae)(args:Args)(us:List Vw)(vs:List V)(Q:cD)(E:cj),dg k A→mr P w K mg base A outer s H→BindsTo s fd args (aP.zip us)→Vals vs us→sp vs H Q E→
  X8 (VT P w) A (.call (.ref f) args) (GC CX outer P w H s Q E) s
theorem mr.make{P:VR}{w:V9}{K:PySem.W.Frag}{mg:Str→Option Vw}{base:Wv}{A:V0}{outer:List Env}{s:Vx}{H:ae}(e:mr P w K mg base A outer s H)(C:VD)(us:List Vw)(kw:List (Str×Vw)) :
  mr P w K mg base (A.under (.builtin "type.__call__" ⟨.ref C::us,kw⟩)) outer s H:=⟨by first|exact e.frames|(simpa[aan,Code.envs,aao,pushEnvs]using e.frames),e.mod,e.bs,e.kz,e.gI,e.lH,e.bw,e.bare⟩
section
variable{X:aD}{pins:List (VD×Obj)}{σ :St}{H:ae}{s s':Vx}
theorem Inv.vA(I:Inv X pins σ H s):mr X.prog X.w X.K X.mg X.base X.A X.stack s H:=
 ⟨I.ok.frames,I.ok.mod,I.bs,V7 I.ok.kz I.tY,I.stack,I.yD,I.bw,I.bare⟩
theorem Inv.after{Q:cD}{u:Vw}(I:Inv X pins σ H s)(h:uL X.stack X.prog X.w H s Q u s'):eS X pins σ Q u s':=by obtain⟨v,H',os,bare,un,bw,r,q⟩:=h;obtain⟨bF,g,d,t,xl⟩:=s';obtain rfl:xl=s.os:=os;exact⟨v,H',I.call (h':=bF) (g':=g) (d':=d) (t':=t) (ch:=[]) un bw bare (fun b z=>absurd z (by simp)),r,q⟩
end
def o4(sp:hj)(gb:List V)(E:cj)(t:eK):TE:=fun σ H Q=>t σ H fun vs H1=>sp (vs++gb) H1 Q E
noncomputable def FE(C:VD)(m:Str)(sp:hj)(gb:List V)(E:cj)(cg:TE)(t:eK):TE:=fun σ H Q=>cg σ H fun x H1=>∃a a5 aT,x=.ref a∧H1 a=some (.ins C a5 aT)∧aT.lookup m=none∧
 t σ H1 fun vs aM=>sp (x::(vs++gb)) aM Q E
noncomputable def yK(C:VD)(sp:hj)(gb:List V)(E:cj)(t:eK):TE:=fun σ H Q=>t σ H fun vs H1=>∀x a5,H1 x=none→H1 a5=none→a5≠x→
 sp (.ref x::(vs++gb)) (upd (upd H1 a5 (.own x)) x (.ins C a5 [])) (fun v aM=>v=.non∧Q (.ref x) aM) E
noncomputable def Binds(K:PySem.W.Frag)(fd:WM)(aP:List Str)(ds:List Vw):Prop:=
 ∀(s:Vx)(us:List Vw),K.In s.heap→(us++ds).length=aP.length→BindsTo s fd ⟨us,[]⟩ (aP.zip (us++ds))
theorem Binds.all{K:PySem.W.Frag}{fd:WM}{aP:List Str}(h:∀us:List Vw,us.length=aP.length→Z5 fd ⟨us,[]⟩=pure (aP.zip us)):Binds K fd aP []:=fun s us _ ak=>by rw[WD]at ak ⊢;exact .of_eq (h us ak)
noncomputable def Passes(CX:hZ)(X:aD)(E:cj):Prop:=∀(pins:List (VD×Obj))(σ :St)(H:ae)(s:Vx)(e:Vw)(s':Vx),Inv X pins σ H s→CX X.stack H s E e s'→X.xe e s'
section
variable{X:aD}{CX:hZ}{k:Nat}{f C:VD}{fd:WM}{aP:List Str}{sp:hj}{gb:List V}{ds:List Vw}{E:cj}{x m:Str}{p pos apos:Pos}{e o:V3}{es:List V3}{cg:TE}{t:eK}
theorem xN{pins:List (VD×Obj)}{σ :St}{H:ae}{s:Vx}{Q:cD}{us:List Vw}{vs:List V}(F:gs X.prog X.w X.K X.mg X.base CX k f fd aP sp)(aw:dg k X.A)(J:Binds X.K fd aP ds)(hd:Vals gb ds)(av:Passes CX X E)(I:Inv X pins σ H s)(r:Vals vs us)(h:sp (vs++gb) H Q E):VL (VT X.prog X.w) X.A (call (.ref f) us) (eS X pins σ Q) X.xe s:=by
 have bl:Vals (vs++gb) (us++ds):=r.append hd;have ak:(us++ds).length=aP.length:=by rw[←bl.length];exact F.len _ _ _ _ h
 refine YE (XH (F.run X.A X.stack s H ⟨us,[]⟩ (us++ds) (vs++gb) Q E aw I.vA (J s us I.ej ak) bl h) fun r s' aS=>?_);cases r with
 |error e=>exact av pins σ H s e s' I aS
 |ok fl=>
  cases fl with
  |ret u=>exact I.after aS
  |next=>exact WG aS
  |brk=>exact WG aS
  |cont=>exact WG aS
theorem tG(F:gs X.prog X.w X.K X.mg X.base CX k f fd aP sp)(aw:dg k X.A)(aF:da X x)(hm:X.mg x=some (.ref f))(aH:PySem.W.keepIn X.K (.ref f)=true)(J:Binds X.K fd aP ds)(hd:Vals gb ds)(av:Passes CX X E)(ah:e6 X (e::es) t)(e2:(x==("__debug__" :Str))=false:=by decide)(he:VA (e::es) X.env=(false,WW e X.env)::VA es X.env:=by rfl)(cI:(Wu pos (VA es X.env)).any (·.1)=false:=by rfl) :
  a3 X (.Call (.Name x p) (e::es) [] pos) (o4 sp gb E t):=by
 intro pins s σ H Q I h;refine W5 (ov I aF hm ?_ e2);refine PySem.W.callWith_K (h₀:=X.base) I.ok.mod.kd aH (bA (ah pos pins s σ H _ I h) fun us s1⟨vs,H1,aW,r,q⟩=>⟨aW.ej,?_⟩) he cI;exact xN F aw J hd av aW r q
theorem NZ {pl:Sem Bool} (he:a3 X o cg) (c:ia X.K C) (hm:Meth X.K C m f) (F:gs X.prog X.w X.K X.mg X.base CX k f fd aP sp) (aw:dg k X.A) (J:Binds X.K fd aP ds) (hd:Vals gb ds) (av:Passes CX X E) (ah:e6 X (e::es) t)(dF:VA (e::es) X.env=(false,WW e X.env)::VA es X.env:=by rfl) (cI:(Wu pos (VA es X.env)).any (·.1)=false:=by rfl)(bH:WW (.Call (.Attribute o m apos) (e::es) [] pos) X.env=(do
    let gA ←WW o X.env
    standAt apos.atName
    let(f,first) ←aag [gA] (Z4 gA m pl)
    callWith pos f first (Wu pos (VA (e::es) X.env)) (Yt pos (Xs [] X.env))):=by rfl) :
  a3 X (.Call (.Attribute o m apos) (e::es) [] pos) (FE C m sp gb E cg t):=by
 intro pins s σ H Q I h;refine PySem.W.methodCall_KW (pl:=pl) (bA (he pins s σ H _ I h) fun u s1⟨x,H1,aW,bu,a,a5,aT,ex,ax,l,q⟩=>?_) bH;subst ex;obtain rfl:u=V2 a:=bu;refine Ca aW ax c hm l ?_;refine PySem.W.callWith_K (first:=[.ref a]) (h₀:=X.base) I.ok.mod.kd hm.aG (bA (ah pos pins s1 σ H1 _ aW q) fun us s2⟨vs,aM,bT,r,a9⟩=>⟨bT.ej,?_⟩) dF cI;exact xN (us:=.ref a::us) (vs:=.ref a::vs) F aw J hd av bT (.cons rfl r) a9
structure rS(K:PySem.W.Frag)(C f:VD):Prop where
 makes:PySem.W.makesIn K C=true
 init:PySem.W.findIn K (.ref C) "__init__"=some (some (.ref f))
 fn:PySem.W.isFn K (.ref f)=true
 aG:PySem.W.keepIn K (.ref C)=true
theorem O1{pins:List (VD×Obj)}{σ :St}{H:ae}{s:Vx}{Q:cD}{us:List Vw}{vs:List V}(M:rS X.K C f)(F:gs X.prog X.w X.K X.mg X.base CX k f fd aP sp)(aw:dg (k+1) X.A)(J:Binds X.K fd aP ds)(hd:Vals gb ds)(av:Passes CX X E)(I:Inv X pins σ H s)(r:Vals vs us)(h:∀x a5,H x=none→H a5=none→a5≠x→sp (.ref x::(vs++gb)) (upd (upd H a5 (.own x)) x (.ins C a5 [])) (fun v aM=>v=.non∧Q (.ref x) aM) E) :
  VL (VT X.prog X.w) X.A (call (.ref C) us) (eS X pins σ Q) X.xe s:=by
 have aS:=h (s.heap.objs.size+1) s.heap.objs.size (I.bw.fresh (Nat.le_succ _)) (I.bw.fresh (VG _)) (VV (X9 _));have bT:=Inv.made (C:=C) I;have bl:Vals (V.ref (s.heap.objs.size+1)::(vs++gb)) (V2 (s.heap.objs.size+1)::(us++ds)):=.cons rfl (r.append hd);have ak:(V2 (s.heap.objs.size+1)::us++ds).length=aP.length:=by have e:=bl.length;rw[F.len _ _ _ _ aS]at e;exact e.symm
 refine YE (Mo (f:=f) I.ej M.makes M.init (beq_iff_eq.mp M.fn) (XH (F.run _ X.stack _ _ ⟨V2 (s.heap.objs.size+1)::us,[]⟩ (V2 (s.heap.objs.size+1)::(us++ds)) _ _ E (aw.make C us [])
  (bT.vA.make C us []) (J _ (V2 (s.heap.objs.size+1)::us) bT.ej ak) bl aS) fun r s' lK=>?_))
 cases r with
 |error e=>exact av pins σ _ _ e s' bT lK
 |ok fl=>
  cases fl with
  |ret u=>obtain⟨v,H',c6,b_,ev,c5⟩:=bT.after lK;subst ev;exact⟨b_,⟨V.ref (s.heap.objs.size+1),H',c6,rfl,c5⟩⟩
  |next=>exact WG lK
  |brk=>exact WG lK
  |cont=>exact WG lK
theorem Em(M:rS X.K C f)(F:gs X.prog X.w X.K X.mg X.base CX k f fd aP sp)(aw:dg (k+1) X.A)(aF:da X x)(hm:X.mg x=some (.ref C))(J:Binds X.K fd aP ds)(hd:Vals gb ds)(av:Passes CX X E)(ah:e6 X (e::es) t)(e2:(x==("__debug__" :Str))=false:=by decide)(he:VA (e::es) X.env=(false,WW e X.env)::VA es X.env:=by rfl)(cI:(Wu pos (VA es X.env)).any (·.1)=false:=by rfl) :
  a3 X (.Call (.Name x p) (e::es) [] pos) (yK C sp gb E t):=by
 intro pins s σ H Q I h;refine W5 (ov I aF hm ?_ e2);refine PySem.W.callWith_K (h₀:=X.base) I.ok.mod.kd M.aG (bA (ah pos pins s σ H _ I h) fun us s1⟨vs,H1,aW,r,q⟩=>⟨aW.ej,?_⟩) he cI;exact O1 M F aw J hd av aW r q
end
section
variable{X:aD}{CX:hZ}{k:Nat}{f C:VD}{fd:WM}{aP aI:List Str}{sp:hj}{E:cj}{x m:Str}{p pos apos S_:Pos}{e o:V3}{es:List V3}{Ta:List Yy}{cQ cg:TE}{t cK:eK}{nm:Option Str}
variable{g:List Vw→List Vw→List Vw}{SM:List V→List V→List V}
end
structure c1(N P:List Str)(sc:WX):Prop where
 kind:sc.kind=.function
 co:sc.isCoroutine=false
 gen:sc.isGenerator=false
 cn:N.Nodup
 pre:N.take P.length=P
 par:∀x∈P,sc.names.lookup x=some .local∨sc.names.lookup x=some .cell
 MY:∀y∈sc.names,y.2≠.free
theorem AG{YF:Str→Option XB}{x:Str}:∀{binds:List (Str×Vw)}{m:Str→Option Vw},(∀v,(x,v)∉binds)→bindL YF binds m x=m x
 |[],_,_=>rfl
 |(n,v)::r,m,h=>by
  unfold bindL;rw[AG fun w hw=>h w (VC _ hw)]
  split
  ·have:x≠n:=by rintro rfl;exact h v V5
   simp[this]
  ·rfl
theorem AE{YF:Str→Option XB}{x:Str}:∀{binds:List (Str×Vw)}{m:Str→Option Vw},(∀v,(x,v)∉binds)→bindC YF binds m x=m x
 |[],_,_=>rfl
 |(n,v)::r,m,h=>by
  unfold bindC;rw[AE fun w hw=>h w (VC _ hw)]
  split
  ·rfl
  ·have:x≠n:=by rintro rfl;exact h v V5
   simp[this]
theorem AF{YF:Str→Option XB}{x:Str}{v:Vw}:∀{P:List Str}{vs:List Vw}{i:Nat}{m:Str→Option Vw},P.Nodup→P[i]?=some x→vs[i]?=some v→YF x=some .local→
  bindL YF (P.zip vs) m x=some v
 |[],_,_,_,_,h,_,_=>by simp at h
 |_::_,[],_,_,_,_,h,_=>by simp at h
 |p::P,w::vs,0,m,cn,h1,h2,aH=>by simp at h1 h2;subst h1;subst h2;show bindL YF ((p,w)::P.zip vs) m p=_;unfold bindL;rw[AG fun v bS=>(List.nodup_cons.mp cn).1 (Y8 bS).1,if_pos aH];simp
 |p::P,w::vs,i+1,m,cn,h1,h2,aH=>by show bindL YF ((p,w)::P.zip vs) m x=_;unfold bindL;exact AF (i:=i) (List.nodup_cons.mp cn).2 (by simpa using h1) (by simpa using h2) aH
theorem AD{YF:Str→Option XB}{x:Str}{v:Vw}:∀{P:List Str}{vs:List Vw}{i:Nat}{m:Str→Option Vw},P.Nodup→P[i]?=some x→vs[i]?=some v→YF x≠some .local→
  bindC YF (P.zip vs) m x=some v
 |[],_,_,_,_,h,_,_=>by simp at h
 |_::_,[],_,_,_,_,h,_=>by simp at h
 |p::P,w::vs,0,m,cn,h1,h2,aH=>by simp at h1 h2;subst h1;subst h2;show bindC YF ((p,w)::P.zip vs) m p=_;unfold bindC;rw[AE fun v bS=>(List.nodup_cons.mp cn).1 (Y8 bS).1,if_neg aH];simp
 |p::P,w::vs,i+1,m,cn,h1,h2,aH=>by show bindC YF ((p,w)::P.zip vs) m x=_;unfold bindC;exact AD (i:=i) (List.nodup_cons.mp cn).2 (by simpa using h1) (by simpa using h2) aH
def start(N:List Str)(vs:List V):St:=vs.map some++VY (N.length-vs.length) none
noncomputable def d4(CX:hZ)(P:VR)(w:V9)(K:PySem.W.Frag)(mg:Str→Option Vw)(base:Wv)(N:List Str)(qual:Str)(scope:WX)(f:VD)(cd:Vw)(A:V0)(outer:List Env)(s:Vx)(H:ae)(E:cj):aD where
 prog:=P
 w:=w
 K:=K
 mg:=mg
 base:=base
 A:=A.deeper (aap qual scope s.heap.objs.size f cd)
 N:=N
 dP:=s
 iS:=H
 env:=aap qual scope s.heap.objs.size f cd
 outer:=outer
 stack:=aap qual scope s.heap.objs.size f cd::outer
 ex:=[]
 calm:=true
 fn:=fun _=>true
 l1:=[]
 xe:=fun e s'=>VL (VT P w) (A.deeper (aap qual scope s.heap.objs.size f cd)) (aah (aap qual scope s.heap.objs.size f cd) e) (fun _ eo=>CX outer H s E e eo) (fun bN eo=>CX outer H s E bN eo) s'
theorem r_{sc:WX}{n:Nat}{x:Str}(h:sc.names.lookup x=some .cell):∃c,(Wc n sc.names []).lookup x=some c:=by have q:=PySem.W.cellsFrom_some sc.names n [] (.inl h);exact Option.isSome_iff_exists.mp q
theorem KH{CX:hZ}{P:VR}{w:V9}{K:PySem.W.Frag}{mg:Str→Option Vw}{base:Wv}{N aP:List Str}{qual:Str}{scope:WX}{f:VD}{cd:Vw}{A:V0}{outer:List Env}{s s1:Vx}{H:ae}{E:cj}{us:List Vw}{vs:List V}(S:c1 N aP scope)(hd:A.handled=none)(fz:mr P w K mg base A outer s H)(ak:vs.length=aP.length)(r:Vals vs us)(x:InCallC s s.heap.objs.size (bindL (aap qual scope s.heap.objs.size f cd).kindOf (aP.zip us) fun _=>none) (Wc (s.heap.objs.size+1) scope.names []) (bindC (aap qual scope s.heap.objs.size f cd).kindOf (aP.zip us) fun _=>none) s1) :
  Inv (d4 CX P w K mg base N qual scope f cd A outer s H E) [] (start N vs) H s1:=by
 have cI:aP.length≤N.length:=by have:=congrArg List.length S.pre;rw[WR]at this;omega
 obtain⟨h1,cK,rfl,aH⟩:=x.done;have q9:∀b:VD,b∉(d4 CX P w K mg base N qual scope f cd A outer s H E).ex:=fun b z=>absurd (show b∈([]:List VD)from z) (by simp)
 refine⟨⟨fz.mod,S.kind,rfl,rfl,VG _,fun y z c h1 h2=>?_,fun y bO=>?_,fun y c _ h=>?_,fun _=>hd,Around.frames_deeper fz.frames,.inr ⟨rfl,rfl⟩,fun b z=>absurd z (q9 b),fz.bs,fz.kz,fun b _ _=>q9 b,fun b z=>absurd z (q9 b),fz.gI,fz.lH⟩,
  rfl,fz.bare,d2.kept aH,⟨_,x.toInCall.ns,fun i y v h1 h2 h3=>?_⟩,fun y c h=>⟨_,x.cell y c h⟩,fz.bw.fresh (VG _),fun y c h=>?_,fun p bf=>absurd (show p∈([]:List (VD×Obj))from bf) (by simp),fz.bw.kept aH,?_⟩
 ·exact name_of_addr x.apart (PySem.mem_of_lookup h1) (PySem.mem_of_lookup h2)
 ·have bO:scope.names.lookup y=some .cell∨scope.names.lookup y=some .free:=bO;rcases bO with bO|bO
  ·exact r_ bO
  ·exact absurd rfl (S.MY _ (PySem.mem_of_lookup bO))
 ·exact X4 (x.above y c (PySem.mem_of_lookup h))
 ·have af:i<vs.length:=by
    unfold start at h2;by_cases af:i<vs.length
    ·exact af
    ·rw[VI (by simpa using af)]at h2;rw[Wj]at h2
     split at h2<;>cases h2
  have ah:vs[i]?=some v:=by
   unfold start at h2;rw[VO (by simpa using af),VW]at h2;cases e:vs[i]? with
   |none=>rw[e]at h2;cases h2
   |some a=>rw[e]at h2;cases h2;rfl
  obtain⟨u,aN,b_⟩:=r.get ah;have bf:aP[i]?=some y:=by rw[←S.pre,XI (by omega)];exact h1
  have DZ:aP.Nodup:=by rw[←S.pre];exact S.cn.sublist (List.take_sublist _ _)
  refine⟨u,b_,?_⟩;rcases S.par y (VX bf)with k|k
  ·exact .inl ⟨k,AF DZ bf aN k⟩
  ·obtain⟨c,e⟩:=r_ (n:=s.heap.objs.size+1) k;refine .inr ⟨.inl k,c,e,?_⟩;have q:=x.cell y c e;rw[AD DZ bf aN (by show scope.names.lookup y≠_;rw[k];decide)]at q;exact q
 ·exact fz.bw.fresh (X4 (x.above y c (PySem.mem_of_lookup h)))
 ·unfold start;show _=N.length;rw[Wx,Wq,WQ];omega
theorem vN {CX:hZ} {P:VR} {w:V9} {K:PySem.W.Frag} {mg:Str→Option Vw} {base:Wv} {k:Nat} {f:VD} {name qual:Str} {params:Arguments} {body:List WO} {scope:WX} {se cB doc pm b6 cv eu:Vw} {an dh:Option VD}{jd:Array (Option Vw)} {N aP:List Str} {sp:hj} (lk:K.lookup f=some ⟨eu,dh,.func (PySem.W.fnOf name qual params body scope se cB doc pm an b6 cv),jd⟩) (ei:PySem.W.codeIn K b6 qual=true) (S:c1 N aP scope)(len:∀vs H Q E,sp vs H Q E→vs.length=aP.length)(v_:∀(A:V0)(outer:List Env)(s:Vx)(H:ae)(vs:List V)(Q:cD)(E:cj),dg k (A.deeper (aap qual scope s.heap.objs.size f b6))→sp vs H Q E→
    ∃t,fv (d4 CX P w K mg base N qual scope f b6 A outer s H E) body t∧t { bJ:=fun _ H'=>Q .non H',eA:=Q } (start N vs) H) :
  gs P w K mg base CX (k+1) f (PySem.W.fnOf name qual params body scope se cB doc pm an b6 cv) aP sp:=by
 refine⟨len,fun A outer s H args us vs Q E aw fz J r lL=>?_⟩;have ak:=len _ _ _ _ lL;have js:K.In s.heap:=fz.mod.kd.keeps fun b o e=>(fz.bs b o e).1;have lim:s.heap.NoLimit:=fz.mod.nolimit.keeps fun b o e=>(fz.bs b o e).1;have Jl:∀y∈aP.zip us,scope.names.lookup y.1=some .local∨(scope.names.lookup y.1=some .cell∧((Wc (s.heap.objs.size+1) scope.names []).lookup y.1).isSome=true):=fun⟨n,v⟩ bO=>by
  rcases S.par n (Y8 bO).1 with q|q
  ·exact .inl q
  ·exact .inr ⟨q,PySem.W.cellsFrom_some _ _ _ (.inl q)⟩
 refine codeAny_call_function aw.depth (js _ _ lk) rfl S.co S.gen rfl (PySem.W.codeRec_of js ei) (J _ _ _ _ ?_);refine wpAny_newFunctionEnv_cells S.kind Jl fun env he s1 x=>?_;subst he;refine⟨lim.keeps x.toInCall.keep,codeAny_func ?_⟩;obtain⟨t,bH,aS⟩:=v_ A outer s H vs Q E (aw.deeper _) lL;have I:Inv (d4 CX P w K mg base N qual scope f b6 A outer s H E) [] (start N vs) H s1:=KH S aw.hd fz ak r x;refine V1 (bH [] s1 (start N vs) H _ I aS) (fun fl s' hs=>?_) fun e s' hs=>hs;have fin:∀{σ' :St}{H':ae}{v:V}{u:Vw},Inv (d4 CX P w K mg base N qual scope f b6 A outer s H E) [] σ' H' s'→RelV v u→Q v H'→uL outer P w H s Q u s':=
  fun{σ' H' v u} br b_ q=>⟨v,H',br.os,br.bare,br.base,br.bw,b_,q⟩
 cases fl with
 |ret u=>obtain⟨v,σ',H',br,b_,q⟩:=hs;exact fin br b_ q
 |next=>obtain⟨σ',H',br,q⟩:=hs;exact fin (v:=V.non) (u:=Wr) br rfl q
 |brk=>obtain⟨_,_,_,q⟩:=hs;exact WG q
 |cont=>obtain⟨_,_,_,q⟩:=hs;exact WG q
section
variable{X:aD}{x:Str}{p pos:Pos}{e:V3}{es:List V3}{t:eK}{id T:String}{r:List V→ae→cD→Prop}
def rt(r:List V→ae→cD→Prop)(t:eK):TE:=fun σ H Q=>t σ H fun vs H1=>r vs H1 Q
theorem rd(aq:h_ X (.builtin id) r)(aF:da X x)(hm:X.mg x=none)(bS:WH x=some (.builtin id))(ah:e6 X (e::es) t)(aK:x≠"__name__":=by decide)(e2:(x==("__debug__" :Str))=false:=by decide)(he:VA (e::es) X.env=(false,WW e X.env)::VA es X.env:=by rfl)(cI:(Wu pos (VA es X.env)).any (·.1)=false:=by rfl):a3 X (.Call (.Name x p) (e::es) [] pos) (rt r t):=by intro pins s σ H Q I h;refine W5 (qN I aF hm bS ?_ aK e2);exact PyProof.Rows.callWith_builtin1 (bA (ah pos pins s σ H _ I h) fun us s1⟨vs,H1,aW,au,aQ⟩=>aq pins s1 σ H1 vs us Q aW au aQ) he cI
theorem xo(aq:h_ X (.type T) r)(aF:da X x)(hm:X.mg x=none)(bS:WH x=some (.type T))(ah:e6 X (e::es) t)(aK:x≠"__name__":=by decide)(e2:(x==("__debug__" :Str))=false:=by decide)(he:VA (e::es) X.env=(false,WW e X.env)::VA es X.env:=by rfl)(cI:(Wu pos (VA es X.env)).any (·.1)=false:=by rfl):a3 X (.Call (.Name x p) (e::es) [] pos) (rt r t):=by intro pins s σ H Q I h;refine W5 (qN I aF hm bS ?_ aK e2);exact Xq (bA (ah pos pins s σ H _ I h) fun us s1⟨vs,H1,aW,au,aQ⟩=>aq pins s1 σ H1 vs us Q aW au aQ) he cI
end
end aY
namespace d0
open PySem PyProof.Rows
section
open PySem.SeqAt
open PySem.AutoSeq1 (wpAny_loadPart')
open PySem.MeetsSeq PySem.MeetsSeq2 PySem.MeetsSeq3
end
section
variable{prog:VR}{w:V9}{A:V0}{E:Vw→Vx→Prop}{s:Vx}
def ep(n d:Nat):Option Int→Nat
 |none=>d
 |some v=>if v<0 then(v+(n:Int)).toNat else min v.toNat n
theorem Pa(n d:Nat):ep n d none=d:=rfl
theorem O_(n d k:Nat):ep n d (some (k:Int))=min k n:=by show(if(k:Int)<0 then((k:Int)+(n:Int)).toNat else min (k:Int).toNat n)=min k n;rw[if_neg (by omega),Xc]
theorem EU(n d:Nat)(hd:d≤n)(o:Option Int):ep n d o≤n:=by
 cases o with
 |none=>exact hd
 |some v=>
  show(if v<0 then(v+(n:Int)).toNat else min v.toNat n)≤n;by_cases bS:v<0
  ·rw[if_pos bS];omega
  ·rw[if_neg bS];exact Nat.min_le_right _ _
end
end d0
namespace aY
open PySem PySem.Spec PyProof.Rows
abbrev bL:=St→ae→(Option Int→ae→Prop)→Prop
noncomputable def pH(X:aD)(e:Option V3)(t:bL):Prop:=
 ∀(pins:List (VD×Obj))(s:Vx)(σ :St)(H:ae)(Q:Option Int→ae→Prop),Inv X pins σ H s→t σ H Q→
  VL (VT X.prog X.w) X.A (evalPart e X.env) (fun u s'=>∃o H',Inv X pins σ H' s'∧IsPart u o∧Q o H') X.xe s
def Qm:bL:=fun _ H Q=>Q none H
def Qn(t:TE):bL:=fun σ H Q=>t σ H fun x H1=>∃i,x=.int i∧Q (some i) H1
section
variable{X:aD}{e:V3}{cQ:TE}{lo af:Option V3}{fO t7:bL}{pos bZ:Pos}
theorem Od:pH X none Qm:=by intro pins s σ H Q I h;rw[evalPart_none];exact VB ⟨none,H,I,.none,h⟩
theorem Oe(h:a3 X e cQ):pH X (some e) (Qn cQ):=by intro pins s σ H Q I hw;rw[evalPart_some];refine bA (h pins s σ H _ I hw) fun u s1⟨x,H1,aW,au,aQ⟩=>?_;obtain⟨i,rfl,q⟩:=aQ;obtain⟨t,rfl⟩:=au;exact⟨some i,H1,aW,.int i t,q⟩
noncomputable def mC(X:aD)(r:V→Option Int→Option Int→ae→cD→Prop):Prop:=
 ∀(pins:List (VD×Obj))(s:Vx)(σ :St)(H:ae)(x:V)(v ji jj:Vw)(lo af:Option Int)(cb:VD)(Q:cD),Inv X pins σ H s→RelV x v→s.heap.IsSliceOf cb ji jj .none→IsPart ji lo→IsPart jj af→r x lo af H Q→
  ∃T id,typeLookup (.type T) "__getitem__"=pure (some (.builtin id))∧s.TypeIs v T∧VL (VT X.prog X.w) X.A (aai v (.ref cb)) (eS X pins σ Q) X.xe s
theorem mC.or{r bq:V→Option Int→Option Int→ae→cD→Prop}(h:mC X r)(h':mC X bq):mC X (fun x lo af H Q=>r x lo af H Q∨bq x lo af H Q):=by
 intro pins s σ H x v ji jj lo af cb Q I bu hs pl pu q;rcases q with q|q
 ·exact h pins s σ H x v ji jj lo af cb Q I bu hs pl pu q
 ·exact h' pins s σ H x v ji jj lo af cb Q I bu hs pl pu q
noncomputable def FL(r:V→Option Int→Option Int→ae→cD→Prop)(cQ:TE)(fO t7:bL):TE:=fun σ H Q=>cQ σ H fun x H1=>fO σ H1 fun l aM=>t7 σ aM fun u cy=>r x l u cy Q
theorem N4{r:V→Option Int→Option Int→ae→cD→Prop}(aw:mC X r)(he:a3 X e cQ)(ak:pH X lo fO)(aN:pH X af t7):a3 X (.Subscript e (.Slice lo af none bZ) pos) (FL r cQ fO t7):=by intro pins s σ H Q I h;refine Subscript_ (bA (he pins s σ H _ I h) fun v s1⟨x,H1,aW,au,aQ⟩=>?_);refine wpAny_Slice (bA (ak pins s1 σ H1 _ aW aQ) fun ji s2⟨l,aM,bT,pl,a9⟩=>bA (aN pins s2 σ aM _ bT a9) fun jj s3⟨u,cy,c6,pu,c5⟩=>?_);rw[evalPart_none];refine VB ?_;have hc:Inv X pins σ cy { s3 with heap:=s3.heap.push { cls:=.type "slice",data:=.fields #[ji,jj,.none] } }:=c6.kept (t':=s3.toks) fun b bg q=>Vy _ q;obtain⟨T,id,gf,bH,aF⟩:=aw pins { s3 with heap:=s3.heap.push { cls:=.type "slice",data:=.fields #[ji,jj,.none] } } σ cy x v ji jj l u s3.heap.objs.size Q hc au (Heap.IsSliceOf.new ..) pl pu c5;show VL (VT X.prog X.w) X.A (subscriptTail e (.Slice lo af none bZ) v (.ref s3.heap.objs.size)) (eS X pins σ Q) X.xe { s3 with heap:=s3.heap.push { cls:=.type "slice",data:=.fields #[ji,jj,.none] } };exact tail_any (ops:=[.ref s3.heap.objs.size,v]) bH gf aF (by with_unfolding_all rfl)
noncomputable def n2(xs:List V)(lo af:Option Int):List V:=(xs.drop (d0.ep xs.length 0 lo)).take (d0.ep xs.length xs.length af-d0.ep xs.length 0 lo)
theorem HE(xs:List V)(lo af:Option Int):(n2 xs lo af).length≤xs.length:=by unfold n2;rw[WR,YW];omega
end
noncomputable def lP(n:Nat)(i:Int):Option Nat:=if 0≤i then(if i<n then some i.toNat else none)else if-(n:Int)≤i then some (i+n).toNat else none
def gE{α:Type}(xs:List α)(i:Int):Option α:=(lP xs.length i).bind fun j=>xs[j]?
theorem KV{n:Nat}{i:Int}{j:Nat}(h:lP n i=some j):Z6 i n=some j∧j<n∧-(n:Int)≤i∧i<n:=by
 unfold lP at h;by_cases h0:0≤i
 ·rw[if_pos h0]at h;by_cases h1:i<n
  ·rw[if_pos h1]at h;have e:i.toNat=j:=VM h;exact⟨by rw[seqIndex_of h0 h1,e],by omega,by omega,h1⟩
  ·rw[if_neg h1]at h;cases h
 ·rw[if_neg h0]at h;by_cases h1: -(n:Int)≤i
  ·rw[if_pos h1]at h;have e:(i+n).toNat=j:=VM h;exact⟨by rw[seqIndex_neg (by omega) h1,e],by omega,h1,by omega⟩
  ·rw[if_neg h1]at h;cases h
theorem u9{α:Type}{xs:List α}{i:Int}{v:α}(h:gE xs i=some v):∃j,Z6 i xs.length=some j∧xs[j]?=some v∧j<xs.length∧-(xs.length:Int)≤i∧i<xs.length:=by
 unfold gE at h;cases e:lP xs.length i with
 |none=>rw[e]at h;cases h
 |some j=>rw[e]at h;obtain⟨h1,h2,h3,h4⟩:=KV e;exact⟨j,h1,h,h2,h3,h4⟩
def u0(b:V3):Prop:=∀o i,ZP b false o i=operate [o,i] (aai o i)
noncomputable def kq(X:aD)(r:d7):Prop:=
 ∀(value slice:V3)(pins:List (VD×Obj))(s:Vx)(σ :St)(H:ae)(x y:V)(v u:Vw)(Q:cD),Inv X pins σ H s→RelV x v→RelV y u→r x y H Q→
  ZP slice false v u=operate [v,u] (aai v u)→VL (VT X.prog X.w) X.A (subscriptTail value slice v u) (eS X pins σ Q) X.xe s
noncomputable def uY(X:aD)(id:String)(r:V→List V→ae→cD→Prop):Prop:=
 ∀(pins:List (VD×Obj))(s:Vx)(σ :St)(H:ae)(x:V)(xs:List V)(v:Vw)(us:List Vw)(Q:cD),Inv X pins σ H s→RelV x v→Vals xs us→r x xs H Q→
  VL (VT X.prog X.w) X.A (call (.builtin id) (v::us)) (eS X pins σ Q) X.xe s
section
variable{X:aD}{a b:V3}{cg tb:TE}{pos:Pos}
theorem kq.or{r bq:d7}(h:kq X r)(h':kq X bq):kq X (fun x y H Q=>r x y H Q∨bq x y H Q):=by
 intro value slice pins s σ H x y v u Q I bu bX q hs;rcases q with q|q
 ·exact h value slice pins s σ H x y v u Q I bu bX q hs
 ·exact h' value slice pins s σ H x y v u Q I bu bX q hs
theorem NX{r:d7}(aw:kq X r)(ah:a3 X a cg)(J:a3 X b tb)(hs:u0 b):a3 X (.Subscript a b pos) (o5 r cg tb):=by intro pins s σ H Q I h;exact Subscript_ (vj ah J I h fun v u s2 x y aM bT bu bX q=>aw a b pins s2 σ aM x y v u Q bT bu bX q (hs _ _))
noncomputable def EJ(K:PySem.W.Frag):d7:=fun x y H Q=>∃p xs i v,x=.ref p∧y=.int i∧bQ K H p xs∧gE xs i=some v∧Q v H
noncomputable def EL(K:PySem.W.Frag):d7:=fun x y H Q=>∃p xs i v,x=.ref p∧y=.int i∧cz K H p xs∧gE xs i=some v∧Q v H
noncomputable def EK:d7:=fun x y H Q=>∃z i c,x=.str z∧y=.int i∧z.length≤VP∧gE z.cps.toList i=some c∧Q (.str ⟨#[c]⟩) H
theorem KY:kq X (EJ X.K):=by
 intro value slice pins s σ H x y v u Q I bu bX h hs;obtain⟨p,xs,i,z,rfl,rfl,aS,he,q⟩:=h;cases bu;obtain⟨t,rfl⟩:=bX;obtain⟨its,r,pl,bG⟩:=I.list aS;obtain⟨j,h1,h2,h3,h4,h5⟩:=u9 he;obtain⟨w,gG,xO⟩:=r.get h2;have ak:=r.length;have aK:=qP;have fin:eS X pins σ Q w s:=⟨z,H,I,xO,q⟩;by_cases h0:0≤i
 ·have cV:i.toNat=j:=by
    rw[seqIndex_of h0 h5]at h1;exact VM h1
  exact item_listR pl.isList h0 (by omega) (by rw[cV];simpa using gG) fin hs
 ·have cV:(i+(its.toArray.size:Int)).toNat=j:=by
    rw[seqIndex_neg (by omega) h4]at h1;rw[VE,←ak];exact VM h1
  exact subscriptTail_builtinR (x:=w) pl.isList.typeIs slot_list_getitem.lookup
   (wpAny_getItem_list_neg (Q:=fun r s'=>r=w∧eS X pins σ Q r s') pl.isList (by omega) (by rw[VE]<;>omega) (by omega) (by rw[cV];simpa using gG) ⟨rfl,fin⟩) hs
theorem K1:kq X (EL X.K):=by
 intro value slice pins s σ H x y v u Q I bu bX h hs;obtain⟨p,xs,i,z,rfl,rfl,aS,he,q⟩:=h;cases bu;obtain⟨t,rfl⟩:=bX;obtain⟨its,r,pl,bG⟩:=I.tuple aS;obtain⟨j,h1,h2,h3,h4,h5⟩:=u9 he;obtain⟨w,gG,xO⟩:=r.get h2;have ak:=r.length;have aK:=qP;have fin:eS X pins σ Q w s:=⟨z,H,I,xO,q⟩
 exact subscriptTail_builtinR (x:=w) pl.typeIs slot_tuple_getitem.lookup
  (getItem_tuple (j:=j) (Q:=fun r s'=>r=w∧eS X pins σ Q r s') pl (by omega) (by omega) (by rw[VE,←ak];exact h1) (by simpa using gG) ⟨rfl,fin⟩) hs
theorem K0:kq X EK:=by
 intro value slice pins s σ H x y v u Q I bu bX h hs;obtain⟨z,i,c,rfl,rfl,bG,he,q⟩:=h;obtain⟨t,rfl⟩:=bu;obtain⟨t',rfl⟩:=bX;obtain⟨j,h1,h2,h3,h4,h5⟩:=u9 he;have ak:z.cps.toList.length=z.length:=by simp[Str.length]
 rw[ak]at h1 h4 h5;have aK:=qP;exact tail_any (typeIs_str s z t) slot_str_getitem.lookup (getItem_str (c:=c) (by have ao:decide (i< -(2^63:Int))=false:=decide_eq_false (by omega);have aA:decide (i≥2^63)=false:=decide_eq_false (by omega);rw[ao,aA,Bool.or_false]) (by rw[h1];simpa using h2) ⟨.str ⟨#[c]⟩,H,I.tok _,⟨_,rfl⟩,q⟩) hs
def EI(K:PySem.W.Frag):d7:=fun x y H Q=>EJ K x y H Q∨EL K x y H Q∨EK x y H Q
theorem KZ:kq X (EI X.K):=KY.or (K1.or K0)
theorem Inv.lst{pins:List (VD×Obj)}{σ :St}{H:ae}{s:Vx}{p:VD}{xs:List V}(I:Inv X pins σ H s)(h:H p=some (.lst xs)) :
  ∃(its:List Vw)(n:Nat),Vals xs its∧s.heap.get? p=some { cls:=.type "list",data:=.seq its.toArray n }∧xs.length≤VP:=by
 obtain⟨z,its,n,r,e⟩:=I.bw p _ h;exact⟨its,n,r,e,z⟩
theorem PZ(lo af:Option Int)(n:Nat):(XX lo af none n).1=((d0.ep n 0 lo:Nat):Int)∧(XX lo af none n).2.1=((d0.ep n n af:Nat):Int)∧(XX lo af none n).2.2=1:=by
 refine⟨?_,?_,rfl⟩
 ·cases lo with
  |none=>simp[XX,d0.ep]
  |some i=>
   simp only[XX,d0.ep,Option.getD_none,show(1:Int)>0 by decide,if_true];by_cases h:i<0
   ·simp only[h,if_true]<;>omega
   ·simp only[h,if_false]<;>omega
 ·cases af with
  |none=>simp[XX,d0.ep]
  |some i=>
   simp only[XX,d0.ep,Option.getD_none,show(1:Int)>0 by decide,if_true];by_cases h:i<0
   ·simp only[h,if_true]<;>omega
   ·simp only[h,if_false]<;>omega
theorem PY(its:List Vw)(lo af:Option Int):slicePick its.toArray lo af none=((its.drop (d0.ep its.length 0 lo)).take (d0.ep its.length its.length af-d0.ep its.length 0 lo)).toArray:=by obtain⟨h1,h2,h3⟩:=PZ lo af its.toArray.size;unfold slicePick;rw[h1,h2,h3];simp only[sliceRange_one,pick_run,VE]<;>rfl
noncomputable def EN(K:PySem.W.Frag):V→Option Int→Option Int→ae→cD→Prop:=fun x lo af H Q=>∃a xs,x=.ref a∧bQ K H a xs∧∀p,H p=none→Q (.ref p) (upd H p (.lst (n2 xs lo af)))
theorem PW:mC X (EN X.K):=by intro pins s σ H x v ji jj lo af cb Q I bu hs pl pu h;obtain⟨a,xs,rfl,av,q⟩:=h;cases bu;obtain⟨its,r,bH,bG⟩:=I.list av;have hlen:=r.length;refine⟨"list",_,slot_list_getitem.lookup,bH.isList.typeIs,?_⟩;refine wpAny_getItem_list_slice bH.isList hs pl pu .none (by simp) ?_ (by rw[VE]<;>omega);rw[PY,←hlen];refine⟨.ref s.heap.objs.size,_,I.laid (t':=s.toks) (o:=.lst (n2 xs lo af)) (fun b bg q=>Vy _ q) (VG _) ?_,rfl,q _ (I.bw.fresh (VG _))⟩;exact⟨V7 (HE xs lo af) bG,_,0,(r.drop (d0.ep xs.length 0 lo)).take (d0.ep xs.length xs.length af-d0.ep xs.length 0 lo),VN _ rfl⟩
theorem Hr:h_ X (.type "list") (fun xs H Q=>∃p ys,xs=[.ref p]∧(bQ X.K H p ys∨cz X.K H p ys)∧∀l,H l=none→Q (.ref l) (upd H l (.lst ys))):=by
 intro pins s σ H xs us Q I r h;obtain⟨p,ys,rfl,aS,q⟩:=h;obtain⟨u,rfl,bu⟩:=vals1 r;cases bu
 have fin:∀(its:List Vw),Vals ys its→ys.length≤VP→∀(h':Wv)(d3:Nat),(∀b bk,s.heap.get? b=some bk→h'.get? b=some bk)→
   h'.get? s.heap.objs.size=some { cls:=.type "list",dict:=none,data:=.seq its.toArray d3,slots:= #[] }→eS X pins σ Q (.ref s.heap.objs.size) { s with heap:=h' }:=fun its bq bG h' d3 aG e=>
  ⟨.ref s.heap.objs.size,_,I.laid (t':=s.toks) aG (VG _) (show eF X.prog X.w _ h' _ (.lst ys)from⟨bG,its,d3,bq,e⟩),rfl,q _ (I.bw.fresh (VG _))⟩
 rcases aS with aS|aS
 ·obtain⟨its,bq,pl,bG⟩:=I.list aS;have hlen:=bq.length;obtain⟨o,aB,aq,n,hd⟩:=pl.isList;exact call_list_seq p (.inl rfl) aB aq hd (fun h' d3 aG e=>fin its bq bG h' d3 aG e) (by simp only[VE]<;>omega)
 ·obtain⟨its,bq,pl,bG⟩:=I.tuple aS;have hlen:=bq.length;obtain⟨o,aB,aq,n,hd⟩:=pl;exact call_list_seq p (.inr rfl) aB aq hd (fun h' d3 aG e=>fin its bq bG h' d3 aG e) (by simp only[VE]<;>omega)
theorem Hu:h_ X (.type "tuple") (fun xs H Q=>∃p ys,xs=[.ref p]∧((bQ X.K H p ys∧∀l,H l=none→Q (.ref l) (upd H l (.tup ys)))∨(cz X.K H p ys∧Q (.ref p) H))):=by
 intro pins s σ H xs us Q I r h;obtain⟨p,ys,rfl,h⟩:=h;obtain⟨u,rfl,bu⟩:=vals1 r;cases bu;rcases h with⟨aS,q⟩|⟨aS,q⟩
 ·obtain⟨its,bq,pl,bG⟩:=I.list aS;have hlen:=bq.length;refine call_tuple_list pl.isList (fun h' aG=>?_) (by simp only[VE]<;>omega);have aW:Inv X pins σ H { s with heap:=h' }:=I.kept (t':=s.toks) aG;have bT:Inv X pins σ (upd H h'.objs.size (.tup ys)) { s with heap:=h'.push { cls:=.type "tuple",data:=.seq its.toArray } }:=
   aW.laid (t':=s.toks) (fun b o e=>Vy _ e) (VG _) (show eF X.prog X.w _ _ _ (.tup ys)from⟨bG,its,bq,IsTup.new _ _⟩)
  exact⟨.ref h'.objs.size,_,bT,rfl,q _ (aW.bw.fresh (VG _))⟩
 ·obtain⟨its,bq,pl,bG⟩:=I.tuple aS;exact call_tuple_same pl ⟨.ref p,H,I,rfl,q⟩
noncomputable def FW(K:PySem.W.Frag)(T:String)(x:V)(H:ae):Prop:=match x with
 |.str _=>T="str"
 |.int _=>T="int"
 |.ref p=>(T="list"∧∃xs,bQ K H p xs)∨(T="tuple"∧∃o,K.lookup p=some o∧o.cls=.type "tuple"∧o.dict=none)∨
     (T="dict"∧((∃a6,H p=some (.dc a6))∨∃a6,H p=some (.cA a6)))∨(T="set"∧∃S n,H p=some (.set S n))
 |_=>False
theorem Q6{pins:List (VD×Obj)}{σ :St}{H:ae}{s:Vx}{T:String}{x:V}{v:Vw}(I:Inv X pins σ H s)(r:RelV x v)(ty:FW X.K T x H) :
  s.TypeIs v T∧∀a,v=.ref a→∃bg,s.heap.get? a=some bg∧bg.dict=none:=by
 cases x with
 |str z=>obtain⟨t,rfl⟩:=r;cases(show T="str" from ty);exact⟨typeIs_str s z t,fun _ e=>nomatch e⟩
 |int i=>obtain⟨t,rfl⟩:=r;cases(show T="int" from ty);exact⟨typeIs_int s i t,fun _ e=>nomatch e⟩
 |ref p=>
  cases r;rcases ty with⟨rfl,xs,aS⟩|⟨rfl,o,aH,aq,hd⟩|⟨rfl,aH⟩|⟨rfl,S,n,aH⟩
  ·obtain⟨its,_,pl,_⟩:=I.list aS;refine⟨pl.isList.typeIs,fun a e=>?_⟩;cases e;obtain⟨o,n,e,c,hd,_⟩:=pl;exact⟨o,e,hd⟩
  ·refine⟨⟨o,I.ej p o aH,aq⟩,fun a e=>?_⟩;cases e;exact⟨o,I.ej _ o aH,hd⟩
  ·have z:∃o,s.heap.get? p=some o∧o.ExactDict:=by
     rcases aH with⟨a6,aH⟩|⟨a6,aH⟩
     ·obtain⟨_,_,_,_,o,_,_,e,ex,_⟩:=I.bw p _ aH;exact⟨o,e,ex⟩
     ·obtain⟨_,_,_,_,o,_,_,e,ex,_⟩:=I.bw p _ aH;exact⟨o,e,ex⟩
   obtain⟨o,e,ex⟩:=z;refine⟨⟨o,e,ex.1⟩,fun a aA=>?_⟩;cases aA;exact⟨o,e,ex.2.1⟩
  ·obtain⟨o,_,_,_,e,ex,_⟩:=I.bw p _ aH;refine⟨⟨o,e,ex.1⟩,fun a aA=>?_⟩;cases aA;exact⟨o,e,ex.2.1⟩
 |_=>exact WG ty
noncomputable def Qh(K:PySem.W.Frag)(T:String)(r:V→List V→ae→cD→Prop)(to:TE)(t:eK):TE:=fun σ H Q=>to σ H fun x H1=>FW K T x H1∧t σ H1 fun xs aM=>r x xs aM Q
variable{o e:V3}{es:List V3}{to:TE}{t:eK}{name:Str}{apos cpos:Pos}{T id:String}{r:V→List V→ae→cD→Prop}
theorem tF (NJ:PlainAttrs T) (slot:Slot T name id) (JN:typeOf (.builtin id)=pure (.type "method_descriptor")) (hm:uY X id r) (aB:a3 X o to) (ah:e6 X (e::es) t)(kF:Xj o name X.env (WW o X.env)=WW o X.env:=by rfl)(kG:((Wu cpos (VA (e::es) X.env)).all (fun x=>!x.1)&&(Yt cpos (Xs [] X.env)).all (fun x=>x.1.isSome)
    &&decide ((e::es).length+([]:List Yy).length+(if([]:List Yy).isEmpty then 0 else 1)<30))=true:=by rfl)
  (kJ:(apos.endLine==cpos.line)=true:=by rfl) (hs:VA (e::es) X.env=(false,WW e X.env)::VA es X.env:=by rfl) (kK:(Wu cpos (VA es X.env)).any (·.1)=false:=by rfl) :
  a3 X (.Call (.Attribute o name apos) (e::es) [] cpos) (Qh X.K T r to t):=by
 intro pins s σ H Q I h;refine wpAny_Call_method_late kF kG kJ rfl (bA (aB pins s σ H _ I h) fun v s1⟨x,H1,aW,au,ty,aQ⟩=>?_);obtain⟨h1,h2⟩:=Q6 aW au ty;refine⟨T,id,NJ,slot,JN,h1,h2,?_⟩;have gw:=ah cpos pins s1 σ H1 _ aW aQ;rw[hs]at gw ⊢;refine Calls.callWith_builtin (by show(false||(Wu cpos (VA es X.env)).any (·.1))=false;rw[kK]<;>rfl) (Zu ?_);exact bA gw fun us s2⟨vs,aM,bT,bl,a9⟩=>hm pins s2 σ aM x vs v us Q bT au bl a9
end
noncomputable def zB(X:aD)(id:String)(r:V→List V→ae→cD→Prop):Prop:=
 ∀(pins:List (VD×Obj))(s:Vx)(σ :St)(H:ae)(x:V)(xs:List V)(v:Vw)(us:List Vw)(Q:cD),Inv X pins σ H s→RelV x v→Vals xs us→r x xs H Q→
  VL (VT X.prog X.w) X.A (call (.builtin id) (v::us)) (eS X pins σ Q) X.xe s
theorem Vals.one:∀{x:V}{us:List Vw},Vals [x] us→∃u,us=[u]∧RelV x u
 |_,_,.cons r .nil=>⟨_,rfl,r⟩
theorem Vals.eraseIdx:∀{xs:List V}{us:List Vw}(i:Nat),Vals xs us→Vals (xs.eraseIdx i) (us.eraseIdx i)
 |_,_,_,.nil=>.nil
 |_,_,0,.cons _ t=>t
 |_,_,i+1,.cons r t=>.cons r (Vals.eraseIdx i t)
theorem Vals.rep{xs:List V}{us:List Vw}(h:Vals xs us):∀k:Nat,Vals (VY k xs).flatten (VY k us).flatten
 |0=>.nil
 |k+1=>by rw[Wz,Wz,Xd,Xd];exact Vals.append h (Vals.rep h k)
theorem foldl_rep(its:List Vw):∀(k:Nat)(acc:List Vw),
  List.foldl (fun eC fo=>eC++fo) acc.toArray (VY k its.toArray)=(acc++(VY k its).flatten).toArray
 |0,acc=>by simp
 |k+1,acc=>by
  have e:acc.toArray++its.toArray=(acc++its).toArray:=by simp
  have aA:(acc++its)++(VY k its).flatten=acc++(VY (k+1) its).flatten:=by rw[Wz,Xd,List.append_assoc]
  rw[←aA,←foldl_rep its k (acc++its),←e,Wz,Y9]
section
variable{X:aD}{pins:List (VD×Obj)}{σ :St}{H:ae}{s:Vx}{l b:VD}{xs ys zs:List V}
theorem Inv.Dr{its its':List Vw}{n:Nat}{f:Array Vw→Array Vw}{t':Nat}(I:Inv X pins σ H s)(iz:H l=some (.lst xs))(e:s.heap.get? l=some { cls:=.type "list",data:=.seq its.toArray n })(hf:f its.toArray=its'.toArray)(bS:Vals ys its')(bG:ys.length≤VP) :
  Inv X pins σ (upd H l (.lst ys)) { s with heap:=s.heap.update l (Obj.mapSeq f),toks:=t' }:=by
 have q:=PySem.IsL.update e f;rw[hf]at q;refine I.write (x:=l) (e:=l) (by rw[iz];exact trivial) (.inl rfl) (fun fw u J aN=>(WI s.heap (Obj.mapSeq f) (Yx J)).trans aN) ⟨_,q⟩ ?_;exact⟨bG,its',_,bS,q⟩
theorem Inv.ow{its:List Vw}{t':Nat}(I:Inv X pins σ H s)(bS:Vals ys its)(bG:ys.length≤VP) :
  Inv X pins σ (upd H s.heap.objs.size (.lst ys)) { s with heap:=s.heap.push { cls:=.type "list",data:=.seq its.toArray },toks:=t' }:=
 I.laid (fun _ _ q=>Vy _ q) (VG _) ⟨bG,its,0,bS,VN _ rfl⟩
theorem Inv.fresh(I:Inv X pins σ H s):H s.heap.objs.size=none:=I.bw.fresh (VG _)
theorem Inv.ox(I:Inv X pins σ H s)(iz:H l=some (.lst xs)):xs.length≤VP∧∃(its:List Vw)(n:Nat),Vals xs its∧xs.length=its.length∧s.heap.get? l=some { cls:=.type "list",data:=.seq its.toArray n }:=by obtain⟨z,its,n,r,e⟩:=I.bw l _ iz;exact⟨z,its,n,r,r.length,e⟩
theorem D8{n:Nat}(h:n≤VP):Xe n=false:=by unfold Xe;exact decide_eq_false (by omega)
end
section
variable{X:aD}
noncomputable def ON:V→List V→ae→cD→Prop:=fun x vs H Q=>∃l xs y,x=.ref l∧vs=[y]∧H l=some (.lst xs)∧xs.length<VP∧Q .non (upd H l (.lst (xs++[y])))
theorem xd:zB X "list.append" ON:=by intro pins s σ H x vs v us Q I bu b_ h;obtain⟨l,xs,y,rfl,rfl,iz,bG,q⟩:=h;cases bu;obtain⟨u,rfl,eR⟩:=b_.one;obtain⟨z,its,n,r,ak,e⟩:=I.ox iz;refine Yi F.slot_list_append ⟨_,e,rfl⟩ F.entry_list_append (F.args_list_append_2 _ _) (PySem.list_append l its.toArray n u (by rw[VE];omega)) ⟨e,?_⟩;refine⟨.non,_,I.Dr (its':=its++[u]) iz e (by simp) (r.append (.cons eR .nil)) ?_,rfl,q⟩;rw[Wx,List.length_singleton];omega
noncomputable def OO:V→List V→ae→cD→Prop:=fun x vs H Q=>∃l b xs zs,x=.ref l∧vs=[.ref b]∧H l=some (.lst xs)∧H b=some (.lst zs)∧xs.length+zs.length≤VP∧Q .non (upd H l (.lst (xs++zs)))
theorem Mw:zB X "list.extend" OO:=by
 intro pins s σ H x vs v us Q I bu b_ h;obtain⟨l,b,xs,zs,rfl,rfl,iz,i2,bG,q⟩:=h;cases bu;obtain⟨u,rfl,eR⟩:=b_.one;cases eR;obtain⟨z,its,n,r,ak,e⟩:=I.ox iz;obtain⟨a7,ea,cT,bl,qx,aA⟩:=I.ox i2;have hsz:its.toArray.size+ea.toArray.size≤VP:=by rw[VE,VE];omega
 have wj:¬(!its.toArray.isEmpty&&Xe (its.toArray.size+ea.toArray.size))=true:=by rw[D8 hsz,ZO];exact VZ
 refine Yi F.slot_list_extend ⟨_,e,rfl⟩ F.entry_list_extend (F.args_list_extend_2 _ _)
  (AutoSeq1.list_extend_list_list_0 l its.toArray n b ea.toArray cT wj (by rw[VE];omega) (by omega)) ⟨e,aA,?_⟩
 refine⟨.non,_,I.Dr (its':=its++ea) iz e (by simp) (r.append bl) ?_,rfl,q⟩;rw[Wx];omega
noncomputable def EE:d7:=fun x y H Q=>∃l b xs zs,x=.ref l∧y=.ref b∧H l=some (.lst xs)∧H b=some (.lst zs)∧xs.length+zs.length≤VP∧∀p,H p=none→Q (.ref p) (upd H p (.lst (xs++zs)))
theorem Ed:dw X (X2 .Add) EE:=by
 intro pins s σ H x y v u Q I bu bX h;obtain⟨l,b,xs,zs,rfl,rfl,iz,i2,bG,q⟩:=h;cases bu;cases bX;obtain⟨z,its,n,r,ak,e⟩:=I.ox iz;obtain⟨a7,ea,cT,bl,qx,aA⟩:=I.ox i2;refine PySem.P.add_list e aA ?_ (by rw[VE,VE];omega);have ax:its.toArray++ea.toArray=(its++ea).toArray:=by simp
 rw[ax];exact⟨.ref _,_,I.ow (t':=s.toks) (r.append bl) (by rw[Wx];omega),rfl,q _ I.fresh⟩
noncomputable def EM:d7:=fun x y H Q=>∃l k xs,x=.ref l∧y=.int k∧H l=some (.lst xs)∧-(2^63)≤k∧k<2^63∧xs.length*k.toNat≤VP∧
 ∀p,H p=none→Q (.ref p) (upd H p (.lst (VY k.toNat xs).flatten))
theorem len_rep{α:Type}(xs:List α)(k:Nat):(VY k xs).flatten.length=k*xs.length:=by
 induction k with
 |zero=>simp
 |succ k cW=>rw[Wz,Xd,Wx,cW,Nat.succ_mul,Nat.add_comm]
theorem ND:dw X (X2 .Mult) EM:=by
 intro pins s σ H x y v u Q I bu bX h;obtain⟨l,k,xs,rfl,rfl,iz,h1,h2,bG,q⟩:=h;cases bu;obtain⟨t,rfl⟩:=bX;obtain⟨z,its,n,r,ak,e⟩:=I.ox iz;have hlen:its.toArray.size*k.toNat≤VP:=by rw[VE,←ak];exact bG
 have I3:¬its.toArray.size*k.toNat>(2^63-1)/8:=by
  have:(VP:Nat)≤(2^63-1)/8:=by decide
  omega
 have I8:¬(!Builtin.List.listFitsIndex k)=true:=by rw[fitsIndex_both h1 h2];exact VZ
 have wj:¬Xe (its.toArray.size*k.toNat)=true:=by rw[D8 hlen];exact VZ
 have Js:List.foldl (fun eC fo=>eC++fo) #[] (VY (if its.toArray.isEmpty=true then 0 else k.toNat) its.toArray)=(VY k.toNat its).flatten.toArray:=by
  have f0:∀m:Nat,List.foldl (fun eC fo=>eC++fo) #[] (VY m its.toArray)=(VY m its).flatten.toArray:=fun m=>by have:=foldl_rep its m [];rw[Y_]at this;exact this
  rw[f0];cases its with
  |nil=>simp
  |cons a bq=>rw[if_neg (by simp)]
 refine wpAny_binaryOp_repeat_ref (T:="list") (U:="int") (by decide) ⟨_,e,rfl⟩ (fun s'=>typeIs_int s' k t) noFill_list_mul F.fills_int_mul F.slot_int_rmul repeat_list F.slot_int_index.lookup
  (Yi F.slot_int_rmul (typeIs_int s k t) F.entry_int_rmul (F.args_int_rmul_2 _ _) (int___rmul___int_list k t l its.toArray n)
    ⟨e,rfl,⟨_,e,rfl⟩,Yi F.slot_list_mul ⟨_,e,rfl⟩ F.entry_list_mul (F.args_list_mul_2 _ _) (AutoListH.list___mul___list_int_3 l its.toArray n k t I8 I3 wj) ⟨e,?_⟩⟩)
 rw[Js];exact⟨.ref _,_,I.ow (t':=s.toks) (r.rep k.toNat) (by rw[len_rep,Nat.mul_comm];exact bG),rfl,q _ I.fresh⟩
end
section
variable{prog:VR}{w:V9}{A:V0}{E:Vw→Vx→Prop}{s:Vx}
end
section
variable{X:aD}
end
section
variable{cU:Type}[DecidableEq cU]
def g8(a6:List (cU×V))(k:cU):Option V:=(a6.find? fun ek=>decide (ek.1=k)).map (·.2)
noncomputable def putK(a6:List (cU×V))(k:cU)(v:V):List (cU×V):=
 if(a6.any fun ek=>decide (ek.1=k))=true then a6.map (fun ek=>if ek.1=k then(ek.1,v)else ek)else a6++[(k,v)]
def A3(a6:List (cU×V))(k:cU):List (cU×V):=a6.filter fun ek=>decide (ek.1≠k)
theorem y8{p:cU×V}{r:List (cU×V)}{k:cU}(e:p.1=k):g8 (p::r) k=some p.2:=by simp[g8,Xf,e]
theorem y7{p:cU×V}{r:List (cU×V)}{k:cU}(e:¬p.1=k):g8 (p::r) k=g8 r k:=by simp[g8,Xf,e]
theorem y6(k:cU):∀a6:List (cU×V),(a6.any fun ek=>decide (ek.1=k))=(g8 a6 k).isSome
 |[]=>rfl
 |p::r=>by
  rw[XN];by_cases e:p.1=k
  ·simp only[y8 e,decide_eq_true e,Bool.true_or,Z7]
  ·rw[y7 e,decide_eq_false e,Bool.false_or];exact y6 k r
theorem Dj(a6:List (cU×V))(k:cU)(v:V):(putK a6 k v).length≤a6.length+1:=by
 unfold putK
 split
 ·rw[Wq];omega
 ·rw[Wx,Wf,List.length_nil];omega
theorem OD{a6:List (cU×V)}{k:cU}(v:V)(h:g8 a6 k=none):putK a6 k v=a6++[(k,v)]:=by unfold putK;rw[y6,h];exact if_neg (by decide)
theorem hI.qI{o:Option V}{u:Option Vw}(r:hI o u):o.isSome=u.isSome:=by
 cases o with
 |none=>cases u with
  |none=>rfl
  |some _=>exact(show False from r).elim
 |some _=>cases u with
  |none=>exact(show False from r).elim
  |some _=>rfl
theorem eU.val{a6:List (cU×V)}{vs:List (cU×Vw)}(r:eU a6 vs)(k:cU):hI (g8 a6 k) (valueAt vs k):=by
 unfold eU at r;induction r with
 |nil=>exact Xu
 | @cons p q aP jJ h t cW=>
   obtain⟨h1,h2⟩:=h;by_cases e:p.1=k
   ·have bN:q.1=k:=h1.symm.trans e;have b:valueAt (q::jJ) k=some q.2:=by simp[valueAt,Xf,bN]
    rw[y8 e,b];exact h2
   ·have bN:¬q.1=k:=fun z=>e (h1.trans z);have b:valueAt (q::jJ) k=valueAt jJ k:=by simp[valueAt,Xf,bN]
    rw[y7 e,b];exact cW
theorem eU.any{a6:List (cU×V)}{vs:List (cU×Vw)}(r:eU a6 vs)(k:cU):(a6.any fun ek=>decide (ek.1=k))=vs.any fun ek=>decide (ek.1=k):=by
 unfold eU at r;induction r with
 |nil=>rfl
 |cons h t cW=>rw[XN,XN,cW,h.1]
theorem eU.xH{a6:List (cU×V)}{vs:List (cU×Vw)}(r:eU a6 vs)(k:cU){y:V}{u:Vw}(bX:RelV y u) :
  eU (a6.map fun ek=>if ek.1=k then(ek.1,y)else ek) (vs.map fun ek=>if ek.1=k then(ek.1,u)else ek):=by
 unfold eU at r ⊢;induction r with
 |nil=>exact .nil
 | @cons p q aP jJ h t cW=>
   rw[Ws,Ws];refine .cons ?_ cW;obtain⟨h1,h2⟩:=h;by_cases e:p.1=k
   ·rw[if_pos e,if_pos (h1.symm.trans e)];exact⟨h1,bX⟩
   ·rw[if_neg e,if_neg (fun z=>e (h1.trans z))];exact⟨h1,h2⟩
theorem eU.put{a6:List (cU×V)}{vs:List (cU×Vw)}(r:eU a6 vs)(k:cU){y:V}{u:Vw}(bX:RelV y u):eU (putK a6 k y) (stored vs k u):=by
 unfold putK stored;rw[r.any k];by_cases e:(vs.any fun ek=>decide (ek.1=k))=true
 ·rw[if_pos e,if_pos e];exact r.xH k bX
 ·rw[if_neg e,if_neg e];exact Paired.snoc r ⟨rfl,bX⟩
theorem eU.drop{a6:List (cU×V)}{vs:List (cU×Vw)}(r:eU a6 vs)(k:cU):eU (A3 a6 k) (without vs k):=by
 unfold eU at r ⊢;unfold A3 without;induction r with
 |nil=>exact .nil
 | @cons p q aP jJ h t cW=>
   obtain⟨h1,h2⟩:=h;rw[List.filter_cons,List.filter_cons];by_cases e:p.1=k
   ·have a:¬decide (p.1≠k)=true:=by simp[e]
    have b:¬decide (q.1≠k)=true:=by simp[h1.symm.trans e]
    rw[if_neg a,if_neg b];exact cW
   ·have bN:¬q.1=k:=fun z=>e (h1.trans z);have a:decide (p.1≠k)=true:=by simp[e]
    have b:decide (q.1≠k)=true:=by simp[bN]
    rw[if_pos a,if_pos b];exact .cons ⟨h1,h2⟩ cW
theorem eU.length{a6:List (cU×V)}{vs:List (cU×Vw)}(r:eU a6 vs):a6.length=vs.length:=Paired.length r
end
theorem sW{P:VR}{w:V9}{k:Key}{u:Vw}(r:RelV (cB k) u):(hv P w).is k u=true:=by
 cases k with
 |inl i=>obtain⟨t,e⟩:=(show ∃t,u=aas i t from r);subst e;exact Mt P w i t
 |inr x=>obtain⟨t,e⟩:=(show ∃t,u=aat x t from r);subst e;exact Mu P w x t
theorem CQ{P:VR}{w:V9}:∀{aI:List Key}{us:List Vw},Vals (aI.map cB) us→ItemsAre (hv P w) aI us
 |[],_,r=>by rw[List.map_nil]at r;cases r;exact .nil
 |k::aI,_,r=>by
  rw[Ws]at r;cases r with
  |cons h t=>exact .cons (sW h) (CQ t)
abbrev KT(H:ae):List (List Key×V)→List (List Key×VD×Vw)→Prop:=Paired fun p q=>p.1=q.1∧H q.2.1=some (.tup (p.1.map cB))∧RelV p.2 q.2.2
theorem KT.val{H:ae}{a6:List (List Key×V)}{xs:List (List Key×VD×Vw)}(r:KT H a6 xs)(k:List Key):hI (g8 a6 k) ((atKey xs k).map (·.2)):=by
 induction r with
 |nil=>exact Xu
 | @cons p q aP jJ h t cW=>
   obtain⟨h1,_,h2⟩:=h;by_cases e:p.1=k
   ·have bN:q.1=k:=h1.symm.trans e;have b:atKey (q::jJ) k=some q.2:=by simp[atKey,Xf,bN]
    rw[y8 e,b];exact h2
   ·have bN:¬q.1=k:=fun z=>e (h1.trans z);have b:atKey (q::jJ) k=atKey jJ k:=by simp[atKey,Xf,bN]
    rw[y7 e,b];exact cW
theorem KT.xH{H:ae}{a6:List (List Key×V)}{xs:List (List Key×VD×Vw)}(r:KT H a6 xs)(k:List Key){y:V}{u:Vw}(bX:RelV y u) :
  KT H (a6.map fun ek=>if ek.1=k then(ek.1,y)else ek) (xs.map (putAt k u)):=by
 induction r with
 |nil=>exact .nil
 | @cons p q aP jJ h t cW=>
   rw[Ws,Ws];refine .cons ?_ cW;obtain⟨h1,h2,h3⟩:=h;unfold putAt;by_cases e:p.1=k
   ·rw[if_pos e,if_pos (h1.symm.trans e)];exact⟨h1,h2,bX⟩
   ·rw[if_neg e,if_neg (fun z=>e (h1.trans z))];exact⟨h1,h2,h3⟩
theorem KT.put{H:ae}{a6:List (List Key×V)}{xs:List (List Key×VD×Vw)}(r:KT H a6 xs)(k:List Key){b:VD}{y:V}{u:Vw}(J:H b=some (.tup (k.map cB)))(bX:RelV y u) :
  KT H (putK a6 k y) (storedH xs k b u):=by
 have e:(a6.any fun ek=>decide (ek.1=k))=(atKey xs k).isSome:=by rw[y6,(r.val k).qI,YG]
 unfold putK storedH;rw[e];by_cases q:(atKey xs k).isSome=true
 ·rw[if_pos q,if_pos q];exact r.xH k bX
 ·rw[if_neg q,if_neg q];exact Paired.snoc r ⟨rfl,J,bX⟩
theorem KT.keeps{H H':ae}{a6:List (List Key×V)}{xs:List (List Key×VD×Vw)}(r:KT H a6 xs)(bH:∀b ys,H b=some (.tup ys)→H' b=some (.tup ys)):KT H' a6 xs:=
 Paired.w9 r fun _ _ z=>⟨z.1,bH _ _ z.2.1,z.2.2⟩
section
variable{P:VR}{w:V9}{H:ae}{h:Wv}{a:VD}
theorem ER{u:dj}(ok:dJ P w H h)(e:f7 H a u):eF P w H h a u:=e.ok ok
theorem vr{a6:List (Key×V)}(ok:dJ P w H h)(e:f7 H a (.dc a6)):a6.length≤VP∧(a==W3)=false∧∃vs,eU a6 vs∧h.DictOf (hv P w) a vs:=
 show eF P w H h a (.dc a6)from ER ok e
theorem HZ{a6:List (Key×V)}(ok:dJ P w H h)(e:H a=some (.dc a6)):a6.length≤VP∧(a==W3)=false∧∃vs,eU a6 vs∧h.DictOf (hv P w) a vs:=vr ok (.inl e)
theorem qK{aI:List Key}(ok:dJ P w H h)(e:H a=some (.tup (aI.map cB))):(Z3 (hv P w)).is h aI a:=by obtain⟨_,its,r,o,h1,h2,n,h3⟩:=(show eF P w H h a (.tup (aI.map cB))from ok a _ e);exact⟨o,its.toArray,n,h1,h2,h3,by simpa using CQ r⟩
theorem vt{a6:List (List Key×V)}(ok:dJ P w H h)(e:f7 H a (.cA a6)):a6.length≤VP∧(a==W3)=false∧
  ∃xs,KT H a6 xs∧h.DictOfH (Z3 (hv P w)) a xs:=by
 obtain⟨z,y,xs,r,o,es,b7,h1,h2,h3,h4,h5⟩:=(show eF P w H h a (.cA a6)from ER ok e);refine⟨z,y,xs,r,o,es,b7,h1,h2,h3,h4,fun x av=>?_,h5⟩;have all:∀{l:List (List Key×V)}{m:List (List Key×VD×Vw)},KT H l m→∀x∈m,(Z3 (hv P w)).is h x.1 x.2.1:=by
  intro l m q;induction q with
  |nil=>intro x av;exact nomatch av
  | @cons p q aP jJ aS t cW=>
    intro x av;rcases List.mem_cons.mp av with e|av
    ·subst e;exact qK ok (by rw[←aS.1];exact aS.2.1)
    ·exact cW x av
 exact all r x av
theorem H4{a6:List (List Key×V)}(ok:dJ P w H h)(e:H a=some (.cA a6)):a6.length≤VP∧(a==W3)=false∧
  ∃xs,KT H a6 xs∧h.DictOfH (Z3 (hv P w)) a xs:=vt ok (.inl e)
end
noncomputable def lj(H:ae)(a:VD)(y:V)(r:Option V):Prop:=
 (∃a6 k,f7 H a (.dc a6)∧y=cB k∧r=g8 a6 k)∨∃a6 k b,f7 H a (.cA a6)∧y=.ref b∧H b=some (.tup (k.map cB))∧r=g8 a6 k
noncomputable def pj(H:ae)(a:VD)(y v:V)(H':ae):Prop:=
 (∃a6 k,H a=some (.dc a6)∧y=cB k∧a6.length<VP∧H'=upd H a (.dc (putK a6 k v)))∨
 ∃a6 k b,H a=some (.cA a6)∧y=.ref b∧H b=some (.tup (k.map cB))∧a6.length<VP∧H'=upd H a (.cA (putK a6 k v))
theorem lj.t{H:ae}{a b:VD}{a6:List (List Key×V)}{k:List Key}(e:H a=some (.cA a6))(bx:H b=some (.tup (k.map cB))):lj H a (.ref b) (g8 a6 k):=.inr ⟨a6,k,b,.inl e,rfl,bx,rfl⟩
theorem pj.t{H:ae}{a b:VD}{a6:List (List Key×V)}{k:List Key}{v:V}(e:H a=some (.cA a6))(bx:H b=some (.tup (k.map cB)))(ak:a6.length<VP) :
  pj H a (.ref b) v (upd H a (.cA (putK a6 k v))):=.inr ⟨a6,k,b,e,rfl,bx,ak,rfl⟩
section
variable{X:aD}{pins:List (VD×Obj)}{σ :St}{H:ae}{s:Vx}{a:VD}{y v:V}{u r:Vw}{o:Option V}{A:V0}{E:Vw→Vx→Prop}
theorem Inv.big(I:Inv X pins σ H s):W3<s.heap.objs.size:=by have h:VF<s.heap.objs.size:=(I.mod.glob.keeps I.ey).lt;exact Xt (by decide) h
theorem HJ{Q:Vw→Vx→Prop}(aN:A.units+1<XE)(I:Inv X pins σ H s)(g:lj H a y o)(bX:RelV y u)(h:∀s',Inv X pins σ H s'→Q (.bool o.isSome) s') :
  VL (VT X.prog X.w) A (Wn .In u (.ref a)) Q E s:=by
 rcases g with⟨a6,k,e,fU,l⟩|⟨a6,k,b,e,fU,bx,l⟩
 ·subst fU;obtain⟨z,hd,vs,rel,dd⟩:=vr I.bw e;refine wpAny_in_of (sW bX) hd dd.mapOf ?_;rw[←(rel.val k).qI,←l];exact h _ (I.tok _)
 ·subst fU;cases(show u=V2 b from bX);obtain⟨z,hd,xs,rel,dd⟩:=vt I.bw e;refine wpAny_in_heap (Yu aN) (qK I.bw bx) hd dd ?_;have q:=(rel.val k).qI;rw[YG]at q;rw[←q,←l];exact h _ (I.tok _)
theorem HK{Q:Vw→Vx→Prop}(aN:A.units+1<XE)(I:Inv X pins σ H s)(g:lj H a y o)(bX:RelV y u)(h:∀s',Inv X pins σ H s'→Q (.bool (!o.isSome)) s') :
  VL (VT X.prog X.w) A (Wn .NotIn u (.ref a)) Q E s:=by
 rcases g with⟨a6,k,e,fU,l⟩|⟨a6,k,b,e,fU,bx,l⟩
 ·subst fU;obtain⟨z,hd,vs,rel,dd⟩:=vr I.bw e;refine wpAny_notIn_of (sW bX) hd dd.mapOf ?_;rw[←(rel.val k).qI,←l];exact h _ (I.tok _)
 ·subst fU;cases(show u=V2 b from bX);obtain⟨z,hd,xs,rel,dd⟩:=vt I.bw e;refine wpAny_notIn_heap (Yu aN) (qK I.bw bx) hd dd ?_;have q:=(rel.val k).qI;rw[YG]at q;rw[←q,←l];exact h _ (I.tok _)
theorem AY{h':Wv}{t':Nat}{bg:dj}(I:Inv X pins σ H s)(hS:pD (H a))(hs:Wm a s.heap h')(he:∃q,h'.get? a=some q)(new:eF X.prog X.w (upd H a bg) h' a bg) :
  Inv X pins σ (upd H a bg) { s with heap:=h',toks:=t' }:=
 I.write (x:=a) (e:=a) hS (.inl rfl) (fun b q J z=>(hs.2 b J).trans z) he new
theorem HY{P:VR}{w:V9}{H':ae}{h':Wv}{a6:List (Key×V)}{vs:List (Key×Vw)}(z:a6.length≤VP)(hd:(a==W3)=false)(rel:eU a6 vs)(dd:h'.DictOf (hv P w) a vs) :
  eF P w H' h' a (.dc a6):=⟨z,hd,vs,rel,dd⟩
theorem HM{H':ae}{Q:Unit→Vx→Prop}(aN:A.units+1<XE)(I:Inv X pins σ H s)(g:pj H a y v H')(bX:RelV y u)(b_:RelV v r)(h:∀s',Inv X pins σ H' s'→Q () s') :
  VL (VT X.prog X.w) A (setItem (.ref a) u r) Q E s:=by
 rcases g with⟨a6,k,e,fU,l,vw⟩|⟨a6,k,b,e,fU,bx,l,vw⟩
 ·subst fU vw;obtain⟨z,hd,vs,rel,dd⟩:=HZ I.bw e;have bG:vs.length≤VP:=by rw[←rel.length];exact z
  have ak:(putK a6 k v).length≤VP:=by have:=Dj a6 k v;omega
  refine wpAny_setItem_pairs (hsz:=bG) (sW bX) dd fun h' sh hs=>h _ ?_;have he:∃q,h'.get? a=some q:=let⟨q,_,_,aS,_⟩:=sh;⟨q,aS⟩
  exact AY I (by rw[e];exact Xu) hs he (HY ak hd (rel.put k b_) sh)
 ·subst fU vw;cases(show u=V2 b from bX);obtain⟨z,hd,xs,rel,dd⟩:=H4 I.bw e;have bG:xs.length≤VP:=by rw[←Paired.length rel];exact z
  have ak:(putK a6 k v).length≤VP:=by have:=Dj a6 k v;omega
  refine wpAny_setItem_heap (hsz:=bG) (Yu aN) (qK I.bw bx) dd fun h' sh hs=>h _ ?_;obtain⟨q,es,b7,aS,h2,h3,h4,_,h5⟩:=sh;refine AY I (by rw[e];exact Xu) hs ⟨q,aS⟩ ⟨ak,hd,_,(rel.put k bx b_).keeps fun c ys ec=>?_,q,es,b7,aS,h2,h3,h4,h5⟩;rw[cY (MP ec e (fun z=>nomatch z))];exact ec
end
section
variable{X:aD}{pins:List (VD×Obj)}{σ :St}{H:ae}{s:Vx}{a:VD}{a6:List (Key×V)}{k:Key}{u:Vw}{A:V0}{E:Vw→Vx→Prop}
end
def zC(i:V3):Prop:=∀gA mZ,ZP i false gA mZ=operate [gA,mZ] (aai gA mZ)
theorem Qd{prog:VR}{w:V9}{A:V0}{E:Vw→Vx→Prop}{s:Vx}{env:Env}{value slice:V3}{pos:Pos}{T id:String}{Q:Vw→Vx→Prop}(ak:typeLookup (.type T) "__getitem__"=pure (some (.builtin id)))(hs:zC slice)(h:VL (VT prog w) A (WW value env) (fun o cH=>VL (VT prog w) A (WW slice env) (fun i gC=>gC.TypeIs o T∧VL (VT prog w) A (aai o i) Q E gC) E cH) E s) :
  VL (VT prog w) A (WW (.Subscript value slice pos) env) Q E s:=by
 refine Subscript_ (V1 h (fun o cH gM=>V1 gM (fun i gC jz=>?_) fun _ _ x=>x) fun _ _ x=>x);obtain⟨gf,jz⟩:=jz;unfold subscriptTail;refine Vv ?_;rw[getitemInPython_of_ne gf.not_modules];refine Vv (Za gf ak ?_);have fin:VL (VT prog w) A (ZP slice false o i) (fun r jh=>VL (VT prog w) A (letTemporaryGo value o r>>=fun _=>pure r) Q E jh) E gC:=by rw[hs o i];exact wpAny_operating (V1 jz (fun r jh kc=>Vv (wpAny_letTemporaryGo (VB kc))) fun _ _ x=>x)
 first
  |exact VB (Vv fin)
  |exact Vv (VB (Vv fin))
  |exact Vv fin
noncomputable def Fx(ty iI:TE):TE:=fun σ H Q=>ty σ H fun y H1=>iI σ H1 fun x aM=>∃a o,x=.ref a∧lj aM a y o∧Q (.aU o.isSome) aM
noncomputable def Fy(ty iI:TE):TE:=fun σ H Q=>ty σ H fun y H1=>iI σ H1 fun x aM=>∃a o,x=.ref a∧lj aM a y o∧Q (.aU (!o.isSome)) aM
noncomputable def O8(iI ty k8:TE):et:=fun D σ H=>k8 σ H fun v H1=>iI σ H1 fun x aM=>ty σ aM fun y cy=>∃a fu,x=.ref a∧pj cy a y v fu∧D.bJ σ fu
section
variable{X:aD}{o i e value:V3}{pos pos' o7:Pos}{iI ty k8:TE}
theorem Ej(aN:X.A.units+1<XE)(af:a3 X i ty)(aB:a3 X o iI):rV X .In i o (Fx ty iI):=by intro pins s σ H Q I h;refine bA (af pins s σ H _ I h) fun mZ s1⟨y,H1,aW,bX,aQ⟩=>bA (aB pins s1 σ H1 _ aW aQ) fun u s2⟨x,aM,bT,bu,a,gA,ex,g,a9⟩=>?_;subst ex;obtain rfl:u=V2 a:=bu;exact HJ aN bT g bX fun s3 c6=>⟨.aU gA.isSome,aM,c6,rfl,a9⟩
theorem NL(aN:X.A.units+1<XE)(af:a3 X i ty)(aB:a3 X o iI):rV X .NotIn i o (Fy ty iI):=by intro pins s σ H Q I h;refine bA (af pins s σ H _ I h) fun mZ s1⟨y,H1,aW,bX,aQ⟩=>bA (aB pins s1 σ H1 _ aW aQ) fun u s2⟨x,aM,bT,bu,a,gA,ex,g,a9⟩=>?_;subst ex;obtain rfl:u=V2 a:=bu;exact HK aN bT g bX fun s3 c6=>⟨.aU (!gA.isSome),aM,c6,rfl,a9⟩
theorem Oo(aN:X.A.units+1<XE)(aB:a3 X o iI)(af:a3 X i ty)(bS:a3 X value k8)(hs:Xp value (some (.Subscript o i pos')) pos.line X.env=pure false) :
  c7 X (.Assign [.Subscript o i pos'] value pos) (O8 iI ty k8):=by
 intro pins s σ H D I h;refine wpAny_Assign_Subscript (bA (bS pins s σ H _ I h) fun r s1⟨v,H1,aW,b_,aQ⟩=>bA (aB pins s1 σ H1 _ aW aQ) fun u s2⟨x,aM,bT,bu,a9⟩=>bA (af pins s2 σ aM _ bT a9) fun mZ s3⟨y,cy,c6,bX,a,fu,ex,g,c5⟩=>?_) hs;subst ex;obtain rfl:u=V2 a:=bu;exact HM aN c6 g bX b_ fun s4 hc=>⟨σ,fu,hc,c5⟩
end
theorem H3{P:VR}{w:V9}{H:ae}(h:Wv)(J:W3<h.objs.size):eF P w H (h.push { cls:=.type "dict",data:=.dict #[] }) h.objs.size (.cA []):=
 ⟨WK _,beq_eq_false_iff_ne.mpr (Yx (VV J)),[],.nil,_,#[],0,VN _ rfl,⟨rfl,rfl,rfl⟩,rfl,rfl,List.nodup_nil⟩
def Qi:TE:=fun _ H Q=>∀p,H p=none→Q (.ref p) (upd H p (.cA []))
section
variable{X:aD}{pos:Pos}
theorem NT:a3 X (.Dict [] [] pos) Qi:=fun pins s σ H Q I h=>
 wpAny_Dict_empty ⟨.ref s.heap.objs.size,_,I.laid (a:=s.heap.objs.size) (o:=.cA []) (t':=s.toks) (fun _ _ q=>Vy _ q) (VG _) (H3 s.heap I.big),rfl,h _ (I.bw.fresh (VG _))⟩
end
section
variable{X:aD}{pins:List (VD×Obj)}{σ :St}{H:ae}{s:Vx}{a:VD}{y d:V}{u r:Vw}{o:Option V}{A:V0}{E:Vw→Vx→Prop}
end
section
variable{X:aD}{o e f:V3}{apos cpos:Pos}{iI ty Ud:TE}
end
section
variable{X:aD}{pins:List (VD×Obj)}{σ :St}{H:ae}{s:Vx}{a:VD}{a6:List (Key×V)}{A:V0}{E:Vw→Vx→Prop}
end
section
variable{X:aD}{pins:List (VD×Obj)}{σ :St}{H:ae}{s:Vx}{a:VD}{y:V}{u:Vw}{A:V0}{E:Vw→Vx→Prop}
end
end aY
namespace zq
open PySem PySem.W PySem.Calls PyProof.Rows
theorem KG{P:Params}{h:Wv}:∀(ns:List Int)(vs:List Vw),WellAll P h vs (ns.map WData.int)→IntsAre vs ns:=by
 intro ns;induction ns with
 |nil=>intro vs w;rw[List.map_nil]at w;cases w;exact .nil
 |cons n ns cW=>
  intro vs w;rw[Ws]at w;cases w with
  |cons a b=>cases a;exact .cons _ _ (cW _ b)
theorem PF{l:OpenLaw}{n:Nat}(aK:l.most=some n){P:Params}{h:Wv}{args:List WData}{vals:List Vw}(sO:l.row.toRowW.claim.pre args=true)(wz:WellAll P h vals args) :
  ∃a vs ns,vals=[V2 a]∧args=[WData.list (ns.map WData.int)]∧h.get? a=some { cls:=.type "list",data:=.seq vs.toArray }∧IntsAre vs ns∧ns.length≤n:=by
 have JI:WShape.hasAll [] args [.list .int]=true:=(pre_splitW sO).1;have aq:l.pre.holds [] { args:=args }=true:=(pre_splitW sO).2;obtain⟨d,r,rfl,h1,h2⟩:=hasAllW_cons JI;obtain rfl:=hasAllW_nil h2;obtain⟨xs,rfl,h3⟩:=hasW_list h1;obtain⟨ns,rfl⟩:=items_int h3;have hlen:ns.length≤n:=by
  unfold OpenLaw.pre at aq;have h4:(WTm.not (.lt (.lit (.int (n:Int))) (.len (.arg 0)))).holds [] { args:=[.list (ns.map .int)] }=true:=by have h4:=(holds_andW aq).1;rw[aK]at h4;exact h4
  have h5:=condW_of h4 (w_not (w_lt w_lit (w_len_list (w_arg rfl))));rw[Wq]at h5;refine Nat.le_of_not_lt fun q=>?_;have cq:(n:Int)<((ns.length:Nat):Int):=by omega
  first
   |(rw[decide_eq_true cq]at h5;exact absurd h5 (by decide))
   |(simp at h5;omega)
 cases wz with
 |cons jR iK=>
  cases iK;cases jR with
  |list aB kD=>exact⟨_,_,ns,rfl,rfl,aB,KG ns _ kD,hlen⟩
theorem Of(l:OpenLaw)(args:List WData):l.row.toRowW.claim.post args (.bool true) args=true:=
 postW_of (r:=l.row.toRowW) (X:=(true==true))
  (show WShape.has [] (.bool true) .bool=true by first|rfl|decide|simp[WShape.has,WShape.arms,WShape.armsAll])
  (show(WTm.eq .res (.lit (.bool true))).value [] { args:=args,res:=some (.bool true),after:=args }=some (.bool (true==true))from w_eq_bool (w_res rfl) w_lit) rfl
theorem G_ {l:OpenLaw} {n:Nat} {q:VR} {loose:List Str} {nS:(Str→Option Vw)→Wv→Prop} {lr:V9→Wv→Prop} {d:DefRec}(aK:l.most=some n) (qv:d.params.defaults=[])(call:∀(w:V9)(dP cH:Vx)(mg fC:Str→Option Vw)(e8:VD)(o:Obj)(pm cd doc:Vw)(a:VD)(vs:List Vw)(ns:List Int),
    Ground q loose [] nS w dP mg fC cH.heap→lr w cH.heap→
    cH.heap.get? e8=some o→o.data=.func (docDef d.name d.params d.body d.scope pm cd doc)→cH.heap.CodeRec cd d.name→mg d.name=some (.ref e8)→
    cH.heap.get? a=some { cls:=.type "list",data:=.seq vs.toArray }→IntsAre vs ns→ns.length≤n→cH.gens= #[]→
    X8 (VT l.prog w) aaj (.call (.ref e8) ⟨[.ref a],[]⟩) (fun r s'=>r=.ok (.ret (.bool true))∧OldK cH.heap s'.heap∧s'.os=cH.os∧Yw s'.gens) cH) :
  WalkO q loose nS lr l.row.toRowW d [] (fun f vs=>PySem.call f vs):=by
 intro w dP cH mg fC G Y e8 o pm cd doc se cB aB hd ei Cd qA aF args vals as sO SV S2 wz SX;obtain rfl:se=.none:=Dflts.none Cd qv;obtain rfl:cB=.none:=Dflts.noKw Cd;obtain⟨a,vs,ns,rfl,rfl,wk,hints,hlen⟩:=PF aK sO wz;refine enter_call (XH (call w dP cH mg fC e8 o pm cd doc a vs ns G Y aB (fd_plain hd) ei qA wk hints hlen aF) fun r s' aS=>?_);obtain⟨rfl,h2,h3,h4⟩:=aS;exact⟨.inl ⟨.bool true,.bool true,[],rfl,fun _=>rfl,.bool true,Of l _,fun _=>⟨YH,fun _ hm=>(nomatch hm)⟩⟩,h2,h3,h4⟩
section
variable{prog:VR}{w:V9}{A:V0}{E:Vw→Vx→Prop}{s:Vx}{K:Frag}
end
end zq
namespace aY
open PySem PySem.Spec PyProof.Rows
theorem Ge:∀{vs:List Vw}{ns:List Int},IntsAre vs ns→Vals (ns.map V.int) vs
 |_,_,.nil=>.nil
 |_,_,.cons n t h=>.cons ⟨t,rfl⟩ (Ge h)
def uZ(H:ae):Prop:=∀b,H b=none∨∃o xs,H b=some (.ix o (.lst xs))
theorem LR{P:VR}{w:V9}{K:PySem.W.Frag}{mg fC:Str→Option Vw}{CX:hZ}{k:Nat}{e8 a:VD}{fd:WM}{x:Str}{sp:hj}{cH:Vx}{vs:List Vw}{ns:List Int}(js:K.In cH.heap)(Cq:cH.heap.Ns VF mg)(J:cH.heap.Ns builtinsNs fC)(v9:∀x:Str,x≠"__name__"→fC x=WH x)(Jn:cH.heap.NoLimit)(aF:cH.gens= #[])(ah:cH.heap.get? a=some { cls:=.type "list",data:=.seq vs.toArray })(af:IntsAre vs ns)(ak:ns.length≤VP)(aw:dg k aaj)(F:∀base:Wv,K.In base→base.Ns VF mg→gs P w K mg base CX k e8 fd [x] sp)(I0:∀(s:Vx)(u:Vw),BindsTo s fd ⟨[u],[]⟩ [(x,u)])(lL:∀H:ae,uZ H→bQ K H a (ns.map V.int)→sp [.ref a] H (fun v _=>v=.aU true) fun _ _ _=>False)(vW:∀H e s',CX [] H cH (fun _ _ _=>False) e s'→False) :
  X8 (VT P w) aaj (.call (.ref e8) ⟨[.ref a],[]⟩) (fun r s'=>r=.ok (.ret (.bool true))∧OldK cH.heap s'.heap∧s'.os=cH.os∧Yw s'.gens) cH:=by
 have b_:=Ge af;have L1:=af.length
 have core:∀H:ae,uZ H→bQ K H a (ns.map V.int)→dJ P w H cH.heap→(∀b,H b≠none→b=a)→(H a≠none→K.lookup a=none)→
   X8 (VT P w) aaj (.call (.ref e8) ⟨[.ref a],[]⟩) (fun r s'=>r=.ok (.ret (.bool true))∧OldK cH.heap s'.heap∧s'.os=cH.os∧Yw s'.gens) cH:=by
  intro H sD hr bw gw aX;have AA:∀{b:VD}{o:Obj},cH.heap.get? b=some o→H b=none→(kH cH.heap H).get? b=some o:=fun e n=>Jb e n;have q9:∀{b:VD}{o:Obj}{es:Array DictEntry}{b7:Nat},cH.heap.get? b=some o→o.data=.dict es b7→H b=none:=fun{b o es b7} e d=>by
   cases q:H b with
   |none=>rfl
   |some u=>have bN:b=a:=gw b (by rw[q];simp);subst bN;rw[ah]at e;cases e;have d':Data.seq vs.toArray _=Data.dict es b7:=d;cases d'
  have tp:∀{b:VD}{m:Str→Option Vw},cH.heap.Ns b m→(kH cH.heap H).Ns b m:=fun{b m}⟨o,es,b7,e,d,r⟩=>⟨o,es,b7,AA e (q9 e d),d,r⟩;have Ce:K.In (kH cH.heap H):=fun b o e=>AA (js b o e) (by
   cases q:H b with
   |none=>rfl
   |some u=>have bN:b=a:=gw b (by rw[q];simp);subst bN;rw[aX (by rw[q];simp)]at e;cases e)
  have sC:Mod K mg (kH cH.heap H):=⟨Ce,tp Cq,⟨fC,tp J,v9⟩,let⟨tk,h1,h2⟩:=Jn;⟨tk,tp h1,h2⟩⟩;have fz:mr P w K mg (kH cH.heap H) aaj [] cH H:=⟨rfl,sC,fun b o e=>Na e,Nat.le_of_eq (Jc _ _),trivial,fun b J=>absurd (show b∈([]:List VD)from J) (by simp),bw,.of_eq aF⟩;refine XH ((F _ Ce (tp Cq)).run aaj [] cH H ⟨[.ref a],[]⟩ [.ref a] [.ref a] _ _ aw fz (I0 cH (.ref a)) (.cons rfl .nil) (lL H sD hr)) fun r s' h=>?_;cases r with
  |error e=>exact(vW H e s' h).elim
  |ok fl=>
   cases fl with
   |next=>exact WG h
   |brk=>exact WG h
   |cont=>exact WG h
   |ret u=>
    obtain⟨v,H',os,bare,un,Jy,bq,q⟩:=h;have cq:v=.aU true:=q;subst cq;obtain rfl:u=YB true:=bq;refine⟨rfl,OldK.of_keep fun b o e=>?_,os,bare⟩;cases q:H b with
    |none=>exact un.keep b o e q (by intro z;exact absurd (show b∈([]:List VD)from z) (by simp)) (by simp)
    |some u=>
     rcases sD b with z|⟨bg,xs,z⟩
     ·rw[q]at z;cases z
     ·have a7:=un.fA b bg _ z;obtain⟨ao,_⟩:=bw b _ z;obtain⟨aA,_⟩:=Jy b _ a7;rw[e]at ao;cases ao;exact aA
 cases aH:K.lookup a with
 |some o=>have e:=js a o aH;rw[ah]at e;cases e;refine core (fun _=>none) (fun _=>.inl rfl) (.inr ⟨_,vs.toArray,_,aH,rfl,rfl,rfl,by rw[VE,L1];exact ak,by simpa using b_⟩) (fun b u z=>by have gq:(none:Option dj)=some u:=z;cases gq) (fun b z=>absurd rfl z) fun z=>absurd rfl z
 |none=>
  refine core (fun b=>if b=a then some (.ix { cls:=.type "list",data:=.seq vs.toArray } (.lst (ns.map V.int)))else none) (fun b=>?_) (.inl (.inr ⟨{ cls:=.type "list",data:=.seq vs.toArray },if_pos rfl⟩)) (fun b u z=>?_) (fun b z=>?_) fun _=>aH
  ·by_cases J:b=a
   ·exact .inr ⟨_,_,if_pos J⟩
   ·exact .inl (if_neg J)
  ·by_cases J:b=a
   ·have gq:=(if_pos J).symm.trans z;cases gq;subst J;exact⟨ah,by rw[Wq];exact ak,vs,_,b_,ah⟩
   ·have gq:=(if_neg J).symm.trans z;cases gq
  ·by_cases J:b=a
   ·exact J
   ·exact absurd (if_neg J) z
theorem Ri {l:PySem.W.OpenLaw} {n k:Nat} {q:VR} {loose:List Str} {nS:(Str→Option Vw)→Wv→Prop} {lr:V9→Wv→Prop} {d:DefRec} {K:Params→PySem.W.Frag} {CX:V9→hZ} {sp:V9→hj} {x:Str}(aK:l.most=some n) (sM:n≤VP) (qv:d.params.defaults=[]) (aw:dg k aaj)(v5:∀(w:V9)(h:Wv),lr w h→(K w.params).In h)(F:∀(w:V9)(mg:Str→Option Vw)(e8:VD)(h:Wv),(K w.params).In h→h.Ns VF mg→mg d.name=some (.ref e8)→
    ∃fd:WM,(∀(s:Vx)(u:Vw),BindsTo s fd ⟨[u],[]⟩ [(x,u)])∧
     ∀base:Wv,(K w.params).In base→base.Ns VF mg→gs l.prog w (K w.params) mg base (CX w) k e8 fd [x] (sp w))
  (lL:∀(w:V9)(H:ae)(a:VD)(ns:List Int),ns.length≤n→uZ H→bQ (K w.params) H a (ns.map V.int)→sp w [.ref a] H (fun v _=>v=.aU true) fun _ _ _=>False)
  (vW:∀(w:V9)(H:ae)(s:Vx)(e:Vw)(s':Vx),CX w [] H s (fun _ _ _=>False) e s'→False) :
  PySem.W.WalkO q loose nS lr l.row.toRowW d [] (fun f vs=>PySem.call f vs):=by
 refine zq.G_ aK qv fun w dP cH mg fC e8 o pm cd doc a vs ns G Y aB hd ei qA wk hints hlen aF=>?_;have js:=v5 w _ Y;obtain⟨fd,J,i3⟩:=F w mg e8 _ js G.T.g qA;exact LR js G.T.g G.T.b G.T.builtins G.T.nolimit aF wk hints (V7 hlen sM) aw i3 J (fun H sD hr=>lL w H a ns hlen sD hr) fun H e s'=>vW w H cH e s'
noncomputable def inClass(s:WO)(j:Nat):WO:=match s with
 |.ClassDef _ _ _ body _ _ _ _ _ _ _=>body.getD j (.Pass ⟨0,0,0,0⟩)
 |_=>.Pass ⟨0,0,0,0⟩
noncomputable def iu(s:WO):Arguments:=match s with
 |.FunctionDef _ a _ _ _ _ _ _ _ _=>a
 |_=>{ posonlyargs:=[],args:=[],vararg:=none,kwonlyargs:=[],kw_defaults:=[],kwarg:=none,defaults:=[] }
def fy(s:WO):List WO:=match s with
 |.FunctionDef _ _ b _ _ _ _ _ _ _=>b
 |_=>[]
noncomputable def bW(s:WO):WX:=match s with
 |.FunctionDef _ _ _ _ _ _ sc _ _ _=>sc
 |_=>{ kind:=.function,names:=[],isGenerator:=false,isCoroutine:=false }
abbrev ha:hZ:=fun _ _ _ _ _ _=>False
abbrev E0:cj:=fun _ _ _=>False
theorem xn{X:aD}:Passes ha X E0:=fun _ _ _ _ _ _ _ h=>h.elim
structure jV(K:PySem.W.Frag)(x qual:Str)(st:WO)(f:VD)(fd:WM):Prop where
 ex:∃(eu:Vw)(dh:Option VD)(cB doc pm:Vw)(an:Option VD)(b6 cv:Vw)(jd:Array (Option Vw)),
  fd=PySem.W.fnOf x qual (iu st) (fy st) (bW st) .none cB doc pm an b6 cv∧K.lookup f=some ⟨eu,dh,.func fd,jd⟩∧PySem.W.codeIn K b6 qual=true
 aG:PySem.W.keepIn K (.ref f)=true
section
variable{P:VR}{w:V9}{K:PySem.W.Frag}{mg:Str→Option Vw}{base:Wv}
theorem jV.ok {x qual:Str} {st:WO} {f:VD} {fd:WM} {N aP:List Str} {k:Nat} {sp:hj} (F:jV K x qual st f fd) (S:c1 N aP (bW st)) (len:∀vs H Q E,sp vs H Q E→vs.length=aP.length)(v_:∀(b6:Vw)(A:V0)(outer:List Env)(s:Vx)(H:ae)(vs:List V)(Q:cD)(E:cj),dg k (A.deeper (aap qual (bW st) s.heap.objs.size f b6))→sp vs H Q E→
    ∃t,fv (d4 ha P w K mg base N qual (bW st) f b6 A outer s H E).fL (fy st) t∧t { bJ:=fun _ H'=>Q .non H',eA:=Q } (start N vs) H):gs P w K mg base ha (k+1) f fd aP sp:=by
 obtain⟨eu,dh,cB,doc,pm,an,b6,cv,jd,rfl,lk,ei⟩:=F.ex;refine vN lk ei S len fun A outer s H vs Q E aw lL=>?_;obtain⟨t,h,q⟩:=v_ b6 A outer s H vs Q E aw lL;exact⟨t,h.fL,q⟩
theorem jV.binds{x qual:Str}{st:WO}{f:VD}{fd:WM}{aP:List Str}(F:jV K x qual st f fd)(h:∀(cB doc pm:Vw)(an:Option VD)(b6 cv:Vw)(us:List Vw),us.length=aP.length→Z5 (PySem.W.fnOf x qual (iu st) (fy st) (bW st) .none cB doc pm an b6 cv) ⟨us,[]⟩=pure (aP.zip us)):Binds K fd aP []:=by obtain⟨eu,dh,cB,doc,pm,an,b6,cv,jd,rfl,lk,ei⟩:=F.ex;exact .all (h cB doc pm an b6 cv)
theorem mS{x qual:Str}{st:WO}{f:VD}{eu:Vw}{dh an:Option VD}{jd:Array (Option Vw)}{cB doc pm b6 cv:Vw}(l:K.lookup f=some ⟨eu,dh,.func (PySem.W.fnOf x qual (iu st) (fy st) (bW st) .none cB doc pm an b6 cv),jd⟩)(c:PySem.W.codeIn K b6 qual=true)(k:PySem.W.keepIn K (.ref f)=true):jV K x qual st f (PySem.W.fnOf x qual (iu st) (fy st) (bW st) .none cB doc pm an b6 cv):=⟨⟨eu,dh,cB,doc,pm,an,b6,cv,jd,rfl,l,c⟩,k⟩
end
section
variable{X:aD}
end
def nQ(H H':ae):Prop:=∀b o,H b=some o→H' b=some o
theorem nQ.trans{H H1 aM:ae}(a:nQ H H1)(b:nQ H1 aM):nQ H aM:=fun c o h=>b c o (a c o h)
theorem nQ.seq{K:PySem.W.Frag}{H H':ae}{a:VD}{xs:List V}(e:nQ H H')(h:bQ K H a xs):bQ K H' a xs:=by
 rcases h with(h|⟨o,h⟩)|h
 ·exact .inl (.inl (e _ _ h))
 ·exact .inl (.inr ⟨o,e _ _ h⟩)
 ·exact .inr h
section
variable{X:aD}
end
section
variable{cU:Type}[DecidableEq cU]
end
structure jo(P:VR)(w:V9)(outer:List Env)(H H':ae)(s:Vx)(a:VD)(C a0:Vw)(B:Wv)(s':Vx):Prop where
 os:s'.os=s.os
 bare:Yw s'.gens
 un:d2 (cZ outer) [] H H' s.heap s'.heap
 hp:Heap.FlyingW B outer a C a0 s'.heap
 old:∀b o,s.heap.get? b=some o→H b=none→b∉cZ outer→B.get? b=some o
 jP:∀b o,s.heap.get? b=some o→b∉cZ outer→∃bk,B.get? b=some bk
 bw:dJ P w H' B
 ah:H' a=none
noncomputable def dQ(P:VR)(w:V9):hZ:=fun outer H s E e s'=>∃(a:VD)(C a0:Vw)(B:Wv)(H':ae),e=.ref a∧jo P w outer H H' s a C a0 B s'∧E C (some a) H'
section
variable{X:aD}{pins:List (VD×Obj)}{σ :St}{H H':ae}{s s':Vx}{a:VD}{C a0:Vw}{B:Wv}
theorem dJ.part(x:dJ X.prog X.w H s.heap)(k:∀b u,(H b).isSome=true→s.heap.get? b=some u→B.get? b=some u):dJ X.prog X.w H B:=fun b o e=>
 (x b o e).jN (fun c u aq q=>k c u (by rcases aq with rfl|aq<;>simp[*]) q) (fun _ q=>q) fun _ _ q=>q
theorem vQ{env:Env}{outer:List Env}{L:VD}(h:env.frame=some L){b:VD}(J:b∈cZ (env::outer)):b=L∨b∈cZ outer:=by unfold cZ at J;rw[WJ,h]at J;exact List.mem_cons.mp J
theorem Inv.LZ{M:Model}{A:V0}{E:Vw→Vx→Prop}{h':Wv}{vs:List Vw}{Q:Unit→Vx→Prop}(I:Inv X pins σ H s)(dF:X.stack=X.env::X.outer)(g0:X.env.frame=some X.env.locals)(hex:X.ex=[])(gw:A.frames=some X.stack)(av:Heap.MadeExcOf s.heap h' a C vs)(fj:∀a0 B eo,jo X.prog X.w X.outer X.iS H X.dP a C a0 B eo→Q () eo):VL M A (aah X.env (.ref a)) Q E { s with heap:=h' }:=by
 have Jf:∀env∈X.stack,∀b,env.frame=some b→b∈cZ X.stack:=fun env he b J=>List.mem_filterMap.mpr ⟨env,he,J⟩;have i2:∀b o,s.heap.get? b=some o→b∉cZ X.stack→(PySem.W.hideAll s.heap (cZ X.stack)).get? b=some o:=fun b o q n=>PySem.W.hideAll_get _ q n;have hO:∀b o,X.dP.heap.get? b=some o→b∉cZ X.outer→b∉cZ X.stack:=fun b o q n z=>by
  rw[dF]at z;rcases vQ g0 z with r|r
  ·subst r;exact absurd (VJ (VH q) I.ok.above) (Wi _)
  ·exact n r
 have d_:∀b,b∉X.ex:=fun b z=>by rw[hex]at z;cases z
 refine PySem.wpAny_leaves_madeW (base:=PySem.W.hideAll s.heap (cZ X.stack)) (h:=s.heap) (by rw[gw,dF]) g0 (fun b o q=>PySem.W.of_hideAll _ q) (by have:=PySem.W.funFrames_hide (as:=cZ X.stack) I.stack Jf;rw[dF]at this ⊢;exact this) av fun iy t eC fo k9 jk=>?_;refine fj (.ref t) (PySem.W.hideAll s.heap (cZ X.stack)) _ ⟨I.os,I.bare,⟨?_,?_,?_,?_,I.base.fP,I.base.fA,I.base.fN⟩,eC,?_,?_,?_,?_⟩
 ·exact fun b o q n J _=>eC.1 b o (i2 b o (I.base.keep b o q n J (d_ b)) (hO b o q J))
 ·intro b o q n J _;obtain⟨cb,aQ⟩:=I.base.slot b o q n J (d_ b);obtain⟨_,bk,cq,fZ⟩:=I.ok.gI.mem J;rw[q]at cq;cases cq;obtain⟨oZ,a9⟩:=jk b _ (av.keeps b _ aQ) fZ;exact⟨oZ,a9⟩
 ·exact fun b o q n _=>I.base.free b o q n (d_ b)
 ·intro b o q _;by_cases J:b∈cZ X.outer
  ·obtain⟨_,bk,cq,_⟩:=eC.2.2.1.mem J;exact⟨bk,cq⟩
  ·obtain⟨bk,cq⟩:=I.base.there b o q (d_ b);exact⟨bk,eC.1 b bk (i2 b bk cq (hO b o q J))⟩
 ·exact fun b o q n J=>i2 b o (I.base.keep b o q n J (d_ b)) (hO b o q J)
 ·intro b o q J;obtain⟨bk,cq⟩:=I.base.there b o q (d_ b);exact⟨bk,i2 b bk cq (hO b o q J)⟩
 ·exact dJ.part (X:=X) (s:=s) I.bw fun b u hs q=>i2 b u q fun z=>by rw[I.yD b z]at hs;cases hs
 ·cases q:H a with
  |none=>rfl
  |some o=>
   have k:∀o:dj,eF X.prog X.w H s.heap a o→∃u,s.heap.get? a=some u:=fun o x=>by
    induction o with
    |lst xs=>obtain⟨_,_,_,_,e⟩:=x;exact⟨_,e⟩
    |tup xs=>obtain⟨_,_,_,_,e,_⟩:=x;exact⟨_,e⟩
    |dc a6=>obtain⟨_,_,_,_,o,_,_,e,_⟩:=x;exact⟨_,e⟩
    |cA a6=>obtain⟨_,_,_,_,o,_,_,e,_⟩:=x;exact⟨_,e⟩
    |set S n=>obtain⟨o,_,_,_,e,_⟩:=x;exact⟨_,e⟩
    |ins C a5 aT=>obtain⟨_,_,_,e,_⟩:=x;exact⟨_,e⟩
    |own y=>obtain⟨_,e⟩:=x;exact⟨_,e⟩
    |uj aT=>obtain⟨_,⟨_,_,_,e,_⟩,_⟩:=x;exact⟨_,e⟩
    |tK lo af=>obtain⟨_,_,_,e⟩:=x;exact⟨_,e⟩
    |ix bg u=>obtain⟨e,_⟩:=x;exact⟨_,e⟩
    |mb aP=>exact⟨_,(show s.heap.get? a=some _ from x)⟩
    |met f y=>exact⟨_,(show s.heap.get? a=some _ from x)⟩
    |ext nC=>obtain⟨_,⟨_,e⟩,_⟩:=x;exact⟨_,e⟩
   obtain⟨u,e⟩:=k o (I.bw a o q);rw[av.new]at e;cases e
theorem Inv.L0{M:Model}{A:V0}{E:Vw→Vx→Prop}{Q:Unit→Vx→Prop}(I:Inv X pins σ H s)(dF:X.stack=X.env::X.outer)(g0:X.env.frame=some X.env.locals)(hex:X.ex=[])(gw:A.frames=some X.stack)(f:jo X.prog X.w X.stack H H' s a C a0 B s')(fj:∀eo,jo X.prog X.w X.outer X.iS H' X.dP a C a0 B eo→Q () eo):VL M A (aah X.env (.ref a)) Q E s':=by
 have hO:∀b o,X.dP.heap.get? b=some o→b∉cZ X.outer→b∉cZ X.stack:=fun b o q n z=>by
  rw[dF]at z;rcases vQ g0 z with r|r
  ·subst r;exact absurd (VJ (VH q) I.ok.above) (Wi _)
  ·exact n r
 have wm:∀b,b∈cZ X.outer→b∈cZ X.stack:=fun b z=>by rw[dF];unfold cZ;rw[WJ,g0];exact VC _ z
 have d_:∀b,b∉X.ex:=fun b z=>by rw[hex]at z;cases z
 have no:∀b:VD,b∉([]:List VD):=fun b z=>by cases z
 obtain⟨os,bare,un,hp,old,jP,bw,ah⟩:=f;rw[dF]at hp;refine PySem.wpAny_leaves_onW (by rw[gw,dF]) g0 hp fun iy eC fo=>?_;refine fj _ ⟨os.trans I.os,bare,⟨?_,?_,?_,?_,fun b xs q=>un.fP b xs (I.base.fP b xs q),fun b o u q=>un.fA b o u (I.base.fA b o u q),?_⟩,eC,?_,?_,bw,ah⟩
 ·exact fun b o q n J _=>eC.1 b o (old b o (I.base.keep b o q n J (d_ b)) (I.base.free b o q n (d_ b)) (hO b o q J))
 ·intro b o q n J _;obtain⟨cb,aQ⟩:=I.base.slot b o q n J (d_ b);obtain⟨_,bk,cq,fZ⟩:=I.ok.gI.mem J;rw[q]at cq;cases cq;obtain⟨PK,a9⟩:=un.slot b _ aQ (I.base.free b o q n (d_ b)) (wm b J) (no b);obtain⟨oZ,c5⟩:=fo b _ a9 fZ;exact⟨oZ,c5⟩
 ·intro b o q n _;obtain⟨bk,cq⟩:=I.base.there b o q (d_ b);exact un.free b bk cq (I.base.free b o q n (d_ b)) (no b)
 ·intro b o q _;by_cases J:b∈cZ X.outer
  ·obtain⟨_,bk,cq,_⟩:=eC.2.2.1.mem J;exact⟨bk,cq⟩
  ·obtain⟨bk,cq⟩:=I.base.there b o q (d_ b);obtain⟨b2,a9⟩:=jP b bk cq (hO b o q J);exact⟨b2,eC.1 b b2 a9⟩
 ·intro b aP q;obtain⟨gz,ao⟩:=I.base.fN b aP q;obtain⟨g5,aA⟩:=un.fN b _ ao;exact⟨gz++g5,by rw[aA,XM]⟩
 ·exact fun b o q n J=>old b o (I.base.keep b o q n J (d_ b)) (I.base.free b o q n (d_ b)) (hO b o q J)
 ·intro b o q J;obtain⟨bk,cq⟩:=I.base.there b o q (d_ b);exact jP b bk cq (hO b o q J)
end
theorem Ih{K:PySem.W.Frag}{h:Wv}{C:VD}{pR:List Vw}{newId:String}(X:K.In h)(q:PySem.W.excIn K C pR newId=true) :
  ∃bm N nm q bs hdct sn sub ab col dd k0 k1 k2 k3 k5 mN,h.get? C=some (excClassObj nm q C N bs bm hdct sn sub ab col dd k0 k1 k2 k3 k5 newId)∧h.Ns N mN∧mN "__init__"=none∧OwnTail h pR bm:=by
 unfold PySem.W.excIn at q
 split at q
 ·rename_i dd cd cb aB
  split at q
  ·rename_i hY bm k0 k1 k2 k3 n k5 hm hs;simp only[V6,beq_iff_eq,YI]at q;obtain⟨⟨⟨⟨⟨rfl,rfl⟩,Ck⟩,bH⟩,bw⟩,sN⟩:=q;obtain⟨nm,bs,mro,ns,qn,hd,sn,sub,ab,col,del⟩:=cd;dsimp only at hm Ck bw sN;subst hm Ck;have JJ:cb= #[k0,k1,k2,k3,some (.builtin n),k5]:=by
    obtain⟨l⟩:=cb;simp only at hs;rw[hs]
   subst JJ;exact⟨bm,ns,nm,qn,bs,hd,sn,sub,ab,col,dd,k0,k1,k2,k3,k5,_,X _ _ aB,.of_isNs (PySem.W.isNs_of_in X bw),PySem.W.nsMap_none_of_in X bw sN,PySem.W.tail_of_in X bH⟩
  ·cases q
 ·cases q
noncomputable def FK(X:aD)(C:VD):et:=fun _ σ H=>∀pins s h' a vs,Inv X pins σ H s→Heap.MadeExcOf s.heap h' a (.ref C) vs→X.xe (.ref a) { s with heap:=h' }
section
variable{X:aD}{x:Str}{np cpos pos cp:Pos}{C:VD}{pR:List Vw}{B newId KA:String}{m:Str}{j:Nat}
theorem Ov(FB:ExcBaseFacts B newId KA pR)(q:PySem.W.excIn X.K C pR newId=true)(hm:X.mg x=some (.ref C))(aq:X.calm=true:=by rfl)(aF:da X x:=by rfl)(hd:(x==("__debug__" :Str))=false:=by decide) :
  c7 X (.Raise (some (.Call (.Name x np) [.Constant (.str m) j cp] [] cpos)) none pos) (FK X C):=by
 intro pins s σ H D I h;obtain⟨bm,N,nm,qn,bs,hdct,sn,sub,ab,col,dd,k0,k1,k2,k3,k5,mN,eP,bR,sN,zJ⟩:=Ih I.mod.kd q;refine wpAny_Raise_call_subT (mN:=mN) (C:=C) (nm:=nm) (q:=qn) (N:=N) (bs:=bs) (bm:=bm) (hdct:=hdct) (sn:=sn) (sub:=sub) (ab:=ab) (col:=col) (dd:=dd) (k0:=k0) (k1:=k1) (k2:=k2) (k3:=k3) (k5:=k5) FB (zJ.hasType FB.hasBase) (I.ok.hd aq) rfl sN (ov I aF hm ⟨rfl,?_⟩ hd);refine Zu (Calls.spliced_cons (bA (xq (X:=X) (x:=m) (j:=j) (pos:=cp) pins s σ H (fun _ H1=>H1=H) I rfl) fun u s1⟨v,H1,aW,au,ao⟩=>?_));subst ao;refine Calls.spliced_nil ⟨rfl,Wh rfl,aW.ey _ _ eP,bR.keeps aW.ey,zJ.keeps aW.ey,fun h' a av=>h pins s1 h' a _ aW av⟩
theorem RA{P:VR}{w:V9}{K:PySem.W.Frag}{mg:Str→Option Vw}{base:Wv}{N:List Str}{qual:Str}{scope:WX}{f:VD}{cd:Vw}{A:V0}{outer:List Env}{s0:Vx}{H0:ae}{E:cj}{σ :St}{H:ae}{cf:Ends}(h:∀a,H a=none→E (.ref C) (some a) H):FK (d4 (dQ P w) P w K mg base N qual scope f cd A outer s0 H0 E) C cf σ H:=fun pins s h' a vs I av=>
 I.LZ (C:=.ref C) rfl rfl rfl I.ok.frames av fun a0 B eo fl=>⟨a,.ref C,a0,B,H,rfl,fl,h a fl.ah⟩
theorem gh{P:VR}{w:V9}{K:PySem.W.Frag}{mg:Str→Option Vw}{base:Wv}{N:List Str}{qual:Str}{scope:WX}{f:VD}{cd:Vw}{A:V0}{outer:List Env}{s0:Vx}{H0:ae}{E:cj} :
  Passes (dQ P w) (d4 (dQ P w) P w K mg base N qual scope f cd A outer s0 H0 E) E:=fun pins σ H s e s' I av=>by
 obtain⟨a,C,a0,B,H',rfl,fl,gx⟩:=av;exact I.L0 (X:=d4 (dQ P w) P w K mg base N qual scope f cd A outer s0 H0 E) rfl rfl rfl I.ok.frames fl fun eo Iu=>⟨a,C,a0,B,H',rfl,Iu,gx⟩
end
abbrev n7(a:VD)(C:Vw):dj:=.ext fun h=>∃bg,h.get? a=some bg∧bg.cls=C
section
variable{X:aD}{pins:List (VD×Obj)}{σ :St}{H H':ae}{s s':Vx}{a:VD}{C a0:Vw}{B:Wv}{iy:Wv}
theorem jo.inv(f:jo X.prog X.w X.stack H H' s a C a0 B s')(I:Inv X pins σ H s)(st:B.StaysIn iy)(vK:iy.FunFrames B X.stack)(up:s'.heap.UpToSlots iy):Inv X pins σ H' { s' with heap:=iy }:=by
 have no:∀b:VD,b∉([]:List VD):=fun b z=>by cases z
 refine I.AK (s':={ s' with heap:=iy }) (ch:=[]) f.os ⟨fun b o q n J _=>st b o (f.old b o q n J),fun b o q n J _=>?_,f.un.free,fun b o q _=>?_,f.un.fP,f.un.fA,f.un.fN⟩ (f.bw.kept fun b u q=>st b u q) f.bare (fun b J=>nomatch J)
 ·obtain⟨cb,aQ⟩:=f.un.slot b o q n J (no b);obtain⟨_,bk,cq,fZ⟩:=I.stack.mem J;rw[q]at cq;cases cq;obtain⟨oZ,a9⟩:=up b _ aQ fZ;exact⟨oZ,a9⟩
 ·by_cases J:b∈cZ X.stack
  ·obtain⟨_,bk,cq,_⟩:=vK.mem J;exact⟨bk,cq⟩
  ·obtain⟨bk,cq⟩:=f.jP b o q J;exact⟨bk,st b bk cq⟩
theorem jo.tn(f:jo X.prog X.w X.stack H H' s a C a0 B s'){b:VD}{o:Obj}(q:s.heap.get? b=some o):b≠a:=by
 rintro rfl;by_cases J:b∈cZ X.stack
 ·obtain⟨_,bk,cq,fZ⟩:=f.hp.2.2.1.mem J;obtain⟨kh,vs,T,jF,bB,he,aq,hd,_⟩:=f.hp.2.2.2;rw[cq]at he;cases he;exact fZ vs hd
 ·obtain⟨bk,cq⟩:=f.jP b o q J;rw[f.hp.2.1]at cq;cases cq
theorem jo.QU(f:jo X.prog X.w X.stack H H' s a C a0 B s')(I:Inv X pins σ H s)(hex:X.ex=[])(st:B.StaysIn iy)(vK:iy.FunFrames B X.stack)(up:s'.heap.UpToSlots iy)(bg:∃o,iy.get? a=some o∧o.cls=C) :
  Inv X pins σ (upd H' a (n7 a C)) { s' with heap:=iy }:=by
 have br:=f.inv I st vK up;have d_:∀b,b∉X.ex:=fun b z=>by rw[hex]at z;cases z
 have na:∀{b:VD}{u:dj},H' b=some u→b≠a:=fun{b u} q=>g6 q f.ah;have old:∀{b:VD}{o:Obj},X.dP.heap.get? b=some o→b≠a:=fun{b o} q=>by obtain⟨bk,cq⟩:=I.base.there b o q (d_ b);exact f.tn cq
 refine⟨br.ok,br.os,br.bare,⟨br.base.keep,br.base.slot,fun b o q n av=>?_,br.base.there,fun b xs q=>?_,fun b o u q=>?_,fun b aP q=>?_⟩,br.loc,br.cell,?_,fun x c e=>?_,fun p bf=>?_,fun b o q=>?_,br.len⟩
 ·rw[cY (old q)];exact br.base.free b o q n av
 ·have:=br.base.fP b xs q;rw[cY (na this)];exact this
 ·have:=br.base.fA b o u q;rw[cY (na this)];exact this
 ·obtain⟨m,e⟩:=br.base.fN b aP q;exact⟨m,by rw[cY (na e)];exact e⟩
 ·obtain⟨m,⟨o,_,_,aB,_⟩,_⟩:=I.loc;rw[cY (f.tn aB)];exact br.free
 ·obtain⟨v,o,aB,_⟩:=I.cell x c e;rw[cY (f.tn aB)];exact br.hM x c e
 ·obtain⟨e,n,r⟩:=br.pin p bf;obtain⟨fz,_⟩:=I.pin p bf;exact⟨e,by rw[cY (f.tn fz)];exact n,r⟩
 ·by_cases J:b=a
  ·subst J;rw[dI]at q;cases q;obtain⟨o,e,c⟩:=bg;exact⟨⟨o,e,c⟩,⟨o,e⟩,fun h1 h2⟨cG,ao,bE⟩ k=>⟨cG,k cG ao,bE⟩⟩
  ·rw[cY J]at q;exact(br.bw b o q).jN (fun c v _ r=>r) (fun c r=>by rw[cY (na r)];exact r) fun c xs r=>by rw[cY (na r)];exact r
end
noncomputable def GN(X:aD)(e:V3)(t:TE)(E:cj):Prop:=∀(pins:List (VD×Obj))(s:Vx)(σ :St)(H:ae)(Q:cD),Inv X pins σ H s→t σ H Q→
 VL (VT X.prog X.w) X.A (WW e X.env) (eS X pins σ Q) (fun x s'=>∃H1 s1,Inv X pins σ H1 s1∧dQ X.prog X.w X.stack H1 s1 E x s') s
section
variable{X:aD}{k:Nat}{f C:VD}{fd:WM}{aP:List Str}{sp:hj}{E:cj}{x:Str}{p pos:Pos}{e:V3}{es:List V3}{t:eK}
theorem N6(F:gs X.prog X.w X.K X.mg X.base (dQ X.prog X.w) k f fd aP sp)(aw:dg k X.A)(aF:da X x)(hm:X.mg x=some (.ref f))(aH:PySem.W.keepIn X.K (.ref f)=true)(J:Binds X.K fd aP [])(ah:e6 X.fL (e::es) t)(e2:(x==("__debug__" :Str))=false:=by decide)(he:VA (e::es) X.env=(false,WW e X.env)::VA es X.env:=by rfl)(cI:(Wu pos (VA es X.env)).any (·.1)=false:=by rfl) :
  GN X (.Call (.Name x p) (e::es) [] pos) (o4 sp [] E t) E:=by
 intro pins s σ H Q I h;refine W5 (ov I aF hm ?_ e2);refine PySem.W.callWith_K (h₀:=X.base) I.ok.mod.kd aH (V1 (ah pos pins s σ H _ (I.gT _) h) (fun us s1⟨vs,H1,aW,r,q⟩=>⟨aW.gm.ej,?_⟩) fun _ _ z=>z.elim) he cI;have br:=aW.gm;replace q:sp (vs++[]) H1 Q E:=q;rw[WD]at q;have ak:us.length=aP.length:=by rw[←r.length];exact F.len _ _ _ _ q
 refine YE (XH (F.run X.A X.stack s1 H1 ⟨us,[]⟩ us vs Q E aw br.vA (by have:=J s1 us br.ej (by rw[WD];exact ak);rw[WD]at this;exact this) r q) fun r s' aS=>?_);cases r with
 |error e=>exact⟨H1,s1,br,aS⟩
 |ok fl=>
  cases fl with
  |ret u=>exact br.after aS
  |next=>exact WG aS
  |brk=>exact WG aS
  |cont=>exact WG aS
end
abbrev aD.marked(X:aD)(a:VD):aD:={ X with A:=X.A.mark (some (.ref a)),calm:=false,xe:=fun _ _=>False }
section
variable{X:aD}{pins:List (VD×Obj)}{σ :St}{H H':ae}{s s':Vx}{a:VD}
theorem aD.Ok.marked(ok:X.Ok)(a:VD):(X.marked a).Ok:=
 ⟨ok.mod,ok.kind,ok.glob,ok.blt,ok.above,ok.inj,ok.has,ok.nZ,(fun z=>Bool.noConfusion z),ok.frames,ok.rp,ok.vG,ok.bs,ok.kz,ok.lZ,ok.qb,ok.gI,ok.lH⟩
theorem Inv.marked(I:Inv X pins σ H s)(a:VD):Inv (X.marked a) pins σ H s:=⟨I.ok.marked a,I.os,I.bare,I.base,I.loc,I.cell,I.free,I.hM,I.pin,I.bw,I.len⟩
theorem Inv.unmarked(ok:X.Ok)(I:Inv (X.marked a) pins σ H s):Inv X pins σ H s:=⟨ok,I.os,I.bare,I.base,I.loc,I.cell,I.free,I.hM,I.pin,I.bw,I.len⟩
theorem Inv.unset{i:Nat}{n:Str}{m:Str→Option Vw}{v:Option Vw}{h':Wv}{cK:Nat}(I:Inv X pins σ H s)(bR:X.N.Nodup)(af:X.N[i]?=some n)(ak:∀(i:Nat)(x:Str)(v:V),X.N[i]?=some x→ σ[i]?=some (some v)→hJ X.env.scope x→∃u,RelV v u∧Look X.env s.heap m x u)(aK:s.heap.Ns X.env.locals m)(qB:h'.Ns X.env.locals (fun y=>if y=n then v else m y))(hs:Wm X.env.locals s.heap h'):Inv X pins (σ.set i none) H { s with heap:=h',toks:=cK }:=by
 have ne:∀{b:VD}{o:Obj},X.dP.heap.get? b=some o→b≠X.env.locals:=fun{b o} e=>VV (VJ (VH e) I.ok.above);have cell:∀x c v,X.env.cells.lookup x=some c→s.heap.IsCell c v→h'.IsCell c v:=fun x c v e⟨o,aB,hd⟩=>⟨o,(hs.2 c (I.lB x c e)).trans aB,hd⟩;refine⟨I.ok,I.os,I.bare,⟨fun b o e n J av=>(hs.2 b (ne e)).trans (I.base.keep b o e n J av),fun b o e n J av=>?_,I.base.free,fun b o e av=>?_,I.base.fP,I.base.fA,I.base.fN⟩,⟨_,qB,fun j y iJ ao aA b9=>?_⟩,fun y c e=>?_,I.free,I.hM,fun p bf=>?_,fun b bg e=>?_,by simpa using I.len⟩
 ·obtain⟨cb,ao⟩:=I.base.slot b o e n J av;exact⟨cb,(hs.2 b (ne e)).trans ao⟩
 ·obtain⟨bk,ao⟩:=I.base.there b o e av;exact⟨bk,(hs.2 b (ne e)).trans ao⟩
 ·have cV:j≠i:=by
    rintro rfl;rw[YJ]at aA
    split at aA
    ·split at aA<;>cases aA
    ·exact absurd rfl ‹_›
  rw[WE (Yx cV)]at aA;obtain⟨u,r,l⟩:=ak j y iJ ao aA b9;refine⟨u,r,?_⟩;rcases l with⟨k,q⟩|⟨k,c,q,z⟩
  ·refine .inl ⟨k,?_⟩;show(if y=n then v else m y)=some u;rw[if_neg (fun z:y=n=>cV (xj bR ao (by rw[z];exact af)))];exact q
  ·exact .inr ⟨k,c,q,cell _ _ _ q z⟩
 ·obtain⟨v,z⟩:=I.cell y c e;exact⟨v,cell y c v e z⟩
 ·obtain⟨e,n,ne',fZ,d⟩:=I.pin p bf;exact⟨(hs.2 _ ne').trans e,n,ne',fZ,d⟩
 ·have gK:H X.env.locals=none:=I.free;refine(I.bw b bg e).jN (fun c f3 aq q=>(hs.2 c ?_).trans q) (fun _ q=>q) fun _ _ q=>q;rintro rfl;rcases aq with rfl|aq
  ·rw[gK]at e;cases e
  ·rw[gK]at aq;cases aq
theorem ue{M:Model}{A:V0}{E:Vw→Vx→Prop}{i:Nat}{n:Str}{pos:Pos}{Q:Unit→Vx→Prop}(I:Inv X pins σ H s)(bR:X.N.Nodup)(af:X.N[i]?=some n)(ak:X.env.scope.names.lookup n=some .local)(h:∀s',Inv X pins (σ.set i none) H s'→Q () s'):VL M A (do bindName X.env n .none;unbindBehindTheSuite X.env n pos) Q E s:=by obtain⟨m,aK,sJ⟩:=id I.loc;exact wpAny_nameGoes_keeps ak aK (by rw[I.ok.kind];rfl) fun h' v qB hs=>h _ (I.unset bR af sJ aK qB hs)
end
section
variable{X:aD}{i:Nat}{x n:Str}{W:VD}{e:V3}{cQ:TE}{E:cj}{r7:WO}{tX:List WO}{bB:et}{tE np bf pos:Pos}
end
noncomputable def d8(env:Env):List (Str×XB)→List (Str×VD)→List (Str×VD)
 |[],cs=>cs
 |(x,k)::r,cs=>d8 env r (if k==.free then(x,(env.cells.lookup x).getD 0)::cs else cs)
theorem AM{env:Env}:∀(names:List (Str×XB))(cs:List (Str×VD)),(∀p∈names,p.2=.free→∃c,env.cells.lookup p.1=some c)→
 (forIn (m:=Sem) names cs fun(x:Str×XB) cs=>if(x.2==We)=true then do
   let a ←cellOf env x.1
   pure (WZ ((x.1,a)::cs))else pure (WZ cs))=pure (d8 env names cs)
 |[],cs,_=>rfl
 |(x,k)::r,cs,h=>by
  rw[Zb];have cW:=AM (env:=env) r;by_cases aH:k=.free
  ·subst aH;obtain⟨c,aq⟩:=h (x,.free) V5 rfl;have ao:cellOf env x=pure c:=by unfold cellOf;rw[aq]
   simp only[beq_self_eq_true,if_true,d8,ao,aq,XC,pure_bind];exact cW _ fun p bf=>h p (VC _ bf)
  ·have J:(k==We)=false:=by simpa using aH
   simp only[J,Wy,if_false,d8,pure_bind];exact cW _ fun p bf=>h p (VC _ bf)
theorem sb{env:Env}{scope:WX}(h:∀p∈scope.names,p.2=.free→∃c,env.cells.lookup p.1=some c):closureFor scope env=pure (d8 env scope.names []):=by
 have e:=AM (env:=env) scope.names [] h;unfold closureFor
 refine Eq.trans (b:=(forIn (m:=Sem) scope.names [] fun(x:Str×XB) cs=>if(x.2==We)=true then do
   let a ←cellOf env x.1
   pure (WZ ((x.1,a)::cs))else pure (WZ cs))>>=pure) rfl ?_
 rw[e];rfl
theorem vo{env:Env}{x:Str}:∀(names:List (Str×XB))(cs:List (Str×VD)),(∀p∈names,p.2=.free→∃c,env.cells.lookup p.1=some c)→
  (d8 env names cs).lookup x=if(x,We)∈names then env.cells.lookup x else cs.lookup x
 |[],cs,_=>by simp[d8]
 |(y,k)::r,cs,h=>by
  rw[d8,vo r _ fun p bf=>h p (VC _ bf)];by_cases hm:(x,We)∈r
  ·rw[if_pos hm,if_pos (VC _ hm)]
  ·rw[if_neg hm];by_cases aH:k=.free
   ·subst aH;obtain⟨c,aq⟩:=h (y,.free) V5 rfl;by_cases av:x=y
    ·subst av;rw[if_pos V5];simp[XD,aq]
    ·have nm:¬(x,We)∈(y,We)::r:=fun z=>by
       rcases List.mem_cons.mp z with e|e
       ·exact av (by injection e)
       ·exact hm e
     rw[if_neg nm];have J:(x==y)=false:=by simpa using av
     simp[XD,J]
   ·have J:(k==We)=false:=by simpa using aH
    have nm:¬(x,We)∈(y,k)::r:=fun z=>by
     rcases List.mem_cons.mp z with e|e
     ·exact aH (by injection e with _ aA;exact aA.symm)
     ·exact hm e
    rw[if_neg nm];simp[J]
theorem AO {prog:VR} {w:V9} {A:V0} {R:Result→Vx→Prop} {s:Vx} {elt target iter:V3} {ifs:List V3} {scope:WX} {pos:Pos} {it acc:Vw} {env:Env} (I:Nat→Vx→Prop)(turn:∀n s,I n s→VL (VT prog w) A (aam it) (fun r cH=>match r with
    |none=>R (.ok .next) cH
    |some v=>VL (VT prog w) A (Yj target it v) (fun _ Ft=>VL (VT prog w) A (YC target env v) (fun _ gC=>
       VL (VT prog w) A (forIn ifs true fun c r=>if r=true then do let ok ←isTrue c env (WW c env);pure (WZ ok)else pure (WZ r)) (fun ok jh=>
        if ok=true then VL (VT prog w) A (WW elt env) (fun x o3=>
         VL (VT prog w) A (call (.builtin "list.append") [acc,x]) (fun _ Fu=>∃m,m<n∧I m Fu) (XO (VT prog w) A env fun e s'=>R (.error e) s') o3) (XO (VT prog w) A env fun e s'=>R (.error e) s') jh
        else ∃m,m<n∧I m jh) (XO (VT prog w) A env fun e s'=>R (.error e) s') gC) (XO (VT prog w) A env fun e s'=>R (.error e) s') Ft) (XO (VT prog w) A env fun e s'=>R (.error e) s') cH) (XO (VT prog w) A env fun e s'=>R (.error e) s') s)
  (n:Nat) (h:I n s):X8 (VT prog w) A (.compLoop (.ListComp elt [⟨target,iter,ifs,0⟩] scope pos) 0 it acc env) R s:=by
 refine codeAny_loop rfl I (fun n s gJ=>?_) n h;show VL _ A ((compTurn (.ListComp elt [⟨target,iter,ifs,0⟩] scope pos) 0 it acc env).onRaise (fun x=>do noteFrame x env;theTreesLotGoes x)) _ _ s;refine wpAny_noted ?_;rw[compTurn_list];refine Vv (wpAny_standAt (Vv (V1 (turn n s gJ) (fun r cH gM=>?_) fun _ _ h'=>h')));cases r with
 |none=>exact VB gM
 |some v=>
  refine Vv (V1 gM (fun _ Ft JV=>?_) fun _ _ h'=>h');refine Vv (V1 JV (fun _ gC jz=>Vv (V1 jz (fun ok jh kc=>?_) fun _ _ h'=>h')) fun _ _ h'=>h');cases ok with
  |false=>exact VB ⟨rfl,kc⟩
  |true=>exact Vv (Vv (V1 kc (fun x o3 oj=>Vv (V1 oj (fun _ Fu fB=>VB (VB ⟨rfl,fB⟩)) fun _ _ h'=>h')) fun _ _ h'=>h'))
abbrev eZ(X:aD)(scope:WX)(N:List Str)(cl:List (Str×VD))(C:VD)(s:Vx)(H:ae)(aC:List VD):aD where
 prog:=X.prog
 w:=X.w
 K:=X.K
 mg:=X.mg
 base:=X.base
 A:=X.A
 N:=N
 dP:=s
 iS:=H
 env:=Zs scope cl C X.env
 outer:=X.stack
 stack:=X.stack
 ex:=aC
 calm:=X.calm
 fn:=fun x=>scope.names.lookup x==some .cell
 l1:=[]
 xe:=fun _ _=>False
def iX(nl:Nat)(caps:List Nat)(σ :St):St:=VY nl none++caps.map fun j=> σ.getD j none
def sV:Option XB→Bool
 |some .cell=>true
 |some .free=>true
 |_=>false
structure hD(sc:WX)(lq:List Str)(scope:WX)(N:List Str)(nl:Nat)(caps:List Nat):Prop where
 kind:scope.kind=.function
 uniq:∀x∈scope.names,scope.names.lookup x.1=some x.2
 free:∀x∈scope.names,x.2=.free→sV (sc.names.lookup x.1)=true
 len:N.length=nl+caps.length
 Hw:∀k j,caps[k]?=some j→∃x,lq[j]?=some x∧N[nl+k]?=some x∧scope.names.lookup x=some .free∧sV (sc.names.lookup x)=true
noncomputable def lC(sc:WX)(lq:List Str)(scope:WX)(N:List Str)(nl:Nat)(caps:List Nat):Bool:=
 (scope.kind==.function)&&scope.names.all (fun x=>scope.names.lookup x.1==some x.2&&(x.2 !=.free||sV (sc.names.lookup x.1)))&&
 (N.length==nl+caps.length)&&(caps.zipIdx.all fun CR=>match lq[CR.1]? with
   |none=>false
   |some x=>N[nl+CR.2]?==some x&&scope.names.lookup x==some .free&&sV (sc.names.lookup x))
theorem hD.of{sc:WX}{lq:List Str}{scope:WX}{N:List Str}{nl:Nat}{caps:List Nat}(h:lC sc lq scope N nl caps=true):hD sc lq scope N nl caps:=by
 unfold lC at h;rw[V6,V6,V6]at h;obtain⟨⟨⟨h1,h2⟩,h3⟩,h4⟩:=h;rw[YX]at h2 h4;refine⟨eq_of_beq h1,fun x av=>?_,fun x av e=>?_,eq_of_beq h3,fun k j e=>?_⟩
 ·have:=h2 x av;rw[V6]at this;exact eq_of_beq this.1
 ·have:=h2 x av;rw[V6]at this;have q:=this.2;rw[e]at q;simpa using q
 ·have m:(j,k)∈caps.zipIdx:=by
    rw[List.mem_zipIdx_iff_getElem?];exact e
  have q:=h4 _ m;dsimp only at q
  split at q
  ·cases q
  ·rename_i x ex;rw[V6,V6]at q;exact⟨x,ex,eq_of_beq q.1.1,eq_of_beq q.1.2,q.2⟩
theorem hD.locs{sc:WX}{lq:List Str}{scope:WX}{N:List Str}{nl:Nat}{caps:List Nat}(S:hD sc lq scope N nl caps):∀x∈scope.names,x.2=.local→scope.names.lookup x.1=some .local:=fun x av e=>e▸S.uniq x av
theorem sa:∀(ns:List (Str×XB))(n:Nat)(a b:List (Str×VD)),Wc n ns (a++b)=Wc n ns a++b
 |[],_,_,_=>rfl
 |(x,k)::r,n,a,b=>by
  unfold Wc
  split
  ·exact sa r (n+1) ((x,n)::a) b
  ·exact sa r n a b
theorem n0{x:Str}{c:VD}:∀(ns:List (Str×XB))(n:Nat)(a:List (Str×VD)),(x,c)∈Wc n ns a→(x,NameKind.cell)∈ns∨(x,c)∈a
 |[],_,_,h=>.inr h
 |(y,k)::r,n,a,h=>by
  unfold Wc at h
  split at h
  ·rename_i aH;rcases n0 r _ _ h with z|z
   ·exact .inl (VC _ z)
   ·rcases List.mem_cons.mp z with e|z
    ·injection e with ao aA;subst ao;rw[eq_of_beq aH];exact .inl V5
    ·exact .inr z
  ·rcases n0 r _ _ h with z|z
   ·exact .inl (VC _ z)
   ·exact .inr z
theorem D1{M:Model}{A:V0}{E:Vw→Vx→Prop}{s:Vx}{scope:WX}{globals:VD}{cl:List (Str×VD)}{qual:Str}{env:Env}{Q:Env→Vx→Prop}(fj:Q { scope:=scope,locals:=s.heap.objs.size,globals:=globals,cells:=Wc (s.heap.objs.size+1) scope.names cl,qual:=qual,func:=none,code:=env.code,frame:=env.frame,builtins:=env.builtins } { s with heap:=Z8 (s.heap.push { cls:=.type "dict",data:=.dict #[] }) scope.names }) :
  VL M A (Yz scope globals cl [] qual none .none (some env)) Q E s:=by
 simp only[Yz,Z7,if_true];refine Vv (wpAny_alloc ?_);refine Vv (wpAny_layCells _ (fun name kind cells=>by cases Jj:kind==NameKind.cell<;>simp[Jj]) _ _ _ _ ?_);rw[show({ s with heap:=s.heap.push { cls:=.type "dict",data:=.dict #[] } }:Vx).heap.objs.size=s.heap.objs.size+1 from V_ ..];exact Vv (VB (VB fj))
theorem xG{scope:WX}{env:Env}{x:Str}{k:XB}(h:(X_ scope env).names.lookup x=some k):(x,k)∈scope.names∨(k=.cell∧(x,We)∈scope.names):=by
 have m:=PySem.mem_of_lookup h;obtain⟨⟨y,q⟩,bO,e⟩:=List.mem_map.mp m;dsimp only at e
 split at e
 ·rename_i aq;injection e with ao aA;subst ao;have hf:q=.free:=by
   rw[V6,V6]at aq;exact eq_of_beq aq.1.1
  subst hf;exact .inr ⟨aA.symm,bO⟩
 ·injection e with ao aA;subst ao;subst aA;exact .inl bO
noncomputable def nj(fQ:TI)(g:gv)(er:TT)(cQ:TE)(nl:Nat)(caps:List Nat):TE:=fun σ H Q=>
 fQ σ H fun br H1=>∀acc,H1 acc=none→∃W:Nat→Nat→St→ae→Prop,(∃m,W 0 m (iX nl caps σ) (upd H1 acc (.lst [])))∧
  ∀i m σ' H',W i m σ' H'→(br.stop i H'∧Q (.ref acc) H')∨
   (br.go i H'∧∀x aM,br.hX i H' x aM→g x σ' aM fun σ2 cy=>er σ2 cy fun b fu=>
      if b=true then cQ σ2 fu fun y fe=>∃ys,fe acc=some (.lst ys)∧ys.length<VP∧∃ck,ck<m∧W (i+1) ck σ2 (upd fe acc (.lst (ys++[y])))
      else ∃ck,ck<m∧W (i+1) ck σ2 fu)
section
variable{X:aD}{elt target iter:V3}{ifs:List V3}{scope:WX}{pos:Pos}{N:List Str}{nl:Nat}{caps:List Nat}{fQ:TI}{g:gv}{er:TT}{cQ:TE}
noncomputable def iV(X:aD)(ifs:List V3)(t:TT):Prop:=
 ∀(pins:List (VD×Obj))(s:Vx)(σ :St)(H:ae)(Q:Bool→ae→Prop),Inv X pins σ H s→t σ H Q→
  VL (VT X.prog X.w) X.A (forIn ifs true fun c r=>if r=true then do let ok ←isTrue c X.env (WW c X.env);pure (WZ ok)else pure (WZ r)) (rZ X pins σ Q) X.xe s
def yQ:TT:=fun _ H Q=>Q true H
theorem xx:iV X [] yQ:=fun _ _ _ H _ I h=>wpAny_tests_nil ⟨H,I,h⟩
theorem OC{c:V3}{t:TT}(h:eG X c t):iV X [c] t:=fun pins s σ H Q I hw=>wpAny_tests_one (h pins s σ H Q I hw)
theorem CL{pins:List (VD×Obj)}{σ :St}{H:ae}{s s4:Vx}{cl:List (Str×VD)}{aC:List VD}(S:hD X.env.scope X.N scope N nl caps)(I:Inv X pins σ H s)(k1:∀x c,cl.lookup x=some c→X.env.cells.lookup x=some c∨(scope.names.lookup x=some .cell∧s.heap.objs.size<c∧s4.heap.IsCell c none))(k2:∀x,(x,We)∈scope.names→cl.lookup x=X.env.cells.lookup x)(k3:∀x,scope.names.lookup x=some .cell→∃c,cl.lookup x=some c∧s.heap.objs.size<c)(m2:∀x y c,cl.lookup x=some c→cl.lookup y=some c→x=y)(hf:∀b∈aC,ft X pins H b)(e9:∀b∈aC,b<s.heap.objs.size)(JA:s4.os=s.os)(aF:s4.gens=s.gens)(aK:∃m,s4.heap.Ns s.heap.objs.size m)(aH:∀b o,s.heap.get? b=some o→s4.heap.get? b=some o) :
  Inv (eZ X scope N cl s.heap.objs.size s H aC) [] (iX nl caps σ) H s4:=by
 refine⟨⟨I.ok.mod,?_,I.ok.glob,I.ok.blt,VG _,m2,fun x av=>?_,fun x c z e=>?_,I.ok.hd,I.ok.frames,.inl rfl,fun b J=>⟨VV (e9 b J),fun x c e=>(k1 x c e).elim (fun e=>(hf b J).2.2.2.2.1 x c e) fun e=>WV (Xt (e9 b J) e.2.1)⟩,I.bs,V7 I.ok.kz I.tY,fun b o e J=>?_,fun b J hs=>?_,I.stack,I.yD⟩,
  JA,?_,d2.kept aH,?_,fun x c e=>?_,I.bw.fresh (VG _),fun x c e=>(k1 x c e).elim (I.hM x c) fun e=>I.bw.fresh (X4 e.2.1),fun p bf=>absurd (show p∈([]:List (VD×Obj))from bf) (by simp),I.bw.kept aH,?_⟩
 ·show(X_ scope X.env).kind=.function;exact S.kind
 ·have av:(X_ scope X.env).names.lookup x=some .cell∨(X_ scope X.env).names.lookup x=some .free:=av;have hm:(x,We)∈scope.names∨scope.names.lookup x=some .cell:=by
   rcases av with h|h
   ·rcases xG h with m|⟨_,m⟩
    ·exact .inr (S.uniq _ m)
    ·exact .inl m
   ·rcases xG h with m|⟨e,_⟩
    ·exact .inl m
    ·cases e
  rcases hm with hm|hm
  rotate_left
  ·obtain⟨c,e,_⟩:=k3 x hm;exact⟨c,e⟩
  have aS:=S.free _ hm rfl;have aq:∃c,X.env.cells.lookup x=some c:=by
   apply I.ok.has x;show X.env.scope.names.lookup x=some .cell∨X.env.scope.names.lookup x=some .free;cases e:X.env.scope.names.lookup x with
   |none=>rw[e]at aS;cases aS
   |some k=>
    rw[e]at aS
    cases k<;>first
     |exact .inl rfl
     |exact .inr rfl
     |cases aS
  obtain⟨c,e⟩:=aq;exact⟨c,by show cl.lookup x=some c;rw[k2 x hm];exact e⟩
 ·obtain⟨d3,bN,q⟩:=k3 x (eq_of_beq z);rw[show cl.lookup x=some c from e]at bN;cases bN;exact X4 q
 ·rcases(hf b J).2.2.2.1 with z|z
  ·exact I.ok.lZ b o e z
  ·exact absurd (VJ (VH (I.ok.bs b o e).1) z) (Wi _)
 ·rcases List.mem_cons.mp (I.rq b hs)with z|z
  ·exact(hf b J).2.1 z
  ·exact(hf b J).2.2.1 z
 ·rw[aF];exact I.bare
 ·obtain⟨m,aK⟩:=aK;refine⟨m,aK,fun i x v h1 h2 h3=>?_⟩;have bR:N[i]?=some x:=h1;unfold iX at h2;by_cases af:i<nl
  ·rw[VO (by simpa using af),Wj,if_pos af]at h2;cases h2
  ·rw[VI (by simpa using af),WQ,VW]at h2;cases e:caps[i-nl]? with
   |none=>rw[e]at h2;cases h2
   |some j=>
    rw[e]at h2;have h2: σ.getD j none=some v:=VM h2;obtain⟨y,ao,aA,vv,eL⟩:=S.Hw _ _ e;have b9:(y,We)∈scope.names:=PySem.mem_of_lookup vv;have de:hJ X.env.scope y:=by
     cases q:X.env.scope.names.lookup y with
     |none=>rw[q]at eL;cases eL
     |some k=>
      rw[q]at eL
      cases k<;>first
       |exact .inr (.inl q)
       |exact .inr (.inr q)
       |cases eL
    have iw:nl+(i-nl)=i:=by omega
    rw[iw,bR]at aA;cases aA;have hs: σ[j]?=some (some v):=by
     rw[W0]at h2;cases q: σ[j]? with
     |none=>rw[q]at h2;cases h2
     |some o=>rw[q]at h2;exact congrArg some h2
    obtain⟨m0,_,ak⟩:=I.loc;obtain⟨u,r,l⟩:=ak j x v ao hs de;refine⟨u,r,.inr ⟨?_,?_⟩⟩
    ·show(X_ scope X.env).names.lookup x=some .cell∨(X_ scope X.env).names.lookup x=some .free;rcases h3 with h3|h3|h3
     ·have h3:(X_ scope X.env).names.lookup x=some .local:=h3;rcases xG h3 with z|⟨z,_⟩
      ·have a7:scope.names.lookup x=some .local:=S.locs _ z rfl;rw[a7]at vv;cases vv
      ·cases z
     ·exact .inl h3
     ·exact .inr h3
    ·have aS:X.env.scope.names.lookup x≠some .local:=fun z=>by rw[z]at eL;cases eL
     rcases l with⟨z,_⟩|⟨_,c,a_,a7⟩
     ·exact absurd z aS
     ·refine⟨c,?_,a7.keeps aH⟩;show cl.lookup x=some c;rw[k2 x b9];exact a_
 ·rcases k1 x c e with e|e
  ·obtain⟨v,z⟩:=I.cell x c e;exact⟨v,z.keeps aH⟩
  ·exact⟨_,e.2.2⟩
 ·show(iX nl caps σ).length=N.length;unfold iX;rw[Wx,WQ,Wq,S.len]
theorem CM{pins:List (VD×Obj)}{σ σ' :St}{H H':ae}{s s':Vx}{cl:List (Str×VD)}{aC:List VD}{h':Wv}(I:Inv X pins σ H s)(hf:∀b∈aC,ft X pins H b)(br:Inv (eZ X scope N cl s.heap.objs.size s H aC) [] σ' H' s')(hs:Wm s.heap.objs.size s'.heap h'):Inv X pins σ H' { s' with heap:=h' }:=by
 have ne:∀b o,s.heap.get? b=some o→b≠s.heap.objs.size:=fun b o e=>VV (VH e);have u:d2 (cZ X.stack) aC H H' s.heap s'.heap:=br.base;have fr:H' s.heap.objs.size=none:=br.free;refine I.AK (ch:=aC) (s':={ s' with heap:=h' }) br.os ⟨fun b o e n J av=>(hs.2 b (ne b o e)).trans (u.keep b o e n J av),fun b o e n J av=>?_,u.free,fun b o e av=>?_,u.fP,u.fA,u.fN⟩ (fun b o e=>?_) br.bare fun b J=>?_
 ·obtain⟨cb,q⟩:=u.slot b o e n J av;exact⟨cb,(hs.2 b (ne b o e)).trans q⟩
 ·obtain⟨bk,q⟩:=u.there b o e av;exact⟨bk,(hs.2 b (ne b o e)).trans q⟩
 ·refine(br.bw b o e).jN (fun c v aq q=>(hs.2 c ?_).trans q) (fun _ q=>q) fun _ _ q=>q;rintro rfl;rcases aq with z|z
  ·rw[←z,fr]at e;cases e
  ·rw[fr]at z;cases z
 ·obtain⟨_,f1,_,d9,f4,fV⟩:=hf b J;exact⟨d9,f1,f4,fV⟩
theorem AP {pins:List (VD×Obj)} {σ :St} {s2:Vx} {aM:ae} {it:VD} {aC:List VD} {eB:Nat→Wv→Prop} {br:It} {E:Vw→Vx→Prop} {Q:ae→Prop} {W:Nat→Nat→St→ae→Prop} {m0:Nat}(S:hD X.env.scope X.N scope N nl caps) (aq:X.calm=true) (bT:Inv X pins σ aM s2) (T:Turn X.prog X.w X.K target br aC it eB) (gS:eB 0 s2.heap) (f2:∀b∈aC,ft X pins aM b)(aF:∀cl C s H aC,gu (eZ X scope N cl C s H aC) target g) (bH:∀cl C s H aC,iV (eZ X scope N cl C s H aC) ifs er) (he:∀cl C s H aC,a3 (eZ X scope N cl C s H aC) elt cQ)(hB:W 0 m0 (iX nl caps σ) (upd aM s2.heap.objs.size (.lst [])))(turn:∀i m σ' H',W i m σ' H'→(br.stop i H'∧Q H')∨
    (br.go i H'∧∀x cy,br.hX i H' x cy→g x σ' cy fun σ2 fu=>er σ2 fu fun b fe=>
       if b=true then cQ σ2 fe fun y ko=>∃ys,ko s2.heap.objs.size=some (.lst ys)∧ys.length<VP∧∃ck,ck<m∧W (i+1) ck σ2 (upd ko s2.heap.objs.size (.lst (ys++[y])))
       else ∃ck,ck<m∧W (i+1) ck σ2 fe))
  (hH:Vw→VD→Result→Vx→Prop)
  (vY:∀(C:VD) s' H',(∃m,s'.heap.Ns C m)→ft X pins H' C→(∀h',Wm C s'.heap h'→Inv X pins σ H' { s' with heap:=h' })→Q H'→hH (.ref s2.heap.objs.size) C (.ok .next) s') :
  VL (VT X.prog X.w) X.A (newList []) (fun acc jh=>VL (VT X.prog X.w) X.A (Yz scope X.env.globals (d8 X.env scope.names []) [] X.env.qual none .none (some X.env)) (fun gF o3=>
   X8 (VT X.prog X.w) X.A (.compStart (.ListComp elt [⟨target,iter,ifs,0⟩] scope pos) 0 (.ref it) acc { gF with scope:=X_ scope X.env }) (hH acc gF.locals) o3) E jh) E s2:=by
 have od:∀p∈scope.names,p.2=.free→∃c,X.env.cells.lookup p.1=some c:=fun p bf e=>by
  have q:=S.free p bf e;apply bT.ok.has p.1;show X.env.scope.names.lookup p.1=some .cell∨X.env.scope.names.lookup p.1=some .free;cases aA:X.env.scope.names.lookup p.1 with
  |none=>rw[aA]at q;cases q
  |some k=>
   rw[aA]at q
   cases k<;>first
    |exact .inl rfl
    |exact .inr rfl
    |cases q
 have ht:∀x,(d8 X.env scope.names []).lookup x=if(x,We)∈scope.names then X.env.cells.lookup x else none:=fun x=>vo scope.names [] od
 have IY:aM s2.heap.objs.size=none:=bT.bw.fresh (VG _);refine XY (D1 ?_);dsimp only;have c6:Inv X pins σ (upd aM s2.heap.objs.size (.lst [])) { s2 with heap:=s2.heap.push { cls:=.type "list",dict:=none,data:=.seq ([]:List Vw).toArray } }:=bT.ow (its:=[]) (ys:=[]) (t':=s2.toks) .nil (WK _);generalize mY:({ s2 with heap:=s2.heap.push { cls:=.type "list",dict:=none,data:=.seq ([]:List Vw).toArray } }:Vx)=s3 at c6;have mV:s2.heap.push { cls:=.type "list",dict:=none,data:=.seq ([]:List Vw).toArray }=s3.heap:=by rw[←mY]
 rw[mV];have q_:∀b o,s2.heap.get? b=some o→s3.heap.get? b=some o:=fun b o e=>by rw[←mV];exact Vy _ e
 have yA:s3.heap.objs.size=s2.heap.objs.size+1:=by rw[←mV,V_]
 have m3:=sa scope.names (s3.heap.objs.size+1) [] (d8 X.env scope.names []);have ok:=cellsFrom_ok scope.names (s3.heap.push { cls:=.type "dict",data:=.dict #[] }) (s3.heap.objs.size+1) [] ⟨fun _ _ hm=>(nomatch hm),YH⟩ (by rw[V_];exact VG _);have qC:=(Heap.Ns.new s3.heap (.type "dict")).keeps (Yk scope.names _);have kN:∀b o,s3.heap.get? b=some o→(Z8 (s3.heap.push { cls:=.type "dict",data:=.dict #[] }) scope.names).get? b=some o:=fun b o e=>Yk _ _ b o (Vy _ e);rw[V_]at ok;rw[Y_]at m3;rw[m3];generalize Z8 (s3.heap.push { cls:=.type "dict",data:=.dict #[] }) scope.names=gM at qC kN ok ⊢;have old:∀x c,X.env.cells.lookup x=some c→c<s3.heap.objs.size:=fun x c e=>by obtain⟨v,z⟩:=c6.cell x c e;exact z.lt
 have k0:∀x c,(Wc (s3.heap.objs.size+1) scope.names []++d8 X.env scope.names []).lookup x=some c→((x,c)∈Wc (s3.heap.objs.size+1) scope.names []∧scope.names.lookup x=some .cell∧s3.heap.objs.size<c∧gM.IsCell c none)∨X.env.cells.lookup x=some c:=fun x c e=>by
  rw[W6]at e;cases ao:(Wc (s3.heap.objs.size+1) scope.names []).lookup x with
  |some d3=>
   rw[ao]at e;have e:d3=c:=VM e;subst e;have m:=PySem.mem_of_lookup ao;rcases n0 _ _ _ m with z|z
   ·exact .inl ⟨m,S.uniq _ z,(ok.empty _ _ m).2,(ok.empty _ _ m).1⟩
   ·cases z
  |none=>
   rw[ao]at e;have e:(d8 X.env scope.names []).lookup x=some c:=e;rw[ht]at e
   split at e
   ·exact .inr e
   ·cases e
 have k2:∀x,(x,We)∈scope.names→(Wc (s3.heap.objs.size+1) scope.names []++d8 X.env scope.names []).lookup x=X.env.cells.lookup x:=fun x av=>by
  rw[W6];cases ao:(Wc (s3.heap.objs.size+1) scope.names []).lookup x with
  |some d3=>
   rcases n0 _ _ _ (PySem.mem_of_lookup ao)with z|z
   ·have aQ:=S.uniq _ z;have a9:=S.uniq _ av;dsimp only at aQ a9;rw[aQ]at a9;cases a9
   ·cases z
  |none=>show(d8 X.env scope.names []).lookup x=_;rw[ht,if_pos av]
 have k3:∀x,scope.names.lookup x=some .cell→∃c,(Wc (s3.heap.objs.size+1) scope.names []++d8 X.env scope.names []).lookup x=some c∧s3.heap.objs.size<c:=fun x av=>by obtain⟨c,e⟩:=r_ (n:=s3.heap.objs.size+1) av;exact⟨c,by rw[W6,e];rfl,(ok.empty _ _ (PySem.mem_of_lookup e)).2⟩
 have m2:∀x y c,(Wc (s3.heap.objs.size+1) scope.names []++d8 X.env scope.names []).lookup x=some c→(Wc (s3.heap.objs.size+1) scope.names []++d8 X.env scope.names []).lookup y=some c→x=y:=fun x y c h1 h2=>by
  rcases k0 x c h1 with a_|a_<;>rcases k0 y c h2 with a7|a7
  ·exact name_of_addr ok.apart a_.1 a7.1
  ·exact absurd (old y c a7) (Ya a_.2.2.1)
  ·exact absurd (old x c a_) (Ya a7.2.2.1)
  ·exact c6.ok.inj x y c a_ a7
 have k1:∀x c,(Wc (s3.heap.objs.size+1) scope.names []++d8 X.env scope.names []).lookup x=some c→X.env.cells.lookup x=some c∨(scope.names.lookup x=some .cell∧s3.heap.objs.size<c∧gM.IsCell c none):=fun x c e=>(k0 x c e).elim (fun z=>.inr z.2) .inl;generalize Wc (s3.heap.objs.size+1) scope.names []++d8 X.env scope.names []=cl at k0 k1 k2 k3 m2 ⊢;have qy:∀b∈aC,b<s2.heap.objs.size:=fun b J=>by obtain⟨o,e,_⟩:=T.obj 0 _ gS b J;exact VH e
 have d9:∀b∈aC,ft X pins (upd aM s2.heap.objs.size (.lst [])) b:=fun b J=>by obtain⟨a0,a1⟩:=f2 b J;exact⟨by rw[cY (VV (qy b J))];exact a0,a1⟩
 have mW:∀b∈aC,b<s3.heap.objs.size:=fun b J=>by rw[yA];exact XZ (qy b J)
 have loop:∀s4:Vx,s4={ s3 with heap:=gM }→
   X8 (VT X.prog X.w) X.A (.compLoop (.ListComp elt [⟨target,iter,ifs,0⟩] scope pos) 0 (.ref it) (.ref s2.heap.objs.size) (Zs scope cl s3.heap.objs.size X.env))
    (hH (.ref s2.heap.objs.size) s3.heap.objs.size) s4:=by
  intro s4 iA;have hc:Inv (eZ X scope N cl s3.heap.objs.size s3 (upd aM s2.heap.objs.size (.lst [])) aC) [] (iX nl caps σ) (upd aM s2.heap.objs.size (.lst [])) s4:=
   CL S c6 (by rw[iA];exact k1) k2 k3 m2 d9 mW (by rw[iA]) (by rw[iA]) ⟨_,by rw[iA];exact qC⟩ (by rw[iA];exact kN)
  have yC:eB 0 s4.heap:=T.keep 0 _ _ gS fun b J o e=>by rw[iA];exact kN b o (q_ b o e)
  generalize e1:eZ X scope N cl s3.heap.objs.size s3 (upd aM s2.heap.objs.size (.lst [])) aC=B at hc;have stat:∀{H':ae},(∀b∈aC,H' b=none)→∀b∈aC,ft B [] H' b:=fun{H'} aK b J=>by
   subst e1;obtain⟨a0,a1,a2,eX,gV,ik⟩:=d9 b J;refine⟨aK b J,VV (mW b J),fun z=>?_,.inl J,fun x c e=>?_,fun p bf=>absurd (show p∈([]:List (VD×Obj))from bf) (by simp)⟩
   ·rcases List.mem_cons.mp (c6.rq b z)with q|q
    ·exact a1 q
    ·exact a2 q
   ·rcases k1 x c e with e|e
    ·exact gV x c e
    ·exact WV (Xt (mW b J) e.2.1)
  have wh:gu B target g:=by subst e1;exact aF _ _ _ _ _
  have wy:iV B ifs er:=by subst e1;exact bH _ _ _ _ _
  have wb:a3 B elt cQ:=by subst e1;exact he _ _ _ _ _
  have iZ:B.prog=X.prog:=by subst e1;rfl
  have gG:B.w=X.w:=by subst e1;rfl
  have p8:B.K=X.K:=by subst e1;rfl
  have sj:B.A=X.A:=by subst e1;rfl
  have lE:B.env=Zs scope cl s3.heap.objs.size X.env:=by subst e1;rfl
  have p9:B.calm=true:=by subst e1;exact aq
  have Ik:B.xe=fun _ _=>False:=by subst e1;rfl
  rw[←iZ,←gG,←sj,←lE];refine AO (fun n s'=>∃i σ' H',Inv B [] σ' H' s'∧eB i s'.heap∧(∀b∈aC,H' b=none)∧W i n σ' H') ?_ m0 ⟨0,_,_,hc,yC,fun b J=>(d9 b J).1,hB⟩;rintro n s5 ⟨i,σ5,fe,iU,k4,mR,zb⟩;have away:∀{α:Type}{t:Sem α}{pI:α→Vx→Prop}{GD:Vw→Vx→Prop}{gR:Vx},VL (VT B.prog B.w) B.A t pI B.xe gR→VL (VT B.prog B.w) B.A t pI GD gR:=fun h=>V1 h (fun _ _ q=>q) fun e s' z=>by rw[Ik]at z;exact z.elim
  rcases turn i n σ5 fe zb with⟨stop,q⟩|⟨go,step⟩
  ·have d:=T.done B iZ gG p8 p9 i [] s5 σ5 fe (XO (VT B.prog B.w) B.A B.env fun e s'=>hH (.ref s2.heap.objs.size) s3.heap.objs.size (.error e) s') iU (stat mR) k4 stop;rw[←iZ,←gG]at d;refine bA d fun r jK⟨aw,jr⟩=>?_;subst aw;refine vY _ jK fe ?_ (c6.mQ (VG _) ?_) (fun h' g4=>?_) q
   ·obtain⟨m,aK,_⟩:=jr.loc;rw[lE]at aK;exact⟨m,aK⟩
   ·have z:=jr.free;rw[lE]at z;exact z
   ·subst e1;exact CM c6 d9 jr g4
  ·have d:=T.item B iZ gG p8 p9 i [] s5 σ5 fe (XO (VT B.prog B.w) B.A B.env fun e s'=>hH (.ref s2.heap.objs.size) s3.heap.objs.size (.error e) s') iU (stat mR) k4 go;rw[←iZ,←gG]at d;refine bA d fun r jK⟨u,aw,h6⟩=>?_;subst aw;refine bA h6 fun _ eM⟨x,eT,gD,fM,zo,ni,vP⟩=>?_;have uS:=gD.pinned (stat vP) (T.obj _ _ ni);refine away (bA (wh _ eM σ5 eT x u _ uS fM (step x eT zo)) fun _ tM⟨σ8,mw,uT,ki⟩=>?_);refine away (bA (wy _ tM σ8 mw _ uT ki) fun b kW⟨uO,pw,oS⟩=>?_);have again:∀{σa:St}{Ha:ae}{gR:Vx},Inv B ([]++oQ aC eM.heap) σa Ha gR→(∃ck,ck<n∧W (i+1) ck σa Ha)→∃m,m<n∧∃i σ' H',Inv B [] σ' H' gR∧eB i gR.heap∧(∀b∈aC,H' b=none)∧W i m σ' H':=fun{σa Ha gR} mx⟨ck,hm,zc⟩=>by
    refine⟨ck,hm,i+1,σa,Ha,mx.rx,T.keep _ _ _ ni fun b J o e=>(mx.pin (b,o) (VQ _ (VQ _ (oH J e)))).1,fun b J=>?_,zc⟩;obtain⟨o,e,d⟩:=T.obj _ _ ni b J;exact(mx.pin (b,o) (VQ _ (VQ _ (oH J e)))).2.1
   cases b with
   |false=>exact again pw oS
   |true=>show VL _ _ (WW elt B.env) _ _ kW;refine away (bA (wb _ kW σ8 uO _ pw oS) fun nA xP⟨y,ps,uQ,bX,ys,ah,bG,xA⟩=>?_);refine away (bA (xd _ xP σ8 ps (.ref s2.heap.objs.size) [y] (.ref s2.heap.objs.size) [nA] (fun _ pv=>pv=upd ps s2.heap.objs.size (.lst (ys++[y]))) uQ rfl (.cons bX .nil) ⟨_,ys,y,rfl,rfl,ah,bG,rfl⟩) fun _ O6⟨z,pv,uR,_,vu⟩=>?_);subst vu;exact again uR xA
 exact codeAny_compStart_list (loop _ (by rw[←mY])) (T.self X.A 0 _ _ _ (T.keep 0 _ _ gS fun b J o e=>kN b o (q_ b o e)) (loop _ (by rw[←mY])))
theorem sI{pins:List (VD×Obj)}{σ :St}{s:Vx}{H:ae}(S:hD X.env.scope X.N scope N nl caps)(I:Inv X pins σ H s):∀p∈scope.names,p.2=.free→∃c,X.env.cells.lookup p.1=some c:=fun p bf e=>by
 have q:=S.free p bf e;apply I.ok.has p.1;show X.env.scope.names.lookup p.1=some .cell∨X.env.scope.names.lookup p.1=some .free;cases aA:X.env.scope.names.lookup p.1 with
 |none=>rw[aA]at q;cases q
 |some k=>
  rw[aA]at q
  cases k<;>first
   |exact .inl rfl
   |exact .inr rfl
   |cases q
theorem NR(S:hD X.env.scope X.N scope N nl caps)(aq:X.calm=true)(af:fG X target iter fQ)(aF:∀cl C s H aC,gu (eZ X scope N cl C s H aC) target g)(bH:∀cl C s H aC,iV (eZ X scope N cl C s H aC) ifs er)(he:∀cl C s H aC,a3 (eZ X scope N cl C s H aC) elt cQ)(hs:∀x,V4 iter X.env x=pure x:=by intro _;rfl):a3 X (.ListComp elt [⟨target,iter,ifs,0⟩] scope pos) (nj fQ g er cQ nl caps):=by intro pins s σ H Q I h;rw[eval_ListComp];refine Xg (use:=none) rfl hs (sb (sI S I)) S.kind S.locs ?_;refine bA (af pins s σ H _ I h) fun v s1 h1=>bA h1 fun oo s2 h2=>?_;obtain⟨it,aC,eB,br,aM,e,bT,T,gS,f2,k⟩:=h2;subst e;obtain⟨W,⟨m0,hB⟩,turn⟩:=k s2.heap.objs.size (bT.bw.fresh (VG _));refine AP (Q:=fun H'=>Q (.ref s2.heap.objs.size) H') S aq bT T gS f2 aF bH he hB turn (fun acc C=>compPost (VT X.prog X.w) X.A X.xe none (eS X pins σ Q) acc C) ?_;intro C s' H' aK _ gJ q;obtain⟨m,aK⟩:=aK;exact⟨m,aK,fun h' g4=>⟨.ref s2.heap.objs.size,H',gJ h' g4,rfl,q⟩⟩
theorem Ol{i:Nat}{y:Str}{py rn:Pos}(S:hD X.env.scope X.N scope N nl caps)(aq:X.calm=true)(bR:X.N.Nodup)(bO:X.N[i]?=some y)(ak:X.env.kindOf y=some .local)(af:fG X target iter fQ)(aF:∀cl C s H aC,gu (eZ X scope N cl C s H aC) target g)(bH:∀cl C s H aC,iV (eZ X scope N cl C s H aC) ifs er)(he:∀cl C s H aC,a3 (eZ X scope N cl C s H aC) elt cQ)(iB:Xp (.ListComp elt [⟨target,iter,ifs,0⟩] scope pos) (some (.Name y py)) rn.line X.env=pure true:=by rfl)(hs:∀x,V4 iter X.env x=pure x:=by intro _;rfl):c7 X (.Assign [.Name y py] (.ListComp elt [⟨target,iter,ifs,0⟩] scope pos) rn) (k7 (nj fQ g er cQ nl caps) (hq i)):=by
 intro pins s σ H cf I h;rw[exec_Assign_Name_used _ _ _ _ iB];refine Vv (wpAny_standAt (Vv ?_));show VL _ X.A (do let _ ←comprehension (.ListComp elt [⟨target,iter,ifs,0⟩] scope pos) scope X.env _ (newList []) false (WW iter X.env) (some (YC (.Name y py) X.env))) _ _ s;refine Vv (V1 (Xg (use:=some (YC (.Name y py) X.env)) (Q:=fun _ s'=>j0 X pins cf .next s') rfl hs (sb (sI S I)) S.kind S.locs ?_) (fun _ s' aS=>VB (VB aS)) fun _ _ e=>e);refine bA (af pins s σ H _ I h) fun v s1 h1=>bA h1 fun oo s2 h2=>?_;obtain⟨it,aC,eB,br,aM,e,bT,T,gS,f2,k⟩:=h2;subst e;obtain⟨W,⟨m0,hB⟩,turn⟩:=k s2.heap.objs.size (bT.bw.fresh (VG _));refine AP (Q:=fun H'=>cf.bJ (σ.set i (some (.ref s2.heap.objs.size))) H') S aq bT T gS f2 aF bH he hB turn (fun acc C=>compPost (VT X.prog X.w) X.A X.xe (some (YC (.Name y py) X.env)) (fun _ s'=>j0 X pins cf .next s') acc C) ?_;intro C s' H' aK eP gJ q;obtain⟨m,aK⟩:=aK;show VL _ X.A (YC (.Name y py) X.env (.ref s2.heap.objs.size)) _ _ s';have iT:Inv X pins σ H' s':=gJ s'.heap (YK _ _);refine YD (yE (v:=.ref s2.heap.objs.size) iT bR bO (.inl ak) (show RelV (V.ref _) _ from rfl) (fun eo uP wt=>?_) (.inr ak));obtain⟨a,wq,ah⟩:=wt;obtain⟨vm,bE,c9,eY,ip,pT⟩:=eP;have xg:C≠a:=by
  rcases ah with z|z
  ·rw[z];exact bE
  ·exact fun w=>ip y a z w.symm
 refine⟨m,aK.sameBut wq xg,fun h' g4=>?_⟩;exact⟨_,H',uP.turned (t':=eo.toks) (it:=C) (fun b o J e=>(g4.2 b J).trans e) vm bE eY ip pT,q⟩
end
end aY
namespace bo
open PySem aY
inductive D where
 |non|aU (b:Bool)|int (i:Int)|str (x:Str)
 |tup (xs:List D)|lst (xs:List D)|cP (xs:List D)
 |dc (aI:List Key) (xs:List D)|cA (aI:List (List Key)) (xs:List D)
 |ins (c:Str) (ns:List Str) (xs:List D)
 |i0 (c:Str)
 |fn (c:Str)
 |cX (xs:List D)
def Sub(G H:ae):Prop:=∀b o,G b=some o→H b=some o
theorem Sub.refl(G:ae):Sub G G:=fun _ _ e=>e
theorem Sub.trans{G H I:ae}(a:Sub G H)(b:Sub H I):Sub G I:=fun c o e=>b c o (a c o e)
theorem Sub.gone{G H:ae}(a:Sub G H){b:VD}(h:H b=none):G b=none:=by
 cases e:G b with
 |none=>rfl
 |some o=>rw[a b o e]at h;cases h
theorem Sub.upd{G:ae}{a:VD}{o:dj}(h:G a=none):Sub G (upd G a o):=fun b u e=>by rw[cY (g6 e h)];exact e
theorem Sub.ry{G H:ae}{a:VD}{o:dj}(s:Sub G H)(h:G a=none):Sub G (aY.upd H a o):=fun b u e=>by rw[cY (g6 e h)];exact s b u e
theorem Sub.both{G H:ae}{a:VD}{o:dj}(s:Sub G H):Sub (aY.upd G a o) (aY.upd H a o):=fun b u e=>by
 by_cases J:b=a
 ·subst J;rw[dI]at e ⊢;exact e
 ·rw[cY J]at e ⊢;exact s b u e
theorem Sub.at{G H:ae}{a:VD}{o:dj}(s:Sub G H)(h:H a=some o):Sub (aY.upd G a o) H:=fun b u e=>by
 by_cases J:b=a
 ·subst J;rw[dI]at e;rw[h];exact e
 ·rw[cY J]at e;exact s b u e
structure b3(G H G' H':ae):Prop where
 g:Sub G G'
 h:Sub H H'
 n:∀b,H b≠none→G' b=G b
theorem Sub.some{G H:ae}(s:Sub G H){b:VD}(h:G b≠none):H b≠none:=fun z=>h (s.gone z)
theorem b3.refl(G H:ae):b3 G H G H:=⟨Sub.refl _,Sub.refl _,fun _ _=>rfl⟩
theorem b3.trans{G H aL H1 cC aM:ae}(a:b3 G H aL H1)(b:b3 aL H1 cC aM):b3 G H cC aM:=⟨a.g.trans b.g,a.h.trans b.h,fun c aq=>(b.n c (a.h.some aq)).trans (a.n c aq)⟩
theorem b3.lay{G H:ae}{p:VD}{o:dj}(s:Sub G H)(bf:H p=none):b3 G H (aY.upd G p o) (aY.upd H p o):=⟨Sub.upd (s.gone bf),Sub.upd bf,fun b J=>by rw[cY];intro e;subst e;exact J bf⟩
theorem b3.lay0{G H:ae}{p:VD}{o:dj}(bf:H p=none):b3 G H G (aY.upd H p o):=⟨Sub.refl _,Sub.upd bf,fun _ _=>rfl⟩
theorem b3.put{G H G' H':ae}{p:VD}{o:dj}(u:b3 G H G' H')(bf:H p=none)(aF:G' p=none):b3 G H (aY.upd G' p o) H':=⟨u.g.trans (Sub.upd aF),u.h,fun b J=>by
 rw[cY]
 ·exact u.n b J
 ·intro e;subst e;exact J bf⟩
theorem f7.mono{G H:ae}(s:Sub G H){a:VD}{u:dj}(r:f7 G a u):f7 H a u:=by
 rcases r with r|⟨o,r⟩
 ·exact .inl (s _ _ r)
 ·exact .inr ⟨o,s _ _ r⟩
theorem bQ.mono{K:PySem.W.Frag}{G H:ae}(s:Sub G H){a:VD}{xs:List V}(r:bQ K G a xs):bQ K H a xs:=by
 rcases r with r|r
 ·exact .inl (f7.mono s r)
 ·exact .inr r
theorem cz.mono{K:PySem.W.Frag}{G H:ae}(s:Sub G H){a:VD}{xs:List V}(r:cz K G a xs):cz K H a xs:=by
 rcases r with r|r
 ·exact .inl (f7.mono s r)
 ·exact .inr r
def dE(K:PySem.W.Frag)(c:Str)(C:VD):Prop:=PySem.W.nsIn K VF c=some (some (.ref C))
mutual
noncomputable def At(K:PySem.W.Frag)(G:ae):D→V→Prop
 |.non,v=>v=.non
 |.aU b,v=>v=.aU b
 |.int i,v=>v=.int i
 |.str x,v=>v=.str x
 |.tup ds,v=>∃a xs,v=.ref a∧G a=some (.tup xs)∧aO K G ds xs
 |.cX ds,v=>∃a xs,v=.ref a∧cz K G a xs∧aO K G ds xs
 |.lst ds,v=>∃a xs,v=.ref a∧G a=some (.lst xs)∧aO K G ds xs
 |.cP ds,v=>∃a xs,v=.ref a∧bQ K G a xs∧aO K G ds xs
 |.dc aI ds,v=>∃a xs,v=.ref a∧G a=some (.dc xs)∧xs.map (·.1)=aI∧aO K G ds (xs.map (·.2))
 |.cA aI ds,v=>∃a xs,v=.ref a∧G a=some (.cA xs)∧xs.map (·.1)=aI∧aO K G ds (xs.map (·.2))
 |.ins c ns ds,v=>∃a a5 xs,v=.ref a∧(∃C,dE K c C∧G a=some (.ins C a5 xs))∧xs.map (·.1)=ns∧aO K G ds (xs.map (·.2))
 |.i0 c,v=>∃(a:VD)(xs:List V),v=.ref a∧(∃C,dE K c C∧G a=some (n7 a (.ref C)))∧xs=[]
 |.fn c,v=>∃(a:VD)(xs:List V),v=.ref a∧dE K c a∧xs=[]
noncomputable def aO(K:PySem.W.Frag)(G:ae):List D→List V→Prop
 |[],vs=>vs=[]
 |d::ds,vs=>∃v r,vs=v::r∧At K G d v∧aO K G ds r
end
mutual
theorem At.mono{K:PySem.W.Frag}{G H:ae}(s:Sub G H):∀{d:D}{v:V},At K G d v→At K H d v
 |.non,_,h=>by simpa only[At]using h
 |.aU _,_,h=>by simpa only[At]using h
 |.int _,_,h=>by simpa only[At]using h
 |.str _,_,h=>by simpa only[At]using h
 |.tup _,_,h=>by simp only[At]at h ⊢;obtain⟨a,xs,e,q,r⟩:=h;exact⟨a,xs,e,s _ _ q,aO.mono s r⟩
 |.cX _,_,h=>by simp only[At]at h ⊢;obtain⟨a,xs,e,q,r⟩:=h;exact⟨a,xs,e,cz.mono s q,aO.mono s r⟩
 |.lst _,_,h=>by simp only[At]at h ⊢;obtain⟨a,xs,e,q,r⟩:=h;exact⟨a,xs,e,s _ _ q,aO.mono s r⟩
 |.cP _,_,h=>by simp only[At]at h ⊢;obtain⟨a,xs,e,q,r⟩:=h;exact⟨a,xs,e,bQ.mono s q,aO.mono s r⟩
 |.dc _ _,_,h=>by simp only[At]at h ⊢;obtain⟨a,xs,e,q,k,r⟩:=h;exact⟨a,xs,e,s _ _ q,k,aO.mono s r⟩
 |.cA _ _,_,h=>by simp only[At]at h ⊢;obtain⟨a,xs,e,q,k,r⟩:=h;exact⟨a,xs,e,s _ _ q,k,aO.mono s r⟩
 |.ins _ _ _,_,h=>by simp only[At]at h ⊢;obtain⟨a,a5,xs,e,⟨C,bE,q⟩,k,r⟩:=h;exact⟨a,a5,xs,e,⟨C,bE,s _ _ q⟩,k,aO.mono s r⟩
 |.i0 _,_,h=>by simp only[At]at h ⊢;obtain⟨a,xs,e,⟨C,bE,q⟩,r⟩:=h;exact⟨a,xs,e,⟨C,bE,s _ _ q⟩,r⟩
 |.fn _,_,h=>by simpa only[At]using h
theorem aO.mono{K:PySem.W.Frag}{G H:ae}(s:Sub G H):∀{ds:List D}{vs:List V},aO K G ds vs→aO K H ds vs
 |[],_,h=>by simpa only[aO]using h
 |_::_,_,h=>by simp only[aO]at h ⊢;obtain⟨v,r,e,q,t⟩:=h;exact⟨v,r,e,At.mono s q,aO.mono s t⟩
end
section
variable{K:PySem.W.Frag}{G:ae}
theorem aO.nil:aO K G [] []:=by simp only[aO]
theorem aO.cons{d:D}{ds:List D}{v:V}{vs:List V}(h:At K G d v)(t:aO K G ds vs):aO K G (d::ds) (v::vs):=by simp only[aO];exact⟨v,vs,rfl,h,t⟩
theorem aO.length:∀{ds:List D}{vs:List V},aO K G ds vs→ds.length=vs.length
 |[],_,h=>by simp only[aO]at h;subst h;rfl
 |_::_,_,h=>by simp only[aO]at h;obtain⟨v,r,rfl,_,t⟩:=h;simp[aO.length t]
theorem aO.get:∀{ds:List D}{vs:List V}{i:Nat}{d:D},aO K G ds vs→ds[i]?=some d→∃v,vs[i]?=some v∧At K G d v
 |[],_,_,_,_,e=>by simp at e
 |_::_,_,0,_,h,e=>by simp only[aO]at h;obtain⟨v,r,rfl,q,t⟩:=h;simp at e;subst e;exact⟨v,by simp,q⟩
 |_::_,_,i+1,d,h,e=>by simp only[aO]at h;obtain⟨v,r,rfl,q,t⟩:=h;obtain⟨u,h1,h2⟩:=aO.get (i:=i) (d:=d) t (by simpa using e);exact⟨u,by simpa using h1,h2⟩
theorem aO.sz{ds:List D}{vs:List V}{i:Nat}{v:V}(h:aO K G ds vs)(e:vs[i]?=some v):∃d,ds[i]?=some d∧At K G d v:=by
 have af:i<ds.length:=by rw[h.length];exact(List.getElem?_eq_some_iff.mp e).1
 obtain⟨u,h1,h2⟩:=h.get (Vz af);rw[e]at h1;cases h1;exact⟨_,Vz af,h2⟩
theorem aO.append:∀{ds es:List D}{vs ws:List V},aO K G ds vs→aO K G es ws→aO K G (ds++es) (vs++ws)
 |[],_,_,_,h,t=>by simp only[aO]at h;subst h;exact t
 |_::_,_,_,_,h,t=>by simp only[aO]at h;obtain⟨v,r,rfl,q,s⟩:=h;exact .cons q (aO.append s t)
theorem aO.take:∀(n:Nat){ds:List D}{vs:List V},aO K G ds vs→aO K G (ds.take n) (vs.take n)
 |0,_,_,_=>by simpa using aO.nil
 |_+1,[],_,h=>by simp only[aO]at h;subst h;simpa using aO.nil
 |n+1,_::_,_,h=>by simp only[aO]at h;obtain⟨v,r,rfl,q,t⟩:=h;exact .cons q (aO.take n t)
theorem aO.drop:∀(n:Nat){ds:List D}{vs:List V},aO K G ds vs→aO K G (ds.drop n) (vs.drop n)
 |0,_,_,h=>by simpa using h
 |_+1,[],_,h=>by simp only[aO]at h;subst h;simpa using aO.nil
 |n+1,_::_,_,h=>by simp only[aO]at h;obtain⟨v,r,rfl,q,t⟩:=h;simpa using aO.drop n t
theorem aO.set{d:D}{v:V}(q:At K G d v):∀(n:Nat){ds:List D}{vs:List V},aO K G ds vs→aO K G (ds.set n d) (vs.set n v)
 |_,[],_,h=>by simp only[aO]at h;subst h;simpa using aO.nil
 |0,_::_,_,h=>by simp only[aO]at h;obtain⟨u,r,rfl,_,t⟩:=h;exact .cons q t
 |n+1,_::_,_,h=>by simp only[aO]at h;obtain⟨u,r,rfl,p,t⟩:=h;exact .cons p (aO.set q n t)
theorem aO.snoc{ds:List D}{vs:List V}{d:D}{v:V}(h:aO K G ds vs)(q:At K G d v):aO K G (ds++[d]) (vs++[v]):=h.append (.cons q .nil)
end
inductive R(α:Type) where
 |ok (a:α)|exc (c:Str)|bad
namespace R
def bind{α β:Type}:R α→(α→R β)→R β
 |.ok a,k=>k a
 |.exc c,_=>.exc c
 |.bad,_=>.bad
def map{α β:Type}(f:α→β)(r:R α):R β:=r.bind fun a=>.ok (f a)
theorem bI{α β:Type}(a:α)(k:α→R β):(R.ok a).bind k=k a:=rfl
end R
inductive T where
 |b4 (d:D)|lst (bB:List T)|dc (aI:List Key) (bB:List T)|cA (aI:List (List Key)) (bB:List T)|ins (c:Str) (ns:List Str) (bB:List T)
mutual
noncomputable def toD:T→D
 |.b4 d=>d
 |.lst bB=>.lst (mc bB)
 |.dc aI bB=>.dc aI (mc bB)
 |.cA aI bB=>.cA aI (mc bB)
 |.ins c ns bB=>.ins c ns (mc bB)
noncomputable def mc:List T→List D
 |[]=>[]
 |t::bB=>toD t::mc bB
end
mutual
noncomputable def aC(H:ae):T→V→List VD
 |.b4 _,_=>[]
 |.lst bB,v=>match v with
  |.ref a=>match H a with
   |some (.lst xs)=>a::fi H bB xs
   |_=>[]
  |_=>[]
 |.dc _ bB,v=>match v with
  |.ref a=>match H a with
   |some (.dc xs)=>a::fi H bB (xs.map (·.2))
   |_=>[]
  |_=>[]
 |.cA _ bB,v=>match v with
  |.ref a=>match H a with
   |some (.cA xs)=>a::fi H bB (xs.map (·.2))
   |_=>[]
  |_=>[]
 |.ins _ _ bB,v=>match v with
  |.ref a=>match H a with
   |some (.ins _ _ xs)=>a::fi H bB (xs.map (·.2))
   |_=>[]
  |_=>[]
noncomputable def fi(H:ae):List T→List V→List VD
 |[],_=>[]
 |t::bB,vs=>match vs with
  |v::r=>aC H t v++fi H bB r
  |[]=>[]
end
mutual
noncomputable def dm(K:PySem.W.Frag)(G H:ae):T→V→Prop
 |.b4 d,v=>At K G d v
 |.lst bB,v=>∃a xs,v=.ref a∧H a=some (.lst xs)∧cx K G H bB xs
 |.dc aI bB,v=>∃a xs,v=.ref a∧H a=some (.dc xs)∧xs.map (·.1)=aI∧cx K G H bB (xs.map (·.2))
 |.cA aI bB,v=>∃a xs,v=.ref a∧H a=some (.cA xs)∧xs.map (·.1)=aI∧cx K G H bB (xs.map (·.2))
 |.ins c ns bB,v=>∃a a5 xs,v=.ref a∧(∃C,dE K c C∧H a=some (.ins C a5 xs))∧xs.map (·.1)=ns∧cx K G H bB (xs.map (·.2))
noncomputable def cx(K:PySem.W.Frag)(G H:ae):List T→List V→Prop
 |[],vs=>vs=[]
 |t::bB,vs=>∃v r,vs=v::r∧dm K G H t v∧cx K G H bB r
end
section
variable{K:PySem.W.Frag}{G G' H H' P:ae}
theorem qh{a:VD}{xs:List V}{bB:List T}(q:H a=some (.lst xs)):aC H (.lst bB) (.ref a)=a::fi H bB xs:=by simp only[aC,q]
theorem qe{a:VD}{xs:List (Key×V)}{aI:List Key}{bB:List T}(q:H a=some (.dc xs)):aC H (.dc aI bB) (.ref a)=a::fi H bB (xs.map (·.2)):=by simp only[aC,q]
theorem qf{a:VD}{xs:List (List Key×V)}{aI:List (List Key)}{bB:List T}(q:H a=some (.cA xs)):aC H (.cA aI bB) (.ref a)=a::fi H bB (xs.map (·.2)):=by simp only[aC,q]
theorem qg{a C:VD}{a5}{xs:List (Str×V)}{c:Str}{ns:List Str}{bB:List T}(q:H a=some (.ins C a5 xs)):aC H (.ins c ns bB) (.ref a)=a::fi H bB (xs.map (·.2)):=by simp only[aC,q]
theorem mP{t:T}{bB:List T}{v:V}{r:List V}:fi H (t::bB) (v::r)=aC H t v++fi H bB r:=by simp only[fi]
theorem B2{vs:List V}:fi H [] vs=[]:=by simp only[fi]
mutual
theorem dm.mono(a4:Sub G G'):∀{t:T}{v:V},dm K G H t v→dm K G' H t v
 |.b4 _,_,h=>by simp only[dm]at h ⊢;exact h.mono a4
 |.lst _,_,h=>by simp only[dm]at h ⊢;obtain⟨a,xs,e,q,r⟩:=h;exact⟨a,xs,e,q,cx.mono a4 r⟩
 |.dc _ _,_,h=>by simp only[dm]at h ⊢;obtain⟨a,xs,e,q,n,r⟩:=h;exact⟨a,xs,e,q,n,cx.mono a4 r⟩
 |.cA _ _,_,h=>by simp only[dm]at h ⊢;obtain⟨a,xs,e,q,n,r⟩:=h;exact⟨a,xs,e,q,n,cx.mono a4 r⟩
 |.ins _ _ _,_,h=>by simp only[dm]at h ⊢;obtain⟨a,a5,xs,e,q,n,r⟩:=h;exact⟨a,a5,xs,e,q,n,cx.mono a4 r⟩
theorem cx.mono(a4:Sub G G'):∀{bB:List T}{vs:List V},cx K G H bB vs→cx K G' H bB vs
 |[],_,h=>by simpa only[cx]using h
 |_::_,_,h=>by simp only[cx]at h ⊢;obtain⟨v,r,e,q,t⟩:=h;exact⟨v,r,e,dm.mono a4 q,cx.mono a4 t⟩
end
mutual
theorem dm.keep:∀{t:T}{v:V},(∀b∈aC H t v,H' b=H b)→dm K G H t v→dm K G H' t v∧aC H' t v=aC H t v
 |.b4 _,_,_,h=>by simp only[dm]at h;exact⟨by simp only[dm];exact h,by simp only[aC]⟩
 |.lst _,_,k,h=>by simp only[dm]at h;obtain⟨a,xs,rfl,q,r⟩:=h;rw[qh q]at k;have jI:H' a=some (.lst xs):=(k a (by simp)).trans q;obtain⟨au,bl⟩:=cx.keep (fun b J=>k b (VC _ J)) r;exact⟨by simp only[dm];exact⟨a,xs,rfl,jI,au⟩,by rw[qh jI,qh q,bl]⟩
 |.dc _ _,_,k,h=>by simp only[dm]at h;obtain⟨a,xs,rfl,q,n,r⟩:=h;rw[qe q]at k;have jI:H' a=some (.dc xs):=(k a (by simp)).trans q;obtain⟨au,bl⟩:=cx.keep (fun b J=>k b (VC _ J)) r;exact⟨by simp only[dm];exact⟨a,xs,rfl,jI,n,au⟩,by rw[qe jI,qe q,bl]⟩
 |.cA _ _,_,k,h=>by simp only[dm]at h;obtain⟨a,xs,rfl,q,n,r⟩:=h;rw[qf q]at k;have jI:H' a=some (.cA xs):=(k a (by simp)).trans q;obtain⟨au,bl⟩:=cx.keep (fun b J=>k b (VC _ J)) r;exact⟨by simp only[dm];exact⟨a,xs,rfl,jI,n,au⟩,by rw[qf jI,qf q,bl]⟩
 |.ins _ _ _,_,k,h=>by simp only[dm]at h;obtain⟨a,a5,xs,rfl,⟨C,bE,q⟩,n,r⟩:=h;rw[qg q]at k;have jI:H' a=some (.ins C a5 xs):=(k a (by simp)).trans q;obtain⟨au,bl⟩:=cx.keep (fun b J=>k b (VC _ J)) r;exact⟨by simp only[dm];exact⟨a,a5,xs,rfl,⟨C,bE,jI⟩,n,au⟩,by rw[qg jI,qg q,bl]⟩
theorem cx.keep:∀{bB:List T}{vs:List V},(∀b∈fi H bB vs,H' b=H b)→cx K G H bB vs→cx K G H' bB vs∧fi H' bB vs=fi H bB vs
 |[],_,_,h=>⟨by simpa only[cx]using h,by simp only[fi]⟩
 |_::_,_,k,h=>by simp only[cx]at h;obtain⟨v,r,rfl,q,t⟩:=h;rw[mP]at k;obtain⟨aQ,a9⟩:=dm.keep (fun b J=>k b (Ww _ J)) q;obtain⟨t1,eJ⟩:=cx.keep (fun b J=>k b (VQ _ J)) t;exact⟨by simp only[cx];exact⟨v,r,rfl,aQ,t1⟩,by rw[mP,mP,a9,eJ]⟩
end
mutual
theorem dm.some:∀{t:T}{v:V},dm K G H t v→∀b∈aC H t v,H b≠none
 |.b4 _,_,_=>by intro b J;simp[aC]at J
 |.lst _,_,h=>by
  simp only[dm]at h;obtain⟨a,xs,rfl,q,r⟩:=h;rw[qh q];intro b J;rcases List.mem_cons.mp J with rfl|J
  ·rw[q];exact fun z=>nomatch z
  ·exact cx.some r b J
 |.dc _ _,_,h=>by
  simp only[dm]at h;obtain⟨a,xs,rfl,q,n,r⟩:=h;rw[qe q];intro b J;rcases List.mem_cons.mp J with rfl|J
  ·rw[q];exact fun z=>nomatch z
  ·exact cx.some r b J
 |.cA _ _,_,h=>by
  simp only[dm]at h;obtain⟨a,xs,rfl,q,n,r⟩:=h;rw[qf q];intro b J;rcases List.mem_cons.mp J with rfl|J
  ·rw[q];exact fun z=>nomatch z
  ·exact cx.some r b J
 |.ins _ _ _,_,h=>by
  simp only[dm]at h;obtain⟨a,a5,xs,rfl,⟨C,bE,q⟩,n,r⟩:=h;rw[qg q];intro b J;rcases List.mem_cons.mp J with rfl|J
  ·rw[q];exact fun z=>nomatch z
  ·exact cx.some r b J
theorem cx.some:∀{bB:List T}{vs:List V},cx K G H bB vs→∀b∈fi H bB vs,H b≠none
 |[],_,_=>by intro b J;simp[fi]at J
 |_::_,_,h=>by
  simp only[cx]at h;obtain⟨v,r,rfl,q,t⟩:=h;rw[mP];intro b J;rcases List.mem_append.mp J with J|J
  ·exact dm.some q b J
  ·exact cx.some t b J
end
mutual
theorem dm.view(a4:Sub G P):∀{t:T}{v:V},(∀a∈aC H t v,P a=H a)→dm K G H t v→At K P (toD t) v
 |.b4 _,_,_,h=>by simp only[dm,toD]at h ⊢;exact h.mono a4
 |.lst _,_,k,h=>by simp only[dm]at h;obtain⟨a,xs,rfl,q,r⟩:=h;rw[qh q]at k;simp only[toD,At];exact⟨a,xs,rfl,by rw[k a (by simp)];exact q,cx.view a4 (fun b J=>k b (VC _ J)) r⟩
 |.dc _ _,_,k,h=>by simp only[dm]at h;obtain⟨a,xs,rfl,q,n,r⟩:=h;rw[qe q]at k;simp only[toD,At];exact⟨a,xs,rfl,by rw[k a (by simp)];exact q,n,cx.view a4 (fun b J=>k b (VC _ J)) r⟩
 |.cA _ _,_,k,h=>by simp only[dm]at h;obtain⟨a,xs,rfl,q,n,r⟩:=h;rw[qf q]at k;simp only[toD,At];exact⟨a,xs,rfl,by rw[k a (by simp)];exact q,n,cx.view a4 (fun b J=>k b (VC _ J)) r⟩
 |.ins _ _ _,_,k,h=>by simp only[dm]at h;obtain⟨a,a5,xs,rfl,⟨C,bE,q⟩,n,r⟩:=h;rw[qg q]at k;simp only[toD,At];exact⟨a,a5,xs,rfl,⟨C,bE,by rw[k a (by simp)];exact q⟩,n,cx.view a4 (fun b J=>k b (VC _ J)) r⟩
theorem cx.view(a4:Sub G P):∀{bB:List T}{vs:List V},(∀a∈fi H bB vs,P a=H a)→cx K G H bB vs→aO K P (mc bB) vs
 |[],_,_,h=>by simp only[cx,mc,aO]at h ⊢;exact h
 |_::_,_,k,h=>by simp only[cx]at h;obtain⟨v,r,rfl,q,t⟩:=h;rw[mP]at k;simp only[mc,aO];exact⟨v,r,rfl,dm.view a4 (fun b J=>k b (Ww _ J)) q,cx.view a4 (fun b J=>k b (VQ _ J)) t⟩
end
end
inductive jt where
 |lst (ds:List D)|cA (aI:List (List Key)) (ds:List D)|ins (c:Str) (ns:List Str) (ds:List D)
noncomputable def ks(K:PySem.W.Frag)(G:ae):jt→dj→Prop
 |.lst ds,aB=>∃xs,aB=.lst xs∧aO K G ds xs
 |.cA aI ds,aB=>∃xs,aB=.cA xs∧xs.map (·.1)=aI∧aO K G ds (xs.map (·.2))
 |.ins c ns ds,aB=>∃C a5 xs,dE K c C∧aB=.ins C a5 xs∧xs.map (·.1)=ns∧aO K G ds (xs.map (·.2))
theorem ks.mono{K:PySem.W.Frag}{G H:ae}(s:Sub G H):∀{o:jt}{aB:dj},ks K G o aB→ks K H o aB
 |.lst _,_,⟨xs,e,q⟩=>⟨xs,e,q.mono s⟩
 |.cA _ _,_,⟨xs,e,k,q⟩=>⟨xs,e,k,q.mono s⟩
 |.ins _ _ _,_,⟨C,a5,xs,c,e,k,q⟩=>⟨C,a5,xs,c,e,k,q.mono s⟩
def kV:jt→D
 |.lst ds=>.lst ds
 |.cA aI ds=>.cA aI ds
 |.ins c ns ds=>.ins c ns ds
theorem ks.at{K:PySem.W.Frag}{G:ae}{o:jt}{aB:dj}{a:VD}(h:ks K G o aB)(e:G a=some aB):At K G (kV o) (.ref a):=by
 cases o with
 |lst ds=>obtain⟨xs,rfl,q⟩:=h;simp only[kV,At];exact⟨a,xs,rfl,e,q⟩
 |cA aI ds=>obtain⟨xs,rfl,k,q⟩:=h;simp only[kV,At];exact⟨a,xs,rfl,e,k,q⟩
 |ins c ns ds=>obtain⟨C,a5,xs,bE,rfl,k,q⟩:=h;simp only[kV,At];exact⟨a,a5,xs,rfl,⟨C,bE,e⟩,k,q⟩
inductive dx where
 |un|b4 (d:D)|bg (o:jt)|ed (t:T)
abbrev dx.en(ds:List D):dx:=.bg (.lst ds)
abbrev ar:=List dx
structure bj where
 K:PySem.W.Frag
 G0:ae
 H0:ae
 hE:Str→ae→Prop
structure dV(F:bj)(G H:ae):Prop where
 sub:Sub G H
 eh:Sub F.G0 G
 bF:Sub F.H0 H
 new:∀b,F.H0 b≠none→G b=F.G0 b
structure r0(F:bj)(G H:ae)(t:T)(v:V):Prop where
 at_:dm F.K G H t v
 cn:(aC H t v).Nodup
 own:∀b∈aC H t v,G b=none∧F.H0 b=none
noncomputable def j1(F:bj)(G H:ae)(o:Option V):dx→Prop
 |.un=>True
 |.b4 d=>∃v,o=some v∧At F.K G d v
 |.bg bg=>∃a aB,o=some (.ref a)∧H a=some aB∧G a=none∧F.H0 a=none∧ks F.K G bg aB
 |.ed t=>∃v,o=some v∧r0 F G H t v
noncomputable def fs(H:ae):dx→Option V→VD→Prop
 |.un,_,_=>False
 |.b4 _,_,_=>False
 |.bg _,o,a=>o=some (.ref a)
 |.ed t,o,a=>∃v,o=some v∧a∈aC H t v
structure Rel(F:bj)(G H:ae)(σ :St)(ρ:ar):Prop where
 aG:dV F G H
 len: σ.length=ρ.length
 cb:∀(i:Nat)(s:dx),ρ[i]?=some s→∃o,σ[i]?=some o∧j1 F G H o s
 mK:∀(i j:Nat)(a:VD)(s s':dx)(o bk:Option V),ρ[i]?=some s→ρ[j]?=some s'→ σ[i]?=some o→ σ[j]?=some bk→fs H s o a→fs H s' bk a→i=j
noncomputable def dq(H:ae)(σ :St)(ρ:ar)(a:VD):Prop:=∃(i:Nat)(s:dx)(o:Option V),ρ[i]?=some s∧ σ[i]?=some o∧fs H s o a
theorem yy{α:Type}{l:List α}{i:Nat}{x:α}(e:l[i]?=some x):l.set i x=l:=by
 apply List.ext_getElem?;intro j;rw[YJ];by_cases h:i=j
 ·subst h;rw[if_pos rfl,if_pos (List.getElem?_eq_some_iff.mp e).1];exact e.symm
 ·simp[h]
section
variable{F:bj}{G G' H H':ae}{σ :St}{ρ:ar}
theorem dq.bg{a:VD}{i:Nat}{o:jt}(ao:ρ[i]?=some (.bg o))(aA: σ[i]?=some (some (.ref a))):dq H σ ρ a:=⟨i,_,_,ao,aA,rfl⟩
theorem j1.keep{o:Option V}{s:dx}(h:j1 F G H o s)(a4:Sub G G')(k:∀a,fs H s o a→H' a=H a∧G' a=none):j1 F G' H' o s∧(∀a,fs H' s o a→fs H s o a):=by
 cases s with
 |un=>exact⟨trivial,fun _ z=>z⟩
 |b4 d=>obtain⟨v,aA,a⟩:=h;exact⟨⟨v,aA,a.mono a4⟩,fun _ z=>z⟩
 |bg ds=>obtain⟨a,xs,aA,h1,h2,h3,h4⟩:=h;exact⟨⟨a,xs,aA,by rw[(k a aA).1];exact h1,(k a aA).2,h3,h4.mono a4⟩,fun _ z=>z⟩
 |ed t=>
  obtain⟨v,aA,aQ,a9,c5⟩:=h;obtain⟨jR,iK⟩:=aQ.keep fun b J=>(k b ⟨v,aA,J⟩).1;refine⟨⟨v,aA,⟨jR.mono a4,by rw[iK];exact a9,fun b J=>?_⟩⟩,fun a z=>?_⟩
  ·rw[iK]at J;exact⟨(k b ⟨v,aA,J⟩).2,(c5 b J).2⟩
  ·obtain⟨u,b9,J⟩:=z;rw[aA]at b9;cases b9;rw[iK]at J;exact⟨v,aA,J⟩
theorem j1.foot{o:Option V}{s:dx}(h:j1 F G H o s){a:VD}(f:fs H s o a):H a≠none∧G a=none∧F.H0 a=none:=by
 cases s with
 |un=>exact f.elim
 |b4 d=>exact f.elim
 |bg ds=>obtain⟨b,xs,aA,h1,h2,h3,h4⟩:=h;have f:o=some (.ref a):=f;rw[aA]at f;cases f;exact⟨by rw[h1];exact(fun z=>nomatch z),h2,h3⟩
 |ed t=>obtain⟨v,aA,aQ,a9,c5⟩:=h;obtain⟨u,b9,J⟩:=f;rw[aA]at b9;cases b9;exact⟨aQ.some a J,c5 a J⟩
theorem Rel.foot(r:Rel F G H σ ρ){a:VD}(h:dq H σ ρ a):H a≠none∧G a=none∧F.H0 a=none:=by obtain⟨i,s,o,ao,aA,f⟩:=h;obtain⟨bk,b9,q⟩:=r.cb i s ao;rw[aA]at b9;cases b9;exact q.foot f
theorem Rel.over{F':bj}(r:Rel F G H σ ρ)(aX:F'.K=F.K)(aG:dV F' G' H')(a4:Sub G G')(k:∀a,dq H σ ρ a→H' a=H a∧G' a=none∧F'.H0 a=none):Rel F' G' H' σ ρ:=by
 have one:∀(i:Nat)(s:dx),ρ[i]?=some s→∃o,σ[i]?=some o∧j1 F' G' H' o s∧(∀a,fs H' s o a→fs H s o a):=fun i s e=>by
  obtain⟨o,ao,q⟩:=r.cb i s e;obtain⟨aQ,a9⟩:=q.keep a4 fun a f=>⟨(k a ⟨i,s,o,e,ao,f⟩).1,(k a ⟨i,s,o,e,ao,f⟩).2.1⟩;refine⟨o,ao,?_,a9⟩;cases s with
  |un=>trivial
  |b4 d=>obtain⟨v,aA,a⟩:=aQ;exact⟨v,aA,by rw[aX];exact a⟩
  |bg ds=>obtain⟨a,xs,aA,h1,h2,h3,h4⟩:=aQ;exact⟨a,xs,aA,h1,h2,(k a ⟨i,_,o,e,ao,aA⟩).2.2,by rw[aX];exact h4⟩
  |ed t=>obtain⟨v,aA,jR,iK,nt⟩:=aQ;exact⟨v,aA,by rw[aX];exact jR,iK,fun b J=>⟨(nt b J).1,(k b ⟨i,_,o,e,ao,a9 b ⟨v,aA,J⟩⟩).2.2⟩⟩
 refine⟨aG,r.len,fun i s e=>let⟨o,ao,q,_⟩:=one i s e;⟨o,ao,q⟩,fun i j a s s' o bk ao aA b9 de f1 f2=>?_⟩;obtain⟨u,a_,_,a7⟩:=one i s ao;rw[b9]at a_;cases a_;obtain⟨u,pb,_,rD⟩:=one j s' aA;rw[de]at pb;cases pb;exact r.mK i j a s s' o bk ao aA b9 de (a7 a f1) (rD a f2)
theorem Rel.grow(r:Rel F G H σ ρ)(a4:Sub G G')(PJ:Sub G' H')(bF:Sub H H')(nw:∀b,H b≠none→G' b=G b):Rel F G' H' σ ρ:=by
 refine r.over rfl ⟨PJ,r.aG.eh.trans a4,r.aG.bF.trans bF,fun b J=>?_⟩ a4 fun a ah=>?_
 ·rw[nw b (r.aG.bF.some J)];exact r.aG.new b J
 ·obtain⟨h1,h2,h3⟩:=r.foot ah;refine⟨?_,(nw a h1).trans h2,h3⟩;cases e:H a with
  |none=>exact absurd e h1
  |some o=>exact bF a o e
theorem Rel.lay(r:Rel F G H σ ρ){p:VD}{o:dj}(bf:H p=none):Rel F (upd G p o) (upd H p o) σ ρ:=by have IL:G p=none:=r.aG.sub.gone bf;refine r.grow (Sub.upd IL) (Sub.both r.aG.sub) (Sub.upd bf) fun b J=>?_;rw[cY];intro e;subst e;exact J bf
theorem Rel.lay0(r:Rel F G H σ ρ){p:VD}{o:dj}(bf:H p=none):Rel F G (upd H p o) σ ρ:=
 r.grow (Sub.refl _) (Sub.ry r.aG.sub (r.aG.sub.gone bf)) (Sub.upd bf) fun _ _=>rfl
theorem Rel.take(r:Rel F G H σ ρ){p:VD}{o:dj}(bf:H p=some o)(aF:G p=none)(h0:F.H0 p=none)(no:¬dq H σ ρ p):Rel F (upd G p o) H σ ρ:=by
 refine r.over rfl ⟨Sub.at r.aG.sub bf,r.aG.eh.trans (Sub.upd aF),r.aG.bF,fun b J=>?_⟩ (Sub.upd aF) fun a ah=>?_
 ·rw[cY]
  ·exact r.aG.new b J
  ·intro e;subst e;exact J h0
 ·obtain⟨h1,h2,h3⟩:=r.foot ah;exact⟨rfl,by rw[cY (fun z=>no (by rw[←z];exact ah))];exact h2,h3⟩
theorem Rel.b4(r:Rel F G H σ ρ){i:Nat}{d:D}(e:ρ[i]?=some (.b4 d)):∃v,σ[i]?=some (some v)∧At F.K G d v:=by obtain⟨o,ao,v,rfl,a⟩:=r.cb i _ e;exact⟨v,ao,a⟩
theorem Rel.obj(r:Rel F G H σ ρ){i:Nat}{o:jt}(e:ρ[i]?=some (.bg o)):∃a aB,σ[i]?=some (some (.ref a))∧H a=some aB∧G a=none∧F.H0 a=none∧ks F.K G o aB:=by obtain⟨v,ao,a,aB,rfl,h1,h2,h3,h4⟩:=r.cb i _ e;exact⟨a,aB,ao,h1,h2,h3,h4⟩
theorem Rel.own{G H:ae}{σ :St}{ρ:ar}(r:Rel F G H σ ρ){i:Nat}{ds:List D}(e:ρ[i]?=some (.en ds)):∃a xs,σ[i]?=some (some (.ref a))∧H a=some (.lst xs)∧G a=none∧F.H0 a=none∧aO F.K G ds xs:=by obtain⟨a,aB,ao,h1,h2,h3,xs,rfl,h4⟩:=r.obj e;exact⟨a,xs,ao,h1,h2,h3,h4⟩
theorem get_set{α:Type}{l:List α}{i j:Nat}{x y:α}(e:(l.set i x)[j]?=some y):(i=j∧y=x)∨(i≠j∧l[j]?=some y):=by
 rw[YJ]at e;by_cases h:i=j
 ·rw[if_pos h]at e
  split at e
  ·cases e;exact .inl ⟨h,rfl⟩
  ·cases e
 ·rw[if_neg h]at e;exact .inr ⟨h,e⟩
theorem Rel.oX(r:Rel F G H σ ρ){i:Nat}{s:dx}{o:Option V}(af:i<ρ.length)(q:j1 F G H o s)(no:∀a,fs H s o a→∀(j:Nat)(s':dx)(bk:Option V),j≠i→ρ[j]?=some s'→ σ[j]?=some bk→¬fs H s' bk a):Rel F G H (σ.set i o) (ρ.set i s):=by
 have hs:i< σ.length:=by rw[r.len];exact af
 refine⟨r.aG,by simp[r.len],fun j s e=>?_,fun j k b s1 s2 cG b2 ao aA b9 de f1 f2=>?_⟩
 ·rcases get_set e with⟨rfl,rfl⟩|⟨ne,e⟩
  ·exact⟨o,by simp[hs],q⟩
  ·rw[WE ne];exact r.cb j s e
 ·rcases get_set ao with⟨bY,a_⟩|⟨c_,g_⟩
  ·subst bY a_;rw[Xn hs]at b9;cases b9;rcases get_set aA with⟨bM,a7⟩|⟨cT,lb⟩
   ·exact bM
   ·rw[WE cT]at de;exact absurd f2 (no b f1 k s2 b2 (Yx cT) lb de)
  ·rw[WE c_]at b9;rcases get_set aA with⟨bM,a7⟩|⟨cT,lb⟩
   ·subst bM a7;rw[Xn hs]at de;cases de;exact absurd f1 (no b f2 j s1 cG (Yx c_) g_ b9)
   ·rw[WE cT]at de;exact r.mK j k b s1 s2 cG b2 g_ lb b9 de f1 f2
theorem Rel.set(r:Rel F G H σ ρ){i:Nat}{d:D}{v:V}(af:i<ρ.length)(a:At F.K G d v):Rel F G H (σ.set i (some v)) (ρ.set i (.b4 d)):=
 r.oX af ⟨v,rfl,a⟩ fun _ f=>f.elim
theorem Rel.setB(r:Rel F G H σ ρ){i:Nat}{bg:jt}{a:VD}{aB:dj}(af:i<ρ.length)(ah:H a=some aB)(aF:G a=none)(h0:F.H0 a=none)(q:ks F.K G bg aB)(no:∀(j:Nat)(s:dx)(o:Option V),j≠i→ρ[j]?=some s→ σ[j]?=some o→¬fs H s o a):Rel F G H (σ.set i (some (.ref a))) (ρ.set i (.bg bg)):=
 r.oX af ⟨a,aB,rfl,ah,aF,h0,q⟩ fun b f=>by have f:some (V.ref a)=some (.ref b):=f;cases f;exact no
theorem Rel.PG(r:Rel F G H σ ρ){i:Nat}{ds:List D}{a:VD}{xs:List V}(af:i<ρ.length)(ah:H a=some (.lst xs))(aF:G a=none)(h0:F.H0 a=none)(q:aO F.K G ds xs)(no:∀(j:Nat)(s:dx)(o:Option V),j≠i→ρ[j]?=some s→ σ[j]?=some o→¬fs H s o a):Rel F G H (σ.set i (some (.ref a))) (ρ.set i (.en ds)):=r.setB af ah aF h0 ⟨xs,rfl,q⟩ no
theorem Rel.Mz(r:Rel F G H σ ρ){i:Nat}{s s':dx}{o:Option V}{a:VD}{aB:dj}(e:ρ[i]?=some s)(ax: σ[i]?=some o)(e8:fs H s o a)(q:j1 F G (upd H a aB) o s')(f:∀b,fs (upd H a aB) s' o b→fs H s o b∨¬dq H σ ρ b) :
  Rel F G (upd H a aB) σ (ρ.set i s'):=by
 have af:i<ρ.length:=(List.getElem?_eq_some_iff.mp e).1;obtain⟨h1,h2,h3⟩:=r.foot ⟨i,s,o,e,ax,e8⟩;have tA:∀(j:Nat)(t:dx),i≠j→ρ[j]?=some t→∃u,σ[j]?=some u∧j1 F G (upd H a aB) u t∧(∀b,fs (upd H a aB) t u b→fs H t u b):=fun j t ne z=>by obtain⟨u,a_,a7⟩:=r.cb j t z;have na:¬fs H t u a:=fun w=>ne (r.mK i j a s t o u e z ax a_ e8 w);obtain⟨aQ,a9⟩:=a7.keep (H':=upd H a aB) (Sub.refl G) fun b qd=>⟨cY fun w=>na (w▸qd),(a7.foot qd).2.1⟩;exact⟨u,a_,aQ,a9⟩
 refine⟨⟨Sub.ry r.aG.sub h2,r.aG.eh,fun c u z=>?_,r.aG.new⟩,by simp[r.len],fun j t z=>?_,fun j k c s1 s2 cG b2 b9 de eL gd f1 f2=>?_⟩
 ·rw[cY (g6 z h3)];exact r.aG.bF c u z
 ·rcases get_set z with⟨rfl,rfl⟩|⟨ne,z⟩
  ·exact⟨o,ax,q⟩
  ·obtain⟨u,a_,a7,_⟩:=tA j t ne z;exact⟨u,a_,a7⟩
 ·rcases get_set b9 with⟨bY,a_⟩|⟨c_,k9⟩
  ·subst bY a_;rw[ax]at eL;cases eL;rcases get_set de with⟨bM,a7⟩|⟨cT,jk⟩
   ·exact bM
   ·obtain⟨u,g_,_,lb⟩:=tA k s2 cT jk;rw[gd]at g_;cases g_;have g2:=lb c f2;rcases f c f1 with g1|g1
    ·exact r.mK i k c s s2 o b2 e jk ax gd g1 g2
    ·exact absurd ⟨k,s2,b2,jk,gd,g2⟩ g1
  ·obtain⟨u,g_,_,lb⟩:=tA j s1 c_ k9;rw[eL]at g_;cases g_;have g1:=lb c f1;rcases get_set de with⟨bM,a7⟩|⟨cT,jk⟩
   ·subst bM a7;rw[ax]at gd;cases gd;rcases f c f2 with g2|g2
    ·exact r.mK j i c s1 s cG o k9 e eL ax g1 g2
    ·exact absurd ⟨j,s1,cG,k9,eL,g1⟩ g2
   ·obtain⟨u,rC,_,R4⟩:=tA k s2 cT jk;rw[gd]at rC;cases rC;exact r.mK j k c s1 s2 cG b2 k9 jk eL gd g1 (R4 c f2)
theorem Rel.xf(r:Rel F G H σ ρ){i:Nat}{o bk:jt}{a:VD}{aB:dj}(e:ρ[i]?=some (.bg o))(ax: σ[i]?=some (some (.ref a)))(q:ks F.K G bk aB) :
  Rel F G (upd H a aB) σ (ρ.set i (.bg bk)):=by
 obtain⟨b,S1,ao,h1,h2,h3,h4⟩:=r.obj e;rw[ax]at ao;have bx:b=a:=by cases ao;rfl
 subst bx;exact r.Mz e ax rfl ⟨b,aB,rfl,dI,h2,h3,q⟩ fun c f=>.inl f
theorem Rel.mut(r:Rel F G H σ ρ){i:Nat}{ds n4:List D}{a:VD}{ys:List V}(e:ρ[i]?=some (.en ds))(ax: σ[i]?=some (some (.ref a)))(q:aO F.K G n4 ys) :
  Rel F G (upd H a (.lst ys)) σ (ρ.set i (.en n4)):=r.xf e ax ⟨ys,rfl,q⟩
theorem Rel.ix(r:Rel F G H σ ρ){i:Nat}{o:jt}(e:ρ[i]?=some (.bg o)):∃G',Rel F G' H σ (ρ.set i (.b4 (kV o)))∧Sub G G':=by
 have af:i<ρ.length:=(List.getElem?_eq_some_iff.mp e).1;obtain⟨a,aB,ao,h1,h2,h3,h4⟩:=r.obj e;have un:Rel F G H σ (ρ.set i .un):=by have z:=r.oX (s:=.un) (o:=some (.ref a)) af trivial fun _ f=>f.elim;rw[bo.yy ao]at z;exact z
 have no:¬dq H σ (ρ.set i .un) a:=fun⟨j,s,u,g_,lb,rC⟩=>by
  rcases get_set g_ with⟨_,z⟩|⟨ne,g_⟩
  ·subst z;exact rC
  ·exact ne (r.mK i j a _ s _ u e g_ ao lb rfl rC)
 have bl:=un.take h1 h2 h3 no;have dp:=bl.oX (i:=i) (s:=.b4 (kV o)) (o:=some (.ref a)) (by simpa using af) ⟨.ref a,rfl,(h4.mono (Sub.upd h2)).at dI⟩ fun _ f=>f.elim;rw[bo.yy ao,List.set_set]at dp;exact⟨upd G a aB,dp,Sub.upd h2⟩
end
abbrev aJ:=ar→R D
abbrev cw:=ar→R Bool
abbrev aZ:=ar→R (List D)
inductive fq where
 |bJ (ρ:ar)|eA (d:D)|hz (ds:List D)|ey (ρ:ar)|cv (ρ:ar)|dD (t:T)
abbrev bp:=ar→R fq
def i7(F:bj)(c:Str):Prop:=∀G' H',dV F G' H'→F.hE c H'
noncomputable def hQ(F:bj)(G H:ae)(σ :St)(ρ:ar)(Q:cD):R D→Prop
 |.ok d=>∀v H' G',Rel F G' H' σ ρ→b3 G H G' H'→At F.K G' d v→Q v H'
 |.exc c=>i7 F c
 |.bad=>False
noncomputable def oq(F:bj)(G H:ae)(σ :St)(ρ:ar)(Q:Bool→ae→Prop):R Bool→Prop
 |.ok b=>∀H' G',Rel F G' H' σ ρ→b3 G H G' H'→Q b H'
 |.exc c=>i7 F c
 |.bad=>False
noncomputable def K3(F:bj)(G H:ae)(σ :St)(ρ:ar)(Q:List V→ae→Prop):R (List D)→Prop
 |.ok ds=>∀vs H' G',Rel F G' H' σ ρ→b3 G H G' H'→aO F.K G' ds vs→Q vs H'
 |.exc c=>i7 F c
 |.bad=>False
noncomputable def K8(F:bj)(G H:ae)(σ :St)(ρ:ar)(Q:cD):R (List D)→Prop
 |.ok ds=>∀a xs H' G',Rel F G' H' σ ρ→b3 G H G' H'→H a=none→H' a=some (.lst xs)→G' a=none→aO F.K G' ds xs→Q (.ref a) H'
 |.exc c=>i7 F c
 |.bad=>False
noncomputable def gy(F:bj)(G:ae)(cf:Ends):R fq→Prop
 |.ok (.bJ bC)=>∀ σ' G' H',Rel F G' H' σ' bC→Sub G G'→cf.bJ σ' H'
 |.ok (.ey bC)=>∀ σ' G' H',Rel F G' H' σ' bC→Sub G G'→cf.ey σ' H'
 |.ok (.cv bC)=>∀ σ' G' H',Rel F G' H' σ' bC→Sub G G'→cf.cv σ' H'
 |.ok (.eA d)=>∀v G' H',dV F G' H'→At F.K G' d v→cf.eA v H'
 |.ok (.hz ds)=>∀a xs G' H',dV F G' H'→G' a=none→F.H0 a=none→H' a=some (.lst xs)→aO F.K G' ds xs→cf.eA (.ref a) H'
 |.ok (.dD t)=>∀v G' H',dV F G' H'→r0 F G' H' t v→cf.eA v H'
 |.exc c=>i7 F c
 |.bad=>False
def cJ(F:bj)(m:aJ):TE:=fun σ H Q=>∃G ρ,Rel F G H σ ρ∧hQ F G H σ ρ Q (m ρ)
def fD(F:bj)(m:cw):TT:=fun σ H Q=>∃G ρ,Rel F G H σ ρ∧oq F G H σ ρ Q (m ρ)
def eb(F:bj)(m:aZ):eK:=fun σ H Q=>∃G ρ,Rel F G H σ ρ∧K3 F G H σ ρ Q (m ρ)
def hA(F:bj)(m:aZ):TE:=fun σ H Q=>∃G ρ,Rel F G H σ ρ∧K8 F G H σ ρ Q (m ρ)
def fm(F:bj)(m:bp):et:=fun cf σ H=>∃G ρ,Rel F G H σ ρ∧gy F G cf (m ρ)
section
variable{F:bj}{G aL H H1:ae}{σ :St}{ρ:ar}
theorem hQ.mono{Q:cD}(s:b3 G H aL H1):∀{r:R D},hQ F G H σ ρ Q r→hQ F aL H1 σ ρ Q r
 |.ok _,h=>fun v H' G' r a4 a=>h v H' G' r (s.trans a4) a
 |.exc _,h=>h
 |.bad,h=>h
theorem oq.mono{Q:Bool→ae→Prop}(s:b3 G H aL H1):∀{r:R Bool},oq F G H σ ρ Q r→oq F aL H1 σ ρ Q r
 |.ok _,h=>fun H' G' r a4=>h H' G' r (s.trans a4)
 |.exc _,h=>h
 |.bad,h=>h
theorem gy.mono{cf:Ends}(s:Sub G aL):∀{r:R fq},gy F G cf r→gy F aL cf r
 |.ok (.bJ _),h=>fun σ' G' H' r a4=>h σ' G' H' r (s.trans a4)
 |.ok (.ey _),h=>fun σ' G' H' r a4=>h σ' G' H' r (s.trans a4)
 |.ok (.cv _),h=>fun σ' G' H' r a4=>h σ' G' H' r (s.trans a4)
 |.ok (.eA _),h=>h
 |.ok (.hz _),h=>h
 |.ok (.dD _),h=>h
 |.exc _,h=>h
 |.bad,h=>h
end
abbrev eE(t' t:TE):Prop:=∀ σ H Q,t' σ H Q→t σ H Q
abbrev kp(t' t:TT):Prop:=∀ σ H Q,t' σ H Q→t σ H Q
abbrev rO(t' t:eK):Prop:=∀ σ H Q,t' σ H Q→t σ H Q
abbrev hF(t' t:et):Prop:=∀cf σ H,t' cf σ H→t cf σ H
def ay(i:Nat):aJ:=fun ρ=>match ρ[i]? with
 |some (.b4 d)=>.ok d
 |_=>.bad
def aj(d:D):aJ:=fun _=>.ok d
section
variable{F:bj}
theorem Kw(i:Nat):eE (cJ F (ay i)) (yP i):=by
 rintro σ H Q ⟨G,ρ,r,h⟩;unfold ay at h;cases e:ρ[i]? with
 |none=>rw[e]at h;exact h.elim
 |some s=>
  rw[e]at h;cases s with
  |un=>exact h.elim
  |bg _=>exact h.elim
  |ed _=>exact h.elim
  |b4 d=>obtain⟨v,ao,a⟩:=r.b4 e;exact⟨v,ao,h v H G r (b3.refl _ _) a⟩
theorem qF{d:D}{v:V}(a:∀G,At F.K G d v):eE (cJ F (aj d)) (l_ v):=by rintro σ H Q ⟨G,ρ,r,h⟩;exact h v H G r (b3.refl _ _) (a G)
def aE(f:D→D→R D)(a b:aJ):aJ:=fun ρ=>(a ρ).bind fun x=>(b ρ).bind fun y=>f x y
noncomputable def fF(F:bj)(r:d7)(f:D→D→R D):Prop:=∀ σ ρ G H x y a5 fh Q,Rel F G H σ ρ→At F.K G a5 x→At F.K G fh y→hQ F G H σ ρ Q (f a5 fh)→r x y H Q
theorem qG{r:d7}{f:D→D→R D}{ma fC:aJ}(aB:fF F r f):eE (cJ F (aE f ma fC)) (o5 r (cJ F ma) (cJ F fC)):=by
 rintro σ H Q ⟨G,ρ,r,h⟩;unfold aE at h;refine⟨G,ρ,r,?_⟩;cases ax:ma ρ with
 |bad=>rw[ax]at h;exact h.elim
 |exc c=>rw[ax]at h;exact h
 |ok a5=>
  rw[ax,R.bI]at h;intro x H1 aL au s1 bV;refine⟨aL,ρ,au,?_⟩;cases bx:fC ρ with
  |bad=>rw[bx]at h;exact h.elim
  |exc c=>rw[bx]at h;exact h
  |ok fh=>rw[bx,R.bI]at h;intro y aM cC bl s2 cS;exact aB σ ρ cC aM x y a5 fh Q bl (bV.mono s2.g) cS (h.mono (s1.trans s2))
def dG(f:D→R D)(a:aJ):aJ:=fun ρ=>(a ρ).bind f
def aR:aZ:=fun _=>.ok []
def ag(a:aJ)(r:aZ):aZ:=fun ρ=>(a ρ).bind fun x=>(r ρ).bind fun xs=>.ok (x::xs)
theorem Kg:rO (eb F aR) yL:=by rintro σ H Q ⟨G,ρ,r,h⟩;exact h [] H G r (b3.refl _ _) .nil
theorem J4{ma:aJ}{xc:aZ}:rO (eb F (ag ma xc)) (t4 (cJ F ma) (eb F xc)):=by
 rintro σ H Q ⟨G,ρ,r,h⟩;unfold ag at h;refine⟨G,ρ,r,?_⟩;cases ax:ma ρ with
 |bad=>rw[ax]at h;exact h.elim
 |exc c=>rw[ax]at h;exact h
 |ok a5=>
  rw[ax,R.bI]at h;intro x H1 aL au s1 bV;refine⟨aL,ρ,au,?_⟩;cases bx:xc ρ with
  |bad=>rw[bx]at h;exact h.elim
  |exc c=>rw[bx]at h;exact h
  |ok fh=>rw[bx,R.bI]at h;intro y aM cC bl s2 cS;exact h (x::y) aM cC bl (s1.trans s2) (.cons (bV.mono s2.g) cS)
def fk(m:aZ):aJ:=fun ρ=>(m ρ).bind fun xs=>if xs.length≤1000000 then .ok (.tup xs)else .bad
theorem Ku{m:aZ}:eE (cJ F (fk m)) (FN (eb F m)):=by
 rintro σ H Q ⟨G,ρ,r,h⟩;unfold fk at h;refine⟨G,ρ,r,?_⟩;cases ax:m ρ with
 |bad=>rw[ax]at h;exact h.elim
 |exc c=>rw[ax]at h;exact h
 |ok ds=>
  rw[ax,R.bI]at h;intro vs H1 aL au s1 a;by_cases ak:ds.length≤1000000
  ·rw[if_pos ak]at h;refine⟨by rw[←a.length];exact V7 ak (by decide),fun p bf=>?_⟩;refine h (.ref p) _ _ (au.lay bf) (s1.trans (b3.lay au.aG.sub bf)) ?_;simp only[At];exact⟨p,vs,rfl,dI,a.mono (Sub.upd (au.aG.sub.gone bf))⟩
  ·rw[if_neg ak]at h;exact h.elim
theorem dq.back{G H H':ae}{σ :St}{ρ:ar}(r:Rel F G H σ ρ)(s:Sub H H'){a:VD}(h:dq H' σ ρ a):dq H σ ρ a:=by
 obtain⟨i,cb,o,ao,aA,f⟩:=h;refine⟨i,cb,o,ao,aA,?_⟩;obtain⟨bk,b9,q⟩:=r.cb i cb ao;rw[aA]at b9;cases b9;exact(q.keep (G':=G) (H':=H') (Sub.refl _) fun b qd=>⟨by
  cases e:H b with
  |none=>exact absurd e (q.foot qd).1
  |some u=>exact s b u e,(q.foot qd).2.1⟩).2 a f
theorem dq.fresh{G H H':ae}{σ :St}{ρ:ar}(r:Rel F G H σ ρ)(s:Sub H H'){a:VD}(n:H a=none):¬dq H' σ ρ a:=fun h=>(r.foot (h.back r s)).1 n
def lim(xs:List D):R (List D):=if xs.length≤1000000 then .ok xs else .bad
def du(m:aZ):aZ:=fun ρ=>(m ρ).bind lim
theorem Kb{m:aZ}:eE (hA F (du m)) (FD (eb F m)):=by
 rintro σ H Q ⟨G,ρ,r,h⟩;unfold du lim at h;refine⟨G,ρ,r,?_⟩;cases ax:m ρ with
 |bad=>rw[ax]at h;exact h.elim
 |exc c=>rw[ax]at h;exact h
 |ok ds=>
  rw[ax,R.bI]at h;intro vs H1 aL au s1 a;by_cases ak:ds.length≤1000000
  ·rw[if_pos ak]at h;refine⟨by rw[←a.length];exact V7 ak (by decide),fun p bf=>?_⟩;exact h p vs _ aL (au.lay0 bf) (s1.trans (b3.lay0 bf)) (s1.h.gone bf) dI (au.aG.sub.gone bf) a
  ·rw[if_neg ak]at h;exact h.elim
def cO(m:aZ):aJ:=fun ρ=>(m ρ).bind fun xs=>.ok (.lst xs)
theorem J7{m:aZ}:eE (cJ F (cO m)) (hA F m):=by
 rintro σ H Q ⟨G,ρ,r,h⟩;unfold cO at h;refine⟨G,ρ,r,?_⟩;cases ax:m ρ with
 |bad=>rw[ax]at h;exact h.elim
 |exc c=>rw[ax]at h;exact h
 |ok ds=>rw[ax,R.bI]at h;intro a xs H' G' bq s' aK ah aF q;refine h (.ref a) H' _ (bq.take ah aF (r.aG.bF.gone aK) (dq.fresh r s'.h aK)) (s'.put aK aF) ?_;simp only[At];exact⟨a,xs,rfl,dI,q.mono (Sub.upd aF)⟩
def ju:D→R Bool
 |.aU b=>.ok b
 |_=>.bad
def b5(m:aJ):cw:=fun ρ=>(m ρ).bind ju
theorem wC{m:aJ}:kp (fD F (b5 m)) (yI (cJ F m)):=by
 rintro σ H Q ⟨G,ρ,r,h⟩;unfold b5 at h;refine⟨G,ρ,r,?_⟩;cases ax:m ρ with
 |bad=>rw[ax]at h;exact h.elim
 |exc c=>rw[ax]at h;exact h
 |ok d=>
  rw[ax,R.bI]at h;intro x H1 aL au s1 bV
  cases d<;>first
   |(exact h.elim)
   |(simp only[At]at bV;exact⟨_,bV,h H1 aL au s1⟩)
theorem CE{m:aJ}:kp (fD F (b5 m)) (yO (cJ F m)):=wC
def qQ(a b:cw):cw:=fun ρ=>(a ρ).bind fun c=>if c=true then b ρ else .ok false
def gN(a b:cw):cw:=fun ρ=>(a ρ).bind fun c=>if c=true then .ok true else b ρ
def ez(a:cw):cw:=fun ρ=>(a ρ).bind fun c=>.ok (!c)
theorem JY{a b:cw}:kp (fD F (qQ a b)) (Fv (fD F a) (fD F b)):=by
 rintro σ H Q ⟨G,ρ,r,h⟩;unfold qQ at h;refine⟨G,ρ,r,?_⟩;cases ax:a ρ with
 |bad=>rw[ax]at h;exact h.elim
 |exc c=>rw[ax]at h;exact h
 |ok c=>
  rw[ax,R.bI]at h;intro H1 aL au s1;cases c with
  |true=>exact⟨aL,ρ,au,oq.mono s1 h⟩
  |false=>exact h H1 aL au s1
theorem Kj{a b:cw}:kp (fD F (gN a b)) (FI (fD F a) (fD F b)):=by
 rintro σ H Q ⟨G,ρ,r,h⟩;unfold gN at h;refine⟨G,ρ,r,?_⟩;cases ax:a ρ with
 |bad=>rw[ax]at h;exact h.elim
 |exc c=>rw[ax]at h;exact h
 |ok c=>
  rw[ax,R.bI]at h;intro H1 aL au s1;cases c with
  |true=>exact h H1 aL au s1
  |false=>exact⟨aL,ρ,au,oq.mono s1 h⟩
theorem Kh{a:cw}:kp (fD F (ez a)) (FG (fD F a)):=by
 rintro σ H Q ⟨G,ρ,r,h⟩;unfold ez at h;refine⟨G,ρ,r,?_⟩;cases ax:a ρ with
 |bad=>rw[ax]at h;exact h.elim
 |exc c=>rw[ax]at h;exact h
 |ok c=>rw[ax,R.bI]at h;exact h
noncomputable def i8(a b:aJ):aJ:=fun ρ=>(a ρ).bind fun x=>(ju x).bind fun c=>if c=true then b ρ else .ok (.aU false)
noncomputable def qY(a b:aJ):aJ:=fun ρ=>(a ρ).bind fun x=>(ju x).bind fun c=>if c=true then .ok (.aU true)else b ρ
def qX(a:aJ):aJ:=fun ρ=>(a ρ).bind fun x=>(ju x).bind fun c=>.ok (.aU (!c))
theorem JZ{a b:aJ}:eE (cJ F (i8 a b)) (Fw (cJ F a) (cJ F b)):=by
 rintro σ H Q ⟨G,ρ,r,h⟩;unfold i8 at h;refine⟨G,ρ,r,?_⟩;cases ax:a ρ with
 |bad=>rw[ax]at h;exact h.elim
 |exc c=>rw[ax]at h;exact h
 |ok d=>
  rw[ax,R.bI]at h;intro x H1 aL au s1 bV;cases d with
  |aU c=>
   simp only[At]at bV;refine⟨c,bV,?_⟩;cases c with
   |true=>exact⟨aL,ρ,au,hQ.mono s1 h⟩
   |false=>exact h _ H1 aL au s1 (by simp only[At])
  |_=>exact h.elim
theorem Kk{a b:aJ}:eE (cJ F (qY a b)) (FJ (cJ F a) (cJ F b)):=by
 rintro σ H Q ⟨G,ρ,r,h⟩;unfold qY at h;refine⟨G,ρ,r,?_⟩;cases ax:a ρ with
 |bad=>rw[ax]at h;exact h.elim
 |exc c=>rw[ax]at h;exact h
 |ok d=>
  rw[ax,R.bI]at h;intro x H1 aL au s1 bV;cases d with
  |aU c=>
   simp only[At]at bV;refine⟨c,bV,?_⟩;cases c with
   |false=>exact⟨aL,ρ,au,hQ.mono s1 h⟩
   |true=>exact h _ H1 aL au s1 (by simp only[At])
  |_=>exact h.elim
theorem Ki{a:aJ}:eE (cJ F (qX a)) (FH (cJ F a)):=by
 rintro σ H Q ⟨G,ρ,r,h⟩;unfold qX at h;refine⟨G,ρ,r,?_⟩;cases ax:a ρ with
 |bad=>rw[ax]at h;exact h.elim
 |exc c=>rw[ax]at h;exact h
 |ok d=>
  rw[ax,R.bI]at h;intro x H1 aL au s1 bV;cases d with
  |aU c=>simp only[At]at bV;exact⟨c,bV,h _ H1 aL au s1 (by simp only[At])⟩
  |_=>exact h.elim
def qU(c:cw)(a b:aJ):aJ:=fun ρ=>(c ρ).bind fun k=>if k=true then a ρ else b ρ
theorem J8{c:cw}{a b:aJ}:eE (cJ F (qU c a b)) (FA (fD F c) (cJ F a) (cJ F b)):=by
 rintro σ H Q ⟨G,ρ,r,h⟩;unfold qU at h;refine⟨G,ρ,r,?_⟩;cases ax:c ρ with
 |bad=>rw[ax]at h;exact h.elim
 |exc c=>rw[ax]at h;exact h
 |ok k=>
  rw[ax,R.bI]at h;intro H1 aL au s1;cases k with
  |true=>exact⟨aL,ρ,au,hQ.mono s1 h⟩
  |false=>exact⟨aL,ρ,au,hQ.mono s1 h⟩
def dO:bp:=fun ρ=>.ok (.bJ ρ)
def bP(a b:bp):bp:=fun ρ=>(a ρ).bind fun f=>match f with
 |.bJ bC=>b bC
 |f=>.ok f
theorem Kf:hF (fm F dO) FF:=by rintro cf σ H ⟨G,ρ,r,h⟩;exact h σ G H r (Sub.refl _)
theorem Kp{a b:bp}:hF (fm F (bP a b)) (yN (fm F a) (fm F b)):=by
 rintro cf σ H ⟨G,ρ,r,h⟩;unfold bP at h;refine⟨G,ρ,r,?_⟩;cases ax:a ρ with
 |bad=>rw[ax]at h;exact h.elim
 |exc c=>rw[ax]at h;exact h
 |ok f=>
  rw[ax,R.bI]at h;cases f with
  |bJ bC=>exact fun σ' G' H' bq s'=>⟨G',bC,bq,gy.mono s' h⟩
  |eA d=>exact h
  |hz d=>exact h
  |ey d=>exact h
  |cv d=>exact h
  |dD d=>exact h
def cF(a:aJ):bp:=fun ρ=>(a ρ).bind fun d=>.ok (.eA d)
theorem Km{a:aJ}:hF (fm F (cF a)) (t5 (cJ F a)):=by
 rintro cf σ H ⟨G,ρ,r,h⟩;unfold cF at h;refine⟨G,ρ,r,?_⟩;cases ax:a ρ with
 |bad=>rw[ax]at h;exact h.elim
 |exc c=>rw[ax]at h;exact h
 |ok d=>rw[ax,R.bI]at h;exact fun v H' G' bq s' a=>h v G' H' bq.aG a
def jb(a:aZ):bp:=fun ρ=>(a ρ).bind fun d=>.ok (.hz d)
theorem Kn{a:aZ}:hF (fm F (jb a)) (t5 (hA F a)):=by
 rintro cf σ H ⟨G,ρ,r,h⟩;unfold jb at h;refine⟨G,ρ,r,?_⟩;cases ax:a ρ with
 |bad=>rw[ax]at h;exact h.elim
 |exc c=>rw[ax]at h;exact h
 |ok d=>rw[ax,R.bI]at h;exact fun a xs H' G' bq s' h1 h2 h3 h4=>h a xs G' H' bq.aG h3 (r.aG.bF.gone h1) h2 h4
def oD(i:Nat):aZ:=fun ρ=>match ρ[i]? with
 |some (.bg (.lst d))=>.ok d
 |_=>.bad
theorem Ko(i:Nat):hF (fm F (jb (oD i))) (t5 (yP i)):=by
 rintro cf σ H ⟨G,ρ,r,h⟩;unfold jb oD at h;cases e:ρ[i]? with
 |none=>rw[e]at h;exact h.elim
 |some s=>
  rw[e]at h;cases s with
  |un=>exact h.elim
  |b4 _=>exact h.elim
  |ed _=>exact h.elim
  |bg o=>
   cases o with
   |lst ds=>obtain⟨a,xs,ao,h1,h2,h3,h4⟩:=r.own e;exact⟨.ref a,ao,h a xs G H r.aG h2 h3 h1 h4⟩
   |cA _ _=>exact h.elim
   |ins _ _ _=>exact h.elim
def dt(c:cw)(a b:bp):bp:=fun ρ=>(c ρ).bind fun k=>if k=true then a ρ else b ρ
theorem J9{c:cw}{a b:bp}:hF (fm F (dt c a b)) (FC (fD F c) (fm F a) (fm F b)):=by
 rintro cf σ H ⟨G,ρ,r,h⟩;unfold dt at h;refine⟨G,ρ,r,?_⟩;cases ax:c ρ with
 |bad=>rw[ax]at h;exact h.elim
 |exc c=>rw[ax]at h;exact h
 |ok k=>
  rw[ax,R.bI]at h;intro H1 aL au s1;cases k with
  |true=>exact⟨aL,ρ,au,gy.mono s1.g h⟩
  |false=>exact⟨aL,ρ,au,gy.mono s1.g h⟩
def dH(i:Nat)(d:D)(ρ:ar):R ar:=if i<ρ.length then .ok (ρ.set i (.b4 d))else .bad
def dC(i:Nat)(a:aJ):bp:=fun ρ=>(a ρ).bind fun d=>(dH i d ρ).bind fun bC=>.ok (.bJ bC)
theorem Kq{i:Nat}{a:aJ}:hF (fm F (dC i a)) (k7 (cJ F a) (hq i)):=by
 rintro cf σ H ⟨G,ρ,r,h⟩;unfold dC dH at h;refine⟨G,ρ,r,?_⟩;cases ax:a ρ with
 |bad=>rw[ax]at h;exact h.elim
 |exc c=>rw[ax]at h;exact h
 |ok d=>
  rw[ax,R.bI]at h;intro v H1 aL au s1 bc;by_cases af:i<ρ.length
  ·rw[if_pos af]at h;exact h _ aL H1 (au.set af bc) s1.g
  ·rw[if_neg af]at h;exact h.elim
noncomputable def iF(i:Nat)(a:aZ):bp:=fun ρ=>(a ρ).bind fun ds=>if i<ρ.length then .ok (.bJ (ρ.set i (.en ds)))else .bad
theorem wD{i:Nat}{a:aZ}:hF (fm F (iF i a)) (k7 (hA F a) (hq i)):=by
 rintro cf σ H ⟨G,ρ,r,h⟩;unfold iF at h;refine⟨G,ρ,r,?_⟩;cases ax:a ρ with
 |bad=>rw[ax]at h;exact h.elim
 |exc c=>rw[ax]at h;exact h
 |ok ds=>
  rw[ax,R.bI]at h;intro b xs H1 aL au s1 h1 h2 h3 h4;by_cases af:i<ρ.length
  ·rw[if_pos af]at h;exact h _ aL H1 (au.PG af h2 h3 (r.aG.bF.gone h1) h4 fun j es o _ ao aA f=>dq.fresh r s1.h h1 ⟨j,es,o,ao,aA,f⟩) s1.g
  ·rw[if_neg af]at h;exact h.elim
def jv(i:Nat)(ρ:ar):ar:=match ρ[i]? with
 |some (.bg o)=>ρ.set i (.b4 (kV o))
 |_=>ρ
theorem Rel.jv{G H:ae}{σ :St}{ρ:ar}(r:Rel F G H σ ρ)(i:Nat):∃G',Rel F G' H σ (bo.jv i ρ)∧Sub G G':=by
 unfold bo.jv;cases e:ρ[i]? with
 |none=>exact⟨G,r,Sub.refl _⟩
 |some s=>
  cases s with
  |un=>exact⟨G,r,Sub.refl _⟩
  |b4 _=>exact⟨G,r,Sub.refl _⟩
  |ed _=>exact⟨G,r,Sub.refl _⟩
  |bg o=>exact r.ix e
def Md(i:Nat)(m:bp):bp:=fun ρ=>m (jv i ρ)
def gk:D→Bool
 |.non=>true|.aU _=>true|.int _=>true|.str _=>true
 |_=>false
def lI:dx→dx
 |.bg o=>.b4 (kV o)
 |.ed t=>.b4 (toD t)
 |s=>s
def fK(ρ:ar):ar:=ρ.map lI
open Classical in
noncomputable def jw(σ :St)(ρ:ar)(G H:ae):ae:=fun b=>if dq H σ ρ b then H b else G b
theorem vR{G H:ae}{σ :St}{ρ:ar}(r:Rel F G H σ ρ):Sub G (jw σ ρ G H):=fun b o e=>by
 unfold jw
 split
 ·exact r.aG.sub b o e
 ·exact e
theorem ql{G H:ae}{σ :St}{ρ:ar}{b:VD}(h:dq H σ ρ b):jw σ ρ G H b=H b:=by unfold jw;rw[if_pos h]
theorem ID{H:ae}{ρ:ar}{i:Nat}{s:dx}(e:(fK ρ)[i]?=some s)(o:Option V)(a:VD):¬fs H s o a:=by
 unfold fK at e;rw[VW]at e;cases aA:ρ[i]? with
 |none=>rw[aA]at e;cases e
 |some t=>rw[aA]at e;have es:lI t=s:=VM e;subst es;cases t<;>exact fun z=>z
theorem Rel.plus{G H:ae}{σ :St}{ρ:ar}(r:Rel F G H σ ρ):Rel F (jw σ ρ G H) H σ (fK ρ):=by
 have a4:=vR r;refine⟨⟨fun b o e=>?_,r.aG.eh.trans a4,r.aG.bF,fun b J=>?_⟩,by simp[fK,r.len],fun i s e=>?_,fun i j a s s' o bk ao _ _ _ f _=>absurd f (ID ao o a)⟩
 ·unfold jw at e
  split at e
  ·exact e
  ·exact r.aG.sub b o e
 ·unfold jw
  split
  ·rename_i z;exact absurd (r.foot z).2.2 J
  ·exact r.aG.new b J
 ·unfold fK at e;rw[VW]at e;cases ao:ρ[i]? with
  |none=>rw[ao]at e;cases e
  |some t=>
   rw[ao]at e;have es:lI t=s:=VM e;obtain⟨o,aA,q⟩:=r.cb i t ao;refine⟨o,aA,?_⟩;subst es;cases t with
   |un=>trivial
   |b4 d=>obtain⟨v,b9,a⟩:=q;exact⟨v,b9,a.mono a4⟩
   |bg ds=>obtain⟨a,aB,b9,h1,h2,h3,h4⟩:=q;subst b9;exact⟨.ref a,rfl,(h4.mono a4).at (by rw[ql (.bg ao aA)];exact h1)⟩
   |ed t=>obtain⟨v,b9,q⟩:=q;exact⟨v,b9,q.at_.view a4 fun a ah=>ql ⟨i,_,o,ao,aA,v,b9,ah⟩⟩
theorem Rel.back{G H G' H':ae}{σ :St}{ρ:ar}(r:Rel F G H σ ρ)(bq:Rel F G' H' σ (fK ρ))(s:Sub (jw σ ρ G H) G'):Rel F G H' σ ρ:=
 r.over rfl ⟨(vR r).trans (s.trans bq.aG.sub),r.aG.eh,bq.aG.bF,r.aG.new⟩ (Sub.refl _) fun a ah=>by
   obtain⟨h1,h2,h3⟩:=r.foot ah;refine⟨?_,h2,h3⟩;cases e:H a with
   |none=>exact absurd e h1
   |some o=>exact bq.aG.sub _ _ (s _ _ (by rw[ql ah];exact e))
def tv(d:D):R D:=if gk d=true then .ok d else .bad
def L9(m:aJ):aJ:=fun ρ=>(m (fK ρ)).bind tv
def qR(m:cw):cw:=fun ρ=>m (fK ρ)
theorem J1{m:cw}:kp (fD F (qR m)) (fD F m):=by
 rintro σ H Q ⟨G,ρ,r,h⟩;refine⟨jw σ ρ G H,fK ρ,r.plus,?_⟩;unfold qR at h;cases ax:m (fK ρ)with
 |bad=>rw[ax]at h;exact h.elim
 |exc c=>rw[ax]at h;exact h
 |ok d=>rw[ax]at h;exact fun H' G' bq s'=>h H' G (r.back bq s'.g) ⟨Sub.refl _,s'.h,fun _ _=>rfl⟩
end
section
variable{F:bj}
structure jY(K:PySem.W.Frag)(br:It)(ds:List D)(G:ae):Prop where
 go:∀(i:Nat)(H:ae),Sub G H→i<ds.length→br.go i H
 hX:∀(i:Nat)(H:ae)(x:V)(H':ae),Sub G H→i<ds.length→br.hX i H x H'→∃d,ds[i]?=some d∧
  ((H'=H∧At K G d x)∨∃p xs es,H p=none∧H'=upd H p (.tup xs)∧x=.ref p∧d=.tup es∧aO K G es xs)
 stop:∀(H:ae),Sub G H→br.stop ds.length H
noncomputable def K6(F:bj)(G H:ae)(σ :St)(ρ:ar)(Q:It→ae→Prop):R (List D)→Prop
 |.ok ds=>∀br H' G',Rel F G' H' σ ρ→b3 G H G' H'→jY F.K br ds G'→Q br H'
 |.exc c=>i7 F c
 |.bad=>False
def jO(F:bj)(m:aZ):TI:=fun σ H Q=>∃G ρ,Rel F G H σ ρ∧K6 F G H σ ρ Q (m ρ)
abbrev nN(t' t:TI):Prop:=∀ σ H Q,t' σ H Q→t σ H Q
theorem jY.turn{br:It}{ds:List D}{G aL H H':ae}{σ :St}{ρ:ar}{i:Nat}{x:V}(t:jY F.K br ds G)(r:Rel F aL H σ ρ)(s:Sub G aL)(af:i<ds.length)(y:br.hX i H x H') :
  ∃d G',ds[i]?=some d∧Rel F G' H' σ ρ∧b3 aL H G' H'∧At F.K G' d x:=by
 obtain⟨d,e,h⟩:=t.hX i H x H' (s.trans r.aG.sub) af y;rcases h with⟨rfl,a⟩|⟨p,xs,es,bf,rfl,rfl,rfl,a⟩
 ·exact⟨d,aL,e,r,b3.refl _ _,a.mono s⟩
 ·refine⟨_,_,e,r.lay bf,b3.lay r.aG.sub bf,?_⟩;simp only[At];exact⟨p,xs,rfl,dI,(a.mono s).mono (Sub.upd (r.aG.sub.gone bf))⟩
noncomputable def jW(F:bj)(g:gv)(set:D→ar→R ar):Prop:=∀ σ ρ G H v d Q bC,Rel F G H σ ρ→At F.K G d v→set d ρ=.ok bC→(∀ σ',Rel F G H σ' bC→Q σ' H)→g v σ H Q
theorem qm(i:Nat):jW F (hq i) (dH i):=by
 intro σ ρ G H v d Q bC r a e h;unfold dH at e;by_cases af:i<ρ.length
 ·rw[if_pos af]at e;cases e;exact h _ (r.set af a)
 ·rw[if_neg af]at e;cases e
noncomputable def gB:List (D→ar→R ar)→List D→ar→R ar
 |[],[],ρ=>.ok ρ
 |f::aT,d::ds,ρ=>(f d ρ).bind fun bC=>gB aT ds bC
 |_,_,_=>.bad
noncomputable def pq(F:bj)(g:j2)(set:List D→ar→R ar):Prop:=∀ σ ρ G H vs ds Q bC,Rel F G H σ ρ→aO F.K G ds vs→set ds ρ=.ok bC→(∀ σ',Rel F G H σ' bC→Q σ' H)→g vs σ H Q
theorem B7:pq F sx (gB []):=by
 intro σ ρ G H vs ds Q bC r a e h;cases ds with
 |nil=>simp only[aO]at a;cases e;exact⟨a,h σ r⟩
 |cons d ds=>cases e
theorem vS{g:gv}{kC:j2}{f:D→ar→R ar}{aT:List (D→ar→R ar)}(h1:jW F g f)(h2:pq F kC (gB aT)):pq F (qk g kC) (gB (f::aT)):=by
 intro σ ρ G H vs ds Q bC r a e h;cases ds with
 |nil=>cases e
 |cons d ds=>
  simp only[aO]at a;obtain⟨v,ui,rfl,bc,kx⟩:=a;simp only[gB]at e;cases ao:f d ρ with
  |bad=>rw[ao]at e;cases e
  |exc c=>rw[ao]at e;cases e
  |ok eD=>rw[ao,R.bI]at e;refine⟨v,ui,rfl,h1 σ ρ G H v d _ eD r bc ao fun σ1 au=>?_⟩;exact h2 σ1 eD G H ui ds Q bC au kx e h
def l7(aT:List (D→ar→R ar)):D→ar→R ar
 |.tup ds,ρ=>gB aT ds ρ
 |_,_=>.bad
theorem E_:∀{aT:List (D→ar→R ar)}{ds:List D}{ρ bC:ar},gB aT ds ρ=.ok bC→ds.length=aT.length
 |[],[],_,_,_=>rfl
 |[],_::_,_,_,e=>by cases e
 |_::_,[],_,_,e=>by cases e
 |f::aT,d::ds,ρ,bC,e=>by
  simp only[gB]at e;cases ao:f d ρ with
  |bad=>rw[ao]at e;cases e
  |exc c=>rw[ao]at e;cases e
  |ok eD=>rw[ao,R.bI]at e;simp[E_ e]
theorem B8{kC:j2}{aT:List (D→ar→R ar)}{n:Nat}(aK:n=aT.length)(h:pq F kC (gB aT)):jW F (sy F.K n kC) (l7 aT):=by
 intro σ ρ G H v d Q bC r a e k;cases d with
 |tup ds=>simp only[At]at a;obtain⟨p,xs,rfl,aS,al⟩:=a;refine⟨p,xs,rfl,cz.of (r.aG.sub _ _ aS),?_,h σ ρ G H xs ds Q bC r al e k⟩;rw[←al.length,aK];exact E_ e
 |_=>cases e
noncomputable def j8(set:D→ar→R ar)(body:bp):List D→ar→R fq
 |[],ρ=>.ok (.bJ ρ)
 |d::ds,ρ=>(set d ρ).bind fun eD=>(body eD).bind fun f=>match f with
  |.bJ dv=>j8 set body ds dv
  |.cv dv=>j8 set body ds dv
  |.ey dv=>.ok (.bJ dv)
  |f=>.ok f
def i_(mi:aZ)(set:D→ar→R ar)(body:bp):bp:=fun ρ=>(mi ρ).bind fun ds=>j8 set body ds ρ
theorem J6{mi:aZ}{set:D→ar→R ar}{body:bp}{g:gv}(aF:jW F g set)(av:∀d ρ c,set d ρ≠.exc c):hF (fm F (i_ mi set body)) (Fz (jO F mi) g (fm F body)):=by
 rintro cf σ H ⟨G,ρ,r,h⟩;unfold i_ at h;refine⟨G,ρ,r,?_⟩;cases ax:mi ρ with
 |bad=>rw[ax]at h;exact h.elim
 |exc c=>rw[ax]at h;exact h
 |ok ds=>
  rw[ax,R.bI]at h;intro br H1 aL au s1 it;refine⟨fun i m σ2 aM=>m=ds.length-i∧i≤ds.length∧∃cC dv,Rel F cC aM σ2 dv∧Sub aL cC∧gy F cC cf (j8 set body (ds.drop i) dv),⟨ds.length,by simp,WK _,aL,ρ,au,Sub.refl _,gy.mono s1.g (by simpa using h)⟩,?_⟩;rintro i m σ2 aM ⟨rfl,af,cC,dv,bl,s2,k2⟩;by_cases e9:i<ds.length
  ·refine .inr ⟨it.go i aM (s2.trans bl.aG.sub) e9,fun σ3 cy=>∃eN uH,Rel F eN cy σ3 uH∧Sub aL eN∧gy F eN cf (j8 set body (ds.drop (i+1)) uH),fun σ3 cy⟨eN,uH,dp,s3,k3⟩=>⟨ds.length-(i+1),by omega,rfl,e9,eN,uH,dp,s3,k3⟩,fun x cy y=>?_⟩;obtain⟨d,eN,b9,dp,s3,eX⟩:=it.turn bl s2 e9 y;have d5:ds.drop i=d::ds.drop (i+1):=by
    rw[Xx e9];have:=Vz e9;rw[b9]at this;rw[VM this]
   rw[d5]at k2;simp only[j8]at k2;cases de:set d dv with
   |bad=>rw[de]at k2;exact k2.elim
   |exc c=>exact absurd de (av d dv c)
   |ok fp=>
    rw[de,R.bI]at k2;refine aF σ2 dv eN cy x d _ fp dp eX de fun σ5 kj=>⟨eN,fp,kj,?_⟩;have ri:Sub cC eN:=s3.g;cases gd:body fp with
    |bad=>rw[gd]at k2;exact k2.elim
    |exc c=>rw[gd]at k2;exact k2
    |ok f=>
     rw[gd,R.bI]at k2;cases f with
     |bJ lg=>exact fun σ7 jq eT fM eM=>⟨jq,lg,fM,s2.trans (ri.trans eM),gy.mono (ri.trans eM) k2⟩
     |cv lg=>exact fun σ7 jq eT fM eM=>⟨jq,lg,fM,s2.trans (ri.trans eM),gy.mono (ri.trans eM) k2⟩
     |ey lg=>exact fun σ7 jq eT fM eM=>k2 σ7 jq eT fM (ri.trans eM)
     |eA d=>exact k2
     |hz ds=>exact k2
     |dD t=>exact k2
  ·have e:ds.drop i=[]:=XR (by omega);rw[e]at k2;have iw:i=ds.length:=by omega
   subst iw;exact .inl ⟨it.stop aM (s2.trans bl.aG.sub),k2 σ2 cC aM bl (Sub.refl _)⟩
theorem rl(i:Nat):∀d ρ c,dH i d ρ≠.exc c:=fun d ρ c=>by
 unfold dH
 split<;>exact fun z=>nomatch z
theorem Fb:∀{aT:List (D→ar→R ar)},(∀f∈aT,∀d ρ c,f d ρ≠.exc c)→∀ds ρ c,gB aT ds ρ≠.exc c
 |[],_,[],_,_,e=>nomatch e
 |[],_,_::_,_,_,e=>nomatch e
 |_::_,_,[],_,_,e=>nomatch e
 |f::aT,h,d::ds,ρ,c,e=>by
  simp only[gB]at e;cases ao:f d ρ with
  |bad=>rw[ao]at e;cases e
  |exc c=>exact h f (by simp) d ρ c ao
  |ok eD=>rw[ao,R.bI]at e;exact Fb (fun g aF=>h g (by simp[aF])) ds eD c e
theorem Fd{aT:List (D→ar→R ar)}(h:∀f∈aT,∀d ρ c,f d ρ≠.exc c):∀d ρ c,l7 aT d ρ≠.exc c:=fun d ρ c e=>by
 cases d<;>first
  |(exact Fb h _ _ _ e)
  |(cases e)
theorem CO{K:PySem.W.Frag}{G:ae}{a:VD}{xs:List V}{ds:List D}(h:bQ K G a xs)(q:aO K G ds xs):jY K (uU K a) ds G where
 go:=fun i H s af=>by obtain⟨v,e,_⟩:=q.get (Vz af);exact⟨xs,v,bQ.mono s h,e⟩
 hX:=fun i H x H' s af y=>by obtain⟨rfl,y⟩:=y;obtain⟨d,e,a⟩:=q.sz (y xs (bQ.mono s h));exact⟨d,e,.inl ⟨rfl,a⟩⟩
 stop:=fun H s=>⟨xs,bQ.mono s h,by rw[←q.length];exact VG _⟩
theorem CP{K:PySem.W.Frag}{G:ae}{a:VD}{xs:List V}{ds:List D}(h:cz K G a xs)(q:aO K G ds xs):jY K (uW K a) ds G where
 go:=fun i H s af=>by obtain⟨v,e,_⟩:=q.get (Vz af);exact⟨xs,v,cz.mono s h,e⟩
 hX:=fun i H x H' s af y=>by obtain⟨rfl,y⟩:=y;obtain⟨d,e,a⟩:=q.sz (y xs (cz.mono s h));exact⟨d,e,.inl ⟨rfl,a⟩⟩
 stop:=fun H s=>⟨xs,cz.mono s h,by rw[←q.length];exact VG _⟩
def g7(lo:Int)(n:Nat):List D:=(Wk n).map fun(i:Nat)=>.int (lo+(i:Int))
theorem KQ{K:PySem.W.Frag}{G:ae}(lo:Int)(n:Nat):jY K (rP lo n) (g7 lo n) G where
 go:=fun i H s af=>by
  have h:i<n:=by simpa[g7]using af
  exact h
 hX:=fun i H x H' s af y=>by
  have h:i<n:=by simpa[g7]using af
  obtain⟨ao,aA⟩:=y;refine⟨.int (lo+(i:Int)),?_,.inl ⟨ao,?_⟩⟩
  ·unfold g7;rw[VW,XF h];rfl
  ·simp only[At];exact aA
 stop:=fun H s=>by
  have h:n≤(g7 lo n).length:=by simp[g7]
  exact h
def tS:D→R (List D)
 |.lst ds=>.ok ds
 |.cP ds=>.ok ds
 |_=>.bad
def y0:D→R (List D)
 |.tup ds=>.ok ds
 |.cX ds=>.ok ds
 |_=>.bad
def jD(m:aJ):aZ:=fun ρ=>(m ρ).bind tS
theorem J_{m:aJ}:nN (jO F (jD m)) (Cz F.K (cJ F m)):=by
 rintro σ H Q ⟨G,ρ,r,h⟩;unfold jD at h;refine⟨G,ρ,r,?_⟩;cases ax:m ρ with
 |bad=>rw[ax]at h;exact h.elim
 |exc c=>rw[ax]at h;exact h
 |ok d=>
  rw[ax,R.bI]at h;intro v H1 aL au s1 a;cases d with
  |lst ds=>simp only[At]at a;obtain⟨p,xs,e,aS,al⟩:=a;exact⟨p,e,⟨xs,bQ.of (au.aG.sub _ _ aS)⟩,h _ H1 aL au s1 (CO (bQ.of aS) al)⟩
  |cP ds=>simp only[At]at a;obtain⟨p,xs,e,aS,al⟩:=a;exact⟨p,e,⟨xs,bQ.mono au.aG.sub aS⟩,h _ H1 aL au s1 (CO aS al)⟩
  |_=>exact h.elim
def qT(m:aJ):aZ:=fun ρ=>(m ρ).bind y0
theorem Kv{m:aJ}:nN (jO F (qT m)) (CC F.K (cJ F m)):=by
 rintro σ H Q ⟨G,ρ,r,h⟩;unfold qT at h;refine⟨G,ρ,r,?_⟩;cases ax:m ρ with
 |bad=>rw[ax]at h;exact h.elim
 |exc c=>rw[ax]at h;exact h
 |ok d=>
  rw[ax,R.bI]at h;intro v H1 aL au s1 a;cases d with
  |tup ds=>simp only[At]at a;obtain⟨p,xs,e,aS,al⟩:=a;exact⟨p,e,⟨xs,cz.of (au.aG.sub _ _ aS)⟩,h _ H1 aL au s1 (CP (cz.of aS) al)⟩
  |cX ds=>simp only[At]at a;obtain⟨p,xs,e,aS,al⟩:=a;exact⟨p,e,⟨xs,cz.mono au.aG.sub aS⟩,h _ H1 aL au s1 (CP aS al)⟩
  |_=>exact h.elim
def rg:List D→R (List D)
 |[.int j]=>if-(2^62)≤j∧j<2^62 then .ok (g7 0 j.toNat)else .bad
 |_=>.bad
theorem aO.ints1{K:PySem.W.Frag}{G:ae}{j:Int}{vs:List V}(a:aO K G [.int j] vs):vs=[.int j]:=by simp only[aO,At]at a;obtain⟨v,r,rfl,rfl,rfl⟩:=a;rfl
def kS(m:aZ):aZ:=fun ρ=>(m ρ).bind rg
theorem Kl{m:aZ}:nN (jO F (kS m)) (CA (eb F m)):=by
 rintro σ H Q ⟨G,ρ,r,h⟩;unfold kS at h;refine⟨G,ρ,r,?_⟩;cases ax:m ρ with
 |bad=>rw[ax]at h;exact h.elim
 |exc c=>rw[ax]at h;exact h
 |ok ds=>
  rw[ax,R.bI]at h;intro vs H1 aL au s1 a;unfold rg at h
  split at h
  ·rename_i j
   split at h
   ·rename_i cV;exact⟨j,a.ints1,cV.1,cV.2,h _ H1 aL au s1 (KQ 0 j.toNat)⟩
   ·exact h.elim
  ·exact h.elim
inductive cc where
 |v (d:D)|o (ds:List D)|t (t:T)
noncomputable def K4(F:bj)(Q:cD):R cc→Prop
 |.ok (.v d)=>∀v G' H',dV F G' H'→At F.K G' d v→Q v H'
 |.ok (.o ds)=>∀a xs G' H',dV F G' H'→G' a=none→F.H0 a=none→H' a=some (.lst xs)→aO F.K G' ds xs→Q (.ref a) H'
 |.ok (.t t)=>∀v G' H',dV F G' H'→r0 F G' H' t v→Q v H'
 |.exc c=>i7 F c
 |.bad=>False
noncomputable def kZ(K:PySem.W.Frag)(n:Nat)(xe:cj→Str→ae→Prop)(mf:List D→R cc):hj:=fun vs H Q E=>∃G ds,Sub G H∧aO K G ds vs∧ds.length=n∧K4 ⟨K,G,H,xe E⟩ Q (mf ds)
theorem tT{K:PySem.W.Frag}{n:Nat}{xe:cj→Str→ae→Prop}{mf:List D→R cc}:∀vs H Q E,kZ K n xe mf vs H Q E→vs.length=n:=fun vs H Q E h=>by obtain⟨G,ds,_,a,l,_⟩:=h;rw[←a.length];exact l
noncomputable def outD:fq→R cc
 |.bJ _=>.ok (.v .non)
 |.eA d=>.ok (.v d)
 |.hz ds=>.ok (.o ds)
 |.dD t=>.ok (.t t)
 |_=>.bad
def kM(N:Nat)(ds:List D):ar:=ds.map .b4++VY (N-ds.length) .un
def c2(N:Nat)(m:bp)(ds:List D):R cc:=(m (kM N ds)).bind outD
def tU(N:Nat)(vs:List V):St:=vs.map some++VY (N-vs.length) none
theorem OW{K:PySem.W.Frag}{G H:ae}{hE:Str→ae→Prop}{N:Nat}{ds:List D}{vs:List V}(s:Sub G H)(a:aO K G ds vs):Rel ⟨K,G,H,hE⟩ G H (tU N vs) (kM N ds):=by
 have ak:=a.length;refine⟨⟨s,Sub.refl _,Sub.refl _,fun _ _=>rfl⟩,by simp[tU,kM,ak],fun i t e=>?_,fun i j b es es' o bk ao aA _ _ f _=>?_⟩
 ·unfold kM at e;unfold tU;by_cases af:i<ds.length
  ·rw[VO (by simpa using af),VW,Vz af]at e;obtain⟨v,ao,bc⟩:=a.get (Vz af);rw[VO (by rw[Wq,←ak];exact af),VW,ao];have p_:dx.b4 ds[i]=t:=VM e;subst p_;exact⟨some v,rfl,v,rfl,bc⟩
  ·rw[VI (by simpa using af),Wj]at e;rw[VI (by rw[Wq,←ak];omega),Wj,Wq,←ak];rw[Wq]at e
   split at e
   ·rename_i bF;rw[if_pos bF];cases e;exact⟨none,rfl,trivial⟩
   ·cases e
 ·exfalso;unfold kM at ao;by_cases af:i<ds.length
  ·rw[VO (by simpa using af),VW,Vz af]at ao;cases ao;exact f
  ·rw[VI (by simpa using af),Wj]at ao
   split at ao
   ·cases ao;exact f
   ·cases ao
theorem r6{K:PySem.W.Frag}{xe:cj→Str→ae→Prop}{n N:Nat}{m:bp}{vs:List V}{H:ae}{Q:cD}{E:cj}(h:kZ K n xe (c2 N m) vs H Q E) :
  ∃G,fm ⟨K,G,H,xe E⟩ m { bJ:=fun _ H'=>Q .non H',eA:=Q } (tU N vs) H:=by
 obtain⟨G,ds,s,a,l,k⟩:=h;refine⟨G,G,kM N ds,OW s a,?_⟩;unfold c2 at k;cases e:m (kM N ds)with
 |bad=>rw[e]at k;exact k.elim
 |exc c=>rw[e]at k;exact k
 |ok f=>
  rw[e,R.bI]at k;cases f with
  |bJ ρ=>exact fun σ' G' H' r _=>k .non G' H' r.aG (by simp only[At])
  |eA d=>exact k
  |hz ds=>exact k
  |dD t=>exact k
  |ey ρ=>exact k.elim
  |cv ρ=>exact k.elim
theorem dV.of{G H G' H':ae}{σ :St}{ρ:ar}{hE:Str→ae→Prop}(r:Rel F G H σ ρ)(k:dV ⟨F.K,G,H,hE⟩ G' H'):Rel F G' H' σ ρ:=r.grow k.eh k.sub k.bF fun b J=>k.new b J
def l3:cc→R D
 |.v d=>.ok d
 |.o ds=>.ok (.lst ds)
 |.t t=>.ok (toD t)
def xJ:cc→R (List D)
 |.o ds=>.ok ds
 |_=>.bad
def j9(A:List VD)(G H:ae):ae:=fun b=>if b∈A then H b else G b
theorem Rel.FQ{G H G0 H0:ae}{σ :St}{ρ:ar}(r:Rel F G H σ ρ){F':bj}{t:T}{v:V}(aX:F'.K=F.K)(q:r0 F' G H t v)(u:b3 G0 H0 G H)(n:∀b∈aC H t v,H0 b=none∧F.H0 b=none∧¬dq H σ ρ b) :
  Rel F (j9 (aC H t v) G H) H σ ρ∧b3 G0 H0 (j9 (aC H t v) G H) H∧At F.K (j9 (aC H t v) G H) (toD t) v:=by
 have a4:Sub G (j9 (aC H t v) G H):=fun b o e=>by
  unfold j9;by_cases J:b∈aC H t v
  ·rw[(q.own b J).1]at e;cases e
  ·rw[if_neg J];exact e
 refine⟨r.over rfl ⟨fun b o e=>?_,r.aG.eh.trans a4,r.aG.bF,fun b J=>?_⟩ a4 fun a ah=>?_,⟨u.g.trans a4,u.h,fun b J=>?_⟩,?_⟩
 ·unfold j9 at e
  split at e
  ·exact e
  ·exact r.aG.sub b o e
 ·unfold j9;rw[if_neg (fun z=>J (n b z).2.1)];exact r.aG.new b J
 ·obtain⟨h1,h2,h3⟩:=r.foot ah;refine⟨rfl,?_,h3⟩;unfold j9;rw[if_neg (fun z=>(n a z).2.2 ah)];exact h2
 ·unfold j9;rw[if_neg (fun z=>J (n b z).1)];exact u.n b J
 ·rw[←aX];exact q.at_.view a4 fun a ah=>by unfold j9;rw[if_pos ah]
noncomputable def cN(n:Nat)(mf:List D→R cc)(m:aZ):aJ:=fun ρ=>(m ρ).bind fun ds=>if ds.length=n then(mf ds).bind l3 else .bad
noncomputable def i9(n:Nat)(mf:List D→R cc)(m:aZ):aZ:=fun ρ=>(m ρ).bind fun ds=>if ds.length=n then(mf ds).bind xJ else .bad
theorem sS{n:Nat}{mf:List D→R cc}{m:aZ}{xe:cj→Str→ae→Prop}{E:cj}(av:F.hE=xe E):eE (cJ F (cN n mf m)) (o4 (kZ F.K n xe mf) [] E (eb F m)):=by
 rintro σ H Q ⟨G,ρ,r,h⟩;unfold cN at h;refine⟨G,ρ,r,?_⟩;cases ax:m ρ with
 |bad=>rw[ax]at h;exact h.elim
 |exc c=>rw[ax]at h;exact h
 |ok ds=>
  rw[ax,R.bI]at h;intro vs H1 aL au s1 a;by_cases aK:ds.length=n
  ·rw[if_pos aK]at h;rw[WD];refine⟨aL,ds,au.aG.sub,a,aK,?_⟩;cases e:mf ds with
   |bad=>rw[e]at h;exact h.elim
   |exc c=>rw[e]at h;intro G' H' k;have z:=h G' H' (dV.of au k).aG;rw[av]at z;exact z
   |ok t=>
    rw[e,R.bI]at h;cases t with
    |v d=>exact fun v G' H' k bc=>h v H' G' (dV.of au k) (s1.trans ⟨k.eh,k.bF,k.new⟩) bc
    |o es=>intro p xs G' H' k h1 h2 h3 h4;have h2:H1 p=none:=h2;have bq:=dV.of au k;have no:¬dq H' σ ρ p:=dq.fresh au k.bF h2;refine h (.ref p) H' _ (bq.take h3 h1 (au.aG.bF.gone h2) no) ((s1.trans ⟨k.eh,k.bF,k.new⟩).put (s1.h.gone h2) h1) ?_;simp only[At];exact⟨p,xs,rfl,dI,h4.mono (Sub.upd h1)⟩
    |t t=>intro v G' H' k q;obtain⟨a1,a2,eX⟩:=(dV.of au k).FQ (F':=⟨F.K,aL,H1,xe E⟩) rfl q (s1.trans ⟨k.eh,k.bF,k.new⟩) fun b J=>⟨s1.h.gone (q.own b J).2,au.aG.bF.gone (q.own b J).2,dq.fresh au k.bF (q.own b J).2⟩;exact h v H' _ a1 a2 eX
  ·rw[if_neg aK]at h;exact h.elim
theorem J2{n:Nat}{mf:List D→R cc}{m:aZ}{xe:cj→Str→ae→Prop}{E:cj}(av:F.hE=xe E):eE (hA F (i9 n mf m)) (o4 (kZ F.K n xe mf) [] E (eb F m)):=by
 rintro σ H Q ⟨G,ρ,r,h⟩;unfold i9 at h;refine⟨G,ρ,r,?_⟩;cases ax:m ρ with
 |bad=>rw[ax]at h;exact h.elim
 |exc c=>rw[ax]at h;exact h
 |ok ds=>
  rw[ax,R.bI]at h;intro vs H1 aL au s1 a;by_cases aK:ds.length=n
  ·rw[if_pos aK]at h;rw[WD];refine⟨aL,ds,au.aG.sub,a,aK,?_⟩;cases e:mf ds with
   |bad=>rw[e]at h;exact h.elim
   |exc c=>rw[e]at h;intro G' H' k;have z:=h G' H' (dV.of au k).aG;rw[av]at z;exact z
   |ok t=>
    rw[e,R.bI]at h;cases t with
    |v d=>exact h.elim
    |t t=>exact h.elim
    |o es=>intro p xs G' H' k h1 h2 h3 h4;have h2:H1 p=none:=h2;have bq:=dV.of au k;exact h p xs H' G' bq (s1.trans ⟨k.eh,k.bF,k.new⟩) (s1.h.gone h2) h3 h1 h4
  ·rw[if_neg aK]at h;exact h.elim
abbrev pC:=ar→R T
noncomputable def Mk(i:Nat)(a:pC):bp:=fun ρ=>(a ρ).bind fun t=>if i<ρ.length then .ok (.bJ (ρ.set i (.ed t)))else .bad
def Mh(a:pC):bp:=fun ρ=>(a ρ).bind fun t=>.ok (.dD t)
def DA(i:Nat):pC:=fun ρ=>match ρ[i]? with
 |some (.ed t)=>.ok t
 |_=>.bad
end
end bo
namespace bo
open PySem PySem.Spec aY
def r9:dx→dx
 |.b4 d=>.b4 d
 |_=>.un
def ky(nl:Nat)(caps:List Nat)(ρ:ar):ar:=VY nl .un++caps.map fun j=>r9 (ρ.getD j .un)
noncomputable def mI(set:D→ar→R ar)(tst:cw)(elt:aJ):List D→ar→List D→R (List D)
 |[],_,ws=>.ok ws
 |d::ds,ρ,ws=>(set d ρ).bind fun eD=>(tst eD).bind fun b=>if b=true then(elt eD).bind fun y=>if ws.length<1000000 then mI set tst elt ds eD (ws++[y])else .bad else mI set tst elt ds eD ws
def gO{α:Type}:R α→R α
 |.exc _=>.bad
 |r=>r
noncomputable def gg(nl:Nat)(caps:List Nat)(mi:aZ)(set:D→ar→R ar)(tst:cw)(elt:aJ):aZ:=fun ρ=>(mi ρ).bind fun ds=>gO (mI set tst elt ds (ky nl caps ρ) [])
def eH(K:PySem.W.Frag)(G H:ae):bj:=⟨K,G,H,fun _ _=>False⟩
def ze(K:PySem.W.Frag)(m:cw):TT:=fun σ H Q=>∃G0 H0,fD (eH K G0 H0) m σ H Q
def zd(K:PySem.W.Frag)(m:aJ):TE:=fun σ H Q=>∃G0 H0,cJ (eH K G0 H0) m σ H Q
def Eu:dx→Bool
 |.un=>true|.b4 _=>true
 |_=>false
theorem xt{H:ae}{s:dx}(h:Eu s=true)(o:Option V)(a:VD):¬fs H s o a:=by
 cases s<;>first
  |exact fun z=>z
  |cases h
def kr(ρ:ar):Prop:=∀(i:Nat)(s:dx),ρ[i]?=some s→Eu s=true
theorem xi(nl:Nat)(caps:List Nat)(ρ:ar):kr (ky nl caps ρ):=fun i s ao=>by
 unfold ky at ao;by_cases af:i<nl
 ·rw[VO (by simpa using af),Wj,if_pos af]at ao;cases ao;rfl
 ·rw[VI (by simpa using af),WQ,VW]at ao;cases lF:caps[i-nl]? with
  |none=>rw[lF]at ao;cases ao
  |some j=>rw[lF]at ao;have es:r9 (ρ.getD j .un)=s:=VM ao;subst es;cases hs:ρ.getD j .un<;>rfl
def Keeps(set:D→ar→R ar):Prop:=∀d ρ bC,set d ρ=.ok bC→kr ρ→kr bC
theorem rk(i:Nat):Keeps (dH i):=fun d ρ bC e n j ds z=>by
 unfold dH at e
 split at e
 ·cases e;rcases get_set z with⟨_,z⟩|⟨_,z⟩
  ·subst z;rfl
  ·exact n j ds z
 ·cases e
theorem E9:∀{aT:List (D→ar→R ar)},(∀f∈aT,Keeps f)→∀ds ρ bC,gB aT ds ρ=.ok bC→kr ρ→kr bC
 |[],_,[],_,_,e,n=>by cases e;exact n
 |[],_,_::_,_,_,e,_=>by cases e
 |_::_,_,[],_,_,e,_=>by cases e
 |f::aT,h,d::ds,ρ,bC,e,n=>by
  simp only[gB]at e;cases ao:f d ρ with
  |bad=>rw[ao]at e;cases e
  |exc c=>rw[ao]at e;cases e
  |ok eD=>rw[ao,R.bI]at e;exact E9 (fun g aF=>h g (by simp[aF])) ds eD bC e (h f (by simp) d ρ eD ao n)
theorem Fc{aT:List (D→ar→R ar)}(h:∀f∈aT,Keeps f):Keeps (l7 aT):=fun d ρ bC e n=>by
 cases d<;>first
  |(exact E9 h _ _ _ e n)
  |(cases e)
section
variable{F:bj}
theorem ES{G H:ae}{σ :St}{ρ:ar}(r:Rel F G H σ ρ){acc:VD}(ah:H acc=none)(nl:Nat)(caps:List Nat) :
  Rel (eH F.K G H) G (upd H acc (.lst [])) (iX nl caps σ) (ky nl caps ρ):=by
 refine⟨⟨Sub.ry r.aG.sub (r.aG.sub.gone ah),Sub.refl _,Sub.upd ah,fun _ _=>rfl⟩,by simp[iX,ky],fun i s e=>?_,fun i j b s s' o bk ao _ _ _ f _=>?_⟩
 ·unfold ky at e;unfold iX;by_cases af:i<nl
  ·rw[VO (by simpa using af),Wj,if_pos af]at e;rw[VO (by simpa using af),Wj,if_pos af];cases e;exact⟨none,rfl,trivial⟩
  ·rw[VI (by simpa using af),WQ,VW]at e;rw[VI (by simpa using af),WQ,VW];cases lF:caps[i-nl]? with
   |none=>rw[lF]at e;cases e
   |some j=>
    rw[lF]at e;refine⟨σ.getD j none,rfl,?_⟩;have es:r9 (ρ.getD j .un)=s:=VM e;subst es;cases dn:ρ[j]? with
    |none=>
     have eg:ρ.getD j .un=.un:=by rw[W0,dn];rfl
     rw[eg];exact trivial
    |some t=>
     have eg:ρ.getD j .un=t:=by rw[W0,dn];rfl
     rw[eg];obtain⟨o,ao,q⟩:=r.cb j t dn;cases t with
     |un=>exact trivial
     |bg ds=>exact trivial
     |ed t=>exact trivial
     |b4 d=>obtain⟨v,aA,a⟩:=q;refine⟨v,?_,a⟩;rw[W0,ao,aA];rfl
 ·exact absurd f (xt (xi nl caps ρ i s ao) o b)
theorem J3{nl:Nat}{caps:List Nat}{mi:aZ}{set:D→ar→R ar}{tst:cw}{elt:aJ}{g:gv}(aF:∀G H,jW (eH F.K G H) g set)(av:∀d ρ c,set d ρ≠.exc c)(aH:Keeps set) :
  eE (hA F (gg nl caps mi set tst elt)) (nj (jO F mi) g (ze F.K tst) (zd F.K elt) nl caps):=by
 rintro σ H Q ⟨G,ρ,r,h⟩;unfold gg at h;refine⟨G,ρ,r,?_⟩;cases ax:mi ρ with
 |bad=>rw[ax]at h;exact h.elim
 |exc c=>rw[ax]at h;exact h
 |ok ds=>
  rw[ax,R.bI]at h;intro br H1 aL au nr it acc ah;cases dn:mI set tst elt ds (ky nl caps ρ) []with
  |bad=>rw[dn]at h;exact h.elim
  |exc c=>rw[dn]at h;exact h.elim
  |ok res=>
   rw[dn]at h
   refine⟨fun i m σ2 aM=>m=ds.length-i∧i≤ds.length∧∃cC dv ys ws,Rel (eH F.K aL H1) cC aM σ2 dv∧kr dv∧aM acc=some (.lst ys)∧cC acc=none∧aO F.K cC ws ys∧mI set tst elt (ds.drop i) dv ws=.ok res,
    ⟨ds.length,by simp,WK _,aL,_,[],[],ES au ah nl caps,xi _ _ _,dI,au.aG.sub.gone ah,.nil,by simpa using dn⟩,?_⟩
   rintro i m σ2 aM ⟨rfl,af,cC,dv,ys,ws,bl,cT,h1,h2,h3,h4⟩;have a4:Sub aL cC:=bl.aG.eh;by_cases e9:i<ds.length
   ·refine .inr ⟨it.go i aM (a4.trans bl.aG.sub) e9,fun x cy y=>?_⟩;obtain⟨d,eN,b9,dp,hU,eX⟩:=jY.turn (F:=eH F.K aL H1) it bl a4 e9 y;have d5:ds.drop i=d::ds.drop (i+1):=by
     rw[Xx e9];have:=Vz e9;rw[b9]at this;rw[VM this]
    rw[d5]at h4;simp only[mI]at h4;cases de:set d dv with
    |bad=>rw[de]at h4;cases h4
    |exc c=>exact absurd de (av d dv c)
    |ok fp=>
     rw[de,R.bI]at h4;refine aF aL H1 σ2 dv eN cy x d _ fp dp eX de fun σ5 kj=>⟨aL,H1,eN,fp,kj,?_⟩;have jc:kr fp:=aH d dv fp de cT;have zR:cy acc=some (.lst ys):=hU.h _ _ h1;have g3:eN acc=none:=by rw[hU.n acc (by rw[h1];exact fun z=>nomatch z)];exact h2
     cases eL:tst fp with
     |bad=>rw[eL]at h4;cases h4
     |exc c=>rw[eL]at h4;cases h4
     |ok b=>
      rw[eL,R.bI]at h4;intro ko rL xC y3;have nU:ko acc=some (.lst ys):=y3.h _ _ zR;have qj:rL acc=none:=by rw[y3.n acc (by rw[zR];exact fun z=>nomatch z)];exact g3
      have hK:aO F.K rL ws ys:=(h3.mono hU.g).mono y3.g;cases b with
      |false=>rw[if_neg VZ]at h4;rw[if_neg VZ];exact⟨_,by omega,rfl,e9,rL,fp,ys,ws,xC,jc,nU,qj,hK,h4⟩
      |true=>
       rw[if_pos rfl]at h4;rw[if_pos rfl];refine⟨aL,H1,rL,fp,xC,?_⟩;cases iv:elt fp with
       |bad=>rw[iv]at h4;cases h4
       |exc c=>rw[iv]at h4;cases h4
       |ok y=>
        rw[iv,R.bI]at h4;intro nA mw mv hy u8 pL;have u4:mw acc=some (.lst ys):=u8.h _ _ nU;have n9:mv acc=none:=by rw[u8.n acc (by rw[nU];exact fun z=>nomatch z)];exact qj
        by_cases ak:ws.length<1000000
        ·rw[if_pos ak]at h4;have pM:aO F.K mv ws ys:=hK.mono u8.g;refine⟨ys,u4,by rw[←pM.length];exact Xt ak (by decide),_,by omega,rfl,e9,mv,fp,ys++[nA],ws++[y],?_,jc,dI,n9,pM.snoc pL,h4⟩;have k0:(eH F.K aL H1).H0 acc=none:=ah;refine⟨⟨Sub.ry hy.aG.sub n9,hy.aG.eh,fun c o z=>?_,hy.aG.new⟩,hy.len,fun j t z=>?_,fun j k b s s' o bk g_ _ _ _ f _=>absurd f (xt (jc j s g_) o b)⟩
         ·rw[cY (g6 z k0)];exact hy.aG.bF c o z
         ·obtain⟨o,a_,a7⟩:=hy.cb j t z;refine⟨o,a_,?_⟩;cases t with
          |un=>exact trivial
          |b4 d=>exact a7
          |bg es=>exact absurd (jc j _ z) (fun w=>nomatch w)
          |ed es=>exact absurd (jc j _ z) (fun w=>nomatch w)
        ·rw[if_neg ak]at h4;cases h4
   ·have e:ds.drop i=[]:=XR (by omega);rw[e]at h4;simp only[mI]at h4;cases h4;have iw:i=ds.length:=by omega
    subst iw;refine .inl ⟨it.stop aM (a4.trans bl.aG.sub),?_⟩;have k:dV ⟨F.K,aL,H1,fun _ _=>False⟩ cC aM:=bl.aG;exact h acc ys aM cC (dV.of au k) (nr.trans ⟨k.eh,k.bF,k.new⟩) (nr.h.gone ah) h1 h2 h3
end
mutual
noncomputable def bK:D→D→Bool
 |.non,.non=>true
 |.aU a,.aU b=>a==b
 |.aU a,.int b=>(if a then 1 else 0)==b
 |.int a,.aU b=>a==(if b then 1 else 0)
 |.int a,.int b=>a==b
 |.str a,.str b=>a==b
 |.tup xs,.tup ys=>ef xs ys
 |.tup xs,.cX ys=>ef xs ys
 |.cX xs,.tup ys=>ef xs ys
 |.cX xs,.cX ys=>ef xs ys
 |.lst xs,.lst ys=>ef xs ys
 |.lst xs,.cP ys=>ef xs ys
 |.cP xs,.lst ys=>ef xs ys
 |.cP xs,.cP ys=>ef xs ys
 |_,_=>false
noncomputable def ef:List D→List D→Bool
 |[],[]=>true
 |x::xs,y::ys=>bK x y&&ef xs ys
 |_,_=>false
end
noncomputable def okN:Nat→D→Bool
 |_,.non=>true
 |_,.aU _=>true
 |_,.int _=>true
 |_,.str _=>true
 |n+1,.tup xs=>xs.all (okN n)
 |n+1,.cX xs=>xs.all (okN n)
 |n+1,.lst xs=>xs.all (okN n)
 |n+1,.cP xs=>xs.all (okN n)
 |_,_=>false
inductive ig(s:Vx)(P:D→Vw→Prop):D→Vw→Prop where
 |non:ig s P .non .none
 |aU (b:Bool):ig s P (.aU b) (.bool b)
 |int (i:Int) (t:Tok):ig s P (.int i) (.int i t)
 |str (x:Str) (t:Tok):ig s P (.str x) (.str x t)
 |tup (a:VD) (ds:List D) (its:List Vw) (h:s.heap.IsTuple a its.toArray) (l:ds.length=its.length) (p:∀(i:Nat) d u,ds[i]?=some d→its[i]?=some u→P d u):ig s P (.tup ds) (.ref a)
 |cX (a:VD) (ds:List D) (its:List Vw) (h:s.heap.IsTuple a its.toArray) (l:ds.length=its.length) (p:∀(i:Nat) d u,ds[i]?=some d→its[i]?=some u→P d u):ig s P (.cX ds) (.ref a)
 |lst (a:VD) (ds:List D) (its:List Vw) (h:s.heap.IsList a its.toArray) (l:ds.length=its.length) (p:∀(i:Nat) d u,ds[i]?=some d→its[i]?=some u→P d u):ig s P (.lst ds) (.ref a)
 |cP (a:VD) (ds:List D) (its:List Vw) (h:s.heap.IsList a its.toArray) (l:ds.length=its.length) (p:∀(i:Nat) d u,ds[i]?=some d→its[i]?=some u→P d u):ig s P (.cP ds) (.ref a)
def jT(K:PySem.W.Frag)(G:ae)(d:D)(u:Vw):Prop:=∃x,At K G d x∧RelV x u
section
variable{X:aD}{pins:List (VD×Obj)}{σ :St}{H G:ae}{s:Vx}
theorem om{K:PySem.W.Frag}{ds:List D}{xs:List V}{its:List Vw}(q:aO K G ds xs)(r:Vals xs its):∀(i:Nat) d u,ds[i]?=some d→its[i]?=some u→jT K G d u:=fun i d u ao aA=>by obtain⟨v,b9,a⟩:=q.get ao;obtain⟨jQ,de,b_⟩:=r.get b9;rw[aA]at de;cases de;exact⟨v,a,b_⟩
theorem l8(I:Inv X pins σ H s)(a4:Sub G H){d:D}{u:Vw}{n:Nat}(ok:okN n d=true)(h:jT X.K G d u):ig s (jT X.K G) d u:=by
 obtain⟨x,a,r⟩:=h;cases d with
 |non=>simp only[At]at a;subst a;cases r;exact .non
 |aU b=>simp only[At]at a;subst a;cases r;exact .aU b
 |int i=>simp only[At]at a;subst a;obtain⟨t,rfl⟩:=r;exact .int i t
 |str i=>simp only[At]at a;subst a;obtain⟨t,rfl⟩:=r;exact .str i t
 |tup ds=>simp only[At]at a;obtain⟨p,xs,rfl,aS,al⟩:=a;cases r;obtain⟨its,b_,bH,_⟩:=I.tuple (cz.of (a4 _ _ aS));exact .tup p ds its bH (al.length.trans b_.length) (om al b_)
 |lst ds=>simp only[At]at a;obtain⟨p,xs,rfl,aS,al⟩:=a;cases r;obtain⟨its,b_,bH,_⟩:=I.list (bQ.of (a4 _ _ aS));exact .lst p ds its bH.isList (al.length.trans b_.length) (om al b_)
 |cP ds=>simp only[At]at a;obtain⟨p,xs,rfl,aS,al⟩:=a;cases r;obtain⟨its,b_,bH,_⟩:=I.list (bQ.mono a4 aS);exact .cP p ds its bH.isList (al.length.trans b_.length) (om al b_)
 |dc aI xs=>cases n<;>cases ok
 |cA aI xs=>cases n<;>cases ok
 |ins C ns xs=>cases n<;>cases ok
 |i0 C=>cases n<;>cases ok
 |fn C=>cases n<;>cases ok
 |cX ds=>simp only[At]at a;obtain⟨p,xs,rfl,aS,al⟩:=a;cases r;obtain⟨its,b_,bH,_⟩:=I.tuple (cz.mono a4 aS);exact .cX p ds its bH (al.length.trans b_.length) (om al b_)
theorem vC:∀{xs ys:List D},xs.length≠ys.length→ef xs ys=false
 |[],[],h=>absurd rfl h
 |[],_::_,_=>by simp only[ef]
 |_::_,[],_=>by simp only[ef]
 |x::xs,y::ys,h=>by simp only[ef];rw[vC (fun e=>h (by simp[e])),ZO]
def jA(xs ys:List D)(j:Nat):Bool:=match xs[j]?,ys[j]? with
 |some x,some y=>bK x y
 |_,_=>true
theorem G5(f:Nat→Bool)(n:Nat):(Wk (n+1)).all f=(f 0&&(Wk n).all fun j=>f (j+1)):=by rw[List.range_succ_eq_map,Yg,List.all_map];rfl
theorem vD:∀{xs ys:List D},xs.length=ys.length→(Wk xs.length).all (jA xs ys)=ef xs ys
 |[],[],_=>by simp[ef]
 |[],_::_,h=>by simp at h
 |_::_,[],h=>by simp at h
 |x::xs,y::ys,h=>by
  rw[Wf,G5];have e:(fun j=>jA (x::xs) (y::ys) (j+1))=jA xs ys:=by
   funext j
   simp[jA]
  rw[e,vD (by simpa using h)];simp only[ef];rfl
theorem in1_units(A:V0):A.in1.units=A.units+1:=rfl
theorem E4{A:V0}{P:D→Vw→Prop}{d1 ct:D}{u v:Vw}(h1:ig s P d1 u)(h2:ig s P ct v)(cG:gk d1=true)(b2:gk ct=true) :
  Zt A s u v (bK d1 ct)∧aak A s u v (bK d1 ct)∧Zc A s u v (!bK d1 ct):=by
 cases h1 with
 |non=>
  cases h2 with
  |non=>simp only[bK];exact⟨aav _,SeqAt.RcAt.none_none,SeqAt.RcNeAt.none_none⟩
  |aU dy=>simp only[bK];exact⟨SeqAt.EqAt.none_bool _,SeqAt.RcAt.none_bool _,SeqAt.RcNeAt.none_bool _⟩
  |int bM eJ=>simp only[bK];exact⟨SeqAt.EqAt.none_int _ _,SeqAt.RcAt.none_int _ _,SeqAt.RcNeAt.none_int _ _⟩
  |str fo eJ=>simp only[bK];exact⟨SeqAt.EqAt.none_str _ _,SeqAt.RcAt.none_str _ _,SeqAt.RcNeAt.none_str _ _⟩
  |tup=>cases b2
  |cX=>cases b2
  |lst=>cases b2
  |cP=>cases b2
 |aU fx=>
  cases h2 with
  |non=>simp only[bK];exact⟨SeqAt.EqAt.bool_none _,SeqAt.RcAt.bool_none _,SeqAt.RcNeAt.bool_none _⟩
  |aU dy=>simp only[bK];exact⟨SeqAt.EqAt.bool_bool _ _,SeqAt.RcAt.bool_bool _ _,SeqAt.RcNeAt.bool_bool _ _⟩
  |int bM eJ=>simp only[bK];exact⟨SeqAt.EqAt.bool_int _ _ _,SeqAt.RcAt.bool_int _ _ _,SeqAt.RcNeAt.bool_int _ _ _⟩
  |str fo eJ=>simp only[bK];exact⟨SeqAt.EqAt.bool_str _ _ _,SeqAt.RcAt.bool_str _ _ _,SeqAt.RcNeAt.bool_str _ _ _⟩
  |tup=>cases b2
  |cX=>cases b2
  |lst=>cases b2
  |cP=>cases b2
 |int bY t1=>
  cases h2 with
  |non=>simp only[bK];exact⟨SeqAt.EqAt.int_none _ _,SeqAt.RcAt.int_none _ _,SeqAt.RcNeAt.int_none _ _⟩
  |aU dy=>simp only[bK];exact⟨SeqAt.EqAt.int_bool _ _ _,SeqAt.RcAt.int_bool _ _ _,SeqAt.RcNeAt.int_bool _ _ _⟩
  |int bM eJ=>simp only[bK];exact⟨SeqAt.EqAt.int_int _ _ _ _,SeqAt.RcAt.int_int _ _ _ _,SeqAt.RcNeAt.int_int _ _ _ _⟩
  |str fo eJ=>simp only[bK];exact⟨Z1 _ _ _ _,SeqAt.RcAt.int_str _ _ _ _,SeqAt.RcNeAt.int_str _ _ _ _⟩
  |tup=>cases b2
  |cX=>cases b2
  |lst=>cases b2
  |cP=>cases b2
 |str eC t1=>
  cases h2 with
  |non=>simp only[bK];exact⟨SeqAt.EqAt.str_none _ _,SeqAt.RcAt.str_none _ _,SeqAt.RcNeAt.str_none _ _⟩
  |aU dy=>simp only[bK];exact⟨SeqAt.EqAt.str_bool _ _ _,SeqAt.RcAt.str_bool _ _ _,SeqAt.RcNeAt.str_bool _ _ _⟩
  |int bM eJ=>simp only[bK];exact⟨Z2 _ _ _ _,SeqAt.RcAt.str_int _ _ _ _,SeqAt.RcNeAt.str_int _ _ _ _⟩
  |str fo eJ=>simp only[bK];exact⟨SeqAt.EqAt.str_str _ _ _ _,SeqAt.RcAt.str_str _ _ _ _,SeqAt.RcNeAt.str_str _ _ _ _⟩
  |tup=>cases b2
  |cX=>cases b2
  |lst=>cases b2
  |cP=>cases b2
 |tup=>cases cG
 |cX=>cases cG
 |lst=>cases cG
 |cP=>cases cG
theorem DU{A:V0}{P:D→Vw→Prop}{d1 ct:D}{u v:Vw}(aN:A.units<XE)(h1:ig s P d1 u)(h2:ig s P ct v)(o:gk d1=true∧gk ct=false∨gk d1=false∧gk ct=true) :
  Zt A s u v (bK d1 ct)∧aak A s u v (bK d1 ct)∧Zc A s u v (!bK d1 ct):=by
 cases h1 with
 |non=>
  cases h2 with
  |non=>rcases o with⟨a_,a7⟩|⟨a_,a7⟩<;>first|(cases a_;done)|(cases a7;done)
  |aU=>rcases o with⟨a_,a7⟩|⟨a_,a7⟩<;>first|(cases a_;done)|(cases a7;done)
  |int=>rcases o with⟨a_,a7⟩|⟨a_,a7⟩<;>first|(cases a_;done)|(cases a7;done)
  |str=>rcases o with⟨a_,a7⟩|⟨a_,a7⟩<;>first|(cases a_;done)|(cases a7;done)
  |tup a2 dK ea cu bD bZ=>simp only[bK,VK];exact⟨Zd cu aN,Ze cu aN,YN cu aN⟩
  |cX a2 dK ea cu bD bZ=>simp only[bK,VK];exact⟨Zd cu aN,Ze cu aN,YN cu aN⟩
  |lst a2 dK ea cu bD bZ=>simp only[bK,VK];exact⟨Zv cu aN,Zw cu aN,YZ cu aN⟩
  |cP a2 dK ea cu bD bZ=>simp only[bK,VK];exact⟨Zv cu aN,Zw cu aN,YZ cu aN⟩
 |aU fx=>
  cases h2 with
  |non=>rcases o with⟨a_,a7⟩|⟨a_,a7⟩<;>first|(cases a_;done)|(cases a7;done)
  |aU=>rcases o with⟨a_,a7⟩|⟨a_,a7⟩<;>first|(cases a_;done)|(cases a7;done)
  |int=>rcases o with⟨a_,a7⟩|⟨a_,a7⟩<;>first|(cases a_;done)|(cases a7;done)
  |str=>rcases o with⟨a_,a7⟩|⟨a_,a7⟩<;>first|(cases a_;done)|(cases a7;done)
  |tup a2 dK ea cu bD bZ=>simp only[bK,VK];exact⟨Zf _ cu aN,Zg _ cu aN,YO _ cu aN⟩
  |cX a2 dK ea cu bD bZ=>simp only[bK,VK];exact⟨Zf _ cu aN,Zg _ cu aN,YO _ cu aN⟩
  |lst a2 dK ea cu bD bZ=>simp only[bK,VK];exact⟨Zx _ cu aN,Zy _ cu aN,Y0 _ cu aN⟩
  |cP a2 dK ea cu bD bZ=>simp only[bK,VK];exact⟨Zx _ cu aN,Zy _ cu aN,Y0 _ cu aN⟩
 |int bY t1=>
  cases h2 with
  |non=>rcases o with⟨a_,a7⟩|⟨a_,a7⟩<;>first|(cases a_;done)|(cases a7;done)
  |aU=>rcases o with⟨a_,a7⟩|⟨a_,a7⟩<;>first|(cases a_;done)|(cases a7;done)
  |int=>rcases o with⟨a_,a7⟩|⟨a_,a7⟩<;>first|(cases a_;done)|(cases a7;done)
  |str=>rcases o with⟨a_,a7⟩|⟨a_,a7⟩<;>first|(cases a_;done)|(cases a7;done)
  |tup a2 dK ea cu bD bZ=>simp only[bK,VK];exact⟨Zz _ _ cu aN,ZA _ _ cu aN,Y1 _ _ cu aN⟩
  |cX a2 dK ea cu bD bZ=>simp only[bK,VK];exact⟨Zz _ _ cu aN,ZA _ _ cu aN,Y1 _ _ cu aN⟩
  |lst a2 dK ea cu bD bZ=>simp only[bK,VK];exact⟨ZQ _ _ cu aN,ZR _ _ cu aN,Zh _ _ cu aN⟩
  |cP a2 dK ea cu bD bZ=>simp only[bK,VK];exact⟨ZQ _ _ cu aN,ZR _ _ cu aN,Zh _ _ cu aN⟩
 |str eC t1=>
  cases h2 with
  |non=>rcases o with⟨a_,a7⟩|⟨a_,a7⟩<;>first|(cases a_;done)|(cases a7;done)
  |aU=>rcases o with⟨a_,a7⟩|⟨a_,a7⟩<;>first|(cases a_;done)|(cases a7;done)
  |int=>rcases o with⟨a_,a7⟩|⟨a_,a7⟩<;>first|(cases a_;done)|(cases a7;done)
  |str=>rcases o with⟨a_,a7⟩|⟨a_,a7⟩<;>first|(cases a_;done)|(cases a7;done)
  |tup a2 dK ea cu bD bZ=>simp only[bK,VK];exact⟨ZC _ _ cu aN,ZD _ _ cu aN,Y2 _ _ cu aN⟩
  |cX a2 dK ea cu bD bZ=>simp only[bK,VK];exact⟨ZC _ _ cu aN,ZD _ _ cu aN,Y2 _ _ cu aN⟩
  |lst a2 dK ea cu bD bZ=>simp only[bK,VK];exact⟨ZS _ _ cu aN,ZT _ _ cu aN,Zi _ _ cu aN⟩
  |cP a2 dK ea cu bD bZ=>simp only[bK,VK];exact⟨ZS _ _ cu aN,ZT _ _ cu aN,Zi _ _ cu aN⟩
 |tup a1 e0 fX cM eI eQ=>
  cases h2 with
  |non=>simp only[bK,VK];exact⟨Zj cM aN,Zk cM aN,YP cM aN⟩
  |aU dy=>simp only[bK,VK];exact⟨Zl _ cM aN,Zm _ cM aN,YQ _ cM aN⟩
  |int bM eJ=>simp only[bK,VK];exact⟨ZE _ _ cM aN,ZF _ _ cM aN,Y3 _ _ cM aN⟩
  |str fo eJ=>simp only[bK,VK];exact⟨ZG _ _ cM aN,ZH _ _ cM aN,Y4 _ _ cM aN⟩
  |tup=>rcases o with⟨a_,a7⟩|⟨a_,a7⟩<;>first|(cases a_;done)|(cases a7;done)
  |cX=>rcases o with⟨a_,a7⟩|⟨a_,a7⟩<;>first|(cases a_;done)|(cases a7;done)
  |lst=>rcases o with⟨a_,a7⟩|⟨a_,a7⟩<;>first|(cases a_;done)|(cases a7;done)
  |cP=>rcases o with⟨a_,a7⟩|⟨a_,a7⟩<;>first|(cases a_;done)|(cases a7;done)
 |cX a1 e0 fX cM eI eQ=>
  cases h2 with
  |non=>simp only[bK,VK];exact⟨Zj cM aN,Zk cM aN,YP cM aN⟩
  |aU dy=>simp only[bK,VK];exact⟨Zl _ cM aN,Zm _ cM aN,YQ _ cM aN⟩
  |int bM eJ=>simp only[bK,VK];exact⟨ZE _ _ cM aN,ZF _ _ cM aN,Y3 _ _ cM aN⟩
  |str fo eJ=>simp only[bK,VK];exact⟨ZG _ _ cM aN,ZH _ _ cM aN,Y4 _ _ cM aN⟩
  |tup=>rcases o with⟨a_,a7⟩|⟨a_,a7⟩<;>first|(cases a_;done)|(cases a7;done)
  |cX=>rcases o with⟨a_,a7⟩|⟨a_,a7⟩<;>first|(cases a_;done)|(cases a7;done)
  |lst=>rcases o with⟨a_,a7⟩|⟨a_,a7⟩<;>first|(cases a_;done)|(cases a7;done)
  |cP=>rcases o with⟨a_,a7⟩|⟨a_,a7⟩<;>first|(cases a_;done)|(cases a7;done)
 |lst a1 e0 fX cM eI eQ=>
  cases h2 with
  |non=>simp only[bK,VK];exact⟨ZI cM aN,ZJ cM aN,Y5 cM aN⟩
  |aU dy=>simp only[bK,VK];exact⟨ZK _ cM aN,ZL _ cM aN,Y6 _ cM aN⟩
  |int bM eJ=>simp only[bK,VK];exact⟨ZU _ _ cM aN,ZV _ _ cM aN,Zn _ _ cM aN⟩
  |str fo eJ=>simp only[bK,VK];exact⟨ZW _ _ cM aN,ZX _ _ cM aN,Zo _ _ cM aN⟩
  |tup=>rcases o with⟨a_,a7⟩|⟨a_,a7⟩<;>first|(cases a_;done)|(cases a7;done)
  |cX=>rcases o with⟨a_,a7⟩|⟨a_,a7⟩<;>first|(cases a_;done)|(cases a7;done)
  |lst=>rcases o with⟨a_,a7⟩|⟨a_,a7⟩<;>first|(cases a_;done)|(cases a7;done)
  |cP=>rcases o with⟨a_,a7⟩|⟨a_,a7⟩<;>first|(cases a_;done)|(cases a7;done)
 |cP a1 e0 fX cM eI eQ=>
  cases h2 with
  |non=>simp only[bK,VK];exact⟨ZI cM aN,ZJ cM aN,Y5 cM aN⟩
  |aU dy=>simp only[bK,VK];exact⟨ZK _ cM aN,ZL _ cM aN,Y6 _ cM aN⟩
  |int bM eJ=>simp only[bK,VK];exact⟨ZU _ _ cM aN,ZV _ _ cM aN,Zn _ _ cM aN⟩
  |str fo eJ=>simp only[bK,VK];exact⟨ZW _ _ cM aN,ZX _ _ cM aN,Zo _ _ cM aN⟩
  |tup=>rcases o with⟨a_,a7⟩|⟨a_,a7⟩<;>first|(cases a_;done)|(cases a7;done)
  |cX=>rcases o with⟨a_,a7⟩|⟨a_,a7⟩<;>first|(cases a_;done)|(cases a7;done)
  |lst=>rcases o with⟨a_,a7⟩|⟨a_,a7⟩<;>first|(cases a_;done)|(cases a7;done)
  |cP=>rcases o with⟨a_,a7⟩|⟨a_,a7⟩<;>first|(cases a_;done)|(cases a7;done)
theorem Bc:∀{xs ys:List D},xs.length=ys.length→(∀(i:Nat) x y,xs[i]?=some x→ys[i]?=some y→bK x y=true)→ef xs ys=true
 |[],[],_,_=>by simp only[ef]
 |[],_::_,h,_=>by simp at h
 |_::_,[],h,_=>by simp at h
 |x::xs,y::ys,h,k=>by simp only[ef];rw[k 0 x y rfl rfl,Bc (by simpa using h) fun i a b ao aA=>k (i+1) a b (by simpa using ao) (by simpa using aA)];rfl
theorem E6{K:PySem.W.Frag}{d1 ct:D}{x:V}(cG:gk d1=true)(a1:At K G d1 x)(a2:At K G ct x):bK d1 ct=true:=by
 cases d1 with
 |non=>simp only[At]at a1;subst a1;cases ct<;>simp only[At]at a2<;>first|(simp only[bK];done)|(cases a2;done)|(obtain⟨a,xs,e,_⟩:=a2;cases e;done)|(obtain⟨a,a5,xs,e,_⟩:=a2;cases e;done)
 |aU b=>simp only[At]at a1;subst a1;cases ct<;>simp only[At]at a2<;>first|(cases a2;simp only[bK,beq_self_eq_true];done)|(cases a2;done)|(obtain⟨a,xs,e,_⟩:=a2;cases e;done)|(obtain⟨a,a5,xs,e,_⟩:=a2;cases e;done)
 |int b=>simp only[At]at a1;subst a1;cases ct<;>simp only[At]at a2<;>first|(cases a2;simp only[bK,beq_self_eq_true];done)|(cases a2;done)|(obtain⟨a,xs,e,_⟩:=a2;cases e;done)|(obtain⟨a,a5,xs,e,_⟩:=a2;cases e;done)
 |str b=>simp only[At]at a1;subst a1;cases ct<;>simp only[At]at a2<;>first|(cases a2;simp only[bK,beq_self_eq_true];done)|(cases a2;done)|(obtain⟨a,xs,e,_⟩:=a2;cases e;done)|(obtain⟨a,a5,xs,e,_⟩:=a2;cases e;done)
 |_=>cases cG
theorem Bb{d1 ct:D}(b2:gk ct=true)(cG:gk d1=false){K:PySem.W.Frag}{x:V}(a1:At K G d1 x)(a2:At K G ct x):False:=by
 cases ct<;>first
  |(cases b2;done)
  |(simp only[At]at a2;subst a2
    cases d1<;>first
     |(cases cG;done)
     |(simp only[At]at a1;obtain⟨a,xs,e,_⟩:=a1;cases e;done)
     |(simp only[At]at a1;obtain⟨a,a5,xs,e,_⟩:=a1;cases e;done))
inductive f9(K:PySem.W.Frag)(G:ae):D→VD→Bool→List D→List V→Prop where
 |tup {a ds xs} (h:cz K G a xs) (q:aO K G ds xs):f9 K G (.tup ds) a true ds xs
 |cX {a ds xs} (h:cz K G a xs) (q:aO K G ds xs):f9 K G (.cX ds) a true ds xs
 |lst {a ds xs} (h:G a=some (.lst xs)) (q:aO K G ds xs):f9 K G (.lst ds) a false ds xs
 |cP {a ds xs} (h:bQ K G a xs) (q:aO K G ds xs):f9 K G (.cP ds) a false ds xs
theorem o1{K:PySem.W.Frag}{n:Nat}{d:D}{x:V}(o:okN n d=true)(ns:gk d=false)(a:At K G d x):∃p b ds xs,x=.ref p∧f9 K G d p b ds xs∧∃m,n=m+1∧ds.all (okN m)=true:=by
 cases d with
 |tup ds=>
  simp only[At]at a;obtain⟨p,xs,e,h,q⟩:=a;cases n with
  |zero=>cases o
  |succ m=>exact⟨p,_,ds,xs,e,.tup (cz.of h) q,m,rfl,o⟩
 |lst ds=>
  simp only[At]at a;obtain⟨p,xs,e,h,q⟩:=a;cases n with
  |zero=>cases o
  |succ m=>exact⟨p,_,ds,xs,e,.lst h q,m,rfl,o⟩
 |cP ds=>
  simp only[At]at a;obtain⟨p,xs,e,h,q⟩:=a;cases n with
  |zero=>cases o
  |succ m=>exact⟨p,_,ds,xs,e,.cP h q,m,rfl,o⟩
 |dc _ _=>cases n<;>cases o
 |cA _ _=>cases n<;>cases o
 |ins _ _ _=>cases n<;>cases o
 |i0 _=>cases n<;>cases o
 |fn _=>cases n<;>cases o
 |cX ds=>
  simp only[At]at a;obtain⟨p,xs,e,h,q⟩:=a;cases n with
  |zero=>cases o
  |succ m=>exact⟨p,_,ds,xs,e,.cX h q,m,rfl,o⟩
 |_=>cases ns
theorem f9.gW{K:PySem.W.Frag}{d:D}{p:VD}{b:Bool}{ds:List D}{xs:List V}(h:f9 K G d p b ds xs):aO K G ds xs:=by cases h<;>assumption
theorem f9.eq{K:PySem.W.Frag}{d1 ct:D}{eQ bZ:VD}{fx dy:Bool}{e0 dK:List D}{mm mn:List V}(h1:f9 K G d1 eQ fx e0 mm)(h2:f9 K G ct bZ dy dK mn):bK d1 ct=(fx==dy&&ef e0 dK):=by cases h1<;>cases h2<;>simp[bK]
theorem f9.heap(I:Inv X pins σ H s)(a4:Sub G H){d:D}{p:VD}{b:Bool}{ds:List D}{xs:List V}(h:f9 X.K G d p b ds xs) :
  ∃its:List Vw,Vals xs its∧(b=true→s.heap.IsTuple p its.toArray)∧(b=false→s.heap.IsList p its.toArray):=by
 cases h with
 |tup h q=>obtain⟨its,b_,bH,_⟩:=I.tuple (cz.mono a4 h);exact⟨its,b_,fun _=>bH,fun z=>by cases z⟩
 |cX h q=>obtain⟨its,b_,bH,_⟩:=I.tuple (cz.mono a4 h);exact⟨its,b_,fun _=>bH,fun z=>by cases z⟩
 |lst h q=>obtain⟨its,b_,bH,_⟩:=I.list (bQ.of (a4 _ _ h));exact⟨its,b_,(fun z=>by cases z),fun _=>bH.isList⟩
 |cP h q=>obtain⟨its,b_,bH,_⟩:=I.list (bQ.mono a4 h);exact⟨its,b_,(fun z=>by cases z),fun _=>bH.isList⟩
theorem f9.same(I:Inv X pins σ H s)(a4:Sub G H){d1 ct:D}{p:VD}{fx dy:Bool}{e0 dK:List D}{mm mn:List V}(h1:f9 X.K G d1 p fx e0 mm)(h2:f9 X.K G ct p dy dK mn):fx=dy∧mm=mn:=by
 obtain⟨fX,au,t1,eI⟩:=h1.heap I a4;obtain⟨ea,bl,eJ,bD⟩:=h2.heap I a4;cases fx with
 |true=>
  cases dy with
  |false=>exact absurd rfl (Y7 (bD rfl) (t1 rfl))
  |true=>
   refine⟨rfl,?_⟩;cases h1<;>cases h2<;>
   exact I.y1 (cz.mono a4 (by assumption)) (cz.mono a4 (by assumption))
 |false=>
  cases dy with
  |true=>exact absurd rfl (Y7 (eI rfl) (eJ rfl))
  |false=>
   refine⟨rfl,?_⟩;have g1:bQ X.K H p mm:=by
    cases h1 with
    |lst h q=>exact bQ.of (a4 _ _ h)
    |cP h q=>exact bQ.mono a4 h
   have g2:bQ X.K H p mn:=by
    cases h2 with
    |lst h q=>exact bQ.of (a4 _ _ h)
    |cP h q=>exact bQ.mono a4 h
   exact I.wO g1 g2
theorem nV{f:D→Bool}{ds:List D}(h:ds.all f=true){i:Nat}{d:D}(e:ds[i]?=some d):f d=true:=List.all_eq_true.mp h d (VX e)
theorem G9(I:Inv X pins σ H s)(a4:Sub G H):∀(n:Nat){d1 ct:D}{x:V},okN n d1=true→okN n ct=true→At X.K G d1 x→At X.K G ct x→bK d1 ct=true:=by
 intro n;induction n with
 |zero=>intro d1 ct x cG b2 a1 a2;exact E6 (by cases d1<;>first|rfl|(cases cG)) a1 a2
 |succ n cW=>
  intro d1 ct x cG b2 a1 a2;cases s1:gk d1 with
  |true=>exact E6 s1 a1 a2
  |false=>
   cases s2:gk ct with
   |true=>exact(Bb s2 s1 a1 a2).elim
   |false=>
    obtain⟨eQ,fx,e0,mm,ao,aQ,gz,A7,k1⟩:=o1 cG s1 a1;obtain⟨bZ,dy,dK,mn,aA,a9,g5,A8,k2⟩:=o1 b2 s2 a2;subst ao;cases aA;have:n=gz:=by omega
    subst this;have:n=g5:=by omega
    subst this;obtain⟨bx,ex⟩:=aQ.same I a4 a9;subst bx;subst ex;rw[aQ.eq a9,beq_self_eq_true,Z9];refine Bc (aQ.gW.length.trans a9.gW.length.symm) fun i a b ax bx=>?_;obtain⟨v,ev,bc⟩:=aQ.gW.get ax;obtain⟨iJ,qa,bv⟩:=a9.gW.get bx;rw[ev]at qa;cases qa;exact cW (nV k1 ax) (nV k2 bx) bc bv
theorem vB(I:Inv X pins σ H s)(a4:Sub G H):∀(n:Nat){d1 ct:D}{u v:Vw}{A:V0},okN n d1=true→okN n ct=true→jT X.K G d1 u→jT X.K G ct v→A.units+n<XE→
  Zt A s u v (bK d1 ct)∧aak A s u v (bK d1 ct)∧Zc A s u v (!bK d1 ct):=by
 intro n;induction n with
 |zero=>
  intro d1 ct u v A cG b2 a1 a2 aN;refine E4 (l8 I a4 cG a1) (l8 I a4 b2 a2) ?_ ?_
  ·cases d1<;>first|rfl|(cases cG)
  ·cases ct<;>first|rfl|(cases b2)
 |succ n cW=>
  intro d1 ct u v A cG b2 a1 a2 aN;have i5:A.units<XE:=by omega
  cases s1:gk d1 with
  |true=>
   cases s2:gk ct with
   |true=>exact E4 (l8 I a4 cG a1) (l8 I a4 b2 a2) s1 s2
   |false=>exact DU i5 (l8 I a4 cG a1) (l8 I a4 b2 a2) (.inl ⟨s1,s2⟩)
  |false=>
   cases s2:gk ct with
   |true=>exact DU i5 (l8 I a4 cG a1) (l8 I a4 b2 a2) (.inr ⟨s1,s2⟩)
   |false=>
    obtain⟨eC,zW,O3⟩:=a1;obtain⟨fo,at2,O4⟩:=a2;obtain⟨eQ,fx,e0,mm,ao,aQ,gz,A7,k1⟩:=o1 cG s1 zW;obtain⟨bZ,dy,dK,mn,aA,a9,g5,A8,k2⟩:=o1 b2 s2 at2;subst ao;subst aA;cases O3;cases O4;have:n=gz:=by omega
    subst this;have:n=g5:=by omega
    subst this;obtain⟨fX,au,t1,eI⟩:=aQ.heap I a4;obtain⟨ea,bl,eJ,bD⟩:=a9.heap I a4;have kP:e0.length=fX.length:=aQ.gW.length.trans au.length;have qO:dK.length=ea.length:=a9.gW.length.trans bl.length;have item:∀j(h1:j<fX.toArray.size)(h2:j<ea.toArray.size),Zt A.in1 s fX.toArray[j] ea.toArray[j] (jA e0 dK j):=fun j h1 h2=>by
     have m1:j<e0.length:=by rw[kP];simpa using h1
     have lQ:j<dK.length:=by rw[qO];simpa using h2
     have g1:jT X.K G e0[j] fX.toArray[j]:=om aQ.gW au j _ _ (Vz m1) (by simp at h1;simp[h1]);have g2:jT X.K G dK[j] ea.toArray[j]:=om a9.gW bl j _ _ (Vz lQ) (by simp at h2;simp[h2]);have:=(cW (A:=A.in1) (nV k1 (Vz m1)) (nV k2 (Vz lQ)) g1 g2 (by rw[in1_units];omega)).1;unfold jA;rw[Vz m1,Vz lQ];exact this
    have whole:aak A s (.ref eQ) (.ref bZ) (bK d1 ct)∧Zc A s (.ref eQ) (.ref bZ) (!bK d1 ct):=by
     rw[aQ.eq a9];cases fx with
     |true=>
      cases dy with
      |false=>exact⟨SeqAt.RcAt.tuple_list (t1 rfl) (bD rfl) i5,SeqAt.RcNeAt.tuple_list (t1 rfl) (bD rfl) i5⟩
      |true=>
       have bE:=SeqAt.RcAt.tuples (e:=jA e0 dK) (t1 rfl) (eJ rfl) i5 item;have c9:=SeqAt.RcNeAt.tuples (e:=jA e0 dK) (t1 rfl) (eJ rfl) i5 item;have eq:((Wk (min fX.toArray.size ea.toArray.size)).all (jA e0 dK)&&fX.toArray.size==ea.toArray.size)=(true==true&&ef e0 dK):=by
        rw[VE,VE,←kP,←qO,beq_self_eq_true,Z9];by_cases ak:e0.length=dK.length
        ·rw[←ak,Nat.min_self,vD ak,beq_self_eq_true,Bool.and_true]
        ·rw[vC ak];have:(e0.length==dK.length)=false:=by simpa using ak
         rw[this,ZO]
       rw[eq]at bE;refine⟨bE,?_⟩
       first
        |(rw[eq]at c9;exact c9)
        |exact c9
     |false=>
      cases dy with
      |true=>exact⟨SeqAt.RcAt.list_tuple (eI rfl) (eJ rfl) i5,SeqAt.RcNeAt.list_tuple (eI rfl) (eJ rfl) i5⟩
      |false=>
       rw[beq_self_eq_true,Z9];by_cases ak:e0.length=dK.length
       ·have bE:=SeqAt.RcAt.lists (e:=jA e0 dK) (eI rfl) (bD rfl) (by rw[VE,VE,←kP,←qO];exact ak) i5 item;have c9:=SeqAt.RcNeAt.lists (e:=jA e0 dK) (eI rfl) (bD rfl) (by rw[VE,VE,←kP,←qO];exact ak) i5 item;rw[VE,←kP,vD ak]at bE c9;exact⟨bE,c9⟩
       ·have bG:(fX.toArray.size !=ea.toArray.size)=true:=by
          rw[VE,VE,←kP,←qO];simpa using ak
        rw[vC ak];exact⟨SeqAt.RcAt.lists_lengths (eI rfl) (bD rfl) bG i5,SeqAt.RcNeAt.lists_lengths (eI rfl) (bD rfl) bG i5⟩
    refine⟨?_,whole⟩;by_cases bf:eQ=bZ
    ·subst bf;rw[G9 I a4 (n+1) cG b2 zW at2];exact aav _
    ·exact SeqAt.EqAt.of_refs bf whole.1
end
def notStar:V3→Bool
 |.Starred .. =>false
 |_=>true
theorem P9(e:V3)(es:List V3)(env:Env)(h:notStar e=true):VA (e::es) env=(false,WW e env)::VA es env:=by cases e<;>first|rfl|(cases h)
def oN:V3→Bool
 |.ListComp .. =>false
 |.SetComp .. =>false
 |.DictComp .. =>false
 |_=>true
theorem o2(e:V3)(t:Option V3)(l:Nat)(env:Env)(h:oN e=true):Xp e t l env=pure false:=by cases e<;>first|rfl|(cases h)
def M1:V3→Bool
 |.Slice .. =>false
 |_=>true
theorem b1{b:V3}(h:M1 b=true:=by rfl):u0 b:=fun o i=>by cases b<;>first|rfl|(cases h)
section
variable{X:aD}{F:bj}{e a b c:V3}{es:List V3}{pos:Pos}
theorem a3.imp{t t':TE}(h:a3 X e t)(i:eE t' t):a3 X e t':=fun pins s σ H Q I hw=>h pins s σ H Q I (i σ H Q hw)
theorem eG.imp{t t':TT}(h:eG X e t)(i:kp t' t):eG X e t':=fun pins s σ H Q I hw=>h pins s σ H Q I (i σ H Q hw)
theorem hh.imp{t t':TT}(h:hh X e t)(i:kp t' t):hh X e t':=fun nu pins s σ H Q I hw=>h nu pins s σ H Q I (i σ H Q hw)
theorem e6.imp{t t':eK}(h:e6 X es t)(i:rO t' t):e6 X es t':=fun p pins s σ H Q I hw=>h p pins s σ H Q I (i σ H Q hw)
theorem c7.imp{st:WO}{t t':et}(h:c7 X st t)(i:hF t' t):c7 X st t':=fun pins s σ H cf I hw=>h pins s σ H cf I (i cf σ H hw)
theorem fv.imp{st:List WO}{t t':et}(h:fv X st t)(i:hF t' t):fv X st t':=fun pins s σ H cf I hw=>h pins s σ H cf I (i cf σ H hw)
theorem fG.imp{bz:V3}{t t':TI}(h:fG X bz e t)(i:nN t' t):fG X bz e t':=fun pins s σ H Q I hw=>h pins s σ H Q I (i σ H Q hw)
abbrev ib(X:aD)(F:bj)(e:V3)(m:aJ):Prop:=a3 X e (cJ F m)
abbrev zw(X:aD)(F:bj)(e:V3)(m:aZ):Prop:=a3 X e (hA F m)
abbrev zK(X:aD)(F:bj)(e:V3)(m:cw):Prop:=eG X e (fD F m)
abbrev zp(X:aD)(F:bj)(es:List V3)(m:aZ):Prop:=e6 X es (eb F m)
abbrev zH(X:aD)(F:bj)(st:WO)(m:bp):Prop:=c7 X st (fm F m)
abbrev GB(X:aD)(F:bj)(st:List WO)(m:bp):Prop:=fv X st (fm F m)
abbrev px(X:aD)(F:bj)(bz e:V3)(m:aZ):Prop:=fG X bz e (jO F m)
theorem H7{x:Str}{v:V}{u:Vw}{d:D}(hm:X.mg x=some u)(r:RelV v u)(at':∀G,At F.K G d v)(aF:da X x:=by rfl)(hd:(x==("__debug__" :Str))=false:=by decide):ib X F (.Name x pos) (aj d):=
 a3.imp (xp aF hm r hd) (qF at')
variable{st:WO}{k6:List WO}
theorem mL{op:Operator}{r:d7}{f:D→D→R D}{m n:aJ}(aB:dw X (X2 op) r)(hf:fF F r f)(ah:ib X F a m)(J:ib X F b n):ib X F (.BinOp a op b pos) (aE f m n):=a3.imp (En aB ah J) (qG hf)
theorem sk{op:aar}{r:d7}{f:D→D→R D}{m n:aJ}(aB:dw X (Wn op) r)(hf:fF F r f)(ah:ib X F a m)(J:ib X F b n)(hm:Wd op b=false):ib X F (.Compare a [op] [b] pos) (aE f m n):=a3.imp (NQ aB ah J hm) (qG hf)
theorem o6{op:aar}{r:d7}{f:D→D→R D}{m n:aJ}(aB:dw X (Wn op) r)(hf:fF F r f)(ah:ib X F a m)(J:ib X F b n)(hm:Wd op b=false):zK X F (.Compare a [op] [b] pos) (b5 (aE f m n)):=
 eG.imp (Oz aB ah J hm) fun σ H Q h=>by obtain⟨G,ρ,r,k⟩:=CE (F:=F) (m:=aE f m n) σ H Q h;exact qG hf σ H _ ⟨G,ρ,r,k⟩
def iD(f:Int→Int→R D):D→D→R D
 |.int i,.int j=>f i j
 |_,_=>.bad
theorem ts{g:Int→Int→V}{f:Int→Int→D}(h:∀i j G,At F.K G (f i j) (g i j)):fF F (kk g) (iD fun i j=>.ok (f i j)):=by
 intro σ ρ G H x y a5 fh Q r bV cS k;unfold iD at k
 split at k
 ·rename_i i j;simp only[At]at bV cS;exact⟨i,j,bV,cS,k _ H G r (b3.refl _ _) (h i j G)⟩
 ·exact k.elim
theorem tr{C:Int→Int→Prop}[∀i j,Decidable (C i j)]{g:Int→Int→V}{f:Int→Int→D}(h:∀i j G,At F.K G (f i j) (g i j)):fF F (oT C g) (iD fun i j=>if C i j then .ok (f i j)else .bad):=by
 intro σ ρ G H x y a5 fh Q r bV cS k;unfold iD at k
 split at k
 ·rename_i i j;simp only[At]at bV cS;dsimp only at k
  split at k
  ·rename_i aq;exact⟨i,j,bV,cS,aq,k _ H G r (b3.refl _ _) (h i j G)⟩
  ·exact k.elim
 ·exact k.elim
instance(i j:Int):Decidable (rG i j):=by unfold rG;infer_instance
instance(i j:Int):Decidable (ph i j):=by unfold ph;infer_instance
instance(i j:Int):Decidable (nE i j):=by unfold nE;infer_instance
def km:=iD fun i j=>.ok (.int (i-j))
def nd:=iD fun i j=>if nE i j then .ok (.int (i*j))else .bad
def kB:=iD fun i j=>if rG i j then .ok (.int (i/j))else .bad
def fa:=iD fun i j=>if 0<j then .ok (.int (i%j))else .bad
def jH:=iD fun i j=>if ph i j then .ok (.int (i^j.toNat))else .bad
def oy:=iD fun i j=>.ok (.aU (decide (i<j)))
def lS:=iD fun i j=>.ok (.aU (decide (i≤j)))
def vT:=iD fun i j=>.ok (.aU (decide (j<i)))
variable{m n:aJ}
def MQ:D→R D
 |.int i=>.ok (.int (-i))
 |_=>.bad
noncomputable def fH:D→D→R D
 |.int i,.int j=>.ok (.int (i+j))
 |.str x,.str y=>if x.length+y.length≤1000000 then .ok (.str (x++y))else .bad
 |.lst xs,.lst ys=>if xs.length+ys.length≤1000000 then .ok (.lst (xs++ys))else .bad
 |_,_=>.bad
theorem Nd:fF F (fun x y H Q=>kk (fun i j=>.int (i+j)) x y H Q∨(∃i j,x=.str i∧y=.str j∧i.length+j.length≤VP∧Q (.str (i++j)) H)∨EE x y H Q) fH:=by
 intro σ ρ G H x y a5 fh Q r bV cS k;unfold fH at k
 split at k
 ·rename_i i j;simp only[At]at bV cS;exact .inl ⟨i,j,bV,cS,k _ H G r (b3.refl _ _) (by simp only[At])⟩
 ·rename_i i j;simp only[At]at bV cS
  split at k
  ·rename_i ak;exact .inr (.inl ⟨i,j,bV,cS,V7 ak (by decide),k _ H G r (b3.refl _ _) (by simp only[At])⟩)
  ·exact k.elim
 ·rename_i ds es;simp only[At]at bV cS
  split at k
  ·rename_i ak;obtain⟨p,xs,ao,h1,aQ⟩:=bV;obtain⟨bZ,ys,aA,h2,a9⟩:=cS;refine .inr (.inr ⟨p,bZ,xs,ys,ao,aA,r.aG.sub _ _ h1,r.aG.sub _ _ h2,by rw[←aQ.length,←a9.length];exact V7 ak (by decide),fun l aK=>?_⟩);refine k (.ref l) _ _ (r.lay aK) (b3.lay r.aG.sub aK) ?_;simp only[At];exact⟨l,xs++ys,rfl,dI,(aQ.append a9).mono (Sub.upd (r.aG.sub.gone aK))⟩
  ·exact k.elim
 ·exact k.elim
noncomputable def dz(b:Bool)(x y:D):R D:=if okN 8 x=true∧okN 8 y=true then .ok (.aU (if b then bK x y else !bK x y))else .bad
noncomputable def xD(F:bj)(b:Bool):d7:=fun x y H Q=>∃G d1 ct,Sub G H∧At F.K G d1 x∧At F.K G ct y∧okN 8 d1=true∧okN 8 ct=true∧Q (.aU (if b then bK d1 ct else !bK d1 ct)) H
theorem Ee(aX:F.K=X.K)(aN:X.A.units+64<XE):dw X (Wn .Eq) (xD F true):=by intro pins s σ H x y v u Q I bu bX h;obtain⟨G,d1,ct,a4,a1,a2,cG,b2,q⟩:=h;rw[aX]at a1 a2;exact(vB I a4 8 (A:=X.A) cG b2 ⟨x,a1,bu⟩ ⟨y,a2,bX⟩ (by omega)).2.1 X.prog X.w X.xe _ ⟨.aU _,H,I,rfl,q⟩
theorem Ef(aX:F.K=X.K)(aN:X.A.units+64<XE):dw X (Wn .NotEq) (xD F false):=by intro pins s σ H x y v u Q I bu bX h;obtain⟨G,d1,ct,a4,a1,a2,cG,b2,q⟩:=h;rw[aX]at a1 a2;exact(vB I a4 8 (A:=X.A) cG b2 ⟨x,a1,bu⟩ ⟨y,a2,bX⟩ (by omega)).2.2 X.prog X.w X.xe _ ⟨.aU _,H,I,rfl,q⟩
theorem tq(b:Bool):fF F (xD F b) (dz b):=by
 intro σ ρ G H x y a5 fh Q r bV cS k;unfold dz at k
 split at k
 ·rename_i aB;exact⟨G,a5,fh,r.aG.sub,bV,cS,aB.1,aB.2,k _ H G r (b3.refl _ _) (by simp only[At])⟩
 ·exact k.elim
end
section
variable{X:aD}{F:bj}{e a b c:V3}{es:List V3}{pos:Pos}{m n:aJ}
theorem Bd:∀{ds n4:List D},ds.length=n4.length→(∀(i:Nat) x y,ds[i]?=some x→n4[i]?=some y→∀z,bK x z=bK y z)→∀es,ef ds es=ef n4 es
 |[],[],_,_,_=>rfl
 |[],_::_,h,_,_=>by simp at h
 |_::_,[],h,_,_=>by simp at h
 |x::xs,y::ys,h,k,[]=>by simp only[ef]
 |x::xs,y::ys,h,k,e::es=>by simp only[ef];rw[k 0 x y rfl rfl e,Bd (by simpa using h) (fun i a b ao aA=>k (i+1) a b (by simpa using ao) (by simpa using aA)) es]
theorem E5{K:PySem.W.Frag}{G:ae}{d d':D}{x:V}(o:gk d=true)(a1:At K G d x)(a2:At K G d' x):d=d':=by
 cases d with
 |non=>simp only[At]at a1;subst a1;cases d'<;>simp only[At]at a2<;>first|rfl|(cases a2;done)|(obtain⟨a,xs,e,_⟩:=a2;cases e;done)|(obtain⟨a,a5,xs,e,_⟩:=a2;cases e;done)
 |aU b=>simp only[At]at a1;subst a1;cases d'<;>simp only[At]at a2<;>first|(cases a2;rfl)|(cases a2;done)|(obtain⟨a,xs,e,_⟩:=a2;cases e;done)|(obtain⟨a,a5,xs,e,_⟩:=a2;cases e;done)
 |int b=>simp only[At]at a1;subst a1;cases d'<;>simp only[At]at a2<;>first|(cases a2;rfl)|(cases a2;done)|(obtain⟨a,xs,e,_⟩:=a2;cases e;done)|(obtain⟨a,a5,xs,e,_⟩:=a2;cases e;done)
 |str b=>simp only[At]at a1;subst a1;cases d'<;>simp only[At]at a2<;>first|(cases a2;rfl)|(cases a2;done)|(obtain⟨a,xs,e,_⟩:=a2;cases e;done)|(obtain⟨a,a5,xs,e,_⟩:=a2;cases e;done)
 |_=>cases o
theorem f9.val{K:PySem.W.Frag}{G:ae}{d:D}{p:VD}{b:Bool}{ds:List D}{xs:List V}(h:f9 K G d p b ds xs)(e:D):bK d e=match e with
  |.tup es=>b&&ef ds es
  |.cX es=>b&&ef ds es
  |.lst es=>!b&&ef ds es
  |.cP es=>!b&&ef ds es
  |_=>false:=by
 cases h<;>cases e<;>simp[bK]
section
variable{pins:List (VD×Obj)}{σ :St}{H G:ae}{s:Vx}
theorem G8(I:Inv X pins σ H s)(a4:Sub G H):∀(n:Nat){d d':D}{x:V},okN n d=true→okN n d'=true→At X.K G d x→At X.K G d' x→∀e,bK d e=bK d' e:=by
 intro n;induction n with
 |zero=>intro d d' x cG b2 a1 a2 e;rw[E5 (by cases d<;>first|rfl|(cases cG)) a1 a2]
 |succ n cW=>
  intro d d' x cG b2 a1 a2 e;cases s1:gk d with
  |true=>rw[E5 s1 a1 a2]
  |false=>
   cases s2:gk d' with
   |true=>exact(Bb s2 s1 a1 a2).elim
   |false=>
    obtain⟨eQ,fx,e0,mm,ao,aQ,gz,A7,k1⟩:=o1 cG s1 a1;obtain⟨bZ,dy,dK,mn,aA,a9,g5,A8,k2⟩:=o1 b2 s2 a2;subst ao;cases aA;have:n=gz:=by omega
    subst this;have:n=g5:=by omega
    subst this;obtain⟨bx,ex⟩:=aQ.same I a4 a9;subst bx;subst ex;have el:∀es,ef e0 es=ef dK es:=Bd (aQ.gW.length.trans a9.gW.length.symm) fun i a b ax bx z=>by obtain⟨v,ev,bc⟩:=aQ.gW.get ax;obtain⟨iJ,qa,bv⟩:=a9.gW.get bx;rw[ev]at qa;cases qa;exact cW (nV k1 ax) (nV k2 bx) bc bv z
    rw[aQ.val,a9.val];cases e<;>first|rfl|(simp only[el])
open Classical in
noncomputable def ly(K:PySem.W.Frag)(G:ae)(d:D)(u:Vw):Bool:=if h:∃d',okN 7 d'=true∧jT K G d' u then bK (Classical.choose h) d else false
theorem zU(I:Inv X pins σ H s)(a4:Sub G H){d d1:D}{u:Vw}(o:okN 7 d=true)(h:jT X.K G d u):ly X.K G d1 u=bK d d1:=by have av:∃d',okN 7 d'=true∧jT X.K G d' u:=⟨d,o,h⟩;unfold ly;rw[dif_pos av];obtain⟨bk,h'⟩:=Classical.choose_spec av;obtain⟨x,a,r⟩:=h;obtain⟨Rj,ij,bq⟩:=h';have:Rj=x:=bq.inj r;subst this;exact G8 I a4 7 bk o ij a d1
theorem u6(I:Inv X pins σ H s)(a4:Sub G H){d1:D}:∀{ds:List D}{xs:List V}{its:List Vw},aO X.K G ds xs→Vals xs its→ds.all (okN 7)=true→its.any (ly X.K G d1)=ds.any fun y=>bK y d1
 |[],_,_,q,r,_=>by simp only[aO]at q;subst q;cases r;rfl
 |d::ds,_,_,q,r,o=>by
  simp only[aO]at q;obtain⟨v,ui,rfl,bc,kx⟩:=q;cases r with
  |cons au bl=>rw[Yg,V6]at o;rw[XN,XN,zU I a4 o.1 ⟨v,bc,au⟩,u6 I a4 kx bl o.2]
theorem w_(I:Inv X pins σ H s)(a4:Sub G H){d1:D}{x:V}{v:Vw}{A:V0}(aN:A.units+8<XE)(cG:okN 7 d1=true)(a1:At X.K G d1 x)(bu:RelV x v):∀{ds:List D}{xs:List V}{its:List Vw},aO X.K G ds xs→Vals xs its→ds.all (okN 7)=true→
  ∀u∈its,Zt A s u v (ly X.K G d1 u)
 |[],_,_,q,r,_=>by simp only[aO]at q;subst q;cases r;exact fun u aN=>nomatch aN
 |d::ds,_,_,q,r,o=>by
  simp only[aO]at q;obtain⟨w,wr,rfl,bc,kx⟩:=q;cases r with
  |cons au bl=>
   rw[Yg,V6]at o;intro jQ hm;rcases List.mem_cons.mp hm with e|hm
   ·subst e;rw[zU I a4 o.1 ⟨w,bc,au⟩];exact(vB I a4 7 (A:=A) o.1 cG ⟨w,bc,au⟩ ⟨x,a1,bu⟩ (by omega)).1
   ·exact w_ I a4 aN cG a1 bu kx bl o.2 jQ hm
end
noncomputable def yx:D→Option (List D)
 |.tup ys=>some ys
 |.cX ys=>some ys
 |.lst ys=>some ys
 |.cP ys=>some ys
 |_=>none
noncomputable def inD(b:Bool)(x y:D):R D:=match yx y with
 |some ys=>if okN 7 x=true∧ys.all (okN 7)=true then .ok (.aU (if b then ys.any (fun y=>bK y x)else !ys.any fun y=>bK y x))else .bad
 |none=>.bad
noncomputable def xE(F:bj)(b:Bool):d7:=fun x y H Q=>∃G d1 ct p ds xs k,Sub G H∧At F.K G d1 x∧y=.ref p∧f9 F.K G ct p k ds xs∧okN 7 d1=true∧ds.all (okN 7)=true∧Q (.aU (if b then ds.any (fun y=>bK y d1)else !ds.any fun y=>bK y d1)) H
theorem Nw(aX:F.K=X.K)(aN:X.A.units+64<XE):dw X (Wn .In) (xE F true):=by
 intro pins s σ H x y v u Q I bu bX h;obtain⟨G,d1,ct,p,ds,xs,k,a4,a1,rfl,jL,cG,b2,q⟩:=h;rw[aX]at a1 jL;cases bX;obtain⟨its,au,t1,eI⟩:=jL.heap I a4;have q:Q (.aU (ds.any fun y=>bK y d1)) H:=q;rw[←u6 I a4 jL.gW au b2]at q;have hm:=w_ I a4 (A:=X.A.in1) (d1:=d1) (by rw[in1_units];omega) cG a1 bu jL.gW au b2;cases k with
 |true=>exact SeqAt.in_tupleAt (ly X.K G d1) (t1 rfl) (fun w hw=>hm w (by simpa using hw)) ⟨.aU _,H,I,rfl,by simpa using q⟩
 |false=>exact SeqAt.in_listAt (ly X.K G d1) (eI rfl) (fun w hw=>hm w (by simpa using hw)) ⟨.aU _,H,I,rfl,by simpa using q⟩
theorem NB(aX:F.K=X.K)(aN:X.A.units+64<XE):dw X (Wn .NotIn) (xE F false):=by
 intro pins s σ H x y v u Q I bu bX h;obtain⟨G,d1,ct,p,ds,xs,k,a4,a1,rfl,jL,cG,b2,q⟩:=h;rw[aX]at a1 jL;cases bX;obtain⟨its,au,t1,eI⟩:=jL.heap I a4;have q:Q (.aU (!ds.any fun y=>bK y d1)) H:=q;rw[←u6 I a4 jL.gW au b2]at q;have hm:=w_ I a4 (A:=X.A.in1) (d1:=d1) (by rw[in1_units];omega) cG a1 bu jL.gW au b2;cases k with
 |true=>exact SeqAt.notIn_tupleAt (ly X.K G d1) (t1 rfl) (fun w hw=>hm w (by simpa using hw)) ⟨.aU _,H,I,rfl,by simpa using q⟩
 |false=>exact SeqAt.notIn_listAt (ly X.K G d1) (eI rfl) (fun w hw=>hm w (by simpa using hw)) ⟨.aU _,H,I,rfl,by simpa using q⟩
theorem P4{K:PySem.W.Frag}{G:ae}{d:D}{x:V}{ds:List D}(e:yx d=some ds)(a:At K G d x):∃p xs k,x=.ref p∧f9 K G d p k ds xs:=by
 cases d<;>first
  |(cases e;done)
  |(cases e
    simp only[At]at a;obtain⟨p,xs,e,h,q⟩:=a
    first
     |exact⟨p,xs,_,e,.tup (cz.of h) q⟩
     |exact⟨p,xs,_,e,.cX h q⟩
     |exact⟨p,xs,_,e,.lst h q⟩
     |exact⟨p,xs,_,e,.cP h q⟩)
theorem Ea(b:Bool):fF F (xE F b) (inD b):=by
 intro σ ρ G H x y a5 fh Q r bV cS k;unfold inD at k;cases e:yx fh with
 |none=>rw[e]at k;exact k.elim
 |some ys=>
  rw[e]at k;dsimp only at k
  split at k
  ·rename_i aB;obtain⟨p,xs,df,fU,jL⟩:=P4 e cS;exact⟨G,a5,fh,p,ys,xs,df,r.aG.sub,bV,fU,jL,aB.1,aB.2,k _ H G r (b3.refl _ _) (by simp only[At])⟩
  ·exact k.elim
def wG:D→Bool
 |.non=>true
 |_=>false
def KO(b:Bool):D→D→R D
 |x,.non=>.ok (.aU (if b then wG x else !wG x))
 |_,_=>.bad
noncomputable def kQ(f g:D→D→R D)(a b c:aJ):aJ:=fun ρ=>(a ρ).bind fun x=>(b ρ).bind fun y=>(f x y).bind fun z=>(ju z).bind fun k=>if k=true then(c ρ).bind fun w=>g y w else .ok (.aU false)
theorem CG{r bq:d7}{f g:D→D→R D}{l:aJ}(hf:fF F r f)(aF:fF F bq g):eE (cJ F (kQ f g m n l)) (yJ r bq (cJ F m) (cJ F n) (cJ F l)):=by
 rintro σ H Q ⟨G,ρ,xI,h⟩;unfold kQ at h;refine⟨G,ρ,xI,?_⟩;cases ax:m ρ with
 |bad=>rw[ax]at h;exact h.elim
 |exc c=>rw[ax]at h;exact h
 |ok a5=>
  rw[ax,R.bI]at h;intro x H1 aL au s1 bV;refine⟨aL,ρ,au,?_⟩;cases bx:n ρ with
  |bad=>rw[bx]at h;exact h.elim
  |exc c=>rw[bx]at h;exact h
  |ok fh=>
   rw[bx,R.bI]at h;intro y aM cC bl s2 cS;refine hf σ ρ cC aM x y a5 fh _ bl (bV.mono s2.g) cS ?_;cases mM:f a5 fh with
   |bad=>rw[mM]at h;exact h.elim
   |exc c=>rw[mM]at h;exact h
   |ok H6=>
    rw[mM,R.bI]at h;intro z cy eN dp s3 r5;cases H6 with
    |aU k=>
     simp only[At]at r5;refine⟨k,r5,?_⟩;have h:hQ F G H σ ρ Q (if k=true then(l ρ).bind fun w=>g fh w else .ok (.aU false)):=h;cases k with
     |false=>rw[if_neg VZ]at h ⊢;exact h _ cy eN dp (s1.trans (s2.trans s3)) (by simp only[At])
     |true=>
      rw[if_pos rfl]at h ⊢;refine⟨eN,ρ,dp,?_⟩;cases ec:l ρ with
      |bad=>rw[ec]at h;exact h.elim
      |exc c=>rw[ec]at h;exact h
      |ok H5=>rw[ec,R.bI]at h;intro w fu pn l2 s4 j5;exact aF σ ρ pn fu y w fh H5 Q l2 ((cS.mono s3.g).mono s4.g) j5 (h.mono (s1.trans (s2.trans (s3.trans s4))))
    |_=>exact h.elim
theorem oO:fF F (kk fun i j=>.aU (decide (i≤j))) lS:=ts fun _ _ _=>by simp only[At]
end
section
variable{X:aD}{F:bj}{e a b c:V3}{es:List V3}{pos p:Pos}{m n:aJ}{ma:aZ}
def dB(f:List D→R D)(m:aZ):aJ:=fun ρ=>(m ρ).bind f
noncomputable def mq(F:bj)(r:List V→ae→cD→Prop)(f:List D→R D):Prop:=∀ σ ρ G H xs ds Q,Rel F G H σ ρ→aO F.K G ds xs→hQ F G H σ ρ Q (f ds)→r xs H Q
theorem CF{r:List V→ae→cD→Prop}{f:List D→R D}(hf:mq F r f):eE (cJ F (dB f ma)) (rt r (eb F ma)):=by
 rintro σ H Q ⟨G,ρ,xI,h⟩;unfold dB at h;refine⟨G,ρ,xI,?_⟩;cases ax:ma ρ with
 |bad=>rw[ax]at h;exact h.elim
 |exc c=>rw[ax]at h;exact h
 |ok ds=>rw[ax,R.bI]at h;intro vs H1 aL au s1 a;exact hf σ ρ aL H1 vs ds Q au a (h.mono s1)
theorem A4{x:Str}{id:String}{r:List V→ae→cD→Prop}{f:List D→R D}(aq:h_ X (.builtin id) r)(hf:mq F r f)(hm:X.mg x=none)(bS:WH x=some (.builtin id))(ah:zp X F (e::es) ma)(aF:da X x:=by rfl)(aK:x≠"__name__":=by decide)(e2:(x==("__debug__" :Str))=false:=by decide)(he:VA (e::es) X.env=(false,WW e X.env)::VA es X.env:=by rfl)(cI:(Wu pos (VA es X.env)).any (·.1)=false:=by rfl):ib X F (.Call (.Name x p) (e::es) [] pos) (dB f ma):=
 a3.imp (rd aq aF hm bS ah aK e2 he cI) (CF hf)
theorem A5{x:Str}{T:String}{r:List V→ae→cD→Prop}{f:List D→R D}(aq:h_ X (.type T) r)(hf:mq F r f)(hm:X.mg x=none)(bS:WH x=some (.type T))(ah:zp X F (e::es) ma)(aF:da X x:=by rfl)(aK:x≠"__name__":=by decide)(e2:(x==("__debug__" :Str))=false:=by decide)(he:VA (e::es) X.env=(false,WW e X.env)::VA es X.env:=by rfl)(cI:(Wu pos (VA es X.env)).any (·.1)=false:=by rfl):ib X F (.Call (.Name x p) (e::es) [] pos) (dB f ma):=
 a3.imp (xo aq aF hm bS ah aK e2 he cI) (CF hf)
noncomputable def e3:List D→R D
 |[.str x]=>if x.length≤1000000 then .ok (.int x.length)else .bad
 |[.lst xs]=>.ok (.int xs.length)
 |[.cP xs]=>.ok (.int xs.length)
 |[.tup xs]=>.ok (.int xs.length)
 |[.cX xs]=>.ok (.int xs.length)
 |_=>.bad
theorem aO.one{K:PySem.W.Frag}{G:ae}{d:D}{vs:List V}(a:aO K G [d] vs):∃v,vs=[v]∧At K G d v:=by simp only[aO]at a;obtain⟨v,r,rfl,h,rfl⟩:=a;exact⟨v,rfl,h⟩
theorem aO.two{K:PySem.W.Frag}{G:ae}{d e:D}{vs:List V}(a:aO K G [d,e] vs):∃v w,vs=[v,w]∧At K G d v∧At K G e w:=by simp only[aO]at a;obtain⟨v,r,rfl,h,w,bq,rfl,h',rfl⟩:=a;exact⟨v,w,rfl,h,h'⟩
theorem Nk(aX:F.K=X.K):mq F (fun xs H Q=>∃x n,xs=[x]∧zA X.K x H n∧Q (.int n) H) e3:=by
 intro σ ρ G H xs ds Q r al k;unfold e3 at k
 split at k
 ·rename_i x;obtain⟨v,rfl,bc⟩:=al.one;simp only[At]at bc;subst bc
  split at k
  ·rename_i ak;exact⟨_,x.length,rfl,⟨V7 ak (by decide),rfl⟩,k _ H G r (b3.refl _ _) (by simp only[At])⟩
  ·exact k.elim
 ·rename_i ys;obtain⟨v,rfl,bc⟩:=al.one;simp only[At]at bc;obtain⟨q,xs,rfl,h,al⟩:=bc;rw[al.length]at k;exact⟨_,xs.length,rfl,.inl ⟨xs,bQ.of (r.aG.sub _ _ h),rfl⟩,k _ H G r (b3.refl _ _) (by simp only[At])⟩
 ·rename_i ys;obtain⟨v,rfl,bc⟩:=al.one;simp only[At]at bc;obtain⟨q,xs,rfl,h,al⟩:=bc;rw[al.length]at k;rw[aX]at h;exact⟨_,xs.length,rfl,.inl ⟨xs,bQ.mono r.aG.sub h,rfl⟩,k _ H G r (b3.refl _ _) (by simp only[At])⟩
 ·rename_i ys;obtain⟨v,rfl,bc⟩:=al.one;simp only[At]at bc;obtain⟨q,xs,rfl,h,al⟩:=bc;rw[al.length]at k;exact⟨_,xs.length,rfl,.inr ⟨xs,cz.of (r.aG.sub _ _ h),rfl⟩,k _ H G r (b3.refl _ _) (by simp only[At])⟩
 ·rename_i ys;obtain⟨v,rfl,bc⟩:=al.one;simp only[At]at bc;obtain⟨q,xs,rfl,h,al⟩:=bc;rw[al.length]at k;rw[aX]at h;exact⟨_,xs.length,rfl,.inr ⟨xs,cz.mono r.aG.sub h,rfl⟩,k _ H G r (b3.refl _ _) (by simp only[At])⟩
 ·exact k.elim
noncomputable def rv:D→Option String
 |.non=>some "NoneType"
 |.aU _=>some "bool"
 |.int _=>some "int"
 |.str _=>some "str"
 |.lst _=>some "list"
 |.cP _=>some "list"
 |.tup _=>some "tuple"
 |.cX _=>some "tuple"
 |.dc _ _=>some "dict"
 |.cA _ _=>some "dict"
 |_=>none
def yF(T U:String):Bool:=T==U||(T=="bool"&&U=="int")
def hP(U:String)(d:D):R D:=match rv d with
 |some T=>.ok (.aU (yF T U))
 |none=>.bad
noncomputable def mD(K:PySem.W.Frag)(U:String):Prop:=∀T,T="NoneType"∨T="bool"∨T="int"∨T="str"∨T="list"∨T="tuple"∨T="dict"→PySem.W.kitOne K (.type T) (.type U)=some (yF T U)
theorem QX(K:PySem.W.Frag):mD K "int":=fun T h=>by rcases h with rfl|rfl|rfl|rfl|rfl|rfl|rfl<;>kernel_rfl
theorem QW(K:PySem.W.Frag):mD K "bool":=fun T h=>by rcases h with rfl|rfl|rfl|rfl|rfl|rfl|rfl<;>kernel_rfl
theorem ub(K:PySem.W.Frag):mD K "str":=fun T h=>by rcases h with rfl|rfl|rfl|rfl|rfl|rfl|rfl<;>kernel_rfl
theorem yY(K:PySem.W.Frag):mD K "list":=fun T h=>by rcases h with rfl|rfl|rfl|rfl|rfl|rfl|rfl<;>kernel_rfl
theorem yZ(K:PySem.W.Frag):mD K "tuple":=fun T h=>by rcases h with rfl|rfl|rfl|rfl|rfl|rfl|rfl<;>kernel_rfl
theorem KP{pins:List (VD×Obj)}{σ :St}{H G:ae}{s:Vx}{Q:Vw→Vx→Prop}{E:Vw→Vx→Prop}{d:D}{x:V}{u:Vw}{T U:String}{k:Bool}(I:Inv X pins σ H s)(a4:Sub G H)(at':At X.K G d x)(bu:RelV x u)(e:rv d=some T)(tt:PySem.W.kitOne X.K (.type T) (.type U)=some k)(h:∀cK,Q (.bool k) { s with toks:=cK }):VL (VT X.prog X.w) X.A (call (.builtin "isinstance") [u,.type U]) Q E s:=by
 cases d with
 |non=>cases e;simp only[At]at at';subst at';cases bu;exact PySem.W.kia_one PySem.W.kitx_none I.ej Xu tt (fun z=>nomatch z) h
 |aU b=>cases e;simp only[At]at at';subst at';cases bu;exact PySem.W.kia_one PySem.W.kitx_bool I.ej Xu tt (fun z=>nomatch z) h
 |int b=>cases e;simp only[At]at at';subst at';obtain⟨t,rfl⟩:=bu;exact PySem.W.kia_one PySem.W.kitx_int I.ej Xu tt (fun z=>nomatch z) h
 |str b=>cases e;simp only[At]at at';subst at';obtain⟨t,rfl⟩:=bu;exact PySem.W.kia_one PySem.W.kitx_str I.ej Xu tt (fun z=>nomatch z) h
 |lst ds=>cases e;simp only[At]at at';obtain⟨q,xs,rfl,aS,_⟩:=at';cases bu;obtain⟨its,_,⟨o,n,ao,aA,_⟩,_⟩:=I.list (bQ.of (a4 _ _ aS));exact PySem.W.kia_one PySem.W.kitx_list I.ej ⟨o,ao,aA⟩ tt (fun z=>nomatch z) h
 |cP ds=>cases e;simp only[At]at at';obtain⟨q,xs,rfl,aS,_⟩:=at';cases bu;obtain⟨its,_,⟨o,n,ao,aA,_⟩,_⟩:=I.list (bQ.mono a4 aS);exact PySem.W.kia_one PySem.W.kitx_list I.ej ⟨o,ao,aA⟩ tt (fun z=>nomatch z) h
 |tup ds=>cases e;simp only[At]at at';obtain⟨q,xs,rfl,aS,_⟩:=at';cases bu;obtain⟨its,_,⟨o,ao,aA,_⟩,_⟩:=I.tuple (cz.of (a4 _ _ aS));exact PySem.W.kia_one PySem.W.kitx_tuple I.ej ⟨o,ao,aA⟩ tt (fun z=>nomatch z) h
 |cX ds=>cases e;simp only[At]at at';obtain⟨q,xs,rfl,aS,_⟩:=at';cases bu;obtain⟨its,_,⟨o,ao,aA,_⟩,_⟩:=I.tuple (cz.mono a4 aS);exact PySem.W.kia_one PySem.W.kitx_tuple I.ej ⟨o,ao,aA⟩ tt (fun z=>nomatch z) h
 |dc aI ds=>cases e;simp only[At]at at';obtain⟨q,xs,rfl,aS,_⟩:=at';cases bu;obtain⟨_,_,vs,_,o,es,b7,h1,h2,_⟩:=(show eF X.prog X.w H s.heap q (.dc xs)from I.bw q _ (a4 _ _ aS));exact PySem.W.kia_one PySem.W.kitx_dict I.ej ⟨o,h1,h2.1⟩ tt (fun z=>nomatch z) h
 |cA aI ds=>cases e;simp only[At]at at';obtain⟨q,xs,rfl,aS,_⟩:=at';cases bu;obtain⟨_,_,zs,_,o,es,b7,h1,h2,_⟩:=(show eF X.prog X.w H s.heap q (.cA xs)from I.bw q _ (a4 _ _ aS));exact PySem.W.kia_one PySem.W.kitx_dict I.ej ⟨o,h1,h2.1⟩ tt (fun z=>nomatch z) h
 |ins C ns ds=>cases e
 |i0 C=>cases e
 |fn C=>cases e
theorem Q5{d:D}{T:String}(e:rv d=some T):T="NoneType"∨T="bool"∨T="int"∨T="str"∨T="list"∨T="tuple"∨T="dict":=by cases d<;>cases e<;>simp
noncomputable def OP(F:bj)(U:String):List V→ae→cD→Prop:=fun xs H Q=>∃G d x T,Sub G H∧xs=[x,.ty U]∧At F.K G d x∧rv d=some T∧Q (.aU (yF T U)) H
theorem Ho{U:String}(aX:F.K=X.K)(tt:mD X.K U):h_ X (.builtin "isinstance") (OP F U):=by intro pins s σ H xs us Q I r h;obtain⟨G,d,x,T,a4,rfl,a,e,q⟩:=h;obtain⟨u,f3,rfl,bu,eR⟩:=vals2 r;obtain rfl:f3=Zr U:=eR;rw[aX]at a;exact KP I a4 a bu e (tt T (Q5 e)) fun cK=>⟨.aU _,H,I.tok cK,rfl,q⟩
noncomputable def cE:D→D→R D
 |.lst xs,.int i=>match gE xs i with|some d=>.ok d|none=>.bad
 |.cP xs,.int i=>match gE xs i with|some d=>.ok d|none=>.bad
 |.tup xs,.int i=>match gE xs i with|some d=>.ok d|none=>.bad
 |.cX xs,.int i=>match gE xs i with|some d=>.ok d|none=>.bad
 |.str x,.int i=>if x.length≤1000000 then match gE x.cps.toList i with|some c=>.ok (.str ⟨#[c]⟩)|none=>.bad else .bad
 |_,_=>.bad
theorem r4{K:PySem.W.Frag}{G:ae}{ds:List D}{xs:List V}{i:Int}{d:D}(q:aO K G ds xs)(e:gE ds i=some d):∃v,gE xs i=some v∧At K G d v:=by
 unfold gE at e ⊢;rw[q.length]at e;cases lF:lP xs.length i with
 |none=>rw[lF]at e;cases e
 |some j=>rw[lF]at e;obtain⟨v,ao,a⟩:=q.get e;exact⟨v,ao,a⟩
theorem Nj(aX:F.K=X.K):fF F (EI X.K) cE:=by
 intro σ ρ G H x y a5 fh Q r bV cS k;unfold cE at k
 split at k
 ·rename_i ds i;simp only[At]at bV cS;obtain⟨p,xs,e,h,q⟩:=bV
  split at k
  ·rename_i d d5;obtain⟨v,ev,bc⟩:=r4 q d5;exact .inl ⟨p,xs,i,v,e,cS,bQ.of (r.aG.sub _ _ h),ev,k _ H G r (b3.refl _ _) bc⟩
  ·exact k.elim
 ·rename_i ds i;simp only[At]at bV cS;obtain⟨p,xs,e,h,q⟩:=bV
  split at k
  ·rename_i d d5;obtain⟨v,ev,bc⟩:=r4 q d5;have h':=h;rw[aX]at h';exact .inl ⟨p,xs,i,v,e,cS,bQ.mono r.aG.sub h',ev,k _ H G r (b3.refl _ _) bc⟩
  ·exact k.elim
 ·rename_i ds i;simp only[At]at bV cS;obtain⟨p,xs,e,h,q⟩:=bV
  split at k
  ·rename_i d d5;obtain⟨v,ev,bc⟩:=r4 q d5;exact .inr (.inl ⟨p,xs,i,v,e,cS,cz.of (r.aG.sub _ _ h),ev,k _ H G r (b3.refl _ _) bc⟩)
  ·exact k.elim
 ·rename_i ds i;simp only[At]at bV cS;obtain⟨p,xs,e,h,q⟩:=bV
  split at k
  ·rename_i d d5;obtain⟨v,ev,bc⟩:=r4 q d5;have h':=h;rw[aX]at h';exact .inr (.inl ⟨p,xs,i,v,e,cS,cz.mono r.aG.sub h',ev,k _ H G r (b3.refl _ _) bc⟩)
  ·exact k.elim
 ·rename_i z i;simp only[At]at bV cS
  split at k
  ·rename_i ak
   split at k
   ·rename_i c ec;exact .inr (.inr ⟨z,i,c,bV,cS,V7 ak (by decide),ec,k _ H G r (b3.refl _ _) (by simp only[At])⟩)
   ·exact k.elim
  ·exact k.elim
 ·exact k.elim
end
section
variable{X:aD}{F:bj}{e a b c:V3}{es:List V3}{pos p:Pos}{m n:aJ}{ma:aZ}
noncomputable def iY{α:Type}(xs:List α)(lo af:Option Int):List α:=(xs.drop (d0.ep xs.length 0 lo)).take (d0.ep xs.length xs.length af-d0.ep xs.length 0 lo)
def mJ(x:Str)(lo af:Option Int):Str:=⟨(iY x.cps.toList lo af).toArray⟩
theorem Qb(lo af:Option Int)(n:Nat):Yl lo af 1 n=(Wk (d0.ep n n af-d0.ep n 0 lo)).map (d0.ep n 0 lo+·):=by
 rw[←sliceRange_one];unfold Yl;simp only[show(1:Int)>0 by decide,if_true]
 congr 1
 ·cases lo with
  |none=>rfl
  |some i=>
   show max 0 (min (if i<0 then i+(n:Int)else i) (n:Int))=((if i<0 then(i+(n:Int)).toNat else min i.toNat n:Nat):Int)
   split<;>omega
 ·cases af with
  |none=>rfl
  |some i=>
   show max 0 (min (if i<0 then i+(n:Int)else i) (n:Int))=((if i<0 then(i+(n:Int)).toNat else min i.toNat n:Nat):Int)
   split<;>omega
theorem EU(n:Nat)(v:Option Int){d:Nat}(hd:d≤n):d0.ep n d v≤n:=by
 cases v with
 |none=>exact hd
 |some i=>
  show(if i<0 then(i+(n:Int)).toNat else min i.toNat n)≤n
  split<;>omega
theorem P0(x:Str)(lo af:Option Int):Z_ x lo af=mJ x lo af:=by
 have ak:x.cps.toList.length=x.length:=by simp[Str.length]
 unfold Z_ mJ iY;rw[Qb,ak]
 split
 ·rename_i h;have h:d0.ep x.length x.length af-d0.ep x.length 0 lo=x.length:=by simpa using h
  have h1:=EU x.length af (VG _);have h2:d0.ep x.length 0 lo=0∨x.length=0:=by omega
  have e:(x.cps.toList.drop (d0.ep x.length 0 lo)).take (d0.ep x.length x.length af-d0.ep x.length 0 lo)=x.cps.toList:=by
   rw[h];rcases h2 with z|z
   ·rw[z,List.drop_zero,XS (by omega)]
   ·have fz:x.cps.toList=[]:=List.length_eq_zero_iff.mp (by omega);rw[fz];simp
  rw[e]
 ·rw[pick_run]
noncomputable def EO:V→Option Int→Option Int→ae→cD→Prop:=fun x lo af H Q=>∃z,x=.str z∧z.length≤VP∧Q (.str (mJ z lo af)) H
theorem Ei{v:Vw}{o:Option Int}(h:IsPart v o):∃l:Option (Int×Tok),v=partValue l∧l.map (·.1)=o:=by
 cases h with
 |none=>exact⟨none,rfl,rfl⟩
 |int i t=>exact⟨some (i,t),rfl,rfl⟩
theorem PX:mC X EO:=by
 intro pins s σ H x v ji jj lo af cb Q I bu hs pl pu h;obtain⟨z,rfl,bG,q⟩:=h;obtain⟨t,rfl⟩:=bu;obtain⟨l,rfl,el⟩:=Ei pl;obtain⟨u,rfl,vF⟩:=Ei pu;refine⟨"str",_,F.slot_str_getitem.lookup,typeIs_str s z t,wpAny_getItem_str_slice (l:=l) (u:=u) (st:=none) ?_ rfl ?_⟩
 ·obtain⟨o,h1,h2,h3⟩:=hs;exact⟨o,h1,h2,h3⟩
 ·have e:Z_ z lo af=mJ z lo af:=P0 z lo af;have fin:∀t' k,eS X pins σ Q (.str (Z_ z lo af) t') { s with toks:=k }:=fun t' k=>⟨.str (mJ z lo af),H,I.tok k,⟨t',by rw[e]⟩,q⟩;unfold Z_ at fin;subst el vF;exact post_val_or_str ⟨V7 (Txt.slice_le z _ _) bG,fin⟩
abbrev ll:=ar→R (Option Int)
def oB:ll:=fun _=>.ok none
def intD:D→R (Option Int)
 |.int i=>.ok (some i)
 |_=>.bad
def m8(m:aJ):ll:=fun ρ=>(m ρ).bind intD
noncomputable def K9(F:bj)(G H:ae)(σ :St)(ρ:ar)(Q:Option Int→ae→Prop):R (Option Int)→Prop
 |.ok o=>∀H' G',Rel F G' H' σ ρ→b3 G H G' H'→Q o H'
 |.exc c=>i7 F c
 |.bad=>False
def yM(F:bj)(m:ll):bL:=fun σ H Q=>∃G ρ,Rel F G H σ ρ∧K9 F G H σ ρ Q (m ρ)
noncomputable def lU(f:D→Option Int→Option Int→R D)(m:aJ)(lo af:ll):aJ:=fun ρ=>(m ρ).bind fun d=>(lo ρ).bind fun l=>(af ρ).bind fun h=>f d l h
noncomputable def l9(d:D)(l h:Option Int):R D:=match d with
 |.lst xs=>.ok (.lst (iY xs l h))
 |.cP xs=>.ok (.lst (iY xs l h))
 |.str x=>if x.length≤1000000 then .ok (.str (mJ x l h))else .bad
 |_=>.bad
theorem aO.cut{K:PySem.W.Frag}{G:ae}{ds:List D}{xs:List V}(q:aO K G ds xs)(l h:Option Int):aO K G (iY ds l h) (n2 xs l h):=by unfold iY n2;rw[q.length];exact(q.drop _).take _
theorem Kr(aX:F.K=X.K){lo af:ll}:eE (cJ F (lU l9 m lo af)) (FL (fun x lo af H Q=>EN X.K x lo af H Q∨EO x lo af H Q) (cJ F m) (yM F lo) (yM F af)):=by
 rintro σ H Q ⟨G,ρ,r,h⟩;unfold lU at h;refine⟨G,ρ,r,?_⟩;cases ax:m ρ with
 |bad=>rw[ax]at h;exact h.elim
 |exc c=>rw[ax]at h;exact h
 |ok d=>
  rw[ax,R.bI]at h;intro x H1 aL au s1 bV;refine⟨aL,ρ,au,?_⟩;cases el:lo ρ with
  |bad=>rw[el]at h;exact h.elim
  |exc c=>rw[el]at h;exact h
  |ok l=>
   rw[el,R.bI]at h;intro aM cC bl s2;refine⟨cC,ρ,bl,?_⟩;cases vx:af ρ with
   |bad=>rw[vx]at h;exact h.elim
   |exc c=>rw[vx]at h;exact h
   |ok u=>
    rw[vx,R.bI]at h;intro cy eN dp s3;have up:=s1.trans (s2.trans s3);have nW:=(bV.mono s2.g).mono s3.g;cases d with
    |lst ds=>simp only[At]at nW;obtain⟨q,xs,rfl,aS,al⟩:=nW;refine .inl ⟨q,xs,rfl,bQ.of (dp.aG.sub _ _ aS),fun bD aK=>?_⟩;refine h (.ref bD) _ _ (dp.lay aK) (up.trans (b3.lay dp.aG.sub aK)) ?_;simp only[At];exact⟨bD,_,rfl,dI,(al.cut l u).mono (Sub.upd (dp.aG.sub.gone aK))⟩
    |cP ds=>simp only[At]at nW;obtain⟨q,xs,rfl,aS,al⟩:=nW;have lK:=aS;rw[aX]at lK;refine .inl ⟨q,xs,rfl,bQ.mono dp.aG.sub lK,fun bD aK=>?_⟩;refine h (.ref bD) _ _ (dp.lay aK) (up.trans (b3.lay dp.aG.sub aK)) ?_;simp only[At];exact⟨bD,_,rfl,dI,(al.cut l u).mono (Sub.upd (dp.aG.sub.gone aK))⟩
    |str z=>
     simp only[At]at nW;have h:hQ F G H σ ρ Q (if z.length≤1000000 then .ok (.str (mJ z l u))else .bad):=h
     split at h
     ·rename_i bG;exact .inr ⟨z,nW,V7 bG (by decide),h _ cy eN dp up (by simp only[At])⟩
     ·exact h.elim
    |_=>exact h.elim
def T6:List D→R D
 |[.int i]=>if i.natAbs.log2<1920 then .ok (.str (toString i))else .bad
 |_=>.bad
noncomputable def t9:List D→R D
 |[.int i]=>.ok (.int i)
 |[.str x]=>if x.length≤640 then match intText? x with|some i=>.ok (.int i)|none=>.bad else .bad
 |_=>.bad
theorem Hn:h_ X (.type "int") (fun xs H Q=>(∃i,xs=[.int i]∧Q (.int i) H)∨∃x i,xs=[.str x]∧x.length≤640∧intText? x=some i∧Q (.int i) H):=by
 intro pins s σ H xs us Q I r h;rcases h with⟨i,rfl,q⟩|⟨x,i,rfl,ak,af,q⟩
 ·obtain⟨u,rfl,t,rfl⟩:=vals1 r;exact call_int_int ⟨.int i,H,I,⟨_,rfl⟩,q⟩
 ·obtain⟨u,rfl,t,rfl⟩:=vals1 r;exact PySem.W.KIN.call_text af ak ⟨.int i,H,I.tok _,⟨_,rfl⟩,q⟩
theorem Nm:mq F (fun xs H Q=>(∃i,xs=[.int i]∧Q (.int i) H)∨∃x i,xs=[.str x]∧x.length≤640∧intText? x=some i∧Q (.int i) H) t9:=by
 intro σ ρ G H xs ds Q r al k;unfold t9 at k
 split at k
 ·rename_i i;exact .inl ⟨i,al.ints1,k _ H G r (b3.refl _ _) (by simp only[At])⟩
 ·rename_i x
  split at k
  ·rename_i ak
   split at k
   ·rename_i i af;obtain⟨v,rfl,bc⟩:=al.one;simp only[At]at bc;subst bc;exact .inr ⟨x,i,rfl,ak,af,k _ H G r (b3.refl _ _) (by simp only[At])⟩
   ·exact k.elim
  ·exact k.elim
 ·exact k.elim
end
end bo
namespace aY
open PySem PySem.Spec
section
variable{prog:VR}{w:V9}{A:V0}{E:Vw→Vx→Prop}{s:Vx}
theorem MV{it t:VD}{i:Nat}{items:Array Vw}{x:Vw}{Q:Vw→Vx→Prop}(hit:s.heap.IsTupleIter it t i)(bH:s.heap.IsTuple t items)(av:items[i]?=some x)(fj:∀h',h'.IsTupleIter it t (i+1)→Wm it s.heap h'→Q x { s with heap:=h' }):VL (VT prog w) A (Wa (.ref it)) Q E s:=by
 obtain⟨o,aB,aq,hd⟩:=id hit;obtain⟨ol,oe,_,nl,oa⟩:=bH;unfold Wa
 refine Vv (WT (name:=X5 "__next__") hit.typeIs W2
  (Xl W2 hit.typeIs Ym ?_ (Yh _)))
 show VL _ _ (field (.ref it) 0>>=_) _ _ s;refine Vv (WA aB hd (x:=.ref t) rfl ?_);show VL _ _ (if(V2 t==Wr)=true then _ else _) _ _ s;rw[if_neg (show¬((V2 t==Wr)=true)from VZ)];show VL _ _ (field (.ref it) 1>>=_) _ _ s;refine Vv (WA aB hd (x:=.int i 0) rfl ?_);show VL _ _ (seqItems? (.ref t)>>=_) _ _ s;refine Vv (WN oe oa ?_);simp only[Xc,av];refine Vv (YA aB hd (by simp) (VB ⟨x,rfl,VB (fj _ ?_ (XG ..))⟩));exact⟨_,X6 _ aB (Zp (Obj.data_mapFields hd _)),(Obj.cls_mapFields ..).trans aq,by
  rw[Obj.data_mapFields hd];simp[rawInt]⟩
theorem MU{it t:VD}{i:Nat}{items:Array Vw}{Q:Vw→Vx→Prop}(bF:A.handled=none)(hit:s.heap.IsTupleIter it t i)(bH:s.heap.IsTuple t items)(av:items[i]?=none)(gx:∀h' e,Heap.ExtBut it s.heap h'→(∃o,h'.get? e=some o∧o.cls=.type "StopIteration")→E (.ref e) { s with heap:=h' }):VL (VT prog w) A (Wa (.ref it)) Q E s:=by
 obtain⟨o,aB,aq,hd⟩:=id hit;obtain⟨ol,oe,_,nl,oa⟩:=bH;unfold Wa
 refine Vv (WT (name:=X5 "__next__") hit.typeIs W2
  (Xl W2 hit.typeIs Ym ?_ (Yh _)))
 show VL _ _ (field (.ref it) 0>>=_) _ _ s;refine Vv (WA aB hd (x:=.ref t) rfl ?_);show VL _ _ (if(V2 t==Wr)=true then _ else _) _ _ s;rw[if_neg (show¬((V2 t==Wr)=true)from VZ)];show VL _ _ (field (.ref it) 1>>=_) _ _ s;refine Vv (WA aB hd (x:=.int i 0) rfl ?_);show VL _ _ (seqItems? (.ref t)>>=_) _ _ s;refine Vv (WN oe oa ?_);simp only[Xc,av];refine Vv (wpAny_rule (Vv (YA aB hd (by simp) ?_)));show VL _ _ (newExc (.type "StopIteration") []>>=_) _ _ _;refine Vv ?_;simp only[newExc,newTuple];refine Vv (XY ?_ (by size_fits));refine Vv (m:=firstArgMember _ _) (wpAny_of_eq (a:=Wr) (by first|rfl|(simp only[firstArgMember];rfl)) ?_);refine XY ?_ (by size_fits);simp only[raiseNew];refine Vv (wpAny_handled ?_)
 first|rw[show A.in1.handled=none from bF]|rw[bF]
 refine Vv (VB (wpAny_throw ?_));exact gx _ _ (((XG ..).extBut.push _).push _) ⟨_,VN _ rfl,rfl⟩
theorem A2(bF:A.handled=none)(it l:VD)(lJ:l≠it)(items:Array Vw) :
  Draws prog w A it [it,l] items.size (fun i v=>items[i]?=some v) (fun i h=>h.IsTupleIter it l i∧h.IsTuple l items) where
 live:=fun _ _ st=>let⟨o,aB,_⟩:=st.1;⟨o,aB⟩
 frame:=fun _ _ _ st aH=>⟨st.1.at fun o e=>aH it (by simp) o e,st.2.at fun o e=>aH l (by simp) o e⟩
 item:=fun i s Q E af st fj=>by refine MV st.1 st.2 (x:=items[i]) (by simp[af]) fun h' Jg g4=>?_;exact fj _ h' s.toks (by simp[af]) ⟨Jg,st.2.extBut g4.extBut lJ⟩ g4
 done:=fun s Q E st gx=>MU bF st.1 st.2 (by simp) gx
structure nT(z TI bL bY bM:VD)(f1 f2:List VD):Prop where
 TIz:TI≠z
 TOz:bL≠z
 TITO:TI≠bL
 TIi1:TI≠bY
 TIi2:TI≠bM
 TOi1:bL≠bY
 TOi2:bL≠bM
 i1z:bY≠z
 i2z:bM≠z
 i12:bY≠bM
 vH:z∉f1
 Bg:bL∉f1
 Im:bM∉f1
 vJ:z∉f2
 vI:bL∉f2
 Bh:bY∉f2
theorem i1{aC:List VD}{n:Nat}{P:Nat→Vw→Prop}{St:Nat→Wv→Prop}{it b:VD}{h h':Wv}{i:Nat}(D:Draws prog w A it aC n P St)(st:St i h)(hs:Wm b h h')(J:b∉aC):St i h':=
 D.frame i h h' st fun c aq o e=>hs.extBut c o (fun z=>J (z▸aq)) e
theorem Sd {z TI bL bY bM:VD} {f1 f2:List VD} {c_ cT i:Nat} {ku kv:Nat→Vw→Prop} {hk hl:Nat→Wv→Prop} {a b:Vw} {Q:Vw→Vx→Prop} (gr:Draws prog w A bY f1 c_ ku hk) (f5:Draws prog w A bM f2 cT kv hl) (ap:nT z TI bL bY bM f1 f2)(bG:ZY s.heap z TI bL .none) (gL:Xy s.heap TI (.ref bY) (.ref bM)) (gZ:Xy s.heap bL a b) (h1:hk i s.heap) (h2:hl i s.heap) (eI:i<c_) (bD:i<cT)(fj:∀x y h' cK,ku i x→kv i y→ZY h' z TI bL (rawInt s.heap.objs.size)→Xy h' bL x y→hk (i+1) h'→hl (i+1) h'→Xy h' s.heap.objs.size x y→h'.objs.size=s.heap.objs.size+1→
    (∀c o,c≠z→c≠bL→c≠bY→c≠bM→s.heap.get? c=some o→h'.get? c=some o)→Q (.ref s.heap.objs.size) { s with heap:=h',toks:=cK }) :
  VL (VT prog w) A (aal.«zip.__next__» ⟨[.ref z],[]⟩) (fun fin s'=>∃v,fin=.done (.ret v)∧Q v s') E s:=by
 show VL _ _ (field (.ref z) 2>>=_) _ _ _;refine Vv (WA bG rfl (x:=.bool false) rfl ?_);show VL _ _ (field (.ref z) 3>>=_) _ _ _;refine Vv (WA bG rfl (x:=.ref TI) rfl ?_);refine Vv (WN gL rfl ?_);show VL _ _ (WB (.ref z)>>=_) _ _ _;refine Vv ?_;unfold WB;refine Vv (WA bG rfl (x:=.none) rfl (VB ?_));simp only[if_true];refine Vv (wpAny_rule ?_);refine Vv (WA bG rfl (x:=.ref bL) rfl ?_);refine Vv (W7 bG (by simp) fun gM lO jy=>?_);replace lO:ZY gM z TI bL .ellipsis:=lO;refine Vv ?_;simp only[List.zipIdx_cons,List.zipIdx_nil,Zb,List.forIn_nil];refine Vv (Vv (YR ?_));show VL _ _ (Wa (.ref bY)>>=_) _ _ _;refine Vv (gr.item i _ _ _ eI (i1 gr h1 jy ap.vH) fun x jz FX av Fq iC=>VB ?_);have qq:Xy jz bL a b:=iC.extBut _ _ ap.TOi1 (jy.extBut _ _ ap.TOz gZ);refine Vv (WN qq rfl ?_);refine Vv (Yc qq fun kc sF i4=>?_);replace sF:Xy kc bL x b:=sF;refine Vv (wpAny_letGo (VB ?_));refine Vv (Vv (YR ?_));show VL _ _ (Wa (.ref bM)>>=_) _ _ _;have P7:hl i kc:=i1 f5 (i1 f5 (i1 f5 h2 jy ap.vJ) iC ap.Bh) i4 ap.vI;refine Vv (f5.item i _ _ _ bD P7 fun y oj Ue bO Qc lM=>VB ?_);have Cg:Xy oj bL x b:=lM.extBut _ _ ap.TOi2 sF;refine Vv (WN Cg rfl ?_);refine Vv (Yc Cg fun fB sG lN=>?_);replace sG:Xy fB bL x y:=sG;refine Vv (wpAny_letGo (VB (VB ?_)));refine Vv (WN sG rfl ?_);refine Vv (wpAny_newTuple ?_);have hsz:fB.objs.size=s.heap.objs.size:=by rw[lN.1,lM.1,i4.1,iC.1,jy.1]
 have Cy:ZY fB z TI bL .ellipsis:=lN.extBut _ _ ap.TOz.symm (lM.extBut _ _ ap.i2z.symm (i4.extBut _ _ ap.TOz.symm (iC.extBut _ _ ap.i1z.symm lO)));have Jm:∀c o,c≠z→c≠bL→c≠bY→c≠bM→s.heap.get? c=some o→fB.get? c=some o:=fun c o bE c9 eY ip e=>
  lN.extBut _ _ c9 (lM.extBut _ _ ip (i4.extBut _ _ c9 (iC.extBut _ _ eY (jy.extBut _ _ bE e))))
 have P6:hk (i+1) fB:=i1 gr (i1 gr (i1 gr Fq i4 ap.Bg) lM ap.Im) lN ap.Bg;have P8:hl (i+1) fB:=i1 f5 Qc lN ap.vI;have Cv:z<fB.objs.size:=VH Cy;show VL _ _ (Xz (.ref z) (.ref fB.objs.size)>>=_) _ _ _;refine Vv ?_;unfold Xz;have JU:ZY (fB.push { cls:=.type "tuple",data:=.seq #[x,y] }) z TI bL .ellipsis:=Vy _ Cy;refine Vv (W7 JU (by simp) fun JX wB wu=>?_);replace wB:ZY JX z TI bL (rawInt fB.objs.size):=wB;refine W7 wB (by simp) fun qE sQ wx=>?_;replace sQ:ZY qE z TI bL (rawInt fB.objs.size):=sQ;have up:∀c o,c≠z→fB.get? c=some o→qE.get? c=some o:=fun c o bE e=>wx.extBut _ _ bE (wu.extBut _ _ bE (Vy _ e));have Ci:Xy qE fB.objs.size x y:=wx.extBut _ _ (WV Cv) (wu.extBut _ _ (WV Cv) (VN _ rfl));have Cu:qE.objs.size=fB.objs.size+1:=by rw[wx.1,wu.1,V_]
 rw[hsz]at sQ Ci Cu;refine VB ⟨_,rfl,?_⟩;show Q (.ref fB.objs.size) _;rw[hsz];exact fj x y qE _ av bO sQ (up _ _ ap.TOz sG) (gr.frame _ _ _ P6 fun c aq o e=>up c o (fun q=>ap.vH (q▸aq)) e) (f5.frame _ _ _ P8 fun c aq o e=>up c o (fun q=>ap.vJ (q▸aq)) e) Ci Cu fun c o bE c9 eY ip e=>up c o bE (Jm c o bE c9 eY ip e)
theorem Sb{z TI bL bY bM:VD}{f1 f2:List VD}{c_ cT i:Nat}{ku kv:Nat→Vw→Prop}{hk hl:Nat→Wv→Prop}{a b:Vw}{Q:Fin→Vx→Prop}(gr:Draws prog w A bY f1 c_ ku hk)(f5:Draws prog w A bM f2 cT kv hl)(ap:nT z TI bL bY bM f1 f2)(bG:ZY s.heap z TI bL .none)(gL:Xy s.heap TI (.ref bY) (.ref bM))(gZ:Xy s.heap bL a b)(h1:hk i s.heap)(h2:hl i s.heap)(wc:i=c_∨(i<c_∧i=cT))(gx:∀h' e cK,(∀c o,c≠z→c≠bL→c≠bY→c≠bM→s.heap.get? c=some o→h'.get? c=some o)→(∃o,h'.get? e=some o∧o.cls=.type "StopIteration")→E (.ref e) { s with heap:=h',toks:=cK }) :
  VL (VT prog w) A (aal.«zip.__next__» ⟨[.ref z],[]⟩) Q E s:=by
 show VL _ _ (field (.ref z) 2>>=_) _ _ _;refine Vv (WA bG rfl (x:=.bool false) rfl ?_);show VL _ _ (field (.ref z) 3>>=_) _ _ _;refine Vv (WA bG rfl (x:=.ref TI) rfl ?_);refine Vv (WN gL rfl ?_);show VL _ _ (WB (.ref z)>>=_) _ _ _;refine Vv ?_;unfold WB;refine Vv (WA bG rfl (x:=.none) rfl (VB ?_));simp only[if_true];refine Vv (wpAny_rule ?_);refine Vv (WA bG rfl (x:=.ref bL) rfl ?_);refine Vv (W7 bG (by simp) fun gM lO jy=>?_);replace lO:ZY gM z TI bL .ellipsis:=lO;refine Vv ?_;simp only[List.zipIdx_cons,List.zipIdx_nil,Zb,List.forIn_nil];refine Vv (Vv (YR ?_));show VL _ _ (Wa (.ref bY)>>=_) _ _ _;have Fl:hk i gM:=i1 gr h1 jy ap.vH;rcases wc with ao|⟨eI,aA⟩
 ·subst ao;refine Vv (gr.done _ _ _ Fl fun jz e iC he=>?_);obtain⟨kh,mX,qt⟩:=he;have Cw:ZY jz z TI bL .ellipsis:=iC _ _ ap.i1z.symm lO;have wd:e≠z:=fun x=>by subst x;rw[Cw]at mX;cases mX;simp at qt
  refine W7 Cw (by simp) fun kc _ i4=>gx kc e s.toks (fun c o bE _ eY _ x=>i4.extBut _ _ bE (iC _ _ eY (jy.extBut _ _ bE x))) ⟨kh,i4.extBut _ _ wd mX,qt⟩
 ·subst aA;refine Vv (gr.item _ _ _ _ eI Fl fun x jz FX av Fq iC=>VB ?_);have qq:Xy jz bL a b:=iC.extBut _ _ ap.TOi1 (jy.extBut _ _ ap.TOz gZ);refine Vv (WN qq rfl ?_);refine Vv (Yc qq fun kc sF i4=>?_);refine Vv (wpAny_letGo (VB ?_));refine Vv (Vv (YR ?_));show VL _ _ (Wa (.ref bM)>>=_) _ _ _;refine Vv (f5.done _ _ _ (i1 f5 (i1 f5 (i1 f5 h2 jy ap.vJ) iC ap.Bh) i4 ap.vI) fun oj e lM he=>?_);obtain⟨kh,mX,qt⟩:=he;have Cx:ZY oj z TI bL .ellipsis:=lM _ _ ap.i2z.symm (i4.extBut _ _ ap.TOz.symm (iC.extBut _ _ ap.i1z.symm lO));have wd:e≠z:=fun x=>by subst x;rw[Cx]at mX;cases mX;simp at qt
  refine W7 Cx (by simp) fun fB _ lN=>gx fB e FX (fun c o bE c9 eY ip x=>lN.extBut _ _ bE (lM _ _ ip (i4.extBut _ _ c9 (iC.extBut _ _ eY (jy.extBut _ _ bE x))))) ⟨kh,lN.extBut _ _ wd mX,qt⟩
theorem OL {z TI bL bY bM:VD} {f1 f2:List VD} {c_ cT i:Nat} {ku kv:Nat→Vw→Prop} {hk hl:Nat→Wv→Prop} {a b:Vw} {Q:Option Vw→Vx→Prop} (gr:Draws prog w A.in1 bY f1 c_ ku hk) (f5:Draws prog w A.in1 bM f2 cT kv hl) (ap:nT z TI bL bY bM f1 f2)(bG:ZY s.heap z TI bL .none) (gL:Xy s.heap TI (.ref bY) (.ref bM)) (gZ:Xy s.heap bL a b) (h1:hk i s.heap) (h2:hl i s.heap) (eI:i<c_) (bD:i<cT)(fj:∀x y h' cK,ku i x→kv i y→ZY h' z TI bL (rawInt s.heap.objs.size)→Xy h' bL x y→hk (i+1) h'→hl (i+1) h'→Xy h' s.heap.objs.size x y→h'.objs.size=s.heap.objs.size+1→
    (∀c o,c≠z→c≠bL→c≠bY→c≠bM→s.heap.get? c=some o→h'.get? c=some o)→Q (some (.ref s.heap.objs.size)) { s with heap:=h',toks:=cK }) :
  VL (VT prog w) A (aam (.ref z)) Q E s:=by
 have gf:s.TypeIs (.ref z) "zip":=⟨_,bG,rfl⟩;unfold aam
 exact Vv (YS (WT (name:=X5 "__next__") gf Yn
  (Xl Yn gf F.entry_zip_next
    (Sd gr f5 ap bG gL gZ h1 h2 eI bD fun x y h' cK a1 a2 eX gV ik hK u3 pL GW=>VB (fj x y h' cK a1 a2 eX gV ik hK u3 pL GW)) (F.args_zip_next_1 _))))
theorem OK{z TI bL bY bM:VD}{f1 f2:List VD}{c_ cT i:Nat}{ku kv:Nat→Vw→Prop}{hk hl:Nat→Wv→Prop}{a b:Vw}{Q:Option Vw→Vx→Prop}(gr:Draws prog w A.in1 bY f1 c_ ku hk)(f5:Draws prog w A.in1 bM f2 cT kv hl)(ap:nT z TI bL bY bM f1 f2)(bG:ZY s.heap z TI bL .none)(gL:Xy s.heap TI (.ref bY) (.ref bM))(gZ:Xy s.heap bL a b)(h1:hk i s.heap)(h2:hl i s.heap)(wc:i=c_∨(i<c_∧i=cT))(fj:∀h' cK,(∀c o,c≠z→c≠bL→c≠bY→c≠bM→s.heap.get? c=some o→h'.get? c=some o)→Q none { s with heap:=h',toks:=cK }):VL (VT prog w) A (aam (.ref z)) Q E s:=by
 have gf:s.TypeIs (.ref z) "zip":=⟨_,bG,rfl⟩;unfold aam
 refine Vv (YS (WT (name:=X5 "__next__") gf Yn
  (Xl Yn gf F.entry_zip_next (Sb gr f5 ap bG gL gZ h1 h2 wc fun h' e cK aH he=>?_) (F.args_zip_next_1 _))))
 obtain⟨o,aB,aq⟩:=he;refine Vv (wpAny_isInstance (T:="StopIteration") (b:=true) ⟨o,aB,aq⟩ isSubtype_stop ?_);exact VB (fj _ _ aH)
end
theorem Inv.y2{X:aD}{pins:List (VD×Obj)}{σ :St}{H:ae}{s:Vx}{h':Wv}{t':Nat}{ch:List VD}(I:Inv X pins σ H s)(k:∀b o,b∉ch→s.heap.get? b=some o→h'.get? b=some o)(hf:∀b∈ch,ft X pins H b):Inv X pins σ H { s with heap:=h',toks:=t' }:=by
 have lY:∀b u,H b=some u→b∉ch:=fun b u e z=>by rw[(hf b z).1]at e;cases e
 refine I.step (g':=s.gens) (d':=s.drawn) (ch:=ch) (fun b J=>?_) (fun b o _ _ aq e _=>k b o aq e) (fun b o _ _ aq e _=>⟨o.slots,k b o aq e⟩) (fun _ _ _ _ n=>n)
  (fun b o aq e=>⟨o,k b o aq e⟩) (fun _ _ e=>e) (fun _ _ _ e=>e) (fun b aP e=>⟨#[],by rw[e];simp⟩) (fun m hm=>?_) (fun b u e=>?_) I.bare
 ·obtain⟨_,f1,_,d9,f4,fV⟩:=hf b J;exact⟨d9,f1,f4,fV⟩
 ·obtain⟨o,es,b7,aB,r⟩:=hm;exact⟨o,es,b7,k _ o (fun z=>(hf _ z).2.1 rfl) aB,r⟩
 ·refine(I.bw b u e).jN (fun c v aq q=>k c v ?_ q) (fun _ q=>q) fun _ _ q=>q;rcases aq with z|z
  ·rw[z];exact lY b u e
  ·exact lY c _ z
theorem Inv.QY{X:aD}{pins:List (VD×Obj)}{σ :St}{H:ae}{s:Vx}{h':Wv}{t':Nat}{ch:List VD}{T:VD}{xs:List V}{its:List Vw}(I:Inv X pins σ H s)(k:∀b o,b∉ch→s.heap.get? b=some o→h'.get? b=some o)(hf:∀b∈ch,ft X pins H b)(gf:s.heap.objs.size≤T)(bH:aaa h' T its.toArray)(b_:Vals xs its)(bG:xs.length≤VP):Inv X pins σ (upd H T (.tup xs)) { s with heap:=h',toks:=t' }:=by
 have lY:∀b u,H b=some u→b∉ch:=fun b u e z=>by rw[(hf b z).1]at e;cases e
 have aK:H T=none:=I.bw.fresh gf;have neT:∀b o,s.heap.get? b=some o→b≠T:=fun b o e=>VV (VJ (VH e) gf)
 refine I.step (g':=s.gens) (d':=s.drawn) (ch:=ch) (fun b J=>?_) (fun b o _ _ aq e _=>k b o aq e) (fun b o _ _ aq e _=>⟨o.slots,k b o aq e⟩) (fun b o _ e n=>by rw[cY (neT b o e)];exact n)
  (fun b o aq e=>⟨o,k b o aq e⟩) (fun b ys e=>by rw[cY (g6 e aK)];exact e) (fun b _ _ e=>by rw[cY (g6 e aK)];exact e) (fun b aP e=>⟨#[],by rw[cY (g6 e aK),e];simp⟩) (fun m hm=>?_) (fun b u e=>?_) I.bare
 ·obtain⟨_,f1,_,d9,f4,fV⟩:=hf b J;exact⟨d9,f1,f4,fV⟩
 ·obtain⟨o,es,b7,aB,r⟩:=hm;exact⟨o,es,b7,k _ o (fun z=>(hf _ z).2.1 rfl) aB,r⟩
 ·by_cases J:b=T
  ·subst J;rw[dI]at e;cases e;exact⟨bG,its,b_,bH⟩
  ·rw[cY J]at e;refine(I.bw b u e).jN (fun c v aq q=>k c v ?_ q) (fun c q=>by rw[cY (g6 q aK)];exact q) fun c ys q=>by rw[cY (g6 q aK)];exact q
   rcases aq with z|z
   ·rw[z];exact lY b u e
   ·exact lY c _ z
noncomputable def uV(x:Str):It:=⟨fun i _=>i<x.cps.size,fun i H v H'=>H'=H∧∃c,x.cps[i]?=some c∧v=.str ⟨#[c]⟩,fun i _=>i=x.cps.size⟩
theorem Gg{prog:VR}{w:V9}{A:V0}(bF:A.handled=none)(I:VD)(x:Str)(t:Tok):Walks prog w A I [I] [I] x.cps.size (SignAt x) (fun i h=>h.IsStrIter I (Yo x) x t i):=by
 unfold Yo;cases ah:x.cps.all (· <128)
 ·rw[if_neg VZ];exact Walks.strWide bF I x t
 ·rw[if_pos rfl];exact Walks.strAscii bF I x t
theorem Qa(x:Str):["enumerate","zip","dict_itemiterator","dict_reverseitemiterator","odict_iterator","itertools.zip_longest","itertools.pairwise"].contains (Yo x)=false:=by
 unfold Yo
 split<;>decide
theorem Q1{P:VR}{w:V9}{K:PySem.W.Frag}{bz:V3}(it:VD)(x:Str)(t:Tok):Turn P w K bz (uV x) [it] it (fun i h=>h.IsStrIter it (Yo x) x t i) where
 mem:=by simp
 obj:=fun i h st b J=>by
  have e:b=it:=by simpa using J
  subst e;obtain⟨o,e,c,d⟩:=st;exact⟨o,e,fun v z=>by rw[d]at z;cases z⟩
 keep:=fun i h h' st k=>by obtain⟨o,e,r⟩:=st;exact⟨o,k it (by simp) o e,r⟩
 item:=by intro X dW hw aX aq i pins s σ H E I hf st aF;subst dW hw aX;have W:=Gg (prog:=X.prog) (w:=X.w) (A:=X.A) (I.ok.hd aq) it x t;refine W.item i s _ _ aF st fun v h' cK bS jM df=>?_;obtain⟨c,u,hN,rfl⟩:=bS;have aW:Inv X pins σ H { s with heap:=h',toks:=cK }:=I.y2 (ch:=[it]) df hf;obtain⟨o,e,bE,d1⟩:=id jM;exact⟨_,rfl,sA (s:={ s with heap:=h',toks:=cK }) e bE d1 (Qa x) ⟨.str ⟨#[c]⟩,H,aW,⟨u,rfl⟩,⟨rfl,c,hN,rfl⟩,jM,fun b J=>(hf b J).1⟩⟩
 done:=by intro X dW hw aX aq i pins s σ H E I hf st aF;subst dW hw aX;have W:=Gg (prog:=X.prog) (w:=X.w) (A:=X.A) (I.ok.hd aq) it x t;have af:i=x.cps.size:=aF;subst af;exact W.done s _ _ st fun h' cK df=>⟨rfl,I.y2 (ch:=[it]) df hf⟩
 self:=fun A i s Q E st h=>by
  unfold Yo at st;cases ah:x.cps.all (· <128)
  ·rw[ah,if_neg VZ]at st;exact wpAny_pyIter_striter_wide st h
  ·rw[ah,if_pos rfl]at st;exact wpAny_pyIter_striter_ascii st h
section
variable{X:aD}{bz:V3}
def CB(fO:TE):TI:=fun σ H R=>fO σ H fun v H1=>∃x,v=.str x∧R (uV x) H1
theorem N_{l:V3}{fO:TE}(ak:a3 X l fO):fG X bz l (CB fO):=by
 intro pins s σ H R I h;refine bA (ak pins s σ H _ I h) fun v s1⟨y,H1,aW,au,aQ⟩=>?_;obtain⟨x,e,q⟩:=aQ;subst e;obtain⟨t,rfl⟩:=au;refine wpAny_pyIter_strU ?_;refine⟨s1.heap.objs.size,[s1.heap.objs.size],_,_,H1,rfl,aW.kept (t':=s1.toks) fun b o e=>Vy _ e,Q1 _ x t,⟨_,VN _ rfl,rfl,rfl⟩,fun b J=>?_,q⟩;have e:b=s1.heap.objs.size:=by simpa using J
 subst e;exact aW.mQ (VG _) (aW.bw.fresh (VG _))
end
section
variable{X:aD}{elts:List V3}{df:Nat}{o7:Pos}
end
structure u2(z TI bL bY bM:VD):Prop where
 TIz:TI≠z
 TOz:bL≠z
 TITO:TI≠bL
 TIi1:TI≠bY
 TIi2:TI≠bM
 TOi1:bL≠bY
 TOi2:bL≠bM
 i1z:bY≠z
 i2z:bM≠z
 i12:bY≠bM
section
variable{X:aD}{elts:List V3}{df:Nat}{o7:Pos}
theorem Se(n:Nat):u2 (n+4) (n+2) (n+3) n (n+1):=
 ⟨(show n+2≠n+4 from VV (show(n+2:Nat)<n+4 by omega)),
  (show n+3≠n+4 from VV (show(n+3:Nat)<n+4 by omega)),
  (show n+2≠n+3 from VV (show(n+2:Nat)<n+3 by omega)),
  (show n+2≠n from WV (show(n:Nat)<n+2 by omega)),
  (show n+2≠n+1 from WV (show(n+1:Nat)<n+2 by omega)),
  (show n+3≠n from WV (show(n:Nat)<n+3 by omega)),
  (show n+3≠n+1 from WV (show(n+1:Nat)<n+3 by omega)),
  (show n≠n+4 from VV (show(n:Nat)<n+4 by omega)),
  (show n+1≠n+4 from VV (show(n+1:Nat)<n+4 by omega)),
  (show n≠n+1 from VV (show(n:Nat)<n+1 by omega))⟩
end
end aY
namespace bo
open PySem PySem.Spec aY
section
variable{X:aD}{F:bj}{e a b c bz iter elt:V3}{es:List V3}{pos p:Pos}{m n:aJ}{ma:aZ}
def oY(c:Nat):D:=.str ⟨#[c]⟩
def yz:D→R (List D)
 |.str x=>.ok (x.cps.toList.map oY)
 |_=>.bad
theorem KR{K:PySem.W.Frag}{G:ae}(x:Str):jY K (uV x) (x.cps.toList.map oY) G where
 go:=fun i H s af=>by
  have h:i<x.cps.size:=by simpa using af
  exact h
 hX:=fun i H v H' s af y=>by obtain⟨e,c,aq,rfl⟩:=y;refine⟨oY c,?_,.inl ⟨e,by unfold oY;simp only[At]⟩⟩;rw[VW,Array.getElem?_toList,aq];rfl
 stop:=fun H s=>by
  have h:(x.cps.toList.map oY).length=x.cps.size:=by simp
  exact h
def oA(m:aJ):aZ:=fun ρ=>(m ρ).bind yz
theorem Ks:nN (jO F (oA m)) (CB (cJ F m)):=by
 rintro σ H Q ⟨G,ρ,r,h⟩;unfold oA at h;refine⟨G,ρ,r,?_⟩;cases ax:m ρ with
 |bad=>rw[ax]at h;exact h.elim
 |exc c=>rw[ax]at h;exact h
 |ok d=>
  rw[ax,R.bI]at h;intro v H1 aL au s1 a;cases d with
  |str x=>simp only[At]at a;exact⟨x,a,h _ H1 aL au s1 (KR x)⟩
  |_=>exact h.elim
def Ba(ds:List D):List D:=ds.zipIdx.map fun p=>.tup [.int (p.2:Int),p.1]
def A_:List D→R (List D)
 |[.lst ds]=>.ok (Ba ds)
 |[.cP ds]=>.ok (Ba ds)
 |_=>.bad
def Me(m:aZ):aZ:=fun ρ=>(m ρ).bind A_
structure GM(X:aD)(bz:V3)(set:D→ar→R ar):Prop where
 ex:∃g,gu X bz g∧∀F:bj,F.K=X.K→jW F g set
 gO:∀d ρ c,set d ρ≠.exc c
 keeps:Keeps set
theorem oJ(i:Nat){x:Str}(bR:X.N.Nodup)(af:X.N[i]?=some x:=by rfl)(av:Loc X.env.scope x:=by first|exact XA rfl|exact W8 rfl)(hf:X.fn x=true∨X.env.scope.names.lookup x=some .local:=by first|exact .inl rfl|exact .inr rfl):GM X (.Name x pos) (dH i):=
 ⟨⟨hq i,rf bR af av hf,fun _ _=>qm i⟩,rl i,rk i⟩
structure rM(X:aD)(QM:List V3)(aT:List (D→ar→R ar)):Prop where
 ex:∃g,pG X QM g∧∀F:bj,F.K=X.K→pq F g (gB aT)
 gO:∀f∈aT,∀d ρ c,f d ρ≠.exc c
 keeps:∀f∈aT,Keeps f
theorem MK:rM X [] []:=⟨⟨sx,Ep,fun _ _=>B7⟩,(fun _ h=>nomatch h),(fun _ h=>nomatch h)⟩
theorem DY{f:D→ar→R ar}{aT:List (D→ar→R ar)}(h:GM X e f)(t:rM X es aT)(hs:(Xm (e::es) X.env).map (·.2)=YC e X.env::(Xm es X.env).map (·.2):=by rfl):rM X (e::es) (f::aT):=by obtain⟨⟨g,h1,h2⟩,h3,h4⟩:=h;obtain⟨⟨kC,t1,eJ⟩,t3,yH⟩:=t;exact⟨⟨qk g kC,xr h1 t1 hs,fun F i3=>vS (h2 F i3) (eJ F i3)⟩,fun k aH=>by rcases List.mem_cons.mp aH with rfl|aH;exact h3;exact t3 k aH,fun k aH=>by rcases List.mem_cons.mp aH with rfl|aH;exact h4;exact yH k aH⟩
theorem ML{k:Nat}{aT:List (D→ar→R ar)}(aq:X.calm=true)(h:rM X es aT)(aK:(Xm es X.env).length=aT.length:=by rfl)(dF:(Xm es X.env).findIdx? (·.1)=none:=by rfl):GM X (.Tuple es k pos) (l7 aT):=by obtain⟨⟨kC,t1,eJ⟩,t3,yH⟩:=h;exact⟨⟨sy X.K aT.length kC,Eo aq t1 aK dF,fun F i3=>by rw[←i3];exact B8 rfl (eJ F i3)⟩,Fd t3,Fc yH⟩
abbrev pf(X:aD)(scope:WX)(N:List Str)(e:V3)(m:aJ):Prop:=∀cl C s H aC G0 H0,ib (eZ X scope N cl C s H aC) (eH X.K G0 H0) e m
abbrev jU(X:aD)(scope:WX)(N:List Str)(ifs:List V3)(m:cw):Prop:=∀cl C s H aC G0 H0,iV (eZ X scope N cl C s H aC) ifs (fD (eH X.K G0 H0) m)
abbrev pg(X:aD)(scope:WX)(N:List Str)(bz:V3)(set:D→ar→R ar):Prop:=∃g,(∀cl C s H aC,gu (eZ X scope N cl C s H aC) bz g)∧(∀G0 H0,jW (eH X.K G0 H0) g set)
theorem Hf{scope:WX}{N:List Str}{g:gv}{set:D→ar→R ar}(h:∀cl C s H aC,gu (eZ X scope N cl C s H aC) bz g)(k:∀F:bj,F.K=X.K→jW F g set):pg X scope N bz set:=⟨g,h,fun G0 H0=>k (eH X.K G0 H0) rfl⟩
def m9:cw:=fun _=>.ok true
theorem nY{scope:WX}{N:List Str}:jU X scope N [] m9:=fun cl C s H aC G0 H0 pins s' σ H' Q I h=>by obtain⟨G,ρ,r,k⟩:=h;exact xx pins s' σ H' Q I (k H' G r (b3.refl _ _))
theorem Hg{scope:WX}{N:List Str}{mt:cw}(h:∀cl C s H aC G0 H0,zK (eZ X scope N cl C s H aC) (eH X.K G0 H0) c mt):jU X scope N [c] mt:=fun cl C s H aC G0 H0=>OC (h cl C s H aC G0 H0)
theorem AR{scope:WX}{N:List Str}{ifs:List V3}{nl:Nat}{caps:List Nat}{mi:aZ}{set:D→ar→R ar}{mt:cw}{dX:aJ}(aX:F.K=X.K)(af:px X F bz iter mi)(aF:pg X scope N bz set)(bH:jU X scope N ifs mt)(he:pf X scope N elt dX)(av:∀d ρ c,set d ρ≠.exc c)(aH:Keeps set){Q:TE→Prop}(k:∀g,(∀cl C s H aC,gu (eZ X scope N cl C s H aC) bz g)→(∀cl C s H aC,iV (eZ X scope N cl C s H aC) ifs (ze X.K mt))→(∀cl C s H aC,a3 (eZ X scope N cl C s H aC) elt (zd X.K dX))→eE (hA F (gg nl caps mi set mt dX)) (nj (jO F mi) g (ze X.K mt) (zd X.K dX) nl caps)→Q (hA F (gg nl caps mi set mt dX))):Q (hA F (gg nl caps mi set mt dX)):=by
 obtain⟨g,g1,g2⟩:=aF;refine k g g1 (fun cl C s H aC pins s' σ H' ie I h=>?_) (fun cl C s H aC pins s' σ H' ie I h=>?_) ?_
 ·obtain⟨G0,H0,h⟩:=h;exact bH cl C s H aC G0 H0 pins s' σ H' ie I h
 ·obtain⟨G0,H0,h⟩:=h;exact he cl C s H aC G0 H0 pins s' σ H' ie I h
 ·have z:=J3 (F:=F) (nl:=nl) (caps:=caps) (mi:=mi) (tst:=mt) (elt:=dX) (g:=g) (set:=set) (fun G0 H0=>by rw[aX];exact g2 G0 H0) av aH;rw[aX]at z;exact z
theorem M8{scope:WX}{N:List Str}{ifs:List V3}{nl:Nat}{caps:List Nat}{mi:aZ}{set:D→ar→R ar}{mt:cw}{dX:aJ}(S:hD X.env.scope X.N scope N nl caps)(af:px X F bz iter mi)(aF:pg X scope N bz set)(av:∀d ρ c,set d ρ≠.exc c)(aH:Keeps set)(bH:jU X scope N ifs mt)(he:pf X scope N elt dX)(aq:X.calm=true:=by rfl)(aX:F.K=X.K:=by rfl)(hs:∀x,V4 iter X.env x=pure x:=by intro _;rfl):zw X F (.ListComp elt [⟨bz,iter,ifs,0⟩] scope pos) (gg nl caps mi set mt dX):=
 AR (nl:=nl) (caps:=caps) (Q:=fun t=>a3 X (.ListComp elt [⟨bz,iter,ifs,0⟩] scope pos) t) aX af aF bH he av aH fun g g1 t1 ao imp=>a3.imp (NR S aq af g1 t1 ao hs) imp
theorem Pb(i:Nat){y:Str}{py:Pos}{scope:WX}{N:List Str}{ifs:List V3}{nl:Nat}{caps:List Nat}{mi:aZ}{set:D→ar→R ar}{mt:cw}{dX:aJ}{cpos:Pos}(bR:X.N.Nodup)(S:hD X.env.scope X.N scope N nl caps)(af:px X F bz iter mi)(aF:pg X scope N bz set)(av:∀d ρ c,set d ρ≠.exc c)(aH:Keeps set)(bH:jU X scope N ifs mt)(he:pf X scope N elt dX)(bO:X.N[i]?=some y:=by rfl)(ak:X.env.kindOf y=some .local:=by rfl)(iB:Xp (.ListComp elt [⟨bz,iter,ifs,0⟩] scope cpos) (some (.Name y py)) pos.line X.env=pure true:=by rfl)(aq:X.calm=true:=by rfl)(aX:F.K=X.K:=by rfl)(hs:∀x,V4 iter X.env x=pure x:=by intro _;rfl) :
  zH X F (.Assign [.Name y py] (.ListComp elt [⟨bz,iter,ifs,0⟩] scope cpos) pos) (iF i (gg nl caps mi set mt dX)):=by
 refine c7.imp (t:=k7 (hA F (gg nl caps mi set mt dX)) (hq i)) ?_ wD;refine AR (nl:=nl) (caps:=caps) (Q:=fun t=>c7 X (.Assign [.Name y py] (.ListComp elt [⟨bz,iter,ifs,0⟩] scope cpos) pos) (k7 t (hq i))) aX af aF bH he av aH fun g g1 t1 ao imp=>?_;exact c7.imp (Ol S aq bR bO ak af g1 t1 ao iB hs) fun cf σ H h=>imp σ H _ h
end
section
variable{X:aD}{F:bj}{e a b c:V3}{es:List V3}{pos p:Pos}{m n:aJ}{ma:aZ}
def pS:List D→Option (List Bool)
 |[]=>some []
 |.aU b::r=>(pS r).map (b::·)
 |_::_=>none
theorem AH{K:PySem.W.Frag}{G:ae}:∀{ds:List D}{xs:List V}{bs:List Bool},aO K G ds xs→pS ds=some bs→xs=bs.map V.aU
 |[],_,_,q,e=>by simp only[aO]at q;subst q;cases e;rfl
 |d::ds,_,bs,q,e=>by
  simp only[aO]at q;obtain⟨v,r,rfl,a,kx⟩:=q;cases d with
  |aU b=>
   simp only[At]at a;subst a;simp only[pS]at e;cases ao:pS ds with
   |none=>rw[ao]at e;cases e
   |some cs=>rw[ao]at e;have bx:b::cs=bs:=VM e;subst bx;rw[AH kx ao];rfl
  |_=>cases e
theorem Gd:∀{bs:List Bool}{us:List Vw},Vals (bs.map V.aU) us→us=bs.map YB
 |[],_,r=>by cases r;rfl
 |b::bs,_,r=>by
  cases r with
  |cons au bl=>cases au;rw[Gd bl];rfl
theorem Hm(aq:X.calm=true)(ht:X.A.handled=none):h_ X (.builtin "all") (fun xs H Q=>∃(p:VD)(bs:List Bool),xs=[.ref p]∧bQ X.K H p (bs.map V.aU)∧Q (.aU (bs.all id)) H):=by
 intro pins s σ H xs us Q I r h;obtain⟨p,bs,rfl,aS,q⟩:=h;obtain⟨u,rfl,eR⟩:=vals1 r;cases eR;obtain⟨its,b_,pl,bG⟩:=I.list aS;have iw:=Gd b_;refine call_all_walk (XU pl.isList ?_);have lJ:p≠s.heap.objs.size:=by obtain⟨o,aB,_⟩:=pl.isList;exact VV (VH aB)
 refine⟨s.heap.objs.size,_,_,_,_,_,fun i=>(bs[i]?).getD true,rfl,Walks.list (prog:=X.prog) (w:=X.w) (A:=X.A.in1) ht s.heap.objs.size p lJ its.toArray,⟨⟨_,VN _ rfl,rfl,rfl⟩,pl.isList.push _⟩,?_,fun h' cK df=>?_⟩
 ·intro i v s' ie zv dW vX;rw[iw]at dW;have dW:(bs.map YB)[i]?=some v:=by simpa using dW
  rw[VW]at dW;cases bx:bs[i]? with
  |none=>rw[bx]at dW;cases dW
  |some b=>rw[bx]at dW;have ev:YB b=v:=VM dW;subst ev;dsimp only at vX;rw[bx]at vX;exact V8 vX
 ·have kD:(Wk its.toArray.size).all (fun i=>(bs[i]?).getD true)=bs.all id:=by
    have ak:its.toArray.size=bs.length:=by rw[iw];simp
    rw[ak,Bool.eq_iff_iff,YX,YX];constructor
    ·intro bF x av;obtain⟨i,af,rfl⟩:=List.mem_iff_getElem.mp av;have:=bF i (List.mem_range.mpr af);rw[Vz af]at this;exact this
    ·intro bF i af;have af:=List.mem_range.mp af;rw[Vz af];exact bF _ (List.getElem_mem af)
  rw[kD];exact⟨.aU _,H,I.kept (t':=cK) fun b o aA=>df b o (by
   intro z;have z:b=s.heap.objs.size:=by simpa using z
   exact absurd (VH aA) (by rw[z];exact Wi _)) (Vy _ aA),rfl,q⟩
def mF:List D→R D
 |[.lst ds]=>match pS ds with|some bs=>.ok (.aU (bs.all id))|none=>.bad
 |_=>.bad
theorem Nf:mq F (fun xs H Q=>∃(p:VD)(bs:List Bool),xs=[.ref p]∧bQ X.K H p (bs.map V.aU)∧Q (.aU (bs.all id)) H) mF:=by
 intro σ ρ G H xs ds Q r al k;unfold mF at k
 split at k
 ·rename_i ds
  split at k
  ·rename_i bs bx;obtain⟨v,rfl,bc⟩:=al.one;simp only[At]at bc;obtain⟨q,xs,rfl,aS,fI⟩:=bc;have:=AH fI bx;subst this;exact⟨q,bs,rfl,bQ.of (r.aG.sub _ _ aS),k _ H G r (b3.refl _ _) (by simp only[At])⟩
  ·exact k.elim
 ·exact k.elim
end
section
variable{X:aD}{F:bj}{e a b c:V3}{es:List V3}{pos p:Pos}{m n:aJ}{ma:aZ}
def ownAt(i:Nat)(ρ:ar):R (List D):=match ρ[i]? with
 |some (.bg (.lst ds))=>.ok ds
 |_=>.bad
noncomputable def m5(i:Nat)(m:aJ):bp:=fun ρ=>(ownAt i ρ).bind fun ds=>(m ρ).bind fun d=>if ds.length<1000000 then .ok (.bJ (ρ.set i (.en (ds++[d]))))else .bad
end
abbrev kY(K:PySem.W.Frag)(n:Nat)(mf:List D→R cc):hj:=kZ K n (fun _ _ _=>False) mf
structure eV(P:VR)(w:V9)(K:PySem.W.Frag)(mg:Str→Option Vw)(base:Wv)(x:Str)(n k:Nat)(mf:List D→R cc):Prop where
 ex:∃(f:VD)(fd:WM)(aP:List Str),aP.length=n∧gs P w K mg base ha k f fd aP (kY K n mf)∧mg x=some (.ref f)∧PySem.W.keepIn K (.ref f)=true∧Binds K fd aP []
section
variable{X:aD}{F:bj}{e:V3}{es:List V3}{pos p:Pos}{ma:aZ}{x:Str}{n k:Nat}{mf:List D→R cc}
end
structure di(K:PySem.W.Frag)(mg:Str→Option Vw)(x:Str)(st:WO)(aP:List Str):Prop where
 ex:∃(f:VD)(fd:WM),jV K x x st f fd∧mg x=some (.ref f)∧Binds K fd aP []
theorem HL{P:VR}{w:V9}{K:PySem.W.Frag}{mg:Str→Option Vw}{base:Wv}{x:Str}{st:WO}{N aP:List Str}{k:Nat}{m:bp}(d:di K mg x st aP)(S:c1 N aP (bW st))(h:∀(f:VD)(b6:Vw)(A:V0)(outer:List Env)(s:Vx)(H:ae)(E:cj),dg k (A.deeper (WC x (bW st) s.heap.objs.size f b6))→∀G0 H0,GB (d4 ha P w K mg base N x (bW st) f b6 A outer s H E).fL (eH K G0 H0) (fy st) m) :
  eV P w K mg base x aP.length (k+1) (c2 N.length m):=by
 obtain⟨f,fd,fn,hm,J⟩:=d.ex;refine⟨f,fd,aP,rfl,fn.ok S tT fun b6 A outer s H vs Q E aw hs=>?_,hm,fn.aG,J⟩;obtain⟨G,bH⟩:=r6 hs;exact⟨_,h f b6 A outer s H E aw G H,bH⟩
theorem Iq{K:PySem.W.Frag}{h:Wv}{mg:Str→Option Vw}{x:Str}{st:WO}{aP:List Str}{f:VD}{eu:Vw}{dh an:Option VD}{jd:Array (Option Vw)}{cB doc pm b6 cv:Vw}(X:K.In h)(G:h.Ns VF mg)(a:PySem.W.nsIn K VF x=some (some (.ref f)))(l:K.lookup f=some ⟨eu,dh,.func (PySem.W.fnOf x x (iu st) (fy st) (bW st) .none cB doc pm an b6 cv),jd⟩)(c:PySem.W.codeIn K b6 x=true)(k:PySem.W.keepIn K (.ref f)=true)(b:∀(cB doc pm:Vw)(an:Option VD)(b6 cv:Vw)(us:List Vw),us.length=aP.length→Z5 (PySem.W.fnOf x x (iu st) (fy st) (bW st) .none cB doc pm an b6 cv) ⟨us,[]⟩=pure (aP.zip us)):di K mg x st aP:=
 ⟨f,_,mS (st:=st) l c k,PySem.W.mg_of X G a,(mS (st:=st) l c k).binds b⟩
theorem LS{K:PySem.W.Frag}{mf:List D→R cc}{H:ae}{a:VD}{ns:List Int}(hr:bQ K H a (ns.map V.int))(h:mf [.cP (ns.map .int)]=.ok (.v (.aU true)))(E:cj):kY K 1 mf [.ref a] H (fun v _=>v=.aU true) E:=by
 refine⟨H,[.cP (ns.map .int)],Sub.refl _,.cons ?_ .nil,rfl,?_⟩
 ·simp only[At];refine⟨a,_,rfl,hr,?_⟩;induction ns with
  |nil=>exact .nil
  |cons n r cW=>exact .cons (by simp only[At]) (CK r)
 ·rw[h];intro v G' H' _ bc;simp only[At]at bc;exact bc
where
 CK {K:PySem.W.Frag} {H:ae}:∀r:List Int,aO K H (r.map .int) (r.map V.int)
  |[]=>.nil
  |n::r=>.cons (by simp only[At]) (CK r)
section
variable{X:aD}{F:bj}{e a b c bz iter elt:V3}{es:List V3}{pos p:Pos}{m n:aJ}{ma:aZ}{scope:WX}{N:List Str}
structure pe(X:aD)(scope:WX)(N:List Str)(bz:V3)(set:D→ar→R ar):Prop where
 g:pg X scope N bz set
 bJ:∀d ρ c,set d ρ≠.exc c
 aG:Keeps set
theorem mG(i:Nat){x:Str}(bR:N.Nodup:=by decide+kernel)(af:N[i]?=some x:=by rfl)(ak:(X_ scope X.env).names.lookup x=some .local:=by rfl):pe X scope N (.Name x pos) (dH i):=
 ⟨Hf (g:=hq i) (fun cl C s H aC=>rf (X:=eZ X scope N cl C s H aC) bR af (.inl ak) (.inr ak)) fun F _=>qm i,rl i,rk i⟩
theorem M9(nl:Nat)(caps:List Nat){ifs:List V3}{mi:aZ}{set:D→ar→R ar}{mt:cw}{dX:aJ}(S:lC X.env.scope X.N scope N nl caps=true)(af:px X F bz iter mi)(aF:pe X scope N bz set)(bH:jU X scope N ifs mt)(he:pf X scope N elt dX)(aq:X.calm=true:=by rfl)(aX:F.K=X.K:=by rfl)(hs:∀x,V4 iter X.env x=pure x:=by intro _;rfl):zw X F (.ListComp elt [⟨bz,iter,ifs,0⟩] scope pos) (gg nl caps mi set mt dX):=
 M8 (.of S) af aF.g aF.bJ aF.aG bH he aq aX hs
theorem Pc(i:Nat)(nl:Nat)(caps:List Nat){y:Str}{py:Pos}{ifs:List V3}{mi:aZ}{set:D→ar→R ar}{mt:cw}{dX:aJ}{cpos:Pos}(bR:X.N.Nodup)(S:lC X.env.scope X.N scope N nl caps=true)(af:px X F bz iter mi)(aF:pe X scope N bz set)(bH:jU X scope N ifs mt)(he:pf X scope N elt dX)(bO:X.N[i]?=some y:=by rfl)(ak:X.env.kindOf y=some .local:=by rfl)(iB:Xp (.ListComp elt [⟨bz,iter,ifs,0⟩] scope cpos) (some (.Name y py)) pos.line X.env=pure true:=by rfl)(aq:X.calm=true:=by rfl)(aX:F.K=X.K:=by rfl)(hs:∀x,V4 iter X.env x=pure x:=by intro _;rfl) :
  zH X F (.Assign [.Name y py] (.ListComp elt [⟨bz,iter,ifs,0⟩] scope cpos) pos) (iF i (gg nl caps mi set mt dX)):=
 Pb i bR (.of S) af aF.g aF.bJ aF.aG bH he bO ak iB aq aX hs
noncomputable def oC(i:Nat)(a:aZ):bp:=fun ρ=>((iF i a) ρ).bind fun f=>match f with
 |.bJ bC=>.ok (.bJ (jv i bC))
 |f=>.ok f
def Ma:aJ:=fun _=>.ok (.dc [] [])
end
theorem md{K:PySem.W.Frag}{c:VD}{dd:Option VD}{its:Array Vw}{n:Nat}{cb:Array (Option Vw)}{xs:List V}{ds:List D}(l:K.lookup c=some ⟨.type "tuple",dd,.seq its n,cb⟩)(bG:its.size≤VP)(v:Vals xs its.toList)(a:∀G,aO K G ds xs) :
  ∀G,At K G (.cX ds) (.ref c):=fun G=>by
 simp only[At];exact⟨c,xs,rfl,.inr ⟨_,its,n,l,rfl,rfl,bG,v⟩,a G⟩
theorem l4(i:Int)(t:Tok):RelV (.int i) (.int i t):=⟨t,rfl⟩
theorem l5(x:Str)(t:Tok):RelV (.str x) (.str x t):=⟨t,rfl⟩
theorem lu{K:PySem.W.Frag}{G:ae}(i:Int):At K G (.int i) (.int i):=by simp only[At]
theorem lx{K:PySem.W.Frag}{G:ae}(i:Str):At K G (.str i) (.str i):=by simp only[At]
structure a8(X:aD)(F:bj)(e:V3)(m:aJ):Prop where
 o:a3 X e (cJ F m)
structure j3(X:aD)(F:bj)(e:V3)(m:aZ):Prop where
 o:a3 X e (hA F m)
structure eO(X:aD)(F:bj)(e:V3)(m:cw):Prop where
 o:eG X e (fD F m)
structure mE(X:aD)(F:bj)(e:V3)(m:cw):Prop where
 o:hh X e (fD F m)
structure eW(X:aD)(F:bj)(es:List V3)(m:aZ):Prop where
 o:e6 X es (eb F m)
structure e7(X:aD)(F:bj)(st:WO)(m:bp):Prop where
 o:c7 X st (fm F m)
structure hn(X:aD)(F:bj)(st:List WO)(m:bp):Prop where
 o:fv X st (fm F m)
structure j4(X:aD)(F:bj)(bz e:V3)(m:aZ):Prop where
 o:fG X bz e (jO F m)
structure r3(X:aD)(F:bj)(e:Option V3)(m:ll):Prop where
 o:pH X e (yM F m)
section
variable{X:aD}{F:bj}{e a b c bz iter elt:V3}{es:List V3}{pos p:Pos}{m n:aJ}{ma:aZ}{st:WO}{k6:List WO}
theorem az(i:Nat){x:Str}(bR:X.N[i]?=some x:=by rfl)(bS:hJ X.env.scope x:=by first|exact XA rfl|exact W8 (XA rfl)|exact W8 (W8 rfl))(hd:(x==("__debug__" :Str))=false:=by decide)(ei:(x==("__classdict__" :Str))=false:=by decide):a8 X F (.Name x pos) (ay i):=⟨a3.imp (nf bR bS hd ei) (Kw i)⟩
theorem bb{i:Int}{j}:a8 X F (.Constant (.int i) j pos) (aj (.int i)):=⟨a3.imp NW (qF fun _=>by simp only[At])⟩
theorem iM{i:Bool}{j}:a8 X F (.Constant (.bool i) j pos) (aj (.aU i)):=⟨a3.imp NN (qF fun _=>by simp only[At])⟩
theorem bh{i:Str}{j}:a8 X F (.Constant (.str i) j pos) (aj (.str i)):=⟨a3.imp xq (qF fun _=>by simp only[At])⟩
theorem RB{j}:a8 X F (.Constant .none j pos) (aj .non):=⟨a3.imp N0 (qF fun _=>by simp only[At])⟩
theorem aV:eW X F [] aR:=⟨e6.imp l0 Kg⟩
theorem ai{m:aJ}{r:aZ}(h:a8 X F e m)(t:eW X F es r)(hs:notStar e=true:=by rfl):eW X F (e::es) (ag m r):=⟨have h:=h.1;have t:=t.1;e6.imp (jG h t (P9 e es X.env hs)) J4⟩
theorem gp{k}{m:aZ}(h:eW X F es m):a8 X F (.Tuple es k pos) (fk m):=⟨have h:=h.1;a3.imp (N5 h) Ku⟩
theorem d6{m:aZ}(h:eW X F es m):j3 X F (.List es pos) (du m):=⟨have h:=h.1;a3.imp (NY h) Kb⟩
theorem c3{m:aZ}(h:j3 X F e m):a8 X F e (cO m):=⟨have h:=h.1;a3.imp h J7⟩
theorem RX{m:cw}(h:eO X F e m):eO X F e (qR m):=⟨have h:=h.1;eG.imp h J1⟩
theorem fc{m:aJ}(h:a8 X F e m)(he:∀whole,isTrue e X.env whole=(do let v ←whole;standAt e.pos;aag [v] (truthy v)):=by intro _;rfl):eO X F e (b5 m):=⟨have h:=h.1;eG.imp (OB h he) wC⟩
theorem R1{m:cw}(h:eO X F a m):mE X F (.BoolOp .And [a] pos) m:=⟨have h:=h.1;OH h⟩
theorem jS{m:cw}(h:eO X F a m):mE X F (.BoolOp .Or [a] pos) m:=⟨have h:=h.1;OJ h⟩
theorem R0{m n:cw}(h:eO X F a m)(k:mE X F (.BoolOp .And (b::es) pos) n):mE X F (.BoolOp .And (a::b::es) pos) (qQ m n):=⟨have h:=h.1;have k:=k.1;hh.imp (OG h k) JY⟩
theorem iP{m n:cw}(h:eO X F a m)(k:mE X F (.BoolOp .Or (b::es) pos) n):mE X F (.BoolOp .Or (a::b::es) pos) (gN m n):=⟨have h:=h.1;have k:=k.1;hh.imp (OI h k) Kj⟩
theorem jn{m:cw}(h:mE X F e m):eO X F e m:=⟨have h:=h.1;hh.pt h⟩
theorem e4{m:cw}(h:eO X F a m):eO X F (.UnaryOp .Not a pos) (ez m):=⟨have h:=h.1;eG.imp (OA h) Kh⟩
theorem la{op}{m:aJ}(h:a8 X F a m):a8 X F (.BoolOp op [a] pos) m:=⟨have h:=h.1;N2 h⟩
theorem mh{m n:aJ}(h:a8 X F a m)(k:a8 X F (.BoolOp .And (b::es) pos) n):a8 X F (.BoolOp .And (a::b::es) pos) (i8 m n):=⟨have h:=h.1;have k:=k.1;a3.imp (NM h k) JZ⟩
theorem RD{m n:aJ}(h:a8 X F a m)(k:a8 X F (.BoolOp .Or (b::es) pos) n):a8 X F (.BoolOp .Or (a::b::es) pos) (qY m n):=⟨have h:=h.1;have k:=k.1;a3.imp (N3 h k) Kk⟩
theorem RC{m:aJ}(h:a8 X F a m):a8 X F (.UnaryOp .Not a pos) (qX m):=⟨have h:=h.1;a3.imp (N1 h) Ki⟩
theorem Rr{k:cw}{m n:aJ}(h:eO X F c k)(ah:a8 X F a m)(J:a8 X F b n):a8 X F (.IfExp c a b pos) (qU k m n):=⟨have h:=h.1;have ah:=ah.1;have J:=J.1;a3.imp (NV h ah J) J8⟩
theorem dZ:hn X F [] dO:=⟨fv.imp EA Kf⟩
theorem b0{m n:bp}(h:e7 X F st m)(k:hn X F k6 n):hn X F (st::k6) (bP m n):=⟨have h:=h.1;have k:=k.1;fv.imp (Ez h k) Kp⟩
theorem bU{m:bp}(h:e7 X F st m):hn X F [st] m:=⟨have h:=h.1;xw h⟩
theorem cL{m:aJ}(h:a8 X F e m):e7 X F (.Return (some e) pos) (cF m):=⟨have h:=h.1;c7.imp (tI h) Km⟩
theorem uA{m:aZ}(h:j3 X F e m):e7 X F (.Return (some e) pos) (jb m):=⟨have h:=h.1;c7.imp (tI h) Kn⟩
theorem RQ(i:Nat){x:Str}{p:Pos}(bR:X.N[i]?=some x:=by rfl)(bS:hJ X.env.scope x:=by first|exact XA rfl|exact W8 (XA rfl)|exact W8 (W8 rfl))(hd:(x==("__debug__" :Str))=false:=by decide)(ei:(x==("__classdict__" :Str))=false:=by decide):e7 X F (.Return (some (.Name x p)) pos) (jb (oD i)):=⟨c7.imp (tI (nf bR bS hd ei)) (Ko i)⟩
theorem dY{k:cw}{m n:bp}{xs ys:List WO}(h:eO X F c k)(ah:hn X F xs m)(J:hn X F ys n):e7 X F (.If c xs ys pos) (dt k m n):=⟨have h:=h.1;have ah:=ah.1;have J:=J.1;c7.imp (Ey h ah J) J9⟩
theorem ee(i:Nat){x:Str}{p:Pos}{m:aJ}(bR:X.N.Nodup)(he:a8 X F e m)(af:X.N[i]?=some x:=by rfl)(av:Loc X.env.scope x:=by first|exact XA rfl|exact W8 rfl)(hs:oN e=true:=by rfl)(hf:X.fn x=true∨X.env.scope.names.lookup x=some .local:=by first|exact .inl rfl|exact .inr rfl):e7 X F (.Assign [.Name x p] e pos) (dC i m):=⟨have he:=he.1;c7.imp (xv bR af av he (o2 _ _ _ _ hs) hf) Kq⟩
theorem RT(i:Nat){x:Str}{p:Pos}{m:aZ}(bR:X.N.Nodup)(he:j3 X F e m)(af:X.N[i]?=some x:=by rfl)(av:Loc X.env.scope x:=by first|exact XA rfl|exact W8 rfl)(hs:oN e=true:=by rfl)(hf:X.fn x=true∨X.env.scope.names.lookup x=some .local:=by first|exact .inl rfl|exact .inr rfl):e7 X F (.Assign [.Name x p] e pos) (iF i m):=⟨have he:=he.1;c7.imp (xv bR af av he (o2 _ _ _ _ hs) hf) wD⟩
theorem mj(ah:a8 X F a m)(J:a8 X F b n):a8 X F (.BinOp a .Sub b pos) (aE km m n):=⟨have ah:=ah.1;have J:=J.1;mL NF (ts fun _ _ _=>by simp only[At]) ah J⟩
theorem Gk(ah:a8 X F a m)(J:a8 X F b n):a8 X F (.BinOp a .Mult b pos) (aE nd m n):=⟨have ah:=ah.1;have J:=J.1;mL NA (tr fun _ _ _=>by simp only[At]) ah J⟩
theorem uo(ah:a8 X F a m)(J:a8 X F b n):a8 X F (.BinOp a .FloorDiv b pos) (aE kB m n):=⟨have ah:=ah.1;have J:=J.1;mL Nu (tr fun _ _ _=>by simp only[At]) ah J⟩
theorem g9(ah:a8 X F a m)(J:a8 X F b n):a8 X F (.BinOp a .Mod b pos) (aE fa m n):=⟨have ah:=ah.1;have J:=J.1;mL Nz (tr fun _ _ _=>by simp only[At]) ah J⟩
theorem zg(ah:a8 X F a m)(J:a8 X F b n):a8 X F (.BinOp a .Pow b pos) (aE jH m n):=⟨have ah:=ah.1;have J:=J.1;mL NC (tr fun _ _ _=>by simp only[At]) ah J⟩
theorem uB(ah:a8 X F a m)(J:a8 X F b n):eO X F (.Compare a [.Lt] [b] pos) (b5 (aE oy m n)):=⟨have ah:=ah.1;have J:=J.1;o6 Ny (ts fun _ _ _=>by simp only[At]) ah J (oM _)⟩
theorem RZ(ah:a8 X F a m)(J:a8 X F b n):eO X F (.Compare a [.Gt] [b] pos) (b5 (aE vT m n)):=⟨have ah:=ah.1;have J:=J.1;o6 Nv (ts fun _ _ _=>by simp only[At]) ah J (oM _)⟩
theorem iL(ah:a8 X F a m)(J:a8 X F b n):a8 X F (.BinOp a .Add b pos) (aE fH m n):=⟨have ah:=ah.1;have J:=J.1;mL (Nq.or (Nr.or Ed)) Nd ah J⟩
theorem iO(aN:X.A.units+64<XE)(ah:a8 X F a m)(J:a8 X F b n)(aX:F.K=X.K:=by rfl):eO X F (.Compare a [.Eq] [b] pos) (b5 (aE (dz true) m n)):=⟨have ah:=ah.1;have J:=J.1;o6 (Ee aX aN) (tq true) ah J (oM _)⟩
theorem ny(aN:X.A.units+64<XE)(ah:a8 X F a m)(J:a8 X F b n)(aX:F.K=X.K:=by rfl):eO X F (.Compare a [.NotEq] [b] pos) (b5 (aE (dz false) m n)):=⟨have ah:=ah.1;have J:=J.1;o6 (Ef aX aN) (tq false) ah J (oM _)⟩
theorem o9(aN:X.A.units+64<XE)(ah:a8 X F a m)(J:a8 X F b n)(aX:F.K=X.K:=by rfl):a8 X F (.Compare a [.Eq] [b] pos) (aE (dz true) m n):=⟨have ah:=ah.1;have J:=J.1;sk (Ee aX aN) (tq true) ah J (oM _)⟩
theorem Gl(aN:X.A.units+64<XE)(ah:a8 X F a m)(J:a8 X F b n)(aX:F.K=X.K:=by rfl):a8 X F (.Compare a [.NotEq] [b] pos) (aE (dz false) m n):=⟨have ah:=ah.1;have J:=J.1;sk (Ef aX aN) (tq false) ah J (oM _)⟩
theorem zm(aN:X.A.units+64<XE)(ah:a8 X F a m)(J:a8 X F b n)(aX:F.K=X.K:=by rfl)(hm:Wd .NotIn b=false:=by with_unfolding_all rfl):eO X F (.Compare a [.NotIn] [b] pos) (b5 (aE (inD false) m n)):=⟨have ah:=ah.1;have J:=J.1;o6 (NB aX aN) (Ea false) ah J hm⟩
theorem uq(aN:X.A.units+64<XE)(ah:a8 X F a m)(J:a8 X F b n)(aX:F.K=X.K:=by rfl)(hm:Wd .In b=false:=by with_unfolding_all rfl):a8 X F (.Compare a [.In] [b] pos) (aE (inD true) m n):=⟨have ah:=ah.1;have J:=J.1;sk (Nw aX aN) (Ea true) ah J hm⟩
theorem Rp{op hx:aar}{r bq:d7}{f g:D→D→R D}{l:aJ}(aB:dw X (Wn op) r)(e_:dw X (Wn hx) bq)(hf:fF F r f)(aF:fF F bq g)(ah:a8 X F a m)(J:a8 X F b n)(aq:a8 X F c l)(hm:lastMarks [op,hx] [b,c]=false:=by with_unfolding_all rfl):a8 X F (.Compare a [op,hx] [b,c] pos) (kQ f g m n l):=⟨have ah:=ah.1;have J:=J.1;have aq:=aq.1;a3.imp (NP aB e_ ah J aq hm) (CG hf aF)⟩
theorem Gs{op hx:aar}{r bq:d7}{f g:D→D→R D}{l:aJ}(aB:dw X (Wn op) r)(e_:dw X (Wn hx) bq)(hf:fF F r f)(aF:fF F bq g)(ah:a8 X F a m)(J:a8 X F b n)(aq:a8 X F c l)(hm:lastMarks [op,hx] [b,c]=false:=by with_unfolding_all rfl):eO X F (.Compare a [op,hx] [b,c] pos) (b5 (kQ f g m n l)):=⟨have ah:=ah.1;have J:=J.1;have aq:=aq.1;eG.imp (Ox aB e_ ah J aq hm) fun σ H Q h=>by obtain⟨G,ρ,r,k⟩:=CE (F:=F) (m:=kQ f g m n l) σ H Q h;exact CG hf aF σ H _ ⟨G,ρ,r,k⟩⟩
theorem gn(hm:X.mg "len"=none)(ah:eW X F [e] ma)(aX:F.K=X.K:=by rfl)(aF:da X "len":=by rfl)(he:VA [e] X.env=(false,WW e X.env)::VA [] X.env:=by rfl)(cI:(Wu pos (VA [] X.env)).any (·.1)=false:=by rfl):a8 X F (.Call (.Name "len" p) [e] [] pos) (dB e3 ma):=⟨have ah:=ah.1;A4 Hp (Nk aX) hm PySem.boot_len ah aF (by decide) (by decide) he cI⟩
theorem jl{U:Str}{T:String}{bZ:Pos}(tt:mD X.K T)(hm:X.mg "isinstance"=none)(qz:X.mg U=none)(IW:WH U=some (.type T))(ah:a8 X F a m)(aX:F.K=X.K:=by rfl)(aF:da X "isinstance":=by rfl)(mU:da X U:=by rfl)(Jq:U≠"__name__":=by decide)(qu:(U==("__debug__" :Str))=false:=by decide)(fW:VA [.Name U bZ] X.env=(false,WW (.Name U bZ) X.env)::VA [] X.env:=by rfl)(he:VA [a,.Name U bZ] X.env=(false,WW a X.env)::VA [.Name U bZ] X.env:=by rfl)(cI:(Wu pos (VA [.Name U bZ] X.env)).any (·.1)=false:=by rfl):a8 X F (.Call (.Name "isinstance" p) [a,.Name U bZ] [] pos) (dG (hP T) m):=⟨by
 have ah:=ah.1;have J:WH "isinstance"=some (.builtin "isinstance"):=by kernel_rfl
 refine a3.imp (rd (Ho aX tt) aF hm J (jG ah (jG (Ek mU qz IW (v:=.ty T) rfl Jq qu) l0 fW) he) (by decide) (by decide) he cI) ?_;rintro σ H Q ⟨G,ρ,r,h⟩;unfold dG at h;refine⟨G,ρ,r,?_⟩;cases ax:m ρ with
 |bad=>rw[ax]at h;exact h.elim
 |exc c=>rw[ax]at h;exact h
 |ok d=>
  rw[ax,R.bI]at h;intro x H1 aL au s1 bV;unfold hP at h;cases e:rv d with
  |none=>rw[e]at h;exact h.elim
  |some pJ=>rw[e]at h;exact⟨aL,d,x,pJ,au.aG.sub,rfl,bV,e,h _ H1 aL au s1 (by simp only[At])⟩⟩
theorem c0(ah:a8 X F a m)(J:a8 X F b n)(hs:u0 b)(aX:F.K=X.K:=by rfl):a8 X F (.Subscript a b pos) (aE cE m n):=⟨have ah:=ah.1;have J:=J.1;a3.imp (NX KZ ah J hs) (qG (Nj aX))⟩
theorem uw:r3 X F none oB:=⟨fun pins s σ H Q I h=>by obtain⟨G,ρ,r,k⟩:=h;exact Od pins s σ H Q I (k H G r (b3.refl _ _))⟩
theorem ux(h:a8 X F e m):r3 X F (some e) (m8 m):=⟨have h:=h.1;fun pins s σ H Q I hw=>by
 obtain⟨G,ρ,r,k⟩:=hw;refine Oe h pins s σ H Q I ⟨G,ρ,r,?_⟩;unfold m8 at k;cases ax:m ρ with
 |bad=>rw[ax]at k;exact k.elim
 |exc c=>rw[ax]at k;exact k
 |ok d=>
  rw[ax,R.bI]at k;intro x H1 aL au s1 bV;cases d with
  |int i=>simp only[At]at bV;exact⟨i,bV,k H1 aL au s1⟩
  |_=>exact k.elim⟩
theorem ur{lo af:Option V3}{bZ:Pos}{DV DT:ll}(ah:a8 X F a m)(ak:r3 X F lo DV)(bF:r3 X F af DT)(aX:F.K=X.K:=by rfl):a8 X F (.Subscript a (.Slice lo af none bZ) pos) (lU l9 m DV DT):=⟨have ah:=ah.1;have ak:=ak.1;have bF:=bF.1;a3.imp (N4 (PW.or PX) ah ak bF) (Kr aX)⟩
theorem RF(hm:X.mg "int"=none)(ah:eW X F [e] ma)(aF:da X "int":=by rfl)(he:VA [e] X.env=(false,WW e X.env)::VA [] X.env:=by rfl)(cI:(Wu pos (VA [] X.env)).any (·.1)=false:=by rfl):a8 X F (.Call (.Name "int" p) [e] [] pos) (dB t9 ma):=⟨have ah:=ah.1;A5 Hn Nm hm (by kernel_rfl) ah aF (by decide) (by decide) he cI⟩
theorem nz(h:a8 X F e m)(aX:F.K=X.K:=by rfl):j4 X F bz e (jD m):=⟨have h:=h.1;fG.imp (N8 h) (by rw[←aX];exact J_)⟩
theorem R2(h:a8 X F e m)(aX:F.K=X.K:=by rfl):j4 X F bz e (qT m):=⟨have h:=h.1;fG.imp (Oa h) (by rw[←aX];exact Kv)⟩
theorem Gv(h:a8 X F e m):j4 X F bz e (oA m):=⟨have h:=h.1;fG.imp (N_ h) Ks⟩
theorem uC(hm:X.mg "range"=none)(ah:eW X F [a] ma)(aF:da X "range":=by rfl)(hs:VA [a] X.env=[(false,WW a X.env)]:=by rfl):j4 X F bz (.Call (.Name "range" p) [a] [] pos) (kS ma):=⟨have ah:=ah.1;fG.imp (N9 aF hm ah hs) Kl⟩
theorem uz{body:List WO}{mi:aZ}{set:D→ar→R ar}{fC:bp}(bf:PassesOwn (VT X.prog X.w) X.A X.env X.xe)(af:j4 X F bz iter mi)(aF:GM X bz set)(J:hn X F body fC)(aq:X.calm=true:=by rfl)(aX:F.K=X.K:=by rfl)(hs:∀x,V4 iter X.env x=pure x:=by intro _;rfl):e7 X F (.For bz iter body [] pos) (i_ mi set fC):=⟨by
 have af:=af.1;have J:=J.1;obtain⟨⟨g,h1,h2⟩,h3,_⟩:=aF;exact c7.imp (Ou bf aq af h1 J hs) (J6 (h2 F aX) h3)⟩
theorem Gr{st:WO}{i:Nat}{a:aZ}(h:e7 X F st (iF i a)):e7 X F st (oC i a):=⟨have h:=h.1;c7.imp h fun cf σ H⟨G,ρ,r,k⟩=>by
 refine⟨G,ρ,r,?_⟩;unfold oC at k;cases e:iF i a ρ with
 |bad=>rw[e]at k;exact k.elim
 |exc c=>rw[e]at k;exact k
 |ok f=>
  rw[e,R.bI]at k;cases f with
  |bJ bC=>intro σ' G' H' bq s';obtain⟨cC,bl,s2⟩:=bq.jv i;exact k σ' cC H' bl (s'.trans s2)
  |eA d=>exact k
  |hz d=>exact k
  |dD d=>exact k
  |ey d=>exact k
  |cv d=>exact k⟩
theorem uk{k:Nat}(aw:dg k X.A)(hm:X.mg "all"=none)(ah:eW X F [e] ma)(aq:X.calm=true:=by rfl)(aF:da X "all":=by rfl)(he:VA [e] X.env=(false,WW e X.env)::VA [] X.env:=by rfl)(cI:(Wu pos (VA [] X.env)).any (·.1)=false:=by rfl):a8 X F (.Call (.Name "all" p) [e] [] pos) (dB mF ma):=⟨have ah:=ah.1;A4 (Hm aq aw.hd) Nf hm (by kernel_rfl) ah aF (by decide) (by decide) he cI⟩
theorem Gp (i:Nat) {x:Str} {b1:Pos} {apos:Pos} {cpos:Pos} (he:a8 X F e m) (bR:X.N[i]?=some x:=by rfl) (bS:hJ X.env.scope x:=by first|exact XA rfl|exact W8 (XA rfl)|exact W8 (W8 rfl)) (hd:(x==("__debug__" :Str))=false:=by decide) (ei:(x==("__classdict__" :Str))=false:=by decide) (kF:Xj (.Name x b1) "append" X.env (WW (.Name x b1) X.env)=WW (.Name x b1) X.env:=by rfl) (kJ:(apos.endLine==cpos.line)=true:=by rfl) (kG:((Wu cpos (VA [e] X.env)).all (fun x=>!x.1)&&(Yt cpos (Xs [] X.env)).all (fun x=>x.1.isSome)
   &&decide (([e]:List V3).length+([]:List Yy).length+(if([]:List Yy).isEmpty then 0 else 1)<30))=true:=by rfl) (hs:VA [e] X.env=(false,WW e X.env)::VA [] X.env:=by rfl) (kK:(Wu cpos (VA [] X.env)).any (·.1)=false:=by rfl) (aX:F.K=X.K:=by rfl):e7 X F (.Expr (.Call (.Attribute (.Name x b1) "append" apos) [e] [] cpos) pos) (m5 i m):=⟨by
 have he:=he.1;refine c7.imp (Oq (tF PySem.F.plainAttrs_list PySem.F.slot_list_append PySem.F.type_list_append xd (nf bR bS hd ei) (jG he l0 hs) kF kG kJ hs kK) (o2 _ _ _ _ rfl)) ?_;rintro cf σ H ⟨G,ρ,r,h⟩;unfold m5 ownAt at h;cases dn:ρ[i]? with
 |none=>rw[dn]at h;exact h.elim
 |some s=>
  rw[dn]at h;cases s with
  |un=>exact h.elim
  |b4 _=>exact h.elim
  |ed _=>exact h.elim
  |bg bg=>
   cases bg with
   |cA _ _=>exact h.elim
   |ins _ _ _=>exact h.elim
   |lst ds=>
    obtain⟨q,xs,ao,h1,h2,h3,h4⟩:=r.own dn;have h:gy F G cf ((m ρ).bind fun d=>if ds.length<1000000 then .ok (.bJ (ρ.set i (.en (ds++[d]))))else .bad):=h;refine⟨.ref q,ao,.inl ⟨rfl,xs,bQ.of h1⟩,G,ρ,r,?_⟩;cases ax:m ρ with
    |bad=>rw[ax]at h;exact h.elim
    |exc c=>rw[ax]at h;exact h
    |ok d=>
     rw[ax,R.bI]at h;intro v H1 aL au s1 bc;obtain⟨cq,zl,lD,cM,cu,IM,qo⟩:=au.own dn;rw[ao]at lD;cases lD;by_cases ak:ds.length<1000000
     ·rw[if_pos ak]at h;refine⟨q,zl,v,rfl,rfl,cM,by rw[←qo.length];exact Xt ak (by decide),?_⟩;exact h σ aL _ (au.mut dn ao (qo.snoc bc)) s1.g
     ·rw[if_neg ak]at h;exact h.elim⟩
theorem ew{x:Str}{n k:Nat}{mf:List D→R cc}(c:eV X.prog X.w X.K X.mg X.base x n k mf)(aw:dg k X.A)(ah:eW X F (e::es) ma)(gx:F.hE=fun _ _=>False:=by rfl)(aX:F.K=X.K:=by rfl)(aF:da X x:=by rfl)(e2:(x==("__debug__" :Str))=false:=by decide)(he:VA (e::es) X.env=(false,WW e X.env)::VA es X.env:=by rfl)(cI:(Wu pos (VA es X.env)).any (·.1)=false:=by rfl):a8 X F (.Call (.Name x p) (e::es) [] pos) (cN n mf ma):=⟨by
 have ah:=ah.1;obtain⟨f,fd,aP,aK,gH,hm,aH,J⟩:=c.ex;refine a3.imp (tG gH aw aF hm aH J .nil xn ah e2 he cI) ?_;rw[←aX];exact sS (xe:=fun _ _ _=>False) (E:=E0) gx⟩
theorem ml{x:Str}{n k:Nat}{mf:List D→R cc}(c:eV X.prog X.w X.K X.mg X.base x n k mf)(aw:dg k X.A)(ah:eW X F (e::es) ma)(gx:F.hE=fun _ _=>False:=by rfl)(aX:F.K=X.K:=by rfl)(aF:da X x:=by rfl)(e2:(x==("__debug__" :Str))=false:=by decide)(he:VA (e::es) X.env=(false,WW e X.env)::VA es X.env:=by rfl)(cI:(Wu pos (VA es X.env)).any (·.1)=false:=by rfl):j3 X F (.Call (.Name x p) (e::es) [] pos) (i9 n mf ma):=⟨by
 have ah:=ah.1;obtain⟨f,fd,aP,aK,gH,hm,aH,J⟩:=c.ex;refine a3.imp (tG gH aw aF hm aH J .nil xn ah e2 he cI) ?_;rw[←aX];exact J2 (xe:=fun _ _ _=>False) (E:=E0) gx⟩
variable{scope:WX}{N:List Str}
abbrev zr(X:aD)(scope:WX)(N:List Str)(e:V3)(m:aJ):Prop:=∀cl C s H aC G0 H0,a8 (eZ X scope N cl C s H aC) (eH X.K G0 H0) e m
theorem Rm{mt:cw}(h:∀cl C s H aC G0 H0,eO (eZ X scope N cl C s H aC) (eH X.K G0 H0) c mt):jU X scope N [c] mt:=bo.Hg fun cl C s H aC G0 H0=>(h cl C s H aC G0 H0).1
theorem pa(nl:Nat)(caps:List Nat){ifs:List V3}{mi:aZ}{set:D→ar→R ar}{mt:cw}{dX:aJ}(S:lC X.env.scope X.N scope N nl caps=true)(af:j4 X F bz iter mi)(aF:pe X scope N bz set)(bH:jU X scope N ifs mt)(he:zr X scope N elt dX)(aq:X.calm=true:=by rfl)(aX:F.K=X.K:=by rfl)(hs:∀x,V4 iter X.env x=pure x:=by intro _;rfl):j3 X F (.ListComp elt [⟨bz,iter,ifs,0⟩] scope pos) (gg nl caps mi set mt dX):=
 ⟨bo.M9 nl caps S af.1 aF bH (fun cl C s H aC G0 H0=>(he cl C s H aC G0 H0).1) aq aX hs⟩
theorem RO(i:Nat)(nl:Nat)(caps:List Nat){y:Str}{py:Pos}{ifs:List V3}{mi:aZ}{set:D→ar→R ar}{mt:cw}{dX:aJ}{cpos:Pos}(bR:X.N.Nodup)(S:lC X.env.scope X.N scope N nl caps=true)(af:j4 X F bz iter mi)(aF:pe X scope N bz set)(bH:jU X scope N ifs mt)(he:zr X scope N elt dX)(bO:X.N[i]?=some y:=by rfl)(ak:X.env.kindOf y=some .local:=by rfl)(iB:Xp (.ListComp elt [⟨bz,iter,ifs,0⟩] scope cpos) (some (.Name y py)) pos.line X.env=pure true:=by rfl)(aq:X.calm=true:=by rfl)(aX:F.K=X.K:=by rfl)(hs:∀x,V4 iter X.env x=pure x:=by intro _;rfl) :
  e7 X F (.Assign [.Name y py] (.ListComp elt [⟨bz,iter,ifs,0⟩] scope cpos) pos) (iF i (gg nl caps mi set mt dX)):=
 ⟨bo.Pc i nl caps bR S af.1 aF bH (fun cl C s H aC G0 H0=>(he cl C s H aC G0 H0).1) bO ak iB aq aX hs⟩
end
theorem fR{P:VR}{w:V9}{K:PySem.W.Frag}{mg:Str→Option Vw}{base:Wv}{x:Str}{st:WO}{N aP:List Str}{k:Nat}{m:bp}(d:di K mg x st aP)(S:c1 N aP (bW st))(h:∀(f:VD)(b6:Vw)(A:V0)(outer:List Env)(s:Vx)(H:ae)(E:cj),dg k (A.deeper (WC x (bW st) s.heap.objs.size f b6))→∀G0 H0,hn (d4 ha P w K mg base N x (bW st) f b6 A outer s H E).fL (eH K G0 H0) (fy st) m) :
  eV P w K mg base x aP.length (k+1) (c2 N.length m):=bo.HL d S fun f b6 A outer s H E aw G0 H0=>(h f b6 A outer s H E aw G0 H0).1
structure iR(K:PySem.W.Frag)(mg:Str→Option Vw)(x:Str)(d:D):Prop where
 ex:∃(v:V)(u:Vw),mg x=some u∧RelV v u∧∀G,At K G d v
theorem iN{X:aD}{F:bj}{x:Str}{d:D}{pos:Pos}(c:iR X.K X.mg x d)(aX:F.K=X.K:=by rfl)(aF:da X x:=by rfl)(hd:(x==("__debug__" :Str))=false:=by decide):a8 X F (.Name x pos) (aj d):=by obtain⟨v,u,h1,h2,h3⟩:=c.ex;exact⟨bo.H7 h1 h2 (by rw[aX];exact h3) aF hd⟩
end bo
namespace aY
open PySem PySem.Spec PyProof.Rows
section
variable{X:aD}{bz:V3}
noncomputable def zu(a b c:Int):Prop:=c≠0∧Builtin.Range.small a b c=true∧0≤YM a b c∧Builtin.divisionGoesByPylong (b-a) c=false
instance(a b c:Int):Decidable (zu a b c):=by unfold zu;infer_instance
end
section
variable{X:aD}{a e:V3}{cg:eK}{pos p pos' tC:Pos}
noncomputable def rJoin(K:PySem.W.Frag):V→List V→ae→cD→Prop:=fun x vs H Q=>∃sep p ys,x=.str sep∧vs=[.ref p]∧bQ K H p (ys.map V.str)∧(ys.map (·.length)).sum+ys.length*sep.length≤16777216∧Q (.str (Txt.join sep ys)) H
theorem Fo:∀{ys:List Str}{its:List Vw},Vals (ys.map V.str) its→StrsAre its ys
 |[],_,h=>by cases h;exact .nil
 |y::ys,_,h=>by
  cases h with
  |cons r rh=>obtain⟨t,rfl⟩:=r;exact .cons y t (Fo rh)
theorem Mx:uY X "str.join" (rJoin X.K):=by intro pins s σ H x vs v us Q I bu b_ h;obtain⟨sep,p,ys,rfl,rfl,aS,bG,q⟩:=h;obtain⟨t,rfl⟩:=bu;obtain⟨u,rfl,eR⟩:=vals1 b_;cases eR;obtain⟨its,r,pl,_⟩:=I.list aS;exact join_list pl.isList (by simpa using Fo r) bG fun t' k=>⟨.str _,H,I.tok _,⟨_,rfl⟩,q⟩
end
end aY
namespace bo
open PySem PySem.Spec aY
abbrev hg:=ar→R (D×ar)
abbrev nO:=ar→R (List D×ar)
noncomputable def K5(F:bj)(G:ae)(σ :St)(Q:cD):R (D×ar)→Prop
 |.ok (d,bC)=>∀v H' G',Rel F G' H' σ bC→Sub G G'→At F.K G' d v→Q v H'
 |.exc c=>i7 F c
 |.bad=>False
def Qk(F:bj)(m:hg):TE:=fun σ H Q=>∃G ρ,Rel F G H σ ρ∧K5 F G σ Q (m ρ)
def lf(m:aJ):hg:=fun ρ=>(m ρ).bind fun d=>.ok (d,ρ)
def L2(m:aZ):nO:=fun ρ=>(m ρ).bind fun d=>.ok (d,ρ)
section
variable{F:bj}
def L_(a:hg)(r:nO):nO:=fun ρ=>(a ρ).bind fun x=>(r x.2).bind fun y=>.ok (x.1::y.1,y.2)
def Dz(m:nO):hg:=fun ρ=>(m ρ).bind fun x=>if x.1.length≤1000000 then .ok (.tup x.1,x.2)else .bad
def Mj(i:Nat)(a:hg):bp:=fun ρ=>(a ρ).bind fun x=>(dH i x.1 x.2).bind fun bC=>.ok (.bJ bC)
def Mc(a:hg):bp:=fun ρ=>(a ρ).bind fun x=>.ok (.bJ x.2)
end
section
variable{F:bj}
def del(H:ae)(a:VD):ae:=fun b=>if b=a then none else H b
theorem HX{H:ae}{a:VD}:del H a a=none:=by simp[del]
theorem HW{H:ae}{a b:VD}(h:b≠a):del H a b=H b:=by simp[del,h]
theorem vq(H:ae)(a:VD):Sub (del H a) H:=fun b o e=>by
 unfold del at e
 split at e
 ·cases e
 ·exact e
theorem Rel.drop{G H:ae}{σ :St}{ρ:ar}(r:Rel F G H σ ρ)(i:Nat):Rel F G H σ (ρ.set i .un):=by
 by_cases af:i<ρ.length
 ·have hs:i< σ.length:=by rw[r.len];exact af
  have z:=r.oX (s:=.un) (o:= σ[i]) af trivial fun _ f=>f.elim;rw[bo.yy (Vz hs)]at z;exact z
 ·rw[XJ (by omega)];exact r
end
section
variable{F:bj}
end
end bo
namespace bo
open PySem PySem.Spec aY PyProof.Rows
section
variable{X:aD}{F:bj}{e a b c:V3}{es:List V3}{pos p:Pos}{m n:aJ}{ma:aZ}
noncomputable def Dy(i:Nat)(m:aJ):hg:=fun ρ=>(ownAt i ρ).bind fun ds=>(m ρ).bind fun d=>match d with
 |.int k=>if-(2^63)≤k∧k<2^63 then match Z6 k ds.length with
  |some j=>match ds[j]? with
   |some y=>.ok (y,ρ.set i (.en (ds.eraseIdx j)))
   |none=>.bad
  |none=>.bad
  else .bad
 |_=>.bad
noncomputable def L8(i:Nat)(m:hg):bp:=fun ρ=>(ownAt i ρ).bind fun _=>(m ρ).bind fun x=>(ownAt i x.2).bind fun ds=>if ds.length<1000000 then .ok (.bJ (x.2.set i (.en (ds++[x.1]))))else .bad
noncomputable def s6:List D→R (List D)
 |[.lst xs]=>.ok xs
 |[.cP xs]=>.ok xs
 |[.tup xs]=>.ok xs
 |[.cX xs]=>.ok xs
 |_=>.bad
def qV(m:aZ):aZ:=fun ρ=>(m ρ).bind s6
theorem Ka(aX:F.K=X.K):eE (hA F (qV ma)) (rt (fun xs H Q=>∃p ys,xs=[.ref p]∧(bQ X.K H p ys∨cz X.K H p ys)∧∀l,H l=none→Q (.ref l) (upd H l (.lst ys))) (eb F ma)):=by
 rintro σ H Q ⟨G,ρ,r,h⟩;unfold qV at h;refine⟨G,ρ,r,?_⟩;cases ax:ma ρ with
 |bad=>rw[ax]at h;exact h.elim
 |exc c=>rw[ax]at h;exact h
 |ok ds=>
  rw[ax,R.bI]at h;intro vs H1 aL au s1 a;unfold s6 at h
  split at h
  ·obtain⟨v,rfl,bc⟩:=a.one;simp only[At]at bc;obtain⟨q,xs,rfl,aS,fI⟩:=bc;refine⟨q,xs,rfl,.inl (bQ.of (au.aG.sub _ _ aS)),fun l ak=>?_⟩;exact h l xs _ aL (au.lay0 ak) (s1.trans (b3.lay0 ak)) (s1.h.gone ak) dI (au.aG.sub.gone ak) fI
  ·obtain⟨v,rfl,bc⟩:=a.one;simp only[At]at bc;obtain⟨q,xs,rfl,aS,fI⟩:=bc;refine⟨q,xs,rfl,.inl (by rw[←aX];exact bQ.mono au.aG.sub aS),fun l ak=>?_⟩;exact h l xs _ aL (au.lay0 ak) (s1.trans (b3.lay0 ak)) (s1.h.gone ak) dI (au.aG.sub.gone ak) fI
  ·obtain⟨v,rfl,bc⟩:=a.one;simp only[At]at bc;obtain⟨q,xs,rfl,aS,fI⟩:=bc;refine⟨q,xs,rfl,.inr (cz.of (au.aG.sub _ _ aS)),fun l ak=>?_⟩;exact h l xs _ aL (au.lay0 ak) (s1.trans (b3.lay0 ak)) (s1.h.gone ak) dI (au.aG.sub.gone ak) fI
  ·obtain⟨v,rfl,bc⟩:=a.one;simp only[At]at bc;obtain⟨q,xs,rfl,aS,fI⟩:=bc;refine⟨q,xs,rfl,.inr (by rw[←aX];exact cz.mono au.aG.sub aS),fun l ak=>?_⟩;exact h l xs _ aL (au.lay0 ak) (s1.trans (b3.lay0 ak)) (s1.h.gone ak) dI (au.aG.sub.gone ak) fI
  ·exact h.elim
noncomputable def s7:List D→R (List D)
 |[.int j]=>if-(2^62)≤j∧j≤1000000 then .ok (g7 0 j.toNat)else .bad
 |_=>.bad
def Mf(m:aZ):aZ:=fun ρ=>(m ρ).bind s7
def Mq:List D→R D
 |[.int i,.int j]=>.ok (.int (if j>i then j else i))
 |_=>.bad
noncomputable def QT:List D→R D
 |[.int i]=>.ok (.int i)
 |[.aU k]=>.ok (.int (if k then 1 else 0))
 |[.str x]=>if x.length≤640 then match intText? x with|some i=>.ok (.int i)|none=>.bad else .bad
 |_=>.bad
def rr:List D→Option (List Str)
 |[]=>some []
 |.str x::r=>(rr r).map (x::·)
 |_=>none
theorem Fp{K:PySem.W.Frag}{G:ae}:∀{ds:List D}{xs:List V}{ys:List Str},aO K G ds xs→rr ds=some ys→xs=ys.map V.str
 |[],_,_,h,e=>by simp only[aO]at h;subst h;cases e;rfl
 |d::ds,_,_,h,e=>by
  simp only[aO]at h;obtain⟨v,r,rfl,q,t⟩:=h;cases d with
  |str x=>
   unfold rr at e;cases dn:rr ds with
   |none=>rw[dn]at e;cases e
   |some zs=>rw[dn]at e;cases e;simp only[At]at q;rw[q,Fp t dn];rfl
  |_=>cases e
noncomputable def wI(sep:Str):List D→R D
 |[.lst ds]=>match rr ds with
  |some ys=>if(ys.map (·.length)).sum+ys.length*sep.length≤16777216 then .ok (.str (Txt.join sep ys))else .bad
  |none=>.bad
 |_=>.bad
def tg(set:D→ar→R ar)(m:aJ):bp:=fun ρ=>(m ρ).bind fun d=>(set d ρ).bind fun bC=>.ok (.bJ bC)
theorem P2{n:Nat}{mf:List D→R cc}{xe:cj→Str→ae→Prop}{E:cj}{aL H1:ae}{σ :aY.St}{ρ:ar}{ds:List D}{vs:List V}{Q:cD}(av:F.hE=xe E)(au:Rel F aL H1 σ ρ)(a:aO F.K aL ds vs)(aK:ds.length=n)(h:hQ F aL H1 σ ρ Q ((mf ds).bind l3)):kZ F.K n xe mf vs H1 Q E:=by
 refine⟨aL,ds,au.aG.sub,a,aK,?_⟩;cases e:mf ds with
 |bad=>rw[e]at h;exact h.elim
 |exc c=>rw[e]at h;intro G' H' k;have z:=h G' H' (dV.of au k).aG;rw[av]at z;exact z
 |ok t=>
  rw[e,R.bI]at h;cases t with
  |v d=>exact fun v G' H' k bc=>h v H' G' (dV.of au k) ⟨k.eh,k.bF,k.new⟩ bc
  |o es=>intro p xs G' H' k h1 h2 h3 h4;have h2:H1 p=none:=h2;have bq:=dV.of au k;have no:¬dq H' σ ρ p:=dq.fresh au k.bF h2;refine h (.ref p) H' _ (bq.take h3 h1 (au.aG.bF.gone h2) no) (b3.put ⟨k.eh,k.bF,k.new⟩ h2 h1) ?_;simp only[At];exact⟨p,xs,rfl,dI,h4.mono (Sub.upd h1)⟩
  |t t=>intro v G' H' k q;obtain⟨a1,a2,eX⟩:=(dV.of au k).FQ (F':=⟨F.K,aL,H1,xe E⟩) rfl q ⟨k.eh,k.bF,k.new⟩ fun b J=>⟨(q.own b J).2,au.aG.bF.gone (q.own b J).2,dq.fresh au k.bF (q.own b J).2⟩;exact h v H' _ a1 a2 eX
end
section
variable{X:aD}{F:bj}{e a b c:V3}{es:List V3}{pos p:Pos}{m n:aJ}{ma:aZ}
end
end bo
namespace bo
open PySem PySem.Spec aY
structure GV(X:aD)(F:bj)(e:V3)(m:hg):Prop where
 o:a3 X e (Qk F m)
section
variable{X:aD}{F:bj}{e a b c bz iter elt:V3}{es:List V3}{pos p:Pos}{m n:aJ}{ma:aZ}{st:WO}{k6:List WO}
theorem RL(hm:X.mg "list"=none)(ah:eW X F [e] ma)(aX:F.K=X.K:=by rfl)(aF:da X "list":=by rfl)(he:VA [e] X.env=(false,WW e X.env)::VA [] X.env:=by rfl)(cI:(Wu pos (VA [] X.env)).any (·.1)=false:=by rfl):j3 X F (.Call (.Name "list" p) [e] [] pos) (qV ma):=⟨have ah:=ah.1;a3.imp (xo Hr aF hm (by kernel_rfl) ah (by decide) (by decide) he cI) (Ka aX)⟩
theorem RV{bz:V3}{set:D→ar→R ar}(he:a8 X F e m)(aF:GM X bz set)(aX:F.K=X.K:=by rfl)(hs:swapsWithSole [bz] e pos.line X.env=pure false:=by rfl)(hw:swappedStores [bz] e X.env=pure none:=by rfl)(h1:(Xm [bz] X.env).map (·.2)=[YC bz X.env]:=by rfl):e7 X F (.Assign [bz] e pos) (tg set m):=⟨by
 have he:=he.1;obtain⟨⟨g,g1,g2⟩,g3,_⟩:=aF;refine c7.imp (Oi he g1 hs hw h1) ?_;rintro cf σ H ⟨G,ρ,r,h⟩;unfold tg at h;refine⟨G,ρ,r,?_⟩;cases ax:m ρ with
 |bad=>rw[ax]at h;exact h.elim
 |exc c=>rw[ax]at h;exact h
 |ok d=>
  rw[ax,R.bI]at h;intro v H1 aL au s1 bc;cases es:set d ρ with
  |bad=>rw[es]at h;exact h.elim
  |exc c=>exact absurd es (g3 d ρ c)
  |ok bC=>rw[es]at h;exact g2 F aX σ ρ aL H1 v d _ bC au bc es fun σ' bq=>h σ' aL H1 bq s1.g⟩
end
theorem dE.inj{K:PySem.W.Frag}{c:Str}{C hY:VD}(h:dE K c C)(h':dE K c hY):C=hY:=by unfold dE at h h';rw[h]at h';cases h';rfl
theorem Dk{K:PySem.W.Frag}{G:ae}{f:Str}{d:D}:∀{xs:List (Str×V)}{ds:List D},aO K G ds (xs.map (·.2))→((xs.map (·.1)).zip ds).lookup f=some d→∃v,xs.lookup f=some v∧At K G d v
 |[],_,_,e=>by simp at e
 |(k,v)::xs,[],h,_=>by have:=h.length;simp at this
 |(k,v)::xs,e::ds,h,l=>by
  simp only[Ws,aO]at h;obtain⟨iJ,r,ao,a,t⟩:=h;cases ao;simp only[Ws,List.zip_cons_cons,XD]at l ⊢;cases aH:f==k with
  |true=>rw[aH]at l;cases l;exact⟨v,rfl,a⟩
  |false=>rw[aH]at l;exact Dk t l
theorem Dl{f:Str}:∀{xs:List (Str×V)},(xs.map (·.1)).all (fun k=>!(f==k))=true→xs.lookup f=none
 |[],_=>rfl
 |(k,v)::xs,h=>by simp only[Ws,Yg,V6,YI]at h;rw[XD,h.1];exact Dl (by simpa using h.2)
structure rI(K:PySem.W.Frag)(c:Str)(aT:List Str):Prop where
 ex:∃C,dE K c C∧ia K C∧∀f∈aT,mA K C f
noncomputable def lG(c f:Str):D→R D
 |.ins d3 ns ds=>if d3=c then match(ns.zip ds).lookup f with
  |some d=>.ok d
  |none=>.bad
  else .bad
 |_=>.bad
section
variable{X:aD}{F:bj}{e a b c o:V3}{es:List V3}{pos p:Pos}{m n:aJ}{ma:aZ}
structure pB(P:VR)(w:V9)(K:PySem.W.Frag)(mg:Str→Option Vw)(base:Wv)(bt mt:Str)(n k:Nat)(mf:List D→R cc):Prop where
 ex:∃(C f:VD)(fd:WM)(aP:List Str),dE K bt C∧ia K C∧Meth K C mt f∧gs P w K mg base ha k f fd aP (kY K (n+1) mf)∧Binds K fd aP []
noncomputable def yw(bt mt:Str):D→R D
 |.ins d3 ns ds=>if d3=bt∧ns.all (fun k=>!(mt==k))=true then .ok (.ins d3 ns ds)else .bad
 |_=>.bad
noncomputable def m7(bt mt:Str)(n:Nat)(mf:List D→R cc)(o:aJ)(ma:aZ):aJ:=fun ρ=>(o ρ).bind fun d=>(yw bt mt d).bind fun d=>(ma ρ).bind fun ds=>if ds.length=n then(mf (d::ds)).bind l3 else .bad
theorem Ke{bt mt:Str}{n:Nat}{mf:List D→R cc}{C:VD}{E:cj}(av:F.hE=fun _ _=>False)(eP:dE F.K bt C):eE (cJ F (m7 bt mt n mf m ma)) (FE C mt (kY F.K (n+1) mf) [] E (cJ F m) (eb F ma)):=by
 rintro σ H Q ⟨G,ρ,r,h⟩;unfold m7 at h;refine⟨G,ρ,r,?_⟩;cases ax:m ρ with
 |bad=>rw[ax]at h;exact h.elim
 |exc c=>rw[ax]at h;exact h
 |ok d=>
  rw[ax,R.bI]at h;intro x H1 aL au s1 bV;cases d with
  |ins d3 ns ds=>
   simp only[yw]at h
   split at h
   ·rename_i aq;obtain⟨wa,ka⟩:=aq;subst wa;have Hd:=bV;simp only[At]at bV;obtain⟨q,a5,xs,rfl,⟨hY,bE,g1⟩,rfl,al⟩:=bV;have:=bE.inj eP;subst this;refine⟨q,a5,xs,rfl,au.aG.sub _ _ g1,Dl ka,aL,ρ,au,?_⟩;rw[R.bI]at h;cases bx:ma ρ with
    |bad=>rw[bx]at h;exact h.elim
    |exc c=>rw[bx]at h;exact h
    |ok es=>
     rw[bx,R.bI]at h;intro vs aM cC bl s2 bc;by_cases aK:es.length=n
     ·rw[if_pos aK]at h;rw[WD];exact P2 (xe:=fun _ _ _=>False) av bl (.cons (Hd.mono s2.g) bc) (by simp[aK]) (h.mono (s1.trans s2))
     ·rw[if_neg aK]at h;exact h.elim
   ·exact h.elim
  |_=>exact h.elim
def CY:D→Option Key
 |.int i=>some (.inl i)
 |.str x=>some (.inr x)
 |_=>none
noncomputable def sY:List D→Option (List Key)
 |[]=>some []
 |d::ds=>match CY d,sY ds with
  |some k,some aI=>some (k::aI)
  |_,_=>none
def wK:D→Option (List Key)
 |.tup ds=>sY ds
 |_=>none
theorem Lf{K:PySem.W.Frag}{G:ae}{d:D}{v:V}{k:Key}(e:CY d=some k)(a:At K G d v):v=cB k:=by
 cases d<;>first
  |(cases e;done)
  |(cases e;simp only[At]at a;exact a)
theorem C0{K:PySem.W.Frag}{G:ae}:∀{ds:List D}{vs:List V}{aI:List Key},sY ds=some aI→aO K G ds vs→vs=aI.map cB
 |[],_,_,e,a=>by simp only[aO]at a;subst a;cases e;rfl
 |d::ds,_,_,e,a=>by
  simp only[aO]at a;obtain⟨v,r,rfl,bc,kx⟩:=a;unfold sY at e
  split at e
  ·rename_i k aI ao aA;cases e;rw[Lf ao bc,C0 aA kx];rfl
  ·cases e
theorem CZ{K:PySem.W.Frag}{G:ae}{d:D}{v:V}{aI:List Key}(e:wK d=some aI)(a:At K G d v):∃b,v=.ref b∧G b=some (.tup (aI.map cB)):=by
 cases d with
 |tup ds=>simp only[At]at a;obtain⟨b,xs,rfl,J,al⟩:=a;exact⟨b,rfl,by rw[J,C0 e al]⟩
 |_=>cases e
theorem y9{cU:Type}[DecidableEq cU](k:cU):∀a6:List (cU×V),(g8 a6 k).isSome=(a6.map (·.1)).any (fun x=>decide (x=k))
 |[]=>rfl
 |(x,v)::a6=>by
  have cW:=y9 k a6;unfold g8 at cW ⊢;rw[Xf,Ws,XN];by_cases h:x=k
  ·simp[h]
  ·simp only[h,decide_false,Bool.false_or];exact cW
noncomputable def j6(b:Bool)(k d:D):R D:=match d with
 |.cA aI _=>match wK k with
  |some df=>.ok (.aU (if b then aI.any (fun x=>decide (x=df))else !aI.any (fun x=>decide (x=df))))
  |none=>.bad
 |_=>.bad
theorem A0{b:Bool}{σ :St}{ρ:ar}{G H:ae}{y x:V}{p5 dd:D}{Q:cD}(r:Rel F G H σ ρ)(cS:At F.K G p5 y)(bV:At F.K G dd x)(h:hQ F G H σ ρ Q (j6 b p5 dd)) :
  ∃a o,x=.ref a∧lj H a y o∧Q (.aU (if b then o.isSome else !o.isSome)) H:=by
 unfold j6 at h
 split at h
 ·rename_i aI ds
  split at h
  ·rename_i df gX;simp only[At]at bV;obtain⟨a,xs,rfl,aF,rfl,al⟩:=bV;obtain⟨q,rfl,aS⟩:=CZ gX cS;refine⟨a,g8 xs df,rfl,lj.t (r.aG.sub _ _ aF) (r.aG.sub _ _ aS),?_⟩;rw[y9];exact h _ H G r (b3.refl _ _) (by simp only[At])
  ·exact h.elim
 ·exact h.elim
theorem CI:eE (cJ F (aE (j6 true) m n)) (Fx (cJ F m) (cJ F n)):=by
 rintro σ H Q ⟨G,ρ,r,h⟩;unfold aE at h;refine⟨G,ρ,r,?_⟩;cases ax:m ρ with
 |bad=>rw[ax]at h;exact h.elim
 |exc c=>rw[ax]at h;exact h
 |ok p5=>
  rw[ax,R.bI]at h;intro y H1 aL au s1 cS;refine⟨aL,ρ,au,?_⟩;cases bx:n ρ with
  |bad=>rw[bx]at h;exact h.elim
  |exc c=>rw[bx]at h;exact h
  |ok dd=>rw[bx,R.bI]at h;intro x aM cC bl s2 bV;exact A0 (b:=true) bl (cS.mono s2.g) bV (h.mono (s1.trans s2))
theorem J5:eE (cJ F (aE (j6 false) m n)) (Fy (cJ F m) (cJ F n)):=by
 rintro σ H Q ⟨G,ρ,r,h⟩;unfold aE at h;refine⟨G,ρ,r,?_⟩;cases ax:m ρ with
 |bad=>rw[ax]at h;exact h.elim
 |exc c=>rw[ax]at h;exact h
 |ok p5=>
  rw[ax,R.bI]at h;intro y H1 aL au s1 cS;refine⟨aL,ρ,au,?_⟩;cases bx:n ρ with
  |bad=>rw[bx]at h;exact h.elim
  |exc c=>rw[bx]at h;exact h
  |ok dd=>rw[bx,R.bI]at h;intro x aM cC bl s2 bV;exact A0 (b:=false) bl (cS.mono s2.g) bV (h.mono (s1.trans s2))
def wW(i:Nat):bp:=fun ρ=>if i<ρ.length then .ok (.bJ (ρ.set i (.bg (.cA [] []))))else .bad
noncomputable def putD(aI:List (List Key))(ds:List D)(df:List Key)(d:D):R jt:=if aI.any (fun x=>decide (x=df))=false∧aI.length<1000000 then .ok (.cA (aI++[df]) (ds++[d]))else .bad
noncomputable def s9(i:Nat)(mk kg:aJ):bp:=fun ρ=>(kg ρ).bind fun v=>match ρ[i]? with
 |some (.bg (.cA aI ds))=>(mk ρ).bind fun k=>match wK k with
  |some df=>(putD aI ds df v).bind fun o=>.ok (.bJ (ρ.set i (.bg o)))
  |none=>.bad
 |_=>.bad
def tf(m:aJ):bp:=fun ρ=>(m (fK ρ)).bind fun d=>.ok (.eA d)
end
mutual
noncomputable def jE:D→Bool
 |.ins _ _ _=>false
 |.tup ds=>kU ds
 |.lst ds=>kU ds
 |.cP ds=>kU ds
 |.dc _ ds=>kU ds
 |.cA _ ds=>kU ds
 |.cX ds=>kU ds
 |_=>true
noncomputable def kU:List D→Bool
 |[]=>true
 |d::ds=>jE d&&kU ds
end
def qH:dj→Bool
 |.ins _ _ _=>true
 |_=>false
section
variable{K:PySem.W.Frag}{G G':ae}
theorem f7.off(h:∀b o,G b=some o→qH o=false→G' b=some o){a:VD}{u:dj}(aN:qH u=false)(r:f7 G a u):f7 G' a u:=by
 rcases r with r|⟨o,r⟩
 ·exact .inl (h _ _ r aN)
 ·exact .inr ⟨o,h _ _ r rfl⟩
mutual
theorem At.off(h:∀b o,G b=some o→qH o=false→G' b=some o):∀{d:D}{v:V},jE d=true→At K G d v→At K G' d v
 |.non,_,_,q=>by simpa only[At]using q
 |.aU _,_,_,q=>by simpa only[At]using q
 |.int _,_,_,q=>by simpa only[At]using q
 |.str _,_,_,q=>by simpa only[At]using q
 |.tup _,_,n,q=>by simp only[At,jE]at q n ⊢;obtain⟨a,xs,e,g,r⟩:=q;exact⟨a,xs,e,h _ _ g rfl,aO.off h n r⟩
 |.lst _,_,n,q=>by simp only[At,jE]at q n ⊢;obtain⟨a,xs,e,g,r⟩:=q;exact⟨a,xs,e,h _ _ g rfl,aO.off h n r⟩
 |.cP _,_,n,q=>by
  simp only[At,jE]at q n ⊢;obtain⟨a,xs,e,g,r⟩:=q;refine⟨a,xs,e,?_,aO.off h n r⟩;rcases g with g|g
  ·exact .inl (f7.off h rfl g)
  ·exact .inr g
 |.cX _,_,n,q=>by
  simp only[At,jE]at q n ⊢;obtain⟨a,xs,e,g,r⟩:=q;refine⟨a,xs,e,?_,aO.off h n r⟩;rcases g with g|g
  ·exact .inl (f7.off h rfl g)
  ·exact .inr g
 |.dc _ _,_,n,q=>by simp only[At,jE]at q n ⊢;obtain⟨a,xs,e,g,k,r⟩:=q;exact⟨a,xs,e,h _ _ g rfl,k,aO.off h n r⟩
 |.cA _ _,_,n,q=>by simp only[At,jE]at q n ⊢;obtain⟨a,xs,e,g,k,r⟩:=q;exact⟨a,xs,e,h _ _ g rfl,k,aO.off h n r⟩
 |.ins _ _ _,_,n,_=>by simp only[jE]at n;cases n
 |.i0 _,_,n,q=>by simp only[At]at q ⊢;obtain⟨a,xs,e,⟨C,bE,g⟩,r⟩:=q;exact⟨a,xs,e,⟨C,bE,h _ _ g rfl⟩,r⟩
 |.fn _,_,n,q=>by simpa only[At]using q
theorem aO.off(h:∀b o,G b=some o→qH o=false→G' b=some o):∀{ds:List D}{vs:List V},kU ds=true→aO K G ds vs→aO K G' ds vs
 |[],_,_,q=>by simpa only[aO]using q
 |_::_,_,n,q=>by simp only[aO,kU,V6]at q n ⊢;obtain⟨v,r,e,a,t⟩:=q;exact⟨v,r,e,At.off h n.1 a,aO.off h n.2 t⟩
end
end
def PM:dx→Bool
 |.bg (.ins _ _ _)=>true
 |.bg _=>false
 |.ed _=>false
 |_=>true
def Eb(ρ:ar):Bool:=ρ.all PM
def s8(m:aJ):aJ:=fun ρ=>(m (fK ρ)).bind fun d=>if jE d=true∧Eb ρ=true then .ok d else .bad
section
variable{F:bj}
open Classical in
noncomputable def n_(H:ae)(σ :St)(ρ:ar)(G:ae):ae:=fun b=>if dq H σ ρ b then none else G b
theorem J0{m:aJ}:eE (cJ F (s8 m)) (cJ F m):=by
 rintro σ H Q ⟨G,ρ,r,h⟩;refine⟨jw σ ρ G H,fK ρ,r.plus,?_⟩;unfold s8 at h;cases ax:m (fK ρ)with
 |bad=>rw[ax]at h;exact h.elim
 |exc c=>rw[ax]at h;exact h
 |ok d=>
  rw[ax,R.bI]at h;intro v H' G' bq s' a;by_cases hd:jE d=true∧Eb ρ=true
  ·rw[if_pos hd]at h;have Eh:∀b,dq H σ ρ b→G b=none:=fun b z=>(r.foot z).2.1;have Eg:∀b,dq H σ ρ b→F.H0 b=none:=fun b z=>(r.foot z).2.2;have NI:∀b,dq H σ ρ b→∃aB,H b=some aB∧qH aB=true:=fun b⟨i,s,o,ao,aA,f⟩=>by
    have af:=List.all_eq_true.mp hd.2 _ (VX ao);cases s with
    |un=>exact f.elim
    |b4 _=>exact f.elim
    |ed _=>cases af
    |bg bg=>
     have f:o=some (.ref b):=f;obtain⟨c,aB,b9,h1,_,_,h4⟩:=r.obj ao;rw[aA,f]at b9;cases b9;cases bg with
     |lst _=>cases af
     |cA _ _=>cases af
     |ins _ _ _=>obtain⟨C,a5,xs,_,rfl,_⟩:=h4;exact⟨_,h1,rfl⟩
   have off:∀b,¬dq H σ ρ b→n_ H σ ρ G' b=G' b:=fun b n=>by unfold n_;rw[if_neg n]
   have on:∀b,dq H σ ρ b→n_ H σ ρ G' b=none:=fun b n=>by unfold n_;rw[if_pos n]
   have a4:Sub G (n_ H σ ρ G'):=fun b o e=>by
    have n:¬dq H σ ρ b:=fun z=>by rw[Eh b z]at e;cases e
    rw[off b n];exact s'.g b o (vR r b o e)
   have Lb:∀b,dq H σ ρ b→∀o,H b=some o→H' b=some o:=fun b z o e=>bq.aG.sub _ _ (s'.g _ _ (by rw[ql z];exact e));have rel:Rel F (n_ H σ ρ G') H' σ ρ:=by
    refine r.over rfl ⟨fun b o e=>?_,r.aG.eh.trans a4,bq.aG.bF,fun b J=>?_⟩ a4 fun b en=>?_
    ·by_cases n:dq H σ ρ b
     ·rw[on b n]at e;cases e
     ·rw[off b n]at e;exact bq.aG.sub b o e
    ·have n:¬dq H σ ρ b:=fun z=>J (Eg b z);rw[off b n];exact bq.aG.new b J
    ·refine⟨?_,on b en,Eg b en⟩;cases bx:H b with
     |none=>exact absurd bx (r.foot en).1
     |some o=>exact Lb b en o bx
   refine h v H' _ rel ⟨a4,s'.h,fun b J=>?_⟩ (At.off (fun b o e af=>?_) hd.1 a)
   ·by_cases n:dq H σ ρ b
    ·rw[on b n,Eh b n]
    ·rw[off b n,s'.n b J];unfold jw;rw[if_neg n]
   ·have n:¬dq H σ ρ b:=fun z=>by
      obtain⟨aB,ao,aA⟩:=NI b z;have:=s'.g b aB (by rw[ql z];exact ao);rw[e]at this;cases this;rw[af]at aA;cases aA
    rw[off b n];exact e
  ·rw[if_neg hd]at h;exact h.elim
abbrev ic:=ar→R ar
noncomputable def K7(F:bj)(σ :St)(cf:Ends):R ar→Prop
 |.ok bC=>∀G' H',Rel F G' H' σ bC→cf.bJ σ H'
 |.exc c=>i7 F c
 |.bad=>False
def nk(F:bj)(m:ic):et:=fun cf σ H=>∃G ρ,Rel F G H σ ρ∧K7 F σ cf (m ρ)
def lV(a b:ic):ic:=fun ρ=>(a ρ).bind b
theorem Kt{a b:ic}:hF (nk F (lV a b)) (yN (nk F a) (nk F b)):=by
 rintro cf σ H ⟨G,ρ,r,h⟩;unfold lV at h;refine⟨G,ρ,r,?_⟩;cases ax:a ρ with
 |bad=>rw[ax]at h;exact h.elim
 |exc c=>rw[ax]at h;exact h
 |ok eD=>rw[ax,R.bI]at h;exact fun G' H' bq=>⟨G',eD,bq,h⟩
theorem xy{f:Str}{v:V}:∀{aT:List (Str×V)},(aT.map (·.1)).all (fun k=>!(f==k))=true→gi f v aT=aT++[(f,v)]
 |[],_=>rfl
 |(g,x)::aT,h=>by
  simp only[Ws,Yg,V6,YI]at h;have ne:g≠f:=fun z=>by subst z;simp at h
  rw[gi,if_neg ne,xy (by simpa using h.2)];rfl
noncomputable def m6(bt f:Str)(m:aJ):ic:=fun ρ=>(m ρ).bind fun d=>match(ρ[0]? :Option dx)with
 |some (.bg (.ins d3 ns ds))=>if d3=bt∧ns.all (fun k=>!(f==k))=true∧ns.length<1000 then .ok (ρ.set 0 (.bg (.ins bt (ns++[f]) (ds++[d]))))else .bad
 |_=>.bad
end
section
variable{X:aD}{F:bj}{e o:V3}{pos:Pos}{m:aJ}
theorem Pd{bt f x:Str}{aT:List Str}{b1 pos':Pos}(k:rI X.K bt aT)(he:ib X F e m)(hf:f∈aT:=by decide+kernel)(bR:X.N[0]?=some x:=by rfl)(bS:hJ X.env.scope x:=by first|exact XA rfl|exact W8 (XA rfl)|exact W8 (W8 rfl))(hd:(x==("__debug__" :Str))=false:=by decide)(ei:(x==("__classdict__" :Str))=false:=by decide)(hs:oN e=true:=by rfl)(aX:F.K=X.K:=by rfl) :
  c7 X (.Assign [.Attribute (.Name x b1) f pos'] e pos) (nk F (m6 bt f m)):=by
 refine c7.imp (Ot (nf bR bS hd ei) he (o2 _ _ _ _ hs)) ?_;rintro cf σ H ⟨G,ρ,r,h⟩;unfold m6 at h;refine⟨G,ρ,r,?_⟩;cases ax:m ρ with
 |bad=>rw[ax]at h;exact h.elim
 |exc c=>rw[ax]at h;exact h
 |ok d=>
  rw[ax,R.bI]at h;intro v H1 aL au s1 bc
  split at h
  ·rename_i d3 ns ds dn
   split at h
   ·rename_i aq;obtain⟨rfl,ka,I1⟩:=aq;obtain⟨q,aB,ao,h1,h2,h3,C,a5,xs,bE,rfl,rfl,al⟩:=au.obj dn;obtain⟨hY,k1,k2,k3⟩:=k.ex;rw[aX]at bE;have:=bE.inj k1;subst this;refine⟨.ref q,ao,q,C,a5,xs,rfl,h1,k2,k3 f hf,by simpa using I1,?_⟩;refine h aL _ (au.xf dn ao ⟨C,a5,gi f v xs,by rw[aX];exact bE,rfl,?_,?_⟩)
    ·rw[xy ka];simp
    ·rw[xy ka,List.map_append];exact al.snoc bc
   ·exact h.elim
  ·exact h.elim
end
noncomputable def qW(bt:Str)(n:Nat)(mf:List D→R (List Str×List D))(ma:aZ):aJ:=fun ρ=>(ma ρ).bind fun ds=>if ds.length=n then(gO (mf ds)).bind fun x=>.ok (.ins bt x.1 x.2)else .bad
section
variable{X:aD}{F:bj}{e:V3}{es:List V3}{pos p:Pos}{ma:aZ}
end
def i6(bt:Str)(es:List D):ar:=.bg (.ins bt [] [])::es.map .b4
theorem OX{K:PySem.W.Frag}{G H:ae}{hE:Str→ae→Prop}{bt:Str}{C a5 x:VD}{es:List D}{ws:List V}(eP:dE K bt C)(h1:H x=some (.ins C a5 []))(h2:G x=none)(s:Sub G H)(bc:aO K G es ws) :
  Rel ⟨K,G,del H x,hE⟩ G H (some (.ref x)::ws.map some) (i6 bt es):=by
 refine⟨⟨s,Sub.refl _,vq H x,fun _ _=>rfl⟩,by simp[i6,bc.length],fun i t e=>?_,fun i j b aT sv o bk a_ a7 _ _ f qc=>?_⟩
 ·cases i with
  |zero=>simp[i6]at e;subst e;exact⟨some (.ref x),by simp,x,_,rfl,h1,h2,HX,C,a5,[],eP,rfl,rfl,.nil⟩
  |succ i=>
   simp only[i6,Xk]at e ⊢;rw[VW]at e;cases d5:es[i]? with
   |none=>rw[d5]at e;cases e
   |some d=>rw[d5]at e;cases e;obtain⟨v,ao,a⟩:=bc.get d5;exact⟨some v,by rw[VW,ao];rfl,v,rfl,a⟩
 ·have one:∀{i:Nat}{aT:dx}{o:Option V},(i6 bt es)[i]?=some aT→fs H aT o b→i=0:=fun{i aT o} e f=>by
    cases i with
    |zero=>rfl
    |succ i=>
     simp only[i6,Xk,VW]at e;cases d5:es[i]? with
     |none=>rw[d5]at e;cases e
     |some d=>rw[d5]at e;cases e;exact f.elim
  rw[one a_ f,one a7 qc]
end bo
namespace bo
open PySem PySem.Spec aY PyProof.Rows
theorem P_{N:List Str}{vs:List V}(h:vs.length=N.length):aY.start N vs=vs.map some:=by unfold aY.start;simp[h]
theorem Mm{P:VR}{w:V9}{K:PySem.W.Frag}{mg:Str→Option Vw}{base:Wv}{x qual bt je:Str}{st:WO}{N aP:List Str}{k:Nat}{m:bp}{C f:VD}{fd:WM}(fn:jV K x qual st f fd)(eP:dE K bt C)(aq:ia K C)(hm:Meth K C x f)(J:Binds K fd (je::aP) [])(S:c1 N (je::aP) (bW st))(h:∀(f:VD)(b6:Vw)(A:V0)(outer:List Env)(s:Vx)(H:ae)(E:cj),dg k (A.deeper (WC qual (bW st) s.heap.objs.size f b6))→∀G0 H0,hn (d4 ha P w K mg base N qual (bW st) f b6 A outer s H E).fL (eH K G0 H0) (fy st) m) :
  pB P w K mg base bt x aP.length (k+1) (c2 N.length m):=by
 refine⟨C,f,fd,je::aP,eP,aq,hm,fn.ok S tT fun b6 A outer s H vs Q E aw hs=>?_,J⟩;obtain⟨G,bH⟩:=r6 hs;exact⟨_,(h f b6 A outer s H E aw G H).1,bH⟩
section
variable{X:aD}{F:bj}{e a b c:V3}{es:List V3}{pos p:Pos}{m n:aJ}{ma:aZ}
noncomputable def nq:List D→R D
 |[.lst xs]=>.ok (.tup xs)
 |[.cP xs]=>.ok (.tup xs)
 |[.tup xs]=>.ok (.tup xs)
 |_=>.bad
theorem Nn(aX:F.K=X.K):mq F (fun xs H Q=>∃p ys,xs=[.ref p]∧((bQ X.K H p ys∧∀l,H l=none→Q (.ref l) (upd H l (.tup ys)))∨(cz X.K H p ys∧Q (.ref p) H))) nq:=by
 intro σ ρ G H xs ds Q r al k;unfold nq at k
 split at k
 ·obtain⟨v,rfl,bc⟩:=al.one;simp only[At]at bc;obtain⟨q,ys,rfl,aS,fI⟩:=bc;refine⟨q,ys,rfl,.inl ⟨bQ.of (r.aG.sub _ _ aS),fun l ak=>?_⟩⟩;refine k (.ref l) _ _ (r.lay ak) (b3.lay r.aG.sub ak) ?_;simp only[At];exact⟨l,ys,rfl,dI,fI.mono (Sub.upd (r.aG.sub.gone ak))⟩
 ·obtain⟨v,rfl,bc⟩:=al.one;simp only[At]at bc;obtain⟨q,ys,rfl,aS,fI⟩:=bc;refine⟨q,ys,rfl,.inl ⟨by rw[←aX];exact bQ.mono r.aG.sub aS,fun l ak=>?_⟩⟩;refine k (.ref l) _ _ (r.lay ak) (b3.lay r.aG.sub ak) ?_;simp only[At];exact⟨l,ys,rfl,dI,fI.mono (Sub.upd (r.aG.sub.gone ak))⟩
 ·obtain⟨v,rfl,bc⟩:=al.one;have Hc:=bc;simp only[At]at bc;obtain⟨q,ys,rfl,aS,fI⟩:=bc;exact⟨q,ys,rfl,.inr ⟨cz.of (r.aG.sub _ _ aS),k _ H G r (b3.refl _ _) Hc⟩⟩
 ·exact k.elim
end
end bo
namespace d0
open PySem PyProof.Rows
section
variable{prog:VR}{w:V9}{A:V0}{E:Vw→Vx→Prop}{s:Vx}
end
end d0
namespace aY
open PySem PySem.Spec PyProof.Rows
variable{X:aD}
end aY
namespace bo
open PySem PySem.Spec aY PyProof.Rows
section
variable{X:aD}{F:bj}{e a b c:V3}{es:List V3}{pos p:Pos}{m n:aJ}{ma:aZ}
noncomputable def sT(x y:D):R D:=match x,y with
 |.str i,.str j=>.ok (.aU (!(WS j i 0 j.length 1).isEmpty))
 |_,_=>.bad
theorem Ni:fF F (fun x y H Q=>∃i j,x=.str i∧y=.str j∧Q (.aU (!(WS j i 0 j.length 1).isEmpty)) H) sT:=by
 intro σ ρ G H x y a5 fh Q r bV cS k;unfold sT at k
 split at k
 ·rename_i i j;simp only[At]at bV cS;exact⟨i,j,bV,cS,k _ H G r (b3.refl _ _) (by simp only[At])⟩
 ·exact k.elim
instance(i j:Int):Decidable (IntMulOk i j):=by unfold IntMulOk;infer_instance
end
section
variable{X:aD}{F:bj}{e a b c:V3}{es:List V3}{pos p:Pos}{m n:aJ}{ma:aZ}
noncomputable def Dv(i:Nat)(m:aJ):aZ:=fun ρ=>(ownAt i ρ).bind fun ds=>(m ρ).bind fun d=>match d with
 |.lst es=>if ds.length+es.length≤1000000 then .ok (ds++es)else .bad
 |_=>.bad
end
end bo
namespace bo
open PySem PySem.Spec aY
section
variable{X:aD}{F:bj}{e a b c o bz iter elt:V3}{es:List V3}{pos p:Pos}{m n:aJ}{ma:aZ}{st:WO}{k6:List WO}
theorem o_{bt f:Str}{aT:List Str}(k:rI X.K bt aT)(he:a8 X F o m)(hf:f∈aT:=by decide+kernel)(aX:F.K=X.K:=by rfl)(J:Xj o f X.env (WW o X.env)=WW o X.env:=by rfl):a8 X F (.Attribute o f pos) (dG (lG bt f) m):=⟨by
 have he:=he.1;refine a3.imp (NU he J) ?_;rintro σ H Q ⟨G,ρ,r,h⟩;unfold dG at h;refine⟨G,ρ,r,?_⟩;cases ax:m ρ with
 |bad=>rw[ax]at h;exact h.elim
 |exc c=>rw[ax]at h;exact h
 |ok d=>
  rw[ax,R.bI]at h;intro x H1 aL au s1 bV;cases d with
  |ins d3 ns ds=>
   simp only[lG]at h
   split at h
   ·rename_i aq;subst aq
    split at h
    ·rename_i d' ak;simp only[At]at bV;obtain⟨q,a5,xs,rfl,⟨C,bE,g1⟩,rfl,al⟩:=bV;obtain⟨v,bS,bc⟩:=Dk al ak;obtain⟨hY,k1,k2,k3⟩:=k.ex;rw[aX]at bE;have:=bE.inj k1;subst this;exact⟨q,C,a5,xs,v,rfl,au.aG.sub _ _ g1,k2,k3 f hf,bS,h v H1 aL au s1 bc⟩
    ·exact h.elim
   ·exact h.elim
  |_=>exact h.elim⟩
theorem zf {bt mt:Str} {n k:Nat} {mf:List D→R cc} {pl:Sem Bool} {apos:Pos} (c:pB X.prog X.w X.K X.mg X.base bt mt n k mf) (aw:dg k X.A) (he:a8 X F o m) (ah:eW X F (e::es) ma) (gx:F.hE=fun _ _=>False:=by rfl) (aX:F.K=X.K:=by rfl) (dF:VA (e::es) X.env=(false,WW e X.env)::VA es X.env:=by rfl) (cI:(Wu pos (VA es X.env)).any (·.1)=false:=by rfl) (bH:WW (.Call (.Attribute o mt apos) (e::es) [] pos) X.env=(do
   let gA ←WW o X.env
   standAt apos.atName
   let(f,first) ←aag [gA] (Z4 gA mt pl)
   callWith pos f first (Wu pos (VA (e::es) X.env)) (Yt pos (Xs [] X.env))):=by rfl):a8 X F (.Call (.Attribute o mt apos) (e::es) [] pos) (m7 bt mt n mf m ma):=⟨by
 have he:=he.1;have ah:=ah.1;obtain⟨C,f,fd,aP,bE,c9,eY,gH,J⟩:=c.ex;refine a3.imp (NZ (pl:=pl) he c9 eY gH aw J .nil xn ah dF cI bH) ?_;rw[←aX];exact Ke gx (by rw[aX];exact bE)⟩
theorem Vs(aN:X.A.units+64<XE)(ah:a8 X F a m)(J:a8 X F b n)(h1:Wd .In b=false:=by with_unfolding_all rfl):a8 X F (.Compare a [.In] [b] pos) (aE (j6 true) m n):=⟨have ah:=ah.1;have J:=J.1;a3.imp (El (Ej (by omega) ah J) h1) CI⟩
theorem Rq(aN:X.A.units+64<XE)(ah:a8 X F a m)(J:a8 X F b n)(h1:Wd .NotIn b=false:=by with_unfolding_all rfl):a8 X F (.Compare a [.NotIn] [b] pos) (aE (j6 false) m n):=⟨have ah:=ah.1;have J:=J.1;a3.imp (El (NL (by omega) ah J) h1) J5⟩
theorem Gu(aN:X.A.units+64<XE)(ah:a8 X F a m)(J:a8 X F b n)(h1:Wd .In b=false:=by with_unfolding_all rfl):eO X F (.Compare a [.In] [b] pos) (b5 (aE (j6 true) m n)):=⟨by
 have ah:=ah.1;have J:=J.1;refine eG.imp (Oy (Ej (by omega) ah J) h1) fun σ H Q h=>?_;obtain⟨G,ρ,r,k⟩:=wC σ H Q h;exact CI σ H _ ⟨G,ρ,r,k⟩⟩
theorem RS(i:Nat){x:Str}{p q:Pos}(bR:X.N.Nodup)(af:X.N[i]?=some x:=by rfl)(av:Loc X.env.scope x:=by first|exact XA rfl|exact W8 rfl)(hf:X.fn x=true∨X.env.scope.names.lookup x=some .local:=by first|exact .inl rfl|exact .inr rfl):e7 X F (.Assign [.Name x p] (.Dict [] [] q) pos) (wW i):=⟨by
 refine c7.imp (xv bR af av NT (o2 _ _ _ _ rfl) hf) ?_;rintro cf σ H ⟨G,ρ,r,h⟩;unfold wW at h;intro a ah
 split at h
 ·rename_i ak;refine h _ G _ ((r.lay0 ah).setB ak dI (r.aG.sub.gone ah) (r.aG.bF.gone ah) ⟨[],rfl,rfl,.nil⟩ fun j es o _ ao aA f=>dq.fresh r (Sub.upd ah) ah ⟨j,es,o,ao,aA,f⟩) (Sub.refl _)
 ·exact h.elim⟩
theorem Gq(i:Nat){x:Str}{b1 pos':Pos}{k v:V3}{mk kg:aJ}(aN:X.A.units+64<XE)(aH:a8 X F k mk)(bS:a8 X F v kg)(bR:X.N[i]?=some x:=by rfl)(JP:hJ X.env.scope x:=by first|exact XA rfl|exact W8 (XA rfl)|exact W8 (W8 rfl))(hd:(x==("__debug__" :Str))=false:=by decide)(ei:(x==("__classdict__" :Str))=false:=by decide)(hs:oN v=true:=by rfl):e7 X F (.Assign [.Subscript (.Name x b1) k pos'] v pos) (s9 i mk kg):=⟨by
 have aH:=aH.1;have bS:=bS.1;refine c7.imp (Oo (by omega) (nf bR JP hd ei) aH bS (o2 _ _ _ _ hs)) ?_;rintro cf σ H ⟨G,ρ,r,h⟩;unfold s9 at h;refine⟨G,ρ,r,?_⟩;cases ax:kg ρ with
 |bad=>rw[ax]at h;exact h.elim
 |exc c=>rw[ax]at h;exact h
 |ok Sr=>
  rw[ax,R.bI]at h;intro v H1 aL au s1 bc
  split at h
  ·rename_i aI ds dn;obtain⟨q,aB,ao,_⟩:=au.obj dn;refine⟨.ref q,ao,aL,ρ,au,?_⟩;cases bx:mk ρ with
   |bad=>rw[bx]at h;exact h.elim
   |exc c=>rw[bx]at h;exact h
   |ok p5=>
    rw[bx,R.bI]at h;intro y aM cC bl s2 cS;obtain⟨cq,e_,lD,h1,h2,h3,xs,rfl,rfl,al⟩:=bl.obj dn;rw[ao]at lD;cases lD
    split at h
    ·rename_i df gX;unfold putD at h
     split at h
     ·rename_i aq;obtain⟨wa,ka⟩:=aq;obtain⟨Sm,rfl,v9⟩:=CZ gX cS;have aK:g8 xs df=none:=by
       have:=y9 df xs;rw[wa]at this;exact Option.not_isSome_iff_eq_none.mp (by rw[this];exact VZ)
      refine⟨q,_,rfl,pj.t h1 (bl.aG.sub _ _ v9) (Xt (by simpa using ka) (by decide)),?_⟩;rw[OD _ aK];refine h σ cC _ (bl.xf dn ao ⟨xs++[(df,v)],rfl,by simp,?_⟩) (s1.g.trans s2.g);rw[List.map_append];exact al.snoc (bc.mono s2.g)
     ·exact h.elim
    ·exact h.elim
  ·exact h.elim⟩
theorem RR(h:a8 X F e m):e7 X F (.Return (some e) pos) (tf m):=⟨by
 have h:=h.1;refine c7.imp (tI h) ?_;rintro cf σ H ⟨G,ρ,r,h⟩;unfold tf at h;refine⟨_,_,r.plus,?_⟩;cases ax:m (fK ρ)with
 |bad=>rw[ax]at h;exact h.elim
 |exc c=>rw[ax]at h;exact h
 |ok d=>rw[ax,R.bI]at h;exact fun v H' G' bq s' a=>h v G' H' bq.aG a⟩
theorem Rn(h:a8 X F e m):a8 X F e (s8 m):=⟨have h:=h.1;a3.imp h J0⟩
theorem zh(hm:X.mg "tuple"=none)(ah:eW X F [e] ma)(aX:F.K=X.K:=by rfl)(aF:da X "tuple":=by rfl)(he:VA [e] X.env=(false,WW e X.env)::VA [] X.env:=by rfl)(cI:(Wu pos (VA [] X.env)).any (·.1)=false:=by rfl):a8 X F (.Call (.Name "tuple" p) [e] [] pos) (dB nq ma):=⟨have ah:=ah.1;A5 Hu (Nn aX) hm (by kernel_rfl) ah aF (by decide) (by decide) he cI⟩
theorem Rt(ah:a8 X F a m)(J:a8 X F b n)(hm:Wd .In b=false:=by with_unfolding_all rfl):a8 X F (.Compare a [.In] [b] pos) (aE sT m n):=⟨have ah:=ah.1;have J:=J.1;sk Nx Ni ah J hm⟩
structure r2(X:aD)(F:bj)(st:WO)(m:ic):Prop where
 o:c7 X st (nk F m)
structure r1(X:aD)(F:bj)(st:List WO)(m:ic):Prop where
 o:fv X st (nk F m)
theorem RJ{m:ic}(h:r2 X F st m):r1 X F [st] m:=⟨xw h.1⟩
theorem rB{a b:ic}(h:r2 X F st a)(k:r1 X F k6 b):r1 X F (st::k6) (lV a b):=⟨fv.imp (Ez h.1 k.1) Kt⟩
theorem uu{bt f x:Str}{aT:List Str}{b1 pos':Pos}(k:rI X.K bt aT)(he:a8 X F e m)(hf:f∈aT:=by decide+kernel)(bR:X.N[0]?=some x:=by rfl)(bS:hJ X.env.scope x:=by first|exact XA rfl|exact W8 (XA rfl)|exact W8 (W8 rfl))(hd:(x==("__debug__" :Str))=false:=by decide)(ei:(x==("__classdict__" :Str))=false:=by decide)(hs:oN e=true:=by rfl)(aX:F.K=X.K:=by rfl) :
  r2 X F (.Assign [.Attribute (.Name x b1) f pos'] e pos) (m6 bt f m):=⟨bo.Pd k he.1 hf bR bS hd ei hs aX⟩
end
structure rR(K:PySem.W.Frag)(bt x qual:Str)(st:WO)(aP:List Str):Prop where
 ex:∃(C f:VD)(fd:WM),dE K bt C∧ia K C∧Meth K C x f∧jV K x qual st f fd∧Binds K fd aP []
structure InK(K:PySem.W.Frag)(mg:Str→Option Vw)(bt qual:Str)(st:WO)(aP:List Str):Prop where
 ex:∃(C f:VD)(fd:WM),dE K bt C∧rS K C f∧jV K "__init__" qual st f fd∧mg bt=some (.ref C)∧Binds K fd aP []
theorem Gm{P:VR}{w:V9}{K:PySem.W.Frag}{mg:Str→Option Vw}{base:Wv}{x qual bt je:Str}{st:WO}{N aP:List Str}{k:Nat}{m:bp}(d:rR K bt x qual st (je::aP))(S:c1 N (je::aP) (bW st))(h:∀(f:VD)(b6:Vw)(A:V0)(outer:List Env)(s:Vx)(H:ae)(E:cj),dg k (A.deeper (WC qual (bW st) s.heap.objs.size f b6))→∀G0 H0,hn (d4 ha P w K mg base N qual (bW st) f b6 A outer s H E).fL (eH K G0 H0) (fy st) m) :
  pB P w K mg base bt x aP.length (k+1) (c2 N.length m):=by
 obtain⟨C,f,fd,h1,h2,h3,h4,h5⟩:=d.ex;exact Mm h4 h1 h2 h3 h5 S h
end bo
namespace bo
open PySem PySem.Spec aY PyProof.Rows
section
variable{K:PySem.W.Frag}{G G' H H':ae}
theorem cx.nil:cx K G H [] []:=by simp only[cx]
theorem cx.cons{t:T}{bB:List T}{v:V}{vs:List V}(h:dm K G H t v)(k:cx K G H bB vs):cx K G H (t::bB) (v::vs):=by simp only[cx];exact⟨v,vs,rfl,h,k⟩
theorem cx.length:∀{bB:List T}{vs:List V},cx K G H bB vs→bB.length=vs.length
 |[],_,h=>by simp only[cx]at h;subst h;rfl
 |_::_,_,h=>by simp only[cx]at h;obtain⟨v,r,rfl,_,t⟩:=h;simp[cx.length t]
theorem cx.take:∀(n:Nat){bB:List T}{vs:List V},cx K G H bB vs→cx K G H (bB.take n) (vs.take n)∧List.Sublist (fi H (bB.take n) (vs.take n)) (fi H bB vs)
 |0,_,_,_=>⟨by simpa using cx.nil,by simp[B2]⟩
 |_+1,[],_,h=>by simp only[cx]at h;subst h;exact⟨by simpa using cx.nil,by simp[B2]⟩
 |n+1,_::_,_,h=>by simp only[cx]at h;obtain⟨v,r,rfl,q,t⟩:=h;obtain⟨h1,h2⟩:=cx.take n t;exact⟨.cons q h1,by rw[List.take_succ_cons,List.take_succ_cons,mP,mP];exact h2.append_left _⟩
end
section
variable{F:bj}{G H:ae}{σ :aY.St}{ρ:ar}
end
section
variable{X:aD}{F:bj}{e a b c bz iter elt:V3}{es:List V3}{pos p:Pos}{m n:aJ}{ma:aZ}
def t_(i:Nat)(ρ:ar):R (List T):=match ρ[i]? with
 |some (.ed (.lst bB))=>.ok bB
 |_=>.bad
end
end bo
namespace bo
open PySem PySem.Spec aY
section
variable{F:bj}
end
section
variable{X:aD}{F:bj}{e a b c bz iter elt:V3}{es:List V3}{pos p:Pos}{m n:aJ}{ma:aZ}{scope:WX}{N:List Str}
end
noncomputable def o8(c:cw)(b:bp):Nat→ar→R fq
 |0,_=>.bad
 |n+1,ρ=>(c ρ).bind fun k=>if k=true then(b ρ).bind fun f=>match f with
  |.bJ bC=>o8 c b n bC
  |.cv bC=>o8 c b n bC
  |.ey bC=>.ok (.bJ bC)
  |f=>.ok f
  else .ok (.bJ ρ)
def wZ(c:cw)(b:bp):bp:=o8 c b 1000
section
variable{F:bj}
theorem Kx{c:cw}{b:bp}:hF (fm F (wZ c b)) (FO (fD F c) (fm F b)):=by
 rintro cf σ H ⟨G,ρ,r,h⟩;refine⟨fun m σ2 aM=>∃cC dv,Rel F cC aM σ2 dv∧Sub G cC∧gy F cC cf (o8 c b m dv),⟨1000,G,ρ,r,Sub.refl _,h⟩,?_⟩;rintro m σ2 aM ⟨cC,dv,bl,s2,k2⟩;refine⟨cC,dv,bl,?_⟩;cases m with
 |zero=>exact k2.elim
 |succ n=>
  simp only[o8]at k2;cases ec:c dv with
  |bad=>rw[ec]at k2;exact k2.elim
  |exc x=>rw[ec]at k2;exact k2
  |ok k=>
   rw[ec,R.bI]at k2;intro cy eN dp hU;cases k with
   |false=>rw[if_neg VZ]at k2 ⊢;exact k2 σ2 eN cy dp hU.g
   |true=>
    rw[if_pos rfl]at k2 ⊢;refine⟨fun σ4 fu=>∃pn fp,Rel F pn fu σ4 fp∧Sub G pn∧gy F pn cf (o8 c b n fp),fun σ4 fu q=>⟨n,X9 _,q⟩,eN,dv,dp,?_⟩;cases bx:b dv with
    |bad=>rw[bx]at k2;exact k2.elim
    |exc x=>rw[bx]at k2;exact k2
    |ok f=>
     rw[bx,R.bI]at k2;cases f with
     |bJ lg=>exact fun σ7 jq eT fM eM=>⟨jq,lg,fM,s2.trans (hU.g.trans eM),gy.mono (hU.g.trans eM) k2⟩
     |cv lg=>exact fun σ7 jq eT fM eM=>⟨jq,lg,fM,s2.trans (hU.g.trans eM),gy.mono (hU.g.trans eM) k2⟩
     |ey lg=>exact fun σ7 jq eT fM eM=>k2 σ7 jq eT fM (hU.g.trans eM)
     |eA d=>exact k2
     |hz ds=>exact k2
     |dD t=>exact k2
end
section
variable{X:aD}{F:bj}{e a b c o:V3}{es:List V3}{pos p:Pos}{m n:aJ}{ma:aZ}
theorem RW{body:List WO}{tk:cw}{fC:bp}(bf:PassesOwn (VT X.prog X.w) X.A X.env X.xe)(aq:eO X F c tk)(J:hn X F body fC):e7 X F (.While c body [] pos) (wZ tk fC):=⟨c7.imp (Ow bf aq.1 J.1) Kx⟩
end
def nv(K:PySem.W.Frag):cj→Str→ae→Prop:=fun E c H=>∃C,dE K c C∧∀a,H a=none→E (.ref C) (some a) H
def c8(K:PySem.W.Frag)(G H:ae)(E:cj):bj:=⟨K,G,H,nv K E⟩
theorem Rel.ho{F F':bj}{G H:ae}{σ :aY.St}{ρ:ar}(r:Rel F G H σ ρ)(aX:F'.K=F.K)(h0:F'.G0=F.G0)(h1:F'.H0=F.H0):Rel F' G H σ ρ:=
 r.over aX ⟨r.aG.sub,by rw[h0];exact r.aG.eh,by rw[h1];exact r.aG.bF,fun b J=>by rw[h1]at J;rw[h0];exact r.aG.new b J⟩ (Sub.refl _) fun a ah=>⟨rfl,(r.foot ah).2.1,by rw[h1];exact(r.foot ah).2.2⟩
def gQ(m:cw):cw:=fun ρ=>gO (m ρ)
def gP(m:bp):bp:=fun ρ=>gO (m ρ)
def tm(m:aZ):aZ:=fun ρ=>gO (m ρ)
section
variable{K:PySem.W.Frag}{G0 H0:ae}{E:cj}
theorem LP{m:cw}:kp (fD (c8 K G0 H0 E) (gQ m)) (fD (eH K G0 H0) m):=by
 rintro σ H Q ⟨G,ρ,r,h⟩;unfold gQ at h;refine⟨G,ρ,r.ho rfl rfl rfl,?_⟩;cases e:m ρ with
 |bad=>rw[e]at h;exact h.elim
 |exc c=>rw[e]at h;exact h.elim
 |ok b=>rw[e]at h;exact fun H' G' bq u=>h H' G' (bq.ho rfl rfl rfl) u
theorem LM{m:aZ}:rO (eb (c8 K G0 H0 E) (tm m)) (eb (eH K G0 H0) m):=by
 rintro σ H Q ⟨G,ρ,r,h⟩;unfold tm at h;refine⟨G,ρ,r.ho rfl rfl rfl,?_⟩;cases e:m ρ with
 |bad=>rw[e]at h;exact h.elim
 |exc c=>rw[e]at h;exact h.elim
 |ok b=>rw[e]at h;exact fun vs H' G' bq u a=>h vs H' G' (bq.ho rfl rfl rfl) u a
theorem dV.ho{F F':bj}{G H:ae}(k:dV F G H)(h0:F'.G0=F.G0)(h1:F'.H0=F.H0):dV F' G H:=⟨k.sub,by rw[h0];exact k.eh,by rw[h1];exact k.bF,fun b J=>by rw[h1]at J;rw[h0];exact k.new b J⟩
theorem LO{m:bp}:hF (fm (c8 K G0 H0 E) (gP m)) (fm (eH K G0 H0) m):=by
 rintro cf σ H ⟨G,ρ,r,h⟩;unfold gP at h;refine⟨G,ρ,r.ho rfl rfl rfl,?_⟩;cases e:m ρ with
 |bad=>rw[e]at h;exact h.elim
 |exc c=>rw[e]at h;exact h.elim
 |ok f=>
  rw[e]at h;cases f with
  |bJ bC=>exact fun σ' G' H' bq s=>h σ' G' H' (bq.ho rfl rfl rfl) s
  |ey bC=>exact fun σ' G' H' bq s=>h σ' G' H' (bq.ho rfl rfl rfl) s
  |cv bC=>exact fun σ' G' H' bq s=>h σ' G' H' (bq.ho rfl rfl rfl) s
  |eA d=>exact fun v G' H' k a=>h v G' H' (k.ho rfl rfl) a
  |hz ds=>exact fun a xs G' H' k h1 h2 h3 h4=>h a xs G' H' (k.ho rfl rfl) h1 h2 h3 h4
  |dD t=>exact fun v G' H' k q=>h v G' H' (k.ho rfl rfl) ⟨q.at_,q.cn,q.own⟩
end
section
variable{X:aD}{e c:V3}{es:List V3}{st:WO}{pos p:Pos}{K:PySem.W.Frag}{G0 H0:ae}{E:cj}{mt:cw}{ms:bp}{ma:aZ}
theorem Ra{t:TT}(h:eG X.fL e t):eG X e t:=fun pins s σ H Q I q=>V1 (h pins s σ H Q (I.gT _) q) (fun _ s'⟨H',br,z⟩=>⟨H',br.gm,z⟩) fun _ _ z=>z.elim
theorem Q8{t:eK}(h:e6 X.fL es t):e6 X es t:=fun pos pins s σ H Q I q=>V1 (h pos pins s σ H Q (I.gT _) q) (fun _ s'⟨vs,H',br,r,z⟩=>⟨vs,H',br.gm,r,z⟩) fun _ _ z=>z.elim
theorem Q_{t:et}(h:c7 X.fL st t):c7 X st t:=fun pins s σ H D I q=>V1 (h pins s σ H D (I.gT _) q) (fun f s' z=>by
 cases f with
 |next=>obtain⟨σ',H',br,z⟩:=z;exact⟨σ',H',br.gm,z⟩
 |brk=>obtain⟨σ',H',br,z⟩:=z;exact⟨σ',H',br.gm,z⟩
 |cont=>obtain⟨σ',H',br,z⟩:=z;exact⟨σ',H',br.gm,z⟩
 |ret v=>obtain⟨x,σ',H',br,z⟩:=z;exact⟨x,σ',H',br.gm,z⟩) fun _ _ z=>z.elim
theorem hW(h:eO X.fL (eH K G0 H0) e mt):eO X (c8 K G0 H0 E) e (gQ mt):=⟨fun pins s σ H Q I q=>Ra h.1 pins s σ H Q I (LP σ H Q q)⟩
theorem RI(h:eW X.fL (eH K G0 H0) es ma):eW X (c8 K G0 H0 E) es (tm ma):=⟨fun pos pins s σ H Q I q=>Q8 h.1 pos pins s σ H Q I (LM σ H Q q)⟩
theorem hV(h:e7 X.fL (eH K G0 H0) st ms):e7 X (c8 K G0 H0 E) st (gP ms):=⟨fun pins s σ H D I q=>Q_ h.1 pins s σ H D I (LO D σ H q)⟩
end
structure fT(P:VR)(w:V9)(K:PySem.W.Frag)(mg:Str→Option Vw)(base:Wv)(x:Str)(n k:Nat)(mf:List D→R cc):Prop where
 ex:∃(f:VD)(fd:WM)(aP:List Str),aP.length=n∧gs P w K mg base (dQ P w) k f fd aP (kZ K n (nv K) mf)∧mg x=some (.ref f)∧PySem.W.keepIn K (.ref f)=true∧Binds K fd aP []
structure nL(K:PySem.W.Frag)(mg:Str→Option Vw)(c:Str):Prop where
 ex:∃C,dE K c C∧mg c=some (.ref C)∧PySem.W.excIn K C [.type "ValueError",.type "Exception",.type "BaseException",.type "object"] "ValueError.__new__"=true
def ja(c:Str):bp:=fun _=>.exc c
section
variable{P:VR}{w:V9}{K:PySem.W.Frag}{mg:Str→Option Vw}{base:Wv}{N:List Str}{qual:Str}{scope:WX}{f:VD}{cd:Vw}{A:V0}{outer:List Env}{s0:Vx}{Ha:ae}{E:cj}{G0 H0:ae}
theorem jm{x:Str}{np cpos pos cp:Pos}{m:Str}{j:Nat}(k:nL K mg x)(aF:da (d4 (dQ P w) P w K mg base N qual scope f cd A outer s0 Ha E) x:=by rfl)(hd:(x==("__debug__" :Str))=false:=by decide) :
  e7 (d4 (dQ P w) P w K mg base N qual scope f cd A outer s0 Ha E) (c8 K G0 H0 E) (.Raise (some (.Call (.Name x np) [.Constant (.str m) j cp] [] cpos)) none pos) (ja x):=by
 obtain⟨C,h1,h2,h3⟩:=k.ex;refine⟨fun pins s σ H D I q=>Ov (X:=d4 (dQ P w) P w K mg base N qual scope f cd A outer s0 Ha E) PySem.F.excBase_ValueError h3 h2 rfl aF hd pins s σ H D I ?_⟩;obtain⟨G,ρ,r,h⟩:=q;obtain⟨hY,bE,c9⟩:=(show i7 (c8 K G0 H0 E) x from h) G H r.aG;have:hY=C:=by unfold dE at bE h1;rw[h1]at bE;cases bE;rfl
 subst this;exact RA c9
theorem Ro{x:Str}{n k:Nat}{mf:List D→R cc}{e:V3}{es:List V3}{ma:aZ}{pos p:Pos}(c:fT P w K mg base x n k mf)(aw:dg k (d4 (dQ P w) P w K mg base N qual scope f cd A outer s0 Ha E).A)(ah:eW (d4 (dQ P w) P w K mg base N qual scope f cd A outer s0 Ha E) (c8 K G0 H0 E) (e::es) ma)(aF:da (d4 (dQ P w) P w K mg base N qual scope f cd A outer s0 Ha E) x:=by rfl)(e2:(x==("__debug__" :Str))=false:=by decide)(he:VA (e::es) (d4 (dQ P w) P w K mg base N qual scope f cd A outer s0 Ha E).env=(false,WW e (d4 (dQ P w) P w K mg base N qual scope f cd A outer s0 Ha E).env)::VA es (d4 (dQ P w) P w K mg base N qual scope f cd A outer s0 Ha E).env:=by rfl)(cI:(Wu pos (VA es (d4 (dQ P w) P w K mg base N qual scope f cd A outer s0 Ha E).env)).any (·.1)=false:=by rfl) :
  a8 (d4 (dQ P w) P w K mg base N qual scope f cd A outer s0 Ha E) (c8 K G0 H0 E) (.Call (.Name x p) (e::es) [] pos) (cN n mf ma):=by
 obtain⟨qc,fd,aP,aK,gH,hm,aH,J⟩:=c.ex;exact⟨a3.imp (tG (X:=d4 (dQ P w) P w K mg base N qual scope f cd A outer s0 Ha E) gH aw aF hm aH J .nil gh ah.1 e2 he cI) (sS (F:=c8 K G0 H0 E) (xe:=nv K) (E:=E) rfl)⟩
end
theorem hC{P:VR}{w:V9}{K:PySem.W.Frag}{mg:Str→Option Vw}{base:Wv}{x:Str}{st:WO}{N aP:List Str}{k:Nat}{m:bp}(d:di K mg x st aP)(S:c1 N aP (bW st))(h:∀(f:VD)(b6:Vw)(A:V0)(outer:List Env)(s:Vx)(H:ae)(E:cj),dg k (A.deeper (WC x (bW st) s.heap.objs.size f b6))→∀G0 H0,hn (d4 (dQ P w) P w K mg base N x (bW st) f b6 A outer s H E) (c8 K G0 H0 E) (fy st) m) :
  fT P w K mg base x aP.length (k+1) (c2 N.length m):=by
 obtain⟨f,fd,fn,hm,J⟩:=d.ex;refine⟨f,fd,aP,rfl,?_,hm,fn.aG,J⟩;obtain⟨eu,dh,cB,doc,pm,an,b6,cv,jd,rfl,lk,ei⟩:=fn.ex;refine vN lk ei S tT fun A outer s H vs Q E aw hs=>?_;obtain⟨G,bH⟩:=r6 hs;exact⟨_,(h f b6 A outer s H E aw G H).1,bH⟩
section
variable{X:aD}{F:bj}{e:V3}{es:List V3}{pos p:Pos}{ma:aZ}
theorem NK{P:VR}{w:V9}:Passes (dQ P w) X (fun _ _ _=>False):=fun _ _ _ _ _ _ _ h=>by obtain⟨_,_,_,_,_,_,_,z⟩:=h;exact z.elim
end
end bo
namespace aY
open PySem PySem.Spec PySem.Calls PyProof.Rows PySem.W PySem.Builtin PySem.Builtin.ObjectAttr PySem.Builtin.Getset_descriptor
def ExcAt(a D:VD)(h:Wv):Prop:=∃o,h.get? a=some o∧o.cls=.ref D
theorem ExcAt.ty{M:Model}{a D:VD}{h:Wv}(p:ExcAt a D h):Looks M h (typeOf (.ref a)) (.ref D):=by obtain⟨o,h1,h2⟩:=p;rw[←h2];exact(Looks.ld h1).andThen .now
structure rK(K:Frag)(D:VD):Prop where
 ga:findIn K (.ref D) "__getattribute__"=some (some (.builtin "BaseException.__getattribute__"))
 IK:findIn K (.ref D) "__getattr__"=some none
 cl:findIn K (.ref D) "__class__"=some (some (.builtin "object.__class__"))
 fb:subIn K (.ref D) (.type "BaseException")=some true
 mo:mroIn K D (.type "object")=some true
 cv:(clsIn K D).isSome=true
section
variable{prog:VR}{w:V9}{A:V0}{E:Vw→Vx→Prop}{s:Vx}{K:Frag}{a D:VD}
theorem Ij{R:Result→Vx→Prop}(X:K.In s.heap)(p:ExcAt a D s.heap)(f:rK K D)(h:R (.ok (.ret (.ref D))) s) :
  X8 (VT prog w) A (.call (.builtin "getset_descriptor.__get__") ⟨[.builtin "object.__class__",.ref a,.ref D],[]⟩) R s:=by
 obtain⟨bF,g,A1,t,os⟩:=s;have hG:=p.ty (M:=VT prog w);have zz:=looks_mroIn (M:=VT prog w) X f.mo
 refine Yd KF.slot_gs.plain KF.entry_gs
  (KF.slot_gs.check _ _ _ _ _ _ _ _ KF.type_class
    (KF.args_gs _ _ _) ?_)
 unfold aal.«getset_descriptor.__get__» descrGet;rw[dga_obj];refine Vv (VB ?_);unfold descrGetter descrCheckInstance descrNameAndClass isInstance;simp only[KF.owner_class]
 repeat lk
 refine⟨Code.quiet_builtin _ (by decide+kernel),Yp KF.entry_class ?_⟩;unfold aal.«object.__class__» shownTypeOf
 repeat lk
 exact h
theorem Ii{Q:Option Vw→Vx→Prop}(X:K.In s.heap)(p:ExcAt a D s.heap)(f:rK K D)(hs:specialIn K (.builtin "object.__class__") "__get__"=some (some (.builtin "getset_descriptor.__get__")))(bH:takesIn K (.builtin "object.__class__")=some true)(h:Q (some (.ref D)) { s with toks:=s.toks+1 }):VL (VT prog w) A (getAttr? (.ref a) "__class__") Q E s:=by
 obtain⟨bF,g,A1,t,os⟩:=s;have hG:=p.ty (M:=VT prog w);have zz:=looks_findIn (M:=VT prog w) X f.ga;have aY:=looks_findIn (M:=VT prog w) X f.IK;have bo:=looks_findIn (M:=VT prog w) X f.cl;have GH:=looks_subIn (M:=VT prog w) X f.fb;have GI:=looks_specialIn (M:=VT prog w) X hs;have GK:Looks (VT prog w) bF (isInstance (.ref a) (.type "BaseException")) true:=hG.andThen GH;have GJ:Looks (VT prog w) bF (find (.ref a) (.ref D) "__class__") (.bind (.builtin "getset_descriptor.__get__") (.builtin "object.__class__")):=by have LT:=looks_takesIn (M:=VT prog w) X bH;intro Gz ie zv s' k q;unfold find getOf dataDescriptor?;refine Vv (bo _ _ _ _ k (Vv (GI _ _ _ _ k ?_)));refine Vv (Vv (LT _ _ _ _ k ?_));exact VB (Vv (wpAny_rule (VB q)))
 unfold getAttr? getAttrBy? getAttrBy;refine Vv (wpAny_mkText (Vv (YS (WU (Vv (hG.at (Vv (zz.at ?_))))))));show VL _ _ (getAttrByItsOwn _ _ _ _ _ _) _ _ _;unfold getAttrByItsOwn hookBefore;refine Vv (aY.at ?_);refine Vv (YS (WU ?_));show VL _ _ (boundAndCalled _ _ _) _ _ _;unfold boundAndCalled;rw[PySem.F.excAttr_ValueError.ga.bind (.ref a)];refine Vv (VB ?_);refine YE (Yd PySem.F.excAttr_ValueError.ga.plain PySem.F.entry_bexc_ga ?_);have aH:builtinKind "BaseException.__getattribute__"=some .slot:=by decide+kernel
 have bf:splitId "BaseException.__getattribute__"=some ("BaseException","__getattribute__"):=by decide+kernel
 have ah:=PySem.F.args_bexc_ga (.ref a) (.str "__class__" t);show VL _ _ (checkBuiltinCall "BaseException.__getattribute__" ⟨[.ref a,.str "__class__" t],[]⟩) _ _ _;simp only[checkBuiltinCall,aH,bf];refine Vv (GK.at ?_);simp only[YT,Wy,if_false];cases Ct:Manifest.signature? "BaseException.__getattribute__" with
 |none=>exact absurd Ct (by decide+kernel)
 |some a4=>simp only[argsOk,Ct]at ah;have h2:Bind.checkArgs "BaseException.__getattribute__" a4 ⟨[.ref a,.str "__class__" t],[]⟩=pure ():=ah;show VL _ _ (Bind.checkArgs "BaseException.__getattribute__" a4 ⟨[.ref a,.str "__class__" t],[]⟩) _ _ _;rw[h2];refine VB ?_;unfold aal.«object.__getattribute__»;refine Vv (VB ?_);refine Vv (VB ?_);refine Vv (hG.at (Vv (GJ.at ?_)));show VL _ _ (do ret (←aag [Value.builtin "object.__class__"] (call (.builtin "getset_descriptor.__get__") [.builtin "object.__class__",.ref a,.ref D]))) _ _ _;refine Vv (WU (YE (Ij (s:=⟨bF,g,A1,t+1,os⟩) X p f ?_)));refine VB ?_;exact VB (VB h)
theorem Ll(f:rK K D)(hs:specialIn K (.builtin "object.__class__") "__get__"=some (some (.builtin "getset_descriptor.__get__")))(bH:takesIn K (.builtin "object.__class__")=some true):KitX K (.ref a) (.ref D) (ExcAt a D) where
 ty:=fun _ _ _ p=>p.ty
 it:=fun _ _ X _=>by
  have aq:=f.cv;unfold clsIn at aq
  split at aq
  ·rename_i cG b2 M5 M6 aB;intro Gz ie zv s' k q;unfold isType loadHead;refine Vv ?_;exact wpAny_loadPart (k _ _ (X _ _ aB)) (VB q)
  ·cases aq
 ne:=fun h yW dd its n cb X JM=>by
  refine Bool.eq_false_iff.mpr fun q=>?_;have e:D=yW:=by have:=beq_iff_eq.mp q;cases this;rfl
  subst e;have aq:=f.cv;unfold clsIn at aq
  split at aq
  ·rename_i cG b2 M5 M6 aB;have z:=(X _ _ aB).symm.trans JM;cases z
  ·cases aq
 ca:=fun X p h=>Ii X p f hs bH h
end
end aY
namespace bo
open PySem PySem.Spec aY
structure pz(K:PySem.W.Frag)(r8:Vw)(tab:List (Str×Bool)):Prop where
 sp:PySem.W.specialIn K (.builtin "object.__class__") "__get__"=some (some (.builtin "getset_descriptor.__get__"))
 cK:PySem.W.takesIn K (.builtin "object.__class__")=some true
 ex:∀c b,tab.lookup c=some b→∃C,dE K c C∧rK K C∧PySem.W.kitOne K (.ref C) r8=some b
noncomputable def hu(tab:List (Str×Bool)):D→R D
 |.i0 c=>match tab.lookup c with
  |some b=>.ok (.aU b)
  |none=>.bad
 |_=>.bad
section
variable{X:aD}{F:bj}{a:V3}{pos p:Pos}{m:aJ}
noncomputable def EH(F:bj)(tab:List (Str×Bool))(vU:V):List V→ae→cD→Prop:=fun xs H Q=>∃G x c b,Sub G H∧xs=[x,vU]∧At F.K G (.i0 c) x∧tab.lookup c=some b∧Q (.aU b) H
theorem AL{tab:List (Str×Bool)}{vU:V}{r8:Vw}(aX:F.K=X.K)(bS:∀u,RelV vU u→u=r8)(t:pz X.K r8 tab):h_ X (.builtin "isinstance") (EH F tab vU):=by
 intro pins s σ H xs us Q I r h;obtain⟨G,x,c,b,a4,rfl,bc,J,q⟩:=h;obtain⟨u,f3,rfl,bu,eR⟩:=vals2 r;have:=bS f3 eR;subst this;rw[aX]at bc;simp only[At]at bc;obtain⟨a,xs,rfl,⟨C,bE,ga⟩,_⟩:=bc;cases bu;obtain⟨hY,c9,f,k⟩:=t.ex c b J;have e:hY=C:=by unfold dE at bE c9;rw[bE]at c9;cases c9;rfl
 subst e;have ok:ExcAt a hY s.heap:=by obtain⟨⟨o,h1,h2⟩,_⟩:=(show eF X.prog X.w H s.heap a (n7 a (.ref hY))from I.bw a _ (a4 _ _ ga));exact⟨o,h1,h2⟩
 exact PySem.W.kia_one (Ll f t.sp t.cK) I.ej ok k (fun z=>nomatch z) fun cK=>⟨.aU _,H,I.tok cK,rfl,q⟩
theorem CJ{tab:List (Str×Bool)}{vU:V}:eE (cJ F (dG (hu tab) m)) (rt (EH F tab vU) (t4 (cJ F m) (t4 (l_ vU) yL))):=by
 rintro σ H Q ⟨G,ρ,r,h⟩;unfold dG at h;refine⟨G,ρ,r,?_⟩;cases ax:m ρ with
 |bad=>rw[ax]at h;exact h.elim
 |exc c=>rw[ax]at h;exact h
 |ok d=>
  rw[ax,R.bI]at h;intro x H1 aL au s1 bV;cases d with
  |i0 c=>
   simp only[hu]at h
   split at h
   ·rename_i b J;exact⟨aL,x,c,b,au.aG.sub,rfl,bV,J,h _ H1 aL au s1 (by simp only[At])⟩
   ·exact h.elim
  |_=>exact h.elim
theorem Rv{U:Str}{lh:VD}{tab:List (Str×Bool)}{bZ:Pos}(t:pz X.K (.ref lh) tab)(hm:X.mg "isinstance"=none)(qz:X.mg U=some (.ref lh))(ah:a8 X F a m)(aX:F.K=X.K:=by rfl)(aF:da X "isinstance":=by rfl)(mU:da X U:=by rfl)(qu:(U==("__debug__" :Str))=false:=by decide)(fW:VA [.Name U bZ] X.env=(false,WW (.Name U bZ) X.env)::VA [] X.env:=by rfl)(he:VA [a,.Name U bZ] X.env=(false,WW a X.env)::VA [.Name U bZ] X.env:=by rfl)(cI:(Wu pos (VA [.Name U bZ] X.env)).any (·.1)=false:=by rfl) :
  a8 X F (.Call (.Name "isinstance" p) [a,.Name U bZ] [] pos) (dG (hu tab) m):=by
 have J:WH "isinstance"=some (.builtin "isinstance"):=by kernel_rfl
 exact⟨a3.imp (rd (AL (F:=F) (vU:=.ref lh) aX (fun u r=>by cases r;rfl) t) aF hm J (jG ah.1 (jG (xp mU qz (v:=.ref lh) rfl qu) l0 fW) he) (by decide) (by decide) he cI) CJ⟩
theorem Ru{tab:List (Str×Bool)}{bZ:Pos}(t:pz X.K (.type "ValueError") tab)(hm:X.mg "isinstance"=none)(qz:X.mg "ValueError"=none)(ah:a8 X F a m)(aX:F.K=X.K:=by rfl)(aF:da X "isinstance":=by rfl)(mU:da X "ValueError":=by rfl)(fW:VA [.Name "ValueError" bZ] X.env=(false,WW (.Name "ValueError" bZ) X.env)::VA [] X.env:=by rfl)(he:VA [a,.Name "ValueError" bZ] X.env=(false,WW a X.env)::VA [.Name "ValueError" bZ] X.env:=by rfl)(cI:(Wu pos (VA [.Name "ValueError" bZ] X.env)).any (·.1)=false:=by rfl) :
  a8 X F (.Call (.Name "isinstance" p) [a,.Name "ValueError" bZ] [] pos) (dG (hu tab) m):=by
 have J:WH "isinstance"=some (.builtin "isinstance"):=by kernel_rfl
 exact⟨a3.imp (rd (AL (F:=F) (vU:=.ty "ValueError") aX (fun u r=>r) t) aF hm J (jG ah.1 (jG (Ek mU qz (by kernel_rfl) (v:=.ty "ValueError") rfl) l0 fW) he) (by decide) (by decide) he cI) CJ⟩
noncomputable def QV(i:Nat):fq→R fq
 |.bJ ρ=>.ok (.bJ (ρ.set i .un))
 |.ey ρ=>.ok (.ey (ρ.set i .un))
 |.cv ρ=>.ok (.cv (ρ.set i .un))
 |f=>.ok f
structure zL(K:PySem.W.Frag)(mg:Str→Option Vw)(W:Str)(cs:List Str):Prop where
 ex:∃rH,mg W=some (.ref rH)∧∀c,cs.contains c=true→∃C,dE K c C∧PySem.W.exmOne K (.ref C) (.ref rH)=some true
theorem Rel.vl{G H:ae}{σ :aY.St}{ρ:ar}(r:Rel F G H σ ρ)(i:Nat):Rel F G H (σ.set i none) (ρ.set i .un):=by
 by_cases af:i<ρ.length
 ·exact r.oX af trivial fun _ f=>f.elim
 ·rw[XJ (by rw[r.len];omega),XJ (by omega)];exact r
end
noncomputable def ng:D→D→R D
 |.lst xs,.int k=>if 0≤k∧k≤1000∧xs.length≤100 then .ok (.lst (VY k.toNat xs).flatten)else .bad
 |_,_=>.bad
theorem aO.rep{K:PySem.W.Frag}{G:ae}{ds:List D}{xs:List V}(q:aO K G ds xs):∀n:Nat,aO K G (VY n ds).flatten (VY n xs).flatten
 |0=>by simpa using aO.nil
 |n+1=>by rw[Wz,Wz,Xd,Xd];exact q.append (aO.rep q n)
section
variable{X:aD}{F:bj}{a b:V3}{pos p:Pos}{m n:aJ}
theorem Nl:fF F EM ng:=by
 intro σ ρ G H x y a5 fh Q r bV cS k;unfold ng at k
 split at k
 ·rename_i xs j
  split at k
  ·rename_i aq;simp only[At]at bV cS;obtain⟨l,vs,rfl,ak,al⟩:=bV;refine⟨l,j,vs,rfl,cS,r.aG.sub _ _ ak,by omega,by omega,?_,fun q aS=>?_⟩
   ·rw[←al.length];have h1:j.toNat≤1000:=by omega
    exact V7 (Nat.mul_le_mul aq.2.2 h1) (by decide)
   ·refine k (.ref q) _ _ (r.lay aS) (b3.lay r.aG.sub aS) ?_;simp only[At];exact⟨q,_,rfl,dI,(al.mono (Sub.upd (r.aG.sub.gone aS))).rep j.toNat⟩
  ·exact k.elim
 ·exact k.elim
theorem RE(ah:a8 X F a m)(J:a8 X F b n):a8 X F (.BinOp a .Mult b pos) (aE ng m n):=⟨mL ND Nl ah.1 J.1⟩
structure jX(K:PySem.W.Frag)(mg:Str→Option Vw)(U:Str)(tab:List (Str×Bool)):Prop where
 ex:∃lh,mg U=some (.ref lh)∧pz K (.ref lh) tab
theorem k_{U:Str}{tab:List (Str×Bool)}{bZ:Pos}(t:jX X.K X.mg U tab)(hm:X.mg "isinstance"=none)(ah:a8 X F a m)(aX:F.K=X.K:=by rfl)(aF:da X "isinstance":=by rfl)(mU:da X U:=by rfl)(qu:(U==("__debug__" :Str))=false:=by decide)(fW:VA [.Name U bZ] X.env=(false,WW (.Name U bZ) X.env)::VA [] X.env:=by rfl)(he:VA [a,.Name U bZ] X.env=(false,WW a X.env)::VA [.Name U bZ] X.env:=by rfl)(cI:(Wu pos (VA [.Name U bZ] X.env)).any (·.1)=false:=by rfl) :
  a8 X F (.Call (.Name "isinstance" p) [a,.Name U bZ] [] pos) (dG (hu tab) m):=by
 obtain⟨lh,h1,h2⟩:=t.ex;exact Rv h2 hm h1 ah aX aF mU qu fW he cI
noncomputable def Dx(i:Nat)(n:aJ):aJ:=fun ρ=>(ownAt i ρ).bind fun ds=>(n ρ).bind fun k=>match k with
 |.int j=>match gE ds j with
  |some d=>.ok d
  |none=>.bad
 |_=>.bad
end
end bo
namespace fE
open PySem PySem.SetTable
theorem vi(xs:Array Nat)(j:Nat)(hs:xs.toList.Pairwise (· <·)):∀fuel lo af,af≤lo+fuel→lo≤af→af≤xs.size→(∀k,k<lo→xs.getD k j<j)→(∀k,af≤k→k<xs.size→j≤xs.getD k j)→
  below.go xs j fuel lo af≤xs.size∧(∀k,k<below.go xs j fuel lo af→xs.getD k j<j)∧(∀k,below.go xs j fuel lo af≤k→k<xs.size→j≤xs.getD k j)
 |0,lo,af,h1,h2,h3,h4,h5=>by
  have e:lo=af:=by omega
  subst e;exact⟨h3,h4,h5⟩
 |fuel+1,lo,af,h1,h2,h3,h4,h5=>by
  have mono:∀a b,a≤b→b<xs.size→xs.getD a j≤xs.getD b j:=by
   intro a b v8 J;rcases Xo v8 with rfl|v8
   ·exact VG _
   have:=List.pairwise_iff_getElem.mp hs a b (by simp;omega) (by simpa using J) v8;simp only[Array.getElem_toList]at this;rw[Wg,Wg,Wb (by omega),Wb J];exact X4 this
  unfold below.go;by_cases h:lo<af
  ·rw[if_pos h];dsimp only;by_cases q:xs.getD ((lo+af)/2) j<j
   ·rw[if_pos q];refine vi xs j hs fuel _ af (by omega) (by omega) h3 (fun k aH=>?_) h5;exact Nat.lt_of_le_of_lt (mono k ((lo+af)/2) (by omega) (by omega)) q
   ·rw[if_neg q];refine vi xs j hs fuel lo _ (by omega) (by omega) (by omega) h4 fun k aH g4=>?_;exact V7 (Nat.not_lt.mp q) (mono _ k aH g4)
  ·rw[if_neg h];have e:lo=af:=by omega
   subst e;exact⟨h3,h4,h5⟩
theorem AB{xs:Array Nat}(hs:xs.toList.Pairwise (· <·))(j:Nat):below xs j≤xs.size∧(∀y∈xs.toList.take (below xs j),y<j)∧(∀y∈xs.toList.drop (below xs j),j≤y):=by
 obtain⟨a,b,c⟩:=vi xs j hs xs.size 0 xs.size (by omega) (by omega) (VG _) (fun k aH=>absurd aH (Nat.not_lt_zero _)) (fun k h1 h2=>absurd h2 (by omega));refine⟨a,fun y bO=>?_,fun y bO=>?_⟩
 ·obtain⟨k,aH,rfl⟩:=WL bO;have kI:k<below xs j∧k<xs.size:=by simpa[WR,Nat.lt_min]using aH
  have:=b k kI.1;rw[Wg,Wb kI.2]at this;simpa using this
 ·obtain⟨k,aH,rfl⟩:=WL bO;have kI:below xs j+k<xs.size:=by simp at aH;omega
  have:=c (below xs j+k) (W4 _ _) kI;rw[Wg,Wb kI]at this;simpa using this
theorem sU{α:Type}(xs:Array α)(p:Nat)(x:α):(insertAt xs p x).toList=xs.toList.take p++x::xs.toList.drop p:=by unfold insertAt;simp[Array.toList_extract,List.extract_eq_take_drop];exact XS (by simp)
structure Tab(t:Wt)(n:Nat):Prop where
 p6:t.dummies= #[]
 kl:t.place.size=n
 oU:t.place.toList.Pairwise (· <·)
 le:∀j∈t.place.toList,j≤t.mask
theorem slot_of{t:Wt}{n:Nat}(T:Tab t n)(j:Nat):(∃i,t.slot j=.live i∧t.place.toList[i]?=some j)∨(t.slot j=.empty∧j∉t.place.toList):=by
 obtain⟨a,b,c⟩:=AB T.oU j;unfold slot;dsimp only;by_cases h:t.place[below t.place j]?=some j
 ·left
  refine⟨below t.place j,?_,by simpa using h⟩;rw[h];simp
 ·right
  constructor
  ·have:(t.place[below t.place j]?==some j)=false:=by simpa using h
   rw[this,T.p6];simp[has]
  ·intro m;have ck:=m;rw[←W9 (below t.place j) t.place.toList]at ck;rcases List.mem_append.mp ck with ck|ck
   ·exact absurd (b j ck) (Wi _)
   ·cases hd:t.place.toList.drop (below t.place j)with
    |nil=>rw[hd]at ck;cases ck
    |cons y r=>
     have bO:t.place[below t.place j]?=some y:=by
      have:(t.place.toList.drop (below t.place j))[0]?=some y:=by rw[hd];rfl
      rw[Yv]at this;simpa using this
     have aw:=T.oU;rw[←W9 (below t.place j) t.place.toList,hd]at aw;have aw:=(List.pairwise_append.mp aw).2.1;rw[hd]at ck;rcases List.mem_cons.mp ck with rfl|ck
     ·exact h bO
     ·have h1:=(List.pairwise_cons.mp aw).1 j ck;have h2:=c y (by rw[hd];simp);omega
theorem Ff{t:Wt}{n:Nat}(T:Tab t n){j:Nat}(m:j∈t.place.toList):∃i,t.slot j=.live i∧t.place.toList[i]?=some j:=by
 rcases slot_of T j with h|h
 ·exact h
 ·exact absurd m h.2
theorem P1{t:Wt}{n:Nat}(T:Tab t n){j:Nat}(m:j∉t.place.toList):t.slot j=.empty:=by
 rcases slot_of T j with⟨i,h,e⟩|h
 ·exact absurd (VX e) m
 ·exact h.1
theorem OE{t:Wt}{n:Nat}(T:Tab t n){j:Nat}(m:j∉t.place.toList)(cV:j≤t.mask):∃p,(t.put j).2=p∧p≤n∧Tab (t.put j).1 (n+1)∧(t.put j).1.place.toList=t.place.toList.take p++j::t.place.toList.drop p∧(t.put j).1={ t with place:=(t.put j).1.place }:=by
 obtain⟨a,b,c⟩:=AB T.oU j;have e:(t.put j).1.place.toList=t.place.toList.take (below t.place j)++j::t.place.toList.drop (below t.place j):=by unfold put;exact sU _ _ _
 have d5:(t.put j).1.dummies= #[]:=by unfold put;simp[has,T.p6]
 have em:(t.put j).1.mask=t.mask:=rfl;refine⟨below t.place j,rfl,T.kl▸a,⟨d5,?_,?_,?_⟩,e,?_⟩
 ·have:(t.put j).1.place.toList.length=n+1:=by
    rw[e,Wx,Wf,WR,YW];have:=T.kl;simp only[Xi];omega
  simpa using this
 ·rw[e];have aw:=T.oU;rw[←W9 (below t.place j) t.place.toList]at aw;obtain⟨au,bl,dp⟩:=List.pairwise_append.mp aw;refine List.pairwise_append.mpr ⟨au,List.pairwise_cons.mpr ⟨fun y bO=>?_,bl⟩,fun x av y bO=>?_⟩
  ·rcases Xo (c y bO)with q|q
   ·exact absurd (q▸Ye bO) m
   ·exact q
  ·rcases List.mem_cons.mp bO with rfl|bO
   ·exact b x av
   ·exact dp x av y bO
 ·intro y bO;rw[em];rw[e]at bO;rcases List.mem_append.mp bO with bO|bO
  ·exact T.le y (ZM bO)
  ·rcases List.mem_cons.mp bO with rfl|bO
   ·exact cV
   ·exact T.le y (Ye bO)
 ·have H8:(t.put j).1.dummies=t.dummies:=d5.trans T.p6.symm;show(t.put j).1=_;have:(t.put j).1={ t with place:=(t.put j).1.place,dummies:=(t.put j).1.dummies }:=rfl;rw[this,H8]
noncomputable def iW(mask:Nat)(p:Probe):Probe:=
 if p.more>0 then{ p with j:=p.j+1,more:=p.more-1 }else
 { p with j:=(leap mask p.i p.perturb).1,more:=runEnd mask (leap mask p.i p.perturb).1-(leap mask p.i p.perturb).1,i:=(leap mask p.i p.perturb).1,perturb:=(leap mask p.i p.perturb).2 }
theorem zS(t:Wt)(p:Probe):t.advance p=iW t.mask p:=rfl
def EB(mask:Nat)(i q:Nat):Probe:={ j:=i,more:=runEnd mask i-i,i,perturb:=q,dummy:=none }
noncomputable def b8(mask:Nat)(h:Int):Nat→Probe
 |0=>EB mask (bits h%(mask+1)) (bits h)
 |n+1=>iW mask (b8 mask h n)
noncomputable def c4(mask:Nat)(h:Int):Nat→Nat×Nat
 |0=>(bits h%(mask+1),bits h)
 |n+1=>leap mask (c4 mask h n).1 (c4 mask h n).2
def dD(mask i:Nat):Nat:=runEnd mask i-i
def a4(mask:Nat)(h:Int):Nat→Nat
 |0=>0
 |n+1=>a4 mask h n+dD mask (c4 mask h n).1+1
theorem OZ(mask i:Nat):dD mask i≤9:=by unfold dD runEnd;split<;>omega
theorem xK(mask i:Nat):i≤runEnd mask i:=by unfold runEnd;split<;>omega
theorem Fe(mask:Nat)(h:Int):∀n,a4 mask h n≤10*n
 |0=>VG _
 |n+1=>by have:=Fe mask h n;have:=OZ mask (c4 mask h n).1;unfold a4;omega
theorem G2{mask i q r:Nat}(aw:r<dD mask i):iW mask { j:=i+r,more:=dD mask i-r,i:=i,perturb:=q,dummy:=none }={ j:=i+(r+1),more:=dD mask i-(r+1),i:=i,perturb:=q,dummy:=none }:=by unfold iW;rw[if_pos (by show dD mask i-r>0;omega)];simp only[Probe.mk.injEq];refine⟨by omega,by omega,trivial,trivial,trivial⟩
theorem G3{mask i q:Nat}:iW mask { j:=i+dD mask i,more:=dD mask i-dD mask i,i:=i,perturb:=q,dummy:=none }=EB mask (leap mask i q).1 (leap mask i q).2:=by unfold iW;rw[if_neg (by show¬(dD mask i-dD mask i>0);omega)];rfl
theorem oR(mask:Nat)(h:Int):∀L r,r≤dD mask (c4 mask h L).1→b8 mask h (a4 mask h L+r)={ j:=(c4 mask h L).1+r,more:=dD mask (c4 mask h L).1-r,i:=(c4 mask h L).1,perturb:=(c4 mask h L).2,dummy:=none }
 |0,0,_=>rfl
 |L,r+1,aw=>by have:=oR mask h L r (by omega);show iW mask (b8 mask h (a4 mask h L+r))=_;rw[this];exact G2 (by omega)
 |L+1,0,_=>by have:=oR mask h L (dD mask (c4 mask h L).1) (VG _);show iW mask (b8 mask h (a4 mask h L+dD mask (c4 mask h L).1))=_;rw[this,G3];rfl
theorem He(h:Int):bits h<2^64:=by unfold bits;have:=Int.emod_lt_of_pos h (b:=2^64) (by decide);have:=Int.emod_nonneg h (b:=2^64) (by decide);omega
theorem Dq(mask:Nat)(h:Int):∀n,(c4 mask h n).2=bits h/32^n
 |0=>by simp[c4]
 |n+1=>by show(c4 mask h n).2/32=_;rw[Dq mask h n,Nat.div_div_eq_div_mul,Nat.pow_succ]
theorem L6(mask:Nat)(h:Int)(n:Nat)(aK:13≤n):(c4 mask h n).2=0:=by
 rw[Dq];apply Nat.div_eq_of_lt;have h1:=He h;have h2:32^13≤32^n:=Nat.pow_le_pow_right (by decide) aK;have h3:(2:Nat)^64<32^13:=by decide
 omega
def iE(mask:Nat):Nat→Nat→Nat
 |0,i=>i
 |n+1,i=>(iE mask n i*5+1)%(mask+1)
theorem Dp(mask:Nat)(h:Int):∀m,(c4 mask h (13+m)).1=iE mask m (c4 mask h 13).1
 |0=>rfl
 |m+1=>by have e:(c4 mask h (13+(m+1))).2=0:=L6 mask h _ (by omega);have aA:(c4 mask h (13+m)).2/32=0:=e;show((c4 mask h (13+m)).1*5+1+(c4 mask h (13+m)).2/32)%(mask+1)=_;rw[aA,Dp mask h m];rfl
theorem sZ(mask:Nat)(a:Nat):∀b i,iE mask (a+b) i=iE mask b (iE mask a i)
 |0,_=>rfl
 |b+1,i=>by show(iE mask (a+b) i*5+1)%(mask+1)=_;rw[sZ mask a b i];rfl
def tx(mask:Nat):Nat→Nat→List Nat
 |0,_=>[]
 |n+1,i=>i::tx mask n ((i*5+1)%(mask+1))
theorem Dh(mask i:Nat):∀n,iE mask n ((i*5+1)%(mask+1))=iE mask (n+1) i
 |0=>rfl
 |n+1=>by show(iE mask n _*5+1)%_=_;rw[Dh mask i n];rfl
theorem xa(mask:Nat):∀n i j,j∈tx mask n i→∃m,m<n∧iE mask m i=j
 |0,_,_,h=>by cases h
 |n+1,i,j,h=>by
  rcases List.mem_cons.mp h with rfl|h
  ·exact⟨0,by omega,rfl⟩
  ·obtain⟨m,h1,h2⟩:=xa mask n _ j h;exact⟨m+1,by omega,by rw[←Dh];exact h2⟩
structure fS(mask:Nat):Prop where
 all:∀j,j≤mask→j∈tx mask (mask+1) 0
 back:iE mask (mask+1) 0=0
theorem fS.reach{mask:Nat}(C:fS mask){i j:Nat}(af:i≤mask)(cV:j≤mask):∃m,m≤mask∧iE mask m i=j:=by
 obtain⟨a,a1,a2⟩:=xa _ _ _ _ (C.all i af);obtain⟨b,fx,dy⟩:=xa _ _ _ _ (C.all j cV);by_cases h:a≤b
 ·refine⟨b-a,by omega,?_⟩;rw[←a2,←sZ,show a+(b-a)=b by omega,dy]
 ·refine⟨mask+1-a+b,by omega,?_⟩;rw[←a2,←sZ,show a+(mask+1-a+b)=(mask+1)+b by omega,sZ,C.back,dy]
theorem vp{mask:Nat}(h:(Wk (mask+1)).all (fun j=>(tx mask (mask+1) 0).contains j)=true)(b:iE mask (mask+1) 0=0):fS mask:=
 ⟨fun j cV=>by have:=List.all_eq_true.mp h j (List.mem_range.mpr (by omega));exact List.contains_iff_mem.mp this,b⟩
theorem AX:fS 7:=vp (by decide+kernel) (by decide+kernel)
theorem AW:fS 31:=vp (by decide+kernel) (by decide+kernel)
theorem AV:fS 127:=vp (by decide+kernel) (by decide+kernel)
theorem wQ(mask:Nat)(h:Int):∀n,(c4 mask h n).1≤mask
 |0=>YL (Nat.mod_lt _ (by omega))
 |n+1=>YL (Nat.mod_lt _ (by omega))
theorem fS.leap{mask:Nat}(C:fS mask)(h:Int){j:Nat}(cV:j≤mask):∃L,L<mask+15∧(c4 mask h L).1=j:=by obtain⟨m,h1,h2⟩:=C.reach (wQ mask h 13) cV;exact⟨13+m,by omega,by rw[Dp];exact h2⟩
theorem fS.cover{mask:Nat}(C:fS mask)(h:Int){j:Nat}(cV:j≤mask):∃n,n<10*turns mask∧(b8 mask h n).j=j:=by
 obtain⟨L,h1,h2⟩:=C.leap h cV;refine⟨a4 mask h L,?_,?_⟩
 ·have:=Fe mask h L;unfold turns;omega
 ·have:=oR mask h L 0 (WK _);simp only[Nat.add_zero]at this;rw[this];exact h2
theorem IB{P:List Nat}{mask:Nat}(hs:P.Pairwise (· <·))(aK:P.length≤mask):∃j,j≤mask∧j∉P:=by
 apply Wl;intro no;have all:∀j,j≤mask→j∈P:=fun j cV=>Wl fun z=>no ⟨j,cV,z⟩;have cn:(Wk (mask+1)).Nodup:=List.nodup_range;have sub:∀x∈Wk (mask+1),x∈P:=fun x av=>all x (by have:=List.mem_range.mp av;omega);have key:∀(l:List Nat),l.Nodup→∀(P:List Nat),(∀x∈l,x∈P)→l.length≤P.length:=by
  intro l;induction l with
  |nil=>intro _ P _;simp
  |cons a r cW=>intro cn P sub;obtain⟨c_,cT⟩:=List.nodup_cons.mp cn;have ah:=sub a (by simp);have:=cW cT (P.erase a) (fun x av=>(Yf (by intro e;subst e;exact c_ av)).mpr (sub x (by simp[av])));rw[XK ah]at this;have:0<P.length:=XT ah;simp;omega
 have:=key _ cn P sub;simp at this;omega
theorem least(p:Nat→Prop):(∃n,p n)→∃n,p n∧∀m,m<n→¬p m:=by
 rintro⟨n,h⟩;induction n using Nat.strongRecOn with
 |_ n cW=>
  by_cases q:∃m,m<n∧p m
  ·obtain⟨m,gz,g5⟩:=q;exact cW m gz g5
  ·exact⟨n,h,fun m hm bf=>q ⟨m,hm,bf⟩⟩
theorem fS.first{mask:Nat}(C:fS mask){P:List Nat}(hs:P.Pairwise (· <·))(aK:P.length≤mask)(h:Int):∃N,N<10*turns mask∧(b8 mask h N).j∉P∧∀m,m<N→(b8 mask h m).j∈P:=by obtain⟨j,m1,lQ⟩:=IB hs aK;obtain⟨n,c_,cT⟩:=C.cover h m1;obtain⟨N,rT,pE⟩:=least (fun n=>(b8 mask h n).j∉P) ⟨n,by rw[cT];exact lQ⟩;refine⟨N,?_,rT,fun m hm=>Wl (pE m hm)⟩;have:¬n<N:=fun z=>pE n z (by rw[cT];exact lQ);omega
theorem Dn(mask:Nat)(h:Int):∀n,(b8 mask h n).dummy=none
 |0=>rfl
 |n+1=>by
  show(iW mask (b8 mask h n)).dummy=none;unfold iW
  split<;>exact Dn mask h n
theorem xM{mask i:Nat}(af:i≤mask):runEnd mask i≤mask:=by unfold runEnd;split<;>omega
structure zG(mask:Nat)(p:Probe):Prop where
 i:p.i≤mask
 j:p.j+p.more≤mask
theorem ED(mask:Nat)(h:Int):∀n,zG mask (b8 mask h n)
 |0=>by have:=wQ mask h 0;have h2:=xM this;have h3:=xK mask (c4 mask h 0).1;exact⟨this,by show(c4 mask h 0).1+(runEnd mask (c4 mask h 0).1-(c4 mask h 0).1)≤mask;omega⟩
 |n+1=>by
  obtain⟨a,b⟩:=ED mask h n;show zG mask (iW mask (b8 mask h n));unfold iW
  split
  ·rename_i q;refine⟨a,?_⟩;show(b8 mask h n).j+1+((b8 mask h n).more-1)≤mask;omega
  ·have h1:(aab mask (b8 mask h n).i (b8 mask h n).perturb).1≤mask:=YL (Nat.mod_lt _ (by omega));have h2:=xM h1;have h3:=xK mask (aab mask (b8 mask h n).i (b8 mask h n).perturb).1;refine⟨h1,?_⟩;show(aab mask (b8 mask h n).i (b8 mask h n).perturb).1+(runEnd mask _-_)≤mask;omega
theorem EC(mask:Nat)(h:Int)(n:Nat):(b8 mask h n).j≤mask:=by have:=(ED mask h n).j;omega
section
variable{α:Type}
noncomputable def f6(t:Wt)(es:Array (Int×α))(j:Nat)(e:Int×α):Prop:=∃i:Nat,t.place.toList[i]?=some j∧es.toList[i]?=some e
structure ff(t:Wt)(es:Array (Int×α)):Prop where
 tab:Tab t es.size
 AU:fS t.mask
 room:es.size≤t.mask
 find:∀j e,f6 t es j e→∃n,(b8 t.mask e.1 n).j=j∧∀m,m<n→(b8 t.mask e.1 m).j∈t.place.toList
theorem ff.len{t:Wt}{es:Array (Int×α)}(I:ff t es):t.place.toList.length=es.size:=by simpa using I.tab.kl
theorem ff.first{t:Wt}{es:Array (Int×α)}(I:ff t es)(h:Int):∃N,N<10*turns t.mask∧(b8 t.mask h N).j∉t.place.toList∧∀m,m<N→(b8 t.mask h m).j∈t.place.toList:=
 I.AU.first I.tab.oU (by rw[I.len];exact I.room) h
theorem ff.ent{t:Wt}{es:Array (Int×α)}(I:ff t es){j i:Nat}(e:t.place.toList[i]?=some j):∃x,es.toList[i]?=some x:=by have:i<t.place.toList.length:=(List.getElem?_eq_some_iff.mp e).1;rw[I.len]at this;exact⟨_,Vz (by simpa using this)⟩
theorem Ew{t:Wt}{n:Nat}(T:Tab t n){i k j:Nat}(a:t.place.toList[i]?=some j)(b:t.place.toList[k]?=some j):i=k:=by
 obtain⟨a1,a2⟩:=List.getElem?_eq_some_iff.mp a;obtain⟨fx,dy⟩:=List.getElem?_eq_some_iff.mp b;have r:=List.pairwise_iff_getElem.mp T.oU;rcases Xh i k with h|h|h
 ·have:=r i k a1 fx h;omega
 ·exact h
 ·have:=r k i fx a1 h;omega
theorem f6.inj{t:Wt}{es:Array (Int×α)}{n:Nat}(T:Tab t n){j:Nat}{e bN:Int×α}(a:f6 t es j e)(b:f6 t es j bN):e=bN:=by obtain⟨i,a1,a2⟩:=a;obtain⟨k,fx,dy⟩:=b;have:=Ew T a1 fx;subst this;rw[a2]at dy;exact VM dy
theorem Ex{t:Wt}{es:Array (Int×α)}(I:ff t es){f:Nat→Int}(hf:∀(i:Nat) e,es.toList[i]?=some e→f i=e.1)(h:Int){N:Nat}(h1:(b8 t.mask h N).j∉t.place.toList)(h2:∀m,m<N→(b8 t.mask h m).j∈t.place.toList) :
  ∀fuel n,n≤N→N-n<fuel→
  (probe.go t f h fuel (b8 t.mask h n)=some (.empty (b8 t.mask h N).j none)∧∀m,n≤m→m<N→∀e,f6 t es (b8 t.mask h m).j e→e.1≠h)∨
  (∃m i e,n≤m∧m<N∧t.place.toList[i]?=some (b8 t.mask h m).j∧es.toList[i]?=some e∧e.1=h∧probe.go t f h fuel (b8 t.mask h n)=some (.candidate (b8 t.mask h m).j i (b8 t.mask h (m+1)))∧∀ck,n≤ck→ck<m→∀e,f6 t es (b8 t.mask h ck).j e→e.1≠h)
 |0,n,_,SQ=>by omega
 |fuel+1,n,aK,i3=>by
  unfold probe.go;by_cases q:n=N
  ·subst q
   left
   rw[P1 I.tab h1];dsimp only;rw[Dn];exact⟨rfl,fun m a b=>by omega⟩
  ·obtain⟨i,s1,s2⟩:=Ff I.tab (h2 n (by omega));obtain⟨x,av⟩:=I.ent s2;rw[s1];dsimp only;by_cases w:x.1=h
   ·right
    refine⟨n,i,x,VG _,by omega,s2,av,w,?_,fun ck a b=>by omega⟩;rw[if_pos (by rw[hf i x av,w];simp),zS];rfl
   ·rw[if_neg (by rw[hf i x av];simpa using w),zS];have no:∀e,f6 t es (b8 t.mask h n).j e→e.1≠h:=fun e he=>by
     rw[f6.inj I.tab he ⟨i,s2,av⟩];exact w
    rcases Ex I hf h h1 h2 fuel (n+1) (by omega) (by omega)with⟨a,b⟩|⟨m,sR,e,a1,a2,eX,gV,ik,hK,u3⟩
    ·refine .inl ⟨a,fun m c d=>?_⟩;rcases Xo c with rfl|c
     ·exact no
     ·exact b m c d
    ·refine .inr ⟨m,sR,e,by omega,a2,eX,gV,ik,hK,fun ck c d=>?_⟩;rcases Xo c with rfl|c
     ·exact no
     ·exact u3 ck c d
theorem Ib{t t':Wt}{es:Array (Int×α)}(ak:t.place.toList.length=es.size){j p:Nat}{e:Int×α}(bf:p≤es.size)(dW:t'.place.toList=t.place.toList.take p++j::t.place.toList.drop p){wH:Nat}{bN:Int×α}(h:f6 t' (insertAt es p e) wH bN):(wH=j∧bN=e)∨f6 t es wH bN:=by
 obtain⟨i,a,b⟩:=h;rw[dW]at a;rw[sU]at b;have eI:(t.place.toList.take p).length=p:=by rw[WR,ak];omega
 have bD:(es.toList.take p).length=p:=by rw[WR,Xi];omega
 rcases Xh i p with q|q|q
 ·right
  rw[VO (by omega),XI q]at a;rw[VO (by omega),XI q]at b;exact⟨i,a,b⟩
 ·left
  subst q;rw[VI (by omega),eI,aaq]at a;rw[VI (by omega),bD,aaq]at b;simp at a b;exact⟨a.symm,b.symm⟩
 ·right
  obtain⟨k,rfl⟩:∃k,i=p+1+k:=⟨i-p-1,by omega⟩;rw[VI (by omega),eI,show p+1+k-p=k+1 by omega,Xk,Yv]at a;rw[VI (by omega),bD,show p+1+k-p=k+1 by omega,Xk,Yv]at b;exact⟨p+k,a,b⟩
theorem ff.put{t:Wt}{es:Array (Int×α)}(I:ff t es){h:Int}{x:α}{N:Nat}(h1:(b8 t.mask h N).j∉t.place.toList)(h2:∀m,m<N→(b8 t.mask h m).j∈t.place.toList)(aw:es.size+1≤t.mask) :
  ff (t.put (b8 t.mask h N).j).1 (insertAt es (t.put (b8 t.mask h N).j).2 (h,x))∧(t.put (b8 t.mask h N).j).2≤es.size∧(insertAt es (t.put (b8 t.mask h N).j).2 (h,x)).size=es.size+1:=by
 obtain⟨p,eQ,bZ,pJ,dW,_⟩:=OE I.tab h1 (EC _ _ _);have hsz:(insertAt es p (h,x)).size=es.size+1:=by
  have:(insertAt es p (h,x)).toList.length=es.size+1:=by rw[sU,Wx,Wf,WR,YW,Xi];omega
  simpa using this
 rw[eQ];have kL:∀y∈t.place.toList,y∈(t.put (b8 t.mask h N).j).1.place.toList:=fun y bO=>by
  rw[dW];rw[←W9 p t.place.toList]at bO;rcases List.mem_append.mp bO with bO|bO
  ·exact Ww _ bO
  ·exact VQ _ (VC _ bO)
 refine⟨⟨by rw[hsz];exact pJ,I.AU,by rw[hsz];exact aw,fun j e he=>?_⟩,bZ,hsz⟩;rcases Ib I.len bZ dW he with⟨rfl,rfl⟩|he
 ·exact⟨N,rfl,fun m hm=>kL _ (h2 m hm)⟩
 ·obtain⟨n,c_,cT⟩:=I.find j e he;exact⟨n,c_,fun m hm=>kL _ (cT m hm)⟩
end
theorem E8(mask:Nat)(h:Int):∀L m,m<a4 mask h L→∃e5 r,e5<L∧r≤dD mask (c4 mask h e5).1∧m=a4 mask h e5+r
 |0,m,hm=>by simp[a4]at hm
 |L+1,m,hm=>by
  by_cases q:m<a4 mask h L
  ·obtain⟨e5,r,a,b,c⟩:=E8 mask h L m q;exact⟨e5,r,by omega,b,c⟩
  ·unfold a4 at hm;exact⟨L,m-a4 mask h L,by omega,by omega,by omega⟩
structure Own(M:Nat)(owner:Array (Option Nat))(a:List Nat):Prop where
 kl:owner.size=M+1
 cn:a.Nodup
 le:∀j∈a,j≤M
 of:∀j k:Nat,owner[j]?=some (some k)↔a[k]?=some j
theorem Own.free{M:Nat}{owner:Array (Option Nat)}{a:List Nat}(O:Own M owner a){j:Nat}(cV:j≤M):(owner.getD j (some 0)).isNone=true↔j∉a:=by
 have hs:j<owner.size:=by have:=O.kl;omega
 rw[Wg,Wb hs];constructor
 ·intro h m;obtain⟨k,aH,rfl⟩:=WL m;have:=(O.of _ k).mpr (Vz aH);rw[Wb hs]at this;simp only[XC]at h;rw[VM this]at h;cases h
 ·intro h;simp only[XC];cases e:owner[j]with
  |none=>rfl
  |some k=>exfalso;have:=(O.of j k).mp (by rw[Wb hs,e]);exact h (VX this)
theorem B5{M:Nat}{owner:Array (Option Nat)}{a:List Nat}(O:Own M owner a)(h:Int):∀fuel L,(∃hG,L≤hG∧hG<L+fuel∧(c4 M h hG).1∉a)→
  ∃e5 k,layClean.free M owner fuel (c4 M h L).1 (c4 M h L).2=some ((c4 M h e5).1+k)∧k≤dD M (c4 M h e5).1∧(c4 M h e5).1+k∉a∧L≤e5∧(∀jZ,L≤jZ→jZ<e5→∀r,r≤dD M (c4 M h jZ).1→(c4 M h jZ).1+r∈a)∧∀r,r<k→(c4 M h e5).1+r∈a
 |0,L,⟨hG,h1,h2,_⟩=>by omega
 |fuel+1,L,⟨hG,h1,h2,h3⟩=>by
  unfold layClean.free;have hle:=wQ M h L;have S3:=xM hle;have SU:=xK M (c4 M h L).1;cases hf:(Wk (runEnd M (c4 M h L).1+1-(c4 M h L).1)).find? fun k=>(owner.getD ((c4 M h L).1+k) (some 0)).isNone with
  |some k=>
   dsimp only;obtain⟨aQ,as,bs,a9,c5⟩:=List.find?_eq_some_iff_append.mp hf;have aH:k∈Wk (runEnd M (c4 M h L).1+1-(c4 M h L).1):=by rw[a9];simp
   have aH:=List.mem_range.mp aH;refine⟨L,k,rfl,by unfold dD;omega,(O.free (by omega)).mp aQ,VG _,fun jZ c d=>by omega,fun r aw=>?_⟩;have:r∈as:=by
    have gX:as.length=k:=by
     have:=congrArg (·[as.length]?) a9;simp only[VI (VG _),aaq,List.getElem?_cons_zero]at this;have l:as.length<runEnd M (c4 M h L).1+1-(c4 M h L).1:=by have:=congrArg List.length a9;simp at this;omega
     rw[XF l]at this;exact VM this
    have:=congrArg (·[r]?) a9;rw[VO (by omega),XF (by omega)]at this;exact VX this.symm
   have no:=c5 r this;apply Wl;intro z;rw[(O.free (by omega)).mpr z]at no;simp at no
  |none=>
   dsimp only;have all:∀r,r≤dD M (c4 M h L).1→(c4 M h L).1+r∈a:=fun r aw=>by have:=List.find?_eq_none.mp hf r (List.mem_range.mpr (by unfold dD at aw;omega));apply Wl;intro z;exact this ((O.free (by unfold dD at aw;omega)).mpr z)
   have ne:L≠hG:=by rintro rfl;exact h3 (by simpa using all 0 (WK _))
   obtain⟨e5,k,a1,a2,eX,gV,ik,hK⟩:=B5 O h fuel (L+1) ⟨hG,by omega,by omega,h3⟩;refine⟨e5,k,a1,a2,eX,by omega,fun jZ c d=>?_,hK⟩;rcases Xo c with rfl|c
   ·exact all
   ·exact ik jZ c d
theorem IC{M:Nat}(C:fS M){owner:Array (Option Nat)}{a:List Nat}(O:Own M owner a)(ak:a.length≤M)(h:Int):∃N,layClean.free M owner (turns M) (bits h%(M+1)) (bits h)=some (b8 M h N).j∧(b8 M h N).j∉a∧∀m,m<N→(b8 M h m).j∈a:=by
 have:∃j,j≤M∧j∉a:=by
  apply Wl;intro no;have all:∀j,j≤M→j∈a:=fun j cV=>Wl fun z=>no ⟨j,cV,z⟩;have key:∀(l:List Nat),l.Nodup→∀(P:List Nat),(∀x∈l,x∈P)→l.length≤P.length:=by
   intro l;induction l with
   |nil=>intro _ P _;simp
   |cons a r cW=>intro cn P sub;obtain⟨c_,cT⟩:=List.nodup_cons.mp cn;have ah:=sub a (by simp);have:=cW cT (P.erase a) (fun x av=>(Yf (by intro e;subst e;exact c_ av)).mpr (sub x (by simp[av])));rw[XK ah]at this;have:0<P.length:=XT ah;simp;omega
  have:=key (Wk (M+1)) List.nodup_range a (fun x av=>all x (by have:=List.mem_range.mp av;omega));simp at this;omega
 obtain⟨j,m1,lQ⟩:=this;obtain⟨hG,eI,bD⟩:=C.leap h m1;obtain⟨e5,k,a1,a2,eX,gV,ik,hK⟩:=B5 O h (turns M) 0 ⟨hG,WK _,by unfold turns;omega,by rw[bD];exact lQ⟩;have e:=oR M h e5 k a2;refine⟨a4 M h e5+k,by rw[e];exact a1,by rw[e];exact eX,fun m hm=>?_⟩;by_cases q:m<a4 M h e5
 ·obtain⟨jZ,r,fx,dy,u_⟩:=E8 M h e5 m q;rw[u_,oR M h jZ r dy];exact ik jZ (WK _) fx r dy
 ·obtain⟨r,rfl⟩:∃r,m=a4 M h e5+r:=⟨m-a4 M h e5,by omega⟩;rw[oR M h e5 r (by omega)];exact hK r (by omega)
noncomputable def tV(M:Nat)(acc:Option (Array (Option Nat)×Nat))(h:Int):Option (Array (Option Nat)×Nat):=do
 let(owner,k) ←acc
 let j ←layClean.free M owner (turns M) (bits h%(M+1)) (bits h)
 pure (owner.setIfInBounds j (some k),k+1)
theorem LW(M:Nat)(hs:Array Int):layClean M hs=(hs.toList.foldl (tV M) (some (Array.replicate (M+1) none,0))).map (·.1):=by unfold layClean;rw[←Array.foldl_toList];rfl
structure Laid(M:Nat)(hs:List Int)(a:List Nat):Prop where
 len:a.length=hs.length
 find:∀(k:Nat) j h,a[k]?=some j→hs[k]?=some h→∃n,(b8 M h n).j=j∧∀m,m<n→(b8 M h m).j∈a
theorem Own.add{M:Nat}{owner:Array (Option Nat)}{a:List Nat}(O:Own M owner a){j:Nat}(cV:j≤M)(aK:j∉a):Own M (owner.setIfInBounds j (some a.length)) (a++[j]):=by
 have hs:j<owner.size:=by have:=O.kl;omega
 refine⟨by simp[O.kl],?_,?_,fun i k=>?_⟩
 ·refine List.nodup_append.mpr ⟨O.cn,by simp,fun x av y bO=>?_⟩;simp at bO;subst bO;intro e;subst e;exact aK av
 ·intro i af;rcases List.mem_append.mp af with af|af
  ·exact O.le i af
  ·simp at af;omega
 ·rw[Array.getElem?_setIfInBounds];by_cases q:j=i
  ·subst q;rw[if_pos rfl,if_pos hs];constructor
   ·intro e;have e:=VM (VM e);subst e;rw[VI (VG _)];simp
   ·intro e;rcases Xh k a.length with w|w|w
    ·rw[VO w]at e;exact absurd (VX e) aK
    ·rw[w]
    ·rw[W_ (by simp;omega)]at e;cases e
  ·rw[if_neg q,O.of i k];rcases Xh k a.length with w|w|w
   ·rw[VO w]
   ·subst w;rw[VI (VG _),W_ (VG _)];simp;exact q
   ·rw[W_ (by omega),W_ (by simp;omega)]
theorem BZ{M:Nat}(C:fS M):∀(hs done:List Int)(owner:Array (Option Nat))(a:List Nat),Own M owner a→Laid M done a→done.length+hs.length≤M→
  ∃tB ij,hs.foldl (tV M) (some (owner,a.length))=some (tB,ij.length)∧Own M tB ij∧Laid M (done++hs) ij
 |[],done,owner,a,O,L,_=>⟨owner,a,rfl,O,by simpa using L⟩
 |h::hs,done,owner,a,O,L,ak=>by
  simp only[Wf]at ak;obtain⟨N,f1,f2,d9⟩:=IC C O (by rw[L.len];omega) h;have pF:=O.add (EC M h N) f2;have e5:Laid M (done++[h]) (a++[(b8 M h N).j]):=by
   refine⟨by simp[L.len],fun k j g h1 h2=>?_⟩;rcases Xh k a.length with w|w|w
   ·rw[VO w]at h1;rw[VO (by rw[←L.len];exact w)]at h2;obtain⟨n,c_,cT⟩:=L.find k j g h1 h2;exact⟨n,c_,fun m hm=>Ww _ (cT m hm)⟩
   ·subst w;rw[VI (VG _)]at h1;rw[L.len,VI (VG _)]at h2;simp at h1 h2;subst h1;subst h2;exact⟨N,rfl,fun m hm=>Ww _ (d9 m hm)⟩
   ·rw[W_ (by simp;omega)]at h1;cases h1
  have step:tV M (some (owner,a.length)) h=some (owner.setIfInBounds (b8 M h N).j (some a.length),(a++[(b8 M h N).j]).length):=by unfold tV;simp only[Option.bind_eq_bind,Option.bind_some,f1];simp
  obtain⟨tB,ij,au,bl,dp⟩:=BZ C hs (done++[h]) _ _ pF e5 (by simp;omega);refine⟨tB,ij,?_,bl,by simpa using dp⟩;rw[Y9,step];exact au
theorem LX{M:Nat}(C:fS M){hs:Array Int}(ak:hs.size≤M):∃owner a,layClean M hs=some owner∧Own M owner a∧Laid M hs.toList a:=by
 have O:Own M (Array.replicate (M+1) none) []:=⟨by simp,by simp,by simp,fun j k=>by
  rw[Array.getElem?_replicate]
  split<;>simp⟩
 obtain⟨owner,a,au,bl,dp⟩:=BZ C hs.toList [] _ [] O ⟨rfl,by simp⟩ (by simpa using ak);refine⟨owner,a,?_,bl,by simpa using dp⟩;rw[LW];have:(List.length ([]:List Nat))=0:=rfl;rw[this]at au;rw[au];rfl
theorem D6{l P:List Nat}(cn:l.Nodup)(sub:∀x∈l,x∈P):l.length≤P.length:=by
 induction l generalizing P with
 |nil=>simp
 |cons a r cW=>obtain⟨c_,cT⟩:=List.nodup_cons.mp cn;have ah:=sub a (by simp);have:=cW cT (P:=P.erase a) (fun x av=>(Yf (by intro e;subst e;exact c_ av)).mpr (sub x (by simp[av])));rw[XK ah]at this;have:0<P.length:=XT ah;simp;omega
section
variable{α:Type}
theorem filterMap_get{es:List α}:∀{l:List Nat},(∀k∈l,k<es.length)→(l.filterMap (es[·]?)).length=l.length∧∀(i:Nat) e,(l.filterMap (es[·]?))[i]?=some e→∃k,l[i]?=some k∧es[k]?=some e
 |[],_=>⟨rfl,fun i e h=>by simp at h⟩
 |k::l,aH=>by
  have Jh:k<es.length:=aH k (by simp);have h0:es[k]?=some es[k]:=Vz Jh;obtain⟨a,b⟩:=filterMap_get (es:=es) (l:=l) fun x av=>aH x (by simp[av]);rw[WJ,h0];refine⟨by simp[a],fun i e h=>?_⟩;cases i with
  |zero=>simp at h;exact⟨k,rfl,by rw[h0,h]⟩
  |succ i=>simpa using b i e (by simpa using h)
theorem LQ{M:Nat}(C:fS M){es:Array (Int×α)}(ak:es.size≤M)(finger moves:Nat)(led plain:Bool) :
  ∃t' order,laid M finger moves led plain (es.map (·.1))=some (t',order)∧t'.mask=M∧t'.led=led∧t'.plain=plain∧t'.moves=moves∧t'.dummies= #[]∧
   (order.filterMap (es[·]?)).size=es.size∧ff t' (order.filterMap (es[·]?))∧∀e,e∈(order.filterMap (es[·]?)).toList↔e∈es.toList:=by
 obtain⟨owner,a,bE,O,L⟩:=LX C (hs:=es.map (·.1)) (by simpa using ak);have L3:a.length=es.size:=by rw[L.len];simp
 have Nc:∀j,j≤M→∃x,owner[j]?=some x:=fun j cV=>⟨_,Wb (by have:=O.kl;omega)⟩;obtain⟨live,vy⟩:∃live,live=(Wk (M+1)).filterMap fun j=>(owner.getD j none).map (j,·):=⟨_,rfl⟩;have mem:∀j k,(j,k)∈live↔a[k]?=some j:=by
  intro j k;rw[vy,List.mem_filterMap];constructor
  ·rintro⟨i,af,e⟩;obtain⟨x,av⟩:=Nc i (by have:=List.mem_range.mp af;omega);rw[Wg,av,XC]at e;cases x with
   |none=>cases e
   |some y=>simp at e;obtain⟨rfl,rfl⟩:=e;exact(O.of _ _).mp av
  ·intro e;have cV:=O.le j (VX e);refine⟨j,List.mem_range.mpr (by omega),?_⟩;rw[Wg,(O.of j k).mpr e];rfl
 have rise:(live.map (·.1)).Pairwise (· <·):=by
  rw[vy,List.pairwise_map];refine List.Pairwise.filterMap _ (R:=(· <·)) ?_ (by simpa using List.pairwise_lt_range);intro i sR Jd b J fw kE;cases q:owner.getD i none with
  |none=>rw[q]at J;simp at J
  |some y=>
   cases cq:owner.getD sR none with
   |none=>rw[cq]at kE;simp at kE
   |some Gw=>rw[q]at J;rw[cq]at kE;simp at J kE;subst J;subst kE;exact Jd
 have MO:(live.map (·.1)).Nodup:=rise.imp (fun h=>VV h);have kP:live.length=es.size:=by
  apply Nat.le_antisymm
  ·have:=D6 MO (P:=a) (fun x av=>by
     obtain⟨p,eQ,rfl⟩:=List.mem_map.mp av;exact VX ((mem p.1 p.2).mp eQ))
   simp at this;omega
  ·have:=D6 O.cn (P:=live.map (·.1)) (fun x av=>by
     obtain⟨k,aH,rfl⟩:=WL av;exact List.mem_map.mpr ⟨(a[k],k),(mem _ _).mpr (Vz aH),rfl⟩)
   simp at this;omega
 have NG:∀k∈live.map (·.2),k<es.toList.length:=fun k aH=>by obtain⟨p,eQ,rfl⟩:=List.mem_map.mp aH;have:=(List.getElem?_eq_some_iff.mp ((mem p.1 p.2).mp eQ)).1;simp;omega
 have vM:((live.map (·.2)).toArray.filterMap (es[·]?)).toList=(live.map (·.2)).filterMap (es.toList[·]?):=by rw[Array.toList_filterMap];simp
 obtain⟨g1,g2⟩:=filterMap_get NG;have hsz:((live.map (·.2)).toArray.filterMap (es[·]?)).size=es.size:=by
  have:((live.map (·.2)).toArray.filterMap (es[·]?)).toList.length=es.size:=by rw[vM,g1];simp[kP]
  simpa using this
 refine⟨_,_,by
  unfold laid;rw[bE];show some _=_;rw[←vy],rfl,rfl,rfl,rfl,rfl,hsz,⟨⟨rfl,?_,?_,?_⟩,C,by rw[hsz];exact ak,?_⟩,fun e=>?_⟩
 ·rw[hsz];simp[kP]
 ·simpa using rise
 ·intro j cV;have cV:j∈live.map (·.1):=by simpa using cV
  obtain⟨p,eQ,rfl⟩:=List.mem_map.mp cV;exact O.le _ (VX ((mem p.1 p.2).mp eQ))
 ·rintro j e ⟨i,h1,h2⟩;have h1:(live.map (·.1))[i]?=some j:=by simpa using h1
  rw[vM]at h2;obtain⟨k,k1,k2⟩:=g2 i e h2;have aH:live[i]?=some (j,k):=by
   rw[VW]at h1 k1;cases q:live[i]? with
   |none=>rw[q]at h1;cases h1
   |some p=>rw[q]at h1 k1;simp at h1 k1;rw[←h1,←k1]
  have aH:=(mem j k).mp (VX aH);obtain⟨n,c_,cT⟩:=L.find k j e.1 aH (by simp at k2 ⊢;exact⟨_,k2⟩);refine⟨n,c_,fun m hm=>?_⟩;have:=cT m hm;obtain⟨k',kI,bN⟩:=WL this;have:(b8 M e.1 m).j∈live.map (·.1):=List.mem_map.mpr ⟨((b8 M e.1 m).j,k'),(mem _ _).mpr (by rw[←bN];exact Vz kI),rfl⟩;simpa using this
 ·rw[vM,List.mem_filterMap];constructor
  ·rintro⟨k,_,q⟩;exact VX q
  ·intro q;obtain⟨k,aH,rfl⟩:=WL q;refine⟨k,?_,Vz aH⟩;have Ji:k<a.length:=by rw[L3];simpa using aH
   exact List.mem_map.mpr ⟨(a[k],k),(mem _ _).mpr (Vz Ji),rfl⟩
end
section
variable{prog:VR}{w:V9}{A:V0}{E:Vw→Vx→Prop}{s:Vx}{K:Type}[DecidableEq K]{knd:KeyKind prog w K}
theorem D7{aI:List K}{a:VD}{n:Nat}{Q:Bool→Vx→Prop}(aH:Wo knd s.heap aI a)(h:Q false s):VL (VT prog w) A (X0 (n+1) (.ref a)) Q E s:=by
 have gf:=aH.typeIs;obtain⟨o,items,m,aB,_,hd,af⟩:=aH;unfold X0;refine Vv (wpAny_typeOf gf ?_);dsimp only;rw[if_pos (by rfl)];refine Vv (VB ?_);simp only[YT,Wy,if_false];refine Vv (WN aB hd ?_);dsimp only;refine Vv ?_;rw[←Array.forIn_toList];refine YY _ (fun rest r s'=>r.1=none∧s'=s∧∀v∈rest,X3 v=true) _ ?_ ?_ _ _ ⟨rfl,rfl,af.byValue⟩
 ·rintro v rest r s' ⟨aw,rfl,al⟩;have e:X0 n v=pure false:=by
   have:=al v V5;cases v<;>first|(simp[X3]at this;done)|(unfold X0;rfl)
  rw[e];refine Vv (VB ?_);simp only[Wy,if_false];exact VB ⟨rfl,rfl,fun u aN=>al u (VC _ aN)⟩
 ·rintro⟨au,bl⟩ s' ⟨aw,rfl,_⟩;simp only at aw;subst aw;exact VB h
theorem Hl{aI:List K}{a:VD}{Q:Bool→Vx→Prop}(aH:Wo knd s.heap aI a)(h:∀b,Q b s):VL (VT prog w) A (ZZ 8 (.ref a)) Q E s:=by
 have gf:=aH.typeIs;obtain⟨o,items,m,aB,_,hd,af⟩:=aH;unfold ZZ;refine Vv (Za gf F.slot_tuple_hash.lookup ?_);dsimp only;refine Vv (WN aB hd ?_);simp only[XC];refine Vv ?_;rw[←Array.forIn_toList];refine YY _ (fun rest r s'=>r.1=none∧s'=s∧∀v∈rest,X3 v=true) _ ?_ ?_ _ _ ⟨rfl,rfl,af.byValue⟩
 ·rintro v rest r s' ⟨aw,rfl,al⟩;have e:∃b,ZZ 7 v=pure b:=by
   have:=al v V5;cases v<;>first|(simp[X3]at this;done)|(unfold ZZ;exact⟨_,rfl⟩)
  obtain⟨b,e⟩:=e;rw[e];refine Vv (VB ?_);cases b with
  |true=>exact VB ⟨rfl,rfl,fun u aN=>al u (VC _ aN)⟩
  |false=>exact VB (VB (h _))
 ·rintro⟨au,bl⟩ s' ⟨aw,rfl,_⟩;simp only at aw;subst aw;exact VB (h _)
structure pk(knd:KeyKind prog w K)(h:Wv)(es:List (Int×Vw)):Prop where
 el:∀e∈es,∃aI b,e.2=.ref b∧Wo knd h aI b∧e.1=VU knd aI
noncomputable def rN(knd:KeyKind prog w K)(h:Wv)(es:List (Int×Vw))(aI:List K):Prop:=∃e∈es,∃b,e.2=.ref b∧Wo knd h aI b
theorem M0{aI:List K}{x:VD}(av:Wo knd s.heap aI x):∀(l:List Vw),(∀y∈l,∃jC b,y=.ref b∧Wo knd s.heap jC b)→∀{Q:Bool→Vx→Prop},Q false s→VL (VT prog w) A (searchCouldBeSeen (.ref x) l) Q E s:=by
 intro l ak Q h;unfold searchCouldBeSeen;refine Vv ?_;refine YY _ (fun rest r s'=>r.1=none∧s'=s∧∀y∈rest,∃jC b,y=.ref b∧Wo knd s.heap jC b) _ ?_ ?_ _ _ ⟨rfl,rfl,ak⟩
 ·rintro v rest r s' ⟨aw,rfl,al⟩;obtain⟨jC,b,rfl,J⟩:=al v V5;have zT:=fun u(aN:u∈rest)=>al u (VC _ aN);dsimp only;by_cases q:(x==b)=true
  ·rw[if_pos (by simp[q])];exact VB ⟨rfl,rfl,zT⟩
  ·rw[if_neg (by simp[X3];simpa using q)];refine Vv (wpAny_eqIsQuiet_tuple av ?_);simp only[YT,Wy,if_false];refine Vv (wpAny_eqIsQuiet_tuple J ?_);simp only[YT,Wy,if_false];refine Vv (D7 av ?_);simp only[Wy,if_false];refine Vv (D7 J ?_);simp only[Wy,if_false];exact VB ⟨rfl,rfl,zT⟩
 ·rintro⟨au,bl⟩ s' ⟨aw,rfl,_⟩;simp only at aw;subst aw;exact VB h
end
section
variable{prog:VR}{w:V9}{A:V0}{E:Vw→Vx→Prop}{s:Vx}{K:Type}[DecidableEq K]{knd:KeyKind prog w K}
theorem pk.at{h:Wv}{t:Wt}{es:Array (Int×Vw)}(X:pk knd h es.toList){j:Nat}{e:Int×Vw}(q:f6 t es j e):∃aI b,e.2=.ref b∧Wo knd h aI b∧e.1=VU knd aI:=by obtain⟨i,_,q⟩:=q;exact X.el e (VX q)
theorem ff.fits{t:Wt}{es:Array (Int×Vw)}(I:ff t es):t.fits es.size=true:=by unfold SetTable.fits SetTable.fill;rw[I.tab.p6,I.tab.kl];have:=I.room;simp;omega
theorem ff.mem{t:Wt}{es:Array (Int×Vw)}(I:ff t es){e:Int×Vw}(m:e∈es.toList):∃j,f6 t es j e:=by
 obtain⟨i,af,rfl⟩:=WL m;have:i<t.place.toList.length:=by rw[I.len];simpa using af
 exact⟨_,i,Vz this,Vz af⟩
theorem f6.place{t:Wt}{es:Array (Int×Vw)}{j:Nat}{e:Int×Vw}(q:f6 t es j e):j∈t.place.toList:=by obtain⟨i,q,_⟩:=q;exact VX q
theorem ff.Np{t:Wt}{es:Array (Int×Vw)}(I:ff t es)(X:pk knd s.heap es.toList){aI:List K}{N:Nat}(h1:(b8 t.mask (VU knd aI) N).j∉t.place.toList)(bF:rN knd s.heap es.toList aI) :
  ∃m e b,m<N∧f6 t es (b8 t.mask (VU knd aI) m).j e∧e.1=VU knd aI∧e.2=.ref b∧Wo knd s.heap aI b:=by
 obtain⟨e,dX,b,bx,fY⟩:=bF;obtain⟨j,q⟩:=I.mem dX;obtain⟨jC,fw,ao,k1,aA⟩:=X.el e dX;rw[bx]at ao;cases ao;have:=fY.inj k1;subst this;obtain⟨n,c_,cT⟩:=I.find j e q;rw[aA]at c_ cT;refine⟨n,e,b,?_,by rw[c_];exact q,aA,bx,fY⟩;rcases Xh n N with z|z|z
 ·exact z
 ·subst z;exact absurd (by rw[c_];exact q.place) h1
 ·exact absurd (cT N z) h1
theorem E7{a x:VD}{o:Obj}{b7:Nat}{t:Wt}{es:Array (Int×Vw)}{aI:List K}(aN:A.units<XE)(aB:s.heap.get? a=some o)(hd:o.data=.set es b7 t)(I:ff t es)(X:pk knd s.heap es.toList)(av:Wo knd s.heap aI x)(tu:t.mask%2=1){N:Nat}(bR:N<10*turns t.mask)(h1:(b8 t.mask (VU knd aI) N).j∉t.place.toList)(h2:∀m,m<N→(b8 t.mask (VU knd aI) m).j∈t.place.toList){Q:SetFound→Vx→Prop}(yes:rN knd s.heap es.toList aI→Q (.there none) s)(no:¬rN knd s.heap es.toList aI→Q (.free (b8 t.mask (VU knd aI) N).j false) s) :
  ∀(fuel n:Nat)(st:Option Probe),n≤N→N-n<fuel→st.getD (t.probeStart (VU knd aI))=b8 t.mask (VU knd aI) n→
   (∀m,m<n→∀e,f6 t es (b8 t.mask (VU knd aI) m).j e→∀b,e.2=.ref b→¬Wo knd s.heap aI b)→
   VL (VT prog w) A (setSearchFrom a (.ref x) (VU knd aI) true fuel st) Q E s
 |0,n,_,_,z,_,_=>by omega
 |fuel+1,n,st,aK,hf,dF,j_=>by
  unfold setSearchFrom;refine Vv (Xv aB hd I.fits ?_);dsimp only;rw[if_neg (by unfold SetTable.gaveWay;simp[tu])];rw[dF];unfold SetTable.probe;have G:=Ex I (f:=fun i=>(es[i]?.map (·.1)).getD 0) (fun i e q=>by simp at q;simp[q]) (VU knd aI) h1 h2 (10*turns t.mask) n aK (by omega);generalize bG:probe.go t _ (VU knd aI) (10*turns t.mask) (b8 t.mask (VU knd aI) n)=z;rcases G with⟨g,g2⟩|⟨m,i,e,gz,g5,wR,wU,Tj,g,g2⟩
  ·have g:=bG.symm.trans g;subst g;dsimp only;refine VB (no fun bF=>?_);obtain⟨m,e,b,gz,q,a9,c5,gj⟩:=I.Np X h1 bF;by_cases z:m<n
   ·exact j_ m z e q b c5 gj
   ·exact g2 m (by omega) gz e q a9
  ·have g:=bG.symm.trans g;subst g;dsimp only;have A6:f6 t es (b8 t.mask (VU knd aI) m).j e:=⟨i,wR,wU⟩;obtain⟨jC,b,bx,fY,_⟩:=X.at A6;have iw:es[i]?=some (e.1,.ref b):=by
    have:es[i]?=some e:=by simpa using wU
    rw[this,←bx]
   have cb:t.slot (b8 t.mask (VU knd aI) m).j=.live i:=by obtain⟨sR,s1,s2⟩:=Ff I.tab (VX wR);rw[s1,Ew I.tab s2 wR]
   have seen:∀y∈(Array.filter (fun z:Int×Vw=>z.1==VU knd aI) es).toList.map (·.2),∃jC b,y=.ref b∧Wo knd s.heap jC b:=fun y bO=>by
    obtain⟨e,he,rfl⟩:=List.mem_map.mp bO;have he:e∈es.toList:=by simp at he;simpa using he.1
    obtain⟨k2,dy,bE,c9,eY⟩:=X.el e he;exact⟨k2,dy,bE,c9⟩
   cases ak:t.led
   all_goals first
    |rw[if_neg (show¬((!true)=true)by simp)]
    |(rw[if_pos (show(!false)=true from rfl)];refine Vv (M0 av _ seen ?_);rw[if_neg (show¬(false=true)by simp)])
   all_goals
    rw[iw];dsimp only;refine Vv (WU (wpAny_eqBool_tuple aN fY av ?_));refine Vv (Xv aB hd I.fits ?_);dsimp only;by_cases q:jC=aI
    ·subst q;rw[if_pos (by simp)];exact VB (yes ⟨e,VX wU,b,bx,fY⟩)
    ·rw[if_neg (by simp[q])];have Ig:t.sameMemory t.moves t.mask=some true:=by unfold SetTable.sameMemory;simp
     rw[Ig];dsimp only;rw[if_pos rfl,cb];dsimp only;rw[iw];dsimp only;refine Vv (wpAny_isSame_ref_self ?_);rw[if_pos rfl];refine Vv (VB ?_);dsimp only;rw[if_neg (by simp[q])];refine E7 aN aB hd I X av tu bR h1 h2 yes no fuel (m+1) _ (by omega) (by omega) rfl fun ck hm bN he fw sl wJ=>?_;have key:∀e:Int×Vw,f6 t es (b8 t.mask (VU knd aI) ck).j e→e.2=.ref fw→e.1=VU knd aI:=fun e he bx=>by obtain⟨k2,dy,bE,c9,eY⟩:=X.at he;rw[bx]at bE;cases bE;rw[eY,c9.inj wJ]
     by_cases z:ck<n
     ·exact j_ ck z bN he fw sl wJ
     ·by_cases a7:ck<m
      ·exact g2 ck (by omega) a7 bN he (key bN he sl)
      ·have:ck=m:=by omega
       subst this;have:=f6.inj I.tab he A6;subst this;rw[bx]at sl;cases sl;exact q (fY.inj wJ)
end
section
variable{prog:VR}{w:V9}{A:V0}{E:Vw→Vx→Prop}{s:Vx}{K:Type}[DecidableEq K]{knd:KeyKind prog w K}
def rW(mask n:Nat):Prop:=(mask=7∧n<5)∨(mask=31∧n<19)∨(mask=127∧n<77)
theorem HG{mask n:Nat}(h:rW mask n):fS mask∧mask%2=1:=by
 rcases h with⟨rfl,_⟩|⟨rfl,_⟩|⟨rfl,_⟩
 ·exact⟨AX,rfl⟩
 ·exact⟨AW,rfl⟩
 ·exact⟨AV,rfl⟩
structure hi(knd:KeyKind prog w K)(ok:VD→Prop)(h:Wv)(a:VD)(S:List (List K)):Prop where
 ex:∃o es b7 t,h.get? a=some o∧o.ExactSet∧o.data=.set es b7 t∧ff t es∧pk knd h es.toList∧(∀aI,rN knd h es.toList aI↔aI∈S)∧es.size=S.length∧rW t.mask es.size∧∀e∈es.toList,∀b,e.2=.ref b→ok b
theorem sX{h h':Wv}{a b:VD}{o:Obj}{aI:List K}{es:Array (Int×Vw)}{b7:Nat}{t:Wt}(aB:h.get? a=some o)(hd:o.data=.set es b7 t)(fb:Wm a h h')(x:Wo knd h aI b):Wo knd h' aI b:=by
 obtain⟨bk,items,n,e_,aq,jx,af⟩:=x;have lJ:b≠a:=by rintro rfl;rw[aB]at e_;cases e_;rw[hd]at jx;cases jx
 exact⟨bk,items,n,(fb.2 b lJ).trans e_,aq,jx,af⟩
theorem Lg{h h':Wv}{a b:VD}{o:Obj}{aI:List K}{es:Array (Int×Vw)}{b7:Nat}{t:Wt}(aB:h'.get? a=some o)(hd:o.data=.set es b7 t)(fb:Wm a h h')(x:Wo knd h' aI b):Wo knd h aI b:=by
 obtain⟨bk,items,n,e_,aq,jx,af⟩:=x;have lJ:b≠a:=by rintro rfl;rw[aB]at e_;cases e_;rw[hd]at jx;cases jx
 exact⟨bk,items,n,(fb.2 b lJ).symm.trans e_,aq,jx,af⟩
theorem B_{h:Wv}{a:VD}{o:Obj}{es es':Array (Int×Vw)}{b7:Nat}{t t':Wt}(aB:h.get? a=some o)(av:o.ExactSet)(hd:o.data=.set es b7 t):∃bk,(h.update a (Obj.putSet es' t')).get? a=some bk∧bk.ExactSet∧bk.data=.set es' (b7+1) t':=by
 refine⟨_,X6 _ aB (by rw[putSet_of es' t' hd];rfl),?_,?_⟩
 ·rw[putSet_of es' t' hd];exact av
 ·rw[putSet_of es' t' hd]
theorem DS{α:Type}{es:Array α}{p:Nat}{x e:α}:e∈(insertAt es p x).toList↔e=x∨e∈es.toList:=by
 rw[sU];constructor
 ·intro h;rcases List.mem_append.mp h with h|h
  ·exact .inr (ZM h)
  ·rcases List.mem_cons.mp h with h|h
   ·exact .inl h
   ·exact .inr (Ye h)
 ·rintro(rfl|h)
  ·simp
  ·rw[←W9 p es.toList]at h;rcases List.mem_append.mp h with h|h
   ·exact Ww _ h
   ·exact VQ _ (VC _ h)
theorem OY{a:VD}{o:Obj}{b7:Nat}{t:Wt}{es:Array (Int×Vw)}{M wanted:Nat}{Q:Unit→Vx→Prop}(aB:s.heap.get? a=some o)(av:o.ExactSet)(hd:o.data=.set es b7 t)(I:ff t es)(C:fS M)(ak:es.size≤M)(sC:aac wanted=M+1)(hm:M≤127)(h:∀es' t' bk h',Wm a s.heap h'→h'.get? a=some bk→bk.ExactSet→bk.data=.set es' (b7+1) t'→t'.mask=M→ff t' es'→es'.size=es.size→(∀e,e∈es'.toList↔e∈es.toList)→Q () { s with heap:=h' }) :
  VL (VT prog w) A (setRelay a wanted) Q E s:=by
 unfold setRelay;refine Vv (Xv aB hd I.fits ?_);dsimp only;rw[if_neg (by rw[sC];show¬(M+1>VP);rw[Xr];omega)];obtain⟨t',order,au,bl,dp,l2,kj,xC,fM,hy,OM⟩:=LQ C ak t.finger (t.movedTo M) t.led t.plain;have e:t.relaid (es.map (·.1)) wanted=some (t',order):=by unfold SetTable.relaid;rw[sC];exact au
 rw[e];have step:VL (VT prog w) A (if((order.filterMap (es[·]?)).size !=es.size)=true then(do unsupported "internal:set-table-lost-an-element";pure (order.filterMap (es[·]?),t'))else pure (order.filterMap (es[·]?),t')) (fun r s'=>VL (VT prog w) A (storeSet a r.1 r.2) Q E s') E s:=by rw[if_neg (by rw[fM];simp)];refine VB ?_;obtain⟨bk,g1,g2,g3⟩:=B_ (es':=order.filterMap (es[·]?)) (t':=t') aB av hd;exact wpAny_storeSet_of aB hd (h _ t' bk _ (XG _ _ _) g1 g2 g3 bl hy fM OM) (by rw[fM,Xr];omega)
 exact Vv step
theorem G1{ok:VD→Prop}{a x:VD}{S:List (List K)}{aI:List K}{Q:Bool→Vx→Prop}(aN:A.units<XE)(T:hi knd ok s.heap a S)(av:Wo knd s.heap aI x)(bw:ok x)(hr:S.length<76)(h:∀b h',Wm a s.heap h'→hi knd ok h' a (if aI∈S then S else S++[aI])→Q b { s with heap:=h' }) :
  VL (VT prog w) A (setAddHashed a (.ref x) (VU knd aI)) Q E s:=by
 obtain⟨o,es,b7,t,aB,hex,hd,I,X,hm,aK,aw,aH⟩:=T.ex;obtain⟨C,tu⟩:=HG aw;obtain⟨N,GL,rT,pE⟩:=I.first (VU knd aI);unfold setAddHashed setAddHashedIn;refine WU (Vv (Xv aB hd I.fits ?_));dsimp only;rw[if_neg (by simp[byScan,Value.scannable])];unfold setSearch;refine Vv (E7 aN aB hd I X av tu GL rT pE (fun yes=>?_) (fun no=>?_) 100000 0 none (WK _) ?_ rfl fun m hm=>absurd hm (Nat.not_lt_zero _))
 ·dsimp only;refine VB ?_;have:=h false s.heap (YK _ _) (by rw[if_pos ((hm aI).mp yes)];exact T);exact this
 ·dsimp only;refine Vv (Xv aB hd I.fits ?_);dsimp only;have bG:es.size+1≤t.mask:=by
   rcases aw with⟨e,_⟩|⟨e,_⟩|⟨e,_⟩<;>omega
  obtain⟨iT,eQ,bZ⟩:=I.put (x:=V2 x) rT pE bG;have D4:aI∉S:=fun z=>no ((hm aI).mpr z)
  have fin:∀(t1:Wt),t1.mask=t.mask→t1.place=(t.put (b8 t.mask (VU knd aI) N).j).1.place→t1.dummies= #[]→
    VL (VT prog w) A (do
     storeSet a (X1 es (t.put (b8 t.mask (VU knd aI) N).j).2 (VU knd aI,V2 x)) t1
     if(!false&&t1.tooFull)=true then do
        setRelay a (SetTable.grown (es.size+1))
        pure true
      else pure true) Q E s:=by
   intro t1 ao aA b9;have aW:ff t1 (X1 es (t.put (b8 t.mask (VU knd aI) N).j).2 (VU knd aI,V2 x)):=by obtain⟨⟨a1,a2,eX,gV⟩,b,c,d⟩:=iT;have em:(t.put (b8 t.mask (VU knd aI) N).j).1.mask=t.mask:=rfl;rw[em]at gV b c d;refine⟨⟨b9,by rw[aA];exact a2,by rw[aA];exact eX,by rw[aA,ao];exact gV⟩,by rw[ao];exact b,by rw[ao];exact c,fun j e he=>?_⟩;rw[ao,aA];exact d j e (by obtain⟨i,bY,bM⟩:=he;exact⟨i,by rw[←aA];exact bY,bM⟩)
   obtain⟨cG,g1,g2,g3⟩:=B_ (es':=X1 es (t.put (b8 t.mask (VU knd aI) N).j).2 (VU knd aI,V2 x)) (t':=t1) aB hex hd;have EV:=XG s.heap a (Obj.putSet (X1 es (t.put (b8 t.mask (VU knd aI) N).j).2 (VU knd aI,V2 x)) t1);have done:∀(h':Wv)(es':Array (Int×Vw))(t':Wt)(bk:Obj)(mO:Nat),Wm a s.heap h'→h'.get? a=some bk→bk.ExactSet→bk.data=.set es' mO t'→ff t' es'→es'.size=es.size+1→(∀e,e∈es'.toList↔e=(VU knd aI,V2 x)∨e∈es.toList)→rW t'.mask es'.size→Q true { s with heap:=h' }:=by
    intro h' es' t' bk mO fb aQ a9 c5 gj iG jf hT;refine h true h' fb ⟨bk,es',mO,t',aQ,a9,c5,gj,⟨fun e he=>?_⟩,fun k2=>?_,?_,hT,fun e he b bx=>?_⟩
    ·rcases(jf e).mp he with rfl|he
     ·exact⟨aI,x,rfl,sX aB hd fb av,rfl⟩
     ·obtain⟨k3,u_,bE,c9,eY⟩:=X.el e he;exact⟨k3,u_,bE,sX aB hd fb c9,eY⟩
    ·rw[if_neg D4,List.mem_append,←hm k2];constructor
     ·rintro⟨e,he,b,bx,fY⟩;have fY:=Lg aQ c5 fb fY;rcases(jf e).mp he with rfl|he
      ·cases bx;exact .inr (by rw[fY.inj av];simp)
      ·exact .inl ⟨e,he,b,bx,fY⟩
     ·rintro(⟨e,he,b,bx,fY⟩|z)
      ·exact⟨e,(jf e).mpr (.inr he),b,bx,sX aB hd fb fY⟩
      ·simp at z;subst z;exact⟨_,(jf _).mpr (.inl rfl),x,rfl,sX aB hd fb av⟩
    ·rw[if_neg D4,iG,aK];simp
    ·rcases(jf e).mp he with rfl|he
     ·cases bx;exact bw
     ·exact aH e he b bx
   refine Vv (wpAny_storeSet_of aB hd ?_ (by rw[bZ,Xr];omega));have FR:t1.tooFull=decide ((es.size+1)*5≥t.mask*3):=by
    unfold SetTable.tooFull SetTable.fill;have:t1.place.size=es.size+1:=by have:=aW.tab.kl;rw[bZ]at this;exact this
    rw[this,ao,b9];simp
   by_cases full:(es.size+1)*5≥t.mask*3
   ·rw[if_pos (by rw[FR];simpa using full)];have big:∃M,fS M∧aac (SetTable.grown (es.size+1))=M+1∧M≤127∧es.size+1≤M∧rW M (es.size+1):=by
     rcases aw with⟨e,l⟩|⟨e,l⟩|⟨e,l⟩
     ·have:es.size=4:=by omega
      rw[this];exact⟨31,AW,by decide+kernel,by omega,by omega,.inr (.inl ⟨rfl,by omega⟩)⟩
     ·have:es.size=18:=by omega
      rw[this];exact⟨127,AV,by decide+kernel,by omega,by omega,.inr (.inr ⟨rfl,by omega⟩)⟩
     ·omega
    obtain⟨M,bE,c9,eY,ip,pT⟩:=big;refine Vv (OY g1 g2 g3 aW bE (by rw[bZ];exact ip) c9 eY fun es' t' bk h' fb aQ a9 c5 gj iG jf hT=>VB ?_);exact done h' es' t' bk _ (EV.trans fb) aQ a9 c5 iG (by rw[jf,bZ]) (fun e=>by rw[hT e,DS]) (by rw[gj,jf,bZ];exact pT)
   ·rw[if_neg (by rw[FR];simpa using full)];refine VB (done _ _ t1 cG _ EV g1 g2 g3 aW bZ (fun e=>DS) ?_);rw[ao,bZ];rcases aw with⟨e,l⟩|⟨e,l⟩|⟨e,l⟩
    ·exact .inl ⟨e,by omega⟩
    ·exact .inr (.inl ⟨e,by omega⟩)
    ·exact .inr (.inr ⟨e,by omega⟩)
  have d5:(t.put (b8 t.mask (VU knd aI) N).j).1.dummies= #[]:=iT.tab.p6
  split
  ·refine Vv (Hl av fun b=>?_);cases b
   ·exact fin _ rfl rfl d5
   ·exact fin _ rfl rfl d5
  ·refine Vv (VB ?_);exact fin _ rfl rfl d5
 ·have:10*turns t.mask≤1420:=by
    rcases aw with⟨e,_⟩|⟨e,_⟩|⟨e,_⟩<;>rw[e]<;>decide
  omega
end
end fE
namespace fE
open PySem PySem.Spec PyProof.Rows
section
variable{prog:VR}{w:V9}{K:Type}[DecidableEq K]{knd:PySem.KeyKind prog w K}
def n3(S:List (List K))(aI:List K):List (List K):=if aI∈S then S else S++[aI]
def iq(keys:List (List K)):List (List K):=keys.foldl n3 []
theorem AZ(keys:List (List K)):(iq keys).length≤keys.length:=by
 have:∀(l S:List (List K)),(l.foldl n3 S).length≤S.length+l.length:=by
  intro l;induction l with
  |nil=>intro S;simp
  |cons k l cW=>
   intro S;have:=cW (n3 S k);have h2:(n3 S k).length≤S.length+1:=by unfold n3;split<;>simp
   simp only[Y9,Wf];omega
 have:=this keys [];simpa[iq]using this
theorem HV{keys:List (List K)}{i:Nat}{aI:List K}(h:keys[i]?=some aI):iq (keys.take (i+1))=n3 (iq (keys.take i)) aI:=by unfold iq;rw[List.take_add_one,h];simp[List.foldl_append]
section
variable{A:V0}{R:Result→Vx→Prop}{I:VD}{aC wr:List VD}{G:Array GenState→Array GenState→Prop}{n:Nat}{P:Nat→Vw→Prop}{St:Nat→Vx→Prop}
noncomputable def pA(knd:PySem.KeyKind prog w K)(keys:List (List K))(P:Nat→Vw→Prop)(no:List VD)(h:Wv):Prop:=∀i v,P i v→∃b aI,v=.ref b∧b∉no∧keys[i]?=some aI∧Wo knd h aI b
theorem pA.but{keys:List (List K)}{no:List VD}{h h':Wv}(k:pA knd keys P no h)(m:∀b o,b∉no→h.get? b=some o→h'.get? b=some o):pA knd keys P no h':=fun i v p=>by obtain⟨b,aI,e,nb,q,o,it,c,aB,r⟩:=k i v p;exact⟨b,aI,e,nb,q,o,it,c,m b o nb aB,r⟩
theorem hi.moved{ok:VD→Prop}{h h':Wv}{S:VD}{L:List (List K)}(T:hi knd ok h S L)(Mi:∀o,h.get? S=some o→h'.get? S=some o)(m:∀b o,ok b→h.get? b=some o→h'.get? b=some o):hi knd ok h' S L:=by
 obtain⟨o,es,b7,t,aB,hex,hd,GO,X,hm,aK,aw,J⟩:=T.ex;have aG:∀e∈es.toList,∀b aI,e.2=.ref b→(Wo knd h aI b↔Wo knd h' aI b):=fun e he b aI bx=>by
  have nb:=J e he b bx;obtain⟨k2,dy,bE,⟨b2,it,c,g1,g2⟩,eY⟩:=X.el e he;rw[bx]at bE;cases bE;have B6:=m b b2 nb g1;constructor
  ·rintro⟨bk,qJ,d3,aQ,a9⟩;rw[g1]at aQ;cases aQ;exact⟨b2,qJ,d3,B6,a9⟩
  ·rintro⟨bk,qJ,d3,aQ,a9⟩;rw[B6]at aQ;cases aQ;exact⟨b2,qJ,d3,g1,a9⟩
 refine⟨o,es,b7,t,Mi o aB,hex,hd,GO,⟨fun e he=>?_⟩,fun aI=>?_,aK,aw,J⟩
 ·obtain⟨k2,dy,bE,c9,eY⟩:=X.el e he;exact⟨k2,dy,bE,(aG e he dy k2 bE).mp c9,eY⟩
 ·rw[←hm aI];constructor
  ·rintro⟨e,he,b,bx,fY⟩;exact⟨e,he,b,bx,(aG e he b aI bx).mpr fY⟩
  ·rintro⟨e,he,b,bx,fY⟩;exact⟨e,he,b,bx,(aG e he b aI bx).mp fY⟩
theorem L5(W:WalksS prog w A.in1 I aC wr G n P St)(S:VD)(sE:S∉aC)(keys:List (List K))(aK:keys.length=n)(J:n<77)(aN:A.in1.units<XE) :
  ∀(k i:Nat)(s:Vx),n-i=k→i≤n→St i s→pA knd keys P (S::wr) s.heap→hi knd (fun b=>b∉S::wr) s.heap S (iq (keys.take i))→
   (∀s',Moved (S::wr) G s s'→hi knd (fun b=>b∉S::wr) s'.heap S (iq keys)→R (.ok (.ret .none)) s')→
   X8 (VT prog w) A (.builtin "set.update.loop" ⟨[.ref S,.ref I],[]⟩) R s:=by
 have IV:S∉wr:=fun h=>sE (W.sub _ h);have kL:∀b∈wr,b∈S::wr:=fun b J=>VC _ J;have keep:∀{s s':Vx}{L:List (List K)},Moved wr G s s'→hi knd (fun b=>b∉S::wr) s.heap S L→hi knd (fun b=>b∉S::wr) s'.heap S L:=fun m T=>
  T.moved (fun o e=>m.heap S o IV e) fun b o nb e=>m.heap b o (fun z=>nb (kL b z)) e
 intro k;induction k with
 |zero=>
  intro i s aH af dF Df T hR;have e:i=n:=by omega
  subst e;refine Yp YU ?_;rw[ZN XP _];show VL _ A.in1 (aam (.ref I)>>=_) _ _ s;refine Vv (W.done s _ _ dF fun s' hm=>?_);show VL _ A.in1 (ret Wr) _ _ s';rw[←aK,List.take_length]at T;exact VB (hR s' (hm.mono kL) (keep hm T))
 |succ k cW=>
  intro i s aH af dF Df T hR;have e9:i<n:=by omega
  refine Yp YU ?_;rw[ZN XP _];show VL _ A.in1 (aam (.ref I)>>=_) _ _ s;refine Vv (W.item i s _ _ e9 dF fun v s' dW JK hm=>?_);have Dg:pA knd keys P (S::wr) s'.heap:=Df.but fun b o nb e=>hm.heap b o (fun z=>nb (kL b z)) e;have pJ:=keep hm T;obtain⟨b,aI,rfl,nb,gX,fY⟩:=Dg i v dW;show VL _ A.in1 (aag [V2 b] (setAdd S (.ref b))>>=_) _ _ s';refine Vv (WU ?_);unfold setAdd;refine WU (Vv (wpAny_pyHash_tuple aN fY ?_));have room:(iq (keys.take i)).length<76:=by have:=AZ (keys.take i);rw[WR]at this;omega
  refine G1 (s:={ s' with toks:=s'.toks+(aI.length+1) }) aN pJ fY nb room fun c h' fb GP=>?_;have GQ:hi knd (fun b=>b∉S::wr) h' S (iq (keys.take (i+1))):=by rw[HV gX];exact GP
  have sm:∀fw o,fw∉S::wr→s'.heap.get? fw=some o→h'.get? fw=some o:=fun fw o MN e=>by rw[fb.2 fw (fun z=>MN (by rw[z];exact V5))];exact e
  refine VB ⟨plainId_quiet XP _,cW (i+1) _ (by omega) e9 (W.frame _ s' _ _ JK (W4 _ _) fun fw kE o e=>?_) (Dg.but sm) GQ fun eo Jo IU=>?_⟩
  ·rw[fb.2 fw (fun h:fw=S=>sE (by rw[←h];exact kE))];exact e
  ·refine hR eo (Moved.trans W.gtrans ((hm.mono kL).then_heap (W4 _ _) fun fw o kE e=>?_) Jo) IU;rw[fb.2 fw (fun h:fw=S=>kE (by rw[h];exact V5))];exact e
end
end
section
variable{prog:VR}{w:V9}{A:V0}{E:Vw→Vx→Prop}{s:Vx}{K:Type}[DecidableEq K]{knd:PySem.KeyKind prog w K}
def jg(led:Bool):Obj:={ cls:=.type "set",dict:=none,data:=.set #[] 0 (.fresh 0 0 led) }
theorem hi.new{ok:VD→Prop}{h:Wv}{S:VD}{led:Bool}(e:h.get? S=some (jg led)):hi knd ok h S []:=
 ⟨_,#[],0,_,e,⟨rfl,rfl,rfl⟩,rfl,⟨⟨rfl,rfl,by simp[SetTable.fresh],by simp[SetTable.fresh]⟩,AX,WK _,fun j e he=>by obtain⟨i,_,q⟩:=he;simp at q⟩,⟨fun e he=>by simp at he⟩,fun aI=>⟨fun⟨e,he,_⟩=>by simp at he,fun z=>by simp at z⟩,rfl,.inl ⟨rfl,by show 0<5;omega⟩,fun e he=>by simp at he⟩
set_option maxHeartbeats 3200000 in
theorem Ht{l:VD}{items:Array Vw}{keys:List (List K)}{Q:Vw→Vx→Prop}(bF:A.handled=none)(aN:A.units+64<XE)(ak:s.heap.IsList l items)(aH:keys.length=items.size)(J:items.size<77)(af:∀(i:Nat) v,items[i]?=some v→∃b aI,v=.ref b∧keys[i]?=some aI∧Wo knd s.heap aI b)(h:∀(h':Wv)(cK:Nat),hi knd (fun _=>True) h' s.heap.objs.size (iq keys)→(∀b o,s.heap.get? b=some o→h'.get? b=some o)→Q (.ref s.heap.objs.size) { s with heap:=h',toks:=cK }) :
  VL (VT prog w) A (call (.type "set") [.ref l]) Q E s:=by
 obtain⟨c,fO,S0⟩:=F.called_set.mro;have SY:=F.called_set.made;have kL:=F.called_set.sub;refine YE (codeAny_of_tree ?_);show VL _ _ (callAny (.type "set") _) _ _ _;refine VB ⟨Code.quiet_builtin _ (by decide+kernel),Yp F.entry_type_call ?_⟩;rw[Around.under_plain (weight_type_call_type "set" [.ref l] []) rfl];have h1:=F.called_set.notType;have h2:=F.called_set.canCreate;have SP:=F.typeCall_set_1 (.ref l)
 repeat (any_goals (first|assumption|wp_step))
 refine XH (code_set_new_1 (.ref l) (E:=E) (Q₁:=fun obj cH=>∃led:Bool,obj=.ref s.heap.objs.size∧cH={ s with heap:=s.heap.push (jg led) }) fun led=>⟨led,rfl,rfl⟩) fun r cH aw=>?_;rcases r with e|fl
 ·exact aw
 ·cases fl with
  |ret obj=>
   obtain⟨led,rfl,rfl⟩:=aw;have hr:(s.heap.push (jg led)).get? s.heap.objs.size=some (jg led):=VN _ rfl;have gf:Shared.TypeIs { s with heap:=s.heap.push (jg led) } (.ref s.heap.objs.size) "set":=⟨_,hr,rfl⟩;have SW:=F.called_set.init.lookup;have SO:=F.called_set.init.bind (.ref s.heap.objs.size)
   repeat (any_goals (first|assumption|wp_step))
   refine XH (Yd (R:=wants (fun r gC=>r=.none∧∃h' cK,gC={ s with heap:=h',toks:=cK }∧hi knd (fun _=>True) h' s.heap.objs.size (iq keys)∧(∀b o,s.heap.get? b=some o→h'.get? b=some o)) E) F.called_set.init.plain F.entry_set_init (check_set_init_1 gf ?_)) fun O5 gC wo=>?_
   ·obtain⟨ol,oe,ht,nl,oa⟩:=ak;obtain⟨Tw,M_,Tx,NH⟩:=ol;simp only at ht oa;subst ht;subst oa;have Jz:(s.heap.push (jg led)).get? l=some { cls:=.type "list",dict:=M_,data:=.seq items nl,slots:=NH }:=Vy _ oe;have S5:=F.sub_list_set;have S4:=F.sub_list_frozenset;have lJ:(Zr "list"==Zr "dict")=false:=by decide
    have Co:(s.heap.push (jg led)).IsList l items:=⟨_,Jz,rfl,nl,rfl⟩;unfold aal.«set.__init__» noKeywords Builtin.Frozenset.updateFrom;generalize IT:pyIter=fG
    wp_walk
    subst IT;refine XU Co ?_;refine Vv (wpAny_runValue ?_);have Cp:l<s.heap.objs.size:=VH oe;have vE:(s.heap.push (jg led)).objs.size=s.heap.objs.size+1:=V_ _ _;have Jr:l≠(s.heap.push (jg led)).objs.size:=by rw[vE];exact VV (XZ Cp)
    have sE:s.heap.objs.size∉[(s.heap.push (jg led)).objs.size,l]:=by rw[vE];simp only[aad,List.mem_singleton,Yb,or_false,not_or];exact⟨VV (X9 _),WV Cp⟩
    have B9:∀b o,s.heap.get? b=some o→((s.heap.push (jg led)).push { cls:=.type "list_iterator",data:=.fields #[.ref l,.int 0 0] }).get? b=some o:=fun b o e=>Vy _ (Vy _ e);have sm:∀b o,s.heap.get? b=some o→b∉s.heap.objs.size::[(s.heap.push (jg led)).objs.size]:=fun b o e=>by have:=VH e;rw[vE];simp only[aad,List.mem_singleton,Yb,or_false,not_or];exact⟨VV this,VV (XZ this)⟩
    refine L5 (knd:=knd) ((Walks.list (by simp[bF]) _ l Jr items).toS) s.heap.objs.size sE keys aH J (by simp only[Around.in1_units];omega) (items.size-0) 0 _ (by omega) (WK _)
     ⟨⟨_,VN _ rfl,rfl,rfl⟩,(Co.push _)⟩ (fun i v p=>?_) (hi.new (led:=led) (Vy _ hr)) ?hR
    ·obtain⟨b,aI,rfl,q,o,it,c,aB,r⟩:=af i v p;exact⟨b,aI,rfl,sm b o aB,q,o,it,c,B9 b o aB,r⟩
    case hR=>intro s' hm vZ;obtain⟨h',g',d',QN,xl⟩:=s';have eg:g'=s.gens:=hm.gens;have d5:d'=s.drawn:=hm.drawn;have Ic:xl=s.os:=hm.os;subst eg;subst d5;subst Ic;show VL _ _ _ _ _ _;refine VB ?_;show VL _ _ (ret Wr) _ _ _;obtain⟨o,es,b7,t,aQ,a9,c5,gj,iG,jf,hT,ki,oS⟩:=vZ.ex;exact VB ⟨rfl,h',QN,rfl,⟨o,es,b7,t,aQ,a9,c5,gj,iG,jf,hT,ki,fun _ _ _ _=>trivial⟩,fun b o e=>hm.heap b o (sm b o e) (B9 b o e)⟩
   ·rcases O5 with e|Iz
    ·exact wo
    ·cases Iz with
     |ret r=>
      obtain⟨rfl,h',cK,rfl,vZ,kI⟩:=wo
      repeat (any_goals (first|assumption|wp_step))
      exact h _ _ vZ kI
     |_=>exact wo.elim
  |_=>exact aw.elim
end
end fE
namespace LT
open PySem PyProof.Rows
section
variable{prog:VR}{w:V9}{A:V0}{E:Vw→Vx→Prop}{s:Vx}{Sl:Array Keyed}{cU:KeyKind}{S9:SortKind}
end
noncomputable def ltI:List Int→List Int→Bool
 |[],[]=>false
 |[],_::_=>true
 |_::_,[]=>false
 |a::x,b::y=>if a=b then ltI x y else decide (a<b)
section
variable{prog:VR}{w:V9}{A:V0}{E:Vw→Vx→Prop}{s:Vx}
def BY(k:Int×Int×Int):List Int:=[k.1,k.2.1,k.2.2]
end
section
variable{prog:VR}{w:V9}{A:V0}{E:Vw→Vx→Prop}{s:Vx}
end
def LY(a b:Int×Int×Int):Bool:=!ltI (BY b) (BY a)
def P5(aI:List (Int×Int×Int)):List (Int×Int×Int):=aI.mergeSort LY
section
variable{prog:VR}{w:V9}{A:V0}{E:Vw→Vx→Prop}{s:Vx}
end
end LT
namespace aY
open PySem PySem.Spec PyProof.Rows
section
variable{X:aD}
noncomputable def zI(a:VD)(n:Nat)(h:Wv):Prop:=∃o es b7 t,h.get? a=some o∧o.ExactSet∧o.data=.set es b7 t∧t.fits es.size=true∧es.size=n
def tZ(a:VD)(n:Nat):dj:=.ext (zI a n)
theorem Qe{P:VR}{w:V9}{H:ae}{h:Wv}{a:VD}{n:Nat}(x:zI a n h):eF P w H h a (tZ a n):=
 ⟨x,by obtain⟨o,_,_,_,e,_⟩:=x;exact⟨o,e⟩,fun h1 h2 y k=>by obtain⟨o,es,b7,t,e,r⟩:=y;exact⟨o,es,b7,t,k o e,r⟩⟩
noncomputable def zy(H:ae)(ys:List V)(keys:List (List Key)):Prop:=keys.length=ys.length∧∀(i:Nat) y k,ys[i]?=some y→keys[i]?=some k→∃b,y=.ref b∧H b=some (.tup (k.map cB))
noncomputable def OR(K:PySem.W.Frag):List V→ae→cD→Prop:=fun xs H Q=>∃p ys keys,xs=[.ref p]∧bQ K H p ys∧ys.length<77∧zy H ys keys∧∀l,H l=none→Q (.ref l) (upd H l (tZ l (fE.iq keys).length))
theorem Hs(bF:X.A.handled=none)(aN:X.A.units+64<XE):h_ X (.type "set") (OR X.K):=by
 intro pins s σ H xs us Q I r h;obtain⟨p,ys,keys,rfl,aS,aK,⟨ak,aH⟩,q⟩:=h;obtain⟨u,rfl,bu⟩:=vals1 r;cases bu;obtain⟨its,bq,pl,bG⟩:=I.list aS;have hlen:=bq.length;refine fE.Ht (knd:=hv X.prog X.w) (items:=its.toArray) (keys:=keys) bF aN pl.isList (by rw[VE];omega) (by rw[VE];omega) (fun i v bS=>?_) fun h' cK T aG=>?_
 ·have bS:its[i]?=some v:=by simpa using bS
  have af:=(List.getElem?_eq_some_iff.mp bS).1;have fU:ys[i]?=some ys[i]:=Vz (by omega);have gX:keys[i]?=some keys[i]:=Vz (by omega);obtain⟨b,ao,aA⟩:=aH i _ _ fU gX;obtain⟨iJ,oi,b_⟩:=bq.get fU;rw[bS]at oi;cases oi;rw[ao]at b_;cases b_;exact⟨b,_,rfl,gX,qK I.bw aA⟩
 ·obtain⟨o,es,b7,t,g1,g2,g3,gY,n8,qj,IF,n9⟩:=T.ex;exact⟨.ref s.heap.objs.size,_,I.laid (t':=cK) aG (VG _) (Qe ⟨o,es,b7,t,g1,g2,g3,gY.fits,IF⟩),rfl,q _ (I.bw.fresh (VG _))⟩
def OQ:List V→ae→cD→Prop:=fun xs H Q=>∃a n,xs=[.ref a]∧H a=some (tZ a n)∧n<1000∧Q (.int n) H
theorem Hq:h_ X (.builtin "len") OQ:=by intro pins s σ H xs us Q I r h;obtain⟨a,n,rfl,ah,aK,q⟩:=h;obtain⟨u,rfl,bu⟩:=vals1 r;cases bu;obtain⟨⟨o,es,b7,t,g1,g2,g3,gY,n8⟩,_⟩:=(show eF X.prog X.w H s.heap a (tZ a n)from I.bw a _ ah);subst n8;exact call_len_set g1 g2 g3 gY (by omega) ⟨.int es.size,H,I.tok _,⟨_,rfl⟩,q⟩
end
end aY
namespace bo
open PySem PySem.Spec aY PyProof.Rows
section
variable{X:aD}{F:bj}{e a b c:V3}{es:List V3}{pos p:Pos}{m n:aJ}{ma:aZ}
def CW:D→Option Key
 |.int i=>some (.inl i)
 |.str x=>some (.inr x)
 |_=>none
noncomputable def keysOf:List D→Option (List Key)
 |[]=>some []
 |d::ds=>match CW d,keysOf ds with
  |some k,some aI=>some (k::aI)
  |_,_=>none
def FU:D→Option (List Key)
 |.tup ds=>keysOf ds
 |_=>none
noncomputable def ru:List D→Option (List (List Key))
 |[]=>some []
 |d::ds=>match FU d,ru ds with
  |some k,some aI=>some (k::aI)
  |_,_=>none
noncomputable def wN:List D→R D
 |[.lst ds]=>if ds.length<77 then match ru ds with
  |some aI=>.ok (.int (fE.iq aI).length)
  |none=>.bad
  else .bad
 |_=>.bad
theorem C1{K:PySem.W.Frag}{G:ae}:∀{ds:List D}{aI:List Key}{xs:List V},keysOf ds=some aI→aO K G ds xs→xs=aI.map cB
 |[],aI,xs,e,h=>by simp only[keysOf]at e;cases e;simp only[aO]at h;subst h;rfl
 |d::ds,aI,xs,e,h=>by
  simp only[keysOf]at e
  split at e
  ·rename_i k jC ao aA;cases e;simp only[aO]at h;obtain⟨v,r,rfl,a1,a2⟩:=h;rw[C1 aA a2,Ws];cases d<;>simp only[CW]at ao<;>first|(cases ao;done)|(cases ao;simp only[At]at a1;subst a1;rfl)
  ·cases e
theorem FV{K:PySem.W.Frag}{G:ae}:∀{ds:List D}{aI:List (List Key)}{xs:List V},ru ds=some aI→aO K G ds xs→zy G xs aI
 |[],aI,xs,e,h=>by simp only[ru]at e;cases e;simp only[aO]at h;subst h;exact⟨rfl,fun i y k ao=>by simp at ao⟩
 |d::ds,aI,xs,e,h=>by
  simp only[ru]at e
  split at e
  ·rename_i k jC ao aA;cases e;simp only[aO]at h;obtain⟨v,r,rfl,a1,a2⟩:=h;obtain⟨eI,bD⟩:=FV aA a2;refine⟨by simp[eI],fun i y k' aQ a9=>?_⟩;cases i with
   |succ i=>exact bD i y k' (by simpa using aQ) (by simpa using a9)
   |zero=>
    simp at aQ a9;subst aQ a9;cases d<;>simp only[FU]at ao<;>first|(cases ao;done)|skip
    simp only[At]at a1;obtain⟨b,ys,rfl,g,q⟩:=a1;exact⟨b,rfl,by rw[g,C1 ao q]⟩
  ·cases e
theorem Rx{tC pos':Pos}(bF:X.A.handled=none)(aN:X.A.units+64<XE)(hm:X.mg "len"=none)(sL:X.mg "set"=none)(ah:eW X F [e] ma)(aX:F.K=X.K:=by rfl)(aF:da X "len":=by rfl)(I_:da X "set":=by rfl)(hs:VA [.Call (.Name "set" tC) [e] [] pos'] X.env=(false,WW (.Call (.Name "set" tC) [e] [] pos') X.env)::VA [] X.env:=by rfl)(he:VA [e] X.env=(false,WW e X.env)::VA [] X.env:=by rfl)(cI:(Wu pos (VA [] X.env)).any (·.1)=false:=by rfl)(JC:(Wu pos' (VA [] X.env)).any (·.1)=false:=by rfl) :
  a8 X F (.Call (.Name "len" p) [.Call (.Name "set" tC) [e] [] pos'] [] pos) (dB wN ma):=by
 refine⟨a3.imp (rd Hq aF hm PySem.boot_len (jG (xo (Hs bF aN) I_ sL (by kernel_rfl) ah.1 (by decide) (by decide) he JC) l0 hs) (by decide) (by decide) hs cI) ?_⟩;rintro σ H Q ⟨G,ρ,r,h⟩;unfold dB at h;refine⟨G,ρ,r,?_⟩;cases ax:ma ρ with
 |bad=>rw[ax]at h;exact h.elim
 |exc c=>rw[ax]at h;exact h
 |ok ds=>
  rw[ax,R.bI]at h;intro vs H1 aL au s1 a;unfold wN at h
  split at h
  ·split at h
   ·split at h
    ·rename_i aI gX;obtain⟨v,rfl,bc⟩:=a.one;simp only[At]at bc;obtain⟨q,xs,rfl,aS,fI⟩:=bc;have kt:=FV gX fI;have ak:=fI.length;refine⟨q,xs,aI,rfl,bQ.of (au.aG.sub _ _ aS),by omega,⟨kt.1,fun i y k ao aA=>?_⟩,fun l sJ=>?_⟩
     ·obtain⟨b,bx,IG⟩:=kt.2 i y k ao aA;exact⟨b,bx,au.aG.sub _ _ IG⟩
     ·have:=fE.AZ aI;have:=kt.1;refine⟨l,_,rfl,dI,by omega,?_⟩;exact h _ _ aL (au.lay0 sJ) (s1.trans (b3.lay0 sJ)) (by simp only[At])
    ·exact h.elim
   ·exact h.elim
  ·exact h.elim
noncomputable def s_(i:Nat)(m:aJ):hg:=fun ρ=>(ownAt i ρ).bind fun ds=>(m ρ).bind fun d=>match d with
 |.lst es=>if ds.length+es.length≤1000000 then .ok (.non,ρ.set i (.en (ds++es)))else .bad
 |_=>.bad
theorem Vt (i:Nat) {x:Str} {b1:Pos} {apos:Pos} {cpos:Pos} (he:a8 X F e m) (bR:X.N[i]?=some x:=by rfl) (bS:hJ X.env.scope x:=by first|exact XA rfl|exact W8 (XA rfl)|exact W8 (W8 rfl)) (hd:(x==("__debug__" :Str))=false:=by decide) (ei:(x==("__classdict__" :Str))=false:=by decide)(kF:Xj (.Name x b1) "extend" X.env (WW (.Name x b1) X.env)=WW (.Name x b1) X.env:=by rfl) (kJ:(apos.endLine==cpos.line)=true:=by rfl)(kG:((Wu cpos (VA [e] X.env)).all (fun x=>!x.1)&&(Yt cpos (Xs [] X.env)).all (fun x=>x.1.isSome)
    &&decide (([e]:List V3).length+([]:List Yy).length+(if([]:List Yy).isEmpty then 0 else 1)<30))=true:=by rfl)
  (hs:VA [e] X.env=(false,WW e X.env)::VA [] X.env:=by rfl) (kK:(Wu cpos (VA [] X.env)).any (·.1)=false:=by rfl) :
  GV X F (.Call (.Attribute (.Name x b1) "extend" apos) [e] [] cpos) (s_ i m):=by
 refine⟨a3.imp (tF PySem.F.plainAttrs_list PySem.F.slot_list_extend PySem.F.type_list_extend Mw (nf bR bS hd ei) (jG he.1 l0 hs) kF kG kJ hs kK) ?_⟩;rintro σ H Q ⟨G,ρ,r,h⟩;unfold s_ ownAt at h;cases dn:ρ[i]? with
 |none=>rw[dn]at h;exact h.elim
 |some s=>
  rw[dn]at h;cases s with
  |un=>exact h.elim
  |b4 _=>exact h.elim
  |ed _=>exact h.elim
  |bg bg=>
   cases bg with
   |cA _ _=>exact h.elim
   |ins _ _ _=>exact h.elim
   |lst ds=>
    obtain⟨q,xs,ao,h1,h2,h3,h4⟩:=r.own dn;rw[R.bI]at h;refine⟨.ref q,ao,.inl ⟨rfl,xs,bQ.of h1⟩,G,ρ,r,?_⟩;cases ax:m ρ with
    |bad=>rw[ax]at h;exact h.elim
    |exc c=>rw[ax]at h;exact h
    |ok d=>
     rw[ax,R.bI]at h;intro v H1 aL au s1 bc;obtain⟨cq,zl,lD,cM,cu,IM,qo⟩:=au.own dn;rw[ao]at lD;cases lD;cases d with
     |lst es=>
      simp only at h
      split at h
      ·rename_i ak;simp only[At]at bc;obtain⟨bZ,ys,rfl,g2,a9⟩:=bc;refine⟨q,bZ,zl,ys,rfl,rfl,cM,au.aG.sub _ _ g2,by rw[←qo.length,←a9.length,Xr];omega,?_⟩;exact h .non _ aL (au.mut dn ao (qo.append a9)) s1.g (by simp only[At])
      ·exact h.elim
     |_=>exact h.elim
noncomputable def Dw(i:Nat)(m n:aJ):hg:=fun ρ=>(ownAt i ρ).bind fun ds=>(m ρ).bind fun d=>(n ρ).bind fun y=>match d with
 |.int k=>if 0≤k∧k<2^63∧ds.length<1000000 then .ok (.non,ρ.set i (.en (ds.take (min k.toNat ds.length)++y::ds.drop (min k.toNat ds.length))))else .bad
 |_=>.bad
noncomputable def Du(ma:aZ)(m:aJ):aZ:=fun ρ=>(ma ρ).bind fun ds=>(m ρ).bind fun d=>match d with
 |.lst es=>if ds.length+es.length≤1000000 then .ok (ds++es)else .bad
 |_=>.bad
noncomputable def qS(m n:aJ):aZ:=fun ρ=>(m ρ).bind fun c=>(n ρ).bind fun d=>match c,d with
 |.lst ds,.lst es=>if ds.length+es.length≤1000000 then .ok (ds++es)else .bad
 |_,_=>.bad
theorem RK(ah:a8 X F a m)(J:a8 X F b n):j3 X F (.BinOp a .Add b pos) (qS m n):=by
 refine⟨a3.imp (En Ed ah.1 J.1) ?_⟩;rintro σ H Q ⟨G,ρ,r,h⟩;unfold qS at h;refine⟨G,ρ,r,?_⟩;cases ax:m ρ with
 |bad=>rw[ax]at h;exact h.elim
 |exc c=>rw[ax]at h;exact h
 |ok c=>
  rw[ax,R.bI]at h;intro u H1 aL au s1 zY;refine⟨aL,ρ,au,?_⟩;cases bx:n ρ with
  |bad=>rw[bx]at h;exact h.elim
  |exc c=>rw[bx]at h;exact h
  |ok d=>
   rw[bx,R.bI]at h;intro v aM cC bl s2 bc
   split at h
   ·split at h
    ·rename_i ak;simp only[At]at zY bc;obtain⟨eQ,xs,rfl,g1,aQ⟩:=zY;obtain⟨bZ,ys,rfl,g2,a9⟩:=bc;refine⟨eQ,bZ,xs,ys,rfl,rfl,s2.h _ _ (au.aG.sub _ _ g1),bl.aG.sub _ _ g2,by rw[←aQ.length,←a9.length,Xr];omega,fun LL aK=>?_⟩;exact h LL (xs++ys) _ cC (bl.lay0 aK) ((s1.trans s2).trans (b3.lay0 aK)) ((s1.trans s2).h.gone aK) dI (bl.aG.sub.gone aK) ((aQ.mono s2.g).append a9)
    ·exact h.elim
   ·exact h.elim
def HI(k:Int×Int×Int):D:=.tup [.int k.1,.tup [.int k.2.1,.int k.2.2]]
def K_:D→Option (Int×Int×Int)
 |.tup [.int n,.tup [.int h,.int d]]=>some (n,h,d)
 |_=>none
noncomputable def CU:List D→Option (List (Int×Int×Int))
 |[]=>some []
 |d::ds=>match K_ d,CU ds with
  |some k,some aI=>some (k::aI)
  |_,_=>none
noncomputable def Fg:List D→R (List D)
 |[.lst ds]=>if ds.length<64 then match CU ds with
  |some aI=>.ok ((LT.P5 aI).map HI)
  |none=>.bad
  else .bad
 |_=>.bad
def Ml(m:aZ):aZ:=fun ρ=>(m ρ).bind Fg
def Mb(k:Str)(i:Int):aJ:=fun _=>.ok (.dc [.inr k] [.int i])
end
section
variable{X:aD}{F:bj}{e a b c:V3}{es:List V3}{pos p:Pos}{m n:aJ}{ma:aZ}
noncomputable def putN(i:Nat)(ρ:ar)(ds:List D)(v:D):Option Nat→R fq
 |some j=>.ok (.bJ (ρ.set i (.en (ds.set j v))))
 |none=>.bad
def putK(i:Nat)(ρ:ar)(ds:List D)(v:D):D→R fq
 |.int j=>putN i ρ ds v (lP ds.length j)
 |_=>.bad
noncomputable def Mg(i:Nat)(mk kg:aJ):bp:=fun ρ=>(kg ρ).bind fun v=>(ownAt i ρ).bind fun ds=>(mk ρ).bind fun k=>putK i ρ ds v k
noncomputable def G6(i:Nat)(ρ:ar)(bB:List T)(m:aJ):Option Nat→R fq
 |some j=>match bB[j]? with
  |some (.lst us)=>(m ρ).bind fun d=>if us.length<1000000 then .ok (.bJ (ρ.set i (.ed (.lst (bB.set j (.lst (us++[.b4 d])))))))else .bad
  |_=>.bad
 |none=>.bad
def zV(i:Nat)(ρ:ar)(bB:List T)(m:aJ):D→R fq
 |.int j=>G6 i ρ bB m (lP bB.length j)
 |_=>.bad
def L7(i:Nat)(mk m:aJ):bp:=fun ρ=>(t_ i ρ).bind fun bB=>(mk ρ).bind fun k=>zV i ρ bB m k
end
noncomputable def CS(F:bj)(x C:VD)(Q:cD):R (List Str×List D)→Prop
 |.ok (ns,ds)=>∀a5 xs G' H',dV F G' H'→G' x=none→H' x=some (.ins C a5 xs)→xs.map (·.1)=ns→aO F.K G' ds (xs.map (·.2))→Q .non H'
 |.exc c=>i7 F c
 |.bad=>False
noncomputable def rm(K:PySem.W.Frag)(bt:Str)(n:Nat)(mf:List D→R (List Str×List D)):hj:=fun vs H Q E=>∃G x C a5 es ws,vs=.ref x::ws∧dE K bt C∧H x=some (.ins C a5 [])∧G x=none∧Sub G H∧aO K G es ws∧es.length=n∧CS (c8 K G (del H x) E) x C Q (mf es)
theorem Fi{K:PySem.W.Frag}{bt:Str}{n:Nat}{mf:List D→R (List Str×List D)}:∀vs H Q E,rm K bt n mf vs H Q E→vs.length=n+1:=fun vs H Q E h=>by obtain⟨G,x,C,a5,es,ws,rfl,_,_,_,_,q,l,_⟩:=h;rw[Wf,←q.length,l]
noncomputable def ra(bt:Str):R ar→R (List Str×List D)
 |.ok (.bg (.ins c ns ds)::_)=>if c=bt then .ok (ns,ds)else .bad
 |.exc c=>.exc c
 |_=>.bad
theorem KD{K:PySem.W.Frag}{bt:Str}{n:Nat}{m:ic}{vs:List V}{H:ae}{Q:cD}{E:cj}(h:rm K bt n (fun es=>ra bt (m (i6 bt es))) vs H Q E) :
  ∃G H0,nk (c8 K G H0 E) m { bJ:=fun _ H'=>Q .non H',eA:=Q } (vs.map some) H:=by
 obtain⟨G,x,C,a5,es,ws,rfl,eP,h1,h2,s,bc,l,k⟩:=h;refine⟨G,del H x,G,i6 bt es,OX eP h1 h2 s bc,?_⟩;replace k:CS (c8 K G (del H x) E) x C Q (ra bt (m (i6 bt es))):=k;cases em:m (i6 bt es)with
 |bad=>rw[em]at k;exact k.elim
 |exc c=>rw[em]at k;exact k
 |ok bC=>
  rw[em]at k;intro G' H' r;unfold ra at k
  split at k
  ·rename_i Sq ns ds fO heq;cases heq;obtain⟨a,aB,ao,g1,g2,g3,hY,p7,xs,bE,rfl,aA,al⟩:=r.obj (i:=0) rfl;have ao:some (some (V.ref x))=some (some (V.ref a)):=ao;cases ao
   split at k
   ·rename_i aq;subst aq;have:=bE.inj eP;subst this;exact k p7 xs G' H' r.aG g2 g1 aA al
   ·exact k.elim
  ·rename_i heq;cases heq
  ·exact k.elim
structure rQ(P:VR)(w:V9)(K:PySem.W.Frag)(mg:Str→Option Vw)(base:Wv)(bt:Str)(n k:Nat)(mf:List D→R (List Str×List D)):Prop where
 ex:∃(C f:VD)(fd:WM)(aP:List Str),dE K bt C∧rS K C f∧gs P w K mg base (dQ P w) k f fd aP (rm K bt n mf)∧mg bt=some (.ref C)∧Binds K fd aP []
theorem RH{P:VR}{w:V9}{K:PySem.W.Frag}{mg:Str→Option Vw}{base:Wv}{qual bt je:Str}{st:WO}{aP:List Str}{k:Nat}{m:ic}(d:InK K mg bt qual st (je::aP))(S:c1 (je::aP) (je::aP) (bW st))(h:∀(f:VD)(b6:Vw)(A:V0)(outer:List Env)(s:Vx)(H:ae)(E:cj),dg k (A.deeper (WC qual (bW st) s.heap.objs.size f b6))→∀G0 H0,r1 (d4 (dQ P w) P w K mg base (je::aP) qual (bW st) f b6 A outer s H E) (c8 K G0 H0 E) (fy st) m) :
  rQ P w K mg base bt aP.length (k+1) (fun es=>ra bt (m (i6 bt es))):=by
 obtain⟨C,f,fd,h1,h2,h3,h4,h5⟩:=d.ex;refine⟨C,f,fd,je::aP,h1,h2,?_,h4,h5⟩;obtain⟨eu,dh,cB,doc,pm,an,b6,cv,jd,rfl,lk,ei⟩:=h3.ex;refine vN lk ei S Fi fun A outer s H vs Q E aw hs=>?_;have ak:=Fi vs H Q E hs;obtain⟨G,H0,bH⟩:=KD hs;refine⟨_,(h f b6 A outer s H E aw G H0).1,?_⟩;rw[P_ (by simpa using ak)];exact bH
def ta(c:cw)(x:Str):ic:=fun ρ=>(c ρ).bind fun k=>if k=true then .exc x else .ok ρ
section
variable{P:VR}{w:V9}{K:PySem.W.Frag}{mg:Str→Option Vw}{base:Wv}{N:List Str}{qual:Str}{scope:WX}{f:VD}{cd:Vw}{A:V0}{outer:List Env}{s0:Vx}{Ha:ae}{E:cj}{G0 H0:ae}
theorem Gn{x:Str}{np cpos pos cp KI:Pos}{m:Str}{j:Nat}{c:V3}{kt:cw}(k:nL K mg x)(h:eO (d4 (dQ P w) P w K mg base N qual scope f cd A outer s0 Ha E) (c8 K G0 H0 E) c kt)(aF:da (d4 (dQ P w) P w K mg base N qual scope f cd A outer s0 Ha E) x:=by rfl)(hd:(x==("__debug__" :Str))=false:=by decide) :
  r2 (d4 (dQ P w) P w K mg base N qual scope f cd A outer s0 Ha E) (c8 K G0 H0 E) (.If c [.Raise (some (.Call (.Name x np) [.Constant (.str m) j cp] [] cpos)) none pos] [] KI) (ta kt x):=by
 refine⟨c7.imp (Ey h.1 (xw (jm (P:=P) (w:=w) (K:=K) (mg:=mg) (base:=base) (N:=N) (qual:=qual) (scope:=scope) (f:=f) (cd:=cd) (A:=A) (outer:=outer) (s0:=s0) (Ha:=Ha) (E:=E) (G0:=G0) (H0:=H0) (np:=np) (cpos:=cpos) (pos:=pos) (cp:=cp) (m:=m) (j:=j) k aF hd).1) EA) ?_⟩;rintro cf σ H ⟨G,ρ,r,h⟩;unfold ta at h;refine⟨G,ρ,r,?_⟩;cases ax:kt ρ with
 |bad=>rw[ax]at h;exact h.elim
 |exc c=>rw[ax]at h;exact h
 |ok b=>
  rw[ax,R.bI]at h;intro H1 aL au s1;cases b with
  |true=>exact⟨aL,ρ,au,h⟩
  |false=>exact h aL H1 au
end
section
variable{X:aD}{F:bj}{e:V3}{es:List V3}{pos p:Pos}{ma:aZ}
theorem DR{H1:ae}{x a5 C:VD}(av:H1 x=none)(mT:H1 a5=none):Sub H1 (del (upd (upd H1 a5 (.own x)) x (.ins C a5 [])) x):=fun b o e=>by
 have c_:b≠x:=fun z=>by rw[z,av]at e;cases e
 have cT:b≠a5:=fun z=>by rw[z,mT]at e;cases e
 rw[HW c_,cY c_,cY cT];exact e
theorem Kc{bt:Str}{n:Nat}{mf:List D→R (List Str×List D)}{C:VD}{E:cj}(eP:dE F.K bt C):eE (cJ F (qW bt n mf ma)) (yK C (rm F.K bt n mf) [] E (eb F ma)):=by
 rintro σ H Q ⟨G,ρ,r,h⟩;unfold qW at h;refine⟨G,ρ,r,?_⟩;cases ax:ma ρ with
 |bad=>rw[ax]at h;exact h.elim
 |exc c=>rw[ax]at h;exact h
 |ok ds=>
  rw[ax,R.bI]at h;intro vs H1 aL au s1 bc x a5 av mT ne;by_cases aK:ds.length=n
  ·rw[if_pos aK]at h;rw[WD];have kX:=DR (C:=C) av mT;have xQ:Sub aL (upd (upd H1 a5 (.own x)) x (.ins C a5 [])):=au.aG.sub.trans (kX.trans (vq _ _));refine⟨aL,x,C,a5,ds,vs,rfl,eP,dI,au.aG.sub.gone av,xQ,bc,aK,?_⟩;cases em:mf ds with
   |bad=>rw[em]at h;exact h.elim
   |exc c=>rw[em]at h;exact h.elim
   |ok y=>obtain⟨ns,es'⟩:=y;rw[em]at h;intro p7 xs G' H' k g1 g2 g3 gY;refine⟨rfl,?_⟩;have bF:Sub H1 H':=kX.trans k.bF;have nw:∀b,H1 b≠none→G' b=aL b:=fun b J=>k.new b (kX.some J);have bl:Rel F G' H' σ ρ:=au.grow k.eh k.sub bF nw;have no:¬dq H' σ ρ x:=dq.fresh au bF av;refine h (.ref x) H' _ (bl.take g2 g1 (au.aG.bF.gone av) no) ((s1.trans ⟨k.eh,bF,nw⟩).put (s1.h.gone av) g1) ?_;simp only[At];exact⟨x,p7,xs,rfl,⟨C,eP,dI⟩,g3,gY.mono (Sub.upd g1)⟩
  ·rw[if_neg aK]at h;exact h.elim
theorem Ry{bt:Str}{n k:Nat}{mf:List D→R (List Str×List D)}(c:rQ X.prog X.w X.K X.mg X.base bt n k mf)(aw:dg (k+1) X.A)(ah:eW X F (e::es) ma)(aX:F.K=X.K:=by rfl)(aF:da X bt:=by rfl)(e2:(bt==("__debug__" :Str))=false:=by decide)(he:VA (e::es) X.env=(false,WW e X.env)::VA es X.env:=by rfl)(cI:(Wu pos (VA es X.env)).any (·.1)=false:=by rfl):a8 X F (.Call (.Name bt p) (e::es) [] pos) (qW bt n mf ma):=by obtain⟨C,f,fd,aP,bE,c9,gH,hm,J⟩:=c.ex;refine⟨a3.imp (Em c9 gH aw aF hm J .nil NK ah.1 e2 he cI) ?_⟩;rw[←aX];exact Kc (by rw[aX];exact bE)
end
section
variable{X:aD}{F:bj}{e:V3}{pos p:Pos}{m n:aJ}{ma:aZ}
end
end bo
namespace aY
open PySem PySem.Spec PyProof.Rows
section
variable{X:aD}{i j:Nat}{x n y:Str}{W:VD}{e:V3}{cQ:TE}{E:cj}{r7:WO}{tX:List WO}{bB:et}{tE np bf pos py:Pos}
end
end aY
namespace bo
open PySem PySem.Spec aY PyProof.Rows
section
variable{X:aD}{F:bj}{pos:Pos}
end
section
variable{X:aD}{F:bj}{a b:V3}{pos p:Pos}{m n:aJ}{ma:aZ}
end
end bo
namespace aY
open PySem PySem.Spec PyProof.Rows
section
variable{prog:VR}{w:V9}{A:V0}{E:Vw→Vx→Prop}{s:Vx}
end
section
variable{X:aD}{pos:Pos}
end
end aY
namespace bo
open PySem PySem.Spec aY PyProof.Rows
section
variable{X:aD}{F:bj}{e:V3}{es:List V3}{pos p:Pos}{m n:aJ}{ma:aZ}
def td(sep:Str)(m:aZ):aJ:=fun ρ=>(m ρ).bind (wI sep)
theorem Rw {sep:Str} {j:Nat} {b1 apos cpos:Pos} (ah:eW X F [e] ma) (aX:F.K=X.K:=by rfl)(kF:Xj (.Constant (.str sep) j b1) "join" X.env (WW (.Constant (.str sep) j b1) X.env)=WW (.Constant (.str sep) j b1) X.env:=by rfl) (kJ:(apos.endLine==cpos.line)=true:=by rfl)(kG:((Wu cpos (VA [e] X.env)).all (fun x=>!x.1)&&(Yt cpos (Xs [] X.env)).all (fun x=>x.1.isSome)
    &&decide (([e]:List V3).length+([]:List Yy).length+(if([]:List Yy).isEmpty then 0 else 1)<30))=true:=by rfl)
  (hs:VA [e] X.env=(false,WW e X.env)::VA [] X.env:=by rfl) (kK:(Wu cpos (VA [] X.env)).any (·.1)=false:=by rfl) :
  a8 X F (.Call (.Attribute (.Constant (.str sep) j b1) "join" apos) [e] [] cpos) (td sep ma):=by
 refine⟨a3.imp (tF PySem.F.plainAttrs_str PySem.F.slot_str_join PySem.F.type_str_join Mx xq ah.1 kF kG kJ hs kK) ?_⟩;rintro σ H Q ⟨G,ρ,r,h⟩;unfold td at h;refine⟨rfl,G,ρ,r,?_⟩;cases ax:ma ρ with
 |bad=>rw[ax]at h;exact h.elim
 |exc c=>rw[ax]at h;exact h
 |ok ds=>
  rw[ax,R.bI]at h;intro vs H1 aL au s1 bc;unfold wI at h
  split at h
  ·rename_i aT
   split at h
   ·rename_i ys fU
    split at h
    ·rename_i bG;obtain⟨v,rfl,j5⟩:=bc.one;simp only[At]at j5;obtain⟨q,xs,rfl,aS,fI⟩:=j5;refine⟨sep,q,ys,rfl,rfl,?_,bG,h _ H1 aL au s1 (by simp only[At])⟩;rw[←Fp fI fU];exact bQ.of (au.aG.sub _ _ aS)
    ·exact h.elim
   ·exact h.elim
  ·exact h.elim
end
end bo
namespace aY
open PySem PySem.Spec PyProof.Rows
section
variable{X:aD}{elts:List V3}{df:Nat}{o7:Pos}
end
end aY
namespace bo
open PySem PySem.Spec aY PyProof.Rows
section
variable{X:aD}{F:bj}{a b:V3}{pos p:Pos}{ma:aZ}
end
end bo
namespace bo
open PySem PySem.Spec aY
section
variable{K:PySem.W.Frag}{G G':ae}
end
section
variable{F:bj}
end
section
variable{X:aD}{F:bj}{e:V3}
end
def oL(m:aJ):aJ:=fun ρ=>gO (m ρ)
section
variable{K:PySem.W.Frag}{G0 H0:ae}{E:cj}
theorem LN{m:aJ}:eE (cJ (c8 K G0 H0 E) (oL m)) (cJ (eH K G0 H0) m):=by
 rintro σ H Q ⟨G,ρ,r,h⟩;unfold oL at h;refine⟨G,ρ,r.ho rfl rfl rfl,?_⟩;cases e:m ρ with
 |bad=>rw[e]at h;exact h.elim
 |exc c=>rw[e]at h;exact h.elim
 |ok b=>rw[e]at h;exact fun v H' G' bq u a=>h v H' G' (bq.ho rfl rfl rfl) u a
end
section
variable{X:aD}{e:V3}{K:PySem.W.Frag}{G0 H0:ae}{E:cj}{m:aJ}
theorem Q9{t:TE}(h:a3 X.fL e t):a3 X e t:=fun pins s σ H Q I q=>V1 (h pins s σ H Q (I.gT _) q) (fun _ s'⟨v,H',br,r,z⟩=>⟨v,H',br.gm,r,z⟩) fun _ _ z=>z.elim
theorem zi(h:a8 X.fL (eH K G0 H0) e m):a8 X (c8 K G0 H0 E) e (oL m):=⟨fun pins s σ H Q I q=>Q9 h.1 pins s σ H Q I (LN σ H Q q)⟩
end
section
variable{F:bj}
end
section
variable{X:aD}{F:bj}{e o:V3}{es:List V3}{pos:Pos}{ma:aZ}{m n:aJ}
end
end bo
namespace bo
open PySem PySem.Spec aY PyProof.Rows
abbrev mz:=ar→R Unit
noncomputable def EQ(X:aD)(F:bj)(G:ae)(σ :aY.St)(ρ:ar)(r:R Unit):cj:=fun C _ H'=>∃(bt:Str)(iQ:VD)(G':ae),r=.exc bt∧C=.ref iQ∧dE X.K bt iQ∧Rel F G' H' σ ρ∧Sub G G'
theorem EQ.mono{X:aD}{F:bj}{G aL:ae}{σ :aY.St}{ρ:ar}{r:R Unit}(s:Sub G aL){C:Vw}{a:Option VD}{H:ae}(h:EQ X F aL σ ρ r C a H):EQ X F G σ ρ r C a H:=by obtain⟨bt,iQ,G',ao,aA,b9,de,eL⟩:=h;exact⟨bt,iQ,G',ao,aA,b9,de,s.trans eL⟩
structure pK(X:aD)(F:bj)(k6:List WO)(m:mz):Prop where
 q:∀(pins:List (VD×Obj))(s:Vx)(σ :aY.St)(H G:ae)(ρ:ar),Inv X pins σ H s→Rel F G H σ ρ→m ρ≠.bad→(∀c,m ρ=.exc c→∃C,dE X.K c C)→
  VL (VT X.prog X.w) X.A (execs k6 X.env) (fun fl s'=>fl=.next∧m ρ=.ok ()∧∃G' H',Inv X pins σ H' s'∧Rel F G' H' σ ρ∧Sub G G')
   (fun x s'=>∃H1 s1,Inv X pins σ H1 s1∧dQ X.prog X.w X.stack H1 s1 (EQ X F G σ ρ (m ρ)) x s') s
section
variable{X:aD}{F:bj}{e:V3}{es:List V3}{pos p:Pos}{ma:aZ}
def qZ(k:cw)(a b:mz):mz:=fun ρ=>(gO (k ρ)).bind fun c=>if c=true then a ρ else b ρ
theorem zk{c:V3}{st Fs:List WO}{k:cw}{a b:mz}(h:eO X.fL F c k)(ah:pK X F st a)(J:pK X F Fs b):pK X F [.If c st Fs pos] (qZ k a b):=by
 refine⟨fun pins s σ H G ρ I r nb aq=>?_⟩;unfold qZ at nb aq ⊢;cases gX:k ρ with
 |bad=>rw[gX]at nb;exact absurd rfl nb
 |exc c=>rw[gX]at nb;exact absurd rfl nb
 |ok c=>
  rw[gX]at nb aq;simp only[gO,R.bI]at nb aq ⊢;have t:=h.1 pins s σ H (fun d H1=>d=c∧∃aL,Rel F aL H1 σ ρ∧Sub G aL) (I.gT _) ⟨G,ρ,r,by rw[gX];exact fun H' G' bq u=>⟨rfl,G',bq,u.g⟩⟩;refine X7 (wpAny_If (V1 t (fun d s1⟨H1,aW,d5,aL,au,s2⟩=>?_) fun _ _ z=>z.elim));subst d5;have br:=aW.gm;cases d with
  |true=>
   simp only[if_true]at nb aq;refine V1 (ah.q pins s1 σ H1 aL ρ br au nb aq) (fun fl s3⟨aQ,a9,cC,aM,c5,gj,iG⟩=>?_) fun x s3⟨cy,s4,aQ,a9⟩=>?_
   ·subst aQ;exact WY ⟨rfl,by simpa using a9,cC,aM,c5,gj,s2.trans iG⟩
   ·obtain⟨a,C,a0,B,H',ao,aA,b9⟩:=a9;exact⟨cy,s4,aQ,a,C,a0,B,H',ao,aA,by simpa using b9.mono s2⟩
  |false=>
   simp only[Wy,if_false]at nb aq;refine V1 (J.q pins s1 σ H1 aL ρ br au nb aq) (fun fl s3⟨aQ,a9,cC,aM,c5,gj,iG⟩=>?_) fun x s3⟨cy,s4,aQ,a9⟩=>?_
   ·subst aQ;exact WY ⟨rfl,by simpa using a9,cC,aM,c5,gj,s2.trans iG⟩
   ·obtain⟨a,C,a0,B,H',ao,aA,b9⟩:=a9;exact⟨cy,s4,aQ,a,C,a0,B,H',ao,aA,by simpa using b9.mono s2⟩
def Q7{α:Type}:R α→R Unit
 |.ok _=>.ok ()
 |.exc c=>.exc c
 |.bad=>.bad
noncomputable def lT{α:Type}(n:Nat)(mf:List D→R α)(ma:aZ):mz:=fun ρ=>(gO (ma ρ)).bind fun ds=>if ds.length=n then Q7 (mf ds)else .bad
theorem uy{x:Str}{n k:Nat}{mf:List D→R cc}{p cpos tE:Pos}(c:fT X.prog X.w X.K X.mg X.base x n k mf)(aw:dg k X.A)(ah:eW X.fL F (e::es) ma)(aX:F.K=X.K:=by rfl)(aF:da X x:=by rfl)(mT:(x==("__debug__" :Str))=false:=by decide)(iB:Xp (.Call (.Name x p) (e::es) [] cpos) none tE.line X.env=pure false:=by rfl)(he:VA (e::es) X.env=(false,WW e X.env)::VA es X.env:=by rfl)(cI:(Wu cpos (VA es X.env)).any (·.1)=false:=by rfl):pK X F [.Expr (.Call (.Name x p) (e::es) [] cpos) tE] (lT n mf ma):=by
 obtain⟨f,fd,aP,aK,gH,hm,aH,J⟩:=c.ex;refine⟨fun pins s σ H G ρ I r nb aq=>?_⟩;have T:∀{v:V},o4 (kZ F.K n (nv F.K) mf) [] (EQ X F G σ ρ (lT n mf ma ρ)) (eb F ma) σ H (fun _ H1=>lT n mf ma ρ=.ok ()∧∃aL,Rel F aL H1 σ ρ∧Sub G aL):=fun{_}=>by
  refine⟨G,ρ,r,?_⟩;unfold lT at nb aq ⊢;cases ax:ma ρ with
  |bad=>rw[ax]at nb;exact absurd rfl nb
  |exc c=>rw[ax]at nb;exact absurd rfl nb
  |ok ds=>
   rw[ax]at nb aq;simp only[gO,R.bI]at nb aq ⊢;intro vs H1 aL au s1 bc;by_cases hd:ds.length=n
   ·rw[if_pos hd]at nb aq ⊢;rw[WD];refine⟨aL,ds,au.aG.sub,bc,hd,?_⟩;cases em:mf ds with
    |bad=>rw[em]at nb;exact absurd rfl nb
    |exc bt=>intro G' H' df;rw[em]at aq;obtain⟨rF,bE⟩:=aq bt rfl;rw[aX];exact⟨rF,bE,fun a _=>⟨bt,rF,G',rfl,rfl,bE,dV.of au df,s1.g.trans df.eh⟩⟩
    |ok tt=>
     cases tt with
     |v d=>exact fun v G' H' df _=>⟨rfl,G',dV.of au df,s1.g.trans df.eh⟩
     |o es=>exact fun a xs G' H' df _ _ _ _=>⟨rfl,G',dV.of au df,s1.g.trans df.eh⟩
     |t ed=>exact fun v G' H' df _=>⟨rfl,G',dV.of au df,s1.g.trans df.eh⟩
   ·rw[if_neg hd]at nb;exact absurd rfl nb
 refine X7 (wpAny_Expr_any (V1 (N6 (by rw[aX];exact gH) aw aF hm aH J ah.1 mT he cI pins s σ H _ I (T (v:=.non))) (fun v s1 bS=>?_) (fun y s' bO=>bO)) I.quiet iB);obtain⟨y,H1,aW,au,aQ,aL,a9,c5⟩:=bS;exact WY ⟨rfl,aQ,aL,H1,aW,a9,c5⟩
noncomputable def wY(i:Nat)(cs:List Str)(oI:mz)(ms:bp):bp:=fun ρ=>if i<ρ.length then match oI ρ with
    |.ok _=>.ok (.bJ ρ)
    |.exc c=>if cs.contains c=true then(gO (ms (ρ.set i (.b4 (.i0 c))))).bind (QV i)else .bad
    |.bad=>.bad
 else .bad
theorem RU(i:Nat){W nm:Str}{cs:List Str}{oI:mz}{ms:bp}{r7:WO}{body tX:List WO}{np JB:Pos}(bR:X.N.Nodup)(t:zL X.K X.mg W cs)(aS:pK X F body oI)(hs:∀a,hn (X.marked a) F (r7::tX) ms)(aX:F.K=X.K:=by rfl)(af:X.N[i]?=some nm:=by rfl)(ak:X.env.scope.names.lookup nm=some .local:=by rfl)(dF:X.stack=X.env::X.outer:=by rfl)(g0:X.env.frame=some X.env.locals:=by rfl)(hex:X.ex=[]:=by rfl)(Ja:da X W:=by rfl)(hd:(W==("__debug__" :Str))=false:=by decide) :
  e7 X F (.Try body [.ExceptHandler (some (.Name W np)) (some nm) (r7::tX) JB] [] [] pos) (wY i cs oI ms):=by
 obtain⟨rH,IX,Cj⟩:=t.ex;refine⟨fun pins s σ H cf I q=>?_⟩;obtain⟨G,ρ,r,h⟩:=q;unfold wY at h;by_cases qw:i<ρ.length
 rotate_left
 ·rw[if_neg qw]at h;exact h.elim
 rw[if_pos qw]at h;have nb:oI ρ≠.bad:=fun z=>by rw[z]at h;exact h.elim
 have qs:∀c,oI ρ=.exc c→cs.contains c=true:=fun c z=>by
  rw[z]at h;simp only at h;by_cases aq:cs.contains c=true
  ·exact aq
  ·rw[if_neg aq]at h;exact h.elim
 refine wpAny_Try_except (V1 (aS.q pins s σ H G ρ I r nb fun c z=>(Cj c (qs c z)).imp fun _ x=>x.1) (fun fl s1 bS=>?_) (fun y s' bO=>?_))
 ·obtain⟨aQ,a9,G',H',c5,gj,iG⟩:=bS;subst aQ;rw[a9]at h;exact WY ⟨σ,H',c5,h σ G' H' gj iG⟩
 ·obtain⟨H1,s1,aW,a,C,a0,B,H',rfl,fl,bt,iQ,G',em,rfl,bE,bq,eo⟩:=bO;have aq:=qs bt em;rw[em]at h;simp only at h;rw[if_pos aq]at h;have Jp:PySem.W.exmOne X.K (.ref iQ) (.ref rH)=some true:=by
   obtain⟨rF,d1,ct⟩:=Cj bt aq;have:rF=iQ:=by unfold dE at bE d1;rw[bE]at d1;cases d1;rfl
   subst this;exact ct
  have hp:=fl.hp;rw[dF]at hp;have gw:X.A.frames=some (X.env::X.outer):=by rw[←dF];exact aW.ok.frames
  refine wpAny_looks_onW gw g0 hp fun oj I6 F_=>?_;refine wpAny_landsW I6 fun fB su Ga=>?_;have iU:Inv X pins σ H' { s' with heap:=fB }:=fl.inv aW su.1 (by rw[dF];exact su.2.2.1) (F_.trans Ga);refine wpAny_handleBy_cons (codeAny_handlers_test (ov (X:=X.marked a) (iU.marked a) Ja IX ?_ hd)) (by intro q;cases q);obtain⟨bg,Jv,Jw⟩:=su.there;have LT:PySem.W.Looks (VT X.prog X.w) fB (typeOf (.ref a)) (.ref iQ):=by rw[←Jw];exact(PySem.W.Looks.ld Jv).andThen .now
  refine(PySem.W.exm_one (K:=X.K) iU.ej LT Jp).here ?_;refine codeAny_handlers_suite_as ?_;refine lands_againW su fun JW vL Rb=>?_;have jr:Inv X pins σ (upd H' a (n7 a (.ref iQ))) { s' with heap:=JW }:=fl.QU aW hex vL.1 (by rw[dF];exact vL.2.2.1) ((F_.trans Ga).trans Rb) (by obtain⟨o,q,c⟩:=vL.there;exact⟨o,q,c⟩);refine tW (X:=X) (v:=.ref a) jr bR af (.inl ak) rfl (fun eM gD=>?_) (.inr ak);have bX:=(bq.lay (o:=n7 a (.ref iQ)) fl.ah).set (d:=.i0 bt) (v:=.ref a) qw (by simp only[At];exact⟨a,[],rfl,⟨iQ,by rw[aX];exact bE,dI⟩,rfl⟩)
  have yG:Sub G (upd G' a (n7 a (.ref iQ))):=eo.trans (Sub.upd (bq.aG.sub.gone fl.ah));refine V1 ((hs a).1 pins eM _ _ { bJ:=fun σ2 aM=>cf.bJ (σ2.set i none) aM,eA:=cf.eA,ey:=fun σ2 aM=>cf.ey (σ2.set i none) aM,cv:=fun σ2 aM=>cf.cv (σ2.set i none) aM } (gD.marked a) ⟨_,_,bX,?_⟩) (fun Iy tM ki=>?_) fun _ _ z=>z.elim
  ·cases vz:ms (ρ.set i (.b4 (.i0 bt)))with
   |bad=>rw[vz]at h;exact h.elim
   |exc c=>rw[vz]at h;exact h.elim
   |ok fl=>
    rw[vz]at h;cases fl with
    |bJ bC=>exact fun σ2 cC aM bl s2=>h (σ2.set i none) cC aM (bl.vl i) (yG.trans s2)
    |ey bC=>exact fun σ2 cC aM bl s2=>h (σ2.set i none) cC aM (bl.vl i) (yG.trans s2)
    |cv bC=>exact fun σ2 cC aM bl s2=>h (σ2.set i none) cC aM (bl.vl i) (yG.trans s2)
    |eA d=>exact h
    |hz d=>exact h
    |dD d=>exact h
  cases Iy with
  |next=>obtain⟨σ',uN,br,q⟩:=ki;exact ue (br.unmarked I.ok) bR af ak fun kW my=>⟨_,_,my,q⟩
  |brk=>obtain⟨σ',uN,br,q⟩:=ki;exact ue (br.unmarked I.ok) bR af ak fun kW my=>⟨_,_,my,q⟩
  |cont=>obtain⟨σ',uN,br,q⟩:=ki;exact ue (br.unmarked I.ok) bR af ak fun kW my=>⟨_,_,my,q⟩
  |ret u=>obtain⟨v,σ',uN,br,r,q⟩:=ki;exact ue (br.unmarked I.ok) bR af ak fun kW my=>⟨v,_,_,my,r,q⟩
end
end bo
namespace bo
open PySem PySem.Spec aY
@[simp] theorem rz{α β:Type}(a:α)(k:α→R β):(R.ok a).bind k=k a:=(rfl)
@[simp] theorem Vo{α β:Type}(k:α→R β):(R.bad:R α).bind k=.bad:=(rfl)
@[simp] theorem Vp{α β:Type}(c:Str)(k:α→R β):(R.exc c:R α).bind k=.exc c:=(rfl)
def ro(b:bp):fq→R fq
 |.bJ ρ=>b ρ
 |f=>.ok f
@[simp] theorem U9(a b:bp)(ρ:ar):bP a b ρ=(a ρ).bind (ro b):=by unfold bP;congr 1
@[simp] theorem T1(b:bp)(ρ:ar):ro b (.bJ ρ)=b ρ:=(rfl)
@[simp] theorem T4(b:bp)(d:D):ro b (.eA d)=.ok (.eA d):=(rfl)
@[simp] theorem T3(b:bp)(d:List D):ro b (.hz d)=.ok (.hz d):=(rfl)
def xF:Option dx→R D
 |some (.b4 d)=>.ok d
 |_=>.bad
@[simp] theorem v_var(i:Nat)(ρ:ar):ay i ρ=xF ρ[i]?:=by unfold ay xF;rfl
@[simp] theorem TK(d:D):xF (some (.b4 d))=.ok d:=(rfl)
@[simp] theorem Uh(d:D)(ρ:ar):aj d ρ=.ok d:=(rfl)
@[simp] theorem Um(f:D→D→R D)(a b:aJ)(ρ:ar):aE f a b ρ=(a ρ).bind fun x=>(b ρ).bind fun y=>f x y:=(rfl)
@[simp] theorem Vj(f:D→R D)(a:aJ)(ρ:ar):dG f a ρ=(a ρ).bind f:=(rfl)
@[simp] theorem UX(ρ:ar):aR ρ=.ok []:=(rfl)
@[simp] theorem Uv(a:aJ)(r:aZ)(ρ:ar):ag a r ρ=(a ρ).bind fun x=>(r ρ).bind fun xs=>.ok (x::xs):=(rfl)
def uc(xs:List D):R D:=if xs.length≤1000000 then .ok (.tup xs)else .bad
@[simp] theorem Vh(m:aZ)(ρ:ar):fk m ρ=(m ρ).bind uc:=(rfl)
@[simp] theorem Ua{xs:List D}(h:xs.length≤1000000):uc xs=.ok (.tup xs):=if_pos h
@[simp] theorem UC(m:aZ)(ρ:ar):cO m ρ=(m ρ).bind fun xs=>.ok (.lst xs):=(rfl)
@[simp] theorem UN(m:aZ)(ρ:ar):du m ρ=(m ρ).bind lim:=(rfl)
@[simp] theorem Ug(m:aJ)(ρ:ar):b5 m ρ=(m ρ).bind ju:=(rfl)
@[simp] theorem Sk(b:Bool):ju (.aU b)=.ok b:=(rfl)
@[simp] theorem v_and(a b:cw)(ρ:ar):qQ a b ρ=(a ρ).bind fun c=>if c=true then b ρ else .ok false:=(rfl)
@[simp] theorem v_or(a b:cw)(ρ:ar):gN a b ρ=(a ρ).bind fun c=>if c=true then .ok true else b ρ:=(rfl)
@[simp] theorem v_not(a:cw)(ρ:ar):ez a ρ=(a ρ).bind fun c=>.ok (!c):=(rfl)
@[simp] theorem Ui(a b:aJ)(ρ:ar):i8 a b ρ=(a ρ).bind fun x=>(ju x).bind fun c=>if c=true then b ρ else .ok (.aU false):=(rfl)
@[simp] theorem UE(c:cw)(a b:bp)(ρ:ar):dt c a b ρ=(c ρ).bind fun k=>if k=true then a ρ else b ρ:=(rfl)
@[simp] theorem UW(ρ:ar):dO ρ=.ok (.bJ ρ):=(rfl)
@[simp] theorem U6(a:aJ)(ρ:ar):cF a ρ=(a ρ).bind fun d=>.ok (.eA d):=(rfl)
@[simp] theorem U7(a:aZ)(ρ:ar):jb a ρ=(a ρ).bind fun d=>.ok (.hz d):=(rfl)
@[simp] theorem Vd(i:Nat)(d:D)(ρ:ar):dH i d ρ=if i<ρ.length then .ok (ρ.set i (.b4 d))else .bad:=(rfl)
@[simp] theorem U_(i:Nat)(a:aJ)(ρ:ar):dC i a ρ=(a ρ).bind fun d=>(dH i d ρ).bind fun bC=>.ok (.bJ bC):=(rfl)
@[simp] theorem Vc(i:Nat)(a:aZ)(ρ:ar):iF i a ρ=(a ρ).bind fun ds=>if i<ρ.length then .ok (.bJ (ρ.set i (.en ds)))else .bad:=(rfl)
@[simp] theorem Va(i:Nat)(a:hg)(ρ:ar):Mj i a ρ=(a ρ).bind fun x=>(dH i x.1 x.2).bind fun bC=>.ok (.bJ bC):=(rfl)
@[simp] theorem UA(a:hg)(ρ:ar):Mc a ρ=(a ρ).bind fun x=>.ok (.bJ x.2):=(rfl)
@[simp] theorem Ut(f:List D→R D)(m:aZ)(ρ:ar):dB f m ρ=(m ρ).bind f:=(rfl)
@[simp] theorem Uo(n:Nat)(mf:List D→R cc)(m:aZ)(ρ:ar):cN n mf m ρ=(m ρ).bind fun ds=>if ds.length=n then(mf ds).bind l3 else .bad:=(rfl)
@[simp] theorem Up(n:Nat)(mf:List D→R cc)(m:aZ)(ρ:ar):i9 n mf m ρ=(m ρ).bind fun ds=>if ds.length=n then(mf ds).bind xJ else .bad:=(rfl)
theorem Rc(mi:aZ)(set:D→ar→R ar)(body:bp)(ρ:ar):i_ mi set body ρ=(mi ρ).bind fun ds=>j8 set body ds ρ:=(rfl)
@[simp] theorem U5(m:aZ)(ρ:ar):kS m ρ=(m ρ).bind rg:=(rfl)
@[simp] theorem UH(m:aJ)(ρ:ar):jD m ρ=(m ρ).bind tS:=(rfl)
@[simp] theorem v_bor(m:aJ)(ρ:ar):L9 m ρ=(m (fK ρ)).bind tv:=(rfl)
@[simp] theorem Un(m:cw)(ρ:ar):qR m ρ=m (fK ρ):=(rfl)
@[simp] theorem Si(i j:Int):fH (.int i) (.int j)=.ok (.int (i+j)):=(rfl)
@[simp] theorem T7(i j:Int):km (.int i) (.int j)=.ok (.int (i-j)):=(rfl)
@[simp] theorem Tr{i j:Int}(h1: -18446744073709551616<i)(h2:i<18446744073709551616):nd (.int i) (.int j)=.ok (.int (i*j)):=if_pos (XA ⟨h1,h2⟩)
@[simp] theorem mul_r{i j:Int}(h1: -18446744073709551616<j)(h2:j<18446744073709551616):nd (.int i) (.int j)=.ok (.int (i*j)):=if_pos (W8 ⟨h1,h2⟩)
@[simp] theorem Sz{i j:Int}(h1:0<j)(h2:j<1073741824):kB (.int i) (.int j)=.ok (.int (i/j)):=if_pos ⟨h1,h2⟩
@[simp] theorem Tq{i j:Int}(h:0<j):fa (.int i) (.int j)=.ok (.int (i%j)):=if_pos h
@[simp] theorem TJ{i:Int}{j:Nat}(h:j≤1000000)(h1: -1000000<i)(h2:i<1000000):jH (.int i) (.int (j:Int))=.ok (.int (i^j)):=by have:ph i (j:Int):=⟨by omega,by omega,by omega⟩;simp only[jH,iD,if_pos this,Xc]
theorem Oh:jH (.int 10) (.int 6)=.ok (.int 1000000):=(rfl)
theorem Og:jH (.int 10) (.int 30)=.ok (.int 1000000000000000000000000000000):=(rfl)
@[simp] theorem Ti(i j:Int):oy (.int i) (.int j)=.ok (.aU (decide (i<j))):=(rfl)
@[simp] theorem Tb(i j:Int):lS (.int i) (.int j)=.ok (.aU (decide (i≤j))):=(rfl)
@[simp] theorem SN(i j:Int):vT (.int i) (.int j)=.ok (.aU (decide (j<i))):=(rfl)
@[simp] theorem Sw(i j:Int):dz true (.int i) (.int j)=.ok (.aU (i==j)):=(rfl)
@[simp] theorem Ts(i j:Int):dz false (.int i) (.int j)=.ok (.aU (!(i==j))):=(rfl)
@[simp] theorem Tc(xs:List D):e3 [.lst xs]=.ok (.int xs.length):=(rfl)
@[simp] theorem Te(xs:List D):e3 [.tup xs]=.ok (.int xs.length):=(rfl)
@[simp] theorem Td(xs:List D):e3 [.cP xs]=.ok (.int xs.length):=(rfl)
@[simp] theorem TQ(d:D):l3 (.v d)=.ok d:=(rfl)
@[simp] theorem TO(ds:List D):l3 (.o ds)=.ok (.lst ds):=(rfl)
@[simp] theorem TN(ds:List D):xJ (.o ds)=.ok ds:=(rfl)
@[simp] theorem TF(d:D):outD (.eA d)=.ok (.v d):=(rfl)
@[simp] theorem TC(d:List D):outD (.hz d)=.ok (.o d):=(rfl)
@[simp] theorem Ux(N:Nat)(m:bp)(ds:List D):c2 N m ds=(m (kM N ds)).bind outD:=(rfl)
def xm:Option dx→R (List D)
 |some (.en ds)=>.ok ds
 |_=>.bad
@[simp] theorem U1(i:Nat)(ρ:ar):ownAt i ρ=xm ρ[i]?:=by unfold ownAt xm;rfl
@[simp] theorem TG(ds:List D):xm (some (.en ds))=.ok ds:=(rfl)
@[simp] theorem SA(set:D→ar→R ar)(body:bp)(ρ:ar):j8 set body [] ρ=.ok (.bJ ρ):=(rfl)
theorem B1{set:D→ar→R ar}{body:bp}(I:Nat→ar→Prop):∀(ds:List D)(i:Nat)(ρ:ar),(∀(j:Nat) d ρ,ds[j]?=some d→I (i+j) ρ→∃eD bC,set d ρ=.ok eD∧body eD=.ok (.bJ bC)∧I (i+j+1) bC)→I i ρ→∃bC,j8 set body ds ρ=.ok (.bJ bC)∧I (i+ds.length) bC
 |[],i,ρ,_,h=>⟨ρ,rfl,h⟩
 |d::ds,i,ρ,st,h=>by
  obtain⟨eD,dv,ao,aA,h2⟩:=st 0 d ρ rfl h;obtain⟨bC,b9,h3⟩:=B1 I ds (i+1) dv (fun j d ρ e af=>by obtain⟨a,b,bE,c9,eY⟩:=st (j+1) d ρ (by simpa using e) (by rw[show i+(j+1)=i+1+j by omega];exact af);exact⟨a,b,bE,c9,by rw[show i+1+j+1=i+(j+1)+1 by omega];exact eY⟩) (by simpa using h2)
  refine⟨bC,?_,by rw[Wf,show i+(ds.length+1)=i+1+ds.length by omega];exact h3⟩;rw[j8,ao,rz,aA,rz];exact b9
theorem B0{mi:aZ}{set:D→ar→R ar}{body:bp}{ds:List D}{ρ:ar}(I:Nat→ar→Prop)(af:mi ρ=.ok ds)(st:∀(j:Nat) d ρ,ds[j]?=some d→I j ρ→∃eD bC,set d ρ=.ok eD∧body eD=.ok (.bJ bC)∧I (j+1) bC)(h:I 0 ρ):∃bC,i_ mi set body ρ=.ok (.bJ bC)∧I ds.length bC:=by obtain⟨bC,e,h'⟩:=B1 I ds 0 ρ (fun j d ρ e cV=>by rw[Nat.zero_add]at cV ⊢;exact st j d ρ e cV) h;rw[Nat.zero_add]at h';exact⟨bC,by rw[Rc,af,rz,e],h'⟩
@[simp] theorem Sp(d:D):r9 (.b4 d)=.b4 d:=(rfl)
noncomputable def u7(i:Nat)(ρ:ar)(ds:List D)(d:D):R fq:=if ds.length<1000000 then .ok (.bJ (ρ.set i (.en (ds++[d]))))else .bad
@[simp] theorem Sj{i:Nat}{ρ:ar}{ds:List D}{d:D}(h:ds.length<1000000):u7 i ρ ds d=.ok (.bJ (ρ.set i (.en (ds++[d])))):=if_pos h
@[simp] theorem Uj(i:Nat)(m:aJ)(ρ:ar):m5 i m ρ=(ownAt i ρ).bind fun ds=>(m ρ).bind fun d=>u7 i ρ ds d:=(rfl)
@[simp] theorem Ul(i:Nat)(m:hg)(ρ:ar):L8 i m ρ=(ownAt i ρ).bind fun _=>(m ρ).bind fun x=>(ownAt i x.2).bind fun ds=>u7 i x.2 ds x.1:=(rfl)
@[simp] theorem UL(m:aJ)(ρ:ar):lf m ρ=(m ρ).bind fun d=>.ok (d,ρ):=(rfl)
@[simp] theorem UM(m:aZ)(ρ:ar):L2 m ρ=(m ρ).bind fun d=>.ok (d,ρ):=(rfl)
@[simp] theorem Uw(a:hg)(r:nO)(ρ:ar):L_ a r ρ=(a ρ).bind fun x=>(r x.2).bind fun y=>.ok (x.1::y.1,y.2):=(rfl)
@[simp] theorem Vi(m:nO)(ρ:ar):Dz m ρ=(m ρ).bind fun x=>(uc x.1).bind fun d=>.ok (d,x.2):=by
  unfold Dz uc
  congr 1;funext x
  split<;>rfl
noncomputable def Bf(i:Nat)(ds:List D)(ρ:ar):D→R (D×ar)
 |.lst es=>if ds.length+es.length≤1000000 then .ok (.non,ρ.set i (.en (ds++es)))else .bad
 |_=>.bad
@[simp] theorem UB(i:Nat)(m:aJ)(ρ:ar):s_ i m ρ=(ownAt i ρ).bind fun ds=>(m ρ).bind fun d=>Bf i ds ρ d:=by unfold s_;congr 1
@[simp] theorem Sy{i:Nat}{ds es:List D}{ρ:ar}(h:ds.length+es.length≤1000000):Bf i ds ρ (.lst es)=.ok (.non,ρ.set i (.en (ds++es))):=if_pos h
noncomputable def xu(i:Nat)(ds:List D)(ρ:ar):D→R (D×ar)
 |.int k=>if-(2^63)≤k∧k<2^63 then match Z6 k ds.length with
  |some j=>match ds[j]? with
   |some y=>.ok (y,ρ.set i (.en (ds.eraseIdx j)))
   |none=>.bad
  |none=>.bad
  else .bad
 |_=>.bad
@[simp] theorem U3(i:Nat)(m:aJ)(ρ:ar):Dy i m ρ=(ownAt i ρ).bind fun ds=>(m ρ).bind fun d=>xu i ds ρ d:=by unfold Dy;congr 1
theorem TH{i:Nat}{ds:List D}{ρ:ar}{k:Nat}(h:k<ds.length)(ak:ds.length<1000000):xu i ds ρ (.int (k:Int))=.ok (ds[k],ρ.set i (.en (ds.eraseIdx k))):=by
 have fx: -(2^63)≤(k:Int):=Int.le_trans (by decide) (Int.natCast_nonneg k);have dy:(k:Int)<2^63:=Int.lt_trans (b:=1000000) (by omega) (by decide);have s:Z6 (k:Int) ds.length=some k:=by rw[PySem.seqIndex_of (by omega) (by omega)];simp
 simp only[xu,if_pos (And.intro fx dy),s,Vz h]
noncomputable def Kz(i:Nat)(ds:List D)(ρ:ar)(y:D):D→R (D×ar)
 |.int k=>if 0≤k∧k<2^63∧ds.length<1000000 then .ok (.non,ρ.set i (.en (ds.take (min k.toNat ds.length)++y::ds.drop (min k.toNat ds.length))))else .bad
 |_=>.bad
@[simp] theorem UI(i:Nat)(m n:aJ)(ρ:ar):Dw i m n ρ=(ownAt i ρ).bind fun ds=>(m ρ).bind fun d=>(n ρ).bind fun y=>Kz i ds ρ y d:=by unfold Dw;congr 1
@[simp] theorem UP(m:aZ)(ρ:ar):Mf m ρ=(m ρ).bind s7:=(rfl)
@[simp] theorem UO(m:aZ)(ρ:ar):qV m ρ=(m ρ).bind s6:=(rfl)
@[simp] theorem UJ(m:aJ)(ρ:ar):qT m ρ=(m ρ).bind y0:=(rfl)
@[simp] theorem Vk(set:D→ar→R ar)(m:aJ)(ρ:ar):tg set m ρ=(m ρ).bind fun d=>(set d ρ).bind fun bC=>.ok (.bJ bC):=(rfl)
@[simp] theorem U8(m:aJ)(ρ:ar):tf m ρ=(m (fK ρ)).bind fun d=>.ok (.eA d):=(rfl)
@[simp] theorem UZ(a:aJ)(ρ:ar):qX a ρ=(a ρ).bind fun x=>(ju x).bind fun c=>.ok (.aU (!c)):=(rfl)
@[simp] theorem TR(ds:List D):tS (.lst ds)=.ok ds:=(rfl)
@[simp] theorem Ub(ds:List D):y0 (.tup ds)=.ok ds:=(rfl)
@[simp] theorem Tg(ds:List D):s6 [.lst ds]=.ok ds:=(rfl)
@[simp] theorem Tf{xs:List D}(h:xs.length≤1000000):lim xs=.ok xs:=if_pos h
@[simp] theorem SK:fK []=[]:=(rfl)
@[simp] theorem SJ(s:dx)(ρ:ar):fK (s::ρ)=lI s::fK ρ:=(rfl)
@[simp] theorem SF(d:D):lI (.b4 d)=.b4 d:=(rfl)
@[simp] theorem SI:lI .un=.un:=(rfl)
@[simp] theorem SG(ds:List D):lI (.bg (.lst ds))=.b4 (.lst ds):=(rfl)
@[simp] theorem TA(i:Int):tv (.int i)=.ok (.int i):=(rfl)
@[simp] theorem Tz(i:Bool):tv (.aU i)=.ok (.aU i):=(rfl)
@[simp] theorem Tu{α:Type}(a:α):gO (R.ok a)=.ok a:=(rfl)
def y_:Option dx→R (List D)
 |some (.bg (.lst ds))=>.ok ds
 |_=>.bad
@[simp] theorem Vl(i:Nat)(ρ:ar):oD i ρ=y_ ρ[i]?:=by unfold oD y_;rfl
@[simp] theorem Vq(ds:List D):y_ (some (.en ds))=.ok ds:=(rfl)
@[simp] theorem Uu(f g:D→D→R D)(a b c:aJ)(ρ:ar):kQ f g a b c ρ=(a ρ).bind fun x=>(b ρ).bind fun y=>(f x y).bind fun z=>(ju z).bind fun k=>if k=true then(c ρ).bind fun w=>g y w else .ok (.aU false):=(rfl)
@[simp] theorem S6(N:Nat)(ds:List D):kM N ds=ds.map .b4++VY (N-ds.length) .un:=(rfl)
theorem KX{xs:List D}{k:Nat}{d:D}(h:xs[k]?=some d):cE (.lst xs) (.int (k:Int))=.ok d:=by
 have aH:=(List.getElem?_eq_some_iff.mp h).1;have e:gE xs (k:Int)=some d:=by unfold gE lP;rw[if_pos (by omega),if_pos (by omega)];simpa using h
 simp only[cE,e]
theorem KW{ys:List Int}{k:Nat}(h:k<ys.length):cE (.lst (ys.map D.int)) (.int (k:Int))=.ok (.int ys[k]):=KX (by simp[h])
@[simp] theorem TM(n:Nat)(h:n<1000000):rg [.int (n:Int)]=.ok (g7 0 n):=by have: -(2^62)≤(n:Int)∧(n:Int)<2^62:=⟨by omega,by omega⟩;simp only[rg,if_pos this,Xc]
theorem EP{n j:Nat}{d:D}(h:(g7 0 n)[j]?=some d):j<n∧d=.int (j:Int):=by
 unfold g7 at h;rw[VW]at h;cases e:(Wk n)[j]? with
 |none=>rw[e]at h;cases h
 |some k=>
  rw[e]at h;have cV:j<n:=by have:=(List.getElem?_eq_some_iff.mp e).1;simpa using this
  rw[XF cV]at e;cases e;simp at h;exact⟨cV,h.symm⟩
@[simp] theorem OU(a:Int)(n:Nat):(g7 a n).length=n:=by simp[g7]
@[simp] theorem Vn{α β Sf:Type}(r:R α)(f:α→R β)(g:β→R Sf):(r.bind f).bind g=r.bind fun x=>(f x).bind g:=by cases r<;>rfl
def Ends{β:Type}(r:R β)(T:β→Prop):Prop:=∃b,r=.ok b∧T b
@[simp] theorem Su{β:Type}(b:β)(T:β→Prop):Ends (.ok b) T=T b:=propext ⟨fun⟨c,e,h⟩=>by cases e;exact h,fun h=>⟨b,rfl,h⟩⟩
@[simp] theorem Ss{β:Type}(T:β→Prop):Ends (.bad) T=False:=propext ⟨fun⟨c,e,h⟩=>(by cases e),WG⟩
theorem Ends.bind{α β:Type}{r:R α}{k:α→R β}{S:α→Prop}{T:β→Prop}(h:Ends r S)(f:∀b,S b→Ends (k b) T):Ends (r.bind k) T:=by obtain⟨b,rfl,J⟩:=h;exact f b J
def rU(I:ar→Prop)(f:fq):Prop:=∃ρ,f=.bJ ρ∧I ρ
@[simp] theorem Sh(I:ar→Prop)(ρ:ar):rU I (.bJ ρ)=I ρ:=propext ⟨fun⟨r,e,h⟩=>by cases e;exact h,fun h=>⟨ρ,rfl,h⟩⟩
theorem A9{β:Type}{mi:aZ}{set:D→ar→R ar}{body:bp}{ds:List D}{ρ:ar}{k:fq→R β}{T:β→Prop}(I:Nat→ar→Prop)(af:mi ρ=.ok ds)(h0:I 0 ρ)(st:∀(j:Nat) d ρ,ds[j]?=some d→I j ρ→Ends ((set d ρ).bind body) (rU (I (j+1))))(fin:∀bC,I ds.length bC→Ends (k (.bJ bC)) T):Ends ((i_ mi set body ρ).bind k) T:=by
 obtain⟨bC,e,h⟩:=B0 (body:=body) (set:=set) (mi:=mi) I af (fun j d ρ hd gJ=>by
  obtain⟨b,e,bC,rfl,h⟩:=st j d ρ hd gJ;cases es:set d ρ with
  |bad=>rw[es]at e;cases e
  |exc c=>rw[es]at e;cases e
  |ok eD=>rw[es,rz]at e;exact⟨eD,bC,rfl,e,h⟩) h0
 rw[e,rz];exact fin bC h
def Fn(i:Nat):fq→R fq
 |.bJ bC=>.ok (.bJ (jv i bC))
 |f=>.ok f
@[simp] theorem Vb(i:Nat)(a:aZ)(ρ:ar):oC i a ρ=(iF i a ρ).bind (Fn i):=by unfold oC;congr 1
@[simp] theorem T5(i:Nat)(ρ:ar):Fn i (.bJ ρ)=.ok (.bJ (jv i ρ)):=(rfl)
noncomputable def vn(ds:List D):D→R (List D)
 |.lst es=>if ds.length+es.length≤1000000 then .ok (ds++es)else .bad
 |_=>.bad
@[simp] theorem So{ds es:List D}(h:ds.length+es.length≤1000000):vn ds (.lst es)=.ok (ds++es):=if_pos h
noncomputable def AJ:D→D→R (List D)
 |.lst ds,.lst es=>if ds.length+es.length≤1000000 then .ok (ds++es)else .bad
 |_,_=>.bad
@[simp] theorem Sn{ds es:List D}(h:ds.length+es.length≤1000000):AJ (.lst ds) (.lst es)=.ok (ds++es):=if_pos h
@[simp] theorem Uq(m n:aJ)(ρ:ar):qS m n ρ=(m ρ).bind fun c=>(n ρ).bind fun d=>AJ c d:=by unfold qS;congr 1
@[simp] theorem Us(i:Nat)(m:aJ)(ρ:ar):Dv i m ρ=(ownAt i ρ).bind fun ds=>(m ρ).bind fun d=>vn ds d:=by unfold Dv;congr 1
@[simp] theorem Ur(ma:aZ)(m:aJ)(ρ:ar):Du ma m ρ=(ma ρ).bind fun ds=>(m ρ).bind fun d=>vn ds d:=by unfold Du;congr 1
@[simp] theorem Ve(f:D→Option Int→Option Int→R D)(m:aJ)(lo af:ll)(ρ:ar):lU f m lo af ρ=(m ρ).bind fun d=>(lo ρ).bind fun l=>(af ρ).bind fun h=>f d l h:=(rfl)
def vO(i:Nat)(ρ:ar):Option dx→ar
 |some (.bg o)=>ρ.set i (.b4 (kV o))
 |_=>ρ
@[simp] theorem SE(i:Nat)(ρ:ar):jv i ρ=vO i ρ ρ[i]?:=by unfold jv vO;rfl
@[simp] theorem SD(i:Nat)(ρ:ar)(ds:List D):vO i ρ (some (.en ds))=ρ.set i (.b4 (.lst ds)):=(rfl)
@[simp] theorem UY(ρ:ar):oB ρ=.ok none:=(rfl)
@[simp] theorem U2(m:aJ)(ρ:ar):m8 m ρ=(m ρ).bind intD:=(rfl)
@[simp] theorem S7(i:Int):intD (.int i)=.ok (some i):=(rfl)
theorem H9{β α:Type}{mi:aZ}{set:D→ar→R ar}{body:bp}{ρ:ar}{k:fq→R β}{T:β→Prop}(g:α→D)(xs:List α)(I:Nat→ar→Prop)(af:mi ρ=.ok (xs.map g))(h0:I 0 ρ)(st:∀(j:Nat) a ρ,xs[j]?=some a→I j ρ→Ends ((set (g a) ρ).bind body) (rU (I (j+1))))(fin:∀bC,I xs.length bC→Ends (k (.bJ bC)) T):Ends ((i_ mi set body ρ).bind k) T:=
 A9 I af h0 (fun j d ρ hd gJ=>by
  rw[VW]at hd;cases e:xs[j]? with
  |none=>rw[e]at hd;cases hd
  |some a=>rw[e]at hd;cases hd;exact st j a ρ e gJ) (by rw[Wq];exact fin)
theorem H_{β:Type}{mi:aZ}{set:D→ar→R ar}{body:bp}{ρ:ar}{k:fq→R β}{T:β→Prop}(n:Nat)(I:Nat→ar→Prop)(af:mi ρ=.ok (g7 0 n))(h0:I 0 ρ)(st:∀(j:Nat) ρ,j<n→I j ρ→Ends ((set (.int (j:Int)) ρ).bind body) (rU (I (j+1))))(fin:∀bC,I n bC→Ends (k (.bJ bC)) T):Ends ((i_ mi set body ρ).bind k) T:=
 A9 I af h0 (fun j d ρ hd gJ=>by obtain⟨cV,rfl⟩:=EP hd;exact st j ρ cV gJ) (by rw[OU];exact fin)
@[simp] theorem Th(n:Nat)(h:n≤1000000):s7 [.int (n:Int)]=.ok (g7 0 n):=by have: -(2^62)≤(n:Int)∧(n:Int)≤1000000:=⟨by omega,by omega⟩;simp only[s7,if_pos this,Xc]
@[simp] theorem Tn(i j:Int):Mq [.int i,.int j]=.ok (.int (if j>i then j else i)):=(rfl)
@[simp] theorem GZ{xs ys:List D}(h:xs.length+ys.length≤1000000):fH (.lst xs) (.lst ys)=.ok (.lst (xs++ys)):=if_pos h
@[simp] theorem TY(xs:List D)(l h:Option Int):l9 (.lst xs) l h=.ok (.lst (iY xs l h)):=(rfl)
@[simp] theorem TZ(xs:List D)(l h:Option Int):l9 (.cP xs) l h=.ok (.lst (iY xs l h)):=(rfl)
theorem HF{α:Type}(xs:List α)(k:Nat):iY xs none (some (k:Int))=xs.take k:=by
 unfold iY;rw[d0.Pa,d0.O_,List.drop_zero,Nat.sub_zero];by_cases h:k≤xs.length
 ·rw[Nat.min_eq_left h]
 ·rw[Nat.min_eq_right (by omega),List.take_length,XS (by omega)]
@[simp] theorem TV(aT:List (D→ar→R ar))(ds:List D)(ρ:ar):l7 aT (.tup ds) ρ=gB aT ds ρ:=(rfl)
@[simp] theorem TU(ρ:ar):gB [] [] ρ=.ok ρ:=(rfl)
@[simp] theorem TS(f:D→ar→R ar)(aT:List (D→ar→R ar))(d:D)(ds:List D)(ρ:ar):gB (f::aT) (d::ds) ρ=(f d ρ).bind fun bC=>gB aT ds bC:=(rfl)
@[simp] theorem US(bt:Str)(n:Nat)(mf:List D→R (List Str×List D))(ma:aZ)(ρ:ar):qW bt n mf ma ρ=(ma ρ).bind fun ds=>if ds.length=n then(gO (mf ds)).bind fun x=>.ok (.ins bt x.1 x.2)else .bad:=(rfl)
@[simp] theorem Uc(xs:List D):nq [.lst xs]=.ok (.tup xs):=(rfl)
@[simp] theorem Uz(k:Str)(i:Int)(ρ:ar):Mb k i ρ=.ok (.dc [.inr k] [.int i]):=(rfl)
@[simp] theorem Tt(i:Int):MQ (.int i)=.ok (.int (-i)):=(rfl)
@[simp] theorem TL{x:D}{k:Int}(h0:0≤k)(h:k≤1000):ng (.lst [x]) (.int k)=.ok (.lst (VY k.toNat x)):=by
  have b:0≤k∧k≤1000∧[x].length≤100:=⟨h0,h,by simp⟩;simp only[ng,if_pos b]
  congr 2
  generalize k.toNat=n;induction n with
  |zero=>rfl
  |succ n cW=>simp[Wz,cW]
@[simp] theorem UD(m:aZ)(ρ:ar):Me m ρ=(m ρ).bind A_:=(rfl)
@[simp] theorem v_is(m:aJ)(ρ:ar):oA m ρ=(m ρ).bind yz:=(rfl)
@[simp] theorem Vf(m:aZ)(ρ:ar):Ml m ρ=(m ρ).bind Fg:=(rfl)
@[simp] theorem UU(i:Nat)(m:bp)(ρ:ar):Md i m ρ=m (jv i ρ):=(rfl)
@[simp] theorem UG(c:cw)(a b:aJ)(ρ:ar):qU c a b ρ=(c ρ).bind fun k=>if k=true then a ρ else b ρ:=(rfl)
@[simp] theorem U0(a b:aJ)(ρ:ar):qY a b ρ=(a ρ).bind fun x=>(ju x).bind fun c=>if c=true then .ok (.aU true)else b ρ:=(rfl)
@[simp] theorem UT(bt mt:Str)(n:Nat)(mf:List D→R cc)(o:aJ)(ma:aZ)(ρ:ar):m7 bt mt n mf o ma ρ=(o ρ).bind fun d=>(yw bt mt d).bind fun d=>(ma ρ).bind fun ds=>if ds.length=n then(mf (d::ds)).bind l3 else .bad:=(rfl)
@[simp] theorem Uy(ρ:ar):Ma ρ=.ok (.dc [] []):=(rfl)
@[simp] theorem UR(i:Nat)(a:pC)(ρ:ar):Mk i a ρ=(a ρ).bind fun t=>if i<ρ.length then .ok (.bJ (ρ.set i (.ed t)))else .bad:=(rfl)
@[simp] theorem UQ(a:pC)(ρ:ar):Mh a ρ=(a ρ).bind fun t=>.ok (.dD t):=(rfl)
def za:Option dx→R T
 |some (.ed t)=>.ok t
 |_=>.bad
@[simp] theorem Vm(i:Nat)(ρ:ar):DA i ρ=za ρ[i]?:=by unfold DA za;rfl
@[simp] theorem Vr(t:T):za (some (.ed t))=.ok t:=(rfl)
def yX:Option dx→R (List T)
 |some (.ed (.lst bB))=>.ok bB
 |_=>.bad
@[simp] theorem Vg(i:Nat)(ρ:ar):t_ i ρ=yX ρ[i]?:=by unfold t_ yX;rfl
@[simp] theorem T9(bB:List T):yX (some (.ed (.lst bB)))=.ok bB:=(rfl)
@[simp] theorem T2(b:bp)(t:T):ro b (.dD t)=.ok (.dD t):=(rfl)
@[simp] theorem TB(t:T):outD (.dD t)=.ok (.t t):=(rfl)
@[simp] theorem TP(t:T):l3 (.t t)=.ok (toD t):=(rfl)
@[simp] theorem SH(t:T):lI (.ed t)=.b4 (toD t):=(rfl)
@[simp] theorem Uk(i:Nat)(mk m:aJ)(ρ:ar):L7 i mk m ρ=(t_ i ρ).bind fun bB=>(mk ρ).bind fun k=>zV i ρ bB m k:=(rfl)
@[simp] theorem U4(i:Nat)(mk kg:aJ)(ρ:ar):Mg i mk kg ρ=(kg ρ).bind fun v=>(ownAt i ρ).bind fun ds=>(mk ρ).bind fun k=>putK i ρ ds v k:=(rfl)
def KU(ds:List D):D→R D
 |.int j=>match gE ds j with
  |some d=>.ok d
  |none=>.bad
 |_=>.bad
@[simp] theorem UK(i:Nat)(n:aJ)(ρ:ar):Dx i n ρ=(ownAt i ρ).bind fun ds=>(n ρ).bind (KU ds):=by unfold Dx;congr 1
@[simp] theorem T8(k:Bool):QT [.aU k]=.ok (.int (if k then 1 else 0)):=(rfl)
@[simp] theorem S8(x:D):KO true x .non=.ok (.aU (wG x)):=(rfl)
@[simp] theorem TX(x:Str):yz (.str x)=.ok (x.cps.toList.map oY):=(rfl)
theorem Ends.done{β:Type}{r:R β}{b:β}(h:Ends r (· =b)):r=.ok b:=by obtain⟨c,e,rfl⟩:=h;exact e
end bo
namespace aY
open PySem PySem.Spec PyProof.Rows
theorem F9{h:Wv}{T:VD}{f:Obj→Obj}{jF:Obj}{bB:Array Vw}(q:h.get? T=some jF)(d:jF.data=.fields bB):∀b o,h.get? b=some o→(∀vs:Array Vw,o.data≠.fields vs)→(h.update T f).get? b=some o:=fun b o e n=>by
 have ne:b≠T:=fun z=>by rw[z,q]at e;cases e;exact n bB d
 rw[WI h f (Yx ne)];exact e
theorem OV{M:Model}{A:V0}{E:Vw→Vx→Prop}{s:Vx}{base:Wv}{env:Env}{outer:List Env}{L e:VD}{K a0 fl:Vw}{Q:Unit→Vx→Prop}(gw:A.frames=some (env::outer))(Cm:s.heap.FunFrames base (env::outer))(g0:env.frame=some L)(bH:s.heap.TracedAtW base e K a0 fl)(dF:base.StaysIn s.heap)(J:base.get? e=none)(k:∀h',base.FlyingW outer e K a0 h'→s.heap.UpToSlots h'→Q () { s with heap:=h' }):VL M A (aah env (.ref e)) Q E s:=by
 have I9:s.heap.FunFrames base outer:=Cm.2.2;unfold aah;refine Vv ?_;obtain⟨kh,vs,T,jF,bB,ao,⟨aA,b9⟩,de,eL,gd,iv,n6,j7,n5⟩:=bH;unfold noteFrame;rw[g0];refine Vv (WA ao de eL ?_);show VL M A (if(V2 T !=Wr)=true then _ else _) _ E s;rw[if_pos (show(V2 T !=Wr)=true from rfl)];refine Vv (WA n6 j7 n5 ?_);by_cases Cn:(fl==rawInt ↑L)=true
 ·rw[if_pos Cn];exact VB (wpAny_setFlight_noneW dF I9 ⟨kh,vs,T,jF,bB,ao,⟨aA,b9⟩,de,eL,gd,iv,n6,j7,n5⟩ fun h' eC fo k9 jk=>k h' ⟨eC,J,fo,k9⟩ fun b o q n=>⟨o.slots,jk b o q n⟩)
 ·rw[if_neg Cn];refine Vv (YA n6 j7 (Array.getElem?_eq_some_iff.mp n5).1 ?_);have ud:=F9 (f:=Xa fun x=>x.setIfInBounds 3 Wr) n6 j7;have he:(s.heap.update T (Xa fun x=>x.setIfInBounds 3 Wr)).get? e=some kh:=by rw[WI _ _ iv];exact ao
  refine wpAny_newEntryW (s:={ s with heap:=s.heap.update T (Xa fun x=>x.setIfInBounds 3 Wr) }) gw (Heap.FunFrames.of_keeps (fun b o q n=>⟨o,ud b o q n,rfl⟩) Cm) g0 he (fun b o q=>?_) J de (Array.getElem?_eq_some_iff.mp eL).1 b9 fun h'⟨eC,fo,k9,jk⟩=>k h' ⟨eC,J,fo.2.2,by rw[←aA];exact k9⟩ fun b o q n=>jk b o (ud b o q n) n;have ne:T≠b:=fun z=>by rw[←z,gd]at q;cases q
  show(s.heap.update T _).get? b=some o;rw[WI _ _ ne];exact dF b o q
structure zx(P:VR)(w:V9)(st:List Env)(aC:List VD)(C:VD)(H H':ae)(s:Vx)(a:VD)(K a0:Vw)(B:Wv)(s':Vx):Prop where
 os:s'.os=s.os
 bare:Yw s'.gens
 un:d2 (cZ st) aC H H' s.heap s'.heap
 hp:Heap.FlyingW B st a K a0 s'.heap
 old:∀b o,s.heap.get? b=some o→H b=none→b∉cZ st→b∉aC→B.get? b=some o
 jP:∀b o,s.heap.get? b=some o→b∉cZ st→b∉aC→∃bk,B.get? b=some bk
 bw:dJ P w H' B
 ah:H' a=none
 eP:H' C=none
 lX:∃m,B.Ns C m
abbrev f_(X:aD)(E:cj)(scope:WX)(N:List Str)(cl:List (Str×VD))(C:VD)(s:Vx)(H:ae)(aC:List VD):aD:=
 { eZ X scope N cl C s H aC with xe:=fun e s'=>∃(a:VD)(K a0:Vw)(B:Wv)(H':ae),e=.ref a∧zx X.prog X.w X.stack aC C H H' s a K a0 B s'∧E K (some a) H' }
theorem II(h:Wv):h.get? h.objs.size=none:=by
 cases e:h.get? h.objs.size with
 |none=>rfl
 |some o=>exact absurd (VH e) (Wi _)
theorem zD{h h':Wv}{C:VD}{m:Str→Option Vw}(n:h.Ns C m)(k:∀o,h.get? C=some o→h'.get? C=some o):h'.Ns C m:=by obtain⟨o,es,b7,q,r⟩:=n;exact⟨o,es,b7,k o q,r⟩
theorem tD{X:aD}{E:cj}{scope:WX}{N:List Str}{cl:List (Str×VD)}{C:VD}{s0:Vx}{H0:ae}{aC:List VD}:Passes (dQ X.prog X.w) (f_ X E scope N cl C s0 H0 aC) E:=fun pins σ H s e s' I av=>by
 obtain⟨a,K,a0,B,H',rfl,f,gx⟩:=av;obtain⟨os,bare,un,hp,old,jP,bw,ah⟩:=f;have base:d2 (cZ X.stack) aC H0 H s0.heap s.heap:=I.base;have IQ:C∉cZ X.stack:=fun z=>by obtain⟨_,o,q,_⟩:=I.ok.gI.mem (show C∈cZ (f_ X E scope N cl C s0 H0 aC).outer from z);exact absurd (VJ (VH q) I.ok.above) (Wi _)
 have eP:H C=none:=I.free;obtain⟨m,lX,_⟩:=I.loc;have lX:s.heap.Ns C m:=lX;refine⟨a,K,a0,B,H',rfl,⟨os.trans I.os,bare,base.trans (un.mono (fun _ z=>z) fun _ z=>by cases z),hp,?_,?_,bw,ah,?_,m,zD lX fun o q=>old C o q eP IQ⟩,gx⟩
 ·exact fun b o q n J av=>old b o (base.keep b o q n J av) (base.free b o q n av) J
 ·intro b o q J av;obtain⟨bk,cq⟩:=base.there b o q av;exact jP b bk cq J
 ·obtain⟨o,_,_,q,_⟩:=lX;exact un.free C o q eP (fun z=>by cases z)
theorem B4{h h2 B nD:Wv}(i2:∀b,B.get? b=none→nD.get? b=none):∀{l:List Env},(∀b∈cZ l,∀o,h.get? b=some o→(∀vs:Array Vw,o.data≠.fields vs)→h2.get? b=some o)→h.FunFrames B l→h2.FunFrames nD l
 |[],_,_=>trivial
 |env::l,k,f=>by obtain⟨f1,⟨L,o,f2,d9,f4,fV⟩,Io⟩:=f;have gK:L∈cZ (env::l):=List.mem_filterMap.mpr ⟨env,V5,f2⟩;refine⟨f1,⟨L,o,f2,i2 L d9,k L gK o f4 fV,fV⟩,B4 i2 (fun b J=>k b ?_) Io⟩;obtain⟨e,he,z⟩:=List.mem_filterMap.mp J;exact List.mem_filterMap.mpr ⟨e,VC _ he,z⟩
section
variable{X:aD}{pins:List (VD×Obj)}{σ :St}{cy H':ae}{s3 s':Vx}{a C:VD}{K a0:Vw}{B:Wv}{aC:List VD}
theorem Inv.HC{M:Model}{A:V0}{E:Vw→Vx→Prop}{Q:Unit→Vx→Prop}{α:Type}{scope:WX}{cl:List (Str×VD)}{what:String}(I:Inv X pins σ cy s3)(dF:X.stack=X.env::X.outer)(g0:X.env.frame=some X.env.locals)(hex:X.ex=[])(gw:A.frames=some X.stack)(hf:∀b∈aC,ft X pins cy b)(IP:s3.heap.get? C=none)(f:zx X.prog X.w X.stack aC C cy H' s3 a K a0 B s')(fj:∀nD eo,jo X.prog X.w X.outer X.iS H' X.dP a K a0 nD eo→Q () eo) :
  XO M A (Zs scope cl C X.env) (fun e s1=>∃m,s1.heap.Ns C m∧∀h',Wm C s1.heap h'→∀gF:Env,gF.locals=C→VL M A (PySem.passOn what e gF:Sem α) (fun _ _=>False) (fun e s2=>e=.ref a∧VL M A (aah X.env e) Q E s2) { s1 with heap:=h' }) (.ref a) s':=by
 obtain⟨os,bare,un,hp,old,jP,bw,ah,eP,m,lX⟩:=f;obtain⟨Iv,sq,BX,Iw⟩:=hp;unfold XO;show VL M A (noteFrame (.ref a) X.env) _ _ s';rw[dF]at BX;refine wpAny_noteFrame_onW (by rw[gw,dF]) BX g0 Iw Iv sq fun h1⟨c_,cT,q6,jc⟩=>?_;refine⟨m,zD lX fun o q=>c_ C o q,fun h' hs gF ht=>?_⟩;obtain⟨kh,vs,T,jF,bB,ao,⟨aA,b9⟩,de,eL,gd,iv,n6,j7,n5⟩:=q6;obtain⟨D_,xB⟩:∃D_,B.get? C=some D_:=by obtain⟨o,_,_,q,_⟩:=lX;exact⟨o,q⟩
 have GX:a≠C:=fun z=>by rw[z,xB]at sq;cases sq
 have GR:T≠C:=fun z=>by rw[z,xB]at gd;cases gd
 have v7:h'.get? a=some kh:=(hs.2 a GX).trans ao;have v3:h'.get? T=some jF:=(hs.2 T GR).trans n6;unfold PySem.passOn;refine Vv (WA v7 de eL ?_);show VL M A (if(V2 T==Wr)=true then _ else _) _ _ _;rw[if_neg (show¬(V2 T==Wr)=true from fun z=>nomatch z)];refine Vv ?_;unfold setFlight;refine Vv (WA v7 de eL ?_);rw[if_pos (show(V2 T !=Wr)=true from rfl)];refine YA v3 j7 (Array.getElem?_eq_some_iff.mp n5).1 (wpAny_throw ?_);generalize(gF.frame.elim Wr fun f=>rawInt ↑f)=fl;have MW:C∉cZ X.stack:=fun z=>by rw[dF]at z;have:=(cT.mem z).1;rw[xB]at this;cases this
 have Cc:∀b o,(PySem.W.hideAll B [C]).get? b=some o→B.get? b=some o∧b≠C:=fun b o q=>⟨PySem.W.of_hideAll _ q,fun z=>by rw[z,PySem.W.hideAll_none _ (by simp)]at q;cases q⟩;have vV:∀b,B.get? b=none→(PySem.W.hideAll B [C]).get? b=none:=fun b q=>by
  cases e:(PySem.W.hideAll B [C]).get? b with
  |none=>rfl
  |some o=>rw[(Cc b o e).1]at q;cases q
 have qp:∀b o,B.get? b=some o→b≠C→(PySem.W.hideAll B [C]).get? b=some o:=fun b o q n=>PySem.W.hideAll_get _ q (by simpa using n);have ud:=F9 (f:=Xa fun x=>x.setIfInBounds 3 fl) v3 j7;have FT:∀b o,b≠C→h1.get? b=some o→(∀vs:Array Vw,o.data≠.fields vs)→(h'.update T (Xa fun x=>x.setIfInBounds 3 fl)).get? b=some o:=fun b o nb q n=>ud b o ((hs.2 b nb).trans q) n;have cA:(Xa (fun x=>x.setIfInBounds 3 fl) jF).data=.fields (bB.setIfInBounds 3 fl):=by obtain⟨c,d,dd,cb⟩:=jF;have j7:dd=.fields bB:=j7;subst j7;rfl
 have MT:(h'.update T (Xa fun x=>x.setIfInBounds 3 fl)).get? T=some (Xa (fun x=>x.setIfInBounds 3 fl) jF):=X6 _ v3 (Zp cA);have IA:∀b∈cZ X.stack,b≠C:=fun b J z=>MW (z▸J);refine⟨rfl,?_⟩;refine OV (base:=PySem.W.hideAll B [C]) (L:=X.env.locals) (K:=K) (a0:=a0) (fl:=fl) (by rw[gw,dF]) (B4 vV (fun b J o q n=>FT b o (IA b (by rw[dF];exact J)) q n) cT) g0 ⟨kh,vs,T,Xa (fun x=>x.setIfInBounds 3 fl) jF,bB.setIfInBounds 3 fl,by rw[WI _ _ iv];exact v7,⟨aA,b9⟩,de,eL,vV T gd,iv,MT,cA,by rw[Array.getElem?_setIfInBounds_self_of_lt (Array.getElem?_eq_some_iff.mp n5).1]⟩ (fun b o q=>?_) (vV a sq) fun iy eC fo=>?_
 ·obtain⟨aQ,a9⟩:=Cc b o q;have ne:T≠b:=fun z=>by rw[←z,gd]at aQ;cases aQ
  show(h'.update T _).get? b=some o;rw[WI _ _ ne,hs.2 b a9];exact c_ b o aQ
 ·have hO:∀b o,X.dP.heap.get? b=some o→b∉cZ X.outer→b∉cZ X.stack:=fun b o q n z=>by
    rw[dF]at z;rcases vQ g0 z with r|r
    ·subst r;exact absurd (VJ (VH q) I.ok.above) (Wi _)
    ·exact n r
  have wm:∀b,b∈cZ X.outer→b∈cZ X.stack:=fun b z=>by rw[dF];unfold cZ;rw[WJ,g0];exact VC _ z
  have d_:∀b,b∉X.ex:=fun b z=>by rw[hex]at z;cases z
  have oc:∀b o,X.dP.heap.get? b=some o→b∉aC:=fun b o q z=>by
   rcases(hf b z).2.2.2.1 with r|r
   ·exact d_ b r
   ·exact absurd (VJ (VH q) r) (Wi _)
  have qr:∀b o,X.dP.heap.get? b=some o→b≠C:=fun b o q z=>by obtain⟨bk,cq⟩:=I.base.there b o q (d_ b);rw[z,IP]at cq;cases cq
  refine fj (PySem.W.hideAll B [C]) _ ⟨os.trans I.os,bare,⟨?_,?_,?_,?_,fun b xs q=>un.fP b xs (I.base.fP b xs q),fun b o u q=>un.fA b o u (I.base.fA b o u q),?_⟩,eC,?_,?_,?_,ah⟩
  ·exact fun b o q n J _=>eC.1 b o (qp b o (old b o (I.base.keep b o q n J (d_ b)) (I.base.free b o q n (d_ b)) (hO b o q J) (oc b o q)) (qr b o q))
  ·intro b o q n J _;obtain⟨cb,aQ⟩:=I.base.slot b o q n J (d_ b);obtain⟨_,bk,cq,fZ⟩:=I.ok.gI.mem J;rw[q]at cq;cases cq;obtain⟨PK,a9⟩:=un.slot b _ aQ (I.base.free b o q n (d_ b)) (wm b J) (oc b o q);obtain⟨oZ,c5⟩:=jc b _ a9 fZ;obtain⟨PL,gj⟩:=fo b _ (FT b _ (qr b o q) c5 fZ) fZ;exact⟨PL,gj⟩
  ·intro b o q n _;obtain⟨bk,cq⟩:=I.base.there b o q (d_ b);exact un.free b bk cq (I.base.free b o q n (d_ b)) (oc b o q)
  ·intro b o q _;by_cases J:b∈cZ X.outer
   ·obtain⟨_,bk,cq,_⟩:=eC.2.2.1.mem J;exact⟨bk,cq⟩
   ·obtain⟨bk,cq⟩:=I.base.there b o q (d_ b);obtain⟨b2,a9⟩:=jP b bk cq (hO b o q J) (oc b o q);exact⟨b2,eC.1 b b2 (qp b b2 a9 (qr b o q))⟩
  ·intro b aP q;obtain⟨gz,ao⟩:=I.base.fN b aP q;obtain⟨g5,aA⟩:=un.fN b _ ao;exact⟨gz++g5,by rw[aA,XM]⟩
  ·exact fun b o q n J=>qp b o (old b o (I.base.keep b o q n J (d_ b)) (I.base.free b o q n (d_ b)) (hO b o q J) (oc b o q)) (qr b o q)
  ·intro b o q J;obtain⟨bk,cq⟩:=I.base.there b o q (d_ b);obtain⟨b2,a9⟩:=jP b bk cq (hO b o q J) (oc b o q);exact⟨b2,qp b b2 a9 (qr b o q)⟩
  ·exact dJ.part (X:=X) (s:={ s' with heap:=B }) bw fun b u bF q=>qp b u q fun z=>by rw[z,eP]at bF;cases bF
end
structure nR(X:aD)(E:cj):Prop where
 st:X.stack=X.env::X.outer
 fr:X.env.frame=some X.env.locals
 ex:X.ex=[]
 xe:∀e s',VL (VT X.prog X.w) X.A (aah X.env e) (fun _ eo=>dQ X.prog X.w X.outer X.iS X.dP E e eo) (fun bN eo=>dQ X.prog X.w X.outer X.iS X.dP E bN eo) s'→X.xe e s'
section
variable{X:aD}{elt target iter:V3}{ifs:List V3}{scope:WX}{pos:Pos}{N:List Str}{nl:Nat}{caps:List Nat}{fQ:TI}{g:gv}{er:TT}{cQ:TE}
theorem AQ {pins:List (VD×Obj)} {σ :St} {s2:Vx} {aM:ae} {it:VD} {aC:List VD} {eB:Nat→Wv→Prop} {br:It} {E:Vw→Vx→Prop} {Q:ae→Prop} {W:Nat→Nat→St→ae→Prop} {m0:Nat}{E0:cj} (ih:nR X E0) (S:hD X.env.scope X.N scope N nl caps) (aq:X.calm=true) (bT:Inv X pins σ aM s2) (T:Turn X.prog X.w X.K target br aC it eB) (gS:eB 0 s2.heap) (f2:∀b∈aC,ft X pins aM b)(aF:∀cl C s H aC,gu (f_ X E0 scope N cl C s H aC) target g) (bH:∀cl C s H aC,iV (f_ X E0 scope N cl C s H aC) ifs er) (he:∀cl C s H aC,a3 (f_ X E0 scope N cl C s H aC) elt cQ)(hB:W 0 m0 (iX nl caps σ) (upd aM s2.heap.objs.size (.lst [])))(turn:∀i m σ' H',W i m σ' H'→(br.stop i H'∧Q H')∨
    (br.go i H'∧∀x cy,br.hX i H' x cy→g x σ' cy fun σ2 fu=>er σ2 fu fun b fe=>
       if b=true then cQ σ2 fe fun y ko=>∃ys,ko s2.heap.objs.size=some (.lst ys)∧ys.length<VP∧∃ck,ck<m∧W (i+1) ck σ2 (upd ko s2.heap.objs.size (.lst (ys++[y])))
       else ∃ck,ck<m∧W (i+1) ck σ2 fe))
  (hH:Vw→VD→Result→Vx→Prop)
  (Cf:∀(C:VD) e s',(∃m,s'.heap.Ns C m∧∀h',Wm C s'.heap h'→∀gF:Env,gF.locals=C→VL (VT X.prog X.w) X.A (PySem.passOn "comprehension.variables-let-go" e gF:Sem Vw) (fun _ _=>False) X.xe { s' with heap:=h' })→hH (.ref s2.heap.objs.size) C (.error e) s')
  (vY:∀(C:VD) s' H',(∃m,s'.heap.Ns C m)→ft X pins H' C→(∀h',Wm C s'.heap h'→Inv X pins σ H' { s' with heap:=h' })→Q H'→hH (.ref s2.heap.objs.size) C (.ok .next) s') :
  VL (VT X.prog X.w) X.A (newList []) (fun acc jh=>VL (VT X.prog X.w) X.A (Yz scope X.env.globals (d8 X.env scope.names []) [] X.env.qual none .none (some X.env)) (fun gF o3=>
   X8 (VT X.prog X.w) X.A (.compStart (.ListComp elt [⟨target,iter,ifs,0⟩] scope pos) 0 (.ref it) acc { gF with scope:=X_ scope X.env }) (hH acc gF.locals) o3) E jh) E s2:=by
 have od:∀p∈scope.names,p.2=.free→∃c,X.env.cells.lookup p.1=some c:=fun p bf e=>by
  have q:=S.free p bf e;apply bT.ok.has p.1;show X.env.scope.names.lookup p.1=some .cell∨X.env.scope.names.lookup p.1=some .free;cases aA:X.env.scope.names.lookup p.1 with
  |none=>rw[aA]at q;cases q
  |some k=>
   rw[aA]at q
   cases k<;>first
    |exact .inl rfl
    |exact .inr rfl
    |cases q
 have ht:∀x,(d8 X.env scope.names []).lookup x=if(x,We)∈scope.names then X.env.cells.lookup x else none:=fun x=>vo scope.names [] od
 have IY:aM s2.heap.objs.size=none:=bT.bw.fresh (VG _);refine XY (D1 ?_);dsimp only;have c6:Inv X pins σ (upd aM s2.heap.objs.size (.lst [])) { s2 with heap:=s2.heap.push { cls:=.type "list",dict:=none,data:=.seq ([]:List Vw).toArray } }:=bT.ow (its:=[]) (ys:=[]) (t':=s2.toks) .nil (WK _);generalize mY:({ s2 with heap:=s2.heap.push { cls:=.type "list",dict:=none,data:=.seq ([]:List Vw).toArray } }:Vx)=s3 at c6;have mV:s2.heap.push { cls:=.type "list",dict:=none,data:=.seq ([]:List Vw).toArray }=s3.heap:=by rw[←mY]
 rw[mV];have q_:∀b o,s2.heap.get? b=some o→s3.heap.get? b=some o:=fun b o e=>by rw[←mV];exact Vy _ e
 have yA:s3.heap.objs.size=s2.heap.objs.size+1:=by rw[←mV,V_]
 have m3:=sa scope.names (s3.heap.objs.size+1) [] (d8 X.env scope.names []);have ok:=cellsFrom_ok scope.names (s3.heap.push { cls:=.type "dict",data:=.dict #[] }) (s3.heap.objs.size+1) [] ⟨fun _ _ hm=>(nomatch hm),YH⟩ (by rw[V_];exact VG _);have qC:=(Heap.Ns.new s3.heap (.type "dict")).keeps (Yk scope.names _);have kN:∀b o,s3.heap.get? b=some o→(Z8 (s3.heap.push { cls:=.type "dict",data:=.dict #[] }) scope.names).get? b=some o:=fun b o e=>Yk _ _ b o (Vy _ e);rw[V_]at ok;rw[Y_]at m3;rw[m3];generalize Z8 (s3.heap.push { cls:=.type "dict",data:=.dict #[] }) scope.names=gM at qC kN ok ⊢;have old:∀x c,X.env.cells.lookup x=some c→c<s3.heap.objs.size:=fun x c e=>by obtain⟨v,z⟩:=c6.cell x c e;exact z.lt
 have k0:∀x c,(Wc (s3.heap.objs.size+1) scope.names []++d8 X.env scope.names []).lookup x=some c→((x,c)∈Wc (s3.heap.objs.size+1) scope.names []∧scope.names.lookup x=some .cell∧s3.heap.objs.size<c∧gM.IsCell c none)∨X.env.cells.lookup x=some c:=fun x c e=>by
  rw[W6]at e;cases ao:(Wc (s3.heap.objs.size+1) scope.names []).lookup x with
  |some d3=>
   rw[ao]at e;have e:d3=c:=VM e;subst e;have m:=PySem.mem_of_lookup ao;rcases n0 _ _ _ m with z|z
   ·exact .inl ⟨m,S.uniq _ z,(ok.empty _ _ m).2,(ok.empty _ _ m).1⟩
   ·cases z
  |none=>
   rw[ao]at e;have e:(d8 X.env scope.names []).lookup x=some c:=e;rw[ht]at e
   split at e
   ·exact .inr e
   ·cases e
 have k2:∀x,(x,We)∈scope.names→(Wc (s3.heap.objs.size+1) scope.names []++d8 X.env scope.names []).lookup x=X.env.cells.lookup x:=fun x av=>by
  rw[W6];cases ao:(Wc (s3.heap.objs.size+1) scope.names []).lookup x with
  |some d3=>
   rcases n0 _ _ _ (PySem.mem_of_lookup ao)with z|z
   ·have aQ:=S.uniq _ z;have a9:=S.uniq _ av;dsimp only at aQ a9;rw[aQ]at a9;cases a9
   ·cases z
  |none=>show(d8 X.env scope.names []).lookup x=_;rw[ht,if_pos av]
 have k3:∀x,scope.names.lookup x=some .cell→∃c,(Wc (s3.heap.objs.size+1) scope.names []++d8 X.env scope.names []).lookup x=some c∧s3.heap.objs.size<c:=fun x av=>by obtain⟨c,e⟩:=r_ (n:=s3.heap.objs.size+1) av;exact⟨c,by rw[W6,e];rfl,(ok.empty _ _ (PySem.mem_of_lookup e)).2⟩
 have m2:∀x y c,(Wc (s3.heap.objs.size+1) scope.names []++d8 X.env scope.names []).lookup x=some c→(Wc (s3.heap.objs.size+1) scope.names []++d8 X.env scope.names []).lookup y=some c→x=y:=fun x y c h1 h2=>by
  rcases k0 x c h1 with a_|a_<;>rcases k0 y c h2 with a7|a7
  ·exact name_of_addr ok.apart a_.1 a7.1
  ·exact absurd (old y c a7) (Ya a_.2.2.1)
  ·exact absurd (old x c a_) (Ya a7.2.2.1)
  ·exact c6.ok.inj x y c a_ a7
 have k1:∀x c,(Wc (s3.heap.objs.size+1) scope.names []++d8 X.env scope.names []).lookup x=some c→X.env.cells.lookup x=some c∨(scope.names.lookup x=some .cell∧s3.heap.objs.size<c∧gM.IsCell c none):=fun x c e=>(k0 x c e).elim (fun z=>.inr z.2) .inl;generalize Wc (s3.heap.objs.size+1) scope.names []++d8 X.env scope.names []=cl at k0 k1 k2 k3 m2 ⊢;have qy:∀b∈aC,b<s2.heap.objs.size:=fun b J=>by obtain⟨o,e,_⟩:=T.obj 0 _ gS b J;exact VH e
 have d9:∀b∈aC,ft X pins (upd aM s2.heap.objs.size (.lst [])) b:=fun b J=>by obtain⟨a0,a1⟩:=f2 b J;exact⟨by rw[cY (VV (qy b J))];exact a0,a1⟩
 have mW:∀b∈aC,b<s3.heap.objs.size:=fun b J=>by rw[yA];exact XZ (qy b J)
 have loop:∀s4:Vx,s4={ s3 with heap:=gM }→
   X8 (VT X.prog X.w) X.A (.compLoop (.ListComp elt [⟨target,iter,ifs,0⟩] scope pos) 0 (.ref it) (.ref s2.heap.objs.size) (Zs scope cl s3.heap.objs.size X.env))
    (hH (.ref s2.heap.objs.size) s3.heap.objs.size) s4:=by
  intro s4 iA;have hc:Inv (f_ X E0 scope N cl s3.heap.objs.size s3 (upd aM s2.heap.objs.size (.lst [])) aC) [] (iX nl caps σ) (upd aM s2.heap.objs.size (.lst [])) s4:=
   (CL S c6 (by rw[iA];exact k1) k2 k3 m2 d9 mW (by rw[iA]) (by rw[iA]) ⟨_,by rw[iA];exact qC⟩ (by rw[iA];exact kN)).gT _
  have yC:eB 0 s4.heap:=T.keep 0 _ _ gS fun b J o e=>by rw[iA];exact kN b o (q_ b o e)
  generalize e1:f_ X E0 scope N cl s3.heap.objs.size s3 (upd aM s2.heap.objs.size (.lst [])) aC=B at hc;have stat:∀{H':ae},(∀b∈aC,H' b=none)→∀b∈aC,ft B [] H' b:=fun{H'} aK b J=>by
   subst e1;obtain⟨a0,a1,a2,eX,gV,ik⟩:=d9 b J;refine⟨aK b J,VV (mW b J),fun z=>?_,.inl J,fun x c e=>?_,fun p bf=>absurd (show p∈([]:List (VD×Obj))from bf) (by simp)⟩
   ·rcases List.mem_cons.mp (c6.rq b z)with q|q
    ·exact a1 q
    ·exact a2 q
   ·rcases k1 x c e with e|e
    ·exact gV x c e
    ·exact WV (Xt (mW b J) e.2.1)
  have wh:gu B target g:=by subst e1;exact aF _ _ _ _ _
  have wy:iV B ifs er:=by subst e1;exact bH _ _ _ _ _
  have wb:a3 B elt cQ:=by subst e1;exact he _ _ _ _ _
  have iZ:B.prog=X.prog:=by subst e1;rfl
  have gG:B.w=X.w:=by subst e1;rfl
  have p8:B.K=X.K:=by subst e1;rfl
  have sj:B.A=X.A:=by subst e1;rfl
  have lE:B.env=Zs scope cl s3.heap.objs.size X.env:=by subst e1;rfl
  have p9:B.calm=true:=by subst e1;exact aq
  have conv:∀e s',B.xe e s'→XO (VT X.prog X.w) X.A (Zs scope cl s3.heap.objs.size X.env) (fun e s1=>hH (.ref s2.heap.objs.size) s3.heap.objs.size (.error e) s1) e s':=fun e s' av=>by
   subst e1;obtain⟨a,GG,a0,Sg,H',rfl,f,gx⟩:=av;have z:=c6.HC (M:=VT X.prog X.w) (A:=X.A) (E:=fun bN eo=>dQ X.prog X.w X.outer X.iS X.dP E0 bN eo) (Q:=fun _ eo=>dQ X.prog X.w X.outer X.iS X.dP E0 (.ref a) eo) (α:=Vw) (scope:=scope) (cl:=cl) (what:="comprehension.variables-let-go") ih.st ih.fr ih.ex c6.ok.frames d9 (II _) f fun nD eo fl=>⟨a,GG,a0,nD,H',rfl,fl,gx⟩;unfold XO at z ⊢;refine V1 z (fun _ s1 q=>Cf _ _ s1 ?_) fun bN s1 q=>Cf _ _ s1 ?_
   ·obtain⟨m,c_,cT⟩:=q;exact⟨m,c_,fun h' hs gF ht=>V1 (cT h' hs gF ht) (fun _ _ w=>w) fun aA O7⟨jR,iK⟩=>ih.xe _ _ (by subst jR;exact iK)⟩
   ·obtain⟨m,c_,cT⟩:=q;exact⟨m,c_,fun h' hs gF ht=>V1 (cT h' hs gF ht) (fun _ _ w=>w) fun aA O7⟨jR,iK⟩=>ih.xe _ _ (by subst jR;exact iK)⟩
  rw[←iZ,←gG,←sj,←lE];refine AO (fun n s'=>∃i σ' H',Inv B [] σ' H' s'∧eB i s'.heap∧(∀b∈aC,H' b=none)∧W i n σ' H') ?_ m0 ⟨0,_,_,hc,yC,fun b J=>(d9 b J).1,hB⟩;rintro n s5 ⟨i,σ5,fe,iU,k4,mR,zb⟩;have away:∀{α:Type}{t:Sem α}{pI:α→Vx→Prop}{gR:Vx},VL (VT B.prog B.w) B.A t pI B.xe gR→VL (VT B.prog B.w) B.A t pI (XO (VT B.prog B.w) B.A B.env fun e s'=>hH (.ref s2.heap.objs.size) s3.heap.objs.size (.error e) s') gR:=fun h=>V1 h (fun _ _ q=>q) fun e s' z=>by rw[iZ,gG,sj,lE];exact conv e s' z
  rcases turn i n σ5 fe zb with⟨stop,q⟩|⟨go,step⟩
  ·have d:=T.done B iZ gG p8 p9 i [] s5 σ5 fe (XO (VT B.prog B.w) B.A B.env fun e s'=>hH (.ref s2.heap.objs.size) s3.heap.objs.size (.error e) s') iU (stat mR) k4 stop;rw[←iZ,←gG]at d;refine bA d fun r jK⟨aw,jr⟩=>?_;subst aw;refine vY _ jK fe ?_ (c6.mQ (VG _) ?_) (fun h' g4=>?_) q
   ·obtain⟨m,aK,_⟩:=jr.loc;rw[lE]at aK;exact⟨m,aK⟩
   ·have z:=jr.free;rw[lE]at z;exact z
   ·subst e1;exact CM c6 d9 (jr.gm) g4
  ·have d:=T.item B iZ gG p8 p9 i [] s5 σ5 fe (XO (VT B.prog B.w) B.A B.env fun e s'=>hH (.ref s2.heap.objs.size) s3.heap.objs.size (.error e) s') iU (stat mR) k4 go;rw[←iZ,←gG]at d;refine bA d fun r jK⟨u,aw,h6⟩=>?_;subst aw;refine bA h6 fun _ eM⟨x,eT,gD,fM,zo,ni,vP⟩=>?_;have uS:=gD.pinned (stat vP) (T.obj _ _ ni);refine away (bA (wh _ eM σ5 eT x u _ uS fM (step x eT zo)) fun _ tM⟨σ8,mw,uT,ki⟩=>?_);refine away (bA (wy _ tM σ8 mw _ uT ki) fun b kW⟨uO,pw,oS⟩=>?_);have again:∀{σa:St}{Ha:ae}{gR:Vx},Inv B ([]++oQ aC eM.heap) σa Ha gR→(∃ck,ck<n∧W (i+1) ck σa Ha)→∃m,m<n∧∃i σ' H',Inv B [] σ' H' gR∧eB i gR.heap∧(∀b∈aC,H' b=none)∧W i m σ' H':=fun{σa Ha gR} mx⟨ck,hm,zc⟩=>by
    refine⟨ck,hm,i+1,σa,Ha,mx.rx,T.keep _ _ _ ni fun b J o e=>(mx.pin (b,o) (VQ _ (VQ _ (oH J e)))).1,fun b J=>?_,zc⟩;obtain⟨o,e,d⟩:=T.obj _ _ ni b J;exact(mx.pin (b,o) (VQ _ (VQ _ (oH J e)))).2.1
   cases b with
   |false=>exact again pw oS
   |true=>show VL _ _ (WW elt B.env) _ _ kW;refine away (bA (wb _ kW σ8 uO _ pw oS) fun nA xP⟨y,ps,uQ,bX,ys,ah,bG,xA⟩=>?_);refine away (bA (xd _ xP σ8 ps (.ref s2.heap.objs.size) [y] (.ref s2.heap.objs.size) [nA] (fun _ pv=>pv=upd ps s2.heap.objs.size (.lst (ys++[y]))) uQ rfl (.cons bX .nil) ⟨_,ys,y,rfl,rfl,ah,bG,rfl⟩) fun _ O6⟨z,pv,uR,_,vu⟩=>?_);subst vu;exact again uR xA
 exact codeAny_compStart_list (loop _ (by rw[←mY])) (T.self X.A 0 _ _ _ (T.keep 0 _ _ gS fun b J o e=>kN b o (q_ b o e)) (loop _ (by rw[←mY])))
theorem NS{E0:cj}(ih:nR X E0)(S:hD X.env.scope X.N scope N nl caps)(aq:X.calm=true)(af:fG X target iter fQ)(aF:∀cl C s H aC,gu (f_ X E0 scope N cl C s H aC) target g)(bH:∀cl C s H aC,iV (f_ X E0 scope N cl C s H aC) ifs er)(he:∀cl C s H aC,a3 (f_ X E0 scope N cl C s H aC) elt cQ)(hs:∀x,V4 iter X.env x=pure x:=by intro _;rfl):a3 X (.ListComp elt [⟨target,iter,ifs,0⟩] scope pos) (nj fQ g er cQ nl caps):=by intro pins s σ H Q I h;rw[eval_ListComp];refine Xg (use:=none) rfl hs (sb (sI S I)) S.kind S.locs ?_;refine bA (af pins s σ H _ I h) fun v s1 h1=>bA h1 fun oo s2 h2=>?_;obtain⟨it,aC,eB,br,aM,e,bT,T,gS,f2,k⟩:=h2;subst e;obtain⟨W,⟨m0,hB⟩,turn⟩:=k s2.heap.objs.size (bT.bw.fresh (VG _));refine AQ (E0:=E0) ih (Q:=fun H'=>Q (.ref s2.heap.objs.size) H') S aq bT T gS f2 aF bH he hB turn (fun acc C=>compPost (VT X.prog X.w) X.A X.xe none (eS X pins σ Q) acc C) (fun C e s' q=>q) ?_;intro C s' H' aK _ gJ q;obtain⟨m,aK⟩:=aK;exact⟨m,aK,fun h' g4=>⟨.ref s2.heap.objs.size,H',gJ h' g4,rfl,q⟩⟩
theorem Om{i:Nat}{y:Str}{py rn:Pos}{E0:cj}(ih:nR X E0)(S:hD X.env.scope X.N scope N nl caps)(aq:X.calm=true)(bR:X.N.Nodup)(bO:X.N[i]?=some y)(ak:X.env.kindOf y=some .local)(af:fG X target iter fQ)(aF:∀cl C s H aC,gu (f_ X E0 scope N cl C s H aC) target g)(bH:∀cl C s H aC,iV (f_ X E0 scope N cl C s H aC) ifs er)(he:∀cl C s H aC,a3 (f_ X E0 scope N cl C s H aC) elt cQ)(iB:Xp (.ListComp elt [⟨target,iter,ifs,0⟩] scope pos) (some (.Name y py)) rn.line X.env=pure true:=by rfl)(hs:∀x,V4 iter X.env x=pure x:=by intro _;rfl):c7 X (.Assign [.Name y py] (.ListComp elt [⟨target,iter,ifs,0⟩] scope pos) rn) (k7 (nj fQ g er cQ nl caps) (hq i)):=by
 intro pins s σ H cf I h;rw[exec_Assign_Name_used _ _ _ _ iB];refine Vv (wpAny_standAt (Vv ?_));show VL _ X.A (do let _ ←comprehension (.ListComp elt [⟨target,iter,ifs,0⟩] scope pos) scope X.env _ (newList []) false (WW iter X.env) (some (YC (.Name y py) X.env))) _ _ s;refine Vv (V1 (Xg (use:=some (YC (.Name y py) X.env)) (Q:=fun _ s'=>j0 X pins cf .next s') rfl hs (sb (sI S I)) S.kind S.locs ?_) (fun _ s' aS=>VB (VB aS)) fun _ _ e=>e);refine bA (af pins s σ H _ I h) fun v s1 h1=>bA h1 fun oo s2 h2=>?_;obtain⟨it,aC,eB,br,aM,e,bT,T,gS,f2,k⟩:=h2;subst e;obtain⟨W,⟨m0,hB⟩,turn⟩:=k s2.heap.objs.size (bT.bw.fresh (VG _));refine AQ (E0:=E0) ih (Q:=fun H'=>cf.bJ (σ.set i (some (.ref s2.heap.objs.size))) H') S aq bT T gS f2 aF bH he hB turn (fun acc C=>compPost (VT X.prog X.w) X.A X.xe (some (YC (.Name y py) X.env)) (fun _ s'=>j0 X pins cf .next s') acc C) (fun C e s' q=>q) ?_;intro C s' H' aK eP gJ q;obtain⟨m,aK⟩:=aK;show VL _ X.A (YC (.Name y py) X.env (.ref s2.heap.objs.size)) _ _ s';have iT:Inv X pins σ H' s':=gJ s'.heap (YK _ _);refine YD (yE (v:=.ref s2.heap.objs.size) iT bR bO (.inl ak) (show RelV (V.ref _) _ from rfl) (fun eo uP wt=>?_) (.inr ak));obtain⟨a,wq,ah⟩:=wt;obtain⟨vm,bE,c9,eY,ip,pT⟩:=eP;have xg:C≠a:=by
  rcases ah with z|z
  ·rw[z];exact bE
  ·exact fun w=>ip y a z w.symm
 refine⟨m,aK.sameBut wq xg,fun h' g4=>?_⟩;exact⟨_,H',uP.turned (t':=eo.toks) (it:=C) (fun b o J e=>(g4.2 b J).trans e) vm bE eY ip pT,q⟩
end
end aY
namespace bo
open PySem PySem.Spec aY
noncomputable def n1(set:D→ar→R ar)(elt:aJ):List D→ar→List D→R (List D)
 |[],_,ws=>.ok ws
 |d::ds,ρ,ws=>(set d ρ).bind fun eD=>(elt eD).bind fun y=>if ws.length<1000000 then n1 set elt ds eD (ws++[y])else .bad
noncomputable def kR(nl:Nat)(caps:List Nat)(mi:aZ)(set:D→ar→R ar)(elt:aJ):aZ:=fun ρ=>(mi ρ).bind fun ds=>n1 set elt ds (ky nl caps ρ) []
def Rl(K:PySem.W.Frag)(E:cj)(m:aJ):TE:=fun σ H Q=>∃G0 H0,cJ (c8 K G0 H0 E) m σ H Q
theorem CH{K:PySem.W.Frag}{G0 H0:ae}{E:cj}{nl:Nat}{caps:List Nat}{mi:aZ}{set:D→ar→R ar}{elt:aJ}{g:gv}(aF:∀G H,jW (c8 K G H E) g set)(av:∀d ρ c,set d ρ≠.exc c)(aH:Keeps set) :
  eE (hA (c8 K G0 H0 E) (kR nl caps mi set elt)) (nj (jO (c8 K G0 H0 E) mi) g yQ (Rl K E elt) nl caps):=by
 rintro σ H Q ⟨G,ρ,r,h⟩;unfold kR at h;refine⟨G,ρ,r,?_⟩;cases ax:mi ρ with
 |bad=>rw[ax]at h;exact h.elim
 |exc c=>rw[ax]at h;exact h
 |ok ds=>
  rw[ax,R.bI]at h;intro br H1 aL au nr it acc ah;generalize dn:n1 set elt ds (ky nl caps ρ) []=res at h
  refine⟨fun i m σ2 aM=>m=ds.length-i∧i≤ds.length∧∃cC dv ys ws,Rel (c8 K aL H1 E) cC aM σ2 dv∧kr dv∧aM acc=some (.lst ys)∧cC acc=none∧aO K cC ws ys∧n1 set elt (ds.drop i) dv ws=res,
   ⟨ds.length,by simp,WK _,aL,_,[],[],(ES au ah nl caps).ho rfl rfl rfl,xi _ _ _,dI,au.aG.sub.gone ah,.nil,by simpa using dn⟩,?_⟩
  rintro i m σ2 aM ⟨rfl,af,cC,dv,ys,ws,bl,cT,h1,h2,h3,h4⟩;have a4:Sub aL cC:=bl.aG.eh;by_cases e9:i<ds.length
  ·refine .inr ⟨it.go i aM (a4.trans bl.aG.sub) e9,fun x cy y=>?_⟩;obtain⟨d,eN,b9,dp,hU,eX⟩:=jY.turn (F:=c8 K aL H1 E) it bl a4 e9 y;have d5:ds.drop i=d::ds.drop (i+1):=by
    rw[Xx e9];have:=Vz e9;rw[b9]at this;rw[VM this]
   rw[d5]at h4;simp only[n1]at h4;cases de:set d dv with
   |bad=>rw[de]at h4;subst h4;exact h.elim
   |exc c=>exact absurd de (av d dv c)
   |ok fp=>
    rw[de,R.bI]at h4;refine aF aL H1 σ2 dv eN cy x d _ fp dp eX de fun σ5 kj=>?_;have jc:kr fp:=aH d dv fp de cT;have nU:cy acc=some (.lst ys):=hU.h _ _ h1;have qj:eN acc=none:=by rw[hU.n acc (by rw[h1];exact fun z=>nomatch z)];exact h2
    have hK:aO K eN ws ys:=h3.mono hU.g;unfold yQ;dsimp only;rw[if_pos rfl];refine⟨aL,H1,eN,fp,kj,?_⟩;cases iv:elt fp with
    |bad=>rw[iv]at h4;subst h4;exact h.elim
    |exc c=>rw[iv]at h4;subst h4;exact fun G' H' k=>h G' H' (dV.of au k).aG
    |ok y=>
     rw[iv,R.bI]at h4;intro nA mw mv hy u8 pL;have u4:mw acc=some (.lst ys):=u8.h _ _ nU;have n9:mv acc=none:=by rw[u8.n acc (by rw[nU];exact fun z=>nomatch z)];exact qj
     by_cases ak:ws.length<1000000
     ·rw[if_pos ak]at h4;have pM:aO K mv ws ys:=hK.mono u8.g;refine⟨ys,u4,by rw[←pM.length];exact Xt ak (by decide),_,by omega,rfl,e9,mv,fp,ys++[nA],ws++[y],?_,jc,dI,n9,pM.snoc pL,h4⟩;have k0:(c8 K aL H1 E).H0 acc=none:=ah;refine⟨⟨Sub.ry hy.aG.sub n9,hy.aG.eh,fun c o z=>?_,hy.aG.new⟩,hy.len,fun j t z=>?_,fun j k b s s' o bk g_ _ _ _ f _=>absurd f (xt (jc j s g_) o b)⟩
      ·rw[cY (g6 z k0)];exact hy.aG.bF c o z
      ·obtain⟨o,a_,a7⟩:=hy.cb j t z;refine⟨o,a_,?_⟩;cases t with
       |un=>exact trivial
       |b4 d=>exact a7
       |bg es=>exact absurd (jc j _ z) (fun w=>nomatch w)
       |ed es=>exact absurd (jc j _ z) (fun w=>nomatch w)
     ·rw[if_neg ak]at h4;subst h4;exact h.elim
  ·have e:ds.drop i=[]:=XR (by omega);rw[e]at h4;simp only[n1]at h4;subst h4;have iw:i=ds.length:=by omega
   subst iw;refine .inl ⟨it.stop aM (a4.trans bl.aG.sub),?_⟩;have k:dV (c8 K aL H1 E) cC aM:=bl.aG;exact h acc ys aM cC (dV.of au k) (nr.trans ⟨k.eh,k.bF,k.new⟩) (nr.h.gone ah) h1 h2 h3
section
variable{X:aD}{bz iter elt:V3}{pos:Pos}{scope:WX}{N:List Str}{E:cj}{G0 H0:ae}{dX:aJ}
structure rE(X:aD)(E:cj)(scope:WX)(N:List Str)(bz:V3)(set:D→ar→R ar):Prop where
 g:∃g,(∀cl C s H aC,gu (f_ X E scope N cl C s H aC) bz g)∧∀F:bj,F.K=X.K→jW F g set
 bJ:∀d ρ c,set d ρ≠.exc c
 aG:Keeps set
theorem vk(i:Nat){x:Str}(bR:N.Nodup:=by decide+kernel)(af:N[i]?=some x:=by rfl)(ak:(X_ scope X.env).names.lookup x=some .local:=by rfl):rE X E scope N (.Name x pos) (dH i):=
 ⟨⟨hq i,fun cl C s H aC=>rf (X:=f_ X E scope N cl C s H aC) bR af (.inl ak) (.inr ak),fun F _=>qm i⟩,rl i,rk i⟩
theorem Hk(i j:Nat){x y:Str}{b1 py:Pos}{k:Nat}(aq:X.calm=true:=by rfl)(bR:N.Nodup:=by decide+kernel)(af:N[i]?=some x:=by rfl)(cV:N[j]?=some y:=by rfl)(ak:(X_ scope X.env).names.lookup x=some .local:=by rfl)(hm:(X_ scope X.env).names.lookup y=some .local:=by rfl) :
  rE X E scope N (.Tuple [.Name x b1,.Name y py] k pos) (l7 [dH i,dH j]):=by
 refine⟨⟨sy X.K 2 (qk (hq i) (qk (hq j) sx)),fun cl C s H aC=>?_,fun F i3=>?_⟩,Fd ?_,Fc ?_⟩
 ·exact Eo (X:=f_ X E scope N cl C s H aC) aq (xr (rf (X:=f_ X E scope N cl C s H aC) bR af (.inl ak) (.inr ak)) (xr (rf (X:=f_ X E scope N cl C s H aC) bR cV (.inl hm) (.inr hm)) Ep rfl) rfl) rfl rfl
 ·rw[←i3];exact B8 rfl (vS (qm i) (vS (qm j) B7))
 ·intro f hf;rcases List.mem_cons.mp hf with rfl|hf
  ·exact rl i
  ·rw[List.mem_singleton.mp hf];exact rl j
 ·intro f hf;rcases List.mem_cons.mp hf with rfl|hf
  ·exact rk i
  ·rw[List.mem_singleton.mp hf];exact rk j
abbrev zt(X:aD)(E:cj)(scope:WX)(N:List Str)(e:V3)(m:aJ):Prop:=∀cl C s H aC G0 H0,a8 (f_ X E scope N cl C s H aC) (c8 X.K G0 H0 E) e m
theorem zj(nl:Nat)(caps:List Nat){mi:aZ}{set:D→ar→R ar}(ih:nR X E)(S:lC X.env.scope X.N scope N nl caps=true)(af:j4 X (c8 X.K G0 H0 E) bz iter mi)(aF:rE X E scope N bz set)(he:zt X E scope N elt dX)(aq:X.calm=true:=by rfl)(hs:∀x,V4 iter X.env x=pure x:=by intro _;rfl):j3 X (c8 X.K G0 H0 E) (.ListComp elt [⟨bz,iter,[],0⟩] scope pos) (kR nl caps mi set dX):=by obtain⟨⟨g,g1,g2⟩,g3,gY⟩:=aF;exact⟨a3.imp (NS ih (.of S) aq af.1 g1 (fun _ _ _ _ _=>xx) (fun cl C s H aC pins s' σ H' ie I⟨aL,H1,h⟩=>(he cl C s H aC aL H1).1 pins s' σ H' ie I h) hs) (CH (fun G H=>g2 _ rfl) g3 gY)⟩
theorem RP(i:Nat)(nl:Nat)(caps:List Nat){y:Str}{py:Pos}{mi:aZ}{set:D→ar→R ar}{cpos:Pos}(ih:nR X E)(bR:X.N.Nodup)(S:lC X.env.scope X.N scope N nl caps=true)(af:j4 X (c8 X.K G0 H0 E) bz iter mi)(aF:rE X E scope N bz set)(he:zt X E scope N elt dX)(bO:X.N[i]?=some y:=by rfl)(ak:X.env.kindOf y=some .local:=by rfl)(iB:Xp (.ListComp elt [⟨bz,iter,[],0⟩] scope cpos) (some (.Name y py)) pos.line X.env=pure true:=by rfl)(aq:X.calm=true:=by rfl)(hs:∀x,V4 iter X.env x=pure x:=by intro _;rfl) :
  e7 X (c8 X.K G0 H0 E) (.Assign [.Name y py] (.ListComp elt [⟨bz,iter,[],0⟩] scope cpos) pos) (iF i (kR nl caps mi set dX)):=by
 obtain⟨⟨g,g1,g2⟩,g3,gY⟩:=aF;refine⟨c7.imp (t:=k7 (hA (c8 X.K G0 H0 E) (kR nl caps mi set dX)) (hq i)) ?_ wD⟩;exact c7.imp (Om ih (.of S) aq bR bO ak af.1 g1 (fun _ _ _ _ _=>xx) (fun cl C s H aC pins s' σ H' ie I⟨aL,H1,h⟩=>(he cl C s H aC aL H1).1 pins s' σ H' ie I h) iB hs) fun cf σ H h=>CH (fun G H=>g2 _ rfl) g3 gY σ H _ h
end
theorem uv{P:VR}{w:V9}{K:PySem.W.Frag}{mg:Str→Option Vw}{base:Wv}{N:List Str}{qual:Str}{scope:WX}{f:VD}{cd:Vw}{A:V0}{outer:List Env}{s0:Vx}{Ha:ae}{E:cj}:nR (d4 (dQ P w) P w K mg base N qual scope f cd A outer s0 Ha E) E:=⟨rfl,rfl,rfl,fun _ _ h=>h⟩
end bo
namespace aY
open PySem PySem.Spec PyProof.Rows
theorem NO{X:aD}{CX:hZ}{E:cj}{i:Nat}{x:Str}{p pos:Pos}{e:V3}{es:List V3}{t:eK}(BW:VD→hj→Prop)(i3:∀f sp,BW f sp→∃k fd aP,gs X.prog X.w X.K X.mg X.base CX k f fd aP sp∧dg k X.A∧PySem.W.keepIn X.K (.ref f)=true∧Binds X.K fd aP [])(bR:X.N[i]?=some x)(bS:hJ X.env.scope x)(av:Passes CX X E)(ah:e6 X (e::es) t)(hd:(x==("__debug__" :Str))=false)(ei:(x==("__classdict__" :Str))=false)(he:VA (e::es) X.env=(false,WW e X.env)::VA es X.env)(cI:(Wu pos (VA es X.env)).any (·.1)=false) :
  a3 X (.Call (.Name x p) (e::es) [] pos) (fun σ H Q=>∃f sp,σ[i]?=some (some (.ref f))∧BW f sp∧o4 sp [] E t σ H Q):=by
 rintro pins s σ H Q I ⟨f,sp,ev,hf,h⟩;obtain⟨k,fd,aP,F,aw,aH,J⟩:=i3 f sp hf;refine W5 (V1 (nf bR bS hd ei pins s σ H (fun v H1=>v=.ref f∧H1=H) I ⟨.ref f,ev,rfl,rfl⟩) (fun u s1⟨v,H1,aW,au,aQ⟩=>?_) fun _ _ z=>z);obtain⟨rfl,rfl⟩:=aQ;have au:u=.ref f:=au;subst au;refine PySem.W.callWith_K (h₀:=X.base) I.ok.mod.kd aH (bA (ah pos pins s1 σ H1 _ aW h) fun us s2⟨vs,aM,bT,r,q⟩=>⟨bT.ej,?_⟩) he cI;exact xN F aw J .nil av bT r q
end aY
namespace bo
open PySem PySem.Spec aY
structure kn(K:PySem.W.Frag)(mg:Str→Option Vw)(x:Str):Prop where
 ex:∃f,mg x=some (.ref f)∧dE K x f
abbrev Tab:=Str→Option (List D→R cc)
structure lp(P:VR)(w:V9)(K:PySem.W.Frag)(mg:Str→Option Vw)(base:Wv)(k:Nat)(tab:Tab):Prop where
 ok:∀x mf,tab x=some mf→(∃j,j≤k∧fT P w K mg base x 1 j mf)∧kn K mg x
noncomputable def AS(tab:Tab)(m:aZ)(ρ:ar):Option dx→R D
 |some (.b4 (.fn x))=>match tab x with
  |some mf=>cN 1 mf m ρ
  |none=>.bad
 |_=>.bad
def oz(i:Nat)(tab:Tab)(m:aZ):aJ:=fun ρ=>AS tab m ρ ρ[i]?
section
variable{X:aD}{F:bj}{e:V3}{es:List V3}{pos p:Pos}{ma:aZ}{E:cj}{G0 H0:ae}
theorem nx{x:Str}(c:kn X.K X.mg x)(aX:F.K=X.K:=by rfl)(aF:da X x:=by rfl)(hd:(x==("__debug__" :Str))=false:=by decide):a8 X F (.Name x pos) (aj (.fn x)):=by obtain⟨f,hm,aq⟩:=c.ex;refine⟨a3.imp (xp (v:=.ref f) aF hm rfl hd) ?_⟩;rintro σ H Q ⟨G,ρ,r,h⟩;exact h _ H G r (b3.refl _ _) (by simp only[At];exact⟨f,[],rfl,by rw[aX];exact aq,rfl⟩)
theorem gU{x:Str}{n k:Nat}{mf:List D→R cc}(bf:Passes (dQ X.prog X.w) X E)(c:fT X.prog X.w X.K X.mg X.base x n k mf)(aw:dg k X.A)(ah:eW X (c8 X.K G0 H0 E) (e::es) ma)(aF:da X x:=by rfl)(e2:(x==("__debug__" :Str))=false:=by decide)(he:VA (e::es) X.env=(false,WW e X.env)::VA es X.env:=by rfl)(cI:(Wu pos (VA es X.env)).any (·.1)=false:=by rfl) :
  a8 X (c8 X.K G0 H0 E) (.Call (.Name x p) (e::es) [] pos) (cN n mf ma):=by
 obtain⟨qc,fd,aP,aK,gH,hm,aH,J⟩:=c.ex;exact⟨a3.imp (tG gH aw aF hm aH J .nil bf ah.1 e2 he cI) (sS (F:=c8 X.K G0 H0 E) (xe:=nv X.K) (E:=E) rfl)⟩
theorem um(i:Nat){y:Str}{k:Nat}{tab:Tab}(bf:Passes (dQ X.prog X.w) X E)(T:lp X.prog X.w X.K X.mg X.base k tab)(aw:dg k X.A)(ah:eW X (c8 X.K G0 H0 E) (e::es) ma)(bR:X.N[i]?=some y:=by rfl)(bS:hJ X.env.scope y:=by first|exact XA rfl|exact W8 (XA rfl)|exact W8 (W8 rfl))(hd:(y==("__debug__" :Str))=false:=by decide)(ei:(y==("__classdict__" :Str))=false:=by decide)(he:VA (e::es) X.env=(false,WW e X.env)::VA es X.env:=by rfl)(cI:(Wu pos (VA es X.env)).any (·.1)=false:=by rfl) :
  a8 X (c8 X.K G0 H0 E) (.Call (.Name y p) (e::es) [] pos) (oz i tab ma):=by
 refine⟨a3.imp (NO (fun f sp=>∃x mf,tab x=some mf∧dE X.K x f∧sp=kZ X.K 1 (nv X.K) mf) (fun f sp⟨x,mf,bH,aq,hs⟩=>?_) bR bS bf ah.1 hd ei he cI) ?_⟩
 ·subst hs;obtain⟨⟨j,cV,Lm⟩,IE⟩:=T.ok x mf bH;obtain⟨qc,fd,aP,aK,gH,hm,aH,J⟩:=Lm.ex;obtain⟨f2,sL,ka⟩:=IE.ex;have ao:f2=qc:=by rw[hm]at sL;cases sL;rfl
  have aA:f2=f:=by unfold dE at aq ka;rw[aq]at ka;cases ka;rfl
  subst ao aA;exact⟨j,fd,aP,gH,aw.mono cV,aH,J⟩
 ·rintro σ H Q ⟨G,ρ,r,h⟩;unfold oz at h;cases dn:ρ[i]? with
  |none=>rw[dn]at h;exact h.elim
  |some s=>
   rw[dn]at h;cases s with
   |un=>exact h.elim
   |bg _=>exact h.elim
   |ed _=>exact h.elim
   |b4 d=>
    cases d with
    |fn x=>
     simp only[AS]at h;obtain⟨v,ev,bc⟩:=r.b4 dn;simp only[At]at bc;obtain⟨a,_,rfl,aq,_⟩:=bc;cases p_:tab x with
     |none=>rw[p_]at h;exact h.elim
     |some mf=>rw[p_]at h;exact⟨a,_,ev,⟨x,mf,p_,aq,rfl⟩,sS (F:=c8 X.K G0 H0 E) (xe:=nv X.K) (E:=E) rfl σ H Q ⟨G,ρ,r,h⟩⟩
    |_=>exact h.elim
end
noncomputable def OS:V→List V→ae→cD→Prop:=fun x vs H Q=>∃a b,x=.str a∧vs=[.str b]∧(b.length==0)=false∧a.length≤VP∧(XQ a b).length≤VP∧∀p,H p=none→Q (.ref p) (upd H p (.lst ((XQ a b).map V.str)))
theorem Gf:∀(xs:List Str)(n:Nat),Vals (xs.map V.str) (strsFrom n xs)
 |[],_=>.nil
 |x::xs,n=>.cons ⟨_,rfl⟩ (Gf xs (n+1))
theorem My{X:aD}:uY X "str.split" OS:=by
 intro pins s σ H x vs v us Q I bu b_ h;obtain⟨a,b,rfl,rfl,h0,h1,h2,q⟩:=h;obtain⟨t,rfl⟩:=bu;obtain⟨u,rfl,eR⟩:=vals1 b_;obtain⟨t',rfl⟩:=eR;have tJ:=q s.heap.objs.size (I.bw.fresh (VG _));have one:XQ a b=[a]→listOfItself a t X.A (wants (eS X pins σ Q) X.xe) s:=fun e=>by rw[e]at tJ;exact⟨.ref s.heap.objs.size,_,I.ow (its:=[.str a t]) (ys:=[.str a]) (t':=s.toks) (.cons ⟨t,rfl⟩ .nil) (show 1≤VP by decide),rfl,tJ⟩
 by_cases bE:(decide (a.length<b.length)||decide (Z0 a<Z0 b))=true
 ·exact Yi PySem.F.slot_str_split rfl PySem.F.entry_str_split (PySem.F.args_str_split_2 _ _) (meets_str_split_cannot_occur a b t t' bE) (one (by unfold XQ;rw[if_pos bE]))
 ·have AI:=Bool.eq_false_iff.mpr bE;by_cases c9:(WS a b 0 a.length (a.length+1)).isEmpty=true
  ·exact Yi PySem.F.slot_str_split rfl PySem.F.entry_str_split (PySem.F.args_str_split_2 _ _) (meets_str_split_not_found a b t t' AI h0 c9) (one (by unfold XQ;rw[if_neg bE,if_pos c9]))
  ·have e:XQ a b=Builtin.Str.partsBetween a (WS a b 0 a.length (a.length+1)) b.length:=by unfold XQ;rw[if_neg bE,if_neg c9]
   rw[e]at h2 tJ;refine Yi PySem.F.slot_str_split rfl PySem.F.entry_str_split (PySem.F.args_str_split_2 _ _) (meets_str_split_sep a b t t' AI h0 (Bool.eq_false_iff.mpr c9) h1 h2) ?_;exact⟨.ref s.heap.objs.size,_,I.ow (Gf _ _) (by rw[Wq];exact h2),rfl,tJ⟩
noncomputable def Fh(a:Str):D→R (List D)
 |.str b=>if(b.length==0)=false∧a.length≤1000∧(XQ a b).length≤1000 then .ok ((XQ a b).map .str)else .bad
 |_=>.bad
def Fj(n:aJ)(ρ:ar):D→R (List D)
 |.str a=>(n ρ).bind (Fh a)
 |_=>.bad
def wX(m n:aJ):aZ:=fun ρ=>(m ρ).bind (Fj n ρ)
theorem zX{K:PySem.W.Frag}{G:ae}:∀xs:List Str,aO K G (xs.map .str) (xs.map V.str)
 |[]=>.nil
 |x::xs=>.cons (by simp only[At]) (zX xs)
section
variable{X:aD}{F:bj}{o e:V3}{m n:aJ}
theorem RM {apos cpos:Pos} (aB:a8 X F o m) (he:a8 X F e n)(kF:Xj o "split" X.env (WW o X.env)=WW o X.env:=by rfl) (kJ:(apos.endLine==cpos.line)=true:=by rfl)(kG:((Wu cpos (VA [e] X.env)).all (fun x=>!x.1)&&(Yt cpos (Xs [] X.env)).all (fun x=>x.1.isSome)
    &&decide (([e]:List V3).length+([]:List Yy).length+(if([]:List Yy).isEmpty then 0 else 1)<30))=true:=by rfl)
  (hs:VA [e] X.env=(false,WW e X.env)::VA [] X.env:=by rfl) (kK:(Wu cpos (VA [] X.env)).any (·.1)=false:=by rfl) :
  j3 X F (.Call (.Attribute o "split" apos) [e] [] cpos) (wX m n):=by
 refine⟨a3.imp (tF PySem.F.plainAttrs_str PySem.F.slot_str_split PySem.F.type_str_split My aB.1 (jG he.1 l0 hs) kF kG kJ hs kK) ?_⟩;rintro σ H Q ⟨G,ρ,r,h⟩;unfold wX at h;refine⟨G,ρ,r,?_⟩;cases ax:m ρ with
 |bad=>rw[ax]at h;exact h.elim
 |exc c=>rw[ax]at h;exact h
 |ok d=>
  rw[ax,R.bI]at h;intro v H1 aL au s1 bc;cases d with
  |str a=>
   simp only[Fj]at h;simp only[At]at bc;subst bc;refine⟨rfl,aL,ρ,au,?_⟩;cases bx:n ρ with
   |bad=>rw[bx]at h;exact h.elim
   |exc c=>rw[bx]at h;exact h
   |ok ct=>
    rw[bx,R.bI]at h;intro v2 aM cC bl s2 zZ;cases ct with
    |str b=>
     simp only[At]at zZ;subst zZ;simp only[Fh]at h;by_cases aq:(b.length==0)=false∧a.length≤1000∧(XQ a b).length≤1000
     ·rw[if_pos aq]at h;refine⟨a,b,rfl,rfl,aq.1,V7 aq.2.1 (by decide),V7 aq.2.2 (by decide),fun p bf=>?_⟩;exact h p _ _ cC (bl.lay0 bf) ((s1.trans s2).trans (b3.lay0 bf)) ((s1.h.trans s2.h).gone bf) dI (bl.aG.sub.gone bf) (zX _)
     ·rw[if_neg aq]at h;exact h.elim
    |_=>exact h.elim
  |_=>exact h.elim
end
noncomputable def te(bt:Str)(n:Nat)(mf:List D→R (List Str×List D))(ma:aZ):aJ:=fun ρ=>(ma ρ).bind fun ds=>if ds.length=n then(mf ds).bind fun x=>.ok (.ins bt x.1 x.2)else .bad
section
variable{X:aD}{e:V3}{es:List V3}{pos p:Pos}{ma:aZ}{E:cj}{G0 H0:ae}
theorem Kd{K:PySem.W.Frag}{bt:Str}{n:Nat}{mf:List D→R (List Str×List D)}{C:VD}(eP:dE K bt C):eE (cJ (c8 K G0 H0 E) (te bt n mf ma)) (yK C (rm K bt n mf) [] E (eb (c8 K G0 H0 E) ma)):=by
 rintro σ H Q ⟨G,ρ,r,h⟩;unfold te at h;refine⟨G,ρ,r,?_⟩;cases ax:ma ρ with
 |bad=>rw[ax]at h;exact h.elim
 |exc c=>rw[ax]at h;exact h
 |ok ds=>
  rw[ax,R.bI]at h;intro vs H1 aL au s1 bc x a5 av mT ne;by_cases aK:ds.length=n
  ·rw[if_pos aK]at h;rw[WD];have kX:=DR (C:=C) av mT;have xQ:Sub aL (upd (upd H1 a5 (.own x)) x (.ins C a5 [])):=au.aG.sub.trans (kX.trans (vq _ _));refine⟨aL,x,C,a5,ds,vs,rfl,eP,dI,au.aG.sub.gone av,xQ,bc,aK,?_⟩;have Cb:∀{G' H':ae},dV (c8 K aL (del (upd (upd H1 a5 (.own x)) x (.ins C a5 [])) x) E) G' H'→Rel (c8 K G0 H0 E) G' H' σ ρ:=fun k=>au.grow k.eh k.sub (kX.trans k.bF) fun b J=>k.new b (kX.some J);cases em:mf ds with
   |bad=>rw[em]at h;exact h.elim
   |exc c=>rw[em]at h;exact fun G' H' k=>h G' H' (Cb k).aG
   |ok y=>obtain⟨ns,es'⟩:=y;rw[em,R.bI]at h;intro p7 xs G' H' k g1 g2 g3 gY;refine⟨rfl,?_⟩;have bF:Sub H1 H':=kX.trans k.bF;have nw:∀b,H1 b≠none→G' b=aL b:=fun b J=>k.new b (kX.some J);have no:¬dq H' σ ρ x:=dq.fresh au bF av;refine h (.ref x) H' _ ((Cb k).take g2 g1 (au.aG.bF.gone av) no) ((s1.trans ⟨k.eh,bF,nw⟩).put (s1.h.gone av) g1) ?_;simp only[At];exact⟨x,p7,xs,rfl,⟨C,eP,dI⟩,g3,gY.mono (Sub.upd g1)⟩
  ·rw[if_neg aK]at h;exact h.elim
theorem Rz{bt:Str}{n k:Nat}{mf:List D→R (List Str×List D)}(bf:Passes (dQ X.prog X.w) X E)(c:rQ X.prog X.w X.K X.mg X.base bt n k mf)(aw:dg (k+1) X.A)(ah:eW X (c8 X.K G0 H0 E) (e::es) ma)(aF:da X bt:=by rfl)(e2:(bt==("__debug__" :Str))=false:=by decide)(he:VA (e::es) X.env=(false,WW e X.env)::VA es X.env:=by rfl)(cI:(Wu pos (VA es X.env)).any (·.1)=false:=by rfl):a8 X (c8 X.K G0 H0 E) (.Call (.Name bt p) (e::es) [] pos) (te bt n mf ma):=by obtain⟨C,f,fd,aP,bE,c9,gH,hm,J⟩:=c.ex;exact⟨a3.imp (Em c9 gH aw aF hm J .nil bf ah.1 e2 he cI) (Kd bE)⟩
end
noncomputable def u5(i:Nat)(ρ:ar)(d:D):Option dx→R fq
 |some (.b4 (.int a))=>match d with
  |.int b=>(dH i (.int (a+b)) ρ).bind fun bC=>.ok (.bJ bC)
  |_=>.bad
 |_=>.bad
def wV(i:Nat)(m:aJ):bp:=fun ρ=>(gO (m ρ)).bind fun d=>u5 i ρ d ρ[i]?
section
variable{X:aD}{F:bj}{e:V3}{pos:Pos}{m:aJ}
theorem RN(i:Nat){x:Str}{p:Pos}(bR:X.N.Nodup)(he:a8 X F e m)(af:X.N[i]?=some x:=by rfl)(av:Loc X.env.scope x:=by first|exact XA rfl|exact W8 rfl)(hf:X.fn x=true∨X.env.scope.names.lookup x=some .local:=by first|exact .inl rfl|exact .inr rfl):e7 X F (.AugAssign (.Name x p) .Add e pos) (wV i m):=by
 refine⟨c7.imp (Oj bR af av he.1 KL hf) ?_⟩;rintro cf σ H ⟨G,ρ,r,h⟩;unfold wV at h;cases ax:m ρ with
 |bad=>rw[ax]at h;exact h.elim
 |exc c=>rw[ax]at h;exact h.elim
 |ok d=>
  rw[ax]at h;replace h:gy F G cf (u5 i ρ d ρ[i]?):=h;cases dn:ρ[i]? with
  |none=>rw[dn]at h;exact h.elim
  |some s=>
   rw[dn]at h;cases s with
   |un=>exact h.elim
   |bg _=>exact h.elim
   |ed _=>exact h.elim
   |b4 HH=>
    cases HH with
    |int a=>
     cases d with
     |int b=>
      simp only[u5]at h;obtain⟨v,ev,bc⟩:=r.b4 dn;simp only[At]at bc;subst bc;refine⟨.int a,ev,G,ρ,r,?_⟩;rw[ax];intro w H1 aL au s1 j5;simp only[At]at j5;subst j5;refine⟨a,b,rfl,rfl,?_⟩;unfold dH at h;by_cases ak:i<ρ.length
      ·rw[if_pos ak,R.bI]at h;exact h _ aL H1 (au.set ak (by simp only[At])) s1.g
      ·rw[if_neg ak]at h;exact h.elim
     |_=>exact h.elim
    |_=>exact h.elim
end
end bo
namespace aY
open PySem PySem.Spec PyProof.Rows
theorem Gx{z TI bL bY bM l bD:VD}(ap:u2 z TI bL bY bM)(kT:∀b∈[z,TI,bL,bY,bM],l≠b)(nl:∀b∈[z,TI,bL,bY,bM],bD≠b):nT z TI bL bY bM [bY,l] [bM,bD]:=by
 refine⟨ap.TIz,ap.TOz,ap.TITO,ap.TIi1,ap.TIi2,ap.TOi1,ap.TOi2,ap.i1z,ap.i2z,ap.i12,?_,?_,?_,?_,?_,?_⟩<;>simp only[aad,Yb,or_false,not_or]
 ·exact⟨ap.i1z.symm,(kT z (by simp)).symm⟩
 ·exact⟨ap.TOi1,(kT bL (by simp)).symm⟩
 ·exact⟨ap.i12.symm,(kT bM (by simp)).symm⟩
 ·exact⟨ap.i2z.symm,(nl z (by simp)).symm⟩
 ·exact⟨ap.TOi2,(nl bL (by simp)).symm⟩
 ·exact⟨ap.i12,(nl bY (by simp)).symm⟩
theorem D3{X:aD}{pins:List (VD×Obj)}{σ :St}{H:ae}{s:Vx}{l b:VD}{xs:List V}{L:List VD}(I:Inv X pins σ H s)(hf:∀b∈L,ft X pins H b)(J:b∈L)(aS:cz X.K H l xs):l≠b:=fun q=>by
 subst q;rcases aS with(h|⟨o,h⟩)|⟨o,qJ,n,h,_⟩
 ·rw[(hf l J).1]at h;cases h
 ·rw[(hf l J).1]at h;cases h
 ·have h1:=I.ok.mod.kd l o h;rcases(hf l J).2.2.2.1 with q|q
  ·exact I.ok.lZ l o h1 q
  ·exact absurd (VJ (VH (I.ok.bs l o h1).1) q) (Wi _)
theorem D2{X:aD}{pins:List (VD×Obj)}{σ :St}{H:ae}{s:Vx}{l b:VD}{xs:List V}{L:List VD}(I:Inv X pins σ H s)(hf:∀b∈L,ft X pins H b)(J:b∈L)(aS:bQ X.K H l xs):l≠b:=fun q=>by
 subst q;rcases aS with(h|⟨o,h⟩)|⟨o,qJ,n,h,_⟩
 ·rw[(hf l J).1]at h;cases h
 ·rw[(hf l J).1]at h;cases h
 ·have h1:=I.ok.mod.kd l o h;rcases(hf l J).2.2.2.1 with q|q
  ·exact I.ok.lZ l o h1 q
  ·exact absurd (VJ (VH (I.ok.bs l o h1).1) q) (Wi _)
abbrev uD(h:Wv)(l:VD):Wv:=h.push { cls:=.type "tuple_iterator",data:=.fields #[.ref l,.int 0 0] }
abbrev uE(h:Wv)(l bD:VD):Wv:=(uD h l).push { cls:=.type "list_iterator",data:=.fields #[.ref bD,.int 0 0] }
abbrev uF(h:Wv)(l bD:VD):Wv:=(uE h l bD).push { cls:=.type "tuple",data:=.seq #[.ref h.objs.size,.ref (uD h l).objs.size] }
abbrev uG(h:Wv)(l bD:VD):Wv:=(uF h l bD).push { cls:=.type "tuple",data:=.seq #[.none,.none] }
abbrev nB(h:Wv)(l bD:VD):Wv:=(uG h l bD).push { cls:=.type "zip",data:=.fields #[.none,.bool false,.bool false,.ref (uE h l bD).objs.size,.ref (uF h l bD).objs.size] }
set_option maxHeartbeats 4000000 in
theorem Mr(l bD:VD)(xs ys:Array Vw) :
  Meets (aal.«zip.__new__» ⟨[.type "zip",.ref l,.ref bD],[]⟩) (fun _ R s=>s.heap.IsTuple l xs∧s.heap.IsList bD ys∧R (.ok (.ret (.ref (uG s.heap l bD).objs.size))) { s with heap:=nB s.heap l bD }):=
 .of_wp fun prog w A R s h=>by
   obtain⟨bf,g,d,cK,os⟩:=s;obtain⟨ak,qx,h⟩:=h;have kL:=sub_zip;have IS:Heap.IsList (Shared.heap ⟨bf.push { cls:=.type "tuple_iterator",data:=.fields #[.ref l,.int 0 0] },g,d,cK,os⟩) bD ys:=Heap.IsList.push qx _
   wp_walk using wpAny_pyIter_tuple ak,XU IS
   exact⟨_,rfl,h⟩
theorem Hv {prog:VR} {w:V9} {A:V0} {E:Vw→Vx→Prop} {s:Vx} {l bD:VD} {xs ys:Array Vw} {Q:Vw→Vx→Prop} (ak:s.heap.IsTuple l xs) (qx:s.heap.IsList bD ys)(h:∀h',ZY h' (s.heap.objs.size+4) (s.heap.objs.size+2) (s.heap.objs.size+3) .none→Xy h' (s.heap.objs.size+2) (.ref s.heap.objs.size) (.ref (s.heap.objs.size+1))→
    Xy h' (s.heap.objs.size+3) .none .none→h'.IsTupleIter s.heap.objs.size l 0→h'.IsListIter (s.heap.objs.size+1) bD 0→h'.objs.size=s.heap.objs.size+5→
    (∀c o,s.heap.get? c=some o→h'.get? c=some o)→Q (.ref (s.heap.objs.size+4)) { s with heap:=h' }) :
  VL (VT prog w) A (call (.type "zip") [.ref l,.ref bD]) Q E s:=by
 refine callType_new F.called_zip (by decide) (F.typeCall_zip_2 _ _) (F.newCall_zip_2 _ _) (fun obj=>F.args_object_init_3 obj _ _) F.entry_zip_new (Mr l bD xs ys) ⟨ak,qx,?_⟩;have a_:(uD s.heap l).objs.size=s.heap.objs.size+1:=V_ ..;have a7:(uE s.heap l bD).objs.size=s.heap.objs.size+2:=by rw[V_,a_]
 have pb:(uF s.heap l bD).objs.size=s.heap.objs.size+3:=by rw[V_,a7]
 have rD:(uG s.heap l bD).objs.size=s.heap.objs.size+4:=by rw[V_,pb]
 have R_:(nB s.heap l bD).objs.size=s.heap.objs.size+5:=by rw[V_,rD]
 have n8:(nB s.heap l bD).get? (uG s.heap l bD).objs.size=some _:=VN _ rfl;have gY:(nB s.heap l bD).get? (uF s.heap l bD).objs.size=some _:=Vy _ (VN _ rfl);have g3:(nB s.heap l bD).get? (uE s.heap l bD).objs.size=some _:=Vy _ (Vy _ (VN _ rfl));have g2:(nB s.heap l bD).get? (uD s.heap l).objs.size=some _:=Vy _ (Vy _ (Vy _ (VN _ rfl)));have g1:(nB s.heap l bD).get? s.heap.objs.size=some _:=Vy _ (Vy _ (Vy _ (Vy _ (VN _ rfl))));show _∧_;rw[a7,pb,rD]at n8;rw[a_,a7]at g3;rw[pb]at gY;rw[a_]at g2;rw[rD];exact⟨⟨_,n8,rfl⟩,h _ n8 g3 gY ⟨_,g1,rfl,rfl⟩ ⟨_,g2,rfl,rfl⟩ R_ fun c o x=>
  Vy _ (Vy _ (Vy _ (Vy _ (Vy _ x))))⟩
noncomputable def uX(K:PySem.W.Frag)(l bD:VD):It:=⟨fun i H=>∃xs x ys y,cz K H l xs∧xs[i]?=some x∧bQ K H bD ys∧ys[i]?=some y,
 fun i H v H'=>∃p x y,H p=none∧H'=upd H p (.tup [x,y])∧v=.ref p∧(∀xs,cz K H l xs→xs[i]?=some x)∧∀ys,bQ K H bD ys→ys[i]?=some y,
 fun i H=>∃xs ys,cz K H l xs∧bQ K H bD ys∧i=min xs.length ys.length⟩
theorem Q3{P:VR}{w:V9}{K:PySem.W.Frag}{elts:List V3}{df:Nat}{pos:Pos}(l bD z TI bL bY bM:VD)(ap:u2 z TI bL bY bM) :
  Turn P w K (.Tuple elts df pos) (uX K l bD) [z,TI,bL,bY,bM] z (fun i h=>ZY h z TI bL .none∧Xy h TI (.ref bY) (.ref bM)∧(∃a b,Xy h bL a b)∧h.IsTupleIter bY l i∧h.IsListIter bM bD i) where
 mem:=by simp
 obj:=fun i h st b J=>by
  obtain⟨bG,gL,⟨a,fw,gZ⟩,⟨cG,ao,bE,d1⟩,b2,aA,c9,ct⟩:=st;have J:b=z∨b=TI∨b=bL∨b=bY∨b=bM:=by simpa using J
  rcases J with q|q|q|q|q<;>subst q
  ·exact⟨_,bG,fun v z=>by have gq:Data.fields _=aau v:=z;cases gq⟩
  ·exact⟨_,gL,fun v z=>by have gq:Data.seq _ _=aau v:=z;cases gq⟩
  ·exact⟨_,gZ,fun v z=>by have gq:Data.seq _ _=aau v:=z;cases gq⟩
  ·exact⟨cG,ao,fun v z=>by rw[d1]at z;cases z⟩
  ·exact⟨b2,aA,fun v z=>by rw[ct]at z;cases z⟩
 keep:=fun i h h' st k=>by obtain⟨bG,gL,⟨a,fw,gZ⟩,⟨cG,ao,au⟩,b2,aA,bl⟩:=st;exact⟨k z (by simp) _ bG,k TI (by simp) _ gL,⟨a,fw,k bL (by simp) _ gZ⟩,⟨cG,k bY (by simp) _ ao,au⟩,b2,k bM (by simp) _ aA,bl⟩
 item:=by
  intro X dW hw aX aq i pins s σ H E I hf st aF;subst dW hw aX;obtain⟨xs,x,ys,y,og,av,aS,bO⟩:=aF;obtain⟨fX,tL,qD,JR⟩:=I.tuple og;obtain⟨its,b_,bH,JQ⟩:=I.list aS;obtain⟨bG,gL,⟨a,fw,gZ⟩,sP,fW⟩:=st;have nl:∀b∈[z,TI,bL,bY,bM],bD≠b:=fun b J=>D2 I hf J aS;have kT:∀b∈[z,TI,bL,bY,bM],l≠b:=fun b J=>D3 I hf J og;have bF:X.A.in1.handled=none:=I.ok.hd aq;have gr:=A2 (prog:=X.prog) (w:=X.w) (A:=X.A.in1) bF bY l (kT bY (by simp)) fX.toArray;have f5:=Draws.list (prog:=X.prog) (w:=X.w) (A:=X.A.in1) bF bM bD (nl bM (by simp)) its.toArray;have hlen:=b_.length;have wi:=tL.length;have qw:i<ys.length:=(List.getElem?_eq_some_iff.mp bO).1;have Je:i<xs.length:=(List.getElem?_eq_some_iff.mp av).1;have r5:nT z TI bL bY bM [bY,l] [bM,bD]:=Gx ap kT nl;refine OL gr f5 r5 bG gL gZ ⟨sP,qD⟩ ⟨fW,bH.isList⟩ (by rw[VE,←wi];exact Je) (by rw[VE,←hlen];exact qw) fun nr FY h' cK eQ bZ a1 a2 eX gV ik hK aH=>?_;obtain⟨iJ,oi,O2⟩:=tL.get av;have ev:iJ=nr:=by rw[Zq]at eQ;rw[oi]at eQ;exact VM eQ
  subst ev;obtain⟨jQ,JO,eR⟩:=b_.get bO;have vF:jQ=FY:=by rw[Zq]at bZ;rw[JO]at bZ;exact VM bZ
  subst vF;refine⟨_,rfl,?_⟩;refine wpAny_letOwnedTupleGo_zip a1 fun h2 JT oh=>?_;have Qf:∀b∈[z,TI,bL,bY,bM],b<s.heap.objs.size:=fun b J=>by
   have J:b=z∨b=TI∨b=bL∨b=bY∨b=bM:=by simpa using J
   obtain⟨cG,ao,_⟩:=sP;obtain⟨b2,aA,_⟩:=fW;rcases J with q|q|q|q|q<;>subst q
   ·exact VH bG
   ·exact VH gL
   ·exact VH gZ
   ·exact VH ao
   ·exact VH aA
  have DX:∀b∈[z,TI,bL,bY,bM],b≠s.heap.objs.size:=fun b J=>VV (Qf b J);have keep:∀b o,b∉[z,bL,bY,bM]→s.heap.get? b=some o→h2.get? b=some o:=fun b o J q=>by have J:¬(b=z∨b=bL∨b=bY∨b=bM):=fun w=>J (by simpa using w);exact oh.extBut b o (fun w=>J (.inl w)) (aH b o (fun w=>J (.inl w)) (fun w=>J (.inr (.inl w))) (fun w=>J (.inr (.inr (.inl w)))) (fun w=>J (.inr (.inr (.inr w)))) q)
  have JL:aaa h2 s.heap.objs.size ([iJ,jQ]:List Vw).toArray:=⟨_,oh.extBut _ _ (DX z (by simp)).symm ik,rfl,_,rfl⟩;have aK:H s.heap.objs.size=none:=I.bw.fresh (VG _);have bT:Inv X pins σ (upd H s.heap.objs.size (.tup [x,y])) { s with heap:=h2,toks:=cK }:=I.QY (its:=[iJ,jQ]) (ch:=[z,bL,bY,bM]) keep (fun b J=>hf b (by
   have J:b=z∨b=bL∨b=bY∨b=bM:=by simpa using J
   rcases J with q|q|q|q<;>simp[q])) (VG _) JL (.cons O2 (.cons eR .nil)) (by show 2≤VP;decide)
  refine⟨.ref s.heap.objs.size,_,bT,rfl,⟨s.heap.objs.size,x,y,aK,rfl,rfl,fun zs wA=>by rw[I.y1 wA og];exact av,fun zs wA=>by rw[I.wO wA aS];exact bO⟩,?_,fun b J=>?_⟩
  ·refine⟨JT,oh.extBut _ _ ap.TIz (aH _ _ ap.TIz ap.TITO ap.TIi1 ap.TIi2 gL),⟨_,_,oh.extBut _ _ ap.TOz a2⟩,?_,?_⟩
   ·obtain⟨⟨cG,ao,au⟩,_⟩:=eX;exact⟨cG,oh.extBut _ _ ap.i1z ao,au⟩
   ·obtain⟨⟨b2,aA,bl⟩,_⟩:=gV;exact⟨b2,oh.extBut _ _ ap.i2z aA,bl⟩
  ·rw[cY (DX b J)];exact(hf b J).1
 done:=by
  intro X dW hw aX aq i pins s σ H E I hf st aF;subst dW hw aX;obtain⟨xs,ys,og,aS,af⟩:=aF;obtain⟨fX,tL,qD,JR⟩:=I.tuple og;obtain⟨its,b_,bH,JQ⟩:=I.list aS;obtain⟨bG,gL,⟨a,fw,gZ⟩,sP,fW⟩:=st;have nl:∀b∈[z,TI,bL,bY,bM],bD≠b:=fun b J=>D2 I hf J aS;have kT:∀b∈[z,TI,bL,bY,bM],l≠b:=fun b J=>D3 I hf J og;have bF:X.A.in1.handled=none:=I.ok.hd aq;have gr:=A2 (prog:=X.prog) (w:=X.w) (A:=X.A.in1) bF bY l (kT bY (by simp)) fX.toArray;have f5:=Draws.list (prog:=X.prog) (w:=X.w) (A:=X.A.in1) bF bM bD (nl bM (by simp)) its.toArray;have hlen:=b_.length;have wi:=tL.length;refine OK gr f5 (Gx ap kT nl) bG gL gZ ⟨sP,qD⟩ ⟨fW,bH.isList⟩ ?_ fun h' cK df=>⟨rfl,I.y2 (ch:=[z,bL,bY,bM]) (fun b o J q=>?_) fun b J=>hf b ?_⟩
  ·have es:its.toArray.size=its.length:=by simp
   have Ie:fX.toArray.size=fX.length:=by simp
   rw[es,Ie,←hlen,←wi];omega
  ·have J:¬(b=z∨b=bL∨b=bY∨b=bM):=fun w=>J (by simpa using w);exact df b o (fun w=>J (.inl w)) (fun w=>J (.inr (.inl w))) (fun w=>J (.inr (.inr (.inl w)))) (fun w=>J (.inr (.inr (.inr w)))) q
  ·have J:b=z∨b=bL∨b=bY∨b=bM:=by simpa using J
   rcases J with q|q|q|q<;>simp[q]
 self:=fun A i s Q E st h=>wpAny_pyIter_zip st.1 h
section
variable{X:aD}{elts:List V3}{df:Nat}{o7:Pos}
noncomputable def CD(K:PySem.W.Frag)(cg:eK):TI:=fun σ H R=>cg σ H fun vs H1=>∃l bD,vs=[.ref l,.ref bD]∧(∃xs,cz K H1 l xs)∧(∃ys,bQ K H1 bD ys)∧R (uX K l bD) H1
theorem Sa{pins:List (VD×Obj)}{σ :St}{H:ae}{s:Vx}{n b:VD}(I:Inv X pins σ H s)(aK:n=s.heap.objs.size)(J:b∈[n+4,n+2,n+3,n,n+1]):ft X pins H b:=by
 subst aK;have J:s.heap.objs.size≤b:=by
  have J:b=s.heap.objs.size+4∨b=s.heap.objs.size+2∨b=s.heap.objs.size+3∨b=s.heap.objs.size∨b=s.heap.objs.size+1:=by simpa using J
  rcases J with q|q|q|q|q
  ·rw[q];exact W4 _ _
  ·rw[q];exact W4 _ _
  ·rw[q];exact W4 _ _
  ·rw[q];exact VG _
  ·rw[q];exact W4 _ _
 exact I.mQ J (I.bw.fresh J)
theorem Ob{a b:V3}{cg:eK}{p pos:Pos}(aF:da X "zip")(hm:X.mg "zip"=none)(ah:e6 X [a,b] cg)(hs:VA [a,b] X.env=[(false,WW a X.env),(false,WW b X.env)]:=by rfl)(fW:VA [b] X.env=[(false,WW b X.env)]:=by rfl) :
  fG X (.Tuple elts df o7) (.Call (.Name "zip" p) [a,b] [] pos) (CD X.K cg):=by
 have J:WH "zip"=some (.type "zip"):=by kernel_rfl
 intro pins s σ H R I h;refine PyProof.Rows.Call_ (qN I aF hm J (Xq (bA (ah pos pins s σ H _ I h) fun us s1⟨vs,H1,aW,au,aQ⟩=>?_) (by rw[hs,fW]) (by rw[fW];rfl)));obtain⟨l,bD,e,⟨xs,av⟩,⟨ys,bO⟩,q⟩:=aQ;subst e;obtain⟨u,FY,rfl,eR,O0⟩:=vals2 au;cases eR;cases O0;obtain⟨fX,_,qD,_⟩:=aW.tuple av;obtain⟨its,_,bH,_⟩:=aW.list bO;refine Hv (show s1.heap.IsTuple l fX.toArray from qD) bH.isList fun h' a1 a2 eX gV ik hK aH=>?_;have bT:Inv X pins σ H1 { s1 with heap:=h' }:=aW.kept (t':=s1.toks) aH;refine wpAny_pyIter_zip a1 ?_;exact⟨s1.heap.objs.size+4,[s1.heap.objs.size+4,s1.heap.objs.size+2,s1.heap.objs.size+3,s1.heap.objs.size,s1.heap.objs.size+1],_,_,H1,rfl,bT,Q3 l bD _ _ _ _ _ (Se s1.heap.objs.size),⟨a1,a2,⟨_,_,eX⟩,gV,ik⟩,fun b J=>Sa aW rfl J,q⟩
end
end aY
namespace bo
open PySem PySem.Spec aY PyProof.Rows
section
variable{X:aD}{F:bj}{a b:V3}{pos p:Pos}{ma:aZ}
def zip2(xs ys:List D):List D:=(xs.zip ys).map fun p=>.tup [p.1,p.2]
def Gy:List D→R (List D)
 |[.cX xs,.lst ys]=>.ok (zip2 xs ys)
 |_=>.bad
theorem KS{K:PySem.W.Frag}{G:ae}{l bD:VD}{ds es:List D}{xs ys:List V}(h:cz K G l xs)(q:aO K G ds xs)(h2:bQ K G bD ys)(a9:aO K G es ys):jY K (uX K l bD) (zip2 ds es) G where
 go:=fun i H s af=>by
  have af:i<min ds.length es.length:=by simpa[zip2]using af
  obtain⟨v,ao,_⟩:=q.get (Vz (show i<ds.length by omega));obtain⟨u,aA,_⟩:=a9.get (Vz (show i<es.length by omega));exact⟨xs,v,ys,u,cz.mono s h,ao,bQ.mono s h2,aA⟩
 hX:=fun i H v H' s af z=>by
  obtain⟨p,x,y,bf,rfl,rfl,av,bO⟩:=z;obtain⟨d,ao,a1⟩:=q.sz (av xs (cz.mono s h));obtain⟨e,aA,a2⟩:=a9.sz (bO ys (bQ.mono s h2));refine⟨.tup [d,e],?_,.inr ⟨p,_,_,bf,rfl,rfl,rfl,.cons a1 (.cons a2 .nil)⟩⟩;unfold zip2;rw[VW];have Il:(ds.zip es)[i]?=some (d,e):=by rw[List.getElem?_zip_eq_some];exact⟨ao,aA⟩
  rw[Il];rfl
 stop:=fun H s=>⟨xs,ys,cz.mono s h,bQ.mono s h2,by simp[zip2,q.length,a9.length]⟩
def tc(m:aZ):aZ:=fun ρ=>(m ρ).bind Gy
theorem Ky(aX:F.K=X.K):nN (jO F (tc ma)) (CD X.K (eb F ma)):=by
 rintro σ H Q ⟨G,ρ,r,h⟩;unfold tc at h;refine⟨G,ρ,r,?_⟩;cases ax:ma ρ with
 |bad=>rw[ax]at h;exact h.elim
 |exc c=>rw[ax]at h;exact h
 |ok ds=>
  rw[ax,R.bI]at h;intro vs H1 aL au s1 al;unfold Gy at h
  split at h
  ·obtain⟨v,w,rfl,bc,j5⟩:=al.two;simp only[At]at bc j5;obtain⟨l,xs,rfl,aS,fI⟩:=bc;obtain⟨bD,ys,rfl,Cs,G7⟩:=j5;rw[aX]at aS;have k1:=cz.mono au.aG.sub aS;have k2:=bQ.of (K:=X.K) (au.aG.sub _ _ Cs);refine⟨l,bD,rfl,⟨_,k1⟩,⟨_,k2⟩,?_⟩;rw[←aX];exact h _ H1 aL au s1 (KS (by rw[aX];exact aS) fI (bQ.of Cs) G7)
  ·exact h.elim
theorem R3{elts:List V3}{k:Nat}{yW:Pos}(hm:X.mg "zip"=none)(ah:eW X F [a,b] ma)(aX:F.K=X.K:=by rfl)(aF:da X "zip":=by rfl)(hs:VA [a,b] X.env=[(false,WW a X.env),(false,WW b X.env)]:=by rfl)(fW:VA [b] X.env=[(false,WW b X.env)]:=by rfl) :
  j4 X F (.Tuple elts k yW) (.Call (.Name "zip" p) [a,b] [] pos) (tc ma):=⟨fG.imp (Ob aF hm ah.1 hs fW) (Ky aX)⟩
end
end bo
namespace aY
open PySem PySem.Spec PyProof.Rows
section
variable{prog:VR}{w:V9}{A:V0}{E:Vw→Vx→Prop}{s:Vx}{a:VD}{o:Obj}{es:Array DictEntry}{b7:Nat}{k:Str}{cK:Tok}
def lR(es:Array DictEntry)(k:Str):Option Vw:=(es.toList.find? fun e=>e.key.isStr k).map (·.val)
theorem CV{Q:Option Vw→Vx→Prop}(aB:s.heap.get? a=some o)(hd:o.data=.dict es b7)(kD:(es.all fun e=>YV e.key)=true)(h:Q (lR es k) { s with toks:=s.toks+1 }) :
  VL (VT prog w) A (dictGet a (.str k cK)) Q E s:=by
 unfold dictGet
 try with_reducible refine WU ?_
 refine Vv (wpAny_pyHash_str (Vv (KTD.kt_dictFind_strs (s:={ s with toks:=s.toks+1 }) aB hd kD ?_)));have hf:findBy (fun k v=>v.isStr k) es k=lR es k:=by obtain⟨l⟩:=es;simp[findBy,lR]
 rw[←hf,findBy_of_findIdx?]at h;cases af:es.findIdx? fun e=>e.key.isStr k with
 |none=>rw[af]at h;exact VB h
 |some i=>rw[af]at h;exact Vv (wpAny_dictEntries (s:={ s with toks:=s.toks+1 }) aB hd (VB h))
theorem La{Q:Vw→Vx→Prop}(hs:(a==W3)=false)(aB:s.heap.get? a=some o)(aq:o.ExactDict)(hd:o.data=.dict es b7)(kD:(es.all fun e=>YV e.key)=true)(h:Q (.bool (!(lR es k).isSome)) { s with toks:=s.toks+1 }):VL (VT prog w) A (Wn .NotIn (.str k cK) (.ref a)) Q E s:=by
 have ty:s.TypeIs (.ref a) "dict":=⟨o,aB,aq.1⟩;show VL _ _ (do return .bool (!(←contains (.ref a) (.str k cK)))) Q E s;refine Vv ?_;unfold contains
 try with_reducible refine WU ?_
 refine Vv (Za ty F.slot_dict_contains.lookup ?_);show VL _ _ (if(some (Value.builtin "dict.__contains__")==some Wr)=true then _ else _) _ E s;rw[if_neg (by rw[beq_builtin_none];exact VZ)];refine Vv (wpAny_callSpecialUnlessNone?_slot (name:=X5 "__contains__") ty F.slot_dict_contains (Xl F.slot_dict_contains ty F.entry_dict_contains ?_ (args_dict_contains _ _)));show VL _ _ (dictGet a (.str k cK)>>=_) _ _ s;refine Vv (CV aB hd kD ?_);cases q:lR es k with
 |some v=>rw[q]at h;show VL _ _ (ret (.bool true)) _ _ _;exact VB ⟨_,rfl,V8 (VB h)⟩
 |none=>rw[q]at h;show VL _ _ (Builtin.Dict.pendingKey? a (.str k cK)>>=_) _ _ _;exact Vv (wpAny_pendingKey_other hs (VB ⟨_,rfl,V8 (VB h)⟩))
theorem kd_item{Q:Vw→Vx→Prop}{v:Vw}(aB:s.heap.get? a=some o)(aq:o.ExactDict)(hd:o.data=.dict es b7)(kD:(es.all fun e=>YV e.key)=true)(bS:lR es k=some v)(h:Q v { s with toks:=s.toks+1 }):VL (VT prog w) A (aai (.ref a) (.str k cK)) Q E s:=by
 have ty:s.TypeIs (.ref a) "dict":=⟨o,aB,aq.1⟩;unfold aai
 try with_reducible refine WU ?_
 refine Vv (wpAny_sequenceKey ty (by decide) ?_);refine Vv (WT (name:=X5 "__getitem__") ty F.slot_dict_getitem (Xl F.slot_dict_getitem ty F.entry_dict_getitem ?_ (args_dict_getitem _ _)));show VL _ _ (dictGet a (.str k cK)>>=_) _ _ s;refine Vv (CV aB hd kD ?_);rw[bS];exact VB ⟨v,rfl,VB h⟩
end
end aY
namespace bo
open PySem PySem.Spec aY PyProof.Rows
structure rJ(K:PySem.W.Frag)(x:Str)(tab:List (Str×D)):Prop where
 ex:∃a es b7,dE K x a∧(a==W3)=false∧K.lookup a=some ⟨.type "dict",none,.dict es b7,#[]⟩∧KTD.Rows (fun d v=>∃c,v=.ref c∧∀G,At K G d (.ref c)) es.toList tab
noncomputable def sg(x:Str)(tab:List (Str×D)):D→D→R D
 |.str k,.fn y=>if y=x then .ok (.aU (!(Yq k tab).isSome))else .bad
 |_,_=>.bad
noncomputable def p4(x:Str)(tab:List (Str×D)):D→D→R D
 |.fn y,.str k=>if y=x then(match Yq k tab with|some d=>.ok d|none=>.bad)else .bad
 |_,_=>.bad
section
variable{X:aD}{F:bj}{a b:V3}{m n:aJ}{pos:Pos}{x:Str}{tab:List (Str×D)}
theorem kd_all{K:PySem.W.Frag}{es:Array DictEntry}(h:KTD.Rows (fun d v=>∃c,v=.ref c∧∀G,At K G d (.ref c)) es.toList tab):(es.all fun e=>YV e.key)=true:=by obtain⟨l⟩:=es;simpa using h.exact
noncomputable def EG(K:PySem.W.Frag)(x:Str)(tab:List (Str×D)):d7:=fun v y H Q=>∃k a,v=.str k∧y=.ref a∧dE K x a∧Q (.aU (!(Yq k tab).isSome)) H
noncomputable def EF(K:PySem.W.Frag)(x:Str)(tab:List (Str×D)):d7:=fun v y H Q=>∃k a d,v=.ref a∧y=.str k∧dE K x a∧Yq k tab=some d∧∀c,(∀G,At K G d (.ref c))→Q (.ref c) H
theorem Nt(T:rJ X.K x tab):dw X (Wn .NotIn) (EG X.K x tab):=by
 intro pins s σ H v y u f3 Q I bu bX h;obtain⟨k,a,rfl,rfl,aq,q⟩:=h;obtain⟨t,rfl⟩:=bu;obtain rfl:f3=V2 a:=bX;obtain⟨ij,es,b7,hN,hs,ak,aw⟩:=T.ex;have e:ij=a:=by unfold dE at aq hN;rw[aq]at hN;cases hN;rfl
 subst e;refine La hs (I.ej _ _ ak) ⟨rfl,rfl,rfl⟩ rfl (kd_all aw) ⟨.aU _,H,I.tok _,rfl,?_⟩;have mM:(lR es k).isSome=(Yq k tab).isSome:=by
  unfold lR;cases hd:Yq k tab with
  |some d=>obtain⟨v,bS,_⟩:=aw.find_some hd;rw[bS];rfl
  |none=>rw[aw.find_none hd];rfl
 rw[mM];exact q
theorem Nh(aX:F.K=X.K):fF F (EG X.K x tab) (sg x tab):=by
 intro σ ρ G H v y a5 fh Q r bV cS k;unfold sg at k
 split at k
 ·rename_i k' Gw
  split at k
  ·rename_i e;subst e;simp only[At]at bV cS;obtain⟨f,_,rfl,aq,_⟩:=cS;rw[aX]at aq;exact⟨k',f,bV,rfl,aq,k _ H G r (b3.refl _ _) (by simp only[At])⟩
  ·exact k.elim
 ·exact k.elim
theorem Ng(aX:F.K=X.K):fF F (EF X.K x tab) (p4 x tab):=by
 intro σ ρ G H v y a5 fh Q r bV cS k;unfold p4 at k
 split at k
 ·rename_i Gw k'
  split at k
  ·rename_i e;subst e;simp only[At]at bV cS;obtain⟨f,_,rfl,aq,_⟩:=bV;rw[aX]at aq
   split at k
   ·rename_i d d5;exact⟨k',f,d,rfl,cS,aq,d5,fun c hN=>k _ H G r (b3.refl _ _) (by rw[aX];exact hN G)⟩
   ·exact k.elim
  ·exact k.elim
 ·exact k.elim
theorem RY(T:rJ X.K x tab)(ah:a8 X F a m)(J:a8 X F b n)(aX:F.K=X.K:=by rfl)(hm:Wd .NotIn b=false:=by with_unfolding_all rfl):eO X F (.Compare a [.NotIn] [b] pos) (b5 (aE (sg x tab) m n)):=⟨o6 (Nt T) (Nh aX) ah.1 J.1 hm⟩
theorem Gj(T:rJ X.K x tab)(ah:a8 X F a m)(J:a8 X F b n)(hs:zC b:=by intro _ _;rfl)(aX:F.K=X.K:=by rfl):a8 X F (.Subscript a b pos) (aE (p4 x tab) m n):=by
 refine⟨a3.imp (t:=o5 (EF X.K x tab) (cJ F m) (cJ F n)) ?_ (qG (Ng aX))⟩;intro pins s σ H Q I h;refine Qd PySem.F.slot_dict_getitem.lookup hs (bA (ah.1 pins s σ H _ I h) fun u s1⟨v,H1,aW,bu,aQ⟩=>bA (J.1 pins s1 σ H1 _ aW aQ) fun mZ s2⟨y,aM,bT,bX,a9⟩=>?_);obtain⟨k,a,d,rfl,rfl,aq,hd,q⟩:=a9;obtain rfl:u=V2 a:=bu;obtain⟨t,rfl⟩:=bX;obtain⟨ij,es,b7,hN,_,ak,aw⟩:=T.ex;have e:ij=a:=by unfold dE at aq hN;rw[aq]at hN;cases hN;rfl
 subst e;obtain⟨v,bS,c,rfl,gw⟩:=aw.find_some hd;exact⟨⟨_,bT.ej _ _ ak,rfl⟩,kd_item (bT.ej _ _ ak) ⟨rfl,rfl,rfl⟩ rfl (kd_all aw) bS ⟨.ref c,aM,bT.tok _,rfl,q c gw⟩⟩
theorem il{K:PySem.W.Frag}{G:ae}{y:Str}{f:VD}(h:dE K y f):At K G (.fn y) (.ref f):=by simp only[At];exact⟨f,[],rfl,h,rfl⟩
theorem iH(c:VD):RelV (.ref c) (.ref c):=rfl
end
end bo
namespace cR
open PySem PySem.Spec aY bo
noncomputable def top(i:Nat):WO:=PySem.Challenge.pw_nohalfway_k52_texts_refused.main.body.getD i (.Pass ⟨0,0,0,0⟩)
abbrev x6:WO:=top 13
abbrev x7:WO:=top 14
abbrev xU:WO:=top 18
abbrev x1:WO:=top 19
abbrev xY:WO:=top 20
abbrev x8:WO:=top 21
abbrev xX:WO:=top 22
abbrev xR:WO:=inClass (top 23) 0
abbrev yn:WO:=top 41
abbrev xZ:WO:=top 42
abbrev yl:WO:=top 43
abbrev ym:WO:=top 46
abbrev xW:WO:=top 47
abbrev yu:WO:=top 48
abbrev yj:WO:=top 50
abbrev x2:WO:=top 27
abbrev yo:WO:=top 45
abbrev yk:WO:=top 44
abbrev yq:WO:=top 51
abbrev yi:WO:=top 49
abbrev xV:WO:=top 52
abbrev yt:WO:=top 53
abbrev x5:WO:=top 31
abbrev x3:WO:=top 32
abbrev yp:WO:=top 54
abbrev xS:WO:=inClass (top 23) 5
abbrev xT:WO:=inClass (top 23) 6
abbrev x4:WO:=top 34
abbrev yr:WO:=top 56
abbrev yb:WO:=top 60
abbrev yf:WO:=top 67
abbrev ya:WO:=top 61
abbrev yd:WO:=top 62
abbrev x9:WO:=top 63
abbrev ye:WO:=top 64
abbrev yg:WO:=top 65
abbrev yh:WO:=top 66
abbrev x_:WO:=top 58
abbrev yc:WO:=top 59
abbrev l6:WO:=top 68
noncomputable def t6:List (Str×D):=[("comes",.cX [.fn "pattern_read",.fn "door_read",.fn "door_read"]),("leaves",.cX [.fn "pattern_read",.fn "door_read"]),("noring",.cX [.fn "pattern_read",.fn "door_read"]),("by",.cX [.fn "pattern_read",.fn "door_read",.fn "number_read"]),("never",.cX [.fn "pattern_read",.fn "door_read",.fn "number_read"])]
def pU:D:=.str (PySem.Str.ofString "any")
def pV:D:=.str (PySem.Str.ofString "drop")
def pW:D:=.str (PySem.Str.ofString "0123456789")
def pX:D:=.int 4
def pY:D:=.int 3
def pZ:D:=.int 6
def p0:D:=.int 40
def p1:D:=.str (PySem.Str.ofString "-")
noncomputable def p2:D:=.cX [.str (PySem.Str.ofString "0"),.str (PySem.Str.ofString "1"),.str (PySem.Str.ofString "x")]
def kA:D:=.cX [.str (PySem.Str.ofString "wait")]
def p3:D:=.cX [.int 8,.int 4,.int 2,.int 1]
structure u1(K:PySem.W.Frag)(mg:Str→Option Vw):Prop where
 Bw:di K mg "is_whole" x6 ["thing"]
 Bx:di K mg "is_whole_within" x7 ["thing","least","greatest"]
 Bl:di K mg "are_counts" xU ["thing"]
 Br:di K mg "is_pair" x1 ["thing"]
 Bp:di K mg "is_door_among" xY ["counts","thing"]
 By:di K mg "is_wire_among" x8 ["counts","thing"]
 Bo:di K mg "far_doors" xX ["counts","wires"]
 Bi:InK K mg "Net" "Net.__init__" xR ["self","counts","wires"]
 BO:di K mg "parted" yn ["text","between"]
 Bq:di K mg "is_number" xZ ["text"]
 BM:di K mg "number_read" yl ["text"]
 BN:di K mg "pair_read" ym ["text","between","read"]
 Bn:di K mg "door_read" xW ["text"]
 BV:di K mg "wire_read" yu ["text"]
 BK:di K mg "net_read" yj ["text"]
 Bs:di K mg "is_pattern" x2 ["thing"]
 BP:di K mg "pattern_read" yo ["text"]
 BL:di K mg "number_or_none_read" yk ["text","word"]
 BR:di K mg "row_read" yq ["text"]
 BJ:di K mg "list_read" yi ["text","read"]
 Bm:di K mg "book_read" xV ["text"]
 BU:di K mg "step_read" yt ["text"]
 Bv:di K mg "is_step" x5 ["thing","net"]
 Bt:di K mg "is_plan" x3 ["thing","net"]
 BQ:di K mg "plan_read" yp ["text","net"]
 Bj:rR K "Net" "is_door" "Net.is_door" xS ["self","thing"]
 Bk:rR K "Net" "is_outer" "Net.is_outer" xT ["self","thing"]
 Bu:di K mg "is_saying" x4 ["thing","net"]
 BS:di K mg "saying_read" yr ["text","net"]
 BC:di K mg "_law_kinds" yb ["_law_which","_law_text_here","_law_net"]
 BG:di K mg "_law_right" yf ["_law_net"]
 BB:di K mg "_law_due" ya ["_law_place"]
 BE:di K mg "_law_net_text" yd ["_law_number"]
 Bz:di K mg "_law_book_text" x9 ["_law_number"]
 BF:di K mg "_law_plan_text" ye ["_law_number"]
 BH:di K mg "_law_saying_text" yg ["_law_number"]
 BI:di K mg "_law_text" yh ["_law_which","_law_number"]
 BA:di K mg "_law_draws" x_ ["_law_cell","_law_many"]
 BD:di K mg "_law_mixed" yc ["_law_cell","_law_k"]
 Ip:di K mg "law" l6 ["_law_script"]
 rA:nL K mg "NoNet"
 Gh:nL K mg "NoPlan"
 Gi:nL K mg "NoSaying"
 me:nL K mg "NoText"
 FZ:jX K mg "NoAddress" [("NoText",false),("NoNet",false),("NoPlan",false),("NoSaying",false)]
 F0:jX K mg "NoBooks" [("NoText",false),("NoNet",false),("NoPlan",false),("NoSaying",false)]
 F1:jX K mg "NoDoor" [("NoText",false),("NoNet",false),("NoPlan",false),("NoSaying",false)]
 F2:jX K mg "NoMove" [("NoText",false),("NoNet",false),("NoPlan",false),("NoSaying",false)]
 F3:jX K mg "NoNet" [("NoText",false),("NoNet",true),("NoPlan",false),("NoSaying",false)]
 F4:jX K mg "NoPlan" [("NoText",false),("NoNet",false),("NoPlan",true),("NoSaying",false)]
 F5:jX K mg "NoRow" [("NoText",false),("NoNet",false),("NoPlan",false),("NoSaying",false)]
 F6:jX K mg "NoSaying" [("NoText",false),("NoNet",false),("NoPlan",false),("NoSaying",true)]
 F7:jX K mg "NoText" [("NoText",true),("NoNet",false),("NoPlan",false),("NoSaying",false)]
 F8:pz K (.type "ValueError") [("NoText",true),("NoNet",true),("NoPlan",true),("NoSaying",true)]
 FP:zL K mg "WayError" ["NoText","NoNet","NoPlan","NoSaying"]
 jB:rI K "Net" ["many","counts","joined","far"]
 uf:kn K mg "SAYING_READS"
 ug:kn K mg "door_read"
 uh:kn K mg "number_read"
 Gb:kn K mg "pattern_read"
 y4:kn K mg "row_read"
 y5:kn K mg "step_read"
 sf:rJ K "SAYING_READS" t6
 z3:mg "ValueError"=none
 pN:mg "all"=none
 z6:mg "bool"=none
 va:mg "int"=none
 fg:mg "isinstance"=none
 fJ:mg "len"=none
 pO:mg "list"=none
 pP:mg "range"=none
 Aw:mg "set"=none
 pQ:mg "str"=none
 mH:mg "tuple"=none
 Az:mg "zip"=none
 pU:iR K mg "ANY_DOOR" pU
 pV:iR K mg "DROPPED" pV
 pW:iR K mg "FIGURES" pW
 pX:iR K mg "MOST_DOORS" pX
 pY:iR K mg "MOST_FIGURES" pY
 pZ:iR K mg "MOST_HOUSES" pZ
 p0:iR K mg "MOST_STEPS" p0
 p1:iR K mg "NONE_LISTED" p1
 p2:iR K mg "SIGNS" p2
 kA:iR K mg "WAIT" kA
 p3:iR K mg "WORTHS" p3
theorem Pt:c1 ["thing"] ["thing"] (bW x6):=⟨rfl,rfl,rfl,by decide+kernel,rfl,by decide+kernel,by decide+kernel⟩
def Af:bp:=
    cF (i8 (dG (hP "int") (ay 0)) (qX (dG (hP "bool") (ay 0))))
def DJ:List D→R cc:=c2 1 Af
theorem Pu:c1 ["thing","least","greatest"] ["thing","least","greatest"] (bW x7):=⟨rfl,rfl,rfl,by decide+kernel,rfl,by decide+kernel,by decide+kernel⟩
def Ag:bp:=
    cF (i8 (cN 1 DJ (ag (ay 0) (aR))) (kQ lS lS (ay 1) (ay 0) (ay 2)))
def oF:List D→R cc:=c2 3 Ag
theorem Pj:c1 ["thing"] ["thing"] (bW xU):=⟨rfl,rfl,rfl,by decide+kernel,rfl,by decide+kernel,by decide+kernel⟩
noncomputable def z4:bp:=
    bP (dt (gN (ez (b5 (dG (hP "list") (ay 0)))) (ez (b5 (kQ lS lS (aj (.int 1)) (dB e3 (ag (ay 0) (aR))) (aj pZ))))) (cF (aj (.aU false))) (dO))
    (cF (dB mF (ag (cO (gg 1 [] (jD (ay 0)) (dH 0) (m9) (cN 3 oF (ag (ay 0) (ag (aj (.int 1)) (ag (aj pX) (aR))))))) (aR))))
def DC:List D→R cc:=c2 1 z4
theorem Po:c1 ["thing"] ["thing"] (bW x1):=⟨rfl,rfl,rfl,by decide+kernel,rfl,by decide+kernel,by decide+kernel⟩
noncomputable def Aa:bp:=
    cF (i8 (dG (hP "tuple") (ay 0)) (aE (dz true) (dB e3 (ag (ay 0) (aR))) (aj (.int 2))))
def w3:List D→R cc:=c2 1 Aa
theorem Pm:c1 ["counts","thing"] ["counts","thing"] (bW xY):=⟨rfl,rfl,rfl,by decide+kernel,rfl,by decide+kernel,by decide+kernel⟩
noncomputable def z9:bp:=
    bP (dt (gN (ez (b5 (cN 1 w3 (ag (ay 1) (aR))))) (ez (b5 (cN 3 oF (ag (aE cE (ay 1) (aj (.int 0))) (ag (aj (.int 0)) (ag (aE km (dB e3 (ag (ay 0) (aR))) (aj (.int 1))) (aR)))))))) (cF (aj (.aU false))) (dO))
    (cF (cN 3 oF (ag (aE cE (ay 1) (aj (.int 1))) (ag (aj (.int 0)) (ag (aE km (aE cE (ay 0) (aE cE (ay 1) (aj (.int 0)))) (aj (.int 1))) (aR))))))
def th:List D→R cc:=c2 2 z9
theorem EX:c1 ["counts","thing","both"] ["counts","thing"] (bW x8):=⟨rfl,rfl,rfl,by decide+kernel,rfl,by decide+kernel,by decide+kernel⟩
noncomputable def Ah:bp:=
    bP (dt (ez (b5 (cN 1 w3 (ag (ay 1) (aR))))) (cF (aj (.aU false))) (dO))
    (bP (dC 2 (i8 (cN 2 th (ag (ay 0) (ag (aE cE (ay 1) (aj (.int 0))) (aR)))) (cN 2 th (ag (ay 0) (ag (aE cE (ay 1) (aj (.int 1))) (aR))))))
    (cF (i8 (ay 2) (aE (dz false) (aE cE (ay 1) (aj (.int 0))) (aE cE (ay 1) (aj (.int 1)))))))
def DK:List D→R cc:=c2 3 Ah
theorem yv:c1 ["counts","wires","far","wire"] ["counts","wires"] (bW xX):=⟨rfl,rfl,rfl,by decide+kernel,rfl,by decide+kernel,by decide+kernel⟩
noncomputable def z8:bp:=
    bP (gP (wW 2))
    (bP (i_ (qT (ay 1)) (dH 3) (bP (dt (gQ (ez (b5 (cN 2 DK (ag (ay 0) (ag (ay 3) (aR))))))) (ja "NoNet") (dO))
    (bP (dt (gQ (qR (gN (b5 (aE (j6 true) (aE cE (ay 3) (aj (.int 0))) (ay 2))) (b5 (aE (j6 true) (aE cE (ay 3) (aj (.int 1))) (ay 2)))))) (ja "NoNet") (dO))
    (bP (gP (s9 2 (aE cE (ay 3) (aj (.int 0))) (aE cE (ay 3) (aj (.int 1)))))
    (gP (s9 2 (aE cE (ay 3) (aj (.int 1))) (aE cE (ay 3) (aj (.int 0)))))))))
    (gP (tf (ay 2))))
def DF:List D→R cc:=c2 4 z8
theorem Pf:c1 ["self","counts","wires"] ["self","counts","wires"] (bW xR):=⟨rfl,rfl,rfl,by decide+kernel,rfl,by decide+kernel,by decide+kernel⟩
noncomputable def z0:ic:=
    lV (ta (gQ (ez (b5 (cN 1 DC (ag (ay 1) (aR)))))) "NoNet")
    (lV (ta (gQ (ez (b5 (dG (hP "list") (ay 2))))) "NoNet")
    (lV (m6 "Net" "many" (oL (dB e3 (ag (ay 1) (aR)))))
    (lV (m6 "Net" "counts" (oL (dB nq (ag (ay 1) (aR)))))
    (lV (m6 "Net" "joined" (oL (dB nq (ag (ay 2) (aR)))))
    (m6 "Net" "far" (s8 (cN 2 DF (tm (ag (dG (lG "Net" "counts") (ay 0)) (ag (dG (lG "Net" "joined") (ay 0)) (aR)))))))))))
def oE:List D→R (List Str×List D):=fun es=>ra "Net" (z0 (i6 "Net" es))
theorem PC:c1 ["text","between"] ["text","between"] (bW yn):=⟨rfl,rfl,rfl,by decide+kernel,rfl,by decide+kernel,by decide+kernel⟩
noncomputable def Aq:bp:=
    bP (dt (gQ (ez (b5 (dG (hP "str") (ay 0))))) (ja "NoText") (dO))
    (gP (jb (wX (ay 0) (ay 1))))
def nc:List D→R cc:=c2 2 Aq
theorem Pn:c1 ["text"] ["text"] (bW xZ):=⟨rfl,rfl,rfl,by decide+kernel,rfl,by decide+kernel,by decide+kernel⟩
noncomputable def z_:bp:=
    bP (dt (gN (ez (b5 (kQ lS lS (aj (.int 1)) (dB e3 (ag (ay 0) (aR))) (aj pY)))) (ez (b5 (dB mF (ag (cO (gg 1 [] (oA (ay 0)) (dH 0) (m9) (aE sT (ay 0) (aj pW)))) (aR)))))) (cF (aj (.aU false))) (dO))
    (cF (qY (aE (dz true) (ay 0) (aj (.str (PySem.Str.ofString "0")))) (aE (dz false) (aE cE (ay 0) (aj (.int 0))) (aj (.str (PySem.Str.ofString "0"))))))
def w2:List D→R cc:=c2 1 z_
theorem PB:c1 ["text"] ["text"] (bW yl):=⟨rfl,rfl,rfl,by decide+kernel,rfl,by decide+kernel,by decide+kernel⟩
noncomputable def Ao:bp:=
    bP (dt (gQ (ez (b5 (cN 1 w2 (ag (ay 0) (aR)))))) (ja "NoText") (dO))
    (gP (cF (dB t9 (ag (ay 0) (aR)))))
def oG:List D→R cc:=c2 1 Ao
theorem EZ:c1 ["text","between","read","pair"] ["text","between","read"] (bW ym):=⟨rfl,rfl,rfl,by decide+kernel,rfl,by decide+kernel,by decide+kernel⟩
def yS:Tab:=fun x=>if x="number_read" then some oG else none
noncomputable def Ap(tab:Tab):bp:=
    bP (dC 3 (cN 2 nc (ag (ay 0) (ag (ay 1) (aR)))))
    (bP (dt (gQ (b5 (aE (dz false) (dB e3 (ag (ay 3) (aR))) (aj (.int 2))))) (ja "NoText") (dO))
    (cF (fk (ag (oz 2 tab (ag (aE cE (ay 3) (aj (.int 0))) (aR))) (ag (oz 2 tab (ag (aE cE (ay 3) (aj (.int 1))) (aR))) (aR))))))
def w7(tab:Tab):List D→R cc:=c2 4 (Ap tab)
theorem Pl:c1 ["text"] ["text"] (bW xW):=⟨rfl,rfl,rfl,by decide+kernel,rfl,by decide+kernel,by decide+kernel⟩
noncomputable def z7:bp:=
    cF (cN 3 (w7 yS) (ag (ay 0) (ag (aj (.str (PySem.Str.ofString "."))) (ag (aj (.fn "number_read")) (aR)))))
def w1:List D→R cc:=c2 1 z7
theorem PE:c1 ["text"] ["text"] (bW yu):=⟨rfl,rfl,rfl,by decide+kernel,rfl,by decide+kernel,by decide+kernel⟩
def yR:Tab:=fun x=>if x="door_read" then some w1 else none
noncomputable def Ay:bp:=
    cF (cN 3 (w7 yR) (ag (ay 0) (ag (aj (.str (PySem.Str.ofString "-"))) (ag (aj (.fn "door_read")) (aR)))))
def DQ:List D→R cc:=c2 1 Ay
theorem tQ:c1 ["text","words","many"] ["text"] (bW yj):=⟨rfl,rfl,rfl,by decide+kernel,rfl,by decide+kernel,by decide+kernel⟩
noncomputable def Am:bp:=
    bP (dC 1 (cN 2 nc (ag (ay 0) (ag (aj (.str (PySem.Str.ofString " "))) (aR)))))
    (bP (gP (dC 2 (aj (.int 0))))
    (bP (gP (wZ (qQ (b5 (aE oy (ay 2) (dB e3 (ag (ay 1) (aR))))) (b5 (cN 1 w2 (ag (aE cE (ay 1) (ay 2)) (aR))))) (wV 2 (aj (.int 1)))))
    (cF (te "Net" 2 oE (ag (cO (kR 1 [] (jD (lU l9 (ay 1) (oB) (m8 (ay 2)))) (dH 0) (cN 1 oG (ag (ay 0) (aR))))) (ag (cO (kR 1 [] (jD (lU l9 (ay 1) (m8 (ay 2)) (oB))) (dH 0) (cN 1 DQ (ag (ay 0) (aR))))) (aR)))))))
def DL:List D→R cc:=c2 3 Am
theorem Pp:c1 ["thing"] ["thing"] (bW x2):=⟨rfl,rfl,rfl,by decide+kernel,rfl,by decide+kernel,by decide+kernel⟩
noncomputable def Ab:bp:=
    bP (dt (gN (ez (b5 (dG (hP "str") (ay 0)))) (b5 (aE (dz false) (dB e3 (ag (ay 0) (aR))) (dB e3 (ag (aj p3) (aR)))))) (cF (aj (.aU false))) (dO))
    (cF (dB mF (ag (cO (gg 1 [] (oA (ay 0)) (dH 0) (m9) (aE (inD true) (ay 0) (aj p2)))) (aR))))
def w4:List D→R cc:=c2 1 Ab
theorem PD:c1 ["text"] ["text"] (bW yo):=⟨rfl,rfl,rfl,by decide+kernel,rfl,by decide+kernel,by decide+kernel⟩
noncomputable def Ar:bp:=
    bP (dt (gQ (ez (b5 (cN 1 w4 (ag (ay 0) (aR)))))) (ja "NoText") (dO))
    (gP (cF (ay 0)))
def w8:List D→R cc:=c2 1 Ar
theorem PA:c1 ["text","word"] ["text","word"] (bW yk):=⟨rfl,rfl,rfl,by decide+kernel,rfl,by decide+kernel,by decide+kernel⟩
noncomputable def yT:Tab:=fun x=>if x="pattern_read" then some w8 else if x="door_read" then some w1 else if x="number_read" then some oG else none
def An:bp:=
    cF (qU (gQ (b5 (aE (dz true) (ay 0) (ay 1)))) (aj .non) (cN 1 oG (ag (ay 0) (aR))))
def w6:List D→R cc:=c2 2 An
theorem E2:c1 ["text","words"] ["text"] (bW yq):=⟨rfl,rfl,rfl,by decide+kernel,rfl,by decide+kernel,by decide+kernel⟩
noncomputable def Au:bp:=
    bP (dC 1 (cN 2 nc (ag (ay 0) (ag (aj (.str (PySem.Str.ofString " "))) (aR)))))
    (bP (dt (gQ (b5 (aE (dz false) (dB e3 (ag (ay 1) (aR))) (aj (.int 3))))) (ja "NoText") (dO))
    (cF (fk (ag (cN 1 w8 (ag (aE cE (ay 1) (aj (.int 0))) (aR))) (ag (cN 2 w6 (ag (aE cE (ay 1) (aj (.int 1))) (ag (aj pU) (aR)))) (ag (cN 2 w6 (ag (aE cE (ay 1) (aj (.int 2))) (ag (aj pV) (aR)))) (aR)))))))
def DN:List D→R cc:=c2 2 Au
theorem Pz:c1 ["text","read"] ["text","read"] (bW yi):=⟨rfl,rfl,rfl,by decide+kernel,rfl,by decide+kernel,by decide+kernel⟩
def yU:Tab:=fun x=>if x="row_read" then some DN else none
noncomputable def Al(tab:Tab):bp:=
    bP (gP (dt (b5 (aE (dz true) (ay 0) (aj p1))) (jb (du (aR))) (dO)))
    (jb (kR 1 [1] (jD (cN 2 nc (ag (ay 0) (ag (aj (.str (PySem.Str.ofString ", "))) (aR))))) (dH 0) (oz 1 tab (ag (ay 0) (aR)))))
def w5(tab:Tab):List D→R cc:=c2 2 (Al tab)
theorem Pk:c1 ["text"] ["text"] (bW xV):=⟨rfl,rfl,rfl,by decide+kernel,rfl,by decide+kernel,by decide+kernel⟩
def z5:bp:=
    cF (cN 2 (w5 yU) (ag (ay 0) (ag (aj (.fn "row_read")) (aR))))
def DE:List D→R cc:=c2 1 z5
theorem E3:c1 ["text","words"] ["text"] (bW yt):=⟨rfl,rfl,rfl,by decide+kernel,rfl,by decide+kernel,by decide+kernel⟩
noncomputable def Ax:bp:=
    bP (dC 1 (cN 2 nc (ag (ay 0) (ag (aj (.str (PySem.Str.ofString " "))) (aR)))))
    (bP (gP (dt (b5 (aE (dz true) (ay 1) (cO (qV (ag (aj kA) (aR)))))) (cF (aj kA)) (dO)))
    (bP (dt (gQ (gN (b5 (aE (dz false) (dB e3 (ag (ay 1) (aR))) (aj (.int 2)))) (b5 (aE (inD false) (aE cE (ay 1) (aj (.int 0))) (fk (ag (aj (.str (PySem.Str.ofString "teach"))) (ag (aj (.str (PySem.Str.ofString "turn"))) (ag (aj (.str (PySem.Str.ofString "forget"))) (aR))))))))) (ja "NoText") (dO))
    (cF (fk (ag (aE cE (ay 1) (aj (.int 0))) (ag (cN 1 oG (ag (aE cE (ay 1) (aj (.int 1))) (aR))) (aR)))))))
def DP:List D→R cc:=c2 2 Ax
theorem Pr:c1 ["thing","net"] ["thing","net"] (bW x5):=⟨rfl,rfl,rfl,by decide+kernel,rfl,by decide+kernel,by decide+kernel⟩
def yV:Tab:=fun x=>if x="step_read" then some DP else none
noncomputable def Ae:bp:=
    bP (dt (gN (ez (b5 (dG (hP "tuple") (ay 0)))) (gN (b5 (aE (inD false) (dB e3 (ag (ay 0) (aR))) (fk (ag (aj (.int 1)) (ag (aj (.int 2)) (aR)))))) (ez (b5 (dG (hP "str") (aE cE (ay 0) (aj (.int 0)))))))) (cF (aj (.aU false))) (dO))
    (bP (dt (b5 (aE (dz true) (dB e3 (ag (ay 0) (aR))) (aj (.int 1)))) (cF (aE (dz true) (aE cE (ay 0) (aj (.int 0))) (aj (.str (PySem.Str.ofString "wait"))))) (dO))
    (cF (i8 (aE (inD true) (aE cE (ay 0) (aj (.int 0))) (fk (ag (aj (.str (PySem.Str.ofString "teach"))) (ag (aj (.str (PySem.Str.ofString "turn"))) (ag (aj (.str (PySem.Str.ofString "forget"))) (aR)))))) (cN 3 oF (ag (aE cE (ay 0) (aj (.int 1))) (ag (aj (.int 0)) (ag (aE km (dG (lG "Net" "many") (ay 1)) (aj (.int 1))) (aR))))))))
def DI:List D→R cc:=c2 2 Ae
theorem EW:c1 ["thing","net","once"] ["thing","net"] (bW x3):=⟨rfl,rfl,rfl,by decide+kernel,rfl,by decide+kernel,by decide+kernel⟩
noncomputable def Ac:bp:=
    bP (dt (gN (ez (b5 (dG (hP "list") (ay 0)))) (b5 (aE vT (dB e3 (ag (ay 0) (aR))) (aj p0)))) (cF (aj (.aU false))) (dO))
    (bP (dt (ez (b5 (dB mF (ag (cO (gg 1 [1] (jD (ay 0)) (dH 0) (m9) (cN 2 DI (ag (ay 0) (ag (ay 1) (aR)))))) (aR))))) (cF (aj (.aU false))) (dO))
    (bP (oC 2 (gg 1 [] (jD (ay 0)) (dH 0) (b5 (aE (dz false) (ay 0) (aj kA))) (ay 0)))
    (cF (aE (dz true) (dB wN (ag (ay 2) (aR))) (dB e3 (ag (ay 2) (aR)))))))
def DG:List D→R cc:=c2 3 Ac
theorem E1:c1 ["text","net","plan"] ["text","net"] (bW yp):=⟨rfl,rfl,rfl,by decide+kernel,rfl,by decide+kernel,by decide+kernel⟩
noncomputable def As:bp:=
    bP (dC 2 (cN 2 (w5 yV) (ag (ay 0) (ag (aj (.fn "step_read")) (aR)))))
    (bP (dt (gQ (ez (b5 (cN 2 DG (ag (ay 2) (ag (ay 1) (aR))))))) (ja "NoPlan") (dO))
    (gP (cF (ay 2))))
def DM:List D→R cc:=c2 3 As
theorem Pg:c1 ["self","thing"] ["self","thing"] (bW xS):=⟨rfl,rfl,rfl,by decide+kernel,rfl,by decide+kernel,by decide+kernel⟩
def z1:bp:=
    cF (cN 2 th (ag (dG (lG "Net" "counts") (ay 0)) (ag (ay 1) (aR))))
def DB:List D→R cc:=c2 2 z1
theorem Ph:c1 ["self","thing"] ["self","thing"] (bW xT):=⟨rfl,rfl,rfl,by decide+kernel,rfl,by decide+kernel,by decide+kernel⟩
noncomputable def z2:bp:=
    cF (i8 (m7 "Net" "is_door" 1 DB (ay 0) (ag (ay 1) (aR))) (aE (j6 false) (ay 1) (dG (lG "Net" "far") (ay 0))))
def w0:List D→R cc:=c2 2 z2
theorem Pq:c1 ["thing","net"] ["thing","net"] (bW x4):=⟨rfl,rfl,rfl,by decide+kernel,rfl,by decide+kernel,by decide+kernel⟩
noncomputable def Ad:bp:=
    bP (dt (gN (ez (b5 (dG (hP "tuple") (ay 0)))) (b5 (aE (inD false) (dB e3 (ag (ay 0) (aR))) (fk (ag (aj (.int 3)) (ag (aj (.int 4)) (aR))))))) (cF (aj (.aU false))) (dO))
    (bP (dt (gN (ez (b5 (dG (hP "str") (aE cE (ay 0) (aj (.int 0)))))) (gN (ez (b5 (cN 1 w4 (ag (aE cE (ay 0) (aj (.int 1))) (aR))))) (ez (b5 (m7 "Net" "is_outer" 1 w0 (ay 1) (ag (aE cE (ay 0) (aj (.int 2))) (aR))))))) (cF (aj (.aU false))) (dO))
    (bP (dt (b5 (aE (dz true) (dB e3 (ag (ay 0) (aR))) (aj (.int 3)))) (cF (aE (inD true) (aE cE (ay 0) (aj (.int 0))) (fk (ag (aj (.str (PySem.Str.ofString "leaves"))) (ag (aj (.str (PySem.Str.ofString "noring"))) (aR)))))) (dO))
    (bP (dt (b5 (aE (dz true) (aE cE (ay 0) (aj (.int 0))) (aj (.str (PySem.Str.ofString "comes"))))) (cF (m7 "Net" "is_outer" 1 w0 (ay 1) (ag (aE cE (ay 0) (aj (.int 3))) (aR)))) (dO))
    (cF (i8 (aE (inD true) (aE cE (ay 0) (aj (.int 0))) (fk (ag (aj (.str (PySem.Str.ofString "by"))) (ag (aj (.str (PySem.Str.ofString "never"))) (aR))))) (cN 3 oF (ag (aE cE (ay 0) (aj (.int 3))) (ag (aj (.int 0)) (ag (aE km (dG (lG "Net" "many") (ay 1)) (aj (.int 1))) (aR))))))))))
def DH:List D→R cc:=c2 2 Ad
theorem tR:c1 ["text","net","words","things","saying"] ["text","net"] (bW yr):=⟨rfl,rfl,rfl,by decide+kernel,rfl,by decide+kernel,by decide+kernel⟩
noncomputable def Av:bp:=
    bP (dC 2 (cN 2 nc (ag (ay 0) (ag (aj (.str (PySem.Str.ofString " "))) (aR)))))
    (bP (dt (gQ (gN (b5 (aE (sg "SAYING_READS" t6) (aE cE (ay 2) (aj (.int 0))) (aj (.fn "SAYING_READS")))) (b5 (aE (dz false) (aE km (dB e3 (ag (ay 2) (aR))) (aj (.int 1))) (dB e3 (ag (aE (p4 "SAYING_READS" t6) (aj (.fn "SAYING_READS")) (aE cE (ay 2) (aj (.int 0)))) (aR))))))) (ja "NoText") (dO))
    (bP (oC 3 (kR 2 [] (tc (ag (aE (p4 "SAYING_READS" t6) (aj (.fn "SAYING_READS")) (aE cE (ay 2) (aj (.int 0)))) (ag (lU l9 (ay 2) (m8 (aj (.int 1))) (oB)) (aR)))) (l7 [dH 0,dH 1]) (oz 0 yT (ag (ay 1) (aR)))))
    (bP (gP (dC 4 (dB nq (ag (aE fH (cO (du (ag (aE cE (ay 2) (aj (.int 0))) (aR)))) (ay 3)) (aR)))))
    (bP (dt (gQ (ez (b5 (cN 2 DH (ag (ay 4) (ag (ay 1) (aR))))))) (ja "NoSaying") (dO))
    (gP (cF (ay 4)))))))
def DO:List D→R cc:=c2 5 Av
theorem oW:c1 ["_law_which","_law_text_here","_law_net","_law_kinds_here","e"] ["_law_which","_law_text_here","_law_net"] (bW yb):=⟨rfl,rfl,rfl,by decide+kernel,rfl,by decide+kernel,by decide+kernel⟩
noncomputable def Aj:bp:=
    bP (dC 3 (cO (du (aR))))
    (bP (wY 4 ["NoText","NoNet","NoPlan","NoSaying"] (qZ (b5 (aE (dz true) (ay 0) (aj (.int 0)))) (lT 1 DL (ag (ay 1) (aR))) (qZ (b5 (aE (dz true) (ay 0) (aj (.int 1)))) (lT 1 DE (ag (ay 1) (aR))) (qZ (b5 (aE (dz true) (ay 0) (aj (.int 2)))) (lT 2 DM (ag (ay 1) (ag (ay 2) (aR)))) (lT 2 DO (ag (ay 1) (ag (ay 2) (aR))))))) (bP (dC 3 (cO (du (ag (dG (hu [("NoText",true),("NoNet",true),("NoPlan",true),("NoSaying",true)]) (ay 4)) (ag (dG (hu [("NoText",true),("NoNet",false),("NoPlan",false),("NoSaying",false)]) (ay 4)) (ag (dG (hu [("NoText",false),("NoNet",true),("NoPlan",false),("NoSaying",false)]) (ay 4)) (ag (dG (hu [("NoText",false),("NoNet",false),("NoPlan",true),("NoSaying",false)]) (ay 4)) (aR))))))))
    (bP (dC 3 (aE fH (ay 3) (cO (du (ag (dG (hu [("NoText",false),("NoNet",false),("NoPlan",false),("NoSaying",true)]) (ay 4)) (ag (dG (hu [("NoText",false),("NoNet",false),("NoPlan",false),("NoSaying",false)]) (ay 4)) (ag (dG (hu [("NoText",false),("NoNet",false),("NoPlan",false),("NoSaying",false)]) (ay 4)) (aR))))))))
    (dC 3 (aE fH (ay 3) (cO (du (ag (dG (hu [("NoText",false),("NoNet",false),("NoPlan",false),("NoSaying",false)]) (ay 4)) (ag (dG (hu [("NoText",false),("NoNet",false),("NoPlan",false),("NoSaying",false)]) (ay 4)) (ag (dG (hu [("NoText",false),("NoNet",false),("NoPlan",false),("NoSaying",false)]) (ay 4)) (aR)))))))))))
    (cF (ay 3)))
def q2:List D→R cc:=c2 5 Aj
theorem EY:c1 ["_law_net","_law_good"] ["_law_net"] (bW yf):=⟨rfl,rfl,rfl,by decide+kernel,rfl,by decide+kernel,by decide+kernel⟩
noncomputable def Ak:bp:=
    bP (dC 1 (cO (du (ag (aj (.str (PySem.Str.ofString "2 3 1 0.1-1.0"))) (ag (aj (.str (PySem.Str.ofString "1xx0 any 0, xxxx 2 drop"))) (ag (aj (.str (PySem.Str.ofString "teach 2, wait, wait, forget 0"))) (ag (aj (.str (PySem.Str.ofString "comes x01x 0.0 2.0"))) (aR))))))))
    (cF (aE (dz true) (cO (gg 1 [0,1] (kS (ag (aj (.int 4)) (aR))) (dH 0) (m9) (cN 3 q2 (ag (ay 0) (ag (aE cE (ay 2) (ay 0)) (ag (ay 1) (aR))))))) (cO (du (ag (cO (du (aR))) (ag (cO (du (aR))) (ag (cO (du (aR))) (ag (cO (du (aR))) (aR)))))))))
def tj:List D→R cc:=c2 2 Ak
theorem Pw:c1 ["_law_place"] ["_law_place"] (bW ya):=⟨rfl,rfl,rfl,by decide+kernel,rfl,by decide+kernel,by decide+kernel⟩
noncomputable def Ai:bp:=
    jb (qS (cO (du (ag (aj (.aU true)) (aR)))) (cO (gg 1 [0] (kS (ag (aj (.int 9)) (aR))) (dH 0) (m9) (aE (dz true) (ay 0) (ay 1)))))
def lW:List D→R cc:=c2 1 Ai
theorem tO:c1 ["_law_number","_law_some","_law_bad"] ["_law_number"] (bW yd):=⟨rfl,rfl,rfl,by decide+kernel,rfl,by decide+kernel,by decide+kernel⟩
noncomputable def vf:bp:=
    bP (dC 1 (cO (du (ag (aj (.str (PySem.Str.ofString ""))) (ag (aj (.str (PySem.Str.ofString " "))) (ag (aj (.str (PySem.Str.ofString "2 "))) (ag (aj (.str (PySem.Str.ofString " 2"))) (ag (aj (.str (PySem.Str.ofString "2  3"))) (ag (aj (.str (PySem.Str.ofString "02"))) (ag (aj (.str (PySem.Str.ofString "x"))) (ag (aj (.str (PySem.Str.ofString "2,3"))) (ag (aj (.str (PySem.Str.ofString "2 3 0.0-"))) (ag (aj (.str (PySem.Str.ofString "2 3 -0.0"))) (ag (aj (.str (PySem.Str.ofString "2 3 0.0-1.0-1.1"))) (ag (aj (.str (PySem.Str.ofString "2 3 0.0-1"))) (aR))))))))))))))))
    (bP (dC 1 (aE fH (ay 1) (cO (du (ag (aj (.str (PySem.Str.ofString "2 3 0-1"))) (ag (aj (.str (PySem.Str.ofString "2 0.0-0.1 3"))) (ag (aj (.str (PySem.Str.ofString "2 3 0.0_1.0"))) (ag (aj (.str (PySem.Str.ofString "2 3 0.0-1.x"))) (ag (aj (.str (PySem.Str.ofString "2 3 0.00-1.0"))) (ag (aj (.str (PySem.Str.ofString "-1 2"))) (ag (aj (.str (PySem.Str.ofString "1000"))) (ag (aj (.str (PySem.Str.ofString "2 3 0..0-1.0"))) (aR)))))))))))))
    (bP (dC 2 (cO (du (ag (aj (.str (PySem.Str.ofString "0"))) (ag (aj (.str (PySem.Str.ofString "5"))) (ag (aj (.str (PySem.Str.ofString "1 1 1 1 1 1 1"))) (ag (aj (.str (PySem.Str.ofString "2 2 0.0-0.0"))) (ag (aj (.str (PySem.Str.ofString "2 2 0.2-1.0"))) (ag (aj (.str (PySem.Str.ofString "2 2 2.0-1.0"))) (ag (aj (.str (PySem.Str.ofString "3 0.0-0.1 0.1-0.2"))) (ag (aj (.str (PySem.Str.ofString "2 0"))) (aR))))))))))))
    (bP (dt (b5 (aE oy (aE fa (ay 0) (aj (.int 28))) (aj (.int 20)))) (cF (fk (ag (aE cE (ay 1) (aE fa (ay 0) (aj (.int 28)))) (ag (cO (i9 1 lW (ag (aj (.int 0)) (aR)))) (aR))))) (dO))
    (cF (fk (ag (aE cE (ay 2) (aE km (aE fa (ay 0) (aj (.int 28))) (aj (.int 20)))) (ag (cO (i9 1 lW (ag (aj (.int 1)) (aR)))) (aR))))))))
def q3:List D→R cc:=c2 3 vf
theorem tN:c1 ["_law_number","_law_some"] ["_law_number"] (bW x9):=⟨rfl,rfl,rfl,by decide+kernel,rfl,by decide+kernel,by decide+kernel⟩
noncomputable def vc:bp:=
    bP (dC 1 (cO (du (ag (aj (.str (PySem.Str.ofString ""))) (ag (aj (.str (PySem.Str.ofString " "))) (ag (aj (.str (PySem.Str.ofString "xxxx"))) (ag (aj (.str (PySem.Str.ofString "xxxx any"))) (ag (aj (.str (PySem.Str.ofString "xxxx any 0 0"))) (ag (aj (.str (PySem.Str.ofString "xxx any 0"))) (ag (aj (.str (PySem.Str.ofString "xxxxx any 0"))) (ag (aj (.str (PySem.Str.ofString "xx2x any 0"))) (ag (aj (.str (PySem.Str.ofString "xxxx Any 0"))) (ag (aj (.str (PySem.Str.ofString "- "))) (aR))))))))))))))
    (bP (dC 1 (aE fH (ay 1) (cO (du (ag (aj (.str (PySem.Str.ofString "xxxx any 0,xxxx any 1"))) (ag (aj (.str (PySem.Str.ofString "xxxx any 0, "))) (ag (aj (.str (PySem.Str.ofString "xxxx any 0 , xxxx any 1"))) (ag (aj (.str (PySem.Str.ofString "xxxx any 00"))) (ag (aj (.str (PySem.Str.ofString "xxxx any -1"))) (aR))))))))))
    (bP (dC 1 (aE fH (ay 1) (cO (du (ag (aj (.str (PySem.Str.ofString "xxxx 0 any"))) (ag (aj (.str (PySem.Str.ofString "xxxx drop 0"))) (ag (aj (.str (PySem.Str.ofString "xxxx any  0"))) (ag (aj (.str (PySem.Str.ofString " xxxx any 0"))) (ag (aj (.str (PySem.Str.ofString "--"))) (ag (aj (.str (PySem.Str.ofString "xxxx any 1000"))) (ag (aj (.str (PySem.Str.ofString "XXXX any 0"))) (aR))))))))))))
    (cF (fk (ag (aE cE (ay 1) (aE fa (ay 0) (aj (.int 22)))) (ag (cO (i9 1 lW (ag (aj (.int 0)) (aR)))) (aR)))))))
def q0:List D→R cc:=c2 2 vc
theorem tP:c1 ["_law_number","_law_some","_law_bad"] ["_law_number"] (bW ye):=⟨rfl,rfl,rfl,by decide+kernel,rfl,by decide+kernel,by decide+kernel⟩
noncomputable def vg:bp:=
    bP (dC 1 (cO (du (ag (aj (.str (PySem.Str.ofString ""))) (ag (aj (.str (PySem.Str.ofString " "))) (ag (aj (.str (PySem.Str.ofString "wait,wait"))) (ag (aj (.str (PySem.Str.ofString "wait, "))) (ag (aj (.str (PySem.Str.ofString "teach"))) (ag (aj (.str (PySem.Str.ofString "teach x"))) (ag (aj (.str (PySem.Str.ofString "teach 0 1"))) (ag (aj (.str (PySem.Str.ofString "tell 0"))) (ag (aj (.str (PySem.Str.ofString "Teach 0"))) (ag (aj (.str (PySem.Str.ofString "wait 0"))) (ag (aj (.str (PySem.Str.ofString "teach 00"))) (aR)))))))))))))))
    (bP (dC 1 (aE fH (ay 1) (cO (du (ag (aj (.str (PySem.Str.ofString "teach -1"))) (ag (aj (.str (PySem.Str.ofString "teach 1000"))) (ag (aj (.str (PySem.Str.ofString "- "))) (ag (aj (.str (PySem.Str.ofString "--"))) (ag (aj (.str (PySem.Str.ofString "wait , wait"))) (ag (aj (.str (PySem.Str.ofString "teach  0"))) (ag (aj (.str (PySem.Str.ofString " wait"))) (ag (aj (.str (PySem.Str.ofString "wait ;"))) (aR)))))))))))))
    (bP (dC 2 (cO (du (ag (aj (.str (PySem.Str.ofString "teach 3"))) (ag (aj (.str (PySem.Str.ofString "turn 0, turn 0"))) (ag (aj (.str (PySem.Str.ofString "forget 9"))) (ag (td (PySem.Str.ofString ", ") (ag (aE ng (cO (du (ag (aj (.str (PySem.Str.ofString "wait"))) (aR)))) (aj (.int 41))) (aR))) (ag (aj (.str (PySem.Str.ofString "teach 0, wait, teach 0"))) (ag (aj (.str (PySem.Str.ofString "turn 999"))) (aR))))))))))
    (bP (dt (b5 (aE oy (aE fa (ay 0) (aj (.int 25))) (aj (.int 19)))) (cF (fk (ag (aE cE (ay 1) (aE fa (ay 0) (aj (.int 25)))) (ag (cO (i9 1 lW (ag (aj (.int 0)) (aR)))) (aR))))) (dO))
    (cF (fk (ag (aE cE (ay 2) (aE km (aE fa (ay 0) (aj (.int 25))) (aj (.int 19)))) (ag (cO (i9 1 lW (ag (aj (.int 2)) (aR)))) (aR))))))))
def q4:List D→R cc:=c2 3 vg
theorem rj:c1 ["_law_number","_law_some","_law_bad"] ["_law_number"] (bW yg):=⟨rfl,rfl,rfl,by decide+kernel,rfl,by decide+kernel,by decide+kernel⟩
noncomputable def vh:bp:=
    bP (dC 1 (cO (du (ag (aj (.str (PySem.Str.ofString ""))) (ag (aj (.str (PySem.Str.ofString "comes"))) (ag (aj (.str (PySem.Str.ofString "comes xxxx 0.0"))) (ag (aj (.str (PySem.Str.ofString "leaves xxxx 0.0 0.0"))) (ag (aj (.str (PySem.Str.ofString "by xxxx 0.0"))) (ag (aj (.str (PySem.Str.ofString "never xxxx 0.0 x"))) (ag (aj (.str (PySem.Str.ofString "comes xxx 0.0 2.1"))) (aR)))))))))))
    (bP (dC 1 (aE fH (ay 1) (cO (du (ag (aj (.str (PySem.Str.ofString "comes xxxx 0 2.1"))) (ag (aj (.str (PySem.Str.ofString "comes xxxx 0.0 2"))) (ag (aj (.str (PySem.Str.ofString "by xxxx 0.0 0.0"))) (ag (aj (.str (PySem.Str.ofString "Leaves xxxx 0.0"))) (ag (aj (.str (PySem.Str.ofString "leaves  0.0"))) (ag (aj (.str (PySem.Str.ofString "stays xxxx 0.0"))) (aR)))))))))))
    (bP (dC 1 (aE fH (ay 1) (cO (du (ag (aj (.str (PySem.Str.ofString "leaves xxxx 0.0 "))) (ag (aj (.str (PySem.Str.ofString "noring 0101 00.0"))) (ag (aj (.str (PySem.Str.ofString "noring 01o1 0.0"))) (ag (aj (.str (PySem.Str.ofString "by xxxx 0.0 01"))) (ag (aj (.str (PySem.Str.ofString "leaves 0.0 xxxx"))) (aR))))))))))
    (bP (dC 2 (cO (du (ag (aj (.str (PySem.Str.ofString "comes xxxx 0.0 1.0"))) (ag (aj (.str (PySem.Str.ofString "comes xxxx 1.0 0.0"))) (ag (aj (.str (PySem.Str.ofString "leaves xxxx 0.9"))) (ag (aj (.str (PySem.Str.ofString "by xxxx 0.0 3"))) (ag (aj (.str (PySem.Str.ofString "never xxxx 3.0 0"))) (ag (aj (.str (PySem.Str.ofString "noring xxxx 0.1"))) (aR))))))))))
    (bP (dt (b5 (aE oy (aE fa (ay 0) (aj (.int 24))) (aj (.int 18)))) (cF (fk (ag (aE cE (ay 1) (aE fa (ay 0) (aj (.int 24)))) (ag (cO (i9 1 lW (ag (aj (.int 0)) (aR)))) (aR))))) (dO))
    (cF (fk (ag (aE cE (ay 2) (aE km (aE fa (ay 0) (aj (.int 24))) (aj (.int 18)))) (ag (cO (i9 1 lW (ag (aj (.int 3)) (aR)))) (aR)))))))))
def q5:List D→R cc:=c2 3 vh
theorem Py:c1 ["_law_which","_law_number"] ["_law_which","_law_number"] (bW yh):=⟨rfl,rfl,rfl,by decide+kernel,rfl,by decide+kernel,by decide+kernel⟩
noncomputable def nX:bp:=
    bP (dt (b5 (aE (dz true) (ay 0) (aj (.int 0)))) (cF (cN 1 q3 (ag (ay 1) (aR)))) (dO))
    (bP (dt (b5 (aE (dz true) (ay 0) (aj (.int 1)))) (cF (cN 1 q0 (ag (ay 1) (aR)))) (dO))
    (bP (dt (b5 (aE (dz true) (ay 0) (aj (.int 2)))) (cF (cN 1 q4 (ag (ay 1) (aR)))) (dO))
    (cF (cN 1 q5 (ag (ay 1) (aR))))))
def kf:List D→R cc:=c2 2 nX
theorem nh:c1 ["_law_cell","_law_many","_law_draws_here","_law_rest","_law_k","_law_prime","_law_factor"] ["_law_cell","_law_many"] (bW x_):=⟨rfl,rfl,rfl,by decide+kernel,rfl,by decide+kernel,by decide+kernel⟩
noncomputable def vd:bp:=
    bP (iF 2 (du (aR)))
    (bP (dC 3 (aE kB (ay 0) (aj (.int 2))))
    (bP (i_ (kS (ag (ay 1) (aR))) (dH 4) (dt (b5 (aE (dz true) (aE fa (ay 0) (aj (.int 2))) (aj (.int 1)))) (bP (dC 5 (aE cE (cO (du (ag (aj (.int 2147483647)) (ag (aj (.int 2147483629)) (ag (aj (.int 2147483587)) (ag (aj (.int 2147483579)) (aR))))))) (aE fa (aE kB (ay 4) (aj (.int 4))) (aj (.int 4)))))
    (bP (dC 6 (aE cE (cO (du (ag (aj (.int 48271)) (ag (aj (.int 69621)) (ag (aj (.int 16807)) (ag (aj (.int 39373)) (aR))))))) (aE fa (ay 4) (aj (.int 4)))))
    (m5 2 (aE kB (aE fa (aE nd (aE fH (aE fH (aE fa (ay 3) (aE jH (aj (.int 10)) (aj (.int 30)))) (aE nd (aj (.int 7919)) (ay 4))) (aj (.int 1))) (ay 6)) (ay 5)) (aj (.int 7)))))) (bP (m5 2 (aE fa (ay 3) (aE jH (aj (.int 10)) (aj (.int 6)))))
    (dC 3 (aE kB (ay 3) (aE jH (aj (.int 10)) (aj (.int 6))))))))
    (jb (oD 2))))
def q1:List D→R cc:=c2 7 vd
theorem Px:c1 ["_law_cell","_law_k"] ["_law_cell","_law_k"] (bW yc):=⟨rfl,rfl,rfl,by decide+kernel,rfl,by decide+kernel,by decide+kernel⟩
def ve:bp:=
    cF (aE cE (cO (i9 2 q1 (ag (ay 0) (ag (aE fH (ay 1) (aj (.int 1))) (aR))))) (ay 1))
def ti:List D→R cc:=c2 2 ve
theorem oV:c1 ["_law_script","_law_net","_law_cell","_law_which","_law_text_here","_law_due_here"] ["_law_script"] (bW l6):=⟨rfl,rfl,rfl,by decide+kernel,rfl,by decide+kernel,by decide+kernel⟩
noncomputable def vb:bp:=
    bP (dC 1 (qW "Net" 2 oE (ag (cO (du (ag (aj (.int 2)) (ag (aj (.int 3)) (ag (aj (.int 1)) (aR)))))) (ag (cO (du (ag (fk (ag (fk (ag (aj (.int 0)) (ag (aj (.int 1)) (aR)))) (ag (fk (ag (aj (.int 1)) (ag (aj (.int 0)) (aR)))) (aR)))) (aR)))) (aR)))))
    (bP (dt (ez (b5 (cN 1 tj (ag (ay 1) (aR))))) (cF (aj (.aU false))) (dO))
    (bP (i_ (jD (aE fH (cO (du (ag (aj (.int 11)) (aR)))) (lU l9 (ay 0) (oB) (m8 (aj (.int 40)))))) (dH 2) (i_ (kS (ag (aj (.int 4)) (aR))) (dH 3) (bP (tg (l7 [dH 4,dH 5]) (cN 2 kf (ag (ay 3) (ag (cN 2 ti (ag (ay 2) (ag (ay 3) (aR)))) (aR)))))
    (dt (b5 (aE (dz false) (cN 3 q2 (ag (ay 3) (ag (ay 4) (ag (ay 1) (aR))))) (ay 5))) (cF (aj (.aU false))) (dO)))))
    (cF (cN 1 tj (ag (ay 1) (aR))))))
def m_:List D→R cc:=c2 6 vb
section
variable{P:VR}{w:V9}{K:PySem.W.Frag}{mg:Str→Option Vw}{base:Wv}(T:u1 K mg)
include T
set_option maxHeartbeats 4000000
theorem Lv:eV P w K mg base "is_whole" 1 1 DJ:=by
 have h:=fR (P:=P) (w:=w) (mg:=mg) (base:=base) (k:=0) (m:=Af) T.Bw Pt;exact h fun _ _ _ _ _ _ _ aw _ _=>
 bU (cL (mh (jl (QX _) T.fg T.va (by kernel_rfl) (az 0)) (la (RC (jl (QW _) T.fg T.z6 (by kernel_rfl) (az 0))))))
theorem qL:eV P w K mg base "is_whole_within" 3 2 oF:=by
 have h:=fR (P:=P) (w:=w) (mg:=mg) (base:=base) (k:=1) (m:=Ag) T.Bx Pu;exact h fun _ _ _ _ _ _ _ aw _ _=>
 bU (cL (mh (ew (Lv T) (aw.mono (by decide)) (ai (az 0) (aV))) (la (Rp oP oP oO oO (az 1) (az 0) (az 2)))))
theorem Lo:eV P w K mg base "are_counts" 1 3 DC:=by
 have h:=fR (P:=P) (w:=w) (mg:=mg) (base:=base) (k:=2) (m:=z4) T.Bl Pj;exact h fun _ _ _ _ _ _ _ aw _ _=>
 b0 (dY (jn (iP (e4 (fc (jl (yY _) T.fg T.pO (by kernel_rfl) (az 0)))) (jS (e4 (Gs oP oP oO oO (bb) (gn T.fJ (ai (az 0) (aV))) (iN T.pZ)))))) (bU (cL (iM))) (dZ))
  (bU (cL (uk aw T.pN (ai (c3 (pa (N:=["doors"]) 1 [] (by rfl) (nz (az 0)) (mG 0) (nY) (fun _ _ _ _ _ _ _=>ew (qL T) (aw.mono (by decide)) (ai (az 0) (ai (bb) (ai (iN T.pX) (aV))))))) (aV)))))
theorem C6:eV P w K mg base "is_pair" 1 1 w3:=by
 have h:=fR (P:=P) (w:=w) (mg:=mg) (base:=base) (k:=0) (m:=Aa) T.Br Po;exact h fun _ _ _ _ _ _ _ aw _ _=>
 bU (cL (mh (jl (yZ _) T.fg T.mH (by kernel_rfl) (az 0)) (la (o9 aw.units (gn T.fJ (ai (az 0) (aV))) (bb)))))
theorem wM:eV P w K mg base "is_door_among" 2 3 th:=by
 have h:=fR (P:=P) (w:=w) (mg:=mg) (base:=base) (k:=2) (m:=z9) T.Bp Pm;exact h fun _ _ _ _ _ _ _ aw _ _=>
 b0 (dY (jn (iP (e4 (fc (ew (C6 T) (aw.mono (by decide)) (ai (az 1) (aV))))) (jS (e4 (fc (ew (qL T) (aw.mono (by decide)) (ai (c0 (az 1) (bb) b1) (ai (bb) (ai (mj (gn T.fJ (ai (az 0) (aV))) (bb)) (aV)))))))))) (bU (cL (iM))) (dZ))
  (bU (cL (ew (qL T) (aw.mono (by decide)) (ai (c0 (az 1) (bb) b1) (ai (bb) (ai (mj (c0 (az 0) (c0 (az 1) (bb) b1) b1) (bb)) (aV)))))))
theorem Lw:eV P w K mg base "is_wire_among" 2 4 DK:=by
 have h:=fR (P:=P) (w:=w) (mg:=mg) (base:=base) (k:=3) (m:=Ah) T.By EX;exact h fun _ _ _ _ _ _ _ aw _ _=>
 b0 (dY (e4 (fc (ew (C6 T) (aw.mono (by decide)) (ai (az 1) (aV))))) (bU (cL (iM))) (dZ))
  (b0 (ee 2 EX.cn (mh (ew (wM T) (aw.mono (by decide)) (ai (az 0) (ai (c0 (az 1) (bb) b1) (aV)))) (la (ew (wM T) (aw.mono (by decide)) (ai (az 0) (ai (c0 (az 1) (bb) b1) (aV)))))))
  (bU (cL (mh (az 2) (la (Gl aw.units (c0 (az 1) (bb) b1) (c0 (az 1) (bb) b1)))))))
theorem Lq:fT P w K mg base "far_doors" 2 5 DF:=by
 have h:=hC (P:=P) (w:=w) (mg:=mg) (base:=base) (k:=4) (m:=z8) T.Bo yv;exact h fun _ _ _ _ _ _ _ aw _ _=>
 b0 (hV (RS 2 yv.cn))
  (b0 (uz PassesOwn.leaving (R2 (az 1)) (oJ 3 yv.cn) (b0 (dY (hW (e4 (fc (ew (Lw T) (aw.mono (by decide)) (ai (az 0) (ai (az 3) (aV))))))) (bU (jm T.rA)) (dZ))
  (b0 (dY (hW (RX (jn (iP (Gu aw.units (c0 (az 3) (bb) b1) (az 2)) (jS (Gu aw.units (c0 (az 3) (bb) b1) (az 2))))))) (bU (jm T.rA)) (dZ))
  (b0 (hV (Gq 2 aw.units (c0 (az 3) (bb) b1) (c0 (az 3) (bb) b1)))
  (bU (hV (Gq 2 aw.units (c0 (az 3) (bb) b1) (c0 (az 3) (bb) b1))))))))
  (bU (hV (RR (az 2)))))
theorem C2:rQ P w K mg base "Net" 2 6 oE:=by
 have h:=RH (P:=P) (w:=w) (mg:=mg) (base:=base) (k:=5) (m:=z0) T.Bi Pf;exact h fun _ _ _ _ _ _ _ aw _ _=>
 rB (Gn T.rA (hW (e4 (fc (ew (Lo T) (aw.mono (by decide)) (ai (az 1) (aV)))))))
  (rB (Gn T.rA (hW (e4 (fc (jl (yY _) T.fg T.pO (by kernel_rfl) (az 2))))))
  (rB (uu T.jB (zi (gn T.fJ (ai (az 1) (aV)))))
  (rB (uu T.jB (zi (zh T.mH (ai (az 1) (aV)))))
  (rB (uu T.jB (zi (zh T.mH (ai (az 2) (aV)))))
  (RJ (uu T.jB (Rn (Ro (Lq T) (aw.mono (by decide)) (RI (ai (o_ T.jB (az 0)) (ai (o_ T.jB (az 0)) (aV))))))))))))
theorem ou:fT P w K mg base "parted" 2 1 nc:=by
 have h:=hC (P:=P) (w:=w) (mg:=mg) (base:=base) (k:=0) (m:=Aq) T.BO PC;exact h fun _ _ _ _ _ _ _ aw _ _=>
 b0 (dY (hW (e4 (fc (jl (ub _) T.fg T.pQ (by kernel_rfl) (az 0))))) (bU (jm T.me)) (dZ))
  (bU (hV (uA (RM (az 0) (az 1)))))
theorem C5:eV P w K mg base "is_number" 1 1 w2:=by
 have h:=fR (P:=P) (w:=w) (mg:=mg) (base:=base) (k:=0) (m:=z_) T.Bq Pn;exact h fun _ _ _ _ _ _ _ aw _ _=>
 b0 (dY (jn (iP (e4 (Gs oP oP oO oO (bb) (gn T.fJ (ai (az 0) (aV))) (iN T.pY))) (jS (e4 (fc (uk aw T.pN (ai (c3 (pa (N:=["sign"]) 1 [] (by rfl) (Gv (az 0)) (mG 0) (nY) (fun _ _ _ _ _ _ _=>Rt (az 0) (iN T.pW)))) (aV)))))))) (bU (cL (iM))) (dZ))
  (bU (cL (RD (o9 aw.units (az 0) (bh)) (la (Gl aw.units (c0 (az 0) (bb) b1) (bh))))))
theorem qM:fT P w K mg base "number_read" 1 2 oG:=by
 have h:=hC (P:=P) (w:=w) (mg:=mg) (base:=base) (k:=1) (m:=Ao) T.BM PB;exact h fun _ _ _ _ _ _ _ aw _ _=>
 b0 (dY (hW (e4 (fc (ew (C5 T) (aw.mono (by decide)) (ai (az 0) (aV)))))) (bU (jm T.me)) (dZ))
  (bU (hV (cL (RF T.va (ai (az 0) (aV))))))
theorem QP:lp P w K mg base 2 yS:=⟨fun x mf h=>by
 unfold yS at h
 split at h
 ·rename_i e;subst e;cases h;exact⟨⟨_,by decide,qM T⟩,T.uh⟩
 cases h⟩
theorem Dd{k:Nat}{tab:Tab}(rY:lp P w K mg base k tab):fT P w K mg base "pair_read" 3 (k+3) (w7 tab):=by
 have h:=hC (P:=P) (w:=w) (mg:=mg) (base:=base) (k:=k+2) (m:=Ap tab) T.BN EZ;exact h fun _ _ _ _ _ _ _ aw _ _=>
 b0 (ee 3 EZ.cn (gU gh (ou T) (aw.mono (by omega)) (ai (az 0) (ai (az 1) (aV)))))
  (b0 (dY (hW (ny aw.units (gn T.fJ (ai (az 3) (aV))) (bb))) (bU (jm T.me)) (dZ))
  (bU (cL (gp (ai (um 2 gh rY (aw.mono (by omega)) (ai (c0 (az 3) (bb) b1) (aV))) (ai (um 2 gh rY (aw.mono (by omega)) (ai (c0 (az 3) (bb) b1) (aV))) (aV)))))))
theorem C4:fT P w K mg base "door_read" 1 6 w1:=by
 have h:=hC (P:=P) (w:=w) (mg:=mg) (base:=base) (k:=5) (m:=z7) T.Bn Pl;exact h fun _ _ _ _ _ _ _ aw _ _=>
 bU (cL (gU gh (Dd T (QP T)) (aw.mono (by decide)) (ai (az 0) (ai (bh) (ai (nx T.uh) (aV))))))
theorem QO:lp P w K mg base 6 yR:=⟨fun x mf h=>by
 unfold yR at h
 split at h
 ·rename_i e;subst e;cases h;exact⟨⟨_,by decide,C4 T⟩,T.ug⟩
 cases h⟩
theorem LK:fT P w K mg base "wire_read" 1 10 DQ:=by
 have h:=hC (P:=P) (w:=w) (mg:=mg) (base:=base) (k:=9) (m:=Ay) T.BV PE;exact h fun _ _ _ _ _ _ _ aw _ _=>
 bU (cL (gU gh (Dd T (QO T)) (aw.mono (by decide)) (ai (az 0) (ai (bh) (ai (nx T.ug) (aV))))))
theorem LF:fT P w K mg base "net_read" 1 11 DL:=by
 have h:=hC (P:=P) (w:=w) (mg:=mg) (base:=base) (k:=10) (m:=Am) T.BK tQ;exact h fun _ _ _ _ _ _ _ aw _ _=>
 b0 (ee 1 tQ.cn (gU gh (ou T) (aw.mono (by decide)) (ai (az 0) (ai (bh) (aV)))))
  (b0 (hV (ee 2 tQ.cn (bb)))
  (b0 (hV (RW Yr (jn (R0 (uB (az 2) (gn T.fJ (ai (az 1) (aV)))) (R1 (fc (ew (C5 T) (aw.mono (by decide)) (ai (c0 (az 1) (az 2) b1) (aV))))))) (bU (RN 2 tQ.cn (bb)))))
  (bU (cL (Rz gh (C2 T) (aw.mono (by decide)) (ai (c3 (zj (N:=["word"]) 1 [] uv (by rfl) (nz (ur (az 1) (uw) (ux (az 2)))) (vk 0) (fun _ _ _ _ _ _ _=>gU tD (qM T) (aw.mono (by decide)) (ai (az 0) (aV))))) (ai (c3 (zj (N:=["word"]) 1 [] uv (by rfl) (nz (ur (az 1) (ux (az 2)) (uw))) (vk 0) (fun _ _ _ _ _ _ _=>gU tD (LK T) (aw.mono (by decide)) (ai (az 0) (aV))))) (aV))))))))
theorem C7:eV P w K mg base "is_pattern" 1 1 w4:=by
 have h:=fR (P:=P) (w:=w) (mg:=mg) (base:=base) (k:=0) (m:=Ab) T.Bs Pp;exact h fun _ _ _ _ _ _ _ aw _ _=>
 b0 (dY (jn (iP (e4 (fc (jl (ub _) T.fg T.pQ (by kernel_rfl) (az 0)))) (jS (ny aw.units (gn T.fJ (ai (az 0) (aV))) (gn T.fJ (ai (iN T.p3) (aV))))))) (bU (cL (iM))) (dZ))
  (bU (cL (uk aw T.pN (ai (c3 (pa (N:=["sign"]) 1 [] (by rfl) (Gv (az 0)) (mG 0) (nY) (fun _ _ _ _ _ _ _=>uq aw.units (az 0) (iN T.p2)))) (aV)))))
theorem De:fT P w K mg base "pattern_read" 1 2 w8:=by
 have h:=hC (P:=P) (w:=w) (mg:=mg) (base:=base) (k:=1) (m:=Ar) T.BP PD;exact h fun _ _ _ _ _ _ _ aw _ _=>
 b0 (dY (hW (e4 (fc (ew (C7 T) (aw.mono (by decide)) (ai (az 0) (aV)))))) (bU (jm T.me)) (dZ))
  (bU (hV (cL (az 0))))
theorem QQ:lp P w K mg base 6 yT:=⟨fun x mf h=>by
 unfold yT at h
 split at h
 ·rename_i e;subst e;cases h;exact⟨⟨_,by decide,De T⟩,T.Gb⟩
 split at h
 ·rename_i e;subst e;cases h;exact⟨⟨_,by decide,C4 T⟩,T.ug⟩
 split at h
 ·rename_i e;subst e;cases h;exact⟨⟨_,by decide,qM T⟩,T.uh⟩
 cases h⟩
theorem Dc:fT P w K mg base "number_or_none_read" 2 3 w6:=by
 have h:=hC (P:=P) (w:=w) (mg:=mg) (base:=base) (k:=2) (m:=An) T.BL PA;exact h fun _ _ _ _ _ _ _ aw _ _=>
 bU (cL (Rr (hW (iO aw.units (az 0) (az 1))) (RB) (gU gh (qM T) (aw.mono (by decide)) (ai (az 0) (aV)))))
theorem LH:fT P w K mg base "row_read" 1 4 DN:=by
 have h:=hC (P:=P) (w:=w) (mg:=mg) (base:=base) (k:=3) (m:=Au) T.BR E2;exact h fun _ _ _ _ _ _ _ aw _ _=>
 b0 (ee 1 E2.cn (gU gh (ou T) (aw.mono (by decide)) (ai (az 0) (ai (bh) (aV)))))
  (b0 (dY (hW (ny aw.units (gn T.fJ (ai (az 1) (aV))) (bb))) (bU (jm T.me)) (dZ))
  (bU (cL (gp (ai (gU gh (De T) (aw.mono (by decide)) (ai (c0 (az 1) (bb) b1) (aV))) (ai (gU gh (Dc T) (aw.mono (by decide)) (ai (c0 (az 1) (bb) b1) (ai (iN T.pU) (aV)))) (ai (gU gh (Dc T) (aw.mono (by decide)) (ai (c0 (az 1) (bb) b1) (ai (iN T.pV) (aV)))) (aV))))))))
theorem QR:lp P w K mg base 4 yU:=⟨fun x mf h=>by
 unfold yU at h
 split at h
 ·rename_i e;subst e;cases h;exact⟨⟨_,by decide,LH T⟩,T.y4⟩
 cases h⟩
theorem C_{k:Nat}{tab:Tab}(rY:lp P w K mg base k tab):fT P w K mg base "list_read" 2 (k+3) (w5 tab):=by
 have h:=hC (P:=P) (w:=w) (mg:=mg) (base:=base) (k:=k+2) (m:=Al tab) T.BJ Pz;exact h fun _ _ _ _ _ _ _ aw _ _=>
 b0 (hV (dY (iO aw.units (az 0) (iN T.p1)) (bU (uA (d6 (aV)))) (dZ)))
  (bU (uA (zj (N:=["part","read"]) 1 [1] uv (by rfl) (nz (gU gh (ou T) (aw.mono (by omega)) (ai (az 0) (ai (bh) (aV))))) (vk 0) (fun _ _ _ _ _ _ _=>um 1 tD rY (aw.mono (by omega)) (ai (az 0) (aV))))))
theorem Lp:fT P w K mg base "book_read" 1 8 DE:=by
 have h:=hC (P:=P) (w:=w) (mg:=mg) (base:=base) (k:=7) (m:=z5) T.Bm Pk;exact h fun _ _ _ _ _ _ _ aw _ _=>
 bU (cL (gU gh (C_ T (QR T)) (aw.mono (by decide)) (ai (az 0) (ai (nx T.y4) (aV)))))
theorem LJ:fT P w K mg base "step_read" 1 3 DP:=by
 have h:=hC (P:=P) (w:=w) (mg:=mg) (base:=base) (k:=2) (m:=Ax) T.BU E3;exact h fun _ _ _ _ _ _ _ aw _ _=>
 b0 (ee 1 E3.cn (gU gh (ou T) (aw.mono (by decide)) (ai (az 0) (ai (bh) (aV)))))
  (b0 (hV (dY (iO aw.units (az 1) (c3 (RL T.pO (ai (iN T.kA) (aV))))) (bU (cL (iN T.kA))) (dZ)))
  (b0 (dY (hW (jn (iP (ny aw.units (gn T.fJ (ai (az 1) (aV))) (bb)) (jS (zm aw.units (c0 (az 1) (bb) b1) (gp (ai (bh) (ai (bh) (ai (bh) (aV)))))))))) (bU (jm T.me)) (dZ))
  (bU (cL (gp (ai (c0 (az 1) (bb) b1) (ai (gU gh (qM T) (aw.mono (by decide)) (ai (c0 (az 1) (bb) b1) (aV))) (aV))))))))
theorem QS:lp P w K mg base 3 yV:=⟨fun x mf h=>by
 unfold yV at h
 split at h
 ·rename_i e;subst e;cases h;exact⟨⟨_,by decide,LJ T⟩,T.y5⟩
 cases h⟩
theorem Lu:eV P w K mg base "is_step" 2 3 DI:=by
 have h:=fR (P:=P) (w:=w) (mg:=mg) (base:=base) (k:=2) (m:=Ae) T.Bv Pr;exact h fun _ _ _ _ _ _ _ aw _ _=>
 b0 (dY (jn (iP (e4 (fc (jl (yZ _) T.fg T.mH (by kernel_rfl) (az 0)))) (iP (zm aw.units (gn T.fJ (ai (az 0) (aV))) (gp (ai (bb) (ai (bb) (aV))))) (jS (e4 (fc (jl (ub _) T.fg T.pQ (by kernel_rfl) (c0 (az 0) (bb) b1)))))))) (bU (cL (iM))) (dZ))
  (b0 (dY (iO aw.units (gn T.fJ (ai (az 0) (aV))) (bb)) (bU (cL (o9 aw.units (c0 (az 0) (bb) b1) (bh)))) (dZ))
  (bU (cL (mh (uq aw.units (c0 (az 0) (bb) b1) (gp (ai (bh) (ai (bh) (ai (bh) (aV)))))) (la (ew (qL T) (aw.mono (by decide)) (ai (c0 (az 0) (bb) b1) (ai (bb) (ai (mj (o_ T.jB (az 1)) (bb)) (aV))))))))))
theorem Lr:eV P w K mg base "is_plan" 2 4 DG:=by
 have h:=fR (P:=P) (w:=w) (mg:=mg) (base:=base) (k:=3) (m:=Ac) T.Bt EW;exact h fun _ _ _ _ _ _ _ aw _ _=>
 b0 (dY (jn (iP (e4 (fc (jl (yY _) T.fg T.pO (by kernel_rfl) (az 0)))) (jS (RZ (gn T.fJ (ai (az 0) (aV))) (iN T.p0))))) (bU (cL (iM))) (dZ))
  (b0 (dY (e4 (fc (uk aw T.pN (ai (c3 (pa (N:=["step","net"]) 1 [1] (by rfl) (nz (az 0)) (mG 0) (nY) (fun _ _ _ _ _ _ _=>ew (Lu T) (aw.mono (by decide)) (ai (az 0) (ai (az 1) (aV)))))) (aV))))) (bU (cL (iM))) (dZ))
  (b0 (Gr (RO (N:=["step"]) 2 1 [] EW.cn (by rfl) (nz (az 0)) (mG 0) (Rm (fun _ _ _ _ _ _ _=>ny aw.units (az 0) (iN T.kA))) (fun _ _ _ _ _ _ _=>az 0)))
  (bU (cL (o9 aw.units (Rx aw.hd aw.units T.fJ T.Aw (ai (az 2) (aV))) (gn T.fJ (ai (az 2) (aV))))))))
theorem LG:fT P w K mg base "plan_read" 2 7 DM:=by
 have h:=hC (P:=P) (w:=w) (mg:=mg) (base:=base) (k:=6) (m:=As) T.BQ E1;exact h fun _ _ _ _ _ _ _ aw _ _=>
 b0 (ee 2 E1.cn (gU gh (C_ T (QS T)) (aw.mono (by decide)) (ai (az 0) (ai (nx T.y5) (aV)))))
  (b0 (dY (hW (e4 (fc (ew (Lr T) (aw.mono (by decide)) (ai (az 2) (ai (az 1) (aV))))))) (bU (jm T.Gh)) (dZ))
  (bU (hV (cL (az 2)))))
theorem Ln:pB P w K mg base "Net" "is_door" 1 4 DB:=by
 have h:=Gm (P:=P) (w:=w) (mg:=mg) (base:=base) (k:=3) (m:=z1) T.Bj Pg;exact h fun _ _ _ _ _ _ _ aw _ _=>
 bU (cL (ew (wM T) (aw.mono (by decide)) (ai (o_ T.jB (az 0)) (ai (az 1) (aV)))))
theorem C3:pB P w K mg base "Net" "is_outer" 1 5 w0:=by
 have h:=Gm (P:=P) (w:=w) (mg:=mg) (base:=base) (k:=4) (m:=z2) T.Bk Ph;exact h fun _ _ _ _ _ _ _ aw _ _=>
 bU (cL (mh (zf (Ln T) (aw.mono (by decide)) (az 0) (ai (az 1) (aV))) (la (Rq aw.units (az 1) (o_ T.jB (az 0))))))
theorem Ls:eV P w K mg base "is_saying" 2 6 DH:=by
 have h:=fR (P:=P) (w:=w) (mg:=mg) (base:=base) (k:=5) (m:=Ad) T.Bu Pq;exact h fun _ _ _ _ _ _ _ aw _ _=>
 b0 (dY (jn (iP (e4 (fc (jl (yZ _) T.fg T.mH (by kernel_rfl) (az 0)))) (jS (zm aw.units (gn T.fJ (ai (az 0) (aV))) (gp (ai (bb) (ai (bb) (aV)))))))) (bU (cL (iM))) (dZ))
  (b0 (dY (jn (iP (e4 (fc (jl (ub _) T.fg T.pQ (by kernel_rfl) (c0 (az 0) (bb) b1)))) (iP (e4 (fc (ew (C7 T) (aw.mono (by decide)) (ai (c0 (az 0) (bb) b1) (aV))))) (jS (e4 (fc (zf (C3 T) (aw.mono (by decide)) (az 1) (ai (c0 (az 0) (bb) b1) (aV))))))))) (bU (cL (iM))) (dZ))
  (b0 (dY (iO aw.units (gn T.fJ (ai (az 0) (aV))) (bb)) (bU (cL (uq aw.units (c0 (az 0) (bb) b1) (gp (ai (bh) (ai (bh) (aV))))))) (dZ))
  (b0 (dY (iO aw.units (c0 (az 0) (bb) b1) (bh)) (bU (cL (zf (C3 T) (aw.mono (by decide)) (az 1) (ai (c0 (az 0) (bb) b1) (aV))))) (dZ))
  (bU (cL (mh (uq aw.units (c0 (az 0) (bb) b1) (gp (ai (bh) (ai (bh) (aV))))) (la (ew (qL T) (aw.mono (by decide)) (ai (c0 (az 0) (bb) b1) (ai (bb) (ai (mj (o_ T.jB (az 1)) (bb)) (aV))))))))))))
theorem LI:fT P w K mg base "saying_read" 2 7 DO:=by
 have h:=hC (P:=P) (w:=w) (mg:=mg) (base:=base) (k:=6) (m:=Av) T.BS tR;exact h fun _ _ _ _ _ _ _ aw _ _=>
 b0 (ee 2 tR.cn (gU gh (ou T) (aw.mono (by decide)) (ai (az 0) (ai (bh) (aV)))))
  (b0 (dY (hW (jn (iP (RY T.sf (c0 (az 2) (bb) b1) (nx T.uf)) (jS (ny aw.units (mj (gn T.fJ (ai (az 2) (aV))) (bb)) (gn T.fJ (ai (Gj T.sf (nx T.uf) (c0 (az 2) (bb) b1)) (aV)))))))) (bU (jm T.me)) (dZ))
  (b0 (Gr (RP (N:=["read","word"]) 3 2 [] uv tR.cn (by rfl) (R3 T.Az (ai (Gj T.sf (nx T.uf) (c0 (az 2) (bb) b1)) (ai (ur (az 2) (ux (bb)) (uw)) (aV)))) (Hk 0 1) (fun _ _ _ _ _ _ _=>um 0 tD (QQ T) (aw.mono (by decide)) (ai (az 1) (aV)))))
  (b0 (hV (ee 4 tR.cn (zh T.mH (ai (iL (c3 (d6 (ai (c0 (az 2) (bb) b1) (aV)))) (az 3)) (aV)))))
  (b0 (dY (hW (e4 (fc (ew (Ls T) (aw.mono (by decide)) (ai (az 4) (ai (az 1) (aV))))))) (bU (jm T.Gi)) (dZ))
  (bU (hV (cL (az 4))))))))
theorem C8:eV P w K mg base "_law_kinds" 3 12 q2:=by
 have h:=fR (P:=P) (w:=w) (mg:=mg) (base:=base) (k:=11) (m:=Aj) T.BC oW;exact h fun _ _ _ _ _ _ _ aw _ _=>
 b0 (ee 3 oW.cn (c3 (d6 (aV))))
  (b0 (RU 4 oW.cn T.FP (zk (iO aw.units (az 0) (bb)) (uy (LF T) (aw.mono (by decide)) (ai (az 1) (aV))) (zk (iO aw.units (az 0) (bb)) (uy (Lp T) (aw.mono (by decide)) (ai (az 1) (aV))) (zk (iO aw.units (az 0) (bb)) (uy (LG T) (aw.mono (by decide)) (ai (az 1) (ai (az 2) (aV)))) (uy (LI T) (aw.mono (by decide)) (ai (az 1) (ai (az 2) (aV))))))) (fun _=>b0 (ee 3 oW.cn (c3 (d6 (ai (Ru T.F8 T.fg T.z3 (az 4)) (ai (k_ T.F7 T.fg (az 4)) (ai (k_ T.F3 T.fg (az 4)) (ai (k_ T.F4 T.fg (az 4)) (aV))))))))
  (b0 (ee 3 oW.cn (iL (az 3) (c3 (d6 (ai (k_ T.F6 T.fg (az 4)) (ai (k_ T.F0 T.fg (az 4)) (ai (k_ T.F1 T.fg (az 4)) (aV))))))))
  (bU (ee 3 oW.cn (iL (az 3) (c3 (d6 (ai (k_ T.FZ T.fg (az 4)) (ai (k_ T.F5 T.fg (az 4)) (ai (k_ T.F2 T.fg (az 4)) (aV))))))))))))
  (bU (cL (az 3))))
theorem C9:eV P w K mg base "_law_right" 1 13 tj:=by
 have h:=fR (P:=P) (w:=w) (mg:=mg) (base:=base) (k:=12) (m:=Ak) T.BG EY;exact h fun _ _ _ _ _ _ _ aw _ _=>
 b0 (ee 1 EY.cn (c3 (d6 (ai (bh) (ai (bh) (ai (bh) (ai (bh) (aV))))))))
  (bU (cL (o9 aw.units (c3 (pa (N:=["_law_which","_law_net","_law_good"]) 1 [0,1] (by rfl) (uC T.pP (ai (bb) (aV))) (mG 0) (nY) (fun _ _ _ _ _ _ _=>ew (C8 T) (aw.mono (by decide)) (ai (az 0) (ai (c0 (az 2) (az 0) b1) (ai (az 1) (aV))))))) (c3 (d6 (ai (c3 (d6 (aV))) (ai (c3 (d6 (aV))) (ai (c3 (d6 (aV))) (ai (c3 (d6 (aV))) (aV))))))))))
theorem m4:eV P w K mg base "_law_due" 1 1 lW:=by
 have h:=fR (P:=P) (w:=w) (mg:=mg) (base:=base) (k:=0) (m:=Ai) T.BB Pw;exact h fun _ _ _ _ _ _ _ aw _ _=>
 bU (uA (RK (c3 (d6 (ai (iM) (aV)))) (c3 (pa (N:=["_law_k","_law_place"]) 1 [0] (by rfl) (uC T.pP (ai (bb) (aV))) (mG 0) (nY) (fun _ _ _ _ _ _ _=>o9 aw.units (az 0) (az 1))))))
theorem LA:eV P w K mg base "_law_net_text" 1 2 q3:=by
 have h:=fR (P:=P) (w:=w) (mg:=mg) (base:=base) (k:=1) (m:=vf) T.BE tO;exact h fun _ _ _ _ _ _ _ aw _ _=>
 b0 (ee 1 tO.cn (c3 (d6 (ai (bh) (ai (bh) (ai (bh) (ai (bh) (ai (bh) (ai (bh) (ai (bh) (ai (bh) (ai (bh) (ai (bh) (ai (bh) (ai (bh) (aV))))))))))))))))
  (b0 (ee 1 tO.cn (iL (az 1) (c3 (d6 (ai (bh) (ai (bh) (ai (bh) (ai (bh) (ai (bh) (ai (bh) (ai (bh) (ai (bh) (aV)))))))))))))
  (b0 (ee 2 tO.cn (c3 (d6 (ai (bh) (ai (bh) (ai (bh) (ai (bh) (ai (bh) (ai (bh) (ai (bh) (ai (bh) (aV))))))))))))
  (b0 (dY (uB (g9 (az 0) (bb)) (bb)) (bU (cL (gp (ai (c0 (az 1) (g9 (az 0) (bb)) b1) (ai (c3 (ml (m4 T) (aw.mono (by decide)) (ai (bb) (aV)))) (aV)))))) (dZ))
  (bU (cL (gp (ai (c0 (az 2) (mj (g9 (az 0) (bb)) (bb)) b1) (ai (c3 (ml (m4 T) (aw.mono (by decide)) (ai (bb) (aV)))) (aV)))))))))
theorem Lx:eV P w K mg base "_law_book_text" 1 2 q0:=by
 have h:=fR (P:=P) (w:=w) (mg:=mg) (base:=base) (k:=1) (m:=vc) T.Bz tN;exact h fun _ _ _ _ _ _ _ aw _ _=>
 b0 (ee 1 tN.cn (c3 (d6 (ai (bh) (ai (bh) (ai (bh) (ai (bh) (ai (bh) (ai (bh) (ai (bh) (ai (bh) (ai (bh) (ai (bh) (aV))))))))))))))
  (b0 (ee 1 tN.cn (iL (az 1) (c3 (d6 (ai (bh) (ai (bh) (ai (bh) (ai (bh) (ai (bh) (aV))))))))))
  (b0 (ee 1 tN.cn (iL (az 1) (c3 (d6 (ai (bh) (ai (bh) (ai (bh) (ai (bh) (ai (bh) (ai (bh) (ai (bh) (aV))))))))))))
  (bU (cL (gp (ai (c0 (az 1) (g9 (az 0) (bb)) b1) (ai (c3 (ml (m4 T) (aw.mono (by decide)) (ai (bb) (aV)))) (aV))))))))
theorem LB:eV P w K mg base "_law_plan_text" 1 2 q4:=by
 have h:=fR (P:=P) (w:=w) (mg:=mg) (base:=base) (k:=1) (m:=vg) T.BF tP;exact h fun _ _ _ _ _ _ _ aw _ _=>
 b0 (ee 1 tP.cn (c3 (d6 (ai (bh) (ai (bh) (ai (bh) (ai (bh) (ai (bh) (ai (bh) (ai (bh) (ai (bh) (ai (bh) (ai (bh) (ai (bh) (aV)))))))))))))))
  (b0 (ee 1 tP.cn (iL (az 1) (c3 (d6 (ai (bh) (ai (bh) (ai (bh) (ai (bh) (ai (bh) (ai (bh) (ai (bh) (ai (bh) (aV)))))))))))))
  (b0 (ee 2 tP.cn (c3 (d6 (ai (bh) (ai (bh) (ai (bh) (ai (Rw (ai (RE (c3 (d6 (ai (bh) (aV)))) (bb)) (aV))) (ai (bh) (ai (bh) (aV))))))))))
  (b0 (dY (uB (g9 (az 0) (bb)) (bb)) (bU (cL (gp (ai (c0 (az 1) (g9 (az 0) (bb)) b1) (ai (c3 (ml (m4 T) (aw.mono (by decide)) (ai (bb) (aV)))) (aV)))))) (dZ))
  (bU (cL (gp (ai (c0 (az 2) (mj (g9 (az 0) (bb)) (bb)) b1) (ai (c3 (ml (m4 T) (aw.mono (by decide)) (ai (bb) (aV)))) (aV)))))))))
theorem LC:eV P w K mg base "_law_saying_text" 1 2 q5:=by
 have h:=fR (P:=P) (w:=w) (mg:=mg) (base:=base) (k:=1) (m:=vh) T.BH rj;exact h fun _ _ _ _ _ _ _ aw _ _=>
 b0 (ee 1 rj.cn (c3 (d6 (ai (bh) (ai (bh) (ai (bh) (ai (bh) (ai (bh) (ai (bh) (ai (bh) (aV)))))))))))
  (b0 (ee 1 rj.cn (iL (az 1) (c3 (d6 (ai (bh) (ai (bh) (ai (bh) (ai (bh) (ai (bh) (ai (bh) (aV)))))))))))
  (b0 (ee 1 rj.cn (iL (az 1) (c3 (d6 (ai (bh) (ai (bh) (ai (bh) (ai (bh) (ai (bh) (aV))))))))))
  (b0 (ee 2 rj.cn (c3 (d6 (ai (bh) (ai (bh) (ai (bh) (ai (bh) (ai (bh) (ai (bh) (aV))))))))))
  (b0 (dY (uB (g9 (az 0) (bb)) (bb)) (bU (cL (gp (ai (c0 (az 1) (g9 (az 0) (bb)) b1) (ai (c3 (ml (m4 T) (aw.mono (by decide)) (ai (bb) (aV)))) (aV)))))) (dZ))
  (bU (cL (gp (ai (c0 (az 2) (mj (g9 (az 0) (bb)) (bb)) b1) (ai (c3 (ml (m4 T) (aw.mono (by decide)) (ai (bb) (aV)))) (aV))))))))))
theorem LD:eV P w K mg base "_law_text" 2 3 kf:=by
 have h:=fR (P:=P) (w:=w) (mg:=mg) (base:=base) (k:=2) (m:=nX) T.BI Py;exact h fun _ _ _ _ _ _ _ aw _ _=>
 b0 (dY (iO aw.units (az 0) (bb)) (bU (cL (ew (LA T) (aw.mono (by decide)) (ai (az 1) (aV))))) (dZ))
  (b0 (dY (iO aw.units (az 0) (bb)) (bU (cL (ew (Lx T) (aw.mono (by decide)) (ai (az 1) (aV))))) (dZ))
  (b0 (dY (iO aw.units (az 0) (bb)) (bU (cL (ew (LB T) (aw.mono (by decide)) (ai (az 1) (aV))))) (dZ))
  (bU (cL (ew (LC T) (aw.mono (by decide)) (ai (az 1) (aV)))))))
theorem Ly:eV P w K mg base "_law_draws" 2 1 q1:=by
 have h:=fR (P:=P) (w:=w) (mg:=mg) (base:=base) (k:=0) (m:=vd) T.BA nh;exact h fun _ _ _ _ _ _ _ aw _ _=>
 b0 (RT 2 nh.cn (d6 (aV)))
  (b0 (ee 3 nh.cn (uo (az 0) (bb)))
  (b0 (uz Yr (uC T.pP (ai (az 1) (aV))) (oJ 4 nh.cn) (bU (dY (iO aw.units (g9 (az 0) (bb)) (bb)) (b0 (ee 5 nh.cn (c0 (c3 (d6 (ai (bb) (ai (bb) (ai (bb) (ai (bb) (aV))))))) (g9 (uo (az 4) (bb)) (bb)) b1))
  (b0 (ee 6 nh.cn (c0 (c3 (d6 (ai (bb) (ai (bb) (ai (bb) (ai (bb) (aV))))))) (g9 (az 4) (bb)) b1))
  (bU (Gp 2 (uo (g9 (Gk (iL (iL (g9 (az 3) (zg (bb) (bb))) (Gk (bb) (az 4))) (bb)) (az 6)) (az 5)) (bb)))))) (b0 (Gp 2 (g9 (az 3) (zg (bb) (bb))))
  (bU (ee 3 nh.cn (uo (az 3) (zg (bb) (bb)))))))))
  (bU (RQ 2))))
theorem Lz:eV P w K mg base "_law_mixed" 2 2 ti:=by
 have h:=fR (P:=P) (w:=w) (mg:=mg) (base:=base) (k:=1) (m:=ve) T.BD Px;exact h fun _ _ _ _ _ _ _ aw _ _=>
 bU (cL (c0 (c3 (ml (Ly T) (aw.mono (by decide)) (ai (az 0) (ai (iL (az 1) (bb)) (aV))))) (az 1) b1))
theorem Hh(f:VD)(b6:Vw)(A:V0)(outer:List Env)(s:Vx)(H:ae)(E:cj)(aw:dg 13 (A.deeper (WC "law" (bW l6) s.heap.objs.size f b6)))(G0 H0:ae):hn (d4 ha P w K mg base ["_law_script","_law_net","_law_cell","_law_which","_law_text_here","_law_due_here"] "law" (bW l6) f b6 A outer s H E).fL (eH K G0 H0) (fy l6) vb:=
 b0 (ee 1 oV.cn (Ry (C2 T) (aw.mono (by decide)) (ai (c3 (d6 (ai (bb) (ai (bb) (ai (bb) (aV)))))) (ai (c3 (d6 (ai (gp (ai (gp (ai (bb) (ai (bb) (aV)))) (ai (gp (ai (bb) (ai (bb) (aV)))) (aV)))) (aV)))) (aV)))))
  (b0 (dY (e4 (fc (ew (C9 T) (aw.mono (by decide)) (ai (az 1) (aV))))) (bU (cL (iM))) (dZ))
  (b0 (uz Yr (nz (iL (c3 (d6 (ai (bb) (aV)))) (ur (az 0) (uw) (ux (bb))))) (oJ 2 oV.cn) (bU (uz Yr (uC T.pP (ai (bb) (aV))) (oJ 3 oV.cn) (b0 (RV (ew (LD T) (aw.mono (by decide)) (ai (az 3) (ai (ew (Lz T) (aw.mono (by decide)) (ai (az 2) (ai (az 3) (aV)))) (aV)))) (ML rfl (DY (oJ 4 oV.cn) (DY (oJ 5 oV.cn) (MK)))))
  (bU (dY (ny aw.units (ew (C8 T) (aw.mono (by decide)) (ai (az 3) (ai (az 4) (ai (az 1) (aV))))) (az 5)) (bU (cL (iM))) (dZ)))))))
  (bU (cL (ew (C9 T) (aw.mono (by decide)) (ai (az 1) (aV)))))))
end
end cR
namespace cR
open PySem PySem.Spec aY bo
theorem Er(P:Int→Prop){a b c d:Int}(ah:P a)(J:P b)(aq:P c)(hd:P d)(x:Int):∃y,P y∧cE (.lst [.int a,.int b,.int c,.int d]) (.int (x%4))=.ok (.int y):=by
 have h:x%4=0∨x%4=1∨x%4=2∨x%4=3:=by omega
 rcases h with h|h|h|h<;>rw[h]
 ·exact⟨a,ah,rfl⟩
 ·exact⟨b,J,rfl⟩
 ·exact⟨c,aq,rfl⟩
 ·exact⟨d,hd,rfl⟩
theorem H2(c:Int)(n:Nat)(aK:n<1000):∃ys:List Int,ys.length=n∧q1 [.int c,.int n]=.ok (.o (ys.map D.int)):=by
 let I:Nat→ar→Prop:=fun j ρ=>∃(ys:List Int)(r:Int)(s4 s5 jK:dx),ys.length=j∧ρ=[.b4 (.int c),.b4 (.int n),.en (ys.map D.int),.b4 (.int r),s4,s5,jK]
 have L:=B0 (mi:=kS (ag (ay 1) (aR))) (set:=dH 4) (ρ:=[.b4 (.int c),.b4 (.int n),.en [],.b4 (.int (c/2)),.un,.un,.un]) (ds:=g7 0 n) I (body:=(dt (b5 (aE (dz true) (aE fa (ay 0) (aj (.int 2))) (aj (.int 1)))) (bP (dC 5 (aE cE (cO (du (ag (aj (.int 2147483647)) (ag (aj (.int 2147483629)) (ag (aj (.int 2147483587)) (ag (aj (.int 2147483579)) (aR))))))) (aE fa (aE kB (ay 4) (aj (.int 4))) (aj (.int 4)))))
  (bP (dC 6 (aE cE (cO (du (ag (aj (.int 48271)) (ag (aj (.int 69621)) (ag (aj (.int 16807)) (ag (aj (.int 39373)) (aR))))))) (aE fa (ay 4) (aj (.int 4)))))
  (m5 2 (aE kB (aE fa (aE nd (aE fH (aE fH (aE fa (ay 3) (aE jH (aj (.int 10)) (aj (.int 30)))) (aE nd (aj (.int 7919)) (ay 4))) (aj (.int 1))) (ay 6)) (ay 5)) (aj (.int 7)))))) (bP (m5 2 (aE fa (ay 3) (aE jH (aj (.int 10)) (aj (.int 6)))))
  (dC 3 (aE kB (ay 3) (aE jH (aj (.int 10)) (aj (.int 6)))))))) (by simp[show n<1000000 by omega]) (fun j d ρ hd gJ=>?_) ⟨[],c/2,.un,.un,.un,rfl,rfl⟩
 ·obtain⟨bC,e,ys,r,s4,s5,jK,ak,rfl⟩:=L;refine⟨ys,by simpa using ak,?_⟩;simp(disch:=first|omega|(simp;done)|(simp;omega)) [q1,vd,e]
 ·obtain⟨cV,rfl⟩:=EP hd;obtain⟨ys,r,s4,s5,jK,ak,rfl⟩:=gJ;obtain⟨p,bf,b7⟩:=Er (fun y=>0<y) (a:=2147483647) (b:=2147483629) (c:=2147483587) (d:=2147483579) (by decide) (by decide) (by decide) (by decide) ((j:Int)/4);obtain⟨f,hf,mM⟩:=Er (fun y=>0<y∧y<2^64) (a:=48271) (b:=69621) (c:=16807) (d:=39373) (by decide) (by decide) (by decide) (by decide) (j:Int);have SS:f<18446744073709551616:=hf.2;have SR:=hf.1;by_cases aq:c%2=1
  ·exact⟨_,_,by simp;rfl,by simp(disch:=first|omega|(simp;done)|(simp;omega)) [aq,b7,mM,Og];rfl,ys++[_],r,_,_,_,by simp[ak],by simp;exact⟨rfl,rfl,rfl,rfl⟩⟩
  ·exact⟨_,_,by simp;rfl,by simp(disch:=first|omega|(simp;done)|(simp;omega)) [aq,Oh];rfl,ys++[_],_,_,_,_,by simp[ak],by simp;exact⟨rfl,rfl,rfl,rfl,rfl⟩⟩
theorem Mv(c:Int)(k:Nat)(aH:k<900):∃y:Int,ti [.int c,.int k]=.ok (.v (.int y)):=by
 obtain⟨ys,ak,e⟩:=H2 c (k+1) (by omega);have h:k<ys.length:=by omega
 refine⟨ys[k],?_⟩;have bN:q1 [.int c,.int ((k:Int)+1)]=.ok (.o (ys.map D.int)):=by rw[←e];rfl
 simp(disch:=first|omega|(simp;done)|(simp;omega)) [ti,ve,bN,KW h]
noncomputable def oK:D:=match oE [.lst [.int 2,.int 3,.int 1],.lst [.tup [.tup [.int 0,.int 1],.tup [.int 1,.int 0]]]]with|.ok x=>.ins "Net" x.1 x.2 |_=>.non
noncomputable def CT(w:Nat)(t d:D):Bool:=match q2 [.int w,t,oK]with
 |.ok (.v e)=>(match dz false e d with|.ok (.aU b)=>!b|_=>false)
 |_=>false
noncomputable def lA(w:Nat)(r:Int):Bool:=match kf [.int w,.int r]with
 |.ok (.v (.tup [t,d]))=>CT w t d
 |_=>false
set_option maxHeartbeats 0
theorem Hy:((Wk 28).all fun r=>lA 0 r)=true:=by decide+kernel
theorem Hz:((Wk 22).all fun r=>lA 1 r)=true:=by decide+kernel
theorem HA:((Wk 25).all fun r=>lA 2 r)=true:=by decide+kernel
theorem HB:((Wk 24).all fun r=>lA 3 r)=true:=by decide+kernel
theorem ET:tj [oK]=.ok (.v (.aU true)):=by kernel_rfl
end cR
namespace cR
open PySem PySem.Spec aY bo
theorem Hi{β:Type}(r:R β):r.bind R.ok=r:=by cases r<;>rfl
theorem Ia{β:Type}{r:R β}{T:β→Prop}(h:Ends (r.bind R.ok) T):Ends r T:=by rwa [Hi]at h
theorem MS(n:Int):q3 [.int n]=q3 [.int (n%28)]:=by by_cases h:n%28<20<;>simp(disch:=first|omega|(simp;done)|(simp;omega)) [q3,vf,h]
theorem Hj(n:Int):q0 [.int n]=q0 [.int (n%22)]:=by simp(disch:=first|omega|(simp;done)|(simp;omega)) [q0,vc]
noncomputable def Rg:D:=match wI (PySem.Str.ofString ", ") [.lst (VY 41 (.str (PySem.Str.ofString "wait")))]with|.ok d=>d|_=>.non
theorem K2(ρ:ar):td (PySem.Str.ofString ", ") (ag (aE ng (cO (du (ag (aj (.str (PySem.Str.ofString "wait"))) (aR)))) (aj (.int 41))) (aR)) ρ=.ok Rg:=by kernel_rfl
theorem Oc(n:Int):q4 [.int n]=q4 [.int (n%25)]:=by by_cases h:n%25<19<;>simp(disch:=first|omega|(simp;done)|(simp;omega)) [q4,vg,h,K2]
theorem Pe(n:Int):q5 [.int n]=q5 [.int (n%24)]:=by by_cases h:n%24<18<;>simp(disch:=first|omega|(simp;done)|(simp;omega)) [q5,vh,h]
theorem QL(w:Nat)(hw:w<4)(n:Int):∃r:Int,kf [.int w,.int n]=kf [.int w,.int r]∧lA w r=true:=by
 have tH:∀(m:Nat),0<m→((Wk m).all fun r=>lA w r)=true→lA w (n%m)=true:=fun m hm h=>by
  have h1:0≤n%(m:Int):=Int.emod_nonneg _ (by omega);have h2:n%(m:Int)<m:=Int.emod_lt_of_pos _ (by omega);have:=List.all_eq_true.mp h (n%(m:Int)).toNat (List.mem_range.mpr (by omega))
  rwa [Int.toNat_of_nonneg h1]at this
 have aq:w=0∨w=1∨w=2∨w=3:=by omega
 rcases aq with rfl|rfl|rfl|rfl
 ·exact⟨n%28,by simp[kf,nX];rw[MS n],tH 28 (by decide) Hy⟩
 ·exact⟨n%22,by simp[kf,nX];rw[Hj n],tH 22 (by decide) Hz⟩
 ·exact⟨n%25,by simp[kf,nX];rw[Oc n],tH 25 (by decide) HA⟩
 ·exact⟨n%24,by simp[kf,nX];rw[Pe n],tH 24 (by decide) HB⟩
theorem QK(w:Nat)(hw:w<4)(n:Int):∃t d e,kf [.int w,.int n]=.ok (.v (.tup [t,d]))∧q2 [.int w,t,oK]=.ok (.v e)∧dz false e d=.ok (.aU false):=by
 obtain⟨r,ao,aA⟩:=QL w hw n;unfold lA at aA
 split at aA
 ·rename_i t d q;unfold CT at aA
  split at aA
  ·rename_i e a9
   split at aA
   ·rename_i b c5;cases b with
    |false=>exact⟨t,d,e,by rw[ao,q],a9,c5⟩
    |true=>cases aA
   ·cases aA
  ·cases aA
 ·cases aA
noncomputable def xh:List Str×List D:=match oE [.lst [.int 2,.int 3,.int 1],.lst [.tup [.tup [.int 0,.int 1],.tup [.int 1,.int 0]]]]with|.ok x=>x|_=>([],[])
theorem KC:oE [.lst [.int 2,.int 3,.int 1],.lst [.tup [.tup [.int 0,.int 1],.tup [.int 1,.int 0]]]]=.ok xh:=by kernel_rfl
theorem MR:D.ins (PySem.Str.ofString "Net") xh.1 xh.2=oK:=by kernel_rfl
theorem M4{β:Type}(b:β):gO (.ok b:R β)=.ok b:=rfl
theorem Hx(ns:List Int):(fH (D.lst [D.int 11]) (D.lst (iY (List.map D.int ns) none (some 40)))).bind tS=R.ok (D.int 11::List.take 40 (List.map (fun c=>D.int c) ns)):=by have e:iY (List.map D.int ns) none (some 40)=(ns.map D.int).take 40:=HF _ 40;rw[e,GZ (by simp;omega)];rfl
theorem LU(ns:List Int):m_ [.cP (ns.map D.int)]=.ok (.v (.aU true)):=by
 refine Ends.done ?_;simp[m_,vb,KC,M4,MR,ET];refine H9 (fun c:Int=>D.int c) (11::ns.take 40) (fun j ρ=>∃s2 s3 s4 s5,ρ=[.b4 (.cP (ns.map D.int)),.b4 oK,s2,s3,s4,s5]) (by simp[Hx]) ⟨_,_,_,_,rfl⟩ ?_ ?_
 ·rintro j c _ cV ⟨s2,s3,s4,s5,rfl⟩;simp;refine Ia (H_ 4 (fun j ρ=>∃s3 s4 s5,ρ=[.b4 (.cP (ns.map D.int)),.b4 oK,.b4 (.int c),s3,s4,s5]) (by simp;rfl) ⟨_,_,_,rfl⟩ ?_ ?_)
  ·rintro i _ af ⟨s3,s4,s5,rfl⟩;obtain⟨y,fU⟩:=Mv c i (by omega);obtain⟨t,d,e,ao,aA,b9⟩:=QK i af y;simp[fU,ao,aA,b9]
  ·rintro _ ⟨s3,s4,s5,rfl⟩;simp
 ·rintro _ ⟨s2,s3,s4,s5,rfl⟩;simp[ET]
theorem ke{P:Str→Bool→Prop}:∀c x,([]:List (Str×Bool)).lookup c=some x→P c x:=fun _ _ h=>nomatch h
theorem dr{P:Str→Bool→Prop}{a:Str}{b:Bool}{l:List (Str×Bool)}(h:P a b)(t:∀c x,l.lookup c=some x→P c x):∀c x,((a,b)::l).lookup c=some x→P c x:=fun c x e=>by
 rw[XD]at e
 split at e
 ·rename_i k;rw[beq_iff_eq]at k;cases e;rw[k];exact h
 ·exact t c x e
theorem HD{P:Str→Prop}:∀c,([]:List Str).contains c=true→P c:=fun _ h=>nomatch h
theorem sd{P:Str→Prop}{a:Str}{l:List Str}(h:P a)(t:∀c,l.contains c=true→P c):∀c,(a::l).contains c=true→P c:=fun c e=>by
 rw[List.contains_cons,Bool.or_eq_true]at e;rcases e with k|k
 ·rw[beq_iff_eq]at k;rw[k];exact h
 ·exact t c k
theorem RG{P:VR}{w:V9}{K:PySem.W.Frag}{mg:Str→Option Vw}{base:Wv}{x:Str}{st:WO}{N aP:List Str}{k:Nat}{m:bp}{f:VD}{fd:WM}(fn:jV K x x st f fd)(S:c1 N aP (bW st))(h:∀(f:VD)(b6:Vw)(A:V0)(outer:List PySem.Env)(s:Vx)(H:ae)(E:cj),dg k (A.deeper (WC x (bW st) s.heap.objs.size f b6))→∀G0 H0,hn (d4 ha P w K mg base N x (bW st) f b6 A outer s H E).fL (eH K G0 H0) (fy st) m) :
  gs P w K mg base ha (k+1) f fd aP (kY K aP.length (c2 N.length m)):=fn.ok S tT fun b6 A outer s H vs Q E aw hs=>by
 obtain⟨G,bH⟩:=r6 hs;exact⟨_,(h f b6 A outer s H E aw G H).1,bH⟩
structure dk(K:PySem.W.Frag)(x:Str)(st:WO):Prop where
 ex:∃(f:VD)(dh an:Option VD)(cb:Array (Option Vw))(eu cB hL pm cd cv:Vw),PySem.W.nsIn K VF x=some (some (.ref f))∧K.lookup f=some ⟨eu,dh,.func (PySem.W.fnOf x x (iu st) (fy st) (bW st) .none cB hL pm an cd cv),cb⟩∧PySem.W.codeIn K cd x=true∧PySem.W.keepIn K (.ref f)=true
theorem dN{K:PySem.W.Frag}{x:Str}{st:WO}{f:VD}{dh an:Option VD}{cb:Array (Option Vw)}{eu cB hL pm cd cv:Vw}(a:PySem.W.nsIn K VF x=some (some (.ref f)))(l:K.lookup f=some ⟨eu,dh,.func (PySem.W.fnOf x x (iu st) (fy st) (bW st) .none cB hL pm an cd cv),cb⟩)(c:PySem.W.codeIn K cd x=true)(k:PySem.W.keepIn K (.ref f)=true):dk K x st:=⟨f,dh,an,cb,eu,cB,hL,pm,cd,cv,a,l,c,k⟩
theorem dM{K:PySem.W.Frag}{h:Wv}{mg:Str→Option Vw}{x:Str}{st:WO}{aP:List Str}(X:K.In h)(G:h.Ns VF mg)(F:dk K x st)(b:∀(cB doc pm:Vw)(an:Option VD)(b6 cv:Vw)(us:List Vw),us.length=aP.length→Z5 (PySem.W.fnOf x x (iu st) (fy st) (bW st) .none cB doc pm an b6 cv) ⟨us,[]⟩=pure (aP.zip us)):di K mg x st aP:=by obtain⟨f,dh,an,cb,eu,cB,hL,pm,cd,cv,a,l,c,k⟩:=F.ex;exact Iq (st:=st) X G a l c k b
theorem qi{K:PySem.W.Frag}{h:Wv}{mg:Str→Option Vw}{x:Str}{st:WO}(X:K.In h)(G:h.Ns VF mg)(F:dk K x st):kn K mg x:=by obtain⟨f,dh,an,cb,eu,cB,hL,pm,cd,cv,a,l,c,k⟩:=F.ex;exact⟨⟨f,PySem.W.mg_of X G a,a⟩⟩
structure nP(K:PySem.W.Frag)(C:VD)(x qual:Str)(st:WO):Prop where
 ex:∃(f:VD)(dh an:Option VD)(cb:Array (Option Vw))(eu cB hL pm cd cv:Vw),PySem.W.findIn K (.ref C) x=some (some (.ref f))∧K.lookup f=some ⟨eu,dh,.func (PySem.W.fnOf x qual (iu st) (fy st) (bW st) .none cB hL pm an cd cv),cb⟩∧PySem.W.codeIn K cd qual=true∧PySem.W.keepIn K (.ref f)=true∧PySem.W.isFn K (.ref f)=true
theorem xb{K:PySem.W.Frag}{C:VD}{x qual:Str}{st:WO}{f:VD}{dh an:Option VD}{cb:Array (Option Vw)}{eu cB hL pm cd cv:Vw}(a:PySem.W.findIn K (.ref C) x=some (some (.ref f)))(l:K.lookup f=some ⟨eu,dh,.func (PySem.W.fnOf x qual (iu st) (fy st) (bW st) .none cB hL pm an cd cv),cb⟩)(c:PySem.W.codeIn K cd qual=true)(k:PySem.W.keepIn K (.ref f)=true)(i:PySem.W.isFn K (.ref f)=true):nP K C x qual st:=⟨f,dh,an,cb,eu,cB,hL,pm,cd,cv,a,l,c,k,i⟩
theorem DW{K:PySem.W.Frag}{bt x qual:Str}{C:VD}{st:WO}{aP:List Str}(n:PySem.W.nsIn K VF bt=some (some (.ref C)))(g1:PySem.W.plainGet K C Str.empty=true)(g2:PySem.W.hasDictIn K C=true)(g3:PySem.W.plainOver K C=true)(gY:PySem.W.findIn K (.ref C) "__setattr__"=some (some (.builtin "object.__setattr__")))(F:nP K C x qual st)(b:∀(cB doc pm:Vw)(an:Option VD)(b6 cv:Vw)(us:List Vw),us.length=aP.length→Z5 (PySem.W.fnOf x qual (iu st) (fy st) (bW st) .none cB doc pm an b6 cv) ⟨us,[]⟩=pure (aP.zip us)):rR K bt x qual st aP:=by obtain⟨f,dh,an,cb,eu,cB,hL,pm,cd,cv,a,l,c,k,i⟩:=F.ex;exact⟨⟨C,f,_,n,⟨g1,g2,g3,gY⟩,⟨a,i,k⟩,mS (st:=st) l c k,(mS (st:=st) l c k).binds b⟩⟩
theorem Ms{K:PySem.W.Frag}{h:Wv}{mg:Str→Option Vw}{bt qual:Str}{C:VD}{st:WO}{aP:List Str}(X:K.In h)(G:h.Ns VF mg)(n:PySem.W.nsIn K VF bt=some (some (.ref C)))(mk:PySem.W.makesIn K C=true)(m3:PySem.W.keepIn K (.ref C)=true)(F:nP K C "__init__" qual st)(b:∀(cB doc pm:Vw)(an:Option VD)(b6 cv:Vw)(us:List Vw),us.length=aP.length→Z5 (PySem.W.fnOf "__init__" qual (iu st) (fy st) (bW st) .none cB doc pm an b6 cv) ⟨us,[]⟩=pure (aP.zip us)):InK K mg bt qual st aP:=by obtain⟨f,dh,an,cb,eu,cB,hL,pm,cd,cv,a,l,c,k,i⟩:=F.ex;exact⟨⟨C,f,_,n,⟨mk,a,i,m3⟩,mS (st:=st) l c k,PySem.W.mg_of X G n,(mS (st:=st) l c k).binds b⟩⟩
set_option maxHeartbeats 4000000 in
theorem Q4{K:PySem.W.Frag}{h:Wv}{mg:Str→Option Vw}{hb:VD}{dU:VD}{R9:ClassData}{dR:VD}{R6:ClassData}{dS:VD}{R7:ClassData}{dT:VD}{R8:ClassData}{nF:VD}{nG:VD}{nH:VD}{nI:VD}{nJ:VD}{nK:VD}{Qo:Tok}{Qp:Tok}{Qq:Tok}{Qr:Tok}{Qs:Tok}{Qt:Tok}{Qu:Tok}{Qv:Tok}{uI:VD}{HS:Option VD}{MH:Nat}{PT:Array (Option Vw)}{QB QC QD:Tok}{uJ:VD}{HT:Option VD}{MI:Nat}{PU:Array (Option Vw)}{QE:Tok}{uK:VD}{HU:Option VD}{MJ:Nat}{PV:Array (Option Vw)}{QF QG QH QI:Tok}{mu:VD}{uM:VD}{nM:VD}{pd:VD}{MB:Nat}{JD JE JF JG JH:Int}{Qw Qx Qy Qz QA:Tok}{zM zN zO zP zQ:VD}{HN HO HP HQ HR:Option VD}{MC MD ME MF MG:Nat}{PN PO PQ PR PS:Array (Option Vw)}(X:K.In h)(G:h.Ns VF mg)(n_Net:PySem.W.nsIn K VF "Net"=some (some (.ref hb)))(g1_Net:PySem.W.plainGet K hb Str.empty=true)(g2_Net:PySem.W.hasDictIn K hb=true)(g3_Net:PySem.W.plainOver K hb=true)(g4_Net:PySem.W.findIn K (.ref hb) "__setattr__"=some (some (.builtin "object.__setattr__")))(u_Net_many:PySem.W.findIn K (.ref hb) "many"=some none)(u_Net_counts:PySem.W.findIn K (.ref hb) "counts"=some none)(u_Net_joined:PySem.W.findIn K (.ref hb) "joined"=some none)(u_Net_far:PySem.W.findIn K (.ref hb) "far"=some none)(mk_Net:PySem.W.makesIn K hb=true)(kc_Net:PySem.W.keepIn K (.ref hb)=true)(n_NoText:PySem.W.nsIn K VF "NoText"=some (some (.ref dU)))(ct_NoText:PySem.W.clsIn K dU=some R9)(e1_NoText:PySem.W.excIn K dU [.type "ValueError",.type "Exception",.type "BaseException",.type "object"] "ValueError.__new__"=true)(ga_NoText:PySem.W.findIn K (.ref dU) "__getattribute__"=some (some (.builtin "BaseException.__getattribute__")))(gn_NoText:PySem.W.findIn K (.ref dU) "__getattr__"=some none)(cl_NoText:PySem.W.findIn K (.ref dU) "__class__"=some (some (.builtin "object.__class__")))(sb_NoText:PySem.W.subIn K (.ref dU) (.type "BaseException")=some true)(mo_NoText:PySem.W.mroIn K dU (.type "object")=some true)(n_NoNet:PySem.W.nsIn K VF "NoNet"=some (some (.ref dR)))(ct_NoNet:PySem.W.clsIn K dR=some R6)(e1_NoNet:PySem.W.excIn K dR [.type "ValueError",.type "Exception",.type "BaseException",.type "object"] "ValueError.__new__"=true)(ga_NoNet:PySem.W.findIn K (.ref dR) "__getattribute__"=some (some (.builtin "BaseException.__getattribute__")))(gn_NoNet:PySem.W.findIn K (.ref dR) "__getattr__"=some none)(cl_NoNet:PySem.W.findIn K (.ref dR) "__class__"=some (some (.builtin "object.__class__")))(sb_NoNet:PySem.W.subIn K (.ref dR) (.type "BaseException")=some true)(mo_NoNet:PySem.W.mroIn K dR (.type "object")=some true)(n_NoPlan:PySem.W.nsIn K VF "NoPlan"=some (some (.ref dS)))(ct_NoPlan:PySem.W.clsIn K dS=some R7)(e1_NoPlan:PySem.W.excIn K dS [.type "ValueError",.type "Exception",.type "BaseException",.type "object"] "ValueError.__new__"=true)(ga_NoPlan:PySem.W.findIn K (.ref dS) "__getattribute__"=some (some (.builtin "BaseException.__getattribute__")))(gn_NoPlan:PySem.W.findIn K (.ref dS) "__getattr__"=some none)(cl_NoPlan:PySem.W.findIn K (.ref dS) "__class__"=some (some (.builtin "object.__class__")))(sb_NoPlan:PySem.W.subIn K (.ref dS) (.type "BaseException")=some true)(mo_NoPlan:PySem.W.mroIn K dS (.type "object")=some true)(n_NoSaying:PySem.W.nsIn K VF "NoSaying"=some (some (.ref dT)))(ct_NoSaying:PySem.W.clsIn K dT=some R8)(e1_NoSaying:PySem.W.excIn K dT [.type "ValueError",.type "Exception",.type "BaseException",.type "object"] "ValueError.__new__"=true)(ga_NoSaying:PySem.W.findIn K (.ref dT) "__getattribute__"=some (some (.builtin "BaseException.__getattribute__")))(gn_NoSaying:PySem.W.findIn K (.ref dT) "__getattr__"=some none)(cl_NoSaying:PySem.W.findIn K (.ref dT) "__class__"=some (some (.builtin "object.__class__")))(sb_NoSaying:PySem.W.subIn K (.ref dT) (.type "BaseException")=some true)(mo_NoSaying:PySem.W.mroIn K dT (.type "object")=some true)(spc0:PySem.W.specialIn K (.builtin "object.__class__") "__get__"=some (some (.builtin "getset_descriptor.__get__")))(tkc0:PySem.W.takesIn K (.builtin "object.__class__")=some true)(n_NoAddress:PySem.W.nsIn K VF "NoAddress"=some (some (.ref nF)))(ki_NoText_NoAddress:PySem.W.kitOne K (.ref dU) (.ref nF)=some false)(ki_NoNet_NoAddress:PySem.W.kitOne K (.ref dR) (.ref nF)=some false)(ki_NoPlan_NoAddress:PySem.W.kitOne K (.ref dS) (.ref nF)=some false)(ki_NoSaying_NoAddress:PySem.W.kitOne K (.ref dT) (.ref nF)=some false)(n_NoBooks:PySem.W.nsIn K VF "NoBooks"=some (some (.ref nG)))(ki_NoText_NoBooks:PySem.W.kitOne K (.ref dU) (.ref nG)=some false)(ki_NoNet_NoBooks:PySem.W.kitOne K (.ref dR) (.ref nG)=some false)(ki_NoPlan_NoBooks:PySem.W.kitOne K (.ref dS) (.ref nG)=some false)(ki_NoSaying_NoBooks:PySem.W.kitOne K (.ref dT) (.ref nG)=some false)(n_NoDoor:PySem.W.nsIn K VF "NoDoor"=some (some (.ref nH)))(ki_NoText_NoDoor:PySem.W.kitOne K (.ref dU) (.ref nH)=some false)(ki_NoNet_NoDoor:PySem.W.kitOne K (.ref dR) (.ref nH)=some false)(ki_NoPlan_NoDoor:PySem.W.kitOne K (.ref dS) (.ref nH)=some false)(ki_NoSaying_NoDoor:PySem.W.kitOne K (.ref dT) (.ref nH)=some false)(n_NoMove:PySem.W.nsIn K VF "NoMove"=some (some (.ref nI)))(ki_NoText_NoMove:PySem.W.kitOne K (.ref dU) (.ref nI)=some false)(ki_NoNet_NoMove:PySem.W.kitOne K (.ref dR) (.ref nI)=some false)(ki_NoPlan_NoMove:PySem.W.kitOne K (.ref dS) (.ref nI)=some false)(ki_NoSaying_NoMove:PySem.W.kitOne K (.ref dT) (.ref nI)=some false)(ki_NoText_NoNet:PySem.W.kitOne K (.ref dU) (.ref dR)=some false)(ki_NoNet_NoNet:PySem.W.kitOne K (.ref dR) (.ref dR)=some true)(ki_NoPlan_NoNet:PySem.W.kitOne K (.ref dS) (.ref dR)=some false)(ki_NoSaying_NoNet:PySem.W.kitOne K (.ref dT) (.ref dR)=some false)(ki_NoText_NoPlan:PySem.W.kitOne K (.ref dU) (.ref dS)=some false)(ki_NoNet_NoPlan:PySem.W.kitOne K (.ref dR) (.ref dS)=some false)(ki_NoPlan_NoPlan:PySem.W.kitOne K (.ref dS) (.ref dS)=some true)(ki_NoSaying_NoPlan:PySem.W.kitOne K (.ref dT) (.ref dS)=some false)(n_NoRow:PySem.W.nsIn K VF "NoRow"=some (some (.ref nJ)))(ki_NoText_NoRow:PySem.W.kitOne K (.ref dU) (.ref nJ)=some false)(ki_NoNet_NoRow:PySem.W.kitOne K (.ref dR) (.ref nJ)=some false)(ki_NoPlan_NoRow:PySem.W.kitOne K (.ref dS) (.ref nJ)=some false)(ki_NoSaying_NoRow:PySem.W.kitOne K (.ref dT) (.ref nJ)=some false)(ki_NoText_NoSaying:PySem.W.kitOne K (.ref dU) (.ref dT)=some false)(ki_NoNet_NoSaying:PySem.W.kitOne K (.ref dR) (.ref dT)=some false)(ki_NoPlan_NoSaying:PySem.W.kitOne K (.ref dS) (.ref dT)=some false)(ki_NoSaying_NoSaying:PySem.W.kitOne K (.ref dT) (.ref dT)=some true)(ki_NoText_NoText:PySem.W.kitOne K (.ref dU) (.ref dU)=some true)(ki_NoNet_NoText:PySem.W.kitOne K (.ref dR) (.ref dU)=some false)(ki_NoPlan_NoText:PySem.W.kitOne K (.ref dS) (.ref dU)=some false)(ki_NoSaying_NoText:PySem.W.kitOne K (.ref dT) (.ref dU)=some false)(ki_NoText_ValueError:PySem.W.kitOne K (.ref dU) (.type "ValueError")=some true)(ki_NoNet_ValueError:PySem.W.kitOne K (.ref dR) (.type "ValueError")=some true)(ki_NoPlan_ValueError:PySem.W.kitOne K (.ref dS) (.type "ValueError")=some true)(ki_NoSaying_ValueError:PySem.W.kitOne K (.ref dT) (.type "ValueError")=some true)(n_WayError:PySem.W.nsIn K VF "WayError"=some (some (.ref nK)))(em_NoText_WayError:PySem.W.exmOne K (.ref dU) (.ref nK)=some true)(em_NoNet_WayError:PySem.W.exmOne K (.ref dR) (.ref nK)=some true)(em_NoPlan_WayError:PySem.W.exmOne K (.ref dS) (.ref nK)=some true)(em_NoSaying_WayError:PySem.W.exmOne K (.ref dT) (.ref nK)=some true)(h0:dk K "is_whole" x6)(h1:dk K "is_whole_within" x7)(h2:dk K "are_counts" xU)(h3:dk K "is_pair" x1)(h4:dk K "is_door_among" xY)(h5:dk K "is_wire_among" x8)(h6:dk K "far_doors" xX)(h7:nP K hb "__init__" "Net.__init__" xR)(h8:dk K "parted" yn)(h9:dk K "is_number" xZ)(h10:dk K "number_read" yl)(h11:dk K "pair_read" ym)(h12:dk K "door_read" xW)(h13:dk K "wire_read" yu)(h14:dk K "net_read" yj)(h15:dk K "is_pattern" x2)(h16:dk K "pattern_read" yo)(h17:dk K "number_or_none_read" yk)(h18:dk K "row_read" yq)(h19:dk K "list_read" yi)(h20:dk K "book_read" xV)(h21:dk K "step_read" yt)(h22:dk K "is_step" x5)(h23:dk K "is_plan" x3)(h24:dk K "plan_read" yp)(h25:nP K hb "is_door" "Net.is_door" xS)(h26:nP K hb "is_outer" "Net.is_outer" xT)(h27:dk K "is_saying" x4)(h28:dk K "saying_read" yr)(h29:dk K "_law_kinds" yb)(h30:dk K "_law_right" yf)(h31:dk K "_law_due" ya)(h32:dk K "_law_net_text" yd)(h33:dk K "_law_book_text" x9)(h34:dk K "_law_plan_text" ye)(h35:dk K "_law_saying_text" yg)(h36:dk K "_law_text" yh)(h37:dk K "_law_draws" x_)(h38:dk K "_law_mixed" yc)(h39:dk K "law" l6)(z_ValueError:PySem.W.nsIn K VF "ValueError"=some none)(z_all:PySem.W.nsIn K VF "all"=some none)(z_bool:PySem.W.nsIn K VF "bool"=some none)(z_int:PySem.W.nsIn K VF "int"=some none)(z_isinstance:PySem.W.nsIn K VF "isinstance"=some none)(z_len:PySem.W.nsIn K VF "len"=some none)(z_list:PySem.W.nsIn K VF "list"=some none)(z_range:PySem.W.nsIn K VF "range"=some none)(z_set:PySem.W.nsIn K VF "set"=some none)(z_str:PySem.W.nsIn K VF "str"=some none)(z_tuple:PySem.W.nsIn K VF "tuple"=some none)(z_zip:PySem.W.nsIn K VF "zip"=some none)(z_ANY_DOOR:PySem.W.nsIn K VF "ANY_DOOR"=some (some (.str (PySem.Str.ofString "any") Qo)))(z_DROPPED:PySem.W.nsIn K VF "DROPPED"=some (some (.str (PySem.Str.ofString "drop") Qp)))(z_FIGURES:PySem.W.nsIn K VF "FIGURES"=some (some (.str (PySem.Str.ofString "0123456789") Qq)))(z_MOST_DOORS:PySem.W.nsIn K VF "MOST_DOORS"=some (some (.int 4 Qr)))(z_MOST_FIGURES:PySem.W.nsIn K VF "MOST_FIGURES"=some (some (.int 3 Qs)))(z_MOST_HOUSES:PySem.W.nsIn K VF "MOST_HOUSES"=some (some (.int 6 Qt)))(z_MOST_STEPS:PySem.W.nsIn K VF "MOST_STEPS"=some (some (.int 40 Qu)))(z_NONE_LISTED:PySem.W.nsIn K VF "NONE_LISTED"=some (some (.str (PySem.Str.ofString "-") Qv)))(z_SIGNS:PySem.W.nsIn K VF "SIGNS"=some (some (.ref uI)))(y_SIGNS:K.lookup uI=some ⟨.type "tuple",HS,.seq #[.str (PySem.Str.ofString "0") QB,.str (PySem.Str.ofString "1") QC,.str (PySem.Str.ofString "x") QD] MH,PT⟩)(z_WAIT:PySem.W.nsIn K VF "WAIT"=some (some (.ref uJ)))(y_WAIT:K.lookup uJ=some ⟨.type "tuple",HT,.seq #[.str (PySem.Str.ofString "wait") QE] MI,PU⟩)(z_WORTHS:PySem.W.nsIn K VF "WORTHS"=some (some (.ref uK)))(y_WORTHS:K.lookup uK=some ⟨.type "tuple",HU,.seq #[.int 8 QF,.int 4 QG,.int 2 QH,.int 1 QI] MJ,PV⟩)(nf_door_read:PySem.W.nsIn K VF "door_read"=some (some (.ref mu)))(nf_number_read:PySem.W.nsIn K VF "number_read"=some (some (.ref uM)))(nf_pattern_read:PySem.W.nsIn K VF "pattern_read"=some (some (.ref nM)))(z_SAYING_READS:PySem.W.nsIn K VF "SAYING_READS"=some (some (.ref pd)))(s_SAYING_READS:(pd==W3)=false)(y_SAYING_READS:K.lookup pd=some ⟨.type "dict",none,.dict #[⟨JD,.str (PySem.Str.ofString "comes") Qw,.ref zM⟩,⟨JE,.str (PySem.Str.ofString "leaves") Qx,.ref zN⟩,⟨JF,.str (PySem.Str.ofString "noring") Qy,.ref zO⟩,⟨JG,.str (PySem.Str.ofString "by") Qz,.ref zP⟩,⟨JH,.str (PySem.Str.ofString "never") QA,.ref zQ⟩] MB,#[]⟩)(y_SAYING_READS_0:K.lookup zM=some ⟨.type "tuple",HN,.seq #[.ref nM,.ref mu,.ref mu] MC,PN⟩)(y_SAYING_READS_1:K.lookup zN=some ⟨.type "tuple",HO,.seq #[.ref nM,.ref mu] MD,PO⟩)(y_SAYING_READS_2:K.lookup zO=some ⟨.type "tuple",HP,.seq #[.ref nM,.ref mu] ME,PQ⟩)(y_SAYING_READS_3:K.lookup zP=some ⟨.type "tuple",HQ,.seq #[.ref nM,.ref mu,.ref uM] MF,PR⟩)(y_SAYING_READS_4:K.lookup zQ=some ⟨.type "tuple",HR,.seq #[.ref nM,.ref mu,.ref uM] MG,PS⟩):u1 K mg where
 jB:=⟨hb,n_Net,⟨g1_Net,g2_Net,g3_Net,g4_Net⟩,(Xw.2 ⟨u_Net_many,(Xw.2 ⟨u_Net_counts,(Xw.2 ⟨u_Net_joined,(Xw.2 ⟨u_Net_far,(fun _ h=>absurd h Yb)⟩)⟩)⟩)⟩)⟩
 rA:=⟨⟨dR,n_NoNet,PySem.W.mg_of X G n_NoNet,e1_NoNet⟩⟩
 Gh:=⟨⟨dS,n_NoPlan,PySem.W.mg_of X G n_NoPlan,e1_NoPlan⟩⟩
 Gi:=⟨⟨dT,n_NoSaying,PySem.W.mg_of X G n_NoSaying,e1_NoSaying⟩⟩
 me:=⟨⟨dU,n_NoText,PySem.W.mg_of X G n_NoText,e1_NoText⟩⟩
 FZ:=⟨⟨nF,PySem.W.mg_of X G n_NoAddress,⟨spc0,tkc0,(dr ⟨dU,n_NoText,⟨ga_NoText,gn_NoText,cl_NoText,sb_NoText,mo_NoText,(by rw[ct_NoText];rfl)⟩,ki_NoText_NoAddress⟩ (dr ⟨dR,n_NoNet,⟨ga_NoNet,gn_NoNet,cl_NoNet,sb_NoNet,mo_NoNet,(by rw[ct_NoNet];rfl)⟩,ki_NoNet_NoAddress⟩ (dr ⟨dS,n_NoPlan,⟨ga_NoPlan,gn_NoPlan,cl_NoPlan,sb_NoPlan,mo_NoPlan,(by rw[ct_NoPlan];rfl)⟩,ki_NoPlan_NoAddress⟩ (dr ⟨dT,n_NoSaying,⟨ga_NoSaying,gn_NoSaying,cl_NoSaying,sb_NoSaying,mo_NoSaying,(by rw[ct_NoSaying];rfl)⟩,ki_NoSaying_NoAddress⟩ ke))))⟩⟩⟩
 F0:=⟨⟨nG,PySem.W.mg_of X G n_NoBooks,⟨spc0,tkc0,(dr ⟨dU,n_NoText,⟨ga_NoText,gn_NoText,cl_NoText,sb_NoText,mo_NoText,(by rw[ct_NoText];rfl)⟩,ki_NoText_NoBooks⟩ (dr ⟨dR,n_NoNet,⟨ga_NoNet,gn_NoNet,cl_NoNet,sb_NoNet,mo_NoNet,(by rw[ct_NoNet];rfl)⟩,ki_NoNet_NoBooks⟩ (dr ⟨dS,n_NoPlan,⟨ga_NoPlan,gn_NoPlan,cl_NoPlan,sb_NoPlan,mo_NoPlan,(by rw[ct_NoPlan];rfl)⟩,ki_NoPlan_NoBooks⟩ (dr ⟨dT,n_NoSaying,⟨ga_NoSaying,gn_NoSaying,cl_NoSaying,sb_NoSaying,mo_NoSaying,(by rw[ct_NoSaying];rfl)⟩,ki_NoSaying_NoBooks⟩ ke))))⟩⟩⟩
 F1:=⟨⟨nH,PySem.W.mg_of X G n_NoDoor,⟨spc0,tkc0,(dr ⟨dU,n_NoText,⟨ga_NoText,gn_NoText,cl_NoText,sb_NoText,mo_NoText,(by rw[ct_NoText];rfl)⟩,ki_NoText_NoDoor⟩ (dr ⟨dR,n_NoNet,⟨ga_NoNet,gn_NoNet,cl_NoNet,sb_NoNet,mo_NoNet,(by rw[ct_NoNet];rfl)⟩,ki_NoNet_NoDoor⟩ (dr ⟨dS,n_NoPlan,⟨ga_NoPlan,gn_NoPlan,cl_NoPlan,sb_NoPlan,mo_NoPlan,(by rw[ct_NoPlan];rfl)⟩,ki_NoPlan_NoDoor⟩ (dr ⟨dT,n_NoSaying,⟨ga_NoSaying,gn_NoSaying,cl_NoSaying,sb_NoSaying,mo_NoSaying,(by rw[ct_NoSaying];rfl)⟩,ki_NoSaying_NoDoor⟩ ke))))⟩⟩⟩
 F2:=⟨⟨nI,PySem.W.mg_of X G n_NoMove,⟨spc0,tkc0,(dr ⟨dU,n_NoText,⟨ga_NoText,gn_NoText,cl_NoText,sb_NoText,mo_NoText,(by rw[ct_NoText];rfl)⟩,ki_NoText_NoMove⟩ (dr ⟨dR,n_NoNet,⟨ga_NoNet,gn_NoNet,cl_NoNet,sb_NoNet,mo_NoNet,(by rw[ct_NoNet];rfl)⟩,ki_NoNet_NoMove⟩ (dr ⟨dS,n_NoPlan,⟨ga_NoPlan,gn_NoPlan,cl_NoPlan,sb_NoPlan,mo_NoPlan,(by rw[ct_NoPlan];rfl)⟩,ki_NoPlan_NoMove⟩ (dr ⟨dT,n_NoSaying,⟨ga_NoSaying,gn_NoSaying,cl_NoSaying,sb_NoSaying,mo_NoSaying,(by rw[ct_NoSaying];rfl)⟩,ki_NoSaying_NoMove⟩ ke))))⟩⟩⟩
 F3:=⟨⟨dR,PySem.W.mg_of X G n_NoNet,⟨spc0,tkc0,(dr ⟨dU,n_NoText,⟨ga_NoText,gn_NoText,cl_NoText,sb_NoText,mo_NoText,(by rw[ct_NoText];rfl)⟩,ki_NoText_NoNet⟩ (dr ⟨dR,n_NoNet,⟨ga_NoNet,gn_NoNet,cl_NoNet,sb_NoNet,mo_NoNet,(by rw[ct_NoNet];rfl)⟩,ki_NoNet_NoNet⟩ (dr ⟨dS,n_NoPlan,⟨ga_NoPlan,gn_NoPlan,cl_NoPlan,sb_NoPlan,mo_NoPlan,(by rw[ct_NoPlan];rfl)⟩,ki_NoPlan_NoNet⟩ (dr ⟨dT,n_NoSaying,⟨ga_NoSaying,gn_NoSaying,cl_NoSaying,sb_NoSaying,mo_NoSaying,(by rw[ct_NoSaying];rfl)⟩,ki_NoSaying_NoNet⟩ ke))))⟩⟩⟩
 F4:=⟨⟨dS,PySem.W.mg_of X G n_NoPlan,⟨spc0,tkc0,(dr ⟨dU,n_NoText,⟨ga_NoText,gn_NoText,cl_NoText,sb_NoText,mo_NoText,(by rw[ct_NoText];rfl)⟩,ki_NoText_NoPlan⟩ (dr ⟨dR,n_NoNet,⟨ga_NoNet,gn_NoNet,cl_NoNet,sb_NoNet,mo_NoNet,(by rw[ct_NoNet];rfl)⟩,ki_NoNet_NoPlan⟩ (dr ⟨dS,n_NoPlan,⟨ga_NoPlan,gn_NoPlan,cl_NoPlan,sb_NoPlan,mo_NoPlan,(by rw[ct_NoPlan];rfl)⟩,ki_NoPlan_NoPlan⟩ (dr ⟨dT,n_NoSaying,⟨ga_NoSaying,gn_NoSaying,cl_NoSaying,sb_NoSaying,mo_NoSaying,(by rw[ct_NoSaying];rfl)⟩,ki_NoSaying_NoPlan⟩ ke))))⟩⟩⟩
 F5:=⟨⟨nJ,PySem.W.mg_of X G n_NoRow,⟨spc0,tkc0,(dr ⟨dU,n_NoText,⟨ga_NoText,gn_NoText,cl_NoText,sb_NoText,mo_NoText,(by rw[ct_NoText];rfl)⟩,ki_NoText_NoRow⟩ (dr ⟨dR,n_NoNet,⟨ga_NoNet,gn_NoNet,cl_NoNet,sb_NoNet,mo_NoNet,(by rw[ct_NoNet];rfl)⟩,ki_NoNet_NoRow⟩ (dr ⟨dS,n_NoPlan,⟨ga_NoPlan,gn_NoPlan,cl_NoPlan,sb_NoPlan,mo_NoPlan,(by rw[ct_NoPlan];rfl)⟩,ki_NoPlan_NoRow⟩ (dr ⟨dT,n_NoSaying,⟨ga_NoSaying,gn_NoSaying,cl_NoSaying,sb_NoSaying,mo_NoSaying,(by rw[ct_NoSaying];rfl)⟩,ki_NoSaying_NoRow⟩ ke))))⟩⟩⟩
 F6:=⟨⟨dT,PySem.W.mg_of X G n_NoSaying,⟨spc0,tkc0,(dr ⟨dU,n_NoText,⟨ga_NoText,gn_NoText,cl_NoText,sb_NoText,mo_NoText,(by rw[ct_NoText];rfl)⟩,ki_NoText_NoSaying⟩ (dr ⟨dR,n_NoNet,⟨ga_NoNet,gn_NoNet,cl_NoNet,sb_NoNet,mo_NoNet,(by rw[ct_NoNet];rfl)⟩,ki_NoNet_NoSaying⟩ (dr ⟨dS,n_NoPlan,⟨ga_NoPlan,gn_NoPlan,cl_NoPlan,sb_NoPlan,mo_NoPlan,(by rw[ct_NoPlan];rfl)⟩,ki_NoPlan_NoSaying⟩ (dr ⟨dT,n_NoSaying,⟨ga_NoSaying,gn_NoSaying,cl_NoSaying,sb_NoSaying,mo_NoSaying,(by rw[ct_NoSaying];rfl)⟩,ki_NoSaying_NoSaying⟩ ke))))⟩⟩⟩
 F7:=⟨⟨dU,PySem.W.mg_of X G n_NoText,⟨spc0,tkc0,(dr ⟨dU,n_NoText,⟨ga_NoText,gn_NoText,cl_NoText,sb_NoText,mo_NoText,(by rw[ct_NoText];rfl)⟩,ki_NoText_NoText⟩ (dr ⟨dR,n_NoNet,⟨ga_NoNet,gn_NoNet,cl_NoNet,sb_NoNet,mo_NoNet,(by rw[ct_NoNet];rfl)⟩,ki_NoNet_NoText⟩ (dr ⟨dS,n_NoPlan,⟨ga_NoPlan,gn_NoPlan,cl_NoPlan,sb_NoPlan,mo_NoPlan,(by rw[ct_NoPlan];rfl)⟩,ki_NoPlan_NoText⟩ (dr ⟨dT,n_NoSaying,⟨ga_NoSaying,gn_NoSaying,cl_NoSaying,sb_NoSaying,mo_NoSaying,(by rw[ct_NoSaying];rfl)⟩,ki_NoSaying_NoText⟩ ke))))⟩⟩⟩
 F8:=⟨spc0,tkc0,(dr ⟨dU,n_NoText,⟨ga_NoText,gn_NoText,cl_NoText,sb_NoText,mo_NoText,(by rw[ct_NoText];rfl)⟩,ki_NoText_ValueError⟩ (dr ⟨dR,n_NoNet,⟨ga_NoNet,gn_NoNet,cl_NoNet,sb_NoNet,mo_NoNet,(by rw[ct_NoNet];rfl)⟩,ki_NoNet_ValueError⟩ (dr ⟨dS,n_NoPlan,⟨ga_NoPlan,gn_NoPlan,cl_NoPlan,sb_NoPlan,mo_NoPlan,(by rw[ct_NoPlan];rfl)⟩,ki_NoPlan_ValueError⟩ (dr ⟨dT,n_NoSaying,⟨ga_NoSaying,gn_NoSaying,cl_NoSaying,sb_NoSaying,mo_NoSaying,(by rw[ct_NoSaying];rfl)⟩,ki_NoSaying_ValueError⟩ ke))))⟩
 FP:=⟨⟨nK,PySem.W.mg_of X G n_WayError,(sd ⟨dU,n_NoText,em_NoText_WayError⟩ (sd ⟨dR,n_NoNet,em_NoNet_WayError⟩ (sd ⟨dS,n_NoPlan,em_NoPlan_WayError⟩ (sd ⟨dT,n_NoSaying,em_NoSaying_WayError⟩ HD))))⟩⟩
 Bw:=dM X G h0 fun _ _ _ _ _ _ us ak=>match us,ak with|[_],_=>rfl
 Bx:=dM X G h1 fun _ _ _ _ _ _ us ak=>match us,ak with|[_,_,_],_=>rfl
 Bl:=dM X G h2 fun _ _ _ _ _ _ us ak=>match us,ak with|[_],_=>rfl
 Br:=dM X G h3 fun _ _ _ _ _ _ us ak=>match us,ak with|[_],_=>rfl
 Bp:=dM X G h4 fun _ _ _ _ _ _ us ak=>match us,ak with|[_,_],_=>rfl
 By:=dM X G h5 fun _ _ _ _ _ _ us ak=>match us,ak with|[_,_],_=>rfl
 Bo:=dM X G h6 fun _ _ _ _ _ _ us ak=>match us,ak with|[_,_],_=>rfl
 Bi:=Ms X G n_Net mk_Net kc_Net h7 fun _ _ _ _ _ _ us ak=>match us,ak with|[_,_,_],_=>rfl
 BO:=dM X G h8 fun _ _ _ _ _ _ us ak=>match us,ak with|[_,_],_=>rfl
 Bq:=dM X G h9 fun _ _ _ _ _ _ us ak=>match us,ak with|[_],_=>rfl
 BM:=dM X G h10 fun _ _ _ _ _ _ us ak=>match us,ak with|[_],_=>rfl
 BN:=dM X G h11 fun _ _ _ _ _ _ us ak=>match us,ak with|[_,_,_],_=>rfl
 Bn:=dM X G h12 fun _ _ _ _ _ _ us ak=>match us,ak with|[_],_=>rfl
 BV:=dM X G h13 fun _ _ _ _ _ _ us ak=>match us,ak with|[_],_=>rfl
 BK:=dM X G h14 fun _ _ _ _ _ _ us ak=>match us,ak with|[_],_=>rfl
 Bs:=dM X G h15 fun _ _ _ _ _ _ us ak=>match us,ak with|[_],_=>rfl
 BP:=dM X G h16 fun _ _ _ _ _ _ us ak=>match us,ak with|[_],_=>rfl
 BL:=dM X G h17 fun _ _ _ _ _ _ us ak=>match us,ak with|[_,_],_=>rfl
 BR:=dM X G h18 fun _ _ _ _ _ _ us ak=>match us,ak with|[_],_=>rfl
 BJ:=dM X G h19 fun _ _ _ _ _ _ us ak=>match us,ak with|[_,_],_=>rfl
 Bm:=dM X G h20 fun _ _ _ _ _ _ us ak=>match us,ak with|[_],_=>rfl
 BU:=dM X G h21 fun _ _ _ _ _ _ us ak=>match us,ak with|[_],_=>rfl
 Bv:=dM X G h22 fun _ _ _ _ _ _ us ak=>match us,ak with|[_,_],_=>rfl
 Bt:=dM X G h23 fun _ _ _ _ _ _ us ak=>match us,ak with|[_,_],_=>rfl
 BQ:=dM X G h24 fun _ _ _ _ _ _ us ak=>match us,ak with|[_,_],_=>rfl
 Bj:=DW n_Net g1_Net g2_Net g3_Net g4_Net h25 fun _ _ _ _ _ _ us ak=>match us,ak with|[_,_],_=>rfl
 Bk:=DW n_Net g1_Net g2_Net g3_Net g4_Net h26 fun _ _ _ _ _ _ us ak=>match us,ak with|[_,_],_=>rfl
 Bu:=dM X G h27 fun _ _ _ _ _ _ us ak=>match us,ak with|[_,_],_=>rfl
 BS:=dM X G h28 fun _ _ _ _ _ _ us ak=>match us,ak with|[_,_],_=>rfl
 BC:=dM X G h29 fun _ _ _ _ _ _ us ak=>match us,ak with|[_,_,_],_=>rfl
 BG:=dM X G h30 fun _ _ _ _ _ _ us ak=>match us,ak with|[_],_=>rfl
 BB:=dM X G h31 fun _ _ _ _ _ _ us ak=>match us,ak with|[_],_=>rfl
 BE:=dM X G h32 fun _ _ _ _ _ _ us ak=>match us,ak with|[_],_=>rfl
 Bz:=dM X G h33 fun _ _ _ _ _ _ us ak=>match us,ak with|[_],_=>rfl
 BF:=dM X G h34 fun _ _ _ _ _ _ us ak=>match us,ak with|[_],_=>rfl
 BH:=dM X G h35 fun _ _ _ _ _ _ us ak=>match us,ak with|[_],_=>rfl
 BI:=dM X G h36 fun _ _ _ _ _ _ us ak=>match us,ak with|[_,_],_=>rfl
 BA:=dM X G h37 fun _ _ _ _ _ _ us ak=>match us,ak with|[_,_],_=>rfl
 BD:=dM X G h38 fun _ _ _ _ _ _ us ak=>match us,ak with|[_,_],_=>rfl
 Ip:=dM X G h39 fun _ _ _ _ _ _ us ak=>match us,ak with|[_],_=>rfl
 z3:=PySem.W.mg_none_of X G z_ValueError
 pN:=PySem.W.mg_none_of X G z_all
 z6:=PySem.W.mg_none_of X G z_bool
 va:=PySem.W.mg_none_of X G z_int
 fg:=PySem.W.mg_none_of X G z_isinstance
 fJ:=PySem.W.mg_none_of X G z_len
 pO:=PySem.W.mg_none_of X G z_list
 pP:=PySem.W.mg_none_of X G z_range
 Aw:=PySem.W.mg_none_of X G z_set
 pQ:=PySem.W.mg_none_of X G z_str
 mH:=PySem.W.mg_none_of X G z_tuple
 Az:=PySem.W.mg_none_of X G z_zip
 pU:=⟨⟨_,_,PySem.W.mg_of X G z_ANY_DOOR,(l5 _ _),fun _=>(lx _)⟩⟩
 pV:=⟨⟨_,_,PySem.W.mg_of X G z_DROPPED,(l5 _ _),fun _=>(lx _)⟩⟩
 pW:=⟨⟨_,_,PySem.W.mg_of X G z_FIGURES,(l5 _ _),fun _=>(lx _)⟩⟩
 pX:=⟨⟨_,_,PySem.W.mg_of X G z_MOST_DOORS,(l4 _ _),fun _=>(lu _)⟩⟩
 pY:=⟨⟨_,_,PySem.W.mg_of X G z_MOST_FIGURES,(l4 _ _),fun _=>(lu _)⟩⟩
 pZ:=⟨⟨_,_,PySem.W.mg_of X G z_MOST_HOUSES,(l4 _ _),fun _=>(lu _)⟩⟩
 p0:=⟨⟨_,_,PySem.W.mg_of X G z_MOST_STEPS,(l4 _ _),fun _=>(lu _)⟩⟩
 p1:=⟨⟨_,_,PySem.W.mg_of X G z_NONE_LISTED,(l5 _ _),fun _=>(lx _)⟩⟩
 p2:=⟨⟨.ref uI,_,PySem.W.mg_of X G z_SIGNS,rfl,md y_SIGNS (Wh rfl) (.cons (l5 _ _) (.cons (l5 _ _) (.cons (l5 _ _) .nil))) fun _=>(.cons (lx _) (.cons (lx _) (.cons (lx _) .nil)))⟩⟩
 kA:=⟨⟨.ref uJ,_,PySem.W.mg_of X G z_WAIT,rfl,md y_WAIT (Wh rfl) (.cons (l5 _ _) .nil) fun _=>(.cons (lx _) .nil)⟩⟩
 p3:=⟨⟨.ref uK,_,PySem.W.mg_of X G z_WORTHS,rfl,md y_WORTHS (Wh rfl) (.cons (l4 _ _) (.cons (l4 _ _) (.cons (l4 _ _) (.cons (l4 _ _) .nil)))) fun _=>(.cons (lu _) (.cons (lu _) (.cons (lu _) (.cons (lu _) .nil))))⟩⟩
 ug:=qi X G h12
 uh:=qi X G h10
 Gb:=qi X G h16
 y4:=qi X G h18
 y5:=qi X G h21
 uf:=⟨⟨pd,PySem.W.mg_of X G z_SAYING_READS,z_SAYING_READS⟩⟩
 sf:=⟨⟨pd,_,_,z_SAYING_READS,s_SAYING_READS,y_SAYING_READS,(.cons rfl ⟨_,rfl,md y_SAYING_READS_0 (Wh rfl) (.cons (iH _) (.cons (iH _) (.cons (iH _) .nil))) fun _=>(.cons (il nf_pattern_read) (.cons (il nf_door_read) (.cons (il nf_door_read) .nil)))⟩ (.cons rfl ⟨_,rfl,md y_SAYING_READS_1 (Wh rfl) (.cons (iH _) (.cons (iH _) .nil)) fun _=>(.cons (il nf_pattern_read) (.cons (il nf_door_read) .nil))⟩ (.cons rfl ⟨_,rfl,md y_SAYING_READS_2 (Wh rfl) (.cons (iH _) (.cons (iH _) .nil)) fun _=>(.cons (il nf_pattern_read) (.cons (il nf_door_read) .nil))⟩ (.cons rfl ⟨_,rfl,md y_SAYING_READS_3 (Wh rfl) (.cons (iH _) (.cons (iH _) (.cons (iH _) .nil))) fun _=>(.cons (il nf_pattern_read) (.cons (il nf_door_read) (.cons (il nf_number_read) .nil)))⟩ (.cons rfl ⟨_,rfl,md y_SAYING_READS_4 (Wh rfl) (.cons (iH _) (.cons (iH _) (.cons (iH _) .nil))) fun _=>(.cons (il nf_pattern_read) (.cons (il nf_door_read) (.cons (il nf_number_read) .nil)))⟩ .nil)))))⟩⟩
set_option maxHeartbeats 4000000 in
theorem all_mk{l:PySem.W.OpenLaw}{w:V9}{K:PySem.W.Frag}{h:Wv}{mg:Str→Option Vw}{e8:VD}(X:K.In h)(G:h.Ns VF mg)(I7:mg "law"=some (.ref e8))(F:dk K "law" l6)(T:u1 K mg) :
  ∃fd:WM,(∀(s:Vx)(v:Vw),BindsTo s fd ⟨[v],[]⟩ [("_law_script",v)])∧∀base:Wv,K.In base→base.Ns VF mg→gs l.prog w K mg base ha 14 e8 fd ["_law_script"] (kY K 1 m_):=by
 obtain⟨f,dh,an,cb,eu,cB,hL,pm,cd,cv,a,lk,c,k⟩:=F.ex;have e:=I7.symm.trans (PySem.W.mg_of X G a);cases e;exact⟨_,fun s v=>.of_eq rfl,fun base _ _=>RG (mS (st:=l6) lk c k) oV (Hh T)⟩
theorem LV(K:PySem.W.Frag)(H:ae)(a:VD)(ns:List Int)(hr:bQ K H a (ns.map V.int)):kY K 1 m_ [.ref a] H (fun v _=>v=.aU true) (fun _ _ _=>False):=
 LS (K:=K) (mf:=m_) (H:=H) (a:=a) (ns:=ns) hr (LU ns) (fun _ _ _=>False)
theorem Rh {l:PySem.W.OpenLaw} {q:VR} {loose:List Str} {nS:(Str→Option Vw)→Wv→Prop} {lr:V9→Wv→Prop} {d:DefRec} {K:Params→PySem.W.Frag} (aK:l.most=some 63) (qv:d.params.defaults=[])(v5:∀(w:V9)(h:Wv),lr w h→(K w.params).In h)(F:∀(w:V9)(mg:Str→Option Vw)(e8:VD)(h:Wv),(K w.params).In h→h.Ns VF mg→mg d.name=some (.ref e8)→
    ∃fd:WM,(∀(s:Vx)(u:Vw),BindsTo s fd ⟨[u],[]⟩ [("_law_script",u)])∧∀base:Wv,(K w.params).In base→base.Ns VF mg→gs l.prog w (K w.params) mg base ha 14 e8 fd ["_law_script"] (kY (K w.params) 1 m_)) :
  PySem.W.WalkO q loose nS lr l.row.toRowW d [] (fun f vs=>PySem.call f vs):=
 aY.Ri (n:=63) (k:=14) (x:="_law_script") (CX:=fun _=>ha) (sp:=fun w=>kY (K w.params) 1 m_) aK (by decide) qv ⟨rfl,by decide,by decide⟩ v5 F (fun w H a ns _ _ hr=>LV (K w.params) H a ns hr) fun _ _ _ _ _ z=>z
end cR
end
namespace PySem.W.Fast
theorem tw3379090698191268122 : True := trivial
theorem tw3135909059398678894 : True := trivial
theorem tw16260906152908372937 : True := trivial
theorem tw14676472065937220115 : True := trivial
theorem tw14473963744837044609 : True := trivial
theorem tw7416164087311110917 : True := trivial
theorem tw4192766880696822634 : True := trivial
theorem tw3382289500857187367 : True := trivial
theorem tw9066694662467781046 : True := trivial
theorem tw3803147678995987196 : True := trivial
theorem tw15410194464739320269 : True := trivial
theorem tw3089606704479605106 : True := trivial
theorem tw5338486239694031244 : True := trivial
theorem tw17784550519695017912 : True := trivial
theorem tw15751584179377334959 : True := trivial
theorem tw4216044125109808239 : True := trivial
theorem tw14971116995175017311 : True := trivial
theorem tw10944034704041012765 : True := trivial
theorem tw16995177605615678970 : True := trivial
theorem tw3771749594069256771 : True := trivial
theorem tw16166693125371044958 : True := trivial
theorem tw13408627239237995570 : True := trivial
theorem tw10365017587673114490 : True := trivial
theorem tw5530128648800082375 : True := trivial
theorem tw11210768452977604825 : True := trivial
theorem tw4023798681953718017 : True := trivial
theorem tw17686642601428849291 : True := trivial
theorem tw11694181669067157888 : True := trivial
theorem tw10590713851693079683 : True := trivial
theorem tw1190314457687575394 : True := trivial
theorem tw14821592144036481248 : True := trivial
theorem tw5938170031863703604 : True := trivial
theorem tw18062458732207304762 : True := trivial
theorem tw12781426913062848239 : True := trivial
theorem tw5297655206532315747 : True := trivial
theorem tw7432660062561459458 : True := trivial
theorem tw109516215030017285 : True := trivial
theorem tw2056489147762863523 : True := trivial
theorem tw15458997842634890490 : True := trivial
theorem tw14092685580093114124 : True := trivial
theorem tw2522543797499228142 : True := trivial
theorem tw1178684906733220220 : True := trivial
theorem tw8946344449531412016 : True := trivial
theorem tw3683922160213616940 : True := trivial
theorem tw4065900713043907338 : True := trivial
theorem tw18081820741898459761 : True := trivial
theorem tw13420471075487858386 : True := trivial
theorem tw15772773603765421295 : True := trivial
theorem tw7594347630610923892 : True := trivial
theorem tw10275129826088612187 : True := trivial
theorem tw10266531352139793897 : True := trivial
theorem tw16544991563901767853 : True := trivial
theorem tw13681014992987593633 : True := trivial
theorem tw8081254598760320927 : True := trivial
theorem tw9864335764081581109 : True := trivial
theorem tw14087586320888319684 : True := trivial
theorem tw4002398558130580464 : True := trivial
theorem tw14143669014848084098 : True := trivial
theorem tw17760488367256170768 : True := trivial
theorem tw4878166550703947078 : True := trivial
theorem tw7862408921107489724 : True := trivial
theorem tw14863422043322902973 : True := trivial
theorem tw14235163733658240886 : True := trivial
theorem tw12751544436346064771 : True := trivial
theorem tw12382336860862083642 : True := trivial
theorem tw4157057049686161796 : True := trivial
theorem tw2338826400208015210 : True := trivial
theorem tw17072557506723884706 : True := trivial
theorem tw861711207283484193 : True := trivial
theorem tw16731165703771294139 : True := trivial
theorem tw6448273487132732363 : True := trivial
theorem tw11715457037316370928 : True := trivial
theorem tw11391514131187789174 : True := trivial
theorem tw15322956856798610144 : True := trivial
theorem tw6393401414075478865 : True := trivial
theorem tw16153843675918137093 : True := trivial
theorem tw15357012214634387834 : True := trivial
theorem tw7145228582390985930 : True := trivial
theorem tw12993278959849786184 : True := trivial
theorem tw1847720057115487192 : True := trivial
theorem tw3604859143699335395 : True := trivial
theorem tw2569532896721964021 : True := trivial
theorem tw16160070542115471578 : True := trivial
theorem tw6372010958532460942 : True := trivial
theorem tw7702247102077285235 : True := trivial
theorem tw12271132306884101059 : True := trivial
theorem tw15559566044878845573 : True := trivial
end PySem.W.Fast
open PySem PySem.W PyProof.Rows
set_option maxRecDepth 100000 in
set_option maxHeartbeats 0 in
theorem PySem.Challenge.cw_nohalfway_k52_texts_refused_holds : PySem.Challenge.rw_nohalfway_k52_texts_refused.Holds := by
 w_on;o_law;k_head;(case hw=>w_witness2)
 k_fill
 refine cR.Rh (l:=PySem.Challenge.rw_nohalfway_k52_texts_refused) rfl rfl (fun w h Y=>PySem.W.kIn_of Y) ?F
 case F=>
  intro w mg e8 h js G qA
  refine' cR.all_mk js G qA ?h39 (cR.Q4 js G ?n_Net ?g1_Net ?g2_Net ?g3_Net ?g4_Net ?u_Net_many ?u_Net_counts ?u_Net_joined ?u_Net_far ?mk_Net ?kc_Net ?n_NoText ?ct_NoText ?e1_NoText ?ga_NoText ?gn_NoText ?cl_NoText ?sb_NoText ?mo_NoText ?n_NoNet ?ct_NoNet ?e1_NoNet ?ga_NoNet ?gn_NoNet ?cl_NoNet ?sb_NoNet ?mo_NoNet ?n_NoPlan ?ct_NoPlan ?e1_NoPlan ?ga_NoPlan ?gn_NoPlan ?cl_NoPlan ?sb_NoPlan ?mo_NoPlan ?n_NoSaying ?ct_NoSaying ?e1_NoSaying ?ga_NoSaying ?gn_NoSaying ?cl_NoSaying ?sb_NoSaying ?mo_NoSaying ?spc0 ?tkc0 ?n_NoAddress ?ki_NoText_NoAddress ?ki_NoNet_NoAddress ?ki_NoPlan_NoAddress ?ki_NoSaying_NoAddress ?n_NoBooks ?ki_NoText_NoBooks ?ki_NoNet_NoBooks ?ki_NoPlan_NoBooks ?ki_NoSaying_NoBooks ?n_NoDoor ?ki_NoText_NoDoor ?ki_NoNet_NoDoor ?ki_NoPlan_NoDoor ?ki_NoSaying_NoDoor ?n_NoMove ?ki_NoText_NoMove ?ki_NoNet_NoMove ?ki_NoPlan_NoMove ?ki_NoSaying_NoMove ?ki_NoText_NoNet ?ki_NoNet_NoNet ?ki_NoPlan_NoNet ?ki_NoSaying_NoNet ?ki_NoText_NoPlan ?ki_NoNet_NoPlan ?ki_NoPlan_NoPlan ?ki_NoSaying_NoPlan ?n_NoRow ?ki_NoText_NoRow ?ki_NoNet_NoRow ?ki_NoPlan_NoRow ?ki_NoSaying_NoRow ?ki_NoText_NoSaying ?ki_NoNet_NoSaying ?ki_NoPlan_NoSaying ?ki_NoSaying_NoSaying ?ki_NoText_NoText ?ki_NoNet_NoText ?ki_NoPlan_NoText ?ki_NoSaying_NoText ?ki_NoText_ValueError ?ki_NoNet_ValueError ?ki_NoPlan_ValueError ?ki_NoSaying_ValueError ?n_WayError ?em_NoText_WayError ?em_NoNet_WayError ?em_NoPlan_WayError ?em_NoSaying_WayError ?h0 ?h1 ?h2 ?h3 ?h4 ?h5 ?h6 ?h7 ?h8 ?h9 ?h10 ?h11 ?h12 ?h13 ?h14 ?h15 ?h16 ?h17 ?h18 ?h19 ?h20 ?h21 ?h22 ?h23 ?h24 ?h25 ?h26 ?h27 ?h28 ?h29 ?h30 ?h31 ?h32 ?h33 ?h34 ?h35 ?h36 ?h37 ?h38 ?h39 ?z_ValueError ?z_all ?z_bool ?z_int ?z_isinstance ?z_len ?z_list ?z_range ?z_set ?z_str ?z_tuple ?z_zip ?z_ANY_DOOR ?z_DROPPED ?z_FIGURES ?z_MOST_DOORS ?z_MOST_FIGURES ?z_MOST_HOUSES ?z_MOST_STEPS ?z_NONE_LISTED ?z_SIGNS ?y_SIGNS ?z_WAIT ?y_WAIT ?z_WORTHS ?y_WORTHS ?nf_door_read ?nf_number_read ?nf_pattern_read ?z_SAYING_READS ?s_SAYING_READS ?y_SAYING_READS ?y_SAYING_READS_0 ?y_SAYING_READS_1 ?y_SAYING_READS_2 ?y_SAYING_READS_3 ?y_SAYING_READS_4)
  (case n_Net=>k_is)
  (case g1_Net=>k_is)
  (case g2_Net=>k_is)
  (case g3_Net=>k_is)
  (case g4_Net=>k_is)
  (case u_Net_many=>k_is)
  (case u_Net_counts=>k_is)
  (case u_Net_joined=>k_is)
  (case u_Net_far=>k_is)
  (case mk_Net=>k_is)
  (case kc_Net=>k_is)
  (case n_NoText=>k_is)
  (case ct_NoText=>k_is)
  (case e1_NoText=>k_exc)
  (case ga_NoText=>k_is)
  (case gn_NoText=>k_is)
  (case cl_NoText=>k_is)
  (case sb_NoText=>k_is)
  (case mo_NoText=>k_is)
  (case n_NoNet=>k_is)
  (case ct_NoNet=>k_is)
  (case e1_NoNet=>k_exc)
  (case ga_NoNet=>k_is)
  (case gn_NoNet=>k_is)
  (case cl_NoNet=>k_is)
  (case sb_NoNet=>k_is)
  (case mo_NoNet=>k_is)
  (case n_NoPlan=>k_is)
  (case ct_NoPlan=>k_is)
  (case e1_NoPlan=>k_exc)
  (case ga_NoPlan=>k_is)
  (case gn_NoPlan=>k_is)
  (case cl_NoPlan=>k_is)
  (case sb_NoPlan=>k_is)
  (case mo_NoPlan=>k_is)
  (case n_NoSaying=>k_is)
  (case ct_NoSaying=>k_is)
  (case e1_NoSaying=>k_exc)
  (case ga_NoSaying=>k_is)
  (case gn_NoSaying=>k_is)
  (case cl_NoSaying=>k_is)
  (case sb_NoSaying=>k_is)
  (case mo_NoSaying=>k_is)
  (case spc0=>k_is)
  (case tkc0=>k_is)
  (case n_NoAddress=>k_is)
  (case ki_NoText_NoAddress=>kit_is)
  (case ki_NoNet_NoAddress=>kit_is)
  (case ki_NoPlan_NoAddress=>kit_is)
  (case ki_NoSaying_NoAddress=>kit_is)
  (case n_NoBooks=>k_is)
  (case ki_NoText_NoBooks=>kit_is)
  (case ki_NoNet_NoBooks=>kit_is)
  (case ki_NoPlan_NoBooks=>kit_is)
  (case ki_NoSaying_NoBooks=>kit_is)
  (case n_NoDoor=>k_is)
  (case ki_NoText_NoDoor=>kit_is)
  (case ki_NoNet_NoDoor=>kit_is)
  (case ki_NoPlan_NoDoor=>kit_is)
  (case ki_NoSaying_NoDoor=>kit_is)
  (case n_NoMove=>k_is)
  (case ki_NoText_NoMove=>kit_is)
  (case ki_NoNet_NoMove=>kit_is)
  (case ki_NoPlan_NoMove=>kit_is)
  (case ki_NoSaying_NoMove=>kit_is)
  (case ki_NoText_NoNet=>kit_is)
  (case ki_NoNet_NoNet=>kit_is)
  (case ki_NoPlan_NoNet=>kit_is)
  (case ki_NoSaying_NoNet=>kit_is)
  (case ki_NoText_NoPlan=>kit_is)
  (case ki_NoNet_NoPlan=>kit_is)
  (case ki_NoPlan_NoPlan=>kit_is)
  (case ki_NoSaying_NoPlan=>kit_is)
  (case n_NoRow=>k_is)
  (case ki_NoText_NoRow=>kit_is)
  (case ki_NoNet_NoRow=>kit_is)
  (case ki_NoPlan_NoRow=>kit_is)
  (case ki_NoSaying_NoRow=>kit_is)
  (case ki_NoText_NoSaying=>kit_is)
  (case ki_NoNet_NoSaying=>kit_is)
  (case ki_NoPlan_NoSaying=>kit_is)
  (case ki_NoSaying_NoSaying=>kit_is)
  (case ki_NoText_NoText=>kit_is)
  (case ki_NoNet_NoText=>kit_is)
  (case ki_NoPlan_NoText=>kit_is)
  (case ki_NoSaying_NoText=>kit_is)
  (case ki_NoText_ValueError=>kit_is)
  (case ki_NoNet_ValueError=>kit_is)
  (case ki_NoPlan_ValueError=>kit_is)
  (case ki_NoSaying_ValueError=>kit_is)
  (case n_WayError=>k_is)
  (case em_NoText_WayError=>kts_exm)
  (case em_NoNet_WayError=>kts_exm)
  (case em_NoPlan_WayError=>kts_exm)
  (case em_NoSaying_WayError=>kts_exm)
  (case z_ValueError=>k_is)
  (case z_all=>k_is)
  (case z_bool=>k_is)
  (case z_int=>k_is)
  (case z_isinstance=>k_is)
  (case z_len=>k_is)
  (case z_list=>k_is)
  (case z_range=>k_is)
  (case z_set=>k_is)
  (case z_str=>k_is)
  (case z_tuple=>k_is)
  (case z_zip=>k_is)
  (case z_ANY_DOOR=>k_is)
  (case z_DROPPED=>k_is)
  (case z_FIGURES=>k_is)
  (case z_MOST_DOORS=>k_is)
  (case z_MOST_FIGURES=>k_is)
  (case z_MOST_HOUSES=>k_is)
  (case z_MOST_STEPS=>k_is)
  (case z_NONE_LISTED=>k_is)
  (case z_SIGNS=>k_is)
  (case y_SIGNS=>k_is)
  (case z_WAIT=>k_is)
  (case y_WAIT=>k_is)
  (case z_WORTHS=>k_is)
  (case y_WORTHS=>k_is)
  (case nf_door_read=>k_is)
  (case nf_number_read=>k_is)
  (case nf_pattern_read=>k_is)
  (case z_SAYING_READS=>k_is)
  (case s_SAYING_READS=>rfl)
  (case y_SAYING_READS=>k_is)
  (case y_SAYING_READS_0=>k_is)
  (case y_SAYING_READS_1=>k_is)
  (case y_SAYING_READS_2=>k_is)
  (case y_SAYING_READS_3=>k_is)
  (case y_SAYING_READS_4=>k_is)
  (case h0=>(refine' cR.dN ?a ?l ?c ?k;(case a=>k_is);(case l=>k_is);(case c=>k_is);(case k=>k_is)))
  (case h1=>(refine' cR.dN ?a ?l ?c ?k;(case a=>k_is);(case l=>k_is);(case c=>k_is);(case k=>k_is)))
  (case h2=>(refine' cR.dN ?a ?l ?c ?k;(case a=>k_is);(case l=>k_is);(case c=>k_is);(case k=>k_is)))
  (case h3=>(refine' cR.dN ?a ?l ?c ?k;(case a=>k_is);(case l=>k_is);(case c=>k_is);(case k=>k_is)))
  (case h4=>(refine' cR.dN ?a ?l ?c ?k;(case a=>k_is);(case l=>k_is);(case c=>k_is);(case k=>k_is)))
  (case h5=>(refine' cR.dN ?a ?l ?c ?k;(case a=>k_is);(case l=>k_is);(case c=>k_is);(case k=>k_is)))
  (case h6=>(refine' cR.dN ?a ?l ?c ?k;(case a=>k_is);(case l=>k_is);(case c=>k_is);(case k=>k_is)))
  (case h7=>(refine' cR.xb ?a ?l ?c ?k ?i;(case a=>k_is);(case l=>k_is);(case c=>k_is);(case k=>k_is);(case i=>k_is)))
  (case h8=>(refine' cR.dN ?a ?l ?c ?k;(case a=>k_is);(case l=>k_is);(case c=>k_is);(case k=>k_is)))
  (case h9=>(refine' cR.dN ?a ?l ?c ?k;(case a=>k_is);(case l=>k_is);(case c=>k_is);(case k=>k_is)))
  (case h10=>(refine' cR.dN ?a ?l ?c ?k;(case a=>k_is);(case l=>k_is);(case c=>k_is);(case k=>k_is)))
  (case h11=>(refine' cR.dN ?a ?l ?c ?k;(case a=>k_is);(case l=>k_is);(case c=>k_is);(case k=>k_is)))
  (case h12=>(refine' cR.dN ?a ?l ?c ?k;(case a=>k_is);(case l=>k_is);(case c=>k_is);(case k=>k_is)))
  (case h13=>(refine' cR.dN ?a ?l ?c ?k;(case a=>k_is);(case l=>k_is);(case c=>k_is);(case k=>k_is)))
  (case h14=>(refine' cR.dN ?a ?l ?c ?k;(case a=>k_is);(case l=>k_is);(case c=>k_is);(case k=>k_is)))
  (case h15=>(refine' cR.dN ?a ?l ?c ?k;(case a=>k_is);(case l=>k_is);(case c=>k_is);(case k=>k_is)))
  (case h16=>(refine' cR.dN ?a ?l ?c ?k;(case a=>k_is);(case l=>k_is);(case c=>k_is);(case k=>k_is)))
  (case h17=>(refine' cR.dN ?a ?l ?c ?k;(case a=>k_is);(case l=>k_is);(case c=>k_is);(case k=>k_is)))
  (case h18=>(refine' cR.dN ?a ?l ?c ?k;(case a=>k_is);(case l=>k_is);(case c=>k_is);(case k=>k_is)))
  (case h19=>(refine' cR.dN ?a ?l ?c ?k;(case a=>k_is);(case l=>k_is);(case c=>k_is);(case k=>k_is)))
  (case h20=>(refine' cR.dN ?a ?l ?c ?k;(case a=>k_is);(case l=>k_is);(case c=>k_is);(case k=>k_is)))
  (case h21=>(refine' cR.dN ?a ?l ?c ?k;(case a=>k_is);(case l=>k_is);(case c=>k_is);(case k=>k_is)))
  (case h22=>(refine' cR.dN ?a ?l ?c ?k;(case a=>k_is);(case l=>k_is);(case c=>k_is);(case k=>k_is)))
  (case h23=>(refine' cR.dN ?a ?l ?c ?k;(case a=>k_is);(case l=>k_is);(case c=>k_is);(case k=>k_is)))
  (case h24=>(refine' cR.dN ?a ?l ?c ?k;(case a=>k_is);(case l=>k_is);(case c=>k_is);(case k=>k_is)))
  (case h25=>(refine' cR.xb ?a ?l ?c ?k ?i;(case a=>k_is);(case l=>k_is);(case c=>k_is);(case k=>k_is);(case i=>k_is)))
  (case h26=>(refine' cR.xb ?a ?l ?c ?k ?i;(case a=>k_is);(case l=>k_is);(case c=>k_is);(case k=>k_is);(case i=>k_is)))
  (case h27=>(refine' cR.dN ?a ?l ?c ?k;(case a=>k_is);(case l=>k_is);(case c=>k_is);(case k=>k_is)))
  (case h28=>(refine' cR.dN ?a ?l ?c ?k;(case a=>k_is);(case l=>k_is);(case c=>k_is);(case k=>k_is)))
  (case h29=>(refine' cR.dN ?a ?l ?c ?k;(case a=>k_is);(case l=>k_is);(case c=>k_is);(case k=>k_is)))
  (case h30=>(refine' cR.dN ?a ?l ?c ?k;(case a=>k_is);(case l=>k_is);(case c=>k_is);(case k=>k_is)))
  (case h31=>(refine' cR.dN ?a ?l ?c ?k;(case a=>k_is);(case l=>k_is);(case c=>k_is);(case k=>k_is)))
  (case h32=>(refine' cR.dN ?a ?l ?c ?k;(case a=>k_is);(case l=>k_is);(case c=>k_is);(case k=>k_is)))
  (case h33=>(refine' cR.dN ?a ?l ?c ?k;(case a=>k_is);(case l=>k_is);(case c=>k_is);(case k=>k_is)))
  (case h34=>(refine' cR.dN ?a ?l ?c ?k;(case a=>k_is);(case l=>k_is);(case c=>k_is);(case k=>k_is)))
  (case h35=>(refine' cR.dN ?a ?l ?c ?k;(case a=>k_is);(case l=>k_is);(case c=>k_is);(case k=>k_is)))
  (case h36=>(refine' cR.dN ?a ?l ?c ?k;(case a=>k_is);(case l=>k_is);(case c=>k_is);(case k=>k_is)))
  (case h37=>(refine' cR.dN ?a ?l ?c ?k;(case a=>k_is);(case l=>k_is);(case c=>k_is);(case k=>k_is)))
  (case h38=>(refine' cR.dN ?a ?l ?c ?k;(case a=>k_is);(case l=>k_is);(case c=>k_is);(case k=>k_is)))
  (case h39=>(refine' cR.dN ?a ?l ?c ?k;(case a=>k_is);(case l=>k_is);(case c=>k_is);(case k=>k_is)))
