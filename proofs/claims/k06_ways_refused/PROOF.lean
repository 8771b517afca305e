import PyProof.Rows.All
import Wide.All
import OpenK.AllK
import Wide.FinOn
import Lean
import PyProof.EqAt
import PyProof.EqKinds
import PyProof.TupleCall
import PyProof.NeKinds
import KE.KIsAll
import PyProof.ExcArgsOwn
import PySem.SetOps
import PyProof.TupleKey
import PyProof.SetKind
import PyProof.IsRules
import PyProof.Rows.SetFrom
import PyProof.Rows.SortShellK
import PyProof.DictKinds
import PyProof.FactsAll.tuple_2
import PyProof.SetRoads
import PyProof.AutoListH
import KE.RegKIsAll
import KE.RegKTryMore
import PySem.Challenge.RW_nohalfway_k06_ways_refused
set_option Elab.async false
set_option linter.all false
set_option maxRecDepth 100000
namespace aZ
open PySem PySem.Spec PyProof.Rows
noncomputable abbrev Key:=Sum Int Str
noncomputable def pF:Key→Value→Bool
 | .inl k,v=>Value.isInt k v
 | .inr x,v=>Value.isStrOf x v
noncomputable def N3 (w:World):Key→Int
 | .inl k=>hashInt k
 | .inr x=>hashStr w x
theorem lB:∀{k:Key} {v:Value},pF k v=true→(∃i t,k=Sum.inl i∧v=Value.int i t)∨(∃x t,k=Sum.inr x∧v=Value.str x t)
 | .inl i,v,h=>by
   obtain ⟨t,e⟩:=Value.isInt_shape (k:=i) (v:=v) h
   exact .inl ⟨i,t,rfl,e⟩
 | .inr x,v,h=>by
   obtain ⟨t,e⟩:=Value.isStrOf_shape (x:=x) (v:=v) h
   exact .inr ⟨x,t,rfl,e⟩
theorem N4 (i:Int) (t:Tok):pF (.inl i) (.int i t)=true:=by simp [pF,Value.isInt]
theorem N5 (x:Str) (t:Tok):pF (.inr x) (.str x t)=true:=by simp [pF,Value.isStrOf]
theorem N9 (a b:Int):decide ((Sum.inl a:Key)=Sum.inl b)=(a == b):=by
 by_cases e:a=b
 · subst e; simp
 · have h:¬ (Sum.inl a:Key)=Sum.inl b:=fun q=>e (Sum.inl.inj q)
   rw [decide_eq_false h]
   exact (beq_eq_false_iff_ne.mpr e).symm
theorem Ob (a b:Str):decide ((Sum.inr a:Key)=Sum.inr b)=decide (a=b):=by
 by_cases e:a=b
 · subst e; simp
 · have h:¬ (Sum.inr a:Key)=Sum.inr b:=fun q=>e (Sum.inr.inj q)
   rw [decide_eq_false h,decide_eq_false e]
theorem N_ (a:Int) (b:Str):decide ((Sum.inl a:Key)=Sum.inr b)=false:=decide_eq_false (fun q=>nomatch q)
theorem Oa (a:Str) (b:Int):decide ((Sum.inr a:Key)=Sum.inl b)=false:=decide_eq_false (fun q=>nomatch q)
noncomputable def hG (prog:Program) (w:World):PySem.KeyKind prog w Key where
 is:=pF
 hash:=N3 w
 inj:=fun v a b ha hb=>by
  rcases lB ha with ⟨i,t,rfl,rfl⟩ | ⟨x,t,rfl,rfl⟩
  · rcases lB hb with ⟨j,u,rfl,e⟩ | ⟨y,u,rfl,e⟩
    · injection e with ah _; rw [ah]
    · exact nomatch e
  · rcases lB hb with ⟨j,u,rfl,e⟩ | ⟨y,u,rfl,e⟩
    · exact nomatch e
    · injection e with ah _; rw [ah]
 byValue:=fun k v h=>by
  rcases lB h with ⟨i,t,rfl,rfl⟩ | ⟨x,t,rfl,rfl⟩ <;> rfl
 pyHash:=fun hv h=>by
  rcases lB hv with ⟨i,t,rfl,rfl⟩ | ⟨x,t,rfl,rfl⟩
  · exact wpAny_pyHash_int h
  · exact wpAny_pyHash_str h
 eqBool:=fun hu hv h=>by
  rcases lB hu with ⟨i,t,rfl,rfl⟩ | ⟨x,t,rfl,rfl⟩
  · rcases lB hv with ⟨j,u,rfl,rfl⟩ | ⟨y,u,rfl,rfl⟩
    · rw [N9] at h; exact wpAny_eqBool_int h
    · rw [N_] at h; exact SeqAt.EqAt.int_str i t y u _ _ _ _ h
  · rcases lB hv with ⟨j,u,rfl,rfl⟩ | ⟨y,u,rfl,rfl⟩
    · rw [Oa] at h; exact SeqAt.EqAt.str_int x t j u _ _ _ _ h
    · rw [Ob] at h; exact wpAny_eqBool_str h
 «strs» :=fun k x t v h=>by
  rcases lB h with ⟨i,u,rfl,e⟩ | ⟨y,u,rfl,e⟩
  · exact nomatch e
  · injection e with ah _
    subst ah
    cases v <;> rfl
theorem Pn (prog:Program) (w:World) (i:Int) (t:Tok):(hG prog w).is (.inl i) (.int i t)=true:=N4 i t
theorem Po (prog:Program) (w:World) (x:Str) (t:Tok):(hG prog w).is (.inr x) (.str x t)=true:=N5 x t
end aZ
namespace aZ
open PySem PySem.Spec PyProof.Rows
inductive V where
 | non | au (b:Bool) | int (i:Int) | str (x:Str) | ky (b:Array UInt8) | ua (b:UInt64) | ref (a:Addr) | ty (n:String)
 deriving DecidableEq
noncomputable def RelV:V→Value→Prop
 | .non,u=>u=Value.none
 | .au b,u=>u=Value.bool b
 | .int i,u=>∃t,u=Value.int i t
 | .str x,u=>∃t,u=Value.str x t
 | .ky b,u=>∃t,u=Value.bytes b t
 | .ua b,u=>∃t,u=Value.float b t
 | .ref a,u=>u=Value.ref a
 | .ty n,u=>u=Value.type n
noncomputable abbrev Vals:List V→List Value→Prop:=Paired RelV
theorem Vals.length {xs:List V} {us:List Value} (r:Vals xs us):xs.length=us.length:=Paired.length r
theorem Vals.get:∀{xs:List V} {us:List Value} {i:Nat} {x:V},Vals xs us→xs[i]? =some x→∃u,us[i]? =some u∧RelV x u
 | _,_,_,_,.nil,e=>by simp at e
 | _,_,0,_,.cons r _,e=>by simp at e; subst e; exact ⟨_,rfl,r⟩
 | _,_,i + 1,x,.cons _ t,e=>by
   obtain ⟨u,h1,h2⟩:=Vals.get (i:=i) (x:=x) t (by simpa using e)
   exact ⟨u,by simpa using h1,h2⟩
theorem Vals.set {x:V} {u:Value} (r:RelV x u):∀{xs:List V} {us:List Value} (i:Nat),Vals xs us→Vals (xs.set i x) (us.set i u)
 | _,_,_,.nil=> .nil
 | _,_,0,.cons _ t=> .cons r t
 | _,_,i + 1,.cons q t=> .cons q (Vals.set r i t)
theorem Vals.append:∀{xs ys:List V} {us ws:List Value},Vals xs us→Vals ys ws→Vals (xs ++ ys) (us ++ ws)
 | _,_,_,_,.nil,s=>s
 | _,_,_,_,.cons r t,s=> .cons r (Vals.append t s)
theorem Vals.take:∀{xs:List V} {us:List Value} (n:Nat),Vals xs us→Vals (xs.take n) (us.take n)
 | _,_,0,_=> .nil
 | _,_,_ + 1,.nil=> .nil
 | _,_,n + 1,.cons r t=> .cons r (Vals.take n t)
theorem Vals.drop:∀{xs:List V} {us:List Value} (n:Nat),Vals xs us→Vals (xs.drop n) (us.drop n)
 | _,_,0,r=>r
 | _,_,_ + 1,.nil=> .nil
 | _,_,n + 1,.cons _ t=>Vals.drop n t
noncomputable def hj:Option V→Option Value→Prop
 | some v,some u=>RelV v u
 | none,none=>True
 | _,_=>False
noncomputable def eX {κ:Type}:List (κ×V)→List (κ×Value)→Prop:=Paired fun (p:κ×V) (q:κ×Value)=>p.1=q.1∧RelV p.2 q.2
noncomputable def cE:Key→V
 | .inl i=> .int i
 | .inr x=> .str x
inductive cY where
 | lst (xs:List V)
 | tup (xs:List V)
 | cL (aQ:List (Key×V)) | bx (aQ:List (List Key×V))
 | set (S:Int→Bool) (n:Nat)
 | ins (C aT:Addr) (aO:List (Str×V))
 | own (x:Addr)
 | vP (aO:List (Str×V))
 | met (f x:Addr)
 | vj (lo hi:Int)
 | iS (o:Obj) (u:cY)
 | nf (aB:Array Value)
 | ext (oJ:Heap→Prop)
noncomputable abbrev J:=Addr→Option cY
noncomputable def upd (H:J) (a:Addr) (o:cY):J:=fun b=>if b=a then some o else H b
theorem dv {H:J} {a:Addr} {o:cY}:upd H a o a=some o:=by unfold upd; rw [if_pos rfl]
theorem cG {H:J} {a b:Addr} {o:cY} (h:b≠a):upd H a o b=H b:=by unfold upd; rw [if_neg h]
theorem PD {H:J} {a b:Addr} {o u:cY} (h:H a=some o) (h':H b=some u) (d:o≠u):a≠b:=by
 intro e; subst e; rw [h] at h'; exact d (Option.some.inj h')
theorem hH {H:J} {a b:Addr} {o:cY} (h:H a=some o) (h':H b=none):a≠b:=by
 intro e; subst e; rw [h] at h'; cases h'
section
variable (P:Program) (w:World)
noncomputable def en (H:J) (h:Heap) (a:Addr):cY→Prop
 | .lst xs=>xs.length≤sizeLine∧∃(its:List Value) (n:Nat),Vals xs its∧h.get? a=some { cls:= .type "list",data:= .seq its.toArray n }
 | .tup xs=>xs.length≤sizeLine∧∃its:List Value,Vals xs its∧IsTup h a its.toArray
 | .cL aQ=>aQ.length≤sizeLine∧(a == sysModules)=false∧∃vs,eX aQ vs∧h.DictOf (hG P w) a vs
 | .bx aQ=>aQ.length≤sizeLine∧(a == sysModules)=false∧∃xs:List (List Key×Addr×Value),
     Paired (fun (p:List Key×V) (q:List Key×Addr×Value)=>p.1=q.1∧H q.2.1=some (.tup (p.1.map cE))∧RelV p.2 q.2.2) aQ xs∧
     ∃o ae dB,h.get? a=some o∧o.ExactDict∧o.data= .dict ae dB∧ae.toList=xs.map (entryOfKey (tupleKind (hG P w)))∧(xs.map (·.1)).Nodup
 | .set S n=>h.SetOf (intKind P w) a S n
 | .ins C aT aO=>H aT=some (.own a)∧aO.length≤1000∧aT≠a∧h.get? a=some (PySem.W.instObj C aT)∧
     ∃dk,h.Ns1 aT dk∧(∀f,hj (aO.lookup f) (dk f))∧PySem.Within dk (aO.map (·.1))
 | .own _=>∃o,h.get? a=some o
 | .vP aO=>∃dk,h.Ns1 a dk∧∀f,hj (aO.lookup f) (dk f)
 | .vj lo hi=>∃t u v,h.get? a=some { cls:= .type "range",data:= .fields #[.int lo t,.int hi u,.int 1 v] }
 | .iS o u=>h.get? a=some o∧en H h a u
 | .nf aB=>h.get? a=some { cls:= .none,data:= .fields aB }
 | .met f x=>h.get? a=some (PySem.W.methodObj (.ref f) (.ref x))
 | .ext oJ=>oJ h∧(∃o,h.get? a=some o)∧∀h1 h2:Heap,oJ h1→(∀o,h1.get? a=some o→h2.get? a=some o)→oJ h2
noncomputable def dM (H:J) (h:Heap):Prop:=∀a o,H a=some o→en P w H h a o
end
section
variable {P:Program} {w:World} {H H':J} {h h':Heap} {a:Addr} {o:cY}
theorem en.lt (x:en P w H h a o):a < h.objs.size:=by
 cases o with
 | lst xs=>obtain ⟨_,_,_,_,e⟩:=x; exact Heap.lt_size e
 | tup xs=>obtain ⟨_,_,_,p⟩:=x; exact p.lt
 | cL aQ=>obtain ⟨_,_,_,_,o,_,_,e,_⟩:=x; exact Heap.lt_size e
 | bx aQ=>obtain ⟨_,_,_,_,o,_,_,e,_⟩:=x; exact Heap.lt_size e
 | set S n=>obtain ⟨o,_,_,_,e,_⟩:=x; exact Heap.lt_size e
 | ins C aT aO=>obtain ⟨_,_,_,e,_⟩:=x; exact Heap.lt_size e
 | own y=>obtain ⟨_,e⟩:=x; exact Heap.lt_size e
 | vP aO=>obtain ⟨_,⟨_,_,_,e,_⟩,_⟩:=x; exact Heap.lt_size e
 | vj lo hi=>obtain ⟨_,_,_,e⟩:=x; exact Heap.lt_size e
 | iS aU u=>obtain ⟨e,_⟩:=x; exact Heap.lt_size e
 | nf aB=>exact Heap.lt_size (show h.get? a=some _ from x)
 | met f y=>exact Heap.lt_size (show h.get? a=some _ from x)
 | ext oJ=>obtain ⟨_,⟨_,e⟩,_⟩:=x; exact Heap.lt_size e
theorem Paired.yV {α β:Type} {F G:α→β→Prop}:∀{EO:List α} {EP:List β},Paired F EO EP→(∀a b,F a b→G a b)→Paired G EO EP
 | _,_,.nil,_=> .nil
 | _,_,.cons r t,f=> .cons (f _ _ r) (Paired.yV t f)
theorem en.ki (x:en P w H h a o) (k:∀b u,(b=a∨H b=some (.own a))→h.get? b=some u→h'.get? b=some u)
  (ho:∀b,H b=some (.own a)→H' b=some (.own a)) (ht:∀b xs,H b=some (.tup xs)→H' b=some (.tup xs)):en P w H' h' a o:=by
 induction o with
 | lst xs=>obtain ⟨z,its,n,r,e⟩:=x; exact ⟨z,its,n,r,k _ _ (.inl rfl) e⟩
 | tup xs=>obtain ⟨z,its,r,aU,e,c⟩:=x; exact ⟨z,its,r,aU,k _ _ (.inl rfl) e,c⟩
 | cL aQ=>obtain ⟨z,y,vs,r,aU,ae,dB,e,c⟩:=x; exact ⟨z,y,vs,r,aU,ae,dB,k _ _ (.inl rfl) e,c⟩
 | bx aQ=>
   obtain ⟨z,y,xs,r,aU,ae,dB,e,c⟩:=x
   exact ⟨z,y,xs,Paired.yV r fun p q z=>⟨z.1,ht _ _ z.2.1,z.2.2⟩,aU,ae,dB,k _ _ (.inl rfl) e,c⟩
 | set S n=>obtain ⟨aU,ae,dB,t,e,c⟩:=x; exact ⟨aU,ae,dB,t,k _ _ (.inl rfl) e,c⟩
 | ins C aT aO=>
   obtain ⟨d,z,ne,e,dk,⟨de,ae,dB,aw,c⟩,r⟩:=x
   exact ⟨ho _ d,z,ne,k _ _ (.inl rfl) e,dk,⟨de,ae,dB,k _ _ (.inr d) aw,c⟩,r⟩
 | own y=>obtain ⟨aU,e⟩:=x; exact ⟨aU,k _ _ (.inl rfl) e⟩
 | vP aO=>obtain ⟨dk,⟨de,ae,dB,e,c⟩,r⟩:=x; exact ⟨dk,⟨de,ae,dB,k _ _ (.inl rfl) e,c⟩,r⟩
 | vj lo hi=>obtain ⟨t,u,v,e⟩:=x; exact ⟨t,u,v,k _ _ (.inl rfl) e⟩
 | iS aU u b8=>obtain ⟨e,q⟩:=x; exact ⟨k _ _ (.inl rfl) e,b8 q⟩
 | nf aB=>
   have e:h.get? a=some { cls:= .none,data:= .fields aB }:=x
   show h'.get? a=some { cls:= .none,data:= .fields aB }
   exact k a _ (.inl rfl) e
 | met f y=>
   have e:h.get? a=some (PySem.W.methodObj (.ref f) (.ref y)):=x
   show h'.get? a=some (PySem.W.methodObj (.ref f) (.ref y))
   exact k a _ (.inl rfl) e
 | ext oJ=>obtain ⟨p,⟨o,e⟩,st⟩:=x; exact ⟨st _ _ p fun o q=>k _ _ (.inl rfl) q,⟨o,k _ _ (.inl rfl) e⟩,st⟩
theorem dM.lt (x:dM P w H h) (e:H a=some o):a < h.objs.size:=(x a o e).lt
theorem dM.fresh (x:dM P w H h) (e:h.objs.size≤a):H a=none:=by
 cases q:H a with
 | none=>rfl
 | some u=>exact absurd (Nat.lt_of_lt_of_le (x.lt q) e) (Nat.lt_irrefl _)
theorem dM.kept (x:dM P w H h) (k:∀b u,h.get? b=some u→h'.get? b=some u):dM P w H h':=fun a o e=>
 (x a o e).ki (fun b u _ q=>k b u q) (fun _ q=>q) fun _ _ q=>q
theorem dM.laid (x:dM P w H h) (k:∀b u,h.get? b=some u→h'.get? b=some u) (hp:h.objs.size≤a) (new:en P w (upd H a o) h' a o):dM P w (upd H a o) h':=fun b u e=>by
 have aN:=x.fresh hp
 by_cases hb:b=a
 · subst hb; rw [dv] at e; cases e; exact new
 · rw [cG hb] at e
   exact (x b u e).ki (fun c v _ q=>k c v q) (fun c q=>by rw [cG (hH q aN)]; exact q) fun c xs q=>by rw [cG (hH q aN)]; exact q
end
noncomputable def fh (H:J) (a:Addr) (u:cY):Prop:=H a=some u∨∃o,H a=some (.iS o u)
theorem fh.of {H:J} {a:Addr} {u:cY} (h:H a=some u):fh H a u:= .inl h
theorem fh.ok {P:Program} {w:World} {H:J} {h:Heap} {a:Addr} {u:cY} (r:fh H a u) (x:dM P w H h):en P w H h a u:=by
 rcases r with r | ⟨o,r⟩
 · exact x a u r
 · obtain ⟨_,q⟩:=x a _ r
   exact q
noncomputable def qM:Option cY→Prop
 | some (.lst _)=>True
 | some (.cL _)=>True
 | some (.bx _)=>True
 | some (.set _ _)=>True
 | some (.ins _ _ _)=>True
 | some (.ext _)=>True
 | _=>False
section
variable {P:Program} {w:World} {H:J} {h h':Heap} {x e:Addr} {bC:cY}
theorem dM.write (ok:dM P w H h) (iE:qM (H x)) (he:e=x∨H e=some (.own x)) (k:∀b u,b≠e→h.get? b=some u→h'.get? b=some u) (pz:∃u,h'.get? e=some u)
  (new:en P w (upd H x bC) h' x bC):dM P w (upd H x bC) h':=fun b u q=>by
 have Fd:∀c y,H c=some (.own y)→c≠x:=fun c y r z=>by subst z; rw [r] at iE; exact iE
 have PO:∀c xs,H c=some (.tup xs)→c≠x:=fun c xs r z=>by subst z; rw [r] at iE; exact iE
 by_cases hb:b=x
 · subst hb; rw [dv] at q; cases q; exact new
 · rw [cG hb] at q
   by_cases nX:b=e
   · have cS:H b=some (.own x):=by
      rcases he with z | z
      · exact absurd (nX.trans z) hb
      · rw [nX]; exact z
     rw [q] at cS; cases cS
     obtain ⟨v,hv⟩:=pz
     exact ⟨v,by rw [nX]; exact hv⟩
   · refine (ok b u q).ki (fun c v hc r=>k c v ?_ r) (fun c r=>by rw [cG (Fd c b r)]; exact r) fun c xs r=>by rw [cG (PO c xs r)]; exact r
     rcases hc with rfl | hc
     · exact nX
     · rintro rfl
       rcases he with z | z
       · exact Fd c b hc z
       · rw [hc] at z; cases z; exact hb rfl
end
structure eI (aO ex:List Addr) (H H':J) (h h':Heap):Prop where
 keep:∀b o,h.get? b=some o→H b=none→b∉aO→b∉ex→h'.get? b=some o
 slot:∀b o,h.get? b=some o→H b=none→b∈aO→b∉ex→∃cc,h'.get? b=some { o with slots:=cc }
 free:∀b o,h.get? b=some o→H b=none→b∉ex→H' b=none
 there:∀b o,h.get? b=some o→b∉ex→∃bC,h'.get? b=some bC
 gM:∀b xs,H b=some (.tup xs)→H' b=some (.tup xs)
 gp:∀b o u,H b=some (.iS o u)→H' b=some (.iS o u)
 gL:∀b aB,H b=some (.nf aB)→∃more,H' b=some (.nf (aB ++ more))
section
variable {aO Dq ex Wl:List Addr} {H H1 aH:J} {h h1 h2 h':Heap} {a x e:Addr} {o:cY}
theorem eI.any (u:eI aO ex H H1 h h1) {b:Addr} {aU:Obj} (q:h.get? b=some aU) (n:H b=none) (hx:b∉ex):∃cc,h1.get? b=some { aU with slots:=cc }:=by
 by_cases hb:b∈aO
 · exact u.slot b aU q n hb hx
 · exact ⟨aU.slots,u.keep b aU q n hb hx⟩
theorem eI.trans (a:eI aO ex H H1 h h1) (b:eI aO ex H1 aH h1 h2):eI aO ex H aH h h2 where
 keep:=fun c aU q n hc hx=>b.keep c aU (a.keep c aU q n hc hx) (a.free c aU q n hx) hc hx
 slot:=fun c aU q n hc hx=>by
  obtain ⟨cc,ah⟩:=a.slot c aU q n hc hx
  obtain ⟨Al,aw⟩:=b.slot c _ ah (a.free c aU q n hx) hc hx
  exact ⟨Al,aw⟩
 free:=fun c aU q n hx=>by
  obtain ⟨bC,ah⟩:=a.there c aU q hx
  exact b.free c bC ah (a.free c aU q n hx) hx
 there:=fun c aU q hx=>by
  obtain ⟨bC,ah⟩:=a.there c aU q hx
  exact b.there c bC ah hx
 gM:=fun c xs q=>b.gM c xs (a.gM c xs q)
 gp:=fun c aU xs q=>b.gp c aU xs (a.gp c aU xs q)
 gL:=fun c aB q=>by
  obtain ⟨m1,ah⟩:=a.gL c aB q
  obtain ⟨m2,aw⟩:=b.gL c _ ah
  exact ⟨m1 ++ m2,by rw [aw,Array.append_assoc]⟩
theorem eI.kept (k:∀b u,h.get? b=some u→h'.get? b=some u):eI aO ex H H h h':=
 ⟨fun b aU q _ _ _=>k b aU q,fun b aU q _ _ _=>⟨aU.slots,k b aU q⟩,fun _ _ _ n _=>n,fun b aU q _=>⟨aU,k b aU q⟩,fun _ _ q=>q,fun _ _ _ q=>q,fun _ aB q=>⟨#[],by rw [q]; simp⟩⟩
theorem eI.refl:eI aO ex H H h h:=eI.kept fun _ _ q=>q
theorem eI.laid (k:∀b u,h.get? b=some u→h'.get? b=some u) (hp:h.objs.size≤a) (aN:H a=none):eI aO ex H (upd H a o) h h' where
 keep:=fun b u q _ _ _=>k b u q
 slot:=fun b u q _ _ _=>⟨u.slots,k b u q⟩
 free:=fun b u q n _=>by rw [cG (Nat.ne_of_lt (Nat.lt_of_lt_of_le (Heap.lt_size q) hp))]; exact n
 there:=fun b u q _=>⟨u,k b u q⟩
 gM:=fun b xs q=>by rw [cG (hH q aN)]; exact q
 gp:=fun b u xs q=>by rw [cG (hH q aN)]; exact q
 gL:=fun b aB q=>⟨#[],by rw [cG (hH q aN),q]; simp⟩
theorem eI.write (iE:qM (H x)) (he:e=x∨H e=some (.own x)) (k:∀b u,b≠e→h.get? b=some u→h'.get? b=some u) (pz:∃u,h'.get? e=some u):eI aO ex H (upd H x o) h h':=by
 have hx:∀b,H b=none→b≠x:=fun b n z=>by subst z; rw [n] at iE; exact iE
 have hb:∀b,H b=none→b≠e:=fun b n z=>by
  subst z
  rcases he with r | r
  · exact hx b n r
  · rw [n] at r; cases r
 have hm:∀b u,H b=some u→¬ qM (some u)→b≠x:=fun b u q nm z=>by subst z; rw [q] at iE; exact nm iE
 refine ⟨fun b u q n _ _=>k b u (hb b n) q,fun b u q n _ _=>⟨u.slots,k b u (hb b n) q⟩,fun b u q n _=>by rw [cG (hx b n)]; exact n,fun b u q _=>?_,
  fun b xs q=>by rw [cG (hm b _ q fun z=>z)]; exact q,fun b u xs q=>by rw [cG (hm b _ q fun z=>z)]; exact q,fun b aB q=>⟨#[],by rw [cG (hm b _ q fun z=>z),q]; simp⟩⟩
 by_cases nX:b=e
 · subst nX; exact pz
 · exact ⟨u,k b u nX q⟩
end
noncomputable def vE (h:Heap) (H:J):List Addr:=(List.range h.objs.size).filter fun a=>(H a).isSome
noncomputable def ly (h:Heap) (H:J):Heap:=PySem.W.hideAll h (vE h H)
theorem LN (h:Heap) (H:J):(ly h H).objs.size=h.objs.size:=PySem.W.hideAll_size _ _
theorem LM {h:Heap} {H:J} {b:Addr} {o:Obj} (e:h.get? b=some o) (n:H b=none):(ly h H).get? b=some o:=
 PySem.W.hideAll_get _ e fun hm=>by
  have q:(H b).isSome=true:=(List.mem_filter.mp hm).2
  rw [n] at q; simp at q
theorem P2 {h:Heap} {H:J} {b:Addr} {o:Obj} (e:(ly h H).get? b=some o):h.get? b=some o∧H b=none:=by
 have bY:h.get? b=some o:=PySem.W.of_hideAll (vE h H) e
 refine ⟨bY,?_⟩
 cases q:H b with
 | none=>rfl
 | some x=>
   have hm:b∈vE h H:=List.mem_filter.mpr ⟨List.mem_range.mpr (Heap.lt_size bY),by simp [q]⟩
   have z:(ly h H).get? b=none:=PySem.W.hideAll_none (vE h H) hm
   rw [z] at e; cases e
noncomputable def Iw (g h:Heap) (L:Addr):List (Addr×Obj):=(List.range h.objs.size).filterMap fun a=>if a=L∨(g.get? a).isSome=true then none else (h.get? a).map fun o=>(a,o)
noncomputable def rest (g h:Heap) (L d:Addr):List (Addr×Obj):=(Iw g h L).filter fun p=>decide (p.1≠d)
end aZ
namespace aZ
open PySem PySem.Spec PyProof.Rows
structure Mod (K:PySem.W.Frag) (mg:Str→Option Value) (base:Heap):Prop where
 lD:K.In base
 glob:base.Ns mainGlobals mg
 blt:∃e4,base.Ns builtinsNs e4∧∀x:Str,x≠"__name__"→e4 x=bootBuiltins x
 nolimit:base.NoLimit
structure aG where
 prog:Program
 w:World
 K:PySem.W.Frag
 mg:Str→Option Value
 base:Heap
 A:Around
 N:List Str
 eD:Shared
 nv:J
 env:Env
 outer:List Env
 stack:List Env
 ex:List Addr
 fn:Str→Bool
 calm:Bool
 mZ:List (Addr×Obj)
 xe:Value→Shared→Prop
noncomputable def dN (l:List Env):List Addr:=l.filterMap (·.frame)
noncomputable abbrev aG.aO (X:aG):List Addr:=dN X.outer
noncomputable def fG (sc:Scope) (x:Str):Prop:=sc.names.lookup x=some .local∨sc.names.lookup x=some .cell∨sc.names.lookup x=some .free
noncomputable def Loc (sc:Scope) (x:Str):Prop:=sc.names.lookup x=some .local∨sc.names.lookup x=some .cell
noncomputable def Look (env:Env) (h:Heap) (m:Str→Option Value) (x:Str) (u:Value):Prop:=
 (env.kindOf x=some .local∧m x=some u)∨((env.kindOf x=some .cell∨env.kindOf x=some .free)∧∃c,env.cells.lookup x=some c∧h.IsCell c (some u))
structure aG.Ok (X:aG):Prop where
 mod:Mod X.K X.mg X.base
 kind:X.env.scope.kind= .function
 glob:X.env.globals=mainGlobals
 blt:X.env.builtins=builtinsNs
 above:X.eD.heap.objs.size≤X.env.locals
 inj:∀x y c,X.env.cells.lookup x=some c→X.env.cells.lookup y=some c→x=y
 has:∀x,(X.env.kindOf x=some .cell∨X.env.kindOf x=some .free)→∃c,X.env.cells.lookup x=some c
 ph:∀x c,X.fn x=true→X.env.cells.lookup x=some c→X.eD.heap.objs.size≤c
 hd:X.calm=true→X.A.handled=none
 frames:X.A.frames=some X.stack
 sG:X.stack=X.outer∨(X.stack=X.env::X.outer∧X.env.frame=some X.env.locals)
 xw:∀b∈X.ex,b≠X.env.locals∧∀x c,X.env.cells.lookup x=some c→c≠b
 bs:∀b o,X.base.get? b=some o→X.eD.heap.get? b=some o∧X.nv b=none
 lj:X.base.objs.size≤X.eD.heap.objs.size
 mX:∀b o,X.base.get? b=some o→b∉X.ex
 rf:∀b∈X.ex,b∉X.aO
 hX:X.eD.heap.FunFrames X.base X.outer
 mD:∀b∈X.aO,X.nv b=none
structure Inv (X:aG) (pins:List (Addr×Obj)) (σ :List (Option V)) (H:J) (s:Shared):Prop where
 ok:X.Ok
 os:s.os=X.eD.os
 bare:AllBare s.gens
 base:eI X.aO X.ex X.nv H X.eD.heap s.heap
 loc:∃m,s.heap.Ns X.env.locals m∧∀(i:Nat) (x:Str) (v:V),X.N[i]? =some x→ σ[i]? =some (some v)→fG X.env.scope x→∃u,RelV v u∧Look X.env s.heap m x u
 cell:∀x c,X.env.cells.lookup x=some c→∃v,s.heap.IsCell c v
 free:H X.env.locals=none
 iA:∀x c,X.env.cells.lookup x=some c→H c=none
 pin:∀p∈X.mZ ++ pins,s.heap.get? p.1=some p.2∧H p.1=none∧p.1≠X.env.locals∧p.1∉X.aO∧∀v,p.2.data≠ .cell v
 bk:dM X.prog X.w H s.heap
 len: σ.length=X.N.length
section
variable {X:aG} {pins:List (Addr×Obj)} {σ :List (Option V)} {H H':J} {s:Shared} {h':Heap}
theorem aG.Ok.PJ (ok:X.Ok) {b:Addr} {o:Obj} (e:X.base.get? b=some o):b∉X.aO:=fun hb=>by
 have:=(ok.hX.mem hb).1
 rw [e] at this; cases this
theorem Inv.bs (I:Inv X pins σ H s):∀b o,X.base.get? b=some o→s.heap.get? b=some o∧H b=none:=fun b o e=>
 ⟨I.base.keep b o (I.ok.bs b o e).1 (I.ok.bs b o e).2 (I.ok.PJ e) (I.ok.mX b o e),I.base.free b o (I.ok.bs b o e).1 (I.ok.bs b o e).2 (I.ok.mX b o e)⟩
theorem Inv.eB (I:Inv X pins σ H s):∀b o,X.base.get? b=some o→s.heap.get? b=some o:=fun b o e=>(I.bs b o e).1
theorem Inv.mod (I:Inv X pins σ H s):Mod X.K X.mg X.base:=I.ok.mod
theorem Inv.eP (I:Inv X pins σ H s):X.K.In s.heap:=I.ok.mod.lD.keeps I.eB
theorem Inv.lt (I:Inv X pins σ H s):X.env.locals < s.heap.objs.size:=let ⟨_,aN,_⟩:=I.loc; aN.lt
theorem Inv.jI (I:Inv X pins σ H s):X.eD.heap.objs.size≤s.heap.objs.size:=Nat.le_trans I.ok.above (Nat.le_of_lt I.lt)
theorem Inv.PL (I:Inv X pins σ H s) {a:Addr} (h:s.heap.objs.size≤a):a∉X.aO:=fun hb=>by
 obtain ⟨_,o,ho,_⟩:=I.ok.hX.mem hb
 exact absurd (Nat.lt_of_lt_of_le (Heap.lt_size ho) (Nat.le_trans I.jI h)) (Nat.lt_irrefl _)
theorem Inv.mA (I:Inv X pins σ H s):∀x c,X.env.cells.lookup x=some c→c≠X.env.locals:=fun x c e z=>by
 obtain ⟨v,o,ho,hd⟩:=I.cell x c e
 obtain ⟨m,⟨bC,ae,dB,ho',gV,_⟩,_⟩:=I.loc
 rw [z,ho'] at ho; cases ho; rw [gV] at hd; cases hd
theorem Inv.hX (I:Inv X pins σ H s):s.heap.FunFrames X.base X.outer:=by
 have all:∀(l:List Env),(∀b∈dN l,b∈X.aO)→X.eD.heap.FunFrames X.base l→s.heap.FunFrames X.base l:=by
  intro l
  induction l with
  | nil=>intro _ _; trivial
  | cons env r b8=>
    intro hs hl
    obtain ⟨hk,⟨L,o,hf,aN,ho,hd⟩,hr⟩:=hl
    have fm:L∈X.aO:=hs L (by unfold dN; rw [List.filterMap_cons,hf]; exact List.mem_cons_self)
    obtain ⟨cc,e⟩:=I.base.slot L o ho (I.ok.mD L fm) fm fun z=>I.ok.rf L z fm
    exact ⟨hk,⟨L,_,hf,aN,e,hd⟩,b8 (fun b hb=>hs b (by unfold dN; rw [List.filterMap_cons,hf]; exact List.mem_cons_of_mem _ hb)) hr⟩
 exact all X.outer (fun _ hb=>hb) I.ok.hX
theorem Inv.stack (I:Inv X pins σ H s):s.heap.FunFrames X.base X.stack:=by
 rcases I.ok.sG with e | ⟨e,hf⟩
 · rw [e]; exact I.hX
 · rw [e]
   obtain ⟨m,aN,_⟩:=I.loc
   refine .cons (by rw [I.ok.kind]; decide) hf aN ?_ I.hX
   exact Heap.get?_none_of_le (Nat.le_trans I.ok.lj I.ok.above)
theorem Inv.vw (I:Inv X pins σ H s):∀b∈dN X.stack,b∈X.env.locals::X.aO:=fun b hb=>by
 rcases I.ok.sG with e | ⟨e,hf⟩
 · rw [e] at hb; exact List.mem_cons_of_mem _ hb
 · rw [e] at hb
   unfold dN at hb
   rw [List.filterMap_cons,hf] at hb
   exact hb
theorem Inv.Ao (I:Inv X pins σ H s):∀b∈dN X.stack,H b=none:=fun b hb=>by
 rcases List.mem_cons.mp (I.vw b hb) with e | hb
 · rw [e]; exact I.free
 · obtain ⟨_,o,ho,_⟩:=I.ok.hX.mem hb
   exact I.base.free b o ho (I.ok.mD b hb) fun z=>I.ok.rf b z hb
theorem Inv.step {g':Array GenState} {t':Nat} {d':Drawn} {ch:List Addr} (I:Inv X pins σ H s)
  (kD:∀b∈ch,(b∈X.ex∨X.eD.heap.objs.size≤b)∧b≠X.env.locals∧(∀x c,X.env.cells.lookup x=some c→c≠b)∧∀p∈X.mZ ++ pins,p.1≠b)
  (keep:∀b o,b≠X.env.locals→b∉X.aO→b∉ch→s.heap.get? b=some o→H b=none→h'.get? b=some o)
  (slot:∀b o,b≠X.env.locals→b∈X.aO→b∉ch→s.heap.get? b=some o→H b=none→∃cc,h'.get? b=some { o with slots:=cc }) (free:∀b o,b∉ch→s.heap.get? b=some o→H b=none→H' b=none)
  (there:∀b o,b∉ch→s.heap.get? b=some o→∃bC,h'.get? b=some bC)
  (gM:∀b xs,H b=some (.tup xs)→H' b=some (.tup xs)) (gp:∀b o u,H b=some (.iS o u)→H' b=some (.iS o u)) (gL:∀b aB,H b=some (.nf aB)→∃more,H' b=some (.nf (aB ++ more)))
  (ns:∀m,s.heap.Ns X.env.locals m→h'.Ns X.env.locals m) (bk:dM X.prog X.w H' h') (hg:AllBare g') :
  Inv X pins σ H' { s with heap:=h',gens:=g',drawn:=d',toks:=t' }:=by
 have E5:∀b o,X.eD.heap.get? b=some o→b≠X.env.locals:=fun b o e=>Nat.ne_of_lt (Nat.lt_of_lt_of_le (Heap.lt_size e) I.ok.above)
 have u4:∀b o,X.eD.heap.get? b=some o→b∉X.ex→b∉ch:=fun b o e hx hb=>by
  rcases (kD b hb).1 with z | z
  · exact hx z
  · exact absurd (Nat.lt_of_lt_of_le (Heap.lt_size e) z) (Nat.lt_irrefl _)
 have cellK:∀x c,X.env.cells.lookup x=some c→∀v,s.heap.IsCell c v→h'.IsCell c v:=fun x c e v ⟨o,ho,hd⟩=>by
  have sa:c∉ch:=fun z=>(kD c z).2.2.1 x c e rfl
  by_cases hc:c∈X.aO
  · obtain ⟨cc,q⟩:=slot c o (I.mA x c e) hc sa ho (I.iA x c e)
    exact ⟨_,q,hd⟩
  · exact ⟨o,keep c o (I.mA x c e) hc sa ho (I.iA x c e),hd⟩
 refine ⟨I.ok,I.os,hg,⟨fun b o e n hb hx=>?_,fun b o e n hb hx=>?_,fun b o e n hx=>?_,fun b o e hx=>?_,fun b xs e=>gM b xs (I.base.gM b xs e),fun b o xs e=>gp b o xs (I.base.gp b o xs e),fun b aB e=>?_⟩,?_,fun x c e=>?_,?_,fun x c e=>?_,fun p hp=>?_,bk,I.len⟩
 · exact keep b o (E5 b o e) hb (u4 b o e hx) (I.base.keep b o e n hb hx) (I.base.free b o e n hx)
 · obtain ⟨cc,ah⟩:=I.base.slot b o e n hb hx
   obtain ⟨Al,aw⟩:=slot b _ (E5 b o e) hb (u4 b o e hx) ah (I.base.free b o e n hx)
   exact ⟨Al,aw⟩
 · obtain ⟨bC,ah⟩:=I.base.there b o e hx
   exact free b bC (u4 b o e hx) ah (I.base.free b o e n hx)
 · obtain ⟨bC,ah⟩:=I.base.there b o e hx
   exact there b bC (u4 b o e hx) ah
 · obtain ⟨m1,ah⟩:=I.base.gL b aB e
   obtain ⟨m2,aw⟩:=gL b _ ah
   exact ⟨m1 ++ m2,by rw [aw,Array.append_assoc]⟩
 · obtain ⟨m,aN,hl⟩:=I.loc
   refine ⟨m,ns m aN,fun i x v ah aw bK=>?_⟩
   obtain ⟨u,r,l⟩:=hl i x v ah aw bK
   refine ⟨u,r,?_⟩
   rcases l with l | ⟨k,c,e,z⟩
   · exact .inl l
   · exact .inr ⟨k,c,e,cellK x c e _ z⟩
 · obtain ⟨v,z⟩:=I.cell x c e
   exact ⟨v,cellK x c e v z⟩
 · obtain ⟨m,⟨o,_,_,ho,_⟩,_⟩:=I.loc
   exact free _ o (fun z=>(kD _ z).2.1 rfl) ho I.free
 · obtain ⟨v,o,ho,hd⟩:=I.cell x c e
   exact free c o (fun z=>(kD c z).2.2.1 x c e rfl) ho (I.iA x c e)
 · obtain ⟨e,n,ne,gH,d⟩:=I.pin p hp
   have sa:p.1∉ch:=fun z=>(kD p.1 z).2.2.2 p hp rfl
   exact ⟨keep p.1 p.2 ne gH sa e n,free p.1 p.2 sa e n,ne,gH,d⟩
theorem Inv.un {t':Nat} (I:Inv X pins σ H s) (u:eI X.aO [] H H' s.heap h') (bk:dM X.prog X.w H' h'):Inv X pins σ H' { s with heap:=h',toks:=t' }:=by
 obtain ⟨m,⟨o,ae,dB,ho,r⟩,_⟩:=id I.loc
 obtain ⟨cc,fm⟩:=u.any ho I.free (by simp)
 exact I.step (g':=s.gens) (d':=s.drawn) (ch:=[]) (fun _ z=>nomatch z) (fun b o _ hb _ e n=>u.keep b o e n hb (by simp)) (fun b o _ hb _ e n=>u.slot b o e n hb (by simp)) (fun b o _ e n=>u.free b o e n (by simp)) (fun b o _ e=>u.there b o e (by simp)) u.gM u.gp u.gL (fun d9 hm=>by
  obtain ⟨bC,q_,xr,ho',a4⟩:=hm
  rw [ho] at ho'; cases ho'
  exact ⟨_,q_,xr,fm,a4⟩) bk I.bare
theorem Inv.call {g':Array GenState} {t':Nat} {d':Drawn} {ch:List Addr} (I:Inv X pins σ H s) (u:eI (dN X.stack) ch H H' s.heap h') (bk:dM X.prog X.w H' h') (hg:AllBare g')
  (kD:∀b∈ch,(b∈X.ex∨X.eD.heap.objs.size≤b)∧b≠X.env.locals∧(∀x c,X.env.cells.lookup x=some c→c≠b)∧∀p∈X.mZ ++ pins,p.1≠b) :
  Inv X pins σ H' { s with heap:=h',gens:=g',drawn:=d',toks:=t' }:=by
 obtain ⟨m,⟨o,ae,dB,ho,r⟩,_⟩:=id I.loc
 obtain ⟨cc,fm⟩:=u.any ho I.free fun z=>(kD _ z).2.1 rfl
 exact I.step (ch:=ch) kD (fun b o fm hb hc e n=>u.keep b o e n (fun z=>(List.mem_cons.mp (I.vw b z)).elim fm hb) hc) (fun b o _ _ hc e n=>u.any e n hc) (fun b o hc e n=>u.free b o e n hc) (fun b o hc e=>u.there b o e hc) u.gM u.gp u.gL (fun d9 hm=>by
  obtain ⟨bC,q_,xr,ho',a4⟩:=hm
  rw [ho] at ho'; cases ho'
  exact ⟨_,q_,xr,fm,a4⟩) bk hg
theorem Inv.turned {t':Nat} {it:Addr} (I:Inv X pins σ H s) (k:∀b o,b≠it→s.heap.get? b=some o→h'.get? b=some o) (aN:H it=none) (fm:it≠X.env.locals)
  (h1:it∈X.ex∨X.eD.heap.objs.size≤it) (h2:∀x c,X.env.cells.lookup x=some c→c≠it) (h3:∀p∈X.mZ ++ pins,p.1≠it):Inv X pins σ H { s with heap:=h',toks:=t' }:=by
 have mW:∀b u,H b=some u→b≠it:=fun b u e z=>by rw [z,aN] at e; cases e
 refine I.step (g':=s.gens) (d':=s.drawn) (ch:=[it]) (fun b hb=>?_) (fun b o _ _ hc e _=>k b o (fun z=>hc (by simp [z])) e) (fun b o _ _ hc e _=>⟨o.slots,k b o (fun z=>hc (by simp [z])) e⟩) (fun _ _ _ _ n=>n)
  (fun b o hc e=>⟨o,k b o (fun z=>hc (by simp [z])) e⟩) (fun _ _ e=>e) (fun _ _ _ e=>e) (fun b aB e=>⟨#[],by rw [e]; simp⟩) (fun m hm=>?_) (fun b u e=>?_) I.bare
 · have e:b=it:=by simpa using hb
   subst e
   exact ⟨h1,fm,h2,h3⟩
 · obtain ⟨o,ae,dB,ho,r⟩:=hm
   exact ⟨o,ae,dB,k _ o (Ne.symm fm) ho,r⟩
 · refine (I.bk b u e).ki (fun c v hc q=>k c v ?_ q) (fun _ q=>q) fun _ _ q=>q
   rcases hc with z | z
   · rw [z]; exact mW b u e
   · exact mW c _ z
theorem Inv.tok (I:Inv X pins σ H s) (t:Nat):Inv X pins σ H { s with toks:=t }:=I.un (h':=s.heap) (t':=t) eI.refl I.bk
theorem Inv.kept {t':Nat} (I:Inv X pins σ H s) (k:∀b u,s.heap.get? b=some u→h'.get? b=some u):Inv X pins σ H { s with heap:=h',toks:=t' }:=I.un (eI.kept k) (I.bk.kept k)
theorem Inv.laid {a:Addr} {o:cY} {t':Nat} (I:Inv X pins σ H s) (k:∀b u,s.heap.get? b=some u→h'.get? b=some u) (hp:s.heap.objs.size≤a) (new:en X.prog X.w (upd H a o) h' a o) :
  Inv X pins σ (upd H a o) { s with heap:=h',toks:=t' }:=I.un (eI.laid k hp (I.bk.fresh hp)) (I.bk.laid k hp new)
theorem Inv.write {x e:Addr} {o:cY} {t':Nat} (I:Inv X pins σ H s) (iE:qM (H x)) (he:e=x∨H e=some (.own x)) (k:∀b u,b≠e→s.heap.get? b=some u→h'.get? b=some u) (pz:∃u,h'.get? e=some u)
  (new:en X.prog X.w (upd H x o) h' x o):Inv X pins σ (upd H x o) { s with heap:=h',toks:=t' }:=I.un (eI.write iE he k pz) (I.bk.write iE he k pz new)
theorem Inv.FF {FE:List (Addr×Obj)} (I:Inv X pins σ H s) (h:∀p∈FE,s.heap.get? p.1=some p.2∧H p.1=none∧p.1≠X.env.locals∧p.1∉X.aO∧∀v,p.2.data≠ .cell v):Inv X FE σ H s:=
 ⟨I.ok,I.os,I.bare,I.base,I.loc,I.cell,I.free,I.iA,fun p hp=>(List.mem_append.mp hp).elim (fun z=>I.pin p (List.mem_append_left _ z)) (h p),I.bk,I.len⟩
theorem y6 {N:List Str} (hN:N.Nodup) {i j:Nat} {x:Str} (a:N[i]? =some x) (b:N[j]? =some x):i=j:=by
 obtain ⟨h1,ah⟩:=List.getElem?_eq_some_iff.mp a
 obtain ⟨h2,aw⟩:=List.getElem?_eq_some_iff.mp b
 exact (List.getElem_inj hN).mp (ah.trans aw.symm)
theorem Gq {M:Model} {A:Around} {E:Value→Shared→Prop} {i:Nat} {x:Str} {v:V} {u:Value} {Q:Unit→Shared→Prop} (I:Inv X pins σ H s) (hN:X.N.Nodup) (hi:X.N[i]? =some x) (hx:Loc X.env.scope x) (r:RelV v u)
  (h:∀s',Inv X pins (σ.set i (some v)) H s'→(∃a,Heap.SameBut a s.heap s'.heap∧(a=X.env.locals∨X.env.cells.lookup x=some a))→Q () s') (hf:X.fn x=true∨X.env.scope.names.lookup x=some .local:=by first | exact .inl rfl | exact .inr rfl | assumption):wpAny M A (storeName X.env x u) Q E s:=by
 obtain ⟨m,aN,hl⟩:=id I.loc
 have LB:(X.env.scope.kind == .class || (X.env.scope.kind == .module && X.env.locals != X.env.globals))=false:=by rw [I.ok.kind]; rfl
 have hiσ :i < σ.length:=by rw [I.len]; exact (List.getElem?_eq_some_iff.mp hi).1
 have mA:=I.mA
 have tracked:∀{a:Addr} {h':Heap},(∃o,s.heap.get? a=some o∧H a=none)→Heap.SameBut a s.heap h'→dM X.prog X.w H h':=fun {a h'} ha hs b aU e=>by
  obtain ⟨_,_,ur⟩:=ha
  refine (I.bk b aU e).ki (fun c fF hc q=>(hs.2 c ?_).trans q) (fun _ q=>q) fun _ _ q=>q
  rintro rfl
  rcases hc with rfl | hc
  · rw [ur] at e; cases e
  · rw [ur] at hc; cases hc
 rcases hx with hk | hk
 · refine wpAny_storeName_local hk aN (fun h' rx hs=>?_) LB
   obtain ⟨PU,_,_,L1,_⟩:=id aN
   refine h _ ⟨I.ok,I.os,I.bare,⟨fun b o e n hb hx=>?_,fun b o e n hb hx=>?_,I.base.free,fun b o e hx=>?_,I.base.gM,I.base.gp,I.base.gL⟩,⟨_,rx,fun j y jK ah aw bK=>?_⟩,fun y c e=>?_,I.free,I.iA,fun p hp=>?_,tracked ⟨PU,L1,I.free⟩ hs,by simpa using I.len⟩ ⟨_,hs,.inl rfl⟩
   · exact (hs.2 b (Nat.ne_of_lt (Nat.lt_of_lt_of_le (Heap.lt_size e) I.ok.above))).trans (I.base.keep b o e n hb hx)
   · obtain ⟨cc,ah⟩:=I.base.slot b o e n hb hx
     exact ⟨cc,(hs.2 b (Nat.ne_of_lt (Nat.lt_of_lt_of_le (Heap.lt_size e) I.ok.above))).trans ah⟩
   · obtain ⟨bC,ah⟩:=I.base.there b o e hx
     exact ⟨bC,(hs.2 b (Nat.ne_of_lt (Nat.lt_of_lt_of_le (Heap.lt_size e) I.ok.above))).trans ah⟩
   · by_cases cD:j=i
     · subst cD
       rw [hi] at ah; cases ah
       rw [List.getElem?_set_self hiσ] at aw
       cases aw
       exact ⟨u,r,.inl ⟨hk,by simp⟩⟩
     · rw [List.getElem?_set_ne (Ne.symm cD)] at aw
       obtain ⟨g8,a4,q⟩:=hl j y jK ah aw bK
       refine ⟨g8,a4,?_⟩
       rcases q with ⟨k,e⟩ | ⟨k,c,e,z⟩
       · refine .inl ⟨k,?_⟩
         have:y≠x:=fun e=>cD (y6 hN ah (e ▸ hi))
         simp [this,e]
       · exact .inr ⟨k,c,e,z.sameBut hs (mA y c e)⟩
   · obtain ⟨fF,z⟩:=I.cell y c e
     exact ⟨fF,z.sameBut hs (mA y c e)⟩
   · obtain ⟨e,n,ne,gH,d⟩:=I.pin p hp
     exact ⟨(hs.2 p.1 ne).trans e,n,ne,gH,d⟩
 · have x1:X.fn x=true:=by
    rcases hf with z | z
    · exact z
    · rw [z] at hk; cases hk
   obtain ⟨c,hc⟩:=I.ok.has x (.inl hk)
   obtain ⟨fF,z⟩:=I.cell x c hc
   refine wpAny_storeName_cell I.ok.kind hk hc z (fun h' px hs=>?_)
   obtain ⟨eL,DT,L4⟩:=id z
   refine h { s with heap:=h' } ⟨I.ok,I.os,I.bare,⟨fun b o e n hb hx=>?_,fun b o e n hb hx=>?_,I.base.free,fun b o e hx=>?_,I.base.gM,I.base.gp,I.base.gL⟩,⟨m,aN.sameBut hs (Ne.symm (mA x c hc)),fun j y jK ah aw bK=>?_⟩,fun y fz e=>?_,I.free,I.iA,fun p hp=>?_,tracked ⟨eL,DT,I.iA x c hc⟩ hs,by simpa using I.len⟩ ⟨c,hs,.inr hc⟩
   · exact (hs.2 b (Nat.ne_of_lt (Nat.lt_of_lt_of_le (Heap.lt_size e) (I.ok.ph x c x1 hc)))).trans (I.base.keep b o e n hb hx)
   · obtain ⟨cc,ah⟩:=I.base.slot b o e n hb hx
     exact ⟨cc,(hs.2 b (Nat.ne_of_lt (Nat.lt_of_lt_of_le (Heap.lt_size e) (I.ok.ph x c x1 hc)))).trans ah⟩
   · obtain ⟨bC,ah⟩:=I.base.there b o e hx
     exact ⟨bC,(hs.2 b (Nat.ne_of_lt (Nat.lt_of_lt_of_le (Heap.lt_size e) (I.ok.ph x c x1 hc)))).trans ah⟩
   · by_cases cD:j=i
     · subst cD
       rw [hi] at ah; cases ah
       rw [List.getElem?_set_self hiσ] at aw
       cases aw
       exact ⟨u,r,.inr ⟨.inl hk,c,hc,px⟩⟩
     · rw [List.getElem?_set_ne (Ne.symm cD)] at aw
       obtain ⟨g8,a4,q⟩:=hl j y jK ah aw bK
       refine ⟨g8,a4,?_⟩
       rcases q with q | ⟨k,fz,e,fe⟩
       · exact .inl q
       · refine .inr ⟨k,fz,e,fe.sameBut hs ?_⟩
         rintro rfl
         exact cD (y6 hN ah (I.ok.inj _ _ _ e hc ▸ hi))
   · by_cases DE:fz=c
     · subst DE; exact ⟨_,px⟩
     · obtain ⟨eu,aX⟩:=I.cell y fz e
       exact ⟨eu,aX.sameBut hs DE⟩
   · obtain ⟨e,n,ne,gH,d⟩:=I.pin p hp
     refine ⟨(hs.2 p.1 ?_).trans e,n,ne,gH,d⟩
     intro q
     rw [q,DT] at e
     have cS:eL=p.2:=Option.some.inj e
     exact d fF (by rw [←cS]; exact L4)
theorem vx {M:Model} {A:Around} {E:Value→Shared→Prop} {i:Nat} {x:Str} {v:V} {u:Value} {Q:Unit→Shared→Prop} (I:Inv X pins σ H s) (hN:X.N.Nodup) (hi:X.N[i]? =some x) (hx:Loc X.env.scope x) (r:RelV v u)
  (h:∀s',Inv X pins (σ.set i (some v)) H s'→Q () s') (hf:X.fn x=true∨X.env.scope.names.lookup x=some .local:=by first | exact .inl rfl | exact .inr rfl | assumption):wpAny M A (storeName X.env x u) Q E s:=
 Gq I hN hi hx r (fun s' ko _=>h s' ko) hf
theorem Inv.BX {s':Shared} {ch:List Addr} (I:Inv X pins σ H s) (ho:s'.os=s.os) (u:eI (dN X.stack) ch H H' s.heap s'.heap) (bk:dM X.prog X.w H' s'.heap) (hg:AllBare s'.gens)
  (kD:∀b∈ch,(b∈X.ex∨X.eD.heap.objs.size≤b)∧b≠X.env.locals∧(∀x c,X.env.cells.lookup x=some c→c≠b)∧∀p∈X.mZ ++ pins,p.1≠b):Inv X pins σ H' s':=by
 obtain ⟨h',g',d',t',bC⟩:=s'
 have e:bC=s.os:=ho
 subst e
 exact I.call (g':=g') (t':=t') (d':=d') u bk hg kD
end
noncomputable abbrev cM:=Value→Option Addr→J→Prop
noncomputable abbrev St:=List (Option V)
noncomputable abbrev b9:=V→J→Prop
noncomputable abbrev TE:=St→J→b9→Prop
noncomputable abbrev TT:=St→J→(Bool→J→Prop)→Prop
noncomputable abbrev eH:=St→J→(List V→J→Prop)→Prop
structure Ends where
 a9:St→J→Prop
 dF:b9
 eB:St→J→Prop:=fun _ _=>False
 cj:St→J→Prop:=fun _ _=>False
noncomputable abbrev d5:=Ends→St→J→Prop
noncomputable def ff (X:aG) (pins:List (Addr×Obj)) (σ :St) (Q:b9) (u:Value) (s':Shared):Prop:=∃v H',Inv X pins σ H' s'∧RelV v u∧Q v H'
noncomputable def tF (X:aG) (pins:List (Addr×Obj)) (σ :St) (Q:Bool→J→Prop) (b:Bool) (s':Shared):Prop:=∃H',Inv X pins σ H' s'∧Q b H'
noncomputable def HY (X:aG) (pins:List (Addr×Obj)) (σ :St) (Q:List V→J→Prop) (us:List Value) (s':Shared):Prop:=∃vs H',Inv X pins σ H' s'∧Vals vs us∧Q vs H'
noncomputable def nD (X:aG) (pins:List (Addr×Obj)) (D:Ends) (f:Flow) (s':Shared):Prop:=
 match f with
 | .next=>∃ σ' H',Inv X pins σ' H' s'∧D.a9 σ' H'
 | .brk=>∃ σ' H',Inv X pins σ' H' s'∧D.eB σ' H'
 | .cont=>∃ σ' H',Inv X pins σ' H' s'∧D.cj σ' H'
 | .ret u=>∃v σ' H',Inv X pins σ' H' s'∧RelV v u∧D.dF v H'
noncomputable def aS (X:aG) (e:Expr) (t:TE):Prop:=
 ∀(pins:List (Addr×Obj)) (s:Shared) (σ :St) (H:J) (Q:b9),Inv X pins σ H s→t σ H Q→wpAny (model X.prog X.w) X.A (eval e X.env) (ff X pins σ Q) X.xe s
noncomputable def eG (X:aG) (e:Expr) (t:TT):Prop:=
 ∀(pins:List (Addr×Obj)) (s:Shared) (σ :St) (H:J) (Q:Bool→J→Prop),Inv X pins σ H s→t σ H Q→wpAny (model X.prog X.w) X.A (isTrue e X.env (eval e X.env)) (tF X pins σ Q) X.xe s
noncomputable def g_ (X:aG) (e:Expr) (t:TT):Prop:=
 ∀(whole:Sem Value) (pins:List (Addr×Obj)) (s:Shared) (σ :St) (H:J) (Q:Bool→J→Prop),Inv X pins σ H s→t σ H Q→wpAny (model X.prog X.w) X.A (isTrue e X.env whole) (tF X pins σ Q) X.xe s
theorem g_.pt {X:aG} {e:Expr} {t:TT} (h:g_ X e t):eG X e t:=h _
noncomputable def e8 (X:aG) (ae:List Expr) (t:eH):Prop:=
 ∀(pos:Pos) (pins:List (Addr×Obj)) (s:Shared) (σ :St) (H:J) (Q:List V→J→Prop),Inv X pins σ H s→t σ H Q→wpAny (model X.prog X.w) X.A (spliced (backTo pos (starEach ae X.env))) (HY X pins σ Q) X.xe s
noncomputable def cK (X:aG) (st:Stmt) (t:d5):Prop:=
 ∀(pins:List (Addr×Obj)) (s:Shared) (σ :St) (H:J) (D:Ends),Inv X pins σ H s→t D σ H→wpAny (model X.prog X.w) X.A (exec st X.env) (nD X pins D) X.xe s
noncomputable def e9 (X:aG) (st:List Stmt) (t:d5):Prop:=
 ∀(pins:List (Addr×Obj)) (s:Shared) (σ :St) (H:J) (D:Ends),Inv X pins σ H s→t D σ H→wpAny (model X.prog X.w) X.A (execs st X.env) (nD X pins D) X.xe s
theorem bu {α:Type} {t:Sem α} {Q iL:α→Shared→Prop} {M:Model} {A:Around} {E:Value→Shared→Prop} {s:Shared} (h:wpAny M A t Q E s) (fC:∀a s,Q a s→iL a s):wpAny M A t iL E s:=wpAny_mono h fC fun _ _ x=>x
end aZ
namespace aZ
open PySem PySem.Spec PyProof.Rows
section
variable {X:aG}
theorem bin {a b:Expr} {bW tb:TE} (ha:aS X a bW) (hb:aS X b tb) {pins:List (Addr×Obj)} {s:Shared} {σ :St} {H:J} {R:V→V→J→Prop} (I:Inv X pins σ H s) (h:bW σ H fun x H1=>tb σ H1 fun y aH=>R x y aH)
  {α:Type} {Q:α→Shared→Prop} {f:Value→Value→Sem α}
  (hf:∀v u s2 x y aH,Inv X pins σ aH s2→RelV x v→RelV y u→R x y aH→wpAny (model X.prog X.w) X.A (f v u) Q X.xe s2) :
  wpAny (model X.prog X.w) X.A (eval a X.env) (fun v cO=>wpAny (model X.prog X.w) X.A (eval b X.env) (fun u nc=>wpAny (model X.prog X.w) X.A (f v u) Q X.xe nc) X.xe cO) X.xe s:=by
 refine bu (ha pins s σ H _ I h) fun v s1 ⟨x,H1,aP,ao,aW⟩=>?_
 refine bu (hb pins s1 σ H1 _ aP aW) fun u s2 ⟨y,aH,bZ,a_,bG⟩=>?_
 exact hf v u s2 x y aH bZ ao a_ bG
noncomputable def sN (i:Nat):TE:=fun σ H Q=>∃v,σ[i]? =some (some v)∧Q v H
noncomputable def nd (v:V):TE:=fun _ H Q=>Q v H
theorem jE {i:Nat} {x:Str} {pos:Pos} (hN:X.N[i]? =some x) (hv:fG X.env.scope x) (hd:(x == ("__debug__" :Str))=false:=by decide) (hcd:(x == ("__classdict__" :Str))=false:=by decide):aS X (.Name x pos) (sN i):=by
 intro pins s σ H Q I h
 obtain ⟨v,e,h⟩:=h
 obtain ⟨m,aN,hl⟩:=I.loc
 obtain ⟨u,r,l⟩:=hl i x v hN e hv
 have fin:ff X pins σ Q u s:=⟨v,H,I,r,h⟩
 rcases l with ⟨hk,hm⟩ | ⟨hk,c,hc,DF⟩
 · exact wpAny_Name (wpAny_loadName_local I.ok.kind hk aN hm fin) hd
 · rcases hk with hk | hk
   · exact wpAny_Name (wpAny_loadName_cell I.ok.kind hk hc DF fin) hd
   · exact wpAny_Name (wpAny_loadName_free I.ok.kind hk hc DF fin hcd) hd
theorem QM {i j pos}:aS X (.Constant (.int i) j pos) (nd (.int i)):=fun _ _ _ H _ I h=>wpAny_Constant_int ⟨.int i,H,I.tok _,⟨_,rfl⟩,h⟩
theorem QD {b j pos}:aS X (.Constant (.bool b) j pos) (nd (.au b)):=fun _ _ _ H _ I h=>Constant_bool ⟨.au b,H,I,rfl,h⟩
theorem QQ {j pos}:aS X (.Constant .none j pos) (nd .non):=fun _ _ _ H _ I h=>Constant_none ⟨.non,H,I,rfl,h⟩
theorem FA {x j pos}:aS X (.Constant (.str x) j pos) (nd (.str x)):=fun _ _ _ H _ I h=>Calls.Constant_str ⟨.str x,H,I.tok _,⟨_,rfl⟩,h⟩
noncomputable def cv (X:aG) (x:Str):Prop:=X.env.kindOf x=some .globalImplicit
theorem pJ {E:Value→Shared→Prop} {pins:List (Addr×Obj)} {s:Shared} {σ :St} {H:J} {x:Str} {u:Value} {pos:Pos} {Q:Value→Shared→Prop} (I:Inv X pins σ H s) (hg:cv X x) (hm:X.mg x=some u) (h:Q u s)
  (hd:(x == ("__debug__" :Str))=false:=by decide):wpAny (model X.prog X.w) X.A (eval (.Name x pos) X.env) Q E s:=
 Calls.Name_function_global I.ok.kind hg (Calls.loadGlobal_global (by rw [I.ok.glob]; exact I.mod.glob.keeps I.eB) hm h) hd
theorem pI {E:Value→Shared→Prop} {pins:List (Addr×Obj)} {s:Shared} {σ :St} {H:J} {x:Str} {u:Value} {pos:Pos} {Q:Value→Shared→Prop} (I:Inv X pins σ H s) (hg:cv X x) (hm:X.mg x=none) (hv:bootBuiltins x=some u) (h:Q u s)
  (aN:x≠"__name__":=by decide) (hd:(x == ("__debug__" :Str))=false:=by decide):wpAny (model X.prog X.w) X.A (eval (.Name x pos) X.env) Q E s:=by
 obtain ⟨e4,h1,h2⟩:=I.mod.blt
 exact Calls.Name_function_global I.ok.kind hg (Calls.loadGlobal_builtin (by rw [I.ok.glob]; exact I.mod.glob.keeps I.eB) hm (by rw [I.ok.blt]; exact h1.keeps I.eB) ((h2 x aN).trans hv) h) hd
theorem Fz {x:Str} {v:V} {u:Value} {pos:Pos} (hg:cv X x) (hm:X.mg x=some u) (r:RelV v u) (hd:(x == ("__debug__" :Str))=false:=by decide):aS X (.Name x pos) (nd v):=
 fun _ _ _ H _ I h=>pJ I hg hm ⟨v,H,I,r,h⟩ hd
theorem Fx {x:Str} {v:V} {u:Value} {pos:Pos} (hg:cv X x) (hm:X.mg x=none) (hv:bootBuiltins x=some u) (r:RelV v u) (aN:x≠"__name__":=by decide) (hd:(x == ("__debug__" :Str))=false:=by decide):aS X (.Name x pos) (nd v):=
 fun _ _ _ H _ I h=>pI I hg hm hv ⟨v,H,I,r,h⟩ aN hd
variable {a b:Expr} {bW tb:TE} {pos:Pos}
noncomputable def tC (X:aG) (op:CmpOp) (a b:Expr) (t:TE):Prop:=
 ∀(pins:List (Addr×Obj)) (s:Shared) (σ :St) (H:J) (Q:b9),Inv X pins σ H s→t σ H Q→
  wpAny (model X.prog X.w) X.A (eval a X.env) (fun v cO=>wpAny (model X.prog X.w) X.A (eval b X.env) (fun u nc=>wpAny (model X.prog X.w) X.A (compareOp op v u) (ff X pins σ Q) X.xe nc) X.xe cO) X.xe s
theorem E9 (b:Expr) {op:CmpOp} (h:op≠ .In) (h2:op≠ .NotIn):behindInMarks op b=false:=by
 have ah:(op == CmpOp.In)=false:=by cases op <;> first | rfl | exact absurd rfl h
 have aw:(op == CmpOp.NotIn)=false:=by cases op <;> first | rfl | exact absurd rfl h2
 cases b <;> simp [behindInMarks,ah,aw]
noncomputable def As (t:TE):TT:=fun σ H Q=>t σ H fun x H1=>∃c,x= .au c∧Q c H1
theorem Fy {op:CmpOp} {t:TE} (h:tC X op a b t) (h1:behindInMarks op b=false:=by first | exact E9 _ (by decide) (by decide) | rfl):aS X (.Compare a [op] [b] pos) t:=fun pins s σ H Q I hw=>wpAny_Compare1 (h pins s σ H Q I hw) h1
theorem Rl {op:CmpOp} {t:TE} (h:tC X op a b t) (h1:behindInMarks op b=false:=by first | exact E9 _ (by decide) (by decide) | rfl):eG X (.Compare a [op] [b] pos) (As t):=by
 intro pins s σ H Q I hw
 refine wpAny_isTrue_Compare1 (bu (h pins s σ H _ I hw) fun v s1 h1=>bu h1 fun u s2 h2=>bu h2 fun c s3 ⟨x,H1,aP,ao,aW⟩=>?_) h1
 obtain ⟨d,rfl,q⟩:=aW
 cases ao
 exact wpAny_truthy_bool ⟨H1,aP,q⟩
theorem Ro {e:Expr} {t:TE} (h:aS X e t) (he:∀whole,isTrue e X.env whole=(do let v ←whole; standAt e.pos; holding [v] (truthy v)):=by intro _; rfl):eG X e (As t):=by
 intro pins s σ H Q I hw
 refine isTrue_plain (bu (h pins s σ H _ I hw) fun v s1 ⟨x,H1,aP,ao,aW⟩=>?_) (he _)
 obtain ⟨d,rfl,q⟩:=aW
 cases ao
 exact wpAny_truthy_bool ⟨H1,aP,q⟩
variable {ee vz:TT} {rest:List Expr}
noncomputable def Gv (t u:TT):TT:=fun σ H Q=>t σ H fun c H1=>if c=true then u σ H1 Q else Q false H1
noncomputable def GJ (t u:TT):TT:=fun σ H Q=>t σ H fun c H1=>if c=true then Q true H1 else u σ H1 Q
noncomputable def GH (t:TT):TT:=fun σ H Q=>t σ H fun c H1=>Q (!c) H1
theorem Ru (ha:eG X a ee):g_ X (.BoolOp .And [a] pos) ee:=by
 intro oB pins s σ H Q I h
 refine isTrue_and (bu (ha pins s σ H Q I h) fun c s1 e=>?_)
 cases c with
 | true=>exact isTrue_and_nil e
 | false=>exact e
theorem Rw (ha:eG X a ee):g_ X (.BoolOp .Or [a] pos) ee:=by
 intro oB pins s σ H Q I h
 refine isTrue_or (bu (ha pins s σ H Q I h) fun c s1 e=>?_)
 cases c with
 | false=>exact isTrue_or_nil e
 | true=>exact e
theorem Rt (ha:eG X a ee) (hb:g_ X (.BoolOp .And (b::rest) pos) vz):g_ X (.BoolOp .And (a::b::rest) pos) (Gv ee vz):=by
 intro oB pins s σ H Q I h
 refine isTrue_and (bu (ha pins s σ H _ I h) fun c s1 ⟨H1,aP,aW⟩=>?_)
 cases c with
 | true=>exact hb oB pins s1 σ H1 Q aP aW
 | false=>exact ⟨H1,aP,aW⟩
theorem Rv (ha:eG X a ee) (hb:g_ X (.BoolOp .Or (b::rest) pos) vz):g_ X (.BoolOp .Or (a::b::rest) pos) (GJ ee vz):=by
 intro oB pins s σ H Q I h
 refine isTrue_or (bu (ha pins s σ H _ I h) fun c s1 ⟨H1,aP,aW⟩=>?_)
 cases c with
 | true=>exact ⟨H1,aP,aW⟩
 | false=>exact hb oB pins s1 σ H1 Q aP aW
theorem Rn (ha:eG X a ee):eG X (.UnaryOp .Not a pos) (GH ee):=by
 intro pins s σ H Q I h
 exact isTrue_not (ha pins s σ H (fun c H1=>Q (!c) H1) I h)
noncomputable def Gw (bW tb:TE):TE:=fun σ H Q=>bW σ H fun x H1=>∃c,x= .au c∧if c=true then tb σ H1 Q else Q (.au false) H1
noncomputable def GK (bW tb:TE):TE:=fun σ H Q=>bW σ H fun x H1=>∃c,x= .au c∧if c=true then Q (.au true) H1 else tb σ H1 Q
noncomputable def GI (bW:TE):TE:=fun σ H Q=>bW σ H fun x H1=>∃c,x= .au c∧Q (.au (!c)) H1
theorem QS {op} {t:TE} (h:aS X a t):aS X (.BoolOp op [a] pos) t:=fun pins s σ H Q I hw=>BoolOp_one (h pins s σ H Q I hw)
theorem QC (ha:aS X a bW) (hb:aS X (.BoolOp .And (b::rest) pos) tb):aS X (.BoolOp .And (a::b::rest) pos) (Gw bW tb):=by
 intro pins s σ H Q I h
 refine BoolOp_and (bu (ha pins s σ H _ I h) fun v s1 ⟨x,H1,aP,ao,aW⟩=>?_)
 obtain ⟨c,rfl,aW⟩:=aW
 cases ao
 refine wpAny_truthy_bool ?_
 cases c with
 | true=>exact hb pins s1 σ H1 Q aP aW
 | false=>exact ⟨.au false,H1,aP,rfl,aW⟩
theorem QU (ha:aS X a bW) (hb:aS X (.BoolOp .Or (b::rest) pos) tb):aS X (.BoolOp .Or (a::b::rest) pos) (GK bW tb):=by
 intro pins s σ H Q I h
 refine BoolOp_or (bu (ha pins s σ H _ I h) fun v s1 ⟨x,H1,aP,ao,aW⟩=>?_)
 obtain ⟨c,rfl,aW⟩:=aW
 cases ao
 refine wpAny_truthy_bool ?_
 cases c with
 | false=>exact hb pins s1 σ H1 Q aP aW
 | true=>exact ⟨.au true,H1,aP,rfl,aW⟩
theorem QR (ha:aS X a bW):aS X (.UnaryOp .Not a pos) (GI bW):=by
 intro pins s σ H Q I h
 refine UnaryOp_ (bu (ha pins s σ H _ I h) fun v s1 ⟨x,H1,aP,ao,aW⟩=>?_)
 obtain ⟨c,rfl,aW⟩:=aW
 cases ao
 exact not_of (wpAny_truthy_bool ⟨.au (!c),H1,aP,rfl,aW⟩)
noncomputable def GB (t:TT) (bW tb:TE):TE:=fun σ H Q=>t σ H fun c H1=>if c=true then bW σ H1 Q else tb σ H1 Q
theorem QL {c:Expr} (hc:eG X c ee) (ha:aS X a bW) (hb:aS X b tb):aS X (.IfExp c a b pos) (GB ee bW tb):=by
 intro pins s σ H Q I h
 refine wpAny_IfExp (bu (hc pins s σ H _ I h) fun d s1 ⟨H1,aP,aW⟩=>?_)
 cases d with
 | true=>exact ha pins s1 σ H1 Q aP aW
 | false=>exact hb pins s1 σ H1 Q aP aW
end
end aZ
namespace aZ
open PySem PySem.Spec PyProof.Rows
noncomputable def bI (K:PySem.W.Frag) (H:J) (a:Addr) (xs:List V):Prop:=
 fh H a (.lst xs)∨
  ∃(o:Obj) (its:Array Value) (n:Nat),K.lookup a=some o∧o.cls= .type "list"∧o.dict=none∧o.data= .seq its n∧its.size≤sizeLine∧Vals xs its.toList
noncomputable def cu (K:PySem.W.Frag) (H:J) (a:Addr) (xs:List V):Prop:=
 fh H a (.tup xs)∨
  ∃(o:Obj) (its:Array Value) (n:Nat),K.lookup a=some o∧o.cls= .type "tuple"∧o.data= .seq its n∧its.size≤sizeLine∧Vals xs its.toList
noncomputable def Ir:Value→Option V
 | .none=>some .non
 | .bool b=>some (.au b)
 | .int i _=>some (.int i)
 | .str x _=>some (.str x)
 | .bytes b _=>some (.ky b)
 | .float b _=>some (.ua b)
 | .ref a=>some (.ref a)
 | .type n=>some (.ty n)
 | _=>none
theorem RelV.abs {x:V} {u:Value} (r:RelV x u):Ir u=some x:=by
 cases x with
 | non=>cases r; rfl
 | au _=>cases r; rfl
 | int _=>obtain ⟨t,rfl⟩:=r; rfl
 | str _=>obtain ⟨t,rfl⟩:=r; rfl
 | ky _=>obtain ⟨t,rfl⟩:=r; rfl
 | ua _=>obtain ⟨t,rfl⟩:=r; rfl
 | ref _=>cases r; rfl
 | ty _=>cases r; rfl
theorem RelV.inj {x y:V} {u:Value} (r:RelV x u) (q:RelV y u):x=y:=Option.some.inj (r.abs.symm.trans q.abs)
theorem Vals.inj:∀{xs ys:List V} {us:List Value},Vals xs us→Vals ys us→xs=ys
 | _,_,_,.nil,.nil=>rfl
 | _,_,_,.cons r t,.cons a4 t'=>by rw [r.inj a4,Vals.inj t t']
section
variable {X:aG} {pins:List (Addr×Obj)} {σ :St} {H:J} {s:Shared} {a:Addr} {xs ys:List V}
theorem bI.of {K:PySem.W.Frag} (h:H a=some (.lst xs)):bI K H a xs:= .inl (.inl h)
theorem cu.of {K:PySem.W.Frag} (h:H a=some (.tup xs)):cu K H a xs:= .inl (.inl h)
theorem Inv.list (I:Inv X pins σ H s) (h:bI X.K H a xs):∃its:List Value,Vals xs its∧PlainL s.heap a its.toArray∧xs.length≤sizeLine:=by
 rcases h with h | ⟨o,its,n,hk,hc,hd,hs,a5,r⟩
 · obtain ⟨z,its,n,r,e⟩:=h.ok I.bk
   exact ⟨its,r,⟨_,n,e,rfl,rfl,rfl⟩,z⟩
 · refine ⟨its.toList,r,⟨o,n,I.eP a o hk,hc,hd,by simpa using hs⟩,?_⟩
   have e:=r.length
   simp only [Array.length_toList] at e
   omega
theorem Inv.tuple (I:Inv X pins σ H s) (h:cu X.K H a xs):∃its:List Value,Vals xs its∧IsTup s.heap a its.toArray∧xs.length≤sizeLine:=by
 rcases h with h | ⟨o,its,n,hk,hc,hs,a5,r⟩
 · obtain ⟨z,its,r,p⟩:=h.ok I.bk
   exact ⟨its,r,p,z⟩
 · refine ⟨its.toList,r,⟨o,I.eP a o hk,hc,n,by simpa using hs⟩,?_⟩
   have e:=r.length
   simp only [Array.length_toList] at e
   omega
theorem Inv.yL (I:Inv X pins σ H s) (h:bI X.K H a xs) (h':bI X.K H a ys):xs=ys:=by
 obtain ⟨its,r,⟨o,n,e,_,_,d⟩,_⟩:=I.list h
 obtain ⟨its',a4,⟨bC,oj,bY,_,_,d'⟩,_⟩:=I.list h'
 rw [e] at bY; cases bY
 rw [d] at d'
 injection d' with d1 _
 have:its=its':=by simpa using congrArg Array.toList d1
 subst this
 exact r.inj a4
theorem Inv.AI (I:Inv X pins σ H s) (h:cu X.K H a xs) (h':cu X.K H a ys):xs=ys:=by
 obtain ⟨its,r,⟨o,e,_,n,d⟩,_⟩:=I.tuple h
 obtain ⟨its',a4,⟨bC,bY,_,oj,d'⟩,_⟩:=I.tuple h'
 rw [e] at bY; cases bY
 rw [d] at d'
 injection d' with d1 _
 have:its=its':=by simpa using congrArg Array.toList d1
 subst this
 exact r.inj a4
end
noncomputable abbrev aG.iG (X:aG) (E:Value→Shared→Prop):aG:={ X with xe:=E }
noncomputable abbrev aG.f9 (X:aG):aG:=X.iG fun _ _=>False
theorem aG.Ok.iG {X:aG} (ok:X.Ok) (E:Value→Shared→Prop):(X.iG E).Ok:=
 ⟨ok.mod,ok.kind,ok.glob,ok.blt,ok.above,ok.inj,ok.has,ok.ph,ok.hd,ok.frames,ok.sG,ok.xw,ok.bs,ok.lj,ok.mX,ok.rf,ok.hX,ok.mD⟩
theorem aG.Ok.hI {X:aG} {E:Value→Shared→Prop} (ok:(X.iG E).Ok):X.Ok:=
 ⟨ok.mod,ok.kind,ok.glob,ok.blt,ok.above,ok.inj,ok.has,ok.ph,ok.hd,ok.frames,ok.sG,ok.xw,ok.bs,ok.lj,ok.mX,ok.rf,ok.hX,ok.mD⟩
section
variable {X:aG} {pins:List (Addr×Obj)} {σ :St} {H:J} {s:Shared} {E:Value→Shared→Prop}
theorem Inv.iG (I:Inv X pins σ H s) (E:Value→Shared→Prop):Inv (X.iG E) pins σ H s:=⟨I.ok.iG E,I.os,I.bare,I.base,I.loc,I.cell,I.free,I.iA,I.pin,I.bk,I.len⟩
theorem Inv.hI (I:Inv (X.iG E) pins σ H s):Inv X pins σ H s:=⟨I.ok.hI,I.os,I.bare,I.base,I.loc,I.cell,I.free,I.iA,I.pin,I.bk,I.len⟩
theorem nD.hI {D:Ends} {f:Flow} {s':Shared} (h:nD (X.iG E) pins D f s'):nD X pins D f s':=by
 cases f with
 | next=>obtain ⟨σ',H',I,q⟩:=h; exact ⟨σ',H',I.hI,q⟩
 | brk=>obtain ⟨σ',H',I,q⟩:=h; exact ⟨σ',H',I.hI,q⟩
 | cont=>obtain ⟨σ',H',I,q⟩:=h; exact ⟨σ',H',I.hI,q⟩
 | ret u=>obtain ⟨v,σ',H',I,r,q⟩:=h; exact ⟨v,σ',H',I.hI,r,q⟩
theorem e9.f9 {st:List Stmt} {t:d5} (h:e9 X.f9 st t):e9 X st t:=fun pins s σ H D I hw=>
 wpAny_mono (h pins s σ H D (I.iG _) hw) (fun _ _ q=>q.hI) fun _ _ z=>False.elim z
end
section
variable {X:aG} {st:Stmt} {rest:List Stmt} {t u:d5} {e:Expr} {te:TE} {pos:Pos}
noncomputable def Ay:d5:=fun D σ H=>D.a9 σ H
noncomputable def AA (t u:d5):d5:=fun D σ H=>t { D with a9:=u D } σ H
theorem FL:e9 X [] Ay:=fun _ _ σ H _ I h=>wpAny_execs_nil ⟨σ,H,I,h⟩
theorem FK (h1:cK X st t) (h2:e9 X rest u):e9 X (st::rest) (AA t u):=by
 intro pins s σ H D I h
 refine wpAny_execs_cons (bu (h1 pins s σ H { D with a9:=u D } I h) fun f s1 q=>?_)
 cases f with
 | next=>
   obtain ⟨σ',H',ko,q⟩:=q
   exact h2 pins s1 σ' H' D ko q
 | ret v=>exact q
 | brk=>exact q
 | cont=>exact q
theorem zi (h1:cK X st t):e9 X [st] t:=by
 intro pins s σ H D I h
 refine wpAny_execs_cons (bu (h1 pins s σ H D I h) fun f s1 q=>?_)
 cases f with
 | next=>exact wpAny_execs_nil q
 | ret v=>exact q
 | brk=>exact q
 | cont=>exact q
theorem Inv.quiet {pins:List (Addr×Obj)} {σ :St} {H:J} {s:Shared} (I:Inv X pins σ H s):interactive X.env=false:=by simp [interactive,I.ok.kind]
noncomputable def Av (te:TE):d5:=fun D σ H=>te σ H fun _ H1=>D.a9 σ H1
theorem sl (he:aS X e te) (hs:swapsWith e none pos.line X.env=pure false:=by rfl):cK X (.Expr e pos) (Av te):=by
 intro pins s σ H D I h
 exact wpAny_Expr_any (bu (he pins s σ H _ I h) fun v s1 ⟨x,H1,aP,ao,aW⟩=>⟨σ,H1,aP,aW⟩) I.quiet hs
noncomputable def sM (te:TE):d5:=fun D σ H=>te σ H D.dF
theorem sm (he:aS X e te):cK X (.Return (some e) pos) (sM te):=by
 intro pins s σ H D I h
 exact wpAny_Return_some (bu (he pins s σ H _ I h) fun v s1 ⟨x,H1,aP,ao,aW⟩=>⟨x,σ,H1,aP,ao,aW⟩)
noncomputable def Ax (c:TT) (t u:d5):d5:=fun D σ H=>c σ H fun b H1=>if b=true then t D σ H1 else u D σ H1
theorem FI {c:Expr} {a b:List Stmt} {fp:TT} (hc:eG X c fp) (ha:e9 X a t) (hb:e9 X b u):cK X (.If c a b pos) (Ax fp t u):=by
 intro pins s σ H D I h
 refine wpAny_If (bu (hc pins s σ H _ I h) fun d s1 ⟨H1,aP,aW⟩=>?_)
 cases d with
 | true=>exact ha pins s1 σ H1 D aP aW
 | false=>exact hb pins s1 σ H1 D aP aW
noncomputable def GG:d5:=fun _ _ _=>False
theorem FJ:cK X st GG:=fun _ _ _ _ _ _ h=>h.elim
end
noncomputable abbrev gE:=V→St→J→(St→J→Prop)→Prop
noncomputable abbrev ku:=List V→St→J→(St→J→Prop)→Prop
noncomputable def hP (X:aG) (target:Expr) (t:gE):Prop:=
 ∀(pins:List (Addr×Obj)) (s:Shared) (σ :St) (H:J) (v:V) (u:Value) (Q:St→J→Prop),Inv X pins σ H s→RelV v u→t v σ H Q→
  wpAny (model X.prog X.w) X.A (assign target X.env u) (fun _ s'=>∃ σ' H',Inv X pins σ' H' s'∧Q σ' H') X.xe s
noncomputable def qN (X:aG) (ts:List Expr) (t:ku):Prop:=
 ∀(pins:List (Addr×Obj)) (s:Shared) (σ :St) (H:J) (vs:List V) (us:List Value) (Q:St→J→Prop),Inv X pins σ H s→Vals vs us→t vs σ H Q→
  wpAny (model X.prog X.w) X.A (assignInOrder ((assignEach ts X.env).map (·.2)) us) (fun _ s'=>∃ σ' H',Inv X pins σ' H' s'∧Q σ' H') X.xe s
noncomputable abbrev wu:=V→V→V→J→(J→Prop)→Prop
noncomputable def Bm (X:aG) (t:wu):Prop:=
 ∀(pins:List (Addr×Obj)) (s:Shared) (σ :St) (H:J) (o i v:V) (dU gY u:Value) (Q:J→Prop),Inv X pins σ H s→RelV o dU→RelV i gY→RelV v u→t o i v H Q→
  wpAny (model X.prog X.w) X.A (setItem dU gY u) (fun _ s'=>∃H',Inv X pins σ H' s'∧Q H') X.xe s
section
variable {X:aG} {pos:Pos}
noncomputable def hY (i:Nat):gE:=fun v σ H Q=>Q (σ.set i (some v)) H
theorem vf {i:Nat} {x:Str} (hN:X.N.Nodup) (hi:X.N[i]? =some x) (hx:Loc X.env.scope x) (hf:X.fn x=true∨X.env.scope.names.lookup x=some .local:=by first | exact .inl rfl | exact .inr rfl | assumption):hP X (.Name x pos) (hY i):=by
 intro pins s σ H v u Q I r h
 exact wpAny_assign_Name (vx I hN hi hx r (fun s' ko=>⟨_,H,ko,h⟩) hf)
noncomputable def ud:ku:=fun vs σ H Q=>vs=[]∧Q σ H
noncomputable def rk (t:gE) (u:ku):ku:=fun vs σ H Q=>∃v r,vs=v::r∧t v σ H fun σ' H'=>u r σ' H' Q
theorem FD:qN X [] ud:=by
 intro pins s σ H vs us Q I r h
 obtain ⟨e,h⟩:=h
 subst e
 cases r
 exact assignInOrder_nil ⟨σ,H,I,h⟩
theorem zf {e:Expr} {ae:List Expr} {t:gE} {u:ku} (h1:hP X e t) (h2:qN X ae u)
  (hs:(assignEach (e::ae) X.env).map (·.2)=assign e X.env::(assignEach ae X.env).map (·.2):=by rfl):qN X (e::ae) (rk t u):=by
 intro pins s σ H vs us Q I r h
 obtain ⟨v,vL,ah,h⟩:=h
 subst ah
 cases r with
 | cons r zv=>
   rw [hs]
   refine assignInOrder_cons (bu (h1 pins s σ H _ _ _ I r h) fun _ s1 ⟨σ1,H1,aP,aW⟩=>?_)
   exact h2 pins s1 σ1 H1 _ _ Q aP zv aW
noncomputable def ue (K:PySem.W.Frag) (n:Nat) (t:ku):gE:=fun v σ H Q=>∃a xs,v= .ref a∧cu K H a xs∧xs.length=n∧t xs σ H Q
theorem FC {ae:List Expr} {k:Nat} {t:ku} {n:Nat} (hc:X.calm=true) (h:qN X ae t)
  (aN:(assignEach ae X.env).length=n:=by rfl) (hst:(assignEach ae X.env).findIdx? (·.1)=none:=by rfl):hP X (.Tuple ae k pos) (ue X.K n t):=by
 intro pins s σ H v u Q I r hw
 obtain ⟨a,xs,ah,aD,hl,hw⟩:=hw
 subst ah
 cases r
 obtain ⟨its,bN,ht,a5⟩:=I.tuple aD
 refine assign_Tuple_tuple (I.ok.hd hc) ht (by simp [aN,←hl,bN.length]) hst fun h' hx=>?_
 have aP:Inv X pins σ H { s with heap:=h' }:=I.kept (t':=s.toks) fun b o e=>hx b o (Nat.ne_of_lt (Heap.lt_size e)) e
 exact h pins _ σ H xs _ Q aP (by simpa using bN) hw
noncomputable def Ll (to vD:TE) (t:wu):gE:=fun v σ H Q=>to σ H fun o H1=>vD σ H1 fun i aH=>t o i v aH fun cw=>Q σ cw
theorem Q0 {o i:Expr} {to vD:TE} {t:wu} (ho:aS X o to) (hi:aS X i vD) (hs:Bm X t)
  (ha:∀v,assign (.Subscript o i pos) X.env v=(do
    let dU ←holding [v] (eval o X.env)
    let gY ←holding [v,dU] (eval i X.env)
    standAt pos
    holding [v,dU,gY] (setItem dU gY v)
    release [v,dU,gY] []):=by intro _; rfl):hP X (.Subscript o i pos) (Ll to vD t):=by
 intro pins s σ H v u Q I r h
 rw [ha]
 refine wpAny_bind (wpAny_holding (bu (ho pins s σ H _ I h) fun dU s1 ⟨x,H1,aP,ao,aW⟩=>?_))
 refine wpAny_bind (wpAny_holding (bu (hi pins s1 σ H1 _ aP aW) fun gY s2 ⟨y,aH,bZ,a_,bG⟩=>?_))
 refine wpAny_bind (wpAny_standAt (wpAny_bind (wpAny_holding (bu (hs pins s2 σ aH x y v dU gY u _ bZ ao a_ r bG) fun _ s3 ⟨cw,dC,er⟩=>?_))))
 exact wpAny_release ⟨σ,cw,dC,er⟩
noncomputable def kP (te:TE) (g:gE):d5:=fun D σ H=>te σ H fun x H1=>g x σ H1 D.a9
theorem Rb {bl e:Expr} {te:TE} {g:gE} (he:aS X e te) (hg:hP X bl g) (hs:swapsWithSole [bl] e pos.line X.env=pure false:=by rfl) (hw:swappedStores [bl] e X.env=pure none:=by rfl)
  (h1:(assignEach [bl] X.env).map (·.2)=[assign bl X.env]:=by rfl):cK X (.Assign [bl] e pos) (kP te g):=by
 intro pins s σ H D I h
 refine wpAny_Assign_stores (bu (he pins s σ H _ I h) fun v s1 ⟨x,H1,aP,ao,aW⟩=>?_) hs hw
 rw [h1]
 exact bu (hg pins s1 σ H1 x v _ aP ao aW) fun _ s2 q=>q
theorem vg {i:Nat} {x:Str} {e:Expr} {te:TE} {pos':Pos} (hN:X.N.Nodup) (hi:X.N[i]? =some x) (hx:Loc X.env.scope x) (he:aS X e te) (hs:swapsWith e (some (.Name x pos')) pos.line X.env=pure false:=by rfl) (hf:X.fn x=true∨X.env.scope.names.lookup x=some .local:=by first | exact .inl rfl | exact .inr rfl | assumption) :
  cK X (.Assign [.Name x pos'] e pos) (kP te (hY i)):=by
 intro pins s σ H D I h
 refine wpAny_Assign_Name (bu (he pins s σ H _ I h) fun v s1 ⟨y,H1,aP,ao,aW⟩=>?_) hs
 exact vx aP hN hi hx ao (fun s2 bZ=>⟨_,H1,bZ,aW⟩) hf
end
section
variable {X:aG} {pos:Pos}
noncomputable def GQ (c:TT) (tb:d5):d5:=fun D σ H=>∃W:Nat→St→J→Prop,(∃m,W m σ H)∧∀m σ H,W m σ H→
 c σ H fun b H1=>if b=true then ∃N:St→J→Prop,(∀ σ' H',N σ' H'→∃d9,d9 < m∧W d9 σ' H')∧tb { D with a9:=N,cj:=N,eB:=D.a9 } σ H1 else D.a9 σ H1
theorem Ri {c:Expr} {body:List Stmt} {fp:TT} {tb:d5} (hp:PassesOwn (model X.prog X.w) X.A X.env X.xe) (hc:eG X c fp) (hb:e9 X body tb):cK X (.While c body [] pos) (GQ fp tb):=by
 intro pins s σ H D I h
 obtain ⟨W,⟨m0,lY⟩,turn⟩:=h
 refine wpAny_While (codeAny_whileLoop (fun n s'=>∃ σ' H',Inv X pins σ' H' s'∧W n σ' H') ?_ m0 ⟨σ,H,I,lY⟩)
 rintro n s1 ⟨σ1,H1,aP,eV⟩
 refine wpAny_passesOwn hp (bu (hc pins s1 σ1 H1 _ aP (turn n σ1 H1 eV)) fun b s2 ⟨aH,bZ,bG⟩=>?_)
 cases b with
 | true=>
   obtain ⟨N,hN,bG⟩:=bG
   rw [if_pos rfl]
   refine wpAny_passesOwn hp (bu (hb pins s2 σ1 aH _ bZ bG) fun f s3 er=>?_)
   cases f with
   | next=>
     obtain ⟨σ3,cw,dC,lK⟩:=er
     obtain ⟨d9,hm,gx⟩:=hN σ3 cw lK
     exact ⟨d9,hm,σ3,cw,dC,gx⟩
   | cont=>
     obtain ⟨σ3,cw,dC,lK⟩:=er
     obtain ⟨d9,hm,gx⟩:=hN σ3 cw lK
     exact ⟨d9,hm,σ3,cw,dC,gx⟩
   | brk=>exact er
   | ret v=>exact er
 | false=>
   rw [if_neg Bool.false_ne_true]
   exact wpAny_execs_nil ⟨σ1,aH,bZ,bG⟩
end
structure It where
 go:Nat→J→Prop
 iH:Nat→J→V→J→Prop
 stop:Nat→J→Prop
noncomputable def iu (X:aG) (pins:List (Addr×Obj)) (H:J) (b:Addr):Prop:=
 H b=none∧b≠X.env.locals∧b∉X.aO∧(b∈X.ex∨X.eD.heap.objs.size≤b)∧(∀x c,X.env.cells.lookup x=some c→c≠b)∧∀p∈X.mZ ++ pins,p.1≠b
theorem Inv.mC {X:aG} {pins:List (Addr×Obj)} {σ :St} {H H':J} {s:Shared} {b:Addr} (I:Inv X pins σ H s) (hb:s.heap.objs.size≤b) (aN:H' b=none):iu X pins H' b:=by
 refine ⟨aN,Nat.ne_of_gt (Nat.lt_of_lt_of_le I.lt hb),I.PL hb,.inr (Nat.le_trans I.jI hb),fun x c e z=>?_,fun p hp z=>?_⟩
 · obtain ⟨v,q⟩:=I.cell x c e
   exact absurd (Nat.lt_of_lt_of_le q.lt (by rw [z]; exact hb)) (Nat.lt_irrefl _)
 · exact absurd (Nat.lt_of_lt_of_le (Heap.lt_size (I.pin p hp).1) (by rw [z]; exact hb)) (Nat.lt_irrefl _)
structure Turn (P:Program) (w:World) (K:PySem.W.Frag) (bl:Expr) (bp:It) (aL:List Addr) (it:Addr) (fq:Nat→Heap→Prop):Prop where
 mem:it∈aL
 obj:∀i h,fq i h→∀b∈aL,∃o,h.get? b=some o∧∀v,o.data≠ .cell v
 keep:∀i h h',fq i h→(∀b∈aL,∀o,h.get? b=some o→h'.get? b=some o)→fq i h'
 item:∀(X:aG),X.prog=P→X.w=w→X.K=K→X.calm=true→∀(i:Nat) (pins:List (Addr×Obj)) (s:Shared) (σ :St) (H:J) (E:Value→Shared→Prop),Inv X pins σ H s→(∀b∈aL,iu X pins H b)→fq i s.heap→bp.go i H→
  wpAny (model P w) X.A (pyNext (.ref it)) (fun r s1=>∃u,r=some u∧
   wpAny (model P w) X.A (letOwnedTupleGo bl (.ref it) u) (fun _ s2=>∃x H',Inv X pins σ H' s2∧RelV x u∧bp.iH i H x H'∧fq (i + 1) s2.heap∧∀b∈aL,H' b=none) E s1) E s
 done:∀(X:aG),X.prog=P→X.w=w→X.K=K→X.calm=true→∀(i:Nat) (pins:List (Addr×Obj)) (s:Shared) (σ :St) (H:J) (E:Value→Shared→Prop),Inv X pins σ H s→(∀b∈aL,iu X pins H b)→fq i s.heap→bp.stop i H→
  wpAny (model P w) X.A (pyNext (.ref it)) (fun r s1=>r=none∧Inv X pins σ H s1) E s
 self:∀(A:Around) (i:Nat) (s:Shared) (Q:Value→Shared→Prop) (E:Value→Shared→Prop),fq i s.heap→Q (.ref it) s→wpAny (model P w) A (pyIter (.ref it)) Q E s
noncomputable abbrev TI:=St→J→(It→J→Prop)→Prop
noncomputable def Bl (X:aG) (pins:List (Addr×Obj)) (σ :St) (bl:Expr) (R:It→J→Prop) (uF:Value) (s2:Shared):Prop:=
 ∃(it:Addr) (aL:List Addr) (fq:Nat→Heap→Prop) (bp:It) (H':J),uF= .ref it∧Inv X pins σ H' s2∧Turn X.prog X.w X.K bl bp aL it fq∧fq 0 s2.heap∧(∀b∈aL,iu X pins H' b)∧R bp H'
noncomputable def fZ (X:aG) (bl iter:Expr) (hJ:TI):Prop:=
 ∀(pins:List (Addr×Obj)) (s:Shared) (σ :St) (H:J) (R:It→J→Prop),Inv X pins σ H s→hJ σ H R→
  wpAny (model X.prog X.w) X.A (eval iter X.env) (fun v s1=>wpAny (model X.prog X.w) X.A (pyIter v) (Bl X pins σ bl R) X.xe s1) X.xe s
theorem ui {M:Model} {A:Around} {E:Value→Shared→Prop} {s:Shared} {bl:Expr} {it:Addr} {u:Value} {o:Obj} {n:String} {vs:Array Value} {Q:Unit→Shared→Prop} (ho:s.heap.get? it=some o) (hc:o.cls= .type n) (hd:o.data= .fields vs)
  (aN:["enumerate","zip","dict_itemiterator","dict_reverseitemiterator","odict_iterator","itertools.zip_longest","itertools.pairwise"].contains n=false) (fC:Q () s):wpAny M A (letOwnedTupleGo bl (.ref it) u) Q E s:=by
 unfold letOwnedTupleGo
 cases bl <;> first
  | exact wpAny_pure fC
  | (cases u <;> first
      | exact wpAny_pure fC
      | (refine wpAny_bind (wpAny_load ho ?_)
         rw [hc,hd]
         show wpAny M A (if (["enumerate","zip","dict_itemiterator","dict_reverseitemiterator","odict_iterator","itertools.zip_longest","itertools.pairwise"].contains n && vs[0]? == some (rawInt _))=true then _ else _) Q E s
         rw [if_neg (by intro h; rw [aN,Bool.false_and] at h; cases h)]
         exact wpAny_pure fC))
noncomputable def wh (K:PySem.W.Frag) (a:Addr):It:=
 ⟨fun i H=>∃xs x,bI K H a xs∧xs[i]? =some x,fun i H x H'=>H'=H∧∀xs,bI K H a xs→xs[i]? =some x,fun i H=>∃xs,bI K H a xs∧xs.length≤i⟩
noncomputable def wj (K:PySem.W.Frag) (a:Addr):It:=
 ⟨fun i H=>∃xs x,cu K H a xs∧xs[i]? =some x,fun i H x H'=>H'=H∧∀xs,cu K H a xs→xs[i]? =some x,fun i H=>∃xs,cu K H a xs∧xs.length≤i⟩
noncomputable def tv (lo:Int) (n:Nat):It:=⟨fun i _=>i < n,fun i H x H'=>H'=H∧x= .int (lo + i),fun i _=>n≤i⟩
theorem Um {P:Program} {w:World} {K:PySem.W.Frag} {bl:Expr} (a it:Addr):Turn P w K bl (wh K a) [it] it (fun i h=>h.IsListIter it a i) where
 mem:=by simp
 obj:=fun i h st b hb=>by
  have e:b=it:=by simpa using hb
  subst e
  obtain ⟨o,e,c,d⟩:=st
  exact ⟨o,e,fun v z=>by rw [d] at z; cases z⟩
 keep:=fun i h h' st k=>st.at fun o e=>k it (by simp) o e
 item:=by
  intro X dT hw hK hc i pins s σ H E I hf st hg
  subst dT hw hK
  obtain ⟨xs,x,aD,hx⟩:=hg
  obtain ⟨its,bN,p,a5⟩:=I.list aD
  obtain ⟨u,hu,ed⟩:=bN.get hx
  obtain ⟨f0,f1,f2,eU,f4,gT⟩:=hf it (by simp)
  refine wpAny_pyNext_list_item st p.isList (x:=u) (by simpa using hu) fun h' kh ja=>?_
  have aP:Inv X pins σ H { s with heap:=h' }:=I.turned (t':=s.toks) (fun b o hb e=>(ja.2 b hb).trans e) f0 f1 eU f4 gT
  obtain ⟨o,e,c,d⟩:=id kh
  exact ⟨u,rfl,ui (s:={ s with heap:=h' }) e c d (by decide) ⟨x,H,aP,ed,⟨rfl,fun ys cg=>by rw [I.yL cg aD]; exact hx⟩,kh,fun b hb=>(hf b hb).1⟩⟩
 done:=by
  intro X dT hw hK hc i pins s σ H E I hf st hg
  subst dT hw hK
  obtain ⟨xs,aD,hx⟩:=hg
  obtain ⟨its,bN,p,a5⟩:=I.list aD
  obtain ⟨f0,f1,f2,eU,f4,gT⟩:=hf it (by simp)
  have hl:=bN.length
  exact wpAny_pyNext_list_end (I.ok.hd hc) st p.isList (by simp; omega) fun h' bq=>⟨rfl,I.turned (t':=s.toks) (fun b o hb e=>bq b o hb e) f0 f1 eU f4 gT⟩
 self:=fun _ _ _ _ _ st h=>wpAny_pyIter_listiter st h
theorem Up {P:Program} {w:World} {K:PySem.W.Frag} {bl:Expr} (a it:Addr):Turn P w K bl (wj K a) [it] it (fun i h=>h.IsTupleIter it a i) where
 mem:=by simp
 obj:=fun i h st b hb=>by
  have e:b=it:=by simpa using hb
  subst e
  obtain ⟨o,e,c,d⟩:=st
  exact ⟨o,e,fun v z=>by rw [d] at z; cases z⟩
 keep:=fun i h h' st k=>st.at fun o e=>k it (by simp) o e
 item:=by
  intro X dT hw hK hc i pins s σ H E I hf st hg
  subst dT hw hK
  obtain ⟨xs,x,aD,hx⟩:=hg
  obtain ⟨its,bN,p,a5⟩:=I.tuple aD
  obtain ⟨u,hu,ed⟩:=bN.get hx
  obtain ⟨f0,f1,f2,eU,f4,gT⟩:=hf it (by simp)
  refine wpAny_pyNext_tuple_item st (show s.heap.IsTuple a its.toArray from p) (x:=u) (by simpa using hu) fun h' kh ja=>?_
  have aP:Inv X pins σ H { s with heap:=h' }:=I.turned (t':=s.toks) (fun b o hb e=>(ja.2 b hb).trans e) f0 f1 eU f4 gT
  obtain ⟨o,e,c,d⟩:=id kh
  exact ⟨u,rfl,ui (s:={ s with heap:=h' }) e c d (by decide) ⟨x,H,aP,ed,⟨rfl,fun ys cg=>by rw [I.AI cg aD]; exact hx⟩,kh,fun b hb=>(hf b hb).1⟩⟩
 done:=by
  intro X dT hw hK hc i pins s σ H E I hf st hg
  subst dT hw hK
  obtain ⟨xs,aD,hx⟩:=hg
  obtain ⟨its,bN,p,a5⟩:=I.tuple aD
  obtain ⟨f0,f1,f2,eU,f4,gT⟩:=hf it (by simp)
  have hl:=bN.length
  exact wpAny_pyNext_tuple_end (I.ok.hd hc) st (show s.heap.IsTuple a its.toArray from p) (by simp; omega) fun h' bq=>⟨rfl,I.turned (t':=s.toks) (fun b o hb e=>bq b o hb e) f0 f1 eU f4 gT⟩
 self:=fun _ _ _ _ _ st h=>wpAny_pyIter_tupleiter st h
theorem Un {P:Program} {w:World} {K:PySem.W.Frag} {bl:Expr} (it:Addr) (lo:Int) (n:Nat):Turn P w K bl (tv lo n) [it] it (fun i h=>IsRangeIter h it (lo + (i:Nat) * 1) ((n:Int) - (i:Nat)) 1) where
 mem:=by simp
 obj:=fun i h st b hb=>by
  have e:b=it:=by simpa using hb
  subst e
  exact ⟨_,st,fun v z=>by
   have fe:Data.fields _=Data.cell v:=z
   cases fe⟩
 keep:=fun i h h' st k=>k it (by simp) _ st
 item:=by
  intro X dT hw hK hc i pins s σ H E I hf st hg
  subst dT hw hK
  obtain ⟨f0,f1,f2,eU,f4,gT⟩:=hf it (by simp)
  have W:=Walks.range (prog:=X.prog) (w:=X.w) (I.ok.hd hc) it lo 1 n
  refine W.item i s _ _ hg st fun v h' cR hv kh b0=>?_
  obtain ⟨t,rfl⟩:=hv
  have aP:Inv X pins σ H { s with heap:=h',toks:=cR }:=I.turned (fun b o hb e=>b0 b o (by simpa using hb) e) f0 f1 eU f4 gT
  refine ⟨_,rfl,ui (s:={ s with heap:=h',toks:=cR }) (n:="range_iterator") kh rfl rfl (by decide) ⟨.int (lo + i),H,aP,⟨t,?_⟩,⟨rfl,rfl⟩,kh,fun b hb=>(hf b hb).1⟩⟩
  rw [Int.mul_one]
 done:=by
  intro X dT hw hK hc i pins s σ H E I hf st hg
  subst dT hw hK
  obtain ⟨f0,f1,f2,eU,f4,gT⟩:=hf it (by simp)
  exact wpAny_pyNext_range_end (I.ok.hd hc) st (by have:n≤i:=hg; omega) fun h' bq=>⟨rfl,I.turned (t':=s.toks) (fun b o hb e=>bq b o hb e) f0 f1 eU f4 gT⟩
 self:=fun _ _ _ _ _ st h=>wpAny_pyIter_rangeiter st h
end aZ
namespace aZ
open PySem PySem.Spec PyProof.Rows
section
variable {X:aG} {bl:Expr}
noncomputable def D3 (K:PySem.W.Frag) (f_:TE):TI:=fun σ H R=>f_ σ H fun x H1=>∃a,x= .ref a∧(∃xs,bI K H1 a xs)∧R (wh K a) H1
noncomputable def D6 (K:PySem.W.Frag) (f_:TE):TI:=fun σ H R=>f_ σ H fun x H1=>∃a,x= .ref a∧(∃xs,cu K H1 a xs)∧R (wj K a) H1
theorem Q2 {l:Expr} {f_:TE} (hl:aS X l f_):fZ X bl l (D3 X.K f_):=by
 intro pins s σ H R I h
 refine bu (hl pins s σ H _ I h) fun v s1 ⟨x,H1,aP,ao,aW⟩=>?_
 obtain ⟨a,e,⟨xs,aD⟩,q⟩:=aW
 subst e
 cases ao
 obtain ⟨its,bN,p,a5⟩:=aP.list aD
 refine wpAny_pyIter_list p.isList ?_
 refine ⟨s1.heap.objs.size,[s1.heap.objs.size],_,_,H1,rfl,aP.kept (t':=s1.toks) fun b o e=>Heap.get?_push_of_some _ e,Um a _,⟨_,Heap.get?_push_size _ rfl,rfl,rfl⟩,fun b hb=>?_,q⟩
 have e:b=s1.heap.objs.size:=by simpa using hb
 subst e
 exact aP.mC (Nat.le_refl _) (aP.bk.fresh (Nat.le_refl _))
theorem Q5 {l:Expr} {f_:TE} (hl:aS X l f_):fZ X bl l (D6 X.K f_):=by
 intro pins s σ H R I h
 refine bu (hl pins s σ H _ I h) fun v s1 ⟨x,H1,aP,ao,aW⟩=>?_
 obtain ⟨a,e,⟨xs,aD⟩,q⟩:=aW
 subst e
 cases ao
 obtain ⟨its,bN,p,a5⟩:=aP.tuple aD
 refine wpAny_pyIter_tuple (show s1.heap.IsTuple a its.toArray from p) ?_
 refine ⟨s1.heap.objs.size,[s1.heap.objs.size],_,_,H1,rfl,aP.kept (t':=s1.toks) fun b o e=>Heap.get?_push_of_some _ e,Up a _,⟨_,Heap.get?_push_size _ rfl,rfl,rfl⟩,fun b hb=>?_,q⟩
 have e:b=s1.heap.objs.size:=by simpa using hb
 subst e
 exact aP.mC (Nat.le_refl _) (aP.bk.fresh (Nat.le_refl _))
theorem RK {pins:List (Addr×Obj)} {σ :St} {H:J} {s:Shared} {R:It→J→Prop} {E:Value→Shared→Prop} {lo hi:Int} {t u v:Tok} {cR:Nat} (I:Inv X pins σ H s) (h1: -(2 ^ 62)≤lo) (h2:lo < 2 ^ 62) (h3: -(2 ^ 62)≤hi) (h4:hi < 2 ^ 62)
  (q:R (tv lo (hi - lo).toNat) H):wpAny (model X.prog X.w) X.A (pyIter (.ref s.heap.objs.size)) (Bl X pins σ bl R) E { s with heap:=s.heap.push { cls:= .type "range",data:= .fields #[.int lo t,.int hi u,.int 1 v] },toks:=cR }:=by
 refine wpAny_pyIter_range (IsRange.new ..) (small_one h1 h2 h3 h4) ?_
 have aP:Inv X pins σ H { s with heap:=s.heap.push { cls:= .type "range",data:= .fields #[.int lo t,.int hi u,.int 1 v] },toks:=cR }:=I.kept fun b o e=>Heap.get?_push_of_some _ e
 refine ⟨(s.heap.push { cls:= .type "range",data:= .fields #[.int lo t,.int hi u,.int 1 v] }).objs.size,[(s.heap.push { cls:= .type "range",data:= .fields #[.int lo t,.int hi u,.int 1 v] }).objs.size],_,_,H,rfl,
  aP.kept (t':=cR) fun b o e=>Heap.get?_push_of_some _ e,Un _ lo (hi - lo).toNat,?_,fun b hb=>?_,q⟩
 · have ah:lo + ((0:Nat):Int) * 1=lo:=by simp
   have aw:(((hi - lo).toNat:Nat):Int) - ((0:Nat):Int)=Builtin.Range.rangeSize lo hi 1:=by rw [rangeSize_one]; split <;> omega
   show IsRangeIter _ _ (lo + ((0:Nat):Int) * 1) ((((hi - lo).toNat:Nat):Int) - ((0:Nat):Int)) 1
   rw [ah,aw]
   exact Heap.get?_push_size _ rfl
 · have e:b=(s.heap.push { cls:= .type "range",data:= .fields #[.int lo t,.int hi u,.int 1 v] }).objs.size:=by simpa using hb
   subst e
   exact aP.mC (Nat.le_refl _) (aP.bk.fresh (Nat.le_refl _))
noncomputable def D4 (bW:eH):TI:=fun σ H R=>bW σ H fun vs H1=>∃j:Int,vs=[.int j]∧ -(2 ^ 62)≤j∧j < 2 ^ 62∧R (tv 0 j.toNat) H1
theorem Q3 {a:Expr} {bW:eH} {p pos:Pos} (hg:cv X "range") (hm:X.mg "range"=none) (ha:e8 X [a] bW) (hs:starEach [a] X.env=[(false,eval a X.env)]:=by rfl):fZ X bl (.Call (.Name "range" p) [a] [] pos) (D4 bW):=by
 intro pins s σ H R I h
 refine Call_ (pI I hg hm boot_range (PyProof.Rows.callWith_type1 (bu (ha pos pins s σ H _ I h) fun us s1 ⟨vs,H1,aP,ao,aW⟩=>?_) hs rfl))
 obtain ⟨j,e,aW,bG,q⟩:=aW
 subst e
 cases ao with
 | cons r zv=>
   cases zv
   obtain ⟨t,rfl⟩:=r
   exact call_range_1 (RK aP (by omega) (by omega) aW bG (by simpa using q))
noncomputable def GA (hJ:TI) (g:gE) (tb:d5):d5:=fun D σ H=>hJ σ H fun bp H1=>∃W:Nat→Nat→St→J→Prop,(∃m,W 0 m σ H1)∧∀i m σ H,W i m σ H→
 (bp.stop i H∧D.a9 σ H)∨(bp.go i H∧∃N:St→J→Prop,(∀ σ' H',N σ' H'→∃d9,d9 < m∧W (i + 1) d9 σ' H')∧∀x H',bp.iH i H x H'→g x σ H' fun σ2 aH=>tb { D with a9:=N,cj:=N,eB:=D.a9 } σ2 aH)
noncomputable def sk (aL:List Addr) (h:Heap):List (Addr×Obj):=aL.filterMap fun b=>(h.get? b).map fun o=>(b,o)
theorem u0 {aL:List Addr} {h:Heap} {b:Addr} {o:Obj} (hb:b∈aL) (e:h.get? b=some o):(b,o)∈sk aL h:=List.mem_filterMap.mpr ⟨b,hb,by rw [e]; rfl⟩
theorem P4 {aL:List Addr} {h:Heap} {p:Addr×Obj} (hp:p∈sk aL h):p.1∈aL∧h.get? p.1=some p.2:=by
 obtain ⟨b,hb,e⟩:=List.mem_filterMap.mp hp
 cases q:h.get? b with
 | none=>rw [q] at e; cases e
 | some o=>
   rw [q] at e
   have bY:(b,o)=p:=Option.some.inj e
   subst bY
   exact ⟨hb,q⟩
theorem Inv.pinned {pins:List (Addr×Obj)} {σ :St} {H:J} {s:Shared} {aL:List Addr} (I:Inv X pins σ H s) (hf:∀b∈aL,iu X pins H b) (ho:∀b∈aL,∃o,s.heap.get? b=some o∧∀v,o.data≠ .cell v):Inv X (pins ++ sk aL s.heap) σ H s:=
 I.FF fun p hp=>(List.mem_append.mp hp).elim (fun z=>I.pin p (List.mem_append_right _ z)) fun z=>by
   obtain ⟨hb,e⟩:=P4 z
   obtain ⟨f0,f1,f2,_⟩:=hf p.1 hb
   obtain ⟨o,bY,d⟩:=ho p.1 hb
   rw [e] at bY; cases bY
   exact ⟨e,f0,f1,f2,d⟩
theorem Inv.vH {pins pl:List (Addr×Obj)} {σ :St} {H:J} {s:Shared} (I:Inv X (pins ++ pl) σ H s):Inv X pins σ H s:=I.FF fun p hp=>I.pin p (List.mem_append_right _ (List.mem_append_left _ hp))
theorem Rf {iter:Expr} {body:List Stmt} {hJ:TI} {g:gE} {tb:d5} {pos:Pos} (hp:PassesOwn (model X.prog X.w) X.A X.env X.xe) (hc:X.calm=true) (hi:fZ X bl iter hJ) (hg:hP X bl g) (hb:e9 X body tb)
  (hs:∀x,foldedSetIterable iter X.env x=pure x:=by intro _; rfl):cK X (.For bl iter body [] pos) (GA hJ g tb):=by
 intro pins s σ H D I h
 refine wpAny_For (bu (hi pins s σ H _ I h) fun v s1 h1=>bu h1 fun uF s2 h2=>?_) hs
 obtain ⟨it,aL,fq,bp,aH,e,bZ,T,jH,f2,W,⟨m0,lY⟩,turn⟩:=h2
 subst e
 have stat:∀{H':J},(∀b∈aL,H' b=none)→∀b∈aL,iu X pins H' b:=fun aN b hb=>⟨aN b hb,(f2 b hb).2⟩
 refine codeAny_forLoop_any (fun n s'=>∃i σ' H',Inv X pins σ' H' s'∧fq i s'.heap∧(∀b∈aL,H' b=none)∧W i n σ' H') ?_ m0 ⟨0,σ,aH,bZ,jH,fun b hb=>(f2 b hb).1,lY⟩
 rintro n s3 ⟨i,σ3,cw,dC,Gn,Dn,gx⟩
 rcases turn i n σ3 cw gx with ⟨stop,qn⟩ | ⟨go,N,hN,step⟩
 · refine wpAny_passesOwn hp (bu (T.done X rfl rfl rfl hc i pins s3 σ3 cw X.xe dC (stat Dn) Gn stop) fun r s4 ⟨hr,je⟩=>?_)
   subst hr
   exact wpAny_execs_nil ⟨σ3,cw,je,qn⟩
 · refine wpAny_passesOwn hp (bu (T.item X rfl rfl rfl hc i pins s3 σ3 cw X.xe dC (stat Dn) Gn go) fun r s4 ⟨u,hr,h4⟩=>?_)
   subst hr
   refine wpAny_passesOwn hp (bu h4 fun _ s5 ⟨x,hL,kX,i9,VN,qg,uc⟩=>?_)
   have H9:=kX.pinned (stat uc) (T.obj _ _ qg)
   refine wpAny_passesOwn hp (bu (hg _ s5 σ3 hL x u _ H9 i9 (step x hL VN)) fun _ vm ⟨σ6,me,nx,sq⟩=>?_)
   refine wpAny_passesOwn hp (bu (hb _ vm σ6 me _ nx sq) fun f eM m4=>?_)
   have again:∀{σ7:St} {fw:J},Inv X (pins ++ sk aL s5.heap) σ7 fw eM→N σ7 fw→∃m,m < n∧∃i σ' H',Inv X pins σ' H' eM∧fq i eM.heap∧(∀b∈aL,H' b=none)∧W i m σ' H':=fun {σ7 fw} hM r_=>by
    obtain ⟨d9,hm,UL⟩:=hN σ7 fw r_
    refine ⟨d9,hm,i + 1,σ7,fw,hM.vH,T.keep _ _ _ qg fun b hb o e=>(hM.pin (b,o) (List.mem_append_right _ (List.mem_append_right _ (u0 hb e)))).1,fun b hb=>?_,UL⟩
    obtain ⟨o,e,d⟩:=T.obj _ _ qg b hb
    exact (hM.pin (b,o) (List.mem_append_right _ (List.mem_append_right _ (u0 hb e)))).2.1
   cases f with
   | next=>obtain ⟨σ7,fw,hM,r_⟩:=m4; exact again hM r_
   | cont=>obtain ⟨σ7,fw,hM,r_⟩:=m4; exact again hM r_
   | brk=>obtain ⟨σ7,fw,hM,m4⟩:=m4; exact ⟨σ7,fw,hM.vH,m4⟩
   | ret v=>obtain ⟨U6,σ7,fw,hM,ik,m4⟩:=m4; exact ⟨U6,σ7,fw,hM.vH,ik,m4⟩
end
end aZ
namespace aZ
open PySem PySem.Spec PyProof.Rows
noncomputable abbrev d4:=V→V→J→b9→Prop
noncomputable def c7 (X:aG) (f:Value→Value→Sem Value) (r:d4):Prop:=
 ∀(pins:List (Addr×Obj)) (s:Shared) (σ :St) (H:J) (x y:V) (v u:Value) (Q:b9),Inv X pins σ H s→RelV x v→RelV y u→r x y H Q→
  wpAny (model X.prog X.w) X.A (f v u) (ff X pins σ Q) X.xe s
noncomputable def tG (X:aG) (f:Value→Sem Value) (r:V→J→b9→Prop):Prop:=
 ∀(pins:List (Addr×Obj)) (s:Shared) (σ :St) (H:J) (x:V) (v:Value) (Q:b9),Inv X pins σ H s→RelV x v→r x H Q→
  wpAny (model X.prog X.w) X.A (f v) (ff X pins σ Q) X.xe s
noncomputable def gz (X:aG) (f:Value) (r:List V→J→b9→Prop):Prop:=
 ∀(pins:List (Addr×Obj)) (s:Shared) (σ :St) (H:J) (xs:List V) (us:List Value) (Q:b9),Inv X pins σ H s→Vals xs us→r xs H Q→
  wpAny (model X.prog X.w) X.A (call f us) (ff X pins σ Q) X.xe s
noncomputable def Ik (X:aG) (r:V→J→(Bool→J→Prop)→Prop):Prop:=
 ∀(pins:List (Addr×Obj)) (s:Shared) (σ :St) (H:J) (x:V) (v:Value) (Q:Bool→J→Prop),Inv X pins σ H s→RelV x v→r x H Q→
  wpAny (model X.prog X.w) X.A (truthy v) (tF X pins σ Q) X.xe s
noncomputable def sL (r:d4) (bW tb:TE):TE:=fun σ H Q=>bW σ H fun x H1=>tb σ H1 fun y aH=>r x y aH Q
noncomputable def GP (r:V→J→b9→Prop) (bW:TE):TE:=fun σ H Q=>bW σ H fun x H1=>r x H1 Q
noncomputable def p_ (C:Int→Int→Prop) (g:Int→Int→V):d4:=fun x y H Q=>∃i j,x= .int i∧y= .int j∧C i j∧Q (g i j) H
noncomputable def kg (g:Int→Int→V):d4:=fun x y H Q=>∃i j,x= .int i∧y= .int j∧Q (g i j) H
noncomputable def FY (g:Int→V):V→J→b9→Prop:=fun x H Q=>∃i,x= .int i∧Q (g i) H
section
variable {X:aG} {a b c:Expr} {bW tb fp:TE} {pos:Pos}
theorem w9 (ha:aS X a bW) (hb:aS X b tb) {pins:List (Addr×Obj)} {s:Shared} {σ :St} {H:J} {R:V→V→J→Prop} (I:Inv X pins σ H s)
  (h:bW σ H fun x H1=>tb σ H1 fun y aH=>R x y aH) {Q:Value→Shared→Prop} {f:Value→Value→Sem Value}
  (hf:∀v u s2 x y aH,Inv X pins σ aH s2→RelV x v→RelV y u→R x y aH→wpAny (model X.prog X.w) X.A (f v u) Q X.xe s2) :
  wpAny (model X.prog X.w) X.A (eval a X.env) (fun v cO=>wpAny (model X.prog X.w) X.A (eval b X.env) (fun u nc=>wpAny (model X.prog X.w) X.A (f v u) Q X.xe nc) X.xe cO) X.xe s:=by
 refine bu (ha pins s σ H _ I h) fun v s1 ⟨x,H1,aP,ao,aW⟩=>?_
 refine bu (hb pins s1 σ H1 _ aP aW) fun u s2 ⟨y,aH,bZ,a_,bG⟩=>?_
 exact hf v u s2 x y aH bZ ao a_ bG
theorem QT {op:Operator} {r:d4} (ho:c7 X (binaryOp op) r) (ha:aS X a bW) (hb:aS X b tb):aS X (.BinOp a op b pos) (sL r bW tb):=by
 intro pins s σ H Q I h
 exact wpAny_BinOp (w9 ha hb I h fun v u s2 x y aH bZ bh bT q=>ho pins s2 σ aH x y v u Q bZ bh bT q)
theorem QX {op:UnaryOp} {r:V→J→b9→Prop} (ho:tG X (unaryOp op) r) (ha:aS X a bW):aS X (.UnaryOp op a pos) (GP r bW):=by
 intro pins s σ H Q I h
 exact UnaryOp_ (bu (ha pins s σ H _ I h) fun v s1 ⟨x,H1,aP,ao,aW⟩=>ho pins s1 σ H1 x v Q aP ao aW)
theorem vc {f:Value→Value→Sem Value} {C:Int→Int→Prop} {g:Int→Int→Int}
  (rule:∀(i j:Int) (t u:Tok) (s:Shared) (Q:Value→Shared→Prop) (E:Value→Shared→Prop),C i j→Q (.int (g i j) s.toks) { s with toks:=s.toks + 1 }→wpAny (model X.prog X.w) X.A (f (.int i t) (.int j u)) Q E s) :
  c7 X f (p_ C fun i j=> .int (g i j)):=by
 intro pins s σ H x y v u Q I bh bT h
 obtain ⟨i,j,rfl,rfl,hc,q⟩:=h
 obtain ⟨t,rfl⟩:=bh
 obtain ⟨t',rfl⟩:=bT
 exact rule i j t t' s _ _ hc ⟨.int (g i j),H,I.tok _,⟨_,rfl⟩,q⟩
theorem Fi {f:Value→Value→Sem Value} {g:Int→Int→Int}
  (rule:∀(i j:Int) (t u:Tok) (s:Shared) (Q:Value→Shared→Prop) (E:Value→Shared→Prop),Q (.int (g i j) s.toks) { s with toks:=s.toks + 1 }→wpAny (model X.prog X.w) X.A (f (.int i t) (.int j u)) Q E s) :
  c7 X f (kg fun i j=> .int (g i j)):=by
 intro pins s σ H x y v u Q I bh bT h
 obtain ⟨i,j,rfl,rfl,q⟩:=h
 obtain ⟨t,rfl⟩:=bh
 obtain ⟨t',rfl⟩:=bT
 exact rule i j t t' s _ _ ⟨.int (g i j),H,I.tok _,⟨_,rfl⟩,q⟩
theorem y9 {f:Value→Value→Sem Value} {g:Int→Int→Bool}
  (rule:∀(i j:Int) (t u:Tok) (s:Shared) (Q:Value→Shared→Prop) (E:Value→Shared→Prop),Q (.bool (g i j)) s→wpAny (model X.prog X.w) X.A (f (.int i t) (.int j u)) Q E s) :
  c7 X f (kg fun i j=> .au (g i j)):=by
 intro pins s σ H x y v u Q I bh bT h
 obtain ⟨i,j,rfl,rfl,q⟩:=h
 obtain ⟨t,rfl⟩:=bh
 obtain ⟨t',rfl⟩:=bT
 exact rule i j t t' s _ _ ⟨.au (g i j),H,I,rfl,q⟩
noncomputable def tj (i j:Int):Prop:=0 < j∧j < 1073741824
noncomputable def qw (i j:Int):Prop:=0≤j∧j≤1000000∧i.natAbs < 2 ^ 64
noncomputable def oL (i j:Int):Prop:=(-(2 ^ 64) < i∧i < 2 ^ 64)∨(-(2 ^ 64) < j∧j < 2 ^ 64)
theorem oL.ok {i j:Int} (h:oL i j):IntMulOk i j:=by
 rcases h with ⟨h1,h2⟩ | ⟨h1,h2⟩
 · exact .of_left (intBits_le_64 h1 h2)
 · exact .of_right (intBits_le_64 h1 h2)
theorem Qf:c7 X (binaryOp .Add) (kg fun i j=> .int (i + j)):=Fi fun _ _ _ _ _ _ _ q=>add_int q
theorem Qq:c7 X (binaryOp .Sub) (kg fun i j=> .int (i - j)):=Fi fun _ _ _ _ _ _ _ q=>sub_int q
theorem Qm:c7 X (binaryOp .Mult) (p_ oL fun i j=> .int (i * j)):=vc fun _ _ _ _ _ _ _ hc q=>mul_int q hc.ok
theorem Qi:c7 X (binaryOp .FloorDiv) (p_ tj fun i j=> .int (i / j)):=vc fun i j _ _ _ _ _ hc q=>by
 have h1:(0:Int) < j:=hc.1
 have h2:j < 1073741824:=hc.2
 exact floordiv_int (by omega) (by rw [Int.fdiv_eq_ediv_of_nonneg i (by omega)]; exact q) (.inl (PyProof.noPylong_small (by omega)))
theorem Ql:c7 X (binaryOp .Mod) (p_ (fun _ j=>0 < j) fun i j=> .int (i % j)):=vc fun i j _ _ _ _ _ hc q=>by
 have h1:(0:Int) < j:=hc
 exact mod_int' (by omega) (by rw [Int.fmod_eq_emod_of_nonneg i (by omega)]; exact q)
theorem Qo:c7 X (binaryOp .Pow) (p_ qw fun i j=> .int (i ^ j.toNat)):=vc fun _ _ _ _ _ _ _ hc q=>pow_int_small hc.1 hc.2.1 hc.2.2 q
theorem Uu {f:Value→Sem Value} {g:Int→Int}
  (rule:∀(i:Int) (t:Tok) (s:Shared) (Q:Value→Shared→Prop) (E:Value→Shared→Prop),Q (.int (g i) s.toks) { s with toks:=s.toks + 1 }→wpAny (model X.prog X.w) X.A (f (.int i t)) Q E s) :
  tG X f (FY fun i=> .int (g i)):=by
 intro pins s σ H x v Q I bh h
 obtain ⟨i,rfl,q⟩:=h
 obtain ⟨t,rfl⟩:=bh
 exact rule i t s _ _ ⟨.int (g i),H,I.tok _,⟨_,rfl⟩,q⟩
theorem Uv:tG X (unaryOp .USub) (FY fun i=> .int (-i)):=Uu fun _ _ _ _ _ q=>neg_int q
end
noncomputable def F7:V→V→Bool
 | .non,.non=>true | .non,.int _=>true | .int _,.non=>true | .non,.au _=>true | .au _,.non=>true | .non,.str _=>true | .str _,.non=>true
 | .int _,.int _=>true | .au _,.au _=>true | .str _,.str _=>true | .ky _,.ky _=>true
 | .int _,.str _=>true | .str _,.int _=>true | .au _,.str _=>true | .str _,.au _=>true
 | _,_=>false
section
variable {X:aG} {a b c:Expr} {bW tb fp:TE} {pos:Pos}
theorem K_ {pins:List (Addr×Obj)} {σ :St} {H:J} {s:Shared} {Q:b9} {k k':Bool} (I:Inv X pins σ H s) (q:Q (.au k) H) (e:k=k'):ff X pins σ Q (.bool k') s:=by
 subst e
 exact ⟨.au k,H,I,rfl,q⟩
theorem Fm:c7 X (compareOp .Lt) (kg fun i j=> .au (decide (i < j))):=y9 fun _ _ _ _ _ _ _ q=>lt_int q
theorem sh:c7 X (compareOp .LtE) (kg fun i j=> .au (decide (i≤j))):=y9 fun _ _ _ _ _ _ _ q=>le_int q
theorem Qj:c7 X (compareOp .Gt) (kg fun i j=> .au (decide (j < i))):=y9 fun _ _ _ _ _ _ _ q=>gt_int q
theorem Fl:c7 X (compareOp .Is) (fun x y H Q=>y= .non∧Q (.au (decide (x= .non))) H):=by
 intro pins s σ H x y v u Q I bh bT h
 obtain ⟨rfl,q⟩:=h
 cases bT
 refine is_none_gen (K_ I q ?_)
 cases x <;> first
  | (cases bh; rfl)
  | (obtain ⟨t,rfl⟩:=bh; rfl)
theorem c7.or {f:Value→Value→Sem Value} {r a4:d4} (h:c7 X f r) (h':c7 X f a4):c7 X f (fun x y H Q=>r x y H Q∨a4 x y H Q):=by
 intro pins s σ H x y v u Q I bh bT q
 rcases q with q | q
 · exact h pins s σ H x y v u Q I bh bT q
 · exact h' pins s σ H x y v u Q I bh bT q
theorem mY (b:Expr) {op:CmpOp} (h:op≠ .In:=by decide) (h2:op≠ .NotIn:=by decide):behindInMarks op b=false:=by
 have ah:(op == CmpOp.In)=false:=by cases op <;> first | rfl | exact absurd rfl h
 have aw:(op == CmpOp.NotIn)=false:=by cases op <;> first | rfl | exact absurd rfl h2
 cases b <;> simp [behindInMarks,ah,aw]
theorem QF {op:CmpOp} {r:d4} (ho:c7 X (compareOp op) r) (ha:aS X a bW) (hb:aS X b tb) (hm:behindInMarks op b=false):aS X (.Compare a [op] [b] pos) (sL r bW tb):=by
 intro pins s σ H Q I h
 exact wpAny_Compare1 (w9 ha hb I h fun v u s2 x y aH bZ bh bT q=>ho pins s2 σ aH x y v u Q bZ bh bT q) hm
noncomputable def AB (t:TE):TT:=fun σ H Q=>t σ H fun x H'=>∃k,x= .au k∧Q k H'
theorem Rm {op:CmpOp} {r:d4} (ho:c7 X (compareOp op) r) (ha:aS X a bW) (hb:aS X b tb) (hm:behindInMarks op b=false):eG X (.Compare a [op] [b] pos) (AB (sL r bW tb)):=by
 intro pins s σ H Q I h
 refine wpAny_isTrue_Compare1 (bu (ha pins s σ H _ I h) fun v s1 ⟨x,H1,aP,ao,aW⟩=>bu (hb pins s1 σ H1 _ aP aW) fun u s2 ⟨y,aH,bZ,a_,bG⟩=>
  bu (ho pins s2 σ aH x y v u _ bZ ao a_ bG) fun c s3 ⟨z,cw,dC,da,k,e,er⟩=>?_) hm
 subst e
 cases da
 exact wpAny_truthy_bool ⟨cw,dC,er⟩
noncomputable def Au (r a4:d4) (bW tb fp:TE):TE:=fun σ H Q=>bW σ H fun x H1=>tb σ H1 fun y aH=>r x y aH fun z cw=>∃k,z= .au k∧
 (if k=true then fp σ cw fun fF fX=>a4 y fF fX Q else Q (.au false) cw)
theorem QE {op fo:CmpOp} {r a4:d4} (ho:c7 X (compareOp op) r) (ho':c7 X (compareOp fo) a4) (ha:aS X a bW) (hb:aS X b tb) (hc:aS X c fp)
  (hm:lastMarks [op,fo] [b,c]=false:=by with_unfolding_all rfl):aS X (.Compare a [op,fo] [b,c] pos) (Au r a4 bW tb fp):=by
 intro pins s σ H Q I h
 refine Compare_chain (bu (ha pins s σ H _ I h) fun v s1 ⟨x,H1,aP,ao,aW⟩=>chain_link (bu (hb pins s1 σ H1 _ aP aW) fun u s2 ⟨y,aH,bZ,a_,bG⟩=>
  bu (ho pins s2 σ aH x y v u _ bZ ao a_ bG) fun d s3 ⟨z,cw,dC,da,k,e,er⟩=>?_)) hm
 subst e
 cases da
 refine wpAny_truthy_bool ?_
 cases k with
 | false=>exact ite_ff ⟨.au false,cw,dC,rfl,er⟩
 | true=>exact ite_tt (chain_last (bu (hc pins s3 σ cw _ dC er) fun fF s4 ⟨fe,fX,je,ou,zm⟩=>ho' pins s4 σ fX y fe u fF Q je a_ ou zm))
theorem Rk {op fo:CmpOp} {r a4:d4} (ho:c7 X (compareOp op) r) (ho':c7 X (compareOp fo) a4) (ha:aS X a bW) (hb:aS X b tb) (hc:aS X c fp)
  (hm:lastMarks [op,fo] [b,c]=false:=by with_unfolding_all rfl):eG X (.Compare a [op,fo] [b,c] pos) (AB (Au r a4 bW tb fp)):=by
 intro pins s σ H Q I h
 refine isTrue_chain (bu (ha pins s σ H _ I h) fun v s1 ⟨x,H1,aP,ao,aW⟩=>test_link (bu (hb pins s1 σ H1 _ aP aW) fun u s2 ⟨y,aH,bZ,a_,bG⟩=>
  bu (ho pins s2 σ aH x y v u _ bZ ao a_ bG) fun d s3 ⟨z,cw,dC,da,k,e,er⟩=>?_)) hm
 subst e
 cases da
 refine wpAny_truthy_bool ?_
 cases k with
 | false=>
   obtain ⟨k',bY,cS⟩:=er
   cases bY
   exact ite_ff ⟨cw,dC,cS⟩
 | true=>
   refine ite_tt (test_last (bu (hc pins s3 σ cw _ dC er) fun fF s4 ⟨fe,fX,je,ou,zm⟩=>bu (ho' pins s4 σ fX y fe u fF _ je a_ ou zm) fun d' s5 ⟨aX,hL,kX,i9,k2,aw,zo⟩=>?_))
   subst aw
   cases i9
   exact wpAny_truthy_bool ⟨hL,kX,zo⟩
noncomputable def Il (K:PySem.W.Frag) (x:V) (H:J) (k:Bool):Prop:=
 match x with
 | .non=>k=false
 | .au b=>k=b
 | .int i=>k=(i != 0)
 | .str y=>y.length≤sizeLine∧k=((y.length:Int) != 0)
 | .ky y=>y.size≤sizeLine∧k=((y.size:Int) != 0)
 | .ref p=>(∃xs,bI K H p xs∧k= !xs.isEmpty)∨(∃xs,cu K H p xs∧k= !xs.isEmpty)∨∃aQ,H p=some (.cL aQ)∧k= !aQ.isEmpty
 | _=>False
theorem Nw {κ:Type} {aQ:List (κ×V)} {vs:List (κ×Value)} (r:eX aQ vs):(!vs.isEmpty)= !aQ.isEmpty:=by
 cases r <;> rfl
theorem Ef {xs:List V} {its:List Value} (r:Vals xs its):(!its.toArray.isEmpty)= !xs.isEmpty:=by
 cases r <;> simp
theorem pL:(sizeLine:Nat) < 2 ^ 63:=by rw [sizeLine_eq]; decide
theorem XG:Ik X (fun x H Q=>∃k,Il X.K x H k∧Q k H):=by
 intro pins s σ H x v Q I bh h
 obtain ⟨k,e,q⟩:=h
 have hl:=pL
 have hs:sizeLine=16777216:=sizeLine_eq
 cases x with
 | non=>
   cases bh
   have bY:k=false:=e
   subst bY
   exact truthy_none ⟨H,I,q⟩
 | au b=>
   cases bh
   have bY:k=b:=e
   subst bY
   exact wpAny_truthy_bool ⟨H,I,q⟩
 | int i=>
   obtain ⟨t,rfl⟩:=bh
   have bY:k=(i != 0):=e
   subst bY
   exact PySem.P.truthy_int ⟨H,I,q⟩
 | str y=>
   obtain ⟨t,rfl⟩:=bh
   obtain ⟨cg,bY⟩:y.length≤sizeLine∧k=((y.length:Int) != 0):=e
   subst bY
   exact PySem.P.truthy_str (by omega) ⟨H,I.tok _,q⟩
 | ky y=>
   obtain ⟨t,rfl⟩:=bh
   obtain ⟨cg,bY⟩:y.size≤sizeLine∧k=((y.size:Int) != 0):=e
   subst bY
   exact PySem.W.truthy_bytes (by omega) ⟨H,I.tok _,q⟩
 | ref p=>
   cases bh
   have bY:(∃xs,bI X.K H p xs∧k= !xs.isEmpty)∨(∃xs,cu X.K H p xs∧k= !xs.isEmpty)∨∃aQ,H p=some (.cL aQ)∧k= !aQ.isEmpty:=e
   rcases bY with ⟨xs,hx,bY⟩ | ⟨xs,hx,bY⟩ | ⟨aQ,hx,bY⟩
   · subst bY
     obtain ⟨its,r,pl,a5⟩:=I.list hx
     have hlen:=r.length
     exact wpAny_truthy_list pl.isList (by simp only [List.size_toArray]; omega) ⟨H,I.tok _,by rw [Ef r]; exact q⟩
   · subst bY
     obtain ⟨its,r,pl,a5⟩:=I.tuple hx
     have hlen:=r.length
     exact truthy_tuple pl (by simp only [List.size_toArray]; omega) ⟨H,I.tok _,by rw [Ef r]; exact q⟩
   · subst bY
     obtain ⟨a5,j4,vs,r,m⟩:aQ.length≤sizeLine∧(p == sysModules)=false∧∃vs,eX aQ vs∧s.heap.DictOf (hG X.prog X.w) p vs:=I.bk p _ hx
     have hlen:aQ.length=vs.length:=Paired.length r
     exact wpAny_truthy_dict j4 m (by omega) ⟨H,I.tok _,by rw [Nw r]; exact q⟩
 | _=>exact (show False from e).elim
theorem Qg:c7 X (binaryOp .Add) (fun x y H Q=>∃i j,x= .str i∧y= .str j∧i.length + j.length≤sizeLine∧Q (.str (i ++ j)) H):=by
 intro pins s σ H x y v u Q I bh bT h
 obtain ⟨i,j,rfl,rfl,a5,q⟩:=h
 obtain ⟨t,rfl⟩:=bh
 obtain ⟨t',rfl⟩:=bT
 exact add_str (fun t' cR=>⟨.str (i ++ j),H,I.tok _,⟨_,rfl⟩,q⟩) a5
theorem vals1 {x:V} {us:List Value} (r:Vals [x] us):∃u,us=[u]∧RelV x u:=by
 cases r with
 | cons ao a_=>cases a_; exact ⟨_,rfl,ao⟩
theorem vals2 {x y:V} {us:List Value} (r:Vals [x,y] us):∃u fF,us=[u,fF]∧RelV x u∧RelV y fF:=by
 cases r with
 | cons ao a_=>
   cases a_ with
   | cons da ou=>cases ou; exact ⟨_,_,rfl,ao,da⟩
theorem Jd:gz X (.type "int") (fun xs H Q=>(∃i,xs=[.int i]∧Q (.int i) H)∨∃k,xs=[.au k]∧Q (.int (if k then 1 else 0)) H):=by
 intro pins s σ H xs us Q I r h
 rcases h with ⟨i,rfl,q⟩ | ⟨k,rfl,q⟩
 · obtain ⟨u,rfl,t,rfl⟩:=vals1 r
   exact call_int_int ⟨.int i,H,I,⟨_,rfl⟩,q⟩
 · obtain ⟨u,rfl,ao⟩:=vals1 r
   cases ao
   exact call_int_bool ⟨.int (if k then 1 else 0),H,I.tok _,⟨_,rfl⟩,q⟩
theorem Ji:gz X (.type "str") (fun xs H Q=>∃i,xs=[.int i]∧i.natAbs.log2 < 1920∧Q (.str (toString i)) H):=by
 intro pins s σ H xs us Q I r h
 obtain ⟨i,rfl,a5,q⟩:=h
 obtain ⟨u,rfl,t,rfl⟩:=vals1 r
 exact PySem.P.str_of_int a5 ⟨.str _,H,I.tok _,⟨_,rfl⟩,q⟩
noncomputable def Bi (K:PySem.W.Frag) (x:V) (H:J) (n:Nat):Prop:=
 match x with
 | .str y=>y.length≤sizeLine∧n=y.length
 | .ky y=>y.size≤sizeLine∧n=y.size
 | .ref p=>(∃xs,bI K H p xs∧n=xs.length)∨∃xs,cu K H p xs∧n=xs.length
 | _=>False
theorem Jg:gz X (.builtin "len") (fun xs H Q=>∃x n,xs=[x]∧Bi X.K x H n∧Q (.int n) H):=by
 intro pins s σ H xs us Q I r h
 obtain ⟨x,n,rfl,e,q⟩:=h
 obtain ⟨u,rfl,bh⟩:=vals1 r
 have hl:=pL
 have hs:sizeLine=16777216:=sizeLine_eq
 cases x with
 | str y=>
   obtain ⟨t,rfl⟩:=bh
   obtain ⟨cg,bY⟩:y.length≤sizeLine∧n=y.length:=e
   subst bY
   exact len_str (by omega) ⟨.int _,H,I.tok _,⟨_,rfl⟩,q⟩
 | ky y=>
   obtain ⟨t,rfl⟩:=bh
   obtain ⟨cg,bY⟩:y.size≤sizeLine∧n=y.size:=e
   subst bY
   exact PySem.W.len_bytes (by omega) ⟨.int _,H,I.tok _,⟨_,rfl⟩,q⟩
 | ref p=>
   cases bh
   have bY:(∃xs,bI X.K H p xs∧n=xs.length)∨∃xs,cu X.K H p xs∧n=xs.length:=e
   rcases bY with ⟨xs,hx,bY⟩ | ⟨xs,hx,bY⟩
   · subst bY
     obtain ⟨its,a4,pl,a5⟩:=I.list hx
     have hlen:=a4.length
     exact Calls.call_len_list pl.isList (by simp only [List.size_toArray]; omega) ⟨.int xs.length,H,I.tok _,⟨_,by simp only [List.size_toArray]; rw [hlen]⟩,q⟩
   · subst bY
     obtain ⟨its,a4,pl,a5⟩:=I.tuple hx
     have hlen:=a4.length
     exact len_tuple pl (by simp only [List.size_toArray]; omega) ⟨.int xs.length,H,I.tok _,⟨_,by simp only [List.size_toArray]; rw [hlen]⟩,q⟩
 | _=>exact (show False from e).elim
end
end aZ
namespace aZ
open PySem PySem.Spec PyProof.Rows
structure nB (h:Heap) (x aT C:Addr) (dk:Str→Option Value):Prop where
 obj:h.get? x=some (PySem.W.instObj C aT)
 ns:h.Ns1 aT dk
 ne:aT≠x
theorem O4 {h:Heap} {aT:Addr} {dk:Str→Option Value} (n:h.Ns1 aT dk):∃de,h.get? aT=some de∧∀name,PySem.W.lookIn name de=some (dk name):=by
 obtain ⟨o,ae,dB,ho,hd,hk,_,hm⟩:=n
 refine ⟨o,ho,fun name=>?_⟩
 have e:=hm name
 unfold nsFind findBy at e
 rw [←Array.find?_toList] at e
 unfold PySem.W.lookIn
 rw [hd]
 dsimp only
 split
 · rename_i y q
   rw [q] at e
   exact congrArg some e
 · rename_i q
   rw [q] at e
   have a:ae.toList.any (·.refKey)=false:=by
    rw [List.any_eq_false]
    intro y cg
    obtain ⟨z,t,LR⟩:=hk y (Array.mem_toList_iff.mp cg)
    simp [DictEntry.refKey,LR]
   have la:¬ ae.toList.any (·.refKey)=true:=by rw [a]; exact Bool.false_ne_true
   rw [if_neg la]
   exact congrArg some e
theorem nB.look {h:Heap} {x aT C:Addr} {dk:Str→Option Value} (I:nB h x aT C dk):∃de,PySem.W.InstAt h x (PySem.W.instObj C aT) C (some de)∧∀name,PySem.W.lookIn name de=some (dk name):=
 let ⟨de,ho,hl⟩:=O4 I.ns
 ⟨de,⟨I.obj,rfl,rfl,ho⟩,hl⟩
section
variable {prog:Program} {w:World} {A:Around} {E:Value→Shared→Prop} {s:Shared} {K:PySem.W.Frag} {x aT C f:Addr} {dk:Str→Option Value} {name:Str} {v:Value}
theorem get_map {expr:Bool} {Q:Value→Shared→Prop} (X:K.In s.heap) (I:nB s.heap x aT C dk) (hg:PySem.W.plainGet K C name=true) (hh:PySem.W.hasDictIn K C=true)
  (ha:PySem.W.findIn K (.ref C) name=some none) (hv:dk name=some v) (Mj:PySem.W.handedIn v=true) (h:Q v { s with toks:=s.toks + 1 }) :
  wpAny (model prog w) A (getAttr (.ref x) name expr) Q E s:=by
 obtain ⟨de,bp,hl⟩:=I.look
 exact PySem.W.get_value X bp (PySem.W.plainGet_of hg).1 (PySem.W.findObj_own hh ha rfl (by rw [hl,hv])) Mj h
theorem Lm {pl:Sem Bool} {Q:Value×List Value→Shared→Prop} (X:K.In s.heap) (I:nB s.heap x aT C dk) (hg:PySem.W.plainGet K C name=true)
  (hf:PySem.W.findIn K (.ref C) name=some (some (.ref f))) (ht:PySem.W.isFn K (.ref f)=true) (hv:dk name=none) (h:Q (.ref f,[.ref x]) s) :
  wpAny (model prog w) A (getMethod (.ref x) name pl) Q E s:=by
 obtain ⟨de,bp,hl⟩:=I.look
 exact PySem.W.method_fn X bp (PySem.W.plainGet_of hg).1 (PySem.W.plainGet_of hg).2 hf (beq_iff_eq.mp ht) (by show (PySem.W.lookIn name de).map (·.isSome)=some false; rw [hl,hv]; rfl) h
theorem S1 {ns:List Str} {Q:Unit→Shared→Prop} (X:K.In s.heap) (I:nB s.heap x aT C dk)
  (hs:PySem.W.findIn K (.ref C) "__setattr__"=some (some (.builtin "object.__setattr__"))) (hp:PySem.W.plainOver K C=true) (ht:PySem.W.takerIn K C name=some none) (hh:PySem.W.hasDictIn K C=true)
  (hw:PySem.Within dk ns) (hsz:ns.length≤sizeLine)
  (h:∀h',nB h' x aT C (fun y=>if y=name then some v else dk y)→Heap.SameBut aT s.heap h'→Q () { s with heap:=h',toks:=s.toks + 2 }) :
  wpAny (model prog w) A (setAttr (.ref x) name v) Q E s:=by
 obtain ⟨de,bp,hl⟩:=I.look
 refine PySem.W.set_plain X bp hs (PySem.W.osa_open (s:={ s with toks:=s.toks + 1 }) (r:=none) X bp hp ht fun b=>?_)
 obtain ⟨cd,hc,gV⟩:=PySem.W.any_some hh
 have hx:s.heap.get? x=some ⟨.ref C,some aT,.plain,#[]⟩:=I.obj
 refine wpAny_bind (wpAny_pure (wpAny_bind (wpAny_bind (wpAny_loadPart hx (wpAny_bind (PySem.W.Looks.here (s:={ s with toks:=s.toks + 1 }) (PySem.W.looks_clsIn X hc) ?_))))))
 rw [gV]
 refine wpAny_pure (a:=some aT) (wpAny_bind (wpAny_pure (wpAny_bind ?_)))
 refine wpAny_nsSet1 (s:={ s with toks:=s.toks + 1 }) I.ns fun h' ux hs2=>?_
 obtain ⟨Xd,Wk,Wi,L0,LF,Lz⟩:=ux.count (PySem.Within.cons name v hw)
 refine wpAny_bind (wpAny_lookBehind L0 (by rw [LF]; exact pastItsLine_dict (Nat.le_trans Lz (by rw [List.length_cons]; omega))) ?_)
 exact wpAny_pure (h _ ⟨(hs2.2 _ (Ne.symm I.ne)).trans I.obj,ux,I.ne⟩ hs2)
theorem Pf {R:Result→Shared→Prop} {vs:List Value} {kw:List (Str×Value)} (X:K.In s.heap) (hm:PySem.W.makesIn K C=true)
  (hi:PySem.W.findIn K (.ref C) "__init__"=some (some (.ref f))) (hf:PySem.W.typeIn K (.ref f)=some (.type "function"))
  (h:codeAny (model prog w) (A.under (.builtin "type.__call__" ⟨.ref C::vs,kw⟩)) (.call (.ref f) ⟨.ref (s.heap.objs.size + 1)::vs,kw⟩) (PySem.W.InitBack (s.heap.objs.size + 1) R)
    { s with heap:=(s.heap.push PySem.W.emptyDict).push (PySem.W.instObj C s.heap.objs.size) }) :
  codeAny (model prog w) A (.call (.ref C) ⟨vs,kw⟩) R s:=by
 obtain ⟨hh,g,d,t,os⟩:=s
 exact PySem.W.make_core (PySem.W.makes_of X hm) (PySem.W.looks_findIn X hi) (fun self=>PySem.W.bind_fn X self hf) (.inl rfl) h
end
noncomputable def gw (f:Str) (v:V):List (Str×V)→List (Str×V)
 | []=>[(f,v)]
 | (g,x)::r=>if g=f then (g,v)::r else (g,x)::gw f v r
theorem EM (f g:Str) (v:V):∀aO:List (Str×V),(gw f v aO).lookup g=if g=f then some v else aO.lookup g
 | []=>by
   show List.lookup g [(f,v)]=_
   by_cases h:g=f
   · have hb:(g == f)=true:=beq_iff_eq.mpr h
     simp only [List.lookup,hb,if_pos h]
   · have hb:(g == f)=false:=beq_eq_false_iff_ne.mpr h
     simp only [List.lookup,hb,if_neg h]
 | (k,x)::r=>by
   have b8:=EM f g v r
   rw [show gw f v ((k,x)::r)=(if k=f then (k,v)::r else (k,x)::gw f v r) from rfl]
   by_cases hk:k=f
   · rw [if_pos hk]
     by_cases h:g=k
     · have hb:(g == k)=true:=beq_iff_eq.mpr h
       simp only [List.lookup,hb,if_pos (h.trans hk)]
     · have hb:(g == k)=false:=beq_eq_false_iff_ne.mpr h
       simp only [List.lookup,hb,if_neg (fun e:g=f=>h (e.trans hk.symm))]
   · rw [if_neg hk]
     by_cases h:g=k
     · have hb:(g == k)=true:=beq_iff_eq.mpr h
       simp only [List.lookup,hb,if_neg (fun e:g=f=>hk (h.symm.trans e))]
     · have hb:(g == k)=false:=beq_eq_false_iff_ne.mpr h
       simp only [List.lookup,hb]
       exact b8
theorem yF (f:Str) (v:V):∀aO:List (Str×V),f∈(gw f v aO).map (·.1)∧∀g,g∈aO.map (·.1)→g∈(gw f v aO).map (·.1)
 | []=>⟨by simp [gw],fun g h=>by simp at h⟩
 | (k,x)::r=>by
   obtain ⟨bL,bB⟩:=yF f v r
   rw [show gw f v ((k,x)::r)=(if k=f then (k,v)::r else (k,x)::gw f v r) from rfl]
   by_cases hk:k=f
   · rw [if_pos hk]
     subst hk
     exact ⟨by simp,fun g h=>by simpa using h⟩
   · rw [if_neg hk]
     refine ⟨?_,fun g h=>?_⟩
     · rw [List.map_cons]
       exact List.mem_cons_of_mem _ bL
     · rw [List.map_cons] at h ⊢
       rcases List.mem_cons.mp h with e | e
       · exact List.mem_cons.mpr (.inl e)
       · exact List.mem_cons_of_mem _ (bB g e)
theorem EI (f:Str) (v:V):∀aO:List (Str×V),(gw f v aO).length≤aO.length + 1
 | []=>by simp [gw]
 | (k,x)::r=>by
   have b8:=EI f v r
   rw [show gw f v ((k,x)::r)=(if k=f then (k,v)::r else (k,x)::gw f v r) from rfl]
   by_cases hk:k=f
   · rw [if_pos hk,List.length_cons,List.length_cons]; omega
   · rw [if_neg hk,List.length_cons,List.length_cons]; omega
theorem hj.some_of {v:V} {o:Option Value} (r:hj (some v) o):∃u,o=some u∧RelV v u:=by
 cases o with
 | none=>exact (show False from r).elim
 | some u=>exact ⟨u,rfl,r⟩
theorem hj.none_of {o:Option Value} (r:hj none o):o=none:=by
 cases o with
 | none=>rfl
 | some u=>exact (show False from r).elim
theorem Lw {v:V} {u:Value} (r:RelV v u):PySem.W.handedIn u=true:=by
 cases v with
 | non=>cases (show u=Value.none from r); rfl
 | au b=>cases (show u=Value.bool b from r); rfl
 | int i=>obtain ⟨t,e⟩:=(show ∃t,u=Value.int i t from r); cases e; rfl
 | str x=>obtain ⟨t,e⟩:=(show ∃t,u=Value.str x t from r); cases e; rfl
 | ky b=>obtain ⟨t,e⟩:=(show ∃t,u=Value.bytes b t from r); cases e; rfl
 | ua b=>obtain ⟨t,e⟩:=(show ∃t,u=Value.float b t from r); cases e; rfl
 | ref a=>cases (show u=Value.ref a from r); rfl
 | ty n=>cases (show u=Value.type n from r); rfl
section
variable {P:Program} {w:World} {H H':J} {h h':Heap} {a C aT:Addr} {aO Dq:List (Str×V)}
theorem yq (bk:dM P w H h) (e:H a=some (.ins C aT aO)):∃dk,nB h a aT C dk∧(∀f,hj (aO.lookup f) (dk f))∧PySem.Within dk (aO.map (·.1))∧aO.length≤1000∧H aT=some (.own a):=by
 obtain ⟨d,z,ne,aU,dk,n,r,q⟩:=(show en P w H h a (.ins C aT aO) from bk a _ e)
 exact ⟨dk,⟨aU,n,ne⟩,r,q,z,d⟩
end
structure iJ (K:PySem.W.Frag) (C:Addr):Prop where
 QZ:PySem.W.plainGet K C Str.empty=true
 hd:PySem.W.hasDictIn K C=true
 po:PySem.W.plainOver K C=true
 lP:PySem.W.findIn K (.ref C) "__setattr__"=some (some (.builtin "object.__setattr__"))
theorem iJ.get {K:PySem.W.Frag} {C:Addr} (c:iJ K C) (f:Str):PySem.W.plainGet K C f=true:=c.QZ
noncomputable def nA (K:PySem.W.Frag) (C:Addr) (f:Str):Prop:=PySem.W.findIn K (.ref C) f=some none
theorem nA.Uc {K:PySem.W.Frag} {C:Addr} {f:Str} (n:nA K C f):PySem.W.takerIn K C f=some none:=by
 unfold PySem.W.takerIn
 rw [show PySem.W.findIn K (.ref C) f=some none from n]
 rfl
structure Meth (K:PySem.W.Frag) (C:Addr) (m:Str) (f:Addr):Prop where
 at_:PySem.W.findIn K (.ref C) m=some (some (.ref f))
 fn:PySem.W.isFn K (.ref f)=true
 aC:PySem.W.keepIn K (.ref f)=true
section
variable {X:aG} {pins:List (Addr×Obj)} {σ :St} {H:J} {s:Shared} {a C aT:Addr} {aO:List (Str×V)} {f:Str} {v:V} {A:Around} {E:Value→Shared→Prop}
theorem Ln {b:Bool} {Q:Value→Shared→Prop} (I:Inv X pins σ H s) (e:H a=some (.ins C aT aO)) (c:iJ X.K C) (n:nA X.K C f) (l:aO.lookup f=some v)
  (h:∀u s',Inv X pins σ H s'→RelV v u→Q u s'):wpAny (model X.prog X.w) A (getAttr (.ref a) f b) Q E s:=by
 obtain ⟨dk,O,r,_,_,_⟩:=yq I.bk e
 obtain ⟨u,hu,ed⟩:=hj.some_of (v:=v) (o:=dk f) (by rw [←l]; exact r f)
 exact get_map I.eP O (c.get f) c.hd n hu (Lw ed) (h u _ (I.tok _) ed)
theorem Du {m:Str} {g:Addr} {pl:Sem Bool} {Q:Value×List Value→Shared→Prop} (I:Inv X pins σ H s) (e:H a=some (.ins C aT aO)) (c:iJ X.K C) (k:Meth X.K C m g) (l:aO.lookup m=none)
  (h:Q (.ref g,[.ref a]) s):wpAny (model X.prog X.w) A (getMethod (.ref a) m pl) Q E s:=by
 obtain ⟨dk,O,r,_,_,_⟩:=yq I.bk e
 have aN:dk m=none:=hj.none_of (by rw [←l]; exact r m)
 exact Lm I.eP O (c.get m) k.at_ k.fn aN h
theorem S2 {y:V} {u:Value} {Q:Unit→Shared→Prop} (I:Inv X pins σ H s) (e:H a=some (.ins C aT aO)) (c:iJ X.K C) (n:nA X.K C f) (hl:aO.length < 1000) (bT:RelV y u)
  (h:∀s',Inv X pins σ (upd H a (.ins C aT (gw f y aO))) s'→Q () s'):wpAny (model X.prog X.w) A (setAttr (.ref a) f u) Q E s:=by
 obtain ⟨dk,O,r,hJ,_,ho⟩:=yq I.bk e
 have a5:(aO.map (·.1)).length≤sizeLine:=by rw [List.length_map,sizeLine_eq]; omega
 refine S1 I.eP O c.lP c.po n.Uc c.hd hJ a5 fun h' wq ja=>h _ ?_
 have hd:∃o,h'.get? aT=some o:=let ⟨o,_,_,bY,_⟩:=wq.ns; ⟨o,bY⟩
 refine I.write (x:=a) (e:=aT) (by rw [e]; exact True.intro) (.inr ho) (fun b q hb z=>(ja.2 b hb).trans z) hd ?_
 refine ⟨by rw [cG O.ne]; exact ho,?_,O.ne,wq.obj,_,wq.ns,fun g=>?_,fun g hg=>?_⟩
 · have:=EI f y aO; omega
 · show hj ((gw f y aO).lookup g) (if g=f then some u else dk g)
   rw [EM]
   by_cases q:g=f
   · rw [if_pos q,if_pos q]; exact bT
   · rw [if_neg q,if_neg q]; exact r g
 · by_cases q:g=f
   · rw [q]; exact (yF f y aO).1
   · refine (yF f y aO).2 g (hJ g fun z=>hg ?_)
     show (if g=f then some u else dk g)=none
     rw [if_neg q]; exact z
theorem Inv.made (I:Inv X pins σ H s):Inv X pins σ (upd (upd H s.heap.objs.size (.own (s.heap.objs.size + 1))) (s.heap.objs.size + 1) (.ins C s.heap.objs.size []))
  { s with heap:=(s.heap.push PySem.W.emptyDict).push (PySem.W.instObj C s.heap.objs.size) }:=by
 have ah:(s.heap.push PySem.W.emptyDict).get? s.heap.objs.size=some PySem.W.emptyDict:=Heap.get?_push_size s.heap rfl
 have aw:((s.heap.push PySem.W.emptyDict).push (PySem.W.instObj C s.heap.objs.size)).get? (s.heap.objs.size + 1)=some (PySem.W.instObj C s.heap.objs.size):=by
  have:=Heap.get?_push_size (s.heap.push PySem.W.emptyDict) (o:=PySem.W.instObj C s.heap.objs.size) rfl
  rwa [Heap.size_push] at this
 have bK:(s.heap.push PySem.W.emptyDict).Ns s.heap.objs.size (fun _=>none):=⟨PySem.W.emptyDict,#[],_,ah,rfl,(fun e he=>absurd he (by simp)),fun _=>rfl⟩
 have aP:=I.laid (a:=s.heap.objs.size) (o:= .own (s.heap.objs.size + 1)) (h':=s.heap.push PySem.W.emptyDict) (t':=s.toks) (fun b u q=>Heap.get?_push_of_some _ q) (Nat.le_refl _) ⟨_,ah⟩
 refine aP.laid (a:=s.heap.objs.size + 1) (o:= .ins C s.heap.objs.size []) (t':=s.toks) (fun b u q=>Heap.get?_push_of_some _ q) (Nat.le_of_eq (Heap.size_push _ _)) ?_
 have ne:s.heap.objs.size≠s.heap.objs.size + 1:=Nat.ne_of_lt (Nat.lt_succ_self _)
 refine ⟨by rw [cG ne,dv],Nat.zero_le _,ne,aw,fun _=>none,(Heap.Ns1.of_empty bK).at fun o q=>Heap.get?_push_of_some _ q,fun _=>True.intro,fun y cg=>absurd rfl cg⟩
theorem II {prog:Program} {w:World} {env:Env} {e:Expr} {f:Str} {pos:Pos} {s:Shared} {Q:Value→Shared→Prop} (hb:attributeBase e f env (eval e env)=eval e env)
  (h:wpAny (model prog w) A (eval e env) (fun o cO=>wpAny (model prog w) A (getAttr o f true) Q E cO) E s):wpAny (model prog w) A (eval (.Attribute e f pos) env) Q E s:=
 Attribute_any_ h (by rw [arm_eval_Attribute,hb])
end
noncomputable def TG (K:PySem.W.Frag) (bW:TE) (f:Str):TE:=fun σ H Q=>bW σ H fun x H1=>∃a C aT aO v,x= .ref a∧H1 a=some (.ins C aT aO)∧iJ K C∧nA K C f∧aO.lookup f=some v∧Q v H1
noncomputable def R3 (K:PySem.W.Frag) (bW lV:TE) (f:Str):d5:=fun D σ H=>lV σ H fun y H1=>bW σ H1 fun x aH=>∃a C aT aO,x= .ref a∧aH a=some (.ins C aT aO)∧iJ K C∧nA K C f∧aO.length < 1000∧
 D.a9 σ (upd aH a (.ins C aT (gw f y aO)))
section
variable {X:aG} {o e value:Expr} {f:Str} {pos pos' sR:Pos} {bW lV:TE}
theorem QK (he:aS X e bW) (hb:attributeBase e f X.env (eval e X.env)=eval e X.env):aS X (.Attribute e f pos) (TG X.K bW f):=by
 intro pins s σ H Q I h
 refine II hb (bu (he pins s σ H _ I h) fun u s1 ⟨x,H1,aP,bh,a,C,aT,aO,v,ex,av,c,n,l,q⟩=>?_)
 subst ex
 obtain rfl:u=Value.ref a:=bh
 exact Ln aP av c n l fun g8 s2 bZ ed=>⟨v,H1,bZ,ed,q⟩
theorem Rd (ha:aS X o bW) (hv:aS X value lV) (hs:swapsWith value (some (.Attribute o f pos')) pos.line X.env=pure false):cK X (.Assign [.Attribute o f pos'] value pos) (R3 X.K bW lV f):=by
 intro pins s σ H D I h
 refine plainObj_wpAny_Assign_Attribute (bu (hv pins s σ H _ I h) fun u s1 ⟨y,H1,aP,bT,q⟩=>bu (ha pins s1 σ H1 _ aP q) fun dU s2 ⟨x,aH,bZ,bh,a,C,aT,aO,ex,av,c,n,l,bG⟩=>?_) hs
 subst ex
 obtain rfl:dU=Value.ref a:=bh
 exact S2 bZ av c n l bT fun s3 dC=>⟨σ,_,dC,bG⟩
theorem W9 {pl:Sem Bool} {m:Str} {apos:Pos} {args:List Expr} {pins:List (Addr×Obj)} {s:Shared} {σ :St} {H:J} {Q:Value→Shared→Prop} {te:TE} (he:aS X e te) (I:Inv X pins σ H s)
  (h:te σ H fun x H1=>∃a C aT aO g,x= .ref a∧H1 a=some (.ins C aT aO)∧iJ X.K C∧Meth X.K C m g∧aO.lookup m=none∧
    ∀s1,Inv X pins σ H1 s1→wpAny (model X.prog X.w) X.A (callWith pos (.ref g) [.ref a] (backTo pos (starEach args X.env)) (backToKw pos (keywordEach [] X.env))) Q X.xe s1)
  (ht:eval (.Call (.Attribute e m apos) args [] pos) X.env=(do
    let dU ←eval e X.env
    standAt apos.atName
    let (f,first) ←holding [dU] (getMethod dU m pl)
    callWith pos f first (backTo pos (starEach args X.env)) (backToKw pos (keywordEach [] X.env)))) :
  wpAny (model X.prog X.w) X.A (eval (.Call (.Attribute e m apos) args [] pos) X.env) Q X.xe s:=by
 refine PySem.W.methodCall_KW (pl:=pl) (bu (he pins s σ H _ I h) fun u s1 ⟨x,H1,aP,bh,a,C,aT,aO,g,ex,av,c,k,l,q⟩=>?_) ht
 subst ex
 obtain rfl:u=Value.ref a:=bh
 exact Du aP av c k l (q s1 aP)
end
section
variable {X:aG} {pins:List (Addr×Obj)} {σ :St} {H:J} {s:Shared} {A:Around} {E:Value→Shared→Prop} {Q:Value→Shared→Prop} {c:Value} {b:Bool}
end
end aZ
namespace aZ
open PySem PySem.Spec PyProof.Rows
structure cZ (k:Nat) (A:Around):Prop where
 hd:A.handled=none
 t4:A.depth + 3 * k + 5 < recursionLimit
 un:A.units + 16 * k + 200 < cLine
theorem cZ.mono {j k:Nat} {A:Around} (r:cZ k A) (h:j≤k):cZ j A:=⟨r.hd,by have:=r.t4; omega,by have:=r.un; omega⟩
theorem cZ.deeper {k:Nat} {A:Around} (r:cZ (k + 1) A) (env:Env):cZ k (A.deeper env):=
 ⟨r.hd,by have:=r.t4; show A.depth + 1 + 3 * k + 5 < _; omega,by have:=r.un; show A.units + 3 + 16 * k + 200 < _; omega⟩
theorem Pe {A:Around} {C:Addr} {us:List Value} {kw:List (Str×Value)}:(A.under (.builtin "type.__call__" ⟨.ref C::us,kw⟩)).depth=A.depth + 1:=by
 first | rfl | simp [Around.under,Code.weight,Code.isCreation,Code.isGuard,Code.isCaller,Code.frames,Code.isFrame,guardIds]
theorem Pg {A:Around} {C:Addr} {us:List Value} {kw:List (Str×Value)}:(A.under (.builtin "type.__call__" ⟨.ref C::us,kw⟩)).units=A.units + 1:=by
 first | rfl | simp [Around.under,Code.cUnits,Code.frames,Code.isFrame]
theorem cZ.make {k:Nat} {A:Around} (r:cZ (k + 1) A) (C:Addr) (us:List Value) (kw:List (Str×Value)):cZ k (A.under (.builtin "type.__call__" ⟨.ref C::us,kw⟩)):=
 ⟨r.hd,by have:=r.t4; rw [Pe]; omega,by have:=r.un; rw [Pg]; omega⟩
theorem cZ.depth {k:Nat} {A:Around} (r:cZ k A):A.depth < recursionLimit:=by have:=r.t4; omega
theorem cZ.units {k:Nat} {A:Around} (r:cZ k A):A.units + 64 < cLine:=by have:=r.un; omega
noncomputable def Az:eH:=fun _ H Q=>Q [] H
noncomputable def vA (bW:TE) (dm:eH):eH:=fun σ H Q=>bW σ H fun x H1=>dm σ H1 fun xs aH=>Q (x::xs) aH
section
variable {X:aG} {e:Expr} {ae:List Expr} {te:TE} {t:eH} {pos:Pos}
theorem lN:e8 X [] Az:=fun _ _ _ _ H Q I h=>Calls.spliced_nil ⟨[],H,I,.nil,h⟩
theorem i7 (ha:aS X e te) (hr:e8 X ae t) (hs:starEach (e::ae) X.env=(false,eval e X.env)::starEach ae X.env:=by rfl):e8 X (e::ae) (vA te t):=by
 intro pos pins s σ H Q I h
 rw [hs]
 show wpAny _ _ (spliced ((false,eval e X.env)::backTo pos (starEach ae X.env))) _ _ s
 refine Calls.spliced_cons (bu (ha pins s σ H _ I h) fun u s1 ⟨x,H1,aP,ao,aW⟩=>?_)
 exact bu (hr pos pins s1 σ H1 _ aP aW) fun us s2 ⟨xs,aH,bZ,a_,bG⟩=>⟨x::xs,aH,bZ,.cons ao a_,bG⟩
noncomputable def GO (t:eH):TE:=fun σ H Q=>t σ H fun xs H1=>xs.length≤sizeLine∧∀p,H1 p=none→Q (.ref p) (upd H1 p (.tup xs))
noncomputable def GC (t:eH):TE:=fun σ H Q=>t σ H fun xs H1=>xs.length≤sizeLine∧∀p,H1 p=none→Q (.ref p) (upd H1 p (.lst xs))
theorem QW {d2} (h:e8 X ae t):aS X (.Tuple ae d2 pos) (GO t):=by
 intro pins s σ H Q I aD
 refine wpAny_Tuple_spliced (bu (h pos pins s σ H _ I aD) fun us s1 ⟨xs,H1,aP,r,z,q⟩=>⟨by rw [←r.length]; exact z,?_⟩)
 have hf:H1 s1.heap.objs.size=none:=aP.bk.fresh (Nat.le_refl _)
 refine ⟨.ref s1.heap.objs.size,upd H1 s1.heap.objs.size (.tup xs),aP.laid (t':=s1.toks) (fun b u e=>Heap.get?_push_of_some _ e) (Nat.le_refl _) ?_,rfl,q _ hf⟩
 exact ⟨z,us,r,⟨_,Heap.get?_push_size _ rfl,rfl,_,rfl⟩⟩
theorem QN (h:e8 X ae t):aS X (.List ae pos) (GC t):=by
 intro pins s σ H Q I aD
 refine wpAny_List_spliced (bu (h pos pins s σ H _ I aD) fun us s1 ⟨xs,H1,aP,r,z,q⟩=>⟨by rw [←r.length]; exact z,?_⟩)
 have hf:H1 s1.heap.objs.size=none:=aP.bk.fresh (Nat.le_refl _)
 refine ⟨.ref s1.heap.objs.size,upd H1 s1.heap.objs.size (.lst xs),aP.laid (t':=s1.toks) (fun b u e=>Heap.get?_push_of_some _ e) (Nat.le_refl _) ?_,rfl,q _ hf⟩
 exact ⟨z,us,0,r,Heap.get?_push_size _ rfl⟩
end
noncomputable abbrev iv:=List V→J→b9→cM→Prop
noncomputable abbrev jd:=List Env→J→Shared→cM→Value→Shared→Prop
structure nu (P:Program) (w:World) (K:PySem.W.Frag) (mg:Str→Option Value) (base:Heap) (A:Around) (outer:List Env) (s:Shared) (H:J):Prop where
 frames:A.frames=some outer
 mod:Mod K mg base
 bs:∀b o,base.get? b=some o→s.heap.get? b=some o∧H b=none
 lj:base.objs.size≤s.heap.objs.size
 hX:s.heap.FunFrames base outer
 mD:∀b∈dN outer,H b=none
 bk:dM P w H s.heap
 bare:AllBare s.gens
noncomputable def wa (outer:List Env) (P:Program) (w:World) (H:J) (s:Shared) (Q:b9) (u:Value) (s':Shared):Prop:=
 ∃v H',s'.os=s.os∧AllBare s'.gens∧eI (dN outer) [] H H' s.heap s'.heap∧dM P w H' s'.heap∧RelV v u∧Q v H'
noncomputable def HZ (CX:jd) (outer:List Env) (P:Program) (w:World) (H:J) (s:Shared) (Q:b9) (E:cM) (r:Result) (s':Shared):Prop:=
 match r with
 | .ok (.ret u)=>wa outer P w H s Q u s'
 | .ok _=>False
 | .error e=>CX outer H s E e s'
structure gC (P:Program) (w:World) (K:PySem.W.Frag) (mg:Str→Option Value) (base:Heap) (CX:jd) (k:Nat) (f:Addr) (fd:FuncData) (aB:List Str) (sp:iv):Prop where
 len:∀vs H Q E,sp vs H Q E→vs.length=aB.length
 run:∀(A:Around) (outer:List Env) (s:Shared) (H:J) (args:Args) (us:List Value) (vs:List V) (Q:b9) (E:cM),cZ k A→nu P w K mg base A outer s H→BindsTo s fd args (aB.zip us)→Vals vs us→sp vs H Q E→
  codeAny (model P w) A (.call (.ref f) args) (HZ CX outer P w H s Q E) s
theorem nu.make {P:Program} {w:World} {K:PySem.W.Frag} {mg:Str→Option Value} {base:Heap} {A:Around} {outer:List Env} {s:Shared} {H:J} (e:nu P w K mg base A outer s H) (C:Addr) (us:List Value) (kw:List (Str×Value)) :
  nu P w K mg base (A.under (.builtin "type.__call__" ⟨.ref C::us,kw⟩)) outer s H:=⟨by first | exact e.frames | (simpa [Around.under,Code.envs,Code.isFrame,pushEnvs] using e.frames),e.mod,e.bs,e.lj,e.hX,e.mD,e.bk,e.bare⟩
section
variable {X:aG} {pins:List (Addr×Obj)} {σ :St} {H:J} {s s':Shared}
theorem Inv.xq (I:Inv X pins σ H s):nu X.prog X.w X.K X.mg X.base X.A X.stack s H:=
 ⟨I.ok.frames,I.ok.mod,I.bs,Nat.le_trans I.ok.lj I.jI,I.stack,I.Ao,I.bk,I.bare⟩
theorem Inv.after {Q:b9} {u:Value} (I:Inv X pins σ H s) (h:wa X.stack X.prog X.w H s Q u s'):ff X pins σ Q u s':=by
 obtain ⟨v,H',os,bare,un,bk,r,q⟩:=h
 obtain ⟨hh,g,d,t,Qs⟩:=s'
 obtain rfl:Qs=s.os:=os
 exact ⟨v,H',I.call (h':=hh) (g':=g) (d':=d) (t':=t) (ch:=[]) un bk bare (fun b z=>absurd z (by simp)),r,q⟩
end
noncomputable def sJ (sp:iv) (gk:List V) (E:cM) (t:eH):TE:=fun σ H Q=>t σ H fun vs H1=>sp (vs ++ gk) H1 Q E
noncomputable def GF (C:Addr) (m:Str) (sp:iv) (gk:List V) (E:cM) (bW:TE) (t:eH):TE:=fun σ H Q=>bW σ H fun x H1=>∃a aT aO,x= .ref a∧H1 a=some (.ins C aT aO)∧aO.lookup m=none∧
 t σ H1 fun vs aH=>sp (x::(vs ++ gk)) aH Q E
noncomputable def GD (C:Addr) (sp:iv) (gk:List V) (E:cM) (t:eH):TE:=fun σ H Q=>t σ H fun vs H1=>∀x aT,H1 x=none→H1 aT=none→aT≠x→
 sp (.ref x::(vs ++ gk)) (upd (upd H1 aT (.own x)) x (.ins C aT [])) (fun v aH=>v= .non∧Q (.ref x) aH) E
noncomputable def Binds (K:PySem.W.Frag) (fd:FuncData) (aB:List Str) (ds:List Value):Prop:=
 ∀(s:Shared) (us:List Value),K.In s.heap→(us ++ ds).length=aB.length→BindsTo s fd ⟨us,[]⟩ (aB.zip (us ++ ds))
theorem Binds.all {K:PySem.W.Frag} {fd:FuncData} {aB:List Str} (h:∀us:List Value,us.length=aB.length→bindArgs fd ⟨us,[]⟩=pure (aB.zip us)):Binds K fd aB []:=fun s us _ hl=>by
 rw [List.append_nil] at hl ⊢
 exact .of_eq (h us hl)
noncomputable def Passes (CX:jd) (X:aG) (E:cM):Prop:=∀(pins:List (Addr×Obj)) (σ :St) (H:J) (s:Shared) (e:Value) (s':Shared),Inv X pins σ H s→CX X.stack H s E e s'→X.xe e s'
section
variable {X:aG} {CX:jd} {k:Nat} {f C:Addr} {fd:FuncData} {aB:List Str} {sp:iv} {gk:List V} {ds:List Value} {E:cM} {x m:Str} {p pos apos:Pos} {e o:Expr} {ae:List Expr} {bW:TE} {t:eH}
theorem F2 {pins:List (Addr×Obj)} {σ :St} {H:J} {s:Shared} {Q:b9} {us:List Value} {vs:List V} (F:gC X.prog X.w X.K X.mg X.base CX k f fd aB sp) (hr:cZ k X.A) (hb:Binds X.K fd aB ds) (hd:Vals gk ds) (hx:Passes CX X E)
  (I:Inv X pins σ H s) (r:Vals vs us) (h:sp (vs ++ gk) H Q E):wpAny (model X.prog X.w) X.A (call (.ref f) us) (ff X pins σ Q) X.xe s:=by
 have a_:Vals (vs ++ gk) (us ++ ds):=r.append hd
 have hl:(us ++ ds).length=aB.length:=by rw [←a_.length]; exact F.len _ _ _ _ h
 refine wpAny_call (codeAny_mono (F.run X.A X.stack s H ⟨us,[]⟩ (us ++ ds) (vs ++ gk) Q E hr I.xq (hb s us I.eP hl) a_ h) fun r s' aD=>?_)
 cases r with
 | error e=>exact hx pins σ H s e s' I aD
 | ok e2=>
   cases e2 with
   | ret u=>exact I.after aD
   | next=>exact False.elim aD
   | brk=>exact False.elim aD
   | cont=>exact False.elim aD
theorem zc (F:gC X.prog X.w X.K X.mg X.base CX k f fd aB sp) (hr:cZ k X.A) (hg:cv X x) (hm:X.mg x=some (.ref f)) (hk:PySem.W.keepIn X.K (.ref f)=true) (hb:Binds X.K fd aB ds) (hd:Vals gk ds) (hx:Passes CX X E)
  (ha:e8 X (e::ae) t) (hdb:(x == ("__debug__" :Str))=false:=by decide) (he:starEach (e::ae) X.env=(false,eval e X.env)::starEach ae X.env:=by rfl) (hpl:(backTo pos (starEach ae X.env)).any (·.1)=false:=by rfl) :
  aS X (.Call (.Name x p) (e::ae) [] pos) (sJ sp gk E t):=by
 intro pins s σ H Q I h
 refine wpAny_Call_Name_kw (pJ I hg hm ?_ hdb)
 refine PySem.W.callWith_K (h₀:=X.base) I.ok.mod.lD hk (bu (ha pos pins s σ H _ I h) fun us s1 ⟨vs,H1,aP,r,q⟩=>⟨aP.eP,?_⟩) he hpl
 exact F2 F hr hb hd hx aP r q
theorem QP {pl:Sem Bool} (he:aS X o bW) (c:iJ X.K C) (hm:Meth X.K C m f) (F:gC X.prog X.w X.K X.mg X.base CX k f fd aB sp) (hr:cZ k X.A) (hb:Binds X.K fd aB ds) (hd:Vals gk ds) (hx:Passes CX X E) (ha:e8 X (e::ae) t)
  (hst:starEach (e::ae) X.env=(false,eval e X.env)::starEach ae X.env:=by rfl) (hpl:(backTo pos (starEach ae X.env)).any (·.1)=false:=by rfl)
  (ht:eval (.Call (.Attribute o m apos) (e::ae) [] pos) X.env=(do
    let dU ←eval o X.env
    standAt apos.atName
    let (f,first) ←holding [dU] (getMethod dU m pl)
    callWith pos f first (backTo pos (starEach (e::ae) X.env)) (backToKw pos (keywordEach [] X.env))):=by rfl) :
  aS X (.Call (.Attribute o m apos) (e::ae) [] pos) (GF C m sp gk E bW t):=by
 intro pins s σ H Q I h
 refine PySem.W.methodCall_KW (pl:=pl) (bu (he pins s σ H _ I h) fun u s1 ⟨x,H1,aP,bh,a,aT,aO,ex,av,l,q⟩=>?_) ht
 subst ex
 obtain rfl:u=Value.ref a:=bh
 refine Du aP av c hm l ?_
 refine PySem.W.callWith_K (first:=[.ref a]) (h₀:=X.base) I.ok.mod.lD hm.aC (bu (ha pos pins s1 σ H1 _ aP q) fun us s2 ⟨vs,aH,bZ,r,bG⟩=>⟨bZ.eP,?_⟩) hst hpl
 exact F2 (us:= .ref a::us) (vs:= .ref a::vs) F hr hb hd hx bZ (.cons rfl r) bG
structure tA (K:PySem.W.Frag) (C f:Addr):Prop where
 makes:PySem.W.makesIn K C=true
 init:PySem.W.findIn K (.ref C) "__init__"=some (some (.ref f))
 fn:PySem.W.isFn K (.ref f)=true
 aC:PySem.W.keepIn K (.ref C)=true
theorem RX {pins:List (Addr×Obj)} {σ :St} {H:J} {s:Shared} {Q:b9} {us:List Value} {vs:List V} (M:tA X.K C f) (F:gC X.prog X.w X.K X.mg X.base CX k f fd aB sp) (hr:cZ (k + 1) X.A) (hb:Binds X.K fd aB ds) (hd:Vals gk ds)
  (hx:Passes CX X E) (I:Inv X pins σ H s) (r:Vals vs us)
  (h:∀x aT,H x=none→H aT=none→aT≠x→sp (.ref x::(vs ++ gk)) (upd (upd H aT (.own x)) x (.ins C aT [])) (fun v aH=>v= .non∧Q (.ref x) aH) E) :
  wpAny (model X.prog X.w) X.A (call (.ref C) us) (ff X pins σ Q) X.xe s:=by
 have aD:=h (s.heap.objs.size + 1) s.heap.objs.size (I.bk.fresh (Nat.le_succ _)) (I.bk.fresh (Nat.le_refl _)) (Nat.ne_of_lt (Nat.lt_succ_self _))
 have bZ:=Inv.made (C:=C) I
 have a_:Vals (V.ref (s.heap.objs.size + 1)::(vs ++ gk)) (Value.ref (s.heap.objs.size + 1)::(us ++ ds)):= .cons rfl (r.append hd)
 have hl:(Value.ref (s.heap.objs.size + 1)::us ++ ds).length=aB.length:=by
  have e:=a_.length
  rw [F.len _ _ _ _ aD] at e
  exact e.symm
 refine wpAny_call (Pf (f:=f) I.eP M.makes M.init (beq_iff_eq.mp M.fn) (codeAny_mono (F.run _ X.stack _ _ ⟨Value.ref (s.heap.objs.size + 1)::us,[]⟩ (Value.ref (s.heap.objs.size + 1)::(us ++ ds)) _ _ E (hr.make C us [])
  (bZ.xq.make C us []) (hb _ (Value.ref (s.heap.objs.size + 1)::us) bZ.eP hl) a_ aD) fun r s' j5=>?_))
 cases r with
 | error e=>exact hx pins σ _ _ e s' bZ j5
 | ok e2=>
   cases e2 with
   | ret u=>
     obtain ⟨v,H',dC,bN,ev,er⟩:=bZ.after j5
     subst ev
     exact ⟨bN,⟨V.ref (s.heap.objs.size + 1),H',dC,rfl,er⟩⟩
   | next=>exact False.elim j5
   | brk=>exact False.elim j5
   | cont=>exact False.elim j5
theorem QO (M:tA X.K C f) (F:gC X.prog X.w X.K X.mg X.base CX k f fd aB sp) (hr:cZ (k + 1) X.A) (hg:cv X x) (hm:X.mg x=some (.ref C)) (hb:Binds X.K fd aB ds) (hd:Vals gk ds) (hx:Passes CX X E)
  (ha:e8 X (e::ae) t) (hdb:(x == ("__debug__" :Str))=false:=by decide) (he:starEach (e::ae) X.env=(false,eval e X.env)::starEach ae X.env:=by rfl) (hpl:(backTo pos (starEach ae X.env)).any (·.1)=false:=by rfl) :
  aS X (.Call (.Name x p) (e::ae) [] pos) (GD C sp gk E t):=by
 intro pins s σ H Q I h
 refine wpAny_Call_Name_kw (pJ I hg hm ?_ hdb)
 refine PySem.W.callWith_K (h₀:=X.base) I.ok.mod.lD M.aC (bu (ha pos pins s σ H _ I h) fun us s1 ⟨vs,H1,aP,r,q⟩=>⟨aP.eP,?_⟩) he hpl
 exact RX M F hr hb hd hx aP r q
end
section
variable {X:aG} {CX:jd} {k:Nat} {f C:Addr} {fd:FuncData} {aB ks:List Str} {sp:iv} {E:cM} {x m:Str} {p pos apos WO:Pos} {e o:Expr} {ae:List Expr} {WR:List Keyword} {te bW:TE} {t cR:eH} {nm:Option Str}
variable {g:List Value→List Value→List Value} {Wy:List V→List V→List V}
end
structure cP (N P:List Str) (sc:Scope):Prop where
 kind:sc.kind= .function
 co:sc.isCoroutine=false
 gen:sc.isGenerator=false
 bF:N.Nodup
 pre:N.take P.length=P
 par:∀x∈P,sc.names.lookup x=some .local∨sc.names.lookup x=some .cell
 PK:∀y∈sc.names,y.2≠ .free
theorem BP {kindOf:Str→Option NameKind} {x:Str}:∀{binds:List (Str×Value)} {m:Str→Option Value},(∀v,(x,v)∉binds)→bindL kindOf binds m x=m x
 | [],_,_=>rfl
 | (n,v)::r,m,h=>by
   unfold bindL
   rw [BP fun w hw=>h w (List.mem_cons_of_mem _ hw)]
   split
   · have:x≠n:=by rintro rfl; exact h v List.mem_cons_self
     simp [this]
   · rfl
theorem BN {kindOf:Str→Option NameKind} {x:Str}:∀{binds:List (Str×Value)} {m:Str→Option Value},(∀v,(x,v)∉binds)→bindC kindOf binds m x=m x
 | [],_,_=>rfl
 | (n,v)::r,m,h=>by
   unfold bindC
   rw [BN fun w hw=>h w (List.mem_cons_of_mem _ hw)]
   split
   · rfl
   · have:x≠n:=by rintro rfl; exact h v List.mem_cons_self
     simp [this]
theorem BO {kindOf:Str→Option NameKind} {x:Str} {v:Value}:∀{P:List Str} {vs:List Value} {i:Nat} {m:Str→Option Value},P.Nodup→P[i]? =some x→vs[i]? =some v→kindOf x=some .local→
  bindL kindOf (P.zip vs) m x=some v
 | [],_,_,_,_,h,_,_=>by simp at h
 | _::_,[],_,_,_,_,h,_=>by simp at h
 | p::P,w::vs,0,m,bF,h1,h2,hk=>by
   simp at h1 h2; subst h1; subst h2
   show bindL kindOf ((p,w)::P.zip vs) m p=_
   unfold bindL
   rw [BP fun v hv=>(List.nodup_cons.mp bF).1 (List.of_mem_zip hv).1,if_pos hk]
   simp
 | p::P,w::vs,i + 1,m,bF,h1,h2,hk=>by
   show bindL kindOf ((p,w)::P.zip vs) m x=_
   unfold bindL
   exact BO (i:=i) (List.nodup_cons.mp bF).2 (by simpa using h1) (by simpa using h2) hk
theorem BM {kindOf:Str→Option NameKind} {x:Str} {v:Value}:∀{P:List Str} {vs:List Value} {i:Nat} {m:Str→Option Value},P.Nodup→P[i]? =some x→vs[i]? =some v→kindOf x≠some .local→
  bindC kindOf (P.zip vs) m x=some v
 | [],_,_,_,_,h,_,_=>by simp at h
 | _::_,[],_,_,_,_,h,_=>by simp at h
 | p::P,w::vs,0,m,bF,h1,h2,hk=>by
   simp at h1 h2; subst h1; subst h2
   show bindC kindOf ((p,w)::P.zip vs) m p=_
   unfold bindC
   rw [BN fun v hv=>(List.nodup_cons.mp bF).1 (List.of_mem_zip hv).1,if_neg hk]
   simp
 | p::P,w::vs,i + 1,m,bF,h1,h2,hk=>by
   show bindC kindOf ((p,w)::P.zip vs) m x=_
   unfold bindC
   exact BM (i:=i) (List.nodup_cons.mp bF).2 (by simpa using h1) (by simpa using h2) hk
noncomputable def start (N:List Str) (vs:List V):St:=vs.map some ++ List.replicate (N.length - vs.length) none
noncomputable def eo (CX:jd) (P:Program) (w:World) (K:PySem.W.Frag) (mg:Str→Option Value) (base:Heap) (N:List Str) (qual:Str) (scope:Scope) (f:Addr) (cd:Value) (A:Around) (outer:List Env) (s:Shared) (H:J) (E:cM):aG where
 prog:=P
 w:=w
 K:=K
 mg:=mg
 base:=base
 A:=A.deeper (envOfC qual scope s.heap.objs.size f cd)
 N:=N
 eD:=s
 nv:=H
 env:=envOfC qual scope s.heap.objs.size f cd
 outer:=outer
 stack:=envOfC qual scope s.heap.objs.size f cd::outer
 ex:=[]
 calm:=true
 fn:=fun _=>true
 mZ:=[]
 xe:=fun e s'=>wpAny (model P w) (A.deeper (envOfC qual scope s.heap.objs.size f cd)) (leaving (envOfC qual scope s.heap.objs.size f cd) e) (fun _ i_=>CX outer H s E e i_) (fun bY i_=>CX outer H s E bY i_) s'
theorem B0 {sc:Scope} {n:Nat} {x:Str} (h:sc.names.lookup x=some .cell):∃c,(cellsFrom n sc.names []).lookup x=some c:=by
 have q:=PySem.W.cellsFrom_some sc.names n [] (.inl h)
 exact Option.isSome_iff_exists.mp q
theorem Nr {CX:jd} {P:Program} {w:World} {K:PySem.W.Frag} {mg:Str→Option Value} {base:Heap} {N aB:List Str} {qual:Str} {scope:Scope} {f:Addr} {cd:Value} {A:Around} {outer:List Env} {s s1:Shared} {H:J} {E:cM} {us:List Value} {vs:List V}
  (S:cP N aB scope) (hd:A.handled=none) (ct:nu P w K mg base A outer s H) (hl:vs.length=aB.length) (r:Vals vs us)
  (x:InCallC s s.heap.objs.size (bindL (envOfC qual scope s.heap.objs.size f cd).kindOf (aB.zip us) fun _=>none) (cellsFrom (s.heap.objs.size + 1) scope.names []) (bindC (envOfC qual scope s.heap.objs.size f cd).kindOf (aB.zip us) fun _=>none) s1) :
  Inv (eo CX P w K mg base N qual scope f cd A outer s H E) [] (start N vs) H s1:=by
 have hpl:aB.length≤N.length:=by have:=congrArg List.length S.pre; rw [List.length_take] at this; omega
 obtain ⟨h1,cR,rfl,hk⟩:=x.done
 have sb:∀b:Addr,b∉(eo CX P w K mg base N qual scope f cd A outer s H E).ex:=fun b z=>absurd (show b∈([]:List Addr) from z) (by simp)
 refine ⟨⟨ct.mod,S.kind,rfl,rfl,Nat.le_refl _,fun y z c h1 h2=>?_,fun y cg=>?_,fun y c _ h=>?_,fun _=>hd,Around.frames_deeper ct.frames,.inr ⟨rfl,rfl⟩,fun b z=>absurd z (sb b),ct.bs,ct.lj,fun b _ _=>sb b,fun b z=>absurd z (sb b),ct.hX,ct.mD⟩,
  rfl,ct.bare,eI.kept hk,⟨_,x.toInCall.ns,fun i y v h1 h2 h3=>?_⟩,fun y c h=>⟨_,x.cell y c h⟩,ct.bk.fresh (Nat.le_refl _),fun y c h=>?_,fun p hp=>absurd (show p∈([]:List (Addr×Obj)) from hp) (by simp),ct.bk.kept hk,?_⟩
 · exact name_of_addr x.apart (PySem.mem_of_lookup h1) (PySem.mem_of_lookup h2)
 · have cg:scope.names.lookup y=some .cell∨scope.names.lookup y=some .free:=cg
   rcases cg with cg | cg
   · exact B0 cg
   · exact absurd rfl (S.PK _ (PySem.mem_of_lookup cg))
 · exact Nat.le_of_lt (x.above y c (PySem.mem_of_lookup h))
 · have hi:i < vs.length:=by
    unfold start at h2
    by_cases hi:i < vs.length
    · exact hi
    · rw [List.getElem?_append_right (by simpa using hi)] at h2
      rw [List.getElem?_replicate] at h2
      split at h2 <;> cases h2
   have ha:vs[i]? =some v:=by
    unfold start at h2
    rw [List.getElem?_append_left (by simpa using hi),List.getElem?_map] at h2
    cases e:vs[i]? with
    | none=>rw [e] at h2; cases h2
    | some a=>rw [e] at h2; cases h2; rfl
   obtain ⟨u,hu,bN⟩:=r.get ha
   have hp:aB[i]? =some y:=by
    rw [←S.pre,List.getElem?_take_of_lt (by omega)]; exact h1
   have E4:aB.Nodup:=by rw [←S.pre]; exact S.bF.sublist (List.take_sublist _ _)
   refine ⟨u,bN,?_⟩
   rcases S.par y (List.mem_of_getElem? hp) with k | k
   · exact .inl ⟨k,BO E4 hp hu k⟩
   · obtain ⟨c,e⟩:=B0 (n:=s.heap.objs.size + 1) k
     refine .inr ⟨.inl k,c,e,?_⟩
     have q:=x.cell y c e
     rw [BM E4 hp hu (by show scope.names.lookup y≠_; rw [k]; decide)] at q
     exact q
 · exact ct.bk.fresh (Nat.le_of_lt (x.above y c (PySem.mem_of_lookup h)))
 · unfold start
   show _=N.length
   rw [List.length_append,List.length_map,List.length_replicate]
   omega
theorem Dl {CX:jd} {P:Program} {w:World} {K:PySem.W.Frag} {mg:Str→Option Value} {base:Heap} {k:Nat} {f:Addr} {name qual:Str} {params:Arguments} {body:List Stmt} {scope:Scope} {tY cE doc pm bX cj eL:Value} {an de:Option Addr}
  {kf:Array (Option Value)} {N aB:List Str} {sp:iv} (lk:K.lookup f=some ⟨eL,de,.func (PySem.W.fnOf name qual params body scope tY cE doc pm an bX cj),kf⟩) (hcd:PySem.W.codeIn K bX qual=true) (S:cP N aB scope)
  (len:∀vs H Q E,sp vs H Q E→vs.length=aB.length)
  (xU:∀(A:Around) (outer:List Env) (s:Shared) (H:J) (vs:List V) (Q:b9) (E:cM),cZ k (A.deeper (envOfC qual scope s.heap.objs.size f bX))→sp vs H Q E→
    ∃t,e9 (eo CX P w K mg base N qual scope f bX A outer s H E) body t∧t { a9:=fun _ H'=>Q .non H',dF:=Q } (start N vs) H) :
  gC P w K mg base CX (k + 1) f (PySem.W.fnOf name qual params body scope tY cE doc pm an bX cj) aB sp:=by
 refine ⟨len,fun A outer s H args us vs Q E hr ct hb r mL=>?_⟩
 have hl:=len _ _ _ _ mL
 have jT:K.In s.heap:=ct.mod.lD.keeps fun b o e=>(ct.bs b o e).1
 have lim:s.heap.NoLimit:=ct.mod.nolimit.keeps fun b o e=>(ct.bs b o e).1
 have LS:∀y∈aB.zip us,scope.names.lookup y.1=some .local∨(scope.names.lookup y.1=some .cell∧((cellsFrom (s.heap.objs.size + 1) scope.names []).lookup y.1).isSome=true):=fun ⟨n,v⟩ cg=>by
  rcases S.par n (List.of_mem_zip cg).1 with q | q
  · exact .inl q
  · exact .inr ⟨q,PySem.W.cellsFrom_some _ _ _ (.inl q)⟩
 refine codeAny_call_function hr.depth (jT _ _ lk) rfl S.co S.gen rfl (PySem.W.codeRec_of jT hcd) (hb _ _ _ _ ?_)
 refine wpAny_newFunctionEnv_cells S.kind LS fun env he s1 x=>?_
 subst he
 refine ⟨lim.keeps x.toInCall.keep,codeAny_func ?_⟩
 obtain ⟨t,ht,aD⟩:=xU A outer s H vs Q E (hr.deeper _) mL
 have I:Inv (eo CX P w K mg base N qual scope f bX A outer s H E) [] (start N vs) H s1:=Nr S hr.hd ct hl r x
 refine wpAny_mono (ht [] s1 (start N vs) H _ I aD) (fun e2 s' hs=>?_) fun e s' hs=>hs
 have fin:∀{σ' :St} {H':J} {v:V} {u:Value},Inv (eo CX P w K mg base N qual scope f bX A outer s H E) [] σ' H' s'→RelV v u→Q v H'→wa outer P w H s Q u s':=
  fun {σ' H' v u} bp bN q=>⟨v,H',bp.os,bp.bare,bp.base,bp.bk,bN,q⟩
 cases e2 with
 | ret u=>
   obtain ⟨v,σ',H',bp,bN,q⟩:=hs
   exact fin bp bN q
 | next=>
   obtain ⟨σ',H',bp,q⟩:=hs
   exact fin (v:=V.non) (u:=Value.none) bp rfl q
 | brk=>
   obtain ⟨_,_,_,q⟩:=hs
   exact False.elim q
 | cont=>
   obtain ⟨_,_,_,q⟩:=hs
   exact False.elim q
end aZ
namespace aZ
open PySem PySem.Spec PyProof.Rows
section
variable {X:aG} {x:Str} {p pos:Pos} {e:Expr} {ae:List Expr} {t:eH} {id T:String} {r:List V→J→b9→Prop}
noncomputable def sI (r:List V→J→b9→Prop) (t:eH):TE:=fun σ H Q=>t σ H fun vs H1=>r vs H1 Q
theorem sj (hc:gz X (.builtin id) r) (hg:cv X x) (hm:X.mg x=none) (hv:bootBuiltins x=some (.builtin id)) (ha:e8 X (e::ae) t) (aN:x≠"__name__":=by decide) (hdb:(x == ("__debug__" :Str))=false:=by decide)
  (he:starEach (e::ae) X.env=(false,eval e X.env)::starEach ae X.env:=by rfl) (hpl:(backTo pos (starEach ae X.env)).any (·.1)=false:=by rfl):aS X (.Call (.Name x p) (e::ae) [] pos) (sI r t):=by
 intro pins s σ H Q I h
 refine wpAny_Call_Name_kw (pI I hg hm hv ?_ aN hdb)
 exact PyProof.Rows.callWith_builtin1 (bu (ha pos pins s σ H _ I h) fun us s1 ⟨vs,H1,aP,ao,aW⟩=>hc pins s1 σ H1 vs us Q aP ao aW) he hpl
theorem zd (hc:gz X (.type T) r) (hg:cv X x) (hm:X.mg x=none) (hv:bootBuiltins x=some (.type T)) (ha:e8 X (e::ae) t) (aN:x≠"__name__":=by decide) (hdb:(x == ("__debug__" :Str))=false:=by decide)
  (he:starEach (e::ae) X.env=(false,eval e X.env)::starEach ae X.env:=by rfl) (hpl:(backTo pos (starEach ae X.env)).any (·.1)=false:=by rfl):aS X (.Call (.Name x p) (e::ae) [] pos) (sI r t):=by
 intro pins s σ H Q I h
 refine wpAny_Call_Name_kw (pI I hg hm hv ?_ aN hdb)
 exact PyProof.Rows.callWith_type1 (bu (ha pos pins s σ H _ I h) fun us s1 ⟨vs,H1,aP,ao,aW⟩=>hc pins s1 σ H1 vs us Q aP ao aW) he hpl
end
end aZ
namespace d3
open PySem PyProof.Rows
section
open PySem.SeqAt
open PySem.AutoSeq1 (wpAny_loadPart')
open PySem.MeetsSeq PySem.MeetsSeq2 PySem.MeetsSeq3
end
section
variable {prog:Program} {w:World} {A:Around} {E:Value→Shared→Prop} {s:Shared}
noncomputable def es (n d:Nat):Option Int→Nat
 | none=>d
 | some v=>if v < 0 then (v + (n:Int)).toNat else min v.toNat n
theorem R5 (n d k:Nat):es n d (some (k:Int))=min k n:=by
 show (if (k:Int) < 0 then ((k:Int) + (n:Int)).toNat else min (k:Int).toNat n)=min k n
 rw [if_neg (by omega),Int.toNat_natCast]
theorem F3 (n d:Nat) (hd:d≤n) (o:Option Int):es n d o≤n:=by
 cases o with
 | none=>exact hd
 | some v=>
   show (if v < 0 then (v + (n:Int)).toNat else min v.toNat n)≤n
   by_cases hv:v < 0
   · rw [if_pos hv]; omega
   · rw [if_neg hv]; exact Nat.min_le_right _ _
end
end d3
namespace aZ
open PySem PySem.Spec PyProof.Rows
noncomputable abbrev bO:=St→J→(Option Int→J→Prop)→Prop
noncomputable def oP (X:aG) (e:Option Expr) (t:bO):Prop:=
 ∀(pins:List (Addr×Obj)) (s:Shared) (σ :St) (H:J) (Q:Option Int→J→Prop),Inv X pins σ H s→t σ H Q→
  wpAny (model X.prog X.w) X.A (evalPart e X.env) (fun u s'=>∃o H',Inv X pins σ H' s'∧IsPart u o∧Q o H') X.xe s
noncomputable def TH:bO:=fun _ H Q=>Q none H
noncomputable def TJ (t:TE):bO:=fun σ H Q=>t σ H fun x H1=>∃i,x= .int i∧Q (some i) H1
section
variable {X:aG} {e:Expr} {te:TE} {lo hi:Option Expr} {f_ vC:bO} {pos bM:Pos}
theorem Q9:oP X none TH:=by
 intro pins s σ H Q I h
 rw [evalPart_none]
 exact wpAny_pure ⟨none,H,I,.none,h⟩
theorem Q_ (h:aS X e te):oP X (some e) (TJ te):=by
 intro pins s σ H Q I hw
 rw [evalPart_some]
 refine bu (h pins s σ H _ I hw) fun u s1 ⟨x,H1,aP,ao,aW⟩=>?_
 obtain ⟨i,rfl,q⟩:=aW
 obtain ⟨t,rfl⟩:=ao
 exact ⟨some i,H1,aP,.int i t,q⟩
noncomputable def nE (X:aG) (r:V→Option Int→Option Int→J→b9→Prop):Prop:=
 ∀(pins:List (Addr×Obj)) (s:Shared) (σ :St) (H:J) (x:V) (v jL jM:Value) (lo hi:Option Int) (cc:Addr) (Q:b9),Inv X pins σ H s→RelV x v→s.heap.IsSliceOf cc jL jM .none→IsPart jL lo→IsPart jM hi→r x lo hi H Q→
  ∃T id,typeLookup (.type T) "__getitem__"=pure (some (.builtin id))∧s.TypeIs v T∧wpAny (model X.prog X.w) X.A (getItem v (.ref cc)) (ff X pins σ Q) X.xe s
theorem nE.or {r a4:V→Option Int→Option Int→J→b9→Prop} (h:nE X r) (h':nE X a4):nE X (fun x lo hi H Q=>r x lo hi H Q∨a4 x lo hi H Q):=by
 intro pins s σ H x v jL jM lo hi cc Q I bh hs pl pu q
 rcases q with q | q
 · exact h pins s σ H x v jL jM lo hi cc Q I bh hs pl pu q
 · exact h' pins s σ H x v jL jM lo hi cc Q I bh hs pl pu q
noncomputable def GN (r:V→Option Int→Option Int→J→b9→Prop) (te:TE) (f_ vC:bO):TE:=fun σ H Q=>te σ H fun x H1=>f_ σ H1 fun l aH=>vC σ aH fun u cw=>r x l u cw Q
theorem QV {r:V→Option Int→Option Int→J→b9→Prop} (hr:nE X r) (he:aS X e te) (hl:oP X lo f_) (hu:oP X hi vC):aS X (.Subscript e (.Slice lo hi none bM) pos) (GN r te f_ vC):=by
 intro pins s σ H Q I h
 refine Subscript_ (bu (he pins s σ H _ I h) fun v s1 ⟨x,H1,aP,ao,aW⟩=>?_)
 refine wpAny_Slice (bu (hl pins s1 σ H1 _ aP aW) fun jL s2 ⟨l,aH,bZ,pl,bG⟩=>bu (hu pins s2 σ aH _ bZ bG) fun jM s3 ⟨u,cw,dC,pu,er⟩=>?_)
 rw [evalPart_none]
 refine wpAny_pure ?_
 have je:Inv X pins σ cw { s3 with heap:=s3.heap.push { cls:= .type "slice",data:= .fields #[jL,jM,.none] } }:=dC.kept (t':=s3.toks) fun b aU q=>Heap.get?_push_of_some _ q
 obtain ⟨T,id,ia,ht,hg⟩:=hr pins { s3 with heap:=s3.heap.push { cls:= .type "slice",data:= .fields #[jL,jM,.none] } } σ cw x v jL jM l u s3.heap.objs.size Q je ao (Heap.IsSliceOf.new ..) pl pu er
 show wpAny (model X.prog X.w) X.A (subscriptTail e (.Slice lo hi none bM) v (.ref s3.heap.objs.size)) (ff X pins σ Q) X.xe { s3 with heap:=s3.heap.push { cls:= .type "slice",data:= .fields #[jL,jM,.none] } }
 exact tail_any (ops:=[.ref s3.heap.objs.size,v]) ht ia hg (by with_unfolding_all rfl)
noncomputable def pk (xs:List V) (lo hi:Option Int):List V:=(xs.drop (d3.es xs.length 0 lo)).take (d3.es xs.length xs.length hi - d3.es xs.length 0 lo)
theorem Jw (xs:List V) (lo hi:Option Int):(pk xs lo hi).length≤xs.length:=by
 unfold pk
 rw [List.length_take,List.length_drop]
 omega
end
end aZ
namespace aZ
open PySem PySem.Spec PyProof.Rows
noncomputable def fN (n:Nat) (i:Int):Option Nat:=if 0≤i then (if i < n then some i.toNat else none) else if -(n:Int)≤i then some (i + n).toNat else none
noncomputable def eZ {α:Type} (xs:List α) (i:Int):Option α:=(fN xs.length i).bind fun j=>xs[j]?
theorem Ep {n:Nat} {i:Int} {j:Nat} (h:fN n i=some j):seqIndex? i n=some j∧j < n∧ -(n:Int)≤i∧i < n:=by
 unfold fN at h
 by_cases h0:0≤i
 · rw [if_pos h0] at h
   by_cases h1:i < n
   · rw [if_pos h1] at h
     have e:i.toNat=j:=Option.some.inj h
     exact ⟨by rw [seqIndex_of h0 h1,e],by omega,by omega,h1⟩
   · rw [if_neg h1] at h; cases h
 · rw [if_neg h0] at h
   by_cases h1: -(n:Int)≤i
   · rw [if_pos h1] at h
     have e:(i + n).toNat=j:=Option.some.inj h
     exact ⟨by rw [seqIndex_neg (by omega) h1,e],by omega,h1,by omega⟩
   · rw [if_neg h1] at h; cases h
theorem wK {α:Type} {xs:List α} {i:Int} {v:α} (h:eZ xs i=some v):∃j,seqIndex? i xs.length=some j∧xs[j]? =some v∧j < xs.length∧ -(xs.length:Int)≤i∧i < xs.length:=by
 unfold eZ at h
 cases e:fN xs.length i with
 | none=>rw [e] at h; cases h
 | some j=>
   rw [e] at h
   obtain ⟨h1,h2,h3,h4⟩:=Ep e
   exact ⟨j,h1,h,h2,h3,h4⟩
noncomputable def oQ (b:Expr):Prop:=∀o i,subscripted b false o i=operate [o,i] (getItem o i)
noncomputable def kZ (X:aG) (r:d4):Prop:=
 ∀(value slice:Expr) (pins:List (Addr×Obj)) (s:Shared) (σ :St) (H:J) (x y:V) (v u:Value) (Q:b9),Inv X pins σ H s→RelV x v→RelV y u→r x y H Q→
  subscripted slice false v u=operate [v,u] (getItem v u)→wpAny (model X.prog X.w) X.A (subscriptTail value slice v u) (ff X pins σ Q) X.xe s
noncomputable def Bj (X:aG) (id:String) (r:V→List V→J→b9→Prop):Prop:=
 ∀(pins:List (Addr×Obj)) (s:Shared) (σ :St) (H:J) (x:V) (xs:List V) (v:Value) (us:List Value) (Q:b9),Inv X pins σ H s→RelV x v→Vals xs us→r x xs H Q→
  wpAny (model X.prog X.w) X.A (call (.builtin id) (v::us)) (ff X pins σ Q) X.xe s
section
variable {X:aG} {a b:Expr} {bW tb:TE} {pos:Pos}
theorem kZ.or {r a4:d4} (h:kZ X r) (h':kZ X a4):kZ X (fun x y H Q=>r x y H Q∨a4 x y H Q):=by
 intro value slice pins s σ H x y v u Q I bh bT q hs
 rcases q with q | q
 · exact h value slice pins s σ H x y v u Q I bh bT q hs
 · exact h' value slice pins s σ H x y v u Q I bh bT q hs
theorem ze {r:d4} (hr:kZ X r) (ha:aS X a bW) (hb:aS X b tb) (hs:oQ b):aS X (.Subscript a b pos) (sL r bW tb):=by
 intro pins s σ H Q I h
 exact Subscript_ (w9 ha hb I h fun v u s2 x y aH bZ bh bT q=>hr a b pins s2 σ aH x y v u Q bZ bh bT q (hs _ _))
noncomputable def FR (K:PySem.W.Frag):d4:=fun x y H Q=>∃p xs i v,x= .ref p∧y= .int i∧bI K H p xs∧eZ xs i=some v∧Q v H
noncomputable def FU (K:PySem.W.Frag):d4:=fun x y H Q=>∃p xs i v,x= .ref p∧y= .int i∧cu K H p xs∧eZ xs i=some v∧Q v H
noncomputable def FT:d4:=fun x y H Q=>∃z i c,x= .str z∧y= .int i∧z.length≤sizeLine∧eZ z.cps.toList i=some c∧Q (.str ⟨#[c]⟩) H
theorem NI:kZ X (FR X.K):=by
 intro value slice pins s σ H x y v u Q I bh bT h hs
 obtain ⟨p,xs,i,z,rfl,rfl,aD,he,q⟩:=h
 cases bh
 obtain ⟨t,rfl⟩:=bT
 obtain ⟨its,r,pl,a5⟩:=I.list aD
 obtain ⟨j,h1,h2,h3,h4,h5⟩:=wK he
 obtain ⟨w,jk,sr⟩:=r.get h2
 have hl:=r.length
 have aN:=pL
 have fin:ff X pins σ Q w s:=⟨z,H,I,sr,q⟩
 by_cases h0:0≤i
 · have cD:i.toNat=j:=by
    rw [seqIndex_of h0 h5] at h1
    exact Option.some.inj h1
   exact item_listR pl.isList h0 (by omega) (by rw [cD]; simpa using jk) fin hs
 · have cD:(i + (its.toArray.size:Int)).toNat=j:=by
    rw [seqIndex_neg (by omega) h4] at h1
    rw [List.size_toArray,←hl]
    exact Option.some.inj h1
   exact subscriptTail_builtinR (x:=w) pl.isList.typeIs slot_list_getitem.lookup
    (wpAny_getItem_list_neg (Q:=fun r s'=>r=w∧ff X pins σ Q r s') pl.isList (by omega) (by rw [List.size_toArray] <;> omega) (by omega) (by rw [cD]; simpa using jk) ⟨rfl,fin⟩) hs
theorem NL:kZ X (FU X.K):=by
 intro value slice pins s σ H x y v u Q I bh bT h hs
 obtain ⟨p,xs,i,z,rfl,rfl,aD,he,q⟩:=h
 cases bh
 obtain ⟨t,rfl⟩:=bT
 obtain ⟨its,r,pl,a5⟩:=I.tuple aD
 obtain ⟨j,h1,h2,h3,h4,h5⟩:=wK he
 obtain ⟨w,jk,sr⟩:=r.get h2
 have hl:=r.length
 have aN:=pL
 have fin:ff X pins σ Q w s:=⟨z,H,I,sr,q⟩
 exact subscriptTail_builtinR (x:=w) pl.typeIs slot_tuple_getitem.lookup
  (getItem_tuple (j:=j) (Q:=fun r s'=>r=w∧ff X pins σ Q r s') pl (by omega) (by omega) (by rw [List.size_toArray,←hl]; exact h1) (by simpa using jk) ⟨rfl,fin⟩) hs
theorem NK:kZ X FT:=by
 intro value slice pins s σ H x y v u Q I bh bT h hs
 obtain ⟨z,i,c,rfl,rfl,a5,he,q⟩:=h
 obtain ⟨t,rfl⟩:=bh
 obtain ⟨t',rfl⟩:=bT
 obtain ⟨j,h1,h2,h3,h4,h5⟩:=wK he
 have hl:z.cps.toList.length=z.length:=by simp [Str.length]
 rw [hl] at h1 h4 h5
 have aN:=pL
 exact tail_any (typeIs_str s z t) slot_str_getitem.lookup (getItem_str (c:=c) (by
  have ah:decide (i < -(2 ^ 63:Int))=false:=decide_eq_false (by omega)
  have aw:decide (i≥2 ^ 63)=false:=decide_eq_false (by omega)
  rw [ah,aw,Bool.or_false]) (by rw [h1]; simpa using h2) ⟨.str ⟨#[c]⟩,H,I.tok _,⟨_,rfl⟩,q⟩) hs
noncomputable def FQ (K:PySem.W.Frag):d4:=fun x y H Q=>FR K x y H Q∨FU K x y H Q∨FT x y H Q
theorem yv:kZ X (FQ X.K):=NI.or (NL.or NK)
theorem Ph (its:List Value) (n j:Nat) (u:Value):Obj.mapSeq (·.setIfInBounds j u) { cls:= .type "list",data:= .seq its.toArray n }={ cls:= .type "list",data:= .seq (its.set j u).toArray n }:=by
 simp [Obj.mapSeq]
theorem Inv.lst {pins:List (Addr×Obj)} {σ :St} {H:J} {s:Shared} {p:Addr} {xs:List V} (I:Inv X pins σ H s) (h:H p=some (.lst xs)) :
  ∃(its:List Value) (n:Nat),Vals xs its∧s.heap.get? p=some { cls:= .type "list",data:= .seq its.toArray n }∧xs.length≤sizeLine:=by
 obtain ⟨z,its,n,r,e⟩:=I.bk p _ h
 exact ⟨its,n,r,e,z⟩
theorem Inv.O5 {pins:List (Addr×Obj)} {σ :St} {H:J} {s:Shared} {p:Addr} {xs ys:List V} {its its':List Value} {n oj:Nat} {f:Obj→Obj} (I:Inv X pins σ H s) (h:H p=some (.lst xs))
  (ho:s.heap.get? p=some { cls:= .type "list",data:= .seq its.toArray n }) (hf:f { cls:= .type "list",data:= .seq its.toArray n }={ cls:= .type "list",data:= .seq its'.toArray oj }) (r:Vals ys its') (a5:ys.length≤sizeLine) (t:Nat) :
  Inv X pins σ (upd H p (.lst ys)) { s with heap:=s.heap.update p f,toks:=t }:=by
 have e:(s.heap.update p f).get? p=some { cls:= .type "list",data:= .seq its'.toArray oj }:=by
  rw [Heap.get?_update_self f ho (by rw [hf] <;> rfl),hf]
 refine I.write (x:=p) (e:=p) (by rw [h]; trivial) (.inl rfl) (fun b u hb q=>(Heap.get?_update_other _ _ (Ne.symm hb)).trans q) ⟨_,e⟩ ?_
 exact ⟨a5,its',oj,r,e⟩
noncomputable def RG:V→V→V→J→(J→Prop)→Prop:=fun o i v H Q=>∃p xs k j,o= .ref p∧i= .int k∧H p=some (.lst xs)∧fN xs.length k=some j∧Q (upd H p (.lst (xs.set j v)))
theorem set_list:Bm X RG:=by
 intro pins s σ H o i v dU gY u Q I g5 RT bN h
 obtain ⟨p,xs,k,j,rfl,rfl,hp,cD,q⟩:=h
 cases g5
 obtain ⟨t,rfl⟩:=RT
 obtain ⟨its,n,r,ho,a5⟩:=I.lst hp
 obtain ⟨h1,h2,h3,h4⟩:=Ep cD
 have hl:=r.length
 have aN:=pL
 have ko:Inv X pins σ (upd H p (.lst (xs.set j v))) { s with heap:=s.heap.update p (Obj.mapSeq (·.setIfInBounds j u)) }:=
  I.O5 hp ho (Ph its n j u) (r.set bN j) (by rw [List.length_set]; exact a5) s.toks
 by_cases h0:0≤k
 · have hk:k.toNat=j:=by
    rw [seqIndex_of h0 h4] at h1
    exact Option.some.inj h1
   exact PySem.W.ki_setAt ho h0 (by omega) (by rw [List.size_toArray,←hl]; exact h4) (by rw [hk]; exact ⟨_,ko,q⟩)
 · have hk:(k + (its.toArray.size:Int)).toNat=j:=by
    rw [seqIndex_neg (by omega) h3] at h1
    rw [List.size_toArray,←hl]
    exact Option.some.inj h1
   exact PySem.W.ki_setBack ho (by omega) (by rw [List.size_toArray,←hl]; exact h3) (by omega) (by rw [hk]; exact ⟨_,ko,q⟩)
theorem Tc (lo hi:Option Int) (n:Nat):(sliceBounds lo hi none n).1=((d3.es n 0 lo:Nat):Int)∧(sliceBounds lo hi none n).2.1=((d3.es n n hi:Nat):Int)∧(sliceBounds lo hi none n).2.2=1:=by
 refine ⟨?_,?_,rfl⟩
 · cases lo with
   | none=>simp [sliceBounds,d3.es]
   | some i=>
     simp only [sliceBounds,d3.es,Option.getD_none,show (1:Int) > 0 by decide,if_true]
     by_cases h:i < 0
     · simp only [h,if_true] <;> omega
     · simp only [h,if_false] <;> omega
 · cases hi with
   | none=>simp [sliceBounds,d3.es]
   | some i=>
     simp only [sliceBounds,d3.es,Option.getD_none,show (1:Int) > 0 by decide,if_true]
     by_cases h:i < 0
     · simp only [h,if_true] <;> omega
     · simp only [h,if_false] <;> omega
theorem Tb (its:List Value) (lo hi:Option Int):slicePick its.toArray lo hi none=((its.drop (d3.es its.length 0 lo)).take (d3.es its.length its.length hi - d3.es its.length 0 lo)).toArray:=by
 obtain ⟨h1,h2,h3⟩:=Tc lo hi its.toArray.size
 unfold slicePick
 rw [h1,h2,h3]
 simp only [sliceRange_one,pick_run,List.size_toArray] <;> rfl
noncomputable def FW (K:PySem.W.Frag):V→Option Int→Option Int→J→b9→Prop:=fun x lo hi H Q=>∃a xs,x= .ref a∧bI K H a xs∧∀p,H p=none→Q (.ref p) (upd H p (.lst (pk xs lo hi)))
theorem S_:nE X (FW X.K):=by
 intro pins s σ H x v jL jM lo hi cc Q I bh hs pl pu h
 obtain ⟨a,xs,rfl,hx,q⟩:=h
 cases bh
 obtain ⟨its,r,ht,a5⟩:=I.list hx
 have hlen:=r.length
 refine ⟨"list",_,slot_list_getitem.lookup,ht.isList.typeIs,?_⟩
 refine wpAny_getItem_list_slice ht.isList hs pl pu .none (by simp) ?_ (by rw [List.size_toArray] <;> omega)
 rw [Tb,←hlen]
 refine ⟨.ref s.heap.objs.size,_,I.laid (t':=s.toks) (o:= .lst (pk xs lo hi)) (fun b aU q=>Heap.get?_push_of_some _ q) (Nat.le_refl _) ?_,rfl,q _ (I.bk.fresh (Nat.le_refl _))⟩
 exact ⟨Nat.le_trans (Jw xs lo hi) a5,_,0,(r.drop (d3.es xs.length 0 lo)).take (d3.es xs.length xs.length hi - d3.es xs.length 0 lo),Heap.get?_push_size _ rfl⟩
theorem gz.or {f:Value} {r a4:List V→J→b9→Prop} (h:gz X f r) (h':gz X f a4):gz X f (fun xs H Q=>r xs H Q∨a4 xs H Q):=by
 intro pins s σ H xs us Q I rs q
 rcases q with q | q
 · exact h pins s σ H xs us Q I rs q
 · exact h' pins s σ H xs us Q I rs q
theorem BZ:gz X (.type "list") (fun xs H Q=>∃p ys,xs=[.ref p]∧(bI X.K H p ys∨cu X.K H p ys)∧∀l,H l=none→Q (.ref l) (upd H l (.lst ys))):=by
 intro pins s σ H xs us Q I r h
 obtain ⟨p,ys,rfl,aD,q⟩:=h
 obtain ⟨u,rfl,bh⟩:=vals1 r
 cases bh
 have fin:∀(its:List Value),Vals ys its→ys.length≤sizeLine→∀(h':Heap) (fz:Nat),(∀b bC,s.heap.get? b=some bC→h'.get? b=some bC)→
   h'.get? s.heap.objs.size=some { cls:= .type "list",dict:=none,data:= .seq its.toArray fz,slots:= #[] }→ff X pins σ Q (.ref s.heap.objs.size) { s with heap:=h' }:=fun its a4 a5 h' fz aC e=>
  ⟨.ref s.heap.objs.size,_,I.laid (t':=s.toks) aC (Nat.le_refl _) (show en X.prog X.w _ h' _ (.lst ys) from ⟨a5,its,fz,a4,e⟩),rfl,q _ (I.bk.fresh (Nat.le_refl _))⟩
 rcases aD with aD | aD
 · obtain ⟨its,a4,pl,a5⟩:=I.list aD
   have hlen:=a4.length
   obtain ⟨o,ho,hc,n,hd⟩:=pl.isList
   exact call_list_seq p (.inl rfl) ho hc hd (fun h' fz aC e=>fin its a4 a5 h' fz aC e) (by simp only [List.size_toArray] <;> omega)
 · obtain ⟨its,a4,pl,a5⟩:=I.tuple aD
   have hlen:=a4.length
   obtain ⟨o,ho,hc,n,hd⟩:=pl
   exact call_list_seq p (.inr rfl) ho hc hd (fun h' fz aC e=>fin its a4 a5 h' fz aC e) (by simp only [List.size_toArray] <;> omega)
theorem Jj:gz X (.type "tuple") (fun xs H Q=>∃p ys,xs=[.ref p]∧((bI X.K H p ys∧∀l,H l=none→Q (.ref l) (upd H l (.tup ys)))∨(cu X.K H p ys∧Q (.ref p) H))):=by
 intro pins s σ H xs us Q I r h
 obtain ⟨p,ys,rfl,h⟩:=h
 obtain ⟨u,rfl,bh⟩:=vals1 r
 cases bh
 rcases h with ⟨aD,q⟩ | ⟨aD,q⟩
 · obtain ⟨its,a4,pl,a5⟩:=I.list aD
   have hlen:=a4.length
   refine call_tuple_list pl.isList (fun h' aC=>?_) (by simp only [List.size_toArray] <;> omega)
   have aP:Inv X pins σ H { s with heap:=h' }:=I.kept (t':=s.toks) aC
   have bZ:Inv X pins σ (upd H h'.objs.size (.tup ys)) { s with heap:=h'.push { cls:= .type "tuple",data:= .seq its.toArray } }:=
    aP.laid (t':=s.toks) (fun b o e=>Heap.get?_push_of_some _ e) (Nat.le_refl _) (show en X.prog X.w _ _ _ (.tup ys) from ⟨a5,its,a4,IsTup.new _ _⟩)
   exact ⟨.ref h'.objs.size,_,bZ,rfl,q _ (aP.bk.fresh (Nat.le_refl _))⟩
 · obtain ⟨its,a4,pl,a5⟩:=I.tuple aD
   exact call_tuple_same pl ⟨.ref p,H,I,rfl,q⟩
noncomputable def G7 (K:PySem.W.Frag) (T:String) (x:V) (H:J):Prop:=match x with
 | .str _=>T="str"
 | .int _=>T="int"
 | .ref p=>(T="list"∧∃xs,bI K H p xs)∨(T="tuple"∧∃o,K.lookup p=some o∧o.cls= .type "tuple"∧o.dict=none)∨
     (T="dict"∧((∃aQ,H p=some (.cL aQ))∨∃aQ,H p=some (.bx aQ)))∨(T="set"∧∃S n,H p=some (.set S n))
 | _=>False
theorem Ut {pins:List (Addr×Obj)} {σ :St} {H:J} {s:Shared} {T:String} {x:V} {v:Value} (I:Inv X pins σ H s) (r:RelV x v) (ty:G7 X.K T x H) :
  s.TypeIs v T∧∀a,v= .ref a→∃aU,s.heap.get? a=some aU∧aU.dict=none:=by
 cases x with
 | str z=>
   obtain ⟨t,rfl⟩:=r
   cases (show T="str" from ty)
   exact ⟨typeIs_str s z t,fun _ e=>nomatch e⟩
 | int i=>
   obtain ⟨t,rfl⟩:=r
   cases (show T="int" from ty)
   exact ⟨typeIs_int s i t,fun _ e=>nomatch e⟩
 | ref p=>
   cases r
   rcases ty with ⟨rfl,xs,aD⟩ | ⟨rfl,o,hk,hc,hd⟩ | ⟨rfl,hk⟩ | ⟨rfl,S,n,hk⟩
   · obtain ⟨its,_,pl,_⟩:=I.list aD
     refine ⟨pl.isList.typeIs,fun a e=>?_⟩
     cases e
     obtain ⟨o,n,e,c,hd,_⟩:=pl
     exact ⟨o,e,hd⟩
   · refine ⟨⟨o,I.eP p o hk,hc⟩,fun a e=>?_⟩
     cases e
     exact ⟨o,I.eP _ o hk,hd⟩
   · have z:∃o,s.heap.get? p=some o∧o.ExactDict:=by
      rcases hk with ⟨aQ,hk⟩ | ⟨aQ,hk⟩
      · obtain ⟨_,_,_,_,o,_,_,e,ex,_⟩:=I.bk p _ hk
        exact ⟨o,e,ex⟩
      · obtain ⟨_,_,_,_,o,_,_,e,ex,_⟩:=I.bk p _ hk
        exact ⟨o,e,ex⟩
     obtain ⟨o,e,ex⟩:=z
     refine ⟨⟨o,e,ex.1⟩,fun a aw=>?_⟩
     cases aw
     exact ⟨o,e,ex.2.1⟩
   · obtain ⟨o,_,_,_,e,ex,_⟩:=I.bk p _ hk
     refine ⟨⟨o,e,ex.1⟩,fun a aw=>?_⟩
     cases aw
     exact ⟨o,e,ex.2.1⟩
 | _=>exact False.elim ty
noncomputable def TB (K:PySem.W.Frag) (T:String) (r:V→List V→J→b9→Prop) (to:TE) (t:eH):TE:=fun σ H Q=>to σ H fun x H1=>G7 K T x H1∧t σ H1 fun xs aH=>r x xs aH Q
variable {o e:Expr} {ae:List Expr} {to:TE} {t:eH} {name:Str} {apos bS:Pos} {T id:String} {r:V→List V→J→b9→Prop}
theorem si (Qy:PlainAttrs T) (slot:Slot T name id) (Mi:typeOf (.builtin id)=pure (.type "method_descriptor")) (hm:Bj X id r) (ho:aS X o to) (ha:e8 X (e::ae) t)
  (hbase:attributeBase o name X.env (eval o X.env)=eval o X.env:=by rfl)
  (hfew:((backTo bS (starEach (e::ae) X.env)).all (fun x=> !x.1) && (backToKw bS (keywordEach [] X.env)).all (fun x=>x.1.isSome)
    && decide ((e::ae).length + ([]:List Keyword).length + (if ([]:List Keyword).isEmpty then 0 else 1) < 30))=true:=by rfl)
  (hline:(apos.endLine == bS.line)=true:=by rfl) (hs:starEach (e::ae) X.env=(false,eval e X.env)::starEach ae X.env:=by rfl) (hplain:(backTo bS (starEach ae X.env)).any (·.1)=false:=by rfl) :
  aS X (.Call (.Attribute o name apos) (e::ae) [] bS) (TB X.K T r to t):=by
 intro pins s σ H Q I h
 refine wpAny_Call_method_late hbase hfew hline rfl (bu (ho pins s σ H _ I h) fun v s1 ⟨x,H1,aP,ao,ty,aW⟩=>?_)
 obtain ⟨h1,h2⟩:=Ut aP ao ty
 refine ⟨T,id,Qy,slot,Mi,h1,h2,?_⟩
 have hZ:=ha bS pins s1 σ H1 _ aP aW
 rw [hs] at hZ ⊢
 refine Calls.callWith_builtin (by show (false || (backTo bS (starEach ae X.env)).any (·.1))=false; rw [hplain] <;> rfl) (Calls.evalArgs_plain ?_)
 exact bu hZ fun us s2 ⟨vs,aH,bZ,a_,bG⟩=>hm pins s2 σ aH x vs v us Q bZ ao a_ bG
end
end aZ
namespace aZ
open PySem PySem.Spec PyProof.Rows
noncomputable def wo (X:aG) (id:String) (r:V→List V→J→b9→Prop):Prop:=
 ∀(pins:List (Addr×Obj)) (s:Shared) (σ :St) (H:J) (x:V) (xs:List V) (v:Value) (us:List Value) (Q:b9),Inv X pins σ H s→RelV x v→Vals xs us→r x xs H Q→
  wpAny (model X.prog X.w) X.A (call (.builtin id) (v::us)) (ff X pins σ Q) X.xe s
theorem Vals.one:∀{x:V} {us:List Value},Vals [x] us→∃u,us=[u]∧RelV x u
 | _,_,.cons r .nil=>⟨_,rfl,r⟩
theorem Vals.eraseIdx:∀{xs:List V} {us:List Value} (i:Nat),Vals xs us→Vals (xs.eraseIdx i) (us.eraseIdx i)
 | _,_,_,.nil=> .nil
 | _,_,0,.cons _ t=>t
 | _,_,i + 1,.cons r t=> .cons r (Vals.eraseIdx i t)
theorem Vals.rep {xs:List V} {us:List Value} (h:Vals xs us):∀k:Nat,Vals (List.replicate k xs).flatten (List.replicate k us).flatten
 | 0=> .nil
 | k + 1=>by
   rw [List.replicate_succ,List.replicate_succ,List.flatten_cons,List.flatten_cons]
   exact Vals.append h (Vals.rep h k)
theorem foldl_rep (its:List Value):∀(k:Nat) (acc:List Value),
  List.foldl (fun d2 dP=>d2 ++ dP) acc.toArray (List.replicate k its.toArray)=(acc ++ (List.replicate k its).flatten).toArray
 | 0,acc=>by simp
 | k + 1,acc=>by
   have e:acc.toArray ++ its.toArray=(acc ++ its).toArray:=by simp
   have aw:(acc ++ its) ++ (List.replicate k its).flatten=acc ++ (List.replicate (k + 1) its).flatten:=by
    rw [List.replicate_succ,List.flatten_cons,List.append_assoc]
   rw [←aw,←foldl_rep its k (acc ++ its),←e,List.replicate_succ,List.foldl_cons]
section
variable {X:aG} {pins:List (Addr×Obj)} {σ :St} {H:J} {s:Shared} {l b:Addr} {xs ys zs:List V}
theorem Inv.yN {its its':List Value} {n:Nat} {f:Array Value→Array Value} {t':Nat} (I:Inv X pins σ H s) (hz:H l=some (.lst xs))
  (e:s.heap.get? l=some { cls:= .type "list",data:= .seq its.toArray n }) (hf:f its.toArray=its'.toArray) (hv:Vals ys its') (a5:ys.length≤sizeLine) :
  Inv X pins σ (upd H l (.lst ys)) { s with heap:=s.heap.update l (Obj.mapSeq f),toks:=t' }:=by
 have q:=PySem.IsL.update e f
 rw [hf] at q
 refine I.write (x:=l) (e:=l) (by rw [hz]; exact trivial) (.inl rfl) (fun hT u hb hu=>(Heap.get?_update_other s.heap (Obj.mapSeq f) (Ne.symm hb)).trans hu) ⟨_,q⟩ ?_
 exact ⟨a5,its',_,hv,q⟩
theorem Inv.yM {its:List Value} {t':Nat} (I:Inv X pins σ H s) (hv:Vals ys its) (a5:ys.length≤sizeLine) :
  Inv X pins σ (upd H s.heap.objs.size (.lst ys)) { s with heap:=s.heap.push { cls:= .type "list",data:= .seq its.toArray },toks:=t' }:=
 I.laid (fun _ _ q=>Heap.get?_push_of_some _ q) (Nat.le_refl _) ⟨a5,its,0,hv,Heap.get?_push_size _ rfl⟩
theorem Inv.fresh (I:Inv X pins σ H s):H s.heap.objs.size=none:=I.bk.fresh (Nat.le_refl _)
theorem Inv.n2 (I:Inv X pins σ H s) (hz:H l=some (.lst xs)):xs.length≤sizeLine∧∃(its:List Value) (n:Nat),Vals xs its∧xs.length=its.length∧s.heap.get? l=some { cls:= .type "list",data:= .seq its.toArray n }:=by
 obtain ⟨z,its,n,r,e⟩:=I.bk l _ hz
 exact ⟨z,its,n,r,r.length,e⟩
theorem Fb {n:Nat} (h:n≤sizeLine):Builtin.List.listTooLong n=false:=by
 unfold Builtin.List.listTooLong
 exact decide_eq_false (by omega)
end
section
variable {X:aG}
noncomputable def RB:V→List V→J→b9→Prop:=fun x vs H Q=>∃l xs y,x= .ref l∧vs=[y]∧H l=some (.lst xs)∧xs.length < sizeLine∧Q .non (upd H l (.lst (xs ++ [y])))
theorem yX:wo X "list.append" RB:=by
 intro pins s σ H x vs v us Q I bh bN h
 obtain ⟨l,xs,y,rfl,rfl,hz,a5,q⟩:=h
 cases bh
 obtain ⟨u,rfl,ed⟩:=bN.one
 obtain ⟨z,its,n,r,hl,e⟩:=I.n2 hz
 refine call_meets F.slot_list_append ⟨_,e,rfl⟩ F.entry_list_append (F.args_list_append_2 _ _) (PySem.list_append l its.toArray n u (by rw [List.size_toArray]; omega)) ⟨e,?_⟩
 refine ⟨.non,_,I.yN (its':=its ++ [u]) hz e (by simp) (r.append (.cons ed .nil)) ?_,rfl,q⟩
 rw [List.length_append,List.length_singleton]
 omega
noncomputable def RC:V→List V→J→b9→Prop:=fun x vs H Q=>∃l b xs zs,x= .ref l∧vs=[.ref b]∧H l=some (.lst xs)∧H b=some (.lst zs)∧xs.length + zs.length≤sizeLine∧Q .non (upd H l (.lst (xs ++ zs)))
theorem Pq:wo X "list.extend" RC:=by
 intro pins s σ H x vs v us Q I bh bN h
 obtain ⟨l,b,xs,zs,rfl,rfl,hz,lu,a5,q⟩:=h
 cases bh
 obtain ⟨u,rfl,ed⟩:=bN.one
 cases ed
 obtain ⟨z,its,n,r,hl,e⟩:=I.n2 hz
 obtain ⟨aX,dY,c_,a_,ru,aw⟩:=I.n2 lu
 have hsz:its.toArray.size + dY.toArray.size≤sizeLine:=by rw [List.size_toArray,List.size_toArray]; omega
 have x6:¬ (!its.toArray.isEmpty && Builtin.List.listTooLong (its.toArray.size + dY.toArray.size))=true:=by
  rw [Fb hsz,Bool.and_false]
  exact Bool.false_ne_true
 refine call_meets F.slot_list_extend ⟨_,e,rfl⟩ F.entry_list_extend (F.args_list_extend_2 _ _)
  (AutoSeq1.list_extend_list_list_0 l its.toArray n b dY.toArray c_ x6 (by rw [List.size_toArray]; omega) (by omega)) ⟨e,aw,?_⟩
 refine ⟨.non,_,I.yN (its':=its ++ dY) hz e (by simp) (r.append a_) ?_,rfl,q⟩
 rw [List.length_append]
 omega
noncomputable def FO:d4:=fun x y H Q=>∃l b xs zs,x= .ref l∧y= .ref b∧H l=some (.lst xs)∧H b=some (.lst zs)∧xs.length + zs.length≤sizeLine∧∀p,H p=none→Q (.ref p) (upd H p (.lst (xs ++ zs)))
theorem Qh:c7 X (binaryOp .Add) FO:=by
 intro pins s σ H x y v u Q I bh bT h
 obtain ⟨l,b,xs,zs,rfl,rfl,hz,lu,a5,q⟩:=h
 cases bh
 cases bT
 obtain ⟨z,its,n,r,hl,e⟩:=I.n2 hz
 obtain ⟨aX,dY,c_,a_,ru,aw⟩:=I.n2 lu
 refine PySem.P.add_list e aw ?_ (by rw [List.size_toArray,List.size_toArray]; omega)
 have av:its.toArray ++ dY.toArray=(its ++ dY).toArray:=by simp
 rw [av]
 exact ⟨.ref _,_,I.yM (t':=s.toks) (r.append a_) (by rw [List.length_append]; omega),rfl,q _ I.fresh⟩
noncomputable def FV:d4:=fun x y H Q=>∃l k xs,x= .ref l∧y= .int k∧H l=some (.lst xs)∧ -(2 ^ 63)≤k∧k < 2 ^ 63∧xs.length * k.toNat≤sizeLine∧
 ∀p,H p=none→Q (.ref p) (upd H p (.lst (List.replicate k.toNat xs).flatten))
theorem len_rep {α:Type} (xs:List α) (k:Nat):(List.replicate k xs).flatten.length=k * xs.length:=by
 induction k with
 | zero=>simp
 | succ k b8=>rw [List.replicate_succ,List.flatten_cons,List.length_append,b8,Nat.succ_mul,Nat.add_comm]
theorem Qp:c7 X (binaryOp .Mult) FV:=by
 intro pins s σ H x y v u Q I bh bT h
 obtain ⟨l,k,xs,rfl,rfl,hz,h1,h2,a5,q⟩:=h
 cases bh
 obtain ⟨t,rfl⟩:=bT
 obtain ⟨z,its,n,r,hl,e⟩:=I.n2 hz
 have hlen:its.toArray.size * k.toNat≤sizeLine:=by rw [List.size_toArray,←hl]; exact a5
 have LA:¬ its.toArray.size * k.toNat > (2 ^ 63 - 1) / 8:=by
  have:(sizeLine:Nat)≤(2 ^ 63 - 1) / 8:=by decide
  omega
 have LJ:¬ (!Builtin.List.listFitsIndex k)=true:=by
  rw [fitsIndex_both h1 h2]
  exact Bool.false_ne_true
 have x6:¬ Builtin.List.listTooLong (its.toArray.size * k.toNat)=true:=by
  rw [Fb hlen]
  exact Bool.false_ne_true
 have LY:List.foldl (fun d2 dP=>d2 ++ dP) #[] (List.replicate (if its.toArray.isEmpty=true then 0 else k.toNat) its.toArray)=(List.replicate k.toNat its).flatten.toArray:=by
  have f0:∀m:Nat,List.foldl (fun d2 dP=>d2 ++ dP) #[] (List.replicate m its.toArray)=(List.replicate m its).flatten.toArray:=fun m=>by
   have:=foldl_rep its m []
   rw [List.nil_append] at this
   exact this
  rw [f0]
  cases its with
  | nil=>simp
  | cons a a4=>rw [if_neg (by simp)]
 refine wpAny_binaryOp_repeat_ref (T:="list") (U:="int") (by decide) ⟨_,e,rfl⟩ (fun s'=>typeIs_int s' k t) noFill_list_mul F.fills_int_mul F.slot_int_rmul repeat_list F.slot_int_index.lookup
  (call_meets F.slot_int_rmul (typeIs_int s k t) F.entry_int_rmul (F.args_int_rmul_2 _ _) (int___rmul___int_list k t l its.toArray n)
    ⟨e,rfl,⟨_,e,rfl⟩,call_meets F.slot_list_mul ⟨_,e,rfl⟩ F.entry_list_mul (F.args_list_mul_2 _ _) (AutoListH.list___mul___list_int_3 l its.toArray n k t LJ LA x6) ⟨e,?_⟩⟩)
 rw [LY]
 exact ⟨.ref _,_,I.yM (t':=s.toks) (r.rep k.toNat) (by rw [len_rep,Nat.mul_comm]; exact a5),rfl,q _ I.fresh⟩
end
section
variable {prog:Program} {w:World} {A:Around} {E:Value→Shared→Prop} {s:Shared}
end
section
variable {X:aG}
end
end aZ
namespace aZ
open PySem PySem.Spec PyProof.Rows
section
variable {κ:Type} [DecidableEq κ]
noncomputable def fT (aQ:List (κ×V)) (k:κ):Option V:=(aQ.find? fun ei=>decide (ei.1=k)).map (·.2)
noncomputable def putK (aQ:List (κ×V)) (k:κ) (v:V):List (κ×V):=
 if (aQ.any fun ei=>decide (ei.1=k))=true then aQ.map (fun ei=>if ei.1=k then (ei.1,v) else ei) else aQ ++ [(k,v)]
noncomputable def Cn (aQ:List (κ×V)) (k:κ):List (κ×V):=aQ.filter fun ei=>decide (ei.1≠k)
theorem AO {p:κ×V} {r:List (κ×V)} {k:κ} (e:p.1=k):fT (p::r) k=some p.2:=by simp [fT,List.find?_cons,e]
theorem AM {p:κ×V} {r:List (κ×V)} {k:κ} (e:¬ p.1=k):fT (p::r) k=fT r k:=by simp [fT,List.find?_cons,e]
theorem AL (k:κ):∀aQ:List (κ×V),(aQ.any fun ei=>decide (ei.1=k))=(fT aQ k).isSome
 | []=>rfl
 | p::r=>by
   rw [List.any_cons]
   by_cases e:p.1=k
   · simp only [AO e,decide_eq_true e,Bool.true_or,Option.isSome_some]
   · rw [AM e,decide_eq_false e,Bool.false_or]; exact AL k r
theorem EJ (aQ:List (κ×V)) (k:κ) (v:V):(putK aQ k v).length≤aQ.length + 1:=by
 unfold putK
 split
 · rw [List.length_map]; omega
 · rw [List.length_append,List.length_cons,List.length_nil]; omega
theorem Rr {aQ:List (κ×V)} {k:κ} (v:V) (h:fT aQ k=none):putK aQ k v=aQ ++ [(k,v)]:=by
 unfold putK
 rw [AL,h]
 exact if_neg (by decide)
theorem hj.rE {o:Option V} {u:Option Value} (r:hj o u):o.isSome=u.isSome:=by
 cases o with
 | none=>cases u with
   | none=>rfl
   | some _=>exact (show False from r).elim
 | some _=>cases u with
   | none=>exact (show False from r).elim
   | some _=>rfl
theorem hj.getD {o:Option V} {u:Option Value} {d:V} {d':Value} (r:hj o u) (RO:RelV d d'):RelV (o.getD d) (u.getD d'):=by
 cases o with
 | none=>cases u with
   | none=>exact RO
   | some _=>exact (show False from r).elim
 | some _=>cases u with
   | none=>exact (show False from r).elim
   | some _=>exact r
theorem eX.val {aQ:List (κ×V)} {vs:List (κ×Value)} (r:eX aQ vs) (k:κ):hj (fT aQ k) (valueAt vs k):=by
 unfold eX at r
 induction r with
 | nil=>exact True.intro
 | @cons p q aB fP h t b8=>
   obtain ⟨h1,h2⟩:=h
   by_cases e:p.1=k
   · have bY:q.1=k:=h1.symm.trans e
     have b:valueAt (q::fP) k=some q.2:=by simp [valueAt,List.find?_cons,bY]
     rw [AO e,b]; exact h2
   · have bY:¬ q.1=k:=fun z=>e (h1.trans z)
     have b:valueAt (q::fP) k=valueAt fP k:=by simp [valueAt,List.find?_cons,bY]
     rw [AM e,b]; exact b8
theorem eX.any {aQ:List (κ×V)} {vs:List (κ×Value)} (r:eX aQ vs) (k:κ):(aQ.any fun ei=>decide (ei.1=k))=vs.any fun ei=>decide (ei.1=k):=by
 unfold eX at r
 induction r with
 | nil=>rfl
 | cons h t b8=>rw [List.any_cons,List.any_cons,b8,h.1]
theorem eX.zt {aQ:List (κ×V)} {vs:List (κ×Value)} (r:eX aQ vs) (k:κ) {y:V} {u:Value} (bT:RelV y u) :
  eX (aQ.map fun ei=>if ei.1=k then (ei.1,y) else ei) (vs.map fun ei=>if ei.1=k then (ei.1,u) else ei):=by
 unfold eX at r ⊢
 induction r with
 | nil=>exact .nil
 | @cons p q aB fP h t b8=>
   rw [List.map_cons,List.map_cons]
   refine .cons ?_ b8
   obtain ⟨h1,h2⟩:=h
   by_cases e:p.1=k
   · rw [if_pos e,if_pos (h1.symm.trans e)]; exact ⟨h1,bT⟩
   · rw [if_neg e,if_neg (fun z=>e (h1.trans z))]; exact ⟨h1,h2⟩
theorem eX.put {aQ:List (κ×V)} {vs:List (κ×Value)} (r:eX aQ vs) (k:κ) {y:V} {u:Value} (bT:RelV y u):eX (putK aQ k y) (stored vs k u):=by
 unfold putK stored
 rw [r.any k]
 by_cases e:(vs.any fun ei=>decide (ei.1=k))=true
 · rw [if_pos e,if_pos e]; exact r.zt k bT
 · rw [if_neg e,if_neg e]; exact Paired.snoc r ⟨rfl,bT⟩
theorem eX.drop {aQ:List (κ×V)} {vs:List (κ×Value)} (r:eX aQ vs) (k:κ):eX (Cn aQ k) (without vs k):=by
 unfold eX at r ⊢
 unfold Cn without
 induction r with
 | nil=>exact .nil
 | @cons p q aB fP h t b8=>
   obtain ⟨h1,h2⟩:=h
   rw [List.filter_cons,List.filter_cons]
   by_cases e:p.1=k
   · have a:¬ decide (p.1≠k)=true:=by simp [e]
     have b:¬ decide (q.1≠k)=true:=by simp [h1.symm.trans e]
     rw [if_neg a,if_neg b]; exact b8
   · have bY:¬ q.1=k:=fun z=>e (h1.trans z)
     have a:decide (p.1≠k)=true:=by simp [e]
     have b:decide (q.1≠k)=true:=by simp [bY]
     rw [if_pos a,if_pos b]; exact .cons ⟨h1,h2⟩ b8
theorem eX.length {aQ:List (κ×V)} {vs:List (κ×Value)} (r:eX aQ vs):aQ.length=vs.length:=Paired.length r
end
theorem rH {P:Program} {w:World} {k:Key} {u:Value} (r:RelV (cE k) u):(hG P w).is k u=true:=by
 cases k with
 | inl i=>obtain ⟨t,e⟩:=(show ∃t,u=Value.int i t from r); subst e; exact Pn P w i t
 | inr x=>obtain ⟨t,e⟩:=(show ∃t,u=Value.str x t from r); subst e; exact Po P w x t
theorem Em {P:Program} {w:World}:∀{ks:List Key} {us:List Value},Vals (ks.map cE) us→ItemsAre (hG P w) ks us
 | [],_,r=>by rw [List.map_nil] at r; cases r; exact .nil
 | k::ks,_,r=>by
   rw [List.map_cons] at r
   cases r with
   | cons h t=>exact .cons (rH h) (Em t)
noncomputable abbrev KT (H:J):List (List Key×V)→List (List Key×Addr×Value)→Prop:=Paired fun p q=>p.1=q.1∧H q.2.1=some (.tup (p.1.map cE))∧RelV p.2 q.2.2
theorem KT.val {H:J} {aQ:List (List Key×V)} {xs:List (List Key×Addr×Value)} (r:KT H aQ xs) (k:List Key):hj (fT aQ k) ((atKey xs k).map (·.2)):=by
 induction r with
 | nil=>exact True.intro
 | @cons p q aB fP h t b8=>
   obtain ⟨h1,_,h2⟩:=h
   by_cases e:p.1=k
   · have bY:q.1=k:=h1.symm.trans e
     have b:atKey (q::fP) k=some q.2:=by simp [atKey,List.find?_cons,bY]
     rw [AO e,b]; exact h2
   · have bY:¬ q.1=k:=fun z=>e (h1.trans z)
     have b:atKey (q::fP) k=atKey fP k:=by simp [atKey,List.find?_cons,bY]
     rw [AM e,b]; exact b8
theorem KT.zt {H:J} {aQ:List (List Key×V)} {xs:List (List Key×Addr×Value)} (r:KT H aQ xs) (k:List Key) {y:V} {u:Value} (bT:RelV y u) :
  KT H (aQ.map fun ei=>if ei.1=k then (ei.1,y) else ei) (xs.map (putAt k u)):=by
 induction r with
 | nil=>exact .nil
 | @cons p q aB fP h t b8=>
   rw [List.map_cons,List.map_cons]
   refine .cons ?_ b8
   obtain ⟨h1,h2,h3⟩:=h
   unfold putAt
   by_cases e:p.1=k
   · rw [if_pos e,if_pos (h1.symm.trans e)]; exact ⟨h1,h2,bT⟩
   · rw [if_neg e,if_neg (fun z=>e (h1.trans z))]; exact ⟨h1,h2,h3⟩
theorem KT.put {H:J} {aQ:List (List Key×V)} {xs:List (List Key×Addr×Value)} (r:KT H aQ xs) (k:List Key) {b:Addr} {y:V} {u:Value} (hb:H b=some (.tup (k.map cE))) (bT:RelV y u) :
  KT H (putK aQ k y) (storedH xs k b u):=by
 have e:(aQ.any fun ei=>decide (ei.1=k))=(atKey xs k).isSome:=by
  rw [AL,(r.val k).rE,Option.isSome_map]
 unfold putK storedH
 rw [e]
 by_cases q:(atKey xs k).isSome=true
 · rw [if_pos q,if_pos q]; exact r.zt k bT
 · rw [if_neg q,if_neg q]; exact Paired.snoc r ⟨rfl,hb,bT⟩
theorem KT.keeps {H H':J} {aQ:List (List Key×V)} {xs:List (List Key×Addr×Value)} (r:KT H aQ xs) (ht:∀b ys,H b=some (.tup ys)→H' b=some (.tup ys)):KT H' aQ xs:=
 Paired.yV r fun _ _ z=>⟨z.1,ht _ _ z.2.1,z.2.2⟩
section
variable {P:Program} {w:World} {H:J} {h:Heap} {a:Addr}
theorem FZ {u:cY} (ok:dM P w H h) (e:fh H a u):en P w H h a u:=e.ok ok
theorem q4 {aQ:List (Key×V)} (ok:dM P w H h) (e:fh H a (.cL aQ)):aQ.length≤sizeLine∧(a == sysModules)=false∧∃vs,eX aQ vs∧h.DictOf (hG P w) a vs:=
 show en P w H h a (.cL aQ) from FZ ok e
theorem JN {aQ:List (Key×V)} (ok:dM P w H h) (e:H a=some (.cL aQ)):aQ.length≤sizeLine∧(a == sysModules)=false∧∃vs,eX aQ vs∧h.DictOf (hG P w) a vs:=q4 ok (.inl e)
theorem rI {ks:List Key} (ok:dM P w H h) (e:H a=some (.tup (ks.map cE))):(tupleKind (hG P w)).is h ks a:=by
 obtain ⟨_,its,r,o,h1,h2,n,h3⟩:=(show en P w H h a (.tup (ks.map cE)) from ok a _ e)
 exact ⟨o,its.toArray,n,h1,h2,h3,by simpa using Em r⟩
theorem q5 {aQ:List (List Key×V)} (ok:dM P w H h) (e:fh H a (.bx aQ)):aQ.length≤sizeLine∧(a == sysModules)=false∧
  ∃xs,KT H aQ xs∧h.DictOfH (tupleKind (hG P w)) a xs:=by
 obtain ⟨z,y,xs,r,o,ae,dB,h1,h2,h3,h4,h5⟩:=(show en P w H h a (.bx aQ) from FZ ok e)
 refine ⟨z,y,xs,r,o,ae,dB,h1,h2,h3,h4,fun x hx=>?_,h5⟩
 have all:∀{l:List (List Key×V)} {m:List (List Key×Addr×Value)},KT H l m→∀x∈m,(tupleKind (hG P w)).is h x.1 x.2.1:=by
  intro l m q
  induction q with
  | nil=>intro x hx; exact nomatch hx
  | @cons p q aB fP aD t b8=>
    intro x hx
    rcases List.mem_cons.mp hx with e | hx
    · subst e
      exact rI ok (by rw [←aD.1]; exact aD.2.1)
    · exact b8 x hx
 exact all r x hx
theorem JV {aQ:List (List Key×V)} (ok:dM P w H h) (e:H a=some (.bx aQ)):aQ.length≤sizeLine∧(a == sysModules)=false∧
  ∃xs,KT H aQ xs∧h.DictOfH (tupleKind (hG P w)) a xs:=q5 ok (.inl e)
end
noncomputable def jO (H:J) (a:Addr) (y:V) (r:Option V):Prop:=
 (∃aQ k,fh H a (.cL aQ)∧y=cE k∧r=fT aQ k)∨∃aQ k b,fh H a (.bx aQ)∧y= .ref b∧H b=some (.tup (k.map cE))∧r=fT aQ k
noncomputable def qF (H:J) (a:Addr) (y v:V) (H':J):Prop:=
 (∃aQ k,H a=some (.cL aQ)∧y=cE k∧aQ.length < sizeLine∧H'=upd H a (.cL (putK aQ k v)))∨
 ∃aQ k b,H a=some (.bx aQ)∧y= .ref b∧H b=some (.tup (k.map cE))∧aQ.length < sizeLine∧H'=upd H a (.bx (putK aQ k v))
theorem jO.t {H:J} {a b:Addr} {aQ:List (List Key×V)} {k:List Key} (e:H a=some (.bx aQ)) (bq:H b=some (.tup (k.map cE))):jO H a (.ref b) (fT aQ k):= .inr ⟨aQ,k,b,.inl e,rfl,bq,rfl⟩
theorem qF.t {H:J} {a b:Addr} {aQ:List (List Key×V)} {k:List Key} {v:V} (e:H a=some (.bx aQ)) (bq:H b=some (.tup (k.map cE))) (hl:aQ.length < sizeLine) :
  qF H a (.ref b) v (upd H a (.bx (putK aQ k v))):= .inr ⟨aQ,k,b,e,rfl,bq,hl,rfl⟩
section
variable {X:aG} {pins:List (Addr×Obj)} {σ :St} {H:J} {s:Shared} {a:Addr} {y v:V} {u r:Value} {o:Option V} {A:Around} {E:Value→Shared→Prop}
theorem Inv.big (I:Inv X pins σ H s):sysModules < s.heap.objs.size:=by
 have h:mainGlobals < s.heap.objs.size:=(I.mod.glob.keeps I.eB).lt
 exact Nat.lt_trans (by decide) h
theorem Jy {Q:Value→Shared→Prop} (hu:A.units + 1 < cLine) (I:Inv X pins σ H s) (g:jO H a y o) (bT:RelV y u) (h:∀s',Inv X pins σ H s'→Q (.bool o.isSome) s') :
  wpAny (model X.prog X.w) A (compareOp .In u (.ref a)) Q E s:=by
 rcases g with ⟨aQ,k,e,dq,l⟩ | ⟨aQ,k,b,e,dq,bq,l⟩
 · subst dq
   obtain ⟨z,hd,vs,rel,dd⟩:=q4 I.bk e
   refine wpAny_in_of (rH bT) hd dd.mapOf ?_
   rw [←(rel.val k).rE,←l]
   exact h _ (I.tok _)
 · subst dq
   cases (show u=Value.ref b from bT)
   obtain ⟨z,hd,xs,rel,dd⟩:=q5 I.bk e
   refine wpAny_in_heap (tupleKind_room_in1 hu) (rI I.bk bq) hd dd ?_
   have q:=(rel.val k).rE
   rw [Option.isSome_map] at q
   rw [←q,←l]
   exact h _ (I.tok _)
theorem Jz {Q:Value→Shared→Prop} (hu:A.units + 1 < cLine) (I:Inv X pins σ H s) (g:jO H a y o) (bT:RelV y u) (h:∀s',Inv X pins σ H s'→Q (.bool (!o.isSome)) s') :
  wpAny (model X.prog X.w) A (compareOp .NotIn u (.ref a)) Q E s:=by
 rcases g with ⟨aQ,k,e,dq,l⟩ | ⟨aQ,k,b,e,dq,bq,l⟩
 · subst dq
   obtain ⟨z,hd,vs,rel,dd⟩:=q4 I.bk e
   refine wpAny_notIn_of (rH bT) hd dd.mapOf ?_
   rw [←(rel.val k).rE,←l]
   exact h _ (I.tok _)
 · subst dq
   cases (show u=Value.ref b from bT)
   obtain ⟨z,hd,xs,rel,dd⟩:=q5 I.bk e
   refine wpAny_notIn_heap (tupleKind_room_in1 hu) (rI I.bk bq) hd dd ?_
   have q:=(rel.val k).rE
   rw [Option.isSome_map] at q
   rw [←q,←l]
   exact h _ (I.tok _)
theorem Cb {h':Heap} {t':Nat} {aU:cY} (I:Inv X pins σ H s) (iE:qM (H a)) (hs:Heap.SameBut a s.heap h') (he:∃q,h'.get? a=some q) (new:en X.prog X.w (upd H a aU) h' a aU) :
  Inv X pins σ (upd H a aU) { s with heap:=h',toks:=t' }:=
 I.write (x:=a) (e:=a) iE (.inl rfl) (fun b q hb z=>(hs.2 b hb).trans z) he new
theorem JM {P:Program} {w:World} {H':J} {h':Heap} {aQ:List (Key×V)} {vs:List (Key×Value)} (z:aQ.length≤sizeLine) (hd:(a == sysModules)=false) (rel:eX aQ vs) (dd:h'.DictOf (hG P w) a vs) :
  en P w H' h' a (.cL aQ):=⟨z,hd,vs,rel,dd⟩
theorem JB {H':J} {Q:Unit→Shared→Prop} (hu:A.units + 1 < cLine) (I:Inv X pins σ H s) (g:qF H a y v H') (bT:RelV y u) (bN:RelV v r) (h:∀s',Inv X pins σ H' s'→Q () s') :
  wpAny (model X.prog X.w) A (setItem (.ref a) u r) Q E s:=by
 rcases g with ⟨aQ,k,e,dq,l,xi⟩ | ⟨aQ,k,b,e,dq,bq,l,xi⟩
 · subst dq xi
   obtain ⟨z,hd,vs,rel,dd⟩:=JN I.bk e
   have a5:vs.length≤sizeLine:=by rw [←rel.length]; exact z
   have hl:(putK aQ k v).length≤sizeLine:=by have:=EJ aQ k v; omega
   refine wpAny_setItem_pairs (hsz:=a5) (rH bT) dd fun h' tZ hs=>h _ ?_
   have he:∃q,h'.get? a=some q:=let ⟨q,_,_,aD,_⟩:=tZ; ⟨q,aD⟩
   exact Cb I (by rw [e]; exact True.intro) hs he (JM hl hd (rel.put k bN) tZ)
 · subst dq xi
   cases (show u=Value.ref b from bT)
   obtain ⟨z,hd,xs,rel,dd⟩:=JV I.bk e
   have a5:xs.length≤sizeLine:=by rw [←Paired.length rel]; exact z
   have hl:(putK aQ k v).length≤sizeLine:=by have:=EJ aQ k v; omega
   refine wpAny_setItem_heap (hsz:=a5) (tupleKind_room_in1 hu) (rI I.bk bq) dd fun h' tZ hs=>h _ ?_
   obtain ⟨q,ae,dB,aD,h2,h3,h4,_,h5⟩:=tZ
   refine Cb I (by rw [e]; exact True.intro) hs ⟨q,aD⟩ ⟨hl,hd,_,(rel.put k bq bN).keeps fun c ys ec=>?_,q,ae,dB,aD,h2,h3,h4,h5⟩
   rw [cG (PD ec e (fun z=>nomatch z))]
   exact ec
end
section
variable {X:aG} {pins:List (Addr×Obj)} {σ :St} {H:J} {s:Shared} {a:Addr} {aQ:List (Key×V)} {k:Key} {u:Value} {A:Around} {E:Value→Shared→Prop}
end
noncomputable def Gy (ty g6:TE):TE:=fun σ H Q=>ty σ H fun y H1=>g6 σ H1 fun x aH=>∃a o,x= .ref a∧jO aH a y o∧Q (.au o.isSome) aH
noncomputable def Gz (ty g6:TE):TE:=fun σ H Q=>ty σ H fun y H1=>g6 σ H1 fun x aH=>∃a o,x= .ref a∧jO aH a y o∧Q (.au (!o.isSome)) aH
noncomputable def R2 (g6 ty lV:TE):d5:=fun D σ H=>lV σ H fun v H1=>g6 σ H1 fun x aH=>ty σ aH fun y cw=>∃a fX,x= .ref a∧qF cw a y v fX∧D.a9 σ fX
section
variable {X:aG} {o i e value:Expr} {pos pos' sR:Pos} {g6 ty lV:TE}
theorem Fw (hu:X.A.units + 1 < cLine) (hi:aS X i ty) (ho:aS X o g6):tC X .In i o (Gy ty g6):=by
 intro pins s σ H Q I h
 refine bu (hi pins s σ H _ I h) fun gY s1 ⟨y,H1,aP,bT,aW⟩=>bu (ho pins s1 σ H1 _ aP aW) fun u s2 ⟨x,aH,bZ,bh,a,dU,ex,g,bG⟩=>?_
 subst ex
 obtain rfl:u=Value.ref a:=bh
 exact Jy hu bZ g bT fun s3 dC=>⟨.au dU.isSome,aH,dC,rfl,bG⟩
theorem QB (hu:X.A.units + 1 < cLine) (hi:aS X i ty) (ho:aS X o g6):tC X .NotIn i o (Gz ty g6):=by
 intro pins s σ H Q I h
 refine bu (hi pins s σ H _ I h) fun gY s1 ⟨y,H1,aP,bT,aW⟩=>bu (ho pins s1 σ H1 _ aP aW) fun u s2 ⟨x,aH,bZ,bh,a,dU,ex,g,bG⟩=>?_
 subst ex
 obtain rfl:u=Value.ref a:=bh
 exact Jz hu bZ g bT fun s3 dC=>⟨.au (!dU.isSome),aH,dC,rfl,bG⟩
theorem Rc (hu:X.A.units + 1 < cLine) (ho:aS X o g6) (hi:aS X i ty) (hv:aS X value lV) (hs:swapsWith value (some (.Subscript o i pos')) pos.line X.env=pure false) :
  cK X (.Assign [.Subscript o i pos'] value pos) (R2 g6 ty lV):=by
 intro pins s σ H D I h
 refine wpAny_Assign_Subscript (bu (hv pins s σ H _ I h) fun r s1 ⟨v,H1,aP,bN,aW⟩=>bu (ho pins s1 σ H1 _ aP aW) fun u s2 ⟨x,aH,bZ,bh,bG⟩=>bu (hi pins s2 σ aH _ bZ bG) fun gY s3 ⟨y,cw,dC,bT,a,fX,ex,g,er⟩=>?_) hs
 subst ex
 obtain rfl:u=Value.ref a:=bh
 exact JB hu dC g bT bN fun s4 je=>⟨σ,fX,je,er⟩
end
theorem JL {P:Program} {w:World} {H:J} (h:Heap) (hb:sysModules < h.objs.size):en P w H (h.push { cls:= .type "dict",data:= .dict #[] }) h.objs.size (.cL []):=
 ⟨Nat.zero_le _,beq_eq_false_iff_ne.mpr (Ne.symm (Nat.ne_of_lt hb)),[],.nil,Heap.DictOf.new h⟩
theorem JU {P:Program} {w:World} {H:J} (h:Heap) (hb:sysModules < h.objs.size):en P w H (h.push { cls:= .type "dict",data:= .dict #[] }) h.objs.size (.bx []):=
 ⟨Nat.zero_le _,beq_eq_false_iff_ne.mpr (Ne.symm (Nat.ne_of_lt hb)),[],.nil,_,#[],0,Heap.get?_push_size _ rfl,⟨rfl,rfl,rfl⟩,rfl,rfl,List.nodup_nil⟩
noncomputable def TC:TE:=fun _ H Q=>∀p,H p=none→Q (.ref p) (upd H p (.cL []))
noncomputable def TF:TE:=fun _ H Q=>∀p,H p=none→Q (.ref p) (upd H p (.bx []))
section
variable {X:aG} {pos:Pos}
theorem QI:aS X (.Dict [] [] pos) TC:=fun pins s σ H Q I h=>
 wpAny_Dict_empty ⟨.ref s.heap.objs.size,_,I.laid (a:=s.heap.objs.size) (o:= .cL []) (t':=s.toks) (fun _ _ q=>Heap.get?_push_of_some _ q) (Nat.le_refl _) (JL s.heap I.big),rfl,h _ (I.bk.fresh (Nat.le_refl _))⟩
theorem QJ:aS X (.Dict [] [] pos) TF:=fun pins s σ H Q I h=>
 wpAny_Dict_empty ⟨.ref s.heap.objs.size,_,I.laid (a:=s.heap.objs.size) (o:= .bx []) (t':=s.toks) (fun _ _ q=>Heap.get?_push_of_some _ q) (Nat.le_refl _) (JU s.heap I.big),rfl,h _ (I.bk.fresh (Nat.le_refl _))⟩
end
structure Ih (X:aG) (o:Expr) (m:Str) (apos:Pos) (e:Expr) (bS:Pos):Prop where
 base:attributeBase o m X.env (eval o X.env)=eval o X.env
 few:((backTo bS (starEach [e] X.env)).all (fun x=> !x.1) && (backToKw bS (keywordEach [] X.env)).all (fun x=>x.1.isSome)
  && decide (([e]:List Expr).length + ([]:List Keyword).length + (if ([]:List Keyword).isEmpty then 0 else 1) < 30))=true
 line:(apos.endLine == bS.line)=true
 trees:backTo bS (starEach [e] X.env)=[(false,eval e X.env)]
noncomputable def Bh (H:J) (a:Addr):Prop:=(∃aQ,fh H a (.cL aQ))∨∃aQ,fh H a (.bx aQ)
theorem Nu {X:aG} {pins:List (Addr×Obj)} {σ :St} {H:J} {s:Shared} {a:Addr} (I:Inv X pins σ H s) (d:Bh H a) :
  s.TypeIs (.ref a) "dict"∧(∀b,Value.ref a= .ref b→∃aU,s.heap.get? b=some aU∧aU.dict=none)∧(a == sysModules)=false:=by
 rcases d with ⟨aQ,e⟩ | ⟨aQ,e⟩
 · obtain ⟨_,hd,vs,_,dd⟩:=q4 I.bk e
   refine ⟨dd.typeIs,fun b q=>?_,hd⟩
   cases q
   obtain ⟨aU,_,_,h1,h2,_⟩:=dd
   exact ⟨aU,h1,h2.2.1⟩
 · obtain ⟨_,hd,xs,_,dd⟩:=q5 I.bk e
   refine ⟨dd.typeIs,fun b q=>?_,hd⟩
   cases q
   obtain ⟨aU,_,_,h1,h2,_⟩:=dd
   exact ⟨aU,h1,h2.2.1⟩
section
variable {X:aG} {pins:List (Addr×Obj)} {σ :St} {H:J} {s:Shared} {a:Addr} {y d:V} {u r:Value} {o:Option V} {A:Around} {E:Value→Shared→Prop}
theorem Jx {Q:Value→Shared→Prop} (hu:A.units + 1 < cLine) (I:Inv X pins σ H s) (g:jO H a y o) (bT:RelV y u) (h:∀fF s',Inv X pins σ H s'→RelV (o.getD .non) fF→Q fF s') :
  wpAny (model X.prog X.w) A (call (.builtin "dict.get") [.ref a,u]) Q E s:=by
 rcases g with ⟨aQ,k,e,dq,l⟩ | ⟨aQ,k,b,e,dq,bq,l⟩
 · subst dq
   obtain ⟨z,hd,vs,rel,dd⟩:=q4 I.bk e
   refine call_meetsIn PySem.F.slot_dict_get dd.typeIs PySem.F.entry_dict_get (PySem.F.args_dict_get_2 _ _) (meets_dict_get (hG X.prog X.w) a (rH bT) hd) ⟨_,dd.mapOf,h _ _ (I.tok _) ?_⟩
   rw [l]
   exact (rel.val k).getD rfl
 · subst dq
   cases (show u=Value.ref b from bT)
   obtain ⟨z,hd,xs,rel,dd⟩:=q5 I.bk e
   refine call_meetsIn PySem.F.slot_dict_get dd.typeIs PySem.F.entry_dict_get (PySem.F.args_dict_get_2 _ _) (meetsH_dict_get (tupleKind (hG X.prog X.w)) a b hd) ⟨tupleKind_room_in1 hu,k,xs,rI I.bk bq,dd,h _ _ (I.tok _) ?_⟩
   rw [l]
   exact (rel.val k).getD rfl
end
noncomputable def Gx (g6 ty:TE):TE:=fun σ H Q=>g6 σ H fun x H1=>∃a,x= .ref a∧Bh H1 a∧ty σ H1 fun y aH=>∃o,jO aH a y o∧Q (o.getD .non) aH
section
variable {X:aG} {o e f:Expr} {apos bS:Pos} {g6 ty XK:TE}
theorem QH (hu:X.A.units + 1 < cLine) (ho:aS X o g6) (he:aS X e ty) (m:Ih X o "get" apos e bS):aS X (.Call (.Attribute o "get" apos) [e] [] bS) (Gx g6 ty):=by
 intro pins s σ H Q I h
 refine wpAny_Call_method m.base m.few m.line PySem.F.plainAttrs_dict PySem.F.slot_dict_get PySem.F.type_dict_get (bu (ho pins s σ H _ I h) fun u s1 ⟨x,H1,aP,bh,a,ex,d,aW⟩=>?_)
 subst ex
 obtain rfl:u=Value.ref a:=bh
 obtain ⟨t1,dV,_⟩:=Nu aP d
 refine ⟨t1,dV,?_⟩
 rw [m.trees]
 refine Calls.callWith_builtin rfl (Calls.evalArgs_plain (Calls.spliced_cons (bu (he pins s1 σ H1 _ aP aW) fun gY s2 ⟨y,aH,bZ,bT,dU,g,bG⟩=>Calls.spliced_nil ?_)))
 exact Jx hu bZ g bT fun fF s3 dC sr=>⟨_,aH,dC,sr,bG⟩
end
section
variable {X:aG} {pins:List (Addr×Obj)} {σ :St} {H:J} {s:Shared} {a:Addr} {aQ:List (Key×V)} {A:Around} {E:Value→Shared→Prop}
end
section
variable {X:aG} {pins:List (Addr×Obj)} {σ :St} {H:J} {s:Shared} {a:Addr} {y:V} {u:Value} {A:Around} {E:Value→Shared→Prop}
end
end aZ
namespace A_
open PySem PySem.W PySem.Calls PyProof.Rows
theorem Np {P:Params} {h:Heap}:∀(ns:List Int) (vs:List Value),WellAll P h vs (ns.map WData.int)→IntsAre vs ns:=by
 intro ns
 induction ns with
 | nil=>
   intro vs w
   rw [List.map_nil] at w
   cases w
   exact .nil
 | cons n ns b8=>
   intro vs w
   rw [List.map_cons] at w
   cases w with
   | cons a b=>
     cases a
     exact .cons _ _ (b8 _ b)
theorem SU {l:OpenLaw} {n:Nat} (aN:l.most=some n) {P:Params} {h:Heap} {args:List WData} {vals:List Value}
  (uz:l.row.toRowW.claim.pre args=true) (yk:WellAll P h vals args) :
  ∃a vs ns,vals=[Value.ref a]∧args=[WData.list (ns.map WData.int)]∧h.get? a=some { cls:= .type "list",data:= .seq vs.toArray }∧IntsAre vs ns∧ns.length≤n:=by
 have Md:WShape.hasAll [] args [.list .int]=true:=(pre_splitW uz).1
 have hc:l.pre.holds [] { args:=args }=true:=(pre_splitW uz).2
 obtain ⟨d,r,rfl,h1,h2⟩:=hasAllW_cons Md
 obtain rfl:=hasAllW_nil h2
 obtain ⟨xs,rfl,h3⟩:=hasW_list h1
 obtain ⟨ns,rfl⟩:=items_int h3
 have hlen:ns.length≤n:=by
  unfold OpenLaw.pre at hc
  have h4:(WTm.not (.lt (.lit (.int (n:Int))) (.len (.arg 0)))).holds [] { args:=[.list (ns.map .int)] }=true:=by
   have h4:=(holds_andW hc).1
   rw [aN] at h4
   exact h4
  have h5:=condW_of h4 (w_not (w_lt w_lit (w_len_list (w_arg rfl))))
  rw [List.length_map] at h5
  refine Nat.le_of_not_lt fun q=>?_
  have cS:(n:Int) < ((ns.length:Nat):Int):=by omega
  first
   | (rw [decide_eq_true cS] at h5; exact absurd h5 (by decide))
   | (simp at h5; omega)
 cases yk with
 | cons eV eu=>
   cases eu
   cases eV with
   | list ho xR=>exact ⟨_,_,ns,rfl,rfl,ho,Np ns _ xR,hlen⟩
theorem Ra (l:OpenLaw) (args:List WData):l.row.toRowW.claim.post args (.bool true) args=true:=
 postW_of (r:=l.row.toRowW) (X:=(true == true))
  (show WShape.has [] (.bool true) .bool=true by first | rfl | decide | simp [WShape.has,WShape.arms,WShape.armsAll])
  (show (WTm.eq .res (.lit (.bool true))).value [] { args:=args,res:=some (.bool true),after:=args }=some (.bool (true == true)) from w_eq_bool (w_res rfl) w_lit) rfl
theorem IH {l:OpenLaw} {n:Nat} {q:Program} {loose:List Str} {oU:(Str→Option Value)→Heap→Prop} {mq:World→Heap→Prop} {d:DefRec}
  (aN:l.most=some n) (rr:d.params.defaults=[])
  (call:∀(w:World) (eD cO:Shared) (mg e4:Str→Option Value) (fb:Addr) (o:Obj) (pm cd doc:Value) (a:Addr) (vs:List Value) (ns:List Int),
    Ground q loose [] oU w eD mg e4 cO.heap→mq w cO.heap→
    cO.heap.get? fb=some o→o.data= .func (docDef d.name d.params d.body d.scope pm cd doc)→cO.heap.CodeRec cd d.name→mg d.name=some (.ref fb)→
    cO.heap.get? a=some { cls:= .type "list",data:= .seq vs.toArray }→IntsAre vs ns→ns.length≤n→cO.gens= #[]→
    codeAny (model l.prog w) callerA (.call (.ref fb) ⟨[.ref a],[]⟩) (fun r s'=>r= .ok (.ret (.bool true))∧OldK cO.heap s'.heap∧s'.os=cO.os∧AllBare s'.gens) cO) :
  WalkO q loose oU mq l.row.toRowW d [] (fun f vs=>PySem.call f vs):=by
 intro w eD cO mg e4 G Y fb o pm cd doc tY cE ho hd hcd Dw rv hg args vals as uz WC WG yk WD
 obtain rfl:tY= .none:=Dflts.none Dw rr
 obtain rfl:cE= .none:=Dflts.noKw Dw
 obtain ⟨a,vs,ns,rfl,rfl,x_,hints,hlen⟩:=SU aN uz yk
 refine enter_call (codeAny_mono (call w eD cO mg e4 fb o pm cd doc a vs ns G Y ho (fd_plain hd) hcd rv x_ hints hlen hg) fun r s' aD=>?_)
 obtain ⟨rfl,h2,h3,h4⟩:=aD
 exact ⟨.inl ⟨.bool true,.bool true,[],rfl,fun _=>rfl,.bool true,Ra l _,fun _=>⟨List.Pairwise.nil,fun _ hm=>(nomatch hm)⟩⟩,h2,h3,h4⟩
section
variable {prog:Program} {w:World} {A:Around} {E:Value→Shared→Prop} {s:Shared} {K:Frag}
end
end A_
namespace aZ
open PySem PySem.Spec PyProof.Rows
theorem Hs:∀{vs:List Value} {ns:List Int},IntsAre vs ns→Vals (ns.map V.int) vs
 | _,_,.nil=> .nil
 | _,_,.cons n t h=> .cons ⟨t,rfl⟩ (Hs h)
noncomputable def wt (H:J):Prop:=∀b,H b=none∨∃o xs,H b=some (.iS o (.lst xs))
theorem OT {P:Program} {w:World} {K:PySem.W.Frag} {mg e4:Str→Option Value} {CX:jd} {k:Nat} {fb a:Addr} {fd:FuncData} {x:Str} {sp:iv} {cO:Shared} {vs:List Value} {ns:List Int}
  (jT:K.In cO.heap) (DS:cO.heap.Ns mainGlobals mg) (hb:cO.heap.Ns builtinsNs e4) (xS:∀x:Str,x≠"__name__"→e4 x=bootBuiltins x) (LW:cO.heap.NoLimit) (hg:cO.gens= #[])
  (ha:cO.heap.get? a=some { cls:= .type "list",data:= .seq vs.toArray }) (hi:IntsAre vs ns) (hl:ns.length≤sizeLine) (hr:cZ k callerA)
  (F:∀base:Heap,K.In base→base.Ns mainGlobals mg→gC P w K mg base CX k fb fd [x] sp) (Lx:∀(s:Shared) (u:Value),BindsTo s fd ⟨[u],[]⟩ [(x,u)])
  (mL:∀H:J,wt H→bI K H a (ns.map V.int)→sp [.ref a] H (fun v _=>v= .au true) fun _ _ _=>False)
  (xO:∀H e s',CX [] H cO (fun _ _ _=>False) e s'→False) :
  codeAny (model P w) callerA (.call (.ref fb) ⟨[.ref a],[]⟩) (fun r s'=>r= .ok (.ret (.bool true))∧OldK cO.heap s'.heap∧s'.os=cO.os∧AllBare s'.gens) cO:=by
 have bN:=Hs hi
 have O1:=hi.length
 have core:∀H:J,wt H→bI K H a (ns.map V.int)→dM P w H cO.heap→(∀b,H b≠none→b=a)→(H a≠none→K.lookup a=none)→
   codeAny (model P w) callerA (.call (.ref fb) ⟨[.ref a],[]⟩) (fun r s'=>r= .ok (.ret (.bool true))∧OldK cO.heap s'.heap∧s'.os=cO.os∧AllBare s'.gens) cO:=by
  intro H uk j4 bk hZ hK
  have BK:∀{b:Addr} {o:Obj},cO.heap.get? b=some o→H b=none→(ly cO.heap H).get? b=some o:=fun e n=>LM e n
  have sb:∀{b:Addr} {o:Obj} {ae:Array DictEntry} {dB:Nat},cO.heap.get? b=some o→o.data= .dict ae dB→H b=none:=fun {b o ae dB} e d=>by
   cases q:H b with
   | none=>rfl
   | some u=>
     have bY:b=a:=hZ b (by rw [q]; simp)
     subst bY
     rw [ha] at e; cases e
     have d':Data.seq vs.toArray _=Data.dict ae dB:=d
     cases d'
  have u6:∀{b:Addr} {m:Str→Option Value},cO.heap.Ns b m→(ly cO.heap H).Ns b m:=fun {b m} ⟨o,ae,dB,e,d,r⟩=>⟨o,ae,dB,BK e (sb e d),d,r⟩
  have Dx:K.In (ly cO.heap H):=fun b o e=>BK (jT b o e) (by
   cases q:H b with
   | none=>rfl
   | some u=>
     have bY:b=a:=hZ b (by rw [q]; simp)
     subst bY
     rw [hK (by rw [q]; simp)] at e; cases e)
  have uj:Mod K mg (ly cO.heap H):=⟨Dx,u6 DS,⟨e4,u6 hb,xS⟩,let ⟨uY,h1,h2⟩:=LW; ⟨uY,u6 h1,h2⟩⟩
  have ct:nu P w K mg (ly cO.heap H) callerA [] cO H:=⟨rfl,uj,fun b o e=>P2 e,Nat.le_of_eq (LN _ _),trivial,fun b hb=>absurd (show b∈([]:List Addr) from hb) (by simp),bk,.of_eq hg⟩
  refine codeAny_mono ((F _ Dx (u6 DS)).run callerA [] cO H ⟨[.ref a],[]⟩ [.ref a] [.ref a] _ _ hr ct (Lx cO (.ref a)) (.cons rfl .nil) (mL H uk j4)) fun r s' h=>?_
  cases r with
  | error e=>exact (xO H e s' h).elim
  | ok e2=>
    cases e2 with
    | next=>exact False.elim h
    | brk=>exact False.elim h
    | cont=>exact False.elim h
    | ret u=>
      obtain ⟨v,H',os,bare,un,L5,a4,q⟩:=h
      have cS:v= .au true:=q
      subst cS
      obtain rfl:u=Value.bool true:=a4
      refine ⟨rfl,OldK.of_keep fun b o e=>?_,os,bare⟩
      cases q:H b with
      | none=>exact un.keep b o e q (by intro z; exact absurd (show b∈([]:List Addr) from z) (by simp)) (by simp)
      | some u=>
        rcases uk b with z | ⟨aU,xs,z⟩
        · rw [q] at z; cases z
        · have aX:=un.gp b aU _ z
          obtain ⟨ah,_⟩:=bk b _ z
          obtain ⟨aw,_⟩:=L5 b _ aX
          rw [e] at ah; cases ah
          exact aw
 cases hk:K.lookup a with
 | some o=>
   have e:=jT a o hk
   rw [ha] at e
   cases e
   refine core (fun _=>none) (fun _=> .inl rfl) (.inr ⟨_,vs.toArray,_,hk,rfl,rfl,rfl,by rw [List.size_toArray,O1]; exact hl,by simpa using bN⟩) (fun b u z=>by have fe:(none:Option cY)=some u:=z; cases fe) (fun b z=>absurd rfl z) fun z=>absurd rfl z
 | none=>
   refine core (fun b=>if b=a then some (.iS { cls:= .type "list",data:= .seq vs.toArray } (.lst (ns.map V.int))) else none) (fun b=>?_) (.inl (.inr ⟨{ cls:= .type "list",data:= .seq vs.toArray },if_pos rfl⟩)) (fun b u z=>?_) (fun b z=>?_) fun _=>hk
   · by_cases hb:b=a
     · exact .inr ⟨_,_,if_pos hb⟩
     · exact .inl (if_neg hb)
   · by_cases hb:b=a
     · have fe:=(if_pos hb).symm.trans z
       cases fe
       subst hb
       exact ⟨ha,by rw [List.length_map]; exact hl,vs,_,bN,ha⟩
     · have fe:=(if_neg hb).symm.trans z
       cases fe
   · by_cases hb:b=a
     · exact hb
     · exact absurd (if_neg hb) z
end aZ
namespace aZ
open PySem PySem.Spec PyProof.Rows
theorem UX {l:PySem.W.OpenLaw} {n k:Nat} {q:Program} {loose:List Str} {oU:(Str→Option Value)→Heap→Prop} {mq:World→Heap→Prop} {d:DefRec} {K:Params→PySem.W.Frag} {CX:World→jd} {sp:World→iv} {x:Str}
  (aN:l.most=some n) (ux:n≤sizeLine) (rr:d.params.defaults=[]) (hr:cZ k callerA)
  (xQ:∀(w:World) (h:Heap),mq w h→(K w.params).In h)
  (F:∀(w:World) (mg:Str→Option Value) (fb:Addr) (h:Heap),(K w.params).In h→h.Ns mainGlobals mg→mg d.name=some (.ref fb)→
    ∃fd:FuncData,(∀(s:Shared) (u:Value),BindsTo s fd ⟨[u],[]⟩ [(x,u)])∧
     ∀base:Heap,(K w.params).In base→base.Ns mainGlobals mg→gC l.prog w (K w.params) mg base (CX w) k fb fd [x] (sp w))
  (mL:∀(w:World) (H:J) (a:Addr) (ns:List Int),ns.length≤n→wt H→bI (K w.params) H a (ns.map V.int)→sp w [.ref a] H (fun v _=>v= .au true) fun _ _ _=>False)
  (xO:∀(w:World) (H:J) (s:Shared) (e:Value) (s':Shared),CX w [] H s (fun _ _ _=>False) e s'→False) :
  PySem.W.WalkO q loose oU mq l.row.toRowW d [] (fun f vs=>PySem.call f vs):=by
 refine A_.IH aN rr fun w eD cO mg e4 fb o pm cd doc a vs ns G Y ho hd hcd rv x_ hints hlen hg=>?_
 have jT:=xQ w _ Y
 obtain ⟨fd,hb,kC⟩:=F w mg fb _ jT G.T.g rv
 exact OT jT G.T.g G.T.b G.T.builtins G.T.nolimit hg x_ hints (Nat.le_trans hlen ux) hr kC hb (fun H uk j4=>mL w H a ns hlen uk j4) fun H e s'=>xO w H cO e s'
end aZ
namespace aZ
open PySem PySem.Spec PyProof.Rows
noncomputable def inClass (s:Stmt) (j:Nat):Stmt:=match s with
 | .ClassDef _ _ _ body _ _ _ _ _ _ _=>body.getD j (.Pass ⟨0,0,0,0⟩)
 | _=> .Pass ⟨0,0,0,0⟩
noncomputable def iR (s:Stmt):Arguments:=match s with
 | .FunctionDef _ a _ _ _ _ _ _ _ _=>a
 | _=>{ posonlyargs:=[],args:=[],vararg:=none,kwonlyargs:=[],kw_defaults:=[],kwarg:=none,defaults:=[] }
noncomputable def fl (s:Stmt):List Stmt:=match s with
 | .FunctionDef _ _ b _ _ _ _ _ _ _=>b
 | _=>[]
noncomputable def bP (s:Stmt):Scope:=match s with
 | .FunctionDef _ _ _ _ _ _ sc _ _ _=>sc
 | _=>{ kind:= .function,names:=[],isGenerator:=false,isCoroutine:=false }
noncomputable abbrev gg:jd:=fun _ _ _ _ _ _=>False
noncomputable abbrev wb:cM:=fun _ _ _=>False
theorem ve {X:aG}:Passes gg X wb:=fun _ _ _ _ _ _ _ h=>h.elim
structure jP (K:PySem.W.Frag) (x qual:Str) (st:Stmt) (f:Addr) (fd:FuncData):Prop where
 ex:∃(eL:Value) (de:Option Addr) (cE doc pm:Value) (an:Option Addr) (bX cj:Value) (kf:Array (Option Value)),
  fd=PySem.W.fnOf x qual (iR st) (fl st) (bP st) .none cE doc pm an bX cj∧K.lookup f=some ⟨eL,de,.func fd,kf⟩∧PySem.W.codeIn K bX qual=true
 aC:PySem.W.keepIn K (.ref f)=true
section
variable {P:Program} {w:World} {K:PySem.W.Frag} {mg:Str→Option Value} {base:Heap}
theorem jP.ok {x qual:Str} {st:Stmt} {f:Addr} {fd:FuncData} {N aB:List Str} {k:Nat} {sp:iv} (F:jP K x qual st f fd) (S:cP N aB (bP st)) (len:∀vs H Q E,sp vs H Q E→vs.length=aB.length)
  (xU:∀(bX:Value) (A:Around) (outer:List Env) (s:Shared) (H:J) (vs:List V) (Q:b9) (E:cM),cZ k (A.deeper (envOfC qual (bP st) s.heap.objs.size f bX))→sp vs H Q E→
    ∃t,e9 (eo gg P w K mg base N qual (bP st) f bX A outer s H E).f9 (fl st) t∧t { a9:=fun _ H'=>Q .non H',dF:=Q } (start N vs) H):gC P w K mg base gg (k + 1) f fd aB sp:=by
 obtain ⟨eL,de,cE,doc,pm,an,bX,cj,kf,rfl,lk,hcd⟩:=F.ex
 refine Dl lk hcd S len fun A outer s H vs Q E hr mL=>?_
 obtain ⟨t,h,q⟩:=xU bX A outer s H vs Q E hr mL
 exact ⟨t,h.f9,q⟩
theorem jP.binds {x qual:Str} {st:Stmt} {f:Addr} {fd:FuncData} {aB:List Str} (F:jP K x qual st f fd)
  (h:∀(cE doc pm:Value) (an:Option Addr) (bX cj:Value) (us:List Value),us.length=aB.length→bindArgs (PySem.W.fnOf x qual (iR st) (fl st) (bP st) .none cE doc pm an bX cj) ⟨us,[]⟩=pure (aB.zip us)):Binds K fd aB []:=by
 obtain ⟨eL,de,cE,doc,pm,an,bX,cj,kf,rfl,lk,hcd⟩:=F.ex
 exact .all (h cE doc pm an bX cj)
theorem nV {x qual:Str} {st:Stmt} {f:Addr} {eL:Value} {de an:Option Addr} {kf:Array (Option Value)} {cE doc pm bX cj:Value} (l:K.lookup f=some ⟨eL,de,.func (PySem.W.fnOf x qual (iR st) (fl st) (bP st) .none cE doc pm an bX cj),kf⟩)
  (c:PySem.W.codeIn K bX qual=true) (k:PySem.W.keepIn K (.ref f)=true):jP K x qual st f (PySem.W.fnOf x qual (iR st) (fl st) (bP st) .none cE doc pm an bX cj):=⟨⟨eL,de,cE,doc,pm,an,bX,cj,kf,rfl,l,c⟩,k⟩
end
section
variable {X:aG}
theorem vh (i:Nat) {x:Str} {pos:Pos} (hN:X.N[i]? =some x:=by rfl) (hv:fG X.env.scope x:=by first | exact Or.inl rfl | exact Or.inr (Or.inl rfl) | exact Or.inr (Or.inr rfl)) (hd:(x == ("__debug__" :Str))=false:=by decide)
  (hcd:(x == ("__classdict__" :Str))=false:=by decide):aS X (.Name x pos) (sN i):=jE hN hv hd hcd
end
noncomputable def oR (H H':J):Prop:=∀b o,H b=some o→H' b=some o
theorem oR.trans {H H1 aH:J} (a:oR H H1) (b:oR H1 aH):oR H aH:=fun c o h=>b c o (a c o h)
theorem oR.free {H H':J} (e:oR H H') {l:Addr} (h:H' l=Option.none):H l=Option.none:=by
 cases q:H l with
 | none=>rfl
 | some o=>
   rw [e l o q] at h
   cases h
end aZ
namespace aZ
open PySem PySem.Spec PyProof.Rows
section
variable {X:aG}
end
section
variable {κ:Type} [DecidableEq κ]
end
end aZ
set_option Elab.async false
set_option linter.all false
set_option maxRecDepth 100000
set_option autoImplicit false
namespace aZ
open PySem PySem.Spec PyProof.Rows
structure kn (P:Program) (w:World) (outer:List Env) (H H':J) (s:Shared) (a:Addr) (C eN:Value) (B:Heap) (s':Shared):Prop where
 os:s'.os=s.os
 bare:AllBare s'.gens
 un:eI (dN outer) [] H H' s.heap s'.heap
 kz:Heap.FlyingW B outer a C eN s'.heap
 old:∀b o,s.heap.get? b=some o→H b=none→b∉dN outer→B.get? b=some o
 sP:∀b o,s.heap.get? b=some o→b∉dN outer→∃bC,B.get? b=some bC
 bk:dM P w H' B
 ha:H' a=none
noncomputable def fW (P:Program) (w:World):jd:=fun outer H s E e s'=>∃(a:Addr) (C eN:Value) (B:Heap) (H':J),e= .ref a∧kn P w outer H H' s a C eN B s'∧E C (some a) H'
section
variable {X:aG} {pins:List (Addr×Obj)} {σ :St} {H H':J} {s s':Shared} {a:Addr} {C eN:Value} {B:Heap}
theorem dM.part (x:dM X.prog X.w H s.heap) (k:∀b u,(H b).isSome=true→s.heap.get? b=some u→B.get? b=some u):dM X.prog X.w H B:=fun b o e=>
 (x b o e).ki (fun c u hc q=>k c u (by rcases hc with rfl | hc <;> simp [*]) q) (fun _ q=>q) fun _ _ q=>q
theorem Dp {env:Env} {outer:List Env} {L:Addr} (h:env.frame=some L) {b:Addr} (hb:b∈dN (env::outer)):b=L∨b∈dN outer:=by
 unfold dN at hb
 rw [List.filterMap_cons,h] at hb
 exact List.mem_cons.mp hb
theorem Inv.OZ {M:Model} {A:Around} {E:Value→Shared→Prop} {h':Heap} {vs:List Value} {Q:Unit→Shared→Prop} (I:Inv X pins σ H s) (hst:X.stack=X.env::X.outer) (kE:X.env.frame=some X.env.locals) (hex:X.ex=[])
  (hZ:A.frames=some X.stack) (hx:Heap.MadeExcOf s.heap h' a C vs)
  (fC:∀eN B i_,kn X.prog X.w X.outer X.nv H X.eD a C eN B i_→Q () i_):wpAny M A (leaving X.env (.ref a)) Q E { s with heap:=h' }:=by
 have x4:∀env∈X.stack,∀b,env.frame=some b→b∈dN X.stack:=fun env he b hb=>List.mem_filterMap.mpr ⟨env,he,hb⟩
 have lu:∀b o,s.heap.get? b=some o→b∉dN X.stack→(PySem.W.hideAll s.heap (dN X.stack)).get? b=some o:=fun b o q n=>PySem.W.hideAll_get _ q n
 have lz:∀b o,X.eD.heap.get? b=some o→b∉dN X.outer→b∉dN X.stack:=fun b o q n z=>by
  rw [hst] at z
  rcases Dp kE z with r | r
  · subst r
    exact absurd (Nat.lt_of_lt_of_le (Heap.lt_size q) I.ok.above) (Nat.lt_irrefl _)
  · exact n r
 have gq:∀b,b∉X.ex:=fun b z=>by rw [hex] at z; cases z
 refine PySem.wpAny_leaves_madeW (base:=PySem.W.hideAll s.heap (dN X.stack)) (h:=s.heap) (by rw [hZ,hst]) kE (fun b o q=>PySem.W.of_hideAll _ q) (by have:=PySem.W.funFrames_hide (as:=dN X.stack) I.stack x4; rw [hst] at this ⊢; exact this) hx fun jq t d2 dP oD ng=>?_
 refine fC (.ref t) (PySem.W.hideAll s.heap (dN X.stack)) _ ⟨I.os,I.bare,⟨?_,?_,?_,?_,I.base.gM,I.base.gp,I.base.gL⟩,d2,?_,?_,?_,?_⟩
 · exact fun b o q n hb _=>d2.1 b o (lu b o (I.base.keep b o q n hb (gq b)) (lz b o q hb))
 · intro b o q n hb _
   obtain ⟨cc,aW⟩:=I.base.slot b o q n hb (gq b)
   obtain ⟨_,bC,cS,gH⟩:=I.ok.hX.mem hb
   rw [q] at cS; cases cS
   obtain ⟨sC,bG⟩:=ng b _ (hx.keeps b _ aW) gH
   exact ⟨sC,bG⟩
 · exact fun b o q n _=>I.base.free b o q n (gq b)
 · intro b o q _
   by_cases hb:b∈dN X.outer
   · obtain ⟨_,bC,cS,_⟩:=d2.2.2.1.mem hb
     exact ⟨bC,cS⟩
   · obtain ⟨bC,cS⟩:=I.base.there b o q (gq b)
     exact ⟨bC,d2.1 b bC (lu b bC cS (lz b o q hb))⟩
 · exact fun b o q n hb=>lu b o (I.base.keep b o q n hb (gq b)) (lz b o q hb)
 · intro b o q hb
   obtain ⟨bC,cS⟩:=I.base.there b o q (gq b)
   exact ⟨bC,lu b bC cS (lz b o q hb)⟩
 · exact dM.part (X:=X) (s:=s) I.bk fun b u hs q=>lu b u q fun z=>by rw [I.Ao b z] at hs; cases hs
 · cases q:H a with
   | none=>rfl
   | some o=>
     have k:∀o:cY,en X.prog X.w H s.heap a o→∃u,s.heap.get? a=some u:=fun o x=>by
      induction o with
      | lst xs=>obtain ⟨_,_,_,_,e⟩:=x; exact ⟨_,e⟩
      | tup xs=>obtain ⟨_,_,_,_,e,_⟩:=x; exact ⟨_,e⟩
      | cL aQ=>obtain ⟨_,_,_,_,o,_,_,e,_⟩:=x; exact ⟨_,e⟩
      | bx aQ=>obtain ⟨_,_,_,_,o,_,_,e,_⟩:=x; exact ⟨_,e⟩
      | set S n=>obtain ⟨o,_,_,_,e,_⟩:=x; exact ⟨_,e⟩
      | ins C aT aO=>obtain ⟨_,_,_,e,_⟩:=x; exact ⟨_,e⟩
      | own y=>obtain ⟨_,e⟩:=x; exact ⟨_,e⟩
      | vP aO=>obtain ⟨_,⟨_,_,_,e,_⟩,_⟩:=x; exact ⟨_,e⟩
      | vj lo hi=>obtain ⟨_,_,_,e⟩:=x; exact ⟨_,e⟩
      | iS aU u=>obtain ⟨e,_⟩:=x; exact ⟨_,e⟩
      | nf aB=>exact ⟨_,(show s.heap.get? a=some _ from x)⟩
      | met f y=>exact ⟨_,(show s.heap.get? a=some _ from x)⟩
      | ext oJ=>obtain ⟨_,⟨_,e⟩,_⟩:=x; exact ⟨_,e⟩
     obtain ⟨u,e⟩:=k o (I.bk a o q)
     rw [hx.new] at e; cases e
theorem Inv.O0 {M:Model} {A:Around} {E:Value→Shared→Prop} {Q:Unit→Shared→Prop} (I:Inv X pins σ H s) (hst:X.stack=X.env::X.outer) (kE:X.env.frame=some X.env.locals) (hex:X.ex=[])
  (hZ:A.frames=some X.stack) (f:kn X.prog X.w X.stack H H' s a C eN B s')
  (fC:∀i_,kn X.prog X.w X.outer X.nv H' X.eD a C eN B i_→Q () i_):wpAny M A (leaving X.env (.ref a)) Q E s':=by
 have lz:∀b o,X.eD.heap.get? b=some o→b∉dN X.outer→b∉dN X.stack:=fun b o q n z=>by
  rw [hst] at z
  rcases Dp kE z with r | r
  · subst r
    exact absurd (Nat.lt_of_lt_of_le (Heap.lt_size q) I.ok.above) (Nat.lt_irrefl _)
  · exact n r
 have L8:∀b,b∈dN X.outer→b∈dN X.stack:=fun b z=>by
  rw [hst]; unfold dN; rw [List.filterMap_cons,kE]; exact List.mem_cons_of_mem _ z
 have gq:∀b,b∉X.ex:=fun b z=>by rw [hex] at z; cases z
 have no:∀b:Addr,b∉([]:List Addr):=fun b z=>by cases z
 obtain ⟨os,bare,un,kz,old,sP,bk,ha⟩:=f
 rw [hst] at kz
 refine PySem.wpAny_leaves_onW (by rw [hZ,hst]) kE kz fun jq d2 dP=>?_
 refine fC _ ⟨os.trans I.os,bare,⟨?_,?_,?_,?_,fun b xs q=>un.gM b xs (I.base.gM b xs q),fun b o u q=>un.gp b o u (I.base.gp b o u q),?_⟩,d2,?_,?_,bk,ha⟩
 · exact fun b o q n hb _=>d2.1 b o (old b o (I.base.keep b o q n hb (gq b)) (I.base.free b o q n (gq b)) (lz b o q hb))
 · intro b o q n hb _
   obtain ⟨cc,aW⟩:=I.base.slot b o q n hb (gq b)
   obtain ⟨_,bC,cS,gH⟩:=I.ok.hX.mem hb
   rw [q] at cS; cases cS
   obtain ⟨Xw,bG⟩:=un.slot b _ aW (I.base.free b o q n (gq b)) (L8 b hb) (no b)
   obtain ⟨sC,er⟩:=dP b _ bG gH
   exact ⟨sC,er⟩
 · intro b o q n _
   obtain ⟨bC,cS⟩:=I.base.there b o q (gq b)
   exact un.free b bC cS (I.base.free b o q n (gq b)) (no b)
 · intro b o q _
   by_cases hb:b∈dN X.outer
   · obtain ⟨_,bC,cS,_⟩:=d2.2.2.1.mem hb
     exact ⟨bC,cS⟩
   · obtain ⟨bC,cS⟩:=I.base.there b o q (gq b)
     obtain ⟨b3,bG⟩:=sP b bC cS (lz b o q hb)
     exact ⟨b3,d2.1 b b3 bG⟩
 · intro b aB q
   obtain ⟨m1,ah⟩:=I.base.gL b aB q
   obtain ⟨m2,aw⟩:=un.gL b _ ah
   exact ⟨m1 ++ m2,by rw [aw,Array.append_assoc]⟩
 · exact fun b o q n hb=>old b o (I.base.keep b o q n hb (gq b)) (I.base.free b o q n (gq b)) (lz b o q hb)
 · intro b o q hb
   obtain ⟨bC,cS⟩:=I.base.there b o q (gq b)
   exact sP b bC cS (lz b o q hb)
end
end aZ
set_option Elab.async false
set_option linter.all false
set_option maxRecDepth 100000
set_option autoImplicit false
namespace aZ
open PySem PySem.Spec PyProof.Rows
theorem K2 {K:PySem.W.Frag} {h:Heap} {C:Addr} {q0:List Value} {newId:String} (X:K.In h) (q:PySem.W.excIn K C q0 newId=true) :
  ∃bm N nm q bs hdct sn sub ab col dd k0 k1 k2 k3 k5 mN,h.get? C=some (excClassObj nm q C N bs bm hdct sn sub ab col dd k0 k1 k2 k3 k5 newId)∧h.Ns N mN∧mN "__init__"=none∧OwnTail h q0 bm:=by
 unfold PySem.W.excIn at q
 split at q
 · rename_i dd cd cc ho
   split at q
   · rename_i iI bm k0 k1 k2 k3 n k5 hm hs
     simp only [Bool.and_eq_true,beq_iff_eq,Bool.not_eq_true'] at q
     obtain ⟨⟨⟨⟨⟨rfl,rfl⟩,DH⟩,ht⟩,bk⟩,uy⟩:=q
     obtain ⟨nm,bs,mro,ns,qn,hd,sn,sub,ab,col,del⟩:=cd
     dsimp only at hm DH bk uy
     subst hm DH
     have Me:cc= #[k0,k1,k2,k3,some (.builtin n),k5]:=by
      obtain ⟨l⟩:=cc
      simp only at hs
      rw [hs]
     subst Me
     exact ⟨bm,ns,nm,qn,bs,hd,sn,sub,ab,col,dd,k0,k1,k2,k3,k5,_,X _ _ ho,.of_isNs (PySem.W.isNs_of_in X bk),PySem.W.nsMap_none_of_in X bk uy,PySem.W.tail_of_in X ht⟩
   · cases q
 · cases q
noncomputable def GL (X:aG) (C:Addr):d5:=fun _ σ H=>∀pins s h' a vs,Inv X pins σ H s→Heap.MadeExcOf s.heap h' a (.ref C) vs→X.xe (.ref a) { s with heap:=h' }
section
variable {X:aG} {x:Str} {np bS pos tX:Pos} {C:Addr} {q0:List Value} {B newId Nk:String} {m:Str} {j:Nat}
theorem Rg (FB:ExcBaseFacts B newId Nk q0) (q:PySem.W.excIn X.K C q0 newId=true) (hm:X.mg x=some (.ref C)) (hc:X.calm=true:=by rfl) (hg:cv X x:=by rfl) (hd:(x == ("__debug__" :Str))=false:=by decide) :
  cK X (.Raise (some (.Call (.Name x np) [.Constant (.str m) j tX] [] bS)) none pos) (GL X C):=by
 intro pins s σ H D I h
 obtain ⟨bm,N,nm,qn,bs,hdct,sn,sub,ab,col,dd,k0,k1,k2,k3,k5,mN,h_,hN,uy,Bp⟩:=K2 I.mod.lD q
 refine wpAny_Raise_call_subT (mN:=mN) (C:=C) (nm:=nm) (q:=qn) (N:=N) (bs:=bs) (bm:=bm) (hdct:=hdct) (sn:=sn) (sub:=sub) (ab:=ab) (col:=col) (dd:=dd) (k0:=k0) (k1:=k1) (k2:=k2) (k3:=k3) (k5:=k5) FB (Bp.hasType FB.hasBase) (I.ok.hd hc) rfl uy (pJ I hg hm ⟨rfl,?_⟩ hd)
 refine Calls.evalArgs_plain (Calls.spliced_cons (bu (FA (X:=X) (x:=m) (j:=j) (pos:=tX) pins s σ H (fun _ H1=>H1=H) I rfl) fun u s1 ⟨v,H1,aP,ao,ah⟩=>?_))
 subst ah
 refine Calls.spliced_nil ⟨rfl,Nat.le_of_ble_eq_true rfl,aP.eB _ _ h_,hN.keeps aP.eB,Bp.keeps aP.eB,fun h' a hx=>h pins s1 h' a _ aP hx⟩
theorem Vk {P:Program} {w:World} {K:PySem.W.Frag} {mg:Str→Option Value} {base:Heap} {N:List Str} {qual:Str} {scope:Scope} {f:Addr} {cd:Value} {A:Around} {outer:List Env} {s0:Shared} {a7:J} {E:cM} {σ :St} {H:J} {b6:Ends}
  (h:∀a,H a=none→E (.ref C) (some a) H):GL (eo (fW P w) P w K mg base N qual scope f cd A outer s0 a7 E) C b6 σ H:=fun pins s h' a vs I hx=>
 I.OZ (C:= .ref C) rfl rfl rfl I.ok.frames hx fun eN B i_ e2=>⟨a,.ref C,eN,B,H,rfl,e2,h a e2.ha⟩
theorem Qz {P:Program} {w:World} {K:PySem.W.Frag} {mg:Str→Option Value} {base:Heap} {N:List Str} {qual:Str} {scope:Scope} {f:Addr} {cd:Value} {A:Around} {outer:List Env} {s0:Shared} {a7:J} {E:cM} :
  Passes (fW P w) (eo (fW P w) P w K mg base N qual scope f cd A outer s0 a7 E) E:=fun pins σ H s e s' I hx=>by
 obtain ⟨a,C,eN,B,H',rfl,e2,hE⟩:=hx
 exact I.O0 (X:=eo (fW P w) P w K mg base N qual scope f cd A outer s0 a7 E) rfl rfl rfl I.ok.frames e2 fun i_ Ld=>⟨a,C,eN,B,H',rfl,Ld,hE⟩
end
end aZ
set_option Elab.async false
set_option linter.all false
set_option maxRecDepth 100000
set_option autoImplicit false
namespace aZ
open PySem PySem.Spec PyProof.Rows
noncomputable abbrev nS (a:Addr) (C:Value):cY:= .ext fun h=>∃aU,h.get? a=some aU∧aU.cls=C
section
variable {X:aG} {pins:List (Addr×Obj)} {σ :St} {H H':J} {s s':Shared} {a:Addr} {C eN:Value} {B:Heap} {jq:Heap}
theorem kn.inv (f:kn X.prog X.w X.stack H H' s a C eN B s') (I:Inv X pins σ H s) (st:B.StaysIn jq) (xC:jq.FunFrames B X.stack) (up:s'.heap.UpToSlots jq):Inv X pins σ H' { s' with heap:=jq }:=by
 have no:∀b:Addr,b∉([]:List Addr):=fun b z=>by cases z
 refine I.BX (s':={ s' with heap:=jq }) (ch:=[]) f.os ⟨fun b o q n hb _=>st b o (f.old b o q n hb),fun b o q n hb _=>?_,f.un.free,fun b o q _=>?_,f.un.gM,f.un.gp,f.un.gL⟩ (f.bk.kept fun b u q=>st b u q) f.bare (fun b hb=>nomatch hb)
 · obtain ⟨cc,aW⟩:=f.un.slot b o q n hb (no b)
   obtain ⟨_,bC,cS,gH⟩:=I.stack.mem hb
   rw [q] at cS; cases cS
   obtain ⟨sC,bG⟩:=up b _ aW gH
   exact ⟨sC,bG⟩
 · by_cases hb:b∈dN X.stack
   · obtain ⟨_,bC,cS,_⟩:=xC.mem hb
     exact ⟨bC,cS⟩
   · obtain ⟨bC,cS⟩:=f.sP b o q hb
     exact ⟨bC,st b bC cS⟩
theorem kn.u5 (f:kn X.prog X.w X.stack H H' s a C eN B s') {b:Addr} {o:Obj} (q:s.heap.get? b=some o):b≠a:=by
 rintro rfl
 by_cases hb:b∈dN X.stack
 · obtain ⟨_,bC,cS,gH⟩:=f.kz.2.2.1.mem hb
   obtain ⟨u_,vs,T,Xe,ts,he,hc,hd,_⟩:=f.kz.2.2.2
   rw [cS] at he; cases he
   exact gH vs hd
 · obtain ⟨bC,cS⟩:=f.sP b o q hb
   rw [f.kz.2.1] at cS; cases cS
theorem kn.Ug (f:kn X.prog X.w X.stack H H' s a C eN B s') (I:Inv X pins σ H s) (hex:X.ex=[]) (st:B.StaysIn jq) (xC:jq.FunFrames B X.stack) (up:s'.heap.UpToSlots jq) (aU:∃o,jq.get? a=some o∧o.cls=C) :
  Inv X pins σ (upd H' a (nS a C)) { s' with heap:=jq }:=by
 have bp:=f.inv I st xC up
 have gq:∀b,b∉X.ex:=fun b z=>by rw [hex] at z; cases z
 have na:∀{b:Addr} {u:cY},H' b=some u→b≠a:=fun {b u} q=>hH q f.ha
 have old:∀{b:Addr} {o:Obj},X.eD.heap.get? b=some o→b≠a:=fun {b o} q=>by
  obtain ⟨bC,cS⟩:=I.base.there b o q (gq b)
  exact f.u5 cS
 refine ⟨bp.ok,bp.os,bp.bare,⟨bp.base.keep,bp.base.slot,fun b o q n hx=>?_,bp.base.there,fun b xs q=>?_,fun b o u q=>?_,fun b aB q=>?_⟩,bp.loc,bp.cell,?_,fun x c e=>?_,fun p hp=>?_,fun b o q=>?_,bp.len⟩
 · rw [cG (old q)]; exact bp.base.free b o q n hx
 · have:=bp.base.gM b xs q
   rw [cG (na this)]; exact this
 · have:=bp.base.gp b o u q
   rw [cG (na this)]; exact this
 · obtain ⟨m,e⟩:=bp.base.gL b aB q
   exact ⟨m,by rw [cG (na e)]; exact e⟩
 · obtain ⟨m,⟨o,_,_,ho,_⟩,_⟩:=I.loc
   rw [cG (f.u5 ho)]; exact bp.free
 · obtain ⟨v,o,ho,_⟩:=I.cell x c e
   rw [cG (f.u5 ho)]; exact bp.iA x c e
 · obtain ⟨e,n,r⟩:=bp.pin p hp
   obtain ⟨ct,_⟩:=I.pin p hp
   exact ⟨e,by rw [cG (f.u5 ct)]; exact n,r⟩
 · by_cases hb:b=a
   · subst hb
     rw [dv] at q; cases q
     obtain ⟨o,e,c⟩:=aU
     exact ⟨⟨o,e,c⟩,⟨o,e⟩,fun h1 h2 ⟨cn,ah,bD⟩ k=>⟨cn,k cn ah,bD⟩⟩
   · rw [cG hb] at q
     exact (bp.bk b o q).ki (fun c v _ r=>r) (fun c r=>by rw [cG (na r)]; exact r) fun c xs r=>by rw [cG (na r)]; exact r
end
noncomputable def Bk (X:aG) (e:Expr) (t:TE) (E:cM):Prop:=∀(pins:List (Addr×Obj)) (s:Shared) (σ :St) (H:J) (Q:b9),Inv X pins σ H s→t σ H Q→
 wpAny (model X.prog X.w) X.A (eval e X.env) (ff X pins σ Q) (fun x s'=>∃H1 s1,Inv X pins σ H1 s1∧fW X.prog X.w X.stack H1 s1 E x s') s
section
variable {X:aG} {k:Nat} {f C:Addr} {fd:FuncData} {aB:List Str} {sp:iv} {E:cM} {x:Str} {p pos:Pos} {e:Expr} {ae:List Expr} {t:eH}
theorem QY (F:gC X.prog X.w X.K X.mg X.base (fW X.prog X.w) k f fd aB sp) (hr:cZ k X.A) (hg:cv X x) (hm:X.mg x=some (.ref f)) (hk:PySem.W.keepIn X.K (.ref f)=true) (hb:Binds X.K fd aB [])
  (ha:e8 X.f9 (e::ae) t) (hdb:(x == ("__debug__" :Str))=false:=by decide) (he:starEach (e::ae) X.env=(false,eval e X.env)::starEach ae X.env:=by rfl) (hpl:(backTo pos (starEach ae X.env)).any (·.1)=false:=by rfl) :
  Bk X (.Call (.Name x p) (e::ae) [] pos) (sJ sp [] E t) E:=by
 intro pins s σ H Q I h
 refine wpAny_Call_Name_kw (pJ I hg hm ?_ hdb)
 refine PySem.W.callWith_K (h₀:=X.base) I.ok.mod.lD hk (wpAny_mono (ha pos pins s σ H _ (I.iG _) h) (fun us s1 ⟨vs,H1,aP,r,q⟩=>⟨aP.hI.eP,?_⟩) fun _ _ z=>z.elim) he hpl
 have bp:=aP.hI
 replace q:sp (vs ++ []) H1 Q E:=q
 rw [List.append_nil] at q
 have hl:us.length=aB.length:=by rw [←r.length]; exact F.len _ _ _ _ q
 refine wpAny_call (codeAny_mono (F.run X.A X.stack s1 H1 ⟨us,[]⟩ us vs Q E hr bp.xq (by have:=hb s1 us bp.eP (by rw [List.append_nil]; exact hl); rw [List.append_nil] at this; exact this) r q) fun r s' aD=>?_)
 cases r with
 | error e=>exact ⟨H1,s1,bp,aD⟩
 | ok e2=>
   cases e2 with
   | ret u=>exact bp.after aD
   | next=>exact False.elim aD
   | brk=>exact False.elim aD
   | cont=>exact False.elim aD
end
end aZ
set_option Elab.async false
set_option linter.all false
set_option maxRecDepth 100000
set_option autoImplicit false
namespace aZ
open PySem PySem.Spec PyProof.Rows
noncomputable abbrev aG.marked (X:aG) (a:Addr):aG:={ X with A:=X.A.mark (some (.ref a)),calm:=false,xe:=fun _ _=>False }
section
variable {X:aG} {pins:List (Addr×Obj)} {σ :St} {H H':J} {s s':Shared} {a:Addr}
theorem aG.Ok.marked (ok:X.Ok) (a:Addr):(X.marked a).Ok:=
 ⟨ok.mod,ok.kind,ok.glob,ok.blt,ok.above,ok.inj,ok.has,ok.ph,(fun z=>Bool.noConfusion z),ok.frames,ok.sG,ok.xw,ok.bs,ok.lj,ok.mX,ok.rf,ok.hX,ok.mD⟩
theorem Inv.marked (I:Inv X pins σ H s) (a:Addr):Inv (X.marked a) pins σ H s:=⟨I.ok.marked a,I.os,I.bare,I.base,I.loc,I.cell,I.free,I.iA,I.pin,I.bk,I.len⟩
theorem Inv.unmarked (ok:X.Ok) (I:Inv (X.marked a) pins σ H s):Inv X pins σ H s:=⟨ok,I.os,I.bare,I.base,I.loc,I.cell,I.free,I.iA,I.pin,I.bk,I.len⟩
theorem Inv.unset {i:Nat} {n:Str} {m:Str→Option Value} {v:Option Value} {h':Heap} {cR:Nat} (I:Inv X pins σ H s) (hN:X.N.Nodup) (hi:X.N[i]? =some n)
  (hl:∀(i:Nat) (x:Str) (v:V),X.N[i]? =some x→ σ[i]? =some (some v)→fG X.env.scope x→∃u,RelV v u∧Look X.env s.heap m x u) (aN:s.heap.Ns X.env.locals m)
  (rx:h'.Ns X.env.locals (fun y=>if y=n then v else m y)) (hs:Heap.SameBut X.env.locals s.heap h'):Inv X pins (σ.set i none) H { s with heap:=h',toks:=cR }:=by
 have ne:∀{b:Addr} {o:Obj},X.eD.heap.get? b=some o→b≠X.env.locals:=fun {b o} e=>Nat.ne_of_lt (Nat.lt_of_lt_of_le (Heap.lt_size e) I.ok.above)
 have cell:∀x c v,X.env.cells.lookup x=some c→s.heap.IsCell c v→h'.IsCell c v:=fun x c v e ⟨o,ho,hd⟩=>⟨o,(hs.2 c (I.mA x c e)).trans ho,hd⟩
 refine ⟨I.ok,I.os,I.bare,⟨fun b o e n hb hx=>(hs.2 b (ne e)).trans (I.base.keep b o e n hb hx),fun b o e n hb hx=>?_,I.base.free,fun b o e hx=>?_,I.base.gM,I.base.gp,I.base.gL⟩,⟨_,rx,fun j y jK ah aw bK=>?_⟩,fun y c e=>?_,I.free,I.iA,fun p hp=>?_,fun b aU e=>?_,by simpa using I.len⟩
 · obtain ⟨cc,ah⟩:=I.base.slot b o e n hb hx
   exact ⟨cc,(hs.2 b (ne e)).trans ah⟩
 · obtain ⟨bC,ah⟩:=I.base.there b o e hx
   exact ⟨bC,(hs.2 b (ne e)).trans ah⟩
 · have cD:j≠i:=by
    rintro rfl
    rw [List.getElem?_set] at aw
    split at aw
    · split at aw <;> cases aw
    · exact absurd rfl ‹_›
   rw [List.getElem?_set_ne (Ne.symm cD)] at aw
   obtain ⟨u,r,l⟩:=hl j y jK ah aw bK
   refine ⟨u,r,?_⟩
   rcases l with ⟨k,q⟩ | ⟨k,c,q,z⟩
   · refine .inl ⟨k,?_⟩
     show (if y=n then v else m y)=some u
     rw [if_neg (fun z:y=n=>cD (y6 hN ah (by rw [z]; exact hi)))]
     exact q
   · exact .inr ⟨k,c,q,cell _ _ _ q z⟩
 · obtain ⟨v,z⟩:=I.cell y c e
   exact ⟨v,cell y c v e z⟩
 · obtain ⟨e,n,ne',gH,d⟩:=I.pin p hp
   exact ⟨(hs.2 _ ne').trans e,n,ne',gH,d⟩
 · have fm:H X.env.locals=none:=I.free
   refine (I.bk b aU e).ki (fun c fF hc q=>(hs.2 c ?_).trans q) (fun _ q=>q) fun _ _ q=>q
   rintro rfl
   rcases hc with rfl | hc
   · rw [fm] at e; cases e
   · rw [fm] at hc; cases hc
theorem vI {M:Model} {A:Around} {E:Value→Shared→Prop} {i:Nat} {n:Str} {pos:Pos} {Q:Unit→Shared→Prop} (I:Inv X pins σ H s) (hN:X.N.Nodup) (hi:X.N[i]? =some n) (hl:X.env.scope.names.lookup n=some .local)
  (h:∀s',Inv X pins (σ.set i none) H s'→Q () s'):wpAny M A (do bindName X.env n .none; unbindBehindTheSuite X.env n pos) Q E s:=by
 obtain ⟨m,aN,pA⟩:=id I.loc
 exact wpAny_nameGoes_keeps hl aN (by rw [I.ok.kind]; rfl) fun h' v rx hs=>h _ (I.unset hN hi pA aN rx hs)
end
section
variable {X:aG} {i:Nat} {x n:Str} {W:Addr} {e:Expr} {te:TE} {E:cM} {pd:Stmt} {qh:List Stmt} {ts:d5} {p7 np hp pos:Pos}
end
end aZ
set_option Elab.async false
set_option linter.all false
set_option maxRecDepth 100000
namespace aZ
open PySem PySem.Spec PyProof.Rows
noncomputable def hW (env:Env):List (Str×NameKind)→List (Str×Addr)→List (Str×Addr)
 | [],cs=>cs
 | (x,k)::r,cs=>hW env r (if k == .free then (x,(env.cells.lookup x).getD 0)::cs else cs)
theorem B4 {env:Env}:∀(names:List (Str×NameKind)) (cs:List (Str×Addr)),(∀p∈names,p.2= .free→∃c,env.cells.lookup p.1=some c)→
 (forIn (m:=Sem) names cs fun (x:Str×NameKind) cs=>if (x.2 == NameKind.free)=true then do
   let a ←cellOf env x.1
   pure (ForInStep.yield ((x.1,a)::cs)) else pure (ForInStep.yield cs))=pure (hW env names cs)
 | [],cs,_=>rfl
 | (x,k)::r,cs,h=>by
   rw [List.forIn_cons]
   have b8:=B4 (env:=env) r
   by_cases hk:k= .free
   · subst hk
     obtain ⟨c,hc⟩:=h (x,.free) List.mem_cons_self rfl
     have ah:cellOf env x=pure c:=by unfold cellOf; rw [hc]
     simp only [beq_self_eq_true,if_true,hW,ah,hc,Option.getD_some,pure_bind]
     exact b8 _ fun p hp=>h p (List.mem_cons_of_mem _ hp)
   · have hb:(k == NameKind.free)=false:=by simpa using hk
     simp only [hb,Bool.false_eq_true,if_false,hW,pure_bind]
     exact b8 _ fun p hp=>h p (List.mem_cons_of_mem _ hp)
theorem B3 {env:Env} {scope:Scope} (h:∀p∈scope.names,p.2= .free→∃c,env.cells.lookup p.1=some c):closureFor scope env=pure (hW env scope.names []):=by
 have e:=B4 (env:=env) scope.names [] h
 unfold closureFor
 refine Eq.trans (b:=(forIn (m:=Sem) scope.names [] fun (x:Str×NameKind) cs=>if (x.2 == NameKind.free)=true then do
   let a ←cellOf env x.1
   pure (ForInStep.yield ((x.1,a)::cs)) else pure (ForInStep.yield cs)) >>= pure) rfl ?_
 rw [e]
 rfl
theorem B2 {env:Env} {x:Str}:∀(names:List (Str×NameKind)) (cs:List (Str×Addr)),(∀p∈names,p.2= .free→∃c,env.cells.lookup p.1=some c)→
  (hW env names cs).lookup x=if (x,NameKind.free)∈names then env.cells.lookup x else cs.lookup x
 | [],cs,_=>by simp [hW]
 | (y,k)::r,cs,h=>by
   rw [hW,B2 r _ fun p hp=>h p (List.mem_cons_of_mem _ hp)]
   by_cases hm:(x,NameKind.free)∈r
   · rw [if_pos hm,if_pos (List.mem_cons_of_mem _ hm)]
   · rw [if_neg hm]
     by_cases hk:k= .free
     · subst hk
       obtain ⟨c,hc⟩:=h (y,.free) List.mem_cons_self rfl
       by_cases hx:x=y
       · subst hx
         rw [if_pos List.mem_cons_self]
         simp [List.lookup_cons,hc]
       · have nm:¬ (x,NameKind.free)∈(y,NameKind.free)::r:=fun z=>by
          rcases List.mem_cons.mp z with e | e
          · exact hx (by injection e)
          · exact hm e
         rw [if_neg nm]
         have hb:(x == y)=false:=by simpa using hx
         simp [List.lookup_cons,hb]
     · have hb:(k == NameKind.free)=false:=by simpa using hk
       have nm:¬ (x,NameKind.free)∈(y,k)::r:=fun z=>by
        rcases List.mem_cons.mp z with e | e
        · exact hk (by injection e with _ aw; exact aw.symm)
        · exact hm e
       rw [if_neg nm]
       simp [hb]
theorem Jp {prog:Program} {w:World} {A:Around} {R:Result→Shared→Prop} {s:Shared} {elt target iter:Expr} {ifs:List Expr} {scope:Scope} {pos:Pos} {it acc:Value} {env:Env} (I:Nat→Shared→Prop)
  (turn:∀n s,I n s→wpAny (model prog w) A (pyNext it) (fun r cO=>match r with
    | none=>R (.ok .next) cO
    | some v=>wpAny (model prog w) A (letOwnedTupleGo target it v) (fun _ Gs=>wpAny (model prog w) A (assign target env v) (fun _ nc=>
       wpAny (model prog w) A (forIn ifs true fun c r=>if r=true then do let ok ←isTrue c env (eval c env); pure (ForInStep.yield ok) else pure (ForInStep.yield r)) (fun ok sH=>
        if ok=true then wpAny (model prog w) A (eval elt env) (fun x vy=>
         wpAny (model prog w) A (call (.builtin "list.append") [acc,x]) (fun _ Gu=>∃m,m < n∧I m Gu) (notedBy (model prog w) A env fun e s'=>R (.error e) s') vy) (notedBy (model prog w) A env fun e s'=>R (.error e) s') sH
        else ∃m,m < n∧I m sH) (notedBy (model prog w) A env fun e s'=>R (.error e) s') nc) (notedBy (model prog w) A env fun e s'=>R (.error e) s') Gs) (notedBy (model prog w) A env fun e s'=>R (.error e) s') cO) (notedBy (model prog w) A env fun e s'=>R (.error e) s') s)
  (n:Nat) (h:I n s):codeAny (model prog w) A (.compLoop (.ListComp elt [⟨target,iter,ifs,0⟩] scope pos) 0 it acc env) R s:=by
 refine codeAny_loop rfl I (fun n s j3=>?_) n h
 show wpAny _ A ((compTurn (.ListComp elt [⟨target,iter,ifs,0⟩] scope pos) 0 it acc env).onRaise (fun x=>do noteFrame x env; theTreesLotGoes x)) _ _ s
 refine wpAny_noted ?_
 rw [compTurn_list]
 refine wpAny_bind (wpAny_standAt (wpAny_bind (wpAny_mono (turn n s j3) (fun r cO kF=>?_) fun _ _ h'=>h')))
 cases r with
 | none=>exact wpAny_pure kF
 | some v=>
   refine wpAny_bind (wpAny_mono kF (fun _ Gs Mo=>?_) fun _ _ h'=>h')
   refine wpAny_bind (wpAny_mono Mo (fun _ nc n0=>wpAny_bind (wpAny_mono n0 (fun ok sH mQ=>?_) fun _ _ h'=>h')) fun _ _ h'=>h')
   cases ok with
   | false=>exact wpAny_pure ⟨rfl,mQ⟩
   | true=>
     exact wpAny_bind (wpAny_bind (wpAny_mono mQ (fun x vy pC=>wpAny_bind (wpAny_mono pC (fun _ Gu fD=>wpAny_pure (wpAny_pure ⟨rfl,fD⟩)) fun _ _ h'=>h')) fun _ _ h'=>h'))
noncomputable abbrev ef (X:aG) (scope:Scope) (N:List Str) (cl:List (Str×Addr)) (C:Addr) (s:Shared) (H:J) (aL:List Addr):aG where
 prog:=X.prog
 w:=X.w
 K:=X.K
 mg:=X.mg
 base:=X.base
 A:=X.A
 N:=N
 eD:=s
 nv:=H
 env:=compEnvC scope cl C X.env
 outer:=X.stack
 stack:=X.stack
 ex:=aL
 calm:=X.calm
 fn:=fun _=>false
 mZ:=[]
 xe:=fun _ _=>False
noncomputable def kx (nl:Nat) (caps:List Nat) (σ :St):St:=List.replicate nl none ++ caps.map fun j=> σ.getD j none
noncomputable def uE:Option NameKind→Bool
 | some .cell=>true
 | some .free=>true
 | _=>false
structure kV (sc:Scope) (oT:List Str) (scope:Scope) (N:List Str) (nl:Nat) (caps:List Nat):Prop where
 kind:scope.kind= .function
 E_:∀x∈scope.names,x.2≠ .cell
 locs:∀x∈scope.names,x.2= .local→scope.names.lookup x.1=some .local
 free:∀x∈scope.names,x.2= .free→uE (sc.names.lookup x.1)=true
 len:N.length=nl + caps.length
 Jl:∀k j,caps[k]? =some j→∃x,oT[j]? =some x∧N[nl + k]? =some x∧scope.names.lookup x=some .free∧uE (sc.names.lookup x)=true
noncomputable def nK (sc:Scope) (oT:List Str) (scope:Scope) (N:List Str) (nl:Nat) (caps:List Nat):Bool:=
 (scope.kind == .function) && scope.names.all (fun x=>x.2 != .cell && (x.2 != .local || scope.names.lookup x.1 == some .local) && (x.2 != .free || uE (sc.names.lookup x.1))) &&
 (N.length == nl + caps.length) && (caps.zipIdx.all fun yA=>match oT[yA.1]? with
   | none=>false
   | some x=>N[nl + yA.2]? == some x && scope.names.lookup x == some .free && uE (sc.names.lookup x))
theorem kV.of {sc:Scope} {oT:List Str} {scope:Scope} {N:List Str} {nl:Nat} {caps:List Nat} (h:nK sc oT scope N nl caps=true):kV sc oT scope N nl caps:=by
 unfold nK at h
 rw [Bool.and_eq_true,Bool.and_eq_true,Bool.and_eq_true] at h
 obtain ⟨⟨⟨h1,h2⟩,h3⟩,h4⟩:=h
 rw [List.all_eq_true] at h2 h4
 refine ⟨eq_of_beq h1,fun x hx=>?_,fun x hx e=>?_,fun x hx e=>?_,eq_of_beq h3,fun k j e=>?_⟩
 · have:=h2 x hx
   rw [Bool.and_eq_true,Bool.and_eq_true] at this
   simpa using this.1.1
 · have:=h2 x hx
   rw [Bool.and_eq_true,Bool.and_eq_true] at this
   have q:=this.1.2
   rw [e] at q
   simpa using q
 · have:=h2 x hx
   rw [Bool.and_eq_true,Bool.and_eq_true] at this
   have q:=this.2
   rw [e] at q
   simpa using q
 · have m:(j,k)∈caps.zipIdx:=by
    rw [List.mem_zipIdx_iff_getElem?]
    exact e
   have q:=h4 _ m
   dsimp only at q
   split at q
   · cases q
   · rename_i x ex
     rw [Bool.and_eq_true,Bool.and_eq_true] at q
     exact ⟨x,ex,eq_of_beq q.1.1,eq_of_beq q.1.2,q.2⟩
theorem zr {scope:Scope} {env:Env} {x:Str} {k:NameKind} (h:(relabel scope env).names.lookup x=some k):(x,k)∈scope.names∨(k= .cell∧(x,NameKind.free)∈scope.names):=by
 have m:=PySem.mem_of_lookup h
 obtain ⟨⟨y,q⟩,cg,e⟩:=List.mem_map.mp m
 dsimp only at e
 split at e
 · rename_i hc
   injection e with ah aw
   subst ah
   have hf:q= .free:=by
    rw [Bool.and_eq_true,Bool.and_eq_true] at hc
    exact eq_of_beq hc.1.1
   subst hf
   exact .inr ⟨aw.symm,cg⟩
 · injection e with ah aw
   subst ah; subst aw
   exact .inl cg
noncomputable def qi (hJ:TI) (g:gE) (fp:TT) (te:TE) (nl:Nat) (caps:List Nat):TE:=fun σ H Q=>
 hJ σ H fun bp H1=>∀acc,H1 acc=none→∃W:Nat→Nat→St→J→Prop,(∃m,W 0 m (kx nl caps σ) (upd H1 acc (.lst [])))∧
  ∀i m σ' H',W i m σ' H'→(bp.stop i H'∧Q (.ref acc) H')∨
   (bp.go i H'∧∀x aH,bp.iH i H' x aH→g x σ' aH fun σ2 cw=>fp σ2 cw fun b fX=>
      if b=true then te σ2 fX fun y hL=>∃ys,hL acc=some (.lst ys)∧ys.length < sizeLine∧∃d9,d9 < m∧W (i + 1) d9 σ2 (upd hL acc (.lst (ys ++ [y])))
      else ∃d9,d9 < m∧W (i + 1) d9 σ2 fX)
section
variable {X:aG} {elt target iter:Expr} {ifs:List Expr} {scope:Scope} {pos:Pos} {N:List Str} {nl:Nat} {caps:List Nat} {hJ:TI} {g:gE} {fp:TT} {te:TE}
noncomputable def k8 (X:aG) (ifs:List Expr) (t:TT):Prop:=
 ∀(pins:List (Addr×Obj)) (s:Shared) (σ :St) (H:J) (Q:Bool→J→Prop),Inv X pins σ H s→t σ H Q→
  wpAny (model X.prog X.w) X.A (forIn ifs true fun c r=>if r=true then do let ok ←isTrue c X.env (eval c X.env); pure (ForInStep.yield ok) else pure (ForInStep.yield r)) (tF X pins σ Q) X.xe s
noncomputable def TL:TT:=fun _ H Q=>Q true H
theorem Rp:k8 X [] TL:=fun _ _ _ H _ I h=>wpAny_tests_nil ⟨H,I,h⟩
theorem Rq {c:Expr} {t:TT} (h:eG X c t):k8 X [c] t:=fun pins s σ H Q I hw=>wpAny_tests_one (h pins s σ H Q I hw)
theorem Nq {pins:List (Addr×Obj)} {σ :St} {H:J} {s s4:Shared} {cl:List (Str×Addr)} {aL:List Addr} (S:kV X.env.scope X.N scope N nl caps) (I:Inv X pins σ H s)
  (mI:∀x,cl.lookup x=if (x,NameKind.free)∈scope.names then X.env.cells.lookup x else none)
  (hf:∀b∈aL,iu X pins H b) (e3:∀b∈aL,b < s.heap.objs.size) (L7:s4.os=s.os) (hg:s4.gens=s.gens) (aN:∃m,s4.heap.Ns s.heap.objs.size m) (hk:∀b o,s.heap.get? b=some o→s4.heap.get? b=some o) :
  Inv (ef X scope N cl s.heap.objs.size s H aL) [] (kx nl caps σ) H s4:=by
 have q3:∀x c,cl.lookup x=some c→X.env.cells.lookup x=some c:=fun x c e=>by
  rw [mI] at e
  split at e
  · exact e
  · cases e
 refine ⟨⟨I.ok.mod,?_,I.ok.glob,I.ok.blt,Nat.le_refl _,fun x y c h1 h2=>I.ok.inj x y c (q3 x c h1) (q3 y c h2),fun x hx=>?_,fun x c z=>?_,I.ok.hd,I.ok.frames,.inl rfl,fun b hb=>⟨Nat.ne_of_lt (e3 b hb),fun x c e=>(hf b hb).2.2.2.2.1 x c (q3 x c e)⟩,I.bs,Nat.le_trans I.ok.lj I.jI,fun b o e hb=>?_,fun b hb hs=>?_,I.stack,I.Ao⟩,
  L7,?_,eI.kept hk,?_,fun x c e=>?_,I.bk.fresh (Nat.le_refl _),fun x c e=>I.iA x c (q3 x c e),fun p hp=>absurd (show p∈([]:List (Addr×Obj)) from hp) (by simp),I.bk.kept hk,?_⟩
 · show (relabel scope X.env).kind= .function
   exact S.kind
 · have hx:(relabel scope X.env).names.lookup x=some .cell∨(relabel scope X.env).names.lookup x=some .free:=hx
   have hm:(x,NameKind.free)∈scope.names:=by
    rcases hx with h | h
    · rcases zr h with m | ⟨_,m⟩
      · exact absurd rfl (S.E_ _ m)
      · exact m
    · rcases zr h with m | ⟨e,_⟩
      · exact m
      · cases e
   have aD:=S.free _ hm rfl
   have hc:∃c,X.env.cells.lookup x=some c:=by
    apply I.ok.has x
    show X.env.scope.names.lookup x=some .cell∨X.env.scope.names.lookup x=some .free
    cases e:X.env.scope.names.lookup x with
    | none=>rw [e] at aD; cases aD
    | some k=>
      rw [e] at aD
      cases k <;> first
       | exact .inl rfl
       | exact .inr rfl
       | cases aD
   obtain ⟨c,e⟩:=hc
   exact ⟨c,by show cl.lookup x=some c; rw [mI,if_pos hm]; exact e⟩
 · cases z
 · rcases (hf b hb).2.2.2.1 with z | z
   · exact I.ok.mX b o e z
   · exact absurd (Nat.lt_of_lt_of_le (Heap.lt_size (I.ok.bs b o e).1) z) (Nat.lt_irrefl _)
 · rcases List.mem_cons.mp (I.vw b hs) with z | z
   · exact (hf b hb).2.1 z
   · exact (hf b hb).2.2.1 z
 · rw [hg]; exact I.bare
 · obtain ⟨m,aN⟩:=aN
   refine ⟨m,aN,fun i x v h1 h2 h3=>?_⟩
   have hN:N[i]? =some x:=h1
   unfold kx at h2
   by_cases hi:i < nl
   · rw [List.getElem?_append_left (by simpa using hi),List.getElem?_replicate,if_pos hi] at h2
     cases h2
   · rw [List.getElem?_append_right (by simpa using hi),List.length_replicate,List.getElem?_map] at h2
     cases e:caps[i - nl]? with
     | none=>rw [e] at h2; cases h2
     | some j=>
       rw [e] at h2
       have h2: σ.getD j none=some v:=Option.some.inj h2
       obtain ⟨y,ah,aw,q6,fJ⟩:=S.Jl _ _ e
       have bK:(y,NameKind.free)∈scope.names:=PySem.mem_of_lookup q6
       have c8:fG X.env.scope y:=by
        cases q:X.env.scope.names.lookup y with
        | none=>rw [q] at fJ; cases fJ
        | some k=>
          rw [q] at fJ
          cases k <;> first
           | exact .inr (.inl q)
           | exact .inr (.inr q)
           | cases fJ
       have hq:nl + (i - nl)=i:=by omega
       rw [hq,hN] at aw
       cases aw
       have hs: σ[j]? =some (some v):=by
        rw [List.getD_eq_getElem?_getD] at h2
        cases q: σ[j]? with
        | none=>rw [q] at h2; cases h2
        | some o=>rw [q] at h2; exact congrArg some h2
       obtain ⟨m0,_,hl⟩:=I.loc
       obtain ⟨u,r,l⟩:=hl j x v ah hs c8
       refine ⟨u,r,.inr ⟨?_,?_⟩⟩
       · show (relabel scope X.env).names.lookup x=some .cell∨(relabel scope X.env).names.lookup x=some .free
         rcases h3 with h3 | h3 | h3
         · have h3:(relabel scope X.env).names.lookup x=some .local:=h3
           rcases zr h3 with z | ⟨z,_⟩
           · have aX:scope.names.lookup x=some .local:=S.locs _ z rfl
             rw [aX] at q6; cases q6
           · cases z
         · exact .inl h3
         · exact .inr h3
       · have aD:X.env.scope.names.lookup x≠some .local:=fun z=>by rw [z] at fJ; cases fJ
         rcases l with ⟨z,_⟩ | ⟨_,c,a6,aX⟩
         · exact absurd z aD
         · refine ⟨c,?_,aX.keeps hk⟩
           show cl.lookup x=some c
           rw [mI,if_pos bK]; exact a6
 · obtain ⟨v,z⟩:=I.cell x c (q3 x c e)
   exact ⟨v,z.keeps hk⟩
 · show (kx nl caps σ).length=N.length
   unfold kx
   rw [List.length_append,List.length_replicate,List.length_map,S.len]
theorem Nt {pins:List (Addr×Obj)} {σ σ' :St} {H H':J} {s s':Shared} {cl:List (Str×Addr)} {aL:List Addr} {h':Heap} (I:Inv X pins σ H s) (hf:∀b∈aL,iu X pins H b)
  (bp:Inv (ef X scope N cl s.heap.objs.size s H aL) [] σ' H' s') (hs:Heap.SameBut s.heap.objs.size s'.heap h'):Inv X pins σ H' { s' with heap:=h' }:=by
 have ne:∀b o,s.heap.get? b=some o→b≠s.heap.objs.size:=fun b o e=>Nat.ne_of_lt (Heap.lt_size e)
 have u:eI (dN X.stack) aL H H' s.heap s'.heap:=bp.base
 have fr:H' s.heap.objs.size=none:=bp.free
 refine I.BX (ch:=aL) (s':={ s' with heap:=h' }) bp.os ⟨fun b o e n hb hx=>(hs.2 b (ne b o e)).trans (u.keep b o e n hb hx),fun b o e n hb hx=>?_,u.free,fun b o e hx=>?_,u.gM,u.gp,u.gL⟩ (fun b o e=>?_) bp.bare fun b hb=>?_
 · obtain ⟨cc,q⟩:=u.slot b o e n hb hx
   exact ⟨cc,(hs.2 b (ne b o e)).trans q⟩
 · obtain ⟨bC,q⟩:=u.there b o e hx
   exact ⟨bC,(hs.2 b (ne b o e)).trans q⟩
 · refine (bp.bk b o e).ki (fun c v hc q=>(hs.2 c ?_).trans q) (fun _ q=>q) fun _ _ q=>q
   rintro rfl
   rcases hc with z | z
   · rw [←z,fr] at e; cases e
   · rw [fr] at z; cases z
 · obtain ⟨_,f1,_,eU,f4,gT⟩:=hf b hb
   exact ⟨eU,f1,f4,gT⟩
theorem B6 {pins:List (Addr×Obj)} {σ :St} {s2:Shared} {aH:J} {it:Addr} {aL:List Addr} {fq:Nat→Heap→Prop} {bp:It} {E:Value→Shared→Prop} {Q:J→Prop} {W:Nat→Nat→St→J→Prop} {m0:Nat}
  (S:kV X.env.scope X.N scope N nl caps) (hc:X.calm=true) (bZ:Inv X pins σ aH s2) (T:Turn X.prog X.w X.K target bp aL it fq) (jH:fq 0 s2.heap) (f2:∀b∈aL,iu X pins aH b)
  (hg:∀cl C s H aL,hP (ef X scope N cl C s H aL) target g) (ht:∀cl C s H aL,k8 (ef X scope N cl C s H aL) ifs fp) (he:∀cl C s H aL,aS (ef X scope N cl C s H aL) elt te)
  (lY:W 0 m0 (kx nl caps σ) (upd aH s2.heap.objs.size (.lst [])))
  (turn:∀i m σ' H',W i m σ' H'→(bp.stop i H'∧Q H')∨
    (bp.go i H'∧∀x cw,bp.iH i H' x cw→g x σ' cw fun σ2 fX=>fp σ2 fX fun b hL=>
       if b=true then te σ2 hL fun y me=>∃ys,me s2.heap.objs.size=some (.lst ys)∧ys.length < sizeLine∧∃d9,d9 < m∧W (i + 1) d9 σ2 (upd me s2.heap.objs.size (.lst (ys ++ [y])))
       else ∃d9,d9 < m∧W (i + 1) d9 σ2 hL))
  (qO:Value→Addr→Result→Shared→Prop)
  (Lr:∀(C:Addr) s' H',(∃m,s'.heap.Ns C m)→iu X pins H' C→(∀h',Heap.SameBut C s'.heap h'→Inv X pins σ H' { s' with heap:=h' })→Q H'→qO (.ref s2.heap.objs.size) C (.ok .next) s') :
  wpAny (model X.prog X.w) X.A (newList []) (fun acc sH=>wpAny (model X.prog X.w) X.A (newFunctionEnv scope X.env.globals (hW X.env scope.names []) [] X.env.qual none .none (some X.env)) (fun B1 vy=>
   codeAny (model X.prog X.w) X.A (.compStart (.ListComp elt [⟨target,iter,ifs,0⟩] scope pos) 0 (.ref it) acc { B1 with scope:=relabel scope X.env }) (qO acc B1.locals) vy) E sH) E s2:=by
 have ur:∀p∈scope.names,p.2= .free→∃c,X.env.cells.lookup p.1=some c:=fun p hp e=>by
  have q:=S.free p hp e
  apply bZ.ok.has p.1
  show X.env.scope.names.lookup p.1=some .cell∨X.env.scope.names.lookup p.1=some .free
  cases aw:X.env.scope.names.lookup p.1 with
  | none=>rw [aw] at q; cases q
  | some k=>
    rw [aw] at q
    cases k <;> first
     | exact .inl rfl
     | exact .inr rfl
     | cases q
 have mI:∀x,(hW X.env scope.names []).lookup x=if (x,NameKind.free)∈scope.names then X.env.cells.lookup x else none:=fun x=>B2 scope.names [] ur
 have WA:aH s2.heap.objs.size=none:=bZ.bk.fresh (Nat.le_refl _)
 refine wpAny_newObj_type (wpAny_newFunctionEnv S.E_ (by intro y cg; simp at cg) (fun kF x9 ye=>?_) S.kind)
 dsimp only at x9 ye ⊢
 have dC:Inv X pins σ (upd aH s2.heap.objs.size (.lst [])) { s2 with heap:=s2.heap.push { cls:= .type "list",dict:=none,data:= .seq ([]:List Value).toArray } }:=bZ.yM (its:=[]) (ys:=[]) (t':=s2.toks) .nil (Nat.zero_le _)
 generalize yd:({ s2 with heap:=s2.heap.push { cls:= .type "list",dict:=none,data:= .seq ([]:List Value).toArray } }:Shared)=s3 at dC
 have x2:s2.heap.push { cls:= .type "list",dict:=none,data:= .seq ([]:List Value).toArray }=s3.heap:=by rw [←yd]
 rw [x2] at x9 ye ⊢
 have Fh:∀b o,s2.heap.get? b=some o→s3.heap.get? b=some o:=fun b o e=>by rw [←x2]; exact Heap.get?_push_of_some _ e
 have S6:s3.heap.objs.size=s2.heap.objs.size + 1:=by rw [←x2,Heap.size_push]
 have yC:∀b o,s3.heap.get? b=some o→kF.get? b=some o:=fun b o e=>ye.extBut b o (Nat.ne_of_lt (Heap.lt_size e)) (Heap.get?_push_of_some _ e)
 have DQ:∀b∈aL,b < s2.heap.objs.size:=fun b hb=>by
  obtain ⟨o,e,_⟩:=T.obj 0 _ jH b hb
  exact Heap.lt_size e
 have eU:∀b∈aL,iu X pins (upd aH s2.heap.objs.size (.lst [])) b:=fun b hb=>by
  obtain ⟨eN,a1⟩:=f2 b hb
  exact ⟨by rw [cG (Nat.ne_of_lt (DQ b hb))]; exact eN,a1⟩
 have DR:∀b∈aL,b < s3.heap.objs.size:=fun b hb=>by rw [S6]; exact Nat.lt_succ_of_lt (DQ b hb)
 have loop:∀s4:Shared,s4={ s3 with heap:=kF,toks:=s2.toks + ([]:List (Str×Value)).length }→
   codeAny (model X.prog X.w) X.A (.compLoop (.ListComp elt [⟨target,iter,ifs,0⟩] scope pos) 0 (.ref it) (.ref s2.heap.objs.size) (compEnvC scope (hW X.env scope.names []) s3.heap.objs.size X.env))
    (qO (.ref s2.heap.objs.size) s3.heap.objs.size) s4:=by
  intro s4 rz
  have je:Inv (ef X scope N (hW X.env scope.names []) s3.heap.objs.size s3 (upd aH s2.heap.objs.size (.lst [])) aL) [] (kx nl caps σ) (upd aH s2.heap.objs.size (.lst [])) s4:=
   Nq S dC mI eU DR (by rw [rz]) (by rw [rz]) ⟨_,by rw [rz]; exact x9⟩ (by rw [rz]; exact yC)
  have Tr:fq 0 s4.heap:=T.keep 0 _ _ jH fun b hb o e=>by rw [rz]; exact yC b o (Fh b o e)
  generalize jr:ef X scope N (hW X.env scope.names []) s3.heap.objs.size s3 (upd aH s2.heap.objs.size (.lst [])) aL=B at je
  have stat:∀{H':J},(∀b∈aL,H' b=none)→∀b∈aL,iu B [] H' b:=fun {H'} aN b hb=>by
   subst jr
   obtain ⟨eN,a1,a2,fi,jY,oW⟩:=eU b hb
   refine ⟨aN b hb,Nat.ne_of_lt (DR b hb),fun z=>?_,.inl hb,fun x c e=>?_,fun p hp=>absurd (show p∈([]:List (Addr×Obj)) from hp) (by simp)⟩
   · rcases List.mem_cons.mp (dC.vw b z) with q | q
     · exact a1 q
     · exact a2 q
   · have e:(hW X.env scope.names []).lookup x=some c:=e
     rw [mI] at e
     split at e
     · exact jY x c e
     · cases e
  have LK:hP B target g:=by subst jr; exact hg _ _ _ _ _
  have Mg:k8 B ifs fp:=by subst jr; exact ht _ _ _ _ _
  have LG:aS B elt te:=by subst jr; exact he _ _ _ _ _
  have q7:B.prog=X.prog:=by subst jr; rfl
  have jk:B.w=X.w:=by subst jr; rfl
  have Co:B.K=X.K:=by subst jr; rfl
  have J3:B.A=X.A:=by subst jr; rfl
  have xh:B.env=compEnvC scope (hW X.env scope.names []) s3.heap.objs.size X.env:=by subst jr; rfl
  have Cq:B.calm=true:=by subst jr; exact hc
  have K5:B.xe=fun _ _=>False:=by subst jr; rfl
  rw [←q7,←jk,←J3,←xh]
  refine Jp (fun n s'=>∃i σ' H',Inv B [] σ' H' s'∧fq i s'.heap∧(∀b∈aL,H' b=none)∧W i n σ' H') ?_ m0 ⟨0,_,_,je,Tr,fun b hb=>(eU b hb).1,lY⟩
  rintro n s5 ⟨i,σ5,hL,kX,qg,uc,UK⟩
  have away:∀{α:Type} {t:Sem α} {Bn:α→Shared→Prop} {H3:Value→Shared→Prop} {lP:Shared},wpAny (model B.prog B.w) B.A t Bn B.xe lP→wpAny (model B.prog B.w) B.A t Bn H3 lP:=fun h=>wpAny_mono h (fun _ _ q=>q) fun e s' z=>by rw [K5] at z; exact z.elim
  rcases turn i n σ5 hL UK with ⟨stop,q⟩ | ⟨go,step⟩
  · have d:=T.done B q7 jk Co Cq i [] s5 σ5 hL (notedBy (model B.prog B.w) B.A B.env fun e s'=>qO (.ref s2.heap.objs.size) s3.heap.objs.size (.error e) s') kX (stat uc) qg stop
    rw [←q7,←jk] at d
    refine bu d fun r vm ⟨hr,nx⟩=>?_
    subst hr
    refine Lr _ vm hL ?_ (dC.mC (Nat.le_refl _) ?_) (fun h' mK=>?_) q
    · obtain ⟨m,aN,_⟩:=nx.loc
      rw [xh] at aN
      exact ⟨m,aN⟩
    · have z:=nx.free
      rw [xh] at z
      exact z
    · subst jr
      exact Nt dC eU nx mK
  · have d:=T.item B q7 jk Co Cq i [] s5 σ5 hL (notedBy (model B.prog B.w) B.A B.env fun e s'=>qO (.ref s2.heap.objs.size) s3.heap.objs.size (.error e) s') kX (stat uc) qg go
    rw [←q7,←jk] at d
    refine bu d fun r vm ⟨u,hr,h6⟩=>?_
    subst hr
    refine bu h6 fun _ eM ⟨x,fw,hM,ik,VO,An,Lj⟩=>?_
    have H_:=hM.pinned (stat Lj) (T.obj _ _ An)
    refine away (bu (LK _ eM σ5 fw x u _ H_ ik (step x fw VO)) fun _ qc ⟨σ8,jR,Ia,lO⟩=>?_)
    refine away (bu (Mg _ qc σ8 jR _ Ia lO) fun b kM ⟨H4,Bg,FN⟩=>?_)
    have again:∀{σa:St} {e7:J} {lP:Shared},Inv B ([] ++ sk aL eM.heap) σa e7 lP→(∃d9,d9 < n∧W (i + 1) d9 σa e7)→∃m,m < n∧∃i σ' H',Inv B [] σ' H' lP∧fq i lP.heap∧(∀b∈aL,H' b=none)∧W i m σ' H':=fun {σa e7 lP} wd ⟨d9,hm,UU⟩=>by
     refine ⟨d9,hm,i + 1,σa,e7,wd.vH,T.keep _ _ _ An fun b hb o e=>(wd.pin (b,o) (List.mem_append_right _ (List.mem_append_right _ (u0 hb e)))).1,fun b hb=>?_,UU⟩
     obtain ⟨o,e,d⟩:=T.obj _ _ An b hb
     exact (wd.pin (b,o) (List.mem_append_right _ (List.mem_append_right _ (u0 hb e)))).2.1
    cases b with
    | false=>exact again Bg FN
    | true=>
      show wpAny _ _ (eval elt B.env) _ _ kM
      refine away (bu (LG _ kM σ8 H4 _ Bg FN) fun A7 su ⟨y,Be,H7,bT,ys,ha,a5,Rz⟩=>?_)
      refine away (bu (yX _ su σ8 Be (.ref s2.heap.objs.size) [y] (.ref s2.heap.objs.size) [A7] (fun _ Bf=>Bf=upd Be s2.heap.objs.size (.lst (ys ++ [y]))) H7 rfl (.cons bT .nil) ⟨_,ys,y,rfl,rfl,ha,a5,rfl⟩) fun _ vl ⟨z,Bf,H8,_,J0⟩=>?_)
      subst J0
      exact again H8 Rz
 exact codeAny_compStart_list (loop _ (by rw [←yd])) (T.self X.A 0 _ _ _ (T.keep 0 _ _ jH fun b hb o e=>yC b o (Fh b o e)) (loop _ (by rw [←yd])))
theorem DK {pins:List (Addr×Obj)} {σ :St} {s:Shared} {H:J} (S:kV X.env.scope X.N scope N nl caps) (I:Inv X pins σ H s):∀p∈scope.names,p.2= .free→∃c,X.env.cells.lookup p.1=some c:=fun p hp e=>by
 have q:=S.free p hp e
 apply I.ok.has p.1
 show X.env.scope.names.lookup p.1=some .cell∨X.env.scope.names.lookup p.1=some .free
 cases aw:X.env.scope.names.lookup p.1 with
 | none=>rw [aw] at q; cases q
 | some k=>
   rw [aw] at q
   cases k <;> first
    | exact .inl rfl
    | exact .inr rfl
    | cases q
theorem QG (S:kV X.env.scope X.N scope N nl caps) (hc:X.calm=true) (hi:fZ X target iter hJ)
  (hg:∀cl C s H aL,hP (ef X scope N cl C s H aL) target g) (ht:∀cl C s H aL,k8 (ef X scope N cl C s H aL) ifs fp) (he:∀cl C s H aL,aS (ef X scope N cl C s H aL) elt te)
  (hs:∀x,foldedSetIterable iter X.env x=pure x:=by intro _; rfl):aS X (.ListComp elt [⟨target,iter,ifs,0⟩] scope pos) (qi hJ g fp te nl caps):=by
 intro pins s σ H Q I h
 rw [eval_ListComp]
 refine wpAny_comprehension_free (use:=none) rfl hs (B3 (DK S I)) S.kind S.locs ?_
 refine bu (hi pins s σ H _ I h) fun v s1 h1=>bu h1 fun uF s2 h2=>?_
 obtain ⟨it,aL,fq,bp,aH,e,bZ,T,jH,f2,k⟩:=h2
 subst e
 obtain ⟨W,⟨m0,lY⟩,turn⟩:=k s2.heap.objs.size (bZ.bk.fresh (Nat.le_refl _))
 refine B6 (Q:=fun H'=>Q (.ref s2.heap.objs.size) H') S hc bZ T jH f2 hg ht he lY turn (fun acc C=>compPost (model X.prog X.w) X.A X.xe none (ff X pins σ Q) acc C) ?_
 intro C s' H' aN _ j3 q
 obtain ⟨m,aN⟩:=aN
 exact ⟨m,aN,fun h' mK=>⟨.ref s2.heap.objs.size,H',j3 h' mK,rfl,q⟩⟩
theorem FH {i:Nat} {y:Str} {py qe:Pos} (S:kV X.env.scope X.N scope N nl caps) (hc:X.calm=true) (hN:X.N.Nodup) (cg:X.N[i]? =some y) (hl:X.env.kindOf y=some .local) (hi:fZ X target iter hJ)
  (hg:∀cl C s H aL,hP (ef X scope N cl C s H aL) target g) (ht:∀cl C s H aL,k8 (ef X scope N cl C s H aL) ifs fp) (he:∀cl C s H aL,aS (ef X scope N cl C s H aL) elt te)
  (iT:swapsWith (.ListComp elt [⟨target,iter,ifs,0⟩] scope pos) (some (.Name y py)) qe.line X.env=pure true:=by rfl)
  (hs:∀x,foldedSetIterable iter X.env x=pure x:=by intro _; rfl):cK X (.Assign [.Name y py] (.ListComp elt [⟨target,iter,ifs,0⟩] scope pos) qe) (kP (qi hJ g fp te nl caps) (hY i)):=by
 intro pins s σ H b6 I h
 rw [exec_Assign_Name_used _ _ _ _ iT]
 refine wpAny_bind (wpAny_standAt (wpAny_bind ?_))
 show wpAny _ X.A (do let _ ←comprehension (.ListComp elt [⟨target,iter,ifs,0⟩] scope pos) scope X.env _ (newList []) false (eval iter X.env) (some (assign (.Name y py) X.env))) _ _ s
 refine wpAny_bind (wpAny_mono (wpAny_comprehension_free (use:=some (assign (.Name y py) X.env)) (Q:=fun _ s'=>nD X pins b6 .next s') rfl hs (B3 (DK S I)) S.kind S.locs ?_) (fun _ s' aD=>wpAny_pure (wpAny_pure aD)) fun _ _ e=>e)
 refine bu (hi pins s σ H _ I h) fun v s1 h1=>bu h1 fun uF s2 h2=>?_
 obtain ⟨it,aL,fq,bp,aH,e,bZ,T,jH,f2,k⟩:=h2
 subst e
 obtain ⟨W,⟨m0,lY⟩,turn⟩:=k s2.heap.objs.size (bZ.bk.fresh (Nat.le_refl _))
 refine B6 (Q:=fun H'=>b6.a9 (σ.set i (some (.ref s2.heap.objs.size))) H') S hc bZ T jH f2 hg ht he lY turn (fun acc C=>compPost (model X.prog X.w) X.A X.xe (some (assign (.Name y py) X.env)) (fun _ s'=>nD X pins b6 .next s') acc C) ?_
 intro C s' H' aN h_ j3 q
 obtain ⟨m,aN⟩:=aN
 show wpAny _ X.A (assign (.Name y py) X.env (.ref s2.heap.objs.size)) _ _ s'
 have ko:Inv X pins σ H' s':=j3 s'.heap (Heap.SameBut.refl _ _)
 refine wpAny_assign_Name (Gq (v:= .ref s2.heap.objs.size) ko hN cg (.inl hl) (show RelV (V.ref _) _ from rfl) (fun i_ H5 Mc=>?_) (.inr hl))
 obtain ⟨a,Mb,ha⟩:=Mc
 obtain ⟨j0,bD,dj,gR,ll,I_⟩:=h_
 have Pu:C≠a:=by
  rcases ha with z | z
  · rw [z]; exact bD
  · exact fun w=>ll y a z w.symm
 refine ⟨m,aN.sameBut Mb Pu,fun h' mK=>?_⟩
 exact ⟨_,H',H5.turned (t':=i_.toks) (it:=C) (fun b o hb e=>(mK.2 b hb).trans e) j0 bD gR ll I_,q⟩
end
end aZ
set_option Elab.async false
set_option linter.all false
namespace aA
open PySem aZ
inductive D where
 | non | au (b:Bool) | int (i:Int) | str (x:Str)
 | tup (xs:List D) | lst (xs:List D) | b7 (xs:List D)
 | cL (ks:List Key) (xs:List D) | bx (ks:List (List Key)) (xs:List D)
 | ins (c:Str) (ns:List Str) (xs:List D)
 | gn (c:Str)
 | c1 (xs:List D)
noncomputable def Sub (G H:J):Prop:=∀b o,G b=some o→H b=some o
theorem Sub.refl (G:J):Sub G G:=fun _ _ e=>e
theorem Sub.trans {G H I:J} (a:Sub G H) (b:Sub H I):Sub G I:=fun c o e=>b c o (a c o e)
theorem Sub.gone {G H:J} (a:Sub G H) {b:Addr} (h:H b=none):G b=none:=by
 cases e:G b with
 | none=>rfl
 | some o=>rw [a b o e] at h; cases h
theorem Sub.upd {G:J} {a:Addr} {o:cY} (h:G a=none):Sub G (upd G a o):=fun b u e=>by
 rw [cG (hH e h)]; exact e
theorem Sub.sW {G H:J} {a:Addr} {o:cY} (s:Sub G H) (h:G a=none):Sub G (aZ.upd H a o):=fun b u e=>by
 rw [cG (hH e h)]; exact s b u e
theorem Sub.both {G H:J} {a:Addr} {o:cY} (s:Sub G H):Sub (aZ.upd G a o) (aZ.upd H a o):=fun b u e=>by
 by_cases hb:b=a
 · subst hb; rw [dv] at e ⊢; exact e
 · rw [cG hb] at e ⊢; exact s b u e
theorem Sub.at {G H:J} {a:Addr} {o:cY} (s:Sub G H) (h:H a=some o):Sub (aZ.upd G a o) H:=fun b u e=>by
 by_cases hb:b=a
 · subst hb; rw [dv] at e; rw [h]; exact e
 · rw [cG hb] at e; exact s b u e
structure b2 (G H G' H':J):Prop where
 g:Sub G G'
 h:Sub H H'
 n:∀b,H b≠none→G' b=G b
theorem Sub.some {G H:J} (s:Sub G H) {b:Addr} (h:G b≠none):H b≠none:=fun z=>h (s.gone z)
theorem b2.refl (G H:J):b2 G H G H:=⟨Sub.refl _,Sub.refl _,fun _ _=>rfl⟩
theorem b2.trans {G H aM H1 cb aH:J} (a:b2 G H aM H1) (b:b2 aM H1 cb aH):b2 G H cb aH:=⟨a.g.trans b.g,a.h.trans b.h,fun c hc=>(b.n c (a.h.some hc)).trans (a.n c hc)⟩
theorem b2.lay {G H:J} {p:Addr} {o:cY} (s:Sub G H) (hp:H p=none):b2 G H (aZ.upd G p o) (aZ.upd H p o):=⟨Sub.upd (s.gone hp),Sub.upd hp,fun b hb=>by
 rw [cG]
 intro e; subst e; exact hb hp⟩
theorem b2.lay0 {G H:J} {p:Addr} {o:cY} (hp:H p=none):b2 G H G (aZ.upd H p o):=⟨Sub.refl _,Sub.upd hp,fun _ _=>rfl⟩
theorem b2.put {G H G' H':J} {p:Addr} {o:cY} (u:b2 G H G' H') (hp:H p=none) (hg:G' p=none):b2 G H (aZ.upd G' p o) H':=⟨u.g.trans (Sub.upd hg),u.h,fun b hb=>by
 rw [cG]
 · exact u.n b hb
 · intro e; subst e; exact hb hp⟩
theorem fh.mono {G H:J} (s:Sub G H) {a:Addr} {u:cY} (r:fh G a u):fh H a u:=by
 rcases r with r | ⟨o,r⟩
 · exact .inl (s _ _ r)
 · exact .inr ⟨o,s _ _ r⟩
theorem bI.mono {K:PySem.W.Frag} {G H:J} (s:Sub G H) {a:Addr} {xs:List V} (r:bI K G a xs):bI K H a xs:=by
 rcases r with r | r
 · exact .inl (fh.mono s r)
 · exact .inr r
theorem cu.mono {K:PySem.W.Frag} {G H:J} (s:Sub G H) {a:Addr} {xs:List V} (r:cu K G a xs):cu K H a xs:=by
 rcases r with r | r
 · exact .inl (fh.mono s r)
 · exact .inr r
noncomputable def eS (K:PySem.W.Frag) (c:Str) (C:Addr):Prop:=PySem.W.nsIn K mainGlobals c=some (some (.ref C))
mutual
noncomputable def At (K:PySem.W.Frag) (G:J):D→V→Prop
 | .non,v=>v= .non
 | .au b,v=>v= .au b
 | .int i,v=>v= .int i
 | .str x,v=>v= .str x
 | .tup ds,v=>∃a xs,v= .ref a∧G a=some (.tup xs)∧aE K G ds xs
 | .c1 ds,v=>∃a xs,v= .ref a∧cu K G a xs∧aE K G ds xs
 | .lst ds,v=>∃a xs,v= .ref a∧G a=some (.lst xs)∧aE K G ds xs
 | .b7 ds,v=>∃a xs,v= .ref a∧bI K G a xs∧aE K G ds xs
 | .cL ks ds,v=>∃a xs,v= .ref a∧G a=some (.cL xs)∧xs.map (·.1)=ks∧aE K G ds (xs.map (·.2))
 | .bx ks ds,v=>∃a xs,v= .ref a∧G a=some (.bx xs)∧xs.map (·.1)=ks∧aE K G ds (xs.map (·.2))
 | .ins c ns ds,v=>∃a aT xs,v= .ref a∧(∃C,eS K c C∧G a=some (.ins C aT xs))∧xs.map (·.1)=ns∧aE K G ds (xs.map (·.2))
 | .gn c,v=>∃(a:Addr) (xs:List V),v= .ref a∧(∃C,eS K c C∧G a=some (nS a (.ref C)))∧xs=[]
noncomputable def aE (K:PySem.W.Frag) (G:J):List D→List V→Prop
 | [],vs=>vs=[]
 | d::ds,vs=>∃v r,vs=v::r∧At K G d v∧aE K G ds r
end
mutual
theorem At.mono {K:PySem.W.Frag} {G H:J} (s:Sub G H):∀{d:D} {v:V},At K G d v→At K H d v
 | .non,_,h=>by simpa only [At] using h
 | .au _,_,h=>by simpa only [At] using h
 | .int _,_,h=>by simpa only [At] using h
 | .str _,_,h=>by simpa only [At] using h
 | .tup _,_,h=>by
   simp only [At] at h ⊢
   obtain ⟨a,xs,e,q,r⟩:=h
   exact ⟨a,xs,e,s _ _ q,aE.mono s r⟩
 | .c1 _,_,h=>by
   simp only [At] at h ⊢
   obtain ⟨a,xs,e,q,r⟩:=h
   exact ⟨a,xs,e,cu.mono s q,aE.mono s r⟩
 | .lst _,_,h=>by
   simp only [At] at h ⊢
   obtain ⟨a,xs,e,q,r⟩:=h
   exact ⟨a,xs,e,s _ _ q,aE.mono s r⟩
 | .b7 _,_,h=>by
   simp only [At] at h ⊢
   obtain ⟨a,xs,e,q,r⟩:=h
   exact ⟨a,xs,e,bI.mono s q,aE.mono s r⟩
 | .cL _ _,_,h=>by
   simp only [At] at h ⊢
   obtain ⟨a,xs,e,q,k,r⟩:=h
   exact ⟨a,xs,e,s _ _ q,k,aE.mono s r⟩
 | .bx _ _,_,h=>by
   simp only [At] at h ⊢
   obtain ⟨a,xs,e,q,k,r⟩:=h
   exact ⟨a,xs,e,s _ _ q,k,aE.mono s r⟩
 | .ins _ _ _,_,h=>by
   simp only [At] at h ⊢
   obtain ⟨a,aT,xs,e,⟨C,bD,q⟩,k,r⟩:=h
   exact ⟨a,aT,xs,e,⟨C,bD,s _ _ q⟩,k,aE.mono s r⟩
 | .gn _,_,h=>by
   simp only [At] at h ⊢
   obtain ⟨a,xs,e,⟨C,bD,q⟩,r⟩:=h
   exact ⟨a,xs,e,⟨C,bD,s _ _ q⟩,r⟩
theorem aE.mono {K:PySem.W.Frag} {G H:J} (s:Sub G H):∀{ds:List D} {vs:List V},aE K G ds vs→aE K H ds vs
 | [],_,h=>by simpa only [aE] using h
 | _::_,_,h=>by
   simp only [aE] at h ⊢
   obtain ⟨v,r,e,q,t⟩:=h
   exact ⟨v,r,e,At.mono s q,aE.mono s t⟩
end
section
variable {K:PySem.W.Frag} {G:J}
theorem aE.nil:aE K G [] []:=by simp only [aE]
theorem aE.cons {d:D} {ds:List D} {v:V} {vs:List V} (h:At K G d v) (t:aE K G ds vs):aE K G (d::ds) (v::vs):=by
 simp only [aE]; exact ⟨v,vs,rfl,h,t⟩
theorem aE.length:∀{ds:List D} {vs:List V},aE K G ds vs→ds.length=vs.length
 | [],_,h=>by simp only [aE] at h; subst h; rfl
 | _::_,_,h=>by
   simp only [aE] at h
   obtain ⟨v,r,rfl,_,t⟩:=h
   simp [aE.length t]
theorem aE.get:∀{ds:List D} {vs:List V} {i:Nat} {d:D},aE K G ds vs→ds[i]? =some d→∃v,vs[i]? =some v∧At K G d v
 | [],_,_,_,_,e=>by simp at e
 | _::_,_,0,_,h,e=>by
   simp only [aE] at h
   obtain ⟨v,r,rfl,q,t⟩:=h
   simp at e; subst e
   exact ⟨v,by simp,q⟩
 | _::_,_,i + 1,d,h,e=>by
   simp only [aE] at h
   obtain ⟨v,r,rfl,q,t⟩:=h
   obtain ⟨u,h1,h2⟩:=aE.get (i:=i) (d:=d) t (by simpa using e)
   exact ⟨u,by simpa using h1,h2⟩
theorem aE.ug {ds:List D} {vs:List V} {i:Nat} {v:V} (h:aE K G ds vs) (e:vs[i]? =some v):∃d,ds[i]? =some d∧At K G d v:=by
 have hi:i < ds.length:=by rw [h.length]; exact (List.getElem?_eq_some_iff.mp e).1
 obtain ⟨u,h1,h2⟩:=h.get (List.getElem?_eq_getElem hi)
 rw [e] at h1; cases h1
 exact ⟨_,List.getElem?_eq_getElem hi,h2⟩
theorem aE.append:∀{ds ae:List D} {vs ws:List V},aE K G ds vs→aE K G ae ws→aE K G (ds ++ ae) (vs ++ ws)
 | [],_,_,_,h,t=>by simp only [aE] at h; subst h; exact t
 | _::_,_,_,_,h,t=>by
   simp only [aE] at h
   obtain ⟨v,r,rfl,q,s⟩:=h
   exact .cons q (aE.append s t)
theorem aE.take:∀(n:Nat) {ds:List D} {vs:List V},aE K G ds vs→aE K G (ds.take n) (vs.take n)
 | 0,_,_,_=>by simpa using aE.nil
 | _ + 1,[],_,h=>by simp only [aE] at h; subst h; simpa using aE.nil
 | n + 1,_::_,_,h=>by
   simp only [aE] at h
   obtain ⟨v,r,rfl,q,t⟩:=h
   exact .cons q (aE.take n t)
theorem aE.drop:∀(n:Nat) {ds:List D} {vs:List V},aE K G ds vs→aE K G (ds.drop n) (vs.drop n)
 | 0,_,_,h=>by simpa using h
 | _ + 1,[],_,h=>by simp only [aE] at h; subst h; simpa using aE.nil
 | n + 1,_::_,_,h=>by
   simp only [aE] at h
   obtain ⟨v,r,rfl,q,t⟩:=h
   simpa using aE.drop n t
theorem aE.set {d:D} {v:V} (q:At K G d v):∀(n:Nat) {ds:List D} {vs:List V},aE K G ds vs→aE K G (ds.set n d) (vs.set n v)
 | _,[],_,h=>by simp only [aE] at h; subst h; simpa using aE.nil
 | 0,_::_,_,h=>by
   simp only [aE] at h
   obtain ⟨u,r,rfl,_,t⟩:=h
   exact .cons q t
 | n + 1,_::_,_,h=>by
   simp only [aE] at h
   obtain ⟨u,r,rfl,p,t⟩:=h
   exact .cons p (aE.set q n t)
theorem aE.snoc {ds:List D} {vs:List V} {d:D} {v:V} (h:aE K G ds vs) (q:At K G d v):aE K G (ds ++ [d]) (vs ++ [v]):=h.append (.cons q .nil)
end
inductive R (α:Type) where
 | ok (a:α) | exc (c:Str) | bad
namespace R
noncomputable def bind {α β:Type}:R α→(α→R β)→R β
 | .ok a,k=>k a
 | .exc c,_=> .exc c
 | .bad,_=> .bad
noncomputable def map {α β:Type} (f:α→β) (r:R α):R β:=r.bind fun a=> .ok (f a)
theorem bo {α β:Type} (a:α) (k:α→R β):(R.ok a).bind k=k a:=rfl
end R
inductive T where
 | ax (d:D) | lst (ts:List T) | cL (ks:List Key) (ts:List T) | bx (ks:List (List Key)) (ts:List T) | ins (c:Str) (ns:List Str) (ts:List T)
mutual
noncomputable def toD:T→D
 | .ax d=>d
 | .lst ts=> .lst (g7 ts)
 | .cL ks ts=> .cL ks (g7 ts)
 | .bx ks ts=> .bx ks (g7 ts)
 | .ins c ns ts=> .ins c ns (g7 ts)
noncomputable def g7:List T→List D
 | []=>[]
 | t::ts=>toD t::g7 ts
end
mutual
noncomputable def aL (H:J):T→V→List Addr
 | .ax _,_=>[]
 | .lst ts,v=>match v with
   | .ref a=>match H a with
     | some (.lst xs)=>a::cx H ts xs
     | _=>[]
   | _=>[]
 | .cL _ ts,v=>match v with
   | .ref a=>match H a with
     | some (.cL xs)=>a::cx H ts (xs.map (·.2))
     | _=>[]
   | _=>[]
 | .bx _ ts,v=>match v with
   | .ref a=>match H a with
     | some (.bx xs)=>a::cx H ts (xs.map (·.2))
     | _=>[]
   | _=>[]
 | .ins _ _ ts,v=>match v with
   | .ref a=>match H a with
     | some (.ins _ _ xs)=>a::cx H ts (xs.map (·.2))
     | _=>[]
   | _=>[]
noncomputable def cx (H:J):List T→List V→List Addr
 | [],_=>[]
 | t::ts,vs=>match vs with
   | v::r=>aL H t v ++ cx H ts r
   | []=>[]
end
mutual
noncomputable def cq (K:PySem.W.Frag) (G H:J):T→V→Prop
 | .ax d,v=>At K G d v
 | .lst ts,v=>∃a xs,v= .ref a∧H a=some (.lst xs)∧bA K G H ts xs
 | .cL ks ts,v=>∃a xs,v= .ref a∧H a=some (.cL xs)∧xs.map (·.1)=ks∧bA K G H ts (xs.map (·.2))
 | .bx ks ts,v=>∃a xs,v= .ref a∧H a=some (.bx xs)∧xs.map (·.1)=ks∧bA K G H ts (xs.map (·.2))
 | .ins c ns ts,v=>∃a aT xs,v= .ref a∧(∃C,eS K c C∧H a=some (.ins C aT xs))∧xs.map (·.1)=ns∧bA K G H ts (xs.map (·.2))
noncomputable def bA (K:PySem.W.Frag) (G H:J):List T→List V→Prop
 | [],vs=>vs=[]
 | t::ts,vs=>∃v r,vs=v::r∧cq K G H t v∧bA K G H ts r
end
section
variable {K:PySem.W.Frag} {G G' H H' P:J}
theorem iz {a:Addr} {xs:List V} {ts:List T} (q:H a=some (.lst xs)):aL H (.lst ts) (.ref a)=a::cx H ts xs:=by simp only [aL,q]
theorem rg {a:Addr} {xs:List (Key×V)} {ks:List Key} {ts:List T} (q:H a=some (.cL xs)):aL H (.cL ks ts) (.ref a)=a::cx H ts (xs.map (·.2)):=by simp only [aL,q]
theorem rh {a:Addr} {xs:List (List Key×V)} {ks:List (List Key)} {ts:List T} (q:H a=some (.bx xs)):aL H (.bx ks ts) (.ref a)=a::cx H ts (xs.map (·.2)):=by simp only [aL,q]
theorem ri {a C:Addr} {aT} {xs:List (Str×V)} {c:Str} {ns:List Str} {ts:List T} (q:H a=some (.ins C aT xs)):aL H (.ins c ns ts) (.ref a)=a::cx H ts (xs.map (·.2)):=by simp only [aL,q]
theorem gF {t:T} {ts:List T} {v:V} {r:List V}:cx H (t::ts) (v::r)=aL H t v ++ cx H ts r:=by simp only [cx]
theorem lq {vs:List V}:cx H [] vs=[]:=by simp only [cx]
mutual
theorem cq.mono (aY:Sub G G'):∀{t:T} {v:V},cq K G H t v→cq K G' H t v
 | .ax _,_,h=>by simp only [cq] at h ⊢; exact h.mono aY
 | .lst _,_,h=>by
   simp only [cq] at h ⊢
   obtain ⟨a,xs,e,q,r⟩:=h
   exact ⟨a,xs,e,q,bA.mono aY r⟩
 | .cL _ _,_,h=>by
   simp only [cq] at h ⊢
   obtain ⟨a,xs,e,q,n,r⟩:=h
   exact ⟨a,xs,e,q,n,bA.mono aY r⟩
 | .bx _ _,_,h=>by
   simp only [cq] at h ⊢
   obtain ⟨a,xs,e,q,n,r⟩:=h
   exact ⟨a,xs,e,q,n,bA.mono aY r⟩
 | .ins _ _ _,_,h=>by
   simp only [cq] at h ⊢
   obtain ⟨a,aT,xs,e,q,n,r⟩:=h
   exact ⟨a,aT,xs,e,q,n,bA.mono aY r⟩
theorem bA.mono (aY:Sub G G'):∀{ts:List T} {vs:List V},bA K G H ts vs→bA K G' H ts vs
 | [],_,h=>by simpa only [bA] using h
 | _::_,_,h=>by
   simp only [bA] at h ⊢
   obtain ⟨v,r,e,q,t⟩:=h
   exact ⟨v,r,e,cq.mono aY q,bA.mono aY t⟩
end
mutual
theorem cq.keep:∀{t:T} {v:V},(∀b∈aL H t v,H' b=H b)→cq K G H t v→cq K G H' t v∧aL H' t v=aL H t v
 | .ax _,_,_,h=>by
   simp only [cq] at h
   exact ⟨by simp only [cq]; exact h,by simp only [aL]⟩
 | .lst _,_,k,h=>by
   simp only [cq] at h
   obtain ⟨a,xs,rfl,q,r⟩:=h
   rw [iz q] at k
   have i8:H' a=some (.lst xs):=(k a (by simp)).trans q
   obtain ⟨ao,a_⟩:=bA.keep (fun b hb=>k b (List.mem_cons_of_mem _ hb)) r
   exact ⟨by simp only [cq]; exact ⟨a,xs,rfl,i8,ao⟩,by rw [iz i8,iz q,a_]⟩
 | .cL _ _,_,k,h=>by
   simp only [cq] at h
   obtain ⟨a,xs,rfl,q,n,r⟩:=h
   rw [rg q] at k
   have i8:H' a=some (.cL xs):=(k a (by simp)).trans q
   obtain ⟨ao,a_⟩:=bA.keep (fun b hb=>k b (List.mem_cons_of_mem _ hb)) r
   exact ⟨by simp only [cq]; exact ⟨a,xs,rfl,i8,n,ao⟩,by rw [rg i8,rg q,a_]⟩
 | .bx _ _,_,k,h=>by
   simp only [cq] at h
   obtain ⟨a,xs,rfl,q,n,r⟩:=h
   rw [rh q] at k
   have i8:H' a=some (.bx xs):=(k a (by simp)).trans q
   obtain ⟨ao,a_⟩:=bA.keep (fun b hb=>k b (List.mem_cons_of_mem _ hb)) r
   exact ⟨by simp only [cq]; exact ⟨a,xs,rfl,i8,n,ao⟩,by rw [rh i8,rh q,a_]⟩
 | .ins _ _ _,_,k,h=>by
   simp only [cq] at h
   obtain ⟨a,aT,xs,rfl,⟨C,bD,q⟩,n,r⟩:=h
   rw [ri q] at k
   have i8:H' a=some (.ins C aT xs):=(k a (by simp)).trans q
   obtain ⟨ao,a_⟩:=bA.keep (fun b hb=>k b (List.mem_cons_of_mem _ hb)) r
   exact ⟨by simp only [cq]; exact ⟨a,aT,xs,rfl,⟨C,bD,i8⟩,n,ao⟩,by rw [ri i8,ri q,a_]⟩
theorem bA.keep:∀{ts:List T} {vs:List V},(∀b∈cx H ts vs,H' b=H b)→bA K G H ts vs→bA K G H' ts vs∧cx H' ts vs=cx H ts vs
 | [],_,_,h=>⟨by simpa only [bA] using h,by simp only [cx]⟩
 | _::_,_,k,h=>by
   simp only [bA] at h
   obtain ⟨v,r,rfl,q,t⟩:=h
   rw [gF] at k
   obtain ⟨aW,bG⟩:=cq.keep (fun b hb=>k b (List.mem_append_left _ hb)) q
   obtain ⟨t1,dV⟩:=bA.keep (fun b hb=>k b (List.mem_append_right _ hb)) t
   exact ⟨by simp only [bA]; exact ⟨v,r,rfl,aW,t1⟩,by rw [gF,gF,bG,dV]⟩
end
mutual
theorem cq.some:∀{t:T} {v:V},cq K G H t v→∀b∈aL H t v,H b≠none
 | .ax _,_,_=>by intro b hb; simp [aL] at hb
 | .lst _,_,h=>by
   simp only [cq] at h
   obtain ⟨a,xs,rfl,q,r⟩:=h
   rw [iz q]
   intro b hb
   rcases List.mem_cons.mp hb with rfl | hb
   · rw [q]; exact fun z=>nomatch z
   · exact bA.some r b hb
 | .cL _ _,_,h=>by
   simp only [cq] at h
   obtain ⟨a,xs,rfl,q,n,r⟩:=h
   rw [rg q]
   intro b hb
   rcases List.mem_cons.mp hb with rfl | hb
   · rw [q]; exact fun z=>nomatch z
   · exact bA.some r b hb
 | .bx _ _,_,h=>by
   simp only [cq] at h
   obtain ⟨a,xs,rfl,q,n,r⟩:=h
   rw [rh q]
   intro b hb
   rcases List.mem_cons.mp hb with rfl | hb
   · rw [q]; exact fun z=>nomatch z
   · exact bA.some r b hb
 | .ins _ _ _,_,h=>by
   simp only [cq] at h
   obtain ⟨a,aT,xs,rfl,⟨C,bD,q⟩,n,r⟩:=h
   rw [ri q]
   intro b hb
   rcases List.mem_cons.mp hb with rfl | hb
   · rw [q]; exact fun z=>nomatch z
   · exact bA.some r b hb
theorem bA.some:∀{ts:List T} {vs:List V},bA K G H ts vs→∀b∈cx H ts vs,H b≠none
 | [],_,_=>by intro b hb; simp [cx] at hb
 | _::_,_,h=>by
   simp only [bA] at h
   obtain ⟨v,r,rfl,q,t⟩:=h
   rw [gF]
   intro b hb
   rcases List.mem_append.mp hb with hb | hb
   · exact cq.some q b hb
   · exact bA.some t b hb
end
mutual
theorem cq.view (aY:Sub G P):∀{t:T} {v:V},(∀a∈aL H t v,P a=H a)→cq K G H t v→At K P (toD t) v
 | .ax _,_,_,h=>by
   simp only [cq,toD] at h ⊢
   exact h.mono aY
 | .lst _,_,k,h=>by
   simp only [cq] at h
   obtain ⟨a,xs,rfl,q,r⟩:=h
   rw [iz q] at k
   simp only [toD,At]
   exact ⟨a,xs,rfl,by rw [k a (by simp)]; exact q,bA.view aY (fun b hb=>k b (List.mem_cons_of_mem _ hb)) r⟩
 | .cL _ _,_,k,h=>by
   simp only [cq] at h
   obtain ⟨a,xs,rfl,q,n,r⟩:=h
   rw [rg q] at k
   simp only [toD,At]
   exact ⟨a,xs,rfl,by rw [k a (by simp)]; exact q,n,bA.view aY (fun b hb=>k b (List.mem_cons_of_mem _ hb)) r⟩
 | .bx _ _,_,k,h=>by
   simp only [cq] at h
   obtain ⟨a,xs,rfl,q,n,r⟩:=h
   rw [rh q] at k
   simp only [toD,At]
   exact ⟨a,xs,rfl,by rw [k a (by simp)]; exact q,n,bA.view aY (fun b hb=>k b (List.mem_cons_of_mem _ hb)) r⟩
 | .ins _ _ _,_,k,h=>by
   simp only [cq] at h
   obtain ⟨a,aT,xs,rfl,⟨C,bD,q⟩,n,r⟩:=h
   rw [ri q] at k
   simp only [toD,At]
   exact ⟨a,aT,xs,rfl,⟨C,bD,by rw [k a (by simp)]; exact q⟩,n,bA.view aY (fun b hb=>k b (List.mem_cons_of_mem _ hb)) r⟩
theorem bA.view (aY:Sub G P):∀{ts:List T} {vs:List V},(∀a∈cx H ts vs,P a=H a)→bA K G H ts vs→aE K P (g7 ts) vs
 | [],_,_,h=>by simp only [bA,g7,aE] at h ⊢; exact h
 | _::_,_,k,h=>by
   simp only [bA] at h
   obtain ⟨v,r,rfl,q,t⟩:=h
   rw [gF] at k
   simp only [g7,aE]
   exact ⟨v,r,rfl,cq.view aY (fun b hb=>k b (List.mem_append_left _ hb)) q,bA.view aY (fun b hb=>k b (List.mem_append_right _ hb)) t⟩
end
theorem cq.N2 {a:Addr} {o:cY} {t:T} {v:V} (n:a∉aL H t v) (h:cq K G H t v):cq K G (upd H a o) t v∧aL (upd H a o) t v=aL H t v:=h.keep fun b hb=>cG fun z=>n (z ▸ hb)
end
inductive jU where
 | lst (ds:List D) | bx (ks:List (List Key)) (ds:List D) | ins (c:Str) (ns:List Str) (ds:List D)
noncomputable def k7 (K:PySem.W.Frag) (G:J):jU→cY→Prop
 | .lst ds,ho=>∃xs,ho= .lst xs∧aE K G ds xs
 | .bx ks ds,ho=>∃xs,ho= .bx xs∧xs.map (·.1)=ks∧aE K G ds (xs.map (·.2))
 | .ins c ns ds,ho=>∃C aT xs,eS K c C∧ho= .ins C aT xs∧xs.map (·.1)=ns∧aE K G ds (xs.map (·.2))
theorem k7.mono {K:PySem.W.Frag} {G H:J} (s:Sub G H):∀{o:jU} {ho:cY},k7 K G o ho→k7 K H o ho
 | .lst _,_,⟨xs,e,q⟩=>⟨xs,e,q.mono s⟩
 | .bx _ _,_,⟨xs,e,k,q⟩=>⟨xs,e,k,q.mono s⟩
 | .ins _ _ _,_,⟨C,aT,xs,c,e,k,q⟩=>⟨C,aT,xs,c,e,k,q.mono s⟩
noncomputable def lM:jU→D
 | .lst ds=> .lst ds
 | .bx ks ds=> .bx ks ds
 | .ins c ns ds=> .ins c ns ds
theorem k7.at {K:PySem.W.Frag} {G:J} {o:jU} {ho:cY} {a:Addr} (h:k7 K G o ho) (e:G a=some ho):At K G (lM o) (.ref a):=by
 cases o with
 | lst ds=>obtain ⟨xs,rfl,q⟩:=h; simp only [lM,At]; exact ⟨a,xs,rfl,e,q⟩
 | bx ks ds=>obtain ⟨xs,rfl,k,q⟩:=h; simp only [lM,At]; exact ⟨a,xs,rfl,e,k,q⟩
 | ins c ns ds=>obtain ⟨C,aT,xs,bD,rfl,k,q⟩:=h; simp only [lM,At]; exact ⟨a,aT,xs,rfl,⟨C,bD,e⟩,k,q⟩
inductive cQ where
 | un | ax (d:D) | aU (o:jU) | dm (t:T)
noncomputable abbrev cQ.df (ds:List D):cQ:= .aU (.lst ds)
noncomputable abbrev ai:=List cQ
structure bf where
 K:PySem.W.Frag
 bw:J
 a7:J
 gB:Str→J→Prop
structure dX (F:bf) (G H:J):Prop where
 sub:Sub G H
 eC:Sub F.bw G
 hh:Sub F.a7 H
 new:∀b,F.a7 b≠none→G b=F.bw b
structure oS (F:bf) (G H:J) (t:T) (v:V):Prop where
 at_:cq F.K G H t v
 bF:(aL H t v).Nodup
 own:∀b∈aL H t v,G b=none∧F.a7 b=none
noncomputable def kr (F:bf) (G H:J) (o:Option V):cQ→Prop
 | .un=>True
 | .ax d=>∃v,o=some v∧At F.K G d v
 | .aU aU=>∃a ho,o=some (.ref a)∧H a=some ho∧G a=none∧F.a7 a=none∧k7 F.K G aU ho
 | .dm t=>∃v,o=some v∧oS F G H t v
noncomputable def fv (H:J):cQ→Option V→Addr→Prop
 | .un,_,_=>False
 | .ax _,_,_=>False
 | .aU _,o,a=>o=some (.ref a)
 | .dm t,o,a=>∃v,o=some v∧a∈aL H t v
structure Rel (F:bf) (G H:J) (σ :St) (ρ:ai):Prop where
 aC:dX F G H
 len: σ.length=ρ.length
 cc:∀(i:Nat) (s:cQ),ρ[i]? =some s→∃o,σ[i]? =some o∧kr F G H o s
 nN:∀(i j:Nat) (a:Addr) (s s':cQ) (o bC:Option V),ρ[i]? =some s→ρ[j]? =some s'→ σ[i]? =some o→ σ[j]? =some bC→fv H s o a→fv H s' bC a→i=j
noncomputable def c2 (H:J) (σ :St) (ρ:ai) (a:Addr):Prop:=∃(i:Nat) (s:cQ) (o:Option V),ρ[i]? =some s∧ σ[i]? =some o∧fv H s o a
theorem Ai {α:Type} {l:List α} {i:Nat} {x:α} (e:l[i]? =some x):l.set i x=l:=by
 apply List.ext_getElem?
 intro j
 rw [List.getElem?_set]
 by_cases h:i=j
 · subst h
   rw [if_pos rfl,if_pos (List.getElem?_eq_some_iff.mp e).1]; exact e.symm
 · simp [h]
section
variable {F:bf} {G G' H H':J} {σ :St} {ρ:ai}
theorem c2.aU {a:Addr} {i:Nat} {o:jU} (ah:ρ[i]? =some (.aU o)) (aw: σ[i]? =some (some (.ref a))):c2 H σ ρ a:=⟨i,_,_,ah,aw,rfl⟩
theorem kr.keep {o:Option V} {s:cQ} (h:kr F G H o s) (aY:Sub G G') (k:∀a,fv H s o a→H' a=H a∧G' a=none):kr F G' H' o s∧(∀a,fv H' s o a→fv H s o a):=by
 cases s with
 | un=>exact ⟨trivial,fun _ z=>z⟩
 | ax d=>obtain ⟨v,aw,a⟩:=h; exact ⟨⟨v,aw,a.mono aY⟩,fun _ z=>z⟩
 | aU ds=>
   obtain ⟨a,xs,aw,h1,h2,h3,h4⟩:=h
   exact ⟨⟨a,xs,aw,by rw [(k a aw).1]; exact h1,(k a aw).2,h3,h4.mono aY⟩,fun _ z=>z⟩
 | dm t=>
   obtain ⟨v,aw,aW,bG,er⟩:=h
   obtain ⟨eV,eu⟩:=aW.keep fun b hb=>(k b ⟨v,aw,hb⟩).1
   refine ⟨⟨v,aw,⟨eV.mono aY,by rw [eu]; exact bG,fun b hb=>?_⟩⟩,fun a z=>?_⟩
   · rw [eu] at hb; exact ⟨(k b ⟨v,aw,hb⟩).2,(er b hb).2⟩
   · obtain ⟨u,bK,hb⟩:=z
     rw [aw] at bK; cases bK
     rw [eu] at hb; exact ⟨v,aw,hb⟩
theorem kr.foot {o:Option V} {s:cQ} (h:kr F G H o s) {a:Addr} (f:fv H s o a):H a≠none∧G a=none∧F.a7 a=none:=by
 cases s with
 | un=>exact f.elim
 | ax d=>exact f.elim
 | aU ds=>
   obtain ⟨b,xs,aw,h1,h2,h3,h4⟩:=h
   have f:o=some (.ref a):=f
   rw [aw] at f; cases f
   exact ⟨by rw [h1]; exact (fun z=>nomatch z),h2,h3⟩
 | dm t=>
   obtain ⟨v,aw,aW,bG,er⟩:=h
   obtain ⟨u,bK,hb⟩:=f
   rw [aw] at bK; cases bK
   exact ⟨aW.some a hb,er a hb⟩
theorem Rel.foot (r:Rel F G H σ ρ) {a:Addr} (h:c2 H σ ρ a):H a≠none∧G a=none∧F.a7 a=none:=by
 obtain ⟨i,s,o,ah,aw,f⟩:=h
 obtain ⟨bC,bK,q⟩:=r.cc i s ah
 rw [aw] at bK; cases bK
 exact q.foot f
theorem Rel.over {F':bf} (r:Rel F G H σ ρ) (hK:F'.K=F.K) (aC:dX F' G' H') (aY:Sub G G') (k:∀a,c2 H σ ρ a→H' a=H a∧G' a=none∧F'.a7 a=none):Rel F' G' H' σ ρ:=by
 have one:∀(i:Nat) (s:cQ),ρ[i]? =some s→∃o,σ[i]? =some o∧kr F' G' H' o s∧(∀a,fv H' s o a→fv H s o a):=fun i s e=>by
  obtain ⟨o,ah,q⟩:=r.cc i s e
  obtain ⟨aW,bG⟩:=q.keep aY fun a f=>⟨(k a ⟨i,s,o,e,ah,f⟩).1,(k a ⟨i,s,o,e,ah,f⟩).2.1⟩
  refine ⟨o,ah,?_,bG⟩
  cases s with
  | un=>trivial
  | ax d=>obtain ⟨v,aw,a⟩:=aW; exact ⟨v,aw,by rw [hK]; exact a⟩
  | aU ds=>
    obtain ⟨a,xs,aw,h1,h2,h3,h4⟩:=aW
    exact ⟨a,xs,aw,h1,h2,(k a ⟨i,_,o,e,ah,aw⟩).2.2,by rw [hK]; exact h4⟩
  | dm t=>
    obtain ⟨v,aw,eV,eu,gx⟩:=aW
    exact ⟨v,aw,by rw [hK]; exact eV,eu,fun b hb=>⟨(gx b hb).1,(k b ⟨i,_,o,e,ah,bG b ⟨v,aw,hb⟩⟩).2.2⟩⟩
 refine ⟨aC,r.len,fun i s e=>let ⟨o,ah,q,_⟩:=one i s e; ⟨o,ah,q⟩,fun i j a s s' o bC ah aw bK c8 f1 f2=>?_⟩
 obtain ⟨u,a6,_,aX⟩:=one i s ah
 rw [bK] at a6; cases a6
 obtain ⟨u,nr,_,tf⟩:=one j s' aw
 rw [c8] at nr; cases nr
 exact r.nN i j a s s' o bC ah aw bK c8 (aX a f1) (tf a f2)
theorem Rel.grow (r:Rel F G H σ ρ) (aY:Sub G G') (S3:Sub G' H') (hh:Sub H H') (nw:∀b,H b≠none→G' b=G b):Rel F G' H' σ ρ:=by
 refine r.over rfl ⟨S3,r.aC.eC.trans aY,r.aC.hh.trans hh,fun b hb=>?_⟩ aY fun a ha=>?_
 · rw [nw b (r.aC.hh.some hb)]; exact r.aC.new b hb
 · obtain ⟨h1,h2,h3⟩:=r.foot ha
   refine ⟨?_,(nw a h1).trans h2,h3⟩
   cases e:H a with
   | none=>exact absurd e h1
   | some o=>exact hh a o e
theorem Rel.lay (r:Rel F G H σ ρ) {p:Addr} {o:cY} (hp:H p=none):Rel F (upd G p o) (upd H p o) σ ρ:=by
 have Lp:G p=none:=r.aC.sub.gone hp
 refine r.grow (Sub.upd Lp) (Sub.both r.aC.sub) (Sub.upd hp) fun b hb=>?_
 rw [cG]
 intro e; subst e; exact hb hp
theorem Rel.lay0 (r:Rel F G H σ ρ) {p:Addr} {o:cY} (hp:H p=none):Rel F G (upd H p o) σ ρ:=
 r.grow (Sub.refl _) (Sub.sW r.aC.sub (r.aC.sub.gone hp)) (Sub.upd hp) fun _ _=>rfl
theorem Rel.take (r:Rel F G H σ ρ) {p:Addr} {o:cY} (hp:H p=some o) (hg:G p=none) (h0:F.a7 p=none) (no:¬ c2 H σ ρ p):Rel F (upd G p o) H σ ρ:=by
 refine r.over rfl ⟨Sub.at r.aC.sub hp,r.aC.eC.trans (Sub.upd hg),r.aC.hh,fun b hb=>?_⟩ (Sub.upd hg) fun a ha=>?_
 · rw [cG]
   · exact r.aC.new b hb
   · intro e; subst e; exact hb h0
 · obtain ⟨h1,h2,h3⟩:=r.foot ha
   exact ⟨rfl,by rw [cG (fun z=>no (by rw [←z]; exact ha))]; exact h2,h3⟩
theorem Rel.ax (r:Rel F G H σ ρ) {i:Nat} {d:D} (e:ρ[i]? =some (.ax d)):∃v,σ[i]? =some (some v)∧At F.K G d v:=by
 obtain ⟨o,ah,v,rfl,a⟩:=r.cc i _ e
 exact ⟨v,ah,a⟩
theorem Rel.obj (r:Rel F G H σ ρ) {i:Nat} {o:jU} (e:ρ[i]? =some (.aU o)):∃a ho,σ[i]? =some (some (.ref a))∧H a=some ho∧G a=none∧F.a7 a=none∧k7 F.K G o ho:=by
 obtain ⟨v,ah,a,ho,rfl,h1,h2,h3,h4⟩:=r.cc i _ e
 exact ⟨a,ho,ah,h1,h2,h3,h4⟩
theorem Rel.own {G H:J} {σ :St} {ρ:ai} (r:Rel F G H σ ρ) {i:Nat} {ds:List D} (e:ρ[i]? =some (.df ds)):∃a xs,σ[i]? =some (some (.ref a))∧H a=some (.lst xs)∧G a=none∧F.a7 a=none∧aE F.K G ds xs:=by
 obtain ⟨a,ho,ah,h1,h2,h3,xs,rfl,h4⟩:=r.obj e
 exact ⟨a,xs,ah,h1,h2,h3,h4⟩
theorem Rel.tree {G H:J} {σ :St} {ρ:ai} (r:Rel F G H σ ρ) {i:Nat} {t:T} (e:ρ[i]? =some (.dm t)):∃v,σ[i]? =some (some v)∧oS F G H t v:=by
 obtain ⟨o,ah,v,rfl,a⟩:=r.cc i _ e
 exact ⟨v,ah,a⟩
theorem get_set {α:Type} {l:List α} {i j:Nat} {x y:α} (e:(l.set i x)[j]? =some y):(i=j∧y=x)∨(i≠j∧l[j]? =some y):=by
 rw [List.getElem?_set] at e
 by_cases h:i=j
 · rw [if_pos h] at e
   split at e
   · cases e; exact .inl ⟨h,rfl⟩
   · cases e
 · rw [if_neg h] at e; exact .inr ⟨h,e⟩
theorem Rel.ox (r:Rel F G H σ ρ) {i:Nat} {s:cQ} {o:Option V} (hi:i < ρ.length) (q:kr F G H o s) (no:∀a,fv H s o a→∀(j:Nat) (s':cQ) (bC:Option V),j≠i→ρ[j]? =some s'→ σ[j]? =some bC→¬ fv H s' bC a):Rel F G H (σ.set i o) (ρ.set i s):=by
 have hs:i < σ.length:=by rw [r.len]; exact hi
 refine ⟨r.aC,by simp [r.len],fun j s e=>?_,fun j k b s1 s2 cn b3 ah aw bK c8 f1 f2=>?_⟩
 · rcases get_set e with ⟨rfl,rfl⟩ | ⟨ne,e⟩
   · exact ⟨o,by simp [hs],q⟩
   · rw [List.getElem?_set_ne ne]; exact r.cc j s e
 · rcases get_set ah with ⟨bL,a6⟩ | ⟨du,fu⟩
   · subst bL a6
     rw [List.getElem?_set_self hs] at bK
     cases bK
     rcases get_set aw with ⟨bB,aX⟩ | ⟨c_,fU⟩
     · exact bB
     · rw [List.getElem?_set_ne c_] at c8
       exact absurd f2 (no b f1 k s2 b3 (Ne.symm c_) fU c8)
   · rw [List.getElem?_set_ne du] at bK
     rcases get_set aw with ⟨bB,aX⟩ | ⟨c_,fU⟩
     · subst bB aX
       rw [List.getElem?_set_self hs] at c8
       cases c8
       exact absurd f1 (no b f2 j s1 cn (Ne.symm du) fu bK)
     · rw [List.getElem?_set_ne c_] at c8
       exact r.nN j k b s1 s2 cn b3 fu fU bK c8 f1 f2
theorem Rel.set (r:Rel F G H σ ρ) {i:Nat} {d:D} {v:V} (hi:i < ρ.length) (a:At F.K G d v):Rel F G H (σ.set i (some v)) (ρ.set i (.ax d)):=
 r.ox hi ⟨v,rfl,a⟩ fun _ f=>f.elim
theorem Rel.setB (r:Rel F G H σ ρ) {i:Nat} {aU:jU} {a:Addr} {ho:cY} (hi:i < ρ.length) (ha:H a=some ho) (hg:G a=none) (h0:F.a7 a=none) (q:k7 F.K G aU ho)
  (no:∀(j:Nat) (s:cQ) (o:Option V),j≠i→ρ[j]? =some s→ σ[j]? =some o→¬ fv H s o a):Rel F G H (σ.set i (some (.ref a))) (ρ.set i (.aU aU)):=
 r.ox hi ⟨a,ho,rfl,ha,hg,h0,q⟩ fun b f=>by
   have f:some (V.ref a)=some (.ref b):=f
   cases f; exact no
theorem Rel.SY (r:Rel F G H σ ρ) {i:Nat} {ds:List D} {a:Addr} {xs:List V} (hi:i < ρ.length) (ha:H a=some (.lst xs)) (hg:G a=none) (h0:F.a7 a=none) (q:aE F.K G ds xs)
  (no:∀(j:Nat) (s:cQ) (o:Option V),j≠i→ρ[j]? =some s→ σ[j]? =some o→¬ fv H s o a):Rel F G H (σ.set i (some (.ref a))) (ρ.set i (.df ds)):=r.setB hi ha hg h0 ⟨xs,rfl,q⟩ no
theorem Rel.E1 (r:Rel F G H σ ρ) {i:Nat} {s s':cQ} {o:Option V} {a:Addr} {ho:cY} (e:ρ[i]? =some s) (av: σ[i]? =some o) (fb:fv H s o a) (q:kr F G (upd H a ho) o s') (f:∀b,fv (upd H a ho) s' o b→fv H s o b∨¬ c2 H σ ρ b) :
  Rel F G (upd H a ho) σ (ρ.set i s'):=by
 have hi:i < ρ.length:=(List.getElem?_eq_some_iff.mp e).1
 obtain ⟨h1,h2,h3⟩:=r.foot ⟨i,s,o,e,av,fb⟩
 have vd:∀(j:Nat) (t:cQ),i≠j→ρ[j]? =some t→∃u,σ[j]? =some u∧kr F G (upd H a ho) u t∧(∀b,fv (upd H a ho) t u b→fv H t u b):=fun j t ne z=>by
  obtain ⟨u,a6,aX⟩:=r.cc j t z
  have na:¬ fv H t u a:=fun w=>ne (r.nN i j a s t o u e z av a6 fb w)
  obtain ⟨aW,bG⟩:=aX.keep (H':=upd H a ho) (Sub.refl G) fun b nU=>⟨cG fun w=>na (w ▸ nU),(aX.foot nU).2.1⟩
  exact ⟨u,a6,aW,bG⟩
 refine ⟨⟨Sub.sW r.aC.sub h2,r.aC.eC,fun c u z=>?_,r.aC.new⟩,by simp [r.len],fun j t z=>?_,fun j k c s1 s2 cn b3 bK c8 fJ j1 f1 f2=>?_⟩
 · rw [cG (hH z h3)]; exact r.aC.hh c u z
 · rcases get_set z with ⟨rfl,rfl⟩ | ⟨ne,z⟩
   · exact ⟨o,av,q⟩
   · obtain ⟨u,a6,aX,_⟩:=vd j t ne z
     exact ⟨u,a6,aX⟩
 · rcases get_set bK with ⟨bL,a6⟩ | ⟨du,oD⟩
   · subst bL a6
     rw [av] at fJ; cases fJ
     rcases get_set c8 with ⟨bB,aX⟩ | ⟨c_,ng⟩
     · exact bB
     · obtain ⟨u,fu,_,fU⟩:=vd k s2 c_ ng
       rw [j1] at fu; cases fu
       have g2:=fU c f2
       rcases f c f1 with g1 | g1
       · exact r.nN i k c s s2 o b3 e ng av j1 g1 g2
       · exact absurd ⟨k,s2,b3,ng,j1,g2⟩ g1
   · obtain ⟨u,fu,_,fU⟩:=vd j s1 du oD
     rw [fJ] at fu; cases fu
     have g1:=fU c f1
     rcases get_set c8 with ⟨bB,aX⟩ | ⟨c_,ng⟩
     · subst bB aX
       rw [av] at j1; cases j1
       rcases f c f2 with g2 | g2
       · exact r.nN j i c s1 s cn o oD e fJ av g1 g2
       · exact absurd ⟨j,s1,cn,oD,fJ,g1⟩ g2
     · obtain ⟨u,oG,_,VM⟩:=vd k s2 c_ ng
       rw [j1] at oG; cases oG
       exact r.nN j k c s1 s2 cn b3 oD ng fJ j1 g1 (VM c f2)
theorem Rel.yY (r:Rel F G H σ ρ) {i:Nat} {o bC:jU} {a:Addr} {ho:cY} (e:ρ[i]? =some (.aU o)) (av: σ[i]? =some (some (.ref a))) (q:k7 F.K G bC ho) :
  Rel F G (upd H a ho) σ (ρ.set i (.aU bC)):=by
 obtain ⟨b,WE,ah,h1,h2,h3,h4⟩:=r.obj e
 rw [av] at ah
 have bq:b=a:=by cases ah; rfl
 subst bq
 exact r.E1 e av rfl ⟨b,ho,rfl,dv,h2,h3,q⟩ fun c f=> .inl f
theorem Rel.mut (r:Rel F G H σ ρ) {i:Nat} {ds nO:List D} {a:Addr} {ys:List V} (e:ρ[i]? =some (.df ds)) (av: σ[i]? =some (some (.ref a))) (q:aE F.K G nO ys) :
  Rel F G (upd H a (.lst ys)) σ (ρ.set i (.df nO)):=r.yY e av ⟨ys,rfl,q⟩
theorem Rel.iS (r:Rel F G H σ ρ) {i:Nat} {o:jU} (e:ρ[i]? =some (.aU o)):∃G',Rel F G' H σ (ρ.set i (.ax (lM o)))∧Sub G G':=by
 have hi:i < ρ.length:=(List.getElem?_eq_some_iff.mp e).1
 obtain ⟨a,ho,ah,h1,h2,h3,h4⟩:=r.obj e
 have un:Rel F G H σ (ρ.set i .un):=by
  have z:=r.ox (s:= .un) (o:=some (.ref a)) hi trivial fun _ f=>f.elim
  rw [aA.Ai ah] at z; exact z
 have no:¬ c2 H σ (ρ.set i .un) a:=fun ⟨j,s,u,fu,fU,oG⟩=>by
  rcases get_set fu with ⟨_,z⟩ | ⟨ne,fu⟩
  · subst z; exact oG
  · exact ne (r.nN i j a _ s _ u e fu ah fU rfl oG)
 have a_:=un.take h1 h2 h3 no
 have da:=a_.ox (i:=i) (s:= .ax (lM o)) (o:=some (.ref a)) (by simpa using hi) ⟨.ref a,rfl,(h4.mono (Sub.upd h2)).at dv⟩ fun _ f=>f.elim
 rw [aA.Ai ah,List.set_set] at da
 exact ⟨upd G a ho,da,Sub.upd h2⟩
end
end aA
set_option Elab.async false
set_option linter.all false
namespace aA
open PySem aZ
noncomputable abbrev ay:=ai→R D
noncomputable abbrev bJ:=ai→R Bool
noncomputable abbrev aK:=ai→R (List D)
inductive e6 where
 | a9 (ρ:ai) | dF (d:D) | g5 (ds:List D) | eB (ρ:ai) | cj (ρ:ai) | g4 (t:T)
noncomputable abbrev a0:=ai→R e6
noncomputable def jw (F:bf) (c:Str):Prop:=∀G' H',dX F G' H'→F.gB c H'
noncomputable def ig (F:bf) (G H:J) (σ :St) (ρ:ai) (Q:b9):R D→Prop
 | .ok d=>∀v H' G',Rel F G' H' σ ρ→b2 G H G' H'→At F.K G' d v→Q v H'
 | .exc c=>jw F c
 | .bad=>False
noncomputable def pE (F:bf) (G H:J) (σ :St) (ρ:ai) (Q:Bool→J→Prop):R Bool→Prop
 | .ok b=>∀H' G',Rel F G' H' σ ρ→b2 G H G' H'→Q b H'
 | .exc c=>jw F c
 | .bad=>False
noncomputable def NQ (F:bf) (G H:J) (σ :St) (ρ:ai) (Q:List V→J→Prop):R (List D)→Prop
 | .ok ds=>∀vs H' G',Rel F G' H' σ ρ→b2 G H G' H'→aE F.K G' ds vs→Q vs H'
 | .exc c=>jw F c
 | .bad=>False
noncomputable def NV (F:bf) (G H:J) (σ :St) (ρ:ai) (Q:b9):R (List D)→Prop
 | .ok ds=>∀a xs H' G',Rel F G' H' σ ρ→b2 G H G' H'→H a=none→H' a=some (.lst xs)→G' a=none→aE F.K G' ds xs→Q (.ref a) H'
 | .exc c=>jw F c
 | .bad=>False
noncomputable def f7 (F:bf) (G:J) (b6:Ends):R e6→Prop
 | .ok (.a9 bj)=>∀ σ' G' H',Rel F G' H' σ' bj→Sub G G'→b6.a9 σ' H'
 | .ok (.eB bj)=>∀ σ' G' H',Rel F G' H' σ' bj→Sub G G'→b6.eB σ' H'
 | .ok (.cj bj)=>∀ σ' G' H',Rel F G' H' σ' bj→Sub G G'→b6.cj σ' H'
 | .ok (.dF d)=>∀v G' H',dX F G' H'→At F.K G' d v→b6.dF v H'
 | .ok (.g5 ds)=>∀a xs G' H',dX F G' H'→G' a=none→F.a7 a=none→H' a=some (.lst xs)→aE F.K G' ds xs→b6.dF (.ref a) H'
 | .ok (.g4 t)=>∀v G' H',dX F G' H'→oS F G' H' t v→b6.dF v H'
 | .exc c=>jw F c
 | .bad=>False
noncomputable def cA (F:bf) (m:ay):TE:=fun σ H Q=>∃G ρ,Rel F G H σ ρ∧ig F G H σ ρ Q (m ρ)
noncomputable def fc (F:bf) (m:bJ):TT:=fun σ H Q=>∃G ρ,Rel F G H σ ρ∧pE F G H σ ρ Q (m ρ)
noncomputable def ee (F:bf) (m:aK):eH:=fun σ H Q=>∃G ρ,Rel F G H σ ρ∧NQ F G H σ ρ Q (m ρ)
noncomputable def iF (F:bf) (m:aK):TE:=fun σ H Q=>∃G ρ,Rel F G H σ ρ∧NV F G H σ ρ Q (m ρ)
noncomputable def et (F:bf) (m:a0):d5:=fun b6 σ H=>∃G ρ,Rel F G H σ ρ∧f7 F G b6 (m ρ)
section
variable {F:bf} {G aM H H1:J} {σ :St} {ρ:ai}
theorem ig.mono {Q:b9} (s:b2 G H aM H1):∀{r:R D},ig F G H σ ρ Q r→ig F aM H1 σ ρ Q r
 | .ok _,h=>fun v H' G' r aY a=>h v H' G' r (s.trans aY) a
 | .exc _,h=>h
 | .bad,h=>h
theorem pE.mono {Q:Bool→J→Prop} (s:b2 G H aM H1):∀{r:R Bool},pE F G H σ ρ Q r→pE F aM H1 σ ρ Q r
 | .ok _,h=>fun H' G' r aY=>h H' G' r (s.trans aY)
 | .exc _,h=>h
 | .bad,h=>h
theorem f7.mono {b6:Ends} (s:Sub G aM):∀{r:R e6},f7 F G b6 r→f7 F aM b6 r
 | .ok (.a9 _),h=>fun σ' G' H' r aY=>h σ' G' H' r (s.trans aY)
 | .ok (.eB _),h=>fun σ' G' H' r aY=>h σ' G' H' r (s.trans aY)
 | .ok (.cj _),h=>fun σ' G' H' r aY=>h σ' G' H' r (s.trans aY)
 | .ok (.dF _),h=>h
 | .ok (.g5 _),h=>h
 | .ok (.g4 _),h=>h
 | .exc _,h=>h
 | .bad,h=>h
end
noncomputable abbrev ek (t' t:TE):Prop:=∀ σ H Q,t' σ H Q→t σ H Q
noncomputable abbrev kY (t' t:TT):Prop:=∀ σ H Q,t' σ H Q→t σ H Q
noncomputable abbrev tu (t' t:eH):Prop:=∀ σ H Q,t' σ H Q→t σ H Q
noncomputable abbrev fY (t' t:d5):Prop:=∀b6 σ H,t' b6 σ H→t b6 σ H
noncomputable def af (i:Nat):ay:=fun ρ=>match ρ[i]? with
 | some (.ax d)=> .ok d
 | _=> .bad
noncomputable def aq (d:D):ay:=fun _=> .ok d
section
variable {F:bf}
theorem Nc (i:Nat):ek (cA F (af i)) (sN i):=by
 rintro σ H Q ⟨G,ρ,r,h⟩
 unfold af at h
 cases e:ρ[i]? with
 | none=>rw [e] at h; exact h.elim
 | some s=>
   rw [e] at h
   cases s with
   | un=>exact h.elim
   | aU _=>exact h.elim
   | dm _=>exact h.elim
   | ax d=>
     obtain ⟨v,ah,a⟩:=r.ax e
     exact ⟨v,ah,h v H G r (b2.refl _ _) a⟩
theorem rB {d:D} {v:V} (a:∀G,At F.K G d v):ek (cA F (aq d)) (nd v):=by
 rintro σ H Q ⟨G,ρ,r,h⟩
 exact h v H G r (b2.refl _ _) (a G)
noncomputable def ar (f:D→D→R D) (a b:ay):ay:=fun ρ=>(a ρ).bind fun x=>(b ρ).bind fun y=>f x y
noncomputable def fg (F:bf) (r:d4) (f:D→D→R D):Prop:=∀ σ ρ G H x y aT fB Q,Rel F G H σ ρ→At F.K G aT x→At F.K G fB y→ig F G H σ ρ Q (f aT fB)→r x y H Q
theorem uC {r:d4} {f:D→D→R D} {ma e4:ay} (ho:fg F r f):ek (cA F (ar f ma e4)) (sL r (cA F ma) (cA F e4)):=by
 rintro σ H Q ⟨G,ρ,r,h⟩
 unfold ar at h
 refine ⟨G,ρ,r,?_⟩
 cases av:ma ρ with
 | bad=>rw [av] at h; exact h.elim
 | exc c=>rw [av] at h; exact h
 | ok aT=>
   rw [av,R.bo] at h
   intro x H1 aM ao s1 bH
   refine ⟨aM,ρ,ao,?_⟩
   cases bq:e4 ρ with
   | bad=>rw [bq] at h; exact h.elim
   | exc c=>rw [bq] at h; exact h
   | ok fB=>
     rw [bq,R.bo] at h
     intro y aH cb a_ s2 cI
     exact ho σ ρ cb aH x y aT fB Q a_ (bH.mono s2.g) cI (h.mono (s1.trans s2))
noncomputable def cH (f:D→R D) (a:ay):ay:=fun ρ=>(a ρ).bind f
noncomputable def Br (F:bf) (r:V→J→b9→Prop) (f:D→R D):Prop:=∀ σ ρ G H x aT Q,Rel F G H σ ρ→At F.K G aT x→ig F G H σ ρ Q (f aT)→r x H Q
theorem Nb {r:V→J→b9→Prop} {f:D→R D} {ma:ay} (ho:Br F r f):ek (cA F (cH f ma)) (GP r (cA F ma)):=by
 rintro σ H Q ⟨G,ρ,r,h⟩
 unfold cH at h
 refine ⟨G,ρ,r,?_⟩
 cases av:ma ρ with
 | bad=>rw [av] at h; exact h.elim
 | exc c=>rw [av] at h; exact h
 | ok aT=>
   rw [av,R.bo] at h
   intro x H1 aM ao s1 bH
   exact ho σ ρ aM H1 x aT Q ao bH (h.mono s1)
noncomputable def az:aK:=fun _=> .ok []
noncomputable def ag (a:ay) (r:aK):aK:=fun ρ=>(a ρ).bind fun x=>(r ρ).bind fun xs=> .ok (x::xs)
theorem MS:tu (ee F az) Az:=by
 rintro σ H Q ⟨G,ρ,r,h⟩
 exact h [] H G r (b2.refl _ _) .nil
theorem Mz {ma:ay} {r9:aK}:tu (ee F (ag ma r9)) (vA (cA F ma) (ee F r9)):=by
 rintro σ H Q ⟨G,ρ,r,h⟩
 unfold ag at h
 refine ⟨G,ρ,r,?_⟩
 cases av:ma ρ with
 | bad=>rw [av] at h; exact h.elim
 | exc c=>rw [av] at h; exact h
 | ok aT=>
   rw [av,R.bo] at h
   intro x H1 aM ao s1 bH
   refine ⟨aM,ρ,ao,?_⟩
   cases bq:r9 ρ with
   | bad=>rw [bq] at h; exact h.elim
   | exc c=>rw [bq] at h; exact h
   | ok fB=>
     rw [bq,R.bo] at h
     intro y aH cb a_ s2 cI
     exact h (x::y) aH cb a_ (s1.trans s2) (.cons (bH.mono s2.g) cI)
noncomputable def cV (m:aK):ay:=fun ρ=>(m ρ).bind fun xs=>if xs.length≤1000000 then .ok (.tup xs) else .bad
theorem M_ {m:aK}:ek (cA F (cV m)) (GO (ee F m)):=by
 rintro σ H Q ⟨G,ρ,r,h⟩
 unfold cV at h
 refine ⟨G,ρ,r,?_⟩
 cases av:m ρ with
 | bad=>rw [av] at h; exact h.elim
 | exc c=>rw [av] at h; exact h
 | ok ds=>
   rw [av,R.bo] at h
   intro vs H1 aM ao s1 a
   by_cases hl:ds.length≤1000000
   · rw [if_pos hl] at h
     refine ⟨by rw [←a.length]; exact Nat.le_trans hl (by decide),fun p hp=>?_⟩
     refine h (.ref p) _ _ (ao.lay hp) (s1.trans (b2.lay ao.aC.sub hp)) ?_
     simp only [At]
     exact ⟨p,vs,rfl,dv,a.mono (Sub.upd (ao.aC.sub.gone hp))⟩
   · rw [if_neg hl] at h; exact h.elim
theorem c2.some {G H:J} {σ :St} {ρ:ai} (r:Rel F G H σ ρ) {a:Addr} (h:c2 H σ ρ a):∃xs,H a=some xs:=by
 cases e:H a with
 | none=>exact absurd e (r.foot h).1
 | some o=>exact ⟨o,rfl⟩
theorem c2.back {G H H':J} {σ :St} {ρ:ai} (r:Rel F G H σ ρ) (s:Sub H H') {a:Addr} (h:c2 H' σ ρ a):c2 H σ ρ a:=by
 obtain ⟨i,cc,o,ah,aw,f⟩:=h
 refine ⟨i,cc,o,ah,aw,?_⟩
 obtain ⟨bC,bK,q⟩:=r.cc i cc ah
 rw [aw] at bK; cases bK
 exact (q.keep (G':=G) (H':=H') (Sub.refl _) fun b nU=>⟨by
  cases e:H b with
  | none=>exact absurd e (q.foot nU).1
  | some u=>exact s b u e,(q.foot nU).2.1⟩).2 a f
theorem c2.fresh {G H H':J} {σ :St} {ρ:ai} (r:Rel F G H σ ρ) (s:Sub H H') {a:Addr} (n:H a=none):¬ c2 H' σ ρ a:=fun h=>(r.foot (h.back r s)).1 n
noncomputable def lim (xs:List D):R (List D):=if xs.length≤1000000 then .ok xs else .bad
noncomputable def dE (m:aK):aK:=fun ρ=>(m ρ).bind lim
theorem MO {m:aK}:ek (iF F (dE m)) (GC (ee F m)):=by
 rintro σ H Q ⟨G,ρ,r,h⟩
 unfold dE lim at h
 refine ⟨G,ρ,r,?_⟩
 cases av:m ρ with
 | bad=>rw [av] at h; exact h.elim
 | exc c=>rw [av] at h; exact h
 | ok ds=>
   rw [av,R.bo] at h
   intro vs H1 aM ao s1 a
   by_cases hl:ds.length≤1000000
   · rw [if_pos hl] at h
     refine ⟨by rw [←a.length]; exact Nat.le_trans hl (by decide),fun p hp=>?_⟩
     exact h p vs _ aM (ao.lay0 hp) (s1.trans (b2.lay0 hp)) (s1.h.gone hp) dv (ao.aC.sub.gone hp) a
   · rw [if_neg hl] at h; exact h.elim
noncomputable def cW (m:aK):ay:=fun ρ=>(m ρ).bind fun xs=> .ok (.lst xs)
theorem MH {m:aK}:ek (cA F (cW m)) (iF F m):=by
 rintro σ H Q ⟨G,ρ,r,h⟩
 unfold cW at h
 refine ⟨G,ρ,r,?_⟩
 cases av:m ρ with
 | bad=>rw [av] at h; exact h.elim
 | exc c=>rw [av] at h; exact h
 | ok ds=>
   rw [av,R.bo] at h
   intro a xs H' G' a4 s' aN ha hg q
   refine h (.ref a) H' _ (a4.take ha hg (r.aC.hh.gone aN) (c2.fresh r s'.h aN)) (s'.put aN hg) ?_
   simp only [At]
   exact ⟨a,xs,rfl,dv,q.mono (Sub.upd hg)⟩
noncomputable def iw:D→R Bool
 | .au b=> .ok b
 | _=> .bad
noncomputable def bz (m:ay):bJ:=fun ρ=>(m ρ).bind iw
theorem yn {m:ay}:kY (fc F (bz m)) (As (cA F m)):=by
 rintro σ H Q ⟨G,ρ,r,h⟩
 unfold bz at h
 refine ⟨G,ρ,r,?_⟩
 cases av:m ρ with
 | bad=>rw [av] at h; exact h.elim
 | exc c=>rw [av] at h; exact h
 | ok d=>
   rw [av,R.bo] at h
   intro x H1 aM ao s1 bH
   cases d <;> first
    | (exact h.elim)
    | (simp only [At] at bH; exact ⟨_,bH,h H1 aM ao s1⟩)
theorem D8 {m:ay}:kY (fc F (bz m)) (AB (cA F m)):=yn
noncomputable def lF (a b:bJ):bJ:=fun ρ=>(a ρ).bind fun c=>if c=true then b ρ else .ok false
noncomputable def fE (a b:bJ):bJ:=fun ρ=>(a ρ).bind fun c=>if c=true then .ok true else b ρ
noncomputable def ea (a:bJ):bJ:=fun ρ=>(a ρ).bind fun c=> .ok (!c)
theorem Mr {a b:bJ}:kY (fc F (lF a b)) (Gv (fc F a) (fc F b)):=by
 rintro σ H Q ⟨G,ρ,r,h⟩
 unfold lF at h
 refine ⟨G,ρ,r,?_⟩
 cases av:a ρ with
 | bad=>rw [av] at h; exact h.elim
 | exc c=>rw [av] at h; exact h
 | ok c=>
   rw [av,R.bo] at h
   intro H1 aM ao s1
   cases c with
   | true=>exact ⟨aM,ρ,ao,pE.mono s1 h⟩
   | false=>exact h H1 aM ao s1
theorem MW {a b:bJ}:kY (fc F (fE a b)) (GJ (fc F a) (fc F b)):=by
 rintro σ H Q ⟨G,ρ,r,h⟩
 unfold fE at h
 refine ⟨G,ρ,r,?_⟩
 cases av:a ρ with
 | bad=>rw [av] at h; exact h.elim
 | exc c=>rw [av] at h; exact h
 | ok c=>
   rw [av,R.bo] at h
   intro H1 aM ao s1
   cases c with
   | true=>exact h H1 aM ao s1
   | false=>exact ⟨aM,ρ,ao,pE.mono s1 h⟩
theorem MT {a:bJ}:kY (fc F (ea a)) (GH (fc F a)):=by
 rintro σ H Q ⟨G,ρ,r,h⟩
 unfold ea at h
 refine ⟨G,ρ,r,?_⟩
 cases av:a ρ with
 | bad=>rw [av] at h; exact h.elim
 | exc c=>rw [av] at h; exact h
 | ok c=>rw [av,R.bo] at h; exact h
noncomputable def i1 (a b:ay):ay:=fun ρ=>(a ρ).bind fun x=>(iw x).bind fun c=>if c=true then b ρ else .ok (.au false)
noncomputable def pU (a b:ay):ay:=fun ρ=>(a ρ).bind fun x=>(iw x).bind fun c=>if c=true then .ok (.au true) else b ρ
noncomputable def n9 (a:ay):ay:=fun ρ=>(a ρ).bind fun x=>(iw x).bind fun c=> .ok (.au (!c))
theorem Ms {a b:ay}:ek (cA F (i1 a b)) (Gw (cA F a) (cA F b)):=by
 rintro σ H Q ⟨G,ρ,r,h⟩
 unfold i1 at h
 refine ⟨G,ρ,r,?_⟩
 cases av:a ρ with
 | bad=>rw [av] at h; exact h.elim
 | exc c=>rw [av] at h; exact h
 | ok d=>
   rw [av,R.bo] at h
   intro x H1 aM ao s1 bH
   cases d with
   | au c=>
     simp only [At] at bH
     refine ⟨c,bH,?_⟩
     cases c with
     | true=>exact ⟨aM,ρ,ao,ig.mono s1 h⟩
     | false=>exact h _ H1 aM ao s1 (by simp only [At])
   | _=>exact h.elim
theorem MX {a b:ay}:ek (cA F (pU a b)) (GK (cA F a) (cA F b)):=by
 rintro σ H Q ⟨G,ρ,r,h⟩
 unfold pU at h
 refine ⟨G,ρ,r,?_⟩
 cases av:a ρ with
 | bad=>rw [av] at h; exact h.elim
 | exc c=>rw [av] at h; exact h
 | ok d=>
   rw [av,R.bo] at h
   intro x H1 aM ao s1 bH
   cases d with
   | au c=>
     simp only [At] at bH
     refine ⟨c,bH,?_⟩
     cases c with
     | false=>exact ⟨aM,ρ,ao,ig.mono s1 h⟩
     | true=>exact h _ H1 aM ao s1 (by simp only [At])
   | _=>exact h.elim
theorem MU {a:ay}:ek (cA F (n9 a)) (GI (cA F a)):=by
 rintro σ H Q ⟨G,ρ,r,h⟩
 unfold n9 at h
 refine ⟨G,ρ,r,?_⟩
 cases av:a ρ with
 | bad=>rw [av] at h; exact h.elim
 | exc c=>rw [av] at h; exact h
 | ok d=>
   rw [av,R.bo] at h
   intro x H1 aM ao s1 bH
   cases d with
   | au c=>
     simp only [At] at bH
     exact ⟨c,bH,h _ H1 aM ao s1 (by simp only [At])⟩
   | _=>exact h.elim
noncomputable def n6 (c:bJ) (a b:ay):ay:=fun ρ=>(c ρ).bind fun k=>if k=true then a ρ else b ρ
theorem MJ {c:bJ} {a b:ay}:ek (cA F (n6 c a b)) (GB (fc F c) (cA F a) (cA F b)):=by
 rintro σ H Q ⟨G,ρ,r,h⟩
 unfold n6 at h
 refine ⟨G,ρ,r,?_⟩
 cases av:c ρ with
 | bad=>rw [av] at h; exact h.elim
 | exc c=>rw [av] at h; exact h
 | ok k=>
   rw [av,R.bo] at h
   intro H1 aM ao s1
   cases k with
   | true=>exact ⟨aM,ρ,ao,ig.mono s1 h⟩
   | false=>exact ⟨aM,ρ,ao,ig.mono s1 h⟩
noncomputable def dc:a0:=fun ρ=> .ok (.a9 ρ)
noncomputable def bt (a b:a0):a0:=fun ρ=>(a ρ).bind fun f=>match f with
 | .a9 bj=>b bj
 | f=> .ok f
theorem MR:fY (et F dc) Ay:=by
 rintro b6 σ H ⟨G,ρ,r,h⟩
 exact h σ G H r (Sub.refl _)
theorem M4 {a b:a0}:fY (et F (bt a b)) (AA (et F a) (et F b)):=by
 rintro b6 σ H ⟨G,ρ,r,h⟩
 unfold bt at h
 refine ⟨G,ρ,r,?_⟩
 cases av:a ρ with
 | bad=>rw [av] at h; exact h.elim
 | exc c=>rw [av] at h; exact h
 | ok f=>
   rw [av,R.bo] at h
   cases f with
   | a9 bj=>exact fun σ' G' H' a4 s'=>⟨G',bj,a4,f7.mono s' h⟩
   | dF d=>exact h
   | g5 d=>exact h
   | eB d=>exact h
   | cj d=>exact h
   | g4 d=>exact h
noncomputable def pP (a:ay):a0:=fun ρ=>(a ρ).bind fun _=> .ok (.a9 ρ)
theorem MC {a:ay}:fY (et F (pP a)) (Av (cA F a)):=by
 rintro b6 σ H ⟨G,ρ,r,h⟩
 unfold pP at h
 refine ⟨G,ρ,r,?_⟩
 cases av:a ρ with
 | bad=>rw [av] at h; exact h.elim
 | exc c=>rw [av] at h; exact h
 | ok d=>rw [av,R.bo] at h; exact fun v H' G' a4 s' _=>h σ G' H' a4 s'.g
noncomputable def cz (a:ay):a0:=fun ρ=>(a ρ).bind fun d=> .ok (.dF d)
theorem MZ {a:ay}:fY (et F (cz a)) (sM (cA F a)):=by
 rintro b6 σ H ⟨G,ρ,r,h⟩
 unfold cz at h
 refine ⟨G,ρ,r,?_⟩
 cases av:a ρ with
 | bad=>rw [av] at h; exact h.elim
 | exc c=>rw [av] at h; exact h
 | ok d=>rw [av,R.bo] at h; exact fun v H' G' a4 s' a=>h v G' H' a4.aC a
noncomputable def iC (a:aK):a0:=fun ρ=>(a ρ).bind fun d=> .ok (.g5 d)
theorem M0 {a:aK}:fY (et F (iC a)) (sM (iF F a)):=by
 rintro b6 σ H ⟨G,ρ,r,h⟩
 unfold iC at h
 refine ⟨G,ρ,r,?_⟩
 cases av:a ρ with
 | bad=>rw [av] at h; exact h.elim
 | exc c=>rw [av] at h; exact h
 | ok d=>rw [av,R.bo] at h; exact fun a xs H' G' a4 s' h1 h2 h3 h4=>h a xs G' H' a4.aC h3 (r.aC.hh.gone h1) h2 h4
noncomputable def oc (i:Nat):aK:=fun ρ=>match ρ[i]? with
 | some (.aU (.lst d))=> .ok d
 | _=> .bad
theorem M1 (i:Nat):fY (et F (iC (oc i))) (sM (sN i)):=by
 rintro b6 σ H ⟨G,ρ,r,h⟩
 unfold iC oc at h
 cases e:ρ[i]? with
 | none=>rw [e] at h; exact h.elim
 | some s=>
   rw [e] at h
   cases s with
   | un=>exact h.elim
   | ax _=>exact h.elim
   | dm _=>exact h.elim
   | aU o=>
     cases o with
     | lst ds=>
       obtain ⟨a,xs,ah,h1,h2,h3,h4⟩:=r.own e
       exact ⟨.ref a,ah,h a xs G H r.aC h2 h3 h1 h4⟩
     | bx _ _=>exact h.elim
     | ins _ _ _=>exact h.elim
noncomputable def c9 (c:bJ) (a b:a0):a0:=fun ρ=>(c ρ).bind fun k=>if k=true then a ρ else b ρ
theorem MK {c:bJ} {a b:a0}:fY (et F (c9 c a b)) (Ax (fc F c) (et F a) (et F b)):=by
 rintro b6 σ H ⟨G,ρ,r,h⟩
 unfold c9 at h
 refine ⟨G,ρ,r,?_⟩
 cases av:c ρ with
 | bad=>rw [av] at h; exact h.elim
 | exc c=>rw [av] at h; exact h
 | ok k=>
   rw [av,R.bo] at h
   intro H1 aM ao s1
   cases k with
   | true=>exact ⟨aM,ρ,ao,f7.mono s1.g h⟩
   | false=>exact ⟨aM,ρ,ao,f7.mono s1.g h⟩
noncomputable def bQ (i:Nat) (d:D) (ρ:ai):R ai:=if i < ρ.length then .ok (ρ.set i (.ax d)) else .bad
noncomputable def c6 (i:Nat) (a:ay):a0:=fun ρ=>(a ρ).bind fun d=>(bQ i d ρ).bind fun bj=> .ok (.a9 bj)
theorem M5 {i:Nat} {a:ay}:fY (et F (c6 i a)) (kP (cA F a) (hY i)):=by
 rintro b6 σ H ⟨G,ρ,r,h⟩
 unfold c6 bQ at h
 refine ⟨G,ρ,r,?_⟩
 cases av:a ρ with
 | bad=>rw [av] at h; exact h.elim
 | exc c=>rw [av] at h; exact h
 | ok d=>
   rw [av,R.bo] at h
   intro v H1 aM ao s1 bc
   by_cases hi:i < ρ.length
   · rw [if_pos hi] at h
     exact h _ aM H1 (ao.set hi bc) s1.g
   · rw [if_neg hi] at h; exact h.elim
noncomputable def gr (i:Nat) (a:aK):a0:=fun ρ=>(a ρ).bind fun ds=>if i < ρ.length then .ok (.a9 (ρ.set i (.df ds))) else .bad
theorem yo {i:Nat} {a:aK}:fY (et F (gr i a)) (kP (iF F a) (hY i)):=by
 rintro b6 σ H ⟨G,ρ,r,h⟩
 unfold gr at h
 refine ⟨G,ρ,r,?_⟩
 cases av:a ρ with
 | bad=>rw [av] at h; exact h.elim
 | exc c=>rw [av] at h; exact h
 | ok ds=>
   rw [av,R.bo] at h
   intro b xs H1 aM ao s1 h1 h2 h3 h4
   by_cases hi:i < ρ.length
   · rw [if_pos hi] at h
     exact h _ aM H1 (ao.SY hi h2 h3 (r.aC.hh.gone h1) h4 fun j ae o _ ah aw f=>c2.fresh r s1.h h1 ⟨j,ae,o,ah,aw,f⟩) s1.g
   · rw [if_neg hi] at h; exact h.elim
noncomputable def jl (i:Nat) (ρ:ai):ai:=match ρ[i]? with
 | some (.aU o)=>ρ.set i (.ax (lM o))
 | _=>ρ
theorem Rel.jl {G H:J} {σ :St} {ρ:ai} (r:Rel F G H σ ρ) (i:Nat):∃G',Rel F G' H σ (aA.jl i ρ)∧Sub G G':=by
 unfold aA.jl
 cases e:ρ[i]? with
 | none=>exact ⟨G,r,Sub.refl _⟩
 | some s=>
   cases s with
   | un=>exact ⟨G,r,Sub.refl _⟩
   | ax _=>exact ⟨G,r,Sub.refl _⟩
   | dm _=>exact ⟨G,r,Sub.refl _⟩
   | aU o=>exact r.iS e
noncomputable def rP (i:Nat) (m:a0):a0:=fun ρ=>m (jl i ρ)
theorem MG {i:Nat} {m:a0}:fY (et F (rP i m)) (et F m):=by
 rintro b6 σ H ⟨G,ρ,r,h⟩
 obtain ⟨aM,ao,s1⟩:=r.jl i
 exact ⟨aM,_,ao,f7.mono s1 h⟩
noncomputable def fQ:D→Bool
 | .non=>true | .au _=>true | .int _=>true | .str _=>true
 | _=>false
theorem At.F7 {K:PySem.W.Frag} {G G':J} {d:D} {v:V} (h:fQ d=true) (a:At K G d v):At K G' d v:=by
 cases d <;> first
  | (simp only [At] at a ⊢; exact a)
  | (cases h)
noncomputable def mE:cQ→cQ
 | .aU o=> .ax (lM o)
 | .dm t=> .ax (toD t)
 | s=>s
noncomputable def eO (ρ:ai):ai:=ρ.map mE
open Classical in
noncomputable def jo (σ :St) (ρ:ai) (G H:J):J:=fun b=>if c2 H σ ρ b then H b else G b
theorem xJ {G H:J} {σ :St} {ρ:ai} (r:Rel F G H σ ρ):Sub G (jo σ ρ G H):=fun b o e=>by
 unfold jo
 split
 · exact r.aC.sub b o e
 · exact e
theorem rl {G H:J} {σ :St} {ρ:ai} {b:Addr} (h:c2 H σ ρ b):jo σ ρ G H b=H b:=by
 unfold jo
 rw [if_pos h]
theorem Lk {H:J} {ρ:ai} {i:Nat} {s:cQ} (e:(eO ρ)[i]? =some s) (o:Option V) (a:Addr):¬ fv H s o a:=by
 unfold eO at e
 rw [List.getElem?_map] at e
 cases aw:ρ[i]? with
 | none=>rw [aw] at e; cases e
 | some t=>
   rw [aw] at e
   have ae:mE t=s:=Option.some.inj e
   subst ae
   cases t <;> exact fun z=>z
theorem Rel.plus {G H:J} {σ :St} {ρ:ai} (r:Rel F G H σ ρ):Rel F (jo σ ρ G H) H σ (eO ρ):=by
 have aY:=xJ r
 refine ⟨⟨fun b o e=>?_,r.aC.eC.trans aY,r.aC.hh,fun b hb=>?_⟩,by simp [eO,r.len],fun i s e=>?_,fun i j a s s' o bC ah _ _ _ f _=>absurd f (Lk ah o a)⟩
 · unfold jo at e
   split at e
   · exact e
   · exact r.aC.sub b o e
 · unfold jo
   split
   · rename_i z
     exact absurd (r.foot z).2.2 hb
   · exact r.aC.new b hb
 · unfold eO at e
   rw [List.getElem?_map] at e
   cases ah:ρ[i]? with
   | none=>rw [ah] at e; cases e
   | some t=>
     rw [ah] at e
     have ae:mE t=s:=Option.some.inj e
     obtain ⟨o,aw,q⟩:=r.cc i t ah
     refine ⟨o,aw,?_⟩
     subst ae
     cases t with
     | un=>trivial
     | ax d=>obtain ⟨v,bK,a⟩:=q; exact ⟨v,bK,a.mono aY⟩
     | aU ds=>
       obtain ⟨a,ho,bK,h1,h2,h3,h4⟩:=q
       subst bK
       exact ⟨.ref a,rfl,(h4.mono aY).at (by rw [rl (.aU ah aw)]; exact h1)⟩
     | dm t=>
       obtain ⟨v,bK,q⟩:=q
       exact ⟨v,bK,q.at_.view aY fun a ha=>rl ⟨i,_,o,ah,aw,v,bK,ha⟩⟩
theorem Rel.back {G H G' H':J} {σ :St} {ρ:ai} (r:Rel F G H σ ρ) (a4:Rel F G' H' σ (eO ρ)) (s:Sub (jo σ ρ G H) G'):Rel F G H' σ ρ:=
 r.over rfl ⟨(xJ r).trans (s.trans a4.aC.sub),r.aC.eC,a4.aC.hh,r.aC.new⟩ (Sub.refl _) fun a ha=>by
   obtain ⟨h1,h2,h3⟩:=r.foot ha
   refine ⟨?_,h2,h3⟩
   cases e:H a with
   | none=>exact absurd e h1
   | some o=>exact a4.aC.sub _ _ (s _ _ (by rw [rl ha]; exact e))
noncomputable def p6 (d:D):R D:=if fQ d=true then .ok d else .bad
noncomputable def pO (m:ay):ay:=fun ρ=>(m (eO ρ)).bind p6
theorem Mt {m:ay}:ek (cA F (pO m)) (cA F m):=by
 rintro σ H Q ⟨G,ρ,r,h⟩
 refine ⟨jo σ ρ G H,eO ρ,r.plus,?_⟩
 unfold pO p6 at h
 cases av:m (eO ρ) with
 | bad=>rw [av] at h; exact h.elim
 | exc c=>rw [av] at h; exact h
 | ok d=>
   rw [av,R.bo] at h
   intro v H' G' a4 s' a
   by_cases hd:fQ d=true
   · rw [if_pos hd] at h
     exact h v H' G (r.back a4 s'.g) ⟨Sub.refl _,s'.h,fun _ _=>rfl⟩ (a.F7 hd)
   · rw [if_neg hd] at h; exact h.elim
noncomputable def i2 (m:bJ):bJ:=fun ρ=>m (eO ρ)
theorem Mv {m:bJ}:kY (fc F (i2 m)) (fc F m):=by
 rintro σ H Q ⟨G,ρ,r,h⟩
 refine ⟨jo σ ρ G H,eO ρ,r.plus,?_⟩
 unfold i2 at h
 cases av:m (eO ρ) with
 | bad=>rw [av] at h; exact h.elim
 | exc c=>rw [av] at h; exact h
 | ok d=>
   rw [av] at h
   exact fun H' G' a4 s'=>h H' G (r.back a4 s'.g) ⟨Sub.refl _,s'.h,fun _ _=>rfl⟩
end
end aA
set_option Elab.async false
set_option linter.all false
namespace aA
open PySem aZ
section
variable {F:bf}
structure jS (K:PySem.W.Frag) (bp:It) (ds:List D) (G:J):Prop where
 go:∀(i:Nat) (H:J),Sub G H→i < ds.length→bp.go i H
 iH:∀(i:Nat) (H:J) (x:V) (H':J),Sub G H→i < ds.length→bp.iH i H x H'→∃d,ds[i]? =some d∧
  ((H'=H∧At K G d x)∨∃p xs ae,H p=none∧H'=upd H p (.tup xs)∧x= .ref p∧d= .tup ae∧aE K G ae xs)
 stop:∀(H:J),Sub G H→bp.stop ds.length H
noncomputable def NT (F:bf) (G H:J) (σ :St) (ρ:ai) (Q:It→J→Prop):R (List D)→Prop
 | .ok ds=>∀bp H' G',Rel F G' H' σ ρ→b2 G H G' H'→jS F.K bp ds G'→Q bp H'
 | .exc c=>jw F c
 | .bad=>False
noncomputable def jb (F:bf) (m:aK):TI:=fun σ H Q=>∃G ρ,Rel F G H σ ρ∧NT F G H σ ρ Q (m ρ)
noncomputable abbrev ny (t' t:TI):Prop:=∀ σ H Q,t' σ H Q→t σ H Q
theorem jS.turn {bp:It} {ds:List D} {G aM H H':J} {σ :St} {ρ:ai} {i:Nat} {x:V} (t:jS F.K bp ds G) (r:Rel F aM H σ ρ) (s:Sub G aM) (hi:i < ds.length) (y:bp.iH i H x H') :
  ∃d G',ds[i]? =some d∧Rel F G' H' σ ρ∧b2 aM H G' H'∧At F.K G' d x:=by
 obtain ⟨d,e,h⟩:=t.iH i H x H' (s.trans r.aC.sub) hi y
 rcases h with ⟨rfl,a⟩ | ⟨p,xs,ae,hp,rfl,rfl,rfl,a⟩
 · exact ⟨d,aM,e,r,b2.refl _ _,a.mono s⟩
 · refine ⟨_,_,e,r.lay hp,b2.lay r.aC.sub hp,?_⟩
   simp only [At]
   exact ⟨p,xs,rfl,dv,(a.mono s).mono (Sub.upd (r.aC.sub.gone hp))⟩
noncomputable def kW (F:bf) (g:gE) (set:D→ai→R ai):Prop:=∀ σ ρ G H v d Q bj,Rel F G H σ ρ→At F.K G d v→set d ρ= .ok bj→(∀ σ',Rel F G H σ' bj→Q σ' H)→g v σ H Q
theorem uf (i:Nat):kW F (hY i) (bQ i):=by
 intro σ ρ G H v d Q bj r a e h
 unfold bQ at e
 by_cases hi:i < ρ.length
 · rw [if_pos hi] at e
   cases e
   exact h _ (r.set hi a)
 · rw [if_neg hi] at e; cases e
noncomputable def gK:List (D→ai→R ai)→List D→ai→R ai
 | [],[],ρ=> .ok ρ
 | f::aO,d::ds,ρ=>(f d ρ).bind fun bj=>gK aO ds bj
 | _,_,_=> .bad
noncomputable def qI (F:bf) (g:ku) (set:List D→ai→R ai):Prop:=∀ σ ρ G H vs ds Q bj,Rel F G H σ ρ→aE F.K G ds vs→set ds ρ= .ok bj→(∀ σ',Rel F G H σ' bj→Q σ' H)→g vs σ H Q
theorem Ds:qI F ud (gK []):=by
 intro σ ρ G H vs ds Q bj r a e h
 cases ds with
 | nil=>
   simp only [aE] at a
   cases e
   exact ⟨a,h σ r⟩
 | cons d ds=>cases e
theorem xK {g:gE} {lr:ku} {f:D→ai→R ai} {aO:List (D→ai→R ai)} (h1:kW F g f) (h2:qI F lr (gK aO)):qI F (rk g lr) (gK (f::aO)):=by
 intro σ ρ G H vs ds Q bj r a e h
 cases ds with
 | nil=>cases e
 | cons d ds=>
   simp only [aE] at a
   obtain ⟨v,vL,rfl,bc,lb⟩:=a
   simp only [gK] at e
   cases ah:f d ρ with
   | bad=>rw [ah] at e; cases e
   | exc c=>rw [ah] at e; cases e
   | ok dQ=>
     rw [ah,R.bo] at e
     refine ⟨v,vL,rfl,h1 σ ρ G H v d _ dQ r bc ah fun σ1 ao=>?_⟩
     exact h2 σ1 dQ G H vL ds Q bj ao lb e h
noncomputable def fR (aO:List (D→ai→R ai)):D→ai→R ai
 | .tup ds,ρ=>gK aO ds ρ
 | _,_=> .bad
theorem Gf:∀{aO:List (D→ai→R ai)} {ds:List D} {ρ bj:ai},gK aO ds ρ= .ok bj→ds.length=aO.length
 | [],[],_,_,_=>rfl
 | [],_::_,_,_,e=>by cases e
 | _::_,[],_,_,e=>by cases e
 | f::aO,d::ds,ρ,bj,e=>by
   simp only [gK] at e
   cases ah:f d ρ with
   | bad=>rw [ah] at e; cases e
   | exc c=>rw [ah] at e; cases e
   | ok dQ=>
     rw [ah,R.bo] at e
     simp [Gf e]
theorem Dt {lr:ku} {aO:List (D→ai→R ai)} {n:Nat} (aN:n=aO.length) (h:qI F lr (gK aO)):kW F (ue F.K n lr) (fR aO):=by
 intro σ ρ G H v d Q bj r a e k
 cases d with
 | tup ds=>
   simp only [At] at a
   obtain ⟨p,xs,rfl,aD,al⟩:=a
   refine ⟨p,xs,rfl,cu.of (r.aC.sub _ _ aD),?_,h σ ρ G H xs ds Q bj r al e k⟩
   rw [←al.length,aN]; exact Gf e
 | _=>cases e
noncomputable def fL (set:D→ai→R ai) (body:a0):List D→ai→R e6
 | [],ρ=> .ok (.a9 ρ)
 | d::ds,ρ=>(set d ρ).bind fun dQ=>(body dQ).bind fun f=>match f with
   | .a9 dh=>fL set body ds dh
   | .cj dh=>fL set body ds dh
   | .eB dh=> .ok (.a9 dh)
   | f=> .ok f
noncomputable def fO (mi:aK) (set:D→ai→R ai) (body:a0):a0:=fun ρ=>(mi ρ).bind fun ds=>fL set body ds ρ
theorem MF {mi:aK} {set:D→ai→R ai} {body:a0} {g:gE} (hg:kW F g set) (hx:∀d ρ c,set d ρ≠ .exc c):fY (et F (fO mi set body)) (GA (jb F mi) g (et F body)):=by
 rintro b6 σ H ⟨G,ρ,r,h⟩
 unfold fO at h
 refine ⟨G,ρ,r,?_⟩
 cases av:mi ρ with
 | bad=>rw [av] at h; exact h.elim
 | exc c=>rw [av] at h; exact h
 | ok ds=>
   rw [av,R.bo] at h
   intro bp H1 aM ao s1 it
   refine ⟨fun i m σ2 aH=>m=ds.length - i∧i≤ds.length∧∃cb dh,Rel F cb aH σ2 dh∧Sub aM cb∧f7 F cb b6 (fL set body (ds.drop i) dh),⟨ds.length,by simp,Nat.zero_le _,aM,ρ,ao,Sub.refl _,f7.mono s1.g (by simpa using h)⟩,?_⟩
   rintro i m σ2 aH ⟨rfl,hi,cb,dh,a_,s2,k2⟩
   by_cases e3:i < ds.length
   · refine .inr ⟨it.go i aH (s2.trans a_.aC.sub) e3,fun σ3 cw=>∃eF v8,Rel F eF cw σ3 v8∧Sub aM eF∧f7 F eF b6 (fL set body (ds.drop (i + 1)) v8),fun σ3 cw ⟨eF,v8,da,s3,k3⟩=>⟨ds.length - (i + 1),by omega,rfl,e3,eF,v8,da,s3,k3⟩,fun x cw y=>?_⟩
     obtain ⟨d,eF,bK,da,s3,fi⟩:=it.turn a_ s2 e3 y
     have d8:ds.drop i=d::ds.drop (i + 1):=by
      rw [List.drop_eq_getElem_cons e3]
      have:=List.getElem?_eq_getElem e3
      rw [bK] at this
      rw [Option.some.inj this]
     rw [d8] at k2
     simp only [fL] at k2
     cases c8:set d dh with
     | bad=>rw [c8] at k2; exact k2.elim
     | exc c=>exact absurd c8 (hx d dh c)
     | ok eW=>
       rw [c8,R.bo] at k2
       refine hg σ2 dh eF cw x d _ eW da fi c8 fun σ5 i9=>⟨eF,eW,i9,?_⟩
       have sv:Sub cb eF:=s3.g
       cases j1:body eW with
       | bad=>rw [j1] at k2; exact k2.elim
       | exc c=>rw [j1] at k2; exact k2
       | ok f=>
         rw [j1,R.bo] at k2
         cases f with
         | a9 l5=>exact fun σ7 jQ fw ik eM=>⟨jQ,l5,ik,s2.trans (sv.trans eM),f7.mono (sv.trans eM) k2⟩
         | cj l5=>exact fun σ7 jQ fw ik eM=>⟨jQ,l5,ik,s2.trans (sv.trans eM),f7.mono (sv.trans eM) k2⟩
         | eB l5=>exact fun σ7 jQ fw ik eM=>k2 σ7 jQ fw ik (sv.trans eM)
         | dF d=>exact k2
         | g5 ds=>exact k2
         | g4 t=>exact k2
   · have e:ds.drop i=[]:=List.drop_eq_nil_of_le (by omega)
     rw [e] at k2
     have hq:i=ds.length:=by omega
     subst hq
     exact .inl ⟨it.stop aH (s2.trans a_.aC.sub),k2 σ2 cb aH a_ (Sub.refl _)⟩
theorem vt (i:Nat):∀d ρ c,bQ i d ρ≠ .exc c:=fun d ρ c=>by
 unfold bQ
 split <;> exact fun z=>nomatch z
theorem Gg:∀{aO:List (D→ai→R ai)},(∀f∈aO,∀d ρ c,f d ρ≠ .exc c)→∀ds ρ c,gK aO ds ρ≠ .exc c
 | [],_,[],_,_,e=>nomatch e
 | [],_,_::_,_,_,e=>nomatch e
 | _::_,_,[],_,_,e=>nomatch e
 | f::aO,h,d::ds,ρ,c,e=>by
   simp only [gK] at e
   cases ah:f d ρ with
   | bad=>rw [ah] at e; cases e
   | exc c=>exact h f (by simp) d ρ c ah
   | ok dQ=>rw [ah,R.bo] at e; exact Gg (fun g hg=>h g (by simp [hg])) ds dQ c e
theorem Gi {aO:List (D→ai→R ai)} (h:∀f∈aO,∀d ρ c,f d ρ≠ .exc c):∀d ρ c,fR aO d ρ≠ .exc c:=fun d ρ c e=>by
 cases d <;> first
  | (exact Gg h _ _ _ e)
  | (cases e)
theorem Ek {K:PySem.W.Frag} {G:J} {a:Addr} {xs:List V} {ds:List D} (h:bI K G a xs) (q:aE K G ds xs):jS K (wh K a) ds G where
 go:=fun i H s hi=>by
  obtain ⟨v,e,_⟩:=q.get (List.getElem?_eq_getElem hi)
  exact ⟨xs,v,bI.mono s h,e⟩
 iH:=fun i H x H' s hi y=>by
  obtain ⟨rfl,y⟩:=y
  obtain ⟨d,e,a⟩:=q.ug (y xs (bI.mono s h))
  exact ⟨d,e,.inl ⟨rfl,a⟩⟩
 stop:=fun H s=>⟨xs,bI.mono s h,by rw [←q.length]; exact Nat.le_refl _⟩
theorem El {K:PySem.W.Frag} {G:J} {a:Addr} {xs:List V} {ds:List D} (h:cu K G a xs) (q:aE K G ds xs):jS K (wj K a) ds G where
 go:=fun i H s hi=>by
  obtain ⟨v,e,_⟩:=q.get (List.getElem?_eq_getElem hi)
  exact ⟨xs,v,cu.mono s h,e⟩
 iH:=fun i H x H' s hi y=>by
  obtain ⟨rfl,y⟩:=y
  obtain ⟨d,e,a⟩:=q.ug (y xs (cu.mono s h))
  exact ⟨d,e,.inl ⟨rfl,a⟩⟩
 stop:=fun H s=>⟨xs,cu.mono s h,by rw [←q.length]; exact Nat.le_refl _⟩
noncomputable def gI (lo:Int) (n:Nat):List D:=(List.range n).map fun (i:Nat)=> .int (lo + (i:Int))
theorem NC {K:PySem.W.Frag} {G:J} (lo:Int) (n:Nat):jS K (tv lo n) (gI lo n) G where
 go:=fun i H s hi=>by
  have h:i < n:=by simpa [gI] using hi
  exact h
 iH:=fun i H x H' s hi y=>by
  have h:i < n:=by simpa [gI] using hi
  obtain ⟨ah,aw⟩:=y
  refine ⟨.int (lo + (i:Int)),?_,.inl ⟨ah,?_⟩⟩
  · unfold gI
    rw [List.getElem?_map,List.getElem?_range h]
    rfl
  · simp only [At]; exact aw
 stop:=fun H s=>by
  have h:n≤(gI lo n).length:=by simp [gI]
  exact h
noncomputable def Af:D→R (List D)
 | .lst ds=> .ok ds
 | .b7 ds=> .ok ds
 | _=> .bad
noncomputable def AH:D→R (List D)
 | .tup ds=> .ok ds
 | .c1 ds=> .ok ds
 | _=> .bad
noncomputable def hD (m:ay):aK:=fun ρ=>(m ρ).bind Af
theorem ML {m:ay}:ny (jb F (hD m)) (D3 F.K (cA F m)):=by
 rintro σ H Q ⟨G,ρ,r,h⟩
 unfold hD at h
 refine ⟨G,ρ,r,?_⟩
 cases av:m ρ with
 | bad=>rw [av] at h; exact h.elim
 | exc c=>rw [av] at h; exact h
 | ok d=>
   rw [av,R.bo] at h
   intro v H1 aM ao s1 a
   cases d with
   | lst ds=>
     simp only [At] at a
     obtain ⟨p,xs,e,aD,al⟩:=a
     exact ⟨p,e,⟨xs,bI.of (ao.aC.sub _ _ aD)⟩,h _ H1 aM ao s1 (Ek (bI.of aD) al)⟩
   | b7 ds=>
     simp only [At] at a
     obtain ⟨p,xs,e,aD,al⟩:=a
     exact ⟨p,e,⟨xs,bI.mono ao.aC.sub aD⟩,h _ H1 aM ao s1 (Ek aD al)⟩
   | _=>exact h.elim
noncomputable def n5 (m:ay):aK:=fun ρ=>(m ρ).bind AH
theorem Na {m:ay}:ny (jb F (n5 m)) (D6 F.K (cA F m)):=by
 rintro σ H Q ⟨G,ρ,r,h⟩
 unfold n5 at h
 refine ⟨G,ρ,r,?_⟩
 cases av:m ρ with
 | bad=>rw [av] at h; exact h.elim
 | exc c=>rw [av] at h; exact h
 | ok d=>
   rw [av,R.bo] at h
   intro v H1 aM ao s1 a
   cases d with
   | tup ds=>
     simp only [At] at a
     obtain ⟨p,xs,e,aD,al⟩:=a
     exact ⟨p,e,⟨xs,cu.of (ao.aC.sub _ _ aD)⟩,h _ H1 aM ao s1 (El (cu.of aD) al)⟩
   | c1 ds=>
     simp only [At] at a
     obtain ⟨p,xs,e,aD,al⟩:=a
     exact ⟨p,e,⟨xs,cu.mono ao.aC.sub aD⟩,h _ H1 aM ao s1 (El aD al)⟩
   | _=>exact h.elim
noncomputable def qb:List D→R (List D)
 | [.int j]=>if -(2 ^ 62)≤j∧j < 2 ^ 62 then .ok (gI 0 j.toNat) else .bad
 | _=> .bad
theorem aE.ints1 {K:PySem.W.Frag} {G:J} {j:Int} {vs:List V} (a:aE K G [.int j] vs):vs=[.int j]:=by
 simp only [aE,At] at a
 obtain ⟨v,r,rfl,rfl,rfl⟩:=a
 rfl
noncomputable def jy (m:aK):aK:=fun ρ=>(m ρ).bind qb
theorem MY {m:aK}:ny (jb F (jy m)) (D4 (ee F m)):=by
 rintro σ H Q ⟨G,ρ,r,h⟩
 unfold jy at h
 refine ⟨G,ρ,r,?_⟩
 cases av:m ρ with
 | bad=>rw [av] at h; exact h.elim
 | exc c=>rw [av] at h; exact h
 | ok ds=>
   rw [av,R.bo] at h
   intro vs H1 aM ao s1 a
   unfold qb at h
   split at h
   · rename_i j
     split at h
     · rename_i cD
       exact ⟨j,a.ints1,cD.1,cD.2,h _ H1 aM ao s1 (NC 0 j.toNat)⟩
     · exact h.elim
   · exact h.elim
inductive b1 where
 | v (d:D) | o (ds:List D) | t (t:T)
noncomputable def NR (F:bf) (Q:b9):R b1→Prop
 | .ok (.v d)=>∀v G' H',dX F G' H'→At F.K G' d v→Q v H'
 | .ok (.o ds)=>∀a xs G' H',dX F G' H'→G' a=none→F.a7 a=none→H' a=some (.lst xs)→aE F.K G' ds xs→Q (.ref a) H'
 | .ok (.t t)=>∀v G' H',dX F G' H'→oS F G' H' t v→Q v H'
 | .exc c=>jw F c
 | .bad=>False
noncomputable def m8 (K:PySem.W.Frag) (n:Nat) (xe:cM→Str→J→Prop) (mf:List D→R b1):iv:=fun vs H Q E=>∃G ds,Sub G H∧aE K G ds vs∧ds.length=n∧NR ⟨K,G,H,xe E⟩ Q (mf ds)
theorem vu {K:PySem.W.Frag} {n:Nat} {xe:cM→Str→J→Prop} {mf:List D→R b1}:∀vs H Q E,m8 K n xe mf vs H Q E→vs.length=n:=fun vs H Q E h=>by
 obtain ⟨G,ds,_,a,l,_⟩:=h
 rw [←a.length]; exact l
noncomputable def outD:e6→R b1
 | .a9 _=> .ok (.v .non)
 | .dF d=> .ok (.v d)
 | .g5 ds=> .ok (.o ds)
 | .g4 t=> .ok (.t t)
 | _=> .bad
noncomputable def j7 (N:Nat) (ds:List D):ai:=ds.map .ax ++ List.replicate (N - ds.length) .un
noncomputable def cU (N:Nat) (m:a0) (ds:List D):R b1:=(m (j7 N ds)).bind outD
noncomputable def vv (N:Nat) (vs:List V):St:=vs.map some ++ List.replicate (N - vs.length) none
theorem RQ {K:PySem.W.Frag} {G H:J} {gB:Str→J→Prop} {N:Nat} {ds:List D} {vs:List V} (s:Sub G H) (a:aE K G ds vs):Rel ⟨K,G,H,gB⟩ G H (vv N vs) (j7 N ds):=by
 have hl:=a.length
 refine ⟨⟨s,Sub.refl _,Sub.refl _,fun _ _=>rfl⟩,by simp [vv,j7,hl],fun i t e=>?_,fun i j b ae q_ o bC ah aw _ _ f _=>?_⟩
 · unfold j7 at e
   unfold vv
   by_cases hi:i < ds.length
   · rw [List.getElem?_append_left (by simpa using hi),List.getElem?_map,List.getElem?_eq_getElem hi] at e
     obtain ⟨v,ah,bc⟩:=a.get (List.getElem?_eq_getElem hi)
     rw [List.getElem?_append_left (by rw [List.length_map,←hl]; exact hi),List.getElem?_map,ah]
     have gS:cQ.ax ds[i]=t:=Option.some.inj e
     subst gS
     exact ⟨some v,rfl,v,rfl,bc⟩
   · rw [List.getElem?_append_right (by simpa using hi),List.getElem?_replicate] at e
     rw [List.getElem?_append_right (by rw [List.length_map,←hl]; omega),List.getElem?_replicate,List.length_map,←hl]
     rw [List.length_map] at e
     split at e
     · rename_i hh
       rw [if_pos hh]
       cases e
       exact ⟨none,rfl,trivial⟩
     · cases e
 · exfalso
   unfold j7 at ah
   by_cases hi:i < ds.length
   · rw [List.getElem?_append_left (by simpa using hi),List.getElem?_map,List.getElem?_eq_getElem hi] at ah
     cases ah; exact f
   · rw [List.getElem?_append_right (by simpa using hi),List.getElem?_replicate] at ah
     split at ah
     · cases ah; exact f
     · cases ah
theorem tT {K:PySem.W.Frag} {xe:cM→Str→J→Prop} {n N:Nat} {m:a0} {vs:List V} {H:J} {Q:b9} {E:cM} (h:m8 K n xe (cU N m) vs H Q E) :
  ∃G,et ⟨K,G,H,xe E⟩ m { a9:=fun _ H'=>Q .non H',dF:=Q } (vv N vs) H:=by
 obtain ⟨G,ds,s,a,l,k⟩:=h
 refine ⟨G,G,j7 N ds,RQ s a,?_⟩
 unfold cU at k
 cases e:m (j7 N ds) with
 | bad=>rw [e] at k; exact k.elim
 | exc c=>rw [e] at k; exact k
 | ok f=>
   rw [e,R.bo] at k
   cases f with
   | a9 ρ=>exact fun σ' G' H' r _=>k .non G' H' r.aC (by simp only [At])
   | dF d=>exact k
   | g5 ds=>exact k
   | g4 t=>exact k
   | eB ρ=>exact k.elim
   | cj ρ=>exact k.elim
theorem dX.of {G H G' H':J} {σ :St} {ρ:ai} {gB:Str→J→Prop} (r:Rel F G H σ ρ) (k:dX ⟨F.K,G,H,gB⟩ G' H'):Rel F G' H' σ ρ:=r.grow k.eC k.sub k.hh fun b hb=>k.new b hb
noncomputable def gJ:b1→R D
 | .v d=> .ok d
 | .o ds=> .ok (.lst ds)
 | .t t=> .ok (toD t)
noncomputable def zw:b1→R (List D)
 | .o ds=> .ok ds
 | _=> .bad
noncomputable def kB (A:List Addr) (G H:J):J:=fun b=>if b∈A then H b else G b
theorem Rel.AD {G H bw a7:J} {σ :St} {ρ:ai} (r:Rel F G H σ ρ) {F':bf} {t:T} {v:V} (hK:F'.K=F.K) (q:oS F' G H t v) (u:b2 bw a7 G H) (n:∀b∈aL H t v,a7 b=none∧F.a7 b=none∧¬ c2 H σ ρ b) :
  Rel F (kB (aL H t v) G H) H σ ρ∧b2 bw a7 (kB (aL H t v) G H) H∧At F.K (kB (aL H t v) G H) (toD t) v:=by
 have aY:Sub G (kB (aL H t v) G H):=fun b o e=>by
  unfold kB
  by_cases hb:b∈aL H t v
  · rw [(q.own b hb).1] at e; cases e
  · rw [if_neg hb]; exact e
 refine ⟨r.over rfl ⟨fun b o e=>?_,r.aC.eC.trans aY,r.aC.hh,fun b hb=>?_⟩ aY fun a ha=>?_,⟨u.g.trans aY,u.h,fun b hb=>?_⟩,?_⟩
 · unfold kB at e
   split at e
   · exact e
   · exact r.aC.sub b o e
 · unfold kB
   rw [if_neg (fun z=>hb (n b z).2.1)]
   exact r.aC.new b hb
 · obtain ⟨h1,h2,h3⟩:=r.foot ha
   refine ⟨rfl,?_,h3⟩
   unfold kB
   rw [if_neg (fun z=>(n a z).2.2 ha)]; exact h2
 · unfold kB
   rw [if_neg (fun z=>hb (n b z).1)]
   exact u.n b hb
 · rw [←hK]
   exact q.at_.view aY fun a ha=>by unfold kB; rw [if_pos ha]
noncomputable def b5 (n:Nat) (mf:List D→R b1) (m:aK):ay:=fun ρ=>(m ρ).bind fun ds=>if ds.length=n then (mf ds).bind gJ else .bad
noncomputable def kH (n:Nat) (mf:List D→R b1) (m:aK):aK:=fun ρ=>(m ρ).bind fun ds=>if ds.length=n then (mf ds).bind zw else .bad
theorem D9 {n:Nat} {mf:List D→R b1} {m:aK} {xe:cM→Str→J→Prop} {E:cM} (hx:F.gB=xe E):ek (cA F (b5 n mf m)) (sJ (m8 F.K n xe mf) [] E (ee F m)):=by
 rintro σ H Q ⟨G,ρ,r,h⟩
 unfold b5 at h
 refine ⟨G,ρ,r,?_⟩
 cases av:m ρ with
 | bad=>rw [av] at h; exact h.elim
 | exc c=>rw [av] at h; exact h
 | ok ds=>
   rw [av,R.bo] at h
   intro vs H1 aM ao s1 a
   by_cases aN:ds.length=n
   · rw [if_pos aN] at h
     rw [List.append_nil]
     refine ⟨aM,ds,ao.aC.sub,a,aN,?_⟩
     cases e:mf ds with
     | bad=>rw [e] at h; exact h.elim
     | exc c=>
       rw [e] at h
       intro G' H' k
       have z:=h G' H' (dX.of ao k).aC
       rw [hx] at z
       exact z
     | ok t=>
       rw [e,R.bo] at h
       cases t with
       | v d=>exact fun v G' H' k bc=>h v H' G' (dX.of ao k) (s1.trans ⟨k.eC,k.hh,k.new⟩) bc
       | o ae=>
         intro p xs G' H' k h1 h2 h3 h4
         have h2:H1 p=none:=h2
         have a4:=dX.of ao k
         have no:¬ c2 H' σ ρ p:=c2.fresh ao k.hh h2
         refine h (.ref p) H' _ (a4.take h3 h1 (ao.aC.hh.gone h2) no) ((s1.trans ⟨k.eC,k.hh,k.new⟩).put (s1.h.gone h2) h1) ?_
         simp only [At]
         exact ⟨p,xs,rfl,dv,h4.mono (Sub.upd h1)⟩
       | t t=>
         intro v G' H' k q
         obtain ⟨a1,a2,fi⟩:=(dX.of ao k).AD (F':=⟨F.K,aM,H1,xe E⟩) rfl q (s1.trans ⟨k.eC,k.hh,k.new⟩) fun b hb=>⟨s1.h.gone (q.own b hb).2,ao.aC.hh.gone (q.own b hb).2,c2.fresh ao k.hh (q.own b hb).2⟩
         exact h v H' _ a1 a2 fi
   · rw [if_neg aN] at h; exact h.elim
theorem Mw {n:Nat} {mf:List D→R b1} {m:aK} {xe:cM→Str→J→Prop} {E:cM} (hx:F.gB=xe E):ek (iF F (kH n mf m)) (sJ (m8 F.K n xe mf) [] E (ee F m)):=by
 rintro σ H Q ⟨G,ρ,r,h⟩
 unfold kH at h
 refine ⟨G,ρ,r,?_⟩
 cases av:m ρ with
 | bad=>rw [av] at h; exact h.elim
 | exc c=>rw [av] at h; exact h
 | ok ds=>
   rw [av,R.bo] at h
   intro vs H1 aM ao s1 a
   by_cases aN:ds.length=n
   · rw [if_pos aN] at h
     rw [List.append_nil]
     refine ⟨aM,ds,ao.aC.sub,a,aN,?_⟩
     cases e:mf ds with
     | bad=>rw [e] at h; exact h.elim
     | exc c=>
       rw [e] at h
       intro G' H' k
       have z:=h G' H' (dX.of ao k).aC
       rw [hx] at z
       exact z
     | ok t=>
       rw [e,R.bo] at h
       cases t with
       | v d=>exact h.elim
       | t t=>exact h.elim
       | o ae=>
         intro p xs G' H' k h1 h2 h3 h4
         have h2:H1 p=none:=h2
         have a4:=dX.of ao k
         exact h p xs H' G' a4 (s1.trans ⟨k.eC,k.hh,k.new⟩) (s1.h.gone h2) h3 h1 h4
   · rw [if_neg aN] at h; exact h.elim
noncomputable abbrev mj:=ai→R T
noncomputable def NX (F:bf) (G H:J) (σ :St) (ρ:ai) (Q:b9):R T→Prop
 | .ok t=>∀v H' G',Rel F G' H' σ ρ→b2 G H G' H'→oS F G' H' t v→(∀b∈aL H' t v,H b=none)→Q v H'
 | .exc c=>jw F c
 | .bad=>False
noncomputable def qj (F:bf) (m:mj):TE:=fun σ H Q=>∃G ρ,Rel F G H σ ρ∧NX F G H σ ρ Q (m ρ)
noncomputable def pX (i:Nat) (a:mj):a0:=fun ρ=>(a ρ).bind fun t=>if i < ρ.length then .ok (.a9 (ρ.set i (.dm t))) else .bad
theorem M6 {i:Nat} {a:mj}:fY (et F (pX i a)) (kP (qj F a) (hY i)):=by
 rintro b6 σ H ⟨G,ρ,r,h⟩
 unfold pX at h
 refine ⟨G,ρ,r,?_⟩
 cases av:a ρ with
 | bad=>rw [av] at h; exact h.elim
 | exc c=>rw [av] at h; exact h
 | ok t=>
   rw [av,R.bo] at h
   intro v H1 aM ao s1 q n
   by_cases hi:i < ρ.length
   · rw [if_pos hi] at h
     refine h _ aM H1 (ao.ox hi ⟨v,rfl,q⟩ fun b f j s' bC _ ah aw t8=>?_) s1.g
     obtain ⟨u,jj,hb⟩:=f
     cases jj
     exact c2.fresh r s1.h (n b hb) ⟨j,s',bC,ah,aw,t8⟩
   · rw [if_neg hi] at h; exact h.elim
noncomputable def pW (a:mj):a0:=fun ρ=>(a ρ).bind fun t=> .ok (.g4 t)
noncomputable def od (i:Nat):mj:=fun ρ=>match ρ[i]? with
 | some (.dm t)=> .ok t
 | _=> .bad
theorem M3 (i:Nat):fY (et F (pW (od i))) (sM (sN i)):=by
 rintro b6 σ H ⟨G,ρ,r,h⟩
 unfold pW od at h
 cases e:ρ[i]? with
 | none=>rw [e] at h; exact h.elim
 | some s=>
   rw [e] at h
   cases s with
   | un=>exact h.elim
   | ax _=>exact h.elim
   | aU _=>exact h.elim
   | dm t=>
     obtain ⟨v,ah,q⟩:=r.tree e
     exact ⟨v,ah,h v G H r.aC q⟩
end
end aA
set_option Elab.async false
set_option linter.all false
set_option maxRecDepth 100000
namespace aA
open PySem PySem.Spec aZ
noncomputable def eT:cQ→cQ
 | .ax d=> .ax d
 | _=> .un
noncomputable def iO (nl:Nat) (caps:List Nat) (ρ:ai):ai:=List.replicate nl .un ++ caps.map fun j=>eT (ρ.getD j .un)
noncomputable def fj (set:D→ai→R ai) (tst:bJ) (elt:ay):List D→ai→List D→R (List D)
 | [],_,ws=> .ok ws
 | d::ds,ρ,ws=>(set d ρ).bind fun dQ=>(tst dQ).bind fun b=>if b=true then (elt dQ).bind fun y=>if ws.length < 1000000 then fj set tst elt ds dQ (ws ++ [y]) else .bad else fj set tst elt ds dQ ws
noncomputable def eK {α:Type}:R α→R α
 | .exc _=> .bad
 | r=>r
noncomputable def d_ (nl:Nat) (caps:List Nat) (mi:aK) (set:D→ai→R ai) (tst:bJ) (elt:ay):aK:=fun ρ=>(mi ρ).bind fun ds=>eK (fj set tst elt ds (iO nl caps ρ) [])
noncomputable def dO (K:PySem.W.Frag) (G H:J):bf:=⟨K,G,H,fun _ _=>False⟩
noncomputable def qq (K:PySem.W.Frag) (m:bJ):TT:=fun σ H Q=>∃bw a7,fc (dO K bw a7) m σ H Q
noncomputable def AV (K:PySem.W.Frag) (m:ay):TE:=fun σ H Q=>∃bw a7,cA (dO K bw a7) m σ H Q
noncomputable def FG:cQ→Bool
 | .un=>true | .ax _=>true
 | _=>false
theorem zg {H:J} {s:cQ} (h:FG s=true) (o:Option V) (a:Addr):¬ fv H s o a:=by
 cases s <;> first
  | exact fun z=>z
  | cases h
noncomputable def k6 (ρ:ai):Prop:=∀(i:Nat) (s:cQ),ρ[i]? =some s→FG s=true
theorem y5 (nl:Nat) (caps:List Nat) (ρ:ai):k6 (iO nl caps ρ):=fun i s ah=>by
 unfold iO at ah
 by_cases hi:i < nl
 · rw [List.getElem?_append_left (by simpa using hi),List.getElem?_replicate,if_pos hi] at ah
   cases ah; rfl
 · rw [List.getElem?_append_right (by simpa using hi),List.length_replicate,List.getElem?_map] at ah
   cases ji:caps[i - nl]? with
   | none=>rw [ji] at ah; cases ah
   | some j=>
     rw [ji] at ah
     have ae:eT (ρ.getD j .un)=s:=Option.some.inj ah
     subst ae
     cases hs:ρ.getD j .un <;> rfl
noncomputable def Keeps (set:D→ai→R ai):Prop:=∀d ρ bj,set d ρ= .ok bj→k6 ρ→k6 bj
theorem vr (i:Nat):Keeps (bQ i):=fun d ρ bj e n j ds z=>by
 unfold bQ at e
 split at e
 · cases e
   rcases get_set z with ⟨_,z⟩ | ⟨_,z⟩
   · subst z; rfl
   · exact n j ds z
 · cases e
theorem Ge:∀{aO:List (D→ai→R ai)},(∀f∈aO,Keeps f)→∀ds ρ bj,gK aO ds ρ= .ok bj→k6 ρ→k6 bj
 | [],_,[],_,_,e,n=>by cases e; exact n
 | [],_,_::_,_,_,e,_=>by cases e
 | _::_,_,[],_,_,e,_=>by cases e
 | f::aO,h,d::ds,ρ,bj,e,n=>by
   simp only [gK] at e
   cases ah:f d ρ with
   | bad=>rw [ah] at e; cases e
   | exc c=>rw [ah] at e; cases e
   | ok dQ=>rw [ah,R.bo] at e; exact Ge (fun g hg=>h g (by simp [hg])) ds dQ bj e (h f (by simp) d ρ dQ ah n)
theorem Gh {aO:List (D→ai→R ai)} (h:∀f∈aO,Keeps f):Keeps (fR aO):=fun d ρ bj e n=>by
 cases d <;> first
  | (exact Ge h _ _ _ e n)
  | (cases e)
section
variable {F:bf}
theorem F0 {G H:J} {σ :St} {ρ:ai} (r:Rel F G H σ ρ) {acc:Addr} (ha:H acc=none) (nl:Nat) (caps:List Nat) :
  Rel (dO F.K G H) G (upd H acc (.lst [])) (kx nl caps σ) (iO nl caps ρ):=by
 refine ⟨⟨Sub.sW r.aC.sub (r.aC.sub.gone ha),Sub.refl _,Sub.upd ha,fun _ _=>rfl⟩,by simp [kx,iO],fun i s e=>?_,fun i j b s s' o bC ah _ _ _ f _=>?_⟩
 · unfold iO at e
   unfold kx
   by_cases hi:i < nl
   · rw [List.getElem?_append_left (by simpa using hi),List.getElem?_replicate,if_pos hi] at e
     rw [List.getElem?_append_left (by simpa using hi),List.getElem?_replicate,if_pos hi]
     cases e
     exact ⟨none,rfl,trivial⟩
   · rw [List.getElem?_append_right (by simpa using hi),List.length_replicate,List.getElem?_map] at e
     rw [List.getElem?_append_right (by simpa using hi),List.length_replicate,List.getElem?_map]
     cases ji:caps[i - nl]? with
     | none=>rw [ji] at e; cases e
     | some j=>
       rw [ji] at e
       refine ⟨σ.getD j none,rfl,?_⟩
       have ae:eT (ρ.getD j .un)=s:=Option.some.inj e
       subst ae
       cases cJ:ρ[j]? with
       | none=>
         have eg:ρ.getD j .un= .un:=by rw [List.getD_eq_getElem?_getD,cJ]; rfl
         rw [eg]; exact trivial
       | some t=>
         have eg:ρ.getD j .un=t:=by rw [List.getD_eq_getElem?_getD,cJ]; rfl
         rw [eg]
         obtain ⟨o,ah,q⟩:=r.cc j t cJ
         cases t with
         | un=>exact trivial
         | aU ds=>exact trivial
         | dm t=>exact trivial
         | ax d=>
           obtain ⟨v,aw,a⟩:=q
           refine ⟨v,?_,a⟩
           rw [List.getD_eq_getElem?_getD,ah,aw]
           rfl
 · exact absurd f (zg (y5 nl caps ρ i s ah) o b)
theorem Mx {nl:Nat} {caps:List Nat} {mi:aK} {set:D→ai→R ai} {tst:bJ} {elt:ay} {g:gE} (hg:∀G H,kW (dO F.K G H) g set) (hx:∀d ρ c,set d ρ≠ .exc c) (hk:Keeps set) :
  ek (iF F (d_ nl caps mi set tst elt)) (qi (jb F mi) g (qq F.K tst) (AV F.K elt) nl caps):=by
 rintro σ H Q ⟨G,ρ,r,h⟩
 unfold d_ at h
 refine ⟨G,ρ,r,?_⟩
 cases av:mi ρ with
 | bad=>rw [av] at h; exact h.elim
 | exc c=>rw [av] at h; exact h
 | ok ds=>
   rw [av,R.bo] at h
   intro bp H1 aM ao lW it acc ha
   cases cJ:fj set tst elt ds (iO nl caps ρ) [] with
   | bad=>rw [cJ] at h; exact h.elim
   | exc c=>rw [cJ] at h; exact h.elim
   | ok res=>
     rw [cJ] at h
     refine ⟨fun i m σ2 aH=>m=ds.length - i∧i≤ds.length∧∃cb dh ys ws,Rel (dO F.K aM H1) cb aH σ2 dh∧k6 dh∧aH acc=some (.lst ys)∧cb acc=none∧aE F.K cb ws ys∧fj set tst elt (ds.drop i) dh ws= .ok res,
      ⟨ds.length,by simp,Nat.zero_le _,aM,_,[],[],F0 ao ha nl caps,y5 _ _ _,dv,ao.aC.sub.gone ha,.nil,by simpa using cJ⟩,?_⟩
     rintro i m σ2 aH ⟨rfl,hi,cb,dh,ys,ws,a_,c_,h1,h2,h3,h4⟩
     have aY:Sub aM cb:=a_.aC.eC
     by_cases e3:i < ds.length
     · refine .inr ⟨it.go i aH (aY.trans a_.aC.sub) e3,fun x cw y=>?_⟩
       obtain ⟨d,eF,bK,da,g9,fi⟩:=jS.turn (F:=dO F.K aM H1) it a_ aY e3 y
       have d8:ds.drop i=d::ds.drop (i + 1):=by
        rw [List.drop_eq_getElem_cons e3]
        have:=List.getElem?_eq_getElem e3
        rw [bK] at this
        rw [Option.some.inj this]
       rw [d8] at h4
       simp only [fj] at h4
       cases c8:set d dh with
       | bad=>rw [c8] at h4; cases h4
       | exc c=>exact absurd c8 (hx d dh c)
       | ok eW=>
         rw [c8,R.bo] at h4
         refine hg aM H1 σ2 dh eF cw x d _ eW da fi c8 fun σ5 i9=>⟨aM,H1,eF,eW,i9,?_⟩
         have lL:k6 eW:=hk d dh eW c8 c_
         have qQ:cw acc=some (.lst ys):=g9.h _ _ h1
         have g3:eF acc=none:=by rw [g9.n acc (by rw [h1]; exact fun z=>nomatch z)]; exact h2
         cases fJ:tst eW with
         | bad=>rw [fJ] at h4; cases h4
         | exc c=>rw [fJ] at h4; cases h4
         | ok b=>
           rw [fJ,R.bo] at h4
           intro me mc p9 oA
           have mu:me acc=some (.lst ys):=oA.h _ _ qQ
           have kA:mc acc=none:=by rw [oA.n acc (by rw [qQ]; exact fun z=>nomatch z)]; exact g3
           have oX:aE F.K mc ws ys:=(h3.mono g9.g).mono oA.g
           cases b with
           | false=>
             rw [if_neg Bool.false_ne_true] at h4
             rw [if_neg Bool.false_ne_true]
             exact ⟨_,by omega,rfl,e3,mc,eW,ys,ws,p9,lL,mu,kA,oX,h4⟩
           | true=>
             rw [if_pos rfl] at h4
             rw [if_pos rfl]
             refine ⟨aM,H1,mc,eW,p9,?_⟩
             cases nP:elt eW with
             | bad=>rw [nP] at h4; cases h4
             | exc c=>rw [nP] at h4; cases h4
             | ok y=>
               rw [nP,R.bo] at h4
               intro A7 jR md jF u8 wy
               have wA:jR acc=some (.lst ys):=u8.h _ _ mu
               have rj:md acc=none:=by rw [u8.n acc (by rw [mu]; exact fun z=>nomatch z)]; exact kA
               by_cases hl:ws.length < 1000000
               · rw [if_pos hl] at h4
                 have Bv:aE F.K md ws ys:=oX.mono u8.g
                 refine ⟨ys,wA,by rw [←Bv.length]; exact Nat.lt_trans hl (by decide),_,by omega,rfl,e3,md,eW,ys ++ [A7],ws ++ [y],?_,lL,dv,rj,Bv.snoc wy,h4⟩
                 have k0:(dO F.K aM H1).a7 acc=none:=ha
                 refine ⟨⟨Sub.sW jF.aC.sub rj,jF.aC.eC,fun c o z=>?_,jF.aC.new⟩,jF.len,fun j t z=>?_,fun j k b s s' o bC fu _ _ _ f _=>absurd f (zg (lL j s fu) o b)⟩
                 · rw [cG (hH z k0)]; exact jF.aC.hh c o z
                 · obtain ⟨o,a6,aX⟩:=jF.cc j t z
                   refine ⟨o,a6,?_⟩
                   cases t with
                   | un=>exact trivial
                   | ax d=>exact aX
                   | aU ae=>exact absurd (lL j _ z) (fun w=>nomatch w)
                   | dm ae=>exact absurd (lL j _ z) (fun w=>nomatch w)
               · rw [if_neg hl] at h4; cases h4
     · have e:ds.drop i=[]:=List.drop_eq_nil_of_le (by omega)
       rw [e] at h4
       simp only [fj] at h4
       cases h4
       have hq:i=ds.length:=by omega
       subst hq
       refine .inl ⟨it.stop aH (aY.trans a_.aC.sub),?_⟩
       have k:dX ⟨F.K,aM,H1,fun _ _=>False⟩ cb aH:=a_.aC
       exact h acc ys aH cb (dX.of ao k) (lW.trans ⟨k.eC,k.hh,k.new⟩) (lW.h.gone ha) h1 h2 h3
end
end aA
set_option Elab.async false
set_option linter.all false
set_option maxRecDepth 100000
namespace aA
open PySem PySem.Spec aZ
mutual
noncomputable def br:D→D→Bool
 | .non,.non=>true
 | .au a,.au b=>a == b
 | .au a,.int b=>(if a then 1 else 0) == b
 | .int a,.au b=>a == (if b then 1 else 0)
 | .int a,.int b=>a == b
 | .str a,.str b=>a == b
 | .tup xs,.tup ys=>eh xs ys
 | .tup xs,.c1 ys=>eh xs ys
 | .c1 xs,.tup ys=>eh xs ys
 | .c1 xs,.c1 ys=>eh xs ys
 | .lst xs,.lst ys=>eh xs ys
 | .lst xs,.b7 ys=>eh xs ys
 | .b7 xs,.lst ys=>eh xs ys
 | .b7 xs,.b7 ys=>eh xs ys
 | _,_=>false
noncomputable def eh:List D→List D→Bool
 | [],[]=>true
 | x::xs,y::ys=>br x y && eh xs ys
 | _,_=>false
end
noncomputable def okN:Nat→D→Bool
 | _,.non=>true
 | _,.au _=>true
 | _,.int _=>true
 | _,.str _=>true
 | n + 1,.tup xs=>xs.all (okN n)
 | n + 1,.c1 xs=>xs.all (okN n)
 | n + 1,.lst xs=>xs.all (okN n)
 | n + 1,.b7 xs=>xs.all (okN n)
 | _,_=>false
inductive iM (s:Shared) (P:D→Value→Prop):D→Value→Prop where
 | non:iM s P .non .none
 | au (b:Bool):iM s P (.au b) (.bool b)
 | int (i:Int) (t:Tok):iM s P (.int i) (.int i t)
 | str (x:Str) (t:Tok):iM s P (.str x) (.str x t)
 | tup (a:Addr) (ds:List D) (its:List Value) (h:s.heap.IsTuple a its.toArray) (l:ds.length=its.length) (p:∀(i:Nat) d u,ds[i]? =some d→its[i]? =some u→P d u):iM s P (.tup ds) (.ref a)
 | c1 (a:Addr) (ds:List D) (its:List Value) (h:s.heap.IsTuple a its.toArray) (l:ds.length=its.length) (p:∀(i:Nat) d u,ds[i]? =some d→its[i]? =some u→P d u):iM s P (.c1 ds) (.ref a)
 | lst (a:Addr) (ds:List D) (its:List Value) (h:s.heap.IsList a its.toArray) (l:ds.length=its.length) (p:∀(i:Nat) d u,ds[i]? =some d→its[i]? =some u→P d u):iM s P (.lst ds) (.ref a)
 | b7 (a:Addr) (ds:List D) (its:List Value) (h:s.heap.IsList a its.toArray) (l:ds.length=its.length) (p:∀(i:Nat) d u,ds[i]? =some d→its[i]? =some u→P d u):iM s P (.b7 ds) (.ref a)
noncomputable def kl (K:PySem.W.Frag) (G:J) (d:D) (u:Value):Prop:=∃x,At K G d x∧RelV x u
section
variable {X:aG} {pins:List (Addr×Obj)} {σ :St} {H G:J} {s:Shared}
theorem pD {K:PySem.W.Frag} {ds:List D} {xs:List V} {its:List Value} (q:aE K G ds xs) (r:Vals xs its):∀(i:Nat) d u,ds[i]? =some d→its[i]? =some u→kl K G d u:=fun i d u ah aw=>by
 obtain ⟨v,bK,a⟩:=q.get ah
 obtain ⟨g8,c8,bN⟩:=r.get bK
 rw [aw] at c8; cases c8
 exact ⟨v,a,bN⟩
theorem m7 (I:Inv X pins σ H s) (aY:Sub G H) {d:D} {u:Value} {n:Nat} (ok:okN n d=true) (h:kl X.K G d u):iM s (kl X.K G) d u:=by
 obtain ⟨x,a,r⟩:=h
 cases d with
 | non=>simp only [At] at a; subst a; cases r; exact .non
 | au b=>simp only [At] at a; subst a; cases r; exact .au b
 | int i=>simp only [At] at a; subst a; obtain ⟨t,rfl⟩:=r; exact .int i t
 | str i=>simp only [At] at a; subst a; obtain ⟨t,rfl⟩:=r; exact .str i t
 | tup ds=>
   simp only [At] at a
   obtain ⟨p,xs,rfl,aD,al⟩:=a
   cases r
   obtain ⟨its,bN,ht,_⟩:=I.tuple (cu.of (aY _ _ aD))
   exact .tup p ds its ht (al.length.trans bN.length) (pD al bN)
 | lst ds=>
   simp only [At] at a
   obtain ⟨p,xs,rfl,aD,al⟩:=a
   cases r
   obtain ⟨its,bN,ht,_⟩:=I.list (bI.of (aY _ _ aD))
   exact .lst p ds its ht.isList (al.length.trans bN.length) (pD al bN)
 | b7 ds=>
   simp only [At] at a
   obtain ⟨p,xs,rfl,aD,al⟩:=a
   cases r
   obtain ⟨its,bN,ht,_⟩:=I.list (bI.mono aY aD)
   exact .b7 p ds its ht.isList (al.length.trans bN.length) (pD al bN)
 | cL ks xs=>cases n <;> cases ok
 | bx ks xs=>cases n <;> cases ok
 | ins C ns xs=>cases n <;> cases ok
 | gn C=>cases n <;> cases ok
 | c1 ds=>
   simp only [At] at a
   obtain ⟨p,xs,rfl,aD,al⟩:=a
   cases r
   obtain ⟨its,bN,ht,_⟩:=I.tuple (cu.mono aY aD)
   exact .c1 p ds its ht (al.length.trans bN.length) (pD al bN)
theorem xu:∀{xs ys:List D},xs.length≠ys.length→eh xs ys=false
 | [],[],h=>absurd rfl h
 | [],_::_,_=>by simp only [eh]
 | _::_,[],_=>by simp only [eh]
 | x::xs,y::ys,h=>by
   simp only [eh]
   rw [xu (fun e=>h (by simp [e])),Bool.and_false]
noncomputable def j8 (xs ys:List D) (j:Nat):Bool:=match xs[j]?,ys[j]? with
 | some x,some y=>br x y
 | _,_=>true
theorem Iy (f:Nat→Bool) (n:Nat):(List.range (n + 1)).all f=(f 0 && (List.range n).all fun j=>f (j + 1)):=by
 rw [List.range_succ_eq_map,List.all_cons,List.all_map]
 rfl
theorem xv:∀{xs ys:List D},xs.length=ys.length→(List.range xs.length).all (j8 xs ys)=eh xs ys
 | [],[],_=>by simp [eh]
 | [],_::_,h=>by simp at h
 | _::_,[],h=>by simp at h
 | x::xs,y::ys,h=>by
   rw [List.length_cons,Iy]
   have e:(fun j=>j8 (x::xs) (y::ys) (j + 1))=j8 xs ys:=by
    funext j
    simp [j8]
   rw [e,xv (by simpa using h)]
   simp only [eh]
   rfl
theorem in1_units (A:Around):A.in1.units=A.units + 1:=rfl
theorem F8 {A:Around} {P:D→Value→Prop} {d1 cf:D} {u v:Value} (h1:iM s P d1 u) (h2:iM s P cf v) (cn:fQ d1=true) (b3:fQ cf=true) :
  SeqAt.EqAt A s u v (br d1 cf)∧SeqAt.RcAt A s u v (br d1 cf)∧SeqAt.RcNeAt A s u v (!br d1 cf):=by
 cases h1 with
 | non=>
   cases h2 with
   | non=>simp only [br]; exact ⟨SeqAt.EqAt.same _,SeqAt.RcAt.none_none,SeqAt.RcNeAt.none_none⟩
   | au cN=>simp only [br]; exact ⟨SeqAt.EqAt.none_bool _,SeqAt.RcAt.none_bool _,SeqAt.RcNeAt.none_bool _⟩
   | int bB dV=>simp only [br]; exact ⟨SeqAt.EqAt.none_int _ _,SeqAt.RcAt.none_int _ _,SeqAt.RcNeAt.none_int _ _⟩
   | str dP dV=>simp only [br]; exact ⟨SeqAt.EqAt.none_str _ _,SeqAt.RcAt.none_str _ _,SeqAt.RcNeAt.none_str _ _⟩
   | tup=>cases b3
   | c1=>cases b3
   | lst=>cases b3
   | b7=>cases b3
 | au c0=>
   cases h2 with
   | non=>simp only [br]; exact ⟨SeqAt.EqAt.bool_none _,SeqAt.RcAt.bool_none _,SeqAt.RcNeAt.bool_none _⟩
   | au cN=>simp only [br]; exact ⟨SeqAt.EqAt.bool_bool _ _,SeqAt.RcAt.bool_bool _ _,SeqAt.RcNeAt.bool_bool _ _⟩
   | int bB dV=>simp only [br]; exact ⟨SeqAt.EqAt.bool_int _ _ _,SeqAt.RcAt.bool_int _ _ _,SeqAt.RcNeAt.bool_int _ _ _⟩
   | str dP dV=>simp only [br]; exact ⟨SeqAt.EqAt.bool_str _ _ _,SeqAt.RcAt.bool_str _ _ _,SeqAt.RcNeAt.bool_str _ _ _⟩
   | tup=>cases b3
   | c1=>cases b3
   | lst=>cases b3
   | b7=>cases b3
 | int bL t1=>
   cases h2 with
   | non=>simp only [br]; exact ⟨SeqAt.EqAt.int_none _ _,SeqAt.RcAt.int_none _ _,SeqAt.RcNeAt.int_none _ _⟩
   | au cN=>simp only [br]; exact ⟨SeqAt.EqAt.int_bool _ _ _,SeqAt.RcAt.int_bool _ _ _,SeqAt.RcNeAt.int_bool _ _ _⟩
   | int bB dV=>simp only [br]; exact ⟨SeqAt.EqAt.int_int _ _ _ _,SeqAt.RcAt.int_int _ _ _ _,SeqAt.RcNeAt.int_int _ _ _ _⟩
   | str dP dV=>simp only [br]; exact ⟨SeqAt.EqAt.int_str _ _ _ _,SeqAt.RcAt.int_str _ _ _ _,SeqAt.RcNeAt.int_str _ _ _ _⟩
   | tup=>cases b3
   | c1=>cases b3
   | lst=>cases b3
   | b7=>cases b3
 | str d2 t1=>
   cases h2 with
   | non=>simp only [br]; exact ⟨SeqAt.EqAt.str_none _ _,SeqAt.RcAt.str_none _ _,SeqAt.RcNeAt.str_none _ _⟩
   | au cN=>simp only [br]; exact ⟨SeqAt.EqAt.str_bool _ _ _,SeqAt.RcAt.str_bool _ _ _,SeqAt.RcNeAt.str_bool _ _ _⟩
   | int bB dV=>simp only [br]; exact ⟨SeqAt.EqAt.str_int _ _ _ _,SeqAt.RcAt.str_int _ _ _ _,SeqAt.RcNeAt.str_int _ _ _ _⟩
   | str dP dV=>simp only [br]; exact ⟨SeqAt.EqAt.str_str _ _ _ _,SeqAt.RcAt.str_str _ _ _ _,SeqAt.RcNeAt.str_str _ _ _ _⟩
   | tup=>cases b3
   | c1=>cases b3
   | lst=>cases b3
   | b7=>cases b3
 | tup=>cases cn
 | c1=>cases cn
 | lst=>cases cn
 | b7=>cases cn
theorem EZ {A:Around} {P:D→Value→Prop} {d1 cf:D} {u v:Value} (hu:A.units < cLine) (h1:iM s P d1 u) (h2:iM s P cf v) (o:fQ d1=true∧fQ cf=false∨fQ d1=false∧fQ cf=true) :
  SeqAt.EqAt A s u v (br d1 cf)∧SeqAt.RcAt A s u v (br d1 cf)∧SeqAt.RcNeAt A s u v (!br d1 cf):=by
 cases h1 with
 | non=>
   cases h2 with
   | non=>rcases o with ⟨a6,aX⟩ | ⟨a6,aX⟩ <;> first | (cases a6; done) | (cases aX; done)
   | au=>rcases o with ⟨a6,aX⟩ | ⟨a6,aX⟩ <;> first | (cases a6; done) | (cases aX; done)
   | int=>rcases o with ⟨a6,aX⟩ | ⟨a6,aX⟩ <;> first | (cases a6; done) | (cases aX; done)
   | str=>rcases o with ⟨a6,aX⟩ | ⟨a6,aX⟩ <;> first | (cases a6; done) | (cases aX; done)
   | tup a2 dA dY b_ ck bM=>simp only [br,Bool.not_false]; exact ⟨SeqAt.EqAt.none_tuple b_ hu,SeqAt.RcAt.none_tuple b_ hu,SeqAt.RcNeAt.none_tuple b_ hu⟩
   | c1 a2 dA dY b_ ck bM=>simp only [br,Bool.not_false]; exact ⟨SeqAt.EqAt.none_tuple b_ hu,SeqAt.RcAt.none_tuple b_ hu,SeqAt.RcNeAt.none_tuple b_ hu⟩
   | lst a2 dA dY b_ ck bM=>simp only [br,Bool.not_false]; exact ⟨SeqAt.EqAt.none_list b_ hu,SeqAt.RcAt.none_list b_ hu,SeqAt.RcNeAt.none_list b_ hu⟩
   | b7 a2 dA dY b_ ck bM=>simp only [br,Bool.not_false]; exact ⟨SeqAt.EqAt.none_list b_ hu,SeqAt.RcAt.none_list b_ hu,SeqAt.RcNeAt.none_list b_ hu⟩
 | au c0=>
   cases h2 with
   | non=>rcases o with ⟨a6,aX⟩ | ⟨a6,aX⟩ <;> first | (cases a6; done) | (cases aX; done)
   | au=>rcases o with ⟨a6,aX⟩ | ⟨a6,aX⟩ <;> first | (cases a6; done) | (cases aX; done)
   | int=>rcases o with ⟨a6,aX⟩ | ⟨a6,aX⟩ <;> first | (cases a6; done) | (cases aX; done)
   | str=>rcases o with ⟨a6,aX⟩ | ⟨a6,aX⟩ <;> first | (cases a6; done) | (cases aX; done)
   | tup a2 dA dY b_ ck bM=>simp only [br,Bool.not_false]; exact ⟨SeqAt.EqAt.bool_tuple _ b_ hu,SeqAt.RcAt.bool_tuple _ b_ hu,SeqAt.RcNeAt.bool_tuple _ b_ hu⟩
   | c1 a2 dA dY b_ ck bM=>simp only [br,Bool.not_false]; exact ⟨SeqAt.EqAt.bool_tuple _ b_ hu,SeqAt.RcAt.bool_tuple _ b_ hu,SeqAt.RcNeAt.bool_tuple _ b_ hu⟩
   | lst a2 dA dY b_ ck bM=>simp only [br,Bool.not_false]; exact ⟨SeqAt.EqAt.bool_list _ b_ hu,SeqAt.RcAt.bool_list _ b_ hu,SeqAt.RcNeAt.bool_list _ b_ hu⟩
   | b7 a2 dA dY b_ ck bM=>simp only [br,Bool.not_false]; exact ⟨SeqAt.EqAt.bool_list _ b_ hu,SeqAt.RcAt.bool_list _ b_ hu,SeqAt.RcNeAt.bool_list _ b_ hu⟩
 | int bL t1=>
   cases h2 with
   | non=>rcases o with ⟨a6,aX⟩ | ⟨a6,aX⟩ <;> first | (cases a6; done) | (cases aX; done)
   | au=>rcases o with ⟨a6,aX⟩ | ⟨a6,aX⟩ <;> first | (cases a6; done) | (cases aX; done)
   | int=>rcases o with ⟨a6,aX⟩ | ⟨a6,aX⟩ <;> first | (cases a6; done) | (cases aX; done)
   | str=>rcases o with ⟨a6,aX⟩ | ⟨a6,aX⟩ <;> first | (cases a6; done) | (cases aX; done)
   | tup a2 dA dY b_ ck bM=>simp only [br,Bool.not_false]; exact ⟨SeqAt.EqAt.int_tuple _ _ b_ hu,SeqAt.RcAt.int_tuple _ _ b_ hu,SeqAt.RcNeAt.int_tuple _ _ b_ hu⟩
   | c1 a2 dA dY b_ ck bM=>simp only [br,Bool.not_false]; exact ⟨SeqAt.EqAt.int_tuple _ _ b_ hu,SeqAt.RcAt.int_tuple _ _ b_ hu,SeqAt.RcNeAt.int_tuple _ _ b_ hu⟩
   | lst a2 dA dY b_ ck bM=>simp only [br,Bool.not_false]; exact ⟨SeqAt.EqAt.int_list _ _ b_ hu,SeqAt.RcAt.int_list _ _ b_ hu,SeqAt.RcNeAt.int_list _ _ b_ hu⟩
   | b7 a2 dA dY b_ ck bM=>simp only [br,Bool.not_false]; exact ⟨SeqAt.EqAt.int_list _ _ b_ hu,SeqAt.RcAt.int_list _ _ b_ hu,SeqAt.RcNeAt.int_list _ _ b_ hu⟩
 | str d2 t1=>
   cases h2 with
   | non=>rcases o with ⟨a6,aX⟩ | ⟨a6,aX⟩ <;> first | (cases a6; done) | (cases aX; done)
   | au=>rcases o with ⟨a6,aX⟩ | ⟨a6,aX⟩ <;> first | (cases a6; done) | (cases aX; done)
   | int=>rcases o with ⟨a6,aX⟩ | ⟨a6,aX⟩ <;> first | (cases a6; done) | (cases aX; done)
   | str=>rcases o with ⟨a6,aX⟩ | ⟨a6,aX⟩ <;> first | (cases a6; done) | (cases aX; done)
   | tup a2 dA dY b_ ck bM=>simp only [br,Bool.not_false]; exact ⟨SeqAt.EqAt.str_tuple _ _ b_ hu,SeqAt.RcAt.str_tuple _ _ b_ hu,SeqAt.RcNeAt.str_tuple _ _ b_ hu⟩
   | c1 a2 dA dY b_ ck bM=>simp only [br,Bool.not_false]; exact ⟨SeqAt.EqAt.str_tuple _ _ b_ hu,SeqAt.RcAt.str_tuple _ _ b_ hu,SeqAt.RcNeAt.str_tuple _ _ b_ hu⟩
   | lst a2 dA dY b_ ck bM=>simp only [br,Bool.not_false]; exact ⟨SeqAt.EqAt.str_list _ _ b_ hu,SeqAt.RcAt.str_list _ _ b_ hu,SeqAt.RcNeAt.str_list _ _ b_ hu⟩
   | b7 a2 dA dY b_ ck bM=>simp only [br,Bool.not_false]; exact ⟨SeqAt.EqAt.str_list _ _ b_ hu,SeqAt.RcAt.str_list _ _ b_ hu,SeqAt.RcNeAt.str_list _ _ b_ hu⟩
 | tup a1 e1 jv cC eQ gv=>
   cases h2 with
   | non=>simp only [br,Bool.not_false]; exact ⟨SeqAt.EqAt.tuple_none cC hu,SeqAt.RcAt.tuple_none cC hu,SeqAt.RcNeAt.tuple_none cC hu⟩
   | au cN=>simp only [br,Bool.not_false]; exact ⟨SeqAt.EqAt.tuple_bool _ cC hu,SeqAt.RcAt.tuple_bool _ cC hu,SeqAt.RcNeAt.tuple_bool _ cC hu⟩
   | int bB dV=>simp only [br,Bool.not_false]; exact ⟨SeqAt.EqAt.tuple_int _ _ cC hu,SeqAt.RcAt.tuple_int _ _ cC hu,SeqAt.RcNeAt.tuple_int _ _ cC hu⟩
   | str dP dV=>simp only [br,Bool.not_false]; exact ⟨SeqAt.EqAt.tuple_str _ _ cC hu,SeqAt.RcAt.tuple_str _ _ cC hu,SeqAt.RcNeAt.tuple_str _ _ cC hu⟩
   | tup=>rcases o with ⟨a6,aX⟩ | ⟨a6,aX⟩ <;> first | (cases a6; done) | (cases aX; done)
   | c1=>rcases o with ⟨a6,aX⟩ | ⟨a6,aX⟩ <;> first | (cases a6; done) | (cases aX; done)
   | lst=>rcases o with ⟨a6,aX⟩ | ⟨a6,aX⟩ <;> first | (cases a6; done) | (cases aX; done)
   | b7=>rcases o with ⟨a6,aX⟩ | ⟨a6,aX⟩ <;> first | (cases a6; done) | (cases aX; done)
 | c1 a1 e1 jv cC eQ gv=>
   cases h2 with
   | non=>simp only [br,Bool.not_false]; exact ⟨SeqAt.EqAt.tuple_none cC hu,SeqAt.RcAt.tuple_none cC hu,SeqAt.RcNeAt.tuple_none cC hu⟩
   | au cN=>simp only [br,Bool.not_false]; exact ⟨SeqAt.EqAt.tuple_bool _ cC hu,SeqAt.RcAt.tuple_bool _ cC hu,SeqAt.RcNeAt.tuple_bool _ cC hu⟩
   | int bB dV=>simp only [br,Bool.not_false]; exact ⟨SeqAt.EqAt.tuple_int _ _ cC hu,SeqAt.RcAt.tuple_int _ _ cC hu,SeqAt.RcNeAt.tuple_int _ _ cC hu⟩
   | str dP dV=>simp only [br,Bool.not_false]; exact ⟨SeqAt.EqAt.tuple_str _ _ cC hu,SeqAt.RcAt.tuple_str _ _ cC hu,SeqAt.RcNeAt.tuple_str _ _ cC hu⟩
   | tup=>rcases o with ⟨a6,aX⟩ | ⟨a6,aX⟩ <;> first | (cases a6; done) | (cases aX; done)
   | c1=>rcases o with ⟨a6,aX⟩ | ⟨a6,aX⟩ <;> first | (cases a6; done) | (cases aX; done)
   | lst=>rcases o with ⟨a6,aX⟩ | ⟨a6,aX⟩ <;> first | (cases a6; done) | (cases aX; done)
   | b7=>rcases o with ⟨a6,aX⟩ | ⟨a6,aX⟩ <;> first | (cases a6; done) | (cases aX; done)
 | lst a1 e1 jv cC eQ gv=>
   cases h2 with
   | non=>simp only [br,Bool.not_false]; exact ⟨SeqAt.EqAt.list_none cC hu,SeqAt.RcAt.list_none cC hu,SeqAt.RcNeAt.list_none cC hu⟩
   | au cN=>simp only [br,Bool.not_false]; exact ⟨SeqAt.EqAt.list_bool _ cC hu,SeqAt.RcAt.list_bool _ cC hu,SeqAt.RcNeAt.list_bool _ cC hu⟩
   | int bB dV=>simp only [br,Bool.not_false]; exact ⟨SeqAt.EqAt.list_int _ _ cC hu,SeqAt.RcAt.list_int _ _ cC hu,SeqAt.RcNeAt.list_int _ _ cC hu⟩
   | str dP dV=>simp only [br,Bool.not_false]; exact ⟨SeqAt.EqAt.list_str _ _ cC hu,SeqAt.RcAt.list_str _ _ cC hu,SeqAt.RcNeAt.list_str _ _ cC hu⟩
   | tup=>rcases o with ⟨a6,aX⟩ | ⟨a6,aX⟩ <;> first | (cases a6; done) | (cases aX; done)
   | c1=>rcases o with ⟨a6,aX⟩ | ⟨a6,aX⟩ <;> first | (cases a6; done) | (cases aX; done)
   | lst=>rcases o with ⟨a6,aX⟩ | ⟨a6,aX⟩ <;> first | (cases a6; done) | (cases aX; done)
   | b7=>rcases o with ⟨a6,aX⟩ | ⟨a6,aX⟩ <;> first | (cases a6; done) | (cases aX; done)
 | b7 a1 e1 jv cC eQ gv=>
   cases h2 with
   | non=>simp only [br,Bool.not_false]; exact ⟨SeqAt.EqAt.list_none cC hu,SeqAt.RcAt.list_none cC hu,SeqAt.RcNeAt.list_none cC hu⟩
   | au cN=>simp only [br,Bool.not_false]; exact ⟨SeqAt.EqAt.list_bool _ cC hu,SeqAt.RcAt.list_bool _ cC hu,SeqAt.RcNeAt.list_bool _ cC hu⟩
   | int bB dV=>simp only [br,Bool.not_false]; exact ⟨SeqAt.EqAt.list_int _ _ cC hu,SeqAt.RcAt.list_int _ _ cC hu,SeqAt.RcNeAt.list_int _ _ cC hu⟩
   | str dP dV=>simp only [br,Bool.not_false]; exact ⟨SeqAt.EqAt.list_str _ _ cC hu,SeqAt.RcAt.list_str _ _ cC hu,SeqAt.RcNeAt.list_str _ _ cC hu⟩
   | tup=>rcases o with ⟨a6,aX⟩ | ⟨a6,aX⟩ <;> first | (cases a6; done) | (cases aX; done)
   | c1=>rcases o with ⟨a6,aX⟩ | ⟨a6,aX⟩ <;> first | (cases a6; done) | (cases aX; done)
   | lst=>rcases o with ⟨a6,aX⟩ | ⟨a6,aX⟩ <;> first | (cases a6; done) | (cases aX; done)
   | b7=>rcases o with ⟨a6,aX⟩ | ⟨a6,aX⟩ <;> first | (cases a6; done) | (cases aX; done)
theorem Cy:∀{xs ys:List D},xs.length=ys.length→(∀(i:Nat) x y,xs[i]? =some x→ys[i]? =some y→br x y=true)→eh xs ys=true
 | [],[],_,_=>by simp only [eh]
 | [],_::_,h,_=>by simp at h
 | _::_,[],h,_=>by simp at h
 | x::xs,y::ys,h,k=>by
   simp only [eh]
   rw [k 0 x y rfl rfl,Cy (by simpa using h) fun i a b ah aw=>k (i + 1) a b (by simpa using ah) (by simpa using aw)]
   rfl
theorem F_ {K:PySem.W.Frag} {d1 cf:D} {x:V} (cn:fQ d1=true) (a1:At K G d1 x) (a2:At K G cf x):br d1 cf=true:=by
 cases d1 with
 | non=>
   simp only [At] at a1; subst a1
   cases cf <;> simp only [At] at a2 <;> first | (simp only [br]; done) | (cases a2; done) | (obtain ⟨a,xs,e,_⟩:=a2; cases e; done) | (obtain ⟨a,aT,xs,e,_⟩:=a2; cases e; done)
 | au b=>
   simp only [At] at a1; subst a1
   cases cf <;> simp only [At] at a2 <;> first | (cases a2; simp only [br,beq_self_eq_true]; done) | (cases a2; done) | (obtain ⟨a,xs,e,_⟩:=a2; cases e; done) | (obtain ⟨a,aT,xs,e,_⟩:=a2; cases e; done)
 | int b=>
   simp only [At] at a1; subst a1
   cases cf <;> simp only [At] at a2 <;> first | (cases a2; simp only [br,beq_self_eq_true]; done) | (cases a2; done) | (obtain ⟨a,xs,e,_⟩:=a2; cases e; done) | (obtain ⟨a,aT,xs,e,_⟩:=a2; cases e; done)
 | str b=>
   simp only [At] at a1; subst a1
   cases cf <;> simp only [At] at a2 <;> first | (cases a2; simp only [br,beq_self_eq_true]; done) | (cases a2; done) | (obtain ⟨a,xs,e,_⟩:=a2; cases e; done) | (obtain ⟨a,aT,xs,e,_⟩:=a2; cases e; done)
 | _=>cases cn
theorem Cx {d1 cf:D} (b3:fQ cf=true) (cn:fQ d1=false) {K:PySem.W.Frag} {x:V} (a1:At K G d1 x) (a2:At K G cf x):False:=by
 cases cf <;> first
  | (cases b3; done)
  | (simp only [At] at a2; subst a2
     cases d1 <;> first
      | (cases cn; done)
      | (simp only [At] at a1; obtain ⟨a,xs,e,_⟩:=a1; cases e; done)
      | (simp only [At] at a1; obtain ⟨a,aT,xs,e,_⟩:=a1; cases e; done))
inductive f3 (K:PySem.W.Frag) (G:J):D→Addr→Bool→List D→List V→Prop where
 | tup {a ds xs} (h:cu K G a xs) (q:aE K G ds xs):f3 K G (.tup ds) a true ds xs
 | c1 {a ds xs} (h:cu K G a xs) (q:aE K G ds xs):f3 K G (.c1 ds) a true ds xs
 | lst {a ds xs} (h:G a=some (.lst xs)) (q:aE K G ds xs):f3 K G (.lst ds) a false ds xs
 | b7 {a ds xs} (h:bI K G a xs) (q:aE K G ds xs):f3 K G (.b7 ds) a false ds xs
theorem qf {K:PySem.W.Frag} {n:Nat} {d:D} {x:V} (o:okN n d=true) (ns:fQ d=false) (a:At K G d x):∃p b ds xs,x= .ref p∧f3 K G d p b ds xs∧∃m,n=m + 1∧ds.all (okN m)=true:=by
 cases d with
 | tup ds=>
   simp only [At] at a
   obtain ⟨p,xs,e,h,q⟩:=a
   cases n with
   | zero=>cases o
   | succ m=>exact ⟨p,_,ds,xs,e,.tup (cu.of h) q,m,rfl,o⟩
 | lst ds=>
   simp only [At] at a
   obtain ⟨p,xs,e,h,q⟩:=a
   cases n with
   | zero=>cases o
   | succ m=>exact ⟨p,_,ds,xs,e,.lst h q,m,rfl,o⟩
 | b7 ds=>
   simp only [At] at a
   obtain ⟨p,xs,e,h,q⟩:=a
   cases n with
   | zero=>cases o
   | succ m=>exact ⟨p,_,ds,xs,e,.b7 h q,m,rfl,o⟩
 | cL _ _=>cases n <;> cases o
 | bx _ _=>cases n <;> cases o
 | ins _ _ _=>cases n <;> cases o
 | gn _=>cases n <;> cases o
 | c1 ds=>
   simp only [At] at a
   obtain ⟨p,xs,e,h,q⟩:=a
   cases n with
   | zero=>cases o
   | succ m=>exact ⟨p,_,ds,xs,e,.c1 h q,m,rfl,o⟩
 | _=>cases ns
theorem f3.gj {K:PySem.W.Frag} {d:D} {p:Addr} {b:Bool} {ds:List D} {xs:List V} (h:f3 K G d p b ds xs):aE K G ds xs:=by cases h <;> assumption
theorem f3.eq {K:PySem.W.Frag} {d1 cf:D} {gv bM:Addr} {c0 cN:Bool} {e1 dA:List D} {nj kT:List V} (h1:f3 K G d1 gv c0 e1 nj) (h2:f3 K G cf bM cN dA kT):br d1 cf=(c0 == cN && eh e1 dA):=by
 cases h1 <;> cases h2 <;> simp [br]
theorem f3.heap (I:Inv X pins σ H s) (aY:Sub G H) {d:D} {p:Addr} {b:Bool} {ds:List D} {xs:List V} (h:f3 X.K G d p b ds xs) :
  ∃its:List Value,Vals xs its∧(b=true→s.heap.IsTuple p its.toArray)∧(b=false→s.heap.IsList p its.toArray):=by
 cases h with
 | tup h q=>obtain ⟨its,bN,ht,_⟩:=I.tuple (cu.mono aY h); exact ⟨its,bN,fun _=>ht,fun z=>by cases z⟩
 | c1 h q=>obtain ⟨its,bN,ht,_⟩:=I.tuple (cu.mono aY h); exact ⟨its,bN,fun _=>ht,fun z=>by cases z⟩
 | lst h q=>obtain ⟨its,bN,ht,_⟩:=I.list (bI.of (aY _ _ h)); exact ⟨its,bN,(fun z=>by cases z),fun _=>ht.isList⟩
 | b7 h q=>obtain ⟨its,bN,ht,_⟩:=I.list (bI.mono aY h); exact ⟨its,bN,(fun z=>by cases z),fun _=>ht.isList⟩
theorem f3.same (I:Inv X pins σ H s) (aY:Sub G H) {d1 cf:D} {p:Addr} {c0 cN:Bool} {e1 dA:List D} {nj kT:List V} (h1:f3 X.K G d1 p c0 e1 nj) (h2:f3 X.K G cf p cN dA kT):c0=cN∧nj=kT:=by
 obtain ⟨jv,ao,t1,eQ⟩:=h1.heap I aY
 obtain ⟨dY,a_,dV,ck⟩:=h2.heap I aY
 cases c0 with
 | true=>
   cases cN with
   | false=>exact absurd rfl (SeqAt.ne_of_list_tuple (ck rfl) (t1 rfl))
   | true=>
     refine ⟨rfl,?_⟩
     cases h1 <;> cases h2 <;>
     exact I.AI (cu.mono aY (by assumption)) (cu.mono aY (by assumption))
 | false=>
   cases cN with
   | true=>exact absurd rfl (SeqAt.ne_of_list_tuple (eQ rfl) (dV rfl))
   | false=>
     refine ⟨rfl,?_⟩
     have g1:bI X.K H p nj:=by
      cases h1 with
      | lst h q=>exact bI.of (aY _ _ h)
      | b7 h q=>exact bI.mono aY h
     have g2:bI X.K H p kT:=by
      cases h2 with
      | lst h q=>exact bI.of (aY _ _ h)
      | b7 h q=>exact bI.mono aY h
     exact I.yL g1 g2
theorem oY {f:D→Bool} {ds:List D} (h:ds.all f=true) {i:Nat} {d:D} (e:ds[i]? =some d):f d=true:=List.all_eq_true.mp h d (List.mem_of_getElem? e)
theorem IG (I:Inv X pins σ H s) (aY:Sub G H):∀(n:Nat) {d1 cf:D} {x:V},okN n d1=true→okN n cf=true→At X.K G d1 x→At X.K G cf x→br d1 cf=true:=by
 intro n
 induction n with
 | zero=>
   intro d1 cf x cn b3 a1 a2
   exact F_ (by cases d1 <;> first | rfl | (cases cn)) a1 a2
 | succ n b8=>
   intro d1 cf x cn b3 a1 a2
   cases s1:fQ d1 with
   | true=>exact F_ s1 a1 a2
   | false=>
     cases s2:fQ cf with
     | true=>exact (Cx s2 s1 a1 a2).elim
     | false=>
       obtain ⟨gv,c0,e1,nj,ah,aW,m1,Cr,k1⟩:=qf cn s1 a1
       obtain ⟨bM,cN,dA,kT,aw,bG,m2,pq,k2⟩:=qf b3 s2 a2
       subst ah
       cases aw
       have:n=m1:=by omega
       subst this
       have:n=m2:=by omega
       subst this
       obtain ⟨bq,ex⟩:=aW.same I aY bG
       subst bq; subst ex
       rw [aW.eq bG,beq_self_eq_true,Bool.true_and]
       refine Cy (aW.gj.length.trans bG.gj.length.symm) fun i a b av bq=>?_
       obtain ⟨v,ev,bc⟩:=aW.gj.get av
       obtain ⟨jK,ra,bv⟩:=bG.gj.get bq
       rw [ev] at ra; cases ra
       exact b8 (oY k1 av) (oY k2 bq) bc bv
theorem xt (I:Inv X pins σ H s) (aY:Sub G H):∀(n:Nat) {d1 cf:D} {u v:Value} {A:Around},okN n d1=true→okN n cf=true→kl X.K G d1 u→kl X.K G cf v→A.units + n < cLine→
  SeqAt.EqAt A s u v (br d1 cf)∧SeqAt.RcAt A s u v (br d1 cf)∧SeqAt.RcNeAt A s u v (!br d1 cf):=by
 intro n
 induction n with
 | zero=>
   intro d1 cf u v A cn b3 a1 a2 hu
   refine F8 (m7 I aY cn a1) (m7 I aY b3 a2) ?_ ?_
   · cases d1 <;> first | rfl | (cases cn)
   · cases cf <;> first | rfl | (cases b3)
 | succ n b8=>
   intro d1 cf u v A cn b3 a1 a2 hu
   have ju:A.units < cLine:=by omega
   cases s1:fQ d1 with
   | true=>
     cases s2:fQ cf with
     | true=>exact F8 (m7 I aY cn a1) (m7 I aY b3 a2) s1 s2
     | false=>exact EZ ju (m7 I aY cn a1) (m7 I aY b3 a2) (.inl ⟨s1,s2⟩)
   | false=>
     cases s2:fQ cf with
     | true=>exact EZ ju (m7 I aY cn a1) (m7 I aY b3 a2) (.inr ⟨s1,s2⟩)
     | false=>
       obtain ⟨d2,BA,R0⟩:=a1
       obtain ⟨dP,at2,R1⟩:=a2
       obtain ⟨gv,c0,e1,nj,ah,aW,m1,Cr,k1⟩:=qf cn s1 BA
       obtain ⟨bM,cN,dA,kT,aw,bG,m2,pq,k2⟩:=qf b3 s2 at2
       subst ah; subst aw
       cases R0
       cases R1
       have:n=m1:=by omega
       subst this
       have:n=m2:=by omega
       subst this
       obtain ⟨jv,ao,t1,eQ⟩:=aW.heap I aY
       obtain ⟨dY,a_,dV,ck⟩:=bG.heap I aY
       have pK:e1.length=jv.length:=aW.gj.length.trans ao.length
       have rK:dA.length=dY.length:=bG.gj.length.trans a_.length
       have item:∀j (h1:j < jv.toArray.size) (h2:j < dY.toArray.size),SeqAt.EqAt A.in1 s jv.toArray[j] dY.toArray[j] (j8 e1 dA j):=fun j h1 h2=>by
        have yy:j < e1.length:=by rw [pK]; simpa using h1
        have yz:j < dA.length:=by rw [rK]; simpa using h2
        have g1:kl X.K G e1[j] jv.toArray[j]:=pD aW.gj ao j _ _ (List.getElem?_eq_getElem yy) (by simp at h1; simp [h1])
        have g2:kl X.K G dA[j] dY.toArray[j]:=pD bG.gj a_ j _ _ (List.getElem?_eq_getElem yz) (by simp at h2; simp [h2])
        have:=(b8 (A:=A.in1) (oY k1 (List.getElem?_eq_getElem yy)) (oY k2 (List.getElem?_eq_getElem yz)) g1 g2 (by rw [in1_units]; omega)).1
        unfold j8
        rw [List.getElem?_eq_getElem yy,List.getElem?_eq_getElem yz]
        exact this
       have whole:SeqAt.RcAt A s (.ref gv) (.ref bM) (br d1 cf)∧SeqAt.RcNeAt A s (.ref gv) (.ref bM) (!br d1 cf):=by
        rw [aW.eq bG]
        cases c0 with
        | true=>
          cases cN with
          | false=>exact ⟨SeqAt.RcAt.tuple_list (t1 rfl) (ck rfl) ju,SeqAt.RcNeAt.tuple_list (t1 rfl) (ck rfl) ju⟩
          | true=>
            have bD:=SeqAt.RcAt.tuples (e:=j8 e1 dA) (t1 rfl) (dV rfl) ju item
            have dj:=SeqAt.RcNeAt.tuples (e:=j8 e1 dA) (t1 rfl) (dV rfl) ju item
            have eq:((List.range (min jv.toArray.size dY.toArray.size)).all (j8 e1 dA) && jv.toArray.size == dY.toArray.size)=(true == true && eh e1 dA):=by
             rw [List.size_toArray,List.size_toArray,←pK,←rK,beq_self_eq_true,Bool.true_and]
             by_cases hl:e1.length=dA.length
             · rw [←hl,Nat.min_self,xv hl,beq_self_eq_true,Bool.and_true]
             · rw [xu hl]
               have:(e1.length == dA.length)=false:=by simpa using hl
               rw [this,Bool.and_false]
            rw [eq] at bD
            refine ⟨bD,?_⟩
            first
             | (rw [eq] at dj; exact dj)
             | exact dj
        | false=>
          cases cN with
          | true=>exact ⟨SeqAt.RcAt.list_tuple (eQ rfl) (dV rfl) ju,SeqAt.RcNeAt.list_tuple (eQ rfl) (dV rfl) ju⟩
          | false=>
            rw [beq_self_eq_true,Bool.true_and]
            by_cases hl:e1.length=dA.length
            · have bD:=SeqAt.RcAt.lists (e:=j8 e1 dA) (eQ rfl) (ck rfl) (by rw [List.size_toArray,List.size_toArray,←pK,←rK]; exact hl) ju item
              have dj:=SeqAt.RcNeAt.lists (e:=j8 e1 dA) (eQ rfl) (ck rfl) (by rw [List.size_toArray,List.size_toArray,←pK,←rK]; exact hl) ju item
              rw [List.size_toArray,←pK,xv hl] at bD dj
              exact ⟨bD,dj⟩
            · have a5:(jv.toArray.size != dY.toArray.size)=true:=by
               rw [List.size_toArray,List.size_toArray,←pK,←rK]; simpa using hl
              rw [xu hl]
              exact ⟨SeqAt.RcAt.lists_lengths (eQ rfl) (ck rfl) a5 ju,SeqAt.RcNeAt.lists_lengths (eQ rfl) (ck rfl) a5 ju⟩
       refine ⟨?_,whole⟩
       by_cases hp:gv=bM
       · subst hp
         rw [IG I aY (n + 1) cn b3 BA at2]
         exact SeqAt.EqAt.same _
       · exact SeqAt.EqAt.of_refs hp whole.1
end
end aA
set_option Elab.async false
set_option linter.all false
set_option maxRecDepth 100000
namespace aA
open PySem PySem.Spec aZ
noncomputable def notStar:Expr→Bool
 | .Starred .. =>false
 | _=>true
theorem Ts (e:Expr) (ae:List Expr) (env:Env) (h:notStar e=true):starEach (e::ae) env=(false,eval e env)::starEach ae env:=by
 cases e <;> first | rfl | (cases h)
noncomputable def i6:Expr→Bool
 | .ListComp .. =>false
 | .SetComp .. =>false
 | .DictComp .. =>false
 | _=>true
theorem kO (e:Expr) (t:Option Expr) (l:Nat) (env:Env) (h:i6 e=true):swapsWith e t l env=pure false:=by
 cases e <;> first | rfl | (cases h)
noncomputable def PM:Expr→Bool
 | .Slice .. =>false
 | _=>true
theorem bg {b:Expr} (h:PM b=true:=by rfl):oQ b:=fun o i=>by
 cases b <;> first | rfl | (cases h)
section
variable {X:aG} {F:bf} {e a b c:Expr} {ae:List Expr} {pos:Pos}
theorem aS.imp {t t':TE} (h:aS X e t) (i:ek t' t):aS X e t':=fun pins s σ H Q I hw=>h pins s σ H Q I (i σ H Q hw)
theorem eG.imp {t t':TT} (h:eG X e t) (i:kY t' t):eG X e t':=fun pins s σ H Q I hw=>h pins s σ H Q I (i σ H Q hw)
theorem g_.imp {t t':TT} (h:g_ X e t) (i:kY t' t):g_ X e t':=fun oB pins s σ H Q I hw=>h oB pins s σ H Q I (i σ H Q hw)
theorem e8.imp {t t':eH} (h:e8 X ae t) (i:tu t' t):e8 X ae t':=fun p pins s σ H Q I hw=>h p pins s σ H Q I (i σ H Q hw)
theorem cK.imp {st:Stmt} {t t':d5} (h:cK X st t) (i:fY t' t):cK X st t':=fun pins s σ H b6 I hw=>h pins s σ H b6 I (i b6 σ H hw)
theorem e9.imp {st:List Stmt} {t t':d5} (h:e9 X st t) (i:fY t' t):e9 X st t':=fun pins s σ H b6 I hw=>h pins s σ H b6 I (i b6 σ H hw)
theorem fZ.imp {bl:Expr} {t t':TI} (h:fZ X bl e t) (i:ny t' t):fZ X bl e t':=fun pins s σ H Q I hw=>h pins s σ H Q I (i σ H Q hw)
noncomputable abbrev a3 (X:aG) (F:bf) (e:Expr) (m:ay):Prop:=aS X e (cA F m)
noncomputable abbrev mb (X:aG) (F:bf) (e:Expr) (m:aK):Prop:=aS X e (iF F m)
noncomputable abbrev fy (X:aG) (F:bf) (e:Expr) (m:bJ):Prop:=eG X e (fc F m)
noncomputable abbrev nF (X:aG) (F:bf) (e:Expr) (m:bJ):Prop:=g_ X e (fc F m)
noncomputable abbrev fV (X:aG) (F:bf) (ae:List Expr) (m:aK):Prop:=e8 X ae (ee F m)
noncomputable abbrev fx (X:aG) (F:bf) (st:Stmt) (m:a0):Prop:=cK X st (et F m)
noncomputable abbrev l7 (X:aG) (F:bf) (st:List Stmt) (m:a0):Prop:=e9 X st (et F m)
noncomputable abbrev jf (X:aG) (F:bf) (bl e:Expr) (m:aK):Prop:=fZ X bl e (jb F m)
theorem KO (i:Nat) {x:Str} (hN:X.N[i]? =some x:=by rfl) (hv:fG X.env.scope x:=by first | exact Or.inl rfl | exact Or.inr (Or.inl rfl) | exact Or.inr (Or.inr rfl))
  (hd:(x == ("__debug__" :Str))=false:=by decide) (hcd:(x == ("__classdict__" :Str))=false:=by decide):a3 X F (.Name x pos) (af i):=aS.imp (jE hN hv hd hcd) (Nc i)
theorem Kl {i:Int} {j}:a3 X F (.Constant (.int i) j pos) (aq (.int i)):=aS.imp QM (rB fun _=>by simp only [At])
theorem J8 {i:Bool} {j}:a3 X F (.Constant (.bool i) j pos) (aq (.au i)):=aS.imp QD (rB fun _=>by simp only [At])
theorem KD {i:Str} {j}:a3 X F (.Constant (.str i) j pos) (aq (.str i)):=aS.imp FA (rB fun _=>by simp only [At])
theorem Kw {j}:a3 X F (.Constant .none j pos) (aq .non):=aS.imp QQ (rB fun _=>by simp only [At])
theorem Ki {x:Str} {v:V} {u:Value} {d:D} (hm:X.mg x=some u) (r:RelV v u) (at':∀G,At F.K G d v) (hg:cv X x:=by rfl) (hd:(x == ("__debug__" :Str))=false:=by decide):a3 X F (.Name x pos) (aq d):=
 aS.imp (Fz hg hm r hd) (rB at')
theorem Iq:fV X F [] az:=e8.imp lN MS
theorem Ip {m:ay} {r:aK} (h:a3 X F e m) (t:fV X F ae r) (hs:notStar e=true:=by rfl):fV X F (e::ae) (ag m r):=e8.imp (i7 h t (Ts e ae X.env hs)) Mz
theorem KJ {k} {m:aK} (h:fV X F ae m):a3 X F (.Tuple ae k pos) (cV m):=aS.imp (QW h) M_
theorem P0 {m:aK} (h:fV X F ae m):mb X F (.List ae pos) (dE m):=aS.imp (QN h) MO
theorem Kh {m:aK} (h:mb X F e m):a3 X F e (cW m):=aS.imp h MH
theorem J9 {m:ay} (h:a3 X F e m):a3 X F e (pO m):=aS.imp h Mt
theorem TZ {m:bJ} (h:fy X F e m):fy X F e (i2 m):=eG.imp h Mv
theorem T_ {m:ay} (h:a3 X F e m) (he:∀whole,isTrue e X.env whole=(do let v ←whole; standAt e.pos; holding [v] (truthy v)):=by intro _; rfl):fy X F e (bz m):=eG.imp (Ro h he) yn
theorem UM {m:bJ} (h:fy X F a m):nF X F (.BoolOp .And [a] pos) m:=Ru h
theorem UP {m:bJ} (h:fy X F a m):nF X F (.BoolOp .Or [a] pos) m:=Rw h
theorem w_and {m n:bJ} (h:fy X F a m) (k:nF X F (.BoolOp .And (b::ae) pos) n):nF X F (.BoolOp .And (a::b::ae) pos) (lF m n):=g_.imp (Rt h k) Mr
theorem w_or {m n:bJ} (h:fy X F a m) (k:nF X F (.BoolOp .Or (b::ae) pos) n):nF X F (.BoolOp .Or (a::b::ae) pos) (fE m n):=g_.imp (Rv h k) MW
theorem Ua {m:bJ} (h:nF X F e m):fy X F e m:=g_.pt h
theorem T8 {m:bJ} (h:fy X F a m):fy X F (.UnaryOp .Not a pos) (ea m):=eG.imp (Rn h) MT
theorem Ky {op} {m:ay} (h:a3 X F a m):a3 X F (.BoolOp op [a] pos) m:=QS h
theorem J7 {m n:ay} (h:a3 X F a m) (k:a3 X F (.BoolOp .And (b::ae) pos) n):a3 X F (.BoolOp .And (a::b::ae) pos) (i1 m n):=aS.imp (QC h k) Ms
theorem Kz {m n:ay} (h:a3 X F a m) (k:a3 X F (.BoolOp .Or (b::ae) pos) n):a3 X F (.BoolOp .Or (a::b::ae) pos) (pU m n):=aS.imp (QU h k) MX
theorem Kx {m:ay} (h:a3 X F a m):a3 X F (.UnaryOp .Not a pos) (n9 m):=aS.imp (QR h) MU
theorem Kj {k:bJ} {m n:ay} (h:fy X F c k) (ha:a3 X F a m) (hb:a3 X F b n):a3 X F (.IfExp c a b pos) (n6 k m n):=aS.imp (QL h ha hb) MJ
variable {st:Stmt} {lR:List Stmt}
theorem Si:l7 X F [] dc:=e9.imp FL MR
theorem R_ {m n:a0} (h:fx X F st m) (k:l7 X F lR n):l7 X F (st::lR) (bt m n):=e9.imp (FK h k) M4
theorem Sj {m:a0} (h:fx X F st m):l7 X F [st] m:=zi h
theorem Sb {m:ay} (h:a3 X F e m) (hs:i6 e=true:=by rfl):fx X F (.Expr e pos) (pP m):=cK.imp (sl h (kO _ _ _ _ hs)) MC
theorem Sk {m:ay} (h:a3 X F e m):fx X F (.Return (some e) pos) (cz m):=cK.imp (sm h) MZ
theorem Sl {m:aK} (h:mb X F e m):fx X F (.Return (some e) pos) (iC m):=cK.imp (sm h) M0
theorem Sm (i:Nat) {x:Str} {p:Pos} (hN:X.N[i]? =some x:=by rfl) (hv:fG X.env.scope x:=by first | exact Or.inl rfl | exact Or.inr (Or.inl rfl) | exact Or.inr (Or.inr rfl)) (hd:(x == ("__debug__" :Str))=false:=by decide) (hcd:(x == ("__classdict__" :Str))=false:=by decide) :
  fx X F (.Return (some (.Name x p)) pos) (iC (oc i)):=cK.imp (sm (jE hN hv hd hcd)) (M1 i)
theorem Sh {k:bJ} {m n:a0} {xs ys:List Stmt} (h:fy X F c k) (ha:l7 X F xs m) (hb:l7 X F ys n):fx X F (.If c xs ys pos) (c9 k m n):=cK.imp (FI h ha hb) MK
theorem Sg {m:a0} (i:Nat) (h:fx X F st m):fx X F st (rP i m):=cK.imp h MG
theorem So (i:Nat) {x:Str} {p:Pos} {m:ay} (hN:X.N.Nodup) (he:a3 X F e m) (hi:X.N[i]? =some x:=by rfl) (hx:Loc X.env.scope x:=by first | exact Or.inl rfl | exact Or.inr rfl) (hs:i6 e=true:=by rfl)
  (hf:X.fn x=true∨X.env.scope.names.lookup x=some .local:=by first | exact .inl rfl | exact .inr rfl):fx X F (.Assign [.Name x p] e pos) (c6 i m):=cK.imp (vg hN hi hx he (kO _ _ _ _ hs) hf) M5
theorem Sr (i:Nat) {x:Str} {p:Pos} {m:aK} (hN:X.N.Nodup) (he:mb X F e m) (hi:X.N[i]? =some x:=by rfl) (hx:Loc X.env.scope x:=by first | exact Or.inl rfl | exact Or.inr rfl) (hs:i6 e=true:=by rfl)
  (hf:X.fn x=true∨X.env.scope.names.lookup x=some .local:=by first | exact .inl rfl | exact .inr rfl):fx X F (.Assign [.Name x p] e pos) (gr i m):=cK.imp (vg hN hi hx he (kO _ _ _ _ hs) hf) yo
theorem nQ {op:Operator} {r:d4} {f:D→D→R D} {m n:ay} (ho:c7 X (binaryOp op) r) (hf:fg F r f) (ha:a3 X F a m) (hb:a3 X F b n):a3 X F (.BinOp a op b pos) (ar f m n):=aS.imp (QT ho ha hb) (uC hf)
theorem t5 {op:CmpOp} {r:d4} {f:D→D→R D} {m n:ay} (ho:c7 X (compareOp op) r) (hf:fg F r f) (ha:a3 X F a m) (hb:a3 X F b n) (hm:behindInMarks op b=false):a3 X F (.Compare a [op] [b] pos) (ar f m n):=aS.imp (QF ho ha hb hm) (uC hf)
theorem qk {op:CmpOp} {r:d4} {f:D→D→R D} {m n:ay} (ho:c7 X (compareOp op) r) (hf:fg F r f) (ha:a3 X F a m) (hb:a3 X F b n) (hm:behindInMarks op b=false):fy X F (.Compare a [op] [b] pos) (bz (ar f m n)):=
 eG.imp (Rm ho ha hb hm) fun σ H Q h=>by
   obtain ⟨G,ρ,r,k⟩:=D8 (F:=F) (m:=ar f m n) σ H Q h
   exact uC hf σ H _ ⟨G,ρ,r,k⟩
theorem KN {op:UnaryOp} {r:V→J→b9→Prop} {f:D→R D} {m:ay} (ho:tG X (unaryOp op) r) (hf:Br F r f) (ha:a3 X F a m):a3 X F (.UnaryOp op a pos) (cH f m):=aS.imp (QX ho ha) (Nb hf)
noncomputable def iW (f:Int→Int→R D):D→D→R D
 | .int i,.int j=>f i j
 | _,_=> .bad
theorem sf {g:Int→Int→V} {f:Int→Int→D} (h:∀i j G,At F.K G (f i j) (g i j)):fg F (kg g) (iW fun i j=> .ok (f i j)):=by
 intro σ ρ G H x y aT fB Q r bH cI k
 unfold iW at k
 split at k
 · rename_i i j
   simp only [At] at bH cI
   exact ⟨i,j,bH,cI,k _ H G r (b2.refl _ _) (h i j G)⟩
 · exact k.elim
theorem vb {C:Int→Int→Prop} [∀i j,Decidable (C i j)] {g:Int→Int→V} {f:Int→Int→D} (h:∀i j G,At F.K G (f i j) (g i j)):fg F (p_ C g) (iW fun i j=>if C i j then .ok (f i j) else .bad):=by
 intro σ ρ G H x y aT fB Q r bH cI k
 unfold iW at k
 split at k
 · rename_i i j
   simp only [At] at bH cI
   dsimp only at k
   split at k
   · rename_i hc
     exact ⟨i,j,bH,cI,hc,k _ H G r (b2.refl _ _) (h i j G)⟩
   · exact k.elim
 · exact k.elim
instance (i j:Int):Decidable (tj i j):=by unfold tj; infer_instance
instance (i j:Int):Decidable (qw i j):=by unfold qw; infer_instance
instance (i j:Int):Decidable (oL i j):=by unfold oL; infer_instance
noncomputable def m_:=iW fun i j=> .ok (.int (i - j))
noncomputable def kK:=iW fun i j=>if oL i j then .ok (.int (i * j)) else .bad
noncomputable def eJ:=iW fun i j=>if tj i j then .ok (.int (i / j)) else .bad
noncomputable def d0:=iW fun i j=>if 0 < j then .ok (.int (i % j)) else .bad
noncomputable def m3:=iW fun i j=>if qw i j then .ok (.int (i ^ j.toNat)) else .bad
noncomputable def n3:=iW fun i j=> .ok (.au (decide (i < j)))
noncomputable def j_:=iW fun i j=> .ok (.au (decide (i≤j)))
noncomputable def rm:=iW fun i j=> .ok (.au (decide (j < i)))
variable {m n:ay}
theorem KH (ha:a3 X F a m) (hb:a3 X F b n):a3 X F (.BinOp a .Sub b pos) (ar m_ m n):=nQ Qq (sf fun _ _ _=>by simp only [At]) ha hb
theorem Kt (ha:a3 X F a m) (hb:a3 X F b n):a3 X F (.BinOp a .Mult b pos) (ar kK m n):=nQ Qm (vb fun _ _ _=>by simp only [At]) ha hb
theorem Kf (ha:a3 X F a m) (hb:a3 X F b n):a3 X F (.BinOp a .FloorDiv b pos) (ar eJ m n):=nQ Qi (vb fun _ _ _=>by simp only [At]) ha hb
theorem Ks (ha:a3 X F a m) (hb:a3 X F b n):a3 X F (.BinOp a .Mod b pos) (ar d0 m n):=nQ Ql (vb fun _ _ _=>by simp only [At]) ha hb
theorem KA (ha:a3 X F a m) (hb:a3 X F b n):a3 X F (.BinOp a .Pow b pos) (ar m3 m n):=nQ Qo (vb fun _ _ _=>by simp only [At]) ha hb
theorem T6 (ha:a3 X F a m) (hb:a3 X F b n):fy X F (.Compare a [.Lt] [b] pos) (bz (ar n3 m n)):=qk Fm (sf fun _ _ _=>by simp only [At]) ha hb (mY _)
theorem T4 (ha:a3 X F a m) (hb:a3 X F b n):fy X F (.Compare a [.Gt] [b] pos) (bz (ar rm m n)):=qk Qj (sf fun _ _ _=>by simp only [At]) ha hb (mY _)
noncomputable def oo:D→R D
 | .int i=> .ok (.int (-i))
 | _=> .bad
theorem Kv (ha:a3 X F a m):a3 X F (.UnaryOp .USub a pos) (cH oo m):=KN Uv (fun σ ρ G H x aT Q r bH k=>by
 unfold oo at k
 split at k
 · rename_i i
   simp only [At] at bH
   exact ⟨i,bH,k _ H G r (b2.refl _ _) (by simp only [At])⟩
 · exact k.elim) ha
noncomputable def d7:D→D→R D
 | .int i,.int j=> .ok (.int (i + j))
 | .str x,.str y=>if x.length + y.length≤1000000 then .ok (.str (x ++ y)) else .bad
 | .lst xs,.lst ys=>if xs.length + ys.length≤1000000 then .ok (.lst (xs ++ ys)) else .bad
 | _,_=> .bad
theorem P5:fg F (fun x y H Q=>kg (fun i j=> .int (i + j)) x y H Q∨(∃i j,x= .str i∧y= .str j∧i.length + j.length≤sizeLine∧Q (.str (i ++ j)) H)∨FO x y H Q) d7:=by
 intro σ ρ G H x y aT fB Q r bH cI k
 unfold d7 at k
 split at k
 · rename_i i j
   simp only [At] at bH cI
   exact .inl ⟨i,j,bH,cI,k _ H G r (b2.refl _ _) (by simp only [At])⟩
 · rename_i i j
   simp only [At] at bH cI
   split at k
   · rename_i hl
     exact .inr (.inl ⟨i,j,bH,cI,Nat.le_trans hl (by decide),k _ H G r (b2.refl _ _) (by simp only [At])⟩)
   · exact k.elim
 · rename_i ds ae
   simp only [At] at bH cI
   split at k
   · rename_i hl
     obtain ⟨p,xs,ah,h1,aW⟩:=bH
     obtain ⟨bM,ys,aw,h2,bG⟩:=cI
     refine .inr (.inr ⟨p,bM,xs,ys,ah,aw,r.aC.sub _ _ h1,r.aC.sub _ _ h2,by rw [←aW.length,←bG.length]; exact Nat.le_trans hl (by decide),fun l aN=>?_⟩)
     refine k (.ref l) _ _ (r.lay aN) (b2.lay r.aC.sub aN) ?_
     simp only [At]
     exact ⟨l,xs ++ ys,rfl,dv,(aW.append bG).mono (Sub.upd (r.aC.sub.gone aN))⟩
   · exact k.elim
 · exact k.elim
theorem J5 (ha:a3 X F a m) (hb:a3 X F b n):a3 X F (.BinOp a .Add b pos) (ar d7 m n):=nQ (Qf.or (Qg.or Qh)) P5 ha hb
noncomputable def dp (b:Bool) (x y:D):R D:=if okN 8 x=true∧okN 8 y=true then .ok (.au (if b then br x y else !br x y)) else .bad
noncomputable def zp (F:bf) (b:Bool):d4:=fun x y H Q=>∃G d1 cf,Sub G H∧At F.K G d1 x∧At F.K G cf y∧okN 8 d1=true∧okN 8 cf=true∧Q (.au (if b then br d1 cf else !br d1 cf)) H
theorem Fj (hK:F.K=X.K) (hu:X.A.units + 64 < cLine):c7 X (compareOp .Eq) (zp F true):=by
 intro pins s σ H x y v u Q I bh bT h
 obtain ⟨G,d1,cf,aY,a1,a2,cn,b3,q⟩:=h
 rw [hK] at a1 a2
 exact (xt I aY 8 (A:=X.A) cn b3 ⟨x,a1,bh⟩ ⟨y,a2,bT⟩ (by omega)).2.1 X.prog X.w X.xe _ ⟨.au _,H,I,rfl,q⟩
theorem Fn (hK:F.K=X.K) (hu:X.A.units + 64 < cLine):c7 X (compareOp .NotEq) (zp F false):=by
 intro pins s σ H x y v u Q I bh bT h
 obtain ⟨G,d1,cf,aY,a1,a2,cn,b3,q⟩:=h
 rw [hK] at a1 a2
 exact (xt I aY 8 (A:=X.A) cn b3 ⟨x,a1,bh⟩ ⟨y,a2,bT⟩ (by omega)).2.2 X.prog X.w X.xe _ ⟨.au _,H,I,rfl,q⟩
theorem va (b:Bool):fg F (zp F b) (dp b):=by
 intro σ ρ G H x y aT fB Q r bH cI k
 unfold dp at k
 split at k
 · rename_i ho
   exact ⟨G,aT,fB,r.aC.sub,bH,cI,ho.1,ho.2,k _ H G r (b2.refl _ _) (by simp only [At])⟩
 · exact k.elim
theorem T3 (hu:X.A.units + 64 < cLine) (ha:a3 X F a m) (hb:a3 X F b n) (hK:F.K=X.K:=by rfl):fy X F (.Compare a [.Eq] [b] pos) (bz (ar (dp true) m n)):=qk (Fj hK hu) (va true) ha hb (mY _)
theorem T7 (hu:X.A.units + 64 < cLine) (ha:a3 X F a m) (hb:a3 X F b n) (hK:F.K=X.K:=by rfl):fy X F (.Compare a [.NotEq] [b] pos) (bz (ar (dp false) m n)):=qk (Fn hK hu) (va false) ha hb (mY _)
theorem Ke (hu:X.A.units + 64 < cLine) (ha:a3 X F a m) (hb:a3 X F b n) (hK:F.K=X.K:=by rfl):a3 X F (.Compare a [.Eq] [b] pos) (ar (dp true) m n):=t5 (Fj hK hu) (va true) ha hb (mY _)
theorem Ku (hu:X.A.units + 64 < cLine) (ha:a3 X F a m) (hb:a3 X F b n) (hK:F.K=X.K:=by rfl):a3 X F (.Compare a [.NotEq] [b] pos) (ar (dp false) m n):=t5 (Fn hK hu) (va false) ha hb (mY _)
end
end aA
set_option Elab.async false
set_option linter.all false
set_option maxRecDepth 100000
namespace aA
open PySem PySem.Spec aZ
section
variable {X:aG} {F:bf} {e a b c:Expr} {ae:List Expr} {pos:Pos} {m n:ay}
theorem Cz:∀{ds nO:List D},ds.length=nO.length→(∀(i:Nat) x y,ds[i]? =some x→nO[i]? =some y→∀z,br x z=br y z)→∀ae,eh ds ae=eh nO ae
 | [],[],_,_,_=>rfl
 | [],_::_,h,_,_=>by simp at h
 | _::_,[],h,_,_=>by simp at h
 | x::xs,y::ys,h,k,[]=>by simp only [eh]
 | x::xs,y::ys,h,k,e::ae=>by
   simp only [eh]
   rw [k 0 x y rfl rfl e,Cz (by simpa using h) (fun i a b ah aw=>k (i + 1) a b (by simpa using ah) (by simpa using aw)) ae]
theorem F9 {K:PySem.W.Frag} {G:J} {d d':D} {x:V} (o:fQ d=true) (a1:At K G d x) (a2:At K G d' x):d=d':=by
 cases d with
 | non=>
   simp only [At] at a1; subst a1
   cases d' <;> simp only [At] at a2 <;> first | rfl | (cases a2; done) | (obtain ⟨a,xs,e,_⟩:=a2; cases e; done) | (obtain ⟨a,aT,xs,e,_⟩:=a2; cases e; done)
 | au b=>
   simp only [At] at a1; subst a1
   cases d' <;> simp only [At] at a2 <;> first | (cases a2; rfl) | (cases a2; done) | (obtain ⟨a,xs,e,_⟩:=a2; cases e; done) | (obtain ⟨a,aT,xs,e,_⟩:=a2; cases e; done)
 | int b=>
   simp only [At] at a1; subst a1
   cases d' <;> simp only [At] at a2 <;> first | (cases a2; rfl) | (cases a2; done) | (obtain ⟨a,xs,e,_⟩:=a2; cases e; done) | (obtain ⟨a,aT,xs,e,_⟩:=a2; cases e; done)
 | str b=>
   simp only [At] at a1; subst a1
   cases d' <;> simp only [At] at a2 <;> first | (cases a2; rfl) | (cases a2; done) | (obtain ⟨a,xs,e,_⟩:=a2; cases e; done) | (obtain ⟨a,aT,xs,e,_⟩:=a2; cases e; done)
 | _=>cases o
theorem f3.val {K:PySem.W.Frag} {G:J} {d:D} {p:Addr} {b:Bool} {ds:List D} {xs:List V} (h:f3 K G d p b ds xs) (e:D):br d e=match e with
  | .tup ae=>b && eh ds ae
  | .c1 ae=>b && eh ds ae
  | .lst ae=> !b && eh ds ae
  | .b7 ae=> !b && eh ds ae
  | _=>false:=by
 cases h <;> cases e <;> simp [br]
section
variable {pins:List (Addr×Obj)} {σ :St} {H G:J} {s:Shared}
theorem IF (I:Inv X pins σ H s) (aY:Sub G H):∀(n:Nat) {d d':D} {x:V},okN n d=true→okN n d'=true→At X.K G d x→At X.K G d' x→∀e,br d e=br d' e:=by
 intro n
 induction n with
 | zero=>
   intro d d' x cn b3 a1 a2 e
   rw [F9 (by cases d <;> first | rfl | (cases cn)) a1 a2]
 | succ n b8=>
   intro d d' x cn b3 a1 a2 e
   cases s1:fQ d with
   | true=>rw [F9 s1 a1 a2]
   | false=>
     cases s2:fQ d' with
     | true=>exact (Cx s2 s1 a1 a2).elim
     | false=>
       obtain ⟨gv,c0,e1,nj,ah,aW,m1,Cr,k1⟩:=qf cn s1 a1
       obtain ⟨bM,cN,dA,kT,aw,bG,m2,pq,k2⟩:=qf b3 s2 a2
       subst ah
       cases aw
       have:n=m1:=by omega
       subst this
       have:n=m2:=by omega
       subst this
       obtain ⟨bq,ex⟩:=aW.same I aY bG
       subst bq; subst ex
       have el:∀ae,eh e1 ae=eh dA ae:=Cz (aW.gj.length.trans bG.gj.length.symm) fun i a b av bq z=>by
        obtain ⟨v,ev,bc⟩:=aW.gj.get av
        obtain ⟨jK,ra,bv⟩:=bG.gj.get bq
        rw [ev] at ra; cases ra
        exact b8 (oY k1 av) (oY k2 bq) bc bv z
       rw [aW.val,bG.val]
       cases e <;> first | rfl | (simp only [el])
open Classical in
noncomputable def jZ (K:PySem.W.Frag) (G:J) (d:D) (u:Value):Bool:=if h:∃d',okN 7 d'=true∧kl K G d' u then br (Classical.choose h) d else false
theorem wF (I:Inv X pins σ H s) (aY:Sub G H) {d d1:D} {u:Value} (o:okN 7 d=true) (h:kl X.K G d u):jZ X.K G d1 u=br d d1:=by
 have hx:∃d',okN 7 d'=true∧kl X.K G d' u:=⟨d,o,h⟩
 unfold jZ
 rw [dif_pos hx]
 obtain ⟨bC,h'⟩:=Classical.choose_spec hx
 obtain ⟨x,a,r⟩:=h
 obtain ⟨qp,la,a4⟩:=h'
 have:qp=x:=a4.inj r
 subst this
 exact IF I aY 7 bC o la a d1
theorem wG (I:Inv X pins σ H s) (aY:Sub G H) {d1:D}:∀{ds:List D} {xs:List V} {its:List Value},aE X.K G ds xs→Vals xs its→ds.all (okN 7)=true→its.any (jZ X.K G d1)=ds.any fun y=>br y d1
 | [],_,_,q,r,_=>by simp only [aE] at q; subst q; cases r; rfl
 | d::ds,_,_,q,r,o=>by
   simp only [aE] at q
   obtain ⟨v,vL,rfl,bc,lb⟩:=q
   cases r with
   | cons ao a_=>
     rw [List.all_cons,Bool.and_eq_true] at o
     rw [List.any_cons,List.any_cons,wF I aY o.1 ⟨v,bc,ao⟩,wG I aY lb a_ o.2]
theorem uZ (I:Inv X pins σ H s) (aY:Sub G H) {d1:D} {x:V} {v:Value} {A:Around} (hu:A.units + 8 < cLine) (cn:okN 7 d1=true) (a1:At X.K G d1 x) (bh:RelV x v):∀{ds:List D} {xs:List V} {its:List Value},aE X.K G ds xs→Vals xs its→ds.all (okN 7)=true→
  ∀u∈its,SeqAt.EqAt A s u v (jZ X.K G d1 u)
 | [],_,_,q,r,_=>by simp only [aE] at q; subst q; cases r; exact fun u hu=>nomatch hu
 | d::ds,_,_,q,r,o=>by
   simp only [aE] at q
   obtain ⟨w,wr,rfl,bc,lb⟩:=q
   cases r with
   | cons ao a_=>
     rw [List.all_cons,Bool.and_eq_true] at o
     intro g8 hm
     rcases List.mem_cons.mp hm with e | hm
     · subst e
       rw [wF I aY o.1 ⟨w,bc,ao⟩]
       exact (xt I aY 7 (A:=A) o.1 cn ⟨w,bc,ao⟩ ⟨x,a1,bh⟩ (by omega)).1
     · exact uZ I aY hu cn a1 bh lb a_ o.2 g8 hm
end
noncomputable def sA:D→Option (List D)
 | .tup ys=>some ys
 | .c1 ys=>some ys
 | .lst ys=>some ys
 | .b7 ys=>some ys
 | _=>none
noncomputable def inD (b:Bool) (x y:D):R D:=match sA y with
 | some ys=>if okN 7 x=true∧ys.all (okN 7)=true then .ok (.au (if b then ys.any (fun y=>br y x) else !ys.any fun y=>br y x)) else .bad
 | none=> .bad
noncomputable def zq (F:bf) (b:Bool):d4:=fun x y H Q=>∃G d1 cf p ds xs k,Sub G H∧At F.K G d1 x∧y= .ref p∧f3 F.K G cf p k ds xs∧okN 7 d1=true∧ds.all (okN 7)=true∧Q (.au (if b then ds.any (fun y=>br y d1) else !ds.any fun y=>br y d1)) H
theorem Qk (hK:F.K=X.K) (hu:X.A.units + 64 < cLine):c7 X (compareOp .In) (zq F true):=by
 intro pins s σ H x y v u Q I bh bT h
 obtain ⟨G,d1,cf,p,ds,xs,k,aY,a1,rfl,fS,cn,b3,q⟩:=h
 rw [hK] at a1 fS
 cases bT
 obtain ⟨its,ao,t1,eQ⟩:=fS.heap I aY
 have q:Q (.au (ds.any fun y=>br y d1)) H:=q
 rw [←wG I aY fS.gj ao b3] at q
 have hm:=uZ I aY (A:=X.A.in1) (d1:=d1) (by rw [in1_units]; omega) cn a1 bh fS.gj ao b3
 cases k with
 | true=>exact SeqAt.in_tupleAt (jZ X.K G d1) (t1 rfl) (fun w hw=>hm w (by simpa using hw)) ⟨.au _,H,I,rfl,by simpa using q⟩
 | false=>exact SeqAt.in_listAt (jZ X.K G d1) (eQ rfl) (fun w hw=>hm w (by simpa using hw)) ⟨.au _,H,I,rfl,by simpa using q⟩
theorem Qn (hK:F.K=X.K) (hu:X.A.units + 64 < cLine):c7 X (compareOp .NotIn) (zq F false):=by
 intro pins s σ H x y v u Q I bh bT h
 obtain ⟨G,d1,cf,p,ds,xs,k,aY,a1,rfl,fS,cn,b3,q⟩:=h
 rw [hK] at a1 fS
 cases bT
 obtain ⟨its,ao,t1,eQ⟩:=fS.heap I aY
 have q:Q (.au (!ds.any fun y=>br y d1)) H:=q
 rw [←wG I aY fS.gj ao b3] at q
 have hm:=uZ I aY (A:=X.A.in1) (d1:=d1) (by rw [in1_units]; omega) cn a1 bh fS.gj ao b3
 cases k with
 | true=>exact SeqAt.notIn_tupleAt (jZ X.K G d1) (t1 rfl) (fun w hw=>hm w (by simpa using hw)) ⟨.au _,H,I,rfl,by simpa using q⟩
 | false=>exact SeqAt.notIn_listAt (jZ X.K G d1) (eQ rfl) (fun w hw=>hm w (by simpa using hw)) ⟨.au _,H,I,rfl,by simpa using q⟩
theorem Th {K:PySem.W.Frag} {G:J} {d:D} {x:V} {ds:List D} (e:sA d=some ds) (a:At K G d x):∃p xs k,x= .ref p∧f3 K G d p k ds xs:=by
 cases d <;> first
  | (cases e; done)
  | (cases e
     simp only [At] at a
     obtain ⟨p,xs,e,h,q⟩:=a
     first
      | exact ⟨p,xs,_,e,.tup (cu.of h) q⟩
      | exact ⟨p,xs,_,e,.c1 h q⟩
      | exact ⟨p,xs,_,e,.lst h q⟩
      | exact ⟨p,xs,_,e,.b7 h q⟩)
theorem Fg (b:Bool):fg F (zq F b) (inD b):=by
 intro σ ρ G H x y aT fB Q r bH cI k
 unfold inD at k
 cases e:sA fB with
 | none=>rw [e] at k; exact k.elim
 | some ys=>
   rw [e] at k
   dsimp only at k
   split at k
   · rename_i ho
     obtain ⟨p,xs,b0,dq,fS⟩:=Th e cI
     exact ⟨G,aT,fB,p,ys,xs,b0,r.aC.sub,bH,dq,fS,ho.1,ho.2,k _ H G r (b2.refl _ _) (by simp only [At])⟩
   · exact k.elim
theorem T9 (hu:X.A.units + 64 < cLine) (ha:a3 X F a m) (hb:a3 X F b n) (hK:F.K=X.K:=by rfl) (hm:behindInMarks .NotIn b=false:=by with_unfolding_all rfl):fy X F (.Compare a [.NotIn] [b] pos) (bz (ar (inD false) m n)):=qk (Qn hK hu) (Fg false) ha hb hm
theorem Kk (hu:X.A.units + 64 < cLine) (ha:a3 X F a m) (hb:a3 X F b n) (hK:F.K=X.K:=by rfl) (hm:behindInMarks .In b=false:=by with_unfolding_all rfl):a3 X F (.Compare a [.In] [b] pos) (ar (inD true) m n):=t5 (Qk hK hu) (Fg true) ha hb hm
noncomputable def hB:D→Bool
 | .non=>true
 | _=>false
noncomputable def ic (b:Bool):D→D→R D
 | x,.non=> .ok (.au (if b then hB x else !hB x))
 | _,_=> .bad
theorem Eg {K:PySem.W.Frag} {G:J} {d:D} {x:V} (a:At K G d x):hB d=decide (x= .non):=by
 cases d <;> simp only [At] at a <;> first
  | (subst a; simp [hB]; done)
  | (obtain ⟨p,xs,e,_⟩:=a; subst e; simp [hB]; done)
  | (obtain ⟨p,aT,xs,e,_⟩:=a; subst e; simp [hB]; done)
theorem T5 (ha:a3 X F a m) (hb:a3 X F b n):fy X F (.Compare a [.Is] [b] pos) (bz (ar (ic true) m n)):=qk Fl (fun σ ρ G H x y aT fB Q r bH cI k=>by
 unfold ic at k
 split at k
 · simp only [At] at cI
   rw [Eg bH] at k
   exact ⟨cI,k _ H G r (b2.refl _ _) (by simp only [At]; rfl)⟩
 · exact k.elim) ha hb (mY _)
theorem Km (ha:a3 X F a m) (hb:a3 X F b n):a3 X F (.Compare a [.Is] [b] pos) (ar (ic true) m n):=t5 Fl (fun σ ρ G H x y aT fB Q r bH cI k=>by
 unfold ic at k
 split at k
 · simp only [At] at cI
   rw [Eg bH] at k
   exact ⟨cI,k _ H G r (b2.refl _ _) (by simp only [At]; rfl)⟩
 · exact k.elim) ha hb (mY _)
noncomputable def ih (f g:D→D→R D) (a b c:ay):ay:=fun ρ=>(a ρ).bind fun x=>(b ρ).bind fun y=>(f x y).bind fun z=>(iw z).bind fun k=>if k=true then (c ρ).bind fun w=>g y w else .ok (.au false)
theorem Ea {r a4:d4} {f g:D→D→R D} {l:ay} (hf:fg F r f) (hg:fg F a4 g):ek (cA F (ih f g m n l)) (Au r a4 (cA F m) (cA F n) (cA F l)):=by
 rintro σ H Q ⟨G,ρ,zu,h⟩
 unfold ih at h
 refine ⟨G,ρ,zu,?_⟩
 cases av:m ρ with
 | bad=>rw [av] at h; exact h.elim
 | exc c=>rw [av] at h; exact h
 | ok aT=>
   rw [av,R.bo] at h
   intro x H1 aM ao s1 bH
   refine ⟨aM,ρ,ao,?_⟩
   cases bq:n ρ with
   | bad=>rw [bq] at h; exact h.elim
   | exc c=>rw [bq] at h; exact h
   | ok fB=>
     rw [bq,R.bo] at h
     intro y aH cb a_ s2 cI
     refine hf σ ρ cb aH x y aT fB _ a_ (bH.mono s2.g) cI ?_
     cases hn:f aT fB with
     | bad=>rw [hn] at h; exact h.elim
     | exc c=>rw [hn] at h; exact h
     | ok JY=>
       rw [hn,R.bo] at h
       intro z cw eF da s3 o2
       cases JY with
       | au k=>
         simp only [At] at o2
         refine ⟨k,o2,?_⟩
         have h:ig F G H σ ρ Q (if k=true then (l ρ).bind fun w=>g fB w else .ok (.au false)):=h
         cases k with
         | false=>
           rw [if_neg Bool.false_ne_true] at h ⊢
           exact h _ cw eF da (s1.trans (s2.trans s3)) (by simp only [At])
         | true=>
           rw [if_pos rfl] at h ⊢
           refine ⟨eF,ρ,da,?_⟩
           cases ec:l ρ with
           | bad=>rw [ec] at h; exact h.elim
           | exc c=>rw [ec] at h; exact h
           | ok JX=>
             rw [ec,R.bo] at h
             intro w fX qH ou s4 iN
             exact hg σ ρ qH fX y w fB JX Q ou ((cI.mono s3.g).mono s4.g) iN (h.mono (s1.trans (s2.trans (s3.trans s4))))
       | _=>exact h.elim
theorem Kb {op fo:CmpOp} {r a4:d4} {f g:D→D→R D} {l:ay} (ho:c7 X (compareOp op) r) (ho':c7 X (compareOp fo) a4) (hf:fg F r f) (hg:fg F a4 g) (ha:a3 X F a m) (hb:a3 X F b n) (hc:a3 X F c l) (hm:lastMarks [op,fo] [b,c]=false:=by with_unfolding_all rfl) :
  a3 X F (.Compare a [op,fo] [b,c] pos) (ih f g m n l):=aS.imp (QE ho ho' ha hb hc hm) (Ea hf hg)
theorem T1 {op fo:CmpOp} {r a4:d4} {f g:D→D→R D} {l:ay} (ho:c7 X (compareOp op) r) (ho':c7 X (compareOp fo) a4) (hf:fg F r f) (hg:fg F a4 g) (ha:a3 X F a m) (hb:a3 X F b n) (hc:a3 X F c l) (hm:lastMarks [op,fo] [b,c]=false:=by with_unfolding_all rfl) :
  fy X F (.Compare a [op,fo] [b,c] pos) (bz (ih f g m n l)):=eG.imp (Rk ho ho' ha hb hc hm) fun σ H Q h=>by
  obtain ⟨G,ρ,r,k⟩:=D8 (F:=F) (m:=ih f g m n l) σ H Q h
  exact Ea hf hg σ H _ ⟨G,ρ,r,k⟩
theorem P9:fg F (kg fun i j=> .au (decide (i < j))) n3:=sf fun _ _ _=>by simp only [At]
theorem sg:fg F (kg fun i j=> .au (decide (i≤j))) j_:=sf fun _ _ _=>by simp only [At]
end
end aA
set_option Elab.async false
set_option linter.all false
set_option maxRecDepth 100000
namespace aA
open PySem PySem.Spec aZ
section
variable {X:aG} {F:bf} {e a b c:Expr} {ae:List Expr} {pos p:Pos} {m n:ay} {ma:aK}
noncomputable def cy (f:List D→R D) (m:aK):ay:=fun ρ=>(m ρ).bind f
noncomputable def l_ (F:bf) (r:List V→J→b9→Prop) (f:List D→R D):Prop:=∀ σ ρ G H xs ds Q,Rel F G H σ ρ→aE F.K G ds xs→ig F G H σ ρ Q (f ds)→r xs H Q
theorem D_ {r:List V→J→b9→Prop} {f:List D→R D} (hf:l_ F r f):ek (cA F (cy f ma)) (sI r (ee F ma)):=by
 rintro σ H Q ⟨G,ρ,zu,h⟩
 unfold cy at h
 refine ⟨G,ρ,zu,?_⟩
 cases av:ma ρ with
 | bad=>rw [av] at h; exact h.elim
 | exc c=>rw [av] at h; exact h
 | ok ds=>
   rw [av,R.bo] at h
   intro vs H1 aM ao s1 a
   exact hf σ ρ aM H1 vs ds Q ao a (h.mono s1)
theorem Cp {x:Str} {id:String} {r:List V→J→b9→Prop} {f:List D→R D} (hc:gz X (.builtin id) r) (hf:l_ F r f) (hm:X.mg x=none) (hv:bootBuiltins x=some (.builtin id)) (ha:fV X F (e::ae) ma) (hg:cv X x:=by rfl) (aN:x≠"__name__":=by decide) (hdb:(x == ("__debug__" :Str))=false:=by decide)
  (he:starEach (e::ae) X.env=(false,eval e X.env)::starEach ae X.env:=by rfl) (hpl:(backTo pos (starEach ae X.env)).any (·.1)=false:=by rfl):a3 X F (.Call (.Name x p) (e::ae) [] pos) (cy f ma):=
 aS.imp (sj hc hg hm hv ha aN hdb he hpl) (D_ hf)
theorem xj {x:Str} {T:String} {r:List V→J→b9→Prop} {f:List D→R D} (hc:gz X (.type T) r) (hf:l_ F r f) (hm:X.mg x=none) (hv:bootBuiltins x=some (.type T)) (ha:fV X F (e::ae) ma) (hg:cv X x:=by rfl) (aN:x≠"__name__":=by decide) (hdb:(x == ("__debug__" :Str))=false:=by decide)
  (he:starEach (e::ae) X.env=(false,eval e X.env)::starEach ae X.env:=by rfl) (hpl:(backTo pos (starEach ae X.env)).any (·.1)=false:=by rfl):a3 X F (.Call (.Name x p) (e::ae) [] pos) (cy f ma):=
 aS.imp (zd hc hg hm hv ha aN hdb he hpl) (D_ hf)
noncomputable def c5:List D→R D
 | [.str x]=>if x.length≤1000000 then .ok (.int x.length) else .bad
 | [.lst xs]=> .ok (.int xs.length)
 | [.b7 xs]=> .ok (.int xs.length)
 | [.tup xs]=> .ok (.int xs.length)
 | [.c1 xs]=> .ok (.int xs.length)
 | _=> .bad
theorem aE.one {K:PySem.W.Frag} {G:J} {d:D} {vs:List V} (a:aE K G [d] vs):∃v,vs=[v]∧At K G d v:=by
 simp only [aE] at a
 obtain ⟨v,r,rfl,h,rfl⟩:=a
 exact ⟨v,rfl,h⟩
theorem aE.two {K:PySem.W.Frag} {G:J} {d e:D} {vs:List V} (a:aE K G [d,e] vs):∃v w,vs=[v,w]∧At K G d v∧At K G e w:=by
 simp only [aE] at a
 obtain ⟨v,r,rfl,h,w,a4,rfl,h',rfl⟩:=a
 exact ⟨v,w,rfl,h,h'⟩
theorem P8 (hK:F.K=X.K):l_ F (fun xs H Q=>∃x n,xs=[x]∧Bi X.K x H n∧Q (.int n) H) c5:=by
 intro σ ρ G H xs ds Q r al k
 unfold c5 at k
 split at k
 · rename_i x
   obtain ⟨v,rfl,bc⟩:=al.one
   simp only [At] at bc; subst bc
   split at k
   · rename_i hl
     exact ⟨_,x.length,rfl,⟨Nat.le_trans hl (by decide),rfl⟩,k _ H G r (b2.refl _ _) (by simp only [At])⟩
   · exact k.elim
 · rename_i ys
   obtain ⟨v,rfl,bc⟩:=al.one
   simp only [At] at bc
   obtain ⟨q,xs,rfl,h,al⟩:=bc
   rw [al.length] at k
   exact ⟨_,xs.length,rfl,.inl ⟨xs,bI.of (r.aC.sub _ _ h),rfl⟩,k _ H G r (b2.refl _ _) (by simp only [At])⟩
 · rename_i ys
   obtain ⟨v,rfl,bc⟩:=al.one
   simp only [At] at bc
   obtain ⟨q,xs,rfl,h,al⟩:=bc
   rw [al.length] at k
   rw [hK] at h
   exact ⟨_,xs.length,rfl,.inl ⟨xs,bI.mono r.aC.sub h,rfl⟩,k _ H G r (b2.refl _ _) (by simp only [At])⟩
 · rename_i ys
   obtain ⟨v,rfl,bc⟩:=al.one
   simp only [At] at bc
   obtain ⟨q,xs,rfl,h,al⟩:=bc
   rw [al.length] at k
   exact ⟨_,xs.length,rfl,.inr ⟨xs,cu.of (r.aC.sub _ _ h),rfl⟩,k _ H G r (b2.refl _ _) (by simp only [At])⟩
 · rename_i ys
   obtain ⟨v,rfl,bc⟩:=al.one
   simp only [At] at bc
   obtain ⟨q,xs,rfl,h,al⟩:=bc
   rw [al.length] at k
   rw [hK] at h
   exact ⟨_,xs.length,rfl,.inr ⟨xs,cu.mono r.aC.sub h,rfl⟩,k _ H G r (b2.refl _ _) (by simp only [At])⟩
 · exact k.elim
theorem Kp (hm:X.mg "len"=none) (ha:fV X F [e] ma) (hK:F.K=X.K:=by rfl) (hg:cv X "len":=by rfl) (he:starEach [e] X.env=(false,eval e X.env)::starEach [] X.env:=by rfl) (hpl:(backTo pos (starEach [] X.env)).any (·.1)=false:=by rfl) :
  a3 X F (.Call (.Name "len" p) [e] [] pos) (cy c5 ma):=Cp Jg (P8 hK) hm PySem.boot_len ha hg (by decide) (by decide) he hpl
noncomputable def sU:D→Option String
 | .non=>some "NoneType"
 | .au _=>some "bool"
 | .int _=>some "int"
 | .str _=>some "str"
 | .lst _=>some "list"
 | .b7 _=>some "list"
 | .tup _=>some "tuple"
 | .c1 _=>some "tuple"
 | .cL _ _=>some "dict"
 | .bx _ _=>some "dict"
 | _=>none
noncomputable def Ap (T U:String):Bool:=T == U || (T == "bool" && U == "int")
noncomputable def fM (U:String) (d:D):R D:=match sU d with
 | some T=> .ok (.au (Ap T U))
 | none=> .bad
noncomputable def mn (K:PySem.W.Frag) (U:String):Prop:=∀T,T="NoneType"∨T="bool"∨T="int"∨T="str"∨T="list"∨T="tuple"∨T="dict"→PySem.W.kitOne K (.type T) (.type U)=some (Ap T U)
theorem Ui (K:PySem.W.Frag):mn K "int":=fun T h=>by rcases h with rfl | rfl | rfl | rfl | rfl | rfl | rfl <;> kernel_rfl
theorem Uh (K:PySem.W.Frag):mn K "bool":=fun T h=>by rcases h with rfl | rfl | rfl | rfl | rfl | rfl | rfl <;> kernel_rfl
theorem Uj (K:PySem.W.Frag):mn K "str":=fun T h=>by rcases h with rfl | rfl | rfl | rfl | rfl | rfl | rfl <;> kernel_rfl
theorem vF (K:PySem.W.Frag):mn K "list":=fun T h=>by rcases h with rfl | rfl | rfl | rfl | rfl | rfl | rfl <;> kernel_rfl
theorem AG (K:PySem.W.Frag):mn K "tuple":=fun T h=>by rcases h with rfl | rfl | rfl | rfl | rfl | rfl | rfl <;> kernel_rfl
theorem Ny {pins:List (Addr×Obj)} {σ :St} {H G:J} {s:Shared} {Q:Value→Shared→Prop} {E:Value→Shared→Prop} {d:D} {x:V} {u:Value} {T U:String} {k:Bool} (I:Inv X pins σ H s) (aY:Sub G H) (at':At X.K G d x) (bh:RelV x u) (e:sU d=some T)
  (tt:PySem.W.kitOne X.K (.type T) (.type U)=some k) (h:∀cR,Q (.bool k) { s with toks:=cR }):wpAny (model X.prog X.w) X.A (call (.builtin "isinstance") [u,.type U]) Q E s:=by
 cases d with
 | non=>
   cases e; simp only [At] at at'; subst at'; cases bh
   exact PySem.W.kia_one PySem.W.kitx_none I.eP True.intro tt (fun z=>nomatch z) h
 | au b=>
   cases e; simp only [At] at at'; subst at'; cases bh
   exact PySem.W.kia_one PySem.W.kitx_bool I.eP True.intro tt (fun z=>nomatch z) h
 | int b=>
   cases e; simp only [At] at at'; subst at'; obtain ⟨t,rfl⟩:=bh
   exact PySem.W.kia_one PySem.W.kitx_int I.eP True.intro tt (fun z=>nomatch z) h
 | str b=>
   cases e; simp only [At] at at'; subst at'; obtain ⟨t,rfl⟩:=bh
   exact PySem.W.kia_one PySem.W.kitx_str I.eP True.intro tt (fun z=>nomatch z) h
 | lst ds=>
   cases e; simp only [At] at at'
   obtain ⟨q,xs,rfl,aD,_⟩:=at'
   cases bh
   obtain ⟨its,_,⟨o,n,ah,aw,_⟩,_⟩:=I.list (bI.of (aY _ _ aD))
   exact PySem.W.kia_one PySem.W.kitx_list I.eP ⟨o,ah,aw⟩ tt (fun z=>nomatch z) h
 | b7 ds=>
   cases e; simp only [At] at at'
   obtain ⟨q,xs,rfl,aD,_⟩:=at'
   cases bh
   obtain ⟨its,_,⟨o,n,ah,aw,_⟩,_⟩:=I.list (bI.mono aY aD)
   exact PySem.W.kia_one PySem.W.kitx_list I.eP ⟨o,ah,aw⟩ tt (fun z=>nomatch z) h
 | tup ds=>
   cases e; simp only [At] at at'
   obtain ⟨q,xs,rfl,aD,_⟩:=at'
   cases bh
   obtain ⟨its,_,⟨o,ah,aw,_⟩,_⟩:=I.tuple (cu.of (aY _ _ aD))
   exact PySem.W.kia_one PySem.W.kitx_tuple I.eP ⟨o,ah,aw⟩ tt (fun z=>nomatch z) h
 | c1 ds=>
   cases e; simp only [At] at at'
   obtain ⟨q,xs,rfl,aD,_⟩:=at'
   cases bh
   obtain ⟨its,_,⟨o,ah,aw,_⟩,_⟩:=I.tuple (cu.mono aY aD)
   exact PySem.W.kia_one PySem.W.kitx_tuple I.eP ⟨o,ah,aw⟩ tt (fun z=>nomatch z) h
 | cL ks ds=>
   cases e; simp only [At] at at'
   obtain ⟨q,xs,rfl,aD,_⟩:=at'
   cases bh
   obtain ⟨_,_,vs,_,o,ae,dB,h1,h2,_⟩:=(show en X.prog X.w H s.heap q (.cL xs) from I.bk q _ (aY _ _ aD))
   exact PySem.W.kia_one PySem.W.kitx_dict I.eP ⟨o,h1,h2.1⟩ tt (fun z=>nomatch z) h
 | bx ks ds=>
   cases e; simp only [At] at at'
   obtain ⟨q,xs,rfl,aD,_⟩:=at'
   cases bh
   obtain ⟨_,_,zs,_,o,ae,dB,h1,h2,_⟩:=(show en X.prog X.w H s.heap q (.bx xs) from I.bk q _ (aY _ _ aD))
   exact PySem.W.kia_one PySem.W.kitx_dict I.eP ⟨o,h1,h2.1⟩ tt (fun z=>nomatch z) h
 | ins C ns ds=>cases e
 | gn C=>cases e
theorem Us {d:D} {T:String} (e:sU d=some T):T="NoneType"∨T="bool"∨T="int"∨T="str"∨T="list"∨T="tuple"∨T="dict":=by
 cases d <;> cases e <;> simp
noncomputable def RF (F:bf) (U:String):List V→J→b9→Prop:=fun xs H Q=>∃G d x T,Sub G H∧xs=[x,.ty U]∧At F.K G d x∧sU d=some T∧Q (.au (Ap T U)) H
theorem Jf {U:String} (hK:F.K=X.K) (tt:mn X.K U):gz X (.builtin "isinstance") (RF F U):=by
 intro pins s σ H xs us Q I r h
 obtain ⟨G,d,x,T,aY,rfl,a,e,q⟩:=h
 obtain ⟨u,fF,rfl,bh,ed⟩:=vals2 r
 obtain rfl:fF=Value.type U:=ed
 rw [hK] at a
 exact Ny I aY a bh e (tt T (Us e)) fun cR=>⟨.au _,H,I.tok cR,rfl,q⟩
theorem Kn {U:Str} {T:String} {bM:Pos} (tt:mn X.K T) (hm:X.mg "isinstance"=none) (hmU:X.mg U=none) (hU:bootBuiltins U=some (.type T)) (ha:a3 X F a m) (hK:F.K=X.K:=by rfl) (hg:cv X "isinstance":=by rfl) (hgU:cv X U:=by rfl)
  (hnU:U≠"__name__":=by decide) (hdU:(U == ("__debug__" :Str))=false:=by decide)
  (hs2:starEach [.Name U bM] X.env=(false,eval (.Name U bM) X.env)::starEach [] X.env:=by rfl)
  (he:starEach [a,.Name U bM] X.env=(false,eval a X.env)::starEach [.Name U bM] X.env:=by rfl) (hpl:(backTo pos (starEach [.Name U bM] X.env)).any (·.1)=false:=by rfl) :
  a3 X F (.Call (.Name "isinstance" p) [a,.Name U bM] [] pos) (cH (fM T) m):=by
 have hb:bootBuiltins "isinstance"=some (.builtin "isinstance"):=by kernel_rfl
 refine aS.imp (sj (Jf hK tt) hg hm hb (i7 ha (i7 (Fx hgU hmU hU (v:= .ty T) rfl hnU hdU) lN hs2) he) (by decide) (by decide) he hpl) ?_
 rintro σ H Q ⟨G,ρ,r,h⟩
 unfold cH at h
 refine ⟨G,ρ,r,?_⟩
 cases av:m ρ with
 | bad=>rw [av] at h; exact h.elim
 | exc c=>rw [av] at h; exact h
 | ok d=>
   rw [av,R.bo] at h
   intro x H1 aM ao s1 bH
   unfold fM at h
   cases e:sU d with
   | none=>rw [e] at h; exact h.elim
   | some Ij=>
     rw [e] at h
     exact ⟨aM,d,x,Ij,ao.aC.sub,rfl,bH,e,h _ H1 aM ao s1 (by simp only [At])⟩
noncomputable def aR:D→D→R D
 | .lst xs,.int i=>match eZ xs i with | some d=> .ok d | none=> .bad
 | .b7 xs,.int i=>match eZ xs i with | some d=> .ok d | none=> .bad
 | .tup xs,.int i=>match eZ xs i with | some d=> .ok d | none=> .bad
 | .c1 xs,.int i=>match eZ xs i with | some d=> .ok d | none=> .bad
 | .str x,.int i=>if x.length≤1000000 then match eZ x.cps.toList i with | some c=> .ok (.str ⟨#[c]⟩) | none=> .bad else .bad
 | _,_=> .bad
theorem tK {K:PySem.W.Frag} {G:J} {ds:List D} {xs:List V} {i:Int} {d:D} (q:aE K G ds xs) (e:eZ ds i=some d):∃v,eZ xs i=some v∧At K G d v:=by
 unfold eZ at e ⊢
 rw [q.length] at e
 cases ji:fN xs.length i with
 | none=>rw [ji] at e; cases e
 | some j=>
   rw [ji] at e
   obtain ⟨v,ah,a⟩:=q.get e
   exact ⟨v,ah,a⟩
theorem P7 (hK:F.K=X.K):fg F (FQ X.K) aR:=by
 intro σ ρ G H x y aT fB Q r bH cI k
 unfold aR at k
 split at k
 · rename_i ds i
   simp only [At] at bH cI
   obtain ⟨p,xs,e,h,q⟩:=bH
   split at k
   · rename_i d d8
     obtain ⟨v,ev,bc⟩:=tK q d8
     exact .inl ⟨p,xs,i,v,e,cI,bI.of (r.aC.sub _ _ h),ev,k _ H G r (b2.refl _ _) bc⟩
   · exact k.elim
 · rename_i ds i
   simp only [At] at bH cI
   obtain ⟨p,xs,e,h,q⟩:=bH
   split at k
   · rename_i d d8
     obtain ⟨v,ev,bc⟩:=tK q d8
     have h':=h
     rw [hK] at h'
     exact .inl ⟨p,xs,i,v,e,cI,bI.mono r.aC.sub h',ev,k _ H G r (b2.refl _ _) bc⟩
   · exact k.elim
 · rename_i ds i
   simp only [At] at bH cI
   obtain ⟨p,xs,e,h,q⟩:=bH
   split at k
   · rename_i d d8
     obtain ⟨v,ev,bc⟩:=tK q d8
     exact .inr (.inl ⟨p,xs,i,v,e,cI,cu.of (r.aC.sub _ _ h),ev,k _ H G r (b2.refl _ _) bc⟩)
   · exact k.elim
 · rename_i ds i
   simp only [At] at bH cI
   obtain ⟨p,xs,e,h,q⟩:=bH
   split at k
   · rename_i d d8
     obtain ⟨v,ev,bc⟩:=tK q d8
     have h':=h
     rw [hK] at h'
     exact .inr (.inl ⟨p,xs,i,v,e,cI,cu.mono r.aC.sub h',ev,k _ H G r (b2.refl _ _) bc⟩)
   · exact k.elim
 · rename_i z i
   simp only [At] at bH cI
   split at k
   · rename_i hl
     split at k
     · rename_i c ec
       exact .inr (.inr ⟨z,i,c,bH,cI,Nat.le_trans hl (by decide),ec,k _ H G r (b2.refl _ _) (by simp only [At])⟩)
     · exact k.elim
   · exact k.elim
 · exact k.elim
theorem Ko (ha:a3 X F a m) (hb:a3 X F b n) (hs:oQ b) (hK:F.K=X.K:=by rfl):a3 X F (.Subscript a b pos) (ar aR m n):=aS.imp (ze yv ha hb hs) (uC (P7 hK))
end
end aA
set_option Elab.async false
set_option linter.all false
set_option maxRecDepth 100000
namespace aA
open PySem PySem.Spec aZ
section
variable {X:aG} {F:bf} {e a b c:Expr} {ae:List Expr} {pos p:Pos} {m n:ay} {ma:aK}
noncomputable def fk {α:Type} (xs:List α) (lo hi:Option Int):List α:=(xs.drop (d3.es xs.length 0 lo)).take (d3.es xs.length xs.length hi - d3.es xs.length 0 lo)
noncomputable def nL (x:Str) (lo hi:Option Int):Str:=⟨(fk x.cps.toList lo hi).toArray⟩
theorem Tv (lo hi:Option Int) (n:Nat):Builtin.Str.strSliceIndices lo hi 1 n=(List.range (d3.es n n hi - d3.es n 0 lo)).map (d3.es n 0 lo + ·):=by
 rw [←sliceRange_one]
 unfold Builtin.Str.strSliceIndices
 simp only [show (1:Int) > 0 by decide,if_true]
 congr 1
 · cases lo with
   | none=>rfl
   | some i=>
     show max 0 (min (if i < 0 then i + (n:Int) else i) (n:Int))=((if i < 0 then (i + (n:Int)).toNat else min i.toNat n:Nat):Int)
     split <;> omega
 · cases hi with
   | none=>rfl
   | some i=>
     show max 0 (min (if i < 0 then i + (n:Int) else i) (n:Int))=((if i < 0 then (i + (n:Int)).toNat else min i.toNat n:Nat):Int)
     split <;> omega
theorem F3 (n:Nat) (v:Option Int) {d:Nat} (hd:d≤n):d3.es n d v≤n:=by
 cases v with
 | none=>exact hd
 | some i=>
   show (if i < 0 then (i + (n:Int)).toNat else min i.toNat n)≤n
   split <;> omega
theorem Td (x:Str) (lo hi:Option Int):Txt.slice x lo hi=nL x lo hi:=by
 have hl:x.cps.toList.length=x.length:=by simp [Str.length]
 unfold Txt.slice nL fk
 rw [Tv,hl]
 split
 · rename_i h
   have h:d3.es x.length x.length hi - d3.es x.length 0 lo=x.length:=by simpa using h
   have h1:=F3 x.length hi (Nat.le_refl _)
   have h2:d3.es x.length 0 lo=0∨x.length=0:=by omega
   have e:(x.cps.toList.drop (d3.es x.length 0 lo)).take (d3.es x.length x.length hi - d3.es x.length 0 lo)=x.cps.toList:=by
    rw [h]
    rcases h2 with z | z
    · rw [z,List.drop_zero,List.take_of_length_le (by omega)]
    · have ct:x.cps.toList=[]:=List.length_eq_zero_iff.mp (by omega)
      rw [ct]; simp
   rw [e]
 · rw [pick_run]
noncomputable def FX:V→Option Int→Option Int→J→b9→Prop:=fun x lo hi H Q=>∃z,x= .str z∧z.length≤sizeLine∧Q (.str (nL z lo hi)) H
theorem Fu {v:Value} {o:Option Int} (h:IsPart v o):∃l:Option (Int×Tok),v=partValue l∧l.map (·.1)=o:=by
 cases h with
 | none=>exact ⟨none,rfl,rfl⟩
 | int i t=>exact ⟨some (i,t),rfl,rfl⟩
theorem Ta:nE X FX:=by
 intro pins s σ H x v jL jM lo hi cc Q I bh hs pl pu h
 obtain ⟨z,rfl,a5,q⟩:=h
 obtain ⟨t,rfl⟩:=bh
 obtain ⟨l,rfl,el⟩:=Fu pl
 obtain ⟨u,rfl,jj⟩:=Fu pu
 refine ⟨"str",_,F.slot_str_getitem.lookup,typeIs_str s z t,wpAny_getItem_str_slice (l:=l) (u:=u) (st:=none) ?_ rfl ?_⟩
 · obtain ⟨o,h1,h2,h3⟩:=hs
   exact ⟨o,h1,h2,h3⟩
 · have e:Txt.slice z lo hi=nL z lo hi:=Td z lo hi
   have fin:∀t' k,ff X pins σ Q (.str (Txt.slice z lo hi) t') { s with toks:=k }:=fun t' k=>⟨.str (nL z lo hi),H,I.tok k,⟨t',by rw [e]⟩,q⟩
   unfold Txt.slice at fin
   subst el jj
   exact post_val_or_str ⟨Nat.le_trans (Txt.slice_le z _ _) a5,fin⟩
noncomputable abbrev kq:=ai→R (Option Int)
noncomputable def uR:kq:=fun _=> .ok none
noncomputable def intD:D→R (Option Int)
 | .int i=> .ok (some i)
 | _=> .bad
noncomputable def n_ (m:ay):kq:=fun ρ=>(m ρ).bind intD
noncomputable def NW (F:bf) (G H:J) (σ :St) (ρ:ai) (Q:Option Int→J→Prop):R (Option Int)→Prop
 | .ok o=>∀H' G',Rel F G' H' σ ρ→b2 G H G' H'→Q o H'
 | .exc c=>jw F c
 | .bad=>False
noncomputable def vB (F:bf) (m:kq):bO:=fun σ H Q=>∃G ρ,Rel F G H σ ρ∧NW F G H σ ρ Q (m ρ)
noncomputable abbrev tD (X:aG) (F:bf) (e:Option Expr) (m:kq):Prop:=oP X e (vB F m)
theorem Qw:tD X F none uR:=fun pins s σ H Q I h=>by
 obtain ⟨G,ρ,r,k⟩:=h
 exact Q9 pins s σ H Q I (k H G r (b2.refl _ _))
theorem Qx (h:a3 X F e m):tD X F (some e) (n_ m):=fun pins s σ H Q I hw=>by
 obtain ⟨G,ρ,r,k⟩:=hw
 refine Q_ h pins s σ H Q I ⟨G,ρ,r,?_⟩
 unfold n_ at k
 cases av:m ρ with
 | bad=>rw [av] at k; exact k.elim
 | exc c=>rw [av] at k; exact k
 | ok d=>
   rw [av,R.bo] at k
   intro x H1 aM ao s1 bH
   cases d with
   | int i=>simp only [At] at bH; exact ⟨i,bH,k H1 aM ao s1⟩
   | _=>exact k.elim
noncomputable def ob (f:D→Option Int→Option Int→R D) (m:ay) (lo hi:kq):ay:=fun ρ=>(m ρ).bind fun d=>(lo ρ).bind fun l=>(hi ρ).bind fun h=>f d l h
noncomputable def oy (d:D) (l h:Option Int):R D:=match d with
 | .lst xs=> .ok (.lst (fk xs l h))
 | .b7 xs=> .ok (.lst (fk xs l h))
 | .str x=>if x.length≤1000000 then .ok (.str (nL x l h)) else .bad
 | _=> .bad
theorem aE.cut {K:PySem.W.Frag} {G:J} {ds:List D} {xs:List V} (q:aE K G ds xs) (l h:Option Int):aE K G (fk ds l h) (pk xs l h):=by
 unfold fk pk
 rw [q.length]
 exact (q.drop _).take _
theorem M7 (hK:F.K=X.K) {lo hi:kq}:ek (cA F (ob oy m lo hi)) (GN (fun x lo hi H Q=>FW X.K x lo hi H Q∨FX x lo hi H Q) (cA F m) (vB F lo) (vB F hi)):=by
 rintro σ H Q ⟨G,ρ,r,h⟩
 unfold ob at h
 refine ⟨G,ρ,r,?_⟩
 cases av:m ρ with
 | bad=>rw [av] at h; exact h.elim
 | exc c=>rw [av] at h; exact h
 | ok d=>
   rw [av,R.bo] at h
   intro x H1 aM ao s1 bH
   refine ⟨aM,ρ,ao,?_⟩
   cases el:lo ρ with
   | bad=>rw [el] at h; exact h.elim
   | exc c=>rw [el] at h; exact h
   | ok l=>
     rw [el,R.bo] at h
     intro aH cb a_ s2
     refine ⟨cb,ρ,a_,?_⟩
     cases xm:hi ρ with
     | bad=>rw [xm] at h; exact h.elim
     | exc c=>rw [xm] at h; exact h
     | ok u=>
       rw [xm,R.bo] at h
       intro cw eF da s3
       have up:=s1.trans (s2.trans s3)
       have o1:=(bH.mono s2.g).mono s3.g
       cases d with
       | lst ds=>
         simp only [At] at o1
         obtain ⟨q,xs,rfl,aD,al⟩:=o1
         refine .inl ⟨q,xs,rfl,bI.of (da.aC.sub _ _ aD),fun ck aN=>?_⟩
         refine h (.ref ck) _ _ (da.lay aN) (up.trans (b2.lay da.aC.sub aN)) ?_
         simp only [At]
         exact ⟨ck,_,rfl,dv,(al.cut l u).mono (Sub.upd (da.aC.sub.gone aN))⟩
       | b7 ds=>
         simp only [At] at o1
         obtain ⟨q,xs,rfl,aD,al⟩:=o1
         have j5:=aD
         rw [hK] at j5
         refine .inl ⟨q,xs,rfl,bI.mono da.aC.sub j5,fun ck aN=>?_⟩
         refine h (.ref ck) _ _ (da.lay aN) (up.trans (b2.lay da.aC.sub aN)) ?_
         simp only [At]
         exact ⟨ck,_,rfl,dv,(al.cut l u).mono (Sub.upd (da.aC.sub.gone aN))⟩
       | str z=>
         simp only [At] at o1
         have h:ig F G H σ ρ Q (if z.length≤1000000 then .ok (.str (nL z l u)) else .bad):=h
         split at h
         · rename_i a5
           exact .inr ⟨z,o1,Nat.le_trans a5 (by decide),h _ cw eF da up (by simp only [At])⟩
         · exact h.elim
       | _=>exact h.elim
theorem KC {lo hi:Option Expr} {bM:Pos} {r8 r5:kq} (ha:a3 X F a m) (hl:tD X F lo r8) (hh:tD X F hi r5) (hK:F.K=X.K:=by rfl):a3 X F (.Subscript a (.Slice lo hi none bM) pos) (ob oy m r8 r5):=aS.imp (QV (S_.or Ta) ha hl hh) (M7 hK)
noncomputable def oz:List D→R D
 | [.int i]=>if i.natAbs.log2 < 1920 then .ok (.str (toString i)) else .bad
 | _=> .bad
theorem Qa:l_ F (fun xs H Q=>∃i,xs=[.int i]∧i.natAbs.log2 < 1920∧Q (.str (toString i)) H) oz:=by
 intro σ ρ G H xs ds Q r al k
 unfold oz at k
 split at k
 · rename_i i
   split at k
   · rename_i hl
     exact ⟨i,al.ints1,hl,k _ H G r (b2.refl _ _) (by simp only [At])⟩
   · exact k.elim
 · exact k.elim
theorem KG (hm:X.mg "str"=none) (ha:fV X F [e] ma) (hg:cv X "str":=by rfl) (he:starEach [e] X.env=(false,eval e X.env)::starEach [] X.env:=by rfl) (hpl:(backTo pos (starEach [] X.env)).any (·.1)=false:=by rfl) :
  a3 X F (.Call (.Name "str" p) [e] [] pos) (cy oz ma):=xj Ji Qa hm (by kernel_rfl) ha hg (by decide) (by decide) he hpl
theorem Je:gz X (.type "int") (fun xs H Q=>(∃i,xs=[.int i]∧Q (.int i) H)∨∃x i,xs=[.str x]∧x.length≤640∧intText? x=some i∧Q (.int i) H):=by
 intro pins s σ H xs us Q I r h
 rcases h with ⟨i,rfl,q⟩ | ⟨x,i,rfl,hl,hi,q⟩
 · obtain ⟨u,rfl,t,rfl⟩:=vals1 r
   exact call_int_int ⟨.int i,H,I,⟨_,rfl⟩,q⟩
 · obtain ⟨u,rfl,t,rfl⟩:=vals1 r
   exact PySem.W.KIN.call_text hi hl ⟨.int i,H,I.tok _,⟨_,rfl⟩,q⟩
end
end aA
set_option Elab.async false
set_option linter.all false
set_option maxRecDepth 100000
namespace aZ
open PySem PySem.Spec
section
variable {prog:Program} {w:World} {A:Around} {E:Value→Shared→Prop} {s:Shared}
theorem PF {it t:Addr} {i:Nat} {items:Array Value} {x:Value} {Q:Value→Shared→Prop} (hit:s.heap.IsTupleIter it t i) (ht:s.heap.IsTuple t items) (hx:items[i]? =some x)
  (fC:∀h',h'.IsTupleIter it t (i + 1)→Heap.SameBut it s.heap h'→Q x { s with heap:=h' }):wpAny (model prog w) A (Builtin.SmallTypes.nextOf (.ref it)) Q E s:=by
 obtain ⟨o,ho,hc,hd⟩:=id hit
 obtain ⟨ol,ya,_,nl,uq⟩:=ht
 unfold Builtin.SmallTypes.nextOf
 refine wpAny_bind (wpAny_callSpecial?_slot (name:=Str.ofString "__next__") hit.typeIs F.slot_tuple_iterator_next
  (wpAny_call_entry F.slot_tuple_iterator_next hit.typeIs F.entry_tuple_iterator_next ?_ (F.args_tuple_iterator_next_1 _)))
 show wpAny _ _ (field (.ref it) 0 >>= _) _ _ s
 refine wpAny_bind (wpAny_field ho hd (x:= .ref t) rfl ?_)
 show wpAny _ _ (if (Value.ref t == Value.none)=true then _ else _) _ _ s
 rw [if_neg (show ¬ ((Value.ref t == Value.none)=true) from Bool.false_ne_true)]
 show wpAny _ _ (field (.ref it) 1 >>= _) _ _ s
 refine wpAny_bind (wpAny_field ho hd (x:= .int i 0) rfl ?_)
 show wpAny _ _ (seqItems? (.ref t) >>= _) _ _ s
 refine wpAny_bind (wpAny_seqItems ya uq ?_)
 simp only [Int.toNat_natCast,hx]
 refine wpAny_bind (wpAny_setField ho hd (by simp) (wpAny_pure ⟨x,rfl,wpAny_pure (fC _ ?_ (Heap.SameBut.update ..))⟩))
 exact ⟨_,Heap.get?_update_self _ ho (Obj.isFreed_of_fields (Obj.data_mapFields hd _)),(Obj.cls_mapFields ..).trans hc,by
  rw [Obj.data_mapFields hd]; simp [rawInt]⟩
theorem PE {it t:Addr} {i:Nat} {items:Array Value} {Q:Value→Shared→Prop} (hh:A.handled=none) (hit:s.heap.IsTupleIter it t i) (ht:s.heap.IsTuple t items) (hx:items[i]? =none)
  (hE:∀h' e,Heap.ExtBut it s.heap h'→(∃o,h'.get? e=some o∧o.cls= .type "StopIteration")→E (.ref e) { s with heap:=h' }):wpAny (model prog w) A (Builtin.SmallTypes.nextOf (.ref it)) Q E s:=by
 obtain ⟨o,ho,hc,hd⟩:=id hit
 obtain ⟨ol,ya,_,nl,uq⟩:=ht
 unfold Builtin.SmallTypes.nextOf
 refine wpAny_bind (wpAny_callSpecial?_slot (name:=Str.ofString "__next__") hit.typeIs F.slot_tuple_iterator_next
  (wpAny_call_entry F.slot_tuple_iterator_next hit.typeIs F.entry_tuple_iterator_next ?_ (F.args_tuple_iterator_next_1 _)))
 show wpAny _ _ (field (.ref it) 0 >>= _) _ _ s
 refine wpAny_bind (wpAny_field ho hd (x:= .ref t) rfl ?_)
 show wpAny _ _ (if (Value.ref t == Value.none)=true then _ else _) _ _ s
 rw [if_neg (show ¬ ((Value.ref t == Value.none)=true) from Bool.false_ne_true)]
 show wpAny _ _ (field (.ref it) 1 >>= _) _ _ s
 refine wpAny_bind (wpAny_field ho hd (x:= .int i 0) rfl ?_)
 show wpAny _ _ (seqItems? (.ref t) >>= _) _ _ s
 refine wpAny_bind (wpAny_seqItems ya uq ?_)
 simp only [Int.toNat_natCast,hx]
 refine wpAny_bind (wpAny_rule (wpAny_bind (wpAny_setField ho hd (by simp) ?_)))
 show wpAny _ _ (newExc (.type "StopIteration") [] >>= _) _ _ _
 refine wpAny_bind ?_
 simp only [newExc,newTuple]
 refine wpAny_bind (wpAny_newObj_type ?_ (by size_fits))
 refine wpAny_bind (m:=firstArgMember _ _) (wpAny_of_eq (a:=Value.none) (by first | rfl | (simp only [firstArgMember]; rfl)) ?_)
 refine wpAny_newObj_type ?_ (by size_fits)
 simp only [raiseNew]
 refine wpAny_bind (wpAny_handled ?_)
 first | rw [show A.in1.handled=none from hh] | rw [hh]
 refine wpAny_bind (wpAny_pure (wpAny_throw ?_))
 exact hE _ _ (((Heap.SameBut.update ..).extBut.push _).push _) ⟨_,Heap.get?_push_size _ rfl,rfl⟩
theorem Cm (hh:A.handled=none) (it l:Addr) (x8:l≠it) (items:Array Value) :
  Draws prog w A it [it,l] items.size (fun i v=>items[i]? =some v) (fun i h=>h.IsTupleIter it l i∧h.IsTuple l items) where
 live:=fun _ _ st=>let ⟨o,ho,_⟩:=st.1; ⟨o,ho⟩
 frame:=fun _ _ _ st hk=>⟨st.1.at fun o e=>hk it (by simp) o e,st.2.at fun o e=>hk l (by simp) o e⟩
 item:=fun i s Q E hi st fC=>by
  refine PF st.1 st.2 (x:=items[i]) (by simp [hi]) fun h' LP mK=>?_
  exact fC _ h' s.toks (by simp [hi]) ⟨LP,st.2.extBut mK.extBut x8⟩ mK
 done:=fun s Q E st hE=>PE hh st.1 st.2 (by simp) hE
structure oV (z TI bO bL bB:Addr) (f1 f2:List Addr):Prop where
 TIz:TI≠z
 TOz:bO≠z
 TITO:TI≠bO
 TIi1:TI≠bL
 TIi2:TI≠bB
 TOi1:bO≠bL
 TOi2:bO≠bB
 i1z:bL≠z
 i2z:bB≠z
 i12:bL≠bB
 xy:z∉f1
 CC:bO∉f1
 K6:bB∉f1
 xB:z∉f2
 xA:bO∉f2
 CD:bL∉f2
theorem jm {aL:List Addr} {n:Nat} {P:Nat→Value→Prop} {St:Nat→Heap→Prop} {it b:Addr} {h h':Heap} {i:Nat} (D:Draws prog w A it aL n P St) (st:St i h) (hs:Heap.SameBut b h h') (hb:b∉aL):St i h':=
 D.frame i h h' st fun c hc o e=>hs.extBut c o (fun z=>hb (z ▸ hc)) e
theorem VX {z TI bO bL bB:Addr} {f1 f2:List Addr} {du c_ i:Nat} {jV jW:Nat→Value→Prop} {hQ hR:Nat→Heap→Prop} {a b:Value} {Q:Value→Shared→Prop} (gA:Draws prog w A bL f1 du jV hQ) (gh:Draws prog w A bB f2 c_ jW hR) (ap:oV z TI bO bL bB f1 f2)
  (a5:IsZip s.heap z TI bO .none) (gU:IsPair s.heap TI (.ref bL) (.ref bB)) (hA:IsPair s.heap bO a b) (h1:hQ i s.heap) (h2:hR i s.heap) (eQ:i < du) (ck:i < c_)
  (fC:∀x y h' cR,jV i x→jW i y→IsZip h' z TI bO (rawInt s.heap.objs.size)→IsPair h' bO x y→hQ (i + 1) h'→hR (i + 1) h'→IsPair h' s.heap.objs.size x y→h'.objs.size=s.heap.objs.size + 1→
    (∀c o,c≠z→c≠bO→c≠bL→c≠bB→s.heap.get? c=some o→h'.get? c=some o)→Q (.ref s.heap.objs.size) { s with heap:=h',toks:=cR }) :
  wpAny (model prog w) A (Builtin.«zip.__next__» ⟨[.ref z],[]⟩) (fun fin s'=>∃v,fin= .done (.ret v)∧Q v s') E s:=by
 show wpAny _ _ (field (.ref z) 2 >>= _) _ _ _
 refine wpAny_bind (wpAny_field a5 rfl (x:= .bool false) rfl ?_)
 show wpAny _ _ (field (.ref z) 3 >>= _) _ _ _
 refine wpAny_bind (wpAny_field a5 rfl (x:= .ref TI) rfl ?_)
 refine wpAny_bind (wpAny_seqItems gU rfl ?_)
 show wpAny _ _ (Builtin.SmallTypes.ownedTupleIsFree (.ref z) >>= _) _ _ _
 refine wpAny_bind ?_
 unfold Builtin.SmallTypes.ownedTupleIsFree
 refine wpAny_bind (wpAny_field a5 rfl (x:= .none) rfl (wpAny_pure ?_))
 simp only [if_true]
 refine wpAny_bind (wpAny_rule ?_)
 refine wpAny_bind (wpAny_field a5 rfl (x:= .ref bO) rfl ?_)
 refine wpAny_bind (wpAny_setField_rec a5 (by simp) fun kF mP j6=>?_)
 replace mP:IsZip kF z TI bO .ellipsis:=mP
 refine wpAny_bind ?_
 simp only [List.zipIdx_cons,List.zipIdx_nil,List.forIn_cons,List.forIn_nil]
 refine wpAny_bind (wpAny_bind (wpAny_onRaise ?_))
 show wpAny _ _ (Builtin.SmallTypes.nextOf (.ref bL) >>= _) _ _ _
 refine wpAny_bind (gA.item i _ _ _ eQ (jm gA h1 j6 ap.xy) fun x n0 G8 hx Gr iU=>wpAny_pure ?_)
 have ro:IsPair n0 bO a b:=iU.extBut _ _ ap.TOi1 (j6.extBut _ _ ap.TOz hA)
 refine wpAny_bind (wpAny_seqItems ro rfl ?_)
 refine wpAny_bind (wpAny_updateSeq_pair ro fun mQ um jt=>?_)
 replace um:IsPair mQ bO x b:=um
 refine wpAny_bind (wpAny_letGo (wpAny_pure ?_))
 refine wpAny_bind (wpAny_bind (wpAny_onRaise ?_))
 show wpAny _ _ (Builtin.SmallTypes.nextOf (.ref bB) >>= _) _ _ _
 have Tp:hR i mQ:=jm gh (jm gh (jm gh h2 j6 ap.xB) iU ap.CD) jt ap.xA
 refine wpAny_bind (gh.item i _ _ _ ck Tp fun y pC XM cg Tz mM=>wpAny_pure ?_)
 have Dy:IsPair pC bO x b:=mM.extBut _ _ ap.TOi2 um
 refine wpAny_bind (wpAny_seqItems Dy rfl ?_)
 refine wpAny_bind (wpAny_updateSeq_pair Dy fun fD uo mO=>?_)
 replace uo:IsPair fD bO x y:=uo
 refine wpAny_bind (wpAny_letGo (wpAny_pure (wpAny_pure ?_)))
 refine wpAny_bind (wpAny_seqItems uo rfl ?_)
 refine wpAny_bind (wpAny_newTuple ?_)
 have hsz:fD.objs.size=s.heap.objs.size:=by rw [mO.1,mM.1,jt.1,iU.1,j6.1]
 have D1:IsZip fD z TI bO .ellipsis:=mO.extBut _ _ ap.TOz.symm (mM.extBut _ _ ap.i2z.symm (jt.extBut _ _ ap.TOz.symm (iU.extBut _ _ ap.i1z.symm mP)))
 have LV:∀c o,c≠z→c≠bO→c≠bL→c≠bB→s.heap.get? c=some o→fD.get? c=some o:=fun c o bD dj gR ll e=>
  mO.extBut _ _ dj (mM.extBut _ _ ll (jt.extBut _ _ dj (iU.extBut _ _ gR (j6.extBut _ _ bD e))))
 have Tn:hQ (i + 1) fD:=jm gA (jm gA (jm gA Gr jt ap.CC) mM ap.K6) mO ap.CC
 have Tq:hR (i + 1) fD:=jm gh Tz mO ap.xA
 have DX:z < fD.objs.size:=Heap.lt_size D1
 show wpAny _ _ (Builtin.SmallTypes.ownedTupleHandOut (.ref z) (.ref fD.objs.size) >>= _) _ _ _
 refine wpAny_bind ?_
 unfold Builtin.SmallTypes.ownedTupleHandOut
 have Mn:IsZip (fD.push { cls:= .type "tuple",data:= .seq #[x,y] }) z TI bO .ellipsis:=Heap.get?_push_of_some _ D1
 refine wpAny_bind (wpAny_setField_rec Mn (by simp) fun Mq ym yf=>?_)
 replace ym:IsZip Mq z TI bO (rawInt fD.objs.size):=ym
 refine wpAny_setField_rec ym (by simp) fun rA uB yg=>?_
 replace uB:IsZip rA z TI bO (rawInt fD.objs.size):=uB
 have up:∀c o,c≠z→fD.get? c=some o→rA.get? c=some o:=fun c o bD e=>yg.extBut _ _ bD (yf.extBut _ _ bD (Heap.get?_push_of_some _ e))
 have DA:IsPair rA fD.objs.size x y:=yg.extBut _ _ (Nat.ne_of_gt DX) (yf.extBut _ _ (Nat.ne_of_gt DX) (Heap.get?_push_size _ rfl))
 have DW:rA.objs.size=fD.objs.size + 1:=by rw [yg.1,yf.1,Heap.size_push]
 rw [hsz] at uB DA DW
 refine wpAny_pure ⟨_,rfl,?_⟩
 show Q (.ref fD.objs.size) _
 rw [hsz]
 exact fC x y rA _ hx cg uB (up _ _ ap.TOz uo) (gA.frame _ _ _ Tn fun c hc o e=>up c o (fun q=>ap.xy (q ▸ hc)) e) (gh.frame _ _ _ Tq fun c hc o e=>up c o (fun q=>ap.xB (q ▸ hc)) e) DA DW fun c o bD dj gR ll e=>up c o bD (LV c o bD dj gR ll e)
theorem VW {z TI bO bL bB:Addr} {f1 f2:List Addr} {du c_ i:Nat} {jV jW:Nat→Value→Prop} {hQ hR:Nat→Heap→Prop} {a b:Value} {Q:Fin→Shared→Prop} (gA:Draws prog w A bL f1 du jV hQ) (gh:Draws prog w A bB f2 c_ jW hR) (ap:oV z TI bO bL bB f1 f2)
  (a5:IsZip s.heap z TI bO .none) (gU:IsPair s.heap TI (.ref bL) (.ref bB)) (hA:IsPair s.heap bO a b) (h1:hQ i s.heap) (h2:hR i s.heap) (xY:i=du∨(i < du∧i=c_))
  (hE:∀h' e cR,(∀c o,c≠z→c≠bO→c≠bL→c≠bB→s.heap.get? c=some o→h'.get? c=some o)→(∃o,h'.get? e=some o∧o.cls= .type "StopIteration")→E (.ref e) { s with heap:=h',toks:=cR }) :
  wpAny (model prog w) A (Builtin.«zip.__next__» ⟨[.ref z],[]⟩) Q E s:=by
 show wpAny _ _ (field (.ref z) 2 >>= _) _ _ _
 refine wpAny_bind (wpAny_field a5 rfl (x:= .bool false) rfl ?_)
 show wpAny _ _ (field (.ref z) 3 >>= _) _ _ _
 refine wpAny_bind (wpAny_field a5 rfl (x:= .ref TI) rfl ?_)
 refine wpAny_bind (wpAny_seqItems gU rfl ?_)
 show wpAny _ _ (Builtin.SmallTypes.ownedTupleIsFree (.ref z) >>= _) _ _ _
 refine wpAny_bind ?_
 unfold Builtin.SmallTypes.ownedTupleIsFree
 refine wpAny_bind (wpAny_field a5 rfl (x:= .none) rfl (wpAny_pure ?_))
 simp only [if_true]
 refine wpAny_bind (wpAny_rule ?_)
 refine wpAny_bind (wpAny_field a5 rfl (x:= .ref bO) rfl ?_)
 refine wpAny_bind (wpAny_setField_rec a5 (by simp) fun kF mP j6=>?_)
 replace mP:IsZip kF z TI bO .ellipsis:=mP
 refine wpAny_bind ?_
 simp only [List.zipIdx_cons,List.zipIdx_nil,List.forIn_cons,List.forIn_nil]
 refine wpAny_bind (wpAny_bind (wpAny_onRaise ?_))
 show wpAny _ _ (Builtin.SmallTypes.nextOf (.ref bL) >>= _) _ _ _
 have Gm:hQ i kF:=jm gA h1 j6 ap.xy
 rcases xY with ah | ⟨eQ,aw⟩
 · subst ah
   refine wpAny_bind (gA.done _ _ _ Gm fun n0 e iU he=>?_)
   obtain ⟨u_,nY,rq⟩:=he
   have DZ:IsZip n0 z TI bO .ellipsis:=iU _ _ ap.i1z.symm mP
   have xZ:e≠z:=fun x=>by subst x; rw [DZ] at nY; cases nY; simp at rq
   refine wpAny_setField_rec DZ (by simp) fun mQ _ jt=>hE mQ e s.toks (fun c o bD _ gR _ x=>jt.extBut _ _ bD (iU _ _ gR (j6.extBut _ _ bD x))) ⟨u_,jt.extBut _ _ xZ nY,rq⟩
 · subst aw
   refine wpAny_bind (gA.item _ _ _ _ eQ Gm fun x n0 G8 hx Gr iU=>wpAny_pure ?_)
   have ro:IsPair n0 bO a b:=iU.extBut _ _ ap.TOi1 (j6.extBut _ _ ap.TOz hA)
   refine wpAny_bind (wpAny_seqItems ro rfl ?_)
   refine wpAny_bind (wpAny_updateSeq_pair ro fun mQ um jt=>?_)
   refine wpAny_bind (wpAny_letGo (wpAny_pure ?_))
   refine wpAny_bind (wpAny_bind (wpAny_onRaise ?_))
   show wpAny _ _ (Builtin.SmallTypes.nextOf (.ref bB) >>= _) _ _ _
   refine wpAny_bind (gh.done _ _ _ (jm gh (jm gh (jm gh h2 j6 ap.xB) iU ap.CD) jt ap.xA) fun pC e mM he=>?_)
   obtain ⟨u_,nY,rq⟩:=he
   have D0:IsZip pC z TI bO .ellipsis:=mM _ _ ap.i2z.symm (jt.extBut _ _ ap.TOz.symm (iU.extBut _ _ ap.i1z.symm mP))
   have xZ:e≠z:=fun x=>by subst x; rw [D0] at nY; cases nY; simp at rq
   refine wpAny_setField_rec D0 (by simp) fun fD _ mO=>hE fD e G8 (fun c o bD dj gR ll x=>mO.extBut _ _ bD (mM _ _ ll (jt.extBut _ _ dj (iU.extBut _ _ gR (j6.extBut _ _ bD x))))) ⟨u_,mO.extBut _ _ xZ nY,rq⟩
theorem Ry {z TI bO bL bB:Addr} {f1 f2:List Addr} {du c_ i:Nat} {jV jW:Nat→Value→Prop} {hQ hR:Nat→Heap→Prop} {a b:Value} {Q:Option Value→Shared→Prop} (gA:Draws prog w A.in1 bL f1 du jV hQ) (gh:Draws prog w A.in1 bB f2 c_ jW hR) (ap:oV z TI bO bL bB f1 f2)
  (a5:IsZip s.heap z TI bO .none) (gU:IsPair s.heap TI (.ref bL) (.ref bB)) (hA:IsPair s.heap bO a b) (h1:hQ i s.heap) (h2:hR i s.heap) (eQ:i < du) (ck:i < c_)
  (fC:∀x y h' cR,jV i x→jW i y→IsZip h' z TI bO (rawInt s.heap.objs.size)→IsPair h' bO x y→hQ (i + 1) h'→hR (i + 1) h'→IsPair h' s.heap.objs.size x y→h'.objs.size=s.heap.objs.size + 1→
    (∀c o,c≠z→c≠bO→c≠bL→c≠bB→s.heap.get? c=some o→h'.get? c=some o)→Q (some (.ref s.heap.objs.size)) { s with heap:=h',toks:=cR }) :
  wpAny (model prog w) A (pyNext (.ref z)) Q E s:=by
 have ia:s.TypeIs (.ref z) "zip":=⟨_,a5,rfl⟩
 unfold pyNext
 exact wpAny_bind (wpAny_attempt (wpAny_callSpecial?_slot (name:=Str.ofString "__next__") ia F.slot_zip_next
  (wpAny_call_entry F.slot_zip_next ia F.entry_zip_next
    (VX gA gh ap a5 gU hA h1 h2 eQ ck fun x y h' cR a1 a2 fi jY oW oX Im wy Io=>wpAny_pure (fC x y h' cR a1 a2 fi jY oW oX Im wy Io)) (F.args_zip_next_1 _))))
theorem Rx {z TI bO bL bB:Addr} {f1 f2:List Addr} {du c_ i:Nat} {jV jW:Nat→Value→Prop} {hQ hR:Nat→Heap→Prop} {a b:Value} {Q:Option Value→Shared→Prop} (gA:Draws prog w A.in1 bL f1 du jV hQ) (gh:Draws prog w A.in1 bB f2 c_ jW hR) (ap:oV z TI bO bL bB f1 f2)
  (a5:IsZip s.heap z TI bO .none) (gU:IsPair s.heap TI (.ref bL) (.ref bB)) (hA:IsPair s.heap bO a b) (h1:hQ i s.heap) (h2:hR i s.heap) (xY:i=du∨(i < du∧i=c_))
  (fC:∀h' cR,(∀c o,c≠z→c≠bO→c≠bL→c≠bB→s.heap.get? c=some o→h'.get? c=some o)→Q none { s with heap:=h',toks:=cR }):wpAny (model prog w) A (pyNext (.ref z)) Q E s:=by
 have ia:s.TypeIs (.ref z) "zip":=⟨_,a5,rfl⟩
 unfold pyNext
 refine wpAny_bind (wpAny_attempt (wpAny_callSpecial?_slot (name:=Str.ofString "__next__") ia F.slot_zip_next
  (wpAny_call_entry F.slot_zip_next ia F.entry_zip_next (VW gA gh ap a5 gU hA h1 h2 xY fun h' e cR hk he=>?_) (F.args_zip_next_1 _))))
 obtain ⟨o,ho,hc⟩:=he
 refine wpAny_bind (wpAny_isInstance (T:="StopIteration") (b:=true) ⟨o,ho,hc⟩ isSubtype_stop ?_)
 exact wpAny_pure (fC _ _ hk)
end
end aZ
set_option Elab.async false
set_option linter.all false
set_option maxRecDepth 100000
namespace aZ
open PySem PySem.Spec
theorem Inv.vG {X:aG} {pins:List (Addr×Obj)} {σ :St} {H:J} {s:Shared} {h':Heap} {t':Nat} {ch:List Addr} (I:Inv X pins σ H s) (k:∀b o,b∉ch→s.heap.get? b=some o→h'.get? b=some o)
  (hf:∀b∈ch,iu X pins H b):Inv X pins σ H { s with heap:=h',toks:=t' }:=by
 have mW:∀b u,H b=some u→b∉ch:=fun b u e z=>by rw [(hf b z).1] at e; cases e
 refine I.step (g':=s.gens) (d':=s.drawn) (ch:=ch) (fun b hb=>?_) (fun b o _ _ hc e _=>k b o hc e) (fun b o _ _ hc e _=>⟨o.slots,k b o hc e⟩) (fun _ _ _ _ n=>n)
  (fun b o hc e=>⟨o,k b o hc e⟩) (fun _ _ e=>e) (fun _ _ _ e=>e) (fun b aB e=>⟨#[],by rw [e]; simp⟩) (fun m hm=>?_) (fun b u e=>?_) I.bare
 · obtain ⟨_,f1,_,eU,f4,gT⟩:=hf b hb
   exact ⟨eU,f1,f4,gT⟩
 · obtain ⟨o,ae,dB,ho,r⟩:=hm
   exact ⟨o,ae,dB,k _ o (fun z=>(hf _ z).2.1 rfl) ho,r⟩
 · refine (I.bk b u e).ki (fun c v hc q=>k c v ?_ q) (fun _ q=>q) fun _ _ q=>q
   rcases hc with z | z
   · rw [z]; exact mW b u e
   · exact mW c _ z
theorem Inv.G6 {X:aG} {pins:List (Addr×Obj)} {σ :St} {H:J} {s:Shared} {h':Heap} {t':Nat} {ch:List Addr} {T:Addr} {xs:List V} {its:List Value} (I:Inv X pins σ H s) (k:∀b o,b∉ch→s.heap.get? b=some o→h'.get? b=some o)
  (hf:∀b∈ch,iu X pins H b) (ia:s.heap.objs.size≤T) (ht:PyProof.Rows.IsTup h' T its.toArray) (bN:Vals xs its) (a5:xs.length≤sizeLine):Inv X pins σ (upd H T (.tup xs)) { s with heap:=h',toks:=t' }:=by
 have mW:∀b u,H b=some u→b∉ch:=fun b u e z=>by rw [(hf b z).1] at e; cases e
 have aN:H T=none:=I.bk.fresh ia
 have neT:∀b o,s.heap.get? b=some o→b≠T:=fun b o e=>Nat.ne_of_lt (Nat.lt_of_lt_of_le (Heap.lt_size e) ia)
 refine I.step (g':=s.gens) (d':=s.drawn) (ch:=ch) (fun b hb=>?_) (fun b o _ _ hc e _=>k b o hc e) (fun b o _ _ hc e _=>⟨o.slots,k b o hc e⟩) (fun b o _ e n=>by rw [cG (neT b o e)]; exact n)
  (fun b o hc e=>⟨o,k b o hc e⟩) (fun b ys e=>by rw [cG (hH e aN)]; exact e) (fun b _ _ e=>by rw [cG (hH e aN)]; exact e) (fun b aB e=>⟨#[],by rw [cG (hH e aN),e]; simp⟩) (fun m hm=>?_) (fun b u e=>?_) I.bare
 · obtain ⟨_,f1,_,eU,f4,gT⟩:=hf b hb
   exact ⟨eU,f1,f4,gT⟩
 · obtain ⟨o,ae,dB,ho,r⟩:=hm
   exact ⟨o,ae,dB,k _ o (fun z=>(hf _ z).2.1 rfl) ho,r⟩
 · by_cases hb:b=T
   · subst hb
     rw [dv] at e; cases e
     exact ⟨a5,its,bN,ht⟩
   · rw [cG hb] at e
     refine (I.bk b u e).ki (fun c v hc q=>k c v ?_ q) (fun c q=>by rw [cG (hH q aN)]; exact q) fun c ys q=>by rw [cG (hH q aN)]; exact q
     rcases hc with z | z
     · rw [z]; exact mW b u e
     · exact mW c _ z
noncomputable def wi (x:Str):It:=⟨fun i _=>i < x.cps.size,fun i H v H'=>H'=H∧∃c,x.cps[i]? =some c∧v= .str ⟨#[c]⟩,fun i _=>i=x.cps.size⟩
theorem Hv {prog:Program} {w:World} {A:Around} (hh:A.handled=none) (I:Addr) (x:Str) (t:Tok):Walks prog w A I [I] [I] x.cps.size (SignAt x) (fun i h=>h.IsStrIter I (strIterType x) x t i):=by
 unfold strIterType
 cases ha:x.cps.all (· < 128)
 · rw [if_neg Bool.false_ne_true]; exact Walks.strWide hh I x t
 · rw [if_pos rfl]; exact Walks.strAscii hh I x t
theorem Ck {prog:Program} {w:World} {A:Around} (hh:A.handled=none) (I:Addr) (x:Str) (t:Tok):Draws prog w A I [I] x.cps.size (fun i v=>∃c u,x.cps[i]? =some c∧v= .str ⟨#[c]⟩ u) (fun i h=>h.IsStrIter I (strIterType x) x t i):=by
 unfold strIterType
 cases ha:x.cps.all (· < 128)
 · rw [if_neg Bool.false_ne_true]; exact Draws.strWide hh I x t
 · rw [if_pos rfl]; exact Draws.strAscii hh I x t
theorem Tu (x:Str):["enumerate","zip","dict_itemiterator","dict_reverseitemiterator","odict_iterator","itertools.zip_longest","itertools.pairwise"].contains (strIterType x)=false:=by
 unfold strIterType
 split <;> decide
theorem Uo {P:Program} {w:World} {K:PySem.W.Frag} {bl:Expr} (it:Addr) (x:Str) (t:Tok):Turn P w K bl (wi x) [it] it (fun i h=>h.IsStrIter it (strIterType x) x t i) where
 mem:=by simp
 obj:=fun i h st b hb=>by
  have e:b=it:=by simpa using hb
  subst e
  obtain ⟨o,e,c,d⟩:=st
  exact ⟨o,e,fun v z=>by rw [d] at z; cases z⟩
 keep:=fun i h h' st k=>by
  obtain ⟨o,e,r⟩:=st
  exact ⟨o,k it (by simp) o e,r⟩
 item:=by
  intro X dT hw hK hc i pins s σ H E I hf st hg
  subst dT hw hK
  have W:=Hv (prog:=X.prog) (w:=X.w) (A:=X.A) (I.ok.hd hc) it x t
  refine W.item i s _ _ hg st fun v h' cR hv kh b0=>?_
  obtain ⟨c,u,px,rfl⟩:=hv
  have aP:Inv X pins σ H { s with heap:=h',toks:=cR }:=I.vG (ch:=[it]) b0 hf
  obtain ⟨o,e,bD,d1⟩:=id kh
  exact ⟨_,rfl,ui (s:={ s with heap:=h',toks:=cR }) e bD d1 (Tu x) ⟨.str ⟨#[c]⟩,H,aP,⟨u,rfl⟩,⟨rfl,c,px,rfl⟩,kh,fun b hb=>(hf b hb).1⟩⟩
 done:=by
  intro X dT hw hK hc i pins s σ H E I hf st hg
  subst dT hw hK
  have W:=Hv (prog:=X.prog) (w:=X.w) (A:=X.A) (I.ok.hd hc) it x t
  have hi:i=x.cps.size:=hg
  subst hi
  exact W.done s _ _ st fun h' cR b0=>⟨rfl,I.vG (ch:=[it]) b0 hf⟩
 self:=fun A i s Q E st h=>by
  unfold strIterType at st
  cases ha:x.cps.all (· < 128)
  · rw [ha,if_neg Bool.false_ne_true] at st; exact wpAny_pyIter_striter_wide st h
  · rw [ha,if_pos rfl] at st; exact wpAny_pyIter_striter_ascii st h
section
variable {X:aG} {bl:Expr}
noncomputable def D5 (f_:TE):TI:=fun σ H R=>f_ σ H fun v H1=>∃x,v= .str x∧R (wi x) H1
theorem Q4 {l:Expr} {f_:TE} (hl:aS X l f_):fZ X bl l (D5 f_):=by
 intro pins s σ H R I h
 refine bu (hl pins s σ H _ I h) fun v s1 ⟨y,H1,aP,ao,aW⟩=>?_
 obtain ⟨x,e,q⟩:=aW
 subst e
 obtain ⟨t,rfl⟩:=ao
 refine wpAny_pyIter_strU ?_
 refine ⟨s1.heap.objs.size,[s1.heap.objs.size],_,_,H1,rfl,aP.kept (t':=s1.toks) fun b o e=>Heap.get?_push_of_some _ e,Uo _ x t,⟨_,Heap.get?_push_size _ rfl,rfl,rfl⟩,fun b hb=>?_,q⟩
 have e:b=s1.heap.objs.size:=by simpa using hb
 subst e
 exact aP.mC (Nat.le_refl _) (aP.bk.fresh (Nat.le_refl _))
end
noncomputable def wg (K:PySem.W.Frag) (l:Addr):It:=⟨fun i H=>∃xs x,bI K H l xs∧xs[i]? =some x,fun i H v H'=>∃p x,H p=none∧H'=upd H p (.tup [.int (i:Int),x])∧v= .ref p∧∀xs,bI K H l xs→xs[i]? =some x,fun i H=>∃xs,bI K H l xs∧xs.length=i⟩
theorem Ul {P:Program} {w:World} {K:PySem.W.Frag} {elts:List Expr} {b0:Nat} {pos:Pos} (e it l:Addr) (DI:e≠it) :
  Turn P w K (.Tuple elts b0 pos) (wg K l) [e,it] e (fun i h=>(∃old,IsEnum h e it i old)∧h.IsListIter it l i) where
 mem:=by simp
 obj:=fun i h st b hb=>by
  obtain ⟨⟨old,he⟩,o,ah,c,d⟩:=st
  rcases List.mem_cons.mp hb with z | z
  · subst z
    exact ⟨_,he,fun v z=>by
     have fe:Data.fields _=Data.cell v:=z
     cases fe⟩
  · have z:b=it:=by simpa using z
    subst z
    exact ⟨o,ah,fun v z=>by rw [d] at z; cases z⟩
 keep:=fun i h h' st k=>by
  obtain ⟨⟨old,he⟩,hit⟩:=st
  exact ⟨⟨old,k e (by simp) _ he⟩,hit.at fun o x=>k it (by simp) o x⟩
 item:=by
  intro X dT hw hK hc i pins s σ H E I hf st hg
  subst dT hw hK
  obtain ⟨xs,x,aD,hx⟩:=hg
  obtain ⟨its,bN,pl,a5⟩:=I.list aD
  obtain ⟨⟨old,he⟩,hit⟩:=st
  have fm:=pl.isList
  have hle:l≠e:=fun z=>by
   subst z
   obtain ⟨o,ho,ib,_⟩:=fm
   rw [he] at ho; cases ho
   have ib:Value.type "enumerate"=Value.type "list":=ib
   injection ib with ib
   exact absurd ib (by decide)
  have uv:l≠it:=fun z=>by
   subst z
   obtain ⟨o,ho,ib,_⟩:=fm
   obtain ⟨bC,ho',lx,_⟩:=hit
   rw [ho'] at ho; cases ho
   rw [ib] at lx
   injection lx with lx
   exact absurd lx (by decide)
  have W:=WalksT.enumerate (prog:=X.prog) (w:=X.w) (A:=X.A) (I.ok.hd hc) e it l DI hle uv its.toArray
  have hlen:=bN.length
  have x3:i < xs.length:=(List.getElem?_eq_some_iff.mp hx).1
  refine W.item i s _ _ (by rw [List.size_toArray,←hlen]; exact x3) ⟨⟨old,he⟩,hit,fm⟩ fun T vals h' cR dT ia Ls uj hk=>?_
  obtain ⟨t,u,hu,rfl⟩:=dT
  obtain ⟨g8,yi,ed⟩:=bN.get hx
  have jj:g8=u:=by
   rw [List.getElem?_toArray] at hu
   rw [yi] at hu; exact Option.some.inj hu
  subst jj
  refine ⟨_,rfl,?_⟩
  refine W.go elts b0 pos i T { s with heap:=h',toks:=cR } _ _ uj fun h2 jH uu=>?_
  have Dz:T∉[e,it]:=W.apart i T h' uj
  have keep:∀b o,b∉[e,it]→s.heap.get? b=some o→h2.get? b=some o:=fun b o hb q=>uu b o hb (hk b o hb q)
  have yh:PyProof.Rows.IsTup h2 T (#[.int i t,g8]:Array Value):=by
   obtain ⟨o,ho,r⟩:=Ls
   exact ⟨o,uu T o Dz ho,r⟩
  have aN:H T=none:=I.bk.fresh ia
  have bZ:Inv X pins σ (upd H T (.tup [.int (i:Int),x])) { s with heap:=h2,toks:=cR }:=I.G6 (its:=[.int i t,g8]) (ch:=[e,it]) keep hf ia yh (.cons ⟨t,rfl⟩ (.cons ed .nil)) (by show 2≤sizeLine; decide)
  refine ⟨.ref T,upd H T (.tup [.int (i:Int),x]),bZ,rfl,⟨T,x,aN,rfl,rfl,fun ys cg=>by rw [I.yL cg aD]; exact hx⟩,⟨jH.1,jH.2.1⟩,fun b hb=>?_⟩
  have nb:b≠T:=fun z=>Dz (z ▸ hb)
  rw [cG nb]
  exact (hf b hb).1
 done:=by
  intro X dT hw hK hc i pins s σ H E I hf st hg
  subst dT hw hK
  obtain ⟨xs,aD,hx⟩:=hg
  obtain ⟨its,bN,pl,a5⟩:=I.list aD
  obtain ⟨⟨old,he⟩,hit⟩:=st
  have fm:=pl.isList
  have hle:l≠e:=fun z=>by
   subst z
   obtain ⟨o,ho,ib,_⟩:=fm
   rw [he] at ho; cases ho
   have ib:Value.type "enumerate"=Value.type "list":=ib
   injection ib with ib
   exact absurd ib (by decide)
  have uv:l≠it:=fun z=>by
   subst z
   obtain ⟨o,ho,ib,_⟩:=fm
   obtain ⟨bC,ho',lx,_⟩:=hit
   rw [ho'] at ho; cases ho
   rw [ib] at lx
   injection lx with lx
   exact absurd lx (by decide)
  have W:=WalksT.enumerate (prog:=X.prog) (w:=X.w) (A:=X.A) (I.ok.hd hc) e it l DI hle uv its.toArray
  have hq:i=its.toArray.size:=by rw [List.size_toArray,←bN.length]; exact hx.symm
  subst hq
  exact W.done s _ _ ⟨⟨old,he⟩,hit,fm⟩ fun h' cR b0=>⟨rfl,I.vG (ch:=[e,it]) b0 hf⟩
 self:=fun A i s Q E st h=>by
  obtain ⟨⟨old,he⟩,_⟩:=st
  exact wpAny_pyIter_enum he h
section
variable {X:aG} {elts:List Expr} {b0:Nat} {sR:Pos}
noncomputable def D2 (K:PySem.W.Frag) (bW:eH):TI:=fun σ H R=>bW σ H fun vs H1=>∃l,vs=[.ref l]∧(∃xs,bI K H1 l xs)∧R (wg K l) H1
theorem Q1 {a:Expr} {bW:eH} {p pos:Pos} (hg:cv X "enumerate") (hm:X.mg "enumerate"=none) (ha:e8 X [a] bW) (hs:starEach [a] X.env=[(false,eval a X.env)]:=by rfl):fZ X (.Tuple elts b0 sR) (.Call (.Name "enumerate" p) [a] [] pos) (D2 X.K bW):=by
 have hb:bootBuiltins "enumerate"=some (.type "enumerate"):=by kernel_rfl
 intro pins s σ H R I h
 refine PyProof.Rows.Call_ (pI I hg hm hb (PyProof.Rows.callWith_type1 (bu (ha pos pins s σ H _ I h) fun us s1 ⟨vs,H1,aP,ao,aW⟩=>?_) hs rfl))
 obtain ⟨l,e,⟨xs,aD⟩,q⟩:=aW
 subst e
 obtain ⟨u,rfl,ed⟩:=vals1 ao
 cases ed
 obtain ⟨its,bN,pl,a5⟩:=aP.list aD
 refine call_enumerate_list pl.isList fun h' he hit hsz hk=>?_
 have bZ:Inv X pins σ H1 { s1 with heap:=h' }:=aP.kept (t':=s1.toks) hk
 refine wpAny_pyIter_enum he ?_
 refine ⟨s1.heap.objs.size + 1,[s1.heap.objs.size + 1,s1.heap.objs.size],_,_,H1,rfl,bZ,Ul _ _ l (Nat.succ_ne_self _),⟨⟨_,he⟩,hit⟩,fun b hb=>?_,q⟩
 have hb:b=s1.heap.objs.size + 1∨b=s1.heap.objs.size:=by simpa using hb
 rcases hb with z | z
 · subst z; exact aP.mC (Nat.le_succ _) (aP.bk.fresh (Nat.le_succ _))
 · subst z; exact aP.mC (Nat.le_refl _) (aP.bk.fresh (Nat.le_refl _))
end
noncomputable abbrev vZ (h:Heap) (x:Str) (t:Tok):Heap:=h.push { cls:= .type (strIterType x),data:= .fields #[.str x t,.int 0 0] }
noncomputable abbrev v3 (h:Heap) (x:Str) (t:Tok) (l:Addr):Heap:=(vZ h x t).push { cls:= .type "tuple_iterator",data:= .fields #[.ref l,.int 0 0] }
noncomputable abbrev v5 (h:Heap) (x:Str) (t:Tok) (l:Addr):Heap:=(v3 h x t l).push { cls:= .type "tuple",data:= .seq #[.ref h.objs.size,.ref (vZ h x t).objs.size] }
noncomputable abbrev v7 (h:Heap) (x:Str) (t:Tok) (l:Addr):Heap:=(v5 h x t l).push { cls:= .type "tuple",data:= .seq #[.none,.none] }
noncomputable abbrev oI (h:Heap) (x:Str) (t:Tok) (l:Addr):Heap:=(v7 h x t l).push { cls:= .type "zip",data:= .fields #[.none,.bool false,.bool false,.ref (v3 h x t l).objs.size,.ref (v5 h x t l).objs.size] }
set_option maxHeartbeats 4000000 in
theorem Pk (x:Str) (t:Tok) (ck:Addr) (ys:Array Value) :
  Meets (Builtin.«zip.__new__» ⟨[.type "zip",.str x t,.ref ck],[]⟩) (fun _ R s=>s.heap.IsTuple ck ys∧R (.ok (.ret (.ref (v7 s.heap x t ck).objs.size))) { s with heap:=oI s.heap x t ck }):=
 .of_wp fun prog w A R s h=>by
   obtain ⟨hp,g,d,cR,os⟩:=s; obtain ⟨ru,h⟩:=h
   have WH:=sub_zip
   have Lq:Heap.IsTuple (Shared.heap ⟨hp.push { cls:= .type (strIterType x),data:= .fields #[.str x t,.int 0 0] },g,d,cR,os⟩) ck ys:=Heap.IsTuple.push ru _
   wp_walk using wpAny_pyIter_strU,wpAny_pyIter_tuple Lq
   exact ⟨_,rfl,h⟩
theorem Jk {prog:Program} {w:World} {A:Around} {E:Value→Shared→Prop} {s:Shared} {x:Str} {t:Tok} {ck:Addr} {ys:Array Value} {Q:Value→Shared→Prop} (ru:s.heap.IsTuple ck ys)
  (h:∀h',IsZip h' (s.heap.objs.size + 4) (s.heap.objs.size + 2) (s.heap.objs.size + 3) .none→IsPair h' (s.heap.objs.size + 2) (.ref s.heap.objs.size) (.ref (s.heap.objs.size + 1))→
    IsPair h' (s.heap.objs.size + 3) .none .none→h'.IsStrIter s.heap.objs.size (strIterType x) x t 0→h'.IsTupleIter (s.heap.objs.size + 1) ck 0→h'.objs.size=s.heap.objs.size + 5→
    (∀c o,s.heap.get? c=some o→h'.get? c=some o)→Q (.ref (s.heap.objs.size + 4)) { s with heap:=h' }) :
  wpAny (model prog w) A (call (.type "zip") [.str x t,.ref ck]) Q E s:=by
 refine callType_new F.called_zip (by decide) (F.typeCall_zip_2 _ _) (F.newCall_zip_2 _ _) (fun obj=>F.args_object_init_3 obj _ _) F.entry_zip_new (Pk x t ck ys) ⟨ru,?_⟩
 have a6:(vZ s.heap x t).objs.size=s.heap.objs.size + 1:=Heap.size_push ..
 have aX:(v3 s.heap x t ck).objs.size=s.heap.objs.size + 2:=by rw [Heap.size_push,a6]
 have nr:(v5 s.heap x t ck).objs.size=s.heap.objs.size + 3:=by rw [Heap.size_push,aX]
 have tf:(v7 s.heap x t ck).objs.size=s.heap.objs.size + 4:=by rw [Heap.size_push,nr]
 have tg:(oI s.heap x t ck).objs.size=s.heap.objs.size + 5:=by rw [Heap.size_push,tf]
 have xI:(oI s.heap x t ck).get? (v7 s.heap x t ck).objs.size=some _:=Heap.get?_push_size _ rfl
 have hy:(oI s.heap x t ck).get? (v5 s.heap x t ck).objs.size=some _:=Heap.get?_push_of_some _ (Heap.get?_push_size _ rfl)
 have g3:(oI s.heap x t ck).get? (v3 s.heap x t ck).objs.size=some _:=Heap.get?_push_of_some _ (Heap.get?_push_of_some _ (Heap.get?_push_size _ rfl))
 have g2:(oI s.heap x t ck).get? (vZ s.heap x t).objs.size=some _:=Heap.get?_push_of_some _ (Heap.get?_push_of_some _ (Heap.get?_push_of_some _ (Heap.get?_push_size _ rfl)))
 have g1:(oI s.heap x t ck).get? s.heap.objs.size=some _:=Heap.get?_push_of_some _ (Heap.get?_push_of_some _ (Heap.get?_push_of_some _ (Heap.get?_push_of_some _ (Heap.get?_push_size _ rfl))))
 show _∧_
 rw [aX,nr,tf] at xI
 rw [a6,aX] at g3
 rw [nr] at hy
 rw [a6] at g2
 rw [tf]
 exact ⟨⟨_,xI,rfl⟩,h _ xI g3 hy ⟨_,g1,rfl,rfl⟩ ⟨_,g2,rfl,rfl⟩ tg fun c o x=>
  Heap.get?_push_of_some _ (Heap.get?_push_of_some _ (Heap.get?_push_of_some _ (Heap.get?_push_of_some _ (Heap.get?_push_of_some _ x))))⟩
noncomputable def wk (K:PySem.W.Frag) (x:Str) (l:Addr):It:=⟨fun i H=>i < x.cps.size∧∃ys y,cu K H l ys∧ys[i]? =some y,
 fun i H v H'=>∃p c y,x.cps[i]? =some c∧H p=none∧H'=upd H p (.tup [.str ⟨#[c]⟩,y])∧v= .ref p∧∀ys,cu K H l ys→ys[i]? =some y,
 fun i H=>∃ys,cu K H l ys∧i=min x.cps.size ys.length⟩
structure Bt (z TI bO bL bB:Addr):Prop where
 TIz:TI≠z
 TOz:bO≠z
 TITO:TI≠bO
 TIi1:TI≠bL
 TIi2:TI≠bB
 TOi1:bO≠bL
 TOi2:bO≠bB
 i1z:bL≠z
 i2z:bB≠z
 i12:bL≠bB
theorem Uq {P:Program} {w:World} {K:PySem.W.Frag} {elts:List Expr} {b0:Nat} {pos:Pos} (x:Str) (t:Tok) (l z TI bO bL bB:Addr) (ap:Bt z TI bO bL bB) :
  Turn P w K (.Tuple elts b0 pos) (wk K x l) [z,TI,bO,bL,bB] z (fun i h=>IsZip h z TI bO .none∧IsPair h TI (.ref bL) (.ref bB)∧(∃a b,IsPair h bO a b)∧h.IsStrIter bL (strIterType x) x t i∧h.IsTupleIter bB l i) where
 mem:=by simp
 obj:=fun i h st b hb=>by
  obtain ⟨a5,gU,⟨a,hT,hA⟩,⟨cn,ah,bD,d1⟩,b3,aw,dj,cf⟩:=st
  have hb:b=z∨b=TI∨b=bO∨b=bL∨b=bB:=by simpa using hb
  rcases hb with q | q | q | q | q <;> subst q
  · exact ⟨_,a5,fun v z=>by have fe:Data.fields _=Data.cell v:=z; cases fe⟩
  · exact ⟨_,gU,fun v z=>by have fe:Data.seq _ _=Data.cell v:=z; cases fe⟩
  · exact ⟨_,hA,fun v z=>by have fe:Data.seq _ _=Data.cell v:=z; cases fe⟩
  · exact ⟨cn,ah,fun v z=>by rw [d1] at z; cases z⟩
  · exact ⟨b3,aw,fun v z=>by rw [cf] at z; cases z⟩
 keep:=fun i h h' st k=>by
  obtain ⟨a5,gU,⟨a,hT,hA⟩,⟨cn,ah,ao⟩,b3,aw,a_⟩:=st
  exact ⟨k z (by simp) _ a5,k TI (by simp) _ gU,⟨a,hT,k bO (by simp) _ hA⟩,⟨cn,k bL (by simp) _ ah,ao⟩,b3,k bB (by simp) _ aw,a_⟩
 item:=by
  intro X dT hw hK hc i pins s σ H E I hf st hg
  subst dT hw hK
  obtain ⟨hi,ys,y,aD,cg⟩:=hg
  obtain ⟨its,bN,ht,Ml⟩:=I.tuple aD
  obtain ⟨a5,gU,⟨a,hT,hA⟩,uA,hs2⟩:=st
  have nl:∀b∈[z,TI,bO,bL,bB],l≠b:=fun b hb q=>by
   subst q
   rcases aD with (h | ⟨o,h⟩) | ⟨o,NB,n,h,_⟩
   · rw [(hf l hb).1] at h; cases h
   · rw [(hf l hb).1] at h; cases h
   · have h1:=I.ok.mod.lD l o h
     rcases (hf l hb).2.2.2.1 with q | q
     · exact I.ok.mX l o h1 q
     · exact absurd (Nat.lt_of_lt_of_le (Heap.lt_size (I.ok.bs l o h1).1) q) (Nat.lt_irrefl _)
  have hh:X.A.in1.handled=none:=I.ok.hd hc
  have gA:=Ck (prog:=X.prog) (w:=X.w) (A:=X.A.in1) hh bL x t
  have gh:=Cm (prog:=X.prog) (w:=X.w) (A:=X.A.in1) hh bB l (nl bB (by simp)) its.toArray
  have hlen:=bN.length
  have x3:i < ys.length:=(List.getElem?_eq_some_iff.mp cg).1
  have o2:oV z TI bO bL bB [bL] [bB,l]:=⟨ap.TIz,ap.TOz,ap.TITO,ap.TIi1,ap.TIi2,ap.TOi1,ap.TOi2,ap.i1z,ap.i2z,ap.i12,by simpa using ap.i1z.symm,by simpa using ap.TOi1,by simpa using ap.i12.symm,
   by simp only [List.mem_cons,List.not_mem_nil,or_false,not_or]; exact ⟨ap.i2z.symm,(nl z (by simp)).symm⟩,by simp only [List.mem_cons,List.not_mem_nil,or_false,not_or]; exact ⟨ap.TOi2,(nl bO (by simp)).symm⟩,by simp only [List.mem_cons,List.not_mem_nil,or_false,not_or]; exact ⟨ap.i12,(nl bL (by simp)).symm⟩⟩
  refine Ry gA gh o2 a5 gU hA uA ⟨hs2,ht⟩ hi (by rw [List.size_toArray,←hlen]; exact x3) fun lW kR h' cR gv bM a1 a2 fi jY oW oX hk=>?_
  obtain ⟨c,t1,LC,rfl⟩:=gv
  obtain ⟨g8,yi,ed⟩:=bN.get cg
  have jj:g8=kR:=by
   rw [List.getElem?_toArray] at bM
   rw [yi] at bM; exact Option.some.inj bM
  subst jj
  refine ⟨_,rfl,?_⟩
  refine wpAny_letOwnedTupleGo_zip a1 fun h2 Mm pB=>?_
  have TA:∀b∈[z,TI,bO,bL,bB],b < s.heap.objs.size:=fun b hb=>by
   have hb:b=z∨b=TI∨b=bO∨b=bL∨b=bB:=by simpa using hb
   obtain ⟨cn,ah,_⟩:=uA
   obtain ⟨b3,aw,_⟩:=hs2
   rcases hb with q | q | q | q | q <;> subst q
   · exact Heap.lt_size a5
   · exact Heap.lt_size gU
   · exact Heap.lt_size hA
   · exact Heap.lt_size ah
   · exact Heap.lt_size aw
  have E2:∀b∈[z,TI,bO,bL,bB],b≠s.heap.objs.size:=fun b hb=>Nat.ne_of_lt (TA b hb)
  have keep:∀b o,b∉[z,bO,bL,bB]→s.heap.get? b=some o→h2.get? b=some o:=fun b o hb q=>by
   have hb:¬ (b=z∨b=bO∨b=bL∨b=bB):=fun w=>hb (by simpa using w)
   exact pB.extBut b o (fun w=>hb (.inl w)) (hk b o (fun w=>hb (.inl w)) (fun w=>hb (.inr (.inl w))) (fun w=>hb (.inr (.inr (.inl w)))) (fun w=>hb (.inr (.inr (.inr w)))) q)
  have yh:PyProof.Rows.IsTup h2 s.heap.objs.size ([.str ⟨#[c]⟩ t1,g8]:List Value).toArray:=⟨_,pB.extBut _ _ (E2 z (by simp)).symm oW,rfl,_,rfl⟩
  have aN:H s.heap.objs.size=none:=I.bk.fresh (Nat.le_refl _)
  have bZ:Inv X pins σ (upd H s.heap.objs.size (.tup [.str ⟨#[c]⟩,y])) { s with heap:=h2,toks:=cR }:=I.G6 (its:=[.str ⟨#[c]⟩ t1,g8]) (ch:=[z,bO,bL,bB]) keep (fun b hb=>hf b (by
   have hb:b=z∨b=bO∨b=bL∨b=bB:=by simpa using hb
   rcases hb with q | q | q | q <;> simp [q])) (Nat.le_refl _) yh (.cons ⟨t1,rfl⟩ (.cons ed .nil)) (by show 2≤sizeLine; decide)
  refine ⟨.ref s.heap.objs.size,_,bZ,rfl,⟨s.heap.objs.size,c,y,LC,aN,rfl,rfl,fun zs DY=>by rw [I.AI DY aD]; exact cg⟩,?_,fun b hb=>?_⟩
  · refine ⟨Mm,pB.extBut _ _ ap.TIz (hk _ _ ap.TIz ap.TITO ap.TIi1 ap.TIi2 gU),⟨_,_,pB.extBut _ _ ap.TOz a2⟩,?_,?_⟩
    · obtain ⟨cn,ah,ao⟩:=fi
      exact ⟨cn,pB.extBut _ _ ap.i1z ah,ao⟩
    · obtain ⟨⟨b3,aw,a_⟩,_⟩:=jY
      exact ⟨b3,pB.extBut _ _ ap.i2z aw,a_⟩
  · rw [cG (E2 b hb)]; exact (hf b hb).1
 done:=by
  intro X dT hw hK hc i pins s σ H E I hf st hg
  subst dT hw hK
  obtain ⟨ys,aD,hi⟩:=hg
  obtain ⟨its,bN,ht,Ml⟩:=I.tuple aD
  obtain ⟨a5,gU,⟨a,hT,hA⟩,uA,hs2⟩:=st
  have nl:∀b∈[z,TI,bO,bL,bB],l≠b:=fun b hb q=>by
   subst q
   rcases aD with (h | ⟨o,h⟩) | ⟨o,NB,n,h,_⟩
   · rw [(hf l hb).1] at h; cases h
   · rw [(hf l hb).1] at h; cases h
   · have h1:=I.ok.mod.lD l o h
     rcases (hf l hb).2.2.2.1 with q | q
     · exact I.ok.mX l o h1 q
     · exact absurd (Nat.lt_of_lt_of_le (Heap.lt_size (I.ok.bs l o h1).1) q) (Nat.lt_irrefl _)
  have hh:X.A.in1.handled=none:=I.ok.hd hc
  have gA:=Ck (prog:=X.prog) (w:=X.w) (A:=X.A.in1) hh bL x t
  have gh:=Cm (prog:=X.prog) (w:=X.w) (A:=X.A.in1) hh bB l (nl bB (by simp)) its.toArray
  have hlen:=bN.length
  have o2:oV z TI bO bL bB [bL] [bB,l]:=⟨ap.TIz,ap.TOz,ap.TITO,ap.TIi1,ap.TIi2,ap.TOi1,ap.TOi2,ap.i1z,ap.i2z,ap.i12,by simpa using ap.i1z.symm,by simpa using ap.TOi1,by simpa using ap.i12.symm,
   by simp only [List.mem_cons,List.not_mem_nil,or_false,not_or]; exact ⟨ap.i2z.symm,(nl z (by simp)).symm⟩,by simp only [List.mem_cons,List.not_mem_nil,or_false,not_or]; exact ⟨ap.TOi2,(nl bO (by simp)).symm⟩,by simp only [List.mem_cons,List.not_mem_nil,or_false,not_or]; exact ⟨ap.i12,(nl bL (by simp)).symm⟩⟩
  refine Rx gA gh o2 a5 gU hA uA ⟨hs2,ht⟩ ?_ fun h' cR b0=>⟨rfl,I.vG (ch:=[z,bO,bL,bB]) (fun b o hb q=>?_) fun b hb=>hf b ?_⟩
  · have ae:its.toArray.size=its.length:=by simp
    rw [ae,←hlen]; omega
  · have hb:¬ (b=z∨b=bO∨b=bL∨b=bB):=fun w=>hb (by simpa using w)
    exact b0 b o (fun w=>hb (.inl w)) (fun w=>hb (.inr (.inl w))) (fun w=>hb (.inr (.inr (.inl w)))) (fun w=>hb (.inr (.inr (.inr w)))) q
  · have hb:b=z∨b=bO∨b=bL∨b=bB:=by simpa using hb
    rcases hb with q | q | q | q <;> simp [q]
 self:=fun A i s Q E st h=>wpAny_pyIter_zip st.1 h
section
variable {X:aG} {elts:List Expr} {b0:Nat} {sR:Pos}
theorem VY (n:Nat):Bt (n + 4) (n + 2) (n + 3) n (n + 1):=
 ⟨(show n + 2≠n + 4 from Nat.ne_of_lt (show (n + 2:Nat) < n + 4 by omega)),
  (show n + 3≠n + 4 from Nat.ne_of_lt (show (n + 3:Nat) < n + 4 by omega)),
  (show n + 2≠n + 3 from Nat.ne_of_lt (show (n + 2:Nat) < n + 3 by omega)),
  (show n + 2≠n from Nat.ne_of_gt (show (n:Nat) < n + 2 by omega)),
  (show n + 2≠n + 1 from Nat.ne_of_gt (show (n + 1:Nat) < n + 2 by omega)),
  (show n + 3≠n from Nat.ne_of_gt (show (n:Nat) < n + 3 by omega)),
  (show n + 3≠n + 1 from Nat.ne_of_gt (show (n + 1:Nat) < n + 3 by omega)),
  (show n≠n + 4 from Nat.ne_of_lt (show (n:Nat) < n + 4 by omega)),
  (show n + 1≠n + 4 from Nat.ne_of_lt (show (n + 1:Nat) < n + 4 by omega)),
  (show n≠n + 1 from Nat.ne_of_lt (show (n:Nat) < n + 1 by omega))⟩
noncomputable def D7 (K:PySem.W.Frag) (bW:eH):TI:=fun σ H R=>bW σ H fun vs H1=>∃x l,vs=[.str x,.ref l]∧(∃ys,cu K H1 l ys)∧R (wk K x l) H1
theorem Q6 {a b:Expr} {bW:eH} {p pos:Pos} (hg:cv X "zip") (hm:X.mg "zip"=none) (ha:e8 X [a,b] bW) (hs:starEach [a,b] X.env=[(false,eval a X.env),(false,eval b X.env)]:=by rfl) (hs2:starEach [b] X.env=[(false,eval b X.env)]:=by rfl) :
  fZ X (.Tuple elts b0 sR) (.Call (.Name "zip" p) [a,b] [] pos) (D7 X.K bW):=by
 have hb:bootBuiltins "zip"=some (.type "zip"):=by kernel_rfl
 intro pins s σ H R I h
 refine PyProof.Rows.Call_ (pI I hg hm hb (PyProof.Rows.callWith_type1 (bu (ha pos pins s σ H _ I h) fun us s1 ⟨vs,H1,aP,ao,aW⟩=>?_) (by rw [hs,hs2]) (by rw [hs2]; rfl)))
 obtain ⟨x,l,e,⟨ys,aD⟩,q⟩:=aW
 subst e
 obtain ⟨u,kR,rfl,⟨t,rfl⟩,ed⟩:=vals2 ao
 cases ed
 obtain ⟨its,bN,ht,a5⟩:=aP.tuple aD
 refine Jk (show s1.heap.IsTuple l its.toArray from ht) fun h' a1 a2 fi jY oW oX hk=>?_
 have bZ:Inv X pins σ H1 { s1 with heap:=h' }:=aP.kept (t':=s1.toks) hk
 refine wpAny_pyIter_zip a1 ?_
 refine ⟨s1.heap.objs.size + 4,[s1.heap.objs.size + 4,s1.heap.objs.size + 2,s1.heap.objs.size + 3,s1.heap.objs.size,s1.heap.objs.size + 1],_,_,H1,rfl,bZ,Uq x t l _ _ _ _ _ (VY s1.heap.objs.size),⟨a1,a2,⟨_,_,fi⟩,jY,oW⟩,fun b hb=>?_,q⟩
 have hb:s1.heap.objs.size≤b:=by
  have hb:b=s1.heap.objs.size + 4∨b=s1.heap.objs.size + 2∨b=s1.heap.objs.size + 3∨b=s1.heap.objs.size∨b=s1.heap.objs.size + 1:=by simpa using hb
  rcases hb with q | q | q | q | q
  · rw [q]; exact Nat.le_add_right _ _
  · rw [q]; exact Nat.le_add_right _ _
  · rw [q]; exact Nat.le_add_right _ _
  · rw [q]; exact Nat.le_refl _
  · rw [q]; exact Nat.le_add_right _ _
 exact aP.mC hb (aP.bk.fresh hb)
end
end aZ
set_option Elab.async false
set_option linter.all false
set_option maxRecDepth 100000
namespace aA
open PySem PySem.Spec aZ
section
variable {X:aG} {F:bf} {e a b c bl iter elt:Expr} {ae:List Expr} {pos p:Pos} {m n:ay} {ma:aK}
noncomputable def il (c:Nat):D:= .str ⟨#[c]⟩
noncomputable def Aj:D→R (List D)
 | .str x=> .ok (x.cps.toList.map il)
 | _=> .bad
theorem ND {K:PySem.W.Frag} {G:J} (x:Str):jS K (wi x) (x.cps.toList.map il) G where
 go:=fun i H s hi=>by
  have h:i < x.cps.size:=by simpa using hi
  exact h
 iH:=fun i H v H' s hi y=>by
  obtain ⟨e,c,hc,rfl⟩:=y
  refine ⟨il c,?_,.inl ⟨e,by unfold il; simp only [At]⟩⟩
  rw [List.getElem?_map,Array.getElem?_toList,hc]
  rfl
 stop:=fun H s=>by
  have h:(x.cps.toList.map il).length=x.cps.size:=by simp
  exact h
noncomputable def pR (m:ay):aK:=fun ρ=>(m ρ).bind Aj
theorem M8:ny (jb F (pR m)) (D5 (cA F m)):=by
 rintro σ H Q ⟨G,ρ,r,h⟩
 unfold pR at h
 refine ⟨G,ρ,r,?_⟩
 cases av:m ρ with
 | bad=>rw [av] at h; exact h.elim
 | exc c=>rw [av] at h; exact h
 | ok d=>
   rw [av,R.bo] at h
   intro v H1 aM ao s1 a
   cases d with
   | str x=>simp only [At] at a; exact ⟨x,a,h _ H1 aM ao s1 (ND x)⟩
   | _=>exact h.elim
noncomputable def mB (ds:List D):List D:=ds.zipIdx.map fun p=> .tup [.int (p.2:Int),p.1]
theorem KX {ds:List D} {i:Nat} {d:D} (e:ds[i]? =some d):(mB ds)[i]? =some (.tup [.int (i:Int),d]):=by
 unfold mB
 rw [List.getElem?_map,List.getElem?_zipIdx,e]
 simp
noncomputable def pv:List D→R (List D)
 | [.lst ds]=> .ok (mB ds)
 | [.b7 ds]=> .ok (mB ds)
 | _=> .bad
theorem Ej {K:PySem.W.Frag} {G:J} {l:Addr} {ds:List D} {xs:List V} (h:bI K G l xs) (q:aE K G ds xs):jS K (wg K l) (mB ds) G where
 go:=fun i H s hi=>by
  have hi:i < ds.length:=by simpa [mB] using hi
  obtain ⟨v,e,_⟩:=q.get (List.getElem?_eq_getElem hi)
  exact ⟨xs,v,bI.mono s h,e⟩
 iH:=fun i H v H' s hi y=>by
  obtain ⟨p,x,hp,rfl,rfl,y⟩:=y
  have ex:=y xs (bI.mono s h)
  obtain ⟨d,e,a⟩:=q.ug ex
  exact ⟨_,KX e,.inr ⟨p,_,_,hp,rfl,rfl,rfl,.cons (by simp only [At]) (.cons a .nil)⟩⟩
 stop:=fun H s=>⟨xs,bI.mono s h,by simp [mB,q.length]⟩
noncomputable def lH (m:aK):aK:=fun ρ=>(m ρ).bind pv
theorem ME (hK:F.K=X.K):ny (jb F (lH ma)) (D2 X.K (ee F ma)):=by
 rintro σ H Q ⟨G,ρ,r,h⟩
 unfold lH at h
 refine ⟨G,ρ,r,?_⟩
 cases av:ma ρ with
 | bad=>rw [av] at h; exact h.elim
 | exc c=>rw [av] at h; exact h
 | ok ds=>
   rw [av,R.bo] at h
   intro vs H1 aM ao s1 al
   unfold pv at h
   split at h
   · rename_i ds
     obtain ⟨v,rfl,a⟩:=al.one
     simp only [At] at a
     obtain ⟨q,xs,rfl,aD,fH⟩:=a
     have fS:bI X.K aM q xs:=bI.of aD
     rw [←hK] at fS
     refine ⟨q,rfl,⟨xs,by rw [←hK]; exact bI.mono ao.aC.sub fS⟩,?_⟩
     rw [←hK]
     exact h _ H1 aM ao s1 (Ej fS fH)
   · rename_i ds
     obtain ⟨v,rfl,a⟩:=al.one
     simp only [At] at a
     obtain ⟨q,xs,rfl,aD,fH⟩:=a
     refine ⟨q,rfl,⟨xs,by rw [←hK]; exact bI.mono ao.aC.sub aD⟩,?_⟩
     rw [←hK]
     exact h _ H1 aM ao s1 (Ej aD fH)
   · exact h.elim
noncomputable def oH (xs:List Nat) (ys:List D):List D:=(xs.zip ys).map fun p=> .tup [il p.1,p.2]
noncomputable def A8:List D→R (List D)
 | [.str x,.c1 ys]=> .ok (oH x.cps.toList ys)
 | _=> .bad
theorem NF {K:PySem.W.Frag} {G:J} {x:Str} {l:Addr} {ds:List D} {xs:List V} (h:cu K G l xs) (q:aE K G ds xs):jS K (wk K x l) (oH x.cps.toList ds) G where
 go:=fun i H s hi=>by
  have hi:i < min x.cps.size ds.length:=by simpa [oH] using hi
  have h1:i < ds.length:=by omega
  obtain ⟨v,e,_⟩:=q.get (List.getElem?_eq_getElem h1)
  exact ⟨by omega,xs,v,cu.mono s h,e⟩
 iH:=fun i H v H' s hi y=>by
  obtain ⟨p,c,qt,hc,hp,rfl,rfl,y⟩:=y
  have ex:=y xs (cu.mono s h)
  obtain ⟨d,e,a⟩:=q.ug ex
  refine ⟨.tup [il c,d],?_,.inr ⟨p,_,_,hp,rfl,rfl,rfl,.cons (by unfold il; simp only [At]) (.cons a .nil)⟩⟩
  unfold oH
  rw [List.getElem?_map]
  have xx:(x.cps.toList.zip ds)[i]? =some (c,d):=by
   rw [List.getElem?_zip_eq_some]
   exact ⟨by rw [Array.getElem?_toList]; exact hc,e⟩
  rw [xx]
  rfl
 stop:=fun H s=>⟨xs,cu.mono s h,by simp [oH,q.length]⟩
noncomputable def pS (m:aK):aK:=fun ρ=>(m ρ).bind A8
theorem Nf (hK:F.K=X.K):ny (jb F (pS ma)) (D7 X.K (ee F ma)):=by
 rintro σ H Q ⟨G,ρ,r,h⟩
 unfold pS at h
 refine ⟨G,ρ,r,?_⟩
 cases av:ma ρ with
 | bad=>rw [av] at h; exact h.elim
 | exc c=>rw [av] at h; exact h
 | ok ds=>
   rw [av,R.bo] at h
   intro vs H1 aM ao s1 al
   unfold A8 at h
   split at h
   · rename_i x ys
     obtain ⟨v,w,rfl,bc,iN⟩:=al.two
     simp only [At] at bc iN
     subst bc
     obtain ⟨q,xs,rfl,aD,fH⟩:=iN
     refine ⟨x,q,rfl,⟨xs,by rw [←hK]; exact cu.mono ao.aC.sub aD⟩,?_⟩
     rw [←hK]
     exact h _ H1 aM ao s1 (NF aD fH)
   · exact h.elim
theorem UO (h:a3 X F e m) (hK:F.K=X.K:=by rfl):jf X F bl e (hD m):=fZ.imp (Q2 h) (by rw [←hK]; exact ML)
theorem US (h:a3 X F e m) (hK:F.K=X.K:=by rfl):jf X F bl e (n5 m):=fZ.imp (Q5 h) (by rw [←hK]; exact Na)
theorem UR (h:a3 X F e m):jf X F bl e (pR m):=fZ.imp (Q4 h) M8
theorem UQ (hm:X.mg "range"=none) (ha:fV X F [a] ma) (hg:cv X "range":=by rfl) (hs:starEach [a] X.env=[(false,eval a X.env)]:=by rfl):jf X F bl (.Call (.Name "range" p) [a] [] pos) (jy ma):=fZ.imp (Q3 hg hm ha hs) MY
theorem UN {elts:List Expr} {k:Nat} {lU:Pos} (hm:X.mg "enumerate"=none) (ha:fV X F [a] ma) (hK:F.K=X.K:=by rfl) (hg:cv X "enumerate":=by rfl) (hs:starEach [a] X.env=[(false,eval a X.env)]:=by rfl):jf X F (.Tuple elts k lU) (.Call (.Name "enumerate" p) [a] [] pos) (lH ma):=fZ.imp (Q1 hg hm ha hs) (ME hK)
theorem UT {elts:List Expr} {k:Nat} {lU:Pos} (hm:X.mg "zip"=none) (ha:fV X F [a,b] ma) (hK:F.K=X.K:=by rfl) (hg:cv X "zip":=by rfl) (hs:starEach [a,b] X.env=[(false,eval a X.env),(false,eval b X.env)]:=by rfl) (hs2:starEach [b] X.env=[(false,eval b X.env)]:=by rfl) :
  jf X F (.Tuple elts k lU) (.Call (.Name "zip" p) [a,b] [] pos) (pS ma):=fZ.imp (Q6 hg hm ha hs hs2) (Nf hK)
structure GM (X:aG) (bl:Expr) (set:D→ai→R ai):Prop where
 ex:∃g,hP X bl g∧∀F:bf,F.K=X.K→kW F g set
 eK:∀d ρ c,set d ρ≠ .exc c
 keeps:Keeps set
theorem kc (i:Nat) {x:Str} (hN:X.N.Nodup) (hi:X.N[i]? =some x:=by rfl) (hx:Loc X.env.scope x:=by first | exact Or.inl rfl | exact Or.inr rfl) (hf:X.fn x=true∨X.env.scope.names.lookup x=some .local:=by first | exact .inl rfl | exact .inr rfl):GM X (.Name x pos) (bQ i):=
 ⟨⟨hY i,vf hN hi hx hf,fun _ _=>uf i⟩,vt i,vr i⟩
structure tr (X:aG) (Ud:List Expr) (aO:List (D→ai→R ai)):Prop where
 ex:∃g,qN X Ud g∧∀F:bf,F.K=X.K→qI F g (gK aO)
 eK:∀f∈aO,∀d ρ c,f d ρ≠ .exc c
 keeps:∀f∈aO,Keeps f
theorem yZ:tr X [] []:=⟨⟨ud,FD,fun _ _=>Ds⟩,(fun _ h=>nomatch h),(fun _ h=>nomatch h)⟩
theorem p4 {f:D→ai→R ai} {aO:List (D→ai→R ai)} (h:GM X e f) (t:tr X ae aO) (hs:(assignEach (e::ae) X.env).map (·.2)=assign e X.env::(assignEach ae X.env).map (·.2):=by rfl):tr X (e::ae) (f::aO):=by
 obtain ⟨⟨g,h1,h2⟩,h3,h4⟩:=h
 obtain ⟨⟨lr,t1,dV⟩,t3,Ar⟩:=t
 exact ⟨⟨rk g lr,zf h1 t1 hs,fun F kC=>xK (h2 F kC) (dV F kC)⟩,fun k hk=>by rcases List.mem_cons.mp hk with rfl | hk; exact h3; exact t3 k hk,fun k hk=>by rcases List.mem_cons.mp hk with rfl | hk; exact h4; exact Ar k hk⟩
theorem y0 {k:Nat} {aO:List (D→ai→R ai)} (hc:X.calm=true) (h:tr X ae aO) (aN:(assignEach ae X.env).length=aO.length:=by rfl) (hst:(assignEach ae X.env).findIdx? (·.1)=none:=by rfl):GM X (.Tuple ae k pos) (fR aO):=by
 obtain ⟨⟨lr,t1,dV⟩,t3,Ar⟩:=h
 exact ⟨⟨ue X.K aO.length lr,FC hc t1 aN hst,fun F kC=>by rw [←kC]; exact Dt rfl (dV F kC)⟩,Gi t3,Gh Ar⟩
theorem Sf {body:List Stmt} {mi:aK} {set:D→ai→R ai} {e4:a0} (hp:PassesOwn (model X.prog X.w) X.A X.env X.xe) (hi:jf X F bl iter mi) (hg:GM X bl set) (hb:l7 X F body e4) (hc:X.calm=true:=by rfl) (hK:F.K=X.K:=by rfl) (hs:∀x,foldedSetIterable iter X.env x=pure x:=by intro _; rfl) :
  fx X F (.For bl iter body [] pos) (fO mi set e4):=by
 obtain ⟨⟨g,h1,h2⟩,h3,_⟩:=hg
 exact cK.imp (Rf hp hc hi h1 hb hs) (MF (h2 F hK) h3)
noncomputable abbrev qu (X:aG) (scope:Scope) (N:List Str) (e:Expr) (m:ay):Prop:=∀cl C s H aL bw a7,a3 (ef X scope N cl C s H aL) (dO X.K bw a7) e m
noncomputable abbrev jc (X:aG) (scope:Scope) (N:List Str) (ifs:List Expr) (m:bJ):Prop:=∀cl C s H aL bw a7,k8 (ef X scope N cl C s H aL) ifs (fc (dO X.K bw a7) m)
noncomputable abbrev qv (X:aG) (scope:Scope) (N:List Str) (bl:Expr) (set:D→ai→R ai):Prop:=∃g,(∀cl C s H aL,hP (ef X scope N cl C s H aL) bl g)∧(∀bw a7,kW (dO X.K bw a7) g set)
theorem BQ {scope:Scope} {N:List Str} {g:gE} {set:D→ai→R ai} (h:∀cl C s H aL,hP (ef X scope N cl C s H aL) bl g) (k:∀F:bf,F.K=X.K→kW F g set):qv X scope N bl set:=⟨g,h,fun bw a7=>k (dO X.K bw a7) rfl⟩
noncomputable def dZ:bJ:=fun _=> .ok true
theorem iP {scope:Scope} {N:List Str}:jc X scope N [] dZ:=fun cl C s H aL bw a7 pins s' σ H' Q I h=>by
 obtain ⟨G,ρ,r,k⟩:=h
 exact Rp pins s' σ H' Q I (k H' G r (b2.refl _ _))
theorem IY {scope:Scope} {N:List Str} {mt:bJ} (h:∀cl C s H aL bw a7,fy (ef X scope N cl C s H aL) (dO X.K bw a7) c mt):jc X scope N [c] mt:=fun cl C s H aL bw a7=>Rq (h cl C s H aL bw a7)
theorem B7 {scope:Scope} {N:List Str} {ifs:List Expr} {nl:Nat} {caps:List Nat} {mi:aK} {set:D→ai→R ai} {mt:bJ} {dt:ay} (hK:F.K=X.K) (hi:jf X F bl iter mi) (hg:qv X scope N bl set) (ht:jc X scope N ifs mt) (he:qu X scope N elt dt) (hx:∀d ρ c,set d ρ≠ .exc c) (hk:Keeps set)
  {Q:TE→Prop} (k:∀g,(∀cl C s H aL,hP (ef X scope N cl C s H aL) bl g)→(∀cl C s H aL,k8 (ef X scope N cl C s H aL) ifs (qq X.K mt))→(∀cl C s H aL,aS (ef X scope N cl C s H aL) elt (AV X.K dt))→ek (iF F (d_ nl caps mi set mt dt)) (qi (jb F mi) g (qq X.K mt) (AV X.K dt) nl caps)→Q (iF F (d_ nl caps mi set mt dt))):Q (iF F (d_ nl caps mi set mt dt)):=by
 obtain ⟨g,g1,g2⟩:=hg
 refine k g g1 (fun cl C s H aL pins s' σ H' iL I h=>?_) (fun cl C s H aL pins s' σ H' iL I h=>?_) ?_
 · obtain ⟨bw,a7,h⟩:=h
   exact ht cl C s H aL bw a7 pins s' σ H' iL I h
 · obtain ⟨bw,a7,h⟩:=h
   exact he cl C s H aL bw a7 pins s' σ H' iL I h
 · have z:=Mx (F:=F) (nl:=nl) (caps:=caps) (mi:=mi) (tst:=mt) (elt:=dt) (g:=g) (set:=set) (fun bw a7=>by rw [hK]; exact g2 bw a7) hx hk
   rw [hK] at z
   exact z
theorem PX {scope:Scope} {N:List Str} {ifs:List Expr} {nl:Nat} {caps:List Nat} {mi:aK} {set:D→ai→R ai} {mt:bJ} {dt:ay} (S:kV X.env.scope X.N scope N nl caps) (hi:jf X F bl iter mi) (hg:qv X scope N bl set) (hx:∀d ρ c,set d ρ≠ .exc c) (hk:Keeps set) (ht:jc X scope N ifs mt) (he:qu X scope N elt dt)
  (hc:X.calm=true:=by rfl) (hK:F.K=X.K:=by rfl) (hs:∀x,foldedSetIterable iter X.env x=pure x:=by intro _; rfl):mb X F (.ListComp elt [⟨bl,iter,ifs,0⟩] scope pos) (d_ nl caps mi set mt dt):=
 B7 (nl:=nl) (caps:=caps) (Q:=fun t=>aS X (.ListComp elt [⟨bl,iter,ifs,0⟩] scope pos) t) hK hi hg ht he hx hk fun g g1 t1 ah imp=>aS.imp (QG S hc hi g1 t1 ah hs) imp
theorem R8 (i:Nat) {y:Str} {py:Pos} {scope:Scope} {N:List Str} {ifs:List Expr} {nl:Nat} {caps:List Nat} {mi:aK} {set:D→ai→R ai} {mt:bJ} {dt:ay} {bS:Pos} (hN:X.N.Nodup) (S:kV X.env.scope X.N scope N nl caps) (hi:jf X F bl iter mi) (hg:qv X scope N bl set) (hx:∀d ρ c,set d ρ≠ .exc c) (hk:Keeps set) (ht:jc X scope N ifs mt) (he:qu X scope N elt dt)
  (cg:X.N[i]? =some y:=by rfl) (hl:X.env.kindOf y=some .local:=by rfl) (iT:swapsWith (.ListComp elt [⟨bl,iter,ifs,0⟩] scope bS) (some (.Name y py)) pos.line X.env=pure true:=by rfl) (hc:X.calm=true:=by rfl) (hK:F.K=X.K:=by rfl) (hs:∀x,foldedSetIterable iter X.env x=pure x:=by intro _; rfl) :
  fx X F (.Assign [.Name y py] (.ListComp elt [⟨bl,iter,ifs,0⟩] scope bS) pos) (gr i (d_ nl caps mi set mt dt)):=by
 refine cK.imp (t:=kP (iF F (d_ nl caps mi set mt dt)) (hY i)) ?_ yo
 refine B7 (nl:=nl) (caps:=caps) (Q:=fun t=>cK X (.Assign [.Name y py] (.ListComp elt [⟨bl,iter,ifs,0⟩] scope bS) pos) (kP t (hY i))) hK hi hg ht he hx hk fun g g1 t1 ah imp=>?_
 exact cK.imp (FH S hc hN cg hl hi g1 t1 ah iT hs) fun b6 σ H h=>imp σ H _ h
end
end aA
set_option Elab.async false
set_option linter.all false
set_option maxRecDepth 100000
namespace aA
open PySem PySem.Spec aZ
section
variable {X:aG} {F:bf} {e a b c:Expr} {ae:List Expr} {pos p:Pos} {m n:ay} {ma:aK}
noncomputable def lh:List D→Option (List Bool)
 | []=>some []
 | .au b::r=>(lh r).map (b:: ·)
 | _::_=>none
theorem BS {K:PySem.W.Frag} {G:J}:∀{ds:List D} {xs:List V} {bs:List Bool},aE K G ds xs→lh ds=some bs→xs=bs.map V.au
 | [],_,_,q,e=>by simp only [aE] at q; subst q; cases e; rfl
 | d::ds,_,bs,q,e=>by
   simp only [aE] at q
   obtain ⟨v,r,rfl,a,lb⟩:=q
   cases d with
   | au b=>
     simp only [At] at a; subst a
     simp only [lh] at e
     cases ah:lh ds with
     | none=>rw [ah] at e; cases e
     | some cs=>
       rw [ah] at e
       have bq:b::cs=bs:=Option.some.inj e
       subst bq
       rw [BS lb ah]; rfl
   | _=>cases e
theorem Hq:∀{bs:List Bool} {us:List Value},Vals (bs.map V.au) us→us=bs.map Value.bool
 | [],_,r=>by cases r; rfl
 | b::bs,_,r=>by
   cases r with
   | cons ao a_=>cases ao; rw [Hq a_]; rfl
theorem Jc (hc:X.calm=true) (mI:X.A.handled=none):gz X (.builtin "all") (fun xs H Q=>∃(p:Addr) (bs:List Bool),xs=[.ref p]∧bI X.K H p (bs.map V.au)∧Q (.au (bs.all id)) H):=by
 intro pins s σ H xs us Q I r h
 obtain ⟨p,bs,rfl,aD,q⟩:=h
 obtain ⟨u,rfl,ed⟩:=vals1 r
 cases ed
 obtain ⟨its,bN,pl,a5⟩:=I.list aD
 have hq:=Hq bN
 refine call_all_walk (wpAny_pyIter_list pl.isList ?_)
 have x8:p≠s.heap.objs.size:=by obtain ⟨o,ho,_⟩:=pl.isList; exact Nat.ne_of_lt (Heap.lt_size ho)
 refine ⟨s.heap.objs.size,_,_,_,_,_,fun i=>(bs[i]?).getD true,rfl,Walks.list (prog:=X.prog) (w:=X.w) (A:=X.A.in1) mI s.heap.objs.size p x8 its.toArray,⟨⟨_,Heap.get?_push_size _ rfl,rfl,rfl⟩,pl.isList.push _⟩,?_,fun h' cR b0=>?_⟩
 · intro i v s' iL qG dT xP
   rw [hq] at dT
   have dT:(bs.map Value.bool)[i]? =some v:=by simpa using dT
   rw [List.getElem?_map] at dT
   cases bq:bs[i]? with
   | none=>rw [bq] at dT; cases dT
   | some b=>
     rw [bq] at dT
     have ev:Value.bool b=v:=Option.some.inj dT
     subst ev
     dsimp only at xP
     rw [bq] at xP
     exact wpAny_truthy_bool xP
 · have xR:(List.range its.toArray.size).all (fun i=>(bs[i]?).getD true)=bs.all id:=by
    have hl:its.toArray.size=bs.length:=by rw [hq]; simp
    rw [hl,Bool.eq_iff_iff,List.all_eq_true,List.all_eq_true]
    constructor
    · intro hh x hx
      obtain ⟨i,hi,rfl⟩:=List.mem_iff_getElem.mp hx
      have:=hh i (List.mem_range.mpr hi)
      rw [List.getElem?_eq_getElem hi] at this
      exact this
    · intro hh i hi
      have hi:=List.mem_range.mp hi
      rw [List.getElem?_eq_getElem hi]
      exact hh _ (List.getElem_mem hi)
   rw [xR]
   exact ⟨.au _,H,I.kept (t':=cR) fun b o aw=>b0 b o (by
    intro z
    have z:b=s.heap.objs.size:=by simpa using z
    exact absurd (Heap.lt_size aw) (by rw [z]; exact Nat.lt_irrefl _)) (Heap.get?_push_of_some _ aw),rfl,q⟩
noncomputable def c4:List D→R D
 | [.lst ds]=>match lh ds with | some bs=> .ok (.au (bs.all id)) | none=> .bad
 | _=> .bad
theorem P6:l_ F (fun xs H Q=>∃(p:Addr) (bs:List Bool),xs=[.ref p]∧bI X.K H p (bs.map V.au)∧Q (.au (bs.all id)) H) c4:=by
 intro σ ρ G H xs ds Q r al k
 unfold c4 at k
 split at k
 · rename_i ds
   split at k
   · rename_i bs bq
     obtain ⟨v,rfl,bc⟩:=al.one
     simp only [At] at bc
     obtain ⟨q,xs,rfl,aD,fH⟩:=bc
     have:=BS fH bq
     subst this
     exact ⟨q,bs,rfl,bI.of (r.aC.sub _ _ aD),k _ H G r (b2.refl _ _) (by simp only [At])⟩
   · exact k.elim
 · exact k.elim
theorem J6 {k:Nat} (hr:cZ k X.A) (hm:X.mg "all"=none) (ha:fV X F [e] ma) (hc:X.calm=true:=by rfl) (hg:cv X "all":=by rfl) (he:starEach [e] X.env=(false,eval e X.env)::starEach [] X.env:=by rfl) (hpl:(backTo pos (starEach [] X.env)).any (·.1)=false:=by rfl) :
  a3 X F (.Call (.Name "all" p) [e] [] pos) (cy c4 ma):=Cp (Jc hc hr.hd) P6 hm (by kernel_rfl) ha hg (by decide) (by decide) he hpl
end
end aA
set_option Elab.async false
set_option linter.all false
set_option maxRecDepth 100000
namespace aA
open PySem PySem.Spec aZ
section
variable {X:aG} {F:bf} {e a b c:Expr} {ae:List Expr} {pos p:Pos} {m n:ay} {ma:aK}
noncomputable def ownAt (i:Nat) (ρ:ai):R (List D):=match ρ[i]? with
 | some (.aU (.lst ds))=> .ok ds
 | _=> .bad
noncomputable def n4 (i:Nat) (m:ay):a0:=fun ρ=>(ownAt i ρ).bind fun ds=>(m ρ).bind fun d=>if ds.length < 1000000 then .ok (.a9 (ρ.set i (.df (ds ++ [d])))) else .bad
theorem R6 (i:Nat) {x:Str} {bg:Pos} {apos:Pos} {bS:Pos} (he:a3 X F e m) (hN:X.N[i]? =some x:=by rfl) (hv:fG X.env.scope x:=by first | exact Or.inl rfl | exact Or.inr (Or.inl rfl) | exact Or.inr (Or.inr rfl)) (hd:(x == ("__debug__" :Str))=false:=by decide) (hcd:(x == ("__classdict__" :Str))=false:=by decide)
  (hbase:attributeBase (.Name x bg) "append" X.env (eval (.Name x bg) X.env)=eval (.Name x bg) X.env:=by rfl) (hline:(apos.endLine == bS.line)=true:=by rfl)
  (hfew:((backTo bS (starEach [e] X.env)).all (fun x=> !x.1) && (backToKw bS (keywordEach [] X.env)).all (fun x=>x.1.isSome)
    && decide (([e]:List Expr).length + ([]:List Keyword).length + (if ([]:List Keyword).isEmpty then 0 else 1) < 30))=true:=by rfl)
  (hs:starEach [e] X.env=(false,eval e X.env)::starEach [] X.env:=by rfl) (hplain:(backTo bS (starEach [] X.env)).any (·.1)=false:=by rfl)
  (hK:F.K=X.K:=by rfl) :
  fx X F (.Expr (.Call (.Attribute (.Name x bg) "append" apos) [e] [] bS) pos) (n4 i m):=by
 refine cK.imp (sl (si PySem.F.plainAttrs_list PySem.F.slot_list_append PySem.F.type_list_append yX (jE hN hv hd hcd) (i7 he lN hs) hbase hfew hline hs hplain) (kO _ _ _ _ rfl)) ?_
 rintro b6 σ H ⟨G,ρ,r,h⟩
 unfold n4 ownAt at h
 cases cJ:ρ[i]? with
 | none=>rw [cJ] at h; exact h.elim
 | some s=>
   rw [cJ] at h
   cases s with
   | un=>exact h.elim
   | ax _=>exact h.elim
   | dm _=>exact h.elim
   | aU aU=>
    cases aU with
    | bx _ _=>exact h.elim
    | ins _ _ _=>exact h.elim
    | lst ds=>
     obtain ⟨q,xs,ah,h1,h2,h3,h4⟩:=r.own cJ
     have h:f7 F G b6 ((m ρ).bind fun d=>if ds.length < 1000000 then .ok (.a9 (ρ.set i (.df (ds ++ [d])))) else .bad):=h
     refine ⟨.ref q,ah,.inl ⟨rfl,xs,bI.of h1⟩,G,ρ,r,?_⟩
     cases av:m ρ with
     | bad=>rw [av] at h; exact h.elim
     | exc c=>rw [av] at h; exact h
     | ok d=>
       rw [av,R.bo] at h
       intro v H1 aM ao s1 bc
       obtain ⟨cS,gd,gm,cC,b_,Dv,mF⟩:=ao.own cJ
       rw [ah] at gm
       cases gm
       by_cases hl:ds.length < 1000000
       · rw [if_pos hl] at h
         refine ⟨q,gd,v,rfl,rfl,cC,by rw [←mF.length]; exact Nat.lt_trans hl (by decide),?_⟩
         exact h σ aM _ (ao.mut cJ ah (mF.snoc bc)) s1.g
       · rw [if_neg hl] at h; exact h.elim
end
end aA
set_option Elab.async false
set_option linter.all false
set_option maxRecDepth 100000
set_option autoImplicit false
namespace aA
open PySem PySem.Spec aZ
noncomputable abbrev lQ (K:PySem.W.Frag) (n:Nat) (mf:List D→R b1):iv:=m8 K n (fun _ _ _=>False) mf
structure dy (P:Program) (w:World) (K:PySem.W.Frag) (mg:Str→Option Value) (base:Heap) (x:Str) (n k:Nat) (mf:List D→R b1):Prop where
 ex:∃(f:Addr) (fd:FuncData) (aB:List Str),aB.length=n∧gC P w K mg base gg k f fd aB (lQ K n mf)∧mg x=some (.ref f)∧PySem.W.keepIn K (.ref f)=true∧Binds K fd aB []
section
variable {X:aG} {F:bf} {e:Expr} {ae:List Expr} {pos p:Pos} {ma:aK} {x:Str} {n k:Nat} {mf:List D→R b1}
theorem Ka (c:dy X.prog X.w X.K X.mg X.base x n k mf) (hr:cZ k X.A) (ha:fV X F (e::ae) ma) (hE:F.gB=fun _ _=>False:=by rfl) (hK:F.K=X.K:=by rfl) (hg:cv X x:=by rfl) (hdb:(x == ("__debug__" :Str))=false:=by decide)
  (he:starEach (e::ae) X.env=(false,eval e X.env)::starEach ae X.env:=by rfl) (hpl:(backTo pos (starEach ae X.env)).any (·.1)=false:=by rfl):a3 X F (.Call (.Name x p) (e::ae) [] pos) (b5 n mf ma):=by
 obtain ⟨f,fd,aB,aN,j2,hm,hk,hb⟩:=c.ex
 refine aS.imp (zc j2 hr hg hm hk hb .nil ve ha hdb he hpl) ?_
 rw [←hK]
 exact D9 (xe:=fun _ _ _=>False) (E:=wb) hE
theorem PW (c:dy X.prog X.w X.K X.mg X.base x n k mf) (hr:cZ k X.A) (ha:fV X F (e::ae) ma) (hE:F.gB=fun _ _=>False:=by rfl) (hK:F.K=X.K:=by rfl) (hg:cv X x:=by rfl) (hdb:(x == ("__debug__" :Str))=false:=by decide)
  (he:starEach (e::ae) X.env=(false,eval e X.env)::starEach ae X.env:=by rfl) (hpl:(backTo pos (starEach ae X.env)).any (·.1)=false:=by rfl):mb X F (.Call (.Name x p) (e::ae) [] pos) (kH n mf ma):=by
 obtain ⟨f,fd,aB,aN,j2,hm,hk,hb⟩:=c.ex
 refine aS.imp (zc j2 hr hg hm hk hb .nil ve ha hdb he hpl) ?_
 rw [←hK]
 exact Mw (xe:=fun _ _ _=>False) (E:=wb) hE
end
structure di (K:PySem.W.Frag) (mg:Str→Option Value) (x:Str) (st:Stmt) (aB:List Str):Prop where
 ex:∃(f:Addr) (fd:FuncData),jP K x x st f fd∧mg x=some (.ref f)∧Binds K fd aB []
theorem JA {P:Program} {w:World} {K:PySem.W.Frag} {mg:Str→Option Value} {base:Heap} {x:Str} {st:Stmt} {N aB:List Str} {k:Nat} {m:a0} (d:di K mg x st aB) (S:cP N aB (bP st))
  (h:∀(f:Addr) (bX:Value) (A:Around) (outer:List Env) (s:Shared) (H:J) (E:cM),cZ k (A.deeper (PyProof.Rows.envOfC x (bP st) s.heap.objs.size f bX))→∀bw a7,l7 (eo gg P w K mg base N x (bP st) f bX A outer s H E).f9 (dO K bw a7) (fl st) m) :
  dy P w K mg base x aB.length (k + 1) (cU N.length m):=by
 obtain ⟨f,fd,fn,hm,hb⟩:=d.ex
 refine ⟨f,fd,aB,rfl,fn.ok S vu fun bX A outer s H vs Q E hr hs=>?_,hm,fn.aC,hb⟩
 obtain ⟨G,ht⟩:=tT hs
 exact ⟨_,h f bX A outer s H E hr G H,ht⟩
theorem K9 {K:PySem.W.Frag} {h:Heap} {mg:Str→Option Value} {x:Str} {st:Stmt} {aB:List Str} {f:Addr} {eL:Value} {de an:Option Addr} {kf:Array (Option Value)} {cE doc pm bX cj:Value} (X:K.In h) (G:h.Ns mainGlobals mg)
  (a:PySem.W.nsIn K mainGlobals x=some (some (.ref f))) (l:K.lookup f=some ⟨eL,de,.func (PySem.W.fnOf x x (iR st) (fl st) (bP st) .none cE doc pm an bX cj),kf⟩)
  (c:PySem.W.codeIn K bX x=true) (k:PySem.W.keepIn K (.ref f)=true)
  (b:∀(cE doc pm:Value) (an:Option Addr) (bX cj:Value) (us:List Value),us.length=aB.length→bindArgs (PySem.W.fnOf x x (iR st) (fl st) (bP st) .none cE doc pm an bX cj) ⟨us,[]⟩=pure (aB.zip us)):di K mg x st aB:=
 ⟨f,_,nV (st:=st) l c k,PySem.W.mg_of X G a,(nV (st:=st) l c k).binds b⟩
theorem OU {K:PySem.W.Frag} {mf:List D→R b1} {H:J} {a:Addr} {ns:List Int} (j4:bI K H a (ns.map V.int)) (h:mf [.b7 (ns.map .int)]= .ok (.v (.au true))) (E:cM):lQ K 1 mf [.ref a] H (fun v _=>v= .au true) E:=by
 refine ⟨H,[.b7 (ns.map .int)],Sub.refl _,.cons ?_ .nil,rfl,?_⟩
 · simp only [At]
   refine ⟨a,_,rfl,j4,?_⟩
   induction ns with
   | nil=>exact .nil
   | cons n r b8=>exact .cons (by simp only [At]) (Ed r)
 · rw [h]
   intro v G' H' _ bc
   simp only [At] at bc
   exact bc
where
 Ed {K:PySem.W.Frag} {H:J}:∀r:List Int,aE K H (r.map .int) (r.map V.int)
  | []=> .nil
  | n::r=> .cons (by simp only [At]) (Ed r)
end aA
set_option Elab.async false
set_option linter.all false
set_option maxRecDepth 100000
set_option autoImplicit false
namespace aA
open PySem PySem.Spec aZ
section
variable {X:aG} {F:bf} {e a b c bl iter elt:Expr} {ae:List Expr} {pos p:Pos} {m n:ay} {ma:aK} {scope:Scope} {N:List Str}
structure l6 (X:aG) (scope:Scope) (N:List Str) (bl:Expr) (set:D→ai→R ai):Prop where
 g:qv X scope N bl set
 a9:∀d ρ c,set d ρ≠ .exc c
 aC:Keeps set
theorem lg (i:Nat) {x:Str} (hN:N.Nodup:=by decide +kernel) (hi:N[i]? =some x:=by rfl) (hl:(relabel scope X.env).names.lookup x=some .local:=by rfl):l6 X scope N (.Name x pos) (bQ i):=
 ⟨BQ (g:=hY i) (fun cl C s H aL=>vf (X:=ef X scope N cl C s H aL) hN hi (.inl hl) (.inr hl)) fun F _=>uf i,vt i,vr i⟩
theorem o_ (i j:Nat) {x y:Str} {bg py:Pos} {k:Nat} (hc:X.calm=true:=by rfl) (hN:N.Nodup:=by decide +kernel) (hi:N[i]? =some x:=by rfl) (cD:N[j]? =some y:=by rfl) (hl:(relabel scope X.env).names.lookup x=some .local:=by rfl) (hm:(relabel scope X.env).names.lookup y=some .local:=by rfl) :
  l6 X scope N (.Tuple [.Name x bg,.Name y py] k pos) (fR [bQ i,bQ j]):=by
 refine ⟨BQ (g:=ue X.K 2 (rk (hY i) (rk (hY j) ud))) (fun cl C s H aL=>?_) (fun F kC=>?_),Gi ?_,Gh ?_⟩
 · exact FC (X:=ef X scope N cl C s H aL) hc (zf (vf (X:=ef X scope N cl C s H aL) hN hi (.inl hl) (.inr hl)) (zf (vf (X:=ef X scope N cl C s H aL) hN cD (.inl hm) (.inr hm)) FD rfl) rfl) rfl rfl
 · rw [←kC]
   exact Dt rfl (xK (uf i) (xK (uf j) Ds))
 · intro f hf
   rcases List.mem_cons.mp hf with rfl | hf
   · exact vt i
   · rw [List.mem_singleton.mp hf]; exact vt j
 · intro f hf
   rcases List.mem_cons.mp hf with rfl | hf
   · exact vr i
   · rw [List.mem_singleton.mp hf]; exact vr j
theorem PY (nl:Nat) (caps:List Nat) {ifs:List Expr} {mi:aK} {set:D→ai→R ai} {mt:bJ} {dt:ay} (S:nK X.env.scope X.N scope N nl caps=true) (hi:jf X F bl iter mi) (hg:l6 X scope N bl set) (ht:jc X scope N ifs mt) (he:qu X scope N elt dt)
  (hc:X.calm=true:=by rfl) (hK:F.K=X.K:=by rfl) (hs:∀x,foldedSetIterable iter X.env x=pure x:=by intro _; rfl):mb X F (.ListComp elt [⟨bl,iter,ifs,0⟩] scope pos) (d_ nl caps mi set mt dt):=
 PX (.of S) hi hg.g hg.a9 hg.aC ht he hc hK hs
theorem R9 (i:Nat) (nl:Nat) (caps:List Nat) {y:Str} {py:Pos} {ifs:List Expr} {mi:aK} {set:D→ai→R ai} {mt:bJ} {dt:ay} {bS:Pos} (hN:X.N.Nodup) (S:nK X.env.scope X.N scope N nl caps=true) (hi:jf X F bl iter mi) (hg:l6 X scope N bl set) (ht:jc X scope N ifs mt) (he:qu X scope N elt dt)
  (cg:X.N[i]? =some y:=by rfl) (hl:X.env.kindOf y=some .local:=by rfl) (iT:swapsWith (.ListComp elt [⟨bl,iter,ifs,0⟩] scope bS) (some (.Name y py)) pos.line X.env=pure true:=by rfl) (hc:X.calm=true:=by rfl) (hK:F.K=X.K:=by rfl) (hs:∀x,foldedSetIterable iter X.env x=pure x:=by intro _; rfl) :
  fx X F (.Assign [.Name y py] (.ListComp elt [⟨bl,iter,ifs,0⟩] scope bS) pos) (gr i (d_ nl caps mi set mt dt)):=
 R8 i hN (.of S) hi hg.g hg.a9 hg.aC ht he cg hl iT hc hK hs
noncomputable def oa (i:Nat) (a:aK):a0:=fun ρ=>((gr i a) ρ).bind fun f=>match f with
 | .a9 bj=> .ok (.a9 (jl i bj))
 | f=> .ok f
theorem Sq {st:Stmt} {i:Nat} {a:aK} (h:fx X F st (gr i a)):fx X F st (oa i a):=cK.imp h fun b6 σ H ⟨G,ρ,r,k⟩=>by
 refine ⟨G,ρ,r,?_⟩
 unfold oa at k
 cases e:gr i a ρ with
 | bad=>rw [e] at k; exact k.elim
 | exc c=>rw [e] at k; exact k
 | ok f=>
   rw [e,R.bo] at k
   cases f with
   | a9 bj=>
     intro σ' G' H' a4 s'
     obtain ⟨cb,a_,s2⟩:=a4.jl i
     exact k σ' cb H' a_ (s'.trans s2)
   | dF d=>exact k
   | g5 d=>exact k
   | g4 d=>exact k
   | eB d=>exact k
   | cj d=>exact k
noncomputable def uO:ay:=fun _=> .ok (.cL [] [])
theorem Kc {p:Pos}:a3 X F (.Dict [] [] p) uO:=aS.imp QI fun σ H Q ⟨G,ρ,r,h⟩ d hd=>by
 refine h (.ref d) _ _ (r.lay hd) (b2.lay r.aC.sub hd) ?_
 simp only [At]
 exact ⟨d,[],rfl,dv,rfl,.nil⟩
end
theorem G5 {K:PySem.W.Frag} {c:Addr} {dd:Option Addr} {its:Array Value} {n:Nat} {cc:Array (Option Value)} {xs:List V} {ds:List D} (l:K.lookup c=some ⟨.type "tuple",dd,.seq its n,cc⟩) (a5:its.size≤sizeLine) (v:Vals xs its.toList) (a:∀G,aE K G ds xs) :
  ∀G,At K G (.c1 ds) (.ref c):=fun G=>by
 simp only [At]
 exact ⟨c,xs,rfl,.inr ⟨_,its,n,l,rfl,rfl,a5,v⟩,a G⟩
theorem m5 (i:Int) (t:Tok):RelV (.int i) (.int i t):=⟨t,rfl⟩
theorem zx (x:Str) (t:Tok):RelV (.str x) (.str x t):=⟨t,rfl⟩
theorem mr {K:PySem.W.Frag} {G:J} (i:Int):At K G (.int i) (.int i):=by simp only [At]
theorem wz {K:PySem.W.Frag} {G:J} (i:Str):At K G (.str i) (.str i):=by simp only [At]
end aA
set_option Elab.async false
set_option linter.all false
set_option maxRecDepth 100000
set_option autoImplicit false
namespace aA
open PySem PySem.Spec aZ
structure aV (X:aG) (F:bf) (e:Expr) (m:ay):Prop where
 o:aS X e (cA F m)
structure jX (X:aG) (F:bf) (e:Expr) (m:aK):Prop where
 o:aS X e (iF F m)
structure eY (X:aG) (F:bf) (e:Expr) (m:bJ):Prop where
 o:eG X e (fc F m)
structure nG (X:aG) (F:bf) (e:Expr) (m:bJ):Prop where
 o:g_ X e (fc F m)
structure e_ (X:aG) (F:bf) (ae:List Expr) (m:aK):Prop where
 o:e8 X ae (ee F m)
structure d6 (X:aG) (F:bf) (st:Stmt) (m:a0):Prop where
 o:cK X st (et F m)
structure hS (X:aG) (F:bf) (st:List Stmt) (m:a0):Prop where
 o:e9 X st (et F m)
structure kv (X:aG) (F:bf) (bl e:Expr) (m:aK):Prop where
 o:fZ X bl e (jb F m)
structure tJ (X:aG) (F:bf) (e:Option Expr) (m:kq):Prop where
 o:oP X e (vB F m)
section
variable {X:aG} {F:bf} {e a b c bl iter elt:Expr} {ae:List Expr} {pos p:Pos} {m n:ay} {ma:aK} {st:Stmt} {lR:List Stmt}
theorem ak (i:Nat) {x:Str} (hN:X.N[i]? =some x:=by rfl) (hv:fG X.env.scope x:=by first | exact Or.inl rfl | exact Or.inr (Or.inl rfl) | exact Or.inr (Or.inr rfl)) (hd:(x == ("__debug__" :Str))=false:=by decide) (hcd:(x == ("__classdict__" :Str))=false:=by decide):aV X F (.Name x pos) (af i):=⟨aA.KO (i:=i) (hN:=hN) (hv:=hv) (hd:=hd) (hcd:=hcd)⟩
theorem aJ {i:Int} {j}:aV X F (.Constant (.int i) j pos) (aq (.int i)):=⟨aA.Kl ⟩
theorem gN {i:Bool} {j}:aV X F (.Constant (.bool i) j pos) (aq (.au i)):=⟨aA.J8 ⟩
theorem eE {i:Str} {j}:aV X F (.Constant (.str i) j pos) (aq (.str i)):=⟨aA.KD ⟩
theorem gb {j}:aV X F (.Constant .none j pos) (aq .non):=⟨aA.Kw ⟩
theorem aI:e_ X F [] az:=⟨aA.Iq ⟩
theorem aj {m:ay} {r:aK} (h:aV X F e m) (t:e_ X F ae r) (hs:notStar e=true:=by rfl):e_ X F (e::ae) (ag m r):=⟨aA.Ip (h:=h.1) (t:=t.1) (hs:=hs)⟩
theorem dw {k} {m:aK} (h:e_ X F ae m):aV X F (.Tuple ae k pos) (cV m):=⟨aA.KJ (h:=h.1)⟩
theorem ey {m:aK} (h:e_ X F ae m):jX X F (.List ae pos) (dE m):=⟨aA.P0 (h:=h.1)⟩
theorem dn {m:aK} (h:jX X F e m):aV X F e (cW m):=⟨aA.Kh (h:=h.1)⟩
theorem U7 {m:ay} (h:aV X F e m):aV X F e (pO m):=⟨aA.J9 (h:=h.1)⟩
theorem vW {m:bJ} (h:eY X F e m):eY X F e (i2 m):=⟨aA.TZ (h:=h.1)⟩
theorem gy {m:ay} (h:aV X F e m) (he:∀whole,isTrue e X.env whole=(do let v ←whole; standAt e.pos; holding [v] (truthy v)):=by intro _; rfl):eY X F e (bz m):=⟨aA.T_ (h:=h.1) (he:=he)⟩
theorem HV {m:bJ} (h:eY X F a m):nG X F (.BoolOp .And [a] pos) m:=⟨aA.UM (h:=h.1)⟩
theorem l4 {m:bJ} (h:eY X F a m):nG X F (.BoolOp .Or [a] pos) m:=⟨aA.UP (h:=h.1)⟩
theorem HU {m n:bJ} (h:eY X F a m) (k:nG X F (.BoolOp .And (b::ae) pos) n):nG X F (.BoolOp .And (a::b::ae) pos) (lF m n):=⟨aA.w_and (h:=h.1) (k:=k.1)⟩
theorem l3 {m n:bJ} (h:eY X F a m) (k:nG X F (.BoolOp .Or (b::ae) pos) n):nG X F (.BoolOp .Or (a::b::ae) pos) (fE m n):=⟨aA.w_or (h:=h.1) (k:=k.1)⟩
theorem kk {m:bJ} (h:nG X F e m):eY X F e m:=⟨aA.Ua (h:=h.1)⟩
theorem gO {m:bJ} (h:eY X F a m):eY X F (.UnaryOp .Not a pos) (ea m):=⟨aA.T8 (h:=h.1)⟩
theorem l1 {op} {m:ay} (h:aV X F a m):aV X F (.BoolOp op [a] pos) m:=⟨aA.Ky (h:=h.1)⟩
theorem nh {m n:ay} (h:aV X F a m) (k:aV X F (.BoolOp .And (b::ae) pos) n):aV X F (.BoolOp .And (a::b::ae) pos) (i1 m n):=⟨aA.J7 (h:=h.1) (k:=k.1)⟩
theorem Vl {m n:ay} (h:aV X F a m) (k:aV X F (.BoolOp .Or (b::ae) pos) n):aV X F (.BoolOp .Or (a::b::ae) pos) (pU m n):=⟨aA.Kz (h:=h.1) (k:=k.1)⟩
theorem HG {m:ay} (h:aV X F a m):aV X F (.UnaryOp .Not a pos) (n9 m):=⟨aA.Kx (h:=h.1)⟩
theorem HE {k:bJ} {m n:ay} (h:eY X F c k) (ha:aV X F a m) (hb:aV X F b n):aV X F (.IfExp c a b pos) (n6 k m n):=⟨aA.Kj (h:=h.1) (ha:=ha.1) (hb:=hb.1)⟩
theorem eA:hS X F [] dc:=⟨aA.Si ⟩
theorem bR {m n:a0} (h:d6 X F st m) (k:hS X F lR n):hS X F (st::lR) (bt m n):=⟨aA.R_ (h:=h.1) (k:=k.1)⟩
theorem bV {m:a0} (h:d6 X F st m):hS X F [st] m:=⟨aA.Sj (h:=h.1)⟩
theorem VA {m:ay} (h:aV X F e m) (hs:i6 e=true:=by rfl):d6 X F (.Expr e pos) (pP m):=⟨aA.Sb (h:=h.1) (hs:=hs)⟩
theorem cT {m:ay} (h:aV X F e m):d6 X F (.Return (some e) pos) (cz m):=⟨aA.Sk (h:=h.1)⟩
theorem vT {m:aK} (h:jX X F e m):d6 X F (.Return (some e) pos) (iC m):=⟨aA.Sl (h:=h.1)⟩
theorem VE (i:Nat) {x:Str} {p:Pos} (hN:X.N[i]? =some x:=by rfl) (hv:fG X.env.scope x:=by first | exact Or.inl rfl | exact Or.inr (Or.inl rfl) | exact Or.inr (Or.inr rfl)) (hd:(x == ("__debug__" :Str))=false:=by decide) (hcd:(x == ("__classdict__" :Str))=false:=by decide):d6 X F (.Return (some (.Name x p)) pos) (iC (oc i)):=⟨aA.Sm (i:=i) (hN:=hN) (hv:=hv) (hd:=hd) (hcd:=hcd)⟩
theorem ez {k:bJ} {m n:a0} {xs ys:List Stmt} (h:eY X F c k) (ha:hS X F xs m) (hb:hS X F ys n):d6 X F (.If c xs ys pos) (c9 k m n):=⟨aA.Sh (h:=h.1) (ha:=ha.1) (hb:=hb.1)⟩
theorem VC {m:a0} (i:Nat) (h:d6 X F st m):d6 X F st (rP i m):=⟨aA.Sg (i:=i) (h:=h.1)⟩
theorem dH (i:Nat) {x:Str} {p:Pos} {m:ay} (hN:X.N.Nodup) (he:aV X F e m) (hi:X.N[i]? =some x:=by rfl) (hx:Loc X.env.scope x:=by first | exact Or.inl rfl | exact Or.inr rfl) (hs:i6 e=true:=by rfl) (hf:X.fn x=true∨X.env.scope.names.lookup x=some .local:=by first | exact .inl rfl | exact .inr rfl):d6 X F (.Assign [.Name x p] e pos) (c6 i m):=⟨aA.So (i:=i) (hN:=hN) (he:=he.1) (hi:=hi) (hx:=hx) (hs:=hs) (hf:=hf)⟩
theorem vV (i:Nat) {x:Str} {p:Pos} {m:aK} (hN:X.N.Nodup) (he:jX X F e m) (hi:X.N[i]? =some x:=by rfl) (hx:Loc X.env.scope x:=by first | exact Or.inl rfl | exact Or.inr rfl) (hs:i6 e=true:=by rfl) (hf:X.fn x=true∨X.env.scope.names.lookup x=some .local:=by first | exact .inl rfl | exact .inr rfl):d6 X F (.Assign [.Name x p] e pos) (gr i m):=⟨aA.Sr (i:=i) (hN:=hN) (he:=he.1) (hi:=hi) (hx:=hx) (hs:=hs) (hf:=hf)⟩
theorem s_ (ha:aV X F a m) (hb:aV X F b n):aV X F (.BinOp a .Sub b pos) (ar m_ m n):=⟨aA.KH (ha:=ha.1) (hb:=hb.1)⟩
theorem qr (ha:aV X F a m) (hb:aV X F b n):aV X F (.BinOp a .Mult b pos) (ar kK m n):=⟨aA.Kt (ha:=ha.1) (hb:=hb.1)⟩
theorem e5 (ha:aV X F a m) (hb:aV X F b n):aV X F (.BinOp a .FloorDiv b pos) (ar eJ m n):=⟨aA.Kf (ha:=ha.1) (hb:=hb.1)⟩
theorem ew (ha:aV X F a m) (hb:aV X F b n):aV X F (.BinOp a .Mod b pos) (ar d0 m n):=⟨aA.Ks (ha:=ha.1) (hb:=hb.1)⟩
theorem AZ (ha:aV X F a m) (hb:aV X F b n):aV X F (.BinOp a .Pow b pos) (ar m3 m n):=⟨aA.KA (ha:=ha.1) (hb:=hb.1)⟩
theorem HS (ha:aV X F a m) (hb:aV X F b n):eY X F (.Compare a [.Lt] [b] pos) (bz (ar n3 m n)):=⟨aA.T6 (ha:=ha.1) (hb:=hb.1)⟩
theorem HR (ha:aV X F a m) (hb:aV X F b n):eY X F (.Compare a [.Gt] [b] pos) (bz (ar rm m n)):=⟨aA.T4 (ha:=ha.1) (hb:=hb.1)⟩
theorem AY (ha:aV X F a m):aV X F (.UnaryOp .USub a pos) (cH oo m):=⟨aA.Kv (ha:=ha.1)⟩
theorem fs (ha:aV X F a m) (hb:aV X F b n):aV X F (.BinOp a .Add b pos) (ar d7 m n):=⟨aA.J5 (ha:=ha.1) (hb:=hb.1)⟩
theorem nq (hu:X.A.units + 64 < cLine) (ha:aV X F a m) (hb:aV X F b n) (hK:F.K=X.K:=by rfl):eY X F (.Compare a [.Eq] [b] pos) (bz (ar (dp true) m n)):=⟨aA.T3 (hu:=hu) (ha:=ha.1) (hb:=hb.1) (hK:=hK)⟩
theorem qs (hu:X.A.units + 64 < cLine) (ha:aV X F a m) (hb:aV X F b n) (hK:F.K=X.K:=by rfl):eY X F (.Compare a [.NotEq] [b] pos) (bz (ar (dp false) m n)):=⟨aA.T7 (hu:=hu) (ha:=ha.1) (hb:=hb.1) (hK:=hK)⟩
theorem AX (hu:X.A.units + 64 < cLine) (ha:aV X F a m) (hb:aV X F b n) (hK:F.K=X.K:=by rfl):aV X F (.Compare a [.Eq] [b] pos) (ar (dp true) m n):=⟨aA.Ke (hu:=hu) (ha:=ha.1) (hb:=hb.1) (hK:=hK)⟩
theorem Vj (hu:X.A.units + 64 < cLine) (ha:aV X F a m) (hb:aV X F b n) (hK:F.K=X.K:=by rfl):aV X F (.Compare a [.NotEq] [b] pos) (ar (dp false) m n):=⟨aA.Ku (hu:=hu) (ha:=ha.1) (hb:=hb.1) (hK:=hK)⟩
theorem HT (hu:X.A.units + 64 < cLine) (ha:aV X F a m) (hb:aV X F b n) (hK:F.K=X.K:=by rfl) (hm:behindInMarks .NotIn b=false:=by with_unfolding_all rfl):eY X F (.Compare a [.NotIn] [b] pos) (bz (ar (inD false) m n)):=⟨aA.T9 (hu:=hu) (ha:=ha.1) (hb:=hb.1) (hK:=hK) (hm:=hm)⟩
theorem HF (hu:X.A.units + 64 < cLine) (ha:aV X F a m) (hb:aV X F b n) (hK:F.K=X.K:=by rfl) (hm:behindInMarks .In b=false:=by with_unfolding_all rfl):aV X F (.Compare a [.In] [b] pos) (ar (inD true) m n):=⟨aA.Kk (hu:=hu) (ha:=ha.1) (hb:=hb.1) (hK:=hK) (hm:=hm)⟩
theorem td (ha:aV X F a m) (hb:aV X F b n):eY X F (.Compare a [.Is] [b] pos) (bz (ar (ic true) m n)):=⟨aA.T5 (ha:=ha.1) (hb:=hb.1)⟩
theorem Vf (ha:aV X F a m) (hb:aV X F b n):aV X F (.Compare a [.Is] [b] pos) (ar (ic true) m n):=⟨aA.Km (ha:=ha.1) (hb:=hb.1)⟩
theorem U_ {op fo:CmpOp} {r a4:d4} {f g:D→D→R D} {l:ay} (ho:c7 X (compareOp op) r) (ho':c7 X (compareOp fo) a4) (hf:fg F r f) (hg:fg F a4 g) (ha:aV X F a m) (hb:aV X F b n) (hc:aV X F c l) (hm:lastMarks [op,fo] [b,c]=false:=by with_unfolding_all rfl):aV X F (.Compare a [op,fo] [b,c] pos) (ih f g m n l):=⟨aA.Kb (ho:=ho) (ho':=ho') (hf:=hf) (hg:=hg) (ha:=ha.1) (hb:=hb.1) (hc:=hc.1) (hm:=hm)⟩
theorem HP {op fo:CmpOp} {r a4:d4} {f g:D→D→R D} {l:ay} (ho:c7 X (compareOp op) r) (ho':c7 X (compareOp fo) a4) (hf:fg F r f) (hg:fg F a4 g) (ha:aV X F a m) (hb:aV X F b n) (hc:aV X F c l) (hm:lastMarks [op,fo] [b,c]=false:=by with_unfolding_all rfl):eY X F (.Compare a [op,fo] [b,c] pos) (bz (ih f g m n l)):=⟨aA.T1 (ho:=ho) (ho':=ho') (hf:=hf) (hg:=hg) (ha:=ha.1) (hb:=hb.1) (hc:=hc.1) (hm:=hm)⟩
theorem ft (hm:X.mg "len"=none) (ha:e_ X F [e] ma) (hK:F.K=X.K:=by rfl) (hg:cv X "len":=by rfl) (he:starEach [e] X.env=(false,eval e X.env)::starEach [] X.env:=by rfl) (hpl:(backTo pos (starEach [] X.env)).any (·.1)=false:=by rfl):aV X F (.Call (.Name "len" p) [e] [] pos) (cy c5 ma):=⟨aA.Kp (hm:=hm) (ha:=ha.1) (hK:=hK) (hg:=hg) (he:=he) (hpl:=hpl)⟩
theorem kS {U:Str} {T:String} {bM:Pos} (tt:mn X.K T) (hm:X.mg "isinstance"=none) (hmU:X.mg U=none) (hU:bootBuiltins U=some (.type T)) (ha:aV X F a m) (hK:F.K=X.K:=by rfl) (hg:cv X "isinstance":=by rfl) (hgU:cv X U:=by rfl) (hnU:U≠"__name__":=by decide) (hdU:(U == ("__debug__" :Str))=false:=by decide) (hs2:starEach [.Name U bM] X.env=(false,eval (.Name U bM) X.env)::starEach [] X.env:=by rfl) (he:starEach [a,.Name U bM] X.env=(false,eval a X.env)::starEach [.Name U bM] X.env:=by rfl) (hpl:(backTo pos (starEach [.Name U bM] X.env)).any (·.1)=false:=by rfl):aV X F (.Call (.Name "isinstance" p) [a,.Name U bM] [] pos) (cH (fM T) m):=⟨aA.Kn (tt:=tt) (hm:=hm) (hmU:=hmU) (hU:=hU) (ha:=ha.1) (hK:=hK) (hg:=hg) (hgU:=hgU) (hnU:=hnU) (hdU:=hdU) (hs2:=hs2) (he:=he) (hpl:=hpl)⟩
theorem cp (ha:aV X F a m) (hb:aV X F b n) (hs:oQ b) (hK:F.K=X.K:=by rfl):aV X F (.Subscript a b pos) (ar aR m n):=⟨aA.Ko (ha:=ha.1) (hb:=hb.1) (hs:=hs) (hK:=hK)⟩
theorem Vx:tJ X F none uR:=⟨aA.Qw ⟩
theorem A2 (h:aV X F e m):tJ X F (some e) (n_ m):=⟨aA.Qx (h:=h.1)⟩
theorem HH {lo hi:Option Expr} {bM:Pos} {r8 r5:kq} (ha:aV X F a m) (hl:tJ X F lo r8) (hh:tJ X F hi r5) (hK:F.K=X.K:=by rfl):aV X F (.Subscript a (.Slice lo hi none bM) pos) (ob oy m r8 r5):=⟨aA.KC (ha:=ha.1) (hl:=hl.1) (hh:=hh.1) (hK:=hK)⟩
theorem Vn (hm:X.mg "str"=none) (ha:e_ X F [e] ma) (hg:cv X "str":=by rfl) (he:starEach [e] X.env=(false,eval e X.env)::starEach [] X.env:=by rfl) (hpl:(backTo pos (starEach [] X.env)).any (·.1)=false:=by rfl):aV X F (.Call (.Name "str" p) [e] [] pos) (cy oz ma):=⟨aA.KG (hm:=hm) (ha:=ha.1) (hg:=hg) (he:=he) (hpl:=hpl)⟩
theorem l2 (h:aV X F e m) (hK:F.K=X.K:=by rfl):kv X F bl e (hD m):=⟨aA.UO (h:=h.1) (hK:=hK)⟩
theorem VK (h:aV X F e m) (hK:F.K=X.K:=by rfl):kv X F bl e (n5 m):=⟨aA.US (h:=h.1) (hK:=hK)⟩
theorem VJ (h:aV X F e m):kv X F bl e (pR m):=⟨aA.UR (h:=h.1)⟩
theorem oF (hm:X.mg "range"=none) (ha:e_ X F [a] ma) (hg:cv X "range":=by rfl) (hs:starEach [a] X.env=[(false,eval a X.env)]:=by rfl):kv X F bl (.Call (.Name "range" p) [a] [] pos) (jy ma):=⟨aA.UQ (hm:=hm) (ha:=ha.1) (hg:=hg) (hs:=hs)⟩
theorem vX {elts:List Expr} {k:Nat} {lU:Pos} (hm:X.mg "enumerate"=none) (ha:e_ X F [a] ma) (hK:F.K=X.K:=by rfl) (hg:cv X "enumerate":=by rfl) (hs:starEach [a] X.env=[(false,eval a X.env)]:=by rfl):kv X F (.Tuple elts k lU) (.Call (.Name "enumerate" p) [a] [] pos) (lH ma):=⟨aA.UN (hm:=hm) (ha:=ha.1) (hK:=hK) (hg:=hg) (hs:=hs)⟩
theorem VL {elts:List Expr} {k:Nat} {lU:Pos} (hm:X.mg "zip"=none) (ha:e_ X F [a,b] ma) (hK:F.K=X.K:=by rfl) (hg:cv X "zip":=by rfl) (hs:starEach [a,b] X.env=[(false,eval a X.env),(false,eval b X.env)]:=by rfl) (hs2:starEach [b] X.env=[(false,eval b X.env)]:=by rfl):kv X F (.Tuple elts k lU) (.Call (.Name "zip" p) [a,b] [] pos) (pS ma):=⟨aA.UT (hm:=hm) (ha:=ha.1) (hK:=hK) (hg:=hg) (hs:=hs) (hs2:=hs2)⟩
theorem nk {body:List Stmt} {mi:aK} {set:D→ai→R ai} {e4:a0} (hp:PassesOwn (model X.prog X.w) X.A X.env X.xe) (hi:kv X F bl iter mi) (hg:GM X bl set) (hb:hS X F body e4) (hc:X.calm=true:=by rfl) (hK:F.K=X.K:=by rfl) (hs:∀x,foldedSetIterable iter X.env x=pure x:=by intro _; rfl):d6 X F (.For bl iter body [] pos) (fO mi set e4):=⟨aA.Sf (hp:=hp) (hi:=hi.1) (hg:=hg) (hb:=hb.1) (hc:=hc) (hK:=hK) (hs:=hs)⟩
theorem HO {st:Stmt} {i:Nat} {a:aK} (h:d6 X F st (gr i a)):d6 X F st (oa i a):=⟨aA.Sq (h:=h.1)⟩
theorem Vb {p:Pos}:aV X F (.Dict [] [] p) uO:=⟨aA.Kc ⟩
theorem s9 {k:Nat} (hr:cZ k X.A) (hm:X.mg "all"=none) (ha:e_ X F [e] ma) (hc:X.calm=true:=by rfl) (hg:cv X "all":=by rfl) (he:starEach [e] X.env=(false,eval e X.env)::starEach [] X.env:=by rfl) (hpl:(backTo pos (starEach [] X.env)).any (·.1)=false:=by rfl):aV X F (.Call (.Name "all" p) [e] [] pos) (cy c4 ma):=⟨aA.J6 (hr:=hr) (hm:=hm) (ha:=ha.1) (hc:=hc) (hg:=hg) (he:=he) (hpl:=hpl)⟩
theorem HJ (i:Nat) {x:Str} {bg:Pos} {apos:Pos} {bS:Pos} (he:aV X F e m) (hN:X.N[i]? =some x:=by rfl) (hv:fG X.env.scope x:=by first | exact Or.inl rfl | exact Or.inr (Or.inl rfl) | exact Or.inr (Or.inr rfl)) (hd:(x == ("__debug__" :Str))=false:=by decide) (hcd:(x == ("__classdict__" :Str))=false:=by decide) (hbase:attributeBase (.Name x bg) "append" X.env (eval (.Name x bg) X.env)=eval (.Name x bg) X.env:=by rfl) (hline:(apos.endLine == bS.line)=true:=by rfl) (hfew:((backTo bS (starEach [e] X.env)).all (fun x=> !x.1) && (backToKw bS (keywordEach [] X.env)).all (fun x=>x.1.isSome)
   && decide (([e]:List Expr).length + ([]:List Keyword).length + (if ([]:List Keyword).isEmpty then 0 else 1) < 30))=true:=by rfl) (hs:starEach [e] X.env=(false,eval e X.env)::starEach [] X.env:=by rfl) (hplain:(backTo bS (starEach [] X.env)).any (·.1)=false:=by rfl) (hK:F.K=X.K:=by rfl):d6 X F (.Expr (.Call (.Attribute (.Name x bg) "append" apos) [e] [] bS) pos) (n4 i m):=⟨aA.R6 (i:=i) (he:=he.1) (hN:=hN) (hv:=hv) (hd:=hd) (hcd:=hcd) (hbase:=hbase) (hline:=hline) (hfew:=hfew) (hs:=hs) (hplain:=hplain) (hK:=hK)⟩
theorem cX {x:Str} {n k:Nat} {mf:List D→R b1} (c:dy X.prog X.w X.K X.mg X.base x n k mf) (hr:cZ k X.A) (ha:e_ X F (e::ae) ma) (hE:F.gB=fun _ _=>False:=by rfl) (hK:F.K=X.K:=by rfl) (hg:cv X x:=by rfl) (hdb:(x == ("__debug__" :Str))=false:=by decide) (he:starEach (e::ae) X.env=(false,eval e X.env)::starEach ae X.env:=by rfl) (hpl:(backTo pos (starEach ae X.env)).any (·.1)=false:=by rfl):aV X F (.Call (.Name x p) (e::ae) [] pos) (b5 n mf ma):=⟨aA.Ka (c:=c) (hr:=hr) (ha:=ha.1) (hE:=hE) (hK:=hK) (hg:=hg) (hdb:=hdb) (he:=he) (hpl:=hpl)⟩
theorem tc {x:Str} {n k:Nat} {mf:List D→R b1} (c:dy X.prog X.w X.K X.mg X.base x n k mf) (hr:cZ k X.A) (ha:e_ X F (e::ae) ma) (hE:F.gB=fun _ _=>False:=by rfl) (hK:F.K=X.K:=by rfl) (hg:cv X x:=by rfl) (hdb:(x == ("__debug__" :Str))=false:=by decide) (he:starEach (e::ae) X.env=(false,eval e X.env)::starEach ae X.env:=by rfl) (hpl:(backTo pos (starEach ae X.env)).any (·.1)=false:=by rfl):jX X F (.Call (.Name x p) (e::ae) [] pos) (kH n mf ma):=⟨aA.PW (c:=c) (hr:=hr) (ha:=ha.1) (hE:=hE) (hK:=hK) (hg:=hg) (hdb:=hdb) (he:=he) (hpl:=hpl)⟩
variable {scope:Scope} {N:List Str}
noncomputable abbrev Ba (X:aG) (scope:Scope) (N:List Str) (e:Expr) (m:ay):Prop:=∀cl C s H aL bw a7,aV (ef X scope N cl C s H aL) (dO X.K bw a7) e m
theorem HC {mt:bJ} (h:∀cl C s H aL bw a7,eY (ef X scope N cl C s H aL) (dO X.K bw a7) c mt):jc X scope N [c] mt:=aA.IY fun cl C s H aL bw a7=>(h cl C s H aL bw a7).1
theorem jN (nl:Nat) (caps:List Nat) {ifs:List Expr} {mi:aK} {set:D→ai→R ai} {mt:bJ} {dt:ay} (S:nK X.env.scope X.N scope N nl caps=true) (hi:kv X F bl iter mi) (hg:l6 X scope N bl set) (ht:jc X scope N ifs mt) (he:Ba X scope N elt dt)
  (hc:X.calm=true:=by rfl) (hK:F.K=X.K:=by rfl) (hs:∀x,foldedSetIterable iter X.env x=pure x:=by intro _; rfl):jX X F (.ListComp elt [⟨bl,iter,ifs,0⟩] scope pos) (d_ nl caps mi set mt dt):=
 ⟨aA.PY nl caps S hi.1 hg ht (fun cl C s H aL bw a7=>(he cl C s H aL bw a7).1) hc hK hs⟩
theorem Vz (i:Nat) (nl:Nat) (caps:List Nat) {y:Str} {py:Pos} {ifs:List Expr} {mi:aK} {set:D→ai→R ai} {mt:bJ} {dt:ay} {bS:Pos} (hN:X.N.Nodup) (S:nK X.env.scope X.N scope N nl caps=true) (hi:kv X F bl iter mi) (hg:l6 X scope N bl set) (ht:jc X scope N ifs mt) (he:Ba X scope N elt dt)
  (cg:X.N[i]? =some y:=by rfl) (hl:X.env.kindOf y=some .local:=by rfl) (iT:swapsWith (.ListComp elt [⟨bl,iter,ifs,0⟩] scope bS) (some (.Name y py)) pos.line X.env=pure true:=by rfl) (hc:X.calm=true:=by rfl) (hK:F.K=X.K:=by rfl) (hs:∀x,foldedSetIterable iter X.env x=pure x:=by intro _; rfl) :
  d6 X F (.Assign [.Name y py] (.ListComp elt [⟨bl,iter,ifs,0⟩] scope bS) pos) (gr i (d_ nl caps mi set mt dt)):=
 ⟨aA.R9 i nl caps hN S hi.1 hg ht (fun cl C s H aL bw a7=>(he cl C s H aL bw a7).1) cg hl iT hc hK hs⟩
end
theorem ej {P:Program} {w:World} {K:PySem.W.Frag} {mg:Str→Option Value} {base:Heap} {x:Str} {st:Stmt} {N aB:List Str} {k:Nat} {m:a0} (d:di K mg x st aB) (S:cP N aB (bP st))
  (h:∀(f:Addr) (bX:Value) (A:Around) (outer:List Env) (s:Shared) (H:J) (E:cM),cZ k (A.deeper (PyProof.Rows.envOfC x (bP st) s.heap.objs.size f bX))→∀bw a7,hS (eo gg P w K mg base N x (bP st) f bX A outer s H E).f9 (dO K bw a7) (fl st) m) :
  dy P w K mg base x aB.length (k + 1) (cU N.length m):=aA.JA d S fun f bX A outer s H E hr bw a7=>(h f bX A outer s H E hr bw a7).1
structure nt (K:PySem.W.Frag) (mg:Str→Option Value) (x:Str) (d:D):Prop where
 ex:∃(v:V) (u:Value),mg x=some u∧RelV v u∧∀G,At K G d v
theorem oE {X:aG} {F:bf} {x:Str} {d:D} {pos:Pos} (c:nt X.K X.mg x d) (hK:F.K=X.K:=by rfl) (hg:cv X x:=by rfl) (hd:(x == ("__debug__" :Str))=false:=by decide):aV X F (.Name x pos) (aq d):=by
 obtain ⟨v,u,h1,h2,h3⟩:=c.ex
 exact ⟨aA.Ki h1 h2 (by rw [hK]; exact h3) hg hd⟩
end aA
set_option Elab.async false
set_option linter.all false
set_option maxRecDepth 100000
namespace aZ
open PySem PySem.Spec PyProof.Rows
section
variable {X:aG} {bl:Expr}
noncomputable def Bd (a b c:Int):Prop:=c≠0∧Builtin.Range.small a b c=true∧0≤Builtin.Range.rangeSize a b c∧Builtin.divisionGoesByPylong (b - a) c=false
instance (a b c:Int):Decidable (Bd a b c):=by unfold Bd; infer_instance
end
section
variable {X:aG} {a e:Expr} {bW:eH} {pos p pos' Xl:Pos}
end
end aZ
set_option Elab.async false
set_option linter.all false
set_option maxRecDepth 100000
namespace aA
open PySem PySem.Spec aZ
noncomputable abbrev gi:=ai→R (D×ai)
noncomputable abbrev oN:=ai→R (List D×ai)
noncomputable def NS (F:bf) (G:J) (σ :St) (Q:b9):R (D×ai)→Prop
 | .ok (d,bj)=>∀v H' G',Rel F G' H' σ bj→Sub G G'→At F.K G' d v→Q v H'
 | .exc c=>jw F c
 | .bad=>False
noncomputable def Aw (F:bf) (m:gi):TE:=fun σ H Q=>∃G ρ,Rel F G H σ ρ∧NS F G σ Q (m ρ)
noncomputable def lf (m:ay):gi:=fun ρ=>(m ρ).bind fun d=> .ok (d,ρ)
noncomputable def O2 (m:aK):oN:=fun ρ=>(m ρ).bind fun d=> .ok (d,ρ)
section
variable {F:bf}
noncomputable def O9 (a:gi) (r:oN):oN:=fun ρ=>(a ρ).bind fun x=>(r x.2).bind fun y=> .ok (x.1::y.1,y.2)
noncomputable def EY (m:oN):gi:=fun ρ=>(m ρ).bind fun x=>if x.1.length≤1000000 then .ok (.tup x.1,x.2) else .bad
noncomputable def Pb (i:Nat) (a:gi):a0:=fun ρ=>(a ρ).bind fun x=>(bQ i x.1 x.2).bind fun bj=> .ok (.a9 bj)
noncomputable def pQ (a:gi):a0:=fun ρ=>(a ρ).bind fun x=> .ok (.a9 x.2)
theorem MD {a:gi}:fY (et F (pQ a)) (Av (Aw F a)):=by
 rintro b6 σ H ⟨G,ρ,r,h⟩
 unfold pQ at h
 refine ⟨G,ρ,r,?_⟩
 cases av:a ρ with
 | bad=>rw [av] at h; exact h.elim
 | exc c=>rw [av] at h; exact h
 | ok x=>obtain ⟨d,dQ⟩:=x; rw [av] at h; exact fun v H' G' a4 s' _=>h σ G' H' a4 s'
end
end aA
set_option Elab.async false
set_option linter.all false
set_option maxRecDepth 100000
namespace aA
open PySem PySem.Spec aZ
section
variable {F:bf}
noncomputable def del (H:J) (a:Addr):J:=fun b=>if b=a then none else H b
theorem JI {H:J} {a:Addr}:del H a a=none:=by simp [del]
theorem JH {H:J} {a b:Addr} (h:b≠a):del H a b=H b:=by simp [del,h]
theorem Cc (H:J) (a:Addr):Sub (del H a) H:=fun b o e=>by
 unfold del at e
 split at e
 · cases e
 · exact e
theorem Rel.drop {G H:J} {σ :St} {ρ:ai} (r:Rel F G H σ ρ) (i:Nat):Rel F G H σ (ρ.set i .un):=by
 by_cases hi:i < ρ.length
 · have hs:i < σ.length:=by rw [r.len]; exact hi
   have z:=r.ox (s:= .un) (o:= σ[i]) hi trivial fun _ f=>f.elim
   rw [aA.Ai (List.getElem?_eq_getElem hs)] at z
   exact z
 · rw [List.set_eq_of_length_le (by omega)]; exact r
end
end aA
set_option Elab.async false
set_option linter.all false
set_option maxRecDepth 100000
namespace aA
open PySem PySem.Spec aZ
section
variable {F:bf}
end
end aA
set_option Elab.async false
set_option linter.all false
set_option maxRecDepth 100000
namespace aA
open PySem PySem.Spec aZ PyProof.Rows
noncomputable abbrev H2 (X:aG) (F:bf) (e:Expr) (m:gi):Prop:=aS X e (Aw F m)
section
variable {X:aG} {F:bf} {e a b c:Expr} {ae:List Expr} {pos p:Pos} {m n:ay} {ma:aK}
noncomputable def EX (i:Nat) (m:ay):gi:=fun ρ=>(ownAt i ρ).bind fun ds=>(m ρ).bind fun d=>match d with
 | .int k=>if -(2 ^ 63)≤k∧k < 2 ^ 63 then match seqIndex? k ds.length with
   | some j=>match ds[j]? with
     | some y=> .ok (y,ρ.set i (.df (ds.eraseIdx j)))
     | none=> .bad
   | none=> .bad
   else .bad
 | _=> .bad
noncomputable def O8 (i:Nat) (m:gi):a0:=fun ρ=>(ownAt i ρ).bind fun _=>(m ρ).bind fun x=>(ownAt i x.2).bind fun ds=>if ds.length < 1000000 then .ok (.a9 (x.2.set i (.df (ds ++ [x.1])))) else .bad
noncomputable def uJ:List D→R (List D)
 | [.lst xs]=> .ok xs
 | [.b7 xs]=> .ok xs
 | [.tup xs]=> .ok xs
 | _=> .bad
noncomputable def n8 (m:aK):aK:=fun ρ=>(m ρ).bind uJ
theorem MN (hK:F.K=X.K):ek (iF F (n8 ma)) (sI (fun xs H Q=>∃p ys,xs=[.ref p]∧(bI X.K H p ys∨cu X.K H p ys)∧∀l,H l=none→Q (.ref l) (upd H l (.lst ys))) (ee F ma)):=by
 rintro σ H Q ⟨G,ρ,r,h⟩
 unfold n8 at h
 refine ⟨G,ρ,r,?_⟩
 cases av:ma ρ with
 | bad=>rw [av] at h; exact h.elim
 | exc c=>rw [av] at h; exact h
 | ok ds=>
   rw [av,R.bo] at h
   intro vs H1 aM ao s1 a
   unfold uJ at h
   split at h
   · obtain ⟨v,rfl,bc⟩:=a.one
     simp only [At] at bc
     obtain ⟨q,xs,rfl,aD,fH⟩:=bc
     refine ⟨q,xs,rfl,.inl (bI.of (ao.aC.sub _ _ aD)),fun l hl=>?_⟩
     exact h l xs _ aM (ao.lay0 hl) (s1.trans (b2.lay0 hl)) (s1.h.gone hl) dv (ao.aC.sub.gone hl) fH
   · obtain ⟨v,rfl,bc⟩:=a.one
     simp only [At] at bc
     obtain ⟨q,xs,rfl,aD,fH⟩:=bc
     refine ⟨q,xs,rfl,.inl (by rw [←hK]; exact bI.mono ao.aC.sub aD),fun l hl=>?_⟩
     exact h l xs _ aM (ao.lay0 hl) (s1.trans (b2.lay0 hl)) (s1.h.gone hl) dv (ao.aC.sub.gone hl) fH
   · obtain ⟨v,rfl,bc⟩:=a.one
     simp only [At] at bc
     obtain ⟨q,xs,rfl,aD,fH⟩:=bc
     refine ⟨q,xs,rfl,.inr (cu.of (ao.aC.sub _ _ aD)),fun l hl=>?_⟩
     exact h l xs _ aM (ao.lay0 hl) (s1.trans (b2.lay0 hl)) (s1.h.gone hl) dv (ao.aC.sub.gone hl) fH
   · exact h.elim
theorem PZ (hm:X.mg "list"=none) (ha:fV X F [e] ma) (hK:F.K=X.K:=by rfl) (hg:cv X "list":=by rfl) (he:starEach [e] X.env=(false,eval e X.env)::starEach [] X.env:=by rfl) (hpl:(backTo pos (starEach [] X.env)).any (·.1)=false:=by rfl) :
  mb X F (.Call (.Name "list" p) [e] [] pos) (n8 ma):=aS.imp (zd BZ hg hm (by kernel_rfl) ha (by decide) (by decide) he hpl) (MN hK)
noncomputable def uK:List D→R (List D)
 | [.int j]=>if -(2 ^ 62)≤j∧j≤1000000 then .ok (gI 0 j.toNat) else .bad
 | _=> .bad
noncomputable def Pa (m:aK):aK:=fun ρ=>(m ρ).bind uK
noncomputable def Pj:List D→R D
 | [.int i,.int j]=> .ok (.int (if j > i then j else i))
 | _=> .bad
noncomputable def ql:List D→R D
 | [.int i]=> .ok (.int i)
 | [.au k]=> .ok (.int (if k then 1 else 0))
 | [.str x]=>if x.length≤640 then match intText? x with | some i=> .ok (.int i) | none=> .bad else .bad
 | _=> .bad
theorem Qb:l_ F (fun xs H Q=>((∃i,xs=[.int i]∧Q (.int i) H)∨∃k,xs=[.au k]∧Q (.int (if k then 1 else 0)) H)∨((∃i,xs=[.int i]∧Q (.int i) H)∨∃x i,xs=[.str x]∧x.length≤640∧intText? x=some i∧Q (.int i) H)) ql:=by
 intro σ ρ G H xs ds Q r al k
 unfold ql at k
 split at k
 · rename_i i
   exact .inl (.inl ⟨i,al.ints1,k _ H G r (b2.refl _ _) (by simp only [At])⟩)
 · rename_i c
   obtain ⟨v,rfl,bc⟩:=al.one
   simp only [At] at bc; subst bc
   exact .inl (.inr ⟨c,rfl,k _ H G r (b2.refl _ _) (by simp only [At])⟩)
 · rename_i x
   split at k
   · rename_i hl
     split at k
     · rename_i i hi
       obtain ⟨v,rfl,bc⟩:=al.one
       simp only [At] at bc; subst bc
       exact .inr (.inr ⟨x,i,rfl,hl,hi,k _ H G r (b2.refl _ _) (by simp only [At])⟩)
     · exact k.elim
   · exact k.elim
 · exact k.elim
theorem KI (hm:X.mg "int"=none) (ha:fV X F [e] ma) (hg:cv X "int":=by rfl) (he:starEach [e] X.env=(false,eval e X.env)::starEach [] X.env:=by rfl) (hpl:(backTo pos (starEach [] X.env)).any (·.1)=false:=by rfl) :
  a3 X F (.Call (.Name "int" p) [e] [] pos) (cy ql ma):=xj (Jd.or Je) Qb hm (by kernel_rfl) ha hg (by decide) (by decide) he hpl
noncomputable def Pc (set:D→ai→R ai) (m:ay):a0:=fun ρ=>(m ρ).bind fun d=>(set d ρ).bind fun bj=> .ok (.a9 bj)
theorem Sd {m:gi} (h:H2 X F e m) (hs:i6 e=true:=by rfl):fx X F (.Expr e pos) (pQ m):=cK.imp (sl h (kO _ _ _ _ hs)) MD
theorem Tg {n:Nat} {mf:List D→R b1} {xe:cM→Str→J→Prop} {E:cM} {aM H1:J} {σ :aZ.St} {ρ:ai} {ds:List D} {vs:List V} {Q:b9} (hx:F.gB=xe E) (ao:Rel F aM H1 σ ρ) (a:aE F.K aM ds vs) (aN:ds.length=n) (h:ig F aM H1 σ ρ Q ((mf ds).bind gJ)):m8 F.K n xe mf vs H1 Q E:=by
 refine ⟨aM,ds,ao.aC.sub,a,aN,?_⟩
 cases e:mf ds with
 | bad=>rw [e] at h; exact h.elim
 | exc c=>
   rw [e] at h
   intro G' H' k
   have z:=h G' H' (dX.of ao k).aC
   rw [hx] at z
   exact z
 | ok t=>
   rw [e,R.bo] at h
   cases t with
   | v d=>exact fun v G' H' k bc=>h v H' G' (dX.of ao k) ⟨k.eC,k.hh,k.new⟩ bc
   | o ae=>
     intro p xs G' H' k h1 h2 h3 h4
     have h2:H1 p=none:=h2
     have a4:=dX.of ao k
     have no:¬ c2 H' σ ρ p:=c2.fresh ao k.hh h2
     refine h (.ref p) H' _ (a4.take h3 h1 (ao.aC.hh.gone h2) no) (b2.put ⟨k.eC,k.hh,k.new⟩ h2 h1) ?_
     simp only [At]
     exact ⟨p,xs,rfl,dv,h4.mono (Sub.upd h1)⟩
   | t t=>
     intro v G' H' k q
     obtain ⟨a1,a2,fi⟩:=(dX.of ao k).AD (F':=⟨F.K,aM,H1,xe E⟩) rfl q ⟨k.eC,k.hh,k.new⟩ fun b hb=>⟨(q.own b hb).2,ao.aC.hh.gone (q.own b hb).2,c2.fresh ao k.hh (q.own b hb).2⟩
     exact h v H' _ a1 a2 fi
end
end aA
set_option Elab.async false
set_option linter.all false
set_option maxRecDepth 100000
namespace aA
open PySem PySem.Spec aZ PyProof.Rows
section
variable {X:aG} {F:bf} {e a b c:Expr} {ae:List Expr} {pos p:Pos} {m n:ay} {ma:aK}
end
end aA
set_option Elab.async false
set_option linter.all false
set_option maxRecDepth 100000
namespace aA
open PySem PySem.Spec aZ
structure Bs (X:aG) (F:bf) (e:Expr) (m:gi):Prop where
 o:aS X e (Aw F m)
section
variable {X:aG} {F:bf} {e a b c bl iter elt:Expr} {ae:List Expr} {pos p:Pos} {m n:ay} {ma:aK} {st:Stmt} {lR:List Stmt}
theorem Vu (hm:X.mg "list"=none) (ha:e_ X F [e] ma) (hK:F.K=X.K:=by rfl) (hg:cv X "list":=by rfl) (he:starEach [e] X.env=(false,eval e X.env)::starEach [] X.env:=by rfl) (hpl:(backTo pos (starEach [] X.env)).any (·.1)=false:=by rfl):jX X F (.Call (.Name "list" p) [e] [] pos) (n8 ma):=⟨aA.PZ (hm:=hm) (ha:=ha.1) (hK:=hK) (hg:=hg) (he:=he) (hpl:=hpl)⟩
theorem Vo (hm:X.mg "int"=none) (ha:e_ X F [e] ma) (hg:cv X "int":=by rfl) (he:starEach [e] X.env=(false,eval e X.env)::starEach [] X.env:=by rfl) (hpl:(backTo pos (starEach [] X.env)).any (·.1)=false:=by rfl):aV X F (.Call (.Name "int" p) [e] [] pos) (cy ql ma):=⟨aA.KI (hm:=hm) (ha:=ha.1) (hg:=hg) (he:=he) (hpl:=hpl)⟩
theorem VB {m:gi} (h:Bs X F e m) (hs:i6 e=true:=by rfl):d6 X F (.Expr e pos) (pQ m):=⟨aA.Sd (h:=h.1) (hs:=hs)⟩
end
end aA
set_option Elab.async false
set_option linter.all false
set_option maxRecDepth 100000
namespace aA
open PySem PySem.Spec aZ
theorem eS.inj {K:PySem.W.Frag} {c:Str} {C iI:Addr} (h:eS K c C) (h':eS K c iI):C=iI:=by
 unfold eS at h h'
 rw [h] at h'
 cases h'; rfl
theorem EK {K:PySem.W.Frag} {G:J} {f:Str} {d:D}:∀{xs:List (Str×V)} {ds:List D},aE K G ds (xs.map (·.2))→((xs.map (·.1)).zip ds).lookup f=some d→∃v,xs.lookup f=some v∧At K G d v
 | [],_,_,e=>by simp at e
 | (k,v)::xs,[],h,_=>by
   have:=h.length
   simp at this
 | (k,v)::xs,e::ds,h,l=>by
   simp only [List.map_cons,aE] at h
   obtain ⟨jK,r,ah,a,t⟩:=h
   cases ah
   simp only [List.map_cons,List.zip_cons_cons,List.lookup_cons] at l ⊢
   cases hk:f == k with
   | true=>rw [hk] at l; cases l; exact ⟨v,rfl,a⟩
   | false=>rw [hk] at l; exact EK t l
theorem EL {f:Str}:∀{xs:List (Str×V)},(xs.map (·.1)).all (fun k=> !(f == k))=true→xs.lookup f=none
 | [],_=>rfl
 | (k,v)::xs,h=>by
   simp only [List.map_cons,List.all_cons,Bool.and_eq_true,Bool.not_eq_true'] at h
   rw [List.lookup_cons,h.1]
   exact EL (by simpa using h.2)
structure qE (K:PySem.W.Frag) (c:Str) (aO:List Str):Prop where
 ex:∃C,eS K c C∧iJ K C∧∀f∈aO,nA K C f
noncomputable def f6 (c f:Str):D→R D
 | .ins fz ns ds=>if fz=c then match (ns.zip ds).lookup f with
   | some d=> .ok d
   | none=> .bad
   else .bad
 | _=> .bad
section
variable {X:aG} {F:bf} {e a b c o:Expr} {ae:List Expr} {pos p:Pos} {m n:ay} {ma:aK}
theorem Kg {bb f:Str} {aO:List Str} (k:qE X.K bb aO) (he:a3 X F o m) (hf:f∈aO:=by decide +kernel) (hK:F.K=X.K:=by rfl) (hb:attributeBase o f X.env (eval o X.env)=eval o X.env:=by rfl):a3 X F (.Attribute o f pos) (cH (f6 bb f) m):=by
 refine aS.imp (QK he hb) ?_
 rintro σ H Q ⟨G,ρ,r,h⟩
 unfold cH at h
 refine ⟨G,ρ,r,?_⟩
 cases av:m ρ with
 | bad=>rw [av] at h; exact h.elim
 | exc c=>rw [av] at h; exact h
 | ok d=>
   rw [av,R.bo] at h
   intro x H1 aM ao s1 bH
   cases d with
   | ins fz ns ds=>
     simp only [f6] at h
     split at h
     · rename_i hc
       subst hc
       split at h
       · rename_i d' hl
         simp only [At] at bH
         obtain ⟨q,aT,xs,rfl,⟨C,bD,g1⟩,rfl,al⟩:=bH
         obtain ⟨v,hv,bc⟩:=EK al hl
         obtain ⟨iI,k1,k2,k3⟩:=k.ex
         rw [hK] at bD
         have:=bD.inj k1
         subst this
         exact ⟨q,C,aT,xs,v,rfl,ao.aC.sub _ _ g1,k2,k3 f hf,hv,h v H1 aM ao s1 bc⟩
       · exact h.elim
     · exact h.elim
   | _=>exact h.elim
structure mh (P:Program) (w:World) (K:PySem.W.Frag) (mg:Str→Option Value) (base:Heap) (bb mt:Str) (n k:Nat) (mf:List D→R b1):Prop where
 ex:∃(C f:Addr) (fd:FuncData) (aB:List Str),eS K bb C∧iJ K C∧Meth K C mt f∧gC P w K mg base gg k f fd aB (lQ K (n + 1) mf)∧Binds K fd aB []
noncomputable def ow (bb mt:Str):D→R D
 | .ins fz ns ds=>if fz=bb∧ns.all (fun k=> !(mt == k))=true then .ok (.ins fz ns ds) else .bad
 | _=> .bad
noncomputable def lI (bb mt:Str) (n:Nat) (mf:List D→R b1) (o:ay) (ma:aK):ay:=fun ρ=>(o ρ).bind fun d=>(ow bb mt d).bind fun d=>(ma ρ).bind fun ds=>if ds.length=n then (mf (d::ds)).bind gJ else .bad
theorem MQ {bb mt:Str} {n:Nat} {mf:List D→R b1} {C:Addr} {E:cM} (hx:F.gB=fun _ _=>False) (h_:eS F.K bb C):ek (cA F (lI bb mt n mf m ma)) (GF C mt (lQ F.K (n + 1) mf) [] E (cA F m) (ee F ma)):=by
 rintro σ H Q ⟨G,ρ,r,h⟩
 unfold lI at h
 refine ⟨G,ρ,r,?_⟩
 cases av:m ρ with
 | bad=>rw [av] at h; exact h.elim
 | exc c=>rw [av] at h; exact h
 | ok d=>
   rw [av,R.bo] at h
   intro x H1 aM ao s1 bH
   cases d with
   | ins fz ns ds=>
     simp only [ow] at h
     split at h
     · rename_i hc
       obtain ⟨xV,mH⟩:=hc
       subst xV
       have IL:=bH
       simp only [At] at bH
       obtain ⟨q,aT,xs,rfl,⟨iI,bD,g1⟩,rfl,al⟩:=bH
       have:=bD.inj h_
       subst this
       refine ⟨q,aT,xs,rfl,ao.aC.sub _ _ g1,EL mH,aM,ρ,ao,?_⟩
       rw [R.bo] at h
       cases bq:ma ρ with
       | bad=>rw [bq] at h; exact h.elim
       | exc c=>rw [bq] at h; exact h
       | ok ae=>
         rw [bq,R.bo] at h
         intro vs aH cb a_ s2 bc
         by_cases aN:ae.length=n
         · rw [if_pos aN] at h
           rw [List.append_nil]
           exact Tg (xe:=fun _ _ _=>False) hx a_ (.cons (IL.mono s2.g) bc) (by simp [aN]) (h.mono (s1.trans s2))
         · rw [if_neg aN] at h; exact h.elim
     · exact h.elim
   | _=>exact h.elim
theorem Kr {bb mt:Str} {n k:Nat} {mf:List D→R b1} {pl:Sem Bool} {apos:Pos} (c:mh X.prog X.w X.K X.mg X.base bb mt n k mf) (hr:cZ k X.A) (he:a3 X F o m) (ha:fV X F (e::ae) ma) (hE:F.gB=fun _ _=>False:=by rfl) (hK:F.K=X.K:=by rfl)
  (hst:starEach (e::ae) X.env=(false,eval e X.env)::starEach ae X.env:=by rfl) (hpl:(backTo pos (starEach ae X.env)).any (·.1)=false:=by rfl)
  (ht:eval (.Call (.Attribute o mt apos) (e::ae) [] pos) X.env=(do
    let dU ←eval o X.env
    standAt apos.atName
    let (f,first) ←holding [dU] (getMethod dU mt pl)
    callWith pos f first (backTo pos (starEach (e::ae) X.env)) (backToKw pos (keywordEach [] X.env))):=by rfl) :
  a3 X F (.Call (.Attribute o mt apos) (e::ae) [] pos) (lI bb mt n mf m ma):=by
 obtain ⟨C,f,fd,aB,bD,dj,gR,j2,hb⟩:=c.ex
 refine aS.imp (QP (pl:=pl) he dj gR j2 hr hb .nil ve ha hst hpl ht) ?_
 rw [←hK]
 exact MQ hE (by rw [hK]; exact bD)
noncomputable def Ew:D→Option Key
 | .int i=>some (.inl i)
 | .str x=>some (.inr x)
 | _=>none
noncomputable def uG:List D→Option (List Key)
 | []=>some []
 | d::ds=>match Ew d,uG ds with
   | some k,some ks=>some (k::ks)
   | _,_=>none
noncomputable def mR:D→Option (List Key)
 | .tup ds=>uG ds
 | _=>none
theorem N8 {K:PySem.W.Frag} {G:J} {d:D} {v:V} {k:Key} (e:Ew d=some k) (a:At K G d v):v=cE k:=by
 cases d <;> first
  | (cases e; done)
  | (cases e; simp only [At] at a; exact a)
theorem Ex {K:PySem.W.Frag} {G:J}:∀{ds:List D} {vs:List V} {ks:List Key},uG ds=some ks→aE K G ds vs→vs=ks.map cE
 | [],_,_,e,a=>by simp only [aE] at a; subst a; cases e; rfl
 | d::ds,_,_,e,a=>by
   simp only [aE] at a
   obtain ⟨v,r,rfl,bc,lb⟩:=a
   unfold uG at e
   split at e
   · rename_i k ks ah aw
     cases e
     rw [N8 ah bc,Ex aw lb]; rfl
   · cases e
theorem yE {K:PySem.W.Frag} {G:J} {d:D} {v:V} {ks:List Key} (e:mR d=some ks) (a:At K G d v):∃b,v= .ref b∧G b=some (.tup (ks.map cE)):=by
 cases d with
 | tup ds=>
   simp only [At] at a
   obtain ⟨b,xs,rfl,hb,al⟩:=a
   exact ⟨b,rfl,by rw [hb,Ex e al]⟩
 | _=>cases e
theorem AP {κ:Type} [DecidableEq κ] (k:κ):∀aQ:List (κ×V),(fT aQ k).isSome=(aQ.map (·.1)).any (fun x=>decide (x=k))
 | []=>rfl
 | (x,v)::aQ=>by
   have b8:=AP k aQ
   unfold fT at b8 ⊢
   rw [List.find?_cons,List.map_cons,List.any_cons]
   by_cases h:x=k
   · simp [h]
   · simp only [h,decide_false,Bool.false_or]; exact b8
noncomputable def fA (b:Bool) (k d:D):R D:=match d with
 | .bx ks _=>match mR k with
   | some b0=> .ok (.au (if b then ks.any (fun x=>decide (x=b0)) else !ks.any (fun x=>decide (x=b0))))
   | none=> .bad
 | _=> .bad
theorem Cd {b:Bool} {σ :St} {ρ:ai} {G H:J} {y x:V} {ix dd:D} {Q:b9} (r:Rel F G H σ ρ) (cI:At F.K G ix y) (bH:At F.K G dd x) (h:ig F G H σ ρ Q (fA b ix dd)) :
  ∃a o,x= .ref a∧jO H a y o∧Q (.au (if b then o.isSome else !o.isSome)) H:=by
 unfold fA at h
 split at h
 · rename_i ks ds
   split at h
   · rename_i b0 dD
     simp only [At] at bH
     obtain ⟨a,xs,rfl,hg,rfl,al⟩:=bH
     obtain ⟨q,rfl,aD⟩:=yE dD cI
     refine ⟨a,fT xs b0,rfl,jO.t (r.aC.sub _ _ hg) (r.aC.sub _ _ aD),?_⟩
     rw [AP]
     exact h _ H G r (b2.refl _ _) (by simp only [At])
   · exact h.elim
 · exact h.elim
theorem Eb:ek (cA F (ar (fA true) m n)) (Gy (cA F m) (cA F n)):=by
 rintro σ H Q ⟨G,ρ,r,h⟩
 unfold ar at h
 refine ⟨G,ρ,r,?_⟩
 cases av:m ρ with
 | bad=>rw [av] at h; exact h.elim
 | exc c=>rw [av] at h; exact h
 | ok ix=>
   rw [av,R.bo] at h
   intro y H1 aM ao s1 cI
   refine ⟨aM,ρ,ao,?_⟩
   cases bq:n ρ with
   | bad=>rw [bq] at h; exact h.elim
   | exc c=>rw [bq] at h; exact h
   | ok dd=>
     rw [bq,R.bo] at h
     intro x aH cb a_ s2 bH
     exact Cd (b:=true) a_ (cI.mono s2.g) bH (h.mono (s1.trans s2))
theorem MB:ek (cA F (ar (fA false) m n)) (Gz (cA F m) (cA F n)):=by
 rintro σ H Q ⟨G,ρ,r,h⟩
 unfold ar at h
 refine ⟨G,ρ,r,?_⟩
 cases av:m ρ with
 | bad=>rw [av] at h; exact h.elim
 | exc c=>rw [av] at h; exact h
 | ok ix=>
   rw [av,R.bo] at h
   intro y H1 aM ao s1 cI
   refine ⟨aM,ρ,ao,?_⟩
   cases bq:n ρ with
   | bad=>rw [bq] at h; exact h.elim
   | exc c=>rw [bq] at h; exact h
   | ok dd=>
     rw [bq,R.bo] at h
     intro x aH cb a_ s2 bH
     exact Cd (b:=false) a_ (cI.mono s2.g) bH (h.mono (s1.trans s2))
theorem Wf (hu:X.A.units + 64 < cLine) (ha:a3 X F a m) (hb:a3 X F b n) (h1:behindInMarks .In b=false:=by with_unfolding_all rfl):a3 X F (.Compare a [.In] [b] pos) (ar (fA true) m n):=aS.imp (Fy (Fw (by omega) ha hb) h1) Eb
theorem Kd (hu:X.A.units + 64 < cLine) (ha:a3 X F a m) (hb:a3 X F b n) (h1:behindInMarks .NotIn b=false:=by with_unfolding_all rfl):a3 X F (.Compare a [.NotIn] [b] pos) (ar (fA false) m n):=aS.imp (Fy (QB (by omega) ha hb) h1) MB
theorem T2 (hu:X.A.units + 64 < cLine) (ha:a3 X F a m) (hb:a3 X F b n) (h1:behindInMarks .In b=false:=by with_unfolding_all rfl):fy X F (.Compare a [.In] [b] pos) (bz (ar (fA true) m n)):=by
 refine eG.imp (Rl (Fw (by omega) ha hb) h1) fun σ H Q h=>?_
 obtain ⟨G,ρ,r,k⟩:=yn σ H Q h
 exact Eb σ H _ ⟨G,ρ,r,k⟩
noncomputable def rR (i:Nat):a0:=fun ρ=>if i < ρ.length then .ok (.a9 (ρ.set i (.aU (.bx [] [])))) else .bad
theorem Sp (i:Nat) {x:Str} {p q:Pos} (hN:X.N.Nodup) (hi:X.N[i]? =some x:=by rfl) (hx:Loc X.env.scope x:=by first | exact Or.inl rfl | exact Or.inr rfl) (hf:X.fn x=true∨X.env.scope.names.lookup x=some .local:=by first | exact .inl rfl | exact .inr rfl):fx X F (.Assign [.Name x p] (.Dict [] [] q) pos) (rR i):=by
 refine cK.imp (vg hN hi hx QJ (kO _ _ _ _ rfl) hf) ?_
 rintro b6 σ H ⟨G,ρ,r,h⟩
 unfold rR at h
 intro a ha
 split at h
 · rename_i hl
   refine h _ G _ ((r.lay0 ha).setB hl dv (r.aC.sub.gone ha) (r.aC.hh.gone ha) ⟨[],rfl,rfl,.nil⟩ fun j ae o _ ah aw f=>c2.fresh r (Sub.upd ha) ha ⟨j,ae,o,ah,aw,f⟩) (Sub.refl _)
 · exact h.elim
noncomputable def putD (ks:List (List Key)) (ds:List D) (b0:List Key) (d:D):R jU:=if ks.any (fun x=>decide (x=b0))=false∧ks.length < 1000000 then .ok (.bx (ks ++ [b0]) (ds ++ [d])) else .bad
noncomputable def lG (i:Nat) (mk mv:ay):a0:=fun ρ=>(mv ρ).bind fun v=>match ρ[i]? with
 | some (.aU (.bx ks ds))=>(mk ρ).bind fun k=>match mR k with
   | some b0=>(putD ks ds b0 v).bind fun o=> .ok (.a9 (ρ.set i (.aU o)))
   | none=> .bad
 | _=> .bad
theorem Sa (i:Nat) {x:Str} {bg pos':Pos} {k v:Expr} {mk mv:ay} (hu:X.A.units + 64 < cLine) (hk:a3 X F k mk) (hv:a3 X F v mv) (hN:X.N[i]? =some x:=by rfl) (hvs:fG X.env.scope x:=by first | exact Or.inl rfl | exact Or.inr (Or.inl rfl) | exact Or.inr (Or.inr rfl)) (hd:(x == ("__debug__" :Str))=false:=by decide) (hcd:(x == ("__classdict__" :Str))=false:=by decide) (hs:i6 v=true:=by rfl) :
  fx X F (.Assign [.Subscript (.Name x bg) k pos'] v pos) (lG i mk mv):=by
 refine cK.imp (Rc (by omega) (jE hN hvs hd hcd) hk hv (kO _ _ _ _ hs)) ?_
 rintro b6 σ H ⟨G,ρ,r,h⟩
 unfold lG at h
 refine ⟨G,ρ,r,?_⟩
 cases av:mv ρ with
 | bad=>rw [av] at h; exact h.elim
 | exc c=>rw [av] at h; exact h
 | ok We=>
   rw [av,R.bo] at h
   intro v H1 aM ao s1 bc
   split at h
   · rename_i ks ds cJ
     obtain ⟨q,ho,ah,_⟩:=ao.obj cJ
     refine ⟨.ref q,ah,aM,ρ,ao,?_⟩
     cases bq:mk ρ with
     | bad=>rw [bq] at h; exact h.elim
     | exc c=>rw [bq] at h; exact h
     | ok ix=>
       rw [bq,R.bo] at h
       intro y aH cb a_ s2 cI
       obtain ⟨cS,ho',gm,h1,h2,h3,xs,rfl,rfl,al⟩:=a_.obj cJ
       rw [ah] at gm; cases gm
       split at h
       · rename_i b0 dD
         unfold putD at h
         split at h
         · rename_i hc
           obtain ⟨xV,mH⟩:=hc
           obtain ⟨IW,rfl,xS⟩:=yE dD cI
           have aN:fT xs b0=none:=by
            have:=AP b0 xs
            rw [xV] at this
            exact Option.not_isSome_iff_eq_none.mp (by rw [this]; exact Bool.false_ne_true)
           refine ⟨q,_,rfl,qF.t h1 (a_.aC.sub _ _ xS) (Nat.lt_trans (by simpa using mH) (by decide)),?_⟩
           rw [Rr _ aN]
           refine h σ cb _ (a_.yY cJ ah ⟨xs ++ [(b0,v)],rfl,by simp,?_⟩) (s1.g.trans s2.g)
           rw [List.map_append]
           exact al.snoc (bc.mono s2.g)
         · exact h.elim
       · exact h.elim
   · exact h.elim
noncomputable def ka (m:ay):a0:=fun ρ=>(m (eO ρ)).bind fun d=> .ok (.dF d)
theorem Sn (h:a3 X F e m):fx X F (.Return (some e) pos) (ka m):=by
 refine cK.imp (sm h) ?_
 rintro b6 σ H ⟨G,ρ,r,h⟩
 unfold ka at h
 refine ⟨_,_,r.plus,?_⟩
 cases av:m (eO ρ) with
 | bad=>rw [av] at h; exact h.elim
 | exc c=>rw [av] at h; exact h
 | ok d=>rw [av,R.bo] at h; exact fun v H' G' a4 s' a=>h v G' H' a4.aC a
noncomputable def pN:a0:=fun _=> .bad
theorem R7 {st:Stmt}:fx X F st pN:=cK.imp FJ fun b6 σ H ⟨G,ρ,r,h⟩=>h.elim
end
end aA
set_option Elab.async false
set_option linter.all false
set_option maxRecDepth 100000
namespace aA
open PySem PySem.Spec aZ
mutual
noncomputable def i5:D→Bool
 | .ins _ _ _=>false
 | .tup ds=>jD ds
 | .lst ds=>jD ds
 | .b7 ds=>jD ds
 | .cL _ ds=>jD ds
 | .bx _ ds=>jD ds
 | .c1 ds=>jD ds
 | _=>true
noncomputable def jD:List D→Bool
 | []=>true
 | d::ds=>i5 d && jD ds
end
noncomputable def rD:cY→Bool
 | .ins _ _ _=>true
 | _=>false
section
variable {K:PySem.W.Frag} {G G':J}
theorem fh.off (h:∀b o,G b=some o→rD o=false→G' b=some o) {a:Addr} {u:cY} (hu:rD u=false) (r:fh G a u):fh G' a u:=by
 rcases r with r | ⟨o,r⟩
 · exact .inl (h _ _ r hu)
 · exact .inr ⟨o,h _ _ r rfl⟩
mutual
theorem At.off (h:∀b o,G b=some o→rD o=false→G' b=some o):∀{d:D} {v:V},i5 d=true→At K G d v→At K G' d v
 | .non,_,_,q=>by simpa only [At] using q
 | .au _,_,_,q=>by simpa only [At] using q
 | .int _,_,_,q=>by simpa only [At] using q
 | .str _,_,_,q=>by simpa only [At] using q
 | .tup _,_,n,q=>by
   simp only [At,i5] at q n ⊢
   obtain ⟨a,xs,e,g,r⟩:=q
   exact ⟨a,xs,e,h _ _ g rfl,aE.off h n r⟩
 | .lst _,_,n,q=>by
   simp only [At,i5] at q n ⊢
   obtain ⟨a,xs,e,g,r⟩:=q
   exact ⟨a,xs,e,h _ _ g rfl,aE.off h n r⟩
 | .b7 _,_,n,q=>by
   simp only [At,i5] at q n ⊢
   obtain ⟨a,xs,e,g,r⟩:=q
   refine ⟨a,xs,e,?_,aE.off h n r⟩
   rcases g with g | g
   · exact .inl (fh.off h rfl g)
   · exact .inr g
 | .c1 _,_,n,q=>by
   simp only [At,i5] at q n ⊢
   obtain ⟨a,xs,e,g,r⟩:=q
   refine ⟨a,xs,e,?_,aE.off h n r⟩
   rcases g with g | g
   · exact .inl (fh.off h rfl g)
   · exact .inr g
 | .cL _ _,_,n,q=>by
   simp only [At,i5] at q n ⊢
   obtain ⟨a,xs,e,g,k,r⟩:=q
   exact ⟨a,xs,e,h _ _ g rfl,k,aE.off h n r⟩
 | .bx _ _,_,n,q=>by
   simp only [At,i5] at q n ⊢
   obtain ⟨a,xs,e,g,k,r⟩:=q
   exact ⟨a,xs,e,h _ _ g rfl,k,aE.off h n r⟩
 | .ins _ _ _,_,n,_=>by simp only [i5] at n; cases n
 | .gn _,_,n,q=>by
   simp only [At] at q ⊢
   obtain ⟨a,xs,e,⟨C,bD,g⟩,r⟩:=q
   exact ⟨a,xs,e,⟨C,bD,h _ _ g rfl⟩,r⟩
theorem aE.off (h:∀b o,G b=some o→rD o=false→G' b=some o):∀{ds:List D} {vs:List V},jD ds=true→aE K G ds vs→aE K G' ds vs
 | [],_,_,q=>by simpa only [aE] using q
 | _::_,_,n,q=>by
   simp only [aE,jD,Bool.and_eq_true] at q n ⊢
   obtain ⟨v,r,e,a,t⟩:=q
   exact ⟨v,r,e,At.off h n.1 a,aE.off h n.2 t⟩
end
end
noncomputable def S7:cQ→Bool
 | .aU (.ins _ _ _)=>true
 | .aU _=>false
 | .dm _=>false
 | _=>true
noncomputable def y8 (ρ:ai):Bool:=ρ.all S7
noncomputable def mS (m:ay):ay:=fun ρ=>(m (eO ρ)).bind fun d=>if i5 d=true∧y8 ρ=true then .ok d else .bad
section
variable {F:bf}
open Classical in
noncomputable def pw (H:J) (σ :St) (ρ:ai) (G:J):J:=fun b=>if c2 H σ ρ b then none else G b
theorem Mu {m:ay}:ek (cA F (mS m)) (cA F m):=by
 rintro σ H Q ⟨G,ρ,r,h⟩
 refine ⟨jo σ ρ G H,eO ρ,r.plus,?_⟩
 unfold mS at h
 cases av:m (eO ρ) with
 | bad=>rw [av] at h; exact h.elim
 | exc c=>rw [av] at h; exact h
 | ok d=>
   rw [av,R.bo] at h
   intro v H' G' a4 s' a
   by_cases hd:i5 d=true∧y8 ρ=true
   · rw [if_pos hd] at h
     have Ft:∀b,c2 H σ ρ b→G b=none:=fun b z=>(r.foot z).2.1
     have Fs:∀b,c2 H σ ρ b→F.a7 b=none:=fun b z=>(r.foot z).2.2
     have Qv:∀b,c2 H σ ρ b→∃ho,H b=some ho∧rD ho=true:=fun b ⟨i,s,o,ah,aw,f⟩=>by
      have hi:=List.all_eq_true.mp hd.2 _ (List.mem_of_getElem? ah)
      cases s with
      | un=>exact f.elim
      | ax _=>exact f.elim
      | dm _=>cases hi
      | aU aU=>
        have f:o=some (.ref b):=f
        obtain ⟨c,ho,bK,h1,_,_,h4⟩:=r.obj ah
        rw [aw,f] at bK; cases bK
        cases aU with
        | lst _=>cases hi
        | bx _ _=>cases hi
        | ins _ _ _=>obtain ⟨C,aT,xs,_,rfl,_⟩:=h4; exact ⟨_,h1,rfl⟩
     have off:∀b,¬ c2 H σ ρ b→pw H σ ρ G' b=G' b:=fun b n=>by unfold pw; rw [if_neg n]
     have on:∀b,c2 H σ ρ b→pw H σ ρ G' b=none:=fun b n=>by unfold pw; rw [if_pos n]
     have aY:Sub G (pw H σ ρ G'):=fun b o e=>by
      have n:¬ c2 H σ ρ b:=fun z=>by rw [Ft b z] at e; cases e
      rw [off b n]; exact s'.g b o (xJ r b o e)
     have N1:∀b,c2 H σ ρ b→∀o,H b=some o→H' b=some o:=fun b z o e=>a4.aC.sub _ _ (s'.g _ _ (by rw [rl z]; exact e))
     have rel:Rel F (pw H σ ρ G') H' σ ρ:=by
      refine r.over rfl ⟨fun b o e=>?_,r.aC.eC.trans aY,a4.aC.hh,fun b hb=>?_⟩ aY fun b df=>?_
      · by_cases n:c2 H σ ρ b
        · rw [on b n] at e; cases e
        · rw [off b n] at e; exact a4.aC.sub b o e
      · have n:¬ c2 H σ ρ b:=fun z=>hb (Fs b z)
        rw [off b n]; exact a4.aC.new b hb
      · refine ⟨?_,on b df,Fs b df⟩
        cases bq:H b with
        | none=>exact absurd bq (r.foot df).1
        | some o=>exact N1 b df o bq
     refine h v H' _ rel ⟨aY,s'.h,fun b hb=>?_⟩ (At.off (fun b o e hi=>?_) hd.1 a)
     · by_cases n:c2 H σ ρ b
       · rw [on b n,Ft b n]
       · rw [off b n,s'.n b hb]
         unfold jo
         rw [if_neg n]
     · have n:¬ c2 H σ ρ b:=fun z=>by
        obtain ⟨ho,ah,aw⟩:=Qv b z
        have:=s'.g b ho (by rw [rl z]; exact ah)
        rw [e] at this; cases this
        rw [hi] at aw; cases aw
       rw [off b n]; exact e
   · rw [if_neg hd] at h; exact h.elim
noncomputable abbrev hO:=ai→R ai
noncomputable def NU (F:bf) (σ :St) (b6:Ends):R ai→Prop
 | .ok bj=>∀G' H',Rel F G' H' σ bj→b6.a9 σ H'
 | .exc c=>jw F c
 | .bad=>False
noncomputable def lS (F:bf) (m:hO):d5:=fun b6 σ H=>∃G ρ,Rel F G H σ ρ∧NU F σ b6 (m ρ)
noncomputable def kI (a b:hO):hO:=fun ρ=>(a ρ).bind b
theorem M9 {a b:hO}:fY (lS F (kI a b)) (AA (lS F a) (lS F b)):=by
 rintro b6 σ H ⟨G,ρ,r,h⟩
 unfold kI at h
 refine ⟨G,ρ,r,?_⟩
 cases av:a ρ with
 | bad=>rw [av] at h; exact h.elim
 | exc c=>rw [av] at h; exact h
 | ok dQ=>rw [av,R.bo] at h; exact fun G' H' a4=>⟨G',dQ,a4,h⟩
noncomputable def mT (c:bJ):hO:=fun ρ=>(c ρ).bind fun k=>if k=true then .bad else .ok ρ
theorem MI {c:bJ}:fY (lS F (mT c)) (Ax (fc F c) GG Ay):=by
 rintro b6 σ H ⟨G,ρ,r,h⟩
 unfold mT at h
 refine ⟨G,ρ,r,?_⟩
 cases av:c ρ with
 | bad=>rw [av] at h; exact h.elim
 | exc c=>rw [av] at h; exact h
 | ok k=>
   rw [av,R.bo] at h
   intro H1 aM ao s1
   cases k with
   | true=>exact h.elim
   | false=>exact h aM H1 ao
theorem zk {f:Str} {v:V}:∀{aO:List (Str×V)},(aO.map (·.1)).all (fun k=> !(f == k))=true→gw f v aO=aO ++ [(f,v)]
 | [],_=>rfl
 | (g,x)::aO,h=>by
   simp only [List.map_cons,List.all_cons,Bool.and_eq_true,Bool.not_eq_true'] at h
   have ne:g≠f:=fun z=>by subst z; simp at h
   rw [gw,if_neg ne,zk (by simpa using h.2)]; rfl
noncomputable def i3 (bb f:Str) (m:ay):hO:=fun ρ=>(m ρ).bind fun d=>match (ρ[0]? :Option cQ) with
 | some (.aU (.ins fz ns ds))=>if fz=bb∧ns.all (fun k=> !(f == k))=true∧ns.length < 1000 then .ok (ρ.set 0 (.aU (.ins bb (ns ++ [f]) (ds ++ [d])))) else .bad
 | _=> .bad
end
section
variable {X:aG} {F:bf} {e o:Expr} {pos:Pos} {m:ay}
theorem J_ (h:a3 X F e m):a3 X F e (mS m):=aS.imp h Mu
theorem Se {bb f x:Str} {aO:List Str} {bg pos':Pos} (k:qE X.K bb aO) (he:a3 X F e m) (hf:f∈aO:=by decide +kernel) (hN:X.N[0]? =some x:=by rfl) (hv:fG X.env.scope x:=by first | exact Or.inl rfl | exact Or.inr (Or.inl rfl) | exact Or.inr (Or.inr rfl)) (hd:(x == ("__debug__" :Str))=false:=by decide) (hcd:(x == ("__classdict__" :Str))=false:=by decide) (hs:i6 e=true:=by rfl) (hK:F.K=X.K:=by rfl) :
  cK X (.Assign [.Attribute (.Name x bg) f pos'] e pos) (lS F (i3 bb f m)):=by
 refine cK.imp (Rd (jE hN hv hd hcd) he (kO _ _ _ _ hs)) ?_
 rintro b6 σ H ⟨G,ρ,r,h⟩
 unfold i3 at h
 refine ⟨G,ρ,r,?_⟩
 cases av:m ρ with
 | bad=>rw [av] at h; exact h.elim
 | exc c=>rw [av] at h; exact h
 | ok d=>
   rw [av,R.bo] at h
   intro v H1 aM ao s1 bc
   split at h
   · rename_i fz ns ds cJ
     split at h
     · rename_i hc
       obtain ⟨rfl,mH,Ly⟩:=hc
       obtain ⟨q,ho,ah,h1,h2,h3,C,aT,xs,bD,rfl,rfl,al⟩:=ao.obj cJ
       obtain ⟨iI,k1,k2,k3⟩:=k.ex
       rw [hK] at bD
       have:=bD.inj k1
       subst this
       refine ⟨.ref q,ah,q,C,aT,xs,rfl,h1,k2,k3 f hf,by simpa using Ly,?_⟩
       refine h aM _ (ao.yY cJ ah ⟨C,aT,gw f v xs,by rw [hK]; exact bD,rfl,?_,?_⟩)
       · rw [zk mH]; simp
       · rw [zk mH,List.map_append]; exact al.snoc bc
     · exact h.elim
   · exact h.elim
end
noncomputable def Er (F:bf) (x C:Addr) (Q:b9):R (List Str×List D)→Prop
 | .ok (ns,ds)=>∀aT xs G' H',dX F G' H'→G' x=none→H' x=some (.ins C aT xs)→xs.map (·.1)=ns→aE F.K G' ds (xs.map (·.2))→Q .non H'
 | .exc _=>False
 | .bad=>False
noncomputable def sE (K:PySem.W.Frag) (bb:Str) (n:Nat) (mf:List D→R (List Str×List D)):iv:=fun vs H Q E=>∃G x C aT ae ws,vs= .ref x::ws∧eS K bb C∧H x=some (.ins C aT [])∧G x=none∧Sub G H∧aE K G ae ws∧ae.length=n∧Er ⟨K,G,del H x,fun _ _=>False⟩ x C Q (mf ae)
noncomputable def pT (bb:Str) (n:Nat) (mf:List D→R (List Str×List D)) (ma:aK):ay:=fun ρ=>(ma ρ).bind fun ds=>if ds.length=n then (eK (mf ds)).bind fun x=> .ok (.ins bb x.1 x.2) else .bad
section
variable {X:aG} {F:bf} {e:Expr} {ae:List Expr} {pos p:Pos} {ma:aK}
theorem MP {bb:Str} {n:Nat} {mf:List D→R (List Str×List D)} {C:Addr} {E:cM} (h_:eS F.K bb C):ek (cA F (pT bb n mf ma)) (GD C (sE F.K bb n mf) [] E (ee F ma)):=by
 rintro σ H Q ⟨G,ρ,r,h⟩
 unfold pT at h
 refine ⟨G,ρ,r,?_⟩
 cases av:ma ρ with
 | bad=>rw [av] at h; exact h.elim
 | exc c=>rw [av] at h; exact h
 | ok ds=>
   rw [av,R.bo] at h
   intro vs H1 aM ao s1 bc x aT hx xX ne
   by_cases aN:ds.length=n
   · rw [if_pos aN] at h
     rw [List.append_nil]
     have zy:Sub H1 (del (upd (upd H1 aT (.own x)) x (.ins C aT [])) x):=fun b o e=>by
      have du:b≠x:=fun z=>by rw [z,hx] at e; cases e
      have c_:b≠aT:=fun z=>by rw [z,xX] at e; cases e
      rw [JH du,cG du,cG c_]; exact e
     have R4:Sub aM (upd (upd H1 aT (.own x)) x (.ins C aT [])):=ao.aC.sub.trans (zy.trans (Cc _ _))
     refine ⟨aM,x,C,aT,ds,vs,rfl,h_,dv,ao.aC.sub.gone hx,R4,bc,aN,?_⟩
     cases em:mf ds with
     | bad=>rw [em] at h; exact h.elim
     | exc c=>rw [em] at h; exact h.elim
     | ok y=>
       obtain ⟨ns,q_⟩:=y
       rw [em] at h
       intro xg xs G' H' k g1 g2 g3 hy
       refine ⟨rfl,?_⟩
       have hh:Sub H1 H':=zy.trans k.hh
       have nw:∀b,H1 b≠none→G' b=aM b:=fun b hb=>k.new b (zy.some hb)
       have a_:Rel F G' H' σ ρ:=ao.grow k.eC k.sub hh nw
       have no:¬ c2 H' σ ρ x:=c2.fresh ao hh hx
       refine h (.ref x) H' _ (a_.take g2 g1 (ao.aC.hh.gone hx) no) ((s1.trans ⟨k.eC,hh,nw⟩).put (s1.h.gone hx) g1) ?_
       simp only [At]
       exact ⟨x,xg,xs,rfl,⟨C,h_,dv⟩,g3,hy.mono (Sub.upd g1)⟩
   · rw [if_neg aN] at h; exact h.elim
structure tw (P:Program) (w:World) (K:PySem.W.Frag) (mg:Str→Option Value) (base:Heap) (bb:Str) (n k:Nat) (mf:List D→R (List Str×List D)):Prop where
 ex:∃(C f:Addr) (fd:FuncData) (aB:List Str),eS K bb C∧tA K C f∧gC P w K mg base gg k f fd aB (sE K bb n mf)∧mg bb=some (.ref C)∧Binds K fd aB []
theorem Kq {bb:Str} {n k:Nat} {mf:List D→R (List Str×List D)} (c:tw X.prog X.w X.K X.mg X.base bb n k mf) (hr:cZ (k + 1) X.A) (ha:fV X F (e::ae) ma) (hK:F.K=X.K:=by rfl) (hg:cv X bb:=by rfl) (hdb:(bb == ("__debug__" :Str))=false:=by decide)
  (he:starEach (e::ae) X.env=(false,eval e X.env)::starEach ae X.env:=by rfl) (hpl:(backTo pos (starEach ae X.env)).any (·.1)=false:=by rfl):a3 X F (.Call (.Name bb p) (e::ae) [] pos) (pT bb n mf ma):=by
 obtain ⟨C,f,fd,aB,bD,dj,j2,hm,hb⟩:=c.ex
 refine aS.imp (QO dj j2 hr hg hm hb .nil ve ha hdb he hpl) ?_
 rw [←hK]
 exact MP (by rw [hK]; exact bD)
end
noncomputable def iV (bb:Str) (ae:List D):ai:= .aU (.ins bb [] [])::ae.map .ax
noncomputable def outI (bb:Str):R ai→R (List Str×List D)
 | .ok (.aU (.ins c ns ds)::_)=>if c=bb then .ok (ns,ds) else .bad
 | _=> .bad
theorem RR {K:PySem.W.Frag} {G H:J} {gB:Str→J→Prop} {bb:Str} {C aT x:Addr} {ae:List D} {ws:List V} (h_:eS K bb C) (h1:H x=some (.ins C aT [])) (h2:G x=none) (s:Sub G H) (bc:aE K G ae ws) :
  Rel ⟨K,G,del H x,gB⟩ G H (some (.ref x)::ws.map some) (iV bb ae):=by
 refine ⟨⟨s,Sub.refl _,Cc H x,fun _ _=>rfl⟩,by simp [iV,bc.length],fun i t e=>?_,fun i j b aO Dq o bC a6 aX _ _ f t8=>?_⟩
 · cases i with
   | zero=>
     simp [iV] at e; subst e
     exact ⟨some (.ref x),by simp,x,_,rfl,h1,h2,JI,C,aT,[],h_,rfl,rfl,.nil⟩
   | succ i=>
     simp only [iV,List.getElem?_cons_succ] at e ⊢
     rw [List.getElem?_map] at e
     cases d8:ae[i]? with
     | none=>rw [d8] at e; cases e
     | some d=>
       rw [d8] at e; cases e
       obtain ⟨v,ah,a⟩:=bc.get d8
       exact ⟨some v,by rw [List.getElem?_map,ah]; rfl,v,rfl,a⟩
 · have one:∀{i:Nat} {aO:cQ} {o:Option V},(iV bb ae)[i]? =some aO→fv H aO o b→i=0:=fun {i aO o} e f=>by
    cases i with
    | zero=>rfl
    | succ i=>
      simp only [iV,List.getElem?_cons_succ,List.getElem?_map] at e
      cases d8:ae[i]? with
      | none=>rw [d8] at e; cases e
      | some d=>rw [d8] at e; cases e; exact f.elim
   rw [one a6 f,one aX t8]
theorem Nm {K:PySem.W.Frag} {bb:Str} {n:Nat} {m:hO} {vs:List V} {H:J} {Q:b9} {E:cM} (h:sE K bb n (fun ae=>outI bb (m (iV bb ae))) vs H Q E) :
  ∃G a7,lS (dO K G a7) m { a9:=fun _ H'=>Q .non H',dF:=Q } (vs.map some) H:=by
 obtain ⟨G,x,C,aT,ae,ws,rfl,h_,h1,h2,s,bc,l,k⟩:=h
 refine ⟨G,del H x,G,iV bb ae,RR h_ h1 h2 s bc,?_⟩
 replace k:Er ⟨K,G,del H x,fun _ _=>False⟩ x C Q (outI bb (m (iV bb ae))):=k
 cases em:m (iV bb ae) with
 | bad=>rw [em] at k; exact k.elim
 | exc c=>rw [em] at k; exact k.elim
 | ok bj=>
   rw [em] at k
   intro G' H' r
   unfold outI at k
   split at k
   · rename_i Wb ns ds f_ heq
     cases heq
     obtain ⟨a,ho,ah,g1,g2,g3,iI,xg,xs,bD,rfl,aw,al⟩:=r.obj (i:=0) rfl
     have ah:some (some (V.ref x))=some (some (V.ref a)):=ah
     cases ah
     split at k
     · rename_i hc
       subst hc
       have:=bD.inj h_
       subst this
       exact k xg xs G' H' r.aC g2 g1 aw al
     · exact k.elim
   · exact k.elim
end aA
set_option Elab.async false
set_option linter.all false
set_option maxRecDepth 100000
namespace aA
open PySem PySem.Spec aZ PyProof.Rows
theorem Gk {K:PySem.W.Frag} {bb:Str} {n:Nat} {mf:List D→R (List Str×List D)}:∀vs H Q E,sE K bb n mf vs H Q E→vs.length=n + 1:=fun vs H Q E h=>by
 obtain ⟨G,x,C,aT,ae,ws,rfl,_,_,_,_,q,l,_⟩:=h
 rw [List.length_cons,←q.length,l]
theorem Tt {N:List Str} {vs:List V} (h:vs.length=N.length):aZ.start N vs=vs.map some:=by
 unfold aZ.start
 simp [h]
theorem MV {P:Program} {w:World} {K:PySem.W.Frag} {mg:Str→Option Value} {base:Heap} {x qual bb g0:Str} {st:Stmt} {aB:List Str} {k:Nat} {m:hO} {f:Addr} {fd:FuncData} (fn:jP K x qual st f fd) (S:cP (g0::aB) (g0::aB) (bP st))
  (h:∀(f:Addr) (bX:Value) (A:Around) (outer:List Env) (s:Shared) (H:J) (E:cM),cZ k (A.deeper (PyProof.Rows.envOfC qual (bP st) s.heap.objs.size f bX))→∀bw a7,e9 (eo gg P w K mg base (g0::aB) qual (bP st) f bX A outer s H E).f9 (fl st) (lS (dO K bw a7) m)) :
  gC P w K mg base gg (k + 1) f fd (g0::aB) (sE K bb aB.length fun ae=>outI bb (m (iV bb ae))):=fn.ok S Gk fun bX A outer s H vs Q E hr hs=>by
 have hl:=Gk vs H Q E hs
 obtain ⟨G,a7,ht⟩:=Nm hs
 refine ⟨_,h f bX A outer s H E hr G a7,?_⟩
 rw [Tt (by simpa using hl)]
 exact ht
theorem Pd {P:Program} {w:World} {K:PySem.W.Frag} {mg:Str→Option Value} {base:Heap} {x qual bb g0:Str} {st:Stmt} {N aB:List Str} {k:Nat} {m:a0} {C f:Addr} {fd:FuncData} (fn:jP K x qual st f fd) (h_:eS K bb C) (hc:iJ K C) (hm:Meth K C x f) (hb:Binds K fd (g0::aB) []) (S:cP N (g0::aB) (bP st))
  (h:∀(f:Addr) (bX:Value) (A:Around) (outer:List Env) (s:Shared) (H:J) (E:cM),cZ k (A.deeper (PyProof.Rows.envOfC qual (bP st) s.heap.objs.size f bX))→∀bw a7,hS (eo gg P w K mg base N qual (bP st) f bX A outer s H E).f9 (dO K bw a7) (fl st) m) :
  mh P w K mg base bb x aB.length (k + 1) (cU N.length m):=by
 refine ⟨C,f,fd,g0::aB,h_,hc,hm,fn.ok S vu fun bX A outer s H vs Q E hr hs=>?_,hb⟩
 obtain ⟨G,ht⟩:=tT hs
 exact ⟨_,(h f bX A outer s H E hr G H).1,ht⟩
section
variable {X:aG} {F:bf} {e a b c:Expr} {ae:List Expr} {pos p:Pos} {m n:ay} {ma:aK}
noncomputable def kQ:List D→R D
 | [.lst xs]=> .ok (.tup xs)
 | [.b7 xs]=> .ok (.tup xs)
 | [.tup xs]=> .ok (.tup xs)
 | _=> .bad
theorem Qc (hK:F.K=X.K):l_ F (fun xs H Q=>∃p ys,xs=[.ref p]∧((bI X.K H p ys∧∀l,H l=none→Q (.ref l) (upd H l (.tup ys)))∨(cu X.K H p ys∧Q (.ref p) H))) kQ:=by
 intro σ ρ G H xs ds Q r al k
 unfold kQ at k
 split at k
 · obtain ⟨v,rfl,bc⟩:=al.one
   simp only [At] at bc
   obtain ⟨q,ys,rfl,aD,fH⟩:=bc
   refine ⟨q,ys,rfl,.inl ⟨bI.of (r.aC.sub _ _ aD),fun l hl=>?_⟩⟩
   refine k (.ref l) _ _ (r.lay hl) (b2.lay r.aC.sub hl) ?_
   simp only [At]
   exact ⟨l,ys,rfl,dv,fH.mono (Sub.upd (r.aC.sub.gone hl))⟩
 · obtain ⟨v,rfl,bc⟩:=al.one
   simp only [At] at bc
   obtain ⟨q,ys,rfl,aD,fH⟩:=bc
   refine ⟨q,ys,rfl,.inl ⟨by rw [←hK]; exact bI.mono r.aC.sub aD,fun l hl=>?_⟩⟩
   refine k (.ref l) _ _ (r.lay hl) (b2.lay r.aC.sub hl) ?_
   simp only [At]
   exact ⟨l,ys,rfl,dv,fH.mono (Sub.upd (r.aC.sub.gone hl))⟩
 · obtain ⟨v,rfl,bc⟩:=al.one
   have IK:=bc
   simp only [At] at bc
   obtain ⟨q,ys,rfl,aD,fH⟩:=bc
   exact ⟨q,ys,rfl,.inr ⟨cu.of (r.aC.sub _ _ aD),k _ H G r (b2.refl _ _) IK⟩⟩
 · exact k.elim
theorem KL (hm:X.mg "tuple"=none) (ha:fV X F [e] ma) (hK:F.K=X.K:=by rfl) (hg:cv X "tuple":=by rfl) (he:starEach [e] X.env=(false,eval e X.env)::starEach [] X.env:=by rfl) (hpl:(backTo pos (starEach [] X.env)).any (·.1)=false:=by rfl) :
  a3 X F (.Call (.Name "tuple" p) [e] [] pos) (cy kQ ma):=xj Jj (Qc hK) hm (by kernel_rfl) ha hg (by decide) (by decide) he hpl
end
end aA
set_option Elab.async false
set_option linter.all false
set_option maxRecDepth 100000
namespace d3
open PySem PyProof.Rows
section
variable {prog:Program} {w:World} {A:Around} {E:Value→Shared→Prop} {s:Shared}
end
end d3
namespace aZ
open PySem PySem.Spec PyProof.Rows
variable {X:aG}
end aZ
namespace aA
open PySem PySem.Spec aZ PyProof.Rows
section
variable {X:aG} {F:bf} {e a b c:Expr} {ae:List Expr} {pos p:Pos} {m n:ay} {ma:aK}
instance (i j:Int):Decidable (IntMulOk i j):=by unfold IntMulOk; infer_instance
end
end aA
set_option Elab.async false
set_option linter.all false
set_option maxRecDepth 100000
namespace aA
open PySem PySem.Spec aZ PyProof.Rows
section
variable {X:aG} {F:bf} {e a b c:Expr} {ae:List Expr} {pos p:Pos} {m n:ay} {ma:aK}
noncomputable def EU (i:Nat) (m:ay):aK:=fun ρ=>(ownAt i ρ).bind fun ds=>(m ρ).bind fun d=>match d with
 | .lst ae=>if ds.length + ae.length≤1000000 then .ok (ds ++ ae) else .bad
 | _=> .bad
end
end aA
set_option Elab.async false
set_option linter.all false
set_option maxRecDepth 100000
namespace aA
open PySem PySem.Spec aZ
section
variable {X:aG} {F:bf} {e a b c o bl iter elt:Expr} {ae:List Expr} {pos p:Pos} {m n:ay} {ma:aK} {st:Stmt} {lR:List Stmt}
theorem ni {bb f:Str} {aO:List Str} (k:qE X.K bb aO) (he:aV X F o m) (hf:f∈aO:=by decide +kernel) (hK:F.K=X.K:=by rfl) (hb:attributeBase o f X.env (eval o X.env)=eval o X.env:=by rfl):aV X F (.Attribute o f pos) (cH (f6 bb f) m):=⟨aA.Kg (k:=k) (he:=he.1) (hf:=hf) (hK:=hK) (hb:=hb)⟩
theorem vQ {bb mt:Str} {n k:Nat} {mf:List D→R b1} {pl:Sem Bool} {apos:Pos} (c:mh X.prog X.w X.K X.mg X.base bb mt n k mf) (hr:cZ k X.A) (he:aV X F o m) (ha:e_ X F (e::ae) ma) (hE:F.gB=fun _ _=>False:=by rfl) (hK:F.K=X.K:=by rfl) (hst:starEach (e::ae) X.env=(false,eval e X.env)::starEach ae X.env:=by rfl) (hpl:(backTo pos (starEach ae X.env)).any (·.1)=false:=by rfl) (ht:eval (.Call (.Attribute o mt apos) (e::ae) [] pos) X.env=(do
   let dU ←eval o X.env
   standAt apos.atName
   let (f,first) ←holding [dU] (getMethod dU mt pl)
   callWith pos f first (backTo pos (starEach (e::ae) X.env)) (backToKw pos (keywordEach [] X.env))):=by rfl):aV X F (.Call (.Attribute o mt apos) (e::ae) [] pos) (lI bb mt n mf m ma):=⟨aA.Kr (c:=c) (hr:=hr) (he:=he.1) (ha:=ha.1) (hE:=hE) (hK:=hK) (hst:=hst) (hpl:=hpl) (ht:=ht)⟩
theorem Vc (hu:X.A.units + 64 < cLine) (ha:aV X F a m) (hb:aV X F b n) (h1:behindInMarks .NotIn b=false:=by with_unfolding_all rfl):aV X F (.Compare a [.NotIn] [b] pos) (ar (fA false) m n):=⟨aA.Kd (hu:=hu) (ha:=ha.1) (hb:=hb.1) (h1:=h1)⟩
theorem HQ (hu:X.A.units + 64 < cLine) (ha:aV X F a m) (hb:aV X F b n) (h1:behindInMarks .In b=false:=by with_unfolding_all rfl):eY X F (.Compare a [.In] [b] pos) (bz (ar (fA true) m n)):=⟨aA.T2 (hu:=hu) (ha:=ha.1) (hb:=hb.1) (h1:=h1)⟩
theorem VG (i:Nat) {x:Str} {p q:Pos} (hN:X.N.Nodup) (hi:X.N[i]? =some x:=by rfl) (hx:Loc X.env.scope x:=by first | exact Or.inl rfl | exact Or.inr rfl) (hf:X.fn x=true∨X.env.scope.names.lookup x=some .local:=by first | exact .inl rfl | exact .inr rfl):d6 X F (.Assign [.Name x p] (.Dict [] [] q) pos) (rR i):=⟨aA.Sp (i:=i) (hN:=hN) (hi:=hi) (hx:=hx) (hf:=hf)⟩
theorem HM (i:Nat) {x:Str} {bg pos':Pos} {k v:Expr} {mk mv:ay} (hu:X.A.units + 64 < cLine) (hk:aV X F k mk) (hv:aV X F v mv) (hN:X.N[i]? =some x:=by rfl) (hvs:fG X.env.scope x:=by first | exact Or.inl rfl | exact Or.inr (Or.inl rfl) | exact Or.inr (Or.inr rfl)) (hd:(x == ("__debug__" :Str))=false:=by decide) (hcd:(x == ("__classdict__" :Str))=false:=by decide) (hs:i6 v=true:=by rfl):d6 X F (.Assign [.Subscript (.Name x bg) k pos'] v pos) (lG i mk mv):=⟨aA.Sa (i:=i) (hu:=hu) (hk:=hk.1) (hv:=hv.1) (hN:=hN) (hvs:=hvs) (hd:=hd) (hcd:=hcd) (hs:=hs)⟩
theorem A6 (h:aV X F e m):d6 X F (.Return (some e) pos) (ka m):=⟨aA.Sn (h:=h.1)⟩
theorem HK {st:Stmt}:d6 X F st pN:=⟨aA.R7 ⟩
theorem U8 (h:aV X F e m):aV X F e (mS m):=⟨aA.J_ (h:=h.1)⟩
theorem Vi {bb:Str} {n k:Nat} {mf:List D→R (List Str×List D)} (c:tw X.prog X.w X.K X.mg X.base bb n k mf) (hr:cZ (k + 1) X.A) (ha:e_ X F (e::ae) ma) (hK:F.K=X.K:=by rfl) (hg:cv X bb:=by rfl) (hdb:(bb == ("__debug__" :Str))=false:=by decide) (he:starEach (e::ae) X.env=(false,eval e X.env)::starEach ae X.env:=by rfl) (hpl:(backTo pos (starEach ae X.env)).any (·.1)=false:=by rfl):aV X F (.Call (.Name bb p) (e::ae) [] pos) (pT bb n mf ma):=⟨aA.Kq (c:=c) (hr:=hr) (ha:=ha.1) (hK:=hK) (hg:=hg) (hdb:=hdb) (he:=he) (hpl:=hpl)⟩
theorem A0 (hm:X.mg "tuple"=none) (ha:e_ X F [e] ma) (hK:F.K=X.K:=by rfl) (hg:cv X "tuple":=by rfl) (he:starEach [e] X.env=(false,eval e X.env)::starEach [] X.env:=by rfl) (hpl:(backTo pos (starEach [] X.env)).any (·.1)=false:=by rfl):aV X F (.Call (.Name "tuple" p) [e] [] pos) (cy kQ ma):=⟨aA.KL (hm:=hm) (ha:=ha.1) (hK:=hK) (hg:=hg) (he:=he) (hpl:=hpl)⟩
structure tI (X:aG) (F:bf) (st:Stmt) (m:hO):Prop where
 o:cK X st (lS F m)
structure tH (X:aG) (F:bf) (st:List Stmt) (m:hO):Prop where
 o:e9 X st (lS F m)
theorem Vt {m:hO} (h:tI X F st m):tH X F [st] m:=⟨zi h.1⟩
theorem ta {a b:hO} (h:tI X F st a) (k:tH X F lR b):tH X F (st::lR) (kI a b):=⟨e9.imp (FK h.1 k.1) M9⟩
theorem HI {c:Expr} {r:Stmt} {k:bJ} (h:eY X F c k):tI X F (.If c [r] [] pos) (mT k):=⟨cK.imp (FI h.1 (zi FJ) FL) MI⟩
theorem vS {bb f x:Str} {aO:List Str} {bg pos':Pos} (k:qE X.K bb aO) (he:aV X F e m) (hf:f∈aO:=by decide +kernel) (hN:X.N[0]? =some x:=by rfl) (hv:fG X.env.scope x:=by first | exact Or.inl rfl | exact Or.inr (Or.inl rfl) | exact Or.inr (Or.inr rfl)) (hd:(x == ("__debug__" :Str))=false:=by decide) (hcd:(x == ("__classdict__" :Str))=false:=by decide) (hs:i6 e=true:=by rfl) (hK:F.K=X.K:=by rfl) :
  tI X F (.Assign [.Attribute (.Name x bg) f pos'] e pos) (i3 bb f m):=⟨aA.Se k he.1 hf hN hv hd hcd hs hK⟩
end
structure oO (K:PySem.W.Frag) (bb x qual:Str) (st:Stmt) (aB:List Str):Prop where
 ex:∃(C f:Addr) (fd:FuncData),eS K bb C∧iJ K C∧Meth K C x f∧jP K x qual st f fd∧Binds K fd aB []
structure InK (K:PySem.W.Frag) (mg:Str→Option Value) (bb qual:Str) (st:Stmt) (aB:List Str):Prop where
 ex:∃(C f:Addr) (fd:FuncData),eS K bb C∧tA K C f∧jP K "__init__" qual st f fd∧mg bb=some (.ref C)∧Binds K fd aB []
theorem vR {P:Program} {w:World} {K:PySem.W.Frag} {mg:Str→Option Value} {base:Heap} {x qual bb g0:Str} {st:Stmt} {N aB:List Str} {k:Nat} {m:a0} (d:oO K bb x qual st (g0::aB)) (S:cP N (g0::aB) (bP st))
  (h:∀(f:Addr) (bX:Value) (A:Around) (outer:List Env) (s:Shared) (H:J) (E:cM),cZ k (A.deeper (PyProof.Rows.envOfC qual (bP st) s.heap.objs.size f bX))→∀bw a7,hS (eo gg P w K mg base N qual (bP st) f bX A outer s H E).f9 (dO K bw a7) (fl st) m) :
  mh P w K mg base bb x aB.length (k + 1) (cU N.length m):=by
 obtain ⟨C,f,fd,h1,h2,h3,h4,h5⟩:=d.ex
 exact Pd h4 h1 h2 h3 h5 S h
theorem Vq {P:Program} {w:World} {K:PySem.W.Frag} {mg:Str→Option Value} {base:Heap} {qual bb g0:Str} {st:Stmt} {aB:List Str} {k:Nat} {m:hO} (d:InK K mg bb qual st (g0::aB)) (S:cP (g0::aB) (g0::aB) (bP st))
  (h:∀(f:Addr) (bX:Value) (A:Around) (outer:List Env) (s:Shared) (H:J) (E:cM),cZ k (A.deeper (PyProof.Rows.envOfC qual (bP st) s.heap.objs.size f bX))→∀bw a7,tH (eo gg P w K mg base (g0::aB) qual (bP st) f bX A outer s H E).f9 (dO K bw a7) (fl st) m) :
  tw P w K mg base bb aB.length (k + 1) (fun ae=>outI bb (m (iV bb ae))):=by
 obtain ⟨C,f,fd,h1,h2,h3,h4,h5⟩:=d.ex
 exact ⟨C,f,fd,g0::aB,h1,h2,MV h3 S fun f bX A outer s H E hr bw a7=>(h f bX A outer s H E hr bw a7).1,h4,h5⟩
end aA
set_option Elab.async false
set_option linter.all false
set_option maxRecDepth 100000
namespace aA
open PySem PySem.Spec aZ PyProof.Rows
section
variable {K:PySem.W.Frag} {G G' H H':J}
theorem bA.nil:bA K G H [] []:=by simp only [bA]
theorem bA.cons {t:T} {ts:List T} {v:V} {vs:List V} (h:cq K G H t v) (k:bA K G H ts vs):bA K G H (t::ts) (v::vs):=by
 simp only [bA]; exact ⟨v,vs,rfl,h,k⟩
theorem bA.length:∀{ts:List T} {vs:List V},bA K G H ts vs→ts.length=vs.length
 | [],_,h=>by simp only [bA] at h; subst h; rfl
 | _::_,_,h=>by
   simp only [bA] at h
   obtain ⟨v,r,rfl,_,t⟩:=h
   simp [bA.length t]
theorem sQ:∀{ts:List T} {vs:List V} {i:Nat} {t:T},bA K G H ts vs→ts[i]? =some t→∃v,vs[i]? =some v∧cq K G H t v
 | [],_,_,_,_,e=>by simp at e
 | _::_,_,0,_,h,e=>by
   simp only [bA] at h
   obtain ⟨v,r,rfl,q,t⟩:=h
   simp at e; subst e
   exact ⟨v,by simp,q⟩
 | _::_,_,i + 1,d,h,e=>by
   simp only [bA] at h
   obtain ⟨v,r,rfl,q,t⟩:=h
   obtain ⟨u,h1,h2⟩:=sQ (i:=i) (t:=d) t (by simpa using e)
   exact ⟨u,by simpa using h1,h2⟩
theorem bA.append:∀{ts us:List T} {vs ws:List V},bA K G H ts vs→bA K G H us ws→bA K G H (ts ++ us) (vs ++ ws)∧cx H (ts ++ us) (vs ++ ws)=cx H ts vs ++ cx H us ws
 | [],_,_,_,h,t=>by simp only [bA] at h; subst h; exact ⟨t,by rw [lq]; rfl⟩
 | _::_,_,_,_,h,t=>by
   simp only [bA] at h
   obtain ⟨v,r,rfl,q,s⟩:=h
   obtain ⟨h1,h2⟩:=bA.append s t
   exact ⟨.cons q h1,by rw [List.cons_append,List.cons_append,gF,gF,h2,List.append_assoc]⟩
theorem bA.take:∀(n:Nat) {ts:List T} {vs:List V},bA K G H ts vs→bA K G H (ts.take n) (vs.take n)∧List.Sublist (cx H (ts.take n) (vs.take n)) (cx H ts vs)
 | 0,_,_,_=>⟨by simpa using bA.nil,by simp [lq]⟩
 | _ + 1,[],_,h=>by simp only [bA] at h; subst h; exact ⟨by simpa using bA.nil,by simp [lq]⟩
 | n + 1,_::_,_,h=>by
   simp only [bA] at h
   obtain ⟨v,r,rfl,q,t⟩:=h
   obtain ⟨h1,h2⟩:=bA.take n t
   exact ⟨.cons q h1,by rw [List.take_succ_cons,List.take_succ_cons,gF,gF]; exact h2.append_left _⟩
theorem GX:∀{ds:List D} {xs:List V},aE K G ds xs→bA K G H (ds.map T.ax) xs∧cx H (ds.map T.ax) xs=[]
 | [],_,h=>by simp only [aE] at h; subst h; exact ⟨.nil,lq⟩
 | _::_,_,h=>by
   simp only [aE] at h
   obtain ⟨v,r,rfl,q,t⟩:=h
   obtain ⟨h1,h2⟩:=GX t
   exact ⟨.cons (by simp only [cq]; exact q) h1,by rw [List.map_cons,gF,h2]; simp only [aL,List.append_nil]⟩
theorem xG:∀{ts:List T} {xs:List V} {k:Nat} {t:T} {v:V} {b:Addr},ts[k]? =some t→xs[k]? =some v→b∈aL H t v→b∈cx H ts xs
 | [],_,_,_,_,_,e,_,_=>by simp at e
 | _::_,[],_,_,_,_,_,e,_=>by simp at e
 | _::_,_::_,0,_,_,_,ah,aw,h=>by
   simp at ah aw; subst ah aw
   rw [gF]; exact List.mem_append_left _ h
 | _::_,_::_,k + 1,_,_,_,ah,aw,h=>by
   rw [gF]; exact List.mem_append_right _ (xG (by simpa using ah) (by simpa using aw) h)
theorem GY {us lX:List T} {q:Addr} {ys gf:List V} (aD:H q=some (.lst ys)) (n:bA K G H lX gf) (f:cx H lX gf=cx H us ys):∀{ts:List T} {xs:List V} {k:Nat},bA K G H ts xs→(cx H ts xs).Nodup→ts[k]? =some (.lst us)→xs[k]? =some (.ref q)→
  bA K G (upd H q (.lst gf)) (ts.set k (.lst lX)) xs∧cx (upd H q (.lst gf)) (ts.set k (.lst lX)) xs=cx H ts xs
 | [],_,_,_,_,e,_=>by simp at e
 | t::ts,_,k,h,bF,ah,aw=>by
   simp only [bA] at h
   obtain ⟨v,r,rfl,h1,h2⟩:=h
   rw [gF] at bF ⊢
   obtain ⟨u3,y2,y3⟩:=List.nodup_append.mp bF
   cases k with
   | zero=>
     simp at ah aw
     subst ah aw
     have hn:aL H (.lst us) (.ref q)=q::cx H us ys:=iz aD
     rw [hn] at u3 y3 ⊢
     have du:q∉cx H us ys:=(List.nodup_cons.mp u3).1
     have c_:q∉cx H ts r:=fun z=>y3 q (by simp) q z rfl
     obtain ⟨eV,eu⟩:=n.keep (H':=upd H q (.lst gf)) fun b hb=>cG fun z=>du (by rw [←z,←f]; exact hb)
     obtain ⟨gx,AS⟩:=h2.keep (H':=upd H q (.lst gf)) fun b hb=>cG fun z=>c_ (by rw [←z]; exact hb)
     refine ⟨.cons ?_ gx,?_⟩
     · simp only [cq]; exact ⟨q,gf,rfl,dv,eV⟩
     · rw [List.set_cons_zero,gF,iz dv,eu,AS,f]
   | succ k=>
     simp only [List.getElem?_cons_succ] at ah aw
     have u2:q∈cx H ts r:=xG ah aw (by rw [iz aD]; simp)
     have du:q∉aL H t v:=fun z=>y3 q z q u2 rfl
     obtain ⟨eV,eu⟩:=h1.N2 (o:= .lst gf) du
     obtain ⟨gx,AS⟩:=GY aD n f h2 y2 ah aw
     exact ⟨.cons eV gx,by rw [List.set_cons_succ,gF,eu,AS]⟩
end
section
variable {F:bf} {G H:J} {σ :aZ.St} {ρ:ai}
theorem Rel.E0 (r:Rel F G H σ ρ) {i k:Nat} {ts us lX:List T} {a q:Addr} {xs ys gf:List V} (e:ρ[i]? =some (.dm (.lst ts))) (ah: σ[i]? =some (some (.ref a))) (ha:H a=some (.lst xs)) (dD:ts[k]? =some (.lst us)) (ex:xs[k]? =some (.ref q)) (aD:H q=some (.lst ys))
  (n:bA F.K G H lX gf) (f:cx H lX gf=cx H us ys):Rel F G (upd H q (.lst gf)) σ (ρ.set i (.dm (.lst (ts.set k (.lst lX))))):=by
 obtain ⟨v,aw,eV,eu,gx⟩:=r.tree e
 rw [ah] at aw; cases aw
 simp only [cq] at eV
 obtain ⟨la,gd,av,js,wl⟩:=eV
 cases av
 rw [ha] at js; cases js
 have hn:aL H (.lst ts) (.ref a)=a::cx H ts xs:=iz ha
 rw [hn] at eu gx
 obtain ⟨u3,y2⟩:=List.nodup_cons.mp eu
 have u2:q∈cx H ts xs:=xG dD ex (by rw [iz aD]; simp)
 have na:a≠q:=fun z=>u3 (by rw [z]; exact u2)
 obtain ⟨gv,bM⟩:=GY aD n f wl y2 dD ex
 have DB:upd H q (.lst gf) a=some (.lst xs):=by rw [cG na]; exact ha
 have xl:aL (upd H q (.lst gf)) (.lst (ts.set k (.lst lX))) (.ref a)=a::cx H ts xs:=by rw [iz DB,bM]
 refine r.E1 e ah (a:=q) ⟨.ref a,rfl,by rw [hn]; exact List.mem_cons_of_mem _ u2⟩ ⟨.ref a,rfl,⟨?_,?_,?_⟩⟩ fun b nU=> .inl ?_
 · simp only [cq]; exact ⟨a,xs,rfl,DB,gv⟩
 · rw [xl]; exact eu
 · rw [xl]; exact gx
 · obtain ⟨u,jj,hb⟩:=nU
   cases jj
   rw [xl,←hn] at hb
   exact ⟨.ref a,rfl,hb⟩
end
section
variable {X:aG} {F:bf} {e a b c bl iter elt:Expr} {ae:List Expr} {pos p:Pos} {m n:ay} {ma:aK}
theorem HN (i:Nat) {x:Str} {p:Pos} (hN:X.N[i]? =some x:=by rfl) (hv:fG X.env.scope x:=by first | exact Or.inl rfl | exact Or.inr (Or.inl rfl) | exact Or.inr (Or.inr rfl)) (hd:(x == ("__debug__" :Str))=false:=by decide) (hcd:(x == ("__classdict__" :Str))=false:=by decide) :
  d6 X F (.Return (some (.Name x p)) pos) (pW (od i)):=⟨cK.imp (sm (jE hN hv hd hcd)) (M3 i)⟩
noncomputable def jJ (i:Nat) (ρ:ai):R (List T):=match ρ[i]? with
 | some (.dm (.lst ts))=> .ok ts
 | _=> .bad
theorem G3 {i:Nat} {ρ:ai} {ts:List T} (h:jJ i ρ= .ok ts):ρ[i]? =some (.dm (.lst ts)):=by
 unfold jJ at h
 split at h
 · rename_i e; cases h; exact e
 · cases h
theorem G2 {i:Nat} {ρ:ai} {c:Str} (h:jJ i ρ= .exc c):False:=by
 unfold jJ at h
 split at h <;> cases h
theorem Rel.root {G H:J} {σ :aZ.St} {ρ:ai} (r:Rel F G H σ ρ) {i:Nat} {ts:List T} (e:ρ[i]? =some (.dm (.lst ts))):∃a xs,σ[i]? =some (some (.ref a))∧H a=some (.lst xs)∧bA F.K G H ts xs∧(cx H ts xs).Nodup:=by
 obtain ⟨v,aw,eV,eu,gx⟩:=r.tree e
 simp only [cq] at eV
 obtain ⟨a,xs,rfl,ha,wl⟩:=eV
 rw [iz ha] at eu
 exact ⟨a,xs,aw,ha,wl,(List.nodup_cons.mp eu).2⟩
end
end aA
set_option Elab.async false
set_option linter.all false
set_option maxRecDepth 100000
namespace aA
open PySem PySem.Spec aZ
noncomputable def hC (ds:List D):T:= .lst (ds.map T.ax)
noncomputable def jg (set:D→ai→R ai) (tst:bJ) (elt:aK):List D→ai→List T→R (List T)
 | [],_,ws=> .ok ws
 | d::ds,ρ,ws=>(set d ρ).bind fun dQ=>(tst dQ).bind fun b=>if b=true then (elt dQ).bind fun y=>if ws.length < 1000000 then jg set tst elt ds dQ (ws ++ [hC y]) else .bad else jg set tst elt ds dQ ws
noncomputable def jx (nl:Nat) (caps:List Nat) (mi:aK) (set:D→ai→R ai) (tst:bJ) (elt:aK):mj:=fun ρ=>(mi ρ).bind fun ds=>(eK (jg set tst elt ds (iO nl caps ρ) [])).bind fun ts=> .ok (.lst ts)
noncomputable def AW (K:PySem.W.Frag) (m:aK):TE:=fun σ H Q=>∃bw a7,iF (dO K bw a7) m σ H Q
section
variable {F:bf}
theorem My {nl:Nat} {caps:List Nat} {mi:aK} {set:D→ai→R ai} {tst:bJ} {elt:aK} {g:gE} (hg:∀G H,kW (dO F.K G H) g set) (hx:∀d ρ c,set d ρ≠ .exc c) (hk:Keeps set) :
  ek (qj F (jx nl caps mi set tst elt)) (qi (jb F mi) g (qq F.K tst) (AW F.K elt) nl caps):=by
 rintro σ H Q ⟨G,ρ,r,h⟩
 unfold jx at h
 refine ⟨G,ρ,r,?_⟩
 cases av:mi ρ with
 | bad=>rw [av] at h; exact h.elim
 | exc c=>rw [av] at h; exact h
 | ok ds=>
   rw [av,R.bo] at h
   intro bp H1 aM ao lW it acc ha
   cases cJ:jg set tst elt ds (iO nl caps ρ) [] with
   | bad=>rw [cJ] at h; exact h.elim
   | exc c=>rw [cJ] at h; exact h.elim
   | ok res=>
     rw [cJ] at h
     refine ⟨fun i m σ2 aH=>m=ds.length - i∧i≤ds.length∧∃cb dh ys ws,Rel (dO F.K aM H1) cb aH σ2 dh∧k6 dh∧aH acc=some (.lst ys)∧cb acc=none∧bA F.K cb aH ws ys∧(cx aH ws ys).Nodup∧(∀b∈cx aH ws ys,b≠acc∧cb b=none∧H1 b=none)∧jg set tst elt (ds.drop i) dh ws= .ok res,
      ⟨ds.length,by simp,Nat.zero_le _,aM,_,[],[],F0 ao ha nl caps,y5 _ _ _,dv,ao.aC.sub.gone ha,.nil,by simp [lq],by simp [lq],by simpa using cJ⟩,?_⟩
     rintro i m σ2 aH ⟨rfl,hi,cb,dh,ys,ws,a_,c_,h1,h2,h3,h5,h6,h4⟩
     have aY:Sub aM cb:=a_.aC.eC
     by_cases e3:i < ds.length
     · refine .inr ⟨it.go i aH (aY.trans a_.aC.sub) e3,fun x cw y=>?_⟩
       obtain ⟨d,eF,bK,da,g9,fi⟩:=jS.turn (F:=dO F.K aM H1) it a_ aY e3 y
       have d8:ds.drop i=d::ds.drop (i + 1):=by
        rw [List.drop_eq_getElem_cons e3]
        have:=List.getElem?_eq_getElem e3
        rw [bK] at this
        rw [Option.some.inj this]
       rw [d8] at h4
       simp only [jg] at h4
       have mv:∀{tp e7 tq qJ:J},b2 tp e7 tq qJ→bA F.K tp e7 ws ys→cx e7 ws ys=cx aH ws ys→(∀b∈cx aH ws ys,tp b=none)→bA F.K tq qJ ws ys∧cx qJ ws ys=cx aH ws ys∧(∀b∈cx aH ws ys,tq b=none):=fun {tp e7 tq qJ} u q e n=>by
        obtain ⟨eV,eu⟩:=q.keep (H':=qJ) fun b hb=>by
         cases bq:e7 b with
         | none=>exact absurd bq (q.some b hb)
         | some o=>exact u.h b o bq
        refine ⟨eV.mono u.g,eu.trans e,fun b hb=>?_⟩
        rw [u.n b (q.some b (by rw [e]; exact hb))]; exact n b hb
       obtain ⟨er,eU,yP⟩:=mv g9 h3 rfl fun b hb=>(h6 b hb).2.1
       cases c8:set d dh with
       | bad=>rw [c8] at h4; cases h4
       | exc c=>exact absurd c8 (hx d dh c)
       | ok eW=>
         rw [c8,R.bo] at h4
         refine hg aM H1 σ2 dh eF cw x d _ eW da fi c8 fun σ5 i9=>⟨aM,H1,eF,eW,i9,?_⟩
         have lL:k6 eW:=hk d dh eW c8 c_
         have qQ:cw acc=some (.lst ys):=g9.h _ _ h1
         have g3:eF acc=none:=by rw [g9.n acc (by rw [h1]; exact fun z=>nomatch z)]; exact h2
         cases fJ:tst eW with
         | bad=>rw [fJ] at h4; cases h4
         | exc c=>rw [fJ] at h4; cases h4
         | ok b=>
           rw [fJ,R.bo] at h4
           intro me mc p9 oA
           have mu:me acc=some (.lst ys):=oA.h _ _ qQ
           have kA:mc acc=none:=by rw [oA.n acc (by rw [qQ]; exact fun z=>nomatch z)]; exact g3
           obtain ⟨sq,t9,ER⟩:=mv oA er eU yP
           cases b with
           | false=>
             rw [if_neg Bool.false_ne_true] at h4
             rw [if_neg Bool.false_ne_true]
             exact ⟨_,by omega,rfl,e3,mc,eW,ys,ws,p9,lL,mu,kA,sq,by rw [t9]; exact h5,by rw [t9]; exact fun b hb=>⟨(h6 b hb).1,ER b hb,(h6 b hb).2.2⟩,h4⟩
           | true=>
             rw [if_pos rfl] at h4
             rw [if_pos rfl]
             refine ⟨aM,H1,mc,eW,p9,?_⟩
             cases nP:elt eW with
             | bad=>rw [nP] at h4; cases h4
             | exc c=>rw [nP] at h4; cases h4
             | ok y=>
               rw [nP,R.bo] at h4
               intro a xs jR md jF u8 a1 a2 fi jY
               have wA:jR acc=some (.lst ys):=u8.h _ _ mu
               have rj:md acc=none:=by rw [u8.n acc (by rw [mu]; exact fun z=>nomatch z)]; exact kA
               obtain ⟨lO,f8,O7⟩:=mv u8 sq t9 ER
               by_cases hl:ws.length < 1000000
               · rw [if_pos hl] at h4
                 have E3:a≠acc:=fun z=>by rw [z,mu] at a1; cases a1
                 have na:a∉cx aH ws ys:=fun z=>(sq.some a (by rw [t9]; exact z)) a1
                 have eN:H1 a=none:=p9.aC.hh.gone a1
                 obtain ⟨a6,aX⟩:=GX (K:=F.K) (G:=md) (H:=jR) jY
                 have fq:cq F.K md jR (hC y) (.ref a):=by unfold hC; simp only [cq]; exact ⟨a,xs,rfl,a2,a6⟩
                 have fn:aL jR (hC y) (.ref a)=[a]:=by unfold hC; rw [iz a2,aX]
                 obtain ⟨gv,bM⟩:=lO.append (.cons fq .nil)
                 have za:cx jR [hC y] [V.ref a]=[a]:=by rw [gF,fn,lq]; rfl
                 rw [za,f8] at bM
                 have PN:acc∉cx jR (ws ++ [hC y]) (ys ++ [.ref a]):=by
                  rw [bM]
                  intro z
                  rcases List.mem_append.mp z with z | z
                  · exact (h6 acc z).1 rfl
                  · exact E3 (List.mem_singleton.mp z).symm
                 obtain ⟨eV,eu⟩:=gv.keep (H':=upd jR acc (.lst (ys ++ [.ref a]))) fun b hb=>cG fun z=>PN (by rw [←z]; exact hb)
                 rw [bM] at eu
                 refine ⟨ys,wA,by rw [←lO.length]; exact Nat.lt_trans hl (by decide),_,by omega,rfl,e3,md,eW,ys ++ [.ref a],ws ++ [hC y],?_,lL,dv,rj,eV,?_,?_,h4⟩
                 · have k0:(dO F.K aM H1).a7 acc=none:=ha
                   refine jF.over rfl ⟨Sub.sW jF.aC.sub rj,jF.aC.eC,fun c o z=>?_,jF.aC.new⟩ (Sub.refl _) fun b ⟨j,s,o,fu,_,f⟩=>absurd f (zg (lL j s fu) o b)
                   rw [cG (hH z k0)]; exact jF.aC.hh c o z
                 · rw [eu]
                   refine List.nodup_append.mpr ⟨h5,by simp,fun x hx y cg z=>?_⟩
                   have:=List.mem_singleton.mp cg
                   exact na (by rw [←this,←z]; exact hx)
                 · rw [eu]
                   intro b hb
                   rcases List.mem_append.mp hb with hb | hb
                   · exact ⟨(h6 b hb).1,O7 b hb,(h6 b hb).2.2⟩
                   · have:=List.mem_singleton.mp hb
                     subst this
                     exact ⟨E3,fi,eN⟩
               · rw [if_neg hl] at h4; cases h4
     · have e:ds.drop i=[]:=List.drop_eq_nil_of_le (by omega)
       rw [e] at h4
       simp only [jg] at h4
       cases h4
       have hq:i=ds.length:=by omega
       subst hq
       refine .inl ⟨it.stop aH (aY.trans a_.aC.sub),?_⟩
       have k:dX ⟨F.K,aM,H1,fun _ _=>False⟩ cb aH:=a_.aC
       have hn:aL aH (.lst res) (.ref acc)=acc::cx aH res ys:=iz h1
       refine h (.ref acc) aH cb (dX.of ao k) (lW.trans ⟨k.eC,k.hh,k.new⟩) ⟨?_,?_,?_⟩ ?_
       · simp only [cq]; exact ⟨acc,ys,rfl,h1,h3⟩
       · rw [hn]; exact List.nodup_cons.mpr ⟨fun z=>(h6 acc z).1 rfl,h5⟩
       · rw [hn]
         intro b hb
         rcases List.mem_cons.mp hb with rfl | hb
         · exact ⟨h2,ao.aC.hh.gone ha⟩
         · exact ⟨(h6 b hb).2.1,ao.aC.hh.gone (h6 b hb).2.2⟩
       · rw [hn]
         intro b hb
         rcases List.mem_cons.mp hb with rfl | hb
         · exact lW.h.gone ha
         · exact lW.h.gone (h6 b hb).2.2
end
section
variable {X:aG} {F:bf} {e a b c bl iter elt:Expr} {ae:List Expr} {pos p:Pos} {m n:ay} {ma:aK} {scope:Scope} {N:List Str}
noncomputable abbrev Bb (X:aG) (scope:Scope) (N:List Str) (e:Expr) (m:aK):Prop:=∀cl C s H aL bw a7,jX (ef X scope N cl C s H aL) (dO X.K bw a7) e m
theorem Jq {ifs:List Expr} {nl:Nat} {caps:List Nat} {mi:aK} {set:D→ai→R ai} {mt:bJ} {dt:aK} (hK:F.K=X.K) (hg:l6 X scope N bl set) (ht:jc X scope N ifs mt) (he:Bb X scope N elt dt)
  {Q:TE→Prop} (k:∀g,(∀cl C s H aL,hP (ef X scope N cl C s H aL) bl g)→(∀cl C s H aL,k8 (ef X scope N cl C s H aL) ifs (qq X.K mt))→(∀cl C s H aL,aS (ef X scope N cl C s H aL) elt (AW X.K dt))→ek (qj F (jx nl caps mi set mt dt)) (qi (jb F mi) g (qq X.K mt) (AW X.K dt) nl caps)→Q (qj F (jx nl caps mi set mt dt))):Q (qj F (jx nl caps mi set mt dt)):=by
 obtain ⟨⟨g,g1,g2⟩,hx,hk⟩:=hg
 refine k g g1 (fun cl C s H aL pins s' σ H' iL I h=>?_) (fun cl C s H aL pins s' σ H' iL I h=>?_) ?_
 · obtain ⟨bw,a7,h⟩:=h
   exact ht cl C s H aL bw a7 pins s' σ H' iL I h
 · obtain ⟨bw,a7,h⟩:=h
   exact (he cl C s H aL bw a7).1 pins s' σ H' iL I h
 · have z:=My (F:=F) (nl:=nl) (caps:=caps) (mi:=mi) (tst:=mt) (elt:=dt) (g:=g) (set:=set) (fun bw a7=>by rw [hK]; exact g2 bw a7) hx hk
   rw [hK] at z
   exact z
theorem HL (i:Nat) (nl:Nat) (caps:List Nat) {y:Str} {py:Pos} {ifs:List Expr} {mi:aK} {set:D→ai→R ai} {mt:bJ} {dt:aK} {bS:Pos} (hN:X.N.Nodup) (S:nK X.env.scope X.N scope N nl caps=true) (hi:kv X F bl iter mi) (hg:l6 X scope N bl set) (ht:jc X scope N ifs mt) (he:Bb X scope N elt dt)
  (cg:X.N[i]? =some y:=by rfl) (hl:X.env.kindOf y=some .local:=by rfl) (iT:swapsWith (.ListComp elt [⟨bl,iter,ifs,0⟩] scope bS) (some (.Name y py)) pos.line X.env=pure true:=by rfl) (hc:X.calm=true:=by rfl) (hK:F.K=X.K:=by rfl) (hs:∀x,foldedSetIterable iter X.env x=pure x:=by intro _; rfl) :
  d6 X F (.Assign [.Name y py] (.ListComp elt [⟨bl,iter,ifs,0⟩] scope bS) pos) (pX i (jx nl caps mi set mt dt)):=by
 refine ⟨cK.imp (t:=kP (qj F (jx nl caps mi set mt dt)) (hY i)) ?_ M6⟩
 refine Jq (nl:=nl) (caps:=caps) (mi:=mi) (Q:=fun t=>cK X (.Assign [.Name y py] (.ListComp elt [⟨bl,iter,ifs,0⟩] scope bS) pos) (kP t (hY i))) hK hg ht he fun g g1 t1 ah imp=>?_
 exact cK.imp (FH (.of S) hc hN cg hl hi.1 g1 t1 ah iT hs) fun b6 σ H h=>imp σ H _ h
end
end aA
set_option Elab.async false
set_option linter.all false
set_option maxRecDepth 100000
namespace aA
open PySem PySem.Spec aZ
noncomputable def lZ (c:bJ) (b:a0):Nat→ai→R e6
 | 0,_=> .bad
 | n + 1,ρ=>(c ρ).bind fun k=>if k=true then (b ρ).bind fun f=>match f with
   | .a9 bj=>lZ c b n bj
   | .cj bj=>lZ c b n bj
   | .eB bj=> .ok (.a9 bj)
   | f=> .ok f
   else .ok (.a9 ρ)
noncomputable def rT (c:bJ) (b:a0):a0:=lZ c b 1000
section
variable {F:bf}
theorem Nd {c:bJ} {b:a0}:fY (et F (rT c b)) (GQ (fc F c) (et F b)):=by
 rintro b6 σ H ⟨G,ρ,r,h⟩
 refine ⟨fun m σ2 aH=>∃cb dh,Rel F cb aH σ2 dh∧Sub G cb∧f7 F cb b6 (lZ c b m dh),⟨1000,G,ρ,r,Sub.refl _,h⟩,?_⟩
 rintro m σ2 aH ⟨cb,dh,a_,s2,k2⟩
 refine ⟨cb,dh,a_,?_⟩
 cases m with
 | zero=>exact k2.elim
 | succ n=>
   simp only [lZ] at k2
   cases ec:c dh with
   | bad=>rw [ec] at k2; exact k2.elim
   | exc x=>rw [ec] at k2; exact k2
   | ok k=>
     rw [ec,R.bo] at k2
     intro cw eF da g9
     cases k with
     | false=>
       rw [if_neg Bool.false_ne_true] at k2 ⊢
       exact k2 σ2 eF cw da g9.g
     | true=>
       rw [if_pos rfl] at k2 ⊢
       refine ⟨fun σ4 fX=>∃qH eW,Rel F qH fX σ4 eW∧Sub G qH∧f7 F qH b6 (lZ c b n eW),fun σ4 fX q=>⟨n,Nat.lt_succ_self _,q⟩,eF,dh,da,?_⟩
       cases bq:b dh with
       | bad=>rw [bq] at k2; exact k2.elim
       | exc x=>rw [bq] at k2; exact k2
       | ok f=>
         rw [bq,R.bo] at k2
         cases f with
         | a9 l5=>exact fun σ7 jQ fw ik eM=>⟨jQ,l5,ik,s2.trans (g9.g.trans eM),f7.mono (g9.g.trans eM) k2⟩
         | cj l5=>exact fun σ7 jQ fw ik eM=>⟨jQ,l5,ik,s2.trans (g9.g.trans eM),f7.mono (g9.g.trans eM) k2⟩
         | eB l5=>exact fun σ7 jQ fw ik eM=>k2 σ7 jQ fw ik (g9.g.trans eM)
         | dF d=>exact k2
         | g5 ds=>exact k2
         | g4 t=>exact k2
end
section
variable {X:aG} {F:bf} {e a b c o:Expr} {ae:List Expr} {pos p:Pos} {m n:ay} {ma:aK}
theorem VI {body:List Stmt} {uY:bJ} {e4:a0} (hp:PassesOwn (model X.prog X.w) X.A X.env X.xe) (hc:eY X F c uY) (hb:hS X F body e4):d6 X F (.While c body [] pos) (rT uY e4):=⟨cK.imp (Ri hp hc.1 hb.1) Nd⟩
noncomputable def findD (ks:List (List Key)) (ds:List D) (b0:List Key):Option D:=((ks.zip ds).find? fun p=>decide (p.1=b0)).map (·.2)
theorem Dk {K:PySem.W.Frag} {G:J} (b0:List Key):∀{ds:List D} {xs:List (List Key×V)},aE K G ds (xs.map (·.2))→match findD (xs.map (·.1)) ds b0 with
  | some d=>∃v,fT xs b0=some v∧At K G d v
  | none=>fT xs b0=none
 | [],xs,h=>by
   simp only [aE] at h
   have:xs=[]:=by simpa using h
   subst this; rfl
 | d::ds,[],h=>by simp only [aE,List.map_nil] at h; obtain ⟨v,r,e,_⟩:=h; cases e
 | d::ds,(k,v)::xs,h=>by
   simp only [aE,List.map_cons] at h
   obtain ⟨jK,r,e,a,t⟩:=h
   cases e
   have b8:=Dk (K:=K) (G:=G) b0 (ds:=ds) (xs:=xs) t
   unfold findD fT at b8 ⊢
   simp only [List.map_cons,List.zip_cons_cons,List.find?_cons]
   by_cases hk:k=b0
   · simp only [hk,decide_true,Option.map_some]
     exact ⟨v,rfl,a⟩
   · simp only [hk,decide_false]
     exact b8
noncomputable def rN (m n:ay):ay:=fun ρ=>(m ρ).bind fun d=>match d with
 | .bx ks ds=>(n ρ).bind fun k=>match mR k with
   | some b0=> .ok ((findD ks ds b0).getD .non)
   | none=> .bad
 | _=> .bad
theorem MA:ek (cA F (rN m n)) (Gx (cA F m) (cA F n)):=by
 rintro σ H Q ⟨G,ρ,r,h⟩
 unfold rN at h
 refine ⟨G,ρ,r,?_⟩
 cases av:m ρ with
 | bad=>rw [av] at h; exact h.elim
 | exc c=>rw [av] at h; exact h
 | ok dd=>
   rw [av,R.bo] at h
   intro x H1 aM ao s1 bH
   cases dd with
   | bx ks ds=>
     simp only at h
     simp only [At] at bH
     obtain ⟨a,xs,rfl,hg,rfl,al⟩:=bH
     refine ⟨a,rfl,.inr ⟨xs,.inl (ao.aC.sub _ _ hg)⟩,aM,ρ,ao,?_⟩
     cases bq:n ρ with
     | bad=>rw [bq] at h; exact h.elim
     | exc c=>rw [bq] at h; exact h
     | ok ix=>
       rw [bq,R.bo] at h
       intro y aH cb a_ s2 cI
       cases dD:mR ix with
       | none=>rw [dD] at h; exact h.elim
       | some b0=>
         rw [dD] at h
         simp only at h
         obtain ⟨q,rfl,aD⟩:=yE dD cI
         refine ⟨fT xs b0,jO.t (a_.aC.sub _ _ (s2.g _ _ hg)) (a_.aC.sub _ _ aD),?_⟩
         have f:=Dk (K:=F.K) (G:=aM) b0 al
         cases hn:findD (xs.map (·.1)) ds b0 with
         | none=>
           rw [hn] at f h
           rw [show fT xs b0=none from f]
           exact h .non aH cb a_ (s1.trans s2) (by simp only [Option.getD_none,At])
         | some d=>
           rw [hn] at f h
           obtain ⟨v,ev,bc⟩:=f
           rw [ev]
           exact h v aH cb a_ (s1.trans s2) (bc.mono s2.g)
   | _=>exact h.elim
theorem Va {apos bS:Pos} (hu:X.A.units + 64 < cLine) (ho:aV X F o m) (he:aV X F e n) (h1:attributeBase o "get" X.env (eval o X.env)=eval o X.env:=by rfl)
  (h2:((backTo bS (starEach [e] X.env)).all (fun x=> !x.1) && (backToKw bS (keywordEach [] X.env)).all (fun x=>x.1.isSome)
  && decide (([e]:List Expr).length + ([]:List Keyword).length + (if ([]:List Keyword).isEmpty then 0 else 1) < 30))=true:=by rfl) (h3:(apos.endLine == bS.line)=true:=by rfl) (h4:backTo bS (starEach [e] X.env)=[(false,eval e X.env)]:=by rfl) :
  aV X F (.Call (.Attribute o "get" apos) [e] [] bS) (rN m n):=⟨aS.imp (QH (by omega) ho.1 he.1 ⟨h1,h2,h3,h4⟩) MA⟩
noncomputable def RD (F:bf):V→List V→J→b9→Prop:=fun x vs H Q=>∃G d1 cf p y ds xs j,Sub G H∧x= .ref p∧vs=[y]∧At F.K G d1 y∧f3 F.K G cf p false ds xs∧okN 7 d1=true∧ds.all (okN 7)=true∧ds.length < 1000000∧ds.findIdx? (fun z=>br z d1)=some j∧Q (.int (j:Nat)) H
theorem IA {pins:List (Addr×Obj)} {σ :aZ.St} {G H:J} {s:Shared} (I:Inv X pins σ H s) (aY:Sub G H) {d1:D} {ds:List D} {xs:List V} {its:List Value} (q:aE X.K G ds xs) (r:Vals xs its) (o:ds.all (okN 7)=true) {i:Nat} {d:D} {u:Value} (ah:ds[i]? =some d) (aw:its[i]? =some u):jZ X.K G d1 u=br d d1:=by
 obtain ⟨v,ev,bc⟩:=q.get ah
 have ho:okN 7 d=true:=List.all_eq_true.mp o d (List.mem_of_getElem? ah)
 have bN:RelV v u:=by
  obtain ⟨g8,jj,ed⟩:=r.get ev
  rw [aw] at jj; cases jj; exact ed
 exact wF I aY ho ⟨v,bc,bN⟩
theorem Pr (hK:F.K=X.K) (hu:X.A.units + 64 < cLine):Bj X "list.index" (RD F):=by
 intro pins s σ H x vs v us Q I bh bN h
 obtain ⟨G,d1,cf,p,y,ds,xs,j,aY,rfl,rfl,a1,fS,cn,b3,hl,cD,q⟩:=h
 rw [hK] at a1 fS
 cases bh
 obtain ⟨u,rfl,ed⟩:=vals1 bN
 obtain ⟨its,ao,t1,eQ⟩:=fS.heap I aY
 have hm:=uZ I aY (A:=X.A.in1) (d1:=d1) (by simp only [in1_units]; omega) cn a1 ed fS.gj ao b3
 obtain ⟨⟨cls,dict,data,slots⟩,g1,g2,nn,g3⟩:=eQ rfl
 simp only at g2 g3
 subst g2 g3
 obtain ⟨e3,ah,aw⟩:=List.findIdx?_eq_some_iff_getElem.mp cD
 have uv:its.length=ds.length:=by rw [←ao.length,←fS.gj.length]
 have LX:j < its.length:=by omega
 have Bx:∀(i:Nat) (h:i < ds.length),jZ X.K G d1 (its[i]'(by omega))=br ds[i] d1:=fun i h=>IA I aY fS.gj ao b3 (List.getElem?_eq_getElem h) (List.getElem?_eq_getElem (by omega))
 have ia:s.TypeIs (.ref p) "list":=⟨_,g1,rfl⟩
 have Mf:(j:Int) < 2 ^ 63 - 1:=by
  have:(j:Int) < 1000000:=by omega
  omega
 refine call_meets PySem.F.slot_list_index ia PySem.F.entry_list_index (PySem.F.args_list_index_2 _ _) (SeqAt.list_indexAt p its.toArray nn dict slots u (jZ X.K G d1) j (by simpa using LX) Mf ?_ ?_) ⟨g1,fun w hw=>hm w (by simpa using hw),?_⟩
 · have:=Bx j e3
   rw [ah] at this
   simpa using this
 · intro k hk LU
   have z:=Bx k (by omega)
   have bK:=aw k LU
   rw [Bool.not_eq_true] at bK
   rw [bK] at z
   simpa using z
 · exact ⟨.int (j:Nat),H,I.tok _,⟨_,rfl⟩,q⟩
noncomputable def uD:D→List D→R D
 | .lst ds,[d]=>if okN 7 d=true∧ds.all (okN 7)=true∧ds.length < 1000000 then match ds.findIdx? (fun z=>br z d) with
   | some j=> .ok (.int (j:Nat))
   | none=> .bad
   else .bad
 | _,_=> .bad
noncomputable def n7 (m:ay) (ma:aK):ay:=fun ρ=>(m ρ).bind fun d=>match d with
 | .lst ds=>(ma ρ).bind fun ae=>uD (.lst ds) ae
 | _=> .bad
theorem Ve {apos bS:Pos} (hu:X.A.units + 64 < cLine) (ho:aV X F o m) (ha:e_ X F [e] ma) (hK:F.K=X.K:=by rfl)
  (hbase:attributeBase o "index" X.env (eval o X.env)=eval o X.env:=by rfl)
  (hfew:((backTo bS (starEach [e] X.env)).all (fun x=> !x.1) && (backToKw bS (keywordEach [] X.env)).all (fun x=>x.1.isSome)
    && decide (([e]:List Expr).length + ([]:List Keyword).length + (if ([]:List Keyword).isEmpty then 0 else 1) < 30))=true:=by rfl)
  (hline:(apos.endLine == bS.line)=true:=by rfl) (hs:starEach [e] X.env=(false,eval e X.env)::starEach [] X.env:=by rfl) (hplain:(backTo bS (starEach [] X.env)).any (·.1)=false:=by rfl) :
  aV X F (.Call (.Attribute o "index" apos) [e] [] bS) (n7 m ma):=by
 refine ⟨aS.imp (si PySem.F.plainAttrs_list PySem.F.slot_list_index PySem.F.type_list_index (Pr (F:=F) hK hu) ho.1 ha.1 hbase hfew hline hs hplain) ?_⟩
 rintro σ H Q ⟨G,ρ,r,h⟩
 unfold n7 at h
 refine ⟨G,ρ,r,?_⟩
 cases av:m ρ with
 | bad=>rw [av] at h; exact h.elim
 | exc c=>rw [av] at h; exact h
 | ok dd=>
   rw [av,R.bo] at h
   intro x H1 aM ao s1 bH
   cases dd with
   | lst ds=>
     simp only at h
     simp only [At] at bH
     obtain ⟨p,xs,rfl,hg,al⟩:=bH
     refine ⟨.inl ⟨rfl,xs,bI.of (ao.aC.sub _ _ hg)⟩,aM,ρ,ao,?_⟩
     cases bq:ma ρ with
     | bad=>rw [bq] at h; exact h.elim
     | exc c=>rw [bq] at h; exact h
     | ok ae=>
       rw [bq,R.bo] at h
       intro vs aH cb a_ s2 cI
       unfold uD at h
       split at h
       · rename_i nO d ah
         cases ah
         split at h
         · rename_i hc
           split at h
           · rename_i j ji
             obtain ⟨y,rfl,bc⟩:=cI.one
             exact ⟨cb,d,.lst ds,p,y,ds,xs,j,a_.aC.sub,rfl,rfl,bc,.lst (s2.g _ _ hg) (al.mono s2.g),hc.1,hc.2.1,hc.2.2,ji,h _ aH cb a_ (s1.trans s2) (by simp only [At])⟩
           · exact h.elim
         · exact h.elim
       · exact h.elim
   | _=>exact h.elim
end
end aA
set_option Elab.async false
set_option linter.all false
set_option maxRecDepth 100000
namespace aA
open PySem PySem.Spec aZ
noncomputable def s8 (K:PySem.W.Frag):cM→Str→J→Prop:=fun E c H=>∃C,eS K c C∧∀a,H a=none→E (.ref C) (some a) H
noncomputable def jn (K:PySem.W.Frag) (G H:J) (E:cM):bf:=⟨K,G,H,s8 K E⟩
theorem Rel.jh {F F':bf} {G H:J} {σ :aZ.St} {ρ:ai} (r:Rel F G H σ ρ) (hK:F'.K=F.K) (h0:F'.bw=F.bw) (h1:F'.a7=F.a7):Rel F' G H σ ρ:=
 r.over hK ⟨r.aC.sub,by rw [h0]; exact r.aC.eC,by rw [h1]; exact r.aC.hh,fun b hb=>by rw [h1] at hb; rw [h0]; exact r.aC.new b hb⟩ (Sub.refl _) fun a ha=>⟨rfl,(r.foot ha).2.1,by rw [h1]; exact (r.foot ha).2.2⟩
noncomputable def oq (m:bJ):bJ:=fun ρ=>eK (m ρ)
noncomputable def se (m:a0):a0:=fun ρ=>eK (m ρ)
noncomputable def sd (m:aK):aK:=fun ρ=>eK (m ρ)
section
variable {K:PySem.W.Frag} {bw a7:J} {E:cM}
theorem OR {m:bJ}:kY (fc (jn K bw a7 E) (oq m)) (fc (dO K bw a7) m):=by
 rintro σ H Q ⟨G,ρ,r,h⟩
 unfold oq at h
 refine ⟨G,ρ,r.jh rfl rfl rfl,?_⟩
 cases e:m ρ with
 | bad=>rw [e] at h; exact h.elim
 | exc c=>rw [e] at h; exact h.elim
 | ok b=>rw [e] at h; exact fun H' G' a4 u=>h H' G' (a4.jh rfl rfl rfl) u
theorem OP {m:aK}:tu (ee (jn K bw a7 E) (sd m)) (ee (dO K bw a7) m):=by
 rintro σ H Q ⟨G,ρ,r,h⟩
 unfold sd at h
 refine ⟨G,ρ,r.jh rfl rfl rfl,?_⟩
 cases e:m ρ with
 | bad=>rw [e] at h; exact h.elim
 | exc c=>rw [e] at h; exact h.elim
 | ok b=>rw [e] at h; exact fun vs H' G' a4 u a=>h vs H' G' (a4.jh rfl rfl rfl) u a
theorem dX.jh {F F':bf} {G H:J} (k:dX F G H) (h0:F'.bw=F.bw) (h1:F'.a7=F.a7):dX F' G H:=⟨k.sub,by rw [h0]; exact k.eC,by rw [h1]; exact k.hh,fun b hb=>by rw [h1] at hb; rw [h0]; exact k.new b hb⟩
theorem OQ {m:a0}:fY (et (jn K bw a7 E) (se m)) (et (dO K bw a7) m):=by
 rintro b6 σ H ⟨G,ρ,r,h⟩
 unfold se at h
 refine ⟨G,ρ,r.jh rfl rfl rfl,?_⟩
 cases e:m ρ with
 | bad=>rw [e] at h; exact h.elim
 | exc c=>rw [e] at h; exact h.elim
 | ok f=>
   rw [e] at h
   cases f with
   | a9 bj=>exact fun σ' G' H' a4 s=>h σ' G' H' (a4.jh rfl rfl rfl) s
   | eB bj=>exact fun σ' G' H' a4 s=>h σ' G' H' (a4.jh rfl rfl rfl) s
   | cj bj=>exact fun σ' G' H' a4 s=>h σ' G' H' (a4.jh rfl rfl rfl) s
   | dF d=>exact fun v G' H' k a=>h v G' H' (k.jh rfl rfl) a
   | g5 ds=>exact fun a xs G' H' k h1 h2 h3 h4=>h a xs G' H' (k.jh rfl rfl) h1 h2 h3 h4
   | g4 t=>exact fun v G' H' k q=>h v G' H' (k.jh rfl rfl) ⟨q.at_,q.bF,q.own⟩
end
section
variable {X:aG} {e c:Expr} {ae:List Expr} {st:Stmt} {pos p:Pos} {K:PySem.W.Frag} {bw a7:J} {E:cM} {mt:bJ} {ms:a0} {ma:aK}
theorem Uy {t:TT} (h:eG X.f9 e t):eG X e t:=fun pins s σ H Q I q=>wpAny_mono (h pins s σ H Q (I.iG _) q) (fun _ s' ⟨H',bp,z⟩=>⟨H',bp.hI,z⟩) fun _ _ z=>z.elim
theorem Uw {t:eH} (h:e8 X.f9 ae t):e8 X ae t:=fun pos pins s σ H Q I q=>wpAny_mono (h pos pins s σ H Q (I.iG _) q) (fun _ s' ⟨vs,H',bp,r,z⟩=>⟨vs,H',bp.hI,r,z⟩) fun _ _ z=>z.elim
theorem Ux {t:d5} (h:cK X.f9 st t):cK X st t:=fun pins s σ H D I q=>wpAny_mono (h pins s σ H D (I.iG _) q) (fun f s' z=>by
 cases f with
 | next=>obtain ⟨σ',H',bp,z⟩:=z; exact ⟨σ',H',bp.hI,z⟩
 | brk=>obtain ⟨σ',H',bp,z⟩:=z; exact ⟨σ',H',bp.hI,z⟩
 | cont=>obtain ⟨σ',H',bp,z⟩:=z; exact ⟨σ',H',bp.hI,z⟩
 | ret v=>obtain ⟨x,σ',H',bp,z⟩:=z; exact ⟨x,σ',H',bp.hI,z⟩) fun _ _ z=>z.elim
theorem A1 (h:eY X.f9 (dO K bw a7) e mt):eY X (jn K bw a7 E) e (oq mt):=⟨fun pins s σ H Q I q=>Uy h.1 pins s σ H Q I (OR σ H Q q)⟩
theorem Vr (h:e_ X.f9 (dO K bw a7) ae ma):e_ X (jn K bw a7 E) ae (sd ma):=⟨fun pos pins s σ H Q I q=>Uw h.1 pos pins s σ H Q I (OP σ H Q q)⟩
theorem Vs (h:d6 X.f9 (dO K bw a7) st ms):d6 X (jn K bw a7 E) st (se ms):=⟨fun pins s σ H D I q=>Ux h.1 pins s σ H D I (OQ D σ H q)⟩
end
structure qL (P:Program) (w:World) (K:PySem.W.Frag) (mg:Str→Option Value) (base:Heap) (x:Str) (n k:Nat) (mf:List D→R b1):Prop where
 ex:∃(f:Addr) (fd:FuncData) (aB:List Str),aB.length=n∧gC P w K mg base (fW P w) k f fd aB (m8 K n (s8 K) mf)∧mg x=some (.ref f)∧PySem.W.keepIn K (.ref f)=true∧Binds K fd aB []
structure tn (K:PySem.W.Frag) (mg:Str→Option Value) (c:Str):Prop where
 ex:∃C,eS K c C∧mg c=some (.ref C)∧PySem.W.excIn K C [.type "ValueError",.type "Exception",.type "BaseException",.type "object"] "ValueError.__new__"=true
noncomputable def rQ (c:Str):a0:=fun _=> .exc c
section
variable {P:Program} {w:World} {K:PySem.W.Frag} {mg:Str→Option Value} {base:Heap} {N:List Str} {qual:Str} {scope:Scope} {f:Addr} {cd:Value} {A:Around} {outer:List Env} {s0:Shared} {e7:J} {E:cM} {bw a7:J}
theorem A5 {x:Str} {np bS pos tX:Pos} {m:Str} {j:Nat} (k:tn K mg x) (hg:cv (eo (fW P w) P w K mg base N qual scope f cd A outer s0 e7 E) x:=by rfl) (hd:(x == ("__debug__" :Str))=false:=by decide) :
  d6 (eo (fW P w) P w K mg base N qual scope f cd A outer s0 e7 E) (jn K bw a7 E) (.Raise (some (.Call (.Name x np) [.Constant (.str m) j tX] [] bS)) none pos) (rQ x):=by
 obtain ⟨C,h1,h2,h3⟩:=k.ex
 refine ⟨fun pins s σ H D I q=>Rg (X:=eo (fW P w) P w K mg base N qual scope f cd A outer s0 e7 E) PySem.F.excBase_ValueError h3 h2 rfl hg hd pins s σ H D I ?_⟩
 obtain ⟨G,ρ,r,h⟩:=q
 obtain ⟨iI,bD,dj⟩:=(show jw (jn K bw a7 E) x from h) G H r.aC
 have:iI=C:=by
  unfold eS at bD h1
  rw [h1] at bD
  cases bD; rfl
 subst this
 exact Vk dj
theorem U9 {x:Str} {n k:Nat} {mf:List D→R b1} {e:Expr} {ae:List Expr} {ma:aK} {pos p:Pos} (c:qL P w K mg base x n k mf) (hr:cZ k (eo (fW P w) P w K mg base N qual scope f cd A outer s0 e7 E).A) (ha:e_ (eo (fW P w) P w K mg base N qual scope f cd A outer s0 e7 E) (jn K bw a7 E) (e::ae) ma)
  (hg:cv (eo (fW P w) P w K mg base N qual scope f cd A outer s0 e7 E) x:=by rfl) (hdb:(x == ("__debug__" :Str))=false:=by decide)
  (he:starEach (e::ae) (eo (fW P w) P w K mg base N qual scope f cd A outer s0 e7 E).env=(false,eval e (eo (fW P w) P w K mg base N qual scope f cd A outer s0 e7 E).env)::starEach ae (eo (fW P w) P w K mg base N qual scope f cd A outer s0 e7 E).env:=by rfl)
  (hpl:(backTo pos (starEach ae (eo (fW P w) P w K mg base N qual scope f cd A outer s0 e7 E).env)).any (·.1)=false:=by rfl) :
  aV (eo (fW P w) P w K mg base N qual scope f cd A outer s0 e7 E) (jn K bw a7 E) (.Call (.Name x p) (e::ae) [] pos) (b5 n mf ma):=by
 obtain ⟨t8,fd,aB,aN,j2,hm,hk,hb⟩:=c.ex
 exact ⟨aS.imp (zc (X:=eo (fW P w) P w K mg base N qual scope f cd A outer s0 e7 E) j2 hr hg hm hk hb .nil Qz ha.1 hdb he hpl) (D9 (F:=jn K bw a7 E) (xe:=s8 K) (E:=E) rfl)⟩
end
theorem HD {P:Program} {w:World} {K:PySem.W.Frag} {mg:Str→Option Value} {base:Heap} {x:Str} {st:Stmt} {N aB:List Str} {k:Nat} {m:a0} (d:di K mg x st aB) (S:cP N aB (bP st))
  (h:∀(f:Addr) (bX:Value) (A:Around) (outer:List Env) (s:Shared) (H:J) (E:cM),cZ k (A.deeper (PyProof.Rows.envOfC x (bP st) s.heap.objs.size f bX))→∀bw a7,hS (eo (fW P w) P w K mg base N x (bP st) f bX A outer s H E) (jn K bw a7 E) (fl st) m) :
  qL P w K mg base x aB.length (k + 1) (cU N.length m):=by
 obtain ⟨f,fd,fn,hm,hb⟩:=d.ex
 refine ⟨f,fd,aB,rfl,?_,hm,fn.aC,hb⟩
 obtain ⟨eL,de,cE,doc,pm,an,bX,cj,kf,rfl,lk,hcd⟩:=fn.ex
 refine Dl lk hcd S vu fun A outer s H vs Q E hr hs=>?_
 obtain ⟨G,ht⟩:=tT hs
 exact ⟨_,(h f bX A outer s H E hr G H).1,ht⟩
section
variable {X:aG} {F:bf} {e:Expr} {ae:List Expr} {pos p:Pos} {ma:aK}
end
end aA
set_option Elab.async false
set_option linter.all false
set_option maxRecDepth 100000
namespace aZ
open PySem PySem.Spec PySem.Calls PyProof.Rows PySem.W PySem.Builtin PySem.Builtin.ObjectAttr PySem.Builtin.Getset_descriptor
noncomputable def ExcAt (a D:Addr) (h:Heap):Prop:=∃o,h.get? a=some o∧o.cls= .ref D
theorem ExcAt.ty {M:Model} {a D:Addr} {h:Heap} (p:ExcAt a D h):Looks M h (typeOf (.ref a)) (.ref D):=by
 obtain ⟨o,h1,h2⟩:=p
 rw [←h2]
 exact (Looks.ld h1).andThen .now
structure tm (K:Frag) (D:Addr):Prop where
 ga:findIn K (.ref D) "__getattribute__"=some (some (.builtin "BaseException.__getattribute__"))
 Lo:findIn K (.ref D) "__getattr__"=some none
 cl:findIn K (.ref D) "__class__"=some (some (.builtin "object.__class__"))
 ja:subIn K (.ref D) (.type "BaseException")=some true
 mo:mroIn K D (.type "object")=some true
 cj:(clsIn K D).isSome=true
section
variable {prog:Program} {w:World} {A:Around} {E:Value→Shared→Prop} {s:Shared} {K:Frag} {a D:Addr}
theorem K4 {R:Result→Shared→Prop} (X:K.In s.heap) (p:ExcAt a D s.heap) (f:tm K D) (h:R (.ok (.ret (.ref D))) s) :
  codeAny (model prog w) A (.call (.builtin "getset_descriptor.__get__") ⟨[.builtin "object.__class__",.ref a,.ref D],[]⟩) R s:=by
 obtain ⟨hh,g,Ci,t,os⟩:=s
 have tx:=p.ty (M:=model prog w)
 have wm:=looks_mroIn (M:=model prog w) X f.mo
 refine codeAny_call_builtin KF.slot_gs.plain KF.entry_gs
  (KF.slot_gs.check _ _ _ _ _ _ _ _ KF.type_class
    (KF.args_gs _ _ _) ?_)
 unfold Builtin.«getset_descriptor.__get__» descrGet
 rw [dga_obj]
 refine wpAny_bind (wpAny_pure ?_)
 unfold descrGetter descrCheckInstance descrNameAndClass isInstance
 simp only [KF.owner_class]
 repeat lk
 refine ⟨Code.quiet_builtin _ (by decide +kernel),codeAny_builtin KF.entry_class ?_⟩
 unfold Builtin.«object.__class__» shownTypeOf
 repeat lk
 exact h
theorem K3 {Q:Option Value→Shared→Prop} (X:K.In s.heap) (p:ExcAt a D s.heap) (f:tm K D) (hs:specialIn K (.builtin "object.__class__") "__get__"=some (some (.builtin "getset_descriptor.__get__"))) (ht:takesIn K (.builtin "object.__class__")=some true)
  (h:Q (some (.ref D)) { s with toks:=s.toks + 1 }):wpAny (model prog w) A (getAttr? (.ref a) "__class__") Q E s:=by
 obtain ⟨hh,g,Ci,t,os⟩:=s
 have tx:=p.ty (M:=model prog w)
 have wm:=looks_findIn (M:=model prog w) X f.ga
 have aZ:=looks_findIn (M:=model prog w) X f.Lo
 have aA:=looks_findIn (M:=model prog w) X f.cl
 have Ib:=looks_subIn (M:=model prog w) X f.ja
 have Ic:=looks_specialIn (M:=model prog w) X hs
 have Ig:Looks (model prog w) hh (isInstance (.ref a) (.type "BaseException")) true:=tx.andThen Ib
 have Ie:Looks (model prog w) hh (find (.ref a) (.ref D) "__class__") (.bind (.builtin "getset_descriptor.__get__") (.builtin "object.__class__")):=by
  have LT:=looks_takesIn (M:=model prog w) X ht
  intro oK iL qG s' k q
  unfold find getOf dataDescriptor?
  refine wpAny_bind (aA _ _ _ _ k (wpAny_bind (Ic _ _ _ _ k ?_)))
  refine wpAny_bind (wpAny_bind (LT _ _ _ _ k ?_))
  exact wpAny_pure (wpAny_bind (wpAny_rule (wpAny_pure q)))
 unfold getAttr? getAttrBy? getAttrBy
 refine wpAny_bind (wpAny_mkText (wpAny_bind (wpAny_attempt (wpAny_holding (wpAny_bind (tx.at (wpAny_bind (wm.at ?_))))))))
 show wpAny _ _ (getAttrByItsOwn _ _ _ _ _ _) _ _ _
 unfold getAttrByItsOwn hookBefore
 refine wpAny_bind (aZ.at ?_)
 refine wpAny_bind (wpAny_attempt (wpAny_holding ?_))
 show wpAny _ _ (boundAndCalled _ _ _) _ _ _
 unfold boundAndCalled
 rw [PySem.F.excAttr_ValueError.ga.bind (.ref a)]
 refine wpAny_bind (wpAny_pure ?_)
 refine wpAny_call (codeAny_call_builtin PySem.F.excAttr_ValueError.ga.plain PySem.F.entry_bexc_ga ?_)
 have hk:builtinKind "BaseException.__getattribute__"=some .slot:=by decide +kernel
 have hp:splitId "BaseException.__getattribute__"=some ("BaseException","__getattribute__"):=by decide +kernel
 have ha:=PySem.F.args_bexc_ga (.ref a) (.str "__class__" t)
 show wpAny _ _ (checkBuiltinCall "BaseException.__getattribute__" ⟨[.ref a,.str "__class__" t],[]⟩) _ _ _
 simp only [checkBuiltinCall,hk,hp]
 refine wpAny_bind (Ig.at ?_)
 simp only [Bool.not_true,Bool.false_eq_true,if_false]
 cases DU:Manifest.signature? "BaseException.__getattribute__" with
 | none=>exact absurd DU (by decide +kernel)
 | some aY=>
   simp only [argsOk,DU] at ha
   have h2:Bind.checkArgs "BaseException.__getattribute__" aY ⟨[.ref a,.str "__class__" t],[]⟩=pure ():=ha
   show wpAny _ _ (Bind.checkArgs "BaseException.__getattribute__" aY ⟨[.ref a,.str "__class__" t],[]⟩) _ _ _
   rw [h2]
   refine wpAny_pure ?_
   unfold Builtin.«object.__getattribute__»
   refine wpAny_bind (wpAny_pure ?_)
   refine wpAny_bind (wpAny_pure ?_)
   refine wpAny_bind (tx.at (wpAny_bind (Ie.at ?_)))
   show wpAny _ _ (do ret (←holding [Value.builtin "object.__class__"] (call (.builtin "getset_descriptor.__get__") [.builtin "object.__class__",.ref a,.ref D]))) _ _ _
   refine wpAny_bind (wpAny_holding (wpAny_call (K4 (s:=⟨hh,g,Ci,t + 1,os⟩) X p f ?_)))
   refine wpAny_pure ?_
   exact wpAny_pure (wpAny_pure h)
theorem Od (f:tm K D) (hs:specialIn K (.builtin "object.__class__") "__get__"=some (some (.builtin "getset_descriptor.__get__"))) (ht:takesIn K (.builtin "object.__class__")=some true):KitX K (.ref a) (.ref D) (ExcAt a D) where
 ty:=fun _ _ _ p=>p.ty
 it:=fun _ _ X _=>by
  have hc:=f.cj
  unfold clsIn at hc
  split at hc
  · rename_i cn b3 PS PT ho
    intro oK iL qG s' k q
    unfold isType loadHead
    refine wpAny_bind ?_
    exact wpAny_loadPart (k _ _ (X _ _ ho)) (wpAny_pure q)
  · cases hc
 ne:=fun h lU dd its n cc X Mh=>by
  refine Bool.eq_false_iff.mpr fun q=>?_
  have e:D=lU:=by
   have:=beq_iff_eq.mp q
   cases this; rfl
  subst e
  have hc:=f.cj
  unfold clsIn at hc
  split at hc
  · rename_i cn b3 PS PT ho
    have z:=(X _ _ ho).symm.trans Mh
    cases z
  · cases hc
 ca:=fun X p h=>K3 X p f hs ht h
end
end aZ
namespace aA
open PySem PySem.Spec aZ
structure qK (K:PySem.W.Frag) (tV:Value) (tab:List (Str×Bool)):Prop where
 sp:PySem.W.specialIn K (.builtin "object.__class__") "__get__"=some (some (.builtin "getset_descriptor.__get__"))
 cR:PySem.W.takesIn K (.builtin "object.__class__")=some true
 ex:∀c b,tab.lookup c=some b→∃C,eS K c C∧tm K C∧PySem.W.kitOne K (.ref C) tV=some b
noncomputable def ie (tab:List (Str×Bool)):D→R D
 | .gn c=>match tab.lookup c with
   | some b=> .ok (.au b)
   | none=> .bad
 | _=> .bad
section
variable {X:aG} {F:bf} {a:Expr} {pos p:Pos} {m:ay}
noncomputable def FP (F:bf) (tab:List (Str×Bool)) (vU:V):List V→J→b9→Prop:=fun xs H Q=>∃G x c b,Sub G H∧xs=[x,vU]∧At F.K G (.gn c) x∧tab.lookup c=some b∧Q (.au b) H
theorem BY {tab:List (Str×Bool)} {vU:V} {tV:Value} (hK:F.K=X.K) (hv:∀u,RelV vU u→u=tV) (t:qK X.K tV tab):gz X (.builtin "isinstance") (FP F tab vU):=by
 intro pins s σ H xs us Q I r h
 obtain ⟨G,x,c,b,aY,rfl,bc,hb,q⟩:=h
 obtain ⟨u,fF,rfl,bh,ed⟩:=vals2 r
 have:=hv fF ed
 subst this
 rw [hK] at bc
 simp only [At] at bc
 obtain ⟨a,xs,rfl,⟨C,bD,ga⟩,_⟩:=bc
 cases bh
 obtain ⟨iI,dj,f,k⟩:=t.ex c b hb
 have e:iI=C:=by
  unfold eS at bD dj
  rw [bD] at dj; cases dj; rfl
 subst e
 have ok:ExcAt a iI s.heap:=by
  obtain ⟨⟨o,h1,h2⟩,_⟩:=(show en X.prog X.w H s.heap a (nS a (.ref iI)) from I.bk a _ (aY _ _ ga))
  exact ⟨o,h1,h2⟩
 exact PySem.W.kia_one (Od f t.sp t.cR) I.eP ok k (fun z=>nomatch z) fun cR=>⟨.au _,H,I.tok cR,rfl,q⟩
theorem Ec {tab:List (Str×Bool)} {vU:V}:ek (cA F (cH (ie tab) m)) (sI (FP F tab vU) (vA (cA F m) (vA (nd vU) Az))):=by
 rintro σ H Q ⟨G,ρ,r,h⟩
 unfold cH at h
 refine ⟨G,ρ,r,?_⟩
 cases av:m ρ with
 | bad=>rw [av] at h; exact h.elim
 | exc c=>rw [av] at h; exact h
 | ok d=>
   rw [av,R.bo] at h
   intro x H1 aM ao s1 bH
   cases d with
   | gn c=>
     simp only [ie] at h
     split at h
     · rename_i b hb
       exact ⟨aM,x,c,b,ao.aC.sub,rfl,bH,hb,h _ H1 aM ao s1 (by simp only [At])⟩
     · exact h.elim
   | _=>exact h.elim
theorem Vh {U:Str} {l9:Addr} {tab:List (Str×Bool)} {bM:Pos} (t:qK X.K (.ref l9) tab) (hm:X.mg "isinstance"=none) (hmU:X.mg U=some (.ref l9)) (ha:aV X F a m) (hK:F.K=X.K:=by rfl) (hg:cv X "isinstance":=by rfl) (hgU:cv X U:=by rfl) (hdU:(U == ("__debug__" :Str))=false:=by decide)
  (hs2:starEach [.Name U bM] X.env=(false,eval (.Name U bM) X.env)::starEach [] X.env:=by rfl)
  (he:starEach [a,.Name U bM] X.env=(false,eval a X.env)::starEach [.Name U bM] X.env:=by rfl) (hpl:(backTo pos (starEach [.Name U bM] X.env)).any (·.1)=false:=by rfl) :
  aV X F (.Call (.Name "isinstance" p) [a,.Name U bM] [] pos) (cH (ie tab) m):=by
 have hb:bootBuiltins "isinstance"=some (.builtin "isinstance"):=by kernel_rfl
 exact ⟨aS.imp (sj (BY (F:=F) (vU:= .ref l9) hK (fun u r=>by cases r; rfl) t) hg hm hb (i7 ha.1 (i7 (Fz hgU hmU (v:= .ref l9) rfl hdU) lN hs2) he) (by decide) (by decide) he hpl) Ec⟩
theorem Vg {tab:List (Str×Bool)} {bM:Pos} (t:qK X.K (.type "ValueError") tab) (hm:X.mg "isinstance"=none) (hmU:X.mg "ValueError"=none) (ha:aV X F a m) (hK:F.K=X.K:=by rfl) (hg:cv X "isinstance":=by rfl) (hgU:cv X "ValueError":=by rfl)
  (hs2:starEach [.Name "ValueError" bM] X.env=(false,eval (.Name "ValueError" bM) X.env)::starEach [] X.env:=by rfl)
  (he:starEach [a,.Name "ValueError" bM] X.env=(false,eval a X.env)::starEach [.Name "ValueError" bM] X.env:=by rfl) (hpl:(backTo pos (starEach [.Name "ValueError" bM] X.env)).any (·.1)=false:=by rfl) :
  aV X F (.Call (.Name "isinstance" p) [a,.Name "ValueError" bM] [] pos) (cH (ie tab) m):=by
 have hb:bootBuiltins "isinstance"=some (.builtin "isinstance"):=by kernel_rfl
 exact ⟨aS.imp (sj (BY (F:=F) (vU:= .ty "ValueError") hK (fun u r=>r) t) hg hm hb (i7 ha.1 (i7 (Fx hgU hmU (by kernel_rfl) (v:= .ty "ValueError") rfl) lN hs2) he) (by decide) (by decide) he hpl) Ec⟩
noncomputable def sS (i:Nat):e6→R e6
 | .a9 ρ=> .ok (.a9 (ρ.set i .un))
 | .eB ρ=> .ok (.eB (ρ.set i .un))
 | .cj ρ=> .ok (.cj (ρ.set i .un))
 | f=> .ok f
structure Bq (K:PySem.W.Frag) (mg:Str→Option Value) (W:Str) (cs:List Str):Prop where
 ex:∃tk,mg W=some (.ref tk)∧∀c,cs.contains c=true→∃C,eS K c C∧PySem.W.exmOne K (.ref C) (.ref tk)=some true
theorem Rel.xa {G H:J} {σ :aZ.St} {ρ:ai} (r:Rel F G H σ ρ) (i:Nat):Rel F G H (σ.set i none) (ρ.set i .un):=by
 by_cases hi:i < ρ.length
 · exact r.ox hi trivial fun _ f=>f.elim
 · rw [List.set_eq_of_length_le (by rw [r.len]; omega),List.set_eq_of_length_le (by omega)]; exact r
end
end aA
set_option Elab.async false
set_option linter.all false
set_option maxRecDepth 100000
namespace aA
open PySem PySem.Spec aZ
noncomputable def qa:D→D→R D
 | .lst xs,.int k=>if 0≤k∧k≤1000∧xs.length≤100 then .ok (.lst (List.replicate k.toNat xs).flatten) else .bad
 | _,_=> .bad
theorem aE.rep {K:PySem.W.Frag} {G:J} {ds:List D} {xs:List V} (q:aE K G ds xs):∀n:Nat,aE K G (List.replicate n ds).flatten (List.replicate n xs).flatten
 | 0=>by simpa using aE.nil
 | n + 1=>by
   rw [List.replicate_succ,List.replicate_succ,List.flatten_cons,List.flatten_cons]
   exact q.append (aE.rep q n)
section
variable {X:aG} {F:bf} {a b:Expr} {pos p:Pos} {m n:ay}
theorem P_:fg F FV qa:=by
 intro σ ρ G H x y aT fB Q r bH cI k
 unfold qa at k
 split at k
 · rename_i xs j
   split at k
   · rename_i hc
     simp only [At] at bH cI
     obtain ⟨l,vs,rfl,hl,al⟩:=bH
     refine ⟨l,j,vs,rfl,cI,r.aC.sub _ _ hl,by omega,by omega,?_,fun q aD=>?_⟩
     · rw [←al.length]
       have h1:j.toNat≤1000:=by omega
       exact Nat.le_trans (Nat.mul_le_mul hc.2.2 h1) (by decide)
     · refine k (.ref q) _ _ (r.lay aD) (b2.lay r.aC.sub aD) ?_
       simp only [At]
       exact ⟨q,_,rfl,dv,(al.mono (Sub.upd (r.aC.sub.gone aD))).rep j.toNat⟩
   · exact k.elim
 · exact k.elim
theorem Vm (ha:aV X F a m) (hb:aV X F b n):aV X F (.BinOp a .Mult b pos) (ar qa m n):=⟨nQ Qp P_ ha.1 hb.1⟩
structure kp (K:PySem.W.Frag) (mg:Str→Option Value) (U:Str) (tab:List (Str×Bool)):Prop where
 ex:∃l9,mg U=some (.ref l9)∧qK K (.ref l9) tab
theorem l0 {U:Str} {tab:List (Str×Bool)} {bM:Pos} (t:kp X.K X.mg U tab) (hm:X.mg "isinstance"=none) (ha:aV X F a m) (hK:F.K=X.K:=by rfl) (hg:cv X "isinstance":=by rfl) (hgU:cv X U:=by rfl) (hdU:(U == ("__debug__" :Str))=false:=by decide)
  (hs2:starEach [.Name U bM] X.env=(false,eval (.Name U bM) X.env)::starEach [] X.env:=by rfl)
  (he:starEach [a,.Name U bM] X.env=(false,eval a X.env)::starEach [.Name U bM] X.env:=by rfl) (hpl:(backTo pos (starEach [.Name U bM] X.env)).any (·.1)=false:=by rfl) :
  aV X F (.Call (.Name "isinstance" p) [a,.Name U bM] [] pos) (cH (ie tab) m):=by
 obtain ⟨l9,h1,h2⟩:=t.ex
 exact Vh h2 hm h1 ha hK hg hgU hdU hs2 he hpl
noncomputable def EW (i:Nat) (n:ay):ay:=fun ρ=>(ownAt i ρ).bind fun ds=>(n ρ).bind fun k=>match k with
 | .int j=>match eZ ds j with
   | some d=> .ok d
   | none=> .bad
 | _=> .bad
theorem Qu {i:Nat} {ρ:ai} {ds:List D} (h:ownAt i ρ= .ok ds):ρ[i]? =some (.df ds):=by
 unfold ownAt at h
 split at h
 · rename_i e; cases h; exact e
 · cases h
theorem Qt {i:Nat} {ρ:ai} {c:Str} (h:ownAt i ρ= .exc c):False:=by
 unfold ownAt at h
 split at h <;> cases h
end
end aA
set_option linter.all false
set_option autoImplicit false
namespace gD
open PySem PySem.SetTable
structure Tab (t:SetTable) (n:Nat):Prop where
 Wd:t.dummies= #[]
 Ak:t.place.size=n
 RU:t.place.toList.Pairwise (· < ·)
 le:∀j∈t.place.toList,j≤t.mask
end gD
set_option linter.all false
set_option autoImplicit false
namespace gD
open PySem PySem.SetTable
noncomputable def Iv (mask:Nat) (p:Probe):Probe:=
 if p.more > 0 then { p with j:=p.j + 1,more:=p.more - 1 } else
 { p with j:=(leap mask p.i p.perturb).1,more:=runEnd mask (leap mask p.i p.perturb).1 - (leap mask p.i p.perturb).1,i:=(leap mask p.i p.perturb).1,perturb:=(leap mask p.i p.perturb).2 }
noncomputable def Rj (mask:Nat) (i q:Nat):Probe:={ j:=i,more:=runEnd mask i - i,i,perturb:=q,dummy:=none }
noncomputable def zj (mask:Nat) (h:Int):Nat→Probe
 | 0=>Rj mask (bits h % (mask + 1)) (bits h)
 | n + 1=>Iv mask (zj mask h n)
noncomputable def lE (mask:Nat) (h:Int):Nat→Nat×Nat
 | 0=>(bits h % (mask + 1),bits h)
 | n + 1=>leap mask (lE mask h n).1 (lE mask h n).2
noncomputable def g4 (mask i:Nat):Nat:=runEnd mask i - i
noncomputable def aY (mask:Nat) (h:Int):Nat→Nat
 | 0=>0
 | n + 1=>aY mask h n + g4 mask (lE mask h n).1 + 1
noncomputable def EG (mask:Nat):Nat→Nat→Nat
 | 0,i=>i
 | n + 1,i=>(EG mask n i * 5 + 1) % (mask + 1)
noncomputable def Fp (mask:Nat):Nat→Nat→List Nat
 | 0,_=>[]
 | n + 1,i=>i::Fp mask n ((i * 5 + 1) % (mask + 1))
structure H0 (mask:Nat):Prop where
 all:∀j,j≤mask→j∈Fp mask (mask + 1) 0
 back:EG mask (mask + 1) 0=0
theorem least (p:Nat→Prop):(∃n,p n)→∃n,p n∧∀m,m < n→¬ p m:=by
 rintro ⟨n,h⟩
 induction n using Nat.strongRecOn with
 | _ n b8=>
   by_cases q:∃m,m < n∧p m
   · obtain ⟨m,m1,m2⟩:=q; exact b8 m m1 m2
   · exact ⟨n,h,fun m hm hp=>q ⟨m,hm,hp⟩⟩
end gD
set_option linter.all false
set_option autoImplicit false
namespace gD
open PySem PySem.SetTable
section
variable {α:Type}
noncomputable def oM (t:SetTable) (ae:Array (Int×α)) (j:Nat) (e:Int×α):Prop:=∃i:Nat,t.place.toList[i]? =some j∧ae.toList[i]? =some e
structure Bo (t:SetTable) (ae:Array (Int×α)):Prop where
 tab:Tab t ae.size
 Wc:H0 t.mask
 room:ae.size≤t.mask
 find:∀j e,oM t ae j e→∃n,(zj t.mask e.1 n).j=j∧∀m,m < n→(zj t.mask e.1 m).j∈t.place.toList
theorem Bo.len {t:SetTable} {ae:Array (Int×α)} (I:Bo t ae):t.place.toList.length=ae.size:=by simpa using I.tab.Ak
theorem Q8 {t:SetTable} {n:Nat} (T:Tab t n) {i k j:Nat} (a:t.place.toList[i]? =some j) (b:t.place.toList[k]? =some j):i=k:=by
 obtain ⟨a1,a2⟩:=List.getElem?_eq_some_iff.mp a
 obtain ⟨c0,cN⟩:=List.getElem?_eq_some_iff.mp b
 have r:=List.pairwise_iff_getElem.mp T.RU
 rcases Nat.lt_trichotomy i k with h | h | h
 · have:=r i k a1 c0 h; omega
 · exact h
 · have:=r k i c0 a1 h; omega
theorem oM.inj {t:SetTable} {ae:Array (Int×α)} {n:Nat} (T:Tab t n) {j:Nat} {e bY:Int×α} (a:oM t ae j e) (b:oM t ae j bY):e=bY:=by
 obtain ⟨i,a1,a2⟩:=a
 obtain ⟨k,c0,cN⟩:=b
 have:=Q8 T a1 c0; subst this
 rw [a2] at cN; exact Option.some.inj cN
end
structure Own (M:Nat) (owner:Array (Option Nat)) (a:List Nat):Prop where
 Ak:owner.size=M + 1
 bF:a.Nodup
 le:∀j∈a,j≤M
 of:∀j k:Nat,owner[j]? =some (some k)↔a[k]? =some j
theorem Own.free {M:Nat} {owner:Array (Option Nat)} {a:List Nat} (O:Own M owner a) {j:Nat} (cD:j≤M):(owner.getD j (some 0)).isNone=true↔j∉a:=by
 have hs:j < owner.size:=by have:=O.Ak; omega
 rw [Array.getD_eq_getD_getElem?,Array.getElem?_eq_getElem hs]
 constructor
 · intro h m
   obtain ⟨k,hk,rfl⟩:=List.getElem_of_mem m
   have:=(O.of _ k).mpr (List.getElem?_eq_getElem hk)
   rw [Array.getElem?_eq_getElem hs] at this
   simp only [Option.getD_some] at h
   rw [Option.some.inj this] at h
   cases h
 · intro h
   simp only [Option.getD_some]
   cases e:owner[j] with
   | none=>rfl
   | some k=>
     exfalso
     have:=(O.of j k).mp (by rw [Array.getElem?_eq_getElem hs,e])
     exact h (List.mem_of_getElem? this)
end gD
set_option linter.all false
set_option autoImplicit false
namespace gD
open PySem PySem.SetTable
section
variable {α:Type}
end
end gD
set_option linter.all false
set_option autoImplicit false
namespace gD
open PySem PySem.SetTable
section
variable {prog:Program} {w:World} {A:Around} {E:Value→Shared→Prop} {s:Shared} {K:Type} [DecidableEq K] {knd:KeyKind prog w K}
end
end gD
set_option linter.all false
set_option autoImplicit false
namespace gD
open PySem PySem.SetTable
section
variable {prog:Program} {w:World} {A:Around} {E:Value→Shared→Prop} {s:Shared} {K:Type} [DecidableEq K] {knd:KeyKind prog w K}
theorem oM.place {t:SetTable} {ae:Array (Int×Value)} {j:Nat} {e:Int×Value} (q:oM t ae j e):j∈t.place.toList:=by
 obtain ⟨i,q,_⟩:=q; exact List.mem_of_getElem? q
end
end gD
set_option linter.all false
set_option autoImplicit false
namespace gD
open PySem PySem.SetTable
section
variable {prog:Program} {w:World} {A:Around} {E:Value→Shared→Prop} {s:Shared} {K:Type} [DecidableEq K] {knd:KeyKind prog w K}
end
end gD
set_option linter.all false
set_option autoImplicit false
set_option maxRecDepth 100000
namespace gD
open PySem PySem.Spec PyProof.Rows
section
variable {prog:Program} {w:World} {K:Type} [DecidableEq K] {knd:PySem.KeyKind prog w K}
noncomputable def JD (S:List (List K)) (ks:List K):List (List K):=if ks∈S then S else S ++ [ks]
noncomputable def JG (keys:List (List K)):List (List K):=keys.foldl JD []
section
variable {A:Around} {R:Result→Shared→Prop} {I:Addr} {aL wr:List Addr} {G:Array GenState→Array GenState→Prop} {n:Nat} {P:Nat→Value→Prop} {St:Nat→Shared→Prop}
end
end
end gD
set_option linter.all false
set_option autoImplicit false
set_option maxRecDepth 100000
namespace gD
open PySem PySem.Spec PyProof.Rows
section
variable {prog:Program} {w:World} {A:Around} {E:Value→Shared→Prop} {s:Shared} {K:Type} [DecidableEq K] {knd:PySem.KeyKind prog w K}
end
end gD
set_option linter.all false
set_option autoImplicit false
namespace LT
open PySem PyProof.Rows
structure eR (kd:SortKind) (bU:Array Keyed) (st:SortSt):Prop where
 k:kindOf st=kd
 p:(arrOf st).Perm bU
 n:pendingOf st= #[]
 f:failedOf st=none
theorem eR.jI {kd:SortKind} {bU:Array Keyed} {st:SortSt} (b:eR kd bU st):(arrOf st).size=bU.size:=b.p.size_eq
theorem eR.to {kd:SortKind} {bU:Array Keyed} {st:SortSt} (b:eR kd bU st) {xs:Array Keyed} (q:xs.Perm (arrOf st)):eR kd bU (setArr st xs):=⟨b.k,q.trans b.p,b.n,b.f⟩
structure km (prog:Program) (w:World) (A:Around) (s:Shared) (kd:SortKind) (κ:KeyKind) (bU:Array Keyed):Prop where
 lt:∀(E:Value→Shared→Prop) (x y:Keyed) {Q:Bool→Shared→Prop},x∈bU.toList→y∈bU.toList→Q (κ.blt ((κ.keyOf x.1).getD κ.dflt) ((κ.keyOf y.1).getD κ.dflt)) s→wpAny (model prog w) A (keyLt' kd x.1 y.1) Q E s
section
variable {prog:Program} {w:World} {A:Around} {E:Value→Shared→Prop} {s:Shared} {bU:Array Keyed} {κ:KeyKind} {kd:SortKind}
theorem eR.at {st:SortSt} (b:eR kd bU st) {i:Nat} (hi:i < bU.size):∃x,(arrOf st)[i]? =some x∧x∈bU.toList∧KK κ (arrOf st) i=(κ.keyOf x.1).getD κ.dflt:=by
 have g:i < (arrOf st).size:=by rw [b.jI]; exact hi
 have e:=getElem?_pos (arrOf st) i g
 refine ⟨_,e,(Array.perm_iff_toList_perm.mp b.p).mem_iff.mp (by simp),?_⟩
 unfold KK; rw [e]
theorem rM (C:km prog w A s kd κ bU) {st:SortSt} (b:eR kd bU st) {i j:Nat} {Q:Option Bool→SortSt→Prop} (hi:i < bU.size) (cD:j < bU.size) (h:Q (some (κ.blt (KK κ (arrOf st) i) (KK κ (arrOf st) j))) st):wpS (model prog w) A E s (ltAt' i j) Q st:=by
 obtain ⟨x,d2,dP,oD⟩:=b.at (κ:=κ) hi
 obtain ⟨y,fu,fU,oG⟩:=b.at (κ:=κ) cD
 rw [oD,oG] at h
 rw [ltAt'_eq]
 refine wpS_bind (wpS_get ?_)
 show wpS _ _ _ _ (elem' (arrOf st) i >>= fun x=>elem' (arrOf st) j >>= fun y=>lt' x y) Q st
 rw [elem'_eq,d2,elem'_eq,fu]
 refine wpS_bind (wpS_pure (wpS_bind (wpS_pure ?_)))
 rw [lt'_eq]
 refine wpS_bind (wpS_get (wpS_bind (wpS_lift (wpAny_attempt ?_))))
 rw [b.k]
 exact C.lt _ x y dP fU ⟨rfl,wpS_pure h⟩
theorem Hj {xs:Array Keyed}:SortedToK κ xs 1:=fun i j a c=>by
 have:i=j:=by omega
 subst this; exact KeyOrd.kle_refl _
theorem Uz {xs:Array Keyed} {n:Nat} (h:SortedToK κ xs n) (q:κ.kle (KK κ xs (n - 1)) (KK κ xs n)):SortedToK κ xs (n + 1):=fun i j a c=>by
 by_cases e:j < n
 · exact h i j a e
 have e:j=n:=by omega
 subst e
 by_cases g:i=j
 · subst g; exact KeyOrd.kle_refl _
 · exact KeyOrd.kle_trans (h i (j - 1) (by omega) (by omega)) q
theorem t2 {xs:Array Keyed} {n:Nat} (h:NonIncK κ xs n) (q:κ.kle (KK κ xs n) (KK κ xs (n - 1))):NonIncK κ xs (n + 1):=fun i j a c=>by
 by_cases e:j < n
 · exact h i j a e
 have e:j=n:=by omega
 subst e
 by_cases g:i=j
 · subst g; exact KeyOrd.kle_refl _
 · exact KeyOrd.kle_trans q (h i (j - 1) (by omega) (by omega))
theorem NonIncK.same {xs ys:Array Keyed} {n:Nat} (h:NonIncK κ xs n) (e:∀k,KK κ ys k=KK κ xs k):NonIncK κ ys n:=fun i j a c=>by rw [e,e]; exact h i j a c
theorem By (C:km prog w A s kd κ bU) {st:SortSt} {a eb:Nat} {Q:AscSt→SortSt→Prop} (aN:eb≤bU.size) (ha:1≤a) (an:a≤eb) (b:eR kd bU st) (hs:SortedToK κ (arrOf st) a)
  (h:∀n,a≤n→n≤eb→SortedToK κ (arrOf st) n→(n < eb→κ.klt (KK κ (arrOf st) n) (KK κ (arrOf st) (n - 1)))→Q (none,n) st):wpS (model prog w) A E s (ascLoop a eb) Q st:=by
 unfold ascLoop
 refine wpS_forRange (I:=fun x c t=>t=st∧c=(none,x)∧SortedToK κ (arrOf st) x) ?_ ?_ ⟨rfl,rfl,hs⟩
 · rintro x c t g1 g2 ⟨rfl,rfl,g3⟩
   dsimp only
   refine wpS_bind (rM C b (by omega) (by omega) ?_)
   cases e:κ.blt (KK κ (arrOf t) x) (KK κ (arrOf t) (x - 1)) with
   | true=>exact wpS_pure (h x g1 (by omega) g3 fun _=>e)
   | false=>exact wpS_pure ⟨rfl,rfl,Uz g3 e⟩
 · rintro c t ⟨rfl,rfl,g⟩
   have em:max a eb=eb:=by omega
   rw [em] at g ⊢
   exact h eb an (Nat.le_refl _) g fun z=>absurd z (Nat.lt_irrefl _)
theorem GS (C:km prog w A s kd κ bU) {st:SortSt} {n eb:Nat} {Q:Option Nat→SortSt→Prop} (aN:eb≤bU.size) (h1:1≤n) (nn:n≤eb) (b:eR kd bU st) (hs:NonIncK κ (arrOf st) n)
  (h:∀m t,eR kd bU t→m≤eb→SortedToK κ (arrOf t) m→Q (some m) t):wpS (model prog w) A E s (tail3 n eb) Q st:=by
 have a5:n≤(arrOf st).size:=by rw [b.jI]; omega
 have hT:eR kd bU (setArr st (mirror (arrOf st) 0 n ((n - 0) / 2))):=b.to (mirror_perm _ _ _ _)
 unfold tail3
 refine wpS_bind (wpS_reverse (wpS_bind (By C aN h1 nn hT (fun i j g1 g2=>?_) fun m m1 m2 yP _=>wpS_pure (h m _ hT m2 yP))))
 show κ.kle (KK κ (mirror (arrOf st) 0 n ((n - 0) / 2)) i) (KK κ (mirror (arrOf st) 0 n ((n - 0) / 2)) j)
 rw [KK_mirror a5,KK_mirror a5,if_pos ⟨Nat.zero_le _,by omega⟩,if_pos ⟨Nat.zero_le _,g2⟩]
 exact hs _ _ (by omega) (by omega)
noncomputable def Flat (κ:KeyKind) (xs:Array Keyed) (m q:Nat):Prop:=q + 1≤m∧∀i,m - (q + 1)≤i→i < m→KK κ xs i=KK κ xs (m - 1)
theorem xD {xs:Array Keyed} {m:Nat} (h:1≤m):Flat κ xs m 0:=⟨h,fun i a c=>by
 have:i=m - 1:=by omega
 rw [this]⟩
theorem JJ (C:km prog w A s kd κ bU) {st:SortSt} {n eb:Nat} {Q:DescSt→SortSt→Prop} (aN:eb≤bU.size) (h1:1≤n) (nn:n≤eb) (b:eR kd bU st) (hs:NonIncK κ (arrOf st) n)
  (h:∀m q t,eR kd bU t→n≤m→m≤eb→NonIncK κ (arrOf t) m→Flat κ (arrOf t) m q→Q (none,m,q) t):wpS (model prog w) A E s (descLoop n eb) Q st:=by
 unfold descLoop
 refine wpS_forRange (I:=fun x c t=>∃q,c=(none,x,q)∧eR kd bU t∧NonIncK κ (arrOf t) x∧Flat κ (arrOf t) x q) ?_ ?_ ⟨0,rfl,b,hs,xD h1⟩
 · rintro x c t g1 g2 ⟨q,rfl,b,g3,hy⟩
   dsimp only
   have a5:x≤(arrOf t).size:=by rw [b.jI]; omega
   refine wpS_bind (rM C b (by omega) (by omega) ?_)
   cases e:κ.blt (KK κ (arrOf t) x) (KK κ (arrOf t) (x - 1)) with
   | true=>
     have up:=t2 g3 (KeyOrd.kle_of_klt e)
     dsimp only
     rw [if_pos rfl]
     by_cases z:q > 0
     · rw [if_pos z]
       exact wpS_bind (wpS_reverse (wpS_pure ⟨0,rfl,b.to (mirror_perm _ _ _ _),NonIncK.same up (KK_mirror_equal a5 hy.2),xD (by omega)⟩))
     · rw [if_neg z]
       exact wpS_pure ⟨0,rfl,b,up,xD (by omega)⟩
   | false=>
     dsimp only
     rw [if_neg (by simp)]
     refine wpS_bind (rM C b (by omega) (by omega) ?_)
     cases bY:κ.blt (KK κ (arrOf t) (x - 1)) (KK κ (arrOf t) x) with
     | true=>exact wpS_pure (h x q t b g1 (by omega) g3 hy)
     | false=>
       have q8:KK κ (arrOf t) x=KK κ (arrOf t) (x - 1):=KeyOrd.kle_antisymm bY e
       refine wpS_pure ⟨q + 1,rfl,b,t2 g3 bY,by have:=hy.1; omega,fun i a c=>?_⟩
       rw [show x + 1 - 1=x by omega]
       by_cases w:i=x
       · rw [w]
       · rw [q8]; exact hy.2 i (by omega) (by omega)
 · rintro c t ⟨q,rfl,b,g3,hy⟩
   have em:max n eb=eb:=by omega
   rw [em] at g3 hy ⊢
   exact h eb q t b nn (Nat.le_refl _) g3 hy
theorem Cf (C:km prog w A s kd κ bU) {st:SortSt} {n eb:Nat} {Q:Option Nat→SortSt→Prop} (aN:eb≤bU.size) (nn:n + 1≤eb) (b:eR kd bU st) (hs:NonIncK κ (arrOf st) (n + 1))
  (h:∀m t,eR kd bU t→m≤eb→SortedToK κ (arrOf t) m→Q (some m) t):wpS (model prog w) A E s (descPart n eb) Q st:=by
 unfold descPart
 refine wpS_bind (wpS_lift (wpAny_rule ⟨rfl,wpS_bind (JJ C aN (by omega) nn b hs fun m q t hT m1 m2 g1 g2=>?_)⟩))
 dsimp only
 have a5:m≤(arrOf t).size:=by rw [hT.jI]; omega
 by_cases z:q > 0
 · rw [if_pos z]
   exact wpS_bind (wpS_reverse (GS C aN (by omega) m2 (hT.to (mirror_perm _ _ _ _)) (NonIncK.same g1 (KK_mirror_equal a5 g2.2)) h))
 · rw [if_neg z]
   exact GS C aN (by omega) m2 hT g1 h
theorem RY (C:km prog w A s kd κ bU) {st:SortSt} {eb:Nat} {Q:Option Nat→SortSt→Prop} (aN:eb≤bU.size) (h1:1≤eb) (b:eR kd bU st) (h:∀m t,eR kd bU t→m≤eb→SortedToK κ (arrOf t) m→Q (some m) t) :
  wpS (model prog w) A E s (countRun' 0 eb) Q st:=by
 rw [countRun0_eq]
 refine wpS_bind (By C aN (Nat.le_refl 1) h1 b Hj fun n du c_ g1 g2=>?_)
 dsimp only
 by_cases e:n=eb
 · rw [if_pos (by simpa using e)]
   exact wpS_pure (h n st b c_ g1)
 rw [if_neg (by simpa using e)]
 have g2:=g2 (by omega)
 have a5:n≤(arrOf st).size:=by rw [b.jI]; omega
 by_cases z:n > 1
 · rw [if_pos z]
   refine wpS_bind (rM C b (by omega) (by omega) ?_)
   cases bY:κ.blt (KK κ (arrOf st) 0) (KK κ (arrOf st) (n - 1)) with
   | true=>exact wpS_pure (h n st b c_ g1)
   | false=>
     dsimp only
     rw [if_neg (by simp)]
     have e2:∀k,0≤k→k < n→KK κ (arrOf st) k=KK κ (arrOf st) (n - 1):=fun k _ hk=>
      KeyOrd.kle_antisymm (g1 k (n - 1) (by omega) (by omega)) (KeyOrd.kle_trans bY (g1 0 k (Nat.zero_le _) hk))
     have JP:NonIncK κ (arrOf st) n:=fun i j a c=>by rw [e2 i (Nat.zero_le _) (by omega),e2 j (Nat.zero_le _) c]; exact KeyOrd.kle_refl _
     exact wpS_bind (wpS_reverse (Cf C aN (by omega) (b.to (mirror_perm _ _ _ _)) (NonIncK.same (t2 JP (KeyOrd.kle_of_klt g2)) (KK_mirror_equal a5 e2)) h))
 · rw [if_neg z]
   have ah:n=1:=by omega
   subst ah
   exact Cf C aN (by omega) b (t2 (fun i j a c=>by
    have:i=j:=by omega
    subst this; exact KeyOrd.kle_refl _) (KeyOrd.kle_of_klt g2)) h
theorem qZ (C:km prog w A s kd κ bU) {st:SortSt} {n ok:Nat} {Q:Bool→SortSt→Prop} (aN:n≤bU.size) (hk:ok≤n) (b:eR kd bU st) (hs:SortedToK κ (arrOf st) ok)
  (h:∀t,eR kd bU t→SortedToK κ (arrOf t) n→Q true t):wpS (model prog w) A E s (binarySort' 0 n ok) Q st:=by
 rw [binarySort'_eq]
 simp only [Nat.zero_add]
 refine wpS_bind (wpS_mono (wpS_forRange (I:=fun k c t=>c=(none,())∧eR kd bU t∧SortedToK κ (arrOf t) (min k n)) (Q:=fun c t=>c=(none,())∧eR kd bU t∧SortedToK κ (arrOf t) n) ?_ ?_ ?_) ?_)
 · rintro k c t k1 k2 ⟨rfl,b,g⟩
   have dD:min k n=k:=by omega
   rw [dD] at g
   have a5:k < (arrOf t).size:=by rw [b.jI]; omega
   refine wpS_bind (wpS_mono (wpS_forRange (I:=fun x c u=>u=t∧∃l r,c=(none,l,r)∧l≤r∧r≤k∧r - l≤k - x∧(∀i,i < l→κ.kle (KK κ (arrOf t) i) (KK κ (arrOf t) k))∧∀i,r≤i→i < k→κ.klt (KK κ (arrOf t) k) (KK κ (arrOf t) i))
    (Q:=fun c u=>u=t∧∃l r,c=(none,l,r)∧l≤k∧(∀i,i < l→κ.kle (KK κ (arrOf t) i) (KK κ (arrOf t) k))∧∀i,l≤i→i < k→κ.klt (KK κ (arrOf t) k) (KK κ (arrOf t) i)) ?_ ?_ ⟨rfl,0,k,rfl,by omega,by omega,by omega,fun i z=>by omega,fun i z fe=>by omega⟩) ?_)
   · rintro x c u _ dP ⟨rfl,l,r,rfl,eQ,ck,yJ,lo,hi⟩
     dsimp only
     by_cases z:l≥r
     · rw [if_pos z]
       have e:l=r:=by omega
       subst e
       exact wpS_pure ⟨rfl,l,l,rfl,ck,lo,hi⟩
     rw [if_neg z]
     refine wpS_bind (rM C b (by omega) (by omega) ?_)
     cases e:κ.blt (KK κ (arrOf u) k) (KK κ (arrOf u) ((l + r) / 2)) with
     | true=>exact wpS_pure ⟨rfl,l,(l + r) / 2,rfl,by omega,by omega,by omega,lo,fun i a c=>KeyOrd.klt_of_klt_of_kle e (g _ _ a c)⟩
     | false=>exact wpS_pure ⟨rfl,(l + r) / 2 + 1,r,rfl,by omega,by omega,by omega,fun i a=>KeyOrd.kle_trans (g i ((l + r) / 2) (by omega) (by omega)) (show κ.kle _ _ from e),hi⟩
   · rintro c u ⟨rfl,l,r,rfl,eQ,ck,yJ,lo,hi⟩
     have e:l=r:=by omega
     subst e
     exact ⟨rfl,l,l,rfl,ck,lo,hi⟩
   · rintro c u ⟨rfl,l,r,rfl,eQ,lo,hi⟩
     show wpS _ _ _ _ (moveDown' k l >>= fun _=>pure (ForInStep.yield (none,()))) _ _
     rw [moveDown'_eq]
     refine wpS_bind (wpS_modify (wpS_pure ⟨rfl,b.to (bubble_perm _ _ _),?_⟩))
     rw [show min (k + 1) n=k + 1 by omega]
     intro i j WK yA
     show κ.kle (KK κ (bubble (arrOf u) k (k - l)) i) (KK κ (bubble (arrOf u) k (k - l)) j)
     rw [KK_bubble a5 (by omega),KK_bubble a5 (by omega),show k - (k - l)=l by omega]
     repeat' split
     all_goals first | omega | exact KeyOrd.kle_refl _ | exact lo _ (by omega) | exact KeyOrd.kle_of_klt (hi _ (by omega) (by omega)) | exact g _ _ (by omega) (by omega)
 · rintro c t ⟨rfl,b,g⟩
   rw [show min (max (max ok 1) n) n=n by omega] at g
   exact ⟨rfl,b,g⟩
 · refine ⟨rfl,b,?_⟩
   by_cases z:ok=0
   · subst z
     intro i j a c
     exact Hj i j a (by omega)
   · rw [show min (max ok 1) n=ok by omega]; exact hs
 · rintro c t ⟨rfl,b,g⟩
   exact wpS_pure (h t b g)
theorem RZ (C:km prog w A s kd κ bU) {st:SortSt} {Q:Unit→SortSt→Prop} (b:eR kd bU st) (h2:2≤bU.size) (nW:bU.size < 64)
  (h:∀t,(arrOf t).Perm bU→failedOf t=none→SortedToK κ (arrOf t) bU.size→Q () t):wpS (model prog w) A E s sortRuns' Q st:=by
 rw [sortRuns'_eq]
 refine wpS_bind (wpS_get ?_)
 dsimp only
 have r9:minRun' bU.size bU.size 0=bU.size:=by
  obtain ⟨f,hf⟩:∃f,bU.size=f + 1:=⟨bU.size - 1,by omega⟩
  have:minRun' (f + 1) bU.size 0=bU.size:=by rw [minRun'_succ,if_pos nW,Nat.add_zero]
  rwa [←hf] at this
 simp only [b.jI,r9]
 refine wpS_bind (wpS_mono (wpS_forRange (I:=fun x c t=>(x=0∧c=(none,0)∧eR kd bU t)∨(1≤x∧c=(none,bU.size)∧(arrOf t).Perm bU∧failedOf t=none∧pendingOf t= #[(0,bU.size,0)]∧SortedToK κ (arrOf t) bU.size))
  (Q:=fun c t=>c=(none,bU.size)∧(arrOf t).Perm bU∧failedOf t=none∧pendingOf t= #[(0,bU.size,0)]∧SortedToK κ (arrOf t) bU.size) ?_ ?_ (.inl ⟨rfl,rfl,b⟩)) ?_)
 · have last:∀t,eR kd bU t→SortedToK κ (arrOf t) bU.size→(arrOf (setPending t ((pendingOf t).push (0,bU.size,0)))).Perm bU∧failedOf (setPending t ((pendingOf t).push (0,bU.size,0)))=none∧pendingOf (setPending t ((pendingOf t).push (0,bU.size,0)))= #[(0,bU.size,0)]∧SortedToK κ (arrOf (setPending t ((pendingOf t).push (0,bU.size,0)))) bU.size:=
    fun t b g=>⟨b.p,b.f,by show (pendingOf t).push _=_; rw [b.n]; rfl,g⟩
   rintro x c t _ dP (⟨rfl,rfl,b⟩ | ⟨d2,rfl,g⟩)
   · dsimp only
     rw [if_neg (by omega)]
     simp only [Nat.sub_zero,Nat.min_self,Nat.zero_add]
     refine wpS_bind (RY C (Nat.le_refl _) (by omega) b fun m t b m1 g=>?_)
     dsimp only
     by_cases z:m < bU.size
     · rw [if_pos z]
       refine wpS_bind (wpS_lift (wpAny_rule ⟨rfl,wpS_bind (qZ C (Nat.le_refl _) m1 b g fun u b g=>?_)⟩))
       simp only [Bool.not_true,Bool.false_eq_true,if_false]
       refine wpS_bind (wpS_get ?_)
       rw [b.n]
       exact wpS_bind (wpS_modify (wpS_pure (.inr ⟨by omega,rfl,last u b g⟩)))
     · rw [if_neg z]
       have e:m=bU.size:=by omega
       subst e
       refine wpS_bind (wpS_get ?_)
       rw [b.n]
       exact wpS_bind (wpS_modify (wpS_pure (.inr ⟨by omega,rfl,last t b g⟩)))
   · dsimp only
     rw [if_pos (Nat.le_refl _)]
     exact wpS_pure ⟨rfl,g⟩
 · rintro c t (⟨z,_,_⟩ | ⟨_,e,g⟩)
   · omega
   · exact ⟨e,g⟩
 · rintro c t ⟨rfl,g1,g2,g3,hy⟩
   dsimp only
   refine wpS_bind (wpS_mono (wpS_forRange (I:=fun _ c u=>u=t∧c=(none,())) (Q:=fun c u=>u=t∧c=(none,())) ?_ (fun _ _ z=>z) ⟨rfl,rfl⟩) ?_)
   · rintro x c u _ _ ⟨rfl,rfl⟩
     refine wpS_bind (wpS_get ?_)
     rw [if_pos (by rw [g3]; exact Nat.le_refl 1)]
     exact wpS_pure ⟨rfl,rfl⟩
   · rintro c u ⟨rfl,rfl⟩
     exact wpS_pure (h _ g1 g2 hy)
end
end LT
set_option linter.all false
set_option autoImplicit false
namespace LT
open PySem PyProof.Rows
noncomputable def ltI:List Int→List Int→Bool
 | [],[]=>false
 | [],_::_=>true
 | _::_,[]=>false
 | a::x,b::y=>if a=b then ltI x y else decide (a < b)
theorem yO:∀a,ltI a a=false
 | []=>rfl
 | _::x=>by simp [ltI,yO x]
theorem uM:∀a b c,ltI a b=true→ltI b c=true→ltI a c=true
 | [],[],_,h,_=>by cases h
 | [],_::_,[],_,h=>by cases h
 | [],_::_,_::_,_,_=>rfl
 | _::_,[],_,h,_=>by cases h
 | _::_,_::_,[],_,h=>by cases h
 | a::x,b::y,c::z,h1,h2=>by
   simp only [ltI] at h1 h2 ⊢
   by_cases ah:a=b
   · subst ah
     rw [if_pos rfl] at h1
     by_cases aw:a=c
     · subst aw
       rw [if_pos rfl] at h2 ⊢
       exact uM x y z h1 h2
     · rw [if_neg aw] at h2 ⊢; exact h2
   · rw [if_neg ah] at h1
     have h1:=of_decide_eq_true h1
     by_cases aw:b=c
     · subst aw
       rw [if_neg ah]; exact decide_eq_true h1
     · rw [if_neg aw] at h2
       have h2:=of_decide_eq_true h2
       rw [if_neg (by omega)]; exact decide_eq_true (by omega)
theorem uL:∀a b,ltI a b=false→ltI b a=false→a=b
 | [],[],_,_=>rfl
 | [],_::_,h,_=>by cases h
 | _::_,[],_,h=>by cases h
 | a::x,b::y,h1,h2=>by
   simp only [ltI] at h1 h2
   by_cases e:a=b
   · subst e
     rw [if_pos rfl] at h1 h2
     rw [uL x y h1 h2]
   · rw [if_neg e] at h1
     rw [if_neg (fun z=>e z.symm)] at h2
     have h1:=of_decide_eq_false h1
     have h2:=of_decide_eq_false h2
     exact absurd (by omega) e
theorem EN (a b c:List Int) (h:ltI a c=true):ltI a b=true∨ltI b c=true:=by
 cases ah:ltI a b with
 | true=>exact .inl rfl
 | false=>
   cases aw:ltI b c with
   | true=>exact .inr rfl
   | false=>
     exfalso
     cases bK:ltI b a with
     | true=>rw [uM b a c bK h] at aw; cases aw
     | false=>rw [uL a b ah bK,aw] at h; cases h
section
variable {prog:Program} {w:World} {A:Around} {E:Value→Shared→Prop} {s:Shared}
theorem RM {a b:Int} {t u:Tok} {Q:Value→Shared→Prop} (h:Q (.bool (decide (a < b))) s):wpAny (model prog w) A (richCompare .Lt (.int a t) (.int b u)) Q E s:=
 wpAny_richCompare_same (op:= .Lt) (typeIs_int s a t) (typeIs_int s b u) slot_int_lt (call_int_lt ⟨(fun e=>nomatch e),h⟩)
theorem Nn {x y:List Int} {a b:Addr} {P:Fin→Shared→Prop} (hx:IsTupleKey (intKind prog w) s.heap x a) (cg:IsTupleKey (intKind prog w) s.heap y b) (h:P (.done (.ret (.bool (ltI x y)))) s) :
  wpAny (model prog w) A (Builtin.«tuple.__lt__» ⟨[.ref a,.ref b],[]⟩) P E s:=by
 have tb:=cg.typeIs
 obtain ⟨P1,xs,na,i8,_,JC,Ng⟩:=hx
 obtain ⟨aU,ys,nb,RA,_,db,lA⟩:=cg
 show wpAny _ _ (isInstance (.ref b) (.type "tuple") >>= _) _ _ s
 refine wpAny_bind (wpAny_isInstance tb isSubtype_tuple_tuple ?_)
 simp only [Bool.not_true,Bool.false_eq_true,if_false]
 refine wpAny_bind (wpAny_tupleItemsOf i8 JC (wpAny_bind (wpAny_tupleItemsOf RA db (wpAny_bind ?_))))
 refine wpAny_forIn_list _ (fun rest r s'=>r.1=none∧s'=s∧∃qp qt gd gf,rest=List.zip gd gf∧ItemsAre (intKind prog w) qp gd∧ItemsAre (intKind prog w) qt gf∧ltI qp qt=ltI x y∧decide (gd.length < gf.length)=decide (xs.size < ys.size)) _ ?_ ?_ _ _ ⟨rfl,rfl,x,y,xs.toList,ys.toList,rfl,Ng,lA,rfl,by simp⟩
 · rintro ⟨u,v⟩ rest r s' ⟨hr,rfl,qp,qt,gd,gf,a5,h1,h2,hl,aN⟩
   cases h1 with
   | nil=>simp at a5
   | @cons k1 g8 dP kT g1 h1=>
     cases h2 with
     | nil=>simp at a5
     | @cons k2 jK fU VP g2 h2=>
       simp only [List.zip_cons_cons,List.cons.injEq,Prod.mk.injEq] at a5
       obtain ⟨⟨rfl,rfl⟩,rfl⟩:=a5
       refine wpAny_bind ((intKind prog w).eqBool g1 g2 ?_)
       by_cases e:k1=k2
       · subst e
         simp only [decide_true,Bool.not_true,Bool.false_eq_true,if_false]
         refine wpAny_pure ⟨rfl,rfl,dP,fU,kT,VP,rfl,h1,h2,?_,by simpa using aN⟩
         rw [←hl]; simp [ltI]
       · simp only [decide_eq_false e,Bool.not_false,if_true]
         obtain ⟨t1,rfl⟩:=Value.isInt_shape g1
         obtain ⟨dV,rfl⟩:=Value.isInt_shape g2
         refine wpAny_bind (wpAny_rule (wpAny_bind (RM ?_)))
         rw [←hl] at h
         simp only [ltI,if_neg e] at h
         exact wpAny_bind (wpAny_pure (wpAny_pure (wpAny_pure h)))
 · rintro ⟨ao,a_⟩ s' ⟨hr,rfl,qp,qt,gd,gf,a5,h1,h2,hl,aN⟩
   simp only at hr
   subst hr
   refine wpAny_pure ?_
   have fin:decide (xs.size < ys.size)=ltI x y:=by
    rw [←hl,←aN]
    cases h1 with
    | nil=>cases h2 <;> simp [ltI]
    | cons _ _=>cases h2 with
      | nil=>simp [ltI]
      | cons _ _=>simp at a5
   show P (.done (.ret (.bool (decide (xs.size < ys.size))))) s'
   rw [fin]; exact h
theorem RN {x y:List Int} {a b:Addr} {Q:Value→Shared→Prop} (hu:A.units < cLine) (hx:IsTupleKey (intKind prog w) s.heap x a) (cg:IsTupleKey (intKind prog w) s.heap y b) (h:Q (.bool (ltI x y)) s) :
  wpAny (model prog w) A (richCompare .Lt (.ref a) (.ref b)) Q E s:=
 wpAny_richCompare_same_room (op:= .Lt) hx.typeIs cg.typeIs F.slot_tuple_lt (wpAny_call_entry F.slot_tuple_lt hx.typeIs F.entry_tuple_lt (Nn hx cg ⟨_,rfl,(fun e=>nomatch e),h⟩) (F.args_tuple_lt_2 _ _)) hu
structure gQ (prog:Program) (w:World) (h:Heap) (v:Value) (k:Int×Int×Int):Prop where
 ex:∃a o m b t,v= .ref a∧h.get? a=some o∧o.cls= .type "tuple"∧o.data= .seq #[.int k.1 t,.ref b] m∧IsTupleKey (intKind prog w) h [k.2.1,k.2.2] b
noncomputable def fK (k:Int×Int×Int):List Int:=[k.1,k.2.1,k.2.2]
theorem gQ.inj {h:Heap} {v:Value} {k k':Int×Int×Int} (x:gQ prog w h v k) (y:gQ prog w h v k'):k=k':=by
 obtain ⟨a,o,m,b,t,rfl,ho,hc,hd,hb⟩:=x.ex
 obtain ⟨la,bC,d9,hT,t',e,ho',px,gV,mG⟩:=y.ex
 cases e
 rw [ho] at ho'; cases ho'
 rw [hd] at gV
 simp at gV
 obtain ⟨⟨⟨ah,_⟩,rfl⟩,_⟩:=gV
 have aw:=hb.inj mG
 simp at aw
 obtain ⟨k1,k2,k3⟩:=k
 obtain ⟨NN,NO,NP⟩:=k'
 simp at ah aw ⊢
 exact ⟨ah,aw⟩
theorem N6 (b:Bool) (x y:Value):keyLt' (tuples' b) x y=(do
  let xs ←Builtin.List.listItems x; let ys ←Builtin.List.listItems y
  for ((p,q),i) in (xs.toList.zip ys.toList).zipIdx do
   if !(←eqBool p q) then return ←oneLt' (b && i == 0) p q
  return xs.size < ys.size):=rfl
theorem Qd {x y:Value} {Q:Bool→Shared→Prop} (h:wpAny (model prog w) A (richCompare .Lt x y) (fun v s'=>∃c,v= .bool c∧Q c s') E s):wpAny (model prog w) A (oneLt' false x y) Q E s:=by
 rw [oneLt'_eq]
 simp only [Bool.false_eq_true,if_false]
 refine wpAny_bind (wpAny_mono h (fun v s' ⟨c,e,q⟩=>?_) fun _ _ e=>e)
 subst e
 exact wpAny_truthy_bool q
theorem O6 {x y:Value} {k k':Int×Int×Int} {Q:Bool→Shared→Prop} (hu:A.units < cLine) (hx:gQ prog w s.heap x k) (cg:gQ prog w s.heap y k') (h:Q (ltI (fK k) (fK k')) s):wpAny (model prog w) A (keyLt' (tuples' true) x y) Q E s:=by
 obtain ⟨a,o,m,b,t,rfl,ho,hc,hd,hb⟩:=hx.ex
 obtain ⟨la,bC,d9,hT,t',rfl,ho',px,gV,mG⟩:=cg.ex
 rw [N6]
 refine wpAny_bind (listItems_at ho hd (wpAny_bind (listItems_at ho' gV ?_)))
 simp only [List.zip_cons_cons,List.zip_nil_left,List.zipIdx_cons,List.zipIdx_nil,List.forIn_cons,List.forIn_nil,fK,ltI] at h ⊢
 refine wpAny_bind (wpAny_bind (wpAny_bind (wpAny_eqBool_int ?_)))
 by_cases e:k.1=k'.1
 · rw [if_pos e] at h
   rw [if_neg (by simp [e])]
   refine wpAny_pure ?_
   dsimp only
   refine wpAny_bind (wpAny_bind (wpAny_eqBool_tuple hu hb mG ?_))
   by_cases aw:k.2.1=k'.2.1∧k.2.2=k'.2.2
   · rw [if_neg (by simp [aw.1,aw.2])]
     rw [if_pos aw.1,if_pos aw.2] at h
     exact wpAny_pure (wpAny_pure (wpAny_pure h))
   · rw [if_pos (by simp; exact Classical.not_and_iff_not_or_not.mp aw)]
     refine wpAny_bind (Qd (RN hu hb mG ⟨_,rfl,wpAny_pure (wpAny_pure (wpAny_pure ?_))⟩))
     simpa only [ltI] using h
 · rw [if_neg e] at h
   rw [if_pos (by simpa using e)]
   exact wpAny_bind (oneLt_int (wpAny_pure (wpAny_pure (wpAny_pure h))))
noncomputable def Qr:KeyOrd:=⟨List Int,ltI,yO,uM,EN,uL⟩
open Classical in
noncomputable def uH (prog:Program) (w:World) (h:Heap):KeyKind:={ Qr with keyOf:=fun v=>if q:∃k,gQ prog w h v k then some (fK (choose q)) else none,dflt:=[] }
theorem yG {h:Heap} {v:Value} {k:Int×Int×Int} (x:gQ prog w h v k):(uH prog w h).keyOf v=some (fK k):=by
 have q:∃k,gQ prog w h v k:=⟨k,x⟩
 exact (dif_pos q).trans (congrArg (fun z=>some (fK z)) ((Classical.choose_spec q).inj x))
theorem gQ.mono {h h':Heap} {v:Value} {k:Int×Int×Int} (m:∀b o,h.get? b=some o→h'.get? b=some o) (x:gQ prog w h v k):gQ prog w h' v k:=by
 obtain ⟨a,o,m1,b,t,e,ho,hc,hd,b3,it,n,g,r⟩:=x.ex
 exact ⟨a,o,m1,b,t,e,m _ _ ho,hc,hd,b3,it,n,m _ _ g,r⟩
theorem yU {β:Type} {f:Value→Sem β} {g:Value→β}:∀{vs:List Value} {Q:List β→Shared→Prop},(∀v∈vs,∀(R:β→Shared→Prop),R (g v) s→wpAny (model prog w) A (f v) R E s)→Q (vs.map g) s→wpAny (model prog w) A (vs.mapM f) Q E s
 | [],Q,_,h=>by rw [List.mapM_nil]; exact wpAny_pure h
 | v::vs,Q,hf,h=>by
   rw [List.mapM_cons]
   refine wpAny_bind (hf v (by simp) _ (wpAny_bind (yU (fun u hu=>hf u (by simp [hu])) (wpAny_pure h))))
theorem Oc {vs:List Value} {g:Value→Value} {T:String} {Q:SortKind→Shared→Prop} (aN:vs≠[]) (h1:∀v∈vs,∃a o m r,v= .ref a∧s.heap.get? a=some o∧o.cls= .type "tuple"∧o.data= .seq (g v::r).toArray m) (h2:∀v∈vs,s.TypeIs (g v) T) (h:Q (tuples' (Value.type T != .type "tuple")) s) :
  wpAny (model prog w) A (keyKind' vs.toArray) Q E s:=by
 rw [keyKind'_eq,List.mapM_toArray]
 rw [map_eq_pure_bind]
 refine wpAny_bind (wpAny_bind (yU (g:=fun v=>some (g v)) (fun v hv R rn=>?_) (wpAny_pure ?_)))
 · obtain ⟨a,o,m,r,rfl,ho,hc,hd⟩:=h1 v hv
   show wpAny _ _ (typeOf (.ref a) >>= _) R E s
   refine wpAny_bind (wpAny_typeOf ⟨o,ho,hc⟩ ?_)
   rw [if_neg (by simp)]
   refine wpAny_bind (listItems_at ho hd (wpAny_pure ?_))
   simpa using rn
 · rw [if_pos (by simp)]
   refine wpAny_bind (wpAny_rule ?_)
   have e:Array.filterMap id (vs.map fun v=>some (g v)).toArray=(vs.map g).toArray:=by simp
   rw [e,oneTypeOnly'_eq,List.mapM_toArray,map_eq_pure_bind]
   refine wpAny_bind (wpAny_bind (wpAny_bind (yU (g:=fun _=> .type T) (fun v hv R rn=>?_) (wpAny_pure ?_))))
   · obtain ⟨u,hu,rfl⟩:=List.mem_map.mp hv
     exact wpAny_typeOf (h2 u hu) rn
   · obtain ⟨v,r,rfl⟩:=List.exists_cons_of_ne_nil aN
     have ct:(List.map (fun _=>Value.type T) (List.map g (v::r))).toArray[0]? =some (.type T):=by simp
     rw [ct]
     dsimp only
     rw [if_pos (by simp)]
     exact wpAny_pure (wpAny_pure h)
end
end LT
set_option linter.all false
set_option autoImplicit false
namespace LT
open PySem PyProof.Rows
section
variable {prog:Program} {w:World} {A:Around} {E:Value→Shared→Prop} {s:Shared}
theorem Am {a:Addr} {vs:List Value} {n:Nat} {κ:KeyKind} {kd:SortKind} {P:Fin→Shared→Prop} (ho:s.heap.get? a=some (seqObj "list" vs.toArray n)) (nW:vs.length < 64)
  (hk:∀h':Heap,(∀b o,b≠a→s.heap.get? b=some o→h'.get? b=some o)→vs≠[]→(∀R:SortKind→Shared→Prop,R kd { s with heap:=h' }→wpAny (model prog w) A (keyKind' vs.toArray) R E { s with heap:=h' })∧km prog w A { s with heap:=h' } kd κ (pairsOf vs))
  (h:∀t:SortSt,(arrOf t).Perm (pairsOf vs)→SortedToK κ (arrOf t) (pairsOf vs).size→P (.done (.ret .none)) { s with heap:=sortedHeap s.heap a vs ((arrOf t).map (·.2)) }) :
  wpAny (model prog w) A (Builtin.«list.sort» ⟨[.ref a],[]⟩) P E s:=by
 rw [list_sort_plain]
 have ha:a < s.heap.objs.size:=Heap.lt_size ho
 obtain ⟨ah,g1⟩:∃ah,(s.heap.update a (Obj.mapSeq fun _=> #[])).get? a=some (seqObj "list" #[] ah):=⟨_,get?_update_seq ho (fun _=> #[])⟩
 refine wpAny_bind (listItems_at ho rfl (wpAny_bind (listUpdate_at ho rfl (wpAny_bind (seqEpoch_at g1 rfl (wpAny_bind (wpAny_newTuple (wpAny_bind (wpAny_newList (wpAny_holding ?_))))))))))
 have keep:∀b o,b≠a→s.heap.get? b=some o→(((s.heap.update a (Obj.mapSeq fun _=> #[])).push (seqObj "tuple" vs.toArray 0)).push (seqObj "list" #[] 0)).get? b=some o:=fun b o nb e=>
  Heap.get?_push_of_some _ (Heap.get?_push_of_some _ (by rw [Heap.get?_update_ne _ _ _ _ nb]; exact e))
 have kA:(((s.heap.update a (Obj.mapSeq fun _=> #[])).push (seqObj "tuple" vs.toArray 0)).push (seqObj "list" #[] 0)).get? a=some (seqObj "list" #[] ah):=Heap.get?_push_of_some _ (Heap.get?_push_of_some _ g1)
 show wpAny (model prog w) A _ P E { s with heap:=((s.heap.update a (Obj.mapSeq fun _=> #[])).push (seqObj "tuple" vs.toArray 0)).push (seqObj "list" #[] 0) }
 dsimp only
 by_cases z:vs.toArray.size < 2
 · rw [if_pos z,if_pos z]
   refine wpAny_bind (wpAny_pure ?_)
   rw [StateT.run_pure]
   refine wpAny_bind (wpAny_pure (wpAny_bind (seqEpoch_at kA rfl (wpAny_bind (listUpdate_at kA rfl ?_ (hsz2:=by rw [Array.size_map]; show (pairsOf vs).size≤_; rw [pairsOf_size,sizeLine_eq]; omega))))))
   simp only [bne_self_eq_false,Bool.false_eq_true,if_false]
   refine wpAny_pure (h (SortSt.mk' general' (vs.toArray.zip vs.toArray) #[] 7 none) (Array.Perm.refl _) fun i j c d=>?_)
   have z:vs.length < 2:=by simpa using z
   have:i=j:=by rw [pairsOf_size] at d; omega
   subst this; exact KeyOrd.kle_refl _
 · rw [if_neg z,if_neg z]
   have z:¬ vs.length < 2:=by simpa using z
   obtain ⟨k1,k2⟩:=hk _ keep (by intro e; subst e; simp at z)
   refine wpAny_bind (k1 _ (wpAny_bind (wpAny_mono (RZ (κ:=κ) k2 (st:=SortSt.mk' kd (vs.toArray.zip vs.toArray) #[] 7 none) (Q:=fun _ t=>(arrOf t).Perm (pairsOf vs)∧failedOf t=none∧SortedToK κ (arrOf t) (pairsOf vs).size)
    ⟨rfl,Array.Perm.refl _,rfl,rfl⟩ (by rw [pairsOf_size]; omega) (by rw [pairsOf_size]; exact nW) fun t a1 a2 fi=>⟨a1,a2,fi⟩) ?_ fun _ _ e=>e)))
   rintro ⟨⟨⟩,t⟩ s' ⟨rfl,hp,hf,hs⟩
   dsimp only
   refine wpAny_bind (seqEpoch_at kA rfl (wpAny_bind (listUpdate_at kA rfl ?_ (hsz2:=by refine Nat.le_trans (Nat.le_of_eq ((Array.size_map ..).trans (hp.size_eq.trans (pairsOf_size _)))) ?_; rw [sizeLine_eq]; omega))))
   rw [hf]
   simp only [bne_self_eq_false,Bool.false_eq_true,if_false]
   exact wpAny_pure (h t hp hs)
theorem Tf {l:Addr} {vs:List Value} {κ:KeyKind} {kd:SortKind} {Q:Value→Shared→Prop} (hl:s.heap.IsList l vs.toArray) (nW:vs.length < 64)
  (hk:∀(h':Heap) (oK:Around) (qG:Value→Shared→Prop),oK.units≤A.units + 8→(∀b o,s.heap.get? b=some o→h'.get? b=some o)→vs≠[]→(∀R:SortKind→Shared→Prop,R kd { s with heap:=h' }→wpAny (model prog w) oK (keyKind' vs.toArray) R qG { s with heap:=h' })∧km prog w oK { s with heap:=h' } kd κ (pairsOf vs))
  (h:∀t:SortSt,(arrOf t).Perm (pairsOf vs)→SortedToK κ (arrOf t) (pairsOf vs).size→Q (.ref (s.heap.objs.size + 1)) { s with heap:=sortedAll s.heap vs ((arrOf t).map (·.2)) }) :
  wpAny (model prog w) A (call (.builtin "sorted") [.ref l]) Q E s:=by
 refine Calls.call_function_entry kind_sorted plain_sorted entry_sorted (args_sorted1 _) ?_
 unfold Builtin.«sorted»
 refine wpAny_bind (m:=checkCount "sorted" 1 1 _) (wpAny_pure (wpAny_bind (collect_list hl (wpAny_bind (wpAny_newList ?_)))))
 have a5:((s.heap.push (seqObj "list" #[] 0)).update s.heap.objs.size (Obj.mapSeq (· ++ vs.toArray))).objs.size=s.heap.objs.size + 1:=by rw [Heap.size_update,size_push']
 have g:(((s.heap.push (seqObj "list" #[] 0)).update s.heap.objs.size (Obj.mapSeq (· ++ vs.toArray))).push (seqObj "list" vs.toArray 0)).get? (s.heap.objs.size + 1)=some (seqObj "list" vs.toArray 0):=by
  rw [←a5]; exact Heap.get?_push_size _ rfl
 have keep:∀b o,s.heap.get? b=some o→(((s.heap.push (seqObj "list" #[] 0)).update s.heap.objs.size (Obj.mapSeq (· ++ vs.toArray))).push (seqObj "list" vs.toArray 0)).get? b=some o:=fun b o e=>
  Heap.get?_push_of_some _ (by rw [Heap.get?_update_ne _ _ _ _ (Nat.ne_of_lt (Heap.lt_size e))]; exact Heap.get?_push_of_some _ e)
 show wpAny _ _ _ _ _ { s with heap:=((s.heap.push (seqObj "list" #[] 0)).update s.heap.objs.size (Obj.mapSeq (· ++ vs.toArray))).push (seqObj "list" vs.toArray 0) }
 rw [a5]
 refine wpAny_bind (wpAny_holding (wpAny_call_entry slot_list_sort ⟨_,g,rfl⟩ entry_list_sort (Am g nW (fun h' k ne=>hk h' _ _ (by simp only [Around.in1_units]; omega) (fun b o e=>k b o (fun z=>absurd (z ▸ Heap.lt_size e) (by
  have:=Heap.lt_size e
  exact fun q=>absurd q (Nat.not_lt.mpr (Nat.le_succ _)))) (keep b o e)) ne) fun t a1 a2=>⟨_,rfl,?_⟩) (args_list_sort _)))
 exact wpAny_pure ⟨_,rfl,h t a1 a2⟩
end
end LT
set_option linter.all false
set_option autoImplicit false
namespace LT
open PySem PyProof.Rows
noncomputable def i0 (a b:Int×Int×Int):Bool:= !ltI (fK b) (fK a)
noncomputable def kN (ks:List (Int×Int×Int)):List (Int×Int×Int):=ks.mergeSort i0
theorem sF (ks:List (Int×Int×Int)):(kN ks).Perm ks:=List.mergeSort_perm _ _
theorem Lf {a b:Int×Int×Int} (h:fK a=fK b):a=b:=by
 obtain ⟨a1,a2,fi⟩:=a
 obtain ⟨c0,cN,hV⟩:=b
 simp only [fK,List.cons.injEq,and_true] at h
 simp only [Prod.mk.injEq]; exact h
theorem OY (a b c:Int×Int×Int) (h1:i0 a b=true) (h2:i0 b c=true):i0 a c=true:=by
 unfold i0 at *
 cases e:ltI (fK c) (fK a) with
 | false=>rfl
 | true=>
   rcases EN _ (fK b) _ e with z | z
   · rw [z] at h2; cases h2
   · rw [z] at h1; cases h1
theorem OX (a b:Int×Int×Int):(i0 a b || i0 b a)=true:=by
 unfold i0
 cases e:ltI (fK b) (fK a) with
 | false=>rfl
 | true=>
   cases aw:ltI (fK a) (fK b) with
   | false=>rfl
   | true=>have:=uM _ _ _ e aw; rw [yO] at this; cases this
theorem Tj {ks l:List (Int×Int×Int)} (p:l.Perm ks) (h:l.Pairwise fun a b=>i0 a b=true):l=kN ks:=
 List.Perm.eq_of_pairwise (le:=fun a b=>i0 a b=true) (fun a b _ _ h1 h2=>by
  unfold i0 at h1 h2
  exact Lf (uL _ _ (by simpa using h2) (by simpa using h1))) h (List.pairwise_mergeSort OY OX ks) (p.trans (sF ks).symm)
section
variable {prog:Program} {w:World} {A:Around} {E:Value→Shared→Prop} {s:Shared}
theorem Te {l:Addr} {vs:List Value} {ks:List (Int×Int×Int)} {Q:Value→Shared→Prop} (hu:A.units + 64 < cLine) (hl:s.heap.IsList l vs.toArray) (nW:vs.length < 64) (aN:vs.length=ks.length) (hk:∀(i:Nat) v k,vs[i]? =some v→ks[i]? =some k→gQ prog w s.heap v k)
  (h:∀iq:List Value,iq.length=vs.length→(∀(i:Nat) v k,iq[i]? =some v→(kN ks)[i]? =some k→v∈vs∧gQ prog w s.heap v k)→Q (.ref (s.heap.objs.size + 1)) { s with heap:=sortedAll s.heap vs iq.toArray }) :
  wpAny (model prog w) A (call (.builtin "sorted") [.ref l]) Q E s:=by
 classical
 have all:∀v∈vs,∃k,gQ prog w s.heap v k:=fun v hv=>by
  obtain ⟨i,hi,rfl⟩:=List.getElem_of_mem hv
  exact ⟨_,hk i _ _ (List.getElem?_eq_getElem hi) (List.getElem?_eq_getElem (by omega))⟩
 obtain ⟨lC,mJ⟩:∃lC:Value→Int×Int×Int,∀v∈vs,gQ prog w s.heap v (lC v):=⟨fun v=>if q:∃k,gQ prog w s.heap v k then Classical.choose q else default,fun v hv=>by
  have q:=all v hv
  simp only [dif_pos q]; exact Classical.choose_spec q⟩
 have KU:ks=vs.map lC:=by
  apply List.ext_getElem?
  intro i
  rw [List.getElem?_map]
  cases e:vs[i]? with
  | none=>rw [List.getElem?_eq_none_iff] at e; simp; omega
  | some v=>
    have hi:=(List.getElem?_eq_some_iff.mp e).1
    have aw:ks[i]? =some ks[i]:=List.getElem?_eq_getElem (by omega)
    rw [aw,(hk i v _ e aw).inj (mJ v (List.mem_of_getElem? e))]; rfl
 have pm:∀p∈(pairsOf vs).toList,p.1=p.2∧p.1∈vs:=fun p hp=>by rw [pairsOf_toList] at hp; exact mem_zip_self hp
 refine Tf (κ:=uH prog w s.heap) (kd:=tuples' true) hl nW (fun h' oK qG hZ aC ne=>⟨fun R rn=>?_,⟨fun V0 x y V3 hx cg fC=>?_⟩⟩) fun t hp hs=>?_
 · have g:∀v∈vs,∃u,(∃a o m r,v=Value.ref a∧h'.get? a=some o∧o.cls= .type "tuple"∧o.data= .seq (u::r).toArray m)∧Shared.TypeIs { s with heap:=h' } u "int":=fun v hv=>by
    obtain ⟨a,o,m,b,t,e,ho,hc,hd,hb⟩:=((mJ v hv).mono aC).ex
    exact ⟨_,⟨a,o,m,[.ref b],e,ho,hc,hd⟩,typeIs_int _ _ _⟩
   obtain ⟨uh,DL⟩:∃uh:Value→Value,∀v∈vs,(∃a o m r,v=Value.ref a∧h'.get? a=some o∧o.cls= .type "tuple"∧o.data= .seq (uh v::r).toArray m)∧Shared.TypeIs { s with heap:=h' } (uh v) "int":=⟨fun v=>if q:∃u,(∃a o m r,v=Value.ref a∧h'.get? a=some o∧o.cls= .type "tuple"∧o.data= .seq (u::r).toArray m)∧Shared.TypeIs { s with heap:=h' } u "int" then Classical.choose q else .none,fun v hv=>by
    have q:=g v hv
    simp only [dif_pos q]; exact Classical.choose_spec q⟩
   exact Oc (s:={ s with heap:=h' }) (g:=uh) (T:="int") ne (fun v hv=>(DL v hv).1) (fun v hv=>(DL v hv).2) rn
 · obtain ⟨_,dP⟩:=pm x hx
   obtain ⟨_,fU⟩:=pm y cg
   rw [yG (mJ _ dP),yG (mJ _ fU)] at fC
   exact O6 (s:={ s with heap:=h' }) (by omega) ((mJ _ dP).mono aC) ((mJ _ fU).mono aC) fC
 · obtain ⟨iq,ev⟩:∃iq:List Value,iq=(arrOf t).toList.map (·.2):=⟨_,rfl⟩
   have KY:(arrOf t).map (·.2)=iq.toArray:=by rw [ev]; apply Array.ext'; simp
   have lE:(arrOf t).toList.Perm (pairsOf vs).toList:=Array.perm_iff_toList_perm.mp hp
   have J1:∀p∈(arrOf t).toList,p.1=p.2∧p.1∈vs:=fun p hp=>pm p (lE.mem_iff.mp hp)
   have vh:iq.Perm vs:=by
    rw [ev]
    have:=lE.map (·.2)
    rw [pairsOf_toList] at this
    have e:(vs.zip vs).map (·.2)=vs:=by
     have:∀l:List Value,(l.zip l).map (·.2)=l:=fun l=>by induction l with
      | nil=>rfl
      | cons a l b8=>simp [b8]
     exact this vs
    rwa [e] at this
   have Ti:(iq.map lC).Pairwise fun a b=>i0 a b=true:=by
    rw [List.pairwise_iff_getElem]
    intro i j hi cD LO
    have li:i < (arrOf t).toList.length:=by rw [ev] at hi; simpa using hi
    have O3:j < (arrOf t).toList.length:=by rw [ev] at cD; simpa using cD
    have S4:i < (arrOf t).size:=by simpa using li
    have Gj:j < (arrOf t).size:=by simpa using O3
    have q:=hs i j (Nat.le_of_lt LO) (by rw [←hp.size_eq]; exact Gj)
    have b0:∀n (aN:n < (arrOf t).size),KK (uH prog w s.heap) (arrOf t) n=fK (lC (arrOf t)[n].2):=fun n aN=>by
     have m:=J1 (arrOf t)[n] (by simp)
     unfold KK
     rw [Array.getElem?_eq_getElem aN]
     show ((uH prog w s.heap).keyOf (arrOf t)[n].1).getD _=_
     rw [yG (mJ _ m.2),m.1]; rfl
    rw [b0 i S4,b0 j Gj] at q
    have q:ltI (fK (lC (arrOf t)[j].2)) (fK (lC (arrOf t)[i].2))=false:=q
    unfold i0
    simp only [ev,List.getElem_map,Array.getElem_toList]
    rw [q]; rfl
   have ae:iq.map lC=kN ks:=Tj (by rw [KU]; exact vh.map lC) Ti
   rw [KY]
   refine h iq vh.length_eq fun i v k ah aw=>?_
   have mv:v∈vs:=vh.mem_iff.mp (List.mem_of_getElem? ah)
   rw [←ae,List.getElem?_map,ah] at aw
   simp at aw
   exact ⟨mv,by rw [←aw]; exact mJ v mv⟩
end
end LT
set_option Elab.async false
set_option linter.all false
set_option maxRecDepth 100000
set_option autoImplicit false
namespace aZ
open PySem PySem.Spec PyProof.Rows
section
variable {X:aG}
noncomputable def iK (H:J) (y:V) (k:Int×Int×Int):Prop:=∃a b,y= .ref a∧H a=some (.tup [.int k.1,.ref b])∧H b=some (.tup [.int k.2.1,.int k.2.2])
theorem Eu {pins:List (Addr×Obj)} {σ :St} {H:J} {s:Shared} {y:V} {u:Value} {k:Int×Int×Int} (I:Inv X pins σ H s) (r:RelV y u) (h:iK H y k):LT.gQ X.prog X.w s.heap u k:=by
 obtain ⟨a,b,rfl,ha,hb⟩:=h
 cases r
 obtain ⟨_,its,v1,o,ho,hc,n,hd⟩:=(show en X.prog X.w H s.heap a (.tup _) from I.bk a _ ha)
 obtain ⟨_,dY,v2,b3,LZ,mH,c_,hd2⟩:=(show en X.prog X.w H s.heap b (.tup _) from I.bk b _ hb)
 cases v1 with
 | cons d2 t1=>
   cases t1 with
   | cons dP dV=>
     cases dV
     obtain ⟨t,rfl⟩:=d2
     cases dP
     cases v2 with
     | cons fu lW=>
       cases lW with
       | cons fU kR=>
         cases kR
         obtain ⟨t1,rfl⟩:=fu
         obtain ⟨dV,rfl⟩:=fU
         exact ⟨a,o,n,b,t,rfl,ho,hc,hd,b3,_,c_,LZ,mH,hd2,.cons (intKind_is _ _ _ _) (.cons (intKind_is _ _ _ _) .nil)⟩
noncomputable def RH (K:PySem.W.Frag):List V→J→b9→Prop:=fun xs H Q=>∃p ys ks,xs=[.ref p]∧bI K H p ys∧ys.length < 64∧ys.length=ks.length∧(∀(i:Nat) y k,ys[i]? =some y→ks[i]? =some k→iK H y k)∧
 ∀l zs,H l=none→zs.length=ys.length→(∀(i:Nat) z k,zs[i]? =some z→(LT.kN ks)[i]? =some k→z∈ys∧iK H z k)→Q (.ref l) (upd H l (.lst zs))
theorem iK.inj {H:J} {y:V} {k k':Int×Int×Int} (x:iK H y k) (z:iK H y k'):k=k':=by
 obtain ⟨a,b,rfl,ha,hb⟩:=x
 obtain ⟨la,hT,e,js,mG⟩:=z
 cases e
 rw [ha] at js
 simp only [Option.some.injEq,cY.tup.injEq,List.cons.injEq,V.int.injEq,V.ref.injEq,and_true] at js
 obtain ⟨ah,rfl⟩:=js
 rw [hb] at mG
 simp only [Option.some.injEq,cY.tup.injEq,List.cons.injEq,V.int.injEq,and_true] at mG
 obtain ⟨k1,k2,k3⟩:=k
 obtain ⟨NN,NO,NP⟩:=k'
 simp only [Prod.mk.injEq]
 exact ⟨ah,mG⟩
theorem Hr {κ:Type} {R:V→κ→Prop}:∀{vs:List Value} {ks:List κ},vs.length=ks.length→(∀(i:Nat) v k,vs[i]? =some v→ks[i]? =some k→∃z,RelV z v∧R z k)→∃zs,Vals zs vs∧zs.length=vs.length∧∀(i:Nat) z k,zs[i]? =some z→ks[i]? =some k→R z k
 | [],_,_,_=>⟨[],.nil,rfl,fun i z k e=>by simp at e⟩
 | v::vs,[],h,_=>by simp at h
 | v::vs,k::ks,h,g=>by
   obtain ⟨z,a6,aX⟩:=g 0 v k rfl rfl
   obtain ⟨zs,eV,eu,gx⟩:=Hr (vs:=vs) (ks:=ks) (by simpa using h) fun i v k ah aw=>g (i + 1) v k (by simpa using ah) (by simpa using aw)
   refine ⟨z::zs,.cons a6 eV,by simp [eu],fun i fe k' ah aw=>?_⟩
   cases i with
   | zero=>simp at ah aw; subst ah aw; exact aX
   | succ i=>exact gx i fe k' (by simpa using ah) (by simpa using aw)
theorem Jh (hu:X.A.units + 64 < cLine):gz X (.builtin "sorted") (RH X.K):=by
 intro pins s σ H xs us Q I r h
 obtain ⟨p,ys,ks,rfl,aD,aN,hk,DO,q⟩:=h
 obtain ⟨u,rfl,bh⟩:=vals1 r
 cases bh
 obtain ⟨its,a4,pl,a5⟩:=I.list aD
 have hlen:=a4.length
 refine LT.Te (ks:=ks) hu pl.isList (by omega) (by omega) (fun i v k ah aw=>?_) fun iq ON g=>?_
 · obtain ⟨y,dq,bT⟩:∃y,ys[i]? =some y∧RelV y v:=by
    have hi:i < ys.length:=by rw [hlen]; exact (List.getElem?_eq_some_iff.mp ah).1
    obtain ⟨jK,bY,bN⟩:=a4.get (List.getElem?_eq_getElem hi)
    rw [ah] at bY; cases bY
    exact ⟨_,List.getElem?_eq_getElem hi,bN⟩
   exact Eu I bT (DO i y k dq aw)
 · have back:∀v∈its,∃y∈ys,RelV y v:=fun v hv=>by
    obtain ⟨i,hi,rfl⟩:=List.getElem_of_mem hv
    have rt:i < ys.length:=by omega
    obtain ⟨jK,bY,bN⟩:=a4.get (List.getElem?_eq_getElem rt)
    rw [List.getElem?_eq_getElem hi] at bY; cases bY
    exact ⟨_,List.getElem_mem rt,bN⟩
   have find:∀y∈ys,∃k,iK H y k:=fun y cg=>by
    obtain ⟨j,cD,rfl⟩:=List.getElem_of_mem cg
    exact ⟨_,DO j _ _ (List.getElem?_eq_getElem cD) (List.getElem?_eq_getElem (by omega))⟩
   obtain ⟨zs,eV,eu,gx⟩:=Hr (R:=fun z k=>z∈ys∧iK H z k) (vs:=iq) (ks:=LT.kN ks) (by rw [ON,(LT.sF ks).length_eq]; omega) fun i v k ah aw=>by
    obtain ⟨g1,g2⟩:=g i v k ah aw
    obtain ⟨y,fu,fU⟩:=back v g1
    obtain ⟨k',DM⟩:=find y fu
    have:=(Eu I fU DM).inj g2
    subst this
    exact ⟨y,fU,fu,DM⟩
   obtain ⟨dB,he⟩:=sortedAll_at s.heap its iq.toArray
   refine ⟨.ref (s.heap.objs.size + 1),_,I.laid (a:=s.heap.objs.size + 1) (t':=s.toks) (fun b o e=>sortedAll_old e) (Nat.le_succ _) (show en X.prog X.w _ _ _ (.lst zs) from ⟨by rw [sizeLine_eq]; omega,iq,dB,eV,he⟩),rfl,q _ zs (I.bk.fresh (Nat.le_succ _)) (by omega) gx⟩
noncomputable def RE:V→List V→J→b9→Prop:=fun x vs H Q=>∃l xs i y,x= .ref l∧vs=[.int i,y]∧H l=some (.lst xs)∧0≤i∧i < 2 ^ 63∧xs.length < sizeLine∧Q .non (upd H l (.lst (xs.take (min i.toNat xs.length) ++ y::xs.drop (min i.toNat xs.length))))
theorem Pt:wo X "list.insert" RE:=by
 intro pins s σ H x vs v us Q I bh bN h
 obtain ⟨l,xs,i,y,rfl,rfl,hz,h1,h2,a5,q⟩:=h
 cases bh
 obtain ⟨u,kR,rfl,⟨t,rfl⟩,ed⟩:∃u kR,us=[u,kR]∧RelV (.int i) u∧RelV y kR:=by
  cases bN with
  | cons a1 c0=>cases c0 with
    | cons a2 cN=>cases cN; exact ⟨_,_,rfl,a1,a2⟩
 obtain ⟨z,its,n,r,hl,e⟩:=I.n2 hz
 refine call_meets F.slot_list_insert ⟨_,e,rfl⟩ F.entry_list_insert (F.args_list_insert_3 _ _ _) (AutoListH.list_insert_list_int_val_1 l its.toArray n i t kR (by rw [fitsIndex_both (by omega) h2]; simp) (by rw [List.size_toArray]; omega)) ⟨e,?_⟩
 refine ⟨.non,_,I.yN (its':=its.take (min i.toNat xs.length) ++ kR::its.drop (min i.toNat xs.length)) hz e ?_ ((r.take _).append (.cons ed (r.drop _))) ?_,rfl,q⟩
 · dsimp only
   rw [if_neg (by omega),List.size_toArray,←hl]
   apply Array.ext'
   simp [List.extract_eq_take_drop]
   exact List.take_of_length_le (by rw [List.length_drop]; omega)
 · rw [List.length_append,List.length_cons,List.length_take,List.length_drop]; omega
end
end aZ
namespace aA
open PySem PySem.Spec aZ PyProof.Rows
section
variable {X:aG} {F:bf} {e a b c:Expr} {ae:List Expr} {pos p:Pos} {m n:ay} {ma:aK}
noncomputable def N7:D→Option Key
 | .int i=>some (.inl i)
 | .str x=>some (.inr x)
 | _=>none
noncomputable def keysOf:List D→Option (List Key)
 | []=>some []
 | d::ds=>match N7 d,keysOf ds with
   | some k,some ks=>some (k::ks)
   | _,_=>none
noncomputable def Uk:D→Option (List Key)
 | .tup ds=>keysOf ds
 | _=>none
noncomputable def G4:List D→Option (List (List Key))
 | []=>some []
 | d::ds=>match Uk d,G4 ds with
   | some k,some ks=>some (k::ks)
   | _,_=>none
noncomputable def WV:List D→R D
 | [.lst ds]=>if ds.length < 77 then match G4 ds with
   | some ks=> .ok (.int (gD.JG ks).length)
   | none=> .bad
   else .bad
 | _=> .bad
noncomputable def rO (i:Nat) (m:ay):gi:=fun ρ=>(ownAt i ρ).bind fun ds=>(m ρ).bind fun d=>match d with
 | .lst ae=>if ds.length + ae.length≤1000000 then .ok (.non,ρ.set i (.df (ds ++ ae))) else .bad
 | _=> .bad
theorem Vd (i:Nat) {x:Str} {bg:Pos} {apos:Pos} {bS:Pos} (he:aV X F e m) (hN:X.N[i]? =some x:=by rfl) (hv:fG X.env.scope x:=by first | exact Or.inl rfl | exact Or.inr (Or.inl rfl) | exact Or.inr (Or.inr rfl)) (hd:(x == ("__debug__" :Str))=false:=by decide) (hcd:(x == ("__classdict__" :Str))=false:=by decide)
  (hbase:attributeBase (.Name x bg) "extend" X.env (eval (.Name x bg) X.env)=eval (.Name x bg) X.env:=by rfl) (hline:(apos.endLine == bS.line)=true:=by rfl)
  (hfew:((backTo bS (starEach [e] X.env)).all (fun x=> !x.1) && (backToKw bS (keywordEach [] X.env)).all (fun x=>x.1.isSome)
    && decide (([e]:List Expr).length + ([]:List Keyword).length + (if ([]:List Keyword).isEmpty then 0 else 1) < 30))=true:=by rfl)
  (hs:starEach [e] X.env=(false,eval e X.env)::starEach [] X.env:=by rfl) (hplain:(backTo bS (starEach [] X.env)).any (·.1)=false:=by rfl) :
  Bs X F (.Call (.Attribute (.Name x bg) "extend" apos) [e] [] bS) (rO i m):=by
 refine ⟨aS.imp (si PySem.F.plainAttrs_list PySem.F.slot_list_extend PySem.F.type_list_extend Pq (jE hN hv hd hcd) (i7 he.1 lN hs) hbase hfew hline hs hplain) ?_⟩
 rintro σ H Q ⟨G,ρ,r,h⟩
 unfold rO ownAt at h
 cases cJ:ρ[i]? with
 | none=>rw [cJ] at h; exact h.elim
 | some s=>
   rw [cJ] at h
   cases s with
   | un=>exact h.elim
   | ax _=>exact h.elim
   | dm _=>exact h.elim
   | aU aU=>
    cases aU with
    | bx _ _=>exact h.elim
    | ins _ _ _=>exact h.elim
    | lst ds=>
     obtain ⟨q,xs,ah,h1,h2,h3,h4⟩:=r.own cJ
     rw [R.bo] at h
     refine ⟨.ref q,ah,.inl ⟨rfl,xs,bI.of h1⟩,G,ρ,r,?_⟩
     cases av:m ρ with
     | bad=>rw [av] at h; exact h.elim
     | exc c=>rw [av] at h; exact h
     | ok d=>
       rw [av,R.bo] at h
       intro v H1 aM ao s1 bc
       obtain ⟨cS,gd,gm,cC,b_,Dv,mF⟩:=ao.own cJ
       rw [ah] at gm
       cases gm
       cases d with
       | lst ae=>
         simp only at h
         split at h
         · rename_i hl
           simp only [At] at bc
           obtain ⟨bM,ys,rfl,g2,bG⟩:=bc
           refine ⟨q,bM,gd,ys,rfl,rfl,cC,ao.aC.sub _ _ g2,by rw [←mF.length,←bG.length,sizeLine_eq]; omega,?_⟩
           exact h .non _ aM (ao.mut cJ ah (mF.append bG)) s1.g (by simp only [At])
         · exact h.elim
       | _=>exact h.elim
noncomputable def EV (i:Nat) (m n:ay):gi:=fun ρ=>(ownAt i ρ).bind fun ds=>(m ρ).bind fun d=>(n ρ).bind fun y=>match d with
 | .int k=>if 0≤k∧k < 2 ^ 63∧ds.length < 1000000 then .ok (.non,ρ.set i (.df (ds.take (min k.toNat ds.length) ++ y::ds.drop (min k.toNat ds.length)))) else .bad
 | _=> .bad
noncomputable def ET (ma:aK) (m:ay):aK:=fun ρ=>(ma ρ).bind fun ds=>(m ρ).bind fun d=>match d with
 | .lst ae=>if ds.length + ae.length≤1000000 then .ok (ds ++ ae) else .bad
 | _=> .bad
noncomputable def ES (m n:ay):aK:=fun ρ=>(m ρ).bind fun c=>(n ρ).bind fun d=>match c,d with
 | .lst ds,.lst ae=>if ds.length + ae.length≤1000000 then .ok (ds ++ ae) else .bad
 | _,_=> .bad
noncomputable def pn (k:Int×Int×Int):D:= .tup [.int k.1,.tup [.int k.2.1,.int k.2.2]]
noncomputable def yB:D→Option (Int×Int×Int)
 | .tup [.int n,.tup [.int h,.int d]]=>some (n,h,d)
 | _=>none
noncomputable def n1:List D→Option (List (Int×Int×Int))
 | []=>some []
 | d::ds=>match yB d,n1 ds with
   | some k,some ks=>some (k::ks)
   | _,_=>none
noncomputable def sD:List D→R (List D)
 | [.lst ds]=>if ds.length < 64 then match n1 ds with
   | some ks=> .ok ((LT.kN ks).map pn)
   | none=> .bad
   else .bad
 | _=> .bad
noncomputable def uS (m:aK):aK:=fun ρ=>(m ρ).bind sD
theorem NY {d:D} {k:Int×Int×Int} (h:yB d=some k):d=pn k:=by
 unfold yB at h
 split at h
 · cases h; rfl
 · cases h
theorem Ca {K:PySem.W.Frag} {G:J} {v:V} {k:Int×Int×Int}:At K G (pn k) v↔iK G v k:=by
 unfold pn iK
 simp only [At,aE]
 constructor
 · rintro ⟨a,xs,rfl,g,v1,ao,rfl,rfl,v2,a_,rfl,⟨b,ys,rfl,g2,eV,s1,rfl,rfl,eu,s2,rfl,rfl,rfl⟩,rfl⟩
   exact ⟨a,b,rfl,g,g2⟩
 · rintro ⟨a,b,rfl,g,g2⟩
   exact ⟨a,_,rfl,g,_,_,rfl,rfl,_,_,rfl,⟨b,_,rfl,g2,_,_,rfl,rfl,_,_,rfl,rfl,rfl⟩,rfl⟩
theorem Es:∀{ds:List D} {ks:List (Int×Int×Int)},n1 ds=some ks→ds=ks.map pn
 | [],ks,h=>by simp only [n1] at h; cases h; rfl
 | d::ds,ks,h=>by
   simp only [n1] at h
   split at h
   · rename_i k WQ ah aw
     cases h
     rw [NY ah,Es aw]; rfl
   · cases h
theorem BB {K:PySem.W.Frag} {G:J}:∀{ds:List D} {xs:List V},xs.length=ds.length→(∀(i:Nat) x d,xs[i]? =some x→ds[i]? =some d→At K G d x)→aE K G ds xs
 | [],[],_,_=> .nil
 | [],_::_,h,_=>by simp at h
 | _::_,[],h,_=>by simp at h
 | d::ds,x::xs,h,g=> .cons (g 0 x d rfl rfl) (BB (by simpa using h) fun i x d ah aw=>g (i + 1) x d (by simpa using ah) (by simpa using aw))
theorem Vw (hu:X.A.units + 64 < cLine) (hm:X.mg "sorted"=none) (ha:e_ X F [e] ma) (hK:F.K=X.K:=by rfl) (hg:cv X "sorted":=by rfl) (he:starEach [e] X.env=(false,eval e X.env)::starEach [] X.env:=by rfl) (hpl:(backTo pos (starEach [] X.env)).any (·.1)=false:=by rfl) :
  jX X F (.Call (.Name "sorted" p) [e] [] pos) (uS ma):=by
 refine ⟨aS.imp (sj (Jh hu) hg hm (by kernel_rfl) ha.1 (by decide) (by decide) he hpl) ?_⟩
 rintro σ H Q ⟨G,ρ,r,h⟩
 unfold uS at h
 refine ⟨G,ρ,r,?_⟩
 cases av:ma ρ with
 | bad=>rw [av] at h; exact h.elim
 | exc c=>rw [av] at h; exact h
 | ok ds=>
   rw [av,R.bo] at h
   intro vs H1 aM ao s1 a
   unfold sD at h
   split at h
   · split at h
     · split at h
       · rename_i ks dD
         obtain ⟨v,rfl,bc⟩:=a.one
         simp only [At] at bc
         obtain ⟨q,xs,rfl,aD,fH⟩:=bc
         have hd:=Es dD
         subst hd
         have hl:=fH.length
         rw [List.length_map] at hl
         have Ey:∀(i:Nat) y k,xs[i]? =some y→ks[i]? =some k→iK aM y k:=fun i y k ah aw=>by
          obtain ⟨qt,bK,c8⟩:=fH.get (i:=i) (d:=pn k) (by rw [List.getElem?_map,aw]; rfl)
          rw [ah] at bK; cases bK
          exact Ca.mp c8
         have up:∀{y k},iK aM y k→iK H1 y k:=fun ⟨a,b,e,g1,g2⟩=>⟨a,b,e,ao.aC.sub _ _ g1,ao.aC.sub _ _ g2⟩
         rename_i _ e3
         rw [List.length_map] at e3
         refine ⟨q,xs,ks,rfl,bI.of (ao.aC.sub _ _ aD),by omega,by omega,fun i y k ah aw=>up (Ey i y k ah aw),fun l zs pA a5 hg=>?_⟩
         have W7:(LT.kN ks).length=ks.length:=(LT.sF ks).length_eq
         refine h l zs _ aM (ao.lay0 pA) (s1.trans (b2.lay0 pA)) (s1.h.gone pA) dv (ao.aC.sub.gone pA) (BB (by rw [List.length_map]; omega) fun i z d ah aw=>?_)
         rw [List.getElem?_map] at aw
         cases bK:(LT.kN ks)[i]? with
         | none=>rw [bK] at aw; cases aw
         | some k=>
           rw [bK] at aw
           cases aw
           obtain ⟨m1,m2⟩:=hg i z k ah bK
           obtain ⟨j,cD,rfl⟩:=List.getElem_of_mem m1
           have g1:=Ey j _ _ (List.getElem?_eq_getElem cD) (List.getElem?_eq_getElem (by omega))
           rw [(up g1).inj m2] at g1
           exact Ca.mpr g1
       · exact h.elim
     · exact h.elim
   · exact h.elim
noncomputable def O_ (k:Str) (i:Int):ay:=fun _=> .ok (.cL [.inr k] [.int i])
end
end aA
set_option Elab.async false
set_option linter.all false
set_option maxRecDepth 100000
set_option autoImplicit false
namespace aA
open PySem PySem.Spec aZ PyProof.Rows
section
variable {X:aG} {F:bf} {e a b c:Expr} {ae:List Expr} {pos p:Pos} {m n:ay} {ma:aK}
theorem aE.Gd {K:PySem.W.Frag} {G:J}:∀{ds:List D} {xs:List V} {j:Nat} {d:D} {v:V},aE K G ds xs→At K G d v→aE K G (ds.set j d) (xs.set j v)
 | [],_,_,_,_,h,_=>by simp only [aE] at h; subst h; simp [aE]
 | _::_,_,0,_,_,h,a=>by
   simp only [aE] at h
   obtain ⟨v,r,rfl,q,t⟩:=h
   exact .cons a t
 | _::_,_,j + 1,_,_,h,a=>by
   simp only [aE] at h
   obtain ⟨v,r,rfl,q,t⟩:=h
   exact .cons q (aE.Gd t a)
noncomputable def putN (i:Nat) (ρ:ai) (ds:List D) (v:D):Option Nat→R e6
 | some j=> .ok (.a9 (ρ.set i (.df (ds.set j v))))
 | none=> .bad
noncomputable def putK (i:Nat) (ρ:ai) (ds:List D) (v:D):D→R e6
 | .int j=>putN i ρ ds v (fN ds.length j)
 | _=> .bad
noncomputable def pV (i:Nat) (mk mv:ay):a0:=fun ρ=>(mv ρ).bind fun v=>(ownAt i ρ).bind fun ds=>(mk ρ).bind fun k=>putK i ρ ds v k
theorem A4 (i:Nat) {x:Str} {bg pos':Pos} {k v:Expr} {mk mv:ay} (hk:aV X F k mk) (hv:aV X F v mv) (hN:X.N[i]? =some x:=by rfl) (hvs:fG X.env.scope x:=by first | exact Or.inl rfl | exact Or.inr (Or.inl rfl) | exact Or.inr (Or.inr rfl)) (hd:(x == ("__debug__" :Str))=false:=by decide) (hcd:(x == ("__classdict__" :Str))=false:=by decide)
  (hs:swapsWithSole [.Subscript (.Name x bg) k pos'] v pos.line X.env=pure false:=by rfl) (hw:swappedStores [.Subscript (.Name x bg) k pos'] v X.env=pure none:=by rfl)
  (h1:(assignEach [.Subscript (.Name x bg) k pos'] X.env).map (·.2)=[assign (.Subscript (.Name x bg) k pos') X.env]:=by rfl)
  (ha:∀u,assign (.Subscript (.Name x bg) k pos') X.env u=(do
    let dU ←holding [u] (eval (.Name x bg) X.env)
    let gY ←holding [u,dU] (eval k X.env)
    standAt pos'
    holding [u,dU,gY] (setItem dU gY u)
    release [u,dU,gY] []):=by intro _; rfl) :
  d6 X F (.Assign [.Subscript (.Name x bg) k pos'] v pos) (pV i mk mv):=by
 refine ⟨cK.imp (Rb hv.1 (Q0 (jE hN hvs hd hcd) hk.1 set_list ha) hs hw h1) ?_⟩
 rintro b6 σ H ⟨G,ρ,r,h⟩
 unfold pV at h
 refine ⟨G,ρ,r,?_⟩
 cases ev:mv ρ with
 | bad=>rw [ev] at h; exact h.elim
 | exc c=>rw [ev] at h; exact h
 | ok d=>
   rw [ev,R.bo] at h
   intro u H1 aM ao s1 oZ
   cases cJ:ownAt i ρ with
   | bad=>rw [cJ] at h; exact h.elim
   | exc c=>exact (Qt cJ).elim
   | ok ds=>
     rw [cJ,R.bo] at h
     have ct:=Qu cJ
     obtain ⟨q,xs,ah,h1,h2,h3,h4⟩:=ao.own ct
     refine ⟨.ref q,ah,aM,ρ,ao,?_⟩
     cases dD:mk ρ with
     | bad=>rw [dD] at h; exact h.elim
     | exc c=>rw [dD] at h; exact h
     | ok kd=>
       rw [dD,R.bo] at h
       intro w aH cb a_ s2 iN
       obtain ⟨cS,gd,gm,cC,b_,Dv,mF⟩:=a_.own ct
       rw [ah] at gm
       cases gm
       cases kd with
       | int j=>
         simp only [putK] at h
         simp only [At] at iN
         cases iy:fN ds.length j with
         | none=>rw [iy] at h; exact h.elim
         | some n=>
           rw [iy] at h
           simp only [putN] at h
           refine ⟨q,gd,j,n,rfl,iN,cC,by rw [←mF.length]; exact iy,?_⟩
           exact h _ cb _ (a_.mut ct ah (mF.Gd (oZ.mono s2.g))) (s1.trans s2).g
       | _=>exact h.elim
noncomputable def wI (i:Nat) (ρ:ai) (ts:List T) (m:ay):Option Nat→R e6
 | some j=>match ts[j]? with
   | some (.lst us)=>(m ρ).bind fun d=>if us.length < 1000000 then .ok (.a9 (ρ.set i (.dm (.lst (ts.set j (.lst (us ++ [.ax d]))))))) else .bad
   | _=> .bad
 | none=> .bad
noncomputable def qT (i:Nat) (ρ:ai) (ts:List T) (m:ay):D→R e6
 | .int j=>wI i ρ ts m (fN ts.length j)
 | _=> .bad
noncomputable def uN (i:Nat) (mk m:ay):a0:=fun ρ=>(jJ i ρ).bind fun ts=>(mk ρ).bind fun k=>qT i ρ ts m k
theorem Vy (i:Nat) {x:Str} {bg qe pos':Pos} {apos bS:Pos} {k:Expr} {mk:ay} (hk:aV X F k mk) (yc:oQ k) (he:aV X F e m) (hN:X.N[i]? =some x:=by rfl) (hv:fG X.env.scope x:=by first | exact Or.inl rfl | exact Or.inr (Or.inl rfl) | exact Or.inr (Or.inr rfl)) (hd:(x == ("__debug__" :Str))=false:=by decide) (hcd:(x == ("__classdict__" :Str))=false:=by decide)
  (hbase:attributeBase (.Subscript (.Name x bg) k pos') "append" X.env (eval (.Subscript (.Name x bg) k pos') X.env)=eval (.Subscript (.Name x bg) k pos') X.env:=by rfl) (hline:(apos.endLine == bS.line)=true:=by rfl)
  (hfew:((backTo bS (starEach [e] X.env)).all (fun x=> !x.1) && (backToKw bS (keywordEach [] X.env)).all (fun x=>x.1.isSome)
    && decide (([e]:List Expr).length + ([]:List Keyword).length + (if ([]:List Keyword).isEmpty then 0 else 1) < 30))=true:=by rfl)
  (hs:starEach [e] X.env=(false,eval e X.env)::starEach [] X.env:=by rfl) (hplain:(backTo bS (starEach [] X.env)).any (·.1)=false:=by rfl) :
  d6 X F (.Expr (.Call (.Attribute (.Subscript (.Name x bg) k pos') "append" apos) [e] [] bS) qe) (uN i mk m):=by
 refine ⟨cK.imp (sl (si PySem.F.plainAttrs_list PySem.F.slot_list_append PySem.F.type_list_append yX (ze yv (jE hN hv hd hcd) hk.1 yc) (i7 he.1 lN hs) hbase hfew hline hs hplain) (kO _ _ _ _ rfl)) ?_⟩
 rintro b6 σ H ⟨G,ρ,r,h⟩
 unfold uN at h
 cases cJ:jJ i ρ with
 | bad=>rw [cJ] at h; exact h.elim
 | exc c=>exact (G2 cJ).elim
 | ok ts=>
   rw [cJ,R.bo] at h
   have ct:=G3 cJ
   obtain ⟨a,xs,ah,ha,wl,bF⟩:=r.root ct
   refine ⟨.ref a,ah,G,ρ,r,?_⟩
   cases dD:mk ρ with
   | bad=>rw [dD] at h; exact h.elim
   | exc c=>rw [dD] at h; exact h
   | ok kd=>
     rw [dD,R.bo] at h
     intro w H1 aM ao s1 iN
     cases kd with
     | int j=>
       simp only [qT] at h
       simp only [At] at iN
       cases iy:fN ts.length j with
       | none=>rw [iy] at h; exact h.elim
       | some n=>
         rw [iy] at h
         simp only [wI] at h
         obtain ⟨la,gd,gm,js,sZ,y1⟩:=ao.root ct
         rw [ah] at gm; cases gm
         cases gS:ts[n]? with
         | none=>rw [gS] at h; exact h.elim
         | some t=>
           rw [gS] at h
           cases t with
           | ax _=>exact h.elim
           | cL _ _=>exact h.elim
           | bx _ _=>exact h.elim
           | ins _ _ _=>exact h.elim
           | lst us=>
             simp only at h
             obtain ⟨v,ev,s6⟩:=sQ sZ gS
             simp only [cq] at s6
             obtain ⟨q,ys,rfl,aD,U3⟩:=s6
             have xk:eZ gd j=some (.ref q):=by
              unfold eZ
              rw [←sZ.length,iy]; exact ev
             refine .inl ⟨a,gd,j,.ref q,rfl,iN,bI.of js,xk,.inl ⟨rfl,ys,bI.of aD⟩,aM,ρ,ao,?_⟩
             cases em:m ρ with
             | bad=>rw [em] at h; exact h.elim
             | exc c=>rw [em] at h; exact h
             | ok d=>
               rw [em,R.bo] at h
               intro u aH cb a_ s2 oZ
               by_cases yj:us.length < 1000000
               · rw [if_pos yj] at h
                 obtain ⟨jY,A3,c8,rp,AU,PB⟩:=a_.root ct
                 rw [ah] at c8; cases c8
                 have yl:A3=gd:=by
                  have:=s2.h _ _ js
                  rw [rp] at this; cases this; rfl
                 subst yl
                 have nZ:aH q=some (.lst ys):=s2.h _ _ aD
                 obtain ⟨UB,rd,s7⟩:=sQ AU gS
                 rw [ev] at rd; cases rd
                 simp only [cq] at s7
                 obtain ⟨zo,VQ,tg,ry,vO⟩:=s7
                 cases tg
                 rw [nZ] at ry; cases ry
                 obtain ⟨gv,bM⟩:=vO.append (us:=[T.ax d]) (ws:=[u]) (.cons (by simp only [cq]; exact oZ) .nil)
                 have za:cx aH [T.ax d] [u]=[]:=by rw [gF,lq]; simp only [aL,List.append_nil]
                 rw [za,List.append_nil] at bM
                 have i9:=a_.E0 ct ah rp gS ev nZ gv bM
                 exact ⟨q,ys,u,rfl,rfl,nZ,by rw [←vO.length]; exact Nat.lt_trans yj (by decide),h _ cb _ i9 (s1.trans s2).g⟩
               · rw [if_neg yj] at h; exact h.elim
     | _=>exact h.elim
theorem VF (i:Nat) {x:Str} {p:Pos} (hN:X.N.Nodup) (he:jX X F e ma) (hi:X.N[i]? =some x:=by rfl) (hx:Loc X.env.scope x:=by first | exact Or.inl rfl | exact Or.inr rfl) (hs:swapsWith e (some (.Name x p)) pos.line X.env=pure false:=by rfl)
  (hf:X.fn x=true∨X.env.scope.names.lookup x=some .local:=by first | exact .inl rfl | exact .inr rfl):d6 X F (.Assign [.Name x p] e pos) (gr i ma):=⟨cK.imp (vg hN hi hx he.1 hs hf) yo⟩
end
end aA
set_option Elab.async false
set_option linter.all false
set_option maxRecDepth 100000
set_option autoImplicit false
namespace aA
open PySem PySem.Spec aZ PyProof.Rows
section
variable {P:Program} {w:World} {K:PySem.W.Frag} {mg:Str→Option Value} {base:Heap} {N:List Str} {qual:Str} {scope:Scope} {f:Addr} {cd:Value} {A:Around} {outer:List Env} {s0:Shared} {e7:J} {E:cM} {bw a7:J}
end
end aA
set_option Elab.async false
set_option linter.all false
set_option maxRecDepth 100000
set_option autoImplicit false
namespace aA
open PySem PySem.Spec aZ PyProof.Rows
section
variable {X:aG} {F:bf} {e:Expr} {ae:List Expr} {pos p:Pos} {ma:aK}
end
end aA
set_option Elab.async false
set_option linter.all false
set_option maxRecDepth 100000
set_option autoImplicit false
namespace aA
open PySem PySem.Spec aZ PyProof.Rows
noncomputable def gX:T→Bool
 | .ax _=>true
 | _=>false
theorem xF {H:J}:∀{us:List T} {ys:List V},us.all gX=true→cx H us ys=[]
 | [],_,_=>lq
 | _::_,[],_=>by simp only [cx]
 | .ax d::us,y::ys,h=>by
   rw [gF,xF (us:=us) (by simpa [gX] using h)]
   simp only [aL,List.append_nil]
 | .lst _::_,_::_,h=>by simp [gX] at h
 | .cL _ _::_,_::_,h=>by simp [gX] at h
 | .bx _ _::_,_::_,h=>by simp [gX] at h
 | .ins _ _ _::_,_::_,h=>by simp [gX] at h
section
variable {X:aG} {F:bf} {e:Expr} {pos p:Pos} {m n:ay} {ma:aK}
end
end aA
set_option Elab.async false
set_option linter.all false
set_option maxRecDepth 100000
set_option autoImplicit false
namespace aZ
open PySem PySem.Spec PyProof.Rows
noncomputable def TK (i j:Nat) (te:TE) (E:cM) (ts:d5):d5:=fun D σ H=>te σ H (fun v H1=>D.a9 (σ.set j (some v)) H1)∧∀(C:Value) (a:Addr) (H':J),E C (some a) H'→H' a=none→
 ts { a9:=fun σ2 aH=>D.a9 (σ2.set i none) aH,dF:=D.dF,eB:=fun σ2 aH=>D.eB (σ2.set i none) aH,cj:=fun σ2 aH=>D.cj (σ2.set i none) aH } (σ.set i (some (.ref a))) (upd H' a (nS a C))
section
variable {X:aG} {i j:Nat} {x n y:Str} {W:Addr} {e:Expr} {te:TE} {E:cM} {pd:Stmt} {qh:List Stmt} {ts:d5} {p7 np hp pos py:Pos}
theorem Rh (hN:X.N.Nodup) (he:Bk X e te E) (hm:X.mg x=some (.ref W)) (x7:∀C a H,E C a H→PySem.W.exmOne X.K C (.ref W)=some true) (hs:∀a,e9 (X.marked a) (pd::qh) ts)
  (hi:X.N[i]? =some n:=by rfl) (hl:X.env.scope.names.lookup n=some .local:=by rfl) (cD:X.N[j]? =some y:=by rfl) (uw:X.env.scope.names.lookup y=some .local:=by rfl) (hst:X.stack=X.env::X.outer:=by rfl) (kE:X.env.frame=some X.env.locals:=by rfl) (hex:X.ex=[]:=by rfl)
  (hg:cv X x:=by rfl) (hd:(x == ("__debug__" :Str))=false:=by decide) (iT:swapsWith e (some (.Name y py)) p7.line X.env=pure false:=by rfl) :
  cK X (.Try [.Assign [.Name y py] e p7] [.ExceptHandler (some (.Name x np)) (some n) (pd::qh) hp] [] [] pos) (TK i j te E ts):=by
 intro pins s σ H D I h
 obtain ⟨h1,h2⟩:=h
 refine wpAny_Try_except (wpAny_execs_cons (wpAny_Assign_Name (wpAny_mono (he pins s σ H _ I h1) (fun v s1 hv=>?_) (fun y s' cg=>?_)) iT))
 · obtain ⟨y,H1,aP,ao,aW⟩:=hv
   exact vx (X:=X) aP hN cD (.inl uw) ao (fun s2 bZ=>wpAny_execs_nil (wpAny_execs_nil ⟨_,H1,bZ,aW⟩)) (.inr uw)
 · obtain ⟨H1,s1,aP,a,C,eN,B,H',rfl,e2,hE⟩:=cg
   have kz:=e2.kz
   rw [hst] at kz
   have hZ:X.A.frames=some (X.env::X.outer):=by rw [←hst]; exact aP.ok.frames
   refine wpAny_looks_onW hZ kE kz fun pC LH Hk=>?_
   refine wpAny_landsW LH fun fD ub Hl=>?_
   have kX:Inv X pins σ H' { s' with heap:=fD }:=e2.inv aP ub.1 (by rw [hst]; exact ub.2.2.1) (Hk.trans Hl)
   refine wpAny_handleBy_cons (codeAny_handlers_test (pJ (X:=X.marked a) (kX.marked a) hg hm ?_ hd)) (by intro q; cases q)
   obtain ⟨aU,L2,L3⟩:=ub.there
   have LT:PySem.W.Looks (model X.prog X.w) fD (typeOf (.ref a)) C:=by
    rw [←L3]
    exact (PySem.W.Looks.ld L2).andThen .now
   refine (PySem.W.exm_one (K:=X.K) kX.eP LT (x7 C _ H' hE)).here ?_
   refine codeAny_handlers_suite_as ?_
   refine lands_againW ub fun Mp xE UA=>?_
   have nx:Inv X pins σ (upd H' a (nS a C)) { s' with heap:=Mp }:=e2.Ug aP hex xE.1 (by rw [hst]; exact xE.2.2.1) ((Hk.trans Hl).trans UA) (by obtain ⟨o,q,c⟩:=xE.there; exact ⟨o,q,c⟩)
   refine vx (X:=X) (v:= .ref a) nx hN hi (.inl hl) rfl (fun eM hM=>?_) (.inr hl)
   refine wpAny_mono (hs a pins eM _ _ _ (hM.marked a) (h2 C a H' hE e2.ha)) (fun Le qc lO=>?_) fun _ _ z=>z.elim
   cases Le with
   | next=>
     obtain ⟨σ',wc,bp,q⟩:=lO
     exact vI (bp.unmarked I.ok) hN hi hl fun kM nz=>⟨_,_,nz,q⟩
   | brk=>
     obtain ⟨σ',wc,bp,q⟩:=lO
     exact vI (bp.unmarked I.ok) hN hi hl fun kM nz=>⟨_,_,nz,q⟩
   | cont=>
     obtain ⟨σ',wc,bp,q⟩:=lO
     exact vI (bp.unmarked I.ok) hN hi hl fun kM nz=>⟨_,_,nz,q⟩
   | ret u=>
     obtain ⟨v,σ',wc,bp,r,q⟩:=lO
     exact vI (bp.unmarked I.ok) hN hi hl fun kM nz=>⟨v,_,_,nz,r,q⟩
end
end aZ
namespace aA
open PySem PySem.Spec aZ PyProof.Rows
section
variable {X:aG} {F:bf} {pos:Pos}
noncomputable def rS (i j:Nat) (cs:List Str) (n:Nat) (mf:List D→R b1) (ma:aK) (ms:a0):a0:=fun ρ=>(eK (ma ρ)).bind fun ds=>if ds.length=n∧i < ρ.length∧j < ρ.length then match mf ds with
  | .ok t=>(gJ t).bind fun d=> .ok (.a9 (ρ.set j (.ax d)))
  | .exc c=>if cs.contains c=true then (eK (ms (ρ.set i (.ax (.gn c))))).bind (sS i) else .bad
  | .bad=> .bad
 else .bad
theorem VH (i j:Nat) {x W nm:Str} {n k:Nat} {cs:List Str} {mf:List D→R b1} {ma:aK} {ms:a0} {e pd:_} {ae:List Expr} {qh:List Stmt} {p bS p7 np L9 py:Pos} {u9:Str} (hN:X.N.Nodup) (c:qL X.prog X.w X.K X.mg X.base x n k mf) (hr:cZ k X.A) (t:Bq X.K X.mg W cs)
  (ha:e_ X.f9 F (e::ae) ma) (hs:∀a,hS (X.marked a) F (pd::qh) ms) (hK:F.K=X.K:=by rfl) (kC:F.gB=fun _ _=>False:=by rfl)
  (hi:X.N[i]? =some nm:=by rfl) (hl:X.env.scope.names.lookup nm=some .local:=by rfl) (cD:X.N[j]? =some u9:=by rfl) (uw:X.env.scope.names.lookup u9=some .local:=by rfl) (hst:X.stack=X.env::X.outer:=by rfl) (kE:X.env.frame=some X.env.locals:=by rfl) (hex:X.ex=[]:=by rfl)
  (hg:cv X x:=by rfl) (LL:cv X W:=by rfl) (xX:(x == ("__debug__" :Str))=false:=by decide) (hd:(W == ("__debug__" :Str))=false:=by decide) (iT:swapsWith (.Call (.Name x p) (e::ae) [] bS) (some (.Name u9 py)) p7.line X.env=pure false:=by rfl)
  (he:starEach (e::ae) X.env=(false,eval e X.env)::starEach ae X.env:=by rfl) (hpl:(backTo bS (starEach ae X.env)).any (·.1)=false:=by rfl) :
  d6 X F (.Try [.Assign [.Name u9 py] (.Call (.Name x p) (e::ae) [] bS) p7] [.ExceptHandler (some (.Name W np)) (some nm) (pd::qh) L9] [] [] pos) (rS i j cs n mf ma ms):=by
 obtain ⟨f,fd,aB,aN,j2,hm,hk,hb⟩:=c.ex
 obtain ⟨tk,Lu,DG⟩:=t.ex
 refine ⟨fun pins s σ H b6 I q=>?_⟩
 obtain ⟨G,ρ,r,h⟩:=q
 let E:cM:=fun C P1 H'=>∃(bb:Str) (l8:Addr) (G':J) (ds:List D),C= .ref l8∧eS X.K bb l8∧cs.contains bb=true∧ma ρ= .ok ds∧mf ds= .exc bb∧Rel F G' H' σ ρ∧Sub G G'
 have x7:∀C a H,E C a H→PySem.W.exmOne X.K C (.ref tk)=some true:=fun C a H' ⟨bb,l8,G',ds,ah,aw,bK,_⟩=>by
  obtain ⟨ti,bD,dj⟩:=DG bb bK
  have:ti=l8:=by
   unfold eS at bD aw
   rw [aw] at bD; cases bD; rfl
  subst ah this
  exact dj
 refine Rh (E:=E) (te:=sJ (m8 F.K n (s8 F.K) mf) [] E (ee F ma)) (ts:=et F ms) hN (QY (by rw [hK]; exact j2) hr hg hm hk hb ha.1 xX he hpl) Lu x7 (fun a=>(hs a).1) hi hl cD uw hst kE hex LL hd iT pins s σ H b6 I ⟨?_,?_⟩
 · refine ⟨G,ρ,r,?_⟩
   unfold rS at h
   cases av:ma ρ with
   | bad=>rw [av] at h; exact h.elim
   | exc c=>rw [av] at h; exact h.elim
   | ok ds=>
     rw [av] at h
     have h:f7 F G b6 (if ds.length=n∧i < ρ.length∧j < ρ.length then match mf ds with
      | .ok t=>(gJ t).bind fun d=> .ok (.a9 (ρ.set j (.ax d)))
      | .exc c=>if cs.contains c=true then (eK (ms (ρ.set i (.ax (.gn c))))).bind (sS i) else .bad
      | .bad=> .bad else .bad):=h
     intro vs H1 aM ao s1 bc
     by_cases hd:ds.length=n∧i < ρ.length∧j < ρ.length
     · rw [if_pos hd] at h
       rw [List.append_nil]
       refine ⟨aM,ds,ao.aC.sub,bc,hd.1,?_⟩
       cases em:mf ds with
       | bad=>rw [em] at h; exact h.elim
       | exc bb=>
         rw [em] at h
         simp only at h
         by_cases hc:cs.contains bb=true
         · intro G' H' b0
           obtain ⟨ti,bD,dj⟩:=DG bb hc
           rw [hK]
           exact ⟨ti,bD,fun a _=>⟨bb,ti,G',ds,rfl,bD,hc,av,em,dX.of ao b0,s1.g.trans b0.eC⟩⟩
         · rw [if_neg hc] at h; exact h.elim
       | ok tt=>
         rw [em] at h
         cases tt with
         | v d=>exact fun v G' H' b0 bc=>h _ G' H' ((dX.of ao b0).set hd.2.2 bc) (s1.g.trans b0.eC)
         | o ae=>
           intro p xs G' H' k h1 h2 h3 h4
           have h2:H1 p=none:=h2
           have a4:=dX.of ao k
           have no:¬ c2 H' σ ρ p:=c2.fresh ao k.hh h2
           refine h _ _ H' ((a4.take h3 h1 (ao.aC.hh.gone h2) no).set (v:= .ref p) (d:= .lst ae) hd.2.2 ?_) ((s1.trans ⟨k.eC,k.hh,k.new⟩).put (s1.h.gone h2) h1).g
           simp only [At]
           exact ⟨p,xs,rfl,dv,h4.mono (Sub.upd h1)⟩
         | t t=>
           intro v G' H' k q
           obtain ⟨a1,a2,fi⟩:=(dX.of ao k).AD (F':=⟨F.K,aM,H1,s8 F.K E⟩) rfl q (s1.trans ⟨k.eC,k.hh,k.new⟩) fun b hb=>⟨s1.h.gone (q.own b hb).2,ao.aC.hh.gone (q.own b hb).2,c2.fresh ao k.hh (q.own b hb).2⟩
           exact h _ _ H' (a1.set hd.2.2 fi) a2.g
     · rw [if_neg hd] at h; exact h.elim
 · rintro C a H' ⟨bb,l8,G',ds,rfl,bD,hc,av,em,a4,s'⟩ hp
   unfold rS at h
   rw [av] at h
   have h:f7 F G b6 (if ds.length=n∧i < ρ.length∧j < ρ.length then match mf ds with
     | .ok t=>(gJ t).bind fun d=> .ok (.a9 (ρ.set j (.ax d)))
     | .exc c=>if cs.contains c=true then (eK (ms (ρ.set i (.ax (.gn c))))).bind (sS i) else .bad
     | .bad=> .bad else .bad):=h
   by_cases hd:ds.length=n∧i < ρ.length∧j < ρ.length
   · rw [if_pos hd,em] at h
     simp only at h
     rw [if_pos hc] at h
     have bT:=(a4.lay (o:=nS a (.ref l8)) hp).set (d:= .gn bb) (v:= .ref a) hd.2.1 (by
      simp only [At]
      exact ⟨a,[],rfl,⟨l8,by rw [hK]; exact bD,dv⟩,rfl⟩)
     have Aq:Sub G (upd G' a (nS a (.ref l8))):=s'.trans (Sub.upd (a4.aC.sub.gone hp))
     refine ⟨_,_,bT,?_⟩
     cases xn:ms (ρ.set i (.ax (.gn bb))) with
     | bad=>rw [xn] at h; exact h.elim
     | exc c=>rw [xn] at h; exact h.elim
     | ok e2=>
       rw [xn] at h
       cases e2 with
       | a9 bj=>exact fun σ2 cb aH a_ s2=>h (σ2.set i none) cb aH (a_.xa i) (Aq.trans s2)
       | eB bj=>exact fun σ2 cb aH a_ s2=>h (σ2.set i none) cb aH (a_.xa i) (Aq.trans s2)
       | cj bj=>exact fun σ2 cb aH a_ s2=>h (σ2.set i none) cb aH (a_.xa i) (Aq.trans s2)
       | dF d=>exact h
       | g5 d=>exact h
       | g4 d=>exact h
   · rw [if_neg hd] at h; exact h.elim
end
theorem Dr {K:PySem.W.Frag} {G H:J}:∀{us:List T} {ys:List V},us.all gX=true→bA K G H us ys→∃ds,us=ds.map T.ax∧aE K G ds ys
 | [],[],_,_=>⟨[],rfl,.nil⟩
 | [],_::_,_,h=>by simp [bA] at h
 | _::_,[],_,h=>by simp [bA] at h
 | .ax d::us,y::ys,h,k=>by
   simp only [bA,cq] at k
   obtain ⟨v,r,z,k1,k2⟩:=k
   cases z
   obtain ⟨ds,e,q⟩:=Dr (us:=us) (ys:=ys) (by simpa [gX] using h) k2
   exact ⟨d::ds,by rw [e]; rfl,.cons k1 q⟩
 | .lst _::_,_::_,h,_=>by simp [gX] at h
 | .cL _ _::_,_::_,h,_=>by simp [gX] at h
 | .bx _ _::_,_::_,h,_=>by simp [gX] at h
 | .ins _ _ _::_,_::_,h,_=>by simp [gX] at h
theorem GW {K:PySem.W.Frag} {G H:J}:∀{ds:List D} {ys:List V},aE K G ds ys→bA K G H (ds.map T.ax) ys
 | [],ys,h=>by
   have:=h.length
   cases ys with
   | nil=>simp [bA]
   | cons _ _=>simp at this
 | d::ds,ys,h=>by
   cases ys with
   | nil=>have:=h.length; simp at this
   | cons y ys=>
     rw [List.map_cons]
     simp only [aE] at h
     obtain ⟨v,r,z,h1,h2⟩:=h
     cases z
     exact .cons (by simp only [cq]; exact h1) (GW h2)
theorem wD (ds:List D):(ds.map T.ax).all gX=true:=by
 rw [List.all_eq_true]; intro t ht
 obtain ⟨d,_,rfl⟩:=List.mem_map.mp ht
 rfl
section
variable {X:aG} {F:bf} {a b:Expr} {pos p:Pos} {m n:ay} {ma:aK}
noncomputable def iB {α:Type} (us:List α) (k:Int) (y:α):List α:=us.take (min k.toNat us.length) ++ y::us.drop (min k.toNat us.length)
noncomputable def yt (i:Nat) (ρ:ai) (ts us:List T) (j:Nat) (y:D):D→R e6
 | .int k=>if 0≤k∧k < 2 ^ 63∧us.length < 1000000∧us.all gX=true then .ok (.a9 (ρ.set i (.dm (.lst (ts.set j (.lst (iB us k (.ax y)))))))) else .bad
 | _=> .bad
noncomputable def yr (i:Nat) (ρ:ai) (ts:List T) (m n:ay):Option Nat→R e6
 | some j=>match ts[j]? with
   | some (.lst us)=>(m ρ).bind fun d=>(n ρ).bind fun y=>yt i ρ ts us j y d
   | _=> .bad
 | none=> .bad
noncomputable def rC (i:Nat) (ρ:ai) (ts:List T) (m n:ay):D→R e6
 | .int j=>yr i ρ ts m n (fN ts.length j)
 | _=> .bad
noncomputable def uP (i:Nat) (mk m n:ay):a0:=fun ρ=>(jJ i ρ).bind fun ts=>(mk ρ).bind fun k=>rC i ρ ts m n k
theorem yp {α β:Type} (f:α→β) (us:List α) (k:Int) (y:α):iB (us.map f) k (f y)=(iB us k y).map f:=by
 simp [iB,List.map_take,List.map_drop]
theorem VD (i:Nat) {x:Str} {bg qe pos':Pos} {apos bS:Pos} {k:Expr} {mk:ay} (hk:aV X F k mk) (yc:oQ k) (ha:aV X F a m) (hb:aV X F b n) (hN:X.N[i]? =some x:=by rfl) (hv:fG X.env.scope x:=by first | exact Or.inl rfl | exact Or.inr (Or.inl rfl) | exact Or.inr (Or.inr rfl)) (hd:(x == ("__debug__" :Str))=false:=by decide) (hcd:(x == ("__classdict__" :Str))=false:=by decide)
  (hbase:attributeBase (.Subscript (.Name x bg) k pos') "insert" X.env (eval (.Subscript (.Name x bg) k pos') X.env)=eval (.Subscript (.Name x bg) k pos') X.env:=by rfl) (hline:(apos.endLine == bS.line)=true:=by rfl)
  (hfew:((backTo bS (starEach [a,b] X.env)).all (fun x=> !x.1) && (backToKw bS (keywordEach [] X.env)).all (fun x=>x.1.isSome)
    && decide (([a,b]:List Expr).length + ([]:List Keyword).length + (if ([]:List Keyword).isEmpty then 0 else 1) < 30))=true:=by rfl)
  (hs:starEach [a,b] X.env=(false,eval a X.env)::starEach [b] X.env:=by rfl) (hs2:starEach [b] X.env=(false,eval b X.env)::starEach [] X.env:=by rfl) (hplain:(backTo bS (starEach [b] X.env)).any (·.1)=false:=by rfl) :
  d6 X F (.Expr (.Call (.Attribute (.Subscript (.Name x bg) k pos') "insert" apos) [a,b] [] bS) qe) (uP i mk m n):=by
 refine ⟨cK.imp (sl (si PySem.F.plainAttrs_list PySem.F.slot_list_insert PySem.F.type_list_insert Pt (ze yv (jE hN hv hd hcd) hk.1 yc) (i7 ha.1 (i7 hb.1 lN hs2) hs) hbase hfew hline hs hplain) (kO _ _ _ _ rfl)) ?_⟩
 rintro b6 σ H ⟨G,ρ,r,h⟩
 unfold uP at h
 cases cJ:jJ i ρ with
 | bad=>rw [cJ] at h; exact h.elim
 | exc c=>exact (G2 cJ).elim
 | ok ts=>
   rw [cJ,R.bo] at h
   have ct:=G3 cJ
   obtain ⟨a,xs,ah,ha,wl,bF⟩:=r.root ct
   refine ⟨.ref a,ah,G,ρ,r,?_⟩
   cases dD:mk ρ with
   | bad=>rw [dD] at h; exact h.elim
   | exc c=>rw [dD] at h; exact h
   | ok kd=>
     rw [dD,R.bo] at h
     intro w H1 aM ao s1 iN
     cases kd with
     | int j=>
       simp only [rC] at h
       simp only [At] at iN
       cases iy:fN ts.length j with
       | none=>rw [iy] at h; exact h.elim
       | some oj=>
         rw [iy] at h
         simp only [yr] at h
         obtain ⟨la,gd,gm,js,sZ,y1⟩:=ao.root ct
         rw [ah] at gm; cases gm
         cases gS:ts[oj]? with
         | none=>rw [gS] at h; exact h.elim
         | some t=>
           rw [gS] at h
           cases t with
           | ax _=>exact h.elim
           | cL _ _=>exact h.elim
           | bx _ _=>exact h.elim
           | ins _ _ _=>exact h.elim
           | lst us=>
             simp only at h
             obtain ⟨v,ev,s6⟩:=sQ sZ gS
             simp only [cq] at s6
             obtain ⟨q,ys,rfl,aD,U3⟩:=s6
             have xk:eZ gd j=some (.ref q):=by
              unfold eZ
              rw [←sZ.length,iy]; exact ev
             refine .inl ⟨a,gd,j,.ref q,rfl,iN,bI.of js,xk,.inl ⟨rfl,ys,bI.of aD⟩,aM,ρ,ao,?_⟩
             cases em:m ρ with
             | bad=>rw [em] at h; exact h.elim
             | exc c=>rw [em] at h; exact h
             | ok d=>
               rw [em,R.bo] at h
               intro u aH cb a_ s2 oZ
               refine ⟨cb,ρ,a_,?_⟩
               cases pq:n ρ with
               | bad=>rw [pq] at h; exact h.elim
               | exc c=>rw [pq] at h; exact h
               | ok y=>
                 rw [pq,R.bo] at h
                 intro g9 cw eF da s3 IJ
                 obtain ⟨jY,A3,c8,rp,AU,PB⟩:=da.root ct
                 rw [ah] at c8; cases c8
                 have yl:A3=gd:=by
                  have:=s3.h _ _ (s2.h _ _ js)
                  rw [rp] at this; cases this; rfl
                 subst yl
                 have nZ:cw q=some (.lst ys):=s3.h _ _ (s2.h _ _ aD)
                 obtain ⟨UB,rd,s7⟩:=sQ AU gS
                 rw [ev] at rd; cases rd
                 simp only [cq] at s7
                 obtain ⟨zo,VQ,tg,ry,vO⟩:=s7
                 cases tg
                 rw [nZ] at ry; cases ry
                 cases d with
                 | int b0=>
                   simp only [At] at oZ
                   subst oZ
                   simp only [yt] at h
                   by_cases hc:0≤b0∧b0 < 2 ^ 63∧us.length < 1000000∧us.all gX=true
                   · rw [if_pos hc] at h
                     obtain ⟨ds,rfl,xW⟩:=Dr hc.2.2.2 vO
                     have hl:=xW.length
                     have aN:bA F.K eF cw (iB (ds.map T.ax) b0 (.ax y)) (ys.take (min b0.toNat ys.length) ++ g9::ys.drop (min b0.toNat ys.length)):=by
                      rw [yp]
                      refine GW ?_
                      unfold iB
                      rw [hl]
                      exact (xW.take _).append (.cons IJ (xW.drop _))
                     have i9:=da.E0 ct ah rp gS ev nZ aN (by rw [yp,xF (wD _),xF (wD _)])
                     refine ⟨q,ys,b0,g9,rfl,rfl,nZ,hc.1,hc.2.1,?_,h _ eF _ i9 ((s1.trans s2).trans s3).g⟩
                     have:=hc.2.2.1
                     rw [List.length_map] at this
                     rw [sizeLine_eq,←hl]; omega
                   · rw [if_neg hc] at h; exact h.elim
                 | _=>exact h.elim
     | _=>exact h.elim
noncomputable def uQ (i:Nat):aK:=fun ρ=>ownAt i ρ
theorem Vv (i:Nat) {x:Str} {bg:Pos} (hm:X.mg "list"=none) (hN:X.N[i]? =some x:=by rfl) (hv:fG X.env.scope x:=by first | exact Or.inl rfl | exact Or.inr (Or.inl rfl) | exact Or.inr (Or.inr rfl)) (hd:(x == ("__debug__" :Str))=false:=by decide) (hcd:(x == ("__classdict__" :Str))=false:=by decide) (hK:F.K=X.K:=by rfl) (hg:cv X "list":=by rfl) (he:starEach [.Name x bg] X.env=(false,eval (.Name x bg) X.env)::starEach [] X.env:=by rfl) (hpl:(backTo pos (starEach [] X.env)).any (·.1)=false:=by rfl) :
  jX X F (.Call (.Name "list" p) [.Name x bg] [] pos) (uQ i):=by
 refine ⟨aS.imp (zd BZ hg hm (by kernel_rfl) (i7 (jE hN hv hd hcd) lN he) (by decide) (by decide) he hpl) ?_⟩
 rintro σ H Q ⟨G,ρ,r,h⟩
 unfold uQ ownAt at h
 cases cJ:ρ[i]? with
 | none=>rw [cJ] at h; exact h.elim
 | some s=>
   rw [cJ] at h
   cases s with
   | un=>exact h.elim
   | ax _=>exact h.elim
   | dm _=>exact h.elim
   | aU aU=>
    cases aU with
    | bx _ _=>exact h.elim
    | ins _ _ _=>exact h.elim
    | lst ds=>
     obtain ⟨q,xs,ah,h1,h2,h3,h4⟩:=r.own cJ
     refine ⟨.ref q,ah,q,xs,rfl,.inl (bI.of h1),fun l hl=>?_⟩
     exact h l xs _ G (r.lay0 hl) ⟨Sub.refl _,Sub.upd hl,fun _ _=>rfl⟩ hl dv (r.aC.sub.gone hl) h4
end
end aA
set_option Elab.async false
set_option linter.all false
set_option maxRecDepth 100000
set_option autoImplicit false
namespace aA
open PySem PySem.Spec aZ
@[simp] theorem dW {α β:Type} (a:α) (k:α→R β):(R.ok a).bind k=k a:=(rfl)
@[simp] theorem YS {α β:Type} (k:α→R β):(R.bad:R α).bind k= .bad:=(rfl)
@[simp] theorem YT {α β:Type} (c:Str) (k:α→R β):(R.exc c:R α).bind k= .exc c:=(rfl)
noncomputable def m9 (b:a0):e6→R e6
 | .a9 ρ=>b ρ
 | f=> .ok f
@[simp] theorem AK (a b:a0) (ρ:ai):bt a b ρ=(a ρ).bind (m9 b):=by
  unfold bt; congr 1
@[simp] theorem Gl (b:a0) (ρ:ai):m9 b (.a9 ρ)=b ρ:=(rfl)
@[simp] theorem XB (b:a0) (d:D):m9 b (.dF d)= .ok (.dF d):=(rfl)
@[simp] theorem XA (b:a0) (d:List D):m9 b (.g5 d)= .ok (.g5 d):=(rfl)
noncomputable def vi:Option cQ→R D
 | some (.ax d)=> .ok d
 | _=> .bad
@[simp] theorem v_var (i:Nat) (ρ:ai):af i ρ=vi ρ[i]? :=by
  unfold af vi; rfl
@[simp] theorem Xo (d:D):vi (some (.ax d))= .ok d:=(rfl)
@[simp] theorem UC (d:D) (ρ:ai):aq d ρ= .ok d:=(rfl)
@[simp] theorem XS (f:D→D→R D) (a b:ay) (ρ:ai):ar f a b ρ=(a ρ).bind fun x=>(b ρ).bind fun y=>f x y:=(rfl)
@[simp] theorem YN (f:D→R D) (a:ay) (ρ:ai):cH f a ρ=(a ρ).bind f:=(rfl)
@[simp] theorem vJ (ρ:ai):az ρ= .ok []:=(rfl)
@[simp] theorem AJ (a:ay) (r:aK) (ρ:ai):ag a r ρ=(a ρ).bind fun x=>(r ρ).bind fun xs=> .ok (x::xs):=(rfl)
noncomputable def sT (xs:List D):R D:=if xs.length≤1000000 then .ok (.tup xs) else .bad
@[simp] theorem UI (m:aK) (ρ:ai):cV m ρ=(m ρ).bind sT:=(rfl)
@[simp] theorem XH {xs:List D} (h:xs.length≤1000000):sT xs= .ok (.tup xs):=if_pos h
@[simp] theorem X9 (m:aK) (ρ:ai):cW m ρ=(m ρ).bind fun xs=> .ok (.lst xs):=(rfl)
@[simp] theorem UE (m:aK) (ρ:ai):dE m ρ=(m ρ).bind lim:=(rfl)
@[simp] theorem XN (m:ay) (ρ:ai):bz m ρ=(m ρ).bind iw:=(rfl)
@[simp] theorem V8 (b:Bool):iw (.au b)= .ok b:=(rfl)
@[simp] theorem v_and (a b:bJ) (ρ:ai):lF a b ρ=(a ρ).bind fun c=>if c=true then b ρ else .ok false:=(rfl)
@[simp] theorem v_or (a b:bJ) (ρ:ai):fE a b ρ=(a ρ).bind fun c=>if c=true then .ok true else b ρ:=(rfl)
@[simp] theorem v_not (a:bJ) (ρ:ai):ea a ρ=(a ρ).bind fun c=> .ok (!c):=(rfl)
@[simp] theorem XO (a b:ay) (ρ:ai):i1 a b ρ=(a ρ).bind fun x=>(iw x).bind fun c=>if c=true then b ρ else .ok (.au false):=(rfl)
@[simp] theorem X_ (c:bJ) (a b:a0) (ρ:ai):c9 c a b ρ=(c ρ).bind fun k=>if k=true then a ρ else b ρ:=(rfl)
@[simp] theorem Yr (ρ:ai):dc ρ= .ok (.a9 ρ):=(rfl)
@[simp] theorem YE (a:ay) (ρ:ai):cz a ρ=(a ρ).bind fun d=> .ok (.dF d):=(rfl)
@[simp] theorem YF (a:aK) (ρ:ai):iC a ρ=(a ρ).bind fun d=> .ok (.g5 d):=(rfl)
@[simp] theorem UH (i:Nat) (d:D) (ρ:ai):bQ i d ρ=if i < ρ.length then .ok (ρ.set i (.ax d)) else .bad:=(rfl)
@[simp] theorem YG (i:Nat) (a:ay) (ρ:ai):c6 i a ρ=(a ρ).bind fun d=>(bQ i d ρ).bind fun bj=> .ok (.a9 bj):=(rfl)
@[simp] theorem UG (i:Nat) (a:aK) (ρ:ai):gr i a ρ=(a ρ).bind fun ds=>if i < ρ.length then .ok (.a9 (ρ.set i (.df ds))) else .bad:=(rfl)
@[simp] theorem YH (i:Nat) (a:gi) (ρ:ai):Pb i a ρ=(a ρ).bind fun x=>(bQ i x.1 x.2).bind fun bj=> .ok (.a9 bj):=(rfl)
@[simp] theorem X7 (a:gi) (ρ:ai):pQ a ρ=(a ρ).bind fun x=> .ok (.a9 x.2):=(rfl)
@[simp] theorem X0 (f:List D→R D) (m:aK) (ρ:ai):cy f m ρ=(m ρ).bind f:=(rfl)
@[simp] theorem XU (n:Nat) (mf:List D→R b1) (m:aK) (ρ:ai):b5 n mf m ρ=(m ρ).bind fun ds=>if ds.length=n then (mf ds).bind gJ else .bad:=(rfl)
@[simp] theorem XW (n:Nat) (mf:List D→R b1) (m:aK) (ρ:ai):kH n mf m ρ=(m ρ).bind fun ds=>if ds.length=n then (mf ds).bind zw else .bad:=(rfl)
theorem UD (mi:aK) (set:D→ai→R ai) (body:a0) (ρ:ai):fO mi set body ρ=(mi ρ).bind fun ds=>fL set body ds ρ:=(rfl)
@[simp] theorem YC (m:aK) (ρ:ai):jy m ρ=(m ρ).bind qb:=(rfl)
@[simp] theorem Yb (m:ay) (ρ:ai):hD m ρ=(m ρ).bind Af:=(rfl)
@[simp] theorem v_bor (m:ay) (ρ:ai):pO m ρ=(m (eO ρ)).bind p6:=(rfl)
@[simp] theorem XT (m:bJ) (ρ:ai):i2 m ρ=m (eO ρ):=(rfl)
theorem Hm (nl:Nat) (caps:List Nat) (mi:aK) (set:D→ai→R ai) (tst:bJ) (elt:ay) (ρ:ai):d_ nl caps mi set tst elt ρ=(mi ρ).bind fun ds=>eK (fj set tst elt ds (iO nl caps ρ) []):=(rfl)
@[simp] theorem V6 (i j:Int):d7 (.int i) (.int j)= .ok (.int (i + j)):=(rfl)
@[simp] theorem XD (i j:Int):m_ (.int i) (.int j)= .ok (.int (i - j)):=(rfl)
@[simp] theorem Xa {i j:Int} (h1: -18446744073709551616 < i) (h2:i < 18446744073709551616):kK (.int i) (.int j)= .ok (.int (i * j)):=if_pos (Or.inl ⟨h1,h2⟩)
@[simp] theorem mul_r {i j:Int} (h1: -18446744073709551616 < j) (h2:j < 18446744073709551616):kK (.int i) (.int j)= .ok (.int (i * j)):=if_pos (Or.inr ⟨h1,h2⟩)
@[simp] theorem Wn {i j:Int} (h1:0 < j) (h2:j < 1073741824):eJ (.int i) (.int j)= .ok (.int (i / j)):=if_pos ⟨h1,h2⟩
@[simp] theorem W_ {i j:Int} (h:0 < j):d0 (.int i) (.int j)= .ok (.int (i % j)):=if_pos h
@[simp] theorem Xn {i:Int} {j:Nat} (h:j≤1000000) (h1: -1000000 < i) (h2:i < 1000000):m3 (.int i) (.int (j:Int))= .ok (.int (i ^ j)):=by
  have:qw i (j:Int):=⟨by omega,by omega,by omega⟩
  simp only [m3,iW,if_pos this,Int.toNat_natCast]
theorem p8:m3 (.int 10) (.int 30)= .ok (.int 1000000000000000000000000000000):=(rfl)
@[simp] theorem W5 (i j:Int):n3 (.int i) (.int j)= .ok (.au (decide (i < j))):=(rfl)
@[simp] theorem WU (i j:Int):j_ (.int i) (.int j)= .ok (.au (decide (i≤j))):=(rfl)
@[simp] theorem Wz (i j:Int):rm (.int i) (.int j)= .ok (.au (decide (j < i))):=(rfl)
@[simp] theorem Wj (i j:Int):dp true (.int i) (.int j)= .ok (.au (i == j)):=(rfl)
@[simp] theorem Xb (i j:Int):dp false (.int i) (.int j)= .ok (.au (!(i == j))):=(rfl)
@[simp] theorem WW (xs:List D):c5 [.lst xs]= .ok (.int xs.length):=(rfl)
@[simp] theorem WY (xs:List D):c5 [.tup xs]= .ok (.int xs.length):=(rfl)
@[simp] theorem WX (xs:List D):c5 [.b7 xs]= .ok (.int xs.length):=(rfl)
@[simp] theorem Xt (d:D):gJ (.v d)= .ok d:=(rfl)
@[simp] theorem Xr (ds:List D):gJ (.o ds)= .ok (.lst ds):=(rfl)
@[simp] theorem Xq (ds:List D):zw (.o ds)= .ok ds:=(rfl)
@[simp] theorem Xj (d:D):outD (.dF d)= .ok (.v d):=(rfl)
@[simp] theorem Xi (d:List D):outD (.g5 d)= .ok (.o d):=(rfl)
@[simp] theorem Hn (N:Nat) (m:a0) (ds:List D):cU N m ds=(m (j7 N ds)).bind outD:=(rfl)
noncomputable def y_:Option cQ→R (List D)
 | some (.df ds)=> .ok ds
 | _=> .bad
@[simp] theorem Yy (i:Nat) (ρ:ai):ownAt i ρ=y_ ρ[i]? :=by
  unfold ownAt y_; rfl
@[simp] theorem Xk (ds:List D):y_ (some (.df ds))= .ok ds:=(rfl)
@[simp] theorem Wo (set:D→ai→R ai) (body:a0) (ρ:ai):fL set body [] ρ= .ok (.a9 ρ):=(rfl)
theorem Dm {set:D→ai→R ai} {body:a0} (I:Nat→ai→Prop):∀(ds:List D) (i:Nat) (ρ:ai),(∀(j:Nat) d ρ,ds[j]? =some d→I (i + j) ρ→∃dQ bj,set d ρ= .ok dQ∧body dQ= .ok (.a9 bj)∧I (i + j + 1) bj)→I i ρ→∃bj,fL set body ds ρ= .ok (.a9 bj)∧I (i + ds.length) bj
 | [],i,ρ,_,h=>⟨ρ,rfl,h⟩
 | d::ds,i,ρ,st,h=>by
   obtain ⟨dQ,dh,ah,aw,h2⟩:=st 0 d ρ rfl h
   obtain ⟨bj,bK,h3⟩:=Dm I ds (i + 1) dh (fun j d ρ e hi=>by
    obtain ⟨a,b,bD,dj,gR⟩:=st (j + 1) d ρ (by simpa using e) (by rw [show i + (j + 1)=i + 1 + j by omega]; exact hi)
    exact ⟨a,b,bD,dj,by rw [show i + 1 + j + 1=i + (j + 1) + 1 by omega]; exact gR⟩) (by simpa using h2)
   refine ⟨bj,?_,by rw [List.length_cons,show i + (ds.length + 1)=i + 1 + ds.length by omega]; exact h3⟩
   rw [fL,ah,dW,aw,dW]; exact bK
theorem Lg {mi:aK} {set:D→ai→R ai} {body:a0} {ds:List D} {ρ:ai} (I:Nat→ai→Prop) (hi:mi ρ= .ok ds) (st:∀(j:Nat) d ρ,ds[j]? =some d→I j ρ→∃dQ bj,set d ρ= .ok dQ∧body dQ= .ok (.a9 bj)∧I (j + 1) bj) (h:I 0 ρ):∃bj,fO mi set body ρ= .ok (.a9 bj)∧I ds.length bj:=by
 obtain ⟨bj,e,h'⟩:=Dm I ds 0 ρ (fun j d ρ e cD=>by rw [Nat.zero_add] at cD ⊢; exact st j d ρ e cD) h
 rw [Nat.zero_add] at h'
 exact ⟨bj,by rw [UD,hi,dW,e],h'⟩
@[simp] theorem Wa (d:D):eT (.ax d)= .ax d:=(rfl)
noncomputable def wH (i:Nat) (ρ:ai) (ds:List D) (d:D):R e6:=if ds.length < 1000000 then .ok (.a9 (ρ.set i (.df (ds ++ [d])))) else .bad
@[simp] theorem V7 {i:Nat} {ρ:ai} {ds:List D} {d:D} (h:ds.length < 1000000):wH i ρ ds d= .ok (.a9 (ρ.set i (.df (ds ++ [d])))):=if_pos h
@[simp] theorem XP (i:Nat) (m:ay) (ρ:ai):n4 i m ρ=(ownAt i ρ).bind fun ds=>(m ρ).bind fun d=>wH i ρ ds d:=(rfl)
@[simp] theorem XR (i:Nat) (m:gi) (ρ:ai):O8 i m ρ=(ownAt i ρ).bind fun _=>(m ρ).bind fun x=>(ownAt i x.2).bind fun ds=>wH i x.2 ds x.1:=(rfl)
@[simp] theorem Yi (m:ay) (ρ:ai):lf m ρ=(m ρ).bind fun d=> .ok (d,ρ):=(rfl)
@[simp] theorem Yj (m:aK) (ρ:ai):O2 m ρ=(m ρ).bind fun d=> .ok (d,ρ):=(rfl)
@[simp] theorem X2 (a:gi) (r:oN) (ρ:ai):O9 a r ρ=(a ρ).bind fun x=>(r x.2).bind fun y=> .ok (x.1::y.1,y.2):=(rfl)
@[simp] theorem YM (m:oN) (ρ:ai):EY m ρ=(m ρ).bind fun x=>(sT x.1).bind fun d=> .ok (d,x.2):=by
  unfold EY sT
  congr 1; funext x
  split <;> rfl
noncomputable def CB (i:Nat) (ds:List D) (ρ:ai):D→R (D×ai)
 | .lst ae=>if ds.length + ae.length≤1000000 then .ok (.non,ρ.set i (.df (ds ++ ae))) else .bad
 | _=> .bad
@[simp] theorem X8 (i:Nat) (m:ay) (ρ:ai):rO i m ρ=(ownAt i ρ).bind fun ds=>(m ρ).bind fun d=>CB i ds ρ d:=by
  unfold rO; congr 1
@[simp] theorem Wm {i:Nat} {ds ae:List D} {ρ:ai} (h:ds.length + ae.length≤1000000):CB i ds ρ (.lst ae)= .ok (.non,ρ.set i (.df (ds ++ ae))):=if_pos h
noncomputable def zh (i:Nat) (ds:List D) (ρ:ai):D→R (D×ai)
 | .int k=>if -(2 ^ 63)≤k∧k < 2 ^ 63 then match seqIndex? k ds.length with
   | some j=>match ds[j]? with
     | some y=> .ok (y,ρ.set i (.df (ds.eraseIdx j)))
     | none=> .bad
   | none=> .bad
   else .bad
 | _=> .bad
@[simp] theorem YA (i:Nat) (m:ay) (ρ:ai):EX i m ρ=(ownAt i ρ).bind fun ds=>(m ρ).bind fun d=>zh i ds ρ d:=by
  unfold EX; congr 1
theorem Xm {i:Nat} {ds:List D} {ρ:ai} {k:Nat} (h:k < ds.length) (hl:ds.length < 1000000):zh i ds ρ (.int (k:Int))= .ok (ds[k],ρ.set i (.df (ds.eraseIdx k))):=by
 have c0: -(2 ^ 63)≤(k:Int):=Int.le_trans (by decide) (Int.natCast_nonneg k)
 have cN:(k:Int) < 2 ^ 63:=Int.lt_trans (b:=1000000) (by omega) (by decide)
 have s:seqIndex? (k:Int) ds.length=some k:=by rw [PySem.seqIndex_of (by omega) (by omega)]; simp
 simp only [zh,if_pos (And.intro c0 cN),s,List.getElem?_eq_getElem h]
noncomputable def Ni (i:Nat) (ds:List D) (ρ:ai) (y:D):D→R (D×ai)
 | .int k=>if 0≤k∧k < 2 ^ 63∧ds.length < 1000000 then .ok (.non,ρ.set i (.df (ds.take (min k.toNat ds.length) ++ y::ds.drop (min k.toNat ds.length)))) else .bad
 | _=> .bad
@[simp] theorem Yd (i:Nat) (m n:ay) (ρ:ai):EV i m n ρ=(ownAt i ρ).bind fun ds=>(m ρ).bind fun d=>(n ρ).bind fun y=>Ni i ds ρ y d:=by
  unfold EV; congr 1
@[simp] theorem Yl (m:aK) (ρ:ai):Pa m ρ=(m ρ).bind uK:=(rfl)
@[simp] theorem Yk (m:aK) (ρ:ai):n8 m ρ=(m ρ).bind uJ:=(rfl)
@[simp] theorem Yf (m:ay) (ρ:ai):n5 m ρ=(m ρ).bind AH:=(rfl)
@[simp] theorem YO (set:D→ai→R ai) (m:ay) (ρ:ai):Pc set m ρ=(m ρ).bind fun d=>(set d ρ).bind fun bj=> .ok (.a9 bj):=(rfl)
@[simp] theorem Hp (m:ay) (ρ:ai):ka m ρ=(m (eO ρ)).bind fun d=> .ok (.dF d):=(rfl)
@[simp] theorem Yw (a:ay) (ρ:ai):n9 a ρ=(a ρ).bind fun x=>(iw x).bind fun c=> .ok (.au (!c)):=(rfl)
@[simp] theorem Xu (ds:List D):Af (.lst ds)= .ok ds:=(rfl)
@[simp] theorem XI (ds:List D):AH (.tup ds)= .ok ds:=(rfl)
@[simp] theorem W0 (ds:List D):uJ [.lst ds]= .ok ds:=(rfl)
@[simp] theorem WZ {xs:List D} (h:xs.length≤1000000):lim xs= .ok xs:=if_pos h
@[simp] theorem Wx:eO []=[]:=(rfl)
@[simp] theorem Ww (s:cQ) (ρ:ai):eO (s::ρ)=mE s::eO ρ:=(rfl)
@[simp] theorem Ws (d:D):mE (.ax d)= .ax d:=(rfl)
@[simp] theorem Wv:mE .un= .un:=(rfl)
@[simp] theorem Wt (ds:List D):mE (.aU (.lst ds))= .ax (.lst ds):=(rfl)
@[simp] theorem Xg (i:Int):p6 (.int i)= .ok (.int i):=(rfl)
@[simp] theorem Xf (i:Bool):p6 (.au i)= .ok (.au i):=(rfl)
@[simp] theorem PI {α:Type} (a:α):eK (R.ok a)= .ok a:=(rfl)
noncomputable def AQ:Option cQ→R (List D)
 | some (.aU (.lst ds))=> .ok ds
 | _=> .bad
@[simp] theorem YP (i:Nat) (ρ:ai):oc i ρ=AQ ρ[i]? :=by unfold oc AQ; rfl
@[simp] theorem YU (ds:List D):AQ (some (.df ds))= .ok ds:=(rfl)
@[simp] theorem X1 (f g:D→D→R D) (a b c:ay) (ρ:ai):ih f g a b c ρ=(a ρ).bind fun x=>(b ρ).bind fun y=>(f x y).bind fun z=>(iw z).bind fun k=>if k=true then (c ρ).bind fun w=>g y w else .ok (.au false):=(rfl)
@[simp] theorem WL (N:Nat) (ds:List D):j7 N ds=ds.map .ax ++ List.replicate (N - ds.length) .un:=(rfl)
theorem iX {xs:List D} {k:Nat} {d:D} (h:xs[k]? =some d):aR (.lst xs) (.int (k:Int))= .ok d:=by
 have hk:=(List.getElem?_eq_some_iff.mp h).1
 have e:eZ xs (k:Int)=some d:=by
  unfold eZ fN
  rw [if_pos (by omega),if_pos (by omega)]
  simpa using h
 simp only [aR,e]
theorem NJ {xs:List D} {k:Nat} {d:D} (h:xs[k]? =some d):aR (.b7 xs) (.int (k:Int))= .ok d:=by
 have hk:=(List.getElem?_eq_some_iff.mp h).1
 have e:eZ xs (k:Int)=some d:=by
  unfold eZ fN
  rw [if_pos (by omega),if_pos (by omega)]
  simpa using h
 simp only [aR,e]
theorem yw {xs:List D} {k:Nat} {d:D} (h:xs[k]? =some d):aR (.tup xs) (.int (k:Int))= .ok d:=by
 have hk:=(List.getElem?_eq_some_iff.mp h).1
 have e:eZ xs (k:Int)=some d:=by
  unfold eZ fN
  rw [if_pos (by omega),if_pos (by omega)]
  simpa using h
 simp only [aR,e]
theorem ke (x:Int) {n:Nat} (h:0 < n):∃k:Nat,k < n∧x % (n:Int)=(k:Int):=by
 have h0:0≤x % (n:Int):=Int.emod_nonneg _ (by omega)
 have h1:x % (n:Int) < (n:Int):=Int.emod_lt_of_pos _ (by omega)
 obtain ⟨k,e⟩:=Int.eq_ofNat_of_zero_le h0
 exact ⟨k,by omega,e⟩
@[simp] theorem RV (n:Nat) (h:n < 1000000):qb [.int (n:Int)]= .ok (gI 0 n):=by
  have: -(2 ^ 62)≤(n:Int)∧(n:Int) < 2 ^ 62:=⟨by omega,by omega⟩
  simp only [qb,if_pos this,Int.toNat_natCast]
theorem RJ {n j:Nat} {d:D} (h:(gI 0 n)[j]? =some d):j < n∧d= .int (j:Int):=by
 unfold gI at h
 rw [List.getElem?_map] at h
 cases e:(List.range n)[j]? with
 | none=>rw [e] at h; cases h
 | some k=>
   rw [e] at h
   have cD:j < n:=by
    have:=(List.getElem?_eq_some_iff.mp e).1
    simpa using this
   rw [List.getElem?_range cD] at e
   cases e
   simp at h
   exact ⟨cD,h.symm⟩
@[simp] theorem RL (a:Int) (n:Nat):(gI a n).length=n:=by simp [gI]
@[simp] theorem YR {α β VZ:Type} (r:R α) (f:α→R β) (g:β→R VZ):(r.bind f).bind g=r.bind fun x=>(f x).bind g:=by cases r <;> rfl
noncomputable def Ends {β:Type} (r:R β) (T:β→Prop):Prop:=∃b,r= .ok b∧T b
@[simp] theorem Wh {β:Type} (b:β) (T:β→Prop):Ends (.ok b) T=T b:=propext ⟨fun ⟨c,e,h⟩=>by cases e; exact h,fun h=>⟨b,rfl,h⟩⟩
@[simp] theorem Wg {β:Type} (T:β→Prop):Ends (.bad) T=False:=propext ⟨fun ⟨c,e,h⟩=>(by cases e),False.elim⟩
theorem Ends.bind {α β:Type} {r:R α} {k:α→R β} {S:α→Prop} {T:β→Prop} (h:Ends r S) (f:∀b,S b→Ends (k b) T):Ends (r.bind k) T:=by
 obtain ⟨b,rfl,hb⟩:=h
 exact f b hb
noncomputable def tB (I:ai→Prop) (f:e6):Prop:=∃ρ,f= .a9 ρ∧I ρ
@[simp] theorem V2 (I:ai→Prop) (ρ:ai):tB I (.a9 ρ)=I ρ:=propext ⟨fun ⟨r,e,h⟩=>by cases e; exact h,fun h=>⟨ρ,rfl,h⟩⟩
theorem Cu {β:Type} {mi:aK} {set:D→ai→R ai} {body:a0} {ds:List D} {ρ:ai} {k:e6→R β} {T:β→Prop} (I:Nat→ai→Prop) (hi:mi ρ= .ok ds) (h0:I 0 ρ) (st:∀(j:Nat) d ρ,ds[j]? =some d→I j ρ→Ends ((set d ρ).bind body) (tB (I (j + 1)))) (fin:∀bj,I ds.length bj→Ends (k (.a9 bj)) T):Ends ((fO mi set body ρ).bind k) T:=by
 obtain ⟨bj,e,h⟩:=Lg (body:=body) (set:=set) (mi:=mi) I hi (fun j d ρ hd j3=>by
  obtain ⟨b,e,bj,rfl,h⟩:=st j d ρ hd j3
  cases ae:set d ρ with
  | bad=>rw [ae] at e; cases e
  | exc c=>rw [ae] at e; cases e
  | ok dQ=>rw [ae,dW] at e; exact ⟨dQ,bj,rfl,e,h⟩) h0
 rw [e,dW]
 exact fin bj h
noncomputable def Gp (i:Nat):e6→R e6
 | .a9 bj=> .ok (.a9 (jl i bj))
 | f=> .ok f
@[simp] theorem YI (i:Nat) (a:aK) (ρ:ai):oa i a ρ=(gr i a ρ).bind (Gp i):=by unfold oa; congr 1
@[simp] theorem XC (i:Nat) (ρ:ai):Gp i (.a9 ρ)= .ok (.a9 (jl i ρ)):=(rfl)
noncomputable def xb (ds:List D):D→R (List D)
 | .lst ae=>if ds.length + ae.length≤1000000 then .ok (ds ++ ae) else .bad
 | _=> .bad
@[simp] theorem V_ {ds ae:List D} (h:ds.length + ae.length≤1000000):xb ds (.lst ae)= .ok (ds ++ ae):=if_pos h
noncomputable def BW:D→D→R (List D)
 | .lst ds,.lst ae=>if ds.length + ae.length≤1000000 then .ok (ds ++ ae) else .bad
 | _,_=> .bad
@[simp] theorem V9 {ds ae:List D} (h:ds.length + ae.length≤1000000):BW (.lst ds) (.lst ae)= .ok (ds ++ ae):=if_pos h
@[simp] theorem XX (m n:ay) (ρ:ai):ES m n ρ=(m ρ).bind fun c=>(n ρ).bind fun d=>BW c d:=by unfold ES; congr 1
@[simp] theorem XZ (i:Nat) (m:ay) (ρ:ai):EU i m ρ=(ownAt i ρ).bind fun ds=>(m ρ).bind fun d=>xb ds d:=by unfold EU; congr 1
@[simp] theorem XY (ma:aK) (m:ay) (ρ:ai):ET ma m ρ=(ma ρ).bind fun ds=>(m ρ).bind fun d=>xb ds d:=by unfold ET; congr 1
@[simp] theorem YJ (f:D→Option Int→Option Int→R D) (m:ay) (lo hi:kq) (ρ:ai):ob f m lo hi ρ=(m ρ).bind fun d=>(lo ρ).bind fun l=>(hi ρ).bind fun h=>f d l h:=(rfl)
noncomputable def xH (i:Nat) (ρ:ai):Option cQ→ai
 | some (.aU o)=>ρ.set i (.ax (lM o))
 | _=>ρ
@[simp] theorem Wr (i:Nat) (ρ:ai):jl i ρ=xH i ρ ρ[i]? :=by unfold jl xH; rfl
@[simp] theorem Wq (i:Nat) (ρ:ai) (ds:List D):xH i ρ (some (.df ds))=ρ.set i (.ax (.lst ds)):=(rfl)
@[simp] theorem Ys (ρ:ai):uR ρ= .ok none:=(rfl)
@[simp] theorem Yz (m:ay) (ρ:ai):n_ m ρ=(m ρ).bind intD:=(rfl)
@[simp] theorem WM (i:Int):intD (.int i)= .ok (some i):=(rfl)
theorem Cs {β α:Type} {mi:aK} {elt:ay} {tst:bJ} {caps:List Nat} {ρ:ai} {k:List D→R β} {T:β→Prop} (g:α→D) (xs:List α) (p:α→Bool) (f:α→D) (hi:mi ρ= .ok (xs.map g)) (hl:xs.length≤1000) (ht:∀a∈xs,tst (.ax (g a)::caps.map fun j=>eT (ρ.getD j .un))= .ok (p a)) (h:∀a∈xs,p a=true→elt (.ax (g a)::caps.map fun j=>eT (ρ.getD j .un))= .ok (f a)) (fin:Ends (k ((xs.filter p).map f)) T):Ends ((d_ 1 caps mi (bQ 0) tst elt ρ).bind k) T:=by
 have go:∀(xs:List α) (ws:List D) (s0:cQ),ws.length + xs.length≤1000000→(∀a∈xs,tst (.ax (g a)::caps.map fun j=>eT (ρ.getD j .un))= .ok (p a))→(∀a∈xs,p a=true→elt (.ax (g a)::caps.map fun j=>eT (ρ.getD j .un))= .ok (f a))→fj (bQ 0) tst elt (xs.map g) (s0::caps.map fun j=>eT (ρ.getD j .un)) ws= .ok (ws ++ (xs.filter p).map f):=by
  intro xs
  induction xs with
  | nil=>intro ws s0 _ _ _; simp [fj]
  | cons a xs b8=>
    intro ws s0 hl ht h
    simp only [List.length_cons] at hl
    have ct:bQ 0 (g a) (s0::caps.map fun j=>eT (ρ.getD j .un))= .ok (.ax (g a)::caps.map fun j=>eT (ρ.getD j .un)):=by simp
    rw [List.map_cons,fj,ct,dW,ht a (by simp),dW]
    cases e:p a with
    | true=>
      simp only [if_true,h a (by simp) e,dW,if_pos (show ws.length < 1000000 by omega)]
      rw [b8 (ws ++ [f a]) _ (by simp; omega) (fun x hx=>ht x (by simp [hx])) fun x hx=>h x (by simp [hx])]
      simp [e]
    | false=>
      simp only [Bool.false_eq_true,if_false]
      rw [b8 ws _ (by omega) (fun x hx=>ht x (by simp [hx])) fun x hx=>h x (by simp [hx])]
      simp [e]
 rw [Hm,hi,dW]
 have e:=go xs [] .un (by simp; omega) ht h
 have:eK (fj (bQ 0) tst elt (xs.map g) (iO 1 caps ρ) [])= .ok ((xs.filter p).map f):=by
  show eK (fj (bQ 0) tst elt (xs.map g) (.un::caps.map fun j=>eT (ρ.getD j .un)) [])=_
  rw [e]; rfl
 rw [this,dW]; exact fin
theorem t6 {β α:Type} {mi:aK} {elt:ay} {caps:List Nat} {ρ:ai} {k:List D→R β} {T:β→Prop} (g:α→D) (xs:List α) (f:α→D) (hi:mi ρ= .ok (xs.map g)) (hl:xs.length≤1000) (h:∀a∈xs,elt (.ax (g a)::caps.map fun j=>eT (ρ.getD j .un))= .ok (f a)) (fin:Ends (k (xs.map f)) T):Ends ((d_ 1 caps mi (bQ 0) dZ elt ρ).bind k) T:=
 Cs g xs (fun _=>true) f hi hl (fun _ _=>rfl) (fun a ha _=>h a ha) (by rw [List.filter_eq_self.mpr fun _ _=>rfl]; exact fin)
theorem RI (n:Nat):gI 0 n=(List.range n).map fun (i:Nat)=> .int (i:Int):=by simp [gI]
theorem xo {β:Type} {mi:aK} {elt:ay} {caps:List Nat} {ρ:ai} {k:List D→R β} {T:β→Prop} (n:Nat) (f:Nat→D) (hi:mi ρ= .ok (gI 0 n)) (hl:n≤1000) (h:∀a,a < n→elt (.ax (.int (a:Int))::caps.map fun j=>eT (ρ.getD j .un))= .ok (f a)) (fin:Ends (k ((List.range n).map f)) T):Ends ((d_ 1 caps mi (bQ 0) dZ elt ρ).bind k) T:=
 t6 (fun (i:Nat)=> .int (i:Int)) (List.range n) f (by rw [hi,RI]) (by simpa using hl) (fun a ha=>h a (by simpa using ha)) fin
theorem Cv {β α:Type} {mi:aK} {set:D→ai→R ai} {body:a0} {ρ:ai} {k:e6→R β} {T:β→Prop} (g:α→D) (xs:List α) (I:Nat→ai→Prop) (hi:mi ρ= .ok (xs.map g)) (h0:I 0 ρ) (st:∀(j:Nat) a ρ,xs[j]? =some a→I j ρ→Ends ((set (g a) ρ).bind body) (tB (I (j + 1)))) (fin:∀bj,I xs.length bj→Ends (k (.a9 bj)) T):Ends ((fO mi set body ρ).bind k) T:=
 Cu I hi h0 (fun j d ρ hd j3=>by
  rw [List.getElem?_map] at hd
  cases e:xs[j]? with
  | none=>rw [e] at hd; cases hd
  | some a=>rw [e] at hd; cases hd; exact st j a ρ e j3) (by rw [List.length_map]; exact fin)
theorem xp {β:Type} {mi:aK} {set:D→ai→R ai} {body:a0} {ρ:ai} {k:e6→R β} {T:β→Prop} (n:Nat) (I:Nat→ai→Prop) (hi:mi ρ= .ok (gI 0 n)) (h0:I 0 ρ) (st:∀(j:Nat) ρ,j < n→I j ρ→Ends ((set (.int (j:Int)) ρ).bind body) (tB (I (j + 1)))) (fin:∀bj,I n bj→Ends (k (.a9 bj)) T):Ends ((fO mi set body ρ).bind k) T:=
 Cu I hi h0 (fun j d ρ hd j3=>by
  obtain ⟨cD,rfl⟩:=RJ hd
  exact st j ρ cD j3) (by rw [RL]; exact fin)
@[simp] theorem W4 (n:Nat) (h:n≤1000000):uK [.int (n:Int)]= .ok (gI 0 n):=by
  have: -(2 ^ 62)≤(n:Int)∧(n:Int)≤1000000:=⟨by omega,by omega⟩
  simp only [uK,if_pos this,Int.toNat_natCast]
@[simp] theorem W8 (i j:Int):Pj [.int i,.int j]= .ok (.int (if j > i then j else i)):=(rfl)
@[simp] theorem Bu {xs ys:List D} (h:xs.length + ys.length≤1000000):d7 (.lst xs) (.lst ys)= .ok (.lst (xs ++ ys)):=if_pos h
@[simp] theorem Xx (xs:List D) (l h:Option Int):oy (.lst xs) l h= .ok (.lst (fk xs l h)):=(rfl)
@[simp] theorem Xy (xs:List D) (l h:Option Int):oy (.b7 xs) l h= .ok (.lst (fk xs l h)):=(rfl)
theorem B_ {α β:Type} (g:α→β) (xs:List α) (l h:Option Int):fk (xs.map g) l h=(fk xs l h).map g:=by
 unfold fk
 simp [List.map_take,List.map_drop]
@[simp] theorem S0 (aO:List (D→ai→R ai)) (ds:List D) (ρ:ai):fR aO (.tup ds) ρ=gK aO ds ρ:=(rfl)
@[simp] theorem SX (ρ:ai):gK [] [] ρ= .ok ρ:=(rfl)
@[simp] theorem SW (f:D→ai→R ai) (aO:List (D→ai→R ai)) (d:D) (ds:List D) (ρ:ai):gK (f::aO) (d::ds) ρ=(f d ρ).bind fun bj=>gK aO ds bj:=(rfl)
@[simp] theorem Yo (bb:Str) (n:Nat) (mf:List D→R (List Str×List D)) (ma:aK) (ρ:ai):pT bb n mf ma ρ=(ma ρ).bind fun ds=>if ds.length=n then (eK (mf ds)).bind fun x=> .ok (.ins bb x.1 x.2) else .bad:=(rfl)
@[simp] theorem XJ (xs:List D):kQ [.lst xs]= .ok (.tup xs):=(rfl)
@[simp] theorem X5 (k:Str) (i:Int) (ρ:ai):O_ k i ρ= .ok (.cL [.inr k] [.int i]):=(rfl)
@[simp] theorem Xc (i:Int):oo (.int i)= .ok (.int (-i)):=(rfl)
@[simp] theorem Xp {x:D} {k:Int} (h0:0≤k) (h:k≤1000):qa (.lst [x]) (.int k)= .ok (.lst (List.replicate k.toNat x)):=by
  have b:0≤k∧k≤1000∧[x].length≤100:=⟨h0,h,by simp⟩
  simp only [qa,if_pos b]
  congr 2
  generalize k.toNat=n
  induction n with
  | zero=>rfl
  | succ n b8=>simp [List.replicate_succ,b8]
end aA
set_option Elab.async false
set_option linter.all false
set_option maxRecDepth 100000
set_option autoImplicit false
namespace aA
open PySem PySem.Spec aZ
@[simp] theorem Ho (m:aK) (ρ:ai):lH m ρ=(m ρ).bind pv:=(rfl)
@[simp] theorem v_is (m:ay) (ρ:ai):pR m ρ=(m ρ).bind Aj:=(rfl)
@[simp] theorem YK (m:aK) (ρ:ai):uS m ρ=(m ρ).bind sD:=(rfl)
@[simp] theorem Yq (i:Nat) (m:a0) (ρ:ai):rP i m ρ=m (jl i ρ):=(rfl)
@[simp] theorem Ya (c:bJ) (a b:ay) (ρ:ai):n6 c a b ρ=(c ρ).bind fun k=>if k=true then a ρ else b ρ:=(rfl)
@[simp] theorem Yx (a b:ay) (ρ:ai):pU a b ρ=(a ρ).bind fun x=>(iw x).bind fun c=>if c=true then .ok (.au true) else b ρ:=(rfl)
@[simp] theorem Yp (bb mt:Str) (n:Nat) (mf:List D→R b1) (o:ay) (ma:aK) (ρ:ai):lI bb mt n mf o ma ρ=(o ρ).bind fun d=>(ow bb mt d).bind fun d=>(ma ρ).bind fun ds=>if ds.length=n then (mf (d::ds)).bind gJ else .bad:=(rfl)
@[simp] theorem X4 (ρ:ai):uO ρ= .ok (.cL [] []):=(rfl)
@[simp] theorem Yn (i:Nat) (a:mj) (ρ:ai):pX i a ρ=(a ρ).bind fun t=>if i < ρ.length then .ok (.a9 (ρ.set i (.dm t))) else .bad:=(rfl)
@[simp] theorem Ym (a:mj) (ρ:ai):pW a ρ=(a ρ).bind fun t=> .ok (.g4 t):=(rfl)
noncomputable def AR:Option cQ→R T
 | some (.dm t)=> .ok t
 | _=> .bad
@[simp] theorem YQ (i:Nat) (ρ:ai):od i ρ=AR ρ[i]? :=by unfold od AR; rfl
@[simp] theorem YV (t:T):AR (some (.dm t))= .ok t:=(rfl)
noncomputable def AF:Option cQ→R (List T)
 | some (.dm (.lst ts))=> .ok ts
 | _=> .bad
@[simp] theorem YL (i:Nat) (ρ:ai):jJ i ρ=AF ρ[i]? :=by unfold jJ AF; rfl
@[simp] theorem XF (ts:List T):AF (some (.dm (.lst ts)))= .ok ts:=(rfl)
@[simp] theorem Xz (b:a0) (t:T):m9 b (.g4 t)= .ok (.g4 t):=(rfl)
@[simp] theorem Xh (t:T):outD (.g4 t)= .ok (.t t):=(rfl)
@[simp] theorem Xs (t:T):gJ (.t t)= .ok (toD t):=(rfl)
@[simp] theorem Wu (t:T):mE (.dm t)= .ax (toD t):=(rfl)
@[simp] theorem XQ (i:Nat) (mk m:ay) (ρ:ai):uN i mk m ρ=(jJ i ρ).bind fun ts=>(mk ρ).bind fun k=>qT i ρ ts m k:=(rfl)
theorem ID {i:Nat} {ρ:ai} {ts:List T} {m:ay} {k:Nat} {us:List T} {d:D} (h:ts[k]? =some (.lst us)) (hm:m ρ= .ok d) (hu:us.length < 1000000):qT i ρ ts m (.int (k:Int))= .ok (.a9 (ρ.set i (.dm (.lst (ts.set k (.lst (us ++ [.ax d]))))))):=by
 have hk:=(List.getElem?_eq_some_iff.mp h).1
 have e:fN ts.length (k:Int)=some k:=by unfold fN; rw [if_pos (by omega),if_pos (by omega)]; simp
 simp only [qT,e,wI,h,hm,dW,if_pos hu]
@[simp] theorem YB (i:Nat) (mk mv:ay) (ρ:ai):pV i mk mv ρ=(mv ρ).bind fun v=>(ownAt i ρ).bind fun ds=>(mk ρ).bind fun k=>putK i ρ ds v k:=(rfl)
theorem zl {i:Nat} {ρ:ai} {ds:List D} {v:D} {k:Nat} (h:k < ds.length):putK i ρ ds v (.int (k:Int))= .ok (.a9 (ρ.set i (.df (ds.set k v)))):=by
 have e:fN ds.length (k:Int)=some k:=by unfold fN; rw [if_pos (by omega),if_pos (by omega)]; simp
 simp only [putK,e,putN]
noncomputable def NH (ds:List D):D→R D
 | .int j=>match eZ ds j with
   | some d=> .ok d
   | none=> .bad
 | _=> .bad
@[simp] theorem Yg (i:Nat) (n:ay) (ρ:ai):EW i n ρ=(ownAt i ρ).bind fun ds=>(n ρ).bind (NH ds):=by
  unfold EW; congr 1
@[simp] theorem XE (k:Bool):ql [.au k]= .ok (.int (if k then 1 else 0)):=(rfl)
@[simp] theorem WN (x:D):ic true x .non= .ok (.au (hB x)):=(rfl)
@[simp] theorem Xv (x:Str):Aj (.str x)= .ok (x.cps.toList.map il):=(rfl)
theorem t7 {α:Type} (g:α→D) (xs:List α):pv [.lst (xs.map g)]= .ok (xs.zipIdx.map fun p=> .tup [.int (p.2:Int),g p.1]):=by
 simp only [pv,mB]
 congr 1
 rw [List.zipIdx_map,List.map_map]
 rfl
theorem A9 {α:Type} {xs:List α} {j:Nat} {p:α×Nat} (h:xs.zipIdx[j]? =some p):p.2=j∧xs[j]? =some p.1:=by
 rw [List.getElem?_zipIdx] at h
 cases e:xs[j]? with
 | none=>rw [e] at h; cases h
 | some a=>rw [e] at h; simp at h; subst h; exact ⟨rfl,rfl⟩
theorem vY {α:Type} {xs:List α} {p:α×Nat} (h:p∈xs.zipIdx):xs[p.2]? =some p.1:=by
 obtain ⟨j,e⟩:=List.mem_iff_getElem?.mp h
 obtain ⟨h1,h2⟩:=A9 e
 rw [h1]; exact h2
theorem q9 {β α:Type} {mi:aK} {elt:ay} {caps:List Nat} {ρ:ai} {k:List D→R β} {qP:β→Prop} (g1 g2:α→D) (xs:List α) (f:α→D) (hi:mi ρ= .ok (xs.map fun a=> .tup [g1 a,g2 a])) (hl:xs.length≤1000) (h:∀a∈xs,elt (.ax (g1 a):: .ax (g2 a)::caps.map fun j=>eT (ρ.getD j .un))= .ok (f a)) (fin:Ends (k (xs.map f)) qP):Ends ((d_ 2 caps mi (fR [bQ 0,bQ 1]) dZ elt ρ).bind k) qP:=by
 have go:∀(xs:List α) (ws:List D) (s0 s1:cQ),ws.length + xs.length≤1000000→(∀a∈xs,elt (.ax (g1 a):: .ax (g2 a)::caps.map fun j=>eT (ρ.getD j .un))= .ok (f a))→fj (fR [bQ 0,bQ 1]) dZ elt (xs.map fun a=> .tup [g1 a,g2 a]) (s0::s1::caps.map fun j=>eT (ρ.getD j .un)) ws= .ok (ws ++ xs.map f):=by
  intro xs
  induction xs with
  | nil=>intro ws s0 s1 _ _; simp [fj]
  | cons a xs b8=>
    intro ws s0 s1 hl h
    simp only [List.length_cons] at hl
    have ct:fR [bQ 0,bQ 1] (.tup [g1 a,g2 a]) (s0::s1::caps.map fun j=>eT (ρ.getD j .un))= .ok (.ax (g1 a):: .ax (g2 a)::caps.map fun j=>eT (ρ.getD j .un)):=by simp
    rw [List.map_cons,fj,ct,dW]
    simp only [dZ,dW,if_true,h a (by simp),if_pos (show ws.length < 1000000 by omega)]
    rw [b8 (ws ++ [f a]) _ _ (by simp; omega) fun x hx=>h x (by simp [hx])]
    simp
 rw [Hm,hi,dW]
 have e:=go xs [] .un .un (by simp; omega) h
 have:eK (fj (fR [bQ 0,bQ 1]) dZ elt (xs.map fun a=> .tup [g1 a,g2 a]) (iO 2 caps ρ) [])= .ok (xs.map f):=by
  show eK (fj (fR [bQ 0,bQ 1]) dZ elt (xs.map fun a=> .tup [g1 a,g2 a]) (.un:: .un::caps.map fun j=>eT (ρ.getD j .un)) [])=_
  rw [e]; rfl
 rw [this,dW]; exact fin
theorem Ct {β α:Type} {mi:aK} {elt:aK} {caps:List Nat} {ρ:ai} {k:T→R β} {qP:β→Prop} (g:α→D) (xs:List α) (f:α→List D) (hi:mi ρ= .ok (xs.map g)) (hl:xs.length≤1000) (h:∀a∈xs,elt (.ax (g a)::caps.map fun j=>eT (ρ.getD j .un))= .ok (f a)) (fin:Ends (k (.lst (xs.map fun a=>hC (f a)))) qP):Ends ((jx 1 caps mi (bQ 0) dZ elt ρ).bind k) qP:=by
 have go:∀(xs:List α) (ws:List T) (s0:cQ),ws.length + xs.length≤1000000→(∀a∈xs,elt (.ax (g a)::caps.map fun j=>eT (ρ.getD j .un))= .ok (f a))→jg (bQ 0) dZ elt (xs.map g) (s0::caps.map fun j=>eT (ρ.getD j .un)) ws= .ok (ws ++ xs.map fun a=>hC (f a)):=by
  intro xs
  induction xs with
  | nil=>intro ws s0 _ _; simp [jg]
  | cons a xs b8=>
    intro ws s0 hl h
    simp only [List.length_cons] at hl
    have ct:bQ 0 (g a) (s0::caps.map fun j=>eT (ρ.getD j .un))= .ok (.ax (g a)::caps.map fun j=>eT (ρ.getD j .un)):=by simp
    rw [List.map_cons,jg,ct,dW]
    simp only [dZ,dW,if_true,h a (by simp),if_pos (show ws.length < 1000000 by omega)]
    rw [b8 (ws ++ [hC (f a)]) _ (by simp; omega) fun x hx=>h x (by simp [hx])]
    simp
 have e:=go xs [] .un (by simp; omega) h
 have:jx 1 caps mi (bQ 0) dZ elt ρ= .ok (.lst (xs.map fun a=>hC (f a))):=by
  unfold jx
  rw [hi,dW]
  have:eK (jg (bQ 0) dZ elt (xs.map g) (iO 1 caps ρ) [])= .ok (xs.map fun a=>hC (f a)):=by
   show eK (jg (bQ 0) dZ elt (xs.map g) (.un::caps.map fun j=>eT (ρ.getD j .un)) [])=_
   rw [e]; rfl
  rw [this,dW]
 rw [this,dW]; exact fin
theorem Ends.done {β:Type} {r:R β} {b:β} (h:Ends r (· =b)):r= .ok b:=by
 obtain ⟨c,e,rfl⟩:=h
 exact e
end aA
set_option Elab.async false
set_option linter.all false
set_option maxRecDepth 100000
set_option autoImplicit false
namespace b4
open PySem PySem.Spec aZ aA
noncomputable def top (i:Nat):Stmt:=PySem.Challenge.pw_nohalfway_k06_ways_refused.main.body.getD i (.Pass ⟨0,0,0,0⟩)
noncomputable abbrev z1:Stmt:=top 44
noncomputable abbrev zX:Stmt:=top 43
noncomputable abbrev zY:Stmt:=top 45
noncomputable abbrev zZ:Stmt:=top 46
noncomputable abbrev z5:Stmt:=top 47
noncomputable abbrev zM:Stmt:=top 37
noncomputable abbrev zP:Stmt:=top 12
noncomputable abbrev zQ:Stmt:=top 13
noncomputable abbrev zK:Stmt:=top 38
noncomputable abbrev zR:Stmt:=top 39
noncomputable abbrev zF:Stmt:=top 40
noncomputable abbrev zE:Stmt:=top 36
noncomputable abbrev zB:Stmt:=inClass (top 41) 0
noncomputable abbrev z3:Stmt:=top 48
noncomputable abbrev z4:Stmt:=top 49
noncomputable abbrev zW:Stmt:=top 50
noncomputable abbrev zU:Stmt:=top 53
noncomputable abbrev zV:Stmt:=top 54
noncomputable abbrev zT:Stmt:=top 55
noncomputable abbrev zN:Stmt:=top 19
noncomputable abbrev zL:Stmt:=top 23
noncomputable abbrev zO:Stmt:=top 24
noncomputable abbrev zI:Stmt:=top 25
noncomputable abbrev zA:Stmt:=inClass (top 41) 1
noncomputable abbrev zJ:Stmt:=top 26
noncomputable abbrev z7:Stmt:=top 27
noncomputable abbrev zH:Stmt:=top 18
noncomputable abbrev zG:Stmt:=top 20
noncomputable abbrev z8:Stmt:=top 28
noncomputable abbrev zz:Stmt:=inClass (top 41) 3
noncomputable abbrev z6:Stmt:=top 30
noncomputable abbrev z9:Stmt:=top 31
noncomputable abbrev zC:Stmt:=inClass (top 41) 5
noncomputable abbrev zD:Stmt:=inClass (top 41) 6
noncomputable abbrev z_:Stmt:=top 32
noncomputable abbrev z2:Stmt:=top 51
noncomputable abbrev zS:Stmt:=top 52
noncomputable abbrev z0:Stmt:=top 56
noncomputable abbrev m6:Stmt:=top 57
noncomputable def pe:D:= .int 15
noncomputable def pf:D:= .int 4
noncomputable def nJ:D:= .int 6
noncomputable def my:D:= .int 12
noncomputable def pg:D:= .c1 [.str (PySem.Str.ofString "0"),.str (PySem.Str.ofString "1"),.str (PySem.Str.ofString "x")]
noncomputable def mz:D:= .c1 [.int 8,.int 4,.int 2,.int 1]
structure wx (K:PySem.W.Frag) (mg:Str→Option Value):Prop where
 C7:di K mg "_law_mix" z1 ["_law_cell","_law_k"]
 C3:di K mg "_law_cell_at" zX ["_law_script","_law_k"]
 C4:di K mg "_law_counts" zY ["_law_script"]
 C5:di K mg "_law_doors" zZ ["_law_counts_here"]
 Dc:di K mg "_law_wires" z5 ["_law_script","_law_counts_here"]
 CR:di K mg "is_pair" zM ["thing"]
 CU:di K mg "is_whole" zP ["thing"]
 CV:di K mg "is_whole_within" zQ ["thing","least","greatest"]
 CP:di K mg "is_door_among" zK ["counts","thing"]
 CW:di K mg "is_wire_among" zR ["counts","thing"]
 CK:di K mg "far_doors" zF ["counts","wires"]
 CJ:di K mg "are_counts" zE ["thing"]
 CG:InK K mg "Net" "Net.__init__" zB ["self","counts","wires"]
 C9:di K mg "_law_pattern" z3 ["_law_number"]
 C_:di K mg "_law_row" z4 ["_law_cell","_law_k","_law_doors_here"]
 C2:di K mg "_law_books" zW ["_law_cells","_law_counts_here"]
 C0:di K mg "_law_bad_books" zU ["_law_books_here","_law_number"]
 C1:di K mg "_law_bad_door" zV ["_law_counts_here","_law_wires_here","_law_number"]
 CZ:di K mg "_law_bad_address" zT ["_law_number"]
 CS:di K mg "is_pattern" zN ["thing"]
 CQ:di K mg "is_number_or_none" zL ["thing","doors"]
 CT:di K mg "is_row" zO ["thing","doors"]
 CN:di K mg "is_book" zI ["thing","doors"]
 CF:oO K "Net" "count" "Net.count" zA ["self","house"]
 CO:di K mg "is_books" zJ ["thing","net"]
 Df:di K mg "refuse_unless_books" z7 ["thing","net"]
 CM:di K mg "is_address" zH ["thing"]
 CL:di K mg "fits" zG ["pattern","address"]
 Dg:di K mg "taken" z8 ["book","door","address"]
 CE:oO K "Net" "beyond" "Net.beyond" zz ["self","door"]
 De:di K mg "onward" z6 ["net","book","door","address"]
 Dh:di K mg "walked" z9 ["net","books","door","address"]
 CH:oO K "Net" "is_door" "Net.is_door" zC ["self","thing"]
 CI:oO K "Net" "is_outer" "Net.is_outer" zD ["self","thing"]
 Di:di K mg "way" z_ ["net","books","door","address"]
 C8:di K mg "_law_names" z2 ["_law_e"]
 CY:di K mg "_law_asked" zS ["_law_net","_law_books_here","_law_door","_law_address"]
 C6:di K mg "_law_due" z0 ["_law_number"]
 K7:di K mg "law" m6 ["_law_script"]
 Hz:tn K mg "NoAddress"
 HA:tn K mg "NoBooks"
 HB:tn K mg "NoDoor"
 G9:kp K mg "NoAddress" [("NoBooks",false),("NoDoor",false),("NoAddress",true)]
 G_:kp K mg "NoBooks" [("NoBooks",true),("NoDoor",false),("NoAddress",false)]
 Ha:kp K mg "NoDoor" [("NoBooks",false),("NoDoor",true),("NoAddress",false)]
 Hb:kp K mg "NoMove" [("NoBooks",false),("NoDoor",false),("NoAddress",false)]
 Hc:kp K mg "NoNet" [("NoBooks",false),("NoDoor",false),("NoAddress",false)]
 Hd:kp K mg "NoPlan" [("NoBooks",false),("NoDoor",false),("NoAddress",false)]
 He:kp K mg "NoRow" [("NoBooks",false),("NoDoor",false),("NoAddress",false)]
 Hf:kp K mg "NoSaying" [("NoBooks",false),("NoDoor",false),("NoAddress",false)]
 Hg:kp K mg "NoText" [("NoBooks",false),("NoDoor",false),("NoAddress",false)]
 Hh:qK K (.type "ValueError") [("NoBooks",true),("NoDoor",true),("NoAddress",true)]
 GR:Bq K mg "WayError" ["NoBooks","NoDoor","NoAddress"]
 iY:qE K "Net" ["many","counts","joined","far"]
 BC:mg "ValueError"=none
 o4:mg "all"=none
 BD:mg "bool"=none
 qU:mg "enumerate"=none
 wQ:mg "int"=none
 fI:mg "isinstance"=none
 fa:mg "len"=none
 nH:mg "list"=none
 mw:mg "range"=none
 BH:mg "sorted"=none
 w7:mg "str"=none
 nI:mg "tuple"=none
 BJ:mg "zip"=none
 pe:nt K mg "GREATEST_ADDRESS" pe
 pf:nt K mg "MOST_DOORS" pf
 nJ:nt K mg "MOST_HOUSES" nJ
 my:nt K mg "MOST_ROWS" my
 pg:nt K mg "SIGNS" pg
 mz:nt K mg "WORTHS" mz
theorem SQ:cP ["_law_cell","_law_k"] ["_law_cell","_law_k"] (bP z1):=⟨rfl,rfl,rfl,by decide +kernel,rfl,by decide +kernel,by decide +kernel⟩
noncomputable def tQ:a0:=
  cz (ar eJ (ar d0 (ar kK (ar d7 (ar d0 (af 0) (ar m3 (aq (.int 10)) (aq (.int 30)))) (aq (.int 1))) (ar d7 (ar d7 (aq (.int 48271)) (ar kK (ar kK (aq (.int 2)) (af 1)) (af 1))) (af 1))) (aq (.int 2147483647))) (aq (.int 7)))
noncomputable def gZ:List D→R b1:=cU 2 tQ
theorem SP:cP ["_law_script","_law_k"] ["_law_script","_law_k"] (bP zX):=⟨rfl,rfl,rfl,by decide +kernel,rfl,by decide +kernel,by decide +kernel⟩
noncomputable def tP:a0:=
  bt (c9 (bz (ar n3 (af 1) (cy c5 (ag (af 0) (az))))) (cz (ar aR (af 0) (af 1))) (dc))
  (cz (aq (.int 0)))
noncomputable def jB:List D→R b1:=cU 2 tP
theorem F6:cP ["_law_script","_law_many"] ["_law_script"] (bP zY):=⟨rfl,rfl,rfl,by decide +kernel,rfl,by decide +kernel,by decide +kernel⟩
noncomputable def w1:a0:=
  bt (c6 1 (ar d7 (aq (.int 1)) (ar d0 (b5 2 gZ (ag (b5 2 jB (ag (af 0) (ag (aq (.int 0)) (az)))) (ag (aq (.int 1)) (az)))) (aq (.int 6)))))
  (iC (d_ 1 [0] (jy (ag (af 1) (az))) (bQ 0) (dZ) (ar d7 (aq (.int 1)) (ar d0 (b5 2 gZ (ag (b5 2 jB (ag (af 1) (ag (aq (.int 1)) (az)))) (ag (ar d7 (aq (.int 3)) (af 0)) (az)))) (aq (.int 4))))))
noncomputable def rX:List D→R b1:=cU 2 w1
theorem Ab:cP ["_law_counts_here","_law_doors_here","_law_house"] ["_law_counts_here"] (bP zZ):=⟨rfl,rfl,rfl,by decide +kernel,rfl,by decide +kernel,by decide +kernel⟩
noncomputable def w2:a0:=
  bt (gr 1 (dE (az)))
  (bt (fO (jy (ag (cy c5 (ag (af 0) (az))) (az))) (bQ 2) (pQ (rO 1 (cW (d_ 1 [2] (jy (ag (ar aR (af 0) (af 2)) (az))) (bQ 0) (dZ) (cV (ag (af 1) (ag (af 0) (az)))))))))
  (iC (oc 1)))
noncomputable def rY:List D→R b1:=cU 3 w2
theorem ov:cP ["_law_script","_law_counts_here","_law_doors_here","_law_some","_law_k","_law_dealt","_law_most","_law_many"] ["_law_script","_law_counts_here"] (bP z5):=⟨rfl,rfl,rfl,by decide +kernel,rfl,by decide +kernel,by decide +kernel⟩
noncomputable def w5:a0:=
  bt (c6 2 (cW (kH 1 rY (ag (af 1) (az)))))
  (bt (gr 3 (dE (az)))
  (bt (fO (jy (ag (cy c5 (ag (af 2) (az))) (az))) (bQ 4) (n4 3 (cV (ag (b5 2 gZ (ag (ar d7 (b5 2 jB (ag (af 0) (ag (aq (.int 2)) (az)))) (ar kK (af 4) (af 4))) (ag (ar d7 (aq (.int 20)) (af 4)) (az)))) (ag (ar aR (af 2) (af 4)) (az))))))
  (bt (rP 3 (oa 5 (d_ 2 [] (hD (cW (uS (ag (af 3) (az))))) (fR [bQ 0,bQ 1]) (dZ) (af 1))))
  (bt (c6 6 (ar eJ (ar m_ (cy c5 (ag (af 2) (az))) (aq (.int 1))) (aq (.int 2))))
  (bt (c6 7 (ar m_ (af 6) (ar d0 (b5 2 gZ (ag (b5 2 jB (ag (af 0) (ag (aq (.int 3)) (az)))) (ag (aq (.int 11)) (az)))) (ar d7 (ar eJ (af 6) (aq (.int 3))) (aq (.int 1))))))
  (iC (d_ 1 [5] (jy (ag (af 7) (az))) (bQ 0) (dZ) (cV (ag (ar aR (af 1) (ar kK (aq (.int 2)) (af 0))) (ag (ar aR (af 1) (ar d7 (ar kK (aq (.int 2)) (af 0)) (aq (.int 1)))) (az)))))))))))
noncomputable def r2:List D→R b1:=cU 8 w5
theorem SI:cP ["thing"] ["thing"] (bP zM):=⟨rfl,rfl,rfl,by decide +kernel,rfl,by decide +kernel,by decide +kernel⟩
noncomputable def BE:a0:=
  cz (i1 (cH (fM "tuple") (af 0)) (ar (dp true) (cy c5 (ag (af 0) (az))) (aq (.int 2))))
noncomputable def p0:List D→R b1:=cU 1 BE
theorem SM:cP ["thing"] ["thing"] (bP zP):=⟨rfl,rfl,rfl,by decide +kernel,rfl,by decide +kernel,by decide +kernel⟩
noncomputable def BF:a0:=
  cz (i1 (cH (fM "int") (af 0)) (n9 (cH (fM "bool") (af 0))))
noncomputable def yS:List D→R b1:=cU 1 BF
theorem SN:cP ["thing","least","greatest"] ["thing","least","greatest"] (bP zQ):=⟨rfl,rfl,rfl,by decide +kernel,rfl,by decide +kernel,by decide +kernel⟩
noncomputable def wW:a0:=
  cz (i1 (b5 1 yS (ag (af 0) (az))) (ih j_ j_ (af 1) (af 0) (af 2)))
noncomputable def kJ:List D→R b1:=cU 3 wW
theorem SG:cP ["counts","thing"] ["counts","thing"] (bP zK):=⟨rfl,rfl,rfl,by decide +kernel,rfl,by decide +kernel,by decide +kernel⟩
noncomputable def o6:a0:=
  bt (c9 (fE (ea (bz (b5 1 p0 (ag (af 1) (az))))) (ea (bz (b5 3 kJ (ag (ar aR (af 1) (aq (.int 0))) (ag (aq (.int 0)) (ag (ar m_ (cy c5 (ag (af 0) (az))) (aq (.int 1))) (az)))))))) (cz (aq (.au false))) (dc))
  (cz (b5 3 kJ (ag (ar aR (af 1) (aq (.int 1))) (ag (aq (.int 0)) (ag (ar m_ (ar aR (af 0) (ar aR (af 1) (aq (.int 0)))) (aq (.int 1))) (az))))))
noncomputable def jz:List D→R b1:=cU 2 o6
theorem F4:cP ["counts","thing","both"] ["counts","thing"] (bP zR):=⟨rfl,rfl,rfl,by decide +kernel,rfl,by decide +kernel,by decide +kernel⟩
noncomputable def wX:a0:=
  bt (c9 (ea (bz (b5 1 p0 (ag (af 1) (az))))) (cz (aq (.au false))) (dc))
  (bt (c6 2 (i1 (b5 2 jz (ag (af 0) (ag (ar aR (af 1) (aq (.int 0))) (az)))) (b5 2 jz (ag (af 0) (ag (ar aR (af 1) (aq (.int 1))) (az))))))
  (cz (i1 (af 2) (ar (dp false) (ar aR (af 1) (aq (.int 0))) (ar aR (af 1) (aq (.int 1)))))))
noncomputable def p1:List D→R b1:=cU 3 wX
theorem Aa:cP ["counts","wires","far","wire"] ["counts","wires"] (bP zF):=⟨rfl,rfl,rfl,by decide +kernel,rfl,by decide +kernel,by decide +kernel⟩
noncomputable def tO:a0:=
  bt (rR 2)
  (bt (fO (n5 (af 1)) (bQ 3) (bt (c9 (ea (bz (b5 2 p1 (ag (af 0) (ag (af 3) (az)))))) (pN) (dc))
  (bt (c9 (i2 (fE (bz (ar (fA true) (ar aR (af 3) (aq (.int 0))) (af 2))) (bz (ar (fA true) (ar aR (af 3) (aq (.int 1))) (af 2))))) (pN) (dc))
  (bt (lG 2 (ar aR (af 3) (aq (.int 0))) (ar aR (af 3) (aq (.int 1))))
  (lG 2 (ar aR (af 3) (aq (.int 1))) (ar aR (af 3) (aq (.int 0))))))))
  (ka (af 2)))
noncomputable def pY:List D→R b1:=cU 4 tO
theorem Sz:cP ["thing"] ["thing"] (bP zE):=⟨rfl,rfl,rfl,by decide +kernel,rfl,by decide +kernel,by decide +kernel⟩
noncomputable def tN:a0:=
  bt (c9 (fE (ea (bz (cH (fM "list") (af 0)))) (ea (bz (ih j_ j_ (aq (.int 1)) (cy c5 (ag (af 0) (az))) (aq nJ))))) (cz (aq (.au false))) (dc))
  (cz (cy c4 (ag (cW (d_ 1 [] (hD (af 0)) (bQ 0) (dZ) (b5 3 kJ (ag (af 0) (ag (aq (.int 1)) (ag (aq pf) (az))))))) (az))))
noncomputable def rV:List D→R b1:=cU 1 tN
theorem Sw:cP ["self","counts","wires"] ["self","counts","wires"] (bP zB):=⟨rfl,rfl,rfl,by decide +kernel,rfl,by decide +kernel,by decide +kernel⟩
noncomputable def tL:hO:=
  kI (mT (ea (bz (b5 1 rV (ag (af 1) (az))))))
  (kI (mT (ea (bz (cH (fM "list") (af 2)))))
  (kI (i3 "Net" "many" (cy c5 (ag (af 1) (az))))
  (kI (i3 "Net" "counts" (cy kQ (ag (af 1) (az))))
  (kI (i3 "Net" "joined" (cy kQ (ag (af 2) (az))))
  (i3 "Net" "far" (mS (b5 2 pY (ag (cH (f6 "Net" "counts") (af 0)) (ag (cH (f6 "Net" "joined") (af 0)) (az))))))))))
noncomputable def yR:List D→R (List Str×List D):=fun ae=>outI "Net" (tL (iV "Net" ae))
theorem sz:cP ["_law_number","_law_signs","_law_k"] ["_law_number"] (bP z3):=⟨rfl,rfl,rfl,by decide +kernel,rfl,by decide +kernel,by decide +kernel⟩
noncomputable def w3:a0:=
  bt (c6 1 (aq (.str (PySem.Str.ofString ""))))
  (bt (fO (jy (ag (aq (.int 4)) (az))) (bQ 2) (bt (c6 1 (ar d7 (af 1) (ar aR (aq (.str (PySem.Str.ofString "01xx"))) (ar d0 (af 0) (aq (.int 4))))))
  (c6 0 (ar eJ (af 0) (aq (.int 4))))))
  (cz (af 1)))
noncomputable def r0:List D→R b1:=cU 3 w3
theorem vo:cP ["_law_cell","_law_k","_law_doors_here","_law_number","_law_into","_law_out"] ["_law_cell","_law_k","_law_doors_here"] (bP z4):=⟨rfl,rfl,rfl,by decide +kernel,rfl,by decide +kernel,by decide +kernel⟩
noncomputable def w4:a0:=
  bt (c6 3 (b5 2 gZ (ag (af 0) (ag (af 1) (az)))))
  (bt (c6 4 (ar aR (cW (dE (ag (aq .non) (ag (ar d0 (ar eJ (af 3) (aq (.int 700))) (af 2)) (az))))) (ar d0 (ar eJ (af 3) (aq (.int 256))) (aq (.int 2)))))
  (bt (c6 5 (ar aR (cW (dE (ag (ar d0 (ar eJ (af 3) (aq (.int 3000))) (af 2)) (ag (aq .non) (az))))) (cy ql (ag (ar (dp true) (ar d0 (ar eJ (af 3) (aq (.int 20000))) (aq (.int 9))) (aq (.int 0))) (az)))))
  (cz (cV (ag (b5 1 r0 (ag (af 3) (az))) (ag (af 4) (ag (af 5) (az))))))))
noncomputable def r1:List D→R b1:=cU 6 w4
theorem sy:cP ["_law_cells","_law_counts_here","_law_books_here","_law_k","_law_cell","_law_house"] ["_law_cells","_law_counts_here"] (bP zW):=⟨rfl,rfl,rfl,by decide +kernel,rfl,by decide +kernel,by decide +kernel⟩
noncomputable def w0:a0:=
  bt (pX 2 (jx 1 [] (hD (af 1)) (bQ 0) (dZ) (dE (az))))
  (bt (fO (lH (ag (af 0) (az))) (fR [bQ 3,bQ 4]) (bt (c6 5 (ar d0 (af 3) (cy c5 (ag (af 1) (az)))))
  (c9 (i2 (bz (ar n3 (cy c5 (ag (ar aR (af 2) (af 5)) (az))) (aq (.int 12))))) (uN 2 (af 5) (b5 3 r1 (ag (af 4) (ag (ar d7 (aq (.int 31)) (af 3)) (ag (ar aR (af 1) (af 5)) (az)))))) (dc))))
  (pW (od 2)))
noncomputable def rW:List D→R b1:=cU 6 w0
theorem vn:cP ["_law_books_here","_law_number","_law_spoiled","_law_house","_law_bad"] ["_law_books_here","_law_number"] (bP zU):=⟨rfl,rfl,rfl,by decide +kernel,rfl,by decide +kernel,by decide +kernel⟩
noncomputable def qX:a0:=
  bt (c9 (bz (ar (dp true) (ar d0 (af 1) (aq (.int 4))) (aq (.int 0)))) (cz (ar d7 (af 0) (cW (dE (ag (cW (dE (az))) (az)))))) (dc))
  (bt (c9 (bz (ar (dp true) (ar d0 (af 1) (aq (.int 4))) (aq (.int 1)))) (cz (ar aR (cW (dE (ag (aq .non) (ag (cy kQ (ag (af 0) (az))) (ag (uO) (ag (aq (.str (PySem.Str.ofString "-"))) (ag (aq (.int 7)) (ag (ar qa (cW (dE (ag (aq .non) (az)))) (cy c5 (ag (af 0) (az)))) (az))))))))) (ar d0 (ar eJ (af 1) (aq (.int 4))) (aq (.int 6))))) (dc))
  (bt (pX 2 (jx 1 [] (hD (af 0)) (bQ 0) (dZ) (n8 (ag (af 0) (az)))))
  (bt (c6 3 (ar d0 (ar eJ (af 1) (aq (.int 4))) (cy c5 (ag (af 0) (az)))))
  (bt (c6 4 (ar aR (cW (dE (ag (cV (ag (aq (.str (PySem.Str.ofString "xxx"))) (ag (aq .non) (ag (aq (.int 0)) (az))))) (ag (cV (ag (aq (.str (PySem.Str.ofString "xxxx"))) (ag (aq .non) (ag (aq (.int 4)) (az))))) (ag (cW (dE (ag (aq (.str (PySem.Str.ofString "xxxx"))) (ag (aq .non) (ag (aq (.int 0)) (az)))))) (ag (cV (ag (aq (.str (PySem.Str.ofString "xxxx"))) (ag (aq (.au true)) (ag (aq (.int 0)) (az))))) (ag (cV (ag (aq (.str (PySem.Str.ofString "xxxx"))) (ag (aq .non) (az)))) (az)))))))) (ar d0 (ar eJ (af 1) (aq (.int 24))) (aq (.int 5)))))
  (bt (uP 2 (af 3) (pO (ar d0 (ar eJ (af 1) (aq (.int 120))) (ar d7 (cy c5 (ag (ar aR (af 2) (af 3)) (az))) (aq (.int 1))))) (af 4))
  (pW (od 2)))))))
noncomputable def oh:List D→R b1:=cU 5 qX
theorem F5:cP ["_law_counts_here","_law_wires_here","_law_number","_law_some"] ["_law_counts_here","_law_wires_here","_law_number"] (bP zV):=⟨rfl,rfl,rfl,by decide +kernel,rfl,by decide +kernel,by decide +kernel⟩
noncomputable def qY:a0:=
  bt (c6 3 (cW (dE (ag (cV (ag (aq (.int 0)) (ag (ar aR (af 0) (aq (.int 0))) (az)))) (ag (cV (ag (cy c5 (ag (af 0) (az))) (ag (aq (.int 0)) (az)))) (ag (cV (ag (cH oo (aq (.int 1))) (ag (aq (.int 0)) (az)))) (ag (aq .non) (ag (aq (.int 0)) (ag (cW (dE (ag (aq (.int 0)) (ag (aq (.int 0)) (az))))) (ag (cV (ag (aq (.int 0)) (az))) (ag (cV (ag (aq (.au true)) (ag (aq (.int 0)) (az)))) (ag (aq (.str (PySem.Str.ofString "0.0"))) (ag (cV (ag (aq (.int 0)) (ag (ar m3 (aq (.int 10)) (aq (.int 30))) (az)))) (az))))))))))))))
  (bt (c9 (lF (bz (ar rm (cy c5 (ag (af 1) (az))) (aq (.int 0)))) (bz (ar (dp true) (ar d0 (af 2) (aq (.int 2))) (aq (.int 0))))) (cz (ar aR (ar aR (af 1) (ar d0 (ar eJ (af 2) (aq (.int 2))) (cy c5 (ag (af 1) (az))))) (ar d0 (ar eJ (af 2) (aq (.int 40))) (aq (.int 2))))) (dc))
  (cz (ar aR (af 3) (ar d0 (ar eJ (af 2) (aq (.int 2))) (aq (.int 10))))))
noncomputable def p2:List D→R b1:=cU 4 qY
theorem SO:cP ["_law_number"] ["_law_number"] (bP zT):=⟨rfl,rfl,rfl,by decide +kernel,rfl,by decide +kernel,by decide +kernel⟩
noncomputable def wZ:a0:=
  cz (ar aR (cW (dE (ag (aq (.int 16)) (ag (cH oo (aq (.int 1))) (ag (aq (.au true)) (ag (aq (.str (PySem.Str.ofString "3"))) (ag (aq .non) (ag (cV (ag (aq (.int 3)) (az))) (ag (ar m3 (aq (.int 10)) (aq (.int 30))) (ag (ar d7 (aq (.int 16)) (ar d0 (ar eJ (af 0) (aq (.int 9))) (aq (.int 1000)))) (ag (cH oo (af 0)) (az)))))))))))) (ar d0 (af 0) (aq (.int 9))))
noncomputable def uV:List D→R b1:=cU 1 wZ
theorem SJ:cP ["thing"] ["thing"] (bP zN):=⟨rfl,rfl,rfl,by decide +kernel,rfl,by decide +kernel,by decide +kernel⟩
noncomputable def wU:a0:=
  bt (c9 (fE (ea (bz (cH (fM "str") (af 0)))) (bz (ar (dp false) (cy c5 (ag (af 0) (az))) (cy c5 (ag (aq mz) (az)))))) (cz (aq (.au false))) (dc))
  (cz (cy c4 (ag (cW (d_ 1 [] (pR (af 0)) (bQ 0) (dZ) (ar (inD true) (af 0) (aq pg)))) (az))))
noncomputable def oe:List D→R b1:=cU 1 wU
theorem SH:cP ["thing","doors"] ["thing","doors"] (bP zL):=⟨rfl,rfl,rfl,by decide +kernel,rfl,by decide +kernel,by decide +kernel⟩
noncomputable def qW:a0:=
  cz (pU (ar (ic true) (af 0) (aq .non)) (b5 3 kJ (ag (af 0) (ag (aq (.int 0)) (ag (ar m_ (af 1) (aq (.int 1))) (az))))))
noncomputable def jA:List D→R b1:=cU 2 qW
theorem SK:cP ["thing","doors"] ["thing","doors"] (bP zO):=⟨rfl,rfl,rfl,by decide +kernel,rfl,by decide +kernel,by decide +kernel⟩
noncomputable def wV:a0:=
  bt (c9 (fE (ea (bz (cH (fM "tuple") (af 0)))) (bz (ar (dp false) (cy c5 (ag (af 0) (az))) (aq (.int 3))))) (cz (aq (.au false))) (dc))
  (bt (c9 (ea (bz (b5 1 oe (ag (ar aR (af 0) (aq (.int 0))) (az))))) (cz (aq (.au false))) (dc))
  (cz (i1 (b5 2 jA (ag (ar aR (af 0) (aq (.int 1))) (ag (af 1) (az)))) (b5 2 jA (ag (ar aR (af 0) (aq (.int 2))) (ag (af 1) (az)))))))
noncomputable def mU:List D→R b1:=cU 2 wV
theorem SE:cP ["thing","doors"] ["thing","doors"] (bP zI):=⟨rfl,rfl,rfl,by decide +kernel,rfl,by decide +kernel,by decide +kernel⟩
noncomputable def o5:a0:=
  bt (c9 (fE (ea (bz (cH (fM "list") (af 0)))) (bz (ar rm (cy c5 (ag (af 0) (az))) (aq my)))) (cz (aq (.au false))) (dc))
  (cz (cy c4 (ag (cW (d_ 1 [1] (hD (af 0)) (bQ 0) (dZ) (b5 2 mU (ag (af 0) (ag (af 1) (az)))))) (az))))
noncomputable def i4:List D→R b1:=cU 2 o5
theorem Sv:cP ["self","house"] ["self","house"] (bP zA):=⟨rfl,rfl,rfl,by decide +kernel,rfl,by decide +kernel,by decide +kernel⟩
noncomputable def wM:a0:=
  cz (n6 (bz (ih j_ n3 (aq (.int 0)) (af 1) (cH (f6 "Net" "many") (af 0)))) (ar aR (cH (f6 "Net" "counts") (af 0)) (af 1)) (aq (.int 0)))
noncomputable def uT:List D→R b1:=cU 2 wM
theorem SF:cP ["thing","net"] ["thing","net"] (bP zJ):=⟨rfl,rfl,rfl,by decide +kernel,rfl,by decide +kernel,by decide +kernel⟩
noncomputable def qV:a0:=
  bt (c9 (fE (ea (bz (cH (fM "list") (af 0)))) (bz (ar (dp false) (cy c5 (ag (af 0) (az))) (cH (f6 "Net" "many") (af 1))))) (cz (aq (.au false))) (dc))
  (cz (cy c4 (ag (cW (d_ 2 [1] (lH (ag (af 0) (az))) (fR [bQ 0,bQ 1]) (dZ) (b5 2 i4 (ag (af 1) (ag (lI "Net" "count" 1 uT (af 2) (ag (af 0) (az))) (az)))))) (az))))
noncomputable def hF:List D→R b1:=cU 2 qV
theorem SR:cP ["thing","net"] ["thing","net"] (bP z7):=⟨rfl,rfl,rfl,by decide +kernel,rfl,by decide +kernel,by decide +kernel⟩
noncomputable def w6:a0:=
  c9 (oq (ea (bz (b5 2 hF (ag (af 0) (ag (af 1) (az))))))) (rQ "NoBooks") (dc)
noncomputable def uW:List D→R b1:=cU 2 w6
theorem SD:cP ["thing"] ["thing"] (bP zH):=⟨rfl,rfl,rfl,by decide +kernel,rfl,by decide +kernel,by decide +kernel⟩
noncomputable def wR:a0:=
  cz (b5 3 kJ (ag (af 0) (ag (aq (.int 0)) (ag (aq pe) (az)))))
noncomputable def kb:List D→R b1:=cU 1 wR
theorem SA:cP ["pattern","address"] ["pattern","address"] (bP zG):=⟨rfl,rfl,rfl,by decide +kernel,rfl,by decide +kernel,by decide +kernel⟩
noncomputable def wO:a0:=
  bt (c9 (fE (ea (bz (b5 1 oe (ag (af 0) (az))))) (ea (bz (b5 1 kb (ag (af 1) (az)))))) (cz (aq (.au false))) (dc))
  (cz (cy c4 (ag (cW (d_ 2 [1] (pS (ag (af 0) (ag (aq mz) (az)))) (fR [bQ 0,bQ 1]) (dZ) (ar (inD true) (af 0) (cV (ag (aq (.str (PySem.Str.ofString "x"))) (ag (cy oz (ag (ar d0 (ar eJ (af 2) (af 1)) (aq (.int 2))) (az))) (az))))))) (az))))
noncomputable def pZ:List D→R b1:=cU 2 wO
theorem Ad:cP ["book","door","address","number","row"] ["book","door","address"] (bP z8):=⟨rfl,rfl,rfl,by decide +kernel,rfl,by decide +kernel,by decide +kernel⟩
noncomputable def w8:a0:=
  bt (fO (lH (ag (af 0) (az))) (fR [bQ 3,bQ 4]) (c9 (lF (fE (bz (ar (ic true) (ar aR (af 4) (aq (.int 1))) (aq .non))) (bz (ar (dp true) (ar aR (af 4) (aq (.int 1))) (af 1)))) (bz (b5 2 pZ (ag (ar aR (af 4) (aq (.int 0))) (ag (af 2) (az)))))) (cz (af 3)) (dc)))
  (cz (aq .non))
noncomputable def uX:List D→R b1:=cU 5 w8
theorem Su:cP ["self","door"] ["self","door"] (bP zz):=⟨rfl,rfl,rfl,by decide +kernel,rfl,by decide +kernel,by decide +kernel⟩
noncomputable def wL:a0:=
  cz (rN (cH (f6 "Net" "far") (af 0)) (af 1))
noncomputable def rU:List D→R b1:=cU 2 wL
theorem vp:cP ["net","book","door","address","number","out","far"] ["net","book","door","address"] (bP z6):=⟨rfl,rfl,rfl,by decide +kernel,rfl,by decide +kernel,by decide +kernel⟩
noncomputable def o9:a0:=
  bt (c6 4 (b5 3 uX (ag (af 1) (ag (ar aR (af 2) (aq (.int 1))) (ag (af 3) (az))))))
  (bt (c6 5 (n6 (bz (ar (ic true) (af 4) (aq .non))) (aq .non) (ar aR (ar aR (af 1) (af 4)) (aq (.int 2)))))
  (bt (c9 (bz (ar (ic true) (af 5) (aq .non))) (cz (cV (ag (aq (.str (PySem.Str.ofString "drop"))) (ag (ar aR (af 2) (aq (.int 0))) (az))))) (dc))
  (bt (c6 6 (lI "Net" "beyond" 1 rU (af 0) (ag (cV (ag (ar aR (af 2) (aq (.int 0))) (ag (af 5) (az)))) (az))))
  (bt (c9 (bz (ar (ic true) (af 6) (aq .non))) (cz (cV (ag (aq (.str (PySem.Str.ofString "out"))) (ag (ar aR (af 2) (aq (.int 0))) (ag (af 5) (az)))))) (dc))
  (cz (cV (ag (aq (.str (PySem.Str.ofString "at"))) (ag (ar aR (af 6) (aq (.int 0))) (ag (ar aR (af 6) (aq (.int 1))) (az))))))))))
noncomputable def lJ:List D→R b1:=cU 7 o9
theorem vq:cP ["net","books","door","address","doors","told"] ["net","books","door","address"] (bP z9):=⟨rfl,rfl,rfl,by decide +kernel,rfl,by decide +kernel,by decide +kernel⟩
noncomputable def BI:a0:=
  bt (gr 4 (dE (az)))
  (bt (rT (i2 (bz (ar (inD false) (af 2) (af 4)))) (bt (n4 4 (af 2))
  (bt (c6 5 (b5 4 lJ (ag (af 0) (ag (ar aR (af 1) (ar aR (af 2) (aq (.int 0)))) (ag (af 2) (ag (af 3) (az)))))))
  (bt (c9 (bz (ar (dp false) (ar aR (af 5) (aq (.int 0))) (aq (.str (PySem.Str.ofString "at"))))) (ka (cV (ag (af 4) (ag (af 5) (az))))) (dc))
  (c6 2 (cV (ag (ar aR (af 5) (aq (.int 1))) (ag (ar aR (af 5) (aq (.int 2))) (az)))))))))
  (ka (cV (ag (af 4) (ag (cV (ag (aq (.str (PySem.Str.ofString "ring"))) (ag (n7 (af 4) (ag (af 2) (az))) (az)))) (az))))))
noncomputable def r3:List D→R b1:=cU 6 BI
theorem Sx:cP ["self","thing"] ["self","thing"] (bP zC):=⟨rfl,rfl,rfl,by decide +kernel,rfl,by decide +kernel,by decide +kernel⟩
noncomputable def wN:a0:=
  cz (b5 2 jz (ag (cH (f6 "Net" "counts") (af 0)) (ag (af 1) (az))))
noncomputable def uU:List D→R b1:=cU 2 wN
theorem Sy:cP ["self","thing"] ["self","thing"] (bP zD):=⟨rfl,rfl,rfl,by decide +kernel,rfl,by decide +kernel,by decide +kernel⟩
noncomputable def tM:a0:=
  cz (i1 (lI "Net" "is_door" 1 uU (af 0) (ag (af 1) (az))) (ar (fA false) (af 1) (cH (f6 "Net" "far") (af 0))))
noncomputable def iD:List D→R b1:=cU 2 tM
theorem SS:cP ["net","books","door","address"] ["net","books","door","address"] (bP z_):=⟨rfl,rfl,rfl,by decide +kernel,rfl,by decide +kernel,by decide +kernel⟩
noncomputable def pa:a0:=
  bt (pP (b5 2 uW (sd (ag (af 1) (ag (af 0) (az))))))
  (bt (c9 (oq (ea (bz (lI "Net" "is_outer" 1 iD (af 0) (ag (af 2) (az)))))) (rQ "NoDoor") (dc))
  (bt (c9 (oq (ea (bz (b5 1 kb (ag (af 3) (az)))))) (rQ "NoAddress") (dc))
  (se (cz (b5 4 r3 (ag (af 0) (ag (af 1) (ag (af 2) (ag (af 3) (az))))))))))
noncomputable def jC:List D→R b1:=cU 4 pa
theorem qd:cP ["_law_e","_law_some"] ["_law_e"] (bP z2):=⟨rfl,rfl,rfl,by decide +kernel,rfl,by decide +kernel,by decide +kernel⟩
noncomputable def BG:a0:=
  bt (c6 1 (cW (dE (ag (cV (ag (aq (.str (PySem.Str.ofString "NoNet"))) (ag (cH (ie [("NoBooks",false),("NoDoor",false),("NoAddress",false)]) (af 0)) (az)))) (ag (cV (ag (aq (.str (PySem.Str.ofString "NoBooks"))) (ag (cH (ie [("NoBooks",true),("NoDoor",false),("NoAddress",false)]) (af 0)) (az)))) (ag (cV (ag (aq (.str (PySem.Str.ofString "NoDoor"))) (ag (cH (ie [("NoBooks",false),("NoDoor",true),("NoAddress",false)]) (af 0)) (az)))) (az)))))))
  (bt (c6 1 (ar d7 (af 1) (cW (dE (ag (cV (ag (aq (.str (PySem.Str.ofString "NoAddress"))) (ag (cH (ie [("NoBooks",false),("NoDoor",false),("NoAddress",true)]) (af 0)) (az)))) (ag (cV (ag (aq (.str (PySem.Str.ofString "NoSaying"))) (ag (cH (ie [("NoBooks",false),("NoDoor",false),("NoAddress",false)]) (af 0)) (az)))) (az)))))))
  (bt (c6 1 (ar d7 (af 1) (cW (dE (ag (cV (ag (aq (.str (PySem.Str.ofString "NoRow"))) (ag (cH (ie [("NoBooks",false),("NoDoor",false),("NoAddress",false)]) (af 0)) (az)))) (ag (cV (ag (aq (.str (PySem.Str.ofString "NoPlan"))) (ag (cH (ie [("NoBooks",false),("NoDoor",false),("NoAddress",false)]) (af 0)) (az)))) (az)))))))
  (bt (c6 1 (ar d7 (af 1) (cW (dE (ag (cV (ag (aq (.str (PySem.Str.ofString "NoMove"))) (ag (cH (ie [("NoBooks",false),("NoDoor",false),("NoAddress",false)]) (af 0)) (az)))) (ag (cV (ag (aq (.str (PySem.Str.ofString "NoText"))) (ag (cH (ie [("NoBooks",false),("NoDoor",false),("NoAddress",false)]) (af 0)) (az)))) (az)))))))
  (bt (c6 1 (ar d7 (af 1) (cW (dE (ag (cV (ag (aq (.str (PySem.Str.ofString "plain"))) (ag (n9 (cH (ie [("NoBooks",true),("NoDoor",true),("NoAddress",true)]) (af 0))) (az)))) (az))))))
  (iC (d_ 2 [] (hD (af 1)) (fR [bQ 0,bQ 1]) (bz (af 1)) (af 0)))))))
noncomputable def rZ:List D→R b1:=cU 2 BG
theorem sx:cP ["_law_net","_law_books_here","_law_door","_law_address","_law_error","_law_found","_law_e"] ["_law_net","_law_books_here","_law_door","_law_address"] (bP zS):=⟨rfl,rfl,rfl,by decide +kernel,rfl,by decide +kernel,by decide +kernel⟩
noncomputable def o7:a0:=
  bt (c6 4 (aq .non))
  (bt (c6 5 (aq .non))
  (bt (rS 6 5 ["NoBooks","NoDoor","NoAddress"] 4 jC (ag (af 0) (ag (af 1) (ag (af 2) (ag (af 3) (az))))) (c6 4 (af 6)))
  (bt (c9 (bz (ar (ic true) (af 4) (aq .non))) (cz (cV (ag (cW (dE (az))) (ag (i1 (cH (fM "tuple") (af 5)) (ar (dp true) (cy c5 (ag (af 5) (az))) (aq (.int 2)))) (az))))) (dc))
  (cz (cV (ag (cW (kH 1 rZ (ag (af 4) (az)))) (ag (aq (.au true)) (az))))))))
noncomputable def mV:List D→R b1:=cU 7 o7
theorem Ac:cP ["_law_number","_law_due_here","_law_k"] ["_law_number"] (bP z0):=⟨rfl,rfl,rfl,by decide +kernel,rfl,by decide +kernel,by decide +kernel⟩
noncomputable def o8:a0:=
  bt (c6 1 (cW (dE (ag (cW (dE (ag (aq (.str (PySem.Str.ofString "NoBooks"))) (az)))) (ag (cW (dE (ag (aq (.str (PySem.Str.ofString "NoDoor"))) (az)))) (ag (cW (dE (ag (aq (.str (PySem.Str.ofString "NoAddress"))) (az)))) (az)))))))
  (bt (fO (jy (ag (aq (.int 3)) (az))) (bQ 2) (c9 (bz (ar (dp true) (ar d0 (ar eJ (af 0) (ar aR (cW (dE (ag (aq (.int 1)) (ag (aq (.int 2)) (ag (aq (.int 4)) (az)))))) (af 2))) (aq (.int 2))) (aq (.int 1)))) (cz (ar aR (af 1) (af 2))) (dc)))
  (iC (dE (az))))
noncomputable def oi:List D→R b1:=cU 3 o8
theorem jG:cP ["_law_script","_law_counts_here","_law_wires_here","_law_net","_law_books_here","_law_inner","_law_outer","_law_k","_law_cell","_law_number","_law_asked_here","_law_good"] ["_law_script"] (bP m6):=⟨rfl,rfl,rfl,by decide +kernel,rfl,by decide +kernel,by decide +kernel⟩
noncomputable def wY:a0:=
  bt (c6 1 (cW (kH 1 rX (ag (af 0) (az)))))
  (bt (c6 2 (cW (kH 2 r2 (ag (af 0) (ag (af 1) (az))))))
  (bt (c6 3 (pT "Net" 2 yR (ag (af 1) (ag (af 2) (az)))))
  (bt (c6 4 (b5 2 rW (ag (ob oy (af 0) (n_ (aq (.int 4))) (n_ (aq (.int 63)))) (ag (af 1) (az)))))
  (bt (c6 5 (ar d7 (cW (d_ 2 [] (hD (af 2)) (fR [bQ 0,bQ 1]) (dZ) (af 0))) (cW (d_ 2 [] (hD (af 2)) (fR [bQ 0,bQ 1]) (dZ) (af 1)))))
  (bt (oa 6 (d_ 1 [5] (hD (cW (kH 1 rY (ag (af 1) (az))))) (bQ 0) (bz (ar (inD false) (af 0) (af 1))) (af 0)))
  (bt (fO (lH (ag (ar d7 (cW (dE (ag (aq (.int 0)) (ag (aq (.int 1)) (ag (aq (.int 2)) (ag (aq (.int 3)) (az))))))) (ob oy (af 0) (uR) (n_ (aq (.int 63))))) (az))) (fR [bQ 7,bQ 8]) (bt (c6 9 (b5 2 gZ (ag (af 8) (ag (ar d7 (aq (.int 60)) (af 7)) (az)))))
  (bt (gr 10 (dE (ag (af 4) (ag (ar aR (af 6) (ar d0 (ar eJ (af 9) (aq (.int 8))) (cy c5 (ag (af 6) (az))))) (ag (ar d0 (ar eJ (af 9) (aq (.int 100))) (aq (.int 16))) (az))))))
  (bt (c6 11 (cW (uQ 10)))
  (bt (c9 (bz (ar (dp true) (ar d0 (af 9) (aq (.int 2))) (aq (.int 1)))) (pV 10 (aq (.int 0)) (b5 2 oh (ag (af 4) (ag (ar eJ (af 9) (aq (.int 8))) (az))))) (dc))
  (bt (c9 (bz (ar (dp true) (ar d0 (ar eJ (af 9) (aq (.int 2))) (aq (.int 2))) (aq (.int 1)))) (pV 10 (aq (.int 1)) (b5 3 p2 (ag (af 1) (ag (af 2) (ag (ar eJ (af 9) (aq (.int 16))) (az)))))) (dc))
  (bt (c9 (bz (ar (dp true) (ar d0 (ar eJ (af 9) (aq (.int 4))) (aq (.int 2))) (aq (.int 1)))) (pV 10 (aq (.int 2)) (b5 1 uV (ag (ar d7 (ar eJ (af 9) (aq (.int 32))) (aq (.int 1))) (az)))) (dc))
  (bt (c9 (i2 (bz (ar (dp false) (b5 4 mV (ag (af 3) (ag (ar aR (af 10) (aq (.int 0))) (ag (ar aR (af 10) (aq (.int 1))) (ag (ar aR (af 10) (aq (.int 2))) (az)))))) (cV (ag (b5 1 oi (ag (af 9) (az))) (ag (aq (.au true)) (az))))))) (cz (aq (.au false))) (dc))
  (c9 (bz (ar (dp false) (b5 4 mV (ag (af 3) (ag (ar aR (af 11) (aq (.int 0))) (ag (ar aR (af 11) (aq (.int 1))) (ag (ar aR (af 11) (aq (.int 2))) (az)))))) (cV (ag (cW (dE (az))) (ag (aq (.au true)) (az)))))) (cz (aq (.au false))) (dc))))))))))
  (cz (aq (.au true)))))))))
noncomputable def og:List D→R b1:=cU 12 wY
end b4
set_option Elab.async false
set_option linter.all false
set_option maxRecDepth 100000
set_option autoImplicit false
namespace b4
open PySem PySem.Spec aZ aA
section
variable {P:Program} {w:World} {K:PySem.W.Frag} {mg:Str→Option Value} {base:Heap} (T:wx K mg)
include T
set_option maxHeartbeats 4000000
theorem pH:dy P w K mg base "_law_mix" 2 1 gZ:=by
 have h:=ej (P:=P) (w:=w) (mg:=mg) (base:=base) (k:=0) (m:=tQ) T.C7 SQ
 exact h fun _ _ _ _ _ _ _ hr _ _=>
 bV (cT (e5 (ew (qr (fs (ew (ak 0) (AZ (aJ) (aJ))) (aJ)) (fs (fs (aJ) (qr (qr (aJ) (ak 1)) (ak 1))) (ak 1))) (aJ)) (aJ)))
theorem uI:dy P w K mg base "_law_cell_at" 2 1 jB:=by
 have h:=ej (P:=P) (w:=w) (mg:=mg) (base:=base) (k:=0) (m:=tP) T.C3 SP
 exact h fun _ _ _ _ _ _ _ hr _ _=>
 bR (ez (HS (ak 1) (ft T.fa (aj (ak 0) (aI)))) (bV (cT (cp (ak 0) (ak 1) bg))) (eA))
  (bV (cT (aJ)))
theorem OA:dy P w K mg base "_law_counts" 1 2 rX:=by
 have h:=ej (P:=P) (w:=w) (mg:=mg) (base:=base) (k:=1) (m:=w1) T.C4 F6
 exact h fun _ _ _ _ _ _ _ hr _ _=>
 bR (dH 1 F6.bF (fs (aJ) (ew (cX (pH T) (hr.mono (by decide)) (aj (cX (uI T) (hr.mono (by decide)) (aj (ak 0) (aj (aJ) (aI)))) (aj (aJ) (aI)))) (aJ))))
  (bV (vT (jN (N:=["_law_house","_law_script"]) 1 [0] (by rfl) (oF T.mw (aj (ak 1) (aI))) (lg 0) (iP) (fun _ _ _ _ _ _ _=>fs (aJ) (ew (cX (pH T) (hr.mono (by decide)) (aj (cX (uI T) (hr.mono (by decide)) (aj (ak 1) (aj (aJ) (aI)))) (aj (fs (aJ) (ak 0)) (aI)))) (aJ))))))
theorem EE:dy P w K mg base "_law_doors" 1 1 rY:=by
 have h:=ej (P:=P) (w:=w) (mg:=mg) (base:=base) (k:=0) (m:=w2) T.C5 Ab
 exact h fun _ _ _ _ _ _ _ hr _ _=>
 bR (vV 1 Ab.bF (ey (aI)))
  (bR (nk PassesOwn.never (oF T.mw (aj (ft T.fa (aj (ak 0) (aI))) (aI))) (kc 2 Ab.bF) (bV (VB (Vd 1 (dn (jN (N:=["_law_number","_law_house"]) 1 [2] (by rfl) (oF T.mw (aj (cp (ak 0) (ak 2) bg) (aI))) (lg 0) (iP) (fun _ _ _ _ _ _ _=>dw (aj (ak 1) (aj (ak 0) (aI))))))))))
  (bV (VE 1)))
theorem OG:dy P w K mg base "_law_wires" 2 2 r2:=by
 have h:=ej (P:=P) (w:=w) (mg:=mg) (base:=base) (k:=1) (m:=w5) T.Dc ov
 exact h fun _ _ _ _ _ _ _ hr _ _=>
 bR (dH 2 ov.bF (dn (tc (EE T) (hr.mono (by decide)) (aj (ak 1) (aI)))))
  (bR (vV 3 ov.bF (ey (aI)))
  (bR (nk PassesOwn.never (oF T.mw (aj (ft T.fa (aj (ak 2) (aI))) (aI))) (kc 4 ov.bF) (bV (HJ 3 (dw (aj (cX (pH T) (hr.mono (by decide)) (aj (fs (cX (uI T) (hr.mono (by decide)) (aj (ak 0) (aj (aJ) (aI)))) (qr (ak 4) (ak 4))) (aj (fs (aJ) (ak 4)) (aI)))) (aj (cp (ak 2) (ak 4) bg) (aI)))))))
  (bR (VC 3 (HO (VF 5 ov.bF (jN (N:=["_law_number","_law_door"]) 2 [] (by rfl) (l2 (dn (Vw hr.units T.BH (aj (ak 3) (aI))))) (o_ 0 1) (iP) (fun _ _ _ _ _ _ _=>ak 1)))))
  (bR (dH 6 ov.bF (e5 (s_ (ft T.fa (aj (ak 2) (aI))) (aJ)) (aJ)))
  (bR (dH 7 ov.bF (s_ (ak 6) (ew (cX (pH T) (hr.mono (by decide)) (aj (cX (uI T) (hr.mono (by decide)) (aj (ak 0) (aj (aJ) (aI)))) (aj (aJ) (aI)))) (fs (e5 (ak 6) (aJ)) (aJ)))))
  (bV (vT (jN (N:=["_law_k","_law_dealt"]) 1 [5] (by rfl) (oF T.mw (aj (ak 7) (aI))) (lg 0) (iP) (fun _ _ _ _ _ _ _=>dw (aj (cp (ak 1) (qr (aJ) (ak 0)) bg) (aj (cp (ak 1) (fs (qr (aJ) (ak 0)) (aJ)) bg) (aI))))))))))))
theorem EB:dy P w K mg base "is_pair" 1 1 p0:=by
 have h:=ej (P:=P) (w:=w) (mg:=mg) (base:=base) (k:=0) (m:=BE) T.CR SI
 exact h fun _ _ _ _ _ _ _ hr _ _=>
 bV (cT (nh (kS (AG _) T.fI T.nI (by kernel_rfl) (ak 0)) (l1 (AX hr.units (ft T.fa (aj (ak 0) (aI))) (aJ)))))
theorem Ou:dy P w K mg base "is_whole" 1 1 yS:=by
 have h:=ej (P:=P) (w:=w) (mg:=mg) (base:=base) (k:=0) (m:=BF) T.CU SM
 exact h fun _ _ _ _ _ _ _ hr _ _=>
 bV (cT (nh (kS (Ui _) T.fI T.wQ (by kernel_rfl) (ak 0)) (l1 (HG (kS (Uh _) T.fI T.BD (by kernel_rfl) (ak 0))))))
theorem rJ:dy P w K mg base "is_whole_within" 3 2 kJ:=by
 have h:=ej (P:=P) (w:=w) (mg:=mg) (base:=base) (k:=1) (m:=wW) T.CV SN
 exact h fun _ _ _ _ _ _ _ hr _ _=>
 bV (cT (nh (cX (Ou T) (hr.mono (by decide)) (aj (ak 0) (aI))) (l1 (U_ sh sh sg sg (ak 1) (ak 0) (ak 2)))))
theorem yI:dy P w K mg base "is_door_among" 2 3 jz:=by
 have h:=ej (P:=P) (w:=w) (mg:=mg) (base:=base) (k:=2) (m:=o6) T.CP SG
 exact h fun _ _ _ _ _ _ _ hr _ _=>
 bR (ez (kk (l3 (gO (gy (cX (EB T) (hr.mono (by decide)) (aj (ak 1) (aI))))) (l4 (gO (gy (cX (rJ T) (hr.mono (by decide)) (aj (cp (ak 1) (aJ) bg) (aj (aJ) (aj (s_ (ft T.fa (aj (ak 0) (aI))) (aJ)) (aI)))))))))) (bV (cT (gN))) (eA))
  (bV (cT (cX (rJ T) (hr.mono (by decide)) (aj (cp (ak 1) (aJ) bg) (aj (aJ) (aj (s_ (cp (ak 0) (cp (ak 1) (aJ) bg) bg) (aJ)) (aI)))))))
theorem Ov:dy P w K mg base "is_wire_among" 2 4 p1:=by
 have h:=ej (P:=P) (w:=w) (mg:=mg) (base:=base) (k:=3) (m:=wX) T.CW F4
 exact h fun _ _ _ _ _ _ _ hr _ _=>
 bR (ez (gO (gy (cX (EB T) (hr.mono (by decide)) (aj (ak 1) (aI))))) (bV (cT (gN))) (eA))
  (bR (dH 2 F4.bF (nh (cX (yI T) (hr.mono (by decide)) (aj (ak 0) (aj (cp (ak 1) (aJ) bg) (aI)))) (l1 (cX (yI T) (hr.mono (by decide)) (aj (ak 0) (aj (cp (ak 1) (aJ) bg) (aI)))))))
  (bV (cT (nh (ak 2) (l1 (Vj hr.units (cp (ak 1) (aJ) bg) (cp (ak 1) (aJ) bg)))))))
theorem Ol:dy P w K mg base "far_doors" 2 5 pY:=by
 have h:=ej (P:=P) (w:=w) (mg:=mg) (base:=base) (k:=4) (m:=tO) T.CK Aa
 exact h fun _ _ _ _ _ _ _ hr _ _=>
 bR (VG 2 Aa.bF)
  (bR (nk PassesOwn.never (VK (ak 1)) (kc 3 Aa.bF) (bR (ez (gO (gy (cX (Ov T) (hr.mono (by decide)) (aj (ak 0) (aj (ak 3) (aI)))))) (bV (HK)) (eA))
  (bR (ez (vW (kk (l3 (HQ hr.units (cp (ak 3) (aJ) bg) (ak 2)) (l4 (HQ hr.units (cp (ak 3) (aJ) bg) (ak 2)))))) (bV (HK)) (eA))
  (bR (HM 2 hr.units (cp (ak 3) (aJ) bg) (cp (ak 3) (aJ) bg))
  (bV (HM 2 hr.units (cp (ak 3) (aJ) bg) (cp (ak 3) (aJ) bg)))))))
  (bV (A6 (ak 2))))
theorem Oj:dy P w K mg base "are_counts" 1 3 rV:=by
 have h:=ej (P:=P) (w:=w) (mg:=mg) (base:=base) (k:=2) (m:=tN) T.CJ Sz
 exact h fun _ _ _ _ _ _ _ hr _ _=>
 bR (ez (kk (l3 (gO (gy (kS (vF _) T.fI T.nH (by kernel_rfl) (ak 0)))) (l4 (gO (HP sh sh sg sg (aJ) (ft T.fa (aj (ak 0) (aI))) (oE T.nJ)))))) (bV (cT (gN))) (eA))
  (bV (cT (s9 hr T.o4 (aj (dn (jN (N:=["doors"]) 1 [] (by rfl) (l2 (ak 0)) (lg 0) (iP) (fun _ _ _ _ _ _ _=>cX (rJ T) (hr.mono (by decide)) (aj (ak 0) (aj (aJ) (aj (oE T.pf) (aI))))))) (aI)))))
theorem Og:tw P w K mg base "Net" 2 6 yR:=by
 have h:=Vq (P:=P) (w:=w) (mg:=mg) (base:=base) (k:=5) (m:=tL) T.CG Sw
 exact h fun _ _ _ _ _ _ _ hr _ _=>
 ta (HI (gO (gy (cX (Oj T) (hr.mono (by decide)) (aj (ak 1) (aI))))))
  (ta (HI (gO (gy (kS (vF _) T.fI T.nH (by kernel_rfl) (ak 2)))))
  (ta (vS T.iY (ft T.fa (aj (ak 1) (aI))))
  (ta (vS T.iY (A0 T.nI (aj (ak 1) (aI))))
  (ta (vS T.iY (A0 T.nI (aj (ak 2) (aI))))
  (Vt (vS T.iY (U8 (cX (Ol T) (hr.mono (by decide)) (aj (ni T.iY (ak 0)) (aj (ni T.iY (ak 0)) (aI)))))))))))
theorem OD:dy P w K mg base "_law_pattern" 1 1 r0:=by
 have h:=ej (P:=P) (w:=w) (mg:=mg) (base:=base) (k:=0) (m:=w3) T.C9 sz
 exact h fun _ _ _ _ _ _ _ hr _ _=>
 bR (dH 1 sz.bF (eE))
  (bR (nk PassesOwn.never (oF T.mw (aj (aJ) (aI))) (kc 2 sz.bF) (bR (dH 1 sz.bF (fs (ak 1) (cp (eE) (ew (ak 0) (aJ)) bg)))
  (bV (dH 0 sz.bF (e5 (ak 0) (aJ))))))
  (bV (cT (ak 1))))
theorem OE:dy P w K mg base "_law_row" 3 2 r1:=by
 have h:=ej (P:=P) (w:=w) (mg:=mg) (base:=base) (k:=1) (m:=w4) T.C_ vo
 exact h fun _ _ _ _ _ _ _ hr _ _=>
 bR (dH 3 vo.bF (cX (pH T) (hr.mono (by decide)) (aj (ak 0) (aj (ak 1) (aI)))))
  (bR (dH 4 vo.bF (cp (dn (ey (aj (gb) (aj (ew (e5 (ak 3) (aJ)) (ak 2)) (aI))))) (ew (e5 (ak 3) (aJ)) (aJ)) bg))
  (bR (dH 5 vo.bF (cp (dn (ey (aj (ew (e5 (ak 3) (aJ)) (ak 2)) (aj (gb) (aI))))) (Vo T.wQ (aj (AX hr.units (ew (e5 (ak 3) (aJ)) (aJ)) (aJ)) (aI))) bg))
  (bV (cT (dw (aj (cX (OD T) (hr.mono (by decide)) (aj (ak 3) (aI))) (aj (ak 4) (aj (ak 5) (aI)))))))))
theorem Oz:dy P w K mg base "_law_books" 2 3 rW:=by
 have h:=ej (P:=P) (w:=w) (mg:=mg) (base:=base) (k:=2) (m:=w0) T.C2 sy
 exact h fun _ _ _ _ _ _ _ hr _ _=>
 bR (HL (N:=["_law_house"]) 2 1 [] sy.bF (by rfl) (l2 (ak 1)) (lg 0) (iP) (fun _ _ _ _ _ _ _=>ey (aI)))
  (bR (nk PassesOwn.never (vX T.qU (aj (ak 0) (aI))) (y0 rfl (p4 (kc 3 sy.bF) (p4 (kc 4 sy.bF) (yZ)))) (bR (dH 5 sy.bF (ew (ak 3) (ft T.fa (aj (ak 1) (aI)))))
  (bV (ez (vW (HS (ft T.fa (aj (cp (ak 2) (ak 5) bg) (aI))) (aJ))) (bV (Vy 2 (ak 5) bg (cX (OE T) (hr.mono (by decide)) (aj (ak 4) (aj (fs (aJ) (ak 3)) (aj (cp (ak 1) (ak 5) bg) (aI))))))) (eA)))))
  (bV (HN 2)))
theorem Ox:dy P w K mg base "_law_bad_books" 2 1 oh:=by
 have h:=ej (P:=P) (w:=w) (mg:=mg) (base:=base) (k:=0) (m:=qX) T.C0 vn
 exact h fun _ _ _ _ _ _ _ hr _ _=>
 bR (ez (nq hr.units (ew (ak 1) (aJ)) (aJ)) (bV (cT (fs (ak 0) (dn (ey (aj (dn (ey (aI))) (aI))))))) (eA))
  (bR (ez (nq hr.units (ew (ak 1) (aJ)) (aJ)) (bV (cT (cp (dn (ey (aj (gb) (aj (A0 T.nI (aj (ak 0) (aI))) (aj (Vb) (aj (eE) (aj (aJ) (aj (Vm (dn (ey (aj (gb) (aI)))) (ft T.fa (aj (ak 0) (aI)))) (aI))))))))) (ew (e5 (ak 1) (aJ)) (aJ)) bg))) (eA))
  (bR (HL (N:=["_law_book"]) 2 1 [] vn.bF (by rfl) (l2 (ak 0)) (lg 0) (iP) (fun _ _ _ _ _ _ _=>Vu T.nH (aj (ak 0) (aI))))
  (bR (dH 3 vn.bF (ew (e5 (ak 1) (aJ)) (ft T.fa (aj (ak 0) (aI)))))
  (bR (dH 4 vn.bF (cp (dn (ey (aj (dw (aj (eE) (aj (gb) (aj (aJ) (aI))))) (aj (dw (aj (eE) (aj (gb) (aj (aJ) (aI))))) (aj (dn (ey (aj (eE) (aj (gb) (aj (aJ) (aI)))))) (aj (dw (aj (eE) (aj (gN) (aj (aJ) (aI))))) (aj (dw (aj (eE) (aj (gb) (aI)))) (aI)))))))) (ew (e5 (ak 1) (aJ)) (aJ)) bg))
  (bR (VD 2 (ak 3) bg (U7 (ew (e5 (ak 1) (aJ)) (fs (ft T.fa (aj (cp (ak 2) (ak 3) bg) (aI))) (aJ)))) (ak 4))
  (bV (HN 2)))))))
theorem Oy:dy P w K mg base "_law_bad_door" 3 1 p2:=by
 have h:=ej (P:=P) (w:=w) (mg:=mg) (base:=base) (k:=0) (m:=qY) T.C1 F5
 exact h fun _ _ _ _ _ _ _ hr _ _=>
 bR (dH 3 F5.bF (dn (ey (aj (dw (aj (aJ) (aj (cp (ak 0) (aJ) bg) (aI)))) (aj (dw (aj (ft T.fa (aj (ak 0) (aI))) (aj (aJ) (aI)))) (aj (dw (aj (AY (aJ)) (aj (aJ) (aI)))) (aj (gb) (aj (aJ) (aj (dn (ey (aj (aJ) (aj (aJ) (aI))))) (aj (dw (aj (aJ) (aI))) (aj (dw (aj (gN) (aj (aJ) (aI)))) (aj (eE) (aj (dw (aj (aJ) (aj (AZ (aJ) (aJ)) (aI)))) (aI))))))))))))))
  (bR (ez (kk (HU (HR (ft T.fa (aj (ak 1) (aI))) (aJ)) (HV (nq hr.units (ew (ak 2) (aJ)) (aJ))))) (bV (cT (cp (cp (ak 1) (ew (e5 (ak 2) (aJ)) (ft T.fa (aj (ak 1) (aI)))) bg) (ew (e5 (ak 2) (aJ)) (aJ)) bg))) (eA))
  (bV (cT (cp (ak 3) (ew (e5 (ak 2) (aJ)) (aJ)) bg))))
theorem Ow:dy P w K mg base "_law_bad_address" 1 1 uV:=by
 have h:=ej (P:=P) (w:=w) (mg:=mg) (base:=base) (k:=0) (m:=wZ) T.CZ SO
 exact h fun _ _ _ _ _ _ _ hr _ _=>
 bV (cT (cp (dn (ey (aj (aJ) (aj (AY (aJ)) (aj (gN) (aj (eE) (aj (gb) (aj (dw (aj (aJ) (aI))) (aj (AZ (aJ) (aJ)) (aj (fs (aJ) (ew (e5 (ak 0) (aJ)) (aJ))) (aj (AY (ak 0)) (aI)))))))))))) (ew (ak 0) (aJ)) bg))
theorem EC:dy P w K mg base "is_pattern" 1 1 oe:=by
 have h:=ej (P:=P) (w:=w) (mg:=mg) (base:=base) (k:=0) (m:=wU) T.CS SJ
 exact h fun _ _ _ _ _ _ _ hr _ _=>
 bR (ez (kk (l3 (gO (gy (kS (Uj _) T.fI T.w7 (by kernel_rfl) (ak 0)))) (l4 (qs hr.units (ft T.fa (aj (ak 0) (aI))) (ft T.fa (aj (oE T.mz) (aI))))))) (bV (cT (gN))) (eA))
  (bV (cT (s9 hr T.o4 (aj (dn (jN (N:=["sign"]) 1 [] (by rfl) (VJ (ak 0)) (lg 0) (iP) (fun _ _ _ _ _ _ _=>HF hr.units (ak 0) (oE T.pg)))) (aI)))))
theorem EA:dy P w K mg base "is_number_or_none" 2 3 jA:=by
 have h:=ej (P:=P) (w:=w) (mg:=mg) (base:=base) (k:=2) (m:=qW) T.CQ SH
 exact h fun _ _ _ _ _ _ _ hr _ _=>
 bV (cT (Vl (Vf (ak 0) (gb)) (l1 (cX (rJ T) (hr.mono (by decide)) (aj (ak 0) (aj (aJ) (aj (s_ (ak 1) (aJ)) (aI))))))))
theorem Ot:dy P w K mg base "is_row" 2 4 mU:=by
 have h:=ej (P:=P) (w:=w) (mg:=mg) (base:=base) (k:=3) (m:=wV) T.CT SK
 exact h fun _ _ _ _ _ _ _ hr _ _=>
 bR (ez (kk (l3 (gO (gy (kS (AG _) T.fI T.nI (by kernel_rfl) (ak 0)))) (l4 (qs hr.units (ft T.fa (aj (ak 0) (aI))) (aJ))))) (bV (cT (gN))) (eA))
  (bR (ez (gO (gy (cX (EC T) (hr.mono (by decide)) (aj (cp (ak 0) (aJ) bg) (aI))))) (bV (cT (gN))) (eA))
  (bV (cT (nh (cX (EA T) (hr.mono (by decide)) (aj (cp (ak 0) (aJ) bg) (aj (ak 1) (aI)))) (l1 (cX (EA T) (hr.mono (by decide)) (aj (cp (ak 0) (aJ) bg) (aj (ak 1) (aI)))))))))
theorem Oo:dy P w K mg base "is_book" 2 5 i4:=by
 have h:=ej (P:=P) (w:=w) (mg:=mg) (base:=base) (k:=4) (m:=o5) T.CN SE
 exact h fun _ _ _ _ _ _ _ hr _ _=>
 bR (ez (kk (l3 (gO (gy (kS (vF _) T.fI T.nH (by kernel_rfl) (ak 0)))) (l4 (HR (ft T.fa (aj (ak 0) (aI))) (oE T.my))))) (bV (cT (gN))) (eA))
  (bV (cT (s9 hr T.o4 (aj (dn (jN (N:=["row","doors"]) 1 [1] (by rfl) (l2 (ak 0)) (lg 0) (iP) (fun _ _ _ _ _ _ _=>cX (Ot T) (hr.mono (by decide)) (aj (ak 0) (aj (ak 1) (aI)))))) (aI)))))
theorem Of:mh P w K mg base "Net" "count" 1 1 uT:=by
 have h:=vR (P:=P) (w:=w) (mg:=mg) (base:=base) (k:=0) (m:=wM) T.CF Sv
 exact h fun _ _ _ _ _ _ _ hr _ _=>
 bV (cT (HE (HP sh Fm sg P9 (aJ) (ak 1) (ni T.iY (ak 0))) (cp (ni T.iY (ak 0)) (ak 1) bg) (aJ)))
theorem Oq:dy P w K mg base "is_books" 2 6 hF:=by
 have h:=ej (P:=P) (w:=w) (mg:=mg) (base:=base) (k:=5) (m:=qV) T.CO SF
 exact h fun _ _ _ _ _ _ _ hr _ _=>
 bR (ez (kk (l3 (gO (gy (kS (vF _) T.fI T.nH (by kernel_rfl) (ak 0)))) (l4 (qs hr.units (ft T.fa (aj (ak 0) (aI))) (ni T.iY (ak 1)))))) (bV (cT (gN))) (eA))
  (bV (cT (s9 hr T.o4 (aj (dn (jN (N:=["house","book","net"]) 2 [1] (by rfl) (vX T.qU (aj (ak 0) (aI))) (o_ 0 1) (iP) (fun _ _ _ _ _ _ _=>cX (Oo T) (hr.mono (by decide)) (aj (ak 1) (aj (vQ (Of T) (hr.mono (by decide)) (ak 2) (aj (ak 0) (aI))) (aI)))))) (aI)))))
theorem OI:qL P w K mg base "refuse_unless_books" 2 7 uW:=by
 have h:=HD (P:=P) (w:=w) (mg:=mg) (base:=base) (k:=6) (m:=w6) T.Df SR
 exact h fun _ _ _ _ _ _ _ hr _ _=>
 bV (ez (A1 (gO (gy (cX (Oq T) (hr.mono (by decide)) (aj (ak 0) (aj (ak 1) (aI))))))) (bV (A5 T.HA)) (eA))
theorem Ez:dy P w K mg base "is_address" 1 3 kb:=by
 have h:=ej (P:=P) (w:=w) (mg:=mg) (base:=base) (k:=2) (m:=wR) T.CM SD
 exact h fun _ _ _ _ _ _ _ hr _ _=>
 bV (cT (cX (rJ T) (hr.mono (by decide)) (aj (ak 0) (aj (aJ) (aj (oE T.pe) (aI))))))
theorem Om:dy P w K mg base "fits" 2 4 pZ:=by
 have h:=ej (P:=P) (w:=w) (mg:=mg) (base:=base) (k:=3) (m:=wO) T.CL SA
 exact h fun _ _ _ _ _ _ _ hr _ _=>
 bR (ez (kk (l3 (gO (gy (cX (EC T) (hr.mono (by decide)) (aj (ak 0) (aI))))) (l4 (gO (gy (cX (Ez T) (hr.mono (by decide)) (aj (ak 1) (aI)))))))) (bV (cT (gN))) (eA))
  (bV (cT (s9 hr T.o4 (aj (dn (jN (N:=["sign","worth","address"]) 2 [1] (by rfl) (VL T.BJ (aj (ak 0) (aj (oE T.mz) (aI)))) (o_ 0 1) (iP) (fun _ _ _ _ _ _ _=>HF hr.units (ak 0) (dw (aj (eE) (aj (Vn T.w7 (aj (ew (e5 (ak 2) (ak 1)) (aJ)) (aI))) (aI))))))) (aI)))))
theorem OJ:dy P w K mg base "taken" 3 5 uX:=by
 have h:=ej (P:=P) (w:=w) (mg:=mg) (base:=base) (k:=4) (m:=w8) T.Dg Ad
 exact h fun _ _ _ _ _ _ _ hr _ _=>
 bR (nk PassesOwn.never (vX T.qU (aj (ak 0) (aI))) (y0 rfl (p4 (kc 3 Ad.bF) (p4 (kc 4 Ad.bF) (yZ)))) (bV (ez (kk (HU (kk (l3 (td (cp (ak 4) (aJ) bg) (gb)) (l4 (nq hr.units (cp (ak 4) (aJ) bg) (ak 1))))) (HV (gy (cX (Om T) (hr.mono (by decide)) (aj (cp (ak 4) (aJ) bg) (aj (ak 2) (aI)))))))) (bV (cT (ak 3))) (eA))))
  (bV (cT (gb)))
theorem Oe:mh P w K mg base "Net" "beyond" 1 1 rU:=by
 have h:=vR (P:=P) (w:=w) (mg:=mg) (base:=base) (k:=0) (m:=wL) T.CE Su
 exact h fun _ _ _ _ _ _ _ hr _ _=>
 bV (cT (Va hr.units (ni T.iY (ak 0)) (ak 1)))
theorem OH:dy P w K mg base "onward" 4 6 lJ:=by
 have h:=ej (P:=P) (w:=w) (mg:=mg) (base:=base) (k:=5) (m:=o9) T.De vp
 exact h fun _ _ _ _ _ _ _ hr _ _=>
 bR (dH 4 vp.bF (cX (OJ T) (hr.mono (by decide)) (aj (ak 1) (aj (cp (ak 2) (aJ) bg) (aj (ak 3) (aI))))))
  (bR (dH 5 vp.bF (HE (td (ak 4) (gb)) (gb) (cp (cp (ak 1) (ak 4) bg) (aJ) bg)))
  (bR (ez (td (ak 5) (gb)) (bV (cT (dw (aj (eE) (aj (cp (ak 2) (aJ) bg) (aI)))))) (eA))
  (bR (dH 6 vp.bF (vQ (Oe T) (hr.mono (by decide)) (ak 0) (aj (dw (aj (cp (ak 2) (aJ) bg) (aj (ak 5) (aI)))) (aI))))
  (bR (ez (td (ak 6) (gb)) (bV (cT (dw (aj (eE) (aj (cp (ak 2) (aJ) bg) (aj (ak 5) (aI))))))) (eA))
  (bV (cT (dw (aj (eE) (aj (cp (ak 6) (aJ) bg) (aj (cp (ak 6) (aJ) bg) (aI)))))))))))
theorem OK:dy P w K mg base "walked" 4 7 r3:=by
 have h:=ej (P:=P) (w:=w) (mg:=mg) (base:=base) (k:=6) (m:=BI) T.Dh vq
 exact h fun _ _ _ _ _ _ _ hr _ _=>
 bR (vV 4 vq.bF (ey (aI)))
  (bR (VI PassesOwn.never (vW (HT hr.units (ak 2) (ak 4))) (bR (HJ 4 (ak 2))
  (bR (dH 5 vq.bF (cX (OH T) (hr.mono (by decide)) (aj (ak 0) (aj (cp (ak 1) (cp (ak 2) (aJ) bg) bg) (aj (ak 2) (aj (ak 3) (aI)))))))
  (bR (ez (qs hr.units (cp (ak 5) (aJ) bg) (eE)) (bV (A6 (dw (aj (ak 4) (aj (ak 5) (aI)))))) (eA))
  (bV (dH 2 vq.bF (dw (aj (cp (ak 5) (aJ) bg) (aj (cp (ak 5) (aJ) bg) (aI))))))))))
  (bV (A6 (dw (aj (ak 4) (aj (dw (aj (eE) (aj (Ve hr.units (ak 4) (aj (ak 2) (aI))) (aI)))) (aI)))))))
theorem Oh:mh P w K mg base "Net" "is_door" 1 4 uU:=by
 have h:=vR (P:=P) (w:=w) (mg:=mg) (base:=base) (k:=3) (m:=wN) T.CH Sx
 exact h fun _ _ _ _ _ _ _ hr _ _=>
 bV (cT (cX (yI T) (hr.mono (by decide)) (aj (ni T.iY (ak 0)) (aj (ak 1) (aI)))))
theorem Oi:mh P w K mg base "Net" "is_outer" 1 5 iD:=by
 have h:=vR (P:=P) (w:=w) (mg:=mg) (base:=base) (k:=4) (m:=tM) T.CI Sy
 exact h fun _ _ _ _ _ _ _ hr _ _=>
 bV (cT (nh (vQ (Oh T) (hr.mono (by decide)) (ak 0) (aj (ak 1) (aI))) (l1 (Vc hr.units (ak 1) (ni T.iY (ak 0))))))
theorem OL:qL P w K mg base "way" 4 8 jC:=by
 have h:=HD (P:=P) (w:=w) (mg:=mg) (base:=base) (k:=7) (m:=pa) T.Di SS
 exact h fun _ _ _ _ _ _ _ hr _ _=>
 bR (VA (U9 (OI T) (hr.mono (by decide)) (Vr (aj (ak 1) (aj (ak 0) (aI))))))
  (bR (ez (A1 (gO (gy (vQ (Oi T) (hr.mono (by decide)) (ak 0) (aj (ak 2) (aI)))))) (bV (A5 T.HB)) (eA))
  (bR (ez (A1 (gO (gy (cX (Ez T) (hr.mono (by decide)) (aj (ak 3) (aI)))))) (bV (A5 T.Hz)) (eA))
  (bV (Vs (cT (cX (OK T) (hr.mono (by decide)) (aj (ak 0) (aj (ak 1) (aj (ak 2) (aj (ak 3) (aI)))))))))))
theorem OC:dy P w K mg base "_law_names" 1 1 rZ:=by
 have h:=ej (P:=P) (w:=w) (mg:=mg) (base:=base) (k:=0) (m:=BG) T.C8 qd
 exact h fun _ _ _ _ _ _ _ hr _ _=>
 bR (dH 1 qd.bF (dn (ey (aj (dw (aj (eE) (aj (l0 T.Hc T.fI (ak 0)) (aI)))) (aj (dw (aj (eE) (aj (l0 T.G_ T.fI (ak 0)) (aI)))) (aj (dw (aj (eE) (aj (l0 T.Ha T.fI (ak 0)) (aI)))) (aI)))))))
  (bR (dH 1 qd.bF (fs (ak 1) (dn (ey (aj (dw (aj (eE) (aj (l0 T.G9 T.fI (ak 0)) (aI)))) (aj (dw (aj (eE) (aj (l0 T.Hf T.fI (ak 0)) (aI)))) (aI)))))))
  (bR (dH 1 qd.bF (fs (ak 1) (dn (ey (aj (dw (aj (eE) (aj (l0 T.He T.fI (ak 0)) (aI)))) (aj (dw (aj (eE) (aj (l0 T.Hd T.fI (ak 0)) (aI)))) (aI)))))))
  (bR (dH 1 qd.bF (fs (ak 1) (dn (ey (aj (dw (aj (eE) (aj (l0 T.Hb T.fI (ak 0)) (aI)))) (aj (dw (aj (eE) (aj (l0 T.Hg T.fI (ak 0)) (aI)))) (aI)))))))
  (bR (dH 1 qd.bF (fs (ak 1) (dn (ey (aj (dw (aj (eE) (aj (HG (Vg T.Hh T.fI T.BC (ak 0))) (aI)))) (aI))))))
  (bV (vT (jN (N:=["_law_word","_law_truth"]) 2 [] (by rfl) (l2 (ak 1)) (o_ 0 1) (HC (fun _ _ _ _ _ _ _=>gy (ak 1))) (fun _ _ _ _ _ _ _=>ak 0))))))))
theorem ED:dy P w K mg base "_law_asked" 4 9 mV:=by
 have h:=ej (P:=P) (w:=w) (mg:=mg) (base:=base) (k:=8) (m:=o7) T.CY sx
 exact h fun _ _ _ _ _ _ _ hr _ _=>
 bR (dH 4 sx.bF (gb))
  (bR (dH 5 sx.bF (gb))
  (bR (VH 6 5 sx.bF (OL T) (hr.mono (by decide)) T.GR (aj (ak 0) (aj (ak 1) (aj (ak 2) (aj (ak 3) (aI))))) (fun _=>bV (dH 4 sx.bF (ak 6))))
  (bR (ez (td (ak 4) (gb)) (bV (cT (dw (aj (dn (ey (aI))) (aj (nh (kS (AG _) T.fI T.nI (by kernel_rfl) (ak 5)) (l1 (AX hr.units (ft T.fa (aj (ak 5) (aI))) (aJ)))) (aI)))))) (eA))
  (bV (cT (dw (aj (dn (tc (OC T) (hr.mono (by decide)) (aj (ak 4) (aI)))) (aj (gN) (aI)))))))))
theorem OB:dy P w K mg base "_law_due" 1 1 oi:=by
 have h:=ej (P:=P) (w:=w) (mg:=mg) (base:=base) (k:=0) (m:=o8) T.C6 Ac
 exact h fun _ _ _ _ _ _ _ hr _ _=>
 bR (dH 1 Ac.bF (dn (ey (aj (dn (ey (aj (eE) (aI)))) (aj (dn (ey (aj (eE) (aI)))) (aj (dn (ey (aj (eE) (aI)))) (aI)))))))
  (bR (nk PassesOwn.never (oF T.mw (aj (aJ) (aI))) (kc 2 Ac.bF) (bV (ez (nq hr.units (ew (e5 (ak 0) (cp (dn (ey (aj (aJ) (aj (aJ) (aj (aJ) (aI)))))) (ak 2) bg)) (aJ)) (aJ)) (bV (cT (cp (ak 1) (ak 2) bg))) (eA))))
  (bV (vT (ey (aI)))))
theorem IZ (f:Addr) (bX:Value) (A:Around) (outer:List Env) (s:Shared) (H:J) (E:cM)
  (hr:cZ 9 (A.deeper (PyProof.Rows.envOfC "law" (bP m6) s.heap.objs.size f bX))) (bw a7:J):hS (eo gg P w K mg base ["_law_script","_law_counts_here","_law_wires_here","_law_net","_law_books_here","_law_inner","_law_outer","_law_k","_law_cell","_law_number","_law_asked_here","_law_good"] "law" (bP m6) f bX A outer s H E).f9 (dO K bw a7) (fl m6) wY:=
 bR (dH 1 jG.bF (dn (tc (OA T) (hr.mono (by decide)) (aj (ak 0) (aI)))))
  (bR (dH 2 jG.bF (dn (tc (OG T) (hr.mono (by decide)) (aj (ak 0) (aj (ak 1) (aI))))))
  (bR (dH 3 jG.bF (Vi (Og T) (hr.mono (by decide)) (aj (ak 1) (aj (ak 2) (aI)))))
  (bR (dH 4 jG.bF (cX (Oz T) (hr.mono (by decide)) (aj (HH (ak 0) (A2 (aJ)) (A2 (aJ))) (aj (ak 1) (aI)))))
  (bR (dH 5 jG.bF (fs (dn (jN (N:=["_law_door","_law_other"]) 2 [] (by rfl) (l2 (ak 2)) (o_ 0 1) (iP) (fun _ _ _ _ _ _ _=>ak 0))) (dn (jN (N:=["_law_door","_law_other"]) 2 [] (by rfl) (l2 (ak 2)) (o_ 0 1) (iP) (fun _ _ _ _ _ _ _=>ak 1)))))
  (bR (HO (Vz (N:=["_law_door","_law_inner"]) 6 1 [5] jG.bF (by rfl) (l2 (dn (tc (EE T) (hr.mono (by decide)) (aj (ak 1) (aI))))) (lg 0) (HC (fun _ _ _ _ _ _ _=>HT hr.units (ak 0) (ak 1))) (fun _ _ _ _ _ _ _=>ak 0)))
  (bR (nk PassesOwn.never (vX T.qU (aj (fs (dn (ey (aj (aJ) (aj (aJ) (aj (aJ) (aj (aJ) (aI))))))) (HH (ak 0) (Vx) (A2 (aJ)))) (aI))) (y0 rfl (p4 (kc 7 jG.bF) (p4 (kc 8 jG.bF) (yZ)))) (bR (dH 9 jG.bF (cX (pH T) (hr.mono (by decide)) (aj (ak 8) (aj (fs (aJ) (ak 7)) (aI)))))
  (bR (vV 10 jG.bF (ey (aj (ak 4) (aj (cp (ak 6) (ew (e5 (ak 9) (aJ)) (ft T.fa (aj (ak 6) (aI)))) bg) (aj (ew (e5 (ak 9) (aJ)) (aJ)) (aI))))))
  (bR (dH 11 jG.bF (dn (Vv 10 T.nH)))
  (bR (ez (nq hr.units (ew (ak 9) (aJ)) (aJ)) (bV (A4 10 (aJ) (cX (Ox T) (hr.mono (by decide)) (aj (ak 4) (aj (e5 (ak 9) (aJ)) (aI)))))) (eA))
  (bR (ez (nq hr.units (ew (e5 (ak 9) (aJ)) (aJ)) (aJ)) (bV (A4 10 (aJ) (cX (Oy T) (hr.mono (by decide)) (aj (ak 1) (aj (ak 2) (aj (e5 (ak 9) (aJ)) (aI))))))) (eA))
  (bR (ez (nq hr.units (ew (e5 (ak 9) (aJ)) (aJ)) (aJ)) (bV (A4 10 (aJ) (cX (Ow T) (hr.mono (by decide)) (aj (fs (e5 (ak 9) (aJ)) (aJ)) (aI))))) (eA))
  (bR (ez (vW (qs hr.units (cX (ED T) (hr.mono (by decide)) (aj (ak 3) (aj (cp (ak 10) (aJ) bg) (aj (cp (ak 10) (aJ) bg) (aj (cp (ak 10) (aJ) bg) (aI)))))) (dw (aj (cX (OB T) (hr.mono (by decide)) (aj (ak 9) (aI))) (aj (gN) (aI)))))) (bV (cT (gN))) (eA))
  (bV (ez (qs hr.units (cX (ED T) (hr.mono (by decide)) (aj (ak 3) (aj (cp (ak 11) (aJ) bg) (aj (cp (ak 11) (aJ) bg) (aj (cp (ak 11) (aJ) bg) (aI)))))) (dw (aj (dn (ey (aI))) (aj (gN) (aI))))) (bV (cT (gN))) (eA)))))))))))
  (bV (cT (gN)))))))))
end
end b4
set_option Elab.async false
set_option linter.all false
set_option maxRecDepth 100000
set_option autoImplicit false
namespace b4
open PySem PySem.Spec aZ aA
theorem e0 {α β:Type} (a:α) (k:α→R β):(R.ok a).bind k=k a:=rfl
theorem Ah {a b:a0} {ρ bj:ai} (h:a ρ= .ok (.a9 bj)):bt a b ρ=b bj:=by simp only [bt,h,e0]
theorem Ja {f:List D→R b1} {a:ay} {ρ:ai} {x y:D} (ha:a ρ= .ok x) (h:f [x]= .ok (.v y)):b5 1 f (ag a az) ρ= .ok y:=by
 simp only [b5,ag,az,ha,e0,List.length_cons,List.length_nil,if_true,h,gJ]
theorem call2 {f:List D→R b1} {a b:ay} {ρ:ai} {x z y:D} (ha:a ρ= .ok x) (hb:b ρ= .ok z) (h:f [x,z]= .ok (.v y)):b5 2 f (ag a (ag b az)) ρ= .ok y:=by
 simp only [b5,ag,az,ha,hb,e0,List.length_cons,List.length_nil,if_true,h,gJ]
theorem Jb {f:List D→R b1} {a b c:ay} {ρ:ai} {x z w y:D} (ha:a ρ= .ok x) (hb:b ρ= .ok z) (hc:c ρ= .ok w) (h:f [x,z,w]= .ok (.v y)):b5 3 f (ag a (ag b (ag c az))) ρ= .ok y:=by
 simp only [b5,ag,az,ha,hb,hc,e0,List.length_cons,List.length_nil,if_true,h,gJ]
theorem qZ {f:D→D→R D} {a b:ay} {ρ:ai} {x y z:D} (ha:a ρ= .ok x) (hb:b ρ= .ok y) (h:f x y= .ok z):ar f a b ρ= .ok z:=by simp only [ar,ha,hb,e0,h]
theorem pM {a:ay} {ρ:ai} {c:Bool} (ha:a ρ= .ok (.au c)):bz a ρ= .ok c:=by simp only [bz,ha,e0,iw]
theorem yQ {a:bJ} {ρ:ai} {c:Bool} (ha:a ρ= .ok c):ea a ρ= .ok (!c):=by simp only [ea,ha,e0]
theorem Fo {a b:bJ} {ρ:ai} {c d:Bool} (ha:a ρ= .ok c) (hb:c=false→b ρ= .ok d):fE a b ρ= .ok (c || d):=by
 cases c
 · simp only [fE,ha,e0,hb rfl,Bool.false_eq_true,if_false,Bool.false_or]
 · simp only [fE,ha,e0,if_true,Bool.true_or]
theorem Jo {f g:D→D→R D} {a b c:ay} {ρ:ai} {x y w:D} {k l:Bool} (ha:a ρ= .ok x) (hb:b ρ= .ok y) (hc:c ρ= .ok w) (hf:f x y= .ok (.au k)) (hg:g y w= .ok (.au l)):ih f g a b c ρ= .ok (.au (k && l)):=by
 cases k
 · simp only [ih,ha,hb,hf,e0,iw,Bool.false_eq_true,if_false,Bool.false_and]
 · simp only [ih,ha,hb,hc,hf,hg,e0,iw,if_true,Bool.true_and]
theorem Ag {c:bJ} {a b:a0} {ρ:ai} (hc:c ρ= .ok false):bt (c9 c a dc) b ρ=b ρ:=by
 simp only [bt,c9,hc,e0,dc]; rfl
theorem RS {e:ay} {ρ:ai} {d:D} (he:e ρ= .ok d):cz e ρ= .ok (.dF d):=by simp only [cz,he,e0]
theorem Lh {mi:aK} {set:D→ai→R ai} {body:a0} {ds:List D} {ρ:ai} (hi:mi ρ= .ok ds):fO mi set body ρ=fL set body ds ρ:=by rw [fO,hi]; rfl
theorem Li {mi:aK} {set:D→ai→R ai} {body:a0} {ds:List D} {ρ bj:ai} (hi:mi ρ= .ok ds) (h:fL set body ds ρ= .ok (.a9 bj)):fO mi set body ρ= .ok (.a9 bj):=by rw [Lh hi]; exact h
theorem EH {a:ay} {ρ:ai} {xs:List D} (ha:a ρ= .ok (.lst xs)):cy c5 (ag a az) ρ= .ok (.int (xs.length:Nat)):=by
 simp only [cy,ag,az,ha,e0,c5]
noncomputable def bE (cs:List Nat):List D:=cs.map fun (c:Nat)=>D.int (c:Int)
noncomputable abbrev aF:=Nat×Nat
noncomputable def a8 (d:aF):D:= .tup [.int (d.1:Nat),.int (d.2:Nat)]
noncomputable def c3 (w:aF×aF):D:= .tup [a8 w.1,a8 w.2]
noncomputable def ends (ws:List (aF×aF)):List aF:=(ws.map fun w=>[w.1,w.2]).flatten
noncomputable def lp (cs:List Nat) (h:Nat):List aF:=(List.range (cs.getD h 0)).map fun k=>(h,k)
noncomputable def c4 (cs:List Nat) (n:Nat):List aF:=(List.range n).flatMap (lp cs)
theorem wC (cs:List Nat) (n:Nat):c4 cs (n + 1)=c4 cs n ++ lp cs n:=by
 unfold c4
 rw [List.range_succ,List.flatMap_append]
 simp
theorem yW {cs:List Nat} {h:Nat} {d:aF}:d∈lp cs h↔d.1=h∧d.2 < cs.getD h 0:=by
 unfold lp
 rw [List.mem_map]
 constructor
 · rintro ⟨k,hk,rfl⟩
   exact ⟨rfl,List.mem_range.mp hk⟩
 · rintro ⟨rfl,h2⟩
   exact ⟨d.2,List.mem_range.mpr h2,rfl⟩
theorem r4 {cs:List Nat} {n:Nat} {d:aF}:d∈c4 cs n↔d.1 < n∧d.2 < cs.getD d.1 0:=by
 unfold c4
 rw [List.mem_flatMap]
 constructor
 · rintro ⟨h,hh,hd⟩
   obtain ⟨rfl,h2⟩:=yW.mp hd
   exact ⟨List.mem_range.mp hh,h2⟩
 · rintro ⟨h1,h2⟩
   exact ⟨d.1,List.mem_range.mpr h1,yW.mpr ⟨rfl,h2⟩⟩
theorem JT (cs:List Nat) (h:Nat):(lp cs h).Nodup:=by
 unfold lp
 rw [List.nodup_iff_pairwise_ne,List.pairwise_map]
 exact List.nodup_range.imp fun Lv z=>Lv (Prod.mk.inj z).2
theorem Bw (cs:List Nat):∀n,(c4 cs n).Nodup
 | 0=>List.nodup_nil
 | n + 1=>by
   rw [wC]
   refine List.nodup_append.mpr ⟨Bw cs n,JT cs n,fun a ha b hb z=>?_⟩
   subst z
   have h1:=(r4.mp ha).1
   have h2:=(yW.mp hb).1
   omega
theorem xM {cs:List Nat} (h:∀c∈cs,c≤4) (k:Nat):cs.getD k 0≤4:=by
 rw [List.getD_eq_getElem?_getD]
 cases e:cs[k]? with
 | none=>simp
 | some c=>simpa using h c (List.mem_of_getElem? e)
theorem JR {cs:List Nat} (h:∀c∈cs,1≤c∧c≤4) (k:Nat):(lp cs k).length≤4:=by
 unfold lp
 rw [List.length_map,List.length_range]
 exact xM (fun c hc=>(h c hc).2) k
theorem qR {cs:List Nat} (h:∀c∈cs,1≤c∧c≤4):∀n,(c4 cs n).length≤4 * n
 | 0=>by simp [c4]
 | n + 1=>by
   rw [wC,List.length_append]
   have:=qR h n
   have:=JR h n
   omega
theorem pj {cs:List Nat} {h:Nat} (hh:h < cs.length):(bE cs)[h]? =some (.int (cs.getD h 0:Nat)):=by
 simp [bE,List.getElem?_eq_getElem hh,List.getD_eq_getElem?_getD]
structure mm (cs:List Nat) (ws:List (aF×aF)):Prop where
 h1:1≤cs.length
 h6:cs.length≤6
 c:∀c∈cs,1≤c∧c≤4
 bF:(ends ws).Nodup
 sub:∀d∈ends ws,d∈c4 cs cs.length
 out:∃d,d∈c4 cs cs.length∧d∉ends ws
 few:ws.length < 100
theorem head_mem {cs:List Nat} (h1:1≤cs.length) (c:∀c∈cs,1≤c∧c≤4):((0,0):aF)∈c4 cs cs.length:=by
 refine r4.mpr ⟨h1,?_⟩
 cases cs with
 | nil=>simp at h1
 | cons x r=>exact (c x (List.mem_cons_self ..)).1
noncomputable def gG (d:aF):List Key:=[.inl (d.1:Nat),.inl (d.2:Nat)]
theorem yD {a b:aF} (h:gG a=gG b):a=b:=by
 obtain ⟨a1,a2⟩:=a
 obtain ⟨c0,cN⟩:=b
 simp only [gG,List.cons.injEq,Sum.inl.injEq,and_true] at h
 have h1:a1=c0:=by omega
 have h2:a2=cN:=by omega
 rw [h1,h2]
theorem pG (d:aF):mR (a8 d)=some (gG d):=rfl
noncomputable def dr (ws:List (aF×aF)):List (List Key):=(ends ws).map gG
noncomputable def dG (ws:List (aF×aF)):List D:=(ws.map fun w=>[a8 w.2,a8 w.1]).flatten
theorem ks_any (ws:List (aF×aF)) (d:aF):(dr ws).any (fun x=>decide (x=gG d))=decide (d∈ends ws):=by
 unfold dr
 rw [List.any_map]
 by_cases h:d∈ends ws
 · rw [decide_eq_true h,List.any_eq_true]
   exact ⟨d,h,by simp⟩
 · rw [decide_eq_false h,List.any_eq_false]
   intro x hx
   simp only [Function.comp,decide_eq_true_eq]
   exact fun z=>h (yD z ▸ hx)
theorem KW (ws:List (aF×aF)):(ends ws).length=2 * ws.length:=by
 induction ws with
 | nil=>rfl
 | cons w r b8=>simp only [ends,List.map_cons,List.flatten_cons,List.length_append,List.length_cons,List.length_nil] at b8 ⊢; omega
theorem Cg {i:Nat} {mk mv:ay} {ρ:ai} {ks:List (List Key)} {ds:List D} {k v:D} {b0:List Key} (hs:ρ[i]? =some (.aU (.bx ks ds))) (hk:mk ρ= .ok k) (hv:mv ρ= .ok v) (dD:mR k=some b0) (aN:ks.any (fun x=>decide (x=b0))=false) (hl:ks.length < 1000000) :
  lG i mk mv ρ= .ok (.a9 (ρ.set i (.aU (.bx (ks ++ [b0]) (ds ++ [v]))))):=by
 simp only [lG,hv,hs,hk,e0,dD,putD,if_pos (And.intro aN hl)]
theorem IC {ks:List (List Key)} {a b:List Key} (h:ks.any (fun x=>decide (x=b))=false) (ne:a≠b):(ks ++ [a]).any (fun x=>decide (x=b))=false:=by
 rw [List.any_append,h]; simp [ne]
theorem OM (ws:List (aF×aF)) (w:aF×aF):dr (ws ++ [w])=dr ws ++ [gG w.1] ++ [gG w.2]:=by simp [dr,ends]
theorem UJ (ws:List (aF×aF)) (w:aF×aF):dG (ws ++ [w])=dG ws ++ [a8 w.2] ++ [a8 w.1]:=by simp [dG]
theorem PG {P:List (aF×aF)} {w:aF×aF} {r:List (aF×aF)} (bF:(ends (P ++ w::r)).Nodup):w.1∉ends P∧w.2∉ends P∧w.1≠w.2:=by
 have e:ends (P ++ w::r)=ends P ++ (w.1::w.2::ends r):=by simp [ends]
 rw [e] at bF
 obtain ⟨_,c_,lK⟩:=List.nodup_append.mp bF
 refine ⟨fun z=>lK _ z w.1 (by simp) rfl,fun z=>lK _ z w.2 (by simp) rfl,fun z=>?_⟩
 rw [List.nodup_cons] at c_
 exact c_.1 (by rw [z]; simp)
theorem oC (i lo hi:Int):kJ [.int i,.int lo,.int hi]= .ok (.v (.au (decide (lo≤i) && decide (i≤hi)))):=by
 have w:yS [.int i]= .ok (.v (.au true)):=rfl
 simp [kJ,wW,w]
 by_cases h:lo≤i <;> simp [h]
theorem xd {cs:List Nat} {d:aF} (h:d∈c4 cs cs.length):jz [.tup (bE cs),a8 d]= .ok (.v (.au true)):=by
 obtain ⟨h1,h2⟩:=r4.mp h
 have p:p0 [a8 d]= .ok (.v (.au true)):=rfl
 have ct:aR (a8 d) (.int 0)= .ok (.int d.1):=rfl
 have ah:aR (a8 d) (.int 1)= .ok (.int d.2):=rfl
 have aw:aR (.tup (bE cs)) (.int (d.1:Nat))= .ok (.int (cs.getD d.1 0:Nat)):=yw (pj h1)
 have l:(bE cs).length=cs.length:=by simp [bE]
 simp only [List.getD_eq_getElem?_getD] at h2 aw
 simp [jz,o6,p,ct,ah,aw,l,oC,show ¬ ((cs.length:Int) - 1 < (d.1:Nat)) by omega]
 omega
theorem JQ {a b:aF} (h:a≠b):dp false (a8 a) (a8 b)= .ok (.au true):=by
 show R.ok (D.au (!(((a.1:Nat):Int) == ((b.1:Nat):Int) && (((a.2:Nat):Int) == ((b.2:Nat):Int) && true))))=_
 by_cases h1:a.1=b.1
 · by_cases h2:a.2=b.2
   · exact absurd (Prod.ext h1 h2) h
   · rw [beq_eq_false_iff_ne.mpr (show ((a.2:Nat):Int)≠((b.2:Nat):Int) by omega)]; simp
 · rw [beq_eq_false_iff_ne.mpr (show ((a.1:Nat):Int)≠((b.1:Nat):Int) by omega)]; simp
theorem UZ {cs:List Nat} {w:aF×aF} (h1:w.1∈c4 cs cs.length) (h2:w.2∈c4 cs cs.length) (ne:w.1≠w.2):p1 [.tup (bE cs),c3 w]= .ok (.v (.au true)):=by
 have p:p0 [c3 w]= .ok (.v (.au true)):=rfl
 have ct:aR (c3 w) (.int 0)= .ok (a8 w.1):=rfl
 have ah:aR (c3 w) (.int 1)= .ok (a8 w.2):=rfl
 simp [p1,wX,p,ct,ah,xd h1,xd h2,JQ ne]
noncomputable def fBody:a0:=(bt (c9 (ea (bz (b5 2 p1 (ag (af 0) (ag (af 3) (az)))))) (pN) (dc))
  (bt (c9 (i2 (fE (bz (ar (fA true) (ar aR (af 3) (aq (.int 0))) (af 2))) (bz (ar (fA true) (ar aR (af 3) (aq (.int 1))) (af 2))))) (pN) (dc))
  (bt (lG 2 (ar aR (af 3) (aq (.int 0))) (ar aR (af 3) (aq (.int 1))))
  (lG 2 (ar aR (af 3) (aq (.int 1))) (ar aR (af 3) (aq (.int 0)))))))
theorem Dd (cs:List Nat) (W:D):∀(r P:List (aF×aF)),(ends (P ++ r)).Nodup→(∀d∈ends r,d∈c4 cs cs.length)→(P ++ r).length < 1000→∀s3:cQ,∃t3,fL (bQ 3) fBody (r.map c3) [.ax (.tup (bE cs)),.ax W,.aU (.bx (dr P) (dG P)),s3]= .ok (.a9 [.ax (.tup (bE cs)),.ax W,.aU (.bx (dr (P ++ r)) (dG (P ++ r))),t3])
 | [],P,_,_,_,s3=>⟨s3,by rw [List.append_nil]; rfl⟩
 | w::r,P,bF,sub,hl,s3=>by
   obtain ⟨du,c_,lK⟩:=PG bF
   have lk:(dr P).length < 10000:=by
    unfold dr
    rw [List.length_map,KW]
    rw [List.length_append] at hl; omega
   have ct:bQ 3 (c3 w) [.ax (.tup (bE cs)),.ax W,.aU (.bx (dr P) (dG P)),s3]= .ok [.ax (.tup (bE cs)),.ax W,.aU (.bx (dr P) (dG P)),.ax (c3 w)]:=rfl
   have bD:ea (bz (b5 2 p1 (ag (af 0) (ag (af 3) (az))))) [.ax (.tup (bE cs)),.ax W,.aU (.bx (dr P) (dG P)),.ax (c3 w)]= .ok false:=yQ (c:=true) (pM (call2 rfl rfl (UZ (sub _ (by simp [ends])) (sub _ (by simp [ends])) lK)))
   have k1:fA true (a8 w.1) (.bx (dr P) (dG P))= .ok (.au false):=by
    simp only [fA,pG,ks_any,decide_eq_false du,if_true]
   have k2:fA true (a8 w.2) (.bx (dr P) (dG P))= .ok (.au false):=by
    simp only [fA,pG,ks_any,decide_eq_false c_,if_true]
   have dj:i2 (fE (bz (ar (fA true) (ar aR (af 3) (aq (.int 0))) (af 2))) (bz (ar (fA true) (ar aR (af 3) (aq (.int 1))) (af 2)))) [.ax (.tup (bE cs)),.ax W,.aU (.bx (dr P) (dG P)),.ax (c3 w)]= .ok (false || false):=by
    unfold i2
    exact Fo (pM (qZ (x:=a8 w.1) (y:= .bx (dr P) (dG P)) rfl rfl k1)) fun _=>pM (qZ (x:=a8 w.2) (y:= .bx (dr P) (dG P)) rfl rfl k2)
   have a1:=Cg (i:=2) (mk:=ar aR (af 3) (aq (.int 0))) (mv:=ar aR (af 3) (aq (.int 1))) (ρ:=[.ax (.tup (bE cs)),.ax W,.aU (.bx (dr P) (dG P)),.ax (c3 w)]) rfl rfl rfl (pG w.1) (by rw [ks_any]; exact decide_eq_false du) (by omega)
   have a2:=Cg (i:=2) (mk:=ar aR (af 3) (aq (.int 1))) (mv:=ar aR (af 3) (aq (.int 0))) (ρ:=[.ax (.tup (bE cs)),.ax W,.aU (.bx (dr P ++ [gG w.1]) (dG P ++ [a8 w.2])),.ax (c3 w)]) rfl rfl rfl (pG w.2) (IC (by rw [ks_any]; exact decide_eq_false c_) (fun z=>lK (yD z))) (by rw [List.length_append,List.length_singleton]; omega)
   have ah:fBody [.ax (.tup (bE cs)),.ax W,.aU (.bx (dr P) (dG P)),.ax (c3 w)]= .ok (.a9 [.ax (.tup (bE cs)),.ax W,.aU (.bx (dr (P ++ [w])) (dG (P ++ [w]))),.ax (c3 w)]):=by
    unfold fBody
    rw [Ag bD,Ag dj,Ah a1,OM,UJ]
    exact a2
   rw [List.map_cons,fL,ct,e0,ah,e0]
   have q:P ++ w::r=(P ++ [w]) ++ r:=by simp
   rw [q] at bF hl ⊢
   exact Dd cs W r (P ++ [w]) bF (fun d hd=>sub d (by simp only [ends,List.map_cons,List.flatten_cons,List.mem_append] at hd ⊢; exact .inr hd)) hl _
theorem K8 (cs:List Nat) (ws:List (aF×aF)) (h:mm cs ws):pY [.tup (bE cs),.tup (ws.map c3)]= .ok (.v (.bx (dr ws) (dG ws))):=by
 show (tO [.ax (.tup (bE cs)),.ax (.tup (ws.map c3)),.un,.un]).bind outD=_
 have s1:rR 2 [.ax (.tup (bE cs)),.ax (.tup (ws.map c3)),.un,.un]= .ok (.a9 [.ax (.tup (bE cs)),.ax (.tup (ws.map c3)),.aU (.bx (dr []) (dG [])),.un]):=rfl
 obtain ⟨t3,e⟩:=Dd cs (.tup (ws.map c3)) ws [] (by simpa using h.bF) h.sub (by have:=h.few; simp; omega) .un
 have f:=Li (mi:=n5 (af 1)) (ρ:=[.ax (.tup (bE cs)),.ax (.tup (ws.map c3)),.aU (.bx (dr []) (dG [])),.un]) rfl e
 unfold fBody at f
 unfold tO
 rw [Ah s1,Ah f]
 rfl
noncomputable def nR:ay:=(b5 3 kJ (ag (af 0) (ag (aq (.int 1)) (ag (aq pf) (az)))))
theorem B8:∀(cs:List Nat),(∀c∈cs,1≤c∧c≤4)→∀(ws:List D) (s0:cQ),ws.length + cs.length < 1000→fj (bQ 0) dZ nR (bE cs) [s0] ws= .ok (ws ++ cs.map fun _=>D.au true)
 | [],_,ws,s0,_=>by simp [fj,bE]
 | c::cs,h,ws,s0,hl=>by
   simp only [List.length_cons] at hl
   obtain ⟨bD,ll⟩:=h c (List.mem_cons_self ..)
   have ct:bQ 0 (.int (c:Nat)) [s0]= .ok [.ax (.int (c:Nat))]:=rfl
   have ah:nR [.ax (.int (c:Nat))]= .ok (.au true):=by
    have z:=oC (c:Nat) 1 4
    rw [decide_eq_true (by omega),decide_eq_true (by omega)] at z
    exact Jb rfl rfl rfl z
   show fj (bQ 0) dZ nR (.int (c:Nat)::bE cs) [s0] ws=_
   rw [fj,ct,e0]
   simp only [dZ,e0,ah,if_true,if_pos (show ws.length < 1000000 by omega)]
   rw [B8 cs (fun c h'=>h c (List.mem_cons_of_mem _ h')) _ _ (by rw [List.length_append,List.length_singleton]; omega),List.append_assoc]
   rfl
theorem BV:∀cs:List Nat,lh (cs.map fun _=>D.au true)=some (cs.map fun _=>true)
 | []=>rfl
 | c::cs=>by simp only [List.map_cons,lh,BV cs,Option.map_some]
theorem Jt (cs:List Nat) (h1:1≤cs.length) (h6:cs.length≤6) (h:∀c∈cs,1≤c∧c≤4):rV [.lst (bE cs)]= .ok (.v (.au true)):=by
 show (tN [.ax (.lst (bE cs))]).bind outD=_
 have rL:cy c5 (ag (af 0) az) [.ax (.lst (bE cs))]= .ok (.int (cs.length:Nat)):=by
  rw [EH (xs:=bE cs) rfl]; simp [bE]
 have bD:fE (ea (bz (cH (fM "list") (af 0)))) (ea (bz (ih j_ j_ (aq (.int 1)) (cy c5 (ag (af 0) (az))) (aq nJ)))) [.ax (.lst (bE cs))]= .ok (false || false):=by
  refine Fo rfl fun _=>?_
  have z:=Jo (f:=j_) (g:=j_) (a:=aq (.int 1)) (c:=aq nJ) (ρ:=[.ax (.lst (bE cs))]) rfl rL rfl (k:=true) (l:=true) (by show R.ok (D.au (decide ((1:Int)≤(cs.length:Nat))))=_; rw [decide_eq_true (by omega)]) (by show R.ok (D.au (decide (((cs.length:Nat):Int)≤6)))=_; rw [decide_eq_true (by omega)])
  exact yQ (c:=true) (pM z)
 have f5:d_ 1 [] (hD (af 0)) (bQ 0) (dZ) nR [.ax (.lst (bE cs))]= .ok (cs.map fun _=>D.au true):=by
  show eK (fj (bQ 0) dZ nR (bE cs) [.un] [])=_
  rw [B8 cs h _ _ (by simp; omega)]
  rfl
 have e:cy aA.c4 (ag (cW (d_ 1 [] (hD (af 0)) (bQ 0) (dZ) nR)) (az)) [.ax (.lst (bE cs))]= .ok (.au true):=by
  simp only [cy,ag,az,cW,f5,e0,aA.c4,BV]
  congr 2
  rw [List.all_map]
  simp
 unfold nR at e
 unfold tN
 rw [Ag bD,RS e]
 rfl
theorem sO {a b:hO} {ρ dQ:ai} (h:a ρ= .ok dQ):kI a b ρ=b dQ:=by simp only [kI,h,e0]
theorem Ht:∀ws:List (aF×aF),jD (dG ws)=true
 | []=>rfl
 | w::ws=>by
   show jD (a8 w.2::a8 w.1::dG ws)=true
   simp only [jD,Ht ws]; rfl
theorem Nl (cs:List Nat) (ws:List (aF×aF)) (h:mm cs ws):yR [.lst (bE cs),.lst (ws.map c3)]= .ok (["many","counts","joined","far"],[.int (cs.length:Nat),.tup (bE cs),.tup (ws.map c3),.bx (dr ws) (dG ws)]):=by
 let r (ns:List Str) (ds:List D):ai:=[.aU (.ins "Net" ns ds),.ax (.lst (bE cs)),.ax (.lst (ws.map c3))]
 have g1:mT (ea (bz (b5 1 rV (ag (af 1) (az))))) (r [] [])= .ok (r [] []):=by
  have z:ea (bz (b5 1 rV (ag (af 1) (az)))) (r [] [])= .ok false:=yQ (c:=true) (pM (Ja rfl (Jt cs h.h1 h.h6 h.c)))
  simp only [mT,z,e0,Bool.false_eq_true,if_false]
 have g2:mT (ea (bz (cH (fM "list") (af 2)))) (r [] [])= .ok (r [] []):=rfl
 have f1:i3 "Net" "many" (cy c5 (ag (af 1) (az))) (r [] [])= .ok (r ["many"] [.int (cs.length:Nat)]):=by
  have rL:cy c5 (ag (af 1) az) (r [] [])= .ok (.int (cs.length:Nat)):=by
   rw [EH (xs:=bE cs) rfl]; simp [bE]
  rw [i3,rL]; rfl
 have f2:i3 "Net" "counts" (cy kQ (ag (af 1) (az))) (r ["many"] [.int (cs.length:Nat)])= .ok (r ["many","counts"] [.int (cs.length:Nat),.tup (bE cs)]):=rfl
 have eU:i3 "Net" "joined" (cy kQ (ag (af 2) (az))) (r ["many","counts"] [.int (cs.length:Nat),.tup (bE cs)])= .ok (r ["many","counts","joined"] [.int (cs.length:Nat),.tup (bE cs),.tup (ws.map c3)]):=rfl
 have f4:i3 "Net" "far" (mS (b5 2 pY (ag (cH (f6 "Net" "counts") (af 0)) (ag (cH (f6 "Net" "joined") (af 0)) (az))))) (r ["many","counts","joined"] [.int (cs.length:Nat),.tup (bE cs),.tup (ws.map c3)])= .ok (r ["many","counts","joined","far"] [.int (cs.length:Nat),.tup (bE cs),.tup (ws.map c3),.bx (dr ws) (dG ws)]):=by
  have z:mS (b5 2 pY (ag (cH (f6 "Net" "counts") (af 0)) (ag (cH (f6 "Net" "joined") (af 0)) (az)))) (r ["many","counts","joined"] [.int (cs.length:Nat),.tup (bE cs),.tup (ws.map c3)])= .ok (.bx (dr ws) (dG ws)):=by
   have y:b5 2 pY (ag (cH (f6 "Net" "counts") (af 0)) (ag (cH (f6 "Net" "joined") (af 0)) (az))) (eO (r ["many","counts","joined"] [.int (cs.length:Nat),.tup (bE cs),.tup (ws.map c3)]))= .ok (.bx (dr ws) (dG ws)):=call2 (x:= .tup (bE cs)) (z:= .tup (ws.map c3)) rfl rfl (K8 cs ws h)
   have n:i5 (.bx (dr ws) (dG ws))=true∧y8 (r ["many","counts","joined"] [.int (cs.length:Nat),.tup (bE cs),.tup (ws.map c3)])=true:=⟨by simp only [i5]; exact Ht ws,rfl⟩
   simp only [mS,y,e0,if_pos n]
  rw [i3,z]; rfl
 show outI "Net" (tL (r [] []))=_
 unfold tL
 rw [sO g1,sO g2,sO f1,sO f2,sO eU,f4]
 rfl
end b4
set_option Elab.async false
set_option linter.all false
set_option maxRecDepth 100000
set_option autoImplicit false
namespace b4
open PySem PySem.Spec aZ aA
theorem tW (ns:List Int) (k:Nat):∃c:Int,jB [.b7 (ns.map D.int),.int k]= .ok (.v (.int c)):=by
 by_cases h:k < ns.length
 · refine ⟨ns[k],?_⟩
   have e:aR (.b7 (ns.map D.int)) (.int (k:Int))= .ok (.int ns[k]):=NJ (by simp [h])
   simp [jB,tP,h,e]
 · exact ⟨0,by simp [jB,tP,h]⟩
theorem r7 (c:Int) (k:Nat) (hk:k < 1000):∃y:Int,gZ [.int c,.int k]= .ok (.v (.int y)):=by
 have h1:(2:Int) * (k:Int) * (k:Int)≤2000000:=by
  have:k * k≤1000 * 1000:=Nat.mul_le_mul (by omega) (by omega)
  have e:(2:Int) * (k:Int) * (k:Int)=2 * ((k * k:Nat):Int):=by rw [Int.natCast_mul,Int.mul_assoc]
  rw [e]; omega
 have h0:0≤(2:Int) * (k:Int) * (k:Int):=Int.mul_nonneg (by omega) (by omega)
 simp (disch:=first | omega | (simp; done) | (simp; omega)) [gZ,tQ,p8]
theorem Js (ns:List Int):∃cs:List Nat,(1≤cs.length∧cs.length≤6)∧(∀c∈cs,1≤c∧c≤4)∧rX [.b7 (ns.map D.int)]= .ok (.o (bE cs)):=by
 suffices h:Ends (rX [.b7 (ns.map D.int)]) fun b=>∃cs:List Nat,(1≤cs.length∧cs.length≤6)∧(∀c∈cs,1≤c∧c≤4)∧b= .o (bE cs) by
  obtain ⟨b,e,cs,h1,h2,rfl⟩:=h
  exact ⟨cs,h1,h2,e⟩
 obtain ⟨j0,ct⟩:=tW ns 0
 obtain ⟨bD,ah⟩:=tW ns 1
 have JZ:jB [.b7 (ns.map D.int),.int 0]= .ok (.v (.int j0)):=ct
 have gm:jB [.b7 (ns.map D.int),.int 1]= .ok (.v (.int bD)):=ah
 obtain ⟨y,dq⟩:=r7 j0 1 (by decide)
 have nT:gZ [.int j0,.int 1]= .ok (.v (.int y)):=dq
 obtain ⟨m,hm,em⟩:=ke y (n:=6) (by decide)
 have KV:(1:Int) + y % 6=((m + 1:Nat):Int):=by have:y % 6=(m:Int):=em; omega
 have ex:∀k:Nat,∃c:Nat,(1≤c∧c≤4)∧(k < 10→∃z:Int,gZ [.int bD,.int (3 + (k:Int))]= .ok (.v (.int z))∧1 + z % 4=(c:Int)):=fun k=>by
  by_cases hk:k < 10
  · obtain ⟨z,xx⟩:=r7 bD (3 + k) (by omega)
    obtain ⟨q,aD,eq⟩:=ke z (n:=4) (by decide)
    exact ⟨1 + q,by omega,fun _=>⟨z,by rw [←xx]; simp,by have:z % 4=(q:Int):=eq; omega⟩⟩
  · exact ⟨1,by omega,fun h=>absurd h hk⟩
 let q2:Nat→Nat:=fun k=>(ex k).choose
 have Jm:∀k,1≤q2 k∧q2 k≤4:=fun k=>(ex k).choose_spec.1
 have Jn:∀k:Nat,k < 10→∃z:Int,gZ [.int bD,.int (3 + (k:Int))]= .ok (.v (.int z))∧1 + z % 4=(q2 k:Int):=fun k=>(ex k).choose_spec.2
 simp (disch:=first | omega | (simp; done) | (simp; omega)) [rX,w1,JZ,nT,KV,-Int.natCast_add]
 refine xo (m + 1) (fun k=> .int (q2 k:Int)) (by simp [show m + 1 < 1000000 by omega,-Int.natCast_add]) (by omega) (fun k hk=>?_) ?_
 · obtain ⟨z,aw,bK⟩:=Jn k (by omega)
   simp [gm,aw,bK]
 · simp
   refine ⟨(List.range (m + 1)).map q2,⟨by simp,by simp; omega⟩,fun c hc=>?_,by simp [bE]⟩
   obtain ⟨k,_,rfl⟩:=List.mem_map.mp hc
   exact Jm k
theorem Ce {cs:List Nat} (h6:cs.length≤6) (f5:∀c∈cs,1≤c∧c≤4):rY [.lst (bE cs)]= .ok (.o ((c4 cs cs.length).map a8)):=by
 apply Ends.done
 have lcs:(bE cs).length=cs.length:=by simp [bE]
 simp (disch:=first | omega | (simp; done) | (simp; omega)) [rY,w2]
 refine xp cs.length (fun j ρ=>∃s2,ρ=[.ax (.lst (bE cs)),.df ((c4 cs j).map a8),s2]) (by simp [lcs,show cs.length < 1000000 by omega]) ⟨.un,by simp [c4]⟩ ?_ ?_
 · rintro j _ cD ⟨s5,rfl⟩
   have bK:aR (.lst (bE cs)) (.int (j:Int))= .ok (.int (cs.getD j 0:Nat)):=iX (pj cD)
   have EF:=xM (fun c h=>(f5 c h).2) j
   simp
   refine xo (cs.getD j 0) (fun k=>a8 (j,k)) (by simp only [List.getD_eq_getElem?_getD] at bK EF; simp [bK,show cs[j]?.getD 0 < 1000000 by omega]) (by omega) (fun k hk=>by simp [a8]) ?_
   have rL:=qR f5 j
   simp only [List.getD_eq_getElem?_getD] at EF ⊢
   simp [show (c4 cs j).length + cs[j]?.getD 0≤1000000 by omega]
   rw [wC]
   simp [lp]
 · rintro _ ⟨s5,rfl⟩
   simp
noncomputable abbrev k4:=Int×aF
noncomputable def p5 (p:k4):D:= .tup [.int p.1,a8 p.2]
noncomputable def om (p:k4):Int×Int×Int:=(p.1,(p.2.1:Int),(p.2.2:Int))
noncomputable def sV (k:Int×Int×Int):k4:=(k.1,(k.2.1.toNat,k.2.2.toNat))
theorem Hi (p:k4):sV (om p)=p:=by simp [sV,om]
theorem Et:∀aB:List k4,n1 (aB.map p5)=some (aB.map om)
 | []=>rfl
 | p::aB=>by simp only [List.map_cons,n1,Et aB]; rfl
theorem Am (aB:List k4) (h:aB.length < 64):∃fP:List k4,fP.Perm aB∧sD [.lst (aB.map p5)]= .ok (fP.map p5):=by
 refine ⟨(LT.kN (aB.map om)).map sV,?_,?_⟩
 · refine ((LT.sF (aB.map om)).map sV).trans ?_
   rw [List.map_map,show sV ∘ om=id from funext Hi,List.map_id]
 · have hl:(aB.map p5).length < 64:=by simpa using h
   simp only [sD,if_pos hl,Et]
   congr 1
   rw [List.map_map]
   refine List.map_congr_left fun k hk=>?_
   obtain ⟨p,_,rfl⟩:=List.mem_map.mp ((LT.sF (aB.map om)).mem_iff.mp hk)
   simp only [Function.comp,Hi]
   rfl
noncomputable def pairUp (l:List aF) (n:Nat):List (aF×aF):=(List.range n).map fun k=>(l.getD (2 * k) (0,0),l.getD (2 * k + 1) (0,0))
theorem Cw (l:List aF):∀n,2 * n≤l.length→ends (pairUp l n)=l.take (2 * n)
 | 0,_=>by simp [pairUp,ends]
 | n + 1,h=>by
   have b8:=Cw l n (by omega)
   have e:pairUp l (n + 1)=pairUp l n ++ [(l.getD (2 * n) (0,0),l.getD (2 * n + 1) (0,0))]:=by simp [pairUp,List.range_succ]
   have aw:ends (pairUp l n ++ [(l.getD (2 * n) (0,0),l.getD (2 * n + 1) (0,0))])=ends (pairUp l n) ++ [l.getD (2 * n) (0,0),l.getD (2 * n + 1) (0,0)]:=by simp [ends]
   have t1:l.take (2 * n + 1 + 1)=l.take (2 * n) ++ [l[2 * n],l[2 * n + 1]]:=by
    rw [List.take_add_one,List.take_add_one,List.getElem?_eq_getElem (show 2 * n < l.length by omega),List.getElem?_eq_getElem (show 2 * n + 1 < l.length by omega),List.append_assoc]; rfl
   rw [e,aw,b8,show 2 * (n + 1)=2 * n + 1 + 1 by omega,t1]
   simp [List.getElem?_eq_getElem (show 2 * n < l.length by omega),List.getElem?_eq_getElem (show 2 * n + 1 < l.length by omega)]
theorem U0 (ns:List Int) (cs:List Nat) (h1:1≤cs.length) (h6:cs.length≤6) (f5:∀c∈cs,1≤c∧c≤4):∃ws,mm cs ws∧r2 [.b7 (ns.map D.int),.lst (bE cs)]= .ok (.o (ws.map c3)):=by
 suffices h:Ends (r2 [.b7 (ns.map D.int),.lst (bE cs)]) fun b=>∃ws,mm cs ws∧b= .o (ws.map c3) by
  obtain ⟨b,e,ws,h,rfl⟩:=h
  exact ⟨ws,h,e⟩
 have wm:1≤(c4 cs cs.length).length:=List.length_pos_of_mem (head_mem h1 f5)
 have V1:=qR f5 cs.length
 have PC:=Bw cs cs.length
 have out:=Ce h6 f5
 generalize DC:c4 cs cs.length=al at *
 obtain ⟨dj,aw⟩:=tW ns 2
 obtain ⟨gR,bK⟩:=tW ns 3
 have J2:jB [.b7 (ns.map D.int),.int 2]= .ok (.v (.int dj)):=aw
 have q6:jB [.b7 (ns.map D.int),.int 3]= .ok (.v (.int gR)):=bK
 simp (disch:=first | omega | (simp; done) | (simp; omega)) [r2,w5,out]
 refine xp al.length (fun j ρ=>∃(aB:List k4) (s4:cQ),aB.map (·.2)=al.take j∧ρ=[.ax (.b7 (ns.map D.int)),.ax (.lst (bE cs)),.ax (.lst (al.map a8)),.df (aB.map p5),s4,.un,.un,.un]) (by simp (disch:=first | omega | (simp; done) | (simp; omega))) ⟨[],.un,rfl,rfl⟩ ?_ ?_
 · rintro j _ cD ⟨aB,s4,hp,rfl⟩
   have lE:aB.length=j:=by
    have:=congrArg List.length hp
    simpa [Nat.min_eq_left (Nat.le_of_lt cD)] using this
   obtain ⟨y,dq⟩:=r7 (dj + (j:Int) * (j:Int)) (20 + j) (by omega)
   have nT:gZ [.int (dj + (j:Int) * (j:Int)),.int (20 + (j:Int))]= .ok (.v (.int y)):=by rw [←dq]; simp
   have d8:aR (.lst (al.map a8)) (.int (j:Int))= .ok (a8 al[j]):=iX (by simp [cD])
   simp (disch:=first | omega | (simp; done) | (simp; omega)) [J2,nT,d8]
   refine ⟨aB ++ [(y,al[j])],?_,by simp [p5]⟩
   rw [List.map_append,hp,List.take_add_one,List.getElem?_eq_getElem cD]; rfl
 · rintro _ ⟨aB,s4,hp,rfl⟩
   rw [List.take_length] at hp
   have lE:aB.length=al.length:=by rw [←hp,List.length_map]
   obtain ⟨fP,aD,ae⟩:=Am aB (by omega)
   have W3:fP.length=al.length:=by rw [aD.length_eq,lE]
   simp
   refine q9 (fun p:k4=> .int p.1) (fun p=>a8 p.2) fP (fun p=>a8 p.2) (by simp [ae]; intros; rfl) (by omega) (fun p _=>by simp) ?_
   have hd:(fP.map (·.2)).Perm al:=by rw [←hp]; exact aD.map _
   have KR:fP.map (fun p=>a8 p.2)=(fP.map (·.2)).map a8:=by simp
   rw [KR]
   generalize uq:fP.map (·.2)=dl at hd
   have WT:dl.length=al.length:=hd.length_eq
   obtain ⟨y,dq⟩:=r7 gR 11 (by decide)
   have nT:gZ [.int gR,.int 11]= .ok (.v (.int y)):=dq
   have V4:=Int.emod_nonneg y (b:=((al.length:Int) - 1) / 2 / 3 + 1) (by omega)
   have V5:=Int.emod_lt_of_pos y (b:=((al.length:Int) - 1) / 2 / 3 + 1) (by omega)
   generalize hv:((al.length:Int) - 1) / 2 - y % (((al.length:Int) - 1) / 2 / 3 + 1)=v
   have Mk:0≤v∧2 * v + 1≤al.length:=by omega
   obtain ⟨n,rfl⟩:=Int.eq_ofNat_of_zero_le Mk.1
   simp (disch:=first | omega | (simp; done) | (simp; omega)) [q6,nT,hv]
   refine xo n (fun k=>c3 (dl.getD (2 * k) (0,0),dl.getD (2 * k + 1) (0,0))) (by simp (disch:=first | omega | (simp; done) | (simp; omega))) (by omega) (fun k hk=>?_) ?_
   · have a1:aR (.lst (dl.map a8)) (.int (2 * (k:Int)))= .ok (a8 (dl.getD (2 * k) (0,0))):=by
      have:=iX (xs:=dl.map a8) (k:=2 * k) (d:=a8 (dl.getD (2 * k) (0,0))) (by simp [show 2 * k < dl.length by omega])
      rw [←this]; simp
     have a2:aR (.lst (dl.map a8)) (.int (2 * (k:Int) + 1))= .ok (a8 (dl.getD (2 * k + 1) (0,0))):=by
      have:=iX (xs:=dl.map a8) (k:=2 * k + 1) (d:=a8 (dl.getD (2 * k + 1) (0,0))) (by simp [show 2 * k + 1 < dl.length by omega])
      rw [←this]; simp
     simp only [List.getD_eq_getElem?_getD] at a1 a2
     simp [a1,a2,c3]
   · have q8:=Cw dl n (by omega)
     have y4:dl.Nodup:=hd.nodup_iff.mpr PC
     simp
     refine ⟨pairUp dl n,⟨h1,h6,f5,by rw [q8]; exact y4.sublist (List.take_sublist _ _),fun d gV=>?_,?_,?_⟩,by simp [pairUp,c3]⟩
     · rw [q8] at gV; rw [DC]; exact hd.mem_iff.mp (List.mem_of_mem_take gV)
     · have hx:2 * n < dl.length:=by omega
       refine ⟨dl[2 * n],by rw [DC]; exact hd.mem_iff.mp (List.getElem_mem _),?_⟩
       rw [q8]
       intro z
       rw [←List.take_append_drop (2 * n) dl,List.nodup_append] at y4
       exact y4.2.2 _ z dl[2 * n] (by rw [List.mem_iff_getElem?]; exact ⟨0,by simp [List.getElem?_eq_getElem hx]⟩) rfl
     · simp [pairUp]; omega
end b4
set_option Elab.async false
set_option linter.all false
set_option maxRecDepth 100000
set_option autoImplicit false
namespace b4
open PySem PySem.Spec aZ aA
noncomputable def tE (c:Nat):Prop:=c=48∨c=49∨c=120
structure k9 (x:Str):Prop where
 l:x.cps.toList.length=4
 s:∀c∈x.cps.toList,tE c
theorem S5 {c:Nat} (h:tE c):inD true (il c) pg= .ok (.au true):=by
 rcases h with h | h | h <;> subst h <;> rfl
theorem len_str (x:Str) (h:x.cps.toList.length≤1000):c5 [.str x]= .ok (.int (x.cps.toList.length:Int)):=by
 have e:x.length=x.cps.toList.length:=rfl
 have aw:x.length≤1000000:=by omega
 rw [←e]
 simp only [c5,if_pos aw]
theorem Nz (x:Str):fM "str" (.str x)= .ok (.au true):=rfl
theorem rF (l:List D):fM "list" (.lst l)= .ok (.au true):=rfl
theorem NA (l:List D):fM "tuple" (.tup l)= .ok (.au true):=rfl
theorem BU {α:Type} (f:α→Bool):∀l:List α,lh (l.map fun a=>D.au (f a))=some (l.map f)
 | []=>rfl
 | a::l=>by simp [lh,BU f l]
theorem qS {α:Type} (f:α→Bool) (l:List α):aA.c4 [.lst (l.map fun a=>D.au (f a))]= .ok (.au (l.all f)):=by
 simp [aA.c4,BU,Function.comp_def]
theorem U2:c5 [mz]= .ok (.int 4):=rfl
theorem Fv {x:Str} (h:k9 x):oe [.str x]= .ok (.v (.au true)):=by
 apply Ends.done
 have l:=h.l
 simp [oe,wU,Nz,len_str x (by omega),U2,l]
 refine t6 il x.cps.toList (fun _=> .au true) (by simp) (by omega) (fun c hc=>by simp [S5 (h.s c hc)]) ?_
 have a:=qS (fun _:Nat=>true) x.cps.toList
 simp only [a]
 simp
theorem Q7 (y:Int):∃c,tE c∧aR (.str (PySem.Str.ofString "01xx")) (.int (y % 4))= .ok (.str ⟨#[c]⟩):=by
 have h:y % 4=0∨y % 4=1∨y % 4=2∨y % 4=3:=by omega
 rcases h with h | h | h | h <;> rw [h]
 · exact ⟨48,.inl rfl,rfl⟩
 · exact ⟨49,.inr (.inl rfl),rfl⟩
 · exact ⟨120,.inr (.inr rfl),rfl⟩
 · exact ⟨120,.inr (.inr rfl),rfl⟩
theorem Iu {x y:Str} (h:x.length + y.length≤1000000):d7 (.str x) (.str y)= .ok (.str (x ++ y)):=if_pos h
theorem Ju (x:Str) (c:Nat):(x ++ (⟨#[c]⟩:Str)).cps.toList=x.cps.toList ++ [c]:=by
 show (x.cps ++ #[c]).toList=_
 simp
theorem QA (y:Int):∃p,k9 p∧r0 [.int y]= .ok (.v (.str p)):=by
 suffices h:Ends (r0 [.int y]) fun b=>∃p,k9 p∧b= .v (.str p) by
  obtain ⟨b,e,p,h,rfl⟩:=h
  exact ⟨p,h,e⟩
 simp [r0,w3]
 refine xp 4 (fun j ρ=>∃(z:Int) (x:Str) (s2:cQ),x.cps.toList.length=j∧(∀c∈x.cps.toList,tE c)∧ρ=[.ax (.int z),.ax (.str x),s2]) (by simp; exact RV 4 (by decide)) ⟨y,PySem.Str.ofString "",.un,by decide,(fun c h=>nomatch (show c∈([]:List Nat) from h)),rfl⟩ ?_ ?_
 · rintro j _ cD ⟨z,x,s2,hl,hs,rfl⟩
   obtain ⟨c,hc,e⟩:=Q7 z
   have OS:x.length + (⟨#[c]⟩:Str).length≤1000000:=by
    have h1:x.length=x.cps.toList.length:=rfl
    have h2:(⟨#[c]⟩:Str).length=1:=rfl
    omega
   simp (disch:=first | omega | (simp; done) | (simp; omega)) [e,Iu OS]
   have ca:=Ju x c
   refine ⟨_,_,by rw [←Array.length_toList,ca]; simp [hl],fun d hd=>?_,rfl,rfl⟩
   rw [←Array.mem_toList_iff,ca] at hd
   rcases List.mem_append.mp hd with h | h
   · exact hs d h
   · rw [List.mem_singleton.mp h]; exact hc
 · rintro _ ⟨z,x,s2,hl,hs,rfl⟩
   simp
   exact ⟨hl,hs⟩
structure dz where
 p:Str
 a:Option Nat
 b:Option Nat
noncomputable def gu:Option Nat→D
 | none=> .non
 | some k=> .int (k:Int)
noncomputable def dg (r:dz):D:= .tup [.str r.p,gu r.a,gu r.b]
structure nC (c:Nat) (r:dz):Prop where
 p:k9 r.p
 a:∀k,r.a=some k→k < c
 b:∀k,r.b=some k→k < c
theorem u7 {c:Nat} {o:Option Nat} (h:∀k,o=some k→k < c):jA [gu o,.int (c:Int)]= .ok (.v (.au true)):=by
 cases o with
 | none=>simp [jA,qW,gu,hB]
 | some k=>
   have:=h k rfl
   simp [jA,qW,gu,hB,oC]
   omega
theorem vk {c:Nat} {p a b:D} {h1 h2 h3:Bool} (ah:oe [p]= .ok (.v (.au h1))) (aw:jA [a,.int (c:Int)]= .ok (.v (.au h2))) (bK:jA [b,.int (c:Int)]= .ok (.v (.au h3))):mU [.tup [p,a,b],.int (c:Int)]= .ok (.v (.au (h1 && h2 && h3))):=by
 have gW:aR (.tup [p,a,b]) (.int 0)= .ok p:=rfl
 have bL:aR (.tup [p,a,b]) (.int 1)= .ok a:=rfl
 have bB:aR (.tup [p,a,b]) (.int 2)= .ok b:=rfl
 cases h1 <;> cases h2 <;> cases h3 <;> simp [mU,wV,NA,gW,bL,bB,ah,aw,bK]
theorem F1 {c:Nat} {r:dz} (h:nC c r):mU [dg r,.int (c:Int)]= .ok (.v (.au true)):=vk (Fv h.p) (u7 h.a) (u7 h.b)
theorem RW (cell:Int) (k:Nat) (hk:k < 900) (c:Nat) (hc:1≤c):∃r,nC c r∧r1 [.int cell,.int k,.int (c:Int)]= .ok (.v (dg r)):=by
 obtain ⟨y,dq⟩:=r7 cell k (by omega)
 obtain ⟨p,hp,dB⟩:=QA y
 obtain ⟨aW,L_,eq1⟩:=ke (y / 700) (n:=c) (by omega)
 obtain ⟨bG,Ma,eq2⟩:=ke (y / 3000) (n:=c) (by omega)
 have d2:∃o:Option Nat,(∀k,o=some k→k < c)∧aR (.lst [.non,.int (aW:Int)]) (.int (y / 256 % 2))= .ok (gu o):=by
  have h:y / 256 % 2=0∨y / 256 % 2=1:=by omega
  rcases h with h | h <;> rw [h]
  · exact ⟨none,(fun _ z=>nomatch z),rfl⟩
  · exact ⟨some aW,(fun k z=>by cases z; exact L_),rfl⟩
 have dP:∃o:Option Nat,(∀k,o=some k→k < c)∧aR (.lst [.int (bG:Int),.non]) (.int (if (y / 20000 % 9 == 0)=true then 1 else 0))= .ok (gu o):=by
  cases h:(y / 20000 % 9 == 0)
  · exact ⟨some bG,(fun k z=>by cases z; exact Ma),rfl⟩
  · exact ⟨none,(fun _ z=>nomatch z),rfl⟩
 obtain ⟨cn,h1,bL⟩:=d2
 obtain ⟨b3,h2,bB⟩:=dP
 refine ⟨⟨p,cn,b3⟩,⟨hp,h1,h2⟩,?_⟩
 simp only [beq_iff_eq] at bB
 simp (disch:=first | omega | (simp; done) | (simp; omega)) [r1,w4,dq,eq1,eq2,bL,bB,dB,dg]
end b4
set_option Elab.async false
set_option linter.all false
set_option maxRecDepth 100000
set_option autoImplicit false
namespace b4
open PySem PySem.Spec aZ aA
noncomputable def cB (b:List dz):D:= .lst (b.map dg)
structure Bc (c:Nat) (b:List dz):Prop where
 l:b.length≤12
 r:∀r∈b,nC c r
theorem I1 {c:Nat} {l:List D} {f:D→Bool} (hl:l.length≤12) (h:∀d∈l,mU [d,.int (c:Int)]= .ok (.v (.au (f d)))):i4 [.lst l,.int (c:Int)]= .ok (.v (.au (l.all f))):=by
 apply Ends.done
 simp [i4,o5,rF,my,show ¬ ((12:Int) < l.length) by omega]
 refine t6 id l (fun d=> .au (f d)) (by simp) (by omega) (fun d hd=>by simp [h d hd]) ?_
 have a:=qS f l
 simp [a]
theorem I4 {c:D} {l:List D} (hl:12 < l.length):i4 [.lst l,c]= .ok (.v (.au false)):=by
 simp [i4,o5,rF,my,show ((12:Int) < l.length) by omega]
theorem I3 {d c:D} (h:fM "list" d= .ok (.au false)):i4 [d,c]= .ok (.v (.au false)):=by
 simp [i4,o5,h]
theorem BR {c:Nat} {b:List dz} (h:Bc c b):i4 [cB b,.int (c:Int)]= .ok (.v (.au true)):=by
 have:=I1 (c:=c) (l:=b.map dg) (f:=fun _=>true) (by simpa using h.l) fun d hd=>by
  obtain ⟨r,hr,rfl⟩:=List.mem_map.mp hd
  exact F1 (h.r r hr)
 unfold cB
 rw [this]
 simp
theorem I2 {c:Nat} {p q:List dz} {d:D} (h1:∀r∈p,nC c r) (h2:∀r∈q,nC c r) (hd:mU [d,.int (c:Int)]= .ok (.v (.au false))) (hl:p.length + q.length≤11):i4 [.lst (p.map dg ++ d::q.map dg),.int (c:Int)]= .ok (.v (.au false)):=by
 apply Ends.done
 let g:Option dz→D:=fun o=>match o with
  | none=>d
  | some s=>dg s
 let xs:List (Option dz):=p.map some ++ none::q.map some
 have e:p.map dg ++ d::q.map dg=xs.map g:=by simp [xs,g,Function.comp_def]
 have W6:xs.length=p.length + q.length + 1:=by simp [xs]; omega
 rw [e]
 simp [i4,o5,rF,my,show ¬ ((12:Int) < xs.length) by omega]
 refine t6 g xs (fun o=> .au o.isSome) (by simp) (by omega) (fun o ho=>?_) ?_
 · cases o with
   | none=>simp [g,hd]
   | some s=>
     have:nC c s:=by
      simp [xs] at ho
      exact ho.elim (h1 s) (h2 s)
     simp [g,F1 this]
 · have a:=qS (fun o:Option dz=>o.isSome) xs
   have b:xs.all (fun o=>o.isSome)=false:=by simp [xs]
   rw [b] at a
   simp [a]
noncomputable def cF (cs:List Nat) (ws:List (aF×aF)):D:= .ins "Net" ["many","counts","joined","far"] [.int (cs.length:Nat),.tup (bE cs),.tup (ws.map c3),.bx (dr ws) (dG ws)]
theorem yT (cs:List Nat) (ws:List (aF×aF)):f6 "Net" "many" (cF cs ws)= .ok (.int (cs.length:Int)):=rfl
theorem B5 (cs:List Nat) (ws:List (aF×aF)):f6 "Net" "counts" (cF cs ws)= .ok (.tup (bE cs)):=rfl
theorem SV (cs:List Nat) (ws:List (aF×aF)):ow "Net" "count" (cF cs ws)= .ok (cF cs ws):=rfl
theorem Jr {cs:List Nat} {ws:List (aF×aF)} {h:Nat} (hh:h < cs.length):uT [cF cs ws,.int (h:Int)]= .ok (.v (.int (cs.getD h 0:Nat))):=by
 have e:aR (.tup (bE cs)) (.int (h:Int))= .ok (.int (cs.getD h 0:Nat)):=yw (pj hh)
 simp only [List.getD_eq_getElem?_getD] at e ⊢
 simp [uT,wM,yT,B5,e,hh]
theorem w_ {cs:List Nat} {ws:List (aF×aF)} {l:List D} {f:D×Nat→Bool} (hl:l.length=cs.length) (h6:cs.length≤6) (h:∀p∈l.zipIdx,i4 [p.1,.int (cs.getD p.2 0:Nat)]= .ok (.v (.au (f p)))):hF [.lst l,cF cs ws]= .ok (.v (.au (l.zipIdx.all f))):=by
 apply Ends.done
 simp [hF,qV,rF,yT,hl]
 have iy:=t7 id l
 rw [List.map_id] at iy
 refine q9 (fun p:D×Nat=> .int (p.2:Int)) (fun p=>p.1) l.zipIdx (fun p=> .au (f p)) (by simp only [Ho,AJ,v_var,vJ]; simp [iy]) (by simp; omega) (fun p hp=>?_) ?_
 · have:=(List.getElem?_eq_some_iff.mp (vY hp)).1
   have hc:=Jr (cs:=cs) (ws:=ws) (h:=p.2) (by omega)
   have hb:=h p hp
   simp only [List.getD_eq_getElem?_getD] at hc hb
   simp [SV,hc,hb]
 · have a:=qS f l.zipIdx
   simp [a]
theorem q1 {d e:D} (h:fM "list" d= .ok (.au false)):hF [d,e]= .ok (.v (.au false)):=by
 simp [hF,qV,h]
theorem I6 {cs:List Nat} {ws:List (aF×aF)} {l:List D} (hl:l.length≠cs.length):hF [.lst l,cF cs ws]= .ok (.v (.au false)):=by
 simp [hF,qV,rF,yT,show ¬ ((l.length:Int)=(cs.length:Int)) by omega]
structure kU (cs:List Nat) (bs:List (List dz)):Prop where
 l:bs.length=cs.length
 b:∀(i:Nat) b,bs[i]? =some b→Bc (cs.getD i 0) b
theorem I8 {cs:List Nat} {ws:List (aF×aF)} {bs:List (List dz)} (h6:cs.length≤6) (h:kU cs bs):hF [.lst (bs.map cB),cF cs ws]= .ok (.v (.au true)):=by
 have:=w_ (ws:=ws) (l:=bs.map cB) (f:=fun _=>true) (by simpa using h.l) h6 fun p hp=>by
  have e:=vY hp
  rw [List.getElem?_map] at e
  cases bq:bs[p.2]? with
  | none=>rw [bq] at e; cases e
  | some b=>
    rw [bq] at e
    rw [←Option.some.inj (show some (cB b)=some p.1 from e)]
    exact BR (h.b _ _ bq)
 rw [this]
 simp
theorem I5 {cs:List Nat} {ws:List (aF×aF)} {bs:List (List dz)} (h6:cs.length≤6) (h:kU cs bs) {k:Nat} (hk:k < bs.length) {d:D} (hd:i4 [d,.int (cs.getD k 0:Nat)]= .ok (.v (.au false))):hF [.lst ((bs.map cB).set k d),cF cs ws]= .ok (.v (.au false)):=by
 have:=w_ (ws:=ws) (l:=(bs.map cB).set k d) (f:=fun p=> !(p.2 == k)) (by simpa using h.l) h6 fun p hp=>by
  have e:=vY hp
  rw [List.getElem?_set] at e
  by_cases q:k=p.2
  · rw [if_pos q,if_pos (by simpa using hk)] at e
    cases e
    rw [←q,hd]
    simp
  · rw [if_neg q,List.getElem?_map] at e
    cases bq:bs[p.2]? with
    | none=>rw [bq] at e; cases e
    | some b=>
      rw [bq] at e
      rw [←Option.some.inj (show some (cB b)=some p.1 from e),BR (h.b _ _ bq),show (p.2 == k)=false from beq_eq_false_iff_ne.mpr (fun z=>q z.symm)]
      rfl
 rw [this]
 congr 3
 rw [List.all_eq_false]
 refine ⟨(d,k),?_,by simp⟩
 rw [List.mem_iff_getElem?]
 refine ⟨k,?_⟩
 rw [List.getElem?_zipIdx,List.getElem?_set,if_pos rfl,if_pos (by simpa using hk)]
 simp
end b4
set_option Elab.async false
set_option linter.all false
set_option maxRecDepth 100000
set_option autoImplicit false
namespace b4
open PySem PySem.Spec aZ aA
noncomputable def lT (b:List dz):T:= .lst (b.map fun r=>T.ax (dg r))
noncomputable def ip (bs:List (List dz)):List T:=bs.map lT
theorem G1 (b:List dz):toD (lT b)=cB b:=by
 have:∀l:List dz,g7 (l.map fun r=>T.ax (dg r))=l.map dg:=fun l=>by
  induction l with
  | nil=>simp [g7]
  | cons r l b8=>simp [g7,toD,b8]
 unfold lT cB
 rw [toD,this]
theorem AE (bs:List (List dz)):toD (.lst (ip bs))= .lst (bs.map cB):=by
 have:∀l:List (List dz),g7 (l.map lT)=l.map cB:=fun l=>by
  induction l with
  | nil=>simp [g7]
  | cons r l b8=>simp [g7,G1,b8]
 unfold ip
 rw [toD,this]
theorem kU.put {cs:List Nat} {bs:List (List dz)} (h:kU cs bs) {k:Nat} {b:List dz} {r:dz} (e:bs[k]? =some b) (hl:b.length < 12) (hr:nC (cs.getD k 0) r):kU cs (bs.set k (b ++ [r])):=by
 refine ⟨by simpa using h.l,fun i x ex=>?_⟩
 rw [List.getElem?_set] at ex
 have hk:=(List.getElem?_eq_some_iff.mp e).1
 by_cases q:k=i
 · rw [if_pos q,if_pos hk] at ex
   cases ex
   subst q
   refine ⟨by simp; omega,fun x hx=>?_⟩
   rcases List.mem_append.mp hx with hx | hx
   · exact (h.b _ _ e).r x hx
   · rw [List.mem_singleton.mp hx]; exact hr
 · rw [if_neg q] at ex
   exact h.b _ _ ex
theorem xN {cs:List Nat} (h:∀c∈cs,1≤c∧c≤4) {k:Nat} (hk:k < cs.length):1≤cs.getD k 0∧cs.getD k 0≤4:=by
 have:=h (cs[k]) (List.getElem_mem _)
 simpa [hk] using this
theorem I7 (zs:List Int) (a5:zs.length≤100) (cs:List Nat) (h1:1≤cs.length) (h6:cs.length≤6) (f5:∀c∈cs,1≤c∧c≤4):∃bs,kU cs bs∧rW [.lst (zs.map D.int),.lst (bE cs)]= .ok (.t (.lst (ip bs))):=by
 suffices h:Ends (rW [.lst (zs.map D.int),.lst (bE cs)]) fun b=>∃bs,kU cs bs∧b= .t (.lst (ip bs)) by
  obtain ⟨b,e,bs,h,rfl⟩:=h
  exact ⟨bs,h,e⟩
 have lcs:(bE cs).length=cs.length:=by simp [bE]
 simp [rW,w0]
 refine Ct (fun c:Nat=>D.int (c:Int)) cs (fun _=>[]) (by simp [bE]) (by omega) (fun c _=>by simp) ?_
 refine Cv (fun p:Int×Nat=> .tup [.int (p.2:Int),.int p.1]) zs.zipIdx (fun _ ρ=>∃(bs:List (List dz)) (s3 s4 s5:cQ),kU cs bs∧ρ=[.ax (.lst (zs.map D.int)),.ax (.lst (bE cs)),.dm (.lst (ip bs)),s3,s4,s5]) (by simp [t7]) ⟨cs.map fun _=>[],.un,.un,.un,⟨by simp,fun i b e=>?_⟩,by simp [ip,lT,hC]⟩ ?_ ?_
 · rw [List.getElem?_map] at e
   cases ec:cs[i]? with
   | none=>rw [ec] at e; cases e
   | some c=>rw [ec] at e; cases e; exact ⟨by simp,fun r h=>nomatch h⟩
 · rintro j ⟨z,j9⟩ _ cD ⟨bs,s3,s4,s5,ok,rfl⟩
   obtain ⟨ah,aw⟩:=A9 cD
   simp only at ah aw
   subst ah
   have LQ:j9 < zs.length:=(List.getElem?_eq_some_iff.mp aw).1
   obtain ⟨k,hk,dD⟩:=ke (j9:Int) (n:=cs.length) (by omega)
   have x5:k < bs.length:=by rw [ok.l]; exact hk
   have bq:bs[k]? =some bs[k]:=List.getElem?_eq_getElem x5
   have yu:aR (.lst (bs.map cB)) (.int (k:Int))= .ok (cB bs[k]):=iX (by simp [x5])
   have yK:c5 [cB bs[k]]= .ok (.int (bs[k].length:Int)):=by simp [cB]
   have Eo:aR (.lst (bE cs)) (.int (k:Int))= .ok (.int (cs.getD k 0:Nat)):=iX (pj hk)
   simp (disch:=first | omega | (simp; done) | (simp; omega)) [lcs,dD,AE,yu,yK]
   by_cases hl:bs[k].length < 12
   · obtain ⟨r,hr,cJ⟩:=RW z (31 + j9) (by omega) (cs.getD k 0) (xN f5 hk).1
     have CA:r1 [.int z,.int (31 + (j9:Int)),.int (cs.getD k 0:Nat)]= .ok (.v (dg r)):=by rw [←cJ]; simp
     have gS:(ip bs)[k]? =some (.lst (bs[k].map fun r=>T.ax (dg r))):=by simp [ip,x5,lT]
     rw [if_pos (by omega),ID gS (d:=dg r) (by
      simp only [List.getD_eq_getElem?_getD] at CA Eo
      simp [Eo,CA]) (by simp; omega)]
     simp
     refine ⟨bs.set k (bs[k] ++ [r]),ok.put bq hl hr,?_⟩
     simp [ip,lT,List.map_set]
   · rw [if_neg (by omega)]
     simp
     exact ⟨bs,ok,rfl⟩
 · rintro _ ⟨bs,s3,s4,s5,ok,rfl⟩
   simp
   exact ⟨bs,ok,rfl⟩
end b4
set_option Elab.async false
set_option linter.all false
set_option maxRecDepth 100000
set_option autoImplicit false
namespace b4
open PySem PySem.Spec aZ aA
@[simp] theorem Yh (m:aK) (ρ:ai):pS m ρ=(m ρ).bind A8:=(rfl)
@[simp] theorem X3 (m n:ay) (ρ:ai):rN m n ρ=(m ρ).bind fun d=>match d with
  | .bx ks ds=>(n ρ).bind fun k=>match mR k with
    | some b0=> .ok ((findD ks ds b0).getD .non)
    | none=> .bad
  | _=> .bad:=(rfl)
@[simp] theorem Hp (e:ay) (ρ:ai):ka e ρ=(e (eO ρ)).bind fun d=> .ok (.dF d):=by
  unfold ka; rfl
@[simp] theorem Yc (m:ay) (ma:aK) (ρ:ai):n7 m ma ρ=(m ρ).bind fun d=>match d with
  | .lst ds=>(ma ρ).bind fun ae=>uD (.lst ds) ae
  | _=> .bad:=(rfl)
theorem wB (i:Int):kb [.int i]= .ok (.v (.au (decide (0≤i) && decide (i≤15)))):=by
 simp [kb,wR,oC,pe]
noncomputable def tR (a w:Nat):Nat:=48 + a / w % 2
noncomputable def t_ (p:Str) (a:Nat):Bool:=(p.cps.toList.zip [8,4,2,1]).all fun q=>decide (q.1=120∨q.1=tR a q.2)
theorem Tw (b:Nat) (h:b=0∨b=1):oz [.int (b:Int)]= .ok (.str ⟨#[48 + b]⟩):=by
 rcases h with rfl | rfl <;> rfl
theorem sign_eq (c d:Nat):br (.str ⟨#[d]⟩) (il c)=decide (c=d):=by
 show br (.str ⟨#[d]⟩) (.str ⟨#[c]⟩)=_
 simp only [br]
 rw [Bool.eq_iff_iff,beq_iff_eq,decide_eq_true_iff]
 simp
 exact eq_comm
theorem Tx:PySem.Str.ofString "x"=⟨#[120]⟩:=by decide
theorem Nh (c d:Nat):inD true (il c) (.tup [.str (PySem.Str.ofString "x"),.str ⟨#[d]⟩])= .ok (.au (decide (c=120∨c=d))):=by
 have o:okN 7 (il c)=true:=rfl
 have cn:okN 7 (.str (PySem.Str.ofString "x"))=true:=rfl
 have b3:okN 7 (.str ⟨#[d]⟩)=true:=rfl
 have s:sA (.tup [.str (PySem.Str.ofString "x"),.str ⟨#[d]⟩])=some [.str (PySem.Str.ofString "x"),.str ⟨#[d]⟩]:=rfl
 simp only [inD,s,o,cn,b3,List.all_cons,List.all_nil,Bool.and_true,and_self,if_true,List.any_cons,List.any_nil,Bool.or_false]
 rw [Tx,sign_eq,sign_eq]
 simp
theorem Lc {p:Str} (hp:k9 p) {a:Nat} (ha:a < 16):pZ [.str p,.int (a:Int)]= .ok (.v (.au (t_ p a))):=by
 apply Ends.done
 have l:=hp.l
 simp [pZ,wO,Fv hp,wB,show (a:Int)≤15 by omega]
 refine q9 (fun q:Nat×Nat=>il q.1) (fun q=> .int (q.2:Int)) (p.cps.toList.zip [8,4,2,1]) (fun q=> .au (decide (q.1=120∨q.1=tR a q.2))) ?_ (by simp; omega) (fun q aD=>?_) ?_
 · show R.ok (oH p.cps.toList [.int 8,.int 4,.int 2,.int 1])=_
   unfold oH
   rw [show ([.int 8,.int 4,.int 2,.int 1]:List D)=([8,4,2,1]:List Nat).map fun (n:Nat)=>D.int (n:Int) from rfl,List.zip_map_right,List.map_map]
   rfl
 · have hw:q.2=8∨q.2=4∨q.2=2∨q.2=1:=by
    have:=(List.of_mem_zip (show (q.1,q.2)∈_ from aD)).2
    simpa using this
   have ja:oz [.int ((a:Int) / (q.2:Int) % 2)]= .ok (.str ⟨#[48 + a / q.2 % 2]⟩):=by
    have:=Tw (a / q.2 % 2) (by omega)
    rw [←this]; simp
   simp (disch:=first | omega | (simp; done) | (simp; omega)) [ja,Nh,tR]
   rw [Bool.eq_iff_iff]; simp
   exact decide_eq_true_iff.symm
 · have al:=qS (fun q:Nat×Nat=>decide (q.1=120∨q.1=tR a q.2)) (p.cps.toList.zip [8,4,2,1])
   simp only [al]
   simp [t_]
noncomputable def mt (d a:Nat) (r:dz):Bool:=(r.a.isNone || r.a == some d) && t_ r.p a
theorem Nx (o:Option Nat):hB (gu o)=o.isNone:=by cases o <;> rfl
theorem K0 (o:Option Nat) (d:Nat):dp true (gu o) (.int (d:Int))= .ok (.au (o == some d)):=by
 cases o with
 | none=>rfl
 | some k=>
   show R.ok (D.au ((k:Int) == (d:Int)))=_
   congr 2
   rw [Bool.eq_iff_iff]
   simp
   omega
theorem sX (mi:aK) (set:D→ai→R ai) (body:a0) (ρ:ai):fO mi set body ρ=(mi ρ).bind fun ds=>fL set body ds ρ:=(rfl)
noncomputable def kj (d a:Nat):Nat→List dz→Option Nat
 | _,[]=>none
 | i,r::rs=>if mt d a r=true then some i else kj d a (i + 1) rs
theorem GV {d a:Nat} (ha:a < 16):∀(rs:List dz) (i:Nat) (s0 s3 s4:cQ),(∀r∈rs,k9 r.p)→
  Ends ((fL (fR [bQ 3,bQ 4]) (c9 (lF (fE (bz (ar (ic true) (ar aR (af 4) (aq (.int 1))) (aq .non))) (bz (ar (dp true) (ar aR (af 4) (aq (.int 1))) (af 1)))) (bz (b5 2 pZ (ag (ar aR (af 4) (aq (.int 0))) (ag (af 2) (az)))))) (cz (af 3)) (dc)) ((rs.zipIdx i).map fun p=> .tup [.int (p.2:Int),dg p.1]) [s0,.ax (.int (d:Int)),.ax (.int (a:Int)),s3,s4]).bind (m9 (cz (aq .non)))) (· = .dF (gu (kj d a i rs)))
 | [],i,s0,s3,s4,_=>by simp [kj,gu]
 | r::rs,i,s0,s3,s4,h=>by
   have gW:aR (dg r) (.int 0)= .ok (.str r.p):=rfl
   have bL:aR (dg r) (.int 1)= .ok (gu r.a):=rfl
   have b8:=GV (d:=d) ha rs (i + 1) s0 (.ax (.int (i:Int))) (.ax (dg r)) fun x hx=>h x (List.mem_cons_of_mem _ hx)
   have f:=Lc (h r List.mem_cons_self) ha
   have bd:(c9 (lF (fE (bz (ar (ic true) (ar aR (af 4) (aq (.int 1))) (aq .non))) (bz (ar (dp true) (ar aR (af 4) (aq (.int 1))) (af 1)))) (bz (b5 2 pZ (ag (ar aR (af 4) (aq (.int 0))) (ag (af 2) (az)))))) (cz (af 3)) (dc)) [s0,.ax (.int (d:Int)),.ax (.int (a:Int)),.ax (.int (i:Int)),.ax (dg r)]=if mt d a r=true then .ok (.dF (.int (i:Int))) else .ok (.a9 [s0,.ax (.int (d:Int)),.ax (.int (a:Int)),.ax (.int (i:Int)),.ax (dg r)]):=by
    unfold mt
    have aW:=Nx r.a
    have bG:=K0 r.a d
    generalize r.a.isNone=c0 at aW ⊢
    generalize (r.a == some d)=cN at bG ⊢
    generalize t_ r.p a=hV at f ⊢
    cases c0 <;> cases cN <;> cases hV <;> simp [gW,bL,aW,bG,f]
   rw [List.zipIdx_cons,List.map_cons,fL]
   simp only [S0,SW,SX,UH,List.length_cons,List.length_nil,dW]
   simp only [show (3:Nat) < 0 + 1 + 1 + 1 + 1 + 1 by decide,if_true,dW,List.set_cons_succ,List.set_cons_zero,List.length_cons,List.length_nil,show (4:Nat) < 0 + 1 + 1 + 1 + 1 + 1 by decide,bd]
   cases hm:mt d a r with
   | true=>simp [kj,hm,gu]
   | false=>
     simp only [Bool.false_eq_true,if_false,dW,kj,hm]
     exact b8
theorem Ub {b:List dz} (hb:∀r∈b,k9 r.p) (d a:Nat) (ha:a < 16):uX [cB b,.int (d:Int),.int (a:Int)]= .ok (.v (gu (kj d a 0 b))):=by
 apply Ends.done
 have e:pv [cB b]= .ok (b.zipIdx.map fun p=> .tup [.int (p.2:Int),dg p.1]):=t7 dg b
 have k:=GV (d:=d) ha b 0 (.ax (cB b)) .un .un hb
 obtain ⟨f,hf,rfl⟩:=k
 simp only [uX,Hn,w8,AK,sX,Ho,AJ,v_var,vJ]
 have z:vi (j7 5 [cB b,.int (d:Int),.int (a:Int)])[0]? = .ok (cB b):=rfl
 simp only [z,dW,e]
 have aX:j7 5 [cB b,.int (d:Int),.int (a:Int)]=[.ax (cB b),.ax (.int (d:Int)),.ax (.int (a:Int)),.un,.un]:=rfl
 rw [aX,hf]
 simp
end b4
set_option Elab.async false
set_option linter.all false
set_option maxRecDepth 100000
set_option autoImplicit false
namespace b4
open PySem PySem.Spec aZ aA
noncomputable def st (s:String):D:= .str (PySem.Str.ofString s)
inductive On where
 | drop | out (o:Nat) | to (e:aF)
noncomputable def pairsOf (ws:List (aF×aF)):List (aF×aF):=ws.flatMap fun w=>[(w.1,w.2),(w.2,w.1)]
noncomputable def mx (ws:List (aF×aF)) (d:aF):Option aF:=((pairsOf ws).find? fun p=>decide (p.1=d)).map (·.2)
theorem HX:∀ws:List (aF×aF),(dr ws).zip (dG ws)=(pairsOf ws).map fun p=>(gG p.1,a8 p.2)
 | []=>rfl
 | w::ws=>by
   have b8:=HX ws
   have ah:dr (w::ws)=gG w.1::gG w.2::dr ws:=by simp [dr,ends]
   have aw:dG (w::ws)=a8 w.2::a8 w.1::dG ws:=by simp [dG]
   have bK:pairsOf (w::ws)=(w.1,w.2)::(w.2,w.1)::pairsOf ws:=by simp [pairsOf]
   rw [ah,aw,bK,List.zip_cons_cons,List.zip_cons_cons,b8]; rfl
theorem Lb (aB:List (aF×aF)) (d:aF):((aB.map fun p=>(gG p.1,a8 p.2)).find? fun p=>decide (p.1=gG d))=(aB.find? fun p=>decide (p.1=d)).map fun p=>(gG p.1,a8 p.2):=by
 induction aB with
 | nil=>rfl
 | cons p aB b8=>
   rw [List.map_cons,List.find?_cons,List.find?_cons]
   by_cases h:p.1=d
   · simp [h]
   · have:gG p.1≠gG d:=fun z=>h (yD z)
     simp [h,this,b8]
theorem La (ws:List (aF×aF)) (d:aF):findD (dr ws) (dG ws) (gG d)=(mx ws d).map a8:=by
 unfold findD mx
 rw [HX,Lb,Option.map_map,Option.map_map]; rfl
theorem BL {ws:List (aF×aF)} {d e:aF} (h:mx ws d=some e):e∈ends ws:=by
 unfold mx at h
 obtain ⟨p,hp,rfl⟩:=Option.map_eq_some_iff.mp h
 have hm:=List.mem_of_find?_eq_some hp
 unfold pairsOf at hm
 obtain ⟨w,hw,a5⟩:=List.mem_flatMap.mp hm
 have DJ:∀x,x=w.1∨x=w.2→x∈ends ws:=fun x hx=>List.mem_flatten.mpr ⟨[w.1,w.2],List.mem_map.mpr ⟨w,hw,rfl⟩,by simpa using hx⟩
 simp only [List.mem_cons,List.not_mem_nil,or_false] at a5
 rcases a5 with rfl | rfl
 · exact DJ _ (.inr rfl)
 · exact DJ _ (.inl rfl)
noncomputable def ij (h:Nat):On→D
 | .drop=> .tup [st "drop",.int (h:Int)]
 | .out o=> .tup [st "out",.int (h:Int),.int (o:Int)]
 | .to e=> .tup [st "at",.int (e.1:Int),.int (e.2:Int)]
noncomputable def a9 (ws:List (aF×aF)) (b:List dz) (h d a:Nat):On:=match kj d a 0 b with
 | none=> .drop
 | some i=>match (b[i]?).bind (·.b) with
   | none=> .drop
   | some o=>match mx ws (h,o) with
     | none=> .out o
     | some e=> .to e
theorem GU {d a:Nat}:∀(rs:List dz) (i k:Nat),kj d a i rs=some k→i≤k∧k < i + rs.length
 | [],_,_,h=>by simp [kj] at h
 | r::rs,i,k,h=>by
   simp only [kj] at h
   split at h
   · cases h; simp
   · have:=GU rs (i + 1) k h
     simp; omega
theorem Dj (cs:List Nat) (ws:List (aF×aF)):f6 "Net" "far" (cF cs ws)= .ok (.bx (dr ws) (dG ws)):=rfl
theorem Ga (cs:List Nat) (ws:List (aF×aF)):ow "Net" "beyond" (cF cs ws)= .ok (cF cs ws):=rfl
theorem IX (cs:List Nat) (ws:List (aF×aF)) (d:aF):rU [cF cs ws,a8 d]= .ok (.v (((mx ws d).map a8).getD .non)):=by
 simp [rU,wL,Dj,pG,La]
theorem Qe {cs:List Nat} {ws:List (aF×aF)} {b:List dz} (hb:∀r∈b,k9 r.p) (h d a:Nat) (ha:a < 16):lJ [cF cs ws,cB b,a8 (h,d),.int (a:Int)]= .ok (.v (ij h (a9 ws b h d a))):=by
 have gW:aR (a8 (h,d)) (.int 0)= .ok (.int (h:Int)):=rfl
 have bL:aR (a8 (h,d)) (.int 1)= .ok (.int (d:Int)):=rfl
 have cR:=Ub hb d a ha
 have I0:∀o:Nat,rU [cF cs ws,.tup [.int (h:Int),.int (o:Int)]]= .ok (.v (((mx ws (h,o)).map a8).getD .non)):=fun o=>IX cs ws (h,o)
 have p3:hB .non=true:=rfl
 have du:∀i,hB (.int i)=false:=fun _=>rfl
 unfold a9
 cases e:kj d a 0 b with
 | none=>simp [lJ,o9,gW,bL,cR,e,gu,p3,du,ij,st]
 | some i=>
   have hi:=GU b 0 i e
   have rt:i < b.length:=by omega
   have lA:aR (cB b) (.int (i:Int))= .ok (dg b[i]):=iX (by simp [rt])
   have bB:aR (dg b[i]) (.int 2)= .ok (gu b[i].b):=rfl
   simp only [List.getElem?_eq_getElem rt,Option.bind_some]
   cases bq:b[i].b with
   | none=>simp [lJ,o9,gW,bL,cR,e,gu,p3,du,ij,st,lA,bB,bq]
   | some o=>
     have tS:=I0 o
     cases dq:mx ws (h,o) with
     | none=>
       rw [dq] at tS
       simp [lJ,o9,gW,bL,cR,e,gu,p3,du,ij,st,lA,bB,bq,Ga,tS,dq]
     | some f=>
       rw [dq] at tS
       have f0:aR (a8 f) (.int 0)= .ok (.int (f.1:Int)):=rfl
       have f1:aR (a8 f) (.int 1)= .ok (.int (f.2:Int)):=rfl
       have gH:hB (a8 f)=false:=rfl
       simp [lJ,o9,gW,bL,cR,e,gu,p3,du,ij,st,lA,bB,bq,Ga,tS,dq,f0,f1,gH]
inductive tl where
 | drop (h:Nat) | out (h o:Nat) | ring (d:aF)
noncomputable def walk (N:aF→On):Nat→List aF→aF→Option (List aF×tl)
 | 0,_,_=>none
 | n + 1,ds,d=>if d∈ds then some (ds,.ring d) else match N d with
   | .to e=>walk N n (ds ++ [d]) e
   | .drop=>some (ds ++ [d],.drop d.1)
   | .out o=>some (ds ++ [d],.out d.1 o)
theorem Hu {N:aF→On} {A:List aF} (hZ:A.length < 100) (cl:∀d∈A,∀e,N d= .to e→e∈A):∀(n:Nat) (ds:List aF) (d:aF),ds.Nodup→(∀x∈ds,x∈A)→d∈A→101≤n + ds.length→∃r,walk N n ds d=some r
 | 0,ds,d,bF,ja,_,h=>by
   have:=List.Nodup.length_le_of_subset bF ja
   omega
 | n + 1,ds,d,bF,ja,hd,h=>by
   simp only [walk]
   by_cases hm:d∈ds
   · rw [if_pos hm]; exact ⟨_,rfl⟩
   · rw [if_neg hm]
     cases e:N d with
     | drop=>exact ⟨_,rfl⟩
     | out o=>exact ⟨_,rfl⟩
     | to f=>
       have y1:(ds ++ [d]).Nodup:=List.nodup_append.mpr ⟨bF,by simp,fun x hx y cg z=>hm (by rw [←List.mem_singleton.mp cg,←z]; exact hx)⟩
       have Ss:∀x∈ds ++ [d],x∈A:=fun x hx=>by
        rcases List.mem_append.mp hx with h | h
        · exact ja x h
        · rw [List.mem_singleton.mp h]; exact hd
       exact Hu hZ cl n (ds ++ [d]) f y1 Ss (cl d hd f e) (by simp; omega)
theorem xf (a b:aF):br (a8 a) (a8 b)=decide (a=b):=by
 show (((a.1:Int) == (b.1:Int)) && (((a.2:Int) == (b.2:Int)) && true))=_
 rw [Bool.and_true,Bool.eq_iff_iff,Bool.and_eq_true,beq_iff_eq,beq_iff_eq,decide_eq_true_iff]
 constructor
 · intro ⟨h1,h2⟩
   exact Prod.ext (by omega) (by omega)
 · rintro rfl; exact ⟨rfl,rfl⟩
theorem Cj (ds:List aF):(ds.map a8).all (okN 7)=true:=by
 rw [List.all_map,List.all_eq_true]; intro d _; rfl
theorem IB (ds:List aF) (d:aF):((ds.map a8).any fun y=>br y (a8 d))=decide (d∈ds):=by
 rw [List.any_map,Bool.eq_iff_iff,List.any_eq_true,decide_eq_true_iff]
 constructor
 · rintro ⟨x,hx,h⟩
   have:=(xf x d).symm.trans h
   rw [decide_eq_true_iff] at this
   rw [←this]; exact hx
 · intro h
   exact ⟨d,h,by show br (a8 d) (a8 d)=true; rw [xf]; simp⟩
theorem Fc {m1 m2:ay} {ρ:ai} {ds:List aF} {d:aF} (h1:m1 ρ= .ok (a8 d)) (h2:m2 ρ= .ok (.lst (ds.map a8))):bz (ar (inD false) m1 m2) ρ= .ok (!decide (d∈ds)):=by
 refine pM (qZ h1 h2 ?_)
 have s:sA (.lst (ds.map a8))=some (ds.map a8):=rfl
 have o:okN 7 (a8 d)=true:=rfl
 simp only [inD,s,Cj,o,and_self,if_true,IB]
 rfl
noncomputable def idx (ds:List aF) (d:aF):Nat:=(ds.findIdx? fun x=>decide (x=d)).getD 0
theorem Nj {m1 m2:ay} {ρ:ai} {ds:List aF} {d:aF} (h2:m2 ρ= .ok (.lst (ds.map a8))) (h1:m1 ρ= .ok (a8 d)) (hm:d∈ds) (hl:ds.length < 1000):n7 m2 (ag m1 az) ρ= .ok (.int (idx ds d:Nat)):=by
 have f:(ds.map a8).findIdx? (fun z=>br z (a8 d))=ds.findIdx? (fun x=>decide (x=d)):=by
  rw [List.findIdx?_map]
  congr 1
  funext x
  exact xf x d
 have g:∃j,ds.findIdx? (fun x=>decide (x=d))=some j:=by
  cases e:ds.findIdx? (fun x=>decide (x=d)) with
  | some j=>exact ⟨j,rfl⟩
  | none=>exact absurd (List.findIdx?_eq_none_iff.mp e d hm) (by simp)
 obtain ⟨j,g⟩:=g
 have o:okN 7 (a8 d)=true:=rfl
 have l:(ds.map a8).length < 1000000:=by rw [List.length_map]; omega
 rw [n7,h2,e0]
 simp only [show ag m1 az ρ= .ok [a8 d] by simp [h1],e0,uD,o,Cj,l,and_self,if_true,f,g,idx,Option.getD_some]
noncomputable def ps (ds:List aF):tl→D
 | .drop h=> .tup [st "drop",.int (h:Nat)]
 | .out h o=> .tup [st "out",.int (h:Nat),.int (o:Nat)]
 | .ring d=> .tup [st "ring",.int (idx ds d:Nat)]
noncomputable def qm (r:List aF×tl):D:= .tup [.lst (r.1.map a8),ps r.1 r.2]
end b4
set_option Elab.async false
set_option linter.all false
set_option maxRecDepth 100000
set_option autoImplicit false
namespace b4
open PySem PySem.Spec aZ aA
noncomputable def vM:bJ:=i2 (bz (ar (inD false) (af 2) (af 4)))
noncomputable def sY:a0:=(bt (n4 4 (af 2))
  (bt (c6 5 (b5 4 lJ (ag (af 0) (ag (ar aR (af 1) (ar aR (af 2) (aq (.int 0)))) (ag (af 2) (ag (af 3) (az)))))))
  (bt (c9 (bz (ar (dp false) (ar aR (af 5) (aq (.int 0))) (aq (.str (PySem.Str.ofString "at"))))) (ka (cV (ag (af 4) (ag (af 5) (az))))) (dc))
  (c6 2 (cV (ag (ar aR (af 5) (aq (.int 1))) (ag (ar aR (af 5) (aq (.int 2))) (az))))))))
noncomputable def vN:a0:=(ka (cV (ag (af 4) (ag (cV (ag (aq (.str (PySem.Str.ofString "ring"))) (ag (n7 (af 4) (ag (af 2) (az))) (az)))) (az)))))
noncomputable def k_ (X Y:D) (d:aF) (a:Nat) (ds:List aF) (s5:cQ):ai:=[.ax X,.ax Y,.ax (a8 d),.ax (.int (a:Int)),.df (ds.map a8),s5]
theorem Hx (X Y:D) (d:aF) (a:Nat) (ds:List aF) (s5:cQ):vM (k_ X Y d a ds s5)= .ok (!decide (d∈ds)):=Fc rfl rfl
structure th (cs:List Nat) (bs:List (List dz)):Prop where
 l:bs.length=cs.length
 p:∀b∈bs,∀r∈b,k9 r.p
noncomputable def kL (ws:List (aF×aF)) (bs:List (List dz)) (a:Nat) (d:aF):On:=a9 ws (bs.getD d.1 []) d.1 d.2 a
theorem E6 (s:String) (h:(PySem.Str.ofString s == PySem.Str.ofString "at")=false):dp false (st s) (.str (PySem.Str.ofString "at"))= .ok (.au true):=by
 show R.ok (D.au (!(PySem.Str.ofString s == PySem.Str.ofString "at")))=_
 rw [h]; rfl
theorem U1 {cs:List Nat} {ws:List (aF×aF)} {bs:List (List dz)} (hb:th cs bs) {d:aF} (hd:d.1 < cs.length) {a:Nat} (ha:a < 16) (ds:List aF) (hl:ds.length < 1000) (s5:cQ) :
  sY (k_ (cF cs ws) (.lst (bs.map cB)) d a ds s5)=match kL ws bs a d with
   | .to e=> .ok (.a9 (k_ (cF cs ws) (.lst (bs.map cB)) e a (ds ++ [d]) (.ax (ij d.1 (.to e)))))
   | o=> .ok (.dF (.tup [.lst ((ds ++ [d]).map a8),ij d.1 o])):=by
 have gW:aR (a8 d) (.int 0)= .ok (.int (d.1:Int)):=rfl
 have gV:d.1 < bs.length:=by rw [hb.l]; exact hd
 have eg:bs.getD d.1 []=bs[d.1]:=by simp [gV]
 have lA:aR (.lst (bs.map cB)) (.int (d.1:Int))= .ok (cB (bs.getD d.1 [])):=by rw [eg]; exact iX (by simp [gV])
 have on:=Qe (cs:=cs) (ws:=ws) (b:=bs.getD d.1 []) (fun r hr=>hb.p bs[d.1] (List.getElem_mem _) r (by rw [←eg]; exact hr)) d.1 d.2 a ha
 have y7:lJ [cF cs ws,cB (bs.getD d.1 []),a8 d,.int (a:Int)]= .ok (.v (ij d.1 (kL ws bs a d))):=on
 have rL:(ds.map a8).length < 1000000:=by simp; omega
 generalize bs.getD d.1 []=IW at *
 generalize kL ws bs a d=o at *
 simp only [sY,k_]
 cases o with
 | drop=>
   have ct:aR (ij d.1 .drop) (.int 0)= .ok (st "drop"):=rfl
   have n:=E6 "drop" (by decide)
   simp (disch:=first | omega | (simp; done) | (simp; omega)) [gW,lA,y7,ct,n]
 | out o=>
   have ct:aR (ij d.1 (.out o)) (.int 0)= .ok (st "out"):=rfl
   have n:=E6 "out" (by decide)
   simp (disch:=first | omega | (simp; done) | (simp; omega)) [gW,lA,y7,ct,n]
 | to e=>
   have ct:aR (ij d.1 (.to e)) (.int 0)= .ok (st "at"):=rfl
   have ah:aR (ij d.1 (.to e)) (.int 1)= .ok (.int (e.1:Int)):=rfl
   have aw:aR (ij d.1 (.to e)) (.int 2)= .ok (.int (e.2:Int)):=rfl
   have n:dp false (st "at") (.str (PySem.Str.ofString "at"))= .ok (.au false):=rfl
   simp (disch:=first | omega | (simp; done) | (simp; omega)) [gW,lA,y7,ct,ah,aw,n]
   rfl
theorem Hy {cs:List Nat} {ws:List (aF×aF)} {bs:List (List dz)} (gs:mm cs ws) (hb:th cs bs) {a:Nat} (ha:a < 16):∀(n:Nat) (ds:List aF) (d:aF) (s5:cQ) (r:List aF×tl),d.1 < cs.length→ds.length + n < 1001→walk (kL ws bs a) n ds d=some r→
  (lZ vM sY n (k_ (cF cs ws) (.lst (bs.map cB)) d a ds s5)).bind (m9 vN)= .ok (.dF (qm r))
 | 0,ds,d,s5,r,_,_,h=>by simp [walk] at h
 | n + 1,ds,d,s5,r,hd,hl,h=>by
   simp only [walk] at h
   by_cases hm:d∈ds
   · rw [if_pos hm] at h
     obtain rfl:=Option.some.inj h
     rw [lZ,Hx,dW,decide_eq_true hm]
     have i:=Nj (m1:=af 2) (m2:=af 4) (ρ:=eO (k_ (cF cs ws) (.lst (bs.map cB)) d a ds s5)) (ds:=ds) (d:=d) rfl rfl hm (by omega)
     have v4:af 4 (eO (k_ (cF cs ws) (.lst (bs.map cB)) d a ds s5))= .ok (.lst (ds.map a8)):=rfl
     simp only [Bool.not_true,Bool.false_eq_true,if_false,dW,Gl]
     simp only [vN,Hp,UI,AJ,vJ,UC,i,v4,dW,sT,List.length_cons,List.length_nil]
     simp [qm,ps,st]
   · rw [if_neg hm] at h
     rw [lZ,Hx,dW,decide_eq_false hm]
     have b:=U1 (ws:=ws) hb hd ha ds (by omega) s5
     simp only [Bool.not_false,if_true,b]
     cases e:kL ws bs a d with
     | drop=>
       rw [e] at h
       obtain rfl:=Option.some.inj h
       simp [qm,ps,ij]
     | out o=>
       rw [e] at h
       obtain rfl:=Option.some.inj h
       simp [qm,ps,ij]
     | to f=>
       rw [e] at h
       simp only [dW]
       have hf:f∈ends ws:=by
        unfold kL a9 at e
        split at e
        · cases e
        · split at e
          · cases e
          · split at e
            · cases e
            · rename_i dq; cases e; exact BL dq
       exact Hy gs hb ha n (ds ++ [d]) f _ r (r4.mp (gs.sub f hf)).1 (by simp; omega) h
theorem PR {cs:List Nat} {ws:List (aF×aF)} {bs:List (List dz)} {a:Nat} (gs:mm cs ws) {d f:aF} (e:kL ws bs a d= .to f):f∈c4 cs cs.length:=by
 unfold kL a9 at e
 split at e
 · cases e
 · split at e
   · cases e
   · split at e
     · cases e
     · rename_i dq; cases e; exact gs.sub _ (BL dq)
theorem UY {cs:List Nat} {ws:List (aF×aF)} {bs:List (List dz)} (gs:mm cs ws) (hb:th cs bs) {a:Nat} (ha:a < 16) {d:aF} (hd:d∈c4 cs cs.length):∃r,walk (kL ws bs a) 1000 [] d=some r∧r3 [cF cs ws,.lst (bs.map cB),a8 d,.int (a:Int)]= .ok (.v (qm r)):=by
 have hZ:=qR gs.c cs.length
 have h6:=gs.h6
 obtain ⟨r,hr⟩:=Hu (N:=kL ws bs a) (A:=c4 cs cs.length) (by omega) (fun d _ e he=>PR gs he) 1000 [] d List.nodup_nil (by simp) hd (by simp)
 refine ⟨r,hr,?_⟩
 have k:=Hy gs hb ha 1000 [] d .un r (r4.mp hd).1 (by simp) hr
 have z:r3 [cF cs ws,.lst (bs.map cB),a8 d,.int (a:Int)]=(bt (gr 4 (dE az)) (bt (rT vM sY) vN) [.ax (cF cs ws),.ax (.lst (bs.map cB)),.ax (a8 d),.ax (.int (a:Int)),.un,.un]).bind outD:=rfl
 rw [z]
 simp only [AK,UG,UE,vJ,dW]
 have OO:lim []= .ok []:=rfl
 simp only [OO,dW]
 have aX:(rT vM sY (k_ (cF cs ws) (.lst (bs.map cB)) d a [] .un)).bind (m9 vN)= .ok (.dF (qm r)):=k
 have nr:([.ax (cF cs ws),.ax (.lst (bs.map cB)),.ax (a8 d),.ax (.int (a:Int)),.un,.un]:ai).set 4 (.df [])=k_ (cF cs ws) (.lst (bs.map cB)) d a [] .un:=rfl
 simp only [show (4:Nat) < ([.ax (cF cs ws),.ax (.lst (bs.map cB)),.ax (a8 d),.ax (.int (a:Int)),.un,.un]:ai).length from (by simp),if_true,dW,Gl,AK,nr,aX]
 rfl
end b4
set_option Elab.async false
set_option linter.all false
set_option maxRecDepth 100000
set_option autoImplicit false
namespace b4
open PySem PySem.Spec aZ aA
@[simp] theorem Yv (m:bJ) (ρ:ai):oq m ρ=eK (m ρ):=(rfl)
@[simp] theorem Yt (m:aK) (ρ:ai):sd m ρ=eK (m ρ):=(rfl)
@[simp] theorem Yu (m:a0) (ρ:ai):se m ρ=eK (m ρ):=(rfl)
@[simp] theorem PI {α:Type} (a:α):eK (R.ok a)= .ok a:=(rfl)
@[simp] theorem YD (c:Str) (ρ:ai):rQ c ρ= .exc c:=(rfl)
@[simp] theorem X6 (m:ay) (ρ:ai):pP m ρ=(m ρ).bind fun _=> .ok (.a9 ρ):=(rfl)
theorem K1 {i:Int} {n:Nat} (h0:0≤i) (h1:i≤(n:Int) - 1):∃k:Nat,k < n∧i=(k:Int):=⟨i.toNat,by omega,by omega⟩
theorem zb (x y:D):p0 [.tup [x,y]]= .ok (.v (.au true)):=rfl
theorem Iz (cs:List Nat) (i j:Int):jz [.tup (bE cs),.tup [.int i,.int j]]= .ok (.v (.au (decide (0≤i) && decide (i≤(cs.length:Int) - 1) && (decide (0≤j) && decide (j≤(cs.getD i.toNat 0:Int) - 1))))):=by
 have gW:aR (.tup [.int i,.int j]) (.int 0)= .ok (.int i):=rfl
 have bL:aR (.tup [.int i,.int j]) (.int 1)= .ok (.int j):=rfl
 have ln:c5 [.tup (bE cs)]= .ok (.int (cs.length:Int)):=by simp [bE]
 by_cases h:0≤i∧i≤(cs.length:Int) - 1
 · obtain ⟨k,hk,rfl⟩:=K1 h.1 h.2
   have En:aR (.tup (bE cs)) (.int (k:Int))= .ok (.int (cs.getD k 0:Nat)):=yw (pj hk)
   simp only [List.getD_eq_getElem?_getD] at En ⊢
   simp [jz,o6,zb,gW,bL,ln,oC,En,h.2]
 · have hb:(decide (0≤i) && decide (i≤(cs.length:Int) - 1))=false:=by
    rw [←Bool.decide_and,decide_eq_false_iff_not]; exact h
   rw [hb,Bool.false_and]
   simp only [jz,Hn,o6]
   have w:=oC i 0 ((cs.length:Int) - 1)
   rw [hb] at w
   simp [zb,gW,bL,ln,w]
theorem Gb (cs:List Nat) (ws:List (aF×aF)):ow "Net" "is_door" (cF cs ws)= .ok (cF cs ws):=rfl
theorem Ae (cs:List Nat) (ws:List (aF×aF)):ow "Net" "is_outer" (cF cs ws)= .ok (cF cs ws):=rfl
theorem Ei (cs:List Nat) (ws:List (aF×aF)) (x:D) {b:Bool} (h:jz [.tup (bE cs),x]= .ok (.v (.au b))):uU [cF cs ws,x]= .ok (.v (.au b)):=by
 simp [uU,wN,B5,h]
theorem ot (cs:List Nat) (ws:List (aF×aF)) (x:D) (h:jz [.tup (bE cs),x]= .ok (.v (.au false))):iD [cF cs ws,x]= .ok (.v (.au false)):=by
 simp [iD,tM,Gb,Ei cs ws x h]
theorem JK (ws:List (aF×aF)) (d:aF):fA false (a8 d) (.bx (dr ws) (dG ws))= .ok (.au (!decide (d∈ends ws))):=by
 simp only [fA,pG,ks_any]
 rfl
theorem Fq {cs:List Nat} (ws:List (aF×aF)) {d:aF} (h:d∈c4 cs cs.length):iD [cF cs ws,a8 d]= .ok (.v (.au (!decide (d∈ends ws)))):=by
 simp [iD,tM,Gb,Ei cs ws _ (xd h),Dj,JK]
theorem RP {cs:List Nat} {ws:List (aF×aF)} {B:D} {b:Bool} (h:hF [B,cF cs ws]= .ok (.v (.au b))):uW [B,cF cs ws]=if b=true then .ok (.v .non) else .exc "NoBooks":=by
 cases b <;> simp [uW,w6,h]
 rfl
noncomputable def kindOf (c0 cN hV:Bool):Option Str:=if c0=false then some "NoBooks" else if cN=false then some "NoDoor" else if hV=false then some "NoAddress" else none
noncomputable def qo (t:D):Option Str→R b1
 | some c=> .exc c
 | none=> .ok (.v t)
theorem Hw {cs:List Nat} {ws:List (aF×aF)} {B x y:D} {c0 cN hV:Bool} {t:D} (h1:hF [B,cF cs ws]= .ok (.v (.au c0))) (h2:iD [cF cs ws,x]= .ok (.v (.au cN))) (h3:kb [y]= .ok (.v (.au hV))) (h4:c0=true→cN=true→hV=true→r3 [cF cs ws,B,x,y]= .ok (.v t)) :
  jC [cF cs ws,B,x,y]=qo t (kindOf c0 cN hV):=by
 have r:=RP h1
 cases c0
 · simp at r; simp [jC,pa,r,kindOf,qo]
 · simp at r
   cases cN
   · simp [jC,pa,r,kindOf,qo,Ae,h2]
   · cases hV
     · simp [jC,pa,r,kindOf,qo,Ae,h2,h3]
     · simp [jC,pa,r,kindOf,qo,Ae,h2,h3,h4]
end b4
set_option Elab.async false
set_option linter.all false
set_option maxRecDepth 100000
set_option autoImplicit false
namespace b4
open PySem PySem.Spec aZ aA
noncomputable def iZ:Option Str→D
 | none=> .lst []
 | some c=> .lst [.str c]
theorem Py:rZ [.gn "NoBooks"]= .ok (.o [.str (PySem.Str.ofString "NoBooks")]):=rfl
theorem Pz:rZ [.gn "NoDoor"]= .ok (.o [.str (PySem.Str.ofString "NoDoor")]):=rfl
theorem PA:rZ [.gn "NoAddress"]= .ok (.o [.str (PySem.Str.ofString "NoAddress")]):=rfl
theorem vK (i j:Nat) (cs:List Str) (n:Nat) (mf:List D→R b1) (ma:aK) (ms:a0) (ρ:ai):rS i j cs n mf ma ms ρ=(eK (ma ρ)).bind fun ds=>if ds.length=n∧i < ρ.length∧j < ρ.length then match mf ds with
  | .ok t=>(gJ t).bind fun d=> .ok (.a9 (ρ.set j (.ax d)))
  | .exc c=>if cs.contains c=true then (eK (ms (ρ.set i (.ax (.gn c))))).bind (sS i) else .bad
  | .bad=> .bad
 else .bad:=(rfl)
theorem yH (c0 cN hV:Bool):kindOf c0 cN hV=none∨kindOf c0 cN hV=some "NoBooks"∨kindOf c0 cN hV=some "NoDoor"∨kindOf c0 cN hV=some "NoAddress":=by
 cases c0 <;> cases cN <;> cases hV <;> simp [kindOf]
theorem Bz {N B x y u v:D} {o:Option Str} (ho:o=none∨o=some "NoBooks"∨o=some "NoDoor"∨o=some "NoAddress") (h:jC [N,B,x,y]=qo (.tup [u,v]) o):mV [N,B,x,y]= .ok (.v (.tup [iZ o,.au true])):=by
 have du:∀c,hB (.gn c)=false:=fun _=>rfl
 have p3:hB .non=true:=rfl
 have t0:∀i (ρ:ai),sS i (.a9 ρ)= .ok (.a9 (ρ.set i .un)):=fun _ _=>rfl
 rcases ho with rfl | rfl | rfl | rfl
 · have bB:fM "tuple" (.tup [u,v])= .ok (.au true):=rfl
   have h:jC [N,B,x,y]= .ok (.v (.tup [u,v])):=h
   simp [mV,o7,vK,h,p3,bB,iZ]
 · have h:jC [N,B,x,y]= .exc _:=h
   simp [mV,o7,vK,h,du,t0,Py,iZ]
 · have h:jC [N,B,x,y]= .exc _:=h
   simp [mV,o7,vK,h,du,t0,Pz,iZ]
 · have h:jC [N,B,x,y]= .exc _:=h
   simp [mV,o7,vK,h,du,t0,PA,iZ]
theorem Pp (c:Int) (k:Nat) (hk:k < 1000):∃y:Int,0≤y∧gZ [.int c,.int k]= .ok (.v (.int y)):=by
 have h1:(2:Int) * (k:Int) * (k:Int)≤2000000:=by
  have:k * k≤1000 * 1000:=Nat.mul_le_mul (by omega) (by omega)
  have e:(2:Int) * (k:Int) * (k:Int)=2 * ((k * k:Nat):Int):=by rw [Int.natCast_mul,Int.mul_assoc]
  rw [e]; omega
 have h0:0≤(2:Int) * (k:Int) * (k:Int):=Int.mul_nonneg (by omega) (by omega)
 refine ⟨(c % 1000000000000000000000000000000 + 1) * (48271 + 2 * (k:Int) * (k:Int) + (k:Int)) % 2147483647 / 7,Int.ediv_nonneg (Int.emod_nonneg _ (by decide)) (by decide),?_⟩
 simp (disch:=first | omega | (simp; done) | (simp; omega)) [gZ,tQ,p8]
theorem JW (y:Int):∃r,oi [.int y]= .ok r∧gJ r= .ok (iZ (kindOf (!decide (y % 2=1)) (!decide (y / 2 % 2=1)) (!decide (y / 4 % 2=1)))):=by
 have da:qb [.int 3]= .ok [.int 0,.int 1,.int 2]:=rfl
 have eN:aR (.lst [.int 1,.int 2,.int 4]) (.int 0)= .ok (.int 1):=rfl
 have a1:aR (.lst [.int 1,.int 2,.int 4]) (.int 1)= .ok (.int 2):=rfl
 have a2:aR (.lst [.int 1,.int 2,.int 4]) (.int 2)= .ok (.int 4):=rfl
 have o3:∀x y z:D,aR (.lst [x,y,z]) (.int 0)= .ok x:=fun _ _ _=>rfl
 have c0:∀x y z:D,aR (.lst [x,y,z]) (.int 1)= .ok y:=fun _ _ _=>rfl
 have cN:∀x y z:D,aR (.lst [x,y,z]) (.int 2)= .ok z:=fun _ _ _=>rfl
 by_cases j0:y % 2=1
 · simp [oi,o8,sX,da,fL,eN,o3,j0,kindOf,iZ]
 · by_cases bD:y / 2 % 2=1
   · simp [oi,o8,sX,da,fL,eN,a1,o3,c0,j0,bD,kindOf,iZ]
   · by_cases dj:y / 4 % 2=1
     · simp [oi,o8,sX,da,fL,eN,a1,a2,o3,c0,cN,j0,bD,dj,kindOf,iZ]
     · simp [oi,o8,sX,da,fL,eN,a1,a2,o3,c0,cN,j0,bD,dj,kindOf,iZ]
theorem IT (y:Int) (cg:1≤y):∃d,uV [.int y]= .ok (.v d)∧kb [d]= .ok (.v (.au false)):=by
 have no:∀i:Int,¬ (0≤i∧i≤15)→kb [.int i]= .ok (.v (.au false)):=fun i h=>by
  rw [wB]
  congr 3
  rw [←Bool.decide_and,decide_eq_false_iff_not]; exact h
 have q:y % 9=0∨y % 9=1∨y % 9=2∨y % 9=3∨y % 9=4∨y % 9=5∨y % 9=6∨y % 9=7∨y % 9=8:=by omega
 have x:∃d,kb [d]= .ok (.v (.au false))∧aR (.lst [.int 16,.int (-1),.au true,.str (PySem.Str.ofString "3"),.non,.tup [.int 3],.int 1000000000000000000000000000000,.int (16 + y / 9 % 1000),.int (-y)]) (.int (y % 9))= .ok d:=by
  rcases q with q | q | q | q | q | q | q | q | q <;> rw [q]
  · exact ⟨_,no 16 (by omega),rfl⟩
  · exact ⟨_,no (-1) (by omega),rfl⟩
  · exact ⟨.au true,rfl,rfl⟩
  · exact ⟨.str (PySem.Str.ofString "3"),rfl,rfl⟩
  · exact ⟨.non,rfl,rfl⟩
  · exact ⟨.tup [.int 3],rfl,rfl⟩
  · exact ⟨_,no 1000000000000000000000000000000 (by omega),rfl⟩
  · exact ⟨_,no (16 + y / 9 % 1000) (by omega),rfl⟩
  · exact ⟨_,no (-y) (by omega),rfl⟩
 obtain ⟨d,hd,d8⟩:=x
 refine ⟨d,?_,hd⟩
 simp (disch:=first | omega | (simp; done) | (simp; omega)) [uV,wZ,p8,d8]
theorem IV {cs:List Nat} {ws:List (aF×aF)} (gs:mm cs ws) (y:Int):∃d,p2 [.lst (bE cs),.lst (ws.map c3),.int y]= .ok (.v d)∧iD [cF cs ws,d]= .ok (.v (.au false)):=by
 have h1:=gs.h1
 have hc:cs.getD 0 0≤4:=xM (fun c h=>(gs.c c h).2) 0
 have no:∀i j:Int,¬ (0≤i∧i≤(cs.length:Int) - 1∧0≤j∧j≤(cs.getD i.toNat 0:Int) - 1)→iD [cF cs ws,.tup [.int i,.int j]]= .ok (.v (.au false)):=fun i j h=>by
  refine ot cs ws _ ?_
  rw [Iz]
  congr 3
  rw [←Bool.decide_and,←Bool.decide_and,←Bool.decide_and,decide_eq_false_iff_not]
  rintro ⟨⟨a,b⟩,c,d⟩
  exact h ⟨a,b,c,d⟩
 have rG:aR (.lst (bE cs)) (.int 0)= .ok (.int (cs.getD 0 0:Nat)):=iX (k:=0) (pj h1)
 have lcs:(bE cs).length=cs.length:=by simp [bE]
 simp only [List.getD_eq_getElem?_getD] at rG
 have x:∃d,iD [cF cs ws,d]= .ok (.v (.au false))∧aR (.lst [.tup [.int 0,.int (cs[0]?.getD 0:Nat)],.tup [.int (cs.length:Int),.int 0],.tup [.int (-1),.int 0],.non,.int 0,.lst [.int 0,.int 0],.tup [.int 0],.tup [.au true,.int 0],.str (PySem.Str.ofString "0.0"),.tup [.int 0,.int 1000000000000000000000000000000]]) (.int (y / 2 % 10))= .ok d:=by
  have q:y / 2 % 10=0∨y / 2 % 10=1∨y / 2 % 10=2∨y / 2 % 10=3∨y / 2 % 10=4∨y / 2 % 10=5∨y / 2 % 10=6∨y / 2 % 10=7∨y / 2 % 10=8∨y / 2 % 10=9:=by omega
  rcases q with q | q | q | q | q | q | q | q | q | q <;> rw [q]
  · exact ⟨_,no 0 _ (by simp [List.getD_eq_getElem?_getD]; omega),rfl⟩
  · exact ⟨_,no _ 0 (by omega),rfl⟩
  · exact ⟨_,no (-1) 0 (by omega),rfl⟩
  · exact ⟨_,ot cs ws .non rfl,rfl⟩
  · exact ⟨_,ot cs ws (.int 0) rfl,rfl⟩
  · exact ⟨_,ot cs ws (.lst [.int 0,.int 0]) rfl,rfl⟩
  · exact ⟨_,ot cs ws (.tup [.int 0]) rfl,rfl⟩
  · refine ⟨_,ot cs ws (.tup [.au true,.int 0]) ?_,rfl⟩
    have ln:c5 [.tup (bE cs)]= .ok (.int (cs.length:Int)):=by simp [bE]
    have gW:aR (.tup [.au true,.int 0]) (.int 0)= .ok (.au true):=rfl
    have w:∀n:Int,kJ [.au true,.int 0,.int n]= .ok (.v (.au false)):=fun _=>rfl
    simp [jz,o6,zb,gW,ln,w]
  · exact ⟨_,ot cs ws (.str (PySem.Str.ofString "0.0")) rfl,rfl⟩
  · refine ⟨_,no 0 1000000000000000000000000000000 ?_,rfl⟩
    rintro ⟨_,_,_,h⟩
    have:(cs.getD (0:Int).toNat 0:Int)=(cs.getD 0 0:Nat):=rfl
    omega
 obtain ⟨d,hd,d8⟩:=x
 generalize cs[0]?.getD 0=j0 at rG d8
 by_cases hw:0 < ws.length∧y % 2=0
 · obtain ⟨k,hk,dD⟩:=ke (y / 2) (n:=ws.length) hw.1
   have NG:aR (.lst (ws.map c3)) (.int (k:Int))= .ok (c3 ws[k]):=iX (by simp [hk])
   have mem:∀e,e=ws[k].1∨e=ws[k].2→e∈ends ws:=fun e he=>List.mem_flatten.mpr ⟨[ws[k].1,ws[k].2],List.mem_map.mpr ⟨ws[k],List.getElem_mem _,rfl⟩,by simpa using he⟩
   have out:∀e,e=ws[k].1∨e=ws[k].2→iD [cF cs ws,a8 e]= .ok (.v (.au false)):=fun e he=>by
    rw [Fq ws (gs.sub e (mem e he)),decide_eq_true (mem e he)]; rfl
   have p:∃d,iD [cF cs ws,d]= .ok (.v (.au false))∧aR (c3 ws[k]) (.int (y / 40 % 2))= .ok d:=by
    have q:y / 40 % 2=0∨y / 40 % 2=1:=by omega
    rcases q with q | q <;> rw [q]
    · exact ⟨_,out _ (.inl rfl),rfl⟩
    · exact ⟨_,out _ (.inr rfl),rfl⟩
   obtain ⟨d',gV,KQ⟩:=p
   refine ⟨d',?_,gV⟩
   simp (disch:=first | omega | (simp; done) | (simp; omega)) [p2,qY,rG,lcs,p8,hw.1,hw.2,dD,NG,KQ]
 · refine ⟨d,?_,hd⟩
   have WI:¬ (0 < ws.length)∨¬ (y % 2=0):=by omega
   by_cases h0:0 < ws.length
   · have h2:¬ (y % 2=0):=by omega
     simp (disch:=first | omega | (simp; done) | (simp; omega)) [p2,qY,rG,lcs,p8,h0,h2,d8]
   · simp (disch:=first | omega | (simp; done) | (simp; omega)) [p2,qY,rG,lcs,p8,h0,d8]
end b4
set_option Elab.async false
set_option linter.all false
set_option maxRecDepth 100000
set_option autoImplicit false
namespace b4
open PySem PySem.Spec aZ aA
theorem GZ:∀ts:List T,g7 ts=ts.map toD
 | []=>by simp [g7]
 | t::ts=>by simp [g7,GZ ts]
theorem G0 (ts:List T):toD (.lst ts)= .lst (ts.map toD):=by rw [toD,GZ]
theorem Ue (l:List D):toD (.lst (l.map T.ax))= .lst l:=by
 rw [G0,List.map_map]
 congr 1
 have:toD ∘ T.ax=id:=by funext d; simp [toD]
 rw [this,List.map_id]
@[simp] theorem Ye (i:Nat) (mk m n:ay) (ρ:ai):uP i mk m n ρ=(jJ i ρ).bind fun ts=>(mk ρ).bind fun k=>rC i ρ ts m n k:=(rfl)
theorem Nv {i:Nat} {ρ:ai} {ts us:List T} {m n:ay} {k:Nat} {j:Int} {y:D} (h:ts[k]? =some (.lst us)) (hm:m ρ= .ok (.int j)) (aN:n ρ= .ok y) (h0:0≤j) (h1:j < 1000000) (hu:us.length < 1000000) (hf:us.all gX=true):rC i ρ ts m n (.int (k:Int))= .ok (.a9 (ρ.set i (.dm (.lst (ts.set k (.lst (iB us j (.ax y)))))))):=by
 have hk:=(List.getElem?_eq_some_iff.mp h).1
 have e:fN ts.length (k:Int)=some k:=by unfold fN; rw [if_pos (by omega),if_pos (by omega)]; simp
 have b:0≤j∧j < 2 ^ 63∧us.length < 1000000∧us.all gX=true:=⟨h0,Int.lt_trans h1 (by decide),hu,hf⟩
 simp only [rC,e,yr,h,hm,aN,dW,yt,if_pos b]
noncomputable def pb:List D:=[.tup [.str (PySem.Str.ofString "xxx"),.non,.int 0],.tup [.str (PySem.Str.ofString "xxxx"),.non,.int 4],.lst [.str (PySem.Str.ofString "xxxx"),.non,.int 0],.tup [.str (PySem.Str.ofString "xxxx"),.au true,.int 0],.tup [.str (PySem.Str.ofString "xxxx"),.non]]
theorem PQ {c:Nat} {i:Int} (h:¬ (0≤i∧i≤(c:Int) - 1)):jA [.int i,.int (c:Int)]= .ok (.v (.au false)):=by
 simp [jA,qW,hB,oC]
 omega
theorem Fe {c:Nat} (h:1≤c):jA [.int 0,.int (c:Int)]= .ok (.v (.au true)):=u7 (o:=some 0) (by intro k hk; cases hk; omega)
theorem Ff (c:Nat):jA [.non,.int (c:Int)]= .ok (.v (.au true)):=u7 (o:=none) (by intro k hk; cases hk)
theorem HW:oe [.str (PySem.Str.ofString "xxxx")]= .ok (.v (.au true)):=rfl
theorem IS {c:Nat} (h1:1≤c) (h4:c≤4) {d:D} (hd:d∈pb):mU [d,.int (c:Int)]= .ok (.v (.au false)):=by
 unfold pb at hd
 simp only [List.mem_cons,List.not_mem_nil,or_false] at hd
 rcases hd with q | q | q | q | q <;> subst q
 · exact vk (h1:=false) rfl (Ff c) (Fe h1)
 · exact vk (h3:=false) HW (Ff c) (PQ (by omega))
 · rfl
 · exact vk (h2:=false) HW rfl (Fe h1)
 · rfl
theorem IU {cs:List Nat} {ws:List (aF×aF)} {bs:List (List dz)} (h1:1≤cs.length) (h6:cs.length≤6) (f5:∀c∈cs,1≤c∧c≤4) (h:kU cs bs) (y:Int):∃r d,gJ r= .ok d∧hF [d,cF cs ws]= .ok (.v (.au false))∧oh [.lst (bs.map cB),.int y]= .ok r:=by
 suffices h:Ends (oh [.lst (bs.map cB),.int y]) fun x=>∃d,gJ x= .ok d∧hF [d,cF cs ws]= .ok (.v (.au false)) by
  obtain ⟨b,e,d,h,h'⟩:=h
  exact ⟨b,d,h,h',e⟩
 have hl:=h.l
 by_cases t0:y % 4=0
 · simp (disch:=first | omega | (simp; done) | (simp; omega)) [oh,qX,t0]
   exact I6 (by simp; omega)
 · by_cases t1:y % 4=1
   · have x:∃d,hF [d,cF cs ws]= .ok (.v (.au false))∧aR (.lst [.non,.tup (bs.map cB),.cL [] [],.str (PySem.Str.ofString "-"),.int 7,.lst (List.replicate bs.length .non)]) (.int (y / 4 % 6))= .ok d:=by
      have q:y / 4 % 6=0∨y / 4 % 6=1∨y / 4 % 6=2∨y / 4 % 6=3∨y / 4 % 6=4∨y / 4 % 6=5:=by omega
      rcases q with q | q | q | q | q | q <;> rw [q]
      · exact ⟨_,q1 rfl,rfl⟩
      · exact ⟨_,q1 rfl,rfl⟩
      · exact ⟨_,q1 rfl,rfl⟩
      · exact ⟨_,q1 rfl,rfl⟩
      · exact ⟨_,q1 rfl,rfl⟩
      · refine ⟨_,?_,rfl⟩
        have:=w_ (cs:=cs) (ws:=ws) (l:=List.replicate bs.length .non) (f:=fun _=>false) (by simpa using hl) h6 fun p hp=>by
         have e:=vY hp
         rw [List.getElem?_replicate] at e
         split at e
         · rw [←Option.some.inj e]; exact I3 rfl
         · cases e
        rw [this]
        congr 3
        rw [List.all_eq_false]
        refine ⟨(.non,0),?_,by simp⟩
        rw [List.mem_iff_getElem?]
        exact ⟨0,by rw [List.getElem?_zipIdx,List.getElem?_replicate,if_pos (by omega)]; rfl⟩
     obtain ⟨d,hd,d8⟩:=x
     simp (disch:=first | omega | (simp; done) | (simp; omega)) [oh,qX,t1,d8,hd]
   · simp [oh,qX,t0,t1]
     refine Ct cB bs (fun b=>b.map dg) (by simp) (by omega) (fun b _=>by simp [n8]; rfl) ?_
     have gS:(bs.map fun a=>hC (a.map dg))=ip bs:=by
      unfold ip
      refine List.map_congr_left fun b _=>?_
      unfold hC lT
      rw [List.map_map]; rfl
     rw [gS]
     obtain ⟨k,hk,dD⟩:=ke (y / 4) (n:=bs.length) (by omega)
     have DP:k < cs.length:=by omega
     obtain ⟨q,aD,eq⟩:=ke (y / 24) (n:=5) (by decide)
     have KZ:y / 24 % 5=(q:Int):=eq
     have j5:q < pb.length:=aD
     have no:=IS (xN f5 DP).1 (xN f5 DP).2 (List.getElem_mem j5)
     have yx:=iX (xs:=pb) (k:=q) (List.getElem?_eq_getElem j5)
     generalize pb[q]=nM at no yx
     unfold pb at yx
     have xT:=h.b k bs[k] (List.getElem?_eq_getElem hk)
     have WB:=xT.l
     obtain ⟨j,cD,ji⟩:=ke (y / 120) (n:=bs[k].length + 1) (by omega)
     have KS:y / 120 % ((bs[k].length:Int) + 1)=(j:Int):=ji
     have yu:aR (.lst (bs.map cB)) (.int (k:Int))= .ok (cB bs[k]):=iX (by simp [hk])
     have yK:c5 [cB bs[k]]= .ok (.int (bs[k].length:Int)):=by simp [cB]
     have PV:p6 (.int (j:Int))= .ok (.int (j:Int)):=rfl
     have J4:(ip bs)[k]? =some (.lst (bs[k].map fun r=>T.ax (dg r))):=by simp [ip,hk,lT]
     simp (disch:=first | omega | (simp; done) | (simp; omega)) [dD,KZ,yx]
     rw [Nv J4 (j:=(j:Int)) (y:=nM) (by simp (disch:=first | omega | (simp; done) | (simp; omega)) [AE,yu,yK,KS,PV]) (by simp) (by omega) (by omega) (by simp; omega) (by
      rw [show (fun r=>T.ax (dg r))=T.ax ∘ dg from rfl,←List.map_map]; exact wD _)]
     simp
     have hq:iB (bs[k].map fun r=>T.ax (dg r)) (j:Int) (T.ax nM)=(iB (bs[k].map dg) (j:Int) nM).map T.ax:=by
      rw [show (fun r=>T.ax (dg r))=T.ax ∘ dg from rfl,←List.map_map,yp]
     rw [hq]
     have d8:toD (.lst ((ip bs).set k (.lst ((iB (bs[k].map dg) (j:Int) nM).map T.ax))))= .lst ((bs.map cB).set k (.lst (iB (bs[k].map dg) (j:Int) nM))):=by
      rw [G0,List.map_set,Ue]
      congr 2
      unfold ip
      rw [List.map_map]
      exact List.map_congr_left fun b _=>G1 b
     rw [d8]
     refine I5 h6 h hk ?_
     by_cases hb:bs[k].length≤11
     · have aw:iB (bs[k].map dg) (j:Int) nM=(bs[k].take j).map dg ++ nM::(bs[k].drop j).map dg:=by
        unfold iB
        rw [Int.toNat_natCast,List.length_map,Nat.min_eq_left (by omega),List.map_take,List.map_drop]
       rw [aw]
       exact I2 (fun r hr=>xT.r r (List.mem_of_mem_take hr)) (fun r hr=>xT.r r (List.mem_of_mem_drop hr)) no (by simp; omega)
     · exact I4 (by unfold iB; simp; omega)
end b4
set_option Elab.async false
set_option linter.all false
set_option maxRecDepth 100000
set_option autoImplicit false
namespace b4
open PySem PySem.Spec aZ aA
theorem B9 (xs:List Int) (l:Option Int) (h:Nat):(fk xs l (some (h:Int))).length≤h:=by
 unfold fk
 rw [d3.R5]
 simp
 omega
theorem Pl (ws:List (aF×aF)) (d:aF):d∈ws.map (·.1) ++ ws.map (·.2)↔d∈ends ws:=by
 simp only [ends,List.mem_append,List.mem_map,List.mem_flatten]
 constructor
 · rintro (⟨w,hw,rfl⟩ | ⟨w,hw,rfl⟩)
   · exact ⟨[w.1,w.2],⟨w,hw,rfl⟩,by simp⟩
   · exact ⟨[w.1,w.2],⟨w,hw,rfl⟩,by simp⟩
 · rintro ⟨_,⟨w,hw,rfl⟩,hd⟩
   simp at hd
   rcases hd with rfl | rfl
   · exact .inl ⟨w,hw,rfl⟩
   · exact .inr ⟨w,hw,rfl⟩
theorem E7 {o:Option Str} (ho:o=none∨o=some "NoBooks"∨o=some "NoDoor"∨o=some "NoAddress"):dp false (.tup [iZ o,.au true]) (.tup [iZ o,.au true])= .ok (.au false):=by
 rcases ho with rfl | rfl | rfl | rfl <;> rfl
theorem OV (ns:List Int):og [.b7 (ns.map D.int)]= .ok (.v (.au true)):=by
 apply Ends.done
 obtain ⟨cs,⟨h1,h6⟩,f5,ec⟩:=Js ns
 obtain ⟨ws,gs,jk⟩:=U0 ns cs h1 h6 f5
 have hq:=Nl cs ws gs
 have fold:D.ins "Net" ["many","counts","joined","far"] [.int (cs.length:Int),.tup (bE cs),.tup (ws.map c3),.bx (dr ws) (dG ws)]=cF cs ws:=rfl
 obtain ⟨bs,tU,bq⟩:=I7 (fk ns (some 4) (some 63)) (Nat.le_trans (B9 ns (some 4) 63) (by decide)) cs h1 h6 f5
 have cm:fk (ns.map D.int) (some 4) (some 63)=(fk ns (some 4) (some 63)).map D.int:=B_ _ _ _ _
 have yes:=I8 (ws:=ws) h6 tU
 have hl:=tU.l
 have JO:=Ce h6 f5
 have few:=gs.few
 have WS:=qR f5 cs.length
 have I9:th cs bs:=⟨hl,fun b hb r hr=>by
  obtain ⟨i,hi⟩:=List.mem_iff_getElem?.mp hb
  exact ((tU.b i b hi).r r hr).p⟩
 simp (disch:=first | omega | (simp; done) | (simp; omega)) [og,wY,ec,jk,hq,fold,cm,bq,AE]
 refine q9 (fun w:aF×aF=>a8 w.1) (fun w=>a8 w.2) ws (fun w=>a8 w.1) (by simp; intros; rfl) (by omega) (fun w _=>by simp) ?_
 refine q9 (fun w:aF×aF=>a8 w.1) (fun w=>a8 w.2) ws (fun w=>a8 w.2) (by simp; intros; rfl) (by omega) (fun w _=>by simp) ?_
 have Ee:d7 (.lst (ws.map fun w=>a8 w.1)) (.lst (ws.map fun w=>a8 w.2))= .ok (.lst ((ws.map (·.1) ++ ws.map (·.2)).map a8)):=by
  rw [Bu (by simp; omega),List.map_append,List.map_map,List.map_map]; rfl
 generalize x4:ws.map (·.1) ++ ws.map (·.2)=inner at Ee
 have hm:∀d,d∈inner↔d∈ends ws:=fun d=>by rw [←x4]; exact Pl ws d
 rw [Ee,dW]
 refine Cs a8 (c4 cs cs.length) (fun d=> !decide (d∈inner)) a8 (by simp [JO]) (by omega) (fun d _=>Fc rfl rfl) (fun d _ _=>by simp) ?_
 obtain ⟨d1,LD,hd2⟩:=gs.out
 generalize yb:(c4 cs cs.length).filter (fun d=> !decide (d∈inner))=outer
 have ho:∀d∈outer,d∈c4 cs cs.length∧d∉ends ws:=fun d hd=>by
  rw [←yb,List.mem_filter] at hd
  refine ⟨hd.1,fun z=>?_⟩
  have:=hd.2
  rw [decide_eq_true ((hm d).mpr z)] at this
  exact Bool.noConfusion this
 have L6:0 < outer.length:=List.length_pos_of_mem (a:=d1) (by
  rw [←yb,List.mem_filter]
  exact ⟨LD,by rw [decide_eq_false (fun z=>hd2 ((hm d1).mp z))]; rfl⟩)
 have W2:outer.length≤24:=by
  have:=List.length_filter_le (fun d=> !decide (d∈inner)) (c4 cs cs.length)
  rw [yb] at this; omega
 have bK:([.int 0,.int 1,.int 2,.int 3]:List D) ++ fk (ns.map D.int) none (some 63)=([0,1,2,3] ++ fk ns none (some 63)).map D.int:=by rw [B_]; simp
 have yJ:([0,1,2,3] ++ fk ns none (some 63)).length≤67:=by
  have:=B9 ns none 63
  have e:fk ns none (some ((63:Nat):Int))=fk ns none (some 63):=rfl
  rw [e] at this
  simp; omega
 generalize DY:([0,1,2,3] ++ fk ns none (some 63):List Int)=zs at bK yJ
 refine Cv (fun p:Int×Nat=> .tup [.int (p.2:Int),.int p.1]) zs.zipIdx (fun _ ρ=>∃(eM qc kM su vl:cQ),ρ=[.ax (.b7 (ns.map D.int)),.ax (.lst (bE cs)),.ax (.lst (ws.map c3)),.ax (cF cs ws),.ax (.lst (bs.map cB)),.ax (.lst (inner.map a8)),.ax (.lst (outer.map a8)),eM,qc,kM,su,vl]) ?_ ⟨.un,.un,.un,.un,.un,rfl⟩ ?_ ?_
 · have ad:d7 (.lst [.int 0,.int 1,.int 2,.int 3]) (.lst (fk (ns.map D.int) none (some 63)))= .ok (.lst (zs.map D.int)):=by
    rw [←bK]
    have hh:=congrArg List.length bK
    rw [List.length_map] at hh
    exact Bu (by rw [←List.length_append,hh]; omega)
   simp [ad,t7]
 · rintro j ⟨z,j9⟩ _ cD ⟨eM,qc,kM,su,vl,rfl⟩
   obtain ⟨ah,aw⟩:=A9 cD
   simp only at ah aw
   subst ah
   have LQ:j9 < zs.length:=(List.getElem?_eq_some_iff.mp aw).1
   obtain ⟨y,cg,dq⟩:=Pp z (60 + j9) (by omega)
   have nT:gZ [.int z,.int (60 + (j9:Int))]= .ok (.v (.int y)):=by rw [←dq]; simp
   obtain ⟨k,hk,dD⟩:=ke (y / 8) (n:=outer.length) L6
   have NM:aR (.lst (outer.map a8)) (.int (k:Int))= .ok (a8 outer[k]):=iX (by simp [hk])
   obtain ⟨a,ha,av⟩:=ke (y / 100) (n:=16) (by decide)
   have KP:y / 100 % 16=(a:Int):=av
   have lv:∀ρ:ai,uQ 10 ρ=ownAt 10 ρ:=fun _=>rfl
   obtain ⟨DN,uu⟩:=ho outer[k] (List.getElem_mem _)
   generalize outer[k]=ix at *
   simp (disch:=first | omega | (simp; done) | (simp; omega)) [nT,dD,NM,KP,lv]
   have Ii:∀(ρ:ai) (p q r v:D),putK 10 ρ [p,q,r] v (.int 0)= .ok (.a9 (ρ.set 10 (.df [v,q,r]))):=fun ρ p q r v=>zl (ds:=[p,q,r]) (k:=0) (by simp)
   have jV:∀(ρ:ai) (p q r v:D),putK 10 ρ [p,q,r] v (.int 1)= .ok (.a9 (ρ.set 10 (.df [p,v,r]))):=fun ρ p q r v=>zl (ds:=[p,q,r]) (k:=1) (by simp)
   have jW:∀(ρ:ai) (p q r v:D),putK 10 ρ [p,q,r] v (.int 2)= .ok (.a9 (ρ.set 10 (.df [p,q,v]))):=fun ρ p q r v=>zl (ds:=[p,q,r]) (k:=2) (by simp)
   have H6:∀p q r:D,aR (.lst [p,q,r]) (.int 0)= .ok p:=fun _ _ _=>rfl
   have aP:∀p q r:D,aR (.lst [p,q,r]) (.int 1)= .ok q:=fun _ _ _=>rfl
   have bZ:∀p q r:D,aR (.lst [p,q,r]) (.int 2)= .ok r:=fun _ _ _=>rfl
   obtain ⟨w,WJ,DV⟩:=UY gs I9 ha DN
   have Eh:iD [cF cs ws,a8 ix]= .ok (.v (.au true)):=by rw [Fq ws DN,decide_eq_false uu]; rfl
   have isA:kb [.int (a:Int)]= .ok (.v (.au true)):=by rw [wB]; simp; omega
   refine Ends.bind (S:=fun f=>∃x0,hF [x0,cF cs ws]= .ok (.v (.au (!decide (y % 2=1))))∧(¬ y % 2=1→x0= .lst (bs.map cB))∧f= .a9 [.ax (.b7 (ns.map D.int)),.ax (.lst (bE cs)),.ax (.lst (ws.map c3)),.ax (cF cs ws),.ax (.lst (bs.map cB)),.ax (.lst (inner.map a8)),.ax (.lst (outer.map a8)),.ax (.int (j9:Int)),.ax (.int z),.ax (.int y),.df [x0,a8 ix,.int (a:Int)],.ax (.lst [.lst (bs.map cB),a8 ix,.int (a:Int)])]) ?_ ?_
   · by_cases t:y % 2=1
     · obtain ⟨r,d,aW,bG,er⟩:=IU (ws:=ws) h1 h6 f5 tU (y / 8)
       simp [t,er,aW,Ii,bG]
     · simp [t,yes]
   rintro _ ⟨x0,o3,IM,rfl⟩
   simp
   refine Ends.bind (S:=fun f=>∃d2,iD [cF cs ws,d2]= .ok (.v (.au (!decide (y / 2 % 2=1))))∧(¬ y / 2 % 2=1→d2=a8 ix)∧f= .a9 [.ax (.b7 (ns.map D.int)),.ax (.lst (bE cs)),.ax (.lst (ws.map c3)),.ax (cF cs ws),.ax (.lst (bs.map cB)),.ax (.lst (inner.map a8)),.ax (.lst (outer.map a8)),.ax (.int (j9:Int)),.ax (.int z),.ax (.int y),.df [x0,d2,.int (a:Int)],.ax (.lst [.lst (bs.map cB),a8 ix,.int (a:Int)])]) ?_ ?_
   · by_cases t:y / 2 % 2=1
     · obtain ⟨d,aW,bG⟩:=IV gs (y / 16)
       simp [t,aW,jV,bG]
     · simp [t,Eh]
   rintro _ ⟨d2,c0,IP,rfl⟩
   simp
   refine Ends.bind (S:=fun f=>∃dP,kb [dP]= .ok (.v (.au (!decide (y / 4 % 2=1))))∧(¬ y / 4 % 2=1→dP= .int (a:Int))∧f= .a9 [.ax (.b7 (ns.map D.int)),.ax (.lst (bE cs)),.ax (.lst (ws.map c3)),.ax (cF cs ws),.ax (.lst (bs.map cB)),.ax (.lst (inner.map a8)),.ax (.lst (outer.map a8)),.ax (.int (j9:Int)),.ax (.int z),.ax (.int y),.df [x0,d2,dP],.ax (.lst [.lst (bs.map cB),a8 ix,.int (a:Int)])]) ?_ ?_
   · by_cases t:y / 4 % 2=1
     · obtain ⟨d,aW,bG⟩:=IT (y / 32 + 1) (by omega)
       simp [t,aW,jW,bG]
     · simp [t,isA]
   rintro _ ⟨dP,cN,IQ,rfl⟩
   obtain ⟨r,cJ,hr⟩:=JW y
   have U4:=Hw (t:= .tup [.lst (w.1.map a8),ps w.1 w.2]) o3 c0 cN (fun VV a6 aX=>by
    rw [IM (by simpa using VV),IP (by simpa using a6),IQ (by simpa using aX)]; exact DV)
   have IE:=Bz (yH _ _ _) U4
   have U5:=Hw (t:= .tup [.lst (w.1.map a8),ps w.1 w.2]) yes Eh isA (fun _ _ _=>DV)
   have wJ:=Bz (yH _ _ _) U5
   have PH:=E7 (yH (!decide (y % 2=1)) (!decide (y / 2 % 2=1)) (!decide (y / 4 % 2=1)))
   generalize kindOf (!decide (y % 2=1)) (!decide (y / 2 % 2=1)) (!decide (y / 4 % 2=1))=b0 at *
   have E8:=E7 (o:=none) (.inl rfl)
   have k2:kindOf true true true=none:=rfl
   rw [k2] at wJ
   have N0:iZ none= .lst []:=rfl
   rw [N0] at wJ E8
   simp [H6,aP,bZ,IE,cJ,hr,PH,wJ,E8]
 · rintro _ ⟨eM,qc,kM,su,vl,rfl⟩
   simp
end b4
set_option Elab.async false
set_option linter.all false
set_option maxRecDepth 100000
set_option autoImplicit false
namespace b4
open PySem PySem.Spec aZ aA
theorem kG {P:Str→Bool→Prop}:∀c x,([]:List (Str×Bool)).lookup c=some x→P c x:=fun _ _ h=>nomatch h
theorem ep {P:Str→Bool→Prop} {a:Str} {b:Bool} {l:List (Str×Bool)} (h:P a b) (t:∀c x,l.lookup c=some x→P c x):∀c x,((a,b)::l).lookup c=some x→P c x:=fun c x e=>by
 rw [List.lookup_cons] at e
 split at e
 · rename_i k
   rw [beq_iff_eq] at k
   cases e; rw [k]; exact h
 · exact t c x e
theorem Jv {P:Str→Prop}:∀c,([]:List Str).contains c=true→P c:=fun _ h=>nomatch h
theorem xc {P:Str→Prop} {a:Str} {l:List Str} (h:P a) (t:∀c,l.contains c=true→P c):∀c,(a::l).contains c=true→P c:=fun c e=>by
 rw [List.contains_cons,Bool.or_eq_true] at e
 rcases e with k | k
 · rw [beq_iff_eq] at k; rw [k]; exact h
 · exact t c k
theorem Vp {P:Program} {w:World} {K:PySem.W.Frag} {mg:Str→Option Value} {base:Heap} {x:Str} {st:Stmt} {N aB:List Str} {k:Nat} {m:a0} {f:Addr} {fd:FuncData} (fn:jP K x x st f fd) (S:cP N aB (bP st))
  (h:∀(f:Addr) (bX:Value) (A:Around) (outer:List PySem.Env) (s:Shared) (H:J) (E:cM),cZ k (A.deeper (PyProof.Rows.envOfC x (bP st) s.heap.objs.size f bX))→∀bw a7,hS (eo gg P w K mg base N x (bP st) f bX A outer s H E).f9 (dO K bw a7) (fl st) m) :
  gC P w K mg base gg (k + 1) f fd aB (lQ K aB.length (cU N.length m)):=fn.ok S vu fun bX A outer s H vs Q E hr hs=>by
 obtain ⟨G,ht⟩:=tT hs
 exact ⟨_,(h f bX A outer s H E hr G H).1,ht⟩
structure dx (K:PySem.W.Frag) (x:Str) (st:Stmt):Prop where
 ex:∃(f:Addr) (de an:Option Addr) (cc:Array (Option Value)) (eL cE iQ pm cd cj:Value),PySem.W.nsIn K mainGlobals x=some (some (.ref f))∧K.lookup f=some ⟨eL,de,.func (PySem.W.fnOf x x (iR st) (fl st) (bP st) .none cE iQ pm an cd cj),cc⟩∧PySem.W.codeIn K cd x=true∧PySem.W.keepIn K (.ref f)=true
theorem dS {K:PySem.W.Frag} {x:Str} {st:Stmt} {f:Addr} {de an:Option Addr} {cc:Array (Option Value)} {eL cE iQ pm cd cj:Value} (a:PySem.W.nsIn K mainGlobals x=some (some (.ref f))) (l:K.lookup f=some ⟨eL,de,.func (PySem.W.fnOf x x (iR st) (fl st) (bP st) .none cE iQ pm an cd cj),cc⟩) (c:PySem.W.codeIn K cd x=true) (k:PySem.W.keepIn K (.ref f)=true):dx K x st:=⟨f,de,an,cc,eL,cE,iQ,pm,cd,cj,a,l,c,k⟩
theorem dR {K:PySem.W.Frag} {h:Heap} {mg:Str→Option Value} {x:Str} {st:Stmt} {aB:List Str} (X:K.In h) (G:h.Ns mainGlobals mg) (F:dx K x st)
  (b:∀(cE doc pm:Value) (an:Option Addr) (bX cj:Value) (us:List Value),us.length=aB.length→bindArgs (PySem.W.fnOf x x (iR st) (fl st) (bP st) .none cE doc pm an bX cj) ⟨us,[]⟩=pure (aB.zip us)):di K mg x st aB:=by
 obtain ⟨f,de,an,cc,eL,cE,iQ,pm,cd,cj,a,l,c,k⟩:=F.ex
 exact K9 (st:=st) X G a l c k b
structure ml (K:PySem.W.Frag) (C:Addr) (x qual:Str) (st:Stmt):Prop where
 ex:∃(f:Addr) (de an:Option Addr) (cc:Array (Option Value)) (eL cE iQ pm cd cj:Value),PySem.W.findIn K (.ref C) x=some (some (.ref f))∧K.lookup f=some ⟨eL,de,.func (PySem.W.fnOf x qual (iR st) (fl st) (bP st) .none cE iQ pm an cd cj),cc⟩∧PySem.W.codeIn K cd qual=true∧PySem.W.keepIn K (.ref f)=true∧PySem.W.isFn K (.ref f)=true
theorem r6 {K:PySem.W.Frag} {C:Addr} {x qual:Str} {st:Stmt} {f:Addr} {de an:Option Addr} {cc:Array (Option Value)} {eL cE iQ pm cd cj:Value} (a:PySem.W.findIn K (.ref C) x=some (some (.ref f))) (l:K.lookup f=some ⟨eL,de,.func (PySem.W.fnOf x qual (iR st) (fl st) (bP st) .none cE iQ pm an cd cj),cc⟩) (c:PySem.W.codeIn K cd qual=true) (k:PySem.W.keepIn K (.ref f)=true) (i:PySem.W.isFn K (.ref f)=true):ml K C x qual st:=⟨f,de,an,cc,eL,cE,iQ,pm,cd,cj,a,l,c,k,i⟩
theorem u1 {K:PySem.W.Frag} {bb x qual:Str} {C:Addr} {st:Stmt} {aB:List Str} (n:PySem.W.nsIn K mainGlobals bb=some (some (.ref C))) (g1:PySem.W.plainGet K C Str.empty=true) (g2:PySem.W.hasDictIn K C=true) (g3:PySem.W.plainOver K C=true) (hy:PySem.W.findIn K (.ref C) "__setattr__"=some (some (.builtin "object.__setattr__"))) (F:ml K C x qual st)
  (b:∀(cE doc pm:Value) (an:Option Addr) (bX cj:Value) (us:List Value),us.length=aB.length→bindArgs (PySem.W.fnOf x qual (iR st) (fl st) (bP st) .none cE doc pm an bX cj) ⟨us,[]⟩=pure (aB.zip us)):oO K bb x qual st aB:=by
 obtain ⟨f,de,an,cc,eL,cE,iQ,pm,cd,cj,a,l,c,k,i⟩:=F.ex
 exact ⟨⟨C,f,_,n,⟨g1,g2,g3,hy⟩,⟨a,i,k⟩,nV (st:=st) l c k,(nV (st:=st) l c k).binds b⟩⟩
theorem Pm {K:PySem.W.Frag} {h:Heap} {mg:Str→Option Value} {bb qual:Str} {C:Addr} {st:Stmt} {aB:List Str} (X:K.In h) (G:h.Ns mainGlobals mg) (n:PySem.W.nsIn K mainGlobals bb=some (some (.ref C))) (mk:PySem.W.makesIn K C=true) (NZ:PySem.W.keepIn K (.ref C)=true) (F:ml K C "__init__" qual st)
  (b:∀(cE doc pm:Value) (an:Option Addr) (bX cj:Value) (us:List Value),us.length=aB.length→bindArgs (PySem.W.fnOf "__init__" qual (iR st) (fl st) (bP st) .none cE doc pm an bX cj) ⟨us,[]⟩=pure (aB.zip us)):InK K mg bb qual st aB:=by
 obtain ⟨f,de,an,cc,eL,cE,iQ,pm,cd,cj,a,l,c,k,i⟩:=F.ex
 exact ⟨⟨C,f,_,n,⟨mk,a,i,NZ⟩,nV (st:=st) l c k,PySem.W.mg_of X G n,(nV (st:=st) l c k).binds b⟩⟩
set_option maxHeartbeats 4000000 in
theorem Ur {K:PySem.W.Frag} {h:Heap} {mg:Str→Option Value} {gP:Addr} {dJ:Addr} {VT:ClassData} {dK:Addr} {VU:ClassData} {dI:Addr} {VR:ClassData} {qx:Addr} {qy:Addr} {qz:Addr} {qA:Addr} {qB:Addr} {qC:Addr} {qD:Addr} {TM:Tok} {TN:Tok} {TO:Tok} {TP:Tok} {v9:Addr} {JE:Option Addr} {Pw:Nat} {S8:Array (Option Value)} {TQ TR TS:Tok} {v_:Addr} {JF:Option Addr} {Px:Nat} {S9:Array (Option Value)} {TU TV TX TY:Tok} (X:K.In h) (G:h.Ns mainGlobals mg)
  (n_Net:PySem.W.nsIn K mainGlobals "Net"=some (some (.ref gP))) (g1_Net:PySem.W.plainGet K gP Str.empty=true) (g2_Net:PySem.W.hasDictIn K gP=true) (g3_Net:PySem.W.plainOver K gP=true) (g4_Net:PySem.W.findIn K (.ref gP) "__setattr__"=some (some (.builtin "object.__setattr__"))) (u_Net_many:PySem.W.findIn K (.ref gP) "many"=some none) (u_Net_counts:PySem.W.findIn K (.ref gP) "counts"=some none) (u_Net_joined:PySem.W.findIn K (.ref gP) "joined"=some none) (u_Net_far:PySem.W.findIn K (.ref gP) "far"=some none) (mk_Net:PySem.W.makesIn K gP=true) (kc_Net:PySem.W.keepIn K (.ref gP)=true)
  (n_NoBooks:PySem.W.nsIn K mainGlobals "NoBooks"=some (some (.ref dJ)))
  (ct_NoBooks:PySem.W.clsIn K dJ=some VT)
  (e1_NoBooks:PySem.W.excIn K dJ [.type "ValueError",.type "Exception",.type "BaseException",.type "object"] "ValueError.__new__"=true)
  (ga_NoBooks:PySem.W.findIn K (.ref dJ) "__getattribute__"=some (some (.builtin "BaseException.__getattribute__")))
  (gn_NoBooks:PySem.W.findIn K (.ref dJ) "__getattr__"=some none)
  (cl_NoBooks:PySem.W.findIn K (.ref dJ) "__class__"=some (some (.builtin "object.__class__")))
  (sb_NoBooks:PySem.W.subIn K (.ref dJ) (.type "BaseException")=some true)
  (mo_NoBooks:PySem.W.mroIn K dJ (.type "object")=some true)
  (n_NoDoor:PySem.W.nsIn K mainGlobals "NoDoor"=some (some (.ref dK)))
  (ct_NoDoor:PySem.W.clsIn K dK=some VU)
  (e1_NoDoor:PySem.W.excIn K dK [.type "ValueError",.type "Exception",.type "BaseException",.type "object"] "ValueError.__new__"=true)
  (ga_NoDoor:PySem.W.findIn K (.ref dK) "__getattribute__"=some (some (.builtin "BaseException.__getattribute__")))
  (gn_NoDoor:PySem.W.findIn K (.ref dK) "__getattr__"=some none)
  (cl_NoDoor:PySem.W.findIn K (.ref dK) "__class__"=some (some (.builtin "object.__class__")))
  (sb_NoDoor:PySem.W.subIn K (.ref dK) (.type "BaseException")=some true)
  (mo_NoDoor:PySem.W.mroIn K dK (.type "object")=some true)
  (n_NoAddress:PySem.W.nsIn K mainGlobals "NoAddress"=some (some (.ref dI)))
  (ct_NoAddress:PySem.W.clsIn K dI=some VR)
  (e1_NoAddress:PySem.W.excIn K dI [.type "ValueError",.type "Exception",.type "BaseException",.type "object"] "ValueError.__new__"=true)
  (ga_NoAddress:PySem.W.findIn K (.ref dI) "__getattribute__"=some (some (.builtin "BaseException.__getattribute__")))
  (gn_NoAddress:PySem.W.findIn K (.ref dI) "__getattr__"=some none)
  (cl_NoAddress:PySem.W.findIn K (.ref dI) "__class__"=some (some (.builtin "object.__class__")))
  (sb_NoAddress:PySem.W.subIn K (.ref dI) (.type "BaseException")=some true)
  (mo_NoAddress:PySem.W.mroIn K dI (.type "object")=some true)
  (spc0:PySem.W.specialIn K (.builtin "object.__class__") "__get__"=some (some (.builtin "getset_descriptor.__get__"))) (tkc0:PySem.W.takesIn K (.builtin "object.__class__")=some true)
  (ki_NoBooks_NoAddress:PySem.W.kitOne K (.ref dJ) (.ref dI)=some false)
  (ki_NoDoor_NoAddress:PySem.W.kitOne K (.ref dK) (.ref dI)=some false)
  (ki_NoAddress_NoAddress:PySem.W.kitOne K (.ref dI) (.ref dI)=some true)
  (ki_NoBooks_NoBooks:PySem.W.kitOne K (.ref dJ) (.ref dJ)=some true)
  (ki_NoDoor_NoBooks:PySem.W.kitOne K (.ref dK) (.ref dJ)=some false)
  (ki_NoAddress_NoBooks:PySem.W.kitOne K (.ref dI) (.ref dJ)=some false)
  (ki_NoBooks_NoDoor:PySem.W.kitOne K (.ref dJ) (.ref dK)=some false)
  (ki_NoDoor_NoDoor:PySem.W.kitOne K (.ref dK) (.ref dK)=some true)
  (ki_NoAddress_NoDoor:PySem.W.kitOne K (.ref dI) (.ref dK)=some false)
  (n_NoMove:PySem.W.nsIn K mainGlobals "NoMove"=some (some (.ref qx)))
  (ki_NoBooks_NoMove:PySem.W.kitOne K (.ref dJ) (.ref qx)=some false)
  (ki_NoDoor_NoMove:PySem.W.kitOne K (.ref dK) (.ref qx)=some false)
  (ki_NoAddress_NoMove:PySem.W.kitOne K (.ref dI) (.ref qx)=some false)
  (n_NoNet:PySem.W.nsIn K mainGlobals "NoNet"=some (some (.ref qy)))
  (ki_NoBooks_NoNet:PySem.W.kitOne K (.ref dJ) (.ref qy)=some false)
  (ki_NoDoor_NoNet:PySem.W.kitOne K (.ref dK) (.ref qy)=some false)
  (ki_NoAddress_NoNet:PySem.W.kitOne K (.ref dI) (.ref qy)=some false)
  (n_NoPlan:PySem.W.nsIn K mainGlobals "NoPlan"=some (some (.ref qz)))
  (ki_NoBooks_NoPlan:PySem.W.kitOne K (.ref dJ) (.ref qz)=some false)
  (ki_NoDoor_NoPlan:PySem.W.kitOne K (.ref dK) (.ref qz)=some false)
  (ki_NoAddress_NoPlan:PySem.W.kitOne K (.ref dI) (.ref qz)=some false)
  (n_NoRow:PySem.W.nsIn K mainGlobals "NoRow"=some (some (.ref qA)))
  (ki_NoBooks_NoRow:PySem.W.kitOne K (.ref dJ) (.ref qA)=some false)
  (ki_NoDoor_NoRow:PySem.W.kitOne K (.ref dK) (.ref qA)=some false)
  (ki_NoAddress_NoRow:PySem.W.kitOne K (.ref dI) (.ref qA)=some false)
  (n_NoSaying:PySem.W.nsIn K mainGlobals "NoSaying"=some (some (.ref qB)))
  (ki_NoBooks_NoSaying:PySem.W.kitOne K (.ref dJ) (.ref qB)=some false)
  (ki_NoDoor_NoSaying:PySem.W.kitOne K (.ref dK) (.ref qB)=some false)
  (ki_NoAddress_NoSaying:PySem.W.kitOne K (.ref dI) (.ref qB)=some false)
  (n_NoText:PySem.W.nsIn K mainGlobals "NoText"=some (some (.ref qC)))
  (ki_NoBooks_NoText:PySem.W.kitOne K (.ref dJ) (.ref qC)=some false)
  (ki_NoDoor_NoText:PySem.W.kitOne K (.ref dK) (.ref qC)=some false)
  (ki_NoAddress_NoText:PySem.W.kitOne K (.ref dI) (.ref qC)=some false)
  (ki_NoBooks_ValueError:PySem.W.kitOne K (.ref dJ) (.type "ValueError")=some true)
  (ki_NoDoor_ValueError:PySem.W.kitOne K (.ref dK) (.type "ValueError")=some true)
  (ki_NoAddress_ValueError:PySem.W.kitOne K (.ref dI) (.type "ValueError")=some true)
  (n_WayError:PySem.W.nsIn K mainGlobals "WayError"=some (some (.ref qD)))
  (em_NoBooks_WayError:PySem.W.exmOne K (.ref dJ) (.ref qD)=some true)
  (em_NoDoor_WayError:PySem.W.exmOne K (.ref dK) (.ref qD)=some true)
  (em_NoAddress_WayError:PySem.W.exmOne K (.ref dI) (.ref qD)=some true)
  (h0:dx K "_law_mix" z1)
  (h1:dx K "_law_cell_at" zX)
  (h2:dx K "_law_counts" zY)
  (h3:dx K "_law_doors" zZ)
  (h4:dx K "_law_wires" z5)
  (h5:dx K "is_pair" zM)
  (h6:dx K "is_whole" zP)
  (h7:dx K "is_whole_within" zQ)
  (h8:dx K "is_door_among" zK)
  (h9:dx K "is_wire_among" zR)
  (h10:dx K "far_doors" zF)
  (h11:dx K "are_counts" zE)
  (h12:ml K gP "__init__" "Net.__init__" zB)
  (h13:dx K "_law_pattern" z3)
  (h14:dx K "_law_row" z4)
  (h15:dx K "_law_books" zW)
  (h16:dx K "_law_bad_books" zU)
  (h17:dx K "_law_bad_door" zV)
  (h18:dx K "_law_bad_address" zT)
  (h19:dx K "is_pattern" zN)
  (h20:dx K "is_number_or_none" zL)
  (h21:dx K "is_row" zO)
  (h22:dx K "is_book" zI)
  (h23:ml K gP "count" "Net.count" zA)
  (h24:dx K "is_books" zJ)
  (h25:dx K "refuse_unless_books" z7)
  (h26:dx K "is_address" zH)
  (h27:dx K "fits" zG)
  (h28:dx K "taken" z8)
  (h29:ml K gP "beyond" "Net.beyond" zz)
  (h30:dx K "onward" z6)
  (h31:dx K "walked" z9)
  (h32:ml K gP "is_door" "Net.is_door" zC)
  (h33:ml K gP "is_outer" "Net.is_outer" zD)
  (h34:dx K "way" z_)
  (h35:dx K "_law_names" z2)
  (h36:dx K "_law_asked" zS)
  (h37:dx K "_law_due" z0)
  (h38:dx K "law" m6)
  (z_ValueError:PySem.W.nsIn K mainGlobals "ValueError"=some none)
  (z_all:PySem.W.nsIn K mainGlobals "all"=some none)
  (z_bool:PySem.W.nsIn K mainGlobals "bool"=some none)
  (z_enumerate:PySem.W.nsIn K mainGlobals "enumerate"=some none)
  (z_int:PySem.W.nsIn K mainGlobals "int"=some none)
  (z_isinstance:PySem.W.nsIn K mainGlobals "isinstance"=some none)
  (z_len:PySem.W.nsIn K mainGlobals "len"=some none)
  (z_list:PySem.W.nsIn K mainGlobals "list"=some none)
  (z_range:PySem.W.nsIn K mainGlobals "range"=some none)
  (z_sorted:PySem.W.nsIn K mainGlobals "sorted"=some none)
  (z_str:PySem.W.nsIn K mainGlobals "str"=some none)
  (z_tuple:PySem.W.nsIn K mainGlobals "tuple"=some none)
  (z_zip:PySem.W.nsIn K mainGlobals "zip"=some none)
  (z_GREATEST_ADDRESS:PySem.W.nsIn K mainGlobals "GREATEST_ADDRESS"=some (some (.int 15 TM)))
  (z_MOST_DOORS:PySem.W.nsIn K mainGlobals "MOST_DOORS"=some (some (.int 4 TN)))
  (z_MOST_HOUSES:PySem.W.nsIn K mainGlobals "MOST_HOUSES"=some (some (.int 6 TO)))
  (z_MOST_ROWS:PySem.W.nsIn K mainGlobals "MOST_ROWS"=some (some (.int 12 TP)))
  (z_SIGNS:PySem.W.nsIn K mainGlobals "SIGNS"=some (some (.ref v9))) (y_SIGNS:K.lookup v9=some ⟨.type "tuple",JE,.seq #[.str (PySem.Str.ofString "0") TQ,.str (PySem.Str.ofString "1") TR,.str (PySem.Str.ofString "x") TS] Pw,S8⟩)
  (z_WORTHS:PySem.W.nsIn K mainGlobals "WORTHS"=some (some (.ref v_))) (y_WORTHS:K.lookup v_=some ⟨.type "tuple",JF,.seq #[.int 8 TU,.int 4 TV,.int 2 TX,.int 1 TY] Px,S9⟩):wx K mg where
 iY:=⟨gP,n_Net,⟨g1_Net,g2_Net,g3_Net,g4_Net⟩,(List.forall_mem_cons.2 ⟨u_Net_many,(List.forall_mem_cons.2 ⟨u_Net_counts,(List.forall_mem_cons.2 ⟨u_Net_joined,(List.forall_mem_cons.2 ⟨u_Net_far,(fun _ h=>absurd h List.not_mem_nil)⟩)⟩)⟩)⟩)⟩
 Hz:=⟨⟨dI,n_NoAddress,PySem.W.mg_of X G n_NoAddress,e1_NoAddress⟩⟩
 HA:=⟨⟨dJ,n_NoBooks,PySem.W.mg_of X G n_NoBooks,e1_NoBooks⟩⟩
 HB:=⟨⟨dK,n_NoDoor,PySem.W.mg_of X G n_NoDoor,e1_NoDoor⟩⟩
 G9:=⟨⟨dI,PySem.W.mg_of X G n_NoAddress,⟨spc0,tkc0,(ep ⟨dJ,n_NoBooks,⟨ga_NoBooks,gn_NoBooks,cl_NoBooks,sb_NoBooks,mo_NoBooks,(by rw [ct_NoBooks]; rfl)⟩,ki_NoBooks_NoAddress⟩ (ep ⟨dK,n_NoDoor,⟨ga_NoDoor,gn_NoDoor,cl_NoDoor,sb_NoDoor,mo_NoDoor,(by rw [ct_NoDoor]; rfl)⟩,ki_NoDoor_NoAddress⟩ (ep ⟨dI,n_NoAddress,⟨ga_NoAddress,gn_NoAddress,cl_NoAddress,sb_NoAddress,mo_NoAddress,(by rw [ct_NoAddress]; rfl)⟩,ki_NoAddress_NoAddress⟩ kG)))⟩⟩⟩
 G_:=⟨⟨dJ,PySem.W.mg_of X G n_NoBooks,⟨spc0,tkc0,(ep ⟨dJ,n_NoBooks,⟨ga_NoBooks,gn_NoBooks,cl_NoBooks,sb_NoBooks,mo_NoBooks,(by rw [ct_NoBooks]; rfl)⟩,ki_NoBooks_NoBooks⟩ (ep ⟨dK,n_NoDoor,⟨ga_NoDoor,gn_NoDoor,cl_NoDoor,sb_NoDoor,mo_NoDoor,(by rw [ct_NoDoor]; rfl)⟩,ki_NoDoor_NoBooks⟩ (ep ⟨dI,n_NoAddress,⟨ga_NoAddress,gn_NoAddress,cl_NoAddress,sb_NoAddress,mo_NoAddress,(by rw [ct_NoAddress]; rfl)⟩,ki_NoAddress_NoBooks⟩ kG)))⟩⟩⟩
 Ha:=⟨⟨dK,PySem.W.mg_of X G n_NoDoor,⟨spc0,tkc0,(ep ⟨dJ,n_NoBooks,⟨ga_NoBooks,gn_NoBooks,cl_NoBooks,sb_NoBooks,mo_NoBooks,(by rw [ct_NoBooks]; rfl)⟩,ki_NoBooks_NoDoor⟩ (ep ⟨dK,n_NoDoor,⟨ga_NoDoor,gn_NoDoor,cl_NoDoor,sb_NoDoor,mo_NoDoor,(by rw [ct_NoDoor]; rfl)⟩,ki_NoDoor_NoDoor⟩ (ep ⟨dI,n_NoAddress,⟨ga_NoAddress,gn_NoAddress,cl_NoAddress,sb_NoAddress,mo_NoAddress,(by rw [ct_NoAddress]; rfl)⟩,ki_NoAddress_NoDoor⟩ kG)))⟩⟩⟩
 Hb:=⟨⟨qx,PySem.W.mg_of X G n_NoMove,⟨spc0,tkc0,(ep ⟨dJ,n_NoBooks,⟨ga_NoBooks,gn_NoBooks,cl_NoBooks,sb_NoBooks,mo_NoBooks,(by rw [ct_NoBooks]; rfl)⟩,ki_NoBooks_NoMove⟩ (ep ⟨dK,n_NoDoor,⟨ga_NoDoor,gn_NoDoor,cl_NoDoor,sb_NoDoor,mo_NoDoor,(by rw [ct_NoDoor]; rfl)⟩,ki_NoDoor_NoMove⟩ (ep ⟨dI,n_NoAddress,⟨ga_NoAddress,gn_NoAddress,cl_NoAddress,sb_NoAddress,mo_NoAddress,(by rw [ct_NoAddress]; rfl)⟩,ki_NoAddress_NoMove⟩ kG)))⟩⟩⟩
 Hc:=⟨⟨qy,PySem.W.mg_of X G n_NoNet,⟨spc0,tkc0,(ep ⟨dJ,n_NoBooks,⟨ga_NoBooks,gn_NoBooks,cl_NoBooks,sb_NoBooks,mo_NoBooks,(by rw [ct_NoBooks]; rfl)⟩,ki_NoBooks_NoNet⟩ (ep ⟨dK,n_NoDoor,⟨ga_NoDoor,gn_NoDoor,cl_NoDoor,sb_NoDoor,mo_NoDoor,(by rw [ct_NoDoor]; rfl)⟩,ki_NoDoor_NoNet⟩ (ep ⟨dI,n_NoAddress,⟨ga_NoAddress,gn_NoAddress,cl_NoAddress,sb_NoAddress,mo_NoAddress,(by rw [ct_NoAddress]; rfl)⟩,ki_NoAddress_NoNet⟩ kG)))⟩⟩⟩
 Hd:=⟨⟨qz,PySem.W.mg_of X G n_NoPlan,⟨spc0,tkc0,(ep ⟨dJ,n_NoBooks,⟨ga_NoBooks,gn_NoBooks,cl_NoBooks,sb_NoBooks,mo_NoBooks,(by rw [ct_NoBooks]; rfl)⟩,ki_NoBooks_NoPlan⟩ (ep ⟨dK,n_NoDoor,⟨ga_NoDoor,gn_NoDoor,cl_NoDoor,sb_NoDoor,mo_NoDoor,(by rw [ct_NoDoor]; rfl)⟩,ki_NoDoor_NoPlan⟩ (ep ⟨dI,n_NoAddress,⟨ga_NoAddress,gn_NoAddress,cl_NoAddress,sb_NoAddress,mo_NoAddress,(by rw [ct_NoAddress]; rfl)⟩,ki_NoAddress_NoPlan⟩ kG)))⟩⟩⟩
 He:=⟨⟨qA,PySem.W.mg_of X G n_NoRow,⟨spc0,tkc0,(ep ⟨dJ,n_NoBooks,⟨ga_NoBooks,gn_NoBooks,cl_NoBooks,sb_NoBooks,mo_NoBooks,(by rw [ct_NoBooks]; rfl)⟩,ki_NoBooks_NoRow⟩ (ep ⟨dK,n_NoDoor,⟨ga_NoDoor,gn_NoDoor,cl_NoDoor,sb_NoDoor,mo_NoDoor,(by rw [ct_NoDoor]; rfl)⟩,ki_NoDoor_NoRow⟩ (ep ⟨dI,n_NoAddress,⟨ga_NoAddress,gn_NoAddress,cl_NoAddress,sb_NoAddress,mo_NoAddress,(by rw [ct_NoAddress]; rfl)⟩,ki_NoAddress_NoRow⟩ kG)))⟩⟩⟩
 Hf:=⟨⟨qB,PySem.W.mg_of X G n_NoSaying,⟨spc0,tkc0,(ep ⟨dJ,n_NoBooks,⟨ga_NoBooks,gn_NoBooks,cl_NoBooks,sb_NoBooks,mo_NoBooks,(by rw [ct_NoBooks]; rfl)⟩,ki_NoBooks_NoSaying⟩ (ep ⟨dK,n_NoDoor,⟨ga_NoDoor,gn_NoDoor,cl_NoDoor,sb_NoDoor,mo_NoDoor,(by rw [ct_NoDoor]; rfl)⟩,ki_NoDoor_NoSaying⟩ (ep ⟨dI,n_NoAddress,⟨ga_NoAddress,gn_NoAddress,cl_NoAddress,sb_NoAddress,mo_NoAddress,(by rw [ct_NoAddress]; rfl)⟩,ki_NoAddress_NoSaying⟩ kG)))⟩⟩⟩
 Hg:=⟨⟨qC,PySem.W.mg_of X G n_NoText,⟨spc0,tkc0,(ep ⟨dJ,n_NoBooks,⟨ga_NoBooks,gn_NoBooks,cl_NoBooks,sb_NoBooks,mo_NoBooks,(by rw [ct_NoBooks]; rfl)⟩,ki_NoBooks_NoText⟩ (ep ⟨dK,n_NoDoor,⟨ga_NoDoor,gn_NoDoor,cl_NoDoor,sb_NoDoor,mo_NoDoor,(by rw [ct_NoDoor]; rfl)⟩,ki_NoDoor_NoText⟩ (ep ⟨dI,n_NoAddress,⟨ga_NoAddress,gn_NoAddress,cl_NoAddress,sb_NoAddress,mo_NoAddress,(by rw [ct_NoAddress]; rfl)⟩,ki_NoAddress_NoText⟩ kG)))⟩⟩⟩
 Hh:=⟨spc0,tkc0,(ep ⟨dJ,n_NoBooks,⟨ga_NoBooks,gn_NoBooks,cl_NoBooks,sb_NoBooks,mo_NoBooks,(by rw [ct_NoBooks]; rfl)⟩,ki_NoBooks_ValueError⟩ (ep ⟨dK,n_NoDoor,⟨ga_NoDoor,gn_NoDoor,cl_NoDoor,sb_NoDoor,mo_NoDoor,(by rw [ct_NoDoor]; rfl)⟩,ki_NoDoor_ValueError⟩ (ep ⟨dI,n_NoAddress,⟨ga_NoAddress,gn_NoAddress,cl_NoAddress,sb_NoAddress,mo_NoAddress,(by rw [ct_NoAddress]; rfl)⟩,ki_NoAddress_ValueError⟩ kG)))⟩
 GR:=⟨⟨qD,PySem.W.mg_of X G n_WayError,(xc ⟨dJ,n_NoBooks,em_NoBooks_WayError⟩ (xc ⟨dK,n_NoDoor,em_NoDoor_WayError⟩ (xc ⟨dI,n_NoAddress,em_NoAddress_WayError⟩ Jv)))⟩⟩
 C7:=dR X G h0 fun _ _ _ _ _ _ us hl=>match us,hl with | [_,_],_=>rfl
 C3:=dR X G h1 fun _ _ _ _ _ _ us hl=>match us,hl with | [_,_],_=>rfl
 C4:=dR X G h2 fun _ _ _ _ _ _ us hl=>match us,hl with | [_],_=>rfl
 C5:=dR X G h3 fun _ _ _ _ _ _ us hl=>match us,hl with | [_],_=>rfl
 Dc:=dR X G h4 fun _ _ _ _ _ _ us hl=>match us,hl with | [_,_],_=>rfl
 CR:=dR X G h5 fun _ _ _ _ _ _ us hl=>match us,hl with | [_],_=>rfl
 CU:=dR X G h6 fun _ _ _ _ _ _ us hl=>match us,hl with | [_],_=>rfl
 CV:=dR X G h7 fun _ _ _ _ _ _ us hl=>match us,hl with | [_,_,_],_=>rfl
 CP:=dR X G h8 fun _ _ _ _ _ _ us hl=>match us,hl with | [_,_],_=>rfl
 CW:=dR X G h9 fun _ _ _ _ _ _ us hl=>match us,hl with | [_,_],_=>rfl
 CK:=dR X G h10 fun _ _ _ _ _ _ us hl=>match us,hl with | [_,_],_=>rfl
 CJ:=dR X G h11 fun _ _ _ _ _ _ us hl=>match us,hl with | [_],_=>rfl
 CG:=Pm X G n_Net mk_Net kc_Net h12 fun _ _ _ _ _ _ us hl=>match us,hl with | [_,_,_],_=>rfl
 C9:=dR X G h13 fun _ _ _ _ _ _ us hl=>match us,hl with | [_],_=>rfl
 C_:=dR X G h14 fun _ _ _ _ _ _ us hl=>match us,hl with | [_,_,_],_=>rfl
 C2:=dR X G h15 fun _ _ _ _ _ _ us hl=>match us,hl with | [_,_],_=>rfl
 C0:=dR X G h16 fun _ _ _ _ _ _ us hl=>match us,hl with | [_,_],_=>rfl
 C1:=dR X G h17 fun _ _ _ _ _ _ us hl=>match us,hl with | [_,_,_],_=>rfl
 CZ:=dR X G h18 fun _ _ _ _ _ _ us hl=>match us,hl with | [_],_=>rfl
 CS:=dR X G h19 fun _ _ _ _ _ _ us hl=>match us,hl with | [_],_=>rfl
 CQ:=dR X G h20 fun _ _ _ _ _ _ us hl=>match us,hl with | [_,_],_=>rfl
 CT:=dR X G h21 fun _ _ _ _ _ _ us hl=>match us,hl with | [_,_],_=>rfl
 CN:=dR X G h22 fun _ _ _ _ _ _ us hl=>match us,hl with | [_,_],_=>rfl
 CF:=u1 n_Net g1_Net g2_Net g3_Net g4_Net h23 fun _ _ _ _ _ _ us hl=>match us,hl with | [_,_],_=>rfl
 CO:=dR X G h24 fun _ _ _ _ _ _ us hl=>match us,hl with | [_,_],_=>rfl
 Df:=dR X G h25 fun _ _ _ _ _ _ us hl=>match us,hl with | [_,_],_=>rfl
 CM:=dR X G h26 fun _ _ _ _ _ _ us hl=>match us,hl with | [_],_=>rfl
 CL:=dR X G h27 fun _ _ _ _ _ _ us hl=>match us,hl with | [_,_],_=>rfl
 Dg:=dR X G h28 fun _ _ _ _ _ _ us hl=>match us,hl with | [_,_,_],_=>rfl
 CE:=u1 n_Net g1_Net g2_Net g3_Net g4_Net h29 fun _ _ _ _ _ _ us hl=>match us,hl with | [_,_],_=>rfl
 De:=dR X G h30 fun _ _ _ _ _ _ us hl=>match us,hl with | [_,_,_,_],_=>rfl
 Dh:=dR X G h31 fun _ _ _ _ _ _ us hl=>match us,hl with | [_,_,_,_],_=>rfl
 CH:=u1 n_Net g1_Net g2_Net g3_Net g4_Net h32 fun _ _ _ _ _ _ us hl=>match us,hl with | [_,_],_=>rfl
 CI:=u1 n_Net g1_Net g2_Net g3_Net g4_Net h33 fun _ _ _ _ _ _ us hl=>match us,hl with | [_,_],_=>rfl
 Di:=dR X G h34 fun _ _ _ _ _ _ us hl=>match us,hl with | [_,_,_,_],_=>rfl
 C8:=dR X G h35 fun _ _ _ _ _ _ us hl=>match us,hl with | [_],_=>rfl
 CY:=dR X G h36 fun _ _ _ _ _ _ us hl=>match us,hl with | [_,_,_,_],_=>rfl
 C6:=dR X G h37 fun _ _ _ _ _ _ us hl=>match us,hl with | [_],_=>rfl
 K7:=dR X G h38 fun _ _ _ _ _ _ us hl=>match us,hl with | [_],_=>rfl
 BC:=PySem.W.mg_none_of X G z_ValueError
 o4:=PySem.W.mg_none_of X G z_all
 BD:=PySem.W.mg_none_of X G z_bool
 qU:=PySem.W.mg_none_of X G z_enumerate
 wQ:=PySem.W.mg_none_of X G z_int
 fI:=PySem.W.mg_none_of X G z_isinstance
 fa:=PySem.W.mg_none_of X G z_len
 nH:=PySem.W.mg_none_of X G z_list
 mw:=PySem.W.mg_none_of X G z_range
 BH:=PySem.W.mg_none_of X G z_sorted
 w7:=PySem.W.mg_none_of X G z_str
 nI:=PySem.W.mg_none_of X G z_tuple
 BJ:=PySem.W.mg_none_of X G z_zip
 pe:=⟨⟨_,_,PySem.W.mg_of X G z_GREATEST_ADDRESS,(m5 _ _),fun _=>(mr _)⟩⟩
 pf:=⟨⟨_,_,PySem.W.mg_of X G z_MOST_DOORS,(m5 _ _),fun _=>(mr _)⟩⟩
 nJ:=⟨⟨_,_,PySem.W.mg_of X G z_MOST_HOUSES,(m5 _ _),fun _=>(mr _)⟩⟩
 my:=⟨⟨_,_,PySem.W.mg_of X G z_MOST_ROWS,(m5 _ _),fun _=>(mr _)⟩⟩
 pg:=⟨⟨.ref v9,_,PySem.W.mg_of X G z_SIGNS,rfl,G5 y_SIGNS (Nat.le_of_ble_eq_true rfl) (.cons (zx _ _) (.cons (zx _ _) (.cons (zx _ _) .nil))) fun _=>(.cons (wz _) (.cons (wz _) (.cons (wz _) .nil)))⟩⟩
 mz:=⟨⟨.ref v_,_,PySem.W.mg_of X G z_WORTHS,rfl,G5 y_WORTHS (Nat.le_of_ble_eq_true rfl) (.cons (m5 _ _) (.cons (m5 _ _) (.cons (m5 _ _) (.cons (m5 _ _) .nil)))) fun _=>(.cons (mr _) (.cons (mr _) (.cons (mr _) (.cons (mr _) .nil))))⟩⟩
set_option maxHeartbeats 4000000 in
theorem all_mk {l:PySem.W.OpenLaw} {w:World} {K:PySem.W.Frag} {h:Heap} {mg:Str→Option Value} {fb:Addr} (X:K.In h) (G:h.Ns mainGlobals mg) (LI:mg "law"=some (.ref fb)) (F:dx K "law" m6) (T:wx K mg) :
  ∃fd:FuncData,(∀(s:Shared) (v:Value),BindsTo s fd ⟨[v],[]⟩ [("_law_script",v)])∧∀base:Heap,K.In base→base.Ns mainGlobals mg→gC l.prog w K mg base gg 10 fb fd ["_law_script"] (lQ K 1 og):=by
 obtain ⟨f,de,an,cc,eL,cE,iQ,pm,cd,cj,a,lk,c,k⟩:=F.ex
 have e:=LI.symm.trans (PySem.W.mg_of X G a)
 cases e
 exact ⟨_,fun s v=> .of_eq rfl,fun base _ _=>Vp (nV (st:=m6) lk c k) jG (IZ T)⟩
theorem OW (K:PySem.W.Frag) (H:J) (a:Addr) (ns:List Int) (j4:bI K H a (ns.map V.int)):lQ K 1 og [.ref a] H (fun v _=>v= .au true) (fun _ _ _=>False):=
 OU (K:=K) (mf:=og) (H:=H) (a:=a) (ns:=ns) j4 (OV ns) (fun _ _ _=>False)
theorem UW {l:PySem.W.OpenLaw} {q:Program} {loose:List Str} {oU:(Str→Option Value)→Heap→Prop} {mq:World→Heap→Prop} {d:DefRec} {K:Params→PySem.W.Frag} (aN:l.most=some 63) (rr:d.params.defaults=[])
  (xQ:∀(w:World) (h:Heap),mq w h→(K w.params).In h)
  (F:∀(w:World) (mg:Str→Option Value) (fb:Addr) (h:Heap),(K w.params).In h→h.Ns mainGlobals mg→mg d.name=some (.ref fb)→
    ∃fd:FuncData,(∀(s:Shared) (u:Value),BindsTo s fd ⟨[u],[]⟩ [("_law_script",u)])∧∀base:Heap,(K w.params).In base→base.Ns mainGlobals mg→gC l.prog w (K w.params) mg base gg 10 fb fd ["_law_script"] (lQ (K w.params) 1 og)) :
  PySem.W.WalkO q loose oU mq l.row.toRowW d [] (fun f vs=>PySem.call f vs):=
 aZ.UX (n:=63) (k:=10) (x:="_law_script") (CX:=fun _=>gg) (sp:=fun w=>lQ (K w.params) 1 og) aN (by decide) rr ⟨rfl,by decide,by decide⟩ xQ F (fun w H a ns _ _ j4=>OW (K w.params) H a ns j4) fun _ _ _ _ _ z=>z
end b4
set_option Elab.async false
set_option linter.all false
set_option maxRecDepth 100000
namespace PySem.W.Fast
theorem tw3191194378121824172 : True := trivial
theorem tw10856505469748522946 : True := trivial
theorem tw10427728422245906667 : True := trivial
theorem tw1900764818005305047 : True := trivial
theorem tw17573792752239971831 : True := trivial
theorem tw959575700691785831 : True := trivial
theorem tw17480147794896179089 : True := trivial
theorem tw16025393041206856794 : True := trivial
theorem tw4137009485000011246 : True := trivial
theorem tw10448786486679704517 : True := trivial
theorem tw16792766106577405329 : True := trivial
theorem tw1162764980368271076 : True := trivial
theorem tw11408363565126900921 : True := trivial
theorem tw13368663220799536664 : True := trivial
theorem tw2838261379106884455 : True := trivial
theorem tw6449873278403351436 : True := trivial
theorem tw6279855745035425896 : True := trivial
theorem tw957491226221446972 : True := trivial
theorem tw18383597067174362364 : True := trivial
theorem tw5131640289333083356 : True := trivial
theorem tw2900588829825975999 : True := trivial
theorem tw14941707987933820343 : True := trivial
theorem tw11071240327413370840 : True := trivial
theorem tw180031854120419070 : True := trivial
theorem tw2812744191083451344 : True := trivial
theorem tw15841049429605356445 : True := trivial
theorem tw12941131285072053264 : True := trivial
theorem tw11365746030256270922 : True := trivial
end PySem.W.Fast
open PySem PySem.W PyProof.Rows
set_option maxRecDepth 100000 in
set_option maxHeartbeats 0 in
theorem PySem.Challenge.cw_nohalfway_k06_ways_refused_holds : PySem.Challenge.rw_nohalfway_k06_ways_refused.Holds := by
 w_on; o_law; k_head; (case hw=>w_witness2)
 k_fill
 refine b4.UW (l:=PySem.Challenge.rw_nohalfway_k06_ways_refused) rfl rfl (fun w h Y=>PySem.W.kIn_of Y) ?F
 case F=>
  intro w mg fb h jT G rv
  refine' b4.all_mk jT G rv ?h38 (b4.Ur jT G ?n_Net ?g1_Net ?g2_Net ?g3_Net ?g4_Net ?u_Net_many ?u_Net_counts ?u_Net_joined ?u_Net_far ?mk_Net ?kc_Net ?n_NoBooks ?ct_NoBooks ?e1_NoBooks ?ga_NoBooks ?gn_NoBooks ?cl_NoBooks ?sb_NoBooks ?mo_NoBooks ?n_NoDoor ?ct_NoDoor ?e1_NoDoor ?ga_NoDoor ?gn_NoDoor ?cl_NoDoor ?sb_NoDoor ?mo_NoDoor ?n_NoAddress ?ct_NoAddress ?e1_NoAddress ?ga_NoAddress ?gn_NoAddress ?cl_NoAddress ?sb_NoAddress ?mo_NoAddress ?spc0 ?tkc0 ?ki_NoBooks_NoAddress ?ki_NoDoor_NoAddress ?ki_NoAddress_NoAddress ?ki_NoBooks_NoBooks ?ki_NoDoor_NoBooks ?ki_NoAddress_NoBooks ?ki_NoBooks_NoDoor ?ki_NoDoor_NoDoor ?ki_NoAddress_NoDoor ?n_NoMove ?ki_NoBooks_NoMove ?ki_NoDoor_NoMove ?ki_NoAddress_NoMove ?n_NoNet ?ki_NoBooks_NoNet ?ki_NoDoor_NoNet ?ki_NoAddress_NoNet ?n_NoPlan ?ki_NoBooks_NoPlan ?ki_NoDoor_NoPlan ?ki_NoAddress_NoPlan ?n_NoRow ?ki_NoBooks_NoRow ?ki_NoDoor_NoRow ?ki_NoAddress_NoRow ?n_NoSaying ?ki_NoBooks_NoSaying ?ki_NoDoor_NoSaying ?ki_NoAddress_NoSaying ?n_NoText ?ki_NoBooks_NoText ?ki_NoDoor_NoText ?ki_NoAddress_NoText ?ki_NoBooks_ValueError ?ki_NoDoor_ValueError ?ki_NoAddress_ValueError ?n_WayError ?em_NoBooks_WayError ?em_NoDoor_WayError ?em_NoAddress_WayError ?h0 ?h1 ?h2 ?h3 ?h4 ?h5 ?h6 ?h7 ?h8 ?h9 ?h10 ?h11 ?h12 ?h13 ?h14 ?h15 ?h16 ?h17 ?h18 ?h19 ?h20 ?h21 ?h22 ?h23 ?h24 ?h25 ?h26 ?h27 ?h28 ?h29 ?h30 ?h31 ?h32 ?h33 ?h34 ?h35 ?h36 ?h37 ?h38 ?z_ValueError ?z_all ?z_bool ?z_enumerate ?z_int ?z_isinstance ?z_len ?z_list ?z_range ?z_sorted ?z_str ?z_tuple ?z_zip ?z_GREATEST_ADDRESS ?z_MOST_DOORS ?z_MOST_HOUSES ?z_MOST_ROWS ?z_SIGNS ?y_SIGNS ?z_WORTHS ?y_WORTHS)
  (case n_Net=>k_is)
  (case g1_Net=>k_is)
  (case g2_Net=>k_is)
  (case g3_Net=>k_is)
  (case g4_Net=>k_is)
  (case u_Net_many=>k_is)
  (case u_Net_counts=>k_is)
  (case u_Net_joined=>k_is)
  (case u_Net_far=>k_is)
  (case mk_Net=>k_is)
  (case kc_Net=>k_is)
  (case n_NoBooks=>k_is)
  (case ct_NoBooks=>k_is)
  (case e1_NoBooks=>k_exc)
  (case ga_NoBooks=>k_is)
  (case gn_NoBooks=>k_is)
  (case cl_NoBooks=>k_is)
  (case sb_NoBooks=>k_is)
  (case mo_NoBooks=>k_is)
  (case n_NoDoor=>k_is)
  (case ct_NoDoor=>k_is)
  (case e1_NoDoor=>k_exc)
  (case ga_NoDoor=>k_is)
  (case gn_NoDoor=>k_is)
  (case cl_NoDoor=>k_is)
  (case sb_NoDoor=>k_is)
  (case mo_NoDoor=>k_is)
  (case n_NoAddress=>k_is)
  (case ct_NoAddress=>k_is)
  (case e1_NoAddress=>k_exc)
  (case ga_NoAddress=>k_is)
  (case gn_NoAddress=>k_is)
  (case cl_NoAddress=>k_is)
  (case sb_NoAddress=>k_is)
  (case mo_NoAddress=>k_is)
  (case spc0=>k_is)
  (case tkc0=>k_is)
  (case ki_NoBooks_NoAddress=>kit_is)
  (case ki_NoDoor_NoAddress=>kit_is)
  (case ki_NoAddress_NoAddress=>kit_is)
  (case ki_NoBooks_NoBooks=>kit_is)
  (case ki_NoDoor_NoBooks=>kit_is)
  (case ki_NoAddress_NoBooks=>kit_is)
  (case ki_NoBooks_NoDoor=>kit_is)
  (case ki_NoDoor_NoDoor=>kit_is)
  (case ki_NoAddress_NoDoor=>kit_is)
  (case n_NoMove=>k_is)
  (case ki_NoBooks_NoMove=>kit_is)
  (case ki_NoDoor_NoMove=>kit_is)
  (case ki_NoAddress_NoMove=>kit_is)
  (case n_NoNet=>k_is)
  (case ki_NoBooks_NoNet=>kit_is)
  (case ki_NoDoor_NoNet=>kit_is)
  (case ki_NoAddress_NoNet=>kit_is)
  (case n_NoPlan=>k_is)
  (case ki_NoBooks_NoPlan=>kit_is)
  (case ki_NoDoor_NoPlan=>kit_is)
  (case ki_NoAddress_NoPlan=>kit_is)
  (case n_NoRow=>k_is)
  (case ki_NoBooks_NoRow=>kit_is)
  (case ki_NoDoor_NoRow=>kit_is)
  (case ki_NoAddress_NoRow=>kit_is)
  (case n_NoSaying=>k_is)
  (case ki_NoBooks_NoSaying=>kit_is)
  (case ki_NoDoor_NoSaying=>kit_is)
  (case ki_NoAddress_NoSaying=>kit_is)
  (case n_NoText=>k_is)
  (case ki_NoBooks_NoText=>kit_is)
  (case ki_NoDoor_NoText=>kit_is)
  (case ki_NoAddress_NoText=>kit_is)
  (case ki_NoBooks_ValueError=>kit_is)
  (case ki_NoDoor_ValueError=>kit_is)
  (case ki_NoAddress_ValueError=>kit_is)
  (case n_WayError=>k_is)
  (case em_NoBooks_WayError=>kts_exm)
  (case em_NoDoor_WayError=>kts_exm)
  (case em_NoAddress_WayError=>kts_exm)
  (case z_ValueError=>k_is)
  (case z_all=>k_is)
  (case z_bool=>k_is)
  (case z_enumerate=>k_is)
  (case z_int=>k_is)
  (case z_isinstance=>k_is)
  (case z_len=>k_is)
  (case z_list=>k_is)
  (case z_range=>k_is)
  (case z_sorted=>k_is)
  (case z_str=>k_is)
  (case z_tuple=>k_is)
  (case z_zip=>k_is)
  (case z_GREATEST_ADDRESS=>k_is)
  (case z_MOST_DOORS=>k_is)
  (case z_MOST_HOUSES=>k_is)
  (case z_MOST_ROWS=>k_is)
  (case z_SIGNS=>k_is)
  (case y_SIGNS=>k_is)
  (case z_WORTHS=>k_is)
  (case y_WORTHS=>k_is)
  (case h0=>(refine' b4.dS ?a ?l ?c ?k; (case a=>k_is); (case l=>k_is); (case c=>k_is); (case k=>k_is)))
  (case h1=>(refine' b4.dS ?a ?l ?c ?k; (case a=>k_is); (case l=>k_is); (case c=>k_is); (case k=>k_is)))
  (case h2=>(refine' b4.dS ?a ?l ?c ?k; (case a=>k_is); (case l=>k_is); (case c=>k_is); (case k=>k_is)))
  (case h3=>(refine' b4.dS ?a ?l ?c ?k; (case a=>k_is); (case l=>k_is); (case c=>k_is); (case k=>k_is)))
  (case h4=>(refine' b4.dS ?a ?l ?c ?k; (case a=>k_is); (case l=>k_is); (case c=>k_is); (case k=>k_is)))
  (case h5=>(refine' b4.dS ?a ?l ?c ?k; (case a=>k_is); (case l=>k_is); (case c=>k_is); (case k=>k_is)))
  (case h6=>(refine' b4.dS ?a ?l ?c ?k; (case a=>k_is); (case l=>k_is); (case c=>k_is); (case k=>k_is)))
  (case h7=>(refine' b4.dS ?a ?l ?c ?k; (case a=>k_is); (case l=>k_is); (case c=>k_is); (case k=>k_is)))
  (case h8=>(refine' b4.dS ?a ?l ?c ?k; (case a=>k_is); (case l=>k_is); (case c=>k_is); (case k=>k_is)))
  (case h9=>(refine' b4.dS ?a ?l ?c ?k; (case a=>k_is); (case l=>k_is); (case c=>k_is); (case k=>k_is)))
  (case h10=>(refine' b4.dS ?a ?l ?c ?k; (case a=>k_is); (case l=>k_is); (case c=>k_is); (case k=>k_is)))
  (case h11=>(refine' b4.dS ?a ?l ?c ?k; (case a=>k_is); (case l=>k_is); (case c=>k_is); (case k=>k_is)))
  (case h12=>(refine' b4.r6 ?a ?l ?c ?k ?i; (case a=>k_is); (case l=>k_is); (case c=>k_is); (case k=>k_is); (case i=>k_is)))
  (case h13=>(refine' b4.dS ?a ?l ?c ?k; (case a=>k_is); (case l=>k_is); (case c=>k_is); (case k=>k_is)))
  (case h14=>(refine' b4.dS ?a ?l ?c ?k; (case a=>k_is); (case l=>k_is); (case c=>k_is); (case k=>k_is)))
  (case h15=>(refine' b4.dS ?a ?l ?c ?k; (case a=>k_is); (case l=>k_is); (case c=>k_is); (case k=>k_is)))
  (case h16=>(refine' b4.dS ?a ?l ?c ?k; (case a=>k_is); (case l=>k_is); (case c=>k_is); (case k=>k_is)))
  (case h17=>(refine' b4.dS ?a ?l ?c ?k; (case a=>k_is); (case l=>k_is); (case c=>k_is); (case k=>k_is)))
  (case h18=>(refine' b4.dS ?a ?l ?c ?k; (case a=>k_is); (case l=>k_is); (case c=>k_is); (case k=>k_is)))
  (case h19=>(refine' b4.dS ?a ?l ?c ?k; (case a=>k_is); (case l=>k_is); (case c=>k_is); (case k=>k_is)))
  (case h20=>(refine' b4.dS ?a ?l ?c ?k; (case a=>k_is); (case l=>k_is); (case c=>k_is); (case k=>k_is)))
  (case h21=>(refine' b4.dS ?a ?l ?c ?k; (case a=>k_is); (case l=>k_is); (case c=>k_is); (case k=>k_is)))
  (case h22=>(refine' b4.dS ?a ?l ?c ?k; (case a=>k_is); (case l=>k_is); (case c=>k_is); (case k=>k_is)))
  (case h23=>(refine' b4.r6 ?a ?l ?c ?k ?i; (case a=>k_is); (case l=>k_is); (case c=>k_is); (case k=>k_is); (case i=>k_is)))
  (case h24=>(refine' b4.dS ?a ?l ?c ?k; (case a=>k_is); (case l=>k_is); (case c=>k_is); (case k=>k_is)))
  (case h25=>(refine' b4.dS ?a ?l ?c ?k; (case a=>k_is); (case l=>k_is); (case c=>k_is); (case k=>k_is)))
  (case h26=>(refine' b4.dS ?a ?l ?c ?k; (case a=>k_is); (case l=>k_is); (case c=>k_is); (case k=>k_is)))
  (case h27=>(refine' b4.dS ?a ?l ?c ?k; (case a=>k_is); (case l=>k_is); (case c=>k_is); (case k=>k_is)))
  (case h28=>(refine' b4.dS ?a ?l ?c ?k; (case a=>k_is); (case l=>k_is); (case c=>k_is); (case k=>k_is)))
  (case h29=>(refine' b4.r6 ?a ?l ?c ?k ?i; (case a=>k_is); (case l=>k_is); (case c=>k_is); (case k=>k_is); (case i=>k_is)))
  (case h30=>(refine' b4.dS ?a ?l ?c ?k; (case a=>k_is); (case l=>k_is); (case c=>k_is); (case k=>k_is)))
  (case h31=>(refine' b4.dS ?a ?l ?c ?k; (case a=>k_is); (case l=>k_is); (case c=>k_is); (case k=>k_is)))
  (case h32=>(refine' b4.r6 ?a ?l ?c ?k ?i; (case a=>k_is); (case l=>k_is); (case c=>k_is); (case k=>k_is); (case i=>k_is)))
  (case h33=>(refine' b4.r6 ?a ?l ?c ?k ?i; (case a=>k_is); (case l=>k_is); (case c=>k_is); (case k=>k_is); (case i=>k_is)))
  (case h34=>(refine' b4.dS ?a ?l ?c ?k; (case a=>k_is); (case l=>k_is); (case c=>k_is); (case k=>k_is)))
  (case h35=>(refine' b4.dS ?a ?l ?c ?k; (case a=>k_is); (case l=>k_is); (case c=>k_is); (case k=>k_is)))
  (case h36=>(refine' b4.dS ?a ?l ?c ?k; (case a=>k_is); (case l=>k_is); (case c=>k_is); (case k=>k_is)))
  (case h37=>(refine' b4.dS ?a ?l ?c ?k; (case a=>k_is); (case l=>k_is); (case c=>k_is); (case k=>k_is)))
  (case h38=>(refine' b4.dS ?a ?l ?c ?k; (case a=>k_is); (case l=>k_is); (case c=>k_is); (case k=>k_is)))
