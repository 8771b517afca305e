import PyProof.Rows.All
import Wide.All
import OpenK.AllK
import Wide.FinOn
import Lean
import PyProof.EqAt
import PyProof.EqKinds
import PyProof.TupleCall
import PyProof.NeKinds
import KE.KIsAll
import PyProof.ExcArgsOwn
import PySem.SetOps
import PyProof.TupleKey
import PyProof.SetKind
import PyProof.IsRules
import PyProof.Rows.SetFrom
import PyProof.Rows.SortShellK
import PyProof.DictKinds
import PyProof.FactsAll.tuple_2
import PyProof.SetRoads
import PyProof.AutoListH
import PyProof.SumAny
import PyProof.StrCalls
import KE.RegKIsAll
import KE.RegKTryMore
import PySem.Challenge.RW_nohalfway_k24_faults_refused
set_option Elab.async false
set_option linter.all false
set_option maxRecDepth 100000
noncomputable section
namespace aQ
open PySem PySem.Spec PyProof.Rows
abbrev Key:=Sum Int Str
def qY:Key→Value→Bool
 |.inl k,v=>Value.isInt k v
 |.inr x,v=>Value.isStrOf x v
def Q_(w:World):Key→Int
 |.inl k=>hashInt k
 |.inr x=>hashStr w x
theorem mC:∀{k:Key}{v:Value},qY k v=true→(∃i t,k=Sum.inl i∧v=Value.int i t)∨(∃x t,k=Sum.inr x∧v=Value.str x t)
 |.inl i,v,h=>by obtain⟨t,e⟩:=Value.isInt_shape (k:=i) (v:=v) h;exact .inl ⟨i,t,rfl,e⟩
 |.inr x,v,h=>by obtain⟨t,e⟩:=Value.isStrOf_shape (x:=x) (v:=v) h;exact .inr ⟨x,t,rfl,e⟩
theorem Ra(i:Int)(t:Tok):qY (.inl i) (.int i t)=true:=by simp[qY,Value.isInt]
theorem Rb(x:Str)(t:Tok):qY (.inr x) (.str x t)=true:=by simp[qY,Value.isStrOf]
theorem Rg(a b:Int):decide ((Sum.inl a:Key)=Sum.inl b)=(a==b):=by
 by_cases e:a=b
 ·subst e;simp
 ·have h:¬(Sum.inl a:Key)=Sum.inl b:=fun q=>e (Sum.inl.inj q);rw[decide_eq_false h];exact(beq_eq_false_iff_ne.mpr e).symm
theorem Rj(a b:Str):decide ((Sum.inr a:Key)=Sum.inr b)=decide (a=b):=by
 by_cases e:a=b
 ·subst e;simp
 ·have h:¬(Sum.inr a:Key)=Sum.inr b:=fun q=>e (Sum.inr.inj q);rw[decide_eq_false h,decide_eq_false e]
theorem Rh(a:Int)(b:Str):decide ((Sum.inl a:Key)=Sum.inr b)=false:=decide_eq_false (fun q=>nomatch q)
theorem Ri(a:Str)(b:Int):decide ((Sum.inr a:Key)=Sum.inl b)=false:=decide_eq_false (fun q=>nomatch q)
noncomputable def hI(prog:Program)(w:World):PySem.KeyKind prog w Key where
 is:=qY
 hash:=Q_ w
 inj:=fun v a b ha hb=>by
  rcases mC ha with⟨i,t,rfl,rfl⟩|⟨x,t,rfl,rfl⟩
  ·rcases mC hb with⟨j,u,rfl,e⟩|⟨y,u,rfl,e⟩
   ·injection e with ak _;rw[ak]
   ·exact nomatch e
  ·rcases mC hb with⟨j,u,rfl,e⟩|⟨y,u,rfl,e⟩
   ·exact nomatch e
   ·injection e with ak _;rw[ak]
 byValue:=fun k v h=>by rcases mC h with⟨i,t,rfl,rfl⟩|⟨x,t,rfl,rfl⟩<;>rfl
 pyHash:=fun hv h=>by
  rcases mC hv with⟨i,t,rfl,rfl⟩|⟨x,t,rfl,rfl⟩
  ·exact wpAny_pyHash_int h
  ·exact wpAny_pyHash_str h
 eqBool:=fun hu hv h=>by
  rcases mC hu with⟨i,t,rfl,rfl⟩|⟨x,t,rfl,rfl⟩
  ·rcases mC hv with⟨j,u,rfl,rfl⟩|⟨y,u,rfl,rfl⟩
   ·rw[Rg]at h;exact wpAny_eqBool_int h
   ·rw[Rh]at h;exact SeqAt.EqAt.int_str i t y u _ _ _ _ h
  ·rcases mC hv with⟨j,u,rfl,rfl⟩|⟨y,u,rfl,rfl⟩
   ·rw[Ri]at h;exact SeqAt.EqAt.str_int x t j u _ _ _ _ h
   ·rw[Rj]at h;exact wpAny_eqBool_str h
 «strs»:=fun k x t v h=>by
  rcases mC h with⟨i,u,rfl,e⟩|⟨y,u,rfl,e⟩
  ·exact nomatch e
  ·injection e with ak _;subst ak;cases v<;>rfl
theorem SA(prog:Program)(w:World)(i:Int)(t:Tok):(hI prog w).is (.inl i) (.int i t)=true:=Ra i t
theorem SD(prog:Program)(w:World)(x:Str)(t:Tok):(hI prog w).is (.inr x) (.str x t)=true:=Rb x t
inductive V where
 |non|au (b:Bool)|int (i:Int)|str (x:Str)|lu (b:Array UInt8)|vq (b:UInt64)|ref (a:Addr)|ty (n:String)
 deriving DecidableEq
noncomputable def RelV:V→Value→Prop
 |.non,u=>u=Value.none
 |.au b,u=>u=Value.bool b
 |.int i,u=>∃t,u=Value.int i t
 |.str x,u=>∃t,u=Value.str x t
 |.lu b,u=>∃t,u=Value.bytes b t
 |.vq b,u=>∃t,u=Value.float b t
 |.ref a,u=>u=Value.ref a
 |.ty n,u=>u=Value.type n
abbrev Vals:List V→List Value→Prop:=Paired RelV
theorem Vals.length{xs:List V}{us:List Value}(r:Vals xs us):xs.length=us.length:=Paired.length r
theorem Vals.get:∀{xs:List V}{us:List Value}{i:Nat}{x:V},Vals xs us→xs[i]?=some x→∃u,us[i]?=some u∧RelV x u
 |_,_,_,_,.nil,e=>by simp at e
 |_,_,0,_,.cons r _,e=>by simp at e;subst e;exact⟨_,rfl,r⟩
 |_,_,i+1,x,.cons _ t,e=>by obtain⟨u,h1,h2⟩:=Vals.get (i:=i) (x:=x) t (by simpa using e);exact⟨u,by simpa using h1,h2⟩
theorem Vals.set{x:V}{u:Value}(r:RelV x u):∀{xs:List V}{us:List Value}(i:Nat),Vals xs us→Vals (xs.set i x) (us.set i u)
 |_,_,_,.nil=>.nil
 |_,_,0,.cons _ t=>.cons r t
 |_,_,i+1,.cons q t=>.cons q (Vals.set r i t)
theorem Vals.append:∀{xs ys:List V}{us ws:List Value},Vals xs us→Vals ys ws→Vals (xs++ys) (us++ws)
 |_,_,_,_,.nil,s=>s
 |_,_,_,_,.cons r t,s=>.cons r (Vals.append t s)
theorem Vals.take:∀{xs:List V}{us:List Value}(n:Nat),Vals xs us→Vals (xs.take n) (us.take n)
 |_,_,0,_=>.nil
 |_,_,_+1,.nil=>.nil
 |_,_,n+1,.cons r t=>.cons r (Vals.take n t)
theorem Vals.drop:∀{xs:List V}{us:List Value}(n:Nat),Vals xs us→Vals (xs.drop n) (us.drop n)
 |_,_,0,r=>r
 |_,_,_+1,.nil=>.nil
 |_,_,n+1,.cons _ t=>Vals.drop n t
def hX:Option V→Option Value→Prop
 |some v,some u=>RelV v u
 |none,none=>True
 |_,_=>False
def fe{κ:Type}:List (κ×V)→List (κ×Value)→Prop:=Paired fun(p:κ×V)(q:κ×Value)=>p.1=q.1∧RelV p.2 q.2
def cD:Key→V
 |.inl i=>.int i
 |.inr x=>.str x
inductive du where
 |lst (xs:List V)
 |tup (xs:List V)
 |cY (aR:List (Key×V))|bI (aR:List (List Key×V))
 |set (S:Int→Bool) (n:Nat)
 |ins (C aN:Addr) (aP:List (Str×V))
 |own (x:Addr)
 |xw (aP:List (Str×V))
 |met (f x:Addr)
 |wU (lo hi:Int)
 |ju (o:Obj) (u:du)
 |ot (ps:Array Value)
 |ext (qd:Heap→Prop)
abbrev ag:=Addr→Option du
def upd(H:ag)(a:Addr)(o:du):ag:=fun b=>if b=a then some o else H b
theorem d0{H:ag}{a:Addr}{o:du}:upd H a o a=some o:=by unfold upd;rw[if_pos rfl]
theorem c2{H:ag}{a b:Addr}{o:du}(h:b≠a):upd H a o b=H b:=by unfold upd;rw[if_neg h]
theorem SS{H:ag}{a b:Addr}{o u:du}(h:H a=some o)(h':H b=some u)(d:o≠u):a≠b:=by intro e;subst e;rw[h]at h';exact d (Option.some.inj h')
theorem iP{H:ag}{a b:Addr}{o:du}(h:H a=some o)(h':H b=none):a≠b:=by intro e;subst e;rw[h]at h';cases h'
section
variable(P:Program)(w:World)
noncomputable def eI(H:ag)(h:Heap)(a:Addr):du→Prop
 |.lst xs=>xs.length≤sizeLine∧∃(its:List Value)(n:Nat),Vals xs its∧h.get? a=some { cls:=.type "list",data:=.seq its.toArray n }
 |.tup xs=>xs.length≤sizeLine∧∃its:List Value,Vals xs its∧IsTup h a its.toArray
 |.cY aR=>aR.length≤sizeLine∧(a==sysModules)=false∧∃vs,fe aR vs∧h.DictOf (hI P w) a vs
 |.bI aR=>aR.length≤sizeLine∧(a==sysModules)=false∧∃xs:List (List Key×Addr×Value),
     Paired (fun(p:List Key×V)(q:List Key×Addr×Value)=>p.1=q.1∧H q.2.1=some (.tup (p.1.map cD))∧RelV p.2 q.2.2) aR xs∧
     ∃o es cH,h.get? a=some o∧o.ExactDict∧o.data=.dict es cH∧es.toList=xs.map (entryOfKey (tupleKind (hI P w)))∧(xs.map (·.1)).Nodup
 |.set S n=>h.SetOf (intKind P w) a S n
 |.ins C aN aP=>H aN=some (.own a)∧aP.length≤1000∧aN≠a∧h.get? a=some (PySem.W.instObj C aN)∧
     ∃dK,h.Ns1 aN dK∧(∀f,hX (aP.lookup f) (dK f))∧PySem.Within dK (aP.map (·.1))
 |.own _=>∃o,h.get? a=some o
 |.xw aP=>∃dK,h.Ns1 a dK∧∀f,hX (aP.lookup f) (dK f)
 |.wU lo hi=>∃t u v,h.get? a=some { cls:=.type "range",data:=.fields #[.int lo t,.int hi u,.int 1 v] }
 |.ju o u=>h.get? a=some o∧eI H h a u
 |.ot ps=>h.get? a=some { cls:=.none,data:=.fields ps }
 |.met f x=>h.get? a=some (PySem.W.methodObj (.ref f) (.ref x))
 |.ext qd=>qd h∧(∃o,h.get? a=some o)∧∀h1 h2:Heap,qd h1→(∀o,h1.get? a=some o→h2.get? a=some o)→qd h2
def d2(H:ag)(h:Heap):Prop:=∀a o,H a=some o→eI P w H h a o
end
section
variable{P:Program}{w:World}{H H':ag}{h h':Heap}{a:Addr}{o:du}
theorem eI.lt(x:eI P w H h a o):a<h.objs.size:=by
 cases o with
 |lst xs=>obtain⟨_,_,_,_,e⟩:=x;exact Heap.lt_size e
 |tup xs=>obtain⟨_,_,_,p⟩:=x;exact p.lt
 |cY aR=>obtain⟨_,_,_,_,o,_,_,e,_⟩:=x;exact Heap.lt_size e
 |bI aR=>obtain⟨_,_,_,_,o,_,_,e,_⟩:=x;exact Heap.lt_size e
 |set S n=>obtain⟨o,_,_,_,e,_⟩:=x;exact Heap.lt_size e
 |ins C aN aP=>obtain⟨_,_,_,e,_⟩:=x;exact Heap.lt_size e
 |own y=>obtain⟨_,e⟩:=x;exact Heap.lt_size e
 |xw aP=>obtain⟨_,⟨_,_,_,e,_⟩,_⟩:=x;exact Heap.lt_size e
 |wU lo hi=>obtain⟨_,_,_,e⟩:=x;exact Heap.lt_size e
 |ju aV u=>obtain⟨e,_⟩:=x;exact Heap.lt_size e
 |ot ps=>exact Heap.lt_size (show h.get? a=some _ from x)
 |met f y=>exact Heap.lt_size (show h.get? a=some _ from x)
 |ext qd=>obtain⟨_,⟨_,e⟩,_⟩:=x;exact Heap.lt_size e
theorem Paired.Ah{α β:Type}{F G:α→β→Prop}:∀{l₁:List α}{l₂:List β},Paired F l₁ l₂→(∀a b,F a b→G a b)→Paired G l₁ l₂
 |_,_,.nil,_=>.nil
 |_,_,.cons r t,f=>.cons (f _ _ r) (Paired.Ah t f)
theorem eI.kU(x:eI P w H h a o)(k:∀b u,(b=a∨H b=some (.own a))→h.get? b=some u→h'.get? b=some u)(ho:∀b,H b=some (.own a)→H' b=some (.own a))(ht:∀b xs,H b=some (.tup xs)→H' b=some (.tup xs)):eI P w H' h' a o:=by
 induction o with
 |lst xs=>obtain⟨z,its,n,r,e⟩:=x;exact⟨z,its,n,r,k _ _ (.inl rfl) e⟩
 |tup xs=>obtain⟨z,its,r,aV,e,c⟩:=x;exact⟨z,its,r,aV,k _ _ (.inl rfl) e,c⟩
 |cY aR=>obtain⟨z,y,vs,r,aV,es,cH,e,c⟩:=x;exact⟨z,y,vs,r,aV,es,cH,k _ _ (.inl rfl) e,c⟩
 |bI aR=>obtain⟨z,y,xs,r,aV,es,cH,e,c⟩:=x;exact⟨z,y,xs,Paired.Ah r fun p q z=>⟨z.1,ht _ _ z.2.1,z.2.2⟩,aV,es,cH,k _ _ (.inl rfl) e,c⟩
 |set S n=>obtain⟨aV,es,cH,t,e,c⟩:=x;exact⟨aV,es,cH,t,k _ _ (.inl rfl) e,c⟩
 |ins C aN aP=>obtain⟨d,z,ne,e,dK,⟨dv,es,cH,ay,c⟩,r⟩:=x;exact⟨ho _ d,z,ne,k _ _ (.inl rfl) e,dK,⟨dv,es,cH,k _ _ (.inr d) ay,c⟩,r⟩
 |own y=>obtain⟨aV,e⟩:=x;exact⟨aV,k _ _ (.inl rfl) e⟩
 |xw aP=>obtain⟨dK,⟨dv,es,cH,e,c⟩,r⟩:=x;exact⟨dK,⟨dv,es,cH,k _ _ (.inl rfl) e,c⟩,r⟩
 |wU lo hi=>obtain⟨t,u,v,e⟩:=x;exact⟨t,u,v,k _ _ (.inl rfl) e⟩
 |ju aV u bW=>obtain⟨e,q⟩:=x;exact⟨k _ _ (.inl rfl) e,bW q⟩
 |ot ps=>have e:h.get? a=some { cls:=.none,data:=.fields ps }:=x;show h'.get? a=some { cls:=.none,data:=.fields ps };exact k a _ (.inl rfl) e
 |met f y=>have e:h.get? a=some (PySem.W.methodObj (.ref f) (.ref y)):=x;show h'.get? a=some (PySem.W.methodObj (.ref f) (.ref y));exact k a _ (.inl rfl) e
 |ext qd=>obtain⟨p,⟨o,e⟩,st⟩:=x;exact⟨st _ _ p fun o q=>k _ _ (.inl rfl) q,⟨o,k _ _ (.inl rfl) e⟩,st⟩
theorem d2.lt(x:d2 P w H h)(e:H a=some o):a<h.objs.size:=(x a o e).lt
theorem d2.fresh(x:d2 P w H h)(e:h.objs.size≤a):H a=none:=by
 cases q:H a with
 |none=>rfl
 |some u=>exact absurd (Nat.lt_of_lt_of_le (x.lt q) e) (Nat.lt_irrefl _)
theorem d2.kept(x:d2 P w H h)(k:∀b u,h.get? b=some u→h'.get? b=some u):d2 P w H h':=fun a o e=>
 (x a o e).kU (fun b u _ q=>k b u q) (fun _ q=>q) fun _ _ q=>q
theorem d2.laid(x:d2 P w H h)(k:∀b u,h.get? b=some u→h'.get? b=some u)(hp:h.objs.size≤a)(new:eI P w (upd H a o) h' a o):d2 P w (upd H a o) h':=fun b u e=>by
 have aE:=x.fresh hp;by_cases hb:b=a
 ·subst hb;rw[d0]at e;cases e;exact new
 ·rw[c2 hb]at e;exact(x b u e).kU (fun c v _ q=>k c v q) (fun c q=>by rw[c2 (iP q aE)];exact q) fun c xs q=>by rw[c2 (iP q aE)];exact q
end
def gb(H:ag)(a:Addr)(u:du):Prop:=H a=some u∨∃o,H a=some (.ju o u)
theorem gb.ok{P:Program}{w:World}{H:ag}{h:Heap}{a:Addr}{u:du}(r:gb H a u)(x:d2 P w H h):eI P w H h a u:=by
 rcases r with r|⟨o,r⟩
 ·exact x a u r
 ·obtain⟨_,q⟩:=x a _ r;exact q
noncomputable def rU:Option du→Prop
 |some (.lst _)=>True
 |some (.cY _)=>True
 |some (.bI _)=>True
 |some (.set _ _)=>True
 |some (.ins _ _ _)=>True
 |some (.ext _)=>True
 |_=>False
section
variable{P:Program}{w:World}{H:ag}{h h':Heap}{x e:Addr}{bz:du}
theorem d2.write(ok:d2 P w H h)(jh:rU (H x))(he:e=x∨H e=some (.own x))(k:∀b u,b≠e→h.get? b=some u→h'.get? b=some u)(qP:∃u,h'.get? e=some u)(new:eI P w (upd H x bz) h' x bz):d2 P w (upd H x bz) h':=fun b u q=>by
 have Hz:∀c y,H c=some (.own y)→c≠x:=fun c y r z=>by subst z;rw[r]at jh;exact jh
 have S8:∀c xs,H c=some (.tup xs)→c≠x:=fun c xs r z=>by subst z;rw[r]at jh;exact jh
 by_cases hb:b=x
 ·subst hb;rw[d0]at q;cases q;exact new
 ·rw[c2 hb]at q;by_cases lE:b=e
  ·have cV:H b=some (.own x):=by
     rcases he with z|z
     ·exact absurd (lE.trans z) hb
     ·rw[lE];exact z
   rw[q]at cV;cases cV;obtain⟨v,hv⟩:=qP;exact⟨v,by rw[lE];exact hv⟩
  ·refine(ok b u q).kU (fun c v hc r=>k c v ?_ r) (fun c r=>by rw[c2 (Hz c b r)];exact r) fun c xs r=>by rw[c2 (S8 c xs r)];exact r
   rcases hc with rfl|hc
   ·exact lE
   ·rintro rfl;rcases he with z|z
    ·exact Hz c b hc z
    ·rw[hc]at z;cases z;exact hb rfl
end
structure eZ(aP ex:List Addr)(H H':ag)(h h':Heap):Prop where
 keep:∀b o,h.get? b=some o→H b=none→b∉aP→b∉ex→h'.get? b=some o
 slot:∀b o,h.get? b=some o→H b=none→b∈aP→b∉ex→∃cw,h'.get? b=some { o with slots:=cw }
 free:∀b o,h.get? b=some o→H b=none→b∉ex→H' b=none
 there:∀b o,h.get? b=some o→b∉ex→∃bz,h'.get? b=some bz
 hj:∀b xs,H b=some (.tup xs)→H' b=some (.tup xs)
 gR:∀b o u,H b=some (.ju o u)→H' b=some (.ju o u)
 g_:∀b ps,H b=some (.ot ps)→∃more,H' b=some (.ot (ps++more))
section
variable{aP FD ex Ex:List Addr}{H H1 aS:ag}{h h1 h2 h':Heap}{a x e:Addr}{o:du}
theorem eZ.any(u:eZ aP ex H H1 h h1){b:Addr}{aV:Obj}(q:h.get? b=some aV)(n:H b=none)(hx:b∉ex):∃cw,h1.get? b=some { aV with slots:=cw }:=by
 by_cases hb:b∈aP
 ·exact u.slot b aV q n hb hx
 ·exact⟨aV.slots,u.keep b aV q n hb hx⟩
theorem eZ.trans(a:eZ aP ex H H1 h h1)(b:eZ aP ex H1 aS h1 h2):eZ aP ex H aS h h2 where
 keep:=fun c aV q n hc hx=>b.keep c aV (a.keep c aV q n hc hx) (a.free c aV q n hx) hc hx
 slot:=fun c aV q n hc hx=>by obtain⟨cw,ak⟩:=a.slot c aV q n hc hx;obtain⟨BL,ay⟩:=b.slot c _ ak (a.free c aV q n hx) hc hx;exact⟨BL,ay⟩
 free:=fun c aV q n hx=>by obtain⟨bz,ak⟩:=a.there c aV q hx;exact b.free c bz ak (a.free c aV q n hx) hx
 there:=fun c aV q hx=>by obtain⟨bz,ak⟩:=a.there c aV q hx;exact b.there c bz ak hx
 hj:=fun c xs q=>b.hj c xs (a.hj c xs q)
 gR:=fun c aV xs q=>b.gR c aV xs (a.gR c aV xs q)
 g_:=fun c ps q=>by obtain⟨m1,ak⟩:=a.g_ c ps q;obtain⟨m2,ay⟩:=b.g_ c _ ak;exact⟨m1++m2,by rw[ay,Array.append_assoc]⟩
theorem eZ.kept(k:∀b u,h.get? b=some u→h'.get? b=some u):eZ aP ex H H h h':=
 ⟨fun b aV q _ _ _=>k b aV q,fun b aV q _ _ _=>⟨aV.slots,k b aV q⟩,fun _ _ _ n _=>n,fun b aV q _=>⟨aV,k b aV q⟩,fun _ _ q=>q,fun _ _ _ q=>q,fun _ ps q=>⟨#[],by rw[q];simp⟩⟩
theorem eZ.refl:eZ aP ex H H h h:=eZ.kept fun _ _ q=>q
theorem eZ.laid(k:∀b u,h.get? b=some u→h'.get? b=some u)(hp:h.objs.size≤a)(aE:H a=none):eZ aP ex H (upd H a o) h h' where
 keep:=fun b u q _ _ _=>k b u q
 slot:=fun b u q _ _ _=>⟨u.slots,k b u q⟩
 free:=fun b u q n _=>by rw[c2 (Nat.ne_of_lt (Nat.lt_of_lt_of_le (Heap.lt_size q) hp))];exact n
 there:=fun b u q _=>⟨u,k b u q⟩
 hj:=fun b xs q=>by rw[c2 (iP q aE)];exact q
 gR:=fun b u xs q=>by rw[c2 (iP q aE)];exact q
 g_:=fun b ps q=>⟨#[],by rw[c2 (iP q aE),q];simp⟩
theorem eZ.write(jh:rU (H x))(he:e=x∨H e=some (.own x))(k:∀b u,b≠e→h.get? b=some u→h'.get? b=some u)(qP:∃u,h'.get? e=some u):eZ aP ex H (upd H x o) h h':=by
 have hx:∀b,H b=none→b≠x:=fun b n z=>by subst z;rw[n]at jh;exact jh
 have hb:∀b,H b=none→b≠e:=fun b n z=>by
  subst z;rcases he with r|r
  ·exact hx b n r
  ·rw[n]at r;cases r
 have hm:∀b u,H b=some u→¬rU (some u)→b≠x:=fun b u q nm z=>by subst z;rw[q]at jh;exact nm jh
 refine⟨fun b u q n _ _=>k b u (hb b n) q,fun b u q n _ _=>⟨u.slots,k b u (hb b n) q⟩,fun b u q n _=>by rw[c2 (hx b n)];exact n,fun b u q _=>?_,
  fun b xs q=>by rw[c2 (hm b _ q fun z=>z)];exact q,fun b u xs q=>by rw[c2 (hm b _ q fun z=>z)];exact q,fun b ps q=>⟨#[],by rw[c2 (hm b _ q fun z=>z),q];simp⟩⟩
 by_cases lE:b=e
 ·subst lE;exact qP
 ·exact⟨u,k b u lE q⟩
end
def xm(h:Heap)(H:ag):List Addr:=(List.range h.objs.size).filter fun a=>(H a).isSome
def my(h:Heap)(H:ag):Heap:=PySem.W.hideAll h (xm h H)
theorem OT(h:Heap)(H:ag):(my h H).objs.size=h.objs.size:=PySem.W.hideAll_size _ _
theorem OS{h:Heap}{H:ag}{b:Addr}{o:Obj}(e:h.get? b=some o)(n:H b=none):(my h H).get? b=some o:=
 PySem.W.hideAll_get _ e fun hm=>by have q:(H b).isSome=true:=(List.mem_filter.mp hm).2;rw[n]at q;simp at q
theorem Tn{h:Heap}{H:ag}{b:Addr}{o:Obj}(e:(my h H).get? b=some o):h.get? b=some o∧H b=none:=by
 have b3:h.get? b=some o:=PySem.W.of_hideAll (xm h H) e;refine⟨b3,?_⟩;cases q:H b with
 |none=>rfl
 |some x=>have hm:b∈xm h H:=List.mem_filter.mpr ⟨List.mem_range.mpr (Heap.lt_size b3),by simp[q]⟩;have z:(my h H).get? b=none:=PySem.W.hideAll_none (xm h H) hm;rw[z]at e;cases e
noncomputable def Ls(g h:Heap)(L:Addr):List (Addr×Obj):=(List.range h.objs.size).filterMap fun a=>if a=L∨(g.get? a).isSome=true then none else(h.get? a).map fun o=>(a,o)
def rest(g h:Heap)(L d:Addr):List (Addr×Obj):=(Ls g h L).filter fun p=>decide (p.1≠d)
structure Mod(K:PySem.W.Frag)(mg:Str→Option Value)(base:Heap):Prop where
 lG:K.In base
 glob:base.Ns mainGlobals mg
 blt:∃fm,base.Ns builtinsNs fm∧∀x:Str,x≠"__name__"→fm x=bootBuiltins x
 nolimit:base.NoLimit
structure aC where
 prog:Program
 w:World
 K:PySem.W.Frag
 mg:Str→Option Value
 base:Heap
 A:Around
 N:List Str
 eX:Shared
 oJ:ag
 env:Env
 outer:List Env
 stack:List Env
 ex:List Addr
 fn:Str→Bool
 calm:Bool
 n_:List (Addr×Obj)
 xe:Value→Shared→Prop
def d5(l:List Env):List Addr:=l.filterMap (·.frame)
abbrev aC.aP(X:aC):List Addr:=d5 X.outer
noncomputable def gd(sc:Scope)(x:Str):Prop:=sc.names.lookup x=some .local∨sc.names.lookup x=some .cell∨sc.names.lookup x=some .free
def Loc(sc:Scope)(x:Str):Prop:=sc.names.lookup x=some .local∨sc.names.lookup x=some .cell
noncomputable def Look(env:Env)(h:Heap)(m:Str→Option Value)(x:Str)(u:Value):Prop:=
 (env.kindOf x=some .local∧m x=some u)∨((env.kindOf x=some .cell∨env.kindOf x=some .free)∧∃c,env.cells.lookup x=some c∧h.IsCell c (some u))
structure aC.Ok(X:aC):Prop where
 mod:Mod X.K X.mg X.base
 kind:X.env.scope.kind=.function
 glob:X.env.globals=mainGlobals
 blt:X.env.builtins=builtinsNs
 above:X.eX.heap.objs.size≤X.env.locals
 inj:∀x y c,X.env.cells.lookup x=some c→X.env.cells.lookup y=some c→x=y
 has:∀x,(X.env.kindOf x=some .cell∨X.env.kindOf x=some .free)→∃c,X.env.cells.lookup x=some c
 qD:∀x c,X.fn x=true→X.env.cells.lookup x=some c→X.eX.heap.objs.size≤c
 hd:X.calm=true→X.A.handled=none
 frames:X.A.frames=some X.stack
 tO:X.stack=X.outer∨(X.stack=X.env::X.outer∧X.env.frame=some X.env.locals)
 zf:∀b∈X.ex,b≠X.env.locals∧∀x c,X.env.cells.lookup x=some c→c≠b
 bs:∀b o,X.base.get? b=some o→X.eX.heap.get? b=some o∧X.oJ b=none
 mn:X.base.objs.size≤X.eX.heap.objs.size
 n9:∀b o,X.base.get? b=some o→b∉X.ex
 sl:∀b∈X.ex,b∉X.aP
 iH:X.eX.heap.FunFrames X.base X.outer
 nB:∀b∈X.aP,X.oJ b=none
structure Inv(X:aC)(pins:List (Addr×Obj))(σ :List (Option V))(H:ag)(s:Shared):Prop where
 ok:X.Ok
 os:s.os=X.eX.os
 bare:AllBare s.gens
 base:eZ X.aP X.ex X.oJ H X.eX.heap s.heap
 loc:∃m,s.heap.Ns X.env.locals m∧∀(i:Nat)(x:Str)(v:V),X.N[i]?=some x→ σ[i]?=some (some v)→gd X.env.scope x→∃u,RelV v u∧Look X.env s.heap m x u
 cell:∀x c,X.env.cells.lookup x=some c→∃v,s.heap.IsCell c v
 free:H X.env.locals=none
 i9:∀x c,X.env.cells.lookup x=some c→H c=none
 pin:∀p∈X.n_++pins,s.heap.get? p.1=some p.2∧H p.1=none∧p.1≠X.env.locals∧p.1∉X.aP∧∀v,p.2.data≠.cell v
 br:d2 X.prog X.w H s.heap
 len: σ.length=X.N.length
section
variable{X:aC}{pins:List (Addr×Obj)}{σ :List (Option V)}{H H':ag}{s:Shared}{h':Heap}
theorem aC.Ok.S2(ok:X.Ok){b:Addr}{o:Obj}(e:X.base.get? b=some o):b∉X.aP:=fun hb=>by have:=(ok.iH.mem hb).1;rw[e]at this;cases this
theorem Inv.bs(I:Inv X pins σ H s):∀b o,X.base.get? b=some o→s.heap.get? b=some o∧H b=none:=fun b o e=>
 ⟨I.base.keep b o (I.ok.bs b o e).1 (I.ok.bs b o e).2 (I.ok.S2 e) (I.ok.n9 b o e),I.base.free b o (I.ok.bs b o e).1 (I.ok.bs b o e).2 (I.ok.n9 b o e)⟩
theorem Inv.ez(I:Inv X pins σ H s):∀b o,X.base.get? b=some o→s.heap.get? b=some o:=fun b o e=>(I.bs b o e).1
theorem Inv.mod(I:Inv X pins σ H s):Mod X.K X.mg X.base:=I.ok.mod
theorem Inv.eC(I:Inv X pins σ H s):X.K.In s.heap:=I.ok.mod.lG.keeps I.ez
theorem Inv.lt(I:Inv X pins σ H s):X.env.locals<s.heap.objs.size:=let⟨_,aE,_⟩:=I.loc;aE.lt
theorem Inv.pZ(I:Inv X pins σ H s):X.eX.heap.objs.size≤s.heap.objs.size:=Nat.le_trans I.ok.above (Nat.le_of_lt I.lt)
theorem Inv.S4(I:Inv X pins σ H s){a:Addr}(h:s.heap.objs.size≤a):a∉X.aP:=fun hb=>by obtain⟨_,o,ho,_⟩:=I.ok.iH.mem hb;exact absurd (Nat.lt_of_lt_of_le (Heap.lt_size ho) (Nat.le_trans I.pZ h)) (Nat.lt_irrefl _)
theorem Inv.nv(I:Inv X pins σ H s):∀x c,X.env.cells.lookup x=some c→c≠X.env.locals:=fun x c e z=>by obtain⟨v,o,ho,hd⟩:=I.cell x c e;obtain⟨m,⟨bz,es,cH,ho',jb,_⟩,_⟩:=I.loc;rw[z,ho']at ho;cases ho;rw[jb]at hd;cases hd
theorem Inv.iH(I:Inv X pins σ H s):s.heap.FunFrames X.base X.outer:=by
 have all:∀(l:List Env),(∀b∈d5 l,b∈X.aP)→X.eX.heap.FunFrames X.base l→s.heap.FunFrames X.base l:=by
  intro l;induction l with
  |nil=>intro _ _;trivial
  |cons env r bW=>intro hs hl;obtain⟨hk,⟨L,o,hf,aE,ho,hd⟩,hr⟩:=hl;have fj:L∈X.aP:=hs L (by unfold d5;rw[List.filterMap_cons,hf];exact List.mem_cons_self);obtain⟨cw,e⟩:=I.base.slot L o ho (I.ok.nB L fj) fj fun z=>I.ok.sl L z fj;exact⟨hk,⟨L,_,hf,aE,e,hd⟩,bW (fun b hb=>hs b (by unfold d5;rw[List.filterMap_cons,hf];exact List.mem_cons_of_mem _ hb)) hr⟩
 exact all X.outer (fun _ hb=>hb) I.ok.iH
theorem Inv.stack(I:Inv X pins σ H s):s.heap.FunFrames X.base X.stack:=by
 rcases I.ok.tO with e|⟨e,hf⟩
 ·rw[e];exact I.iH
 ·rw[e];obtain⟨m,aE,_⟩:=I.loc;refine .cons (by rw[I.ok.kind];decide) hf aE ?_ I.iH;exact Heap.get?_none_of_le (Nat.le_trans I.ok.mn I.ok.above)
theorem Inv.w8(I:Inv X pins σ H s):∀b∈d5 X.stack,b∈X.env.locals::X.aP:=fun b hb=>by
 rcases I.ok.tO with e|⟨e,hf⟩
 ·rw[e]at hb;exact List.mem_cons_of_mem _ hb
 ·rw[e]at hb;unfold d5 at hb;rw[List.filterMap_cons,hf]at hb;exact hb
theorem Inv.BP(I:Inv X pins σ H s):∀b∈d5 X.stack,H b=none:=fun b hb=>by
 rcases List.mem_cons.mp (I.w8 b hb)with e|hb
 ·rw[e];exact I.free
 ·obtain⟨_,o,ho,_⟩:=I.ok.iH.mem hb;exact I.base.free b o ho (I.ok.nB b hb) fun z=>I.ok.sl b z hb
theorem Inv.step{g':Array GenState}{t':Nat}{d':Drawn}{ch:List Addr}(I:Inv X pins σ H s)(lF:∀b∈ch,(b∈X.ex∨X.eX.heap.objs.size≤b)∧b≠X.env.locals∧(∀x c,X.env.cells.lookup x=some c→c≠b)∧∀p∈X.n_++pins,p.1≠b)(keep:∀b o,b≠X.env.locals→b∉X.aP→b∉ch→s.heap.get? b=some o→H b=none→h'.get? b=some o)(slot:∀b o,b≠X.env.locals→b∈X.aP→b∉ch→s.heap.get? b=some o→H b=none→∃cw,h'.get? b=some { o with slots:=cw })(free:∀b o,b∉ch→s.heap.get? b=some o→H b=none→H' b=none)(there:∀b o,b∉ch→s.heap.get? b=some o→∃bz,h'.get? b=some bz)(hj:∀b xs,H b=some (.tup xs)→H' b=some (.tup xs))(gR:∀b o u,H b=some (.ju o u)→H' b=some (.ju o u))(g_:∀b ps,H b=some (.ot ps)→∃more,H' b=some (.ot (ps++more)))(ns:∀m,s.heap.Ns X.env.locals m→h'.Ns X.env.locals m)(br:d2 X.prog X.w H' h')(hg:AllBare g') :
  Inv X pins σ H' { s with heap:=h',gens:=g',drawn:=d',toks:=t' }:=by
 have Hq:∀b o,X.eX.heap.get? b=some o→b≠X.env.locals:=fun b o e=>Nat.ne_of_lt (Nat.lt_of_lt_of_le (Heap.lt_size e) I.ok.above);have wy:∀b o,X.eX.heap.get? b=some o→b∉X.ex→b∉ch:=fun b o e hx hb=>by
  rcases(lF b hb).1 with z|z
  ·exact hx z
  ·exact absurd (Nat.lt_of_lt_of_le (Heap.lt_size e) z) (Nat.lt_irrefl _)
 have cellK:∀x c,X.env.cells.lookup x=some c→∀v,s.heap.IsCell c v→h'.IsCell c v:=fun x c e v⟨o,ho,hd⟩=>by
  have tw:c∉ch:=fun z=>(lF c z).2.2.1 x c e rfl;by_cases hc:c∈X.aP
  ·obtain⟨cw,q⟩:=slot c o (I.nv x c e) hc tw ho (I.i9 x c e);exact⟨_,q,hd⟩
  ·exact⟨o,keep c o (I.nv x c e) hc tw ho (I.i9 x c e),hd⟩
 refine⟨I.ok,I.os,hg,⟨fun b o e n hb hx=>?_,fun b o e n hb hx=>?_,fun b o e n hx=>?_,fun b o e hx=>?_,fun b xs e=>hj b xs (I.base.hj b xs e),fun b o xs e=>gR b o xs (I.base.gR b o xs e),fun b ps e=>?_⟩,?_,fun x c e=>?_,?_,fun x c e=>?_,fun p hp=>?_,br,I.len⟩
 ·exact keep b o (Hq b o e) hb (wy b o e hx) (I.base.keep b o e n hb hx) (I.base.free b o e n hx)
 ·obtain⟨cw,ak⟩:=I.base.slot b o e n hb hx;obtain⟨BL,ay⟩:=slot b _ (Hq b o e) hb (wy b o e hx) ak (I.base.free b o e n hx);exact⟨BL,ay⟩
 ·obtain⟨bz,ak⟩:=I.base.there b o e hx;exact free b bz (wy b o e hx) ak (I.base.free b o e n hx)
 ·obtain⟨bz,ak⟩:=I.base.there b o e hx;exact there b bz (wy b o e hx) ak
 ·obtain⟨m1,ak⟩:=I.base.g_ b ps e;obtain⟨m2,ay⟩:=g_ b _ ak;exact⟨m1++m2,by rw[ay,Array.append_assoc]⟩
 ·obtain⟨m,aE,hl⟩:=I.loc;refine⟨m,ns m aE,fun i x v ak ay b4=>?_⟩;obtain⟨u,r,l⟩:=hl i x v ak ay b4;refine⟨u,r,?_⟩;rcases l with l|⟨k,c,e,z⟩
  ·exact .inl l
  ·exact .inr ⟨k,c,e,cellK x c e _ z⟩
 ·obtain⟨v,z⟩:=I.cell x c e;exact⟨v,cellK x c e v z⟩
 ·obtain⟨m,⟨o,_,_,ho,_⟩,_⟩:=I.loc;exact free _ o (fun z=>(lF _ z).2.1 rfl) ho I.free
 ·obtain⟨v,o,ho,hd⟩:=I.cell x c e;exact free c o (fun z=>(lF c z).2.2.1 x c e rfl) ho (I.i9 x c e)
 ·obtain⟨e,n,ne,gr,d⟩:=I.pin p hp;have tw:p.1∉ch:=fun z=>(lF p.1 z).2.2.2 p hp rfl;exact⟨keep p.1 p.2 ne gr tw e n,free p.1 p.2 tw e n,ne,gr,d⟩
theorem Inv.un{t':Nat}(I:Inv X pins σ H s)(u:eZ X.aP [] H H' s.heap h')(br:d2 X.prog X.w H' h'):Inv X pins σ H' { s with heap:=h',toks:=t' }:=by
 obtain⟨m,⟨o,es,cH,ho,r⟩,_⟩:=id I.loc;obtain⟨cw,fj⟩:=u.any ho I.free (by simp);exact I.step (g':=s.gens) (d':=s.drawn) (ch:=[]) (fun _ z=>nomatch z) (fun b o _ hb _ e n=>u.keep b o e n hb (by simp)) (fun b o _ hb _ e n=>u.slot b o e n hb (by simp)) (fun b o _ e n=>u.free b o e n (by simp)) (fun b o _ e=>u.there b o e (by simp)) u.hj u.gR u.g_ (fun cR hm=>by obtain⟨bz,es',pf,ho',a8⟩:=hm;rw[ho]at ho';cases ho';exact⟨_,es',pf,fj,a8⟩) br I.bare
theorem Inv.call{g':Array GenState}{t':Nat}{d':Drawn}{ch:List Addr}(I:Inv X pins σ H s)(u:eZ (d5 X.stack) ch H H' s.heap h')(br:d2 X.prog X.w H' h')(hg:AllBare g')(lF:∀b∈ch,(b∈X.ex∨X.eX.heap.objs.size≤b)∧b≠X.env.locals∧(∀x c,X.env.cells.lookup x=some c→c≠b)∧∀p∈X.n_++pins,p.1≠b) :
  Inv X pins σ H' { s with heap:=h',gens:=g',drawn:=d',toks:=t' }:=by
 obtain⟨m,⟨o,es,cH,ho,r⟩,_⟩:=id I.loc;obtain⟨cw,fj⟩:=u.any ho I.free fun z=>(lF _ z).2.1 rfl;exact I.step (ch:=ch) lF (fun b o fj hb hc e n=>u.keep b o e n (fun z=>(List.mem_cons.mp (I.w8 b z)).elim fj hb) hc) (fun b o _ _ hc e n=>u.any e n hc) (fun b o hc e n=>u.free b o e n hc) (fun b o hc e=>u.there b o e hc) u.hj u.gR u.g_ (fun cR hm=>by obtain⟨bz,es',pf,ho',a8⟩:=hm;rw[ho]at ho';cases ho';exact⟨_,es',pf,fj,a8⟩) br hg
theorem Inv.turned{t':Nat}{it:Addr}(I:Inv X pins σ H s)(k:∀b o,b≠it→s.heap.get? b=some o→h'.get? b=some o)(aE:H it=none)(fj:it≠X.env.locals)(h1:it∈X.ex∨X.eX.heap.objs.size≤it)(h2:∀x c,X.env.cells.lookup x=some c→c≠it)(h3:∀p∈X.n_++pins,p.1≠it):Inv X pins σ H { s with heap:=h',toks:=t' }:=by
 have n8:∀b u,H b=some u→b≠it:=fun b u e z=>by rw[z,aE]at e;cases e
 refine I.step (g':=s.gens) (d':=s.drawn) (ch:=[it]) (fun b hb=>?_) (fun b o _ _ hc e _=>k b o (fun z=>hc (by simp[z])) e) (fun b o _ _ hc e _=>⟨o.slots,k b o (fun z=>hc (by simp[z])) e⟩) (fun _ _ _ _ n=>n)
  (fun b o hc e=>⟨o,k b o (fun z=>hc (by simp[z])) e⟩) (fun _ _ e=>e) (fun _ _ _ e=>e) (fun b ps e=>⟨#[],by rw[e];simp⟩) (fun m hm=>?_) (fun b u e=>?_) I.bare
 ·have e:b=it:=by simpa using hb
  subst e;exact⟨h1,fj,h2,h3⟩
 ·obtain⟨o,es,cH,ho,r⟩:=hm;exact⟨o,es,cH,k _ o (Ne.symm fj) ho,r⟩
 ·refine(I.br b u e).kU (fun c v hc q=>k c v ?_ q) (fun _ q=>q) fun _ _ q=>q;rcases hc with z|z
  ·rw[z];exact n8 b u e
  ·exact n8 c _ z
theorem Inv.tok(I:Inv X pins σ H s)(t:Nat):Inv X pins σ H { s with toks:=t }:=I.un (h':=s.heap) (t':=t) eZ.refl I.br
theorem Inv.kept{t':Nat}(I:Inv X pins σ H s)(k:∀b u,s.heap.get? b=some u→h'.get? b=some u):Inv X pins σ H { s with heap:=h',toks:=t' }:=I.un (eZ.kept k) (I.br.kept k)
theorem Inv.laid{a:Addr}{o:du}{t':Nat}(I:Inv X pins σ H s)(k:∀b u,s.heap.get? b=some u→h'.get? b=some u)(hp:s.heap.objs.size≤a)(new:eI X.prog X.w (upd H a o) h' a o) :
  Inv X pins σ (upd H a o) { s with heap:=h',toks:=t' }:=I.un (eZ.laid k hp (I.br.fresh hp)) (I.br.laid k hp new)
theorem Inv.write{x e:Addr}{o:du}{t':Nat}(I:Inv X pins σ H s)(jh:rU (H x))(he:e=x∨H e=some (.own x))(k:∀b u,b≠e→s.heap.get? b=some u→h'.get? b=some u)(qP:∃u,h'.get? e=some u)(new:eI X.prog X.w (upd H x o) h' x o):Inv X pins σ (upd H x o) { s with heap:=h',toks:=t' }:=I.un (eZ.write jh he k qP) (I.br.write jh he k qP new)
theorem Inv.H4{H3:List (Addr×Obj)}(I:Inv X pins σ H s)(h:∀p∈H3,s.heap.get? p.1=some p.2∧H p.1=none∧p.1≠X.env.locals∧p.1∉X.aP∧∀v,p.2.data≠.cell v):Inv X H3 σ H s:=
 ⟨I.ok,I.os,I.bare,I.base,I.loc,I.cell,I.free,I.i9,fun p hp=>(List.mem_append.mp hp).elim (fun z=>I.pin p (List.mem_append_left _ z)) (h p),I.br,I.len⟩
theorem An{N:List Str}(hN:N.Nodup){i j:Nat}{x:Str}(a:N[i]?=some x)(b:N[j]?=some x):i=j:=by obtain⟨h1,ak⟩:=List.getElem?_eq_some_iff.mp a;obtain⟨h2,ay⟩:=List.getElem?_eq_some_iff.mp b;exact(List.getElem_inj hN).mp (ak.trans ay.symm)
theorem Jm{M:Model}{A:Around}{E:Value→Shared→Prop}{i:Nat}{x:Str}{v:V}{u:Value}{Q:Unit→Shared→Prop}(I:Inv X pins σ H s)(hN:X.N.Nodup)(hi:X.N[i]?=some x)(hx:Loc X.env.scope x)(r:RelV v u)(h:∀s',Inv X pins (σ.set i (some v)) H s'→(∃a,Heap.SameBut a s.heap s'.heap∧(a=X.env.locals∨X.env.cells.lookup x=some a))→Q () s')(hf:X.fn x=true∨X.env.scope.names.lookup x=some .local:=by first|exact .inl rfl|exact .inr rfl|assumption):wpAny M A (storeName X.env x u) Q E s:=by
 obtain⟨m,aE,hl⟩:=id I.loc;have OH:(X.env.scope.kind==.class||(X.env.scope.kind==.module&&X.env.locals !=X.env.globals))=false:=by rw[I.ok.kind];rfl
 have hiσ :i< σ.length:=by rw[I.len];exact(List.getElem?_eq_some_iff.mp hi).1
 have nv:=I.nv;have tracked:∀{a:Addr}{h':Heap},(∃o,s.heap.get? a=some o∧H a=none)→Heap.SameBut a s.heap h'→d2 X.prog X.w H h':=fun{a h'} ha hs b aV e=>by
  obtain⟨_,_,vG⟩:=ha;refine(I.br b aV e).kU (fun c eY hc q=>(hs.2 c ?_).trans q) (fun _ q=>q) fun _ _ q=>q;rintro rfl;rcases hc with rfl|hc
  ·rw[vG]at e;cases e
  ·rw[vG]at hc;cases hc
 rcases hx with hk|hk
 ·refine wpAny_storeName_local hk aE (fun h' sN hs=>?_) OH;obtain⟨Tc,_,_,Pc,_⟩:=id aE;refine h _ ⟨I.ok,I.os,I.bare,⟨fun b o e n hb hx=>?_,fun b o e n hb hx=>?_,I.base.free,fun b o e hx=>?_,I.base.hj,I.base.gR,I.base.g_⟩,⟨_,sN,fun j y lY ak ay b4=>?_⟩,fun y c e=>?_,I.free,I.i9,fun p hp=>?_,tracked ⟨Tc,Pc,I.free⟩ hs,by simpa using I.len⟩ ⟨_,hs,.inl rfl⟩
  ·exact(hs.2 b (Nat.ne_of_lt (Nat.lt_of_lt_of_le (Heap.lt_size e) I.ok.above))).trans (I.base.keep b o e n hb hx)
  ·obtain⟨cw,ak⟩:=I.base.slot b o e n hb hx;exact⟨cw,(hs.2 b (Nat.ne_of_lt (Nat.lt_of_lt_of_le (Heap.lt_size e) I.ok.above))).trans ak⟩
  ·obtain⟨bz,ak⟩:=I.base.there b o e hx;exact⟨bz,(hs.2 b (Nat.ne_of_lt (Nat.lt_of_lt_of_le (Heap.lt_size e) I.ok.above))).trans ak⟩
  ·by_cases cv:j=i
   ·subst cv;rw[hi]at ak;cases ak;rw[List.getElem?_set_self hiσ]at ay;cases ay;exact⟨u,r,.inl ⟨hk,by simp⟩⟩
   ·rw[List.getElem?_set_ne (Ne.symm cv)]at ay;obtain⟨iq,a8,q⟩:=hl j y lY ak ay b4;refine⟨iq,a8,?_⟩;rcases q with⟨k,e⟩|⟨k,c,e,z⟩
    ·refine .inl ⟨k,?_⟩;have:y≠x:=fun e=>cv (An hN ak (e▸hi));simp[this,e]
    ·exact .inr ⟨k,c,e,z.sameBut hs (nv y c e)⟩
  ·obtain⟨eY,z⟩:=I.cell y c e;exact⟨eY,z.sameBut hs (nv y c e)⟩
  ·obtain⟨e,n,ne,gr,d⟩:=I.pin p hp;exact⟨(hs.2 p.1 ne).trans e,n,ne,gr,d⟩
 ·have zF:X.fn x=true:=by
    rcases hf with z|z
    ·exact z
    ·rw[z]at hk;cases hk
  obtain⟨c,hc⟩:=I.ok.has x (.inl hk);obtain⟨eY,z⟩:=I.cell x c hc;refine wpAny_storeName_cell I.ok.kind hk hc z (fun h' vE hs=>?_);obtain⟨eV,F2,Pf⟩:=id z;refine h { s with heap:=h' } ⟨I.ok,I.os,I.bare,⟨fun b o e n hb hx=>?_,fun b o e n hb hx=>?_,I.base.free,fun b o e hx=>?_,I.base.hj,I.base.gR,I.base.g_⟩,⟨m,aE.sameBut hs (Ne.symm (nv x c hc)),fun j y lY ak ay b4=>?_⟩,fun y d8 e=>?_,I.free,I.i9,fun p hp=>?_,tracked ⟨eV,F2,I.i9 x c hc⟩ hs,by simpa using I.len⟩ ⟨c,hs,.inr hc⟩
  ·exact(hs.2 b (Nat.ne_of_lt (Nat.lt_of_lt_of_le (Heap.lt_size e) (I.ok.qD x c zF hc)))).trans (I.base.keep b o e n hb hx)
  ·obtain⟨cw,ak⟩:=I.base.slot b o e n hb hx;exact⟨cw,(hs.2 b (Nat.ne_of_lt (Nat.lt_of_lt_of_le (Heap.lt_size e) (I.ok.qD x c zF hc)))).trans ak⟩
  ·obtain⟨bz,ak⟩:=I.base.there b o e hx;exact⟨bz,(hs.2 b (Nat.ne_of_lt (Nat.lt_of_lt_of_le (Heap.lt_size e) (I.ok.qD x c zF hc)))).trans ak⟩
  ·by_cases cv:j=i
   ·subst cv;rw[hi]at ak;cases ak;rw[List.getElem?_set_self hiσ]at ay;cases ay;exact⟨u,r,.inr ⟨.inl hk,c,hc,vE⟩⟩
   ·rw[List.getElem?_set_ne (Ne.symm cv)]at ay;obtain⟨iq,a8,q⟩:=hl j y lY ak ay b4;refine⟨iq,a8,?_⟩;rcases q with q|⟨k,d8,e,f6⟩
    ·exact .inl q
    ·refine .inr ⟨k,d8,e,f6.sameBut hs ?_⟩;rintro rfl;exact cv (An hN ak (I.ok.inj _ _ _ e hc▸hi))
  ·by_cases sF:d8=c
   ·subst sF;exact⟨_,vE⟩
   ·obtain⟨iu,aZ⟩:=I.cell y d8 e;exact⟨iu,aZ.sameBut hs sF⟩
  ·obtain⟨e,n,ne,gr,d⟩:=I.pin p hp;refine⟨(hs.2 p.1 ?_).trans e,n,ne,gr,d⟩;intro q;rw[q,F2]at e;have cV:eV=p.2:=Option.some.inj e;exact d eY (by rw[←cV];exact Pf)
theorem BQ{M:Model}{A:Around}{E:Value→Shared→Prop}{i:Nat}{x:Str}{v:V}{u:Value}{Q:Unit→Shared→Prop}(I:Inv X pins σ H s)(hN:X.N.Nodup)(hi:X.N[i]?=some x)(hx:Loc X.env.scope x)(r:RelV v u)(h:∀s',Inv X pins (σ.set i (some v)) H s'→Q () s')(hf:X.fn x=true∨X.env.scope.names.lookup x=some .local:=by first|exact .inl rfl|exact .inr rfl|assumption):wpAny M A (storeName X.env x u) Q E s:=
 Jm I hN hi hx r (fun s' hT _=>h s' hT) hf
theorem Inv.DQ{s':Shared}{ch:List Addr}(I:Inv X pins σ H s)(ho:s'.os=s.os)(u:eZ (d5 X.stack) ch H H' s.heap s'.heap)(br:d2 X.prog X.w H' s'.heap)(hg:AllBare s'.gens)(lF:∀b∈ch,(b∈X.ex∨X.eX.heap.objs.size≤b)∧b≠X.env.locals∧(∀x c,X.env.cells.lookup x=some c→c≠b)∧∀p∈X.n_++pins,p.1≠b):Inv X pins σ H' s':=by obtain⟨h',g',d',t',bz⟩:=s';have e:bz=s.os:=ho;subst e;exact I.call (g':=g') (t':=t') (d':=d') u br hg lF
end
abbrev cO:=Value→Option Addr→ag→Prop
abbrev St:=List (Option V)
abbrev cj:=V→ag→Prop
abbrev TE:=St→ag→cj→Prop
abbrev TT:=St→ag→(Bool→ag→Prop)→Prop
abbrev eK:=St→ag→(List V→ag→Prop)→Prop
structure Ends where
 bk:St→ag→Prop
 dG:cj
 ez:St→ag→Prop:=fun _ _=>False
 ck:St→ag→Prop:=fun _ _=>False
abbrev eL:=Ends→St→ag→Prop
noncomputable def fu(X:aC)(pins:List (Addr×Obj))(σ :St)(Q:cj)(u:Value)(s':Shared):Prop:=∃v H',Inv X pins σ H' s'∧RelV v u∧Q v H'
noncomputable def uF(X:aC)(pins:List (Addr×Obj))(σ :St)(Q:Bool→ag→Prop)(b:Bool)(s':Shared):Prop:=∃H',Inv X pins σ H' s'∧Q b H'
noncomputable def KW(X:aC)(pins:List (Addr×Obj))(σ :St)(Q:List V→ag→Prop)(us:List Value)(s':Shared):Prop:=∃vs H',Inv X pins σ H' s'∧Vals vs us∧Q vs H'
noncomputable def oS(X:aC)(pins:List (Addr×Obj))(D:Ends)(f:Flow)(s':Shared):Prop:=
 match f with
 |.next=>∃ σ' H',Inv X pins σ' H' s'∧D.bk σ' H'
 |.brk=>∃ σ' H',Inv X pins σ' H' s'∧D.ez σ' H'
 |.cont=>∃ σ' H',Inv X pins σ' H' s'∧D.ck σ' H'
 |.ret u=>∃v σ' H',Inv X pins σ' H' s'∧RelV v u∧D.dG v H'
noncomputable def aT(X:aC)(e:Expr)(t:TE):Prop:=
 ∀(pins:List (Addr×Obj))(s:Shared)(σ :St)(H:ag)(Q:cj),Inv X pins σ H s→t σ H Q→wpAny (model X.prog X.w) X.A (eval e X.env) (fu X pins σ Q) X.xe s
noncomputable def eR(X:aC)(e:Expr)(t:TT):Prop:=
 ∀(pins:List (Addr×Obj))(s:Shared)(σ :St)(H:ag)(Q:Bool→ag→Prop),Inv X pins σ H s→t σ H Q→wpAny (model X.prog X.w) X.A (isTrue e X.env (eval e X.env)) (uF X pins σ Q) X.xe s
noncomputable def hW(X:aC)(e:Expr)(t:TT):Prop:=
 ∀(whole:Sem Value)(pins:List (Addr×Obj))(s:Shared)(σ :St)(H:ag)(Q:Bool→ag→Prop),Inv X pins σ H s→t σ H Q→wpAny (model X.prog X.w) X.A (isTrue e X.env whole) (uF X pins σ Q) X.xe s
theorem hW.pt{X:aC}{e:Expr}{t:TT}(h:hW X e t):eR X e t:=h _
noncomputable def eJ(X:aC)(es:List Expr)(t:eK):Prop:=
 ∀(pos:Pos)(pins:List (Addr×Obj))(s:Shared)(σ :St)(H:ag)(Q:List V→ag→Prop),Inv X pins σ H s→t σ H Q→wpAny (model X.prog X.w) X.A (spliced (backTo pos (starEach es X.env))) (KW X pins σ Q) X.xe s
noncomputable def c7(X:aC)(st:Stmt)(t:eL):Prop:=
 ∀(pins:List (Addr×Obj))(s:Shared)(σ :St)(H:ag)(D:Ends),Inv X pins σ H s→t D σ H→wpAny (model X.prog X.w) X.A (exec st X.env) (oS X pins D) X.xe s
noncomputable def fF(X:aC)(st:List Stmt)(t:eL):Prop:=
 ∀(pins:List (Addr×Obj))(s:Shared)(σ :St)(H:ag)(D:Ends),Inv X pins σ H s→t D σ H→wpAny (model X.prog X.w) X.A (execs st X.env) (oS X pins D) X.xe s
theorem bF{α:Type}{t:Sem α}{Q mb:α→Shared→Prop}{M:Model}{A:Around}{E:Value→Shared→Prop}{s:Shared}(h:wpAny M A t Q E s)(gj:∀a s,Q a s→mb a s):wpAny M A t mb E s:=wpAny_mono h gj fun _ _ x=>x
section
variable{X:aC}
theorem bin{a b:Expr}{bX tb:TE}(ha:aT X a bX)(hb:aT X b tb){pins:List (Addr×Obj)}{s:Shared}{σ :St}{H:ag}{R:V→V→ag→Prop}(I:Inv X pins σ H s)(h:bX σ H fun x H1=>tb σ H1 fun y aS=>R x y aS){α:Type}{Q:α→Shared→Prop}{f:Value→Value→Sem α}(hf:∀v u s2 x y aS,Inv X pins σ aS s2→RelV x v→RelV y u→R x y aS→wpAny (model X.prog X.w) X.A (f v u) Q X.xe s2) :
  wpAny (model X.prog X.w) X.A (eval a X.env) (fun v cX=>wpAny (model X.prog X.w) X.A (eval b X.env) (fun u kW=>wpAny (model X.prog X.w) X.A (f v u) Q X.xe kW) X.xe cX) X.xe s:=by
 refine bF (ha pins s σ H _ I h) fun v s1⟨x,H1,aL,ar,aM⟩=>?_;refine bF (hb pins s1 σ H1 _ aL aM) fun u s2⟨y,aS,bT,a5,a_⟩=>?_;exact hf v u s2 x y aS bT ar a5 a_
def B2(i:Nat):TE:=fun σ H Q=>∃v,σ[i]?=some (some v)∧Q v H
def oo(v:V):TE:=fun _ H Q=>Q v H
theorem lP{i:Nat}{x:Str}{pos:Pos}(hN:X.N[i]?=some x)(hv:gd X.env.scope x)(hd:(x==("__debug__" :Str))=false:=by decide)(hcd:(x==("__classdict__" :Str))=false:=by decide):aT X (.Name x pos) (B2 i):=by
 intro pins s σ H Q I h;obtain⟨v,e,h⟩:=h;obtain⟨m,aE,hl⟩:=I.loc;obtain⟨u,r,l⟩:=hl i x v hN e hv;have fin:fu X pins σ Q u s:=⟨v,H,I,r,h⟩;rcases l with⟨hk,hm⟩|⟨hk,c,hc,FQ⟩
 ·exact wpAny_Name (wpAny_loadName_local I.ok.kind hk aE hm fin) hd
 ·rcases hk with hk|hk
  ·exact wpAny_Name (wpAny_loadName_cell I.ok.kind hk hc FQ fin) hd
  ·exact wpAny_Name (wpAny_loadName_free I.ok.kind hk hc FQ fin hcd) hd
theorem Ue{i j pos}:aT X (.Constant (.int i) j pos) (oo (.int i)):=fun _ _ _ H _ I h=>wpAny_Constant_int ⟨.int i,H,I.tok _,⟨_,rfl⟩,h⟩
theorem T5{b j pos}:aT X (.Constant (.bool b) j pos) (oo (.au b)):=fun _ _ _ H _ I h=>Constant_bool ⟨.au b,H,I,rfl,h⟩
theorem Ul{j pos}:aT X (.Constant .none j pos) (oo .non):=fun _ _ _ H _ I h=>Constant_none ⟨.non,H,I,rfl,h⟩
theorem Ay{x j pos}:aT X (.Constant (.str x) j pos) (oo (.str x)):=fun _ _ _ H _ I h=>Calls.Constant_str ⟨.str x,H,I.tok _,⟨_,rfl⟩,h⟩
def cy(X:aC)(x:Str):Prop:=X.env.kindOf x=some .globalImplicit
theorem pA{E:Value→Shared→Prop}{pins:List (Addr×Obj)}{s:Shared}{σ :St}{H:ag}{x:Str}{u:Value}{pos:Pos}{Q:Value→Shared→Prop}(I:Inv X pins σ H s)(hg:cy X x)(hm:X.mg x=some u)(h:Q u s)(hd:(x==("__debug__" :Str))=false:=by decide):wpAny (model X.prog X.w) X.A (eval (.Name x pos) X.env) Q E s:=
 Calls.Name_function_global I.ok.kind hg (Calls.loadGlobal_global (by rw[I.ok.glob];exact I.mod.glob.keeps I.ez) hm h) hd
theorem nS{E:Value→Shared→Prop}{pins:List (Addr×Obj)}{s:Shared}{σ :St}{H:ag}{x:Str}{u:Value}{pos:Pos}{Q:Value→Shared→Prop}(I:Inv X pins σ H s)(hg:cy X x)(hm:X.mg x=none)(hv:bootBuiltins x=some u)(h:Q u s)(aE:x≠"__name__":=by decide)(hd:(x==("__debug__" :Str))=false:=by decide):wpAny (model X.prog X.w) X.A (eval (.Name x pos) X.env) Q E s:=by obtain⟨fm,h1,h2⟩:=I.mod.blt;exact Calls.Name_function_global I.ok.kind hg (Calls.loadGlobal_builtin (by rw[I.ok.glob];exact I.mod.glob.keeps I.ez) hm (by rw[I.ok.blt];exact h1.keeps I.ez) ((h2 x aE).trans hv) h) hd
theorem HV{x:Str}{v:V}{u:Value}{pos:Pos}(hg:cy X x)(hm:X.mg x=some u)(r:RelV v u)(hd:(x==("__debug__" :Str))=false:=by decide):aT X (.Name x pos) (oo v):=
 fun _ _ _ H _ I h=>pA I hg hm ⟨v,H,I,r,h⟩ hd
theorem HU{x:Str}{v:V}{u:Value}{pos:Pos}(hg:cy X x)(hm:X.mg x=none)(hv:bootBuiltins x=some u)(r:RelV v u)(aE:x≠"__name__":=by decide)(hd:(x==("__debug__" :Str))=false:=by decide):aT X (.Name x pos) (oo v):=
 fun _ _ _ H _ I h=>nS I hg hm hv ⟨v,H,I,r,h⟩ aE hd
variable{a b:Expr}{bX tb:TE}{pos:Pos}
noncomputable def uC(X:aC)(op:CmpOp)(a b:Expr)(t:TE):Prop:=
 ∀(pins:List (Addr×Obj))(s:Shared)(σ :St)(H:ag)(Q:cj),Inv X pins σ H s→t σ H Q→
  wpAny (model X.prog X.w) X.A (eval a X.env) (fun v cX=>wpAny (model X.prog X.w) X.A (eval b X.env) (fun u kW=>wpAny (model X.prog X.w) X.A (compareOp op v u) (fu X pins σ Q) X.xe kW) X.xe cX) X.xe s
theorem Hu(b:Expr){op:CmpOp}(h:op≠.In)(h2:op≠.NotIn):behindInMarks op b=false:=by
 have ak:(op==CmpOp.In)=false:=by cases op<;>first|rfl|exact absurd rfl h
 have ay:(op==CmpOp.NotIn)=false:=by cases op<;>first|rfl|exact absurd rfl h2
 cases b<;>simp[behindInMarks,ak,ay]
def BU(t:TE):TT:=fun σ H Q=>t σ H fun x H1=>∃c,x=.au c∧Q c H1
theorem T7{op:CmpOp}{t:TE}(h:uC X op a b t)(h1:behindInMarks op b=false:=by first|exact Hu _ (by decide) (by decide)|rfl):aT X (.Compare a [op] [b] pos) t:=fun pins s σ H Q I hw=>wpAny_Compare1 (h pins s σ H Q I hw) h1
theorem Ik{op:CmpOp}{t:TE}(h:uC X op a b t)(h1:behindInMarks op b=false:=by first|exact Hu _ (by decide) (by decide)|rfl):eR X (.Compare a [op] [b] pos) (BU t):=by intro pins s σ H Q I hw;refine wpAny_isTrue_Compare1 (bF (h pins s σ H _ I hw) fun v s1 h1=>bF h1 fun u s2 h2=>bF h2 fun c s3⟨x,H1,aL,ar,aM⟩=>?_) h1;obtain⟨d,rfl,q⟩:=aM;cases ar;exact wpAny_truthy_bool ⟨H1,aL,q⟩
theorem UX{e:Expr}{t:TE}(h:aT X e t)(he:∀whole,isTrue e X.env whole=(do let v ←whole;standAt e.pos;holding [v] (truthy v)):=by intro _;rfl):eR X e (BU t):=by intro pins s σ H Q I hw;refine isTrue_plain (bF (h pins s σ H _ I hw) fun v s1⟨x,H1,aL,ar,aM⟩=>?_) (he _);obtain⟨d,rfl,q⟩:=aM;cases ar;exact wpAny_truthy_bool ⟨H1,aL,q⟩
variable{ee xc:TT}{rest:List Expr}
def Jt(t u:TT):TT:=fun σ H Q=>t σ H fun c H1=>if c=true then u σ H1 Q else Q false H1
def JE(t u:TT):TT:=fun σ H Q=>t σ H fun c H1=>if c=true then Q true H1 else u σ H1 Q
def JC(t:TT):TT:=fun σ H Q=>t σ H fun c H1=>Q (!c) H1
theorem U5(ha:eR X a ee):hW X (.BoolOp .And [a] pos) ee:=by
 intro p5 pins s σ H Q I h;refine isTrue_and (bF (ha pins s σ H Q I h) fun c s1 e=>?_);cases c with
 |true=>exact isTrue_and_nil e
 |false=>exact e
theorem U7(ha:eR X a ee):hW X (.BoolOp .Or [a] pos) ee:=by
 intro p5 pins s σ H Q I h;refine isTrue_or (bF (ha pins s σ H Q I h) fun c s1 e=>?_);cases c with
 |false=>exact isTrue_or_nil e
 |true=>exact e
theorem U4(ha:eR X a ee)(hb:hW X (.BoolOp .And (b::rest) pos) xc):hW X (.BoolOp .And (a::b::rest) pos) (Jt ee xc):=by
 intro p5 pins s σ H Q I h;refine isTrue_and (bF (ha pins s σ H _ I h) fun c s1⟨H1,aL,aM⟩=>?_);cases c with
 |true=>exact hb p5 pins s1 σ H1 Q aL aM
 |false=>exact⟨H1,aL,aM⟩
theorem U6(ha:eR X a ee)(hb:hW X (.BoolOp .Or (b::rest) pos) xc):hW X (.BoolOp .Or (a::b::rest) pos) (JE ee xc):=by
 intro p5 pins s σ H Q I h;refine isTrue_or (bF (ha pins s σ H _ I h) fun c s1⟨H1,aL,aM⟩=>?_);cases c with
 |true=>exact⟨H1,aL,aM⟩
 |false=>exact hb p5 pins s1 σ H1 Q aL aM
theorem UW(ha:eR X a ee):eR X (.UnaryOp .Not a pos) (JC ee):=by intro pins s σ H Q I h;exact isTrue_not (ha pins s σ H (fun c H1=>Q (!c) H1) I h)
noncomputable def Ju(bX tb:TE):TE:=fun σ H Q=>bX σ H fun x H1=>∃c,x=.au c∧if c=true then tb σ H1 Q else Q (.au false) H1
noncomputable def JF(bX tb:TE):TE:=fun σ H Q=>bX σ H fun x H1=>∃c,x=.au c∧if c=true then Q (.au true) H1 else tb σ H1 Q
def JD(bX:TE):TE:=fun σ H Q=>bX σ H fun x H1=>∃c,x=.au c∧Q (.au (!c)) H1
theorem Un{op}{t:TE}(h:aT X a t):aT X (.BoolOp op [a] pos) t:=fun pins s σ H Q I hw=>BoolOp_one (h pins s σ H Q I hw)
theorem T4(ha:aT X a bX)(hb:aT X (.BoolOp .And (b::rest) pos) tb):aT X (.BoolOp .And (a::b::rest) pos) (Ju bX tb):=by
 intro pins s σ H Q I h;refine BoolOp_and (bF (ha pins s σ H _ I h) fun v s1⟨x,H1,aL,ar,aM⟩=>?_);obtain⟨c,rfl,aM⟩:=aM;cases ar;refine wpAny_truthy_bool ?_;cases c with
 |true=>exact hb pins s1 σ H1 Q aL aM
 |false=>exact⟨.au false,H1,aL,rfl,aM⟩
theorem Uo(ha:aT X a bX)(hb:aT X (.BoolOp .Or (b::rest) pos) tb):aT X (.BoolOp .Or (a::b::rest) pos) (JF bX tb):=by
 intro pins s σ H Q I h;refine BoolOp_or (bF (ha pins s σ H _ I h) fun v s1⟨x,H1,aL,ar,aM⟩=>?_);obtain⟨c,rfl,aM⟩:=aM;cases ar;refine wpAny_truthy_bool ?_;cases c with
 |false=>exact hb pins s1 σ H1 Q aL aM
 |true=>exact⟨.au true,H1,aL,rfl,aM⟩
theorem Um(ha:aT X a bX):aT X (.UnaryOp .Not a pos) (JD bX):=by intro pins s σ H Q I h;refine UnaryOp_ (bF (ha pins s σ H _ I h) fun v s1⟨x,H1,aL,ar,aM⟩=>?_);obtain⟨c,rfl,aM⟩:=aM;cases ar;exact not_of (wpAny_truthy_bool ⟨.au (!c),H1,aL,rfl,aM⟩)
def Jz(t:TT)(bX tb:TE):TE:=fun σ H Q=>t σ H fun c H1=>if c=true then bX σ H1 Q else tb σ H1 Q
theorem Ud{c:Expr}(hc:eR X c ee)(ha:aT X a bX)(hb:aT X b tb):aT X (.IfExp c a b pos) (Jz ee bX tb):=by
 intro pins s σ H Q I h;refine wpAny_IfExp (bF (hc pins s σ H _ I h) fun d s1⟨H1,aL,aM⟩=>?_);cases d with
 |true=>exact ha pins s1 σ H1 Q aL aM
 |false=>exact hb pins s1 σ H1 Q aL aM
end
noncomputable def bU(K:PySem.W.Frag)(H:ag)(a:Addr)(xs:List V):Prop:=
 gb H a (.lst xs)∨
  ∃(o:Obj)(its:Array Value)(n:Nat),K.lookup a=some o∧o.cls=.type "list"∧o.dict=none∧o.data=.seq its n∧its.size≤sizeLine∧Vals xs its.toList
noncomputable def cK(K:PySem.W.Frag)(H:ag)(a:Addr)(xs:List V):Prop:=
 gb H a (.tup xs)∨
  ∃(o:Obj)(its:Array Value)(n:Nat),K.lookup a=some o∧o.cls=.type "tuple"∧o.data=.seq its n∧its.size≤sizeLine∧Vals xs its.toList
noncomputable def Ll:Value→Option V
 |.none=>some .non
 |.bool b=>some (.au b)
 |.int i _=>some (.int i)
 |.str x _=>some (.str x)
 |.bytes b _=>some (.lu b)
 |.float b _=>some (.vq b)
 |.ref a=>some (.ref a)
 |.type n=>some (.ty n)
 |_=>none
theorem RelV.abs{x:V}{u:Value}(r:RelV x u):Ll u=some x:=by
 cases x with
 |non=>cases r;rfl
 |au _=>cases r;rfl
 |int _=>obtain⟨t,rfl⟩:=r;rfl
 |str _=>obtain⟨t,rfl⟩:=r;rfl
 |lu _=>obtain⟨t,rfl⟩:=r;rfl
 |vq _=>obtain⟨t,rfl⟩:=r;rfl
 |ref _=>cases r;rfl
 |ty _=>cases r;rfl
theorem RelV.inj{x y:V}{u:Value}(r:RelV x u)(q:RelV y u):x=y:=Option.some.inj (r.abs.symm.trans q.abs)
theorem Vals.inj:∀{xs ys:List V}{us:List Value},Vals xs us→Vals ys us→xs=ys
 |_,_,_,.nil,.nil=>rfl
 |_,_,_,.cons r t,.cons a8 t'=>by rw[r.inj a8,Vals.inj t t']
section
variable{X:aC}{pins:List (Addr×Obj)}{σ :St}{H:ag}{s:Shared}{a:Addr}{xs ys:List V}
theorem bU.of{K:PySem.W.Frag}(h:H a=some (.lst xs)):bU K H a xs:=.inl (.inl h)
theorem cK.of{K:PySem.W.Frag}(h:H a=some (.tup xs)):cK K H a xs:=.inl (.inl h)
theorem Inv.list(I:Inv X pins σ H s)(h:bU X.K H a xs):∃its:List Value,Vals xs its∧PlainL s.heap a its.toArray∧xs.length≤sizeLine:=by
 rcases h with h|⟨o,its,n,hk,hc,hd,hs,bq,r⟩
 ·obtain⟨z,its,n,r,e⟩:=h.ok I.br;exact⟨its,r,⟨_,n,e,rfl,rfl,rfl⟩,z⟩
 ·refine⟨its.toList,r,⟨o,n,I.eC a o hk,hc,hd,by simpa using hs⟩,?_⟩;have e:=r.length;simp only[Array.length_toList]at e;omega
theorem Inv.tuple(I:Inv X pins σ H s)(h:cK X.K H a xs):∃its:List Value,Vals xs its∧IsTup s.heap a its.toArray∧xs.length≤sizeLine:=by
 rcases h with h|⟨o,its,n,hk,hc,hs,bq,r⟩
 ·obtain⟨z,its,r,p⟩:=h.ok I.br;exact⟨its,r,p,z⟩
 ·refine⟨its.toList,r,⟨o,I.eC a o hk,hc,n,by simpa using hs⟩,?_⟩;have e:=r.length;simp only[Array.length_toList]at e;omega
theorem Inv.z9(I:Inv X pins σ H s)(h:bU X.K H a xs)(h':bU X.K H a ys):xs=ys:=by
 obtain⟨its,r,⟨o,n,e,_,_,d⟩,_⟩:=I.list h;obtain⟨its',a8,⟨bz,ts,b3,_,_,d'⟩,_⟩:=I.list h';rw[e]at b3;cases b3;rw[d]at d';injection d' with d1 _;have:its=its':=by simpa using congrArg Array.toList d1
 subst this;exact r.inj a8
theorem Inv.B9(I:Inv X pins σ H s)(h:cK X.K H a xs)(h':cK X.K H a ys):xs=ys:=by
 obtain⟨its,r,⟨o,e,_,n,d⟩,_⟩:=I.tuple h;obtain⟨its',a8,⟨bz,b3,_,ts,d'⟩,_⟩:=I.tuple h';rw[e]at b3;cases b3;rw[d]at d';injection d' with d1 _;have:its=its':=by simpa using congrArg Array.toList d1
 subst this;exact r.inj a8
end
abbrev aC.hQ(X:aC)(E:Value→Shared→Prop):aC:={ X with xe:=E }
abbrev aC.fo(X:aC):aC:=X.hQ fun _ _=>False
theorem aC.Ok.hQ{X:aC}(ok:X.Ok)(E:Value→Shared→Prop):(X.hQ E).Ok:=
 ⟨ok.mod,ok.kind,ok.glob,ok.blt,ok.above,ok.inj,ok.has,ok.qD,ok.hd,ok.frames,ok.tO,ok.zf,ok.bs,ok.mn,ok.n9,ok.sl,ok.iH,ok.nB⟩
theorem aC.Ok.gI{X:aC}{E:Value→Shared→Prop}(ok:(X.hQ E).Ok):X.Ok:=
 ⟨ok.mod,ok.kind,ok.glob,ok.blt,ok.above,ok.inj,ok.has,ok.qD,ok.hd,ok.frames,ok.tO,ok.zf,ok.bs,ok.mn,ok.n9,ok.sl,ok.iH,ok.nB⟩
section
variable{X:aC}{pins:List (Addr×Obj)}{σ :St}{H:ag}{s:Shared}{E:Value→Shared→Prop}
theorem Inv.hQ(I:Inv X pins σ H s)(E:Value→Shared→Prop):Inv (X.hQ E) pins σ H s:=⟨I.ok.hQ E,I.os,I.bare,I.base,I.loc,I.cell,I.free,I.i9,I.pin,I.br,I.len⟩
theorem Inv.gI(I:Inv (X.hQ E) pins σ H s):Inv X pins σ H s:=⟨I.ok.gI,I.os,I.bare,I.base,I.loc,I.cell,I.free,I.i9,I.pin,I.br,I.len⟩
theorem oS.gI{D:Ends}{f:Flow}{s':Shared}(h:oS (X.hQ E) pins D f s'):oS X pins D f s':=by
 cases f with
 |next=>obtain⟨σ',H',I,q⟩:=h;exact⟨σ',H',I.gI,q⟩
 |brk=>obtain⟨σ',H',I,q⟩:=h;exact⟨σ',H',I.gI,q⟩
 |cont=>obtain⟨σ',H',I,q⟩:=h;exact⟨σ',H',I.gI,q⟩
 |ret u=>obtain⟨v,σ',H',I,r,q⟩:=h;exact⟨v,σ',H',I.gI,r,q⟩
theorem fF.fo{st:List Stmt}{t:eL}(h:fF X.fo st t):fF X st t:=fun pins s σ H D I hw=>
 wpAny_mono (h pins s σ H D (I.hQ _) hw) (fun _ _ q=>q.gI) fun _ _ z=>False.elim z
end
section
variable{X:aC}{st:Stmt}{rest:List Stmt}{t u:eL}{e:Expr}{dw:TE}{pos:Pos}
def BY:eL:=fun D σ H=>D.bk σ H
def BZ(t u:eL):eL:=fun D σ H=>t { D with bk:=u D } σ H
theorem Ii:fF X [] BY:=fun _ _ σ H _ I h=>wpAny_execs_nil ⟨σ,H,I,h⟩
theorem Ih(h1:c7 X st t)(h2:fF X rest u):fF X (st::rest) (BZ t u):=by
 intro pins s σ H D I h;refine wpAny_execs_cons (bF (h1 pins s σ H { D with bk:=u D } I h) fun f s1 q=>?_);cases f with
 |next=>obtain⟨σ',H',hT,q⟩:=q;exact h2 pins s1 σ' H' D hT q
 |ret v=>exact q
 |brk=>exact q
 |cont=>exact q
theorem AB(h1:c7 X st t):fF X [st] t:=by
 intro pins s σ H D I h;refine wpAny_execs_cons (bF (h1 pins s σ H D I h) fun f s1 q=>?_);cases f with
 |next=>exact wpAny_execs_nil q
 |ret v=>exact q
 |brk=>exact q
 |cont=>exact q
theorem Inv.quiet{pins:List (Addr×Obj)}{σ :St}{H:ag}{s:Shared}(I:Inv X pins σ H s):interactive X.env=false:=by simp[interactive,I.ok.kind]
def BW(dw:TE):eL:=fun D σ H=>dw σ H fun _ H1=>D.bk σ H1
theorem tH(he:aT X e dw)(hs:swapsWith e none pos.line X.env=pure false:=by rfl):c7 X (.Expr e pos) (BW dw):=by intro pins s σ H D I h;exact wpAny_Expr_any (bF (he pins s σ H _ I h) fun v s1⟨x,H1,aL,ar,aM⟩=>⟨σ,H1,aL,aM⟩) I.quiet hs
def xi(dw:TE):eL:=fun D σ H=>dw σ H D.dG
theorem wN(he:aT X e dw):c7 X (.Return (some e) pos) (xi dw):=by intro pins s σ H D I h;exact wpAny_Return_some (bF (he pins s σ H _ I h) fun v s1⟨x,H1,aL,ar,aM⟩=>⟨x,σ,H1,aL,ar,aM⟩)
def BX(c:TT)(t u:eL):eL:=fun D σ H=>c σ H fun b H1=>if b=true then t D σ H1 else u D σ H1
theorem Ie{c:Expr}{a b:List Stmt}{fP:TT}(hc:eR X c fP)(ha:fF X a t)(hb:fF X b u):c7 X (.If c a b pos) (BX fP t u):=by
 intro pins s σ H D I h;refine wpAny_If (bF (hc pins s σ H _ I h) fun d s1⟨H1,aL,aM⟩=>?_);cases d with
 |true=>exact ha pins s1 σ H1 D aL aM
 |false=>exact hb pins s1 σ H1 D aL aM
def JB:eL:=fun _ _ _=>False
theorem Ig:c7 X st JB:=fun _ _ _ _ _ _ h=>h.elim
end
abbrev hq:=V→St→ag→(St→ag→Prop)→Prop
abbrev lp:=List V→St→ag→(St→ag→Prop)→Prop
noncomputable def iX(X:aC)(target:Expr)(t:hq):Prop:=
 ∀(pins:List (Addr×Obj))(s:Shared)(σ :St)(H:ag)(v:V)(u:Value)(Q:St→ag→Prop),Inv X pins σ H s→RelV v u→t v σ H Q→
  wpAny (model X.prog X.w) X.A (assign target X.env u) (fun _ s'=>∃ σ' H',Inv X pins σ' H' s'∧Q σ' H') X.xe s
noncomputable def rY(X:aC)(bH:List Expr)(t:lp):Prop:=
 ∀(pins:List (Addr×Obj))(s:Shared)(σ :St)(H:ag)(vs:List V)(us:List Value)(Q:St→ag→Prop),Inv X pins σ H s→Vals vs us→t vs σ H Q→
  wpAny (model X.prog X.w) X.A (assignInOrder ((assignEach bH X.env).map (·.2)) us) (fun _ s'=>∃ σ' H',Inv X pins σ' H' s'∧Q σ' H') X.xe s
abbrev yc:=V→V→V→ag→(ag→Prop)→Prop
noncomputable def CW(X:aC)(t:yc):Prop:=
 ∀(pins:List (Addr×Obj))(s:Shared)(σ :St)(H:ag)(o i v:V)(dF hF u:Value)(Q:ag→Prop),Inv X pins σ H s→RelV o dF→RelV i hF→RelV v u→t o i v H Q→
  wpAny (model X.prog X.w) X.A (setItem dF hF u) (fun _ s'=>∃H',Inv X pins σ H' s'∧Q H') X.xe s
section
variable{X:aC}{pos:Pos}
def jv(i:Nat):hq:=fun v σ H Q=>Q (σ.set i (some v)) H
theorem wK{i:Nat}{x:Str}(hN:X.N.Nodup)(hi:X.N[i]?=some x)(hx:Loc X.env.scope x)(hf:X.fn x=true∨X.env.scope.names.lookup x=some .local:=by first|exact .inl rfl|exact .inr rfl|assumption):iX X (.Name x pos) (jv i):=by intro pins s σ H v u Q I r h;exact wpAny_assign_Name (BQ I hN hi hx r (fun s' hT=>⟨_,H,hT,h⟩) hf)
def vu:lp:=fun vs σ H Q=>vs=[]∧Q σ H
def sx(t:hq)(u:lp):lp:=fun vs σ H Q=>∃v r,vs=v::r∧t v σ H fun σ' H'=>u r σ' H' Q
theorem H0:rY X [] vu:=by intro pins s σ H vs us Q I r h;obtain⟨e,h⟩:=h;subst e;cases r;exact assignInOrder_nil ⟨σ,H,I,h⟩
theorem Az{e:Expr}{es:List Expr}{t:hq}{u:lp}(h1:iX X e t)(h2:rY X es u)(hs:(assignEach (e::es) X.env).map (·.2)=assign e X.env::(assignEach es X.env).map (·.2):=by rfl):rY X (e::es) (sx t u):=by
 intro pins s σ H vs us Q I r h;obtain⟨v,xt,ak,h⟩:=h;subst ak;cases r with
 |cons r kR=>rw[hs];refine assignInOrder_cons (bF (h1 pins s σ H _ _ _ I r h) fun _ s1⟨σ1,H1,aL,aM⟩=>?_);exact h2 pins s1 σ1 H1 _ _ Q aL kR aM
noncomputable def vv(K:PySem.W.Frag)(n:Nat)(t:lp):hq:=fun v σ H Q=>∃a xs,v=.ref a∧cK K H a xs∧xs.length=n∧t xs σ H Q
theorem HZ{es:List Expr}{k:Nat}{t:lp}{n:Nat}(hc:X.calm=true)(h:rY X es t)(aE:(assignEach es X.env).length=n:=by rfl)(hst:(assignEach es X.env).findIdx? (·.1)=none:=by rfl):iX X (.Tuple es k pos) (vv X.K n t):=by intro pins s σ H v u Q I r hw;obtain⟨a,xs,ak,aK,hl,hw⟩:=hw;subst ak;cases r;obtain⟨its,bV,ht,bq⟩:=I.tuple aK;refine assign_Tuple_tuple (I.ok.hd hc) ht (by simp[aE,←hl,bV.length]) hst fun h' hx=>?_;have aL:Inv X pins σ H { s with heap:=h' }:=I.kept (t':=s.toks) fun b o e=>hx b o (Nat.ne_of_lt (Heap.lt_size e)) e;exact h pins _ σ H xs _ Q aL (by simpa using bV) hw
noncomputable def Oi(to xk:TE)(t:yc):hq:=fun v σ H Q=>to σ H fun o H1=>xk σ H1 fun i aS=>t o i v aS fun cQ=>Q σ cQ
theorem Uu {o i:Expr} {to xk:TE} {t:yc} (ho:aT X o to) (hi:aT X i xk) (hs:CW X t)(ha:∀v,assign (.Subscript o i pos) X.env v=(do
    let dF ←holding [v] (eval o X.env)
    let hF ←holding [v,dF] (eval i X.env)
    standAt pos
    holding [v,dF,hF] (setItem dF hF v)
    release [v,dF,hF] []):=by intro _;rfl):iX X (.Subscript o i pos) (Oi to xk t):=by
 intro pins s σ H v u Q I r h;rw[ha];refine wpAny_bind (wpAny_holding (bF (ho pins s σ H _ I h) fun dF s1⟨x,H1,aL,ar,aM⟩=>?_));refine wpAny_bind (wpAny_holding (bF (hi pins s1 σ H1 _ aL aM) fun hF s2⟨y,aS,bT,a5,a_⟩=>?_));refine wpAny_bind (wpAny_standAt (wpAny_bind (wpAny_holding (bF (hs pins s2 σ aS x y v dF hF u _ bT ar a5 r a_) fun _ s3⟨cQ,dC,c_⟩=>?_))));exact wpAny_release ⟨σ,cQ,dC,c_⟩
def om(dw:TE)(g:hq):eL:=fun D σ H=>dw σ H fun x H1=>g x σ H1 D.bk
theorem Ic{bw e:Expr}{dw:TE}{g:hq}(he:aT X e dw)(hg:iX X bw g)(hs:swapsWithSole [bw] e pos.line X.env=pure false:=by rfl)(hw:swappedStores [bw] e X.env=pure none:=by rfl)(h1:(assignEach [bw] X.env).map (·.2)=[assign bw X.env]:=by rfl):c7 X (.Assign [bw] e pos) (om dw g):=by intro pins s σ H D I h;refine wpAny_Assign_stores (bF (he pins s σ H _ I h) fun v s1⟨x,H1,aL,ar,aM⟩=>?_) hs hw;rw[h1];exact bF (hg pins s1 σ H1 x v _ aL ar aM) fun _ s2 q=>q
theorem wO{i:Nat}{x:Str}{e:Expr}{dw:TE}{pos':Pos}(hN:X.N.Nodup)(hi:X.N[i]?=some x)(hx:Loc X.env.scope x)(he:aT X e dw)(hs:swapsWith e (some (.Name x pos')) pos.line X.env=pure false:=by rfl)(hf:X.fn x=true∨X.env.scope.names.lookup x=some .local:=by first|exact .inl rfl|exact .inr rfl|assumption) :
  c7 X (.Assign [.Name x pos'] e pos) (om dw (jv i)):=by
 intro pins s σ H D I h;refine wpAny_Assign_Name (bF (he pins s σ H _ I h) fun v s1⟨y,H1,aL,ar,aM⟩=>?_) hs;exact BQ aL hN hi hx ar (fun s2 bT=>⟨_,H1,bT,aM⟩) hf
end
section
variable{X:aC}{pos:Pos}
noncomputable def JJ(c:TT)(tb:eL):eL:=fun D σ H=>∃W:Nat→St→ag→Prop,(∃m,W m σ H)∧∀m σ H,W m σ H→
 c σ H fun b H1=>if b=true then ∃N:St→ag→Prop,(∀ σ' H',N σ' H'→∃cR,cR<m∧W cR σ' H')∧tb { D with bk:=N,ck:=N,ez:=D.bk } σ H1 else D.bk σ H1
theorem US{c:Expr}{body:List Stmt}{fP:TT}{tb:eL}(hp:PassesOwn (model X.prog X.w) X.A X.env X.xe)(hc:eR X c fP)(hb:fF X body tb):c7 X (.While c body [] pos) (JJ fP tb):=by
 intro pins s σ H D I h;obtain⟨W,⟨m0,mY⟩,turn⟩:=h;refine wpAny_While (codeAny_whileLoop (fun n s'=>∃ σ' H',Inv X pins σ' H' s'∧W n σ' H') ?_ m0 ⟨σ,H,I,mY⟩);rintro n s1 ⟨σ1,H1,aL,jM⟩;refine wpAny_passesOwn hp (bF (hc pins s1 σ1 H1 _ aL (turn n σ1 H1 jM)) fun b s2⟨aS,bT,a_⟩=>?_);cases b with
 |true=>
  obtain⟨N,hN,a_⟩:=a_;rw[if_pos rfl];refine wpAny_passesOwn hp (bF (hb pins s2 σ1 aS _ bT a_) fun f s3 c_=>?_);cases f with
  |next=>obtain⟨σ3,cQ,dC,mO⟩:=c_;obtain⟨cR,hm,p4⟩:=hN σ3 cQ mO;exact⟨cR,hm,σ3,cQ,dC,p4⟩
  |cont=>obtain⟨σ3,cQ,dC,mO⟩:=c_;obtain⟨cR,hm,p4⟩:=hN σ3 cQ mO;exact⟨cR,hm,σ3,cQ,dC,p4⟩
  |brk=>exact c_
  |ret v=>exact c_
 |false=>rw[if_neg Bool.false_ne_true];exact wpAny_execs_nil ⟨σ1,aS,bT,a_⟩
end
structure It where
 go:Nat→ag→Prop
 jk:Nat→ag→V→ag→Prop
 stop:Nat→ag→Prop
noncomputable def iU(X:aC)(pins:List (Addr×Obj))(H:ag)(b:Addr):Prop:=
 H b=none∧b≠X.env.locals∧b∉X.aP∧(b∈X.ex∨X.eX.heap.objs.size≤b)∧(∀x c,X.env.cells.lookup x=some c→c≠b)∧∀p∈X.n_++pins,p.1≠b
theorem Inv.nA{X:aC}{pins:List (Addr×Obj)}{σ :St}{H H':ag}{s:Shared}{b:Addr}(I:Inv X pins σ H s)(hb:s.heap.objs.size≤b)(aE:H' b=none):iU X pins H' b:=by
 refine⟨aE,Nat.ne_of_gt (Nat.lt_of_lt_of_le I.lt hb),I.S4 hb,.inr (Nat.le_trans I.pZ hb),fun x c e z=>?_,fun p hp z=>?_⟩
 ·obtain⟨v,q⟩:=I.cell x c e;exact absurd (Nat.lt_of_lt_of_le q.lt (by rw[z];exact hb)) (Nat.lt_irrefl _)
 ·exact absurd (Nat.lt_of_lt_of_le (Heap.lt_size (I.pin p hp).1) (by rw[z];exact hb)) (Nat.lt_irrefl _)
structure Turn(P:Program)(w:World)(K:PySem.W.Frag)(bw:Expr)(bx:It)(aY:List Addr)(it:Addr)(gv:Nat→Heap→Prop):Prop where
 mem:it∈aY
 obj:∀i h,gv i h→∀b∈aY,∃o,h.get? b=some o∧∀v,o.data≠.cell v
 keep:∀i h h',gv i h→(∀b∈aY,∀o,h.get? b=some o→h'.get? b=some o)→gv i h'
 item:∀(X:aC),X.prog=P→X.w=w→X.K=K→X.calm=true→∀(i:Nat)(pins:List (Addr×Obj))(s:Shared)(σ :St)(H:ag)(E:Value→Shared→Prop),Inv X pins σ H s→(∀b∈aY,iU X pins H b)→gv i s.heap→bx.go i H→
  wpAny (model P w) X.A (pyNext (.ref it)) (fun r s1=>∃u,r=some u∧
   wpAny (model P w) X.A (letOwnedTupleGo bw (.ref it) u) (fun _ s2=>∃x H',Inv X pins σ H' s2∧RelV x u∧bx.jk i H x H'∧gv (i+1) s2.heap∧∀b∈aY,H' b=none) E s1) E s
 done:∀(X:aC),X.prog=P→X.w=w→X.K=K→X.calm=true→∀(i:Nat)(pins:List (Addr×Obj))(s:Shared)(σ :St)(H:ag)(E:Value→Shared→Prop),Inv X pins σ H s→(∀b∈aY,iU X pins H b)→gv i s.heap→bx.stop i H→
  wpAny (model P w) X.A (pyNext (.ref it)) (fun r s1=>r=none∧Inv X pins σ H s1) E s
 self:∀(A:Around)(i:Nat)(s:Shared)(Q:Value→Shared→Prop)(E:Value→Shared→Prop),gv i s.heap→Q (.ref it) s→wpAny (model P w) A (pyIter (.ref it)) Q E s
abbrev TI:=St→ag→(It→ag→Prop)→Prop
noncomputable def CU(X:aC)(pins:List (Addr×Obj))(σ :St)(bw:Expr)(R:It→ag→Prop)(vT:Value)(s2:Shared):Prop:=
 ∃(it:Addr)(aY:List Addr)(gv:Nat→Heap→Prop)(bx:It)(H':ag),vT=.ref it∧Inv X pins σ H' s2∧Turn X.prog X.w X.K bw bx aY it gv∧gv 0 s2.heap∧(∀b∈aY,iU X pins H' b)∧R bx H'
noncomputable def f_(X:aC)(bw iter:Expr)(iv:TI):Prop:=
 ∀(pins:List (Addr×Obj))(s:Shared)(σ :St)(H:ag)(R:It→ag→Prop),Inv X pins σ H s→iv σ H R→
  wpAny (model X.prog X.w) X.A (eval iter X.env) (fun v s1=>wpAny (model X.prog X.w) X.A (pyIter v) (CU X pins σ bw R) X.xe s1) X.xe s
theorem vy{M:Model}{A:Around}{E:Value→Shared→Prop}{s:Shared}{bw:Expr}{it:Addr}{u:Value}{o:Obj}{n:String}{vs:Array Value}{Q:Unit→Shared→Prop}(ho:s.heap.get? it=some o)(hc:o.cls=.type n)(hd:o.data=.fields vs)(aE:["enumerate","zip","dict_itemiterator","dict_reverseitemiterator","odict_iterator","itertools.zip_longest","itertools.pairwise"].contains n=false)(gj:Q () s):wpAny M A (letOwnedTupleGo bw (.ref it) u) Q E s:=by
 unfold letOwnedTupleGo
 cases bw<;>first
  |exact wpAny_pure gj
  |(cases u<;>first
      |exact wpAny_pure gj
      |(refine wpAny_bind (wpAny_load ho ?_)
        rw[hc,hd];show wpAny M A (if(["enumerate","zip","dict_itemiterator","dict_reverseitemiterator","odict_iterator","itertools.zip_longest","itertools.pairwise"].contains n&&vs[0]?==some (rawInt _))=true then _ else _) Q E s;rw[if_neg (by intro h;rw[aE,Bool.false_and]at h;cases h)];exact wpAny_pure gj))
noncomputable def x1(K:PySem.W.Frag)(a:Addr):It:=
 ⟨fun i H=>∃xs x,bU K H a xs∧xs[i]?=some x,fun i H x H'=>H'=H∧∀xs,bU K H a xs→xs[i]?=some x,fun i H=>∃xs,bU K H a xs∧xs.length≤i⟩
noncomputable def x3(K:PySem.W.Frag)(a:Addr):It:=
 ⟨fun i H=>∃xs x,cK K H a xs∧xs[i]?=some x,fun i H x H'=>H'=H∧∀xs,cK K H a xs→xs[i]?=some x,fun i H=>∃xs,cK K H a xs∧xs.length≤i⟩
def uy(lo:Int)(n:Nat):It:=⟨fun i _=>i<n,fun i H x H'=>H'=H∧x=.int (lo+i),fun i _=>n≤i⟩
theorem X2{P:Program}{w:World}{K:PySem.W.Frag}{bw:Expr}(a it:Addr):Turn P w K bw (x1 K a) [it] it (fun i h=>h.IsListIter it a i) where
 mem:=by simp
 obj:=fun i h st b hb=>by
  have e:b=it:=by simpa using hb
  subst e;obtain⟨o,e,c,d⟩:=st;exact⟨o,e,fun v z=>by rw[d]at z;cases z⟩
 keep:=fun i h h' st k=>st.at fun o e=>k it (by simp) o e
 item:=by intro X dz hw hK hc i pins s σ H E I hf st hg;subst dz hw hK;obtain⟨xs,x,aK,hx⟩:=hg;obtain⟨its,bV,p,bq⟩:=I.list aK;obtain⟨u,hu,eb⟩:=bV.get hx;obtain⟨f0,f1,f2,e_,f4,hz⟩:=hf it (by simp);refine wpAny_pyNext_list_item st p.isList (x:=u) (by simpa using hu) fun h' kT eO=>?_;have aL:Inv X pins σ H { s with heap:=h' }:=I.turned (t':=s.toks) (fun b o hb e=>(eO.2 b hb).trans e) f0 f1 e_ f4 hz;obtain⟨o,e,c,d⟩:=id kT;exact⟨u,rfl,vy (s:={ s with heap:=h' }) e c d (by decide) ⟨x,H,aL,eb,⟨rfl,fun ys bJ=>by rw[I.z9 bJ aK];exact hx⟩,kT,fun b hb=>(hf b hb).1⟩⟩
 done:=by intro X dz hw hK hc i pins s σ H E I hf st hg;subst dz hw hK;obtain⟨xs,aK,hx⟩:=hg;obtain⟨its,bV,p,bq⟩:=I.list aK;obtain⟨f0,f1,f2,e_,f4,hz⟩:=hf it (by simp);have hl:=bV.length;exact wpAny_pyNext_list_end (I.ok.hd hc) st p.isList (by simp;omega) fun h' a7=>⟨rfl,I.turned (t':=s.toks) (fun b o hb e=>a7 b o hb e) f0 f1 e_ f4 hz⟩
 self:=fun _ _ _ _ _ st h=>wpAny_pyIter_listiter st h
theorem X5{P:Program}{w:World}{K:PySem.W.Frag}{bw:Expr}(a it:Addr):Turn P w K bw (x3 K a) [it] it (fun i h=>h.IsTupleIter it a i) where
 mem:=by simp
 obj:=fun i h st b hb=>by
  have e:b=it:=by simpa using hb
  subst e;obtain⟨o,e,c,d⟩:=st;exact⟨o,e,fun v z=>by rw[d]at z;cases z⟩
 keep:=fun i h h' st k=>st.at fun o e=>k it (by simp) o e
 item:=by intro X dz hw hK hc i pins s σ H E I hf st hg;subst dz hw hK;obtain⟨xs,x,aK,hx⟩:=hg;obtain⟨its,bV,p,bq⟩:=I.tuple aK;obtain⟨u,hu,eb⟩:=bV.get hx;obtain⟨f0,f1,f2,e_,f4,hz⟩:=hf it (by simp);refine wpAny_pyNext_tuple_item st (show s.heap.IsTuple a its.toArray from p) (x:=u) (by simpa using hu) fun h' kT eO=>?_;have aL:Inv X pins σ H { s with heap:=h' }:=I.turned (t':=s.toks) (fun b o hb e=>(eO.2 b hb).trans e) f0 f1 e_ f4 hz;obtain⟨o,e,c,d⟩:=id kT;exact⟨u,rfl,vy (s:={ s with heap:=h' }) e c d (by decide) ⟨x,H,aL,eb,⟨rfl,fun ys bJ=>by rw[I.B9 bJ aK];exact hx⟩,kT,fun b hb=>(hf b hb).1⟩⟩
 done:=by intro X dz hw hK hc i pins s σ H E I hf st hg;subst dz hw hK;obtain⟨xs,aK,hx⟩:=hg;obtain⟨its,bV,p,bq⟩:=I.tuple aK;obtain⟨f0,f1,f2,e_,f4,hz⟩:=hf it (by simp);have hl:=bV.length;exact wpAny_pyNext_tuple_end (I.ok.hd hc) st (show s.heap.IsTuple a its.toArray from p) (by simp;omega) fun h' a7=>⟨rfl,I.turned (t':=s.toks) (fun b o hb e=>a7 b o hb e) f0 f1 e_ f4 hz⟩
 self:=fun _ _ _ _ _ st h=>wpAny_pyIter_tupleiter st h
theorem X3{P:Program}{w:World}{K:PySem.W.Frag}{bw:Expr}(it:Addr)(lo:Int)(n:Nat):Turn P w K bw (uy lo n) [it] it (fun i h=>IsRangeIter h it (lo+(i:Nat)*1) ((n:Int)-(i:Nat)) 1) where
 mem:=by simp
 obj:=fun i h st b hb=>by
  have e:b=it:=by simpa using hb
  subst e;exact⟨_,st,fun v z=>by have f6:Data.fields _=Data.cell v:=z;cases f6⟩
 keep:=fun i h h' st k=>k it (by simp) _ st
 item:=by intro X dz hw hK hc i pins s σ H E I hf st hg;subst dz hw hK;obtain⟨f0,f1,f2,e_,f4,hz⟩:=hf it (by simp);have W:=Walks.range (prog:=X.prog) (w:=X.w) (I.ok.hd hc) it lo 1 n;refine W.item i s _ _ hg st fun v h' cM hv kT cb=>?_;obtain⟨t,rfl⟩:=hv;have aL:Inv X pins σ H { s with heap:=h',toks:=cM }:=I.turned (fun b o hb e=>cb b o (by simpa using hb) e) f0 f1 e_ f4 hz;refine⟨_,rfl,vy (s:={ s with heap:=h',toks:=cM }) (n:="range_iterator") kT rfl rfl (by decide) ⟨.int (lo+i),H,aL,⟨t,?_⟩,⟨rfl,rfl⟩,kT,fun b hb=>(hf b hb).1⟩⟩;rw[Int.mul_one]
 done:=by intro X dz hw hK hc i pins s σ H E I hf st hg;subst dz hw hK;obtain⟨f0,f1,f2,e_,f4,hz⟩:=hf it (by simp);exact wpAny_pyNext_range_end (I.ok.hd hc) st (by have:n≤i:=hg;omega) fun h' a7=>⟨rfl,I.turned (t':=s.toks) (fun b o hb e=>a7 b o hb e) f0 f1 e_ f4 hz⟩
 self:=fun _ _ _ _ _ st h=>wpAny_pyIter_rangeiter st h
section
variable{X:aC}{bw:Expr}
noncomputable def Gf(K:PySem.W.Frag)(tl:TE):TI:=fun σ H R=>tl σ H fun x H1=>∃a,x=.ref a∧(∃xs,bU K H1 a xs)∧R (x1 K a) H1
noncomputable def Gi(K:PySem.W.Frag)(tl:TE):TI:=fun σ H R=>tl σ H fun x H1=>∃a,x=.ref a∧(∃xs,cK K H1 a xs)∧R (x3 K a) H1
theorem Uw{l:Expr}{tl:TE}(hl:aT X l tl):f_ X bw l (Gf X.K tl):=by
 intro pins s σ H R I h;refine bF (hl pins s σ H _ I h) fun v s1⟨x,H1,aL,ar,aM⟩=>?_;obtain⟨a,e,⟨xs,aK⟩,q⟩:=aM;subst e;cases ar;obtain⟨its,bV,p,bq⟩:=aL.list aK;refine wpAny_pyIter_list p.isList ?_;refine⟨s1.heap.objs.size,[s1.heap.objs.size],_,_,H1,rfl,aL.kept (t':=s1.toks) fun b o e=>Heap.get?_push_of_some _ e,X2 a _,⟨_,Heap.get?_push_size _ rfl,rfl,rfl⟩,fun b hb=>?_,q⟩;have e:b=s1.heap.objs.size:=by simpa using hb
 subst e;exact aL.nA (Nat.le_refl _) (aL.br.fresh (Nat.le_refl _))
theorem Uz{l:Expr}{tl:TE}(hl:aT X l tl):f_ X bw l (Gi X.K tl):=by
 intro pins s σ H R I h;refine bF (hl pins s σ H _ I h) fun v s1⟨x,H1,aL,ar,aM⟩=>?_;obtain⟨a,e,⟨xs,aK⟩,q⟩:=aM;subst e;cases ar;obtain⟨its,bV,p,bq⟩:=aL.tuple aK;refine wpAny_pyIter_tuple (show s1.heap.IsTuple a its.toArray from p) ?_;refine⟨s1.heap.objs.size,[s1.heap.objs.size],_,_,H1,rfl,aL.kept (t':=s1.toks) fun b o e=>Heap.get?_push_of_some _ e,X5 a _,⟨_,Heap.get?_push_size _ rfl,rfl,rfl⟩,fun b hb=>?_,q⟩;have e:b=s1.heap.objs.size:=by simpa using hb
 subst e;exact aL.nA (Nat.le_refl _) (aL.br.fresh (Nat.le_refl _))
theorem Vk{pins:List (Addr×Obj)}{σ :St}{H:ag}{s:Shared}{R:It→ag→Prop}{E:Value→Shared→Prop}{lo hi:Int}{t u v:Tok}{cM:Nat}(I:Inv X pins σ H s)(h1: -(2^62)≤lo)(h2:lo<2^62)(h3: -(2^62)≤hi)(h4:hi<2^62)(q:R (uy lo (hi-lo).toNat) H):wpAny (model X.prog X.w) X.A (pyIter (.ref s.heap.objs.size)) (CU X pins σ bw R) E { s with heap:=s.heap.push { cls:=.type "range",data:=.fields #[.int lo t,.int hi u,.int 1 v] },toks:=cM }:=by
 refine wpAny_pyIter_range (IsRange.new ..) (small_one h1 h2 h3 h4) ?_;have aL:Inv X pins σ H { s with heap:=s.heap.push { cls:=.type "range",data:=.fields #[.int lo t,.int hi u,.int 1 v] },toks:=cM }:=I.kept fun b o e=>Heap.get?_push_of_some _ e
 refine⟨(s.heap.push { cls:=.type "range",data:=.fields #[.int lo t,.int hi u,.int 1 v] }).objs.size,[(s.heap.push { cls:=.type "range",data:=.fields #[.int lo t,.int hi u,.int 1 v] }).objs.size],_,_,H,rfl,
  aL.kept (t':=cM) fun b o e=>Heap.get?_push_of_some _ e,X3 _ lo (hi-lo).toNat,?_,fun b hb=>?_,q⟩
 ·have ak:lo+((0:Nat):Int)*1=lo:=by simp
  have ay:(((hi-lo).toNat:Nat):Int)-((0:Nat):Int)=Builtin.Range.rangeSize lo hi 1:=by rw[rangeSize_one];split<;>omega
  show IsRangeIter _ _ (lo+((0:Nat):Int)*1) ((((hi-lo).toNat:Nat):Int)-((0:Nat):Int)) 1;rw[ak,ay];exact Heap.get?_push_size _ rfl
 ·have e:b=(s.heap.push { cls:=.type "range",data:=.fields #[.int lo t,.int hi u,.int 1 v] }).objs.size:=by simpa using hb
  subst e;exact aL.nA (Nat.le_refl _) (aL.br.fresh (Nat.le_refl _))
noncomputable def Gg(bX:eK):TI:=fun σ H R=>bX σ H fun vs H1=>∃j:Int,vs=[.int j]∧-(2^62)≤j∧j<2^62∧R (uy 0 j.toNat) H1
theorem Ux{a:Expr}{bX:eK}{p pos:Pos}(hg:cy X "range")(hm:X.mg "range"=none)(ha:eJ X [a] bX)(hs:starEach [a] X.env=[(false,eval a X.env)]:=by rfl):f_ X bw (.Call (.Name "range" p) [a] [] pos) (Gg bX):=by
 intro pins s σ H R I h;refine Call_ (nS I hg hm boot_range (PyProof.Rows.callWith_type1 (bF (ha pos pins s σ H _ I h) fun us s1⟨vs,H1,aL,ar,aM⟩=>?_) hs rfl));obtain⟨j,e,aM,a_,q⟩:=aM;subst e;cases ar with
 |cons r kR=>cases kR;obtain⟨t,rfl⟩:=r;exact call_range_1 (Vk aL (by omega) (by omega) aM a_ (by simpa using q))
noncomputable def Jy(iv:TI)(g:hq)(tb:eL):eL:=fun D σ H=>iv σ H fun bx H1=>∃W:Nat→Nat→St→ag→Prop,(∃m,W 0 m σ H1)∧∀i m σ H,W i m σ H→
 (bx.stop i H∧D.bk σ H)∨(bx.go i H∧∃N:St→ag→Prop,(∀ σ' H',N σ' H'→∃cR,cR<m∧W (i+1) cR σ' H')∧∀x H',bx.jk i H x H'→g x σ H' fun σ2 aS=>tb { D with bk:=N,ck:=N,ez:=D.bk } σ2 aS)
def tG(aY:List Addr)(h:Heap):List (Addr×Obj):=aY.filterMap fun b=>(h.get? b).map fun o=>(b,o)
theorem wq{aY:List Addr}{h:Heap}{b:Addr}{o:Obj}(hb:b∈aY)(e:h.get? b=some o):(b,o)∈tG aY h:=List.mem_filterMap.mpr ⟨b,hb,by rw[e];rfl⟩
theorem Tp{aY:List Addr}{h:Heap}{p:Addr×Obj}(hp:p∈tG aY h):p.1∈aY∧h.get? p.1=some p.2:=by
 obtain⟨b,hb,e⟩:=List.mem_filterMap.mp hp;cases q:h.get? b with
 |none=>rw[q]at e;cases e
 |some o=>rw[q]at e;have b3:(b,o)=p:=Option.some.inj e;subst b3;exact⟨hb,q⟩
theorem Inv.pinned{pins:List (Addr×Obj)}{σ :St}{H:ag}{s:Shared}{aY:List Addr}(I:Inv X pins σ H s)(hf:∀b∈aY,iU X pins H b)(ho:∀b∈aY,∃o,s.heap.get? b=some o∧∀v,o.data≠.cell v):Inv X (pins++tG aY s.heap) σ H s:=
 I.H4 fun p hp=>(List.mem_append.mp hp).elim (fun z=>I.pin p (List.mem_append_right _ z)) fun z=>by obtain⟨hb,e⟩:=Tp z;obtain⟨f0,f1,f2,_⟩:=hf p.1 hb;obtain⟨o,b3,d⟩:=ho p.1 hb;rw[e]at b3;cases b3;exact⟨e,f0,f1,f2,d⟩
theorem Inv.xp{pins pl:List (Addr×Obj)}{σ :St}{H:ag}{s:Shared}(I:Inv X (pins++pl) σ H s):Inv X pins σ H s:=I.H4 fun p hp=>I.pin p (List.mem_append_right _ (List.mem_append_left _ hp))
theorem UQ{iter:Expr}{body:List Stmt}{iv:TI}{g:hq}{tb:eL}{pos:Pos}(hp:PassesOwn (model X.prog X.w) X.A X.env X.xe)(hc:X.calm=true)(hi:f_ X bw iter iv)(hg:iX X bw g)(hb:fF X body tb)(hs:∀x,foldedSetIterable iter X.env x=pure x:=by intro _;rfl):c7 X (.For bw iter body [] pos) (Jy iv g tb):=by
 intro pins s σ H D I h;refine wpAny_For (bF (hi pins s σ H _ I h) fun v s1 h1=>bF h1 fun vT s2 h2=>?_) hs;obtain⟨it,aY,gv,bx,aS,e,bT,T,kj,f2,W,⟨m0,mY⟩,turn⟩:=h2;subst e;have stat:∀{H':ag},(∀b∈aY,H' b=none)→∀b∈aY,iU X pins H' b:=fun aE b hb=>⟨aE b hb,(f2 b hb).2⟩;refine codeAny_forLoop_any (fun n s'=>∃i σ' H',Inv X pins σ' H' s'∧gv i s'.heap∧(∀b∈aY,H' b=none)∧W i n σ' H') ?_ m0 ⟨0,σ,aS,bT,kj,fun b hb=>(f2 b hb).1,mY⟩;rintro n s3 ⟨i,σ3,cQ,dC,Jh,Fz,p4⟩;rcases turn i n σ3 cQ p4 with⟨stop,qn⟩|⟨go,N,hN,step⟩
 ·refine wpAny_passesOwn hp (bF (T.done X rfl rfl rfl hc i pins s3 σ3 cQ X.xe dC (stat Fz) Jh stop) fun r s4⟨hr,jV⟩=>?_);subst hr;exact wpAny_execs_nil ⟨σ3,cQ,jV,qn⟩
 ·refine wpAny_passesOwn hp (bF (T.item X rfl rfl rfl hc i pins s3 σ3 cQ X.xe dC (stat Fz) Jh go) fun r s4⟨u,hr,h4⟩=>?_);subst hr;refine wpAny_passesOwn hp (bF h4 fun _ s5⟨x,iz,l5,ob,lZ,ry,vt⟩=>?_);have K4:=l5.pinned (stat vt) (T.obj _ _ ry);refine wpAny_passesOwn hp (bF (hg _ s5 σ3 iz x u _ K4 ob (step x iz lZ)) fun _ e2⟨σ6,qi,oK,kg⟩=>?_);refine wpAny_passesOwn hp (bF (hb _ e2 σ6 qi _ oK kg) fun f c1 il=>?_);have again:∀{σ7:St}{fR:ag},Inv X (pins++tG aY s5.heap) σ7 fR c1→N σ7 fR→∃m,m<n∧∃i σ' H',Inv X pins σ' H' c1∧gv i c1.heap∧(∀b∈aY,H' b=none)∧W i m σ' H':=fun{σ7 fR} iA tv=>by
   obtain⟨cR,hm,Yu⟩:=hN σ7 fR tv;refine⟨cR,hm,i+1,σ7,fR,iA.xp,T.keep _ _ _ ry fun b hb o e=>(iA.pin (b,o) (List.mem_append_right _ (List.mem_append_right _ (wq hb e)))).1,fun b hb=>?_,Yu⟩;obtain⟨o,e,d⟩:=T.obj _ _ ry b hb;exact(iA.pin (b,o) (List.mem_append_right _ (List.mem_append_right _ (wq hb e)))).2.1
  cases f with
  |next=>obtain⟨σ7,fR,iA,tv⟩:=il;exact again iA tv
  |cont=>obtain⟨σ7,fR,iA,tv⟩:=il;exact again iA tv
  |brk=>obtain⟨σ7,fR,iA,il⟩:=il;exact⟨σ7,fR,iA.xp,il⟩
  |ret v=>obtain⟨rF,σ7,fR,iA,gX,il⟩:=il;exact⟨rF,σ7,fR,iA.xp,gX,il⟩
end
abbrev eo:=V→V→ag→cj→Prop
noncomputable def dp(X:aC)(f:Value→Value→Sem Value)(r:eo):Prop:=
 ∀(pins:List (Addr×Obj))(s:Shared)(σ :St)(H:ag)(x y:V)(v u:Value)(Q:cj),Inv X pins σ H s→RelV x v→RelV y u→r x y H Q→
  wpAny (model X.prog X.w) X.A (f v u) (fu X pins σ Q) X.xe s
noncomputable def uH(X:aC)(f:Value→Sem Value)(r:V→ag→cj→Prop):Prop:=
 ∀(pins:List (Addr×Obj))(s:Shared)(σ :St)(H:ag)(x:V)(v:Value)(Q:cj),Inv X pins σ H s→RelV x v→r x H Q→
  wpAny (model X.prog X.w) X.A (f v) (fu X pins σ Q) X.xe s
noncomputable def jm(X:aC)(f:Value)(r:List V→ag→cj→Prop):Prop:=
 ∀(pins:List (Addr×Obj))(s:Shared)(σ :St)(H:ag)(xs:List V)(us:List Value)(Q:cj),Inv X pins σ H s→Vals xs us→r xs H Q→
  wpAny (model X.prog X.w) X.A (call f us) (fu X pins σ Q) X.xe s
noncomputable def Lg(X:aC)(r:V→ag→(Bool→ag→Prop)→Prop):Prop:=
 ∀(pins:List (Addr×Obj))(s:Shared)(σ :St)(H:ag)(x:V)(v:Value)(Q:Bool→ag→Prop),Inv X pins σ H s→RelV x v→r x H Q→
  wpAny (model X.prog X.w) X.A (truthy v) (uF X pins σ Q) X.xe s
def tV(r:eo)(bX tb:TE):TE:=fun σ H Q=>bX σ H fun x H1=>tb σ H1 fun y aS=>r x y aS Q
def JI(r:V→ag→cj→Prop)(bX:TE):TE:=fun σ H Q=>bX σ H fun x H1=>r x H1 Q
def rq(C:Int→Int→Prop)(g:Int→Int→V):eo:=fun x y H Q=>∃i j,x=.int i∧y=.int j∧C i j∧Q (g i j) H
def kQ(g:Int→Int→V):eo:=fun x y H Q=>∃i j,x=.int i∧y=.int j∧Q (g i j) H
def IA(g:Int→V):V→ag→cj→Prop:=fun x H Q=>∃i,x=.int i∧Q (g i) H
section
variable{X:aC}{a b c:Expr}{bX tb fP:TE}{pos:Pos}
theorem yO(ha:aT X a bX)(hb:aT X b tb){pins:List (Addr×Obj)}{s:Shared}{σ :St}{H:ag}{R:V→V→ag→Prop}(I:Inv X pins σ H s)(h:bX σ H fun x H1=>tb σ H1 fun y aS=>R x y aS){Q:Value→Shared→Prop}{f:Value→Value→Sem Value}(hf:∀v u s2 x y aS,Inv X pins σ aS s2→RelV x v→RelV y u→R x y aS→wpAny (model X.prog X.w) X.A (f v u) Q X.xe s2) :
  wpAny (model X.prog X.w) X.A (eval a X.env) (fun v cX=>wpAny (model X.prog X.w) X.A (eval b X.env) (fun u kW=>wpAny (model X.prog X.w) X.A (f v u) Q X.xe kW) X.xe cX) X.xe s:=by
 refine bF (ha pins s σ H _ I h) fun v s1⟨x,H1,aL,ar,aM⟩=>?_;refine bF (hb pins s1 σ H1 _ aL aM) fun u s2⟨y,aS,bT,a5,a_⟩=>?_;exact hf v u s2 x y aS bT ar a5 a_
theorem HX{op:Operator}{r:eo}(ho:dp X (binaryOp op) r)(ha:aT X a bX)(hb:aT X b tb):aT X (.BinOp a op b pos) (tV r bX tb):=by intro pins s σ H Q I h;exact wpAny_BinOp (yO ha hb I h fun v u s2 x y aS bT bl b7 q=>ho pins s2 σ aS x y v u Q bT bl b7 q)
theorem Uq{op:UnaryOp}{r:V→ag→cj→Prop}(ho:uH X (unaryOp op) r)(ha:aT X a bX):aT X (.UnaryOp op a pos) (JI r bX):=by intro pins s σ H Q I h;exact UnaryOp_ (bF (ha pins s σ H _ I h) fun v s1⟨x,H1,aL,ar,aM⟩=>ho pins s1 σ H1 x v Q aL ar aM)
theorem wG{f:Value→Value→Sem Value}{C:Int→Int→Prop}{g:Int→Int→Int}(rule:∀(i j:Int)(t u:Tok)(s:Shared)(Q:Value→Shared→Prop)(E:Value→Shared→Prop),C i j→Q (.int (g i j) s.toks) { s with toks:=s.toks+1 }→wpAny (model X.prog X.w) X.A (f (.int i t) (.int j u)) Q E s) :
  dp X f (rq C fun i j=>.int (g i j)):=by
 intro pins s σ H x y v u Q I bl b7 h;obtain⟨i,j,rfl,rfl,hc,q⟩:=h;obtain⟨t,rfl⟩:=bl;obtain⟨t',rfl⟩:=b7;exact rule i j t t' s _ _ hc ⟨.int (g i j),H,I.tok _,⟨_,rfl⟩,q⟩
theorem HF{f:Value→Value→Sem Value}{g:Int→Int→Int}(rule:∀(i j:Int)(t u:Tok)(s:Shared)(Q:Value→Shared→Prop)(E:Value→Shared→Prop),Q (.int (g i j) s.toks) { s with toks:=s.toks+1 }→wpAny (model X.prog X.w) X.A (f (.int i t) (.int j u)) Q E s) :
  dp X f (kQ fun i j=>.int (g i j)):=by
 intro pins s σ H x y v u Q I bl b7 h;obtain⟨i,j,rfl,rfl,q⟩:=h;obtain⟨t,rfl⟩:=bl;obtain⟨t',rfl⟩:=b7;exact rule i j t t' s _ _ ⟨.int (g i j),H,I.tok _,⟨_,rfl⟩,q⟩
theorem As{f:Value→Value→Sem Value}{g:Int→Int→Bool}(rule:∀(i j:Int)(t u:Tok)(s:Shared)(Q:Value→Shared→Prop)(E:Value→Shared→Prop),Q (.bool (g i j)) s→wpAny (model X.prog X.w) X.A (f (.int i t) (.int j u)) Q E s) :
  dp X f (kQ fun i j=>.au (g i j)):=by
 intro pins s σ H x y v u Q I bl b7 h;obtain⟨i,j,rfl,rfl,q⟩:=h;obtain⟨t,rfl⟩:=bl;obtain⟨t',rfl⟩:=b7;exact rule i j t t' s _ _ ⟨.au (g i j),H,I,rfl,q⟩
def uf(i j:Int):Prop:=0<j∧j<1073741824
def rN(i j:Int):Prop:=0≤j∧j≤1000000∧i.natAbs<2^64
def qg(i j:Int):Prop:=(-(2^64)<i∧i<2^64)∨(-(2^64)<j∧j<2^64)
theorem qg.ok{i j:Int}(h:qg i j):IntMulOk i j:=by
 rcases h with⟨h1,h2⟩|⟨h1,h2⟩
 ·exact .of_left (intBits_le_64 h1 h2)
 ·exact .of_right (intBits_le_64 h1 h2)
theorem TC:dp X (binaryOp .Add) (kQ fun i j=>.int (i+j)):=HF fun _ _ _ _ _ _ _ q=>add_int q
theorem TP:dp X (binaryOp .Sub) (kQ fun i j=>.int (i-j)):=HF fun _ _ _ _ _ _ _ q=>sub_int q
theorem TK:dp X (binaryOp .Mult) (rq qg fun i j=>.int (i*j)):=wG fun _ _ _ _ _ _ _ hc q=>mul_int q hc.ok
theorem TG:dp X (binaryOp .FloorDiv) (rq uf fun i j=>.int (i/j)):=wG fun i j _ _ _ _ _ hc q=>by have h1:(0:Int)<j:=hc.1;have h2:j<1073741824:=hc.2;exact floordiv_int (by omega) (by rw[Int.fdiv_eq_ediv_of_nonneg i (by omega)];exact q) (.inl (PyProof.noPylong_small (by omega)))
theorem TJ:dp X (binaryOp .Mod) (rq (fun _ j=>0<j) fun i j=>.int (i%j)):=wG fun i j _ _ _ _ _ hc q=>by have h1:(0:Int)<j:=hc;exact mod_int' (by omega) (by rw[Int.fmod_eq_emod_of_nonneg i (by omega)];exact q)
theorem TN:dp X (binaryOp .Pow) (rq rN fun i j=>.int (i^j.toNat)):=wG fun _ _ _ _ _ _ _ hc q=>pow_int_small hc.1 hc.2.1 hc.2.2 q
theorem Ya{f:Value→Sem Value}{g:Int→Int}(rule:∀(i:Int)(t:Tok)(s:Shared)(Q:Value→Shared→Prop)(E:Value→Shared→Prop),Q (.int (g i) s.toks) { s with toks:=s.toks+1 }→wpAny (model X.prog X.w) X.A (f (.int i t)) Q E s) :
  uH X f (IA fun i=>.int (g i)):=by
 intro pins s σ H x v Q I bl h;obtain⟨i,rfl,q⟩:=h;obtain⟨t,rfl⟩:=bl;exact rule i t s _ _ ⟨.int (g i),H,I.tok _,⟨_,rfl⟩,q⟩
theorem Yb:uH X (unaryOp .USub) (IA fun i=>.int (-i)):=Ya fun _ _ _ _ _ q=>neg_int q
end
noncomputable def IU:V→V→Bool
 |.non,.non=>true|.non,.int _=>true|.int _,.non=>true|.non,.au _=>true|.au _,.non=>true|.non,.str _=>true|.str _,.non=>true
 |.int _,.int _=>true|.au _,.au _=>true|.str _,.str _=>true|.lu _,.lu _=>true
 |.int _,.str _=>true|.str _,.int _=>true|.au _,.str _=>true|.str _,.au _=>true
 |_,_=>false
section
variable{X:aC}{a b c:Expr}{bX tb fP:TE}{pos:Pos}
theorem Fs{pins:List (Addr×Obj)}{σ :St}{H:ag}{s:Shared}{Q:cj}{k k':Bool}(I:Inv X pins σ H s)(q:Q (.au k) H)(e:k=k'):fu X pins σ Q (.bool k') s:=by subst e;exact⟨.au k,H,I,rfl,q⟩
theorem HK:dp X (compareOp .Lt) (kQ fun i j=>.au (decide (i<j))):=As fun _ _ _ _ _ _ _ q=>lt_int q
theorem tD:dp X (compareOp .LtE) (kQ fun i j=>.au (decide (i≤j))):=As fun _ _ _ _ _ _ _ q=>le_int q
theorem TH:dp X (compareOp .Gt) (kQ fun i j=>.au (decide (j<i))):=As fun _ _ _ _ _ _ _ q=>gt_int q
theorem HJ:dp X (compareOp .Is) (fun x y H Q=>y=.non∧Q (.au (decide (x=.non))) H):=by
 intro pins s σ H x y v u Q I bl b7 h;obtain⟨rfl,q⟩:=h;cases b7;refine is_none_gen (Fs I q ?_)
 cases x<;>first
  |(cases bl;rfl)
  |(obtain⟨t,rfl⟩:=bl;rfl)
theorem TM:dp X (compareOp .IsNot) (fun x y H Q=>y=.non∧Q (.au (!decide (x=.non))) H):=by
 intro pins s σ H x y v u Q I bl b7 h;obtain⟨rfl,q⟩:=h;cases b7;refine isnot_none_gen (Fs I q ?_)
 cases x<;>first
  |(cases bl;rfl)
  |(obtain⟨t,rfl⟩:=bl;rfl)
theorem dp.or{f:Value→Value→Sem Value}{r a8:eo}(h:dp X f r)(h':dp X f a8):dp X f (fun x y H Q=>r x y H Q∨a8 x y H Q):=by
 intro pins s σ H x y v u Q I bl b7 q;rcases q with q|q
 ·exact h pins s σ H x y v u Q I bl b7 q
 ·exact h' pins s σ H x y v u Q I bl b7 q
theorem mP(b:Expr){op:CmpOp}(h:op≠.In:=by decide)(h2:op≠.NotIn:=by decide):behindInMarks op b=false:=by
 have ak:(op==CmpOp.In)=false:=by cases op<;>first|rfl|exact absurd rfl h
 have ay:(op==CmpOp.NotIn)=false:=by cases op<;>first|rfl|exact absurd rfl h2
 cases b<;>simp[behindInMarks,ak,ay]
theorem T8{op:CmpOp}{r:eo}(ho:dp X (compareOp op) r)(ha:aT X a bX)(hb:aT X b tb)(hm:behindInMarks op b=false):aT X (.Compare a [op] [b] pos) (tV r bX tb):=by intro pins s σ H Q I h;exact wpAny_Compare1 (yO ha hb I h fun v u s2 x y aS bT bl b7 q=>ho pins s2 σ aS x y v u Q bT bl b7 q) hm
def B0(t:TE):TT:=fun σ H Q=>t σ H fun x H'=>∃k,x=.au k∧Q k H'
theorem UU{op:CmpOp}{r:eo}(ho:dp X (compareOp op) r)(ha:aT X a bX)(hb:aT X b tb)(hm:behindInMarks op b=false):eR X (.Compare a [op] [b] pos) (B0 (tV r bX tb)):=by
 intro pins s σ H Q I h;refine wpAny_isTrue_Compare1 (bF (ha pins s σ H _ I h) fun v s1⟨x,H1,aL,ar,aM⟩=>bF (hb pins s1 σ H1 _ aL aM) fun u s2⟨y,aS,bT,a5,a_⟩=>
  bF (ho pins s2 σ aS x y v u _ bT ar a5 a_) fun c s3⟨z,cQ,dC,dN,k,e,c_⟩=>?_) hm
 subst e;cases dN;exact wpAny_truthy_bool ⟨cQ,dC,c_⟩
noncomputable def BV(r a8:eo)(bX tb fP:TE):TE:=fun σ H Q=>bX σ H fun x H1=>tb σ H1 fun y aS=>r x y aS fun z cQ=>∃k,z=.au k∧
 (if k=true then fP σ cQ fun eY gA=>a8 y eY gA Q else Q (.au false) cQ)
theorem T6{op fN:CmpOp}{r a8:eo}(ho:dp X (compareOp op) r)(ho':dp X (compareOp fN) a8)(ha:aT X a bX)(hb:aT X b tb)(hc:aT X c fP)(hm:lastMarks [op,fN] [b,c]=false:=by with_unfolding_all rfl):aT X (.Compare a [op,fN] [b,c] pos) (BV r a8 bX tb fP):=by
 intro pins s σ H Q I h;refine Compare_chain (bF (ha pins s σ H _ I h) fun v s1⟨x,H1,aL,ar,aM⟩=>chain_link (bF (hb pins s1 σ H1 _ aL aM) fun u s2⟨y,aS,bT,a5,a_⟩=>
  bF (ho pins s2 σ aS x y v u _ bT ar a5 a_) fun d s3⟨z,cQ,dC,dN,k,e,c_⟩=>?_)) hm
 subst e;cases dN;refine wpAny_truthy_bool ?_;cases k with
 |false=>exact ite_ff ⟨.au false,cQ,dC,rfl,c_⟩
 |true=>exact ite_tt (chain_last (bF (hc pins s3 σ cQ _ dC c_) fun eY s4⟨f6,gA,jV,lQ,hL⟩=>ho' pins s4 σ gA y f6 u eY Q jV a5 lQ hL))
theorem UT{op fN:CmpOp}{r a8:eo}(ho:dp X (compareOp op) r)(ho':dp X (compareOp fN) a8)(ha:aT X a bX)(hb:aT X b tb)(hc:aT X c fP)(hm:lastMarks [op,fN] [b,c]=false:=by with_unfolding_all rfl):eR X (.Compare a [op,fN] [b,c] pos) (B0 (BV r a8 bX tb fP)):=by
 intro pins s σ H Q I h;refine isTrue_chain (bF (ha pins s σ H _ I h) fun v s1⟨x,H1,aL,ar,aM⟩=>test_link (bF (hb pins s1 σ H1 _ aL aM) fun u s2⟨y,aS,bT,a5,a_⟩=>
  bF (ho pins s2 σ aS x y v u _ bT ar a5 a_) fun d s3⟨z,cQ,dC,dN,k,e,c_⟩=>?_)) hm
 subst e;cases dN;refine wpAny_truthy_bool ?_;cases k with
 |false=>obtain⟨k',b3,cV⟩:=c_;cases b3;exact ite_ff ⟨cQ,dC,cV⟩
 |true=>refine ite_tt (test_last (bF (hc pins s3 σ cQ _ dC c_) fun eY s4⟨f6,gA,jV,lQ,hL⟩=>bF (ho' pins s4 σ gA y f6 u eY _ jV a5 lQ hL) fun d' s5⟨aZ,iz,l5,ob,k2,ay,jI⟩=>?_));subst ay;cases ob;exact wpAny_truthy_bool ⟨iz,l5,jI⟩
noncomputable def Lh(K:PySem.W.Frag)(x:V)(H:ag)(k:Bool):Prop:=
 match x with
 |.non=>k=false
 |.au b=>k=b
 |.int i=>k=(i !=0)
 |.str y=>y.length≤sizeLine∧k=((y.length:Int) !=0)
 |.lu y=>y.size≤sizeLine∧k=((y.size:Int) !=0)
 |.ref p=>(∃xs,bU K H p xs∧k=!xs.isEmpty)∨(∃xs,cK K H p xs∧k=!xs.isEmpty)∨∃aR,H p=some (.cY aR)∧k=!aR.isEmpty
 |_=>False
theorem QL{κ:Type}{aR:List (κ×V)}{vs:List (κ×Value)}(r:fe aR vs):(!vs.isEmpty)=!aR.isEmpty:=by cases r<;>rfl
theorem Gy{xs:List V}{its:List Value}(r:Vals xs its):(!its.toArray.isEmpty)=!xs.isEmpty:=by cases r<;>simp
theorem q3:(sizeLine:Nat)<2^63:=by rw[sizeLine_eq];decide
theorem abb:Lg X (fun x H Q=>∃k,Lh X.K x H k∧Q k H):=by
 intro pins s σ H x v Q I bl h;obtain⟨k,e,q⟩:=h;have hl:=q3;have hs:sizeLine=16777216:=sizeLine_eq;cases x with
 |non=>cases bl;have b3:k=false:=e;subst b3;exact truthy_none ⟨H,I,q⟩
 |au b=>cases bl;have b3:k=b:=e;subst b3;exact wpAny_truthy_bool ⟨H,I,q⟩
 |int i=>obtain⟨t,rfl⟩:=bl;have b3:k=(i !=0):=e;subst b3;exact PySem.P.truthy_int ⟨H,I,q⟩
 |str y=>obtain⟨t,rfl⟩:=bl;obtain⟨bJ,b3⟩:y.length≤sizeLine∧k=((y.length:Int) !=0):=e;subst b3;exact PySem.P.truthy_str (by omega) ⟨H,I.tok _,q⟩
 |lu y=>obtain⟨t,rfl⟩:=bl;obtain⟨bJ,b3⟩:y.size≤sizeLine∧k=((y.size:Int) !=0):=e;subst b3;exact PySem.W.truthy_bytes (by omega) ⟨H,I.tok _,q⟩
 |ref p=>
  cases bl;have b3:(∃xs,bU X.K H p xs∧k=!xs.isEmpty)∨(∃xs,cK X.K H p xs∧k=!xs.isEmpty)∨∃aR,H p=some (.cY aR)∧k=!aR.isEmpty:=e;rcases b3 with⟨xs,hx,b3⟩|⟨xs,hx,b3⟩|⟨aR,hx,b3⟩
  ·subst b3;obtain⟨its,r,pl,bq⟩:=I.list hx;have hlen:=r.length;exact wpAny_truthy_list pl.isList (by simp only[List.size_toArray];omega) ⟨H,I.tok _,by rw[Gy r];exact q⟩
  ·subst b3;obtain⟨its,r,pl,bq⟩:=I.tuple hx;have hlen:=r.length;exact truthy_tuple pl (by simp only[List.size_toArray];omega) ⟨H,I.tok _,by rw[Gy r];exact q⟩
  ·subst b3;obtain⟨bq,iJ,vs,r,m⟩:aR.length≤sizeLine∧(p==sysModules)=false∧∃vs,fe aR vs∧s.heap.DictOf (hI X.prog X.w) p vs:=I.br p _ hx;have hlen:aR.length=vs.length:=Paired.length r;exact wpAny_truthy_dict iJ m (by omega) ⟨H,I.tok _,by rw[QL r];exact q⟩
 |_=>exact(show False from e).elim
theorem TF:dp X (binaryOp .Add) (fun x y H Q=>∃i j,x=.str i∧y=.str j∧i.length+j.length≤sizeLine∧Q (.str (i++j)) H):=by intro pins s σ H x y v u Q I bl b7 h;obtain⟨i,j,rfl,rfl,bq,q⟩:=h;obtain⟨t,rfl⟩:=bl;obtain⟨t',rfl⟩:=b7;exact add_str (fun t' cM=>⟨.str (i++j),H,I.tok _,⟨_,rfl⟩,q⟩) bq
theorem vals1{x:V}{us:List Value}(r:Vals [x] us):∃u,us=[u]∧RelV x u:=by
 cases r with
 |cons ar a5=>cases a5;exact⟨_,rfl,ar⟩
theorem vals2{x y:V}{us:List Value}(r:Vals [x,y] us):∃u eY,us=[u,eY]∧RelV x u∧RelV y eY:=by
 cases r with
 |cons ar a5=>
  cases a5 with
  |cons dN lQ=>cases lQ;exact⟨_,_,rfl,ar,dN⟩
theorem L7:jm X (.type "str") (fun xs H Q=>∃i,xs=[.int i]∧i.natAbs.log2<1920∧Q (.str (toString i)) H):=by intro pins s σ H xs us Q I r h;obtain⟨i,rfl,bq,q⟩:=h;obtain⟨u,rfl,t,rfl⟩:=vals1 r;exact PySem.P.str_of_int bq ⟨.str _,H,I.tok _,⟨_,rfl⟩,q⟩
noncomputable def CR(K:PySem.W.Frag)(x:V)(H:ag)(n:Nat):Prop:=
 match x with
 |.str y=>y.length≤sizeLine∧n=y.length
 |.lu y=>y.size≤sizeLine∧n=y.size
 |.ref p=>(∃xs,bU K H p xs∧n=xs.length)∨∃xs,cK K H p xs∧n=xs.length
 |_=>False
theorem L2:jm X (.builtin "len") (fun xs H Q=>∃x n,xs=[x]∧CR X.K x H n∧Q (.int n) H):=by
 intro pins s σ H xs us Q I r h;obtain⟨x,n,rfl,e,q⟩:=h;obtain⟨u,rfl,bl⟩:=vals1 r;have hl:=q3;have hs:sizeLine=16777216:=sizeLine_eq;cases x with
 |str y=>obtain⟨t,rfl⟩:=bl;obtain⟨bJ,b3⟩:y.length≤sizeLine∧n=y.length:=e;subst b3;exact len_str (by omega) ⟨.int _,H,I.tok _,⟨_,rfl⟩,q⟩
 |lu y=>obtain⟨t,rfl⟩:=bl;obtain⟨bJ,b3⟩:y.size≤sizeLine∧n=y.size:=e;subst b3;exact PySem.W.len_bytes (by omega) ⟨.int _,H,I.tok _,⟨_,rfl⟩,q⟩
 |ref p=>
  cases bl;have b3:(∃xs,bU X.K H p xs∧n=xs.length)∨∃xs,cK X.K H p xs∧n=xs.length:=e;rcases b3 with⟨xs,hx,b3⟩|⟨xs,hx,b3⟩
  ·subst b3;obtain⟨its,a8,pl,bq⟩:=I.list hx;have hlen:=a8.length;exact Calls.call_len_list pl.isList (by simp only[List.size_toArray];omega) ⟨.int xs.length,H,I.tok _,⟨_,by simp only[List.size_toArray];rw[hlen]⟩,q⟩
  ·subst b3;obtain⟨its,a8,pl,bq⟩:=I.tuple hx;have hlen:=a8.length;exact len_tuple pl (by simp only[List.size_toArray];omega) ⟨.int xs.length,H,I.tok _,⟨_,by simp only[List.size_toArray];rw[hlen]⟩,q⟩
 |_=>exact(show False from e).elim
end
structure oQ(h:Heap)(x aN C:Addr)(dK:Str→Option Value):Prop where
 obj:h.get? x=some (PySem.W.instObj C aN)
 ns:h.Ns1 aN dK
 ne:aN≠x
theorem Se{h:Heap}{aN:Addr}{dK:Str→Option Value}(n:h.Ns1 aN dK):∃dv,h.get? aN=some dv∧∀name,PySem.W.lookIn name dv=some (dK name):=by
 obtain⟨o,es,cH,ho,hd,hk,_,hm⟩:=n;refine⟨o,ho,fun name=>?_⟩;have e:=hm name;unfold nsFind findBy at e;rw[←Array.find?_toList]at e;unfold PySem.W.lookIn;rw[hd];dsimp only
 split
 ·rename_i y q;rw[q]at e;exact congrArg some e
 ·rename_i q;rw[q]at e;have a:es.toList.any (·.refKey)=false:=by
   rw[List.any_eq_false];intro y bJ;obtain⟨z,t,O1⟩:=hk y (Array.mem_toList_iff.mp bJ);simp[DictEntry.refKey,O1]
  have mh:¬es.toList.any (·.refKey)=true:=by rw[a];exact Bool.false_ne_true
  rw[if_neg mh];exact congrArg some e
theorem oQ.look{h:Heap}{x aN C:Addr}{dK:Str→Option Value}(I:oQ h x aN C dK):∃dv,PySem.W.InstAt h x (PySem.W.instObj C aN) C (some dv)∧∀name,PySem.W.lookIn name dv=some (dK name):=
 let⟨dv,ho,hl⟩:=Se I.ns
 ⟨dv,⟨I.obj,rfl,rfl,ho⟩,hl⟩
section
variable{prog:Program}{w:World}{A:Around}{E:Value→Shared→Prop}{s:Shared}{K:PySem.W.Frag}{x aN C f:Addr}{dK:Str→Option Value}{name:Str}{v:Value}
theorem get_map{expr:Bool}{Q:Value→Shared→Prop}(X:K.In s.heap)(I:oQ s.heap x aN C dK)(hg:PySem.W.plainGet K C name=true)(hh:PySem.W.hasDictIn K C=true)(ha:PySem.W.findIn K (.ref C) name=some none)(hv:dK name=some v)(vM:PySem.W.handedIn v=true)(h:Q v { s with toks:=s.toks+1 }) :
  wpAny (model prog w) A (getAttr (.ref x) name expr) Q E s:=by
 obtain⟨dv,bx,hl⟩:=I.look;exact PySem.W.get_value X bx (PySem.W.plainGet_of hg).1 (PySem.W.findObj_own hh ha rfl (by rw[hl,hv])) vM h
theorem Ol{pl:Sem Bool}{Q:Value×List Value→Shared→Prop}(X:K.In s.heap)(I:oQ s.heap x aN C dK)(hg:PySem.W.plainGet K C name=true)(hf:PySem.W.findIn K (.ref C) name=some (some (.ref f)))(ht:PySem.W.isFn K (.ref f)=true)(hv:dK name=none)(h:Q (.ref f,[.ref x]) s) :
  wpAny (model prog w) A (getMethod (.ref x) name pl) Q E s:=by
 obtain⟨dv,bx,hl⟩:=I.look;exact PySem.W.method_fn X bx (PySem.W.plainGet_of hg).1 (PySem.W.plainGet_of hg).2 hf (beq_iff_eq.mp ht) (by show(PySem.W.lookIn name dv).map (·.isSome)=some false;rw[hl,hv];rfl) h
theorem WK{ns:List Str}{Q:Unit→Shared→Prop}(X:K.In s.heap)(I:oQ s.heap x aN C dK)(hs:PySem.W.findIn K (.ref C) "__setattr__"=some (some (.builtin "object.__setattr__")))(hp:PySem.W.plainOver K C=true)(ht:PySem.W.takerIn K C name=some none)(hh:PySem.W.hasDictIn K C=true)(hw:PySem.Within dK ns)(hsz:ns.length≤sizeLine)(h:∀h',oQ h' x aN C (fun y=>if y=name then some v else dK y)→Heap.SameBut aN s.heap h'→Q () { s with heap:=h',toks:=s.toks+2 }) :
  wpAny (model prog w) A (setAttr (.ref x) name v) Q E s:=by
 obtain⟨dv,bx,hl⟩:=I.look;refine PySem.W.set_plain X bx hs (PySem.W.osa_open (s:={ s with toks:=s.toks+1 }) (r:=none) X bx hp ht fun b=>?_);obtain⟨cd,hc,jb⟩:=PySem.W.any_some hh;have hx:s.heap.get? x=some ⟨.ref C,some aN,.plain,#[]⟩:=I.obj;refine wpAny_bind (wpAny_pure (wpAny_bind (wpAny_bind (wpAny_loadPart hx (wpAny_bind (PySem.W.Looks.here (s:={ s with toks:=s.toks+1 }) (PySem.W.looks_clsIn X hc) ?_))))));rw[jb];refine wpAny_pure (a:=some aN) (wpAny_bind (wpAny_pure (wpAny_bind ?_)));refine wpAny_nsSet1 (s:={ s with toks:=s.toks+1 }) I.ns fun h' vI hs2=>?_;obtain⟨aaJ,ZS,ZQ,Pb,OJ,OE⟩:=vI.count (PySem.Within.cons name v hw);refine wpAny_bind (wpAny_lookBehind Pb (by rw[OJ];exact pastItsLine_dict (Nat.le_trans OE (by rw[List.length_cons];omega))) ?_);exact wpAny_pure (h _ ⟨(hs2.2 _ (Ne.symm I.ne)).trans I.obj,vI,I.ne⟩ hs2)
theorem Hh {R:Result→Shared→Prop} {vs:List Value} {kw:List (Str×Value)} (X:K.In s.heap) (hm:PySem.W.makesIn K C=true)(hi:PySem.W.findIn K (.ref C) "__init__"=some (some (.ref f))) (hf:PySem.W.typeIn K (.ref f)=some (.type "function"))(h:codeAny (model prog w) (A.under (.builtin "type.__call__" ⟨.ref C::vs,kw⟩)) (.call (.ref f) ⟨.ref (s.heap.objs.size+1)::vs,kw⟩) (PySem.W.InitBack (s.heap.objs.size+1) R)
    { s with heap:=(s.heap.push PySem.W.emptyDict).push (PySem.W.instObj C s.heap.objs.size) }) :
  codeAny (model prog w) A (.call (.ref C) ⟨vs,kw⟩) R s:=by
 obtain⟨hh,g,d,t,os⟩:=s;exact PySem.W.make_core (PySem.W.makes_of X hm) (PySem.W.looks_findIn X hi) (fun self=>PySem.W.bind_fn X self hf) (.inl rfl) h
end
noncomputable def gW(f:Str)(v:V):List (Str×V)→List (Str×V)
 |[]=>[(f,v)]
 |(g,x)::r=>if g=f then(g,v)::r else(g,x)::gW f v r
theorem G_(f g:Str)(v:V):∀aP:List (Str×V),(gW f v aP).lookup g=if g=f then some v else aP.lookup g
 |[]=>by
  show List.lookup g [(f,v)]=_;by_cases h:g=f
  ·have hb:(g==f)=true:=beq_iff_eq.mpr h;simp only[List.lookup,hb,if_pos h]
  ·have hb:(g==f)=false:=beq_eq_false_iff_ne.mpr h;simp only[List.lookup,hb,if_neg h]
 |(k,x)::r=>by
  have bW:=G_ f g v r;rw[show gW f v ((k,x)::r)=(if k=f then(k,v)::r else(k,x)::gW f v r)from rfl];by_cases hk:k=f
  ·rw[if_pos hk];by_cases h:g=k
   ·have hb:(g==k)=true:=beq_iff_eq.mpr h;simp only[List.lookup,hb,if_pos (h.trans hk)]
   ·have hb:(g==k)=false:=beq_eq_false_iff_ne.mpr h;simp only[List.lookup,hb,if_neg (fun e:g=f=>h (e.trans hk.symm))]
  ·rw[if_neg hk];by_cases h:g=k
   ·have hb:(g==k)=true:=beq_iff_eq.mpr h;simp only[List.lookup,hb,if_neg (fun e:g=f=>hk (h.symm.trans e))]
   ·have hb:(g==k)=false:=beq_eq_false_iff_ne.mpr h;simp only[List.lookup,hb];exact bW
theorem z4(f:Str)(v:V):∀aP:List (Str×V),f∈(gW f v aP).map (·.1)∧∀g,g∈aP.map (·.1)→g∈(gW f v aP).map (·.1)
 |[]=>⟨by simp[gW],fun g h=>by simp at h⟩
 |(k,x)::r=>by
  obtain⟨bK,bQ⟩:=z4 f v r;rw[show gW f v ((k,x)::r)=(if k=f then(k,v)::r else(k,x)::gW f v r)from rfl];by_cases hk:k=f
  ·rw[if_pos hk];subst hk;exact⟨by simp,fun g h=>by simpa using h⟩
  ·rw[if_neg hk];refine⟨?_,fun g h=>?_⟩
   ·rw[List.map_cons];exact List.mem_cons_of_mem _ bK
   ·rw[List.map_cons]at h ⊢;rcases List.mem_cons.mp h with e|e
    ·exact List.mem_cons.mpr (.inl e)
    ·exact List.mem_cons_of_mem _ (bQ g e)
theorem G7(f:Str)(v:V):∀aP:List (Str×V),(gW f v aP).length≤aP.length+1
 |[]=>by simp[gW]
 |(k,x)::r=>by
  have bW:=G7 f v r;rw[show gW f v ((k,x)::r)=(if k=f then(k,v)::r else(k,x)::gW f v r)from rfl];by_cases hk:k=f
  ·rw[if_pos hk,List.length_cons,List.length_cons];omega
  ·rw[if_neg hk,List.length_cons,List.length_cons];omega
theorem hX.some_of{v:V}{o:Option Value}(r:hX (some v) o):∃u,o=some u∧RelV v u:=by
 cases o with
 |none=>exact(show False from r).elim
 |some u=>exact⟨u,rfl,r⟩
theorem hX.none_of{o:Option Value}(r:hX none o):o=none:=by
 cases o with
 |none=>rfl
 |some u=>exact(show False from r).elim
theorem OB{v:V}{u:Value}(r:RelV v u):PySem.W.handedIn u=true:=by
 cases v with
 |non=>cases(show u=Value.none from r);rfl
 |au b=>cases(show u=Value.bool b from r);rfl
 |int i=>obtain⟨t,e⟩:=(show ∃t,u=Value.int i t from r);cases e;rfl
 |str x=>obtain⟨t,e⟩:=(show ∃t,u=Value.str x t from r);cases e;rfl
 |lu b=>obtain⟨t,e⟩:=(show ∃t,u=Value.bytes b t from r);cases e;rfl
 |vq b=>obtain⟨t,e⟩:=(show ∃t,u=Value.float b t from r);cases e;rfl
 |ref a=>cases(show u=Value.ref a from r);rfl
 |ty n=>cases(show u=Value.type n from r);rfl
section
variable{P:Program}{w:World}{H H':ag}{h h':Heap}{a C aN:Addr}{aP FD:List (Str×V)}
theorem zU(br:d2 P w H h)(e:H a=some (.ins C aN aP)):∃dK,oQ h a aN C dK∧(∀f,hX (aP.lookup f) (dK f))∧PySem.Within dK (aP.map (·.1))∧aP.length≤1000∧H aN=some (.own a):=by obtain⟨d,z,ne,aV,dK,n,r,q⟩:=(show eI P w H h a (.ins C aN aP)from br a _ e);exact⟨dK,⟨aV,n,ne⟩,r,q,z,d⟩
end
structure iT(K:PySem.W.Frag)(C:Addr):Prop where
 Ut:PySem.W.plainGet K C Str.empty=true
 hd:PySem.W.hasDictIn K C=true
 po:PySem.W.plainOver K C=true
 mU:PySem.W.findIn K (.ref C) "__setattr__"=some (some (.builtin "object.__setattr__"))
theorem iT.get{K:PySem.W.Frag}{C:Addr}(c:iT K C)(f:Str):PySem.W.plainGet K C f=true:=c.Ut
def oO(K:PySem.W.Frag)(C:Addr)(f:Str):Prop:=PySem.W.findIn K (.ref C) f=some none
theorem oO.XQ{K:PySem.W.Frag}{C:Addr}{f:Str}(n:oO K C f):PySem.W.takerIn K C f=some none:=by unfold PySem.W.takerIn;rw[show PySem.W.findIn K (.ref C) f=some none from n];rfl
structure Meth(K:PySem.W.Frag)(C:Addr)(m:Str)(f:Addr):Prop where
 at_:PySem.W.findIn K (.ref C) m=some (some (.ref f))
 fn:PySem.W.isFn K (.ref f)=true
 aH:PySem.W.keepIn K (.ref f)=true
section
variable{X:aC}{pins:List (Addr×Obj)}{σ :St}{H:ag}{s:Shared}{a C aN:Addr}{aP:List (Str×V)}{f:Str}{v:V}{A:Around}{E:Value→Shared→Prop}
theorem Om{b:Bool}{Q:Value→Shared→Prop}(I:Inv X pins σ H s)(e:H a=some (.ins C aN aP))(c:iT X.K C)(n:oO X.K C f)(l:aP.lookup f=some v)(h:∀u s',Inv X pins σ H s'→RelV v u→Q u s'):wpAny (model X.prog X.w) A (getAttr (.ref a) f b) Q E s:=by obtain⟨dK,O,r,_,_,_⟩:=zU I.br e;obtain⟨u,hu,eb⟩:=hX.some_of (v:=v) (o:=dK f) (by rw[←l];exact r f);exact get_map I.eC O (c.get f) c.hd n hu (OB eb) (h u _ (I.tok _) eb)
theorem zu{m:Str}{g:Addr}{pl:Sem Bool}{Q:Value×List Value→Shared→Prop}(I:Inv X pins σ H s)(e:H a=some (.ins C aN aP))(c:iT X.K C)(k:Meth X.K C m g)(l:aP.lookup m=none)(h:Q (.ref g,[.ref a]) s):wpAny (model X.prog X.w) A (getMethod (.ref a) m pl) Q E s:=by obtain⟨dK,O,r,_,_,_⟩:=zU I.br e;have aE:dK m=none:=hX.none_of (by rw[←l];exact r m);exact Ol I.eC O (c.get m) k.at_ k.fn aE h
theorem WL{y:V}{u:Value}{Q:Unit→Shared→Prop}(I:Inv X pins σ H s)(e:H a=some (.ins C aN aP))(c:iT X.K C)(n:oO X.K C f)(hl:aP.length<1000)(b7:RelV y u)(h:∀s',Inv X pins σ (upd H a (.ins C aN (gW f y aP))) s'→Q () s'):wpAny (model X.prog X.w) A (setAttr (.ref a) f u) Q E s:=by
 obtain⟨dK,O,r,iv,_,ho⟩:=zU I.br e;have bq:(aP.map (·.1)).length≤sizeLine:=by rw[List.length_map,sizeLine_eq];omega
 refine WK I.eC O c.mU c.po n.XQ c.hd iv bq fun h' rX eO=>h _ ?_;have hd:∃o,h'.get? aN=some o:=let⟨o,_,_,b3,_⟩:=rX.ns;⟨o,b3⟩
 refine I.write (x:=a) (e:=aN) (by rw[e];exact True.intro) (.inr ho) (fun b q hb z=>(eO.2 b hb).trans z) hd ?_;refine⟨by rw[c2 O.ne];exact ho,?_,O.ne,rX.obj,_,rX.ns,fun g=>?_,fun g hg=>?_⟩
 ·have:=G7 f y aP;omega
 ·show hX ((gW f y aP).lookup g) (if g=f then some u else dK g);rw[G_];by_cases q:g=f
  ·rw[if_pos q,if_pos q];exact b7
  ·rw[if_neg q,if_neg q];exact r g
 ·by_cases q:g=f
  ·rw[q];exact(z4 f y aP).1
  ·refine(z4 f y aP).2 g (iv g fun z=>hg ?_);show(if g=f then some u else dK g)=none;rw[if_neg q];exact z
theorem Inv.made(I:Inv X pins σ H s):Inv X pins σ (upd (upd H s.heap.objs.size (.own (s.heap.objs.size+1))) (s.heap.objs.size+1) (.ins C s.heap.objs.size []))
  { s with heap:=(s.heap.push PySem.W.emptyDict).push (PySem.W.instObj C s.heap.objs.size) }:=by
 have ak:(s.heap.push PySem.W.emptyDict).get? s.heap.objs.size=some PySem.W.emptyDict:=Heap.get?_push_size s.heap rfl;have ay:((s.heap.push PySem.W.emptyDict).push (PySem.W.instObj C s.heap.objs.size)).get? (s.heap.objs.size+1)=some (PySem.W.instObj C s.heap.objs.size):=by
  have:=Heap.get?_push_size (s.heap.push PySem.W.emptyDict) (o:=PySem.W.instObj C s.heap.objs.size) rfl
  rwa [Heap.size_push]at this
 have b4:(s.heap.push PySem.W.emptyDict).Ns s.heap.objs.size (fun _=>none):=⟨PySem.W.emptyDict,#[],_,ak,rfl,(fun e he=>absurd he (by simp)),fun _=>rfl⟩;have aL:=I.laid (a:=s.heap.objs.size) (o:=.own (s.heap.objs.size+1)) (h':=s.heap.push PySem.W.emptyDict) (t':=s.toks) (fun b u q=>Heap.get?_push_of_some _ q) (Nat.le_refl _) ⟨_,ak⟩;refine aL.laid (a:=s.heap.objs.size+1) (o:=.ins C s.heap.objs.size []) (t':=s.toks) (fun b u q=>Heap.get?_push_of_some _ q) (Nat.le_of_eq (Heap.size_push _ _)) ?_;have ne:s.heap.objs.size≠s.heap.objs.size+1:=Nat.ne_of_lt (Nat.lt_succ_self _);refine⟨by rw[c2 ne,d0],Nat.zero_le _,ne,ay,fun _=>none,(Heap.Ns1.of_empty b4).at fun o q=>Heap.get?_push_of_some _ q,fun _=>True.intro,fun y bJ=>absurd rfl bJ⟩
theorem LC{prog:Program}{w:World}{env:Env}{e:Expr}{f:Str}{pos:Pos}{s:Shared}{Q:Value→Shared→Prop}(hb:attributeBase e f env (eval e env)=eval e env)(h:wpAny (model prog w) A (eval e env) (fun o cX=>wpAny (model prog w) A (getAttr o f true) Q E cX) E s):wpAny (model prog w) A (eval (.Attribute e f pos) env) Q E s:=
 Attribute_any_ h (by rw[arm_eval_Attribute,hb])
end
noncomputable def Xg(K:PySem.W.Frag)(bX:TE)(f:Str):TE:=fun σ H Q=>bX σ H fun x H1=>∃a C aN aP v,x=.ref a∧H1 a=some (.ins C aN aP)∧iT K C∧oO K C f∧aP.lookup f=some v∧Q v H1
noncomputable def VJ(K:PySem.W.Frag)(bX mX:TE)(f:Str):eL:=fun D σ H=>mX σ H fun y H1=>bX σ H1 fun x aS=>∃a C aN aP,x=.ref a∧aS a=some (.ins C aN aP)∧iT K C∧oO K C f∧aP.length<1000∧
 D.bk σ (upd aS a (.ins C aN (gW f y aP)))
section
variable{X:aC}{o e value:Expr}{f:Str}{pos pos' rA:Pos}{bX mX:TE}
theorem Uc(he:aT X e bX)(hb:attributeBase e f X.env (eval e X.env)=eval e X.env):aT X (.Attribute e f pos) (Xg X.K bX f):=by intro pins s σ H Q I h;refine LC hb (bF (he pins s σ H _ I h) fun u s1⟨x,H1,aL,bl,a,C,aN,aP,v,ex,aq,c,n,l,q⟩=>?_);subst ex;obtain rfl:u=Value.ref a:=bl;exact Om aL aq c n l fun iq s2 bT eb=>⟨v,H1,bT,eb,q⟩
theorem UP(ha:aT X o bX)(hv:aT X value mX)(hs:swapsWith value (some (.Attribute o f pos')) pos.line X.env=pure false):c7 X (.Assign [.Attribute o f pos'] value pos) (VJ X.K bX mX f):=by intro pins s σ H D I h;refine plainObj_wpAny_Assign_Attribute (bF (hv pins s σ H _ I h) fun u s1⟨y,H1,aL,b7,q⟩=>bF (ha pins s1 σ H1 _ aL q) fun dF s2⟨x,aS,bT,bl,a,C,aN,aP,ex,aq,c,n,l,a_⟩=>?_) hs;subst ex;obtain rfl:dF=Value.ref a:=bl;exact WL bT aq c n l b7 fun s3 dC=>⟨σ,_,dC,a_⟩
theorem aaE {pl:Sem Bool} {m:Str} {apos:Pos} {args:List Expr} {pins:List (Addr×Obj)} {s:Shared} {σ :St} {H:ag} {Q:Value→Shared→Prop} {dw:TE} (he:aT X e dw) (I:Inv X pins σ H s)(h:dw σ H fun x H1=>∃a C aN aP g,x=.ref a∧H1 a=some (.ins C aN aP)∧iT X.K C∧Meth X.K C m g∧aP.lookup m=none∧
    ∀s1,Inv X pins σ H1 s1→wpAny (model X.prog X.w) X.A (callWith pos (.ref g) [.ref a] (backTo pos (starEach args X.env)) (backToKw pos (keywordEach [] X.env))) Q X.xe s1)
  (ht:eval (.Call (.Attribute e m apos) args [] pos) X.env=(do
    let dF ←eval e X.env
    standAt apos.atName
    let(f,first) ←holding [dF] (getMethod dF m pl)
    callWith pos f first (backTo pos (starEach args X.env)) (backToKw pos (keywordEach [] X.env)))) :
  wpAny (model X.prog X.w) X.A (eval (.Call (.Attribute e m apos) args [] pos) X.env) Q X.xe s:=by
 refine PySem.W.methodCall_KW (pl:=pl) (bF (he pins s σ H _ I h) fun u s1⟨x,H1,aL,bl,a,C,aN,aP,g,ex,aq,c,k,l,q⟩=>?_) ht;subst ex;obtain rfl:u=Value.ref a:=bl;exact zu aL aq c k l (q s1 aL)
end
section
variable{X:aC}{pins:List (Addr×Obj)}{σ :St}{H:ag}{s:Shared}{A:Around}{E:Value→Shared→Prop}{Q:Value→Shared→Prop}{c:Value}{b:Bool}
end
structure c4(k:Nat)(A:Around):Prop where
 hd:A.handled=none
 vg:A.depth+3*k+5<recursionLimit
 un:A.units+16*k+200<cLine
theorem c4.mono{j k:Nat}{A:Around}(r:c4 k A)(h:j≤k):c4 j A:=⟨r.hd,by have:=r.vg;omega,by have:=r.un;omega⟩
theorem c4.deeper{k:Nat}{A:Around}(r:c4 (k+1) A)(env:Env):c4 k (A.deeper env):=
 ⟨r.hd,by have:=r.vg;show A.depth+1+3*k+5<_;omega,by have:=r.un;show A.units+3+16*k+200<_;omega⟩
theorem Sv{A:Around}{C:Addr}{us:List Value}{kw:List (Str×Value)}:(A.under (.builtin "type.__call__" ⟨.ref C::us,kw⟩)).depth=A.depth+1:=by
 first|rfl|simp[Around.under,Code.weight,Code.isCreation,Code.isGuard,Code.isCaller,Code.frames,Code.isFrame,guardIds]
theorem Sw{A:Around}{C:Addr}{us:List Value}{kw:List (Str×Value)}:(A.under (.builtin "type.__call__" ⟨.ref C::us,kw⟩)).units=A.units+1:=by
 first|rfl|simp[Around.under,Code.cUnits,Code.frames,Code.isFrame]
theorem c4.make{k:Nat}{A:Around}(r:c4 (k+1) A)(C:Addr)(us:List Value)(kw:List (Str×Value)):c4 k (A.under (.builtin "type.__call__" ⟨.ref C::us,kw⟩)):=
 ⟨r.hd,by have:=r.vg;rw[Sv];omega,by have:=r.un;rw[Sw];omega⟩
theorem c4.depth{k:Nat}{A:Around}(r:c4 k A):A.depth<recursionLimit:=by have:=r.vg;omega
theorem c4.units{k:Nat}{A:Around}(r:c4 k A):A.units+64<cLine:=by have:=r.un;omega
def tU:eK:=fun _ H Q=>Q [] H
def tT(bX:TE)(eu:eK):eK:=fun σ H Q=>bX σ H fun x H1=>eu σ H1 fun xs aS=>Q (x::xs) aS
section
variable{X:aC}{e:Expr}{es:List Expr}{dw:TE}{t:eK}{pos:Pos}
theorem lO:eJ X [] tU:=fun _ _ _ _ H Q I h=>Calls.spliced_nil ⟨[],H,I,.nil,h⟩
theorem jH(ha:aT X e dw)(hr:eJ X es t)(hs:starEach (e::es) X.env=(false,eval e X.env)::starEach es X.env:=by rfl):eJ X (e::es) (tT dw t):=by intro pos pins s σ H Q I h;rw[hs];show wpAny _ _ (spliced ((false,eval e X.env)::backTo pos (starEach es X.env))) _ _ s;refine Calls.spliced_cons (bF (ha pins s σ H _ I h) fun u s1⟨x,H1,aL,ar,aM⟩=>?_);exact bF (hr pos pins s1 σ H1 _ aL aM) fun us s2⟨xs,aS,bT,a5,a_⟩=>⟨x::xs,aS,bT,.cons ar a5,a_⟩
noncomputable def B1(t:eK):TE:=fun σ H Q=>t σ H fun xs H1=>xs.length≤sizeLine∧∀p,H1 p=none→Q (.ref p) (upd H1 p (.tup xs))
noncomputable def JA(t:eK):TE:=fun σ H Q=>t σ H fun xs H1=>xs.length≤sizeLine∧∀p,H1 p=none→Q (.ref p) (upd H1 p (.lst xs))
theorem HY{fB}(h:eJ X es t):aT X (.Tuple es fB pos) (B1 t):=by intro pins s σ H Q I aK;refine wpAny_Tuple_spliced (bF (h pos pins s σ H _ I aK) fun us s1⟨xs,H1,aL,r,z,q⟩=>⟨by rw[←r.length];exact z,?_⟩);have hf:H1 s1.heap.objs.size=none:=aL.br.fresh (Nat.le_refl _);refine⟨.ref s1.heap.objs.size,upd H1 s1.heap.objs.size (.tup xs),aL.laid (t':=s1.toks) (fun b u e=>Heap.get?_push_of_some _ e) (Nat.le_refl _) ?_,rfl,q _ hf⟩;exact⟨z,us,r,⟨_,Heap.get?_push_size _ rfl,rfl,_,rfl⟩⟩
theorem Uh(h:eJ X es t):aT X (.List es pos) (JA t):=by intro pins s σ H Q I aK;refine wpAny_List_spliced (bF (h pos pins s σ H _ I aK) fun us s1⟨xs,H1,aL,r,z,q⟩=>⟨by rw[←r.length];exact z,?_⟩);have hf:H1 s1.heap.objs.size=none:=aL.br.fresh (Nat.le_refl _);refine⟨.ref s1.heap.objs.size,upd H1 s1.heap.objs.size (.lst xs),aL.laid (t':=s1.toks) (fun b u e=>Heap.get?_push_of_some _ e) (Nat.le_refl _) ?_,rfl,q _ hf⟩;exact⟨z,us,0,r,Heap.get?_push_size _ rfl⟩
end
abbrev iE:=List V→ag→cj→cO→Prop
abbrev jU:=List Env→ag→Shared→cO→Value→Shared→Prop
structure oI(P:Program)(w:World)(K:PySem.W.Frag)(mg:Str→Option Value)(base:Heap)(A:Around)(outer:List Env)(s:Shared)(H:ag):Prop where
 frames:A.frames=some outer
 mod:Mod K mg base
 bs:∀b o,base.get? b=some o→s.heap.get? b=some o∧H b=none
 mn:base.objs.size≤s.heap.objs.size
 iH:s.heap.FunFrames base outer
 nB:∀b∈d5 outer,H b=none
 br:d2 P w H s.heap
 bare:AllBare s.gens
noncomputable def xR(outer:List Env)(P:Program)(w:World)(H:ag)(s:Shared)(Q:cj)(u:Value)(s':Shared):Prop:=
 ∃v H',s'.os=s.os∧AllBare s'.gens∧eZ (d5 outer) [] H H' s.heap s'.heap∧d2 P w H' s'.heap∧RelV v u∧Q v H'
noncomputable def KY(CX:jU)(outer:List Env)(P:Program)(w:World)(H:ag)(s:Shared)(Q:cj)(E:cO)(r:Result)(s':Shared):Prop:=
 match r with
 |.ok (.ret u)=>xR outer P w H s Q u s'
 |.ok _=>False
 |.error e=>CX outer H s E e s'
structure f7(P:Program)(w:World)(K:PySem.W.Frag)(mg:Str→Option Value)(base:Heap)(CX:jU)(k:Nat)(f:Addr)(fd:FuncData)(ps:List Str)(sp:iE):Prop where
 len:∀vs H Q E,sp vs H Q E→vs.length=ps.length
 run:∀(A:Around)(outer:List Env)(s:Shared)(H:ag)(args:Args)(us:List Value)(vs:List V)(Q:cj)(E:cO),c4 k A→oI P w K mg base A outer s H→BindsTo s fd args (ps.zip us)→Vals vs us→sp vs H Q E→
  codeAny (model P w) A (.call (.ref f) args) (KY CX outer P w H s Q E) s
theorem oI.make{P:Program}{w:World}{K:PySem.W.Frag}{mg:Str→Option Value}{base:Heap}{A:Around}{outer:List Env}{s:Shared}{H:ag}(e:oI P w K mg base A outer s H)(C:Addr)(us:List Value)(kw:List (Str×Value)) :
  oI P w K mg base (A.under (.builtin "type.__call__" ⟨.ref C::us,kw⟩)) outer s H:=⟨by first|exact e.frames|(simpa[Around.under,Code.envs,Code.isFrame,pushEnvs]using e.frames),e.mod,e.bs,e.mn,e.iH,e.nB,e.br,e.bare⟩
section
variable{X:aC}{pins:List (Addr×Obj)}{σ :St}{H:ag}{s s':Shared}
theorem Inv.vm(I:Inv X pins σ H s):oI X.prog X.w X.K X.mg X.base X.A X.stack s H:=
 ⟨I.ok.frames,I.ok.mod,I.bs,Nat.le_trans I.ok.mn I.pZ,I.stack,I.BP,I.br,I.bare⟩
theorem Inv.after{Q:cj}{u:Value}(I:Inv X pins σ H s)(h:xR X.stack X.prog X.w H s Q u s'):fu X pins σ Q u s':=by obtain⟨v,H',os,bare,un,br,r,q⟩:=h;obtain⟨hh,g,d,t,Au⟩:=s';obtain rfl:Au=s.os:=os;exact⟨v,H',I.call (h':=hh) (g':=g) (d':=d) (t':=t) (ch:=[]) un br bare (fun b z=>absurd z (by simp)),r,q⟩
end
def tS(sp:iE)(gg:List V)(E:cO)(t:eK):TE:=fun σ H Q=>t σ H fun vs H1=>sp (vs++gg) H1 Q E
noncomputable def xg(C:Addr)(m:Str)(sp:iE)(gg:List V)(E:cO)(bX:TE)(t:eK):TE:=fun σ H Q=>bX σ H fun x H1=>∃a aN aP,x=.ref a∧H1 a=some (.ins C aN aP)∧aP.lookup m=none∧
 t σ H1 fun vs aS=>sp (x::(vs++gg)) aS Q E
noncomputable def xf(C:Addr)(sp:iE)(gg:List V)(E:cO)(t:eK):TE:=fun σ H Q=>t σ H fun vs H1=>∀x aN,H1 x=none→H1 aN=none→aN≠x→
 sp (.ref x::(vs++gg)) (upd (upd H1 aN (.own x)) x (.ins C aN [])) (fun v aS=>v=.non∧Q (.ref x) aS) E
noncomputable def Binds(K:PySem.W.Frag)(fd:FuncData)(ps:List Str)(ds:List Value):Prop:=
 ∀(s:Shared)(us:List Value),K.In s.heap→(us++ds).length=ps.length→BindsTo s fd ⟨us,[]⟩ (ps.zip (us++ds))
theorem Binds.all{K:PySem.W.Frag}{fd:FuncData}{ps:List Str}(h:∀us:List Value,us.length=ps.length→bindArgs fd ⟨us,[]⟩=pure (ps.zip us)):Binds K fd ps []:=fun s us _ hl=>by rw[List.append_nil]at hl ⊢;exact .of_eq (h us hl)
noncomputable def Passes(CX:jU)(X:aC)(E:cO):Prop:=∀(pins:List (Addr×Obj))(σ :St)(H:ag)(s:Shared)(e:Value)(s':Shared),Inv X pins σ H s→CX X.stack H s E e s'→X.xe e s'
section
variable{X:aC}{CX:jU}{k:Nat}{f C:Addr}{fd:FuncData}{ps:List Str}{sp:iE}{gg:List V}{ds:List Value}{E:cO}{x m:Str}{p pos apos:Pos}{e o:Expr}{es:List Expr}{bX:TE}{t:eK}
theorem AP{pins:List (Addr×Obj)}{σ :St}{H:ag}{s:Shared}{Q:cj}{us:List Value}{vs:List V}(F:f7 X.prog X.w X.K X.mg X.base CX k f fd ps sp)(hr:c4 k X.A)(hb:Binds X.K fd ps ds)(hd:Vals gg ds)(hx:Passes CX X E)(I:Inv X pins σ H s)(r:Vals vs us)(h:sp (vs++gg) H Q E):wpAny (model X.prog X.w) X.A (call (.ref f) us) (fu X pins σ Q) X.xe s:=by
 have a5:Vals (vs++gg) (us++ds):=r.append hd;have hl:(us++ds).length=ps.length:=by rw[←a5.length];exact F.len _ _ _ _ h
 refine wpAny_call (codeAny_mono (F.run X.A X.stack s H ⟨us,[]⟩ (us++ds) (vs++gg) Q E hr I.vm (hb s us I.eC hl) a5 h) fun r s' aK=>?_);cases r with
 |error e=>exact hx pins σ H s e s' I aK
 |ok fl=>
  cases fl with
  |ret u=>exact I.after aK
  |next=>exact False.elim aK
  |brk=>exact False.elim aK
  |cont=>exact False.elim aK
theorem Aw(F:f7 X.prog X.w X.K X.mg X.base CX k f fd ps sp)(hr:c4 k X.A)(hg:cy X x)(hm:X.mg x=some (.ref f))(hk:PySem.W.keepIn X.K (.ref f)=true)(hb:Binds X.K fd ps ds)(hd:Vals gg ds)(hx:Passes CX X E)(ha:eJ X (e::es) t)(hdb:(x==("__debug__" :Str))=false:=by decide)(he:starEach (e::es) X.env=(false,eval e X.env)::starEach es X.env:=by rfl)(hpl:(backTo pos (starEach es X.env)).any (·.1)=false:=by rfl) :
  aT X (.Call (.Name x p) (e::es) [] pos) (tS sp gg E t):=by
 intro pins s σ H Q I h;refine wpAny_Call_Name_kw (pA I hg hm ?_ hdb);refine PySem.W.callWith_K (h₀:=X.base) I.ok.mod.lG hk (bF (ha pos pins s σ H _ I h) fun us s1⟨vs,H1,aL,r,q⟩=>⟨aL.eC,?_⟩) he hpl;exact AP F hr hb hd hx aL r q
theorem Uj {pl:Sem Bool} (he:aT X o bX) (c:iT X.K C) (hm:Meth X.K C m f) (F:f7 X.prog X.w X.K X.mg X.base CX k f fd ps sp) (hr:c4 k X.A) (hb:Binds X.K fd ps ds) (hd:Vals gg ds) (hx:Passes CX X E) (ha:eJ X (e::es) t)(hst:starEach (e::es) X.env=(false,eval e X.env)::starEach es X.env:=by rfl) (hpl:(backTo pos (starEach es X.env)).any (·.1)=false:=by rfl)(ht:eval (.Call (.Attribute o m apos) (e::es) [] pos) X.env=(do
    let dF ←eval o X.env
    standAt apos.atName
    let(f,first) ←holding [dF] (getMethod dF m pl)
    callWith pos f first (backTo pos (starEach (e::es) X.env)) (backToKw pos (keywordEach [] X.env))):=by rfl) :
  aT X (.Call (.Attribute o m apos) (e::es) [] pos) (xg C m sp gg E bX t):=by
 intro pins s σ H Q I h;refine PySem.W.methodCall_KW (pl:=pl) (bF (he pins s σ H _ I h) fun u s1⟨x,H1,aL,bl,a,aN,aP,ex,aq,l,q⟩=>?_) ht;subst ex;obtain rfl:u=Value.ref a:=bl;refine zu aL aq c hm l ?_;refine PySem.W.callWith_K (first:=[.ref a]) (h₀:=X.base) I.ok.mod.lG hm.aH (bF (ha pos pins s1 σ H1 _ aL q) fun us s2⟨vs,aS,bT,r,a_⟩=>⟨bT.eC,?_⟩) hst hpl;exact AP (us:=.ref a::us) (vs:=.ref a::vs) F hr hb hd hx bT (.cons rfl r) a_
theorem Uk {pl:Sem Bool} (he:aT X o bX) (c:iT X.K C) (hm:Meth X.K C m f) (F:f7 X.prog X.w X.K X.mg X.base CX k f fd ps sp) (hr:c4 k X.A) (hb:Binds X.K fd ps ds) (hd:Vals gg ds) (hx:Passes CX X E)(ht:eval (.Call (.Attribute o m apos) [] [] pos) X.env=(do
    let dF ←eval o X.env
    standAt apos.atName
    let(f,first) ←holding [dF] (getMethod dF m pl)
    callWith pos f first (backTo pos (starEach [] X.env)) (backToKw pos (keywordEach [] X.env))):=by rfl) :
  aT X (.Call (.Attribute o m apos) [] [] pos) (xg C m sp gg E bX tU):=by
 intro pins s σ H Q I h;refine PySem.W.methodCall_KW (pl:=pl) (bF (he pins s σ H _ I h) fun u s1⟨x,H1,aL,bl,a,aN,aP,ex,aq,l,q⟩=>?_) ht;subst ex;obtain rfl:u=Value.ref a:=bl;refine zu aL aq c hm l ?_;exact PySem.W.callWith_K0 (first:=[.ref a]) aL.eC hm.aH (AP (us:=[.ref a]) (vs:=[.ref a]) F hr hb hd hx aL (.cons rfl .nil) q)
structure qm(K:PySem.W.Frag)(C f:Addr):Prop where
 makes:PySem.W.makesIn K C=true
 init:PySem.W.findIn K (.ref C) "__init__"=some (some (.ref f))
 fn:PySem.W.isFn K (.ref f)=true
 aH:PySem.W.keepIn K (.ref C)=true
theorem VD{pins:List (Addr×Obj)}{σ :St}{H:ag}{s:Shared}{Q:cj}{us:List Value}{vs:List V}(M:qm X.K C f)(F:f7 X.prog X.w X.K X.mg X.base CX k f fd ps sp)(hr:c4 (k+1) X.A)(hb:Binds X.K fd ps ds)(hd:Vals gg ds)(hx:Passes CX X E)(I:Inv X pins σ H s)(r:Vals vs us)(h:∀x aN,H x=none→H aN=none→aN≠x→sp (.ref x::(vs++gg)) (upd (upd H aN (.own x)) x (.ins C aN [])) (fun v aS=>v=.non∧Q (.ref x) aS) E) :
  wpAny (model X.prog X.w) X.A (call (.ref C) us) (fu X pins σ Q) X.xe s:=by
 have aK:=h (s.heap.objs.size+1) s.heap.objs.size (I.br.fresh (Nat.le_succ _)) (I.br.fresh (Nat.le_refl _)) (Nat.ne_of_lt (Nat.lt_succ_self _));have bT:=Inv.made (C:=C) I;have a5:Vals (V.ref (s.heap.objs.size+1)::(vs++gg)) (Value.ref (s.heap.objs.size+1)::(us++ds)):=.cons rfl (r.append hd);have hl:(Value.ref (s.heap.objs.size+1)::us++ds).length=ps.length:=by have e:=a5.length;rw[F.len _ _ _ _ aK]at e;exact e.symm
 refine wpAny_call (Hh (f:=f) I.eC M.makes M.init (beq_iff_eq.mp M.fn) (codeAny_mono (F.run _ X.stack _ _ ⟨Value.ref (s.heap.objs.size+1)::us,[]⟩ (Value.ref (s.heap.objs.size+1)::(us++ds)) _ _ E (hr.make C us [])
  (bT.vm.make C us []) (hb _ (Value.ref (s.heap.objs.size+1)::us) bT.eC hl) a5 aK) fun r s' jc=>?_))
 cases r with
 |error e=>exact hx pins σ _ _ e s' bT jc
 |ok fl=>
  cases fl with
  |ret u=>obtain⟨v,H',dC,bV,ev,c_⟩:=bT.after jc;subst ev;exact⟨bV,⟨V.ref (s.heap.objs.size+1),H',dC,rfl,c_⟩⟩
  |next=>exact False.elim jc
  |brk=>exact False.elim jc
  |cont=>exact False.elim jc
theorem Ui(M:qm X.K C f)(F:f7 X.prog X.w X.K X.mg X.base CX k f fd ps sp)(hr:c4 (k+1) X.A)(hg:cy X x)(hm:X.mg x=some (.ref C))(hb:Binds X.K fd ps ds)(hd:Vals gg ds)(hx:Passes CX X E)(ha:eJ X (e::es) t)(hdb:(x==("__debug__" :Str))=false:=by decide)(he:starEach (e::es) X.env=(false,eval e X.env)::starEach es X.env:=by rfl)(hpl:(backTo pos (starEach es X.env)).any (·.1)=false:=by rfl) :
  aT X (.Call (.Name x p) (e::es) [] pos) (xf C sp gg E t):=by
 intro pins s σ H Q I h;refine wpAny_Call_Name_kw (pA I hg hm ?_ hdb);refine PySem.W.callWith_K (h₀:=X.base) I.ok.mod.lG M.aH (bF (ha pos pins s σ H _ I h) fun us s1⟨vs,H1,aL,r,q⟩=>⟨aL.eC,?_⟩) he hpl;exact VD M F hr hb hd hx aL r q
end
section
variable{X:aC}{CX:jU}{k:Nat}{f C:Addr}{fd:FuncData}{ps aD:List Str}{sp:iE}{E:cO}{x m:Str}{p pos apos aas:Pos}{e o:Expr}{es:List Expr}{aat:List Keyword}{dw bX:TE}{t cM:eK}{nm:Option Str}
variable{g:List Value→List Value→List Value}{Z4:List V→List V→List V}
end
structure cG(N P:List Str)(sc:Scope):Prop where
 kind:sc.kind=.function
 co:sc.isCoroutine=false
 gen:sc.isGenerator=false
 bj:N.Nodup
 pre:N.take P.length=P
 par:∀x∈P,sc.names.lookup x=some .local∨sc.names.lookup x=some .cell
 S3:∀y∈sc.names,y.2≠.free
theorem DF{kindOf:Str→Option NameKind}{x:Str}:∀{binds:List (Str×Value)}{m:Str→Option Value},(∀v,(x,v)∉binds)→bindL kindOf binds m x=m x
 |[],_,_=>rfl
 |(n,v)::r,m,h=>by
  unfold bindL;rw[DF fun w hw=>h w (List.mem_cons_of_mem _ hw)]
  split
  ·have:x≠n:=by rintro rfl;exact h v List.mem_cons_self
   simp[this]
  ·rfl
theorem DC{kindOf:Str→Option NameKind}{x:Str}:∀{binds:List (Str×Value)}{m:Str→Option Value},(∀v,(x,v)∉binds)→bindC kindOf binds m x=m x
 |[],_,_=>rfl
 |(n,v)::r,m,h=>by
  unfold bindC;rw[DC fun w hw=>h w (List.mem_cons_of_mem _ hw)]
  split
  ·rfl
  ·have:x≠n:=by rintro rfl;exact h v List.mem_cons_self
   simp[this]
theorem DE{kindOf:Str→Option NameKind}{x:Str}{v:Value}:∀{P:List Str}{vs:List Value}{i:Nat}{m:Str→Option Value},P.Nodup→P[i]?=some x→vs[i]?=some v→kindOf x=some .local→
  bindL kindOf (P.zip vs) m x=some v
 |[],_,_,_,_,h,_,_=>by simp at h
 |_::_,[],_,_,_,_,h,_=>by simp at h
 |p::P,w::vs,0,m,bj,h1,h2,hk=>by simp at h1 h2;subst h1;subst h2;show bindL kindOf ((p,w)::P.zip vs) m p=_;unfold bindL;rw[DF fun v hv=>(List.nodup_cons.mp bj).1 (List.of_mem_zip hv).1,if_pos hk];simp
 |p::P,w::vs,i+1,m,bj,h1,h2,hk=>by show bindL kindOf ((p,w)::P.zip vs) m x=_;unfold bindL;exact DE (i:=i) (List.nodup_cons.mp bj).2 (by simpa using h1) (by simpa using h2) hk
theorem DB{kindOf:Str→Option NameKind}{x:Str}{v:Value}:∀{P:List Str}{vs:List Value}{i:Nat}{m:Str→Option Value},P.Nodup→P[i]?=some x→vs[i]?=some v→kindOf x≠some .local→
  bindC kindOf (P.zip vs) m x=some v
 |[],_,_,_,_,h,_,_=>by simp at h
 |_::_,[],_,_,_,_,h,_=>by simp at h
 |p::P,w::vs,0,m,bj,h1,h2,hk=>by simp at h1 h2;subst h1;subst h2;show bindC kindOf ((p,w)::P.zip vs) m p=_;unfold bindC;rw[DC fun v hv=>(List.nodup_cons.mp bj).1 (List.of_mem_zip hv).1,if_neg hk];simp
 |p::P,w::vs,i+1,m,bj,h1,h2,hk=>by show bindC kindOf ((p,w)::P.zip vs) m x=_;unfold bindC;exact DB (i:=i) (List.nodup_cons.mp bj).2 (by simpa using h1) (by simpa using h2) hk
def start(N:List Str)(vs:List V):St:=vs.map some++List.replicate (N.length-vs.length) none
noncomputable def eA(CX:jU)(P:Program)(w:World)(K:PySem.W.Frag)(mg:Str→Option Value)(base:Heap)(N:List Str)(qual:Str)(scope:Scope)(f:Addr)(cd:Value)(A:Around)(outer:List Env)(s:Shared)(H:ag)(E:cO):aC where
 prog:=P
 w:=w
 K:=K
 mg:=mg
 base:=base
 A:=A.deeper (envOfC qual scope s.heap.objs.size f cd)
 N:=N
 eX:=s
 oJ:=H
 env:=envOfC qual scope s.heap.objs.size f cd
 outer:=outer
 stack:=envOfC qual scope s.heap.objs.size f cd::outer
 ex:=[]
 calm:=true
 fn:=fun _=>true
 n_:=[]
 xe:=fun e s'=>wpAny (model P w) (A.deeper (envOfC qual scope s.heap.objs.size f cd)) (leaving (envOfC qual scope s.heap.objs.size f cd) e) (fun _ hO=>CX outer H s E e hO) (fun b3 hO=>CX outer H s E b3 hO) s'
theorem yS{sc:Scope}{n:Nat}{x:Str}(h:sc.names.lookup x=some .cell):∃c,(cellsFrom n sc.names []).lookup x=some c:=by have q:=PySem.W.cellsFrom_some sc.names n [] (.inl h);exact Option.isSome_iff_exists.mp q
theorem QI{CX:jU}{P:Program}{w:World}{K:PySem.W.Frag}{mg:Str→Option Value}{base:Heap}{N ps:List Str}{qual:Str}{scope:Scope}{f:Addr}{cd:Value}{A:Around}{outer:List Env}{s s1:Shared}{H:ag}{E:cO}{us:List Value}{vs:List V}(S:cG N ps scope)(hd:A.handled=none)(cP:oI P w K mg base A outer s H)(hl:vs.length=ps.length)(r:Vals vs us)(x:InCallC s s.heap.objs.size (bindL (envOfC qual scope s.heap.objs.size f cd).kindOf (ps.zip us) fun _=>none) (cellsFrom (s.heap.objs.size+1) scope.names []) (bindC (envOfC qual scope s.heap.objs.size f cd).kindOf (ps.zip us) fun _=>none) s1) :
  Inv (eA CX P w K mg base N qual scope f cd A outer s H E) [] (start N vs) H s1:=by
 have hpl:ps.length≤N.length:=by have:=congrArg List.length S.pre;rw[List.length_take]at this;omega
 obtain⟨h1,cM,rfl,hk⟩:=x.done;have tx:∀b:Addr,b∉(eA CX P w K mg base N qual scope f cd A outer s H E).ex:=fun b z=>absurd (show b∈([]:List Addr)from z) (by simp)
 refine⟨⟨cP.mod,S.kind,rfl,rfl,Nat.le_refl _,fun y z c h1 h2=>?_,fun y bJ=>?_,fun y c _ h=>?_,fun _=>hd,Around.frames_deeper cP.frames,.inr ⟨rfl,rfl⟩,fun b z=>absurd z (tx b),cP.bs,cP.mn,fun b _ _=>tx b,fun b z=>absurd z (tx b),cP.iH,cP.nB⟩,
  rfl,cP.bare,eZ.kept hk,⟨_,x.toInCall.ns,fun i y v h1 h2 h3=>?_⟩,fun y c h=>⟨_,x.cell y c h⟩,cP.br.fresh (Nat.le_refl _),fun y c h=>?_,fun p hp=>absurd (show p∈([]:List (Addr×Obj))from hp) (by simp),cP.br.kept hk,?_⟩
 ·exact name_of_addr x.apart (PySem.mem_of_lookup h1) (PySem.mem_of_lookup h2)
 ·have bJ:scope.names.lookup y=some .cell∨scope.names.lookup y=some .free:=bJ;rcases bJ with bJ|bJ
  ·exact yS bJ
  ·exact absurd rfl (S.S3 _ (PySem.mem_of_lookup bJ))
 ·exact Nat.le_of_lt (x.above y c (PySem.mem_of_lookup h))
 ·have hi:i<vs.length:=by
    unfold start at h2;by_cases hi:i<vs.length
    ·exact hi
    ·rw[List.getElem?_append_right (by simpa using hi)]at h2;rw[List.getElem?_replicate]at h2
     split at h2<;>cases h2
  have ha:vs[i]?=some v:=by
   unfold start at h2;rw[List.getElem?_append_left (by simpa using hi),List.getElem?_map]at h2;cases e:vs[i]? with
   |none=>rw[e]at h2;cases h2
   |some a=>rw[e]at h2;cases h2;rfl
  obtain⟨u,hu,bV⟩:=r.get ha;have hp:ps[i]?=some y:=by rw[←S.pre,List.getElem?_take_of_lt (by omega)];exact h1
  have Hp:ps.Nodup:=by rw[←S.pre];exact S.bj.sublist (List.take_sublist _ _)
  refine⟨u,bV,?_⟩;rcases S.par y (List.mem_of_getElem? hp)with k|k
  ·exact .inl ⟨k,DE Hp hp hu k⟩
  ·obtain⟨c,e⟩:=yS (n:=s.heap.objs.size+1) k;refine .inr ⟨.inl k,c,e,?_⟩;have q:=x.cell y c e;rw[DB Hp hp hu (by show scope.names.lookup y≠_;rw[k];decide)]at q;exact q
 ·exact cP.br.fresh (Nat.le_of_lt (x.above y c (PySem.mem_of_lookup h)))
 ·unfold start;show _=N.length;rw[List.length_append,List.length_map,List.length_replicate];omega
theorem zl {CX:jU} {P:Program} {w:World} {K:PySem.W.Frag} {mg:Str→Option Value} {base:Heap} {k:Nat} {f:Addr} {name qual:Str} {params:Arguments} {body:List Stmt} {scope:Scope} {ve cD doc pm b1 ck eV:Value} {an dv:Option Addr}{ke:Array (Option Value)} {N ps:List Str} {sp:iE} (lk:K.lookup f=some ⟨eV,dv,.func (PySem.W.fnOf name qual params body scope ve cD doc pm an b1 ck),ke⟩) (hcd:PySem.W.codeIn K b1 qual=true) (S:cG N ps scope)(len:∀vs H Q E,sp vs H Q E→vs.length=ps.length)(zC:∀(A:Around)(outer:List Env)(s:Shared)(H:ag)(vs:List V)(Q:cj)(E:cO),c4 k (A.deeper (envOfC qual scope s.heap.objs.size f b1))→sp vs H Q E→
    ∃t,fF (eA CX P w K mg base N qual scope f b1 A outer s H E) body t∧t { bk:=fun _ H'=>Q .non H',dG:=Q } (start N vs) H) :
  f7 P w K mg base CX (k+1) f (PySem.W.fnOf name qual params body scope ve cD doc pm an b1 ck) ps sp:=by
 refine⟨len,fun A outer s H args us vs Q E hr cP hb r nG=>?_⟩;have hl:=len _ _ _ _ nG;have ky:K.In s.heap:=cP.mod.lG.keeps fun b o e=>(cP.bs b o e).1;have lim:s.heap.NoLimit:=cP.mod.nolimit.keeps fun b o e=>(cP.bs b o e).1;have O2:∀y∈ps.zip us,scope.names.lookup y.1=some .local∨(scope.names.lookup y.1=some .cell∧((cellsFrom (s.heap.objs.size+1) scope.names []).lookup y.1).isSome=true):=fun⟨n,v⟩ bJ=>by
  rcases S.par n (List.of_mem_zip bJ).1 with q|q
  ·exact .inl q
  ·exact .inr ⟨q,PySem.W.cellsFrom_some _ _ _ (.inl q)⟩
 refine codeAny_call_function hr.depth (ky _ _ lk) rfl S.co S.gen rfl (PySem.W.codeRec_of ky hcd) (hb _ _ _ _ ?_);refine wpAny_newFunctionEnv_cells S.kind O2 fun env he s1 x=>?_;subst he;refine⟨lim.keeps x.toInCall.keep,codeAny_func ?_⟩;obtain⟨t,ht,aK⟩:=zC A outer s H vs Q E (hr.deeper _) nG;have I:Inv (eA CX P w K mg base N qual scope f b1 A outer s H E) [] (start N vs) H s1:=QI S hr.hd cP hl r x;refine wpAny_mono (ht [] s1 (start N vs) H _ I aK) (fun fl s' hs=>?_) fun e s' hs=>hs;have fin:∀{σ' :St}{H':ag}{v:V}{u:Value},Inv (eA CX P w K mg base N qual scope f b1 A outer s H E) [] σ' H' s'→RelV v u→Q v H'→xR outer P w H s Q u s':=
  fun{σ' H' v u} bx bV q=>⟨v,H',bx.os,bx.bare,bx.base,bx.br,bV,q⟩
 cases fl with
 |ret u=>obtain⟨v,σ',H',bx,bV,q⟩:=hs;exact fin bx bV q
 |next=>obtain⟨σ',H',bx,q⟩:=hs;exact fin (v:=V.non) (u:=Value.none) bx rfl q
 |brk=>obtain⟨_,_,_,q⟩:=hs;exact False.elim q
 |cont=>obtain⟨_,_,_,q⟩:=hs;exact False.elim q
section
variable{X:aC}{x:Str}{p pos:Pos}{e:Expr}{es:List Expr}{t:eK}{id T:String}{r:List V→ag→cj→Prop}
def tR(r:List V→ag→cj→Prop)(t:eK):TE:=fun σ H Q=>t σ H fun vs H1=>r vs H1 Q
theorem tF(hc:jm X (.builtin id) r)(hg:cy X x)(hm:X.mg x=none)(hv:bootBuiltins x=some (.builtin id))(ha:eJ X (e::es) t)(aE:x≠"__name__":=by decide)(hdb:(x==("__debug__" :Str))=false:=by decide)(he:starEach (e::es) X.env=(false,eval e X.env)::starEach es X.env:=by rfl)(hpl:(backTo pos (starEach es X.env)).any (·.1)=false:=by rfl):aT X (.Call (.Name x p) (e::es) [] pos) (tR r t):=by intro pins s σ H Q I h;refine wpAny_Call_Name_kw (nS I hg hm hv ?_ aE hdb);exact PyProof.Rows.callWith_builtin1 (bF (ha pos pins s σ H _ I h) fun us s1⟨vs,H1,aL,ar,aM⟩=>hc pins s1 σ H1 vs us Q aL ar aM) he hpl
theorem Ax(hc:jm X (.type T) r)(hg:cy X x)(hm:X.mg x=none)(hv:bootBuiltins x=some (.type T))(ha:eJ X (e::es) t)(aE:x≠"__name__":=by decide)(hdb:(x==("__debug__" :Str))=false:=by decide)(he:starEach (e::es) X.env=(false,eval e X.env)::starEach es X.env:=by rfl)(hpl:(backTo pos (starEach es X.env)).any (·.1)=false:=by rfl):aT X (.Call (.Name x p) (e::es) [] pos) (tR r t):=by intro pins s σ H Q I h;refine wpAny_Call_Name_kw (nS I hg hm hv ?_ aE hdb);exact PyProof.Rows.callWith_type1 (bF (ha pos pins s σ H _ I h) fun us s1⟨vs,H1,aL,ar,aM⟩=>hc pins s1 σ H1 vs us Q aL ar aM) he hpl
end
end aQ
namespace dI
open PySem PyProof.Rows
section
open PySem.SeqAt
open PySem.AutoSeq1 (wpAny_loadPart')
open PySem.MeetsSeq PySem.MeetsSeq2 PySem.MeetsSeq3
end
section
variable{prog:Program}{w:World}{A:Around}{E:Value→Shared→Prop}{s:Shared}
def ek(n d:Nat):Option Int→Nat
 |none=>d
 |some v=>if v<0 then(v+(n:Int)).toNat else min v.toNat n
theorem II(n d:Nat):ek n d none=d:=rfl
theorem wW(n d k:Nat):ek n d (some (k:Int))=min k n:=by show(if(k:Int)<0 then((k:Int)+(n:Int)).toNat else min (k:Int).toNat n)=min k n;rw[if_neg (by omega),Int.toNat_natCast]
theorem IH(n d:Nat)(hd:d≤n)(o:Option Int):ek n d o≤n:=by
 cases o with
 |none=>exact hd
 |some v=>
  show(if v<0 then(v+(n:Int)).toNat else min v.toNat n)≤n;by_cases hv:v<0
  ·rw[if_pos hv];omega
  ·rw[if_neg hv];exact Nat.min_le_right _ _
end
end dI
namespace aQ
open PySem PySem.Spec PyProof.Rows
abbrev b0:=St→ag→(Option Int→ag→Prop)→Prop
noncomputable def qo(X:aC)(e:Option Expr)(t:b0):Prop:=
 ∀(pins:List (Addr×Obj))(s:Shared)(σ :St)(H:ag)(Q:Option Int→ag→Prop),Inv X pins σ H s→t σ H Q→
  wpAny (model X.prog X.w) X.A (evalPart e X.env) (fun u s'=>∃o H',Inv X pins σ H' s'∧IsPart u o∧Q o H') X.xe s
def Xi:b0:=fun _ H Q=>Q none H
def Xj(t:TE):b0:=fun σ H Q=>t σ H fun x H1=>∃i,x=.int i∧Q (some i) H1
section
variable{X:aC}{e:Expr}{dw:TE}{lo hi:Option Expr}{tl xj:b0}{pos bR:Pos}
theorem UI:qo X none Xi:=by intro pins s σ H Q I h;rw[evalPart_none];exact wpAny_pure ⟨none,H,I,.none,h⟩
theorem UJ(h:aT X e dw):qo X (some e) (Xj dw):=by intro pins s σ H Q I hw;rw[evalPart_some];refine bF (h pins s σ H _ I hw) fun u s1⟨x,H1,aL,ar,aM⟩=>?_;obtain⟨i,rfl,q⟩:=aM;obtain⟨t,rfl⟩:=ar;exact⟨some i,H1,aL,.int i t,q⟩
noncomputable def oT(X:aC)(r:V→Option Int→Option Int→ag→cj→Prop):Prop:=
 ∀(pins:List (Addr×Obj))(s:Shared)(σ :St)(H:ag)(x:V)(v kl km:Value)(lo hi:Option Int)(cw:Addr)(Q:cj),Inv X pins σ H s→RelV x v→s.heap.IsSliceOf cw kl km .none→IsPart kl lo→IsPart km hi→r x lo hi H Q→
  ∃T id,typeLookup (.type T) "__getitem__"=pure (some (.builtin id))∧s.TypeIs v T∧wpAny (model X.prog X.w) X.A (getItem v (.ref cw)) (fu X pins σ Q) X.xe s
theorem oT.or{r a8:V→Option Int→Option Int→ag→cj→Prop}(h:oT X r)(h':oT X a8):oT X (fun x lo hi H Q=>r x lo hi H Q∨a8 x lo hi H Q):=by
 intro pins s σ H x v kl km lo hi cw Q I bl hs pl pu q;rcases q with q|q
 ·exact h pins s σ H x v kl km lo hi cw Q I bl hs pl pu q
 ·exact h' pins s σ H x v kl km lo hi cw Q I bl hs pl pu q
noncomputable def JH(r:V→Option Int→Option Int→ag→cj→Prop)(dw:TE)(tl xj:b0):TE:=fun σ H Q=>dw σ H fun x H1=>tl σ H1 fun l aS=>xj σ aS fun u cQ=>r x l u cQ Q
theorem Up{r:V→Option Int→Option Int→ag→cj→Prop}(hr:oT X r)(he:aT X e dw)(hl:qo X lo tl)(hu:qo X hi xj):aT X (.Subscript e (.Slice lo hi none bR) pos) (JH r dw tl xj):=by intro pins s σ H Q I h;refine Subscript_ (bF (he pins s σ H _ I h) fun v s1⟨x,H1,aL,ar,aM⟩=>?_);refine wpAny_Slice (bF (hl pins s1 σ H1 _ aL aM) fun kl s2⟨l,aS,bT,pl,a_⟩=>bF (hu pins s2 σ aS _ bT a_) fun km s3⟨u,cQ,dC,pu,c_⟩=>?_);rw[evalPart_none];refine wpAny_pure ?_;have jV:Inv X pins σ cQ { s3 with heap:=s3.heap.push { cls:=.type "slice",data:=.fields #[kl,km,.none] } }:=dC.kept (t':=s3.toks) fun b aV q=>Heap.get?_push_of_some _ q;obtain⟨T,id,gk,ht,hg⟩:=hr pins { s3 with heap:=s3.heap.push { cls:=.type "slice",data:=.fields #[kl,km,.none] } } σ cQ x v kl km l u s3.heap.objs.size Q jV ar (Heap.IsSliceOf.new ..) pl pu c_;show wpAny (model X.prog X.w) X.A (subscriptTail e (.Slice lo hi none bR) v (.ref s3.heap.objs.size)) (fu X pins σ Q) X.xe { s3 with heap:=s3.heap.push { cls:=.type "slice",data:=.fields #[kl,km,.none] } };exact tail_any (ops:=[.ref s3.heap.objs.size,v]) ht gk hg (by with_unfolding_all rfl)
noncomputable def qF(xs:List V)(lo hi:Option Int):List V:=(xs.drop (dI.ek xs.length 0 lo)).take (dI.ek xs.length xs.length hi-dI.ek xs.length 0 lo)
theorem Mh(xs:List V)(lo hi:Option Int):(qF xs lo hi).length≤xs.length:=by unfold qF;rw[List.length_take,List.length_drop];omega
end
noncomputable def jf(n:Nat)(i:Int):Option Nat:=if 0≤i then(if i<n then some i.toNat else none)else if-(n:Int)≤i then some (i+n).toNat else none
def gf{α:Type}(xs:List α)(i:Int):Option α:=(jf xs.length i).bind fun j=>xs[j]?
theorem GD{n:Nat}{i:Int}{j:Nat}(h:jf n i=some j):seqIndex? i n=some j∧j<n∧-(n:Int)≤i∧i<n:=by
 unfold jf at h;by_cases h0:0≤i
 ·rw[if_pos h0]at h;by_cases h1:i<n
  ·rw[if_pos h1]at h;have e:i.toNat=j:=Option.some.inj h;exact⟨by rw[seqIndex_of h0 h1,e],by omega,by omega,h1⟩
  ·rw[if_neg h1]at h;cases h
 ·rw[if_neg h0]at h;by_cases h1: -(n:Int)≤i
  ·rw[if_pos h1]at h;have e:(i+n).toNat=j:=Option.some.inj h;exact⟨by rw[seqIndex_neg (by omega) h1,e],by omega,h1,by omega⟩
  ·rw[if_neg h1]at h;cases h
theorem yk{α:Type}{xs:List α}{i:Int}{v:α}(h:gf xs i=some v):∃j,seqIndex? i xs.length=some j∧xs[j]?=some v∧j<xs.length∧-(xs.length:Int)≤i∧i<xs.length:=by
 unfold gf at h;cases e:jf xs.length i with
 |none=>rw[e]at h;cases h
 |some j=>rw[e]at h;obtain⟨h1,h2,h3,h4⟩:=GD e;exact⟨j,h1,h,h2,h3,h4⟩
def rZ(b:Expr):Prop:=∀o i,subscripted b false o i=operate [o,i] (getItem o i)
noncomputable def l7(X:aC)(r:eo):Prop:=
 ∀(value slice:Expr)(pins:List (Addr×Obj))(s:Shared)(σ :St)(H:ag)(x y:V)(v u:Value)(Q:cj),Inv X pins σ H s→RelV x v→RelV y u→r x y H Q→
  subscripted slice false v u=operate [v,u] (getItem v u)→wpAny (model X.prog X.w) X.A (subscriptTail value slice v u) (fu X pins σ Q) X.xe s
noncomputable def x7(X:aC)(id:String)(r:V→List V→ag→cj→Prop):Prop:=
 ∀(pins:List (Addr×Obj))(s:Shared)(σ :St)(H:ag)(x:V)(xs:List V)(v:Value)(us:List Value)(Q:cj),Inv X pins σ H s→RelV x v→Vals xs us→r x xs H Q→
  wpAny (model X.prog X.w) X.A (call (.builtin id) (v::us)) (fu X pins σ Q) X.xe s
section
variable{X:aC}{a b:Expr}{bX tb:TE}{pos:Pos}
theorem l7.or{r a8:eo}(h:l7 X r)(h':l7 X a8):l7 X (fun x y H Q=>r x y H Q∨a8 x y H Q):=by
 intro value slice pins s σ H x y v u Q I bl b7 q hs;rcases q with q|q
 ·exact h value slice pins s σ H x y v u Q I bl b7 q hs
 ·exact h' value slice pins s σ H x y v u Q I bl b7 q hs
theorem HW{r:eo}(hr:l7 X r)(ha:aT X a bX)(hb:aT X b tb)(hs:rZ b):aT X (.Subscript a b pos) (tV r bX tb):=by intro pins s σ H Q I h;exact Subscript_ (yO ha hb I h fun v u s2 x y aS bT bl b7 q=>hr a b pins s2 σ aS x y v u Q bT bl b7 q (hs _ _))
noncomputable def Ir(K:PySem.W.Frag):eo:=fun x y H Q=>∃p xs i v,x=.ref p∧y=.int i∧bU K H p xs∧gf xs i=some v∧Q v H
noncomputable def Iv(K:PySem.W.Frag):eo:=fun x y H Q=>∃p xs i v,x=.ref p∧y=.int i∧cK K H p xs∧gf xs i=some v∧Q v H
noncomputable def Iu:eo:=fun x y H Q=>∃z i c,x=.str z∧y=.int i∧z.length≤sizeLine∧gf z.cps.toList i=some c∧Q (.str ⟨#[c]⟩) H
theorem QU:l7 X (Ir X.K):=by
 intro value slice pins s σ H x y v u Q I bl b7 h hs;obtain⟨p,xs,i,z,rfl,rfl,aK,he,q⟩:=h;cases bl;obtain⟨t,rfl⟩:=b7;obtain⟨its,r,pl,bq⟩:=I.list aK;obtain⟨j,h1,h2,h3,h4,h5⟩:=yk he;obtain⟨w,i7,pV⟩:=r.get h2;have hl:=r.length;have aE:=q3;have fin:fu X pins σ Q w s:=⟨z,H,I,pV,q⟩;by_cases h0:0≤i
 ·have cv:i.toNat=j:=by
    rw[seqIndex_of h0 h5]at h1;exact Option.some.inj h1
  exact item_listR pl.isList h0 (by omega) (by rw[cv];simpa using i7) fin hs
 ·have cv:(i+(its.toArray.size:Int)).toNat=j:=by
    rw[seqIndex_neg (by omega) h4]at h1;rw[List.size_toArray,←hl];exact Option.some.inj h1
  exact subscriptTail_builtinR (x:=w) pl.isList.typeIs slot_list_getitem.lookup
   (wpAny_getItem_list_neg (Q:=fun r s'=>r=w∧fu X pins σ Q r s') pl.isList (by omega) (by rw[List.size_toArray]<;>omega) (by omega) (by rw[cv];simpa using i7) ⟨rfl,fin⟩) hs
theorem QX:l7 X (Iv X.K):=by
 intro value slice pins s σ H x y v u Q I bl b7 h hs;obtain⟨p,xs,i,z,rfl,rfl,aK,he,q⟩:=h;cases bl;obtain⟨t,rfl⟩:=b7;obtain⟨its,r,pl,bq⟩:=I.tuple aK;obtain⟨j,h1,h2,h3,h4,h5⟩:=yk he;obtain⟨w,i7,pV⟩:=r.get h2;have hl:=r.length;have aE:=q3;have fin:fu X pins σ Q w s:=⟨z,H,I,pV,q⟩
 exact subscriptTail_builtinR (x:=w) pl.typeIs slot_tuple_getitem.lookup
  (getItem_tuple (j:=j) (Q:=fun r s'=>r=w∧fu X pins σ Q r s') pl (by omega) (by omega) (by rw[List.size_toArray,←hl];exact h1) (by simpa using i7) ⟨rfl,fin⟩) hs
theorem QW:l7 X Iu:=by
 intro value slice pins s σ H x y v u Q I bl b7 h hs;obtain⟨z,i,c,rfl,rfl,bq,he,q⟩:=h;obtain⟨t,rfl⟩:=bl;obtain⟨t',rfl⟩:=b7;obtain⟨j,h1,h2,h3,h4,h5⟩:=yk he;have hl:z.cps.toList.length=z.length:=by simp[Str.length]
 rw[hl]at h1 h4 h5;have aE:=q3;exact tail_any (typeIs_str s z t) slot_str_getitem.lookup (getItem_str (c:=c) (by have ak:decide (i< -(2^63:Int))=false:=decide_eq_false (by omega);have ay:decide (i≥2^63)=false:=decide_eq_false (by omega);rw[ak,ay,Bool.or_false]) (by rw[h1];simpa using h2) ⟨.str ⟨#[c]⟩,H,I.tok _,⟨_,rfl⟩,q⟩) hs
def Iq(K:PySem.W.Frag):eo:=fun x y H Q=>Ir K x y H Q∨Iv K x y H Q∨Iu x y H Q
theorem GF:l7 X (Iq X.K):=QU.or (QX.or QW)
theorem Sx(its:List Value)(n j:Nat)(u:Value):Obj.mapSeq (·.setIfInBounds j u) { cls:=.type "list",data:=.seq its.toArray n }={ cls:=.type "list",data:=.seq (its.set j u).toArray n }:=by simp[Obj.mapSeq]
theorem Inv.lst{pins:List (Addr×Obj)}{σ :St}{H:ag}{s:Shared}{p:Addr}{xs:List V}(I:Inv X pins σ H s)(h:H p=some (.lst xs)) :
  ∃(its:List Value)(n:Nat),Vals xs its∧s.heap.get? p=some { cls:=.type "list",data:=.seq its.toArray n }∧xs.length≤sizeLine:=by
 obtain⟨z,its,n,r,e⟩:=I.br p _ h;exact⟨its,n,r,e,z⟩
theorem Inv.Sh{pins:List (Addr×Obj)}{σ :St}{H:ag}{s:Shared}{p:Addr}{xs ys:List V}{its its':List Value}{n ts:Nat}{f:Obj→Obj}(I:Inv X pins σ H s)(h:H p=some (.lst xs))(ho:s.heap.get? p=some { cls:=.type "list",data:=.seq its.toArray n })(hf:f { cls:=.type "list",data:=.seq its.toArray n }={ cls:=.type "list",data:=.seq its'.toArray ts })(r:Vals ys its')(bq:ys.length≤sizeLine)(t:Nat) :
  Inv X pins σ (upd H p (.lst ys)) { s with heap:=s.heap.update p f,toks:=t }:=by
 have e:(s.heap.update p f).get? p=some { cls:=.type "list",data:=.seq its'.toArray ts }:=by rw[Heap.get?_update_self f ho (by rw[hf]<;>rfl),hf]
 refine I.write (x:=p) (e:=p) (by rw[h];trivial) (.inl rfl) (fun b u hb q=>(Heap.get?_update_other _ _ (Ne.symm hb)).trans q) ⟨_,e⟩ ?_;exact⟨bq,its',ts,r,e⟩
noncomputable def Vi:V→V→V→ag→(ag→Prop)→Prop:=fun o i v H Q=>∃p xs k j,o=.ref p∧i=.int k∧H p=some (.lst xs)∧jf xs.length k=some j∧Q (upd H p (.lst (xs.set j v)))
theorem set_list:CW X Vi:=by
 intro pins s σ H o i v dF hF u Q I hM Vx bV h;obtain⟨p,xs,k,j,rfl,rfl,hp,cv,q⟩:=h;cases hM;obtain⟨t,rfl⟩:=Vx;obtain⟨its,n,r,ho,bq⟩:=I.lst hp;obtain⟨h1,h2,h3,h4⟩:=GD cv;have hl:=r.length;have aE:=q3;have hT:Inv X pins σ (upd H p (.lst (xs.set j v))) { s with heap:=s.heap.update p (Obj.mapSeq (·.setIfInBounds j u)) }:=
  I.Sh hp ho (Sx its n j u) (r.set bV j) (by rw[List.length_set];exact bq) s.toks
 by_cases h0:0≤k
 ·have hk:k.toNat=j:=by
    rw[seqIndex_of h0 h4]at h1;exact Option.some.inj h1
  exact PySem.W.ki_setAt ho h0 (by omega) (by rw[List.size_toArray,←hl];exact h4) (by rw[hk];exact⟨_,hT,q⟩)
 ·have hk:(k+(its.toArray.size:Int)).toNat=j:=by
    rw[seqIndex_neg (by omega) h3]at h1;rw[List.size_toArray,←hl];exact Option.some.inj h1
  exact PySem.W.ki_setBack ho (by omega) (by rw[List.size_toArray,←hl];exact h3) (by omega) (by rw[hk];exact⟨_,hT,q⟩)
theorem WX(lo hi:Option Int)(n:Nat):(sliceBounds lo hi none n).1=((dI.ek n 0 lo:Nat):Int)∧(sliceBounds lo hi none n).2.1=((dI.ek n n hi:Nat):Int)∧(sliceBounds lo hi none n).2.2=1:=by
 refine⟨?_,?_,rfl⟩
 ·cases lo with
  |none=>simp[sliceBounds,dI.ek]
  |some i=>
   simp only[sliceBounds,dI.ek,Option.getD_none,show(1:Int)>0 by decide,if_true];by_cases h:i<0
   ·simp only[h,if_true]<;>omega
   ·simp only[h,if_false]<;>omega
 ·cases hi with
  |none=>simp[sliceBounds,dI.ek]
  |some i=>
   simp only[sliceBounds,dI.ek,Option.getD_none,show(1:Int)>0 by decide,if_true];by_cases h:i<0
   ·simp only[h,if_true]<;>omega
   ·simp only[h,if_false]<;>omega
theorem WW(its:List Value)(lo hi:Option Int):slicePick its.toArray lo hi none=((its.drop (dI.ek its.length 0 lo)).take (dI.ek its.length its.length hi-dI.ek its.length 0 lo)).toArray:=by obtain⟨h1,h2,h3⟩:=WX lo hi its.toArray.size;unfold slicePick;rw[h1,h2,h3];simp only[sliceRange_one,pick_run,List.size_toArray]<;>rfl
noncomputable def Iy(K:PySem.W.Frag):V→Option Int→Option Int→ag→cj→Prop:=fun x lo hi H Q=>∃a xs,x=.ref a∧bU K H a xs∧∀p,H p=none→Q (.ref p) (upd H p (.lst (qF xs lo hi)))
theorem WU:oT X (Iy X.K):=by intro pins s σ H x v kl km lo hi cw Q I bl hs pl pu h;obtain⟨a,xs,rfl,hx,q⟩:=h;cases bl;obtain⟨its,r,ht,bq⟩:=I.list hx;have hlen:=r.length;refine⟨"list",_,slot_list_getitem.lookup,ht.isList.typeIs,?_⟩;refine wpAny_getItem_list_slice ht.isList hs pl pu .none (by simp) ?_ (by rw[List.size_toArray]<;>omega);rw[WW,←hlen];refine⟨.ref s.heap.objs.size,_,I.laid (t':=s.toks) (o:=.lst (qF xs lo hi)) (fun b aV q=>Heap.get?_push_of_some _ q) (Nat.le_refl _) ?_,rfl,q _ (I.br.fresh (Nat.le_refl _))⟩;exact⟨Nat.le_trans (Mh xs lo hi) bq,_,0,(r.drop (dI.ek xs.length 0 lo)).take (dI.ek xs.length xs.length hi-dI.ek xs.length 0 lo),Heap.get?_push_size _ rfl⟩
theorem L4:jm X (.type "list") (fun xs H Q=>∃p ys,xs=[.ref p]∧(bU X.K H p ys∨cK X.K H p ys)∧∀l,H l=none→Q (.ref l) (upd H l (.lst ys))):=by
 intro pins s σ H xs us Q I r h;obtain⟨p,ys,rfl,aK,q⟩:=h;obtain⟨u,rfl,bl⟩:=vals1 r;cases bl
 have fin:∀(its:List Value),Vals ys its→ys.length≤sizeLine→∀(h':Heap)(d8:Nat),(∀b bz,s.heap.get? b=some bz→h'.get? b=some bz)→
   h'.get? s.heap.objs.size=some { cls:=.type "list",dict:=none,data:=.seq its.toArray d8,slots:= #[] }→fu X pins σ Q (.ref s.heap.objs.size) { s with heap:=h' }:=fun its a8 bq h' d8 aH e=>
  ⟨.ref s.heap.objs.size,_,I.laid (t':=s.toks) aH (Nat.le_refl _) (show eI X.prog X.w _ h' _ (.lst ys)from⟨bq,its,d8,a8,e⟩),rfl,q _ (I.br.fresh (Nat.le_refl _))⟩
 rcases aK with aK|aK
 ·obtain⟨its,a8,pl,bq⟩:=I.list aK;have hlen:=a8.length;obtain⟨o,ho,hc,n,hd⟩:=pl.isList;exact call_list_seq p (.inl rfl) ho hc hd (fun h' d8 aH e=>fin its a8 bq h' d8 aH e) (by simp only[List.size_toArray]<;>omega)
 ·obtain⟨its,a8,pl,bq⟩:=I.tuple aK;have hlen:=a8.length;obtain⟨o,ho,hc,n,hd⟩:=pl;exact call_list_seq p (.inr rfl) ho hc hd (fun h' d8 aH e=>fin its a8 bq h' d8 aH e) (by simp only[List.size_toArray]<;>omega)
theorem L8:jm X (.type "tuple") (fun xs H Q=>∃p ys,xs=[.ref p]∧((bU X.K H p ys∧∀l,H l=none→Q (.ref l) (upd H l (.tup ys)))∨(cK X.K H p ys∧Q (.ref p) H))):=by
 intro pins s σ H xs us Q I r h;obtain⟨p,ys,rfl,h⟩:=h;obtain⟨u,rfl,bl⟩:=vals1 r;cases bl;rcases h with⟨aK,q⟩|⟨aK,q⟩
 ·obtain⟨its,a8,pl,bq⟩:=I.list aK;have hlen:=a8.length;refine call_tuple_list pl.isList (fun h' aH=>?_) (by simp only[List.size_toArray]<;>omega);have aL:Inv X pins σ H { s with heap:=h' }:=I.kept (t':=s.toks) aH;have bT:Inv X pins σ (upd H h'.objs.size (.tup ys)) { s with heap:=h'.push { cls:=.type "tuple",data:=.seq its.toArray } }:=
   aL.laid (t':=s.toks) (fun b o e=>Heap.get?_push_of_some _ e) (Nat.le_refl _) (show eI X.prog X.w _ _ _ (.tup ys)from⟨bq,its,a8,IsTup.new _ _⟩)
  exact⟨.ref h'.objs.size,_,bT,rfl,q _ (aL.br.fresh (Nat.le_refl _))⟩
 ·obtain⟨its,a8,pl,bq⟩:=I.tuple aK;exact call_tuple_same pl ⟨.ref p,H,I,rfl,q⟩
noncomputable def JT(K:PySem.W.Frag)(T:String)(x:V)(H:ag):Prop:=match x with
 |.str _=>T="str"
 |.int _=>T="int"
 |.ref p=>(T="list"∧∃xs,bU K H p xs)∨(T="tuple"∧∃o,K.lookup p=some o∧o.cls=.type "tuple"∧o.dict=none)∨
     (T="dict"∧((∃aR,H p=some (.cY aR))∨∃aR,H p=some (.bI aR)))∨(T="set"∧∃S n,H p=some (.set S n))
 |_=>False
theorem X_{pins:List (Addr×Obj)}{σ :St}{H:ag}{s:Shared}{T:String}{x:V}{v:Value}(I:Inv X pins σ H s)(r:RelV x v)(ty:JT X.K T x H) :
  s.TypeIs v T∧∀a,v=.ref a→∃aV,s.heap.get? a=some aV∧aV.dict=none:=by
 cases x with
 |str z=>obtain⟨t,rfl⟩:=r;cases(show T="str" from ty);exact⟨typeIs_str s z t,fun _ e=>nomatch e⟩
 |int i=>obtain⟨t,rfl⟩:=r;cases(show T="int" from ty);exact⟨typeIs_int s i t,fun _ e=>nomatch e⟩
 |ref p=>
  cases r;rcases ty with⟨rfl,xs,aK⟩|⟨rfl,o,hk,hc,hd⟩|⟨rfl,hk⟩|⟨rfl,S,n,hk⟩
  ·obtain⟨its,_,pl,_⟩:=I.list aK;refine⟨pl.isList.typeIs,fun a e=>?_⟩;cases e;obtain⟨o,n,e,c,hd,_⟩:=pl;exact⟨o,e,hd⟩
  ·refine⟨⟨o,I.eC p o hk,hc⟩,fun a e=>?_⟩;cases e;exact⟨o,I.eC _ o hk,hd⟩
  ·have z:∃o,s.heap.get? p=some o∧o.ExactDict:=by
     rcases hk with⟨aR,hk⟩|⟨aR,hk⟩
     ·obtain⟨_,_,_,_,o,_,_,e,ex,_⟩:=I.br p _ hk;exact⟨o,e,ex⟩
     ·obtain⟨_,_,_,_,o,_,_,e,ex,_⟩:=I.br p _ hk;exact⟨o,e,ex⟩
   obtain⟨o,e,ex⟩:=z;refine⟨⟨o,e,ex.1⟩,fun a ay=>?_⟩;cases ay;exact⟨o,e,ex.2.1⟩
  ·obtain⟨o,_,_,_,e,ex,_⟩:=I.br p _ hk;refine⟨⟨o,e,ex.1⟩,fun a ay=>?_⟩;cases ay;exact⟨o,e,ex.2.1⟩
 |_=>exact False.elim ty
noncomputable def Xd(K:PySem.W.Frag)(T:String)(r:V→List V→ag→cj→Prop)(to:TE)(t:eK):TE:=fun σ H Q=>to σ H fun x H1=>JT K T x H1∧t σ H1 fun xs aS=>r x xs aS Q
variable{o e:Expr}{es:List Expr}{to:TE}{t:eK}{name:Str}{apos bG:Pos}{T id:String}{r:V→List V→ag→cj→Prop}
theorem ro (T1:PlainAttrs T) (slot:Slot T name id) (Py:typeOf (.builtin id)=pure (.type "method_descriptor")) (hm:x7 X id r) (ho:aT X o to) (ha:eJ X (e::es) t)(hbase:attributeBase o name X.env (eval o X.env)=eval o X.env:=by rfl)(hfew:((backTo bG (starEach (e::es) X.env)).all (fun x=>!x.1)&&(backToKw bG (keywordEach [] X.env)).all (fun x=>x.1.isSome)
    &&decide ((e::es).length+([]:List Keyword).length+(if([]:List Keyword).isEmpty then 0 else 1)<30))=true:=by rfl)
  (hline:(apos.endLine==bG.line)=true:=by rfl) (hs:starEach (e::es) X.env=(false,eval e X.env)::starEach es X.env:=by rfl) (hplain:(backTo bG (starEach es X.env)).any (·.1)=false:=by rfl) :
  aT X (.Call (.Attribute o name apos) (e::es) [] bG) (Xd X.K T r to t):=by
 intro pins s σ H Q I h;refine wpAny_Call_method_late hbase hfew hline rfl (bF (ho pins s σ H _ I h) fun v s1⟨x,H1,aL,ar,ty,aM⟩=>?_);obtain⟨h1,h2⟩:=X_ aL ar ty;refine⟨T,id,T1,slot,Py,h1,h2,?_⟩;have i_:=ha bG pins s1 σ H1 _ aL aM;rw[hs]at i_ ⊢;refine Calls.callWith_builtin (by show(false||(backTo bG (starEach es X.env)).any (·.1))=false;rw[hplain]<;>rfl) (Calls.evalArgs_plain ?_);exact bF i_ fun us s2⟨vs,aS,bT,a5,a_⟩=>hm pins s2 σ aS x vs v us Q bT ar a5 a_
end
noncomputable def x6(X:aC)(id:String)(r:V→List V→ag→cj→Prop):Prop:=
 ∀(pins:List (Addr×Obj))(s:Shared)(σ :St)(H:ag)(x:V)(xs:List V)(v:Value)(us:List Value)(Q:cj),Inv X pins σ H s→RelV x v→Vals xs us→r x xs H Q→
  wpAny (model X.prog X.w) X.A (call (.builtin id) (v::us)) (fu X pins σ Q) X.xe s
theorem Vals.one:∀{x:V}{us:List Value},Vals [x] us→∃u,us=[u]∧RelV x u
 |_,_,.cons r .nil=>⟨_,rfl,r⟩
theorem Vals.eraseIdx:∀{xs:List V}{us:List Value}(i:Nat),Vals xs us→Vals (xs.eraseIdx i) (us.eraseIdx i)
 |_,_,_,.nil=>.nil
 |_,_,0,.cons _ t=>t
 |_,_,i+1,.cons r t=>.cons r (Vals.eraseIdx i t)
theorem Vals.rep{xs:List V}{us:List Value}(h:Vals xs us):∀k:Nat,Vals (List.replicate k xs).flatten (List.replicate k us).flatten
 |0=>.nil
 |k+1=>by rw[List.replicate_succ,List.replicate_succ,List.flatten_cons,List.flatten_cons];exact Vals.append h (Vals.rep h k)
theorem G5{α:Type}:∀(l:List α)(i:Nat),(l.eraseIdx i).length≤l.length
 |[],_=>Nat.le_refl _
 |_::_,0=>Nat.le_succ _
 |_::r,i+1=>Nat.succ_le_succ (G5 r i)
theorem foldl_rep(its:List Value):∀(k:Nat)(acc:List Value),
  List.foldl (fun fB f5=>fB++f5) acc.toArray (List.replicate k its.toArray)=(acc++(List.replicate k its).flatten).toArray
 |0,acc=>by simp
 |k+1,acc=>by
  have e:acc.toArray++its.toArray=(acc++its).toArray:=by simp
  have ay:(acc++its)++(List.replicate k its).flatten=acc++(List.replicate (k+1) its).flatten:=by rw[List.replicate_succ,List.flatten_cons,List.append_assoc]
  rw[←ay,←foldl_rep its k (acc++its),←e,List.replicate_succ,List.foldl_cons]
section
variable{X:aC}{pins:List (Addr×Obj)}{σ :St}{H:ag}{s:Shared}{l b:Addr}{xs ys zs:List V}
theorem Inv.Ac{its its':List Value}{n:Nat}{f:Array Value→Array Value}{t':Nat}(I:Inv X pins σ H s)(ia:H l=some (.lst xs))(e:s.heap.get? l=some { cls:=.type "list",data:=.seq its.toArray n })(hf:f its.toArray=its'.toArray)(hv:Vals ys its')(bq:ys.length≤sizeLine) :
  Inv X pins σ (upd H l (.lst ys)) { s with heap:=s.heap.update l (Obj.mapSeq f),toks:=t' }:=by
 have q:=PySem.IsL.update e f;rw[hf]at q;refine I.write (x:=l) (e:=l) (by rw[ia];exact trivial) (.inl rfl) (fun fS u hb hu=>(Heap.get?_update_other s.heap (Obj.mapSeq f) (Ne.symm hb)).trans hu) ⟨_,q⟩ ?_;exact⟨bq,its',_,hv,q⟩
theorem Inv.Aa{its:List Value}{t':Nat}(I:Inv X pins σ H s)(hv:Vals ys its)(bq:ys.length≤sizeLine) :
  Inv X pins σ (upd H s.heap.objs.size (.lst ys)) { s with heap:=s.heap.push { cls:=.type "list",data:=.seq its.toArray },toks:=t' }:=
 I.laid (fun _ _ q=>Heap.get?_push_of_some _ q) (Nat.le_refl _) ⟨bq,its,0,hv,Heap.get?_push_size _ rfl⟩
theorem Inv.fresh(I:Inv X pins σ H s):H s.heap.objs.size=none:=I.br.fresh (Nat.le_refl _)
theorem Inv.pB(I:Inv X pins σ H s)(ia:H l=some (.lst xs)):xs.length≤sizeLine∧∃(its:List Value)(n:Nat),Vals xs its∧xs.length=its.length∧s.heap.get? l=some { cls:=.type "list",data:=.seq its.toArray n }:=by obtain⟨z,its,n,r,e⟩:=I.br l _ ia;exact⟨z,its,n,r,r.length,e⟩
theorem Hy{n:Nat}(h:n≤sizeLine):Builtin.List.listTooLong n=false:=by unfold Builtin.List.listTooLong;exact decide_eq_false (by omega)
end
section
variable{X:aC}
noncomputable def Vb:V→List V→ag→cj→Prop:=fun x vs H Q=>∃l xs y,x=.ref l∧vs=[y]∧H l=some (.lst xs)∧xs.length<sizeLine∧Q .non (upd H l (.lst (xs++[y])))
theorem Ak:x6 X "list.append" Vb:=by intro pins s σ H x vs v us Q I bl bV h;obtain⟨l,xs,y,rfl,rfl,ia,bq,q⟩:=h;cases bl;obtain⟨u,rfl,eb⟩:=bV.one;obtain⟨z,its,n,r,hl,e⟩:=I.pB ia;refine call_meets F.slot_list_append ⟨_,e,rfl⟩ F.entry_list_append (F.args_list_append_2 _ _) (PySem.list_append l its.toArray n u (by rw[List.size_toArray];omega)) ⟨e,?_⟩;refine⟨.non,_,I.Ac (its':=its++[u]) ia e (by simp) (r.append (.cons eb .nil)) ?_,rfl,q⟩;rw[List.length_append,List.length_singleton];omega
noncomputable def Vc:V→List V→ag→cj→Prop:=fun x vs H Q=>∃l b xs zs,x=.ref l∧vs=[.ref b]∧H l=some (.lst xs)∧H b=some (.lst zs)∧xs.length+zs.length≤sizeLine∧Q .non (upd H l (.lst (xs++zs)))
theorem SF:x6 X "list.extend" Vc:=by
 intro pins s σ H x vs v us Q I bl bV h;obtain⟨l,b,xs,zs,rfl,rfl,ia,mu,bq,q⟩:=h;cases bl;obtain⟨u,rfl,eb⟩:=bV.one;cases eb;obtain⟨z,its,n,r,hl,e⟩:=I.pB ia;obtain⟨aZ,et,c0,a5,sJ,ay⟩:=I.pB mu;have hsz:its.toArray.size+et.toArray.size≤sizeLine:=by rw[List.size_toArray,List.size_toArray];omega
 have zI:¬(!its.toArray.isEmpty&&Builtin.List.listTooLong (its.toArray.size+et.toArray.size))=true:=by rw[Hy hsz,Bool.and_false];exact Bool.false_ne_true
 refine call_meets F.slot_list_extend ⟨_,e,rfl⟩ F.entry_list_extend (F.args_list_extend_2 _ _)
  (AutoSeq1.list_extend_list_list_0 l its.toArray n b et.toArray c0 zI (by rw[List.size_toArray];omega) (by omega)) ⟨e,ay,?_⟩
 refine⟨.non,_,I.Ac (its':=its++et) ia e (by simp) (r.append a5) ?_,rfl,q⟩;rw[List.length_append];omega
noncomputable def Vg:V→List V→ag→cj→Prop:=fun x vs H Q=>∃l xs i k y,x=.ref l∧vs=[.int i]∧H l=some (.lst xs)∧-(2^63)≤i∧i<2^63∧seqIndex? i xs.length=some k∧xs[k]?=some y∧Q y (upd H l (.lst (xs.eraseIdx k)))
theorem SI:x6 X "list.pop" Vg:=by
 intro pins s σ H x vs v us Q I bl bV h;obtain⟨l,xs,i,k,y,rfl,rfl,ia,h1,h2,hk,bJ,q⟩:=h;cases bl;obtain⟨u,rfl,eb⟩:=bV.one;obtain⟨t,rfl⟩:=eb;obtain⟨z,its,n,r,hl,e⟩:=I.pB ia;obtain⟨w,hw,pV⟩:=r.get bJ
 refine call_meets F.slot_list_pop ⟨_,e,rfl⟩ F.entry_list_pop (F.args_list_pop_2 _ _)
  (MeetsSeq.list_pop_at l its.toArray n i t k w (fitsIndex_both h1 h2) (by rw[List.size_toArray,←hl];exact hk) (by rw[←Array.getElem?_toList];exact hw) (by rw[List.size_toArray];omega)) ⟨e,?_⟩
 refine⟨y,_,I.Ac (its':=its.eraseIdx k) ia e ?_ (r.eraseIdx k) ?_,pV,q⟩
 ·show its.toArray.eraseIdxIfInBounds k=(its.eraseIdx k).toArray;rw[List.eraseIdxIfInBounds_toArray]
 ·have:=G5 xs k;omega
noncomputable def Io:eo:=fun x y H Q=>∃l b xs zs,x=.ref l∧y=.ref b∧H l=some (.lst xs)∧H b=some (.lst zs)∧xs.length+zs.length≤sizeLine∧∀p,H p=none→Q (.ref p) (upd H p (.lst (xs++zs)))
theorem HG:dp X (binaryOp .Add) Io:=by
 intro pins s σ H x y v u Q I bl b7 h;obtain⟨l,b,xs,zs,rfl,rfl,ia,mu,bq,q⟩:=h;cases bl;cases b7;obtain⟨z,its,n,r,hl,e⟩:=I.pB ia;obtain⟨aZ,et,c0,a5,sJ,ay⟩:=I.pB mu;refine PySem.P.add_list e ay ?_ (by rw[List.size_toArray,List.size_toArray];omega);have aq:its.toArray++et.toArray=(its++et).toArray:=by simp
 rw[aq];exact⟨.ref _,_,I.Aa (t':=s.toks) (r.append a5) (by rw[List.length_append];omega),rfl,q _ I.fresh⟩
noncomputable def Iw:eo:=fun x y H Q=>∃l k xs,x=.ref l∧y=.int k∧H l=some (.lst xs)∧-(2^63)≤k∧k<2^63∧xs.length*k.toNat≤sizeLine∧
 ∀p,H p=none→Q (.ref p) (upd H p (.lst (List.replicate k.toNat xs).flatten))
theorem len_rep{α:Type}(xs:List α)(k:Nat):(List.replicate k xs).flatten.length=k*xs.length:=by
 induction k with
 |zero=>simp
 |succ k bW=>rw[List.replicate_succ,List.flatten_cons,List.length_append,bW,Nat.succ_mul,Nat.add_comm]
theorem TO:dp X (binaryOp .Mult) Iw:=by
 intro pins s σ H x y v u Q I bl b7 h;obtain⟨l,k,xs,rfl,rfl,ia,h1,h2,bq,q⟩:=h;cases bl;obtain⟨t,rfl⟩:=b7;obtain⟨z,its,n,r,hl,e⟩:=I.pB ia;have hlen:its.toArray.size*k.toNat≤sizeLine:=by rw[List.size_toArray,←hl];exact bq
 have OG:¬its.toArray.size*k.toNat>(2^63-1)/8:=by
  have:(sizeLine:Nat)≤(2^63-1)/8:=by decide
  omega
 have OP:¬(!Builtin.List.listFitsIndex k)=true:=by rw[fitsIndex_both h1 h2];exact Bool.false_ne_true
 have zI:¬Builtin.List.listTooLong (its.toArray.size*k.toNat)=true:=by rw[Hy hlen];exact Bool.false_ne_true
 have Pa:List.foldl (fun fB f5=>fB++f5) #[] (List.replicate (if its.toArray.isEmpty=true then 0 else k.toNat) its.toArray)=(List.replicate k.toNat its).flatten.toArray:=by
  have f0:∀m:Nat,List.foldl (fun fB f5=>fB++f5) #[] (List.replicate m its.toArray)=(List.replicate m its).flatten.toArray:=fun m=>by have:=foldl_rep its m [];rw[List.nil_append]at this;exact this
  rw[f0];cases its with
  |nil=>simp
  |cons a a8=>rw[if_neg (by simp)]
 refine wpAny_binaryOp_repeat_ref (T:="list") (U:="int") (by decide) ⟨_,e,rfl⟩ (fun s'=>typeIs_int s' k t) noFill_list_mul F.fills_int_mul F.slot_int_rmul repeat_list F.slot_int_index.lookup
  (call_meets F.slot_int_rmul (typeIs_int s k t) F.entry_int_rmul (F.args_int_rmul_2 _ _) (int___rmul___int_list k t l its.toArray n)
    ⟨e,rfl,⟨_,e,rfl⟩,call_meets F.slot_list_mul ⟨_,e,rfl⟩ F.entry_list_mul (F.args_list_mul_2 _ _) (AutoListH.list___mul___list_int_3 l its.toArray n k t OP OG zI) ⟨e,?_⟩⟩)
 rw[Pa];exact⟨.ref _,_,I.Aa (t':=s.toks) (r.rep k.toNat) (by rw[len_rep,Nat.mul_comm];exact bq),rfl,q _ I.fresh⟩
end
section
variable{prog:Program}{w:World}{A:Around}{E:Value→Shared→Prop}{s:Shared}
end
section
variable{X:aC}
end
section
variable{κ:Type}[DecidableEq κ]
def f3(aR:List (κ×V))(k:κ):Option V:=(aR.find? fun eD=>decide (eD.1=k)).map (·.2)
noncomputable def putK(aR:List (κ×V))(k:κ)(v:V):List (κ×V):=
 if(aR.any fun eD=>decide (eD.1=k))=true then aR.map (fun eD=>if eD.1=k then(eD.1,v)else eD)else aR++[(k,v)]
def Eh(aR:List (κ×V))(k:κ):List (κ×V):=aR.filter fun eD=>decide (eD.1≠k)
theorem Cg{p:κ×V}{r:List (κ×V)}{k:κ}(e:p.1=k):f3 (p::r) k=some p.2:=by simp[f3,List.find?_cons,e]
theorem Cf{p:κ×V}{r:List (κ×V)}{k:κ}(e:¬p.1=k):f3 (p::r) k=f3 r k:=by simp[f3,List.find?_cons,e]
theorem Ce(k:κ):∀aR:List (κ×V),(aR.any fun eD=>decide (eD.1=k))=(f3 aR k).isSome
 |[]=>rfl
 |p::r=>by
  rw[List.any_cons];by_cases e:p.1=k
  ·simp only[Cg e,decide_eq_true e,Bool.true_or,Option.isSome_some]
  ·rw[Cf e,decide_eq_false e,Bool.false_or];exact Ce k r
theorem G8(aR:List (κ×V))(k:κ)(v:V):(putK aR k v).length≤aR.length+1:=by
 unfold putK
 split
 ·rw[List.length_map];omega
 ·rw[List.length_append,List.length_cons,List.length_nil];omega
theorem U1{aR:List (κ×V)}{k:κ}(v:V)(h:f3 aR k=none):putK aR k v=aR++[(k,v)]:=by unfold putK;rw[Ce,h];exact if_neg (by decide)
theorem hX.sR{o:Option V}{u:Option Value}(r:hX o u):o.isSome=u.isSome:=by
 cases o with
 |none=>cases u with
  |none=>rfl
  |some _=>exact(show False from r).elim
 |some _=>cases u with
  |none=>exact(show False from r).elim
  |some _=>rfl
theorem hX.getD{o:Option V}{u:Option Value}{d:V}{d':Value}(r:hX o u)(Vm:RelV d d'):RelV (o.getD d) (u.getD d'):=by
 cases o with
 |none=>cases u with
  |none=>exact Vm
  |some _=>exact(show False from r).elim
 |some _=>cases u with
  |none=>exact(show False from r).elim
  |some _=>exact r
theorem fe.val{aR:List (κ×V)}{vs:List (κ×Value)}(r:fe aR vs)(k:κ):hX (f3 aR k) (valueAt vs k):=by
 unfold fe at r;induction r with
 |nil=>exact True.intro
 | @cons p q ps qs h t bW=>
   obtain⟨h1,h2⟩:=h;by_cases e:p.1=k
   ·have b3:q.1=k:=h1.symm.trans e;have b:valueAt (q::qs) k=some q.2:=by simp[valueAt,List.find?_cons,b3]
    rw[Cg e,b];exact h2
   ·have b3:¬q.1=k:=fun z=>e (h1.trans z);have b:valueAt (q::qs) k=valueAt qs k:=by simp[valueAt,List.find?_cons,b3]
    rw[Cf e,b];exact bW
theorem fe.any{aR:List (κ×V)}{vs:List (κ×Value)}(r:fe aR vs)(k:κ):(aR.any fun eD=>decide (eD.1=k))=vs.any fun eD=>decide (eD.1=k):=by
 unfold fe at r;induction r with
 |nil=>rfl
 |cons h t bW=>rw[List.any_cons,List.any_cons,bW,h.1]
theorem fe.AJ{aR:List (κ×V)}{vs:List (κ×Value)}(r:fe aR vs)(k:κ){y:V}{u:Value}(b7:RelV y u) :
  fe (aR.map fun eD=>if eD.1=k then(eD.1,y)else eD) (vs.map fun eD=>if eD.1=k then(eD.1,u)else eD):=by
 unfold fe at r ⊢;induction r with
 |nil=>exact .nil
 | @cons p q ps qs h t bW=>
   rw[List.map_cons,List.map_cons];refine .cons ?_ bW;obtain⟨h1,h2⟩:=h;by_cases e:p.1=k
   ·rw[if_pos e,if_pos (h1.symm.trans e)];exact⟨h1,b7⟩
   ·rw[if_neg e,if_neg (fun z=>e (h1.trans z))];exact⟨h1,h2⟩
theorem fe.put{aR:List (κ×V)}{vs:List (κ×Value)}(r:fe aR vs)(k:κ){y:V}{u:Value}(b7:RelV y u):fe (putK aR k y) (stored vs k u):=by
 unfold putK stored;rw[r.any k];by_cases e:(vs.any fun eD=>decide (eD.1=k))=true
 ·rw[if_pos e,if_pos e];exact r.AJ k b7
 ·rw[if_neg e,if_neg e];exact Paired.snoc r ⟨rfl,b7⟩
theorem fe.drop{aR:List (κ×V)}{vs:List (κ×Value)}(r:fe aR vs)(k:κ):fe (Eh aR k) (without vs k):=by
 unfold fe at r ⊢;unfold Eh without;induction r with
 |nil=>exact .nil
 | @cons p q ps qs h t bW=>
   obtain⟨h1,h2⟩:=h;rw[List.filter_cons,List.filter_cons];by_cases e:p.1=k
   ·have a:¬decide (p.1≠k)=true:=by simp[e]
    have b:¬decide (q.1≠k)=true:=by simp[h1.symm.trans e]
    rw[if_neg a,if_neg b];exact bW
   ·have b3:¬q.1=k:=fun z=>e (h1.trans z);have a:decide (p.1≠k)=true:=by simp[e]
    have b:decide (q.1≠k)=true:=by simp[b3]
    rw[if_pos a,if_pos b];exact .cons ⟨h1,h2⟩ bW
theorem fe.length{aR:List (κ×V)}{vs:List (κ×Value)}(r:fe aR vs):aR.length=vs.length:=Paired.length r
end
theorem sT{P:Program}{w:World}{k:Key}{u:Value}(r:RelV (cD k) u):(hI P w).is k u=true:=by
 cases k with
 |inl i=>obtain⟨t,e⟩:=(show ∃t,u=Value.int i t from r);subst e;exact SA P w i t
 |inr x=>obtain⟨t,e⟩:=(show ∃t,u=Value.str x t from r);subst e;exact SD P w x t
theorem GC{P:Program}{w:World}:∀{aD:List Key}{us:List Value},Vals (aD.map cD) us→ItemsAre (hI P w) aD us
 |[],_,r=>by rw[List.map_nil]at r;cases r;exact .nil
 |k::aD,_,r=>by
  rw[List.map_cons]at r;cases r with
  |cons h t=>exact .cons (sT h) (GC t)
abbrev KT(H:ag):List (List Key×V)→List (List Key×Addr×Value)→Prop:=Paired fun p q=>p.1=q.1∧H q.2.1=some (.tup (p.1.map cD))∧RelV p.2 q.2.2
theorem KT.val{H:ag}{aR:List (List Key×V)}{xs:List (List Key×Addr×Value)}(r:KT H aR xs)(k:List Key):hX (f3 aR k) ((atKey xs k).map (·.2)):=by
 induction r with
 |nil=>exact True.intro
 | @cons p q ps qs h t bW=>
   obtain⟨h1,_,h2⟩:=h;by_cases e:p.1=k
   ·have b3:q.1=k:=h1.symm.trans e;have b:atKey (q::qs) k=some q.2:=by simp[atKey,List.find?_cons,b3]
    rw[Cg e,b];exact h2
   ·have b3:¬q.1=k:=fun z=>e (h1.trans z);have b:atKey (q::qs) k=atKey qs k:=by simp[atKey,List.find?_cons,b3]
    rw[Cf e,b];exact bW
theorem KT.AJ{H:ag}{aR:List (List Key×V)}{xs:List (List Key×Addr×Value)}(r:KT H aR xs)(k:List Key){y:V}{u:Value}(b7:RelV y u) :
  KT H (aR.map fun eD=>if eD.1=k then(eD.1,y)else eD) (xs.map (putAt k u)):=by
 induction r with
 |nil=>exact .nil
 | @cons p q ps qs h t bW=>
   rw[List.map_cons,List.map_cons];refine .cons ?_ bW;obtain⟨h1,h2,h3⟩:=h;unfold putAt;by_cases e:p.1=k
   ·rw[if_pos e,if_pos (h1.symm.trans e)];exact⟨h1,h2,b7⟩
   ·rw[if_neg e,if_neg (fun z=>e (h1.trans z))];exact⟨h1,h2,h3⟩
theorem KT.put{H:ag}{aR:List (List Key×V)}{xs:List (List Key×Addr×Value)}(r:KT H aR xs)(k:List Key){b:Addr}{y:V}{u:Value}(hb:H b=some (.tup (k.map cD)))(b7:RelV y u) :
  KT H (putK aR k y) (storedH xs k b u):=by
 have e:(aR.any fun eD=>decide (eD.1=k))=(atKey xs k).isSome:=by rw[Ce,(r.val k).sR,Option.isSome_map]
 unfold putK storedH;rw[e];by_cases q:(atKey xs k).isSome=true
 ·rw[if_pos q,if_pos q];exact r.AJ k b7
 ·rw[if_neg q,if_neg q];exact Paired.snoc r ⟨rfl,hb,b7⟩
theorem KT.keeps{H H':ag}{aR:List (List Key×V)}{xs:List (List Key×Addr×Value)}(r:KT H aR xs)(ht:∀b ys,H b=some (.tup ys)→H' b=some (.tup ys)):KT H' aR xs:=
 Paired.Ah r fun _ _ z=>⟨z.1,ht _ _ z.2.1,z.2.2⟩
section
variable{P:Program}{w:World}{H:ag}{h:Heap}{a:Addr}
theorem ID{u:du}(ok:d2 P w H h)(e:gb H a u):eI P w H h a u:=e.ok ok
theorem sb{aR:List (Key×V)}(ok:d2 P w H h)(e:gb H a (.cY aR)):aR.length≤sizeLine∧(a==sysModules)=false∧∃vs,fe aR vs∧h.DictOf (hI P w) a vs:=
 show eI P w H h a (.cY aR)from ID ok e
theorem MB{aR:List (Key×V)}(ok:d2 P w H h)(e:H a=some (.cY aR)):aR.length≤sizeLine∧(a==sysModules)=false∧∃vs,fe aR vs∧h.DictOf (hI P w) a vs:=sb ok (.inl e)
theorem qZ{aD:List Key}(ok:d2 P w H h)(e:H a=some (.tup (aD.map cD))):(tupleKind (hI P w)).is h aD a:=by obtain⟨_,its,r,o,h1,h2,n,h3⟩:=(show eI P w H h a (.tup (aD.map cD))from ok a _ e);exact⟨o,its.toArray,n,h1,h2,h3,by simpa using GC r⟩
theorem sd{aR:List (List Key×V)}(ok:d2 P w H h)(e:gb H a (.bI aR)):aR.length≤sizeLine∧(a==sysModules)=false∧
  ∃xs,KT H aR xs∧h.DictOfH (tupleKind (hI P w)) a xs:=by
 obtain⟨z,y,xs,r,o,es,cH,h1,h2,h3,h4,h5⟩:=(show eI P w H h a (.bI aR)from ID ok e);refine⟨z,y,xs,r,o,es,cH,h1,h2,h3,h4,fun x hx=>?_,h5⟩;have all:∀{l:List (List Key×V)}{m:List (List Key×Addr×Value)},KT H l m→∀x∈m,(tupleKind (hI P w)).is h x.1 x.2.1:=by
  intro l m q;induction q with
  |nil=>intro x hx;exact nomatch hx
  | @cons p q ps qs aK t bW=>
    intro x hx;rcases List.mem_cons.mp hx with e|hx
    ·subst e;exact qZ ok (by rw[←aK.1];exact aK.2.1)
    ·exact bW x hx
 exact all r x hx
theorem MF{aR:List (List Key×V)}(ok:d2 P w H h)(e:H a=some (.bI aR)):aR.length≤sizeLine∧(a==sysModules)=false∧
  ∃xs,KT H aR xs∧h.DictOfH (tupleKind (hI P w)) a xs:=sd ok (.inl e)
end
noncomputable def jn(H:ag)(a:Addr)(y:V)(r:Option V):Prop:=
 (∃aR k,gb H a (.cY aR)∧y=cD k∧r=f3 aR k)∨∃aR k b,gb H a (.bI aR)∧y=.ref b∧H b=some (.tup (k.map cD))∧r=f3 aR k
noncomputable def oF(H:ag)(a:Addr)(y v:V)(H':ag):Prop:=
 (∃aR k,H a=some (.cY aR)∧y=cD k∧aR.length<sizeLine∧H'=upd H a (.cY (putK aR k v)))∨
 ∃aR k b,H a=some (.bI aR)∧y=.ref b∧H b=some (.tup (k.map cD))∧aR.length<sizeLine∧H'=upd H a (.bI (putK aR k v))
theorem jn.k{H:ag}{a:Addr}{aR:List (Key×V)}{k:Key}(e:H a=some (.cY aR)):jn H a (cD k) (f3 aR k):=.inl ⟨aR,k,.inl e,rfl,rfl⟩
theorem jn.t{H:ag}{a b:Addr}{aR:List (List Key×V)}{k:List Key}(e:H a=some (.bI aR))(a7:H b=some (.tup (k.map cD))):jn H a (.ref b) (f3 aR k):=.inr ⟨aR,k,b,.inl e,rfl,a7,rfl⟩
theorem oF.k{H:ag}{a:Addr}{aR:List (Key×V)}{k:Key}{v:V}(e:H a=some (.cY aR))(hl:aR.length<sizeLine):oF H a (cD k) v (upd H a (.cY (putK aR k v))):=.inl ⟨aR,k,e,rfl,hl,rfl⟩
theorem oF.t{H:ag}{a b:Addr}{aR:List (List Key×V)}{k:List Key}{v:V}(e:H a=some (.bI aR))(a7:H b=some (.tup (k.map cD)))(hl:aR.length<sizeLine) :
  oF H a (.ref b) v (upd H a (.bI (putK aR k v))):=.inr ⟨aR,k,b,e,rfl,a7,hl,rfl⟩
section
variable{X:aC}{pins:List (Addr×Obj)}{σ :St}{H:ag}{s:Shared}{a:Addr}{y v:V}{u r:Value}{o:Option V}{A:Around}{E:Value→Shared→Prop}
theorem Inv.big(I:Inv X pins σ H s):sysModules<s.heap.objs.size:=by have h:mainGlobals<s.heap.objs.size:=(I.mod.glob.keeps I.ez).lt;exact Nat.lt_trans (by decide) h
theorem Mn{Q:Value→Shared→Prop}(hu:A.units+1<cLine)(I:Inv X pins σ H s)(g:jn H a y o)(b7:RelV y u)(h:∀s',Inv X pins σ H s'→Q (.bool o.isSome) s') :
  wpAny (model X.prog X.w) A (compareOp .In u (.ref a)) Q E s:=by
 rcases g with⟨aR,k,e,d4,l⟩|⟨aR,k,b,e,d4,a7,l⟩
 ·subst d4;obtain⟨z,hd,vs,rel,dd⟩:=sb I.br e;refine wpAny_in_of (sT b7) hd dd.mapOf ?_;rw[←(rel.val k).sR,←l];exact h _ (I.tok _)
 ·subst d4;cases(show u=Value.ref b from b7);obtain⟨z,hd,xs,rel,dd⟩:=sd I.br e;refine wpAny_in_heap (tupleKind_room_in1 hu) (qZ I.br a7) hd dd ?_;have q:=(rel.val k).sR;rw[Option.isSome_map]at q;rw[←q,←l];exact h _ (I.tok _)
theorem Mo{Q:Value→Shared→Prop}(hu:A.units+1<cLine)(I:Inv X pins σ H s)(g:jn H a y o)(b7:RelV y u)(h:∀s',Inv X pins σ H s'→Q (.bool (!o.isSome)) s') :
  wpAny (model X.prog X.w) A (compareOp .NotIn u (.ref a)) Q E s:=by
 rcases g with⟨aR,k,e,d4,l⟩|⟨aR,k,b,e,d4,a7,l⟩
 ·subst d4;obtain⟨z,hd,vs,rel,dd⟩:=sb I.br e;refine wpAny_notIn_of (sT b7) hd dd.mapOf ?_;rw[←(rel.val k).sR,←l];exact h _ (I.tok _)
 ·subst d4;cases(show u=Value.ref b from b7);obtain⟨z,hd,xs,rel,dd⟩:=sd I.br e;refine wpAny_notIn_heap (tupleKind_room_in1 hu) (qZ I.br a7) hd dd ?_;have q:=(rel.val k).sR;rw[Option.isSome_map]at q;rw[←q,←l];exact h _ (I.tok _)
theorem D8{h':Heap}{t':Nat}{aV:du}(I:Inv X pins σ H s)(jh:rU (H a))(hs:Heap.SameBut a s.heap h')(he:∃q,h'.get? a=some q)(new:eI X.prog X.w (upd H a aV) h' a aV) :
  Inv X pins σ (upd H a aV) { s with heap:=h',toks:=t' }:=
 I.write (x:=a) (e:=a) jh (.inl rfl) (fun b q hb z=>(hs.2 b hb).trans z) he new
theorem MA{P:Program}{w:World}{H':ag}{h':Heap}{aR:List (Key×V)}{vs:List (Key×Value)}(z:aR.length≤sizeLine)(hd:(a==sysModules)=false)(rel:fe aR vs)(dd:h'.DictOf (hI P w) a vs) :
  eI P w H' h' a (.cY aR):=⟨z,hd,vs,rel,dd⟩
theorem Mq{H':ag}{Q:Unit→Shared→Prop}(hu:A.units+1<cLine)(I:Inv X pins σ H s)(g:oF H a y v H')(b7:RelV y u)(bV:RelV v r)(h:∀s',Inv X pins σ H' s'→Q () s') :
  wpAny (model X.prog X.w) A (setItem (.ref a) u r) Q E s:=by
 rcases g with⟨aR,k,e,d4,l,y3⟩|⟨aR,k,b,e,d4,a7,l,y3⟩
 ·subst d4 y3;obtain⟨z,hd,vs,rel,dd⟩:=MB I.br e;have bq:vs.length≤sizeLine:=by rw[←rel.length];exact z
  have hl:(putK aR k v).length≤sizeLine:=by have:=G8 aR k v;omega
  refine wpAny_setItem_pairs (hsz:=bq) (sT b7) dd fun h' vf hs=>h _ ?_;have he:∃q,h'.get? a=some q:=let⟨q,_,_,aK,_⟩:=vf;⟨q,aK⟩
  exact D8 I (by rw[e];exact True.intro) hs he (MA hl hd (rel.put k bV) vf)
 ·subst d4 y3;cases(show u=Value.ref b from b7);obtain⟨z,hd,xs,rel,dd⟩:=MF I.br e;have bq:xs.length≤sizeLine:=by rw[←Paired.length rel];exact z
  have hl:(putK aR k v).length≤sizeLine:=by have:=G8 aR k v;omega
  refine wpAny_setItem_heap (hsz:=bq) (tupleKind_room_in1 hu) (qZ I.br a7) dd fun h' vf hs=>h _ ?_;obtain⟨q,es,cH,aK,h2,h3,h4,_,h5⟩:=vf;refine D8 I (by rw[e];exact True.intro) hs ⟨q,aK⟩ ⟨hl,hd,_,(rel.put k a7 bV).keeps fun c ys ec=>?_,q,es,cH,aK,h2,h3,h4,h5⟩;rw[c2 (SS ec e (fun z=>nomatch z))];exact ec
end
section
variable{X:aC}{pins:List (Addr×Obj)}{σ :St}{H:ag}{s:Shared}{a:Addr}{aR:List (Key×V)}{k:Key}{u:Value}{A:Around}{E:Value→Shared→Prop}
end
noncomputable def Jw(ty hP:TE):TE:=fun σ H Q=>ty σ H fun y H1=>hP σ H1 fun x aS=>∃a o,x=.ref a∧jn aS a y o∧Q (.au o.isSome) aS
noncomputable def Jx(ty hP:TE):TE:=fun σ H Q=>ty σ H fun y H1=>hP σ H1 fun x aS=>∃a o,x=.ref a∧jn aS a y o∧Q (.au (!o.isSome)) aS
noncomputable def VI(hP ty mX:TE):eL:=fun D σ H=>mX σ H fun v H1=>hP σ H1 fun x aS=>ty σ aS fun y cQ=>∃a gA,x=.ref a∧oF cQ a y v gA∧D.bk σ gA
section
variable{X:aC}{o i e value:Expr}{pos pos' rA:Pos}{hP ty mX:TE}
theorem HT(hu:X.A.units+1<cLine)(hi:aT X i ty)(ho:aT X o hP):uC X .In i o (Jw ty hP):=by intro pins s σ H Q I h;refine bF (hi pins s σ H _ I h) fun hF s1⟨y,H1,aL,b7,aM⟩=>bF (ho pins s1 σ H1 _ aL aM) fun u s2⟨x,aS,bT,bl,a,dF,ex,g,a_⟩=>?_;subst ex;obtain rfl:u=Value.ref a:=bl;exact Mn hu bT g b7 fun s3 dC=>⟨.au dF.isSome,aS,dC,rfl,a_⟩
theorem T3(hu:X.A.units+1<cLine)(hi:aT X i ty)(ho:aT X o hP):uC X .NotIn i o (Jx ty hP):=by intro pins s σ H Q I h;refine bF (hi pins s σ H _ I h) fun hF s1⟨y,H1,aL,b7,aM⟩=>bF (ho pins s1 σ H1 _ aL aM) fun u s2⟨x,aS,bT,bl,a,dF,ex,g,a_⟩=>?_;subst ex;obtain rfl:u=Value.ref a:=bl;exact Mo hu bT g b7 fun s3 dC=>⟨.au (!dF.isSome),aS,dC,rfl,a_⟩
theorem UO(hu:X.A.units+1<cLine)(ho:aT X o hP)(hi:aT X i ty)(hv:aT X value mX)(hs:swapsWith value (some (.Subscript o i pos')) pos.line X.env=pure false) :
  c7 X (.Assign [.Subscript o i pos'] value pos) (VI hP ty mX):=by
 intro pins s σ H D I h;refine wpAny_Assign_Subscript (bF (hv pins s σ H _ I h) fun r s1⟨v,H1,aL,bV,aM⟩=>bF (ho pins s1 σ H1 _ aL aM) fun u s2⟨x,aS,bT,bl,a_⟩=>bF (hi pins s2 σ aS _ bT a_) fun hF s3⟨y,cQ,dC,b7,a,gA,ex,g,c_⟩=>?_) hs;subst ex;obtain rfl:u=Value.ref a:=bl;exact Mq hu dC g b7 bV fun s4 jV=>⟨σ,gA,jV,c_⟩
end
theorem Mz{P:Program}{w:World}{H:ag}(h:Heap)(hb:sysModules<h.objs.size):eI P w H (h.push { cls:=.type "dict",data:=.dict #[] }) h.objs.size (.cY []):=
 ⟨Nat.zero_le _,beq_eq_false_iff_ne.mpr (Ne.symm (Nat.ne_of_lt hb)),[],.nil,Heap.DictOf.new h⟩
theorem ME{P:Program}{w:World}{H:ag}(h:Heap)(hb:sysModules<h.objs.size):eI P w H (h.push { cls:=.type "dict",data:=.dict #[] }) h.objs.size (.bI []):=
 ⟨Nat.zero_le _,beq_eq_false_iff_ne.mpr (Ne.symm (Nat.ne_of_lt hb)),[],.nil,_,#[],0,Heap.get?_push_size _ rfl,⟨rfl,rfl,rfl⟩,rfl,rfl,List.nodup_nil⟩
def Xe:TE:=fun _ H Q=>∀p,H p=none→Q (.ref p) (upd H p (.cY []))
def Xf:TE:=fun _ H Q=>∀p,H p=none→Q (.ref p) (upd H p (.bI []))
section
variable{X:aC}{pos:Pos}
theorem Ua:aT X (.Dict [] [] pos) Xe:=fun pins s σ H Q I h=>
 wpAny_Dict_empty ⟨.ref s.heap.objs.size,_,I.laid (a:=s.heap.objs.size) (o:=.cY []) (t':=s.toks) (fun _ _ q=>Heap.get?_push_of_some _ q) (Nat.le_refl _) (Mz s.heap I.big),rfl,h _ (I.br.fresh (Nat.le_refl _))⟩
theorem Ub:aT X (.Dict [] [] pos) Xf:=fun pins s σ H Q I h=>
 wpAny_Dict_empty ⟨.ref s.heap.objs.size,_,I.laid (a:=s.heap.objs.size) (o:=.bI []) (t':=s.toks) (fun _ _ q=>Heap.get?_push_of_some _ q) (Nat.le_refl _) (ME s.heap I.big),rfl,h _ (I.br.fresh (Nat.le_refl _))⟩
end
structure Lb(X:aC)(o:Expr)(m:Str)(apos:Pos)(e:Expr)(bG:Pos):Prop where
 base:attributeBase o m X.env (eval o X.env)=eval o X.env
 few:((backTo bG (starEach [e] X.env)).all (fun x=>!x.1)&&(backToKw bG (keywordEach [] X.env)).all (fun x=>x.1.isSome)
  &&decide (([e]:List Expr).length+([]:List Keyword).length+(if([]:List Keyword).isEmpty then 0 else 1)<30))=true
 line:(apos.endLine==bG.line)=true
 trees:backTo bG (starEach [e] X.env)=[(false,eval e X.env)]
def CO(H:ag)(a:Addr):Prop:=(∃aR,gb H a (.cY aR))∨∃aR,gb H a (.bI aR)
theorem QK{X:aC}{pins:List (Addr×Obj)}{σ :St}{H:ag}{s:Shared}{a:Addr}(I:Inv X pins σ H s)(d:CO H a) :
  s.TypeIs (.ref a) "dict"∧(∀b,Value.ref a=.ref b→∃aV,s.heap.get? b=some aV∧aV.dict=none)∧(a==sysModules)=false:=by
 rcases d with⟨aR,e⟩|⟨aR,e⟩
 ·obtain⟨_,hd,vs,_,dd⟩:=sb I.br e;refine⟨dd.typeIs,fun b q=>?_,hd⟩;cases q;obtain⟨aV,_,_,h1,h2,_⟩:=dd;exact⟨aV,h1,h2.2.1⟩
 ·obtain⟨_,hd,xs,_,dd⟩:=sd I.br e;refine⟨dd.typeIs,fun b q=>?_,hd⟩;cases q;obtain⟨aV,_,_,h1,h2,_⟩:=dd;exact⟨aV,h1,h2.2.1⟩
section
variable{X:aC}{pins:List (Addr×Obj)}{σ :St}{H:ag}{s:Shared}{a:Addr}{y d:V}{u r:Value}{o:Option V}{A:Around}{E:Value→Shared→Prop}
theorem Mm{Q:Value→Shared→Prop}(hu:A.units+1<cLine)(I:Inv X pins σ H s)(g:jn H a y o)(b7:RelV y u)(h:∀eY s',Inv X pins σ H s'→RelV (o.getD .non) eY→Q eY s') :
  wpAny (model X.prog X.w) A (call (.builtin "dict.get") [.ref a,u]) Q E s:=by
 rcases g with⟨aR,k,e,d4,l⟩|⟨aR,k,b,e,d4,a7,l⟩
 ·subst d4;obtain⟨z,hd,vs,rel,dd⟩:=sb I.br e;refine call_meetsIn PySem.F.slot_dict_get dd.typeIs PySem.F.entry_dict_get (PySem.F.args_dict_get_2 _ _) (meets_dict_get (hI X.prog X.w) a (sT b7) hd) ⟨_,dd.mapOf,h _ _ (I.tok _) ?_⟩;rw[l];exact(rel.val k).getD rfl
 ·subst d4;cases(show u=Value.ref b from b7);obtain⟨z,hd,xs,rel,dd⟩:=sd I.br e;refine call_meetsIn PySem.F.slot_dict_get dd.typeIs PySem.F.entry_dict_get (PySem.F.args_dict_get_2 _ _) (meetsH_dict_get (tupleKind (hI X.prog X.w)) a b hd) ⟨tupleKind_room_in1 hu,k,xs,qZ I.br a7,dd,h _ _ (I.tok _) ?_⟩;rw[l];exact(rel.val k).getD rfl
end
noncomputable def Jv(hP ty:TE):TE:=fun σ H Q=>hP σ H fun x H1=>∃a,x=.ref a∧CO H1 a∧ty σ H1 fun y aS=>∃o,jn aS a y o∧Q (o.getD .non) aS
section
variable{X:aC}{o e f:Expr}{apos bG:Pos}{hP ty abg:TE}
theorem T_(hu:X.A.units+1<cLine)(ho:aT X o hP)(he:aT X e ty)(m:Lb X o "get" apos e bG):aT X (.Call (.Attribute o "get" apos) [e] [] bG) (Jv hP ty):=by intro pins s σ H Q I h;refine wpAny_Call_method m.base m.few m.line PySem.F.plainAttrs_dict PySem.F.slot_dict_get PySem.F.type_dict_get (bF (ho pins s σ H _ I h) fun u s1⟨x,H1,aL,bl,a,ex,d,aM⟩=>?_);subst ex;obtain rfl:u=Value.ref a:=bl;obtain⟨t1,ed,_⟩:=QK aL d;refine⟨t1,ed,?_⟩;rw[m.trees];refine Calls.callWith_builtin rfl (Calls.evalArgs_plain (Calls.spliced_cons (bF (he pins s1 σ H1 _ aL aM) fun hF s2⟨y,aS,bT,b7,dF,g,a_⟩=>Calls.spliced_nil ?_)));exact Mm hu bT g b7 fun eY s3 dC pV=>⟨_,aS,dC,pV,a_⟩
end
section
variable{X:aC}{pins:List (Addr×Obj)}{σ :St}{H:ag}{s:Shared}{a:Addr}{aR:List (Key×V)}{A:Around}{E:Value→Shared→Prop}
end
section
variable{X:aC}{pins:List (Addr×Obj)}{σ :St}{H:ag}{s:Shared}{a:Addr}{y:V}{u:Value}{A:Around}{E:Value→Shared→Prop}
end
end aQ
namespace CG
open PySem PySem.W PySem.Calls PyProof.Rows
theorem QG{P:Params}{h:Heap}:∀(ns:List Int)(vs:List Value),WellAll P h vs (ns.map WData.int)→IntsAre vs ns:=by
 intro ns;induction ns with
 |nil=>intro vs w;rw[List.map_nil]at w;cases w;exact .nil
 |cons n ns bW=>
  intro vs w;rw[List.map_cons]at w;cases w with
  |cons a b=>cases a;exact .cons _ _ (bW _ b)
theorem WB{l:OpenLaw}{n:Nat}(aE:l.most=some n){P:Params}{h:Heap}{args:List WData}{vals:List Value}(vK:l.row.toRowW.claim.pre args=true)(zS:WellAll P h vals args) :
  ∃a vs ns,vals=[Value.ref a]∧args=[WData.list (ns.map WData.int)]∧h.get? a=some { cls:=.type "list",data:=.seq vs.toArray }∧IntsAre vs ns∧ns.length≤n:=by
 have Pq:WShape.hasAll [] args [.list .int]=true:=(pre_splitW vK).1;have hc:l.pre.holds [] { args:=args }=true:=(pre_splitW vK).2;obtain⟨d,r,rfl,h1,h2⟩:=hasAllW_cons Pq;obtain rfl:=hasAllW_nil h2;obtain⟨xs,rfl,h3⟩:=hasW_list h1;obtain⟨ns,rfl⟩:=items_int h3;have hlen:ns.length≤n:=by
  unfold OpenLaw.pre at hc;have h4:(WTm.not (.lt (.lit (.int (n:Int))) (.len (.arg 0)))).holds [] { args:=[.list (ns.map .int)] }=true:=by have h4:=(holds_andW hc).1;rw[aE]at h4;exact h4
  have h5:=condW_of h4 (w_not (w_lt w_lit (w_len_list (w_arg rfl))));rw[List.length_map]at h5;refine Nat.le_of_not_lt fun q=>?_;have cV:(n:Int)<((ns.length:Nat):Int):=by omega
  first
   |(rw[decide_eq_true cV]at h5;exact absurd h5 (by decide))
   |(simp at h5;omega)
 cases zS with
 |cons jM iu=>
  cases iu;cases jM with
  |list ho zA=>exact⟨_,_,ns,rfl,rfl,ho,QG ns _ zA,hlen⟩
theorem UK(l:OpenLaw)(args:List WData):l.row.toRowW.claim.post args (.bool true) args=true:=
 postW_of (r:=l.row.toRowW) (X:=(true==true))
  (show WShape.has [] (.bool true) .bool=true by first|rfl|decide|simp[WShape.has,WShape.arms,WShape.armsAll])
  (show(WTm.eq .res (.lit (.bool true))).value [] { args:=args,res:=some (.bool true),after:=args }=some (.bool (true==true))from w_eq_bool (w_res rfl) w_lit) rfl
theorem LB {l:OpenLaw} {n:Nat} {q:Program} {loose:List Str} {qq:(Str→Option Value)→Heap→Prop} {ni:World→Heap→Prop} {d:DefRec}(aE:l.most=some n) (sI:d.params.defaults=[])(call:∀(w:World)(eX cX:Shared)(mg fm:Str→Option Value)(fz:Addr)(o:Obj)(pm cd doc:Value)(a:Addr)(vs:List Value)(ns:List Int),
    Ground q loose [] qq w eX mg fm cX.heap→ni w cX.heap→
    cX.heap.get? fz=some o→o.data=.func (docDef d.name d.params d.body d.scope pm cd doc)→cX.heap.CodeRec cd d.name→mg d.name=some (.ref fz)→
    cX.heap.get? a=some { cls:=.type "list",data:=.seq vs.toArray }→IntsAre vs ns→ns.length≤n→cX.gens= #[]→
    codeAny (model l.prog w) callerA (.call (.ref fz) ⟨[.ref a],[]⟩) (fun r s'=>r=.ok (.ret (.bool true))∧OldK cX.heap s'.heap∧s'.os=cX.os∧AllBare s'.gens) cX) :
  WalkO q loose qq ni l.row.toRowW d [] (fun f vs=>PySem.call f vs):=by
 intro w eX cX mg fm G Y fz o pm cd doc ve cD ho hd hcd FK sM hg args vals as vK aac aai zS aad;obtain rfl:ve=.none:=Dflts.none FK sI;obtain rfl:cD=.none:=Dflts.noKw FK;obtain⟨a,vs,ns,rfl,rfl,zK,hints,hlen⟩:=WB aE vK zS;refine enter_call (codeAny_mono (call w eX cX mg fm fz o pm cd doc a vs ns G Y ho (fd_plain hd) hcd sM zK hints hlen hg) fun r s' aK=>?_);obtain⟨rfl,h2,h3,h4⟩:=aK;exact⟨.inl ⟨.bool true,.bool true,[],rfl,fun _=>rfl,.bool true,UK l _,fun _=>⟨List.Pairwise.nil,fun _ hm=>(nomatch hm)⟩⟩,h2,h3,h4⟩
section
variable{prog:Program}{w:World}{A:Around}{E:Value→Shared→Prop}{s:Shared}{K:Frag}
end
end CG
namespace aQ
open PySem PySem.Spec PyProof.Rows
theorem Kd:∀{vs:List Value}{ns:List Int},IntsAre vs ns→Vals (ns.map V.int) vs
 |_,_,.nil=>.nil
 |_,_,.cons n t h=>.cons ⟨t,rfl⟩ (Kd h)
def x8(H:ag):Prop:=∀b,H b=none∨∃o xs,H b=some (.ju o (.lst xs))
theorem R1{P:Program}{w:World}{K:PySem.W.Frag}{mg fm:Str→Option Value}{CX:jU}{k:Nat}{fz a:Addr}{fd:FuncData}{x:Str}{sp:iE}{cX:Shared}{vs:List Value}{ns:List Int}(ky:K.In cX.heap)(F0:cX.heap.Ns mainGlobals mg)(hb:cX.heap.Ns builtinsNs fm)(zB:∀x:Str,x≠"__name__"→fm x=bootBuiltins x)(O5:cX.heap.NoLimit)(hg:cX.gens= #[])(ha:cX.heap.get? a=some { cls:=.type "list",data:=.seq vs.toArray })(hi:IntsAre vs ns)(hl:ns.length≤sizeLine)(hr:c4 k callerA)(F:∀base:Heap,K.In base→base.Ns mainGlobals mg→f7 P w K mg base CX k fz fd [x] sp)(OC:∀(s:Shared)(u:Value),BindsTo s fd ⟨[u],[]⟩ [(x,u)])(nG:∀H:ag,x8 H→bU K H a (ns.map V.int)→sp [.ref a] H (fun v _=>v=.au true) fun _ _ _=>False)(zw:∀H e s',CX [] H cX (fun _ _ _=>False) e s'→False) :
  codeAny (model P w) callerA (.call (.ref fz) ⟨[.ref a],[]⟩) (fun r s'=>r=.ok (.ret (.bool true))∧OldK cX.heap s'.heap∧s'.os=cX.os∧AllBare s'.gens) cX:=by
 have bV:=Kd hi;have R_:=hi.length
 have core:∀H:ag,x8 H→bU K H a (ns.map V.int)→d2 P w H cX.heap→(∀b,H b≠none→b=a)→(H a≠none→K.lookup a=none)→
   codeAny (model P w) callerA (.call (.ref fz) ⟨[.ref a],[]⟩) (fun r s'=>r=.ok (.ret (.bool true))∧OldK cX.heap s'.heap∧s'.os=cX.os∧AllBare s'.gens) cX:=by
  intro H vz iJ br i_ hK;have Dx:∀{b:Addr}{o:Obj},cX.heap.get? b=some o→H b=none→(my cX.heap H).get? b=some o:=fun e n=>OS e n;have tx:∀{b:Addr}{o:Obj}{es:Array DictEntry}{cH:Nat},cX.heap.get? b=some o→o.data=.dict es cH→H b=none:=fun{b o es cH} e d=>by
   cases q:H b with
   |none=>rfl
   |some u=>have b3:b=a:=i_ b (by rw[q];simp);subst b3;rw[ha]at e;cases e;have d':Data.seq vs.toArray _=Data.dict es cH:=d;cases d'
  have wA:∀{b:Addr}{m:Str→Option Value},cX.heap.Ns b m→(my cX.heap H).Ns b m:=fun{b m}⟨o,es,cH,e,d,r⟩=>⟨o,es,cH,Dx e (tx e d),d,r⟩;have FL:K.In (my cX.heap H):=fun b o e=>Dx (ky b o e) (by
   cases q:H b with
   |none=>rfl
   |some u=>have b3:b=a:=i_ b (by rw[q];simp);subst b3;rw[hK (by rw[q];simp)]at e;cases e)
  have pk:Mod K mg (my cX.heap H):=⟨FL,wA F0,⟨fm,wA hb,zB⟩,let⟨wm,h1,h2⟩:=O5;⟨wm,wA h1,h2⟩⟩;have cP:oI P w K mg (my cX.heap H) callerA [] cX H:=⟨rfl,pk,fun b o e=>Tn e,Nat.le_of_eq (OT _ _),trivial,fun b hb=>absurd (show b∈([]:List Addr)from hb) (by simp),br,.of_eq hg⟩;refine codeAny_mono ((F _ FL (wA F0)).run callerA [] cX H ⟨[.ref a],[]⟩ [.ref a] [.ref a] _ _ hr cP (OC cX (.ref a)) (.cons rfl .nil) (nG H vz iJ)) fun r s' h=>?_;cases r with
  |error e=>exact(zw H e s' h).elim
  |ok fl=>
   cases fl with
   |next=>exact False.elim h
   |brk=>exact False.elim h
   |cont=>exact False.elim h
   |ret u=>
    obtain⟨v,H',os,bare,un,Pg,a8,q⟩:=h;have cV:v=.au true:=q;subst cV;obtain rfl:u=Value.bool true:=a8;refine⟨rfl,OldK.of_keep fun b o e=>?_,os,bare⟩;cases q:H b with
    |none=>exact un.keep b o e q (by intro z;exact absurd (show b∈([]:List Addr)from z) (by simp)) (by simp)
    |some u=>
     rcases vz b with z|⟨aV,xs,z⟩
     ·rw[q]at z;cases z
     ·have aZ:=un.gR b aV _ z;obtain⟨ak,_⟩:=br b _ z;obtain⟨ay,_⟩:=Pg b _ aZ;rw[e]at ak;cases ak;exact ay
 cases hk:K.lookup a with
 |some o=>have e:=ky a o hk;rw[ha]at e;cases e;refine core (fun _=>none) (fun _=>.inl rfl) (.inr ⟨_,vs.toArray,_,hk,rfl,rfl,rfl,by rw[List.size_toArray,R_];exact hl,by simpa using bV⟩) (fun b u z=>by have f6:(none:Option du)=some u:=z;cases f6) (fun b z=>absurd rfl z) fun z=>absurd rfl z
 |none=>
  refine core (fun b=>if b=a then some (.ju { cls:=.type "list",data:=.seq vs.toArray } (.lst (ns.map V.int)))else none) (fun b=>?_) (.inl (.inr ⟨{ cls:=.type "list",data:=.seq vs.toArray },if_pos rfl⟩)) (fun b u z=>?_) (fun b z=>?_) fun _=>hk
  ·by_cases hb:b=a
   ·exact .inr ⟨_,_,if_pos hb⟩
   ·exact .inl (if_neg hb)
  ·by_cases hb:b=a
   ·have f6:=(if_pos hb).symm.trans z;cases f6;subst hb;exact⟨ha,by rw[List.length_map];exact hl,vs,_,bV,ha⟩
   ·have f6:=(if_neg hb).symm.trans z;cases f6
  ·by_cases hb:b=a
   ·exact hb
   ·exact absurd (if_neg hb) z
theorem YI {l:PySem.W.OpenLaw} {n k:Nat} {q:Program} {loose:List Str} {qq:(Str→Option Value)→Heap→Prop} {ni:World→Heap→Prop} {d:DefRec} {K:Params→PySem.W.Frag} {CX:World→jU} {sp:World→iE} {x:Str}(aE:l.most=some n) (vI:n≤sizeLine) (sI:d.params.defaults=[]) (hr:c4 k callerA)(zz:∀(w:World)(h:Heap),ni w h→(K w.params).In h)(F:∀(w:World)(mg:Str→Option Value)(fz:Addr)(h:Heap),(K w.params).In h→h.Ns mainGlobals mg→mg d.name=some (.ref fz)→
    ∃fd:FuncData,(∀(s:Shared)(u:Value),BindsTo s fd ⟨[u],[]⟩ [(x,u)])∧
     ∀base:Heap,(K w.params).In base→base.Ns mainGlobals mg→f7 l.prog w (K w.params) mg base (CX w) k fz fd [x] (sp w))
  (nG:∀(w:World)(H:ag)(a:Addr)(ns:List Int),ns.length≤n→x8 H→bU (K w.params) H a (ns.map V.int)→sp w [.ref a] H (fun v _=>v=.au true) fun _ _ _=>False)
  (zw:∀(w:World)(H:ag)(s:Shared)(e:Value)(s':Shared),CX w [] H s (fun _ _ _=>False) e s'→False) :
  PySem.W.WalkO q loose qq ni l.row.toRowW d [] (fun f vs=>PySem.call f vs):=by
 refine CG.LB aE sI fun w eX cX mg fm fz o pm cd doc a vs ns G Y ho hd hcd sM zK hints hlen hg=>?_;have ky:=zz w _ Y;obtain⟨fd,hb,lD⟩:=F w mg fz _ ky G.T.g sM;exact R1 ky G.T.g G.T.b G.T.builtins G.T.nolimit hg zK hints (Nat.le_trans hlen vI) hr lD hb (fun H vz iJ=>nG w H a ns hlen vz iJ) fun H e s'=>zw w H cX e s'
noncomputable def inClass(s:Stmt)(j:Nat):Stmt:=match s with
 |.ClassDef _ _ _ body _ _ _ _ _ _ _=>body.getD j (.Pass ⟨0,0,0,0⟩)
 |_=>.Pass ⟨0,0,0,0⟩
noncomputable def jr(s:Stmt):Arguments:=match s with
 |.FunctionDef _ a _ _ _ _ _ _ _ _=>a
 |_=>{ posonlyargs:=[],args:=[],vararg:=none,kwonlyargs:=[],kw_defaults:=[],kwarg:=none,defaults:=[] }
def fx(s:Stmt):List Stmt:=match s with
 |.FunctionDef _ _ b _ _ _ _ _ _ _=>b
 |_=>[]
noncomputable def bM(s:Stmt):Scope:=match s with
 |.FunctionDef _ _ _ _ _ _ sc _ _ _=>sc
 |_=>{ kind:=.function,names:=[],isGenerator:=false,isCoroutine:=false }
abbrev gK:jU:=fun _ _ _ _ _ _=>False
abbrev xS:cO:=fun _ _ _=>False
theorem tE{X:aC}:Passes gK X xS:=fun _ _ _ _ _ _ _ h=>h.elim
structure kv(K:PySem.W.Frag)(x qual:Str)(st:Stmt)(f:Addr)(fd:FuncData):Prop where
 ex:∃(eV:Value)(dv:Option Addr)(cD doc pm:Value)(an:Option Addr)(b1 ck:Value)(ke:Array (Option Value)),
  fd=PySem.W.fnOf x qual (jr st) (fx st) (bM st) .none cD doc pm an b1 ck∧K.lookup f=some ⟨eV,dv,.func fd,ke⟩∧PySem.W.codeIn K b1 qual=true
 aH:PySem.W.keepIn K (.ref f)=true
section
variable{P:Program}{w:World}{K:PySem.W.Frag}{mg:Str→Option Value}{base:Heap}
theorem kv.ok {x qual:Str} {st:Stmt} {f:Addr} {fd:FuncData} {N ps:List Str} {k:Nat} {sp:iE} (F:kv K x qual st f fd) (S:cG N ps (bM st)) (len:∀vs H Q E,sp vs H Q E→vs.length=ps.length)(zC:∀(b1:Value)(A:Around)(outer:List Env)(s:Shared)(H:ag)(vs:List V)(Q:cj)(E:cO),c4 k (A.deeper (envOfC qual (bM st) s.heap.objs.size f b1))→sp vs H Q E→
    ∃t,fF (eA gK P w K mg base N qual (bM st) f b1 A outer s H E).fo (fx st) t∧t { bk:=fun _ H'=>Q .non H',dG:=Q } (start N vs) H):f7 P w K mg base gK (k+1) f fd ps sp:=by
 obtain⟨eV,dv,cD,doc,pm,an,b1,ck,ke,rfl,lk,hcd⟩:=F.ex;refine zl lk hcd S len fun A outer s H vs Q E hr nG=>?_;obtain⟨t,h,q⟩:=zC b1 A outer s H vs Q E hr nG;exact⟨t,h.fo,q⟩
theorem kv.binds{x qual:Str}{st:Stmt}{f:Addr}{fd:FuncData}{ps:List Str}(F:kv K x qual st f fd)(h:∀(cD doc pm:Value)(an:Option Addr)(b1 ck:Value)(us:List Value),us.length=ps.length→bindArgs (PySem.W.fnOf x qual (jr st) (fx st) (bM st) .none cD doc pm an b1 ck) ⟨us,[]⟩=pure (ps.zip us)):Binds K fd ps []:=by obtain⟨eV,dv,cD,doc,pm,an,b1,ck,ke,rfl,lk,hcd⟩:=F.ex;exact .all (h cD doc pm an b1 ck)
theorem pj{x qual:Str}{st:Stmt}{f:Addr}{eV:Value}{dv an:Option Addr}{ke:Array (Option Value)}{cD doc pm b1 ck:Value}(l:K.lookup f=some ⟨eV,dv,.func (PySem.W.fnOf x qual (jr st) (fx st) (bM st) .none cD doc pm an b1 ck),ke⟩)(c:PySem.W.codeIn K b1 qual=true)(k:PySem.W.keepIn K (.ref f)=true):kv K x qual st f (PySem.W.fnOf x qual (jr st) (fx st) (bM st) .none cD doc pm an b1 ck):=⟨⟨eV,dv,cD,doc,pm,an,b1,ck,ke,rfl,l,c⟩,k⟩
end
section
variable{X:aC}
end
def qp(H H':ag):Prop:=∀b o,H b=some o→H' b=some o
theorem qp.trans{H H1 aS:ag}(a:qp H H1)(b:qp H1 aS):qp H aS:=fun c o h=>b c o (a c o h)
theorem qp.free{H H':ag}(e:qp H H'){l:Addr}(h:H' l=Option.none):H l=Option.none:=by
 cases q:H l with
 |none=>rfl
 |some o=>rw[e l o q]at h;cases h
section
variable{X:aC}
end
section
variable{κ:Type}[DecidableEq κ]
end
structure la(P:Program)(w:World)(outer:List Env)(H H':ag)(s:Shared)(a:Addr)(C eh:Value)(B:Heap)(s':Shared):Prop where
 os:s'.os=s.os
 bare:AllBare s'.gens
 un:eZ (d5 outer) [] H H' s.heap s'.heap
 lB:Heap.FlyingW B outer a C eh s'.heap
 old:∀b o,s.heap.get? b=some o→H b=none→b∉d5 outer→B.get? b=some o
 tW:∀b o,s.heap.get? b=some o→b∉d5 outer→∃bz,B.get? b=some bz
 br:d2 P w H' B
 ha:H' a=none
noncomputable def ft(P:Program)(w:World):jU:=fun outer H s E e s'=>∃(a:Addr)(C eh:Value)(B:Heap)(H':ag),e=.ref a∧la P w outer H H' s a C eh B s'∧E C (some a) H'
section
variable{X:aC}{pins:List (Addr×Obj)}{σ :St}{H H':ag}{s s':Shared}{a:Addr}{C eh:Value}{B:Heap}
theorem d2.part(x:d2 X.prog X.w H s.heap)(k:∀b u,(H b).isSome=true→s.heap.get? b=some u→B.get? b=some u):d2 X.prog X.w H B:=fun b o e=>
 (x b o e).kU (fun c u hc q=>k c u (by rcases hc with rfl|hc<;>simp[*]) q) (fun _ q=>q) fun _ _ q=>q
theorem FC{env:Env}{outer:List Env}{L:Addr}(h:env.frame=some L){b:Addr}(hb:b∈d5 (env::outer)):b=L∨b∈d5 outer:=by unfold d5 at hb;rw[List.filterMap_cons,h]at hb;exact List.mem_cons.mp hb
theorem Inv.R8{M:Model}{A:Around}{E:Value→Shared→Prop}{h':Heap}{vs:List Value}{Q:Unit→Shared→Prop}(I:Inv X pins σ H s)(hst:X.stack=X.env::X.outer)(nE:X.env.frame=some X.env.locals)(hex:X.ex=[])(i_:A.frames=some X.stack)(hx:Heap.MadeExcOf s.heap h' a C vs)(gj:∀eh B hO,la X.prog X.w X.outer X.oJ H X.eX a C eh B hO→Q () hO):wpAny M A (leaving X.env (.ref a)) Q E { s with heap:=h' }:=by
 have OV:∀env∈X.stack,∀b,env.frame=some b→b∈d5 X.stack:=fun env he b hb=>List.mem_filterMap.mpr ⟨env,he,hb⟩;have mu:∀b o,s.heap.get? b=some o→b∉d5 X.stack→(PySem.W.hideAll s.heap (d5 X.stack)).get? b=some o:=fun b o q n=>PySem.W.hideAll_get _ q n;have mz:∀b o,X.eX.heap.get? b=some o→b∉d5 X.outer→b∉d5 X.stack:=fun b o q n z=>by
  rw[hst]at z;rcases FC nE z with r|r
  ·subst r;exact absurd (Nat.lt_of_lt_of_le (Heap.lt_size q) I.ok.above) (Nat.lt_irrefl _)
  ·exact n r
 have gT:∀b,b∉X.ex:=fun b z=>by rw[hex]at z;cases z
 refine PySem.wpAny_leaves_madeW (base:=PySem.W.hideAll s.heap (d5 X.stack)) (h:=s.heap) (by rw[i_,hst]) nE (fun b o q=>PySem.W.of_hideAll _ q) (by have:=PySem.W.funFrames_hide (as:=d5 X.stack) I.stack OV;rw[hst]at this ⊢;exact this) hx fun j3 t fB f5 p6 ox=>?_;refine gj (.ref t) (PySem.W.hideAll s.heap (d5 X.stack)) _ ⟨I.os,I.bare,⟨?_,?_,?_,?_,I.base.hj,I.base.gR,I.base.g_⟩,fB,?_,?_,?_,?_⟩
 ·exact fun b o q n hb _=>fB.1 b o (mu b o (I.base.keep b o q n hb (gT b)) (mz b o q hb))
 ·intro b o q n hb _;obtain⟨cw,aM⟩:=I.base.slot b o q n hb (gT b);obtain⟨_,bz,cV,gr⟩:=I.ok.iH.mem hb;rw[q]at cV;cases cV;obtain⟨tM,a_⟩:=ox b _ (hx.keeps b _ aM) gr;exact⟨tM,a_⟩
 ·exact fun b o q n _=>I.base.free b o q n (gT b)
 ·intro b o q _;by_cases hb:b∈d5 X.outer
  ·obtain⟨_,bz,cV,_⟩:=fB.2.2.1.mem hb;exact⟨bz,cV⟩
  ·obtain⟨bz,cV⟩:=I.base.there b o q (gT b);exact⟨bz,fB.1 b bz (mu b bz cV (mz b o q hb))⟩
 ·exact fun b o q n hb=>mu b o (I.base.keep b o q n hb (gT b)) (mz b o q hb)
 ·intro b o q hb;obtain⟨bz,cV⟩:=I.base.there b o q (gT b);exact⟨bz,mu b bz cV (mz b o q hb)⟩
 ·exact d2.part (X:=X) (s:=s) I.br fun b u hs q=>mu b u q fun z=>by rw[I.BP b z]at hs;cases hs
 ·cases q:H a with
  |none=>rfl
  |some o=>
   have k:∀o:du,eI X.prog X.w H s.heap a o→∃u,s.heap.get? a=some u:=fun o x=>by
    induction o with
    |lst xs=>obtain⟨_,_,_,_,e⟩:=x;exact⟨_,e⟩
    |tup xs=>obtain⟨_,_,_,_,e,_⟩:=x;exact⟨_,e⟩
    |cY aR=>obtain⟨_,_,_,_,o,_,_,e,_⟩:=x;exact⟨_,e⟩
    |bI aR=>obtain⟨_,_,_,_,o,_,_,e,_⟩:=x;exact⟨_,e⟩
    |set S n=>obtain⟨o,_,_,_,e,_⟩:=x;exact⟨_,e⟩
    |ins C aN aP=>obtain⟨_,_,_,e,_⟩:=x;exact⟨_,e⟩
    |own y=>obtain⟨_,e⟩:=x;exact⟨_,e⟩
    |xw aP=>obtain⟨_,⟨_,_,_,e,_⟩,_⟩:=x;exact⟨_,e⟩
    |wU lo hi=>obtain⟨_,_,_,e⟩:=x;exact⟨_,e⟩
    |ju aV u=>obtain⟨e,_⟩:=x;exact⟨_,e⟩
    |ot ps=>exact⟨_,(show s.heap.get? a=some _ from x)⟩
    |met f y=>exact⟨_,(show s.heap.get? a=some _ from x)⟩
    |ext qd=>obtain⟨_,⟨_,e⟩,_⟩:=x;exact⟨_,e⟩
   obtain⟨u,e⟩:=k o (I.br a o q);rw[hx.new]at e;cases e
theorem Inv.R9{M:Model}{A:Around}{E:Value→Shared→Prop}{Q:Unit→Shared→Prop}(I:Inv X pins σ H s)(hst:X.stack=X.env::X.outer)(nE:X.env.frame=some X.env.locals)(hex:X.ex=[])(i_:A.frames=some X.stack)(f:la X.prog X.w X.stack H H' s a C eh B s')(gj:∀hO,la X.prog X.w X.outer X.oJ H' X.eX a C eh B hO→Q () hO):wpAny M A (leaving X.env (.ref a)) Q E s':=by
 have mz:∀b o,X.eX.heap.get? b=some o→b∉d5 X.outer→b∉d5 X.stack:=fun b o q n z=>by
  rw[hst]at z;rcases FC nE z with r|r
  ·subst r;exact absurd (Nat.lt_of_lt_of_le (Heap.lt_size q) I.ok.above) (Nat.lt_irrefl _)
  ·exact n r
 have Pk:∀b,b∈d5 X.outer→b∈d5 X.stack:=fun b z=>by rw[hst];unfold d5;rw[List.filterMap_cons,nE];exact List.mem_cons_of_mem _ z
 have gT:∀b,b∉X.ex:=fun b z=>by rw[hex]at z;cases z
 have no:∀b:Addr,b∉([]:List Addr):=fun b z=>by cases z
 obtain⟨os,bare,un,lB,old,tW,br,ha⟩:=f;rw[hst]at lB;refine PySem.wpAny_leaves_onW (by rw[i_,hst]) nE lB fun j3 fB f5=>?_;refine gj _ ⟨os.trans I.os,bare,⟨?_,?_,?_,?_,fun b xs q=>un.hj b xs (I.base.hj b xs q),fun b o u q=>un.gR b o u (I.base.gR b o u q),?_⟩,fB,?_,?_,br,ha⟩
 ·exact fun b o q n hb _=>fB.1 b o (old b o (I.base.keep b o q n hb (gT b)) (I.base.free b o q n (gT b)) (mz b o q hb))
 ·intro b o q n hb _;obtain⟨cw,aM⟩:=I.base.slot b o q n hb (gT b);obtain⟨_,bz,cV,gr⟩:=I.ok.iH.mem hb;rw[q]at cV;cases cV;obtain⟨aa3,a_⟩:=un.slot b _ aM (I.base.free b o q n (gT b)) (Pk b hb) (no b);obtain⟨tM,c_⟩:=f5 b _ a_ gr;exact⟨tM,c_⟩
 ·intro b o q n _;obtain⟨bz,cV⟩:=I.base.there b o q (gT b);exact un.free b bz cV (I.base.free b o q n (gT b)) (no b)
 ·intro b o q _;by_cases hb:b∈d5 X.outer
  ·obtain⟨_,bz,cV,_⟩:=fB.2.2.1.mem hb;exact⟨bz,cV⟩
  ·obtain⟨bz,cV⟩:=I.base.there b o q (gT b);obtain⟨b9,a_⟩:=tW b bz cV (mz b o q hb);exact⟨b9,fB.1 b b9 a_⟩
 ·intro b ps q;obtain⟨m1,ak⟩:=I.base.g_ b ps q;obtain⟨m2,ay⟩:=un.g_ b _ ak;exact⟨m1++m2,by rw[ay,Array.append_assoc]⟩
 ·exact fun b o q n hb=>old b o (I.base.keep b o q n hb (gT b)) (I.base.free b o q n (gT b)) (mz b o q hb)
 ·intro b o q hb;obtain⟨bz,cV⟩:=I.base.there b o q (gT b);exact tW b bz cV (mz b o q hb)
end
theorem NR{K:PySem.W.Frag}{h:Heap}{C:Addr}{sa:List Value}{newId:String}(X:K.In h)(q:PySem.W.excIn K C sa newId=true) :
  ∃bm N nm q bs hdct sn sub ab col dd k0 k1 k2 k3 k5 mN,h.get? C=some (excClassObj nm q C N bs bm hdct sn sub ab col dd k0 k1 k2 k3 k5 newId)∧h.Ns N mN∧mN "__init__"=none∧OwnTail h sa bm:=by
 unfold PySem.W.excIn at q
 split at q
 ·rename_i dd cd cw ho
  split at q
  ·rename_i iy bm k0 k1 k2 k3 n k5 hm hs;simp only[Bool.and_eq_true,beq_iff_eq,Bool.not_eq_true']at q;obtain⟨⟨⟨⟨⟨rfl,rfl⟩,FR⟩,ht⟩,br⟩,vJ⟩:=q;obtain⟨nm,bs,mro,ns,qn,hd,sn,sub,ab,col,del⟩:=cd;dsimp only at hm FR br vJ;subst hm FR;have Pr:cw= #[k0,k1,k2,k3,some (.builtin n),k5]:=by
    obtain⟨l⟩:=cw;simp only at hs;rw[hs]
   subst Pr;exact⟨bm,ns,nm,qn,bs,hd,sn,sub,ab,col,dd,k0,k1,k2,k3,k5,_,X _ _ ho,.of_isNs (PySem.W.isNs_of_in X br),PySem.W.nsMap_none_of_in X br vJ,PySem.W.tail_of_in X ht⟩
  ·cases q
 ·cases q
noncomputable def JG(X:aC)(C:Addr):eL:=fun _ σ H=>∀pins s h' a vs,Inv X pins σ H s→Heap.MadeExcOf s.heap h' a (.ref C) vs→X.xe (.ref a) { s with heap:=h' }
section
variable{X:aC}{x:Str}{np bG pos va:Pos}{C:Addr}{sa:List Value}{B newId QD:String}{m:Str}{j:Nat}
theorem UR(FB:ExcBaseFacts B newId QD sa)(q:PySem.W.excIn X.K C sa newId=true)(hm:X.mg x=some (.ref C))(hc:X.calm=true:=by rfl)(hg:cy X x:=by rfl)(hd:(x==("__debug__" :Str))=false:=by decide) :
  c7 X (.Raise (some (.Call (.Name x np) [.Constant (.str m) j va] [] bG)) none pos) (JG X C):=by
 intro pins s σ H D I h;obtain⟨bm,N,nm,qn,bs,hdct,sn,sub,ab,col,dd,k0,k1,k2,k3,k5,mN,fU,hN,vJ,C1⟩:=NR I.mod.lG q;refine wpAny_Raise_call_subT (mN:=mN) (C:=C) (nm:=nm) (q:=qn) (N:=N) (bs:=bs) (bm:=bm) (hdct:=hdct) (sn:=sn) (sub:=sub) (ab:=ab) (col:=col) (dd:=dd) (k0:=k0) (k1:=k1) (k2:=k2) (k3:=k3) (k5:=k5) FB (C1.hasType FB.hasBase) (I.ok.hd hc) rfl vJ (pA I hg hm ⟨rfl,?_⟩ hd);refine Calls.evalArgs_plain (Calls.spliced_cons (bF (Ay (X:=X) (x:=m) (j:=j) (pos:=va) pins s σ H (fun _ H1=>H1=H) I rfl) fun u s1⟨v,H1,aL,ar,ak⟩=>?_));subst ak;refine Calls.spliced_nil ⟨rfl,Nat.le_of_ble_eq_true rfl,aL.ez _ _ fU,hN.keeps aL.ez,C1.keeps aL.ez,fun h' a hx=>h pins s1 h' a _ aL hx⟩
theorem Y0{P:Program}{w:World}{K:PySem.W.Frag}{mg:Str→Option Value}{base:Heap}{N:List Str}{qual:Str}{scope:Scope}{f:Addr}{cd:Value}{A:Around}{outer:List Env}{s0:Shared}{bg:ag}{E:cO}{σ :St}{H:ag}{cu:Ends}(h:∀a,H a=none→E (.ref C) (some a) H):JG (eA (ft P w) P w K mg base N qual scope f cd A outer s0 bg E) C cu σ H:=fun pins s h' a vs I hx=>
 I.R8 (C:=.ref C) rfl rfl rfl I.ok.frames hx fun eh B hO fl=>⟨a,.ref C,eh,B,H,rfl,fl,h a fl.ha⟩
theorem T2{P:Program}{w:World}{K:PySem.W.Frag}{mg:Str→Option Value}{base:Heap}{N:List Str}{qual:Str}{scope:Scope}{f:Addr}{cd:Value}{A:Around}{outer:List Env}{s0:Shared}{bg:ag}{E:cO} :
  Passes (ft P w) (eA (ft P w) P w K mg base N qual scope f cd A outer s0 bg E) E:=fun pins σ H s e s' I hx=>by
 obtain⟨a,C,eh,B,H',rfl,fl,hE⟩:=hx;exact I.R9 (X:=eA (ft P w) P w K mg base N qual scope f cd A outer s0 bg E) rfl rfl rfl I.ok.frames fl fun hO N9=>⟨a,C,eh,B,H',rfl,N9,hE⟩
end
abbrev qI(a:Addr)(C:Value):du:=.ext fun h=>∃aV,h.get? a=some aV∧aV.cls=C
section
variable{X:aC}{pins:List (Addr×Obj)}{σ :St}{H H':ag}{s s':Shared}{a:Addr}{C eh:Value}{B:Heap}{j3:Heap}
theorem la.inv(f:la X.prog X.w X.stack H H' s a C eh B s')(I:Inv X pins σ H s)(st:B.StaysIn j3)(qK:j3.FunFrames B X.stack)(up:s'.heap.UpToSlots j3):Inv X pins σ H' { s' with heap:=j3 }:=by
 have no:∀b:Addr,b∉([]:List Addr):=fun b z=>by cases z
 refine I.DQ (s':={ s' with heap:=j3 }) (ch:=[]) f.os ⟨fun b o q n hb _=>st b o (f.old b o q n hb),fun b o q n hb _=>?_,f.un.free,fun b o q _=>?_,f.un.hj,f.un.gR,f.un.g_⟩ (f.br.kept fun b u q=>st b u q) f.bare (fun b hb=>nomatch hb)
 ·obtain⟨cw,aM⟩:=f.un.slot b o q n hb (no b);obtain⟨_,bz,cV,gr⟩:=I.stack.mem hb;rw[q]at cV;cases cV;obtain⟨tM,a_⟩:=up b _ aM gr;exact⟨tM,a_⟩
 ·by_cases hb:b∈d5 X.stack
  ·obtain⟨_,bz,cV,_⟩:=qK.mem hb;exact⟨bz,cV⟩
  ·obtain⟨bz,cV⟩:=f.tW b o q hb;exact⟨bz,st b bz cV⟩
theorem la.wz(f:la X.prog X.w X.stack H H' s a C eh B s'){b:Addr}{o:Obj}(q:s.heap.get? b=some o):b≠a:=by
 rintro rfl;by_cases hb:b∈d5 X.stack
 ·obtain⟨_,bz,cV,gr⟩:=f.lB.2.2.1.mem hb;obtain⟨wB,vs,T,aaK,bH,he,hc,hd,_⟩:=f.lB.2.2.2;rw[cV]at he;cases he;exact gr vs hd
 ·obtain⟨bz,cV⟩:=f.tW b o q hb;rw[f.lB.2.1]at cV;cases cV
theorem la.XU(f:la X.prog X.w X.stack H H' s a C eh B s')(I:Inv X pins σ H s)(hex:X.ex=[])(st:B.StaysIn j3)(qK:j3.FunFrames B X.stack)(up:s'.heap.UpToSlots j3)(aV:∃o,j3.get? a=some o∧o.cls=C) :
  Inv X pins σ (upd H' a (qI a C)) { s' with heap:=j3 }:=by
 have bx:=f.inv I st qK up;have gT:∀b,b∉X.ex:=fun b z=>by rw[hex]at z;cases z
 have na:∀{b:Addr}{u:du},H' b=some u→b≠a:=fun{b u} q=>iP q f.ha;have old:∀{b:Addr}{o:Obj},X.eX.heap.get? b=some o→b≠a:=fun{b o} q=>by obtain⟨bz,cV⟩:=I.base.there b o q (gT b);exact f.wz cV
 refine⟨bx.ok,bx.os,bx.bare,⟨bx.base.keep,bx.base.slot,fun b o q n hx=>?_,bx.base.there,fun b xs q=>?_,fun b o u q=>?_,fun b ps q=>?_⟩,bx.loc,bx.cell,?_,fun x c e=>?_,fun p hp=>?_,fun b o q=>?_,bx.len⟩
 ·rw[c2 (old q)];exact bx.base.free b o q n hx
 ·have:=bx.base.hj b xs q;rw[c2 (na this)];exact this
 ·have:=bx.base.gR b o u q;rw[c2 (na this)];exact this
 ·obtain⟨m,e⟩:=bx.base.g_ b ps q;exact⟨m,by rw[c2 (na e)];exact e⟩
 ·obtain⟨m,⟨o,_,_,ho,_⟩,_⟩:=I.loc;rw[c2 (f.wz ho)];exact bx.free
 ·obtain⟨v,o,ho,_⟩:=I.cell x c e;rw[c2 (f.wz ho)];exact bx.i9 x c e
 ·obtain⟨e,n,r⟩:=bx.pin p hp;obtain⟨cP,_⟩:=I.pin p hp;exact⟨e,by rw[c2 (f.wz cP)];exact n,r⟩
 ·by_cases hb:b=a
  ·subst hb;rw[d0]at q;cases q;obtain⟨o,e,c⟩:=aV;exact⟨⟨o,e,c⟩,⟨o,e⟩,fun h1 h2⟨cB,ak,bu⟩ k=>⟨cB,k cB ak,bu⟩⟩
  ·rw[c2 hb]at q;exact(bx.br b o q).kU (fun c v _ r=>r) (fun c r=>by rw[c2 (na r)];exact r) fun c xs r=>by rw[c2 (na r)];exact r
end
noncomputable def CT(X:aC)(e:Expr)(t:TE)(E:cO):Prop:=∀(pins:List (Addr×Obj))(s:Shared)(σ :St)(H:ag)(Q:cj),Inv X pins σ H s→t σ H Q→
 wpAny (model X.prog X.w) X.A (eval e X.env) (fu X pins σ Q) (fun x s'=>∃H1 s1,Inv X pins σ H1 s1∧ft X.prog X.w X.stack H1 s1 E x s') s
section
variable{X:aC}{k:Nat}{f C:Addr}{fd:FuncData}{ps:List Str}{sp:iE}{E:cO}{x:Str}{p pos:Pos}{e:Expr}{es:List Expr}{t:eK}
theorem Ur(F:f7 X.prog X.w X.K X.mg X.base (ft X.prog X.w) k f fd ps sp)(hr:c4 k X.A)(hg:cy X x)(hm:X.mg x=some (.ref f))(hk:PySem.W.keepIn X.K (.ref f)=true)(hb:Binds X.K fd ps [])(ha:eJ X.fo (e::es) t)(hdb:(x==("__debug__" :Str))=false:=by decide)(he:starEach (e::es) X.env=(false,eval e X.env)::starEach es X.env:=by rfl)(hpl:(backTo pos (starEach es X.env)).any (·.1)=false:=by rfl) :
  CT X (.Call (.Name x p) (e::es) [] pos) (tS sp [] E t) E:=by
 intro pins s σ H Q I h;refine wpAny_Call_Name_kw (pA I hg hm ?_ hdb);refine PySem.W.callWith_K (h₀:=X.base) I.ok.mod.lG hk (wpAny_mono (ha pos pins s σ H _ (I.hQ _) h) (fun us s1⟨vs,H1,aL,r,q⟩=>⟨aL.gI.eC,?_⟩) fun _ _ z=>z.elim) he hpl;have bx:=aL.gI;replace q:sp (vs++[]) H1 Q E:=q;rw[List.append_nil]at q;have hl:us.length=ps.length:=by rw[←r.length];exact F.len _ _ _ _ q
 refine wpAny_call (codeAny_mono (F.run X.A X.stack s1 H1 ⟨us,[]⟩ us vs Q E hr bx.vm (by have:=hb s1 us bx.eC (by rw[List.append_nil];exact hl);rw[List.append_nil]at this;exact this) r q) fun r s' aK=>?_);cases r with
 |error e=>exact⟨H1,s1,bx,aK⟩
 |ok fl=>
  cases fl with
  |ret u=>exact bx.after aK
  |next=>exact False.elim aK
  |brk=>exact False.elim aK
  |cont=>exact False.elim aK
theorem Us(M:qm X.K C f)(F:f7 X.prog X.w X.K X.mg X.base (ft X.prog X.w) k f fd ps sp)(hr:c4 (k+1) X.A)(hg:cy X x)(hm:X.mg x=some (.ref C))(hb:Binds X.K fd ps [])(ha:eJ X.fo (e::es) t)(hdb:(x==("__debug__" :Str))=false:=by decide)(he:starEach (e::es) X.env=(false,eval e X.env)::starEach es X.env:=by rfl)(hpl:(backTo pos (starEach es X.env)).any (·.1)=false:=by rfl) :
  CT X (.Call (.Name x p) (e::es) [] pos) (xf C sp [] E t) E:=by
 intro pins s σ H Q I h;refine wpAny_Call_Name_kw (pA I hg hm ?_ hdb);refine PySem.W.callWith_K (h₀:=X.base) I.ok.mod.lG M.aH (wpAny_mono (ha pos pins s σ H _ (I.hQ _) h) (fun us s1⟨vs,H1,aL,r,q⟩=>⟨aL.gI.eC,?_⟩) fun _ _ z=>z.elim) he hpl;have bx:=aL.gI;have aK:=q (s1.heap.objs.size+1) s1.heap.objs.size (bx.br.fresh (Nat.le_succ _)) (bx.br.fresh (Nat.le_refl _)) (Nat.ne_of_lt (Nat.lt_succ_self _));rw[List.append_nil]at aK;have bT:=Inv.made (C:=C) bx;have a5:Vals (V.ref (s1.heap.objs.size+1)::vs) (Value.ref (s1.heap.objs.size+1)::us):=.cons rfl r;have hl:(Value.ref (s1.heap.objs.size+1)::us).length=ps.length:=by rw[←a5.length];exact F.len _ _ _ _ aK
 have ja:=hb _ (Value.ref (s1.heap.objs.size+1)::us) bT.eC (by rw[List.append_nil];exact hl);rw[List.append_nil]at ja
 refine wpAny_call (Hh (f:=f) bx.eC M.makes M.init (beq_iff_eq.mp M.fn) (codeAny_mono (F.run _ X.stack _ _ ⟨Value.ref (s1.heap.objs.size+1)::us,[]⟩ (Value.ref (s1.heap.objs.size+1)::us) _ _ E (hr.make C us [])
  (bT.vm.make C us []) ja a5 aK) fun r s' jc=>?_))
 cases r with
 |error e=>exact⟨_,_,bT,jc⟩
 |ok fl=>
  cases fl with
  |ret u=>obtain⟨v,H',dC,bV,ev,c_⟩:=bT.after jc;subst ev;exact⟨bV,⟨V.ref (s1.heap.objs.size+1),H',dC,rfl,c_⟩⟩
  |next=>exact False.elim jc
  |brk=>exact False.elim jc
  |cont=>exact False.elim jc
end
abbrev aC.marked(X:aC)(a:Addr):aC:={ X with A:=X.A.mark (some (.ref a)),calm:=false,xe:=fun _ _=>False }
section
variable{X:aC}{pins:List (Addr×Obj)}{σ :St}{H H':ag}{s s':Shared}{a:Addr}
theorem aC.Ok.marked(ok:X.Ok)(a:Addr):(X.marked a).Ok:=
 ⟨ok.mod,ok.kind,ok.glob,ok.blt,ok.above,ok.inj,ok.has,ok.qD,(fun z=>Bool.noConfusion z),ok.frames,ok.tO,ok.zf,ok.bs,ok.mn,ok.n9,ok.sl,ok.iH,ok.nB⟩
theorem Inv.marked(I:Inv X pins σ H s)(a:Addr):Inv (X.marked a) pins σ H s:=⟨I.ok.marked a,I.os,I.bare,I.base,I.loc,I.cell,I.free,I.i9,I.pin,I.br,I.len⟩
theorem Inv.unmarked(ok:X.Ok)(I:Inv (X.marked a) pins σ H s):Inv X pins σ H s:=⟨ok,I.os,I.bare,I.base,I.loc,I.cell,I.free,I.i9,I.pin,I.br,I.len⟩
theorem Inv.unset{i:Nat}{n:Str}{m:Str→Option Value}{v:Option Value}{h':Heap}{cM:Nat}(I:Inv X pins σ H s)(hN:X.N.Nodup)(hi:X.N[i]?=some n)(hl:∀(i:Nat)(x:Str)(v:V),X.N[i]?=some x→ σ[i]?=some (some v)→gd X.env.scope x→∃u,RelV v u∧Look X.env s.heap m x u)(aE:s.heap.Ns X.env.locals m)(sN:h'.Ns X.env.locals (fun y=>if y=n then v else m y))(hs:Heap.SameBut X.env.locals s.heap h'):Inv X pins (σ.set i none) H { s with heap:=h',toks:=cM }:=by
 have ne:∀{b:Addr}{o:Obj},X.eX.heap.get? b=some o→b≠X.env.locals:=fun{b o} e=>Nat.ne_of_lt (Nat.lt_of_lt_of_le (Heap.lt_size e) I.ok.above);have cell:∀x c v,X.env.cells.lookup x=some c→s.heap.IsCell c v→h'.IsCell c v:=fun x c v e⟨o,ho,hd⟩=>⟨o,(hs.2 c (I.nv x c e)).trans ho,hd⟩;refine⟨I.ok,I.os,I.bare,⟨fun b o e n hb hx=>(hs.2 b (ne e)).trans (I.base.keep b o e n hb hx),fun b o e n hb hx=>?_,I.base.free,fun b o e hx=>?_,I.base.hj,I.base.gR,I.base.g_⟩,⟨_,sN,fun j y lY ak ay b4=>?_⟩,fun y c e=>?_,I.free,I.i9,fun p hp=>?_,fun b aV e=>?_,by simpa using I.len⟩
 ·obtain⟨cw,ak⟩:=I.base.slot b o e n hb hx;exact⟨cw,(hs.2 b (ne e)).trans ak⟩
 ·obtain⟨bz,ak⟩:=I.base.there b o e hx;exact⟨bz,(hs.2 b (ne e)).trans ak⟩
 ·have cv:j≠i:=by
    rintro rfl;rw[List.getElem?_set]at ay
    split at ay
    ·split at ay<;>cases ay
    ·exact absurd rfl ‹_›
  rw[List.getElem?_set_ne (Ne.symm cv)]at ay;obtain⟨u,r,l⟩:=hl j y lY ak ay b4;refine⟨u,r,?_⟩;rcases l with⟨k,q⟩|⟨k,c,q,z⟩
  ·refine .inl ⟨k,?_⟩;show(if y=n then v else m y)=some u;rw[if_neg (fun z:y=n=>cv (An hN ak (by rw[z];exact hi)))];exact q
  ·exact .inr ⟨k,c,q,cell _ _ _ q z⟩
 ·obtain⟨v,z⟩:=I.cell y c e;exact⟨v,cell y c v e z⟩
 ·obtain⟨e,n,ne',gr,d⟩:=I.pin p hp;exact⟨(hs.2 _ ne').trans e,n,ne',gr,d⟩
 ·have fj:H X.env.locals=none:=I.free;refine(I.br b aV e).kU (fun c eY hc q=>(hs.2 c ?_).trans q) (fun _ q=>q) fun _ _ q=>q;rintro rfl;rcases hc with rfl|hc
  ·rw[fj]at e;cases e
  ·rw[fj]at hc;cases hc
theorem xq{M:Model}{A:Around}{E:Value→Shared→Prop}{i:Nat}{n:Str}{pos:Pos}{Q:Unit→Shared→Prop}(I:Inv X pins σ H s)(hN:X.N.Nodup)(hi:X.N[i]?=some n)(hl:X.env.scope.names.lookup n=some .local)(h:∀s',Inv X pins (σ.set i none) H s'→Q () s'):wpAny M A (do bindName X.env n .none;unbindBehindTheSuite X.env n pos) Q E s:=by obtain⟨m,aE,vH⟩:=id I.loc;exact wpAny_nameGoes_keeps hl aE (by rw[I.ok.kind];rfl) fun h' v sN hs=>h _ (I.unset hN hi vH aE sN hs)
end
section
variable{X:aC}{i:Nat}{x n:Str}{W:Addr}{e:Expr}{dw:TE}{E:cO}{u6:Stmt}{w9:List Stmt}{bH:eL}{mQ np hp pos:Pos}
end
noncomputable def gD(env:Env):List (Str×NameKind)→List (Str×Addr)→List (Str×Addr)
 |[],cs=>cs
 |(x,k)::r,cs=>gD env r (if k==.free then(x,(env.cells.lookup x).getD 0)::cs else cs)
theorem DW{env:Env}:∀(names:List (Str×NameKind))(cs:List (Str×Addr)),(∀p∈names,p.2=.free→∃c,env.cells.lookup p.1=some c)→
 (forIn (m:=Sem) names cs fun(x:Str×NameKind) cs=>if(x.2==NameKind.free)=true then do
   let a ←cellOf env x.1
   pure (ForInStep.yield ((x.1,a)::cs))else pure (ForInStep.yield cs))=pure (gD env names cs)
 |[],cs,_=>rfl
 |(x,k)::r,cs,h=>by
  rw[List.forIn_cons];have bW:=DW (env:=env) r;by_cases hk:k=.free
  ·subst hk;obtain⟨c,hc⟩:=h (x,.free) List.mem_cons_self rfl;have ak:cellOf env x=pure c:=by unfold cellOf;rw[hc]
   simp only[beq_self_eq_true,if_true,gD,ak,hc,Option.getD_some,pure_bind];exact bW _ fun p hp=>h p (List.mem_cons_of_mem _ hp)
  ·have hb:(k==NameKind.free)=false:=by simpa using hk
   simp only[hb,Bool.false_eq_true,if_false,gD,pure_bind];exact bW _ fun p hp=>h p (List.mem_cons_of_mem _ hp)
theorem DV{env:Env}{scope:Scope}(h:∀p∈scope.names,p.2=.free→∃c,env.cells.lookup p.1=some c):closureFor scope env=pure (gD env scope.names []):=by
 have e:=DW (env:=env) scope.names [] h;unfold closureFor
 refine Eq.trans (b:=(forIn (m:=Sem) scope.names [] fun(x:Str×NameKind) cs=>if(x.2==NameKind.free)=true then do
   let a ←cellOf env x.1
   pure (ForInStep.yield ((x.1,a)::cs))else pure (ForInStep.yield cs))>>=pure) rfl ?_
 rw[e];rfl
theorem DU{env:Env}{x:Str}:∀(names:List (Str×NameKind))(cs:List (Str×Addr)),(∀p∈names,p.2=.free→∃c,env.cells.lookup p.1=some c)→
  (gD env names cs).lookup x=if(x,NameKind.free)∈names then env.cells.lookup x else cs.lookup x
 |[],cs,_=>by simp[gD]
 |(y,k)::r,cs,h=>by
  rw[gD,DU r _ fun p hp=>h p (List.mem_cons_of_mem _ hp)];by_cases hm:(x,NameKind.free)∈r
  ·rw[if_pos hm,if_pos (List.mem_cons_of_mem _ hm)]
  ·rw[if_neg hm];by_cases hk:k=.free
   ·subst hk;obtain⟨c,hc⟩:=h (y,.free) List.mem_cons_self rfl;by_cases hx:x=y
    ·subst hx;rw[if_pos List.mem_cons_self];simp[List.lookup_cons,hc]
    ·have nm:¬(x,NameKind.free)∈(y,NameKind.free)::r:=fun z=>by
       rcases List.mem_cons.mp z with e|e
       ·exact hx (by injection e)
       ·exact hm e
     rw[if_neg nm];have hb:(x==y)=false:=by simpa using hx
     simp[List.lookup_cons,hb]
   ·have hb:(k==NameKind.free)=false:=by simpa using hk
    have nm:¬(x,NameKind.free)∈(y,k)::r:=fun z=>by
     rcases List.mem_cons.mp z with e|e
     ·exact hk (by injection e with _ ay;exact ay.symm)
     ·exact hm e
    rw[if_neg nm];simp[hb]
theorem Md {prog:Program} {w:World} {A:Around} {R:Result→Shared→Prop} {s:Shared} {elt target iter:Expr} {ifs:List Expr} {scope:Scope} {pos:Pos} {it acc:Value} {env:Env} (I:Nat→Shared→Prop)(turn:∀n s,I n s→wpAny (model prog w) A (pyNext it) (fun r cX=>match r with
    |none=>R (.ok .next) cX
    |some v=>wpAny (model prog w) A (letOwnedTupleGo target it v) (fun _ Jr=>wpAny (model prog w) A (assign target env v) (fun _ kW=>
       wpAny (model prog w) A (forIn ifs true fun c r=>if r=true then do let ok ←isTrue c env (eval c env);pure (ForInStep.yield ok)else pure (ForInStep.yield r)) (fun ok tQ=>
        if ok=true then wpAny (model prog w) A (eval elt env) (fun x xa=>
         wpAny (model prog w) A (call (.builtin "list.append") [acc,x]) (fun _ Js=>∃m,m<n∧I m Js) (notedBy (model prog w) A env fun e s'=>R (.error e) s') xa) (notedBy (model prog w) A env fun e s'=>R (.error e) s') tQ
        else ∃m,m<n∧I m tQ) (notedBy (model prog w) A env fun e s'=>R (.error e) s') kW) (notedBy (model prog w) A env fun e s'=>R (.error e) s') Jr) (notedBy (model prog w) A env fun e s'=>R (.error e) s') cX) (notedBy (model prog w) A env fun e s'=>R (.error e) s') s)
  (n:Nat) (h:I n s):codeAny (model prog w) A (.compLoop (.ListComp elt [⟨target,iter,ifs,0⟩] scope pos) 0 it acc env) R s:=by
 refine codeAny_loop rfl I (fun n s iI=>?_) n h;show wpAny _ A ((compTurn (.ListComp elt [⟨target,iter,ifs,0⟩] scope pos) 0 it acc env).onRaise (fun x=>do noteFrame x env;theTreesLotGoes x)) _ _ s;refine wpAny_noted ?_;rw[compTurn_list];refine wpAny_bind (wpAny_standAt (wpAny_bind (wpAny_mono (turn n s iI) (fun r cX kJ=>?_) fun _ _ h'=>h')));cases r with
 |none=>exact wpAny_pure kJ
 |some v=>
  refine wpAny_bind (wpAny_mono kJ (fun _ Jr PE=>?_) fun _ _ h'=>h');refine wpAny_bind (wpAny_mono PE (fun _ kW pw=>wpAny_bind (wpAny_mono pw (fun ok tQ nK=>?_) fun _ _ h'=>h')) fun _ _ h'=>h');cases ok with
  |false=>exact wpAny_pure ⟨rfl,nK⟩
  |true=>exact wpAny_bind (wpAny_bind (wpAny_mono nK (fun x xa qU=>wpAny_bind (wpAny_mono qU (fun _ Js fV=>wpAny_pure (wpAny_pure ⟨rfl,fV⟩)) fun _ _ h'=>h')) fun _ _ h'=>h'))
abbrev e4(X:aC)(scope:Scope)(N:List Str)(cl:List (Str×Addr))(C:Addr)(s:Shared)(H:ag)(aY:List Addr):aC where
 prog:=X.prog
 w:=X.w
 K:=X.K
 mg:=X.mg
 base:=X.base
 A:=X.A
 N:=N
 eX:=s
 oJ:=H
 env:=compEnvC scope cl C X.env
 outer:=X.stack
 stack:=X.stack
 ex:=aY
 calm:=X.calm
 fn:=fun x=>scope.names.lookup x==some .cell
 n_:=[]
 xe:=fun _ _=>False
def lr(nl:Nat)(caps:List Nat)(σ :St):St:=List.replicate nl none++caps.map fun j=> σ.getD j none
def vS:Option NameKind→Bool
 |some .cell=>true
 |some .free=>true
 |_=>false
structure ku(sc:Scope)(nh:List Str)(scope:Scope)(N:List Str)(nl:Nat)(caps:List Nat):Prop where
 kind:scope.kind=.function
 uniq:∀x∈scope.names,scope.names.lookup x.1=some x.2
 free:∀x∈scope.names,x.2=.free→vS (sc.names.lookup x.1)=true
 len:N.length=nl+caps.length
 L_:∀k j,caps[k]?=some j→∃x,nh[j]?=some x∧N[nl+k]?=some x∧scope.names.lookup x=some .free∧vS (sc.names.lookup x)=true
noncomputable def qE(sc:Scope)(nh:List Str)(scope:Scope)(N:List Str)(nl:Nat)(caps:List Nat):Bool:=
 (scope.kind==.function)&&scope.names.all (fun x=>scope.names.lookup x.1==some x.2&&(x.2 !=.free||vS (sc.names.lookup x.1)))&&
 (N.length==nl+caps.length)&&(caps.zipIdx.all fun z0=>match nh[z0.1]? with
   |none=>false
   |some x=>N[nl+z0.2]?==some x&&scope.names.lookup x==some .free&&vS (sc.names.lookup x))
theorem ku.of{sc:Scope}{nh:List Str}{scope:Scope}{N:List Str}{nl:Nat}{caps:List Nat}(h:qE sc nh scope N nl caps=true):ku sc nh scope N nl caps:=by
 unfold qE at h;rw[Bool.and_eq_true,Bool.and_eq_true,Bool.and_eq_true]at h;obtain⟨⟨⟨h1,h2⟩,h3⟩,h4⟩:=h;rw[List.all_eq_true]at h2 h4;refine⟨eq_of_beq h1,fun x hx=>?_,fun x hx e=>?_,eq_of_beq h3,fun k j e=>?_⟩
 ·have:=h2 x hx;rw[Bool.and_eq_true]at this;exact eq_of_beq this.1
 ·have:=h2 x hx;rw[Bool.and_eq_true]at this;have q:=this.2;rw[e]at q;simpa using q
 ·have m:(j,k)∈caps.zipIdx:=by
    rw[List.mem_zipIdx_iff_getElem?];exact e
  have q:=h4 _ m;dsimp only at q
  split at q
  ·cases q
  ·rename_i x ex;rw[Bool.and_eq_true,Bool.and_eq_true]at q;exact⟨x,ex,eq_of_beq q.1.1,eq_of_beq q.1.2,q.2⟩
theorem ku.locs{sc:Scope}{nh:List Str}{scope:Scope}{N:List Str}{nl:Nat}{caps:List Nat}(S:ku sc nh scope N nl caps):∀x∈scope.names,x.2=.local→scope.names.lookup x.1=some .local:=fun x hx e=>e▸S.uniq x hx
theorem yT:∀(ns:List (Str×NameKind))(n:Nat)(a b:List (Str×Addr)),cellsFrom n ns (a++b)=cellsFrom n ns a++b
 |[],_,_,_=>rfl
 |(x,k)::r,n,a,b=>by
  unfold cellsFrom
  split
  ·exact yT r (n+1) ((x,n)::a) b
  ·exact yT r n a b
theorem u9{x:Str}{c:Addr}:∀(ns:List (Str×NameKind))(n:Nat)(a:List (Str×Addr)),(x,c)∈cellsFrom n ns a→(x,NameKind.cell)∈ns∨(x,c)∈a
 |[],_,_,h=>.inr h
 |(y,k)::r,n,a,h=>by
  unfold cellsFrom at h
  split at h
  ·rename_i hk;rcases u9 r _ _ h with z|z
   ·exact .inl (List.mem_cons_of_mem _ z)
   ·rcases List.mem_cons.mp z with e|z
    ·injection e with ak ay;subst ak;rw[eq_of_beq hk];exact .inl List.mem_cons_self
    ·exact .inr z
  ·rcases u9 r _ _ h with z|z
   ·exact .inl (List.mem_cons_of_mem _ z)
   ·exact .inr z
theorem SW{M:Model}{A:Around}{E:Value→Shared→Prop}{s:Shared}{scope:Scope}{globals:Addr}{cl:List (Str×Addr)}{qual:Str}{env:Env}{Q:Env→Shared→Prop}(gj:Q { scope:=scope,locals:=s.heap.objs.size,globals:=globals,cells:=cellsFrom (s.heap.objs.size+1) scope.names cl,qual:=qual,func:=none,code:=env.code,frame:=env.frame,builtins:=env.builtins } { s with heap:=pushCells (s.heap.push { cls:=.type "dict",data:=.dict #[] }) scope.names }) :
  wpAny M A (newFunctionEnv scope globals cl [] qual none .none (some env)) Q E s:=by
 simp only[newFunctionEnv,Option.isSome_some,if_true];refine wpAny_bind (wpAny_alloc ?_);refine wpAny_bind (wpAny_layCells _ (fun name kind cells=>by cases O0:kind==NameKind.cell<;>simp[O0]) _ _ _ _ ?_);rw[show({ s with heap:=s.heap.push { cls:=.type "dict",data:=.dict #[] } }:Shared).heap.objs.size=s.heap.objs.size+1 from Heap.size_push ..];exact wpAny_bind (wpAny_pure (wpAny_pure gj))
theorem AI{scope:Scope}{env:Env}{x:Str}{k:NameKind}(h:(relabel scope env).names.lookup x=some k):(x,k)∈scope.names∨(k=.cell∧(x,NameKind.free)∈scope.names):=by
 have m:=PySem.mem_of_lookup h;obtain⟨⟨y,q⟩,bJ,e⟩:=List.mem_map.mp m;dsimp only at e
 split at e
 ·rename_i hc;injection e with ak ay;subst ak;have hf:q=.free:=by
   rw[Bool.and_eq_true,Bool.and_eq_true]at hc;exact eq_of_beq hc.1.1
  subst hf;exact .inr ⟨ay.symm,bJ⟩
 ·injection e with ak ay;subst ak;subst ay;exact .inl bJ
noncomputable def xd(iv:TI)(g:hq)(fP:TT)(dw:TE)(nl:Nat)(caps:List Nat):TE:=fun σ H Q=>
 iv σ H fun bx H1=>∀acc,H1 acc=none→∃W:Nat→Nat→St→ag→Prop,(∃m,W 0 m (lr nl caps σ) (upd H1 acc (.lst [])))∧
  ∀i m σ' H',W i m σ' H'→(bx.stop i H'∧Q (.ref acc) H')∨
   (bx.go i H'∧∀x aS,bx.jk i H' x aS→g x σ' aS fun σ2 cQ=>fP σ2 cQ fun b gA=>
      if b=true then dw σ2 gA fun y iz=>∃ys,iz acc=some (.lst ys)∧ys.length<sizeLine∧∃cR,cR<m∧W (i+1) cR σ2 (upd iz acc (.lst (ys++[y])))
      else ∃cR,cR<m∧W (i+1) cR σ2 gA)
section
variable{X:aC}{elt target iter:Expr}{ifs:List Expr}{scope:Scope}{pos:Pos}{N:List Str}{nl:Nat}{caps:List Nat}{iv:TI}{g:hq}{fP:TT}{dw:TE}
noncomputable def nd(X:aC)(ifs:List Expr)(t:TT):Prop:=
 ∀(pins:List (Addr×Obj))(s:Shared)(σ :St)(H:ag)(Q:Bool→ag→Prop),Inv X pins σ H s→t σ H Q→
  wpAny (model X.prog X.w) X.A (forIn ifs true fun c r=>if r=true then do let ok ←isTrue c X.env (eval c X.env);pure (ForInStep.yield ok)else pure (ForInStep.yield r)) (uF X pins σ Q) X.xe s
def Xk:TT:=fun _ H Q=>Q true H
theorem UY:nd X [] Xk:=fun _ _ _ H _ I h=>wpAny_tests_nil ⟨H,I,h⟩
theorem UZ{c:Expr}{t:TT}(h:eR X c t):nd X [c] t:=fun pins s σ H Q I hw=>wpAny_tests_one (h pins s σ H Q I hw)
theorem QH{pins:List (Addr×Obj)}{σ :St}{H:ag}{s s4:Shared}{cl:List (Str×Addr)}{aY:List Addr}(S:ku X.env.scope X.N scope N nl caps)(I:Inv X pins σ H s)(k1:∀x c,cl.lookup x=some c→X.env.cells.lookup x=some c∨(scope.names.lookup x=some .cell∧s.heap.objs.size<c∧s4.heap.IsCell c none))(k2:∀x,(x,NameKind.free)∈scope.names→cl.lookup x=X.env.cells.lookup x)(k3:∀x,scope.names.lookup x=some .cell→∃c,cl.lookup x=some c∧s.heap.objs.size<c)(vX:∀x y c,cl.lookup x=some c→cl.lookup y=some c→x=y)(hf:∀b∈aY,iU X pins H b)(gF:∀b∈aY,b<s.heap.objs.size)(Pj:s4.os=s.os)(hg:s4.gens=s.gens)(aE:∃m,s4.heap.Ns s.heap.objs.size m)(hk:∀b o,s.heap.get? b=some o→s4.heap.get? b=some o) :
  Inv (e4 X scope N cl s.heap.objs.size s H aY) [] (lr nl caps σ) H s4:=by
 refine⟨⟨I.ok.mod,?_,I.ok.glob,I.ok.blt,Nat.le_refl _,vX,fun x hx=>?_,fun x c z e=>?_,I.ok.hd,I.ok.frames,.inl rfl,fun b hb=>⟨Nat.ne_of_lt (gF b hb),fun x c e=>(k1 x c e).elim (fun e=>(hf b hb).2.2.2.2.1 x c e) fun e=>Nat.ne_of_gt (Nat.lt_trans (gF b hb) e.2.1)⟩,I.bs,Nat.le_trans I.ok.mn I.pZ,fun b o e hb=>?_,fun b hb hs=>?_,I.stack,I.BP⟩,
  Pj,?_,eZ.kept hk,?_,fun x c e=>?_,I.br.fresh (Nat.le_refl _),fun x c e=>(k1 x c e).elim (I.i9 x c) fun e=>I.br.fresh (Nat.le_of_lt e.2.1),fun p hp=>absurd (show p∈([]:List (Addr×Obj))from hp) (by simp),I.br.kept hk,?_⟩
 ·show(relabel scope X.env).kind=.function;exact S.kind
 ·have hx:(relabel scope X.env).names.lookup x=some .cell∨(relabel scope X.env).names.lookup x=some .free:=hx;have hm:(x,NameKind.free)∈scope.names∨scope.names.lookup x=some .cell:=by
   rcases hx with h|h
   ·rcases AI h with m|⟨_,m⟩
    ·exact .inr (S.uniq _ m)
    ·exact .inl m
   ·rcases AI h with m|⟨e,_⟩
    ·exact .inl m
    ·cases e
  rcases hm with hm|hm
  rotate_left
  ·obtain⟨c,e,_⟩:=k3 x hm;exact⟨c,e⟩
  have aK:=S.free _ hm rfl;have hc:∃c,X.env.cells.lookup x=some c:=by
   apply I.ok.has x;show X.env.scope.names.lookup x=some .cell∨X.env.scope.names.lookup x=some .free;cases e:X.env.scope.names.lookup x with
   |none=>rw[e]at aK;cases aK
   |some k=>
    rw[e]at aK
    cases k<;>first
     |exact .inl rfl
     |exact .inr rfl
     |cases aK
  obtain⟨c,e⟩:=hc;exact⟨c,by show cl.lookup x=some c;rw[k2 x hm];exact e⟩
 ·obtain⟨d8,b3,q⟩:=k3 x (eq_of_beq z);rw[show cl.lookup x=some c from e]at b3;cases b3;exact Nat.le_of_lt q
 ·rcases(hf b hb).2.2.2.1 with z|z
  ·exact I.ok.n9 b o e z
  ·exact absurd (Nat.lt_of_lt_of_le (Heap.lt_size (I.ok.bs b o e).1) z) (Nat.lt_irrefl _)
 ·rcases List.mem_cons.mp (I.w8 b hs)with z|z
  ·exact(hf b hb).2.1 z
  ·exact(hf b hb).2.2.1 z
 ·rw[hg];exact I.bare
 ·obtain⟨m,aE⟩:=aE;refine⟨m,aE,fun i x v h1 h2 h3=>?_⟩;have hN:N[i]?=some x:=h1;unfold lr at h2;by_cases hi:i<nl
  ·rw[List.getElem?_append_left (by simpa using hi),List.getElem?_replicate,if_pos hi]at h2;cases h2
  ·rw[List.getElem?_append_right (by simpa using hi),List.length_replicate,List.getElem?_map]at h2;cases e:caps[i-nl]? with
   |none=>rw[e]at h2;cases h2
   |some j=>
    rw[e]at h2;have h2: σ.getD j none=some v:=Option.some.inj h2;obtain⟨y,ak,ay,y1,gh⟩:=S.L_ _ _ e;have b4:(y,NameKind.free)∈scope.names:=PySem.mem_of_lookup y1;have ep:gd X.env.scope y:=by
     cases q:X.env.scope.names.lookup y with
     |none=>rw[q]at gh;cases gh
     |some k=>
      rw[q]at gh
      cases k<;>first
       |exact .inr (.inl q)
       |exact .inr (.inr q)
       |cases gh
    have jt:nl+(i-nl)=i:=by omega
    rw[jt,hN]at ay;cases ay;have hs: σ[j]?=some (some v):=by
     rw[List.getD_eq_getElem?_getD]at h2;cases q: σ[j]? with
     |none=>rw[q]at h2;cases h2
     |some o=>rw[q]at h2;exact congrArg some h2
    obtain⟨m0,_,hl⟩:=I.loc;obtain⟨u,r,l⟩:=hl j x v ak hs ep;refine⟨u,r,.inr ⟨?_,?_⟩⟩
    ·show(relabel scope X.env).names.lookup x=some .cell∨(relabel scope X.env).names.lookup x=some .free;rcases h3 with h3|h3|h3
     ·have h3:(relabel scope X.env).names.lookup x=some .local:=h3;rcases AI h3 with z|⟨z,_⟩
      ·have aZ:scope.names.lookup x=some .local:=S.locs _ z rfl;rw[aZ]at y1;cases y1
      ·cases z
     ·exact .inl h3
     ·exact .inr h3
    ·have aK:X.env.scope.names.lookup x≠some .local:=fun z=>by rw[z]at gh;cases gh
     rcases l with⟨z,_⟩|⟨_,c,a9,aZ⟩
     ·exact absurd z aK
     ·refine⟨c,?_,aZ.keeps hk⟩;show cl.lookup x=some c;rw[k2 x b4];exact a9
 ·rcases k1 x c e with e|e
  ·obtain⟨v,z⟩:=I.cell x c e;exact⟨v,z.keeps hk⟩
  ·exact⟨_,e.2.2⟩
 ·show(lr nl caps σ).length=N.length;unfold lr;rw[List.length_append,List.length_replicate,List.length_map,S.len]
theorem QJ{pins:List (Addr×Obj)}{σ σ' :St}{H H':ag}{s s':Shared}{cl:List (Str×Addr)}{aY:List Addr}{h':Heap}(I:Inv X pins σ H s)(hf:∀b∈aY,iU X pins H b)(bx:Inv (e4 X scope N cl s.heap.objs.size s H aY) [] σ' H' s')(hs:Heap.SameBut s.heap.objs.size s'.heap h'):Inv X pins σ H' { s' with heap:=h' }:=by
 have ne:∀b o,s.heap.get? b=some o→b≠s.heap.objs.size:=fun b o e=>Nat.ne_of_lt (Heap.lt_size e);have u:eZ (d5 X.stack) aY H H' s.heap s'.heap:=bx.base;have fr:H' s.heap.objs.size=none:=bx.free;refine I.DQ (ch:=aY) (s':={ s' with heap:=h' }) bx.os ⟨fun b o e n hb hx=>(hs.2 b (ne b o e)).trans (u.keep b o e n hb hx),fun b o e n hb hx=>?_,u.free,fun b o e hx=>?_,u.hj,u.gR,u.g_⟩ (fun b o e=>?_) bx.bare fun b hb=>?_
 ·obtain⟨cw,q⟩:=u.slot b o e n hb hx;exact⟨cw,(hs.2 b (ne b o e)).trans q⟩
 ·obtain⟨bz,q⟩:=u.there b o e hx;exact⟨bz,(hs.2 b (ne b o e)).trans q⟩
 ·refine(bx.br b o e).kU (fun c v hc q=>(hs.2 c ?_).trans q) (fun _ q=>q) fun _ _ q=>q;rintro rfl;rcases hc with z|z
  ·rw[←z,fr]at e;cases e
  ·rw[fr]at z;cases z
 ·obtain⟨_,f1,_,e_,f4,hz⟩:=hf b hb;exact⟨e_,f1,f4,hz⟩
theorem DY {pins:List (Addr×Obj)} {σ :St} {s2:Shared} {aS:ag} {it:Addr} {aY:List Addr} {gv:Nat→Heap→Prop} {bx:It} {E:Value→Shared→Prop} {Q:ag→Prop} {W:Nat→Nat→St→ag→Prop} {m0:Nat}(S:ku X.env.scope X.N scope N nl caps) (hc:X.calm=true) (bT:Inv X pins σ aS s2) (T:Turn X.prog X.w X.K target bx aY it gv) (kj:gv 0 s2.heap) (f2:∀b∈aY,iU X pins aS b)(hg:∀cl C s H aY,iX (e4 X scope N cl C s H aY) target g) (ht:∀cl C s H aY,nd (e4 X scope N cl C s H aY) ifs fP) (he:∀cl C s H aY,aT (e4 X scope N cl C s H aY) elt dw)(mY:W 0 m0 (lr nl caps σ) (upd aS s2.heap.objs.size (.lst [])))(turn:∀i m σ' H',W i m σ' H'→(bx.stop i H'∧Q H')∨
    (bx.go i H'∧∀x cQ,bx.jk i H' x cQ→g x σ' cQ fun σ2 gA=>fP σ2 gA fun b iz=>
       if b=true then dw σ2 iz fun y qi=>∃ys,qi s2.heap.objs.size=some (.lst ys)∧ys.length<sizeLine∧∃cR,cR<m∧W (i+1) cR σ2 (upd qi s2.heap.objs.size (.lst (ys++[y])))
       else ∃cR,cR<m∧W (i+1) cR σ2 iz))
  (r1:Value→Addr→Result→Shared→Prop)
  (Ov:∀(C:Addr) s' H',(∃m,s'.heap.Ns C m)→iU X pins H' C→(∀h',Heap.SameBut C s'.heap h'→Inv X pins σ H' { s' with heap:=h' })→Q H'→r1 (.ref s2.heap.objs.size) C (.ok .next) s') :
  wpAny (model X.prog X.w) X.A (newList []) (fun acc tQ=>wpAny (model X.prog X.w) X.A (newFunctionEnv scope X.env.globals (gD X.env scope.names []) [] X.env.qual none .none (some X.env)) (fun DT xa=>
   codeAny (model X.prog X.w) X.A (.compStart (.ListComp elt [⟨target,iter,ifs,0⟩] scope pos) 0 (.ref it) acc { DT with scope:=relabel scope X.env }) (r1 acc DT.locals) xa) E tQ) E s2:=by
 have vG:∀p∈scope.names,p.2=.free→∃c,X.env.cells.lookup p.1=some c:=fun p hp e=>by
  have q:=S.free p hp e;apply bT.ok.has p.1;show X.env.scope.names.lookup p.1=some .cell∨X.env.scope.names.lookup p.1=some .free;cases ay:X.env.scope.names.lookup p.1 with
  |none=>rw[ay]at q;cases q
  |some k=>
   rw[ay]at q
   cases k<;>first
    |exact .inl rfl
    |exact .inr rfl
    |cases q
 have pn:∀x,(gD X.env scope.names []).lookup x=if(x,NameKind.free)∈scope.names then X.env.cells.lookup x else none:=fun x=>DU scope.names [] vG
 have Z6:aS s2.heap.objs.size=none:=bT.br.fresh (Nat.le_refl _);refine wpAny_newObj_type (SW ?_);dsimp only;have dC:Inv X pins σ (upd aS s2.heap.objs.size (.lst [])) { s2 with heap:=s2.heap.push { cls:=.type "list",dict:=none,data:=.seq ([]:List Value).toArray } }:=bT.Aa (its:=[]) (ys:=[]) (t':=s2.toks) .nil (Nat.zero_le _);generalize zN:({ s2 with heap:=s2.heap.push { cls:=.type "list",dict:=none,data:=.seq ([]:List Value).toArray } }:Shared)=s3 at dC;have zG:s2.heap.push { cls:=.type "list",dict:=none,data:=.seq ([]:List Value).toArray }=s3.heap:=by rw[←zN]
 rw[zG];have HE:∀b o,s2.heap.get? b=some o→s3.heap.get? b=some o:=fun b o e=>by rw[←zG];exact Heap.get?_push_of_some _ e
 have WO:s3.heap.objs.size=s2.heap.objs.size+1:=by rw[←zG,Heap.size_push]
 have vY:=yT scope.names (s3.heap.objs.size+1) [] (gD X.env scope.names []);have ok:=cellsFrom_ok scope.names (s3.heap.push { cls:=.type "dict",data:=.dict #[] }) (s3.heap.objs.size+1) [] ⟨fun _ _ hm=>(nomatch hm),List.Pairwise.nil⟩ (by rw[Heap.size_push];exact Nat.le_refl _);have F1:=(Heap.Ns.new s3.heap (.type "dict")).keeps (pushCells_keeps scope.names _);have vZ:∀b o,s3.heap.get? b=some o→(pushCells (s3.heap.push { cls:=.type "dict",data:=.dict #[] }) scope.names).get? b=some o:=fun b o e=>pushCells_keeps _ _ b o (Heap.get?_push_of_some _ e);rw[Heap.size_push]at ok;rw[List.nil_append]at vY;rw[vY];generalize pushCells (s3.heap.push { cls:=.type "dict",data:=.dict #[] }) scope.names=kJ at F1 vZ ok ⊢;have old:∀x c,X.env.cells.lookup x=some c→c<s3.heap.objs.size:=fun x c e=>by obtain⟨v,z⟩:=dC.cell x c e;exact z.lt
 have k0:∀x c,(cellsFrom (s3.heap.objs.size+1) scope.names []++gD X.env scope.names []).lookup x=some c→((x,c)∈cellsFrom (s3.heap.objs.size+1) scope.names []∧scope.names.lookup x=some .cell∧s3.heap.objs.size<c∧kJ.IsCell c none)∨X.env.cells.lookup x=some c:=fun x c e=>by
  rw[List.lookup_append]at e;cases ak:(cellsFrom (s3.heap.objs.size+1) scope.names []).lookup x with
  |some d8=>
   rw[ak]at e;have e:d8=c:=Option.some.inj e;subst e;have m:=PySem.mem_of_lookup ak;rcases u9 _ _ _ m with z|z
   ·exact .inl ⟨m,S.uniq _ z,(ok.empty _ _ m).2,(ok.empty _ _ m).1⟩
   ·cases z
  |none=>
   rw[ak]at e;have e:(gD X.env scope.names []).lookup x=some c:=e;rw[pn]at e
   split at e
   ·exact .inr e
   ·cases e
 have k2:∀x,(x,NameKind.free)∈scope.names→(cellsFrom (s3.heap.objs.size+1) scope.names []++gD X.env scope.names []).lookup x=X.env.cells.lookup x:=fun x hx=>by
  rw[List.lookup_append];cases ak:(cellsFrom (s3.heap.objs.size+1) scope.names []).lookup x with
  |some d8=>
   rcases u9 _ _ _ (PySem.mem_of_lookup ak)with z|z
   ·have aM:=S.uniq _ z;have a_:=S.uniq _ hx;dsimp only at aM a_;rw[aM]at a_;cases a_
   ·cases z
  |none=>show(gD X.env scope.names []).lookup x=_;rw[pn,if_pos hx]
 have k3:∀x,scope.names.lookup x=some .cell→∃c,(cellsFrom (s3.heap.objs.size+1) scope.names []++gD X.env scope.names []).lookup x=some c∧s3.heap.objs.size<c:=fun x hx=>by obtain⟨c,e⟩:=yS (n:=s3.heap.objs.size+1) hx;exact⟨c,by rw[List.lookup_append,e];rfl,(ok.empty _ _ (PySem.mem_of_lookup e)).2⟩
 have vX:∀x y c,(cellsFrom (s3.heap.objs.size+1) scope.names []++gD X.env scope.names []).lookup x=some c→(cellsFrom (s3.heap.objs.size+1) scope.names []++gD X.env scope.names []).lookup y=some c→x=y:=fun x y c h1 h2=>by
  rcases k0 x c h1 with a9|a9<;>rcases k0 y c h2 with aZ|aZ
  ·exact name_of_addr ok.apart a9.1 aZ.1
  ·exact absurd (old y c aZ) (Nat.not_lt_of_gt a9.2.2.1)
  ·exact absurd (old x c a9) (Nat.not_lt_of_gt aZ.2.2.1)
  ·exact dC.ok.inj x y c a9 aZ
 have k1:∀x c,(cellsFrom (s3.heap.objs.size+1) scope.names []++gD X.env scope.names []).lookup x=some c→X.env.cells.lookup x=some c∨(scope.names.lookup x=some .cell∧s3.heap.objs.size<c∧kJ.IsCell c none):=fun x c e=>(k0 x c e).elim (fun z=>.inr z.2) .inl;generalize cellsFrom (s3.heap.objs.size+1) scope.names []++gD X.env scope.names []=cl at k0 k1 k2 k3 vX ⊢;have FZ:∀b∈aY,b<s2.heap.objs.size:=fun b hb=>by obtain⟨o,e,_⟩:=T.obj 0 _ kj b hb;exact Heap.lt_size e
 have e_:∀b∈aY,iU X pins (upd aS s2.heap.objs.size (.lst [])) b:=fun b hb=>by obtain⟨eh,a1⟩:=f2 b hb;exact⟨by rw[c2 (Nat.ne_of_lt (FZ b hb))];exact eh,a1⟩
 have zJ:∀b∈aY,b<s3.heap.objs.size:=fun b hb=>by rw[WO];exact Nat.lt_succ_of_lt (FZ b hb)
 have loop:∀s4:Shared,s4={ s3 with heap:=kJ }→
   codeAny (model X.prog X.w) X.A (.compLoop (.ListComp elt [⟨target,iter,ifs,0⟩] scope pos) 0 (.ref it) (.ref s2.heap.objs.size) (compEnvC scope cl s3.heap.objs.size X.env))
    (r1 (.ref s2.heap.objs.size) s3.heap.objs.size) s4:=by
  intro s4 qT;have jV:Inv (e4 X scope N cl s3.heap.objs.size s3 (upd aS s2.heap.objs.size (.lst [])) aY) [] (lr nl caps σ) (upd aS s2.heap.objs.size (.lst [])) s4:=
   QH S dC (by rw[qT];exact k1) k2 k3 vX e_ zJ (by rw[qT]) (by rw[qT]) ⟨_,by rw[qT];exact F1⟩ (by rw[qT];exact vZ)
  have W6:gv 0 s4.heap:=T.keep 0 _ _ kj fun b hb o e=>by rw[qT];exact vZ b o (HE b o e)
  generalize j4:e4 X scope N cl s3.heap.objs.size s3 (upd aS s2.heap.objs.size (.lst [])) aY=B at jV;have stat:∀{H':ag},(∀b∈aY,H' b=none)→∀b∈aY,iU B [] H' b:=fun{H'} aE b hb=>by
   subst j4;obtain⟨eh,a1,a2,fg,iY,jX⟩:=e_ b hb;refine⟨aE b hb,Nat.ne_of_lt (zJ b hb),fun z=>?_,.inl hb,fun x c e=>?_,fun p hp=>absurd (show p∈([]:List (Addr×Obj))from hp) (by simp)⟩
   ·rcases List.mem_cons.mp (dC.w8 b z)with q|q
    ·exact a1 q
    ·exact a2 q
   ·rcases k1 x c e with e|e
    ·exact iY x c e
    ·exact Nat.ne_of_gt (Nat.lt_trans (zJ b hb) e.2.1)
  have OQ:iX B target g:=by subst j4;exact hg _ _ _ _ _
  have Pw:nd B ifs fP:=by subst j4;exact ht _ _ _ _ _
  have OL:aT B elt dw:=by subst j4;exact he _ _ _ _ _
  have sg:B.prog=X.prog:=by subst j4;rfl
  have i7:B.w=X.w:=by subst j4;rfl
  have Ej:B.K=X.K:=by subst j4;rfl
  have MQ:B.A=X.A:=by subst j4;rfl
  have y2:B.env=compEnvC scope cl s3.heap.objs.size X.env:=by subst j4;rfl
  have Em:B.calm=true:=by subst j4;exact hc
  have NU:B.xe=fun _ _=>False:=by subst j4;rfl
  rw[←sg,←i7,←MQ,←y2];refine Md (fun n s'=>∃i σ' H',Inv B [] σ' H' s'∧gv i s'.heap∧(∀b∈aY,H' b=none)∧W i n σ' H') ?_ m0 ⟨0,_,_,jV,W6,fun b hb=>(e_ b hb).1,mY⟩;rintro n s5 ⟨i,σ5,iz,l5,ry,vt,Yt⟩;have away:∀{α:Type}{t:Sem α}{CY:α→Shared→Prop}{KZ:Value→Shared→Prop}{mU:Shared},wpAny (model B.prog B.w) B.A t CY B.xe mU→wpAny (model B.prog B.w) B.A t CY KZ mU:=fun h=>wpAny_mono h (fun _ _ q=>q) fun e s' z=>by rw[NU]at z;exact z.elim
  rcases turn i n σ5 iz Yt with⟨stop,q⟩|⟨go,step⟩
  ·have d:=T.done B sg i7 Ej Em i [] s5 σ5 iz (notedBy (model B.prog B.w) B.A B.env fun e s'=>r1 (.ref s2.heap.objs.size) s3.heap.objs.size (.error e) s') l5 (stat vt) ry stop;rw[←sg,←i7]at d;refine bF d fun r e2⟨hr,oK⟩=>?_;subst hr;refine Ov _ e2 iz ?_ (dC.nA (Nat.le_refl _) ?_) (fun h' jd=>?_) q
   ·obtain⟨m,aE,_⟩:=oK.loc;rw[y2]at aE;exact⟨m,aE⟩
   ·have z:=oK.free;rw[y2]at z;exact z
   ·subst j4;exact QJ dC e_ oK jd
  ·have d:=T.item B sg i7 Ej Em i [] s5 σ5 iz (notedBy (model B.prog B.w) B.A B.env fun e s'=>r1 (.ref s2.heap.objs.size) s3.heap.objs.size (.error e) s') l5 (stat vt) ry go;rw[←sg,←i7]at d;refine bF d fun r e2⟨u,hr,h6⟩=>?_;subst hr;refine bF h6 fun _ c1⟨x,fR,iA,gX,l1,BO,Od⟩=>?_;have K5:=iA.pinned (stat Od) (T.obj _ _ BO);refine away (bF (OQ _ c1 σ5 fR x u _ K5 gX (step x fR l1)) fun _ lR⟨σ8,xX,K6,oa⟩=>?_);refine away (bF (Pw _ lR σ8 xX _ K6 oa) fun b lS⟨K0,CN,AE⟩=>?_);have again:∀{σa:St}{gZ:ag}{mU:Shared},Inv B ([]++tG aY c1.heap) σa gZ mU→(∃cR,cR<n∧W (i+1) cR σa gZ)→∃m,m<n∧∃i σ' H',Inv B [] σ' H' mU∧gv i mU.heap∧(∀b∈aY,H' b=none)∧W i m σ' H':=fun{σa gZ mU} xY⟨cR,hm,YE⟩=>by
    refine⟨cR,hm,i+1,σa,gZ,xY.xp,T.keep _ _ _ BO fun b hb o e=>(xY.pin (b,o) (List.mem_append_right _ (List.mem_append_right _ (wq hb e)))).1,fun b hb=>?_,YE⟩;obtain⟨o,e,d⟩:=T.obj _ _ BO b hb;exact(xY.pin (b,o) (List.mem_append_right _ (List.mem_append_right _ (wq hb e)))).2.1
   cases b with
   |false=>exact again CN AE
   |true=>show wpAny _ _ (eval elt B.env) _ _ lS;refine away (bF (OL _ lS σ8 K0 _ CN AE) fun CE tI⟨y,CL,K2,b7,ys,ha,bq,U_⟩=>?_);refine away (bF (Ak _ tI σ8 CL (.ref s2.heap.objs.size) [y] (.ref s2.heap.objs.size) [CE] (fun _ CM=>CM=upd CL s2.heap.objs.size (.lst (ys++[y]))) K2 rfl (.cons b7 .nil) ⟨_,ys,y,rfl,rfl,ha,bq,rfl⟩) fun _ aa0⟨z,CM,K3,_,MJ⟩=>?_);subst MJ;exact again K3 U_
 exact codeAny_compStart_list (loop _ (by rw[←zN])) (T.self X.A 0 _ _ _ (T.keep 0 _ _ kj fun b hb o e=>vZ b o (HE b o e)) (loop _ (by rw[←zN])))
theorem FV{pins:List (Addr×Obj)}{σ :St}{s:Shared}{H:ag}(S:ku X.env.scope X.N scope N nl caps)(I:Inv X pins σ H s):∀p∈scope.names,p.2=.free→∃c,X.env.cells.lookup p.1=some c:=fun p hp e=>by
 have q:=S.free p hp e;apply I.ok.has p.1;show X.env.scope.names.lookup p.1=some .cell∨X.env.scope.names.lookup p.1=some .free;cases ay:X.env.scope.names.lookup p.1 with
 |none=>rw[ay]at q;cases q
 |some k=>
  rw[ay]at q
  cases k<;>first
   |exact .inl rfl
   |exact .inr rfl
   |cases q
theorem T9(S:ku X.env.scope X.N scope N nl caps)(hc:X.calm=true)(hi:f_ X target iter iv)(hg:∀cl C s H aY,iX (e4 X scope N cl C s H aY) target g)(ht:∀cl C s H aY,nd (e4 X scope N cl C s H aY) ifs fP)(he:∀cl C s H aY,aT (e4 X scope N cl C s H aY) elt dw)(hs:∀x,foldedSetIterable iter X.env x=pure x:=by intro _;rfl):aT X (.ListComp elt [⟨target,iter,ifs,0⟩] scope pos) (xd iv g fP dw nl caps):=by intro pins s σ H Q I h;rw[eval_ListComp];refine wpAny_comprehension_free (use:=none) rfl hs (DV (FV S I)) S.kind S.locs ?_;refine bF (hi pins s σ H _ I h) fun v s1 h1=>bF h1 fun vT s2 h2=>?_;obtain⟨it,aY,gv,bx,aS,e,bT,T,kj,f2,k⟩:=h2;subst e;obtain⟨W,⟨m0,mY⟩,turn⟩:=k s2.heap.objs.size (bT.br.fresh (Nat.le_refl _));refine DY (Q:=fun H'=>Q (.ref s2.heap.objs.size) H') S hc bT T kj f2 hg ht he mY turn (fun acc C=>compPost (model X.prog X.w) X.A X.xe none (fu X pins σ Q) acc C) ?_;intro C s' H' aE _ iI q;obtain⟨m,aE⟩:=aE;exact⟨m,aE,fun h' jd=>⟨.ref s2.heap.objs.size,H',iI h' jd,rfl,q⟩⟩
theorem UN{i:Nat}{y:Str}{py Jd:Pos}(S:ku X.env.scope X.N scope N nl caps)(hc:X.calm=true)(hN:X.N.Nodup)(bJ:X.N[i]?=some y)(hl:X.env.kindOf y=some .local)(hi:f_ X target iter iv)(hg:∀cl C s H aY,iX (e4 X scope N cl C s H aY) target g)(ht:∀cl C s H aY,nd (e4 X scope N cl C s H aY) ifs fP)(he:∀cl C s H aY,aT (e4 X scope N cl C s H aY) elt dw)(kH:swapsWith (.ListComp elt [⟨target,iter,ifs,0⟩] scope pos) (some (.Name y py)) Jd.line X.env=pure true:=by rfl)(hs:∀x,foldedSetIterable iter X.env x=pure x:=by intro _;rfl):c7 X (.Assign [.Name y py] (.ListComp elt [⟨target,iter,ifs,0⟩] scope pos) Jd) (om (xd iv g fP dw nl caps) (jv i)):=by
 intro pins s σ H cu I h;rw[exec_Assign_Name_used _ _ _ _ kH];refine wpAny_bind (wpAny_standAt (wpAny_bind ?_));show wpAny _ X.A (do let _ ←comprehension (.ListComp elt [⟨target,iter,ifs,0⟩] scope pos) scope X.env _ (newList []) false (eval iter X.env) (some (assign (.Name y py) X.env))) _ _ s;refine wpAny_bind (wpAny_mono (wpAny_comprehension_free (use:=some (assign (.Name y py) X.env)) (Q:=fun _ s'=>oS X pins cu .next s') rfl hs (DV (FV S I)) S.kind S.locs ?_) (fun _ s' aK=>wpAny_pure (wpAny_pure aK)) fun _ _ e=>e);refine bF (hi pins s σ H _ I h) fun v s1 h1=>bF h1 fun vT s2 h2=>?_;obtain⟨it,aY,gv,bx,aS,e,bT,T,kj,f2,k⟩:=h2;subst e;obtain⟨W,⟨m0,mY⟩,turn⟩:=k s2.heap.objs.size (bT.br.fresh (Nat.le_refl _));refine DY (Q:=fun H'=>cu.bk (σ.set i (some (.ref s2.heap.objs.size))) H') S hc bT T kj f2 hg ht he mY turn (fun acc C=>compPost (model X.prog X.w) X.A X.xe (some (assign (.Name y py) X.env)) (fun _ s'=>oS X pins cu .next s') acc C) ?_;intro C s' H' aE fU iI q;obtain⟨m,aE⟩:=aE;show wpAny _ X.A (assign (.Name y py) X.env (.ref s2.heap.objs.size)) _ _ s';have hT:Inv X pins σ H' s':=iI s'.heap (Heap.SameBut.refl _ _);refine wpAny_assign_Name (Jm (v:=.ref s2.heap.objs.size) hT hN bJ (.inl hl) (show RelV (V.ref _) _ from rfl) (fun hO K1 Pp=>?_) (.inr hl));obtain⟨a,Po,ha⟩:=Pp;obtain⟨mq,bu,c5,eM,i4,yQ⟩:=fU;have SK:C≠a:=by
  rcases ha with z|z
  ·rw[z];exact bu
  ·exact fun w=>i4 y a z w.symm
 refine⟨m,aE.sameBut Po SK,fun h' jd=>?_⟩;exact⟨_,H',K1.turned (t':=hO.toks) (it:=C) (fun b o hb e=>(jd.2 b hb).trans e) mq bu eM i4 yQ,q⟩
end
end aQ
namespace ax
open PySem aQ
inductive D where
 |non|au (b:Bool)|int (i:Int)|str (x:Str)
 |tup (xs:List D)|lst (xs:List D)|cx (xs:List D)
 |cY (aD:List Key) (xs:List D)|bI (aD:List (List Key)) (xs:List D)
 |ins (c:Str) (ns:List Str) (xs:List D)
 |i8 (c:Str)
 |dk (xs:List D)
def Sub(G H:ag):Prop:=∀b o,G b=some o→H b=some o
theorem Sub.refl(G:ag):Sub G G:=fun _ _ e=>e
theorem Sub.trans{G H I:ag}(a:Sub G H)(b:Sub H I):Sub G I:=fun c o e=>b c o (a c o e)
theorem Sub.gone{G H:ag}(a:Sub G H){b:Addr}(h:H b=none):G b=none:=by
 cases e:G b with
 |none=>rfl
 |some o=>rw[a b o e]at h;cases h
theorem Sub.upd{G:ag}{a:Addr}{o:du}(h:G a=none):Sub G (upd G a o):=fun b u e=>by rw[c2 (iP e h)];exact e
theorem Sub.xr{G H:ag}{a:Addr}{o:du}(s:Sub G H)(h:G a=none):Sub G (aQ.upd H a o):=fun b u e=>by rw[c2 (iP e h)];exact s b u e
theorem Sub.both{G H:ag}{a:Addr}{o:du}(s:Sub G H):Sub (aQ.upd G a o) (aQ.upd H a o):=fun b u e=>by
 by_cases hb:b=a
 ·subst hb;rw[d0]at e ⊢;exact e
 ·rw[c2 hb]at e ⊢;exact s b u e
theorem Sub.at{G H:ag}{a:Addr}{o:du}(s:Sub G H)(h:H a=some o):Sub (aQ.upd G a o) H:=fun b u e=>by
 by_cases hb:b=a
 ·subst hb;rw[d0]at e;rw[h];exact e
 ·rw[c2 hb]at e;exact s b u e
structure cc(G H G' H':ag):Prop where
 g:Sub G G'
 h:Sub H H'
 n:∀b,H b≠none→G' b=G b
theorem Sub.some{G H:ag}(s:Sub G H){b:Addr}(h:G b≠none):H b≠none:=fun z=>h (s.gone z)
theorem cc.refl(G H:ag):cc G H G H:=⟨Sub.refl _,Sub.refl _,fun _ _=>rfl⟩
theorem cc.trans{G H aJ H1 cI aS:ag}(a:cc G H aJ H1)(b:cc aJ H1 cI aS):cc G H cI aS:=⟨a.g.trans b.g,a.h.trans b.h,fun c hc=>(b.n c (a.h.some hc)).trans (a.n c hc)⟩
theorem cc.lay{G H:ag}{p:Addr}{o:du}(s:Sub G H)(hp:H p=none):cc G H (aQ.upd G p o) (aQ.upd H p o):=⟨Sub.upd (s.gone hp),Sub.upd hp,fun b hb=>by rw[c2];intro e;subst e;exact hb hp⟩
theorem cc.lay0{G H:ag}{p:Addr}{o:du}(hp:H p=none):cc G H G (aQ.upd H p o):=⟨Sub.refl _,Sub.upd hp,fun _ _=>rfl⟩
theorem cc.put{G H G' H':ag}{p:Addr}{o:du}(u:cc G H G' H')(hp:H p=none)(hg:G' p=none):cc G H (aQ.upd G' p o) H':=⟨u.g.trans (Sub.upd hg),u.h,fun b hb=>by
 rw[c2]
 ·exact u.n b hb
 ·intro e;subst e;exact hb hp⟩
theorem gb.mono{G H:ag}(s:Sub G H){a:Addr}{u:du}(r:gb G a u):gb H a u:=by
 rcases r with r|⟨o,r⟩
 ·exact .inl (s _ _ r)
 ·exact .inr ⟨o,s _ _ r⟩
theorem bU.mono{K:PySem.W.Frag}{G H:ag}(s:Sub G H){a:Addr}{xs:List V}(r:bU K G a xs):bU K H a xs:=by
 rcases r with r|r
 ·exact .inl (gb.mono s r)
 ·exact .inr r
theorem cK.mono{K:PySem.W.Frag}{G H:ag}(s:Sub G H){a:Addr}{xs:List V}(r:cK K G a xs):cK K H a xs:=by
 rcases r with r|r
 ·exact .inl (gb.mono s r)
 ·exact .inr r
def eG(K:PySem.W.Frag)(c:Str)(C:Addr):Prop:=PySem.W.nsIn K mainGlobals c=some (some (.ref C))
mutual
noncomputable def At(K:PySem.W.Frag)(G:ag):D→V→Prop
 |.non,v=>v=.non
 |.au b,v=>v=.au b
 |.int i,v=>v=.int i
 |.str x,v=>v=.str x
 |.tup ds,v=>∃a xs,v=.ref a∧G a=some (.tup xs)∧aI K G ds xs
 |.dk ds,v=>∃a xs,v=.ref a∧cK K G a xs∧aI K G ds xs
 |.lst ds,v=>∃a xs,v=.ref a∧G a=some (.lst xs)∧aI K G ds xs
 |.cx ds,v=>∃a xs,v=.ref a∧bU K G a xs∧aI K G ds xs
 |.cY aD ds,v=>∃a xs,v=.ref a∧G a=some (.cY xs)∧xs.map (·.1)=aD∧aI K G ds (xs.map (·.2))
 |.bI aD ds,v=>∃a xs,v=.ref a∧G a=some (.bI xs)∧xs.map (·.1)=aD∧aI K G ds (xs.map (·.2))
 |.ins c ns ds,v=>∃a aN xs,v=.ref a∧(∃C,eG K c C∧G a=some (.ins C aN xs))∧xs.map (·.1)=ns∧aI K G ds (xs.map (·.2))
 |.i8 c,v=>∃(a:Addr)(xs:List V),v=.ref a∧(∃C,eG K c C∧G a=some (qI a (.ref C)))∧xs=[]
noncomputable def aI(K:PySem.W.Frag)(G:ag):List D→List V→Prop
 |[],vs=>vs=[]
 |d::ds,vs=>∃v r,vs=v::r∧At K G d v∧aI K G ds r
end
mutual
theorem At.mono{K:PySem.W.Frag}{G H:ag}(s:Sub G H):∀{d:D}{v:V},At K G d v→At K H d v
 |.non,_,h=>by simpa only[At]using h
 |.au _,_,h=>by simpa only[At]using h
 |.int _,_,h=>by simpa only[At]using h
 |.str _,_,h=>by simpa only[At]using h
 |.tup _,_,h=>by simp only[At]at h ⊢;obtain⟨a,xs,e,q,r⟩:=h;exact⟨a,xs,e,s _ _ q,aI.mono s r⟩
 |.dk _,_,h=>by simp only[At]at h ⊢;obtain⟨a,xs,e,q,r⟩:=h;exact⟨a,xs,e,cK.mono s q,aI.mono s r⟩
 |.lst _,_,h=>by simp only[At]at h ⊢;obtain⟨a,xs,e,q,r⟩:=h;exact⟨a,xs,e,s _ _ q,aI.mono s r⟩
 |.cx _,_,h=>by simp only[At]at h ⊢;obtain⟨a,xs,e,q,r⟩:=h;exact⟨a,xs,e,bU.mono s q,aI.mono s r⟩
 |.cY _ _,_,h=>by simp only[At]at h ⊢;obtain⟨a,xs,e,q,k,r⟩:=h;exact⟨a,xs,e,s _ _ q,k,aI.mono s r⟩
 |.bI _ _,_,h=>by simp only[At]at h ⊢;obtain⟨a,xs,e,q,k,r⟩:=h;exact⟨a,xs,e,s _ _ q,k,aI.mono s r⟩
 |.ins _ _ _,_,h=>by simp only[At]at h ⊢;obtain⟨a,aN,xs,e,⟨C,bu,q⟩,k,r⟩:=h;exact⟨a,aN,xs,e,⟨C,bu,s _ _ q⟩,k,aI.mono s r⟩
 |.i8 _,_,h=>by simp only[At]at h ⊢;obtain⟨a,xs,e,⟨C,bu,q⟩,r⟩:=h;exact⟨a,xs,e,⟨C,bu,s _ _ q⟩,r⟩
theorem aI.mono{K:PySem.W.Frag}{G H:ag}(s:Sub G H):∀{ds:List D}{vs:List V},aI K G ds vs→aI K H ds vs
 |[],_,h=>by simpa only[aI]using h
 |_::_,_,h=>by simp only[aI]at h ⊢;obtain⟨v,r,e,q,t⟩:=h;exact⟨v,r,e,At.mono s q,aI.mono s t⟩
end
section
variable{K:PySem.W.Frag}{G:ag}
theorem aI.nil:aI K G [] []:=by simp only[aI]
theorem aI.cons{d:D}{ds:List D}{v:V}{vs:List V}(h:At K G d v)(t:aI K G ds vs):aI K G (d::ds) (v::vs):=by simp only[aI];exact⟨v,vs,rfl,h,t⟩
theorem aI.length:∀{ds:List D}{vs:List V},aI K G ds vs→ds.length=vs.length
 |[],_,h=>by simp only[aI]at h;subst h;rfl
 |_::_,_,h=>by simp only[aI]at h;obtain⟨v,r,rfl,_,t⟩:=h;simp[aI.length t]
theorem aI.get:∀{ds:List D}{vs:List V}{i:Nat}{d:D},aI K G ds vs→ds[i]?=some d→∃v,vs[i]?=some v∧At K G d v
 |[],_,_,_,_,e=>by simp at e
 |_::_,_,0,_,h,e=>by simp only[aI]at h;obtain⟨v,r,rfl,q,t⟩:=h;simp at e;subst e;exact⟨v,by simp,q⟩
 |_::_,_,i+1,d,h,e=>by simp only[aI]at h;obtain⟨v,r,rfl,q,t⟩:=h;obtain⟨u,h1,h2⟩:=aI.get (i:=i) (d:=d) t (by simpa using e);exact⟨u,by simpa using h1,h2⟩
theorem aI.vx{ds:List D}{vs:List V}{i:Nat}{v:V}(h:aI K G ds vs)(e:vs[i]?=some v):∃d,ds[i]?=some d∧At K G d v:=by
 have hi:i<ds.length:=by rw[h.length];exact(List.getElem?_eq_some_iff.mp e).1
 obtain⟨u,h1,h2⟩:=h.get (List.getElem?_eq_getElem hi);rw[e]at h1;cases h1;exact⟨_,List.getElem?_eq_getElem hi,h2⟩
theorem aI.append:∀{ds es:List D}{vs ws:List V},aI K G ds vs→aI K G es ws→aI K G (ds++es) (vs++ws)
 |[],_,_,_,h,t=>by simp only[aI]at h;subst h;exact t
 |_::_,_,_,_,h,t=>by simp only[aI]at h;obtain⟨v,r,rfl,q,s⟩:=h;exact .cons q (aI.append s t)
theorem aI.take:∀(n:Nat){ds:List D}{vs:List V},aI K G ds vs→aI K G (ds.take n) (vs.take n)
 |0,_,_,_=>by simpa using aI.nil
 |_+1,[],_,h=>by simp only[aI]at h;subst h;simpa using aI.nil
 |n+1,_::_,_,h=>by simp only[aI]at h;obtain⟨v,r,rfl,q,t⟩:=h;exact .cons q (aI.take n t)
theorem aI.drop:∀(n:Nat){ds:List D}{vs:List V},aI K G ds vs→aI K G (ds.drop n) (vs.drop n)
 |0,_,_,h=>by simpa using h
 |_+1,[],_,h=>by simp only[aI]at h;subst h;simpa using aI.nil
 |n+1,_::_,_,h=>by simp only[aI]at h;obtain⟨v,r,rfl,q,t⟩:=h;simpa using aI.drop n t
theorem aI.set{d:D}{v:V}(q:At K G d v):∀(n:Nat){ds:List D}{vs:List V},aI K G ds vs→aI K G (ds.set n d) (vs.set n v)
 |_,[],_,h=>by simp only[aI]at h;subst h;simpa using aI.nil
 |0,_::_,_,h=>by simp only[aI]at h;obtain⟨u,r,rfl,_,t⟩:=h;exact .cons q t
 |n+1,_::_,_,h=>by simp only[aI]at h;obtain⟨u,r,rfl,p,t⟩:=h;exact .cons p (aI.set q n t)
theorem aI.snoc{ds:List D}{vs:List V}{d:D}{v:V}(h:aI K G ds vs)(q:At K G d v):aI K G (ds++[d]) (vs++[v]):=h.append (.cons q .nil)
end
inductive R(α:Type) where
 |ok (a:α)|exc (c:Str)|bad
namespace R
def bind{α β:Type}:R α→(α→R β)→R β
 |.ok a,k=>k a
 |.exc c,_=>.exc c
 |.bad,_=>.bad
def map{α β:Type}(f:α→β)(r:R α):R β:=r.bind fun a=>.ok (f a)
theorem bt{α β:Type}(a:α)(k:α→R β):(R.ok a).bind k=k a:=rfl
end R
inductive T where
 |aw (d:D)|lst (bH:List T)|cY (aD:List Key) (bH:List T)|bI (aD:List (List Key)) (bH:List T)|ins (c:Str) (ns:List Str) (bH:List T)
mutual
noncomputable def toD:T→D
 |.aw d=>d
 |.lst bH=>.lst (ou bH)
 |.cY aD bH=>.cY aD (ou bH)
 |.bI aD bH=>.bI aD (ou bH)
 |.ins c ns bH=>.ins c ns (ou bH)
noncomputable def ou:List T→List D
 |[]=>[]
 |t::bH=>toD t::ou bH
end
mutual
noncomputable def aY(H:ag):T→V→List Addr
 |.aw _,_=>[]
 |.lst bH,v=>match v with
  |.ref a=>match H a with
   |some (.lst xs)=>a::fM H bH xs
   |_=>[]
  |_=>[]
 |.cY _ bH,v=>match v with
  |.ref a=>match H a with
   |some (.cY xs)=>a::fM H bH (xs.map (·.2))
   |_=>[]
  |_=>[]
 |.bI _ bH,v=>match v with
  |.ref a=>match H a with
   |some (.bI xs)=>a::fM H bH (xs.map (·.2))
   |_=>[]
  |_=>[]
 |.ins _ _ bH,v=>match v with
  |.ref a=>match H a with
   |some (.ins _ _ xs)=>a::fM H bH (xs.map (·.2))
   |_=>[]
  |_=>[]
noncomputable def fM(H:ag):List T→List V→List Addr
 |[],_=>[]
 |t::bH,vs=>match vs with
  |v::r=>aY H t v++fM H bH r
  |[]=>[]
end
mutual
noncomputable def dx(K:PySem.W.Frag)(G H:ag):T→V→Prop
 |.aw d,v=>At K G d v
 |.lst bH,v=>∃a xs,v=.ref a∧H a=some (.lst xs)∧cz K G H bH xs
 |.cY aD bH,v=>∃a xs,v=.ref a∧H a=some (.cY xs)∧xs.map (·.1)=aD∧cz K G H bH (xs.map (·.2))
 |.bI aD bH,v=>∃a xs,v=.ref a∧H a=some (.bI xs)∧xs.map (·.1)=aD∧cz K G H bH (xs.map (·.2))
 |.ins c ns bH,v=>∃a aN xs,v=.ref a∧(∃C,eG K c C∧H a=some (.ins C aN xs))∧xs.map (·.1)=ns∧cz K G H bH (xs.map (·.2))
noncomputable def cz(K:PySem.W.Frag)(G H:ag):List T→List V→Prop
 |[],vs=>vs=[]
 |t::bH,vs=>∃v r,vs=v::r∧dx K G H t v∧cz K G H bH r
end
section
variable{K:PySem.W.Frag}{G G' H H' P:ag}
theorem sv{a:Addr}{xs:List V}{bH:List T}(q:H a=some (.lst xs)):aY H (.lst bH) (.ref a)=a::fM H bH xs:=by simp only[aY,q]
theorem sq{a:Addr}{xs:List (Key×V)}{aD:List Key}{bH:List T}(q:H a=some (.cY xs)):aY H (.cY aD bH) (.ref a)=a::fM H bH (xs.map (·.2)):=by simp only[aY,q]
theorem sr{a:Addr}{xs:List (List Key×V)}{aD:List (List Key)}{bH:List T}(q:H a=some (.bI xs)):aY H (.bI aD bH) (.ref a)=a::fM H bH (xs.map (·.2)):=by simp only[aY,q]
theorem su{a C:Addr}{aN}{xs:List (Str×V)}{c:Str}{ns:List Str}{bH:List T}(q:H a=some (.ins C aN xs)):aY H (.ins c ns bH) (.ref a)=a::fM H bH (xs.map (·.2)):=by simp only[aY,q]
theorem ph{t:T}{bH:List T}{v:V}{r:List V}:fM H (t::bH) (v::r)=aY H t v++fM H bH r:=by simp only[fM]
theorem Fy{vs:List V}:fM H [] vs=[]:=by simp only[fM]
mutual
theorem dx.mono(aX:Sub G G'):∀{t:T}{v:V},dx K G H t v→dx K G' H t v
 |.aw _,_,h=>by simp only[dx]at h ⊢;exact h.mono aX
 |.lst _,_,h=>by simp only[dx]at h ⊢;obtain⟨a,xs,e,q,r⟩:=h;exact⟨a,xs,e,q,cz.mono aX r⟩
 |.cY _ _,_,h=>by simp only[dx]at h ⊢;obtain⟨a,xs,e,q,n,r⟩:=h;exact⟨a,xs,e,q,n,cz.mono aX r⟩
 |.bI _ _,_,h=>by simp only[dx]at h ⊢;obtain⟨a,xs,e,q,n,r⟩:=h;exact⟨a,xs,e,q,n,cz.mono aX r⟩
 |.ins _ _ _,_,h=>by simp only[dx]at h ⊢;obtain⟨a,aN,xs,e,q,n,r⟩:=h;exact⟨a,aN,xs,e,q,n,cz.mono aX r⟩
theorem cz.mono(aX:Sub G G'):∀{bH:List T}{vs:List V},cz K G H bH vs→cz K G' H bH vs
 |[],_,h=>by simpa only[cz]using h
 |_::_,_,h=>by simp only[cz]at h ⊢;obtain⟨v,r,e,q,t⟩:=h;exact⟨v,r,e,dx.mono aX q,cz.mono aX t⟩
end
mutual
theorem dx.keep:∀{t:T}{v:V},(∀b∈aY H t v,H' b=H b)→dx K G H t v→dx K G H' t v∧aY H' t v=aY H t v
 |.aw _,_,_,h=>by simp only[dx]at h;exact⟨by simp only[dx];exact h,by simp only[aY]⟩
 |.lst _,_,k,h=>by simp only[dx]at h;obtain⟨a,xs,rfl,q,r⟩:=h;rw[sv q]at k;have kP:H' a=some (.lst xs):=(k a (by simp)).trans q;obtain⟨ar,a5⟩:=cz.keep (fun b hb=>k b (List.mem_cons_of_mem _ hb)) r;exact⟨by simp only[dx];exact⟨a,xs,rfl,kP,ar⟩,by rw[sv kP,sv q,a5]⟩
 |.cY _ _,_,k,h=>by simp only[dx]at h;obtain⟨a,xs,rfl,q,n,r⟩:=h;rw[sq q]at k;have kP:H' a=some (.cY xs):=(k a (by simp)).trans q;obtain⟨ar,a5⟩:=cz.keep (fun b hb=>k b (List.mem_cons_of_mem _ hb)) r;exact⟨by simp only[dx];exact⟨a,xs,rfl,kP,n,ar⟩,by rw[sq kP,sq q,a5]⟩
 |.bI _ _,_,k,h=>by simp only[dx]at h;obtain⟨a,xs,rfl,q,n,r⟩:=h;rw[sr q]at k;have kP:H' a=some (.bI xs):=(k a (by simp)).trans q;obtain⟨ar,a5⟩:=cz.keep (fun b hb=>k b (List.mem_cons_of_mem _ hb)) r;exact⟨by simp only[dx];exact⟨a,xs,rfl,kP,n,ar⟩,by rw[sr kP,sr q,a5]⟩
 |.ins _ _ _,_,k,h=>by simp only[dx]at h;obtain⟨a,aN,xs,rfl,⟨C,bu,q⟩,n,r⟩:=h;rw[su q]at k;have kP:H' a=some (.ins C aN xs):=(k a (by simp)).trans q;obtain⟨ar,a5⟩:=cz.keep (fun b hb=>k b (List.mem_cons_of_mem _ hb)) r;exact⟨by simp only[dx];exact⟨a,aN,xs,rfl,⟨C,bu,kP⟩,n,ar⟩,by rw[su kP,su q,a5]⟩
theorem cz.keep:∀{bH:List T}{vs:List V},(∀b∈fM H bH vs,H' b=H b)→cz K G H bH vs→cz K G H' bH vs∧fM H' bH vs=fM H bH vs
 |[],_,_,h=>⟨by simpa only[cz]using h,by simp only[fM]⟩
 |_::_,_,k,h=>by simp only[cz]at h;obtain⟨v,r,rfl,q,t⟩:=h;rw[ph]at k;obtain⟨aM,a_⟩:=dx.keep (fun b hb=>k b (List.mem_append_left _ hb)) q;obtain⟨t1,ed⟩:=cz.keep (fun b hb=>k b (List.mem_append_right _ hb)) t;exact⟨by simp only[cz];exact⟨v,r,rfl,aM,t1⟩,by rw[ph,ph,a_,ed]⟩
end
mutual
theorem dx.some:∀{t:T}{v:V},dx K G H t v→∀b∈aY H t v,H b≠none
 |.aw _,_,_=>by intro b hb;simp[aY]at hb
 |.lst _,_,h=>by
  simp only[dx]at h;obtain⟨a,xs,rfl,q,r⟩:=h;rw[sv q];intro b hb;rcases List.mem_cons.mp hb with rfl|hb
  ·rw[q];exact fun z=>nomatch z
  ·exact cz.some r b hb
 |.cY _ _,_,h=>by
  simp only[dx]at h;obtain⟨a,xs,rfl,q,n,r⟩:=h;rw[sq q];intro b hb;rcases List.mem_cons.mp hb with rfl|hb
  ·rw[q];exact fun z=>nomatch z
  ·exact cz.some r b hb
 |.bI _ _,_,h=>by
  simp only[dx]at h;obtain⟨a,xs,rfl,q,n,r⟩:=h;rw[sr q];intro b hb;rcases List.mem_cons.mp hb with rfl|hb
  ·rw[q];exact fun z=>nomatch z
  ·exact cz.some r b hb
 |.ins _ _ _,_,h=>by
  simp only[dx]at h;obtain⟨a,aN,xs,rfl,⟨C,bu,q⟩,n,r⟩:=h;rw[su q];intro b hb;rcases List.mem_cons.mp hb with rfl|hb
  ·rw[q];exact fun z=>nomatch z
  ·exact cz.some r b hb
theorem cz.some:∀{bH:List T}{vs:List V},cz K G H bH vs→∀b∈fM H bH vs,H b≠none
 |[],_,_=>by intro b hb;simp[fM]at hb
 |_::_,_,h=>by
  simp only[cz]at h;obtain⟨v,r,rfl,q,t⟩:=h;rw[ph];intro b hb;rcases List.mem_append.mp hb with hb|hb
  ·exact dx.some q b hb
  ·exact cz.some t b hb
end
mutual
theorem dx.view(aX:Sub G P):∀{t:T}{v:V},(∀a∈aY H t v,P a=H a)→dx K G H t v→At K P (toD t) v
 |.aw _,_,_,h=>by simp only[dx,toD]at h ⊢;exact h.mono aX
 |.lst _,_,k,h=>by simp only[dx]at h;obtain⟨a,xs,rfl,q,r⟩:=h;rw[sv q]at k;simp only[toD,At];exact⟨a,xs,rfl,by rw[k a (by simp)];exact q,cz.view aX (fun b hb=>k b (List.mem_cons_of_mem _ hb)) r⟩
 |.cY _ _,_,k,h=>by simp only[dx]at h;obtain⟨a,xs,rfl,q,n,r⟩:=h;rw[sq q]at k;simp only[toD,At];exact⟨a,xs,rfl,by rw[k a (by simp)];exact q,n,cz.view aX (fun b hb=>k b (List.mem_cons_of_mem _ hb)) r⟩
 |.bI _ _,_,k,h=>by simp only[dx]at h;obtain⟨a,xs,rfl,q,n,r⟩:=h;rw[sr q]at k;simp only[toD,At];exact⟨a,xs,rfl,by rw[k a (by simp)];exact q,n,cz.view aX (fun b hb=>k b (List.mem_cons_of_mem _ hb)) r⟩
 |.ins _ _ _,_,k,h=>by simp only[dx]at h;obtain⟨a,aN,xs,rfl,⟨C,bu,q⟩,n,r⟩:=h;rw[su q]at k;simp only[toD,At];exact⟨a,aN,xs,rfl,⟨C,bu,by rw[k a (by simp)];exact q⟩,n,cz.view aX (fun b hb=>k b (List.mem_cons_of_mem _ hb)) r⟩
theorem cz.view(aX:Sub G P):∀{bH:List T}{vs:List V},(∀a∈fM H bH vs,P a=H a)→cz K G H bH vs→aI K P (ou bH) vs
 |[],_,_,h=>by simp only[cz,ou,aI]at h ⊢;exact h
 |_::_,_,k,h=>by simp only[cz]at h;obtain⟨v,r,rfl,q,t⟩:=h;rw[ph]at k;simp only[ou,aI];exact⟨v,r,rfl,dx.view aX (fun b hb=>k b (List.mem_append_left _ hb)) q,cz.view aX (fun b hb=>k b (List.mem_append_right _ hb)) t⟩
end
end
inductive kA where
 |lst (ds:List D)|bI (aD:List (List Key)) (ds:List D)|ins (c:Str) (ns:List Str) (ds:List D)
noncomputable def l_(K:PySem.W.Frag)(G:ag):kA→du→Prop
 |.lst ds,ho=>∃xs,ho=.lst xs∧aI K G ds xs
 |.bI aD ds,ho=>∃xs,ho=.bI xs∧xs.map (·.1)=aD∧aI K G ds (xs.map (·.2))
 |.ins c ns ds,ho=>∃C aN xs,eG K c C∧ho=.ins C aN xs∧xs.map (·.1)=ns∧aI K G ds (xs.map (·.2))
theorem l_.mono{K:PySem.W.Frag}{G H:ag}(s:Sub G H):∀{o:kA}{ho:du},l_ K G o ho→l_ K H o ho
 |.lst _,_,⟨xs,e,q⟩=>⟨xs,e,q.mono s⟩
 |.bI _ _,_,⟨xs,e,k,q⟩=>⟨xs,e,k,q.mono s⟩
 |.ins _ _ _,_,⟨C,aN,xs,c,e,k,q⟩=>⟨C,aN,xs,c,e,k,q.mono s⟩
def lN:kA→D
 |.lst ds=>.lst ds
 |.bI aD ds=>.bI aD ds
 |.ins c ns ds=>.ins c ns ds
theorem l_.at{K:PySem.W.Frag}{G:ag}{o:kA}{ho:du}{a:Addr}(h:l_ K G o ho)(e:G a=some ho):At K G (lN o) (.ref a):=by
 cases o with
 |lst ds=>obtain⟨xs,rfl,q⟩:=h;simp only[lN,At];exact⟨a,xs,rfl,e,q⟩
 |bI aD ds=>obtain⟨xs,rfl,k,q⟩:=h;simp only[lN,At];exact⟨a,xs,rfl,e,k,q⟩
 |ins c ns ds=>obtain⟨C,aN,xs,bu,rfl,k,q⟩:=h;simp only[lN,At];exact⟨a,aN,xs,rfl,⟨C,bu,e⟩,k,q⟩
inductive dc where
 |un|aw (d:D)|aV (o:kA)|eu (t:T)
abbrev dc.c6(ds:List D):dc:=.aV (.lst ds)
abbrev aj:=List dc
structure a4 where
 K:PySem.W.Frag
 bO:ag
 bg:ag
 gM:Str→ag→Prop
structure ef(F:a4)(G H:ag):Prop where
 sub:Sub G H
 e1:Sub F.bO G
 hh:Sub F.bg H
 new:∀b,F.bg b≠none→G b=F.bO b
structure uG(F:a4)(G H:ag)(t:T)(v:V):Prop where
 at_:dx F.K G H t v
 bj:(aY H t v).Nodup
 own:∀b∈aY H t v,G b=none∧F.bg b=none
noncomputable def ll(F:a4)(G H:ag)(o:Option V):dc→Prop
 |.un=>True
 |.aw d=>∃v,o=some v∧At F.K G d v
 |.aV aV=>∃a ho,o=some (.ref a)∧H a=some ho∧G a=none∧F.bg a=none∧l_ F.K G aV ho
 |.eu t=>∃v,o=some v∧uG F G H t v
noncomputable def fQ(H:ag):dc→Option V→Addr→Prop
 |.un,_,_=>False
 |.aw _,_,_=>False
 |.aV _,o,a=>o=some (.ref a)
 |.eu t,o,a=>∃v,o=some v∧a∈aY H t v
structure Rel(F:a4)(G H:ag)(σ :St)(ρ:aj):Prop where
 aH:ef F G H
 len: σ.length=ρ.length
 cw:∀(i:Nat)(s:dc),ρ[i]?=some s→∃o,σ[i]?=some o∧ll F G H o s
 o7:∀(i j:Nat)(a:Addr)(s s':dc)(o bz:Option V),ρ[i]?=some s→ρ[j]?=some s'→ σ[i]?=some o→ σ[j]?=some bz→fQ H s o a→fQ H s' bz a→i=j
noncomputable def dR(H:ag)(σ :St)(ρ:aj)(a:Addr):Prop:=∃(i:Nat)(s:dc)(o:Option V),ρ[i]?=some s∧ σ[i]?=some o∧fQ H s o a
theorem BJ{α:Type}{l:List α}{i:Nat}{x:α}(e:l[i]?=some x):l.set i x=l:=by
 apply List.ext_getElem?;intro j;rw[List.getElem?_set];by_cases h:i=j
 ·subst h;rw[if_pos rfl,if_pos (List.getElem?_eq_some_iff.mp e).1];exact e.symm
 ·simp[h]
section
variable{F:a4}{G G' H H':ag}{σ :St}{ρ:aj}
theorem dR.aV{a:Addr}{i:Nat}{o:kA}(ak:ρ[i]?=some (.aV o))(ay: σ[i]?=some (some (.ref a))):dR H σ ρ a:=⟨i,_,_,ak,ay,rfl⟩
theorem ll.keep{o:Option V}{s:dc}(h:ll F G H o s)(aX:Sub G G')(k:∀a,fQ H s o a→H' a=H a∧G' a=none):ll F G' H' o s∧(∀a,fQ H' s o a→fQ H s o a):=by
 cases s with
 |un=>exact⟨trivial,fun _ z=>z⟩
 |aw d=>obtain⟨v,ay,a⟩:=h;exact⟨⟨v,ay,a.mono aX⟩,fun _ z=>z⟩
 |aV ds=>obtain⟨a,xs,ay,h1,h2,h3,h4⟩:=h;exact⟨⟨a,xs,ay,by rw[(k a ay).1];exact h1,(k a ay).2,h3,h4.mono aX⟩,fun _ z=>z⟩
 |eu t=>
  obtain⟨v,ay,aM,a_,c_⟩:=h;obtain⟨jM,iu⟩:=aM.keep fun b hb=>(k b ⟨v,ay,hb⟩).1;refine⟨⟨v,ay,⟨jM.mono aX,by rw[iu];exact a_,fun b hb=>?_⟩⟩,fun a z=>?_⟩
  ·rw[iu]at hb;exact⟨(k b ⟨v,ay,hb⟩).2,(c_ b hb).2⟩
  ·obtain⟨u,b4,hb⟩:=z;rw[ay]at b4;cases b4;rw[iu]at hb;exact⟨v,ay,hb⟩
theorem ll.foot{o:Option V}{s:dc}(h:ll F G H o s){a:Addr}(f:fQ H s o a):H a≠none∧G a=none∧F.bg a=none:=by
 cases s with
 |un=>exact f.elim
 |aw d=>exact f.elim
 |aV ds=>obtain⟨b,xs,ay,h1,h2,h3,h4⟩:=h;have f:o=some (.ref a):=f;rw[ay]at f;cases f;exact⟨by rw[h1];exact(fun z=>nomatch z),h2,h3⟩
 |eu t=>obtain⟨v,ay,aM,a_,c_⟩:=h;obtain⟨u,b4,hb⟩:=f;rw[ay]at b4;cases b4;exact⟨aM.some a hb,c_ a hb⟩
theorem Rel.foot(r:Rel F G H σ ρ){a:Addr}(h:dR H σ ρ a):H a≠none∧G a=none∧F.bg a=none:=by obtain⟨i,s,o,ak,ay,f⟩:=h;obtain⟨bz,b4,q⟩:=r.cw i s ak;rw[ay]at b4;cases b4;exact q.foot f
theorem Rel.over{F':a4}(r:Rel F G H σ ρ)(hK:F'.K=F.K)(aH:ef F' G' H')(aX:Sub G G')(k:∀a,dR H σ ρ a→H' a=H a∧G' a=none∧F'.bg a=none):Rel F' G' H' σ ρ:=by
 have one:∀(i:Nat)(s:dc),ρ[i]?=some s→∃o,σ[i]?=some o∧ll F' G' H' o s∧(∀a,fQ H' s o a→fQ H s o a):=fun i s e=>by
  obtain⟨o,ak,q⟩:=r.cw i s e;obtain⟨aM,a_⟩:=q.keep aX fun a f=>⟨(k a ⟨i,s,o,e,ak,f⟩).1,(k a ⟨i,s,o,e,ak,f⟩).2.1⟩;refine⟨o,ak,?_,a_⟩;cases s with
  |un=>trivial
  |aw d=>obtain⟨v,ay,a⟩:=aM;exact⟨v,ay,by rw[hK];exact a⟩
  |aV ds=>obtain⟨a,xs,ay,h1,h2,h3,h4⟩:=aM;exact⟨a,xs,ay,h1,h2,(k a ⟨i,_,o,e,ak,ay⟩).2.2,by rw[hK];exact h4⟩
  |eu t=>obtain⟨v,ay,jM,iu,p4⟩:=aM;exact⟨v,ay,by rw[hK];exact jM,iu,fun b hb=>⟨(p4 b hb).1,(k b ⟨i,_,o,e,ak,a_ b ⟨v,ay,hb⟩⟩).2.2⟩⟩
 refine⟨aH,r.len,fun i s e=>let⟨o,ak,q,_⟩:=one i s e;⟨o,ak,q⟩,fun i j a s s' o bz ak ay b4 ep f1 f2=>?_⟩;obtain⟨u,a9,_,aZ⟩:=one i s ak;rw[b4]at a9;cases a9;obtain⟨u,l2,_,ud⟩:=one j s' ay;rw[ep]at l2;cases l2;exact r.o7 i j a s s' o bz ak ay b4 ep (aZ a f1) (ud a f2)
theorem Rel.grow(r:Rel F G H σ ρ)(aX:Sub G G')(WM:Sub G' H')(hh:Sub H H')(nw:∀b,H b≠none→G' b=G b):Rel F G' H' σ ρ:=by
 refine r.over rfl ⟨WM,r.aH.e1.trans aX,r.aH.hh.trans hh,fun b hb=>?_⟩ aX fun a ha=>?_
 ·rw[nw b (r.aH.hh.some hb)];exact r.aH.new b hb
 ·obtain⟨h1,h2,h3⟩:=r.foot ha;refine⟨?_,(nw a h1).trans h2,h3⟩;cases e:H a with
  |none=>exact absurd e h1
  |some o=>exact hh a o e
theorem Rel.lay(r:Rel F G H σ ρ){p:Addr}{o:du}(hp:H p=none):Rel F (upd G p o) (upd H p o) σ ρ:=by have Oq:G p=none:=r.aH.sub.gone hp;refine r.grow (Sub.upd Oq) (Sub.both r.aH.sub) (Sub.upd hp) fun b hb=>?_;rw[c2];intro e;subst e;exact hb hp
theorem Rel.lay0(r:Rel F G H σ ρ){p:Addr}{o:du}(hp:H p=none):Rel F G (upd H p o) σ ρ:=
 r.grow (Sub.refl _) (Sub.xr r.aH.sub (r.aH.sub.gone hp)) (Sub.upd hp) fun _ _=>rfl
theorem Rel.take(r:Rel F G H σ ρ){p:Addr}{o:du}(hp:H p=some o)(hg:G p=none)(h0:F.bg p=none)(no:¬dR H σ ρ p):Rel F (upd G p o) H σ ρ:=by
 refine r.over rfl ⟨Sub.at r.aH.sub hp,r.aH.e1.trans (Sub.upd hg),r.aH.hh,fun b hb=>?_⟩ (Sub.upd hg) fun a ha=>?_
 ·rw[c2]
  ·exact r.aH.new b hb
  ·intro e;subst e;exact hb h0
 ·obtain⟨h1,h2,h3⟩:=r.foot ha;exact⟨rfl,by rw[c2 (fun z=>no (by rw[←z];exact ha))];exact h2,h3⟩
theorem Rel.aw(r:Rel F G H σ ρ){i:Nat}{d:D}(e:ρ[i]?=some (.aw d)):∃v,σ[i]?=some (some v)∧At F.K G d v:=by obtain⟨o,ak,v,rfl,a⟩:=r.cw i _ e;exact⟨v,ak,a⟩
theorem Rel.obj(r:Rel F G H σ ρ){i:Nat}{o:kA}(e:ρ[i]?=some (.aV o)):∃a ho,σ[i]?=some (some (.ref a))∧H a=some ho∧G a=none∧F.bg a=none∧l_ F.K G o ho:=by obtain⟨v,ak,a,ho,rfl,h1,h2,h3,h4⟩:=r.cw i _ e;exact⟨a,ho,ak,h1,h2,h3,h4⟩
theorem Rel.own{G H:ag}{σ :St}{ρ:aj}(r:Rel F G H σ ρ){i:Nat}{ds:List D}(e:ρ[i]?=some (.c6 ds)):∃a xs,σ[i]?=some (some (.ref a))∧H a=some (.lst xs)∧G a=none∧F.bg a=none∧aI F.K G ds xs:=by obtain⟨a,ho,ak,h1,h2,h3,xs,rfl,h4⟩:=r.obj e;exact⟨a,xs,ak,h1,h2,h3,h4⟩
theorem get_set{α:Type}{l:List α}{i j:Nat}{x y:α}(e:(l.set i x)[j]?=some y):(i=j∧y=x)∨(i≠j∧l[j]?=some y):=by
 rw[List.getElem?_set]at e;by_cases h:i=j
 ·rw[if_pos h]at e
  split at e
  ·cases e;exact .inl ⟨h,rfl⟩
  ·cases e
 ·rw[if_neg h]at e;exact .inr ⟨h,e⟩
theorem Rel.rv(r:Rel F G H σ ρ){i:Nat}{s:dc}{o:Option V}(hi:i<ρ.length)(q:ll F G H o s)(no:∀a,fQ H s o a→∀(j:Nat)(s':dc)(bz:Option V),j≠i→ρ[j]?=some s'→ σ[j]?=some bz→¬fQ H s' bz a):Rel F G H (σ.set i o) (ρ.set i s):=by
 have hs:i< σ.length:=by rw[r.len];exact hi
 refine⟨r.aH,by simp[r.len],fun j s e=>?_,fun j k b s1 s2 cB b9 ak ay b4 ep f1 f2=>?_⟩
 ·rcases get_set e with⟨rfl,rfl⟩|⟨ne,e⟩
  ·exact⟨o,by simp[hs],q⟩
  ·rw[List.getElem?_set_ne ne];exact r.cw j s e
 ·rcases get_set ak with⟨bK,a9⟩|⟨c8,fs⟩
  ·subst bK a9;rw[List.getElem?_set_self hs]at b4;cases b4;rcases get_set ay with⟨bQ,aZ⟩|⟨c0,gJ⟩
   ·exact bQ
   ·rw[List.getElem?_set_ne c0]at ep;exact absurd f2 (no b f1 k s2 b9 (Ne.symm c0) gJ ep)
  ·rw[List.getElem?_set_ne c8]at b4;rcases get_set ay with⟨bQ,aZ⟩|⟨c0,gJ⟩
   ·subst bQ aZ;rw[List.getElem?_set_self hs]at ep;cases ep;exact absurd f1 (no b f2 j s1 cB (Ne.symm c8) fs b4)
   ·rw[List.getElem?_set_ne c0]at ep;exact r.o7 j k b s1 s2 cB b9 fs gJ b4 ep f1 f2
theorem Rel.set(r:Rel F G H σ ρ){i:Nat}{d:D}{v:V}(hi:i<ρ.length)(a:At F.K G d v):Rel F G H (σ.set i (some v)) (ρ.set i (.aw d)):=
 r.rv hi ⟨v,rfl,a⟩ fun _ f=>f.elim
theorem Rel.setB(r:Rel F G H σ ρ){i:Nat}{aV:kA}{a:Addr}{ho:du}(hi:i<ρ.length)(ha:H a=some ho)(hg:G a=none)(h0:F.bg a=none)(q:l_ F.K G aV ho)(no:∀(j:Nat)(s:dc)(o:Option V),j≠i→ρ[j]?=some s→ σ[j]?=some o→¬fQ H s o a):Rel F G H (σ.set i (some (.ref a))) (ρ.set i (.aV aV)):=
 r.rv hi ⟨a,ho,rfl,ha,hg,h0,q⟩ fun b f=>by have f:some (V.ref a)=some (.ref b):=f;cases f;exact no
theorem Rel.WI(r:Rel F G H σ ρ){i:Nat}{ds:List D}{a:Addr}{xs:List V}(hi:i<ρ.length)(ha:H a=some (.lst xs))(hg:G a=none)(h0:F.bg a=none)(q:aI F.K G ds xs)(no:∀(j:Nat)(s:dc)(o:Option V),j≠i→ρ[j]?=some s→ σ[j]?=some o→¬fQ H s o a):Rel F G H (σ.set i (some (.ref a))) (ρ.set i (.c6 ds)):=r.setB hi ha hg h0 ⟨xs,rfl,q⟩ no
theorem Rel.SJ(r:Rel F G H σ ρ){i:Nat}{s s':dc}{o:Option V}{a:Addr}{ho:du}(e:ρ[i]?=some s)(aq: σ[i]?=some o)(fz:fQ H s o a)(q:ll F G (upd H a ho) o s')(f:∀b,fQ (upd H a ho) s' o b→fQ H s o b∨¬dR H σ ρ b) :
  Rel F G (upd H a ho) σ (ρ.set i s'):=by
 have hi:i<ρ.length:=(List.getElem?_eq_some_iff.mp e).1;obtain⟨h1,h2,h3⟩:=r.foot ⟨i,s,o,e,aq,fz⟩;have wI:∀(j:Nat)(t:dc),i≠j→ρ[j]?=some t→∃u,σ[j]?=some u∧ll F G (upd H a ho) u t∧(∀b,fQ (upd H a ho) t u b→fQ H t u b):=fun j t ne z=>by obtain⟨u,a9,aZ⟩:=r.cw j t z;have na:¬fQ H t u a:=fun w=>ne (r.o7 i j a s t o u e z aq a9 fz w);obtain⟨aM,a_⟩:=aZ.keep (H':=upd H a ho) (Sub.refl G) fun b sm=>⟨c2 fun w=>na (w▸sm),(aZ.foot sm).2.1⟩;exact⟨u,a9,aM,a_⟩
 refine⟨⟨Sub.xr r.aH.sub h2,r.aH.e1,fun c u z=>?_,r.aH.new⟩,by simp[r.len],fun j t z=>?_,fun j k c s1 s2 cB b9 b4 ep gh js f1 f2=>?_⟩
 ·rw[c2 (iP z h3)];exact r.aH.hh c u z
 ·rcases get_set z with⟨rfl,rfl⟩|⟨ne,z⟩
  ·exact⟨o,aq,q⟩
  ·obtain⟨u,a9,aZ,_⟩:=wI j t ne z;exact⟨u,a9,aZ⟩
 ·rcases get_set b4 with⟨bK,a9⟩|⟨c8,p6⟩
  ·subst bK a9;rw[aq]at gh;cases gh;rcases get_set ep with⟨bQ,aZ⟩|⟨c0,ox⟩
   ·exact bQ
   ·obtain⟨u,fs,_,gJ⟩:=wI k s2 c0 ox;rw[js]at fs;cases fs;have g2:=gJ c f2;rcases f c f1 with g1|g1
    ·exact r.o7 i k c s s2 o b9 e ox aq js g1 g2
    ·exact absurd ⟨k,s2,b9,ox,js,g2⟩ g1
  ·obtain⟨u,fs,_,gJ⟩:=wI j s1 c8 p6;rw[gh]at fs;cases fs;have g1:=gJ c f1;rcases get_set ep with⟨bQ,aZ⟩|⟨c0,ox⟩
   ·subst bQ aZ;rw[aq]at js;cases js;rcases f c f2 with g2|g2
    ·exact r.o7 j i c s1 s cB o p6 e gh aq g1 g2
    ·exact absurd ⟨j,s1,cB,p6,gh,g1⟩ g2
   ·obtain⟨u,iw,_,jj⟩:=wI k s2 c0 ox;rw[js]at iw;cases iw;exact r.o7 j k c s1 s2 cB b9 p6 ox gh js g1 (jj c f2)
theorem Rel.Al(r:Rel F G H σ ρ){i:Nat}{o bz:kA}{a:Addr}{ho:du}(e:ρ[i]?=some (.aV o))(aq: σ[i]?=some (some (.ref a)))(q:l_ F.K G bz ho) :
  Rel F G (upd H a ho) σ (ρ.set i (.aV bz)):=by
 obtain⟨b,aag,ak,h1,h2,h3,h4⟩:=r.obj e;rw[aq]at ak;have a7:b=a:=by cases ak;rfl
 subst a7;exact r.SJ e aq rfl ⟨b,ho,rfl,d0,h2,h3,q⟩ fun c f=>.inl f
theorem Rel.mut(r:Rel F G H σ ρ){i:Nat}{ds o9:List D}{a:Addr}{ys:List V}(e:ρ[i]?=some (.c6 ds))(aq: σ[i]?=some (some (.ref a)))(q:aI F.K G o9 ys) :
  Rel F G (upd H a (.lst ys)) σ (ρ.set i (.c6 o9)):=r.Al e aq ⟨ys,rfl,q⟩
theorem Rel.ju(r:Rel F G H σ ρ){i:Nat}{o:kA}(e:ρ[i]?=some (.aV o)):∃G',Rel F G' H σ (ρ.set i (.aw (lN o)))∧Sub G G':=by
 have hi:i<ρ.length:=(List.getElem?_eq_some_iff.mp e).1;obtain⟨a,ho,ak,h1,h2,h3,h4⟩:=r.obj e;have un:Rel F G H σ (ρ.set i .un):=by have z:=r.rv (s:=.un) (o:=some (.ref a)) hi trivial fun _ f=>f.elim;rw[ax.BJ ak]at z;exact z
 have no:¬dR H σ (ρ.set i .un) a:=fun⟨j,s,u,fs,gJ,iw⟩=>by
  rcases get_set fs with⟨_,z⟩|⟨ne,fs⟩
  ·subst z;exact iw
  ·exact ne (r.o7 i j a _ s _ u e fs ak gJ rfl iw)
 have a5:=un.take h1 h2 h3 no;have dN:=a5.rv (i:=i) (s:=.aw (lN o)) (o:=some (.ref a)) (by simpa using hi) ⟨.ref a,rfl,(h4.mono (Sub.upd h2)).at d0⟩ fun _ f=>f.elim;rw[ax.BJ ak,List.set_set]at dN;exact⟨upd G a ho,dN,Sub.upd h2⟩
end
abbrev az:=aj→R D
abbrev bY:=aj→R Bool
abbrev aO:=aj→R (List D)
inductive e7 where
 |bk (ρ:aj)|dG (d:D)|hM (ds:List D)|ez (ρ:aj)|ck (ρ:aj)|dO (t:T)
abbrev a0:=aj→R e7
def jA(F:a4)(c:Str):Prop:=∀G' H',ef F G' H'→F.gM c H'
noncomputable def ie(F:a4)(G H:ag)(σ :St)(ρ:aj)(Q:cj):R D→Prop
 |.ok d=>∀v H' G',Rel F G' H' σ ρ→cc G H G' H'→At F.K G' d v→Q v H'
 |.exc c=>jA F c
 |.bad=>False
noncomputable def qX(F:a4)(G H:ag)(σ :St)(ρ:aj)(Q:Bool→ag→Prop):R Bool→Prop
 |.ok b=>∀H' G',Rel F G' H' σ ρ→cc G H G' H'→Q b H'
 |.exc c=>jA F c
 |.bad=>False
noncomputable def Q0(F:a4)(G H:ag)(σ :St)(ρ:aj)(Q:List V→ag→Prop):R (List D)→Prop
 |.ok ds=>∀vs H' G',Rel F G' H' σ ρ→cc G H G' H'→aI F.K G' ds vs→Q vs H'
 |.exc c=>jA F c
 |.bad=>False
noncomputable def Q6(F:a4)(G H:ag)(σ :St)(ρ:aj)(Q:cj):R (List D)→Prop
 |.ok ds=>∀a xs H' G',Rel F G' H' σ ρ→cc G H G' H'→H a=none→H' a=some (.lst xs)→G' a=none→aI F.K G' ds xs→Q (.ref a) H'
 |.exc c=>jA F c
 |.bad=>False
noncomputable def hG(F:a4)(G:ag)(cu:Ends):R e7→Prop
 |.ok (.bk bh)=>∀ σ' G' H',Rel F G' H' σ' bh→Sub G G'→cu.bk σ' H'
 |.ok (.ez bh)=>∀ σ' G' H',Rel F G' H' σ' bh→Sub G G'→cu.ez σ' H'
 |.ok (.ck bh)=>∀ σ' G' H',Rel F G' H' σ' bh→Sub G G'→cu.ck σ' H'
 |.ok (.dG d)=>∀v G' H',ef F G' H'→At F.K G' d v→cu.dG v H'
 |.ok (.hM ds)=>∀a xs G' H',ef F G' H'→G' a=none→F.bg a=none→H' a=some (.lst xs)→aI F.K G' ds xs→cu.dG (.ref a) H'
 |.ok (.dO t)=>∀v G' H',ef F G' H'→uG F G' H' t v→cu.dG v H'
 |.exc c=>jA F c
 |.bad=>False
def cC(F:a4)(m:az):TE:=fun σ H Q=>∃G ρ,Rel F G H σ ρ∧ie F G H σ ρ Q (m ρ)
def fA(F:a4)(m:bY):TT:=fun σ H Q=>∃G ρ,Rel F G H σ ρ∧qX F G H σ ρ Q (m ρ)
def ee(F:a4)(m:aO):eK:=fun σ H Q=>∃G ρ,Rel F G H σ ρ∧Q0 F G H σ ρ Q (m ρ)
def jL(F:a4)(m:aO):TE:=fun σ H Q=>∃G ρ,Rel F G H σ ρ∧Q6 F G H σ ρ Q (m ρ)
def fc(F:a4)(m:a0):eL:=fun cu σ H=>∃G ρ,Rel F G H σ ρ∧hG F G cu (m ρ)
section
variable{F:a4}{G aJ H H1:ag}{σ :St}{ρ:aj}
theorem ie.mono{Q:cj}(s:cc G H aJ H1):∀{r:R D},ie F G H σ ρ Q r→ie F aJ H1 σ ρ Q r
 |.ok _,h=>fun v H' G' r aX a=>h v H' G' r (s.trans aX) a
 |.exc _,h=>h
 |.bad,h=>h
theorem qX.mono{Q:Bool→ag→Prop}(s:cc G H aJ H1):∀{r:R Bool},qX F G H σ ρ Q r→qX F aJ H1 σ ρ Q r
 |.ok _,h=>fun H' G' r aX=>h H' G' r (s.trans aX)
 |.exc _,h=>h
 |.bad,h=>h
theorem hG.mono{cu:Ends}(s:Sub G aJ):∀{r:R e7},hG F G cu r→hG F aJ cu r
 |.ok (.bk _),h=>fun σ' G' H' r aX=>h σ' G' H' r (s.trans aX)
 |.ok (.ez _),h=>fun σ' G' H' r aX=>h σ' G' H' r (s.trans aX)
 |.ok (.ck _),h=>fun σ' G' H' r aX=>h σ' G' H' r (s.trans aX)
 |.ok (.dG _),h=>h
 |.ok (.hM _),h=>h
 |.ok (.dO _),h=>h
 |.exc _,h=>h
 |.bad,h=>h
end
abbrev en(t' t:TE):Prop:=∀ σ H Q,t' σ H Q→t σ H Q
abbrev l6(t' t:TT):Prop:=∀ σ H Q,t' σ H Q→t σ H Q
abbrev qk(t' t:eK):Prop:=∀ σ H Q,t' σ H Q→t σ H Q
abbrev g0(t' t:eL):Prop:=∀cu σ H,t' cu σ H→t cu σ H
def J(i:Nat):az:=fun ρ=>match ρ[i]? with
 |some (.aw d)=>.ok d
 |_=>.bad
def ai(d:D):az:=fun _=>.ok d
section
variable{F:a4}
theorem Qt(i:Nat):en (cC F (J i)) (B2 i):=by
 rintro σ H Q ⟨G,ρ,r,h⟩;unfold J at h;cases e:ρ[i]? with
 |none=>rw[e]at h;exact h.elim
 |some s=>
  rw[e]at h;cases s with
  |un=>exact h.elim
  |aV _=>exact h.elim
  |eu _=>exact h.elim
  |aw d=>obtain⟨v,ak,a⟩:=r.aw e;exact⟨v,ak,h v H G r (cc.refl _ _) a⟩
theorem sP{d:D}{v:V}(a:∀G,At F.K G d v):en (cC F (ai d)) (oo v):=by rintro σ H Q ⟨G,ρ,r,h⟩;exact h v H G r (cc.refl _ _) (a G)
def ao(f:D→D→R D)(a b:az):az:=fun ρ=>(a ρ).bind fun x=>(b ρ).bind fun y=>f x y
noncomputable def fE(F:a4)(r:eo)(f:D→D→R D):Prop:=∀ σ ρ G H x y aN fy Q,Rel F G H σ ρ→At F.K G aN x→At F.K G fy y→ie F G H σ ρ Q (f aN fy)→r x y H Q
theorem vQ{r:eo}{f:D→D→R D}{ma fm:az}(ho:fE F r f):en (cC F (ao f ma fm)) (tV r (cC F ma) (cC F fm)):=by
 rintro σ H Q ⟨G,ρ,r,h⟩;unfold ao at h;refine⟨G,ρ,r,?_⟩;cases aq:ma ρ with
 |bad=>rw[aq]at h;exact h.elim
 |exc c=>rw[aq]at h;exact h
 |ok aN=>
  rw[aq,R.bt]at h;intro x H1 aJ ar s1 bL;refine⟨aJ,ρ,ar,?_⟩;cases a7:fm ρ with
  |bad=>rw[a7]at h;exact h.elim
  |exc c=>rw[a7]at h;exact h
  |ok fy=>rw[a7,R.bt]at h;intro y aS cI a5 s2 cJ;exact ho σ ρ cI aS x y aN fy Q a5 (bL.mono s2.g) cJ (h.mono (s1.trans s2))
def cq(f:D→R D)(a:az):az:=fun ρ=>(a ρ).bind f
noncomputable def C4(F:a4)(r:V→ag→cj→Prop)(f:D→R D):Prop:=∀ σ ρ G H x aN Q,Rel F G H σ ρ→At F.K G aN x→ie F G H σ ρ Q (f aN)→r x H Q
theorem Qs{r:V→ag→cj→Prop}{f:D→R D}{ma:az}(ho:C4 F r f):en (cC F (cq f ma)) (JI r (cC F ma)):=by
 rintro σ H Q ⟨G,ρ,r,h⟩;unfold cq at h;refine⟨G,ρ,r,?_⟩;cases aq:ma ρ with
 |bad=>rw[aq]at h;exact h.elim
 |exc c=>rw[aq]at h;exact h
 |ok aN=>rw[aq,R.bt]at h;intro x H1 aJ ar s1 bL;exact ho σ ρ aJ H1 x aN Q ar bL (h.mono s1)
def av:aO:=fun _=>.ok []
def ae(a:az)(r:aO):aO:=fun ρ=>(a ρ).bind fun x=>(r ρ).bind fun xs=>.ok (x::xs)
theorem Gr:qk (ee F av) tU:=by rintro σ H Q ⟨G,ρ,r,h⟩;exact h [] H G r (cc.refl _ _) .nil
theorem PO{ma:az}{pR:aO}:qk (ee F (ae ma pR)) (tT (cC F ma) (ee F pR)):=by
 rintro σ H Q ⟨G,ρ,r,h⟩;unfold ae at h;refine⟨G,ρ,r,?_⟩;cases aq:ma ρ with
 |bad=>rw[aq]at h;exact h.elim
 |exc c=>rw[aq]at h;exact h
 |ok aN=>
  rw[aq,R.bt]at h;intro x H1 aJ ar s1 bL;refine⟨aJ,ρ,ar,?_⟩;cases a7:pR ρ with
  |bad=>rw[a7]at h;exact h.elim
  |exc c=>rw[a7]at h;exact h
  |ok fy=>rw[a7,R.bt]at h;intro y aS cI a5 s2 cJ;exact h (x::y) aS cI a5 (s1.trans s2) (.cons (bL.mono s2.g) cJ)
def cE(m:aO):az:=fun ρ=>(m ρ).bind fun xs=>if xs.length≤1000000 then .ok (.tup xs)else .bad
theorem Qp{m:aO}:en (cC F (cE m)) (B1 (ee F m)):=by
 rintro σ H Q ⟨G,ρ,r,h⟩;unfold cE at h;refine⟨G,ρ,r,?_⟩;cases aq:m ρ with
 |bad=>rw[aq]at h;exact h.elim
 |exc c=>rw[aq]at h;exact h
 |ok ds=>
  rw[aq,R.bt]at h;intro vs H1 aJ ar s1 a;by_cases hl:ds.length≤1000000
  ·rw[if_pos hl]at h;refine⟨by rw[←a.length];exact Nat.le_trans hl (by decide),fun p hp=>?_⟩;refine h (.ref p) _ _ (ar.lay hp) (s1.trans (cc.lay ar.aH.sub hp)) ?_;simp only[At];exact⟨p,vs,rfl,d0,a.mono (Sub.upd (ar.aH.sub.gone hp))⟩
  ·rw[if_neg hl]at h;exact h.elim
theorem dR.back{G H H':ag}{σ :St}{ρ:aj}(r:Rel F G H σ ρ)(s:Sub H H'){a:Addr}(h:dR H' σ ρ a):dR H σ ρ a:=by
 obtain⟨i,cw,o,ak,ay,f⟩:=h;refine⟨i,cw,o,ak,ay,?_⟩;obtain⟨bz,b4,q⟩:=r.cw i cw ak;rw[ay]at b4;cases b4;exact(q.keep (G':=G) (H':=H') (Sub.refl _) fun b sm=>⟨by
  cases e:H b with
  |none=>exact absurd e (q.foot sm).1
  |some u=>exact s b u e,(q.foot sm).2.1⟩).2 a f
theorem dR.fresh{G H H':ag}{σ :St}{ρ:aj}(r:Rel F G H σ ρ)(s:Sub H H'){a:Addr}(n:H a=none):¬dR H' σ ρ a:=fun h=>(r.foot (h.back r s)).1 n
def lim(xs:List D):R (List D):=if xs.length≤1000000 then .ok xs else .bad
def cT(m:aO):aO:=fun ρ=>(m ρ).bind lim
theorem P6{m:aO}:en (jL F (cT m)) (JA (ee F m)):=by
 rintro σ H Q ⟨G,ρ,r,h⟩;unfold cT lim at h;refine⟨G,ρ,r,?_⟩;cases aq:m ρ with
 |bad=>rw[aq]at h;exact h.elim
 |exc c=>rw[aq]at h;exact h
 |ok ds=>
  rw[aq,R.bt]at h;intro vs H1 aJ ar s1 a;by_cases hl:ds.length≤1000000
  ·rw[if_pos hl]at h;refine⟨by rw[←a.length];exact Nat.le_trans hl (by decide),fun p hp=>?_⟩;exact h p vs _ aJ (ar.lay0 hp) (s1.trans (cc.lay0 hp)) (s1.h.gone hp) d0 (ar.aH.sub.gone hp) a
  ·rw[if_neg hl]at h;exact h.elim
def b5(m:aO):az:=fun ρ=>(m ρ).bind fun xs=>.ok (.lst xs)
theorem PX{m:aO}:en (cC F (b5 m)) (jL F m):=by
 rintro σ H Q ⟨G,ρ,r,h⟩;unfold b5 at h;refine⟨G,ρ,r,?_⟩;cases aq:m ρ with
 |bad=>rw[aq]at h;exact h.elim
 |exc c=>rw[aq]at h;exact h
 |ok ds=>rw[aq,R.bt]at h;intro a xs H' G' a8 s' aE ha hg q;refine h (.ref a) H' _ (a8.take ha hg (r.aH.hh.gone aE) (dR.fresh r s'.h aE)) (s'.put aE hg) ?_;simp only[At];exact⟨a,xs,rfl,d0,q.mono (Sub.upd hg)⟩
def iZ:D→R Bool
 |.au b=>.ok b
 |_=>.bad
def bc(m:az):bY:=fun ρ=>(m ρ).bind iZ
theorem vP{m:az}:l6 (fA F (bc m)) (BU (cC F m)):=by
 rintro σ H Q ⟨G,ρ,r,h⟩;unfold bc at h;refine⟨G,ρ,r,?_⟩;cases aq:m ρ with
 |bad=>rw[aq]at h;exact h.elim
 |exc c=>rw[aq]at h;exact h
 |ok d=>
  rw[aq,R.bt]at h;intro x H1 aJ ar s1 bL
  cases d<;>first
   |(exact h.elim)
   |(simp only[At]at bL;exact⟨_,bL,h H1 aJ ar s1⟩)
theorem Gk{m:az}:l6 (fA F (bc m)) (B0 (cC F m)):=vP
def mE(a b:bY):bY:=fun ρ=>(a ρ).bind fun c=>if c=true then b ρ else .ok false
def fk(a b:bY):bY:=fun ρ=>(a ρ).bind fun c=>if c=true then .ok true else b ρ
def dT(a:bY):bY:=fun ρ=>(a ρ).bind fun c=>.ok (!c)
theorem PH{a b:bY}:l6 (fA F (mE a b)) (Jt (fA F a) (fA F b)):=by
 rintro σ H Q ⟨G,ρ,r,h⟩;unfold mE at h;refine⟨G,ρ,r,?_⟩;cases aq:a ρ with
 |bad=>rw[aq]at h;exact h.elim
 |exc c=>rw[aq]at h;exact h
 |ok c=>
  rw[aq,R.bt]at h;intro H1 aJ ar s1;cases c with
  |true=>exact⟨aJ,ρ,ar,qX.mono s1 h⟩
  |false=>exact h H1 aJ ar s1
theorem Qd{a b:bY}:l6 (fA F (fk a b)) (JE (fA F a) (fA F b)):=by
 rintro σ H Q ⟨G,ρ,r,h⟩;unfold fk at h;refine⟨G,ρ,r,?_⟩;cases aq:a ρ with
 |bad=>rw[aq]at h;exact h.elim
 |exc c=>rw[aq]at h;exact h
 |ok c=>
  rw[aq,R.bt]at h;intro H1 aJ ar s1;cases c with
  |true=>exact h H1 aJ ar s1
  |false=>exact⟨aJ,ρ,ar,qX.mono s1 h⟩
theorem Qa{a:bY}:l6 (fA F (dT a)) (JC (fA F a)):=by
 rintro σ H Q ⟨G,ρ,r,h⟩;unfold dT at h;refine⟨G,ρ,r,?_⟩;cases aq:a ρ with
 |bad=>rw[aq]at h;exact h.elim
 |exc c=>rw[aq]at h;exact h
 |ok c=>rw[aq,R.bt]at h;exact h
noncomputable def jC(a b:az):az:=fun ρ=>(a ρ).bind fun x=>(iZ x).bind fun c=>if c=true then b ρ else .ok (.au false)
noncomputable def ra(a b:az):az:=fun ρ=>(a ρ).bind fun x=>(iZ x).bind fun c=>if c=true then .ok (.au true)else b ρ
def q_(a:az):az:=fun ρ=>(a ρ).bind fun x=>(iZ x).bind fun c=>.ok (.au (!c))
theorem PI{a b:az}:en (cC F (jC a b)) (Ju (cC F a) (cC F b)):=by
 rintro σ H Q ⟨G,ρ,r,h⟩;unfold jC at h;refine⟨G,ρ,r,?_⟩;cases aq:a ρ with
 |bad=>rw[aq]at h;exact h.elim
 |exc c=>rw[aq]at h;exact h
 |ok d=>
  rw[aq,R.bt]at h;intro x H1 aJ ar s1 bL;cases d with
  |au c=>
   simp only[At]at bL;refine⟨c,bL,?_⟩;cases c with
   |true=>exact⟨aJ,ρ,ar,ie.mono s1 h⟩
   |false=>exact h _ H1 aJ ar s1 (by simp only[At])
  |_=>exact h.elim
theorem Qe{a b:az}:en (cC F (ra a b)) (JF (cC F a) (cC F b)):=by
 rintro σ H Q ⟨G,ρ,r,h⟩;unfold ra at h;refine⟨G,ρ,r,?_⟩;cases aq:a ρ with
 |bad=>rw[aq]at h;exact h.elim
 |exc c=>rw[aq]at h;exact h
 |ok d=>
  rw[aq,R.bt]at h;intro x H1 aJ ar s1 bL;cases d with
  |au c=>
   simp only[At]at bL;refine⟨c,bL,?_⟩;cases c with
   |false=>exact⟨aJ,ρ,ar,ie.mono s1 h⟩
   |true=>exact h _ H1 aJ ar s1 (by simp only[At])
  |_=>exact h.elim
theorem Qb{a:az}:en (cC F (q_ a)) (JD (cC F a)):=by
 rintro σ H Q ⟨G,ρ,r,h⟩;unfold q_ at h;refine⟨G,ρ,r,?_⟩;cases aq:a ρ with
 |bad=>rw[aq]at h;exact h.elim
 |exc c=>rw[aq]at h;exact h
 |ok d=>
  rw[aq,R.bt]at h;intro x H1 aJ ar s1 bL;cases d with
  |au c=>simp only[At]at bL;exact⟨c,bL,h _ H1 aJ ar s1 (by simp only[At])⟩
  |_=>exact h.elim
def pF(c:bY)(a b:az):az:=fun ρ=>(c ρ).bind fun k=>if k=true then a ρ else b ρ
theorem PZ{c:bY}{a b:az}:en (cC F (pF c a b)) (Jz (fA F c) (cC F a) (cC F b)):=by
 rintro σ H Q ⟨G,ρ,r,h⟩;unfold pF at h;refine⟨G,ρ,r,?_⟩;cases aq:c ρ with
 |bad=>rw[aq]at h;exact h.elim
 |exc c=>rw[aq]at h;exact h
 |ok k=>
  rw[aq,R.bt]at h;intro H1 aJ ar s1;cases k with
  |true=>exact⟨aJ,ρ,ar,ie.mono s1 h⟩
  |false=>exact⟨aJ,ρ,ar,ie.mono s1 h⟩
def cU:a0:=fun ρ=>.ok (.bk ρ)
def bf(a b:a0):a0:=fun ρ=>(a ρ).bind fun f=>match f with
 |.bk bh=>b bh
 |f=>.ok f
theorem P_:g0 (fc F cU) BY:=by rintro cu σ H ⟨G,ρ,r,h⟩;exact h σ G H r (Sub.refl _)
theorem Qj{a b:a0}:g0 (fc F (bf a b)) (BZ (fc F a) (fc F b)):=by
 rintro cu σ H ⟨G,ρ,r,h⟩;unfold bf at h;refine⟨G,ρ,r,?_⟩;cases aq:a ρ with
 |bad=>rw[aq]at h;exact h.elim
 |exc c=>rw[aq]at h;exact h
 |ok f=>
  rw[aq,R.bt]at h;cases f with
  |bk bh=>exact fun σ' G' H' a8 s'=>⟨G',bh,a8,hG.mono s' h⟩
  |dG d=>exact h
  |hM d=>exact h
  |ez d=>exact h
  |ck d=>exact h
  |dO d=>exact h
def mG(a:az):a0:=fun ρ=>(a ρ).bind fun _=>.ok (.bk ρ)
theorem PT{a:az}:g0 (fc F (mG a)) (BW (cC F a)):=by
 rintro cu σ H ⟨G,ρ,r,h⟩;unfold mG at h;refine⟨G,ρ,r,?_⟩;cases aq:a ρ with
 |bad=>rw[aq]at h;exact h.elim
 |exc c=>rw[aq]at h;exact h
 |ok d=>rw[aq,R.bt]at h;exact fun v H' G' a8 s' _=>h σ G' H' a8 s'.g
def b6(a:az):a0:=fun ρ=>(a ρ).bind fun d=>.ok (.dG d)
theorem Qg{a:az}:g0 (fc F (b6 a)) (xi (cC F a)):=by
 rintro cu σ H ⟨G,ρ,r,h⟩;unfold b6 at h;refine⟨G,ρ,r,?_⟩;cases aq:a ρ with
 |bad=>rw[aq]at h;exact h.elim
 |exc c=>rw[aq]at h;exact h
 |ok d=>rw[aq,R.bt]at h;exact fun v H' G' a8 s' a=>h v G' H' a8.aH a
def hH(a:aO):a0:=fun ρ=>(a ρ).bind fun d=>.ok (.hM d)
theorem Qh{a:aO}:g0 (fc F (hH a)) (xi (jL F a)):=by
 rintro cu σ H ⟨G,ρ,r,h⟩;unfold hH at h;refine⟨G,ρ,r,?_⟩;cases aq:a ρ with
 |bad=>rw[aq]at h;exact h.elim
 |exc c=>rw[aq]at h;exact h
 |ok d=>rw[aq,R.bt]at h;exact fun a xs H' G' a8 s' h1 h2 h3 h4=>h a xs G' H' a8.aH h3 (r.aH.hh.gone h1) h2 h4
def mI(i:Nat):aO:=fun ρ=>match ρ[i]? with
 |some (.aV (.lst d))=>.ok d
 |_=>.bad
theorem Qi(i:Nat):g0 (fc F (hH (mI i))) (xi (B2 i)):=by
 rintro cu σ H ⟨G,ρ,r,h⟩;unfold hH mI at h;cases e:ρ[i]? with
 |none=>rw[e]at h;exact h.elim
 |some s=>
  rw[e]at h;cases s with
  |un=>exact h.elim
  |aw _=>exact h.elim
  |eu _=>exact h.elim
  |aV o=>
   cases o with
   |lst ds=>obtain⟨a,xs,ak,h1,h2,h3,h4⟩:=r.own e;exact⟨.ref a,ak,h a xs G H r.aH h2 h3 h1 h4⟩
   |bI _ _=>exact h.elim
   |ins _ _ _=>exact h.elim
def cL(c:bY)(a b:a0):a0:=fun ρ=>(c ρ).bind fun k=>if k=true then a ρ else b ρ
theorem P0{c:bY}{a b:a0}:g0 (fc F (cL c a b)) (BX (fA F c) (fc F a) (fc F b)):=by
 rintro cu σ H ⟨G,ρ,r,h⟩;unfold cL at h;refine⟨G,ρ,r,?_⟩;cases aq:c ρ with
 |bad=>rw[aq]at h;exact h.elim
 |exc c=>rw[aq]at h;exact h
 |ok k=>
  rw[aq,R.bt]at h;intro H1 aJ ar s1;cases k with
  |true=>exact⟨aJ,ρ,ar,hG.mono s1.g h⟩
  |false=>exact⟨aJ,ρ,ar,hG.mono s1.g h⟩
def bN(i:Nat)(d:D)(ρ:aj):R aj:=if i<ρ.length then .ok (ρ.set i (.aw d))else .bad
def c3(i:Nat)(a:az):a0:=fun ρ=>(a ρ).bind fun d=>(bN i d ρ).bind fun bh=>.ok (.bk bh)
theorem Qk{i:Nat}{a:az}:g0 (fc F (c3 i a)) (om (cC F a) (jv i)):=by
 rintro cu σ H ⟨G,ρ,r,h⟩;unfold c3 bN at h;refine⟨G,ρ,r,?_⟩;cases aq:a ρ with
 |bad=>rw[aq]at h;exact h.elim
 |exc c=>rw[aq]at h;exact h
 |ok d=>
  rw[aq,R.bt]at h;intro v H1 aJ ar s1 bb;by_cases hi:i<ρ.length
  ·rw[if_pos hi]at h;exact h _ aJ H1 (ar.set hi bb) s1.g
  ·rw[if_neg hi]at h;exact h.elim
noncomputable def gq(i:Nat)(a:aO):a0:=fun ρ=>(a ρ).bind fun ds=>if i<ρ.length then .ok (.bk (ρ.set i (.c6 ds)))else .bad
theorem Gs{i:Nat}{a:aO}:g0 (fc F (gq i a)) (om (jL F a) (jv i)):=by
 rintro cu σ H ⟨G,ρ,r,h⟩;unfold gq at h;refine⟨G,ρ,r,?_⟩;cases aq:a ρ with
 |bad=>rw[aq]at h;exact h.elim
 |exc c=>rw[aq]at h;exact h
 |ok ds=>
  rw[aq,R.bt]at h;intro b xs H1 aJ ar s1 h1 h2 h3 h4;by_cases hi:i<ρ.length
  ·rw[if_pos hi]at h;exact h _ aJ H1 (ar.WI hi h2 h3 (r.aH.hh.gone h1) h4 fun j es o _ ak ay f=>dR.fresh r s1.h h1 ⟨j,es,o,ak,ay,f⟩) s1.g
  ·rw[if_neg hi]at h;exact h.elim
def kF(i:Nat)(ρ:aj):aj:=match ρ[i]? with
 |some (.aV o)=>ρ.set i (.aw (lN o))
 |_=>ρ
theorem Rel.kF{G H:ag}{σ :St}{ρ:aj}(r:Rel F G H σ ρ)(i:Nat):∃G',Rel F G' H σ (ax.kF i ρ)∧Sub G G':=by
 unfold ax.kF;cases e:ρ[i]? with
 |none=>exact⟨G,r,Sub.refl _⟩
 |some s=>
  cases s with
  |un=>exact⟨G,r,Sub.refl _⟩
  |aw _=>exact⟨G,r,Sub.refl _⟩
  |eu _=>exact⟨G,r,Sub.refl _⟩
  |aV o=>exact r.ju e
def Sn(i:Nat)(m:a0):a0:=fun ρ=>m (kF i ρ)
def gs:D→Bool
 |.non=>true|.au _=>true|.int _=>true|.str _=>true
 |_=>false
theorem At.IU{K:PySem.W.Frag}{G G':ag}{d:D}{v:V}(h:gs d=true)(a:At K G d v):At K G' d v:=by
 cases d<;>first
  |(simp only[At]at a ⊢;exact a)
  |(cases h)
def nC:dc→dc
 |.aV o=>.aw (lN o)
 |.eu t=>.aw (toD t)
 |s=>s
def ea(ρ:aj):aj:=ρ.map nC
open Classical in
noncomputable def j2(σ :St)(ρ:aj)(G H:ag):ag:=fun b=>if dR H σ ρ b then H b else G b
theorem zq{G H:ag}{σ :St}{ρ:aj}(r:Rel F G H σ ρ):Sub G (j2 σ ρ G H):=fun b o e=>by
 unfold j2
 split
 ·exact r.aH.sub b o e
 ·exact e
theorem sy{G H:ag}{σ :St}{ρ:aj}{b:Addr}(h:dR H σ ρ b):j2 σ ρ G H b=H b:=by unfold j2;rw[if_pos h]
theorem Og{H:ag}{ρ:aj}{i:Nat}{s:dc}(e:(ea ρ)[i]?=some s)(o:Option V)(a:Addr):¬fQ H s o a:=by
 unfold ea at e;rw[List.getElem?_map]at e;cases ay:ρ[i]? with
 |none=>rw[ay]at e;cases e
 |some t=>rw[ay]at e;have es:nC t=s:=Option.some.inj e;subst es;cases t<;>exact fun z=>z
theorem Rel.plus{G H:ag}{σ :St}{ρ:aj}(r:Rel F G H σ ρ):Rel F (j2 σ ρ G H) H σ (ea ρ):=by
 have aX:=zq r;refine⟨⟨fun b o e=>?_,r.aH.e1.trans aX,r.aH.hh,fun b hb=>?_⟩,by simp[ea,r.len],fun i s e=>?_,fun i j a s s' o bz ak _ _ _ f _=>absurd f (Og ak o a)⟩
 ·unfold j2 at e
  split at e
  ·exact e
  ·exact r.aH.sub b o e
 ·unfold j2
  split
  ·rename_i z;exact absurd (r.foot z).2.2 hb
  ·exact r.aH.new b hb
 ·unfold ea at e;rw[List.getElem?_map]at e;cases ak:ρ[i]? with
  |none=>rw[ak]at e;cases e
  |some t=>
   rw[ak]at e;have es:nC t=s:=Option.some.inj e;obtain⟨o,ay,q⟩:=r.cw i t ak;refine⟨o,ay,?_⟩;subst es;cases t with
   |un=>trivial
   |aw d=>obtain⟨v,b4,a⟩:=q;exact⟨v,b4,a.mono aX⟩
   |aV ds=>obtain⟨a,ho,b4,h1,h2,h3,h4⟩:=q;subst b4;exact⟨.ref a,rfl,(h4.mono aX).at (by rw[sy (.aV ak ay)];exact h1)⟩
   |eu t=>obtain⟨v,b4,q⟩:=q;exact⟨v,b4,q.at_.view aX fun a ha=>sy ⟨i,_,o,ak,ay,v,b4,ha⟩⟩
theorem Rel.back{G H G' H':ag}{σ :St}{ρ:aj}(r:Rel F G H σ ρ)(a8:Rel F G' H' σ (ea ρ))(s:Sub (j2 σ ρ G H) G'):Rel F G H' σ ρ:=
 r.over rfl ⟨(zq r).trans (s.trans a8.aH.sub),r.aH.e1,a8.aH.hh,r.aH.new⟩ (Sub.refl _) fun a ha=>by
   obtain⟨h1,h2,h3⟩:=r.foot ha;refine⟨?_,h2,h3⟩;cases e:H a with
   |none=>exact absurd e h1
   |some o=>exact a8.aH.sub _ _ (s _ _ (by rw[sy ha];exact e))
def tC(d:D):R D:=if gs d=true then .ok d else .bad
def nV(m:az):az:=fun ρ=>(m (ea ρ)).bind tC
theorem PJ{m:az}:en (cC F (nV m)) (cC F m):=by
 rintro σ H Q ⟨G,ρ,r,h⟩;refine⟨j2 σ ρ G H,ea ρ,r.plus,?_⟩;unfold nV tC at h;cases aq:m (ea ρ)with
 |bad=>rw[aq]at h;exact h.elim
 |exc c=>rw[aq]at h;exact h
 |ok d=>
  rw[aq,R.bt]at h;intro v H' G' a8 s' a;by_cases hd:gs d=true
  ·rw[if_pos hd]at h;exact h v H' G (r.back a8 s'.g) ⟨Sub.refl _,s'.h,fun _ _=>rfl⟩ (a.IU hd)
  ·rw[if_neg hd]at h;exact h.elim
def j8(m:bY):bY:=fun ρ=>m (ea ρ)
theorem PL{m:bY}:l6 (fA F (j8 m)) (fA F m):=by
 rintro σ H Q ⟨G,ρ,r,h⟩;refine⟨j2 σ ρ G H,ea ρ,r.plus,?_⟩;unfold j8 at h;cases aq:m (ea ρ)with
 |bad=>rw[aq]at h;exact h.elim
 |exc c=>rw[aq]at h;exact h
 |ok d=>rw[aq]at h;exact fun H' G' a8 s'=>h H' G (r.back a8 s'.g) ⟨Sub.refl _,s'.h,fun _ _=>rfl⟩
end
section
variable{F:a4}
structure lg(K:PySem.W.Frag)(bx:It)(ds:List D)(G:ag):Prop where
 go:∀(i:Nat)(H:ag),Sub G H→i<ds.length→bx.go i H
 jk:∀(i:Nat)(H:ag)(x:V)(H':ag),Sub G H→i<ds.length→bx.jk i H x H'→∃d,ds[i]?=some d∧
  ((H'=H∧At K G d x)∨∃p xs es,H p=none∧H'=upd H p (.tup xs)∧x=.ref p∧d=.tup es∧aI K G es xs)
 stop:∀(H:ag),Sub G H→bx.stop ds.length H
noncomputable def Q4(F:a4)(G H:ag)(σ :St)(ρ:aj)(Q:It→ag→Prop):R (List D)→Prop
 |.ok ds=>∀bx H' G',Rel F G' H' σ ρ→cc G H G' H'→lg F.K bx ds G'→Q bx H'
 |.exc c=>jA F c
 |.bad=>False
def kX(F:a4)(m:aO):TI:=fun σ H Q=>∃G ρ,Rel F G H σ ρ∧Q4 F G H σ ρ Q (m ρ)
abbrev oL(t' t:TI):Prop:=∀ σ H Q,t' σ H Q→t σ H Q
theorem lg.turn{bx:It}{ds:List D}{G aJ H H':ag}{σ :St}{ρ:aj}{i:Nat}{x:V}(t:lg F.K bx ds G)(r:Rel F aJ H σ ρ)(s:Sub G aJ)(hi:i<ds.length)(y:bx.jk i H x H') :
  ∃d G',ds[i]?=some d∧Rel F G' H' σ ρ∧cc aJ H G' H'∧At F.K G' d x:=by
 obtain⟨d,e,h⟩:=t.jk i H x H' (s.trans r.aH.sub) hi y;rcases h with⟨rfl,a⟩|⟨p,xs,es,hp,rfl,rfl,rfl,a⟩
 ·exact⟨d,aJ,e,r,cc.refl _ _,a.mono s⟩
 ·refine⟨_,_,e,r.lay hp,cc.lay r.aH.sub hp,?_⟩;simp only[At];exact⟨p,xs,rfl,d0,(a.mono s).mono (Sub.upd (r.aH.sub.gone hp))⟩
noncomputable def nc(F:a4)(g:hq)(set:D→aj→R aj):Prop:=∀ σ ρ G H v d Q bh,Rel F G H σ ρ→At F.K G d v→set d ρ=.ok bh→(∀ σ',Rel F G H σ' bh→Q σ' H)→g v σ H Q
theorem vw(i:Nat):nc F (jv i) (bN i):=by
 intro σ ρ G H v d Q bh r a e h;unfold bN at e;by_cases hi:i<ρ.length
 ·rw[if_pos hi]at e;cases e;exact h _ (r.set hi a)
 ·rw[if_neg hi]at e;cases e
noncomputable def g8:List (D→aj→R aj)→List D→aj→R aj
 |[],[],ρ=>.ok ρ
 |f::aP,d::ds,ρ=>(f d ρ).bind fun bh=>g8 aP ds bh
 |_,_,_=>.bad
noncomputable def rQ(F:a4)(g:lp)(set:List D→aj→R aj):Prop:=∀ σ ρ G H vs ds Q bh,Rel F G H σ ρ→aI F.K G ds vs→set ds ρ=.ok bh→(∀ σ',Rel F G H σ' bh→Q σ' H)→g vs σ H Q
theorem FF:rQ F vu (g8 []):=by
 intro σ ρ G H vs ds Q bh r a e h;cases ds with
 |nil=>simp only[aI]at a;cases e;exact⟨a,h σ r⟩
 |cons d ds=>cases e
theorem zr{g:hq}{mr:lp}{f:D→aj→R aj}{aP:List (D→aj→R aj)}(h1:nc F g f)(h2:rQ F mr (g8 aP)):rQ F (sx g mr) (g8 (f::aP)):=by
 intro σ ρ G H vs ds Q bh r a e h;cases ds with
 |nil=>cases e
 |cons d ds=>
  simp only[aI]at a;obtain⟨v,xt,rfl,bb,ml⟩:=a;simp only[g8]at e;cases ak:f d ρ with
  |bad=>rw[ak]at e;cases e
  |exc c=>rw[ak]at e;cases e
  |ok dQ=>rw[ak,R.bt]at e;refine⟨v,xt,rfl,h1 σ ρ G H v d _ dQ r bb ak fun σ1 ar=>?_⟩;exact h2 σ1 dQ G H xt ds Q bh ar ml e h
def g9(aP:List (D→aj→R aj)):D→aj→R aj
 |.tup ds,ρ=>g8 aP ds ρ
 |_,_=>.bad
theorem I3:∀{aP:List (D→aj→R aj)}{ds:List D}{ρ bh:aj},g8 aP ds ρ=.ok bh→ds.length=aP.length
 |[],[],_,_,_=>rfl
 |[],_::_,_,_,e=>by cases e
 |_::_,[],_,_,e=>by cases e
 |f::aP,d::ds,ρ,bh,e=>by
  simp only[g8]at e;cases ak:f d ρ with
  |bad=>rw[ak]at e;cases e
  |exc c=>rw[ak]at e;cases e
  |ok dQ=>rw[ak,R.bt]at e;simp[I3 e]
theorem FG{mr:lp}{aP:List (D→aj→R aj)}{n:Nat}(aE:n=aP.length)(h:rQ F mr (g8 aP)):nc F (vv F.K n mr) (g9 aP):=by
 intro σ ρ G H v d Q bh r a e k;cases d with
 |tup ds=>simp only[At]at a;obtain⟨p,xs,rfl,aK,al⟩:=a;refine⟨p,xs,rfl,cK.of (r.aH.sub _ _ aK),?_,h σ ρ G H xs ds Q bh r al e k⟩;rw[←al.length,aE];exact I3 e
 |_=>cases e
noncomputable def fT(set:D→aj→R aj)(body:a0):List D→aj→R e7
 |[],ρ=>.ok (.bk ρ)
 |d::ds,ρ=>(set d ρ).bind fun dQ=>(body dQ).bind fun f=>match f with
  |.bk ey=>fT set body ds ey
  |.ck ey=>fT set body ds ey
  |.ez ey=>.ok (.bk ey)
  |f=>.ok f
def eE(mi:aO)(set:D→aj→R aj)(body:a0):a0:=fun ρ=>(mi ρ).bind fun ds=>fT set body ds ρ
theorem PW{mi:aO}{set:D→aj→R aj}{body:a0}{g:hq}(hg:nc F g set)(hx:∀d ρ c,set d ρ≠.exc c):g0 (fc F (eE mi set body)) (Jy (kX F mi) g (fc F body)):=by
 rintro cu σ H ⟨G,ρ,r,h⟩;unfold eE at h;refine⟨G,ρ,r,?_⟩;cases aq:mi ρ with
 |bad=>rw[aq]at h;exact h.elim
 |exc c=>rw[aq]at h;exact h
 |ok ds=>
  rw[aq,R.bt]at h;intro bx H1 aJ ar s1 it;refine⟨fun i m σ2 aS=>m=ds.length-i∧i≤ds.length∧∃cI ey,Rel F cI aS σ2 ey∧Sub aJ cI∧hG F cI cu (fT set body (ds.drop i) ey),⟨ds.length,by simp,Nat.zero_le _,aJ,ρ,ar,Sub.refl _,hG.mono s1.g (by simpa using h)⟩,?_⟩;rintro i m σ2 aS ⟨rfl,hi,cI,ey,a5,s2,k2⟩;by_cases gF:i<ds.length
  ·refine .inr ⟨it.go i aS (s2.trans a5.aH.sub) gF,fun σ3 cQ=>∃f9 xM,Rel F f9 cQ σ3 xM∧Sub aJ f9∧hG F f9 cu (fT set body (ds.drop (i+1)) xM),fun σ3 cQ⟨f9,xM,dN,s3,k3⟩=>⟨ds.length-(i+1),by omega,rfl,gF,f9,xM,dN,s3,k3⟩,fun x cQ y=>?_⟩;obtain⟨d,f9,b4,dN,s3,fg⟩:=it.turn a5 s2 gF y;have dy:ds.drop i=d::ds.drop (i+1):=by
    rw[List.drop_eq_getElem_cons gF];have:=List.getElem?_eq_getElem gF;rw[b4]at this;rw[Option.some.inj this]
   rw[dy]at k2;simp only[fT]at k2;cases ep:set d ey with
   |bad=>rw[ep]at k2;exact k2.elim
   |exc c=>exact absurd ep (hx d ey c)
   |ok ix=>
    rw[ep,R.bt]at k2;refine hg σ2 ey f9 cQ x d _ ix dN fg ep fun σ5 ob=>⟨f9,ix,ob,?_⟩;have tJ:Sub cI f9:=s3.g;cases js:body ix with
    |bad=>rw[js]at k2;exact k2.elim
    |exc c=>rw[js]at k2;exact k2
    |ok f=>
     rw[js,R.bt]at k2;cases f with
     |bk m7=>exact fun σ7 kx fR gX c1=>⟨kx,m7,gX,s2.trans (tJ.trans c1),hG.mono (tJ.trans c1) k2⟩
     |ck m7=>exact fun σ7 kx fR gX c1=>⟨kx,m7,gX,s2.trans (tJ.trans c1),hG.mono (tJ.trans c1) k2⟩
     |ez m7=>exact fun σ7 kx fR gX c1=>k2 σ7 kx fR gX (tJ.trans c1)
     |dG d=>exact k2
     |hM ds=>exact k2
     |dO t=>exact k2
  ·have e:ds.drop i=[]:=List.drop_eq_nil_of_le (by omega);rw[e]at k2;have jt:i=ds.length:=by omega
   subst jt;exact .inl ⟨it.stop aS (s2.trans a5.aH.sub),k2 σ2 cI aS a5 (Sub.refl _)⟩
theorem w3(i:Nat):∀d ρ c,bN i d ρ≠.exc c:=fun d ρ c=>by
 unfold bN
 split<;>exact fun z=>nomatch z
theorem I4:∀{aP:List (D→aj→R aj)},(∀f∈aP,∀d ρ c,f d ρ≠.exc c)→∀ds ρ c,g8 aP ds ρ≠.exc c
 |[],_,[],_,_,e=>nomatch e
 |[],_,_::_,_,_,e=>nomatch e
 |_::_,_,[],_,_,e=>nomatch e
 |f::aP,h,d::ds,ρ,c,e=>by
  simp only[g8]at e;cases ak:f d ρ with
  |bad=>rw[ak]at e;cases e
  |exc c=>exact h f (by simp) d ρ c ak
  |ok dQ=>rw[ak,R.bt]at e;exact I4 (fun g hg=>h g (by simp[hg])) ds dQ c e
theorem I6{aP:List (D→aj→R aj)}(h:∀f∈aP,∀d ρ c,f d ρ≠.exc c):∀d ρ c,g9 aP d ρ≠.exc c:=fun d ρ c e=>by
 cases d<;>first
  |(exact I4 h _ _ _ e)
  |(cases e)
theorem GA{K:PySem.W.Frag}{G:ag}{a:Addr}{xs:List V}{ds:List D}(h:bU K G a xs)(q:aI K G ds xs):lg K (x1 K a) ds G where
 go:=fun i H s hi=>by obtain⟨v,e,_⟩:=q.get (List.getElem?_eq_getElem hi);exact⟨xs,v,bU.mono s h,e⟩
 jk:=fun i H x H' s hi y=>by obtain⟨rfl,y⟩:=y;obtain⟨d,e,a⟩:=q.vx (y xs (bU.mono s h));exact⟨d,e,.inl ⟨rfl,a⟩⟩
 stop:=fun H s=>⟨xs,bU.mono s h,by rw[←q.length];exact Nat.le_refl _⟩
theorem GB{K:PySem.W.Frag}{G:ag}{a:Addr}{xs:List V}{ds:List D}(h:cK K G a xs)(q:aI K G ds xs):lg K (x3 K a) ds G where
 go:=fun i H s hi=>by obtain⟨v,e,_⟩:=q.get (List.getElem?_eq_getElem hi);exact⟨xs,v,cK.mono s h,e⟩
 jk:=fun i H x H' s hi y=>by obtain⟨rfl,y⟩:=y;obtain⟨d,e,a⟩:=q.vx (y xs (cK.mono s h));exact⟨d,e,.inl ⟨rfl,a⟩⟩
 stop:=fun H s=>⟨xs,cK.mono s h,by rw[←q.length];exact Nat.le_refl _⟩
def fZ(lo:Int)(n:Nat):List D:=(List.range n).map fun(i:Nat)=>.int (lo+(i:Int))
theorem QQ{K:PySem.W.Frag}{G:ag}(lo:Int)(n:Nat):lg K (uy lo n) (fZ lo n) G where
 go:=fun i H s hi=>by
  have h:i<n:=by simpa[fZ]using hi
  exact h
 jk:=fun i H x H' s hi y=>by
  have h:i<n:=by simpa[fZ]using hi
  obtain⟨ak,ay⟩:=y;refine⟨.int (lo+(i:Int)),?_,.inl ⟨ak,?_⟩⟩
  ·unfold fZ;rw[List.getElem?_map,List.getElem?_range h];rfl
  ·simp only[At];exact ay
 stop:=fun H s=>by
  have h:n≤(fZ lo n).length:=by simp[fZ]
  exact h
def BG:D→R (List D)
 |.lst ds=>.ok ds
 |.cx ds=>.ok ds
 |_=>.bad
def B6:D→R (List D)
 |.tup ds=>.ok ds
 |.dk ds=>.ok ds
 |_=>.bad
def fX(m:az):aO:=fun ρ=>(m ρ).bind BG
theorem P4{m:az}:oL (kX F (fX m)) (Gf F.K (cC F m)):=by
 rintro σ H Q ⟨G,ρ,r,h⟩;unfold fX at h;refine⟨G,ρ,r,?_⟩;cases aq:m ρ with
 |bad=>rw[aq]at h;exact h.elim
 |exc c=>rw[aq]at h;exact h
 |ok d=>
  rw[aq,R.bt]at h;intro v H1 aJ ar s1 a;cases d with
  |lst ds=>simp only[At]at a;obtain⟨p,xs,e,aK,al⟩:=a;exact⟨p,e,⟨xs,bU.of (ar.aH.sub _ _ aK)⟩,h _ H1 aJ ar s1 (GA (bU.of aK) al)⟩
  |cx ds=>simp only[At]at a;obtain⟨p,xs,e,aK,al⟩:=a;exact⟨p,e,⟨xs,bU.mono ar.aH.sub aK⟩,h _ H1 aJ ar s1 (GA aK al)⟩
  |_=>exact h.elim
def pE(m:az):aO:=fun ρ=>(m ρ).bind B6
theorem Qr{m:az}:oL (kX F (pE m)) (Gi F.K (cC F m)):=by
 rintro σ H Q ⟨G,ρ,r,h⟩;unfold pE at h;refine⟨G,ρ,r,?_⟩;cases aq:m ρ with
 |bad=>rw[aq]at h;exact h.elim
 |exc c=>rw[aq]at h;exact h
 |ok d=>
  rw[aq,R.bt]at h;intro v H1 aJ ar s1 a;cases d with
  |tup ds=>simp only[At]at a;obtain⟨p,xs,e,aK,al⟩:=a;exact⟨p,e,⟨xs,cK.of (ar.aH.sub _ _ aK)⟩,h _ H1 aJ ar s1 (GB (cK.of aK) al)⟩
  |dk ds=>simp only[At]at a;obtain⟨p,xs,e,aK,al⟩:=a;exact⟨p,e,⟨xs,cK.mono ar.aH.sub aK⟩,h _ H1 aJ ar s1 (GB aK al)⟩
  |_=>exact h.elim
def mS:List D→R (List D)
 |[.int j]=>if-(2^62)≤j∧j<2^62 then .ok (fZ 0 j.toNat)else .bad
 |_=>.bad
theorem aI.ints1{K:PySem.W.Frag}{G:ag}{j:Int}{vs:List V}(a:aI K G [.int j] vs):vs=[.int j]:=by simp only[aI,At]at a;obtain⟨v,r,rfl,rfl,rfl⟩:=a;rfl
def fY(m:aO):aO:=fun ρ=>(m ρ).bind mS
theorem Qf{m:aO}:oL (kX F (fY m)) (Gg (ee F m)):=by
 rintro σ H Q ⟨G,ρ,r,h⟩;unfold fY at h;refine⟨G,ρ,r,?_⟩;cases aq:m ρ with
 |bad=>rw[aq]at h;exact h.elim
 |exc c=>rw[aq]at h;exact h
 |ok ds=>
  rw[aq,R.bt]at h;intro vs H1 aJ ar s1 a;unfold mS at h
  split at h
  ·rename_i j
   split at h
   ·rename_i cv;exact⟨j,a.ints1,cv.1,cv.2,h _ H1 aJ ar s1 (QQ 0 j.toNat)⟩
   ·exact h.elim
  ·exact h.elim
inductive bZ where
 |v (d:D)|o (ds:List D)|t (t:T)
noncomputable def Q2(F:a4)(Q:cj):R bZ→Prop
 |.ok (.v d)=>∀v G' H',ef F G' H'→At F.K G' d v→Q v H'
 |.ok (.o ds)=>∀a xs G' H',ef F G' H'→G' a=none→F.bg a=none→H' a=some (.lst xs)→aI F.K G' ds xs→Q (.ref a) H'
 |.ok (.t t)=>∀v G' H',ef F G' H'→uG F G' H' t v→Q v H'
 |.exc c=>jA F c
 |.bad=>False
noncomputable def oj(K:PySem.W.Frag)(n:Nat)(xe:cO→Str→ag→Prop)(mf:List D→R bZ):iE:=fun vs H Q E=>∃G ds,Sub G H∧aI K G ds vs∧ds.length=n∧Q2 ⟨K,G,H,xe E⟩ Q (mf ds)
theorem w5{K:PySem.W.Frag}{n:Nat}{xe:cO→Str→ag→Prop}{mf:List D→R bZ}:∀vs H Q E,oj K n xe mf vs H Q E→vs.length=n:=fun vs H Q E h=>by obtain⟨G,ds,_,a,l,_⟩:=h;rw[←a.length];exact l
noncomputable def outD:e7→R bZ
 |.bk _=>.ok (.v .non)
 |.dG d=>.ok (.v d)
 |.hM ds=>.ok (.o ds)
 |.dO t=>.ok (.t t)
 |_=>.bad
def hD(N:Nat)(ds:List D):aj:=ds.map .aw++List.replicate (N-ds.length) .un
def cS(N:Nat)(m:a0)(ds:List D):R bZ:=(m (hD N ds)).bind outD
def w6(N:Nat)(vs:List V):St:=vs.map some++List.replicate (N-vs.length) none
theorem Vs{K:PySem.W.Frag}{G H:ag}{gM:Str→ag→Prop}{N:Nat}{ds:List D}{vs:List V}(s:Sub G H)(a:aI K G ds vs):Rel ⟨K,G,H,gM⟩ G H (w6 N vs) (hD N ds):=by
 have hl:=a.length;refine⟨⟨s,Sub.refl _,Sub.refl _,fun _ _=>rfl⟩,by simp[w6,hD,hl],fun i t e=>?_,fun i j b es es' o bz ak ay _ _ f _=>?_⟩
 ·unfold hD at e;unfold w6;by_cases hi:i<ds.length
  ·rw[List.getElem?_append_left (by simpa using hi),List.getElem?_map,List.getElem?_eq_getElem hi]at e;obtain⟨v,ak,bb⟩:=a.get (List.getElem?_eq_getElem hi);rw[List.getElem?_append_left (by rw[List.length_map,←hl];exact hi),List.getElem?_map,ak];have lA:dc.aw ds[i]=t:=Option.some.inj e;subst lA;exact⟨some v,rfl,v,rfl,bb⟩
  ·rw[List.getElem?_append_right (by simpa using hi),List.getElem?_replicate]at e;rw[List.getElem?_append_right (by rw[List.length_map,←hl];omega),List.getElem?_replicate,List.length_map,←hl];rw[List.length_map]at e
   split at e
   ·rename_i hh;rw[if_pos hh];cases e;exact⟨none,rfl,trivial⟩
   ·cases e
 ·exfalso;unfold hD at ak;by_cases hi:i<ds.length
  ·rw[List.getElem?_append_left (by simpa using hi),List.getElem?_map,List.getElem?_eq_getElem hi]at ak;cases ak;exact f
  ·rw[List.getElem?_append_right (by simpa using hi),List.getElem?_replicate]at ak
   split at ak
   ·cases ak;exact f
   ·cases ak
theorem u5{K:PySem.W.Frag}{xe:cO→Str→ag→Prop}{n N:Nat}{m:a0}{vs:List V}{H:ag}{Q:cj}{E:cO}(h:oj K n xe (cS N m) vs H Q E) :
  ∃G,fc ⟨K,G,H,xe E⟩ m { bk:=fun _ H'=>Q .non H',dG:=Q } (w6 N vs) H:=by
 obtain⟨G,ds,s,a,l,k⟩:=h;refine⟨G,G,hD N ds,Vs s a,?_⟩;unfold cS at k;cases e:m (hD N ds)with
 |bad=>rw[e]at k;exact k.elim
 |exc c=>rw[e]at k;exact k
 |ok f=>
  rw[e,R.bt]at k;cases f with
  |bk ρ=>exact fun σ' G' H' r _=>k .non G' H' r.aH (by simp only[At])
  |dG d=>exact k
  |hM ds=>exact k
  |dO t=>exact k
  |ez ρ=>exact k.elim
  |ck ρ=>exact k.elim
theorem ef.of{G H G' H':ag}{σ :St}{ρ:aj}{gM:Str→ag→Prop}(r:Rel F G H σ ρ)(k:ef ⟨F.K,G,H,gM⟩ G' H'):Rel F G' H' σ ρ:=r.grow k.e1 k.sub k.hh fun b hb=>k.new b hb
def ji:bZ→R D
 |.v d=>.ok d
 |.o ds=>.ok (.lst ds)
 |.t t=>.ok (toD t)
def AL:bZ→R (List D)
 |.o ds=>.ok ds
 |_=>.bad
def lC(A:List Addr)(G H:ag):ag:=fun b=>if b∈A then H b else G b
theorem Rel.JN{G H bO bg:ag}{σ :St}{ρ:aj}(r:Rel F G H σ ρ){F':a4}{t:T}{v:V}(hK:F'.K=F.K)(q:uG F' G H t v)(u:cc bO bg G H)(n:∀b∈aY H t v,bg b=none∧F.bg b=none∧¬dR H σ ρ b) :
  Rel F (lC (aY H t v) G H) H σ ρ∧cc bO bg (lC (aY H t v) G H) H∧At F.K (lC (aY H t v) G H) (toD t) v:=by
 have aX:Sub G (lC (aY H t v) G H):=fun b o e=>by
  unfold lC;by_cases hb:b∈aY H t v
  ·rw[(q.own b hb).1]at e;cases e
  ·rw[if_neg hb];exact e
 refine⟨r.over rfl ⟨fun b o e=>?_,r.aH.e1.trans aX,r.aH.hh,fun b hb=>?_⟩ aX fun a ha=>?_,⟨u.g.trans aX,u.h,fun b hb=>?_⟩,?_⟩
 ·unfold lC at e
  split at e
  ·exact e
  ·exact r.aH.sub b o e
 ·unfold lC;rw[if_neg (fun z=>hb (n b z).2.1)];exact r.aH.new b hb
 ·obtain⟨h1,h2,h3⟩:=r.foot ha;refine⟨rfl,?_,h3⟩;unfold lC;rw[if_neg (fun z=>(n a z).2.2 ha)];exact h2
 ·unfold lC;rw[if_neg (fun z=>hb (n b z).1)];exact u.n b hb
 ·rw[←hK];exact q.at_.view aX fun a ha=>by unfold lC;rw[if_pos ha]
noncomputable def b8(n:Nat)(mf:List D→R bZ)(m:aO):az:=fun ρ=>(m ρ).bind fun ds=>if ds.length=n then(mf ds).bind ji else .bad
noncomputable def iL(n:Nat)(mf:List D→R bZ)(m:aO):aO:=fun ρ=>(m ρ).bind fun ds=>if ds.length=n then(mf ds).bind AL else .bad
theorem Gl{n:Nat}{mf:List D→R bZ}{m:aO}{xe:cO→Str→ag→Prop}{E:cO}(hx:F.gM=xe E):en (cC F (b8 n mf m)) (tS (oj F.K n xe mf) [] E (ee F m)):=by
 rintro σ H Q ⟨G,ρ,r,h⟩;unfold b8 at h;refine⟨G,ρ,r,?_⟩;cases aq:m ρ with
 |bad=>rw[aq]at h;exact h.elim
 |exc c=>rw[aq]at h;exact h
 |ok ds=>
  rw[aq,R.bt]at h;intro vs H1 aJ ar s1 a;by_cases aE:ds.length=n
  ·rw[if_pos aE]at h;rw[List.append_nil];refine⟨aJ,ds,ar.aH.sub,a,aE,?_⟩;cases e:mf ds with
   |bad=>rw[e]at h;exact h.elim
   |exc c=>rw[e]at h;intro G' H' k;have z:=h G' H' (ef.of ar k).aH;rw[hx]at z;exact z
   |ok t=>
    rw[e,R.bt]at h;cases t with
    |v d=>exact fun v G' H' k bb=>h v H' G' (ef.of ar k) (s1.trans ⟨k.e1,k.hh,k.new⟩) bb
    |o es=>intro p xs G' H' k h1 h2 h3 h4;have h2:H1 p=none:=h2;have a8:=ef.of ar k;have no:¬dR H' σ ρ p:=dR.fresh ar k.hh h2;refine h (.ref p) H' _ (a8.take h3 h1 (ar.aH.hh.gone h2) no) ((s1.trans ⟨k.e1,k.hh,k.new⟩).put (s1.h.gone h2) h1) ?_;simp only[At];exact⟨p,xs,rfl,d0,h4.mono (Sub.upd h1)⟩
    |t t=>intro v G' H' k q;obtain⟨a1,a2,fg⟩:=(ef.of ar k).JN (F':=⟨F.K,aJ,H1,xe E⟩) rfl q (s1.trans ⟨k.e1,k.hh,k.new⟩) fun b hb=>⟨s1.h.gone (q.own b hb).2,ar.aH.hh.gone (q.own b hb).2,dR.fresh ar k.hh (q.own b hb).2⟩;exact h v H' _ a1 a2 fg
  ·rw[if_neg aE]at h;exact h.elim
theorem PM{n:Nat}{mf:List D→R bZ}{m:aO}{xe:cO→Str→ag→Prop}{E:cO}(hx:F.gM=xe E):en (jL F (iL n mf m)) (tS (oj F.K n xe mf) [] E (ee F m)):=by
 rintro σ H Q ⟨G,ρ,r,h⟩;unfold iL at h;refine⟨G,ρ,r,?_⟩;cases aq:m ρ with
 |bad=>rw[aq]at h;exact h.elim
 |exc c=>rw[aq]at h;exact h
 |ok ds=>
  rw[aq,R.bt]at h;intro vs H1 aJ ar s1 a;by_cases aE:ds.length=n
  ·rw[if_pos aE]at h;rw[List.append_nil];refine⟨aJ,ds,ar.aH.sub,a,aE,?_⟩;cases e:mf ds with
   |bad=>rw[e]at h;exact h.elim
   |exc c=>rw[e]at h;intro G' H' k;have z:=h G' H' (ef.of ar k).aH;rw[hx]at z;exact z
   |ok t=>
    rw[e,R.bt]at h;cases t with
    |v d=>exact h.elim
    |t t=>exact h.elim
    |o es=>intro p xs G' H' k h1 h2 h3 h4;have h2:H1 p=none:=h2;have a8:=ef.of ar k;exact h p xs H' G' a8 (s1.trans ⟨k.e1,k.hh,k.new⟩) (s1.h.gone h2) h3 h1 h4
  ·rw[if_neg aE]at h;exact h.elim
abbrev rT:=aj→R T
noncomputable def Sq(i:Nat)(a:rT):a0:=fun ρ=>(a ρ).bind fun t=>if i<ρ.length then .ok (.bk (ρ.set i (.eu t)))else .bad
def So(a:rT):a0:=fun ρ=>(a ρ).bind fun t=>.ok (.dO t)
def Hg(i:Nat):rT:=fun ρ=>match ρ[i]? with
 |some (.eu t)=>.ok t
 |_=>.bad
end
end ax
namespace ax
open PySem PySem.Spec aQ
def gC:dc→dc
 |.aw d=>.aw d
 |_=>.un
def lq(nl:Nat)(caps:List Nat)(ρ:aj):aj:=List.replicate nl .un++caps.map fun j=>gC (ρ.getD j .un)
noncomputable def fL(set:D→aj→R aj)(tst:bY)(elt:az):List D→aj→List D→R (List D)
 |[],_,ws=>.ok ws
 |d::ds,ρ,ws=>(set d ρ).bind fun dQ=>(tst dQ).bind fun b=>if b=true then(elt dQ).bind fun y=>if ws.length<1000000 then fL set tst elt ds dQ (ws++[y])else .bad else fL set tst elt ds dQ ws
def eU{α:Type}:R α→R α
 |.exc _=>.bad
 |r=>r
noncomputable def dZ(nl:Nat)(caps:List Nat)(mi:aO)(set:D→aj→R aj)(tst:bY)(elt:az):aO:=fun ρ=>(mi ρ).bind fun ds=>eU (fL set tst elt ds (lq nl caps ρ) [])
def eB(K:PySem.W.Frag)(G H:ag):a4:=⟨K,G,H,fun _ _=>False⟩
def Co(K:PySem.W.Frag)(m:bY):TT:=fun σ H Q=>∃bO bg,fA (eB K bO bg) m σ H Q
def Cn(K:PySem.W.Frag)(m:az):TE:=fun σ H Q=>∃bO bg,cC (eB K bO bg) m σ H Q
def H5:dc→Bool
 |.un=>true|.aw _=>true
 |_=>false
theorem H6{H:ag}{s:dc}(h:H5 s=true)(o:Option V)(a:Addr):¬fQ H s o a:=by
 cases s<;>first
  |exact fun z=>z
  |cases h
def oP(ρ:aj):Prop:=∀(i:Nat)(s:dc),ρ[i]?=some s→H5 s=true
theorem Ht(nl:Nat)(caps:List Nat)(ρ:aj):oP (lq nl caps ρ):=fun i s ak=>by
 unfold lq at ak;by_cases hi:i<nl
 ·rw[List.getElem?_append_left (by simpa using hi),List.getElem?_replicate,if_pos hi]at ak;cases ak;rfl
 ·rw[List.getElem?_append_right (by simpa using hi),List.length_replicate,List.getElem?_map]at ak;cases i6:caps[i-nl]? with
  |none=>rw[i6]at ak;cases ak
  |some j=>rw[i6]at ak;have es:gC (ρ.getD j .un)=s:=Option.some.inj ak;subst es;cases hs:ρ.getD j .un<;>rfl
def Keeps(set:D→aj→R aj):Prop:=∀d ρ bh,set d ρ=.ok bh→oP ρ→oP bh
theorem w2(i:Nat):Keeps (bN i):=fun d ρ bh e n j ds z=>by
 unfold bN at e
 split at e
 ·cases e;rcases get_set z with⟨_,z⟩|⟨_,z⟩
  ·subst z;rfl
  ·exact n j ds z
 ·cases e
theorem I2:∀{aP:List (D→aj→R aj)},(∀f∈aP,Keeps f)→∀ds ρ bh,g8 aP ds ρ=.ok bh→oP ρ→oP bh
 |[],_,[],_,_,e,n=>by cases e;exact n
 |[],_,_::_,_,_,e,_=>by cases e
 |_::_,_,[],_,_,e,_=>by cases e
 |f::aP,h,d::ds,ρ,bh,e,n=>by
  simp only[g8]at e;cases ak:f d ρ with
  |bad=>rw[ak]at e;cases e
  |exc c=>rw[ak]at e;cases e
  |ok dQ=>rw[ak,R.bt]at e;exact I2 (fun g hg=>h g (by simp[hg])) ds dQ bh e (h f (by simp) d ρ dQ ak n)
theorem I5{aP:List (D→aj→R aj)}(h:∀f∈aP,Keeps f):Keeps (g9 aP):=fun d ρ bh e n=>by
 cases d<;>first
  |(exact I2 h _ _ _ e n)
  |(cases e)
section
variable{F:a4}
theorem Vr{G H:ag}{σ :St}{ρ:aj}(r:Rel F G H σ ρ){acc:Addr}(ha:H acc=none)(nl:Nat)(caps:List Nat) :
  Rel (eB F.K G H) G (upd H acc (.lst [])) (lr nl caps σ) (lq nl caps ρ):=by
 refine⟨⟨Sub.xr r.aH.sub (r.aH.sub.gone ha),Sub.refl _,Sub.upd ha,fun _ _=>rfl⟩,by simp[lr,lq],fun i s e=>?_,fun i j b s s' o bz ak _ _ _ f _=>?_⟩
 ·unfold lq at e;unfold lr;by_cases hi:i<nl
  ·rw[List.getElem?_append_left (by simpa using hi),List.getElem?_replicate,if_pos hi]at e;rw[List.getElem?_append_left (by simpa using hi),List.getElem?_replicate,if_pos hi];cases e;exact⟨none,rfl,trivial⟩
  ·rw[List.getElem?_append_right (by simpa using hi),List.length_replicate,List.getElem?_map]at e;rw[List.getElem?_append_right (by simpa using hi),List.length_replicate,List.getElem?_map];cases i6:caps[i-nl]? with
   |none=>rw[i6]at e;cases e
   |some j=>
    rw[i6]at e;refine⟨σ.getD j none,rfl,?_⟩;have es:gC (ρ.getD j .un)=s:=Option.some.inj e;subst es;cases cZ:ρ[j]? with
    |none=>
     have eg:ρ.getD j .un=.un:=by rw[List.getD_eq_getElem?_getD,cZ];rfl
     rw[eg];exact trivial
    |some t=>
     have eg:ρ.getD j .un=t:=by rw[List.getD_eq_getElem?_getD,cZ];rfl
     rw[eg];obtain⟨o,ak,q⟩:=r.cw j t cZ;cases t with
     |un=>exact trivial
     |aV ds=>exact trivial
     |eu t=>exact trivial
     |aw d=>obtain⟨v,ay,a⟩:=q;refine⟨v,?_,a⟩;rw[List.getD_eq_getElem?_getD,ak,ay];rfl
 ·exact absurd f (H6 (Ht nl caps ρ i s ak) o b)
theorem PN{nl:Nat}{caps:List Nat}{mi:aO}{set:D→aj→R aj}{tst:bY}{elt:az}{g:hq}(hg:∀G H,nc (eB F.K G H) g set)(hx:∀d ρ c,set d ρ≠.exc c)(hk:Keeps set) :
  en (jL F (dZ nl caps mi set tst elt)) (xd (kX F mi) g (Co F.K tst) (Cn F.K elt) nl caps):=by
 rintro σ H Q ⟨G,ρ,r,h⟩;unfold dZ at h;refine⟨G,ρ,r,?_⟩;cases aq:mi ρ with
 |bad=>rw[aq]at h;exact h.elim
 |exc c=>rw[aq]at h;exact h
 |ok ds=>
  rw[aq,R.bt]at h;intro bx H1 aJ ar t2 it acc ha;cases cZ:fL set tst elt ds (lq nl caps ρ) []with
  |bad=>rw[cZ]at h;exact h.elim
  |exc c=>rw[cZ]at h;exact h.elim
  |ok res=>
   rw[cZ]at h
   refine⟨fun i m σ2 aS=>m=ds.length-i∧i≤ds.length∧∃cI ey ys ws,Rel (eB F.K aJ H1) cI aS σ2 ey∧oP ey∧aS acc=some (.lst ys)∧cI acc=none∧aI F.K cI ws ys∧fL set tst elt (ds.drop i) ey ws=.ok res,
    ⟨ds.length,by simp,Nat.zero_le _,aJ,_,[],[],Vr ar ha nl caps,Ht _ _ _,d0,ar.aH.sub.gone ha,.nil,by simpa using cZ⟩,?_⟩
   rintro i m σ2 aS ⟨rfl,hi,cI,ey,ys,ws,a5,c0,h1,h2,h3,h4⟩;have aX:Sub aJ cI:=a5.aH.e1;by_cases gF:i<ds.length
   ·refine .inr ⟨it.go i aS (aX.trans a5.aH.sub) gF,fun x cQ y=>?_⟩;obtain⟨d,f9,b4,dN,lX,fg⟩:=lg.turn (F:=eB F.K aJ H1) it a5 aX gF y;have dy:ds.drop i=d::ds.drop (i+1):=by
     rw[List.drop_eq_getElem_cons gF];have:=List.getElem?_eq_getElem gF;rw[b4]at this;rw[Option.some.inj this]
    rw[dy]at h4;simp only[fL]at h4;cases ep:set d ey with
    |bad=>rw[ep]at h4;cases h4
    |exc c=>exact absurd ep (hx d ey c)
    |ok ix=>
     rw[ep,R.bt]at h4;refine hg aJ H1 σ2 ey f9 cQ x d _ ix dN fg ep fun σ5 ob=>⟨aJ,H1,f9,ix,ob,?_⟩;have tu:oP ix:=hk d ey ix ep c0;have C9:cQ acc=some (.lst ys):=lX.h _ _ h1;have g3:f9 acc=none:=by rw[lX.n acc (by rw[h1];exact fun z=>nomatch z)];exact h2
     cases gh:tst ix with
     |bad=>rw[gh]at h4;cases h4
     |exc c=>rw[gh]at h4;cases h4
     |ok b=>
      rw[gh,R.bt]at h4;intro qi uv AF B_;have yg:qi acc=some (.lst ys):=B_.h _ _ C9;have zo:uv acc=none:=by rw[B_.n acc (by rw[C9];exact fun z=>nomatch z)];exact g3
      have jY:aI F.K uv ws ys:=(h3.mono lX.g).mono B_.g;cases b with
      |false=>rw[if_neg Bool.false_ne_true]at h4;rw[if_neg Bool.false_ne_true];exact⟨_,by omega,rfl,gF,uv,ix,ys,ws,AF,tu,yg,zo,jY,h4⟩
      |true=>
       rw[if_pos rfl]at h4;rw[if_pos rfl];refine⟨aJ,H1,uv,ix,AF,?_⟩;cases sf:elt ix with
       |bad=>rw[sf]at h4;cases h4
       |exc c=>rw[sf]at h4;cases h4
       |ok y=>
        rw[sf,R.bt]at h4;intro CE xX xV oc u8 yf;have Lm:xX acc=some (.lst ys):=u8.h _ _ yg;have zp:xV acc=none:=by rw[u8.n acc (by rw[yg];exact fun z=>nomatch z)];exact zo
        by_cases hl:ws.length<1000000
        ·rw[if_pos hl]at h4;have Dd:aI F.K xV ws ys:=jY.mono u8.g;refine⟨ys,Lm,by rw[←Dd.length];exact Nat.lt_trans hl (by decide),_,by omega,rfl,gF,xV,ix,ys++[CE],ws++[y],?_,tu,d0,zp,Dd.snoc yf,h4⟩;have k0:(eB F.K aJ H1).bg acc=none:=ha;refine⟨⟨Sub.xr oc.aH.sub zp,oc.aH.e1,fun c o z=>?_,oc.aH.new⟩,oc.len,fun j t z=>?_,fun j k b s s' o bz fs _ _ _ f _=>absurd f (H6 (tu j s fs) o b)⟩
         ·rw[c2 (iP z k0)];exact oc.aH.hh c o z
         ·obtain⟨o,a9,aZ⟩:=oc.cw j t z;refine⟨o,a9,?_⟩;cases t with
          |un=>exact trivial
          |aw d=>exact aZ
          |aV es=>exact absurd (tu j _ z) (fun w=>nomatch w)
          |eu es=>exact absurd (tu j _ z) (fun w=>nomatch w)
        ·rw[if_neg hl]at h4;cases h4
   ·have e:ds.drop i=[]:=List.drop_eq_nil_of_le (by omega);rw[e]at h4;simp only[fL]at h4;cases h4;have jt:i=ds.length:=by omega
    subst jt;refine .inl ⟨it.stop aS (aX.trans a5.aH.sub),?_⟩;have k:ef ⟨F.K,aJ,H1,fun _ _=>False⟩ cI aS:=a5.aH;exact h acc ys aS cI (ef.of ar k) (t2.trans ⟨k.e1,k.hh,k.new⟩) (t2.h.gone ha) h1 h2 h3
end
mutual
noncomputable def bp:D→D→Bool
 |.non,.non=>true
 |.au a,.au b=>a==b
 |.au a,.int b=>(if a then 1 else 0)==b
 |.int a,.au b=>a==(if b then 1 else 0)
 |.int a,.int b=>a==b
 |.str a,.str b=>a==b
 |.tup xs,.tup ys=>dS xs ys
 |.tup xs,.dk ys=>dS xs ys
 |.dk xs,.tup ys=>dS xs ys
 |.dk xs,.dk ys=>dS xs ys
 |.lst xs,.lst ys=>dS xs ys
 |.lst xs,.cx ys=>dS xs ys
 |.cx xs,.lst ys=>dS xs ys
 |.cx xs,.cx ys=>dS xs ys
 |_,_=>false
noncomputable def dS:List D→List D→Bool
 |[],[]=>true
 |x::xs,y::ys=>bp x y&&dS xs ys
 |_,_=>false
end
noncomputable def okN:Nat→D→Bool
 |_,.non=>true
 |_,.au _=>true
 |_,.int _=>true
 |_,.str _=>true
 |n+1,.tup xs=>xs.all (okN n)
 |n+1,.dk xs=>xs.all (okN n)
 |n+1,.lst xs=>xs.all (okN n)
 |n+1,.cx xs=>xs.all (okN n)
 |_,_=>false
inductive jo(s:Shared)(P:D→Value→Prop):D→Value→Prop where
 |non:jo s P .non .none
 |au (b:Bool):jo s P (.au b) (.bool b)
 |int (i:Int) (t:Tok):jo s P (.int i) (.int i t)
 |str (x:Str) (t:Tok):jo s P (.str x) (.str x t)
 |tup (a:Addr) (ds:List D) (its:List Value) (h:s.heap.IsTuple a its.toArray) (l:ds.length=its.length) (p:∀(i:Nat) d u,ds[i]?=some d→its[i]?=some u→P d u):jo s P (.tup ds) (.ref a)
 |dk (a:Addr) (ds:List D) (its:List Value) (h:s.heap.IsTuple a its.toArray) (l:ds.length=its.length) (p:∀(i:Nat) d u,ds[i]?=some d→its[i]?=some u→P d u):jo s P (.dk ds) (.ref a)
 |lst (a:Addr) (ds:List D) (its:List Value) (h:s.heap.IsList a its.toArray) (l:ds.length=its.length) (p:∀(i:Nat) d u,ds[i]?=some d→its[i]?=some u→P d u):jo s P (.lst ds) (.ref a)
 |cx (a:Addr) (ds:List D) (its:List Value) (h:s.heap.IsList a its.toArray) (l:ds.length=its.length) (p:∀(i:Nat) d u,ds[i]?=some d→its[i]?=some u→P d u):jo s P (.cx ds) (.ref a)
def k9(K:PySem.W.Frag)(G:ag)(d:D)(u:Value):Prop:=∃x,At K G d x∧RelV x u
section
variable{X:aC}{pins:List (Addr×Obj)}{σ :St}{H G:ag}{s:Shared}
theorem qW{K:PySem.W.Frag}{ds:List D}{xs:List V}{its:List Value}(q:aI K G ds xs)(r:Vals xs its):∀(i:Nat) d u,ds[i]?=some d→its[i]?=some u→k9 K G d u:=fun i d u ak ay=>by obtain⟨v,b4,a⟩:=q.get ak;obtain⟨iq,ep,bV⟩:=r.get b4;rw[ay]at ep;cases ep;exact⟨v,a,bV⟩
theorem oi(I:Inv X pins σ H s)(aX:Sub G H){d:D}{u:Value}{n:Nat}(ok:okN n d=true)(h:k9 X.K G d u):jo s (k9 X.K G) d u:=by
 obtain⟨x,a,r⟩:=h;cases d with
 |non=>simp only[At]at a;subst a;cases r;exact .non
 |au b=>simp only[At]at a;subst a;cases r;exact .au b
 |int i=>simp only[At]at a;subst a;obtain⟨t,rfl⟩:=r;exact .int i t
 |str i=>simp only[At]at a;subst a;obtain⟨t,rfl⟩:=r;exact .str i t
 |tup ds=>simp only[At]at a;obtain⟨p,xs,rfl,aK,al⟩:=a;cases r;obtain⟨its,bV,ht,_⟩:=I.tuple (cK.of (aX _ _ aK));exact .tup p ds its ht (al.length.trans bV.length) (qW al bV)
 |lst ds=>simp only[At]at a;obtain⟨p,xs,rfl,aK,al⟩:=a;cases r;obtain⟨its,bV,ht,_⟩:=I.list (bU.of (aX _ _ aK));exact .lst p ds its ht.isList (al.length.trans bV.length) (qW al bV)
 |cx ds=>simp only[At]at a;obtain⟨p,xs,rfl,aK,al⟩:=a;cases r;obtain⟨its,bV,ht,_⟩:=I.list (bU.mono aX aK);exact .cx p ds its ht.isList (al.length.trans bV.length) (qW al bV)
 |cY aD xs=>cases n<;>cases ok
 |bI aD xs=>cases n<;>cases ok
 |ins C ns xs=>cases n<;>cases ok
 |i8 C=>cases n<;>cases ok
 |dk ds=>simp only[At]at a;obtain⟨p,xs,rfl,aK,al⟩:=a;cases r;obtain⟨its,bV,ht,_⟩:=I.tuple (cK.mono aX aK);exact .dk p ds its ht (al.length.trans bV.length) (qW al bV)
theorem za:∀{xs ys:List D},xs.length≠ys.length→dS xs ys=false
 |[],[],h=>absurd rfl h
 |[],_::_,_=>by simp only[dS]
 |_::_,[],_=>by simp only[dS]
 |x::xs,y::ys,h=>by simp only[dS];rw[za (fun e=>h (by simp[e])),Bool.and_false]
def kK(xs ys:List D)(j:Nat):Bool:=match xs[j]?,ys[j]? with
 |some x,some y=>bp x y
 |_,_=>true
theorem Lu(f:Nat→Bool)(n:Nat):(List.range (n+1)).all f=(f 0&&(List.range n).all fun j=>f (j+1)):=by rw[List.range_succ_eq_map,List.all_cons,List.all_map];rfl
theorem zb:∀{xs ys:List D},xs.length=ys.length→(List.range xs.length).all (kK xs ys)=dS xs ys
 |[],[],_=>by simp[dS]
 |[],_::_,h=>by simp at h
 |_::_,[],h=>by simp at h
 |x::xs,y::ys,h=>by
  rw[List.length_cons,Lu];have e:(fun j=>kK (x::xs) (y::ys) (j+1))=kK xs ys:=by
   funext j
   simp[kK]
  rw[e,zb (by simpa using h)];simp only[dS];rfl
theorem in1_units(A:Around):A.in1.units=A.units+1:=rfl
theorem IV{A:Around}{P:D→Value→Prop}{d1 cn:D}{u v:Value}(h1:jo s P d1 u)(h2:jo s P cn v)(cB:gs d1=true)(b9:gs cn=true) :
  SeqAt.EqAt A s u v (bp d1 cn)∧SeqAt.RcAt A s u v (bp d1 cn)∧SeqAt.RcNeAt A s u v (!bp d1 cn):=by
 cases h1 with
 |non=>
  cases h2 with
  |non=>simp only[bp];exact⟨SeqAt.EqAt.same _,SeqAt.RcAt.none_none,SeqAt.RcNeAt.none_none⟩
  |au dj=>simp only[bp];exact⟨SeqAt.EqAt.none_bool _,SeqAt.RcAt.none_bool _,SeqAt.RcNeAt.none_bool _⟩
  |int bQ ed=>simp only[bp];exact⟨SeqAt.EqAt.none_int _ _,SeqAt.RcAt.none_int _ _,SeqAt.RcNeAt.none_int _ _⟩
  |str f5 ed=>simp only[bp];exact⟨SeqAt.EqAt.none_str _ _,SeqAt.RcAt.none_str _ _,SeqAt.RcNeAt.none_str _ _⟩
  |tup=>cases b9
  |dk=>cases b9
  |lst=>cases b9
  |cx=>cases b9
 |au ei=>
  cases h2 with
  |non=>simp only[bp];exact⟨SeqAt.EqAt.bool_none _,SeqAt.RcAt.bool_none _,SeqAt.RcNeAt.bool_none _⟩
  |au dj=>simp only[bp];exact⟨SeqAt.EqAt.bool_bool _ _,SeqAt.RcAt.bool_bool _ _,SeqAt.RcNeAt.bool_bool _ _⟩
  |int bQ ed=>simp only[bp];exact⟨SeqAt.EqAt.bool_int _ _ _,SeqAt.RcAt.bool_int _ _ _,SeqAt.RcNeAt.bool_int _ _ _⟩
  |str f5 ed=>simp only[bp];exact⟨SeqAt.EqAt.bool_str _ _ _,SeqAt.RcAt.bool_str _ _ _,SeqAt.RcNeAt.bool_str _ _ _⟩
  |tup=>cases b9
  |dk=>cases b9
  |lst=>cases b9
  |cx=>cases b9
 |int bK t1=>
  cases h2 with
  |non=>simp only[bp];exact⟨SeqAt.EqAt.int_none _ _,SeqAt.RcAt.int_none _ _,SeqAt.RcNeAt.int_none _ _⟩
  |au dj=>simp only[bp];exact⟨SeqAt.EqAt.int_bool _ _ _,SeqAt.RcAt.int_bool _ _ _,SeqAt.RcNeAt.int_bool _ _ _⟩
  |int bQ ed=>simp only[bp];exact⟨SeqAt.EqAt.int_int _ _ _ _,SeqAt.RcAt.int_int _ _ _ _,SeqAt.RcNeAt.int_int _ _ _ _⟩
  |str f5 ed=>simp only[bp];exact⟨SeqAt.EqAt.int_str _ _ _ _,SeqAt.RcAt.int_str _ _ _ _,SeqAt.RcNeAt.int_str _ _ _ _⟩
  |tup=>cases b9
  |dk=>cases b9
  |lst=>cases b9
  |cx=>cases b9
 |str fB t1=>
  cases h2 with
  |non=>simp only[bp];exact⟨SeqAt.EqAt.str_none _ _,SeqAt.RcAt.str_none _ _,SeqAt.RcNeAt.str_none _ _⟩
  |au dj=>simp only[bp];exact⟨SeqAt.EqAt.str_bool _ _ _,SeqAt.RcAt.str_bool _ _ _,SeqAt.RcNeAt.str_bool _ _ _⟩
  |int bQ ed=>simp only[bp];exact⟨SeqAt.EqAt.str_int _ _ _ _,SeqAt.RcAt.str_int _ _ _ _,SeqAt.RcNeAt.str_int _ _ _ _⟩
  |str f5 ed=>simp only[bp];exact⟨SeqAt.EqAt.str_str _ _ _ _,SeqAt.RcAt.str_str _ _ _ _,SeqAt.RcNeAt.str_str _ _ _ _⟩
  |tup=>cases b9
  |dk=>cases b9
  |lst=>cases b9
  |cx=>cases b9
 |tup=>cases cB
 |dk=>cases cB
 |lst=>cases cB
 |cx=>cases cB
theorem Hl{A:Around}{P:D→Value→Prop}{d1 cn:D}{u v:Value}(hu:A.units<cLine)(h1:jo s P d1 u)(h2:jo s P cn v)(o:gs d1=true∧gs cn=false∨gs d1=false∧gs cn=true) :
  SeqAt.EqAt A s u v (bp d1 cn)∧SeqAt.RcAt A s u v (bp d1 cn)∧SeqAt.RcNeAt A s u v (!bp d1 cn):=by
 cases h1 with
 |non=>
  cases h2 with
  |non=>rcases o with⟨a9,aZ⟩|⟨a9,aZ⟩<;>first|(cases a9;done)|(cases aZ;done)
  |au=>rcases o with⟨a9,aZ⟩|⟨a9,aZ⟩<;>first|(cases a9;done)|(cases aZ;done)
  |int=>rcases o with⟨a9,aZ⟩|⟨a9,aZ⟩<;>first|(cases a9;done)|(cases aZ;done)
  |str=>rcases o with⟨a9,aZ⟩|⟨a9,aZ⟩<;>first|(cases a9;done)|(cases aZ;done)
  |tup a2 dY et cp cf bR=>simp only[bp,Bool.not_false];exact⟨SeqAt.EqAt.none_tuple cp hu,SeqAt.RcAt.none_tuple cp hu,SeqAt.RcNeAt.none_tuple cp hu⟩
  |dk a2 dY et cp cf bR=>simp only[bp,Bool.not_false];exact⟨SeqAt.EqAt.none_tuple cp hu,SeqAt.RcAt.none_tuple cp hu,SeqAt.RcNeAt.none_tuple cp hu⟩
  |lst a2 dY et cp cf bR=>simp only[bp,Bool.not_false];exact⟨SeqAt.EqAt.none_list cp hu,SeqAt.RcAt.none_list cp hu,SeqAt.RcNeAt.none_list cp hu⟩
  |cx a2 dY et cp cf bR=>simp only[bp,Bool.not_false];exact⟨SeqAt.EqAt.none_list cp hu,SeqAt.RcAt.none_list cp hu,SeqAt.RcNeAt.none_list cp hu⟩
 |au ei=>
  cases h2 with
  |non=>rcases o with⟨a9,aZ⟩|⟨a9,aZ⟩<;>first|(cases a9;done)|(cases aZ;done)
  |au=>rcases o with⟨a9,aZ⟩|⟨a9,aZ⟩<;>first|(cases a9;done)|(cases aZ;done)
  |int=>rcases o with⟨a9,aZ⟩|⟨a9,aZ⟩<;>first|(cases a9;done)|(cases aZ;done)
  |str=>rcases o with⟨a9,aZ⟩|⟨a9,aZ⟩<;>first|(cases a9;done)|(cases aZ;done)
  |tup a2 dY et cp cf bR=>simp only[bp,Bool.not_false];exact⟨SeqAt.EqAt.bool_tuple _ cp hu,SeqAt.RcAt.bool_tuple _ cp hu,SeqAt.RcNeAt.bool_tuple _ cp hu⟩
  |dk a2 dY et cp cf bR=>simp only[bp,Bool.not_false];exact⟨SeqAt.EqAt.bool_tuple _ cp hu,SeqAt.RcAt.bool_tuple _ cp hu,SeqAt.RcNeAt.bool_tuple _ cp hu⟩
  |lst a2 dY et cp cf bR=>simp only[bp,Bool.not_false];exact⟨SeqAt.EqAt.bool_list _ cp hu,SeqAt.RcAt.bool_list _ cp hu,SeqAt.RcNeAt.bool_list _ cp hu⟩
  |cx a2 dY et cp cf bR=>simp only[bp,Bool.not_false];exact⟨SeqAt.EqAt.bool_list _ cp hu,SeqAt.RcAt.bool_list _ cp hu,SeqAt.RcNeAt.bool_list _ cp hu⟩
 |int bK t1=>
  cases h2 with
  |non=>rcases o with⟨a9,aZ⟩|⟨a9,aZ⟩<;>first|(cases a9;done)|(cases aZ;done)
  |au=>rcases o with⟨a9,aZ⟩|⟨a9,aZ⟩<;>first|(cases a9;done)|(cases aZ;done)
  |int=>rcases o with⟨a9,aZ⟩|⟨a9,aZ⟩<;>first|(cases a9;done)|(cases aZ;done)
  |str=>rcases o with⟨a9,aZ⟩|⟨a9,aZ⟩<;>first|(cases a9;done)|(cases aZ;done)
  |tup a2 dY et cp cf bR=>simp only[bp,Bool.not_false];exact⟨SeqAt.EqAt.int_tuple _ _ cp hu,SeqAt.RcAt.int_tuple _ _ cp hu,SeqAt.RcNeAt.int_tuple _ _ cp hu⟩
  |dk a2 dY et cp cf bR=>simp only[bp,Bool.not_false];exact⟨SeqAt.EqAt.int_tuple _ _ cp hu,SeqAt.RcAt.int_tuple _ _ cp hu,SeqAt.RcNeAt.int_tuple _ _ cp hu⟩
  |lst a2 dY et cp cf bR=>simp only[bp,Bool.not_false];exact⟨SeqAt.EqAt.int_list _ _ cp hu,SeqAt.RcAt.int_list _ _ cp hu,SeqAt.RcNeAt.int_list _ _ cp hu⟩
  |cx a2 dY et cp cf bR=>simp only[bp,Bool.not_false];exact⟨SeqAt.EqAt.int_list _ _ cp hu,SeqAt.RcAt.int_list _ _ cp hu,SeqAt.RcNeAt.int_list _ _ cp hu⟩
 |str fB t1=>
  cases h2 with
  |non=>rcases o with⟨a9,aZ⟩|⟨a9,aZ⟩<;>first|(cases a9;done)|(cases aZ;done)
  |au=>rcases o with⟨a9,aZ⟩|⟨a9,aZ⟩<;>first|(cases a9;done)|(cases aZ;done)
  |int=>rcases o with⟨a9,aZ⟩|⟨a9,aZ⟩<;>first|(cases a9;done)|(cases aZ;done)
  |str=>rcases o with⟨a9,aZ⟩|⟨a9,aZ⟩<;>first|(cases a9;done)|(cases aZ;done)
  |tup a2 dY et cp cf bR=>simp only[bp,Bool.not_false];exact⟨SeqAt.EqAt.str_tuple _ _ cp hu,SeqAt.RcAt.str_tuple _ _ cp hu,SeqAt.RcNeAt.str_tuple _ _ cp hu⟩
  |dk a2 dY et cp cf bR=>simp only[bp,Bool.not_false];exact⟨SeqAt.EqAt.str_tuple _ _ cp hu,SeqAt.RcAt.str_tuple _ _ cp hu,SeqAt.RcNeAt.str_tuple _ _ cp hu⟩
  |lst a2 dY et cp cf bR=>simp only[bp,Bool.not_false];exact⟨SeqAt.EqAt.str_list _ _ cp hu,SeqAt.RcAt.str_list _ _ cp hu,SeqAt.RcNeAt.str_list _ _ cp hu⟩
  |cx a2 dY et cp cf bR=>simp only[bp,Bool.not_false];exact⟨SeqAt.EqAt.str_list _ _ cp hu,SeqAt.RcAt.str_list _ _ cp hu,SeqAt.RcNeAt.str_list _ _ cp hu⟩
 |tup a1 fi j7 cA dA fb=>
  cases h2 with
  |non=>simp only[bp,Bool.not_false];exact⟨SeqAt.EqAt.tuple_none cA hu,SeqAt.RcAt.tuple_none cA hu,SeqAt.RcNeAt.tuple_none cA hu⟩
  |au dj=>simp only[bp,Bool.not_false];exact⟨SeqAt.EqAt.tuple_bool _ cA hu,SeqAt.RcAt.tuple_bool _ cA hu,SeqAt.RcNeAt.tuple_bool _ cA hu⟩
  |int bQ ed=>simp only[bp,Bool.not_false];exact⟨SeqAt.EqAt.tuple_int _ _ cA hu,SeqAt.RcAt.tuple_int _ _ cA hu,SeqAt.RcNeAt.tuple_int _ _ cA hu⟩
  |str f5 ed=>simp only[bp,Bool.not_false];exact⟨SeqAt.EqAt.tuple_str _ _ cA hu,SeqAt.RcAt.tuple_str _ _ cA hu,SeqAt.RcNeAt.tuple_str _ _ cA hu⟩
  |tup=>rcases o with⟨a9,aZ⟩|⟨a9,aZ⟩<;>first|(cases a9;done)|(cases aZ;done)
  |dk=>rcases o with⟨a9,aZ⟩|⟨a9,aZ⟩<;>first|(cases a9;done)|(cases aZ;done)
  |lst=>rcases o with⟨a9,aZ⟩|⟨a9,aZ⟩<;>first|(cases a9;done)|(cases aZ;done)
  |cx=>rcases o with⟨a9,aZ⟩|⟨a9,aZ⟩<;>first|(cases a9;done)|(cases aZ;done)
 |dk a1 fi j7 cA dA fb=>
  cases h2 with
  |non=>simp only[bp,Bool.not_false];exact⟨SeqAt.EqAt.tuple_none cA hu,SeqAt.RcAt.tuple_none cA hu,SeqAt.RcNeAt.tuple_none cA hu⟩
  |au dj=>simp only[bp,Bool.not_false];exact⟨SeqAt.EqAt.tuple_bool _ cA hu,SeqAt.RcAt.tuple_bool _ cA hu,SeqAt.RcNeAt.tuple_bool _ cA hu⟩
  |int bQ ed=>simp only[bp,Bool.not_false];exact⟨SeqAt.EqAt.tuple_int _ _ cA hu,SeqAt.RcAt.tuple_int _ _ cA hu,SeqAt.RcNeAt.tuple_int _ _ cA hu⟩
  |str f5 ed=>simp only[bp,Bool.not_false];exact⟨SeqAt.EqAt.tuple_str _ _ cA hu,SeqAt.RcAt.tuple_str _ _ cA hu,SeqAt.RcNeAt.tuple_str _ _ cA hu⟩
  |tup=>rcases o with⟨a9,aZ⟩|⟨a9,aZ⟩<;>first|(cases a9;done)|(cases aZ;done)
  |dk=>rcases o with⟨a9,aZ⟩|⟨a9,aZ⟩<;>first|(cases a9;done)|(cases aZ;done)
  |lst=>rcases o with⟨a9,aZ⟩|⟨a9,aZ⟩<;>first|(cases a9;done)|(cases aZ;done)
  |cx=>rcases o with⟨a9,aZ⟩|⟨a9,aZ⟩<;>first|(cases a9;done)|(cases aZ;done)
 |lst a1 fi j7 cA dA fb=>
  cases h2 with
  |non=>simp only[bp,Bool.not_false];exact⟨SeqAt.EqAt.list_none cA hu,SeqAt.RcAt.list_none cA hu,SeqAt.RcNeAt.list_none cA hu⟩
  |au dj=>simp only[bp,Bool.not_false];exact⟨SeqAt.EqAt.list_bool _ cA hu,SeqAt.RcAt.list_bool _ cA hu,SeqAt.RcNeAt.list_bool _ cA hu⟩
  |int bQ ed=>simp only[bp,Bool.not_false];exact⟨SeqAt.EqAt.list_int _ _ cA hu,SeqAt.RcAt.list_int _ _ cA hu,SeqAt.RcNeAt.list_int _ _ cA hu⟩
  |str f5 ed=>simp only[bp,Bool.not_false];exact⟨SeqAt.EqAt.list_str _ _ cA hu,SeqAt.RcAt.list_str _ _ cA hu,SeqAt.RcNeAt.list_str _ _ cA hu⟩
  |tup=>rcases o with⟨a9,aZ⟩|⟨a9,aZ⟩<;>first|(cases a9;done)|(cases aZ;done)
  |dk=>rcases o with⟨a9,aZ⟩|⟨a9,aZ⟩<;>first|(cases a9;done)|(cases aZ;done)
  |lst=>rcases o with⟨a9,aZ⟩|⟨a9,aZ⟩<;>first|(cases a9;done)|(cases aZ;done)
  |cx=>rcases o with⟨a9,aZ⟩|⟨a9,aZ⟩<;>first|(cases a9;done)|(cases aZ;done)
 |cx a1 fi j7 cA dA fb=>
  cases h2 with
  |non=>simp only[bp,Bool.not_false];exact⟨SeqAt.EqAt.list_none cA hu,SeqAt.RcAt.list_none cA hu,SeqAt.RcNeAt.list_none cA hu⟩
  |au dj=>simp only[bp,Bool.not_false];exact⟨SeqAt.EqAt.list_bool _ cA hu,SeqAt.RcAt.list_bool _ cA hu,SeqAt.RcNeAt.list_bool _ cA hu⟩
  |int bQ ed=>simp only[bp,Bool.not_false];exact⟨SeqAt.EqAt.list_int _ _ cA hu,SeqAt.RcAt.list_int _ _ cA hu,SeqAt.RcNeAt.list_int _ _ cA hu⟩
  |str f5 ed=>simp only[bp,Bool.not_false];exact⟨SeqAt.EqAt.list_str _ _ cA hu,SeqAt.RcAt.list_str _ _ cA hu,SeqAt.RcNeAt.list_str _ _ cA hu⟩
  |tup=>rcases o with⟨a9,aZ⟩|⟨a9,aZ⟩<;>first|(cases a9;done)|(cases aZ;done)
  |dk=>rcases o with⟨a9,aZ⟩|⟨a9,aZ⟩<;>first|(cases a9;done)|(cases aZ;done)
  |lst=>rcases o with⟨a9,aZ⟩|⟨a9,aZ⟩<;>first|(cases a9;done)|(cases aZ;done)
  |cx=>rcases o with⟨a9,aZ⟩|⟨a9,aZ⟩<;>first|(cases a9;done)|(cases aZ;done)
theorem Eu:∀{xs ys:List D},xs.length=ys.length→(∀(i:Nat) x y,xs[i]?=some x→ys[i]?=some y→bp x y=true)→dS xs ys=true
 |[],[],_,_=>by simp only[dS]
 |[],_::_,h,_=>by simp at h
 |_::_,[],h,_=>by simp at h
 |x::xs,y::ys,h,k=>by simp only[dS];rw[k 0 x y rfl rfl,Eu (by simpa using h) fun i a b ak ay=>k (i+1) a b (by simpa using ak) (by simpa using ay)];rfl
theorem IX{K:PySem.W.Frag}{d1 cn:D}{x:V}(cB:gs d1=true)(a1:At K G d1 x)(a2:At K G cn x):bp d1 cn=true:=by
 cases d1 with
 |non=>simp only[At]at a1;subst a1;cases cn<;>simp only[At]at a2<;>first|(simp only[bp];done)|(cases a2;done)|(obtain⟨a,xs,e,_⟩:=a2;cases e;done)|(obtain⟨a,aN,xs,e,_⟩:=a2;cases e;done)
 |au b=>simp only[At]at a1;subst a1;cases cn<;>simp only[At]at a2<;>first|(cases a2;simp only[bp,beq_self_eq_true];done)|(cases a2;done)|(obtain⟨a,xs,e,_⟩:=a2;cases e;done)|(obtain⟨a,aN,xs,e,_⟩:=a2;cases e;done)
 |int b=>simp only[At]at a1;subst a1;cases cn<;>simp only[At]at a2<;>first|(cases a2;simp only[bp,beq_self_eq_true];done)|(cases a2;done)|(obtain⟨a,xs,e,_⟩:=a2;cases e;done)|(obtain⟨a,aN,xs,e,_⟩:=a2;cases e;done)
 |str b=>simp only[At]at a1;subst a1;cases cn<;>simp only[At]at a2<;>first|(cases a2;simp only[bp,beq_self_eq_true];done)|(cases a2;done)|(obtain⟨a,xs,e,_⟩:=a2;cases e;done)|(obtain⟨a,aN,xs,e,_⟩:=a2;cases e;done)
 |_=>cases cB
theorem Et{d1 cn:D}(b9:gs cn=true)(cB:gs d1=false){K:PySem.W.Frag}{x:V}(a1:At K G d1 x)(a2:At K G cn x):False:=by
 cases cn<;>first
  |(cases b9;done)
  |(simp only[At]at a2;subst a2
    cases d1<;>first
     |(cases cB;done)
     |(simp only[At]at a1;obtain⟨a,xs,e,_⟩:=a1;cases e;done)
     |(simp only[At]at a1;obtain⟨a,aN,xs,e,_⟩:=a1;cases e;done))
inductive gB(K:PySem.W.Frag)(G:ag):D→Addr→Bool→List D→List V→Prop where
 |tup {a ds xs} (h:cK K G a xs) (q:aI K G ds xs):gB K G (.tup ds) a true ds xs
 |dk {a ds xs} (h:cK K G a xs) (q:aI K G ds xs):gB K G (.dk ds) a true ds xs
 |lst {a ds xs} (h:G a=some (.lst xs)) (q:aI K G ds xs):gB K G (.lst ds) a false ds xs
 |cx {a ds xs} (h:bU K G a xs) (q:aI K G ds xs):gB K G (.cx ds) a false ds xs
theorem rx{K:PySem.W.Frag}{n:Nat}{d:D}{x:V}(o:okN n d=true)(ns:gs d=false)(a:At K G d x):∃p b ds xs,x=.ref p∧gB K G d p b ds xs∧∃m,n=m+1∧ds.all (okN m)=true:=by
 cases d with
 |tup ds=>
  simp only[At]at a;obtain⟨p,xs,e,h,q⟩:=a;cases n with
  |zero=>cases o
  |succ m=>exact⟨p,_,ds,xs,e,.tup (cK.of h) q,m,rfl,o⟩
 |lst ds=>
  simp only[At]at a;obtain⟨p,xs,e,h,q⟩:=a;cases n with
  |zero=>cases o
  |succ m=>exact⟨p,_,ds,xs,e,.lst h q,m,rfl,o⟩
 |cx ds=>
  simp only[At]at a;obtain⟨p,xs,e,h,q⟩:=a;cases n with
  |zero=>cases o
  |succ m=>exact⟨p,_,ds,xs,e,.cx h q,m,rfl,o⟩
 |cY _ _=>cases n<;>cases o
 |bI _ _=>cases n<;>cases o
 |ins _ _ _=>cases n<;>cases o
 |i8 _=>cases n<;>cases o
 |dk ds=>
  simp only[At]at a;obtain⟨p,xs,e,h,q⟩:=a;cases n with
  |zero=>cases o
  |succ m=>exact⟨p,_,ds,xs,e,.dk h q,m,rfl,o⟩
 |_=>cases ns
theorem gB.gP{K:PySem.W.Frag}{d:D}{p:Addr}{b:Bool}{ds:List D}{xs:List V}(h:gB K G d p b ds xs):aI K G ds xs:=by cases h<;>assumption
theorem gB.eq{K:PySem.W.Frag}{d1 cn:D}{fb bR:Addr}{ei dj:Bool}{fi dY:List D}{oz oA:List V}(h1:gB K G d1 fb ei fi oz)(h2:gB K G cn bR dj dY oA):bp d1 cn=(ei==dj&&dS fi dY):=by cases h1<;>cases h2<;>simp[bp]
theorem gB.heap(I:Inv X pins σ H s)(aX:Sub G H){d:D}{p:Addr}{b:Bool}{ds:List D}{xs:List V}(h:gB X.K G d p b ds xs) :
  ∃its:List Value,Vals xs its∧(b=true→s.heap.IsTuple p its.toArray)∧(b=false→s.heap.IsList p its.toArray):=by
 cases h with
 |tup h q=>obtain⟨its,bV,ht,_⟩:=I.tuple (cK.mono aX h);exact⟨its,bV,fun _=>ht,fun z=>by cases z⟩
 |dk h q=>obtain⟨its,bV,ht,_⟩:=I.tuple (cK.mono aX h);exact⟨its,bV,fun _=>ht,fun z=>by cases z⟩
 |lst h q=>obtain⟨its,bV,ht,_⟩:=I.list (bU.of (aX _ _ h));exact⟨its,bV,(fun z=>by cases z),fun _=>ht.isList⟩
 |cx h q=>obtain⟨its,bV,ht,_⟩:=I.list (bU.mono aX h);exact⟨its,bV,(fun z=>by cases z),fun _=>ht.isList⟩
theorem gB.same(I:Inv X pins σ H s)(aX:Sub G H){d1 cn:D}{p:Addr}{ei dj:Bool}{fi dY:List D}{oz oA:List V}(h1:gB X.K G d1 p ei fi oz)(h2:gB X.K G cn p dj dY oA):ei=dj∧oz=oA:=by
 obtain⟨j7,ar,t1,dA⟩:=h1.heap I aX;obtain⟨et,a5,ed,cf⟩:=h2.heap I aX;cases ei with
 |true=>
  cases dj with
  |false=>exact absurd rfl (SeqAt.ne_of_list_tuple (cf rfl) (t1 rfl))
  |true=>
   refine⟨rfl,?_⟩;cases h1<;>cases h2<;>
   exact I.B9 (cK.mono aX (by assumption)) (cK.mono aX (by assumption))
 |false=>
  cases dj with
  |true=>exact absurd rfl (SeqAt.ne_of_list_tuple (dA rfl) (ed rfl))
  |false=>
   refine⟨rfl,?_⟩;have g1:bU X.K H p oz:=by
    cases h1 with
    |lst h q=>exact bU.of (aX _ _ h)
    |cx h q=>exact bU.mono aX h
   have g2:bU X.K H p oA:=by
    cases h2 with
    |lst h q=>exact bU.of (aX _ _ h)
    |cx h q=>exact bU.mono aX h
   exact I.z9 g1 g2
theorem qu{f:D→Bool}{ds:List D}(h:ds.all f=true){i:Nat}{d:D}(e:ds[i]?=some d):f d=true:=List.all_eq_true.mp h d (List.mem_of_getElem? e)
theorem LA(I:Inv X pins σ H s)(aX:Sub G H):∀(n:Nat){d1 cn:D}{x:V},okN n d1=true→okN n cn=true→At X.K G d1 x→At X.K G cn x→bp d1 cn=true:=by
 intro n;induction n with
 |zero=>intro d1 cn x cB b9 a1 a2;exact IX (by cases d1<;>first|rfl|(cases cB)) a1 a2
 |succ n bW=>
  intro d1 cn x cB b9 a1 a2;cases s1:gs d1 with
  |true=>exact IX s1 a1 a2
  |false=>
   cases s2:gs cn with
   |true=>exact(Et s2 s1 a1 a2).elim
   |false=>
    obtain⟨fb,ei,fi,oz,ak,aM,m1,Eo,k1⟩:=rx cB s1 a1;obtain⟨bR,dj,dY,oA,ay,a_,m2,Ep,k2⟩:=rx b9 s2 a2;subst ak;cases ay;have:n=m1:=by omega
    subst this;have:n=m2:=by omega
    subst this;obtain⟨a7,ex⟩:=aM.same I aX a_;subst a7;subst ex;rw[aM.eq a_,beq_self_eq_true,Bool.true_and];refine Eu (aM.gP.length.trans a_.gP.length.symm) fun i a b aq a7=>?_;obtain⟨v,ev,bb⟩:=aM.gP.get aq;obtain⟨lY,sk,bv⟩:=a_.gP.get a7;rw[ev]at sk;cases sk;exact bW (qu k1 aq) (qu k2 a7) bb bv
theorem y_(I:Inv X pins σ H s)(aX:Sub G H):∀(n:Nat){d1 cn:D}{u v:Value}{A:Around},okN n d1=true→okN n cn=true→k9 X.K G d1 u→k9 X.K G cn v→A.units+n<cLine→
  SeqAt.EqAt A s u v (bp d1 cn)∧SeqAt.RcAt A s u v (bp d1 cn)∧SeqAt.RcNeAt A s u v (!bp d1 cn):=by
 intro n;induction n with
 |zero=>
  intro d1 cn u v A cB b9 a1 a2 hu;refine IV (oi I aX cB a1) (oi I aX b9 a2) ?_ ?_
  ·cases d1<;>first|rfl|(cases cB)
  ·cases cn<;>first|rfl|(cases b9)
 |succ n bW=>
  intro d1 cn u v A cB b9 a1 a2 hu;have j6:A.units<cLine:=by omega
  cases s1:gs d1 with
  |true=>
   cases s2:gs cn with
   |true=>exact IV (oi I aX cB a1) (oi I aX b9 a2) s1 s2
   |false=>exact Hl j6 (oi I aX cB a1) (oi I aX b9 a2) (.inl ⟨s1,s2⟩)
  |false=>
   cases s2:gs cn with
   |true=>exact Hl j6 (oi I aX cB a1) (oi I aX b9 a2) (.inr ⟨s1,s2⟩)
   |false=>
    obtain⟨fB,Di,VE⟩:=a1;obtain⟨f5,at2,VF⟩:=a2;obtain⟨fb,ei,fi,oz,ak,aM,m1,Eo,k1⟩:=rx cB s1 Di;obtain⟨bR,dj,dY,oA,ay,a_,m2,Ep,k2⟩:=rx b9 s2 at2;subst ak;subst ay;cases VE;cases VF;have:n=m1:=by omega
    subst this;have:n=m2:=by omega
    subst this;obtain⟨j7,ar,t1,dA⟩:=aM.heap I aX;obtain⟨et,a5,ed,cf⟩:=a_.heap I aX;have mD:fi.length=j7.length:=aM.gP.length.trans ar.length;have sU:dY.length=et.length:=a_.gP.length.trans a5.length;have item:∀j(h1:j<j7.toArray.size)(h2:j<et.toArray.size),SeqAt.EqAt A.in1 s j7.toArray[j] et.toArray[j] (kK fi dY j):=fun j h1 h2=>by
     have pz:j<fi.length:=by rw[mD];simpa using h1
     have nO:j<dY.length:=by rw[sU];simpa using h2
     have g1:k9 X.K G fi[j] j7.toArray[j]:=qW aM.gP ar j _ _ (List.getElem?_eq_getElem pz) (by simp at h1;simp[h1]);have g2:k9 X.K G dY[j] et.toArray[j]:=qW a_.gP a5 j _ _ (List.getElem?_eq_getElem nO) (by simp at h2;simp[h2]);have:=(bW (A:=A.in1) (qu k1 (List.getElem?_eq_getElem pz)) (qu k2 (List.getElem?_eq_getElem nO)) g1 g2 (by rw[in1_units];omega)).1;unfold kK;rw[List.getElem?_eq_getElem pz,List.getElem?_eq_getElem nO];exact this
    have whole:SeqAt.RcAt A s (.ref fb) (.ref bR) (bp d1 cn)∧SeqAt.RcNeAt A s (.ref fb) (.ref bR) (!bp d1 cn):=by
     rw[aM.eq a_];cases ei with
     |true=>
      cases dj with
      |false=>exact⟨SeqAt.RcAt.tuple_list (t1 rfl) (cf rfl) j6,SeqAt.RcNeAt.tuple_list (t1 rfl) (cf rfl) j6⟩
      |true=>
       have bu:=SeqAt.RcAt.tuples (e:=kK fi dY) (t1 rfl) (ed rfl) j6 item;have c5:=SeqAt.RcNeAt.tuples (e:=kK fi dY) (t1 rfl) (ed rfl) j6 item;have eq:((List.range (min j7.toArray.size et.toArray.size)).all (kK fi dY)&&j7.toArray.size==et.toArray.size)=(true==true&&dS fi dY):=by
        rw[List.size_toArray,List.size_toArray,←mD,←sU,beq_self_eq_true,Bool.true_and];by_cases hl:fi.length=dY.length
        ·rw[←hl,Nat.min_self,zb hl,beq_self_eq_true,Bool.and_true]
        ·rw[za hl];have:(fi.length==dY.length)=false:=by simpa using hl
         rw[this,Bool.and_false]
       rw[eq]at bu;refine⟨bu,?_⟩
       first
        |(rw[eq]at c5;exact c5)
        |exact c5
     |false=>
      cases dj with
      |true=>exact⟨SeqAt.RcAt.list_tuple (dA rfl) (ed rfl) j6,SeqAt.RcNeAt.list_tuple (dA rfl) (ed rfl) j6⟩
      |false=>
       rw[beq_self_eq_true,Bool.true_and];by_cases hl:fi.length=dY.length
       ·have bu:=SeqAt.RcAt.lists (e:=kK fi dY) (dA rfl) (cf rfl) (by rw[List.size_toArray,List.size_toArray,←mD,←sU];exact hl) j6 item;have c5:=SeqAt.RcNeAt.lists (e:=kK fi dY) (dA rfl) (cf rfl) (by rw[List.size_toArray,List.size_toArray,←mD,←sU];exact hl) j6 item;rw[List.size_toArray,←mD,zb hl]at bu c5;exact⟨bu,c5⟩
       ·have bq:(j7.toArray.size !=et.toArray.size)=true:=by
          rw[List.size_toArray,List.size_toArray,←mD,←sU];simpa using hl
        rw[za hl];exact⟨SeqAt.RcAt.lists_lengths (dA rfl) (cf rfl) bq j6,SeqAt.RcNeAt.lists_lengths (dA rfl) (cf rfl) bq j6⟩
    refine⟨?_,whole⟩;by_cases hp:fb=bR
    ·subst hp;rw[LA I aX (n+1) cB b9 Di at2];exact SeqAt.EqAt.same _
    ·exact SeqAt.EqAt.of_refs hp whole.1
end
def notStar:Expr→Bool
 |.Starred .. =>false
 |_=>true
theorem Jj(e:Expr)(es:List Expr)(env:Env)(h:notStar e=true):starEach (e::es) env=(false,eval e env)::starEach es env:=by cases e<;>first|rfl|(cases h)
def ik:Expr→Bool
 |.ListComp .. =>false
 |.SetComp .. =>false
 |.DictComp .. =>false
 |_=>true
theorem kV(e:Expr)(t:Option Expr)(l:Nat)(env:Env)(h:ik e=true):swapsWith e t l env=pure false:=by cases e<;>first|rfl|(cases h)
def S6:Expr→Bool
 |.Slice .. =>false
 |_=>true
theorem a3{b:Expr}(h:S6 b=true:=by rfl):rZ b:=fun o i=>by cases b<;>first|rfl|(cases h)
section
variable{X:aC}{F:a4}{e a b c:Expr}{es:List Expr}{pos:Pos}
theorem aT.imp{t t':TE}(h:aT X e t)(i:en t' t):aT X e t':=fun pins s σ H Q I hw=>h pins s σ H Q I (i σ H Q hw)
theorem eR.imp{t t':TT}(h:eR X e t)(i:l6 t' t):eR X e t':=fun pins s σ H Q I hw=>h pins s σ H Q I (i σ H Q hw)
theorem hW.imp{t t':TT}(h:hW X e t)(i:l6 t' t):hW X e t':=fun p5 pins s σ H Q I hw=>h p5 pins s σ H Q I (i σ H Q hw)
theorem eJ.imp{t t':eK}(h:eJ X es t)(i:qk t' t):eJ X es t':=fun p pins s σ H Q I hw=>h p pins s σ H Q I (i σ H Q hw)
theorem c7.imp{st:Stmt}{t t':eL}(h:c7 X st t)(i:g0 t' t):c7 X st t':=fun pins s σ H cu I hw=>h pins s σ H cu I (i cu σ H hw)
theorem fF.imp{st:List Stmt}{t t':eL}(h:fF X st t)(i:g0 t' t):fF X st t':=fun pins s σ H cu I hw=>h pins s σ H cu I (i cu σ H hw)
theorem f_.imp{bw:Expr}{t t':TI}(h:f_ X bw e t)(i:oL t' t):f_ X bw e t':=fun pins s σ H Q I hw=>h pins s σ H Q I (i σ H Q hw)
abbrev a6(X:aC)(F:a4)(e:Expr)(m:az):Prop:=aT X e (cC F m)
abbrev l4(X:aC)(F:a4)(e:Expr)(m:aO):Prop:=aT X e (jL F m)
abbrev ff(X:aC)(F:a4)(e:Expr)(m:bY):Prop:=eR X e (fA F m)
abbrev oV(X:aC)(F:a4)(e:Expr)(m:bY):Prop:=hW X e (fA F m)
abbrev gy(X:aC)(F:a4)(es:List Expr)(m:aO):Prop:=eJ X es (ee F m)
abbrev fH(X:aC)(F:a4)(st:Stmt)(m:a0):Prop:=c7 X st (fc F m)
abbrev m8(X:aC)(F:a4)(st:List Stmt)(m:a0):Prop:=fF X st (fc F m)
abbrev jW(X:aC)(F:a4)(bw e:Expr)(m:aO):Prop:=f_ X bw e (kX F m)
theorem Ny(i:Nat){x:Str}(hN:X.N[i]?=some x:=by rfl)(hv:gd X.env.scope x:=by first|exact Or.inl rfl|exact Or.inr (Or.inl rfl)|exact Or.inr (Or.inr rfl))(hd:(x==("__debug__" :Str))=false:=by decide)(hcd:(x==("__classdict__" :Str))=false:=by decide):a6 X F (.Name x pos) (J i):=aT.imp (lP hN hv hd hcd) (Qt i)
theorem M8{i:Int}{j}:a6 X F (.Constant (.int i) j pos) (ai (.int i)):=aT.imp Ue (sP fun _=>by simp only[At])
theorem MU{i:Bool}{j}:a6 X F (.Constant (.bool i) j pos) (ai (.au i)):=aT.imp T5 (sP fun _=>by simp only[At])
theorem Nr{i:Str}{j}:a6 X F (.Constant (.str i) j pos) (ai (.str i)):=aT.imp Ay (sP fun _=>by simp only[At])
theorem Nj{j}:a6 X F (.Constant .none j pos) (ai .non):=aT.imp Ul (sP fun _=>by simp only[At])
theorem M5{x:Str}{v:V}{u:Value}{d:D}(hm:X.mg x=some u)(r:RelV v u)(at':∀G,At F.K G d v)(hg:cy X x:=by rfl)(hd:(x==("__debug__" :Str))=false:=by decide):a6 X F (.Name x pos) (ai d):=
 aT.imp (HV hg hm r hd) (sP at')
theorem Lk:gy X F [] av:=eJ.imp lO Gr
theorem Lj{m:az}{r:aO}(h:a6 X F e m)(t:gy X F es r)(hs:notStar e=true:=by rfl):gy X F (e::es) (ae m r):=eJ.imp (jH h t (Jj e es X.env hs)) PO
theorem Nv{k}{m:aO}(h:gy X F es m):a6 X F (.Tuple es k pos) (cE m):=aT.imp (HY h) Qp
theorem Ti{m:aO}(h:gy X F es m):l4 X F (.List es pos) (cT m):=aT.imp (Uh h) P6
theorem M4{m:aO}(h:l4 X F e m):a6 X F e (b5 m):=aT.imp h PX
theorem MV{m:az}(h:a6 X F e m):a6 X F e (nV m):=aT.imp h PJ
theorem Xy{m:bY}(h:ff X F e m):ff X F e (j8 m):=eR.imp h PL
theorem XM{m:az}(h:a6 X F e m)(he:∀whole,isTrue e X.env whole=(do let v ←whole;standAt e.pos;holding [v] (truthy v)):=by intro _;rfl):ff X F e (bc m):=eR.imp (UX h he) vP
theorem Yw{m:bY}(h:ff X F a m):oV X F (.BoolOp .And [a] pos) m:=U5 h
theorem Yz{m:bY}(h:ff X F a m):oV X F (.BoolOp .Or [a] pos) m:=U7 h
theorem w_and{m n:bY}(h:ff X F a m)(k:oV X F (.BoolOp .And (b::es) pos) n):oV X F (.BoolOp .And (a::b::es) pos) (mE m n):=hW.imp (U4 h k) PH
theorem w_or{m n:bY}(h:ff X F a m)(k:oV X F (.BoolOp .Or (b::es) pos) n):oV X F (.BoolOp .Or (a::b::es) pos) (fk m n):=hW.imp (U6 h k) Qd
theorem XN{m:bY}(h:oV X F e m):ff X F e m:=hW.pt h
theorem XI{m:bY}(h:ff X F a m):ff X F (.UnaryOp .Not a pos) (dT m):=eR.imp (UW h) Qa
theorem Nl{op}{m:az}(h:a6 X F a m):a6 X F (.BoolOp op [a] pos) m:=Un h
theorem MT{m n:az}(h:a6 X F a m)(k:a6 X F (.BoolOp .And (b::es) pos) n):a6 X F (.BoolOp .And (a::b::es) pos) (jC m n):=aT.imp (T4 h k) PI
theorem Nm{m n:az}(h:a6 X F a m)(k:a6 X F (.BoolOp .Or (b::es) pos) n):a6 X F (.BoolOp .Or (a::b::es) pos) (ra m n):=aT.imp (Uo h k) Qe
theorem Nk{m:az}(h:a6 X F a m):a6 X F (.UnaryOp .Not a pos) (q_ m):=aT.imp (Um h) Qb
theorem M6{k:bY}{m n:az}(h:ff X F c k)(ha:a6 X F a m)(hb:a6 X F b n):a6 X F (.IfExp c a b pos) (pF k m n):=aT.imp (Ud h ha hb) PZ
variable{st:Stmt}{jK:List Stmt}
theorem VX:m8 X F [] cU:=fF.imp Ii P_
theorem VP{m n:a0}(h:fH X F st m)(k:m8 X F jK n):m8 X F (st::jK) (bf m n):=fF.imp (Ih h k) Qj
theorem VY{m:a0}(h:fH X F st m):m8 X F [st] m:=AB h
theorem VR{m:az}(h:a6 X F e m)(hs:ik e=true:=by rfl):fH X F (.Expr e pos) (mG m):=c7.imp (tH h (kV _ _ _ _ hs)) PT
theorem VZ{m:az}(h:a6 X F e m):fH X F (.Return (some e) pos) (b6 m):=c7.imp (wN h) Qg
theorem V0{m:aO}(h:l4 X F e m):fH X F (.Return (some e) pos) (hH m):=c7.imp (wN h) Qh
theorem V1(i:Nat){x:Str}{p:Pos}(hN:X.N[i]?=some x:=by rfl)(hv:gd X.env.scope x:=by first|exact Or.inl rfl|exact Or.inr (Or.inl rfl)|exact Or.inr (Or.inr rfl))(hd:(x==("__debug__" :Str))=false:=by decide)(hcd:(x==("__classdict__" :Str))=false:=by decide) :
  fH X F (.Return (some (.Name x p)) pos) (hH (mI i)):=c7.imp (wN (lP hN hv hd hcd)) (Qi i)
theorem VW{k:bY}{m n:a0}{xs ys:List Stmt}(h:ff X F c k)(ha:m8 X F xs m)(hb:m8 X F ys n):fH X F (.If c xs ys pos) (cL k m n):=c7.imp (Ie h ha hb) P0
theorem V3(i:Nat){x:Str}{p:Pos}{m:az}(hN:X.N.Nodup)(he:a6 X F e m)(hi:X.N[i]?=some x:=by rfl)(hx:Loc X.env.scope x:=by first|exact Or.inl rfl|exact Or.inr rfl)(hs:ik e=true:=by rfl)(hf:X.fn x=true∨X.env.scope.names.lookup x=some .local:=by first|exact .inl rfl|exact .inr rfl):fH X F (.Assign [.Name x p] e pos) (c3 i m):=c7.imp (wO hN hi hx he (kV _ _ _ _ hs) hf) Qk
theorem V7(i:Nat){x:Str}{p:Pos}{m:aO}(hN:X.N.Nodup)(he:l4 X F e m)(hi:X.N[i]?=some x:=by rfl)(hx:Loc X.env.scope x:=by first|exact Or.inl rfl|exact Or.inr rfl)(hs:ik e=true:=by rfl)(hf:X.fn x=true∨X.env.scope.names.lookup x=some .local:=by first|exact .inl rfl|exact .inr rfl):fH X F (.Assign [.Name x p] e pos) (gq i m):=c7.imp (wO hN hi hx he (kV _ _ _ _ hs) hf) Gs
theorem o_{op:Operator}{r:eo}{f:D→D→R D}{m n:az}(ho:dp X (binaryOp op) r)(hf:fE F r f)(ha:a6 X F a m)(hb:a6 X F b n):a6 X F (.BinOp a op b pos) (ao f m n):=aT.imp (HX ho ha hb) (vQ hf)
theorem vi{op:CmpOp}{r:eo}{f:D→D→R D}{m n:az}(ho:dp X (compareOp op) r)(hf:fE F r f)(ha:a6 X F a m)(hb:a6 X F b n)(hm:behindInMarks op b=false):a6 X F (.Compare a [op] [b] pos) (ao f m n):=aT.imp (T8 ho ha hb hm) (vQ hf)
theorem oq{op:CmpOp}{r:eo}{f:D→D→R D}{m n:az}(ho:dp X (compareOp op) r)(hf:fE F r f)(ha:a6 X F a m)(hb:a6 X F b n)(hm:behindInMarks op b=false):ff X F (.Compare a [op] [b] pos) (bc (ao f m n)):=
 eR.imp (UU ho ha hb hm) fun σ H Q h=>by obtain⟨G,ρ,r,k⟩:=Gk (F:=F) (m:=ao f m n) σ H Q h;exact vQ hf σ H _ ⟨G,ρ,r,k⟩
theorem Nx{op:UnaryOp}{r:V→ag→cj→Prop}{f:D→R D}{m:az}(ho:uH X (unaryOp op) r)(hf:C4 F r f)(ha:a6 X F a m):a6 X F (.UnaryOp op a pos) (cq f m):=aT.imp (Uq ho ha) (Qs hf)
def jy(f:Int→Int→R D):D→D→R D
 |.int i,.int j=>f i j
 |_,_=>.bad
theorem tA{g:Int→Int→V}{f:Int→Int→D}(h:∀i j G,At F.K G (f i j) (g i j)):fE F (kQ g) (jy fun i j=>.ok (f i j)):=by
 intro σ ρ G H x y aN fy Q r bL cJ k;unfold jy at k
 split at k
 ·rename_i i j;simp only[At]at bL cJ;exact⟨i,j,bL,cJ,k _ H G r (cc.refl _ _) (h i j G)⟩
 ·exact k.elim
theorem wD{C:Int→Int→Prop}[∀i j,Decidable (C i j)]{g:Int→Int→V}{f:Int→Int→D}(h:∀i j G,At F.K G (f i j) (g i j)):fE F (rq C g) (jy fun i j=>if C i j then .ok (f i j)else .bad):=by
 intro σ ρ G H x y aN fy Q r bL cJ k;unfold jy at k
 split at k
 ·rename_i i j;simp only[At]at bL cJ;dsimp only at k
  split at k
  ·rename_i hc;exact⟨i,j,bL,cJ,hc,k _ H G r (cc.refl _ _) (h i j G)⟩
  ·exact k.elim
 ·exact k.elim
instance(i j:Int):Decidable (uf i j):=by unfold uf;infer_instance
instance(i j:Int):Decidable (rN i j):=by unfold rN;infer_instance
instance(i j:Int):Decidable (qg i j):=by unfold qg;infer_instance
def lU:=jy fun i j=>.ok (.int (i-j))
def kb:=jy fun i j=>if qg i j then .ok (.int (i*j))else .bad
def gi:=jy fun i j=>if uf i j then .ok (.int (i/j))else .bad
def dM:=jy fun i j=>if 0<j then .ok (.int (i%j))else .bad
def kf:=jy fun i j=>if rN i j then .ok (.int (i^j.toNat))else .bad
def nT:=jy fun i j=>.ok (.au (decide (i<j)))
def kN:=jy fun i j=>.ok (.au (decide (i≤j)))
def qN:=jy fun i j=>.ok (.au (decide (j<i)))
variable{m n:az}
theorem Nu(ha:a6 X F a m)(hb:a6 X F b n):a6 X F (.BinOp a .Sub b pos) (ao lU m n):=o_ TP (tA fun _ _ _=>by simp only[At]) ha hb
theorem Ng(ha:a6 X F a m)(hb:a6 X F b n):a6 X F (.BinOp a .Mult b pos) (ao kb m n):=o_ TK (wD fun _ _ _=>by simp only[At]) ha hb
theorem M1(ha:a6 X F a m)(hb:a6 X F b n):a6 X F (.BinOp a .FloorDiv b pos) (ao gi m n):=o_ TG (wD fun _ _ _=>by simp only[At]) ha hb
theorem Nf(ha:a6 X F a m)(hb:a6 X F b n):a6 X F (.BinOp a .Mod b pos) (ao dM m n):=o_ TJ (wD fun _ _ _=>by simp only[At]) ha hb
theorem Np(ha:a6 X F a m)(hb:a6 X F b n):a6 X F (.BinOp a .Pow b pos) (ao kf m n):=o_ TN (wD fun _ _ _=>by simp only[At]) ha hb
theorem XG(ha:a6 X F a m)(hb:a6 X F b n):ff X F (.Compare a [.Lt] [b] pos) (bc (ao nT m n)):=oq HK (tA fun _ _ _=>by simp only[At]) ha hb (mP _)
theorem XD(ha:a6 X F a m)(hb:a6 X F b n):ff X F (.Compare a [.Gt] [b] pos) (bc (ao qN m n)):=oq TH (tA fun _ _ _=>by simp only[At]) ha hb (mP _)
def pS:D→R D
 |.int i=>.ok (.int (-i))
 |_=>.bad
theorem Ni(ha:a6 X F a m):a6 X F (.UnaryOp .USub a pos) (cq pS m):=Nx Yb (fun σ ρ G H x aN Q r bL k=>by
 unfold pS at k
 split at k
 ·rename_i i;simp only[At]at bL;exact⟨i,bL,k _ H G r (cc.refl _ _) (by simp only[At])⟩
 ·exact k.elim) ha
noncomputable def d3:D→D→R D
 |.int i,.int j=>.ok (.int (i+j))
 |.str x,.str y=>if x.length+y.length≤1000000 then .ok (.str (x++y))else .bad
 |.lst xs,.lst ys=>if xs.length+ys.length≤1000000 then .ok (.lst (xs++ys))else .bad
 |_,_=>.bad
theorem Tr:fE F (fun x y H Q=>kQ (fun i j=>.int (i+j)) x y H Q∨(∃i j,x=.str i∧y=.str j∧i.length+j.length≤sizeLine∧Q (.str (i++j)) H)∨Io x y H Q) d3:=by
 intro σ ρ G H x y aN fy Q r bL cJ k;unfold d3 at k
 split at k
 ·rename_i i j;simp only[At]at bL cJ;exact .inl ⟨i,j,bL,cJ,k _ H G r (cc.refl _ _) (by simp only[At])⟩
 ·rename_i i j;simp only[At]at bL cJ
  split at k
  ·rename_i hl;exact .inr (.inl ⟨i,j,bL,cJ,Nat.le_trans hl (by decide),k _ H G r (cc.refl _ _) (by simp only[At])⟩)
  ·exact k.elim
 ·rename_i ds es;simp only[At]at bL cJ
  split at k
  ·rename_i hl;obtain⟨p,xs,ak,h1,aM⟩:=bL;obtain⟨bR,ys,ay,h2,a_⟩:=cJ;refine .inr (.inr ⟨p,bR,xs,ys,ak,ay,r.aH.sub _ _ h1,r.aH.sub _ _ h2,by rw[←aM.length,←a_.length];exact Nat.le_trans hl (by decide),fun l aE=>?_⟩);refine k (.ref l) _ _ (r.lay aE) (cc.lay r.aH.sub aE) ?_;simp only[At];exact⟨l,xs++ys,rfl,d0,(aM.append a_).mono (Sub.upd (r.aH.sub.gone aE))⟩
  ·exact k.elim
 ·exact k.elim
theorem MR(ha:a6 X F a m)(hb:a6 X F b n):a6 X F (.BinOp a .Add b pos) (ao d3 m n):=o_ (TC.or (TF.or HG)) Tr ha hb
noncomputable def cW(b:Bool)(x y:D):R D:=if okN 8 x=true∧okN 8 y=true then .ok (.au (if b then bp x y else !bp x y))else .bad
noncomputable def AG(F:a4)(b:Bool):eo:=fun x y H Q=>∃G d1 cn,Sub G H∧At F.K G d1 x∧At F.K G cn y∧okN 8 d1=true∧okN 8 cn=true∧Q (.au (if b then bp d1 cn else !bp d1 cn)) H
theorem HH(hK:F.K=X.K)(hu:X.A.units+64<cLine):dp X (compareOp .Eq) (AG F true):=by intro pins s σ H x y v u Q I bl b7 h;obtain⟨G,d1,cn,aX,a1,a2,cB,b9,q⟩:=h;rw[hK]at a1 a2;exact(y_ I aX 8 (A:=X.A) cB b9 ⟨x,a1,bl⟩ ⟨y,a2,b7⟩ (by omega)).2.1 X.prog X.w X.xe _ ⟨.au _,H,I,rfl,q⟩
theorem HL(hK:F.K=X.K)(hu:X.A.units+64<cLine):dp X (compareOp .NotEq) (AG F false):=by intro pins s σ H x y v u Q I bl b7 h;obtain⟨G,d1,cn,aX,a1,a2,cB,b9,q⟩:=h;rw[hK]at a1 a2;exact(y_ I aX 8 (A:=X.A) cB b9 ⟨x,a1,bl⟩ ⟨y,a2,b7⟩ (by omega)).2.2 X.prog X.w X.xe _ ⟨.au _,H,I,rfl,q⟩
theorem wC(b:Bool):fE F (AG F b) (cW b):=by
 intro σ ρ G H x y aN fy Q r bL cJ k;unfold cW at k
 split at k
 ·rename_i ho;exact⟨G,aN,fy,r.aH.sub,bL,cJ,ho.1,ho.2,k _ H G r (cc.refl _ _) (by simp only[At])⟩
 ·exact k.elim
theorem XC(hu:X.A.units+64<cLine)(ha:a6 X F a m)(hb:a6 X F b n)(hK:F.K=X.K:=by rfl):ff X F (.Compare a [.Eq] [b] pos) (bc (ao (cW true) m n)):=oq (HH hK hu) (wC true) ha hb (mP _)
theorem XH(hu:X.A.units+64<cLine)(ha:a6 X F a m)(hb:a6 X F b n)(hK:F.K=X.K:=by rfl):ff X F (.Compare a [.NotEq] [b] pos) (bc (ao (cW false) m n)):=oq (HL hK hu) (wC false) ha hb (mP _)
theorem M0(hu:X.A.units+64<cLine)(ha:a6 X F a m)(hb:a6 X F b n)(hK:F.K=X.K:=by rfl):a6 X F (.Compare a [.Eq] [b] pos) (ao (cW true) m n):=vi (HH hK hu) (wC true) ha hb (mP _)
theorem Nh(hu:X.A.units+64<cLine)(ha:a6 X F a m)(hb:a6 X F b n)(hK:F.K=X.K:=by rfl):a6 X F (.Compare a [.NotEq] [b] pos) (ao (cW false) m n):=vi (HL hK hu) (wC false) ha hb (mP _)
end
section
variable{X:aC}{F:a4}{e a b c:Expr}{es:List Expr}{pos:Pos}{m n:az}
theorem Ew:∀{ds o9:List D},ds.length=o9.length→(∀(i:Nat) x y,ds[i]?=some x→o9[i]?=some y→∀z,bp x z=bp y z)→∀es,dS ds es=dS o9 es
 |[],[],_,_,_=>rfl
 |[],_::_,h,_,_=>by simp at h
 |_::_,[],h,_,_=>by simp at h
 |x::xs,y::ys,h,k,[]=>by simp only[dS]
 |x::xs,y::ys,h,k,e::es=>by simp only[dS];rw[k 0 x y rfl rfl e,Ew (by simpa using h) (fun i a b ak ay=>k (i+1) a b (by simpa using ak) (by simpa using ay)) es]
theorem IW{K:PySem.W.Frag}{G:ag}{d d':D}{x:V}(o:gs d=true)(a1:At K G d x)(a2:At K G d' x):d=d':=by
 cases d with
 |non=>simp only[At]at a1;subst a1;cases d'<;>simp only[At]at a2<;>first|rfl|(cases a2;done)|(obtain⟨a,xs,e,_⟩:=a2;cases e;done)|(obtain⟨a,aN,xs,e,_⟩:=a2;cases e;done)
 |au b=>simp only[At]at a1;subst a1;cases d'<;>simp only[At]at a2<;>first|(cases a2;rfl)|(cases a2;done)|(obtain⟨a,xs,e,_⟩:=a2;cases e;done)|(obtain⟨a,aN,xs,e,_⟩:=a2;cases e;done)
 |int b=>simp only[At]at a1;subst a1;cases d'<;>simp only[At]at a2<;>first|(cases a2;rfl)|(cases a2;done)|(obtain⟨a,xs,e,_⟩:=a2;cases e;done)|(obtain⟨a,aN,xs,e,_⟩:=a2;cases e;done)
 |str b=>simp only[At]at a1;subst a1;cases d'<;>simp only[At]at a2<;>first|(cases a2;rfl)|(cases a2;done)|(obtain⟨a,xs,e,_⟩:=a2;cases e;done)|(obtain⟨a,aN,xs,e,_⟩:=a2;cases e;done)
 |_=>cases o
theorem gB.val{K:PySem.W.Frag}{G:ag}{d:D}{p:Addr}{b:Bool}{ds:List D}{xs:List V}(h:gB K G d p b ds xs)(e:D):bp d e=match e with
  |.tup es=>b&&dS ds es
  |.dk es=>b&&dS ds es
  |.lst es=>!b&&dS ds es
  |.cx es=>!b&&dS ds es
  |_=>false:=by
 cases h<;>cases e<;>simp[bp]
section
variable{pins:List (Addr×Obj)}{σ :St}{H G:ag}{s:Shared}
theorem Lz(I:Inv X pins σ H s)(aX:Sub G H):∀(n:Nat){d d':D}{x:V},okN n d=true→okN n d'=true→At X.K G d x→At X.K G d' x→∀e,bp d e=bp d' e:=by
 intro n;induction n with
 |zero=>intro d d' x cB b9 a1 a2 e;rw[IW (by cases d<;>first|rfl|(cases cB)) a1 a2]
 |succ n bW=>
  intro d d' x cB b9 a1 a2 e;cases s1:gs d with
  |true=>rw[IW s1 a1 a2]
  |false=>
   cases s2:gs d' with
   |true=>exact(Et s2 s1 a1 a2).elim
   |false=>
    obtain⟨fb,ei,fi,oz,ak,aM,m1,Eo,k1⟩:=rx cB s1 a1;obtain⟨bR,dj,dY,oA,ay,a_,m2,Ep,k2⟩:=rx b9 s2 a2;subst ak;cases ay;have:n=m1:=by omega
    subst this;have:n=m2:=by omega
    subst this;obtain⟨a7,ex⟩:=aM.same I aX a_;subst a7;subst ex;have el:∀es,dS fi es=dS dY es:=Ew (aM.gP.length.trans a_.gP.length.symm) fun i a b aq a7 z=>by obtain⟨v,ev,bb⟩:=aM.gP.get aq;obtain⟨lY,sk,bv⟩:=a_.gP.get a7;rw[ev]at sk;cases sk;exact bW (qu k1 aq) (qu k2 a7) bb bv z
    rw[aM.val,a_.val];cases e<;>first|rfl|(simp only[el])
open Classical in
noncomputable def kC(K:PySem.W.Frag)(G:ag)(d:D)(u:Value):Bool:=if h:∃d',okN 7 d'=true∧k9 K G d' u then bp (Classical.choose h) d else false
theorem yh(I:Inv X pins σ H s)(aX:Sub G H){d d1:D}{u:Value}(o:okN 7 d=true)(h:k9 X.K G d u):kC X.K G d1 u=bp d d1:=by have hx:∃d',okN 7 d'=true∧k9 X.K G d' u:=⟨d,o,h⟩;unfold kC;rw[dif_pos hx];obtain⟨bz,h'⟩:=Classical.choose_spec hx;obtain⟨x,a,r⟩:=h;obtain⟨YO,mh,a8⟩:=h';have:YO=x:=a8.inj r;subst this;exact Lz I aX 7 bz o mh a d1
theorem yi(I:Inv X pins σ H s)(aX:Sub G H){d1:D}:∀{ds:List D}{xs:List V}{its:List Value},aI X.K G ds xs→Vals xs its→ds.all (okN 7)=true→its.any (kC X.K G d1)=ds.any fun y=>bp y d1
 |[],_,_,q,r,_=>by simp only[aI]at q;subst q;cases r;rfl
 |d::ds,_,_,q,r,o=>by
  simp only[aI]at q;obtain⟨v,xt,rfl,bb,ml⟩:=q;cases r with
  |cons ar a5=>rw[List.all_cons,Bool.and_eq_true]at o;rw[List.any_cons,List.any_cons,yh I aX o.1 ⟨v,bb,ar⟩,yi I aX ml a5 o.2]
theorem wo(I:Inv X pins σ H s)(aX:Sub G H){d1:D}{x:V}{v:Value}{A:Around}(hu:A.units+8<cLine)(cB:okN 7 d1=true)(a1:At X.K G d1 x)(bl:RelV x v):∀{ds:List D}{xs:List V}{its:List Value},aI X.K G ds xs→Vals xs its→ds.all (okN 7)=true→
  ∀u∈its,SeqAt.EqAt A s u v (kC X.K G d1 u)
 |[],_,_,q,r,_=>by simp only[aI]at q;subst q;cases r;exact fun u hu=>nomatch hu
 |d::ds,_,_,q,r,o=>by
  simp only[aI]at q;obtain⟨w,wr,rfl,bb,ml⟩:=q;cases r with
  |cons ar a5=>
   rw[List.all_cons,Bool.and_eq_true]at o;intro iq hm;rcases List.mem_cons.mp hm with e|hm
   ·subst e;rw[yh I aX o.1 ⟨w,bb,ar⟩];exact(y_ I aX 7 (A:=A) o.1 cB ⟨w,bb,ar⟩ ⟨x,a1,bl⟩ (by omega)).1
   ·exact wo I aX hu cB a1 bl ml a5 o.2 iq hm
end
noncomputable def oh:D→Option (List D)
 |.tup ys=>some ys
 |.dk ys=>some ys
 |.lst ys=>some ys
 |.cx ys=>some ys
 |_=>none
noncomputable def inD(b:Bool)(x y:D):R D:=match oh y with
 |some ys=>if okN 7 x=true∧ys.all (okN 7)=true then .ok (.au (if b then ys.any (fun y=>bp y x)else !ys.any fun y=>bp y x))else .bad
 |none=>.bad
noncomputable def AH(F:a4)(b:Bool):eo:=fun x y H Q=>∃G d1 cn p ds xs k,Sub G H∧At F.K G d1 x∧y=.ref p∧gB F.K G cn p k ds xs∧okN 7 d1=true∧ds.all (okN 7)=true∧Q (.au (if b then ds.any (fun y=>bp y d1)else !ds.any fun y=>bp y d1)) H
theorem HI(hK:F.K=X.K)(hu:X.A.units+64<cLine):dp X (compareOp .In) (AH F true):=by
 intro pins s σ H x y v u Q I bl b7 h;obtain⟨G,d1,cn,p,ds,xs,k,aX,a1,rfl,gu,cB,b9,q⟩:=h;rw[hK]at a1 gu;cases b7;obtain⟨its,ar,t1,dA⟩:=gu.heap I aX;have q:Q (.au (ds.any fun y=>bp y d1)) H:=q;rw[←yi I aX gu.gP ar b9]at q;have hm:=wo I aX (A:=X.A.in1) (d1:=d1) (by rw[in1_units];omega) cB a1 bl gu.gP ar b9;cases k with
 |true=>exact SeqAt.in_tupleAt (kC X.K G d1) (t1 rfl) (fun w hw=>hm w (by simpa using hw)) ⟨.au _,H,I,rfl,by simpa using q⟩
 |false=>exact SeqAt.in_listAt (kC X.K G d1) (dA rfl) (fun w hw=>hm w (by simpa using hw)) ⟨.au _,H,I,rfl,by simpa using q⟩
theorem TL(hK:F.K=X.K)(hu:X.A.units+64<cLine):dp X (compareOp .NotIn) (AH F false):=by
 intro pins s σ H x y v u Q I bl b7 h;obtain⟨G,d1,cn,p,ds,xs,k,aX,a1,rfl,gu,cB,b9,q⟩:=h;rw[hK]at a1 gu;cases b7;obtain⟨its,ar,t1,dA⟩:=gu.heap I aX;have q:Q (.au (!ds.any fun y=>bp y d1)) H:=q;rw[←yi I aX gu.gP ar b9]at q;have hm:=wo I aX (A:=X.A.in1) (d1:=d1) (by rw[in1_units];omega) cB a1 bl gu.gP ar b9;cases k with
 |true=>exact SeqAt.notIn_tupleAt (kC X.K G d1) (t1 rfl) (fun w hw=>hm w (by simpa using hw)) ⟨.au _,H,I,rfl,by simpa using q⟩
 |false=>exact SeqAt.notIn_listAt (kC X.K G d1) (dA rfl) (fun w hw=>hm w (by simpa using hw)) ⟨.au _,H,I,rfl,by simpa using q⟩
theorem W0{K:PySem.W.Frag}{G:ag}{d:D}{x:V}{ds:List D}(e:oh d=some ds)(a:At K G d x):∃p xs k,x=.ref p∧gB K G d p k ds xs:=by
 cases d<;>first
  |(cases e;done)
  |(cases e
    simp only[At]at a;obtain⟨p,xs,e,h,q⟩:=a
    first
     |exact⟨p,xs,_,e,.tup (cK.of h) q⟩
     |exact⟨p,xs,_,e,.dk h q⟩
     |exact⟨p,xs,_,e,.lst h q⟩
     |exact⟨p,xs,_,e,.cx h q⟩)
theorem Ap(b:Bool):fE F (AH F b) (inD b):=by
 intro σ ρ G H x y aN fy Q r bL cJ k;unfold inD at k;cases e:oh fy with
 |none=>rw[e]at k;exact k.elim
 |some ys=>
  rw[e]at k;dsimp only at k
  split at k
  ·rename_i ho;obtain⟨p,xs,cb,d4,gu⟩:=W0 e cJ;exact⟨G,aN,fy,p,ys,xs,cb,r.aH.sub,bL,d4,gu,ho.1,ho.2,k _ H G r (cc.refl _ _) (by simp only[At])⟩
  ·exact k.elim
theorem XE(hu:X.A.units+64<cLine)(ha:a6 X F a m)(hb:a6 X F b n)(hK:F.K=X.K:=by rfl)(hm:behindInMarks .In b=false:=by with_unfolding_all rfl):ff X F (.Compare a [.In] [b] pos) (bc (ao (inD true) m n)):=oq (HI hK hu) (Ap true) ha hb hm
theorem XJ(hu:X.A.units+64<cLine)(ha:a6 X F a m)(hb:a6 X F b n)(hK:F.K=X.K:=by rfl)(hm:behindInMarks .NotIn b=false:=by with_unfolding_all rfl):ff X F (.Compare a [.NotIn] [b] pos) (bc (ao (inD false) m n)):=oq (TL hK hu) (Ap false) ha hb hm
theorem M7(hu:X.A.units+64<cLine)(ha:a6 X F a m)(hb:a6 X F b n)(hK:F.K=X.K:=by rfl)(hm:behindInMarks .In b=false:=by with_unfolding_all rfl):a6 X F (.Compare a [.In] [b] pos) (ao (inD true) m n):=vi (HI hK hu) (Ap true) ha hb hm
def gp:D→Bool
 |.non=>true
 |_=>false
def gn(b:Bool):D→D→R D
 |x,.non=>.ok (.au (if b then gp x else !gp x))
 |_,_=>.bad
theorem zV{K:PySem.W.Frag}{G:ag}{d:D}{x:V}(a:At K G d x):gp d=decide (x=.non):=by
 cases d<;>simp only[At]at a<;>first
  |(subst a;simp[gp];done)
  |(obtain⟨p,xs,e,_⟩:=a;subst e;simp[gp];done)
  |(obtain⟨p,aN,xs,e,_⟩:=a;subst e;simp[gp];done)
theorem XF(ha:a6 X F a m)(hb:a6 X F b n):ff X F (.Compare a [.Is] [b] pos) (bc (ao (gn true) m n)):=oq HJ (fun σ ρ G H x y aN fy Q r bL cJ k=>by
 unfold gn at k
 split at k
 ·simp only[At]at cJ;rw[zV bL]at k;exact⟨cJ,k _ H G r (cc.refl _ _) (by simp only[At];rfl)⟩
 ·exact k.elim) ha hb (mP _)
theorem XK(ha:a6 X F a m)(hb:a6 X F b n):ff X F (.Compare a [.IsNot] [b] pos) (bc (ao (gn false) m n)):=oq TM (fun σ ρ G H x y aN fy Q r bL cJ k=>by
 unfold gn at k
 split at k
 ·simp only[At]at cJ;rw[zV bL]at k;exact⟨cJ,k _ H G r (cc.refl _ _) (by simp only[At];rfl)⟩
 ·exact k.elim) ha hb (mP _)
theorem M9(ha:a6 X F a m)(hb:a6 X F b n):a6 X F (.Compare a [.Is] [b] pos) (ao (gn true) m n):=vi HJ (fun σ ρ G H x y aN fy Q r bL cJ k=>by
 unfold gn at k
 split at k
 ·simp only[At]at cJ;rw[zV bL]at k;exact⟨cJ,k _ H G r (cc.refl _ _) (by simp only[At];rfl)⟩
 ·exact k.elim) ha hb (mP _)
noncomputable def iM(f g:D→D→R D)(a b c:az):az:=fun ρ=>(a ρ).bind fun x=>(b ρ).bind fun y=>(f x y).bind fun z=>(iZ z).bind fun k=>if k=true then(c ρ).bind fun w=>g y w else .ok (.au false)
theorem Gn{r a8:eo}{f g:D→D→R D}{l:az}(hf:fE F r f)(hg:fE F a8 g):en (cC F (iM f g m n l)) (BV r a8 (cC F m) (cC F n) (cC F l)):=by
 rintro σ H Q ⟨G,ρ,AK,h⟩;unfold iM at h;refine⟨G,ρ,AK,?_⟩;cases aq:m ρ with
 |bad=>rw[aq]at h;exact h.elim
 |exc c=>rw[aq]at h;exact h
 |ok aN=>
  rw[aq,R.bt]at h;intro x H1 aJ ar s1 bL;refine⟨aJ,ρ,ar,?_⟩;cases a7:n ρ with
  |bad=>rw[a7]at h;exact h.elim
  |exc c=>rw[a7]at h;exact h
  |ok fy=>
   rw[a7,R.bt]at h;intro y aS cI a5 s2 cJ;refine hf σ ρ cI aS x y aN fy _ a5 (bL.mono s2.g) cJ ?_;cases ly:f aN fy with
   |bad=>rw[ly]at h;exact h.elim
   |exc c=>rw[ly]at h;exact h
   |ok MI=>
    rw[ly,R.bt]at h;intro z cQ f9 dN s3 qw;cases MI with
    |au k=>
     simp only[At]at qw;refine⟨k,qw,?_⟩;have h:ie F G H σ ρ Q (if k=true then(l ρ).bind fun w=>g fy w else .ok (.au false)):=h;cases k with
     |false=>rw[if_neg Bool.false_ne_true]at h ⊢;exact h _ cQ f9 dN (s1.trans (s2.trans s3)) (by simp only[At])
     |true=>
      rw[if_pos rfl]at h ⊢;refine⟨f9,ρ,dN,?_⟩;cases ec:l ρ with
      |bad=>rw[ec]at h;exact h.elim
      |exc c=>rw[ec]at h;exact h
      |ok MH=>rw[ec,R.bt]at h;intro w gA rP lQ s4 i0;exact hg σ ρ rP gA y w fy MH Q lQ ((cJ.mono s3.g).mono s4.g) i0 (h.mono (s1.trans (s2.trans (s3.trans s4))))
    |_=>exact h.elim
theorem MY{op fN:CmpOp}{r a8:eo}{f g:D→D→R D}{l:az}(ho:dp X (compareOp op) r)(ho':dp X (compareOp fN) a8)(hf:fE F r f)(hg:fE F a8 g)(ha:a6 X F a m)(hb:a6 X F b n)(hc:a6 X F c l)(hm:lastMarks [op,fN] [b,c]=false:=by with_unfolding_all rfl) :
  a6 X F (.Compare a [op,fN] [b,c] pos) (iM f g m n l):=aT.imp (T6 ho ho' ha hb hc hm) (Gn hf hg)
theorem Xz{op fN:CmpOp}{r a8:eo}{f g:D→D→R D}{l:az}(ho:dp X (compareOp op) r)(ho':dp X (compareOp fN) a8)(hf:fE F r f)(hg:fE F a8 g)(ha:a6 X F a m)(hb:a6 X F b n)(hc:a6 X F c l)(hm:lastMarks [op,fN] [b,c]=false:=by with_unfolding_all rfl) :
  ff X F (.Compare a [op,fN] [b,c] pos) (bc (iM f g m n l)):=eR.imp (UT ho ho' ha hb hc hm) fun σ H Q h=>by
  obtain⟨G,ρ,r,k⟩:=Gk (F:=F) (m:=iM f g m n l) σ H Q h;exact Gn hf hg σ H _ ⟨G,ρ,r,k⟩
theorem Tv:fE F (kQ fun i j=>.au (decide (i<j))) nT:=tA fun _ _ _=>by simp only[At]
theorem tB:fE F (kQ fun i j=>.au (decide (i≤j))) kN:=tA fun _ _ _=>by simp only[At]
end
section
variable{X:aC}{F:a4}{e a b c:Expr}{es:List Expr}{pos p:Pos}{m n:az}{ma:aO}
def cN(f:List D→R D)(m:aO):az:=fun ρ=>(m ρ).bind f
noncomputable def oE(F:a4)(r:List V→ag→cj→Prop)(f:List D→R D):Prop:=∀ σ ρ G H xs ds Q,Rel F G H σ ρ→aI F.K G ds xs→ie F G H σ ρ Q (f ds)→r xs H Q
theorem Gm{r:List V→ag→cj→Prop}{f:List D→R D}(hf:oE F r f):en (cC F (cN f ma)) (tR r (ee F ma)):=by
 rintro σ H Q ⟨G,ρ,AK,h⟩;unfold cN at h;refine⟨G,ρ,AK,?_⟩;cases aq:ma ρ with
 |bad=>rw[aq]at h;exact h.elim
 |exc c=>rw[aq]at h;exact h
 |ok ds=>rw[aq,R.bt]at h;intro vs H1 aJ ar s1 a;exact hf σ ρ aJ H1 vs ds Q ar a (h.mono s1)
theorem Ek{x:Str}{id:String}{r:List V→ag→cj→Prop}{f:List D→R D}(hc:jm X (.builtin id) r)(hf:oE F r f)(hm:X.mg x=none)(hv:bootBuiltins x=some (.builtin id))(ha:gy X F (e::es) ma)(hg:cy X x:=by rfl)(aE:x≠"__name__":=by decide)(hdb:(x==("__debug__" :Str))=false:=by decide)(he:starEach (e::es) X.env=(false,eval e X.env)::starEach es X.env:=by rfl)(hpl:(backTo pos (starEach es X.env)).any (·.1)=false:=by rfl):a6 X F (.Call (.Name x p) (e::es) [] pos) (cN f ma):=
 aT.imp (tF hc hg hm hv ha aE hdb he hpl) (Gm hf)
theorem El{x:Str}{T:String}{r:List V→ag→cj→Prop}{f:List D→R D}(hc:jm X (.type T) r)(hf:oE F r f)(hm:X.mg x=none)(hv:bootBuiltins x=some (.type T))(ha:gy X F (e::es) ma)(hg:cy X x:=by rfl)(aE:x≠"__name__":=by decide)(hdb:(x==("__debug__" :Str))=false:=by decide)(he:starEach (e::es) X.env=(false,eval e X.env)::starEach es X.env:=by rfl)(hpl:(backTo pos (starEach es X.env)).any (·.1)=false:=by rfl):a6 X F (.Call (.Name x p) (e::es) [] pos) (cN f ma):=
 aT.imp (Ax hc hg hm hv ha aE hdb he hpl) (Gm hf)
noncomputable def dJ:List D→R D
 |[.str x]=>if x.length≤1000000 then .ok (.int x.length)else .bad
 |[.lst xs]=>.ok (.int xs.length)
 |[.cx xs]=>.ok (.int xs.length)
 |[.tup xs]=>.ok (.int xs.length)
 |[.dk xs]=>.ok (.int xs.length)
 |_=>.bad
theorem aI.one{K:PySem.W.Frag}{G:ag}{d:D}{vs:List V}(a:aI K G [d] vs):∃v,vs=[v]∧At K G d v:=by simp only[aI]at a;obtain⟨v,r,rfl,h,rfl⟩:=a;exact⟨v,rfl,h⟩
theorem aI.two{K:PySem.W.Frag}{G:ag}{d e:D}{vs:List V}(a:aI K G [d,e] vs):∃v w,vs=[v,w]∧At K G d v∧At K G e w:=by simp only[aI]at a;obtain⟨v,r,rfl,h,w,a8,rfl,h',rfl⟩:=a;exact⟨v,w,rfl,h,h'⟩
theorem Tu(hK:F.K=X.K):oE F (fun xs H Q=>∃x n,xs=[x]∧CR X.K x H n∧Q (.int n) H) dJ:=by
 intro σ ρ G H xs ds Q r al k;unfold dJ at k
 split at k
 ·rename_i x;obtain⟨v,rfl,bb⟩:=al.one;simp only[At]at bb;subst bb
  split at k
  ·rename_i hl;exact⟨_,x.length,rfl,⟨Nat.le_trans hl (by decide),rfl⟩,k _ H G r (cc.refl _ _) (by simp only[At])⟩
  ·exact k.elim
 ·rename_i ys;obtain⟨v,rfl,bb⟩:=al.one;simp only[At]at bb;obtain⟨q,xs,rfl,h,al⟩:=bb;rw[al.length]at k;exact⟨_,xs.length,rfl,.inl ⟨xs,bU.of (r.aH.sub _ _ h),rfl⟩,k _ H G r (cc.refl _ _) (by simp only[At])⟩
 ·rename_i ys;obtain⟨v,rfl,bb⟩:=al.one;simp only[At]at bb;obtain⟨q,xs,rfl,h,al⟩:=bb;rw[al.length]at k;rw[hK]at h;exact⟨_,xs.length,rfl,.inl ⟨xs,bU.mono r.aH.sub h,rfl⟩,k _ H G r (cc.refl _ _) (by simp only[At])⟩
 ·rename_i ys;obtain⟨v,rfl,bb⟩:=al.one;simp only[At]at bb;obtain⟨q,xs,rfl,h,al⟩:=bb;rw[al.length]at k;exact⟨_,xs.length,rfl,.inr ⟨xs,cK.of (r.aH.sub _ _ h),rfl⟩,k _ H G r (cc.refl _ _) (by simp only[At])⟩
 ·rename_i ys;obtain⟨v,rfl,bb⟩:=al.one;simp only[At]at bb;obtain⟨q,xs,rfl,h,al⟩:=bb;rw[al.length]at k;rw[hK]at h;exact⟨_,xs.length,rfl,.inr ⟨xs,cK.mono r.aH.sub h,rfl⟩,k _ H G r (cc.refl _ _) (by simp only[At])⟩
 ·exact k.elim
theorem Nb(hm:X.mg "len"=none)(ha:gy X F [e] ma)(hK:F.K=X.K:=by rfl)(hg:cy X "len":=by rfl)(he:starEach [e] X.env=(false,eval e X.env)::starEach [] X.env:=by rfl)(hpl:(backTo pos (starEach [] X.env)).any (·.1)=false:=by rfl) :
  a6 X F (.Call (.Name "len" p) [e] [] pos) (cN dJ ma):=Ek L2 (Tu hK) hm PySem.boot_len ha hg (by decide) (by decide) he hpl
noncomputable def tZ:D→Option String
 |.non=>some "NoneType"
 |.au _=>some "bool"
 |.int _=>some "int"
 |.str _=>some "str"
 |.lst _=>some "list"
 |.cx _=>some "list"
 |.tup _=>some "tuple"
 |.dk _=>some "tuple"
 |.cY _ _=>some "dict"
 |.bI _ _=>some "dict"
 |_=>none
def BR(T U:String):Bool:=T==U||(T=="bool"&&U=="int")
def e5(U:String)(d:D):R D:=match tZ d with
 |some T=>.ok (.au (BR T U))
 |none=>.bad
noncomputable def nf(K:PySem.W.Frag)(U:String):Prop:=∀T,T="NoneType"∨T="bool"∨T="int"∨T="str"∨T="list"∨T="tuple"∨T="dict"→PySem.W.kitOne K (.type T) (.type U)=some (BR T U)
theorem XZ(K:PySem.W.Frag):nf K "int":=fun T h=>by rcases h with rfl|rfl|rfl|rfl|rfl|rfl|rfl<;>kernel_rfl
theorem XY(K:PySem.W.Frag):nf K "bool":=fun T h=>by rcases h with rfl|rfl|rfl|rfl|rfl|rfl|rfl<;>kernel_rfl
theorem JP(K:PySem.W.Frag):nf K "str":=fun T h=>by rcases h with rfl|rfl|rfl|rfl|rfl|rfl|rfl<;>kernel_rfl
theorem tX(K:PySem.W.Frag):nf K "list":=fun T h=>by rcases h with rfl|rfl|rfl|rfl|rfl|rfl|rfl<;>kernel_rfl
theorem B5(K:PySem.W.Frag):nf K "tuple":=fun T h=>by rcases h with rfl|rfl|rfl|rfl|rfl|rfl|rfl<;>kernel_rfl
theorem QN{pins:List (Addr×Obj)}{σ :St}{H G:ag}{s:Shared}{Q:Value→Shared→Prop}{E:Value→Shared→Prop}{d:D}{x:V}{u:Value}{T U:String}{k:Bool}(I:Inv X pins σ H s)(aX:Sub G H)(at':At X.K G d x)(bl:RelV x u)(e:tZ d=some T)(tt:PySem.W.kitOne X.K (.type T) (.type U)=some k)(h:∀cM,Q (.bool k) { s with toks:=cM }):wpAny (model X.prog X.w) X.A (call (.builtin "isinstance") [u,.type U]) Q E s:=by
 cases d with
 |non=>cases e;simp only[At]at at';subst at';cases bl;exact PySem.W.kia_one PySem.W.kitx_none I.eC True.intro tt (fun z=>nomatch z) h
 |au b=>cases e;simp only[At]at at';subst at';cases bl;exact PySem.W.kia_one PySem.W.kitx_bool I.eC True.intro tt (fun z=>nomatch z) h
 |int b=>cases e;simp only[At]at at';subst at';obtain⟨t,rfl⟩:=bl;exact PySem.W.kia_one PySem.W.kitx_int I.eC True.intro tt (fun z=>nomatch z) h
 |str b=>cases e;simp only[At]at at';subst at';obtain⟨t,rfl⟩:=bl;exact PySem.W.kia_one PySem.W.kitx_str I.eC True.intro tt (fun z=>nomatch z) h
 |lst ds=>cases e;simp only[At]at at';obtain⟨q,xs,rfl,aK,_⟩:=at';cases bl;obtain⟨its,_,⟨o,n,ak,ay,_⟩,_⟩:=I.list (bU.of (aX _ _ aK));exact PySem.W.kia_one PySem.W.kitx_list I.eC ⟨o,ak,ay⟩ tt (fun z=>nomatch z) h
 |cx ds=>cases e;simp only[At]at at';obtain⟨q,xs,rfl,aK,_⟩:=at';cases bl;obtain⟨its,_,⟨o,n,ak,ay,_⟩,_⟩:=I.list (bU.mono aX aK);exact PySem.W.kia_one PySem.W.kitx_list I.eC ⟨o,ak,ay⟩ tt (fun z=>nomatch z) h
 |tup ds=>cases e;simp only[At]at at';obtain⟨q,xs,rfl,aK,_⟩:=at';cases bl;obtain⟨its,_,⟨o,ak,ay,_⟩,_⟩:=I.tuple (cK.of (aX _ _ aK));exact PySem.W.kia_one PySem.W.kitx_tuple I.eC ⟨o,ak,ay⟩ tt (fun z=>nomatch z) h
 |dk ds=>cases e;simp only[At]at at';obtain⟨q,xs,rfl,aK,_⟩:=at';cases bl;obtain⟨its,_,⟨o,ak,ay,_⟩,_⟩:=I.tuple (cK.mono aX aK);exact PySem.W.kia_one PySem.W.kitx_tuple I.eC ⟨o,ak,ay⟩ tt (fun z=>nomatch z) h
 |cY aD ds=>cases e;simp only[At]at at';obtain⟨q,xs,rfl,aK,_⟩:=at';cases bl;obtain⟨_,_,vs,_,o,es,cH,h1,h2,_⟩:=(show eI X.prog X.w H s.heap q (.cY xs)from I.br q _ (aX _ _ aK));exact PySem.W.kia_one PySem.W.kitx_dict I.eC ⟨o,h1,h2.1⟩ tt (fun z=>nomatch z) h
 |bI aD ds=>cases e;simp only[At]at at';obtain⟨q,xs,rfl,aK,_⟩:=at';cases bl;obtain⟨_,_,zs,_,o,es,cH,h1,h2,_⟩:=(show eI X.prog X.w H s.heap q (.bI xs)from I.br q _ (aX _ _ aK));exact PySem.W.kia_one PySem.W.kitx_dict I.eC ⟨o,h1,h2.1⟩ tt (fun z=>nomatch z) h
 |ins C ns ds=>cases e
 |i8 C=>cases e
theorem X9{d:D}{T:String}(e:tZ d=some T):T="NoneType"∨T="bool"∨T="int"∨T="str"∨T="list"∨T="tuple"∨T="dict":=by cases d<;>cases e<;>simp
noncomputable def Ve(F:a4)(U:String):List V→ag→cj→Prop:=fun xs H Q=>∃G d x T,Sub G H∧xs=[x,.ty U]∧At F.K G d x∧tZ d=some T∧Q (.au (BR T U)) H
theorem L1{U:String}(hK:F.K=X.K)(tt:nf X.K U):jm X (.builtin "isinstance") (Ve F U):=by intro pins s σ H xs us Q I r h;obtain⟨G,d,x,T,aX,rfl,a,e,q⟩:=h;obtain⟨u,eY,rfl,bl,eb⟩:=vals2 r;obtain rfl:eY=Value.type U:=eb;rw[hK]at a;exact QN I aX a bl e (tt T (X9 e)) fun cM=>⟨.au _,H,I.tok cM,rfl,q⟩
theorem M_{U:Str}{T:String}{bR:Pos}(tt:nf X.K T)(hm:X.mg "isinstance"=none)(hmU:X.mg U=none)(hU:bootBuiltins U=some (.type T))(ha:a6 X F a m)(hK:F.K=X.K:=by rfl)(hg:cy X "isinstance":=by rfl)(hgU:cy X U:=by rfl)(hnU:U≠"__name__":=by decide)(hdU:(U==("__debug__" :Str))=false:=by decide)(hs2:starEach [.Name U bR] X.env=(false,eval (.Name U bR) X.env)::starEach [] X.env:=by rfl)(he:starEach [a,.Name U bR] X.env=(false,eval a X.env)::starEach [.Name U bR] X.env:=by rfl)(hpl:(backTo pos (starEach [.Name U bR] X.env)).any (·.1)=false:=by rfl) :
  a6 X F (.Call (.Name "isinstance" p) [a,.Name U bR] [] pos) (cq (e5 T) m):=by
 have hb:bootBuiltins "isinstance"=some (.builtin "isinstance"):=by kernel_rfl
 refine aT.imp (tF (L1 hK tt) hg hm hb (jH ha (jH (HU hgU hmU hU (v:=.ty T) rfl hnU hdU) lO hs2) he) (by decide) (by decide) he hpl) ?_;rintro σ H Q ⟨G,ρ,r,h⟩;unfold cq at h;refine⟨G,ρ,r,?_⟩;cases aq:m ρ with
 |bad=>rw[aq]at h;exact h.elim
 |exc c=>rw[aq]at h;exact h
 |ok d=>
  rw[aq,R.bt]at h;intro x H1 aJ ar s1 bL;unfold e5 at h;cases e:tZ d with
  |none=>rw[e]at h;exact h.elim
  |some r2=>rw[e]at h;exact⟨aJ,d,x,r2,ar.aH.sub,rfl,bL,e,h _ H1 aJ ar s1 (by simp only[At])⟩
noncomputable def aG:D→D→R D
 |.lst xs,.int i=>match gf xs i with|some d=>.ok d|none=>.bad
 |.cx xs,.int i=>match gf xs i with|some d=>.ok d|none=>.bad
 |.tup xs,.int i=>match gf xs i with|some d=>.ok d|none=>.bad
 |.dk xs,.int i=>match gf xs i with|some d=>.ok d|none=>.bad
 |.str x,.int i=>if x.length≤1000000 then match gf x.cps.toList i with|some c=>.ok (.str ⟨#[c]⟩)|none=>.bad else .bad
 |_,_=>.bad
theorem r7{K:PySem.W.Frag}{G:ag}{ds:List D}{xs:List V}{i:Int}{d:D}(q:aI K G ds xs)(e:gf ds i=some d):∃v,gf xs i=some v∧At K G d v:=by
 unfold gf at e ⊢;rw[q.length]at e;cases i6:jf xs.length i with
 |none=>rw[i6]at e;cases e
 |some j=>rw[i6]at e;obtain⟨v,ak,a⟩:=q.get e;exact⟨v,ak,a⟩
theorem Tt(hK:F.K=X.K):fE F (Iq X.K) aG:=by
 intro σ ρ G H x y aN fy Q r bL cJ k;unfold aG at k
 split at k
 ·rename_i ds i;simp only[At]at bL cJ;obtain⟨p,xs,e,h,q⟩:=bL
  split at k
  ·rename_i d dy;obtain⟨v,ev,bb⟩:=r7 q dy;exact .inl ⟨p,xs,i,v,e,cJ,bU.of (r.aH.sub _ _ h),ev,k _ H G r (cc.refl _ _) bb⟩
  ·exact k.elim
 ·rename_i ds i;simp only[At]at bL cJ;obtain⟨p,xs,e,h,q⟩:=bL
  split at k
  ·rename_i d dy;obtain⟨v,ev,bb⟩:=r7 q dy;have h':=h;rw[hK]at h';exact .inl ⟨p,xs,i,v,e,cJ,bU.mono r.aH.sub h',ev,k _ H G r (cc.refl _ _) bb⟩
  ·exact k.elim
 ·rename_i ds i;simp only[At]at bL cJ;obtain⟨p,xs,e,h,q⟩:=bL
  split at k
  ·rename_i d dy;obtain⟨v,ev,bb⟩:=r7 q dy;exact .inr (.inl ⟨p,xs,i,v,e,cJ,cK.of (r.aH.sub _ _ h),ev,k _ H G r (cc.refl _ _) bb⟩)
  ·exact k.elim
 ·rename_i ds i;simp only[At]at bL cJ;obtain⟨p,xs,e,h,q⟩:=bL
  split at k
  ·rename_i d dy;obtain⟨v,ev,bb⟩:=r7 q dy;have h':=h;rw[hK]at h';exact .inr (.inl ⟨p,xs,i,v,e,cJ,cK.mono r.aH.sub h',ev,k _ H G r (cc.refl _ _) bb⟩)
  ·exact k.elim
 ·rename_i z i;simp only[At]at bL cJ
  split at k
  ·rename_i hl
   split at k
   ·rename_i c ec;exact .inr (.inr ⟨z,i,c,bL,cJ,Nat.le_trans hl (by decide),ec,k _ H G r (cc.refl _ _) (by simp only[At])⟩)
   ·exact k.elim
  ·exact k.elim
 ·exact k.elim
theorem Na(ha:a6 X F a m)(hb:a6 X F b n)(hs:rZ b)(hK:F.K=X.K:=by rfl):a6 X F (.Subscript a b pos) (ao aG m n):=aT.imp (HW GF ha hb hs) (vQ (Tt hK))
end
section
variable{X:aC}{F:a4}{e a b c:Expr}{es:List Expr}{pos p:Pos}{m n:az}{ma:aO}
noncomputable def d9{α:Type}(xs:List α)(lo hi:Option Int):List α:=(xs.drop (dI.ek xs.length 0 lo)).take (dI.ek xs.length xs.length hi-dI.ek xs.length 0 lo)
def o6(x:Str)(lo hi:Option Int):Str:=⟨(d9 x.cps.toList lo hi).toArray⟩
theorem W8(lo hi:Option Int)(n:Nat):Builtin.Str.strSliceIndices lo hi 1 n=(List.range (dI.ek n n hi-dI.ek n 0 lo)).map (dI.ek n 0 lo+·):=by
 rw[←sliceRange_one];unfold Builtin.Str.strSliceIndices;simp only[show(1:Int)>0 by decide,if_true]
 congr 1
 ·cases lo with
  |none=>rfl
  |some i=>
   show max 0 (min (if i<0 then i+(n:Int)else i) (n:Int))=((if i<0 then(i+(n:Int)).toNat else min i.toNat n:Nat):Int)
   split<;>omega
 ·cases hi with
  |none=>rfl
  |some i=>
   show max 0 (min (if i<0 then i+(n:Int)else i) (n:Int))=((if i<0 then(i+(n:Int)).toNat else min i.toNat n:Nat):Int)
   split<;>omega
theorem IH(n:Nat)(v:Option Int){d:Nat}(hd:d≤n):dI.ek n d v≤n:=by
 cases v with
 |none=>exact hd
 |some i=>
  show(if i<0 then(i+(n:Int)).toNat else min i.toNat n)≤n
  split<;>omega
theorem WY(x:Str)(lo hi:Option Int):Txt.slice x lo hi=o6 x lo hi:=by
 have hl:x.cps.toList.length=x.length:=by simp[Str.length]
 unfold Txt.slice o6 d9;rw[W8,hl]
 split
 ·rename_i h;have h:dI.ek x.length x.length hi-dI.ek x.length 0 lo=x.length:=by simpa using h
  have h1:=IH x.length hi (Nat.le_refl _);have h2:dI.ek x.length 0 lo=0∨x.length=0:=by omega
  have e:(x.cps.toList.drop (dI.ek x.length 0 lo)).take (dI.ek x.length x.length hi-dI.ek x.length 0 lo)=x.cps.toList:=by
   rw[h];rcases h2 with z|z
   ·rw[z,List.drop_zero,List.take_of_length_le (by omega)]
   ·have cP:x.cps.toList=[]:=List.length_eq_zero_iff.mp (by omega);rw[cP];simp
  rw[e]
 ·rw[pick_run]
noncomputable def Iz:V→Option Int→Option Int→ag→cj→Prop:=fun x lo hi H Q=>∃z,x=.str z∧z.length≤sizeLine∧Q (.str (o6 z lo hi)) H
theorem HR{v:Value}{o:Option Int}(h:IsPart v o):∃l:Option (Int×Tok),v=partValue l∧l.map (·.1)=o:=by
 cases h with
 |none=>exact⟨none,rfl,rfl⟩
 |int i t=>exact⟨some (i,t),rfl,rfl⟩
theorem WV:oT X Iz:=by
 intro pins s σ H x v kl km lo hi cw Q I bl hs pl pu h;obtain⟨z,rfl,bq,q⟩:=h;obtain⟨t,rfl⟩:=bl;obtain⟨l,rfl,el⟩:=HR pl;obtain⟨u,rfl,nz⟩:=HR pu;refine⟨"str",_,F.slot_str_getitem.lookup,typeIs_str s z t,wpAny_getItem_str_slice (l:=l) (u:=u) (st:=none) ?_ rfl ?_⟩
 ·obtain⟨o,h1,h2,h3⟩:=hs;exact⟨o,h1,h2,h3⟩
 ·have e:Txt.slice z lo hi=o6 z lo hi:=WY z lo hi;have fin:∀t' k,fu X pins σ Q (.str (Txt.slice z lo hi) t') { s with toks:=k }:=fun t' k=>⟨.str (o6 z lo hi),H,I.tok k,⟨t',by rw[e]⟩,q⟩;unfold Txt.slice at fin;subst el nz;exact post_val_or_str ⟨Nat.le_trans (Txt.slice_le z _ _) bq,fin⟩
abbrev kz:=aj→R (Option Int)
def kO:kz:=fun _=>.ok none
def intD:D→R (Option Int)
 |.int i=>.ok (some i)
 |_=>.bad
def ig(m:az):kz:=fun ρ=>(m ρ).bind intD
noncomputable def Q7(F:a4)(G H:ag)(σ :St)(ρ:aj)(Q:Option Int→ag→Prop):R (Option Int)→Prop
 |.ok o=>∀H' G',Rel F G' H' σ ρ→cc G H G' H'→Q o H'
 |.exc c=>jA F c
 |.bad=>False
def xh(F:a4)(m:kz):b0:=fun σ H Q=>∃G ρ,Rel F G H σ ρ∧Q7 F G H σ ρ Q (m ρ)
abbrev uD(X:aC)(F:a4)(e:Option Expr)(m:kz):Prop:=qo X e (xh F m)
theorem TY:uD X F none kO:=fun pins s σ H Q I h=>by obtain⟨G,ρ,r,k⟩:=h;exact UI pins s σ H Q I (k H G r (cc.refl _ _))
theorem TZ(h:a6 X F e m):uD X F (some e) (ig m):=fun pins s σ H Q I hw=>by
 obtain⟨G,ρ,r,k⟩:=hw;refine UJ h pins s σ H Q I ⟨G,ρ,r,?_⟩;unfold ig at k;cases aq:m ρ with
 |bad=>rw[aq]at k;exact k.elim
 |exc c=>rw[aq]at k;exact k
 |ok d=>
  rw[aq,R.bt]at k;intro x H1 aJ ar s1 bL;cases d with
  |int i=>simp only[At]at bL;exact⟨i,bL,k H1 aJ ar s1⟩
  |_=>exact k.elim
noncomputable def iN(f:D→Option Int→Option Int→R D)(m:az)(lo hi:kz):az:=fun ρ=>(m ρ).bind fun d=>(lo ρ).bind fun l=>(hi ρ).bind fun h=>f d l h
noncomputable def ip(d:D)(l h:Option Int):R D:=match d with
 |.lst xs=>.ok (.lst (d9 xs l h))
 |.cx xs=>.ok (.lst (d9 xs l h))
 |.str x=>if x.length≤1000000 then .ok (.str (o6 x l h))else .bad
 |_=>.bad
theorem aI.cut{K:PySem.W.Frag}{G:ag}{ds:List D}{xs:List V}(q:aI K G ds xs)(l h:Option Int):aI K G (d9 ds l h) (qF xs l h):=by unfold d9 qF;rw[q.length];exact(q.drop _).take _
theorem Qm(hK:F.K=X.K){lo hi:kz}:en (cC F (iN ip m lo hi)) (JH (fun x lo hi H Q=>Iy X.K x lo hi H Q∨Iz x lo hi H Q) (cC F m) (xh F lo) (xh F hi)):=by
 rintro σ H Q ⟨G,ρ,r,h⟩;unfold iN at h;refine⟨G,ρ,r,?_⟩;cases aq:m ρ with
 |bad=>rw[aq]at h;exact h.elim
 |exc c=>rw[aq]at h;exact h
 |ok d=>
  rw[aq,R.bt]at h;intro x H1 aJ ar s1 bL;refine⟨aJ,ρ,ar,?_⟩;cases el:lo ρ with
  |bad=>rw[el]at h;exact h.elim
  |exc c=>rw[el]at h;exact h
  |ok l=>
   rw[el,R.bt]at h;intro aS cI a5 s2;refine⟨cI,ρ,a5,?_⟩;cases sh:hi ρ with
   |bad=>rw[sh]at h;exact h.elim
   |exc c=>rw[sh]at h;exact h
   |ok u=>
    rw[sh,R.bt]at h;intro cQ f9 dN s3;have up:=s1.trans (s2.trans s3);have qv:=(bL.mono s2.g).mono s3.g;cases d with
    |lst ds=>simp only[At]at qv;obtain⟨q,xs,rfl,aK,al⟩:=qv;refine .inl ⟨q,xs,rfl,bU.of (dN.aH.sub _ _ aK),fun cf aE=>?_⟩;refine h (.ref cf) _ _ (dN.lay aE) (up.trans (cc.lay dN.aH.sub aE)) ?_;simp only[At];exact⟨cf,_,rfl,d0,(al.cut l u).mono (Sub.upd (dN.aH.sub.gone aE))⟩
    |cx ds=>simp only[At]at qv;obtain⟨q,xs,rfl,aK,al⟩:=qv;have jc:=aK;rw[hK]at jc;refine .inl ⟨q,xs,rfl,bU.mono dN.aH.sub jc,fun cf aE=>?_⟩;refine h (.ref cf) _ _ (dN.lay aE) (up.trans (cc.lay dN.aH.sub aE)) ?_;simp only[At];exact⟨cf,_,rfl,d0,(al.cut l u).mono (Sub.upd (dN.aH.sub.gone aE))⟩
    |str z=>
     simp only[At]at qv;have h:ie F G H σ ρ Q (if z.length≤1000000 then .ok (.str (o6 z l u))else .bad):=h
     split at h
     ·rename_i bq;exact .inr ⟨z,qv,Nat.le_trans bq (by decide),h _ cQ f9 dN up (by simp only[At])⟩
     ·exact h.elim
    |_=>exact h.elim
theorem Nq{lo hi:Option Expr}{bR:Pos}{tr tq:kz}(ha:a6 X F a m)(hl:uD X F lo tr)(hh:uD X F hi tq)(hK:F.K=X.K:=by rfl):a6 X F (.Subscript a (.Slice lo hi none bR) pos) (iN ip m tr tq):=aT.imp (Up (WU.or WV) ha hl hh) (Qm hK)
def pY:List D→R D
 |[.int i]=>if i.natAbs.log2<1920 then .ok (.str (toString i))else .bad
 |_=>.bad
theorem Tx:oE F (fun xs H Q=>∃i,xs=[.int i]∧i.natAbs.log2<1920∧Q (.str (toString i)) H) pY:=by
 intro σ ρ G H xs ds Q r al k;unfold pY at k
 split at k
 ·rename_i i
  split at k
  ·rename_i hl;exact⟨i,al.ints1,hl,k _ H G r (cc.refl _ _) (by simp only[At])⟩
  ·exact k.elim
 ·exact k.elim
theorem Nt(hm:X.mg "str"=none)(ha:gy X F [e] ma)(hg:cy X "str":=by rfl)(he:starEach [e] X.env=(false,eval e X.env)::starEach [] X.env:=by rfl)(hpl:(backTo pos (starEach [] X.env)).any (·.1)=false:=by rfl) :
  a6 X F (.Call (.Name "str" p) [e] [] pos) (cN pY ma):=El L7 Tx hm (by kernel_rfl) ha hg (by decide) (by decide) he hpl
end
end ax
namespace aQ
open PySem PySem.Spec
section
variable{prog:Program}{w:World}{A:Around}{E:Value→Shared→Prop}{s:Shared}
theorem SY{it t:Addr}{i:Nat}{items:Array Value}{x:Value}{Q:Value→Shared→Prop}(hit:s.heap.IsTupleIter it t i)(ht:s.heap.IsTuple t items)(hx:items[i]?=some x)(gj:∀h',h'.IsTupleIter it t (i+1)→Heap.SameBut it s.heap h'→Q x { s with heap:=h' }):wpAny (model prog w) A (Builtin.SmallTypes.nextOf (.ref it)) Q E s:=by
 obtain⟨o,ho,hc,hd⟩:=id hit;obtain⟨ol,qR,_,nl,qO⟩:=ht;unfold Builtin.SmallTypes.nextOf
 refine wpAny_bind (wpAny_callSpecial?_slot (name:=Str.ofString "__next__") hit.typeIs F.slot_tuple_iterator_next
  (wpAny_call_entry F.slot_tuple_iterator_next hit.typeIs F.entry_tuple_iterator_next ?_ (F.args_tuple_iterator_next_1 _)))
 show wpAny _ _ (field (.ref it) 0>>=_) _ _ s;refine wpAny_bind (wpAny_field ho hd (x:=.ref t) rfl ?_);show wpAny _ _ (if(Value.ref t==Value.none)=true then _ else _) _ _ s;rw[if_neg (show¬((Value.ref t==Value.none)=true)from Bool.false_ne_true)];show wpAny _ _ (field (.ref it) 1>>=_) _ _ s;refine wpAny_bind (wpAny_field ho hd (x:=.int i 0) rfl ?_);show wpAny _ _ (seqItems? (.ref t)>>=_) _ _ s;refine wpAny_bind (wpAny_seqItems qR qO ?_);simp only[Int.toNat_natCast,hx];refine wpAny_bind (wpAny_setField ho hd (by simp) (wpAny_pure ⟨x,rfl,wpAny_pure (gj _ ?_ (Heap.SameBut.update ..))⟩));exact⟨_,Heap.get?_update_self _ ho (Obj.isFreed_of_fields (Obj.data_mapFields hd _)),(Obj.cls_mapFields ..).trans hc,by
  rw[Obj.data_mapFields hd];simp[rawInt]⟩
theorem SX{it t:Addr}{i:Nat}{items:Array Value}{Q:Value→Shared→Prop}(hh:A.handled=none)(hit:s.heap.IsTupleIter it t i)(ht:s.heap.IsTuple t items)(hx:items[i]?=none)(hE:∀h' e,Heap.ExtBut it s.heap h'→(∃o,h'.get? e=some o∧o.cls=.type "StopIteration")→E (.ref e) { s with heap:=h' }):wpAny (model prog w) A (Builtin.SmallTypes.nextOf (.ref it)) Q E s:=by
 obtain⟨o,ho,hc,hd⟩:=id hit;obtain⟨ol,qR,_,nl,qO⟩:=ht;unfold Builtin.SmallTypes.nextOf
 refine wpAny_bind (wpAny_callSpecial?_slot (name:=Str.ofString "__next__") hit.typeIs F.slot_tuple_iterator_next
  (wpAny_call_entry F.slot_tuple_iterator_next hit.typeIs F.entry_tuple_iterator_next ?_ (F.args_tuple_iterator_next_1 _)))
 show wpAny _ _ (field (.ref it) 0>>=_) _ _ s;refine wpAny_bind (wpAny_field ho hd (x:=.ref t) rfl ?_);show wpAny _ _ (if(Value.ref t==Value.none)=true then _ else _) _ _ s;rw[if_neg (show¬((Value.ref t==Value.none)=true)from Bool.false_ne_true)];show wpAny _ _ (field (.ref it) 1>>=_) _ _ s;refine wpAny_bind (wpAny_field ho hd (x:=.int i 0) rfl ?_);show wpAny _ _ (seqItems? (.ref t)>>=_) _ _ s;refine wpAny_bind (wpAny_seqItems qR qO ?_);simp only[Int.toNat_natCast,hx];refine wpAny_bind (wpAny_rule (wpAny_bind (wpAny_setField ho hd (by simp) ?_)));show wpAny _ _ (newExc (.type "StopIteration") []>>=_) _ _ _;refine wpAny_bind ?_;simp only[newExc,newTuple];refine wpAny_bind (wpAny_newObj_type ?_ (by size_fits));refine wpAny_bind (m:=firstArgMember _ _) (wpAny_of_eq (a:=Value.none) (by first|rfl|(simp only[firstArgMember];rfl)) ?_);refine wpAny_newObj_type ?_ (by size_fits);simp only[raiseNew];refine wpAny_bind (wpAny_handled ?_)
 first|rw[show A.in1.handled=none from hh]|rw[hh]
 refine wpAny_bind (wpAny_pure (wpAny_throw ?_));exact hE _ _ (((Heap.SameBut.update ..).extBut.push _).push _) ⟨_,Heap.get?_push_size _ rfl,rfl⟩
theorem Eg(hh:A.handled=none)(it l:Addr)(nF:l≠it)(items:Array Value) :
  Draws prog w A it [it,l] items.size (fun i v=>items[i]?=some v) (fun i h=>h.IsTupleIter it l i∧h.IsTuple l items) where
 live:=fun _ _ st=>let⟨o,ho,_⟩:=st.1;⟨o,ho⟩
 frame:=fun _ _ _ st hk=>⟨st.1.at fun o e=>hk it (by simp) o e,st.2.at fun o e=>hk l (by simp) o e⟩
 item:=fun i s Q E hi st gj=>by refine SY st.1 st.2 (x:=items[i]) (by simp[hi]) fun h' OW jd=>?_;exact gj _ h' s.toks (by simp[hi]) ⟨OW,st.2.extBut jd.extBut nF⟩ jd
 done:=fun s Q E st hE=>SX hh st.1 st.2 (by simp) hE
structure qt(z TI b0 bK bQ:Addr)(f1 f2:List Addr):Prop where
 TIz:TI≠z
 TOz:b0≠z
 TITO:TI≠b0
 TIi1:TI≠bK
 TIi2:TI≠bQ
 TOi1:b0≠bK
 TOi2:b0≠bQ
 i1z:bK≠z
 i2z:bQ≠z
 i12:bK≠bQ
 zg:z∉f1
 EA:b0∉f1
 NW:bQ∉f1
 zi:z∉f2
 zh:b0∉f2
 EB:bK∉f2
theorem j1{aY:List Addr}{n:Nat}{P:Nat→Value→Prop}{St:Nat→Heap→Prop}{it b:Addr}{h h':Heap}{i:Nat}(D:Draws prog w A it aY n P St)(st:St i h)(hs:Heap.SameBut b h h')(hb:b∉aY):St i h':=
 D.frame i h h' st fun c hc o e=>hs.extBut c o (fun z=>hb (z▸hc)) e
theorem Zv {z TI b0 bK bQ:Addr} {f1 f2:List Addr} {c8 c0 i:Nat} {iW iC:Nat→Value→Prop} {iF iG:Nat→Heap→Prop} {a b:Value} {Q:Value→Shared→Prop} (gY:Draws prog w A bK f1 c8 iW iF) (gL:Draws prog w A bQ f2 c0 iC iG) (ap:qt z TI b0 bK bQ f1 f2)(bq:IsZip s.heap z TI b0 .none) (hC:IsPair s.heap TI (.ref bK) (.ref bQ)) (ib:IsPair s.heap b0 a b) (h1:iF i s.heap) (h2:iG i s.heap) (dA:i<c8) (cf:i<c0)(gj:∀x y h' cM,iW i x→iC i y→IsZip h' z TI b0 (rawInt s.heap.objs.size)→IsPair h' b0 x y→iF (i+1) h'→iG (i+1) h'→IsPair h' s.heap.objs.size x y→h'.objs.size=s.heap.objs.size+1→
    (∀c o,c≠z→c≠b0→c≠bK→c≠bQ→s.heap.get? c=some o→h'.get? c=some o)→Q (.ref s.heap.objs.size) { s with heap:=h',toks:=cM }) :
  wpAny (model prog w) A (Builtin.«zip.__next__» ⟨[.ref z],[]⟩) (fun fin s'=>∃v,fin=.done (.ret v)∧Q v s') E s:=by
 show wpAny _ _ (field (.ref z) 2>>=_) _ _ _;refine wpAny_bind (wpAny_field bq rfl (x:=.bool false) rfl ?_);show wpAny _ _ (field (.ref z) 3>>=_) _ _ _;refine wpAny_bind (wpAny_field bq rfl (x:=.ref TI) rfl ?_);refine wpAny_bind (wpAny_seqItems hC rfl ?_);show wpAny _ _ (Builtin.SmallTypes.ownedTupleIsFree (.ref z)>>=_) _ _ _;refine wpAny_bind ?_;unfold Builtin.SmallTypes.ownedTupleIsFree;refine wpAny_bind (wpAny_field bq rfl (x:=.none) rfl (wpAny_pure ?_));simp only[if_true];refine wpAny_bind (wpAny_rule ?_);refine wpAny_bind (wpAny_field bq rfl (x:=.ref b0) rfl ?_);refine wpAny_bind (wpAny_setField_rec bq (by simp) fun kJ nJ kI=>?_);replace nJ:IsZip kJ z TI b0 .ellipsis:=nJ;refine wpAny_bind ?_;simp only[List.zipIdx_cons,List.zipIdx_nil,List.forIn_cons,List.forIn_nil];refine wpAny_bind (wpAny_bind (wpAny_onRaise ?_));show wpAny _ _ (Builtin.SmallTypes.nextOf (.ref bK)>>=_) _ _ _;refine wpAny_bind (gY.item i _ _ _ dA (j1 gY h1 kI ap.zg) fun x pw JU hx Jp jx=>wpAny_pure ?_);have sA:IsPair pw b0 a b:=jx.extBut _ _ ap.TOi1 (kI.extBut _ _ ap.TOz ib);refine wpAny_bind (wpAny_seqItems sA rfl ?_);refine wpAny_bind (wpAny_updateSeq_pair sA fun nK vB j5=>?_);replace vB:IsPair nK b0 x b:=vB;refine wpAny_bind (wpAny_letGo (wpAny_pure ?_));refine wpAny_bind (wpAny_bind (wpAny_onRaise ?_));show wpAny _ _ (Builtin.SmallTypes.nextOf (.ref bQ)>>=_) _ _ _;have W4:iG i nK:=j1 gL (j1 gL (j1 gL h2 kI ap.zi) jx ap.EB) j5 ap.zh;refine wpAny_bind (gL.item i _ _ _ cf W4 fun y qU abh bJ Xa nH=>wpAny_pure ?_);have FN:IsPair qU b0 x b:=nH.extBut _ _ ap.TOi2 vB;refine wpAny_bind (wpAny_seqItems FN rfl ?_);refine wpAny_bind (wpAny_updateSeq_pair FN fun fV vC nI=>?_);replace vC:IsPair fV b0 x y:=vC;refine wpAny_bind (wpAny_letGo (wpAny_pure (wpAny_pure ?_)));refine wpAny_bind (wpAny_seqItems vC rfl ?_);refine wpAny_bind (wpAny_newTuple ?_);have hsz:fV.objs.size=s.heap.objs.size:=by rw[nI.1,nH.1,j5.1,jx.1,kI.1]
 have F9:IsZip fV z TI b0 .ellipsis:=nI.extBut _ _ ap.TOz.symm (nH.extBut _ _ ap.i2z.symm (j5.extBut _ _ ap.TOz.symm (jx.extBut _ _ ap.i1z.symm nJ)));have O4:∀c o,c≠z→c≠b0→c≠bK→c≠bQ→s.heap.get? c=some o→fV.get? c=some o:=fun c o bu c5 eM i4 e=>
  nI.extBut _ _ c5 (nH.extBut _ _ i4 (j5.extBut _ _ c5 (jx.extBut _ _ eM (kI.extBut _ _ bu e))))
 have W3:iF (i+1) fV:=j1 gY (j1 gY (j1 gY Jp j5 ap.EA) nH ap.NW) nI ap.EA;have W5:iG (i+1) fV:=j1 gL Xa nI ap.zh;have F6:z<fV.objs.size:=Heap.lt_size F9;show wpAny _ _ (Builtin.SmallTypes.ownedTupleHandOut (.ref z) (.ref fV.objs.size)>>=_) _ _ _;refine wpAny_bind ?_;unfold Builtin.SmallTypes.ownedTupleHandOut;have PD:IsZip (fV.push { cls:=.type "tuple",data:=.seq #[x,y] }) z TI b0 .ellipsis:=Heap.get?_push_of_some _ F9;refine wpAny_bind (wpAny_setField_rec PD (by simp) fun PG zT zO=>?_);replace zT:IsZip PG z TI b0 (rawInt fV.objs.size):=zT;refine wpAny_setField_rec zT (by simp) fun sO vN zP=>?_;replace vN:IsZip sO z TI b0 (rawInt fV.objs.size):=vN;have up:∀c o,c≠z→fV.get? c=some o→sO.get? c=some o:=fun c o bu e=>zP.extBut _ _ bu (zO.extBut _ _ bu (Heap.get?_push_of_some _ e));have FP:IsPair sO fV.objs.size x y:=zP.extBut _ _ (Nat.ne_of_gt F6) (zO.extBut _ _ (Nat.ne_of_gt F6) (Heap.get?_push_size _ rfl));have F5:sO.objs.size=fV.objs.size+1:=by rw[zP.1,zO.1,Heap.size_push]
 rw[hsz]at vN FP F5;refine wpAny_pure ⟨_,rfl,?_⟩;show Q (.ref fV.objs.size) _;rw[hsz];exact gj x y sO _ hx bJ vN (up _ _ ap.TOz vC) (gY.frame _ _ _ W3 fun c hc o e=>up c o (fun q=>ap.zg (q▸hc)) e) (gL.frame _ _ _ W5 fun c hc o e=>up c o (fun q=>ap.zi (q▸hc)) e) FP F5 fun c o bu c5 eM i4 e=>up c o bu (O4 c o bu c5 eM i4 e)
theorem Zu{z TI b0 bK bQ:Addr}{f1 f2:List Addr}{c8 c0 i:Nat}{iW iC:Nat→Value→Prop}{iF iG:Nat→Heap→Prop}{a b:Value}{Q:Fin→Shared→Prop}(gY:Draws prog w A bK f1 c8 iW iF)(gL:Draws prog w A bQ f2 c0 iC iG)(ap:qt z TI b0 bK bQ f1 f2)(bq:IsZip s.heap z TI b0 .none)(hC:IsPair s.heap TI (.ref bK) (.ref bQ))(ib:IsPair s.heap b0 a b)(h1:iF i s.heap)(h2:iG i s.heap)(zD:i=c8∨(i<c8∧i=c0))(hE:∀h' e cM,(∀c o,c≠z→c≠b0→c≠bK→c≠bQ→s.heap.get? c=some o→h'.get? c=some o)→(∃o,h'.get? e=some o∧o.cls=.type "StopIteration")→E (.ref e) { s with heap:=h',toks:=cM }) :
  wpAny (model prog w) A (Builtin.«zip.__next__» ⟨[.ref z],[]⟩) Q E s:=by
 show wpAny _ _ (field (.ref z) 2>>=_) _ _ _;refine wpAny_bind (wpAny_field bq rfl (x:=.bool false) rfl ?_);show wpAny _ _ (field (.ref z) 3>>=_) _ _ _;refine wpAny_bind (wpAny_field bq rfl (x:=.ref TI) rfl ?_);refine wpAny_bind (wpAny_seqItems hC rfl ?_);show wpAny _ _ (Builtin.SmallTypes.ownedTupleIsFree (.ref z)>>=_) _ _ _;refine wpAny_bind ?_;unfold Builtin.SmallTypes.ownedTupleIsFree;refine wpAny_bind (wpAny_field bq rfl (x:=.none) rfl (wpAny_pure ?_));simp only[if_true];refine wpAny_bind (wpAny_rule ?_);refine wpAny_bind (wpAny_field bq rfl (x:=.ref b0) rfl ?_);refine wpAny_bind (wpAny_setField_rec bq (by simp) fun kJ nJ kI=>?_);replace nJ:IsZip kJ z TI b0 .ellipsis:=nJ;refine wpAny_bind ?_;simp only[List.zipIdx_cons,List.zipIdx_nil,List.forIn_cons,List.forIn_nil];refine wpAny_bind (wpAny_bind (wpAny_onRaise ?_));show wpAny _ _ (Builtin.SmallTypes.nextOf (.ref bK)>>=_) _ _ _;have Jg:iF i kJ:=j1 gY h1 kI ap.zg;rcases zD with ak|⟨dA,ay⟩
 ·subst ak;refine wpAny_bind (gY.done _ _ _ Jg fun pw e jx he=>?_);obtain⟨wB,pv,sG⟩:=he;have F7:IsZip pw z TI b0 .ellipsis:=jx _ _ ap.i1z.symm nJ;have zE:e≠z:=fun x=>by subst x;rw[F7]at pv;cases pv;simp at sG
  refine wpAny_setField_rec F7 (by simp) fun nK _ j5=>hE nK e s.toks (fun c o bu _ eM _ x=>j5.extBut _ _ bu (jx _ _ eM (kI.extBut _ _ bu x))) ⟨wB,j5.extBut _ _ zE pv,sG⟩
 ·subst ay;refine wpAny_bind (gY.item _ _ _ _ dA Jg fun x pw JU hx Jp jx=>wpAny_pure ?_);have sA:IsPair pw b0 a b:=jx.extBut _ _ ap.TOi1 (kI.extBut _ _ ap.TOz ib);refine wpAny_bind (wpAny_seqItems sA rfl ?_);refine wpAny_bind (wpAny_updateSeq_pair sA fun nK vB j5=>?_);refine wpAny_bind (wpAny_letGo (wpAny_pure ?_));refine wpAny_bind (wpAny_bind (wpAny_onRaise ?_));show wpAny _ _ (Builtin.SmallTypes.nextOf (.ref bQ)>>=_) _ _ _;refine wpAny_bind (gL.done _ _ _ (j1 gL (j1 gL (j1 gL h2 kI ap.zi) jx ap.EB) j5 ap.zh) fun qU e nH he=>?_);obtain⟨wB,pv,sG⟩:=he;have F8:IsZip qU z TI b0 .ellipsis:=nH _ _ ap.i2z.symm (j5.extBut _ _ ap.TOz.symm (jx.extBut _ _ ap.i1z.symm nJ));have zE:e≠z:=fun x=>by subst x;rw[F8]at pv;cases pv;simp at sG
  refine wpAny_setField_rec F8 (by simp) fun fV _ nI=>hE fV e JU (fun c o bu c5 eM i4 x=>nI.extBut _ _ bu (nH _ _ i4 (j5.extBut _ _ c5 (jx.extBut _ _ eM (kI.extBut _ _ bu x))))) ⟨wB,nI.extBut _ _ zE pv,sG⟩
theorem U9 {z TI b0 bK bQ:Addr} {f1 f2:List Addr} {c8 c0 i:Nat} {iW iC:Nat→Value→Prop} {iF iG:Nat→Heap→Prop} {a b:Value} {Q:Option Value→Shared→Prop} (gY:Draws prog w A.in1 bK f1 c8 iW iF) (gL:Draws prog w A.in1 bQ f2 c0 iC iG) (ap:qt z TI b0 bK bQ f1 f2)(bq:IsZip s.heap z TI b0 .none) (hC:IsPair s.heap TI (.ref bK) (.ref bQ)) (ib:IsPair s.heap b0 a b) (h1:iF i s.heap) (h2:iG i s.heap) (dA:i<c8) (cf:i<c0)(gj:∀x y h' cM,iW i x→iC i y→IsZip h' z TI b0 (rawInt s.heap.objs.size)→IsPair h' b0 x y→iF (i+1) h'→iG (i+1) h'→IsPair h' s.heap.objs.size x y→h'.objs.size=s.heap.objs.size+1→
    (∀c o,c≠z→c≠b0→c≠bK→c≠bQ→s.heap.get? c=some o→h'.get? c=some o)→Q (some (.ref s.heap.objs.size)) { s with heap:=h',toks:=cM }) :
  wpAny (model prog w) A (pyNext (.ref z)) Q E s:=by
 have gk:s.TypeIs (.ref z) "zip":=⟨_,bq,rfl⟩;unfold pyNext
 exact wpAny_bind (wpAny_attempt (wpAny_callSpecial?_slot (name:=Str.ofString "__next__") gk F.slot_zip_next
  (wpAny_call_entry F.slot_zip_next gk F.entry_zip_next
    (Zv gY gL ap bq hC ib h1 h2 dA cf fun x y h' cM a1 a2 fg iY jX jY ye yf Li=>wpAny_pure (gj x y h' cM a1 a2 fg iY jX jY ye yf Li)) (F.args_zip_next_1 _))))
theorem U8{z TI b0 bK bQ:Addr}{f1 f2:List Addr}{c8 c0 i:Nat}{iW iC:Nat→Value→Prop}{iF iG:Nat→Heap→Prop}{a b:Value}{Q:Option Value→Shared→Prop}(gY:Draws prog w A.in1 bK f1 c8 iW iF)(gL:Draws prog w A.in1 bQ f2 c0 iC iG)(ap:qt z TI b0 bK bQ f1 f2)(bq:IsZip s.heap z TI b0 .none)(hC:IsPair s.heap TI (.ref bK) (.ref bQ))(ib:IsPair s.heap b0 a b)(h1:iF i s.heap)(h2:iG i s.heap)(zD:i=c8∨(i<c8∧i=c0))(gj:∀h' cM,(∀c o,c≠z→c≠b0→c≠bK→c≠bQ→s.heap.get? c=some o→h'.get? c=some o)→Q none { s with heap:=h',toks:=cM }):wpAny (model prog w) A (pyNext (.ref z)) Q E s:=by
 have gk:s.TypeIs (.ref z) "zip":=⟨_,bq,rfl⟩;unfold pyNext
 refine wpAny_bind (wpAny_attempt (wpAny_callSpecial?_slot (name:=Str.ofString "__next__") gk F.slot_zip_next
  (wpAny_call_entry F.slot_zip_next gk F.entry_zip_next (Zu gY gL ap bq hC ib h1 h2 zD fun h' e cM hk he=>?_) (F.args_zip_next_1 _))))
 obtain⟨o,ho,hc⟩:=he;refine wpAny_bind (wpAny_isInstance (T:="StopIteration") (b:=true) ⟨o,ho,hc⟩ isSubtype_stop ?_);exact wpAny_pure (gj _ _ hk)
end
theorem Inv.xn{X:aC}{pins:List (Addr×Obj)}{σ :St}{H:ag}{s:Shared}{h':Heap}{t':Nat}{ch:List Addr}(I:Inv X pins σ H s)(k:∀b o,b∉ch→s.heap.get? b=some o→h'.get? b=some o)(hf:∀b∈ch,iU X pins H b):Inv X pins σ H { s with heap:=h',toks:=t' }:=by
 have n8:∀b u,H b=some u→b∉ch:=fun b u e z=>by rw[(hf b z).1]at e;cases e
 refine I.step (g':=s.gens) (d':=s.drawn) (ch:=ch) (fun b hb=>?_) (fun b o _ _ hc e _=>k b o hc e) (fun b o _ _ hc e _=>⟨o.slots,k b o hc e⟩) (fun _ _ _ _ n=>n)
  (fun b o hc e=>⟨o,k b o hc e⟩) (fun _ _ e=>e) (fun _ _ _ e=>e) (fun b ps e=>⟨#[],by rw[e];simp⟩) (fun m hm=>?_) (fun b u e=>?_) I.bare
 ·obtain⟨_,f1,_,e_,f4,hz⟩:=hf b hb;exact⟨e_,f1,f4,hz⟩
 ·obtain⟨o,es,cH,ho,r⟩:=hm;exact⟨o,es,cH,k _ o (fun z=>(hf _ z).2.1 rfl) ho,r⟩
 ·refine(I.br b u e).kU (fun c v hc q=>k c v ?_ q) (fun _ q=>q) fun _ _ q=>q;rcases hc with z|z
  ·rw[z];exact n8 b u e
  ·exact n8 c _ z
theorem Inv.JR{X:aC}{pins:List (Addr×Obj)}{σ :St}{H:ag}{s:Shared}{h':Heap}{t':Nat}{ch:List Addr}{T:Addr}{xs:List V}{its:List Value}(I:Inv X pins σ H s)(k:∀b o,b∉ch→s.heap.get? b=some o→h'.get? b=some o)(hf:∀b∈ch,iU X pins H b)(gk:s.heap.objs.size≤T)(ht:PyProof.Rows.IsTup h' T its.toArray)(bV:Vals xs its)(bq:xs.length≤sizeLine):Inv X pins σ (upd H T (.tup xs)) { s with heap:=h',toks:=t' }:=by
 have n8:∀b u,H b=some u→b∉ch:=fun b u e z=>by rw[(hf b z).1]at e;cases e
 have aE:H T=none:=I.br.fresh gk;have neT:∀b o,s.heap.get? b=some o→b≠T:=fun b o e=>Nat.ne_of_lt (Nat.lt_of_lt_of_le (Heap.lt_size e) gk)
 refine I.step (g':=s.gens) (d':=s.drawn) (ch:=ch) (fun b hb=>?_) (fun b o _ _ hc e _=>k b o hc e) (fun b o _ _ hc e _=>⟨o.slots,k b o hc e⟩) (fun b o _ e n=>by rw[c2 (neT b o e)];exact n)
  (fun b o hc e=>⟨o,k b o hc e⟩) (fun b ys e=>by rw[c2 (iP e aE)];exact e) (fun b _ _ e=>by rw[c2 (iP e aE)];exact e) (fun b ps e=>⟨#[],by rw[c2 (iP e aE),e];simp⟩) (fun m hm=>?_) (fun b u e=>?_) I.bare
 ·obtain⟨_,f1,_,e_,f4,hz⟩:=hf b hb;exact⟨e_,f1,f4,hz⟩
 ·obtain⟨o,es,cH,ho,r⟩:=hm;exact⟨o,es,cH,k _ o (fun z=>(hf _ z).2.1 rfl) ho,r⟩
 ·by_cases hb:b=T
  ·subst hb;rw[d0]at e;cases e;exact⟨bq,its,bV,ht⟩
  ·rw[c2 hb]at e;refine(I.br b u e).kU (fun c v hc q=>k c v ?_ q) (fun c q=>by rw[c2 (iP q aE)];exact q) fun c ys q=>by rw[c2 (iP q aE)];exact q
   rcases hc with z|z
   ·rw[z];exact n8 b u e
   ·exact n8 c _ z
noncomputable def x2(x:Str):It:=⟨fun i _=>i<x.cps.size,fun i H v H'=>H'=H∧∃c,x.cps[i]?=some c∧v=.str ⟨#[c]⟩,fun i _=>i=x.cps.size⟩
theorem Kl{prog:Program}{w:World}{A:Around}(hh:A.handled=none)(I:Addr)(x:Str)(t:Tok):Walks prog w A I [I] [I] x.cps.size (SignAt x) (fun i h=>h.IsStrIter I (strIterType x) x t i):=by
 unfold strIterType;cases ha:x.cps.all (· <128)
 ·rw[if_neg Bool.false_ne_true];exact Walks.strWide hh I x t
 ·rw[if_pos rfl];exact Walks.strAscii hh I x t
theorem Ef{prog:Program}{w:World}{A:Around}(hh:A.handled=none)(I:Addr)(x:Str)(t:Tok):Draws prog w A I [I] x.cps.size (fun i v=>∃c u,x.cps[i]?=some c∧v=.str ⟨#[c]⟩ u) (fun i h=>h.IsStrIter I (strIterType x) x t i):=by
 unfold strIterType;cases ha:x.cps.all (· <128)
 ·rw[if_neg Bool.false_ne_true];exact Draws.strWide hh I x t
 ·rw[if_pos rfl];exact Draws.strAscii hh I x t
theorem W7(x:Str):["enumerate","zip","dict_itemiterator","dict_reverseitemiterator","odict_iterator","itertools.zip_longest","itertools.pairwise"].contains (strIterType x)=false:=by
 unfold strIterType
 split<;>decide
theorem X4{P:Program}{w:World}{K:PySem.W.Frag}{bw:Expr}(it:Addr)(x:Str)(t:Tok):Turn P w K bw (x2 x) [it] it (fun i h=>h.IsStrIter it (strIterType x) x t i) where
 mem:=by simp
 obj:=fun i h st b hb=>by
  have e:b=it:=by simpa using hb
  subst e;obtain⟨o,e,c,d⟩:=st;exact⟨o,e,fun v z=>by rw[d]at z;cases z⟩
 keep:=fun i h h' st k=>by obtain⟨o,e,r⟩:=st;exact⟨o,k it (by simp) o e,r⟩
 item:=by intro X dz hw hK hc i pins s σ H E I hf st hg;subst dz hw hK;have W:=Kl (prog:=X.prog) (w:=X.w) (A:=X.A) (I.ok.hd hc) it x t;refine W.item i s _ _ hg st fun v h' cM hv kT cb=>?_;obtain⟨c,u,vE,rfl⟩:=hv;have aL:Inv X pins σ H { s with heap:=h',toks:=cM }:=I.xn (ch:=[it]) cb hf;obtain⟨o,e,bu,d1⟩:=id kT;exact⟨_,rfl,vy (s:={ s with heap:=h',toks:=cM }) e bu d1 (W7 x) ⟨.str ⟨#[c]⟩,H,aL,⟨u,rfl⟩,⟨rfl,c,vE,rfl⟩,kT,fun b hb=>(hf b hb).1⟩⟩
 done:=by intro X dz hw hK hc i pins s σ H E I hf st hg;subst dz hw hK;have W:=Kl (prog:=X.prog) (w:=X.w) (A:=X.A) (I.ok.hd hc) it x t;have hi:i=x.cps.size:=hg;subst hi;exact W.done s _ _ st fun h' cM cb=>⟨rfl,I.xn (ch:=[it]) cb hf⟩
 self:=fun A i s Q E st h=>by
  unfold strIterType at st;cases ha:x.cps.all (· <128)
  ·rw[ha,if_neg Bool.false_ne_true]at st;exact wpAny_pyIter_striter_wide st h
  ·rw[ha,if_pos rfl]at st;exact wpAny_pyIter_striter_ascii st h
section
variable{X:aC}{bw:Expr}
def Gh(tl:TE):TI:=fun σ H R=>tl σ H fun v H1=>∃x,v=.str x∧R (x2 x) H1
theorem Uy{l:Expr}{tl:TE}(hl:aT X l tl):f_ X bw l (Gh tl):=by
 intro pins s σ H R I h;refine bF (hl pins s σ H _ I h) fun v s1⟨y,H1,aL,ar,aM⟩=>?_;obtain⟨x,e,q⟩:=aM;subst e;obtain⟨t,rfl⟩:=ar;refine wpAny_pyIter_strU ?_;refine⟨s1.heap.objs.size,[s1.heap.objs.size],_,_,H1,rfl,aL.kept (t':=s1.toks) fun b o e=>Heap.get?_push_of_some _ e,X4 _ x t,⟨_,Heap.get?_push_size _ rfl,rfl,rfl⟩,fun b hb=>?_,q⟩;have e:b=s1.heap.objs.size:=by simpa using hb
 subst e;exact aL.nA (Nat.le_refl _) (aL.br.fresh (Nat.le_refl _))
end
noncomputable def xZ(K:PySem.W.Frag)(l:Addr):It:=⟨fun i H=>∃xs x,bU K H l xs∧xs[i]?=some x,fun i H v H'=>∃p x,H p=none∧H'=upd H p (.tup [.int (i:Int),x])∧v=.ref p∧∀xs,bU K H l xs→xs[i]?=some x,fun i H=>∃xs,bU K H l xs∧xs.length=i⟩
theorem X1{P:Program}{w:World}{K:PySem.W.Frag}{elts:List Expr}{cb:Nat}{pos:Pos}(e it l:Addr)(FT:e≠it) :
  Turn P w K (.Tuple elts cb pos) (xZ K l) [e,it] e (fun i h=>(∃old,IsEnum h e it i old)∧h.IsListIter it l i) where
 mem:=by simp
 obj:=fun i h st b hb=>by
  obtain⟨⟨old,he⟩,o,ak,c,d⟩:=st;rcases List.mem_cons.mp hb with z|z
  ·subst z;exact⟨_,he,fun v z=>by have f6:Data.fields _=Data.cell v:=z;cases f6⟩
  ·have z:b=it:=by simpa using z
   subst z;exact⟨o,ak,fun v z=>by rw[d]at z;cases z⟩
 keep:=fun i h h' st k=>by obtain⟨⟨old,he⟩,hit⟩:=st;exact⟨⟨old,k e (by simp) _ he⟩,hit.at fun o x=>k it (by simp) o x⟩
 item:=by
  intro X dz hw hK hc i pins s σ H E I hf st hg;subst dz hw hK;obtain⟨xs,x,aK,hx⟩:=hg;obtain⟨its,bV,pl,bq⟩:=I.list aK;obtain⟨⟨old,he⟩,hit⟩:=st;have fj:=pl.isList;have hle:l≠e:=fun z=>by subst z;obtain⟨o,ho,iK,_⟩:=fj;rw[he]at ho;cases ho;have iK:Value.type "enumerate"=Value.type "list":=iK;injection iK with iK;exact absurd iK (by decide)
  have sL:l≠it:=fun z=>by subst z;obtain⟨o,ho,iK,_⟩:=fj;obtain⟨bz,ho',mw,_⟩:=hit;rw[ho']at ho;cases ho;rw[iK]at mw;injection mw with mw;exact absurd mw (by decide)
  have W:=WalksT.enumerate (prog:=X.prog) (w:=X.w) (A:=X.A) (I.ok.hd hc) e it l FT hle sL its.toArray;have hlen:=bV.length;have pq:i<xs.length:=(List.getElem?_eq_some_iff.mp hx).1;refine W.item i s _ _ (by rw[List.size_toArray,←hlen];exact pq) ⟨⟨old,he⟩,hit,fj⟩ fun T vals h' cM dz gk Oy pk hk=>?_;obtain⟨t,u,hu,rfl⟩:=dz;obtain⟨iq,zR,eb⟩:=bV.get hx;have nz:iq=u:=by rw[List.getElem?_toArray]at hu;rw[zR]at hu;exact Option.some.inj hu
  subst nz;refine⟨_,rfl,?_⟩;refine W.go elts cb pos i T { s with heap:=h',toks:=cM } _ _ pk fun h2 kj qQ=>?_;have FO:T∉[e,it]:=W.apart i T h' pk;have keep:∀b o,b∉[e,it]→s.heap.get? b=some o→h2.get? b=some o:=fun b o hb q=>qQ b o hb (hk b o hb q);have zQ:PyProof.Rows.IsTup h2 T (#[.int i t,iq]:Array Value):=by obtain⟨o,ho,r⟩:=Oy;exact⟨o,qQ T o FO ho,r⟩
  have aE:H T=none:=I.br.fresh gk;have bT:Inv X pins σ (upd H T (.tup [.int (i:Int),x])) { s with heap:=h2,toks:=cM }:=I.JR (its:=[.int i t,iq]) (ch:=[e,it]) keep hf gk zQ (.cons ⟨t,rfl⟩ (.cons eb .nil)) (by show 2≤sizeLine;decide);refine⟨.ref T,upd H T (.tup [.int (i:Int),x]),bT,rfl,⟨T,x,aE,rfl,rfl,fun ys bJ=>by rw[I.z9 bJ aK];exact hx⟩,⟨kj.1,kj.2.1⟩,fun b hb=>?_⟩;have nb:b≠T:=fun z=>FO (z▸hb);rw[c2 nb];exact(hf b hb).1
 done:=by
  intro X dz hw hK hc i pins s σ H E I hf st hg;subst dz hw hK;obtain⟨xs,aK,hx⟩:=hg;obtain⟨its,bV,pl,bq⟩:=I.list aK;obtain⟨⟨old,he⟩,hit⟩:=st;have fj:=pl.isList;have hle:l≠e:=fun z=>by subst z;obtain⟨o,ho,iK,_⟩:=fj;rw[he]at ho;cases ho;have iK:Value.type "enumerate"=Value.type "list":=iK;injection iK with iK;exact absurd iK (by decide)
  have sL:l≠it:=fun z=>by subst z;obtain⟨o,ho,iK,_⟩:=fj;obtain⟨bz,ho',mw,_⟩:=hit;rw[ho']at ho;cases ho;rw[iK]at mw;injection mw with mw;exact absurd mw (by decide)
  have W:=WalksT.enumerate (prog:=X.prog) (w:=X.w) (A:=X.A) (I.ok.hd hc) e it l FT hle sL its.toArray;have jt:i=its.toArray.size:=by rw[List.size_toArray,←bV.length];exact hx.symm
  subst jt;exact W.done s _ _ ⟨⟨old,he⟩,hit,fj⟩ fun h' cM cb=>⟨rfl,I.xn (ch:=[e,it]) cb hf⟩
 self:=fun A i s Q E st h=>by obtain⟨⟨old,he⟩,_⟩:=st;exact wpAny_pyIter_enum he h
section
variable{X:aC}{elts:List Expr}{cb:Nat}{rA:Pos}
noncomputable def Ge(K:PySem.W.Frag)(bX:eK):TI:=fun σ H R=>bX σ H fun vs H1=>∃l,vs=[.ref l]∧(∃xs,bU K H1 l xs)∧R (xZ K l) H1
theorem Uv{a:Expr}{bX:eK}{p pos:Pos}(hg:cy X "enumerate")(hm:X.mg "enumerate"=none)(ha:eJ X [a] bX)(hs:starEach [a] X.env=[(false,eval a X.env)]:=by rfl):f_ X (.Tuple elts cb rA) (.Call (.Name "enumerate" p) [a] [] pos) (Ge X.K bX):=by
 have hb:bootBuiltins "enumerate"=some (.type "enumerate"):=by kernel_rfl
 intro pins s σ H R I h;refine PyProof.Rows.Call_ (nS I hg hm hb (PyProof.Rows.callWith_type1 (bF (ha pos pins s σ H _ I h) fun us s1⟨vs,H1,aL,ar,aM⟩=>?_) hs rfl));obtain⟨l,e,⟨xs,aK⟩,q⟩:=aM;subst e;obtain⟨u,rfl,eb⟩:=vals1 ar;cases eb;obtain⟨its,bV,pl,bq⟩:=aL.list aK;refine call_enumerate_list pl.isList fun h' he hit hsz hk=>?_;have bT:Inv X pins σ H1 { s1 with heap:=h' }:=aL.kept (t':=s1.toks) hk;refine wpAny_pyIter_enum he ?_;refine⟨s1.heap.objs.size+1,[s1.heap.objs.size+1,s1.heap.objs.size],_,_,H1,rfl,bT,X1 _ _ l (Nat.succ_ne_self _),⟨⟨_,he⟩,hit⟩,fun b hb=>?_,q⟩;have hb:b=s1.heap.objs.size+1∨b=s1.heap.objs.size:=by simpa using hb
 rcases hb with z|z
 ·subst z;exact aL.nA (Nat.le_succ _) (aL.br.fresh (Nat.le_succ _))
 ·subst z;exact aL.nA (Nat.le_refl _) (aL.br.fresh (Nat.le_refl _))
end
abbrev xH(h:Heap)(x:Str)(t:Tok):Heap:=h.push { cls:=.type (strIterType x),data:=.fields #[.str x t,.int 0 0] }
abbrev xI(h:Heap)(x:Str)(t:Tok)(l:Addr):Heap:=(xH h x t).push { cls:=.type "tuple_iterator",data:=.fields #[.ref l,.int 0 0] }
abbrev xJ(h:Heap)(x:Str)(t:Tok)(l:Addr):Heap:=(xI h x t l).push { cls:=.type "tuple",data:=.seq #[.ref h.objs.size,.ref (xH h x t).objs.size] }
abbrev xK(h:Heap)(x:Str)(t:Tok)(l:Addr):Heap:=(xJ h x t l).push { cls:=.type "tuple",data:=.seq #[.none,.none] }
abbrev qc(h:Heap)(x:Str)(t:Tok)(l:Addr):Heap:=(xK h x t l).push { cls:=.type "zip",data:=.fields #[.none,.bool false,.bool false,.ref (xI h x t l).objs.size,.ref (xJ h x t l).objs.size] }
set_option maxHeartbeats 4000000 in
theorem Sz(x:Str)(t:Tok)(cf:Addr)(ys:Array Value) :
  Meets (Builtin.«zip.__new__» ⟨[.type "zip",.str x t,.ref cf],[]⟩) (fun _ R s=>s.heap.IsTuple cf ys∧R (.ok (.ret (.ref (xK s.heap x t cf).objs.size))) { s with heap:=qc s.heap x t cf }):=
 .of_wp fun prog w A R s h=>by
   obtain⟨hp,g,d,cM,os⟩:=s;obtain⟨sJ,h⟩:=h;have mA:=sub_zip;have Ot:Heap.IsTuple (Shared.heap ⟨hp.push { cls:=.type (strIterType x),data:=.fields #[.str x t,.int 0 0] },g,d,cM,os⟩) cf ys:=Heap.IsTuple.push sJ _
   wp_walk using wpAny_pyIter_strU,wpAny_pyIter_tuple Ot
   exact⟨_,rfl,h⟩
theorem L9 {prog:Program} {w:World} {A:Around} {E:Value→Shared→Prop} {s:Shared} {x:Str} {t:Tok} {cf:Addr} {ys:Array Value} {Q:Value→Shared→Prop} (sJ:s.heap.IsTuple cf ys)(h:∀h',IsZip h' (s.heap.objs.size+4) (s.heap.objs.size+2) (s.heap.objs.size+3) .none→IsPair h' (s.heap.objs.size+2) (.ref s.heap.objs.size) (.ref (s.heap.objs.size+1))→
    IsPair h' (s.heap.objs.size+3) .none .none→h'.IsStrIter s.heap.objs.size (strIterType x) x t 0→h'.IsTupleIter (s.heap.objs.size+1) cf 0→h'.objs.size=s.heap.objs.size+5→
    (∀c o,s.heap.get? c=some o→h'.get? c=some o)→Q (.ref (s.heap.objs.size+4)) { s with heap:=h' }) :
  wpAny (model prog w) A (call (.type "zip") [.str x t,.ref cf]) Q E s:=by
 refine callType_new F.called_zip (by decide) (F.typeCall_zip_2 _ _) (F.newCall_zip_2 _ _) (fun obj=>F.args_object_init_3 obj _ _) F.entry_zip_new (Sz x t cf ys) ⟨sJ,?_⟩;have a9:(xH s.heap x t).objs.size=s.heap.objs.size+1:=Heap.size_push ..;have aZ:(xI s.heap x t cf).objs.size=s.heap.objs.size+2:=by rw[Heap.size_push,a9]
 have l2:(xJ s.heap x t cf).objs.size=s.heap.objs.size+3:=by rw[Heap.size_push,aZ]
 have ud:(xK s.heap x t cf).objs.size=s.heap.objs.size+4:=by rw[Heap.size_push,l2]
 have Zt:(qc s.heap x t cf).objs.size=s.heap.objs.size+5:=by rw[Heap.size_push,ud]
 have qL:(qc s.heap x t cf).get? (xK s.heap x t cf).objs.size=some _:=Heap.get?_push_size _ rfl;have kG:(qc s.heap x t cf).get? (xJ s.heap x t cf).objs.size=some _:=Heap.get?_push_of_some _ (Heap.get?_push_size _ rfl);have g3:(qc s.heap x t cf).get? (xI s.heap x t cf).objs.size=some _:=Heap.get?_push_of_some _ (Heap.get?_push_of_some _ (Heap.get?_push_size _ rfl));have g2:(qc s.heap x t cf).get? (xH s.heap x t).objs.size=some _:=Heap.get?_push_of_some _ (Heap.get?_push_of_some _ (Heap.get?_push_of_some _ (Heap.get?_push_size _ rfl)));have g1:(qc s.heap x t cf).get? s.heap.objs.size=some _:=Heap.get?_push_of_some _ (Heap.get?_push_of_some _ (Heap.get?_push_of_some _ (Heap.get?_push_of_some _ (Heap.get?_push_size _ rfl))));show _∧_;rw[aZ,l2,ud]at qL;rw[a9,aZ]at g3;rw[l2]at kG;rw[a9]at g2;rw[ud];exact⟨⟨_,qL,rfl⟩,h _ qL g3 kG ⟨_,g1,rfl,rfl⟩ ⟨_,g2,rfl,rfl⟩ Zt fun c o x=>
  Heap.get?_push_of_some _ (Heap.get?_push_of_some _ (Heap.get?_push_of_some _ (Heap.get?_push_of_some _ (Heap.get?_push_of_some _ x))))⟩
noncomputable def x4(K:PySem.W.Frag)(x:Str)(l:Addr):It:=⟨fun i H=>i<x.cps.size∧∃ys y,cK K H l ys∧ys[i]?=some y,
 fun i H v H'=>∃p c y,x.cps[i]?=some c∧H p=none∧H'=upd H p (.tup [.str ⟨#[c]⟩,y])∧v=.ref p∧∀ys,cK K H l ys→ys[i]?=some y,
 fun i H=>∃ys,cK K H l ys∧i=min x.cps.size ys.length⟩
structure C7(z TI b0 bK bQ:Addr):Prop where
 TIz:TI≠z
 TOz:b0≠z
 TITO:TI≠b0
 TIi1:TI≠bK
 TIi2:TI≠bQ
 TOi1:b0≠bK
 TOi2:b0≠bQ
 i1z:bK≠z
 i2z:bQ≠z
 i12:bK≠bQ
theorem X6{P:Program}{w:World}{K:PySem.W.Frag}{elts:List Expr}{cb:Nat}{pos:Pos}(x:Str)(t:Tok)(l z TI b0 bK bQ:Addr)(ap:C7 z TI b0 bK bQ) :
  Turn P w K (.Tuple elts cb pos) (x4 K x l) [z,TI,b0,bK,bQ] z (fun i h=>IsZip h z TI b0 .none∧IsPair h TI (.ref bK) (.ref bQ)∧(∃a b,IsPair h b0 a b)∧h.IsStrIter bK (strIterType x) x t i∧h.IsTupleIter bQ l i) where
 mem:=by simp
 obj:=fun i h st b hb=>by
  obtain⟨bq,hC,⟨a,fS,ib⟩,⟨cB,ak,bu,d1⟩,b9,ay,c5,cn⟩:=st;have hb:b=z∨b=TI∨b=b0∨b=bK∨b=bQ:=by simpa using hb
  rcases hb with q|q|q|q|q<;>subst q
  ·exact⟨_,bq,fun v z=>by have f6:Data.fields _=Data.cell v:=z;cases f6⟩
  ·exact⟨_,hC,fun v z=>by have f6:Data.seq _ _=Data.cell v:=z;cases f6⟩
  ·exact⟨_,ib,fun v z=>by have f6:Data.seq _ _=Data.cell v:=z;cases f6⟩
  ·exact⟨cB,ak,fun v z=>by rw[d1]at z;cases z⟩
  ·exact⟨b9,ay,fun v z=>by rw[cn]at z;cases z⟩
 keep:=fun i h h' st k=>by obtain⟨bq,hC,⟨a,fS,ib⟩,⟨cB,ak,ar⟩,b9,ay,a5⟩:=st;exact⟨k z (by simp) _ bq,k TI (by simp) _ hC,⟨a,fS,k b0 (by simp) _ ib⟩,⟨cB,k bK (by simp) _ ak,ar⟩,b9,k bQ (by simp) _ ay,a5⟩
 item:=by
  intro X dz hw hK hc i pins s σ H E I hf st hg;subst dz hw hK;obtain⟨hi,ys,y,aK,bJ⟩:=hg;obtain⟨its,bV,ht,PA⟩:=I.tuple aK;obtain⟨bq,hC,⟨a,fS,ib⟩,vL,hs2⟩:=st;have nl:∀b∈[z,TI,b0,bK,bQ],l≠b:=fun b hb q=>by
   subst q;rcases aK with(h|⟨o,h⟩)|⟨o,sS,n,h,_⟩
   ·rw[(hf l hb).1]at h;cases h
   ·rw[(hf l hb).1]at h;cases h
   ·have h1:=I.ok.mod.lG l o h;rcases(hf l hb).2.2.2.1 with q|q
    ·exact I.ok.n9 l o h1 q
    ·exact absurd (Nat.lt_of_lt_of_le (Heap.lt_size (I.ok.bs l o h1).1) q) (Nat.lt_irrefl _)
  have hh:X.A.in1.handled=none:=I.ok.hd hc;have gY:=Ef (prog:=X.prog) (w:=X.w) (A:=X.A.in1) hh bK x t;have gL:=Eg (prog:=X.prog) (w:=X.w) (A:=X.A.in1) hh bQ l (nl bQ (by simp)) its.toArray;have hlen:=bV.length;have pq:i<ys.length:=(List.getElem?_eq_some_iff.mp bJ).1
  have qw:qt z TI b0 bK bQ [bK] [bQ,l]:=⟨ap.TIz,ap.TOz,ap.TITO,ap.TIi1,ap.TIi2,ap.TOi1,ap.TOi2,ap.i1z,ap.i2z,ap.i12,by simpa using ap.i1z.symm,by simpa using ap.TOi1,by simpa using ap.i12.symm,
   by simp only[List.mem_cons,List.not_mem_nil,or_false,not_or];exact⟨ap.i2z.symm,(nl z (by simp)).symm⟩,by simp only[List.mem_cons,List.not_mem_nil,or_false,not_or];exact⟨ap.TOi2,(nl b0 (by simp)).symm⟩,by simp only[List.mem_cons,List.not_mem_nil,or_false,not_or];exact⟨ap.i12,(nl bK (by simp)).symm⟩⟩
  refine U9 gY gL qw bq hC ib vL ⟨hs2,ht⟩ hi (by rw[List.size_toArray,←hlen];exact pq) fun t2 p3 h' cM fb bR a1 a2 fg iY jX jY hk=>?_;obtain⟨c,t1,OI,rfl⟩:=fb;obtain⟨iq,zR,eb⟩:=bV.get bJ;have nz:iq=p3:=by rw[List.getElem?_toArray]at bR;rw[zR]at bR;exact Option.some.inj bR
  subst nz;refine⟨_,rfl,?_⟩;refine wpAny_letOwnedTupleGo_zip a1 fun h2 PB qS=>?_;have Xc:∀b∈[z,TI,b0,bK,bQ],b<s.heap.objs.size:=fun b hb=>by
   have hb:b=z∨b=TI∨b=b0∨b=bK∨b=bQ:=by simpa using hb
   obtain⟨cB,ak,_⟩:=vL;obtain⟨b9,ay,_⟩:=hs2;rcases hb with q|q|q|q|q<;>subst q
   ·exact Heap.lt_size bq
   ·exact Heap.lt_size hC
   ·exact Heap.lt_size ib
   ·exact Heap.lt_size ak
   ·exact Heap.lt_size ay
  have Hm:∀b∈[z,TI,b0,bK,bQ],b≠s.heap.objs.size:=fun b hb=>Nat.ne_of_lt (Xc b hb);have keep:∀b o,b∉[z,b0,bK,bQ]→s.heap.get? b=some o→h2.get? b=some o:=fun b o hb q=>by have hb:¬(b=z∨b=b0∨b=bK∨b=bQ):=fun w=>hb (by simpa using w);exact qS.extBut b o (fun w=>hb (.inl w)) (hk b o (fun w=>hb (.inl w)) (fun w=>hb (.inr (.inl w))) (fun w=>hb (.inr (.inr (.inl w)))) (fun w=>hb (.inr (.inr (.inr w)))) q)
  have zQ:PyProof.Rows.IsTup h2 s.heap.objs.size ([.str ⟨#[c]⟩ t1,iq]:List Value).toArray:=⟨_,qS.extBut _ _ (Hm z (by simp)).symm jX,rfl,_,rfl⟩;have aE:H s.heap.objs.size=none:=I.br.fresh (Nat.le_refl _);have bT:Inv X pins σ (upd H s.heap.objs.size (.tup [.str ⟨#[c]⟩,y])) { s with heap:=h2,toks:=cM }:=I.JR (its:=[.str ⟨#[c]⟩ t1,iq]) (ch:=[z,b0,bK,bQ]) keep (fun b hb=>hf b (by
   have hb:b=z∨b=b0∨b=bK∨b=bQ:=by simpa using hb
   rcases hb with q|q|q|q<;>simp[q])) (Nat.le_refl _) zQ (.cons ⟨t1,rfl⟩ (.cons eb .nil)) (by show 2≤sizeLine;decide)
  refine⟨.ref s.heap.objs.size,_,bT,rfl,⟨s.heap.objs.size,c,y,OI,aE,rfl,rfl,fun zs PC=>by rw[I.B9 PC aK];exact bJ⟩,?_,fun b hb=>?_⟩
  ·refine⟨PB,qS.extBut _ _ ap.TIz (hk _ _ ap.TIz ap.TITO ap.TIi1 ap.TIi2 hC),⟨_,_,qS.extBut _ _ ap.TOz a2⟩,?_,?_⟩
   ·obtain⟨cB,ak,ar⟩:=fg;exact⟨cB,qS.extBut _ _ ap.i1z ak,ar⟩
   ·obtain⟨⟨b9,ay,a5⟩,_⟩:=iY;exact⟨b9,qS.extBut _ _ ap.i2z ay,a5⟩
  ·rw[c2 (Hm b hb)];exact(hf b hb).1
 done:=by
  intro X dz hw hK hc i pins s σ H E I hf st hg;subst dz hw hK;obtain⟨ys,aK,hi⟩:=hg;obtain⟨its,bV,ht,PA⟩:=I.tuple aK;obtain⟨bq,hC,⟨a,fS,ib⟩,vL,hs2⟩:=st;have nl:∀b∈[z,TI,b0,bK,bQ],l≠b:=fun b hb q=>by
   subst q;rcases aK with(h|⟨o,h⟩)|⟨o,sS,n,h,_⟩
   ·rw[(hf l hb).1]at h;cases h
   ·rw[(hf l hb).1]at h;cases h
   ·have h1:=I.ok.mod.lG l o h;rcases(hf l hb).2.2.2.1 with q|q
    ·exact I.ok.n9 l o h1 q
    ·exact absurd (Nat.lt_of_lt_of_le (Heap.lt_size (I.ok.bs l o h1).1) q) (Nat.lt_irrefl _)
  have hh:X.A.in1.handled=none:=I.ok.hd hc;have gY:=Ef (prog:=X.prog) (w:=X.w) (A:=X.A.in1) hh bK x t;have gL:=Eg (prog:=X.prog) (w:=X.w) (A:=X.A.in1) hh bQ l (nl bQ (by simp)) its.toArray;have hlen:=bV.length
  have qw:qt z TI b0 bK bQ [bK] [bQ,l]:=⟨ap.TIz,ap.TOz,ap.TITO,ap.TIi1,ap.TIi2,ap.TOi1,ap.TOi2,ap.i1z,ap.i2z,ap.i12,by simpa using ap.i1z.symm,by simpa using ap.TOi1,by simpa using ap.i12.symm,
   by simp only[List.mem_cons,List.not_mem_nil,or_false,not_or];exact⟨ap.i2z.symm,(nl z (by simp)).symm⟩,by simp only[List.mem_cons,List.not_mem_nil,or_false,not_or];exact⟨ap.TOi2,(nl b0 (by simp)).symm⟩,by simp only[List.mem_cons,List.not_mem_nil,or_false,not_or];exact⟨ap.i12,(nl bK (by simp)).symm⟩⟩
  refine U8 gY gL qw bq hC ib vL ⟨hs2,ht⟩ ?_ fun h' cM cb=>⟨rfl,I.xn (ch:=[z,b0,bK,bQ]) (fun b o hb q=>?_) fun b hb=>hf b ?_⟩
  ·have es:its.toArray.size=its.length:=by simp
   rw[es,←hlen];omega
  ·have hb:¬(b=z∨b=b0∨b=bK∨b=bQ):=fun w=>hb (by simpa using w);exact cb b o (fun w=>hb (.inl w)) (fun w=>hb (.inr (.inl w))) (fun w=>hb (.inr (.inr (.inl w)))) (fun w=>hb (.inr (.inr (.inr w)))) q
  ·have hb:b=z∨b=b0∨b=bK∨b=bQ:=by simpa using hb
   rcases hb with q|q|q|q<;>simp[q]
 self:=fun A i s Q E st h=>wpAny_pyIter_zip st.1 h
section
variable{X:aC}{elts:List Expr}{cb:Nat}{rA:Pos}
theorem Zx(n:Nat):C7 (n+4) (n+2) (n+3) n (n+1):=
 ⟨(show n+2≠n+4 from Nat.ne_of_lt (show(n+2:Nat)<n+4 by omega)),
  (show n+3≠n+4 from Nat.ne_of_lt (show(n+3:Nat)<n+4 by omega)),
  (show n+2≠n+3 from Nat.ne_of_lt (show(n+2:Nat)<n+3 by omega)),
  (show n+2≠n from Nat.ne_of_gt (show(n:Nat)<n+2 by omega)),
  (show n+2≠n+1 from Nat.ne_of_gt (show(n+1:Nat)<n+2 by omega)),
  (show n+3≠n from Nat.ne_of_gt (show(n:Nat)<n+3 by omega)),
  (show n+3≠n+1 from Nat.ne_of_gt (show(n+1:Nat)<n+3 by omega)),
  (show n≠n+4 from Nat.ne_of_lt (show(n:Nat)<n+4 by omega)),
  (show n+1≠n+4 from Nat.ne_of_lt (show(n+1:Nat)<n+4 by omega)),
  (show n≠n+1 from Nat.ne_of_lt (show(n:Nat)<n+1 by omega))⟩
noncomputable def Gj(K:PySem.W.Frag)(bX:eK):TI:=fun σ H R=>bX σ H fun vs H1=>∃x l,vs=[.str x,.ref l]∧(∃ys,cK K H1 l ys)∧R (x4 K x l) H1
theorem UA{a b:Expr}{bX:eK}{p pos:Pos}(hg:cy X "zip")(hm:X.mg "zip"=none)(ha:eJ X [a,b] bX)(hs:starEach [a,b] X.env=[(false,eval a X.env),(false,eval b X.env)]:=by rfl)(hs2:starEach [b] X.env=[(false,eval b X.env)]:=by rfl) :
  f_ X (.Tuple elts cb rA) (.Call (.Name "zip" p) [a,b] [] pos) (Gj X.K bX):=by
 have hb:bootBuiltins "zip"=some (.type "zip"):=by kernel_rfl
 intro pins s σ H R I h;refine PyProof.Rows.Call_ (nS I hg hm hb (PyProof.Rows.callWith_type1 (bF (ha pos pins s σ H _ I h) fun us s1⟨vs,H1,aL,ar,aM⟩=>?_) (by rw[hs,hs2]) (by rw[hs2];rfl)));obtain⟨x,l,e,⟨ys,aK⟩,q⟩:=aM;subst e;obtain⟨u,p3,rfl,⟨t,rfl⟩,eb⟩:=vals2 ar;cases eb;obtain⟨its,bV,ht,bq⟩:=aL.tuple aK;refine L9 (show s1.heap.IsTuple l its.toArray from ht) fun h' a1 a2 fg iY jX jY hk=>?_;have bT:Inv X pins σ H1 { s1 with heap:=h' }:=aL.kept (t':=s1.toks) hk;refine wpAny_pyIter_zip a1 ?_;refine⟨s1.heap.objs.size+4,[s1.heap.objs.size+4,s1.heap.objs.size+2,s1.heap.objs.size+3,s1.heap.objs.size,s1.heap.objs.size+1],_,_,H1,rfl,bT,X6 x t l _ _ _ _ _ (Zx s1.heap.objs.size),⟨a1,a2,⟨_,_,fg⟩,iY,jX⟩,fun b hb=>?_,q⟩;have hb:s1.heap.objs.size≤b:=by
  have hb:b=s1.heap.objs.size+4∨b=s1.heap.objs.size+2∨b=s1.heap.objs.size+3∨b=s1.heap.objs.size∨b=s1.heap.objs.size+1:=by simpa using hb
  rcases hb with q|q|q|q|q
  ·rw[q];exact Nat.le_add_right _ _
  ·rw[q];exact Nat.le_add_right _ _
  ·rw[q];exact Nat.le_add_right _ _
  ·rw[q];exact Nat.le_refl _
  ·rw[q];exact Nat.le_add_right _ _
 exact aL.nA hb (aL.br.fresh hb)
end
end aQ
namespace ax
open PySem PySem.Spec aQ
section
variable{X:aC}{F:a4}{e a b c bw iter elt:Expr}{es:List Expr}{pos p:Pos}{m n:az}{ma:aO}
def e6(c:Nat):D:=.str ⟨#[c]⟩
def BK:D→R (List D)
 |.str x=>.ok (x.cps.toList.map e6)
 |_=>.bad
theorem QR{K:PySem.W.Frag}{G:ag}(x:Str):lg K (x2 x) (x.cps.toList.map e6) G where
 go:=fun i H s hi=>by
  have h:i<x.cps.size:=by simpa using hi
  exact h
 jk:=fun i H v H' s hi y=>by obtain⟨e,c,hc,rfl⟩:=y;refine⟨e6 c,?_,.inl ⟨e,by unfold e6;simp only[At]⟩⟩;rw[List.getElem?_map,Array.getElem?_toList,hc];rfl
 stop:=fun H s=>by
  have h:(x.cps.toList.map e6).length=x.cps.size:=by simp
  exact h
def q8(m:az):aO:=fun ρ=>(m ρ).bind BK
theorem Qn:oL (kX F (q8 m)) (Gh (cC F m)):=by
 rintro σ H Q ⟨G,ρ,r,h⟩;unfold q8 at h;refine⟨G,ρ,r,?_⟩;cases aq:m ρ with
 |bad=>rw[aq]at h;exact h.elim
 |exc c=>rw[aq]at h;exact h
 |ok d=>
  rw[aq,R.bt]at h;intro v H1 aJ ar s1 a;cases d with
  |str x=>simp only[At]at a;exact⟨x,a,h _ H1 aJ ar s1 (QR x)⟩
  |_=>exact h.elim
def nx(ds:List D):List D:=ds.zipIdx.map fun p=>.tup [.int (p.2:Int),p.1]
theorem NL{ds:List D}{i:Nat}{d:D}(e:ds[i]?=some d):(nx ds)[i]?=some (.tup [.int (i:Int),d]):=by unfold nx;rw[List.getElem?_map,List.getElem?_zipIdx,e];simp
def pe:List D→R (List D)
 |[.lst ds]=>.ok (nx ds)
 |[.cx ds]=>.ok (nx ds)
 |_=>.bad
theorem Gz{K:PySem.W.Frag}{G:ag}{l:Addr}{ds:List D}{xs:List V}(h:bU K G l xs)(q:aI K G ds xs):lg K (xZ K l) (nx ds) G where
 go:=fun i H s hi=>by
  have hi:i<ds.length:=by simpa[nx]using hi
  obtain⟨v,e,_⟩:=q.get (List.getElem?_eq_getElem hi);exact⟨xs,v,bU.mono s h,e⟩
 jk:=fun i H v H' s hi y=>by obtain⟨p,x,hp,rfl,rfl,y⟩:=y;have ex:=y xs (bU.mono s h);obtain⟨d,e,a⟩:=q.vx ex;exact⟨_,NL e,.inr ⟨p,_,_,hp,rfl,rfl,rfl,.cons (by simp only[At]) (.cons a .nil)⟩⟩
 stop:=fun H s=>⟨xs,bU.mono s h,by simp[nx,q.length]⟩
def nY(m:aO):aO:=fun ρ=>(m ρ).bind pe
theorem PV(hK:F.K=X.K):oL (kX F (nY ma)) (Ge X.K (ee F ma)):=by
 rintro σ H Q ⟨G,ρ,r,h⟩;unfold nY at h;refine⟨G,ρ,r,?_⟩;cases aq:ma ρ with
 |bad=>rw[aq]at h;exact h.elim
 |exc c=>rw[aq]at h;exact h
 |ok ds=>
  rw[aq,R.bt]at h;intro vs H1 aJ ar s1 al;unfold pe at h
  split at h
  ·rename_i ds;obtain⟨v,rfl,a⟩:=al.one;simp only[At]at a;obtain⟨q,xs,rfl,aK,fI⟩:=a;have gu:bU X.K aJ q xs:=bU.of aK;rw[←hK]at gu;refine⟨q,rfl,⟨xs,by rw[←hK];exact bU.mono ar.aH.sub gu⟩,?_⟩;rw[←hK];exact h _ H1 aJ ar s1 (Gz gu fI)
  ·rename_i ds;obtain⟨v,rfl,a⟩:=al.one;simp only[At]at a;obtain⟨q,xs,rfl,aK,fI⟩:=a;refine⟨q,rfl,⟨xs,by rw[←hK];exact bU.mono ar.aH.sub aK⟩,?_⟩;rw[←hK];exact h _ H1 aJ ar s1 (Gz aK fI)
  ·exact h.elim
def qb(xs:List Nat)(ys:List D):List D:=(xs.zip ys).map fun p=>.tup [e6 p.1,p.2]
def CF:List D→R (List D)
 |[.str x,.dk ys]=>.ok (qb x.cps.toList ys)
 |_=>.bad
theorem QS{K:PySem.W.Frag}{G:ag}{x:Str}{l:Addr}{ds:List D}{xs:List V}(h:cK K G l xs)(q:aI K G ds xs):lg K (x4 K x l) (qb x.cps.toList ds) G where
 go:=fun i H s hi=>by
  have hi:i<min x.cps.size ds.length:=by simpa[qb]using hi
  have h1:i<ds.length:=by omega
  obtain⟨v,e,_⟩:=q.get (List.getElem?_eq_getElem h1);exact⟨by omega,xs,v,cK.mono s h,e⟩
 jk:=fun i H v H' s hi y=>by
  obtain⟨p,c,KU,hc,hp,rfl,rfl,y⟩:=y;have ex:=y xs (cK.mono s h);obtain⟨d,e,a⟩:=q.vx ex;refine⟨.tup [e6 c,d],?_,.inr ⟨p,_,_,hp,rfl,rfl,rfl,.cons (by unfold e6;simp only[At]) (.cons a .nil)⟩⟩;unfold qb;rw[List.getElem?_map];have NV:(x.cps.toList.zip ds)[i]?=some (c,d):=by rw[List.getElem?_zip_eq_some];exact⟨by rw[Array.getElem?_toList];exact hc,e⟩
  rw[NV];rfl
 stop:=fun H s=>⟨xs,cK.mono s h,by simp[qb,q.length]⟩
def q9(m:aO):aO:=fun ρ=>(m ρ).bind CF
theorem Qv(hK:F.K=X.K):oL (kX F (q9 ma)) (Gj X.K (ee F ma)):=by
 rintro σ H Q ⟨G,ρ,r,h⟩;unfold q9 at h;refine⟨G,ρ,r,?_⟩;cases aq:ma ρ with
 |bad=>rw[aq]at h;exact h.elim
 |exc c=>rw[aq]at h;exact h
 |ok ds=>
  rw[aq,R.bt]at h;intro vs H1 aJ ar s1 al;unfold CF at h
  split at h
  ·rename_i x ys;obtain⟨v,w,rfl,bb,i0⟩:=al.two;simp only[At]at bb i0;subst bb;obtain⟨q,xs,rfl,aK,fI⟩:=i0;refine⟨x,q,rfl,⟨xs,by rw[←hK];exact cK.mono ar.aH.sub aK⟩,?_⟩;rw[←hK];exact h _ H1 aJ ar s1 (QS aK fI)
  ·exact h.elim
theorem Yy(h:a6 X F e m)(hK:F.K=X.K:=by rfl):jW X F bw e (fX m):=f_.imp (Uw h) (by rw[←hK];exact P4)
theorem YC(h:a6 X F e m)(hK:F.K=X.K:=by rfl):jW X F bw e (pE m):=f_.imp (Uz h) (by rw[←hK];exact Qr)
theorem YB(h:a6 X F e m):jW X F bw e (q8 m):=f_.imp (Uy h) Qn
theorem YA(hm:X.mg "range"=none)(ha:gy X F [a] ma)(hg:cy X "range":=by rfl)(hs:starEach [a] X.env=[(false,eval a X.env)]:=by rfl):jW X F bw (.Call (.Name "range" p) [a] [] pos) (fY ma):=f_.imp (Ux hg hm ha hs) Qf
theorem Yx{elts:List Expr}{k:Nat}{mW:Pos}(hm:X.mg "enumerate"=none)(ha:gy X F [a] ma)(hK:F.K=X.K:=by rfl)(hg:cy X "enumerate":=by rfl)(hs:starEach [a] X.env=[(false,eval a X.env)]:=by rfl):jW X F (.Tuple elts k mW) (.Call (.Name "enumerate" p) [a] [] pos) (nY ma):=f_.imp (Uv hg hm ha hs) (PV hK)
theorem YD{elts:List Expr}{k:Nat}{mW:Pos}(hm:X.mg "zip"=none)(ha:gy X F [a,b] ma)(hK:F.K=X.K:=by rfl)(hg:cy X "zip":=by rfl)(hs:starEach [a,b] X.env=[(false,eval a X.env),(false,eval b X.env)]:=by rfl)(hs2:starEach [b] X.env=[(false,eval b X.env)]:=by rfl) :
  jW X F (.Tuple elts k mW) (.Call (.Name "zip" p) [a,b] [] pos) (q9 ma):=f_.imp (UA hg hm ha hs hs2) (Qv hK)
structure GM(X:aC)(bw:Expr)(set:D→aj→R aj):Prop where
 ex:∃g,iX X bw g∧∀F:a4,F.K=X.K→nc F g set
 eU:∀d ρ c,set d ρ≠.exc c
 keeps:Keeps set
theorem ij(i:Nat){x:Str}(hN:X.N.Nodup)(hi:X.N[i]?=some x:=by rfl)(hx:Loc X.env.scope x:=by first|exact Or.inl rfl|exact Or.inr rfl)(hf:X.fn x=true∨X.env.scope.names.lookup x=some .local:=by first|exact .inl rfl|exact .inr rfl):GM X (.Name x pos) (bN i):=
 ⟨⟨jv i,wK hN hi hx hf,fun _ _=>vw i⟩,w3 i,w2 i⟩
structure uw(X:aC)(XR:List Expr)(aP:List (D→aj→R aj)):Prop where
 ex:∃g,rY X XR g∧∀F:a4,F.K=X.K→rQ F g (g8 aP)
 eU:∀f∈aP,∀d ρ c,f d ρ≠.exc c
 keeps:∀f∈aP,Keeps f
theorem Hn:uw X [] []:=⟨⟨vu,H0,fun _ _=>FF⟩,(fun _ h=>nomatch h),(fun _ h=>nomatch h)⟩
theorem wx{f:D→aj→R aj}{aP:List (D→aj→R aj)}(h:GM X e f)(t:uw X es aP)(hs:(assignEach (e::es) X.env).map (·.2)=assign e X.env::(assignEach es X.env).map (·.2):=by rfl):uw X (e::es) (f::aP):=by obtain⟨⟨g,h1,h2⟩,h3,h4⟩:=h;obtain⟨⟨mr,t1,ed⟩,t3,xb⟩:=t;exact⟨⟨sx g mr,Az h1 t1 hs,fun F lD=>zr (h2 F lD) (ed F lD)⟩,fun k hk=>by rcases List.mem_cons.mp hk with rfl|hk;exact h3;exact t3 k hk,fun k hk=>by rcases List.mem_cons.mp hk with rfl|hk;exact h4;exact xb k hk⟩
theorem Ho{k:Nat}{aP:List (D→aj→R aj)}(hc:X.calm=true)(h:uw X es aP)(aE:(assignEach es X.env).length=aP.length:=by rfl)(hst:(assignEach es X.env).findIdx? (·.1)=none:=by rfl):GM X (.Tuple es k pos) (g9 aP):=by obtain⟨⟨mr,t1,ed⟩,t3,xb⟩:=h;exact⟨⟨vv X.K aP.length mr,HZ hc t1 aE hst,fun F lD=>by rw[←lD];exact FG rfl (ed F lD)⟩,I6 t3,I5 xb⟩
theorem VV{body:List Stmt}{mi:aO}{set:D→aj→R aj}{fm:a0}(hp:PassesOwn (model X.prog X.w) X.A X.env X.xe)(hi:jW X F bw iter mi)(hg:GM X bw set)(hb:m8 X F body fm)(hc:X.calm=true:=by rfl)(hK:F.K=X.K:=by rfl)(hs:∀x,foldedSetIterable iter X.env x=pure x:=by intro _;rfl) :
  fH X F (.For bw iter body [] pos) (eE mi set fm):=by
 obtain⟨⟨g,h1,h2⟩,h3,_⟩:=hg;exact c7.imp (UQ hp hc hi h1 hb hs) (PW (h2 F hK) h3)
abbrev rK(X:aC)(scope:Scope)(N:List Str)(e:Expr)(m:az):Prop:=∀cl C s H aY bO bg,a6 (e4 X scope N cl C s H aY) (eB X.K bO bg) e m
abbrev k_(X:aC)(scope:Scope)(N:List Str)(ifs:List Expr)(m:bY):Prop:=∀cl C s H aY bO bg,nd (e4 X scope N cl C s H aY) ifs (fA (eB X.K bO bg) m)
abbrev rL(X:aC)(scope:Scope)(N:List Str)(bw:Expr)(set:D→aj→R aj):Prop:=∃g,(∀cl C s H aY,iX (e4 X scope N cl C s H aY) bw g)∧(∀bO bg,nc (eB X.K bO bg) g set)
theorem DG{scope:Scope}{N:List Str}{g:hq}{set:D→aj→R aj}(h:∀cl C s H aY,iX (e4 X scope N cl C s H aY) bw g)(k:∀F:a4,F.K=X.K→nc F g set):rL X scope N bw set:=⟨g,h,fun bO bg=>k (eB X.K bO bg) rfl⟩
def eN:bY:=fun _=>.ok true
theorem hZ{scope:Scope}{N:List Str}:k_ X scope N [] eN:=fun cl C s H aY bO bg pins s' σ H' Q I h=>by obtain⟨G,ρ,r,k⟩:=h;exact UY pins s' σ H' Q I (k H' G r (cc.refl _ _))
theorem LK{scope:Scope}{N:List Str}{mt:bY}(h:∀cl C s H aY bO bg,ff (e4 X scope N cl C s H aY) (eB X.K bO bg) c mt):k_ X scope N [c] mt:=fun cl C s H aY bO bg=>UZ (h cl C s H aY bO bg)
theorem DZ{scope:Scope}{N:List Str}{ifs:List Expr}{nl:Nat}{caps:List Nat}{mi:aO}{set:D→aj→R aj}{mt:bY}{eT:az}(hK:F.K=X.K)(hi:jW X F bw iter mi)(hg:rL X scope N bw set)(ht:k_ X scope N ifs mt)(he:rK X scope N elt eT)(hx:∀d ρ c,set d ρ≠.exc c)(hk:Keeps set){Q:TE→Prop}(k:∀g,(∀cl C s H aY,iX (e4 X scope N cl C s H aY) bw g)→(∀cl C s H aY,nd (e4 X scope N cl C s H aY) ifs (Co X.K mt))→(∀cl C s H aY,aT (e4 X scope N cl C s H aY) elt (Cn X.K eT))→en (jL F (dZ nl caps mi set mt eT)) (xd (kX F mi) g (Co X.K mt) (Cn X.K eT) nl caps)→Q (jL F (dZ nl caps mi set mt eT))):Q (jL F (dZ nl caps mi set mt eT)):=by
 obtain⟨g,g1,g2⟩:=hg;refine k g g1 (fun cl C s H aY pins s' σ H' mb I h=>?_) (fun cl C s H aY pins s' σ H' mb I h=>?_) ?_
 ·obtain⟨bO,bg,h⟩:=h;exact ht cl C s H aY bO bg pins s' σ H' mb I h
 ·obtain⟨bO,bg,h⟩:=h;exact he cl C s H aY bO bg pins s' σ H' mb I h
 ·have z:=PN (F:=F) (nl:=nl) (caps:=caps) (mi:=mi) (tst:=mt) (elt:=eT) (g:=g) (set:=set) (fun bO bg=>by rw[hK];exact g2 bO bg) hx hk;rw[hK]at z;exact z
theorem Te{scope:Scope}{N:List Str}{ifs:List Expr}{nl:Nat}{caps:List Nat}{mi:aO}{set:D→aj→R aj}{mt:bY}{eT:az}(S:ku X.env.scope X.N scope N nl caps)(hi:jW X F bw iter mi)(hg:rL X scope N bw set)(hx:∀d ρ c,set d ρ≠.exc c)(hk:Keeps set)(ht:k_ X scope N ifs mt)(he:rK X scope N elt eT)(hc:X.calm=true:=by rfl)(hK:F.K=X.K:=by rfl)(hs:∀x,foldedSetIterable iter X.env x=pure x:=by intro _;rfl):l4 X F (.ListComp elt [⟨bw,iter,ifs,0⟩] scope pos) (dZ nl caps mi set mt eT):=
 DZ (nl:=nl) (caps:=caps) (Q:=fun t=>aT X (.ListComp elt [⟨bw,iter,ifs,0⟩] scope pos) t) hK hi hg ht he hx hk fun g g1 t1 ak imp=>aT.imp (T9 S hc hi g1 t1 ak hs) imp
theorem VN(i:Nat){y:Str}{py:Pos}{scope:Scope}{N:List Str}{ifs:List Expr}{nl:Nat}{caps:List Nat}{mi:aO}{set:D→aj→R aj}{mt:bY}{eT:az}{bG:Pos}(hN:X.N.Nodup)(S:ku X.env.scope X.N scope N nl caps)(hi:jW X F bw iter mi)(hg:rL X scope N bw set)(hx:∀d ρ c,set d ρ≠.exc c)(hk:Keeps set)(ht:k_ X scope N ifs mt)(he:rK X scope N elt eT)(bJ:X.N[i]?=some y:=by rfl)(hl:X.env.kindOf y=some .local:=by rfl)(kH:swapsWith (.ListComp elt [⟨bw,iter,ifs,0⟩] scope bG) (some (.Name y py)) pos.line X.env=pure true:=by rfl)(hc:X.calm=true:=by rfl)(hK:F.K=X.K:=by rfl)(hs:∀x,foldedSetIterable iter X.env x=pure x:=by intro _;rfl) :
  fH X F (.Assign [.Name y py] (.ListComp elt [⟨bw,iter,ifs,0⟩] scope bG) pos) (gq i (dZ nl caps mi set mt eT)):=by
 refine c7.imp (t:=om (jL F (dZ nl caps mi set mt eT)) (jv i)) ?_ Gs;refine DZ (nl:=nl) (caps:=caps) (Q:=fun t=>c7 X (.Assign [.Name y py] (.ListComp elt [⟨bw,iter,ifs,0⟩] scope bG) pos) (om t (jv i))) hK hi hg ht he hx hk fun g g1 t1 ak imp=>?_;exact c7.imp (UN S hc hN bJ hl hi g1 t1 ak kH hs) fun cu σ H h=>imp σ H _ h
end
section
variable{X:aC}{F:a4}{e a b c:Expr}{es:List Expr}{pos p:Pos}{m n:az}{ma:aO}
def mm:List D→Option (List Bool)
 |[]=>some []
 |.au b::r=>(mm r).map (b::·)
 |_::_=>none
theorem DM{K:PySem.W.Frag}{G:ag}:∀{ds:List D}{xs:List V}{bs:List Bool},aI K G ds xs→mm ds=some bs→xs=bs.map V.au
 |[],_,_,q,e=>by simp only[aI]at q;subst q;cases e;rfl
 |d::ds,_,bs,q,e=>by
  simp only[aI]at q;obtain⟨v,r,rfl,a,ml⟩:=q;cases d with
  |au b=>
   simp only[At]at a;subst a;simp only[mm]at e;cases ak:mm ds with
   |none=>rw[ak]at e;cases e
   |some cs=>rw[ak]at e;have a7:b::cs=bs:=Option.some.inj e;subst a7;rw[DM ml ak];rfl
  |_=>cases e
theorem Kc:∀{bs:List Bool}{us:List Value},Vals (bs.map V.au) us→us=bs.map Value.bool
 |[],_,r=>by cases r;rfl
 |b::bs,_,r=>by
  cases r with
  |cons ar a5=>cases ar;rw[Kc a5];rfl
theorem L0(hc:X.calm=true)(pn:X.A.handled=none):jm X (.builtin "all") (fun xs H Q=>∃(p:Addr)(bs:List Bool),xs=[.ref p]∧bU X.K H p (bs.map V.au)∧Q (.au (bs.all id)) H):=by
 intro pins s σ H xs us Q I r h;obtain⟨p,bs,rfl,aK,q⟩:=h;obtain⟨u,rfl,eb⟩:=vals1 r;cases eb;obtain⟨its,bV,pl,bq⟩:=I.list aK;have jt:=Kc bV;refine call_all_walk (wpAny_pyIter_list pl.isList ?_);have nF:p≠s.heap.objs.size:=by obtain⟨o,ho,_⟩:=pl.isList;exact Nat.ne_of_lt (Heap.lt_size ho)
 refine⟨s.heap.objs.size,_,_,_,_,_,fun i=>(bs[i]?).getD true,rfl,Walks.list (prog:=X.prog) (w:=X.w) (A:=X.A.in1) pn s.heap.objs.size p nF its.toArray,⟨⟨_,Heap.get?_push_size _ rfl,rfl,rfl⟩,pl.isList.push _⟩,?_,fun h' cM cb=>?_⟩
 ·intro i v s' mb CK dz zx;rw[jt]at dz;have dz:(bs.map Value.bool)[i]?=some v:=by simpa using dz
  rw[List.getElem?_map]at dz;cases a7:bs[i]? with
  |none=>rw[a7]at dz;cases dz
  |some b=>rw[a7]at dz;have ev:Value.bool b=v:=Option.some.inj dz;subst ev;dsimp only at zx;rw[a7]at zx;exact wpAny_truthy_bool zx
 ·have zA:(List.range its.toArray.size).all (fun i=>(bs[i]?).getD true)=bs.all id:=by
    have hl:its.toArray.size=bs.length:=by rw[jt];simp
    rw[hl,Bool.eq_iff_iff,List.all_eq_true,List.all_eq_true];constructor
    ·intro hh x hx;obtain⟨i,hi,rfl⟩:=List.mem_iff_getElem.mp hx;have:=hh i (List.mem_range.mpr hi);rw[List.getElem?_eq_getElem hi]at this;exact this
    ·intro hh i hi;have hi:=List.mem_range.mp hi;rw[List.getElem?_eq_getElem hi];exact hh _ (List.getElem_mem hi)
  rw[zA];exact⟨.au _,H,I.kept (t':=cM) fun b o ay=>cb b o (by
   intro z;have z:b=s.heap.objs.size:=by simpa using z
   exact absurd (Heap.lt_size ay) (by rw[z];exact Nat.lt_irrefl _)) (Heap.get?_push_of_some _ ay),rfl,q⟩
def dg:List D→R D
 |[.lst ds]=>match mm ds with|some bs=>.ok (.au (bs.all id))|none=>.bad
 |_=>.bad
theorem Ts:oE F (fun xs H Q=>∃(p:Addr)(bs:List Bool),xs=[.ref p]∧bU X.K H p (bs.map V.au)∧Q (.au (bs.all id)) H) dg:=by
 intro σ ρ G H xs ds Q r al k;unfold dg at k
 split at k
 ·rename_i ds
  split at k
  ·rename_i bs a7;obtain⟨v,rfl,bb⟩:=al.one;simp only[At]at bb;obtain⟨q,xs,rfl,aK,fI⟩:=bb;have:=DM fI a7;subst this;exact⟨q,bs,rfl,bU.of (r.aH.sub _ _ aK),k _ H G r (cc.refl _ _) (by simp only[At])⟩
  ·exact k.elim
 ·exact k.elim
theorem MS{k:Nat}(hr:c4 k X.A)(hm:X.mg "all"=none)(ha:gy X F [e] ma)(hc:X.calm=true:=by rfl)(hg:cy X "all":=by rfl)(he:starEach [e] X.env=(false,eval e X.env)::starEach [] X.env:=by rfl)(hpl:(backTo pos (starEach [] X.env)).any (·.1)=false:=by rfl) :
  a6 X F (.Call (.Name "all" p) [e] [] pos) (cN dg ma):=Ek (L0 hc hr.hd) Ts hm (by kernel_rfl) ha hg (by decide) (by decide) he hpl
end
section
variable{X:aC}{F:a4}{e a b c:Expr}{es:List Expr}{pos p:Pos}{m n:az}{ma:aO}
def ownAt(i:Nat)(ρ:aj):R (List D):=match ρ[i]? with
 |some (.aV (.lst ds))=>.ok ds
 |_=>.bad
noncomputable def jg(i:Nat)(m:az):a0:=fun ρ=>(ownAt i ρ).bind fun ds=>(m ρ).bind fun d=>if ds.length<1000000 then .ok (.bk (ρ.set i (.c6 (ds++[d]))))else .bad
theorem VK (i:Nat) {x:Str} {a3:Pos} {apos:Pos} {bG:Pos} (he:a6 X F e m) (hN:X.N[i]?=some x:=by rfl) (hv:gd X.env.scope x:=by first|exact Or.inl rfl|exact Or.inr (Or.inl rfl)|exact Or.inr (Or.inr rfl)) (hd:(x==("__debug__" :Str))=false:=by decide) (hcd:(x==("__classdict__" :Str))=false:=by decide)(hbase:attributeBase (.Name x a3) "append" X.env (eval (.Name x a3) X.env)=eval (.Name x a3) X.env:=by rfl) (hline:(apos.endLine==bG.line)=true:=by rfl)(hfew:((backTo bG (starEach [e] X.env)).all (fun x=>!x.1)&&(backToKw bG (keywordEach [] X.env)).all (fun x=>x.1.isSome)
    &&decide (([e]:List Expr).length+([]:List Keyword).length+(if([]:List Keyword).isEmpty then 0 else 1)<30))=true:=by rfl)
  (hs:starEach [e] X.env=(false,eval e X.env)::starEach [] X.env:=by rfl) (hplain:(backTo bG (starEach [] X.env)).any (·.1)=false:=by rfl)
  (hK:F.K=X.K:=by rfl) :
  fH X F (.Expr (.Call (.Attribute (.Name x a3) "append" apos) [e] [] bG) pos) (jg i m):=by
 refine c7.imp (tH (ro PySem.F.plainAttrs_list PySem.F.slot_list_append PySem.F.type_list_append Ak (lP hN hv hd hcd) (jH he lO hs) hbase hfew hline hs hplain) (kV _ _ _ _ rfl)) ?_;rintro cu σ H ⟨G,ρ,r,h⟩;unfold jg ownAt at h;cases cZ:ρ[i]? with
 |none=>rw[cZ]at h;exact h.elim
 |some s=>
  rw[cZ]at h;cases s with
  |un=>exact h.elim
  |aw _=>exact h.elim
  |eu _=>exact h.elim
  |aV aV=>
   cases aV with
   |bI _ _=>exact h.elim
   |ins _ _ _=>exact h.elim
   |lst ds=>
    obtain⟨q,xs,ak,h1,h2,h3,h4⟩:=r.own cZ;have h:hG F G cu ((m ρ).bind fun d=>if ds.length<1000000 then .ok (.bk (ρ.set i (.c6 (ds++[d]))))else .bad):=h;refine⟨.ref q,ak,.inl ⟨rfl,xs,bU.of h1⟩,G,ρ,r,?_⟩;cases aq:m ρ with
    |bad=>rw[aq]at h;exact h.elim
    |exc c=>rw[aq]at h;exact h
    |ok d=>
     rw[aq,R.bt]at h;intro v H1 aJ ar s1 bb;obtain⟨cV,k6,gE,cA,cp,sz,hB⟩:=ar.own cZ;rw[ak]at gE;cases gE;by_cases hl:ds.length<1000000
     ·rw[if_pos hl]at h;refine⟨q,k6,v,rfl,rfl,cA,by rw[←hB.length];exact Nat.lt_trans hl (by decide),?_⟩;exact h σ aJ _ (ar.mut cZ ak (hB.snoc bb)) s1.g
     ·rw[if_neg hl]at h;exact h.elim
end
abbrev kS(K:PySem.W.Frag)(n:Nat)(mf:List D→R bZ):iE:=oj K n (fun _ _ _=>False) mf
structure dm(P:Program)(w:World)(K:PySem.W.Frag)(mg:Str→Option Value)(base:Heap)(x:Str)(n k:Nat)(mf:List D→R bZ):Prop where
 ex:∃(f:Addr)(fd:FuncData)(ps:List Str),ps.length=n∧f7 P w K mg base gK k f fd ps (kS K n mf)∧mg x=some (.ref f)∧PySem.W.keepIn K (.ref f)=true∧Binds K fd ps []
section
variable{X:aC}{F:a4}{e:Expr}{es:List Expr}{pos p:Pos}{ma:aO}{x:Str}{n k:Nat}{mf:List D→R bZ}
theorem MX(c:dm X.prog X.w X.K X.mg X.base x n k mf)(hr:c4 k X.A)(ha:gy X F (e::es) ma)(hE:F.gM=fun _ _=>False:=by rfl)(hK:F.K=X.K:=by rfl)(hg:cy X x:=by rfl)(hdb:(x==("__debug__" :Str))=false:=by decide)(he:starEach (e::es) X.env=(false,eval e X.env)::starEach es X.env:=by rfl)(hpl:(backTo pos (starEach es X.env)).any (·.1)=false:=by rfl):a6 X F (.Call (.Name x p) (e::es) [] pos) (b8 n mf ma):=by obtain⟨f,fd,ps,aE,hA,hm,hk,hb⟩:=c.ex;refine aT.imp (Aw hA hr hg hm hk hb .nil tE ha hdb he hpl) ?_;rw[←hK];exact Gl (xe:=fun _ _ _=>False) (E:=xS) hE
theorem Td(c:dm X.prog X.w X.K X.mg X.base x n k mf)(hr:c4 k X.A)(ha:gy X F (e::es) ma)(hE:F.gM=fun _ _=>False:=by rfl)(hK:F.K=X.K:=by rfl)(hg:cy X x:=by rfl)(hdb:(x==("__debug__" :Str))=false:=by decide)(he:starEach (e::es) X.env=(false,eval e X.env)::starEach es X.env:=by rfl)(hpl:(backTo pos (starEach es X.env)).any (·.1)=false:=by rfl):l4 X F (.Call (.Name x p) (e::es) [] pos) (iL n mf ma):=by obtain⟨f,fd,ps,aE,hA,hm,hk,hb⟩:=c.ex;refine aT.imp (Aw hA hr hg hm hk hb .nil tE ha hdb he hpl) ?_;rw[←hK];exact PM (xe:=fun _ _ _=>False) (E:=xS) hE
end
structure da(K:PySem.W.Frag)(mg:Str→Option Value)(x:Str)(st:Stmt)(ps:List Str):Prop where
 ex:∃(f:Addr)(fd:FuncData),kv K x x st f fd∧mg x=some (.ref f)∧Binds K fd ps []
theorem Mp{P:Program}{w:World}{K:PySem.W.Frag}{mg:Str→Option Value}{base:Heap}{x:Str}{st:Stmt}{N ps:List Str}{k:Nat}{m:a0}(d:da K mg x st ps)(S:cG N ps (bM st))(h:∀(f:Addr)(b1:Value)(A:Around)(outer:List Env)(s:Shared)(H:ag)(E:cO),c4 k (A.deeper (PyProof.Rows.envOfC x (bM st) s.heap.objs.size f b1))→∀bO bg,m8 (eA gK P w K mg base N x (bM st) f b1 A outer s H E).fo (eB K bO bg) (fx st) m) :
  dm P w K mg base x ps.length (k+1) (cS N.length m):=by
 obtain⟨f,fd,fn,hm,hb⟩:=d.ex;refine⟨f,fd,ps,rfl,fn.ok S w5 fun b1 A outer s H vs Q E hr hs=>?_,hm,fn.aH,hb⟩;obtain⟨G,ht⟩:=u5 hs;exact⟨_,h f b1 A outer s H E hr G H,ht⟩
theorem N5{K:PySem.W.Frag}{h:Heap}{mg:Str→Option Value}{x:Str}{st:Stmt}{ps:List Str}{f:Addr}{eV:Value}{dv an:Option Addr}{ke:Array (Option Value)}{cD doc pm b1 ck:Value}(X:K.In h)(G:h.Ns mainGlobals mg)(a:PySem.W.nsIn K mainGlobals x=some (some (.ref f)))(l:K.lookup f=some ⟨eV,dv,.func (PySem.W.fnOf x x (jr st) (fx st) (bM st) .none cD doc pm an b1 ck),ke⟩)(c:PySem.W.codeIn K b1 x=true)(k:PySem.W.keepIn K (.ref f)=true)(b:∀(cD doc pm:Value)(an:Option Addr)(b1 ck:Value)(us:List Value),us.length=ps.length→bindArgs (PySem.W.fnOf x x (jr st) (fx st) (bM st) .none cD doc pm an b1 ck) ⟨us,[]⟩=pure (ps.zip us)):da K mg x st ps:=
 ⟨f,_,pj (st:=st) l c k,PySem.W.mg_of X G a,(pj (st:=st) l c k).binds b⟩
theorem R2{K:PySem.W.Frag}{mf:List D→R bZ}{H:ag}{a:Addr}{ns:List Int}(iJ:bU K H a (ns.map V.int))(h:mf [.cx (ns.map .int)]=.ok (.v (.au true)))(E:cO):kS K 1 mf [.ref a] H (fun v _=>v=.au true) E:=by
 refine⟨H,[.cx (ns.map .int)],Sub.refl _,.cons ?_ .nil,rfl,?_⟩
 ·simp only[At];refine⟨a,_,rfl,iJ,?_⟩;induction ns with
  |nil=>exact .nil
  |cons n r bW=>exact .cons (by simp only[At]) (Gu r)
 ·rw[h];intro v G' H' _ bb;simp only[At]at bb;exact bb
where
 Gu {K:PySem.W.Frag} {H:ag}:∀r:List Int,aI K H (r.map .int) (r.map V.int)
  |[]=>.nil
  |n::r=>.cons (by simp only[At]) (Gu r)
section
variable{X:aC}{F:a4}{e a b c bw iter elt:Expr}{es:List Expr}{pos p:Pos}{m n:az}{ma:aO}{scope:Scope}{N:List Str}
structure qe(X:aC)(scope:Scope)(N:List Str)(bw:Expr)(set:D→aj→R aj):Prop where
 g:rL X scope N bw set
 bk:∀d ρ c,set d ρ≠.exc c
 aH:Keeps set
theorem i2(i:Nat){x:Str}(hN:N.Nodup:=by decide+kernel)(hi:N[i]?=some x:=by rfl)(hl:(relabel scope X.env).names.lookup x=some .local:=by rfl):qe X scope N (.Name x pos) (bN i):=
 ⟨DG (g:=jv i) (fun cl C s H aY=>wK (X:=e4 X scope N cl C s H aY) hN hi (.inl hl) (.inr hl)) fun F _=>vw i,w3 i,w2 i⟩
theorem uZ(i j:Nat){x y:Str}{a3 py:Pos}{k:Nat}(hc:X.calm=true:=by rfl)(hN:N.Nodup:=by decide+kernel)(hi:N[i]?=some x:=by rfl)(cv:N[j]?=some y:=by rfl)(hl:(relabel scope X.env).names.lookup x=some .local:=by rfl)(hm:(relabel scope X.env).names.lookup y=some .local:=by rfl) :
  qe X scope N (.Tuple [.Name x a3,.Name y py] k pos) (g9 [bN i,bN j]):=by
 refine⟨DG (g:=vv X.K 2 (sx (jv i) (sx (jv j) vu))) (fun cl C s H aY=>?_) (fun F lD=>?_),I6 ?_,I5 ?_⟩
 ·exact HZ (X:=e4 X scope N cl C s H aY) hc (Az (wK (X:=e4 X scope N cl C s H aY) hN hi (.inl hl) (.inr hl)) (Az (wK (X:=e4 X scope N cl C s H aY) hN cv (.inl hm) (.inr hm)) H0 rfl) rfl) rfl rfl
 ·rw[←lD];exact FG rfl (zr (vw i) (zr (vw j) FF))
 ·intro f hf;rcases List.mem_cons.mp hf with rfl|hf
  ·exact w3 i
  ·rw[List.mem_singleton.mp hf];exact w3 j
 ·intro f hf;rcases List.mem_cons.mp hf with rfl|hf
  ·exact w2 i
  ·rw[List.mem_singleton.mp hf];exact w2 j
theorem Tf(nl:Nat)(caps:List Nat){ifs:List Expr}{mi:aO}{set:D→aj→R aj}{mt:bY}{eT:az}(S:qE X.env.scope X.N scope N nl caps=true)(hi:jW X F bw iter mi)(hg:qe X scope N bw set)(ht:k_ X scope N ifs mt)(he:rK X scope N elt eT)(hc:X.calm=true:=by rfl)(hK:F.K=X.K:=by rfl)(hs:∀x,foldedSetIterable iter X.env x=pure x:=by intro _;rfl):l4 X F (.ListComp elt [⟨bw,iter,ifs,0⟩] scope pos) (dZ nl caps mi set mt eT):=
 Te (.of S) hi hg.g hg.bk hg.aH ht he hc hK hs
theorem VO(i:Nat)(nl:Nat)(caps:List Nat){y:Str}{py:Pos}{ifs:List Expr}{mi:aO}{set:D→aj→R aj}{mt:bY}{eT:az}{bG:Pos}(hN:X.N.Nodup)(S:qE X.env.scope X.N scope N nl caps=true)(hi:jW X F bw iter mi)(hg:qe X scope N bw set)(ht:k_ X scope N ifs mt)(he:rK X scope N elt eT)(bJ:X.N[i]?=some y:=by rfl)(hl:X.env.kindOf y=some .local:=by rfl)(kH:swapsWith (.ListComp elt [⟨bw,iter,ifs,0⟩] scope bG) (some (.Name y py)) pos.line X.env=pure true:=by rfl)(hc:X.calm=true:=by rfl)(hK:F.K=X.K:=by rfl)(hs:∀x,foldedSetIterable iter X.env x=pure x:=by intro _;rfl) :
  fH X F (.Assign [.Name y py] (.ListComp elt [⟨bw,iter,ifs,0⟩] scope bG) pos) (gq i (dZ nl caps mi set mt eT)):=
 VN i hN (.of S) hi hg.g hg.bk hg.aH ht he bJ hl kH hc hK hs
noncomputable def lJ(i:Nat)(a:aO):a0:=fun ρ=>((gq i a) ρ).bind fun f=>match f with
 |.bk bh=>.ok (.bk (kF i bh))
 |f=>.ok f
theorem V6{st:Stmt}{i:Nat}{a:aO}(h:fH X F st (gq i a)):fH X F st (lJ i a):=c7.imp h fun cu σ H⟨G,ρ,r,k⟩=>by
 refine⟨G,ρ,r,?_⟩;unfold lJ at k;cases e:gq i a ρ with
 |bad=>rw[e]at k;exact k.elim
 |exc c=>rw[e]at k;exact k
 |ok f=>
  rw[e,R.bt]at k;cases f with
  |bk bh=>intro σ' G' H' a8 s';obtain⟨cI,a5,s2⟩:=a8.kF i;exact k σ' cI H' a5 (s'.trans s2)
  |dG d=>exact k
  |hM d=>exact k
  |dO d=>exact k
  |ez d=>exact k
  |ck d=>exact k
def sZ:az:=fun _=>.ok (.cY [] [])
theorem MZ{p:Pos}:a6 X F (.Dict [] [] p) sZ:=aT.imp Ua fun σ H Q⟨G,ρ,r,h⟩ d hd=>by refine h (.ref d) _ _ (r.lay hd) (cc.lay r.aH.sub hd) ?_;simp only[At];exact⟨d,[],rfl,d0,rfl,.nil⟩
end
theorem B8{K:PySem.W.Frag}{c:Addr}{dd:Option Addr}{its:Array Value}{n:Nat}{cw:Array (Option Value)}{xs:List V}{ds:List D}(l:K.lookup c=some ⟨.type "tuple",dd,.seq its n,cw⟩)(bq:its.size≤sizeLine)(v:Vals xs its.toList)(a:∀G,aI K G ds xs) :
  ∀G,At K G (.dk ds) (.ref c):=fun G=>by
 simp only[At];exact⟨c,xs,rfl,.inr ⟨_,its,n,l,rfl,rfl,bq,v⟩,a G⟩
theorem mT(i:Int)(t:Tok):RelV (.int i) (.int i t):=⟨t,rfl⟩
theorem wV(x:Str)(t:Tok):RelV (.str x) (.str x t):=⟨t,rfl⟩
theorem mj{K:PySem.W.Frag}{G:ag}(i:Int):At K G (.int i) (.int i):=by simp only[At]
theorem uK{K:PySem.W.Frag}{G:ag}(i:Str):At K G (.str i) (.str i):=by simp only[At]
structure aW(X:aC)(F:a4)(e:Expr)(m:az):Prop where
 o:aT X e (cC F m)
structure md(X:aC)(F:a4)(e:Expr)(m:aO):Prop where
 o:aT X e (jL F m)
structure eS(X:aC)(F:a4)(e:Expr)(m:bY):Prop where
 o:eR X e (fA F m)
structure oW(X:aC)(F:a4)(e:Expr)(m:bY):Prop where
 o:hW X e (fA F m)
structure e8(X:aC)(F:a4)(es:List Expr)(m:aO):Prop where
 o:eJ X es (ee F m)
structure e0(X:aC)(F:a4)(st:Stmt)(m:a0):Prop where
 o:c7 X st (fc F m)
structure hY(X:aC)(F:a4)(st:List Stmt)(m:a0):Prop where
 o:fF X st (fc F m)
structure me(X:aC)(F:a4)(bw e:Expr)(m:aO):Prop where
 o:f_ X bw e (kX F m)
structure uJ(X:aC)(F:a4)(e:Option Expr)(m:kz):Prop where
 o:qo X e (xh F m)
section
variable{X:aC}{F:a4}{e a b c bw iter elt:Expr}{es:List Expr}{pos p:Pos}{m n:az}{ma:aO}{st:Stmt}{jK:List Stmt}
theorem ah(i:Nat){x:Str}(hN:X.N[i]?=some x:=by rfl)(hv:gd X.env.scope x:=by first|exact Or.inl rfl|exact Or.inr (Or.inl rfl)|exact Or.inr (Or.inr rfl))(hd:(x==("__debug__" :Str))=false:=by decide)(hcd:(x==("__classdict__" :Str))=false:=by decide):aW X F (.Name x pos) (J i):=⟨ax.Ny (i:=i) (hN:=hN) (hv:=hv) (hd:=hd) (hcd:=hcd)⟩
theorem aF{i:Int}{j}:aW X F (.Constant (.int i) j pos) (ai (.int i)):=⟨ax.M8 ⟩
theorem fC{i:Bool}{j}:aW X F (.Constant (.bool i) j pos) (ai (.au i)):=⟨ax.MU ⟩
theorem dt{i:Str}{j}:aW X F (.Constant (.str i) j pos) (ai (.str i)):=⟨ax.Nr ⟩
theorem ew{j}:aW X F (.Constant .none j pos) (ai .non):=⟨ax.Nj ⟩
theorem aB:e8 X F [] av:=⟨ax.Lk ⟩
theorem af{m:az}{r:aO}(h:aW X F e m)(t:e8 X F es r)(hs:notStar e=true:=by rfl):e8 X F (e::es) (ae m r):=⟨ax.Lj (h:=h.1) (t:=t.1) (hs:=hs)⟩
theorem dn{k}{m:aO}(h:e8 X F es m):aW X F (.Tuple es k pos) (cE m):=⟨ax.Nv (h:=h.1)⟩
theorem df{m:aO}(h:e8 X F es m):md X F (.List es pos) (cT m):=⟨ax.Ti (h:=h.1)⟩
theorem ct{m:aO}(h:md X F e m):aW X F e (b5 m):=⟨ax.M4 (h:=h.1)⟩
theorem Cp{m:az}(h:aW X F e m):aW X F e (nV m):=⟨ax.MV (h:=h.1)⟩
theorem Cy{m:bY}(h:eS X F e m):eS X F e (j8 m):=⟨ax.Xy (h:=h.1)⟩
theorem fq{m:az}(h:aW X F e m)(he:∀whole,isTrue e X.env whole=(do let v ←whole;standAt e.pos;holding [v] (truthy v)):=by intro _;rfl):eS X F e (bc m):=⟨ax.XM (h:=h.1) (he:=he)⟩
theorem KR{m:bY}(h:eS X F a m):oW X F (.BoolOp .And [a] pos) m:=⟨ax.Yw (h:=h.1)⟩
theorem k8{m:bY}(h:eS X F a m):oW X F (.BoolOp .Or [a] pos) m:=⟨ax.Yz (h:=h.1)⟩
theorem KQ{m n:bY}(h:eS X F a m)(k:oW X F (.BoolOp .And (b::es) pos) n):oW X F (.BoolOp .And (a::b::es) pos) (mE m n):=⟨ax.w_and (h:=h.1) (k:=k.1)⟩
theorem kq{m n:bY}(h:eS X F a m)(k:oW X F (.BoolOp .Or (b::es) pos) n):oW X F (.BoolOp .Or (a::b::es) pos) (fk m n):=⟨ax.w_or (h:=h.1) (k:=k.1)⟩
theorem jQ{m:bY}(h:oW X F e m):eS X F e m:=⟨ax.XN (h:=h.1)⟩
theorem fD{m:bY}(h:eS X F a m):eS X F (.UnaryOp .Not a pos) (dT m):=⟨ax.XI (h:=h.1)⟩
theorem m4{op}{m:az}(h:aW X F a m):aW X F (.BoolOp op [a] pos) m:=⟨ax.Nl (h:=h.1)⟩
theorem oy{m n:az}(h:aW X F a m)(k:aW X F (.BoolOp .And (b::es) pos) n):aW X F (.BoolOp .And (a::b::es) pos) (jC m n):=⟨ax.MT (h:=h.1) (k:=k.1)⟩
theorem Y2{m n:az}(h:aW X F a m)(k:aW X F (.BoolOp .Or (b::es) pos) n):aW X F (.BoolOp .Or (a::b::es) pos) (ra m n):=⟨ax.Nm (h:=h.1) (k:=k.1)⟩
theorem Y1{m:az}(h:aW X F a m):aW X F (.UnaryOp .Not a pos) (q_ m):=⟨ax.Nk (h:=h.1)⟩
theorem Ku{k:bY}{m n:az}(h:eS X F c k)(ha:aW X F a m)(hb:aW X F b n):aW X F (.IfExp c a b pos) (pF k m n):=⟨ax.M6 (h:=h.1) (ha:=ha.1) (hb:=hb.1)⟩
theorem dP:hY X F [] cU:=⟨ax.VX ⟩
theorem bC{m n:a0}(h:e0 X F st m)(k:hY X F jK n):hY X F (st::jK) (bf m n):=⟨ax.VP (h:=h.1) (k:=k.1)⟩
theorem bD{m:a0}(h:e0 X F st m):hY X F [st] m:=⟨ax.VY (h:=h.1)⟩
theorem xD{m:az}(h:aW X F e m)(hs:ik e=true:=by rfl):e0 X F (.Expr e pos) (mG m):=⟨ax.VR (h:=h.1) (hs:=hs)⟩
theorem cF{m:az}(h:aW X F e m):e0 X F (.Return (some e) pos) (b6 m):=⟨ax.VZ (h:=h.1)⟩
theorem ua{m:aO}(h:md X F e m):e0 X F (.Return (some e) pos) (hH m):=⟨ax.V0 (h:=h.1)⟩
theorem Cx(i:Nat){x:Str}{p:Pos}(hN:X.N[i]?=some x:=by rfl)(hv:gd X.env.scope x:=by first|exact Or.inl rfl|exact Or.inr (Or.inl rfl)|exact Or.inr (Or.inr rfl))(hd:(x==("__debug__" :Str))=false:=by decide)(hcd:(x==("__classdict__" :Str))=false:=by decide):e0 X F (.Return (some (.Name x p)) pos) (hH (mI i)):=⟨ax.V1 (i:=i) (hN:=hN) (hv:=hv) (hd:=hd) (hcd:=hcd)⟩
theorem dH{k:bY}{m n:a0}{xs ys:List Stmt}(h:eS X F c k)(ha:hY X F xs m)(hb:hY X F ys n):e0 X F (.If c xs ys pos) (cL k m n):=⟨ax.VW (h:=h.1) (ha:=ha.1) (hb:=hb.1)⟩
theorem dB(i:Nat){x:Str}{p:Pos}{m:az}(hN:X.N.Nodup)(he:aW X F e m)(hi:X.N[i]?=some x:=by rfl)(hx:Loc X.env.scope x:=by first|exact Or.inl rfl|exact Or.inr rfl)(hs:ik e=true:=by rfl)(hf:X.fn x=true∨X.env.scope.names.lookup x=some .local:=by first|exact .inl rfl|exact .inr rfl):e0 X F (.Assign [.Name x p] e pos) (c3 i m):=⟨ax.V3 (i:=i) (hN:=hN) (he:=he.1) (hi:=hi) (hx:=hx) (hs:=hs) (hf:=hf)⟩
theorem qa(i:Nat){x:Str}{p:Pos}{m:aO}(hN:X.N.Nodup)(he:md X F e m)(hi:X.N[i]?=some x:=by rfl)(hx:Loc X.env.scope x:=by first|exact Or.inl rfl|exact Or.inr rfl)(hs:ik e=true:=by rfl)(hf:X.fn x=true∨X.env.scope.names.lookup x=some .local:=by first|exact .inl rfl|exact .inr rfl):e0 X F (.Assign [.Name x p] e pos) (gq i m):=⟨ax.V7 (i:=i) (hN:=hN) (he:=he.1) (hi:=hi) (hx:=hx) (hs:=hs) (hf:=hf)⟩
theorem p7(ha:aW X F a m)(hb:aW X F b n):aW X F (.BinOp a .Sub b pos) (ao lU m n):=⟨ax.Nu (ha:=ha.1) (hb:=hb.1)⟩
theorem rH(ha:aW X F a m)(hb:aW X F b n):aW X F (.BinOp a .Mult b pos) (ao kb m n):=⟨ax.Ng (ha:=ha.1) (hb:=hb.1)⟩
theorem iS(ha:aW X F a m)(hb:aW X F b n):aW X F (.BinOp a .FloorDiv b pos) (ao gi m n):=⟨ax.M1 (ha:=ha.1) (hb:=hb.1)⟩
theorem eQ(ha:aW X F a m)(hb:aW X F b n):aW X F (.BinOp a .Mod b pos) (ao dM m n):=⟨ax.Nf (ha:=ha.1) (hb:=hb.1)⟩
theorem Cs(ha:aW X F a m)(hb:aW X F b n):aW X F (.BinOp a .Pow b pos) (ao kf m n):=⟨ax.Np (ha:=ha.1) (hb:=hb.1)⟩
theorem CA(ha:aW X F a m)(hb:aW X F b n):eS X F (.Compare a [.Lt] [b] pos) (bc (ao nT m n)):=⟨ax.XG (ha:=ha.1) (hb:=hb.1)⟩
theorem Cz(ha:aW X F a m)(hb:aW X F b n):eS X F (.Compare a [.Gt] [b] pos) (bc (ao qN m n)):=⟨ax.XD (ha:=ha.1) (hb:=hb.1)⟩
theorem Cr(ha:aW X F a m):aW X F (.UnaryOp .USub a pos) (cq pS m):=⟨ax.Ni (ha:=ha.1)⟩
theorem fp(ha:aW X F a m)(hb:aW X F b n):aW X F (.BinOp a .Add b pos) (ao d3 m n):=⟨ax.MR (ha:=ha.1) (hb:=hb.1)⟩
theorem k7(hu:X.A.units+64<cLine)(ha:aW X F a m)(hb:aW X F b n)(hK:F.K=X.K:=by rfl):eS X F (.Compare a [.Eq] [b] pos) (bc (ao (cW true) m n)):=⟨ax.XC (hu:=hu) (ha:=ha.1) (hb:=hb.1) (hK:=hK)⟩
theorem rI(hu:X.A.units+64<cLine)(ha:aW X F a m)(hb:aW X F b n)(hK:F.K=X.K:=by rfl):eS X F (.Compare a [.NotEq] [b] pos) (bc (ao (cW false) m n)):=⟨ax.XH (hu:=hu) (ha:=ha.1) (hb:=hb.1) (hK:=hK)⟩
theorem Cq(hu:X.A.units+64<cLine)(ha:aW X F a m)(hb:aW X F b n)(hK:F.K=X.K:=by rfl):aW X F (.Compare a [.Eq] [b] pos) (ao (cW true) m n):=⟨ax.M0 (hu:=hu) (ha:=ha.1) (hb:=hb.1) (hK:=hK)⟩
theorem YZ(hu:X.A.units+64<cLine)(ha:aW X F a m)(hb:aW X F b n)(hK:F.K=X.K:=by rfl):aW X F (.Compare a [.NotEq] [b] pos) (ao (cW false) m n):=⟨ax.Nh (hu:=hu) (ha:=ha.1) (hb:=hb.1) (hK:=hK)⟩
theorem Zl(hu:X.A.units+64<cLine)(ha:aW X F a m)(hb:aW X F b n)(hK:F.K=X.K:=by rfl)(hm:behindInMarks .In b=false:=by with_unfolding_all rfl):eS X F (.Compare a [.In] [b] pos) (bc (ao (inD true) m n)):=⟨ax.XE (hu:=hu) (ha:=ha.1) (hb:=hb.1) (hK:=hK) (hm:=hm)⟩
theorem CB(hu:X.A.units+64<cLine)(ha:aW X F a m)(hb:aW X F b n)(hK:F.K=X.K:=by rfl)(hm:behindInMarks .NotIn b=false:=by with_unfolding_all rfl):eS X F (.Compare a [.NotIn] [b] pos) (bc (ao (inD false) m n)):=⟨ax.XJ (hu:=hu) (ha:=ha.1) (hb:=hb.1) (hK:=hK) (hm:=hm)⟩
theorem t8(hu:X.A.units+64<cLine)(ha:aW X F a m)(hb:aW X F b n)(hK:F.K=X.K:=by rfl)(hm:behindInMarks .In b=false:=by with_unfolding_all rfl):aW X F (.Compare a [.In] [b] pos) (ao (inD true) m n):=⟨ax.M7 (hu:=hu) (ha:=ha.1) (hb:=hb.1) (hK:=hK) (hm:=hm)⟩
theorem uc(ha:aW X F a m)(hb:aW X F b n):eS X F (.Compare a [.Is] [b] pos) (bc (ao (gn true) m n)):=⟨ax.XF (ha:=ha.1) (hb:=hb.1)⟩
theorem Zm(ha:aW X F a m)(hb:aW X F b n):eS X F (.Compare a [.IsNot] [b] pos) (bc (ao (gn false) m n)):=⟨ax.XK (ha:=ha.1) (hb:=hb.1)⟩
theorem YT(ha:aW X F a m)(hb:aW X F b n):aW X F (.Compare a [.Is] [b] pos) (ao (gn true) m n):=⟨ax.M9 (ha:=ha.1) (hb:=hb.1)⟩
theorem YQ{op fN:CmpOp}{r a8:eo}{f g:D→D→R D}{l:az}(ho:dp X (compareOp op) r)(ho':dp X (compareOp fN) a8)(hf:fE F r f)(hg:fE F a8 g)(ha:aW X F a m)(hb:aW X F b n)(hc:aW X F c l)(hm:lastMarks [op,fN] [b,c]=false:=by with_unfolding_all rfl):aW X F (.Compare a [op,fN] [b,c] pos) (iM f g m n l):=⟨ax.MY (ho:=ho) (ho':=ho') (hf:=hf) (hg:=hg) (ha:=ha.1) (hb:=hb.1) (hc:=hc.1) (hm:=hm)⟩
theorem KO{op fN:CmpOp}{r a8:eo}{f g:D→D→R D}{l:az}(ho:dp X (compareOp op) r)(ho':dp X (compareOp fN) a8)(hf:fE F r f)(hg:fE F a8 g)(ha:aW X F a m)(hb:aW X F b n)(hc:aW X F c l)(hm:lastMarks [op,fN] [b,c]=false:=by with_unfolding_all rfl):eS X F (.Compare a [op,fN] [b,c] pos) (bc (iM f g m n l)):=⟨ax.Xz (ho:=ho) (ho':=ho') (hf:=hf) (hg:=hg) (ha:=ha.1) (hb:=hb.1) (hc:=hc.1) (hm:=hm)⟩
theorem gx(hm:X.mg "len"=none)(ha:e8 X F [e] ma)(hK:F.K=X.K:=by rfl)(hg:cy X "len":=by rfl)(he:starEach [e] X.env=(false,eval e X.env)::starEach [] X.env:=by rfl)(hpl:(backTo pos (starEach [] X.env)).any (·.1)=false:=by rfl):aW X F (.Call (.Name "len" p) [e] [] pos) (cN dJ ma):=⟨ax.Nb (hm:=hm) (ha:=ha.1) (hK:=hK) (hg:=hg) (he:=he) (hpl:=hpl)⟩
theorem ko{U:Str}{T:String}{bR:Pos}(tt:nf X.K T)(hm:X.mg "isinstance"=none)(hmU:X.mg U=none)(hU:bootBuiltins U=some (.type T))(ha:aW X F a m)(hK:F.K=X.K:=by rfl)(hg:cy X "isinstance":=by rfl)(hgU:cy X U:=by rfl)(hnU:U≠"__name__":=by decide)(hdU:(U==("__debug__" :Str))=false:=by decide)(hs2:starEach [.Name U bR] X.env=(false,eval (.Name U bR) X.env)::starEach [] X.env:=by rfl)(he:starEach [a,.Name U bR] X.env=(false,eval a X.env)::starEach [.Name U bR] X.env:=by rfl)(hpl:(backTo pos (starEach [.Name U bR] X.env)).any (·.1)=false:=by rfl):aW X F (.Call (.Name "isinstance" p) [a,.Name U bR] [] pos) (cq (e5 T) m):=⟨ax.M_ (tt:=tt) (hm:=hm) (hmU:=hmU) (hU:=hU) (ha:=ha.1) (hK:=hK) (hg:=hg) (hgU:=hgU) (hnU:=hnU) (hdU:=hdU) (hs2:=hs2) (he:=he) (hpl:=hpl)⟩
theorem b2(ha:aW X F a m)(hb:aW X F b n)(hs:rZ b)(hK:F.K=X.K:=by rfl):aW X F (.Subscript a b pos) (ao aG m n):=⟨ax.Na (ha:=ha.1) (hb:=hb.1) (hs:=hs) (hK:=hK)⟩
theorem p_:uJ X F none kO:=⟨ax.TY ⟩
theorem k4(h:aW X F e m):uJ X F (some e) (ig m):=⟨ax.TZ (h:=h.1)⟩
theorem m5{lo hi:Option Expr}{bR:Pos}{tr tq:kz}(ha:aW X F a m)(hl:uJ X F lo tr)(hh:uJ X F hi tq)(hK:F.K=X.K:=by rfl):aW X F (.Subscript a (.Slice lo hi none bR) pos) (iN ip m tr tq):=⟨ax.Nq (ha:=ha.1) (hl:=hl.1) (hh:=hh.1) (hK:=hK)⟩
theorem Y3(hm:X.mg "str"=none)(ha:e8 X F [e] ma)(hg:cy X "str":=by rfl)(he:starEach [e] X.env=(false,eval e X.env)::starEach [] X.env:=by rfl)(hpl:(backTo pos (starEach [] X.env)).any (·.1)=false:=by rfl):aW X F (.Call (.Name "str" p) [e] [] pos) (cN pY ma):=⟨ax.Nt (hm:=hm) (ha:=ha.1) (hg:=hg) (he:=he) (hpl:=hpl)⟩
theorem jR(h:aW X F e m)(hK:F.K=X.K:=by rfl):me X F bw e (fX m):=⟨ax.Yy (h:=h.1) (hK:=hK)⟩
theorem Zo(h:aW X F e m)(hK:F.K=X.K:=by rfl):me X F bw e (pE m):=⟨ax.YC (h:=h.1) (hK:=hK)⟩
theorem Zn(h:aW X F e m):me X F bw e (q8 m):=⟨ax.YB (h:=h.1)⟩
theorem kr(hm:X.mg "range"=none)(ha:e8 X F [a] ma)(hg:cy X "range":=by rfl)(hs:starEach [a] X.env=[(false,eval a X.env)]:=by rfl):me X F bw (.Call (.Name "range" p) [a] [] pos) (fY ma):=⟨ax.YA (hm:=hm) (ha:=ha.1) (hg:=hg) (hs:=hs)⟩
theorem CC{elts:List Expr}{k:Nat}{mW:Pos}(hm:X.mg "enumerate"=none)(ha:e8 X F [a] ma)(hK:F.K=X.K:=by rfl)(hg:cy X "enumerate":=by rfl)(hs:starEach [a] X.env=[(false,eval a X.env)]:=by rfl):me X F (.Tuple elts k mW) (.Call (.Name "enumerate" p) [a] [] pos) (nY ma):=⟨ax.Yx (hm:=hm) (ha:=ha.1) (hK:=hK) (hg:=hg) (hs:=hs)⟩
theorem Zp{elts:List Expr}{k:Nat}{mW:Pos}(hm:X.mg "zip"=none)(ha:e8 X F [a,b] ma)(hK:F.K=X.K:=by rfl)(hg:cy X "zip":=by rfl)(hs:starEach [a,b] X.env=[(false,eval a X.env),(false,eval b X.env)]:=by rfl)(hs2:starEach [b] X.env=[(false,eval b X.env)]:=by rfl):me X F (.Tuple elts k mW) (.Call (.Name "zip" p) [a,b] [] pos) (q9 ma):=⟨ax.YD (hm:=hm) (ha:=ha.1) (hK:=hK) (hg:=hg) (hs:=hs) (hs2:=hs2)⟩
theorem jP{body:List Stmt}{mi:aO}{set:D→aj→R aj}{fm:a0}(hp:PassesOwn (model X.prog X.w) X.A X.env X.xe)(hi:me X F bw iter mi)(hg:GM X bw set)(hb:hY X F body fm)(hc:X.calm=true:=by rfl)(hK:F.K=X.K:=by rfl)(hs:∀x,foldedSetIterable iter X.env x=pure x:=by intro _;rfl):e0 X F (.For bw iter body [] pos) (eE mi set fm):=⟨ax.VV (hp:=hp) (hi:=hi.1) (hg:=hg) (hb:=hb.1) (hc:=hc) (hK:=hK) (hs:=hs)⟩
theorem ub{st:Stmt}{i:Nat}{a:aO}(h:e0 X F st (gq i a)):e0 X F st (lJ i a):=⟨ax.V6 (h:=h.1)⟩
theorem Kt{p:Pos}:aW X F (.Dict [] [] p) sZ:=⟨ax.MZ ⟩
theorem rG{k:Nat}(hr:c4 k X.A)(hm:X.mg "all"=none)(ha:e8 X F [e] ma)(hc:X.calm=true:=by rfl)(hg:cy X "all":=by rfl)(he:starEach [e] X.env=(false,eval e X.env)::starEach [] X.env:=by rfl)(hpl:(backTo pos (starEach [] X.env)).any (·.1)=false:=by rfl):aW X F (.Call (.Name "all" p) [e] [] pos) (cN dg ma):=⟨ax.MS (hr:=hr) (hm:=hm) (ha:=ha.1) (hc:=hc) (hg:=hg) (he:=he) (hpl:=hpl)⟩
theorem xC (i:Nat) {x:Str} {a3:Pos} {apos:Pos} {bG:Pos} (he:aW X F e m) (hN:X.N[i]?=some x:=by rfl) (hv:gd X.env.scope x:=by first|exact Or.inl rfl|exact Or.inr (Or.inl rfl)|exact Or.inr (Or.inr rfl)) (hd:(x==("__debug__" :Str))=false:=by decide) (hcd:(x==("__classdict__" :Str))=false:=by decide) (hbase:attributeBase (.Name x a3) "append" X.env (eval (.Name x a3) X.env)=eval (.Name x a3) X.env:=by rfl) (hline:(apos.endLine==bG.line)=true:=by rfl) (hfew:((backTo bG (starEach [e] X.env)).all (fun x=>!x.1)&&(backToKw bG (keywordEach [] X.env)).all (fun x=>x.1.isSome)
   &&decide (([e]:List Expr).length+([]:List Keyword).length+(if([]:List Keyword).isEmpty then 0 else 1)<30))=true:=by rfl) (hs:starEach [e] X.env=(false,eval e X.env)::starEach [] X.env:=by rfl) (hplain:(backTo bG (starEach [] X.env)).any (·.1)=false:=by rfl) (hK:F.K=X.K:=by rfl):e0 X F (.Expr (.Call (.Attribute (.Name x a3) "append" apos) [e] [] bG) pos) (jg i m):=⟨ax.VK (i:=i) (he:=he.1) (hN:=hN) (hv:=hv) (hd:=hd) (hcd:=hcd) (hbase:=hbase) (hline:=hline) (hfew:=hfew) (hs:=hs) (hplain:=hplain) (hK:=hK)⟩
theorem de{x:Str}{n k:Nat}{mf:List D→R bZ}(c:dm X.prog X.w X.K X.mg X.base x n k mf)(hr:c4 k X.A)(ha:e8 X F (e::es) ma)(hE:F.gM=fun _ _=>False:=by rfl)(hK:F.K=X.K:=by rfl)(hg:cy X x:=by rfl)(hdb:(x==("__debug__" :Str))=false:=by decide)(he:starEach (e::es) X.env=(false,eval e X.env)::starEach es X.env:=by rfl)(hpl:(backTo pos (starEach es X.env)).any (·.1)=false:=by rfl):aW X F (.Call (.Name x p) (e::es) [] pos) (b8 n mf ma):=⟨ax.MX (c:=c) (hr:=hr) (ha:=ha.1) (hE:=hE) (hK:=hK) (hg:=hg) (hdb:=hdb) (he:=he) (hpl:=hpl)⟩
theorem m6{x:Str}{n k:Nat}{mf:List D→R bZ}(c:dm X.prog X.w X.K X.mg X.base x n k mf)(hr:c4 k X.A)(ha:e8 X F (e::es) ma)(hE:F.gM=fun _ _=>False:=by rfl)(hK:F.K=X.K:=by rfl)(hg:cy X x:=by rfl)(hdb:(x==("__debug__" :Str))=false:=by decide)(he:starEach (e::es) X.env=(false,eval e X.env)::starEach es X.env:=by rfl)(hpl:(backTo pos (starEach es X.env)).any (·.1)=false:=by rfl):md X F (.Call (.Name x p) (e::es) [] pos) (iL n mf ma):=⟨ax.Td (c:=c) (hr:=hr) (ha:=ha.1) (hE:=hE) (hK:=hK) (hg:=hg) (hdb:=hdb) (he:=he) (hpl:=hpl)⟩
variable{scope:Scope}{N:List Str}
abbrev CH(X:aC)(scope:Scope)(N:List Str)(e:Expr)(m:az):Prop:=∀cl C s H aY bO bg,aW (e4 X scope N cl C s H aY) (eB X.K bO bg) e m
theorem Ks{mt:bY}(h:∀cl C s H aY bO bg,eS (e4 X scope N cl C s H aY) (eB X.K bO bg) c mt):k_ X scope N [c] mt:=ax.LK fun cl C s H aY bO bg=>(h cl C s H aY bO bg).1
theorem jO(nl:Nat)(caps:List Nat){ifs:List Expr}{mi:aO}{set:D→aj→R aj}{mt:bY}{eT:az}(S:qE X.env.scope X.N scope N nl caps=true)(hi:me X F bw iter mi)(hg:qe X scope N bw set)(ht:k_ X scope N ifs mt)(he:CH X scope N elt eT)(hc:X.calm=true:=by rfl)(hK:F.K=X.K:=by rfl)(hs:∀x,foldedSetIterable iter X.env x=pure x:=by intro _;rfl):md X F (.ListComp elt [⟨bw,iter,ifs,0⟩] scope pos) (dZ nl caps mi set mt eT):=
 ⟨ax.Tf nl caps S hi.1 hg ht (fun cl C s H aY bO bg=>(he cl C s H aY bO bg).1) hc hK hs⟩
theorem t_(i:Nat)(nl:Nat)(caps:List Nat){y:Str}{py:Pos}{ifs:List Expr}{mi:aO}{set:D→aj→R aj}{mt:bY}{eT:az}{bG:Pos}(hN:X.N.Nodup)(S:qE X.env.scope X.N scope N nl caps=true)(hi:me X F bw iter mi)(hg:qe X scope N bw set)(ht:k_ X scope N ifs mt)(he:CH X scope N elt eT)(bJ:X.N[i]?=some y:=by rfl)(hl:X.env.kindOf y=some .local:=by rfl)(kH:swapsWith (.ListComp elt [⟨bw,iter,ifs,0⟩] scope bG) (some (.Name y py)) pos.line X.env=pure true:=by rfl)(hc:X.calm=true:=by rfl)(hK:F.K=X.K:=by rfl)(hs:∀x,foldedSetIterable iter X.env x=pure x:=by intro _;rfl) :
  e0 X F (.Assign [.Name y py] (.ListComp elt [⟨bw,iter,ifs,0⟩] scope bG) pos) (gq i (dZ nl caps mi set mt eT)):=
 ⟨ax.VO i nl caps hN S hi.1 hg ht (fun cl C s H aY bO bg=>(he cl C s H aY bO bg).1) bJ hl kH hc hK hs⟩
end
theorem dX{P:Program}{w:World}{K:PySem.W.Frag}{mg:Str→Option Value}{base:Heap}{x:Str}{st:Stmt}{N ps:List Str}{k:Nat}{m:a0}(d:da K mg x st ps)(S:cG N ps (bM st))(h:∀(f:Addr)(b1:Value)(A:Around)(outer:List Env)(s:Shared)(H:ag)(E:cO),c4 k (A.deeper (PyProof.Rows.envOfC x (bM st) s.heap.objs.size f b1))→∀bO bg,hY (eA gK P w K mg base N x (bM st) f b1 A outer s H E).fo (eB K bO bg) (fx st) m) :
  dm P w K mg base x ps.length (k+1) (cS N.length m):=ax.Mp d S fun f b1 A outer s H E hr bO bg=>(h f b1 A outer s H E hr bO bg).1
structure l3(K:PySem.W.Frag)(mg:Str→Option Value)(x:Str)(d:D):Prop where
 ex:∃(v:V)(u:Value),mg x=some u∧RelV v u∧∀G,At K G d v
theorem kn{X:aC}{F:a4}{x:Str}{d:D}{pos:Pos}(c:l3 X.K X.mg x d)(hK:F.K=X.K:=by rfl)(hg:cy X x:=by rfl)(hd:(x==("__debug__" :Str))=false:=by decide):aW X F (.Name x pos) (ai d):=by obtain⟨v,u,h1,h2,h3⟩:=c.ex;exact⟨ax.M5 h1 h2 (by rw[hK];exact h3) hg hd⟩
end ax
namespace aQ
open PySem PySem.Spec PyProof.Rows
section
variable{X:aC}{bw:Expr}
noncomputable def xQ(a b c:Int):Prop:=c≠0∧Builtin.Range.small a b c=true∧0≤Builtin.Range.rangeSize a b c∧Builtin.divisionGoesByPylong (b-a) c=false
instance(a b c:Int):Decidable (xQ a b c):=by unfold xQ;infer_instance
end
section
variable{X:aC}{a e:Expr}{bX:eK}{pos p pos' iR:Pos}
noncomputable def rJoin(K:PySem.W.Frag):V→List V→ag→cj→Prop:=fun x vs H Q=>∃sep p ys,x=.str sep∧vs=[.ref p]∧bU K H p (ys.map V.str)∧(ys.map (·.length)).sum+ys.length*sep.length≤16777216∧Q (.str (Txt.join sep ys)) H
theorem Ke:∀{xs:List V}{us:List Value},xs.length=us.length→(∀(i:Nat) x y,xs[i]?=some x→us[i]?=some y→RelV x y)→Vals xs us
 |[],[],_,_=>.nil
 |[],_::_,h,_=>by simp at h
 |_::_,[],h,_=>by simp at h
 |x::xs,u::us,h,f=>.cons (f 0 x u (by simp) (by simp)) (Ke (by simpa using h) fun i a b ak ay=>f (i+1) a b (by simpa using ak) (by simpa using ay))
theorem Jn:∀{ys:List Str}{its:List Value},Vals (ys.map V.str) its→StrsAre its ys
 |[],_,h=>by cases h;exact .nil
 |y::ys,_,h=>by
  cases h with
  |cons r kR=>obtain⟨t,rfl⟩:=r;exact .cons y t (Jn kR)
theorem SH:x7 X "str.join" (rJoin X.K):=by intro pins s σ H x vs v us Q I bl bV h;obtain⟨sep,p,ys,rfl,rfl,aK,bq,q⟩:=h;obtain⟨t,rfl⟩:=bl;obtain⟨u,rfl,eb⟩:=vals1 bV;cases eb;obtain⟨its,r,pl,_⟩:=I.list aK;exact join_list pl.isList (by simpa using Jn r) bq fun t' k=>⟨.str _,H,I.tok _,⟨_,rfl⟩,q⟩
theorem Sb{pins:List (Addr×Obj)}{σ :St}{H1:ag}{s2:Shared}{Q:cj}{r:Addr}{j:Int}{t u v:Tok}(bT:Inv X pins σ H1 s2)(hc:X.calm=true)(hr:IsRange s2.heap r 0 j 1 t u v)(aM: -(2^62)≤j)(a_:j≤1000000)(q:∀l,H1 l=none→Q (.ref l) (upd H1 l (.lst ((List.range j.toNat).map fun i=>.int (i:Nat))))):wpAny (model X.prog X.w) X.A (call (.type "list") [.ref r]) (fu X pins σ Q) X.xe s2:=by
 have aE:Builtin.Range.rangeSize 0 j 1=(j.toNat:Nat):=by rw[rangeSize_one];split<;>omega
 refine call_list_range (bT.ok.hd hc) hr (small_one (by omega) (by omega) (by omega) (by omega)) aE (by omega) fun h' cM C8 d8 aH e it=>?_;obtain⟨acc,rfl⟩:∃l:List Value,C8=l.toArray:=⟨C8.toList,by simp⟩;have hv:Vals ((List.range j.toNat).map fun i=>V.int ((i:Nat):Int)) acc:=by
  have hl:acc.length=j.toNat:=by simpa using it.1
  refine Ke ?_ ?_
  ·simp[hl]
  ·intro i x y ak ay;rw[List.getElem?_map]at ak;have hi:i<j.toNat:=by rw[←hl];exact(List.getElem?_eq_some_iff.mp ay).1
   rw[List.getElem?_range hi]at ak;cases ak;obtain⟨tt,rfl⟩:=it.2 i y (by simpa using ay);exact⟨tt,by simp⟩
 exact⟨.ref _,_,bT.laid (t':=cM) aH (Nat.le_refl _) (show eI X.prog X.w _ h' _ (.lst _)from⟨Nat.le_trans (m:=1000000) (by simp;omega) (by decide),acc,d8,hv,e⟩),rfl,q _ (bT.br.fresh (Nat.le_refl _))⟩
noncomputable def Xh(bX:eK):TE:=fun σ H Q=>bX σ H fun vs H1=>∃j:Int,vs=[.int j]∧-(2^62)≤j∧j≤1000000∧∀l,H1 l=none→Q (.ref l) (upd H1 l (.lst ((List.range j.toNat).map fun i=>.int (i:Nat))))
theorem Ug(hg:cy X "list")(hm:X.mg "list"=none)(hg2:cy X "range")(hm2:X.mg "range"=none)(hc:X.calm=true)(ha:eJ X [a] bX)(hs:starEach [a] X.env=[(false,eval a X.env)]:=by rfl)(hs2:starEach [.Call (.Name "range" iR) [a] [] pos'] X.env=[(false,eval (.Call (.Name "range" iR) [a] [] pos') X.env)]:=by rfl) :
  aT X (.Call (.Name "list" p) [.Call (.Name "range" iR) [a] [] pos'] [] pos) (Xh bX):=by
 intro pins s σ H Q I h;refine wpAny_Call_Name_kw (nS (u:=.type "list") I hg hm (by kernel_rfl) ?_);refine PyProof.Rows.callWith_type1 ?_ hs2 rfl;rw[hs2];refine Calls.spliced_cons ?_;refine Call_ (nS I hg2 hm2 boot_range (PyProof.Rows.callWith_type1 (bF (ha pos' pins s σ H _ I h) fun us s1⟨vs,H1,aL,ar,aM⟩=>?_) hs rfl));obtain⟨j,e,aM,a_,q⟩:=aM;subst e;cases ar with
 |cons r kR=>cases kR;obtain⟨t,rfl⟩:=r;refine call_range_1 (Calls.spliced_nil ?_);exact Sb (aL.kept fun b o e=>Heap.get?_push_of_some _ e) hc (IsRange.new ..) aM a_ q
end
end aQ
namespace ax
open PySem PySem.Spec aQ
abbrev e3:=aj→R (D×aj)
abbrev iB:=aj→R (List D×aj)
noncomputable def Q3(F:a4)(G:ag)(σ :St)(Q:cj):R (D×aj)→Prop
 |.ok (d,bh)=>∀v H' G',Rel F G' H' σ bh→Sub G G'→At F.K G' d v→Q v H'
 |.exc c=>jA F c
 |.bad=>False
noncomputable def Q1(F:a4)(G:ag)(σ :St)(Q:List V→ag→Prop):R (List D×aj)→Prop
 |.ok (d,bh)=>∀v H' G',Rel F G' H' σ bh→Sub G G'→aI F.K G' d v→Q v H'
 |.exc c=>jA F c
 |.bad=>False
def p0(F:a4)(m:e3):TE:=fun σ H Q=>∃G ρ,Rel F G H σ ρ∧Q3 F G σ Q (m ρ)
def rz(F:a4)(m:iB):eK:=fun σ H Q=>∃G ρ,Rel F G H σ ρ∧Q1 F G σ Q (m ρ)
def lf(m:az):e3:=fun ρ=>(m ρ).bind fun d=>.ok (d,ρ)
def q2(m:aO):iB:=fun ρ=>(m ρ).bind fun d=>.ok (d,ρ)
section
variable{F:a4}
theorem P1{m:az}:en (p0 F (lf m)) (cC F m):=by
 rintro σ H Q ⟨G,ρ,r,h⟩;refine⟨G,ρ,r,?_⟩;unfold lf at h;cases aq:m ρ with
 |bad=>rw[aq]at h;exact h.elim
 |exc c=>rw[aq]at h;exact h
 |ok d=>rw[aq]at h;exact fun v H' G' a8 u a=>h v H' G' a8 u.g a
theorem P2{m:aO}:qk (rz F (q2 m)) (ee F m):=by
 rintro σ H Q ⟨G,ρ,r,h⟩;refine⟨G,ρ,r,?_⟩;unfold q2 at h;cases aq:m ρ with
 |bad=>rw[aq]at h;exact h.elim
 |exc c=>rw[aq]at h;exact h
 |ok d=>rw[aq]at h;exact fun v H' G' a8 u a=>h v H' G' a8 u.g a
def pD(a:e3)(r:iB):iB:=fun ρ=>(a ρ).bind fun x=>(r x.2).bind fun y=>.ok (x.1::y.1,y.2)
theorem PQ{ma:e3}{pR:iB}:qk (rz F (pD ma pR)) (tT (p0 F ma) (rz F pR)):=by
 rintro σ H Q ⟨G,ρ,r,h⟩;unfold pD at h;refine⟨G,ρ,r,?_⟩;cases aq:ma ρ with
 |bad=>rw[aq]at h;exact h.elim
 |exc c=>rw[aq]at h;exact h
 |ok x=>
  obtain⟨aN,dQ⟩:=x;rw[aq,R.bt]at h;intro x H1 aJ ar s1 bL;refine⟨aJ,dQ,ar,?_⟩;cases a7:pR dQ with
  |bad=>simp only[a7]at h;exact h.elim
  |exc c=>simp only[a7]at h;exact h
  |ok y=>obtain⟨fy,ey⟩:=y;simp only[a7,R.bt]at h;intro y aS cI a5 s2 cJ;exact h (x::y) aS cI a5 (s1.trans s2) (.cons (bL.mono s2) cJ)
def pJ(m:iB):e3:=fun ρ=>(m ρ).bind fun x=>if x.1.length≤1000000 then .ok (.tup x.1,x.2)else .bad
theorem Qq{m:iB}:en (p0 F (pJ m)) (B1 (rz F m)):=by
 rintro σ H Q ⟨G,ρ,r,h⟩;unfold pJ at h;refine⟨G,ρ,r,?_⟩;cases aq:m ρ with
 |bad=>rw[aq]at h;exact h.elim
 |exc c=>rw[aq]at h;exact h
 |ok x=>
  obtain⟨ds,dQ⟩:=x;rw[aq,R.bt]at h;intro vs H1 aJ ar s1 a;by_cases hl:ds.length≤1000000
  ·simp only[if_pos hl]at h;refine⟨by rw[←a.length];exact Nat.le_trans hl (by decide),fun p hp=>?_⟩;refine h (.ref p) _ _ (ar.lay hp) (s1.trans (Sub.upd (ar.aH.sub.gone hp))) ?_;simp only[At];exact⟨p,vs,rfl,d0,a.mono (Sub.upd (ar.aH.sub.gone hp))⟩
  ·simp only[if_neg hl]at h;exact h.elim
def rf(i:Nat)(a:e3):a0:=fun ρ=>(a ρ).bind fun x=>(bN i x.1 x.2).bind fun bh=>.ok (.bk bh)
theorem Ql{i:Nat}{a:e3}:g0 (fc F (rf i a)) (om (p0 F a) (jv i)):=by
 rintro cu σ H ⟨G,ρ,r,h⟩;unfold rf bN at h;refine⟨G,ρ,r,?_⟩;cases aq:a ρ with
 |bad=>rw[aq]at h;exact h.elim
 |exc c=>rw[aq]at h;exact h
 |ok x=>
  obtain⟨d,dQ⟩:=x;rw[aq,R.bt]at h;intro v H1 aJ ar s1 bb;by_cases hi:i<dQ.length
  ·simp only[if_pos hi]at h;exact h _ aJ H1 (ar.set hi bb) s1
  ·simp only[if_neg hi]at h;exact h.elim
def q6(a:e3):a0:=fun ρ=>(a ρ).bind fun x=>.ok (.bk x.2)
theorem PU{a:e3}:g0 (fc F (q6 a)) (BW (p0 F a)):=by
 rintro cu σ H ⟨G,ρ,r,h⟩;unfold q6 at h;refine⟨G,ρ,r,?_⟩;cases aq:a ρ with
 |bad=>rw[aq]at h;exact h.elim
 |exc c=>rw[aq]at h;exact h
 |ok x=>obtain⟨d,dQ⟩:=x;rw[aq]at h;exact fun v H' G' a8 s' _=>h σ G' H' a8 s'
end
section
variable{F:a4}
def del(H:ag)(a:Addr):ag:=fun b=>if b=a then none else H b
theorem Mx{H:ag}{a:Addr}:del H a a=none:=by simp[del]
theorem Ea{H:ag}{a b:Addr}(h:b≠a):del H a b=H b:=by simp[del,h]
theorem yX(H:ag)(a:Addr):Sub (del H a) H:=fun b o e=>by
 unfold del at e
 split at e
 ·cases e
 ·exact e
theorem Rel.drop{G H:ag}{σ :St}{ρ:aj}(r:Rel F G H σ ρ)(i:Nat):Rel F G H σ (ρ.set i .un):=by
 by_cases hi:i<ρ.length
 ·have hs:i< σ.length:=by rw[r.len];exact hi
  have z:=r.rv (s:=.un) (o:= σ[i]) hi trivial fun _ f=>f.elim;rw[ax.BJ (List.getElem?_eq_getElem hs)]at z;exact z
 ·rw[List.set_eq_of_length_le (by omega)];exact r
end
section
variable{F:a4}
end
end ax
namespace ax
open PySem PySem.Spec aQ PyProof.Rows
abbrev oG(X:aC)(F:a4)(e:Expr)(m:e3):Prop:=aT X e (p0 F m)
abbrev ue(X:aC)(F:a4)(es:List Expr)(m:iB):Prop:=eJ X es (rz F m)
theorem aI.erase{K:PySem.W.Frag}{G:ag}{ds:List D}{xs:List V}(n:Nat)(q:aI K G ds xs):aI K G (ds.eraseIdx n) (xs.eraseIdx n):=by rw[List.eraseIdx_eq_take_drop_succ,List.eraseIdx_eq_take_drop_succ];exact(q.take n).append (q.drop (n+1))
section
variable{X:aC}{F:a4}{e a b c:Expr}{es:List Expr}{pos p:Pos}{m n:az}{ma:aO}
noncomputable def pH(i:Nat)(m:az):e3:=fun ρ=>(ownAt i ρ).bind fun ds=>(m ρ).bind fun d=>match d with
 |.int k=>if-(2^63)≤k∧k<2^63 then match seqIndex? k ds.length with
  |some j=>match ds[j]? with
   |some y=>.ok (y,ρ.set i (.c6 (ds.eraseIdx j)))
   |none=>.bad
  |none=>.bad
  else .bad
 |_=>.bad
theorem Nn (i:Nat) {x:Str} {a3:Pos} {apos:Pos} {bG:Pos} (he:a6 X F e m) (hN:X.N[i]?=some x:=by rfl) (hv:gd X.env.scope x:=by first|exact Or.inl rfl|exact Or.inr (Or.inl rfl)|exact Or.inr (Or.inr rfl)) (hd:(x==("__debug__" :Str))=false:=by decide) (hcd:(x==("__classdict__" :Str))=false:=by decide)(hbase:attributeBase (.Name x a3) "pop" X.env (eval (.Name x a3) X.env)=eval (.Name x a3) X.env:=by rfl) (hline:(apos.endLine==bG.line)=true:=by rfl)(hfew:((backTo bG (starEach [e] X.env)).all (fun x=>!x.1)&&(backToKw bG (keywordEach [] X.env)).all (fun x=>x.1.isSome)
    &&decide (([e]:List Expr).length+([]:List Keyword).length+(if([]:List Keyword).isEmpty then 0 else 1)<30))=true:=by rfl)
  (hs:starEach [e] X.env=(false,eval e X.env)::starEach [] X.env:=by rfl) (hplain:(backTo bG (starEach [] X.env)).any (·.1)=false:=by rfl) :
  oG X F (.Call (.Attribute (.Name x a3) "pop" apos) [e] [] bG) (pH i m):=by
 refine aT.imp (ro PySem.F.plainAttrs_list PySem.F.slot_list_pop PySem.F.type_list_pop SI (lP hN hv hd hcd) (jH he lO hs) hbase hfew hline hs hplain) ?_;rintro σ H Q ⟨G,ρ,r,h⟩;unfold pH ownAt at h;cases cZ:ρ[i]? with
 |none=>rw[cZ]at h;exact h.elim
 |some s=>
  rw[cZ]at h;cases s with
  |un=>exact h.elim
  |aw _=>exact h.elim
  |eu _=>exact h.elim
  |aV aV=>
   cases aV with
   |bI _ _=>exact h.elim
   |ins _ _ _=>exact h.elim
   |lst ds=>
    obtain⟨q,xs,ak,h1,h2,h3,h4⟩:=r.own cZ;rw[R.bt]at h;refine⟨.ref q,ak,.inl ⟨rfl,xs,bU.of h1⟩,G,ρ,r,?_⟩;cases aq:m ρ with
    |bad=>rw[aq]at h;exact h.elim
    |exc c=>rw[aq]at h;exact h
    |ok d=>
     rw[aq,R.bt]at h;intro v H1 aJ ar s1 bb;obtain⟨cV,k6,gE,cA,cp,sz,hB⟩:=ar.own cZ;rw[ak]at gE;cases gE;cases d with
     |int k=>
      simp only[At]at bb;subst bb;simp only at h
      split at h
      ·rename_i hk
       split at h
       ·rename_i j i6
        split at h
        ·rename_i y d4;obtain⟨w,i7,i0⟩:=hB.get d4;refine⟨q,k6,k,j,w,rfl,rfl,cA,hk.1,hk.2,by rw[←hB.length];exact i6,i7,?_⟩;exact h w _ aJ (ar.mut cZ ak (hB.erase j)) s1.g i0
        ·exact h.elim
       ·exact h.elim
      ·exact h.elim
     |_=>exact h.elim
noncomputable def sX(i:Nat)(m:e3):a0:=fun ρ=>(ownAt i ρ).bind fun _=>(m ρ).bind fun x=>(ownAt i x.2).bind fun ds=>if ds.length<1000000 then .ok (.bk (x.2.set i (.c6 (ds++[x.1]))))else .bad
theorem VL (i:Nat) {x:Str} {a3:Pos} {apos:Pos} {bG:Pos} {m:e3} (he:oG X F e m) (hN:X.N[i]?=some x:=by rfl) (hv:gd X.env.scope x:=by first|exact Or.inl rfl|exact Or.inr (Or.inl rfl)|exact Or.inr (Or.inr rfl)) (hd:(x==("__debug__" :Str))=false:=by decide) (hcd:(x==("__classdict__" :Str))=false:=by decide)(hbase:attributeBase (.Name x a3) "append" X.env (eval (.Name x a3) X.env)=eval (.Name x a3) X.env:=by rfl) (hline:(apos.endLine==bG.line)=true:=by rfl)(hfew:((backTo bG (starEach [e] X.env)).all (fun x=>!x.1)&&(backToKw bG (keywordEach [] X.env)).all (fun x=>x.1.isSome)
    &&decide (([e]:List Expr).length+([]:List Keyword).length+(if([]:List Keyword).isEmpty then 0 else 1)<30))=true:=by rfl)
  (hs:starEach [e] X.env=(false,eval e X.env)::starEach [] X.env:=by rfl) (hplain:(backTo bG (starEach [] X.env)).any (·.1)=false:=by rfl) :
  fH X F (.Expr (.Call (.Attribute (.Name x a3) "append" apos) [e] [] bG) pos) (sX i m):=by
 refine c7.imp (tH (ro PySem.F.plainAttrs_list PySem.F.slot_list_append PySem.F.type_list_append Ak (lP hN hv hd hcd) (jH he lO hs) hbase hfew hline hs hplain) (kV _ _ _ _ rfl)) ?_;rintro cu σ H ⟨G,ρ,r,h⟩;unfold sX ownAt at h;cases cZ:ρ[i]? with
 |none=>rw[cZ]at h;exact h.elim
 |some s=>
  rw[cZ]at h;cases s with
  |un=>exact h.elim
  |aw _=>exact h.elim
  |eu _=>exact h.elim
  |aV aV=>
   cases aV with
   |bI _ _=>exact h.elim
   |ins _ _ _=>exact h.elim
   |lst ZL=>
    obtain⟨q,xs,ak,h1,h2,h3,h4⟩:=r.own cZ;rw[R.bt]at h;refine⟨.ref q,ak,.inl ⟨rfl,xs,bU.of h1⟩,G,ρ,r,?_⟩;cases aq:m ρ with
    |bad=>rw[aq]at h;exact h.elim
    |exc c=>rw[aq]at h;exact h
    |ok y=>
     obtain⟨d,dQ⟩:=y;rw[aq,R.bt]at h;intro v H1 aJ ar s1 bb;simp only at h;cases vn:dQ[i]? with
     |none=>rw[vn]at h;exact h.elim
     |some s=>
      rw[vn]at h;cases s with
      |un=>exact h.elim
      |aw _=>exact h.elim
      |eu _=>exact h.elim
      |aV aV=>
       cases aV with
       |bI _ _=>exact h.elim
       |ins _ _ _=>exact h.elim
       |lst ds=>
        rw[R.bt]at h;obtain⟨cV,k6,gE,cA,cp,sz,hB⟩:=ar.own vn;rw[ak]at gE;cases gE;by_cases hl:ds.length<1000000
        ·rw[if_pos hl]at h;refine⟨q,k6,v,rfl,rfl,cA,by rw[←hB.length];exact Nat.lt_trans hl (by decide),?_⟩;exact h σ aJ _ (ar.mut vn ak (hB.snoc bb)) s1
        ·rw[if_neg hl]at h;exact h.elim
def lH:List D→R (List D)
 |[.lst xs]=>.ok xs
 |[.cx xs]=>.ok xs
 |[.tup xs]=>.ok xs
 |_=>.bad
def jD(m:aO):aO:=fun ρ=>(m ρ).bind lH
theorem P5(hK:F.K=X.K):en (jL F (jD ma)) (tR (fun xs H Q=>∃p ys,xs=[.ref p]∧(bU X.K H p ys∨cK X.K H p ys)∧∀l,H l=none→Q (.ref l) (upd H l (.lst ys))) (ee F ma)):=by
 rintro σ H Q ⟨G,ρ,r,h⟩;unfold jD at h;refine⟨G,ρ,r,?_⟩;cases aq:ma ρ with
 |bad=>rw[aq]at h;exact h.elim
 |exc c=>rw[aq]at h;exact h
 |ok ds=>
  rw[aq,R.bt]at h;intro vs H1 aJ ar s1 a;unfold lH at h
  split at h
  ·obtain⟨v,rfl,bb⟩:=a.one;simp only[At]at bb;obtain⟨q,xs,rfl,aK,fI⟩:=bb;refine⟨q,xs,rfl,.inl (bU.of (ar.aH.sub _ _ aK)),fun l hl=>?_⟩;exact h l xs _ aJ (ar.lay0 hl) (s1.trans (cc.lay0 hl)) (s1.h.gone hl) d0 (ar.aH.sub.gone hl) fI
  ·obtain⟨v,rfl,bb⟩:=a.one;simp only[At]at bb;obtain⟨q,xs,rfl,aK,fI⟩:=bb;refine⟨q,xs,rfl,.inl (by rw[←hK];exact bU.mono ar.aH.sub aK),fun l hl=>?_⟩;exact h l xs _ aJ (ar.lay0 hl) (s1.trans (cc.lay0 hl)) (s1.h.gone hl) d0 (ar.aH.sub.gone hl) fI
  ·obtain⟨v,rfl,bb⟩:=a.one;simp only[At]at bb;obtain⟨q,xs,rfl,aK,fI⟩:=bb;refine⟨q,xs,rfl,.inr (cK.of (ar.aH.sub _ _ aK)),fun l hl=>?_⟩;exact h l xs _ aJ (ar.lay0 hl) (s1.trans (cc.lay0 hl)) (s1.h.gone hl) d0 (ar.aH.sub.gone hl) fI
  ·exact h.elim
theorem Tg(hm:X.mg "list"=none)(ha:gy X F [e] ma)(hK:F.K=X.K:=by rfl)(hg:cy X "list":=by rfl)(he:starEach [e] X.env=(false,eval e X.env)::starEach [] X.env:=by rfl)(hpl:(backTo pos (starEach [] X.env)).any (·.1)=false:=by rfl) :
  l4 X F (.Call (.Name "list" p) [e] [] pos) (jD ma):=aT.imp (Ax L4 hg hm (by kernel_rfl) ha (by decide) (by decide) he hpl) (P5 hK)
noncomputable def sW:List D→R (List D)
 |[.int j]=>if-(2^62)≤j∧j≤1000000 then .ok (fZ 0 j.toNat)else .bad
 |_=>.bad
def s8(m:aO):aO:=fun ρ=>(m ρ).bind sW
theorem Dj{K:PySem.W.Frag}{G:ag}:∀(l:List Nat),aI K G (l.map fun i=>.int (0+((i:Nat):Int))) (l.map fun i=>V.int ((i:Nat):Int))
 |[]=>.nil
 |i::l=>.cons (by simp[At]) (Dj l)
theorem Th{iR pos':Pos}(hm:X.mg "list"=none)(hm2:X.mg "range"=none)(ha:gy X F [a] ma)(hc:X.calm=true:=by rfl)(hg:cy X "list":=by rfl)(hg2:cy X "range":=by rfl)(hs:starEach [a] X.env=[(false,eval a X.env)]:=by rfl)(hs2:starEach [.Call (.Name "range" iR) [a] [] pos'] X.env=[(false,eval (.Call (.Name "range" iR) [a] [] pos') X.env)]:=by rfl) :
  l4 X F (.Call (.Name "list" p) [.Call (.Name "range" iR) [a] [] pos'] [] pos) (s8 ma):=by
 refine aT.imp (Ug hg hm hg2 hm2 hc ha hs hs2) ?_;rintro σ H Q ⟨G,ρ,r,h⟩;unfold s8 at h;refine⟨G,ρ,r,?_⟩;cases aq:ma ρ with
 |bad=>rw[aq]at h;exact h.elim
 |exc c=>rw[aq]at h;exact h
 |ok ds=>
  rw[aq,R.bt]at h;intro vs H1 aJ ar s1 a;unfold sW at h
  split at h
  ·rename_i j
   split at h
   ·rename_i cv;refine⟨j,a.ints1,cv.1,cv.2,fun l hl=>?_⟩;exact h l _ _ aJ (ar.lay0 hl) (s1.trans (cc.lay0 hl)) (s1.h.gone hl) d0 (ar.aH.sub.gone hl) (Dj _)
   ·exact h.elim
  ·exact h.elim
def Sy:List D→R D
 |[.int i,.int j]=>.ok (.int (if j>i then j else i))
 |_=>.bad
noncomputable def XT:List D→R D
 |[.int i]=>.ok (.int i)
 |[.au k]=>.ok (.int (if k then 1 else 0))
 |[.str x]=>if x.length≤640 then match intText? x with|some i=>.ok (.int i)|none=>.bad else .bad
 |_=>.bad
def tP:List D→Option (List Str)
 |[]=>some []
 |.str x::r=>(tP r).map (x::·)
 |_=>none
theorem Jo{K:PySem.W.Frag}{G:ag}:∀{ds:List D}{xs:List V}{ys:List Str},aI K G ds xs→tP ds=some ys→xs=ys.map V.str
 |[],_,_,h,e=>by simp only[aI]at h;subst h;cases e;rfl
 |d::ds,_,_,h,e=>by
  simp only[aI]at h;obtain⟨v,r,rfl,q,t⟩:=h;cases d with
  |str x=>
   unfold tP at e;cases cZ:tP ds with
   |none=>rw[cZ]at e;cases e
   |some zs=>rw[cZ]at e;cases e;simp only[At]at q;rw[q,Jo t cZ];rfl
  |_=>cases e
noncomputable def vW(sep:Str):List D→R D
 |[.lst ds]=>match tP ds with
  |some ys=>if(ys.map (·.length)).sum+ys.length*sep.length≤16777216 then .ok (.str (Txt.join sep ys))else .bad
  |none=>.bad
 |_=>.bad
def s_(set:D→aj→R aj)(m:az):a0:=fun ρ=>(m ρ).bind fun d=>(set d ρ).bind fun bh=>.ok (.bk bh)
theorem V8{bw:Expr}{set:D→aj→R aj}(he:a6 X F e m)(hg:GM X bw set)(hK:F.K=X.K:=by rfl)(hs:swapsWithSole [bw] e pos.line X.env=pure false:=by rfl)(hw:swappedStores [bw] e X.env=pure none:=by rfl)(h1:(assignEach [bw] X.env).map (·.2)=[assign bw X.env]:=by rfl):fH X F (.Assign [bw] e pos) (s_ set m):=by
 obtain⟨⟨g,g1,g2⟩,g3,_⟩:=hg;refine c7.imp (Ic he g1 hs hw h1) ?_;rintro cu σ H ⟨G,ρ,r,h⟩;unfold s_ at h;refine⟨G,ρ,r,?_⟩;cases aq:m ρ with
 |bad=>rw[aq]at h;exact h.elim
 |exc c=>rw[aq]at h;exact h
 |ok d=>
  rw[aq,R.bt]at h;intro v H1 aJ ar s1 bb;cases es:set d ρ with
  |bad=>rw[es]at h;exact h.elim
  |exc c=>exact absurd es (g3 d ρ c)
  |ok bh=>rw[es]at h;exact g2 F hK σ ρ aJ H1 v d _ bh ar bb es fun σ' a8=>h σ' aJ H1 a8 s1.g
def Vj(lo c:Int)(n:Nat):List D:=(List.range n).map fun(i:Nat)=>.int (lo+(i:Int)*c)
noncomputable def IF:List D→R (List D)
 |[.int a,.int b,.int c]=>if xQ a b c then .ok (Vj a c (Builtin.Range.rangeSize a b c).toNat)else .bad
 |_=>.bad
theorem NZ(h:a6 X F e m):oG X F e (lf m):=aT.imp h P1
theorem N0:ue X F [] (q2 av):=eJ.imp lO (fun σ H Q h=>Gr σ H Q (P2 σ H Q h))
theorem NX{m:e3}{r:iB}(h:oG X F e m)(t:ue X F es r)(hs:notStar e=true:=by rfl):ue X F (e::es) (pD m r):=eJ.imp (jH h t (Jj e es X.env hs)) PQ
theorem f_tup{k}{m:iB}(h:ue X F es m):oG X F (.Tuple es k pos) (pJ m):=aT.imp (HY h) Qq
theorem V5(i:Nat){x:Str}{p:Pos}{m:e3}(hN:X.N.Nodup)(he:oG X F e m)(hi:X.N[i]?=some x:=by rfl)(hx:Loc X.env.scope x:=by first|exact Or.inl rfl|exact Or.inr rfl)(hs:ik e=true:=by rfl)(hf:X.fn x=true∨X.env.scope.names.lookup x=some .local:=by first|exact .inl rfl|exact .inr rfl):fH X F (.Assign [.Name x p] e pos) (rf i m):=
 c7.imp (wO hN hi hx he (kV _ _ _ _ hs) hf) Ql
theorem VT{m:e3}(h:oG X F e m)(hs:ik e=true:=by rfl):fH X F (.Expr e pos) (q6 m):=c7.imp (tH h (kV _ _ _ _ hs)) PU
theorem Jb{n:Nat}{mf:List D→R bZ}{xe:cO→Str→ag→Prop}{E:cO}{aJ H1:ag}{σ :aQ.St}{ρ:aj}{ds:List D}{vs:List V}{Q:cj}(hx:F.gM=xe E)(ar:Rel F aJ H1 σ ρ)(a:aI F.K aJ ds vs)(aE:ds.length=n)(h:ie F aJ H1 σ ρ Q ((mf ds).bind ji)):oj F.K n xe mf vs H1 Q E:=by
 refine⟨aJ,ds,ar.aH.sub,a,aE,?_⟩;cases e:mf ds with
 |bad=>rw[e]at h;exact h.elim
 |exc c=>rw[e]at h;intro G' H' k;have z:=h G' H' (ef.of ar k).aH;rw[hx]at z;exact z
 |ok t=>
  rw[e,R.bt]at h;cases t with
  |v d=>exact fun v G' H' k bb=>h v H' G' (ef.of ar k) ⟨k.e1,k.hh,k.new⟩ bb
  |o es=>intro p xs G' H' k h1 h2 h3 h4;have h2:H1 p=none:=h2;have a8:=ef.of ar k;have no:¬dR H' σ ρ p:=dR.fresh ar k.hh h2;refine h (.ref p) H' _ (a8.take h3 h1 (ar.aH.hh.gone h2) no) (cc.put ⟨k.e1,k.hh,k.new⟩ h2 h1) ?_;simp only[At];exact⟨p,xs,rfl,d0,h4.mono (Sub.upd h1)⟩
  |t t=>intro v G' H' k q;obtain⟨a1,a2,fg⟩:=(ef.of ar k).JN (F':=⟨F.K,aJ,H1,xe E⟩) rfl q ⟨k.e1,k.hh,k.new⟩ fun b hb=>⟨(q.own b hb).2,ar.aH.hh.gone (q.own b hb).2,dR.fresh ar k.hh (q.own b hb).2⟩;exact h v H' _ a1 a2 fg
end
section
variable{X:aC}{F:a4}{e a b c:Expr}{es:List Expr}{pos p:Pos}{m n:az}{ma:aO}
end
end ax
namespace ax
open PySem PySem.Spec aQ
structure ng(X:aC)(F:a4)(e:Expr)(m:e3):Prop where
 o:aT X e (p0 F m)
structure uI(X:aC)(F:a4)(es:List Expr)(m:iB):Prop where
 o:eJ X es (rz F m)
section
variable{X:aC}{F:a4}{e a b c bw iter elt:Expr}{es:List Expr}{pos p:Pos}{m n:az}{ma:aO}{st:Stmt}{jK:List Stmt}
theorem Kz (i:Nat) {x:Str} {a3:Pos} {apos:Pos} {bG:Pos} (he:aW X F e m) (hN:X.N[i]?=some x:=by rfl) (hv:gd X.env.scope x:=by first|exact Or.inl rfl|exact Or.inr (Or.inl rfl)|exact Or.inr (Or.inr rfl)) (hd:(x==("__debug__" :Str))=false:=by decide) (hcd:(x==("__classdict__" :Str))=false:=by decide) (hbase:attributeBase (.Name x a3) "pop" X.env (eval (.Name x a3) X.env)=eval (.Name x a3) X.env:=by rfl) (hline:(apos.endLine==bG.line)=true:=by rfl) (hfew:((backTo bG (starEach [e] X.env)).all (fun x=>!x.1)&&(backToKw bG (keywordEach [] X.env)).all (fun x=>x.1.isSome)
   &&decide (([e]:List Expr).length+([]:List Keyword).length+(if([]:List Keyword).isEmpty then 0 else 1)<30))=true:=by rfl) (hs:starEach [e] X.env=(false,eval e X.env)::starEach [] X.env:=by rfl) (hplain:(backTo bG (starEach [] X.env)).any (·.1)=false:=by rfl):ng X F (.Call (.Attribute (.Name x a3) "pop" apos) [e] [] bG) (pH i m):=⟨ax.Nn (i:=i) (he:=he.1) (hN:=hN) (hv:=hv) (hd:=hd) (hcd:=hcd) (hbase:=hbase) (hline:=hline) (hfew:=hfew) (hs:=hs) (hplain:=hplain)⟩
theorem Zc (i:Nat) {x:Str} {a3:Pos} {apos:Pos} {bG:Pos} {m:e3} (he:ng X F e m) (hN:X.N[i]?=some x:=by rfl) (hv:gd X.env.scope x:=by first|exact Or.inl rfl|exact Or.inr (Or.inl rfl)|exact Or.inr (Or.inr rfl)) (hd:(x==("__debug__" :Str))=false:=by decide) (hcd:(x==("__classdict__" :Str))=false:=by decide) (hbase:attributeBase (.Name x a3) "append" X.env (eval (.Name x a3) X.env)=eval (.Name x a3) X.env:=by rfl) (hline:(apos.endLine==bG.line)=true:=by rfl) (hfew:((backTo bG (starEach [e] X.env)).all (fun x=>!x.1)&&(backToKw bG (keywordEach [] X.env)).all (fun x=>x.1.isSome)
   &&decide (([e]:List Expr).length+([]:List Keyword).length+(if([]:List Keyword).isEmpty then 0 else 1)<30))=true:=by rfl) (hs:starEach [e] X.env=(false,eval e X.env)::starEach [] X.env:=by rfl) (hplain:(backTo bG (starEach [] X.env)).any (·.1)=false:=by rfl):e0 X F (.Expr (.Call (.Attribute (.Name x a3) "append" apos) [e] [] bG) pos) (sX i m):=⟨ax.VL (i:=i) (he:=he.1) (hN:=hN) (hv:=hv) (hd:=hd) (hcd:=hcd) (hbase:=hbase) (hline:=hline) (hfew:=hfew) (hs:=hs) (hplain:=hplain)⟩
theorem p9(hm:X.mg "list"=none)(ha:e8 X F [e] ma)(hK:F.K=X.K:=by rfl)(hg:cy X "list":=by rfl)(he:starEach [e] X.env=(false,eval e X.env)::starEach [] X.env:=by rfl)(hpl:(backTo pos (starEach [] X.env)).any (·.1)=false:=by rfl):md X F (.Call (.Name "list" p) [e] [] pos) (jD ma):=⟨ax.Tg (hm:=hm) (ha:=ha.1) (hK:=hK) (hg:=hg) (he:=he) (hpl:=hpl)⟩
theorem Za{iR pos':Pos}(hm:X.mg "list"=none)(hm2:X.mg "range"=none)(ha:e8 X F [a] ma)(hc:X.calm=true:=by rfl)(hg:cy X "list":=by rfl)(hg2:cy X "range":=by rfl)(hs:starEach [a] X.env=[(false,eval a X.env)]:=by rfl)(hs2:starEach [.Call (.Name "range" iR) [a] [] pos'] X.env=[(false,eval (.Call (.Name "range" iR) [a] [] pos') X.env)]:=by rfl):md X F (.Call (.Name "list" p) [.Call (.Name "range" iR) [a] [] pos'] [] pos) (s8 ma):=⟨ax.Th (hm:=hm) (hm2:=hm2) (ha:=ha.1) (hc:=hc) (hg:=hg) (hg2:=hg2) (hs:=hs) (hs2:=hs2)⟩
theorem Zi{bw:Expr}{set:D→aj→R aj}(he:aW X F e m)(hg:GM X bw set)(hK:F.K=X.K:=by rfl)(hs:swapsWithSole [bw] e pos.line X.env=pure false:=by rfl)(hw:swappedStores [bw] e X.env=pure none:=by rfl)(h1:(assignEach [bw] X.env).map (·.2)=[assign bw X.env]:=by rfl):e0 X F (.Assign [bw] e pos) (s_ set m):=⟨ax.V8 (he:=he.1) (hg:=hg) (hK:=hK) (hs:=hs) (hw:=hw) (h1:=h1)⟩
theorem Y4(h:aW X F e m):ng X F e (lf m):=⟨ax.NZ (h:=h.1)⟩
theorem Y5:uI X F [] (q2 av):=⟨ax.N0 ⟩
theorem KA{m:e3}{r:iB}(h:ng X F e m)(t:uI X F es r)(hs:notStar e=true:=by rfl):uI X F (e::es) (pD m r):=⟨ax.NX (h:=h.1) (t:=t.1) (hs:=hs)⟩
theorem Y7{k}{m:iB}(h:uI X F es m):ng X F (.Tuple es k pos) (pJ m):=⟨ax.f_tup (h:=h.1)⟩
theorem Zg(i:Nat){x:Str}{p:Pos}{m:e3}(hN:X.N.Nodup)(he:ng X F e m)(hi:X.N[i]?=some x:=by rfl)(hx:Loc X.env.scope x:=by first|exact Or.inl rfl|exact Or.inr rfl)(hs:ik e=true:=by rfl)(hf:X.fn x=true∨X.env.scope.names.lookup x=some .local:=by first|exact .inl rfl|exact .inr rfl):e0 X F (.Assign [.Name x p] e pos) (rf i m):=⟨ax.V5 (i:=i) (hN:=hN) (he:=he.1) (hi:=hi) (hx:=hx) (hs:=hs) (hf:=hf)⟩
theorem Ze{m:e3}(h:ng X F e m)(hs:ik e=true:=by rfl):e0 X F (.Expr e pos) (q6 m):=⟨ax.VT (h:=h.1) (hs:=hs)⟩
end
theorem eG.inj{K:PySem.W.Frag}{c:Str}{C iy:Addr}(h:eG K c C)(h':eG K c iy):C=iy:=by unfold eG at h h';rw[h]at h';cases h';rfl
theorem G9{K:PySem.W.Frag}{G:ag}{f:Str}{d:D}:∀{xs:List (Str×V)}{ds:List D},aI K G ds (xs.map (·.2))→((xs.map (·.1)).zip ds).lookup f=some d→∃v,xs.lookup f=some v∧At K G d v
 |[],_,_,e=>by simp at e
 |(k,v)::xs,[],h,_=>by have:=h.length;simp at this
 |(k,v)::xs,e::ds,h,l=>by
  simp only[List.map_cons,aI]at h;obtain⟨lY,r,ak,a,t⟩:=h;cases ak;simp only[List.map_cons,List.zip_cons_cons,List.lookup_cons]at l ⊢;cases hk:f==k with
  |true=>rw[hk]at l;cases l;exact⟨v,rfl,a⟩
  |false=>rw[hk]at l;exact G9 t l
theorem z_{f:Str}:∀{xs:List (Str×V)},(xs.map (·.1)).all (fun k=>!(f==k))=true→xs.lookup f=none
 |[],_=>rfl
 |(k,v)::xs,h=>by simp only[List.map_cons,List.all_cons,Bool.and_eq_true,Bool.not_eq_true']at h;rw[List.lookup_cons,h.1];exact z_ (by simpa using h.2)
structure qh(K:PySem.W.Frag)(c:Str)(aP:List Str):Prop where
 ex:∃C,eG K c C∧iT K C∧∀f∈aP,oO K C f
noncomputable def d_(c f:Str):D→R D
 |.ins d8 ns ds=>if d8=c then match(ns.zip ds).lookup f with
  |some d=>.ok d
  |none=>.bad
  else .bad
 |_=>.bad
section
variable{X:aC}{F:a4}{e a b c o:Expr}{es:List Expr}{pos p:Pos}{m n:az}{ma:aO}
theorem M3{aU f:Str}{aP:List Str}(k:qh X.K aU aP)(he:a6 X F o m)(hf:f∈aP:=by decide+kernel)(hK:F.K=X.K:=by rfl)(hb:attributeBase o f X.env (eval o X.env)=eval o X.env:=by rfl):a6 X F (.Attribute o f pos) (cq (d_ aU f) m):=by
 refine aT.imp (Uc he hb) ?_;rintro σ H Q ⟨G,ρ,r,h⟩;unfold cq at h;refine⟨G,ρ,r,?_⟩;cases aq:m ρ with
 |bad=>rw[aq]at h;exact h.elim
 |exc c=>rw[aq]at h;exact h
 |ok d=>
  rw[aq,R.bt]at h;intro x H1 aJ ar s1 bL;cases d with
  |ins d8 ns ds=>
   simp only[d_]at h
   split at h
   ·rename_i hc;subst hc
    split at h
    ·rename_i d' hl;simp only[At]at bL;obtain⟨q,aN,xs,rfl,⟨C,bu,g1⟩,rfl,al⟩:=bL;obtain⟨v,hv,bb⟩:=G9 al hl;obtain⟨iy,k1,k2,k3⟩:=k.ex;rw[hK]at bu;have:=bu.inj k1;subst this;exact⟨q,C,aN,xs,v,rfl,ar.aH.sub _ _ g1,k2,k3 f hf,hv,h v H1 aJ ar s1 bb⟩
    ·exact h.elim
   ·exact h.elim
  |_=>exact h.elim
structure l8(P:Program)(w:World)(K:PySem.W.Frag)(mg:Str→Option Value)(base:Heap)(aU mt:Str)(n k:Nat)(mf:List D→R bZ):Prop where
 ex:∃(C f:Addr)(fd:FuncData)(ps:List Str),eG K aU C∧iT K C∧Meth K C mt f∧f7 P w K mg base gK k f fd ps (kS K (n+1) mf)∧Binds K fd ps []
noncomputable def og(aU mt:Str):D→R D
 |.ins d8 ns ds=>if d8=aU∧ns.all (fun k=>!(mt==k))=true then .ok (.ins d8 ns ds)else .bad
 |_=>.bad
noncomputable def jE(aU mt:Str)(n:Nat)(mf:List D→R bZ)(o:az)(ma:aO):az:=fun ρ=>(o ρ).bind fun d=>(og aU mt d).bind fun d=>(ma ρ).bind fun ds=>if ds.length=n then(mf (d::ds)).bind ji else .bad
theorem P8{aU mt:Str}{n:Nat}{mf:List D→R bZ}{C:Addr}{E:cO}(hx:F.gM=fun _ _=>False)(fU:eG F.K aU C):en (cC F (jE aU mt n mf m ma)) (xg C mt (kS F.K (n+1) mf) [] E (cC F m) (ee F ma)):=by
 rintro σ H Q ⟨G,ρ,r,h⟩;unfold jE at h;refine⟨G,ρ,r,?_⟩;cases aq:m ρ with
 |bad=>rw[aq]at h;exact h.elim
 |exc c=>rw[aq]at h;exact h
 |ok d=>
  rw[aq,R.bt]at h;intro x H1 aJ ar s1 bL;cases d with
  |ins d8 ns ds=>
   simp only[og]at h
   split at h
   ·rename_i hc;obtain⟨sE,nD⟩:=hc;subst sE;have yl:=bL;simp only[At]at bL;obtain⟨q,aN,xs,rfl,⟨iy,bu,g1⟩,rfl,al⟩:=bL;have:=bu.inj fU;subst this;refine⟨q,aN,xs,rfl,ar.aH.sub _ _ g1,z_ nD,aJ,ρ,ar,?_⟩;rw[R.bt]at h;cases a7:ma ρ with
    |bad=>rw[a7]at h;exact h.elim
    |exc c=>rw[a7]at h;exact h
    |ok es=>
     rw[a7,R.bt]at h;intro vs aS cI a5 s2 bb;by_cases aE:es.length=n
     ·rw[if_pos aE]at h;rw[List.append_nil];exact Jb (xe:=fun _ _ _=>False) hx a5 (.cons (yl.mono s2.g) bb) (by simp[aE]) (h.mono (s1.trans s2))
     ·rw[if_neg aE]at h;exact h.elim
   ·exact h.elim
  |_=>exact h.elim
theorem Nd {aU mt:Str} {n k:Nat} {mf:List D→R bZ} {pl:Sem Bool} {apos:Pos} (c:l8 X.prog X.w X.K X.mg X.base aU mt n k mf) (hr:c4 k X.A) (he:a6 X F o m) (ha:gy X F (e::es) ma) (hE:F.gM=fun _ _=>False:=by rfl) (hK:F.K=X.K:=by rfl)(hst:starEach (e::es) X.env=(false,eval e X.env)::starEach es X.env:=by rfl) (hpl:(backTo pos (starEach es X.env)).any (·.1)=false:=by rfl)(ht:eval (.Call (.Attribute o mt apos) (e::es) [] pos) X.env=(do
    let dF ←eval o X.env
    standAt apos.atName
    let(f,first) ←holding [dF] (getMethod dF mt pl)
    callWith pos f first (backTo pos (starEach (e::es) X.env)) (backToKw pos (keywordEach [] X.env))):=by rfl) :
  a6 X F (.Call (.Attribute o mt apos) (e::es) [] pos) (jE aU mt n mf m ma):=by
 obtain⟨C,f,fd,ps,bu,c5,eM,hA,hb⟩:=c.ex;refine aT.imp (Uj (pl:=pl) he c5 eM hA hr hb .nil tE ha hst hpl ht) ?_;rw[←hK];exact P8 hE (by rw[hK];exact bu)
def kL:D→Option Key
 |.int i=>some (.inl i)
 |.str x=>some (.inr x)
 |_=>none
noncomputable def v5:List D→Option (List Key)
 |[]=>some []
 |d::ds=>match kL d,v5 ds with
  |some k,some aD=>some (k::aD)
  |_,_=>none
def nQ:D→Option (List Key)
 |.tup ds=>v5 ds
 |_=>none
theorem Rc{K:PySem.W.Frag}{G:ag}{d:D}{v:V}{k:Key}(e:kL d=some k)(a:At K G d v):v=cD k:=by
 cases d<;>first
  |(cases e;done)
  |(cases e;simp only[At]at a;exact a)
theorem GK{K:PySem.W.Frag}{G:ag}:∀{ds:List D}{vs:List V}{aD:List Key},v5 ds=some aD→aI K G ds vs→vs=aD.map cD
 |[],_,_,e,a=>by simp only[aI]at a;subst a;cases e;rfl
 |d::ds,_,_,e,a=>by
  simp only[aI]at a;obtain⟨v,r,rfl,bb,ml⟩:=a;unfold v5 at e
  split at e
  ·rename_i k aD ak ay;cases e;rw[Rc ak bb,GK ay ml];rfl
  ·cases e
theorem z3{K:PySem.W.Frag}{G:ag}{d:D}{v:V}{aD:List Key}(e:nQ d=some aD)(a:At K G d v):∃b,v=.ref b∧G b=some (.tup (aD.map cD)):=by
 cases d with
 |tup ds=>simp only[At]at a;obtain⟨b,xs,rfl,hb,al⟩:=a;exact⟨b,rfl,by rw[hb,GK e al]⟩
 |_=>cases e
theorem Ci{κ:Type}[DecidableEq κ](k:κ):∀aR:List (κ×V),(f3 aR k).isSome=(aR.map (·.1)).any (fun x=>decide (x=k))
 |[]=>rfl
 |(x,v)::aR=>by
  have bW:=Ci k aR;unfold f3 at bW ⊢;rw[List.find?_cons,List.map_cons,List.any_cons];by_cases h:x=k
  ·simp[h]
  ·simp only[h,decide_false,Bool.false_or];exact bW
noncomputable def e9(b:Bool)(k d:D):R D:=match d with
 |.bI aD _=>match nQ k with
  |some cb=>.ok (.au (if b then aD.any (fun x=>decide (x=cb))else !aD.any (fun x=>decide (x=cb))))
  |none=>.bad
 |_=>.bad
theorem Eb{b:Bool}{σ :St}{ρ:aj}{G H:ag}{y x:V}{o8 dd:D}{Q:cj}(r:Rel F G H σ ρ)(cJ:At F.K G o8 y)(bL:At F.K G dd x)(h:ie F G H σ ρ Q (e9 b o8 dd)) :
  ∃a o,x=.ref a∧jn H a y o∧Q (.au (if b then o.isSome else !o.isSome)) H:=by
 unfold e9 at h
 split at h
 ·rename_i aD ds
  split at h
  ·rename_i cb er;simp only[At]at bL;obtain⟨a,xs,rfl,hg,rfl,al⟩:=bL;obtain⟨q,rfl,aK⟩:=z3 er cJ;refine⟨a,f3 xs cb,rfl,jn.t (r.aH.sub _ _ hg) (r.aH.sub _ _ aK),?_⟩;rw[Ci];exact h _ H G r (cc.refl _ _) (by simp only[At])
  ·exact h.elim
 ·exact h.elim
theorem Gp:en (cC F (ao (e9 true) m n)) (Jw (cC F m) (cC F n)):=by
 rintro σ H Q ⟨G,ρ,r,h⟩;unfold ao at h;refine⟨G,ρ,r,?_⟩;cases aq:m ρ with
 |bad=>rw[aq]at h;exact h.elim
 |exc c=>rw[aq]at h;exact h
 |ok o8=>
  rw[aq,R.bt]at h;intro y H1 aJ ar s1 cJ;refine⟨aJ,ρ,ar,?_⟩;cases a7:n ρ with
  |bad=>rw[a7]at h;exact h.elim
  |exc c=>rw[a7]at h;exact h
  |ok dd=>rw[a7,R.bt]at h;intro x aS cI a5 s2 bL;exact Eb (b:=true) a5 (cJ.mono s2.g) bL (h.mono (s1.trans s2))
theorem PS:en (cC F (ao (e9 false) m n)) (Jx (cC F m) (cC F n)):=by
 rintro σ H Q ⟨G,ρ,r,h⟩;unfold ao at h;refine⟨G,ρ,r,?_⟩;cases aq:m ρ with
 |bad=>rw[aq]at h;exact h.elim
 |exc c=>rw[aq]at h;exact h
 |ok o8=>
  rw[aq,R.bt]at h;intro y H1 aJ ar s1 cJ;refine⟨aJ,ρ,ar,?_⟩;cases a7:n ρ with
  |bad=>rw[a7]at h;exact h.elim
  |exc c=>rw[a7]at h;exact h
  |ok dd=>rw[a7,R.bt]at h;intro x aS cI a5 s2 bL;exact Eb (b:=false) a5 (cJ.mono s2.g) bL (h.mono (s1.trans s2))
theorem ZN(hu:X.A.units+64<cLine)(ha:a6 X F a m)(hb:a6 X F b n)(h1:behindInMarks .In b=false:=by with_unfolding_all rfl):a6 X F (.Compare a [.In] [b] pos) (ao (e9 true) m n):=aT.imp (T7 (HT (by omega) ha hb) h1) Gp
theorem XA(hu:X.A.units+64<cLine)(ha:a6 X F a m)(hb:a6 X F b n)(h1:behindInMarks .In b=false:=by with_unfolding_all rfl):ff X F (.Compare a [.In] [b] pos) (bc (ao (e9 true) m n)):=by refine eR.imp (Ik (HT (by omega) ha hb) h1) fun σ H Q h=>?_;obtain⟨G,ρ,r,k⟩:=vP σ H Q h;exact Gp σ H _ ⟨G,ρ,r,k⟩
theorem XB(hu:X.A.units+64<cLine)(ha:a6 X F a m)(hb:a6 X F b n)(h1:behindInMarks .NotIn b=false:=by with_unfolding_all rfl):ff X F (.Compare a [.NotIn] [b] pos) (bc (ao (e9 false) m n)):=by refine eR.imp (Ik (T3 (by omega) ha hb) h1) fun σ H Q h=>?_;obtain⟨G,ρ,r,k⟩:=vP σ H Q h;exact PS σ H _ ⟨G,ρ,r,k⟩
def s9(i:Nat):a0:=fun ρ=>if i<ρ.length then .ok (.bk (ρ.set i (.aV (.bI [] []))))else .bad
theorem V4(i:Nat){x:Str}{p q:Pos}(hN:X.N.Nodup)(hi:X.N[i]?=some x:=by rfl)(hx:Loc X.env.scope x:=by first|exact Or.inl rfl|exact Or.inr rfl)(hf:X.fn x=true∨X.env.scope.names.lookup x=some .local:=by first|exact .inl rfl|exact .inr rfl):fH X F (.Assign [.Name x p] (.Dict [] [] q) pos) (s9 i):=by
 refine c7.imp (wO hN hi hx Ub (kV _ _ _ _ rfl) hf) ?_;rintro cu σ H ⟨G,ρ,r,h⟩;unfold s9 at h;intro a ha
 split at h
 ·rename_i hl;refine h _ G _ ((r.lay0 ha).setB hl d0 (r.aH.sub.gone ha) (r.aH.hh.gone ha) ⟨[],rfl,rfl,.nil⟩ fun j es o _ ak ay f=>dR.fresh r (Sub.upd ha) ha ⟨j,es,o,ak,ay,f⟩) (Sub.refl _)
 ·exact h.elim
noncomputable def putD(aD:List (List Key))(ds:List D)(cb:List Key)(d:D):R kA:=if aD.any (fun x=>decide (x=cb))=false∧aD.length<1000000 then .ok (.bI (aD++[cb]) (ds++[d]))else .bad
noncomputable def mF(i:Nat)(mk mv:az):a0:=fun ρ=>(mv ρ).bind fun v=>match ρ[i]? with
 |some (.aV (.bI aD ds))=>(mk ρ).bind fun k=>match nQ k with
  |some cb=>(putD aD ds cb v).bind fun o=>.ok (.bk (ρ.set i (.aV o)))
  |none=>.bad
 |_=>.bad
theorem VQ(i:Nat){x:Str}{a3 pos':Pos}{k v:Expr}{mk mv:az}(hu:X.A.units+64<cLine)(hk:a6 X F k mk)(hv:a6 X F v mv)(hN:X.N[i]?=some x:=by rfl)(hvs:gd X.env.scope x:=by first|exact Or.inl rfl|exact Or.inr (Or.inl rfl)|exact Or.inr (Or.inr rfl))(hd:(x==("__debug__" :Str))=false:=by decide)(hcd:(x==("__classdict__" :Str))=false:=by decide)(hs:ik v=true:=by rfl) :
  fH X F (.Assign [.Subscript (.Name x a3) k pos'] v pos) (mF i mk mv):=by
 refine c7.imp (UO (by omega) (lP hN hvs hd hcd) hk hv (kV _ _ _ _ hs)) ?_;rintro cu σ H ⟨G,ρ,r,h⟩;unfold mF at h;refine⟨G,ρ,r,?_⟩;cases aq:mv ρ with
 |bad=>rw[aq]at h;exact h.elim
 |exc c=>rw[aq]at h;exact h
 |ok ZM=>
  rw[aq,R.bt]at h;intro v H1 aJ ar s1 bb
  split at h
  ·rename_i aD ds cZ;obtain⟨q,ho,ak,_⟩:=ar.obj cZ;refine⟨.ref q,ak,aJ,ρ,ar,?_⟩;cases a7:mk ρ with
   |bad=>rw[a7]at h;exact h.elim
   |exc c=>rw[a7]at h;exact h
   |ok o8=>
    rw[a7,R.bt]at h;intro y aS cI a5 s2 cJ;obtain⟨cV,ho',gE,h1,h2,h3,xs,rfl,rfl,al⟩:=a5.obj cZ;rw[ak]at gE;cases gE
    split at h
    ·rename_i cb er;unfold putD at h
     split at h
     ·rename_i hc;obtain⟨sE,nD⟩:=hc;obtain⟨r_,rfl,zB⟩:=z3 er cJ;have aE:f3 xs cb=none:=by
       have:=Ci cb xs;rw[sE]at this;exact Option.not_isSome_iff_eq_none.mp (by rw[this];exact Bool.false_ne_true)
      refine⟨q,_,rfl,oF.t h1 (a5.aH.sub _ _ zB) (Nat.lt_trans (by simpa using nD) (by decide)),?_⟩;rw[U1 _ aE];refine h σ cI _ (a5.Al cZ ak ⟨xs++[(cb,v)],rfl,by simp,?_⟩) (s1.g.trans s2.g);rw[List.map_append];exact al.snoc (bb.mono s2.g)
     ·exact h.elim
    ·exact h.elim
  ·exact h.elim
def j9(m:az):a0:=fun ρ=>(m (ea ρ)).bind fun d=>.ok (.dG d)
theorem V2(h:a6 X F e m):fH X F (.Return (some e) pos) (j9 m):=by
 refine c7.imp (wN h) ?_;rintro cu σ H ⟨G,ρ,r,h⟩;unfold j9 at h;refine⟨_,_,r.plus,?_⟩;cases aq:m (ea ρ)with
 |bad=>rw[aq]at h;exact h.elim
 |exc c=>rw[aq]at h;exact h
 |ok d=>rw[aq,R.bt]at h;exact fun v H' G' a8 s' a=>h v G' H' a8.aH a
def nU:a0:=fun _=>.bad
theorem VM{st:Stmt}:fH X F st nU:=c7.imp Ig fun cu σ H⟨G,ρ,r,h⟩=>h.elim
end
mutual
noncomputable def jG:D→Bool
 |.ins _ _ _=>false
 |.tup ds=>kc ds
 |.lst ds=>kc ds
 |.cx ds=>kc ds
 |.cY _ ds=>kc ds
 |.bI _ ds=>kc ds
 |.dk ds=>kc ds
 |_=>true
noncomputable def kc:List D→Bool
 |[]=>true
 |d::ds=>jG d&&kc ds
end
def sQ:du→Bool
 |.ins _ _ _=>true
 |_=>false
section
variable{K:PySem.W.Frag}{G G':ag}
theorem gb.off(h:∀b o,G b=some o→sQ o=false→G' b=some o){a:Addr}{u:du}(hu:sQ u=false)(r:gb G a u):gb G' a u:=by
 rcases r with r|⟨o,r⟩
 ·exact .inl (h _ _ r hu)
 ·exact .inr ⟨o,h _ _ r rfl⟩
mutual
theorem At.off(h:∀b o,G b=some o→sQ o=false→G' b=some o):∀{d:D}{v:V},jG d=true→At K G d v→At K G' d v
 |.non,_,_,q=>by simpa only[At]using q
 |.au _,_,_,q=>by simpa only[At]using q
 |.int _,_,_,q=>by simpa only[At]using q
 |.str _,_,_,q=>by simpa only[At]using q
 |.tup _,_,n,q=>by simp only[At,jG]at q n ⊢;obtain⟨a,xs,e,g,r⟩:=q;exact⟨a,xs,e,h _ _ g rfl,aI.off h n r⟩
 |.lst _,_,n,q=>by simp only[At,jG]at q n ⊢;obtain⟨a,xs,e,g,r⟩:=q;exact⟨a,xs,e,h _ _ g rfl,aI.off h n r⟩
 |.cx _,_,n,q=>by
  simp only[At,jG]at q n ⊢;obtain⟨a,xs,e,g,r⟩:=q;refine⟨a,xs,e,?_,aI.off h n r⟩;rcases g with g|g
  ·exact .inl (gb.off h rfl g)
  ·exact .inr g
 |.dk _,_,n,q=>by
  simp only[At,jG]at q n ⊢;obtain⟨a,xs,e,g,r⟩:=q;refine⟨a,xs,e,?_,aI.off h n r⟩;rcases g with g|g
  ·exact .inl (gb.off h rfl g)
  ·exact .inr g
 |.cY _ _,_,n,q=>by simp only[At,jG]at q n ⊢;obtain⟨a,xs,e,g,k,r⟩:=q;exact⟨a,xs,e,h _ _ g rfl,k,aI.off h n r⟩
 |.bI _ _,_,n,q=>by simp only[At,jG]at q n ⊢;obtain⟨a,xs,e,g,k,r⟩:=q;exact⟨a,xs,e,h _ _ g rfl,k,aI.off h n r⟩
 |.ins _ _ _,_,n,_=>by simp only[jG]at n;cases n
 |.i8 _,_,n,q=>by simp only[At]at q ⊢;obtain⟨a,xs,e,⟨C,bu,g⟩,r⟩:=q;exact⟨a,xs,e,⟨C,bu,h _ _ g rfl⟩,r⟩
theorem aI.off(h:∀b o,G b=some o→sQ o=false→G' b=some o):∀{ds:List D}{vs:List V},kc ds=true→aI K G ds vs→aI K G' ds vs
 |[],_,_,q=>by simpa only[aI]using q
 |_::_,_,n,q=>by simp only[aI,kc,Bool.and_eq_true]at q n ⊢;obtain⟨v,r,e,a,t⟩:=q;exact⟨v,r,e,At.off h n.1 a,aI.off h n.2 t⟩
end
end
def WQ:dc→Bool
 |.aV (.ins _ _ _)=>true
 |.aV _=>false
 |.eu _=>false
 |_=>true
def Ar(ρ:aj):Bool:=ρ.all WQ
def nW(m:az):az:=fun ρ=>(m (ea ρ)).bind fun d=>if jG d=true∧Ar ρ=true then .ok d else .bad
section
variable{F:a4}
open Classical in
noncomputable def qM(H:ag)(σ :St)(ρ:aj)(G:ag):ag:=fun b=>if dR H σ ρ b then none else G b
theorem PK{m:az}:en (cC F (nW m)) (cC F m):=by
 rintro σ H Q ⟨G,ρ,r,h⟩;refine⟨j2 σ ρ G H,ea ρ,r.plus,?_⟩;unfold nW at h;cases aq:m (ea ρ)with
 |bad=>rw[aq]at h;exact h.elim
 |exc c=>rw[aq]at h;exact h
 |ok d=>
  rw[aq,R.bt]at h;intro v H' G' a8 s' a;by_cases hd:jG d=true∧Ar ρ=true
  ·rw[if_pos hd]at h;have HQ:∀b,dR H σ ρ b→G b=none:=fun b z=>(r.foot z).2.1;have HN:∀b,dR H σ ρ b→F.bg b=none:=fun b z=>(r.foot z).2.2;have TX:∀b,dR H σ ρ b→∃ho,H b=some ho∧sQ ho=true:=fun b⟨i,s,o,ak,ay,f⟩=>by
    have hi:=List.all_eq_true.mp hd.2 _ (List.mem_of_getElem? ak);cases s with
    |un=>exact f.elim
    |aw _=>exact f.elim
    |eu _=>cases hi
    |aV aV=>
     have f:o=some (.ref b):=f;obtain⟨c,ho,b4,h1,_,_,h4⟩:=r.obj ak;rw[ay,f]at b4;cases b4;cases aV with
     |lst _=>cases hi
     |bI _ _=>cases hi
     |ins _ _ _=>obtain⟨C,aN,xs,_,rfl,_⟩:=h4;exact⟨_,h1,rfl⟩
   have off:∀b,¬dR H σ ρ b→qM H σ ρ G' b=G' b:=fun b n=>by unfold qM;rw[if_neg n]
   have on:∀b,dR H σ ρ b→qM H σ ρ G' b=none:=fun b n=>by unfold qM;rw[if_pos n]
   have aX:Sub G (qM H σ ρ G'):=fun b o e=>by
    have n:¬dR H σ ρ b:=fun z=>by rw[HQ b z]at e;cases e
    rw[off b n];exact s'.g b o (zq r b o e)
   have Q9:∀b,dR H σ ρ b→∀o,H b=some o→H' b=some o:=fun b z o e=>a8.aH.sub _ _ (s'.g _ _ (by rw[sy z];exact e));have rel:Rel F (qM H σ ρ G') H' σ ρ:=by
    refine r.over rfl ⟨fun b o e=>?_,r.aH.e1.trans aX,a8.aH.hh,fun b hb=>?_⟩ aX fun b c6=>?_
    ·by_cases n:dR H σ ρ b
     ·rw[on b n]at e;cases e
     ·rw[off b n]at e;exact a8.aH.sub b o e
    ·have n:¬dR H σ ρ b:=fun z=>hb (HN b z);rw[off b n];exact a8.aH.new b hb
    ·refine⟨?_,on b c6,HN b c6⟩;cases a7:H b with
     |none=>exact absurd a7 (r.foot c6).1
     |some o=>exact Q9 b c6 o a7
   refine h v H' _ rel ⟨aX,s'.h,fun b hb=>?_⟩ (At.off (fun b o e hi=>?_) hd.1 a)
   ·by_cases n:dR H σ ρ b
    ·rw[on b n,HQ b n]
    ·rw[off b n,s'.n b hb];unfold j2;rw[if_neg n]
   ·have n:¬dR H σ ρ b:=fun z=>by
      obtain⟨ho,ak,ay⟩:=TX b z;have:=s'.g b ho (by rw[sy z];exact ak);rw[e]at this;cases this;rw[hi]at ay;cases ay
    rw[off b n];exact e
  ·rw[if_neg hd]at h;exact h.elim
abbrev gO:=aj→R aj
noncomputable def Q5(F:a4)(σ :St)(cu:Ends):R aj→Prop
 |.ok bh=>∀G' H',Rel F G' H' σ bh→cu.bk σ H'
 |.exc c=>jA F c
 |.bad=>False
def lV(F:a4)(m:gO):eL:=fun cu σ H=>∃G ρ,Rel F G H σ ρ∧Q5 F σ cu (m ρ)
def g7(a b:gO):gO:=fun ρ=>(a ρ).bind b
theorem Qo{a b:gO}:g0 (lV F (g7 a b)) (BZ (lV F a) (lV F b)):=by
 rintro cu σ H ⟨G,ρ,r,h⟩;unfold g7 at h;refine⟨G,ρ,r,?_⟩;cases aq:a ρ with
 |bad=>rw[aq]at h;exact h.elim
 |exc c=>rw[aq]at h;exact h
 |ok dQ=>rw[aq,R.bt]at h;exact fun G' H' a8=>⟨G',dQ,a8,h⟩
def nX(c:bY):gO:=fun ρ=>(c ρ).bind fun k=>if k=true then .bad else .ok ρ
theorem PY{c:bY}:g0 (lV F (nX c)) (BX (fA F c) JB BY):=by
 rintro cu σ H ⟨G,ρ,r,h⟩;unfold nX at h;refine⟨G,ρ,r,?_⟩;cases aq:c ρ with
 |bad=>rw[aq]at h;exact h.elim
 |exc c=>rw[aq]at h;exact h
 |ok k=>
  rw[aq,R.bt]at h;intro H1 aJ ar s1;cases k with
  |true=>exact h.elim
  |false=>exact h aJ H1 ar
theorem AD{f:Str}{v:V}:∀{aP:List (Str×V)},(aP.map (·.1)).all (fun k=>!(f==k))=true→gW f v aP=aP++[(f,v)]
 |[],_=>rfl
 |(g,x)::aP,h=>by
  simp only[List.map_cons,List.all_cons,Bool.and_eq_true,Bool.not_eq_true']at h;have ne:g≠f:=fun z=>by subst z;simp at h
  rw[gW,if_neg ne,AD (by simpa using h.2)];rfl
noncomputable def fW(aU f:Str)(m:az):gO:=fun ρ=>(m ρ).bind fun d=>match(ρ[0]? :Option dc)with
 |some (.aV (.ins d8 ns ds))=>if d8=aU∧ns.all (fun k=>!(f==k))=true∧ns.length<1000 then .ok (ρ.set 0 (.aV (.ins aU (ns++[f]) (ds++[d]))))else .bad
 |_=>.bad
end
section
variable{X:aC}{F:a4}{e o:Expr}{pos:Pos}{m:az}
theorem MW(h:a6 X F e m):a6 X F e (nW m):=aT.imp h PK
theorem VU{aU f x:Str}{aP:List Str}{a3 pos':Pos}(k:qh X.K aU aP)(he:a6 X F e m)(hf:f∈aP:=by decide+kernel)(hN:X.N[0]?=some x:=by rfl)(hv:gd X.env.scope x:=by first|exact Or.inl rfl|exact Or.inr (Or.inl rfl)|exact Or.inr (Or.inr rfl))(hd:(x==("__debug__" :Str))=false:=by decide)(hcd:(x==("__classdict__" :Str))=false:=by decide)(hs:ik e=true:=by rfl)(hK:F.K=X.K:=by rfl) :
  c7 X (.Assign [.Attribute (.Name x a3) f pos'] e pos) (lV F (fW aU f m)):=by
 refine c7.imp (UP (lP hN hv hd hcd) he (kV _ _ _ _ hs)) ?_;rintro cu σ H ⟨G,ρ,r,h⟩;unfold fW at h;refine⟨G,ρ,r,?_⟩;cases aq:m ρ with
 |bad=>rw[aq]at h;exact h.elim
 |exc c=>rw[aq]at h;exact h
 |ok d=>
  rw[aq,R.bt]at h;intro v H1 aJ ar s1 bb
  split at h
  ·rename_i d8 ns ds cZ
   split at h
   ·rename_i hc;obtain⟨rfl,nD,OD⟩:=hc;obtain⟨q,ho,ak,h1,h2,h3,C,aN,xs,bu,rfl,rfl,al⟩:=ar.obj cZ;obtain⟨iy,k1,k2,k3⟩:=k.ex;rw[hK]at bu;have:=bu.inj k1;subst this;refine⟨.ref q,ak,q,C,aN,xs,rfl,h1,k2,k3 f hf,by simpa using OD,?_⟩;refine h aJ _ (ar.Al cZ ak ⟨C,aN,gW f v xs,by rw[hK];exact bu,rfl,?_,?_⟩)
    ·rw[AD nD];simp
    ·rw[AD nD,List.map_append];exact al.snoc bb
   ·exact h.elim
  ·exact h.elim
end
noncomputable def GG(F:a4)(x C:Addr)(Q:cj):R (List Str×List D)→Prop
 |.ok (ns,ds)=>∀aN xs G' H',ef F G' H'→G' x=none→H' x=some (.ins C aN xs)→xs.map (·.1)=ns→aI F.K G' ds (xs.map (·.2))→Q .non H'
 |.exc _=>False
 |.bad=>False
noncomputable def tN(K:PySem.W.Frag)(aU:Str)(n:Nat)(mf:List D→R (List Str×List D)):iE:=fun vs H Q E=>∃G x C aN es ws,vs=.ref x::ws∧eG K aU C∧H x=some (.ins C aN [])∧G x=none∧Sub G H∧aI K G es ws∧es.length=n∧GG ⟨K,G,del H x,fun _ _=>False⟩ x C Q (mf es)
noncomputable def pG(aU:Str)(n:Nat)(mf:List D→R (List Str×List D))(ma:aO):az:=fun ρ=>(ma ρ).bind fun ds=>if ds.length=n then(eU (mf ds)).bind fun x=>.ok (.ins aU x.1 x.2)else .bad
section
variable{X:aC}{F:a4}{e:Expr}{es:List Expr}{pos p:Pos}{ma:aO}
theorem P7{aU:Str}{n:Nat}{mf:List D→R (List Str×List D)}{C:Addr}{E:cO}(fU:eG F.K aU C):en (cC F (pG aU n mf ma)) (xf C (tN F.K aU n mf) [] E (ee F ma)):=by
 rintro σ H Q ⟨G,ρ,r,h⟩;unfold pG at h;refine⟨G,ρ,r,?_⟩;cases aq:ma ρ with
 |bad=>rw[aq]at h;exact h.elim
 |exc c=>rw[aq]at h;exact h
 |ok ds=>
  rw[aq,R.bt]at h;intro vs H1 aJ ar s1 bb x aN hx mx ne;by_cases aE:ds.length=n
  ·rw[if_pos aE]at h;rw[List.append_nil];have pW:Sub H1 (del (upd (upd H1 aN (.own x)) x (.ins C aN [])) x):=fun b o e=>by
    have c8:b≠x:=fun z=>by rw[z,hx]at e;cases e
    have c0:b≠aN:=fun z=>by rw[z,mx]at e;cases e
    rw[Ea c8,c2 c8,c2 c0];exact e
   have AQ:Sub aJ (upd (upd H1 aN (.own x)) x (.ins C aN [])):=ar.aH.sub.trans (pW.trans (yX _ _));refine⟨aJ,x,C,aN,ds,vs,rfl,fU,d0,ar.aH.sub.gone hx,AQ,bb,aE,?_⟩;cases em:mf ds with
   |bad=>rw[em]at h;exact h.elim
   |exc c=>rw[em]at h;exact h.elim
   |ok y=>obtain⟨ns,es'⟩:=y;rw[em]at h;intro qH xs G' H' k g1 g2 g3 kG;refine⟨rfl,?_⟩;have hh:Sub H1 H':=pW.trans k.hh;have nw:∀b,H1 b≠none→G' b=aJ b:=fun b hb=>k.new b (pW.some hb);have a5:Rel F G' H' σ ρ:=ar.grow k.e1 k.sub hh nw;have no:¬dR H' σ ρ x:=dR.fresh ar hh hx;refine h (.ref x) H' _ (a5.take g2 g1 (ar.aH.hh.gone hx) no) ((s1.trans ⟨k.e1,hh,nw⟩).put (s1.h.gone hx) g1) ?_;simp only[At];exact⟨x,qH,xs,rfl,⟨C,fU,d0⟩,g3,kG.mono (Sub.upd g1)⟩
  ·rw[if_neg aE]at h;exact h.elim
structure uz(P:Program)(w:World)(K:PySem.W.Frag)(mg:Str→Option Value)(base:Heap)(aU:Str)(n k:Nat)(mf:List D→R (List Str×List D)):Prop where
 ex:∃(C f:Addr)(fd:FuncData)(ps:List Str),eG K aU C∧qm K C f∧f7 P w K mg base gK k f fd ps (tN K aU n mf)∧mg aU=some (.ref C)∧Binds K fd ps []
theorem Nc{aU:Str}{n k:Nat}{mf:List D→R (List Str×List D)}(c:uz X.prog X.w X.K X.mg X.base aU n k mf)(hr:c4 (k+1) X.A)(ha:gy X F (e::es) ma)(hK:F.K=X.K:=by rfl)(hg:cy X aU:=by rfl)(hdb:(aU==("__debug__" :Str))=false:=by decide)(he:starEach (e::es) X.env=(false,eval e X.env)::starEach es X.env:=by rfl)(hpl:(backTo pos (starEach es X.env)).any (·.1)=false:=by rfl):a6 X F (.Call (.Name aU p) (e::es) [] pos) (pG aU n mf ma):=by obtain⟨C,f,fd,ps,bu,c5,hA,hm,hb⟩:=c.ex;refine aT.imp (Ui c5 hA hr hg hm hb .nil tE ha hdb he hpl) ?_;rw[←hK];exact P7 (by rw[hK];exact bu)
end
def gm(aU:Str)(es:List D):aj:=.aV (.ins aU [] [])::es.map .aw
noncomputable def outI(aU:Str):R aj→R (List Str×List D)
 |.ok (.aV (.ins c ns ds)::_)=>if c=aU then .ok (ns,ds)else .bad
 |_=>.bad
theorem IE{K:PySem.W.Frag}{G H:ag}{gM:Str→ag→Prop}{aU:Str}{C aN x:Addr}{es:List D}{ws:List V}(fU:eG K aU C)(h1:H x=some (.ins C aN []))(h2:G x=none)(s:Sub G H)(bb:aI K G es ws) :
  Rel ⟨K,G,del H x,gM⟩ G H (some (.ref x)::ws.map some) (gm aU es):=by
 refine⟨⟨s,Sub.refl _,yX H x,fun _ _=>rfl⟩,by simp[gm,bb.length],fun i t e=>?_,fun i j b aP FD o bz a9 aZ _ _ f Ez=>?_⟩
 ·cases i with
  |zero=>simp[gm]at e;subst e;exact⟨some (.ref x),by simp,x,_,rfl,h1,h2,Mx,C,aN,[],fU,rfl,rfl,.nil⟩
  |succ i=>
   simp only[gm,List.getElem?_cons_succ]at e ⊢;rw[List.getElem?_map]at e;cases dy:es[i]? with
   |none=>rw[dy]at e;cases e
   |some d=>rw[dy]at e;cases e;obtain⟨v,ak,a⟩:=bb.get dy;exact⟨some v,by rw[List.getElem?_map,ak];rfl,v,rfl,a⟩
 ·have one:∀{i:Nat}{aP:dc}{o:Option V},(gm aU es)[i]?=some aP→fQ H aP o b→i=0:=fun{i aP o} e f=>by
    cases i with
    |zero=>rfl
    |succ i=>
     simp only[gm,List.getElem?_cons_succ,List.getElem?_map]at e;cases dy:es[i]? with
     |none=>rw[dy]at e;cases e
     |some d=>rw[dy]at e;cases e;exact f.elim
  rw[one a9 f,one aZ Ez]
theorem QE{K:PySem.W.Frag}{aU:Str}{n:Nat}{m:gO}{vs:List V}{H:ag}{Q:cj}{E:cO}(h:tN K aU n (fun es=>outI aU (m (gm aU es))) vs H Q E) :
  ∃G bg,lV (eB K G bg) m { bk:=fun _ H'=>Q .non H',dG:=Q } (vs.map some) H:=by
 obtain⟨G,x,C,aN,es,ws,rfl,fU,h1,h2,s,bb,l,k⟩:=h;refine⟨G,del H x,G,gm aU es,IE fU h1 h2 s bb,?_⟩;replace k:GG ⟨K,G,del H x,fun _ _=>False⟩ x C Q (outI aU (m (gm aU es))):=k;cases em:m (gm aU es)with
 |bad=>rw[em]at k;exact k.elim
 |exc c=>rw[em]at k;exact k.elim
 |ok bh=>
  rw[em]at k;intro G' H' r;unfold outI at k
  split at k
  ·rename_i Mb ns ds tl heq;cases heq;obtain⟨a,ho,ak,g1,g2,g3,iy,qH,xs,bu,rfl,ay,al⟩:=r.obj (i:=0) rfl;have ak:some (some (V.ref x))=some (some (V.ref a)):=ak;cases ak
   split at k
   ·rename_i hc;subst hc;have:=bu.inj fU;subst this;exact k qH xs G' H' r.aH g2 g1 ay al
   ·exact k.elim
  ·exact k.elim
end ax
namespace ax
open PySem PySem.Spec aQ PyProof.Rows
theorem Ja{K:PySem.W.Frag}{aU:Str}{n:Nat}{mf:List D→R (List Str×List D)}:∀vs H Q E,tN K aU n mf vs H Q E→vs.length=n+1:=fun vs H Q E h=>by obtain⟨G,x,C,aN,es,ws,rfl,_,_,_,_,q,l,_⟩:=h;rw[List.length_cons,←q.length,l]
theorem Jk{N:List Str}{vs:List V}(h:vs.length=N.length):aQ.start N vs=vs.map some:=by unfold aQ.start;simp[h]
theorem Qc{P:Program}{w:World}{K:PySem.W.Frag}{mg:Str→Option Value}{base:Heap}{x qual aU fO:Str}{st:Stmt}{ps:List Str}{k:Nat}{m:gO}{f:Addr}{fd:FuncData}(fn:kv K x qual st f fd)(S:cG (fO::ps) (fO::ps) (bM st))(h:∀(f:Addr)(b1:Value)(A:Around)(outer:List Env)(s:Shared)(H:ag)(E:cO),c4 k (A.deeper (PyProof.Rows.envOfC qual (bM st) s.heap.objs.size f b1))→∀bO bg,fF (eA gK P w K mg base (fO::ps) qual (bM st) f b1 A outer s H E).fo (fx st) (lV (eB K bO bg) m)) :
  f7 P w K mg base gK (k+1) f fd (fO::ps) (tN K aU ps.length fun es=>outI aU (m (gm aU es))):=fn.ok S Ja fun b1 A outer s H vs Q E hr hs=>by
 have hl:=Ja vs H Q E hs;obtain⟨G,bg,ht⟩:=QE hs;refine⟨_,h f b1 A outer s H E hr G bg,?_⟩;rw[Jk (by simpa using hl)];exact ht
theorem Ss{P:Program}{w:World}{K:PySem.W.Frag}{mg:Str→Option Value}{base:Heap}{x qual aU fO:Str}{st:Stmt}{N ps:List Str}{k:Nat}{m:a0}{C f:Addr}{fd:FuncData}(fn:kv K x qual st f fd)(fU:eG K aU C)(hc:iT K C)(hm:Meth K C x f)(hb:Binds K fd (fO::ps) [])(S:cG N (fO::ps) (bM st))(h:∀(f:Addr)(b1:Value)(A:Around)(outer:List Env)(s:Shared)(H:ag)(E:cO),c4 k (A.deeper (PyProof.Rows.envOfC qual (bM st) s.heap.objs.size f b1))→∀bO bg,hY (eA gK P w K mg base N qual (bM st) f b1 A outer s H E).fo (eB K bO bg) (fx st) m) :
  l8 P w K mg base aU x ps.length (k+1) (cS N.length m):=by
 refine⟨C,f,fd,fO::ps,fU,hc,hm,fn.ok S w5 fun b1 A outer s H vs Q E hr hs=>?_,hb⟩;obtain⟨G,ht⟩:=u5 hs;exact⟨_,(h f b1 A outer s H E hr G H).1,ht⟩
section
variable{X:aC}{F:a4}{e a b c:Expr}{es:List Expr}{pos p:Pos}{m n:az}{ma:aO}
noncomputable def lW:List D→R D
 |[.lst xs]=>.ok (.tup xs)
 |[.cx xs]=>.ok (.tup xs)
 |[.tup xs]=>.ok (.tup xs)
 |_=>.bad
theorem Tz(hK:F.K=X.K):oE F (fun xs H Q=>∃p ys,xs=[.ref p]∧((bU X.K H p ys∧∀l,H l=none→Q (.ref l) (upd H l (.tup ys)))∨(cK X.K H p ys∧Q (.ref p) H))) lW:=by
 intro σ ρ G H xs ds Q r al k;unfold lW at k
 split at k
 ·obtain⟨v,rfl,bb⟩:=al.one;simp only[At]at bb;obtain⟨q,ys,rfl,aK,fI⟩:=bb;refine⟨q,ys,rfl,.inl ⟨bU.of (r.aH.sub _ _ aK),fun l hl=>?_⟩⟩;refine k (.ref l) _ _ (r.lay hl) (cc.lay r.aH.sub hl) ?_;simp only[At];exact⟨l,ys,rfl,d0,fI.mono (Sub.upd (r.aH.sub.gone hl))⟩
 ·obtain⟨v,rfl,bb⟩:=al.one;simp only[At]at bb;obtain⟨q,ys,rfl,aK,fI⟩:=bb;refine⟨q,ys,rfl,.inl ⟨by rw[←hK];exact bU.mono r.aH.sub aK,fun l hl=>?_⟩⟩;refine k (.ref l) _ _ (r.lay hl) (cc.lay r.aH.sub hl) ?_;simp only[At];exact⟨l,ys,rfl,d0,fI.mono (Sub.upd (r.aH.sub.gone hl))⟩
 ·obtain⟨v,rfl,bb⟩:=al.one;have LD:=bb;simp only[At]at bb;obtain⟨q,ys,rfl,aK,fI⟩:=bb;exact⟨q,ys,rfl,.inr ⟨cK.of (r.aH.sub _ _ aK),k _ H G r (cc.refl _ _) LD⟩⟩
 ·exact k.elim
theorem Nw(hm:X.mg "tuple"=none)(ha:gy X F [e] ma)(hK:F.K=X.K:=by rfl)(hg:cy X "tuple":=by rfl)(he:starEach [e] X.env=(false,eval e X.env)::starEach [] X.env:=by rfl)(hpl:(backTo pos (starEach [] X.env)).any (·.1)=false:=by rfl) :
  a6 X F (.Call (.Name "tuple" p) [e] [] pos) (cN lW ma):=El L8 (Tz hK) hm (by kernel_rfl) ha hg (by decide) (by decide) he hpl
end
end ax
namespace dI
open PySem PyProof.Rows
section
variable{prog:Program}{w:World}{A:Around}{E:Value→Shared→Prop}{s:Shared}
end
end dI
namespace aQ
open PySem PySem.Spec PyProof.Rows
variable{X:aC}
end aQ
namespace ax
open PySem PySem.Spec aQ PyProof.Rows
section
variable{X:aC}{F:a4}{e a b c:Expr}{es:List Expr}{pos p:Pos}{m n:az}{ma:aO}
instance(i j:Int):Decidable (IntMulOk i j):=by unfold IntMulOk;infer_instance
end
section
variable{X:aC}{F:a4}{e a b c:Expr}{es:List Expr}{pos p:Pos}{m n:az}{ma:aO}
noncomputable def He(i:Nat)(m:az):aO:=fun ρ=>(ownAt i ρ).bind fun ds=>(m ρ).bind fun d=>match d with
 |.lst es=>if ds.length+es.length≤1000000 then .ok (ds++es)else .bad
 |_=>.bad
end
end ax
namespace ax
open PySem PySem.Spec aQ
section
variable{X:aC}{F:a4}{e a b c o bw iter elt:Expr}{es:List Expr}{pos p:Pos}{m n:az}{ma:aO}{st:Stmt}{jK:List Stmt}
theorem jN{aU f:Str}{aP:List Str}(k:qh X.K aU aP)(he:aW X F o m)(hf:f∈aP:=by decide+kernel)(hK:F.K=X.K:=by rfl)(hb:attributeBase o f X.env (eval o X.env)=eval o X.env:=by rfl):aW X F (.Attribute o f pos) (cq (d_ aU f) m):=⟨ax.M3 (k:=k) (he:=he.1) (hf:=hf) (hK:=hK) (hb:=hb)⟩
theorem Kx {aU mt:Str} {n k:Nat} {mf:List D→R bZ} {pl:Sem Bool} {apos:Pos} (c:l8 X.prog X.w X.K X.mg X.base aU mt n k mf) (hr:c4 k X.A) (he:aW X F o m) (ha:e8 X F (e::es) ma) (hE:F.gM=fun _ _=>False:=by rfl) (hK:F.K=X.K:=by rfl) (hst:starEach (e::es) X.env=(false,eval e X.env)::starEach es X.env:=by rfl) (hpl:(backTo pos (starEach es X.env)).any (·.1)=false:=by rfl) (ht:eval (.Call (.Attribute o mt apos) (e::es) [] pos) X.env=(do
   let dF ←eval o X.env
   standAt apos.atName
   let(f,first) ←holding [dF] (getMethod dF mt pl)
   callWith pos f first (backTo pos (starEach (e::es) X.env)) (backToKw pos (keywordEach [] X.env))):=by rfl):aW X F (.Call (.Attribute o mt apos) (e::es) [] pos) (jE aU mt n mf m ma):=⟨ax.Nd (c:=c) (hr:=hr) (he:=he.1) (ha:=ha.1) (hE:=hE) (hK:=hK) (hst:=hst) (hpl:=hpl) (ht:=ht)⟩
theorem KP(hu:X.A.units+64<cLine)(ha:aW X F a m)(hb:aW X F b n)(h1:behindInMarks .In b=false:=by with_unfolding_all rfl):eS X F (.Compare a [.In] [b] pos) (bc (ao (e9 true) m n)):=⟨ax.XA (hu:=hu) (ha:=ha.1) (hb:=hb.1) (h1:=h1)⟩
theorem Zk(hu:X.A.units+64<cLine)(ha:aW X F a m)(hb:aW X F b n)(h1:behindInMarks .NotIn b=false:=by with_unfolding_all rfl):eS X F (.Compare a [.NotIn] [b] pos) (bc (ao (e9 false) m n)):=⟨ax.XB (hu:=hu) (ha:=ha.1) (hb:=hb.1) (h1:=h1)⟩
theorem Zf(i:Nat){x:Str}{p q:Pos}(hN:X.N.Nodup)(hi:X.N[i]?=some x:=by rfl)(hx:Loc X.env.scope x:=by first|exact Or.inl rfl|exact Or.inr rfl)(hf:X.fn x=true∨X.env.scope.names.lookup x=some .local:=by first|exact .inl rfl|exact .inr rfl):e0 X F (.Assign [.Name x p] (.Dict [] [] q) pos) (s9 i):=⟨ax.V4 (i:=i) (hN:=hN) (hi:=hi) (hx:=hx) (hf:=hf)⟩
theorem KL(i:Nat){x:Str}{a3 pos':Pos}{k v:Expr}{mk mv:az}(hu:X.A.units+64<cLine)(hk:aW X F k mk)(hv:aW X F v mv)(hN:X.N[i]?=some x:=by rfl)(hvs:gd X.env.scope x:=by first|exact Or.inl rfl|exact Or.inr (Or.inl rfl)|exact Or.inr (Or.inr rfl))(hd:(x==("__debug__" :Str))=false:=by decide)(hcd:(x==("__classdict__" :Str))=false:=by decide)(hs:ik v=true:=by rfl):e0 X F (.Assign [.Subscript (.Name x a3) k pos'] v pos) (mF i mk mv):=⟨ax.VQ (i:=i) (hu:=hu) (hk:=hk.1) (hv:=hv.1) (hN:=hN) (hvs:=hvs) (hd:=hd) (hcd:=hcd) (hs:=hs)⟩
theorem xE(h:aW X F e m):e0 X F (.Return (some e) pos) (j9 m):=⟨ax.V2 (h:=h.1)⟩
theorem KJ{st:Stmt}:e0 X F st nU:=⟨ax.VM ⟩
theorem YP(h:aW X F e m):aW X F e (nW m):=⟨ax.MW (h:=h.1)⟩
theorem Kw{aU:Str}{n k:Nat}{mf:List D→R (List Str×List D)}(c:uz X.prog X.w X.K X.mg X.base aU n k mf)(hr:c4 (k+1) X.A)(ha:e8 X F (e::es) ma)(hK:F.K=X.K:=by rfl)(hg:cy X aU:=by rfl)(hdb:(aU==("__debug__" :Str))=false:=by decide)(he:starEach (e::es) X.env=(false,eval e X.env)::starEach es X.env:=by rfl)(hpl:(backTo pos (starEach es X.env)).any (·.1)=false:=by rfl):aW X F (.Call (.Name aU p) (e::es) [] pos) (pG aU n mf ma):=⟨ax.Nc (c:=c) (hr:=hr) (ha:=ha.1) (hK:=hK) (hg:=hg) (hdb:=hdb) (he:=he) (hpl:=hpl)⟩
theorem Ct(hm:X.mg "tuple"=none)(ha:e8 X F [e] ma)(hK:F.K=X.K:=by rfl)(hg:cy X "tuple":=by rfl)(he:starEach [e] X.env=(false,eval e X.env)::starEach [] X.env:=by rfl)(hpl:(backTo pos (starEach [] X.env)).any (·.1)=false:=by rfl):aW X F (.Call (.Name "tuple" p) [e] [] pos) (cN lW ma):=⟨ax.Nw (hm:=hm) (ha:=ha.1) (hK:=hK) (hg:=hg) (he:=he) (hpl:=hpl)⟩
structure r4(X:aC)(F:a4)(st:Stmt)(m:gO):Prop where
 o:c7 X st (lV F m)
structure r3(X:aC)(F:a4)(st:List Stmt)(m:gO):Prop where
 o:fF X st (lV F m)
theorem KG{m:gO}(h:r4 X F st m):r3 X F [st] m:=⟨AB h.1⟩
theorem kp{a b:gO}(h:r4 X F st a)(k:r3 X F jK b):r3 X F (st::jK) (g7 a b):=⟨fF.imp (Ih h.1 k.1) Qo⟩
theorem KD{c:Expr}{r:Stmt}{k:bY}(h:eS X F c k):r4 X F (.If c [r] [] pos) (nX k):=⟨c7.imp (Ie h.1 (AB Ig) Ii) PY⟩
theorem kZ{aU f x:Str}{aP:List Str}{a3 pos':Pos}(k:qh X.K aU aP)(he:aW X F e m)(hf:f∈aP:=by decide+kernel)(hN:X.N[0]?=some x:=by rfl)(hv:gd X.env.scope x:=by first|exact Or.inl rfl|exact Or.inr (Or.inl rfl)|exact Or.inr (Or.inr rfl))(hd:(x==("__debug__" :Str))=false:=by decide)(hcd:(x==("__classdict__" :Str))=false:=by decide)(hs:ik e=true:=by rfl)(hK:F.K=X.K:=by rfl) :
  r4 X F (.Assign [.Attribute (.Name x a3) f pos'] e pos) (fW aU f m):=⟨ax.VU k he.1 hf hN hv hd hcd hs hK⟩
end
structure ql(K:PySem.W.Frag)(aU x qual:Str)(st:Stmt)(ps:List Str):Prop where
 ex:∃(C f:Addr)(fd:FuncData),eG K aU C∧iT K C∧Meth K C x f∧kv K x qual st f fd∧Binds K fd ps []
structure InK(K:PySem.W.Frag)(mg:Str→Option Value)(aU qual:Str)(st:Stmt)(ps:List Str):Prop where
 ex:∃(C f:Addr)(fd:FuncData),eG K aU C∧qm K C f∧kv K "__init__" qual st f fd∧mg aU=some (.ref C)∧Binds K fd ps []
theorem xB{P:Program}{w:World}{K:PySem.W.Frag}{mg:Str→Option Value}{base:Heap}{x qual aU fO:Str}{st:Stmt}{N ps:List Str}{k:Nat}{m:a0}(d:ql K aU x qual st (fO::ps))(S:cG N (fO::ps) (bM st))(h:∀(f:Addr)(b1:Value)(A:Around)(outer:List Env)(s:Shared)(H:ag)(E:cO),c4 k (A.deeper (PyProof.Rows.envOfC qual (bM st) s.heap.objs.size f b1))→∀bO bg,hY (eA gK P w K mg base N qual (bM st) f b1 A outer s H E).fo (eB K bO bg) (fx st) m) :
  l8 P w K mg base aU x ps.length (k+1) (cS N.length m):=by
 obtain⟨C,f,fd,h1,h2,h3,h4,h5⟩:=d.ex;exact Ss h4 h1 h2 h3 h5 S h
theorem Y8{P:Program}{w:World}{K:PySem.W.Frag}{mg:Str→Option Value}{base:Heap}{qual aU fO:Str}{st:Stmt}{ps:List Str}{k:Nat}{m:gO}(d:InK K mg aU qual st (fO::ps))(S:cG (fO::ps) (fO::ps) (bM st))(h:∀(f:Addr)(b1:Value)(A:Around)(outer:List Env)(s:Shared)(H:ag)(E:cO),c4 k (A.deeper (PyProof.Rows.envOfC qual (bM st) s.heap.objs.size f b1))→∀bO bg,r3 (eA gK P w K mg base (fO::ps) qual (bM st) f b1 A outer s H E).fo (eB K bO bg) (fx st) m) :
  uz P w K mg base aU ps.length (k+1) (fun es=>outI aU (m (gm aU es))):=by
 obtain⟨C,f,fd,h1,h2,h3,h4,h5⟩:=d.ex;exact⟨C,f,fd,fO::ps,h1,h2,Qc h3 S fun f b1 A outer s H E hr bO bg=>(h f b1 A outer s H E hr bO bg).1,h4,h5⟩
end ax
namespace ax
open PySem PySem.Spec aQ PyProof.Rows
section
variable{K:PySem.W.Frag}{G G' H H':ag}
theorem cz.nil:cz K G H [] []:=by simp only[cz]
theorem cz.cons{t:T}{bH:List T}{v:V}{vs:List V}(h:dx K G H t v)(k:cz K G H bH vs):cz K G H (t::bH) (v::vs):=by simp only[cz];exact⟨v,vs,rfl,h,k⟩
theorem cz.length:∀{bH:List T}{vs:List V},cz K G H bH vs→bH.length=vs.length
 |[],_,h=>by simp only[cz]at h;subst h;rfl
 |_::_,_,h=>by simp only[cz]at h;obtain⟨v,r,rfl,_,t⟩:=h;simp[cz.length t]
theorem cz.take:∀(n:Nat){bH:List T}{vs:List V},cz K G H bH vs→cz K G H (bH.take n) (vs.take n)∧List.Sublist (fM H (bH.take n) (vs.take n)) (fM H bH vs)
 |0,_,_,_=>⟨by simpa using cz.nil,by simp[Fy]⟩
 |_+1,[],_,h=>by simp only[cz]at h;subst h;exact⟨by simpa using cz.nil,by simp[Fy]⟩
 |n+1,_::_,_,h=>by simp only[cz]at h;obtain⟨v,r,rfl,q,t⟩:=h;obtain⟨h1,h2⟩:=cz.take n t;exact⟨.cons q h1,by rw[List.take_succ_cons,List.take_succ_cons,ph,ph];exact h2.append_left _⟩
end
section
variable{F:a4}{G H:ag}{σ :aQ.St}{ρ:aj}
end
section
variable{X:aC}{F:a4}{e a b c bw iter elt:Expr}{es:List Expr}{pos p:Pos}{m n:az}{ma:aO}
def xl(i:Nat)(ρ:aj):R (List T):=match ρ[i]? with
 |some (.eu (.lst bH))=>.ok bH
 |_=>.bad
end
end ax
namespace ax
open PySem PySem.Spec aQ
section
variable{F:a4}
end
section
variable{X:aC}{F:a4}{e a b c bw iter elt:Expr}{es:List Expr}{pos p:Pos}{m n:az}{ma:aO}{scope:Scope}{N:List Str}
end
noncomputable def mZ(c:bY)(b:a0):Nat→aj→R e7
 |0,_=>.bad
 |n+1,ρ=>(c ρ).bind fun k=>if k=true then(b ρ).bind fun f=>match f with
  |.bk bh=>mZ c b n bh
  |.ck bh=>mZ c b n bh
  |.ez bh=>.ok (.bk bh)
  |f=>.ok f
  else .ok (.bk ρ)
def ta(c:bY)(b:a0):a0:=mZ c b 1000
section
variable{F:a4}
theorem Qu{c:bY}{b:a0}:g0 (fc F (ta c b)) (JJ (fA F c) (fc F b)):=by
 rintro cu σ H ⟨G,ρ,r,h⟩;refine⟨fun m σ2 aS=>∃cI ey,Rel F cI aS σ2 ey∧Sub G cI∧hG F cI cu (mZ c b m ey),⟨1000,G,ρ,r,Sub.refl _,h⟩,?_⟩;rintro m σ2 aS ⟨cI,ey,a5,s2,k2⟩;refine⟨cI,ey,a5,?_⟩;cases m with
 |zero=>exact k2.elim
 |succ n=>
  simp only[mZ]at k2;cases ec:c ey with
  |bad=>rw[ec]at k2;exact k2.elim
  |exc x=>rw[ec]at k2;exact k2
  |ok k=>
   rw[ec,R.bt]at k2;intro cQ f9 dN lX;cases k with
   |false=>rw[if_neg Bool.false_ne_true]at k2 ⊢;exact k2 σ2 f9 cQ dN lX.g
   |true=>
    rw[if_pos rfl]at k2 ⊢;refine⟨fun σ4 gA=>∃rP ix,Rel F rP gA σ4 ix∧Sub G rP∧hG F rP cu (mZ c b n ix),fun σ4 gA q=>⟨n,Nat.lt_succ_self _,q⟩,f9,ey,dN,?_⟩;cases a7:b ey with
    |bad=>rw[a7]at k2;exact k2.elim
    |exc x=>rw[a7]at k2;exact k2
    |ok f=>
     rw[a7,R.bt]at k2;cases f with
     |bk m7=>exact fun σ7 kx fR gX c1=>⟨kx,m7,gX,s2.trans (lX.g.trans c1),hG.mono (lX.g.trans c1) k2⟩
     |ck m7=>exact fun σ7 kx fR gX c1=>⟨kx,m7,gX,s2.trans (lX.g.trans c1),hG.mono (lX.g.trans c1) k2⟩
     |ez m7=>exact fun σ7 kx fR gX c1=>k2 σ7 kx fR gX (lX.g.trans c1)
     |dG d=>exact k2
     |hM ds=>exact k2
     |dO t=>exact k2
end
section
variable{X:aC}{F:a4}{e a b c o:Expr}{es:List Expr}{pos p:Pos}{m n:az}{ma:aO}
theorem Zj{body:List Stmt}{wm:bY}{fm:a0}(hp:PassesOwn (model X.prog X.w) X.A X.env X.xe)(hc:eS X F c wm)(hb:hY X F body fm):e0 X F (.While c body [] pos) (ta wm fm):=⟨c7.imp (US hp hc.1 hb.1) Qu⟩
noncomputable def findD(aD:List (List Key))(ds:List D)(cb:List Key):Option D:=((aD.zip ds).find? fun p=>decide (p.1=cb)).map (·.2)
theorem Ft{K:PySem.W.Frag}{G:ag}(cb:List Key):∀{ds:List D}{xs:List (List Key×V)},aI K G ds (xs.map (·.2))→match findD (xs.map (·.1)) ds cb with
  |some d=>∃v,f3 xs cb=some v∧At K G d v
  |none=>f3 xs cb=none
 |[],xs,h=>by
  simp only[aI]at h;have:xs=[]:=by simpa using h
  subst this;rfl
 |d::ds,[],h=>by simp only[aI,List.map_nil]at h;obtain⟨v,r,e,_⟩:=h;cases e
 |d::ds,(k,v)::xs,h=>by
  simp only[aI,List.map_cons]at h;obtain⟨lY,r,e,a,t⟩:=h;cases e;have bW:=Ft (K:=K) (G:=G) cb (ds:=ds) (xs:=xs) t;unfold findD f3 at bW ⊢;simp only[List.map_cons,List.zip_cons_cons,List.find?_cons];by_cases hk:k=cb
  ·simp only[hk,decide_true,Option.map_some];exact⟨v,rfl,a⟩
  ·simp only[hk,decide_false];exact bW
noncomputable def sY(m n:az):az:=fun ρ=>(m ρ).bind fun d=>match d with
 |.bI aD ds=>(n ρ).bind fun k=>match nQ k with
  |some cb=>.ok ((findD aD ds cb).getD .non)
  |none=>.bad
 |_=>.bad
theorem PR:en (cC F (sY m n)) (Jv (cC F m) (cC F n)):=by
 rintro σ H Q ⟨G,ρ,r,h⟩;unfold sY at h;refine⟨G,ρ,r,?_⟩;cases aq:m ρ with
 |bad=>rw[aq]at h;exact h.elim
 |exc c=>rw[aq]at h;exact h
 |ok dd=>
  rw[aq,R.bt]at h;intro x H1 aJ ar s1 bL;cases dd with
  |bI aD ds=>
   simp only at h;simp only[At]at bL;obtain⟨a,xs,rfl,hg,rfl,al⟩:=bL;refine⟨a,rfl,.inr ⟨xs,.inl (ar.aH.sub _ _ hg)⟩,aJ,ρ,ar,?_⟩;cases a7:n ρ with
   |bad=>rw[a7]at h;exact h.elim
   |exc c=>rw[a7]at h;exact h
   |ok o8=>
    rw[a7,R.bt]at h;intro y aS cI a5 s2 cJ;cases er:nQ o8 with
    |none=>rw[er]at h;exact h.elim
    |some cb=>
     rw[er]at h;simp only at h;obtain⟨q,rfl,aK⟩:=z3 er cJ;refine⟨f3 xs cb,jn.t (a5.aH.sub _ _ (s2.g _ _ hg)) (a5.aH.sub _ _ aK),?_⟩;have f:=Ft (K:=F.K) (G:=aJ) cb al;cases ly:findD (xs.map (·.1)) ds cb with
     |none=>rw[ly]at f h;rw[show f3 xs cb=none from f];exact h .non aS cI a5 (s1.trans s2) (by simp only[Option.getD_none,At])
     |some d=>rw[ly]at f h;obtain⟨v,ev,bb⟩:=f;rw[ev];exact h v aS cI a5 (s1.trans s2) (bb.mono s2.g)
  |_=>exact h.elim
theorem YR {apos bG:Pos} (hu:X.A.units+64<cLine) (ho:aW X F o m) (he:aW X F e n) (h1:attributeBase o "get" X.env (eval o X.env)=eval o X.env:=by rfl)(h2:((backTo bG (starEach [e] X.env)).all (fun x=>!x.1)&&(backToKw bG (keywordEach [] X.env)).all (fun x=>x.1.isSome)
  &&decide (([e]:List Expr).length+([]:List Keyword).length+(if([]:List Keyword).isEmpty then 0 else 1)<30))=true:=by rfl) (h3:(apos.endLine==bG.line)=true:=by rfl) (h4:backTo bG (starEach [e] X.env)=[(false,eval e X.env)]:=by rfl) :
  aW X F (.Call (.Attribute o "get" apos) [e] [] bG) (sY m n):=⟨aT.imp (T_ (by omega) ho.1 he.1 ⟨h1,h2,h3,h4⟩) PR⟩
noncomputable def Vd(F:a4):V→List V→ag→cj→Prop:=fun x vs H Q=>∃G d1 cn p y ds xs j,Sub G H∧x=.ref p∧vs=[y]∧At F.K G d1 y∧gB F.K G cn p false ds xs∧okN 7 d1=true∧ds.all (okN 7)=true∧ds.length<1000000∧ds.findIdx? (fun z=>bp z d1)=some j∧Q (.int (j:Nat)) H
theorem Lv{pins:List (Addr×Obj)}{σ :aQ.St}{G H:ag}{s:Shared}(I:Inv X pins σ H s)(aX:Sub G H){d1:D}{ds:List D}{xs:List V}{its:List Value}(q:aI X.K G ds xs)(r:Vals xs its)(o:ds.all (okN 7)=true){i:Nat}{d:D}{u:Value}(ak:ds[i]?=some d)(ay:its[i]?=some u):kC X.K G d1 u=bp d d1:=by
 obtain⟨v,ev,bb⟩:=q.get ak;have ho:okN 7 d=true:=List.all_eq_true.mp o d (List.mem_of_getElem? ak);have bV:RelV v u:=by obtain⟨iq,nz,eb⟩:=r.get ev;rw[ay]at nz;cases nz;exact eb
 exact yh I aX ho ⟨v,bb,bV⟩
theorem SG(hK:F.K=X.K)(hu:X.A.units+64<cLine):x7 X "list.index" (Vd F):=by
 intro pins s σ H x vs v us Q I bl bV h;obtain⟨G,d1,cn,p,y,ds,xs,j,aX,rfl,rfl,a1,gu,cB,b9,hl,cv,q⟩:=h;rw[hK]at a1 gu;cases bl;obtain⟨u,rfl,eb⟩:=vals1 bV;obtain⟨its,ar,t1,dA⟩:=gu.heap I aX;have hm:=wo I aX (A:=X.A.in1) (d1:=d1) (by simp only[in1_units];omega) cB a1 eb gu.gP ar b9;obtain⟨⟨cls,dict,data,slots⟩,g1,g2,nn,g3⟩:=dA rfl;simp only at g2 g3;subst g2 g3;obtain⟨gF,ak,ay⟩:=List.findIdx?_eq_some_iff_getElem.mp cv;have sL:its.length=ds.length:=by rw[←ar.length,←gu.gP.length]
 have O6:j<its.length:=by omega
 have Df:∀(i:Nat)(h:i<ds.length),kC X.K G d1 (its[i]'(by omega))=bp ds[i] d1:=fun i h=>Lv I aX gu.gP ar b9 (List.getElem?_eq_getElem h) (List.getElem?_eq_getElem (by omega));have gk:s.TypeIs (.ref p) "list":=⟨_,g1,rfl⟩;have Pt:(j:Int)<2^63-1:=by
  have:(j:Int)<1000000:=by omega
  omega
 refine call_meets PySem.F.slot_list_index gk PySem.F.entry_list_index (PySem.F.args_list_index_2 _ _) (SeqAt.list_indexAt p its.toArray nn dict slots u (kC X.K G d1) j (by simpa using O6) Pt ?_ ?_) ⟨g1,fun w hw=>hm w (by simpa using hw),?_⟩
 ·have:=Df j gF;rw[ak]at this;simpa using this
 ·intro k hk O3;have z:=Df k (by omega);have b4:=ay k O3;rw[Bool.not_eq_true]at b4;rw[b4]at z;simpa using z
 ·exact⟨.int (j:Nat),H,I.tok _,⟨_,rfl⟩,q⟩
noncomputable def qV:D→List D→R D
 |.lst ds,[d]=>if okN 7 d=true∧ds.all (okN 7)=true∧ds.length<1000000 then match ds.findIdx? (fun z=>bp z d)with
  |some j=>.ok (.int (j:Nat))
  |none=>.bad
  else .bad
 |_,_=>.bad
noncomputable def nZ(m:az)(ma:aO):az:=fun ρ=>(m ρ).bind fun d=>match d with
 |.lst ds=>(ma ρ).bind fun es=>qV (.lst ds) es
 |_=>.bad
theorem Kv {apos bG:Pos} (hu:X.A.units+64<cLine) (ho:aW X F o m) (ha:e8 X F [e] ma) (hK:F.K=X.K:=by rfl)(hbase:attributeBase o "index" X.env (eval o X.env)=eval o X.env:=by rfl)(hfew:((backTo bG (starEach [e] X.env)).all (fun x=>!x.1)&&(backToKw bG (keywordEach [] X.env)).all (fun x=>x.1.isSome)
    &&decide (([e]:List Expr).length+([]:List Keyword).length+(if([]:List Keyword).isEmpty then 0 else 1)<30))=true:=by rfl)
  (hline:(apos.endLine==bG.line)=true:=by rfl) (hs:starEach [e] X.env=(false,eval e X.env)::starEach [] X.env:=by rfl) (hplain:(backTo bG (starEach [] X.env)).any (·.1)=false:=by rfl) :
  aW X F (.Call (.Attribute o "index" apos) [e] [] bG) (nZ m ma):=by
 refine⟨aT.imp (ro PySem.F.plainAttrs_list PySem.F.slot_list_index PySem.F.type_list_index (SG (F:=F) hK hu) ho.1 ha.1 hbase hfew hline hs hplain) ?_⟩;rintro σ H Q ⟨G,ρ,r,h⟩;unfold nZ at h;refine⟨G,ρ,r,?_⟩;cases aq:m ρ with
 |bad=>rw[aq]at h;exact h.elim
 |exc c=>rw[aq]at h;exact h
 |ok dd=>
  rw[aq,R.bt]at h;intro x H1 aJ ar s1 bL;cases dd with
  |lst ds=>
   simp only at h;simp only[At]at bL;obtain⟨p,xs,rfl,hg,al⟩:=bL;refine⟨.inl ⟨rfl,xs,bU.of (ar.aH.sub _ _ hg)⟩,aJ,ρ,ar,?_⟩;cases a7:ma ρ with
   |bad=>rw[a7]at h;exact h.elim
   |exc c=>rw[a7]at h;exact h
   |ok es=>
    rw[a7,R.bt]at h;intro vs aS cI a5 s2 cJ;unfold qV at h
    split at h
    ·rename_i o9 d ak;cases ak
     split at h
     ·rename_i hc
      split at h
      ·rename_i j i6;obtain⟨y,rfl,bb⟩:=cJ.one;exact⟨cI,d,.lst ds,p,y,ds,xs,j,a5.aH.sub,rfl,rfl,bb,.lst (s2.g _ _ hg) (al.mono s2.g),hc.1,hc.2.1,hc.2.2,i6,h _ aS cI a5 (s1.trans s2) (by simp only[At])⟩
      ·exact h.elim
     ·exact h.elim
    ·exact h.elim
  |_=>exact h.elim
end
def xy(K:PySem.W.Frag):cO→Str→ag→Prop:=fun E c H=>∃C,eG K c C∧∀a,H a=none→E (.ref C) (some a) H
def gS(K:PySem.W.Frag)(G H:ag)(E:cO):a4:=⟨K,G,H,xy K E⟩
theorem Rel.i5{F F':a4}{G H:ag}{σ :aQ.St}{ρ:aj}(r:Rel F G H σ ρ)(hK:F'.K=F.K)(h0:F'.bO=F.bO)(h1:F'.bg=F.bg):Rel F' G H σ ρ:=
 r.over hK ⟨r.aH.sub,by rw[h0];exact r.aH.e1,by rw[h1];exact r.aH.hh,fun b hb=>by rw[h1]at hb;rw[h0];exact r.aH.new b hb⟩ (Sub.refl _) fun a ha=>⟨rfl,(r.foot ha).2.1,by rw[h1];exact(r.foot ha).2.2⟩
def rm(m:bY):bY:=fun ρ=>eU (m ρ)
def pT(m:a0):a0:=fun ρ=>eU (m ρ)
def lM(m:aO):aO:=fun ρ=>eU (m ρ)
section
variable{K:PySem.W.Frag}{bO bg:ag}{E:cO}
theorem RZ{m:bY}:l6 (fA (gS K bO bg E) (rm m)) (fA (eB K bO bg) m):=by
 rintro σ H Q ⟨G,ρ,r,h⟩;unfold rm at h;refine⟨G,ρ,r.i5 rfl rfl rfl,?_⟩;cases e:m ρ with
 |bad=>rw[e]at h;exact h.elim
 |exc c=>rw[e]at h;exact h.elim
 |ok b=>rw[e]at h;exact fun H' G' a8 u=>h H' G' (a8.i5 rfl rfl rfl) u
theorem RW{m:aO}:qk (ee (gS K bO bg E) (lM m)) (ee (eB K bO bg) m):=by
 rintro σ H Q ⟨G,ρ,r,h⟩;unfold lM at h;refine⟨G,ρ,r.i5 rfl rfl rfl,?_⟩;cases e:m ρ with
 |bad=>rw[e]at h;exact h.elim
 |exc c=>rw[e]at h;exact h.elim
 |ok b=>rw[e]at h;exact fun vs H' G' a8 u a=>h vs H' G' (a8.i5 rfl rfl rfl) u a
theorem ef.i5{F F':a4}{G H:ag}(k:ef F G H)(h0:F'.bO=F.bO)(h1:F'.bg=F.bg):ef F' G H:=⟨k.sub,by rw[h0];exact k.e1,by rw[h1];exact k.hh,fun b hb=>by rw[h1]at hb;rw[h0];exact k.new b hb⟩
theorem RY{m:a0}:g0 (fc (gS K bO bg E) (pT m)) (fc (eB K bO bg) m):=by
 rintro cu σ H ⟨G,ρ,r,h⟩;unfold pT at h;refine⟨G,ρ,r.i5 rfl rfl rfl,?_⟩;cases e:m ρ with
 |bad=>rw[e]at h;exact h.elim
 |exc c=>rw[e]at h;exact h.elim
 |ok f=>
  rw[e]at h;cases f with
  |bk bh=>exact fun σ' G' H' a8 s=>h σ' G' H' (a8.i5 rfl rfl rfl) s
  |ez bh=>exact fun σ' G' H' a8 s=>h σ' G' H' (a8.i5 rfl rfl rfl) s
  |ck bh=>exact fun σ' G' H' a8 s=>h σ' G' H' (a8.i5 rfl rfl rfl) s
  |dG d=>exact fun v G' H' k a=>h v G' H' (k.i5 rfl rfl) a
  |hM ds=>exact fun a xs G' H' k h1 h2 h3 h4=>h a xs G' H' (k.i5 rfl rfl) h1 h2 h3 h4
  |dO t=>exact fun v G' H' k q=>h v G' H' (k.i5 rfl rfl) ⟨q.at_,q.bj,q.own⟩
end
section
variable{X:aC}{e c:Expr}{es:List Expr}{st:Stmt}{pos p:Pos}{K:PySem.W.Frag}{bO bg:ag}{E:cO}{mt:bY}{ms:a0}{ma:aO}
theorem Yg{t:TT}(h:eR X.fo e t):eR X e t:=fun pins s σ H Q I q=>wpAny_mono (h pins s σ H Q (I.hQ _) q) (fun _ s'⟨H',bx,z⟩=>⟨H',bx.gI,z⟩) fun _ _ z=>z.elim
theorem Yd{t:eK}(h:eJ X.fo es t):eJ X es t:=fun pos pins s σ H Q I q=>wpAny_mono (h pos pins s σ H Q (I.hQ _) q) (fun _ s'⟨vs,H',bx,r,z⟩=>⟨vs,H',bx.gI,r,z⟩) fun _ _ z=>z.elim
theorem Yf{t:eL}(h:c7 X.fo st t):c7 X st t:=fun pins s σ H D I q=>wpAny_mono (h pins s σ H D (I.hQ _) q) (fun f s' z=>by
 cases f with
 |next=>obtain⟨σ',H',bx,z⟩:=z;exact⟨σ',H',bx.gI,z⟩
 |brk=>obtain⟨σ',H',bx,z⟩:=z;exact⟨σ',H',bx.gI,z⟩
 |cont=>obtain⟨σ',H',bx,z⟩:=z;exact⟨σ',H',bx.gI,z⟩
 |ret v=>obtain⟨x,σ',H',bx,z⟩:=z;exact⟨x,σ',H',bx.gI,z⟩) fun _ _ z=>z.elim
theorem KC(h:eS X.fo (eB K bO bg) e mt):eS X (gS K bO bg E) e (rm mt):=⟨fun pins s σ H Q I q=>Yg h.1 pins s σ H Q I (RZ σ H Q q)⟩
theorem t9(h:e8 X.fo (eB K bO bg) es ma):e8 X (gS K bO bg E) es (lM ma):=⟨fun pos pins s σ H Q I q=>Yd h.1 pos pins s σ H Q I (RW σ H Q q)⟩
theorem Cu(h:e0 X.fo (eB K bO bg) st ms):e0 X (gS K bO bg E) st (pT ms):=⟨fun pins s σ H D I q=>Yf h.1 pins s σ H D I (RY D σ H q)⟩
end
structure oN(P:Program)(w:World)(K:PySem.W.Frag)(mg:Str→Option Value)(base:Heap)(x:Str)(n k:Nat)(mf:List D→R bZ):Prop where
 ex:∃(f:Addr)(fd:FuncData)(ps:List Str),ps.length=n∧f7 P w K mg base (ft P w) k f fd ps (oj K n (xy K) mf)∧mg x=some (.ref f)∧PySem.W.keepIn K (.ref f)=true∧Binds K fd ps []
structure xT(K:PySem.W.Frag)(mg:Str→Option Value)(c:Str):Prop where
 ex:∃C,eG K c C∧mg c=some (.ref C)∧PySem.W.excIn K C [.type "ValueError",.type "Exception",.type "BaseException",.type "object"] "ValueError.__new__"=true
def v_(c:Str):a0:=fun _=>.exc c
section
variable{P:Program}{w:World}{K:PySem.W.Frag}{mg:Str→Option Value}{base:Heap}{N:List Str}{qual:Str}{scope:Scope}{f:Addr}{cd:Value}{A:Around}{outer:List Env}{s0:Shared}{gZ:ag}{E:cO}{bO bg:ag}
theorem KN{x:Str}{np bG pos va:Pos}{m:Str}{j:Nat}(k:xT K mg x)(hg:cy (eA (ft P w) P w K mg base N qual scope f cd A outer s0 gZ E) x:=by rfl)(hd:(x==("__debug__" :Str))=false:=by decide) :
  e0 (eA (ft P w) P w K mg base N qual scope f cd A outer s0 gZ E) (gS K bO bg E) (.Raise (some (.Call (.Name x np) [.Constant (.str m) j va] [] bG)) none pos) (v_ x):=by
 obtain⟨C,h1,h2,h3⟩:=k.ex;refine⟨fun pins s σ H D I q=>UR (X:=eA (ft P w) P w K mg base N qual scope f cd A outer s0 gZ E) PySem.F.excBase_ValueError h3 h2 rfl hg hd pins s σ H D I ?_⟩;obtain⟨G,ρ,r,h⟩:=q;obtain⟨iy,bu,c5⟩:=(show jA (gS K bO bg E) x from h) G H r.aH;have:iy=C:=by unfold eG at bu h1;rw[h1]at bu;cases bu;rfl
 subst this;exact Y0 c5
theorem t7{x:Str}{n k:Nat}{mf:List D→R bZ}{e:Expr}{es:List Expr}{ma:aO}{pos p:Pos}(c:oN P w K mg base x n k mf)(hr:c4 k (eA (ft P w) P w K mg base N qual scope f cd A outer s0 gZ E).A)(ha:e8 (eA (ft P w) P w K mg base N qual scope f cd A outer s0 gZ E) (gS K bO bg E) (e::es) ma)(hg:cy (eA (ft P w) P w K mg base N qual scope f cd A outer s0 gZ E) x:=by rfl)(hdb:(x==("__debug__" :Str))=false:=by decide)(he:starEach (e::es) (eA (ft P w) P w K mg base N qual scope f cd A outer s0 gZ E).env=(false,eval e (eA (ft P w) P w K mg base N qual scope f cd A outer s0 gZ E).env)::starEach es (eA (ft P w) P w K mg base N qual scope f cd A outer s0 gZ E).env:=by rfl)(hpl:(backTo pos (starEach es (eA (ft P w) P w K mg base N qual scope f cd A outer s0 gZ E).env)).any (·.1)=false:=by rfl) :
  aW (eA (ft P w) P w K mg base N qual scope f cd A outer s0 gZ E) (gS K bO bg E) (.Call (.Name x p) (e::es) [] pos) (b8 n mf ma):=by
 obtain⟨Ez,fd,ps,aE,hA,hm,hk,hb⟩:=c.ex;exact⟨aT.imp (Aw (X:=eA (ft P w) P w K mg base N qual scope f cd A outer s0 gZ E) hA hr hg hm hk hb .nil T2 ha.1 hdb he hpl) (Gl (F:=gS K bO bg E) (xe:=xy K) (E:=E) rfl)⟩
end
theorem xx{P:Program}{w:World}{K:PySem.W.Frag}{mg:Str→Option Value}{base:Heap}{x:Str}{st:Stmt}{N ps:List Str}{k:Nat}{m:a0}(d:da K mg x st ps)(S:cG N ps (bM st))(h:∀(f:Addr)(b1:Value)(A:Around)(outer:List Env)(s:Shared)(H:ag)(E:cO),c4 k (A.deeper (PyProof.Rows.envOfC x (bM st) s.heap.objs.size f b1))→∀bO bg,hY (eA (ft P w) P w K mg base N x (bM st) f b1 A outer s H E) (gS K bO bg E) (fx st) m) :
  oN P w K mg base x ps.length (k+1) (cS N.length m):=by
 obtain⟨f,fd,fn,hm,hb⟩:=d.ex;refine⟨f,fd,ps,rfl,?_,hm,fn.aH,hb⟩;obtain⟨eV,dv,cD,doc,pm,an,b1,ck,ke,rfl,lk,hcd⟩:=fn.ex;refine zl lk hcd S w5 fun A outer s H vs Q E hr hs=>?_;obtain⟨G,ht⟩:=u5 hs;exact⟨_,(h f b1 A outer s H E hr G H).1,ht⟩
section
variable{X:aC}{F:a4}{e:Expr}{es:List Expr}{pos p:Pos}{ma:aO}
end
end ax
namespace aQ
open PySem PySem.Spec PySem.Calls PyProof.Rows PySem.W PySem.Builtin PySem.Builtin.ObjectAttr PySem.Builtin.Getset_descriptor
def ExcAt(a D:Addr)(h:Heap):Prop:=∃o,h.get? a=some o∧o.cls=.ref D
theorem ExcAt.ty{M:Model}{a D:Addr}{h:Heap}(p:ExcAt a D h):Looks M h (typeOf (.ref a)) (.ref D):=by obtain⟨o,h1,h2⟩:=p;rw[←h2];exact(Looks.ld h1).andThen .now
structure uu(K:Frag)(D:Addr):Prop where
 ga:findIn K (.ref D) "__getattribute__"=some (some (.builtin "BaseException.__getattribute__"))
 zv:findIn K (.ref D) "__getattr__"=some none
 cl:findIn K (.ref D) "__class__"=some (some (.builtin "object.__class__"))
 eO:subIn K (.ref D) (.type "BaseException")=some true
 mo:mroIn K D (.type "object")=some true
 ck:(clsIn K D).isSome=true
section
variable{prog:Program}{w:World}{A:Around}{E:Value→Shared→Prop}{s:Shared}{K:Frag}{a D:Addr}
theorem NT{R:Result→Shared→Prop}(X:K.In s.heap)(p:ExcAt a D s.heap)(f:uu K D)(h:R (.ok (.ret (.ref D))) s) :
  codeAny (model prog w) A (.call (.builtin "getset_descriptor.__get__") ⟨[.builtin "object.__class__",.ref a,.ref D],[]⟩) R s:=by
 obtain⟨hh,g,Ed,t,os⟩:=s;have iV:=p.ty (M:=model prog w);have uA:=looks_mroIn (M:=model prog w) X f.mo
 refine codeAny_call_builtin KF.slot_gs.plain KF.entry_gs
  (KF.slot_gs.check _ _ _ _ _ _ _ _ KF.type_class
    (KF.args_gs _ _ _) ?_)
 unfold Builtin.«getset_descriptor.__get__» descrGet;rw[dga_obj];refine wpAny_bind (wpAny_pure ?_);unfold descrGetter descrCheckInstance descrNameAndClass isInstance;simp only[KF.owner_class]
 repeat lk
 refine⟨Code.quiet_builtin _ (by decide+kernel),codeAny_builtin KF.entry_class ?_⟩;unfold Builtin.«object.__class__» shownTypeOf
 repeat lk
 exact h
theorem NS{Q:Option Value→Shared→Prop}(X:K.In s.heap)(p:ExcAt a D s.heap)(f:uu K D)(hs:specialIn K (.builtin "object.__class__") "__get__"=some (some (.builtin "getset_descriptor.__get__")))(ht:takesIn K (.builtin "object.__class__")=some true)(h:Q (some (.ref D)) { s with toks:=s.toks+1 }):wpAny (model prog w) A (getAttr? (.ref a) "__class__") Q E s:=by
 obtain⟨hh,g,Ed,t,os⟩:=s;have iV:=p.ty (M:=model prog w);have uA:=looks_findIn (M:=model prog w) X f.ga;have aQ:=looks_findIn (M:=model prog w) X f.zv;have ax:=looks_findIn (M:=model prog w) X f.cl;have K8:=looks_subIn (M:=model prog w) X f.eO;have K9:=looks_specialIn (M:=model prog w) X hs;have La:Looks (model prog w) hh (isInstance (.ref a) (.type "BaseException")) true:=iV.andThen K8;have K_:Looks (model prog w) hh (find (.ref a) (.ref D) "__class__") (.bind (.builtin "getset_descriptor.__get__") (.builtin "object.__class__")):=by have LT:=looks_takesIn (M:=model prog w) X ht;intro oC mb CK s' k q;unfold find getOf dataDescriptor?;refine wpAny_bind (ax _ _ _ _ k (wpAny_bind (K9 _ _ _ _ k ?_)));refine wpAny_bind (wpAny_bind (LT _ _ _ _ k ?_));exact wpAny_pure (wpAny_bind (wpAny_rule (wpAny_pure q)))
 unfold getAttr? getAttrBy? getAttrBy;refine wpAny_bind (wpAny_mkText (wpAny_bind (wpAny_attempt (wpAny_holding (wpAny_bind (iV.at (wpAny_bind (uA.at ?_))))))));show wpAny _ _ (getAttrByItsOwn _ _ _ _ _ _) _ _ _;unfold getAttrByItsOwn hookBefore;refine wpAny_bind (aQ.at ?_);refine wpAny_bind (wpAny_attempt (wpAny_holding ?_));show wpAny _ _ (boundAndCalled _ _ _) _ _ _;unfold boundAndCalled;rw[PySem.F.excAttr_ValueError.ga.bind (.ref a)];refine wpAny_bind (wpAny_pure ?_);refine wpAny_call (codeAny_call_builtin PySem.F.excAttr_ValueError.ga.plain PySem.F.entry_bexc_ga ?_);have hk:builtinKind "BaseException.__getattribute__"=some .slot:=by decide+kernel
 have hp:splitId "BaseException.__getattribute__"=some ("BaseException","__getattribute__"):=by decide+kernel
 have ha:=PySem.F.args_bexc_ga (.ref a) (.str "__class__" t);show wpAny _ _ (checkBuiltinCall "BaseException.__getattribute__" ⟨[.ref a,.str "__class__" t],[]⟩) _ _ _;simp only[checkBuiltinCall,hk,hp];refine wpAny_bind (La.at ?_);simp only[Bool.not_true,Bool.false_eq_true,if_false];cases F3:Manifest.signature? "BaseException.__getattribute__" with
 |none=>exact absurd F3 (by decide+kernel)
 |some aX=>simp only[argsOk,F3]at ha;have h2:Bind.checkArgs "BaseException.__getattribute__" aX ⟨[.ref a,.str "__class__" t],[]⟩=pure ():=ha;show wpAny _ _ (Bind.checkArgs "BaseException.__getattribute__" aX ⟨[.ref a,.str "__class__" t],[]⟩) _ _ _;rw[h2];refine wpAny_pure ?_;unfold Builtin.«object.__getattribute__»;refine wpAny_bind (wpAny_pure ?_);refine wpAny_bind (wpAny_pure ?_);refine wpAny_bind (iV.at (wpAny_bind (K_.at ?_)));show wpAny _ _ (do ret (←holding [Value.builtin "object.__class__"] (call (.builtin "getset_descriptor.__get__") [.builtin "object.__class__",.ref a,.ref D]))) _ _ _;refine wpAny_bind (wpAny_holding (wpAny_call (NT (s:=⟨hh,g,Ed,t+1,os⟩) X p f ?_)));refine wpAny_pure ?_;exact wpAny_pure (wpAny_pure h)
theorem Rk(f:uu K D)(hs:specialIn K (.builtin "object.__class__") "__get__"=some (some (.builtin "getset_descriptor.__get__")))(ht:takesIn K (.builtin "object.__class__")=some true):KitX K (.ref a) (.ref D) (ExcAt a D) where
 ty:=fun _ _ _ p=>p.ty
 it:=fun _ _ X _=>by
  have hc:=f.ck;unfold clsIn at hc
  split at hc
  ·rename_i cB b9 S_ Ta ho;intro oC mb CK s' k q;unfold isType loadHead;refine wpAny_bind ?_;exact wpAny_loadPart (k _ _ (X _ _ ho)) (wpAny_pure q)
  ·cases hc
 ne:=fun h mW dd its n cw X Px=>by
  refine Bool.eq_false_iff.mpr fun q=>?_;have e:D=mW:=by have:=beq_iff_eq.mp q;cases this;rfl
  subst e;have hc:=f.ck;unfold clsIn at hc
  split at hc
  ·rename_i cB b9 S_ Ta ho;have z:=(X _ _ ho).symm.trans Px;cases z
  ·cases hc
 ca:=fun X p h=>NS X p f hs ht h
end
end aQ
namespace ax
open PySem PySem.Spec aQ
structure rR(K:PySem.W.Frag)(u7:Value)(tab:List (Str×Bool)):Prop where
 sp:PySem.W.specialIn K (.builtin "object.__class__") "__get__"=some (some (.builtin "getset_descriptor.__get__"))
 cM:PySem.W.takesIn K (.builtin "object.__class__")=some true
 ex:∀c b,tab.lookup c=some b→∃C,eG K c C∧uu K C∧PySem.W.kitOne K (.ref C) u7=some b
noncomputable def ic(tab:List (Str×Bool)):D→R D
 |.i8 c=>match tab.lookup c with
  |some b=>.ok (.au b)
  |none=>.bad
 |_=>.bad
section
variable{X:aC}{F:a4}{a:Expr}{pos p:Pos}{m:az}
noncomputable def Ip(F:a4)(tab:List (Str×Bool))(vU:V):List V→ag→cj→Prop:=fun xs H Q=>∃G x c b,Sub G H∧xs=[x,vU]∧At F.K G (.i8 c) x∧tab.lookup c=some b∧Q (.au b) H
theorem DR{tab:List (Str×Bool)}{vU:V}{u7:Value}(hK:F.K=X.K)(hv:∀u,RelV vU u→u=u7)(t:rR X.K u7 tab):jm X (.builtin "isinstance") (Ip F tab vU):=by
 intro pins s σ H xs us Q I r h;obtain⟨G,x,c,b,aX,rfl,bb,hb,q⟩:=h;obtain⟨u,eY,rfl,bl,eb⟩:=vals2 r;have:=hv eY eb;subst this;rw[hK]at bb;simp only[At]at bb;obtain⟨a,xs,rfl,⟨C,bu,ga⟩,_⟩:=bb;cases bl;obtain⟨iy,c5,f,k⟩:=t.ex c b hb;have e:iy=C:=by unfold eG at bu c5;rw[bu]at c5;cases c5;rfl
 subst e;have ok:ExcAt a iy s.heap:=by obtain⟨⟨o,h1,h2⟩,_⟩:=(show eI X.prog X.w H s.heap a (qI a (.ref iy))from I.br a _ (aX _ _ ga));exact⟨o,h1,h2⟩
 exact PySem.W.kia_one (Rk f t.sp t.cM) I.eC ok k (fun z=>nomatch z) fun cM=>⟨.au _,H,I.tok cM,rfl,q⟩
theorem Gq{tab:List (Str×Bool)}{vU:V}:en (cC F (cq (ic tab) m)) (tR (Ip F tab vU) (tT (cC F m) (tT (oo vU) tU))):=by
 rintro σ H Q ⟨G,ρ,r,h⟩;unfold cq at h;refine⟨G,ρ,r,?_⟩;cases aq:m ρ with
 |bad=>rw[aq]at h;exact h.elim
 |exc c=>rw[aq]at h;exact h
 |ok d=>
  rw[aq,R.bt]at h;intro x H1 aJ ar s1 bL;cases d with
  |i8 c=>
   simp only[ic]at h
   split at h
   ·rename_i b hb;exact⟨aJ,x,c,b,ar.aH.sub,rfl,bL,hb,h _ H1 aJ ar s1 (by simp only[At])⟩
   ·exact h.elim
  |_=>exact h.elim
theorem YV{U:Str}{m_:Addr}{tab:List (Str×Bool)}{bR:Pos}(t:rR X.K (.ref m_) tab)(hm:X.mg "isinstance"=none)(hmU:X.mg U=some (.ref m_))(ha:aW X F a m)(hK:F.K=X.K:=by rfl)(hg:cy X "isinstance":=by rfl)(hgU:cy X U:=by rfl)(hdU:(U==("__debug__" :Str))=false:=by decide)(hs2:starEach [.Name U bR] X.env=(false,eval (.Name U bR) X.env)::starEach [] X.env:=by rfl)(he:starEach [a,.Name U bR] X.env=(false,eval a X.env)::starEach [.Name U bR] X.env:=by rfl)(hpl:(backTo pos (starEach [.Name U bR] X.env)).any (·.1)=false:=by rfl) :
  aW X F (.Call (.Name "isinstance" p) [a,.Name U bR] [] pos) (cq (ic tab) m):=by
 have hb:bootBuiltins "isinstance"=some (.builtin "isinstance"):=by kernel_rfl
 exact⟨aT.imp (tF (DR (F:=F) (vU:=.ref m_) hK (fun u r=>by cases r;rfl) t) hg hm hb (jH ha.1 (jH (HV hgU hmU (v:=.ref m_) rfl hdU) lO hs2) he) (by decide) (by decide) he hpl) Gq⟩
theorem YU{tab:List (Str×Bool)}{bR:Pos}(t:rR X.K (.type "ValueError") tab)(hm:X.mg "isinstance"=none)(hmU:X.mg "ValueError"=none)(ha:aW X F a m)(hK:F.K=X.K:=by rfl)(hg:cy X "isinstance":=by rfl)(hgU:cy X "ValueError":=by rfl)(hs2:starEach [.Name "ValueError" bR] X.env=(false,eval (.Name "ValueError" bR) X.env)::starEach [] X.env:=by rfl)(he:starEach [a,.Name "ValueError" bR] X.env=(false,eval a X.env)::starEach [.Name "ValueError" bR] X.env:=by rfl)(hpl:(backTo pos (starEach [.Name "ValueError" bR] X.env)).any (·.1)=false:=by rfl) :
  aW X F (.Call (.Name "isinstance" p) [a,.Name "ValueError" bR] [] pos) (cq (ic tab) m):=by
 have hb:bootBuiltins "isinstance"=some (.builtin "isinstance"):=by kernel_rfl
 exact⟨aT.imp (tF (DR (F:=F) (vU:=.ty "ValueError") hK (fun u r=>r) t) hg hm hb (jH ha.1 (jH (HU hgU hmU (by kernel_rfl) (v:=.ty "ValueError") rfl) lO hs2) he) (by decide) (by decide) he hpl) Gq⟩
noncomputable def B4(i:Nat):e7→R e7
 |.bk ρ=>.ok (.bk (ρ.set i .un))
 |.ez ρ=>.ok (.ez (ρ.set i .un))
 |.ck ρ=>.ok (.ck (ρ.set i .un))
 |f=>.ok f
structure C3(K:PySem.W.Frag)(mg:Str→Option Value)(W:Str)(cs:List Str):Prop where
 ex:∃ug,mg W=some (.ref ug)∧∀c,cs.contains c=true→∃C,eG K c C∧PySem.W.exmOne K (.ref C) (.ref ug)=some true
theorem Rel.yP{G H:ag}{σ :aQ.St}{ρ:aj}(r:Rel F G H σ ρ)(i:Nat):Rel F G H (σ.set i none) (ρ.set i .un):=by
 by_cases hi:i<ρ.length
 ·exact r.rv hi trivial fun _ f=>f.elim
 ·rw[List.set_eq_of_length_le (by rw[r.len];omega),List.set_eq_of_length_le (by omega)];exact r
end
noncomputable def mR:D→D→R D
 |.lst xs,.int k=>if 0≤k∧k≤1000∧xs.length≤100 then .ok (.lst (List.replicate k.toNat xs).flatten)else .bad
 |_,_=>.bad
theorem aI.rep{K:PySem.W.Frag}{G:ag}{ds:List D}{xs:List V}(q:aI K G ds xs):∀n:Nat,aI K G (List.replicate n ds).flatten (List.replicate n xs).flatten
 |0=>by simpa using aI.nil
 |n+1=>by rw[List.replicate_succ,List.replicate_succ,List.flatten_cons,List.flatten_cons];exact q.append (aI.rep q n)
section
variable{X:aC}{F:a4}{a b:Expr}{pos p:Pos}{m n:az}
theorem Tw:fE F Iw mR:=by
 intro σ ρ G H x y aN fy Q r bL cJ k;unfold mR at k
 split at k
 ·rename_i xs j
  split at k
  ·rename_i hc;simp only[At]at bL cJ;obtain⟨l,vs,rfl,hl,al⟩:=bL;refine⟨l,j,vs,rfl,cJ,r.aH.sub _ _ hl,by omega,by omega,?_,fun q aK=>?_⟩
   ·rw[←al.length];have h1:j.toNat≤1000:=by omega
    exact Nat.le_trans (Nat.mul_le_mul hc.2.2 h1) (by decide)
   ·refine k (.ref q) _ _ (r.lay aK) (cc.lay r.aH.sub aK) ?_;simp only[At];exact⟨q,_,rfl,d0,(al.mono (Sub.upd (r.aH.sub.gone aK))).rep j.toNat⟩
  ·exact k.elim
 ·exact k.elim
theorem xA(ha:aW X F a m)(hb:aW X F b n):aW X F (.BinOp a .Mult b pos) (ao mR m n):=⟨o_ TO Tw ha.1 hb.1⟩
structure lb(K:PySem.W.Frag)(mg:Str→Option Value)(U:Str)(tab:List (Str×Bool)):Prop where
 ex:∃m_,mg U=some (.ref m_)∧rR K (.ref m_) tab
theorem m3{U:Str}{tab:List (Str×Bool)}{bR:Pos}(t:lb X.K X.mg U tab)(hm:X.mg "isinstance"=none)(ha:aW X F a m)(hK:F.K=X.K:=by rfl)(hg:cy X "isinstance":=by rfl)(hgU:cy X U:=by rfl)(hdU:(U==("__debug__" :Str))=false:=by decide)(hs2:starEach [.Name U bR] X.env=(false,eval (.Name U bR) X.env)::starEach [] X.env:=by rfl)(he:starEach [a,.Name U bR] X.env=(false,eval a X.env)::starEach [.Name U bR] X.env:=by rfl)(hpl:(backTo pos (starEach [.Name U bR] X.env)).any (·.1)=false:=by rfl) :
  aW X F (.Call (.Name "isinstance" p) [a,.Name U bR] [] pos) (cq (ic tab) m):=by
 obtain⟨m_,h1,h2⟩:=t.ex;exact YV h2 hm h1 ha hK hg hgU hdU hs2 he hpl
noncomputable def s7(i:Nat)(n:az):az:=fun ρ=>(ownAt i ρ).bind fun ds=>(n ρ).bind fun k=>match k with
 |.int j=>match gf ds j with
  |some d=>.ok d
  |none=>.bad
 |_=>.bad
theorem HP{i:Nat}{ρ:aj}{ds:List D}(h:ownAt i ρ=.ok ds):ρ[i]?=some (.c6 ds):=by
 unfold ownAt at h
 split at h
 ·rename_i e;cases h;exact e
 ·cases h
theorem HO{i:Nat}{ρ:aj}{c:Str}(h:ownAt i ρ=.exc c):False:=by
 unfold ownAt at h
 split at h<;>cases h
theorem YW(i:Nat){x:Str}{a3:Pos}(hb:aW X F b n)(hs:rZ b)(hN:X.N[i]?=some x:=by rfl)(hv:gd X.env.scope x:=by first|exact Or.inl rfl|exact Or.inr (Or.inl rfl)|exact Or.inr (Or.inr rfl))(hd:(x==("__debug__" :Str))=false:=by decide)(hcd:(x==("__classdict__" :Str))=false:=by decide) :
  aW X F (.Subscript (.Name x a3) b pos) (s7 i n):=by
 refine⟨aT.imp (HW GF (lP hN hv hd hcd) hb.1 hs) ?_⟩;rintro σ H Q ⟨G,ρ,r,h⟩;unfold s7 at h;cases cZ:ownAt i ρ with
 |bad=>rw[cZ]at h;exact h.elim
 |exc c=>exact(HO cZ).elim
 |ok ds=>
  rw[cZ,R.bt]at h;have cP:=HP cZ;obtain⟨q,xs,ak,h1,h2,h3,h4⟩:=r.own cP;refine⟨.ref q,ak,G,ρ,r,?_⟩;cases aq:n ρ with
  |bad=>rw[aq]at h;exact h.elim
  |exc c=>rw[aq]at h;exact h
  |ok d=>
   rw[aq,R.bt]at h;intro v H1 aJ ar s1 bb;obtain⟨cV,k6,gE,cA,cp,sz,hB⟩:=ar.own cP;rw[ak]at gE;cases gE;cases d with
   |int j=>
    simp only at h;simp only[At]at bb
    split at h
    ·rename_i d dy;obtain⟨w,i7,i0⟩:=r7 hB dy;exact .inl ⟨q,k6,j,w,rfl,bb,bU.of cA,i7,h w H1 aJ ar s1 i0⟩
    ·exact h.elim
   |_=>exact h.elim
end
end ax
namespace eH
open PySem PySem.SetTable
theorem yN(xs:Array Nat)(j:Nat)(hs:xs.toList.Pairwise (· <·)):∀fuel lo hi,hi≤lo+fuel→lo≤hi→hi≤xs.size→(∀k,k<lo→xs.getD k j<j)→(∀k,hi≤k→k<xs.size→j≤xs.getD k j)→
  below.go xs j fuel lo hi≤xs.size∧(∀k,k<below.go xs j fuel lo hi→xs.getD k j<j)∧(∀k,below.go xs j fuel lo hi≤k→k<xs.size→j≤xs.getD k j)
 |0,lo,hi,h1,h2,h3,h4,h5=>by
  have e:lo=hi:=by omega
  subst e;exact⟨h3,h4,h5⟩
 |fuel+1,lo,hi,h1,h2,h3,h4,h5=>by
  have mono:∀a b,a≤b→b<xs.size→xs.getD a j≤xs.getD b j:=by
   intro a b sC hb;rcases Nat.eq_or_lt_of_le sC with rfl|sC
   ·exact Nat.le_refl _
   have:=List.pairwise_iff_getElem.mp hs a b (by simp;omega) (by simpa using hb) sC;simp only[Array.getElem_toList]at this;rw[Array.getD_eq_getD_getElem?,Array.getD_eq_getD_getElem?,Array.getElem?_eq_getElem (by omega),Array.getElem?_eq_getElem hb];exact Nat.le_of_lt this
  unfold below.go;by_cases h:lo<hi
  ·rw[if_pos h];dsimp only;by_cases q:xs.getD ((lo+hi)/2) j<j
   ·rw[if_pos q];refine yN xs j hs fuel _ hi (by omega) (by omega) h3 (fun k hk=>?_) h5;exact Nat.lt_of_le_of_lt (mono k ((lo+hi)/2) (by omega) (by omega)) q
   ·rw[if_neg q];refine yN xs j hs fuel lo _ (by omega) (by omega) (by omega) h4 fun k hk jd=>?_;exact Nat.le_trans (Nat.not_lt.mp q) (mono _ k hk jd)
  ·rw[if_neg h];have e:lo=hi:=by omega
   subst e;exact⟨h3,h4,h5⟩
theorem Dz{xs:Array Nat}(hs:xs.toList.Pairwise (· <·))(j:Nat):below xs j≤xs.size∧(∀y∈xs.toList.take (below xs j),y<j)∧(∀y∈xs.toList.drop (below xs j),j≤y):=by
 obtain⟨a,b,c⟩:=yN xs j hs xs.size 0 xs.size (by omega) (by omega) (Nat.le_refl _) (fun k hk=>absurd hk (Nat.not_lt_zero _)) (fun k h1 h2=>absurd h2 (by omega));refine⟨a,fun y bJ=>?_,fun y bJ=>?_⟩
 ·obtain⟨k,hk,rfl⟩:=List.getElem_of_mem bJ;have jw:k<below xs j∧k<xs.size:=by simpa[List.length_take,Nat.lt_min]using hk
  have:=b k jw.1;rw[Array.getD_eq_getD_getElem?,Array.getElem?_eq_getElem jw.2]at this;simpa using this
 ·obtain⟨k,hk,rfl⟩:=List.getElem_of_mem bJ;have jw:below xs j+k<xs.size:=by simp at hk;omega
  have:=c (below xs j+k) (Nat.le_add_right _ _) jw;rw[Array.getD_eq_getD_getElem?,Array.getElem?_eq_getElem jw]at this;simpa using this
theorem vR{α:Type}(xs:Array α)(p:Nat)(x:α):(insertAt xs p x).toList=xs.toList.take p++x::xs.toList.drop p:=by unfold insertAt;simp[Array.toList_extract,List.extract_eq_take_drop];exact List.take_of_length_le (by simp)
structure Tab(t:SetTable)(n:Nat):Prop where
 se:t.dummies= #[]
 lT:t.place.size=n
 rr:t.place.toList.Pairwise (· <·)
 le:∀j∈t.place.toList,j≤t.mask
theorem slot_of{t:SetTable}{n:Nat}(T:Tab t n)(j:Nat):(∃i,t.slot j=.live i∧t.place.toList[i]?=some j)∨(t.slot j=.empty∧j∉t.place.toList):=by
 obtain⟨a,b,c⟩:=Dz T.rr j;unfold slot;dsimp only;by_cases h:t.place[below t.place j]?=some j
 ·left
  refine⟨below t.place j,?_,by simpa using h⟩;rw[h];simp
 ·right
  constructor
  ·have:(t.place[below t.place j]?==some j)=false:=by simpa using h
   rw[this,T.se];simp[has]
  ·intro m;have cR:=m;rw[←List.take_append_drop (below t.place j) t.place.toList]at cR;rcases List.mem_append.mp cR with cR|cR
   ·exact absurd (b j cR) (Nat.lt_irrefl _)
   ·cases hd:t.place.toList.drop (below t.place j)with
    |nil=>rw[hd]at cR;cases cR
    |cons y r=>
     have bJ:t.place[below t.place j]?=some y:=by
      have:(t.place.toList.drop (below t.place j))[0]?=some y:=by rw[hd];rfl
      rw[List.getElem?_drop]at this;simpa using this
     have hr:=T.rr;rw[←List.take_append_drop (below t.place j) t.place.toList,hd]at hr;have hr:=(List.pairwise_append.mp hr).2.1;rw[hd]at cR;rcases List.mem_cons.mp cR with rfl|cR
     ·exact h bJ
     ·have h1:=(List.pairwise_cons.mp hr).1 j cR;have h2:=c y (by rw[hd];simp);omega
theorem I8{t:SetTable}{n:Nat}(T:Tab t n){j:Nat}(m:j∈t.place.toList):∃i,t.slot j=.live i∧t.place.toList[i]?=some j:=by
 rcases slot_of T j with h|h
 ·exact h
 ·exact absurd m h.2
theorem WZ{t:SetTable}{n:Nat}(T:Tab t n){j:Nat}(m:j∉t.place.toList):t.slot j=.empty:=by
 rcases slot_of T j with⟨i,h,e⟩|h
 ·exact absurd (List.mem_of_getElem? e) m
 ·exact h.1
theorem U3{t:SetTable}{n:Nat}(T:Tab t n){j:Nat}(m:j∉t.place.toList)(cv:j≤t.mask):∃p,(t.put j).2=p∧p≤n∧Tab (t.put j).1 (n+1)∧(t.put j).1.place.toList=t.place.toList.take p++j::t.place.toList.drop p∧(t.put j).1={ t with place:=(t.put j).1.place }:=by
 obtain⟨a,b,c⟩:=Dz T.rr j;have e:(t.put j).1.place.toList=t.place.toList.take (below t.place j)++j::t.place.toList.drop (below t.place j):=by unfold put;exact vR _ _ _
 have dy:(t.put j).1.dummies= #[]:=by unfold put;simp[has,T.se]
 have em:(t.put j).1.mask=t.mask:=rfl;refine⟨below t.place j,rfl,T.lT▸a,⟨dy,?_,?_,?_⟩,e,?_⟩
 ·have:(t.put j).1.place.toList.length=n+1:=by
    rw[e,List.length_append,List.length_cons,List.length_take,List.length_drop];have:=T.lT;simp only[Array.length_toList];omega
  simpa using this
 ·rw[e];have hr:=T.rr;rw[←List.take_append_drop (below t.place j) t.place.toList]at hr;obtain⟨ar,a5,dN⟩:=List.pairwise_append.mp hr;refine List.pairwise_append.mpr ⟨ar,List.pairwise_cons.mpr ⟨fun y bJ=>?_,a5⟩,fun x hx y bJ=>?_⟩
  ·rcases Nat.eq_or_lt_of_le (c y bJ)with q|q
   ·exact absurd (q▸List.mem_of_mem_drop bJ) m
   ·exact q
  ·rcases List.mem_cons.mp bJ with rfl|bJ
   ·exact b x hx
   ·exact dN x hx y bJ
 ·intro y bJ;rw[em];rw[e]at bJ;rcases List.mem_append.mp bJ with bJ|bJ
  ·exact T.le y (List.mem_of_mem_take bJ)
  ·rcases List.mem_cons.mp bJ with rfl|bJ
   ·exact cv
   ·exact T.le y (List.mem_of_mem_drop bJ)
 ·have y4:(t.put j).1.dummies=t.dummies:=dy.trans T.se.symm;show(t.put j).1=_;have:(t.put j).1={ t with place:=(t.put j).1.place,dummies:=(t.put j).1.dummies }:=rfl;rw[this,y4]
noncomputable def jZ(mask:Nat)(p:Probe):Probe:=
 if p.more>0 then{ p with j:=p.j+1,more:=p.more-1 }else
 { p with j:=(leap mask p.i p.perturb).1,more:=runEnd mask (leap mask p.i p.perturb).1-(leap mask p.i p.perturb).1,i:=(leap mask p.i p.perturb).1,perturb:=(leap mask p.i p.perturb).2 }
theorem C_(t:SetTable)(p:Probe):t.advance p=jZ t.mask p:=rfl
def Ij(mask:Nat)(i q:Nat):Probe:={ j:=i,more:=runEnd mask i-i,i,perturb:=q,dummy:=none }
noncomputable def cg(mask:Nat)(h:Int):Nat→Probe
 |0=>Ij mask (bits h%(mask+1)) (bits h)
 |n+1=>jZ mask (cg mask h n)
noncomputable def dh(mask:Nat)(h:Int):Nat→Nat×Nat
 |0=>(bits h%(mask+1),bits h)
 |n+1=>leap mask (dh mask h n).1 (dh mask h n).2
def dO(mask i:Nat):Nat:=runEnd mask i-i
def aX(mask:Nat)(h:Int):Nat→Nat
 |0=>0
 |n+1=>aX mask h n+dO mask (dh mask h n).1+1
theorem Vy(mask i:Nat):dO mask i≤9:=by unfold dO runEnd;split<;>omega
theorem AM(mask i:Nat):i≤runEnd mask i:=by unfold runEnd;split<;>omega
theorem I7(mask:Nat)(h:Int):∀n,aX mask h n≤10*n
 |0=>Nat.le_refl _
 |n+1=>by have:=I7 mask h n;have:=Vy mask (dh mask h n).1;unfold aX;omega
theorem Lq{mask i q r:Nat}(hr:r<dO mask i):jZ mask { j:=i+r,more:=dO mask i-r,i:=i,perturb:=q,dummy:=none }={ j:=i+(r+1),more:=dO mask i-(r+1),i:=i,perturb:=q,dummy:=none }:=by unfold jZ;rw[if_pos (by show dO mask i-r>0;omega)];simp only[Probe.mk.injEq];refine⟨by omega,by omega,trivial,trivial,trivial⟩
theorem Lr{mask i q:Nat}:jZ mask { j:=i+dO mask i,more:=dO mask i-dO mask i,i:=i,perturb:=q,dummy:=none }=Ij mask (leap mask i q).1 (leap mask i q).2:=by unfold jZ;rw[if_neg (by show¬(dO mask i-dO mask i>0);omega)];rfl
theorem rp(mask:Nat)(h:Int):∀L r,r≤dO mask (dh mask h L).1→cg mask h (aX mask h L+r)={ j:=(dh mask h L).1+r,more:=dO mask (dh mask h L).1-r,i:=(dh mask h L).1,perturb:=(dh mask h L).2,dummy:=none }
 |0,0,_=>rfl
 |L,r+1,hr=>by have:=rp mask h L r (by omega);show jZ mask (cg mask h (aX mask h L+r))=_;rw[this];exact Lq (by omega)
 |L+1,0,_=>by have:=rp mask h L (dO mask (dh mask h L).1) (Nat.le_refl _);show jZ mask (cg mask h (aX mask h L+dO mask (dh mask h L).1))=_;rw[this,Lr];rfl
theorem LJ(h:Int):bits h<2^64:=by unfold bits;have:=Int.emod_lt_of_pos h (b:=2^64) (by decide);have:=Int.emod_nonneg h (b:=2^64) (by decide);omega
theorem Hc(mask:Nat)(h:Int):∀n,(dh mask h n).2=bits h/32^n
 |0=>by simp[dh]
 |n+1=>by show(dh mask h n).2/32=_;rw[Hc mask h n,Nat.div_div_eq_div_mul,Nat.pow_succ]
theorem Sg(mask:Nat)(h:Int)(n:Nat)(aE:13≤n):(dh mask h n).2=0:=by
 rw[Hc];apply Nat.div_eq_of_lt;have h1:=LJ h;have h2:32^13≤32^n:=Nat.pow_le_pow_right (by decide) aE;have h3:(2:Nat)^64<32^13:=by decide
 omega
def jB(mask:Nat):Nat→Nat→Nat
 |0,i=>i
 |n+1,i=>(jB mask n i*5+1)%(mask+1)
theorem Hb(mask:Nat)(h:Int):∀m,(dh mask h (13+m)).1=jB mask m (dh mask h 13).1
 |0=>rfl
 |m+1=>by have e:(dh mask h (13+(m+1))).2=0:=Sg mask h _ (by omega);have ay:(dh mask h (13+m)).2/32=0:=e;show((dh mask h (13+m)).1*5+1+(dh mask h (13+m)).2/32)%(mask+1)=_;rw[ay,Hb mask h m];rfl
theorem v8(mask:Nat)(a:Nat):∀b i,jB mask (a+b) i=jB mask b (jB mask a i)
 |0,_=>rfl
 |b+1,i=>by show(jB mask (a+b) i*5+1)%(mask+1)=_;rw[v8 mask a b i];rfl
def wH(mask:Nat):Nat→Nat→List Nat
 |0,_=>[]
 |n+1,i=>i::wH mask n ((i*5+1)%(mask+1))
theorem G3(mask i:Nat):∀n,jB mask n ((i*5+1)%(mask+1))=jB mask (n+1) i
 |0=>rfl
 |n+1=>by show(jB mask n _*5+1)%_=_;rw[G3 mask i n];rfl
theorem Aj(mask:Nat):∀n i j,j∈wH mask n i→∃m,m<n∧jB mask m i=j
 |0,_,_,h=>by cases h
 |n+1,i,j,h=>by
  rcases List.mem_cons.mp h with rfl|h
  ·exact⟨0,by omega,rfl⟩
  ·obtain⟨m,h1,h2⟩:=Aj mask n _ j h;exact⟨m+1,by omega,by rw[←G3];exact h2⟩
structure gz(mask:Nat):Prop where
 all:∀j,j≤mask→j∈wH mask (mask+1) 0
 back:jB mask (mask+1) 0=0
theorem gz.reach{mask:Nat}(C:gz mask){i j:Nat}(hi:i≤mask)(cv:j≤mask):∃m,m≤mask∧jB mask m i=j:=by
 obtain⟨a,a1,a2⟩:=Aj _ _ _ _ (C.all i hi);obtain⟨b,ei,dj⟩:=Aj _ _ _ _ (C.all j cv);by_cases h:a≤b
 ·refine⟨b-a,by omega,?_⟩;rw[←a2,←v8,show a+(b-a)=b by omega,dj]
 ·refine⟨mask+1-a+b,by omega,?_⟩;rw[←a2,←v8,show a+(mask+1-a+b)=(mask+1)+b by omega,v8,C.back,dj]
theorem yV{mask:Nat}(h:(List.range (mask+1)).all (fun j=>(wH mask (mask+1) 0).contains j)=true)(b:jB mask (mask+1) 0=0):gz mask:=
 ⟨fun j cv=>by have:=List.all_eq_true.mp h j (List.mem_range.mpr (by omega));exact List.contains_iff_mem.mp this,b⟩
theorem D6:gz 7:=yV (by decide+kernel) (by decide+kernel)
theorem D5:gz 31:=yV (by decide+kernel) (by decide+kernel)
theorem D4:gz 127:=yV (by decide+kernel) (by decide+kernel)
theorem Ab(mask:Nat)(h:Int):∀n,(dh mask h n).1≤mask
 |0=>Nat.le_of_lt_succ (Nat.mod_lt _ (by omega))
 |n+1=>Nat.le_of_lt_succ (Nat.mod_lt _ (by omega))
theorem gz.leap{mask:Nat}(C:gz mask)(h:Int){j:Nat}(cv:j≤mask):∃L,L<mask+15∧(dh mask h L).1=j:=by obtain⟨m,h1,h2⟩:=C.reach (Ab mask h 13) cv;exact⟨13+m,by omega,by rw[Hb];exact h2⟩
theorem gz.cover{mask:Nat}(C:gz mask)(h:Int){j:Nat}(cv:j≤mask):∃n,n<10*turns mask∧(cg mask h n).j=j:=by
 obtain⟨L,h1,h2⟩:=C.leap h cv;refine⟨aX mask h L,?_,?_⟩
 ·have:=I7 mask h L;unfold turns;omega
 ·have:=rp mask h L 0 (Nat.zero_le _);simp only[Nat.add_zero]at this;rw[this];exact h2
theorem Oe{P:List Nat}{mask:Nat}(hs:P.Pairwise (· <·))(aE:P.length≤mask):∃j,j≤mask∧j∉P:=by
 apply Classical.byContradiction;intro no;have all:∀j,j≤mask→j∈P:=fun j cv=>Classical.byContradiction fun z=>no ⟨j,cv,z⟩;have bj:(List.range (mask+1)).Nodup:=List.nodup_range;have sub:∀x∈List.range (mask+1),x∈P:=fun x hx=>all x (by have:=List.mem_range.mp hx;omega);have key:∀(l:List Nat),l.Nodup→∀(P:List Nat),(∀x∈l,x∈P)→l.length≤P.length:=by
  intro l;induction l with
  |nil=>intro _ P _;simp
  |cons a r bW=>intro bj P sub;obtain⟨c8,c0⟩:=List.nodup_cons.mp bj;have ha:=sub a (by simp);have:=bW c0 (P.erase a) (fun x hx=>(List.mem_erase_of_ne (by intro e;subst e;exact c8 hx)).mpr (sub x (by simp[hx])));rw[List.length_erase_of_mem ha]at this;have:0<P.length:=List.length_pos_of_mem ha;simp;omega
 have:=key _ bj P sub;simp at this;omega
theorem least(p:Nat→Prop):(∃n,p n)→∃n,p n∧∀m,m<n→¬p m:=by
 rintro⟨n,h⟩;induction n using Nat.strongRecOn with
 |_ n bW=>
  by_cases q:∃m,m<n∧p m
  ·obtain⟨m,m1,m2⟩:=q;exact bW m m1 m2
  ·exact⟨n,h,fun m hm hp=>q ⟨m,hm,hp⟩⟩
theorem gz.first{mask:Nat}(C:gz mask){P:List Nat}(hs:P.Pairwise (· <·))(aE:P.length≤mask)(h:Int):∃N,N<10*turns mask∧(cg mask h N).j∉P∧∀m,m<N→(cg mask h m).j∈P:=by obtain⟨j,pz,nO⟩:=Oe hs aE;obtain⟨n,c8,c0⟩:=C.cover h pz;obtain⟨N,uB,rV⟩:=least (fun n=>(cg mask h n).j∉P) ⟨n,by rw[c0];exact nO⟩;refine⟨N,?_,uB,fun m hm=>Classical.byContradiction (rV m hm)⟩;have:¬n<N:=fun z=>rV n z (by rw[c0];exact nO);omega
theorem Ha(mask:Nat)(h:Int):∀n,(cg mask h n).dummy=none
 |0=>rfl
 |n+1=>by
  show(jZ mask (cg mask h n)).dummy=none;unfold jZ
  split<;>exact Ha mask h n
theorem AO{mask i:Nat}(hi:i≤mask):runEnd mask i≤mask:=by unfold runEnd;split<;>omega
structure CV(mask:Nat)(p:Probe):Prop where
 i:p.i≤mask
 j:p.j+p.more≤mask
theorem Im(mask:Nat)(h:Int):∀n,CV mask (cg mask h n)
 |0=>by have:=Ab mask h 0;have h2:=AO this;have h3:=AM mask (dh mask h 0).1;exact⟨this,by show(dh mask h 0).1+(runEnd mask (dh mask h 0).1-(dh mask h 0).1)≤mask;omega⟩
 |n+1=>by
  obtain⟨a,b⟩:=Im mask h n;show CV mask (jZ mask (cg mask h n));unfold jZ
  split
  ·rename_i q;refine⟨a,?_⟩;show(cg mask h n).j+1+((cg mask h n).more-1)≤mask;omega
  ·have h1:(SetTable.leap mask (cg mask h n).i (cg mask h n).perturb).1≤mask:=Nat.le_of_lt_succ (Nat.mod_lt _ (by omega));have h2:=AO h1;have h3:=AM mask (SetTable.leap mask (cg mask h n).i (cg mask h n).perturb).1;refine⟨h1,?_⟩;show(SetTable.leap mask (cg mask h n).i (cg mask h n).perturb).1+(runEnd mask _-_)≤mask;omega
theorem Il(mask:Nat)(h:Int)(n:Nat):(cg mask h n).j≤mask:=by have:=(Im mask h n).j;omega
section
variable{α:Type}
noncomputable def gN(t:SetTable)(es:Array (Int×α))(j:Nat)(e:Int×α):Prop:=∃i:Nat,t.place.toList[i]?=some j∧es.toList[i]?=some e
structure fG(t:SetTable)(es:Array (Int×α)):Prop where
 tab:Tab t es.size
 D3:gz t.mask
 room:es.size≤t.mask
 find:∀j e,gN t es j e→∃n,(cg t.mask e.1 n).j=j∧∀m,m<n→(cg t.mask e.1 m).j∈t.place.toList
theorem fG.len{t:SetTable}{es:Array (Int×α)}(I:fG t es):t.place.toList.length=es.size:=by simpa using I.tab.lT
theorem fG.first{t:SetTable}{es:Array (Int×α)}(I:fG t es)(h:Int):∃N,N<10*turns t.mask∧(cg t.mask h N).j∉t.place.toList∧∀m,m<N→(cg t.mask h m).j∈t.place.toList:=
 I.D3.first I.tab.rr (by rw[I.len];exact I.room) h
theorem fG.ent{t:SetTable}{es:Array (Int×α)}(I:fG t es){j i:Nat}(e:t.place.toList[i]?=some j):∃x,es.toList[i]?=some x:=by have:i<t.place.toList.length:=(List.getElem?_eq_some_iff.mp e).1;rw[I.len]at this;exact⟨_,List.getElem?_eq_getElem (by simpa using this)⟩
theorem H7{t:SetTable}{n:Nat}(T:Tab t n){i k j:Nat}(a:t.place.toList[i]?=some j)(b:t.place.toList[k]?=some j):i=k:=by
 obtain⟨a1,a2⟩:=List.getElem?_eq_some_iff.mp a;obtain⟨ei,dj⟩:=List.getElem?_eq_some_iff.mp b;have r:=List.pairwise_iff_getElem.mp T.rr;rcases Nat.lt_trichotomy i k with h|h|h
 ·have:=r i k a1 ei h;omega
 ·exact h
 ·have:=r k i ei a1 h;omega
theorem gN.inj{t:SetTable}{es:Array (Int×α)}{n:Nat}(T:Tab t n){j:Nat}{e b3:Int×α}(a:gN t es j e)(b:gN t es j b3):e=b3:=by obtain⟨i,a1,a2⟩:=a;obtain⟨k,ei,dj⟩:=b;have:=H7 T a1 ei;subst this;rw[a2]at dj;exact Option.some.inj dj
theorem Ib{t:SetTable}{es:Array (Int×α)}(I:fG t es){f:Nat→Int}(hf:∀(i:Nat) e,es.toList[i]?=some e→f i=e.1)(h:Int){N:Nat}(h1:(cg t.mask h N).j∉t.place.toList)(h2:∀m,m<N→(cg t.mask h m).j∈t.place.toList) :
  ∀fuel n,n≤N→N-n<fuel→
  (probe.go t f h fuel (cg t.mask h n)=some (.empty (cg t.mask h N).j none)∧∀m,n≤m→m<N→∀e,gN t es (cg t.mask h m).j e→e.1≠h)∨
  (∃m i e,n≤m∧m<N∧t.place.toList[i]?=some (cg t.mask h m).j∧es.toList[i]?=some e∧e.1=h∧probe.go t f h fuel (cg t.mask h n)=some (.candidate (cg t.mask h m).j i (cg t.mask h (m+1)))∧∀cR,n≤cR→cR<m→∀e,gN t es (cg t.mask h cR).j e→e.1≠h)
 |0,n,_,Z9=>by omega
 |fuel+1,n,aE,lD=>by
  unfold probe.go;by_cases q:n=N
  ·subst q
   left
   rw[WZ I.tab h1];dsimp only;rw[Ha];exact⟨rfl,fun m a b=>by omega⟩
  ·obtain⟨i,s1,s2⟩:=I8 I.tab (h2 n (by omega));obtain⟨x,hx⟩:=I.ent s2;rw[s1];dsimp only;by_cases w:x.1=h
   ·right
    refine⟨n,i,x,Nat.le_refl _,by omega,s2,hx,w,?_,fun cR a b=>by omega⟩;rw[if_pos (by rw[hf i x hx,w];simp),C_];rfl
   ·rw[if_neg (by rw[hf i x hx];simpa using w),C_];have no:∀e,gN t es (cg t.mask h n).j e→e.1≠h:=fun e he=>by
     rw[gN.inj I.tab he ⟨i,s2,hx⟩];exact w
    rcases Ib I hf h h1 h2 fuel (n+1) (by omega) (by omega)with⟨a,b⟩|⟨m,vO,e,a1,a2,fg,iY,jX,jY,ye⟩
    ·refine .inl ⟨a,fun m c d=>?_⟩;rcases Nat.eq_or_lt_of_le c with rfl|c
     ·exact no
     ·exact b m c d
    ·refine .inr ⟨m,vO,e,by omega,a2,fg,iY,jX,jY,fun cR c d=>?_⟩;rcases Nat.eq_or_lt_of_le c with rfl|c
     ·exact no
     ·exact ye cR c d
theorem NK{t t':SetTable}{es:Array (Int×α)}(hl:t.place.toList.length=es.size){j p:Nat}{e:Int×α}(hp:p≤es.size)(dz:t'.place.toList=t.place.toList.take p++j::t.place.toList.drop p){zZ:Nat}{b3:Int×α}(h:gN t' (insertAt es p e) zZ b3):(zZ=j∧b3=e)∨gN t es zZ b3:=by
 obtain⟨i,a,b⟩:=h;rw[dz]at a;rw[vR]at b;have dA:(t.place.toList.take p).length=p:=by rw[List.length_take,hl];omega
 have cf:(es.toList.take p).length=p:=by rw[List.length_take,Array.length_toList];omega
 rcases Nat.lt_trichotomy i p with q|q|q
 ·right
  rw[List.getElem?_append_left (by omega),List.getElem?_take_of_lt q]at a;rw[List.getElem?_append_left (by omega),List.getElem?_take_of_lt q]at b;exact⟨i,a,b⟩
 ·left
  subst q;rw[List.getElem?_append_right (by omega),dA,Nat.sub_self]at a;rw[List.getElem?_append_right (by omega),cf,Nat.sub_self]at b;simp at a b;exact⟨a.symm,b.symm⟩
 ·right
  obtain⟨k,rfl⟩:∃k,i=p+1+k:=⟨i-p-1,by omega⟩;rw[List.getElem?_append_right (by omega),dA,show p+1+k-p=k+1 by omega,List.getElem?_cons_succ,List.getElem?_drop]at a;rw[List.getElem?_append_right (by omega),cf,show p+1+k-p=k+1 by omega,List.getElem?_cons_succ,List.getElem?_drop]at b;exact⟨p+k,a,b⟩
theorem fG.put{t:SetTable}{es:Array (Int×α)}(I:fG t es){h:Int}{x:α}{N:Nat}(h1:(cg t.mask h N).j∉t.place.toList)(h2:∀m,m<N→(cg t.mask h m).j∈t.place.toList)(hr:es.size+1≤t.mask) :
  fG (t.put (cg t.mask h N).j).1 (insertAt es (t.put (cg t.mask h N).j).2 (h,x))∧(t.put (cg t.mask h N).j).2≤es.size∧(insertAt es (t.put (cg t.mask h N).j).2 (h,x)).size=es.size+1:=by
 obtain⟨p,fb,bR,r2,dz,_⟩:=U3 I.tab h1 (Il _ _ _);have hsz:(insertAt es p (h,x)).size=es.size+1:=by
  have:(insertAt es p (h,x)).toList.length=es.size+1:=by rw[vR,List.length_append,List.length_cons,List.length_take,List.length_drop,Array.length_toList];omega
  simpa using this
 rw[fb];have mA:∀y∈t.place.toList,y∈(t.put (cg t.mask h N).j).1.place.toList:=fun y bJ=>by
  rw[dz];rw[←List.take_append_drop p t.place.toList]at bJ;rcases List.mem_append.mp bJ with bJ|bJ
  ·exact List.mem_append_left _ bJ
  ·exact List.mem_append_right _ (List.mem_cons_of_mem _ bJ)
 refine⟨⟨by rw[hsz];exact r2,I.D3,by rw[hsz];exact hr,fun j e he=>?_⟩,bR,hsz⟩;rcases NK I.len bR dz he with⟨rfl,rfl⟩|he
 ·exact⟨N,rfl,fun m hm=>mA _ (h2 m hm)⟩
 ·obtain⟨n,c8,c0⟩:=I.find j e he;exact⟨n,c8,fun m hm=>mA _ (c0 m hm)⟩
end
theorem IZ(mask:Nat)(h:Int):∀L m,m<aX mask h L→∃fv r,fv<L∧r≤dO mask (dh mask h fv).1∧m=aX mask h fv+r
 |0,m,hm=>by simp[aX]at hm
 |L+1,m,hm=>by
  by_cases q:m<aX mask h L
  ·obtain⟨fv,r,a,b,c⟩:=IZ mask h L m q;exact⟨fv,r,by omega,b,c⟩
  ·unfold aX at hm;exact⟨L,m-aX mask h L,by omega,by omega,by omega⟩
structure Own(M:Nat)(owner:Array (Option Nat))(a:List Nat):Prop where
 lT:owner.size=M+1
 bj:a.Nodup
 le:∀j∈a,j≤M
 of:∀j k:Nat,owner[j]?=some (some k)↔a[k]?=some j
theorem Own.free{M:Nat}{owner:Array (Option Nat)}{a:List Nat}(O:Own M owner a){j:Nat}(cv:j≤M):(owner.getD j (some 0)).isNone=true↔j∉a:=by
 have hs:j<owner.size:=by have:=O.lT;omega
 rw[Array.getD_eq_getD_getElem?,Array.getElem?_eq_getElem hs];constructor
 ·intro h m;obtain⟨k,hk,rfl⟩:=List.getElem_of_mem m;have:=(O.of _ k).mpr (List.getElem?_eq_getElem hk);rw[Array.getElem?_eq_getElem hs]at this;simp only[Option.getD_some]at h;rw[Option.some.inj this]at h;cases h
 ·intro h;simp only[Option.getD_some];cases e:owner[j]with
  |none=>rfl
  |some k=>exfalso;have:=(O.of j k).mp (by rw[Array.getElem?_eq_getElem hs,e]);exact h (List.mem_of_getElem? this)
theorem FA{M:Nat}{owner:Array (Option Nat)}{a:List Nat}(O:Own M owner a)(h:Int):∀fuel L,(∃iV,L≤iV∧iV<L+fuel∧(dh M h iV).1∉a)→
  ∃fv k,layClean.free M owner fuel (dh M h L).1 (dh M h L).2=some ((dh M h fv).1+k)∧k≤dO M (dh M h fv).1∧(dh M h fv).1+k∉a∧L≤fv∧(∀lh,L≤lh→lh<fv→∀r,r≤dO M (dh M h lh).1→(dh M h lh).1+r∈a)∧∀r,r<k→(dh M h fv).1+r∈a
 |0,L,⟨iV,h1,h2,_⟩=>by omega
 |fuel+1,L,⟨iV,h1,h2,h3⟩=>by
  unfold layClean.free;have hle:=Ab M h L;have aaj:=AO hle;have aab:=AM M (dh M h L).1;cases hf:(List.range (runEnd M (dh M h L).1+1-(dh M h L).1)).find? fun k=>(owner.getD ((dh M h L).1+k) (some 0)).isNone with
  |some k=>
   dsimp only;obtain⟨aM,as,bs,a_,c_⟩:=List.find?_eq_some_iff_append.mp hf;have hk:k∈List.range (runEnd M (dh M h L).1+1-(dh M h L).1):=by rw[a_];simp
   have hk:=List.mem_range.mp hk;refine⟨L,k,rfl,by unfold dO;omega,(O.free (by omega)).mp aM,Nat.le_refl _,fun lh c d=>by omega,fun r hr=>?_⟩;have:r∈as:=by
    have er:as.length=k:=by
     have:=congrArg (·[as.length]?) a_;simp only[List.getElem?_append_right (Nat.le_refl _),Nat.sub_self,List.getElem?_cons_zero]at this;have l:as.length<runEnd M (dh M h L).1+1-(dh M h L).1:=by have:=congrArg List.length a_;simp at this;omega
     rw[List.getElem?_range l]at this;exact Option.some.inj this
    have:=congrArg (·[r]?) a_;rw[List.getElem?_append_left (by omega),List.getElem?_range (by omega)]at this;exact List.mem_of_getElem? this.symm
   have no:=c_ r this;apply Classical.byContradiction;intro z;rw[(O.free (by omega)).mpr z]at no;simp at no
  |none=>
   dsimp only;have all:∀r,r≤dO M (dh M h L).1→(dh M h L).1+r∈a:=fun r hr=>by have:=List.find?_eq_none.mp hf r (List.mem_range.mpr (by unfold dO at hr;omega));apply Classical.byContradiction;intro z;exact this ((O.free (by unfold dO at hr;omega)).mpr z)
   have ne:L≠iV:=by rintro rfl;exact h3 (by simpa using all 0 (Nat.zero_le _))
   obtain⟨fv,k,a1,a2,fg,iY,jX,jY⟩:=FA O h fuel (L+1) ⟨iV,by omega,by omega,h3⟩;refine⟨fv,k,a1,a2,fg,by omega,fun lh c d=>?_,jY⟩;rcases Nat.eq_or_lt_of_le c with rfl|c
   ·exact all
   ·exact jX lh c d
theorem Of{M:Nat}(C:gz M){owner:Array (Option Nat)}{a:List Nat}(O:Own M owner a)(hl:a.length≤M)(h:Int):∃N,layClean.free M owner (turns M) (bits h%(M+1)) (bits h)=some (cg M h N).j∧(cg M h N).j∉a∧∀m,m<N→(cg M h m).j∈a:=by
 have:∃j,j≤M∧j∉a:=by
  apply Classical.byContradiction;intro no;have all:∀j,j≤M→j∈a:=fun j cv=>Classical.byContradiction fun z=>no ⟨j,cv,z⟩;have key:∀(l:List Nat),l.Nodup→∀(P:List Nat),(∀x∈l,x∈P)→l.length≤P.length:=by
   intro l;induction l with
   |nil=>intro _ P _;simp
   |cons a r bW=>intro bj P sub;obtain⟨c8,c0⟩:=List.nodup_cons.mp bj;have ha:=sub a (by simp);have:=bW c0 (P.erase a) (fun x hx=>(List.mem_erase_of_ne (by intro e;subst e;exact c8 hx)).mpr (sub x (by simp[hx])));rw[List.length_erase_of_mem ha]at this;have:0<P.length:=List.length_pos_of_mem ha;simp;omega
  have:=key (List.range (M+1)) List.nodup_range a (fun x hx=>all x (by have:=List.mem_range.mp hx;omega));simp at this;omega
 obtain⟨j,pz,nO⟩:=this;obtain⟨iV,dA,cf⟩:=C.leap h pz;obtain⟨fv,k,a1,a2,fg,iY,jX,jY⟩:=FA O h (turns M) 0 ⟨iV,Nat.zero_le _,by unfold turns;omega,by rw[cf];exact nO⟩;have e:=rp M h fv k a2;refine⟨aX M h fv+k,by rw[e];exact a1,by rw[e];exact fg,fun m hm=>?_⟩;by_cases q:m<aX M h fv
 ·obtain⟨lh,r,ei,dj,oY⟩:=IZ M h fv m q;rw[oY,rp M h lh r dj];exact jX lh (Nat.zero_le _) ei r dj
 ·obtain⟨r,rfl⟩:∃r,m=aX M h fv+r:=⟨m-aX M h fv,by omega⟩;rw[rp M h fv r (by omega)];exact jY r (by omega)
noncomputable def w7(M:Nat)(acc:Option (Array (Option Nat)×Nat))(h:Int):Option (Array (Option Nat)×Nat):=do
 let(owner,k) ←acc
 let j ←layClean.free M owner (turns M) (bits h%(M+1)) (bits h)
 pure (owner.setIfInBounds j (some k),k+1)
theorem R5(M:Nat)(hs:Array Int):layClean M hs=(hs.toList.foldl (w7 M) (some (Array.replicate (M+1) none,0))).map (·.1):=by unfold layClean;rw[←Array.foldl_toList];rfl
structure Laid(M:Nat)(hs:List Int)(a:List Nat):Prop where
 len:a.length=hs.length
 find:∀(k:Nat) j h,a[k]?=some j→hs[k]?=some h→∃n,(cg M h n).j=j∧∀m,m<n→(cg M h m).j∈a
theorem Own.add{M:Nat}{owner:Array (Option Nat)}{a:List Nat}(O:Own M owner a){j:Nat}(cv:j≤M)(aE:j∉a):Own M (owner.setIfInBounds j (some a.length)) (a++[j]):=by
 have hs:j<owner.size:=by have:=O.lT;omega
 refine⟨by simp[O.lT],?_,?_,fun i k=>?_⟩
 ·refine List.nodup_append.mpr ⟨O.bj,by simp,fun x hx y bJ=>?_⟩;simp at bJ;subst bJ;intro e;subst e;exact aE hx
 ·intro i hi;rcases List.mem_append.mp hi with hi|hi
  ·exact O.le i hi
  ·simp at hi;omega
 ·rw[Array.getElem?_setIfInBounds];by_cases q:j=i
  ·subst q;rw[if_pos rfl,if_pos hs];constructor
   ·intro e;have e:=Option.some.inj (Option.some.inj e);subst e;rw[List.getElem?_append_right (Nat.le_refl _)];simp
   ·intro e;rcases Nat.lt_trichotomy k a.length with w|w|w
    ·rw[List.getElem?_append_left w]at e;exact absurd (List.mem_of_getElem? e) aE
    ·rw[w]
    ·rw[List.getElem?_eq_none (by simp;omega)]at e;cases e
  ·rw[if_neg q,O.of i k];rcases Nat.lt_trichotomy k a.length with w|w|w
   ·rw[List.getElem?_append_left w]
   ·subst w;rw[List.getElem?_append_right (Nat.le_refl _),List.getElem?_eq_none (Nat.le_refl _)];simp;exact q
   ·rw[List.getElem?_eq_none (by omega),List.getElem?_eq_none (by simp;omega)]
theorem Fv{M:Nat}(C:gz M):∀(hs done:List Int)(owner:Array (Option Nat))(a:List Nat),Own M owner a→Laid M done a→done.length+hs.length≤M→
  ∃wJ mh,hs.foldl (w7 M) (some (owner,a.length))=some (wJ,mh.length)∧Own M wJ mh∧Laid M (done++hs) mh
 |[],done,owner,a,O,L,_=>⟨owner,a,rfl,O,by simpa using L⟩
 |h::hs,done,owner,a,O,L,hl=>by
  simp only[List.length_cons]at hl;obtain⟨N,f1,f2,e_⟩:=Of C O (by rw[L.len];omega) h;have rX:=O.add (Il M h N) f2;have fv:Laid M (done++[h]) (a++[(cg M h N).j]):=by
   refine⟨by simp[L.len],fun k j g h1 h2=>?_⟩;rcases Nat.lt_trichotomy k a.length with w|w|w
   ·rw[List.getElem?_append_left w]at h1;rw[List.getElem?_append_left (by rw[←L.len];exact w)]at h2;obtain⟨n,c8,c0⟩:=L.find k j g h1 h2;exact⟨n,c8,fun m hm=>List.mem_append_left _ (c0 m hm)⟩
   ·subst w;rw[List.getElem?_append_right (Nat.le_refl _)]at h1;rw[L.len,List.getElem?_append_right (Nat.le_refl _)]at h2;simp at h1 h2;subst h1;subst h2;exact⟨N,rfl,fun m hm=>List.mem_append_left _ (e_ m hm)⟩
   ·rw[List.getElem?_eq_none (by simp;omega)]at h1;cases h1
  have step:w7 M (some (owner,a.length)) h=some (owner.setIfInBounds (cg M h N).j (some a.length),(a++[(cg M h N).j]).length):=by unfold w7;simp only[Option.bind_eq_bind,Option.bind_some,f1];simp
  obtain⟨wJ,mh,ar,a5,dN⟩:=Fv C hs (done++[h]) _ _ rX fv (by simp;omega);refine⟨wJ,mh,?_,a5,by simpa using dN⟩;rw[List.foldl_cons,step];exact ar
theorem R6{M:Nat}(C:gz M){hs:Array Int}(hl:hs.size≤M):∃owner a,layClean M hs=some owner∧Own M owner a∧Laid M hs.toList a:=by
 have O:Own M (Array.replicate (M+1) none) []:=⟨by simp,by simp,by simp,fun j k=>by
  rw[Array.getElem?_replicate]
  split<;>simp⟩
 obtain⟨owner,a,ar,a5,dN⟩:=Fv C hs.toList [] _ [] O ⟨rfl,by simp⟩ (by simpa using hl);refine⟨owner,a,?_,a5,by simpa using dN⟩;rw[R5];have:(List.length ([]:List Nat))=0:=rfl;rw[this]at ar;rw[ar];rfl
theorem Hv{l P:List Nat}(bj:l.Nodup)(sub:∀x∈l,x∈P):l.length≤P.length:=by
 induction l generalizing P with
 |nil=>simp
 |cons a r bW=>obtain⟨c8,c0⟩:=List.nodup_cons.mp bj;have ha:=sub a (by simp);have:=bW c0 (P:=P.erase a) (fun x hx=>(List.mem_erase_of_ne (by intro e;subst e;exact c8 hx)).mpr (sub x (by simp[hx])));rw[List.length_erase_of_mem ha]at this;have:0<P.length:=List.length_pos_of_mem ha;simp;omega
section
variable{α:Type}
theorem filterMap_get{es:List α}:∀{l:List Nat},(∀k∈l,k<es.length)→(l.filterMap (es[·]?)).length=l.length∧∀(i:Nat) e,(l.filterMap (es[·]?))[i]?=some e→∃k,l[i]?=some k∧es[k]?=some e
 |[],_=>⟨rfl,fun i e h=>by simp at h⟩
 |k::l,hk=>by
  have OX:k<es.length:=hk k (by simp);have h0:es[k]?=some es[k]:=List.getElem?_eq_getElem OX;obtain⟨a,b⟩:=filterMap_get (es:=es) (l:=l) fun x hx=>hk x (by simp[hx]);rw[List.filterMap_cons,h0];refine⟨by simp[a],fun i e h=>?_⟩;cases i with
  |zero=>simp at h;exact⟨k,rfl,by rw[h0,h]⟩
  |succ i=>simpa using b i e (by simpa using h)
theorem R0{M:Nat}(C:gz M){es:Array (Int×α)}(hl:es.size≤M)(finger moves:Nat)(led plain:Bool) :
  ∃t' order,laid M finger moves led plain (es.map (·.1))=some (t',order)∧t'.mask=M∧t'.led=led∧t'.plain=plain∧t'.moves=moves∧t'.dummies= #[]∧
   (order.filterMap (es[·]?)).size=es.size∧fG t' (order.filterMap (es[·]?))∧∀e,e∈(order.filterMap (es[·]?)).toList↔e∈es.toList:=by
 obtain⟨owner,a,bu,O,L⟩:=R6 C (hs:=es.map (·.1)) (by simpa using hl);have Sd:a.length=es.size:=by rw[L.len];simp
 have Tq:∀j,j≤M→∃x,owner[j]?=some x:=fun j cv=>⟨_,Array.getElem?_eq_getElem (by have:=O.lT;omega)⟩;obtain⟨live,y6⟩:∃live,live=(List.range (M+1)).filterMap fun j=>(owner.getD j none).map (j,·):=⟨_,rfl⟩;have mem:∀j k,(j,k)∈live↔a[k]?=some j:=by
  intro j k;rw[y6,List.mem_filterMap];constructor
  ·rintro⟨i,hi,e⟩;obtain⟨x,hx⟩:=Tq i (by have:=List.mem_range.mp hi;omega);rw[Array.getD_eq_getD_getElem?,hx,Option.getD_some]at e;cases x with
   |none=>cases e
   |some y=>simp at e;obtain⟨rfl,rfl⟩:=e;exact(O.of _ _).mp hx
  ·intro e;have cv:=O.le j (List.mem_of_getElem? e);refine⟨j,List.mem_range.mpr (by omega),?_⟩;rw[Array.getD_eq_getD_getElem?,(O.of j k).mpr e];rfl
 have rise:(live.map (·.1)).Pairwise (· <·):=by
  rw[y6,List.pairwise_map];refine List.Pairwise.filterMap _ (R:=(· <·)) ?_ (by simpa using List.pairwise_lt_range);intro i vO OU b hb fS ja;cases q:owner.getD i none with
  |none=>rw[q]at hb;simp at hb
  |some y=>
   cases cV:owner.getD vO none with
   |none=>rw[cV]at ja;simp at ja
   |some KU=>rw[q]at hb;rw[cV]at ja;simp at hb ja;subst hb;subst ja;exact OU
 have SR:(live.map (·.1)).Nodup:=rise.imp (fun h=>Nat.ne_of_lt h);have mD:live.length=es.size:=by
  apply Nat.le_antisymm
  ·have:=Hv SR (P:=a) (fun x hx=>by
     obtain⟨p,fb,rfl⟩:=List.mem_map.mp hx;exact List.mem_of_getElem? ((mem p.1 p.2).mp fb))
   simp at this;omega
  ·have:=Hv O.bj (P:=live.map (·.1)) (fun x hx=>by
     obtain⟨k,hk,rfl⟩:=List.getElem_of_mem hx;exact List.mem_map.mpr ⟨(a[k],k),(mem _ _).mpr (List.getElem?_eq_getElem hk),rfl⟩)
   simp at this;omega
 have TQ:∀k∈live.map (·.2),k<es.toList.length:=fun k hk=>by obtain⟨p,fb,rfl⟩:=List.mem_map.mp hk;have:=(List.getElem?_eq_some_iff.mp ((mem p.1 p.2).mp fb)).1;simp;omega
 have zk:((live.map (·.2)).toArray.filterMap (es[·]?)).toList=(live.map (·.2)).filterMap (es.toList[·]?):=by rw[Array.toList_filterMap];simp
 obtain⟨g1,g2⟩:=filterMap_get TQ;have hsz:((live.map (·.2)).toArray.filterMap (es[·]?)).size=es.size:=by
  have:((live.map (·.2)).toArray.filterMap (es[·]?)).toList.length=es.size:=by rw[zk,g1];simp[mD]
  simpa using this
 refine⟨_,_,by
  unfold laid;rw[bu];show some _=_;rw[←y6],rfl,rfl,rfl,rfl,rfl,hsz,⟨⟨rfl,?_,?_,?_⟩,C,by rw[hsz];exact hl,?_⟩,fun e=>?_⟩
 ·rw[hsz];simp[mD]
 ·simpa using rise
 ·intro j cv;have cv:j∈live.map (·.1):=by simpa using cv
  obtain⟨p,fb,rfl⟩:=List.mem_map.mp cv;exact O.le _ (List.mem_of_getElem? ((mem p.1 p.2).mp fb))
 ·rintro j e ⟨i,h1,h2⟩;have h1:(live.map (·.1))[i]?=some j:=by simpa using h1
  rw[zk]at h2;obtain⟨k,k1,k2⟩:=g2 i e h2;have hk:live[i]?=some (j,k):=by
   rw[List.getElem?_map]at h1 k1;cases q:live[i]? with
   |none=>rw[q]at h1;cases h1
   |some p=>rw[q]at h1 k1;simp at h1 k1;rw[←h1,←k1]
  have hk:=(mem j k).mp (List.mem_of_getElem? hk);obtain⟨n,c8,c0⟩:=L.find k j e.1 hk (by simp at k2 ⊢;exact⟨_,k2⟩);refine⟨n,c8,fun m hm=>?_⟩;have:=c0 m hm;obtain⟨k',jw,b3⟩:=List.getElem_of_mem this;have:(cg M e.1 m).j∈live.map (·.1):=List.mem_map.mpr ⟨((cg M e.1 m).j,k'),(mem _ _).mpr (by rw[←b3];exact List.getElem?_eq_getElem jw),rfl⟩;simpa using this
 ·rw[zk,List.mem_filterMap];constructor
  ·rintro⟨k,_,q⟩;exact List.mem_of_getElem? q
  ·intro q;obtain⟨k,hk,rfl⟩:=List.getElem_of_mem q;refine⟨k,?_,List.getElem?_eq_getElem hk⟩;have OZ:k<a.length:=by rw[Sd];simpa using hk
   exact List.mem_map.mpr ⟨(a[k],k),(mem _ _).mpr (List.getElem?_eq_getElem OZ),rfl⟩
end
section
variable{prog:Program}{w:World}{A:Around}{E:Value→Shared→Prop}{s:Shared}{K:Type}[DecidableEq K]{knd:KeyKind prog w K}
theorem Hx{aD:List K}{a:Addr}{n:Nat}{Q:Bool→Shared→Prop}(hk:IsTupleKey knd s.heap aD a)(h:Q false s):wpAny (model prog w) A (ofAClassStatement (n+1) (.ref a)) Q E s:=by
 have gk:=hk.typeIs;obtain⟨o,items,m,ho,_,hd,hi⟩:=hk;unfold ofAClassStatement;refine wpAny_bind (wpAny_typeOf gk ?_);dsimp only;rw[if_pos (by rfl)];refine wpAny_bind (wpAny_pure ?_);simp only[Bool.not_true,Bool.false_eq_true,if_false];refine wpAny_bind (wpAny_seqItems ho hd ?_);dsimp only;refine wpAny_bind ?_;rw[←Array.forIn_toList];refine wpAny_forIn_list _ (fun rest r s'=>r.1=none∧s'=s∧∀v∈rest,carriedByValue v=true) _ ?_ ?_ _ _ ⟨rfl,rfl,hi.byValue⟩
 ·rintro v rest r s' ⟨hr,rfl,al⟩;have e:ofAClassStatement n v=pure false:=by
   have:=al v List.mem_cons_self;cases v<;>first|(simp[carriedByValue]at this;done)|(unfold ofAClassStatement;rfl)
  rw[e];refine wpAny_bind (wpAny_pure ?_);simp only[Bool.false_eq_true,if_false];exact wpAny_pure ⟨rfl,rfl,fun u hu=>al u (List.mem_cons_of_mem _ hu)⟩
 ·rintro⟨ar,a5⟩ s' ⟨hr,rfl,_⟩;simp only at hr;subst hr;exact wpAny_pure h
theorem LW{aD:List K}{a:Addr}{Q:Bool→Shared→Prop}(hk:IsTupleKey knd s.heap aD a)(h:∀b,Q b s):wpAny (model prog w) A (hashByValue 8 (.ref a)) Q E s:=by
 have gk:=hk.typeIs;obtain⟨o,items,m,ho,_,hd,hi⟩:=hk;unfold hashByValue;refine wpAny_bind (wpAny_specialOf gk F.slot_tuple_hash.lookup ?_);dsimp only;refine wpAny_bind (wpAny_seqItems ho hd ?_);simp only[Option.getD_some];refine wpAny_bind ?_;rw[←Array.forIn_toList];refine wpAny_forIn_list _ (fun rest r s'=>r.1=none∧s'=s∧∀v∈rest,carriedByValue v=true) _ ?_ ?_ _ _ ⟨rfl,rfl,hi.byValue⟩
 ·rintro v rest r s' ⟨hr,rfl,al⟩;have e:∃b,hashByValue 7 v=pure b:=by
   have:=al v List.mem_cons_self;cases v<;>first|(simp[carriedByValue]at this;done)|(unfold hashByValue;exact⟨_,rfl⟩)
  obtain⟨b,e⟩:=e;rw[e];refine wpAny_bind (wpAny_pure ?_);cases b with
  |true=>exact wpAny_pure ⟨rfl,rfl,fun u hu=>al u (List.mem_cons_of_mem _ hu)⟩
  |false=>exact wpAny_pure (wpAny_pure (h _))
 ·rintro⟨ar,a5⟩ s' ⟨hr,rfl,_⟩;simp only at hr;subst hr;exact wpAny_pure (h _)
structure rO(knd:KeyKind prog w K)(h:Heap)(es:List (Int×Value)):Prop where
 el:∀e∈es,∃aD b,e.2=.ref b∧IsTupleKey knd h aD b∧e.1=tupleKeyHash knd aD
noncomputable def ux(knd:KeyKind prog w K)(h:Heap)(es:List (Int×Value))(aD:List K):Prop:=∃e∈es,∃b,e.2=.ref b∧IsTupleKey knd h aD b
theorem S5{aD:List K}{x:Addr}(hx:IsTupleKey knd s.heap aD x):∀(l:List Value),(∀y∈l,∃kM b,y=.ref b∧IsTupleKey knd s.heap kM b)→∀{Q:Bool→Shared→Prop},Q false s→wpAny (model prog w) A (searchCouldBeSeen (.ref x) l) Q E s:=by
 intro l hl Q h;unfold searchCouldBeSeen;refine wpAny_bind ?_;refine wpAny_forIn_list _ (fun rest r s'=>r.1=none∧s'=s∧∀y∈rest,∃kM b,y=.ref b∧IsTupleKey knd s.heap kM b) _ ?_ ?_ _ _ ⟨rfl,rfl,hl⟩
 ·rintro v rest r s' ⟨hr,rfl,al⟩;obtain⟨kM,b,rfl,hb⟩:=al v List.mem_cons_self;have Dc:=fun u(hu:u∈rest)=>al u (List.mem_cons_of_mem _ hu);dsimp only;by_cases q:(x==b)=true
  ·rw[if_pos (by simp[q])];exact wpAny_pure ⟨rfl,rfl,Dc⟩
  ·rw[if_neg (by simp[carriedByValue];simpa using q)];refine wpAny_bind (wpAny_eqIsQuiet_tuple hx ?_);simp only[Bool.not_true,Bool.false_eq_true,if_false];refine wpAny_bind (wpAny_eqIsQuiet_tuple hb ?_);simp only[Bool.not_true,Bool.false_eq_true,if_false];refine wpAny_bind (Hx hx ?_);simp only[Bool.false_eq_true,if_false];refine wpAny_bind (Hx hb ?_);simp only[Bool.false_eq_true,if_false];exact wpAny_pure ⟨rfl,rfl,Dc⟩
 ·rintro⟨ar,a5⟩ s' ⟨hr,rfl,_⟩;simp only at hr;subst hr;exact wpAny_pure h
end
section
variable{prog:Program}{w:World}{A:Around}{E:Value→Shared→Prop}{s:Shared}{K:Type}[DecidableEq K]{knd:KeyKind prog w K}
theorem rO.at{h:Heap}{t:SetTable}{es:Array (Int×Value)}(X:rO knd h es.toList){j:Nat}{e:Int×Value}(q:gN t es j e):∃aD b,e.2=.ref b∧IsTupleKey knd h aD b∧e.1=tupleKeyHash knd aD:=by obtain⟨i,_,q⟩:=q;exact X.el e (List.mem_of_getElem? q)
theorem fG.fits{t:SetTable}{es:Array (Int×Value)}(I:fG t es):t.fits es.size=true:=by unfold SetTable.fits SetTable.fill;rw[I.tab.se,I.tab.lT];have:=I.room;simp;omega
theorem fG.mem{t:SetTable}{es:Array (Int×Value)}(I:fG t es){e:Int×Value}(m:e∈es.toList):∃j,gN t es j e:=by
 obtain⟨i,hi,rfl⟩:=List.getElem_of_mem m;have:i<t.place.toList.length:=by rw[I.len];simpa using hi
 exact⟨_,i,List.getElem?_eq_getElem this,List.getElem?_eq_getElem hi⟩
theorem gN.place{t:SetTable}{es:Array (Int×Value)}{j:Nat}{e:Int×Value}(q:gN t es j e):j∈t.place.toList:=by obtain⟨i,q,_⟩:=q;exact List.mem_of_getElem? q
theorem fG.TB{t:SetTable}{es:Array (Int×Value)}(I:fG t es)(X:rO knd s.heap es.toList){aD:List K}{N:Nat}(h1:(cg t.mask (tupleKeyHash knd aD) N).j∉t.place.toList)(hh:ux knd s.heap es.toList aD) :
  ∃m e b,m<N∧gN t es (cg t.mask (tupleKeyHash knd aD) m).j e∧e.1=tupleKeyHash knd aD∧e.2=.ref b∧IsTupleKey knd s.heap aD b:=by
 obtain⟨e,eT,b,a7,gG⟩:=hh;obtain⟨j,q⟩:=I.mem eT;obtain⟨kM,fS,ak,k1,ay⟩:=X.el e eT;rw[a7]at ak;cases ak;have:=gG.inj k1;subst this;obtain⟨n,c8,c0⟩:=I.find j e q;rw[ay]at c8 c0;refine⟨n,e,b,?_,by rw[c8];exact q,ay,a7,gG⟩;rcases Nat.lt_trichotomy n N with z|z|z
 ·exact z
 ·subst z;exact absurd (by rw[c8];exact q.place) h1
 ·exact absurd (c0 N z) h1
theorem IY{a x:Addr}{o:Obj}{cH:Nat}{t:SetTable}{es:Array (Int×Value)}{aD:List K}(hu:A.units<cLine)(ho:s.heap.get? a=some o)(hd:o.data=.set es cH t)(I:fG t es)(X:rO knd s.heap es.toList)(hx:IsTupleKey knd s.heap aD x)(wF:t.mask%2=1){N:Nat}(hN:N<10*turns t.mask)(h1:(cg t.mask (tupleKeyHash knd aD) N).j∉t.place.toList)(h2:∀m,m<N→(cg t.mask (tupleKeyHash knd aD) m).j∈t.place.toList){Q:SetFound→Shared→Prop}(yes:ux knd s.heap es.toList aD→Q (.there none) s)(no:¬ux knd s.heap es.toList aD→Q (.free (cg t.mask (tupleKeyHash knd aD) N).j false) s) :
  ∀(fuel n:Nat)(st:Option Probe),n≤N→N-n<fuel→st.getD (t.probeStart (tupleKeyHash knd aD))=cg t.mask (tupleKeyHash knd aD) n→
   (∀m,m<n→∀e,gN t es (cg t.mask (tupleKeyHash knd aD) m).j e→∀b,e.2=.ref b→¬IsTupleKey knd s.heap aD b)→
   wpAny (model prog w) A (setSearchFrom a (.ref x) (tupleKeyHash knd aD) true fuel st) Q E s
 |0,n,_,_,z,_,_=>by omega
 |fuel+1,n,st,aE,hf,hst,lE=>by
  unfold setSearchFrom;refine wpAny_bind (wpAny_setState_of ho hd I.fits ?_);dsimp only;rw[if_neg (by unfold SetTable.gaveWay;simp[wF])];rw[hst];unfold SetTable.probe;have G:=Ib I (f:=fun i=>(es[i]?.map (·.1)).getD 0) (fun i e q=>by simp at q;simp[q]) (tupleKeyHash knd aD) h1 h2 (10*turns t.mask) n aE (by omega);generalize bq:probe.go t _ (tupleKeyHash knd aD) (10*turns t.mask) (cg t.mask (tupleKeyHash knd aD) n)=z;rcases G with⟨g,g2⟩|⟨m,i,e,m1,m2,Ad,Ae,aaC,g,g2⟩
  ·have g:=bq.symm.trans g;subst g;dsimp only;refine wpAny_pure (no fun hh=>?_);obtain⟨m,e,b,m1,q,a_,c_,hL⟩:=I.TB X h1 hh;by_cases z:m<n
   ·exact lE m z e q b c_ hL
   ·exact g2 m (by omega) m1 e q a_
  ·have g:=bq.symm.trans g;subst g;dsimp only;have En:gN t es (cg t.mask (tupleKeyHash knd aD) m).j e:=⟨i,Ad,Ae⟩;obtain⟨kM,b,a7,gG,_⟩:=X.at En;have jt:es[i]?=some (e.1,.ref b):=by
    have:es[i]?=some e:=by simpa using Ae
    rw[this,←a7]
   have cw:t.slot (cg t.mask (tupleKeyHash knd aD) m).j=.live i:=by obtain⟨vO,s1,s2⟩:=I8 I.tab (List.mem_of_getElem? Ad);rw[s1,H7 I.tab s2 Ad]
   have seen:∀y∈(Array.filter (fun z:Int×Value=>z.1==tupleKeyHash knd aD) es).toList.map (·.2),∃kM b,y=.ref b∧IsTupleKey knd s.heap kM b:=fun y bJ=>by
    obtain⟨e,he,rfl⟩:=List.mem_map.mp bJ;have he:e∈es.toList:=by simp at he;simpa using he.1
    obtain⟨k2,dj,bu,c5,eM⟩:=X.el e he;exact⟨k2,dj,bu,c5⟩
   cases hl:t.led
   all_goals first
    |rw[if_neg (show¬((!true)=true)by simp)]
    |(rw[if_pos (show(!false)=true from rfl)];refine wpAny_bind (S5 hx _ seen ?_);rw[if_neg (show¬(false=true)by simp)])
   all_goals
    rw[jt];dsimp only;refine wpAny_bind (wpAny_holding (wpAny_eqBool_tuple hu gG hx ?_));refine wpAny_bind (wpAny_setState_of ho hd I.fits ?_);dsimp only;by_cases q:kM=aD
    ·subst q;rw[if_pos (by simp)];exact wpAny_pure (yes ⟨e,List.mem_of_getElem? Ae,b,a7,gG⟩)
    ·rw[if_neg (by simp[q])];have NQ:t.sameMemory t.moves t.mask=some true:=by unfold SetTable.sameMemory;simp
     rw[NQ];dsimp only;rw[if_pos rfl,cw];dsimp only;rw[jt];dsimp only;refine wpAny_bind (wpAny_isSame_ref_self ?_);rw[if_pos rfl];refine wpAny_bind (wpAny_pure ?_);dsimp only;rw[if_neg (by simp[q])];refine IY hu ho hd I X hx wF hN h1 h2 yes no fuel (m+1) _ (by omega) (by omega) rfl fun cR hm b3 he fS vj z1=>?_;have key:∀e:Int×Value,gN t es (cg t.mask (tupleKeyHash knd aD) cR).j e→e.2=.ref fS→e.1=tupleKeyHash knd aD:=fun e he a7=>by obtain⟨k2,dj,bu,c5,eM⟩:=X.at he;rw[a7]at bu;cases bu;rw[eM,c5.inj z1]
     by_cases z:cR<n
     ·exact lE cR z b3 he fS vj z1
     ·by_cases aZ:cR<m
      ·exact g2 cR (by omega) aZ b3 he (key b3 he vj)
      ·have:cR=m:=by omega
       subst this;have:=gN.inj I.tab he En;subst this;rw[a7]at vj;cases vj;exact q (gG.inj z1)
end
section
variable{prog:Program}{w:World}{A:Around}{E:Value→Shared→Prop}{s:Shared}{K:Type}[DecidableEq K]{knd:KeyKind prog w K}
def uE(mask n:Nat):Prop:=(mask=7∧n<5)∨(mask=31∧n<19)∨(mask=127∧n<77)
theorem Mj{mask n:Nat}(h:uE mask n):gz mask∧mask%2=1:=by
 rcases h with⟨rfl,_⟩|⟨rfl,_⟩|⟨rfl,_⟩
 ·exact⟨D6,rfl⟩
 ·exact⟨D5,rfl⟩
 ·exact⟨D4,rfl⟩
structure iD(knd:KeyKind prog w K)(ok:Addr→Prop)(h:Heap)(a:Addr)(S:List (List K)):Prop where
 ex:∃o es cH t,h.get? a=some o∧o.ExactSet∧o.data=.set es cH t∧fG t es∧rO knd h es.toList∧(∀aD,ux knd h es.toList aD↔aD∈S)∧es.size=S.length∧uE t.mask es.size∧∀e∈es.toList,∀b,e.2=.ref b→ok b
theorem v3{h h':Heap}{a b:Addr}{o:Obj}{aD:List K}{es:Array (Int×Value)}{cH:Nat}{t:SetTable}(ho:h.get? a=some o)(hd:o.data=.set es cH t)(eO:Heap.SameBut a h h')(x:IsTupleKey knd h aD b):IsTupleKey knd h' aD b:=by
 obtain⟨bz,items,n,ho',hc,jb,hi⟩:=x;have nF:b≠a:=by rintro rfl;rw[ho]at ho';cases ho';rw[hd]at jb;cases jb
 exact⟨bz,items,n,(eO.2 b nF).trans ho',hc,jb,hi⟩
theorem Rf{h h':Heap}{a b:Addr}{o:Obj}{aD:List K}{es:Array (Int×Value)}{cH:Nat}{t:SetTable}(ho:h'.get? a=some o)(hd:o.data=.set es cH t)(eO:Heap.SameBut a h h')(x:IsTupleKey knd h' aD b):IsTupleKey knd h aD b:=by
 obtain⟨bz,items,n,ho',hc,jb,hi⟩:=x;have nF:b≠a:=by rintro rfl;rw[ho]at ho';cases ho';rw[hd]at jb;cases jb
 exact⟨bz,items,n,(eO.2 b nF).symm.trans ho',hc,jb,hi⟩
theorem FI{h:Heap}{a:Addr}{o:Obj}{es es':Array (Int×Value)}{cH:Nat}{t t':SetTable}(ho:h.get? a=some o)(hx:o.ExactSet)(hd:o.data=.set es cH t):∃bz,(h.update a (Obj.putSet es' t')).get? a=some bz∧bz.ExactSet∧bz.data=.set es' (cH+1) t':=by
 refine⟨_,Heap.get?_update_self _ ho (by rw[putSet_of es' t' hd];rfl),?_,?_⟩
 ·rw[putSet_of es' t' hd];exact hx
 ·rw[putSet_of es' t' hd]
theorem Hj{α:Type}{es:Array α}{p:Nat}{x e:α}:e∈(insertAt es p x).toList↔e=x∨e∈es.toList:=by
 rw[vR];constructor
 ·intro h;rcases List.mem_append.mp h with h|h
  ·exact .inr (List.mem_of_mem_take h)
  ·rcases List.mem_cons.mp h with h|h
   ·exact .inl h
   ·exact .inr (List.mem_of_mem_drop h)
 ·rintro(rfl|h)
  ·simp
  ·rw[←List.take_append_drop p es.toList]at h;rcases List.mem_append.mp h with h|h
   ·exact List.mem_append_left _ h
   ·exact List.mem_append_right _ (List.mem_cons_of_mem _ h)
theorem Vt{a:Addr}{o:Obj}{cH:Nat}{t:SetTable}{es:Array (Int×Value)}{M wanted:Nat}{Q:Unit→Shared→Prop}(ho:s.heap.get? a=some o)(hx:o.ExactSet)(hd:o.data=.set es cH t)(I:fG t es)(C:gz M)(hl:es.size≤M)(pk:SetTable.sizeAbove wanted=M+1)(hm:M≤127)(h:∀es' t' bz h',Heap.SameBut a s.heap h'→h'.get? a=some bz→bz.ExactSet→bz.data=.set es' (cH+1) t'→t'.mask=M→fG t' es'→es'.size=es.size→(∀e,e∈es'.toList↔e∈es.toList)→Q () { s with heap:=h' }) :
  wpAny (model prog w) A (setRelay a wanted) Q E s:=by
 unfold setRelay;refine wpAny_bind (wpAny_setState_of ho hd I.fits ?_);dsimp only;rw[if_neg (by rw[pk];show¬(M+1>sizeLine);rw[sizeLine_eq];omega)];obtain⟨t',order,ar,a5,dN,lQ,ob,AF,gX,oc,Va⟩:=R0 C hl t.finger (t.movedTo M) t.led t.plain;have e:t.relaid (es.map (·.1)) wanted=some (t',order):=by unfold SetTable.relaid;rw[pk];exact ar
 rw[e];have step:wpAny (model prog w) A (if((order.filterMap (es[·]?)).size !=es.size)=true then(do unsupported "internal:set-table-lost-an-element";pure (order.filterMap (es[·]?),t'))else pure (order.filterMap (es[·]?),t')) (fun r s'=>wpAny (model prog w) A (storeSet a r.1 r.2) Q E s') E s:=by rw[if_neg (by rw[gX];simp)];refine wpAny_pure ?_;obtain⟨bz,g1,g2,g3⟩:=FI (es':=order.filterMap (es[·]?)) (t':=t') ho hx hd;exact wpAny_storeSet_of ho hd (h _ t' bz _ (Heap.SameBut.update _ _ _) g1 g2 g3 a5 oc gX Va) (by rw[gX,sizeLine_eq];omega)
 exact wpAny_bind step
theorem Ln{ok:Addr→Prop}{a x:Addr}{S:List (List K)}{aD:List K}{Q:Bool→Shared→Prop}(hu:A.units<cLine)(T:iD knd ok s.heap a S)(hx:IsTupleKey knd s.heap aD x)(br:ok x)(iJ:S.length<76)(h:∀b h',Heap.SameBut a s.heap h'→iD knd ok h' a (if aD∈S then S else S++[aD])→Q b { s with heap:=h' }) :
  wpAny (model prog w) A (setAddHashed a (.ref x) (tupleKeyHash knd aD)) Q E s:=by
 obtain⟨o,es,cH,t,ho,hex,hd,I,X,hm,aE,hr,hk⟩:=T.ex;obtain⟨C,wF⟩:=Mj hr;obtain⟨N,Lc,uB,rV⟩:=I.first (tupleKeyHash knd aD);unfold setAddHashed setAddHashedIn;refine wpAny_holding (wpAny_bind (wpAny_setState_of ho hd I.fits ?_));dsimp only;rw[if_neg (by simp[byScan,Value.scannable])];unfold setSearch;refine wpAny_bind (IY hu ho hd I X hx wF Lc uB rV (fun yes=>?_) (fun no=>?_) 100000 0 none (Nat.zero_le _) ?_ rfl fun m hm=>absurd hm (Nat.not_lt_zero _))
 ·dsimp only;refine wpAny_pure ?_;have:=h false s.heap (Heap.SameBut.refl _ _) (by rw[if_pos ((hm aD).mp yes)];exact T);exact this
 ·dsimp only;refine wpAny_bind (wpAny_setState_of ho hd I.fits ?_);dsimp only;have bq:es.size+1≤t.mask:=by
   rcases hr with⟨e,_⟩|⟨e,_⟩|⟨e,_⟩<;>omega
  obtain⟨hT,fb,bR⟩:=I.put (x:=Value.ref x) uB rV bq;have Hs:aD∉S:=fun z=>no ((hm aD).mpr z)
  have fin:∀(t1:SetTable),t1.mask=t.mask→t1.place=(t.put (cg t.mask (tupleKeyHash knd aD) N).j).1.place→t1.dummies= #[]→
    wpAny (model prog w) A (do
     storeSet a (SetTable.insertAt es (t.put (cg t.mask (tupleKeyHash knd aD) N).j).2 (tupleKeyHash knd aD,Value.ref x)) t1
     if(!false&&t1.tooFull)=true then do
        setRelay a (SetTable.grown (es.size+1))
        pure true
      else pure true) Q E s:=by
   intro t1 ak ay b4;have aL:fG t1 (SetTable.insertAt es (t.put (cg t.mask (tupleKeyHash knd aD) N).j).2 (tupleKeyHash knd aD,Value.ref x)):=by obtain⟨⟨a1,a2,fg,iY⟩,b,c,d⟩:=hT;have em:(t.put (cg t.mask (tupleKeyHash knd aD) N).j).1.mask=t.mask:=rfl;rw[em]at iY b c d;refine⟨⟨b4,by rw[ay];exact a2,by rw[ay];exact fg,by rw[ay,ak];exact iY⟩,by rw[ak];exact b,by rw[ak];exact c,fun j e he=>?_⟩;rw[ak,ay];exact d j e (by obtain⟨i,bK,bQ⟩:=he;exact⟨i,by rw[←ay];exact bK,bQ⟩)
   obtain⟨cB,g1,g2,g3⟩:=FI (es':=SetTable.insertAt es (t.put (cg t.mask (tupleKeyHash knd aD) N).j).2 (tupleKeyHash knd aD,Value.ref x)) (t':=t1) ho hex hd;have IJ:=Heap.SameBut.update s.heap a (Obj.putSet (SetTable.insertAt es (t.put (cg t.mask (tupleKeyHash knd aD) N).j).2 (tupleKeyHash knd aD,Value.ref x)) t1);have done:∀(h':Heap)(es':Array (Int×Value))(t':SetTable)(bz:Obj)(pf:Nat),Heap.SameBut a s.heap h'→h'.get? a=some bz→bz.ExactSet→bz.data=.set es' pf t'→fG t' es'→es'.size=es.size+1→(∀e,e∈es'.toList↔e=(tupleKeyHash knd aD,Value.ref x)∨e∈es.toList)→uE t'.mask es'.size→Q true { s with heap:=h' }:=by
    intro h' es' t' bz pf eO aM a_ c_ hL jI kg il;refine h true h' eO ⟨bz,es',pf,t',aM,a_,c_,hL,⟨fun e he=>?_⟩,fun k2=>?_,?_,il,fun e he b a7=>?_⟩
    ·rcases(kg e).mp he with rfl|he
     ·exact⟨aD,x,rfl,v3 ho hd eO hx,rfl⟩
     ·obtain⟨k3,oY,bu,c5,eM⟩:=X.el e he;exact⟨k3,oY,bu,v3 ho hd eO c5,eM⟩
    ·rw[if_neg Hs,List.mem_append,←hm k2];constructor
     ·rintro⟨e,he,b,a7,gG⟩;have gG:=Rf aM c_ eO gG;rcases(kg e).mp he with rfl|he
      ·cases a7;exact .inr (by rw[gG.inj hx];simp)
      ·exact .inl ⟨e,he,b,a7,gG⟩
     ·rintro(⟨e,he,b,a7,gG⟩|z)
      ·exact⟨e,(kg e).mpr (.inr he),b,a7,v3 ho hd eO gG⟩
      ·simp at z;subst z;exact⟨_,(kg _).mpr (.inl rfl),x,rfl,v3 ho hd eO hx⟩
    ·rw[if_neg Hs,jI,aE];simp
    ·rcases(kg e).mp he with rfl|he
     ·cases a7;exact br
     ·exact hk e he b a7
   refine wpAny_bind (wpAny_storeSet_of ho hd ?_ (by rw[bR,sizeLine_eq];omega));have JO:t1.tooFull=decide ((es.size+1)*5≥t.mask*3):=by
    unfold SetTable.tooFull SetTable.fill;have:t1.place.size=es.size+1:=by have:=aL.tab.lT;rw[bR]at this;exact this
    rw[this,ak,b4];simp
   by_cases full:(es.size+1)*5≥t.mask*3
   ·rw[if_pos (by rw[JO];simpa using full)];have big:∃M,gz M∧SetTable.sizeAbove (SetTable.grown (es.size+1))=M+1∧M≤127∧es.size+1≤M∧uE M (es.size+1):=by
     rcases hr with⟨e,l⟩|⟨e,l⟩|⟨e,l⟩
     ·have:es.size=4:=by omega
      rw[this];exact⟨31,D5,by decide+kernel,by omega,by omega,.inr (.inl ⟨rfl,by omega⟩)⟩
     ·have:es.size=18:=by omega
      rw[this];exact⟨127,D4,by decide+kernel,by omega,by omega,.inr (.inr ⟨rfl,by omega⟩)⟩
     ·omega
    obtain⟨M,bu,c5,eM,i4,yQ⟩:=big;refine wpAny_bind (Vt g1 g2 g3 aL bu (by rw[bR];exact i4) c5 eM fun es' t' bz h' eO aM a_ c_ hL jI kg il=>wpAny_pure ?_);exact done h' es' t' bz _ (IJ.trans eO) aM a_ c_ jI (by rw[kg,bR]) (fun e=>by rw[il e,Hj]) (by rw[hL,kg,bR];exact yQ)
   ·rw[if_neg (by rw[JO];simpa using full)];refine wpAny_pure (done _ _ t1 cB _ IJ g1 g2 g3 aL bR (fun e=>Hj) ?_);rw[ak,bR];rcases hr with⟨e,l⟩|⟨e,l⟩|⟨e,l⟩
    ·exact .inl ⟨e,by omega⟩
    ·exact .inr (.inl ⟨e,by omega⟩)
    ·exact .inr (.inr ⟨e,by omega⟩)
  have dy:(t.put (cg t.mask (tupleKeyHash knd aD) N).j).1.dummies= #[]:=hT.tab.se
  split
  ·refine wpAny_bind (LW hx fun b=>?_);cases b
   ·exact fin _ rfl rfl dy
   ·exact fin _ rfl rfl dy
  ·refine wpAny_bind (wpAny_pure ?_);exact fin _ rfl rfl dy
 ·have:10*turns t.mask≤1420:=by
    rcases hr with⟨e,_⟩|⟨e,_⟩|⟨e,_⟩<;>rw[e]<;>decide
  omega
end
end eH
namespace eH
open PySem PySem.Spec PyProof.Rows
section
variable{prog:Program}{w:World}{K:Type}[DecidableEq K]{knd:PySem.KeyKind prog w K}
def j0(S:List (List K))(aD:List K):List (List K):=if aD∈S then S else S++[aD]
def h_(keys:List (List K)):List (List K):=keys.foldl j0 []
theorem D_(keys:List (List K)):(h_ keys).length≤keys.length:=by
 have:∀(l S:List (List K)),(l.foldl j0 S).length≤S.length+l.length:=by
  intro l;induction l with
  |nil=>intro S;simp
  |cons k l bW=>
   intro S;have:=bW (j0 S k);have h2:(j0 S k).length≤S.length+1:=by unfold j0;split<;>simp
   simp only[List.foldl_cons,List.length_cons];omega
 have:=this keys [];simpa[h_]using this
theorem Mw{keys:List (List K)}{i:Nat}{aD:List K}(h:keys[i]?=some aD):h_ (keys.take (i+1))=j0 (h_ (keys.take i)) aD:=by unfold h_;rw[List.take_add_one,h];simp[List.foldl_append]
section
variable{A:Around}{R:Result→Shared→Prop}{I:Addr}{aY wr:List Addr}{G:Array GenState→Array GenState→Prop}{n:Nat}{P:Nat→Value→Prop}{St:Nat→Shared→Prop}
noncomputable def rS(knd:PySem.KeyKind prog w K)(keys:List (List K))(P:Nat→Value→Prop)(no:List Addr)(h:Heap):Prop:=∀i v,P i v→∃b aD,v=.ref b∧b∉no∧keys[i]?=some aD∧IsTupleKey knd h aD b
theorem rS.but{keys:List (List K)}{no:List Addr}{h h':Heap}(k:rS knd keys P no h)(m:∀b o,b∉no→h.get? b=some o→h'.get? b=some o):rS knd keys P no h':=fun i v p=>by obtain⟨b,aD,e,nb,q,o,it,c,ho,r⟩:=k i v p;exact⟨b,aD,e,nb,q,o,it,c,m b o nb ho,r⟩
theorem iD.moved{ok:Addr→Prop}{h h':Heap}{S:Addr}{L:List (List K)}(T:iD knd ok h S L)(Sp:∀o,h.get? S=some o→h'.get? S=some o)(m:∀b o,ok b→h.get? b=some o→h'.get? b=some o):iD knd ok h' S L:=by
 obtain⟨o,es,cH,t,ho,hex,hd,Ld,X,hm,aE,hr,hb⟩:=T.ex;have aH:∀e∈es.toList,∀b aD,e.2=.ref b→(IsTupleKey knd h aD b↔IsTupleKey knd h' aD b):=fun e he b aD a7=>by
  have nb:=hb e he b a7;obtain⟨k2,dj,bu,⟨b9,it,c,g1,g2⟩,eM⟩:=X.el e he;rw[a7]at bu;cases bu;have FE:=m b b9 nb g1;constructor
  ·rintro⟨bz,sS,d8,aM,a_⟩;rw[g1]at aM;cases aM;exact⟨b9,sS,d8,FE,a_⟩
  ·rintro⟨bz,sS,d8,aM,a_⟩;rw[FE]at aM;cases aM;exact⟨b9,sS,d8,g1,a_⟩
 refine⟨o,es,cH,t,Sp o ho,hex,hd,Ld,⟨fun e he=>?_⟩,fun aD=>?_,aE,hr,hb⟩
 ·obtain⟨k2,dj,bu,c5,eM⟩:=X.el e he;exact⟨k2,dj,bu,(aH e he dj k2 bu).mp c5,eM⟩
 ·rw[←hm aD];constructor
  ·rintro⟨e,he,b,a7,gG⟩;exact⟨e,he,b,a7,(aH e he b aD a7).mpr gG⟩
  ·rintro⟨e,he,b,a7,gG⟩;exact⟨e,he,b,a7,(aH e he b aD a7).mp gG⟩
theorem Sf(W:WalksS prog w A.in1 I aY wr G n P St)(S:Addr)(vA:S∉aY)(keys:List (List K))(aE:keys.length=n)(hb:n<77)(hu:A.in1.units<cLine) :
  ∀(k i:Nat)(s:Shared),n-i=k→i≤n→St i s→rS knd keys P (S::wr) s.heap→iD knd (fun b=>b∉S::wr) s.heap S (h_ (keys.take i))→
   (∀s',Moved (S::wr) G s s'→iD knd (fun b=>b∉S::wr) s'.heap S (h_ keys)→R (.ok (.ret .none)) s')→
   codeAny (model prog w) A (.builtin "set.update.loop" ⟨[.ref S,.ref I],[]⟩) R s:=by
 have Ox:S∉wr:=fun h=>vA (W.sub _ h);have mA:∀b∈wr,b∈S::wr:=fun b hb=>List.mem_cons_of_mem _ hb;have keep:∀{s s':Shared}{L:List (List K)},Moved wr G s s'→iD knd (fun b=>b∉S::wr) s.heap S L→iD knd (fun b=>b∉S::wr) s'.heap S L:=fun m T=>
  T.moved (fun o e=>m.heap S o Ox e) fun b o nb e=>m.heap b o (fun z=>nb (mA b z)) e
 intro k;induction k with
 |zero=>
  intro i s hk hi hst G1 T hR;have e:i=n:=by omega
  subst e;refine codeAny_builtin F.entry_set_update_loop ?_;rw[Around.under_plainId F.plain_set_update_loop _];show wpAny _ A.in1 (pyNext (.ref I)>>=_) _ _ s;refine wpAny_bind (W.done s _ _ hst fun s' hm=>?_);show wpAny _ A.in1 (ret Value.none) _ _ s';rw[←aE,List.take_length]at T;exact wpAny_pure (hR s' (hm.mono mA) (keep hm T))
 |succ k bW=>
  intro i s hk hi hst G1 T hR;have gF:i<n:=by omega
  refine codeAny_builtin F.entry_set_update_loop ?_;rw[Around.under_plainId F.plain_set_update_loop _];show wpAny _ A.in1 (pyNext (.ref I)>>=_) _ _ s;refine wpAny_bind (W.item i s _ _ gF hst fun v s' dz Pu hm=>?_);have G2:rS knd keys P (S::wr) s'.heap:=G1.but fun b o nb e=>hm.heap b o (fun z=>nb (mA b z)) e;have r2:=keep hm T;obtain⟨b,aD,rfl,nb,er,gG⟩:=G2 i v dz;show wpAny _ A.in1 (holding [Value.ref b] (setAdd S (.ref b))>>=_) _ _ s';refine wpAny_bind (wpAny_holding ?_);unfold setAdd;refine wpAny_holding (wpAny_bind (wpAny_pyHash_tuple hu gG ?_));have room:(h_ (keys.take i)).length<76:=by have:=D_ (keys.take i);rw[List.length_take]at this;omega
  refine Ln (s:={ s' with toks:=s'.toks+(aD.length+1) }) hu r2 gG nb room fun c h' eO Le=>?_;have Lf:iD knd (fun b=>b∉S::wr) h' S (h_ (keys.take (i+1))):=by rw[Mw er];exact Le
  have vo:∀fS o,fS∉S::wr→s'.heap.get? fS=some o→h'.get? fS=some o:=fun fS o SP e=>by rw[eO.2 fS (fun z=>SP (by rw[z];exact List.mem_cons_self))];exact e
  refine wpAny_pure ⟨plainId_quiet F.plain_set_update_loop _,bW (i+1) _ (by omega) gF (W.frame _ s' _ _ Pu (Nat.le_add_right _ _) fun fS ja o e=>?_) (G2.but vo) Lf fun hO O8 Ow=>?_⟩
  ·rw[eO.2 fS (fun h:fS=S=>vA (by rw[←h];exact ja))];exact e
  ·refine hR hO (Moved.trans W.gtrans ((hm.mono mA).then_heap (Nat.le_add_right _ _) fun fS o ja e=>?_) O8) Ow;rw[eO.2 fS (fun h:fS=S=>ja (by rw[h];exact List.mem_cons_self))];exact e
end
end
section
variable{prog:Program}{w:World}{A:Around}{E:Value→Shared→Prop}{s:Shared}{K:Type}[DecidableEq K]{knd:PySem.KeyKind prog w K}
def kh(led:Bool):Obj:={ cls:=.type "set",dict:=none,data:=.set #[] 0 (.fresh 0 0 led) }
theorem iD.new{ok:Addr→Prop}{h:Heap}{S:Addr}{led:Bool}(e:h.get? S=some (kh led)):iD knd ok h S []:=
 ⟨_,#[],0,_,e,⟨rfl,rfl,rfl⟩,rfl,⟨⟨rfl,rfl,by simp[SetTable.fresh],by simp[SetTable.fresh]⟩,D6,Nat.zero_le _,fun j e he=>by obtain⟨i,_,q⟩:=he;simp at q⟩,⟨fun e he=>by simp at he⟩,fun aD=>⟨fun⟨e,he,_⟩=>by simp at he,fun z=>by simp at z⟩,rfl,.inl ⟨rfl,by show 0<5;omega⟩,fun e he=>by simp at he⟩
set_option maxHeartbeats 3200000 in
theorem L6{l:Addr}{items:Array Value}{keys:List (List K)}{Q:Value→Shared→Prop}(hh:A.handled=none)(hu:A.units+64<cLine)(hl:s.heap.IsList l items)(hk:keys.length=items.size)(hb:items.size<77)(hi:∀(i:Nat) v,items[i]?=some v→∃b aD,v=.ref b∧keys[i]?=some aD∧IsTupleKey knd s.heap aD b)(h:∀(h':Heap)(cM:Nat),iD knd (fun _=>True) h' s.heap.objs.size (h_ keys)→(∀b o,s.heap.get? b=some o→h'.get? b=some o)→Q (.ref s.heap.objs.size) { s with heap:=h',toks:=cM }) :
  wpAny (model prog w) A (call (.type "set") [.ref l]) Q E s:=by
 obtain⟨c,tl,aaf⟩:=F.called_set.mro;have aae:=F.called_set.made;have mA:=F.called_set.sub;refine wpAny_call (codeAny_of_tree ?_);show wpAny _ _ (callAny (.type "set") _) _ _ _;refine wpAny_pure ⟨Code.quiet_builtin _ (by decide+kernel),codeAny_builtin F.entry_type_call ?_⟩;rw[Around.under_plain (weight_type_call_type "set" [.ref l] []) rfl];have h1:=F.called_set.notType;have h2:=F.called_set.canCreate;have Z8:=F.typeCall_set_1 (.ref l)
 repeat (any_goals (first|assumption|wp_step))
 refine codeAny_mono (code_set_new_1 (.ref l) (E:=E) (Q₁:=fun obj cX=>∃led:Bool,obj=.ref s.heap.objs.size∧cX={ s with heap:=s.heap.push (kh led) }) fun led=>⟨led,rfl,rfl⟩) fun r cX hr=>?_;rcases r with e|fl
 ·exact hr
 ·cases fl with
  |ret obj=>
   obtain⟨led,rfl,rfl⟩:=hr;have iJ:(s.heap.push (kh led)).get? s.heap.objs.size=some (kh led):=Heap.get?_push_size _ rfl;have gk:Shared.TypeIs { s with heap:=s.heap.push (kh led) } (.ref s.heap.objs.size) "set":=⟨_,iJ,rfl⟩;have sL:=F.called_set.init.lookup;have Z7:=F.called_set.init.bind (.ref s.heap.objs.size)
   repeat (any_goals (first|assumption|wp_step))
   refine codeAny_mono (codeAny_call_builtin (R:=wants (fun r kW=>r=.none∧∃h' cM,kW={ s with heap:=h',toks:=cM }∧iD knd (fun _=>True) h' s.heap.objs.size (h_ keys)∧(∀b o,s.heap.get? b=some o→h'.get? b=some o)) E) F.called_set.init.plain F.entry_set_init (check_set_init_1 gk ?_)) fun VG kW zM=>?_
   ·obtain⟨ol,qR,pn,nl,qO⟩:=hl;obtain⟨aaL,Tj,aaM,TR⟩:=ol;simp only at pn qO;subst pn;subst qO;have Ph:(s.heap.push (kh led)).get? l=some { cls:=.type "list",dict:=Tj,data:=.seq items nl,slots:=TR }:=Heap.get?_push_of_some _ qR;have aal:=F.sub_list_set;have aak:=F.sub_list_frozenset;have nF:(Value.type "list"==Value.type "dict")=false:=by decide
    have FX:(s.heap.push (kh led)).IsList l items:=⟨_,Ph,rfl,nl,rfl⟩;unfold Builtin.«set.__init__» noKeywords Builtin.Frozenset.updateFrom;generalize Ou:pyIter=f_
    wp_walk
    subst Ou;refine wpAny_pyIter_list FX ?_;refine wpAny_bind (wpAny_runValue ?_);have FY:l<s.heap.objs.size:=Heap.lt_size qR;have ze:(s.heap.push (kh led)).objs.size=s.heap.objs.size+1:=Heap.size_push _ _;have O_:l≠(s.heap.push (kh led)).objs.size:=by rw[ze];exact Nat.ne_of_lt (Nat.lt_succ_of_lt FY)
    have vA:s.heap.objs.size∉[(s.heap.push (kh led)).objs.size,l]:=by rw[ze];simp only[List.mem_cons,List.mem_singleton,List.not_mem_nil,or_false,not_or];exact⟨Nat.ne_of_lt (Nat.lt_succ_self _),Nat.ne_of_gt FY⟩
    have FH:∀b o,s.heap.get? b=some o→((s.heap.push (kh led)).push { cls:=.type "list_iterator",data:=.fields #[.ref l,.int 0 0] }).get? b=some o:=fun b o e=>Heap.get?_push_of_some _ (Heap.get?_push_of_some _ e);have vo:∀b o,s.heap.get? b=some o→b∉s.heap.objs.size::[(s.heap.push (kh led)).objs.size]:=fun b o e=>by have:=Heap.lt_size e;rw[ze];simp only[List.mem_cons,List.mem_singleton,List.not_mem_nil,or_false,not_or];exact⟨Nat.ne_of_lt this,Nat.ne_of_lt (Nat.lt_succ_of_lt this)⟩
    refine Sf (knd:=knd) ((Walks.list (by simp[hh]) _ l O_ items).toS) s.heap.objs.size vA keys hk hb (by simp only[Around.in1_units];omega) (items.size-0) 0 _ (by omega) (Nat.zero_le _)
     ⟨⟨_,Heap.get?_push_size _ rfl,rfl,rfl⟩,(FX.push _)⟩ (fun i v p=>?_) (iD.new (led:=led) (Heap.get?_push_of_some _ iJ)) ?hR
    ·obtain⟨b,aD,rfl,q,o,it,c,ho,r⟩:=hi i v p;exact⟨b,aD,rfl,vo b o ho,q,o,it,c,FH b o ho,r⟩
    case hR=>intro s' hm zy;obtain⟨h',g',d',XS,Au⟩:=s';have eg:g'=s.gens:=hm.gens;have dy:d'=s.drawn:=hm.drawn;have y9:Au=s.os:=hm.os;subst eg;subst dy;subst y9;show wpAny _ _ _ _ _ _;refine wpAny_pure ?_;show wpAny _ _ (ret Value.none) _ _ _;obtain⟨o,es,cH,t,aM,a_,c_,hL,jI,kg,il,oa,AE⟩:=zy.ex;exact wpAny_pure ⟨rfl,h',XS,rfl,⟨o,es,cH,t,aM,a_,c_,hL,jI,kg,il,oa,fun _ _ _ _=>trivial⟩,fun b o e=>hm.heap b o (vo b o e) (FH b o e)⟩
   ·rcases VG with e|Oa
    ·exact zM
    ·cases Oa with
     |ret r=>
      obtain⟨rfl,h',cM,rfl,zy,jw⟩:=zM
      repeat (any_goals (first|assumption|wp_step))
      exact h _ _ zy jw
     |_=>exact zM.elim
  |_=>exact hr.elim
end
end eH
namespace LT
open PySem PyProof.Rows
structure jS(gU:SortKind)(fw:Array Keyed)(st:SortSt):Prop where
 k:kindOf st=gU
 p:(arrOf st).Perm fw
 n:pendingOf st= #[]
 f:failedOf st=none
theorem jS.pZ{gU:SortKind}{fw:Array Keyed}{st:SortSt}(b:jS gU fw st):(arrOf st).size=fw.size:=b.p.size_eq
theorem jS.to{gU:SortKind}{fw:Array Keyed}{st:SortSt}(b:jS gU fw st){xs:Array Keyed}(q:xs.Perm (arrOf st)):jS gU fw (setArr st xs):=⟨b.k,q.trans b.p,b.n,b.f⟩
structure CJ(prog:Program)(w:World)(A:Around)(s:Shared)(gU:SortKind)(κ:KeyKind)(fw:Array Keyed):Prop where
 lt:∀(E:Value→Shared→Prop)(x y:Keyed){Q:Bool→Shared→Prop},x∈fw.toList→y∈fw.toList→Q (κ.blt ((κ.keyOf x.1).getD κ.dflt) ((κ.keyOf y.1).getD κ.dflt)) s→wpAny (model prog w) A (keyLt' gU x.1 y.1) Q E s
section
variable{prog:Program}{w:World}{A:Around}{E:Value→Shared→Prop}{s:Shared}{fw:Array Keyed}{κ:KeyKind}{gU:SortKind}
theorem jS.at{st:SortSt}(b:jS gU fw st){i:Nat}(hi:i<fw.size):∃x,(arrOf st)[i]?=some x∧x∈fw.toList∧KK κ (arrOf st) i=(κ.keyOf x.1).getD κ.dflt:=by
 have g:i<(arrOf st).size:=by rw[b.pZ];exact hi
 have e:=getElem?_pos (arrOf st) i g;refine⟨_,e,(Array.perm_iff_toList_perm.mp b.p).mem_iff.mp (by simp),?_⟩;unfold KK;rw[e]
theorem Si(C:CJ prog w A s gU κ fw){st:SortSt}(b:jS gU fw st){i j:Nat}{Q:Option Bool→SortSt→Prop}(hi:i<fw.size)(cv:j<fw.size)(h:Q (some (κ.blt (KK κ (arrOf st) i) (KK κ (arrOf st) j))) st):wpS (model prog w) A E s (ltAt' i j) Q st:=by obtain⟨x,fB,f5,p6⟩:=b.at (κ:=κ) hi;obtain⟨y,fs,gJ,iw⟩:=b.at (κ:=κ) cv;rw[p6,iw]at h;rw[ltAt'_eq];refine wpS_bind (wpS_get ?_);show wpS _ _ _ _ (elem' (arrOf st) i>>=fun x=>elem' (arrOf st) j>>=fun y=>lt' x y) Q st;rw[elem'_eq,fB,elem'_eq,fs];refine wpS_bind (wpS_pure (wpS_bind (wpS_pure ?_)));rw[lt'_eq];refine wpS_bind (wpS_get (wpS_bind (wpS_lift (wpAny_attempt ?_))));rw[b.k];exact C.lt _ x y f5 gJ ⟨rfl,wpS_pure h⟩
theorem Yh{xs:Array Keyed}:SortedToK κ xs 1:=fun i j a c=>by
 have:i=j:=by omega
 subst this;exact KeyOrd.kle_refl _
theorem u2(C:CJ prog w A s gU κ fw){st:SortSt}{n ok:Nat}{Q:Bool→SortSt→Prop}(aE:n≤fw.size)(hk:ok≤n)(b:jS gU fw st)(hs:SortedToK κ (arrOf st) ok)(h:∀t,jS gU fw t→SortedToK κ (arrOf t) n→Q true t):wpS (model prog w) A E s (binarySort' 0 n ok) Q st:=by
 rw[binarySort'_eq];simp only[Nat.zero_add];refine wpS_bind (wpS_mono (wpS_forRange (I:=fun k c t=>c=(none,())∧jS gU fw t∧SortedToK κ (arrOf t) (min k n)) (Q:=fun c t=>c=(none,())∧jS gU fw t∧SortedToK κ (arrOf t) n) ?_ ?_ ?_) ?_)
 ·rintro k c t k1 k2 ⟨rfl,b,g⟩;have er:min k n=k:=by omega
  rw[er]at g;have bq:k<(arrOf t).size:=by rw[b.pZ];omega
  refine wpS_bind (wpS_mono (wpS_forRange (I:=fun x c u=>u=t∧∃l r,c=(none,l,r)∧l≤r∧r≤k∧r-l≤k-x∧(∀i,i<l→κ.kle (KK κ (arrOf t) i) (KK κ (arrOf t) k))∧∀i,r≤i→i<k→κ.klt (KK κ (arrOf t) k) (KK κ (arrOf t) i))
   (Q:=fun c u=>u=t∧∃l r,c=(none,l,r)∧l≤k∧(∀i,i<l→κ.kle (KK κ (arrOf t) i) (KK κ (arrOf t) k))∧∀i,l≤i→i<k→κ.klt (KK κ (arrOf t) k) (KK κ (arrOf t) i)) ?_ ?_ ⟨rfl,0,k,rfl,by omega,by omega,by omega,fun i z=>by omega,fun i z f6=>by omega⟩) ?_)
  ·rintro x c u _ f5 ⟨rfl,l,r,rfl,dA,cf,RV,lo,hi⟩;dsimp only;by_cases z:l≥r
   ·rw[if_pos z];have e:l=r:=by omega
    subst e;exact wpS_pure ⟨rfl,l,l,rfl,cf,lo,hi⟩
   rw[if_neg z];refine wpS_bind (Si C b (by omega) (by omega) ?_);cases e:κ.blt (KK κ (arrOf u) k) (KK κ (arrOf u) ((l+r)/2))with
   |true=>exact wpS_pure ⟨rfl,l,(l+r)/2,rfl,by omega,by omega,by omega,lo,fun i a c=>KeyOrd.klt_of_klt_of_kle e (g _ _ a c)⟩
   |false=>exact wpS_pure ⟨rfl,(l+r)/2+1,r,rfl,by omega,by omega,by omega,fun i a=>KeyOrd.kle_trans (g i ((l+r)/2) (by omega) (by omega)) (show κ.kle _ _ from e),hi⟩
  ·rintro c u ⟨rfl,l,r,rfl,dA,cf,RV,lo,hi⟩;have e:l=r:=by omega
   subst e;exact⟨rfl,l,l,rfl,cf,lo,hi⟩
  ·rintro c u ⟨rfl,l,r,rfl,dA,lo,hi⟩;show wpS _ _ _ _ (moveDown' k l>>=fun _=>pure (ForInStep.yield (none,()))) _ _;rw[moveDown'_eq];refine wpS_bind (wpS_modify (wpS_pure ⟨rfl,b.to (bubble_perm _ _ _),?_⟩));rw[show min (k+1) n=k+1 by omega];intro i j aan z0;show κ.kle (KK κ (bubble (arrOf u) k (k-l)) i) (KK κ (bubble (arrOf u) k (k-l)) j);rw[KK_bubble bq (by omega),KK_bubble bq (by omega),show k-(k-l)=l by omega]
   repeat' split
   all_goals first|omega|exact KeyOrd.kle_refl _|exact lo _ (by omega)|exact KeyOrd.kle_of_klt (hi _ (by omega) (by omega))|exact g _ _ (by omega) (by omega)
 ·rintro c t ⟨rfl,b,g⟩;rw[show min (max (max ok 1) n) n=n by omega]at g;exact⟨rfl,b,g⟩
 ·refine⟨rfl,b,?_⟩;by_cases z:ok=0
  ·subst z;intro i j a c;exact Yh i j a (by omega)
  ·rw[show min (max ok 1) n=ok by omega];exact hs
 ·rintro c t ⟨rfl,b,g⟩;exact wpS_pure (h t b g)
end
noncomputable def ltI:List Int→List Int→Bool
 |[],[]=>false
 |[],_::_=>true
 |_::_,[]=>false
 |a::x,b::y=>if a=b then ltI x y else decide (a<b)
section
variable{prog:Program}{w:World}{A:Around}{E:Value→Shared→Prop}{s:Shared}
def Fu(k:Int×Int×Int):List Int:=[k.1,k.2.1,k.2.2]
end
section
variable{prog:Program}{w:World}{A:Around}{E:Value→Shared→Prop}{s:Shared}
end
def R7(a b:Int×Int×Int):Bool:=!ltI (Fu b) (Fu a)
def W2(aD:List (Int×Int×Int)):List (Int×Int×Int):=aD.mergeSort R7
section
variable{prog:Program}{w:World}{A:Around}{E:Value→Shared→Prop}{s:Shared}
end
end LT
namespace aQ
open PySem PySem.Spec PyProof.Rows
section
variable{X:aC}
noncomputable def C0(a:Addr)(n:Nat)(h:Heap):Prop:=∃o es cH t,h.get? a=some o∧o.ExactSet∧o.data=.set es cH t∧t.fits es.size=true∧es.size=n
def w_(a:Addr)(n:Nat):du:=.ext (C0 a n)
theorem Xb{P:Program}{w:World}{H:ag}{h:Heap}{a:Addr}{n:Nat}(x:C0 a n h):eI P w H h a (w_ a n):=
 ⟨x,by obtain⟨o,_,_,_,e,_⟩:=x;exact⟨o,e⟩,fun h1 h2 y k=>by obtain⟨o,es,cH,t,e,r⟩:=y;exact⟨o,es,cH,t,k o e,r⟩⟩
noncomputable def CQ(H:ag)(ys:List V)(keys:List (List Key)):Prop:=keys.length=ys.length∧∀(i:Nat) y k,ys[i]?=some y→keys[i]?=some k→∃b,y=.ref b∧H b=some (.tup (k.map cD))
noncomputable def Vh(K:PySem.W.Frag):List V→ag→cj→Prop:=fun xs H Q=>∃p ys keys,xs=[.ref p]∧bU K H p ys∧ys.length<77∧CQ H ys keys∧∀l,H l=none→Q (.ref l) (upd H l (w_ l (eH.h_ keys).length))
theorem L5(hh:X.A.handled=none)(hu:X.A.units+64<cLine):jm X (.type "set") (Vh X.K):=by
 intro pins s σ H xs us Q I r h;obtain⟨p,ys,keys,rfl,aK,aE,⟨hl,hk⟩,q⟩:=h;obtain⟨u,rfl,bl⟩:=vals1 r;cases bl;obtain⟨its,a8,pl,bq⟩:=I.list aK;have hlen:=a8.length;refine eH.L6 (knd:=hI X.prog X.w) (items:=its.toArray) (keys:=keys) hh hu pl.isList (by rw[List.size_toArray];omega) (by rw[List.size_toArray];omega) (fun i v hv=>?_) fun h' cM T aH=>?_
 ·have hv:its[i]?=some v:=by simpa using hv
  have hi:=(List.getElem?_eq_some_iff.mp hv).1;have d4:ys[i]?=some ys[i]:=List.getElem?_eq_getElem (by omega);have er:keys[i]?=some keys[i]:=List.getElem?_eq_getElem (by omega);obtain⟨b,ak,ay⟩:=hk i _ _ d4 er;obtain⟨lY,vM,bV⟩:=a8.get d4;rw[hv]at vM;cases vM;rw[ak]at bV;cases bV;exact⟨b,_,rfl,er,qZ I.br ay⟩
 ·obtain⟨o,es,cH,t,g1,g2,g3,kG,qL,zo,Oh,zp⟩:=T.ex;exact⟨.ref s.heap.objs.size,_,I.laid (t':=cM) aH (Nat.le_refl _) (Xb ⟨o,es,cH,t,g1,g2,g3,kG.fits,Oh⟩),rfl,q _ (I.br.fresh (Nat.le_refl _))⟩
def Vf:List V→ag→cj→Prop:=fun xs H Q=>∃a n,xs=[.ref a]∧H a=some (w_ a n)∧n<1000∧Q (.int n) H
theorem L3:jm X (.builtin "len") Vf:=by intro pins s σ H xs us Q I r h;obtain⟨a,n,rfl,ha,aE,q⟩:=h;obtain⟨u,rfl,bl⟩:=vals1 r;cases bl;obtain⟨⟨o,es,cH,t,g1,g2,g3,kG,qL⟩,_⟩:=(show eI X.prog X.w H s.heap a (w_ a n)from I.br a _ ha);subst qL;exact call_len_set g1 g2 g3 kG (by omega) ⟨.int es.size,H,I.tok _,⟨_,rfl⟩,q⟩
end
end aQ
namespace ax
open PySem PySem.Spec aQ PyProof.Rows
section
variable{X:aC}{F:a4}{e a b c:Expr}{es:List Expr}{pos p:Pos}{m n:az}{ma:aO}
def GJ:D→Option Key
 |.int i=>some (.inl i)
 |.str x=>some (.inr x)
 |_=>none
noncomputable def keysOf:List D→Option (List Key)
 |[]=>some []
 |d::ds=>match GJ d,keysOf ds with
  |some k,some aD=>some (k::aD)
  |_,_=>none
def B7:D→Option (List Key)
 |.tup ds=>keysOf ds
 |_=>none
noncomputable def p2:List D→Option (List (List Key))
 |[]=>some []
 |d::ds=>match B7 d,p2 ds with
  |some k,some aD=>some (k::aD)
  |_,_=>none
noncomputable def sV:List D→R D
 |[.lst ds]=>if ds.length<77 then match p2 ds with
  |some aD=>.ok (.int (eH.h_ aD).length)
  |none=>.bad
  else .bad
 |_=>.bad
theorem GL{K:PySem.W.Frag}{G:ag}:∀{ds:List D}{aD:List Key}{xs:List V},keysOf ds=some aD→aI K G ds xs→xs=aD.map cD
 |[],aD,xs,e,h=>by simp only[keysOf]at e;cases e;simp only[aI]at h;subst h;rfl
 |d::ds,aD,xs,e,h=>by
  simp only[keysOf]at e
  split at e
  ·rename_i k kM ak ay;cases e;simp only[aI]at h;obtain⟨v,r,rfl,a1,a2⟩:=h;rw[GL ay a2,List.map_cons];cases d<;>simp only[GJ]at ak<;>first|(cases ak;done)|(cases ak;simp only[At]at a1;subst a1;rfl)
  ·cases e
theorem JQ{K:PySem.W.Frag}{G:ag}:∀{ds:List D}{aD:List (List Key)}{xs:List V},p2 ds=some aD→aI K G ds xs→CQ G xs aD
 |[],aD,xs,e,h=>by simp only[p2]at e;cases e;simp only[aI]at h;subst h;exact⟨rfl,fun i y k ak=>by simp at ak⟩
 |d::ds,aD,xs,e,h=>by
  simp only[p2]at e
  split at e
  ·rename_i k kM ak ay;cases e;simp only[aI]at h;obtain⟨v,r,rfl,a1,a2⟩:=h;obtain⟨dA,cf⟩:=JQ ay a2;refine⟨by simp[dA],fun i y k' aM a_=>?_⟩;cases i with
   |succ i=>exact cf i y k' (by simpa using aM) (by simpa using a_)
   |zero=>
    simp at aM a_;subst aM a_;cases d<;>simp only[B7]at ak<;>first|(cases ak;done)|skip
    simp only[At]at a1;obtain⟨b,ys,rfl,g,q⟩:=a1;exact⟨b,rfl,by rw[g,GL ak q]⟩
  ·cases e
theorem YY{iR pos':Pos}(hh:X.A.handled=none)(hu:X.A.units+64<cLine)(hm:X.mg "len"=none)(hm2:X.mg "set"=none)(ha:e8 X F [e] ma)(hK:F.K=X.K:=by rfl)(hg:cy X "len":=by rfl)(hg2:cy X "set":=by rfl)(hs:starEach [.Call (.Name "set" iR) [e] [] pos'] X.env=(false,eval (.Call (.Name "set" iR) [e] [] pos') X.env)::starEach [] X.env:=by rfl)(he:starEach [e] X.env=(false,eval e X.env)::starEach [] X.env:=by rfl)(hpl:(backTo pos (starEach [] X.env)).any (·.1)=false:=by rfl)(Pl:(backTo pos' (starEach [] X.env)).any (·.1)=false:=by rfl) :
  aW X F (.Call (.Name "len" p) [.Call (.Name "set" iR) [e] [] pos'] [] pos) (cN sV ma):=by
 refine⟨aT.imp (tF L3 hg hm PySem.boot_len (jH (Ax (L5 hh hu) hg2 hm2 (by kernel_rfl) ha.1 (by decide) (by decide) he Pl) lO hs) (by decide) (by decide) hs hpl) ?_⟩;rintro σ H Q ⟨G,ρ,r,h⟩;unfold cN at h;refine⟨G,ρ,r,?_⟩;cases aq:ma ρ with
 |bad=>rw[aq]at h;exact h.elim
 |exc c=>rw[aq]at h;exact h
 |ok ds=>
  rw[aq,R.bt]at h;intro vs H1 aJ ar s1 a;unfold sV at h
  split at h
  ·split at h
   ·split at h
    ·rename_i aD er;obtain⟨v,rfl,bb⟩:=a.one;simp only[At]at bb;obtain⟨q,xs,rfl,aK,fI⟩:=bb;have kt:=JQ er fI;have hl:=fI.length;refine⟨q,xs,aD,rfl,bU.of (ar.aH.sub _ _ aK),by omega,⟨kt.1,fun i y k ak ay=>?_⟩,fun l vH=>?_⟩
     ·obtain⟨b,a7,Oj⟩:=kt.2 i y k ak ay;exact⟨b,a7,ar.aH.sub _ _ Oj⟩
     ·have:=eH.D_ aD;have:=kt.1;refine⟨l,_,rfl,d0,by omega,?_⟩;exact h _ _ aJ (ar.lay0 vH) (s1.trans (cc.lay0 vH)) (by simp only[At])
    ·exact h.elim
   ·exact h.elim
  ·exact h.elim
noncomputable def s6(i:Nat)(m:az):e3:=fun ρ=>(ownAt i ρ).bind fun ds=>(m ρ).bind fun d=>match d with
 |.lst es=>if ds.length+es.length≤1000000 then .ok (.non,ρ.set i (.c6 (ds++es)))else .bad
 |_=>.bad
theorem YS (i:Nat) {x:Str} {a3:Pos} {apos:Pos} {bG:Pos} (he:aW X F e m) (hN:X.N[i]?=some x:=by rfl) (hv:gd X.env.scope x:=by first|exact Or.inl rfl|exact Or.inr (Or.inl rfl)|exact Or.inr (Or.inr rfl)) (hd:(x==("__debug__" :Str))=false:=by decide) (hcd:(x==("__classdict__" :Str))=false:=by decide)(hbase:attributeBase (.Name x a3) "extend" X.env (eval (.Name x a3) X.env)=eval (.Name x a3) X.env:=by rfl) (hline:(apos.endLine==bG.line)=true:=by rfl)(hfew:((backTo bG (starEach [e] X.env)).all (fun x=>!x.1)&&(backToKw bG (keywordEach [] X.env)).all (fun x=>x.1.isSome)
    &&decide (([e]:List Expr).length+([]:List Keyword).length+(if([]:List Keyword).isEmpty then 0 else 1)<30))=true:=by rfl)
  (hs:starEach [e] X.env=(false,eval e X.env)::starEach [] X.env:=by rfl) (hplain:(backTo bG (starEach [] X.env)).any (·.1)=false:=by rfl) :
  ng X F (.Call (.Attribute (.Name x a3) "extend" apos) [e] [] bG) (s6 i m):=by
 refine⟨aT.imp (ro PySem.F.plainAttrs_list PySem.F.slot_list_extend PySem.F.type_list_extend SF (lP hN hv hd hcd) (jH he.1 lO hs) hbase hfew hline hs hplain) ?_⟩;rintro σ H Q ⟨G,ρ,r,h⟩;unfold s6 ownAt at h;cases cZ:ρ[i]? with
 |none=>rw[cZ]at h;exact h.elim
 |some s=>
  rw[cZ]at h;cases s with
  |un=>exact h.elim
  |aw _=>exact h.elim
  |eu _=>exact h.elim
  |aV aV=>
   cases aV with
   |bI _ _=>exact h.elim
   |ins _ _ _=>exact h.elim
   |lst ds=>
    obtain⟨q,xs,ak,h1,h2,h3,h4⟩:=r.own cZ;rw[R.bt]at h;refine⟨.ref q,ak,.inl ⟨rfl,xs,bU.of h1⟩,G,ρ,r,?_⟩;cases aq:m ρ with
    |bad=>rw[aq]at h;exact h.elim
    |exc c=>rw[aq]at h;exact h
    |ok d=>
     rw[aq,R.bt]at h;intro v H1 aJ ar s1 bb;obtain⟨cV,k6,gE,cA,cp,sz,hB⟩:=ar.own cZ;rw[ak]at gE;cases gE;cases d with
     |lst es=>
      simp only at h
      split at h
      ·rename_i hl;simp only[At]at bb;obtain⟨bR,ys,rfl,g2,a_⟩:=bb;refine⟨q,bR,k6,ys,rfl,rfl,cA,ar.aH.sub _ _ g2,by rw[←hB.length,←a_.length,sizeLine_eq];omega,?_⟩;exact h .non _ aJ (ar.mut cZ ak (hB.append a_)) s1.g (by simp only[At])
      ·exact h.elim
     |_=>exact h.elim
noncomputable def Hf(i:Nat)(m n:az):e3:=fun ρ=>(ownAt i ρ).bind fun ds=>(m ρ).bind fun d=>(n ρ).bind fun y=>match d with
 |.int k=>if 0≤k∧k<2^63∧ds.length<1000000 then .ok (.non,ρ.set i (.c6 (ds.take (min k.toNat ds.length)++y::ds.drop (min k.toNat ds.length))))else .bad
 |_=>.bad
noncomputable def Hd(ma:aO)(m:az):aO:=fun ρ=>(ma ρ).bind fun ds=>(m ρ).bind fun d=>match d with
 |.lst es=>if ds.length+es.length≤1000000 then .ok (ds++es)else .bad
 |_=>.bad
noncomputable def pC(m n:az):aO:=fun ρ=>(m ρ).bind fun c=>(n ρ).bind fun d=>match c,d with
 |.lst ds,.lst es=>if ds.length+es.length≤1000000 then .ok (ds++es)else .bad
 |_,_=>.bad
theorem Cv(ha:aW X F a m)(hb:aW X F b n):md X F (.BinOp a .Add b pos) (pC m n):=by
 refine⟨aT.imp (HX HG ha.1 hb.1) ?_⟩;rintro σ H Q ⟨G,ρ,r,h⟩;unfold pC at h;refine⟨G,ρ,r,?_⟩;cases aq:m ρ with
 |bad=>rw[aq]at h;exact h.elim
 |exc c=>rw[aq]at h;exact h
 |ok c=>
  rw[aq,R.bt]at h;intro u H1 aJ ar s1 uM;refine⟨aJ,ρ,ar,?_⟩;cases a7:n ρ with
  |bad=>rw[a7]at h;exact h.elim
  |exc c=>rw[a7]at h;exact h
  |ok d=>
   rw[a7,R.bt]at h;intro v aS cI a5 s2 bb
   split at h
   ·split at h
    ·rename_i hl;simp only[At]at uM bb;obtain⟨fb,xs,rfl,g1,aM⟩:=uM;obtain⟨bR,ys,rfl,g2,a_⟩:=bb;refine⟨fb,bR,xs,ys,rfl,rfl,s2.h _ _ (ar.aH.sub _ _ g1),a5.aH.sub _ _ g2,by rw[←aM.length,←a_.length,sizeLine_eq];omega,fun RT aE=>?_⟩;exact h RT (xs++ys) _ cI (a5.lay0 aE) ((s1.trans s2).trans (cc.lay0 aE)) ((s1.trans s2).h.gone aE) d0 (a5.aH.sub.gone aE) ((aM.mono s2.g).append a_)
    ·exact h.elim
   ·exact h.elim
def Ml(k:Int×Int×Int):D:=.tup [.int k.1,.tup [.int k.2.1,.int k.2.2]]
def Q8:D→Option (Int×Int×Int)
 |.tup [.int n,.tup [.int h,.int d]]=>some (n,h,d)
 |_=>none
noncomputable def GI:List D→Option (List (Int×Int×Int))
 |[]=>some []
 |d::ds=>match Q8 d,GI ds with
  |some k,some aD=>some (k::aD)
  |_,_=>none
noncomputable def I9:List D→R (List D)
 |[.lst ds]=>if ds.length<64 then match GI ds with
  |some aD=>.ok ((LT.W2 aD).map Ml)
  |none=>.bad
  else .bad
 |_=>.bad
def Sr(m:aO):aO:=fun ρ=>(m ρ).bind I9
def Sm(k:Str)(i:Int):az:=fun _=>.ok (.cY [.inr k] [.int i])
end
section
variable{X:aC}{F:a4}{e a b c:Expr}{es:List Expr}{pos p:Pos}{m n:az}{ma:aO}
theorem aI.I1{K:PySem.W.Frag}{G:ag}:∀{ds:List D}{xs:List V}{j:Nat}{d:D}{v:V},aI K G ds xs→At K G d v→aI K G (ds.set j d) (xs.set j v)
 |[],_,_,_,_,h,_=>by simp only[aI]at h;subst h;simp[aI]
 |_::_,_,0,_,_,h,a=>by simp only[aI]at h;obtain⟨v,r,rfl,q,t⟩:=h;exact .cons a t
 |_::_,_,j+1,_,_,h,a=>by simp only[aI]at h;obtain⟨v,r,rfl,q,t⟩:=h;exact .cons q (aI.I1 t a)
noncomputable def putN(i:Nat)(ρ:aj)(ds:List D)(v:D):Option Nat→R e7
 |some j=>.ok (.bk (ρ.set i (.c6 (ds.set j v))))
 |none=>.bad
def putK(i:Nat)(ρ:aj)(ds:List D)(v:D):D→R e7
 |.int j=>putN i ρ ds v (jf ds.length j)
 |_=>.bad
noncomputable def rd(i:Nat)(mk mv:az):a0:=fun ρ=>(mv ρ).bind fun v=>(ownAt i ρ).bind fun ds=>(mk ρ).bind fun k=>putK i ρ ds v k
theorem Cw (i:Nat) {x:Str} {a3 pos':Pos} {k v:Expr} {mk mv:az} (hk:aW X F k mk) (hv:aW X F v mv) (hN:X.N[i]?=some x:=by rfl) (hvs:gd X.env.scope x:=by first|exact Or.inl rfl|exact Or.inr (Or.inl rfl)|exact Or.inr (Or.inr rfl)) (hd:(x==("__debug__" :Str))=false:=by decide) (hcd:(x==("__classdict__" :Str))=false:=by decide)(hs:swapsWithSole [.Subscript (.Name x a3) k pos'] v pos.line X.env=pure false:=by rfl) (hw:swappedStores [.Subscript (.Name x a3) k pos'] v X.env=pure none:=by rfl)(h1:(assignEach [.Subscript (.Name x a3) k pos'] X.env).map (·.2)=[assign (.Subscript (.Name x a3) k pos') X.env]:=by rfl)(ha:∀u,assign (.Subscript (.Name x a3) k pos') X.env u=(do
    let dF ←holding [u] (eval (.Name x a3) X.env)
    let hF ←holding [u,dF] (eval k X.env)
    standAt pos'
    holding [u,dF,hF] (setItem dF hF u)
    release [u,dF,hF] []):=by intro _;rfl) :
  e0 X F (.Assign [.Subscript (.Name x a3) k pos'] v pos) (rd i mk mv):=by
 refine⟨c7.imp (Ic hv.1 (Uu (lP hN hvs hd hcd) hk.1 set_list ha) hs hw h1) ?_⟩;rintro cu σ H ⟨G,ρ,r,h⟩;unfold rd at h;refine⟨G,ρ,r,?_⟩;cases ev:mv ρ with
 |bad=>rw[ev]at h;exact h.elim
 |exc c=>rw[ev]at h;exact h
 |ok d=>
  rw[ev,R.bt]at h;intro u H1 aJ ar s1 uM;cases cZ:ownAt i ρ with
  |bad=>rw[cZ]at h;exact h.elim
  |exc c=>exact(HO cZ).elim
  |ok ds=>
   rw[cZ,R.bt]at h;have cP:=HP cZ;obtain⟨q,xs,ak,h1,h2,h3,h4⟩:=ar.own cP;refine⟨.ref q,ak,aJ,ρ,ar,?_⟩;cases er:mk ρ with
   |bad=>rw[er]at h;exact h.elim
   |exc c=>rw[er]at h;exact h
   |ok gU=>
    rw[er,R.bt]at h;intro w aS cI a5 s2 i0;obtain⟨cV,k6,gE,cA,cp,sz,hB⟩:=a5.own cP;rw[ak]at gE;cases gE;cases gU with
    |int j=>
     simp only[putK]at h;simp only[At]at i0;cases lz:jf ds.length j with
     |none=>rw[lz]at h;exact h.elim
     |some n=>rw[lz]at h;simp only[putN]at h;refine⟨q,k6,j,n,rfl,i0,cA,by rw[←hB.length];exact lz,?_⟩;exact h _ cI _ (a5.mut cP ak (hB.I1 (uM.mono s2.g))) (s1.trans s2).g
    |_=>exact h.elim
noncomputable def Ly(i:Nat)(ρ:aj)(bH:List T)(m:az):Option Nat→R e7
 |some j=>match bH[j]? with
  |some (.lst us)=>(m ρ).bind fun d=>if us.length<1000000 then .ok (.bk (ρ.set i (.eu (.lst (bH.set j (.lst (us++[.aw d])))))))else .bad
  |_=>.bad
 |none=>.bad
def Dh(i:Nat)(ρ:aj)(bH:List T)(m:az):D→R e7
 |.int j=>Ly i ρ bH m (jf bH.length j)
 |_=>.bad
def Sl(i:Nat)(mk m:az):a0:=fun ρ=>(xl i ρ).bind fun bH=>(mk ρ).bind fun k=>Dh i ρ bH m k
end
noncomputable def GH(F:a4)(x C:Addr)(Q:cj):R (List Str×List D)→Prop
 |.ok (ns,ds)=>∀aN xs G' H',ef F G' H'→G' x=none→H' x=some (.ins C aN xs)→xs.map (·.1)=ns→aI F.K G' ds (xs.map (·.2))→Q .non H'
 |.exc c=>jA F c
 |.bad=>False
noncomputable def w4(K:PySem.W.Frag)(aU:Str)(n:Nat)(mf:List D→R (List Str×List D)):iE:=fun vs H Q E=>∃G x C aN es ws,vs=.ref x::ws∧eG K aU C∧H x=some (.ins C aN [])∧G x=none∧Sub G H∧aI K G es ws∧es.length=n∧GH (gS K G (del H x) E) x C Q (mf es)
theorem I_{K:PySem.W.Frag}{aU:Str}{n:Nat}{mf:List D→R (List Str×List D)}:∀vs H Q E,w4 K aU n mf vs H Q E→vs.length=n+1:=fun vs H Q E h=>by obtain⟨G,x,C,aN,es,ws,rfl,_,_,_,_,q,l,_⟩:=h;rw[List.length_cons,←q.length,l]
noncomputable def rn(aU:Str):R aj→R (List Str×List D)
 |.ok (.aV (.ins c ns ds)::_)=>if c=aU then .ok (ns,ds)else .bad
 |.exc c=>.exc c
 |_=>.bad
theorem QF{K:PySem.W.Frag}{aU:Str}{n:Nat}{m:gO}{vs:List V}{H:ag}{Q:cj}{E:cO}(h:w4 K aU n (fun es=>rn aU (m (gm aU es))) vs H Q E) :
  ∃G bg,lV (gS K G bg E) m { bk:=fun _ H'=>Q .non H',dG:=Q } (vs.map some) H:=by
 obtain⟨G,x,C,aN,es,ws,rfl,fU,h1,h2,s,bb,l,k⟩:=h;refine⟨G,del H x,G,gm aU es,IE fU h1 h2 s bb,?_⟩;replace k:GH (gS K G (del H x) E) x C Q (rn aU (m (gm aU es))):=k;cases em:m (gm aU es)with
 |bad=>rw[em]at k;exact k.elim
 |exc c=>rw[em]at k;exact k
 |ok bh=>
  rw[em]at k;intro G' H' r;unfold rn at k
  split at k
  ·rename_i Mb ns ds tl heq;cases heq;obtain⟨a,ho,ak,g1,g2,g3,iy,qH,xs,bu,rfl,ay,al⟩:=r.obj (i:=0) rfl;have ak:some (some (V.ref x))=some (some (V.ref a)):=ak;cases ak
   split at k
   ·rename_i hc;subst hc;have:=bu.inj fU;subst this;exact k qH xs G' H' r.aH g2 g1 ay al
   ·exact k.elim
  ·rename_i heq;cases heq
  ·exact k.elim
structure x5(P:Program)(w:World)(K:PySem.W.Frag)(mg:Str→Option Value)(base:Heap)(aU:Str)(n k:Nat)(mf:List D→R (List Str×List D)):Prop where
 ex:∃(C f:Addr)(fd:FuncData)(ps:List Str),eG K aU C∧qm K C f∧f7 P w K mg base (ft P w) k f fd ps (w4 K aU n mf)∧mg aU=some (.ref C)∧Binds K fd ps []
theorem Y9{P:Program}{w:World}{K:PySem.W.Frag}{mg:Str→Option Value}{base:Heap}{qual aU fO:Str}{st:Stmt}{ps:List Str}{k:Nat}{m:gO}(d:InK K mg aU qual st (fO::ps))(S:cG (fO::ps) (fO::ps) (bM st))(h:∀(f:Addr)(b1:Value)(A:Around)(outer:List Env)(s:Shared)(H:ag)(E:cO),c4 k (A.deeper (PyProof.Rows.envOfC qual (bM st) s.heap.objs.size f b1))→∀bO bg,r3 (eA (ft P w) P w K mg base (fO::ps) qual (bM st) f b1 A outer s H E) (gS K bO bg E) (fx st) m) :
  x5 P w K mg base aU ps.length (k+1) (fun es=>rn aU (m (gm aU es))):=by
 obtain⟨C,f,fd,h1,h2,h3,h4,h5⟩:=d.ex;refine⟨C,f,fd,fO::ps,h1,h2,?_,h4,h5⟩;obtain⟨eV,dv,cD,doc,pm,an,b1,ck,ke,rfl,lk,hcd⟩:=h3.ex;refine zl lk hcd S I_ fun A outer s H vs Q E hr hs=>?_;have hl:=I_ vs H Q E hs;obtain⟨G,bg,ht⟩:=QF hs;refine⟨_,(h f b1 A outer s H E hr G bg).1,?_⟩;rw[Jk (by simpa using hl)];exact ht
section
variable{P:Program}{w:World}{K:PySem.W.Frag}{mg:Str→Option Value}{base:Heap}{N:List Str}{qual:Str}{scope:Scope}{f:Addr}{cd:Value}{A:Around}{outer:List Env}{s0:Shared}{gZ:ag}{E:cO}{bO bg:ag}
end
section
variable{X:aC}{F:a4}{e:Expr}{es:List Expr}{pos p:Pos}{ma:aO}
theorem Su{H1:ag}{x aN C:Addr}(hx:H1 x=none)(mx:H1 aN=none):Sub H1 (del (upd (upd H1 aN (.own x)) x (.ins C aN [])) x):=fun b o e=>by
 have c8:b≠x:=fun z=>by rw[z,hx]at e;cases e
 have c0:b≠aN:=fun z=>by rw[z,mx]at e;cases e
 rw[Ea c8,c2 c8,c2 c0];exact e
end
section
variable{X:aC}{F:a4}{e:Expr}{pos p:Pos}{m n:az}{ma:aO}
end
end ax
namespace aQ
open PySem PySem.Spec PyProof.Rows
section
variable{X:aC}{i j:Nat}{x n y:Str}{W:Addr}{e:Expr}{dw:TE}{E:cO}{u6:Stmt}{w9:List Stmt}{bH:eL}{mQ np hp pos py:Pos}
end
end aQ
namespace ax
open PySem PySem.Spec aQ PyProof.Rows
section
variable{X:aC}{F:a4}{pos:Pos}
end
section
variable{X:aC}{F:a4}{a b:Expr}{pos p:Pos}{m n:az}{ma:aO}
end
end ax
namespace aQ
open PySem PySem.Spec PyProof.Rows
section
variable{prog:Program}{w:World}{A:Around}{E:Value→Shared→Prop}{s:Shared}
end
section
variable{X:aC}{pos:Pos}
end
end aQ
namespace ax
open PySem PySem.Spec aQ PyProof.Rows
section
variable{X:aC}{F:a4}{e:Expr}{es:List Expr}{pos p:Pos}{m n:az}{ma:aO}
def v9(sep:Str)(m:aO):az:=fun ρ=>(m ρ).bind (vW sep)
theorem YX {sep:Str} {j:Nat} {a3 apos bG:Pos} (ha:e8 X F [e] ma) (hK:F.K=X.K:=by rfl)(hbase:attributeBase (.Constant (.str sep) j a3) "join" X.env (eval (.Constant (.str sep) j a3) X.env)=eval (.Constant (.str sep) j a3) X.env:=by rfl) (hline:(apos.endLine==bG.line)=true:=by rfl)(hfew:((backTo bG (starEach [e] X.env)).all (fun x=>!x.1)&&(backToKw bG (keywordEach [] X.env)).all (fun x=>x.1.isSome)
    &&decide (([e]:List Expr).length+([]:List Keyword).length+(if([]:List Keyword).isEmpty then 0 else 1)<30))=true:=by rfl)
  (hs:starEach [e] X.env=(false,eval e X.env)::starEach [] X.env:=by rfl) (hplain:(backTo bG (starEach [] X.env)).any (·.1)=false:=by rfl) :
  aW X F (.Call (.Attribute (.Constant (.str sep) j a3) "join" apos) [e] [] bG) (v9 sep ma):=by
 refine⟨aT.imp (ro PySem.F.plainAttrs_str PySem.F.slot_str_join PySem.F.type_str_join SH Ay ha.1 hbase hfew hline hs hplain) ?_⟩;rintro σ H Q ⟨G,ρ,r,h⟩;unfold v9 at h;refine⟨rfl,G,ρ,r,?_⟩;cases aq:ma ρ with
 |bad=>rw[aq]at h;exact h.elim
 |exc c=>rw[aq]at h;exact h
 |ok ds=>
  rw[aq,R.bt]at h;intro vs H1 aJ ar s1 bb;unfold vW at h
  split at h
  ·rename_i aP
   split at h
   ·rename_i ys d4
    split at h
    ·rename_i bq;obtain⟨v,rfl,i0⟩:=bb.one;simp only[At]at i0;obtain⟨q,xs,rfl,aK,fI⟩:=i0;refine⟨sep,q,ys,rfl,rfl,?_,bq,h _ H1 aJ ar s1 (by simp only[At])⟩;rw[←Jo fI d4];exact bU.of (ar.aH.sub _ _ aK)
    ·exact h.elim
   ·exact h.elim
  ·exact h.elim
theorem P9{aU mt:Str}{mf:List D→R bZ}{C:Addr}{E:cO}(hx:F.gM=fun _ _=>False)(fU:eG F.K aU C):en (cC F (jE aU mt 0 mf m av)) (xg C mt (kS F.K (0+1) mf) [] E (cC F m) tU):=by
 rintro σ H Q ⟨G,ρ,r,h⟩;unfold jE at h;refine⟨G,ρ,r,?_⟩;cases aq:m ρ with
 |bad=>rw[aq]at h;exact h.elim
 |exc c=>rw[aq]at h;exact h
 |ok d=>
  rw[aq,R.bt]at h;intro x H1 aJ ar s1 bL;cases d with
  |ins d8 ns ds=>
   simp only[og]at h
   split at h
   ·rename_i hc;obtain⟨sE,nD⟩:=hc;subst sE;have yl:=bL;simp only[At]at bL;obtain⟨q,aN,xs,rfl,⟨iy,bu,g1⟩,rfl,al⟩:=bL;have:=bu.inj fU;subst this;refine⟨q,aN,xs,rfl,ar.aH.sub _ _ g1,z_ nD,?_⟩;rw[R.bt]at h;have h:ie F G H σ ρ Q ((mf [.ins d8 (xs.map (·.1)) ds]).bind ji):=h;show kS F.K (0+1) mf ([V.ref q]++[]) H1 Q E;rw[List.append_nil];exact Jb (xe:=fun _ _ _=>False) hx ar (.cons yl .nil) (by simp) (h.mono s1)
   ·exact h.elim
  |_=>exact h.elim
theorem Ky {o:Expr} {aU mt:Str} {k:Nat} {mf:List D→R bZ} {pl:Sem Bool} {apos:Pos} (c:l8 X.prog X.w X.K X.mg X.base aU mt 0 k mf) (hr:c4 k X.A) (he:aW X F o m) (hE:F.gM=fun _ _=>False:=by rfl) (hK:F.K=X.K:=by rfl)(ht:eval (.Call (.Attribute o mt apos) [] [] pos) X.env=(do
    let dF ←eval o X.env
    standAt apos.atName
    let(f,first) ←holding [dF] (getMethod dF mt pl)
    callWith pos f first (backTo pos (starEach [] X.env)) (backToKw pos (keywordEach [] X.env))):=by rfl) :
  aW X F (.Call (.Attribute o mt apos) [] [] pos) (jE aU mt 0 mf m av):=by
 obtain⟨C,f,fd,ps,bu,c5,eM,hA,hb⟩:=c.ex;refine⟨aT.imp (Uk (pl:=pl) he.1 c5 eM hA hr hb .nil tE ht) ?_⟩;rw[←hK];exact P9 hE (by rw[hK];exact bu)
end
end ax
namespace aQ
open PySem PySem.Spec PyProof.Rows
section
variable{X:aC}{elts:List Expr}{cb:Nat}{rA:Pos}
end
end aQ
namespace ax
open PySem PySem.Spec aQ PyProof.Rows
section
variable{X:aC}{F:a4}{a b:Expr}{pos p:Pos}{ma:aO}
end
end ax
namespace ax
open PySem PySem.Spec aQ
section
variable{K:PySem.W.Frag}{G G':ag}
end
section
variable{F:a4}
end
section
variable{X:aC}{F:a4}{e:Expr}
end
def hJ(m:az):az:=fun ρ=>eU (m ρ)
section
variable{K:PySem.W.Frag}{bO bg:ag}{E:cO}
theorem RX{m:az}:en (cC (gS K bO bg E) (hJ m)) (cC (eB K bO bg) m):=by
 rintro σ H Q ⟨G,ρ,r,h⟩;unfold hJ at h;refine⟨G,ρ,r.i5 rfl rfl rfl,?_⟩;cases e:m ρ with
 |bad=>rw[e]at h;exact h.elim
 |exc c=>rw[e]at h;exact h.elim
 |ok b=>rw[e]at h;exact fun v H' G' a8 u a=>h v H' G' (a8.i5 rfl rfl rfl) u a
end
section
variable{X:aC}{e:Expr}{K:PySem.W.Frag}{bO bg:ag}{E:cO}{m:az}
theorem Ye{t:TE}(h:aT X.fo e t):aT X e t:=fun pins s σ H Q I q=>wpAny_mono (h pins s σ H Q (I.hQ _) q) (fun _ s'⟨v,H',bx,r,z⟩=>⟨v,H',bx.gI,r,z⟩) fun _ _ z=>z.elim
theorem p8(h:aW X.fo (eB K bO bg) e m):aW X (gS K bO bg E) e (hJ m):=⟨fun pins s σ H Q I q=>Ye h.1 pins s σ H Q I (RX σ H Q q)⟩
end
section
variable{F:a4}
end
section
variable{X:aC}{F:a4}{e o:Expr}{es:List Expr}{pos:Pos}{ma:aO}{m n:az}
end
section
variable{F:a4}{G H:ag}{σ :aQ.St}{ρ:aj}
end
section
variable{X:aC}{F:a4}{e c:Expr}{pos:Pos}{m:az}
end
section
variable{X:aC}{F:a4}{e c:Expr}{pos:Pos}{m:az}
end
section
variable{F:a4}
end
section
variable{X:aC}{F:a4}{k:Expr}{pos:Pos}{mk:az}
end
section
variable{X:aC}{F:a4}{es:List Expr}{pos:Pos}{ma:aO}
end
section
variable{F:a4}
end
section
variable{X:aC}{F:a4}{e:Expr}{pos:Pos}
end
section
variable{X:aC}{F:a4}{e:Expr}{pos:Pos}
end
section
variable{X:aC}
end
section
variable{X:aC}{F:a4}{o e:Expr}{m n:az}
end
section
variable{X:aC}{F:a4}{e:Expr}{ma:aO}
end
end ax
namespace ax
open PySem PySem.Spec aQ PyProof.Rows
abbrev lj:=aj→R Unit
noncomputable def EQ(X:aC)(F:a4)(G:ag)(σ :aQ.St)(ρ:aj)(r:R Unit):cO:=fun C _ H'=>∃(aU:Str)(jT:Addr)(G':ag),r=.exc aU∧C=.ref jT∧eG X.K aU jT∧Rel F G' H' σ ρ∧Sub G G'
theorem EQ.mono{X:aC}{F:a4}{G aJ:ag}{σ :aQ.St}{ρ:aj}{r:R Unit}(s:Sub G aJ){C:Value}{a:Option Addr}{H:ag}(h:EQ X F aJ σ ρ r C a H):EQ X F G σ ρ r C a H:=by obtain⟨aU,jT,G',ak,ay,b4,ep,gh⟩:=h;exact⟨aU,jT,G',ak,ay,b4,ep,s.trans gh⟩
structure qr(X:aC)(F:a4)(jK:List Stmt)(m:lj):Prop where
 q:∀(pins:List (Addr×Obj))(s:Shared)(σ :aQ.St)(H G:ag)(ρ:aj),Inv X pins σ H s→Rel F G H σ ρ→m ρ≠.bad→(∀c,m ρ=.exc c→∃C,eG X.K c C)→
  wpAny (model X.prog X.w) X.A (execs jK X.env) (fun fl s'=>fl=.next∧m ρ=.ok ()∧∃G' H',Inv X pins σ H' s'∧Rel F G' H' σ ρ∧Sub G G')
   (fun x s'=>∃H1 s1,Inv X pins σ H1 s1∧ft X.prog X.w X.stack H1 s1 (EQ X F G σ ρ (m ρ)) x s') s
section
variable{X:aC}{F:a4}{e:Expr}{es:List Expr}{pos p:Pos}{ma:aO}
def mH(k:bY)(a b:lj):lj:=fun ρ=>(eU (k ρ)).bind fun c=>if c=true then a ρ else b ρ
theorem KI{c:Expr}{st Jq:List Stmt}{k:bY}{a b:lj}(h:eS X.fo F c k)(ha:qr X F st a)(hb:qr X F Jq b):qr X F [.If c st Jq pos] (mH k a b):=by
 refine⟨fun pins s σ H G ρ I r nb hc=>?_⟩;unfold mH at nb hc ⊢;cases er:k ρ with
 |bad=>rw[er]at nb;exact absurd rfl nb
 |exc c=>rw[er]at nb;exact absurd rfl nb
 |ok c=>
  rw[er]at nb hc;simp only[eU,R.bt]at nb hc ⊢;have t:=h.1 pins s σ H (fun d H1=>d=c∧∃aJ,Rel F aJ H1 σ ρ∧Sub G aJ) (I.hQ _) ⟨G,ρ,r,by rw[er];exact fun H' G' a8 u=>⟨rfl,G',a8,u.g⟩⟩;refine wpAny_execs_cons (wpAny_If (wpAny_mono t (fun d s1⟨H1,aL,dy,aJ,ar,s2⟩=>?_) fun _ _ z=>z.elim));subst dy;have bx:=aL.gI;cases d with
  |true=>
   simp only[if_true]at nb hc;refine wpAny_mono (ha.q pins s1 σ H1 aJ ρ bx ar nb hc) (fun fl s3⟨aM,a_,cI,aS,c_,hL,jI⟩=>?_) fun x s3⟨cQ,s4,aM,a_⟩=>?_
   ·subst aM;exact wpAny_execs_nil ⟨rfl,by simpa using a_,cI,aS,c_,hL,s2.trans jI⟩
   ·obtain⟨a,C,eh,B,H',ak,ay,b4⟩:=a_;exact⟨cQ,s4,aM,a,C,eh,B,H',ak,ay,by simpa using b4.mono s2⟩
  |false=>
   simp only[Bool.false_eq_true,if_false]at nb hc;refine wpAny_mono (hb.q pins s1 σ H1 aJ ρ bx ar nb hc) (fun fl s3⟨aM,a_,cI,aS,c_,hL,jI⟩=>?_) fun x s3⟨cQ,s4,aM,a_⟩=>?_
   ·subst aM;exact wpAny_execs_nil ⟨rfl,by simpa using a_,cI,aS,c_,hL,s2.trans jI⟩
   ·obtain⟨a,C,eh,B,H',ak,ay,b4⟩:=a_;exact⟨cQ,s4,aM,a,C,eh,B,H',ak,ay,by simpa using b4.mono s2⟩
def xo{α:Type}:R α→R Unit
 |.ok _=>.ok ()
 |.exc c=>.exc c
 |.bad=>.bad
noncomputable def g6{α:Type}(n:Nat)(mf:List D→R α)(ma:aO):lj:=fun ρ=>(eU (ma ρ)).bind fun ds=>if ds.length=n then xo (mf ds)else .bad
theorem KH{x:Str}{n k:Nat}{mf:List D→R bZ}{p bG mQ:Pos}(c:oN X.prog X.w X.K X.mg X.base x n k mf)(hr:c4 k X.A)(ha:e8 X.fo F (e::es) ma)(hK:F.K=X.K:=by rfl)(hg:cy X x:=by rfl)(mx:(x==("__debug__" :Str))=false:=by decide)(kH:swapsWith (.Call (.Name x p) (e::es) [] bG) none mQ.line X.env=pure false:=by rfl)(he:starEach (e::es) X.env=(false,eval e X.env)::starEach es X.env:=by rfl)(hpl:(backTo bG (starEach es X.env)).any (·.1)=false:=by rfl):qr X F [.Expr (.Call (.Name x p) (e::es) [] bG) mQ] (g6 n mf ma):=by
 obtain⟨f,fd,ps,aE,hA,hm,hk,hb⟩:=c.ex;refine⟨fun pins s σ H G ρ I r nb hc=>?_⟩;have T:∀{v:V},tS (oj F.K n (xy F.K) mf) [] (EQ X F G σ ρ (g6 n mf ma ρ)) (ee F ma) σ H (fun _ H1=>g6 n mf ma ρ=.ok ()∧∃aJ,Rel F aJ H1 σ ρ∧Sub G aJ):=fun{_}=>by
  refine⟨G,ρ,r,?_⟩;unfold g6 at nb hc ⊢;cases aq:ma ρ with
  |bad=>rw[aq]at nb;exact absurd rfl nb
  |exc c=>rw[aq]at nb;exact absurd rfl nb
  |ok ds=>
   rw[aq]at nb hc;simp only[eU,R.bt]at nb hc ⊢;intro vs H1 aJ ar s1 bb;by_cases hd:ds.length=n
   ·rw[if_pos hd]at nb hc ⊢;rw[List.append_nil];refine⟨aJ,ds,ar.aH.sub,bb,hd,?_⟩;cases em:mf ds with
    |bad=>rw[em]at nb;exact absurd rfl nb
    |exc aU=>intro G' H' cb;rw[em]at hc;obtain⟨oD,bu⟩:=hc aU rfl;rw[hK];exact⟨oD,bu,fun a _=>⟨aU,oD,G',rfl,rfl,bu,ef.of ar cb,s1.g.trans cb.e1⟩⟩
    |ok tt=>
     cases tt with
     |v d=>exact fun v G' H' cb _=>⟨rfl,G',ef.of ar cb,s1.g.trans cb.e1⟩
     |o es=>exact fun a xs G' H' cb _ _ _ _=>⟨rfl,G',ef.of ar cb,s1.g.trans cb.e1⟩
     |t eu=>exact fun v G' H' cb _=>⟨rfl,G',ef.of ar cb,s1.g.trans cb.e1⟩
   ·rw[if_neg hd]at nb;exact absurd rfl nb
 refine wpAny_execs_cons (wpAny_Expr_any (wpAny_mono (Ur (by rw[hK];exact hA) hr hg hm hk hb ha.1 mx he hpl pins s σ H _ I (T (v:=.non))) (fun v s1 hv=>?_) (fun y s' bJ=>bJ)) I.quiet kH);obtain⟨y,H1,aL,ar,aM,aJ,a_,c_⟩:=hv;exact wpAny_execs_nil ⟨rfl,aM,aJ,H1,aL,a_,c_⟩
theorem Zb{x:Str}{n k:Nat}{mf:List D→R (List Str×List D)}{p bG mQ:Pos}(c:x5 X.prog X.w X.K X.mg X.base x n k mf)(hr:c4 (k+1) X.A)(ha:e8 X.fo F (e::es) ma)(hK:F.K=X.K:=by rfl)(hg:cy X x:=by rfl)(mx:(x==("__debug__" :Str))=false:=by decide)(kH:swapsWith (.Call (.Name x p) (e::es) [] bG) none mQ.line X.env=pure false:=by rfl)(he:starEach (e::es) X.env=(false,eval e X.env)::starEach es X.env:=by rfl)(hpl:(backTo bG (starEach es X.env)).any (·.1)=false:=by rfl):qr X F [.Expr (.Call (.Name x p) (e::es) [] bG) mQ] (g6 n mf ma):=by
 obtain⟨rM,f,fd,ps,fU,c5,hA,hm,hb⟩:=c.ex;refine⟨fun pins s σ H G ρ I r nb hc=>?_⟩;have T:xf rM (w4 F.K x n mf) [] (EQ X F G σ ρ (g6 n mf ma ρ)) (ee F ma) σ H (fun _ H1=>g6 n mf ma ρ=.ok ()∧∃aJ,Rel F aJ H1 σ ρ∧Sub G aJ):=by
  refine⟨G,ρ,r,?_⟩;unfold g6 at nb hc ⊢;cases aq:ma ρ with
  |bad=>rw[aq]at nb;exact absurd rfl nb
  |exc c=>rw[aq]at nb;exact absurd rfl nb
  |ok ds=>
   rw[aq]at nb hc;simp only[eU,R.bt]at nb hc ⊢;intro vs H1 aJ ar s1 bb y aN bJ mx ne;by_cases hd:ds.length=n
   ·rw[if_pos hd]at nb hc ⊢;rw[List.append_nil];have pW:=Su (C:=rM) bJ mx;have AQ:Sub aJ (upd (upd H1 aN (.own y)) y (.ins rM aN [])):=ar.aH.sub.trans (pW.trans (yX _ _));refine⟨aJ,y,rM,aN,ds,vs,rfl,by rw[hK];exact fU,d0,ar.aH.sub.gone bJ,AQ,bb,hd,?_⟩;have FJ:∀{G' H':ag}{E:cO},ef (gS F.K aJ (del (upd (upd H1 aN (.own y)) y (.ins rM aN [])) y) E) G' H'→Rel F G' H' σ ρ∧Sub G G':=fun{G' H' _} k=>
     ⟨ar.grow k.e1 k.sub (pW.trans k.hh) fun b hb=>k.new b (pW.some hb),s1.g.trans k.e1⟩
    cases em:mf ds with
    |bad=>rw[em]at nb;exact absurd rfl nb
    |exc aU=>intro G' H' cb;rw[em]at hc;obtain⟨oD,bu⟩:=hc aU rfl;obtain⟨jM,iu⟩:=FJ cb;rw[hK];exact⟨oD,bu,fun a _=>⟨aU,oD,G',rfl,rfl,bu,jM,iu⟩⟩
    |ok tt=>obtain⟨ns,es'⟩:=tt;intro qH xs G' H' k g1 g2 g3 kG;obtain⟨jM,iu⟩:=FJ k;exact⟨rfl,rfl,G',jM,iu⟩
   ·rw[if_neg hd]at nb;exact absurd rfl nb
 refine wpAny_execs_cons (wpAny_Expr_any (wpAny_mono (Us c5 (by rw[hK];exact hA) hr hg hm hb ha.1 mx he hpl pins s σ H _ I T) (fun v s1 hv=>?_) (fun y s' bJ=>bJ)) I.quiet kH);obtain⟨y,H1,aL,ar,aM,aJ,a_,c_⟩:=hv;exact wpAny_execs_nil ⟨rfl,aM,aJ,H1,aL,a_,c_⟩
noncomputable def pI(i:Nat)(cs:List Str)(ka:lj)(ms:a0):a0:=fun ρ=>if i<ρ.length then match ka ρ with
    |.ok _=>.ok (.bk ρ)
    |.exc c=>if cs.contains c=true then(eU (ms (ρ.set i (.aw (.i8 c))))).bind (B4 i)else .bad
    |.bad=>.bad
 else .bad
theorem Zh(i:Nat){W nm:Str}{cs:List Str}{ka:lj}{ms:a0}{u6:Stmt}{body w9:List Stmt}{np zL:Pos}(hN:X.N.Nodup)(t:C3 X.K X.mg W cs)(aK:qr X F body ka)(hs:∀a,hY (X.marked a) F (u6::w9) ms)(hK:F.K=X.K:=by rfl)(hi:X.N[i]?=some nm:=by rfl)(hl:X.env.scope.names.lookup nm=some .local:=by rfl)(hst:X.stack=X.env::X.outer:=by rfl)(nE:X.env.frame=some X.env.locals:=by rfl)(hex:X.ex=[]:=by rfl)(OR:cy X W:=by rfl)(hd:(W==("__debug__" :Str))=false:=by decide) :
  e0 X F (.Try body [.ExceptHandler (some (.Name W np)) (some nm) (u6::w9) zL] [] [] pos) (pI i cs ka ms):=by
 obtain⟨ug,Oz,sH⟩:=t.ex;refine⟨fun pins s σ H cu I q=>?_⟩;obtain⟨G,ρ,r,h⟩:=q;unfold pI at h;by_cases pq:i<ρ.length
 rotate_left
 ·rw[if_neg pq]at h;exact h.elim
 rw[if_pos pq]at h;have nb:ka ρ≠.bad:=fun z=>by rw[z]at h;exact h.elim
 have sF:∀c,ka ρ=.exc c→cs.contains c=true:=fun c z=>by
  rw[z]at h;simp only at h;by_cases hc:cs.contains c=true
  ·exact hc
  ·rw[if_neg hc]at h;exact h.elim
 refine wpAny_Try_except (wpAny_mono (aK.q pins s σ H G ρ I r nb fun c z=>(sH c (sF c z)).imp fun _ x=>x.1) (fun fl s1 hv=>?_) (fun y s' bJ=>?_))
 ·obtain⟨aM,a_,G',H',c_,hL,jI⟩:=hv;subst aM;rw[a_]at h;exact wpAny_execs_nil ⟨σ,H',c_,h σ G' H' hL jI⟩
 ·obtain⟨H1,s1,aL,a,C,eh,B,H',rfl,fl,aU,jT,G',em,rfl,bu,a8,hO⟩:=bJ;have hc:=sF aU em;rw[em]at h;simp only at h;rw[if_pos hc]at h;have O9:PySem.W.exmOne X.K (.ref jT) (.ref ug)=some true:=by
   obtain⟨oD,d1,cn⟩:=sH aU hc;have:oD=jT:=by unfold eG at bu d1;rw[bu]at d1;cases d1;rfl
   subst this;exact cn
  have lB:=fl.lB;rw[hst]at lB;have i_:X.A.frames=some (X.env::X.outer):=by rw[←hst];exact aL.ok.frames
  refine wpAny_looks_onW i_ nE lB fun qU OM J6=>?_;refine wpAny_landsW OM fun fV vr J7=>?_;have l5:Inv X pins σ H' { s' with heap:=fV }:=fl.inv aL vr.1 (by rw[hst];exact vr.2.2.1) (J6.trans J7);refine wpAny_handleBy_cons (codeAny_handlers_test (pA (X:=X.marked a) (l5.marked a) OR Oz ?_ hd)) (by intro q;cases q);obtain⟨aV,Pd,Pe⟩:=vr.there;have LT:PySem.W.Looks (model X.prog X.w) fV (typeOf (.ref a)) (.ref jT):=by rw[←Pe];exact(PySem.W.Looks.ld Pd).andThen .now
  refine(PySem.W.exm_one (K:=X.K) l5.eC LT O9).here ?_;refine codeAny_handlers_suite_as ?_;refine lands_againW vr fun PF zj Yi=>?_;have oK:Inv X pins σ (upd H' a (qI a (.ref jT))) { s' with heap:=PF }:=fl.XU aL hex zj.1 (by rw[hst];exact zj.2.2.1) ((J6.trans J7).trans Yi) (by obtain⟨o,q,c⟩:=zj.there;exact⟨o,q,c⟩);refine BQ (X:=X) (v:=.ref a) oK hN hi (.inl hl) rfl (fun c1 iA=>?_) (.inr hl);have b7:=(a8.lay (o:=qI a (.ref jT)) fl.ha).set (d:=.i8 aU) (v:=.ref a) pq (by simp only[At];exact⟨a,[],rfl,⟨jT,by rw[hK];exact bu,d0⟩,rfl⟩)
  have BS:Sub G (upd G' a (qI a (.ref jT))):=hO.trans (Sub.upd (a8.aH.sub.gone fl.ha));refine wpAny_mono ((hs a).1 pins c1 _ _ { bk:=fun σ2 aS=>cu.bk (σ2.set i none) aS,dG:=cu.dG,ez:=fun σ2 aS=>cu.ez (σ2.set i none) aS,ck:=fun σ2 aS=>cu.ck (σ2.set i none) aS } (iA.marked a) ⟨_,_,b7,?_⟩) (fun N_ lR oa=>?_) fun _ _ z=>z.elim
  ·cases y7:ms (ρ.set i (.aw (.i8 aU)))with
   |bad=>rw[y7]at h;exact h.elim
   |exc c=>rw[y7]at h;exact h.elim
   |ok fl=>
    rw[y7]at h;cases fl with
    |bk bh=>exact fun σ2 cI aS a5 s2=>h (σ2.set i none) cI aS (a5.yP i) (BS.trans s2)
    |ez bh=>exact fun σ2 cI aS a5 s2=>h (σ2.set i none) cI aS (a5.yP i) (BS.trans s2)
    |ck bh=>exact fun σ2 cI aS a5 s2=>h (σ2.set i none) cI aS (a5.yP i) (BS.trans s2)
    |dG d=>exact h
    |hM d=>exact h
    |dO d=>exact h
  cases N_ with
  |next=>obtain⟨σ',xW,bx,q⟩:=oa;exact xq (bx.unmarked I.ok) hN hi hl fun lS oM=>⟨_,_,oM,q⟩
  |brk=>obtain⟨σ',xW,bx,q⟩:=oa;exact xq (bx.unmarked I.ok) hN hi hl fun lS oM=>⟨_,_,oM,q⟩
  |cont=>obtain⟨σ',xW,bx,q⟩:=oa;exact xq (bx.unmarked I.ok) hN hi hl fun lS oM=>⟨_,_,oM,q⟩
  |ret u=>obtain⟨v,σ',xW,bx,r,q⟩:=oa;exact xq (bx.unmarked I.ok) hN hi hl fun lS oM=>⟨v,_,_,oM,r,q⟩
def q7(m:az):gO:=fun ρ=>(m ρ).bind fun _=>.ok ρ
theorem Y_{m:az}(h:aW X F e m)(hs:ik e=true:=by rfl):r4 X F (.Expr e pos) (q7 m):=by
 refine⟨c7.imp (tH h.1 (kV _ _ _ _ hs)) ?_⟩;rintro cu σ H ⟨G,ρ,r,h⟩;unfold q7 at h;refine⟨G,ρ,r,?_⟩;cases aq:m ρ with
 |bad=>rw[aq]at h;exact h.elim
 |exc c=>rw[aq]at h;exact h
 |ok d=>rw[aq]at h;exact fun v H' G' a8 u _=>h G' H' a8
theorem Zd{jK:List Stmt}:hY X F jK nU:=⟨fun _ _ _ _ _ _⟨_,_,_,h⟩=>h.elim⟩
end
end ax
namespace ax
open PySem PySem.Spec aQ
@[simp] theorem dU{α β:Type}(a:α)(k:α→R β):(R.ok a).bind k=k a:=(rfl)
@[simp] theorem ack{α β:Type}(k:α→R β):(R.bad:R α).bind k=.bad:=(rfl)
@[simp] theorem acm{α β:Type}(c:Str)(k:α→R β):(R.exc c:R α).bind k=.exc c:=(rfl)
def ki(b:a0):e7→R e7
 |.bk ρ=>b ρ
 |f=>.ok f
@[simp] theorem rC(a b:a0)(ρ:aj):bf a b ρ=(a ρ).bind (ki b):=by unfold bf;congr 1
@[simp] theorem Je(b:a0)(ρ:aj):ki b (.bk ρ)=b ρ:=(rfl)
@[simp] theorem aa7(b:a0)(d:D):ki b (.dG d)=.ok (.dG d):=(rfl)
@[simp] theorem aa6(b:a0)(d:List D):ki b (.hM d)=.ok (.hM d):=(rfl)
def wQ:Option dc→R D
 |some (.aw d)=>.ok d
 |_=>.bad
@[simp] theorem v_var(i:Nat)(ρ:aj):J i ρ=wQ ρ[i]?:=by unfold J wQ;rfl
@[simp] theorem aaU(d:D):wQ (some (.aw d))=.ok d:=(rfl)
@[simp] theorem J8(d:D)(ρ:aj):ai d ρ=.ok d:=(rfl)
@[simp] theorem abp(f:D→D→R D)(a b:az)(ρ:aj):ao f a b ρ=(a ρ).bind fun x=>(b ρ).bind fun y=>f x y:=(rfl)
@[simp] theorem acf(f:D→R D)(a:az)(ρ:aj):cq f a ρ=(a ρ).bind f:=(rfl)
@[simp] theorem ov(ρ:aj):av ρ=.ok []:=(rfl)
@[simp] theorem t4(a:az)(r:aO)(ρ:aj):ae a r ρ=(a ρ).bind fun x=>(r ρ).bind fun xs=>.ok (x::xs):=(rfl)
def tY(xs:List D):R D:=if xs.length≤1000000 then .ok (.tup xs)else .bad
@[simp] theorem Yr(m:aO)(ρ:aj):cE m ρ=(m ρ).bind tY:=(rfl)
@[simp] theorem abd{xs:List D}(h:xs.length≤1000000):tY xs=.ok (.tup xs):=if_pos h
@[simp] theorem Cb(m:aO)(ρ:aj):b5 m ρ=(m ρ).bind fun xs=>.ok (.lst xs):=(rfl)
@[simp] theorem Cd(m:aO)(ρ:aj):cT m ρ=(m ρ).bind lim:=(rfl)
@[simp] theorem abk(m:az)(ρ:aj):bc m ρ=(m ρ).bind iZ:=(rfl)
@[simp] theorem ZH(b:Bool):iZ (.au b)=.ok b:=(rfl)
@[simp] theorem v_and(a b:bY)(ρ:aj):mE a b ρ=(a ρ).bind fun c=>if c=true then b ρ else .ok false:=(rfl)
@[simp] theorem v_or(a b:bY)(ρ:aj):fk a b ρ=(a ρ).bind fun c=>if c=true then .ok true else b ρ:=(rfl)
@[simp] theorem v_not(a:bY)(ρ:aj):dT a ρ=(a ρ).bind fun c=>.ok (!c):=(rfl)
@[simp] theorem abl(a b:az)(ρ:aj):jC a b ρ=(a ρ).bind fun x=>(iZ x).bind fun c=>if c=true then b ρ else .ok (.au false):=(rfl)
@[simp] theorem abF(c:bY)(a b:a0)(ρ:aj):cL c a b ρ=(c ρ).bind fun k=>if k=true then a ρ else b ρ:=(rfl)
@[simp] theorem abV(ρ:aj):cU ρ=.ok (.bk ρ):=(rfl)
@[simp] theorem ab8(a:az)(ρ:aj):b6 a ρ=(a ρ).bind fun d=>.ok (.dG d):=(rfl)
@[simp] theorem ab9(a:aO)(ρ:aj):hH a ρ=(a ρ).bind fun d=>.ok (.hM d):=(rfl)
@[simp] theorem Yp(i:Nat)(d:D)(ρ:aj):bN i d ρ=if i<ρ.length then .ok (ρ.set i (.aw d))else .bad:=(rfl)
@[simp] theorem Kb(i:Nat)(a:az)(ρ:aj):c3 i a ρ=(a ρ).bind fun d=>(bN i d ρ).bind fun bh=>.ok (.bk bh):=(rfl)
@[simp] theorem Yo(i:Nat)(a:aO)(ρ:aj):gq i a ρ=(a ρ).bind fun ds=>if i<ρ.length then .ok (.bk (ρ.set i (.c6 ds)))else .bad:=(rfl)
@[simp] theorem ab_(i:Nat)(a:e3)(ρ:aj):rf i a ρ=(a ρ).bind fun x=>(bN i x.1 x.2).bind fun bh=>.ok (.bk bh):=(rfl)
@[simp] theorem abD(a:e3)(ρ:aj):q6 a ρ=(a ρ).bind fun x=>.ok (.bk x.2):=(rfl)
@[simp] theorem abw(f:List D→R D)(m:aO)(ρ:aj):cN f m ρ=(m ρ).bind f:=(rfl)
@[simp] theorem abr(n:Nat)(mf:List D→R bZ)(m:aO)(ρ:aj):b8 n mf m ρ=(m ρ).bind fun ds=>if ds.length=n then(mf ds).bind ji else .bad:=(rfl)
@[simp] theorem Yj(n:Nat)(mf:List D→R bZ)(m:aO)(ρ:aj):iL n mf m ρ=(m ρ).bind fun ds=>if ds.length=n then(mf ds).bind AL else .bad:=(rfl)
theorem Yk(mi:aO)(set:D→aj→R aj)(body:a0)(ρ:aj):eE mi set body ρ=(mi ρ).bind fun ds=>fT set body ds ρ:=(rfl)
@[simp] theorem ab6(m:aO)(ρ:aj):fY m ρ=(m ρ).bind mS:=(rfl)
@[simp] theorem J_(m:az)(ρ:aj):fX m ρ=(m ρ).bind BG:=(rfl)
@[simp] theorem v_bor(m:az)(ρ:aj):nV m ρ=(m (ea ρ)).bind tC:=(rfl)
@[simp] theorem abq(m:bY)(ρ:aj):j8 m ρ=m (ea ρ):=(rfl)
theorem J9(nl:Nat)(caps:List Nat)(mi:aO)(set:D→aj→R aj)(tst:bY)(elt:az)(ρ:aj):dZ nl caps mi set tst elt ρ=(mi ρ).bind fun ds=>eU (fL set tst elt ds (lq nl caps ρ) []):=(rfl)
@[simp] theorem ZE(i j:Int):d3 (.int i) (.int j)=.ok (.int (i+j)):=(rfl)
@[simp] theorem aa9(i j:Int):lU (.int i) (.int j)=.ok (.int (i-j)):=(rfl)
@[simp] theorem aaG{i j:Int}(h1: -18446744073709551616<i)(h2:i<18446744073709551616):kb (.int i) (.int j)=.ok (.int (i*j)):=if_pos (Or.inl ⟨h1,h2⟩)
@[simp] theorem mul_r{i j:Int}(h1: -18446744073709551616<j)(h2:j<18446744073709551616):kb (.int i) (.int j)=.ok (.int (i*j)):=if_pos (Or.inr ⟨h1,h2⟩)
@[simp] theorem ZU{i j:Int}(h1:0<j)(h2:j<1073741824):gi (.int i) (.int j)=.ok (.int (i/j)):=if_pos ⟨h1,h2⟩
@[simp] theorem aaF{i j:Int}(h:0<j):dM (.int i) (.int j)=.ok (.int (i%j)):=if_pos h
@[simp] theorem aaT{i:Int}{j:Nat}(h:j≤1000000)(h1: -1000000<i)(h2:i<1000000):kf (.int i) (.int (j:Int))=.ok (.int (i^j)):=by have:rN i (j:Int):=⟨by omega,by omega,by omega⟩;simp only[kf,jy,if_pos this,Int.toNat_natCast]
theorem UM:kf (.int 10) (.int 6)=.ok (.int 1000000):=(rfl)
theorem UL:kf (.int 10) (.int 30)=.ok (.int 1000000000000000000000000000000):=(rfl)
@[simp] theorem aaB(i j:Int):nT (.int i) (.int j)=.ok (.au (decide (i<j))):=(rfl)
@[simp] theorem aau(i j:Int):kN (.int i) (.int j)=.ok (.au (decide (i≤j))):=(rfl)
@[simp] theorem Z5(i j:Int):qN (.int i) (.int j)=.ok (.au (decide (j<i))):=(rfl)
@[simp] theorem ZR(i j:Int):cW true (.int i) (.int j)=.ok (.au (i==j)):=(rfl)
@[simp] theorem aaH(i j:Int):cW false (.int i) (.int j)=.ok (.au (!(i==j))):=(rfl)
@[simp] theorem aav(xs:List D):dJ [.lst xs]=.ok (.int xs.length):=(rfl)
@[simp] theorem aax(xs:List D):dJ [.tup xs]=.ok (.int xs.length):=(rfl)
@[simp] theorem aaw(xs:List D):dJ [.cx xs]=.ok (.int xs.length):=(rfl)
@[simp] theorem aaZ(d:D):ji (.v d)=.ok d:=(rfl)
@[simp] theorem aaX(ds:List D):ji (.o ds)=.ok (.lst ds):=(rfl)
@[simp] theorem VA(ds:List D):AL (.o ds)=.ok ds:=(rfl)
@[simp] theorem aaR(d:D):outD (.dG d)=.ok (.v d):=(rfl)
@[simp] theorem aaQ(d:List D):outD (.hM d)=.ok (.o d):=(rfl)
@[simp] theorem t5(N:Nat)(m:a0)(ds:List D):cS N m ds=(m (hD N ds)).bind outD:=(rfl)
def Av:Option dc→R (List D)
 |some (.c6 ds)=>.ok ds
 |_=>.bad
@[simp] theorem ab1(i:Nat)(ρ:aj):ownAt i ρ=Av ρ[i]?:=by unfold ownAt Av;rfl
@[simp] theorem aaS(ds:List D):Av (some (.c6 ds))=.ok ds:=(rfl)
@[simp] theorem ZV(set:D→aj→R aj)(body:a0)(ρ:aj):fT set body [] ρ=.ok (.bk ρ):=(rfl)
theorem Fx{set:D→aj→R aj}{body:a0}(I:Nat→aj→Prop):∀(ds:List D)(i:Nat)(ρ:aj),(∀(j:Nat) d ρ,ds[j]?=some d→I (i+j) ρ→∃dQ bh,set d ρ=.ok dQ∧body dQ=.ok (.bk bh)∧I (i+j+1) bh)→I i ρ→∃bh,fT set body ds ρ=.ok (.bk bh)∧I (i+ds.length) bh
 |[],i,ρ,_,h=>⟨ρ,rfl,h⟩
 |d::ds,i,ρ,st,h=>by
  obtain⟨dQ,ey,ak,ay,h2⟩:=st 0 d ρ rfl h;obtain⟨bh,b4,h3⟩:=Fx I ds (i+1) ey (fun j d ρ e hi=>by obtain⟨a,b,bu,c5,eM⟩:=st (j+1) d ρ (by simpa using e) (by rw[show i+(j+1)=i+1+j by omega];exact hi);exact⟨a,b,bu,c5,by rw[show i+1+j+1=i+(j+1)+1 by omega];exact eM⟩) (by simpa using h2)
  refine⟨bh,?_,by rw[List.length_cons,show i+(ds.length+1)=i+1+ds.length by omega];exact h3⟩;rw[fT,ak,dU,ay,dU];exact b4
theorem Fw{mi:aO}{set:D→aj→R aj}{body:a0}{ds:List D}{ρ:aj}(I:Nat→aj→Prop)(hi:mi ρ=.ok ds)(st:∀(j:Nat) d ρ,ds[j]?=some d→I j ρ→∃dQ bh,set d ρ=.ok dQ∧body dQ=.ok (.bk bh)∧I (j+1) bh)(h:I 0 ρ):∃bh,eE mi set body ρ=.ok (.bk bh)∧I ds.length bh:=by obtain⟨bh,e,h'⟩:=Fx I ds 0 ρ (fun j d ρ e cv=>by rw[Nat.zero_add]at cv ⊢;exact st j d ρ e cv) h;rw[Nat.zero_add]at h';exact⟨bh,by rw[Yk,hi,dU,e],h'⟩
@[simp] theorem ZK(d:D):gC (.aw d)=.aw d:=(rfl)
noncomputable def yj(i:Nat)(ρ:aj)(ds:List D)(d:D):R e7:=if ds.length<1000000 then .ok (.bk (ρ.set i (.c6 (ds++[d]))))else .bad
@[simp] theorem ZG{i:Nat}{ρ:aj}{ds:List D}{d:D}(h:ds.length<1000000):yj i ρ ds d=.ok (.bk (ρ.set i (.c6 (ds++[d])))):=if_pos h
@[simp] theorem abm(i:Nat)(m:az)(ρ:aj):jg i m ρ=(ownAt i ρ).bind fun ds=>(m ρ).bind fun d=>yj i ρ ds d:=(rfl)
@[simp] theorem abo(i:Nat)(m:e3)(ρ:aj):sX i m ρ=(ownAt i ρ).bind fun _=>(m ρ).bind fun x=>(ownAt i x.2).bind fun ds=>yj i x.2 ds x.1:=(rfl)
@[simp] theorem abN(m:az)(ρ:aj):lf m ρ=(m ρ).bind fun d=>.ok (d,ρ):=(rfl)
@[simp] theorem abO(m:aO)(ρ:aj):q2 m ρ=(m ρ).bind fun d=>.ok (d,ρ):=(rfl)
@[simp] theorem aby(a:e3)(r:iB)(ρ:aj):pD a r ρ=(a ρ).bind fun x=>(r x.2).bind fun y=>.ok (x.1::y.1,y.2):=(rfl)
@[simp] theorem ace(m:iB)(ρ:aj):pJ m ρ=(m ρ).bind fun x=>(tY x.1).bind fun d=>.ok (d,x.2):=by
  unfold pJ tY
  congr 1;funext x
  split<;>rfl
noncomputable def Ey(i:Nat)(ds:List D)(ρ:aj):D→R (D×aj)
 |.lst es=>if ds.length+es.length≤1000000 then .ok (.non,ρ.set i (.c6 (ds++es)))else .bad
 |_=>.bad
@[simp] theorem abE(i:Nat)(m:az)(ρ:aj):s6 i m ρ=(ownAt i ρ).bind fun ds=>(m ρ).bind fun d=>Ey i ds ρ d:=by unfold s6;congr 1
@[simp] theorem ZT{i:Nat}{ds es:List D}{ρ:aj}(h:ds.length+es.length≤1000000):Ey i ds ρ (.lst es)=.ok (.non,ρ.set i (.c6 (ds++es))):=if_pos h
noncomputable def wM(i:Nat)(ds:List D)(ρ:aj):D→R (D×aj)
 |.int k=>if-(2^63)≤k∧k<2^63 then match seqIndex? k ds.length with
  |some j=>match ds[j]? with
   |some y=>.ok (y,ρ.set i (.c6 (ds.eraseIdx j)))
   |none=>.bad
  |none=>.bad
  else .bad
 |_=>.bad
@[simp] theorem ab2(i:Nat)(m:az)(ρ:aj):pH i m ρ=(ownAt i ρ).bind fun ds=>(m ρ).bind fun d=>wM i ds ρ d:=by unfold pH;congr 1
theorem UH{i:Nat}{ds:List D}{ρ:aj}{k:Nat}(h:k<ds.length)(hl:ds.length<1000000):wM i ds ρ (.int (k:Int))=.ok (ds[k],ρ.set i (.c6 (ds.eraseIdx k))):=by
 have ei: -(2^63)≤(k:Int):=Int.le_trans (by decide) (Int.natCast_nonneg k);have dj:(k:Int)<2^63:=Int.lt_trans (b:=1000000) (by omega) (by decide);have s:seqIndex? (k:Int) ds.length=some k:=by rw[PySem.seqIndex_of (by omega) (by omega)];simp
 simp only[wM,if_pos (And.intro ei dj),s,List.getElem?_eq_getElem h]
noncomputable def Qy(i:Nat)(ds:List D)(ρ:aj)(y:D):D→R (D×aj)
 |.int k=>if 0≤k∧k<2^63∧ds.length<1000000 then .ok (.non,ρ.set i (.c6 (ds.take (min k.toNat ds.length)++y::ds.drop (min k.toNat ds.length))))else .bad
 |_=>.bad
@[simp] theorem abI(i:Nat)(m n:az)(ρ:aj):Hf i m n ρ=(ownAt i ρ).bind fun ds=>(m ρ).bind fun d=>(n ρ).bind fun y=>Qy i ds ρ y d:=by unfold Hf;congr 1
@[simp] theorem abP(m:aO)(ρ:aj):s8 m ρ=(m ρ).bind sW:=(rfl)
@[simp] theorem Yl(m:aO)(ρ:aj):jD m ρ=(m ρ).bind lH:=(rfl)
@[simp] theorem abJ(m:az)(ρ:aj):pE m ρ=(m ρ).bind B6:=(rfl)
@[simp] theorem acg(set:D→aj→R aj)(m:az)(ρ:aj):s_ set m ρ=(m ρ).bind fun d=>(set d ρ).bind fun bh=>.ok (.bk bh):=(rfl)
@[simp] theorem Ka(m:az)(ρ:aj):j9 m ρ=(m (ea ρ)).bind fun d=>.ok (.dG d):=(rfl)
@[simp] theorem abZ(a:az)(ρ:aj):q_ a ρ=(a ρ).bind fun x=>(iZ x).bind fun c=>.ok (.au (!c)):=(rfl)
@[simp] theorem aa1(ds:List D):BG (.lst ds)=.ok ds:=(rfl)
@[simp] theorem abe(ds:List D):B6 (.tup ds)=.ok ds:=(rfl)
@[simp] theorem aaz(ds:List D):lH [.lst ds]=.ok ds:=(rfl)
@[simp] theorem aay{xs:List D}(h:xs.length≤1000000):lim xs=.ok xs:=if_pos h
@[simp] theorem Z3:ea []=[]:=(rfl)
@[simp] theorem Z2(s:dc)(ρ:aj):ea (s::ρ)=nC s::ea ρ:=(rfl)
@[simp] theorem ZY(d:D):nC (.aw d)=.aw d:=(rfl)
@[simp] theorem Z1:nC .un=.un:=(rfl)
@[simp] theorem ZZ(ds:List D):nC (.aV (.lst ds))=.aw (.lst ds):=(rfl)
@[simp] theorem aaO(i:Int):tC (.int i)=.ok (.int i):=(rfl)
@[simp] theorem aaN(i:Bool):tC (.au i)=.ok (.au i):=(rfl)
@[simp] theorem S1{α:Type}(a:α):eU (R.ok a)=.ok a:=(rfl)
def Cj:Option dc→R (List D)
 |some (.aV (.lst ds))=>.ok ds
 |_=>.bad
@[simp] theorem ach(i:Nat)(ρ:aj):mI i ρ=Cj ρ[i]?:=by unfold mI Cj;rfl
@[simp] theorem acn(ds:List D):Cj (some (.c6 ds))=.ok ds:=(rfl)
@[simp] theorem abx(f g:D→D→R D)(a b c:az)(ρ:aj):iM f g a b c ρ=(a ρ).bind fun x=>(b ρ).bind fun y=>(f x y).bind fun z=>(iZ z).bind fun k=>if k=true then(c ρ).bind fun w=>g y w else .ok (.au false):=(rfl)
@[simp] theorem aao(N:Nat)(ds:List D):hD N ds=ds.map .aw++List.replicate (N-ds.length) .un:=(rfl)
theorem mB{xs:List D}{k:Nat}{d:D}(h:xs[k]?=some d):aG (.lst xs) (.int (k:Int))=.ok d:=by
 have hk:=(List.getElem?_eq_some_iff.mp h).1;have e:gf xs (k:Int)=some d:=by unfold gf jf;rw[if_pos (by omega),if_pos (by omega)];simpa using h
 simp only[aG,e]
theorem QV{xs:List D}{k:Nat}{d:D}(h:xs[k]?=some d):aG (.cx xs) (.int (k:Int))=.ok d:=by
 have hk:=(List.getElem?_eq_some_iff.mp h).1;have e:gf xs (k:Int)=some d:=by unfold gf jf;rw[if_pos (by omega),if_pos (by omega)];simpa using h
 simp only[aG,e]
theorem zY{xs:List D}{k:Nat}{d:D}(h:xs[k]?=some d):aG (.tup xs) (.int (k:Int))=.ok d:=by
 have hk:=(List.getElem?_eq_some_iff.mp h).1;have e:gf xs (k:Int)=some d:=by unfold gf jf;rw[if_pos (by omega),if_pos (by omega)];simpa using h
 simp only[aG,e]
theorem zX{ys:List Int}{k:Nat}(h:k<ys.length):aG (.lst (ys.map D.int)) (.int (k:Int))=.ok (.int ys[k]):=mB (by simp[h])
theorem jF(x:Int){n:Nat}(h:0<n):∃k:Nat,k<n∧x%(n:Int)=(k:Int):=by have h0:0≤x%(n:Int):=Int.emod_nonneg _ (by omega);have h1:x%(n:Int)<(n:Int):=Int.emod_lt_of_pos _ (by omega);obtain⟨k,e⟩:=Int.eq_ofNat_of_zero_le h0;exact⟨k,by omega,e⟩
@[simp] theorem aaW(n:Nat)(h:n<1000000):mS [.int (n:Int)]=.ok (fZ 0 n):=by have: -(2^62)≤(n:Int)∧(n:Int)<2^62:=⟨by omega,by omega⟩;simp only[mS,if_pos this,Int.toNat_natCast]
theorem IC{n j:Nat}{d:D}(h:(fZ 0 n)[j]?=some d):j<n∧d=.int (j:Int):=by
 unfold fZ at h;rw[List.getElem?_map]at h;cases e:(List.range n)[j]? with
 |none=>rw[e]at h;cases h
 |some k=>
  rw[e]at h;have cv:j<n:=by have:=(List.getElem?_eq_some_iff.mp e).1;simpa using this
  rw[List.getElem?_range cv]at e;cases e;simp at h;exact⟨cv,h.symm⟩
@[simp] theorem Vl(a:Int)(n:Nat):(fZ a n).length=n:=by simp[fZ]
@[simp] theorem acj{α β Zy:Type}(r:R α)(f:α→R β)(g:β→R Zy):(r.bind f).bind g=r.bind fun x=>(f x).bind g:=by cases r<;>rfl
def Ends{β:Type}(r:R β)(T:β→Prop):Prop:=∃b,r=.ok b∧T b
@[simp] theorem ZP{β:Type}(b:β)(T:β→Prop):Ends (.ok b) T=T b:=propext ⟨fun⟨c,e,h⟩=>by cases e;exact h,fun h=>⟨b,rfl,h⟩⟩
@[simp] theorem ZO{β:Type}(T:β→Prop):Ends (.bad) T=False:=propext ⟨fun⟨c,e,h⟩=>(by cases e),False.elim⟩
theorem Ends.bind{α β:Type}{r:R α}{k:α→R β}{S:α→Prop}{T:β→Prop}(h:Ends r S)(f:∀b,S b→Ends (k b) T):Ends (r.bind k) T:=by obtain⟨b,rfl,hb⟩:=h;exact f b hb
def rW(I:aj→Prop)(f:e7):Prop:=∃ρ,f=.bk ρ∧I ρ
@[simp] theorem ZD(I:aj→Prop)(ρ:aj):rW I (.bk ρ)=I ρ:=propext ⟨fun⟨r,e,h⟩=>by cases e;exact h,fun h=>⟨ρ,rfl,h⟩⟩
theorem Es{β:Type}{mi:aO}{set:D→aj→R aj}{body:a0}{ds:List D}{ρ:aj}{k:e7→R β}{T:β→Prop}(I:Nat→aj→Prop)(hi:mi ρ=.ok ds)(h0:I 0 ρ)(st:∀(j:Nat) d ρ,ds[j]?=some d→I j ρ→Ends ((set d ρ).bind body) (rW (I (j+1))))(fin:∀bh,I ds.length bh→Ends (k (.bk bh)) T):Ends ((eE mi set body ρ).bind k) T:=by
 obtain⟨bh,e,h⟩:=Fw (body:=body) (set:=set) (mi:=mi) I hi (fun j d ρ hd iI=>by
  obtain⟨b,e,bh,rfl,h⟩:=st j d ρ hd iI;cases es:set d ρ with
  |bad=>rw[es]at e;cases e
  |exc c=>rw[es]at e;cases e
  |ok dQ=>rw[es,dU]at e;exact⟨dQ,bh,rfl,e,h⟩) h0
 rw[e,dU];exact fin bh h
def Ji(i:Nat):e7→R e7
 |.bk bh=>.ok (.bk (kF i bh))
 |f=>.ok f
@[simp] theorem aca(i:Nat)(a:aO)(ρ:aj):lJ i a ρ=(gq i a ρ).bind (Ji i):=by unfold lJ;congr 1
@[simp] theorem aa8(i:Nat)(ρ:aj):Ji i (.bk ρ)=.ok (.bk (kF i ρ)):=(rfl)
noncomputable def yR(ds:List D):D→R (List D)
 |.lst es=>if ds.length+es.length≤1000000 then .ok (ds++es)else .bad
 |_=>.bad
@[simp] theorem ZJ{ds es:List D}(h:ds.length+es.length≤1000000):yR ds (.lst es)=.ok (ds++es):=if_pos h
noncomputable def DP:D→D→R (List D)
 |.lst ds,.lst es=>if ds.length+es.length≤1000000 then .ok (ds++es)else .bad
 |_,_=>.bad
@[simp] theorem ZI{ds es:List D}(h:ds.length+es.length≤1000000):DP (.lst ds) (.lst es)=.ok (ds++es):=if_pos h
@[simp] theorem abt(m n:az)(ρ:aj):pC m n ρ=(m ρ).bind fun c=>(n ρ).bind fun d=>DP c d:=by unfold pC;congr 1
@[simp] theorem abv(i:Nat)(m:az)(ρ:aj):He i m ρ=(ownAt i ρ).bind fun ds=>(m ρ).bind fun d=>yR ds d:=by unfold He;congr 1
@[simp] theorem abu(ma:aO)(m:az)(ρ:aj):Hd ma m ρ=(ma ρ).bind fun ds=>(m ρ).bind fun d=>yR ds d:=by unfold Hd;congr 1
@[simp] theorem Yq(f:D→Option Int→Option Int→R D)(m:az)(lo hi:kz)(ρ:aj):iN f m lo hi ρ=(m ρ).bind fun d=>(lo ρ).bind fun l=>(hi ρ).bind fun h=>f d l h:=(rfl)
def zm(i:Nat)(ρ:aj):Option dc→aj
 |some (.aV o)=>ρ.set i (.aw (lN o))
 |_=>ρ
@[simp] theorem ZX(i:Nat)(ρ:aj):kF i ρ=zm i ρ ρ[i]?:=by unfold kF zm;rfl
@[simp] theorem ZW(i:Nat)(ρ:aj)(ds:List D):zm i ρ (some (.c6 ds))=ρ.set i (.aw (.lst ds)):=(rfl)
@[simp] theorem Ym(ρ:aj):kO ρ=.ok none:=(rfl)
@[simp] theorem Yn(m:az)(ρ:aj):ig m ρ=(m ρ).bind intD:=(rfl)
@[simp] theorem aaq(i:Int):intD (.int i)=.ok (some i):=(rfl)
theorem Er{β α:Type}{mi:aO}{elt:az}{tst:bY}{caps:List Nat}{ρ:aj}{k:List D→R β}{T:β→Prop}(g:α→D)(xs:List α)(p:α→Bool)(f:α→D)(hi:mi ρ=.ok (xs.map g))(hl:xs.length≤1000)(ht:∀a∈xs,tst (.aw (g a)::caps.map fun j=>gC (ρ.getD j .un))=.ok (p a))(h:∀a∈xs,p a=true→elt (.aw (g a)::caps.map fun j=>gC (ρ.getD j .un))=.ok (f a))(fin:Ends (k ((xs.filter p).map f)) T):Ends ((dZ 1 caps mi (bN 0) tst elt ρ).bind k) T:=by
 have go:∀(xs:List α)(ws:List D)(s0:dc),ws.length+xs.length≤1000000→(∀a∈xs,tst (.aw (g a)::caps.map fun j=>gC (ρ.getD j .un))=.ok (p a))→(∀a∈xs,p a=true→elt (.aw (g a)::caps.map fun j=>gC (ρ.getD j .un))=.ok (f a))→fL (bN 0) tst elt (xs.map g) (s0::caps.map fun j=>gC (ρ.getD j .un)) ws=.ok (ws++(xs.filter p).map f):=by
  intro xs;induction xs with
  |nil=>intro ws s0 _ _ _;simp[fL]
  |cons a xs bW=>
   intro ws s0 hl ht h;simp only[List.length_cons]at hl;have cP:bN 0 (g a) (s0::caps.map fun j=>gC (ρ.getD j .un))=.ok (.aw (g a)::caps.map fun j=>gC (ρ.getD j .un)):=by simp
   rw[List.map_cons,fL,cP,dU,ht a (by simp),dU];cases e:p a with
   |true=>simp only[if_true,h a (by simp) e,dU,if_pos (show ws.length<1000000 by omega)];rw[bW (ws++[f a]) _ (by simp;omega) (fun x hx=>ht x (by simp[hx])) fun x hx=>h x (by simp[hx])];simp[e]
   |false=>simp only[Bool.false_eq_true,if_false];rw[bW ws _ (by omega) (fun x hx=>ht x (by simp[hx])) fun x hx=>h x (by simp[hx])];simp[e]
 rw[J9,hi,dU];have e:=go xs [] .un (by simp;omega) ht h;have:eU (fL (bN 0) tst elt (xs.map g) (lq 1 caps ρ) [])=.ok ((xs.filter p).map f):=by show eU (fL (bN 0) tst elt (xs.map g) (.un::caps.map fun j=>gC (ρ.getD j .un)) [])=_;rw[e];rfl
 rw[this,dU];exact fin
theorem pb{β α:Type}{mi:aO}{elt:az}{caps:List Nat}{ρ:aj}{k:List D→R β}{T:β→Prop}(g:α→D)(xs:List α)(f:α→D)(hi:mi ρ=.ok (xs.map g))(hl:xs.length≤1000)(h:∀a∈xs,elt (.aw (g a)::caps.map fun j=>gC (ρ.getD j .un))=.ok (f a))(fin:Ends (k (xs.map f)) T):Ends ((dZ 1 caps mi (bN 0) eN elt ρ).bind k) T:=
 Er g xs (fun _=>true) f hi hl (fun _ _=>rfl) (fun a ha _=>h a ha) (by rw[List.filter_eq_self.mpr fun _ _=>rfl];exact fin)
theorem IB(n:Nat):fZ 0 n=(List.range n).map fun(i:Nat)=>.int (i:Int):=by simp[fZ]
theorem pd{β:Type}{mi:aO}{elt:az}{caps:List Nat}{ρ:aj}{k:List D→R β}{T:β→Prop}(n:Nat)(f:Nat→D)(hi:mi ρ=.ok (fZ 0 n))(hl:n≤1000)(h:∀a,a<n→elt (.aw (.int (a:Int))::caps.map fun j=>gC (ρ.getD j .un))=.ok (f a))(fin:Ends (k ((List.range n).map f)) T):Ends ((dZ 1 caps mi (bN 0) eN elt ρ).bind k) T:=
 pb (fun(i:Nat)=>.int (i:Int)) (List.range n) f (by rw[hi,IB]) (by simpa using hl) (fun a ha=>h a (by simpa using ha)) fin
theorem NI{β α:Type}{mi:aO}{set:D→aj→R aj}{body:a0}{ρ:aj}{k:e7→R β}{T:β→Prop}(g:α→D)(xs:List α)(I:Nat→aj→Prop)(hi:mi ρ=.ok (xs.map g))(h0:I 0 ρ)(st:∀(j:Nat) a ρ,xs[j]?=some a→I j ρ→Ends ((set (g a) ρ).bind body) (rW (I (j+1))))(fin:∀bh,I xs.length bh→Ends (k (.bk bh)) T):Ends ((eE mi set body ρ).bind k) T:=
 Es I hi h0 (fun j d ρ hd iI=>by
  rw[List.getElem?_map]at hd;cases e:xs[j]? with
  |none=>rw[e]at hd;cases hd
  |some a=>rw[e]at hd;cases hd;exact st j a ρ e iI) (by rw[List.length_map];exact fin)
theorem sj{β:Type}{mi:aO}{set:D→aj→R aj}{body:a0}{ρ:aj}{k:e7→R β}{T:β→Prop}(n:Nat)(I:Nat→aj→Prop)(hi:mi ρ=.ok (fZ 0 n))(h0:I 0 ρ)(st:∀(j:Nat) ρ,j<n→I j ρ→Ends ((set (.int (j:Int)) ρ).bind body) (rW (I (j+1))))(fin:∀bh,I n bh→Ends (k (.bk bh)) T):Ends ((eE mi set body ρ).bind k) T:=
 Es I hi h0 (fun j d ρ hd iI=>by obtain⟨cv,rfl⟩:=IC hd;exact st j ρ cv iI) (by rw[Vl];exact fin)
theorem Hi{α β:Type}(f:α→β):∀(l:List α)(i:Nat),(l.map f).eraseIdx i=(l.eraseIdx i).map f
 |[],_=>rfl
 |x::l,0=>rfl
 |x::l,i+1=>by simp only[List.eraseIdx_cons_succ,List.map_cons,Hi f l i]
theorem Ia{α:Type}(g:α→D){l:List α}{i:Nat}{k:Nat}(h:k<l.length)(hl:l.length<1000000)(ρ:aj):wM i (l.map g) ρ (.int (k:Int))=.ok (g l[k],ρ.set i (.c6 ((l.eraseIdx k).map g))):=by rw[UH (by simpa using h) (by simpa using hl),Hi];simp
theorem Vz{v:Int}(h1: -1000000≤v)(h2:v≤1000000):mS [.int v]=.ok (fZ 0 v.toNat):=by have: -(2^62)≤v∧v<2^62:=⟨by omega,by omega⟩;simp only[mS,if_pos this]
@[simp] theorem aaA(n:Nat)(h:n≤1000000):sW [.int (n:Int)]=.ok (fZ 0 n):=by have: -(2^62)≤(n:Int)∧(n:Int)≤1000000:=⟨by omega,by omega⟩;simp only[sW,if_pos this,Int.toNat_natCast]
@[simp] theorem aaD(i j:Int):Sy [.int i,.int j]=.ok (.int (if j>i then j else i)):=(rfl)
@[simp] theorem ZF{xs ys:List D}(h:xs.length+ys.length≤1000000):d3 (.lst xs) (.lst ys)=.ok (.lst (xs++ys)):=if_pos h
@[simp] theorem BM(xs:List D)(l h:Option Int):ip (.lst xs) l h=.ok (.lst (d9 xs l h)):=(rfl)
@[simp] theorem aa4(xs:List D)(l h:Option Int):ip (.cx xs) l h=.ok (.lst (d9 xs l h)):=(rfl)
theorem vc{α:Type}(xs:List α)(k:Nat):d9 xs none (some (k:Int))=xs.take k:=by
 unfold d9;rw[dI.II,dI.wW,List.drop_zero,Nat.sub_zero];by_cases h:k≤xs.length
 ·rw[Nat.min_eq_left h]
 ·rw[Nat.min_eq_right (by omega),List.take_length,List.take_of_length_le (by omega)]
theorem yU{α:Type}(xs:List α)(k:Nat):d9 xs (some (k:Int)) none=xs.drop k:=by
 unfold d9;rw[dI.II,dI.wW];by_cases h:k≤xs.length
 ·rw[Nat.min_eq_left h,←List.length_drop,List.take_length]
 ·rw[Nat.min_eq_right (by omega),List.drop_length,List.drop_of_length_le (by omega)];simp
theorem qG{α β:Type}(g:α→β)(xs:List α)(l h:Option Int):d9 (xs.map g) l h=(d9 xs l h).map g:=by unfold d9;simp[List.map_take,List.map_drop]
@[simp] theorem WJ(aP:List (D→aj→R aj))(ds:List D)(ρ:aj):g9 aP (.tup ds) ρ=g8 aP ds ρ:=(rfl)
@[simp] theorem WH(ρ:aj):g8 [] [] ρ=.ok ρ:=(rfl)
@[simp] theorem WG(f:D→aj→R aj)(aP:List (D→aj→R aj))(d:D)(ds:List D)(ρ:aj):g8 (f::aP) (d::ds) ρ=(f d ρ).bind fun bh=>g8 aP ds bh:=(rfl)
@[simp] theorem abS(aU:Str)(n:Nat)(mf:List D→R (List Str×List D))(ma:aO)(ρ:aj):pG aU n mf ma ρ=(ma ρ).bind fun ds=>if ds.length=n then(eU (mf ds)).bind fun x=>.ok (.ins aU x.1 x.2)else .bad:=(rfl)
@[simp] theorem abf(xs:List D):lW [.lst xs]=.ok (.tup xs):=(rfl)
@[simp] theorem abB(k:Str)(i:Int)(ρ:aj):Sm k i ρ=.ok (.cY [.inr k] [.int i]):=(rfl)
@[simp] theorem aaI(i:Int):pS (.int i)=.ok (.int (-i)):=(rfl)
@[simp] theorem aaV{x:D}{k:Int}(h0:0≤k)(h:k≤1000):mR (.lst [x]) (.int k)=.ok (.lst (List.replicate k.toNat x)):=by
  have b:0≤k∧k≤1000∧[x].length≤100:=⟨h0,h,by simp⟩;simp only[mR,if_pos b]
  congr 2
  generalize k.toNat=n;induction n with
  |zero=>rfl
  |succ n bW=>simp[List.replicate_succ,bW]
@[simp] theorem Cc(m:aO)(ρ:aj):nY m ρ=(m ρ).bind pe:=(rfl)
@[simp] theorem v_is(m:az)(ρ:aj):q8 m ρ=(m ρ).bind BK:=(rfl)
@[simp] theorem acb(m:aO)(ρ:aj):Sr m ρ=(m ρ).bind I9:=(rfl)
@[simp] theorem abU(i:Nat)(m:a0)(ρ:aj):Sn i m ρ=m (kF i ρ):=(rfl)
@[simp] theorem abG(c:bY)(a b:az)(ρ:aj):pF c a b ρ=(c ρ).bind fun k=>if k=true then a ρ else b ρ:=(rfl)
@[simp] theorem ab0(a b:az)(ρ:aj):ra a b ρ=(a ρ).bind fun x=>(iZ x).bind fun c=>if c=true then .ok (.au true)else b ρ:=(rfl)
@[simp] theorem abT(aU mt:Str)(n:Nat)(mf:List D→R bZ)(o:az)(ma:aO)(ρ:aj):jE aU mt n mf o ma ρ=(o ρ).bind fun d=>(og aU mt d).bind fun d=>(ma ρ).bind fun ds=>if ds.length=n then(mf (d::ds)).bind ji else .bad:=(rfl)
@[simp] theorem abA(ρ:aj):sZ ρ=.ok (.cY [] []):=(rfl)
@[simp] theorem abR(i:Nat)(a:rT)(ρ:aj):Sq i a ρ=(a ρ).bind fun t=>if i<ρ.length then .ok (.bk (ρ.set i (.eu t)))else .bad:=(rfl)
@[simp] theorem abQ(a:rT)(ρ:aj):So a ρ=(a ρ).bind fun t=>.ok (.dO t):=(rfl)
def Ck:Option dc→R T
 |some (.eu t)=>.ok t
 |_=>.bad
@[simp] theorem aci(i:Nat)(ρ:aj):Hg i ρ=Ck ρ[i]?:=by unfold Hg Ck;rfl
@[simp] theorem aco(t:T):Ck (some (.eu t))=.ok t:=(rfl)
def B3:Option dc→R (List T)
 |some (.eu (.lst bH))=>.ok bH
 |_=>.bad
@[simp] theorem acd(i:Nat)(ρ:aj):xl i ρ=B3 ρ[i]?:=by unfold xl B3;rfl
@[simp] theorem aba(bH:List T):B3 (some (.eu (.lst bH)))=.ok bH:=(rfl)
@[simp] theorem aa5(b:a0)(t:T):ki b (.dO t)=.ok (.dO t):=(rfl)
@[simp] theorem aaP(t:T):outD (.dO t)=.ok (.t t):=(rfl)
@[simp] theorem aaY(t:T):ji (.t t)=.ok (toD t):=(rfl)
@[simp] theorem Z0(t:T):nC (.eu t)=.aw (toD t):=(rfl)
@[simp] theorem abn(i:Nat)(mk m:az)(ρ:aj):Sl i mk m ρ=(xl i ρ).bind fun bH=>(mk ρ).bind fun k=>Dh i ρ bH m k:=(rfl)
@[simp] theorem ab3(i:Nat)(mk mv:az)(ρ:aj):rd i mk mv ρ=(mv ρ).bind fun v=>(ownAt i ρ).bind fun ds=>(mk ρ).bind fun k=>putK i ρ ds v k:=(rfl)
theorem U0{i:Nat}{ρ:aj}{ds:List D}{v:D}{k:Nat}(h:k<ds.length):putK i ρ ds v (.int (k:Int))=.ok (.bk (ρ.set i (.c6 (ds.set k v)))):=by
 have e:jf ds.length (k:Int)=some k:=by unfold jf;rw[if_pos (by omega),if_pos (by omega)];simp
 simp only[putK,e,putN]
def zW(ds:List D):D→R D
 |.int j=>match gf ds j with
  |some d=>.ok d
  |none=>.bad
 |_=>.bad
@[simp] theorem abK(i:Nat)(n:az)(ρ:aj):s7 i n ρ=(ownAt i ρ).bind fun ds=>(n ρ).bind (zW ds):=by unfold s7;congr 1
@[simp] theorem aa_(k:Bool):XT [.au k]=.ok (.int (if k then 1 else 0)):=(rfl)
@[simp] theorem aar(x:D):gn true x .non=.ok (.au (gp x)):=(rfl)
@[simp] theorem aa2(x:Str):BK (.str x)=.ok (x.cps.toList.map e6):=(rfl)
theorem y8{α:Type}(g:α→D)(xs:List α):pe [.lst (xs.map g)]=.ok (xs.zipIdx.map fun p=>.tup [.int (p.2:Int),g p.1]):=by
 simp only[pe,nx]
 congr 1
 rw[List.zipIdx_map,List.map_map];rfl
theorem Zw{α:Type}{xs:List α}{j:Nat}{p:α×Nat}(h:xs.zipIdx[j]?=some p):p.2=j∧xs[j]?=some p.1:=by
 rw[List.getElem?_zipIdx]at h;cases e:xs[j]? with
 |none=>rw[e]at h;cases h
 |some a=>rw[e]at h;simp at h;subst h;exact⟨rfl,rfl⟩
theorem xG{α:Type}{xs:List α}{p:α×Nat}(h:p∈xs.zipIdx):xs[p.2]?=some p.1:=by obtain⟨j,e⟩:=List.mem_iff_getElem?.mp h;obtain⟨h1,h2⟩:=Zw e;rw[h1];exact h2
theorem vl{β α:Type}{mi:aO}{elt:az}{caps:List Nat}{ρ:aj}{k:List D→R β}{C2:β→Prop}(g1 g2:α→D)(xs:List α)(f:α→D)(hi:mi ρ=.ok (xs.map fun a=>.tup [g1 a,g2 a]))(hl:xs.length≤1000)(h:∀a∈xs,elt (.aw (g1 a)::.aw (g2 a)::caps.map fun j=>gC (ρ.getD j .un))=.ok (f a))(fin:Ends (k (xs.map f)) C2):Ends ((dZ 2 caps mi (g9 [bN 0,bN 1]) eN elt ρ).bind k) C2:=by
 have go:∀(xs:List α)(ws:List D)(s0 s1:dc),ws.length+xs.length≤1000000→(∀a∈xs,elt (.aw (g1 a)::.aw (g2 a)::caps.map fun j=>gC (ρ.getD j .un))=.ok (f a))→fL (g9 [bN 0,bN 1]) eN elt (xs.map fun a=>.tup [g1 a,g2 a]) (s0::s1::caps.map fun j=>gC (ρ.getD j .un)) ws=.ok (ws++xs.map f):=by
  intro xs;induction xs with
  |nil=>intro ws s0 s1 _ _;simp[fL]
  |cons a xs bW=>
   intro ws s0 s1 hl h;simp only[List.length_cons]at hl;have cP:g9 [bN 0,bN 1] (.tup [g1 a,g2 a]) (s0::s1::caps.map fun j=>gC (ρ.getD j .un))=.ok (.aw (g1 a)::.aw (g2 a)::caps.map fun j=>gC (ρ.getD j .un)):=by simp
   rw[List.map_cons,fL,cP,dU];simp only[eN,dU,if_true,h a (by simp),if_pos (show ws.length<1000000 by omega)];rw[bW (ws++[f a]) _ _ (by simp;omega) fun x hx=>h x (by simp[hx])];simp
 rw[J9,hi,dU];have e:=go xs [] .un .un (by simp;omega) h;have:eU (fL (g9 [bN 0,bN 1]) eN elt (xs.map fun a=>.tup [g1 a,g2 a]) (lq 2 caps ρ) [])=.ok (xs.map f):=by show eU (fL (g9 [bN 0,bN 1]) eN elt (xs.map fun a=>.tup [g1 a,g2 a]) (.un::.un::caps.map fun j=>gC (ρ.getD j .un)) [])=_;rw[e];rfl
 rw[this,dU];exact fin
theorem Ends.done{β:Type}{r:R β}{b:β}(h:Ends r (· =b)):r=.ok b:=by obtain⟨c,e,rfl⟩:=h;exact e
end ax
namespace bP
open PySem PySem.Spec aQ ax
noncomputable def top(i:Nat):Stmt:=PySem.Challenge.pw_nohalfway_k24_faults_refused.main.body.getD i (.Pass ⟨0,0,0,0⟩)
abbrev Bq:Stmt:=top 68
abbrev Bt:Stmt:=top 70
abbrev Bp:Stmt:=top 67
abbrev Bi:Stmt:=top 13
abbrev Bj:Stmt:=top 14
abbrev AZ:Stmt:=top 49
abbrev Bc:Stmt:=top 50
abbrev Ba:Stmt:=top 51
abbrev Bk:Stmt:=top 52
abbrev A3:Stmt:=top 53
abbrev AU:Stmt:=inClass (top 54) 0
abbrev Bv:Stmt:=top 71
abbrev Bn:Stmt:=top 72
abbrev Bo:Stmt:=top 73
abbrev By:Stmt:=top 39
abbrev Bd:Stmt:=top 20
abbrev Bb:Stmt:=top 25
abbrev Bf:Stmt:=top 26
abbrev A9:Stmt:=top 27
abbrev AS:Stmt:=inClass (top 54) 1
abbrev A_:Stmt:=top 28
abbrev Bz:Stmt:=top 29
abbrev Bg:Stmt:=top 37
abbrev Be:Stmt:=top 38
abbrev BA:Stmt:=top 44
abbrev AV:Stmt:=inClass (top 54) 4
abbrev A8:Stmt:=top 19
abbrev A6:Stmt:=top 21
abbrev AY:Stmt:=top 22
abbrev A5:Stmt:=top 40
abbrev BB:Stmt:=top 30
abbrev AR:Stmt:=inClass (top 54) 3
abbrev Bx:Stmt:=top 32
abbrev BC:Stmt:=top 33
abbrev Bh:Stmt:=top 41
abbrev A7:Stmt:=top 42
abbrev Bw:Stmt:=top 43
abbrev A4:Stmt:=top 45
abbrev AW:Stmt:=inClass (top 54) 2
abbrev A2:Stmt:=top 55
abbrev A1:Stmt:=top 58
abbrev AX:Stmt:=inClass (top 60) 0
abbrev A0:Stmt:=top 65
abbrev Br:Stmt:=top 74
abbrev Bu:Stmt:=top 77
abbrev Bs:Stmt:=top 69
abbrev Bm:Stmt:=top 76
abbrev Bl:Stmt:=top 75
abbrev oe:Stmt:=top 78
def nq:D:=.int 15
def qB:D:=.int 4
def o5:D:=.int 6
def nr:D:=.int 12
def nt:D:=.int 40
noncomputable def qC:D:=.dk [.str (PySem.Str.ofString "0"),.str (PySem.Str.ofString "1"),.str (PySem.Str.ofString "x")]
def hy:D:=.dk [.str (PySem.Str.ofString "wait")]
def nu:D:=.dk [.int 8,.int 4,.int 2,.int 1]
structure yd(K:PySem.W.Frag)(mg:Str→Option Value):Prop where
 Fc:da K mg "_law_draws" Bq ["_law_cell","_law_many"]
 Ff:da K mg "_law_net" Bt ["_law_cell"]
 Fb:da K mg "_law_cell_at" Bp ["_law_script","_law_k"]
 E4:da K mg "is_whole" Bi ["thing"]
 E5:da K mg "is_whole_within" Bj ["thing","least","greatest"]
 EJ:da K mg "are_counts" AZ ["thing"]
 EY:da K mg "is_pair" Bc ["thing"]
 EW:da K mg "is_door_among" Ba ["counts","thing"]
 E6:da K mg "is_wire_among" Bk ["counts","thing"]
 EN:da K mg "far_doors" A3 ["counts","wires"]
 EE:InK K mg "Net" "Net.__init__" AU ["self","counts","wires"]
 Fh:da K mg "_law_row" Bv ["_law_draws_here","_law_count"]
 E9:da K mg "_law_book" Bn ["_law_cell","_law_count"]
 E_:da K mg "_law_books" Bo ["_law_script","_law_start","_law_counts"]
 Fm:da K mg "plain_plan" By ["net"]
 EZ:da K mg "is_pattern" Bd ["thing"]
 EX:da K mg "is_number_or_none" Bb ["thing","doors"]
 E1:da K mg "is_row" Bf ["thing","doors"]
 EU:da K mg "is_book" A9 ["thing","doors"]
 ED:ql K "Net" "count" "Net.count" AS ["self","house"]
 EV:da K mg "is_books" A_ ["thing","net"]
 Fn:da K mg "refuse_unless_books" Bz ["thing","net"]
 E2:da K mg "is_step" Bg ["thing","net"]
 E0:da K mg "is_plan" Be ["thing","net"]
 Fo:da K mg "refuse_unless_plan" BA ["net","old","new","plan"]
 EF:ql K "Net" "outer" "Net.outer" AV ["self"]
 ET:da K mg "is_address" A8 ["thing"]
 ER:da K mg "fits" A6 ["pattern","address"]
 EI:da K mg "addresses" AY ["pattern"]
 EP:da K mg "first_untaught" A5 ["done","doors"]
 Fp:da K mg "taken" BB ["book","door","address"]
 EC:ql K "Net" "beyond" "Net.beyond" AR ["self","door"]
 Fl:da K mg "onward" Bx ["net","book","door","address"]
 Fq:da K mg "walked" BC ["net","books","door","address"]
 E3:da K mg "is_waited_for" Bh ["done","house"]
 ES:da K mg "house_at_fault" A7 ["net","old","new","plan","place","door","address"]
 Fi:da K mg "least_fault" Bw ["net","old","new","plan"]
 EO:da K mg "fault" A4 ["net","old","new","plan"]
 EG:ql K "Net" "wires" "Net.wires" AW ["self"]
 EM:da K mg "copied_net" A2 ["net"]
 EL:da K mg "copied_books" A1 ["books"]
 EH:InK K mg "Run" "Run.__init__" AX ["self","net","old","new","plan"]
 EK:da K mg "breaking" A0 ["net","old","new","plan"]
 Fd:da K mg "_law_kinds" Br ["_law_which","_law_net_here","_law_old","_law_new","_law_plan"]
 Fg:da K mg "_law_right" Bu ["_law_net_here","_law_old","_law_new","_law_plan","_law_due"]
 Fe:da K mg "_law_mixed" Bs ["_law_cell","_law_k"]
 E8:da K mg "_law_bad_plan" Bm ["_law_many","_law_number"]
 E7:da K mg "_law_bad_books" Bl ["_law_books_here","_law_number"]
 NY:da K mg "law" oe ["_law_script"]
 Kq:xT K mg "NoBooks"
 Kr:xT K mg "NoPlan"
 JV:lb K mg "NoAddress" [("NoBooks",false),("NoPlan",false)]
 JW:lb K mg "NoBooks" [("NoBooks",true),("NoPlan",false)]
 JX:lb K mg "NoDoor" [("NoBooks",false),("NoPlan",false)]
 JY:lb K mg "NoMove" [("NoBooks",false),("NoPlan",false)]
 JZ:lb K mg "NoNet" [("NoBooks",false),("NoPlan",false)]
 J0:lb K mg "NoPlan" [("NoBooks",false),("NoPlan",true)]
 J1:lb K mg "NoRow" [("NoBooks",false),("NoPlan",false)]
 J2:lb K mg "NoSaying" [("NoBooks",false),("NoPlan",false)]
 J3:lb K mg "NoText" [("NoBooks",false),("NoPlan",false)]
 J4:rR K (.type "ValueError") [("NoBooks",true),("NoPlan",true)]
 JK:C3 K mg "WayError" ["NoBooks","NoPlan"]
 g4:qh K "Net" ["many","counts","joined","far"]
 nP:qh K "Run" ["net","books","plan","done","came","letters","ended"]
 Dm:mg "ValueError"=none
 oZ:mg "all"=none
 Dp:mg "bool"=none
 uR:mg "enumerate"=none
 Dq:mg "int"=none
 fJ:mg "isinstance"=none
 fK:mg "len"=none
 i1:mg "list"=none
 i3:mg "range"=none
 Du:mg "set"=none
 u0:mg "str"=none
 o3:mg "tuple"=none
 Dw:mg "zip"=none
 nq:l3 K mg "GREATEST_ADDRESS" nq
 qB:l3 K mg "MOST_DOORS" qB
 o5:l3 K mg "MOST_HOUSES" o5
 nr:l3 K mg "MOST_ROWS" nr
 nt:l3 K mg "MOST_STEPS" nt
 qC:l3 K mg "SIGNS" qC
 hy:l3 K mg "WAIT" hy
 nu:l3 K mg "WORTHS" nu
theorem pX:cG ["_law_cell","_law_many","_law_draws_here","_law_rest","_law_k","_law_prime","_law_factor"] ["_law_cell","_law_many"] (bM Bq):=⟨rfl,rfl,rfl,by decide+kernel,rfl,by decide+kernel,by decide+kernel⟩
noncomputable def yG:a0:=
    bf (gq 2 (cT (av)))
    (bf (c3 3 (ao gi (J 0) (ai (.int 2))))
    (bf (eE (fY (ae (J 1) (av))) (bN 4) (cL (bc (ao (cW true) (ao dM (J 0) (ai (.int 2))) (ai (.int 1)))) (bf (c3 5 (ao aG (b5 (cT (ae (ai (.int 2147483647)) (ae (ai (.int 2147483629)) (ae (ai (.int 2147483587)) (ae (ai (.int 2147483579)) (av))))))) (ao dM (ao gi (J 4) (ai (.int 4))) (ai (.int 4)))))
    (bf (c3 6 (ao aG (b5 (cT (ae (ai (.int 48271)) (ae (ai (.int 69621)) (ae (ai (.int 16807)) (ae (ai (.int 39373)) (av))))))) (ao dM (J 4) (ai (.int 4)))))
    (jg 2 (ao gi (ao dM (ao kb (ao d3 (ao d3 (ao dM (J 3) (ao kf (ai (.int 10)) (ai (.int 30)))) (ao kb (ai (.int 7919)) (J 4))) (ai (.int 1))) (J 6)) (J 5)) (ai (.int 7)))))) (bf (jg 2 (ao dM (J 3) (ao kf (ai (.int 10)) (ai (.int 6)))))
    (c3 3 (ao gi (J 3) (ao kf (ai (.int 10)) (ai (.int 6))))))))
    (hH (mI 2))))
def mK:List D→R bZ:=cS 7 yG
theorem mV:cG ["_law_cell","_law_draws_here","_law_many","_law_counts","_law_free","_law_house","_law_wires","_law_k","_law_one"] ["_law_cell"] (bM Bt):=⟨rfl,rfl,rfl,by decide+kernel,rfl,by decide+kernel,by decide+kernel⟩
noncomputable def yI:a0:=
    bf (c3 1 (b5 (iL 2 mK (ae (J 0) (ae (ai (.int 40)) (av))))))
    (bf (c3 2 (ao d3 (ai (.int 1)) (ao dM (ao aG (J 1) (ai (.int 0))) (ai (.int 6)))))
    (bf (lJ 3 (dZ 1 [1,2] (fY (ae (J 2) (av))) (bN 0) (eN) (ao d3 (ai (.int 1)) (ao dM (ao aG (J 1) (ao d3 (ai (.int 1)) (J 0))) (ao aG (b5 (cT (ae (ai (.int 4)) (ae (ai (.int 4)) (ae (ai (.int 4)) (ae (ai (.int 3)) (ae (ai (.int 2)) (ae (ai (.int 2)) (av))))))))) (ao lU (J 2) (ai (.int 1))))))))
    (bf (gq 4 (cT (av)))
    (bf (eE (fY (ae (cN dJ (ae (J 3) (av))) (av))) (bN 5) (q6 (s6 4 (b5 (dZ 1 [5] (fY (ae (ao aG (J 3) (J 5)) (av))) (bN 0) (eN) (cE (ae (J 1) (ae (J 0) (av)))))))))
    (bf (gq 6 (cT (av)))
    (bf (eE (fY (ae (nV (ao lU (ao gi (ao lU (cN dJ (ae (J 4) (av))) (ai (.int 1))) (ai (.int 2))) (ao dM (ao aG (J 1) (ai (.int 7))) (ai (.int 2))))) (av))) (bN 7) (bf (rf 8 (pH 4 (nV (ao dM (ao aG (J 1) (ao d3 (ai (.int 8)) (ao kb (ai (.int 2)) (J 7)))) (cN dJ (ae (J 4) (av)))))))
    (sX 6 (pJ (pD (lf (J 8)) (pD (pH 4 (nV (ao dM (ao aG (J 1) (ao d3 (ai (.int 9)) (ao kb (ai (.int 2)) (J 7)))) (cN dJ (ae (J 4) (av)))))) (q2 av)))))))
    (j9 (cE (ae (J 3) (ae (J 6) (av)))))))))))
def tn:List D→R bZ:=cS 9 yI
theorem Wx:cG ["_law_script","_law_k"] ["_law_script","_law_k"] (bM Bp):=⟨rfl,rfl,rfl,by decide+kernel,rfl,by decide+kernel,by decide+kernel⟩
noncomputable def uX:a0:=
    bf (cL (bc (ao nT (J 1) (cN dJ (ae (J 0) (av))))) (b6 (ao aG (J 0) (J 1))) (cU))
    (b6 (ai (.int 0)))
def mJ:List D→R bZ:=cS 2 uX
theorem Wu:cG ["thing"] ["thing"] (bM Bi):=⟨rfl,rfl,rfl,by decide+kernel,rfl,by decide+kernel,by decide+kernel⟩
def Ds:a0:=
    b6 (jC (cq (e5 "int") (J 0)) (q_ (cq (e5 "bool") (J 0))))
def Ag:List D→R bZ:=cS 1 Ds
theorem Wv:cG ["thing","least","greatest"] ["thing","least","greatest"] (bM Bj):=⟨rfl,rfl,rfl,by decide+kernel,rfl,by decide+kernel,by decide+kernel⟩
def yz:a0:=
    b6 (jC (b8 1 Ag (ae (J 0) (av))) (iM kN kN (J 1) (J 0) (J 2)))
def lL:List D→R bZ:=cS 3 yz
theorem Wf:cG ["thing"] ["thing"] (bM AZ):=⟨rfl,rfl,rfl,by decide+kernel,rfl,by decide+kernel,by decide+kernel⟩
noncomputable def uP:a0:=
    bf (cL (fk (dT (bc (cq (e5 "list") (J 0)))) (dT (bc (iM kN kN (ai (.int 1)) (cN dJ (ae (J 0) (av))) (ai o5))))) (b6 (ai (.au false))) (cU))
    (b6 (cN dg (ae (b5 (dZ 1 [] (fX (J 0)) (bN 0) (eN) (b8 3 lL (ae (J 0) (ae (ai (.int 1)) (ae (ai qB) (av))))))) (av))))
def te:List D→R bZ:=cS 1 uP
theorem Wq:cG ["thing"] ["thing"] (bM Bc):=⟨rfl,rfl,rfl,by decide+kernel,rfl,by decide+kernel,by decide+kernel⟩
noncomputable def Dr:a0:=
    b6 (jC (cq (e5 "tuple") (J 0)) (ao (cW true) (cN dJ (ae (J 0) (av))) (ai (.int 2))))
def ti:List D→R bZ:=cS 1 Dr
theorem Wn:cG ["counts","thing"] ["counts","thing"] (bM Ba):=⟨rfl,rfl,rfl,by decide+kernel,rfl,by decide+kernel,by decide+kernel⟩
noncomputable def yw:a0:=
    bf (cL (fk (dT (bc (b8 1 ti (ae (J 1) (av))))) (dT (bc (b8 3 lL (ae (ao aG (J 1) (ai (.int 0))) (ae (ai (.int 0)) (ae (ao lU (cN dJ (ae (J 0) (av))) (ai (.int 1))) (av)))))))) (b6 (ai (.au false))) (cU))
    (b6 (b8 3 lL (ae (ao aG (J 1) (ai (.int 1))) (ae (ai (.int 0)) (ae (ao lU (ao aG (J 0) (ao aG (J 1) (ai (.int 0)))) (ai (.int 1))) (av))))))
def th:List D→R bZ:=cS 2 yw
theorem IQ:cG ["counts","thing","both"] ["counts","thing"] (bM Bk):=⟨rfl,rfl,rfl,by decide+kernel,rfl,by decide+kernel,by decide+kernel⟩
noncomputable def yA:a0:=
    bf (cL (dT (bc (b8 1 ti (ae (J 1) (av))))) (b6 (ai (.au false))) (cU))
    (bf (c3 2 (jC (b8 2 th (ae (J 0) (ae (ao aG (J 1) (ai (.int 0))) (av)))) (b8 2 th (ae (J 0) (ae (ao aG (J 1) (ai (.int 1))) (av))))))
    (b6 (jC (J 2) (ao (cW false) (ao aG (J 1) (ai (.int 0))) (ao aG (J 1) (ai (.int 1)))))))
def ri:List D→R bZ:=cS 3 yA
theorem BD:cG ["counts","wires","far","wire"] ["counts","wires"] (bM A3):=⟨rfl,rfl,rfl,by decide+kernel,rfl,by decide+kernel,by decide+kernel⟩
noncomputable def uS:a0:=
    bf (s9 2)
    (bf (eE (pE (J 1)) (bN 3) (bf (cL (dT (bc (b8 2 ri (ae (J 0) (ae (J 3) (av)))))) (nU) (cU))
    (bf (cL (j8 (fk (bc (ao (e9 true) (ao aG (J 3) (ai (.int 0))) (J 2))) (bc (ao (e9 true) (ao aG (J 3) (ai (.int 1))) (J 2))))) (nU) (cU))
    (bf (mF 2 (ao aG (J 3) (ai (.int 0))) (ao aG (J 3) (ai (.int 1))))
    (mF 2 (ao aG (J 3) (ai (.int 1))) (ao aG (J 3) (ai (.int 0))))))))
    (j9 (J 2)))
def rg:List D→R bZ:=cS 4 uS
theorem Wb:cG ["self","counts","wires"] ["self","counts","wires"] (bM AU):=⟨rfl,rfl,rfl,by decide+kernel,rfl,by decide+kernel,by decide+kernel⟩
noncomputable def uN:gO:=
    g7 (nX (dT (bc (b8 1 te (ae (J 1) (av))))))
    (g7 (nX (dT (bc (cq (e5 "list") (J 2)))))
    (g7 (fW "Net" "many" (cN dJ (ae (J 1) (av))))
    (g7 (fW "Net" "counts" (cN lW (ae (J 1) (av))))
    (g7 (fW "Net" "joined" (cN lW (ae (J 2) (av))))
    (fW "Net" "far" (nW (b8 2 rg (ae (cq (d_ "Net" "counts") (J 0)) (ae (cq (d_ "Net" "joined") (J 0)) (av))))))))))
def wb:List D→R (List Str×List D):=fun es=>outI "Net" (uN (gm "Net" es))
theorem wY:cG ["_law_draws_here","_law_count","_law_pattern","_law_begin","_law_end"] ["_law_draws_here","_law_count"] (bM Bv):=⟨rfl,rfl,rfl,by decide+kernel,rfl,by decide+kernel,by decide+kernel⟩
noncomputable def yK:a0:=
    bf (c3 2 (v9 (PySem.Str.ofString "") (ae (b5 (dZ 1 [0] (fY (ae (ai (.int 4)) (av))) (bN 0) (eN) (ao aG (ai (.str (PySem.Str.ofString "01xxx"))) (ao dM (ao aG (J 1) (J 0)) (ai (.int 5)))))) (av))))
    (bf (c3 3 (ao aG (b5 (cT (ae (ai .non) (ae (ai .non) (ae (ai .non) (ae (ao dM (ao aG (J 0) (ai (.int 5))) (J 1)) (av))))))) (ao dM (ao aG (J 0) (ai (.int 4))) (ai (.int 4)))))
    (bf (c3 4 (ao aG (b5 (cT (ae (ao dM (ao aG (J 0) (ai (.int 7))) (J 1)) (ae (ai .non) (av))))) (ao gi (ao dM (ao aG (J 0) (ai (.int 6))) (ai (.int 7))) (ai (.int 6)))))
    (b6 (cE (ae (J 2) (ae (J 3) (ae (J 4) (av))))))))
def pO:List D→R bZ:=cS 5 yK
theorem tK:cG ["_law_cell","_law_count","_law_draws_here","_law_many","_law_book_here"] ["_law_cell","_law_count"] (bM Bn):=⟨rfl,rfl,rfl,by decide+kernel,rfl,by decide+kernel,by decide+kernel⟩
noncomputable def yE:a0:=
    bf (c3 2 (b5 (iL 2 mK (ae (J 0) (ae (ai (.int 104)) (av))))))
    (bf (c3 3 (ao aG (b5 (cT (ae (ao dM (ao aG (J 2) (ai (.int 0))) (ai (.int 5))) (ae (ao dM (ao aG (J 2) (ai (.int 0))) (ai (.int 13))) (av))))) (ao gi (ao dM (ao aG (J 2) (ai (.int 1))) (ai (.int 4))) (ai (.int 3)))))
    (bf (lJ 4 (dZ 1 [1,2] (fY (ae (J 3) (av))) (bN 0) (eN) (b8 2 pO (ae (iN ip (J 2) (ig (ao d3 (ai (.int 4)) (ao kb (ai (.int 8)) (J 0)))) (ig (ao d3 (ai (.int 12)) (ao kb (ai (.int 8)) (J 0))))) (ae (J 1) (av))))))
    (bf (cL (bc (ao qN (ao dM (ao aG (J 2) (ai (.int 2))) (ai (.int 3))) (ai (.int 0)))) (c3 4 (ao d3 (iN ip (J 4) (kO) (ig (ai (.int 11)))) (b5 (cT (ae (cE (ae (ai (.str (PySem.Str.ofString "xxxx"))) (ae (ai .non) (ae (ao dM (ao aG (J 2) (ai (.int 3))) (J 1)) (av))))) (av)))))) (cU))
    (b6 (J 4)))))
def pN:List D→R bZ:=cS 5 yE
theorem Ww:cG ["_law_script","_law_start","_law_counts"] ["_law_script","_law_start","_law_counts"] (bM Bo):=⟨rfl,rfl,rfl,by decide+kernel,rfl,by decide+kernel,by decide+kernel⟩
noncomputable def yF:a0:=
    hH (dZ 2 [0,1] (nY (ae (J 2) (av))) (g9 [bN 0,bN 1]) (eN) (b8 2 pN (ae (b8 2 mJ (ae (J 2) (ae (ao d3 (J 3) (J 0)) (av)))) (ae (J 1) (av)))))
def n5:List D→R bZ:=cS 3 yF
theorem w0:cG ["net","houses","taught","turned"] ["net"] (bM By):=⟨rfl,rfl,rfl,by decide+kernel,rfl,by decide+kernel,by decide+kernel⟩
noncomputable def yL:a0:=
    bf (c3 1 (b5 (s8 (ae (cq (d_ "Net" "many") (J 0)) (av)))))
    (bf (lJ 2 (dZ 1 [] (fX (J 1)) (bN 0) (eN) (cE (ae (ai (.str (PySem.Str.ofString "teach"))) (ae (J 0) (av))))))
    (bf (lJ 3 (dZ 1 [] (fX (J 1)) (bN 0) (eN) (cE (ae (ai (.str (PySem.Str.ofString "turn"))) (ae (J 0) (av))))))
    (hH (pC (b5 (pC (b5 (pC (J 2) (J 3))) (b5 (cT (ae (ai hy) (av)))))) (b5 (dZ 1 [] (fX (J 1)) (bN 0) (eN) (cE (ae (ai (.str (PySem.Str.ofString "forget"))) (ae (J 0) (av))))))))))
def wj:List D→R bZ:=cS 4 yL
theorem Wr:cG ["thing"] ["thing"] (bM Bd):=⟨rfl,rfl,rfl,by decide+kernel,rfl,by decide+kernel,by decide+kernel⟩
noncomputable def yx:a0:=
    bf (cL (fk (dT (bc (cq (e5 "str") (J 0)))) (bc (ao (cW false) (cN dJ (ae (J 0) (av))) (cN dJ (ae (ai nu) (av)))))) (b6 (ai (.au false))) (cU))
    (b6 (cN dg (ae (b5 (dZ 1 [] (q8 (J 0)) (bN 0) (eN) (ao (inD true) (J 0) (ai qC)))) (av))))
def rh:List D→R bZ:=cS 1 yx
theorem Wo:cG ["thing","doors"] ["thing","doors"] (bM Bb):=⟨rfl,rfl,rfl,by decide+kernel,rfl,by decide+kernel,by decide+kernel⟩
noncomputable def uU:a0:=
    b6 (ra (ao (gn true) (J 0) (ai .non)) (b8 3 lL (ae (J 0) (ae (ai (.int 0)) (ae (ao lU (J 1) (ai (.int 1))) (av))))))
def n3:List D→R bZ:=cS 2 uU
theorem Ws:cG ["thing","doors"] ["thing","doors"] (bM Bf):=⟨rfl,rfl,rfl,by decide+kernel,rfl,by decide+kernel,by decide+kernel⟩
noncomputable def yy:a0:=
    bf (cL (fk (dT (bc (cq (e5 "tuple") (J 0)))) (bc (ao (cW false) (cN dJ (ae (J 0) (av))) (ai (.int 3))))) (b6 (ai (.au false))) (cU))
    (bf (cL (dT (bc (b8 1 rh (ae (ao aG (J 0) (ai (.int 0))) (av))))) (b6 (ai (.au false))) (cU))
    (b6 (jC (b8 2 n3 (ae (ao aG (J 0) (ai (.int 1))) (ae (J 1) (av)))) (b8 2 n3 (ae (ao aG (J 0) (ai (.int 2))) (ae (J 1) (av)))))))
def n4:List D→R bZ:=cS 2 yy
theorem Wl:cG ["thing","doors"] ["thing","doors"] (bM A9):=⟨rfl,rfl,rfl,by decide+kernel,rfl,by decide+kernel,by decide+kernel⟩
noncomputable def r8:a0:=
    bf (cL (fk (dT (bc (cq (e5 "list") (J 0)))) (bc (ao qN (cN dJ (ae (J 0) (av))) (ai nr)))) (b6 (ai (.au false))) (cU))
    (b6 (cN dg (ae (b5 (dZ 1 [1] (fX (J 0)) (bN 0) (eN) (b8 2 n4 (ae (J 0) (ae (J 1) (av)))))) (av))))
def j_:List D→R bZ:=cS 2 r8
theorem Wa:cG ["self","house"] ["self","house"] (bM AS):=⟨rfl,rfl,rfl,by decide+kernel,rfl,by decide+kernel,by decide+kernel⟩
noncomputable def yn:a0:=
    b6 (pF (bc (iM kN nT (ai (.int 0)) (J 1) (cq (d_ "Net" "many") (J 0)))) (ao aG (cq (d_ "Net" "counts") (J 0)) (J 1)) (ai (.int 0)))
def wa:List D→R bZ:=cS 2 yn
theorem Wm:cG ["thing","net"] ["thing","net"] (bM A_):=⟨rfl,rfl,rfl,by decide+kernel,rfl,by decide+kernel,by decide+kernel⟩
noncomputable def r9:a0:=
    bf (cL (fk (dT (bc (cq (e5 "list") (J 0)))) (bc (ao (cW false) (cN dJ (ae (J 0) (av))) (cq (d_ "Net" "many") (J 1))))) (b6 (ai (.au false))) (cU))
    (b6 (cN dg (ae (b5 (dZ 2 [1] (nY (ae (J 0) (av))) (g9 [bN 0,bN 1]) (eN) (b8 2 j_ (ae (J 1) (ae (jE "Net" "count" 1 wa (J 2) (ae (J 0) (av))) (av)))))) (av))))
def gV:List D→R bZ:=cS 2 r9
theorem Wz:cG ["thing","net"] ["thing","net"] (bM Bz):=⟨rfl,rfl,rfl,by decide+kernel,rfl,by decide+kernel,by decide+kernel⟩
def o1:a0:=
    cL (rm (dT (bc (b8 2 gV (ae (J 0) (ae (J 1) (av))))))) (v_ "NoBooks") (cU)
def n7:List D→R bZ:=cS 2 o1
theorem Wt:cG ["thing","net"] ["thing","net"] (bM Bg):=⟨rfl,rfl,rfl,by decide+kernel,rfl,by decide+kernel,by decide+kernel⟩
noncomputable def uV:a0:=
    bf (cL (fk (dT (bc (cq (e5 "tuple") (J 0)))) (fk (bc (ao (inD false) (cN dJ (ae (J 0) (av))) (cE (ae (ai (.int 1)) (ae (ai (.int 2)) (av)))))) (dT (bc (cq (e5 "str") (ao aG (J 0) (ai (.int 0)))))))) (b6 (ai (.au false))) (cU))
    (bf (cL (bc (ao (cW true) (cN dJ (ae (J 0) (av))) (ai (.int 1)))) (b6 (ao (cW true) (ao aG (J 0) (ai (.int 0))) (ai (.str (PySem.Str.ofString "wait"))))) (cU))
    (b6 (jC (ao (inD true) (ao aG (J 0) (ai (.int 0))) (cE (ae (ai (.str (PySem.Str.ofString "teach"))) (ae (ai (.str (PySem.Str.ofString "turn"))) (ae (ai (.str (PySem.Str.ofString "forget"))) (av)))))) (b8 3 lL (ae (ao aG (J 0) (ai (.int 1))) (ae (ai (.int 0)) (ae (ao lU (cq (d_ "Net" "many") (J 1)) (ai (.int 1))) (av))))))))
def pL:List D→R bZ:=cS 2 uV
theorem IM:cG ["thing","net","once"] ["thing","net"] (bM Be):=⟨rfl,rfl,rfl,by decide+kernel,rfl,by decide+kernel,by decide+kernel⟩
noncomputable def qx:a0:=
    bf (cL (fk (dT (bc (cq (e5 "list") (J 0)))) (bc (ao qN (cN dJ (ae (J 0) (av))) (ai nt)))) (b6 (ai (.au false))) (cU))
    (bf (cL (dT (bc (cN dg (ae (b5 (dZ 1 [1] (fX (J 0)) (bN 0) (eN) (b8 2 pL (ae (J 0) (ae (J 1) (av)))))) (av))))) (b6 (ai (.au false))) (cU))
    (bf (lJ 2 (dZ 1 [] (fX (J 0)) (bN 0) (bc (ao (cW false) (J 0) (ai hy))) (J 0)))
    (b6 (ao (cW true) (cN sV (ae (J 2) (av))) (cN dJ (ae (J 2) (av)))))))
def ih:List D→R bZ:=cS 3 qx
theorem WA:cG ["net","old","new","plan"] ["net","old","new","plan"] (bM BA):=⟨rfl,rfl,rfl,by decide+kernel,rfl,by decide+kernel,by decide+kernel⟩
noncomputable def o2:a0:=
    bf (mG (b8 2 n7 (lM (ae (J 1) (ae (J 0) (av))))))
    (bf (mG (b8 2 n7 (lM (ae (J 2) (ae (J 0) (av))))))
    (cL (rm (dT (bc (b8 2 ih (ae (J 3) (ae (J 0) (av))))))) (v_ "NoPlan") (cU)))
def iO:List D→R bZ:=cS 4 o2
theorem wX:cG ["self","found","house","number"] ["self"] (bM AV):=⟨rfl,rfl,rfl,by decide+kernel,rfl,by decide+kernel,by decide+kernel⟩
noncomputable def yo:a0:=
    bf (gq 1 (cT (av)))
    (bf (eE (fY (ae (cq (d_ "Net" "many") (J 0)) (av))) (bN 2) (eE (fY (ae (ao aG (cq (d_ "Net" "counts") (J 0)) (J 2)) (av))) (bN 3) (cL (bc (ao (e9 false) (cE (ae (J 2) (ae (J 3) (av)))) (cq (d_ "Net" "far") (J 0)))) (jg 1 (cE (ae (J 2) (ae (J 3) (av))))) (cU))))
    (hH (mI 1)))
def td:List D→R bZ:=cS 4 yo
theorem Wk:cG ["thing"] ["thing"] (bM A8):=⟨rfl,rfl,rfl,by decide+kernel,rfl,by decide+kernel,by decide+kernel⟩
def yv:a0:=
    b6 (b8 3 lL (ae (J 0) (ae (ai (.int 0)) (ae (ai nq) (av)))))
def wh:List D→R bZ:=cS 1 yv
theorem Wj:cG ["pattern","address"] ["pattern","address"] (bM A6):=⟨rfl,rfl,rfl,by decide+kernel,rfl,by decide+kernel,by decide+kernel⟩
noncomputable def yu:a0:=
    bf (cL (fk (dT (bc (b8 1 rh (ae (J 0) (av))))) (dT (bc (b8 1 wh (ae (J 1) (av)))))) (b6 (ai (.au false))) (cU))
    (b6 (cN dg (ae (b5 (dZ 2 [1] (q9 (ae (J 0) (ae (ai nu) (av)))) (g9 [bN 0,bN 1]) (eN) (ao (inD true) (J 0) (cE (ae (ai (.str (PySem.Str.ofString "x"))) (ae (cN pY (ae (ao dM (ao gi (J 2) (J 1)) (ai (.int 2))) (av))) (av))))))) (av))))
def pK:List D→R bZ:=cS 2 yu
theorem We:cG ["pattern"] ["pattern"] (bM AY):=⟨rfl,rfl,rfl,by decide+kernel,rfl,by decide+kernel,by decide+kernel⟩
noncomputable def Dn:a0:=
    hH (dZ 1 [0] (fY (ae (ao d3 (ai nq) (ai (.int 1))) (av))) (bN 0) (bc (b8 2 pK (ae (J 1) (ae (J 0) (av))))) (J 0))
def wd:List D→R bZ:=cS 1 Dn
theorem IL:cG ["done","doors","door"] ["done","doors"] (bM A5):=⟨rfl,rfl,rfl,by decide+kernel,rfl,by decide+kernel,by decide+kernel⟩
noncomputable def yt:a0:=
    bf (eE (fX (J 1)) (bN 2) (cL (bc (ao (inD false) (cE (ae (ai (.str (PySem.Str.ofString "teach"))) (ae (ao aG (J 2) (ai (.int 0))) (av)))) (J 0))) (b6 (ao aG (J 2) (ai (.int 0)))) (cU)))
    (b6 (ai .non))
def tg:List D→R bZ:=cS 3 yt
theorem BF:cG ["book","door","address","number","row"] ["book","door","address"] (bM BB):=⟨rfl,rfl,rfl,by decide+kernel,rfl,by decide+kernel,by decide+kernel⟩
noncomputable def yM:a0:=
    bf (eE (nY (ae (J 0) (av))) (g9 [bN 3,bN 4]) (cL (mE (fk (bc (ao (gn true) (ao aG (J 4) (ai (.int 1))) (ai .non))) (bc (ao (cW true) (ao aG (J 4) (ai (.int 1))) (J 1)))) (bc (b8 2 pK (ae (ao aG (J 4) (ai (.int 0))) (ae (J 2) (av)))))) (b6 (J 3)) (cU)))
    (b6 (ai .non))
def wk:List D→R bZ:=cS 5 yM
theorem V_:cG ["self","door"] ["self","door"] (bM AR):=⟨rfl,rfl,rfl,by decide+kernel,rfl,by decide+kernel,by decide+kernel⟩
def ym:a0:=
    b6 (sY (cq (d_ "Net" "far") (J 0)) (J 1))
def tc:List D→R bZ:=cS 2 ym
theorem wZ:cG ["net","book","door","address","number","out","far"] ["net","book","door","address"] (bM Bx):=⟨rfl,rfl,rfl,by decide+kernel,rfl,by decide+kernel,by decide+kernel⟩
noncomputable def qy:a0:=
    bf (c3 4 (b8 3 wk (ae (J 1) (ae (ao aG (J 2) (ai (.int 1))) (ae (J 3) (av))))))
    (bf (c3 5 (pF (bc (ao (gn true) (J 4) (ai .non))) (ai .non) (ao aG (ao aG (J 1) (J 4)) (ai (.int 2)))))
    (bf (cL (bc (ao (gn true) (J 5) (ai .non))) (b6 (cE (ae (ai (.str (PySem.Str.ofString "drop"))) (ae (ao aG (J 2) (ai (.int 0))) (av))))) (cU))
    (bf (c3 6 (jE "Net" "beyond" 1 tc (J 0) (ae (cE (ae (ao aG (J 2) (ai (.int 0))) (ae (J 5) (av)))) (av))))
    (bf (cL (bc (ao (gn true) (J 6) (ai .non))) (b6 (cE (ae (ai (.str (PySem.Str.ofString "out"))) (ae (ao aG (J 2) (ai (.int 0))) (ae (J 5) (av)))))) (cU))
    (b6 (cE (ae (ai (.str (PySem.Str.ofString "at"))) (ae (ao aG (J 6) (ai (.int 0))) (ae (ao aG (J 6) (ai (.int 1))) (av))))))))))
def mL:List D→R bZ:=cS 7 qy
theorem w1:cG ["net","books","door","address","doors","told"] ["net","books","door","address"] (bM BC):=⟨rfl,rfl,rfl,by decide+kernel,rfl,by decide+kernel,by decide+kernel⟩
noncomputable def Dv:a0:=
    bf (gq 4 (cT (av)))
    (bf (ta (j8 (bc (ao (inD false) (J 2) (J 4)))) (bf (jg 4 (J 2))
    (bf (c3 5 (b8 4 mL (ae (J 0) (ae (ao aG (J 1) (ao aG (J 2) (ai (.int 0)))) (ae (J 2) (ae (J 3) (av)))))))
    (bf (cL (bc (ao (cW false) (ao aG (J 5) (ai (.int 0))) (ai (.str (PySem.Str.ofString "at"))))) (j9 (cE (ae (J 4) (ae (J 5) (av))))) (cU))
    (c3 2 (cE (ae (ao aG (J 5) (ai (.int 1))) (ae (ao aG (J 5) (ai (.int 2))) (av)))))))))
    (j9 (cE (ae (J 4) (ae (cE (ae (ai (.str (PySem.Str.ofString "ring"))) (ae (nZ (J 4) (ae (J 2) (av))) (av)))) (av))))))
def tp:List D→R bZ:=cS 6 Dv
theorem IP:cG ["done","house","turn"] ["done","house"] (bM Bh):=⟨rfl,rfl,rfl,by decide+kernel,rfl,by decide+kernel,by decide+kernel⟩
noncomputable def uW:a0:=
    bf (c3 2 (cE (ae (ai (.str (PySem.Str.ofString "turn"))) (ae (J 1) (av)))))
    (b6 (jC (ao (inD true) (J 2) (J 0)) (ao (inD true) (ai hy) (iN ip (J 0) (ig (nZ (J 0) (ae (J 2) (av)))) (kO)))))
def tj:List D→R bZ:=cS 3 uW
theorem BE:cG ["net","old","new","plan","place","door","address","step","done"] ["net","old","new","plan","place","door","address"] (bM A7):=⟨rfl,rfl,rfl,by decide+kernel,rfl,by decide+kernel,by decide+kernel⟩
noncomputable def nj:a0:=
    bf (c3 7 (ao aG (J 3) (J 4)))
    (bf (c3 8 (iN ip (J 3) (kO) (ig (J 4))))
    (bf (cL (bc (ao (cW true) (J 7) (cE (ae (ai (.str (PySem.Str.ofString "turn"))) (ae (ao aG (J 5) (ai (.int 0))) (av)))))) (b6 (b8 2 tg (ae (J 8) (ae (ao aG (b8 4 tp (ae (J 0) (ae (J 2) (ae (J 5) (ae (J 6) (av)))))) (ai (.int 0))) (av))))) (cU))
    (bf (cL (mE (bc (ao (cW true) (ao aG (J 7) (ai (.int 0))) (ai (.str (PySem.Str.ofString "forget"))))) (dT (bc (b8 2 tj (ae (J 8) (ae (ao aG (J 5) (ai (.int 0))) (av))))))) (cL (bc (ao (inD true) (ao aG (J 7) (ai (.int 1))) (b5 (dZ 2 [] (fX (ao aG (b8 4 tp (ae (J 0) (ae (J 1) (ae (J 5) (ae (J 6) (av)))))) (ai (.int 0)))) (g9 [bN 0,bN 1]) (eN) (J 0))))) (b6 (ao aG (J 7) (ai (.int 1)))) (cU)) (cU))
    (b6 (ai .non)))))
def lK:List D→R bZ:=cS 9 nj
theorem tL:cG ["net","old","new","plan","place","door","address","house"] ["net","old","new","plan"] (bM Bw):=⟨rfl,rfl,rfl,by decide+kernel,rfl,by decide+kernel,by decide+kernel⟩
noncomputable def Dt:a0:=
    bf (eE (fY (ae (cN dJ (ae (J 3) (av))) (av))) (bN 4) (eE (fX (jE "Net" "outer" 0 td (J 0) av)) (bN 5) (eE (fX (b5 (iL 1 wd (ae (ai (.str (PySem.Str.ofString "xxxx"))) (av))))) (bN 6) (bf (c3 7 (b8 7 lK (ae (J 0) (ae (J 1) (ae (J 2) (ae (J 3) (ae (J 4) (ae (J 5) (ae (J 6) (av))))))))))
    (cL (bc (ao (gn false) (J 7) (ai .non))) (b6 (cE (ae (J 4) (ae (J 5) (ae (J 6) (ae (J 7) (av))))))) (cU))))))
    (b6 (ai .non))
def rk:List D→R bZ:=cS 8 Dt
theorem Wi:cG ["net","old","new","plan"] ["net","old","new","plan"] (bM A4):=⟨rfl,rfl,rfl,by decide+kernel,rfl,by decide+kernel,by decide+kernel⟩
noncomputable def uT:a0:=
    bf (mG (b8 4 iO (lM (ae (J 0) (ae (J 1) (ae (J 2) (ae (J 3) (av))))))))
    (pT (b6 (b8 4 rk (ae (J 0) (ae (J 1) (ae (J 2) (ae (J 3) (av))))))))
def n2:List D→R bZ:=cS 4 uT
theorem Wc:cG ["self"] ["self"] (bM AW):=⟨rfl,rfl,rfl,by decide+kernel,rfl,by decide+kernel,by decide+kernel⟩
def yp:a0:=
    hH (jD (ae (cq (d_ "Net" "joined") (J 0)) (av)))
def wc:List D→R bZ:=cS 1 yp
theorem Wh:cG ["net"] ["net"] (bM A2):=⟨rfl,rfl,rfl,by decide+kernel,rfl,by decide+kernel,by decide+kernel⟩
noncomputable def yr:a0:=
    b6 (pG "Net" 2 wb (ae (b5 (jD (ae (cq (d_ "Net" "counts") (J 0)) (av)))) (ae (jE "Net" "wires" 0 wc (J 0) av) (av))))
def wg:List D→R bZ:=cS 1 yr
theorem Wg:cG ["books"] ["books"] (bM A1):=⟨rfl,rfl,rfl,by decide+kernel,rfl,by decide+kernel,by decide+kernel⟩
def yq:a0:=
    hH (dZ 1 [] (fX (J 0)) (bN 0) (eN) (b5 (jD (ae (J 0) (av)))))
def tf:List D→R bZ:=cS 1 yq
theorem Wd:cG ["self","net","old","new","plan"] ["self","net","old","new","plan"] (bM AX):=⟨rfl,rfl,rfl,by decide+kernel,rfl,by decide+kernel,by decide+kernel⟩
noncomputable def uO:gO:=
    g7 (q7 (b8 4 iO (lM (ae (J 1) (ae (J 2) (ae (J 3) (ae (J 4) (av))))))))
    (g7 (fW "Run" "net" (hJ (b8 1 wg (ae (J 1) (av)))))
    (g7 (fW "Run" "books" (hJ (cE (ae (b5 (iL 1 tf (ae (J 2) (av)))) (ae (b5 (iL 1 tf (ae (J 3) (av)))) (av))))))
    (g7 (fW "Run" "plan" (hJ (b5 (jD (ae (J 4) (av))))))
    (g7 (fW "Run" "done" (hJ (b5 (cT (av)))))
    (g7 (fW "Run" "came" (hJ (ai (.int 0))))
    (g7 (fW "Run" "letters" (hJ (sZ)))
    (fW "Run" "ended" (hJ (b5 (cT (av)))))))))))
def n0:List D→R (List Str×List D):=fun es=>rn "Run" (uO (gm "Run" es))
theorem IK:cG ["net","old","new","plan","found","steps","ahead","moves"] ["net","old","new","plan"] (bM A0):=⟨rfl,rfl,rfl,by decide+kernel,rfl,by decide+kernel,by decide+kernel⟩
noncomputable def uQ:a0:=
    bf (mG (b8 4 iO (lM (ae (J 0) (ae (J 1) (ae (J 2) (ae (J 3) (av))))))))
    (bf (pT (c3 4 (b8 4 rk (ae (J 0) (ae (J 1) (ae (J 2) (ae (J 3) (av))))))))
    (bf (pT (cL (bc (ao (gn true) (J 4) (ai .non))) (b6 (ai .non)) (cU)))
    (nU)))
def n1:List D→R bZ:=cS 8 uQ
theorem ru:cG ["_law_which","_law_net_here","_law_old","_law_new","_law_plan","_law_kinds_here","e"] ["_law_which","_law_net_here","_law_old","_law_new","_law_plan"] (bM Br):=⟨rfl,rfl,rfl,by decide+kernel,rfl,by decide+kernel,by decide+kernel⟩
noncomputable def uY:a0:=
    bf (c3 5 (b5 (cT (av))))
    (bf (pI 6 ["NoBooks","NoPlan"] (mH (bc (ao (cW true) (J 0) (ai (.int 0)))) (g6 4 n2 (ae (J 1) (ae (J 2) (ae (J 3) (ae (J 4) (av)))))) (mH (bc (ao (cW true) (J 0) (ai (.int 1)))) (g6 4 n0 (ae (J 1) (ae (J 2) (ae (J 3) (ae (J 4) (av)))))) (g6 4 n1 (ae (J 1) (ae (J 2) (ae (J 3) (ae (J 4) (av)))))))) (bf (c3 5 (b5 (cT (ae (cq (ic [("NoBooks",true),("NoPlan",true)]) (J 6)) (ae (cq (ic [("NoBooks",true),("NoPlan",false)]) (J 6)) (ae (cq (ic [("NoBooks",false),("NoPlan",true)]) (J 6)) (ae (cq (ic [("NoBooks",false),("NoPlan",false)]) (J 6)) (av))))))))
    (bf (c3 5 (ao d3 (J 5) (b5 (cT (ae (cq (ic [("NoBooks",false),("NoPlan",false)]) (J 6)) (ae (cq (ic [("NoBooks",false),("NoPlan",false)]) (J 6)) (ae (cq (ic [("NoBooks",false),("NoPlan",false)]) (J 6)) (av))))))))
    (c3 5 (ao d3 (J 5) (b5 (cT (ae (cq (ic [("NoBooks",false),("NoPlan",false)]) (J 6)) (ae (cq (ic [("NoBooks",false),("NoPlan",false)]) (J 6)) (ae (cq (ic [("NoBooks",false),("NoPlan",false)]) (J 6)) (av)))))))))))
    (b6 (J 5)))
def n6:List D→R bZ:=cS 7 uY
theorem IT:cG ["_law_net_here","_law_old","_law_new","_law_plan","_law_due","_law_which"] ["_law_net_here","_law_old","_law_new","_law_plan","_law_due"] (bM Bu):=⟨rfl,rfl,rfl,by decide+kernel,rfl,by decide+kernel,by decide+kernel⟩
noncomputable def yJ:a0:=
    bf (eE (fY (ae (ai (.int 3)) (av))) (bN 5) (cL (bc (ao (cW false) (b8 5 n6 (ae (J 5) (ae (J 0) (ae (J 1) (ae (J 2) (ae (J 3) (av))))))) (J 4))) (b6 (ai (.au false))) (cU)))
    (b6 (ai (.au true)))
def rj:List D→R bZ:=cS 6 yJ
theorem Wy:cG ["_law_cell","_law_k"] ["_law_cell","_law_k"] (bM Bs):=⟨rfl,rfl,rfl,by decide+kernel,rfl,by decide+kernel,by decide+kernel⟩
def yH:a0:=
    b6 (ao aG (b5 (iL 2 mK (ae (J 0) (ae (ao d3 (J 1) (ai (.int 1))) (av))))) (J 1))
def tm:List D→R bZ:=cS 2 yH
theorem IS:cG ["_law_many","_law_number","_law_some"] ["_law_many","_law_number"] (bM Bm):=⟨rfl,rfl,rfl,by decide+kernel,rfl,by decide+kernel,by decide+kernel⟩
noncomputable def yD:a0:=
    bf (c3 2 (b5 (cT (ae (b5 (cT (ae (cE (ae (ai (.str (PySem.Str.ofString "teach"))) (ae (J 0) (av)))) (av)))) (ae (b5 (cT (ae (cE (ae (ai (.str (PySem.Str.ofString "turn"))) (ae (ai (.int 0)) (av)))) (ae (cE (ae (ai (.str (PySem.Str.ofString "turn"))) (ae (ai (.int 0)) (av)))) (av))))) (ae (ao mR (b5 (cT (ae (cE (ae (ai (.str (PySem.Str.ofString "wait"))) (av))) (av)))) (ai (.int 41))) (ae (cE (ae (cE (ae (ai (.str (PySem.Str.ofString "wait"))) (av))) (av))) (ae (ai .non) (ae (b5 (cT (ae (b5 (cT (ae (ai (.str (PySem.Str.ofString "wait"))) (av)))) (av)))) (ae (b5 (cT (ae (ai (.str (PySem.Str.ofString "wait"))) (av)))) (av)))))))))))
    (b6 (ao aG (ao d3 (J 2) (b5 (cT (ae (b5 (cT (ae (cE (ae (ai (.str (PySem.Str.ofString "forget"))) (ae (cq pS (ai (.int 1))) (av)))) (av)))) (ae (b5 (cT (ae (cE (ae (ai (.str (PySem.Str.ofString "learn"))) (ae (ai (.int 0)) (av)))) (av)))) (ae (b5 (cT (ae (cE (ae (ai (.str (PySem.Str.ofString "teach"))) (ae (ai (.int 0)) (ae (ai (.int 0)) (av))))) (av)))) (av))))))) (ao dM (J 1) (ai (.int 10)))))
def wi:List D→R bZ:=cS 3 yD
theorem rt:cG ["_law_books_here","_law_number","_law_bad","_law_house","_law_kind","_law_found"] ["_law_books_here","_law_number"] (bM Bl):=⟨rfl,rfl,rfl,by decide+kernel,rfl,by decide+kernel,by decide+kernel⟩
noncomputable def yC:a0:=
    bf (c3 2 (b5 (cT (ae (cE (ae (ai (.str (PySem.Str.ofString "xxxx"))) (ae (ai (.int 9)) (ae (ai .non) (av))))) (ae (cE (ae (ai (.str (PySem.Str.ofString "xxxx"))) (ae (ai .non) (ae (ai (.int 4)) (av))))) (ae (cE (ae (ai (.str (PySem.Str.ofString "xxx"))) (ae (ai .non) (ae (ai (.int 0)) (av))))) (ae (cE (ae (ai (.str (PySem.Str.ofString "xxxy"))) (ae (ai .non) (ae (ai (.int 0)) (av))))) (ae (cE (ae (ai (.str (PySem.Str.ofString "xxxx"))) (ae (cq pS (ai (.int 1))) (ae (ai (.int 0)) (av))))) (ae (cE (ae (ai (.str (PySem.Str.ofString "xxxx"))) (ae (ai .non) (av)))) (av))))))))))
    (bf (c3 2 (ao d3 (J 2) (b5 (cT (ae (b5 (cT (ae (ai (.str (PySem.Str.ofString "xxxx"))) (ae (ai .non) (ae (ai (.int 0)) (av)))))) (ae (cE (ae (ai (.str (PySem.Str.ofString "xxxx"))) (ae (ai (.au true)) (ae (ai (.int 0)) (av))))) (ae (cE (ae (ai (.str (PySem.Str.ofString "xxxx"))) (ae (ai .non) (ae (ai (.str (PySem.Str.ofString "0"))) (av))))) (ae (cE (ae (ai .non) (ae (ai .non) (ae (ai .non) (av))))) (ae (ai .non) (ae (ai (.str (PySem.Str.ofString "xxxx any 0"))) (av)))))))))))
    (bf (c3 3 (ao dM (J 1) (cN dJ (ae (J 0) (av)))))
    (bf (c3 4 (ao dM (ao gi (J 1) (ai (.int 8))) (ai (.int 16))))
    (bf (gq 5 (jD (ae (J 0) (av))))
    (bf (cL (bc (ao nT (J 4) (ai (.int 12)))) (bf (rd 5 (J 3) (ao d3 (iN ip (ao aG (J 0) (J 3)) (kO) (ig (ai (.int 5)))) (b5 (cT (ae (ao aG (J 2) (J 4)) (av))))))
    (hH (mI 5))) (cU))
    (bf (cL (bc (ao (cW true) (J 4) (ai (.int 12)))) (b6 (iN ip (J 0) (kO) (ig (cq pS (ai (.int 1)))))) (cU))
    (bf (cL (bc (ao (cW true) (J 4) (ai (.int 13)))) (b6 (ao d3 (J 0) (b5 (cT (ae (b5 (cT (av))) (av)))))) (cU))
    (bf (cL (bc (ao (cW true) (J 4) (ai (.int 14)))) (b6 (ao d3 (ao d3 (iN ip (J 0) (kO) (ig (J 3))) (b5 (cT (ae (ao mR (b5 (cT (ae (cE (ae (ai (.str (PySem.Str.ofString "xxxx"))) (ae (ai .non) (ae (ai (.int 0)) (av))))) (av)))) (ai (.int 13))) (av))))) (iN ip (J 0) (ig (ao d3 (J 3) (ai (.int 1)))) (kO)))) (cU))
    (b6 (ao aG (b5 (cT (ae (cN lW (ae (J 0) (av))) (ae (ai .non) (ae (sZ) (ae (ai (.str (PySem.Str.ofString "books"))) (av))))))) (ao dM (ao gi (J 1) (ai (.int 128))) (ai (.int 4)))))))))))))
def tk:List D→R bZ:=cS 6 yC
theorem jJ:cG ["_law_script","_law_counts","_law_wires","_law_net_here","_law_old","_law_new","_law_plan","_law_cell","_law_number","_law_some","_law_due"] ["_law_script"] (bM oe):=⟨rfl,rfl,rfl,by decide+kernel,rfl,by decide+kernel,by decide+kernel⟩
noncomputable def yB:a0:=
    bf (s_ (g9 [bN 1,bN 2]) (b8 1 tn (ae (b8 2 mJ (ae (J 0) (ae (ai (.int 0)) (av)))) (av))))
    (bf (c3 3 (pG "Net" 2 wb (ae (b5 (jD (ae (J 1) (av)))) (ae (b5 (jD (ae (J 2) (av)))) (av)))))
    (bf (c3 4 (b5 (iL 3 n5 (ae (J 0) (ae (ai (.int 1)) (ae (J 1) (av)))))))
    (bf (c3 5 (b5 (iL 3 n5 (ae (J 0) (ae (ai (.int 7)) (ae (J 1) (av)))))))
    (bf (c3 6 (b5 (iL 1 wj (ae (J 3) (av)))))
    (bf (cL (dT (bc (b8 5 rj (ae (J 3) (ae (J 4) (ae (J 5) (ae (J 6) (ae (b5 (cT (av))) (av))))))))) (b6 (ai (.au false))) (cU))
    (bf (eE (fX (ao d3 (b5 (cT (ae (ai (.int 1)) (ae (ai (.int 2)) (ae (ai (.int 3)) (av)))))) (iN ip (J 0) (ig (ai (.int 13))) (ig (ai (.int 19)))))) (bN 7) (bf (c3 8 (b8 2 tm (ae (J 7) (ae (ai (.int 0)) (av)))))
    (bf (gq 9 (cT (ae (J 4) (ae (J 5) (ae (J 6) (av))))))
    (bf (c3 10 (b5 (cT (av))))
    (bf (cL (bc (ao (cW true) (ao dM (J 8) (ai (.int 2))) (ai (.int 0)))) (bf (rd 9 (ai (.int 2)) (b8 2 wi (ae (cN dJ (ae (J 1) (av))) (ae (ao gi (J 8) (ai (.int 8))) (av)))))
    (c3 10 (ao d3 (b5 (cT (ae (ai (.au true)) (ae (ai (.au false)) (ae (ai (.au true)) (av)))))) (ao mR (b5 (cT (ae (ai (.au false)) (av)))) (ai (.int 7)))))) (cU))
    (bf (cL (bc (ao nT (ao dM (ao gi (J 8) (ai (.int 2))) (ai (.int 3))) (ai (.int 2)))) (bf (rd 9 (ao dM (ao gi (J 8) (ai (.int 2))) (ai (.int 3))) (b8 2 tk (ae (s7 9 (ao dM (ao gi (J 8) (ai (.int 2))) (ai (.int 3)))) (ae (ao gi (J 8) (ai (.int 6))) (av)))))
    (c3 10 (ao d3 (b5 (cT (ae (ai (.au true)) (ae (ai (.au true)) (av))))) (ao mR (b5 (cT (ae (ai (.au false)) (av)))) (ai (.int 8)))))) (cU))
    (cL (j8 (dT (bc (b8 5 rj (ae (J 3) (ae (ao aG (J 9) (ai (.int 0))) (ae (ao aG (J 9) (ai (.int 1))) (ae (ao aG (J 9) (ai (.int 2))) (ae (J 10) (av)))))))))) (b6 (ai (.au false))) (cU))))))))
    (b6 (b8 5 rj (ae (J 3) (ae (J 4) (ae (J 5) (ae (J 6) (ae (b5 (cT (av))) (av))))))))))))))
def pM:List D→R bZ:=cS 11 yB
section
variable{P:Program}{w:World}{K:PySem.W.Frag}{mg:Str→Option Value}{base:Heap}(T:yd K mg)
include T
set_option maxHeartbeats 4000000
theorem z6:dm P w K mg base "_law_draws" 2 1 mK:=by
 have h:=dX (P:=P) (w:=w) (mg:=mg) (base:=base) (k:=0) (m:=yG) T.Fc pX;exact h fun _ _ _ _ _ _ _ hr _ _=>
 bC (qa 2 pX.bj (df (aB)))
  (bC (dB 3 pX.bj (iS (ah 0) (aF)))
  (bC (jP PassesOwn.never (kr T.i3 (af (ah 1) (aB))) (ij 4 pX.bj) (bD (dH (k7 hr.units (eQ (ah 0) (aF)) (aF)) (bC (dB 5 pX.bj (b2 (ct (df (af (aF) (af (aF) (af (aF) (af (aF) (aB))))))) (eQ (iS (ah 4) (aF)) (aF)) a3))
  (bC (dB 6 pX.bj (b2 (ct (df (af (aF) (af (aF) (af (aF) (af (aF) (aB))))))) (eQ (ah 4) (aF)) a3))
  (bD (xC 2 (iS (eQ (rH (fp (fp (eQ (ah 3) (Cs (aF) (aF))) (rH (aF) (ah 4))) (aF)) (ah 6)) (ah 5)) (aF)))))) (bC (xC 2 (eQ (ah 3) (Cs (aF) (aF))))
  (bD (dB 3 pX.bj (iS (ah 3) (Cs (aF) (aF)))))))))
  (bD (Cx 2))))
theorem RN:dm P w K mg base "_law_net" 1 2 tn:=by
 have h:=dX (P:=P) (w:=w) (mg:=mg) (base:=base) (k:=1) (m:=yI) T.Ff mV;exact h fun _ _ _ _ _ _ _ hr _ _=>
 bC (dB 1 mV.bj (ct (m6 (z6 T) (hr.mono (by decide)) (af (ah 0) (af (aF) (aB))))))
  (bC (dB 2 mV.bj (fp (aF) (eQ (b2 (ah 1) (aF) a3) (aF))))
  (bC (ub (t_ (N:=["_law_k","_law_draws_here","_law_many"]) 3 1 [1,2] mV.bj (by rfl) (kr T.i3 (af (ah 2) (aB))) (i2 0) (hZ) (fun _ _ _ _ _ _ _=>fp (aF) (eQ (b2 (ah 1) (fp (aF) (ah 0)) a3) (b2 (ct (df (af (aF) (af (aF) (af (aF) (af (aF) (af (aF) (af (aF) (aB))))))))) (p7 (ah 2) (aF)) a3)))))
  (bC (qa 4 mV.bj (df (aB)))
  (bC (jP PassesOwn.never (kr T.i3 (af (gx T.fK (af (ah 3) (aB))) (aB))) (ij 5 mV.bj) (bD (Ze (YS 4 (ct (jO (N:=["_law_door","_law_house"]) 1 [5] (by rfl) (kr T.i3 (af (b2 (ah 3) (ah 5) a3) (aB))) (i2 0) (hZ) (fun _ _ _ _ _ _ _=>dn (af (ah 1) (af (ah 0) (aB))))))))))
  (bC (qa 6 mV.bj (df (aB)))
  (bC (jP PassesOwn.never (kr T.i3 (af (Cp (p7 (iS (p7 (gx T.fK (af (ah 4) (aB))) (aF)) (aF)) (eQ (b2 (ah 1) (aF) a3) (aF)))) (aB))) (ij 7 mV.bj) (bC (Zg 8 mV.bj (Kz 4 (Cp (eQ (b2 (ah 1) (fp (aF) (rH (aF) (ah 7))) a3) (gx T.fK (af (ah 4) (aB)))))))
  (bD (Zc 6 (Y7 (KA (Y4 (ah 8)) (KA (Kz 4 (Cp (eQ (b2 (ah 1) (fp (aF) (rH (aF) (ah 7))) a3) (gx T.fK (af (ah 4) (aB)))))) (Y5))))))))
  (bD (xE (dn (af (ah 3) (af (ah 6) (aB))))))))))))
theorem GX:dm P w K mg base "_law_cell_at" 2 1 mJ:=by
 have h:=dX (P:=P) (w:=w) (mg:=mg) (base:=base) (k:=0) (m:=uX) T.Fb Wx;exact h fun _ _ _ _ _ _ _ hr _ _=>
 bC (dH (CA (ah 1) (gx T.fK (af (ah 0) (aB)))) (bD (cF (b2 (ah 0) (ah 1) a3))) (dP))
  (bD (cF (aF)))
theorem RG:dm P w K mg base "is_whole" 1 1 Ag:=by
 have h:=dX (P:=P) (w:=w) (mg:=mg) (base:=base) (k:=0) (m:=Ds) T.E4 Wu;exact h fun _ _ _ _ _ _ _ hr _ _=>
 bD (cF (oy (ko (XZ _) T.fJ T.Dq (by kernel_rfl) (ah 0)) (m4 (Y1 (ko (XY _) T.fJ T.Dp (by kernel_rfl) (ah 0))))))
theorem q1:dm P w K mg base "is_whole_within" 3 2 lL:=by
 have h:=dX (P:=P) (w:=w) (mg:=mg) (base:=base) (k:=1) (m:=yz) T.E5 Wv;exact h fun _ _ _ _ _ _ _ hr _ _=>
 bD (cF (oy (de (RG T) (hr.mono (by decide)) (af (ah 0) (aB))) (m4 (YQ tD tD tB tB (ah 1) (ah 0) (ah 2)))))
theorem Rr:dm P w K mg base "are_counts" 1 3 te:=by
 have h:=dX (P:=P) (w:=w) (mg:=mg) (base:=base) (k:=2) (m:=uP) T.EJ Wf;exact h fun _ _ _ _ _ _ _ hr _ _=>
 bC (dH (jQ (kq (fD (fq (ko (tX _) T.fJ T.i1 (by kernel_rfl) (ah 0)))) (k8 (fD (KO tD tD tB tB (aF) (gx T.fK (af (ah 0) (aB))) (kn T.o5)))))) (bD (cF (fC))) (dP))
  (bD (cF (rG hr T.oZ (af (ct (jO (N:=["doors"]) 1 [] (by rfl) (jR (ah 0)) (i2 0) (hZ) (fun _ _ _ _ _ _ _=>de (q1 T) (hr.mono (by decide)) (af (ah 0) (af (aF) (af (kn T.qB) (aB))))))) (aB)))))
theorem GU:dm P w K mg base "is_pair" 1 1 ti:=by
 have h:=dX (P:=P) (w:=w) (mg:=mg) (base:=base) (k:=0) (m:=Dr) T.EY Wq;exact h fun _ _ _ _ _ _ _ hr _ _=>
 bD (cF (oy (ko (B5 _) T.fJ T.o3 (by kernel_rfl) (ah 0)) (m4 (Cq hr.units (gx T.fK (af (ah 0) (aB))) (aF)))))
theorem GR:dm P w K mg base "is_door_among" 2 3 th:=by
 have h:=dX (P:=P) (w:=w) (mg:=mg) (base:=base) (k:=2) (m:=yw) T.EW Wn;exact h fun _ _ _ _ _ _ _ hr _ _=>
 bC (dH (jQ (kq (fD (fq (de (GU T) (hr.mono (by decide)) (af (ah 1) (aB))))) (k8 (fD (fq (de (q1 T) (hr.mono (by decide)) (af (b2 (ah 1) (aF) a3) (af (aF) (af (p7 (gx T.fK (af (ah 0) (aB))) (aF)) (aB)))))))))) (bD (cF (fC))) (dP))
  (bD (cF (de (q1 T) (hr.mono (by decide)) (af (b2 (ah 1) (aF) a3) (af (aF) (af (p7 (b2 (ah 0) (b2 (ah 1) (aF) a3) a3) (aF)) (aB)))))))
theorem RH:dm P w K mg base "is_wire_among" 2 4 ri:=by
 have h:=dX (P:=P) (w:=w) (mg:=mg) (base:=base) (k:=3) (m:=yA) T.E6 IQ;exact h fun _ _ _ _ _ _ _ hr _ _=>
 bC (dH (fD (fq (de (GU T) (hr.mono (by decide)) (af (ah 1) (aB))))) (bD (cF (fC))) (dP))
  (bC (dB 2 IQ.bj (oy (de (GR T) (hr.mono (by decide)) (af (ah 0) (af (b2 (ah 1) (aF) a3) (aB)))) (m4 (de (GR T) (hr.mono (by decide)) (af (ah 0) (af (b2 (ah 1) (aF) a3) (aB)))))))
  (bD (cF (oy (ah 2) (m4 (YZ hr.units (b2 (ah 1) (aF) a3) (b2 (ah 1) (aF) a3)))))))
theorem Rv:dm P w K mg base "far_doors" 2 5 rg:=by
 have h:=dX (P:=P) (w:=w) (mg:=mg) (base:=base) (k:=4) (m:=uS) T.EN BD;exact h fun _ _ _ _ _ _ _ hr _ _=>
 bC (Zf 2 BD.bj)
  (bC (jP PassesOwn.never (Zo (ah 1)) (ij 3 BD.bj) (bC (dH (fD (fq (de (RH T) (hr.mono (by decide)) (af (ah 0) (af (ah 3) (aB)))))) (bD (KJ)) (dP))
  (bC (dH (Cy (jQ (kq (KP hr.units (b2 (ah 3) (aF) a3) (ah 2)) (k8 (KP hr.units (b2 (ah 3) (aF) a3) (ah 2)))))) (bD (KJ)) (dP))
  (bC (KL 2 hr.units (b2 (ah 3) (aF) a3) (b2 (ah 3) (aF) a3))
  (bD (KL 2 hr.units (b2 (ah 3) (aF) a3) (b2 (ah 3) (aF) a3)))))))
  (bD (xE (ah 2))))
theorem GO:uz P w K mg base "Net" 2 6 wb:=by
 have h:=Y8 (P:=P) (w:=w) (mg:=mg) (base:=base) (k:=5) (m:=uN) T.EE Wb;exact h fun _ _ _ _ _ _ _ hr _ _=>
 kp (KD (fD (fq (de (Rr T) (hr.mono (by decide)) (af (ah 1) (aB))))))
  (kp (KD (fD (fq (ko (tX _) T.fJ T.i1 (by kernel_rfl) (ah 2)))))
  (kp (kZ T.g4 (gx T.fK (af (ah 1) (aB))))
  (kp (kZ T.g4 (Ct T.o3 (af (ah 1) (aB))))
  (kp (kZ T.g4 (Ct T.o3 (af (ah 2) (aB))))
  (KG (kZ T.g4 (YP (de (Rv T) (hr.mono (by decide)) (af (jN T.g4 (ah 0)) (af (jN T.g4 (ah 0)) (aB)))))))))))
theorem RO:dm P w K mg base "_law_row" 2 1 pO:=by
 have h:=dX (P:=P) (w:=w) (mg:=mg) (base:=base) (k:=0) (m:=yK) T.Fh wY;exact h fun _ _ _ _ _ _ _ hr _ _=>
 bC (dB 2 wY.bj (YX (af (ct (jO (N:=["_law_k","_law_draws_here"]) 1 [0] (by rfl) (kr T.i3 (af (aF) (aB))) (i2 0) (hZ) (fun _ _ _ _ _ _ _=>b2 (dt) (eQ (b2 (ah 1) (ah 0) a3) (aF)) a3))) (aB))))
  (bC (dB 3 wY.bj (b2 (ct (df (af (ew) (af (ew) (af (ew) (af (eQ (b2 (ah 0) (aF) a3) (ah 1)) (aB))))))) (eQ (b2 (ah 0) (aF) a3) (aF)) a3))
  (bC (dB 4 wY.bj (b2 (ct (df (af (eQ (b2 (ah 0) (aF) a3) (ah 1)) (af (ew) (aB))))) (iS (eQ (b2 (ah 0) (aF) a3) (aF)) (aF)) a3))
  (bD (cF (dn (af (ah 2) (af (ah 3) (af (ah 4) (aB)))))))))
theorem RK:dm P w K mg base "_law_book" 2 2 pN:=by
 have h:=dX (P:=P) (w:=w) (mg:=mg) (base:=base) (k:=1) (m:=yE) T.E9 tK;exact h fun _ _ _ _ _ _ _ hr _ _=>
 bC (dB 2 tK.bj (ct (m6 (z6 T) (hr.mono (by decide)) (af (ah 0) (af (aF) (aB))))))
  (bC (dB 3 tK.bj (b2 (ct (df (af (eQ (b2 (ah 2) (aF) a3) (aF)) (af (eQ (b2 (ah 2) (aF) a3) (aF)) (aB))))) (iS (eQ (b2 (ah 2) (aF) a3) (aF)) (aF)) a3))
  (bC (ub (t_ (N:=["_law_k","_law_count","_law_draws_here"]) 4 1 [1,2] tK.bj (by rfl) (kr T.i3 (af (ah 3) (aB))) (i2 0) (hZ) (fun _ _ _ _ _ _ _=>de (RO T) (hr.mono (by decide)) (af (m5 (ah 2) (k4 (fp (aF) (rH (aF) (ah 0)))) (k4 (fp (aF) (rH (aF) (ah 0))))) (af (ah 1) (aB))))))
  (bC (dH (Cz (eQ (b2 (ah 2) (aF) a3) (aF)) (aF)) (bD (dB 4 tK.bj (fp (m5 (ah 4) (p_) (k4 (aF))) (ct (df (af (dn (af (dt) (af (ew) (af (eQ (b2 (ah 2) (aF) a3) (ah 1)) (aB))))) (aB))))))) (dP))
  (bD (cF (ah 4))))))
theorem GW:dm P w K mg base "_law_books" 3 3 n5:=by
 have h:=dX (P:=P) (w:=w) (mg:=mg) (base:=base) (k:=2) (m:=yF) T.E_ Ww;exact h fun _ _ _ _ _ _ _ hr _ _=>
 bD (ua (jO (N:=["_law_k","_law_many","_law_script","_law_start"]) 2 [0,1] (by rfl) (CC T.uR (af (ah 2) (aB))) (uZ 0 1) (hZ) (fun _ _ _ _ _ _ _=>de (RK T) (hr.mono (by decide)) (af (de (GX T) (hr.mono (by decide)) (af (ah 2) (af (fp (ah 3) (ah 0)) (aB)))) (af (ah 1) (aB))))))
theorem RQ:dm P w K mg base "plain_plan" 1 1 wj:=by
 have h:=dX (P:=P) (w:=w) (mg:=mg) (base:=base) (k:=0) (m:=yL) T.Fm w0;exact h fun _ _ _ _ _ _ _ hr _ _=>
 bC (dB 1 w0.bj (ct (Za T.i1 T.i3 (af (jN T.g4 (ah 0)) (aB)))))
  (bC (ub (t_ (N:=["house"]) 2 1 [] w0.bj (by rfl) (jR (ah 1)) (i2 0) (hZ) (fun _ _ _ _ _ _ _=>dn (af (dt) (af (ah 0) (aB))))))
  (bC (ub (t_ (N:=["house"]) 3 1 [] w0.bj (by rfl) (jR (ah 1)) (i2 0) (hZ) (fun _ _ _ _ _ _ _=>dn (af (dt) (af (ah 0) (aB))))))
  (bD (ua (Cv (ct (Cv (ct (Cv (ah 2) (ah 3))) (ct (df (af (kn T.hy) (aB)))))) (ct (jO (N:=["house"]) 1 [] (by rfl) (jR (ah 1)) (i2 0) (hZ) (fun _ _ _ _ _ _ _=>dn (af (dt) (af (ah 0) (aB)))))))))))
theorem GV:dm P w K mg base "is_pattern" 1 1 rh:=by
 have h:=dX (P:=P) (w:=w) (mg:=mg) (base:=base) (k:=0) (m:=yx) T.EZ Wr;exact h fun _ _ _ _ _ _ _ hr _ _=>
 bC (dH (jQ (kq (fD (fq (ko (JP _) T.fJ T.u0 (by kernel_rfl) (ah 0)))) (k8 (rI hr.units (gx T.fK (af (ah 0) (aB))) (gx T.fK (af (kn T.nu) (aB))))))) (bD (cF (fC))) (dP))
  (bD (cF (rG hr T.oZ (af (ct (jO (N:=["sign"]) 1 [] (by rfl) (Zn (ah 0)) (i2 0) (hZ) (fun _ _ _ _ _ _ _=>t8 hr.units (ah 0) (kn T.qC)))) (aB)))))
theorem GS:dm P w K mg base "is_number_or_none" 2 3 n3:=by
 have h:=dX (P:=P) (w:=w) (mg:=mg) (base:=base) (k:=2) (m:=uU) T.EX Wo;exact h fun _ _ _ _ _ _ _ hr _ _=>
 bD (cF (Y2 (YT (ah 0) (ew)) (m4 (de (q1 T) (hr.mono (by decide)) (af (ah 0) (af (aF) (af (p7 (ah 1) (aF)) (aB))))))))
theorem RD:dm P w K mg base "is_row" 2 4 n4:=by
 have h:=dX (P:=P) (w:=w) (mg:=mg) (base:=base) (k:=3) (m:=yy) T.E1 Ws;exact h fun _ _ _ _ _ _ _ hr _ _=>
 bC (dH (jQ (kq (fD (fq (ko (B5 _) T.fJ T.o3 (by kernel_rfl) (ah 0)))) (k8 (rI hr.units (gx T.fK (af (ah 0) (aB))) (aF))))) (bD (cF (fC))) (dP))
  (bC (dH (fD (fq (de (GV T) (hr.mono (by decide)) (af (b2 (ah 0) (aF) a3) (aB))))) (bD (cF (fC))) (dP))
  (bD (cF (oy (de (GS T) (hr.mono (by decide)) (af (b2 (ah 0) (aF) a3) (af (ah 1) (aB)))) (m4 (de (GS T) (hr.mono (by decide)) (af (b2 (ah 0) (aF) a3) (af (ah 1) (aB)))))))))
theorem RA:dm P w K mg base "is_book" 2 5 j_:=by
 have h:=dX (P:=P) (w:=w) (mg:=mg) (base:=base) (k:=4) (m:=r8) T.EU Wl;exact h fun _ _ _ _ _ _ _ hr _ _=>
 bC (dH (jQ (kq (fD (fq (ko (tX _) T.fJ T.i1 (by kernel_rfl) (ah 0)))) (k8 (Cz (gx T.fK (af (ah 0) (aB))) (kn T.nr))))) (bD (cF (fC))) (dP))
  (bD (cF (rG hr T.oZ (af (ct (jO (N:=["row","doors"]) 1 [1] (by rfl) (jR (ah 0)) (i2 0) (hZ) (fun _ _ _ _ _ _ _=>de (RD T) (hr.mono (by decide)) (af (ah 0) (af (ah 1) (aB)))))) (aB)))))
theorem Rm:l8 P w K mg base "Net" "count" 1 1 wa:=by
 have h:=xB (P:=P) (w:=w) (mg:=mg) (base:=base) (k:=0) (m:=yn) T.ED Wa;exact h fun _ _ _ _ _ _ _ hr _ _=>
 bD (cF (Ku (KO tD HK tB Tv (aF) (ah 1) (jN T.g4 (ah 0))) (b2 (jN T.g4 (ah 0)) (ah 1) a3) (aF)))
theorem RB:dm P w K mg base "is_books" 2 6 gV:=by
 have h:=dX (P:=P) (w:=w) (mg:=mg) (base:=base) (k:=5) (m:=r9) T.EV Wm;exact h fun _ _ _ _ _ _ _ hr _ _=>
 bC (dH (jQ (kq (fD (fq (ko (tX _) T.fJ T.i1 (by kernel_rfl) (ah 0)))) (k8 (rI hr.units (gx T.fK (af (ah 0) (aB))) (jN T.g4 (ah 1)))))) (bD (cF (fC))) (dP))
  (bD (cF (rG hr T.oZ (af (ct (jO (N:=["house","book","net"]) 2 [1] (by rfl) (CC T.uR (af (ah 0) (aB))) (uZ 0 1) (hZ) (fun _ _ _ _ _ _ _=>de (RA T) (hr.mono (by decide)) (af (ah 1) (af (Kx (Rm T) (hr.mono (by decide)) (ah 2) (af (ah 0) (aB))) (aB)))))) (aB)))))
theorem GZ:oN P w K mg base "refuse_unless_books" 2 7 n7:=by
 have h:=xx (P:=P) (w:=w) (mg:=mg) (base:=base) (k:=6) (m:=o1) T.Fn Wz;exact h fun _ _ _ _ _ _ _ hr _ _=>
 bD (dH (KC (fD (fq (de (RB T) (hr.mono (by decide)) (af (ah 0) (af (ah 1) (aB))))))) (bD (KN T.Kq)) (dP))
theorem RE:dm P w K mg base "is_step" 2 3 pL:=by
 have h:=dX (P:=P) (w:=w) (mg:=mg) (base:=base) (k:=2) (m:=uV) T.E2 Wt;exact h fun _ _ _ _ _ _ _ hr _ _=>
 bC (dH (jQ (kq (fD (fq (ko (B5 _) T.fJ T.o3 (by kernel_rfl) (ah 0)))) (kq (CB hr.units (gx T.fK (af (ah 0) (aB))) (dn (af (aF) (af (aF) (aB))))) (k8 (fD (fq (ko (JP _) T.fJ T.u0 (by kernel_rfl) (b2 (ah 0) (aF) a3)))))))) (bD (cF (fC))) (dP))
  (bC (dH (k7 hr.units (gx T.fK (af (ah 0) (aB))) (aF)) (bD (cF (Cq hr.units (b2 (ah 0) (aF) a3) (dt)))) (dP))
  (bD (cF (oy (t8 hr.units (b2 (ah 0) (aF) a3) (dn (af (dt) (af (dt) (af (dt) (aB)))))) (m4 (de (q1 T) (hr.mono (by decide)) (af (b2 (ah 0) (aF) a3) (af (aF) (af (p7 (jN T.g4 (ah 1)) (aF)) (aB))))))))))
theorem RC:dm P w K mg base "is_plan" 2 4 ih:=by
 have h:=dX (P:=P) (w:=w) (mg:=mg) (base:=base) (k:=3) (m:=qx) T.E0 IM;exact h fun _ _ _ _ _ _ _ hr _ _=>
 bC (dH (jQ (kq (fD (fq (ko (tX _) T.fJ T.i1 (by kernel_rfl) (ah 0)))) (k8 (Cz (gx T.fK (af (ah 0) (aB))) (kn T.nt))))) (bD (cF (fC))) (dP))
  (bC (dH (fD (fq (rG hr T.oZ (af (ct (jO (N:=["step","net"]) 1 [1] (by rfl) (jR (ah 0)) (i2 0) (hZ) (fun _ _ _ _ _ _ _=>de (RE T) (hr.mono (by decide)) (af (ah 0) (af (ah 1) (aB)))))) (aB))))) (bD (cF (fC))) (dP))
  (bC (ub (t_ (N:=["step"]) 2 1 [] IM.bj (by rfl) (jR (ah 0)) (i2 0) (Ks (fun _ _ _ _ _ _ _=>rI hr.units (ah 0) (kn T.hy))) (fun _ _ _ _ _ _ _=>ah 0)))
  (bD (cF (Cq hr.units (YY hr.hd hr.units T.fK T.Du (af (ah 2) (aB))) (gx T.fK (af (ah 2) (aB))))))))
theorem z8:oN P w K mg base "refuse_unless_plan" 4 8 iO:=by
 have h:=xx (P:=P) (w:=w) (mg:=mg) (base:=base) (k:=7) (m:=o2) T.Fo WA;exact h fun _ _ _ _ _ _ _ hr _ _=>
 bC (xD (t7 (GZ T) (hr.mono (by decide)) (t9 (af (ah 1) (af (ah 0) (aB))))))
  (bC (xD (t7 (GZ T) (hr.mono (by decide)) (t9 (af (ah 2) (af (ah 0) (aB))))))
  (bD (dH (KC (fD (fq (de (RC T) (hr.mono (by decide)) (af (ah 3) (af (ah 0) (aB))))))) (bD (KN T.Kr)) (dP))))
theorem Rn:l8 P w K mg base "Net" "outer" 0 1 td:=by
 have h:=xB (P:=P) (w:=w) (mg:=mg) (base:=base) (k:=0) (m:=yo) T.EF wX;exact h fun _ _ _ _ _ _ _ hr _ _=>
 bC (qa 1 wX.bj (df (aB)))
  (bC (jP PassesOwn.never (kr T.i3 (af (jN T.g4 (ah 0)) (aB))) (ij 2 wX.bj) (bD (jP PassesOwn.never (kr T.i3 (af (b2 (jN T.g4 (ah 0)) (ah 2) a3) (aB))) (ij 3 wX.bj) (bD (dH (Zk hr.units (dn (af (ah 2) (af (ah 3) (aB)))) (jN T.g4 (ah 0))) (bD (xC 1 (dn (af (ah 2) (af (ah 3) (aB)))))) (dP))))))
  (bD (Cx 1)))
theorem Rz:dm P w K mg base "is_address" 1 3 wh:=by
 have h:=dX (P:=P) (w:=w) (mg:=mg) (base:=base) (k:=2) (m:=yv) T.ET Wk;exact h fun _ _ _ _ _ _ _ hr _ _=>
 bD (cF (de (q1 T) (hr.mono (by decide)) (af (ah 0) (af (aF) (af (kn T.nq) (aB))))))
theorem GQ:dm P w K mg base "fits" 2 4 pK:=by
 have h:=dX (P:=P) (w:=w) (mg:=mg) (base:=base) (k:=3) (m:=yu) T.ER Wj;exact h fun _ _ _ _ _ _ _ hr _ _=>
 bC (dH (jQ (kq (fD (fq (de (GV T) (hr.mono (by decide)) (af (ah 0) (aB))))) (k8 (fD (fq (de (Rz T) (hr.mono (by decide)) (af (ah 1) (aB)))))))) (bD (cF (fC))) (dP))
  (bD (cF (rG hr T.oZ (af (ct (jO (N:=["sign","worth","address"]) 2 [1] (by rfl) (Zp T.Dw (af (ah 0) (af (kn T.nu) (aB)))) (uZ 0 1) (hZ) (fun _ _ _ _ _ _ _=>t8 hr.units (ah 0) (dn (af (dt) (af (Y3 T.u0 (af (eQ (iS (ah 2) (ah 1)) (aF)) (aB))) (aB))))))) (aB)))))
theorem Rq:dm P w K mg base "addresses" 1 5 wd:=by
 have h:=dX (P:=P) (w:=w) (mg:=mg) (base:=base) (k:=4) (m:=Dn) T.EI We;exact h fun _ _ _ _ _ _ _ hr _ _=>
 bD (ua (jO (N:=["address","pattern"]) 1 [0] (by rfl) (kr T.i3 (af (fp (kn T.nq) (aF)) (aB))) (i2 0) (Ks (fun _ _ _ _ _ _ _=>fq (de (GQ T) (hr.mono (by decide)) (af (ah 1) (af (ah 0) (aB)))))) (fun _ _ _ _ _ _ _=>ah 0)))
theorem Rx:dm P w K mg base "first_untaught" 2 1 tg:=by
 have h:=dX (P:=P) (w:=w) (mg:=mg) (base:=base) (k:=0) (m:=yt) T.EP IL;exact h fun _ _ _ _ _ _ _ hr _ _=>
 bC (jP PassesOwn.never (jR (ah 1)) (ij 2 IL.bj) (bD (dH (CB hr.units (dn (af (dt) (af (b2 (ah 2) (aF) a3) (aB)))) (ah 0)) (bD (cF (b2 (ah 2) (aF) a3))) (dP))))
  (bD (cF (ew)))
theorem RR:dm P w K mg base "taken" 3 5 wk:=by
 have h:=dX (P:=P) (w:=w) (mg:=mg) (base:=base) (k:=4) (m:=yM) T.Fp BF;exact h fun _ _ _ _ _ _ _ hr _ _=>
 bC (jP PassesOwn.never (CC T.uR (af (ah 0) (aB))) (Ho rfl (wx (ij 3 BF.bj) (wx (ij 4 BF.bj) (Hn)))) (bD (dH (jQ (KQ (jQ (kq (uc (b2 (ah 4) (aF) a3) (ew)) (k8 (k7 hr.units (b2 (ah 4) (aF) a3) (ah 1))))) (KR (fq (de (GQ T) (hr.mono (by decide)) (af (b2 (ah 4) (aF) a3) (af (ah 2) (aB)))))))) (bD (cF (ah 3))) (dP))))
  (bD (cF (ew)))
theorem Rl:l8 P w K mg base "Net" "beyond" 1 1 tc:=by
 have h:=xB (P:=P) (w:=w) (mg:=mg) (base:=base) (k:=0) (m:=ym) T.EC V_;exact h fun _ _ _ _ _ _ _ hr _ _=>
 bD (cF (YR hr.units (jN T.g4 (ah 0)) (ah 1)))
theorem RP:dm P w K mg base "onward" 4 6 mL:=by
 have h:=dX (P:=P) (w:=w) (mg:=mg) (base:=base) (k:=5) (m:=qy) T.Fl wZ;exact h fun _ _ _ _ _ _ _ hr _ _=>
 bC (dB 4 wZ.bj (de (RR T) (hr.mono (by decide)) (af (ah 1) (af (b2 (ah 2) (aF) a3) (af (ah 3) (aB))))))
  (bC (dB 5 wZ.bj (Ku (uc (ah 4) (ew)) (ew) (b2 (b2 (ah 1) (ah 4) a3) (aF) a3)))
  (bC (dH (uc (ah 5) (ew)) (bD (cF (dn (af (dt) (af (b2 (ah 2) (aF) a3) (aB)))))) (dP))
  (bC (dB 6 wZ.bj (Kx (Rl T) (hr.mono (by decide)) (ah 0) (af (dn (af (b2 (ah 2) (aF) a3) (af (ah 5) (aB)))) (aB))))
  (bC (dH (uc (ah 6) (ew)) (bD (cF (dn (af (dt) (af (b2 (ah 2) (aF) a3) (af (ah 5) (aB))))))) (dP))
  (bD (cF (dn (af (dt) (af (b2 (ah 6) (aF) a3) (af (b2 (ah 6) (aF) a3) (aB)))))))))))
theorem G0:dm P w K mg base "walked" 4 7 tp:=by
 have h:=dX (P:=P) (w:=w) (mg:=mg) (base:=base) (k:=6) (m:=Dv) T.Fq w1;exact h fun _ _ _ _ _ _ _ hr _ _=>
 bC (qa 4 w1.bj (df (aB)))
  (bC (Zj PassesOwn.never (Cy (CB hr.units (ah 2) (ah 4))) (bC (xC 4 (ah 2))
  (bC (dB 5 w1.bj (de (RP T) (hr.mono (by decide)) (af (ah 0) (af (b2 (ah 1) (b2 (ah 2) (aF) a3) a3) (af (ah 2) (af (ah 3) (aB)))))))
  (bC (dH (rI hr.units (b2 (ah 5) (aF) a3) (dt)) (bD (xE (dn (af (ah 4) (af (ah 5) (aB)))))) (dP))
  (bD (dB 2 w1.bj (dn (af (b2 (ah 5) (aF) a3) (af (b2 (ah 5) (aF) a3) (aB))))))))))
  (bD (xE (dn (af (ah 4) (af (dn (af (dt) (af (Kv hr.units (ah 4) (af (ah 2) (aB))) (aB)))) (aB)))))))
theorem RF:dm P w K mg base "is_waited_for" 2 1 tj:=by
 have h:=dX (P:=P) (w:=w) (mg:=mg) (base:=base) (k:=0) (m:=uW) T.E3 IP;exact h fun _ _ _ _ _ _ _ hr _ _=>
 bC (dB 2 IP.bj (dn (af (dt) (af (ah 1) (aB)))))
  (bD (cF (oy (t8 hr.units (ah 2) (ah 0)) (m4 (t8 hr.units (kn T.hy) (m5 (ah 0) (k4 (Kv hr.units (ah 0) (af (ah 2) (aB)))) (p_)))))))
theorem Ry:dm P w K mg base "house_at_fault" 7 8 lK:=by
 have h:=dX (P:=P) (w:=w) (mg:=mg) (base:=base) (k:=7) (m:=nj) T.ES BE;exact h fun _ _ _ _ _ _ _ hr _ _=>
 bC (dB 7 BE.bj (b2 (ah 3) (ah 4) a3))
  (bC (dB 8 BE.bj (m5 (ah 3) (p_) (k4 (ah 4))))
  (bC (dH (k7 hr.units (ah 7) (dn (af (dt) (af (b2 (ah 5) (aF) a3) (aB))))) (bD (cF (de (Rx T) (hr.mono (by decide)) (af (ah 8) (af (b2 (de (G0 T) (hr.mono (by decide)) (af (ah 0) (af (ah 2) (af (ah 5) (af (ah 6) (aB)))))) (aF) a3) (aB)))))) (dP))
  (bC (dH (jQ (KQ (k7 hr.units (b2 (ah 7) (aF) a3) (dt)) (KR (fD (fq (de (RF T) (hr.mono (by decide)) (af (ah 8) (af (b2 (ah 5) (aF) a3) (aB))))))))) (bD (dH (Zl hr.units (b2 (ah 7) (aF) a3) (ct (jO (N:=["house","number"]) 2 [] (by rfl) (jR (b2 (de (G0 T) (hr.mono (by decide)) (af (ah 0) (af (ah 1) (af (ah 5) (af (ah 6) (aB)))))) (aF) a3)) (uZ 0 1) (hZ) (fun _ _ _ _ _ _ _=>ah 0)))) (bD (cF (b2 (ah 7) (aF) a3))) (dP))) (dP))
  (bD (cF (ew))))))
theorem GY:dm P w K mg base "least_fault" 4 9 rk:=by
 have h:=dX (P:=P) (w:=w) (mg:=mg) (base:=base) (k:=8) (m:=Dt) T.Fi tL;exact h fun _ _ _ _ _ _ _ hr _ _=>
 bC (jP PassesOwn.never (kr T.i3 (af (gx T.fK (af (ah 3) (aB))) (aB))) (ij 4 tL.bj) (bD (jP PassesOwn.never (jR (Ky (Rn T) (hr.mono (by decide)) (ah 0))) (ij 5 tL.bj) (bD (jP PassesOwn.never (jR (ct (m6 (Rq T) (hr.mono (by decide)) (af (dt) (aB))))) (ij 6 tL.bj) (bC (dB 7 tL.bj (de (Ry T) (hr.mono (by decide)) (af (ah 0) (af (ah 1) (af (ah 2) (af (ah 3) (af (ah 4) (af (ah 5) (af (ah 6) (aB))))))))))
  (bD (dH (Zm (ah 7) (ew)) (bD (cF (dn (af (ah 4) (af (ah 5) (af (ah 6) (af (ah 7) (aB)))))))) (dP)))))))))
  (bD (cF (ew)))
theorem Rw:oN P w K mg base "fault" 4 10 n2:=by
 have h:=xx (P:=P) (w:=w) (mg:=mg) (base:=base) (k:=9) (m:=uT) T.EO Wi;exact h fun _ _ _ _ _ _ _ hr _ _=>
 bC (xD (t7 (z8 T) (hr.mono (by decide)) (t9 (af (ah 0) (af (ah 1) (af (ah 2) (af (ah 3) (aB))))))))
  (bD (Cu (cF (de (GY T) (hr.mono (by decide)) (af (ah 0) (af (ah 1) (af (ah 2) (af (ah 3) (aB)))))))))
theorem Ro:l8 P w K mg base "Net" "wires" 0 1 wc:=by
 have h:=xB (P:=P) (w:=w) (mg:=mg) (base:=base) (k:=0) (m:=yp) T.EG Wc;exact h fun _ _ _ _ _ _ _ hr _ _=>
 bD (ua (p9 T.i1 (af (jN T.g4 (ah 0)) (aB))))
theorem Ru:dm P w K mg base "copied_net" 1 8 wg:=by
 have h:=dX (P:=P) (w:=w) (mg:=mg) (base:=base) (k:=7) (m:=yr) T.EM Wh;exact h fun _ _ _ _ _ _ _ hr _ _=>
 bD (cF (Kw (GO T) (hr.mono (by decide)) (af (ct (p9 T.i1 (af (jN T.g4 (ah 0)) (aB)))) (af (Ky (Ro T) (hr.mono (by decide)) (ah 0)) (aB)))))
theorem GP:dm P w K mg base "copied_books" 1 1 tf:=by
 have h:=dX (P:=P) (w:=w) (mg:=mg) (base:=base) (k:=0) (m:=yq) T.EL Wg;exact h fun _ _ _ _ _ _ _ hr _ _=>
 bD (ua (jO (N:=["book"]) 1 [] (by rfl) (jR (ah 0)) (i2 0) (hZ) (fun _ _ _ _ _ _ _=>ct (p9 T.i1 (af (ah 0) (aB))))))
theorem Rp:x5 P w K mg base "Run" 4 9 n0:=by
 have h:=Y9 (P:=P) (w:=w) (mg:=mg) (base:=base) (k:=8) (m:=uO) T.EH Wd;exact h fun _ _ _ _ _ _ _ hr _ _=>
 kp (Y_ (t7 (z8 T) (hr.mono (by decide)) (t9 (af (ah 1) (af (ah 2) (af (ah 3) (af (ah 4) (aB))))))))
  (kp (kZ T.nP (p8 (de (Ru T) (hr.mono (by decide)) (af (ah 1) (aB)))))
  (kp (kZ T.nP (p8 (dn (af (ct (m6 (GP T) (hr.mono (by decide)) (af (ah 2) (aB)))) (af (ct (m6 (GP T) (hr.mono (by decide)) (af (ah 3) (aB)))) (aB))))))
  (kp (kZ T.nP (p8 (ct (p9 T.i1 (af (ah 4) (aB))))))
  (kp (kZ T.nP (p8 (ct (df (aB)))))
  (kp (kZ T.nP (p8 (aF)))
  (kp (kZ T.nP (p8 (Kt)))
  (KG (kZ T.nP (p8 (ct (df (aB))))))))))))
theorem Rt:oN P w K mg base "breaking" 4 10 n1:=by
 have h:=xx (P:=P) (w:=w) (mg:=mg) (base:=base) (k:=9) (m:=uQ) T.EK IK;exact h fun _ _ _ _ _ _ _ hr _ _=>
 bC (xD (t7 (z8 T) (hr.mono (by decide)) (t9 (af (ah 0) (af (ah 1) (af (ah 2) (af (ah 3) (aB))))))))
  (bC (Cu (dB 4 IK.bj (de (GY T) (hr.mono (by decide)) (af (ah 0) (af (ah 1) (af (ah 2) (af (ah 3) (aB))))))))
  (bC (Cu (dH (uc (ah 4) (ew)) (bD (cF (ew))) (dP)))
  (Zd)))
theorem RL:dm P w K mg base "_law_kinds" 5 11 n6:=by
 have h:=dX (P:=P) (w:=w) (mg:=mg) (base:=base) (k:=10) (m:=uY) T.Fd ru;exact h fun _ _ _ _ _ _ _ hr _ _=>
 bC (dB 5 ru.bj (ct (df (aB))))
  (bC (Zh 6 ru.bj T.JK (KI (k7 hr.units (ah 0) (aF)) (KH (Rw T) (hr.mono (by decide)) (af (ah 1) (af (ah 2) (af (ah 3) (af (ah 4) (aB)))))) (KI (k7 hr.units (ah 0) (aF)) (Zb (Rp T) (hr.mono (by decide)) (af (ah 1) (af (ah 2) (af (ah 3) (af (ah 4) (aB)))))) (KH (Rt T) (hr.mono (by decide)) (af (ah 1) (af (ah 2) (af (ah 3) (af (ah 4) (aB)))))))) (fun _=>bC (dB 5 ru.bj (ct (df (af (YU T.J4 T.fJ T.Dm (ah 6)) (af (m3 T.JW T.fJ (ah 6)) (af (m3 T.J0 T.fJ (ah 6)) (af (m3 T.JZ T.fJ (ah 6)) (aB))))))))
  (bC (dB 5 ru.bj (fp (ah 5) (ct (df (af (m3 T.JX T.fJ (ah 6)) (af (m3 T.JV T.fJ (ah 6)) (af (m3 T.J2 T.fJ (ah 6)) (aB))))))))
  (bD (dB 5 ru.bj (fp (ah 5) (ct (df (af (m3 T.J1 T.fJ (ah 6)) (af (m3 T.JY T.fJ (ah 6)) (af (m3 T.J3 T.fJ (ah 6)) (aB))))))))))))
  (bD (cF (ah 5))))
theorem z7:dm P w K mg base "_law_right" 5 12 rj:=by
 have h:=dX (P:=P) (w:=w) (mg:=mg) (base:=base) (k:=11) (m:=yJ) T.Fg IT;exact h fun _ _ _ _ _ _ _ hr _ _=>
 bC (jP PassesOwn.never (kr T.i3 (af (aF) (aB))) (ij 5 IT.bj) (bD (dH (rI hr.units (de (RL T) (hr.mono (by decide)) (af (ah 5) (af (ah 0) (af (ah 1) (af (ah 2) (af (ah 3) (aB))))))) (ah 4)) (bD (cF (fC))) (dP))))
  (bD (cF (fC)))
theorem RM:dm P w K mg base "_law_mixed" 2 2 tm:=by
 have h:=dX (P:=P) (w:=w) (mg:=mg) (base:=base) (k:=1) (m:=yH) T.Fe Wy;exact h fun _ _ _ _ _ _ _ hr _ _=>
 bD (cF (b2 (ct (m6 (z6 T) (hr.mono (by decide)) (af (ah 0) (af (fp (ah 1) (aF)) (aB))))) (ah 1) a3))
theorem RJ:dm P w K mg base "_law_bad_plan" 2 1 wi:=by
 have h:=dX (P:=P) (w:=w) (mg:=mg) (base:=base) (k:=0) (m:=yD) T.E8 IS;exact h fun _ _ _ _ _ _ _ hr _ _=>
 bC (dB 2 IS.bj (ct (df (af (ct (df (af (dn (af (dt) (af (ah 0) (aB)))) (aB)))) (af (ct (df (af (dn (af (dt) (af (aF) (aB)))) (af (dn (af (dt) (af (aF) (aB)))) (aB))))) (af (xA (ct (df (af (dn (af (dt) (aB))) (aB)))) (aF)) (af (dn (af (dn (af (dt) (aB))) (aB))) (af (ew) (af (ct (df (af (ct (df (af (dt) (aB)))) (aB)))) (af (ct (df (af (dt) (aB)))) (aB)))))))))))
  (bD (cF (b2 (fp (ah 2) (ct (df (af (ct (df (af (dn (af (dt) (af (Cr (aF)) (aB)))) (aB)))) (af (ct (df (af (dn (af (dt) (af (aF) (aB)))) (aB)))) (af (ct (df (af (dn (af (dt) (af (aF) (af (aF) (aB))))) (aB)))) (aB))))))) (eQ (ah 1) (aF)) a3)))
theorem RI:dm P w K mg base "_law_bad_books" 2 1 tk:=by
 have h:=dX (P:=P) (w:=w) (mg:=mg) (base:=base) (k:=0) (m:=yC) T.E7 rt;exact h fun _ _ _ _ _ _ _ hr _ _=>
 bC (dB 2 rt.bj (ct (df (af (dn (af (dt) (af (aF) (af (ew) (aB))))) (af (dn (af (dt) (af (ew) (af (aF) (aB))))) (af (dn (af (dt) (af (ew) (af (aF) (aB))))) (af (dn (af (dt) (af (ew) (af (aF) (aB))))) (af (dn (af (dt) (af (Cr (aF)) (af (aF) (aB))))) (af (dn (af (dt) (af (ew) (aB)))) (aB))))))))))
  (bC (dB 2 rt.bj (fp (ah 2) (ct (df (af (ct (df (af (dt) (af (ew) (af (aF) (aB)))))) (af (dn (af (dt) (af (fC) (af (aF) (aB))))) (af (dn (af (dt) (af (ew) (af (dt) (aB))))) (af (dn (af (ew) (af (ew) (af (ew) (aB))))) (af (ew) (af (dt) (aB)))))))))))
  (bC (dB 3 rt.bj (eQ (ah 1) (gx T.fK (af (ah 0) (aB)))))
  (bC (dB 4 rt.bj (eQ (iS (ah 1) (aF)) (aF)))
  (bC (qa 5 rt.bj (p9 T.i1 (af (ah 0) (aB))))
  (bC (dH (CA (ah 4) (aF)) (bC (Cw 5 (ah 3) (fp (m5 (b2 (ah 0) (ah 3) a3) (p_) (k4 (aF))) (ct (df (af (b2 (ah 2) (ah 4) a3) (aB))))))
  (bD (Cx 5))) (dP))
  (bC (dH (k7 hr.units (ah 4) (aF)) (bD (cF (m5 (ah 0) (p_) (k4 (Cr (aF)))))) (dP))
  (bC (dH (k7 hr.units (ah 4) (aF)) (bD (cF (fp (ah 0) (ct (df (af (ct (df (aB))) (aB))))))) (dP))
  (bC (dH (k7 hr.units (ah 4) (aF)) (bD (cF (fp (fp (m5 (ah 0) (p_) (k4 (ah 3))) (ct (df (af (xA (ct (df (af (dn (af (dt) (af (ew) (af (aF) (aB))))) (aB)))) (aF)) (aB))))) (m5 (ah 0) (k4 (fp (ah 3) (aF))) (p_))))) (dP))
  (bD (cF (b2 (ct (df (af (Ct T.o3 (af (ah 0) (aB))) (af (ew) (af (Kt) (af (dt) (aB))))))) (eQ (iS (ah 1) (aF)) (aF)) a3)))))))))))
theorem LL(f:Addr)(b1:Value)(A:Around)(outer:List Env)(s:Shared)(H:ag)(E:cO)(hr:c4 12 (A.deeper (PyProof.Rows.envOfC "law" (bM oe) s.heap.objs.size f b1)))(bO bg:ag):hY (eA gK P w K mg base ["_law_script","_law_counts","_law_wires","_law_net_here","_law_old","_law_new","_law_plan","_law_cell","_law_number","_law_some","_law_due"] "law" (bM oe) f b1 A outer s H E).fo (eB K bO bg) (fx oe) yB:=
 bC (Zi (de (RN T) (hr.mono (by decide)) (af (de (GX T) (hr.mono (by decide)) (af (ah 0) (af (aF) (aB)))) (aB))) (Ho rfl (wx (ij 1 jJ.bj) (wx (ij 2 jJ.bj) (Hn)))))
  (bC (dB 3 jJ.bj (Kw (GO T) (hr.mono (by decide)) (af (ct (p9 T.i1 (af (ah 1) (aB)))) (af (ct (p9 T.i1 (af (ah 2) (aB)))) (aB)))))
  (bC (dB 4 jJ.bj (ct (m6 (GW T) (hr.mono (by decide)) (af (ah 0) (af (aF) (af (ah 1) (aB)))))))
  (bC (dB 5 jJ.bj (ct (m6 (GW T) (hr.mono (by decide)) (af (ah 0) (af (aF) (af (ah 1) (aB)))))))
  (bC (dB 6 jJ.bj (ct (m6 (RQ T) (hr.mono (by decide)) (af (ah 3) (aB)))))
  (bC (dH (fD (fq (de (z7 T) (hr.mono (by decide)) (af (ah 3) (af (ah 4) (af (ah 5) (af (ah 6) (af (ct (df (aB))) (aB))))))))) (bD (cF (fC))) (dP))
  (bC (jP PassesOwn.never (jR (fp (ct (df (af (aF) (af (aF) (af (aF) (aB)))))) (m5 (ah 0) (k4 (aF)) (k4 (aF))))) (ij 7 jJ.bj) (bC (dB 8 jJ.bj (de (RM T) (hr.mono (by decide)) (af (ah 7) (af (aF) (aB)))))
  (bC (qa 9 jJ.bj (df (af (ah 4) (af (ah 5) (af (ah 6) (aB))))))
  (bC (dB 10 jJ.bj (ct (df (aB))))
  (bC (dH (k7 hr.units (eQ (ah 8) (aF)) (aF)) (bC (Cw 9 (aF) (de (RJ T) (hr.mono (by decide)) (af (gx T.fK (af (ah 1) (aB))) (af (iS (ah 8) (aF)) (aB)))))
  (bD (dB 10 jJ.bj (fp (ct (df (af (fC) (af (fC) (af (fC) (aB)))))) (xA (ct (df (af (fC) (aB)))) (aF)))))) (dP))
  (bC (dH (CA (eQ (iS (ah 8) (aF)) (aF)) (aF)) (bC (Cw 9 (eQ (iS (ah 8) (aF)) (aF)) (de (RI T) (hr.mono (by decide)) (af (YW 9 (eQ (iS (ah 8) (aF)) (aF)) a3) (af (iS (ah 8) (aF)) (aB)))))
  (bD (dB 10 jJ.bj (fp (ct (df (af (fC) (af (fC) (aB))))) (xA (ct (df (af (fC) (aB)))) (aF)))))) (dP))
  (bD (dH (Cy (fD (fq (de (z7 T) (hr.mono (by decide)) (af (ah 3) (af (b2 (ah 9) (aF) a3) (af (b2 (ah 9) (aF) a3) (af (b2 (ah 9) (aF) a3) (af (ah 10) (aB)))))))))) (bD (cF (fC))) (dP)))))))))
  (bD (cF (de (z7 T) (hr.mono (by decide)) (af (ah 3) (af (ah 4) (af (ah 5) (af (ah 6) (af (ct (df (aB))) (aB)))))))))))))))
end
end bP
namespace bP
open PySem PySem.Spec aQ ax
theorem fh{α β:Type}(a:α)(k:α→R β):(R.ok a).bind k=k a:=rfl
theorem BI{a b:a0}{ρ bh:aj}(h:a ρ=.ok (.bk bh)):bf a b ρ=b bh:=by simp only[bf,h,fh]
theorem LY{f:List D→R bZ}{a:az}{ρ:aj}{x y:D}(ha:a ρ=.ok x)(h:f [x]=.ok (.v y)):b8 1 f (ae a av) ρ=.ok y:=by simp only[b8,ae,av,ha,fh,List.length_cons,List.length_nil,if_true,h,ji]
theorem call2{f:List D→R bZ}{a b:az}{ρ:aj}{x z y:D}(ha:a ρ=.ok x)(hb:b ρ=.ok z)(h:f [x,z]=.ok (.v y)):b8 2 f (ae a (ae b av)) ρ=.ok y:=by simp only[b8,ae,av,ha,hb,fh,List.length_cons,List.length_nil,if_true,h,ji]
theorem LZ{f:List D→R bZ}{a b c:az}{ρ:aj}{x z w y:D}(ha:a ρ=.ok x)(hb:b ρ=.ok z)(hc:c ρ=.ok w)(h:f [x,z,w]=.ok (.v y)):b8 3 f (ae a (ae b (ae c av))) ρ=.ok y:=by simp only[b8,ae,av,ha,hb,hc,fh,List.length_cons,List.length_nil,if_true,h,ji]
theorem u2{f:D→D→R D}{a b:az}{ρ:aj}{x y z:D}(ha:a ρ=.ok x)(hb:b ρ=.ok y)(h:f x y=.ok z):ao f a b ρ=.ok z:=by simp only[ao,ha,hb,fh,h]
theorem q5{a:az}{ρ:aj}{c:Bool}(ha:a ρ=.ok (.au c)):bc a ρ=.ok c:=by simp only[bc,ha,fh,iZ]
theorem Af{a:bY}{ρ:aj}{c:Bool}(ha:a ρ=.ok c):dT a ρ=.ok (!c):=by simp only[dT,ha,fh]
theorem HM{a b:bY}{ρ:aj}{c d:Bool}(ha:a ρ=.ok c)(hb:c=false→b ρ=.ok d):fk a b ρ=.ok (c||d):=by
 cases c
 ·simp only[fk,ha,fh,hb rfl,Bool.false_eq_true,if_false,Bool.false_or]
 ·simp only[fk,ha,fh,if_true,Bool.true_or]
theorem Ma{f g:D→D→R D}{a b c:az}{ρ:aj}{x y w:D}{k l:Bool}(ha:a ρ=.ok x)(hb:b ρ=.ok y)(hc:c ρ=.ok w)(hf:f x y=.ok (.au k))(hg:g y w=.ok (.au l)):iM f g a b c ρ=.ok (.au (k&&l)):=by
 cases k
 ·simp only[iM,ha,hb,hf,fh,iZ,Bool.false_eq_true,if_false,Bool.false_and]
 ·simp only[iM,ha,hb,hc,hf,hg,fh,iZ,if_true,Bool.true_and]
theorem BH{c:bY}{a b:a0}{ρ:aj}(hc:c ρ=.ok false):bf (cL c a cU) b ρ=b ρ:=by simp only[bf,cL,hc,fh,cU];rfl
theorem Vu{e:az}{ρ:aj}{d:D}(he:e ρ=.ok d):b6 e ρ=.ok (.dG d):=by simp only[b6,he,fh]
theorem Ob{mi:aO}{set:D→aj→R aj}{body:a0}{ds:List D}{ρ:aj}(hi:mi ρ=.ok ds):eE mi set body ρ=fT set body ds ρ:=by rw[eE,hi];rfl
theorem Oc{mi:aO}{set:D→aj→R aj}{body:a0}{ds:List D}{ρ bh:aj}(hi:mi ρ=.ok ds)(h:fT set body ds ρ=.ok (.bk bh)):eE mi set body ρ=.ok (.bk bh):=by rw[Ob hi];exact h
theorem G6{a:az}{ρ:aj}{xs:List D}(ha:a ρ=.ok (.lst xs)):cN dJ (ae a av) ρ=.ok (.int (xs.length:Nat)):=by simp only[cN,ae,av,ha,fh,dJ]
def b_(cs:List Nat):List D:=cs.map fun(c:Nat)=>D.int (c:Int)
abbrev aA:=Nat×Nat
def bB(d:aA):D:=.tup [.int (d.1:Nat),.int (d.2:Nat)]
def dW(w:aA×aA):D:=.tup [bB w.1,bB w.2]
def ends(ws:List (aA×aA)):List aA:=(ws.map fun w=>[w.1,w.2]).flatten
structure Lay(all left:List aA)(ws:List (aA×aA)):Prop where
 bj:(left++ends ws).Nodup
 sub:∀d∈left++ends ws,d∈all
theorem zd{α:Type}:∀(l:List α)(i:Nat)(h:i<l.length),List.Perm (l[i]::l.eraseIdx i) l
 |x::l,0,_=>List.Perm.refl _
 |x::l,i+1,h=>by have bW:=zd l i (by simpa using h);simp only[List.getElem_cons_succ,List.eraseIdx_cons_succ];exact(List.Perm.swap x _ _).trans (bW.cons x)
theorem Lay.take{all left:List aA}{ws:List (aA×aA)}(h:Lay all left ws){i j:Nat}(hi:i<left.length)(cv:j<(left.eraseIdx i).length) :
  Lay all ((left.eraseIdx i).eraseIdx j) (ws++[(left[i],(left.eraseIdx i)[j])]):=by
 have fb:List.Perm left (left[i]::left.eraseIdx i):=(zd left i hi).symm;have bR:List.Perm (left.eraseIdx i) ((left.eraseIdx i)[j]::(left.eraseIdx i).eraseIdx j):=(zd (left.eraseIdx i) j cv).symm;have mQ:ends (ws++[(left[i],(left.eraseIdx i)[j])])=ends ws++[left[i],(left.eraseIdx i)[j]]:=by simp[ends]
 have pp:List.Perm (left++ends ws) ((left.eraseIdx i).eraseIdx j++ends (ws++[(left[i],(left.eraseIdx i)[j])])):=by rw[mQ];refine(List.Perm.append_right _ (fb.trans (List.Perm.cons _ bR))).trans ?_;refine(List.perm_append_comm (l₁:=[left[i],(left.eraseIdx i)[j]]) (l₂:=(left.eraseIdx i).eraseIdx j++ends ws)).trans ?_;rw[List.append_assoc]
 exact⟨pp.nodup_iff.mp h.bj,fun d hd=>h.sub d (pp.mem_iff.mpr hd)⟩
def gQ(cs:List Nat)(h:Nat):List aA:=(List.range (cs.getD h 0)).map fun k=>(h,k)
def dg(cs:List Nat)(n:Nat):List aA:=(List.range n).flatMap (gQ cs)
theorem uL(cs:List Nat)(n:Nat):dg cs (n+1)=dg cs n++gQ cs n:=by unfold dg;rw[List.range_succ,List.flatMap_append];simp
theorem Ai{cs:List Nat}{h:Nat}{d:aA}:d∈gQ cs h↔d.1=h∧d.2<cs.getD h 0:=by
 unfold gQ;rw[List.mem_map];constructor
 ·rintro⟨k,hk,rfl⟩;exact⟨rfl,List.mem_range.mp hk⟩
 ·rintro⟨rfl,h2⟩;exact⟨d.2,List.mem_range.mpr h2,rfl⟩
theorem pQ{cs:List Nat}{n:Nat}{d:aA}:d∈dg cs n↔d.1<n∧d.2<cs.getD d.1 0:=by
 unfold dg;rw[List.mem_flatMap];constructor
 ·rintro⟨h,hh,hd⟩;obtain⟨rfl,h2⟩:=Ai.mp hd;exact⟨List.mem_range.mp hh,h2⟩
 ·rintro⟨h1,h2⟩;exact⟨d.1,List.mem_range.mpr h1,Ai.mpr ⟨rfl,h2⟩⟩
theorem MD(cs:List Nat)(h:Nat):(gQ cs h).Nodup:=by unfold gQ;rw[List.nodup_iff_pairwise_ne,List.pairwise_map];exact List.nodup_range.imp fun sC z=>sC (Prod.mk.inj z).2
theorem De(cs:List Nat):∀n,(dg cs n).Nodup
 |0=>List.nodup_nil
 |n+1=>by rw[uL];refine List.nodup_append.mpr ⟨De cs n,MD cs n,fun a ha b hb z=>?_⟩;subst z;have h1:=(pQ.mp ha).1;have h2:=(Ai.mp hb).1;omega
theorem zt{cs:List Nat}(h:∀c∈cs,c≤4)(k:Nat):cs.getD k 0≤4:=by
 rw[List.getD_eq_getElem?_getD];cases e:cs[k]? with
 |none=>simp
 |some c=>simpa using h c (List.mem_of_getElem? e)
theorem Ei{cs:List Nat}(h:∀c∈cs,1≤c∧c≤4)(k:Nat):(gQ cs k).length≤4:=by unfold gQ;rw[List.length_map,List.length_range];exact zt (fun c hc=>(h c hc).2) k
theorem r5{cs:List Nat}(h:∀c∈cs,1≤c∧c≤4):∀n,(dg cs n).length≤4*n
 |0=>by simp[dg]
 |n+1=>by rw[uL,List.length_append];have:=r5 h n;have:=Ei h n;omega
theorem vb{cs:List Nat}{h:Nat}(hh:h<cs.length):(b_ cs)[h]?=some (.int (cs.getD h 0:Nat)):=by simp[b_,List.getElem?_eq_getElem hh,List.getD_eq_getElem?_getD]
structure hV(cs:List Nat)(ws:List (aA×aA)):Prop where
 h1:1≤cs.length
 h6:cs.length≤6
 c:∀c∈cs,1≤c∧c≤4
 bj:(ends ws).Nodup
 sub:∀d∈ends ws,d∈dg cs cs.length
 out:∃d,d∈dg cs cs.length∧d∉ends ws
 few:ws.length<100
theorem head_mem{cs:List Nat}(h1:1≤cs.length)(c:∀c∈cs,1≤c∧c≤4):((0,0):aA)∈dg cs cs.length:=by
 refine pQ.mpr ⟨h1,?_⟩;cases cs with
 |nil=>simp at h1
 |cons x r=>exact(c x (List.mem_cons_self ..)).1
def g5(d:aA):List Key:=[.inl (d.1:Nat),.inl (d.2:Nat)]
theorem z2{a b:aA}(h:g5 a=g5 b):a=b:=by
 obtain⟨a1,a2⟩:=a;obtain⟨ei,dj⟩:=b;simp only[g5,List.cons.injEq,Sum.inl.injEq,and_true]at h;have h1:a1=ei:=by omega
 have h2:a2=dj:=by omega
 rw[h1,h2]
theorem q0(d:aA):nQ (bB d)=some (g5 d):=rfl
def dE(ws:List (aA×aA)):List (List Key):=(ends ws).map g5
def dV(ws:List (aA×aA)):List D:=(ws.map fun w=>[bB w.2,bB w.1]).flatten
theorem ks_any(ws:List (aA×aA))(d:aA):(dE ws).any (fun x=>decide (x=g5 d))=decide (d∈ends ws):=by
 unfold dE;rw[List.any_map];by_cases h:d∈ends ws
 ·rw[decide_eq_true h,List.any_eq_true];exact⟨d,h,by simp⟩
 ·rw[decide_eq_false h,List.any_eq_false];intro x hx;simp only[Function.comp,decide_eq_true_eq];exact fun z=>h (z2 z▸hx)
theorem NJ(ws:List (aA×aA)):(ends ws).length=2*ws.length:=by
 induction ws with
 |nil=>rfl
 |cons w r bW=>simp only[ends,List.map_cons,List.flatten_cons,List.length_append,List.length_cons,List.length_nil]at bW ⊢;omega
theorem Ec{i:Nat}{mk mv:az}{ρ:aj}{aD:List (List Key)}{ds:List D}{k v:D}{cb:List Key}(hs:ρ[i]?=some (.aV (.bI aD ds)))(hk:mk ρ=.ok k)(hv:mv ρ=.ok v)(er:nQ k=some cb)(aE:aD.any (fun x=>decide (x=cb))=false)(hl:aD.length<1000000) :
  mF i mk mv ρ=.ok (.bk (ρ.set i (.aV (.bI (aD++[cb]) (ds++[v]))))):=by
 simp only[mF,hv,hs,hk,fh,er,putD,if_pos (And.intro aE hl)]
theorem Lx{aD:List (List Key)}{a b:List Key}(h:aD.any (fun x=>decide (x=b))=false)(ne:a≠b):(aD++[a]).any (fun x=>decide (x=b))=false:=by rw[List.any_append,h];simp[ne]
theorem RS(ws:List (aA×aA))(w:aA×aA):dE (ws++[w])=dE ws++[g5 w.1]++[g5 w.2]:=by simp[dE,ends]
theorem Ys(ws:List (aA×aA))(w:aA×aA):dV (ws++[w])=dV ws++[bB w.2]++[bB w.1]:=by simp[dV]
theorem S0{P:List (aA×aA)}{w:aA×aA}{r:List (aA×aA)}(bj:(ends (P++w::r)).Nodup):w.1∉ends P∧w.2∉ends P∧w.1≠w.2:=by
 have e:ends (P++w::r)=ends P++(w.1::w.2::ends r):=by simp[ends]
 rw[e]at bj;obtain⟨_,c0,mO⟩:=List.nodup_append.mp bj;refine⟨fun z=>mO _ z w.1 (by simp) rfl,fun z=>mO _ z w.2 (by simp) rfl,fun z=>?_⟩;rw[List.nodup_cons]at c0;exact c0.1 (by rw[z];simp)
theorem rE(i lo hi:Int):lL [.int i,.int lo,.int hi]=.ok (.v (.au (decide (lo≤i)&&decide (i≤hi)))):=by have w:Ag [.int i]=.ok (.v (.au true)):=rfl;simp[lL,yz,w];by_cases h:lo≤i<;>simp[h]
theorem D9{cs:List Nat}{d:aA}(h:d∈dg cs cs.length):th [.tup (b_ cs),bB d]=.ok (.v (.au true)):=by
 obtain⟨h1,h2⟩:=pQ.mp h;have p:ti [bB d]=.ok (.v (.au true)):=rfl;have cP:aG (bB d) (.int 0)=.ok (.int d.1):=rfl;have ak:aG (bB d) (.int 1)=.ok (.int d.2):=rfl;have ay:aG (.tup (b_ cs)) (.int (d.1:Nat))=.ok (.int (cs.getD d.1 0:Nat)):=zY (vb h1);have l:(b_ cs).length=cs.length:=by simp[b_]
 simp only[List.getD_eq_getElem?_getD]at h2 ay;simp[th,yw,p,cP,ak,ay,l,rE,show¬((cs.length:Int)-1<(d.1:Nat))by omega];omega
theorem MC{a b:aA}(h:a≠b):cW false (bB a) (bB b)=.ok (.au true):=by
 show R.ok (D.au (!(((a.1:Nat):Int)==((b.1:Nat):Int)&&(((a.2:Nat):Int)==((b.2:Nat):Int)&&true))))=_;by_cases h1:a.1=b.1
 ·by_cases h2:a.2=b.2
  ·exact absurd (Prod.ext h1 h2) h
  ·rw[beq_eq_false_iff_ne.mpr (show((a.2:Nat):Int)≠((b.2:Nat):Int)by omega)];simp
 ·rw[beq_eq_false_iff_ne.mpr (show((a.1:Nat):Int)≠((b.1:Nat):Int)by omega)];simp
theorem YL{cs:List Nat}{w:aA×aA}(h1:w.1∈dg cs cs.length)(h2:w.2∈dg cs cs.length)(ne:w.1≠w.2):ri [.tup (b_ cs),dW w]=.ok (.v (.au true)):=by have p:ti [dW w]=.ok (.v (.au true)):=rfl;have cP:aG (dW w) (.int 0)=.ok (bB w.1):=rfl;have ak:aG (dW w) (.int 1)=.ok (bB w.2):=rfl;simp[ri,yA,p,cP,ak,D9 h1,D9 h2,MC ne]
noncomputable def fBody:a0:=(bf (cL (dT (bc (b8 2 ri (ae (J 0) (ae (J 3) (av)))))) (nU) (cU))
    (bf (cL (j8 (fk (bc (ao (e9 true) (ao aG (J 3) (ai (.int 0))) (J 2))) (bc (ao (e9 true) (ao aG (J 3) (ai (.int 1))) (J 2))))) (nU) (cU))
    (bf (mF 2 (ao aG (J 3) (ai (.int 0))) (ao aG (J 3) (ai (.int 1))))
    (mF 2 (ao aG (J 3) (ai (.int 1))) (ao aG (J 3) (ai (.int 0)))))))
theorem Fj(cs:List Nat)(W:D):∀(r P:List (aA×aA)),(ends (P++r)).Nodup→(∀d∈ends r,d∈dg cs cs.length)→(P++r).length<1000→∀s3:dc,∃t3,fT (bN 3) fBody (r.map dW) [.aw (.tup (b_ cs)),.aw W,.aV (.bI (dE P) (dV P)),s3]=.ok (.bk [.aw (.tup (b_ cs)),.aw W,.aV (.bI (dE (P++r)) (dV (P++r))),t3])
 |[],P,_,_,_,s3=>⟨s3,by rw[List.append_nil];rfl⟩
 |w::r,P,bj,sub,hl,s3=>by
  obtain⟨c8,c0,mO⟩:=S0 bj;have lk:(dE P).length<10000:=by unfold dE;rw[List.length_map,NJ];rw[List.length_append]at hl;omega
  have cP:bN 3 (dW w) [.aw (.tup (b_ cs)),.aw W,.aV (.bI (dE P) (dV P)),s3]=.ok [.aw (.tup (b_ cs)),.aw W,.aV (.bI (dE P) (dV P)),.aw (dW w)]:=rfl;have bu:dT (bc (b8 2 ri (ae (J 0) (ae (J 3) (av))))) [.aw (.tup (b_ cs)),.aw W,.aV (.bI (dE P) (dV P)),.aw (dW w)]=.ok false:=Af (c:=true) (q5 (call2 rfl rfl (YL (sub _ (by simp[ends])) (sub _ (by simp[ends])) mO)));have k1:e9 true (bB w.1) (.bI (dE P) (dV P))=.ok (.au false):=by simp only[e9,q0,ks_any,decide_eq_false c8,if_true]
  have k2:e9 true (bB w.2) (.bI (dE P) (dV P))=.ok (.au false):=by simp only[e9,q0,ks_any,decide_eq_false c0,if_true]
  have c5:j8 (fk (bc (ao (e9 true) (ao aG (J 3) (ai (.int 0))) (J 2))) (bc (ao (e9 true) (ao aG (J 3) (ai (.int 1))) (J 2)))) [.aw (.tup (b_ cs)),.aw W,.aV (.bI (dE P) (dV P)),.aw (dW w)]=.ok (false||false):=by unfold j8;exact HM (q5 (u2 (x:=bB w.1) (y:=.bI (dE P) (dV P)) rfl rfl k1)) fun _=>q5 (u2 (x:=bB w.2) (y:=.bI (dE P) (dV P)) rfl rfl k2)
  have a1:=Ec (i:=2) (mk:=ao aG (J 3) (ai (.int 0))) (mv:=ao aG (J 3) (ai (.int 1))) (ρ:=[.aw (.tup (b_ cs)),.aw W,.aV (.bI (dE P) (dV P)),.aw (dW w)]) rfl rfl rfl (q0 w.1) (by rw[ks_any];exact decide_eq_false c8) (by omega);have a2:=Ec (i:=2) (mk:=ao aG (J 3) (ai (.int 1))) (mv:=ao aG (J 3) (ai (.int 0))) (ρ:=[.aw (.tup (b_ cs)),.aw W,.aV (.bI (dE P++[g5 w.1]) (dV P++[bB w.2])),.aw (dW w)]) rfl rfl rfl (q0 w.2) (Lx (by rw[ks_any];exact decide_eq_false c0) (fun z=>mO (z2 z))) (by rw[List.length_append,List.length_singleton];omega);have ak:fBody [.aw (.tup (b_ cs)),.aw W,.aV (.bI (dE P) (dV P)),.aw (dW w)]=.ok (.bk [.aw (.tup (b_ cs)),.aw W,.aV (.bI (dE (P++[w])) (dV (P++[w]))),.aw (dW w)]):=by unfold fBody;rw[BH bu,BH c5,BI a1,RS,Ys];exact a2
  rw[List.map_cons,fT,cP,fh,ak,fh];have q:P++w::r=(P++[w])++r:=by simp
  rw[q]at bj hl ⊢;exact Fj cs W r (P++[w]) bj (fun d hd=>sub d (by simp only[ends,List.map_cons,List.flatten_cons,List.mem_append]at hd ⊢;exact .inr hd)) hl _
theorem N2(cs:List Nat)(ws:List (aA×aA))(h:hV cs ws):rg [.tup (b_ cs),.tup (ws.map dW)]=.ok (.v (.bI (dE ws) (dV ws))):=by show(uS [.aw (.tup (b_ cs)),.aw (.tup (ws.map dW)),.un,.un]).bind outD=_;have s1:s9 2 [.aw (.tup (b_ cs)),.aw (.tup (ws.map dW)),.un,.un]=.ok (.bk [.aw (.tup (b_ cs)),.aw (.tup (ws.map dW)),.aV (.bI (dE []) (dV [])),.un]):=rfl;obtain⟨t3,e⟩:=Fj cs (.tup (ws.map dW)) ws [] (by simpa using h.bj) h.sub (by have:=h.few;simp;omega) .un;have f:=Oc (mi:=pE (J 1)) (ρ:=[.aw (.tup (b_ cs)),.aw (.tup (ws.map dW)),.aV (.bI (dE []) (dV [])),.un]) rfl e;unfold fBody at f;unfold uS;rw[BI s1,BI f];rfl
def pa:az:=(b8 3 lL (ae (J 0) (ae (ai (.int 1)) (ae (ai qB) (av)))))
theorem D0:∀(cs:List Nat),(∀c∈cs,1≤c∧c≤4)→∀(ws:List D)(s0:dc),ws.length+cs.length<1000→fL (bN 0) eN pa (b_ cs) [s0] ws=.ok (ws++cs.map fun _=>D.au true)
 |[],_,ws,s0,_=>by simp[fL,b_]
 |c::cs,h,ws,s0,hl=>by
  simp only[List.length_cons]at hl;obtain⟨bu,i4⟩:=h c (List.mem_cons_self ..);have cP:bN 0 (.int (c:Nat)) [s0]=.ok [.aw (.int (c:Nat))]:=rfl;have ak:pa [.aw (.int (c:Nat))]=.ok (.au true):=by have z:=rE (c:Nat) 1 4;rw[decide_eq_true (by omega),decide_eq_true (by omega)]at z;exact LZ rfl rfl rfl z
  show fL (bN 0) eN pa (.int (c:Nat)::b_ cs) [s0] ws=_;rw[fL,cP,fh];simp only[eN,fh,ak,if_true,if_pos (show ws.length<1000000 by omega)];rw[D0 cs (fun c h'=>h c (List.mem_cons_of_mem _ h')) _ _ (by rw[List.length_append,List.length_singleton];omega),List.append_assoc];rfl
theorem DO:∀cs:List Nat,mm (cs.map fun _=>D.au true)=some (cs.map fun _=>true)
 |[]=>rfl
 |c::cs=>by simp only[List.map_cons,mm,DO cs,Option.map_some]
theorem Mf(cs:List Nat)(h1:1≤cs.length)(h6:cs.length≤6)(h:∀c∈cs,1≤c∧c≤4):te [.lst (b_ cs)]=.ok (.v (.au true)):=by
 show(uP [.aw (.lst (b_ cs))]).bind outD=_;have q4:cN dJ (ae (J 0) av) [.aw (.lst (b_ cs))]=.ok (.int (cs.length:Nat)):=by rw[G6 (xs:=b_ cs) rfl];simp[b_]
 have bu:fk (dT (bc (cq (e5 "list") (J 0)))) (dT (bc (iM kN kN (ai (.int 1)) (cN dJ (ae (J 0) (av))) (ai o5)))) [.aw (.lst (b_ cs))]=.ok (false||false):=by refine HM rfl fun _=>?_;have z:=Ma (f:=kN) (g:=kN) (a:=ai (.int 1)) (c:=ai o5) (ρ:=[.aw (.lst (b_ cs))]) rfl q4 rfl (k:=true) (l:=true) (by show R.ok (D.au (decide ((1:Int)≤(cs.length:Nat))))=_;rw[decide_eq_true (by omega)]) (by show R.ok (D.au (decide (((cs.length:Nat):Int)≤6)))=_;rw[decide_eq_true (by omega)]);exact Af (c:=true) (q5 z)
 have kD:dZ 1 [] (fX (J 0)) (bN 0) (eN) pa [.aw (.lst (b_ cs))]=.ok (cs.map fun _=>D.au true):=by show eU (fL (bN 0) eN pa (b_ cs) [.un] [])=_;rw[D0 cs h _ _ (by simp;omega)];rfl
 have e:cN ax.dg (ae (b5 (dZ 1 [] (fX (J 0)) (bN 0) (eN) pa)) (av)) [.aw (.lst (b_ cs))]=.ok (.au true):=by
  simp only[cN,ae,av,b5,kD,fh,ax.dg,DO]
  congr 2
  rw[List.all_map];simp
 unfold pa at e;unfold uP;rw[BH bu,Vu e];rfl
theorem kk{a b:gO}{ρ dQ:aj}(h:a ρ=.ok dQ):g7 a b ρ=b dQ:=by simp only[g7,h,fh]
theorem Kf:∀ws:List (aA×aA),kc (dV ws)=true
 |[]=>rfl
 |w::ws=>by show kc (bB w.2::bB w.1::dV ws)=true;simp only[kc,Kf ws];rfl
theorem Gx(cs:List Nat)(ws:List (aA×aA))(h:hV cs ws):wb [.lst (b_ cs),.lst (ws.map dW)]=.ok (["many","counts","joined","far"],[.int (cs.length:Nat),.tup (b_ cs),.tup (ws.map dW),.bI (dE ws) (dV ws)]):=by
 let r (ns:List Str) (ds:List D):aj:=[.aV (.ins "Net" ns ds),.aw (.lst (b_ cs)),.aw (.lst (ws.map dW))]
 have g1:nX (dT (bc (b8 1 te (ae (J 1) (av))))) (r [] [])=.ok (r [] []):=by have z:dT (bc (b8 1 te (ae (J 1) (av)))) (r [] [])=.ok false:=Af (c:=true) (q5 (LY rfl (Mf cs h.h1 h.h6 h.c)));simp only[nX,z,fh,Bool.false_eq_true,if_false]
 have g2:nX (dT (bc (cq (e5 "list") (J 2)))) (r [] [])=.ok (r [] []):=rfl;have f1:fW "Net" "many" (cN dJ (ae (J 1) (av))) (r [] [])=.ok (r ["many"] [.int (cs.length:Nat)]):=by
  have q4:cN dJ (ae (J 1) av) (r [] [])=.ok (.int (cs.length:Nat)):=by rw[G6 (xs:=b_ cs) rfl];simp[b_]
  rw[fW,q4];rfl
 have f2:fW "Net" "counts" (cN lW (ae (J 1) (av))) (r ["many"] [.int (cs.length:Nat)])=.ok (r ["many","counts"] [.int (cs.length:Nat),.tup (b_ cs)]):=rfl;have e_:fW "Net" "joined" (cN lW (ae (J 2) (av))) (r ["many","counts"] [.int (cs.length:Nat),.tup (b_ cs)])=.ok (r ["many","counts","joined"] [.int (cs.length:Nat),.tup (b_ cs),.tup (ws.map dW)]):=rfl;have f4:fW "Net" "far" (nW (b8 2 rg (ae (cq (d_ "Net" "counts") (J 0)) (ae (cq (d_ "Net" "joined") (J 0)) (av))))) (r ["many","counts","joined"] [.int (cs.length:Nat),.tup (b_ cs),.tup (ws.map dW)])=.ok (r ["many","counts","joined","far"] [.int (cs.length:Nat),.tup (b_ cs),.tup (ws.map dW),.bI (dE ws) (dV ws)]):=by
  have z:nW (b8 2 rg (ae (cq (d_ "Net" "counts") (J 0)) (ae (cq (d_ "Net" "joined") (J 0)) (av)))) (r ["many","counts","joined"] [.int (cs.length:Nat),.tup (b_ cs),.tup (ws.map dW)])=.ok (.bI (dE ws) (dV ws)):=by have y:b8 2 rg (ae (cq (d_ "Net" "counts") (J 0)) (ae (cq (d_ "Net" "joined") (J 0)) (av))) (ea (r ["many","counts","joined"] [.int (cs.length:Nat),.tup (b_ cs),.tup (ws.map dW)]))=.ok (.bI (dE ws) (dV ws)):=call2 (x:=.tup (b_ cs)) (z:=.tup (ws.map dW)) rfl rfl (N2 cs ws h);have n:jG (.bI (dE ws) (dV ws))=true∧Ar (r ["many","counts","joined"] [.int (cs.length:Nat),.tup (b_ cs),.tup (ws.map dW)])=true:=⟨by simp only[jG];exact Kf ws,rfl⟩;simp only[nW,y,fh,if_pos n]
  rw[fW,z];rfl
 show outI "Net" (uN (r [] []))=_;unfold uN;rw[kk g1,kk g2,kk f1,kk f2,kk e_,f4];rfl
theorem DS(ns:List Int)(k:Nat):∃c:Int,mJ [.cx (ns.map D.int),.int k]=.ok (.v (.int c)):=by
 by_cases h:k<ns.length
 ·refine⟨ns[k],?_⟩;have e:aG (.cx (ns.map D.int)) (.int (k:Int))=.ok (.int ns[k]):=QV (by simp[h]);simp(disch:=first|omega|(simp;done)|(simp;omega)) [mJ,uX,h,e]
 ·exact⟨0,by simp(disch:=first|omega|(simp;done)|(simp;omega)) [mJ,uX,h]⟩
theorem H2(P:Int→Prop){a b c d:Int}(ha:P a)(hb:P b)(hc:P c)(hd:P d)(x:Int):∃y,P y∧aG (.lst [.int a,.int b,.int c,.int d]) (.int (x%4))=.ok (.int y):=by
 have h:x%4=0∨x%4=1∨x%4=2∨x%4=3:=by omega
 rcases h with h|h|h|h<;>rw[h]
 ·exact⟨a,ha,rfl⟩
 ·exact⟨b,hb,rfl⟩
 ·exact⟨c,hc,rfl⟩
 ·exact⟨d,hd,rfl⟩
theorem yZ(c:Int)(n:Nat)(aE:n<1000):∃ys:List Int,ys.length=n∧mK [.int c,.int n]=.ok (.o (ys.map D.int)):=by
 let I:Nat→aj→Prop:=fun j ρ=>∃(ys:List Int)(r:Int)(s4 s5 e2:dc),ys.length=j∧ρ=[.aw (.int c),.aw (.int n),.c6 (ys.map D.int),.aw (.int r),s4,s5,e2]
 have L:=Fw (mi:=fY (ae (J 1) (av))) (set:=bN 4) (ρ:=[.aw (.int c),.aw (.int n),.c6 [],.aw (.int (c/2)),.un,.un,.un]) (ds:=fZ 0 n) I (body:=(cL (bc (ao (cW true) (ao dM (J 0) (ai (.int 2))) (ai (.int 1)))) (bf (c3 5 (ao aG (b5 (cT (ae (ai (.int 2147483647)) (ae (ai (.int 2147483629)) (ae (ai (.int 2147483587)) (ae (ai (.int 2147483579)) (av))))))) (ao dM (ao gi (J 4) (ai (.int 4))) (ai (.int 4)))))
  (bf (c3 6 (ao aG (b5 (cT (ae (ai (.int 48271)) (ae (ai (.int 69621)) (ae (ai (.int 16807)) (ae (ai (.int 39373)) (av))))))) (ao dM (J 4) (ai (.int 4)))))
  (jg 2 (ao gi (ao dM (ao kb (ao d3 (ao d3 (ao dM (J 3) (ao kf (ai (.int 10)) (ai (.int 30)))) (ao kb (ai (.int 7919)) (J 4))) (ai (.int 1))) (J 6)) (J 5)) (ai (.int 7)))))) (bf (jg 2 (ao dM (J 3) (ao kf (ai (.int 10)) (ai (.int 6)))))
  (c3 3 (ao gi (J 3) (ao kf (ai (.int 10)) (ai (.int 6)))))))) (by simp[show n<1000000 by omega]) (fun j d ρ hd iI=>?_) ⟨[],c/2,.un,.un,.un,rfl,rfl⟩
 ·obtain⟨bh,e,ys,r,s4,s5,e2,hl,rfl⟩:=L;refine⟨ys,by simpa using hl,?_⟩;simp(disch:=first|omega|(simp;done)|(simp;omega)) [mK,yG,e]
 ·obtain⟨cv,rfl⟩:=IC hd;obtain⟨ys,r,s4,s5,e2,hl,rfl⟩:=iI;obtain⟨p,hp,cH⟩:=H2 (fun y=>0<y) (a:=2147483647) (b:=2147483629) (c:=2147483587) (d:=2147483579) (by decide) (by decide) (by decide) (by decide) ((j:Int)/4);obtain⟨f,hf,ly⟩:=H2 (fun y=>0<y∧y<2^64) (a:=48271) (b:=69621) (c:=16807) (d:=39373) (by decide) (by decide) (by decide) (by decide) (j:Int);have aaa:f<18446744073709551616:=hf.2;have Z_:=hf.1;by_cases hc:c%2=1
  ·exact⟨_,_,by simp;rfl,by simp(disch:=first|omega|(simp;done)|(simp;omega)) [hc,cH,ly,UL];rfl,ys++[_],r,_,_,_,by simp[hl],by simp;exact⟨rfl,rfl,rfl,rfl⟩⟩
  ·exact⟨_,_,by simp;rfl,by simp(disch:=first|omega|(simp;done)|(simp;omega)) [hc,UM];rfl,ys++[_],_,_,_,_,by simp[hl],by simp;exact⟨rfl,rfl,rfl,rfl,rfl⟩⟩
theorem SE(c:Int)(k:Nat)(hk:k<900):∃y:Int,tm [.int c,.int k]=.ok (.v (.int y)):=by
 obtain⟨ys,hl,e⟩:=yZ c (k+1) (by omega);have h:k<ys.length:=by omega
 refine⟨ys[k],?_⟩;have b3:mK [.int c,.int ((k:Int)+1)]=.ok (.o (ys.map D.int)):=by rw[←e];rfl
 simp(disch:=first|omega|(simp;done)|(simp;omega)) [tm,yH,b3,zX h]
theorem XO(mM:Nat)(h1:1≤mM)(h6:mM≤6):∃t:Nat,1≤t∧t≤4∧aG (.lst [.int 4,.int 4,.int 4,.int 3,.int 2,.int 2]) (.int ((mM:Int)-1))=.ok (.int (t:Nat)):=by
 have:mM=1∨mM=2∨mM=3∨mM=4∨mM=5∨mM=6:=by omega
 rcases this with h|h|h|h|h|h<;>subst h
 ·exact⟨4,by decide,by decide,rfl⟩
 ·exact⟨4,by decide,by decide,rfl⟩
 ·exact⟨4,by decide,by decide,rfl⟩
 ·exact⟨3,by decide,by decide,rfl⟩
 ·exact⟨2,by decide,by decide,rfl⟩
 ·exact⟨2,by decide,by decide,rfl⟩
theorem SV(cell:Int):∃(cs:List Nat)(ws:List (aA×aA)),hV cs ws∧tn [.int cell]=.ok (.v (.tup [.lst (b_ cs),.lst (ws.map dW)])):=by
 suffices h:Ends (tn [.int cell]) fun b=>∃cs ws,hV cs ws∧b=.v (.tup [.lst (b_ cs),.lst (ws.map dW)])by
  obtain⟨b,e,cs,ws,h,rfl⟩:=h;exact⟨cs,ws,h,e⟩
 obtain⟨xs,hx,ex⟩:=yZ cell 40 (by decide);have Ex:mK [.int cell,.int 40]=.ok (.o (xs.map D.int)):=ex;have at':∀k:Nat,k<40→∃x,aG (.lst (xs.map D.int)) (.int (k:Int))=.ok (.int x):=fun k hk=>⟨_,zX (by omega)⟩;obtain⟨x0,cP⟩:=at' 0 (by decide);obtain⟨rF,sf⟩:=at' 7 (by decide);obtain⟨m,hm,em⟩:=jF x0 (n:=6) (by decide);have y0:aG (.lst (xs.map D.int)) (.int 0)=.ok (.int x0):=cP;have MK:aG (.lst (xs.map D.int)) (.int 7)=.ok (.int rF):=sf;have si:(1:Int)+x0%6=((m+1:Nat):Int):=by have:x0%6=(m:Int):=em;omega
 simp(disch:=first|omega|(simp;done)|(simp;omega)) [tn,yI,Ex,y0,si,-Int.natCast_add];obtain⟨t,t1,xb,lA⟩:=XO (m+1) (by omega) (by omega)
 let kE:Nat→Nat:=fun k=>(1+xs.getD (1+k) 0%(t:Int)).toNat
 have u_:∀k,1≤kE k∧kE k≤4∧1+xs.getD (1+k) 0%(t:Int)=(kE k:Int):=fun k=>by have a:=Int.emod_nonneg (xs.getD (1+k) 0) (b:=(t:Int)) (by omega);have b:=Int.emod_lt_of_pos (xs.getD (1+k) 0) (b:=(t:Int)) (by omega);show 1≤(1+xs.getD (1+k) 0%(t:Int)).toNat∧(1+xs.getD (1+k) 0%(t:Int)).toNat≤4∧_=((1+xs.getD (1+k) 0%(t:Int)).toNat:Int);omega
 have eg:∀k:Nat,k<10→aG (.lst (xs.map D.int)) (.int (1+(k:Int)))=.ok (.int (xs.getD (1+k) 0)):=fun k hk=>by
  have h:1+k<xs.length:=by omega
  have:=zX h;rw[List.getD_eq_getElem?_getD,List.getElem?_eq_getElem h];exact this
 refine pd (m+1) (fun k=>.int (kE k:Int)) (by simp[show m+1<1000000 by omega,-Int.natCast_add]) (by omega) (fun k hk=>?_) ?_
 ·simp only[List.getD_eq_getElem?_getD]at eg u_;simp[eg k (by omega),lA,show 0<t by omega,(u_ k).2.2,-Int.natCast_add]
 have NA:(List.range (m+1)).map (fun k=>D.int (kE k:Int))=b_ ((List.range (m+1)).map kE):=by simp[b_]
 rw[NA];generalize sH:(List.range (m+1)).map kE=cs;have bu:cs.length=m+1:=by rw[←sH];simp
 have kD:∀c∈cs,1≤c∧c≤4:=fun c hc=>by rw[←sH]at hc;obtain⟨k,_,rfl⟩:=List.mem_map.mp hc;exact⟨(u_ k).1,(u_ k).2.1⟩
 have lcs:(b_ cs).length=cs.length:=by simp[b_]
 refine sj cs.length (fun j ρ=>∃s5,ρ=[.aw (.int cell),.aw (.lst (xs.map D.int)),.aw (.int (m+1:Nat)),.aw (.lst (b_ cs)),.c6 ((dg cs j).map bB),s5,.un,.un,.un]) (by simp[lcs,show cs.length<1000000 by omega]) ⟨.un,by simp[dg]⟩ ?_ ?_
 ·rintro j _ cv ⟨s5,rfl⟩;have b4:aG (.lst (b_ cs)) (.int (j:Int))=.ok (.int (cs.getD j 0:Nat)):=mB (vb cv);have v7:=zt (fun c h=>(kD c h).2) j;simp;refine pd (cs.getD j 0) (fun k=>bB (j,k)) (by simp only[List.getD_eq_getElem?_getD]at b4 v7;simp[b4,show cs[j]?.getD 0<1000000 by omega]) (by omega) (fun k hk=>by simp[bB]) ?_;have q4:=r5 kD j;simp only[List.getD_eq_getElem?_getD]at v7 ⊢;simp[show(dg cs j).length+cs[j]?.getD 0≤1000000 by omega];rw[uL];simp[gQ]
  done
 ·rintro _ ⟨s5,rfl⟩;have uA:1≤(dg cs cs.length).length:=List.length_pos_of_mem (head_mem (by omega) kD);have K7:=r5 kD cs.length;generalize fj:(dg cs cs.length).length=L at uA K7;obtain⟨il,aah,NN⟩:=jF rF (n:=2) (by decide);generalize hv:((L:Int)-1)/2-rF%2=v;have aam: -1≤v∧2*v+1≤L:=by have:rF%2=(il:Int):=NN;omega
  simp[ea];refine sj v.toNat (fun j ρ=>∃left ws c1 lR,Lay (dg cs cs.length) left ws∧left.length+2*j=L∧ws.length=j∧ρ=[.aw (.int cell),.aw (.lst (xs.map D.int)),.aw (.int (m+1:Nat)),.aw (.lst (b_ cs)),.c6 (left.map bB),s5,.c6 (ws.map dW),c1,lR]) ?_ ⟨dg cs cs.length,[],.un,.un,⟨by simpa[ends]using De cs cs.length,fun d hd=>by simpa[ends]using hd⟩,by omega,rfl,rfl⟩ ?_ ?_
  ·simp(disch:=first|omega|(simp;done)|(simp;omega)) [MK,fj,hv,Vz (v:=v) (by omega) (by omega)]
  ·rintro j _ cv ⟨left,ws,c1,lR,lay,h1,h2,rfl⟩;obtain⟨Ko,ML⟩:=at' (8+2*j) (by omega);obtain⟨Kp,MO⟩:=at' (9+2*j) (by omega);obtain⟨k1,zH,ND⟩:=jF Ko (n:=left.length) (by omega);have le:(left.eraseIdx k1).length=left.length-1:=by simp[List.length_eraseIdx,zH]
   obtain⟨k2,qQ,NF⟩:=jF Kp (n:=(left.eraseIdx k1).length) (by omega);have MN:aG (.lst (xs.map D.int)) (.int (8+2*(j:Int)))=.ok (.int Ko):=by rw[←ML];simp
   have MP:aG (.lst (xs.map D.int)) (.int (9+2*(j:Int)))=.ok (.int Kp):=by rw[←MO];simp
   have iW:=Ia bB (i:=4) zH (by omega);have iC:=Ia bB (i:=4) qQ (by omega);simp(disch:=first|omega|(simp;done)|(simp;omega)) [MN,MP,ND,iW,NF,iC];refine⟨_,_,lay.take zH qQ,by rw[List.length_eraseIdx,if_pos qQ,le];omega,by simp[h2],rfl,by simp[dW]⟩
  ·rintro _ ⟨left,ws,c1,lR,lay,h1,h2,rfl⟩;have nl:1≤left.length:=by omega
   simp;refine⟨cs,ws,⟨by omega,by omega,kD,(List.nodup_append.mp lay.bj).2.1,fun d hd=>lay.sub d (List.mem_append_right _ hd),?_,by omega⟩,rfl,rfl⟩;cases left with
   |nil=>simp at nl
   |cons d r=>exact⟨d,lay.sub d (by simp),fun z=>(List.nodup_append.mp lay.bj).2.2 d (by simp) d z rfl⟩
inductive bS where
 |eP (k:Bool)
 |ac (w h:Nat)
def wS:Str:=PySem.Str.ofString "wait"
noncomputable def gw(w:Nat):Str:=if w=0 then PySem.Str.ofString "teach" else if w=1 then PySem.Str.ofString "turn" else PySem.Str.ofString "forget"
def bE:bS→D
 |.eP true=>hy
 |.eP false=>.tup [.str wS]
 |.ac w h=>.tup [.str (gw w),.int (h:Int)]
def bS.act:bS→Bool
 |.eP _=>false
 |.ac _ _=>true
def bS.ok(n:Nat):bS→Prop
 |.eP _=>True
 |.ac w h=>w<3∧h<n
def kL:bS→List Key
 |.eP _=>[]
 |.ac w h=>[.inr (gw w),.inl (h:Int)]
noncomputable def bA(cs:List Nat)(ws:List (aA×aA)):D:=.ins "Net" ["many","counts","joined","far"] [.int (cs.length:Nat),.tup (b_ cs),.tup (ws.map dW),.bI (dE ws) (dV ws)]
theorem pP(cs:List Nat)(ws:List (aA×aA)):d_ "Net" "many" (bA cs ws)=.ok (.int (cs.length:Int)):=rfl
theorem Cm(w:Nat)(h:w<3):w=0∨w=1∨w=2:=by omega
theorem Jl{cs:List Nat}{ws:List (aA×aA)}{s:bS}(h:s.ok cs.length):pL [bE s,bA cs ws]=.ok (.v (.au true)):=by
 cases s with
 |eP k=>cases k<;>rfl
 |ac w k=>
  obtain⟨hw,hk⟩:=h;have cP:aG (bE (.ac w k)) (.int 0)=.ok (.str (gw w)):=rfl;have ak:aG (bE (.ac w k)) (.int 1)=.ok (.int k):=rfl;have l:dJ [bE (.ac w k)]=.ok (.int 2):=rfl;have t1:e5 "tuple" (bE (.ac w k))=.ok (.au true):=rfl;have ed:e5 "str" (.str (gw w))=.ok (.au true):=rfl;have bK:inD false (.int 2) (.tup [.int 1,.int 2])=.ok (.au false):=rfl;have bQ:inD true (.str (gw w)) (.tup [.str (PySem.Str.ofString "teach"),.str (PySem.Str.ofString "turn"),.str (PySem.Str.ofString "forget")])=.ok (.au true):=by rcases Cm w hw with h|h|h<;>subst h<;>rfl
  simp[pL,uV,cP,ak,l,t1,ed,bK,bQ,pP,rE];omega
theorem SU(s:bS):cW false (bE s) hy=.ok (.au s.act)∧cW false (bE s) (.tup [.str wS])=.ok (.au s.act):=by
 cases s with
 |eP k=>cases k<;>exact⟨rfl,rfl⟩
 |ac w k=>
  have e:dS [.str (gw w),.int (k:Int)] [.str wS]=false:=by simp[dS]
  exact⟨by show R.ok (D.au (!dS [.str (gw w),.int (k:Int)] [.str wS]))=_;rw[e];rfl,by show R.ok (D.au (!dS [.str (gw w),.int (k:Int)] [.str wS]))=_;rw[e];rfl⟩
theorem YK{a b:Nat}(ha:a<3)(hb:b<3)(h:gw a=gw b):a=b:=by rcases Cm a ha with h1|h1|h1<;>rcases Cm b hb with h2|h2|h2<;>subst h1<;>subst h2<;>first|rfl|(exact absurd h (by decide))
theorem Rd{n:Nat}{s t:bS}(hs:s.ok n)(ht:t.ok n)(as:s.act=true)(at':t.act=true)(h:kL s=kL t):s=t:=by
 cases s with
 |eP k=>cases as
 |ac w k=>
  cases t with
  |eP k=>cases at'
  |ac eY k'=>
   simp only[kL,List.cons.injEq,Sum.inr.injEq,Sum.inl.injEq,and_true]at h;have:=YK hs.1 ht.1 h.1;have:k=k':=by omega
   subst_vars;rfl
theorem GN:∀{ss:List bS},(∀s∈ss,s.act=true)→p2 (ss.map bE)=some (ss.map kL)
 |[],_=>rfl
 |s::ss,h=>by
  have bW:=GN (ss:=ss) fun x hx=>h x (by simp[hx]);have e:B7 (bE s)=some (kL s):=by
   cases s with
   |eP k=>exact nomatch h (.eP k) (by simp)
   |ac w k=>rfl
  simp only[List.map_cons,p2,e,bW]
theorem Mv{α:Type}[DecidableEq α](l:List (List α)):∀S:List (List α),S.Nodup→((l.foldl eH.j0 S).length=S.length+l.length↔(S++l).Nodup)∧(l.foldl eH.j0 S).length≤S.length+l.length:=by
 induction l with
 |nil=>intro S h;simp[h]
 |cons a l bW=>
  intro S h;simp only[List.foldl_cons,List.length_cons];by_cases ha:a∈S
  ·have e:eH.j0 S a=S:=by simp[eH.j0,ha]
   rw[e];have:=(bW S h).2;refine⟨⟨fun z=>by omega,fun z=>?_⟩,by omega⟩;exact absurd ha fun q=>(List.nodup_append.mp z).2.2 a q a (by simp) rfl
  ·have e:eH.j0 S a=S++[a]:=by simp[eH.j0,ha]
   rw[e];have aE:(S++[a]).Nodup:=by rw[List.nodup_append];refine⟨h,by simp,fun x hx y bJ z=>?_⟩;rw[List.mem_singleton.mp bJ]at z;exact ha (z▸hx)
   have:=bW (S++[a]) aE;simp only[List.length_append,List.length_singleton,List.append_assoc,List.singleton_append]at this;rw[show S.length+(l.length+1)=S.length+1+l.length by omega];exact this
theorem Mu{α:Type}[DecidableEq α](l:List (List α)):(eH.h_ l).length=l.length↔l.Nodup:=by have:=(Mv l [] List.nodup_nil).1;simpa[eH.h_]using this
structure x9(n:Nat)(ps:List bS):Prop where
 ok:∀s∈ps,s.ok n
 bj:(ps.filter bS.act).Nodup
theorem nodup_map_on{α β:Type}{f:α→β}:∀{l:List α},(∀a∈l,∀b∈l,f a=f b→a=b)→l.Nodup→(l.map f).Nodup
 |[],_,_=>List.nodup_nil
 |a::l,h,aE=>by rw[List.nodup_cons]at aE;rw[List.map_cons,List.nodup_cons];refine⟨fun z=>?_,nodup_map_on (fun x hx y bJ=>h x (by simp[hx]) y (by simp[bJ])) aE.2⟩;obtain⟨b,hb,e⟩:=List.mem_map.mp z;exact aE.1 (h b (by simp[hb]) a (by simp) e▸hb)
theorem Hw{α β:Type}{f:α→β}:∀{l:List α},(l.map f).Nodup→l.Nodup
 |[],_=>List.nodup_nil
 |a::l,h=>by rw[List.map_cons,List.nodup_cons]at h;rw[List.nodup_cons];exact⟨fun z=>h.1 (List.mem_map.mpr ⟨a,z,rfl⟩),Hw h.2⟩
theorem DN{α:Type}(f:α→Bool):∀l:List α,mm (l.map fun a=>D.au (f a))=some (l.map f)
 |[]=>rfl
 |a::l=>by simp[mm,DN f l]
theorem oX{α:Type}(f:α→Bool)(l:List α):ax.dg [.lst (l.map fun a=>D.au (f a))]=.ok (.au (l.all f)):=by simp[ax.dg,DN,Function.comp_def]
theorem nN(l:List D):e5 "list" (.lst l)=.ok (.au true):=rfl
theorem H8{cs:List Nat}{ws:List (aA×aA)}{ps:List bS}(h:∀s∈ps,s.ok cs.length)(hl:ps.length≤40){c:Bool}(hc:c=true↔(ps.filter bS.act).Nodup):ih [.lst (ps.map bE),bA cs ws]=.ok (.v (.au c)):=by
 suffices h:Ends (ih [.lst (ps.map bE),bA cs ws]) (· =.v (.au c))by
  obtain⟨b,e,rfl⟩:=h;exact e
 simp[ih,qx,nN,nt,show¬((40:Int)<ps.length)by omega];refine pb bE ps (fun _=>.au true) (by simp) (by omega) (fun s hs=>by simp[Jl (ws:=ws) (h s hs)]) ?_;have a:=oX (fun _=>true) ps;simp[a];refine Er bE ps bS.act bE (by simp) (by omega) (fun s hs=>by simp[SU]) (fun s _ _=>by simp) ?_;have k:=GN (ss:=ps.filter bS.act) fun s hs=>(List.mem_filter.mp hs).2;have fl:=List.length_filter_le bS.act ps;have ls:sV [.lst ((ps.filter bS.act).map bE)]=.ok (.int (eH.h_ ((ps.filter bS.act).map kL)).length):=by simp[sV,k,show(ps.filter bS.act).length<77 by omega]
 simp[ls];have q:=Mu ((ps.filter bS.act).map kL);rw[List.length_map]at q;have r:((ps.filter bS.act).map kL).Nodup↔(ps.filter bS.act).Nodup:=⟨Hw,nodup_map_on fun a ha b hb=>Rd (h a (List.mem_filter.mp ha).1) (h b (List.mem_filter.mp hb).1) (List.mem_filter.mp ha).2 (List.mem_filter.mp hb).2⟩;rw[r]at q;by_cases aE:(ps.filter bS.act).Nodup
 ·rw[hc.mpr aE,q.mpr aE];simp
 ·have:c=false:=by
    cases c with
    |true=>exact absurd (hc.mp rfl) aE
    |false=>rfl
  rw[this,beq_eq_false_iff_ne];exact fun z=>aE (q.mp (by omega))
theorem H_{cs:List Nat}{ws:List (aA×aA)}{ps:List bS}(h:x9 cs.length ps)(hl:ps.length≤40):ih [.lst (ps.map bE),bA cs ws]=.ok (.v (.au true)):=by rw[H8 h.ok hl (c:=true) ⟨fun _=>h.bj,fun _=>rfl⟩]
theorem UE{d:D}{l:List D}(h:40<l.length):ih [.lst l,d]=.ok (.v (.au false)):=by simp[ih,qx,nN,nt,show((40:Int)<l.length)by omega]
theorem H9{d e:D}(h:e5 "list" d=.ok (.au false)):ih [d,e]=.ok (.v (.au false)):=by simp[ih,qx,h]
theorem UG{cs:List Nat}{ws:List (aA×aA)}{ps qs:List bS}{d:D}(h1:∀s∈ps,s.ok cs.length)(h2:∀s∈qs,s.ok cs.length)(hl:ps.length+qs.length<40)(hd:pL [d,bA cs ws]=.ok (.v (.au false))):ih [.lst (ps.map bE++[d]++qs.map bE),bA cs ws]=.ok (.v (.au false)):=by
 suffices h:Ends (ih [.lst (ps.map bE++[d]++qs.map bE),bA cs ws]) (· =.v (.au false))by
  obtain⟨b,e,rfl⟩:=h;exact e
 let g:Option bS→D:=fun o=>match o with
  |none=>d
  |some s=>bE s
 let xs:List (Option bS):=ps.map some++[none]++qs.map some
 have e:ps.map bE++[d]++qs.map bE=xs.map g:=by simp[xs,g,Function.comp_def]
 have Sj:xs.length=ps.length+qs.length+1:=by simp[xs];omega
 rw[e];simp[ih,qx,nN,nt,show¬((40:Int)<xs.length)by omega];refine pb g xs (fun o=>.au o.isSome) (by simp) (by omega) (fun o ho=>?_) ?_
 ·cases o with
  |none=>simp[g,hd]
  |some s=>
   have:s.ok cs.length:=by simp[xs]at ho;exact ho.elim (h1 s) (h2 s)
   simp[g,Jl (ws:=ws) this]
 ·have a:=oX (fun o:Option bS=>o.isSome) xs;have b:xs.all (fun o=>o.isSome)=false:=by simp[xs]
  rw[b]at a;simp[a]
noncomputable def plain(n:Nat)(k:Bool):List bS:=((List.range n).map (bS.ac 0)++(List.range n).map (bS.ac 1))++[.eP k]++(List.range n).map (bS.ac 2)
theorem plain_len(n:Nat)(k:Bool):(plain n k).length=3*n+1:=by simp[plain];omega
theorem UD(n:Nat)(k:Bool):x9 n (plain n k):=by
 constructor
 ·intro s hs;simp[plain]at hs;rcases hs with⟨a,h,rfl⟩|⟨a,h,rfl⟩|rfl|⟨a,h,rfl⟩
  ·exact⟨by decide,h⟩
  ·exact⟨by decide,h⟩
  ·trivial
  ·exact⟨by decide,h⟩
 ·have f:∀w:Nat,((List.range n).map (bS.ac w)).filter bS.act=(List.range n).map (bS.ac w):=fun w=>List.filter_eq_self.mpr fun s hs=>by
    obtain⟨a,_,rfl⟩:=List.mem_map.mp hs;rfl
  have bj:∀w:Nat,((List.range n).map (bS.ac w)).Nodup:=fun w=>nodup_map_on (fun a _ b _ e=>by cases e;rfl) List.nodup_range;simp only[plain,List.filter_append,f];simp only[bS.act,List.filter_cons,List.filter_nil,Bool.false_eq_true,if_false,List.append_nil];rw[List.nodup_append,List.nodup_append];refine⟨⟨bj 0,bj 1,fun a ha b hb e=>?_⟩,bj 2,fun a ha b hb e=>?_⟩
  ·obtain⟨x,_,rfl⟩:=List.mem_map.mp ha;obtain⟨y,_,rfl⟩:=List.mem_map.mp hb;cases e
  ·obtain⟨y,_,rfl⟩:=List.mem_map.mp hb;rcases List.mem_append.mp ha with ha|ha
   ·obtain⟨x,_,rfl⟩:=List.mem_map.mp ha;cases e
   ·obtain⟨x,_,rfl⟩:=List.mem_map.mp ha;cases e
def yb(c:Nat):Prop:=c=48∨c=49∨c=120
structure oR(x:Str):Prop where
 l:x.cps.toList.length=4
 s:∀c∈x.cps.toList,yb c
theorem WN{c:Nat}(h:yb c):inD true (e6 c) qC=.ok (.au true):=by rcases h with h|h|h<;>subst h<;>rfl
theorem len_str(x:Str)(h:x.cps.toList.length≤1000):dJ [.str x]=.ok (.int (x.cps.toList.length:Int)):=by
 have e:x.length=x.cps.toList.length:=rfl;have ay:x.length≤1000000:=by omega
 rw[←e];simp only[dJ,if_pos ay]
theorem QO(x:Str):e5 "str" (.str x)=.ok (.au true):=rfl
theorem QP(l:List D):e5 "tuple" (.tup l)=.ok (.au true):=rfl
theorem YN:dJ [nu]=.ok (.int 4):=rfl
theorem HS{x:Str}(h:oR x):rh [.str x]=.ok (.v (.au true)):=by apply Ends.done;have l:=h.l;simp[rh,yx,QO,len_str x (by omega),YN,l];refine pb e6 x.cps.toList (fun _=>.au true) (by simp) (by omega) (fun c hc=>by simp[WN (h.s c hc)]) ?_;have a:=oX (fun _:Nat=>true) x.cps.toList;simp only[a];simp
structure dD where
 p:Str
 a:Option Nat
 b:Option Nat
def ej:Option Nat→D
 |none=>.non
 |some k=>.int (k:Int)
def eW(r:dD):D:=.tup [.str r.p,ej r.a,ej r.b]
structure kB(c:Nat)(r:dD):Prop where
 p:oR r.p
 a:∀k,r.a=some k→k<c
 b:∀k,r.b=some k→k<c
theorem HA{c:Nat}{o:Option Nat}(h:∀k,o=some k→k<c):n3 [ej o,.int (c:Int)]=.ok (.v (.au true)):=by
 cases o with
 |none=>simp[n3,uU,ej,gp]
 |some k=>have:=h k rfl;simp[n3,uU,ej,gp,rE];omega
theorem VB{c:Nat}{p a b:D}{h1 h2 h3:Bool}(ak:rh [p]=.ok (.v (.au h1)))(ay:n3 [a,.int (c:Int)]=.ok (.v (.au h2)))(b4:n3 [b,.int (c:Int)]=.ok (.v (.au h3))):n4 [.tup [p,a,b],.int (c:Int)]=.ok (.v (.au (h1&&h2&&h3))):=by have fa:aG (.tup [p,a,b]) (.int 0)=.ok p:=rfl;have bK:aG (.tup [p,a,b]) (.int 1)=.ok a:=rfl;have bQ:aG (.tup [p,a,b]) (.int 2)=.ok b:=rfl;cases h1<;>cases h2<;>cases h3<;>simp[n4,yy,QP,fa,bK,bQ,ak,ay,b4]
theorem IG{c:Nat}{r:dD}(h:kB c r):n4 [eW r,.int (c:Int)]=.ok (.v (.au true)):=VB (HS h.p) (HA h.a) (HA h.b)
def bo(b:List dD):D:=.lst (b.map eW)
structure qf(c:Nat)(b:List dD):Prop where
 l:b.length≤12
 r:∀r∈b,kB c r
theorem LN{c:Nat}{l:List D}{f:D→Bool}(hl:l.length≤12)(h:∀d∈l,n4 [d,.int (c:Int)]=.ok (.v (.au (f d)))):j_ [.lst l,.int (c:Int)]=.ok (.v (.au (l.all f))):=by apply Ends.done;simp[j_,r8,nN,nr,show¬((12:Int)<l.length)by omega];refine pb id l (fun d=>.au (f d)) (by simp) (by omega) (fun d hd=>by simp[h d hd]) ?_;have a:=oX f l;simp[a]
theorem LP{c:D}{l:List D}(hl:12<l.length):j_ [.lst l,c]=.ok (.v (.au false)):=by simp[j_,r8,nN,nr,show((12:Int)<l.length)by omega]
theorem DH{c:Nat}{b:List dD}(h:qf c b):j_ [bo b,.int (c:Int)]=.ok (.v (.au true)):=by
 have:=LN (c:=c) (l:=b.map eW) (f:=fun _=>true) (by simpa using h.l) fun d hd=>by obtain⟨r,hr,rfl⟩:=List.mem_map.mp hd;exact IG (h.r r hr)
 unfold bo;rw[this];simp
theorem LO{c:Nat}{p q:List dD}{d:D}(h1:∀r∈p,kB c r)(h2:∀r∈q,kB c r)(hd:n4 [d,.int (c:Int)]=.ok (.v (.au false)))(hl:p.length+q.length≤11):j_ [.lst (p.map eW++d::q.map eW),.int (c:Int)]=.ok (.v (.au false)):=by
 apply Ends.done
 let g:Option dD→D:=fun o=>match o with
  |none=>d
  |some s=>eW s
 let xs:List (Option dD):=p.map some++none::q.map some
 have e:p.map eW++d::q.map eW=xs.map g:=by simp[xs,g,Function.comp_def]
 have Sj:xs.length=p.length+q.length+1:=by simp[xs];omega
 rw[e];simp[j_,r8,nN,nr,show¬((12:Int)<xs.length)by omega];refine pb g xs (fun o=>.au o.isSome) (by simp) (by omega) (fun o ho=>?_) ?_
 ·cases o with
  |none=>simp[g,hd]
  |some s=>
   have:kB c s:=by simp[xs]at ho;exact ho.elim (h1 s) (h2 s)
   simp[g,IG this]
 ·have a:=oX (fun o:Option dD=>o.isSome) xs;have b:xs.all (fun o=>o.isSome)=false:=by simp[xs]
  rw[b]at a;simp[a]
theorem DX(cs:List Nat)(ws:List (aA×aA)):d_ "Net" "counts" (bA cs ws)=.ok (.tup (b_ cs)):=rfl
theorem WC(cs:List Nat)(ws:List (aA×aA)):og "Net" "count" (bA cs ws)=.ok (bA cs ws):=rfl
theorem Me{cs:List Nat}{ws:List (aA×aA)}{h:Nat}(hh:h<cs.length):wa [bA cs ws,.int (h:Int)]=.ok (.v (.int (cs.getD h 0:Nat))):=by have e:aG (.tup (b_ cs)) (.int (h:Int))=.ok (.int (cs.getD h 0:Nat)):=zY (vb hh);simp only[List.getD_eq_getElem?_getD]at e ⊢;simp[wa,yn,pP,DX,e,hh]
theorem DI{cs:List Nat}{ws:List (aA×aA)}{l:List D}{f:D×Nat→Bool}(hl:l.length=cs.length)(h6:cs.length≤6)(h:∀p∈l.zipIdx,j_ [p.1,.int (cs.getD p.2 0:Nat)]=.ok (.v (.au (f p)))):gV [.lst l,bA cs ws]=.ok (.v (.au (l.zipIdx.all f))):=by
 apply Ends.done;simp[gV,r9,nN,pP,hl];have lz:=y8 id l;rw[List.map_id]at lz;refine vl (fun p:D×Nat=>.int (p.2:Int)) (fun p=>p.1) l.zipIdx (fun p=>.au (f p)) (by simp only[Cc,t4,v_var,ov];simp[lz]) (by simp;omega) (fun p hp=>?_) ?_
 ·have:=(List.getElem?_eq_some_iff.mp (xG hp)).1;have hc:=Me (cs:=cs) (ws:=ws) (h:=p.2) (by omega);have hb:=h p hp;simp only[List.getD_eq_getElem?_getD]at hc hb;simp[WC,hc,hb]
 ·have a:=oX f l.zipIdx;simp[a]
theorem LR{d e:D}(h:e5 "list" d=.ok (.au false)):gV [d,e]=.ok (.v (.au false)):=by simp[gV,r9,h]
theorem DK{cs:List Nat}{ws:List (aA×aA)}{l:List D}(hl:l.length≠cs.length):gV [.lst l,bA cs ws]=.ok (.v (.au false)):=by simp[gV,r9,nN,pP,show¬((l.length:Int)=(cs.length:Int))by omega]
structure ks(cs:List Nat)(bs:List (List dD)):Prop where
 l:bs.length=cs.length
 b:∀(i:Nat) b,bs[i]?=some b→qf (cs.getD i 0) b
theorem qz{cs:List Nat}{ws:List (aA×aA)}{bs:List (List dD)}(h6:cs.length≤6)(h:ks cs bs):gV [.lst (bs.map bo),bA cs ws]=.ok (.v (.au true)):=by
 have:=DI (ws:=ws) (l:=bs.map bo) (f:=fun _=>true) (by simpa using h.l) h6 fun p hp=>by
  have e:=xG hp;rw[List.getElem?_map]at e;cases a7:bs[p.2]? with
  |none=>rw[a7]at e;cases e
  |some b=>rw[a7]at e;rw[←Option.some.inj (show some (bo b)=some p.1 from e)];exact DH (h.b _ _ a7)
 rw[this];simp
theorem DJ{cs:List Nat}{ws:List (aA×aA)}{bs:List (List dD)}(h6:cs.length≤6)(h:ks cs bs){k:Nat}(hk:k<bs.length){d:D}(hd:j_ [d,.int (cs.getD k 0:Nat)]=.ok (.v (.au false))):gV [.lst ((bs.map bo).set k d),bA cs ws]=.ok (.v (.au false)):=by
 have:=DI (ws:=ws) (l:=(bs.map bo).set k d) (f:=fun p=>!(p.2==k)) (by simpa using h.l) h6 fun p hp=>by
  have e:=xG hp;rw[List.getElem?_set]at e;by_cases q:k=p.2
  ·rw[if_pos q,if_pos (by simpa using hk)]at e;cases e;rw[←q,hd];simp
  ·rw[if_neg q,List.getElem?_map]at e;cases a7:bs[p.2]? with
   |none=>rw[a7]at e;cases e
   |some b=>rw[a7]at e;rw[←Option.some.inj (show some (bo b)=some p.1 from e),DH (h.b _ _ a7),show(p.2==k)=false from beq_eq_false_iff_ne.mpr (fun z=>q z.symm)];rfl
 rw[this]
 congr 3
 rw[List.all_eq_false];refine⟨(d,k),?_,by simp⟩;rw[List.mem_iff_getElem?];refine⟨k,?_⟩;rw[List.getElem?_zipIdx,List.getElem?_set,if_pos rfl,if_pos (by simpa using hk)];simp
@[simp] theorem abL(m:aO)(ρ:aj):q9 m ρ=(m ρ).bind CF:=(rfl)
@[simp] theorem abz(m n:az)(ρ:aj):sY m n ρ=(m ρ).bind fun d=>match d with
  |.bI aD ds=>(n ρ).bind fun k=>match nQ k with
   |some cb=>.ok ((findD aD ds cb).getD .non)
   |none=>.bad
  |_=>.bad:=(rfl)
@[simp] theorem Ka(e:az)(ρ:aj):j9 e ρ=(e (ea ρ)).bind fun d=>.ok (.dG d):=by unfold j9;rfl
@[simp] theorem abH(m:az)(ma:aO)(ρ:aj):nZ m ma ρ=(m ρ).bind fun d=>match d with
  |.lst ds=>(ma ρ).bind fun es=>qV (.lst ds) es
  |_=>.bad:=(rfl)
theorem Lp(i:Int):wh [.int i]=.ok (.v (.au (decide (0≤i)&&decide (i≤15)))):=by simp[wh,yv,rE,nq]
def u3(a w:Nat):Nat:=48+a/w%2
def vp(p:Str)(a:Nat):Bool:=(p.cps.toList.zip [8,4,2,1]).all fun q=>decide (q.1=120∨q.1=u3 a q.2)
theorem W9(b:Nat)(h:b=0∨b=1):pY [.int (b:Int)]=.ok (.str ⟨#[48+b]⟩):=by rcases h with rfl|rfl<;>rfl
theorem sign_eq(c d:Nat):bp (.str ⟨#[d]⟩) (e6 c)=decide (c=d):=by show bp (.str ⟨#[d]⟩) (.str ⟨#[c]⟩)=_;simp only[bp];rw[Bool.eq_iff_iff,beq_iff_eq,decide_eq_true_iff];simp;exact eq_comm
theorem W_:PySem.Str.ofString "x"=⟨#[120]⟩:=by decide
theorem Qx(c d:Nat):inD true (e6 c) (.tup [.str (PySem.Str.ofString "x"),.str ⟨#[d]⟩])=.ok (.au (decide (c=120∨c=d))):=by have o:okN 7 (e6 c)=true:=rfl;have cB:okN 7 (.str (PySem.Str.ofString "x"))=true:=rfl;have b9:okN 7 (.str ⟨#[d]⟩)=true:=rfl;have s:oh (.tup [.str (PySem.Str.ofString "x"),.str ⟨#[d]⟩])=some [.str (PySem.Str.ofString "x"),.str ⟨#[d]⟩]:=rfl;simp only[inD,s,o,cB,b9,List.all_cons,List.all_nil,Bool.and_true,and_self,if_true,List.any_cons,List.any_nil,Bool.or_false];rw[W_,sign_eq,sign_eq];simp
theorem N8{p:Str}(hp:oR p){a:Nat}(ha:a<16):pK [.str p,.int (a:Int)]=.ok (.v (.au (vp p a))):=by
 apply Ends.done;have l:=hp.l;simp[pK,yu,HS hp,Lp,show(a:Int)≤15 by omega];refine vl (fun q:Nat×Nat=>e6 q.1) (fun q=>.int (q.2:Int)) (p.cps.toList.zip [8,4,2,1]) (fun q=>.au (decide (q.1=120∨q.1=u3 a q.2))) ?_ (by simp;omega) (fun q aK=>?_) ?_
 ·show R.ok (qb p.cps.toList [.int 8,.int 4,.int 2,.int 1])=_;unfold qb;rw[show([.int 8,.int 4,.int 2,.int 1]:List D)=([8,4,2,1]:List Nat).map fun(n:Nat)=>D.int (n:Int)from rfl,List.zip_map_right,List.map_map];rfl
 ·have hw:q.2=8∨q.2=4∨q.2=2∨q.2=1:=by
    have:=(List.of_mem_zip (show(q.1,q.2)∈_ from aK)).2;simpa using this
  have eO:pY [.int ((a:Int)/(q.2:Int)%2)]=.ok (.str ⟨#[48+a/q.2%2]⟩):=by have:=W9 (a/q.2%2) (by omega);rw[←this];simp
  simp(disch:=first|omega|(simp;done)|(simp;omega)) [eO,Qx,u3];rw[Bool.eq_iff_iff];simp;exact decide_eq_true_iff.symm
 ·have al:=oX (fun q:Nat×Nat=>decide (q.1=120∨q.1=u3 a q.2)) (p.cps.toList.zip [8,4,2,1]);simp only[al];simp[vp]
def mt(d a:Nat)(r:dD):Bool:=(r.a.isNone||r.a==some d)&&vp r.p a
theorem QM(o:Option Nat):gp (ej o)=o.isNone:=by cases o<;>rfl
theorem NO(o:Option Nat)(d:Nat):cW true (ej o) (.int (d:Int))=.ok (.au (o==some d)):=by
 cases o with
 |none=>rfl
 |some k=>
  show R.ok (D.au ((k:Int)==(d:Int)))=_
  congr 2
  rw[Bool.eq_iff_iff];simp;omega
theorem Ca(mi:aO)(set:D→aj→R aj)(body:a0)(ρ:aj):eE mi set body ρ=(mi ρ).bind fun ds=>fT set body ds ρ:=(rfl)
noncomputable def kY(d a:Nat):Nat→List dD→Option Nat
 |_,[]=>none
 |i,r::rs=>if mt d a r=true then some i else kY d a (i+1) rs
theorem JM{d a:Nat}(ha:a<16):∀(rs:List dD)(i:Nat)(s0 s3 s4:dc),(∀r∈rs,oR r.p)→
  Ends ((fT (g9 [bN 3,bN 4]) (cL (mE (fk (bc (ao (gn true) (ao aG (J 4) (ai (.int 1))) (ai .non))) (bc (ao (cW true) (ao aG (J 4) (ai (.int 1))) (J 1)))) (bc (b8 2 pK (ae (ao aG (J 4) (ai (.int 0))) (ae (J 2) (av)))))) (b6 (J 3)) (cU)) ((rs.zipIdx i).map fun p=>.tup [.int (p.2:Int),eW p.1]) [s0,.aw (.int (d:Int)),.aw (.int (a:Int)),s3,s4]).bind (ki (b6 (ai .non)))) (· =.dG (ej (kY d a i rs)))
 |[],i,s0,s3,s4,_=>by simp[kY,ej]
 |r::rs,i,s0,s3,s4,h=>by
  have fa:aG (eW r) (.int 0)=.ok (.str r.p):=rfl;have bK:aG (eW r) (.int 1)=.ok (ej r.a):=rfl;have bW:=JM (d:=d) ha rs (i+1) s0 (.aw (.int (i:Int))) (.aw (eW r)) fun x hx=>h x (List.mem_cons_of_mem _ hx);have f:=N8 (h r List.mem_cons_self) ha;have bd:(cL (mE (fk (bc (ao (gn true) (ao aG (J 4) (ai (.int 1))) (ai .non))) (bc (ao (cW true) (ao aG (J 4) (ai (.int 1))) (J 1)))) (bc (b8 2 pK (ae (ao aG (J 4) (ai (.int 0))) (ae (J 2) (av)))))) (b6 (J 3)) (cU)) [s0,.aw (.int (d:Int)),.aw (.int (a:Int)),.aw (.int (i:Int)),.aw (eW r)]=if mt d a r=true then .ok (.dG (.int (i:Int)))else .ok (.bk [s0,.aw (.int (d:Int)),.aw (.int (a:Int)),.aw (.int (i:Int)),.aw (eW r)]):=by unfold mt;have aM:=QM r.a;have a_:=NO r.a d;generalize r.a.isNone=ei at aM ⊢;generalize(r.a==some d)=dj at a_ ⊢;generalize vp r.p a=oY at f ⊢;cases ei<;>cases dj<;>cases oY<;>simp[fa,bK,aM,a_,f]
  rw[List.zipIdx_cons,List.map_cons,fT];simp only[WJ,WG,WH,Yp,List.length_cons,List.length_nil,dU];simp only[show(3:Nat)<0+1+1+1+1+1 by decide,if_true,dU,List.set_cons_succ,List.set_cons_zero,List.length_cons,List.length_nil,show(4:Nat)<0+1+1+1+1+1 by decide,bd];cases hm:mt d a r with
  |true=>simp[kY,hm,ej]
  |false=>simp only[Bool.false_eq_true,if_false,dU,kY,hm];exact bW
theorem XP{b:List dD}(hb:∀r∈b,oR r.p)(d a:Nat)(ha:a<16):wk [bo b,.int (d:Int),.int (a:Int)]=.ok (.v (ej (kY d a 0 b))):=by apply Ends.done;have e:pe [bo b]=.ok (b.zipIdx.map fun p=>.tup [.int (p.2:Int),eW p.1]):=y8 eW b;have k:=JM (d:=d) ha b 0 (.aw (bo b)) .un .un hb;obtain⟨f,hf,rfl⟩:=k;simp only[wk,t5,yM,rC,Ca,Cc,t4,v_var,ov];have z:wQ (hD 5 [bo b,.int (d:Int),.int (a:Int)])[0]?=.ok (bo b):=rfl;simp only[z,dU,e];have aZ:hD 5 [bo b,.int (d:Int),.int (a:Int)]=[.aw (bo b),.aw (.int (d:Int)),.aw (.int (a:Int)),.un,.un]:=rfl;rw[aZ,hf];simp
def st(s:String):D:=.str (PySem.Str.ofString s)
inductive On where
 |drop|out (o:Nat)|to (e:aA)
def pairsOf(ws:List (aA×aA)):List (aA×aA):=ws.flatMap fun w=>[(w.1,w.2),(w.2,w.1)]
def nk(ws:List (aA×aA))(d:aA):Option aA:=((pairsOf ws).find? fun p=>decide (p.1=d)).map (·.2)
theorem KV:∀ws:List (aA×aA),(dE ws).zip (dV ws)=(pairsOf ws).map fun p=>(g5 p.1,bB p.2)
 |[]=>rfl
 |w::ws=>by
  have bW:=KV ws;have ak:dE (w::ws)=g5 w.1::g5 w.2::dE ws:=by simp[dE,ends]
  have ay:dV (w::ws)=bB w.2::bB w.1::dV ws:=by simp[dV]
  have b4:pairsOf (w::ws)=(w.1,w.2)::(w.2,w.1)::pairsOf ws:=by simp[pairsOf]
  rw[ak,ay,b4,List.zip_cons_cons,List.zip_cons_cons,bW];rfl
theorem N7(ps:List (aA×aA))(d:aA):((ps.map fun p=>(g5 p.1,bB p.2)).find? fun p=>decide (p.1=g5 d))=(ps.find? fun p=>decide (p.1=d)).map fun p=>(g5 p.1,bB p.2):=by
 induction ps with
 |nil=>rfl
 |cons p ps bW=>
  rw[List.map_cons,List.find?_cons,List.find?_cons];by_cases h:p.1=d
  ·simp[h]
  ·have:g5 p.1≠g5 d:=fun z=>h (z2 z);simp[h,this,bW]
theorem N6(ws:List (aA×aA))(d:aA):findD (dE ws) (dV ws) (g5 d)=(nk ws d).map bB:=by unfold findD nk;rw[KV,N7,Option.map_map,Option.map_map];rfl
theorem DA{ws:List (aA×aA)}{d e:aA}(h:nk ws d=some e):e∈ends ws:=by
 unfold nk at h;obtain⟨p,hp,rfl⟩:=Option.map_eq_some_iff.mp h;have hm:=List.mem_of_find?_eq_some hp;unfold pairsOf at hm;obtain⟨w,hw,bq⟩:=List.mem_flatMap.mp hm;have FU:∀x,x=w.1∨x=w.2→x∈ends ws:=fun x hx=>List.mem_flatten.mpr ⟨[w.1,w.2],List.mem_map.mpr ⟨w,hw,rfl⟩,by simpa using hx⟩;simp only[List.mem_cons,List.not_mem_nil,or_false]at bq;rcases bq with rfl|rfl
 ·exact FU _ (.inr rfl)
 ·exact FU _ (.inl rfl)
noncomputable def iQ(h:Nat):On→D
 |.drop=>.tup [st "drop",.int (h:Int)]
 |.out o=>.tup [st "out",.int (h:Int),.int (o:Int)]
 |.to e=>.tup [st "at",.int (e.1:Int),.int (e.2:Int)]
noncomputable def bk(ws:List (aA×aA))(b:List dD)(h d a:Nat):On:=match kY d a 0 b with
 |none=>.drop
 |some i=>match(b[i]?).bind (·.b)with
  |none=>.drop
  |some o=>match nk ws (h,o)with
   |none=>.out o
   |some e=>.to e
theorem JL{d a:Nat}:∀(rs:List dD)(i k:Nat),kY d a i rs=some k→i≤k∧k<i+rs.length
 |[],_,_,h=>by simp[kY]at h
 |r::rs,i,k,h=>by
  simp only[kY]at h
  split at h
  ·cases h;simp
  ·have:=JL rs (i+1) k h;simp;omega
theorem N1(cs:List Nat)(ws:List (aA×aA)):d_ "Net" "far" (bA cs ws)=.ok (.bI (dE ws) (dV ws)):=rfl
theorem I0(cs:List Nat)(ws:List (aA×aA)):og "Net" "beyond" (bA cs ws)=.ok (bA cs ws):=rfl
theorem LG(cs:List Nat)(ws:List (aA×aA))(d:aA):tc [bA cs ws,bB d]=.ok (.v (((nk ws d).map bB).getD .non)):=by simp[tc,ym,N1,q0,N6]
theorem TA{cs:List Nat}{ws:List (aA×aA)}{b:List dD}(hb:∀r∈b,oR r.p)(h d a:Nat)(ha:a<16):mL [bA cs ws,bo b,bB (h,d),.int (a:Int)]=.ok (.v (iQ h (bk ws b h d a))):=by
 have fa:aG (bB (h,d)) (.int 0)=.ok (.int (h:Int)):=rfl;have bK:aG (bB (h,d)) (.int 1)=.ok (.int (d:Int)):=rfl;have cM:=XP hb d a ha;have LM:∀o:Nat,tc [bA cs ws,.tup [.int (h:Int),.int (o:Int)]]=.ok (.v (((nk ws (h,o)).map bB).getD .non)):=fun o=>LG cs ws (h,o);have wu:gp .non=true:=rfl;have c8:∀i,gp (.int i)=false:=fun _=>rfl;unfold bk;cases e:kY d a 0 b with
 |none=>simp[mL,qy,fa,bK,cM,e,ej,wu,c8,iQ,st]
 |some i=>
  have hi:=JL b 0 i e;have FW:i<b.length:=by omega
  have px:aG (bo b) (.int (i:Int))=.ok (eW b[i]):=mB (by simp[FW]);have bQ:aG (eW b[i]) (.int 2)=.ok (ej b[i].b):=rfl;simp only[List.getElem?_eq_getElem FW,Option.bind_some];cases a7:b[i].b with
  |none=>simp[mL,qy,fa,bK,cM,e,ej,wu,c8,iQ,st,px,bQ,a7]
  |some o=>
   have u4:=LM o;cases d4:nk ws (h,o)with
   |none=>rw[d4]at u4;simp[mL,qy,fa,bK,cM,e,ej,wu,c8,iQ,st,px,bQ,a7,I0,u4,d4]
   |some f=>rw[d4]at u4;have f0:aG (bB f) (.int 0)=.ok (.int (f.1:Int)):=rfl;have f1:aG (bB f) (.int 1)=.ok (.int (f.2:Int)):=rfl;have gr:gp (bB f)=false:=rfl;simp[mL,qy,fa,bK,cM,e,ej,wu,c8,iQ,st,px,bQ,a7,I0,u4,d4,f0,f1,gr]
inductive oH where
 |drop (h:Nat)|out (h o:Nat)|ring (d:aA)
noncomputable def walk(N:aA→On):Nat→List aA→aA→Option (List aA×oH)
 |0,_,_=>none
 |n+1,ds,d=>if d∈ds then some (ds,.ring d)else match N d with
  |.to e=>walk N n (ds++[d]) e
  |.drop=>some (ds++[d],.drop d.1)
  |.out o=>some (ds++[d],.out d.1 o)
theorem Kh{N:aA→On}{A:List aA}(i_:A.length<100)(cl:∀d∈A,∀e,N d=.to e→e∈A):∀(n:Nat)(ds:List aA)(d:aA),ds.Nodup→(∀x∈ds,x∈A)→d∈A→101≤n+ds.length→∃r,walk N n ds d=some r
 |0,ds,d,bj,eO,_,h=>by have:=List.Nodup.length_le_of_subset bj eO;omega
 |n+1,ds,d,bj,eO,hd,h=>by
  simp only[walk];by_cases hm:d∈ds
  ·rw[if_pos hm];exact⟨_,rfl⟩
  ·rw[if_neg hm];cases e:N d with
   |drop=>exact⟨_,rfl⟩
   |out o=>exact⟨_,rfl⟩
   |to f=>
    have SQ:(ds++[d]).Nodup:=List.nodup_append.mpr ⟨bj,by simp,fun x hx y bJ z=>hm (by rw[←List.mem_singleton.mp bJ,←z];exact hx)⟩;have V9:∀x∈ds++[d],x∈A:=fun x hx=>by
     rcases List.mem_append.mp hx with h|h
     ·exact eO x h
     ·rw[List.mem_singleton.mp h];exact hd
    exact Kh i_ cl n (ds++[d]) f SQ V9 (cl d hd f e) (by simp;omega)
theorem yY(a b:aA):bp (bB a) (bB b)=decide (a=b):=by
 show(((a.1:Int)==(b.1:Int))&&(((a.2:Int)==(b.2:Int))&&true))=_;rw[Bool.and_true,Bool.eq_iff_iff,Bool.and_eq_true,beq_iff_eq,beq_iff_eq,decide_eq_true_iff];constructor
 ·intro⟨h1,h2⟩;exact Prod.ext (by omega) (by omega)
 ·rintro rfl;exact⟨rfl,rfl⟩
theorem Ee(ds:List aA):(ds.map bB).all (okN 7)=true:=by rw[List.all_map,List.all_eq_true];intro d _;rfl
theorem Lw(ds:List aA)(d:aA):((ds.map bB).any fun y=>bp y (bB d))=decide (d∈ds):=by
 rw[List.any_map,Bool.eq_iff_iff,List.any_eq_true,decide_eq_true_iff];constructor
 ·rintro⟨x,hx,h⟩;have:=(yY x d).symm.trans h;rw[decide_eq_true_iff]at this;rw[←this];exact hx
 ·intro h;exact⟨d,h,by show bp (bB d) (bB d)=true;rw[yY];simp⟩
theorem S7{m1 m2:az}{ρ:aj}{ds:List aA}{d:aA}(h1:m1 ρ=.ok (bB d))(h2:m2 ρ=.ok (.lst (ds.map bB))):bc (ao (inD false) m1 m2) ρ=.ok (!decide (d∈ds)):=by refine q5 (u2 h1 h2 ?_);have s:oh (.lst (ds.map bB))=some (ds.map bB):=rfl;have o:okN 7 (bB d)=true:=rfl;simp only[inD,s,Ee,o,and_self,if_true,Lw];rfl
def idx(ds:List aA)(d:aA):Nat:=(ds.findIdx? fun x=>decide (x=d)).getD 0
theorem QC{m1 m2:az}{ρ:aj}{ds:List aA}{d:aA}(h2:m2 ρ=.ok (.lst (ds.map bB)))(h1:m1 ρ=.ok (bB d))(hm:d∈ds)(hl:ds.length<1000):nZ m2 (ae m1 av) ρ=.ok (.int (idx ds d:Nat)):=by
 have f:(ds.map bB).findIdx? (fun z=>bp z (bB d))=ds.findIdx? (fun x=>decide (x=d)):=by
  rw[List.findIdx?_map]
  congr 1
  funext x
  exact yY x d
 have g:∃j,ds.findIdx? (fun x=>decide (x=d))=some j:=by
  cases e:ds.findIdx? (fun x=>decide (x=d))with
  |some j=>exact⟨j,rfl⟩
  |none=>exact absurd (List.findIdx?_eq_none_iff.mp e d hm) (by simp)
 obtain⟨j,g⟩:=g;have o:okN 7 (bB d)=true:=rfl;have l:(ds.map bB).length<1000000:=by rw[List.length_map];omega
 rw[nZ,h2,fh];simp only[show ae m1 av ρ=.ok [bB d]by simp[h1],fh,qV,o,Ee,l,and_self,if_true,f,g,idx,Option.getD_some]
noncomputable def vk(ds:List aA):oH→D
 |.drop h=>.tup [st "drop",.int (h:Nat)]
 |.out h o=>.tup [st "out",.int (h:Nat),.int (o:Nat)]
 |.ring d=>.tup [st "ring",.int (idx ds d:Nat)]
def p1(r:List aA×oH):D:=.tup [.lst (r.1.map bB),vk r.1 r.2]
def xu:bY:=j8 (bc (ao (inD false) (J 2) (J 4)))
noncomputable def t6:a0:=(bf (jg 4 (J 2))
    (bf (c3 5 (b8 4 mL (ae (J 0) (ae (ao aG (J 1) (ao aG (J 2) (ai (.int 0)))) (ae (J 2) (ae (J 3) (av)))))))
    (bf (cL (bc (ao (cW false) (ao aG (J 5) (ai (.int 0))) (ai (.str (PySem.Str.ofString "at"))))) (j9 (cE (ae (J 4) (ae (J 5) (av))))) (cU))
    (c3 2 (cE (ae (ao aG (J 5) (ai (.int 1))) (ae (ao aG (J 5) (ai (.int 2))) (av))))))))
noncomputable def xv:a0:=(j9 (cE (ae (J 4) (ae (cE (ae (ai (.str (PySem.Str.ofString "ring"))) (ae (nZ (J 4) (ae (J 2) (av))) (av)))) (av)))))
noncomputable def mc(X Y:D)(d:aA)(a:Nat)(ds:List aA)(s5:dc):aj:=[.aw X,.aw Y,.aw (bB d),.aw (.int (a:Int)),.c6 (ds.map bB),s5]
theorem Km(X Y:D)(d:aA)(a:Nat)(ds:List aA)(s5:dc):xu (mc X Y d a ds s5)=.ok (!decide (d∈ds)):=S7 rfl rfl
structure m9(cs:List Nat)(bs:List (List dD)):Prop where
 l:bs.length=cs.length
 p:∀b∈bs,∀r∈b,oR r.p
def kd(ws:List (aA×aA))(bs:List (List dD))(a:Nat)(d:aA):On:=bk ws (bs.getD d.1 []) d.1 d.2 a
theorem Hr(s:String)(h:(PySem.Str.ofString s==PySem.Str.ofString "at")=false):cW false (st s) (.str (PySem.Str.ofString "at"))=.ok (.au true):=by show R.ok (D.au (!(PySem.Str.ofString s==PySem.Str.ofString "at")))=_;rw[h];rfl
theorem YM{cs:List Nat}{ws:List (aA×aA)}{bs:List (List dD)}(hb:m9 cs bs){d:aA}(hd:d.1<cs.length){a:Nat}(ha:a<16)(ds:List aA)(hl:ds.length<1000)(s5:dc) :
  t6 (mc (bA cs ws) (.lst (bs.map bo)) d a ds s5)=match kd ws bs a d with
   |.to e=>.ok (.bk (mc (bA cs ws) (.lst (bs.map bo)) e a (ds++[d]) (.aw (iQ d.1 (.to e)))))
   |o=>.ok (.dG (.tup [.lst ((ds++[d]).map bB),iQ d.1 o])):=by
 have fa:aG (bB d) (.int 0)=.ok (.int (d.1:Int)):=rfl;have jb:d.1<bs.length:=by rw[hb.l];exact hd
 have eg:bs.getD d.1 []=bs[d.1]:=by simp[jb]
 have px:aG (.lst (bs.map bo)) (.int (d.1:Int))=.ok (bo (bs.getD d.1 [])):=by rw[eg];exact mB (by simp[jb])
 have on:=TA (cs:=cs) (ws:=ws) (b:=bs.getD d.1 []) (fun r hr=>hb.p bs[d.1] (List.getElem_mem _) r (by rw[←eg];exact hr)) d.1 d.2 a ha;have Aq:mL [bA cs ws,bo (bs.getD d.1 []),bB d,.int (a:Int)]=.ok (.v (iQ d.1 (kd ws bs a d))):=on;have q4:(ds.map bB).length<1000000:=by simp;omega
 generalize bs.getD d.1 []=r_ at*;generalize kd ws bs a d=o at*;simp only[t6,mc];cases o with
 |drop=>have cP:aG (iQ d.1 .drop) (.int 0)=.ok (st "drop"):=rfl;have n:=Hr "drop" (by decide);simp(disch:=first|omega|(simp;done)|(simp;omega)) [fa,px,Aq,cP,n]
 |out o=>have cP:aG (iQ d.1 (.out o)) (.int 0)=.ok (st "out"):=rfl;have n:=Hr "out" (by decide);simp(disch:=first|omega|(simp;done)|(simp;omega)) [fa,px,Aq,cP,n]
 |to e=>have cP:aG (iQ d.1 (.to e)) (.int 0)=.ok (st "at"):=rfl;have ak:aG (iQ d.1 (.to e)) (.int 1)=.ok (.int (e.1:Int)):=rfl;have ay:aG (iQ d.1 (.to e)) (.int 2)=.ok (.int (e.2:Int)):=rfl;have n:cW false (st "at") (.str (PySem.Str.ofString "at"))=.ok (.au false):=rfl;simp(disch:=first|omega|(simp;done)|(simp;omega)) [fa,px,Aq,cP,ak,ay,n];rfl
theorem Kn{cs:List Nat}{ws:List (aA×aA)}{bs:List (List dD)}(c9:hV cs ws)(hb:m9 cs bs){a:Nat}(ha:a<16):∀(n:Nat)(ds:List aA)(d:aA)(s5:dc)(r:List aA×oH),d.1<cs.length→ds.length+n<1001→walk (kd ws bs a) n ds d=some r→
  (mZ xu t6 n (mc (bA cs ws) (.lst (bs.map bo)) d a ds s5)).bind (ki xv)=.ok (.dG (p1 r))
 |0,ds,d,s5,r,_,_,h=>by simp[walk]at h
 |n+1,ds,d,s5,r,hd,hl,h=>by
  simp only[walk]at h;by_cases hm:d∈ds
  ·rw[if_pos hm]at h;obtain rfl:=Option.some.inj h;rw[mZ,Km,dU,decide_eq_true hm];have i:=QC (m1:=J 2) (m2:=J 4) (ρ:=ea (mc (bA cs ws) (.lst (bs.map bo)) d a ds s5)) (ds:=ds) (d:=d) rfl rfl hm (by omega);have v4:J 4 (ea (mc (bA cs ws) (.lst (bs.map bo)) d a ds s5))=.ok (.lst (ds.map bB)):=rfl;simp only[Bool.not_true,Bool.false_eq_true,if_false,dU,Je];simp only[xv,Ka,Yr,t4,ov,J8,i,v4,dU,tY,List.length_cons,List.length_nil];simp[p1,vk,st]
  ·rw[if_neg hm]at h;rw[mZ,Km,dU,decide_eq_false hm];have b:=YM (ws:=ws) hb hd ha ds (by omega) s5;simp only[Bool.not_false,if_true,b];cases e:kd ws bs a d with
   |drop=>rw[e]at h;obtain rfl:=Option.some.inj h;simp[p1,vk,iQ]
   |out o=>rw[e]at h;obtain rfl:=Option.some.inj h;simp[p1,vk,iQ]
   |to f=>
    rw[e]at h;simp only[dU];have hf:f∈ends ws:=by
     unfold kd bk at e
     split at e
     ·cases e
     ·split at e
      ·cases e
      ·split at e
       ·cases e
       ·rename_i d4;cases e;exact DA d4
    exact Kn c9 hb ha n (ds++[d]) f _ r (pQ.mp (c9.sub f hf)).1 (by simp;omega) h
theorem HB{cs:List Nat}{ws:List (aA×aA)}{bs:List (List dD)}{a:Nat}(c9:hV cs ws){d f:aA}(e:kd ws bs a d=.to f):f∈dg cs cs.length:=by
 unfold kd bk at e
 split at e
 ·cases e
 ·split at e
  ·cases e
  ·split at e
   ·cases e
   ·rename_i d4;cases e;exact c9.sub _ (DA d4)
theorem Kk{cs:List Nat}{ws:List (aA×aA)}{bs:List (List dD)}(c9:hV cs ws)(hb:m9 cs bs){a:Nat}(ha:a<16){d:aA}(hd:d∈dg cs cs.length):∃r,walk (kd ws bs a) 1000 [] d=some r∧tp [bA cs ws,.lst (bs.map bo),bB d,.int (a:Int)]=.ok (.v (p1 r)):=by have i_:=r5 c9.c cs.length;have h6:=c9.h6;obtain⟨r,hr⟩:=Kh (N:=kd ws bs a) (A:=dg cs cs.length) (by omega) (fun d _ e he=>HB c9 he) 1000 [] d List.nodup_nil (by simp) hd (by simp);refine⟨r,hr,?_⟩;have k:=Kn c9 hb ha 1000 [] d .un r (pQ.mp hd).1 (by simp) hr;have z:tp [bA cs ws,.lst (bs.map bo),bB d,.int (a:Int)]=(bf (gq 4 (cT av)) (bf (ta xu t6) xv) [.aw (bA cs ws),.aw (.lst (bs.map bo)),.aw (bB d),.aw (.int (a:Int)),.un,.un]).bind outD:=rfl;rw[z];simp only[rC,Yo,Cd,ov,dU];have RU:lim []=.ok []:=rfl;simp only[RU,dU];have aZ:(ta xu t6 (mc (bA cs ws) (.lst (bs.map bo)) d a [] .un)).bind (ki xv)=.ok (.dG (p1 r)):=k;have l2:([.aw (bA cs ws),.aw (.lst (bs.map bo)),.aw (bB d),.aw (.int (a:Int)),.un,.un]:aj).set 4 (.c6 [])=mc (bA cs ws) (.lst (bs.map bo)) d a [] .un:=rfl;simp only[show(4:Nat)<([.aw (bA cs ws),.aw (.lst (bs.map bo)),.aw (bB d),.aw (.int (a:Int)),.un,.un]:aj).length from(by simp),if_true,dU,Je,rC,l2,aZ];rfl
@[simp] theorem abM(sep:Str)(m:aO)(ρ:aj):v9 sep m ρ=(m ρ).bind (vW sep):=(rfl)
theorem QY(a b c d:Nat):vW (PySem.Str.ofString "") [.lst [e6 a,e6 b,e6 c,e6 d]]=.ok (.str ⟨#[a,b,c,d]⟩):=rfl
theorem wL(y:Int):∃c,yb c∧aG (.str (PySem.Str.ofString "01xxx")) (.int (y%5))=.ok (e6 c):=by
 have h:y%5=0∨y%5=1∨y%5=2∨y%5=3∨y%5=4:=by omega
 rcases h with h|h|h|h|h<;>rw[h]
 ·exact⟨48,.inl rfl,rfl⟩
 ·exact⟨49,.inr (.inl rfl),rfl⟩
 ·exact⟨120,.inr (.inr rfl),rfl⟩
 ·exact⟨120,.inr (.inr rfl),rfl⟩
 ·exact⟨120,.inr (.inr rfl),rfl⟩
theorem VC(ys:List Int)(bJ:ys.length=8)(c:Nat)(hc:1≤c):∃r,kB c r∧pO [.lst (ys.map D.int),.int (c:Int)]=.ok (.v (eW r)):=by
 suffices h:Ends (pO [.lst (ys.map D.int),.int (c:Int)]) fun b=>∃r,kB c r∧b=.v (eW r)by
  obtain⟨b,e,r,h,rfl⟩:=h;exact⟨r,h,e⟩
 match ys,bJ with
 |[oB,fs,gJ,iw,jj,lZ,l0,l1],_=>
 obtain⟨mq,h0,cP⟩:=wL oB;obtain⟨bu,h1,ak⟩:=wL fs;obtain⟨c5,h2,ay⟩:=wL gJ;obtain⟨eM,h3,b4⟩:=wL iw;have lQ:mS [.int 4]=.ok (fZ 0 4):=rfl
 let kE:Nat→Nat:=fun k=>if k=0 then mq else if k=1 then bu else if k=2 then c5 else eM
 have vV:∀k:Nat,k<4→∃y,aG (.lst (([oB,fs,gJ,iw,jj,lZ,l0,l1]:List Int).map D.int)) (.int (k:Int))=.ok (.int y)∧aG (.str (PySem.Str.ofString "01xxx")) (.int (y%5))=.ok (e6 (kE k)):=fun k hk=>by
  have:k=0∨k=1∨k=2∨k=3:=by omega
  rcases this with rfl|rfl|rfl|rfl
  ·exact⟨oB,rfl,cP⟩
  ·exact⟨fs,rfl,ak⟩
  ·exact⟨gJ,rfl,ay⟩
  ·exact⟨iw,rfl,b4⟩
 have F_:aG (.lst (([oB,fs,gJ,iw,jj,lZ,l0,l1]:List Int).map D.int)) (.int 4)=.ok (.int jj):=rfl;have Ga:aG (.lst (([oB,fs,gJ,iw,jj,lZ,l0,l1]:List Int).map D.int)) (.int 5)=.ok (.int lZ):=rfl;have Gb:aG (.lst (([oB,fs,gJ,iw,jj,lZ,l0,l1]:List Int).map D.int)) (.int 6)=.ok (.int l0):=rfl;have Gd:aG (.lst (([oB,fs,gJ,iw,jj,lZ,l0,l1]:List Int).map D.int)) (.int 7)=.ok (.int l1):=rfl;generalize([oB,fs,gJ,iw,jj,lZ,l0,l1]:List Int).map D.int=Y at vV F_ Ga Gb Gd ⊢;simp[pO,yK];refine pd 4 (fun k=>e6 (kE k)) (by simp[lQ]) (by omega) (fun k hk=>?_) ?_
 ·obtain⟨y,aM,a_⟩:=vV k hk;simp[aM,a_]
 have cZ:(List.range 4).map (fun k=>e6 (kE k))=[e6 mq,e6 bu,e6 c5,e6 eM]:=rfl;rw[cZ];obtain⟨aM,Pm,eq1⟩:=jF lZ (n:=c) (by omega);obtain⟨a_,Pn,eq2⟩:=jF l1 (n:=c) (by omega);have fB:∃o:Option Nat,(∀k,o=some k→k<c)∧aG (.lst [.non,.non,.non,.int (aM:Int)]) (.int (jj%4))=.ok (ej o):=by
  have h:jj%4=0∨jj%4=1∨jj%4=2∨jj%4=3:=by omega
  rcases h with h|h|h|h<;>rw[h]
  ·exact⟨none,(fun _ z=>nomatch z),rfl⟩
  ·exact⟨none,(fun _ z=>nomatch z),rfl⟩
  ·exact⟨none,(fun _ z=>nomatch z),rfl⟩
  ·exact⟨some aM,(fun k z=>by cases z;exact Pm),rfl⟩
 have f5:∃o:Option Nat,(∀k,o=some k→k<c)∧aG (.lst [.int (a_:Int),.non]) (.int (l0%7/6))=.ok (ej o):=by
  have h:l0%7/6=0∨l0%7/6=1:=by omega
  rcases h with h|h<;>rw[h]
  ·exact⟨some a_,(fun k z=>by cases z;exact Pn),rfl⟩
  ·exact⟨none,(fun _ z=>nomatch z),rfl⟩
 obtain⟨cB,g1,a9⟩:=fB;obtain⟨b9,g2,aZ⟩:=f5;simp(disch:=first|omega|(simp;done)|(simp;omega)) [QY,F_,Ga,Gb,Gd,eq1,eq2,a9,aZ];refine⟨⟨⟨#[mq,bu,c5,eM]⟩,cB,b9⟩,⟨⟨rfl,fun d hd=>?_⟩,g1,g2⟩,rfl⟩;have hd:d∈[mq,bu,c5,eM]:=hd;simp at hd;rcases hd with rfl|rfl|rfl|rfl<;>assumption
theorem vh{ys:List Int}{k:Nat}(h:k<ys.length):aG (.lst (ys.map D.int)) (.int (k:Int))=.ok (.int ys[k]):=mB (by simp[h])
theorem Mi{α:Type}(xs:List α)(a b:Nat):d9 xs (some (a:Int)) (some (b:Int))=(xs.drop (min a xs.length)).take (min b xs.length-min a xs.length):=by unfold d9;rw[dI.wW,dI.wW]
theorem KS{c q:Nat}(aK:q<c):kB c ⟨PySem.Str.ofString "xxxx",none,some q⟩:=⟨⟨show(PySem.Str.ofString "xxxx").cps.toList.length=4 by decide,fun d hd=>by have:d∈[120,120,120,120]:=hd;simp at this;exact .inr (.inr this)⟩,(fun _ z=>nomatch z),(fun k z=>by cases z;exact aK)⟩
theorem LQ(cell:Int)(c:Nat)(hc:1≤c):∃b,qf c b∧pN [.int cell,.int (c:Int)]=.ok (.v (bo b)):=by
 suffices h:Ends (pN [.int cell,.int (c:Int)]) fun x=>∃b,qf c b∧x=.v (bo b)by
  obtain⟨b,e,r,h,rfl⟩:=h;exact⟨r,h,e⟩
 obtain⟨ys,hl,dy⟩:=yZ cell 104 (by decide);have y4:mK [.int cell,.int 104]=.ok (.o (ys.map D.int)):=dy;have eh:aG (.lst (ys.map D.int)) (.int 0)=.ok (.int ys[0]):=vh (k:=0) (by omega);have a1:aG (.lst (ys.map D.int)) (.int 1)=.ok (.int ys[1]):=vh (k:=1) (by omega);have a2:aG (.lst (ys.map D.int)) (.int 2)=.ok (.int ys[2]):=vh (k:=2) (by omega);have fg:aG (.lst (ys.map D.int)) (.int 3)=.ok (.int ys[3]):=vh (k:=3) (by omega);generalize ys[0]=rJ at eh;generalize ys[1]=a9 at a1;generalize ys[2]=aZ at a2;generalize ys[3]=l2 at fg;have x:∃m:Nat,m≤12∧aG (.lst [.int (rJ%5),.int (rJ%13)]) (.int (a9%4/3))=.ok (.int (m:Int)):=by
  have h:a9%4/3=0∨a9%4/3=1:=by omega
  rcases h with h|h<;>rw[h]
  ·obtain⟨m,hm,em⟩:=jF rJ (n:=5) (by decide);have si:rJ%5=(m:Int):=em;exact⟨m,by omega,by rw[si];rfl⟩
  ·obtain⟨m,hm,em⟩:=jF rJ (n:=13) (by decide);have si:rJ%13=(m:Int):=em;exact⟨m,by omega,by rw[si];rfl⟩
 obtain⟨m,hm,em⟩:=x;have kR:∀k:Nat,∃r,kB c r∧(k<12→pO [.lst (d9 (ys.map D.int) (some (4+8*(k:Int))) (some (12+8*(k:Int)))),.int (c:Int)]=.ok (.v (eW r))):=fun k=>by
  by_cases hk:k<12
  ·have ak:d9 (ys.map D.int) (some (4+8*(k:Int))) (some (12+8*(k:Int)))=(d9 ys (some ((4+8*k:Nat):Int)) (some ((12+8*k:Nat):Int))).map D.int:=by
     rw[←qG];simp
   obtain⟨r,h1,h2⟩:=VC (d9 ys (some ((4+8*k:Nat):Int)) (some ((12+8*k:Nat):Int))) (by rw[Mi];simp;omega) c hc;exact⟨r,h1,fun _=>by rw[ak];exact h2⟩
  ·exact⟨_,KS (q:=0) (by omega),fun z=>absurd z hk⟩
 let od:Nat→dD:=fun k=>(kR k).choose
 have Vv:∀k,kB c (od k):=fun k=>(kR k).choose_spec.1;have Vw:∀k:Nat,k<12→pO [.lst (d9 (ys.map D.int) (some (4+8*(k:Int))) (some (12+8*(k:Int)))),.int (c:Int)]=.ok (.v (eW (od k))):=fun k=>(kR k).choose_spec.2;simp(disch:=first|omega|(simp;done)|(simp;omega)) [pN,yE,y4,eh,a1,em];refine pd m (fun k=>eW (od k)) (by simp[show m<1000000 by omega]) (by omega) (fun k hk=>?_) ?_
 ·have q:=Vw k (by omega);simp(disch:=first|omega|(simp;done)|(simp;omega)) [q]
 ·have a7:(List.range m).map (fun k=>eW (od k))=((List.range m).map od).map eW:=by simp
  rw[a7];have ei:∀r∈(List.range m).map od,kB c r:=fun r hr=>by obtain⟨k,_,rfl⟩:=List.mem_map.mp hr;exact Vv k
  have au:((List.range m).map od).length=m:=by simp
  generalize(List.range m).map od=b at ei au;obtain⟨q,aK,eq⟩:=jF l2 (n:=c) (by omega);have LX:d9 (b.map eW) none (some 11)=(b.take 11).map eW:=by rw[qG];congr 1;exact vc b 11
  simp(disch:=first|omega|(simp;done)|(simp;omega)) [a2,fg,eq];by_cases t:0<aZ%3
  ·rw[if_pos t,LX];simp(disch:=first|omega|(simp;done)|(simp;omega)) [-List.map_take];refine⟨b.take 11++[⟨PySem.Str.ofString "xxxx",none,some q⟩],⟨by simp;omega,fun r hr=>?_⟩,?_⟩
   ·rcases List.mem_append.mp hr with hr|hr
    ·exact ei r (List.mem_of_mem_take hr)
    ·rw[List.mem_singleton.mp hr];exact KS aK
   ·simp[bo,eW,ej]
  ·rw[if_neg t];simp;exact⟨b,⟨by omega,ei⟩,rfl⟩
theorem DL(ns:List Int)(st:Nat)(hst:st<100)(cs:List Nat)(h6:cs.length≤6)(kD:∀c∈cs,1≤c∧c≤4):∃bs,ks cs bs∧n5 [.cx (ns.map D.int),.int (st:Int),.lst (b_ cs)]=.ok (.o (bs.map bo)):=by
 suffices h:Ends (n5 [.cx (ns.map D.int),.int (st:Int),.lst (b_ cs)]) fun x=>∃bs,ks cs bs∧x=.o (bs.map bo)by
  obtain⟨b,e,r,h,rfl⟩:=h;exact⟨r,h,e⟩
 have r_:∀p:Nat×Nat,∃b,(p∈cs.zipIdx→qf p.1 b)∧(p∈cs.zipIdx→∃cl:Int,mJ [.cx (ns.map D.int),.int ((st:Int)+(p.2:Int))]=.ok (.v (.int cl))∧pN [.int cl,.int (p.1:Int)]=.ok (.v (bo b))):=fun p=>by
  by_cases hp:p∈cs.zipIdx
  ·have hm:p.1∈cs:=List.mem_of_getElem? (xG hp);obtain⟨cl,Nz⟩:=DS ns (st+p.2);obtain⟨b,h1,h2⟩:=LQ cl p.1 (kD _ hm).1;exact⟨b,fun _=>h1,fun _=>⟨cl,by rw[←Nz];simp,h2⟩⟩
  ·exact⟨[],fun z=>absurd z hp,fun z=>absurd z hp⟩
 let u1:Nat×Nat→List dD:=fun p=>(r_ p).choose
 have LH:∀p∈cs.zipIdx,qf p.1 (u1 p):=fun p=>(r_ p).choose_spec.1;have LI:∀p∈cs.zipIdx,∃cl:Int,mJ [.cx (ns.map D.int),.int ((st:Int)+(p.2:Int))]=.ok (.v (.int cl))∧pN [.int cl,.int (p.1:Int)]=.ok (.v (bo (u1 p))):=fun p=>(r_ p).choose_spec.2;simp[n5,yF];have lz:pe [.lst (b_ cs)]=.ok (cs.zipIdx.map fun p=>.tup [.int (p.2:Int),.int (p.1:Int)]):=y8 (fun c:Nat=>D.int (c:Int)) cs;refine vl (fun p:Nat×Nat=>.int (p.2:Int)) (fun p=>.int (p.1:Int)) cs.zipIdx (fun p=>bo (u1 p)) (by simp only[Cc,t4,v_var,ov];simp[lz]) (by simp;omega) (fun p hp=>?_) ?_
 ·obtain⟨cl,ak,ay⟩:=LI p hp;simp[ak,ay]
 ·simp;refine⟨cs.zipIdx.map u1,⟨by simp,fun i b e=>?_⟩,by simp⟩;rw[List.getElem?_map,List.getElem?_zipIdx]at e;cases ec:cs[i]? with
  |none=>rw[ec]at e;cases e
  |some c=>
   rw[ec]at e;simp at e;subst e;have:(c,i)∈cs.zipIdx:=by rw[List.mem_iff_getElem?];exact⟨i,by rw[List.getElem?_zipIdx,ec];simp⟩
   have k:=LH _ this;rw[List.getD_eq_getElem?_getD,ec];exact k
deriving instance DecidableEq for bS
def outs(cs:List Nat)(ws:List (aA×aA))(n:Nat):List aA:=(dg cs n).filter fun d=>!decide (d∈ends ws)
theorem TV(cs:List Nat)(ws:List (aA×aA))(n:Nat):outs cs ws (n+1)=outs cs ws n++(gQ cs n).filter (fun d=>!decide (d∈ends ws)):=by unfold outs;rw[uL,List.filter_append]
theorem TU{cs:List Nat}(ws:List (aA×aA))(h:∀c∈cs,1≤c∧c≤4)(n:Nat):(outs cs ws n).length≤4*n:=Nat.le_trans (List.length_filter_le _ _) (r5 h n)
theorem My(ws:List (aA×aA))(d:aA):e9 false (bB d) (.bI (dE ws) (dV ws))=.ok (.au (!decide (d∈ends ws))):=by simp only[e9,q0,ks_any];rfl
theorem TS{cs:List Nat}{ws:List (aA×aA)}(c9:hV cs ws):td [bA cs ws]=.ok (.o ((outs cs ws cs.length).map bB)):=by
 apply Ends.done;have h6:=c9.h6;have qK:d_ "Net" "far" (bA cs ws)=.ok (.bI (dE ws) (dV ws)):=rfl;have N4:d_ "Net" "counts" (bA cs ws)=.ok (.tup (b_ cs)):=rfl;simp(disch:=first|omega|(simp;done)|(simp;omega)) [td,yo];refine sj cs.length (fun j ρ=>∃s2 s3,ρ=[.aw (bA cs ws),.c6 ((outs cs ws j).map bB),s2,s3]) (by simp(disch:=first|omega|(simp;done)|(simp;omega)) [pP]) ⟨.un,.un,by simp[outs,dg]⟩ ?_ ?_
 ·rintro j _ cv ⟨s2,s3,rfl⟩;have v7:=zt (fun c h=>(c9.c c h).2) j;have b4:aG (.tup (b_ cs)) (.int (j:Int))=.ok (.int (cs.getD j 0:Nat)):=zY (vb cv);have lo:=TU ws c9.c j;simp only[List.getD_eq_getElem?_getD]at b4 v7;simp;have z:=sj (β:=e7) (set:=bN 3) (body:=cL (bc (ao (e9 false) (cE (ae (J 2) (ae (J 3) (av)))) (cq (d_ "Net" "far") (J 0)))) (jg 1 (cE (ae (J 2) (ae (J 3) (av))))) (cU)) (mi:=fY (ae (ao aG (cq (d_ "Net" "counts") (J 0)) (J 2)) (av))) (ρ:=[.aw (bA cs ws),.c6 ((outs cs ws j).map bB),.aw (.int (j:Int)),s3]) (k:=fun f=>.ok f) (T:=rW fun ρ=>∃s3,ρ=[.aw (bA cs ws),.c6 ((outs cs ws (j+1)).map bB),.aw (.int (j:Int)),s3]) (cs[j]?.getD 0) (fun k ρ=>∃s3,ρ=[.aw (bA cs ws),.c6 ((outs cs ws j++((gQ cs j).take k).filter (fun d=>!decide (d∈ends ws))).map bB),.aw (.int (j:Int)),s3]) (by simp[N4,b4,show cs[j]?.getD 0<1000000 by omega]) ⟨s3,by simp⟩ ?_ ?_
  ·obtain⟨f,ly,bh,rfl,VH,rfl⟩:=z;have NB:eE (fY (ae (ao aG (cq (d_ "Net" "counts") (J 0)) (J 2)) (av))) (bN 3) (cL (bc (ao (e9 false) (cE (ae (J 2) (ae (J 3) (av)))) (cq (d_ "Net" "far") (J 0)))) (jg 1 (cE (ae (J 2) (ae (J 3) (av))))) (cU)) [.aw (bA cs ws),.c6 ((outs cs ws j).map bB),.aw (.int (j:Int)),s3]=.ok (.bk [.aw (bA cs ws),.c6 ((outs cs ws (j+1)).map bB),.aw (.int (j:Int)),VH]):=by
    rw[←ly];cases eE (fY (ae (ao aG (cq (d_ "Net" "counts") (J 0)) (J 2)) (av))) (bN 3) (cL (bc (ao (e9 false) (cE (ae (J 2) (ae (J 3) (av)))) (cq (d_ "Net" "far") (J 0)))) (jg 1 (cE (ae (J 2) (ae (J 3) (av))))) (cU)) [.aw (bA cs ws),.c6 ((outs cs ws j).map bB),.aw (.int (j:Int)),s3]<;>rfl
   rw[NB];simp
  ·rintro k _ hk ⟨s3,rfl⟩;have jw:k<(gQ cs j).length:=by simp[gQ,List.getD_eq_getElem?_getD];exact hk
   have dy:(gQ cs j)[k]=(j,k):=by simp[gQ]
   have dd:e9 false (.tup [.int (j:Int),.int (k:Int)]) (.bI (dE ws) (dV ws))=.ok (.au (!decide ((j,k)∈ends ws))):=My ws (j,k);have q4:(((gQ cs j).take k).filter (fun d=>!decide (d∈ends ws))).length≤4:=Nat.le_trans (List.length_filter_le _ _) (Nat.le_trans (List.length_take_le' _ _) (Ei c9.c j));rw[List.take_add_one,List.getElem?_eq_getElem jw,dy,Option.toList_some,List.filter_append];by_cases hm:(j,k)∈ends ws
   ·simp[qK,dd,hm]
   ·simp(disch:=first|omega|(simp;done)|(simp;omega)) [qK,dd,hm];rfl
  ·rintro _ ⟨s3,rfl⟩;have:(gQ cs j).take (cs[j]?.getD 0)=gQ cs j:=List.take_of_length_le (by simp[gQ,List.getD_eq_getElem?_getD]);rw[this,←TV];simp
 ·rintro _ ⟨s2,s3,rfl⟩;simp
theorem Lo:wd [.str (PySem.Str.ofString "xxxx")]=.ok (.o ((List.range 16).map fun(a:Nat)=>D.int (a:Int))):=by rfl
def nM:bS→Bool
 |.eP _=>true
 |_=>false
def Ok(n:Nat)(ps:List bS):Prop:=∀s∈ps,s.ok n
theorem YJ{a b:Nat}(ha:a<3)(hb:b<3):(gw a==gw b)=decide (a=b):=by
 have h1:a=0∨a=1∨a=2:=by omega
 have h2:b=0∨b=1∨b=2:=by omega
 rcases h1 with rfl|rfl|rfl<;>rcases h2 with rfl|rfl|rfl<;>decide
theorem zc{n:Nat}{s:bS}(hs:s.ok n){w h:Nat}(hw:w<3):bp (bE s) (bE (.ac w h))=decide (s=.ac w h):=by
 cases s with
 |eP k=>have q:decide (bS.eP k=.ac w h)=false:=decide_eq_false (fun z=>nomatch z);rw[q];cases k<;>simp[bE,bp,dS,hy]
 |ac eY h'=>
  have:bp (bE (.ac eY h')) (bE (.ac w h))=((gw eY==gw w)&&(((h':Int)==(h:Int))&&true)):=by simp[bE,bp,dS]
  rw[this,YJ hs.1 hw,Bool.eq_iff_iff];simp;omega
theorem NP(s:bS):bp (bE s) hy=nM s:=by
 cases s with
 |eP k=>cases k<;>rfl
 |ac w h=>simp[bE,bp,dS,hy,nM]
theorem Ao(ps:List bS):(ps.map bE).all (okN 7)=true:=by
 rw[List.all_map,List.all_eq_true];intro s _;cases s with
 |eP k=>cases k<;>rfl
 |ac w h=>rfl
theorem HC(s:bS):okN 7 (bE s)=true:=by
 cases s with
 |eP k=>cases k<;>rfl
 |ac w h=>rfl
theorem Dg{n:Nat}:∀{ps:List bS},Ok n ps→∀{w h:Nat},w<3→((ps.map bE).any fun y=>bp y (bE (.ac w h)))=decide (.ac w h∈ps)
 |[],_,w,h,_=>by simp
 |s::ps,hp,w,h,hw=>by have bW:=Dg (ps:=ps) (fun x hx=>hp x (List.mem_cons_of_mem _ hx)) (h:=h) hw;rw[List.map_cons,List.any_cons,bW,zc (hp s List.mem_cons_self) hw,Bool.eq_iff_iff,Bool.or_eq_true,decide_eq_true_iff,decide_eq_true_iff,decide_eq_true_iff,List.mem_cons];exact⟨fun q=>q.imp Eq.symm id,fun q=>q.imp Eq.symm id⟩
theorem Gw{n:Nat}{ps:List bS}(hp:Ok n ps){w h:Nat}(hw:w<3)(b:Bool):inD b (bE (.ac w h)) (.lst (ps.map bE))=.ok (.au (if b then decide (.ac w h∈ps)else !decide (.ac w h∈ps))):=by have s:oh (.lst (ps.map bE))=some (ps.map bE):=rfl;simp only[inD,s,Ao,HC,and_self,if_true,Dg hp hw]
theorem QA(ps:List bS):inD true hy (.lst (ps.map bE))=.ok (.au (ps.any nM)):=by
 have s:oh (.lst (ps.map bE))=some (ps.map bE):=rfl;have o:okN 7 hy=true:=rfl;have e:((ps.map bE).any fun y=>bp y hy)=ps.any nM:=by
  rw[List.any_map]
  congr 1
  funext x
  exact NP x
 simp only[inD,s,Ao,o,and_self,if_true,e]
def jz(ps:List bS)(s:bS):Nat:=ps.findIdx fun x=>decide (x=s)
theorem QB{n:Nat}{ps:List bS}(hp:Ok n ps){w h:Nat}(hw:w<3)(hl:ps.length<1000)(hm: .ac w h∈ps):qV (.lst (ps.map bE)) [bE (.ac w h)]=.ok (.int (jz ps (.ac w h):Nat)):=by
 have f:(ps.map bE).findIdx? (fun z=>bp z (bE (.ac w h)))=some (jz ps (.ac w h)):=by
  rw[List.findIdx?_map];have:∀(ps:List bS),Ok n ps→.ac w h∈ps→ps.findIdx? ((fun z=>bp z (bE (.ac w h)))∘bE)=some (jz ps (.ac w h)):=by
   intro ps;induction ps with
   |nil=>intro _ hm;simp at hm
   |cons s ps bW=>
    intro hp hm;rw[List.findIdx?_cons];simp only[Function.comp,jz,List.findIdx_cons,zc (hp s List.mem_cons_self) hw];by_cases q:s=.ac w h
    ·simp[q]
    ·have O7: .ac w h∈ps:=by
       rcases List.mem_cons.mp hm with z|z
       ·exact absurd z.symm q
       ·exact z
     have k:=bW (fun x hx=>hp x (List.mem_cons_of_mem _ hx)) O7;simp only[Function.comp,jz]at k;simp[q,k]
  exact this ps hp hm
 have l:(ps.map bE).length<1000000:=by rw[List.length_map];omega
 simp only[qV,Ao,HC,l,and_self,if_true,f]
def rD(ps:List bS)(h:Nat):Bool:=decide (.ac 1 h∈ps)&&(ps.drop (jz ps (.ac 1 h))).any nM
theorem YG{n:Nat}{ps:List bS}(hp:Ok n ps)(hl:ps.length<1000)(h:Nat):tj [.lst (ps.map bE),.int (h:Int)]=.ok (.v (.au (rD ps h))):=by
 have e:(D.tup [.str (PySem.Str.ofString "turn"),.int (h:Int)])=bE (.ac 1 h):=rfl;have bK:=Gw hp (w:=1) (h:=h) (by decide) true;simp only[if_true]at bK;unfold rD;by_cases hm: .ac 1 h∈ps
 ·have vV:=QB hp (w:=1) (h:=h) (by decide) hl hm;have cw:ip (.lst (ps.map bE)) (some (jz ps (.ac 1 h):Int)) none=.ok (.lst ((ps.drop (jz ps (.ac 1 h))).map bE)):=by
   rw[BM,qG,yU]
  have QT:=QA (ps.drop (jz ps (.ac 1 h)));rw[BM]at cw;rw[decide_eq_true hm]at bK ⊢;simp only[tj,t5,uW];simp[e,bK,vV];rw[show d9 (ps.map bE) (some (jz ps (.ac 1 h):Int)) none=(ps.drop (jz ps (.ac 1 h))).map bE from by rw[qG,yU],QT];simp
 ·rw[decide_eq_false hm]at bK ⊢;simp[tj,uW,e,bK]
def rB(ps:List bS)(ds:List aA):Option Nat:=(ds.find? fun d=>!decide (.ac 0 d.1∈ps)).map (·.1)
theorem J5{n:Nat}{ps:List bS}(hp:Ok n ps):∀(ds:List aA)(s1 s2:dc),
  (fT (bN 2) (cL (bc (ao (inD false) (cE (ae (ai (.str (PySem.Str.ofString "teach"))) (ae (ao aG (J 2) (ai (.int 0))) (av)))) (J 0))) (b6 (ao aG (J 2) (ai (.int 0)))) (cU)) (ds.map bB) [.aw (.lst (ps.map bE)),s1,s2]).bind (ki (b6 (ai .non)))=.ok (.dG (ej (rB ps ds)))
 |[],s1,s2=>by simp[rB,ej]
 |d::ds,s1,s2=>by
  have bW:=J5 hp ds s1 (.aw (bB d));have fa:aG (bB d) (.int 0)=.ok (.int (d.1:Int)):=rfl;have e:(D.tup [.str (PySem.Str.ofString "teach"),.int (d.1:Int)])=bE (.ac 0 d.1):=rfl;have bK:=Gw hp (w:=0) (h:=d.1) (by decide) false;simp only[Bool.false_eq_true,if_false]at bK;unfold rB;rw[List.map_cons,fT,List.find?_cons];by_cases hm: .ac 0 d.1∈ps
  ·rw[decide_eq_true hm]at bK;simp[fa,e,bK,hm];exact bW
  ·rw[decide_eq_false hm]at bK;simp[fa,e,bK,hm,ej]
theorem Yc{n:Nat}{ps:List bS}(hp:Ok n ps)(ds:List aA):tg [.lst (ps.map bE),.lst (ds.map bB)]=.ok (.v (ej (rB ps ds))):=by
 have k:=J5 hp ds (.aw (.lst (ds.map bB))) .un;have z:tg [.lst (ps.map bE),.lst (ds.map bB)]=((fT (bN 2) (cL (bc (ao (inD false) (cE (ae (ai (.str (PySem.Str.ofString "teach"))) (ae (ao aG (J 2) (ai (.int 0))) (av)))) (J 0))) (b6 (ao aG (J 2) (ai (.int 0)))) (cU)) (ds.map bB) [.aw (.lst (ps.map bE)),.aw (.lst (ds.map bB)),.un]).bind (ki (b6 (ai .non)))).bind outD:=by simp only[tg,t5,yt,rC,Ca,J_];rfl
 rw[z,k];rfl
noncomputable def ow(ws:List (aA×aA))(bs:List (List dD))(a:Nat)(d:aA):List aA:=match walk (kd ws bs a) 1000 [] d with
 |some r=>r.1
 |none=>[]
noncomputable def hf(ws:List (aA×aA))(old new:List (List dD))(ps:List bS)(p:Nat)(d:aA)(a:Nat):Option Nat:=match ps[p]? with
 |some (.ac 1 h)=>if h=d.1 then rB (ps.take p) (ow ws new a d)else none
 |some (.ac 2 h)=>if rD (ps.take p) d.1=true then none else if h∈(ow ws old a d).map (·.1)then some h else none
 |_=>none
theorem Ki{N:aA→On}:∀(n:Nat)(ds:List aA)(d:aA)(r:List aA×oH),walk N n ds d=some r→r.1.length≤ds.length+n
 |0,ds,d,r,h=>by simp[walk]at h
 |n+1,ds,d,r,h=>by
  simp only[walk]at h
  split at h
  ·cases h;simp
  ·split at h
   ·have:=Ki n _ _ r h;simp at this;omega
   ·cases h;simp
   ·cases h;simp
theorem Qz(h:Nat)(l:List Nat):inD true (.int (h:Int)) (.lst (l.map fun(x:Nat)=>D.int (x:Int)))=.ok (.au (decide (h∈l))):=by
 have s:oh (.lst (l.map fun(x:Nat)=>D.int (x:Int)))=some (l.map fun(x:Nat)=>D.int (x:Int)):=rfl;have o:okN 7 (.int (h:Int))=true:=rfl;have b9:(l.map fun(x:Nat)=>D.int (x:Int)).all (okN 7)=true:=by rw[List.all_map,List.all_eq_true];intro x _;rfl
 have e:((l.map fun(x:Nat)=>D.int (x:Int)).any fun y=>bp y (.int (h:Int)))=decide (h∈l):=by
  rw[List.any_map,Bool.eq_iff_iff,List.any_eq_true,decide_eq_true_iff];constructor
  ·rintro⟨x,hx,q⟩;have q:((x:Int)==(h:Int))=true:=by simpa[bp]using q
   rw[beq_iff_eq]at q;have:x=h:=by omega
   rw[←this];exact hx
  ·intro hx;exact⟨h,hx,by simp[bp]⟩
 simp only[inD,s,o,b9,and_self,if_true,e]
theorem ON{cs:List Nat}{ws:List (aA×aA)}{old new:List (List dD)}(c9:hV cs ws)(ho:m9 cs old)(aE:m9 cs new){ps:List bS}(hp:Ok cs.length ps)(hl:ps.length<1000){p:Nat}(hpl:p<ps.length){d:aA}(hd:d∈dg cs cs.length){a:Nat}(ha:a<16) :
  lK [bA cs ws,.lst (old.map bo),.lst (new.map bo),.lst (ps.map bE),.int (p:Int),bB d,.int (a:Int)]=.ok (.v (ej (hf ws old new ps p d a))):=by
 apply Ends.done;obtain⟨ar,jM,ak⟩:=Kk c9 aE ha hd;obtain⟨a5,iu,ay⟩:=Kk c9 ho ha hd;have d1:ow ws new a d=ar.1:=by unfold ow;rw[jM]
 have cn:ow ws old a d=a5.1:=by unfold ow;rw[iu]
 have fa:aG (bB d) (.int 0)=.ok (.int (d.1:Int)):=rfl;have nL:aG (.lst (ps.map bE)) (.int (p:Int))=.ok (bE ps[p]):=mB (by simp[hpl]);have ck:d9 (ps.map bE) none (some (p:Int))=(ps.take p).map bE:=by rw[qG,vc]
 have HD:Ok cs.length (ps.take p):=fun s hs=>hp s (List.mem_of_mem_take hs);have hs:=hp ps[p] (List.getElem_mem _);have lA:(D.tup [.str (PySem.Str.ofString "turn"),.int (d.1:Int)])=bE (.ac 1 d.1):=rfl;have Tb:∀s:bS,okN 8 (bE s)=true:=fun s=>by
  cases s with
  |eP k=>cases k<;>rfl
  |ac w h=>rfl
 have ny:cW true (bE ps[p]) (bE (.ac 1 d.1))=.ok (.au (decide (ps[p]=.ac 1 d.1))):=by simp only[cW,Tb,and_self,if_true,zc hs (show 1<3 by decide)]
 have t2:=Yc HD ar.1;have p3:=YG HD (by simp;omega) d.1;have t0:∀r:List aA×oH,aG (p1 r) (.int 0)=.ok (.lst (r.1.map bB)):=fun _=>rfl;unfold hf;rw[List.getElem?_eq_getElem hpl,d1,cn];cases es:ps[p]with
 |eP k=>
  rw[es]at nL ny;have k0:aG (bE (.eP k)) (.int 0)=.ok (.str wS):=by cases k<;>rfl
  have nR:cW true (.str wS) (.str (PySem.Str.ofString "forget"))=.ok (.au false):=rfl;simp[lK,nj,nL,ck,fa,lA,ny,k0,nR,ej,-List.map_take]
 |ac w h=>
  rw[es]at nL ny hs;have hw:=hs.1;have Pz:w=0∨w=1∨w=2:=by omega
  have k0:aG (bE (.ac w h)) (.int 0)=.ok (.str (gw w)):=rfl;have k1:aG (bE (.ac w h)) (.int 1)=.ok (.int (h:Int)):=rfl;rcases Pz with rfl|rfl|rfl
  ·have nR:cW true (.str (gw 0)) (.str (PySem.Str.ofString "forget"))=.ok (.au false):=rfl;simp[lK,nj,nL,ck,fa,lA,ny,k0,nR,ej,-List.map_take]
  ·have nR:cW true (.str (gw 1)) (.str (PySem.Str.ofString "forget"))=.ok (.au false):=rfl;by_cases q:h=d.1
   ·subst q;simp[lK,nj,nL,ck,fa,lA,ny,ak,t0,t2,-List.map_take]
   ·have cV:¬(bS.ac 1 h=.ac 1 d.1):=fun z=>q (by cases z;rfl);simp[lK,nj,nL,ck,fa,lA,ny,q,k0,nR,ej,-List.map_take]
  ·have nR:cW true (.str (gw 2)) (.str (PySem.Str.ofString "forget"))=.ok (.au true):=rfl;cases F4:rD (ps.take p) d.1 with
   |true=>rw[F4]at p3;simp[lK,nj,nL,ck,fa,lA,ny,k0,nR,p3,ej,-List.map_take]
   |false=>
    rw[F4]at p3;simp[lK,nj,nL,ck,fa,lA,ny,k0,k1,nR,p3,-List.map_take];refine vl (fun e:aA=>.int (e.1:Int)) (fun e=>.int (e.2:Int)) a5.1 (fun e=>.int (e.1:Int)) (by simp[ay,t0];intros;rfl) ?_ (fun e _=>by simp) ?_
    ·have:=Ki 1000 [] d a5 iu;simpa using this
    ·have Gv:=Qz h (a5.1.map (·.1));rw[List.map_map]at Gv;have Qw:inD true (.int (h:Int)) (.lst (a5.1.map fun e=>D.int (e.1:Int)))=.ok (.au (decide (h∈a5.1.map (·.1)))):=Gv;simp only[Qw];by_cases hm:h∈a5.1.map (·.1)
     ·rw[decide_eq_true hm,if_pos hm];simp[ej]
     ·rw[decide_eq_false hm,if_neg hm];simp[ej]
@[simp] theorem abY(m:bY)(ρ:aj):rm m ρ=eU (m ρ):=(rfl)
@[simp] theorem abW(m:aO)(ρ:aj):lM m ρ=eU (m ρ):=(rfl)
@[simp] theorem abX(m:a0)(ρ:aj):pT m ρ=eU (m ρ):=(rfl)
@[simp] theorem S1{α:Type}(a:α):eU (R.ok a)=.ok a:=(rfl)
@[simp] theorem abC(m:az)(ρ:aj):mG m ρ=(m ρ).bind fun _=>.ok (.bk ρ):=(rfl)
structure oU(jl:Prop)(I:aj→Prop)(r:R e7):Prop where
 ex:(jl∧∃x,r=.ok (.dG x)∧gp x=false)∨(¬jl∧∃bh,r=.ok (.bk bh)∧I bh)
theorem Jf{α:Type}{set:D→aj→R aj}{body:a0}{I:aj→Prop}(g:α→D)(jl:α→Prop):∀(xs:List α)(ρ:aj),(∀a∈xs,∀ρ,I ρ→oU (jl a) I ((set (g a) ρ).bind body))→I ρ→oU (∃a∈xs,jl a) I (fT set body (xs.map g) ρ)
 |[],ρ,_,h=>⟨.inr ⟨by simp,ρ,rfl,h⟩⟩
 |a::xs,ρ,st,h=>by
  have s1:=st a List.mem_cons_self ρ h;rw[List.map_cons,fT];cases es:set (g a) ρ with
  |bad=>rw[es]at s1;rcases s1.ex with⟨_,x,z,_⟩|⟨_,x,z,_⟩<;>cases z
  |exc c=>rw[es]at s1;rcases s1.ex with⟨_,x,z,_⟩|⟨_,x,z,_⟩<;>cases z
  |ok dQ=>
   rw[es,dU]at s1;rw[dU];rcases s1.ex with⟨hb,x,e,hx⟩|⟨hb,bh,e,iI⟩
   ·rw[e,dU];exact⟨.inl ⟨⟨a,List.mem_cons_self,hb⟩,x,rfl,hx⟩⟩
   ·rw[e,dU];have bW:=Jf g jl xs bh (fun b ja=>st b (List.mem_cons_of_mem _ ja)) iI;rcases bW.ex with⟨⟨b,sD,vD⟩,z⟩|⟨aE,z⟩
    ·exact⟨.inl ⟨⟨b,List.mem_cons_of_mem _ sD,vD⟩,z⟩⟩
    ·refine⟨.inr ⟨?_,z⟩⟩;rintro⟨b,sD,vD⟩;rcases List.mem_cons.mp sD with rfl|sD
     ·exact hb vD
     ·exact aE ⟨b,sD,vD⟩
theorem BN{α:Type}{mi:aO}{set:D→aj→R aj}{body:a0}{I:aj→Prop}{ρ:aj}(g:α→D)(xs:List α)(jl:α→Prop)(hi:mi ρ=.ok (xs.map g))(st:∀a∈xs,∀ρ,I ρ→oU (jl a) I ((set (g a) ρ).bind body))(h:I ρ):oU (∃a∈xs,jl a) I (eE mi set body ρ):=by rw[Ca,hi,dU];exact Jf g jl xs ρ st h
theorem oU.mono{jl CI:Prop}{I hT:aj→Prop}{r:R e7}(h:oU jl I r)(hb:jl↔CI)(hi:∀ρ,I ρ→hT ρ):oU CI hT r:=by
 rcases h.ex with⟨a,b⟩|⟨a,ρ,b,c⟩
 ·exact⟨.inl ⟨hb.mp a,b⟩⟩
 ·exact⟨.inr ⟨fun z=>a (hb.mpr z),ρ,b,hi ρ c⟩⟩
noncomputable def xU(ws:List (aA×aA))(cs:List Nat)(old new:List (List dD))(ps:List bS):Prop:=∃p∈List.range ps.length,∃d∈outs cs ws cs.length,∃a∈List.range 16,hf ws old new ps p d a≠none
theorem WD(cs:List Nat)(ws:List (aA×aA)):og "Net" "outer" (bA cs ws)=.ok (bA cs ws):=rfl
theorem G4{cs:List Nat}{ws:List (aA×aA)}{old new:List (List dD)}(c9:hV cs ws)(ho:m9 cs old)(aE:m9 cs new){ps:List bS}(hp:Ok cs.length ps)(hl:ps.length<1000) :
  ∃x,rk [bA cs ws,.lst (old.map bo),.lst (new.map bo),.lst (ps.map bE)]=.ok (.v x)∧(gp x=false↔xU ws cs old new ps):=by
 have S:=BN (mi:=fY (ae (cN dJ (ae (J 3) (av))) (av))) (set:=bN 4) (body:=eE (fX (jE "Net" "outer" 0 td (J 0) (av))) (bN 5) (eE (fX (b5 (iL 1 wd (ae (ai (.str (PySem.Str.ofString "xxxx"))) (av))))) (bN 6) (bf (c3 7 (b8 7 lK (ae (J 0) (ae (J 1) (ae (J 2) (ae (J 3) (ae (J 4) (ae (J 5) (ae (J 6) (av))))))))))
  (cL (bc (ao (gn false) (J 7) (ai .non))) (b6 (cE (ae (J 4) (ae (J 5) (ae (J 6) (ae (J 7) (av))))))) (cU)))))
  (I:=fun ρ=>∃s4 s5 e2 c1,ρ=[.aw (bA cs ws),.aw (.lst (old.map bo)),.aw (.lst (new.map bo)),.aw (.lst (ps.map bE)),s4,s5,e2,c1])
  (ρ:=[.aw (bA cs ws),.aw (.lst (old.map bo)),.aw (.lst (new.map bo)),.aw (.lst (ps.map bE)),.un,.un,.un,.un])
  (fun(p:Nat)=>D.int (p:Int)) (List.range ps.length) (fun p=>∃d∈outs cs ws cs.length,∃a∈List.range 16,hf ws old new ps p d a≠none)
  (by simp(disch:=first|omega|(simp;done)|(simp;omega)) [IB]) ?_ ⟨_,_,_,_,rfl⟩
 ·rcases S.ex with⟨hb,x,e,hx⟩|⟨hb,bh,e,s4,s5,e2,c1,rfl⟩
  ·refine⟨x,?_,fun _=>hb,fun _=>hx⟩;have z:rk [bA cs ws,.lst (old.map bo),.lst (new.map bo),.lst (ps.map bE)]=((R.ok (e7.dG x)).bind (ki (b6 (ai .non)))).bind outD:=by rw[←e];rfl
   rw[z];rfl
  ·refine⟨.non,?_,(fun z=>Bool.noConfusion (show true=false from z)),fun z=>absurd z hb⟩;have z:rk [bA cs ws,.lst (old.map bo),.lst (new.map bo),.lst (ps.map bE)]=((R.ok (e7.bk [.aw (bA cs ws),.aw (.lst (old.map bo)),.aw (.lst (new.map bo)),.aw (.lst (ps.map bE)),s4,s5,e2,c1])).bind (ki (b6 (ai .non)))).bind outD:=by rw[←e];rfl
   rw[z];rfl
 ·rintro p zL _ ⟨s4,s5,e2,c1,rfl⟩;have hpl:p<ps.length:=List.mem_range.mp zL;have ep:bN 4 (.int (p:Int)) [.aw (bA cs ws),.aw (.lst (old.map bo)),.aw (.lst (new.map bo)),.aw (.lst (ps.map bE)),s4,s5,e2,c1]=.ok [.aw (bA cs ws),.aw (.lst (old.map bo)),.aw (.lst (new.map bo)),.aw (.lst (ps.map bE)),.aw (.int (p:Int)),s5,e2,c1]:=rfl;rw[ep,dU];refine(BN (I:=fun ρ=>∃s5 e2 c1,ρ=[.aw (bA cs ws),.aw (.lst (old.map bo)),.aw (.lst (new.map bo)),.aw (.lst (ps.map bE)),.aw (.int (p:Int)),s5,e2,c1]) bB (outs cs ws cs.length) (fun d=>∃a∈List.range 16,hf ws old new ps p d a≠none) (by simp[WD,TS c9]) ?_ ⟨_,_,_,rfl⟩).mono Iff.rfl fun ρ⟨s5,e2,c1,e⟩=>⟨_,s5,e2,c1,e⟩;rintro d hd _ ⟨s5,e2,c1,rfl⟩;have vF:d∈dg cs cs.length:=(List.mem_filter.mp hd).1;have gh:bN 5 (bB d) [.aw (bA cs ws),.aw (.lst (old.map bo)),.aw (.lst (new.map bo)),.aw (.lst (ps.map bE)),.aw (.int (p:Int)),s5,e2,c1]=.ok [.aw (bA cs ws),.aw (.lst (old.map bo)),.aw (.lst (new.map bo)),.aw (.lst (ps.map bE)),.aw (.int (p:Int)),.aw (bB d),e2,c1]:=rfl;rw[gh,dU];refine(BN (I:=fun ρ=>∃e2 c1,ρ=[.aw (bA cs ws),.aw (.lst (old.map bo)),.aw (.lst (new.map bo)),.aw (.lst (ps.map bE)),.aw (.int (p:Int)),.aw (bB d),e2,c1]) (fun(a:Nat)=>D.int (a:Int)) (List.range 16) (fun a=>hf ws old new ps p d a≠none) (by simp only[J_,Cb,Yj,t4,J8,ov,dU,List.length_cons,List.length_nil,if_true,Lo,VA];rfl) ?_ ⟨_,_,rfl⟩).mono Iff.rfl fun ρ⟨e2,c1,e⟩=>⟨_,e2,c1,e⟩;rintro a ha _ ⟨e2,c1,rfl⟩;have OA:a<16:=List.mem_range.mp ha;have h:=ON c9 ho aE hp hl hpl vF OA;have js:bN 6 (.int (a:Int)) [.aw (bA cs ws),.aw (.lst (old.map bo)),.aw (.lst (new.map bo)),.aw (.lst (ps.map bE)),.aw (.int (p:Int)),.aw (bB d),e2,c1]=.ok [.aw (bA cs ws),.aw (.lst (old.map bo)),.aw (.lst (new.map bo)),.aw (.lst (ps.map bE)),.aw (.int (p:Int)),.aw (bB d),.aw (.int (a:Int)),c1]:=rfl;have gr:∀x:D,gn false x .non=.ok (.au (!gp x)):=fun _=>rfl;rw[js,dU];cases e:hf ws old new ps p d a with
  |none=>rw[e]at h;refine⟨.inr ⟨by simp,_,?_,.aw (.int (a:Int)),.aw .non,rfl⟩⟩;simp[h,ej,gr,show gp .non=true from rfl]
  |some k=>rw[e]at h;refine⟨.inl ⟨by simp,.tup [.int (p:Int),bB d,.int (a:Int),.int (k:Int)],?_,rfl⟩⟩;simp[h,ej,gr,show gp (.int (k:Int))=false from rfl]
theorem ks.p{cs:List Nat}{bs:List (List dD)}(h:ks cs bs):m9 cs bs:=⟨h.l,fun b hb r hr=>by obtain⟨i,hi⟩:=List.mem_iff_getElem?.mp hb;exact((h.b i b hi).r r hr).p⟩
theorem N3{cs:List Nat}{ws:List (aA×aA)}{old new:List (List dD)}(c9:hV cs ws)(ho:ks cs old)(aE:ks cs new){ps:List bS}(hp:x9 cs.length ps)(hl:ps.length≤40) :
  ∃x,n2 [bA cs ws,.lst (old.map bo),.lst (new.map bo),.lst (ps.map bE)]=.ok (.v x)∧(gp x=false↔xU ws cs old new ps):=by
 obtain⟨x,e,hx⟩:=G4 c9 ho.p aE.p hp.ok (by omega);refine⟨x,?_,hx⟩;have xF:=qz (ws:=ws) c9.h6 ho;have CD:=qz (ws:=ws) c9.h6 aE;have Zq:=H_ (ws:=ws) hp hl;have pU:∀ρ:aj,outD (.bk ρ)=.ok (.v .non):=fun _=>rfl;simp[n2,uT,iO,o2,n7,o1,xF,CD,Zq,e,pU]
structure KX(n:Nat)(A:List bS)(x:bS):Prop where
 X0:∀h,x=.ac 1 h→∀h',h'<n→.ac 0 h'∈A
 hA:∀h,x=.ac 2 h→∀h',h'<n→∃k,List.Sublist [.ac 1 h',.eP k] A
def Good(n:Nat)(ps:List bS):Prop:=∀A x B,ps=A++x::B→KX n A x
theorem Kg{t:bS}{k:Bool}:∀{A:List bS},List.Sublist [t,.eP k] A→(A.drop (jz A t)).any nM=true
 |[],h=>by cases h
 |y::A,h=>by
  unfold jz;rw[List.findIdx_cons];by_cases q:y=t
  ·simp only[q,decide_true,cond_true,List.drop_zero];rw[List.any_eq_true];exact⟨.eP k,by rw[←q];exact h.subset (by simp),rfl⟩
  ·simp only[q,decide_false,cond_false,List.drop_succ_cons];refine Kg (A:=A) (k:=k) ?_;cases h with
   |cons _ h=>exact h
   |cons_cons _ h=>exact absurd rfl q
theorem YF{A:List bS}{h:Nat}{k:Bool}(s:List.Sublist [.ac 1 h,.eP k] A):rD A h=true:=by unfold rD;rw[decide_eq_true (s.subset (by simp)),Kg s];rfl
theorem Kj{N:aA→On}{S:List aA}(cl:∀d∈S,∀e,N d=.to e→e∈S):∀(n:Nat)(ds:List aA)(d:aA)(r:List aA×oH),(∀x∈ds,x∈S)→d∈S→walk N n ds d=some r→∀x∈r.1,x∈S
 |0,ds,d,r,_,_,h=>by simp[walk]at h
 |n+1,ds,d,r,hs,hd,h=>by
  have jd:∀x∈ds++[d],x∈S:=fun x hx=>by
   rcases List.mem_append.mp hx with hx|hx
   ·exact hs x hx
   ·rw[List.mem_singleton.mp hx];exact hd
  simp only[walk]at h
  split at h
  ·cases h;exact hs
  ·split at h
   ·rename_i e;exact Kj cl n _ _ r jd (cl d hd _ e) h
   ·cases h;exact jd
   ·cases h;exact jd
theorem Yv{cs:List Nat}{ws:List (aA×aA)}{bs:List (List dD)}(c9:hV cs ws)(a:Nat){d:aA}(hd:d∈dg cs cs.length):∀x∈ow ws bs a d,x.1<cs.length:=by
 unfold ow
 split
 ·rename_i r e;intro x hx;exact(pQ.mp (Kj (N:=kd ws bs a) (S:=dg cs cs.length) (fun d _ e he=>HB c9 he) 1000 [] d r (by simp) hd e x hx)).1
 ·simp
theorem Jc{ps:List bS}{p:Nat}{s:bS}(h:ps[p]?=some s):ps=ps.take p++s::ps.drop (p+1):=by obtain⟨hp,e⟩:=List.getElem?_eq_some_iff.mp h;rw[←e];simp
theorem good_none{cs:List Nat}{ws:List (aA×aA)}{old new:List (List dD)}(c9:hV cs ws){ps:List bS}(g:Good cs.length ps):¬xU ws cs old new ps:=by
 rintro⟨p,_,d,hd,a,_,h⟩;have vF:d∈dg cs cs.length:=(List.mem_filter.mp hd).1;apply h;unfold hf
 split
 ·rename_i k e;have g1:=g _ _ _ (Jc e)
  split
  ·unfold rB;rw[List.find?_eq_none.mpr,Option.map_none];intro x hx;rw[decide_eq_true (g1.X0 k rfl x.1 (Yv c9 a vF x hx))];simp
  ·rfl
 ·rename_i k e;have g1:=g _ _ _ (Jc e);obtain⟨k',s⟩:=g1.hA k rfl d.1 (pQ.mp vF).1;rw[if_pos (YF s)]
 ·rfl
theorem r6{α:Type}{x:α}:∀{T R A B:List α},x∉T→T++R=A++x::B→∃oC,A=T++oC∧R=oC++x::B
 |[],R,A,B,_,e=>⟨A,rfl,e⟩
 |t::T,R,[],B,h,e=>by simp only[List.cons_append,List.nil_append,List.cons.injEq]at e;exact absurd (by rw[e.1];exact List.mem_cons_self) h
 |t::T,R,a::A,B,h,e=>by simp only[List.cons_append,List.cons.injEq]at e;obtain⟨oC,h1,h2⟩:=r6 (fun z=>h (List.mem_cons_of_mem _ z)) e.2;exact⟨oC,by rw[h1,e.1];rfl,h2⟩
theorem Am{w eY h:Nat}{l:List Nat}(hw:eY≠w):bS.ac eY h∉l.map (bS.ac w):=fun z=>by obtain⟨x,_,e⟩:=List.mem_map.mp z;cases e;exact hw rfl
theorem X7{A:List bS}{ul:List Nat}{h:Nat}(hu:h∈ul){W R:List bS}{k:Bool}(hw: .eP k∈W):List.Sublist [.ac 1 h,.eP k] (A++(ul.map (bS.ac 1)++(W++R))):=by have s1:List.Sublist [bS.ac 1 h] (ul.map (bS.ac 1)):=List.singleton_sublist.mpr (List.mem_map.mpr ⟨h,hu,rfl⟩);have s2:List.Sublist [bS.eP k] W:=List.singleton_sublist.mpr hw;have s3:=s1.append (s2.append (List.nil_sublist R));exact List.Sublist.trans s3 (List.sublist_append_right _ _)
theorem Oo{n:Nat}{tl ul fl:List Nat}{W:List bS}(ht:∀h,h<n→h∈tl)(hw:∀s∈W,nM s=true)(hf:fl≠[]→(∀h,h<n→h∈ul)∧∃k,.eP k∈W):Good n (tl.map (bS.ac 0)++(ul.map (bS.ac 1)++(W++fl.map (bS.ac 2)))):=by
 intro A x B e;constructor
 ·rintro h rfl h' hh;obtain⟨oC,rfl,_⟩:=r6 (Am (by decide)) e;exact List.mem_append_left _ (List.mem_map.mpr ⟨h',ht h' hh,rfl⟩)
 ·rintro h rfl h' hh;obtain⟨Zz,rfl,ak⟩:=r6 (Am (by decide)) e;obtain⟨ZA,rfl,ay⟩:=r6 (Am (by decide)) ak;obtain⟨ZC,rfl,b4⟩:=r6 (fun z=>by have:=hw _ z;cases this) ay;have aE:fl≠[]:=fun z=>by rw[z]at b4;simp at b4
  obtain⟨hu,k,hk⟩:=hf aE;exact⟨k,X7 (hu h' hh) hk⟩
theorem UC(cs:List Nat)(ws:List (aA×aA))(h6:cs.length≤6):wj [bA cs ws]=.ok (.o ((plain cs.length true).map bE)):=by apply Ends.done;simp(disch:=first|omega|(simp;done)|(simp;omega)) [wj,yL,pP];refine pd cs.length (fun i=>bE (.ac 0 i)) (by simp) (by omega) (fun k hk=>by simp[bE,gw]) ?_;refine pd cs.length (fun i=>bE (.ac 1 i)) (by simp) (by omega) (fun k hk=>by simp[bE,gw]) ?_;simp(disch:=first|omega|(simp;done)|(simp;omega));refine pd cs.length (fun i=>bE (.ac 2 i)) (by simp) (by omega) (fun k hk=>by simp[bE,gw]) ?_;simp(disch:=first|omega|(simp;done)|(simp;omega));simp[plain,bE,Function.comp_def]
def eF(s:String):D:=.str (PySem.Str.ofString s)
noncomputable def o4(n:Nat):List D:=[.lst [.tup [eF "teach",.int (n:Int)]],.lst [.tup [eF "turn",.int 0],.tup [eF "turn",.int 0]],.lst (List.replicate 41 (.tup [eF "wait"])),.tup [.tup [eF "wait"]],.non,.lst [.lst [eF "wait"]],.lst [eF "wait"],.lst [.tup [eF "forget",.int (-1)]],.lst [.tup [eF "learn",.int 0]],.lst [.tup [eF "teach",.int 0,.int 0]]]
theorem LS(n:Nat)(x:Int):∃d∈o4 n,wi [.int (n:Int),.int x]=.ok (.v d):=by obtain⟨k,hk,er⟩:=jF x (n:=10) (by decide);have y5:x%10=(k:Int):=er;have jw:k<(o4 n).length:=hk;refine⟨(o4 n)[k],List.getElem_mem _,?_⟩;have e:=mB (xs:=o4 n) (k:=k) (List.getElem?_eq_getElem jw);unfold o4 eF at e;simp(disch:=first|omega|(simp;done)|(simp;omega)) [wi,yD,y5,e,-List.reduceReplicate];rfl
theorem LU{cs:List Nat}{ws:List (aA×aA)}(h1:1≤cs.length){d:D}(h:d∈o4 cs.length):ih [d,bA cs ws]=.ok (.v (.au false)):=by
 have P:=fun{d:D}(hd:pL [d,bA cs ws]=.ok (.v (.au false)))=>UG (ps:=[]) (qs:=[]) (ws:=ws) (cs:=cs) (by simp) (by simp) (by simp) hd;unfold o4 at h;simp only[List.mem_cons,List.not_mem_nil,or_false]at h;rcases h with h|h|h|h|h|h|h|h|h|h<;>subst h
 ·refine P ?_;have cP:aG (.tup [eF "teach",.int (cs.length:Int)]) (.int 0)=.ok (eF "teach"):=rfl;have ak:aG (.tup [eF "teach",.int (cs.length:Int)]) (.int 1)=.ok (.int (cs.length:Int)):=rfl;have t1:e5 "tuple" (.tup [eF "teach",.int (cs.length:Int)])=.ok (.au true):=rfl;have ed:e5 "str" (eF "teach")=.ok (.au true):=rfl;have bK:inD false (.int 2) (.tup [.int 1,.int 2])=.ok (.au false):=rfl;have bQ:inD true (eF "teach") (.tup [.str (PySem.Str.ofString "teach"),.str (PySem.Str.ofString "turn"),.str (PySem.Str.ofString "forget")])=.ok (.au true):=rfl;simp[pL,uV,cP,ak,t1,ed,bK,bQ,pP,rE];omega
 ·exact H8 (ps:=[.ac 1 0,.ac 1 0]) (c:=false) (fun s hs=>by
    have:s=.ac 1 0:=by simpa using hs
    subst this;exact⟨by decide,h1⟩) (by simp) (by simp[List.filter_cons,bS.act])
 ·exact UE (by simp)
 ·exact H9 rfl
 ·exact H9 rfl
 ·exact P rfl
 ·exact P rfl
 ·exact P rfl
 ·exact P rfl
 ·exact P rfl
noncomputable def qA:List D:=[.tup [eF "xxxx",.int 9,.non],.tup [eF "xxxx",.non,.int 4],.tup [eF "xxx",.non,.int 0],.tup [eF "xxxy",.non,.int 0],.tup [eF "xxxx",.int (-1),.int 0],.tup [eF "xxxx",.non],.lst [eF "xxxx",.non,.int 0],.tup [eF "xxxx",.au true,.int 0],.tup [eF "xxxx",.non,eF "0"],.tup [.non,.non,.non],.non,eF "xxxx any 0"]
theorem LV{d:D}(h:d∈qA){c:Nat}(h1:1≤c)(h4:c≤4):n4 [d,.int (c:Int)]=.ok (.v (.au false)):=by
 have hc:c=1∨c=2∨c=3∨c=4:=by omega
 unfold qA at h;simp only[List.mem_cons,List.not_mem_nil,or_false]at h;rcases h with h|h|h|h|h|h|h|h|h|h|h|h<;>subst h<;>rcases hc with hc|hc|hc|hc<;>subst hc<;>rfl
theorem getD_in{cs:List Nat}(h:∀c∈cs,1≤c∧c≤4){k:Nat}(hk:k<cs.length):1≤cs.getD k 0∧cs.getD k 0≤4:=by have:=h (cs[k]) (List.getElem_mem _);simpa[hk]using this
theorem U2{α:Type}{g:α→D}{l:List α}{k:Nat}(h:k<l.length)(i:Nat)(ρ:aj)(v:D):putK i ρ (l.map g) v (.int (k:Int))=.ok (.bk (ρ.set i (.c6 ((l.map g).set k v)))):=U0 (by simpa using h)
@[simp] theorem Yq(f:D→Option Int→Option Int→R D)(m:az)(lo hi:kz)(ρ:aj):iN f m lo hi ρ=(m ρ).bind fun d=>(lo ρ).bind fun l=>(hi ρ).bind fun h=>f d l h:=(rfl)
@[simp] theorem Yn(m:az)(ρ:aj):ig m ρ=(m ρ).bind intD:=(rfl)
@[simp] theorem Ym(ρ:aj):kO ρ=.ok none:=(rfl)
@[simp] theorem aap(i:Int):intD (.int i)=.ok (some i):=(rfl)
@[simp] theorem Yl(m:aO)(ρ:aj):jD m ρ=(m ρ).bind lH:=(rfl)
theorem Dy{cs:List Nat}{ws:List (aA×aA)}(c9:hV cs ws){bs:List (List dD)}(hb:ks cs bs)(x:Int):∃r d,tk [.lst (bs.map bo),.int x]=.ok r∧ji r=.ok d∧gV [d,bA cs ws]=.ok (.v (.au false)):=by
 have h1:=c9.h1;have h6:=c9.h6;have hl:=hb.l;obtain⟨h,hh,sh⟩:=jF x (n:=bs.length) (by omega);obtain⟨k,hk,er⟩:=jF (x/8) (n:=16) (by decide);have y5:x/8%16=(k:Int):=er;have dA:∀l:List D,lH [.lst l]=.ok l:=fun _=>rfl;have i4:=getD_in c9.c (by omega:h<cs.length);suffices v:Ends (tk [.lst (bs.map bo),.int x]) fun r=>∃d,ji r=.ok d∧gV [d,bA cs ws]=.ok (.v (.au false))by
  obtain⟨r,e,d,ak,ay⟩:=v;exact⟨r,d,e,ak,ay⟩
 simp(disch:=first|omega|(simp;done)|(simp;omega)) [tk,yC,sh,y5,dA];by_cases q:k<12
 ·obtain⟨d,OK,e⟩:∃d,d∈qA∧aG (.lst qA) (.int (k:Int))=.ok d:=⟨qA[k],List.getElem_mem _,mB (List.getElem?_eq_getElem q)⟩;unfold qA eF at e;have a7:aG (.lst (bs.map bo)) (.int (h:Int))=.ok (bo bs[h]):=mB (by simp[hh]);have ez:=hb.b h _ (List.getElem?_eq_getElem hh);have es:ip (bo bs[h]) none (some 5)=.ok (.lst ((bs[h].take 5).map eW)):=by
   unfold bo;rw[BM,show(5:Int)=((5:Nat):Int)from rfl,vc,List.map_take]
  have no:=DJ (ws:=ws) h6 hb hh (LO (p:=bs[h].take 5) (q:=[]) (fun r hr=>ez.r r (List.mem_of_mem_take hr)) (by simp) (LV OK i4.1 i4.2) (by simp;omega));rw[if_pos (by omega)];simp(disch:=first|omega|(simp;done)|(simp;omega)) [a7,es,e,U2 (g:=bo) hh];simpa[List.map_take]using no
 ·rw[if_neg (by omega)];have OY:k=12∨k=13∨k=14∨k=15:=by omega
  rcases OY with q|q|q|q<;>subst q
  ·have lc:(d9 (bs.map bo) none (some (-1))).length≠cs.length:=by
     unfold d9 dI.ek;simp;omega
   simp[DK lc]
  ·have lc:(bs.map bo++[D.lst []]).length≠cs.length:=by simp;omega
   simp(disch:=first|omega|(simp;done)|(simp;omega)) [DK lc]
  ·have Sa:j_ [.lst (List.replicate 13 (.tup [eF "xxxx",.non,.int 0])),.int (cs.getD h 0:Nat)]=.ok (.v (.au false)):=LP (by simp);have no:=DJ (ws:=ws) h6 hb hh Sa;have bu:d9 (bs.map bo) none (some (h:Int))=(bs.map bo).take h:=vc _ _;have c5:d9 (bs.map bo) (some ((h:Int)+1)) none=(bs.map bo).drop (h+1):=by
    rw[show(h:Int)+1=((h+1:Nat):Int)by simp,yU]
   rw[List.set_eq_take_append_cons_drop,if_pos (by simpa using hh)]at no;unfold eF at no;simp(disch:=first|omega|(simp;done)|(simp;omega)) [bu,c5,-List.reduceReplicate];simpa[List.map_take,List.map_drop,-List.reduceReplicate]using no
  ·have h4:x/128%4=0∨x/128%4=1∨x/128%4=2∨x/128%4=3:=by omega
   have I:∀j:Nat,j<4→∃d,aG (.lst [.tup (bs.map bo),.non,.cY [] [],.str (PySem.Str.ofString "books")]) (.int (j:Int))=.ok d∧e5 "list" d=.ok (.au false):=fun j cv=>by
    have:j=0∨j=1∨j=2∨j=3:=by omega
    rcases this with q|q|q|q<;>subst q
    ·exact⟨_,rfl,rfl⟩
    ·exact⟨_,rfl,rfl⟩
    ·exact⟨_,rfl,rfl⟩
    ·exact⟨_,rfl,rfl⟩
   obtain⟨j,cv,i6⟩:=jF (x/128) (n:=4) (by decide);have NC:x/128%4=(j:Int):=i6;obtain⟨d,dy,hd⟩:=I j cv;simp(disch:=first|omega|(simp;done)|(simp;omega)) [NC,dy,LR hd]
@[simp] theorem ab7(c:Str)(ρ:aj):v_ c ρ=.exc c:=(rfl)
@[simp] theorem ab5(k:bY)(a b:lj)(ρ:aj):mH k a b ρ=(eU (k ρ)).bind fun c=>if c=true then a ρ else b ρ:=(rfl)
@[simp] theorem ab4{α:Type}(n:Nat)(mf:List D→R α)(ma:aO)(ρ:aj):g6 n mf ma ρ=(eU (ma ρ)).bind fun ds=>if ds.length=n then xo (mf ds)else .bad:=(rfl)
@[simp] theorem abj{α:Type}(a:α):xo (R.ok a)=.ok ():=(rfl)
@[simp] theorem abi{α:Type}(c:Str):xo (R.exc c:R α)=.exc c:=(rfl)
theorem pg{aU f:Str}{m:az}{ns:List Str}{ds:List D}{r:aj}{d:D}(hm:m (.aV (.ins aU ns ds)::r)=.ok d)(aE:ns.all (fun k=>!(f==k))=true)(hl:ns.length<1000):fW aU f m (.aV (.ins aU ns ds)::r)=.ok (.aV (.ins aU (ns++[f]) (ds++[d]))::r):=by unfold fW;rw[hm,dU];exact if_pos ⟨rfl,aE,hl⟩
theorem XX{i:Nat}{cs:List Str}{ka:lj}{ms:a0}{ρ:aj}(hi:i<ρ.length)(h:ka ρ=.ok ()):pI i cs ka ms ρ=.ok (.bk ρ):=by simp only[pI,if_pos hi,h]
theorem XW{i:Nat}{cs:List Str}{ka:lj}{ms:a0}{ρ:aj}{c:Str}(hi:i<ρ.length)(h:ka ρ=.exc c)(hc:cs.contains c=true):pI i cs ka ms ρ=(eU (ms (ρ.set i (.aw (.i8 c))))).bind (B4 i):=by simp only[pI,if_pos hi,h,if_pos hc]
section
variable{cs:List Nat}{ws:List (aA×aA)}{old new plan:D}
theorem Vp(h:gV [old,bA cs ws]=.ok (.v (.au false))):iO [bA cs ws,old,new,plan]=.exc "NoBooks":=by simp[iO,o2,n7,o1,h]
theorem Vn(h:gV [old,bA cs ws]=.ok (.v (.au true)))(h':gV [new,bA cs ws]=.ok (.v (.au false))):iO [bA cs ws,old,new,plan]=.exc "NoBooks":=by have pU:∀ρ:aj,outD (.bk ρ)=.ok (.v .non):=fun _=>rfl;simp[iO,o2,n7,o1,h,h',pU]
theorem Vq(h:gV [old,bA cs ws]=.ok (.v (.au true)))(h':gV [new,bA cs ws]=.ok (.v (.au true)))(hp:ih [plan,bA cs ws]=.ok (.v (.au false))):iO [bA cs ws,old,new,plan]=.exc "NoPlan":=by have pU:∀ρ:aj,outD (.bk ρ)=.ok (.v .non):=fun _=>rfl;simp[iO,o2,n7,o1,h,h',hp,pU]
theorem Vo(h:gV [old,bA cs ws]=.ok (.v (.au true)))(h':gV [new,bA cs ws]=.ok (.v (.au true)))(hp:ih [plan,bA cs ws]=.ok (.v (.au true))):iO [bA cs ws,old,new,plan]=.ok (.v .non):=by have pU:∀ρ:aj,outD (.bk ρ)=.ok (.v .non):=fun _=>rfl;simp[iO,o2,n7,o1,h,h',hp,pU]
def lx(b p:Bool):List D:=if b||p then[.au true,.au b,.au p]++List.replicate 7 (.au false)else[]
theorem z5{c:Str}{b:Bool}(hc:c=if b then "NoBooks" else "NoPlan")(e:iO [bA cs ws,old,new,plan]=.exc c)(w:Nat):n6 [.int (w:Int),bA cs ws,old,new,plan]=.ok (.v (.lst (lx b (!b)))):=by
 have f:n2 [bA cs ws,old,new,plan]=.exc c:=by simp[n2,uT,e]
 have g:n1 [bA cs ws,old,new,plan]=.exc c:=by simp[n1,uQ,e]
 have r:n0 [bA cs ws,old,new,plan]=.exc c:=by have fa:gm "Run" [bA cs ws,old,new,plan]=[.aV (.ins "Run" [] []),.aw (bA cs ws),.aw old,.aw new,.aw plan]:=rfl;simp[n0,uO,fa,g7,q7,e,rn]
 have q:mH (bc (ao (cW true) (J 0) (ai (.int 0)))) (g6 4 n2 (ae (J 1) (ae (J 2) (ae (J 3) (ae (J 4) (av)))))) (mH (bc (ao (cW true) (J 0) (ai (.int 1)))) (g6 4 n0 (ae (J 1) (ae (J 2) (ae (J 3) (ae (J 4) (av)))))) (g6 4 n1 (ae (J 1) (ae (J 2) (ae (J 3) (ae (J 4) (av))))))) [.aw (.int (w:Int)),.aw (bA cs ws),.aw old,.aw new,.aw plan,.aw (.lst []),.un]=.exc c:=by
  by_cases h0:w=0
  ·simp[h0,f]
  ·by_cases h1:w=1
   ·simp[h1,r]
   ·have eh:¬(w:Int)=0:=by omega
    have a1:¬(w:Int)=1:=by omega
    simp[eh,a1,h0,h1,g]
 have x:∀u v:Bool,ic [("NoBooks",u),("NoPlan",v)] (.i8 c)=.ok (.au (if b then u else v)):=fun u v=>by subst hc;cases b<;>rfl
 have kD:[("NoBooks" :Str),"NoPlan"].contains c=true:=by subst hc;cases b<;>decide
 simp only[n6,uY,t5,rC,Kb,Cb,Cd,ov,dU];simp[lim,hD];rw[XW (by simp) q kD];simp(disch:=first|omega|(simp;done)|(simp;omega)) [x,B4];cases b<;>rfl
theorem D1(bs:List (List dD))(h6:bs.length≤6):tf [.lst (bs.map bo)]=.ok (.o (bs.map bo)):=by have dA:∀l:List D,lH [.lst l]=.ok l:=fun _=>rfl;apply Ends.done;simp[tf,yq];refine pb bo bs bo (by simp) (by omega) (fun b _=>by simp[bo,dA]) (by simp)
theorem QZ(cs:List Nat)(ws:List (aA×aA)):d_ "Net" "joined" (bA cs ws)=.ok (.tup (ws.map dW)):=rfl
theorem WE(cs:List Nat)(ws:List (aA×aA)):og "Net" "wires" (bA cs ws)=.ok (bA cs ws):=rfl
theorem Mc(c9:hV cs ws):wg [bA cs ws]=.ok (.v (bA cs ws)):=by
 have cf:∀l:List D,lH [.tup l]=.ok l:=fun _=>rfl;have hD:=Gx cs ws c9;have w:wc [bA cs ws]=.ok (.o (ws.map dW)):=by simp[wc,yp,QZ,cf]
 simp[wg,yr,DX,cf,WE,w,hD];rfl
theorem UB(n:Nat):Good n (plain n true):=by have:=Oo (n:=n) (tl:=List.range n) (ul:=List.range n) (fl:=List.range n) (W:=[.eP true]) (by simp) (by simp[nM]) (fun _=>⟨by simp,true,by simp⟩);simpa[plain]using this
theorem kinds_ok(c9:hV cs ws){o n:List (List dD)}(ho:ks cs o)(aE:ks cs n)(w:Nat):n6 [.int (w:Int),bA cs ws,.lst (o.map bo),.lst (n.map bo),.lst ((plain cs.length true).map bE)]=.ok (.v (.lst [])):=by
 have h6:=c9.h6;have pl:=plain_len cs.length true;have AA:=UD cs.length true;have e:=Vo (qz (ws:=ws) h6 ho) (qz (ws:=ws) h6 aE) (H_ (ws:=ws) AA (by omega));have zv:=good_none (old:=o) (new:=n) c9 (UB cs.length);obtain⟨x,f,hx⟩:=N3 c9 ho aE AA (by omega);obtain⟨y,lf,bJ⟩:=G4 c9 ho.p aE.p AA.ok (by omega);have S9:gp y=true:=by
  cases aK:gp y with
  |true=>rfl
  |false=>exact absurd (bJ.mp aK) zv
 generalize(plain cs.length true).map bE=pl at e f lf;have g:n1 [bA cs ws,.lst (o.map bo),.lst (n.map bo),.lst pl]=.ok (.v .non):=by simp[n1,uQ,e,lf,S9]
 have r:∃y,n0 [bA cs ws,.lst (o.map bo),.lst (n.map bo),.lst pl]=.ok y:=by
  have dA:∀l:List D,lH [.lst l]=.ok l:=fun _=>rfl;have fa:gm "Run" [bA cs ws,.lst (o.map bo),.lst (n.map bo),.lst pl]=.aV (.ins "Run" [] [])::[.aw (bA cs ws),.aw (.lst (o.map bo)),.aw (.lst (n.map bo)),.aw (.lst pl)]:=rfl;have co:=D1 o (by rw[ho.l];exact h6);have aU:=D1 n (by rw[aE.l];exact h6);have eh:q7 (b8 4 iO (lM (ae (J 1) (ae (J 2) (ae (J 3) (ae (J 4) (av))))))) (.aV (.ins "Run" [] [])::[.aw (bA cs ws),.aw (.lst (o.map bo)),.aw (.lst (n.map bo)),.aw (.lst pl)])=.ok (.aV (.ins "Run" [] [])::[.aw (bA cs ws),.aw (.lst (o.map bo)),.aw (.lst (n.map bo)),.aw (.lst pl)]):=by simp[q7,e]
  unfold n0 uO;rw[fa,kk eh];rw[kk (pg (d:=bA cs ws) (by simp[hJ,Mc c9]) (by decide) (by decide))];rw[kk (pg (d:=.tup [.lst (o.map bo),.lst (n.map bo)]) (by simp[hJ,co,aU]) (by decide) (by decide))];rw[kk (pg (d:=.lst pl) (by simp[hJ,dA]) (by decide) (by decide))];rw[kk (pg (d:=.lst []) (by simp[hJ,lim]) (by decide) (by decide))];rw[kk (pg (d:=.int 0) (by simp[hJ]) (by decide) (by decide))];rw[kk (pg (d:=.cY [] []) (by simp[hJ]) (by decide) (by decide))];rw[pg (d:=.lst []) (by simp[hJ,lim]) (by decide) (by decide)];exact⟨_,rfl⟩
 obtain⟨KU,r⟩:=r;have q:mH (bc (ao (cW true) (J 0) (ai (.int 0)))) (g6 4 n2 (ae (J 1) (ae (J 2) (ae (J 3) (ae (J 4) (av)))))) (mH (bc (ao (cW true) (J 0) (ai (.int 1)))) (g6 4 n0 (ae (J 1) (ae (J 2) (ae (J 3) (ae (J 4) (av)))))) (g6 4 n1 (ae (J 1) (ae (J 2) (ae (J 3) (ae (J 4) (av))))))) [.aw (.int (w:Int)),.aw (bA cs ws),.aw (.lst (o.map bo)),.aw (.lst (n.map bo)),.aw (.lst pl),.aw (.lst []),.un]=.ok ():=by
  by_cases h0:w=0
  ·simp[h0,f]
  ·by_cases h1:w=1
   ·simp[h1,r]
   ·have eh:¬(w:Int)=0:=by omega
    have a1:¬(w:Int)=1:=by omega
    simp[eh,a1,h0,h1,g]
 simp only[n6,uY,t5,rC,Kb,Cb,Cd,ov,dU];simp[lim,hD];rw[XX (by simp) q];simp
end
theorem IF:mS [.int 3]=.ok (fZ 0 3):=rfl
theorem MG(b p:Bool):cW false (.lst (lx b p)) (.lst (lx b p))=.ok (.au false):=by cases b<;>cases p<;>rfl
theorem wR{N old new plan:D}{b p:Bool}(h:∀w:Nat,n6 [.int (w:Int),N,old,new,plan]=.ok (.v (.lst (lx b p)))):rj [N,old,new,plan,.lst (lx b p)]=.ok (.v (.au true)):=by
 apply Ends.done;simp[rj,yJ];refine sj 3 (fun _ ρ=>∃s5,ρ=[.aw N,.aw old,.aw new,.aw plan,.aw (.lst (lx b p)),s5]) (by simp[IF]) ⟨.un,rfl⟩ ?_ ?_
 ·rintro j _ _ ⟨s5,rfl⟩;simp[h j,MG]
 ·rintro _ ⟨s5,rfl⟩;simp
theorem R3(ns:List Int):pM [.cx (ns.map D.int)]=.ok (.v (.au true)):=by
 apply Ends.done;obtain⟨mq,cP⟩:=DS ns 0;have y0:mJ [.cx (ns.map D.int),.int 0]=.ok (.v (.int mq)):=cP;obtain⟨cs,ws,c9,lz⟩:=SV mq;have h6:=c9.h6;have h1:=c9.h1;obtain⟨o,ho,y9⟩:=DL ns 1 (by decide) cs h6 c9.c;obtain⟨n,aE,NG⟩:=DL ns 7 (by decide) cs h6 c9.c;have NM:n5 [.cx (ns.map D.int),.int 1,.lst (b_ cs)]=.ok (.o (o.map bo)):=y9;have NH:n5 [.cx (ns.map D.int),.int 7,.lst (b_ cs)]=.ok (.o (n.map bo)):=NG;have dA:∀l:List D,lH [.lst l]=.ok l:=fun _=>rfl;have hD:=Gx cs ws c9;have fold:D.ins "Net" ["many","counts","joined","far"] [.int (cs.length:Int),.tup (b_ cs),.tup (ws.map dW),.bI (dE ws) (dV ws)]=bA cs ws:=rfl;have lcs:(b_ cs).length=cs.length:=by simp[b_]
 have pm:=UC cs ws h6;have CP:∀w:Nat,n6 [.int (w:Int),bA cs ws,.lst (o.map bo),.lst (n.map bo),.lst ((plain cs.length true).map bE)]=.ok (.v (.lst (lx false false))):=kinds_ok c9 ho aE;have r0:=wR CP;have Mk:lx false false=[]:=rfl;rw[Mk]at r0;have xF:=qz (ws:=ws) h6 ho;have CD:=qz (ws:=ws) h6 aE;generalize(plain cs.length true).map bE=pl at pm CP r0;have D7:d9 (ns.map D.int) (some 13) (some 19)=(d9 ns (some 13) (some 19)).map D.int:=qG _ _ _ _;have Sk:(d9 ns (some 13) (some 19)).length≤6:=by unfold d9 dI.ek;simp;omega
 generalize d9 ns (some 13) (some 19)=zs at D7 Sk;simp(disch:=first|omega|(simp;done)|(simp;omega)) [pM,yB,y0,lz,dA,hD,fold,NM,NH,pm,r0];refine NI D.int ([1,2,3]++zs) (fun _ ρ=>∃c1 lR lS tI:dc,ρ=[.aw (.cx (ns.map D.int)),.aw (.lst (b_ cs)),.aw (.lst (ws.map dW)),.aw (bA cs ws),.aw (.lst (o.map bo)),.aw (.lst (n.map bo)),.aw (.lst pl),c1,lR,lS,tI]) (by simp(disch:=first|omega|(simp;done)|(simp;omega)) [D7]) ⟨.un,.un,.un,.un,rfl⟩ ?_ ?_
 ·rintro j z _ _ ⟨c1,lR,lS,tI,rfl⟩;obtain⟨y,d4⟩:=SE z 0 (by decide);have qJ:tm [.int z,.int 0]=.ok (.v (.int y)):=d4;obtain⟨d,hd,dy⟩:=LS cs.length (y/8);have bj:=LU (ws:=ws) h1 hd;have iC:∀(ρ:aj)(a b c v:D),putK 9 ρ [a,b,c] v (.int 2)=.ok (.bk (ρ.set 9 (.c6 [a,b,v]))):=fun _ _ _ _ _=>rfl;have iW:∀(ρ:aj)(a b c v:D),putK 9 ρ [a,b,c] v (.int 1)=.ok (.bk (ρ.set 9 (.c6 [a,v,c]))):=fun _ _ _ _ _=>rfl;have CS:∀(ρ:aj)(a b c v:D),putK 9 ρ [a,b,c] v (.int 0)=.ok (.bk (ρ.set 9 (.c6 [v,b,c]))):=fun _ _ _ _ _=>rfl;have qj:∀a b c:D,aG (.lst [a,b,c]) (.int 0)=.ok a:=fun _ _ _=>rfl;have aL:∀a b c:D,aG (.lst [a,b,c]) (.int 1)=.ok b:=fun _ _ _=>rfl;have bT:∀a b c:D,aG (.lst [a,b,c]) (.int 2)=.ok c:=fun _ _ _=>rfl;have C5:∀a b c:D,zW [a,b,c] (.int 0)=.ok a:=fun _ _ _=>rfl;have C6:∀a b c:D,zW [a,b,c] (.int 1)=.ok b:=fun _ _ _=>rfl;have vd:d3 (.lst [.au true,.au true]) (.lst (List.replicate 8 (.au false)))=.ok (.lst (lx true false)):=rfl;have yW:d3 (.lst [.au true,.au false,.au true]) (.lst (List.replicate 7 (.au false)))=.ok (.lst (lx false true)):=rfl;have CZ:=wR fun w=>z5 (b:=false) (c:="NoPlan") rfl (Vq xF CD bj) w;obtain⟨ar,d1,ei,dj,oY⟩:=Dy c9 ho (y/6);obtain⟨a5,cn,Dk,Dl,LF⟩:=Dy c9 aE (y/6);have ya:=fun plan=>wR fun w=>z5 (b:=true) (c:="NoBooks") (new:=.lst (n.map bo)) (plan:=plan) rfl (Vp oY) w;have x_:=fun plan=>wR fun w=>z5 (b:=true) (c:="NoBooks") (plan:=plan) rfl (Vn xF LF) w;simp only[Bool.not_true,Bool.not_false]at CZ ya x_;have aV:∀l,lN (.lst l)=.lst l:=fun _=>rfl;have je:y/2%3=0∨y/2%3=1∨y/2%3=2:=by omega
  by_cases q:y%2=0
  ·rcases je with je|je|je
   ·simp(disch:=first|omega|(simp;done)|(simp;omega)) [qJ,q,je,lcs,dy,iC,CS,C5,ei,dj,yW,vd,ea,qj,aL,bT,ya,-List.reduceReplicate]
   ·simp(disch:=first|omega|(simp;done)|(simp;omega)) [qJ,q,je,lcs,dy,iC,iW,C6,Dk,Dl,yW,vd,ea,qj,aL,bT,x_,-List.reduceReplicate]
   ·simp(disch:=first|omega|(simp;done)|(simp;omega)) [qJ,q,je,lcs,dy,iC,yW,ea,qj,aL,bT,CZ,-List.reduceReplicate]
  ·rcases je with je|je|je
   ·simp(disch:=first|omega|(simp;done)|(simp;omega)) [qJ,q,je,CS,C5,ei,dj,vd,ea,qj,aL,bT,ya,-List.reduceReplicate]
   ·simp(disch:=first|omega|(simp;done)|(simp;omega)) [qJ,q,je,iW,C6,Dk,Dl,vd,ea,qj,aL,bT,x_,-List.reduceReplicate]
   ·simp(disch:=first|omega|(simp;done)|(simp;omega)) [qJ,q,je,ea,qj,aL,bT,r0,-List.reduceReplicate]
 ·rintro _ ⟨c1,lR,lS,tI,rfl⟩;simp[r0]
theorem lI{P:Str→Bool→Prop}:∀c x,([]:List (Str×Bool)).lookup c=some x→P c x:=fun _ _ h=>nomatch h
theorem gH{P:Str→Bool→Prop}{a:Str}{b:Bool}{l:List (Str×Bool)}(h:P a b)(t:∀c x,l.lookup c=some x→P c x):∀c x,((a,b)::l).lookup c=some x→P c x:=fun c x e=>by
 rw[List.lookup_cons]at e
 split at e
 ·rename_i k;rw[beq_iff_eq]at k;cases e;rw[k];exact h
 ·exact t c x e
theorem Mg{P:Str→Prop}:∀c,([]:List Str).contains c=true→P c:=fun _ h=>nomatch h
theorem D2{P:Str→Prop}{a:Str}{l:List Str}(h:P a)(t:∀c,l.contains c=true→P c):∀c,(a::l).contains c=true→P c:=fun c e=>by
 rw[List.contains_cons,Bool.or_eq_true]at e;rcases e with k|k
 ·rw[beq_iff_eq]at k;rw[k];exact h
 ·exact t c k
theorem Y6{P:Program}{w:World}{K:PySem.W.Frag}{mg:Str→Option Value}{base:Heap}{x:Str}{st:Stmt}{N ps:List Str}{k:Nat}{m:a0}{f:Addr}{fd:FuncData}(fn:kv K x x st f fd)(S:cG N ps (bM st))(h:∀(f:Addr)(b1:Value)(A:Around)(outer:List PySem.Env)(s:Shared)(H:ag)(E:cO),c4 k (A.deeper (PyProof.Rows.envOfC x (bM st) s.heap.objs.size f b1))→∀bO bg,hY (eA gK P w K mg base N x (bM st) f b1 A outer s H E).fo (eB K bO bg) (fx st) m) :
  f7 P w K mg base gK (k+1) f fd ps (kS K ps.length (cS N.length m)):=fn.ok S w5 fun b1 A outer s H vs Q E hr hs=>by
 obtain⟨G,ht⟩:=u5 hs;exact⟨_,(h f b1 A outer s H E hr G H).1,ht⟩
structure di(K:PySem.W.Frag)(x:Str)(st:Stmt):Prop where
 ex:∃(f:Addr)(dv an:Option Addr)(cw:Array (Option Value))(eV cD jq pm cd ck:Value),PySem.W.nsIn K mainGlobals x=some (some (.ref f))∧K.lookup f=some ⟨eV,dv,.func (PySem.W.fnOf x x (jr st) (fx st) (bM st) .none cD jq pm an cd ck),cw⟩∧PySem.W.codeIn K cd x=true∧PySem.W.keepIn K (.ref f)=true
theorem dr{K:PySem.W.Frag}{x:Str}{st:Stmt}{f:Addr}{dv an:Option Addr}{cw:Array (Option Value)}{eV cD jq pm cd ck:Value}(a:PySem.W.nsIn K mainGlobals x=some (some (.ref f)))(l:K.lookup f=some ⟨eV,dv,.func (PySem.W.fnOf x x (jr st) (fx st) (bM st) .none cD jq pm an cd ck),cw⟩)(c:PySem.W.codeIn K cd x=true)(k:PySem.W.keepIn K (.ref f)=true):di K x st:=⟨f,dv,an,cw,eV,cD,jq,pm,cd,ck,a,l,c,k⟩
theorem dq{K:PySem.W.Frag}{h:Heap}{mg:Str→Option Value}{x:Str}{st:Stmt}{ps:List Str}(X:K.In h)(G:h.Ns mainGlobals mg)(F:di K x st)(b:∀(cD doc pm:Value)(an:Option Addr)(b1 ck:Value)(us:List Value),us.length=ps.length→bindArgs (PySem.W.fnOf x x (jr st) (fx st) (bM st) .none cD doc pm an b1 ck) ⟨us,[]⟩=pure (ps.zip us)):da K mg x st ps:=by obtain⟨f,dv,an,cw,eV,cD,jq,pm,cd,ck,a,l,c,k⟩:=F.ex;exact N5 (st:=st) X G a l c k b
structure l9(K:PySem.W.Frag)(C:Addr)(x qual:Str)(st:Stmt):Prop where
 ex:∃(f:Addr)(dv an:Option Addr)(cw:Array (Option Value))(eV cD jq pm cd ck:Value),PySem.W.findIn K (.ref C) x=some (some (.ref f))∧K.lookup f=some ⟨eV,dv,.func (PySem.W.fnOf x qual (jr st) (fx st) (bM st) .none cD jq pm an cd ck),cw⟩∧PySem.W.codeIn K cd qual=true∧PySem.W.keepIn K (.ref f)=true∧PySem.W.isFn K (.ref f)=true
theorem rl{K:PySem.W.Frag}{C:Addr}{x qual:Str}{st:Stmt}{f:Addr}{dv an:Option Addr}{cw:Array (Option Value)}{eV cD jq pm cd ck:Value}(a:PySem.W.findIn K (.ref C) x=some (some (.ref f)))(l:K.lookup f=some ⟨eV,dv,.func (PySem.W.fnOf x qual (jr st) (fx st) (bM st) .none cD jq pm an cd ck),cw⟩)(c:PySem.W.codeIn K cd qual=true)(k:PySem.W.keepIn K (.ref f)=true)(i:PySem.W.isFn K (.ref f)=true):l9 K C x qual st:=⟨f,dv,an,cw,eV,cD,jq,pm,cd,ck,a,l,c,k,i⟩
theorem wt{K:PySem.W.Frag}{aU x qual:Str}{C:Addr}{st:Stmt}{ps:List Str}(n:PySem.W.nsIn K mainGlobals aU=some (some (.ref C)))(g1:PySem.W.plainGet K C Str.empty=true)(g2:PySem.W.hasDictIn K C=true)(g3:PySem.W.plainOver K C=true)(kG:PySem.W.findIn K (.ref C) "__setattr__"=some (some (.builtin "object.__setattr__")))(F:l9 K C x qual st)(b:∀(cD doc pm:Value)(an:Option Addr)(b1 ck:Value)(us:List Value),us.length=ps.length→bindArgs (PySem.W.fnOf x qual (jr st) (fx st) (bM st) .none cD doc pm an b1 ck) ⟨us,[]⟩=pure (ps.zip us)):ql K aU x qual st ps:=by obtain⟨f,dv,an,cw,eV,cD,jq,pm,cd,ck,a,l,c,k,i⟩:=F.ex;exact⟨⟨C,f,_,n,⟨g1,g2,g3,kG⟩,⟨a,i,k⟩,pj (st:=st) l c k,(pj (st:=st) l c k).binds b⟩⟩
theorem Hk{K:PySem.W.Frag}{h:Heap}{mg:Str→Option Value}{aU qual:Str}{C:Addr}{st:Stmt}{ps:List Str}(X:K.In h)(G:h.Ns mainGlobals mg)(n:PySem.W.nsIn K mainGlobals aU=some (some (.ref C)))(mk:PySem.W.makesIn K C=true)(vY:PySem.W.keepIn K (.ref C)=true)(F:l9 K C "__init__" qual st)(b:∀(cD doc pm:Value)(an:Option Addr)(b1 ck:Value)(us:List Value),us.length=ps.length→bindArgs (PySem.W.fnOf "__init__" qual (jr st) (fx st) (bM st) .none cD doc pm an b1 ck) ⟨us,[]⟩=pure (ps.zip us)):InK K mg aU qual st ps:=by obtain⟨f,dv,an,cw,eV,cD,jq,pm,cd,ck,a,l,c,k,i⟩:=F.ex;exact⟨⟨C,f,_,n,⟨mk,a,i,vY⟩,pj (st:=st) l c k,PySem.W.mg_of X G n,(pj (st:=st) l c k).binds b⟩⟩
set_option maxHeartbeats 4000000 in
theorem X8{K:PySem.W.Frag}{h:Heap}{mg:Str→Option Value}{hn:Addr}{hS:Addr}{d6:Addr}{Zr:ClassData}{d7:Addr}{Zs:ClassData}{uh:Addr}{ui:Addr}{uj:Addr}{uk:Addr}{um:Addr}{uo:Addr}{uq:Addr}{ur:Addr}{Xl:Tok}{Xm:Tok}{Xn:Tok}{Xo:Tok}{Xp:Tok}{xN:Addr}{Mr:Option Addr}{SM:Nat}{WR:Array (Option Value)}{Xq Xr Xs:Tok}{xO:Addr}{Ms:Option Addr}{SN:Nat}{WS:Array (Option Value)}{Xt:Tok}{xP:Addr}{Mt:Option Addr}{SO:Nat}{WT:Array (Option Value)}{Xu Xv Xw Xx:Tok}(X:K.In h)(G:h.Ns mainGlobals mg)(n_Net:PySem.W.nsIn K mainGlobals "Net"=some (some (.ref hn)))(g1_Net:PySem.W.plainGet K hn Str.empty=true)(g2_Net:PySem.W.hasDictIn K hn=true)(g3_Net:PySem.W.plainOver K hn=true)(g4_Net:PySem.W.findIn K (.ref hn) "__setattr__"=some (some (.builtin "object.__setattr__")))(u_Net_many:PySem.W.findIn K (.ref hn) "many"=some none)(u_Net_counts:PySem.W.findIn K (.ref hn) "counts"=some none)(u_Net_joined:PySem.W.findIn K (.ref hn) "joined"=some none)(u_Net_far:PySem.W.findIn K (.ref hn) "far"=some none)(mk_Net:PySem.W.makesIn K hn=true)(kc_Net:PySem.W.keepIn K (.ref hn)=true)(n_Run:PySem.W.nsIn K mainGlobals "Run"=some (some (.ref hS)))(g1_Run:PySem.W.plainGet K hS Str.empty=true)(g2_Run:PySem.W.hasDictIn K hS=true)(g3_Run:PySem.W.plainOver K hS=true)(g4_Run:PySem.W.findIn K (.ref hS) "__setattr__"=some (some (.builtin "object.__setattr__")))(u_Run_net:PySem.W.findIn K (.ref hS) "net"=some none)(u_Run_books:PySem.W.findIn K (.ref hS) "books"=some none)(u_Run_plan:PySem.W.findIn K (.ref hS) "plan"=some none)(u_Run_done:PySem.W.findIn K (.ref hS) "done"=some none)(u_Run_came:PySem.W.findIn K (.ref hS) "came"=some none)(u_Run_letters:PySem.W.findIn K (.ref hS) "letters"=some none)(u_Run_ended:PySem.W.findIn K (.ref hS) "ended"=some none)(mk_Run:PySem.W.makesIn K hS=true)(kc_Run:PySem.W.keepIn K (.ref hS)=true)(n_NoBooks:PySem.W.nsIn K mainGlobals "NoBooks"=some (some (.ref d6)))(ct_NoBooks:PySem.W.clsIn K d6=some Zr)(e1_NoBooks:PySem.W.excIn K d6 [.type "ValueError",.type "Exception",.type "BaseException",.type "object"] "ValueError.__new__"=true)(ga_NoBooks:PySem.W.findIn K (.ref d6) "__getattribute__"=some (some (.builtin "BaseException.__getattribute__")))(gn_NoBooks:PySem.W.findIn K (.ref d6) "__getattr__"=some none)(cl_NoBooks:PySem.W.findIn K (.ref d6) "__class__"=some (some (.builtin "object.__class__")))(sb_NoBooks:PySem.W.subIn K (.ref d6) (.type "BaseException")=some true)(mo_NoBooks:PySem.W.mroIn K d6 (.type "object")=some true)(n_NoPlan:PySem.W.nsIn K mainGlobals "NoPlan"=some (some (.ref d7)))(ct_NoPlan:PySem.W.clsIn K d7=some Zs)(e1_NoPlan:PySem.W.excIn K d7 [.type "ValueError",.type "Exception",.type "BaseException",.type "object"] "ValueError.__new__"=true)(ga_NoPlan:PySem.W.findIn K (.ref d7) "__getattribute__"=some (some (.builtin "BaseException.__getattribute__")))(gn_NoPlan:PySem.W.findIn K (.ref d7) "__getattr__"=some none)(cl_NoPlan:PySem.W.findIn K (.ref d7) "__class__"=some (some (.builtin "object.__class__")))(sb_NoPlan:PySem.W.subIn K (.ref d7) (.type "BaseException")=some true)(mo_NoPlan:PySem.W.mroIn K d7 (.type "object")=some true)(spc0:PySem.W.specialIn K (.builtin "object.__class__") "__get__"=some (some (.builtin "getset_descriptor.__get__")))(tkc0:PySem.W.takesIn K (.builtin "object.__class__")=some true)(n_NoAddress:PySem.W.nsIn K mainGlobals "NoAddress"=some (some (.ref uh)))(ki_NoBooks_NoAddress:PySem.W.kitOne K (.ref d6) (.ref uh)=some false)(ki_NoPlan_NoAddress:PySem.W.kitOne K (.ref d7) (.ref uh)=some false)(ki_NoBooks_NoBooks:PySem.W.kitOne K (.ref d6) (.ref d6)=some true)(ki_NoPlan_NoBooks:PySem.W.kitOne K (.ref d7) (.ref d6)=some false)(n_NoDoor:PySem.W.nsIn K mainGlobals "NoDoor"=some (some (.ref ui)))(ki_NoBooks_NoDoor:PySem.W.kitOne K (.ref d6) (.ref ui)=some false)(ki_NoPlan_NoDoor:PySem.W.kitOne K (.ref d7) (.ref ui)=some false)(n_NoMove:PySem.W.nsIn K mainGlobals "NoMove"=some (some (.ref uj)))(ki_NoBooks_NoMove:PySem.W.kitOne K (.ref d6) (.ref uj)=some false)(ki_NoPlan_NoMove:PySem.W.kitOne K (.ref d7) (.ref uj)=some false)(n_NoNet:PySem.W.nsIn K mainGlobals "NoNet"=some (some (.ref uk)))(ki_NoBooks_NoNet:PySem.W.kitOne K (.ref d6) (.ref uk)=some false)(ki_NoPlan_NoNet:PySem.W.kitOne K (.ref d7) (.ref uk)=some false)(ki_NoBooks_NoPlan:PySem.W.kitOne K (.ref d6) (.ref d7)=some false)(ki_NoPlan_NoPlan:PySem.W.kitOne K (.ref d7) (.ref d7)=some true)(n_NoRow:PySem.W.nsIn K mainGlobals "NoRow"=some (some (.ref um)))(ki_NoBooks_NoRow:PySem.W.kitOne K (.ref d6) (.ref um)=some false)(ki_NoPlan_NoRow:PySem.W.kitOne K (.ref d7) (.ref um)=some false)(n_NoSaying:PySem.W.nsIn K mainGlobals "NoSaying"=some (some (.ref uo)))(ki_NoBooks_NoSaying:PySem.W.kitOne K (.ref d6) (.ref uo)=some false)(ki_NoPlan_NoSaying:PySem.W.kitOne K (.ref d7) (.ref uo)=some false)(n_NoText:PySem.W.nsIn K mainGlobals "NoText"=some (some (.ref uq)))(ki_NoBooks_NoText:PySem.W.kitOne K (.ref d6) (.ref uq)=some false)(ki_NoPlan_NoText:PySem.W.kitOne K (.ref d7) (.ref uq)=some false)(ki_NoBooks_ValueError:PySem.W.kitOne K (.ref d6) (.type "ValueError")=some true)(ki_NoPlan_ValueError:PySem.W.kitOne K (.ref d7) (.type "ValueError")=some true)(n_WayError:PySem.W.nsIn K mainGlobals "WayError"=some (some (.ref ur)))(em_NoBooks_WayError:PySem.W.exmOne K (.ref d6) (.ref ur)=some true)(em_NoPlan_WayError:PySem.W.exmOne K (.ref d7) (.ref ur)=some true)(h0:di K "_law_draws" Bq)(h1:di K "_law_net" Bt)(h2:di K "_law_cell_at" Bp)(h3:di K "is_whole" Bi)(h4:di K "is_whole_within" Bj)(h5:di K "are_counts" AZ)(h6:di K "is_pair" Bc)(h7:di K "is_door_among" Ba)(h8:di K "is_wire_among" Bk)(h9:di K "far_doors" A3)(h10:l9 K hn "__init__" "Net.__init__" AU)(h11:di K "_law_row" Bv)(h12:di K "_law_book" Bn)(h13:di K "_law_books" Bo)(h14:di K "plain_plan" By)(h15:di K "is_pattern" Bd)(h16:di K "is_number_or_none" Bb)(h17:di K "is_row" Bf)(h18:di K "is_book" A9)(h19:l9 K hn "count" "Net.count" AS)(h20:di K "is_books" A_)(h21:di K "refuse_unless_books" Bz)(h22:di K "is_step" Bg)(h23:di K "is_plan" Be)(h24:di K "refuse_unless_plan" BA)(h25:l9 K hn "outer" "Net.outer" AV)(h26:di K "is_address" A8)(h27:di K "fits" A6)(h28:di K "addresses" AY)(h29:di K "first_untaught" A5)(h30:di K "taken" BB)(h31:l9 K hn "beyond" "Net.beyond" AR)(h32:di K "onward" Bx)(h33:di K "walked" BC)(h34:di K "is_waited_for" Bh)(h35:di K "house_at_fault" A7)(h36:di K "least_fault" Bw)(h37:di K "fault" A4)(h38:l9 K hn "wires" "Net.wires" AW)(h39:di K "copied_net" A2)(h40:di K "copied_books" A1)(h41:l9 K hS "__init__" "Run.__init__" AX)(h42:di K "breaking" A0)(h43:di K "_law_kinds" Br)(h44:di K "_law_right" Bu)(h45:di K "_law_mixed" Bs)(h46:di K "_law_bad_plan" Bm)(h47:di K "_law_bad_books" Bl)(h48:di K "law" oe)(z_ValueError:PySem.W.nsIn K mainGlobals "ValueError"=some none)(z_all:PySem.W.nsIn K mainGlobals "all"=some none)(z_bool:PySem.W.nsIn K mainGlobals "bool"=some none)(z_enumerate:PySem.W.nsIn K mainGlobals "enumerate"=some none)(z_int:PySem.W.nsIn K mainGlobals "int"=some none)(z_isinstance:PySem.W.nsIn K mainGlobals "isinstance"=some none)(z_len:PySem.W.nsIn K mainGlobals "len"=some none)(z_list:PySem.W.nsIn K mainGlobals "list"=some none)(z_range:PySem.W.nsIn K mainGlobals "range"=some none)(z_set:PySem.W.nsIn K mainGlobals "set"=some none)(z_str:PySem.W.nsIn K mainGlobals "str"=some none)(z_tuple:PySem.W.nsIn K mainGlobals "tuple"=some none)(z_zip:PySem.W.nsIn K mainGlobals "zip"=some none)(z_GREATEST_ADDRESS:PySem.W.nsIn K mainGlobals "GREATEST_ADDRESS"=some (some (.int 15 Xl)))(z_MOST_DOORS:PySem.W.nsIn K mainGlobals "MOST_DOORS"=some (some (.int 4 Xm)))(z_MOST_HOUSES:PySem.W.nsIn K mainGlobals "MOST_HOUSES"=some (some (.int 6 Xn)))(z_MOST_ROWS:PySem.W.nsIn K mainGlobals "MOST_ROWS"=some (some (.int 12 Xo)))(z_MOST_STEPS:PySem.W.nsIn K mainGlobals "MOST_STEPS"=some (some (.int 40 Xp)))(z_SIGNS:PySem.W.nsIn K mainGlobals "SIGNS"=some (some (.ref xN)))(y_SIGNS:K.lookup xN=some ⟨.type "tuple",Mr,.seq #[.str (PySem.Str.ofString "0") Xq,.str (PySem.Str.ofString "1") Xr,.str (PySem.Str.ofString "x") Xs] SM,WR⟩)(z_WAIT:PySem.W.nsIn K mainGlobals "WAIT"=some (some (.ref xO)))(y_WAIT:K.lookup xO=some ⟨.type "tuple",Ms,.seq #[.str (PySem.Str.ofString "wait") Xt] SN,WS⟩)(z_WORTHS:PySem.W.nsIn K mainGlobals "WORTHS"=some (some (.ref xP)))(y_WORTHS:K.lookup xP=some ⟨.type "tuple",Mt,.seq #[.int 8 Xu,.int 4 Xv,.int 2 Xw,.int 1 Xx] SO,WT⟩):yd K mg where
 g4:=⟨hn,n_Net,⟨g1_Net,g2_Net,g3_Net,g4_Net⟩,(List.forall_mem_cons.2 ⟨u_Net_many,(List.forall_mem_cons.2 ⟨u_Net_counts,(List.forall_mem_cons.2 ⟨u_Net_joined,(List.forall_mem_cons.2 ⟨u_Net_far,(fun _ h=>absurd h List.not_mem_nil)⟩)⟩)⟩)⟩)⟩
 nP:=⟨hS,n_Run,⟨g1_Run,g2_Run,g3_Run,g4_Run⟩,(List.forall_mem_cons.2 ⟨u_Run_net,(List.forall_mem_cons.2 ⟨u_Run_books,(List.forall_mem_cons.2 ⟨u_Run_plan,(List.forall_mem_cons.2 ⟨u_Run_done,(List.forall_mem_cons.2 ⟨u_Run_came,(List.forall_mem_cons.2 ⟨u_Run_letters,(List.forall_mem_cons.2 ⟨u_Run_ended,(fun _ h=>absurd h List.not_mem_nil)⟩)⟩)⟩)⟩)⟩)⟩)⟩)⟩
 Kq:=⟨⟨d6,n_NoBooks,PySem.W.mg_of X G n_NoBooks,e1_NoBooks⟩⟩
 Kr:=⟨⟨d7,n_NoPlan,PySem.W.mg_of X G n_NoPlan,e1_NoPlan⟩⟩
 JV:=⟨⟨uh,PySem.W.mg_of X G n_NoAddress,⟨spc0,tkc0,(gH ⟨d6,n_NoBooks,⟨ga_NoBooks,gn_NoBooks,cl_NoBooks,sb_NoBooks,mo_NoBooks,(by rw[ct_NoBooks];rfl)⟩,ki_NoBooks_NoAddress⟩ (gH ⟨d7,n_NoPlan,⟨ga_NoPlan,gn_NoPlan,cl_NoPlan,sb_NoPlan,mo_NoPlan,(by rw[ct_NoPlan];rfl)⟩,ki_NoPlan_NoAddress⟩ lI))⟩⟩⟩
 JW:=⟨⟨d6,PySem.W.mg_of X G n_NoBooks,⟨spc0,tkc0,(gH ⟨d6,n_NoBooks,⟨ga_NoBooks,gn_NoBooks,cl_NoBooks,sb_NoBooks,mo_NoBooks,(by rw[ct_NoBooks];rfl)⟩,ki_NoBooks_NoBooks⟩ (gH ⟨d7,n_NoPlan,⟨ga_NoPlan,gn_NoPlan,cl_NoPlan,sb_NoPlan,mo_NoPlan,(by rw[ct_NoPlan];rfl)⟩,ki_NoPlan_NoBooks⟩ lI))⟩⟩⟩
 JX:=⟨⟨ui,PySem.W.mg_of X G n_NoDoor,⟨spc0,tkc0,(gH ⟨d6,n_NoBooks,⟨ga_NoBooks,gn_NoBooks,cl_NoBooks,sb_NoBooks,mo_NoBooks,(by rw[ct_NoBooks];rfl)⟩,ki_NoBooks_NoDoor⟩ (gH ⟨d7,n_NoPlan,⟨ga_NoPlan,gn_NoPlan,cl_NoPlan,sb_NoPlan,mo_NoPlan,(by rw[ct_NoPlan];rfl)⟩,ki_NoPlan_NoDoor⟩ lI))⟩⟩⟩
 JY:=⟨⟨uj,PySem.W.mg_of X G n_NoMove,⟨spc0,tkc0,(gH ⟨d6,n_NoBooks,⟨ga_NoBooks,gn_NoBooks,cl_NoBooks,sb_NoBooks,mo_NoBooks,(by rw[ct_NoBooks];rfl)⟩,ki_NoBooks_NoMove⟩ (gH ⟨d7,n_NoPlan,⟨ga_NoPlan,gn_NoPlan,cl_NoPlan,sb_NoPlan,mo_NoPlan,(by rw[ct_NoPlan];rfl)⟩,ki_NoPlan_NoMove⟩ lI))⟩⟩⟩
 JZ:=⟨⟨uk,PySem.W.mg_of X G n_NoNet,⟨spc0,tkc0,(gH ⟨d6,n_NoBooks,⟨ga_NoBooks,gn_NoBooks,cl_NoBooks,sb_NoBooks,mo_NoBooks,(by rw[ct_NoBooks];rfl)⟩,ki_NoBooks_NoNet⟩ (gH ⟨d7,n_NoPlan,⟨ga_NoPlan,gn_NoPlan,cl_NoPlan,sb_NoPlan,mo_NoPlan,(by rw[ct_NoPlan];rfl)⟩,ki_NoPlan_NoNet⟩ lI))⟩⟩⟩
 J0:=⟨⟨d7,PySem.W.mg_of X G n_NoPlan,⟨spc0,tkc0,(gH ⟨d6,n_NoBooks,⟨ga_NoBooks,gn_NoBooks,cl_NoBooks,sb_NoBooks,mo_NoBooks,(by rw[ct_NoBooks];rfl)⟩,ki_NoBooks_NoPlan⟩ (gH ⟨d7,n_NoPlan,⟨ga_NoPlan,gn_NoPlan,cl_NoPlan,sb_NoPlan,mo_NoPlan,(by rw[ct_NoPlan];rfl)⟩,ki_NoPlan_NoPlan⟩ lI))⟩⟩⟩
 J1:=⟨⟨um,PySem.W.mg_of X G n_NoRow,⟨spc0,tkc0,(gH ⟨d6,n_NoBooks,⟨ga_NoBooks,gn_NoBooks,cl_NoBooks,sb_NoBooks,mo_NoBooks,(by rw[ct_NoBooks];rfl)⟩,ki_NoBooks_NoRow⟩ (gH ⟨d7,n_NoPlan,⟨ga_NoPlan,gn_NoPlan,cl_NoPlan,sb_NoPlan,mo_NoPlan,(by rw[ct_NoPlan];rfl)⟩,ki_NoPlan_NoRow⟩ lI))⟩⟩⟩
 J2:=⟨⟨uo,PySem.W.mg_of X G n_NoSaying,⟨spc0,tkc0,(gH ⟨d6,n_NoBooks,⟨ga_NoBooks,gn_NoBooks,cl_NoBooks,sb_NoBooks,mo_NoBooks,(by rw[ct_NoBooks];rfl)⟩,ki_NoBooks_NoSaying⟩ (gH ⟨d7,n_NoPlan,⟨ga_NoPlan,gn_NoPlan,cl_NoPlan,sb_NoPlan,mo_NoPlan,(by rw[ct_NoPlan];rfl)⟩,ki_NoPlan_NoSaying⟩ lI))⟩⟩⟩
 J3:=⟨⟨uq,PySem.W.mg_of X G n_NoText,⟨spc0,tkc0,(gH ⟨d6,n_NoBooks,⟨ga_NoBooks,gn_NoBooks,cl_NoBooks,sb_NoBooks,mo_NoBooks,(by rw[ct_NoBooks];rfl)⟩,ki_NoBooks_NoText⟩ (gH ⟨d7,n_NoPlan,⟨ga_NoPlan,gn_NoPlan,cl_NoPlan,sb_NoPlan,mo_NoPlan,(by rw[ct_NoPlan];rfl)⟩,ki_NoPlan_NoText⟩ lI))⟩⟩⟩
 J4:=⟨spc0,tkc0,(gH ⟨d6,n_NoBooks,⟨ga_NoBooks,gn_NoBooks,cl_NoBooks,sb_NoBooks,mo_NoBooks,(by rw[ct_NoBooks];rfl)⟩,ki_NoBooks_ValueError⟩ (gH ⟨d7,n_NoPlan,⟨ga_NoPlan,gn_NoPlan,cl_NoPlan,sb_NoPlan,mo_NoPlan,(by rw[ct_NoPlan];rfl)⟩,ki_NoPlan_ValueError⟩ lI))⟩
 JK:=⟨⟨ur,PySem.W.mg_of X G n_WayError,(D2 ⟨d6,n_NoBooks,em_NoBooks_WayError⟩ (D2 ⟨d7,n_NoPlan,em_NoPlan_WayError⟩ Mg))⟩⟩
 Fc:=dq X G h0 fun _ _ _ _ _ _ us hl=>match us,hl with|[_,_],_=>rfl
 Ff:=dq X G h1 fun _ _ _ _ _ _ us hl=>match us,hl with|[_],_=>rfl
 Fb:=dq X G h2 fun _ _ _ _ _ _ us hl=>match us,hl with|[_,_],_=>rfl
 E4:=dq X G h3 fun _ _ _ _ _ _ us hl=>match us,hl with|[_],_=>rfl
 E5:=dq X G h4 fun _ _ _ _ _ _ us hl=>match us,hl with|[_,_,_],_=>rfl
 EJ:=dq X G h5 fun _ _ _ _ _ _ us hl=>match us,hl with|[_],_=>rfl
 EY:=dq X G h6 fun _ _ _ _ _ _ us hl=>match us,hl with|[_],_=>rfl
 EW:=dq X G h7 fun _ _ _ _ _ _ us hl=>match us,hl with|[_,_],_=>rfl
 E6:=dq X G h8 fun _ _ _ _ _ _ us hl=>match us,hl with|[_,_],_=>rfl
 EN:=dq X G h9 fun _ _ _ _ _ _ us hl=>match us,hl with|[_,_],_=>rfl
 EE:=Hk X G n_Net mk_Net kc_Net h10 fun _ _ _ _ _ _ us hl=>match us,hl with|[_,_,_],_=>rfl
 Fh:=dq X G h11 fun _ _ _ _ _ _ us hl=>match us,hl with|[_,_],_=>rfl
 E9:=dq X G h12 fun _ _ _ _ _ _ us hl=>match us,hl with|[_,_],_=>rfl
 E_:=dq X G h13 fun _ _ _ _ _ _ us hl=>match us,hl with|[_,_,_],_=>rfl
 Fm:=dq X G h14 fun _ _ _ _ _ _ us hl=>match us,hl with|[_],_=>rfl
 EZ:=dq X G h15 fun _ _ _ _ _ _ us hl=>match us,hl with|[_],_=>rfl
 EX:=dq X G h16 fun _ _ _ _ _ _ us hl=>match us,hl with|[_,_],_=>rfl
 E1:=dq X G h17 fun _ _ _ _ _ _ us hl=>match us,hl with|[_,_],_=>rfl
 EU:=dq X G h18 fun _ _ _ _ _ _ us hl=>match us,hl with|[_,_],_=>rfl
 ED:=wt n_Net g1_Net g2_Net g3_Net g4_Net h19 fun _ _ _ _ _ _ us hl=>match us,hl with|[_,_],_=>rfl
 EV:=dq X G h20 fun _ _ _ _ _ _ us hl=>match us,hl with|[_,_],_=>rfl
 Fn:=dq X G h21 fun _ _ _ _ _ _ us hl=>match us,hl with|[_,_],_=>rfl
 E2:=dq X G h22 fun _ _ _ _ _ _ us hl=>match us,hl with|[_,_],_=>rfl
 E0:=dq X G h23 fun _ _ _ _ _ _ us hl=>match us,hl with|[_,_],_=>rfl
 Fo:=dq X G h24 fun _ _ _ _ _ _ us hl=>match us,hl with|[_,_,_,_],_=>rfl
 EF:=wt n_Net g1_Net g2_Net g3_Net g4_Net h25 fun _ _ _ _ _ _ us hl=>match us,hl with|[_],_=>rfl
 ET:=dq X G h26 fun _ _ _ _ _ _ us hl=>match us,hl with|[_],_=>rfl
 ER:=dq X G h27 fun _ _ _ _ _ _ us hl=>match us,hl with|[_,_],_=>rfl
 EI:=dq X G h28 fun _ _ _ _ _ _ us hl=>match us,hl with|[_],_=>rfl
 EP:=dq X G h29 fun _ _ _ _ _ _ us hl=>match us,hl with|[_,_],_=>rfl
 Fp:=dq X G h30 fun _ _ _ _ _ _ us hl=>match us,hl with|[_,_,_],_=>rfl
 EC:=wt n_Net g1_Net g2_Net g3_Net g4_Net h31 fun _ _ _ _ _ _ us hl=>match us,hl with|[_,_],_=>rfl
 Fl:=dq X G h32 fun _ _ _ _ _ _ us hl=>match us,hl with|[_,_,_,_],_=>rfl
 Fq:=dq X G h33 fun _ _ _ _ _ _ us hl=>match us,hl with|[_,_,_,_],_=>rfl
 E3:=dq X G h34 fun _ _ _ _ _ _ us hl=>match us,hl with|[_,_],_=>rfl
 ES:=dq X G h35 fun _ _ _ _ _ _ us hl=>match us,hl with|[_,_,_,_,_,_,_],_=>rfl
 Fi:=dq X G h36 fun _ _ _ _ _ _ us hl=>match us,hl with|[_,_,_,_],_=>rfl
 EO:=dq X G h37 fun _ _ _ _ _ _ us hl=>match us,hl with|[_,_,_,_],_=>rfl
 EG:=wt n_Net g1_Net g2_Net g3_Net g4_Net h38 fun _ _ _ _ _ _ us hl=>match us,hl with|[_],_=>rfl
 EM:=dq X G h39 fun _ _ _ _ _ _ us hl=>match us,hl with|[_],_=>rfl
 EL:=dq X G h40 fun _ _ _ _ _ _ us hl=>match us,hl with|[_],_=>rfl
 EH:=Hk X G n_Run mk_Run kc_Run h41 fun _ _ _ _ _ _ us hl=>match us,hl with|[_,_,_,_,_],_=>rfl
 EK:=dq X G h42 fun _ _ _ _ _ _ us hl=>match us,hl with|[_,_,_,_],_=>rfl
 Fd:=dq X G h43 fun _ _ _ _ _ _ us hl=>match us,hl with|[_,_,_,_,_],_=>rfl
 Fg:=dq X G h44 fun _ _ _ _ _ _ us hl=>match us,hl with|[_,_,_,_,_],_=>rfl
 Fe:=dq X G h45 fun _ _ _ _ _ _ us hl=>match us,hl with|[_,_],_=>rfl
 E8:=dq X G h46 fun _ _ _ _ _ _ us hl=>match us,hl with|[_,_],_=>rfl
 E7:=dq X G h47 fun _ _ _ _ _ _ us hl=>match us,hl with|[_,_],_=>rfl
 NY:=dq X G h48 fun _ _ _ _ _ _ us hl=>match us,hl with|[_],_=>rfl
 Dm:=PySem.W.mg_none_of X G z_ValueError
 oZ:=PySem.W.mg_none_of X G z_all
 Dp:=PySem.W.mg_none_of X G z_bool
 uR:=PySem.W.mg_none_of X G z_enumerate
 Dq:=PySem.W.mg_none_of X G z_int
 fJ:=PySem.W.mg_none_of X G z_isinstance
 fK:=PySem.W.mg_none_of X G z_len
 i1:=PySem.W.mg_none_of X G z_list
 i3:=PySem.W.mg_none_of X G z_range
 Du:=PySem.W.mg_none_of X G z_set
 u0:=PySem.W.mg_none_of X G z_str
 o3:=PySem.W.mg_none_of X G z_tuple
 Dw:=PySem.W.mg_none_of X G z_zip
 nq:=⟨⟨_,_,PySem.W.mg_of X G z_GREATEST_ADDRESS,(mT _ _),fun _=>(mj _)⟩⟩
 qB:=⟨⟨_,_,PySem.W.mg_of X G z_MOST_DOORS,(mT _ _),fun _=>(mj _)⟩⟩
 o5:=⟨⟨_,_,PySem.W.mg_of X G z_MOST_HOUSES,(mT _ _),fun _=>(mj _)⟩⟩
 nr:=⟨⟨_,_,PySem.W.mg_of X G z_MOST_ROWS,(mT _ _),fun _=>(mj _)⟩⟩
 nt:=⟨⟨_,_,PySem.W.mg_of X G z_MOST_STEPS,(mT _ _),fun _=>(mj _)⟩⟩
 qC:=⟨⟨.ref xN,_,PySem.W.mg_of X G z_SIGNS,rfl,B8 y_SIGNS (Nat.le_of_ble_eq_true rfl) (.cons (wV _ _) (.cons (wV _ _) (.cons (wV _ _) .nil))) fun _=>(.cons (uK _) (.cons (uK _) (.cons (uK _) .nil)))⟩⟩
 hy:=⟨⟨.ref xO,_,PySem.W.mg_of X G z_WAIT,rfl,B8 y_WAIT (Nat.le_of_ble_eq_true rfl) (.cons (wV _ _) .nil) fun _=>(.cons (uK _) .nil)⟩⟩
 nu:=⟨⟨.ref xP,_,PySem.W.mg_of X G z_WORTHS,rfl,B8 y_WORTHS (Nat.le_of_ble_eq_true rfl) (.cons (mT _ _) (.cons (mT _ _) (.cons (mT _ _) (.cons (mT _ _) .nil)))) fun _=>(.cons (mj _) (.cons (mj _) (.cons (mj _) (.cons (mj _) .nil))))⟩⟩
set_option maxHeartbeats 4000000 in
theorem all_mk{l:PySem.W.OpenLaw}{w:World}{K:PySem.W.Frag}{h:Heap}{mg:Str→Option Value}{fz:Addr}(X:K.In h)(G:h.Ns mainGlobals mg)(OO:mg "law"=some (.ref fz))(F:di K "law" oe)(T:yd K mg) :
  ∃fd:FuncData,(∀(s:Shared)(v:Value),BindsTo s fd ⟨[v],[]⟩ [("_law_script",v)])∧∀base:Heap,K.In base→base.Ns mainGlobals mg→f7 l.prog w K mg base gK 13 fz fd ["_law_script"] (kS K 1 pM):=by
 obtain⟨f,dv,an,cw,eV,cD,jq,pm,cd,ck,a,lk,c,k⟩:=F.ex;have e:=OO.symm.trans (PySem.W.mg_of X G a);cases e;exact⟨_,fun s v=>.of_eq rfl,fun base _ _=>Y6 (pj (st:=oe) lk c k) jJ (LL T)⟩
theorem R4(K:PySem.W.Frag)(H:ag)(a:Addr)(ns:List Int)(iJ:bU K H a (ns.map V.int)):kS K 1 pM [.ref a] H (fun v _=>v=.au true) (fun _ _ _=>False):=
 R2 (K:=K) (mf:=pM) (H:=H) (a:=a) (ns:=ns) iJ (R3 ns) (fun _ _ _=>False)
theorem YH {l:PySem.W.OpenLaw} {q:Program} {loose:List Str} {qq:(Str→Option Value)→Heap→Prop} {ni:World→Heap→Prop} {d:DefRec} {K:Params→PySem.W.Frag} (aE:l.most=some 63) (sI:d.params.defaults=[])(zz:∀(w:World)(h:Heap),ni w h→(K w.params).In h)(F:∀(w:World)(mg:Str→Option Value)(fz:Addr)(h:Heap),(K w.params).In h→h.Ns mainGlobals mg→mg d.name=some (.ref fz)→
    ∃fd:FuncData,(∀(s:Shared)(u:Value),BindsTo s fd ⟨[u],[]⟩ [("_law_script",u)])∧∀base:Heap,(K w.params).In base→base.Ns mainGlobals mg→f7 l.prog w (K w.params) mg base gK 13 fz fd ["_law_script"] (kS (K w.params) 1 pM)) :
  PySem.W.WalkO q loose qq ni l.row.toRowW d [] (fun f vs=>PySem.call f vs):=
 aQ.YI (n:=63) (k:=13) (x:="_law_script") (CX:=fun _=>gK) (sp:=fun w=>kS (K w.params) 1 pM) aE (by decide) sI ⟨rfl,by decide,by decide⟩ zz F (fun w H a ns _ _ iJ=>R4 (K w.params) H a ns iJ) fun _ _ _ _ _ z=>z
end bP
end
namespace PySem.W.Fast
theorem tw2881571961187943264 : True := trivial
theorem tw9364167404832839404 : True := trivial
theorem tw12302904451153651413 : True := trivial
theorem tw15632815058774106879 : True := trivial
theorem tw3975007892422391274 : True := trivial
theorem tw8900708246128814452 : True := trivial
theorem tw4439227002101000081 : True := trivial
theorem tw9696524561447588721 : True := trivial
theorem tw6872693754318041377 : True := trivial
theorem tw14094430730512753953 : True := trivial
theorem tw6138291690336022413 : True := trivial
theorem tw17727743390332452928 : True := trivial
theorem tw1243153688862842940 : True := trivial
theorem tw16073622754892638661 : True := trivial
theorem tw14807081000130657696 : True := trivial
theorem tw9251065978907814990 : True := trivial
theorem tw9394262161719266922 : True := trivial
theorem tw8908036959202240511 : True := trivial
theorem tw15595384963456959704 : True := trivial
theorem tw5415960781179470098 : True := trivial
theorem tw193836701131770426 : True := trivial
theorem tw14236566157732795878 : True := trivial
theorem tw2699436822617798877 : True := trivial
theorem tw528395574545383708 : True := trivial
theorem tw10174942849110885361 : True := trivial
theorem tw477894866905325460 : True := trivial
theorem tw8389686900883191745 : True := trivial
theorem tw2623196299503537012 : True := trivial
theorem tw16176875102604673500 : True := trivial
theorem tw4894255542688777592 : True := trivial
theorem tw1120082670946125415 : True := trivial
theorem tw15347218754054184122 : True := trivial
theorem tw8071578914440248821 : True := trivial
theorem tw12742676434045970202 : True := trivial
theorem tw483800433231507353 : True := trivial
theorem tw11446873271864535310 : True := trivial
theorem tw6343784481178089473 : True := trivial
theorem tw3785901343989159459 : True := trivial
theorem tw17303652556615618340 : True := trivial
theorem tw1290807199262376818 : True := trivial
theorem tw17163174134426276870 : True := trivial
theorem tw4648982499255130050 : True := trivial
theorem tw12593877989762406913 : True := trivial
theorem tw6288989558644373121 : True := trivial
theorem tw10397818118676871682 : True := trivial
theorem tw14897825867396764678 : True := trivial
theorem tw2831592226787507979 : True := trivial
theorem tw8255715984415632891 : True := trivial
theorem tw12998958620429441735 : True := trivial
theorem tw9188248314056599218 : True := trivial
theorem tw13086974354993335830 : True := trivial
theorem tw1375236168098113751 : True := trivial
theorem tw4841843052886121069 : True := trivial
theorem tw12718003161403550464 : True := trivial
theorem tw10729503714572082750 : True := trivial
theorem tw10616870316060971465 : True := trivial
theorem tw10723241122145978015 : True := trivial
theorem tw15157707466062449606 : True := trivial
theorem tw9280448920725979189 : True := trivial
theorem tw4428344787678567215 : True := trivial
theorem tw13098618939319047858 : True := trivial
theorem tw12422116079748034765 : True := trivial
theorem tw5259446508756241848 : True := trivial
theorem tw9041796812121640800 : True := trivial
theorem tw16559856262492237438 : True := trivial
theorem tw11136055335590786313 : True := trivial
theorem tw1168607234044850903 : True := trivial
theorem tw9469651456702809772 : True := trivial
theorem tw8643545532288204883 : True := trivial
theorem tw13757467710021937115 : True := trivial
theorem tw17975376174752909057 : True := trivial
theorem tw16889662970355488696 : True := trivial
theorem tw998976166066374450 : True := trivial
theorem tw10208839561491866430 : True := trivial
theorem tw12655995132728810781 : True := trivial
theorem tw3468264664513983966 : True := trivial
theorem tw17833779913042977270 : True := trivial
theorem tw11812652894139220983 : True := trivial
theorem tw7938127280976191341 : True := trivial
theorem tw3122970806382114540 : True := trivial
theorem tw15493487210395980659 : True := trivial
theorem tw8470746686092778283 : True := trivial
theorem tw8135127449350278482 : True := trivial
theorem tw8421155027820107338 : True := trivial
theorem tw4235903977730936750 : True := trivial
theorem tw9850068119480169648 : True := trivial
theorem tw2385862234856507241 : True := trivial
theorem tw1389783760336973560 : True := trivial
theorem tw11100179747406345368 : True := trivial
theorem tw4220872933819612333 : True := trivial
theorem tw8799443962705535908 : True := trivial
theorem tw8603923780238068489 : True := trivial
theorem tw14832062021553853599 : True := trivial
theorem tw7864650995884017356 : True := trivial
theorem tw14054670556221111937 : True := trivial
theorem tw5553666723136411004 : True := trivial
theorem tw5794341034031524714 : True := trivial
theorem tw14165474329768260899 : True := trivial
theorem tw16700052721148305571 : True := trivial
theorem tw3390191682230406318 : True := trivial
theorem tw3176835276294133793 : True := trivial
theorem tw14084467512468249160 : True := trivial
theorem tw317953808703052571 : True := trivial
theorem tw910305248232658814 : True := trivial
theorem tw3535754330851145171 : True := trivial
theorem tw12582997834735655781 : True := trivial
theorem tw6805493279580274293 : True := trivial
theorem tw13711013209705875717 : True := trivial
theorem tw7319225370398075746 : True := trivial
theorem tw6904043210167711687 : True := trivial
theorem tw3159461249036138074 : True := trivial
theorem tw11416547876125060562 : True := trivial
theorem tw15402160874917699815 : True := trivial
theorem tw4302534361631846344 : True := trivial
theorem tw7493051391853617927 : True := trivial
theorem tw13984435633026028430 : True := trivial
theorem tw1607124416523993685 : True := trivial
theorem tw5078354218475893880 : True := trivial
theorem tw16749069794337519192 : True := trivial
theorem tw11278054797571210047 : True := trivial
theorem tw16810521320286893299 : True := trivial
end PySem.W.Fast
open PySem PySem.W PyProof.Rows
set_option maxRecDepth 100000 in
set_option maxHeartbeats 0 in
theorem PySem.Challenge.cw_nohalfway_k24_faults_refused_holds : PySem.Challenge.rw_nohalfway_k24_faults_refused.Holds := by
 w_on;o_law;k_head;(case hw=>w_witness2)
 k_fill
 refine bP.YH (l:=PySem.Challenge.rw_nohalfway_k24_faults_refused) rfl rfl (fun w h Y=>PySem.W.kIn_of Y) ?F
 case F=>
  intro w mg fz h ky G sM
  refine' bP.all_mk ky G sM ?h48 (bP.X8 ky G ?n_Net ?g1_Net ?g2_Net ?g3_Net ?g4_Net ?u_Net_many ?u_Net_counts ?u_Net_joined ?u_Net_far ?mk_Net ?kc_Net ?n_Run ?g1_Run ?g2_Run ?g3_Run ?g4_Run ?u_Run_net ?u_Run_books ?u_Run_plan ?u_Run_done ?u_Run_came ?u_Run_letters ?u_Run_ended ?mk_Run ?kc_Run ?n_NoBooks ?ct_NoBooks ?e1_NoBooks ?ga_NoBooks ?gn_NoBooks ?cl_NoBooks ?sb_NoBooks ?mo_NoBooks ?n_NoPlan ?ct_NoPlan ?e1_NoPlan ?ga_NoPlan ?gn_NoPlan ?cl_NoPlan ?sb_NoPlan ?mo_NoPlan ?spc0 ?tkc0 ?n_NoAddress ?ki_NoBooks_NoAddress ?ki_NoPlan_NoAddress ?ki_NoBooks_NoBooks ?ki_NoPlan_NoBooks ?n_NoDoor ?ki_NoBooks_NoDoor ?ki_NoPlan_NoDoor ?n_NoMove ?ki_NoBooks_NoMove ?ki_NoPlan_NoMove ?n_NoNet ?ki_NoBooks_NoNet ?ki_NoPlan_NoNet ?ki_NoBooks_NoPlan ?ki_NoPlan_NoPlan ?n_NoRow ?ki_NoBooks_NoRow ?ki_NoPlan_NoRow ?n_NoSaying ?ki_NoBooks_NoSaying ?ki_NoPlan_NoSaying ?n_NoText ?ki_NoBooks_NoText ?ki_NoPlan_NoText ?ki_NoBooks_ValueError ?ki_NoPlan_ValueError ?n_WayError ?em_NoBooks_WayError ?em_NoPlan_WayError ?h0 ?h1 ?h2 ?h3 ?h4 ?h5 ?h6 ?h7 ?h8 ?h9 ?h10 ?h11 ?h12 ?h13 ?h14 ?h15 ?h16 ?h17 ?h18 ?h19 ?h20 ?h21 ?h22 ?h23 ?h24 ?h25 ?h26 ?h27 ?h28 ?h29 ?h30 ?h31 ?h32 ?h33 ?h34 ?h35 ?h36 ?h37 ?h38 ?h39 ?h40 ?h41 ?h42 ?h43 ?h44 ?h45 ?h46 ?h47 ?h48 ?z_ValueError ?z_all ?z_bool ?z_enumerate ?z_int ?z_isinstance ?z_len ?z_list ?z_range ?z_set ?z_str ?z_tuple ?z_zip ?z_GREATEST_ADDRESS ?z_MOST_DOORS ?z_MOST_HOUSES ?z_MOST_ROWS ?z_MOST_STEPS ?z_SIGNS ?y_SIGNS ?z_WAIT ?y_WAIT ?z_WORTHS ?y_WORTHS)
  (case n_Net=>k_is)
  (case g1_Net=>k_is)
  (case g2_Net=>k_is)
  (case g3_Net=>k_is)
  (case g4_Net=>k_is)
  (case u_Net_many=>k_is)
  (case u_Net_counts=>k_is)
  (case u_Net_joined=>k_is)
  (case u_Net_far=>k_is)
  (case mk_Net=>k_is)
  (case kc_Net=>k_is)
  (case n_Run=>k_is)
  (case g1_Run=>k_is)
  (case g2_Run=>k_is)
  (case g3_Run=>k_is)
  (case g4_Run=>k_is)
  (case u_Run_net=>k_is)
  (case u_Run_books=>k_is)
  (case u_Run_plan=>k_is)
  (case u_Run_done=>k_is)
  (case u_Run_came=>k_is)
  (case u_Run_letters=>k_is)
  (case u_Run_ended=>k_is)
  (case mk_Run=>k_is)
  (case kc_Run=>k_is)
  (case n_NoBooks=>k_is)
  (case ct_NoBooks=>k_is)
  (case e1_NoBooks=>k_exc)
  (case ga_NoBooks=>k_is)
  (case gn_NoBooks=>k_is)
  (case cl_NoBooks=>k_is)
  (case sb_NoBooks=>k_is)
  (case mo_NoBooks=>k_is)
  (case n_NoPlan=>k_is)
  (case ct_NoPlan=>k_is)
  (case e1_NoPlan=>k_exc)
  (case ga_NoPlan=>k_is)
  (case gn_NoPlan=>k_is)
  (case cl_NoPlan=>k_is)
  (case sb_NoPlan=>k_is)
  (case mo_NoPlan=>k_is)
  (case spc0=>k_is)
  (case tkc0=>k_is)
  (case n_NoAddress=>k_is)
  (case ki_NoBooks_NoAddress=>kit_is)
  (case ki_NoPlan_NoAddress=>kit_is)
  (case ki_NoBooks_NoBooks=>kit_is)
  (case ki_NoPlan_NoBooks=>kit_is)
  (case n_NoDoor=>k_is)
  (case ki_NoBooks_NoDoor=>kit_is)
  (case ki_NoPlan_NoDoor=>kit_is)
  (case n_NoMove=>k_is)
  (case ki_NoBooks_NoMove=>kit_is)
  (case ki_NoPlan_NoMove=>kit_is)
  (case n_NoNet=>k_is)
  (case ki_NoBooks_NoNet=>kit_is)
  (case ki_NoPlan_NoNet=>kit_is)
  (case ki_NoBooks_NoPlan=>kit_is)
  (case ki_NoPlan_NoPlan=>kit_is)
  (case n_NoRow=>k_is)
  (case ki_NoBooks_NoRow=>kit_is)
  (case ki_NoPlan_NoRow=>kit_is)
  (case n_NoSaying=>k_is)
  (case ki_NoBooks_NoSaying=>kit_is)
  (case ki_NoPlan_NoSaying=>kit_is)
  (case n_NoText=>k_is)
  (case ki_NoBooks_NoText=>kit_is)
  (case ki_NoPlan_NoText=>kit_is)
  (case ki_NoBooks_ValueError=>kit_is)
  (case ki_NoPlan_ValueError=>kit_is)
  (case n_WayError=>k_is)
  (case em_NoBooks_WayError=>kts_exm)
  (case em_NoPlan_WayError=>kts_exm)
  (case z_ValueError=>k_is)
  (case z_all=>k_is)
  (case z_bool=>k_is)
  (case z_enumerate=>k_is)
  (case z_int=>k_is)
  (case z_isinstance=>k_is)
  (case z_len=>k_is)
  (case z_list=>k_is)
  (case z_range=>k_is)
  (case z_set=>k_is)
  (case z_str=>k_is)
  (case z_tuple=>k_is)
  (case z_zip=>k_is)
  (case z_GREATEST_ADDRESS=>k_is)
  (case z_MOST_DOORS=>k_is)
  (case z_MOST_HOUSES=>k_is)
  (case z_MOST_ROWS=>k_is)
  (case z_MOST_STEPS=>k_is)
  (case z_SIGNS=>k_is)
  (case y_SIGNS=>k_is)
  (case z_WAIT=>k_is)
  (case y_WAIT=>k_is)
  (case z_WORTHS=>k_is)
  (case y_WORTHS=>k_is)
  (case h0=>(refine' bP.dr ?a ?l ?c ?k;(case a=>k_is);(case l=>k_is);(case c=>k_is);(case k=>k_is)))
  (case h1=>(refine' bP.dr ?a ?l ?c ?k;(case a=>k_is);(case l=>k_is);(case c=>k_is);(case k=>k_is)))
  (case h2=>(refine' bP.dr ?a ?l ?c ?k;(case a=>k_is);(case l=>k_is);(case c=>k_is);(case k=>k_is)))
  (case h3=>(refine' bP.dr ?a ?l ?c ?k;(case a=>k_is);(case l=>k_is);(case c=>k_is);(case k=>k_is)))
  (case h4=>(refine' bP.dr ?a ?l ?c ?k;(case a=>k_is);(case l=>k_is);(case c=>k_is);(case k=>k_is)))
  (case h5=>(refine' bP.dr ?a ?l ?c ?k;(case a=>k_is);(case l=>k_is);(case c=>k_is);(case k=>k_is)))
  (case h6=>(refine' bP.dr ?a ?l ?c ?k;(case a=>k_is);(case l=>k_is);(case c=>k_is);(case k=>k_is)))
  (case h7=>(refine' bP.dr ?a ?l ?c ?k;(case a=>k_is);(case l=>k_is);(case c=>k_is);(case k=>k_is)))
  (case h8=>(refine' bP.dr ?a ?l ?c ?k;(case a=>k_is);(case l=>k_is);(case c=>k_is);(case k=>k_is)))
  (case h9=>(refine' bP.dr ?a ?l ?c ?k;(case a=>k_is);(case l=>k_is);(case c=>k_is);(case k=>k_is)))
  (case h10=>(refine' bP.rl ?a ?l ?c ?k ?i;(case a=>k_is);(case l=>k_is);(case c=>k_is);(case k=>k_is);(case i=>k_is)))
  (case h11=>(refine' bP.dr ?a ?l ?c ?k;(case a=>k_is);(case l=>k_is);(case c=>k_is);(case k=>k_is)))
  (case h12=>(refine' bP.dr ?a ?l ?c ?k;(case a=>k_is);(case l=>k_is);(case c=>k_is);(case k=>k_is)))
  (case h13=>(refine' bP.dr ?a ?l ?c ?k;(case a=>k_is);(case l=>k_is);(case c=>k_is);(case k=>k_is)))
  (case h14=>(refine' bP.dr ?a ?l ?c ?k;(case a=>k_is);(case l=>k_is);(case c=>k_is);(case k=>k_is)))
  (case h15=>(refine' bP.dr ?a ?l ?c ?k;(case a=>k_is);(case l=>k_is);(case c=>k_is);(case k=>k_is)))
  (case h16=>(refine' bP.dr ?a ?l ?c ?k;(case a=>k_is);(case l=>k_is);(case c=>k_is);(case k=>k_is)))
  (case h17=>(refine' bP.dr ?a ?l ?c ?k;(case a=>k_is);(case l=>k_is);(case c=>k_is);(case k=>k_is)))
  (case h18=>(refine' bP.dr ?a ?l ?c ?k;(case a=>k_is);(case l=>k_is);(case c=>k_is);(case k=>k_is)))
  (case h19=>(refine' bP.rl ?a ?l ?c ?k ?i;(case a=>k_is);(case l=>k_is);(case c=>k_is);(case k=>k_is);(case i=>k_is)))
  (case h20=>(refine' bP.dr ?a ?l ?c ?k;(case a=>k_is);(case l=>k_is);(case c=>k_is);(case k=>k_is)))
  (case h21=>(refine' bP.dr ?a ?l ?c ?k;(case a=>k_is);(case l=>k_is);(case c=>k_is);(case k=>k_is)))
  (case h22=>(refine' bP.dr ?a ?l ?c ?k;(case a=>k_is);(case l=>k_is);(case c=>k_is);(case k=>k_is)))
  (case h23=>(refine' bP.dr ?a ?l ?c ?k;(case a=>k_is);(case l=>k_is);(case c=>k_is);(case k=>k_is)))
  (case h24=>(refine' bP.dr ?a ?l ?c ?k;(case a=>k_is);(case l=>k_is);(case c=>k_is);(case k=>k_is)))
  (case h25=>(refine' bP.rl ?a ?l ?c ?k ?i;(case a=>k_is);(case l=>k_is);(case c=>k_is);(case k=>k_is);(case i=>k_is)))
  (case h26=>(refine' bP.dr ?a ?l ?c ?k;(case a=>k_is);(case l=>k_is);(case c=>k_is);(case k=>k_is)))
  (case h27=>(refine' bP.dr ?a ?l ?c ?k;(case a=>k_is);(case l=>k_is);(case c=>k_is);(case k=>k_is)))
  (case h28=>(refine' bP.dr ?a ?l ?c ?k;(case a=>k_is);(case l=>k_is);(case c=>k_is);(case k=>k_is)))
  (case h29=>(refine' bP.dr ?a ?l ?c ?k;(case a=>k_is);(case l=>k_is);(case c=>k_is);(case k=>k_is)))
  (case h30=>(refine' bP.dr ?a ?l ?c ?k;(case a=>k_is);(case l=>k_is);(case c=>k_is);(case k=>k_is)))
  (case h31=>(refine' bP.rl ?a ?l ?c ?k ?i;(case a=>k_is);(case l=>k_is);(case c=>k_is);(case k=>k_is);(case i=>k_is)))
  (case h32=>(refine' bP.dr ?a ?l ?c ?k;(case a=>k_is);(case l=>k_is);(case c=>k_is);(case k=>k_is)))
  (case h33=>(refine' bP.dr ?a ?l ?c ?k;(case a=>k_is);(case l=>k_is);(case c=>k_is);(case k=>k_is)))
  (case h34=>(refine' bP.dr ?a ?l ?c ?k;(case a=>k_is);(case l=>k_is);(case c=>k_is);(case k=>k_is)))
  (case h35=>(refine' bP.dr ?a ?l ?c ?k;(case a=>k_is);(case l=>k_is);(case c=>k_is);(case k=>k_is)))
  (case h36=>(refine' bP.dr ?a ?l ?c ?k;(case a=>k_is);(case l=>k_is);(case c=>k_is);(case k=>k_is)))
  (case h37=>(refine' bP.dr ?a ?l ?c ?k;(case a=>k_is);(case l=>k_is);(case c=>k_is);(case k=>k_is)))
  (case h38=>(refine' bP.rl ?a ?l ?c ?k ?i;(case a=>k_is);(case l=>k_is);(case c=>k_is);(case k=>k_is);(case i=>k_is)))
  (case h39=>(refine' bP.dr ?a ?l ?c ?k;(case a=>k_is);(case l=>k_is);(case c=>k_is);(case k=>k_is)))
  (case h40=>(refine' bP.dr ?a ?l ?c ?k;(case a=>k_is);(case l=>k_is);(case c=>k_is);(case k=>k_is)))
  (case h41=>(refine' bP.rl ?a ?l ?c ?k ?i;(case a=>k_is);(case l=>k_is);(case c=>k_is);(case k=>k_is);(case i=>k_is)))
  (case h42=>(refine' bP.dr ?a ?l ?c ?k;(case a=>k_is);(case l=>k_is);(case c=>k_is);(case k=>k_is)))
  (case h43=>(refine' bP.dr ?a ?l ?c ?k;(case a=>k_is);(case l=>k_is);(case c=>k_is);(case k=>k_is)))
  (case h44=>(refine' bP.dr ?a ?l ?c ?k;(case a=>k_is);(case l=>k_is);(case c=>k_is);(case k=>k_is)))
  (case h45=>(refine' bP.dr ?a ?l ?c ?k;(case a=>k_is);(case l=>k_is);(case c=>k_is);(case k=>k_is)))
  (case h46=>(refine' bP.dr ?a ?l ?c ?k;(case a=>k_is);(case l=>k_is);(case c=>k_is);(case k=>k_is)))
  (case h47=>(refine' bP.dr ?a ?l ?c ?k;(case a=>k_is);(case l=>k_is);(case c=>k_is);(case k=>k_is)))
  (case h48=>(refine' bP.dr ?a ?l ?c ?k;(case a=>k_is);(case l=>k_is);(case c=>k_is);(case k=>k_is)))
