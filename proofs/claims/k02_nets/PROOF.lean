import PyProof.Rows.All
import Wide.All
import OpenK.AllK
import Wide.FinOn
import Lean
import PyProof.EqAt
import PyProof.EqKinds
import PyProof.TupleCall
import PyProof.NeKinds
import KE.KIsAll
import PyProof.ExcArgsOwn
import PySem.SetOps
import PyProof.TupleKey
import PyProof.SetKind
import PyProof.IsRules
import PyProof.Rows.SetFrom
import PyProof.Rows.SortShellK
import PyProof.DictKinds
import PyProof.FactsAll.tuple_2
import PyProof.SetRoads
import PyProof.AutoListH
import PyProof.SumAny
import KE.RegKIsAll
import KE.RegKTryMore
import PySem.Challenge.RW_nohalfway_k02_nets
set_option Elab.async false
set_option linter.all false
set_option maxRecDepth 100000
noncomputable section
namespace aV
open PySem PySem.Spec PyProof.Rows
abbrev Key:=Sum Int Str
def n9:Key→Value→Bool
 |.inl k,v=>Value.isInt k v
 |.inr x,v=>Value.isStrOf x v
def J8(w:World):Key→Int
 |.inl k=>hashInt k
 |.inr x=>hashStr w x
theorem kL:∀{k:Key}{v:Value},n9 k v=true→(∃i t,k=Sum.inl i∧v=Value.int i t)∨(∃x t,k=Sum.inr x∧v=Value.str x t)
 |.inl i,v,h=>by obtain⟨t,e⟩:=Value.isInt_shape (k:=i) (v:=v) h;exact .inl ⟨i,t,rfl,e⟩
 |.inr x,v,h=>by obtain⟨t,e⟩:=Value.isStrOf_shape (x:=x) (v:=v) h;exact .inr ⟨x,t,rfl,e⟩
theorem J9(i:Int)(t:Tok):n9 (.inl i) (.int i t)=true:=by simp[n9,Value.isInt]
theorem J_(x:Str)(t:Tok):n9 (.inr x) (.str x t)=true:=by simp[n9,Value.isStrOf]
theorem Kd(a b:Int):decide ((Sum.inl a:Key)=Sum.inl b)=(a==b):=by
 by_cases e:a=b
 ·subst e;simp
 ·have h:¬(Sum.inl a:Key)=Sum.inl b:=fun q=>e (Sum.inl.inj q);rw[decide_eq_false h];exact(beq_eq_false_iff_ne.mpr e).symm
theorem Kg(a b:Str):decide ((Sum.inr a:Key)=Sum.inr b)=decide (a=b):=by
 by_cases e:a=b
 ·subst e;simp
 ·have h:¬(Sum.inr a:Key)=Sum.inr b:=fun q=>e (Sum.inr.inj q);rw[decide_eq_false h,decide_eq_false e]
theorem Ke(a:Int)(b:Str):decide ((Sum.inl a:Key)=Sum.inr b)=false:=decide_eq_false (fun q=>nomatch q)
theorem Kf(a:Str)(b:Int):decide ((Sum.inr a:Key)=Sum.inl b)=false:=decide_eq_false (fun q=>nomatch q)
noncomputable def gK(prog:Program)(w:World):PySem.KeyKind prog w Key where
 is:=n9
 hash:=J8 w
 inj:=fun v a b ha hb=>by
  rcases kL ha with⟨i,t,rfl,rfl⟩|⟨x,t,rfl,rfl⟩
  ·rcases kL hb with⟨j,u,rfl,e⟩|⟨y,u,rfl,e⟩
   ·injection e with ai _;rw[ai]
   ·exact nomatch e
  ·rcases kL hb with⟨j,u,rfl,e⟩|⟨y,u,rfl,e⟩
   ·exact nomatch e
   ·injection e with ai _;rw[ai]
 byValue:=fun k v h=>by rcases kL h with⟨i,t,rfl,rfl⟩|⟨x,t,rfl,rfl⟩<;>rfl
 pyHash:=fun hv h=>by
  rcases kL hv with⟨i,t,rfl,rfl⟩|⟨x,t,rfl,rfl⟩
  ·exact wpAny_pyHash_int h
  ·exact wpAny_pyHash_str h
 eqBool:=fun hu hv h=>by
  rcases kL hu with⟨i,t,rfl,rfl⟩|⟨x,t,rfl,rfl⟩
  ·rcases kL hv with⟨j,u,rfl,rfl⟩|⟨y,u,rfl,rfl⟩
   ·rw[Kd]at h;exact wpAny_eqBool_int h
   ·rw[Ke]at h;exact SeqAt.EqAt.int_str i t y u _ _ _ _ h
  ·rcases kL hv with⟨j,u,rfl,rfl⟩|⟨y,u,rfl,rfl⟩
   ·rw[Kf]at h;exact SeqAt.EqAt.str_int x t j u _ _ _ _ h
   ·rw[Kg]at h;exact wpAny_eqBool_str h
 «strs»:=fun k x t v h=>by
  rcases kL h with⟨i,u,rfl,e⟩|⟨y,u,rfl,e⟩
  ·exact nomatch e
  ·injection e with ai _;subst ai;cases v<;>rfl
theorem Lf(prog:Program)(w:World)(i:Int)(t:Tok):(gK prog w).is (.inl i) (.int i t)=true:=J9 i t
theorem Lg(prog:Program)(w:World)(x:Str)(t:Tok):(gK prog w).is (.inr x) (.str x t)=true:=J_ x t
inductive V where
 |non|aq (b:Bool)|int (i:Int)|str (x:Str)|lA (b:Array UInt8)|sd (b:UInt64)|ref (a:Addr)|ty (n:String)
 deriving DecidableEq
noncomputable def RelV:V→Value→Prop
 |.non,u=>u=Value.none
 |.aq b,u=>u=Value.bool b
 |.int i,u=>∃t,u=Value.int i t
 |.str x,u=>∃t,u=Value.str x t
 |.lA b,u=>∃t,u=Value.bytes b t
 |.sd b,u=>∃t,u=Value.float b t
 |.ref a,u=>u=Value.ref a
 |.ty n,u=>u=Value.type n
abbrev Vals:List V→List Value→Prop:=Paired RelV
theorem Vals.length{xs:List V}{us:List Value}(r:Vals xs us):xs.length=us.length:=Paired.length r
theorem Vals.get:∀{xs:List V}{us:List Value}{i:Nat}{x:V},Vals xs us→xs[i]?=some x→∃u,us[i]?=some u∧RelV x u
 |_,_,_,_,.nil,e=>by simp at e
 |_,_,0,_,.cons r _,e=>by simp at e;subst e;exact⟨_,rfl,r⟩
 |_,_,i+1,x,.cons _ t,e=>by obtain⟨u,h1,h2⟩:=Vals.get (i:=i) (x:=x) t (by simpa using e);exact⟨u,by simpa using h1,h2⟩
theorem Vals.set{x:V}{u:Value}(r:RelV x u):∀{xs:List V}{us:List Value}(i:Nat),Vals xs us→Vals (xs.set i x) (us.set i u)
 |_,_,_,.nil=>.nil
 |_,_,0,.cons _ t=>.cons r t
 |_,_,i+1,.cons q t=>.cons q (Vals.set r i t)
theorem Vals.append:∀{xs ys:List V}{us ws:List Value},Vals xs us→Vals ys ws→Vals (xs++ys) (us++ws)
 |_,_,_,_,.nil,s=>s
 |_,_,_,_,.cons r t,s=>.cons r (Vals.append t s)
theorem Vals.take:∀{xs:List V}{us:List Value}(n:Nat),Vals xs us→Vals (xs.take n) (us.take n)
 |_,_,0,_=>.nil
 |_,_,_+1,.nil=>.nil
 |_,_,n+1,.cons r t=>.cons r (Vals.take n t)
theorem Vals.drop:∀{xs:List V}{us:List Value}(n:Nat),Vals xs us→Vals (xs.drop n) (us.drop n)
 |_,_,0,r=>r
 |_,_,_+1,.nil=>.nil
 |_,_,n+1,.cons _ t=>Vals.drop n t
def gz:Option V→Option Value→Prop
 |some v,some u=>RelV v u
 |none,none=>True
 |_,_=>False
def e3{κ:Type}:List (κ×V)→List (κ×Value)→Prop:=Paired fun(p:κ×V)(q:κ×Value)=>p.1=q.1∧RelV p.2 q.2
def cb:Key→V
 |.inl i=>.int i
 |.inr x=>.str x
inductive cJ where
 |lst (xs:List V)
 |tup (xs:List V)
 |cj (aS:List (Key×V))|a4 (aS:List (List Key×V))
 |set (S:Int→Bool) (n:Nat)
 |ins (C aJ:Addr) (aK:List (Str×V))
 |own (x:Addr)
 |t5 (aK:List (Str×V))
 |met (f x:Addr)
 |tv (lo hi:Int)
 |iu (o:Obj) (u:cJ)
 |l4 (aD:Array Value)
 |ext (nz:Heap→Prop)
abbrev J:=Addr→Option cJ
def upd(H:J)(a:Addr)(o:cJ):J:=fun b=>if b=a then some o else H b
theorem c3{H:J}{a:Addr}{o:cJ}:upd H a o a=some o:=by unfold upd;rw[if_pos rfl]
theorem cf{H:J}{a b:Addr}{o:cJ}(h:b≠a):upd H a o b=H b:=by unfold upd;rw[if_neg h]
theorem Lo{H:J}{a b:Addr}{o u:cJ}(h:H a=some o)(h':H b=some u)(d:o≠u):a≠b:=by intro e;subst e;rw[h]at h';exact d (Option.some.inj h')
theorem hz{H:J}{a b:Addr}{o:cJ}(h:H a=some o)(h':H b=none):a≠b:=by intro e;subst e;rw[h]at h';cases h'
section
variable(P:Program)(w:World)
noncomputable def dG(H:J)(h:Heap)(a:Addr):cJ→Prop
 |.lst xs=>xs.length≤sizeLine∧∃(its:List Value)(n:Nat),Vals xs its∧h.get? a=some { cls:=.type "list",data:=.seq its.toArray n }
 |.tup xs=>xs.length≤sizeLine∧∃its:List Value,Vals xs its∧IsTup h a its.toArray
 |.cj aS=>aS.length≤sizeLine∧(a==sysModules)=false∧∃vs,e3 aS vs∧h.DictOf (gK P w) a vs
 |.a4 aS=>aS.length≤sizeLine∧(a==sysModules)=false∧∃xs:List (List Key×Addr×Value),
     Paired (fun(p:List Key×V)(q:List Key×Addr×Value)=>p.1=q.1∧H q.2.1=some (.tup (p.1.map cb))∧RelV p.2 q.2.2) aS xs∧
     ∃o af c6,h.get? a=some o∧o.ExactDict∧o.data=.dict af c6∧af.toList=xs.map (entryOfKey (tupleKind (gK P w)))∧(xs.map (·.1)).Nodup
 |.set S n=>h.SetOf (intKind P w) a S n
 |.ins C aJ aK=>H aJ=some (.own a)∧aK.length≤1000∧aJ≠a∧h.get? a=some (PySem.W.instObj C aJ)∧
     ∃cZ,h.Ns1 aJ cZ∧(∀f,gz (aK.lookup f) (cZ f))∧PySem.Within cZ (aK.map (·.1))
 |.own _=>∃o,h.get? a=some o
 |.t5 aK=>∃cZ,h.Ns1 a cZ∧∀f,gz (aK.lookup f) (cZ f)
 |.tv lo hi=>∃t u v,h.get? a=some { cls:=.type "range",data:=.fields #[.int lo t,.int hi u,.int 1 v] }
 |.iu o u=>h.get? a=some o∧dG H h a u
 |.l4 aD=>h.get? a=some { cls:=.none,data:=.fields aD }
 |.met f x=>h.get? a=some (PySem.W.methodObj (.ref f) (.ref x))
 |.ext nz=>nz h∧(∃o,h.get? a=some o)∧∀h1 h2:Heap,nz h1→(∀o,h1.get? a=some o→h2.get? a=some o)→nz h2
def c5(H:J)(h:Heap):Prop:=∀a o,H a=some o→dG P w H h a o
end
section
variable{P:Program}{w:World}{H H':J}{h h':Heap}{a:Addr}{o:cJ}
theorem dG.lt(x:dG P w H h a o):a<h.objs.size:=by
 cases o with
 |lst xs=>obtain⟨_,_,_,_,e⟩:=x;exact Heap.lt_size e
 |tup xs=>obtain⟨_,_,_,p⟩:=x;exact p.lt
 |cj aS=>obtain⟨_,_,_,_,o,_,_,e,_⟩:=x;exact Heap.lt_size e
 |a4 aS=>obtain⟨_,_,_,_,o,_,_,e,_⟩:=x;exact Heap.lt_size e
 |set S n=>obtain⟨o,_,_,_,e,_⟩:=x;exact Heap.lt_size e
 |ins C aJ aK=>obtain⟨_,_,_,e,_⟩:=x;exact Heap.lt_size e
 |own y=>obtain⟨_,e⟩:=x;exact Heap.lt_size e
 |t5 aK=>obtain⟨_,⟨_,_,_,e,_⟩,_⟩:=x;exact Heap.lt_size e
 |tv lo hi=>obtain⟨_,_,_,e⟩:=x;exact Heap.lt_size e
 |iu aR u=>obtain⟨e,_⟩:=x;exact Heap.lt_size e
 |l4 aD=>exact Heap.lt_size (show h.get? a=some _ from x)
 |met f y=>exact Heap.lt_size (show h.get? a=some _ from x)
 |ext nz=>obtain⟨_,⟨_,e⟩,_⟩:=x;exact Heap.lt_size e
theorem Paired.wB{α β:Type}{F G:α→β→Prop}:∀{Bw:List α}{Bx:List β},Paired F Bw Bx→(∀a b,F a b→G a b)→Paired G Bw Bx
 |_,_,.nil,_=>.nil
 |_,_,.cons r t,f=>.cons (f _ _ r) (Paired.wB t f)
theorem dG.jF(x:dG P w H h a o)(k:∀b u,(b=a∨H b=some (.own a))→h.get? b=some u→h'.get? b=some u)(ho:∀b,H b=some (.own a)→H' b=some (.own a))(ht:∀b xs,H b=some (.tup xs)→H' b=some (.tup xs)):dG P w H' h' a o:=by
 induction o with
 |lst xs=>obtain⟨z,its,n,r,e⟩:=x;exact⟨z,its,n,r,k _ _ (.inl rfl) e⟩
 |tup xs=>obtain⟨z,its,r,aR,e,c⟩:=x;exact⟨z,its,r,aR,k _ _ (.inl rfl) e,c⟩
 |cj aS=>obtain⟨z,y,vs,r,aR,af,c6,e,c⟩:=x;exact⟨z,y,vs,r,aR,af,c6,k _ _ (.inl rfl) e,c⟩
 |a4 aS=>obtain⟨z,y,xs,r,aR,af,c6,e,c⟩:=x;exact⟨z,y,xs,Paired.wB r fun p q z=>⟨z.1,ht _ _ z.2.1,z.2.2⟩,aR,af,c6,k _ _ (.inl rfl) e,c⟩
 |set S n=>obtain⟨aR,af,c6,t,e,c⟩:=x;exact⟨aR,af,c6,t,k _ _ (.inl rfl) e,c⟩
 |ins C aJ aK=>obtain⟨d,z,ne,e,cZ,⟨cV,af,c6,au,c⟩,r⟩:=x;exact⟨ho _ d,z,ne,k _ _ (.inl rfl) e,cZ,⟨cV,af,c6,k _ _ (.inr d) au,c⟩,r⟩
 |own y=>obtain⟨aR,e⟩:=x;exact⟨aR,k _ _ (.inl rfl) e⟩
 |t5 aK=>obtain⟨cZ,⟨cV,af,c6,e,c⟩,r⟩:=x;exact⟨cZ,⟨cV,af,c6,k _ _ (.inl rfl) e,c⟩,r⟩
 |tv lo hi=>obtain⟨t,u,v,e⟩:=x;exact⟨t,u,v,k _ _ (.inl rfl) e⟩
 |iu aR u ck=>obtain⟨e,q⟩:=x;exact⟨k _ _ (.inl rfl) e,ck q⟩
 |l4 aD=>have e:h.get? a=some { cls:=.none,data:=.fields aD }:=x;show h'.get? a=some { cls:=.none,data:=.fields aD };exact k a _ (.inl rfl) e
 |met f y=>have e:h.get? a=some (PySem.W.methodObj (.ref f) (.ref y)):=x;show h'.get? a=some (PySem.W.methodObj (.ref f) (.ref y));exact k a _ (.inl rfl) e
 |ext nz=>obtain⟨p,⟨o,e⟩,st⟩:=x;exact⟨st _ _ p fun o q=>k _ _ (.inl rfl) q,⟨o,k _ _ (.inl rfl) e⟩,st⟩
theorem c5.lt(x:c5 P w H h)(e:H a=some o):a<h.objs.size:=(x a o e).lt
theorem c5.fresh(x:c5 P w H h)(e:h.objs.size≤a):H a=none:=by
 cases q:H a with
 |none=>rfl
 |some u=>exact absurd (Nat.lt_of_lt_of_le (x.lt q) e) (Nat.lt_irrefl _)
theorem c5.kept(x:c5 P w H h)(k:∀b u,h.get? b=some u→h'.get? b=some u):c5 P w H h':=fun a o e=>
 (x a o e).jF (fun b u _ q=>k b u q) (fun _ q=>q) fun _ _ q=>q
theorem c5.laid(x:c5 P w H h)(k:∀b u,h.get? b=some u→h'.get? b=some u)(hp:h.objs.size≤a)(new:dG P w (upd H a o) h' a o):c5 P w (upd H a o) h':=fun b u e=>by
 have aI:=x.fresh hp;by_cases hb:b=a
 ·subst hb;rw[c3]at e;cases e;exact new
 ·rw[cf hb]at e;exact(x b u e).jF (fun c v _ q=>k c v q) (fun c q=>by rw[cf (hz q aI)];exact q) fun c xs q=>by rw[cf (hz q aI)];exact q
end
def ep(H:J)(a:Addr)(u:cJ):Prop:=H a=some u∨∃o,H a=some (.iu o u)
theorem ep.ok{P:Program}{w:World}{H:J}{h:Heap}{a:Addr}{u:cJ}(r:ep H a u)(x:c5 P w H h):dG P w H h a u:=by
 rcases r with r|⟨o,r⟩
 ·exact x a u r
 ·obtain⟨_,q⟩:=x a _ r;exact q
noncomputable def pd:Option cJ→Prop
 |some (.lst _)=>True
 |some (.cj _)=>True
 |some (.a4 _)=>True
 |some (.set _ _)=>True
 |some (.ins _ _ _)=>True
 |some (.ext _)=>True
 |_=>False
section
variable{P:Program}{w:World}{H:J}{h h':Heap}{x e:Addr}{bw:cJ}
theorem c5.write(ok:c5 P w H h)(ib:pd (H x))(he:e=x∨H e=some (.own x))(k:∀b u,b≠e→h.get? b=some u→h'.get? b=some u)(n4:∃u,h'.get? e=some u)(new:dG P w (upd H x bw) h' x bw):c5 P w (upd H x bw) h':=fun b u q=>by
 have BZ:∀c y,H c=some (.own y)→c≠x:=fun c y r z=>by subst z;rw[r]at ib;exact ib
 have Lw:∀c xs,H c=some (.tup xs)→c≠x:=fun c xs r z=>by subst z;rw[r]at ib;exact ib
 by_cases hb:b=x
 ·subst hb;rw[c3]at q;cases q;exact new
 ·rw[cf hb]at q;by_cases mT:b=e
  ·have cH:H b=some (.own x):=by
     rcases he with z|z
     ·exact absurd (mT.trans z) hb
     ·rw[mT];exact z
   rw[q]at cH;cases cH;obtain⟨v,hv⟩:=n4;exact⟨v,by rw[mT];exact hv⟩
  ·refine(ok b u q).jF (fun c v hc r=>k c v ?_ r) (fun c r=>by rw[cf (BZ c b r)];exact r) fun c xs r=>by rw[cf (Lw c xs r)];exact r
   rcases hc with rfl|hc
   ·exact mT
   ·rintro rfl;rcases he with z|z
    ·exact BZ c b hc z
    ·rw[hc]at z;cases z;exact hb rfl
end
structure ez(aK ex:List Addr)(H H':J)(h h':Heap):Prop where
 keep:∀b o,h.get? b=some o→H b=none→b∉aK→b∉ex→h'.get? b=some o
 slot:∀b o,h.get? b=some o→H b=none→b∈aK→b∉ex→∃b1,h'.get? b=some { o with slots:=b1 }
 free:∀b o,h.get? b=some o→H b=none→b∉ex→H' b=none
 there:∀b o,h.get? b=some o→b∉ex→∃bw,h'.get? b=some bw
 hD:∀b xs,H b=some (.tup xs)→H' b=some (.tup xs)
 gB:∀b o u,H b=some (.iu o u)→H' b=some (.iu o u)
 hC:∀b aD,H b=some (.l4 aD)→∃more,H' b=some (.l4 (aD++more))
section
variable{aK Ad ex Q6:List Addr}{H H1 aQ:J}{h h1 h2 h':Heap}{a x e:Addr}{o:cJ}
theorem ez.any(u:ez aK ex H H1 h h1){b:Addr}{aR:Obj}(q:h.get? b=some aR)(n:H b=none)(hx:b∉ex):∃b1,h1.get? b=some { aR with slots:=b1 }:=by
 by_cases hb:b∈aK
 ·exact u.slot b aR q n hb hx
 ·exact⟨aR.slots,u.keep b aR q n hb hx⟩
theorem ez.kept(k:∀b u,h.get? b=some u→h'.get? b=some u):ez aK ex H H h h':=
 ⟨fun b aR q _ _ _=>k b aR q,fun b aR q _ _ _=>⟨aR.slots,k b aR q⟩,fun _ _ _ n _=>n,fun b aR q _=>⟨aR,k b aR q⟩,fun _ _ q=>q,fun _ _ _ q=>q,fun _ aD q=>⟨#[],by rw[q];simp⟩⟩
theorem ez.refl:ez aK ex H H h h:=ez.kept fun _ _ q=>q
theorem ez.laid(k:∀b u,h.get? b=some u→h'.get? b=some u)(hp:h.objs.size≤a)(aI:H a=none):ez aK ex H (upd H a o) h h' where
 keep:=fun b u q _ _ _=>k b u q
 slot:=fun b u q _ _ _=>⟨u.slots,k b u q⟩
 free:=fun b u q n _=>by rw[cf (Nat.ne_of_lt (Nat.lt_of_lt_of_le (Heap.lt_size q) hp))];exact n
 there:=fun b u q _=>⟨u,k b u q⟩
 hD:=fun b xs q=>by rw[cf (hz q aI)];exact q
 gB:=fun b u xs q=>by rw[cf (hz q aI)];exact q
 hC:=fun b aD q=>⟨#[],by rw[cf (hz q aI),q];simp⟩
theorem ez.write(ib:pd (H x))(he:e=x∨H e=some (.own x))(k:∀b u,b≠e→h.get? b=some u→h'.get? b=some u)(n4:∃u,h'.get? e=some u):ez aK ex H (upd H x o) h h':=by
 have hx:∀b,H b=none→b≠x:=fun b n z=>by subst z;rw[n]at ib;exact ib
 have hb:∀b,H b=none→b≠e:=fun b n z=>by
  subst z;rcases he with r|r
  ·exact hx b n r
  ·rw[n]at r;cases r
 have hm:∀b u,H b=some u→¬pd (some u)→b≠x:=fun b u q nm z=>by subst z;rw[q]at ib;exact nm ib
 refine⟨fun b u q n _ _=>k b u (hb b n) q,fun b u q n _ _=>⟨u.slots,k b u (hb b n) q⟩,fun b u q n _=>by rw[cf (hx b n)];exact n,fun b u q _=>?_,
  fun b xs q=>by rw[cf (hm b _ q fun z=>z)];exact q,fun b u xs q=>by rw[cf (hm b _ q fun z=>z)];exact q,fun b aD q=>⟨#[],by rw[cf (hm b _ q fun z=>z),q];simp⟩⟩
 by_cases mT:b=e
 ·subst mT;exact n4
 ·exact⟨u,k b u mT q⟩
end
def tT(h:Heap)(H:J):List Addr:=(List.range h.objs.size).filter fun a=>(H a).isSome
def kI(h:Heap)(H:J):Heap:=PySem.W.hideAll h (tT h H)
theorem HZ(h:Heap)(H:J):(kI h H).objs.size=h.objs.size:=PySem.W.hideAll_size _ _
theorem HY{h:Heap}{H:J}{b:Addr}{o:Obj}(e:h.get? b=some o)(n:H b=none):(kI h H).get? b=some o:=
 PySem.W.hideAll_get _ e fun hm=>by have q:(H b).isSome=true:=(List.mem_filter.mp hm).2;rw[n]at q;simp at q
theorem LH{h:Heap}{H:J}{b:Addr}{o:Obj}(e:(kI h H).get? b=some o):h.get? b=some o∧H b=none:=by
 have bR:h.get? b=some o:=PySem.W.of_hideAll (tT h H) e;refine⟨bR,?_⟩;cases q:H b with
 |none=>rfl
 |some x=>have hm:b∈tT h H:=List.mem_filter.mpr ⟨List.mem_range.mpr (Heap.lt_size bR),by simp[q]⟩;have z:(kI h H).get? b=none:=PySem.W.hideAll_none (tT h H) hm;rw[z]at e;cases e
noncomputable def E2(g h:Heap)(L:Addr):List (Addr×Obj):=(List.range h.objs.size).filterMap fun a=>if a=L∨(g.get? a).isSome=true then none else(h.get? a).map fun o=>(a,o)
def rest(g h:Heap)(L d:Addr):List (Addr×Obj):=(E2 g h L).filter fun p=>decide (p.1≠d)
structure Mod(K:PySem.W.Frag)(mg:Str→Option Value)(base:Heap):Prop where
 mY:K.In base
 glob:base.Ns mainGlobals mg
 blt:∃e0,base.Ns builtinsNs e0∧∀x:Str,x≠"__name__"→e0 x=bootBuiltins x
 nolimit:base.NoLimit
structure aC where
 prog:Program
 w:World
 K:PySem.W.Frag
 mg:Str→Option Value
 base:Heap
 A:Around
 N:List Str
 dO:Shared
 mj:J
 env:Env
 outer:List Env
 stack:List Env
 ex:List Addr
 fn:Str→Bool
 calm:Bool
 lW:List (Addr×Obj)
 xe:Value→Shared→Prop
def c9(l:List Env):List Addr:=l.filterMap (·.frame)
abbrev aC.aK(X:aC):List Addr:=c9 X.outer
noncomputable def fh(sc:Scope)(x:Str):Prop:=sc.names.lookup x=some .local∨sc.names.lookup x=some .cell∨sc.names.lookup x=some .free
def Loc(sc:Scope)(x:Str):Prop:=sc.names.lookup x=some .local∨sc.names.lookup x=some .cell
noncomputable def Look(env:Env)(h:Heap)(m:Str→Option Value)(x:Str)(u:Value):Prop:=
 (env.kindOf x=some .local∧m x=some u)∨((env.kindOf x=some .cell∨env.kindOf x=some .free)∧∃c,env.cells.lookup x=some c∧h.IsCell c (some u))
structure aC.Ok(X:aC):Prop where
 mod:Mod X.K X.mg X.base
 kind:X.env.scope.kind=.function
 glob:X.env.globals=mainGlobals
 blt:X.env.builtins=builtinsNs
 above:X.dO.heap.objs.size≤X.env.locals
 inj:∀x y c,X.env.cells.lookup x=some c→X.env.cells.lookup y=some c→x=y
 has:∀x,(X.env.kindOf x=some .cell∨X.env.kindOf x=some .free)→∃c,X.env.cells.lookup x=some c
 nV:∀x c,X.fn x=true→X.env.cells.lookup x=some c→X.dO.heap.objs.size≤c
 hd:X.calm=true→X.A.handled=none
 frames:X.A.frames=some X.stack
 qZ:X.stack=X.outer∨(X.stack=X.env::X.outer∧X.env.frame=some X.env.locals)
 vr:∀b∈X.ex,b≠X.env.locals∧∀x c,X.env.cells.lookup x=some c→c≠b
 bs:∀b o,X.base.get? b=some o→X.dO.heap.get? b=some o∧X.mj b=none
 kA:X.base.objs.size≤X.dO.heap.objs.size
 oF:∀b o,X.base.get? b=some o→b∉X.ex
 pN:∀b∈X.ex,b∉X.aK
 g7:X.dO.heap.FunFrames X.base X.outer
 lI:∀b∈X.aK,X.mj b=none
structure Inv(X:aC)(pins:List (Addr×Obj))(σ :List (Option V))(H:J)(s:Shared):Prop where
 ok:X.Ok
 os:s.os=X.dO.os
 bare:AllBare s.gens
 base:ez X.aK X.ex X.mj H X.dO.heap s.heap
 loc:∃m,s.heap.Ns X.env.locals m∧∀(i:Nat)(x:Str)(v:V),X.N[i]?=some x→ σ[i]?=some (some v)→fh X.env.scope x→∃u,RelV v u∧Look X.env s.heap m x u
 cell:∀x c,X.env.cells.lookup x=some c→∃v,s.heap.IsCell c v
 free:H X.env.locals=none
 hW:∀x c,X.env.cells.lookup x=some c→H c=none
 pin:∀p∈X.lW++pins,s.heap.get? p.1=some p.2∧H p.1=none∧p.1≠X.env.locals∧p.1∉X.aK∧∀v,p.2.data≠.cell v
 bc:c5 X.prog X.w H s.heap
 len: σ.length=X.N.length
section
variable{X:aC}{pins:List (Addr×Obj)}{σ :List (Option V)}{H H':J}{s:Shared}{h':Heap}
theorem aC.Ok.Lr(ok:X.Ok){b:Addr}{o:Obj}(e:X.base.get? b=some o):b∉X.aK:=fun hb=>by have:=(ok.g7.mem hb).1;rw[e]at this;cases this
theorem Inv.bs(I:Inv X pins σ H s):∀b o,X.base.get? b=some o→s.heap.get? b=some o∧H b=none:=fun b o e=>
 ⟨I.base.keep b o (I.ok.bs b o e).1 (I.ok.bs b o e).2 (I.ok.Lr e) (I.ok.oF b o e),I.base.free b o (I.ok.bs b o e).1 (I.ok.bs b o e).2 (I.ok.oF b o e)⟩
theorem Inv.d9(I:Inv X pins σ H s):∀b o,X.base.get? b=some o→s.heap.get? b=some o:=fun b o e=>(I.bs b o e).1
theorem Inv.mod(I:Inv X pins σ H s):Mod X.K X.mg X.base:=I.ok.mod
theorem Inv.dJ(I:Inv X pins σ H s):X.K.In s.heap:=I.ok.mod.mY.keeps I.d9
theorem Inv.lt(I:Inv X pins σ H s):X.env.locals<s.heap.objs.size:=let⟨_,aI,_⟩:=I.loc;aI.lt
theorem Inv.ja(I:Inv X pins σ H s):X.dO.heap.objs.size≤s.heap.objs.size:=Nat.le_trans I.ok.above (Nat.le_of_lt I.lt)
theorem Inv.Lu(I:Inv X pins σ H s){a:Addr}(h:s.heap.objs.size≤a):a∉X.aK:=fun hb=>by obtain⟨_,o,ho,_⟩:=I.ok.g7.mem hb;exact absurd (Nat.lt_of_lt_of_le (Heap.lt_size ho) (Nat.le_trans I.ja h)) (Nat.lt_irrefl _)
theorem Inv.lC(I:Inv X pins σ H s):∀x c,X.env.cells.lookup x=some c→c≠X.env.locals:=fun x c e z=>by obtain⟨v,o,ho,hd⟩:=I.cell x c e;obtain⟨m,⟨bw,af,c6,ho',iZ,_⟩,_⟩:=I.loc;rw[z,ho']at ho;cases ho;rw[iZ]at hd;cases hd
theorem Inv.g7(I:Inv X pins σ H s):s.heap.FunFrames X.base X.outer:=by
 have all:∀(l:List Env),(∀b∈c9 l,b∈X.aK)→X.dO.heap.FunFrames X.base l→s.heap.FunFrames X.base l:=by
  intro l;induction l with
  |nil=>intro _ _;trivial
  |cons env r ck=>intro hs hl;obtain⟨hk,⟨L,o,hf,aI,ho,hd⟩,hr⟩:=hl;have eM:L∈X.aK:=hs L (by unfold c9;rw[List.filterMap_cons,hf];exact List.mem_cons_self);obtain⟨b1,e⟩:=I.base.slot L o ho (I.ok.lI L eM) eM fun z=>I.ok.pN L z eM;exact⟨hk,⟨L,_,hf,aI,e,hd⟩,ck (fun b hb=>hs b (by unfold c9;rw[List.filterMap_cons,hf];exact List.mem_cons_of_mem _ hb)) hr⟩
 exact all X.outer (fun _ hb=>hb) I.ok.g7
theorem Inv.stack(I:Inv X pins σ H s):s.heap.FunFrames X.base X.stack:=by
 rcases I.ok.qZ with e|⟨e,hf⟩
 ·rw[e];exact I.g7
 ·rw[e];obtain⟨m,aI,_⟩:=I.loc;refine .cons (by rw[I.ok.kind];decide) hf aI ?_ I.g7;exact Heap.get?_none_of_le (Nat.le_trans I.ok.kA I.ok.above)
theorem Inv.tI(I:Inv X pins σ H s):∀b∈c9 X.stack,b∈X.env.locals::X.aK:=fun b hb=>by
 rcases I.ok.qZ with e|⟨e,hf⟩
 ·rw[e]at hb;exact List.mem_cons_of_mem _ hb
 ·rw[e]at hb;unfold c9 at hb;rw[List.filterMap_cons,hf]at hb;exact hb
theorem Inv.xI(I:Inv X pins σ H s):∀b∈c9 X.stack,H b=none:=fun b hb=>by
 rcases List.mem_cons.mp (I.tI b hb)with e|hb
 ·rw[e];exact I.free
 ·obtain⟨_,o,ho,_⟩:=I.ok.g7.mem hb;exact I.base.free b o ho (I.ok.lI b hb) fun z=>I.ok.pN b z hb
theorem Inv.step{g':Array GenState}{t':Nat}{d':Drawn}{ch:List Addr}(I:Inv X pins σ H s)(j4:∀b∈ch,(b∈X.ex∨X.dO.heap.objs.size≤b)∧b≠X.env.locals∧(∀x c,X.env.cells.lookup x=some c→c≠b)∧∀p∈X.lW++pins,p.1≠b)(keep:∀b o,b≠X.env.locals→b∉X.aK→b∉ch→s.heap.get? b=some o→H b=none→h'.get? b=some o)(slot:∀b o,b≠X.env.locals→b∈X.aK→b∉ch→s.heap.get? b=some o→H b=none→∃b1,h'.get? b=some { o with slots:=b1 })(free:∀b o,b∉ch→s.heap.get? b=some o→H b=none→H' b=none)(there:∀b o,b∉ch→s.heap.get? b=some o→∃bw,h'.get? b=some bw)(hD:∀b xs,H b=some (.tup xs)→H' b=some (.tup xs))(gB:∀b o u,H b=some (.iu o u)→H' b=some (.iu o u))(hC:∀b aD,H b=some (.l4 aD)→∃more,H' b=some (.l4 (aD++more)))(ns:∀m,s.heap.Ns X.env.locals m→h'.Ns X.env.locals m)(bc:c5 X.prog X.w H' h')(hg:AllBare g') :
  Inv X pins σ H' { s with heap:=h',gens:=g',drawn:=d',toks:=t' }:=by
 have BQ:∀b o,X.dO.heap.get? b=some o→b≠X.env.locals:=fun b o e=>Nat.ne_of_lt (Nat.lt_of_lt_of_le (Heap.lt_size e) I.ok.above);have tc:∀b o,X.dO.heap.get? b=some o→b∉X.ex→b∉ch:=fun b o e hx hb=>by
  rcases(j4 b hb).1 with z|z
  ·exact hx z
  ·exact absurd (Nat.lt_of_lt_of_le (Heap.lt_size e) z) (Nat.lt_irrefl _)
 have cellK:∀x c,X.env.cells.lookup x=some c→∀v,s.heap.IsCell c v→h'.IsCell c v:=fun x c e v⟨o,ho,hd⟩=>by
  have qz:c∉ch:=fun z=>(j4 c z).2.2.1 x c e rfl;by_cases hc:c∈X.aK
  ·obtain⟨b1,q⟩:=slot c o (I.lC x c e) hc qz ho (I.hW x c e);exact⟨_,q,hd⟩
  ·exact⟨o,keep c o (I.lC x c e) hc qz ho (I.hW x c e),hd⟩
 refine⟨I.ok,I.os,hg,⟨fun b o e n hb hx=>?_,fun b o e n hb hx=>?_,fun b o e n hx=>?_,fun b o e hx=>?_,fun b xs e=>hD b xs (I.base.hD b xs e),fun b o xs e=>gB b o xs (I.base.gB b o xs e),fun b aD e=>?_⟩,?_,fun x c e=>?_,?_,fun x c e=>?_,fun p hp=>?_,bc,I.len⟩
 ·exact keep b o (BQ b o e) hb (tc b o e hx) (I.base.keep b o e n hb hx) (I.base.free b o e n hx)
 ·obtain⟨b1,ai⟩:=I.base.slot b o e n hb hx;obtain⟨OB,au⟩:=slot b _ (BQ b o e) hb (tc b o e hx) ai (I.base.free b o e n hx);exact⟨OB,au⟩
 ·obtain⟨bw,ai⟩:=I.base.there b o e hx;exact free b bw (tc b o e hx) ai (I.base.free b o e n hx)
 ·obtain⟨bw,ai⟩:=I.base.there b o e hx;exact there b bw (tc b o e hx) ai
 ·obtain⟨ee,ai⟩:=I.base.hC b aD e;obtain⟨eY,au⟩:=hC b _ ai;exact⟨ee++eY,by rw[au,Array.append_assoc]⟩
 ·obtain⟨m,aI,hl⟩:=I.loc;refine⟨m,ns m aI,fun i x v ai au bB=>?_⟩;obtain⟨u,r,l⟩:=hl i x v ai au bB;refine⟨u,r,?_⟩;rcases l with l|⟨k,c,e,z⟩
  ·exact .inl l
  ·exact .inr ⟨k,c,e,cellK x c e _ z⟩
 ·obtain⟨v,z⟩:=I.cell x c e;exact⟨v,cellK x c e v z⟩
 ·obtain⟨m,⟨o,_,_,ho,_⟩,_⟩:=I.loc;exact free _ o (fun z=>(j4 _ z).2.1 rfl) ho I.free
 ·obtain⟨v,o,ho,hd⟩:=I.cell x c e;exact free c o (fun z=>(j4 c z).2.2.1 x c e rfl) ho (I.hW x c e)
 ·obtain⟨e,n,ne,gL,d⟩:=I.pin p hp;have qz:p.1∉ch:=fun z=>(j4 p.1 z).2.2.2 p hp rfl;exact⟨keep p.1 p.2 ne gL qz e n,free p.1 p.2 qz e n,ne,gL,d⟩
theorem Inv.un{t':Nat}(I:Inv X pins σ H s)(u:ez X.aK [] H H' s.heap h')(bc:c5 X.prog X.w H' h'):Inv X pins σ H' { s with heap:=h',toks:=t' }:=by
 obtain⟨m,⟨o,af,c6,ho,r⟩,_⟩:=id I.loc;obtain⟨b1,eM⟩:=u.any ho I.free (by simp);exact I.step (g':=s.gens) (d':=s.drawn) (ch:=[]) (fun _ z=>nomatch z) (fun b o _ hb _ e n=>u.keep b o e n hb (by simp)) (fun b o _ hb _ e n=>u.slot b o e n hb (by simp)) (fun b o _ e n=>u.free b o e n (by simp)) (fun b o _ e=>u.there b o e (by simp)) u.hD u.gB u.hC (fun ew hm=>by obtain⟨bw,n0,vn,ho',aZ⟩:=hm;rw[ho]at ho';cases ho';exact⟨_,n0,vn,eM,aZ⟩) bc I.bare
theorem Inv.call{g':Array GenState}{t':Nat}{d':Drawn}{ch:List Addr}(I:Inv X pins σ H s)(u:ez (c9 X.stack) ch H H' s.heap h')(bc:c5 X.prog X.w H' h')(hg:AllBare g')(j4:∀b∈ch,(b∈X.ex∨X.dO.heap.objs.size≤b)∧b≠X.env.locals∧(∀x c,X.env.cells.lookup x=some c→c≠b)∧∀p∈X.lW++pins,p.1≠b) :
  Inv X pins σ H' { s with heap:=h',gens:=g',drawn:=d',toks:=t' }:=by
 obtain⟨m,⟨o,af,c6,ho,r⟩,_⟩:=id I.loc;obtain⟨b1,eM⟩:=u.any ho I.free fun z=>(j4 _ z).2.1 rfl;exact I.step (ch:=ch) j4 (fun b o eM hb hc e n=>u.keep b o e n (fun z=>(List.mem_cons.mp (I.tI b z)).elim eM hb) hc) (fun b o _ _ hc e n=>u.any e n hc) (fun b o hc e n=>u.free b o e n hc) (fun b o hc e=>u.there b o e hc) u.hD u.gB u.hC (fun ew hm=>by obtain⟨bw,n0,vn,ho',aZ⟩:=hm;rw[ho]at ho';cases ho';exact⟨_,n0,vn,eM,aZ⟩) bc hg
theorem Inv.turned{t':Nat}{it:Addr}(I:Inv X pins σ H s)(k:∀b o,b≠it→s.heap.get? b=some o→h'.get? b=some o)(aI:H it=none)(eM:it≠X.env.locals)(h1:it∈X.ex∨X.dO.heap.objs.size≤it)(h2:∀x c,X.env.cells.lookup x=some c→c≠it)(h3:∀p∈X.lW++pins,p.1≠it):Inv X pins σ H { s with heap:=h',toks:=t' }:=by
 have lT:∀b u,H b=some u→b≠it:=fun b u e z=>by rw[z,aI]at e;cases e
 refine I.step (g':=s.gens) (d':=s.drawn) (ch:=[it]) (fun b hb=>?_) (fun b o _ _ hc e _=>k b o (fun z=>hc (by simp[z])) e) (fun b o _ _ hc e _=>⟨o.slots,k b o (fun z=>hc (by simp[z])) e⟩) (fun _ _ _ _ n=>n)
  (fun b o hc e=>⟨o,k b o (fun z=>hc (by simp[z])) e⟩) (fun _ _ e=>e) (fun _ _ _ e=>e) (fun b aD e=>⟨#[],by rw[e];simp⟩) (fun m hm=>?_) (fun b u e=>?_) I.bare
 ·have e:b=it:=by simpa using hb
  subst e;exact⟨h1,eM,h2,h3⟩
 ·obtain⟨o,af,c6,ho,r⟩:=hm;exact⟨o,af,c6,k _ o (Ne.symm eM) ho,r⟩
 ·refine(I.bc b u e).jF (fun c v hc q=>k c v ?_ q) (fun _ q=>q) fun _ _ q=>q;rcases hc with z|z
  ·rw[z];exact lT b u e
  ·exact lT c _ z
theorem Inv.tok(I:Inv X pins σ H s)(t:Nat):Inv X pins σ H { s with toks:=t }:=I.un (h':=s.heap) (t':=t) ez.refl I.bc
theorem Inv.kept{t':Nat}(I:Inv X pins σ H s)(k:∀b u,s.heap.get? b=some u→h'.get? b=some u):Inv X pins σ H { s with heap:=h',toks:=t' }:=I.un (ez.kept k) (I.bc.kept k)
theorem Inv.laid{a:Addr}{o:cJ}{t':Nat}(I:Inv X pins σ H s)(k:∀b u,s.heap.get? b=some u→h'.get? b=some u)(hp:s.heap.objs.size≤a)(new:dG X.prog X.w (upd H a o) h' a o) :
  Inv X pins σ (upd H a o) { s with heap:=h',toks:=t' }:=I.un (ez.laid k hp (I.bc.fresh hp)) (I.bc.laid k hp new)
theorem Inv.write{x e:Addr}{o:cJ}{t':Nat}(I:Inv X pins σ H s)(ib:pd (H x))(he:e=x∨H e=some (.own x))(k:∀b u,b≠e→s.heap.get? b=some u→h'.get? b=some u)(n4:∃u,h'.get? e=some u)(new:dG X.prog X.w (upd H x o) h' x o):Inv X pins σ (upd H x o) { s with heap:=h',toks:=t' }:=I.un (ez.write ib he k n4) (I.bc.write ib he k n4 new)
theorem Inv.Cp{Co:List (Addr×Obj)}(I:Inv X pins σ H s)(h:∀p∈Co,s.heap.get? p.1=some p.2∧H p.1=none∧p.1≠X.env.locals∧p.1∉X.aK∧∀v,p.2.data≠.cell v):Inv X Co σ H s:=
 ⟨I.ok,I.os,I.bare,I.base,I.loc,I.cell,I.free,I.hW,fun p hp=>(List.mem_append.mp hp).elim (fun z=>I.pin p (List.mem_append_left _ z)) (h p),I.bc,I.len⟩
theorem wI{N:List Str}(hN:N.Nodup){i j:Nat}{x:Str}(a:N[i]?=some x)(b:N[j]?=some x):i=j:=by obtain⟨h1,ai⟩:=List.getElem?_eq_some_iff.mp a;obtain⟨h2,au⟩:=List.getElem?_eq_some_iff.mp b;exact(List.getElem_inj hN).mp (ai.trans au.symm)
theorem OQ{M:Model}{A:Around}{E:Value→Shared→Prop}{i:Nat}{x:Str}{v:V}{u:Value}{Q:Unit→Shared→Prop}(I:Inv X pins σ H s)(hN:X.N.Nodup)(hi:X.N[i]?=some x)(hx:Loc X.env.scope x)(r:RelV v u)(h:∀s',Inv X pins (σ.set i (some v)) H s'→(∃a,Heap.SameBut a s.heap s'.heap∧(a=X.env.locals∨X.env.cells.lookup x=some a))→Q () s')(hf:X.fn x=true∨X.env.scope.names.lookup x=some .local:=by first|exact .inl rfl|exact .inr rfl|assumption):wpAny M A (storeName X.env x u) Q E s:=by
 obtain⟨m,aI,hl⟩:=id I.loc;have HP:(X.env.scope.kind==.class||(X.env.scope.kind==.module&&X.env.locals !=X.env.globals))=false:=by rw[I.ok.kind];rfl
 have hiσ :i< σ.length:=by rw[I.len];exact(List.getElem?_eq_some_iff.mp hi).1
 have lC:=I.lC;have tracked:∀{a:Addr}{h':Heap},(∃o,s.heap.get? a=some o∧H a=none)→Heap.SameBut a s.heap h'→c5 X.prog X.w H h':=fun{a h'} ha hs b aR e=>by
  obtain⟨_,_,sv⟩:=ha;refine(I.bc b aR e).jF (fun c eF hc q=>(hs.2 c ?_).trans q) (fun _ q=>q) fun _ _ q=>q;rintro rfl;rcases hc with rfl|hc
  ·rw[sv]at e;cases e
  ·rw[sv]at hc;cases hc
 rcases hx with hk|hk
 ·refine wpAny_storeName_local hk aI (fun h' pV hs=>?_) HP;obtain⟨Ly,_,_,Ic,_⟩:=id aI;refine h _ ⟨I.ok,I.os,I.bare,⟨fun b o e n hb hx=>?_,fun b o e n hb hx=>?_,I.base.free,fun b o e hx=>?_,I.base.hD,I.base.gB,I.base.hC⟩,⟨_,pV,fun j y iE ai au bB=>?_⟩,fun y c e=>?_,I.free,I.hW,fun p hp=>?_,tracked ⟨Ly,Ic,I.free⟩ hs,by simpa using I.len⟩ ⟨_,hs,.inl rfl⟩
  ·exact(hs.2 b (Nat.ne_of_lt (Nat.lt_of_lt_of_le (Heap.lt_size e) I.ok.above))).trans (I.base.keep b o e n hb hx)
  ·obtain⟨b1,ai⟩:=I.base.slot b o e n hb hx;exact⟨b1,(hs.2 b (Nat.ne_of_lt (Nat.lt_of_lt_of_le (Heap.lt_size e) I.ok.above))).trans ai⟩
  ·obtain⟨bw,ai⟩:=I.base.there b o e hx;exact⟨bw,(hs.2 b (Nat.ne_of_lt (Nat.lt_of_lt_of_le (Heap.lt_size e) I.ok.above))).trans ai⟩
  ·by_cases b4:j=i
   ·subst b4;rw[hi]at ai;cases ai;rw[List.getElem?_set_self hiσ]at au;cases au;exact⟨u,r,.inl ⟨hk,by simp⟩⟩
   ·rw[List.getElem?_set_ne (Ne.symm b4)]at au;obtain⟨jc,aZ,q⟩:=hl j y iE ai au bB;refine⟨jc,aZ,?_⟩;rcases q with⟨k,e⟩|⟨k,c,e,z⟩
    ·refine .inl ⟨k,?_⟩;have:y≠x:=fun e=>b4 (wI hN ai (e▸hi));simp[this,e]
    ·exact .inr ⟨k,c,e,z.sameBut hs (lC y c e)⟩
  ·obtain⟨eF,z⟩:=I.cell y c e;exact⟨eF,z.sameBut hs (lC y c e)⟩
  ·obtain⟨e,n,ne,gL,d⟩:=I.pin p hp;exact⟨(hs.2 p.1 ne).trans e,n,ne,gL,d⟩
 ·have vK:X.fn x=true:=by
    rcases hf with z|z
    ·exact z
    ·rw[z]at hk;cases hk
  obtain⟨c,hc⟩:=I.ok.has x (.inl hk);obtain⟨eF,z⟩:=I.cell x c hc;refine wpAny_storeName_cell I.ok.kind hk hc z (fun h' su hs=>?_);obtain⟨dM,AE,Ih⟩:=id z;refine h { s with heap:=h' } ⟨I.ok,I.os,I.bare,⟨fun b o e n hb hx=>?_,fun b o e n hb hx=>?_,I.base.free,fun b o e hx=>?_,I.base.hD,I.base.gB,I.base.hC⟩,⟨m,aI.sameBut hs (Ne.symm (lC x c hc)),fun j y iE ai au bB=>?_⟩,fun y d_ e=>?_,I.free,I.hW,fun p hp=>?_,tracked ⟨dM,AE,I.hW x c hc⟩ hs,by simpa using I.len⟩ ⟨c,hs,.inr hc⟩
  ·exact(hs.2 b (Nat.ne_of_lt (Nat.lt_of_lt_of_le (Heap.lt_size e) (I.ok.nV x c vK hc)))).trans (I.base.keep b o e n hb hx)
  ·obtain⟨b1,ai⟩:=I.base.slot b o e n hb hx;exact⟨b1,(hs.2 b (Nat.ne_of_lt (Nat.lt_of_lt_of_le (Heap.lt_size e) (I.ok.nV x c vK hc)))).trans ai⟩
  ·obtain⟨bw,ai⟩:=I.base.there b o e hx;exact⟨bw,(hs.2 b (Nat.ne_of_lt (Nat.lt_of_lt_of_le (Heap.lt_size e) (I.ok.nV x c vK hc)))).trans ai⟩
  ·by_cases b4:j=i
   ·subst b4;rw[hi]at ai;cases ai;rw[List.getElem?_set_self hiσ]at au;cases au;exact⟨u,r,.inr ⟨.inl hk,c,hc,su⟩⟩
   ·rw[List.getElem?_set_ne (Ne.symm b4)]at au;obtain⟨jc,aZ,q⟩:=hl j y iE ai au bB;refine⟨jc,aZ,?_⟩;rcases q with q|⟨k,d_,e,f6⟩
    ·exact .inl q
    ·refine .inr ⟨k,d_,e,f6.sameBut hs ?_⟩;rintro rfl;exact b4 (wI hN ai (I.ok.inj _ _ _ e hc▸hi))
  ·by_cases Ao:d_=c
   ·subst Ao;exact⟨_,su⟩
   ·obtain⟨dV,aX⟩:=I.cell y d_ e;exact⟨dV,aX.sameBut hs Ao⟩
  ·obtain⟨e,n,ne,gL,d⟩:=I.pin p hp;refine⟨(hs.2 p.1 ?_).trans e,n,ne,gL,d⟩;intro q;rw[q,AE]at e;have cH:dM=p.2:=Option.some.inj e;exact d eF (by rw[←cH];exact Ih)
theorem xJ{M:Model}{A:Around}{E:Value→Shared→Prop}{i:Nat}{x:Str}{v:V}{u:Value}{Q:Unit→Shared→Prop}(I:Inv X pins σ H s)(hN:X.N.Nodup)(hi:X.N[i]?=some x)(hx:Loc X.env.scope x)(r:RelV v u)(h:∀s',Inv X pins (σ.set i (some v)) H s'→Q () s')(hf:X.fn x=true∨X.env.scope.names.lookup x=some .local:=by first|exact .inl rfl|exact .inr rfl|assumption):wpAny M A (storeName X.env x u) Q E s:=
 OQ I hN hi hx r (fun s' ll _=>h s' ll) hf
theorem Inv.y_{s':Shared}{ch:List Addr}(I:Inv X pins σ H s)(ho:s'.os=s.os)(u:ez (c9 X.stack) ch H H' s.heap s'.heap)(bc:c5 X.prog X.w H' s'.heap)(hg:AllBare s'.gens)(j4:∀b∈ch,(b∈X.ex∨X.dO.heap.objs.size≤b)∧b≠X.env.locals∧(∀x c,X.env.cells.lookup x=some c→c≠b)∧∀p∈X.lW++pins,p.1≠b):Inv X pins σ H' s':=by obtain⟨h',g',d',t',bw⟩:=s';have e:bw=s.os:=ho;subst e;exact I.call (g':=g') (t':=t') (d':=d') u bc hg j4
end
abbrev cn:=Value→Option Addr→J→Prop
abbrev St:=List (Option V)
abbrev bT:=V→J→Prop
abbrev TE:=St→J→bT→Prop
abbrev TT:=St→J→(Bool→J→Prop)→Prop
abbrev dX:=St→J→(List V→J→Prop)→Prop
structure Ends where
 bj:St→J→Prop
 dB:bT
 d9:St→J→Prop:=fun _ _=>False
 b3:St→J→Prop:=fun _ _=>False
abbrev dR:=Ends→St→J→Prop
noncomputable def eG(X:aC)(pins:List (Addr×Obj))(σ :St)(Q:bT)(u:Value)(s':Shared):Prop:=∃v H',Inv X pins σ H' s'∧RelV v u∧Q v H'
noncomputable def rG(X:aC)(pins:List (Addr×Obj))(σ :St)(Q:Bool→J→Prop)(b:Bool)(s':Shared):Prop:=∃H',Inv X pins σ H' s'∧Q b H'
noncomputable def EA(X:aC)(pins:List (Addr×Obj))(σ :St)(Q:List V→J→Prop)(us:List Value)(s':Shared):Prop:=∃vs H',Inv X pins σ H' s'∧Vals vs us∧Q vs H'
noncomputable def ph(X:aC)(pins:List (Addr×Obj))(D:Ends)(f:Flow)(s':Shared):Prop:=
 match f with
 |.next=>∃ σ' H',Inv X pins σ' H' s'∧D.bj σ' H'
 |.brk=>∃ σ' H',Inv X pins σ' H' s'∧D.d9 σ' H'
 |.cont=>∃ σ' H',Inv X pins σ' H' s'∧D.b3 σ' H'
 |.ret u=>∃v σ' H',Inv X pins σ' H' s'∧RelV v u∧D.dB v H'
noncomputable def aP(X:aC)(e:Expr)(t:TE):Prop:=
 ∀(pins:List (Addr×Obj))(s:Shared)(σ :St)(H:J)(Q:bT),Inv X pins σ H s→t σ H Q→wpAny (model X.prog X.w) X.A (eval e X.env) (eG X pins σ Q) X.xe s
noncomputable def dQ(X:aC)(e:Expr)(t:TT):Prop:=
 ∀(pins:List (Addr×Obj))(s:Shared)(σ :St)(H:J)(Q:Bool→J→Prop),Inv X pins σ H s→t σ H Q→wpAny (model X.prog X.w) X.A (isTrue e X.env (eval e X.env)) (rG X pins σ Q) X.xe s
noncomputable def gy(X:aC)(e:Expr)(t:TT):Prop:=
 ∀(whole:Sem Value)(pins:List (Addr×Obj))(s:Shared)(σ :St)(H:J)(Q:Bool→J→Prop),Inv X pins σ H s→t σ H Q→wpAny (model X.prog X.w) X.A (isTrue e X.env whole) (rG X pins σ Q) X.xe s
theorem gy.pt{X:aC}{e:Expr}{t:TT}(h:gy X e t):dQ X e t:=h _
noncomputable def d8(X:aC)(af:List Expr)(t:dX):Prop:=
 ∀(pos:Pos)(pins:List (Addr×Obj))(s:Shared)(σ :St)(H:J)(Q:List V→J→Prop),Inv X pins σ H s→t σ H Q→wpAny (model X.prog X.w) X.A (spliced (backTo pos (starEach af X.env))) (EA X pins σ Q) X.xe s
noncomputable def cP(X:aC)(st:Stmt)(t:dR):Prop:=
 ∀(pins:List (Addr×Obj))(s:Shared)(σ :St)(H:J)(D:Ends),Inv X pins σ H s→t D σ H→wpAny (model X.prog X.w) X.A (exec st X.env) (ph X pins D) X.xe s
noncomputable def eT(X:aC)(st:List Stmt)(t:dR):Prop:=
 ∀(pins:List (Addr×Obj))(s:Shared)(σ :St)(H:J)(D:Ends),Inv X pins σ H s→t D σ H→wpAny (model X.prog X.w) X.A (execs st X.env) (ph X pins D) X.xe s
theorem bp{α:Type}{t:Sem α}{Q kq:α→Shared→Prop}{M:Model}{A:Around}{E:Value→Shared→Prop}{s:Shared}(h:wpAny M A t Q E s)(iV:∀a s,Q a s→kq a s):wpAny M A t kq E s:=wpAny_mono h iV fun _ _ x=>x
section
variable{X:aC}
theorem bin{a b:Expr}{bS tb:TE}(ha:aP X a bS)(hb:aP X b tb){pins:List (Addr×Obj)}{s:Shared}{σ :St}{H:J}{R:V→V→J→Prop}(I:Inv X pins σ H s)(h:bS σ H fun x H1=>tb σ H1 fun y aQ=>R x y aQ){α:Type}{Q:α→Shared→Prop}{f:Value→Value→Sem α}(hf:∀v u s2 x y aQ,Inv X pins σ aQ s2→RelV x v→RelV y u→R x y aQ→wpAny (model X.prog X.w) X.A (f v u) Q X.xe s2) :
  wpAny (model X.prog X.w) X.A (eval a X.env) (fun v cz=>wpAny (model X.prog X.w) X.A (eval b X.env) (fun u l2=>wpAny (model X.prog X.w) X.A (f v u) Q X.xe l2) X.xe cz) X.xe s:=by
 refine bp (ha pins s σ H _ I h) fun v s1⟨x,H1,aT,ao,a5⟩=>?_;refine bp (hb pins s1 σ H1 _ aT a5) fun u s2⟨y,aQ,bZ,a7,bL⟩=>?_;exact hf v u s2 x y aQ bZ ao a7 bL
def tO(i:Nat):TE:=fun σ H Q=>∃v,σ[i]?=some (some v)∧Q v H
def l3(v:V):TE:=fun _ H Q=>Q v H
theorem jA{i:Nat}{x:Str}{pos:Pos}(hN:X.N[i]?=some x)(hv:fh X.env.scope x)(hd:(x==("__debug__" :Str))=false:=by decide)(hcd:(x==("__classdict__" :Str))=false:=by decide):aP X (.Name x pos) (tO i):=by
 intro pins s σ H Q I h;obtain⟨v,e,h⟩:=h;obtain⟨m,aI,hl⟩:=I.loc;obtain⟨u,r,l⟩:=hl i x v hN e hv;have fin:eG X pins σ Q u s:=⟨v,H,I,r,h⟩;rcases l with⟨hk,hm⟩|⟨hk,c,hc,Ap⟩
 ·exact wpAny_Name (wpAny_loadName_local I.ok.kind hk aI hm fin) hd
 ·rcases hk with hk|hk
  ·exact wpAny_Name (wpAny_loadName_cell I.ok.kind hk hc Ap fin) hd
  ·exact wpAny_Name (wpAny_loadName_free I.ok.kind hk hc Ap fin hcd) hd
theorem Mt{i j pos}:aP X (.Constant (.int i) j pos) (l3 (.int i)):=fun _ _ _ H _ I h=>wpAny_Constant_int ⟨.int i,H,I.tok _,⟨_,rfl⟩,h⟩
theorem Mj{b j pos}:aP X (.Constant (.bool b) j pos) (l3 (.aq b)):=fun _ _ _ H _ I h=>Constant_bool ⟨.aq b,H,I,rfl,h⟩
theorem Mw{j pos}:aP X (.Constant .none j pos) (l3 .non):=fun _ _ _ H _ I h=>Constant_none ⟨.non,H,I,rfl,h⟩
theorem Ck{x j pos}:aP X (.Constant (.str x) j pos) (l3 (.str x)):=fun _ _ _ H _ I h=>Calls.Constant_str ⟨.str x,H,I.tok _,⟨_,rfl⟩,h⟩
def cA(X:aC)(x:Str):Prop:=X.env.kindOf x=some .globalImplicit
theorem oa{E:Value→Shared→Prop}{pins:List (Addr×Obj)}{s:Shared}{σ :St}{H:J}{x:Str}{u:Value}{pos:Pos}{Q:Value→Shared→Prop}(I:Inv X pins σ H s)(hg:cA X x)(hm:X.mg x=some u)(h:Q u s)(hd:(x==("__debug__" :Str))=false:=by decide):wpAny (model X.prog X.w) X.A (eval (.Name x pos) X.env) Q E s:=
 Calls.Name_function_global I.ok.kind hg (Calls.loadGlobal_global (by rw[I.ok.glob];exact I.mod.glob.keeps I.d9) hm h) hd
theorem p8{E:Value→Shared→Prop}{pins:List (Addr×Obj)}{s:Shared}{σ :St}{H:J}{x:Str}{u:Value}{pos:Pos}{Q:Value→Shared→Prop}(I:Inv X pins σ H s)(hg:cA X x)(hm:X.mg x=none)(hv:bootBuiltins x=some u)(h:Q u s)(aI:x≠"__name__":=by decide)(hd:(x==("__debug__" :Str))=false:=by decide):wpAny (model X.prog X.w) X.A (eval (.Name x pos) X.env) Q E s:=by obtain⟨e0,h1,h2⟩:=I.mod.blt;exact Calls.Name_function_global I.ok.kind hg (Calls.loadGlobal_builtin (by rw[I.ok.glob];exact I.mod.glob.keeps I.d9) hm (by rw[I.ok.blt];exact h1.keeps I.d9) ((h2 x aI).trans hv) h) hd
theorem Cg{x:Str}{v:V}{u:Value}{pos:Pos}(hg:cA X x)(hm:X.mg x=some u)(r:RelV v u)(hd:(x==("__debug__" :Str))=false:=by decide):aP X (.Name x pos) (l3 v):=
 fun _ _ _ H _ I h=>oa I hg hm ⟨v,H,I,r,h⟩ hd
theorem Cd{x:Str}{v:V}{u:Value}{pos:Pos}(hg:cA X x)(hm:X.mg x=none)(hv:bootBuiltins x=some u)(r:RelV v u)(aI:x≠"__name__":=by decide)(hd:(x==("__debug__" :Str))=false:=by decide):aP X (.Name x pos) (l3 v):=
 fun _ _ _ H _ I h=>p8 I hg hm hv ⟨v,H,I,r,h⟩ aI hd
variable{a b:Expr}{bS tb:TE}{pos:Pos}
noncomputable def rE(X:aC)(op:CmpOp)(a b:Expr)(t:TE):Prop:=
 ∀(pins:List (Addr×Obj))(s:Shared)(σ :St)(H:J)(Q:bT),Inv X pins σ H s→t σ H Q→
  wpAny (model X.prog X.w) X.A (eval a X.env) (fun v cz=>wpAny (model X.prog X.w) X.A (eval b X.env) (fun u l2=>wpAny (model X.prog X.w) X.A (compareOp op v u) (eG X pins σ Q) X.xe l2) X.xe cz) X.xe s
theorem BW(b:Expr){op:CmpOp}(h:op≠.In)(h2:op≠.NotIn):behindInMarks op b=false:=by
 have ai:(op==CmpOp.In)=false:=by cases op<;>first|rfl|exact absurd rfl h
 have au:(op==CmpOp.NotIn)=false:=by cases op<;>first|rfl|exact absurd rfl h2
 cases b<;>simp[behindInMarks,ai,au]
def xO(t:TE):TT:=fun σ H Q=>t σ H fun x H1=>∃c,x=.aq c∧Q c H1
theorem Cf{op:CmpOp}{t:TE}(h:rE X op a b t)(h1:behindInMarks op b=false:=by first|exact BW _ (by decide) (by decide)|rfl):aP X (.Compare a [op] [b] pos) t:=fun pins s σ H Q I hw=>wpAny_Compare1 (h pins s σ H Q I hw) h1
theorem Cw{op:CmpOp}{t:TE}(h:rE X op a b t)(h1:behindInMarks op b=false:=by first|exact BW _ (by decide) (by decide)|rfl):dQ X (.Compare a [op] [b] pos) (xO t):=by intro pins s σ H Q I hw;refine wpAny_isTrue_Compare1 (bp (h pins s σ H _ I hw) fun v s1 h1=>bp h1 fun u s2 h2=>bp h2 fun c s3⟨x,H1,aT,ao,a5⟩=>?_) h1;obtain⟨d,rfl,q⟩:=a5;cases ao;exact wpAny_truthy_bool ⟨H1,aT,q⟩
theorem MZ{e:Expr}{t:TE}(h:aP X e t)(he:∀whole,isTrue e X.env whole=(do let v ←whole;standAt e.pos;holding [v] (truthy v)):=by intro _;rfl):dQ X e (xO t):=by intro pins s σ H Q I hw;refine isTrue_plain (bp (h pins s σ H _ I hw) fun v s1⟨x,H1,aT,ao,a5⟩=>?_) (he _);obtain⟨d,rfl,q⟩:=a5;cases ao;exact wpAny_truthy_bool ⟨H1,aT,q⟩
variable{dE tK:TT}{rest:List Expr}
def Dh(t u:TT):TT:=fun σ H Q=>t σ H fun c H1=>if c=true then u σ H1 Q else Q false H1
def Du(t u:TT):TT:=fun σ H Q=>t σ H fun c H1=>if c=true then Q true H1 else u σ H1 Q
def Ds(t:TT):TT:=fun σ H Q=>t σ H fun c H1=>Q (!c) H1
theorem M6(ha:dQ X a dE):gy X (.BoolOp .And [a] pos) dE:=by
 intro nt pins s σ H Q I h;refine isTrue_and (bp (ha pins s σ H Q I h) fun c s1 e=>?_);cases c with
 |true=>exact isTrue_and_nil e
 |false=>exact e
theorem M8(ha:dQ X a dE):gy X (.BoolOp .Or [a] pos) dE:=by
 intro nt pins s σ H Q I h;refine isTrue_or (bp (ha pins s σ H Q I h) fun c s1 e=>?_);cases c with
 |false=>exact isTrue_or_nil e
 |true=>exact e
theorem M5(ha:dQ X a dE)(hb:gy X (.BoolOp .And (b::rest) pos) tK):gy X (.BoolOp .And (a::b::rest) pos) (Dh dE tK):=by
 intro nt pins s σ H Q I h;refine isTrue_and (bp (ha pins s σ H _ I h) fun c s1⟨H1,aT,a5⟩=>?_);cases c with
 |true=>exact hb nt pins s1 σ H1 Q aT a5
 |false=>exact⟨H1,aT,a5⟩
theorem M7(ha:dQ X a dE)(hb:gy X (.BoolOp .Or (b::rest) pos) tK):gy X (.BoolOp .Or (a::b::rest) pos) (Du dE tK):=by
 intro nt pins s σ H Q I h;refine isTrue_or (bp (ha pins s σ H _ I h) fun c s1⟨H1,aT,a5⟩=>?_);cases c with
 |true=>exact⟨H1,aT,a5⟩
 |false=>exact hb nt pins s1 σ H1 Q aT a5
theorem MY(ha:dQ X a dE):dQ X (.UnaryOp .Not a pos) (Ds dE):=by intro pins s σ H Q I h;exact isTrue_not (ha pins s σ H (fun c H1=>Q (!c) H1) I h)
noncomputable def Di(bS tb:TE):TE:=fun σ H Q=>bS σ H fun x H1=>∃c,x=.aq c∧if c=true then tb σ H1 Q else Q (.aq false) H1
def Dt(bS:TE):TE:=fun σ H Q=>bS σ H fun x H1=>∃c,x=.aq c∧Q (.aq (!c)) H1
theorem My{op}{t:TE}(h:aP X a t):aP X (.BoolOp op [a] pos) t:=fun pins s σ H Q I hw=>BoolOp_one (h pins s σ H Q I hw)
theorem Mi(ha:aP X a bS)(hb:aP X (.BoolOp .And (b::rest) pos) tb):aP X (.BoolOp .And (a::b::rest) pos) (Di bS tb):=by
 intro pins s σ H Q I h;refine BoolOp_and (bp (ha pins s σ H _ I h) fun v s1⟨x,H1,aT,ao,a5⟩=>?_);obtain⟨c,rfl,a5⟩:=a5;cases ao;refine wpAny_truthy_bool ?_;cases c with
 |true=>exact hb pins s1 σ H1 Q aT a5
 |false=>exact⟨.aq false,H1,aT,rfl,a5⟩
theorem Mx(ha:aP X a bS):aP X (.UnaryOp .Not a pos) (Dt bS):=by intro pins s σ H Q I h;refine UnaryOp_ (bp (ha pins s σ H _ I h) fun v s1⟨x,H1,aT,ao,a5⟩=>?_);obtain⟨c,rfl,a5⟩:=a5;cases ao;exact not_of (wpAny_truthy_bool ⟨.aq (!c),H1,aT,rfl,a5⟩)
def Dp(t:TT)(bS tb:TE):TE:=fun σ H Q=>t σ H fun c H1=>if c=true then bS σ H1 Q else tb σ H1 Q
theorem Ms{c:Expr}(hc:dQ X c dE)(ha:aP X a bS)(hb:aP X b tb):aP X (.IfExp c a b pos) (Dp dE bS tb):=by
 intro pins s σ H Q I h;refine wpAny_IfExp (bp (hc pins s σ H _ I h) fun d s1⟨H1,aT,a5⟩=>?_);cases d with
 |true=>exact ha pins s1 σ H1 Q aT a5
 |false=>exact hb pins s1 σ H1 Q aT a5
end
noncomputable def bx(K:PySem.W.Frag)(H:J)(a:Addr)(xs:List V):Prop:=
 ep H a (.lst xs)∨
  ∃(o:Obj)(its:Array Value)(n:Nat),K.lookup a=some o∧o.cls=.type "list"∧o.dict=none∧o.data=.seq its n∧its.size≤sizeLine∧Vals xs its.toList
noncomputable def cB(K:PySem.W.Frag)(H:J)(a:Addr)(xs:List V):Prop:=
 ep H a (.tup xs)∨
  ∃(o:Obj)(its:Array Value)(n:Nat),K.lookup a=some o∧o.cls=.type "tuple"∧o.data=.seq its n∧its.size≤sizeLine∧Vals xs its.toList
noncomputable def E0:Value→Option V
 |.none=>some .non
 |.bool b=>some (.aq b)
 |.int i _=>some (.int i)
 |.str x _=>some (.str x)
 |.bytes b _=>some (.lA b)
 |.float b _=>some (.sd b)
 |.ref a=>some (.ref a)
 |.type n=>some (.ty n)
 |_=>none
theorem RelV.abs{x:V}{u:Value}(r:RelV x u):E0 u=some x:=by
 cases x with
 |non=>cases r;rfl
 |aq _=>cases r;rfl
 |int _=>obtain⟨t,rfl⟩:=r;rfl
 |str _=>obtain⟨t,rfl⟩:=r;rfl
 |lA _=>obtain⟨t,rfl⟩:=r;rfl
 |sd _=>obtain⟨t,rfl⟩:=r;rfl
 |ref _=>cases r;rfl
 |ty _=>cases r;rfl
theorem RelV.inj{x y:V}{u:Value}(r:RelV x u)(q:RelV y u):x=y:=Option.some.inj (r.abs.symm.trans q.abs)
theorem Vals.inj:∀{xs ys:List V}{us:List Value},Vals xs us→Vals ys us→xs=ys
 |_,_,_,.nil,.nil=>rfl
 |_,_,_,.cons r t,.cons aZ t'=>by rw[r.inj aZ,Vals.inj t t']
section
variable{X:aC}{pins:List (Addr×Obj)}{σ :St}{H:J}{s:Shared}{a:Addr}{xs ys:List V}
theorem bx.of{K:PySem.W.Frag}(h:H a=some (.lst xs)):bx K H a xs:=.inl (.inl h)
theorem cB.of{K:PySem.W.Frag}(h:H a=some (.tup xs)):cB K H a xs:=.inl (.inl h)
theorem Inv.list(I:Inv X pins σ H s)(h:bx X.K H a xs):∃its:List Value,Vals xs its∧PlainL s.heap a its.toArray∧xs.length≤sizeLine:=by
 rcases h with h|⟨o,its,n,hk,hc,hd,hs,bq,r⟩
 ·obtain⟨z,its,n,r,e⟩:=h.ok I.bc;exact⟨its,r,⟨_,n,e,rfl,rfl,rfl⟩,z⟩
 ·refine⟨its.toList,r,⟨o,n,I.dJ a o hk,hc,hd,by simpa using hs⟩,?_⟩;have e:=r.length;simp only[Array.length_toList]at e;omega
theorem Inv.tuple(I:Inv X pins σ H s)(h:cB X.K H a xs):∃its:List Value,Vals xs its∧IsTup s.heap a its.toArray∧xs.length≤sizeLine:=by
 rcases h with h|⟨o,its,n,hk,hc,hs,bq,r⟩
 ·obtain⟨z,its,r,p⟩:=h.ok I.bc;exact⟨its,r,p,z⟩
 ·refine⟨its.toList,r,⟨o,I.dJ a o hk,hc,n,by simpa using hs⟩,?_⟩;have e:=r.length;simp only[Array.length_toList]at e;omega
theorem Inv.wu(I:Inv X pins σ H s)(h:bx X.K H a xs)(h':bx X.K H a ys):xs=ys:=by
 obtain⟨its,r,⟨o,n,e,_,_,d⟩,_⟩:=I.list h;obtain⟨its',aZ,⟨bw,qw,bR,_,_,d'⟩,_⟩:=I.list h';rw[e]at bR;cases bR;rw[d]at d';injection d' with d1 _;have:its=its':=by simpa using congrArg Array.toList d1
 subst this;exact r.inj aZ
theorem Inv.DK(I:Inv X pins σ H s)(h:cB X.K H a xs)(h':cB X.K H a ys):xs=ys:=by
 obtain⟨its,r,⟨o,e,_,n,d⟩,_⟩:=I.tuple h;obtain⟨its',aZ,⟨bw,bR,_,qw,d'⟩,_⟩:=I.tuple h';rw[e]at bR;cases bR;rw[d]at d';injection d' with d1 _;have:its=its':=by simpa using congrArg Array.toList d1
 subst this;exact r.inj aZ
end
abbrev aC.hH(X:aC)(E:Value→Shared→Prop):aC:={ X with xe:=E }
abbrev aC.fs(X:aC):aC:=X.hH fun _ _=>False
theorem aC.Ok.hH{X:aC}(ok:X.Ok)(E:Value→Shared→Prop):(X.hH E).Ok:=
 ⟨ok.mod,ok.kind,ok.glob,ok.blt,ok.above,ok.inj,ok.has,ok.nV,ok.hd,ok.frames,ok.qZ,ok.vr,ok.bs,ok.kA,ok.oF,ok.pN,ok.g7,ok.lI⟩
theorem aC.Ok.gv{X:aC}{E:Value→Shared→Prop}(ok:(X.hH E).Ok):X.Ok:=
 ⟨ok.mod,ok.kind,ok.glob,ok.blt,ok.above,ok.inj,ok.has,ok.nV,ok.hd,ok.frames,ok.qZ,ok.vr,ok.bs,ok.kA,ok.oF,ok.pN,ok.g7,ok.lI⟩
section
variable{X:aC}{pins:List (Addr×Obj)}{σ :St}{H:J}{s:Shared}{E:Value→Shared→Prop}
theorem Inv.hH(I:Inv X pins σ H s)(E:Value→Shared→Prop):Inv (X.hH E) pins σ H s:=⟨I.ok.hH E,I.os,I.bare,I.base,I.loc,I.cell,I.free,I.hW,I.pin,I.bc,I.len⟩
theorem Inv.gv(I:Inv (X.hH E) pins σ H s):Inv X pins σ H s:=⟨I.ok.gv,I.os,I.bare,I.base,I.loc,I.cell,I.free,I.hW,I.pin,I.bc,I.len⟩
theorem ph.gv{D:Ends}{f:Flow}{s':Shared}(h:ph (X.hH E) pins D f s'):ph X pins D f s':=by
 cases f with
 |next=>obtain⟨σ',H',I,q⟩:=h;exact⟨σ',H',I.gv,q⟩
 |brk=>obtain⟨σ',H',I,q⟩:=h;exact⟨σ',H',I.gv,q⟩
 |cont=>obtain⟨σ',H',I,q⟩:=h;exact⟨σ',H',I.gv,q⟩
 |ret u=>obtain⟨v,σ',H',I,r,q⟩:=h;exact⟨v,σ',H',I.gv,r,q⟩
theorem eT.fs{st:List Stmt}{t:dR}(h:eT X.fs st t):eT X st t:=fun pins s σ H D I hw=>
 wpAny_mono (h pins s σ H D (I.hH _) hw) (fun _ _ q=>q.gv) fun _ _ z=>False.elim z
end
section
variable{X:aC}{st:Stmt}{rest:List Stmt}{t u:dR}{e:Expr}{te:TE}{pos:Pos}
def Dr:dR:=fun D σ H=>D.bj σ H
def xU(t u:dR):dR:=fun D σ H=>t { D with bj:=u D } σ H
theorem Cv:eT X [] Dr:=fun _ _ σ H _ I h=>wpAny_execs_nil ⟨σ,H,I,h⟩
theorem Cu(h1:cP X st t)(h2:eT X rest u):eT X (st::rest) (xU t u):=by
 intro pins s σ H D I h;refine wpAny_execs_cons (bp (h1 pins s σ H { D with bj:=u D } I h) fun f s1 q=>?_);cases f with
 |next=>obtain⟨σ',H',ll,q⟩:=q;exact h2 pins s1 σ' H' D ll q
 |ret v=>exact q
 |brk=>exact q
 |cont=>exact q
theorem wX(h1:cP X st t):eT X [st] t:=by
 intro pins s σ H D I h;refine wpAny_execs_cons (bp (h1 pins s σ H D I h) fun f s1 q=>?_);cases f with
 |next=>exact wpAny_execs_nil q
 |ret v=>exact q
 |brk=>exact q
 |cont=>exact q
theorem Inv.quiet{pins:List (Addr×Obj)}{σ :St}{H:J}{s:Shared}(I:Inv X pins σ H s):interactive X.env=false:=by simp[interactive,I.ok.kind]
def Dm(te:TE):dR:=fun D σ H=>te σ H fun _ H1=>D.bj σ H1
theorem qM(he:aP X e te)(hs:swapsWith e none pos.line X.env=pure false:=by rfl):cP X (.Expr e pos) (Dm te):=by intro pins s σ H D I h;exact wpAny_Expr_any (bp (he pins s σ H _ I h) fun v s1⟨x,H1,aT,ao,a5⟩=>⟨σ,H1,aT,a5⟩) I.quiet hs
def tN(te:TE):dR:=fun D σ H=>te σ H D.dB
theorem tq(he:aP X e te):cP X (.Return (some e) pos) (tN te):=by intro pins s σ H D I h;exact wpAny_Return_some (bp (he pins s σ H _ I h) fun v s1⟨x,H1,aT,ao,a5⟩=>⟨x,σ,H1,aT,ao,a5⟩)
def Dq(c:TT)(t u:dR):dR:=fun D σ H=>c σ H fun b H1=>if b=true then t D σ H1 else u D σ H1
theorem Ct{c:Expr}{a b:List Stmt}{fZ:TT}(hc:dQ X c fZ)(ha:eT X a t)(hb:eT X b u):cP X (.If c a b pos) (Dq fZ t u):=by
 intro pins s σ H D I h;refine wpAny_If (bp (hc pins s σ H _ I h) fun d s1⟨H1,aT,a5⟩=>?_);cases d with
 |true=>exact ha pins s1 σ H1 D aT a5
 |false=>exact hb pins s1 σ H1 D aT a5
end
abbrev f_:=V→St→J→(St→J→Prop)→Prop
abbrev jT:=List V→St→J→(St→J→Prop)→Prop
noncomputable def ik(X:aC)(target:Expr)(t:f_):Prop:=
 ∀(pins:List (Addr×Obj))(s:Shared)(σ :St)(H:J)(v:V)(u:Value)(Q:St→J→Prop),Inv X pins σ H s→RelV v u→t v σ H Q→
  wpAny (model X.prog X.w) X.A (assign target X.env u) (fun _ s'=>∃ σ' H',Inv X pins σ' H' s'∧Q σ' H') X.xe s
noncomputable def pf(X:aC)(ts:List Expr)(t:jT):Prop:=
 ∀(pins:List (Addr×Obj))(s:Shared)(σ :St)(H:J)(vs:List V)(us:List Value)(Q:St→J→Prop),Inv X pins σ H s→Vals vs us→t vs σ H Q→
  wpAny (model X.prog X.w) X.A (assignInOrder ((assignEach ts X.env).map (·.2)) us) (fun _ s'=>∃ σ' H',Inv X pins σ' H' s'∧Q σ' H') X.xe s
abbrev uJ:=V→V→V→J→(J→Prop)→Prop
noncomputable def yt(X:aC)(t:uJ):Prop:=
 ∀(pins:List (Addr×Obj))(s:Shared)(σ :St)(H:J)(o i v:V)(cR gi u:Value)(Q:J→Prop),Inv X pins σ H s→RelV o cR→RelV i gi→RelV v u→t o i v H Q→
  wpAny (model X.prog X.w) X.A (setItem cR gi u) (fun _ s'=>∃H',Inv X pins σ H' s'∧Q H') X.xe s
section
variable{X:aC}{pos:Pos}
def j2(i:Nat):f_:=fun v σ H Q=>Q (σ.set i (some v)) H
theorem tp{i:Nat}{x:Str}(hN:X.N.Nodup)(hi:X.N[i]?=some x)(hx:Loc X.env.scope x)(hf:X.fn x=true∨X.env.scope.names.lookup x=some .local:=by first|exact .inl rfl|exact .inr rfl|assumption):ik X (.Name x pos) (j2 i):=by intro pins s σ H v u Q I r h;exact wpAny_assign_Name (xJ I hN hi hx r (fun s' ll=>⟨_,H,ll,h⟩) hf)
def sh:jT:=fun vs σ H Q=>vs=[]∧Q σ H
def pR(t:f_)(u:jT):jT:=fun vs σ H Q=>∃v r,vs=v::r∧t v σ H fun σ' H'=>u r σ' H' Q
theorem Cn:pf X [] sh:=by intro pins s σ H vs us Q I r h;obtain⟨e,h⟩:=h;subst e;cases r;exact assignInOrder_nil ⟨σ,H,I,h⟩
theorem wV{e:Expr}{af:List Expr}{t:f_}{u:jT}(h1:ik X e t)(h2:pf X af u)(hs:(assignEach (e::af) X.env).map (·.2)=assign e X.env::(assignEach af X.env).map (·.2):=by rfl):pf X (e::af) (pR t u):=by
 intro pins s σ H vs us Q I r h;obtain⟨v,t4,ai,h⟩:=h;subst ai;cases r with
 |cons r w5=>rw[hs];refine assignInOrder_cons (bp (h1 pins s σ H _ _ _ I r h) fun _ s1⟨σ1,H1,aT,a5⟩=>?_);exact h2 pins s1 σ1 H1 _ _ Q aT w5 a5
noncomputable def sj(K:PySem.W.Frag)(n:Nat)(t:jT):f_:=fun v σ H Q=>∃a xs,v=.ref a∧cB K H a xs∧xs.length=n∧t xs σ H Q
theorem Cm{af:List Expr}{k:Nat}{t:jT}{n:Nat}(hc:X.calm=true)(h:pf X af t)(aI:(assignEach af X.env).length=n:=by rfl)(hst:(assignEach af X.env).findIdx? (·.1)=none:=by rfl):ik X (.Tuple af k pos) (sj X.K n t):=by intro pins s σ H v u Q I r hw;obtain⟨a,xs,ai,aH,hl,hw⟩:=hw;subst ai;cases r;obtain⟨its,bE,ht,bq⟩:=I.tuple aH;refine assign_Tuple_tuple (I.ok.hd hc) ht (by simp[aI,←hl,bE.length]) hst fun h' hx=>?_;have aT:Inv X pins σ H { s with heap:=h' }:=I.kept (t':=s.toks) fun b o e=>hx b o (Nat.ne_of_lt (Heap.lt_size e)) e;exact h pins _ σ H xs _ Q aT (by simpa using bE) hw
noncomputable def HC(to tR:TE)(t:uJ):f_:=fun v σ H Q=>to σ H fun o H1=>tR σ H1 fun i aQ=>t o i v aQ fun cN=>Q σ cN
theorem MF {o i:Expr} {to tR:TE} {t:uJ} (ho:aP X o to) (hi:aP X i tR) (hs:yt X t)(ha:∀v,assign (.Subscript o i pos) X.env v=(do
    let cR ←holding [v] (eval o X.env)
    let gi ←holding [v,cR] (eval i X.env)
    standAt pos
    holding [v,cR,gi] (setItem cR gi v)
    release [v,cR,gi] []):=by intro _;rfl):ik X (.Subscript o i pos) (HC to tR t):=by
 intro pins s σ H v u Q I r h;rw[ha];refine wpAny_bind (wpAny_holding (bp (ho pins s σ H _ I h) fun cR s1⟨x,H1,aT,ao,a5⟩=>?_));refine wpAny_bind (wpAny_holding (bp (hi pins s1 σ H1 _ aT a5) fun gi s2⟨y,aQ,bZ,a7,bL⟩=>?_));refine wpAny_bind (wpAny_standAt (wpAny_bind (wpAny_holding (bp (hs pins s2 σ aQ x y v cR gi u _ bZ ao a7 r bL) fun _ s3⟨cN,da,eP⟩=>?_))));exact wpAny_release ⟨σ,cN,da,eP⟩
def q2(te:TE)(g:f_):dR:=fun D σ H=>te σ H fun x H1=>g x σ H1 D.bj
theorem MQ{bF e:Expr}{te:TE}{g:f_}(he:aP X e te)(hg:ik X bF g)(hs:swapsWithSole [bF] e pos.line X.env=pure false:=by rfl)(hw:swappedStores [bF] e X.env=pure none:=by rfl)(h1:(assignEach [bF] X.env).map (·.2)=[assign bF X.env]:=by rfl):cP X (.Assign [bF] e pos) (q2 te g):=by intro pins s σ H D I h;refine wpAny_Assign_stores (bp (he pins s σ H _ I h) fun v s1⟨x,H1,aT,ao,a5⟩=>?_) hs hw;rw[h1];exact bp (hg pins s1 σ H1 x v _ aT ao a5) fun _ s2 q=>q
theorem qN{i:Nat}{x:Str}{e:Expr}{te:TE}{pos':Pos}(hN:X.N.Nodup)(hi:X.N[i]?=some x)(hx:Loc X.env.scope x)(he:aP X e te)(hs:swapsWith e (some (.Name x pos')) pos.line X.env=pure false:=by rfl)(hf:X.fn x=true∨X.env.scope.names.lookup x=some .local:=by first|exact .inl rfl|exact .inr rfl|assumption) :
  cP X (.Assign [.Name x pos'] e pos) (q2 te (j2 i)):=by
 intro pins s σ H D I h;refine wpAny_Assign_Name (bp (he pins s σ H _ I h) fun v s1⟨y,H1,aT,ao,a5⟩=>?_) hs;exact xJ aT hN hi hx ao (fun s2 bZ=>⟨_,H1,bZ,a5⟩) hf
end
section
variable{X:aC}{pos:Pos}
end
structure It where
 go:Nat→J→Prop
 jf:Nat→J→V→J→Prop
 stop:Nat→J→Prop
noncomputable def hJ(X:aC)(pins:List (Addr×Obj))(H:J)(b:Addr):Prop:=
 H b=none∧b≠X.env.locals∧b∉X.aK∧(b∈X.ex∨X.dO.heap.objs.size≤b)∧(∀x c,X.env.cells.lookup x=some c→c≠b)∧∀p∈X.lW++pins,p.1≠b
theorem Inv.n2{X:aC}{pins:List (Addr×Obj)}{σ :St}{H H':J}{s:Shared}{b:Addr}(I:Inv X pins σ H s)(hb:s.heap.objs.size≤b)(aI:H' b=none):hJ X pins H' b:=by
 refine⟨aI,Nat.ne_of_gt (Nat.lt_of_lt_of_le I.lt hb),I.Lu hb,.inr (Nat.le_trans I.ja hb),fun x c e z=>?_,fun p hp z=>?_⟩
 ·obtain⟨v,q⟩:=I.cell x c e;exact absurd (Nat.lt_of_lt_of_le q.lt (by rw[z];exact hb)) (Nat.lt_irrefl _)
 ·exact absurd (Nat.lt_of_lt_of_le (Heap.lt_size (I.pin p hp).1) (by rw[z];exact hb)) (Nat.lt_irrefl _)
structure Turn(P:Program)(w:World)(K:PySem.W.Frag)(bF:Expr)(bk:It)(aU:List Addr)(it:Addr)(fw:Nat→Heap→Prop):Prop where
 mem:it∈aU
 obj:∀i h,fw i h→∀b∈aU,∃o,h.get? b=some o∧∀v,o.data≠.cell v
 keep:∀i h h',fw i h→(∀b∈aU,∀o,h.get? b=some o→h'.get? b=some o)→fw i h'
 item:∀(X:aC),X.prog=P→X.w=w→X.K=K→X.calm=true→∀(i:Nat)(pins:List (Addr×Obj))(s:Shared)(σ :St)(H:J)(E:Value→Shared→Prop),Inv X pins σ H s→(∀b∈aU,hJ X pins H b)→fw i s.heap→bk.go i H→
  wpAny (model P w) X.A (pyNext (.ref it)) (fun r s1=>∃u,r=some u∧
   wpAny (model P w) X.A (letOwnedTupleGo bF (.ref it) u) (fun _ s2=>∃x H',Inv X pins σ H' s2∧RelV x u∧bk.jf i H x H'∧fw (i+1) s2.heap∧∀b∈aU,H' b=none) E s1) E s
 done:∀(X:aC),X.prog=P→X.w=w→X.K=K→X.calm=true→∀(i:Nat)(pins:List (Addr×Obj))(s:Shared)(σ :St)(H:J)(E:Value→Shared→Prop),Inv X pins σ H s→(∀b∈aU,hJ X pins H b)→fw i s.heap→bk.stop i H→
  wpAny (model P w) X.A (pyNext (.ref it)) (fun r s1=>r=none∧Inv X pins σ H s1) E s
 self:∀(A:Around)(i:Nat)(s:Shared)(Q:Value→Shared→Prop)(E:Value→Shared→Prop),fw i s.heap→Q (.ref it) s→wpAny (model P w) A (pyIter (.ref it)) Q E s
abbrev TI:=St→J→(It→J→Prop)→Prop
noncomputable def yr(X:aC)(pins:List (Addr×Obj))(σ :St)(bF:Expr)(R:It→J→Prop)(v9:Value)(s2:Shared):Prop:=
 ∃(it:Addr)(aU:List Addr)(fw:Nat→Heap→Prop)(bk:It)(H':J),v9=.ref it∧Inv X pins σ H' s2∧Turn X.prog X.w X.K bF bk aU it fw∧fw 0 s2.heap∧(∀b∈aU,hJ X pins H' b)∧R bk H'
noncomputable def gZ(X:aC)(bF iter:Expr)(ig:TI):Prop:=
 ∀(pins:List (Addr×Obj))(s:Shared)(σ :St)(H:J)(R:It→J→Prop),Inv X pins σ H s→ig σ H R→
  wpAny (model X.prog X.w) X.A (eval iter X.env) (fun v s1=>wpAny (model X.prog X.w) X.A (pyIter v) (yr X pins σ bF R) X.xe s1) X.xe s
theorem vC{M:Model}{A:Around}{E:Value→Shared→Prop}{s:Shared}{bF:Expr}{it:Addr}{u:Value}{o:Obj}{n:String}{vs:Array Value}{Q:Unit→Shared→Prop}(ho:s.heap.get? it=some o)(hc:o.cls=.type n)(hd:o.data=.fields vs)(aI:["enumerate","zip","dict_itemiterator","dict_reverseitemiterator","odict_iterator","itertools.zip_longest","itertools.pairwise"].contains n=false)(iV:Q () s):wpAny M A (letOwnedTupleGo bF (.ref it) u) Q E s:=by
 unfold letOwnedTupleGo
 cases bF<;>first
  |exact wpAny_pure iV
  |(cases u<;>first
      |exact wpAny_pure iV
      |(refine wpAny_bind (wpAny_load ho ?_)
        rw[hc,hd];show wpAny M A (if(["enumerate","zip","dict_itemiterator","dict_reverseitemiterator","odict_iterator","itertools.zip_longest","itertools.pairwise"].contains n&&vs[0]?==some (rawInt _))=true then _ else _) Q E s;rw[if_neg (by intro h;rw[aI,Bool.false_and]at h;cases h)];exact wpAny_pure iV))
noncomputable def uD(K:PySem.W.Frag)(a:Addr):It:=
 ⟨fun i H=>∃xs x,bx K H a xs∧xs[i]?=some x,fun i H x H'=>H'=H∧∀xs,bx K H a xs→xs[i]?=some x,fun i H=>∃xs,bx K H a xs∧xs.length≤i⟩
noncomputable def uE(K:PySem.W.Frag)(a:Addr):It:=
 ⟨fun i H=>∃xs x,cB K H a xs∧xs[i]?=some x,fun i H x H'=>H'=H∧∀xs,cB K H a xs→xs[i]?=some x,fun i H=>∃xs,cB K H a xs∧xs.length≤i⟩
def rB(lo:Int)(n:Nat):It:=⟨fun i _=>i<n,fun i H x H'=>H'=H∧x=.int (lo+i),fun i _=>n≤i⟩
theorem Pp{P:Program}{w:World}{K:PySem.W.Frag}{bF:Expr}(a it:Addr):Turn P w K bF (uD K a) [it] it (fun i h=>h.IsListIter it a i) where
 mem:=by simp
 obj:=fun i h st b hb=>by
  have e:b=it:=by simpa using hb
  subst e;obtain⟨o,e,c,d⟩:=st;exact⟨o,e,fun v z=>by rw[d]at z;cases z⟩
 keep:=fun i h h' st k=>st.at fun o e=>k it (by simp) o e
 item:=by intro X ed hw hK hc i pins s σ H E I hf st hg;subst ed hw hK;obtain⟨xs,x,aH,hx⟩:=hg;obtain⟨its,bE,p,bq⟩:=I.list aH;obtain⟨u,hu,ei⟩:=bE.get hx;obtain⟨f0,f1,f2,eC,f4,gf⟩:=hf it (by simp);refine wpAny_pyNext_list_item st p.isList (x:=u) (by simpa using hu) fun h' l1 m_=>?_;have aT:Inv X pins σ H { s with heap:=h' }:=I.turned (t':=s.toks) (fun b o hb e=>(m_.2 b hb).trans e) f0 f1 eC f4 gf;obtain⟨o,e,c,d⟩:=id l1;exact⟨u,rfl,vC (s:={ s with heap:=h' }) e c d (by decide) ⟨x,H,aT,ei,⟨rfl,fun ys cF=>by rw[I.wu cF aH];exact hx⟩,l1,fun b hb=>(hf b hb).1⟩⟩
 done:=by intro X ed hw hK hc i pins s σ H E I hf st hg;subst ed hw hK;obtain⟨xs,aH,hx⟩:=hg;obtain⟨its,bE,p,bq⟩:=I.list aH;obtain⟨f0,f1,f2,eC,f4,gf⟩:=hf it (by simp);have hl:=bE.length;exact wpAny_pyNext_list_end (I.ok.hd hc) st p.isList (by simp;omega) fun h' bz=>⟨rfl,I.turned (t':=s.toks) (fun b o hb e=>bz b o hb e) f0 f1 eC f4 gf⟩
 self:=fun _ _ _ _ _ st h=>wpAny_pyIter_listiter st h
theorem Pr{P:Program}{w:World}{K:PySem.W.Frag}{bF:Expr}(a it:Addr):Turn P w K bF (uE K a) [it] it (fun i h=>h.IsTupleIter it a i) where
 mem:=by simp
 obj:=fun i h st b hb=>by
  have e:b=it:=by simpa using hb
  subst e;obtain⟨o,e,c,d⟩:=st;exact⟨o,e,fun v z=>by rw[d]at z;cases z⟩
 keep:=fun i h h' st k=>st.at fun o e=>k it (by simp) o e
 item:=by intro X ed hw hK hc i pins s σ H E I hf st hg;subst ed hw hK;obtain⟨xs,x,aH,hx⟩:=hg;obtain⟨its,bE,p,bq⟩:=I.tuple aH;obtain⟨u,hu,ei⟩:=bE.get hx;obtain⟨f0,f1,f2,eC,f4,gf⟩:=hf it (by simp);refine wpAny_pyNext_tuple_item st (show s.heap.IsTuple a its.toArray from p) (x:=u) (by simpa using hu) fun h' l1 m_=>?_;have aT:Inv X pins σ H { s with heap:=h' }:=I.turned (t':=s.toks) (fun b o hb e=>(m_.2 b hb).trans e) f0 f1 eC f4 gf;obtain⟨o,e,c,d⟩:=id l1;exact⟨u,rfl,vC (s:={ s with heap:=h' }) e c d (by decide) ⟨x,H,aT,ei,⟨rfl,fun ys cF=>by rw[I.DK cF aH];exact hx⟩,l1,fun b hb=>(hf b hb).1⟩⟩
 done:=by intro X ed hw hK hc i pins s σ H E I hf st hg;subst ed hw hK;obtain⟨xs,aH,hx⟩:=hg;obtain⟨its,bE,p,bq⟩:=I.tuple aH;obtain⟨f0,f1,f2,eC,f4,gf⟩:=hf it (by simp);have hl:=bE.length;exact wpAny_pyNext_tuple_end (I.ok.hd hc) st (show s.heap.IsTuple a its.toArray from p) (by simp;omega) fun h' bz=>⟨rfl,I.turned (t':=s.toks) (fun b o hb e=>bz b o hb e) f0 f1 eC f4 gf⟩
 self:=fun _ _ _ _ _ st h=>wpAny_pyIter_tupleiter st h
theorem Pq{P:Program}{w:World}{K:PySem.W.Frag}{bF:Expr}(it:Addr)(lo:Int)(n:Nat):Turn P w K bF (rB lo n) [it] it (fun i h=>IsRangeIter h it (lo+(i:Nat)*1) ((n:Int)-(i:Nat)) 1) where
 mem:=by simp
 obj:=fun i h st b hb=>by
  have e:b=it:=by simpa using hb
  subst e;exact⟨_,st,fun v z=>by have f6:Data.fields _=Data.cell v:=z;cases f6⟩
 keep:=fun i h h' st k=>k it (by simp) _ st
 item:=by intro X ed hw hK hc i pins s σ H E I hf st hg;subst ed hw hK;obtain⟨f0,f1,f2,eC,f4,gf⟩:=hf it (by simp);have W:=Walks.range (prog:=X.prog) (w:=X.w) (I.ok.hd hc) it lo 1 n;refine W.item i s _ _ hg st fun v h' d4 hv l1 cq=>?_;obtain⟨t,rfl⟩:=hv;have aT:Inv X pins σ H { s with heap:=h',toks:=d4 }:=I.turned (fun b o hb e=>cq b o (by simpa using hb) e) f0 f1 eC f4 gf;refine⟨_,rfl,vC (s:={ s with heap:=h',toks:=d4 }) (n:="range_iterator") l1 rfl rfl (by decide) ⟨.int (lo+i),H,aT,⟨t,?_⟩,⟨rfl,rfl⟩,l1,fun b hb=>(hf b hb).1⟩⟩;rw[Int.mul_one]
 done:=by intro X ed hw hK hc i pins s σ H E I hf st hg;subst ed hw hK;obtain⟨f0,f1,f2,eC,f4,gf⟩:=hf it (by simp);exact wpAny_pyNext_range_end (I.ok.hd hc) st (by have:n≤i:=hg;omega) fun h' bz=>⟨rfl,I.turned (t':=s.toks) (fun b o hb e=>bz b o hb e) f0 f1 eC f4 gf⟩
 self:=fun _ _ _ _ _ st h=>wpAny_pyIter_rangeiter st h
section
variable{X:aC}{bF:Expr}
noncomputable def AK(K:PySem.W.Frag)(e_:TE):TI:=fun σ H R=>e_ σ H fun x H1=>∃a,x=.ref a∧(∃xs,bx K H1 a xs)∧R (uD K a) H1
noncomputable def AM(K:PySem.W.Frag)(e_:TE):TI:=fun σ H R=>e_ σ H fun x H1=>∃a,x=.ref a∧(∃xs,cB K H1 a xs)∧R (uE K a) H1
theorem MH{l:Expr}{e_:TE}(hl:aP X l e_):gZ X bF l (AK X.K e_):=by
 intro pins s σ H R I h;refine bp (hl pins s σ H _ I h) fun v s1⟨x,H1,aT,ao,a5⟩=>?_;obtain⟨a,e,⟨xs,aH⟩,q⟩:=a5;subst e;cases ao;obtain⟨its,bE,p,bq⟩:=aT.list aH;refine wpAny_pyIter_list p.isList ?_;refine⟨s1.heap.objs.size,[s1.heap.objs.size],_,_,H1,rfl,aT.kept (t':=s1.toks) fun b o e=>Heap.get?_push_of_some _ e,Pp a _,⟨_,Heap.get?_push_size _ rfl,rfl,rfl⟩,fun b hb=>?_,q⟩;have e:b=s1.heap.objs.size:=by simpa using hb
 subst e;exact aT.n2 (Nat.le_refl _) (aT.bc.fresh (Nat.le_refl _))
theorem MJ{l:Expr}{e_:TE}(hl:aP X l e_):gZ X bF l (AM X.K e_):=by
 intro pins s σ H R I h;refine bp (hl pins s σ H _ I h) fun v s1⟨x,H1,aT,ao,a5⟩=>?_;obtain⟨a,e,⟨xs,aH⟩,q⟩:=a5;subst e;cases ao;obtain⟨its,bE,p,bq⟩:=aT.tuple aH;refine wpAny_pyIter_tuple (show s1.heap.IsTuple a its.toArray from p) ?_;refine⟨s1.heap.objs.size,[s1.heap.objs.size],_,_,H1,rfl,aT.kept (t':=s1.toks) fun b o e=>Heap.get?_push_of_some _ e,Pr a _,⟨_,Heap.get?_push_size _ rfl,rfl,rfl⟩,fun b hb=>?_,q⟩;have e:b=s1.heap.objs.size:=by simpa using hb
 subst e;exact aT.n2 (Nat.le_refl _) (aT.bc.fresh (Nat.le_refl _))
theorem Nm{pins:List (Addr×Obj)}{σ :St}{H:J}{s:Shared}{R:It→J→Prop}{E:Value→Shared→Prop}{lo hi:Int}{t u v:Tok}{d4:Nat}(I:Inv X pins σ H s)(h1: -(2^62)≤lo)(h2:lo<2^62)(h3: -(2^62)≤hi)(h4:hi<2^62)(q:R (rB lo (hi-lo).toNat) H):wpAny (model X.prog X.w) X.A (pyIter (.ref s.heap.objs.size)) (yr X pins σ bF R) E { s with heap:=s.heap.push { cls:=.type "range",data:=.fields #[.int lo t,.int hi u,.int 1 v] },toks:=d4 }:=by
 refine wpAny_pyIter_range (IsRange.new ..) (small_one h1 h2 h3 h4) ?_;have aT:Inv X pins σ H { s with heap:=s.heap.push { cls:=.type "range",data:=.fields #[.int lo t,.int hi u,.int 1 v] },toks:=d4 }:=I.kept fun b o e=>Heap.get?_push_of_some _ e
 refine⟨(s.heap.push { cls:=.type "range",data:=.fields #[.int lo t,.int hi u,.int 1 v] }).objs.size,[(s.heap.push { cls:=.type "range",data:=.fields #[.int lo t,.int hi u,.int 1 v] }).objs.size],_,_,H,rfl,
  aT.kept (t':=d4) fun b o e=>Heap.get?_push_of_some _ e,Pq _ lo (hi-lo).toNat,?_,fun b hb=>?_,q⟩
 ·have ai:lo+((0:Nat):Int)*1=lo:=by simp
  have au:(((hi-lo).toNat:Nat):Int)-((0:Nat):Int)=Builtin.Range.rangeSize lo hi 1:=by rw[rangeSize_one];split<;>omega
  show IsRangeIter _ _ (lo+((0:Nat):Int)*1) ((((hi-lo).toNat:Nat):Int)-((0:Nat):Int)) 1;rw[ai,au];exact Heap.get?_push_size _ rfl
 ·have e:b=(s.heap.push { cls:=.type "range",data:=.fields #[.int lo t,.int hi u,.int 1 v] }).objs.size:=by simpa using hb
  subst e;exact aT.n2 (Nat.le_refl _) (aT.bc.fresh (Nat.le_refl _))
noncomputable def AL(bS:dX):TI:=fun σ H R=>bS σ H fun vs H1=>∃j:Int,vs=[.int j]∧-(2^62)≤j∧j<2^62∧R (rB 0 j.toNat) H1
theorem MI{a:Expr}{bS:dX}{p pos:Pos}(hg:cA X "range")(hm:X.mg "range"=none)(ha:d8 X [a] bS)(hs:starEach [a] X.env=[(false,eval a X.env)]:=by rfl):gZ X bF (.Call (.Name "range" p) [a] [] pos) (AL bS):=by
 intro pins s σ H R I h;refine Call_ (p8 I hg hm boot_range (PyProof.Rows.callWith_type1 (bp (ha pos pins s σ H _ I h) fun us s1⟨vs,H1,aT,ao,a5⟩=>?_) hs rfl));obtain⟨j,e,a5,bL,q⟩:=a5;subst e;cases ao with
 |cons r w5=>cases w5;obtain⟨t,rfl⟩:=r;exact call_range_1 (Nm aT (by omega) (by omega) a5 bL (by simpa using q))
noncomputable def Dn(ig:TI)(g:f_)(tb:dR):dR:=fun D σ H=>ig σ H fun bk H1=>∃W:Nat→Nat→St→J→Prop,(∃m,W 0 m σ H1)∧∀i m σ H,W i m σ H→
 (bk.stop i H∧D.bj σ H)∨(bk.go i H∧∃N:St→J→Prop,(∀ σ' H',N σ' H'→∃ew,ew<m∧W (i+1) ew σ' H')∧∀x H',bk.jf i H x H'→g x σ H' fun σ2 aQ=>tb { D with bj:=N,b3:=N,d9:=D.bj } σ2 aQ)
def qL(aU:List Addr)(h:Heap):List (Addr×Obj):=aU.filterMap fun b=>(h.get? b).map fun o=>(b,o)
theorem s6{aU:List Addr}{h:Heap}{b:Addr}{o:Obj}(hb:b∈aU)(e:h.get? b=some o):(b,o)∈qL aU h:=List.mem_filterMap.mpr ⟨b,hb,by rw[e];rfl⟩
theorem LI{aU:List Addr}{h:Heap}{p:Addr×Obj}(hp:p∈qL aU h):p.1∈aU∧h.get? p.1=some p.2:=by
 obtain⟨b,hb,e⟩:=List.mem_filterMap.mp hp;cases q:h.get? b with
 |none=>rw[q]at e;cases e
 |some o=>rw[q]at e;have bR:(b,o)=p:=Option.some.inj e;subst bR;exact⟨hb,q⟩
theorem Inv.pinned{pins:List (Addr×Obj)}{σ :St}{H:J}{s:Shared}{aU:List Addr}(I:Inv X pins σ H s)(hf:∀b∈aU,hJ X pins H b)(ho:∀b∈aU,∃o,s.heap.get? b=some o∧∀v,o.data≠.cell v):Inv X (pins++qL aU s.heap) σ H s:=
 I.Cp fun p hp=>(List.mem_append.mp hp).elim (fun z=>I.pin p (List.mem_append_right _ z)) fun z=>by obtain⟨hb,e⟩:=LI z;obtain⟨f0,f1,f2,_⟩:=hf p.1 hb;obtain⟨o,bR,d⟩:=ho p.1 hb;rw[e]at bR;cases bR;exact⟨e,f0,f1,f2,d⟩
theorem Inv.tX{pins pl:List (Addr×Obj)}{σ :St}{H:J}{s:Shared}(I:Inv X (pins++pl) σ H s):Inv X pins σ H s:=I.Cp fun p hp=>I.pin p (List.mem_append_right _ (List.mem_append_left _ hp))
theorem MT{iter:Expr}{body:List Stmt}{ig:TI}{g:f_}{tb:dR}{pos:Pos}(hp:PassesOwn (model X.prog X.w) X.A X.env X.xe)(hc:X.calm=true)(hi:gZ X bF iter ig)(hg:ik X bF g)(hb:eT X body tb)(hs:∀x,foldedSetIterable iter X.env x=pure x:=by intro _;rfl):cP X (.For bF iter body [] pos) (Dn ig g tb):=by
 intro pins s σ H D I h;refine wpAny_For (bp (hi pins s σ H _ I h) fun v s1 h1=>bp h1 fun v9 s2 h2=>?_) hs;obtain⟨it,aU,fw,bk,aQ,e,bZ,T,kg,f2,W,⟨m0,nr⟩,turn⟩:=h2;subst e;have stat:∀{H':J},(∀b∈aU,H' b=none)→∀b∈aU,hJ X pins H' b:=fun aI b hb=>⟨aI b hb,(f2 b hb).2⟩;refine codeAny_forLoop_any (fun n s'=>∃i σ' H',Inv X pins σ' H' s'∧fw i s'.heap∧(∀b∈aU,H' b=none)∧W i n σ' H') ?_ m0 ⟨0,σ,aQ,bZ,kg,fun b hb=>(f2 b hb).1,nr⟩;rintro n s3 ⟨i,σ3,cN,da,Dc,Ab,hG⟩;rcases turn i n σ3 cN hG with⟨stop,qn⟩|⟨go,N,hN,step⟩
 ·refine wpAny_passesOwn hp (bp (T.done X rfl rfl rfl hc i pins s3 σ3 cN X.xe da (stat Ab) Dc stop) fun r s4⟨hr,iI⟩=>?_);subst hr;exact wpAny_execs_nil ⟨σ3,cN,iI,qn⟩
 ·refine wpAny_passesOwn hp (bp (T.item X rfl rfl rfl hc i pins s3 σ3 cN X.xe da (stat Ab) Dc go) fun r s4⟨u,hr,h4⟩=>?_);subst hr;refine wpAny_passesOwn hp (bp h4 fun _ s5⟨x,gV,kl,jB,QC,oR,sg⟩=>?_);have EJ:=kl.pinned (stat sg) (T.obj _ _ oR);refine wpAny_passesOwn hp (bp (hg _ s5 σ3 gV x u _ EJ jB (step x gV QC)) fun _ fu⟨σ6,nE,ml,M_⟩=>?_);refine wpAny_passesOwn hp (bp (hb _ fu σ6 nE _ ml M_) fun f dC lY=>?_);have again:∀{σ7:St}{fO:J},Inv X (pins++qL aU s5.heap) σ7 fO dC→N σ7 fO→∃m,m<n∧∃i σ' H',Inv X pins σ' H' dC∧fw i dC.heap∧(∀b∈aU,H' b=none)∧W i m σ' H':=fun{σ7 fO} gW qy=>by
   obtain⟨ew,hm,PG⟩:=hN σ7 fO qy;refine⟨ew,hm,i+1,σ7,fO,gW.tX,T.keep _ _ _ oR fun b hb o e=>(gW.pin (b,o) (List.mem_append_right _ (List.mem_append_right _ (s6 hb e)))).1,fun b hb=>?_,PG⟩;obtain⟨o,e,d⟩:=T.obj _ _ oR b hb;exact(gW.pin (b,o) (List.mem_append_right _ (List.mem_append_right _ (s6 hb e)))).2.1
  cases f with
  |next=>obtain⟨σ7,fO,gW,qy⟩:=lY;exact again gW qy
  |cont=>obtain⟨σ7,fO,gW,qy⟩:=lY;exact again gW qy
  |brk=>obtain⟨σ7,fO,gW,lY⟩:=lY;exact⟨σ7,fO,gW.tX,lY⟩
  |ret v=>obtain⟨PU,σ7,fO,gW,kW,lY⟩:=lY;exact⟨PU,σ7,fO,gW.tX,kW,lY⟩
end
abbrev dr:=V→V→J→bT→Prop
noncomputable def cX(X:aC)(f:Value→Value→Sem Value)(r:dr):Prop:=
 ∀(pins:List (Addr×Obj))(s:Shared)(σ :St)(H:J)(x y:V)(v u:Value)(Q:bT),Inv X pins σ H s→RelV x v→RelV y u→r x y H Q→
  wpAny (model X.prog X.w) X.A (f v u) (eG X pins σ Q) X.xe s
noncomputable def rH(X:aC)(f:Value→Sem Value)(r:V→J→bT→Prop):Prop:=
 ∀(pins:List (Addr×Obj))(s:Shared)(σ :St)(H:J)(x:V)(v:Value)(Q:bT),Inv X pins σ H s→RelV x v→r x H Q→
  wpAny (model X.prog X.w) X.A (f v) (eG X pins σ Q) X.xe s
noncomputable def jg(X:aC)(f:Value)(r:List V→J→bT→Prop):Prop:=
 ∀(pins:List (Addr×Obj))(s:Shared)(σ :St)(H:J)(xs:List V)(us:List Value)(Q:bT),Inv X pins σ H s→Vals xs us→r xs H Q→
  wpAny (model X.prog X.w) X.A (call f us) (eG X pins σ Q) X.xe s
noncomputable def EU(X:aC)(r:V→J→(Bool→J→Prop)→Prop):Prop:=
 ∀(pins:List (Addr×Obj))(s:Shared)(σ :St)(H:J)(x:V)(v:Value)(Q:Bool→J→Prop),Inv X pins σ H s→RelV x v→r x H Q→
  wpAny (model X.prog X.w) X.A (truthy v) (rG X pins σ Q) X.xe s
def q6(r:dr)(bS tb:TE):TE:=fun σ H Q=>bS σ H fun x H1=>tb σ H1 fun y aQ=>r x y aQ Q
def Dy(r:V→J→bT→Prop)(bS:TE):TE:=fun σ H Q=>bS σ H fun x H1=>r x H1 Q
def oL(C:Int→Int→Prop)(g:Int→Int→V):dr:=fun x y H Q=>∃i j,x=.int i∧y=.int j∧C i j∧Q (g i j) H
def jC(g:Int→Int→V):dr:=fun x y H Q=>∃i j,x=.int i∧y=.int j∧Q (g i j) H
def CK(g:Int→V):V→J→bT→Prop:=fun x H Q=>∃i,x=.int i∧Q (g i) H
section
variable{X:aC}{a b c:Expr}{bS tb fZ:TE}{pos:Pos}
theorem u4(ha:aP X a bS)(hb:aP X b tb){pins:List (Addr×Obj)}{s:Shared}{σ :St}{H:J}{R:V→V→J→Prop}(I:Inv X pins σ H s)(h:bS σ H fun x H1=>tb σ H1 fun y aQ=>R x y aQ){Q:Value→Shared→Prop}{f:Value→Value→Sem Value}(hf:∀v u s2 x y aQ,Inv X pins σ aQ s2→RelV x v→RelV y u→R x y aQ→wpAny (model X.prog X.w) X.A (f v u) Q X.xe s2) :
  wpAny (model X.prog X.w) X.A (eval a X.env) (fun v cz=>wpAny (model X.prog X.w) X.A (eval b X.env) (fun u l2=>wpAny (model X.prog X.w) X.A (f v u) Q X.xe l2) X.xe cz) X.xe s:=by
 refine bp (ha pins s σ H _ I h) fun v s1⟨x,H1,aT,ao,a5⟩=>?_;refine bp (hb pins s1 σ H1 _ aT a5) fun u s2⟨y,aQ,bZ,a7,bL⟩=>?_;exact hf v u s2 x y aQ bZ ao a7 bL
theorem Mz{op:Operator}{r:dr}(ho:cX X (binaryOp op) r)(ha:aP X a bS)(hb:aP X b tb):aP X (.BinOp a op b pos) (q6 r bS tb):=by intro pins s σ H Q I h;exact wpAny_BinOp (u4 ha hb I h fun v u s2 x y aQ bZ bb bG q=>ho pins s2 σ aQ x y v u Q bZ bb bG q)
theorem MC{op:UnaryOp}{r:V→J→bT→Prop}(ho:rH X (unaryOp op) r)(ha:aP X a bS):aP X (.UnaryOp op a pos) (Dy r bS):=by intro pins s σ H Q I h;exact UnaryOp_ (bp (ha pins s σ H _ I h) fun v s1⟨x,H1,aT,ao,a5⟩=>ho pins s1 σ H1 x v Q aT ao a5)
theorem tm{f:Value→Value→Sem Value}{C:Int→Int→Prop}{g:Int→Int→Int}(rule:∀(i j:Int)(t u:Tok)(s:Shared)(Q:Value→Shared→Prop)(E:Value→Shared→Prop),C i j→Q (.int (g i j) s.toks) { s with toks:=s.toks+1 }→wpAny (model X.prog X.w) X.A (f (.int i t) (.int j u)) Q E s) :
  cX X f (oL C fun i j=>.int (g i j)):=by
 intro pins s σ H x y v u Q I bb bG h;obtain⟨i,j,rfl,rfl,hc,q⟩:=h;obtain⟨t,rfl⟩:=bb;obtain⟨t',rfl⟩:=bG;exact rule i j t t' s _ _ hc ⟨.int (g i j),H,I.tok _,⟨_,rfl⟩,q⟩
theorem B3{f:Value→Value→Sem Value}{g:Int→Int→Int}(rule:∀(i j:Int)(t u:Tok)(s:Shared)(Q:Value→Shared→Prop)(E:Value→Shared→Prop),Q (.int (g i j) s.toks) { s with toks:=s.toks+1 }→wpAny (model X.prog X.w) X.A (f (.int i t) (.int j u)) Q E s) :
  cX X f (jC fun i j=>.int (g i j)):=by
 intro pins s σ H x y v u Q I bb bG h;obtain⟨i,j,rfl,rfl,q⟩:=h;obtain⟨t,rfl⟩:=bb;obtain⟨t',rfl⟩:=bG;exact rule i j t t' s _ _ ⟨.int (g i j),H,I.tok _,⟨_,rfl⟩,q⟩
theorem wM{f:Value→Value→Sem Value}{g:Int→Int→Bool}(rule:∀(i j:Int)(t u:Tok)(s:Shared)(Q:Value→Shared→Prop)(E:Value→Shared→Prop),Q (.bool (g i j)) s→wpAny (model X.prog X.w) X.A (f (.int i t) (.int j u)) Q E s) :
  cX X f (jC fun i j=>.aq (g i j)):=by
 intro pins s σ H x y v u Q I bb bG h;obtain⟨i,j,rfl,rfl,q⟩:=h;obtain⟨t,rfl⟩:=bb;obtain⟨t',rfl⟩:=bG;exact rule i j t t' s _ _ ⟨.aq (g i j),H,I,rfl,q⟩
def rv(i j:Int):Prop:=0<j∧j<1073741824
def o3(i j:Int):Prop:=0≤j∧j≤1000000∧i.natAbs<2^64
def nC(i j:Int):Prop:=(-(2^64)<i∧i<2^64)∨(-(2^64)<j∧j<2^64)
theorem nC.ok{i j:Int}(h:nC i j):IntMulOk i j:=by
 rcases h with⟨h1,h2⟩|⟨h1,h2⟩
 ·exact .of_left (intBits_le_64 h1 h2)
 ·exact .of_right (intBits_le_64 h1 h2)
theorem LV:cX X (binaryOp .Add) (jC fun i j=>.int (i+j)):=B3 fun _ _ _ _ _ _ _ q=>add_int q
theorem L6:cX X (binaryOp .Sub) (jC fun i j=>.int (i-j)):=B3 fun _ _ _ _ _ _ _ q=>sub_int q
theorem L2:cX X (binaryOp .Mult) (oL nC fun i j=>.int (i*j)):=tm fun _ _ _ _ _ _ _ hc q=>mul_int q hc.ok
theorem LY:cX X (binaryOp .FloorDiv) (oL rv fun i j=>.int (i/j)):=tm fun i j _ _ _ _ _ hc q=>by have h1:(0:Int)<j:=hc.1;have h2:j<1073741824:=hc.2;exact floordiv_int (by omega) (by rw[Int.fdiv_eq_ediv_of_nonneg i (by omega)];exact q) (.inl (PyProof.noPylong_small (by omega)))
theorem L1:cX X (binaryOp .Mod) (oL (fun _ j=>0<j) fun i j=>.int (i%j)):=tm fun i j _ _ _ _ _ hc q=>by have h1:(0:Int)<j:=hc;exact mod_int' (by omega) (by rw[Int.fmod_eq_emod_of_nonneg i (by omega)];exact q)
theorem L4:cX X (binaryOp .Pow) (oL o3 fun i j=>.int (i^j.toNat)):=tm fun _ _ _ _ _ _ _ hc q=>pow_int_small hc.1 hc.2.1 hc.2.2 q
theorem Pw{f:Value→Sem Value}{g:Int→Int}(rule:∀(i:Int)(t:Tok)(s:Shared)(Q:Value→Shared→Prop)(E:Value→Shared→Prop),Q (.int (g i) s.toks) { s with toks:=s.toks+1 }→wpAny (model X.prog X.w) X.A (f (.int i t)) Q E s) :
  rH X f (CK fun i=>.int (g i)):=by
 intro pins s σ H x v Q I bb h;obtain⟨i,rfl,q⟩:=h;obtain⟨t,rfl⟩:=bb;exact rule i t s _ _ ⟨.int (g i),H,I.tok _,⟨_,rfl⟩,q⟩
theorem Px:rH X (unaryOp .USub) (CK fun i=>.int (-i)):=Pw fun _ _ _ _ _ q=>neg_int q
end
section
variable{X:aC}{a b c:Expr}{bS tb fZ:TE}{pos:Pos}
theorem Hs{pins:List (Addr×Obj)}{σ :St}{H:J}{s:Shared}{Q:bT}{k k':Bool}(I:Inv X pins σ H s)(q:Q (.aq k) H)(e:k=k'):eG X pins σ Q (.bool k') s:=by subst e;exact⟨.aq k,H,I,rfl,q⟩
theorem B5:cX X (compareOp .Lt) (jC fun i j=>.aq (decide (i<j))):=wM fun _ _ _ _ _ _ _ q=>lt_int q
theorem qF:cX X (compareOp .LtE) (jC fun i j=>.aq (decide (i≤j))):=wM fun _ _ _ _ _ _ _ q=>le_int q
theorem LZ:cX X (compareOp .Gt) (jC fun i j=>.aq (decide (j<i))):=wM fun _ _ _ _ _ _ _ q=>gt_int q
theorem L3:cX X (compareOp .IsNot) (fun x y H Q=>y=.non∧Q (.aq (!decide (x=.non))) H):=by
 intro pins s σ H x y v u Q I bb bG h;obtain⟨rfl,q⟩:=h;cases bG;refine isnot_none_gen (Hs I q ?_)
 cases x<;>first
  |(cases bb;rfl)
  |(obtain⟨t,rfl⟩:=bb;rfl)
theorem cX.or{f:Value→Value→Sem Value}{r aZ:dr}(h:cX X f r)(h':cX X f aZ):cX X f (fun x y H Q=>r x y H Q∨aZ x y H Q):=by
 intro pins s σ H x y v u Q I bb bG q;rcases q with q|q
 ·exact h pins s σ H x y v u Q I bb bG q
 ·exact h' pins s σ H x y v u Q I bb bG q
theorem m8(b:Expr){op:CmpOp}(h:op≠.In:=by decide)(h2:op≠.NotIn:=by decide):behindInMarks op b=false:=by
 have ai:(op==CmpOp.In)=false:=by cases op<;>first|rfl|exact absurd rfl h
 have au:(op==CmpOp.NotIn)=false:=by cases op<;>first|rfl|exact absurd rfl h2
 cases b<;>simp[behindInMarks,ai,au]
theorem Mm{op:CmpOp}{r:dr}(ho:cX X (compareOp op) r)(ha:aP X a bS)(hb:aP X b tb)(hm:behindInMarks op b=false):aP X (.Compare a [op] [b] pos) (q6 r bS tb):=by intro pins s σ H Q I h;exact wpAny_Compare1 (u4 ha hb I h fun v u s2 x y aQ bZ bb bG q=>ho pins s2 σ aQ x y v u Q bZ bb bG q) hm
def xV(t:TE):TT:=fun σ H Q=>t σ H fun x H'=>∃k,x=.aq k∧Q k H'
theorem MX{op:CmpOp}{r:dr}(ho:cX X (compareOp op) r)(ha:aP X a bS)(hb:aP X b tb)(hm:behindInMarks op b=false):dQ X (.Compare a [op] [b] pos) (xV (q6 r bS tb)):=by
 intro pins s σ H Q I h;refine wpAny_isTrue_Compare1 (bp (ha pins s σ H _ I h) fun v s1⟨x,H1,aT,ao,a5⟩=>bp (hb pins s1 σ H1 _ aT a5) fun u s2⟨y,aQ,bZ,a7,bL⟩=>
  bp (ho pins s2 σ aQ x y v u _ bZ ao a7 bL) fun c s3⟨z,cN,da,dN,k,e,eP⟩=>?_) hm
 subst e;cases dN;exact wpAny_truthy_bool ⟨cN,da,eP⟩
noncomputable def xQ(r aZ:dr)(bS tb fZ:TE):TE:=fun σ H Q=>bS σ H fun x H1=>tb σ H1 fun y aQ=>r x y aQ fun z cN=>∃k,z=.aq k∧
 (if k=true then fZ σ cN fun eF f7=>aZ y eF f7 Q else Q (.aq false) cN)
theorem Ml{op eO:CmpOp}{r aZ:dr}(ho:cX X (compareOp op) r)(ho':cX X (compareOp eO) aZ)(ha:aP X a bS)(hb:aP X b tb)(hc:aP X c fZ)(hm:lastMarks [op,eO] [b,c]=false:=by with_unfolding_all rfl):aP X (.Compare a [op,eO] [b,c] pos) (xQ r aZ bS tb fZ):=by
 intro pins s σ H Q I h;refine Compare_chain (bp (ha pins s σ H _ I h) fun v s1⟨x,H1,aT,ao,a5⟩=>chain_link (bp (hb pins s1 σ H1 _ aT a5) fun u s2⟨y,aQ,bZ,a7,bL⟩=>
  bp (ho pins s2 σ aQ x y v u _ bZ ao a7 bL) fun d s3⟨z,cN,da,dN,k,e,eP⟩=>?_)) hm
 subst e;cases dN;refine wpAny_truthy_bool ?_;cases k with
 |false=>exact ite_ff ⟨.aq false,cN,da,rfl,eP⟩
 |true=>exact ite_tt (chain_last (bp (hc pins s3 σ cN _ da eP) fun eF s4⟨f6,f7,iI,eh,wZ⟩=>ho' pins s4 σ f7 y f6 u eF Q iI a7 eh wZ))
theorem MW{op eO:CmpOp}{r aZ:dr}(ho:cX X (compareOp op) r)(ho':cX X (compareOp eO) aZ)(ha:aP X a bS)(hb:aP X b tb)(hc:aP X c fZ)(hm:lastMarks [op,eO] [b,c]=false:=by with_unfolding_all rfl):dQ X (.Compare a [op,eO] [b,c] pos) (xV (xQ r aZ bS tb fZ)):=by
 intro pins s σ H Q I h;refine isTrue_chain (bp (ha pins s σ H _ I h) fun v s1⟨x,H1,aT,ao,a5⟩=>test_link (bp (hb pins s1 σ H1 _ aT a5) fun u s2⟨y,aQ,bZ,a7,bL⟩=>
  bp (ho pins s2 σ aQ x y v u _ bZ ao a7 bL) fun d s3⟨z,cN,da,dN,k,e,eP⟩=>?_)) hm
 subst e;cases dN;refine wpAny_truthy_bool ?_;cases k with
 |false=>obtain⟨k',bR,cH⟩:=eP;cases bR;exact ite_ff ⟨cN,da,cH⟩
 |true=>refine ite_tt (test_last (bp (hc pins s3 σ cN _ da eP) fun eF s4⟨f6,f7,iI,eh,wZ⟩=>bp (ho' pins s4 σ f7 y f6 u eF _ iI a7 eh wZ) fun d' s5⟨aX,gV,kl,jB,k2,au,Cx⟩=>?_));subst au;cases jB;exact wpAny_truthy_bool ⟨gV,kl,Cx⟩
noncomputable def EV(K:PySem.W.Frag)(x:V)(H:J)(k:Bool):Prop:=
 match x with
 |.non=>k=false
 |.aq b=>k=b
 |.int i=>k=(i !=0)
 |.str y=>y.length≤sizeLine∧k=((y.length:Int) !=0)
 |.lA y=>y.size≤sizeLine∧k=((y.size:Int) !=0)
 |.ref p=>(∃xs,bx K H p xs∧k=!xs.isEmpty)∨(∃xs,cB K H p xs∧k=!xs.isEmpty)∨∃aS,H p=some (.cj aS)∧k=!aS.isEmpty
 |_=>False
theorem JI{κ:Type}{aS:List (κ×V)}{vs:List (κ×Value)}(r:e3 aS vs):(!vs.isEmpty)=!aS.isEmpty:=by cases r<;>rfl
theorem A3{xs:List V}{its:List Value}(r:Vals xs its):(!its.toArray.isEmpty)=!xs.isEmpty:=by cases r<;>simp
theorem oc:(sizeLine:Nat)<2^63:=by rw[sizeLine_eq];decide
theorem Sv:EU X (fun x H Q=>∃k,EV X.K x H k∧Q k H):=by
 intro pins s σ H x v Q I bb h;obtain⟨k,e,q⟩:=h;have hl:=oc;have hs:sizeLine=16777216:=sizeLine_eq;cases x with
 |non=>cases bb;have bR:k=false:=e;subst bR;exact truthy_none ⟨H,I,q⟩
 |aq b=>cases bb;have bR:k=b:=e;subst bR;exact wpAny_truthy_bool ⟨H,I,q⟩
 |int i=>obtain⟨t,rfl⟩:=bb;have bR:k=(i !=0):=e;subst bR;exact PySem.P.truthy_int ⟨H,I,q⟩
 |str y=>obtain⟨t,rfl⟩:=bb;obtain⟨cF,bR⟩:y.length≤sizeLine∧k=((y.length:Int) !=0):=e;subst bR;exact PySem.P.truthy_str (by omega) ⟨H,I.tok _,q⟩
 |lA y=>obtain⟨t,rfl⟩:=bb;obtain⟨cF,bR⟩:y.size≤sizeLine∧k=((y.size:Int) !=0):=e;subst bR;exact PySem.W.truthy_bytes (by omega) ⟨H,I.tok _,q⟩
 |ref p=>
  cases bb;have bR:(∃xs,bx X.K H p xs∧k=!xs.isEmpty)∨(∃xs,cB X.K H p xs∧k=!xs.isEmpty)∨∃aS,H p=some (.cj aS)∧k=!aS.isEmpty:=e;rcases bR with⟨xs,hx,bR⟩|⟨xs,hx,bR⟩|⟨aS,hx,bR⟩
  ·subst bR;obtain⟨its,r,pl,bq⟩:=I.list hx;have hlen:=r.length;exact wpAny_truthy_list pl.isList (by simp only[List.size_toArray];omega) ⟨H,I.tok _,by rw[A3 r];exact q⟩
  ·subst bR;obtain⟨its,r,pl,bq⟩:=I.tuple hx;have hlen:=r.length;exact truthy_tuple pl (by simp only[List.size_toArray];omega) ⟨H,I.tok _,by rw[A3 r];exact q⟩
  ·subst bR;obtain⟨bq,jr,vs,r,m⟩:aS.length≤sizeLine∧(p==sysModules)=false∧∃vs,e3 aS vs∧s.heap.DictOf (gK X.prog X.w) p vs:=I.bc p _ hx;have hlen:aS.length=vs.length:=Paired.length r;exact wpAny_truthy_dict jr m (by omega) ⟨H,I.tok _,by rw[JI r];exact q⟩
 |_=>exact(show False from e).elim
theorem LW:cX X (binaryOp .Add) (fun x y H Q=>∃i j,x=.str i∧y=.str j∧i.length+j.length≤sizeLine∧Q (.str (i++j)) H):=by intro pins s σ H x y v u Q I bb bG h;obtain⟨i,j,rfl,rfl,bq,q⟩:=h;obtain⟨t,rfl⟩:=bb;obtain⟨t',rfl⟩:=bG;exact add_str (fun t' d4=>⟨.str (i++j),H,I.tok _,⟨_,rfl⟩,q⟩) bq
theorem vals1{x:V}{us:List Value}(r:Vals [x] us):∃u,us=[u]∧RelV x u:=by
 cases r with
 |cons ao a7=>cases a7;exact⟨_,rfl,ao⟩
theorem vals2{x y:V}{us:List Value}(r:Vals [x,y] us):∃u eF,us=[u,eF]∧RelV x u∧RelV y eF:=by
 cases r with
 |cons ao a7=>
  cases a7 with
  |cons dN eh=>cases eh;exact⟨_,_,rfl,ao,dN⟩
noncomputable def yo(K:PySem.W.Frag)(x:V)(H:J)(n:Nat):Prop:=
 match x with
 |.str y=>y.length≤sizeLine∧n=y.length
 |.lA y=>y.size≤sizeLine∧n=y.size
 |.ref p=>(∃xs,bx K H p xs∧n=xs.length)∨∃xs,cB K H p xs∧n=xs.length
 |_=>False
theorem Fs:jg X (.builtin "len") (fun xs H Q=>∃x n,xs=[x]∧yo X.K x H n∧Q (.int n) H):=by
 intro pins s σ H xs us Q I r h;obtain⟨x,n,rfl,e,q⟩:=h;obtain⟨u,rfl,bb⟩:=vals1 r;have hl:=oc;have hs:sizeLine=16777216:=sizeLine_eq;cases x with
 |str y=>obtain⟨t,rfl⟩:=bb;obtain⟨cF,bR⟩:y.length≤sizeLine∧n=y.length:=e;subst bR;exact len_str (by omega) ⟨.int _,H,I.tok _,⟨_,rfl⟩,q⟩
 |lA y=>obtain⟨t,rfl⟩:=bb;obtain⟨cF,bR⟩:y.size≤sizeLine∧n=y.size:=e;subst bR;exact PySem.W.len_bytes (by omega) ⟨.int _,H,I.tok _,⟨_,rfl⟩,q⟩
 |ref p=>
  cases bb;have bR:(∃xs,bx X.K H p xs∧n=xs.length)∨∃xs,cB X.K H p xs∧n=xs.length:=e;rcases bR with⟨xs,hx,bR⟩|⟨xs,hx,bR⟩
  ·subst bR;obtain⟨its,aZ,pl,bq⟩:=I.list hx;have hlen:=aZ.length;exact Calls.call_len_list pl.isList (by simp only[List.size_toArray];omega) ⟨.int xs.length,H,I.tok _,⟨_,by simp only[List.size_toArray];rw[hlen]⟩,q⟩
  ·subst bR;obtain⟨its,aZ,pl,bq⟩:=I.tuple hx;have hlen:=aZ.length;exact len_tuple pl (by simp only[List.size_toArray];omega) ⟨.int xs.length,H,I.tok _,⟨_,by simp only[List.size_toArray];rw[hlen]⟩,q⟩
 |_=>exact(show False from e).elim
end
structure mr(h:Heap)(x aJ C:Addr)(cZ:Str→Option Value):Prop where
 obj:h.get? x=some (PySem.W.instObj C aJ)
 ns:h.Ns1 aJ cZ
 ne:aJ≠x
theorem KR{h:Heap}{aJ:Addr}{cZ:Str→Option Value}(n:h.Ns1 aJ cZ):∃cV,h.get? aJ=some cV∧∀name,PySem.W.lookIn name cV=some (cZ name):=by
 obtain⟨o,af,c6,ho,hd,hk,_,hm⟩:=n;refine⟨o,ho,fun name=>?_⟩;have e:=hm name;unfold nsFind findBy at e;rw[←Array.find?_toList]at e;unfold PySem.W.lookIn;rw[hd];dsimp only
 split
 ·rename_i y q;rw[q]at e;exact congrArg some e
 ·rename_i q;rw[q]at e;have a:af.toList.any (·.refKey)=false:=by
   rw[List.any_eq_false];intro y cF;obtain⟨z,t,H5⟩:=hk y (Array.mem_toList_iff.mp cF);simp[DictEntry.refKey,H5]
  have kr:¬af.toList.any (·.refKey)=true:=by rw[a];exact Bool.false_ne_true
  rw[if_neg kr];exact congrArg some e
theorem mr.look{h:Heap}{x aJ C:Addr}{cZ:Str→Option Value}(I:mr h x aJ C cZ):∃cV,PySem.W.InstAt h x (PySem.W.instObj C aJ) C (some cV)∧∀name,PySem.W.lookIn name cV=some (cZ name):=
 let⟨cV,ho,hl⟩:=KR I.ns
 ⟨cV,⟨I.obj,rfl,rfl,ho⟩,hl⟩
section
variable{prog:Program}{w:World}{A:Around}{E:Value→Shared→Prop}{s:Shared}{K:PySem.W.Frag}{x aJ C f:Addr}{cZ:Str→Option Value}{name:Str}{v:Value}
theorem get_map{expr:Bool}{Q:Value→Shared→Prop}(X:K.In s.heap)(I:mr s.heap x aJ C cZ)(hg:PySem.W.plainGet K C name=true)(hh:PySem.W.hasDictIn K C=true)(ha:PySem.W.findIn K (.ref C) name=some none)(hv:cZ name=some v)(Iw:PySem.W.handedIn v=true)(h:Q v { s with toks:=s.toks+1 }) :
  wpAny (model prog w) A (getAttr (.ref x) name expr) Q E s:=by
 obtain⟨cV,bk,hl⟩:=I.look;exact PySem.W.get_value X bk (PySem.W.plainGet_of hg).1 (PySem.W.findObj_own hh ha rfl (by rw[hl,hv])) Iw h
theorem HD{pl:Sem Bool}{Q:Value×List Value→Shared→Prop}(X:K.In s.heap)(I:mr s.heap x aJ C cZ)(hg:PySem.W.plainGet K C name=true)(hf:PySem.W.findIn K (.ref C) name=some (some (.ref f)))(ht:PySem.W.isFn K (.ref f)=true)(hv:cZ name=none)(h:Q (.ref f,[.ref x]) s) :
  wpAny (model prog w) A (getMethod (.ref x) name pl) Q E s:=by
 obtain⟨cV,bk,hl⟩:=I.look;exact PySem.W.method_fn X bk (PySem.W.plainGet_of hg).1 (PySem.W.plainGet_of hg).2 hf (beq_iff_eq.mp ht) (by show(PySem.W.lookIn name cV).map (·.isSome)=some false;rw[hl,hv];rfl) h
theorem Ow{ns:List Str}{Q:Unit→Shared→Prop}(X:K.In s.heap)(I:mr s.heap x aJ C cZ)(hs:PySem.W.findIn K (.ref C) "__setattr__"=some (some (.builtin "object.__setattr__")))(hp:PySem.W.plainOver K C=true)(ht:PySem.W.takerIn K C name=some none)(hh:PySem.W.hasDictIn K C=true)(hw:PySem.Within cZ ns)(hsz:ns.length≤sizeLine)(h:∀h',mr h' x aJ C (fun y=>if y=name then some v else cZ y)→Heap.SameBut aJ s.heap h'→Q () { s with heap:=h',toks:=s.toks+2 }) :
  wpAny (model prog w) A (setAttr (.ref x) name v) Q E s:=by
 obtain⟨cV,bk,hl⟩:=I.look;refine PySem.W.set_plain X bk hs (PySem.W.osa_open (s:={ s with toks:=s.toks+1 }) (r:=none) X bk hp ht fun b=>?_);obtain⟨cd,hc,iZ⟩:=PySem.W.any_some hh;have hx:s.heap.get? x=some ⟨.ref C,some aJ,.plain,#[]⟩:=I.obj;refine wpAny_bind (wpAny_pure (wpAny_bind (wpAny_bind (wpAny_loadPart hx (wpAny_bind (PySem.W.Looks.here (s:={ s with toks:=s.toks+1 }) (PySem.W.looks_clsIn X hc) ?_))))));rw[iZ];refine wpAny_pure (a:=some aJ) (wpAny_bind (wpAny_pure (wpAny_bind ?_)));refine wpAny_nsSet1 (s:={ s with toks:=s.toks+1 }) I.ns fun h' sy hs2=>?_;obtain⟨RX,Q5,Q3,Ib,HQ,HN⟩:=sy.count (PySem.Within.cons name v hw);refine wpAny_bind (wpAny_lookBehind Ib (by rw[HQ];exact pastItsLine_dict (Nat.le_trans HN (by rw[List.length_cons];omega))) ?_);exact wpAny_pure (h _ ⟨(hs2.2 _ (Ne.symm I.ne)).trans I.obj,sy,I.ne⟩ hs2)
theorem BG {R:Result→Shared→Prop} {vs:List Value} {kw:List (Str×Value)} (X:K.In s.heap) (hm:PySem.W.makesIn K C=true)(hi:PySem.W.findIn K (.ref C) "__init__"=some (some (.ref f))) (hf:PySem.W.typeIn K (.ref f)=some (.type "function"))(h:codeAny (model prog w) (A.under (.builtin "type.__call__" ⟨.ref C::vs,kw⟩)) (.call (.ref f) ⟨.ref (s.heap.objs.size+1)::vs,kw⟩) (PySem.W.InitBack (s.heap.objs.size+1) R)
    { s with heap:=(s.heap.push PySem.W.emptyDict).push (PySem.W.instObj C s.heap.objs.size) }) :
  codeAny (model prog w) A (.call (.ref C) ⟨vs,kw⟩) R s:=by
 obtain⟨hh,g,d,t,os⟩:=s;exact PySem.W.make_core (PySem.W.makes_of X hm) (PySem.W.looks_findIn X hi) (fun self=>PySem.W.bind_fn X self hf) (.inl rfl) h
end
noncomputable def fK(f:Str)(v:V):List (Str×V)→List (Str×V)
 |[]=>[(f,v)]
 |(g,x)::r=>if g=f then(g,v)::r else(g,x)::fK f v r
theorem Bu(f g:Str)(v:V):∀aK:List (Str×V),(fK f v aK).lookup g=if g=f then some v else aK.lookup g
 |[]=>by
  show List.lookup g [(f,v)]=_;by_cases h:g=f
  ·have hb:(g==f)=true:=beq_iff_eq.mpr h;simp only[List.lookup,hb,if_pos h]
  ·have hb:(g==f)=false:=beq_eq_false_iff_ne.mpr h;simp only[List.lookup,hb,if_neg h]
 |(k,x)::r=>by
  have ck:=Bu f g v r;rw[show fK f v ((k,x)::r)=(if k=f then(k,v)::r else(k,x)::fK f v r)from rfl];by_cases hk:k=f
  ·rw[if_pos hk];by_cases h:g=k
   ·have hb:(g==k)=true:=beq_iff_eq.mpr h;simp only[List.lookup,hb,if_pos (h.trans hk)]
   ·have hb:(g==k)=false:=beq_eq_false_iff_ne.mpr h;simp only[List.lookup,hb,if_neg (fun e:g=f=>h (e.trans hk.symm))]
  ·rw[if_neg hk];by_cases h:g=k
   ·have hb:(g==k)=true:=beq_iff_eq.mpr h;simp only[List.lookup,hb,if_neg (fun e:g=f=>hk (h.symm.trans e))]
   ·have hb:(g==k)=false:=beq_eq_false_iff_ne.mpr h;simp only[List.lookup,hb];exact ck
theorem wk(f:Str)(v:V):∀aK:List (Str×V),f∈(fK f v aK).map (·.1)∧∀g,g∈aK.map (·.1)→g∈(fK f v aK).map (·.1)
 |[]=>⟨by simp[fK],fun g h=>by simp at h⟩
 |(k,x)::r=>by
  obtain⟨fS,gg⟩:=wk f v r;rw[show fK f v ((k,x)::r)=(if k=f then(k,v)::r else(k,x)::fK f v r)from rfl];by_cases hk:k=f
  ·rw[if_pos hk];subst hk;exact⟨by simp,fun g h=>by simpa using h⟩
  ·rw[if_neg hk];refine⟨?_,fun g h=>?_⟩
   ·rw[List.map_cons];exact List.mem_cons_of_mem _ fS
   ·rw[List.map_cons]at h ⊢;rcases List.mem_cons.mp h with e|e
    ·exact List.mem_cons.mpr (.inl e)
    ·exact List.mem_cons_of_mem _ (gg g e)
theorem Br(f:Str)(v:V):∀aK:List (Str×V),(fK f v aK).length≤aK.length+1
 |[]=>by simp[fK]
 |(k,x)::r=>by
  have ck:=Br f v r;rw[show fK f v ((k,x)::r)=(if k=f then(k,v)::r else(k,x)::fK f v r)from rfl];by_cases hk:k=f
  ·rw[if_pos hk,List.length_cons,List.length_cons];omega
  ·rw[if_neg hk,List.length_cons,List.length_cons];omega
theorem gz.some_of{v:V}{o:Option Value}(r:gz (some v) o):∃u,o=some u∧RelV v u:=by
 cases o with
 |none=>exact(show False from r).elim
 |some u=>exact⟨u,rfl,r⟩
theorem gz.none_of{o:Option Value}(r:gz none o):o=none:=by
 cases o with
 |none=>rfl
 |some u=>exact(show False from r).elim
theorem HK{v:V}{u:Value}(r:RelV v u):PySem.W.handedIn u=true:=by
 cases v with
 |non=>cases(show u=Value.none from r);rfl
 |aq b=>cases(show u=Value.bool b from r);rfl
 |int i=>obtain⟨t,e⟩:=(show ∃t,u=Value.int i t from r);cases e;rfl
 |str x=>obtain⟨t,e⟩:=(show ∃t,u=Value.str x t from r);cases e;rfl
 |lA b=>obtain⟨t,e⟩:=(show ∃t,u=Value.bytes b t from r);cases e;rfl
 |sd b=>obtain⟨t,e⟩:=(show ∃t,u=Value.float b t from r);cases e;rfl
 |ref a=>cases(show u=Value.ref a from r);rfl
 |ty n=>cases(show u=Value.type n from r);rfl
section
variable{P:Program}{w:World}{H H':J}{h h':Heap}{a C aJ:Addr}{aK Ad:List (Str×V)}
theorem v7(bc:c5 P w H h)(e:H a=some (.ins C aJ aK)):∃cZ,mr h a aJ C cZ∧(∀f,gz (aK.lookup f) (cZ f))∧PySem.Within cZ (aK.map (·.1))∧aK.length≤1000∧H aJ=some (.own a):=by obtain⟨d,z,ne,aR,cZ,n,r,q⟩:=(show dG P w H h a (.ins C aJ aK)from bc a _ e);exact⟨cZ,⟨aR,n,ne⟩,r,q,z,d⟩
end
structure hI(K:PySem.W.Frag)(C:Addr):Prop where
 ME:PySem.W.plainGet K C Str.empty=true
 hd:PySem.W.hasDictIn K C=true
 po:PySem.W.plainOver K C=true
 kX:PySem.W.findIn K (.ref C) "__setattr__"=some (some (.builtin "object.__setattr__"))
theorem hI.get{K:PySem.W.Frag}{C:Addr}(c:hI K C)(f:Str):PySem.W.plainGet K C f=true:=c.ME
def mn(K:PySem.W.Frag)(C:Addr)(f:Str):Prop:=PySem.W.findIn K (.ref C) f=some none
theorem mn.Pd{K:PySem.W.Frag}{C:Addr}{f:Str}(n:mn K C f):PySem.W.takerIn K C f=some none:=by unfold PySem.W.takerIn;rw[show PySem.W.findIn K (.ref C) f=some none from n];rfl
structure Meth(K:PySem.W.Frag)(C:Addr)(m:Str)(f:Addr):Prop where
 at_:PySem.W.findIn K (.ref C) m=some (some (.ref f))
 fn:PySem.W.isFn K (.ref f)=true
 aA:PySem.W.keepIn K (.ref f)=true
section
variable{X:aC}{pins:List (Addr×Obj)}{σ :St}{H:J}{s:Shared}{a C aJ:Addr}{aK:List (Str×V)}{f:Str}{v:V}{A:Around}{E:Value→Shared→Prop}
theorem HE{b:Bool}{Q:Value→Shared→Prop}(I:Inv X pins σ H s)(e:H a=some (.ins C aJ aK))(c:hI X.K C)(n:mn X.K C f)(l:aK.lookup f=some v)(h:∀u s',Inv X pins σ H s'→RelV v u→Q u s'):wpAny (model X.prog X.w) A (getAttr (.ref a) f b) Q E s:=by obtain⟨cZ,O,r,_,_,_⟩:=v7 I.bc e;obtain⟨u,hu,ei⟩:=gz.some_of (v:=v) (o:=cZ f) (by rw[←l];exact r f);exact get_map I.dJ O (c.get f) c.hd n hu (HK ei) (h u _ (I.tok _) ei)
theorem vB{m:Str}{g:Addr}{pl:Sem Bool}{Q:Value×List Value→Shared→Prop}(I:Inv X pins σ H s)(e:H a=some (.ins C aJ aK))(c:hI X.K C)(k:Meth X.K C m g)(l:aK.lookup m=none)(h:Q (.ref g,[.ref a]) s):wpAny (model X.prog X.w) A (getMethod (.ref a) m pl) Q E s:=by obtain⟨cZ,O,r,_,_,_⟩:=v7 I.bc e;have aI:cZ m=none:=gz.none_of (by rw[←l];exact r m);exact HD I.dJ O (c.get m) k.at_ k.fn aI h
theorem Ox{y:V}{u:Value}{Q:Unit→Shared→Prop}(I:Inv X pins σ H s)(e:H a=some (.ins C aJ aK))(c:hI X.K C)(n:mn X.K C f)(hl:aK.length<1000)(bG:RelV y u)(h:∀s',Inv X pins σ (upd H a (.ins C aJ (fK f y aK))) s'→Q () s'):wpAny (model X.prog X.w) A (setAttr (.ref a) f u) Q E s:=by
 obtain⟨cZ,O,r,ig,_,ho⟩:=v7 I.bc e;have bq:(aK.map (·.1)).length≤sizeLine:=by rw[List.length_map,sizeLine_eq];omega
 refine Ow I.dJ O c.kX c.po n.Pd c.hd ig bq fun h' uH m_=>h _ ?_;have hd:∃o,h'.get? aJ=some o:=let⟨o,_,_,bR,_⟩:=uH.ns;⟨o,bR⟩
 refine I.write (x:=a) (e:=aJ) (by rw[e];exact True.intro) (.inr ho) (fun b q hb z=>(m_.2 b hb).trans z) hd ?_;refine⟨by rw[cf O.ne];exact ho,?_,O.ne,uH.obj,_,uH.ns,fun g=>?_,fun g hg=>?_⟩
 ·have:=Br f y aK;omega
 ·show gz ((fK f y aK).lookup g) (if g=f then some u else cZ g);rw[Bu];by_cases q:g=f
  ·rw[if_pos q,if_pos q];exact bG
  ·rw[if_neg q,if_neg q];exact r g
 ·by_cases q:g=f
  ·rw[q];exact(wk f y aK).1
  ·refine(wk f y aK).2 g (ig g fun z=>hg ?_);show(if g=f then some u else cZ g)=none;rw[if_neg q];exact z
theorem Inv.made(I:Inv X pins σ H s):Inv X pins σ (upd (upd H s.heap.objs.size (.own (s.heap.objs.size+1))) (s.heap.objs.size+1) (.ins C s.heap.objs.size []))
  { s with heap:=(s.heap.push PySem.W.emptyDict).push (PySem.W.instObj C s.heap.objs.size) }:=by
 have ai:(s.heap.push PySem.W.emptyDict).get? s.heap.objs.size=some PySem.W.emptyDict:=Heap.get?_push_size s.heap rfl;have au:((s.heap.push PySem.W.emptyDict).push (PySem.W.instObj C s.heap.objs.size)).get? (s.heap.objs.size+1)=some (PySem.W.instObj C s.heap.objs.size):=by
  have:=Heap.get?_push_size (s.heap.push PySem.W.emptyDict) (o:=PySem.W.instObj C s.heap.objs.size) rfl
  rwa [Heap.size_push]at this
 have bB:(s.heap.push PySem.W.emptyDict).Ns s.heap.objs.size (fun _=>none):=⟨PySem.W.emptyDict,#[],_,ai,rfl,(fun e he=>absurd he (by simp)),fun _=>rfl⟩;have aT:=I.laid (a:=s.heap.objs.size) (o:=.own (s.heap.objs.size+1)) (h':=s.heap.push PySem.W.emptyDict) (t':=s.toks) (fun b u q=>Heap.get?_push_of_some _ q) (Nat.le_refl _) ⟨_,ai⟩;refine aT.laid (a:=s.heap.objs.size+1) (o:=.ins C s.heap.objs.size []) (t':=s.toks) (fun b u q=>Heap.get?_push_of_some _ q) (Nat.le_of_eq (Heap.size_push _ _)) ?_;have ne:s.heap.objs.size≠s.heap.objs.size+1:=Nat.ne_of_lt (Nat.lt_succ_self _);refine⟨by rw[cf ne,c3],Nat.zero_le _,ne,au,fun _=>none,(Heap.Ns1.of_empty bB).at fun o q=>Heap.get?_push_of_some _ q,fun _=>True.intro,fun y cF=>absurd rfl cF⟩
theorem E_{prog:Program}{w:World}{env:Env}{e:Expr}{f:Str}{pos:Pos}{s:Shared}{Q:Value→Shared→Prop}(hb:attributeBase e f env (eval e env)=eval e env)(h:wpAny (model prog w) A (eval e env) (fun o cz=>wpAny (model prog w) A (getAttr o f true) Q E cz) E s):wpAny (model prog w) A (eval (.Attribute e f pos) env) Q E s:=
 Attribute_any_ h (by rw[arm_eval_Attribute,hb])
end
noncomputable def OW(K:PySem.W.Frag)(bS:TE)(f:Str):TE:=fun σ H Q=>bS σ H fun x H1=>∃a C aJ aK v,x=.ref a∧H1 a=some (.ins C aJ aK)∧hI K C∧mn K C f∧aK.lookup f=some v∧Q v H1
noncomputable def NN(K:PySem.W.Frag)(bS k7:TE)(f:Str):dR:=fun D σ H=>k7 σ H fun y H1=>bS σ H1 fun x aQ=>∃a C aJ aK,x=.ref a∧aQ a=some (.ins C aJ aK)∧hI K C∧mn K C f∧aK.length<1000∧
 D.bj σ (upd aQ a (.ins C aJ (fK f y aK)))
section
variable{X:aC}{o e value:Expr}{f:Str}{pos pos' rd:Pos}{bS k7:TE}
theorem Mr(he:aP X e bS)(hb:attributeBase e f X.env (eval e X.env)=eval e X.env):aP X (.Attribute e f pos) (OW X.K bS f):=by intro pins s σ H Q I h;refine E_ hb (bp (he pins s σ H _ I h) fun u s1⟨x,H1,aT,bb,a,C,aJ,aK,v,ex,ak,c,n,l,q⟩=>?_);subst ex;obtain rfl:u=Value.ref a:=bb;exact HE aT ak c n l fun jc s2 bZ ei=>⟨v,H1,bZ,ei,q⟩
theorem MS(ha:aP X o bS)(hv:aP X value k7)(hs:swapsWith value (some (.Attribute o f pos')) pos.line X.env=pure false):cP X (.Assign [.Attribute o f pos'] value pos) (NN X.K bS k7 f):=by intro pins s σ H D I h;refine plainObj_wpAny_Assign_Attribute (bp (hv pins s σ H _ I h) fun u s1⟨y,H1,aT,bG,q⟩=>bp (ha pins s1 σ H1 _ aT q) fun cR s2⟨x,aQ,bZ,bb,a,C,aJ,aK,ex,ak,c,n,l,bL⟩=>?_) hs;subst ex;obtain rfl:cR=Value.ref a:=bb;exact Ox bZ ak c n l bG fun s3 da=>⟨σ,_,da,bL⟩
theorem RP {pl:Sem Bool} {m:Str} {apos:Pos} {args:List Expr} {pins:List (Addr×Obj)} {s:Shared} {σ :St} {H:J} {Q:Value→Shared→Prop} {te:TE} (he:aP X e te) (I:Inv X pins σ H s)(h:te σ H fun x H1=>∃a C aJ aK g,x=.ref a∧H1 a=some (.ins C aJ aK)∧hI X.K C∧Meth X.K C m g∧aK.lookup m=none∧
    ∀s1,Inv X pins σ H1 s1→wpAny (model X.prog X.w) X.A (callWith pos (.ref g) [.ref a] (backTo pos (starEach args X.env)) (backToKw pos (keywordEach [] X.env))) Q X.xe s1)
  (ht:eval (.Call (.Attribute e m apos) args [] pos) X.env=(do
    let cR ←eval e X.env
    standAt apos.atName
    let(f,first) ←holding [cR] (getMethod cR m pl)
    callWith pos f first (backTo pos (starEach args X.env)) (backToKw pos (keywordEach [] X.env)))) :
  wpAny (model X.prog X.w) X.A (eval (.Call (.Attribute e m apos) args [] pos) X.env) Q X.xe s:=by
 refine PySem.W.methodCall_KW (pl:=pl) (bp (he pins s σ H _ I h) fun u s1⟨x,H1,aT,bb,a,C,aJ,aK,g,ex,ak,c,k,l,q⟩=>?_) ht;subst ex;obtain rfl:u=Value.ref a:=bb;exact vB aT ak c k l (q s1 aT)
end
section
variable{X:aC}{pins:List (Addr×Obj)}{σ :St}{H:J}{s:Shared}{A:Around}{E:Value→Shared→Prop}{Q:Value→Shared→Prop}{c:Value}{b:Bool}
end
structure cK(k:Nat)(A:Around):Prop where
 hd:A.handled=none
 r6:A.depth+3*k+5<recursionLimit
 un:A.units+16*k+200<cLine
theorem cK.mono{j k:Nat}{A:Around}(r:cK k A)(h:j≤k):cK j A:=⟨r.hd,by have:=r.r6;omega,by have:=r.un;omega⟩
theorem cK.deeper{k:Nat}{A:Around}(r:cK (k+1) A)(env:Env):cK k (A.deeper env):=
 ⟨r.hd,by have:=r.r6;show A.depth+1+3*k+5<_;omega,by have:=r.un;show A.units+3+16*k+200<_;omega⟩
theorem K9{A:Around}{C:Addr}{us:List Value}{kw:List (Str×Value)}:(A.under (.builtin "type.__call__" ⟨.ref C::us,kw⟩)).depth=A.depth+1:=by
 first|rfl|simp[Around.under,Code.weight,Code.isCreation,Code.isGuard,Code.isCaller,Code.frames,Code.isFrame,guardIds]
theorem K_{A:Around}{C:Addr}{us:List Value}{kw:List (Str×Value)}:(A.under (.builtin "type.__call__" ⟨.ref C::us,kw⟩)).units=A.units+1:=by
 first|rfl|simp[Around.under,Code.cUnits,Code.frames,Code.isFrame]
theorem cK.make{k:Nat}{A:Around}(r:cK (k+1) A)(C:Addr)(us:List Value)(kw:List (Str×Value)):cK k (A.under (.builtin "type.__call__" ⟨.ref C::us,kw⟩)):=
 ⟨r.hd,by have:=r.r6;rw[K9];omega,by have:=r.un;rw[K_];omega⟩
theorem cK.depth{k:Nat}{A:Around}(r:cK k A):A.depth<recursionLimit:=by have:=r.r6;omega
theorem cK.units{k:Nat}{A:Around}(r:cK k A):A.units+64<cLine:=by have:=r.un;omega
def nk:dX:=fun _ H Q=>Q [] H
def q4(bS:TE)(cW:dX):dX:=fun σ H Q=>bS σ H fun x H1=>cW σ H1 fun xs aQ=>Q (x::xs) aQ
section
variable{X:aC}{e:Expr}{af:List Expr}{te:TE}{t:dX}{pos:Pos}
theorem kb:d8 X [] nk:=fun _ _ _ _ H Q I h=>Calls.spliced_nil ⟨[],H,I,.nil,h⟩
theorem ic(ha:aP X e te)(hr:d8 X af t)(hs:starEach (e::af) X.env=(false,eval e X.env)::starEach af X.env:=by rfl):d8 X (e::af) (q4 te t):=by intro pos pins s σ H Q I h;rw[hs];show wpAny _ _ (spliced ((false,eval e X.env)::backTo pos (starEach af X.env))) _ _ s;refine Calls.spliced_cons (bp (ha pins s σ H _ I h) fun u s1⟨x,H1,aT,ao,a5⟩=>?_);exact bp (hr pos pins s1 σ H1 _ aT a5) fun us s2⟨xs,aQ,bZ,a7,bL⟩=>⟨x::xs,aQ,bZ,.cons ao a7,bL⟩
noncomputable def Dx(t:dX):TE:=fun σ H Q=>t σ H fun xs H1=>xs.length≤sizeLine∧∀p,H1 p=none→Q (.ref p) (upd H1 p (.tup xs))
noncomputable def xT(t:dX):TE:=fun σ H Q=>t σ H fun xs H1=>xs.length≤sizeLine∧∀p,H1 p=none→Q (.ref p) (upd H1 p (.lst xs))
theorem MB{d5}(h:d8 X af t):aP X (.Tuple af d5 pos) (Dx t):=by intro pins s σ H Q I aH;refine wpAny_Tuple_spliced (bp (h pos pins s σ H _ I aH) fun us s1⟨xs,H1,aT,r,z,q⟩=>⟨by rw[←r.length];exact z,?_⟩);have hf:H1 s1.heap.objs.size=none:=aT.bc.fresh (Nat.le_refl _);refine⟨.ref s1.heap.objs.size,upd H1 s1.heap.objs.size (.tup xs),aT.laid (t':=s1.toks) (fun b u e=>Heap.get?_push_of_some _ e) (Nat.le_refl _) ?_,rfl,q _ hf⟩;exact⟨z,us,r,⟨_,Heap.get?_push_size _ rfl,rfl,_,rfl⟩⟩
theorem Ci(h:d8 X af t):aP X (.List af pos) (xT t):=by intro pins s σ H Q I aH;refine wpAny_List_spliced (bp (h pos pins s σ H _ I aH) fun us s1⟨xs,H1,aT,r,z,q⟩=>⟨by rw[←r.length];exact z,?_⟩);have hf:H1 s1.heap.objs.size=none:=aT.bc.fresh (Nat.le_refl _);refine⟨.ref s1.heap.objs.size,upd H1 s1.heap.objs.size (.lst xs),aT.laid (t':=s1.toks) (fun b u e=>Heap.get?_push_of_some _ e) (Nat.le_refl _) ?_,rfl,q _ hf⟩;exact⟨z,us,0,r,Heap.get?_push_size _ rfl⟩
end
abbrev hL:=List V→J→bT→cn→Prop
abbrev iH:=List Env→J→Shared→cn→Value→Shared→Prop
structure mh(P:Program)(w:World)(K:PySem.W.Frag)(mg:Str→Option Value)(base:Heap)(A:Around)(outer:List Env)(s:Shared)(H:J):Prop where
 frames:A.frames=some outer
 mod:Mod K mg base
 bs:∀b o,base.get? b=some o→s.heap.get? b=some o∧H b=none
 kA:base.objs.size≤s.heap.objs.size
 g7:s.heap.FunFrames base outer
 lI:∀b∈c9 outer,H b=none
 bc:c5 P w H s.heap
 bare:AllBare s.gens
noncomputable def ug(outer:List Env)(P:Program)(w:World)(H:J)(s:Shared)(Q:bT)(u:Value)(s':Shared):Prop:=
 ∃v H',s'.os=s.os∧AllBare s'.gens∧ez (c9 outer) [] H H' s.heap s'.heap∧c5 P w H' s'.heap∧RelV v u∧Q v H'
noncomputable def EC(CX:iH)(outer:List Env)(P:Program)(w:World)(H:J)(s:Shared)(Q:bT)(E:cn)(r:Result)(s':Shared):Prop:=
 match r with
 |.ok (.ret u)=>ug outer P w H s Q u s'
 |.ok _=>False
 |.error e=>CX outer H s E e s'
structure fM(P:Program)(w:World)(K:PySem.W.Frag)(mg:Str→Option Value)(base:Heap)(CX:iH)(k:Nat)(f:Addr)(fd:FuncData)(aD:List Str)(sp:hL):Prop where
 len:∀vs H Q E,sp vs H Q E→vs.length=aD.length
 run:∀(A:Around)(outer:List Env)(s:Shared)(H:J)(args:Args)(us:List Value)(vs:List V)(Q:bT)(E:cn),cK k A→mh P w K mg base A outer s H→BindsTo s fd args (aD.zip us)→Vals vs us→sp vs H Q E→
  codeAny (model P w) A (.call (.ref f) args) (EC CX outer P w H s Q E) s
theorem mh.make{P:Program}{w:World}{K:PySem.W.Frag}{mg:Str→Option Value}{base:Heap}{A:Around}{outer:List Env}{s:Shared}{H:J}(e:mh P w K mg base A outer s H)(C:Addr)(us:List Value)(kw:List (Str×Value)) :
  mh P w K mg base (A.under (.builtin "type.__call__" ⟨.ref C::us,kw⟩)) outer s H:=⟨by first|exact e.frames|(simpa[Around.under,Code.envs,Code.isFrame,pushEnvs]using e.frames),e.mod,e.bs,e.kA,e.g7,e.lI,e.bc,e.bare⟩
section
variable{X:aC}{pins:List (Addr×Obj)}{σ :St}{H:J}{s s':Shared}
theorem Inv.vl(I:Inv X pins σ H s):mh X.prog X.w X.K X.mg X.base X.A X.stack s H:=
 ⟨I.ok.frames,I.ok.mod,I.bs,Nat.le_trans I.ok.kA I.ja,I.stack,I.xI,I.bc,I.bare⟩
theorem Inv.after{Q:bT}{u:Value}(I:Inv X pins σ H s)(h:ug X.stack X.prog X.w H s Q u s'):eG X pins σ Q u s':=by obtain⟨v,H',os,bare,un,bc,r,q⟩:=h;obtain⟨hh,g,d,t,L9⟩:=s';obtain rfl:L9=s.os:=os;exact⟨v,H',I.call (h':=hh) (g':=g) (d':=d) (t':=t) (ch:=[]) un bc bare (fun b z=>absurd z (by simp)),r,q⟩
end
def xP(sp:hL)(e6:List V)(E:cn)(t:dX):TE:=fun σ H Q=>t σ H fun vs H1=>sp (vs++e6) H1 Q E
noncomputable def q5(C:Addr)(m:Str)(sp:hL)(e6:List V)(E:cn)(bS:TE)(t:dX):TE:=fun σ H Q=>bS σ H fun x H1=>∃a aJ aK,x=.ref a∧H1 a=some (.ins C aJ aK)∧aK.lookup m=none∧
 t σ H1 fun vs aQ=>sp (x::(vs++e6)) aQ Q E
noncomputable def tL(C:Addr)(sp:hL)(e6:List V)(E:cn)(t:dX):TE:=fun σ H Q=>t σ H fun vs H1=>∀x aJ,H1 x=none→H1 aJ=none→aJ≠x→
 sp (.ref x::(vs++e6)) (upd (upd H1 aJ (.own x)) x (.ins C aJ [])) (fun v aQ=>v=.non∧Q (.ref x) aQ) E
noncomputable def Binds(K:PySem.W.Frag)(fd:FuncData)(aD:List Str)(ds:List Value):Prop:=
 ∀(s:Shared)(us:List Value),K.In s.heap→(us++ds).length=aD.length→BindsTo s fd ⟨us,[]⟩ (aD.zip (us++ds))
theorem Binds.all{K:PySem.W.Frag}{fd:FuncData}{aD:List Str}(h:∀us:List Value,us.length=aD.length→bindArgs fd ⟨us,[]⟩=pure (aD.zip us)):Binds K fd aD []:=fun s us _ hl=>by rw[List.append_nil]at hl ⊢;exact .of_eq (h us hl)
noncomputable def Passes(CX:iH)(X:aC)(E:cn):Prop:=∀(pins:List (Addr×Obj))(σ :St)(H:J)(s:Shared)(e:Value)(s':Shared),Inv X pins σ H s→CX X.stack H s E e s'→X.xe e s'
section
variable{X:aC}{CX:iH}{k:Nat}{f C:Addr}{fd:FuncData}{aD:List Str}{sp:hL}{e6:List V}{ds:List Value}{E:cn}{x m:Str}{p pos apos:Pos}{e o:Expr}{af:List Expr}{bS:TE}{t:dX}
theorem w6{pins:List (Addr×Obj)}{σ :St}{H:J}{s:Shared}{Q:bT}{us:List Value}{vs:List V}(F:fM X.prog X.w X.K X.mg X.base CX k f fd aD sp)(hr:cK k X.A)(hb:Binds X.K fd aD ds)(hd:Vals e6 ds)(hx:Passes CX X E)(I:Inv X pins σ H s)(r:Vals vs us)(h:sp (vs++e6) H Q E):wpAny (model X.prog X.w) X.A (call (.ref f) us) (eG X pins σ Q) X.xe s:=by
 have a7:Vals (vs++e6) (us++ds):=r.append hd;have hl:(us++ds).length=aD.length:=by rw[←a7.length];exact F.len _ _ _ _ h
 refine wpAny_call (codeAny_mono (F.run X.A X.stack s H ⟨us,[]⟩ (us++ds) (vs++e6) Q E hr I.vl (hb s us I.dJ hl) a7 h) fun r s' aH=>?_);cases r with
 |error e=>exact hx pins σ H s e s' I aH
 |ok eu=>
  cases eu with
  |ret u=>exact I.after aH
  |next=>exact False.elim aH
  |brk=>exact False.elim aH
  |cont=>exact False.elim aH
theorem wR(F:fM X.prog X.w X.K X.mg X.base CX k f fd aD sp)(hr:cK k X.A)(hg:cA X x)(hm:X.mg x=some (.ref f))(hk:PySem.W.keepIn X.K (.ref f)=true)(hb:Binds X.K fd aD ds)(hd:Vals e6 ds)(hx:Passes CX X E)(ha:d8 X (e::af) t)(hdb:(x==("__debug__" :Str))=false:=by decide)(he:starEach (e::af) X.env=(false,eval e X.env)::starEach af X.env:=by rfl)(hpl:(backTo pos (starEach af X.env)).any (·.1)=false:=by rfl) :
  aP X (.Call (.Name x p) (e::af) [] pos) (xP sp e6 E t):=by
 intro pins s σ H Q I h;refine wpAny_Call_Name_kw (oa I hg hm ?_ hdb);refine PySem.W.callWith_K (h₀:=X.base) I.ok.mod.mY hk (bp (ha pos pins s σ H _ I h) fun us s1⟨vs,H1,aT,r,q⟩=>⟨aT.dJ,?_⟩) he hpl;exact w6 F hr hb hd hx aT r q
theorem Mv {pl:Sem Bool} (he:aP X o bS) (c:hI X.K C) (hm:Meth X.K C m f) (F:fM X.prog X.w X.K X.mg X.base CX k f fd aD sp) (hr:cK k X.A) (hb:Binds X.K fd aD ds) (hd:Vals e6 ds) (hx:Passes CX X E) (ha:d8 X (e::af) t)(hst:starEach (e::af) X.env=(false,eval e X.env)::starEach af X.env:=by rfl) (hpl:(backTo pos (starEach af X.env)).any (·.1)=false:=by rfl)(ht:eval (.Call (.Attribute o m apos) (e::af) [] pos) X.env=(do
    let cR ←eval o X.env
    standAt apos.atName
    let(f,first) ←holding [cR] (getMethod cR m pl)
    callWith pos f first (backTo pos (starEach (e::af) X.env)) (backToKw pos (keywordEach [] X.env))):=by rfl) :
  aP X (.Call (.Attribute o m apos) (e::af) [] pos) (q5 C m sp e6 E bS t):=by
 intro pins s σ H Q I h;refine PySem.W.methodCall_KW (pl:=pl) (bp (he pins s σ H _ I h) fun u s1⟨x,H1,aT,bb,a,aJ,aK,ex,ak,l,q⟩=>?_) ht;subst ex;obtain rfl:u=Value.ref a:=bb;refine vB aT ak c hm l ?_;refine PySem.W.callWith_K (first:=[.ref a]) (h₀:=X.base) I.ok.mod.mY hm.aA (bp (ha pos pins s1 σ H1 _ aT q) fun us s2⟨vs,aQ,bZ,r,bL⟩=>⟨bZ.dJ,?_⟩) hst hpl;exact w6 (us:=.ref a::us) (vs:=.ref a::vs) F hr hb hd hx bZ (.cons rfl r) bL
theorem Cj {pl:Sem Bool} (he:aP X o bS) (c:hI X.K C) (hm:Meth X.K C m f) (F:fM X.prog X.w X.K X.mg X.base CX k f fd aD sp) (hr:cK k X.A) (hb:Binds X.K fd aD ds) (hd:Vals e6 ds) (hx:Passes CX X E)(ht:eval (.Call (.Attribute o m apos) [] [] pos) X.env=(do
    let cR ←eval o X.env
    standAt apos.atName
    let(f,first) ←holding [cR] (getMethod cR m pl)
    callWith pos f first (backTo pos (starEach [] X.env)) (backToKw pos (keywordEach [] X.env))):=by rfl) :
  aP X (.Call (.Attribute o m apos) [] [] pos) (q5 C m sp e6 E bS nk):=by
 intro pins s σ H Q I h;refine PySem.W.methodCall_KW (pl:=pl) (bp (he pins s σ H _ I h) fun u s1⟨x,H1,aT,bb,a,aJ,aK,ex,ak,l,q⟩=>?_) ht;subst ex;obtain rfl:u=Value.ref a:=bb;refine vB aT ak c hm l ?_;exact PySem.W.callWith_K0 (first:=[.ref a]) aT.dJ hm.aA (w6 (us:=[.ref a]) (vs:=[.ref a]) F hr hb hd hx aT (.cons rfl .nil) q)
structure pa(K:PySem.W.Frag)(C f:Addr):Prop where
 makes:PySem.W.makesIn K C=true
 init:PySem.W.findIn K (.ref C) "__init__"=some (some (.ref f))
 fn:PySem.W.isFn K (.ref f)=true
 aA:PySem.W.keepIn K (.ref C)=true
theorem NF{pins:List (Addr×Obj)}{σ :St}{H:J}{s:Shared}{Q:bT}{us:List Value}{vs:List V}(M:pa X.K C f)(F:fM X.prog X.w X.K X.mg X.base CX k f fd aD sp)(hr:cK (k+1) X.A)(hb:Binds X.K fd aD ds)(hd:Vals e6 ds)(hx:Passes CX X E)(I:Inv X pins σ H s)(r:Vals vs us)(h:∀x aJ,H x=none→H aJ=none→aJ≠x→sp (.ref x::(vs++e6)) (upd (upd H aJ (.own x)) x (.ins C aJ [])) (fun v aQ=>v=.non∧Q (.ref x) aQ) E) :
  wpAny (model X.prog X.w) X.A (call (.ref C) us) (eG X pins σ Q) X.xe s:=by
 have aH:=h (s.heap.objs.size+1) s.heap.objs.size (I.bc.fresh (Nat.le_succ _)) (I.bc.fresh (Nat.le_refl _)) (Nat.ne_of_lt (Nat.lt_succ_self _));have bZ:=Inv.made (C:=C) I;have a7:Vals (V.ref (s.heap.objs.size+1)::(vs++e6)) (Value.ref (s.heap.objs.size+1)::(us++ds)):=.cons rfl (r.append hd);have hl:(Value.ref (s.heap.objs.size+1)::us++ds).length=aD.length:=by have e:=a7.length;rw[F.len _ _ _ _ aH]at e;exact e.symm
 refine wpAny_call (BG (f:=f) I.dJ M.makes M.init (beq_iff_eq.mp M.fn) (codeAny_mono (F.run _ X.stack _ _ ⟨Value.ref (s.heap.objs.size+1)::us,[]⟩ (Value.ref (s.heap.objs.size+1)::(us++ds)) _ _ E (hr.make C us [])
  (bZ.vl.make C us []) (hb _ (Value.ref (s.heap.objs.size+1)::us) bZ.dJ hl) a7 aH) fun r s' hX=>?_))
 cases r with
 |error e=>exact hx pins σ _ _ e s' bZ hX
 |ok eu=>
  cases eu with
  |ret u=>obtain⟨v,H',da,bE,ev,eP⟩:=bZ.after hX;subst ev;exact⟨bE,⟨V.ref (s.heap.objs.size+1),H',da,rfl,eP⟩⟩
  |next=>exact False.elim hX
  |brk=>exact False.elim hX
  |cont=>exact False.elim hX
theorem Mu(M:pa X.K C f)(F:fM X.prog X.w X.K X.mg X.base CX k f fd aD sp)(hr:cK (k+1) X.A)(hg:cA X x)(hm:X.mg x=some (.ref C))(hb:Binds X.K fd aD ds)(hd:Vals e6 ds)(hx:Passes CX X E)(ha:d8 X (e::af) t)(hdb:(x==("__debug__" :Str))=false:=by decide)(he:starEach (e::af) X.env=(false,eval e X.env)::starEach af X.env:=by rfl)(hpl:(backTo pos (starEach af X.env)).any (·.1)=false:=by rfl) :
  aP X (.Call (.Name x p) (e::af) [] pos) (tL C sp e6 E t):=by
 intro pins s σ H Q I h;refine wpAny_Call_Name_kw (oa I hg hm ?_ hdb);refine PySem.W.callWith_K (h₀:=X.base) I.ok.mod.mY M.aA (bp (ha pos pins s σ H _ I h) fun us s1⟨vs,H1,aT,r,q⟩=>⟨aT.dJ,?_⟩) he hpl;exact NF M F hr hb hd hx aT r q
end
section
variable{X:aC}{CX:iH}{k:Nat}{f C:Addr}{fd:FuncData}{aD ks:List Str}{sp:hL}{E:cn}{x m:Str}{p pos apos Ry:Pos}{e o:Expr}{af:List Expr}{RA:List Keyword}{te bS:TE}{t d4:dX}{nm:Option Str}
variable{g:List Value→List Value→List Value}{Rk:List V→List V→List V}
end
structure c0(N P:List Str)(sc:Scope):Prop where
 kind:sc.kind=.function
 co:sc.isCoroutine=false
 gen:sc.isGenerator=false
 br:N.Nodup
 pre:N.take P.length=P
 par:∀x∈P,sc.names.lookup x=some .local∨sc.names.lookup x=some .cell
 Ls:∀y∈sc.names,y.2≠.free
theorem y4{kindOf:Str→Option NameKind}{x:Str}:∀{binds:List (Str×Value)}{m:Str→Option Value},(∀v,(x,v)∉binds)→bindL kindOf binds m x=m x
 |[],_,_=>rfl
 |(n,v)::r,m,h=>by
  unfold bindL;rw[y4 fun w hw=>h w (List.mem_cons_of_mem _ hw)]
  split
  ·have:x≠n:=by rintro rfl;exact h v List.mem_cons_self
   simp[this]
  ·rfl
theorem y2{kindOf:Str→Option NameKind}{x:Str}:∀{binds:List (Str×Value)}{m:Str→Option Value},(∀v,(x,v)∉binds)→bindC kindOf binds m x=m x
 |[],_,_=>rfl
 |(n,v)::r,m,h=>by
  unfold bindC;rw[y2 fun w hw=>h w (List.mem_cons_of_mem _ hw)]
  split
  ·rfl
  ·have:x≠n:=by rintro rfl;exact h v List.mem_cons_self
   simp[this]
theorem y3{kindOf:Str→Option NameKind}{x:Str}{v:Value}:∀{P:List Str}{vs:List Value}{i:Nat}{m:Str→Option Value},P.Nodup→P[i]?=some x→vs[i]?=some v→kindOf x=some .local→
  bindL kindOf (P.zip vs) m x=some v
 |[],_,_,_,_,h,_,_=>by simp at h
 |_::_,[],_,_,_,_,h,_=>by simp at h
 |p::P,w::vs,0,m,br,h1,h2,hk=>by simp at h1 h2;subst h1;subst h2;show bindL kindOf ((p,w)::P.zip vs) m p=_;unfold bindL;rw[y4 fun v hv=>(List.nodup_cons.mp br).1 (List.of_mem_zip hv).1,if_pos hk];simp
 |p::P,w::vs,i+1,m,br,h1,h2,hk=>by show bindL kindOf ((p,w)::P.zip vs) m x=_;unfold bindL;exact y3 (i:=i) (List.nodup_cons.mp br).2 (by simpa using h1) (by simpa using h2) hk
theorem y1{kindOf:Str→Option NameKind}{x:Str}{v:Value}:∀{P:List Str}{vs:List Value}{i:Nat}{m:Str→Option Value},P.Nodup→P[i]?=some x→vs[i]?=some v→kindOf x≠some .local→
  bindC kindOf (P.zip vs) m x=some v
 |[],_,_,_,_,h,_,_=>by simp at h
 |_::_,[],_,_,_,_,h,_=>by simp at h
 |p::P,w::vs,0,m,br,h1,h2,hk=>by simp at h1 h2;subst h1;subst h2;show bindC kindOf ((p,w)::P.zip vs) m p=_;unfold bindC;rw[y2 fun v hv=>(List.nodup_cons.mp br).1 (List.of_mem_zip hv).1,if_neg hk];simp
 |p::P,w::vs,i+1,m,br,h1,h2,hk=>by show bindC kindOf ((p,w)::P.zip vs) m x=_;unfold bindC;exact y1 (i:=i) (List.nodup_cons.mp br).2 (by simpa using h1) (by simpa using h2) hk
def start(N:List Str)(vs:List V):St:=vs.map some++List.replicate (N.length-vs.length) none
noncomputable def dt(CX:iH)(P:Program)(w:World)(K:PySem.W.Frag)(mg:Str→Option Value)(base:Heap)(N:List Str)(qual:Str)(scope:Scope)(f:Addr)(cd:Value)(A:Around)(outer:List Env)(s:Shared)(H:J)(E:cn):aC where
 prog:=P
 w:=w
 K:=K
 mg:=mg
 base:=base
 A:=A.deeper (envOfC qual scope s.heap.objs.size f cd)
 N:=N
 dO:=s
 mj:=H
 env:=envOfC qual scope s.heap.objs.size f cd
 outer:=outer
 stack:=envOfC qual scope s.heap.objs.size f cd::outer
 ex:=[]
 calm:=true
 fn:=fun _=>true
 lW:=[]
 xe:=fun e s'=>wpAny (model P w) (A.deeper (envOfC qual scope s.heap.objs.size f cd)) (leaving (envOfC qual scope s.heap.objs.size f cd) e) (fun _ jD=>CX outer H s E e jD) (fun bR jD=>CX outer H s E bR jD) s'
theorem zb{sc:Scope}{n:Nat}{x:Str}(h:sc.names.lookup x=some .cell):∃c,(cellsFrom n sc.names []).lookup x=some c:=by have q:=PySem.W.cellsFrom_some sc.names n [] (.inl h);exact Option.isSome_iff_exists.mp q
theorem JE{CX:iH}{P:Program}{w:World}{K:PySem.W.Frag}{mg:Str→Option Value}{base:Heap}{N aD:List Str}{qual:Str}{scope:Scope}{f:Addr}{cd:Value}{A:Around}{outer:List Env}{s s1:Shared}{H:J}{E:cn}{us:List Value}{vs:List V}(S:c0 N aD scope)(hd:A.handled=none)(b6:mh P w K mg base A outer s H)(hl:vs.length=aD.length)(r:Vals vs us)(x:InCallC s s.heap.objs.size (bindL (envOfC qual scope s.heap.objs.size f cd).kindOf (aD.zip us) fun _=>none) (cellsFrom (s.heap.objs.size+1) scope.names []) (bindC (envOfC qual scope s.heap.objs.size f cd).kindOf (aD.zip us) fun _=>none) s1) :
  Inv (dt CX P w K mg base N qual scope f cd A outer s H E) [] (start N vs) H s1:=by
 have hpl:aD.length≤N.length:=by have:=congrArg List.length S.pre;rw[List.length_take]at this;omega
 obtain⟨h1,d4,rfl,hk⟩:=x.done;have qB:∀b:Addr,b∉(dt CX P w K mg base N qual scope f cd A outer s H E).ex:=fun b z=>absurd (show b∈([]:List Addr)from z) (by simp)
 refine⟨⟨b6.mod,S.kind,rfl,rfl,Nat.le_refl _,fun y z c h1 h2=>?_,fun y cF=>?_,fun y c _ h=>?_,fun _=>hd,Around.frames_deeper b6.frames,.inr ⟨rfl,rfl⟩,fun b z=>absurd z (qB b),b6.bs,b6.kA,fun b _ _=>qB b,fun b z=>absurd z (qB b),b6.g7,b6.lI⟩,
  rfl,b6.bare,ez.kept hk,⟨_,x.toInCall.ns,fun i y v h1 h2 h3=>?_⟩,fun y c h=>⟨_,x.cell y c h⟩,b6.bc.fresh (Nat.le_refl _),fun y c h=>?_,fun p hp=>absurd (show p∈([]:List (Addr×Obj))from hp) (by simp),b6.bc.kept hk,?_⟩
 ·exact name_of_addr x.apart (PySem.mem_of_lookup h1) (PySem.mem_of_lookup h2)
 ·have cF:scope.names.lookup y=some .cell∨scope.names.lookup y=some .free:=cF;rcases cF with cF|cF
  ·exact zb cF
  ·exact absurd rfl (S.Ls _ (PySem.mem_of_lookup cF))
 ·exact Nat.le_of_lt (x.above y c (PySem.mem_of_lookup h))
 ·have hi:i<vs.length:=by
    unfold start at h2;by_cases hi:i<vs.length
    ·exact hi
    ·rw[List.getElem?_append_right (by simpa using hi)]at h2;rw[List.getElem?_replicate]at h2
     split at h2<;>cases h2
  have ha:vs[i]?=some v:=by
   unfold start at h2;rw[List.getElem?_append_left (by simpa using hi),List.getElem?_map]at h2;cases e:vs[i]? with
   |none=>rw[e]at h2;cases h2
   |some a=>rw[e]at h2;cases h2;rfl
  obtain⟨u,hu,bE⟩:=r.get ha;have hp:aD[i]?=some y:=by rw[←S.pre,List.getElem?_take_of_lt (by omega)];exact h1
  have BP:aD.Nodup:=by rw[←S.pre];exact S.br.sublist (List.take_sublist _ _)
  refine⟨u,bE,?_⟩;rcases S.par y (List.mem_of_getElem? hp)with k|k
  ·exact .inl ⟨k,y3 BP hp hu k⟩
  ·obtain⟨c,e⟩:=zb (n:=s.heap.objs.size+1) k;refine .inr ⟨.inl k,c,e,?_⟩;have q:=x.cell y c e;rw[y1 BP hp hu (by show scope.names.lookup y≠_;rw[k];decide)]at q;exact q
 ·exact b6.bc.fresh (Nat.le_of_lt (x.above y c (PySem.mem_of_lookup h)))
 ·unfold start;show _=N.length;rw[List.length_append,List.length_map,List.length_replicate];omega
theorem vv {CX:iH} {P:Program} {w:World} {K:PySem.W.Frag} {mg:Str→Option Value} {base:Heap} {k:Nat} {f:Addr} {name qual:Str} {params:Arguments} {body:List Stmt} {scope:Scope} {r1 cb doc pm bO b3 dM:Value} {an cV:Option Addr}{i9:Array (Option Value)} {N aD:List Str} {sp:hL} (lk:K.lookup f=some ⟨dM,cV,.func (PySem.W.fnOf name qual params body scope r1 cb doc pm an bO b3),i9⟩) (hcd:PySem.W.codeIn K bO qual=true) (S:c0 N aD scope)(len:∀vs H Q E,sp vs H Q E→vs.length=aD.length)(vJ:∀(A:Around)(outer:List Env)(s:Shared)(H:J)(vs:List V)(Q:bT)(E:cn),cK k (A.deeper (envOfC qual scope s.heap.objs.size f bO))→sp vs H Q E→
    ∃t,eT (dt CX P w K mg base N qual scope f bO A outer s H E) body t∧t { bj:=fun _ H'=>Q .non H',dB:=Q } (start N vs) H) :
  fM P w K mg base CX (k+1) f (PySem.W.fnOf name qual params body scope r1 cb doc pm an bO b3) aD sp:=by
 refine⟨len,fun A outer s H args us vs Q E hr b6 hb r lL=>?_⟩;have hl:=len _ _ _ _ lL;have ji:K.In s.heap:=b6.mod.mY.keeps fun b o e=>(b6.bs b o e).1;have lim:s.heap.NoLimit:=b6.mod.nolimit.keeps fun b o e=>(b6.bs b o e).1;have H6:∀y∈aD.zip us,scope.names.lookup y.1=some .local∨(scope.names.lookup y.1=some .cell∧((cellsFrom (s.heap.objs.size+1) scope.names []).lookup y.1).isSome=true):=fun⟨n,v⟩ cF=>by
  rcases S.par n (List.of_mem_zip cF).1 with q|q
  ·exact .inl q
  ·exact .inr ⟨q,PySem.W.cellsFrom_some _ _ _ (.inl q)⟩
 refine codeAny_call_function hr.depth (ji _ _ lk) rfl S.co S.gen rfl (PySem.W.codeRec_of ji hcd) (hb _ _ _ _ ?_);refine wpAny_newFunctionEnv_cells S.kind H6 fun env he s1 x=>?_;subst he;refine⟨lim.keeps x.toInCall.keep,codeAny_func ?_⟩;obtain⟨t,ht,aH⟩:=vJ A outer s H vs Q E (hr.deeper _) lL;have I:Inv (dt CX P w K mg base N qual scope f bO A outer s H E) [] (start N vs) H s1:=JE S hr.hd b6 hl r x;refine wpAny_mono (ht [] s1 (start N vs) H _ I aH) (fun eu s' hs=>?_) fun e s' hs=>hs;have fin:∀{σ' :St}{H':J}{v:V}{u:Value},Inv (dt CX P w K mg base N qual scope f bO A outer s H E) [] σ' H' s'→RelV v u→Q v H'→ug outer P w H s Q u s':=
  fun{σ' H' v u} bk bE q=>⟨v,H',bk.os,bk.bare,bk.base,bk.bc,bE,q⟩
 cases eu with
 |ret u=>obtain⟨v,σ',H',bk,bE,q⟩:=hs;exact fin bk bE q
 |next=>obtain⟨σ',H',bk,q⟩:=hs;exact fin (v:=V.non) (u:=Value.none) bk rfl q
 |brk=>obtain⟨_,_,_,q⟩:=hs;exact False.elim q
 |cont=>obtain⟨_,_,_,q⟩:=hs;exact False.elim q
section
variable{X:aC}{x:Str}{p pos:Pos}{e:Expr}{af:List Expr}{t:dX}{id T:String}{r:List V→J→bT→Prop}
def q3(r:List V→J→bT→Prop)(t:dX):TE:=fun σ H Q=>t σ H fun vs H1=>r vs H1 Q
theorem qK(hc:jg X (.builtin id) r)(hg:cA X x)(hm:X.mg x=none)(hv:bootBuiltins x=some (.builtin id))(ha:d8 X (e::af) t)(aI:x≠"__name__":=by decide)(hdb:(x==("__debug__" :Str))=false:=by decide)(he:starEach (e::af) X.env=(false,eval e X.env)::starEach af X.env:=by rfl)(hpl:(backTo pos (starEach af X.env)).any (·.1)=false:=by rfl):aP X (.Call (.Name x p) (e::af) [] pos) (q3 r t):=by intro pins s σ H Q I h;refine wpAny_Call_Name_kw (p8 I hg hm hv ?_ aI hdb);exact PyProof.Rows.callWith_builtin1 (bp (ha pos pins s σ H _ I h) fun us s1⟨vs,H1,aT,ao,a5⟩=>hc pins s1 σ H1 vs us Q aT ao a5) he hpl
theorem Ce(hc:jg X (.type T) r)(hg:cA X x)(hm:X.mg x=none)(hv:bootBuiltins x=some (.type T))(ha:d8 X (e::af) t)(aI:x≠"__name__":=by decide)(hdb:(x==("__debug__" :Str))=false:=by decide)(he:starEach (e::af) X.env=(false,eval e X.env)::starEach af X.env:=by rfl)(hpl:(backTo pos (starEach af X.env)).any (·.1)=false:=by rfl):aP X (.Call (.Name x p) (e::af) [] pos) (q3 r t):=by intro pins s σ H Q I h;refine wpAny_Call_Name_kw (p8 I hg hm hv ?_ aI hdb);exact PyProof.Rows.callWith_type1 (bp (ha pos pins s σ H _ I h) fun us s1⟨vs,H1,aT,ao,a5⟩=>hc pins s1 σ H1 vs us Q aT ao a5) he hpl
end
end aV
namespace dm
open PySem PyProof.Rows
section
open PySem.SeqAt
open PySem.AutoSeq1 (wpAny_loadPart')
open PySem.MeetsSeq PySem.MeetsSeq2 PySem.MeetsSeq3
end
section
variable{prog:Program}{w:World}{A:Around}{E:Value→Shared→Prop}{s:Shared}
def dD(n d:Nat):Option Int→Nat
 |none=>d
 |some v=>if v<0 then(v+(n:Int)).toNat else min v.toNat n
theorem NP(n d:Nat):dD n d none=d:=rfl
theorem NO(n d k:Nat):dD n d (some (k:Int))=min k n:=by show(if(k:Int)<0 then((k:Int)+(n:Int)).toNat else min (k:Int).toNat n)=min k n;rw[if_neg (by omega),Int.toNat_natCast]
theorem CP(n d:Nat)(hd:d≤n)(o:Option Int):dD n d o≤n:=by
 cases o with
 |none=>exact hd
 |some v=>
  show(if v<0 then(v+(n:Int)).toNat else min v.toNat n)≤n;by_cases hv:v<0
  ·rw[if_pos hv];omega
  ·rw[if_neg hv];exact Nat.min_le_right _ _
end
end dm
namespace aV
open PySem PySem.Spec PyProof.Rows
abbrev nJ:=St→J→(Option Int→J→Prop)→Prop
noncomputable def nH(X:aC)(e:Option Expr)(t:nJ):Prop:=
 ∀(pins:List (Addr×Obj))(s:Shared)(σ :St)(H:J)(Q:Option Int→J→Prop),Inv X pins σ H s→t σ H Q→
  wpAny (model X.prog X.w) X.A (evalPart e X.env) (fun u s'=>∃o H',Inv X pins σ H' s'∧IsPart u o∧Q o H') X.xe s
def OX:nJ:=fun _ H Q=>Q none H
def OY(t:TE):nJ:=fun σ H Q=>t σ H fun x H1=>∃i,x=.int i∧Q (some i) H1
section
variable{X:aC}{e:Expr}{te:TE}{lo hi:Option Expr}{e_ tQ:nJ}{pos bJ:Pos}
theorem ML:nH X none OX:=by intro pins s σ H Q I h;rw[evalPart_none];exact wpAny_pure ⟨none,H,I,.none,h⟩
theorem MN(h:aP X e te):nH X (some e) (OY te):=by intro pins s σ H Q I hw;rw[evalPart_some];refine bp (h pins s σ H _ I hw) fun u s1⟨x,H1,aT,ao,a5⟩=>?_;obtain⟨i,rfl,q⟩:=a5;obtain⟨t,rfl⟩:=ao;exact⟨some i,H1,aT,.int i t,q⟩
noncomputable def mw(X:aC)(r:V→Option Int→Option Int→J→bT→Prop):Prop:=
 ∀(pins:List (Addr×Obj))(s:Shared)(σ :St)(H:J)(x:V)(v jd je:Value)(lo hi:Option Int)(b1:Addr)(Q:bT),Inv X pins σ H s→RelV x v→s.heap.IsSliceOf b1 jd je .none→IsPart jd lo→IsPart je hi→r x lo hi H Q→
  ∃T id,typeLookup (.type T) "__getitem__"=pure (some (.builtin id))∧s.TypeIs v T∧wpAny (model X.prog X.w) X.A (getItem v (.ref b1)) (eG X pins σ Q) X.xe s
theorem mw.or{r aZ:V→Option Int→Option Int→J→bT→Prop}(h:mw X r)(h':mw X aZ):mw X (fun x lo hi H Q=>r x lo hi H Q∨aZ x lo hi H Q):=by
 intro pins s σ H x v jd je lo hi b1 Q I bb hs pl pu q;rcases q with q|q
 ·exact h pins s σ H x v jd je lo hi b1 Q I bb hs pl pu q
 ·exact h' pins s σ H x v jd je lo hi b1 Q I bb hs pl pu q
noncomputable def Dw(r:V→Option Int→Option Int→J→bT→Prop)(te:TE)(e_ tQ:nJ):TE:=fun σ H Q=>te σ H fun x H1=>e_ σ H1 fun l aQ=>tQ σ aQ fun u cN=>r x l u cN Q
theorem MA{r:V→Option Int→Option Int→J→bT→Prop}(hr:mw X r)(he:aP X e te)(hl:nH X lo e_)(hu:nH X hi tQ):aP X (.Subscript e (.Slice lo hi none bJ) pos) (Dw r te e_ tQ):=by intro pins s σ H Q I h;refine Subscript_ (bp (he pins s σ H _ I h) fun v s1⟨x,H1,aT,ao,a5⟩=>?_);refine wpAny_Slice (bp (hl pins s1 σ H1 _ aT a5) fun jd s2⟨l,aQ,bZ,pl,bL⟩=>bp (hu pins s2 σ aQ _ bZ bL) fun je s3⟨u,cN,da,pu,eP⟩=>?_);rw[evalPart_none];refine wpAny_pure ?_;have iI:Inv X pins σ cN { s3 with heap:=s3.heap.push { cls:=.type "slice",data:=.fields #[jd,je,.none] } }:=da.kept (t':=s3.toks) fun b aR q=>Heap.get?_push_of_some _ q;obtain⟨T,id,mS,ht,hg⟩:=hr pins { s3 with heap:=s3.heap.push { cls:=.type "slice",data:=.fields #[jd,je,.none] } } σ cN x v jd je l u s3.heap.objs.size Q iI ao (Heap.IsSliceOf.new ..) pl pu eP;show wpAny (model X.prog X.w) X.A (subscriptTail e (.Slice lo hi none bJ) v (.ref s3.heap.objs.size)) (eG X pins σ Q) X.xe { s3 with heap:=s3.heap.push { cls:=.type "slice",data:=.fields #[jd,je,.none] } };exact tail_any (ops:=[.ref s3.heap.objs.size,v]) ht mS hg (by with_unfolding_all rfl)
noncomputable def nW(xs:List V)(lo hi:Option Int):List V:=(xs.drop (dm.dD xs.length 0 lo)).take (dm.dD xs.length xs.length hi-dm.dD xs.length 0 lo)
theorem FN(xs:List V)(lo hi:Option Int):(nW xs lo hi).length≤xs.length:=by unfold nW;rw[List.length_take,List.length_drop];omega
end
noncomputable def fI(n:Nat)(i:Int):Option Nat:=if 0≤i then(if i<n then some i.toNat else none)else if-(n:Int)≤i then some (i+n).toNat else none
def es{α:Type}(xs:List α)(i:Int):Option α:=(fI xs.length i).bind fun j=>xs[j]?
theorem A9{n:Nat}{i:Int}{j:Nat}(h:fI n i=some j):seqIndex? i n=some j∧j<n∧-(n:Int)≤i∧i<n:=by
 unfold fI at h;by_cases h0:0≤i
 ·rw[if_pos h0]at h;by_cases h1:i<n
  ·rw[if_pos h1]at h;have e:i.toNat=j:=Option.some.inj h;exact⟨by rw[seqIndex_of h0 h1,e],by omega,by omega,h1⟩
  ·rw[if_neg h1]at h;cases h
 ·rw[if_neg h0]at h;by_cases h1: -(n:Int)≤i
  ·rw[if_pos h1]at h;have e:(i+n).toNat=j:=Option.some.inj h;exact⟨by rw[seqIndex_neg (by omega) h1,e],by omega,h1,by omega⟩
  ·rw[if_neg h1]at h;cases h
theorem uQ{α:Type}{xs:List α}{i:Int}{v:α}(h:es xs i=some v):∃j,seqIndex? i xs.length=some j∧xs[j]?=some v∧j<xs.length∧-(xs.length:Int)≤i∧i<xs.length:=by
 unfold es at h;cases e:fI xs.length i with
 |none=>rw[e]at h;cases h
 |some j=>rw[e]at h;obtain⟨h1,h2,h3,h4⟩:=A9 e;exact⟨j,h1,h,h2,h3,h4⟩
def nI(b:Expr):Prop:=∀o i,subscripted b false o i=operate [o,i] (getItem o i)
noncomputable def kn(X:aC)(r:dr):Prop:=
 ∀(value slice:Expr)(pins:List (Addr×Obj))(s:Shared)(σ :St)(H:J)(x y:V)(v u:Value)(Q:bT),Inv X pins σ H s→RelV x v→RelV y u→r x y H Q→
  subscripted slice false v u=operate [v,u] (getItem v u)→wpAny (model X.prog X.w) X.A (subscriptTail value slice v u) (eG X pins σ Q) X.xe s
noncomputable def yp(X:aC)(id:String)(r:V→List V→J→bT→Prop):Prop:=
 ∀(pins:List (Addr×Obj))(s:Shared)(σ :St)(H:J)(x:V)(xs:List V)(v:Value)(us:List Value)(Q:bT),Inv X pins σ H s→RelV x v→Vals xs us→r x xs H Q→
  wpAny (model X.prog X.w) X.A (call (.builtin id) (v::us)) (eG X pins σ Q) X.xe s
section
variable{X:aC}{a b:Expr}{bS tb:TE}{pos:Pos}
theorem kn.or{r aZ:dr}(h:kn X r)(h':kn X aZ):kn X (fun x y H Q=>r x y H Q∨aZ x y H Q):=by
 intro value slice pins s σ H x y v u Q I bb bG q hs;rcases q with q|q
 ·exact h value slice pins s σ H x y v u Q I bb bG q hs
 ·exact h' value slice pins s σ H x y v u Q I bb bG q hs
theorem wU{r:dr}(hr:kn X r)(ha:aP X a bS)(hb:aP X b tb)(hs:nI b):aP X (.Subscript a b pos) (q6 r bS tb):=by intro pins s σ H Q I h;exact Subscript_ (u4 ha hb I h fun v u s2 x y aQ bZ bb bG q=>hr a b pins s2 σ aQ x y v u Q bZ bb bG q (hs _ _))
noncomputable def CE(K:PySem.W.Frag):dr:=fun x y H Q=>∃p xs i v,x=.ref p∧y=.int i∧bx K H p xs∧es xs i=some v∧Q v H
noncomputable def CG(K:PySem.W.Frag):dr:=fun x y H Q=>∃p xs i v,x=.ref p∧y=.int i∧cB K H p xs∧es xs i=some v∧Q v H
noncomputable def CF:dr:=fun x y H Q=>∃z i c,x=.str z∧y=.int i∧z.length≤sizeLine∧es z.cps.toList i=some c∧Q (.str ⟨#[c]⟩) H
theorem JN:kn X (CE X.K):=by
 intro value slice pins s σ H x y v u Q I bb bG h hs;obtain⟨p,xs,i,z,rfl,rfl,aH,he,q⟩:=h;cases bb;obtain⟨t,rfl⟩:=bG;obtain⟨its,r,pl,bq⟩:=I.list aH;obtain⟨j,h1,h2,h3,h4,h5⟩:=uQ he;obtain⟨w,hT,qQ⟩:=r.get h2;have hl:=r.length;have aI:=oc;have fin:eG X pins σ Q w s:=⟨z,H,I,qQ,q⟩;by_cases h0:0≤i
 ·have b4:i.toNat=j:=by
    rw[seqIndex_of h0 h5]at h1;exact Option.some.inj h1
  exact item_listR pl.isList h0 (by omega) (by rw[b4];simpa using hT) fin hs
 ·have b4:(i+(its.toArray.size:Int)).toNat=j:=by
    rw[seqIndex_neg (by omega) h4]at h1;rw[List.size_toArray,←hl];exact Option.some.inj h1
  exact subscriptTail_builtinR (x:=w) pl.isList.typeIs slot_list_getitem.lookup
   (wpAny_getItem_list_neg (Q:=fun r s'=>r=w∧eG X pins σ Q r s') pl.isList (by omega) (by rw[List.size_toArray]<;>omega) (by omega) (by rw[b4];simpa using hT) ⟨rfl,fin⟩) hs
theorem JQ:kn X (CG X.K):=by
 intro value slice pins s σ H x y v u Q I bb bG h hs;obtain⟨p,xs,i,z,rfl,rfl,aH,he,q⟩:=h;cases bb;obtain⟨t,rfl⟩:=bG;obtain⟨its,r,pl,bq⟩:=I.tuple aH;obtain⟨j,h1,h2,h3,h4,h5⟩:=uQ he;obtain⟨w,hT,qQ⟩:=r.get h2;have hl:=r.length;have aI:=oc;have fin:eG X pins σ Q w s:=⟨z,H,I,qQ,q⟩
 exact subscriptTail_builtinR (x:=w) pl.typeIs slot_tuple_getitem.lookup
  (getItem_tuple (j:=j) (Q:=fun r s'=>r=w∧eG X pins σ Q r s') pl (by omega) (by omega) (by rw[List.size_toArray,←hl];exact h1) (by simpa using hT) ⟨rfl,fin⟩) hs
theorem JP:kn X CF:=by
 intro value slice pins s σ H x y v u Q I bb bG h hs;obtain⟨z,i,c,rfl,rfl,bq,he,q⟩:=h;obtain⟨t,rfl⟩:=bb;obtain⟨t',rfl⟩:=bG;obtain⟨j,h1,h2,h3,h4,h5⟩:=uQ he;have hl:z.cps.toList.length=z.length:=by simp[Str.length]
 rw[hl]at h1 h4 h5;have aI:=oc;exact tail_any (typeIs_str s z t) slot_str_getitem.lookup (getItem_str (c:=c) (by have ai:decide (i< -(2^63:Int))=false:=decide_eq_false (by omega);have au:decide (i≥2^63)=false:=decide_eq_false (by omega);rw[ai,au,Bool.or_false]) (by rw[h1];simpa using h2) ⟨.str ⟨#[c]⟩,H,I.tok _,⟨_,rfl⟩,q⟩) hs
def CD(K:PySem.W.Frag):dr:=fun x y H Q=>CE K x y H Q∨CG K x y H Q∨CF x y H Q
theorem v_:kn X (CD X.K):=JN.or (JQ.or JP)
theorem La(its:List Value)(n j:Nat)(u:Value):Obj.mapSeq (·.setIfInBounds j u) { cls:=.type "list",data:=.seq its.toArray n }={ cls:=.type "list",data:=.seq (its.set j u).toArray n }:=by simp[Obj.mapSeq]
theorem Inv.lst{pins:List (Addr×Obj)}{σ :St}{H:J}{s:Shared}{p:Addr}{xs:List V}(I:Inv X pins σ H s)(h:H p=some (.lst xs)) :
  ∃(its:List Value)(n:Nat),Vals xs its∧s.heap.get? p=some { cls:=.type "list",data:=.seq its.toArray n }∧xs.length≤sizeLine:=by
 obtain⟨z,its,n,r,e⟩:=I.bc p _ h;exact⟨its,n,r,e,z⟩
theorem Inv.KS{pins:List (Addr×Obj)}{σ :St}{H:J}{s:Shared}{p:Addr}{xs ys:List V}{its its':List Value}{n qw:Nat}{f:Obj→Obj}(I:Inv X pins σ H s)(h:H p=some (.lst xs))(ho:s.heap.get? p=some { cls:=.type "list",data:=.seq its.toArray n })(hf:f { cls:=.type "list",data:=.seq its.toArray n }={ cls:=.type "list",data:=.seq its'.toArray qw })(r:Vals ys its')(bq:ys.length≤sizeLine)(t:Nat) :
  Inv X pins σ (upd H p (.lst ys)) { s with heap:=s.heap.update p f,toks:=t }:=by
 have e:(s.heap.update p f).get? p=some { cls:=.type "list",data:=.seq its'.toArray qw }:=by rw[Heap.get?_update_self f ho (by rw[hf]<;>rfl),hf]
 refine I.write (x:=p) (e:=p) (by rw[h];trivial) (.inl rfl) (fun b u hb q=>(Heap.get?_update_other _ _ (Ne.symm hb)).trans q) ⟨_,e⟩ ?_;exact⟨bq,its',qw,r,e⟩
noncomputable def Ni:V→V→V→J→(J→Prop)→Prop:=fun o i v H Q=>∃p xs k j,o=.ref p∧i=.int k∧H p=some (.lst xs)∧fI xs.length k=some j∧Q (upd H p (.lst (xs.set j v)))
theorem set_list:yt X Ni:=by
 intro pins s σ H o i v cR gi u Q I gN NB bE h;obtain⟨p,xs,k,j,rfl,rfl,hp,b4,q⟩:=h;cases gN;obtain⟨t,rfl⟩:=NB;obtain⟨its,n,r,ho,bq⟩:=I.lst hp;obtain⟨h1,h2,h3,h4⟩:=A9 b4;have hl:=r.length;have aI:=oc;have ll:Inv X pins σ (upd H p (.lst (xs.set j v))) { s with heap:=s.heap.update p (Obj.mapSeq (·.setIfInBounds j u)) }:=
  I.KS hp ho (La its n j u) (r.set bE j) (by rw[List.length_set];exact bq) s.toks
 by_cases h0:0≤k
 ·have hk:k.toNat=j:=by
    rw[seqIndex_of h0 h4]at h1;exact Option.some.inj h1
  exact PySem.W.ki_setAt ho h0 (by omega) (by rw[List.size_toArray,←hl];exact h4) (by rw[hk];exact⟨_,ll,q⟩)
 ·have hk:(k+(its.toArray.size:Int)).toNat=j:=by
    rw[seqIndex_neg (by omega) h3]at h1;rw[List.size_toArray,←hl];exact Option.some.inj h1
  exact PySem.W.ki_setBack ho (by omega) (by rw[List.size_toArray,←hl];exact h3) (by omega) (by rw[hk];exact⟨_,ll,q⟩)
theorem OH(lo hi:Option Int)(n:Nat):(sliceBounds lo hi none n).1=((dm.dD n 0 lo:Nat):Int)∧(sliceBounds lo hi none n).2.1=((dm.dD n n hi:Nat):Int)∧(sliceBounds lo hi none n).2.2=1:=by
 refine⟨?_,?_,rfl⟩
 ·cases lo with
  |none=>simp[sliceBounds,dm.dD]
  |some i=>
   simp only[sliceBounds,dm.dD,Option.getD_none,show(1:Int)>0 by decide,if_true];by_cases h:i<0
   ·simp only[h,if_true]<;>omega
   ·simp only[h,if_false]<;>omega
 ·cases hi with
  |none=>simp[sliceBounds,dm.dD]
  |some i=>
   simp only[sliceBounds,dm.dD,Option.getD_none,show(1:Int)>0 by decide,if_true];by_cases h:i<0
   ·simp only[h,if_true]<;>omega
   ·simp only[h,if_false]<;>omega
theorem OG(its:List Value)(lo hi:Option Int):slicePick its.toArray lo hi none=((its.drop (dm.dD its.length 0 lo)).take (dm.dD its.length its.length hi-dm.dD its.length 0 lo)).toArray:=by obtain⟨h1,h2,h3⟩:=OH lo hi its.toArray.size;unfold slicePick;rw[h1,h2,h3];simp only[sliceRange_one,pick_run,List.size_toArray]<;>rfl
noncomputable def CI(K:PySem.W.Frag):V→Option Int→Option Int→J→bT→Prop:=fun x lo hi H Q=>∃a xs,x=.ref a∧bx K H a xs∧∀p,H p=none→Q (.ref p) (upd H p (.lst (nW xs lo hi)))
theorem OD:mw X (CI X.K):=by intro pins s σ H x v jd je lo hi b1 Q I bb hs pl pu h;obtain⟨a,xs,rfl,hx,q⟩:=h;cases bb;obtain⟨its,r,ht,bq⟩:=I.list hx;have hlen:=r.length;refine⟨"list",_,slot_list_getitem.lookup,ht.isList.typeIs,?_⟩;refine wpAny_getItem_list_slice ht.isList hs pl pu .none (by simp) ?_ (by rw[List.size_toArray]<;>omega);rw[OG,←hlen];refine⟨.ref s.heap.objs.size,_,I.laid (t':=s.toks) (o:=.lst (nW xs lo hi)) (fun b aR q=>Heap.get?_push_of_some _ q) (Nat.le_refl _) ?_,rfl,q _ (I.bc.fresh (Nat.le_refl _))⟩;exact⟨Nat.le_trans (FN xs lo hi) bq,_,0,(r.drop (dm.dD xs.length 0 lo)).take (dm.dD xs.length xs.length hi-dm.dD xs.length 0 lo),Heap.get?_push_size _ rfl⟩
theorem Ft:jg X (.type "list") (fun xs H Q=>∃p ys,xs=[.ref p]∧(bx X.K H p ys∨cB X.K H p ys)∧∀l,H l=none→Q (.ref l) (upd H l (.lst ys))):=by
 intro pins s σ H xs us Q I r h;obtain⟨p,ys,rfl,aH,q⟩:=h;obtain⟨u,rfl,bb⟩:=vals1 r;cases bb
 have fin:∀(its:List Value),Vals ys its→ys.length≤sizeLine→∀(h':Heap)(d_:Nat),(∀b bw,s.heap.get? b=some bw→h'.get? b=some bw)→
   h'.get? s.heap.objs.size=some { cls:=.type "list",dict:=none,data:=.seq its.toArray d_,slots:= #[] }→eG X pins σ Q (.ref s.heap.objs.size) { s with heap:=h' }:=fun its aZ bq h' d_ aA e=>
  ⟨.ref s.heap.objs.size,_,I.laid (t':=s.toks) aA (Nat.le_refl _) (show dG X.prog X.w _ h' _ (.lst ys)from⟨bq,its,d_,aZ,e⟩),rfl,q _ (I.bc.fresh (Nat.le_refl _))⟩
 rcases aH with aH|aH
 ·obtain⟨its,aZ,pl,bq⟩:=I.list aH;have hlen:=aZ.length;obtain⟨o,ho,hc,n,hd⟩:=pl.isList;exact call_list_seq p (.inl rfl) ho hc hd (fun h' d_ aA e=>fin its aZ bq h' d_ aA e) (by simp only[List.size_toArray]<;>omega)
 ·obtain⟨its,aZ,pl,bq⟩:=I.tuple aH;have hlen:=aZ.length;obtain⟨o,ho,hc,n,hd⟩:=pl;exact call_list_seq p (.inr rfl) ho hc hd (fun h' d_ aA e=>fin its aZ bq h' d_ aA e) (by simp only[List.size_toArray]<;>omega)
theorem Fv:jg X (.type "tuple") (fun xs H Q=>∃p ys,xs=[.ref p]∧((bx X.K H p ys∧∀l,H l=none→Q (.ref l) (upd H l (.tup ys)))∨(cB X.K H p ys∧Q (.ref p) H))):=by
 intro pins s σ H xs us Q I r h;obtain⟨p,ys,rfl,h⟩:=h;obtain⟨u,rfl,bb⟩:=vals1 r;cases bb;rcases h with⟨aH,q⟩|⟨aH,q⟩
 ·obtain⟨its,aZ,pl,bq⟩:=I.list aH;have hlen:=aZ.length;refine call_tuple_list pl.isList (fun h' aA=>?_) (by simp only[List.size_toArray]<;>omega);have aT:Inv X pins σ H { s with heap:=h' }:=I.kept (t':=s.toks) aA;have bZ:Inv X pins σ (upd H h'.objs.size (.tup ys)) { s with heap:=h'.push { cls:=.type "tuple",data:=.seq its.toArray } }:=
   aT.laid (t':=s.toks) (fun b o e=>Heap.get?_push_of_some _ e) (Nat.le_refl _) (show dG X.prog X.w _ _ _ (.tup ys)from⟨bq,its,aZ,IsTup.new _ _⟩)
  exact⟨.ref h'.objs.size,_,bZ,rfl,q _ (aT.bc.fresh (Nat.le_refl _))⟩
 ·obtain⟨its,aZ,pl,bq⟩:=I.tuple aH;exact call_tuple_same pl ⟨.ref p,H,I,rfl,q⟩
noncomputable def xZ(K:PySem.W.Frag)(T:String)(x:V)(H:J):Prop:=match x with
 |.str _=>T="str"
 |.int _=>T="int"
 |.ref p=>(T="list"∧∃xs,bx K H p xs)∨(T="tuple"∧∃o,K.lookup p=some o∧o.cls=.type "tuple"∧o.dict=none)∨
     (T="dict"∧((∃aS,H p=some (.cj aS))∨∃aS,H p=some (.a4 aS)))∨(T="set"∧∃S n,H p=some (.set S n))
 |_=>False
theorem DL{pins:List (Addr×Obj)}{σ :St}{H:J}{s:Shared}{T:String}{x:V}{v:Value}(I:Inv X pins σ H s)(r:RelV x v)(ty:xZ X.K T x H) :
  s.TypeIs v T∧∀a,v=.ref a→∃aR,s.heap.get? a=some aR∧aR.dict=none:=by
 cases x with
 |str z=>obtain⟨t,rfl⟩:=r;cases(show T="str" from ty);exact⟨typeIs_str s z t,fun _ e=>nomatch e⟩
 |int i=>obtain⟨t,rfl⟩:=r;cases(show T="int" from ty);exact⟨typeIs_int s i t,fun _ e=>nomatch e⟩
 |ref p=>
  cases r;rcases ty with⟨rfl,xs,aH⟩|⟨rfl,o,hk,hc,hd⟩|⟨rfl,hk⟩|⟨rfl,S,n,hk⟩
  ·obtain⟨its,_,pl,_⟩:=I.list aH;refine⟨pl.isList.typeIs,fun a e=>?_⟩;cases e;obtain⟨o,n,e,c,hd,_⟩:=pl;exact⟨o,e,hd⟩
  ·refine⟨⟨o,I.dJ p o hk,hc⟩,fun a e=>?_⟩;cases e;exact⟨o,I.dJ _ o hk,hd⟩
  ·have z:∃o,s.heap.get? p=some o∧o.ExactDict:=by
     rcases hk with⟨aS,hk⟩|⟨aS,hk⟩
     ·obtain⟨_,_,_,_,o,_,_,e,ex,_⟩:=I.bc p _ hk;exact⟨o,e,ex⟩
     ·obtain⟨_,_,_,_,o,_,_,e,ex,_⟩:=I.bc p _ hk;exact⟨o,e,ex⟩
   obtain⟨o,e,ex⟩:=z;refine⟨⟨o,e,ex.1⟩,fun a au=>?_⟩;cases au;exact⟨o,e,ex.2.1⟩
  ·obtain⟨o,_,_,_,e,ex,_⟩:=I.bc p _ hk;refine⟨⟨o,e,ex.1⟩,fun a au=>?_⟩;cases au;exact⟨o,e,ex.2.1⟩
 |_=>exact False.elim ty
noncomputable def OT(K:PySem.W.Frag)(T:String)(r:V→List V→J→bT→Prop)(to:TE):TE:=fun σ H Q=>to σ H fun x H1=>xZ K T x H1∧r x [] H1 Q
noncomputable def OS(K:PySem.W.Frag)(T:String)(r:V→List V→J→bT→Prop)(to:TE)(t:dX):TE:=fun σ H Q=>to σ H fun x H1=>xZ K T x H1∧t σ H1 fun xs aQ=>r x xs aQ Q
variable{o e:Expr}{af:List Expr}{to:TE}{t:dX}{name:Str}{apos cpos:Pos}{T id:String}{r:V→List V→J→bT→Prop}
theorem Mk(wQ:PlainAttrs T)(slot:Slot T name id)(vY:typeOf (.builtin id)=pure (.type "method_descriptor"))(hm:yp X id r)(ho:aP X o to)(hbase:attributeBase o name X.env (eval o X.env)=eval o X.env:=by rfl)(hline:(apos.endLine==cpos.line)=true:=by rfl):aP X (.Call (.Attribute o name apos) [] [] cpos) (OT X.K T r to):=by intro pins s σ H Q I h;refine wpAny_Call_method0_late hbase hline (bp (ho pins s σ H _ I h) fun v s1⟨x,H1,aT,ao,ty,a5⟩=>?_);obtain⟨h1,h2⟩:=DL aT ao ty;exact⟨T,id,wQ,slot,vY,h1,h2,Calls.callWith_builtin rfl (PySem.evalArgs_none (hm pins s1 σ H1 x [] v [] Q aT ao .nil a5))⟩
theorem qJ (wQ:PlainAttrs T) (slot:Slot T name id) (vY:typeOf (.builtin id)=pure (.type "method_descriptor")) (hm:yp X id r) (ho:aP X o to) (ha:d8 X (e::af) t)(hbase:attributeBase o name X.env (eval o X.env)=eval o X.env:=by rfl)(hfew:((backTo cpos (starEach (e::af) X.env)).all (fun x=>!x.1)&&(backToKw cpos (keywordEach [] X.env)).all (fun x=>x.1.isSome)
    &&decide ((e::af).length+([]:List Keyword).length+(if([]:List Keyword).isEmpty then 0 else 1)<30))=true:=by rfl)
  (hline:(apos.endLine==cpos.line)=true:=by rfl) (hs:starEach (e::af) X.env=(false,eval e X.env)::starEach af X.env:=by rfl) (hplain:(backTo cpos (starEach af X.env)).any (·.1)=false:=by rfl) :
  aP X (.Call (.Attribute o name apos) (e::af) [] cpos) (OS X.K T r to t):=by
 intro pins s σ H Q I h;refine wpAny_Call_method_late hbase hfew hline rfl (bp (ho pins s σ H _ I h) fun v s1⟨x,H1,aT,ao,ty,a5⟩=>?_);obtain⟨h1,h2⟩:=DL aT ao ty;refine⟨T,id,wQ,slot,vY,h1,h2,?_⟩;have iU:=ha cpos pins s1 σ H1 _ aT a5;rw[hs]at iU ⊢;refine Calls.callWith_builtin (by show(false||(backTo cpos (starEach af X.env)).any (·.1))=false;rw[hplain]<;>rfl) (Calls.evalArgs_plain ?_);exact bp iU fun us s2⟨vs,aQ,bZ,a7,bL⟩=>hm pins s2 σ aQ x vs v us Q bZ ao a7 bL
end
noncomputable def pb(X:aC)(id:String)(r:V→List V→J→bT→Prop):Prop:=
 ∀(pins:List (Addr×Obj))(s:Shared)(σ :St)(H:J)(x:V)(xs:List V)(v:Value)(us:List Value)(Q:bT),Inv X pins σ H s→RelV x v→Vals xs us→r x xs H Q→
  wpAny (model X.prog X.w) X.A (call (.builtin id) (v::us)) (eG X pins σ Q) X.xe s
theorem Vals.one:∀{x:V}{us:List Value},Vals [x] us→∃u,us=[u]∧RelV x u
 |_,_,.cons r .nil=>⟨_,rfl,r⟩
theorem Vals.zero:∀{us:List Value},Vals [] us→us=[]
 |_,.nil=>rfl
theorem Vals.dropLast{xs:List V}{us:List Value}(h:Vals xs us):Vals xs.dropLast us.dropLast:=by
 induction h with
 |nil=>exact .nil
 |cons r t ck=>
  cases t with
  |nil=>exact .nil
  |cons q t'=>exact .cons r ck
theorem Vals.eraseIdx:∀{xs:List V}{us:List Value}(i:Nat),Vals xs us→Vals (xs.eraseIdx i) (us.eraseIdx i)
 |_,_,_,.nil=>.nil
 |_,_,0,.cons _ t=>t
 |_,_,i+1,.cons r t=>.cons r (Vals.eraseIdx i t)
theorem Vals.rep{xs:List V}{us:List Value}(h:Vals xs us):∀k:Nat,Vals (List.replicate k xs).flatten (List.replicate k us).flatten
 |0=>.nil
 |k+1=>by rw[List.replicate_succ,List.replicate_succ,List.flatten_cons,List.flatten_cons];exact Vals.append h (Vals.rep h k)
theorem Hb{α:Type}(l:List α):l.eraseIdx (l.length-1)=l.dropLast:=by
 induction l with
 |nil=>rfl
 |cons a r ck=>
  cases r with
  |nil=>rfl
  |cons b r=>
   have e:(a::b::r).length-1=((b::r).length-1)+1:=by have h1:(a::b::r).length=r.length+2:=rfl;have h2:(b::r).length=r.length+1:=rfl;omega
   rw[e,List.eraseIdx_cons_succ,ck]
   all_goals rfl
theorem foldl_rep(its:List Value):∀(k:Nat)(acc:List Value),
  List.foldl (fun d5 dW=>d5++dW) acc.toArray (List.replicate k its.toArray)=(acc++(List.replicate k its).flatten).toArray
 |0,acc=>by simp
 |k+1,acc=>by
  have e:acc.toArray++its.toArray=(acc++its).toArray:=by simp
  have au:(acc++its)++(List.replicate k its).flatten=acc++(List.replicate (k+1) its).flatten:=by rw[List.replicate_succ,List.flatten_cons,List.append_assoc]
  rw[←au,←foldl_rep its k (acc++its),←e,List.replicate_succ,List.foldl_cons]
section
variable{X:aC}{pins:List (Addr×Obj)}{σ :St}{H:J}{s:Shared}{l b:Addr}{xs ys zs:List V}
theorem Inv.qb{its its':List Value}{n:Nat}{f:Array Value→Array Value}{t':Nat}(I:Inv X pins σ H s)(eX:H l=some (.lst xs))(e:s.heap.get? l=some { cls:=.type "list",data:=.seq its.toArray n })(hf:f its.toArray=its'.toArray)(hv:Vals ys its')(bq:ys.length≤sizeLine) :
  Inv X pins σ (upd H l (.lst ys)) { s with heap:=s.heap.update l (Obj.mapSeq f),toks:=t' }:=by
 have q:=PySem.IsL.update e f;rw[hf]at q;refine I.write (x:=l) (e:=l) (by rw[eX];exact trivial) (.inl rfl) (fun jV u hb hu=>(Heap.get?_update_other s.heap (Obj.mapSeq f) (Ne.symm hb)).trans hu) ⟨_,q⟩ ?_;exact⟨bq,its',_,hv,q⟩
theorem Inv.wx{its:List Value}{t':Nat}(I:Inv X pins σ H s)(hv:Vals ys its)(bq:ys.length≤sizeLine) :
  Inv X pins σ (upd H s.heap.objs.size (.lst ys)) { s with heap:=s.heap.push { cls:=.type "list",data:=.seq its.toArray },toks:=t' }:=
 I.laid (fun _ _ q=>Heap.get?_push_of_some _ q) (Nat.le_refl _) ⟨bq,its,0,hv,Heap.get?_push_size _ rfl⟩
theorem Inv.fresh(I:Inv X pins σ H s):H s.heap.objs.size=none:=I.bc.fresh (Nat.le_refl _)
theorem Inv.kO(I:Inv X pins σ H s)(eX:H l=some (.lst xs)):xs.length≤sizeLine∧∃(its:List Value)(n:Nat),Vals xs its∧xs.length=its.length∧s.heap.get? l=some { cls:=.type "list",data:=.seq its.toArray n }:=by obtain⟨z,its,n,r,e⟩:=I.bc l _ eX;exact⟨z,its,n,r,r.length,e⟩
theorem BY{n:Nat}(h:n≤sizeLine):Builtin.List.listTooLong n=false:=by unfold Builtin.List.listTooLong;exact decide_eq_false (by omega)
end
section
variable{X:aC}
noncomputable def Nb:V→List V→J→bT→Prop:=fun x vs H Q=>∃l xs y,x=.ref l∧vs=[y]∧H l=some (.lst xs)∧xs.length<sizeLine∧Q .non (upd H l (.lst (xs++[y])))
theorem s8:pb X "list.append" Nb:=by intro pins s σ H x vs v us Q I bb bE h;obtain⟨l,xs,y,rfl,rfl,eX,bq,q⟩:=h;cases bb;obtain⟨u,rfl,ei⟩:=bE.one;obtain⟨z,its,n,r,hl,e⟩:=I.kO eX;refine call_meets F.slot_list_append ⟨_,e,rfl⟩ F.entry_list_append (F.args_list_append_2 _ _) (PySem.list_append l its.toArray n u (by rw[List.size_toArray];omega)) ⟨e,?_⟩;refine⟨.non,_,I.qb (its':=its++[u]) eX e (by simp) (r.append (.cons ei .nil)) ?_,rfl,q⟩;rw[List.length_append,List.length_singleton];omega
noncomputable def Nd:V→List V→J→bT→Prop:=fun x vs H Q=>∃l b xs zs,x=.ref l∧vs=[.ref b]∧H l=some (.lst xs)∧H b=some (.lst zs)∧xs.length+zs.length≤sizeLine∧Q .non (upd H l (.lst (xs++zs)))
theorem Lj:pb X "list.extend" Nd:=by
 intro pins s σ H x vs v us Q I bb bE h;obtain⟨l,b,xs,zs,rfl,rfl,eX,kF,bq,q⟩:=h;cases bb;obtain⟨u,rfl,ei⟩:=bE.one;cases ei;obtain⟨z,its,n,r,hl,e⟩:=I.kO eX;obtain⟨aX,dn,dv,a7,H7,au⟩:=I.kO kF;have hsz:its.toArray.size+dn.toArray.size≤sizeLine:=by rw[List.size_toArray,List.size_toArray];omega
 have vN:¬(!its.toArray.isEmpty&&Builtin.List.listTooLong (its.toArray.size+dn.toArray.size))=true:=by rw[BY hsz,Bool.and_false];exact Bool.false_ne_true
 refine call_meets F.slot_list_extend ⟨_,e,rfl⟩ F.entry_list_extend (F.args_list_extend_2 _ _)
  (AutoSeq1.list_extend_list_list_0 l its.toArray n b dn.toArray dv vN (by rw[List.size_toArray];omega) (by omega)) ⟨e,au,?_⟩
 refine⟨.non,_,I.qb (its':=its++dn) eX e (by simp) (r.append a7) ?_,rfl,q⟩;rw[List.length_append];omega
noncomputable def Nh:V→List V→J→bT→Prop:=fun x vs H Q=>∃l xs y,x=.ref l∧vs=[]∧H l=some (.lst xs)∧xs[xs.length-1]?=some y∧Q y (upd H l (.lst xs.dropLast))
theorem RR:pb X "list.pop" Nh:=by
 intro pins s σ H x vs v us Q I bb bE h;obtain⟨l,xs,y,rfl,rfl,eX,cF,q⟩:=h;cases bb;have vZ:=bE.zero;subst vZ;obtain⟨z,its,n,r,hl,e⟩:=I.kO eX;obtain⟨u,hu,ei⟩:=r.get cF;have IA:its.toArray[its.toArray.size-1]?=some u:=by show its.toArray[its.length-1]?=some u;rw[←Array.getElem?_toList,←hl];exact hu
 refine call_meets F.slot_list_pop ⟨_,e,rfl⟩ F.entry_list_pop (F.args_list_pop_1 _) (MeetsSeq.list_pop_last l its.toArray n u IA (by rw[List.size_toArray];omega)) ⟨e,?_⟩;refine⟨y,_,I.qb (its':=its.dropLast) eX e ?_ r.dropLast ?_,ei,q⟩
 ·show its.toArray.eraseIdxIfInBounds (its.toArray.size-1)=its.dropLast.toArray;rw[List.size_toArray,List.eraseIdxIfInBounds_toArray,Hb]
 ·rw[List.length_dropLast];omega
noncomputable def Nc:V→List V→J→bT→Prop:=fun x vs H Q=>∃l xs,x=.ref l∧vs=[]∧H l=some (.lst xs)∧Q .non (upd H l (.lst []))
theorem Li:pb X "list.clear" Nc:=by intro pins s σ H x vs v us Q I bb bE h;obtain⟨l,xs,rfl,rfl,eX,q⟩:=h;cases bb;have vZ:=bE.zero;subst vZ;obtain⟨z,its,n,r,hl,e⟩:=I.kO eX;refine call_meets F.slot_list_clear ⟨_,e,rfl⟩ F.entry_list_clear (F.args_list_clear_1 _) (AutoSeq1.list_clear_list_0 l its.toArray n (by rw[List.size_toArray];omega)) ⟨e,?_⟩;exact⟨.non,_,I.qb (its':=[]) (ys:=[]) eX e rfl .nil (Nat.zero_le _),rfl,q⟩
noncomputable def CA:dr:=fun x y H Q=>∃l b xs zs,x=.ref l∧y=.ref b∧H l=some (.lst xs)∧H b=some (.lst zs)∧xs.length+zs.length≤sizeLine∧∀p,H p=none→Q (.ref p) (upd H p (.lst (xs++zs)))
theorem LX:cX X (binaryOp .Add) CA:=by
 intro pins s σ H x y v u Q I bb bG h;obtain⟨l,b,xs,zs,rfl,rfl,eX,kF,bq,q⟩:=h;cases bb;cases bG;obtain⟨z,its,n,r,hl,e⟩:=I.kO eX;obtain⟨aX,dn,dv,a7,H7,au⟩:=I.kO kF;refine PySem.P.add_list e au ?_ (by rw[List.size_toArray,List.size_toArray];omega);have ak:its.toArray++dn.toArray=(its++dn).toArray:=by simp
 rw[ak];exact⟨.ref _,_,I.wx (t':=s.toks) (r.append a7) (by rw[List.length_append];omega),rfl,q _ I.fresh⟩
noncomputable def CH:dr:=fun x y H Q=>∃l k xs,x=.ref l∧y=.int k∧H l=some (.lst xs)∧-(2^63)≤k∧k<2^63∧xs.length*k.toNat≤sizeLine∧
 ∀p,H p=none→Q (.ref p) (upd H p (.lst (List.replicate k.toNat xs).flatten))
theorem len_rep{α:Type}(xs:List α)(k:Nat):(List.replicate k xs).flatten.length=k*xs.length:=by
 induction k with
 |zero=>simp
 |succ k ck=>rw[List.replicate_succ,List.flatten_cons,List.length_append,ck,Nat.succ_mul,Nat.add_comm]
theorem L5:cX X (binaryOp .Mult) CH:=by
 intro pins s σ H x y v u Q I bb bG h;obtain⟨l,k,xs,rfl,rfl,eX,h1,h2,bq,q⟩:=h;cases bb;obtain⟨t,rfl⟩:=bG;obtain⟨z,its,n,r,hl,e⟩:=I.kO eX;have hlen:its.toArray.size*k.toNat≤sizeLine:=by rw[List.size_toArray,←hl];exact bq
 have HO:¬its.toArray.size*k.toNat>(2^63-1)/8:=by
  have:(sizeLine:Nat)≤(2^63-1)/8:=by decide
  omega
 have HU:¬(!Builtin.List.listFitsIndex k)=true:=by rw[fitsIndex_both h1 h2];exact Bool.false_ne_true
 have vN:¬Builtin.List.listTooLong (its.toArray.size*k.toNat)=true:=by rw[BY hlen];exact Bool.false_ne_true
 have H_:List.foldl (fun d5 dW=>d5++dW) #[] (List.replicate (if its.toArray.isEmpty=true then 0 else k.toNat) its.toArray)=(List.replicate k.toNat its).flatten.toArray:=by
  have f0:∀m:Nat,List.foldl (fun d5 dW=>d5++dW) #[] (List.replicate m its.toArray)=(List.replicate m its).flatten.toArray:=fun m=>by have:=foldl_rep its m [];rw[List.nil_append]at this;exact this
  rw[f0];cases its with
  |nil=>simp
  |cons a aZ=>rw[if_neg (by simp)]
 refine wpAny_binaryOp_repeat_ref (T:="list") (U:="int") (by decide) ⟨_,e,rfl⟩ (fun s'=>typeIs_int s' k t) noFill_list_mul F.fills_int_mul F.slot_int_rmul repeat_list F.slot_int_index.lookup
  (call_meets F.slot_int_rmul (typeIs_int s k t) F.entry_int_rmul (F.args_int_rmul_2 _ _) (int___rmul___int_list k t l its.toArray n)
    ⟨e,rfl,⟨_,e,rfl⟩,call_meets F.slot_list_mul ⟨_,e,rfl⟩ F.entry_list_mul (F.args_list_mul_2 _ _) (AutoListH.list___mul___list_int_3 l its.toArray n k t HU HO vN) ⟨e,?_⟩⟩)
 rw[H_];exact⟨.ref _,_,I.wx (t':=s.toks) (r.rep k.toNat) (by rw[len_rep,Nat.mul_comm];exact bq),rfl,q _ I.fresh⟩
end
section
variable{prog:Program}{w:World}{A:Around}{E:Value→Shared→Prop}{s:Shared}
end
section
variable{X:aC}
end
section
variable{κ:Type}[DecidableEq κ]
def fa(aS:List (κ×V))(k:κ):Option V:=(aS.find? fun dK=>decide (dK.1=k)).map (·.2)
noncomputable def putK(aS:List (κ×V))(k:κ)(v:V):List (κ×V):=
 if(aS.any fun dK=>decide (dK.1=k))=true then aS.map (fun dK=>if dK.1=k then(dK.1,v)else dK)else aS++[(k,v)]
theorem x8{p:κ×V}{r:List (κ×V)}{k:κ}(e:p.1=k):fa (p::r) k=some p.2:=by simp[fa,List.find?_cons,e]
theorem x7{p:κ×V}{r:List (κ×V)}{k:κ}(e:¬p.1=k):fa (p::r) k=fa r k:=by simp[fa,List.find?_cons,e]
theorem x6(k:κ):∀aS:List (κ×V),(aS.any fun dK=>decide (dK.1=k))=(fa aS k).isSome
 |[]=>rfl
 |p::r=>by
  rw[List.any_cons];by_cases e:p.1=k
  ·simp only[x8 e,decide_eq_true e,Bool.true_or,Option.isSome_some]
  ·rw[x7 e,decide_eq_false e,Bool.false_or];exact x6 k r
theorem Bs(aS:List (κ×V))(k:κ)(v:V):(putK aS k v).length≤aS.length+1:=by
 unfold putK
 split
 ·rw[List.length_map];omega
 ·rw[List.length_append,List.length_cons,List.length_nil];omega
theorem M4{aS:List (κ×V)}{k:κ}(v:V)(h:fa aS k=none):putK aS k v=aS++[(k,v)]:=by unfold putK;rw[x6,h];exact if_neg (by decide)
theorem gz.p1{o:Option V}{u:Option Value}(r:gz o u):o.isSome=u.isSome:=by
 cases o with
 |none=>cases u with
  |none=>rfl
  |some _=>exact(show False from r).elim
 |some _=>cases u with
  |none=>exact(show False from r).elim
  |some _=>rfl
theorem gz.getD{o:Option V}{u:Option Value}{d:V}{d':Value}(r:gz o u)(Nt:RelV d d'):RelV (o.getD d) (u.getD d'):=by
 cases o with
 |none=>cases u with
  |none=>exact Nt
  |some _=>exact(show False from r).elim
 |some _=>cases u with
  |none=>exact(show False from r).elim
  |some _=>exact r
theorem e3.val{aS:List (κ×V)}{vs:List (κ×Value)}(r:e3 aS vs)(k:κ):gz (fa aS k) (valueAt vs k):=by
 unfold e3 at r;induction r with
 |nil=>exact True.intro
 | @cons p q aD ft h t ck=>
   obtain⟨h1,h2⟩:=h;by_cases e:p.1=k
   ·have bR:q.1=k:=h1.symm.trans e;have b:valueAt (q::ft) k=some q.2:=by simp[valueAt,List.find?_cons,bR]
    rw[x8 e,b];exact h2
   ·have bR:¬q.1=k:=fun z=>e (h1.trans z);have b:valueAt (q::ft) k=valueAt ft k:=by simp[valueAt,List.find?_cons,bR]
    rw[x7 e,b];exact ck
theorem e3.any{aS:List (κ×V)}{vs:List (κ×Value)}(r:e3 aS vs)(k:κ):(aS.any fun dK=>decide (dK.1=k))=vs.any fun dK=>decide (dK.1=k):=by
 unfold e3 at r;induction r with
 |nil=>rfl
 |cons h t ck=>rw[List.any_cons,List.any_cons,ck,h.1]
theorem e3.w3{aS:List (κ×V)}{vs:List (κ×Value)}(r:e3 aS vs)(k:κ){y:V}{u:Value}(bG:RelV y u) :
  e3 (aS.map fun dK=>if dK.1=k then(dK.1,y)else dK) (vs.map fun dK=>if dK.1=k then(dK.1,u)else dK):=by
 unfold e3 at r ⊢;induction r with
 |nil=>exact .nil
 | @cons p q aD ft h t ck=>
   rw[List.map_cons,List.map_cons];refine .cons ?_ ck;obtain⟨h1,h2⟩:=h;by_cases e:p.1=k
   ·rw[if_pos e,if_pos (h1.symm.trans e)];exact⟨h1,bG⟩
   ·rw[if_neg e,if_neg (fun z=>e (h1.trans z))];exact⟨h1,h2⟩
theorem e3.put{aS:List (κ×V)}{vs:List (κ×Value)}(r:e3 aS vs)(k:κ){y:V}{u:Value}(bG:RelV y u):e3 (putK aS k y) (stored vs k u):=by
 unfold putK stored;rw[r.any k];by_cases e:(vs.any fun dK=>decide (dK.1=k))=true
 ·rw[if_pos e,if_pos e];exact r.w3 k bG
 ·rw[if_neg e,if_neg e];exact Paired.snoc r ⟨rfl,bG⟩
theorem e3.length{aS:List (κ×V)}{vs:List (κ×Value)}(r:e3 aS vs):aS.length=vs.length:=Paired.length r
end
theorem p4{P:Program}{w:World}{k:Key}{u:Value}(r:RelV (cb k) u):(gK P w).is k u=true:=by
 cases k with
 |inl i=>obtain⟨t,e⟩:=(show ∃t,u=Value.int i t from r);subst e;exact Lf P w i t
 |inr x=>obtain⟨t,e⟩:=(show ∃t,u=Value.str x t from r);subst e;exact Lg P w x t
theorem A8{P:Program}{w:World}:∀{ks:List Key}{us:List Value},Vals (ks.map cb) us→ItemsAre (gK P w) ks us
 |[],_,r=>by rw[List.map_nil]at r;cases r;exact .nil
 |k::ks,_,r=>by
  rw[List.map_cons]at r;cases r with
  |cons h t=>exact .cons (p4 h) (A8 t)
abbrev KT(H:J):List (List Key×V)→List (List Key×Addr×Value)→Prop:=Paired fun p q=>p.1=q.1∧H q.2.1=some (.tup (p.1.map cb))∧RelV p.2 q.2.2
theorem KT.val{H:J}{aS:List (List Key×V)}{xs:List (List Key×Addr×Value)}(r:KT H aS xs)(k:List Key):gz (fa aS k) ((atKey xs k).map (·.2)):=by
 induction r with
 |nil=>exact True.intro
 | @cons p q aD ft h t ck=>
   obtain⟨h1,_,h2⟩:=h;by_cases e:p.1=k
   ·have bR:q.1=k:=h1.symm.trans e;have b:atKey (q::ft) k=some q.2:=by simp[atKey,List.find?_cons,bR]
    rw[x8 e,b];exact h2
   ·have bR:¬q.1=k:=fun z=>e (h1.trans z);have b:atKey (q::ft) k=atKey ft k:=by simp[atKey,List.find?_cons,bR]
    rw[x7 e,b];exact ck
theorem KT.w3{H:J}{aS:List (List Key×V)}{xs:List (List Key×Addr×Value)}(r:KT H aS xs)(k:List Key){y:V}{u:Value}(bG:RelV y u) :
  KT H (aS.map fun dK=>if dK.1=k then(dK.1,y)else dK) (xs.map (putAt k u)):=by
 induction r with
 |nil=>exact .nil
 | @cons p q aD ft h t ck=>
   rw[List.map_cons,List.map_cons];refine .cons ?_ ck;obtain⟨h1,h2,h3⟩:=h;unfold putAt;by_cases e:p.1=k
   ·rw[if_pos e,if_pos (h1.symm.trans e)];exact⟨h1,h2,bG⟩
   ·rw[if_neg e,if_neg (fun z=>e (h1.trans z))];exact⟨h1,h2,h3⟩
theorem KT.put{H:J}{aS:List (List Key×V)}{xs:List (List Key×Addr×Value)}(r:KT H aS xs)(k:List Key){b:Addr}{y:V}{u:Value}(hb:H b=some (.tup (k.map cb)))(bG:RelV y u) :
  KT H (putK aS k y) (storedH xs k b u):=by
 have e:(aS.any fun dK=>decide (dK.1=k))=(atKey xs k).isSome:=by rw[x6,(r.val k).p1,Option.isSome_map]
 unfold putK storedH;rw[e];by_cases q:(atKey xs k).isSome=true
 ·rw[if_pos q,if_pos q];exact r.w3 k bG
 ·rw[if_neg q,if_neg q];exact Paired.snoc r ⟨rfl,hb,bG⟩
theorem KT.keeps{H H':J}{aS:List (List Key×V)}{xs:List (List Key×Addr×Value)}(r:KT H aS xs)(ht:∀b ys,H b=some (.tup ys)→H' b=some (.tup ys)):KT H' aS xs:=
 Paired.wB r fun _ _ z=>⟨z.1,ht _ _ z.2.1,z.2.2⟩
section
variable{P:Program}{w:World}{H:J}{h:Heap}{a:Addr}
theorem CL{u:cJ}(ok:c5 P w H h)(e:ep H a u):dG P w H h a u:=e.ok ok
theorem pB{aS:List (Key×V)}(ok:c5 P w H h)(e:ep H a (.cj aS)):aS.length≤sizeLine∧(a==sysModules)=false∧∃vs,e3 aS vs∧h.DictOf (gK P w) a vs:=
 show dG P w H h a (.cj aS)from CL ok e
theorem F3{aS:List (Key×V)}(ok:c5 P w H h)(e:H a=some (.cj aS)):aS.length≤sizeLine∧(a==sysModules)=false∧∃vs,e3 aS vs∧h.DictOf (gK P w) a vs:=pB ok (.inl e)
theorem p5{ks:List Key}(ok:c5 P w H h)(e:H a=some (.tup (ks.map cb))):(tupleKind (gK P w)).is h ks a:=by obtain⟨_,its,r,o,h1,h2,n,h3⟩:=(show dG P w H h a (.tup (ks.map cb))from ok a _ e);exact⟨o,its.toArray,n,h1,h2,h3,by simpa using A8 r⟩
theorem pC{aS:List (List Key×V)}(ok:c5 P w H h)(e:ep H a (.a4 aS)):aS.length≤sizeLine∧(a==sysModules)=false∧
  ∃xs,KT H aS xs∧h.DictOfH (tupleKind (gK P w)) a xs:=by
 obtain⟨z,y,xs,r,o,af,c6,h1,h2,h3,h4,h5⟩:=(show dG P w H h a (.a4 aS)from CL ok e);refine⟨z,y,xs,r,o,af,c6,h1,h2,h3,h4,fun x hx=>?_,h5⟩;have all:∀{l:List (List Key×V)}{m:List (List Key×Addr×Value)},KT H l m→∀x∈m,(tupleKind (gK P w)).is h x.1 x.2.1:=by
  intro l m q;induction q with
  |nil=>intro x hx;exact nomatch hx
  | @cons p q aD ft aH t ck=>
    intro x hx;rcases List.mem_cons.mp hx with e|hx
    ·subst e;exact p5 ok (by rw[←aH.1];exact aH.2.1)
    ·exact ck x hx
 exact all r x hx
theorem F9{aS:List (List Key×V)}(ok:c5 P w H h)(e:H a=some (.a4 aS)):aS.length≤sizeLine∧(a==sysModules)=false∧
  ∃xs,KT H aS xs∧h.DictOfH (tupleKind (gK P w)) a xs:=pC ok (.inl e)
end
noncomputable def jh(H:J)(a:Addr)(y:V)(r:Option V):Prop:=
 (∃aS k,ep H a (.cj aS)∧y=cb k∧r=fa aS k)∨∃aS k b,ep H a (.a4 aS)∧y=.ref b∧H b=some (.tup (k.map cb))∧r=fa aS k
noncomputable def o5(H:J)(a:Addr)(y v:V)(H':J):Prop:=
 (∃aS k,H a=some (.cj aS)∧y=cb k∧aS.length<sizeLine∧H'=upd H a (.cj (putK aS k v)))∨
 ∃aS k b,H a=some (.a4 aS)∧y=.ref b∧H b=some (.tup (k.map cb))∧aS.length<sizeLine∧H'=upd H a (.a4 (putK aS k v))
theorem jh.t{H:J}{a b:Addr}{aS:List (List Key×V)}{k:List Key}(e:H a=some (.a4 aS))(bz:H b=some (.tup (k.map cb))):jh H a (.ref b) (fa aS k):=.inr ⟨aS,k,b,.inl e,rfl,bz,rfl⟩
theorem o5.t{H:J}{a b:Addr}{aS:List (List Key×V)}{k:List Key}{v:V}(e:H a=some (.a4 aS))(bz:H b=some (.tup (k.map cb)))(hl:aS.length<sizeLine) :
  o5 H a (.ref b) v (upd H a (.a4 (putK aS k v))):=.inr ⟨aS,k,b,e,rfl,bz,hl,rfl⟩
section
variable{X:aC}{pins:List (Addr×Obj)}{σ :St}{H:J}{s:Shared}{a:Addr}{y v:V}{u r:Value}{o:Option V}{A:Around}{E:Value→Shared→Prop}
theorem Inv.big(I:Inv X pins σ H s):sysModules<s.heap.objs.size:=by have h:mainGlobals<s.heap.objs.size:=(I.mod.glob.keeps I.d9).lt;exact Nat.lt_trans (by decide) h
theorem FQ{Q:Value→Shared→Prop}(hu:A.units+1<cLine)(I:Inv X pins σ H s)(g:jh H a y o)(bG:RelV y u)(h:∀s',Inv X pins σ H s'→Q (.bool o.isSome) s') :
  wpAny (model X.prog X.w) A (compareOp .In u (.ref a)) Q E s:=by
 rcases g with⟨aS,k,e,d2,l⟩|⟨aS,k,b,e,d2,bz,l⟩
 ·subst d2;obtain⟨z,hd,vs,rel,dd⟩:=pB I.bc e;refine wpAny_in_of (p4 bG) hd dd.mapOf ?_;rw[←(rel.val k).p1,←l];exact h _ (I.tok _)
 ·subst d2;cases(show u=Value.ref b from bG);obtain⟨z,hd,xs,rel,dd⟩:=pC I.bc e;refine wpAny_in_heap (tupleKind_room_in1 hu) (p5 I.bc bz) hd dd ?_;have q:=(rel.val k).p1;rw[Option.isSome_map]at q;rw[←q,←l];exact h _ (I.tok _)
theorem FR{Q:Value→Shared→Prop}(hu:A.units+1<cLine)(I:Inv X pins σ H s)(g:jh H a y o)(bG:RelV y u)(h:∀s',Inv X pins σ H s'→Q (.bool (!o.isSome)) s') :
  wpAny (model X.prog X.w) A (compareOp .NotIn u (.ref a)) Q E s:=by
 rcases g with⟨aS,k,e,d2,l⟩|⟨aS,k,b,e,d2,bz,l⟩
 ·subst d2;obtain⟨z,hd,vs,rel,dd⟩:=pB I.bc e;refine wpAny_notIn_of (p4 bG) hd dd.mapOf ?_;rw[←(rel.val k).p1,←l];exact h _ (I.tok _)
 ·subst d2;cases(show u=Value.ref b from bG);obtain⟨z,hd,xs,rel,dd⟩:=pC I.bc e;refine wpAny_notIn_heap (tupleKind_room_in1 hu) (p5 I.bc bz) hd dd ?_;have q:=(rel.val k).p1;rw[Option.isSome_map]at q;rw[←q,←l];exact h _ (I.tok _)
theorem zj{h':Heap}{t':Nat}{aR:cJ}(I:Inv X pins σ H s)(ib:pd (H a))(hs:Heap.SameBut a s.heap h')(he:∃q,h'.get? a=some q)(new:dG X.prog X.w (upd H a aR) h' a aR) :
  Inv X pins σ (upd H a aR) { s with heap:=h',toks:=t' }:=
 I.write (x:=a) (e:=a) ib (.inl rfl) (fun b q hb z=>(hs.2 b hb).trans z) he new
theorem F2{P:Program}{w:World}{H':J}{h':Heap}{aS:List (Key×V)}{vs:List (Key×Value)}(z:aS.length≤sizeLine)(hd:(a==sysModules)=false)(rel:e3 aS vs)(dd:h'.DictOf (gK P w) a vs) :
  dG P w H' h' a (.cj aS):=⟨z,hd,vs,rel,dd⟩
theorem FU{H':J}{Q:Unit→Shared→Prop}(hu:A.units+1<cLine)(I:Inv X pins σ H s)(g:o5 H a y v H')(bG:RelV y u)(bE:RelV v r)(h:∀s',Inv X pins σ H' s'→Q () s') :
  wpAny (model X.prog X.w) A (setItem (.ref a) u r) Q E s:=by
 rcases g with⟨aS,k,e,d2,l,vf⟩|⟨aS,k,b,e,d2,bz,l,vf⟩
 ·subst d2 vf;obtain⟨z,hd,vs,rel,dd⟩:=F3 I.bc e;have bq:vs.length≤sizeLine:=by rw[←rel.length];exact z
  have hl:(putK aS k v).length≤sizeLine:=by have:=Bs aS k v;omega
  refine wpAny_setItem_pairs (hsz:=bq) (p4 bG) dd fun h' r2 hs=>h _ ?_;have he:∃q,h'.get? a=some q:=let⟨q,_,_,aH,_⟩:=r2;⟨q,aH⟩
  exact zj I (by rw[e];exact True.intro) hs he (F2 hl hd (rel.put k bE) r2)
 ·subst d2 vf;cases(show u=Value.ref b from bG);obtain⟨z,hd,xs,rel,dd⟩:=F9 I.bc e;have bq:xs.length≤sizeLine:=by rw[←Paired.length rel];exact z
  have hl:(putK aS k v).length≤sizeLine:=by have:=Bs aS k v;omega
  refine wpAny_setItem_heap (hsz:=bq) (tupleKind_room_in1 hu) (p5 I.bc bz) dd fun h' r2 hs=>h _ ?_;obtain⟨q,af,c6,aH,h2,h3,h4,_,h5⟩:=r2;refine zj I (by rw[e];exact True.intro) hs ⟨q,aH⟩ ⟨hl,hd,_,(rel.put k bz bE).keeps fun c ys ec=>?_,q,af,c6,aH,h2,h3,h4,h5⟩;rw[cf (Lo ec e (fun z=>nomatch z))];exact ec
end
section
variable{X:aC}{pins:List (Addr×Obj)}{σ :St}{H:J}{s:Shared}{a:Addr}{aS:List (Key×V)}{k:Key}{u:Value}{A:Around}{E:Value→Shared→Prop}
end
noncomputable def Dk(ty gu:TE):TE:=fun σ H Q=>ty σ H fun y H1=>gu σ H1 fun x aQ=>∃a o,x=.ref a∧jh aQ a y o∧Q (.aq o.isSome) aQ
noncomputable def Dl(ty gu:TE):TE:=fun σ H Q=>ty σ H fun y H1=>gu σ H1 fun x aQ=>∃a o,x=.ref a∧jh aQ a y o∧Q (.aq (!o.isSome)) aQ
noncomputable def NM(gu ty k7:TE):dR:=fun D σ H=>k7 σ H fun v H1=>gu σ H1 fun x aQ=>ty σ aQ fun y cN=>∃a f7,x=.ref a∧o5 cN a y v f7∧D.bj σ f7
section
variable{X:aC}{o i e value:Expr}{pos pos' rd:Pos}{gu ty k7:TE}
theorem Cb(hu:X.A.units+1<cLine)(hi:aP X i ty)(ho:aP X o gu):rE X .In i o (Dk ty gu):=by intro pins s σ H Q I h;refine bp (hi pins s σ H _ I h) fun gi s1⟨y,H1,aT,bG,a5⟩=>bp (ho pins s1 σ H1 _ aT a5) fun u s2⟨x,aQ,bZ,bb,a,cR,ex,g,bL⟩=>?_;subst ex;obtain rfl:u=Value.ref a:=bb;exact FQ hu bZ g bG fun s3 da=>⟨.aq cR.isSome,aQ,da,rfl,bL⟩
theorem Cc(hu:X.A.units+1<cLine)(hi:aP X i ty)(ho:aP X o gu):rE X .NotIn i o (Dl ty gu):=by intro pins s σ H Q I h;refine bp (hi pins s σ H _ I h) fun gi s1⟨y,H1,aT,bG,a5⟩=>bp (ho pins s1 σ H1 _ aT a5) fun u s2⟨x,aQ,bZ,bb,a,cR,ex,g,bL⟩=>?_;subst ex;obtain rfl:u=Value.ref a:=bb;exact FR hu bZ g bG fun s3 da=>⟨.aq (!cR.isSome),aQ,da,rfl,bL⟩
theorem MR(hu:X.A.units+1<cLine)(ho:aP X o gu)(hi:aP X i ty)(hv:aP X value k7)(hs:swapsWith value (some (.Subscript o i pos')) pos.line X.env=pure false) :
  cP X (.Assign [.Subscript o i pos'] value pos) (NM gu ty k7):=by
 intro pins s σ H D I h;refine wpAny_Assign_Subscript (bp (hv pins s σ H _ I h) fun r s1⟨v,H1,aT,bE,a5⟩=>bp (ho pins s1 σ H1 _ aT a5) fun u s2⟨x,aQ,bZ,bb,bL⟩=>bp (hi pins s2 σ aQ _ bZ bL) fun gi s3⟨y,cN,da,bG,a,f7,ex,g,eP⟩=>?_) hs;subst ex;obtain rfl:u=Value.ref a:=bb;exact FU hu da g bG bE fun s4 iI=>⟨σ,f7,iI,eP⟩
end
theorem F1{P:Program}{w:World}{H:J}(h:Heap)(hb:sysModules<h.objs.size):dG P w H (h.push { cls:=.type "dict",data:=.dict #[] }) h.objs.size (.cj []):=
 ⟨Nat.zero_le _,beq_eq_false_iff_ne.mpr (Ne.symm (Nat.ne_of_lt hb)),[],.nil,Heap.DictOf.new h⟩
theorem F8{P:Program}{w:World}{H:J}(h:Heap)(hb:sysModules<h.objs.size):dG P w H (h.push { cls:=.type "dict",data:=.dict #[] }) h.objs.size (.a4 []):=
 ⟨Nat.zero_le _,beq_eq_false_iff_ne.mpr (Ne.symm (Nat.ne_of_lt hb)),[],.nil,_,#[],0,Heap.get?_push_size _ rfl,⟨rfl,rfl,rfl⟩,rfl,rfl,List.nodup_nil⟩
def OU:TE:=fun _ H Q=>∀p,H p=none→Q (.ref p) (upd H p (.cj []))
def OV:TE:=fun _ H Q=>∀p,H p=none→Q (.ref p) (upd H p (.a4 []))
section
variable{X:aC}{pos:Pos}
theorem Mp:aP X (.Dict [] [] pos) OU:=fun pins s σ H Q I h=>
 wpAny_Dict_empty ⟨.ref s.heap.objs.size,_,I.laid (a:=s.heap.objs.size) (o:=.cj []) (t':=s.toks) (fun _ _ q=>Heap.get?_push_of_some _ q) (Nat.le_refl _) (F1 s.heap I.big),rfl,h _ (I.bc.fresh (Nat.le_refl _))⟩
theorem Mq:aP X (.Dict [] [] pos) OV:=fun pins s σ H Q I h=>
 wpAny_Dict_empty ⟨.ref s.heap.objs.size,_,I.laid (a:=s.heap.objs.size) (o:=.a4 []) (t':=s.toks) (fun _ _ q=>Heap.get?_push_of_some _ q) (Nat.le_refl _) (F8 s.heap I.big),rfl,h _ (I.bc.fresh (Nat.le_refl _))⟩
end
structure ER(X:aC)(o:Expr)(m:Str)(apos:Pos)(e:Expr)(cpos:Pos):Prop where
 base:attributeBase o m X.env (eval o X.env)=eval o X.env
 few:((backTo cpos (starEach [e] X.env)).all (fun x=>!x.1)&&(backToKw cpos (keywordEach [] X.env)).all (fun x=>x.1.isSome)
  &&decide (([e]:List Expr).length+([]:List Keyword).length+(if([]:List Keyword).isEmpty then 0 else 1)<30))=true
 line:(apos.endLine==cpos.line)=true
 trees:backTo cpos (starEach [e] X.env)=[(false,eval e X.env)]
def yn(H:J)(a:Addr):Prop:=(∃aS,ep H a (.cj aS))∨∃aS,ep H a (.a4 aS)
theorem JH{X:aC}{pins:List (Addr×Obj)}{σ :St}{H:J}{s:Shared}{a:Addr}(I:Inv X pins σ H s)(d:yn H a) :
  s.TypeIs (.ref a) "dict"∧(∀b,Value.ref a=.ref b→∃aR,s.heap.get? b=some aR∧aR.dict=none)∧(a==sysModules)=false:=by
 rcases d with⟨aS,e⟩|⟨aS,e⟩
 ·obtain⟨_,hd,vs,_,dd⟩:=pB I.bc e;refine⟨dd.typeIs,fun b q=>?_,hd⟩;cases q;obtain⟨aR,_,_,h1,h2,_⟩:=dd;exact⟨aR,h1,h2.2.1⟩
 ·obtain⟨_,hd,xs,_,dd⟩:=pC I.bc e;refine⟨dd.typeIs,fun b q=>?_,hd⟩;cases q;obtain⟨aR,_,_,h1,h2,_⟩:=dd;exact⟨aR,h1,h2.2.1⟩
section
variable{X:aC}{pins:List (Addr×Obj)}{σ :St}{H:J}{s:Shared}{a:Addr}{y d:V}{u r:Value}{o:Option V}{A:Around}{E:Value→Shared→Prop}
theorem FP{Q:Value→Shared→Prop}(hu:A.units+1<cLine)(I:Inv X pins σ H s)(g:jh H a y o)(bG:RelV y u)(h:∀eF s',Inv X pins σ H s'→RelV (o.getD .non) eF→Q eF s') :
  wpAny (model X.prog X.w) A (call (.builtin "dict.get") [.ref a,u]) Q E s:=by
 rcases g with⟨aS,k,e,d2,l⟩|⟨aS,k,b,e,d2,bz,l⟩
 ·subst d2;obtain⟨z,hd,vs,rel,dd⟩:=pB I.bc e;refine call_meetsIn PySem.F.slot_dict_get dd.typeIs PySem.F.entry_dict_get (PySem.F.args_dict_get_2 _ _) (meets_dict_get (gK X.prog X.w) a (p4 bG) hd) ⟨_,dd.mapOf,h _ _ (I.tok _) ?_⟩;rw[l];exact(rel.val k).getD rfl
 ·subst d2;cases(show u=Value.ref b from bG);obtain⟨z,hd,xs,rel,dd⟩:=pC I.bc e;refine call_meetsIn PySem.F.slot_dict_get dd.typeIs PySem.F.entry_dict_get (PySem.F.args_dict_get_2 _ _) (meetsH_dict_get (tupleKind (gK X.prog X.w)) a b hd) ⟨tupleKind_room_in1 hu,k,xs,p5 I.bc bz,dd,h _ _ (I.tok _) ?_⟩;rw[l];exact(rel.val k).getD rfl
end
noncomputable def Dj(gu ty:TE):TE:=fun σ H Q=>gu σ H fun x H1=>∃a,x=.ref a∧yn H1 a∧ty σ H1 fun y aQ=>∃o,jh aQ a y o∧Q (o.getD .non) aQ
section
variable{X:aC}{o e f:Expr}{apos cpos:Pos}{gu ty Sz:TE}
theorem Mo(hu:X.A.units+1<cLine)(ho:aP X o gu)(he:aP X e ty)(m:ER X o "get" apos e cpos):aP X (.Call (.Attribute o "get" apos) [e] [] cpos) (Dj gu ty):=by intro pins s σ H Q I h;refine wpAny_Call_method m.base m.few m.line PySem.F.plainAttrs_dict PySem.F.slot_dict_get PySem.F.type_dict_get (bp (ho pins s σ H _ I h) fun u s1⟨x,H1,aT,bb,a,ex,d,a5⟩=>?_);subst ex;obtain rfl:u=Value.ref a:=bb;obtain⟨t1,dh,_⟩:=JH aT d;refine⟨t1,dh,?_⟩;rw[m.trees];refine Calls.callWith_builtin rfl (Calls.evalArgs_plain (Calls.spliced_cons (bp (he pins s1 σ H1 _ aT a5) fun gi s2⟨y,aQ,bZ,bG,cR,g,bL⟩=>Calls.spliced_nil ?_)));exact FP hu bZ g bG fun eF s3 da qQ=>⟨_,aQ,da,qQ,bL⟩
end
section
variable{X:aC}{pins:List (Addr×Obj)}{σ :St}{H:J}{s:Shared}{a:Addr}{aS:List (Key×V)}{A:Around}{E:Value→Shared→Prop}
end
section
variable{X:aC}{pins:List (Addr×Obj)}{σ :St}{H:J}{s:Shared}{a:Addr}{y:V}{u:Value}{A:Around}{E:Value→Shared→Prop}
end
end aV
namespace yi
open PySem PySem.W PySem.Calls PyProof.Rows
theorem JC{P:Params}{h:Heap}:∀(ns:List Int)(vs:List Value),WellAll P h vs (ns.map WData.int)→IntsAre vs ns:=by
 intro ns;induction ns with
 |nil=>intro vs w;rw[List.map_nil]at w;cases w;exact .nil
 |cons n ns ck=>
  intro vs w;rw[List.map_cons]at w;cases w with
  |cons a b=>cases a;exact .cons _ _ (ck _ b)
theorem Ot{l:OpenLaw}{n:Nat}(aI:l.most=some n){P:Params}{h:Heap}{args:List WData}{vals:List Value}(sA:l.row.toRowW.claim.pre args=true)(v5:WellAll P h vals args) :
  ∃a vs ns,vals=[Value.ref a]∧args=[WData.list (ns.map WData.int)]∧h.get? a=some { cls:=.type "list",data:=.seq vs.toArray }∧IntsAre vs ns∧ns.length≤n:=by
 have Io:WShape.hasAll [] args [.list .int]=true:=(pre_splitW sA).1;have hc:l.pre.holds [] { args:=args }=true:=(pre_splitW sA).2;obtain⟨d,r,rfl,h1,h2⟩:=hasAllW_cons Io;obtain rfl:=hasAllW_nil h2;obtain⟨xs,rfl,h3⟩:=hasW_list h1;obtain⟨ns,rfl⟩:=items_int h3;have hlen:ns.length≤n:=by
  unfold OpenLaw.pre at hc;have h4:(WTm.not (.lt (.lit (.int (n:Int))) (.len (.arg 0)))).holds [] { args:=[.list (ns.map .int)] }=true:=by have h4:=(holds_andW hc).1;rw[aI]at h4;exact h4
  have h5:=condW_of h4 (w_not (w_lt w_lit (w_len_list (w_arg rfl))));rw[List.length_map]at h5;refine Nat.le_of_not_lt fun q=>?_;have cH:(n:Int)<((ns.length:Nat):Int):=by omega
  first
   |(rw[decide_eq_true cH]at h5;exact absurd h5 (by decide))
   |(simp at h5;omega)
 cases v5 with
 |cons dH dV=>
  cases dV;cases dH with
  |list ho vH=>exact⟨_,_,ns,rfl,rfl,ho,JC ns _ vH,hlen⟩
theorem MO(l:OpenLaw)(args:List WData):l.row.toRowW.claim.post args (.bool true) args=true:=
 postW_of (r:=l.row.toRowW) (X:=(true==true))
  (show WShape.has [] (.bool true) .bool=true by first|rfl|decide|simp[WShape.has,WShape.arms,WShape.armsAll])
  (show(WTm.eq .res (.lit (.bool true))).value [] { args:=args,res:=some (.bool true),after:=args }=some (.bool (true==true))from w_eq_bool (w_res rfl) w_lit) rfl
theorem E9 {l:OpenLaw} {n:Nat} {q:Program} {loose:List Str} {nN:(Str→Option Value)→Heap→Prop} {lu:World→Heap→Prop} {d:DefRec}(aI:l.most=some n) (pT:d.params.defaults=[])(call:∀(w:World)(dO cz:Shared)(mg e0:Str→Option Value)(eD:Addr)(o:Obj)(pm cd doc:Value)(a:Addr)(vs:List Value)(ns:List Int),
    Ground q loose [] nN w dO mg e0 cz.heap→lu w cz.heap→
    cz.heap.get? eD=some o→o.data=.func (docDef d.name d.params d.body d.scope pm cd doc)→cz.heap.CodeRec cd d.name→mg d.name=some (.ref eD)→
    cz.heap.get? a=some { cls:=.type "list",data:=.seq vs.toArray }→IntsAre vs ns→ns.length≤n→cz.gens= #[]→
    codeAny (model l.prog w) callerA (.call (.ref eD) ⟨[.ref a],[]⟩) (fun r s'=>r=.ok (.ret (.bool true))∧OldK cz.heap s'.heap∧s'.os=cz.os∧AllBare s'.gens) cz) :
  WalkO q loose nN lu l.row.toRowW d [] (fun f vs=>PySem.call f vs):=by
 intro w dO cz mg e0 G Y eD o pm cd doc r1 cb ho hd hcd Ai pU hg args vals as sA Ro Rr v5 Rp;obtain rfl:r1=.none:=Dflts.none Ai pT;obtain rfl:cb=.none:=Dflts.noKw Ai;obtain⟨a,vs,ns,rfl,rfl,vQ,hints,hlen⟩:=Ot aI sA v5;refine enter_call (codeAny_mono (call w dO cz mg e0 eD o pm cd doc a vs ns G Y ho (fd_plain hd) hcd pU vQ hints hlen hg) fun r s' aH=>?_);obtain⟨rfl,h2,h3,h4⟩:=aH;exact⟨.inl ⟨.bool true,.bool true,[],rfl,fun _=>rfl,.bool true,MO l _,fun _=>⟨List.Pairwise.nil,fun _ hm=>(nomatch hm)⟩⟩,h2,h3,h4⟩
section
variable{prog:Program}{w:World}{A:Around}{E:Value→Shared→Prop}{s:Shared}{K:Frag}
end
end yi
namespace aV
open PySem PySem.Spec PyProof.Rows
theorem D3:∀{vs:List Value}{ns:List Int},IntsAre vs ns→Vals (ns.map V.int) vs
 |_,_,.nil=>.nil
 |_,_,.cons n t h=>.cons ⟨t,rfl⟩ (D3 h)
def uI(H:J):Prop:=∀b,H b=none∨∃o xs,H b=some (.iu o (.lst xs))
theorem KA{P:Program}{w:World}{K:PySem.W.Frag}{mg e0:Str→Option Value}{CX:iH}{k:Nat}{eD a:Addr}{fd:FuncData}{x:Str}{sp:hL}{cz:Shared}{vs:List Value}{ns:List Int}(ji:K.In cz.heap)(AD:cz.heap.Ns mainGlobals mg)(hb:cz.heap.Ns builtinsNs e0)(vI:∀x:Str,x≠"__name__"→e0 x=bootBuiltins x)(H8:cz.heap.NoLimit)(hg:cz.gens= #[])(ha:cz.heap.get? a=some { cls:=.type "list",data:=.seq vs.toArray })(hi:IntsAre vs ns)(hl:ns.length≤sizeLine)(hr:cK k callerA)(F:∀base:Heap,K.In base→base.Ns mainGlobals mg→fM P w K mg base CX k eD fd [x] sp)(HL:∀(s:Shared)(u:Value),BindsTo s fd ⟨[u],[]⟩ [(x,u)])(lL:∀H:J,uI H→bx K H a (ns.map V.int)→sp [.ref a] H (fun v _=>v=.aq true) fun _ _ _=>False)(vE:∀H e s',CX [] H cz (fun _ _ _=>False) e s'→False) :
  codeAny (model P w) callerA (.call (.ref eD) ⟨[.ref a],[]⟩) (fun r s'=>r=.ok (.ret (.bool true))∧OldK cz.heap s'.heap∧s'.os=cz.os∧AllBare s'.gens) cz:=by
 have bE:=D3 hi;have KN:=hi.length
 have core:∀H:J,uI H→bx K H a (ns.map V.int)→c5 P w H cz.heap→(∀b,H b≠none→b=a)→(H a≠none→K.lookup a=none)→
   codeAny (model P w) callerA (.call (.ref eD) ⟨[.ref a],[]⟩) (fun r s'=>r=.ok (.ret (.bool true))∧OldK cz.heap s'.heap∧s'.os=cz.os∧AllBare s'.gens) cz:=by
  intro H sr jr bc iU hK;have yZ:∀{b:Addr}{o:Obj},cz.heap.get? b=some o→H b=none→(kI cz.heap H).get? b=some o:=fun e n=>HY e n;have qB:∀{b:Addr}{o:Obj}{af:Array DictEntry}{c6:Nat},cz.heap.get? b=some o→o.data=.dict af c6→H b=none:=fun{b o af c6} e d=>by
   cases q:H b with
   |none=>rfl
   |some u=>have bR:b=a:=iU b (by rw[q];simp);subst bR;rw[ha]at e;cases e;have d':Data.seq vs.toArray _=Data.dict af c6:=d;cases d'
  have tf:∀{b:Addr}{m:Str→Option Value},cz.heap.Ns b m→(kI cz.heap H).Ns b m:=fun{b m}⟨o,af,c6,e,d,r⟩=>⟨o,af,c6,yZ e (qB e d),d,r⟩;have Aj:K.In (kI cz.heap H):=fun b o e=>yZ (ji b o e) (by
   cases q:H b with
   |none=>rfl
   |some u=>have bR:b=a:=iU b (by rw[q];simp);subst bR;rw[hK (by rw[q];simp)]at e;cases e)
  have sq:Mod K mg (kI cz.heap H):=⟨Aj,tf AD,⟨e0,tf hb,vI⟩,let⟨Lc,h1,h2⟩:=H8;⟨Lc,tf h1,h2⟩⟩;have b6:mh P w K mg (kI cz.heap H) callerA [] cz H:=⟨rfl,sq,fun b o e=>LH e,Nat.le_of_eq (HZ _ _),trivial,fun b hb=>absurd (show b∈([]:List Addr)from hb) (by simp),bc,.of_eq hg⟩;refine codeAny_mono ((F _ Aj (tf AD)).run callerA [] cz H ⟨[.ref a],[]⟩ [.ref a] [.ref a] _ _ hr b6 (HL cz (.ref a)) (.cons rfl .nil) (lL H sr jr)) fun r s' h=>?_;cases r with
  |error e=>exact(vE H e s' h).elim
  |ok eu=>
   cases eu with
   |next=>exact False.elim h
   |brk=>exact False.elim h
   |cont=>exact False.elim h
   |ret u=>
    obtain⟨v,H',os,bare,un,Ii,aZ,q⟩:=h;have cH:v=.aq true:=q;subst cH;obtain rfl:u=Value.bool true:=aZ;refine⟨rfl,OldK.of_keep fun b o e=>?_,os,bare⟩;cases q:H b with
    |none=>exact un.keep b o e q (by intro z;exact absurd (show b∈([]:List Addr)from z) (by simp)) (by simp)
    |some u=>
     rcases sr b with z|⟨aR,xs,z⟩
     ·rw[q]at z;cases z
     ·have aX:=un.gB b aR _ z;obtain⟨ai,_⟩:=bc b _ z;obtain⟨au,_⟩:=Ii b _ aX;rw[e]at ai;cases ai;exact au
 cases hk:K.lookup a with
 |some o=>have e:=ji a o hk;rw[ha]at e;cases e;refine core (fun _=>none) (fun _=>.inl rfl) (.inr ⟨_,vs.toArray,_,hk,rfl,rfl,rfl,by rw[List.size_toArray,KN];exact hl,by simpa using bE⟩) (fun b u z=>by have f6:(none:Option cJ)=some u:=z;cases f6) (fun b z=>absurd rfl z) fun z=>absurd rfl z
 |none=>
  refine core (fun b=>if b=a then some (.iu { cls:=.type "list",data:=.seq vs.toArray } (.lst (ns.map V.int)))else none) (fun b=>?_) (.inl (.inr ⟨{ cls:=.type "list",data:=.seq vs.toArray },if_pos rfl⟩)) (fun b u z=>?_) (fun b z=>?_) fun _=>hk
  ·by_cases hb:b=a
   ·exact .inr ⟨_,_,if_pos hb⟩
   ·exact .inl (if_neg hb)
  ·by_cases hb:b=a
   ·have f6:=(if_pos hb).symm.trans z;cases f6;subst hb;exact⟨ha,by rw[List.length_map];exact hl,vs,_,bE,ha⟩
   ·have f6:=(if_neg hb).symm.trans z;cases f6
  ·by_cases hb:b=a
   ·exact hb
   ·exact absurd (if_neg hb) z
theorem PQ {l:PySem.W.OpenLaw} {n k:Nat} {q:Program} {loose:List Str} {nN:(Str→Option Value)→Heap→Prop} {lu:World→Heap→Prop} {d:DefRec} {K:Params→PySem.W.Frag} {CX:World→iH} {sp:World→hL} {x:Str}(aI:l.most=some n) (sy:n≤sizeLine) (pT:d.params.defaults=[]) (hr:cK k callerA)(vG:∀(w:World)(h:Heap),lu w h→(K w.params).In h)(F:∀(w:World)(mg:Str→Option Value)(eD:Addr)(h:Heap),(K w.params).In h→h.Ns mainGlobals mg→mg d.name=some (.ref eD)→
    ∃fd:FuncData,(∀(s:Shared)(u:Value),BindsTo s fd ⟨[u],[]⟩ [(x,u)])∧
     ∀base:Heap,(K w.params).In base→base.Ns mainGlobals mg→fM l.prog w (K w.params) mg base (CX w) k eD fd [x] (sp w))
  (lL:∀(w:World)(H:J)(a:Addr)(ns:List Int),ns.length≤n→uI H→bx (K w.params) H a (ns.map V.int)→sp w [.ref a] H (fun v _=>v=.aq true) fun _ _ _=>False)
  (vE:∀(w:World)(H:J)(s:Shared)(e:Value)(s':Shared),CX w [] H s (fun _ _ _=>False) e s'→False) :
  PySem.W.WalkO q loose nN lu l.row.toRowW d [] (fun f vs=>PySem.call f vs):=by
 refine yi.E9 aI pT fun w dO cz mg e0 eD o pm cd doc a vs ns G Y ho hd hcd pU vQ hints hlen hg=>?_;have ji:=vG w _ Y;obtain⟨fd,hb,j3⟩:=F w mg eD _ ji G.T.g pU;exact KA ji G.T.g G.T.b G.T.builtins G.T.nolimit hg vQ hints (Nat.le_trans hlen sy) hr j3 hb (fun H sr jr=>lL w H a ns hlen sr jr) fun H e s'=>vE w H cz e s'
noncomputable def inClass(s:Stmt)(j:Nat):Stmt:=match s with
 |.ClassDef _ _ _ body _ _ _ _ _ _ _=>body.getD j (.Pass ⟨0,0,0,0⟩)
 |_=>.Pass ⟨0,0,0,0⟩
noncomputable def iq(s:Stmt):Arguments:=match s with
 |.FunctionDef _ a _ _ _ _ _ _ _ _=>a
 |_=>{ posonlyargs:=[],args:=[],vararg:=none,kwonlyargs:=[],kw_defaults:=[],kwarg:=none,defaults:=[] }
def eU(s:Stmt):List Stmt:=match s with
 |.FunctionDef _ _ b _ _ _ _ _ _ _=>b
 |_=>[]
noncomputable def bX(s:Stmt):Scope:=match s with
 |.FunctionDef _ _ _ _ _ _ sc _ _ _=>sc
 |_=>{ kind:=.function,names:=[],isGenerator:=false,isCoroutine:=false }
abbrev gU:iH:=fun _ _ _ _ _ _=>False
abbrev uw:cn:=fun _ _ _=>False
theorem qI{X:aC}:Passes gU X uw:=fun _ _ _ _ _ _ _ h=>h.elim
structure jO(K:PySem.W.Frag)(x qual:Str)(st:Stmt)(f:Addr)(fd:FuncData):Prop where
 ex:∃(dM:Value)(cV:Option Addr)(cb doc pm:Value)(an:Option Addr)(bO b3:Value)(i9:Array (Option Value)),
  fd=PySem.W.fnOf x qual (iq st) (eU st) (bX st) .none cb doc pm an bO b3∧K.lookup f=some ⟨dM,cV,.func fd,i9⟩∧PySem.W.codeIn K bO qual=true
 aA:PySem.W.keepIn K (.ref f)=true
section
variable{P:Program}{w:World}{K:PySem.W.Frag}{mg:Str→Option Value}{base:Heap}
theorem jO.ok {x qual:Str} {st:Stmt} {f:Addr} {fd:FuncData} {N aD:List Str} {k:Nat} {sp:hL} (F:jO K x qual st f fd) (S:c0 N aD (bX st)) (len:∀vs H Q E,sp vs H Q E→vs.length=aD.length)(vJ:∀(bO:Value)(A:Around)(outer:List Env)(s:Shared)(H:J)(vs:List V)(Q:bT)(E:cn),cK k (A.deeper (envOfC qual (bX st) s.heap.objs.size f bO))→sp vs H Q E→
    ∃t,eT (dt gU P w K mg base N qual (bX st) f bO A outer s H E).fs (eU st) t∧t { bj:=fun _ H'=>Q .non H',dB:=Q } (start N vs) H):fM P w K mg base gU (k+1) f fd aD sp:=by
 obtain⟨dM,cV,cb,doc,pm,an,bO,b3,i9,rfl,lk,hcd⟩:=F.ex;refine vv lk hcd S len fun A outer s H vs Q E hr lL=>?_;obtain⟨t,h,q⟩:=vJ bO A outer s H vs Q E hr lL;exact⟨t,h.fs,q⟩
theorem jO.binds{x qual:Str}{st:Stmt}{f:Addr}{fd:FuncData}{aD:List Str}(F:jO K x qual st f fd)(h:∀(cb doc pm:Value)(an:Option Addr)(bO b3:Value)(us:List Value),us.length=aD.length→bindArgs (PySem.W.fnOf x qual (iq st) (eU st) (bX st) .none cb doc pm an bO b3) ⟨us,[]⟩=pure (aD.zip us)):Binds K fd aD []:=by obtain⟨dM,cV,cb,doc,pm,an,bO,b3,i9,rfl,lk,hcd⟩:=F.ex;exact .all (h cb doc pm an bO b3)
theorem mO{x qual:Str}{st:Stmt}{f:Addr}{dM:Value}{cV an:Option Addr}{i9:Array (Option Value)}{cb doc pm bO b3:Value}(l:K.lookup f=some ⟨dM,cV,.func (PySem.W.fnOf x qual (iq st) (eU st) (bX st) .none cb doc pm an bO b3),i9⟩)(c:PySem.W.codeIn K bO qual=true)(k:PySem.W.keepIn K (.ref f)=true):jO K x qual st f (PySem.W.fnOf x qual (iq st) (eU st) (bX st) .none cb doc pm an bO b3):=⟨⟨dM,cV,cb,doc,pm,an,bO,b3,i9,rfl,l,c⟩,k⟩
end
section
variable{X:aC}
theorem tr(i:Nat){x:Str}{pos:Pos}(hN:X.N[i]?=some x:=by rfl)(hv:fh X.env.scope x:=by first|exact Or.inl rfl|exact Or.inr (Or.inl rfl)|exact Or.inr (Or.inr rfl))(hd:(x==("__debug__" :Str))=false:=by decide)(hcd:(x==("__classdict__" :Str))=false:=by decide):aP X (.Name x pos) (tO i):=jA hN hv hd hcd
end
section
variable{X:aC}
end
section
variable{κ:Type}[DecidableEq κ]
end
structure jN(P:Program)(w:World)(outer:List Env)(H H':J)(s:Shared)(a:Addr)(C fj:Value)(B:Heap)(s':Shared):Prop where
 os:s'.os=s.os
 bare:AllBare s'.gens
 un:ez (c9 outer) [] H H' s.heap s'.heap
 j0:Heap.FlyingW B outer a C fj s'.heap
 old:∀b o,s.heap.get? b=some o→H b=none→b∉c9 outer→B.get? b=some o
 q_:∀b o,s.heap.get? b=some o→b∉c9 outer→∃bw,B.get? b=some bw
 bc:c5 P w H' B
 ha:H' a=none
noncomputable def d7(P:Program)(w:World):iH:=fun outer H s E e s'=>∃(a:Addr)(C fj:Value)(B:Heap)(H':J),e=.ref a∧jN P w outer H H' s a C fj B s'∧E C (some a) H'
section
variable{X:aC}{pins:List (Addr×Obj)}{σ :St}{H H':J}{s s':Shared}{a:Addr}{C fj:Value}{B:Heap}
theorem c5.part(x:c5 X.prog X.w H s.heap)(k:∀b u,(H b).isSome=true→s.heap.get? b=some u→B.get? b=some u):c5 X.prog X.w H B:=fun b o e=>
 (x b o e).jF (fun c u hc q=>k c u (by rcases hc with rfl|hc<;>simp[*]) q) (fun _ q=>q) fun _ _ q=>q
theorem Ac{env:Env}{outer:List Env}{L:Addr}(h:env.frame=some L){b:Addr}(hb:b∈c9 (env::outer)):b=L∨b∈c9 outer:=by unfold c9 at hb;rw[List.filterMap_cons,h]at hb;exact List.mem_cons.mp hb
theorem Inv.KJ{M:Model}{A:Around}{E:Value→Shared→Prop}{h':Heap}{vs:List Value}{Q:Unit→Shared→Prop}(I:Inv X pins σ H s)(hst:X.stack=X.env::X.outer)(j5:X.env.frame=some X.env.locals)(hex:X.ex=[])(iU:A.frames=some X.stack)(hx:Heap.MadeExcOf s.heap h' a C vs)(iV:∀fj B jD,jN X.prog X.w X.outer X.mj H X.dO a C fj B jD→Q () jD):wpAny M A (leaving X.env (.ref a)) Q E { s with heap:=h' }:=by
 have H4:∀env∈X.stack,∀b,env.frame=some b→b∈c9 X.stack:=fun env he b hb=>List.mem_filterMap.mpr ⟨env,he,hb⟩;have kF:∀b o,s.heap.get? b=some o→b∉c9 X.stack→(PySem.W.hideAll s.heap (c9 X.stack)).get? b=some o:=fun b o q n=>PySem.W.hideAll_get _ q n;have kJ:∀b o,X.dO.heap.get? b=some o→b∉c9 X.outer→b∉c9 X.stack:=fun b o q n z=>by
  rw[hst]at z;rcases Ac j5 z with r|r
  ·subst r;exact absurd (Nat.lt_of_lt_of_le (Heap.lt_size q) I.ok.above) (Nat.lt_irrefl _)
  ·exact n r
 have fH:∀b,b∉X.ex:=fun b z=>by rw[hex]at z;cases z
 refine PySem.wpAny_leaves_madeW (base:=PySem.W.hideAll s.heap (c9 X.stack)) (h:=s.heap) (by rw[iU,hst]) j5 (fun b o q=>PySem.W.of_hideAll _ q) (by have:=PySem.W.funFrames_hide (as:=c9 X.stack) I.stack H4;rw[hst]at this ⊢;exact this) hx fun iS t d5 dW nu l5=>?_;refine iV (.ref t) (PySem.W.hideAll s.heap (c9 X.stack)) _ ⟨I.os,I.bare,⟨?_,?_,?_,?_,I.base.hD,I.base.gB,I.base.hC⟩,d5,?_,?_,?_,?_⟩
 ·exact fun b o q n hb _=>d5.1 b o (kF b o (I.base.keep b o q n hb (fH b)) (kJ b o q hb))
 ·intro b o q n hb _;obtain⟨b1,a5⟩:=I.base.slot b o q n hb (fH b);obtain⟨_,bw,cH,gL⟩:=I.ok.g7.mem hb;rw[q]at cH;cases cH;obtain⟨qT,bL⟩:=l5 b _ (hx.keeps b _ a5) gL;exact⟨qT,bL⟩
 ·exact fun b o q n _=>I.base.free b o q n (fH b)
 ·intro b o q _;by_cases hb:b∈c9 X.outer
  ·obtain⟨_,bw,cH,_⟩:=d5.2.2.1.mem hb;exact⟨bw,cH⟩
  ·obtain⟨bw,cH⟩:=I.base.there b o q (fH b);exact⟨bw,d5.1 b bw (kF b bw cH (kJ b o q hb))⟩
 ·exact fun b o q n hb=>kF b o (I.base.keep b o q n hb (fH b)) (kJ b o q hb)
 ·intro b o q hb;obtain⟨bw,cH⟩:=I.base.there b o q (fH b);exact⟨bw,kF b bw cH (kJ b o q hb)⟩
 ·exact c5.part (X:=X) (s:=s) I.bc fun b u hs q=>kF b u q fun z=>by rw[I.xI b z]at hs;cases hs
 ·cases q:H a with
  |none=>rfl
  |some o=>
   have k:∀o:cJ,dG X.prog X.w H s.heap a o→∃u,s.heap.get? a=some u:=fun o x=>by
    induction o with
    |lst xs=>obtain⟨_,_,_,_,e⟩:=x;exact⟨_,e⟩
    |tup xs=>obtain⟨_,_,_,_,e,_⟩:=x;exact⟨_,e⟩
    |cj aS=>obtain⟨_,_,_,_,o,_,_,e,_⟩:=x;exact⟨_,e⟩
    |a4 aS=>obtain⟨_,_,_,_,o,_,_,e,_⟩:=x;exact⟨_,e⟩
    |set S n=>obtain⟨o,_,_,_,e,_⟩:=x;exact⟨_,e⟩
    |ins C aJ aK=>obtain⟨_,_,_,e,_⟩:=x;exact⟨_,e⟩
    |own y=>obtain⟨_,e⟩:=x;exact⟨_,e⟩
    |t5 aK=>obtain⟨_,⟨_,_,_,e,_⟩,_⟩:=x;exact⟨_,e⟩
    |tv lo hi=>obtain⟨_,_,_,e⟩:=x;exact⟨_,e⟩
    |iu aR u=>obtain⟨e,_⟩:=x;exact⟨_,e⟩
    |l4 aD=>exact⟨_,(show s.heap.get? a=some _ from x)⟩
    |met f y=>exact⟨_,(show s.heap.get? a=some _ from x)⟩
    |ext nz=>obtain⟨_,⟨_,e⟩,_⟩:=x;exact⟨_,e⟩
   obtain⟨u,e⟩:=k o (I.bc a o q);rw[hx.new]at e;cases e
theorem Inv.KL{M:Model}{A:Around}{E:Value→Shared→Prop}{Q:Unit→Shared→Prop}(I:Inv X pins σ H s)(hst:X.stack=X.env::X.outer)(j5:X.env.frame=some X.env.locals)(hex:X.ex=[])(iU:A.frames=some X.stack)(f:jN X.prog X.w X.stack H H' s a C fj B s')(iV:∀jD,jN X.prog X.w X.outer X.mj H' X.dO a C fj B jD→Q () jD):wpAny M A (leaving X.env (.ref a)) Q E s':=by
 have kJ:∀b o,X.dO.heap.get? b=some o→b∉c9 X.outer→b∉c9 X.stack:=fun b o q n z=>by
  rw[hst]at z;rcases Ac j5 z with r|r
  ·subst r;exact absurd (Nat.lt_of_lt_of_le (Heap.lt_size q) I.ok.above) (Nat.lt_irrefl _)
  ·exact n r
 have Ik:∀b,b∈c9 X.outer→b∈c9 X.stack:=fun b z=>by rw[hst];unfold c9;rw[List.filterMap_cons,j5];exact List.mem_cons_of_mem _ z
 have fH:∀b,b∉X.ex:=fun b z=>by rw[hex]at z;cases z
 have no:∀b:Addr,b∉([]:List Addr):=fun b z=>by cases z
 obtain⟨os,bare,un,j0,old,q_,bc,ha⟩:=f;rw[hst]at j0;refine PySem.wpAny_leaves_onW (by rw[iU,hst]) j5 j0 fun iS d5 dW=>?_;refine iV _ ⟨os.trans I.os,bare,⟨?_,?_,?_,?_,fun b xs q=>un.hD b xs (I.base.hD b xs q),fun b o u q=>un.gB b o u (I.base.gB b o u q),?_⟩,d5,?_,?_,bc,ha⟩
 ·exact fun b o q n hb _=>d5.1 b o (old b o (I.base.keep b o q n hb (fH b)) (I.base.free b o q n (fH b)) (kJ b o q hb))
 ·intro b o q n hb _;obtain⟨b1,a5⟩:=I.base.slot b o q n hb (fH b);obtain⟨_,bw,cH,gL⟩:=I.ok.g7.mem hb;rw[q]at cH;cases cH;obtain⟨Sk,bL⟩:=un.slot b _ a5 (I.base.free b o q n (fH b)) (Ik b hb) (no b);obtain⟨qT,eP⟩:=dW b _ bL gL;exact⟨qT,eP⟩
 ·intro b o q n _;obtain⟨bw,cH⟩:=I.base.there b o q (fH b);exact un.free b bw cH (I.base.free b o q n (fH b)) (no b)
 ·intro b o q _;by_cases hb:b∈c9 X.outer
  ·obtain⟨_,bw,cH,_⟩:=d5.2.2.1.mem hb;exact⟨bw,cH⟩
  ·obtain⟨bw,cH⟩:=I.base.there b o q (fH b);obtain⟨b2,bL⟩:=q_ b bw cH (kJ b o q hb);exact⟨b2,d5.1 b b2 bL⟩
 ·intro b aD q;obtain⟨ee,ai⟩:=I.base.hC b aD q;obtain⟨eY,au⟩:=un.hC b _ ai;exact⟨ee++eY,by rw[au,Array.append_assoc]⟩
 ·exact fun b o q n hb=>old b o (I.base.keep b o q n hb (fH b)) (I.base.free b o q n (fH b)) (kJ b o q hb)
 ·intro b o q hb;obtain⟨bw,cH⟩:=I.base.there b o q (fH b);exact q_ b bw cH (kJ b o q hb)
end
theorem Hd{K:PySem.W.Frag}{h:Heap}{C:Addr}{pv:List Value}{newId:String}(X:K.In h)(q:PySem.W.excIn K C pv newId=true) :
  ∃bm N nm q bs hdct sn sub ab col dd k0 k1 k2 k3 k5 mN,h.get? C=some (excClassObj nm q C N bs bm hdct sn sub ab col dd k0 k1 k2 k3 k5 newId)∧h.Ns N mN∧mN "__init__"=none∧OwnTail h pv bm:=by
 unfold PySem.W.excIn at q
 split at q
 ·rename_i dd cd b1 ho
  split at q
  ·rename_i gT bm k0 k1 k2 k3 n k5 hm hs;simp only[Bool.and_eq_true,beq_iff_eq,Bool.not_eq_true']at q;obtain⟨⟨⟨⟨⟨rfl,rfl⟩,As⟩,ht⟩,bc⟩,sz⟩:=q;obtain⟨nm,bs,mro,ns,qn,hd,sn,sub,ab,col,del⟩:=cd;dsimp only at hm As bc sz;subst hm As;have Ip:b1= #[k0,k1,k2,k3,some (.builtin n),k5]:=by
    obtain⟨l⟩:=b1;simp only at hs;rw[hs]
   subst Ip;exact⟨bm,ns,nm,qn,bs,hd,sn,sub,ab,col,dd,k0,k1,k2,k3,k5,_,X _ _ ho,.of_isNs (PySem.W.isNs_of_in X bc),PySem.W.nsMap_none_of_in X bc sz,PySem.W.tail_of_in X ht⟩
  ·cases q
 ·cases q
noncomputable def Dv(X:aC)(C:Addr):dR:=fun _ σ H=>∀pins s h' a vs,Inv X pins σ H s→Heap.MadeExcOf s.heap h' a (.ref C) vs→X.xe (.ref a) { s with heap:=h' }
section
variable{X:aC}{x:Str}{np cpos pos cp:Pos}{C:Addr}{pv:List Value}{B newId Jv:String}{m:Str}{j:Nat}
theorem MU(FB:ExcBaseFacts B newId Jv pv)(q:PySem.W.excIn X.K C pv newId=true)(hm:X.mg x=some (.ref C))(hc:X.calm=true:=by rfl)(hg:cA X x:=by rfl)(hd:(x==("__debug__" :Str))=false:=by decide) :
  cP X (.Raise (some (.Call (.Name x np) [.Constant (.str m) j cp] [] cpos)) none pos) (Dv X C):=by
 intro pins s σ H D I h;obtain⟨bm,N,nm,qn,bs,hdct,sn,sub,ab,col,dd,k0,k1,k2,k3,k5,mN,fG,hN,sz,yv⟩:=Hd I.mod.mY q;refine wpAny_Raise_call_subT (mN:=mN) (C:=C) (nm:=nm) (q:=qn) (N:=N) (bs:=bs) (bm:=bm) (hdct:=hdct) (sn:=sn) (sub:=sub) (ab:=ab) (col:=col) (dd:=dd) (k0:=k0) (k1:=k1) (k2:=k2) (k3:=k3) (k5:=k5) FB (yv.hasType FB.hasBase) (I.ok.hd hc) rfl sz (oa I hg hm ⟨rfl,?_⟩ hd);refine Calls.evalArgs_plain (Calls.spliced_cons (bp (Ck (X:=X) (x:=m) (j:=j) (pos:=cp) pins s σ H (fun _ H1=>H1=H) I rfl) fun u s1⟨v,H1,aT,ao,ai⟩=>?_));subst ai;refine Calls.spliced_nil ⟨rfl,Nat.le_of_ble_eq_true rfl,aT.d9 _ _ fG,hN.keeps aT.d9,yv.keeps aT.d9,fun h' a hx=>h pins s1 h' a _ aT hx⟩
theorem Qb{P:Program}{w:World}{K:PySem.W.Frag}{mg:Str→Option Value}{base:Heap}{N:List Str}{qual:Str}{scope:Scope}{f:Addr}{cd:Value}{A:Around}{outer:List Env}{s0:Shared}{H0:J}{E:cn}{σ :St}{H:J}{b8:Ends}(h:∀a,H a=none→E (.ref C) (some a) H):Dv (dt (d7 P w) P w K mg base N qual scope f cd A outer s0 H0 E) C b8 σ H:=fun pins s h' a vs I hx=>
 I.KJ (C:=.ref C) rfl rfl rfl I.ok.frames hx fun fj B jD eu=>⟨a,.ref C,fj,B,H,rfl,eu,h a eu.ha⟩
theorem Mg{P:Program}{w:World}{K:PySem.W.Frag}{mg:Str→Option Value}{base:Heap}{N:List Str}{qual:Str}{scope:Scope}{f:Addr}{cd:Value}{A:Around}{outer:List Env}{s0:Shared}{H0:J}{E:cn} :
  Passes (d7 P w) (dt (d7 P w) P w K mg base N qual scope f cd A outer s0 H0 E) E:=fun pins σ H s e s' I hx=>by
 obtain⟨a,C,fj,B,H',rfl,eu,hE⟩:=hx;exact I.KL (X:=dt (d7 P w) P w K mg base N qual scope f cd A outer s0 H0 E) rfl rfl rfl I.ok.frames eu fun jD Hu=>⟨a,C,fj,B,H',rfl,Hu,hE⟩
end
abbrev mL(a:Addr)(C:Value):cJ:=.ext fun h=>∃aR,h.get? a=some aR∧aR.cls=C
section
variable{X:aC}{pins:List (Addr×Obj)}{σ :St}{H H':J}{s s':Shared}{a:Addr}{C fj:Value}{B:Heap}{iS:Heap}
theorem jN.inv(f:jN X.prog X.w X.stack H H' s a C fj B s')(I:Inv X pins σ H s)(st:B.StaysIn iS)(n1:iS.FunFrames B X.stack)(up:s'.heap.UpToSlots iS):Inv X pins σ H' { s' with heap:=iS }:=by
 have no:∀b:Addr,b∉([]:List Addr):=fun b z=>by cases z
 refine I.y_ (s':={ s' with heap:=iS }) (ch:=[]) f.os ⟨fun b o q n hb _=>st b o (f.old b o q n hb),fun b o q n hb _=>?_,f.un.free,fun b o q _=>?_,f.un.hD,f.un.gB,f.un.hC⟩ (f.bc.kept fun b u q=>st b u q) f.bare (fun b hb=>nomatch hb)
 ·obtain⟨b1,a5⟩:=f.un.slot b o q n hb (no b);obtain⟨_,bw,cH,gL⟩:=I.stack.mem hb;rw[q]at cH;cases cH;obtain⟨qT,bL⟩:=up b _ a5 gL;exact⟨qT,bL⟩
 ·by_cases hb:b∈c9 X.stack
  ·obtain⟨_,bw,cH,_⟩:=n1.mem hb;exact⟨bw,cH⟩
  ·obtain⟨bw,cH⟩:=f.q_ b o q hb;exact⟨bw,st b bw cH⟩
theorem jN.td(f:jN X.prog X.w X.stack H H' s a C fj B s'){b:Addr}{o:Obj}(q:s.heap.get? b=some o):b≠a:=by
 rintro rfl;by_cases hb:b∈c9 X.stack
 ·obtain⟨_,bw,cH,gL⟩:=f.j0.2.2.1.mem hb;obtain⟨B0,vs,T,RY,ts,he,hc,hd,_⟩:=f.j0.2.2.2;rw[cH]at he;cases he;exact gL vs hd
 ·obtain⟨bw,cH⟩:=f.q_ b o q hb;rw[f.j0.2.1]at cH;cases cH
theorem jN.Ph(f:jN X.prog X.w X.stack H H' s a C fj B s')(I:Inv X pins σ H s)(hex:X.ex=[])(st:B.StaysIn iS)(n1:iS.FunFrames B X.stack)(up:s'.heap.UpToSlots iS)(aR:∃o,iS.get? a=some o∧o.cls=C) :
  Inv X pins σ (upd H' a (mL a C)) { s' with heap:=iS }:=by
 have bk:=f.inv I st n1 up;have fH:∀b,b∉X.ex:=fun b z=>by rw[hex]at z;cases z
 have na:∀{b:Addr}{u:cJ},H' b=some u→b≠a:=fun{b u} q=>hz q f.ha;have old:∀{b:Addr}{o:Obj},X.dO.heap.get? b=some o→b≠a:=fun{b o} q=>by obtain⟨bw,cH⟩:=I.base.there b o q (fH b);exact f.td cH
 refine⟨bk.ok,bk.os,bk.bare,⟨bk.base.keep,bk.base.slot,fun b o q n hx=>?_,bk.base.there,fun b xs q=>?_,fun b o u q=>?_,fun b aD q=>?_⟩,bk.loc,bk.cell,?_,fun x c e=>?_,fun p hp=>?_,fun b o q=>?_,bk.len⟩
 ·rw[cf (old q)];exact bk.base.free b o q n hx
 ·have:=bk.base.hD b xs q;rw[cf (na this)];exact this
 ·have:=bk.base.gB b o u q;rw[cf (na this)];exact this
 ·obtain⟨m,e⟩:=bk.base.hC b aD q;exact⟨m,by rw[cf (na e)];exact e⟩
 ·obtain⟨m,⟨o,_,_,ho,_⟩,_⟩:=I.loc;rw[cf (f.td ho)];exact bk.free
 ·obtain⟨v,o,ho,_⟩:=I.cell x c e;rw[cf (f.td ho)];exact bk.hW x c e
 ·obtain⟨e,n,r⟩:=bk.pin p hp;obtain⟨b6,_⟩:=I.pin p hp;exact⟨e,by rw[cf (f.td b6)];exact n,r⟩
 ·by_cases hb:b=a
  ·subst hb;rw[c3]at q;cases q;obtain⟨o,e,c⟩:=aR;exact⟨⟨o,e,c⟩,⟨o,e⟩,fun h1 h2⟨cu,ai,bK⟩ k=>⟨cu,k cu ai,bK⟩⟩
  ·rw[cf hb]at q;exact(bk.bc b o q).jF (fun c v _ r=>r) (fun c r=>by rw[cf (na r)];exact r) fun c xs r=>by rw[cf (na r)];exact r
end
noncomputable def yq(X:aC)(e:Expr)(t:TE)(E:cn):Prop:=∀(pins:List (Addr×Obj))(s:Shared)(σ :St)(H:J)(Q:bT),Inv X pins σ H s→t σ H Q→
 wpAny (model X.prog X.w) X.A (eval e X.env) (eG X pins σ Q) (fun x s'=>∃H1 s1,Inv X pins σ H1 s1∧d7 X.prog X.w X.stack H1 s1 E x s') s
section
variable{X:aC}{k:Nat}{f C:Addr}{fd:FuncData}{aD:List Str}{sp:hL}{E:cn}{x:Str}{p pos:Pos}{e:Expr}{af:List Expr}{t:dX}
theorem MD(M:pa X.K C f)(F:fM X.prog X.w X.K X.mg X.base (d7 X.prog X.w) k f fd aD sp)(hr:cK (k+1) X.A)(hg:cA X x)(hm:X.mg x=some (.ref C))(hb:Binds X.K fd aD [])(ha:d8 X.fs (e::af) t)(hdb:(x==("__debug__" :Str))=false:=by decide)(he:starEach (e::af) X.env=(false,eval e X.env)::starEach af X.env:=by rfl)(hpl:(backTo pos (starEach af X.env)).any (·.1)=false:=by rfl) :
  yq X (.Call (.Name x p) (e::af) [] pos) (tL C sp [] E t) E:=by
 intro pins s σ H Q I h;refine wpAny_Call_Name_kw (oa I hg hm ?_ hdb);refine PySem.W.callWith_K (h₀:=X.base) I.ok.mod.mY M.aA (wpAny_mono (ha pos pins s σ H _ (I.hH _) h) (fun us s1⟨vs,H1,aT,r,q⟩=>⟨aT.gv.dJ,?_⟩) fun _ _ z=>z.elim) he hpl;have bk:=aT.gv;have aH:=q (s1.heap.objs.size+1) s1.heap.objs.size (bk.bc.fresh (Nat.le_succ _)) (bk.bc.fresh (Nat.le_refl _)) (Nat.ne_of_lt (Nat.lt_succ_self _));rw[List.append_nil]at aH;have bZ:=Inv.made (C:=C) bk;have a7:Vals (V.ref (s1.heap.objs.size+1)::vs) (Value.ref (s1.heap.objs.size+1)::us):=.cons rfl r;have hl:(Value.ref (s1.heap.objs.size+1)::us).length=aD.length:=by rw[←a7.length];exact F.len _ _ _ _ aH
 have js:=hb _ (Value.ref (s1.heap.objs.size+1)::us) bZ.dJ (by rw[List.append_nil];exact hl);rw[List.append_nil]at js
 refine wpAny_call (BG (f:=f) bk.dJ M.makes M.init (beq_iff_eq.mp M.fn) (codeAny_mono (F.run _ X.stack _ _ ⟨Value.ref (s1.heap.objs.size+1)::us,[]⟩ (Value.ref (s1.heap.objs.size+1)::us) _ _ E (hr.make C us [])
  (bZ.vl.make C us []) js a7 aH) fun r s' hX=>?_))
 cases r with
 |error e=>exact⟨_,_,bZ,hX⟩
 |ok eu=>
  cases eu with
  |ret u=>obtain⟨v,H',da,bE,ev,eP⟩:=bZ.after hX;subst ev;exact⟨bE,⟨V.ref (s1.heap.objs.size+1),H',da,rfl,eP⟩⟩
  |next=>exact False.elim hX
  |brk=>exact False.elim hX
  |cont=>exact False.elim hX
end
abbrev aC.marked(X:aC)(a:Addr):aC:={ X with A:=X.A.mark (some (.ref a)),calm:=false,xe:=fun _ _=>False }
section
variable{X:aC}{pins:List (Addr×Obj)}{σ :St}{H H':J}{s s':Shared}{a:Addr}
theorem aC.Ok.marked(ok:X.Ok)(a:Addr):(X.marked a).Ok:=
 ⟨ok.mod,ok.kind,ok.glob,ok.blt,ok.above,ok.inj,ok.has,ok.nV,(fun z=>Bool.noConfusion z),ok.frames,ok.qZ,ok.vr,ok.bs,ok.kA,ok.oF,ok.pN,ok.g7,ok.lI⟩
theorem Inv.marked(I:Inv X pins σ H s)(a:Addr):Inv (X.marked a) pins σ H s:=⟨I.ok.marked a,I.os,I.bare,I.base,I.loc,I.cell,I.free,I.hW,I.pin,I.bc,I.len⟩
theorem Inv.unmarked(ok:X.Ok)(I:Inv (X.marked a) pins σ H s):Inv X pins σ H s:=⟨ok,I.os,I.bare,I.base,I.loc,I.cell,I.free,I.hW,I.pin,I.bc,I.len⟩
theorem Inv.unset{i:Nat}{n:Str}{m:Str→Option Value}{v:Option Value}{h':Heap}{d4:Nat}(I:Inv X pins σ H s)(hN:X.N.Nodup)(hi:X.N[i]?=some n)(hl:∀(i:Nat)(x:Str)(v:V),X.N[i]?=some x→ σ[i]?=some (some v)→fh X.env.scope x→∃u,RelV v u∧Look X.env s.heap m x u)(aI:s.heap.Ns X.env.locals m)(pV:h'.Ns X.env.locals (fun y=>if y=n then v else m y))(hs:Heap.SameBut X.env.locals s.heap h'):Inv X pins (σ.set i none) H { s with heap:=h',toks:=d4 }:=by
 have ne:∀{b:Addr}{o:Obj},X.dO.heap.get? b=some o→b≠X.env.locals:=fun{b o} e=>Nat.ne_of_lt (Nat.lt_of_lt_of_le (Heap.lt_size e) I.ok.above);have cell:∀x c v,X.env.cells.lookup x=some c→s.heap.IsCell c v→h'.IsCell c v:=fun x c v e⟨o,ho,hd⟩=>⟨o,(hs.2 c (I.lC x c e)).trans ho,hd⟩;refine⟨I.ok,I.os,I.bare,⟨fun b o e n hb hx=>(hs.2 b (ne e)).trans (I.base.keep b o e n hb hx),fun b o e n hb hx=>?_,I.base.free,fun b o e hx=>?_,I.base.hD,I.base.gB,I.base.hC⟩,⟨_,pV,fun j y iE ai au bB=>?_⟩,fun y c e=>?_,I.free,I.hW,fun p hp=>?_,fun b aR e=>?_,by simpa using I.len⟩
 ·obtain⟨b1,ai⟩:=I.base.slot b o e n hb hx;exact⟨b1,(hs.2 b (ne e)).trans ai⟩
 ·obtain⟨bw,ai⟩:=I.base.there b o e hx;exact⟨bw,(hs.2 b (ne e)).trans ai⟩
 ·have b4:j≠i:=by
    rintro rfl;rw[List.getElem?_set]at au
    split at au
    ·split at au<;>cases au
    ·exact absurd rfl ‹_›
  rw[List.getElem?_set_ne (Ne.symm b4)]at au;obtain⟨u,r,l⟩:=hl j y iE ai au bB;refine⟨u,r,?_⟩;rcases l with⟨k,q⟩|⟨k,c,q,z⟩
  ·refine .inl ⟨k,?_⟩;show(if y=n then v else m y)=some u;rw[if_neg (fun z:y=n=>b4 (wI hN ai (by rw[z];exact hi)))];exact q
  ·exact .inr ⟨k,c,q,cell _ _ _ q z⟩
 ·obtain⟨v,z⟩:=I.cell y c e;exact⟨v,cell y c v e z⟩
 ·obtain⟨e,n,ne',gL,d⟩:=I.pin p hp;exact⟨(hs.2 _ ne').trans e,n,ne',gL,d⟩
 ·have eM:H X.env.locals=none:=I.free;refine(I.bc b aR e).jF (fun c eF hc q=>(hs.2 c ?_).trans q) (fun _ q=>q) fun _ _ q=>q;rintro rfl;rcases hc with rfl|hc
  ·rw[eM]at e;cases e
  ·rw[eM]at hc;cases hc
theorem tY{M:Model}{A:Around}{E:Value→Shared→Prop}{i:Nat}{n:Str}{pos:Pos}{Q:Unit→Shared→Prop}(I:Inv X pins σ H s)(hN:X.N.Nodup)(hi:X.N[i]?=some n)(hl:X.env.scope.names.lookup n=some .local)(h:∀s',Inv X pins (σ.set i none) H s'→Q () s'):wpAny M A (do bindName X.env n .none;unbindBehindTheSuite X.env n pos) Q E s:=by obtain⟨m,aI,n5⟩:=id I.loc;exact wpAny_nameGoes_keeps hl aI (by rw[I.ok.kind];rfl) fun h' v pV hs=>h _ (I.unset hN hi n5 aI pV hs)
end
noncomputable def OZ(i:Nat)(te:TE)(E:cn)(ts:dR):dR:=fun D σ H=>te σ H (fun _ H1=>D.bj σ H1)∧∀(C:Value)(a:Addr)(H':J),E C (some a) H'→H' a=none→
 ts { bj:=fun σ2 aQ=>D.bj (σ2.set i none) aQ,dB:=D.dB,d9:=fun σ2 aQ=>D.d9 (σ2.set i none) aQ,b3:=fun σ2 aQ=>D.b3 (σ2.set i none) aQ } (σ.set i (some (.ref a))) (upd H' a (mL a C))
section
variable{X:aC}{i:Nat}{x n:Str}{W:Addr}{e:Expr}{te:TE}{E:cn}{nU:Stmt}{oS:List Stmt}{ts:dR}{lV np hp pos:Pos}
theorem MV(hN:X.N.Nodup)(he:yq X e te E)(hm:X.mg x=some (.ref W))(vO:∀C a H,E C a H→PySem.W.exmOne X.K C (.ref W)=some true)(hs:∀a,eT (X.marked a) (nU::oS) ts)(hi:X.N[i]?=some n:=by rfl)(hl:X.env.scope.names.lookup n=some .local:=by rfl)(hst:X.stack=X.env::X.outer:=by rfl)(j5:X.env.frame=some X.env.locals:=by rfl)(hex:X.ex=[]:=by rfl)(hg:cA X x:=by rfl)(hd:(x==("__debug__" :Str))=false:=by decide)(vX:swapsWith e none lV.line X.env=pure false:=by rfl) :
  cP X (.Try [.Expr e lV] [.ExceptHandler (some (.Name x np)) (some n) (nU::oS) hp] [] [] pos) (OZ i te E ts):=by
 intro pins s σ H D I h;obtain⟨h1,h2⟩:=h;refine wpAny_Try_except (wpAny_execs_cons (wpAny_Expr_any (wpAny_mono (he pins s σ H _ I h1) (fun v s1 hv=>?_) (fun y s' cF=>?_)) I.quiet vX))
 ·obtain⟨y,H1,aT,ao,a5⟩:=hv;exact wpAny_execs_nil (wpAny_execs_nil ⟨σ,H1,aT,a5⟩)
 ·obtain⟨H1,s1,aT,a,C,fj,B,H',rfl,eu,hE⟩:=cF;have j0:=eu.j0;rw[hst]at j0;have iU:X.A.frames=some (X.env::X.outer):=by rw[←hst];exact aT.ok.frames
  refine wpAny_looks_onW iU j5 j0 fun AI HS DY=>?_;refine wpAny_landsW HS fun sC se DZ=>?_;have kl:Inv X pins σ H' { s' with heap:=sC }:=eu.inv aT se.1 (by rw[hst];exact se.2.2.1) (DY.trans DZ);refine wpAny_handleBy_cons (codeAny_handlers_test (oa (X:=X.marked a) (kl.marked a) hg hm ?_ hd)) (by intro q;cases q);obtain⟨aR,Ie,Ig⟩:=se.there;have LT:PySem.W.Looks (model X.prog X.w) sC (typeOf (.ref a)) C:=by rw[←Ig];exact(PySem.W.Looks.ld Ie).andThen .now
  refine(PySem.W.exm_one (K:=X.K) kl.dJ LT (vO C _ H' hE)).here ?_;refine codeAny_handlers_suite_as ?_;refine lands_againW se fun ID vu PD=>?_;have ml:Inv X pins σ (upd H' a (mL a C)) { s' with heap:=ID }:=eu.Ph aT hex vu.1 (by rw[hst];exact vu.2.2.1) ((DY.trans DZ).trans PD) (by obtain⟨o,q,c⟩:=vu.there;exact⟨o,q,c⟩);refine xJ (X:=X) (v:=.ref a) ml hN hi (.inl hl) rfl (fun dC gW=>?_) (.inr hl);refine wpAny_mono (hs a pins dC _ _ _ (gW.marked a) (h2 C a H' hE eu.ha)) (fun Hv jE oJ=>?_) fun _ _ z=>z.elim;cases Hv with
  |next=>obtain⟨σ',uz,bk,q⟩:=oJ;exact tY (bk.unmarked I.ok) hN hi hl fun kc mm=>⟨_,_,mm,q⟩
  |brk=>obtain⟨σ',uz,bk,q⟩:=oJ;exact tY (bk.unmarked I.ok) hN hi hl fun kc mm=>⟨_,_,mm,q⟩
  |cont=>obtain⟨σ',uz,bk,q⟩:=oJ;exact tY (bk.unmarked I.ok) hN hi hl fun kc mm=>⟨_,_,mm,q⟩
  |ret u=>obtain⟨v,σ',uz,bk,r,q⟩:=oJ;exact tY (bk.unmarked I.ok) hN hi hl fun kc mm=>⟨v,_,_,mm,r,q⟩
end
noncomputable def g0(env:Env):List (Str×NameKind)→List (Str×Addr)→List (Str×Addr)
 |[],cs=>cs
 |(x,k)::r,cs=>g0 env r (if k==.free then(x,(env.cells.lookup x).getD 0)::cs else cs)
theorem ze{env:Env}:∀(names:List (Str×NameKind))(cs:List (Str×Addr)),(∀p∈names,p.2=.free→∃c,env.cells.lookup p.1=some c)→
 (forIn (m:=Sem) names cs fun(x:Str×NameKind) cs=>if(x.2==NameKind.free)=true then do
   let a ←cellOf env x.1
   pure (ForInStep.yield ((x.1,a)::cs))else pure (ForInStep.yield cs))=pure (g0 env names cs)
 |[],cs,_=>rfl
 |(x,k)::r,cs,h=>by
  rw[List.forIn_cons];have ck:=ze (env:=env) r;by_cases hk:k=.free
  ·subst hk;obtain⟨c,hc⟩:=h (x,.free) List.mem_cons_self rfl;have ai:cellOf env x=pure c:=by unfold cellOf;rw[hc]
   simp only[beq_self_eq_true,if_true,g0,ai,hc,Option.getD_some,pure_bind];exact ck _ fun p hp=>h p (List.mem_cons_of_mem _ hp)
  ·have hb:(k==NameKind.free)=false:=by simpa using hk
   simp only[hb,Bool.false_eq_true,if_false,g0,pure_bind];exact ck _ fun p hp=>h p (List.mem_cons_of_mem _ hp)
theorem FA{env:Env}{scope:Scope}(h:∀p∈scope.names,p.2=.free→∃c,env.cells.lookup p.1=some c):closureFor scope env=pure (g0 env scope.names []):=by
 have e:=ze (env:=env) scope.names [] h;unfold closureFor
 refine Eq.trans (b:=(forIn (m:=Sem) scope.names [] fun(x:Str×NameKind) cs=>if(x.2==NameKind.free)=true then do
   let a ←cellOf env x.1
   pure (ForInStep.yield ((x.1,a)::cs))else pure (ForInStep.yield cs))>>=pure) rfl ?_
 rw[e];rfl
theorem zd{env:Env}{x:Str}:∀(names:List (Str×NameKind))(cs:List (Str×Addr)),(∀p∈names,p.2=.free→∃c,env.cells.lookup p.1=some c)→
  (g0 env names cs).lookup x=if(x,NameKind.free)∈names then env.cells.lookup x else cs.lookup x
 |[],cs,_=>by simp[g0]
 |(y,k)::r,cs,h=>by
  rw[g0,zd r _ fun p hp=>h p (List.mem_cons_of_mem _ hp)];by_cases hm:(x,NameKind.free)∈r
  ·rw[if_pos hm,if_pos (List.mem_cons_of_mem _ hm)]
  ·rw[if_neg hm];by_cases hk:k=.free
   ·subst hk;obtain⟨c,hc⟩:=h (y,.free) List.mem_cons_self rfl;by_cases hx:x=y
    ·subst hx;rw[if_pos List.mem_cons_self];simp[List.lookup_cons,hc]
    ·have nm:¬(x,NameKind.free)∈(y,NameKind.free)::r:=fun z=>by
       rcases List.mem_cons.mp z with e|e
       ·exact hx (by injection e)
       ·exact hm e
     rw[if_neg nm];have hb:(x==y)=false:=by simpa using hx
     simp[List.lookup_cons,hb]
   ·have hb:(k==NameKind.free)=false:=by simpa using hk
    have nm:¬(x,NameKind.free)∈(y,k)::r:=fun z=>by
     rcases List.mem_cons.mp z with e|e
     ·exact hk (by injection e with _ au;exact au.symm)
     ·exact hm e
    rw[if_neg nm];simp[hb]
theorem FC {prog:Program} {w:World} {A:Around} {R:Result→Shared→Prop} {s:Shared} {elt target iter:Expr} {ifs:List Expr} {scope:Scope} {pos:Pos} {it acc:Value} {env:Env} (I:Nat→Shared→Prop)(turn:∀n s,I n s→wpAny (model prog w) A (pyNext it) (fun r cz=>match r with
    |none=>R (.ok .next) cz
    |some v=>wpAny (model prog w) A (letOwnedTupleGo target it v) (fun _ Df=>wpAny (model prog w) A (assign target env v) (fun _ l2=>
       wpAny (model prog w) A (forIn ifs true fun c r=>if r=true then do let ok ←isTrue c env (eval c env);pure (ForInStep.yield ok)else pure (ForInStep.yield r)) (fun ok q0=>
        if ok=true then wpAny (model prog w) A (eval elt env) (fun x tJ=>
         wpAny (model prog w) A (call (.builtin "list.append") [acc,x]) (fun _ Dg=>∃m,m<n∧I m Dg) (notedBy (model prog w) A env fun e s'=>R (.error e) s') tJ) (notedBy (model prog w) A env fun e s'=>R (.error e) s') q0
        else ∃m,m<n∧I m q0) (notedBy (model prog w) A env fun e s'=>R (.error e) s') l2) (notedBy (model prog w) A env fun e s'=>R (.error e) s') Df) (notedBy (model prog w) A env fun e s'=>R (.error e) s') cz) (notedBy (model prog w) A env fun e s'=>R (.error e) s') s)
  (n:Nat) (h:I n s):codeAny (model prog w) A (.compLoop (.ListComp elt [⟨target,iter,ifs,0⟩] scope pos) 0 it acc env) R s:=by
 refine codeAny_loop rfl I (fun n s kG=>?_) n h;show wpAny _ A ((compTurn (.ListComp elt [⟨target,iter,ifs,0⟩] scope pos) 0 it acc env).onRaise (fun x=>do noteFrame x env;theTreesLotGoes x)) _ _ s;refine wpAny_noted ?_;rw[compTurn_list];refine wpAny_bind (wpAny_standAt (wpAny_bind (wpAny_mono (turn n s kG) (fun r cz pX=>?_) fun _ _ h'=>h')));cases r with
 |none=>exact wpAny_pure pX
 |some v=>
  refine wpAny_bind (wpAny_mono pX (fun _ Df IB=>?_) fun _ _ h'=>h');refine wpAny_bind (wpAny_mono IB (fun _ l2 IC=>wpAny_bind (wpAny_mono IC (fun ok q0 AH=>?_) fun _ _ h'=>h')) fun _ _ h'=>h');cases ok with
  |false=>exact wpAny_pure ⟨rfl,AH⟩
  |true=>exact wpAny_bind (wpAny_bind (wpAny_mono AH (fun x tJ AI=>wpAny_bind (wpAny_mono AI (fun _ Dg sC=>wpAny_pure (wpAny_pure ⟨rfl,sC⟩)) fun _ _ h'=>h')) fun _ _ h'=>h'))
abbrev eA(X:aC)(scope:Scope)(N:List Str)(cl:List (Str×Addr))(C:Addr)(s:Shared)(H:J)(aU:List Addr):aC where
 prog:=X.prog
 w:=X.w
 K:=X.K
 mg:=X.mg
 base:=X.base
 A:=X.A
 N:=N
 dO:=s
 mj:=H
 env:=compEnvC scope cl C X.env
 outer:=X.stack
 stack:=X.stack
 ex:=aU
 calm:=X.calm
 fn:=fun _=>false
 lW:=[]
 xe:=fun _ _=>False
def jX(nl:Nat)(caps:List Nat)(σ :St):St:=List.replicate nl none++caps.map fun j=> σ.getD j none
def sG:Option NameKind→Bool
 |some .cell=>true
 |some .free=>true
 |_=>false
structure me(sc:Scope)(nM:List Str)(scope:Scope)(N:List Str)(nl:Nat)(caps:List Nat):Prop where
 kind:scope.kind=.function
 BX:∀x∈scope.names,x.2≠.cell
 locs:∀x∈scope.names,x.2=.local→scope.names.lookup x.1=some .local
 free:∀x∈scope.names,x.2=.free→sG (sc.names.lookup x.1)=true
 len:N.length=nl+caps.length
 Fw:∀k j,caps[k]?=some j→∃x,nM[j]?=some x∧N[nl+k]?=some x∧scope.names.lookup x=some .free∧sG (sc.names.lookup x)=true
noncomputable def r0(sc:Scope)(nM:List Str)(scope:Scope)(N:List Str)(nl:Nat)(caps:List Nat):Bool:=
 (scope.kind==.function)&&scope.names.all (fun x=>x.2 !=.cell&&(x.2 !=.local||scope.names.lookup x.1==some .local)&&(x.2 !=.free||sG (sc.names.lookup x.1)))&&
 (N.length==nl+caps.length)&&(caps.zipIdx.all fun wc=>match nM[wc.1]? with
   |none=>false
   |some x=>N[nl+wc.2]?==some x&&scope.names.lookup x==some .free&&sG (sc.names.lookup x))
theorem me.of{sc:Scope}{nM:List Str}{scope:Scope}{N:List Str}{nl:Nat}{caps:List Nat}(h:r0 sc nM scope N nl caps=true):me sc nM scope N nl caps:=by
 unfold r0 at h;rw[Bool.and_eq_true,Bool.and_eq_true,Bool.and_eq_true]at h;obtain⟨⟨⟨h1,h2⟩,h3⟩,h4⟩:=h;rw[List.all_eq_true]at h2 h4;refine⟨eq_of_beq h1,fun x hx=>?_,fun x hx e=>?_,fun x hx e=>?_,eq_of_beq h3,fun k j e=>?_⟩
 ·have:=h2 x hx;rw[Bool.and_eq_true,Bool.and_eq_true]at this;simpa using this.1.1
 ·have:=h2 x hx;rw[Bool.and_eq_true,Bool.and_eq_true]at this;have q:=this.1.2;rw[e]at q;simpa using q
 ·have:=h2 x hx;rw[Bool.and_eq_true,Bool.and_eq_true]at this;have q:=this.2;rw[e]at q;simpa using q
 ·have m:(j,k)∈caps.zipIdx:=by
    rw[List.mem_zipIdx_iff_getElem?];exact e
  have q:=h4 _ m;dsimp only at q
  split at q
  ·cases q
  ·rename_i x ex;rw[Bool.and_eq_true,Bool.and_eq_true]at q;exact⟨x,ex,eq_of_beq q.1.1,eq_of_beq q.1.2,q.2⟩
theorem w2{scope:Scope}{env:Env}{x:Str}{k:NameKind}(h:(relabel scope env).names.lookup x=some k):(x,k)∈scope.names∨(k=.cell∧(x,NameKind.free)∈scope.names):=by
 have m:=PySem.mem_of_lookup h;obtain⟨⟨y,q⟩,cF,e⟩:=List.mem_map.mp m;dsimp only at e
 split at e
 ·rename_i hc;injection e with ai au;subst ai;have hf:q=.free:=by
   rw[Bool.and_eq_true,Bool.and_eq_true]at hc;exact eq_of_beq hc.1.1
  subst hf;exact .inr ⟨au.symm,cF⟩
 ·injection e with ai au;subst ai;subst au;exact .inl cF
noncomputable def xR(ig:TI)(g:f_)(fZ:TT)(te:TE)(nl:Nat)(caps:List Nat):TE:=fun σ H Q=>
 ig σ H fun bk H1=>∀acc,H1 acc=none→∃W:Nat→Nat→St→J→Prop,(∃m,W 0 m (jX nl caps σ) (upd H1 acc (.lst [])))∧
  ∀i m σ' H',W i m σ' H'→(bk.stop i H'∧Q (.ref acc) H')∨
   (bk.go i H'∧∀x aQ,bk.jf i H' x aQ→g x σ' aQ fun σ2 cN=>fZ σ2 cN fun b f7=>
      if b=true then te σ2 f7 fun y gV=>∃ys,gV acc=some (.lst ys)∧ys.length<sizeLine∧∃ew,ew<m∧W (i+1) ew σ2 (upd gV acc (.lst (ys++[y])))
      else ∃ew,ew<m∧W (i+1) ew σ2 f7)
section
variable{X:aC}{elt target iter:Expr}{ifs:List Expr}{scope:Scope}{pos:Pos}{N:List Str}{nl:Nat}{caps:List Nat}{ig:TI}{g:f_}{fZ:TT}{te:TE}
noncomputable def mu(X:aC)(ifs:List Expr)(t:TT):Prop:=
 ∀(pins:List (Addr×Obj))(s:Shared)(σ :St)(H:J)(Q:Bool→J→Prop),Inv X pins σ H s→t σ H Q→
  wpAny (model X.prog X.w) X.A (forIn ifs true fun c r=>if r=true then do let ok ←isTrue c X.env (eval c X.env);pure (ForInStep.yield ok)else pure (ForInStep.yield r)) (rG X pins σ Q) X.xe s
def O0:TT:=fun _ H Q=>Q true H
theorem M0:mu X [] O0:=fun _ _ _ H _ I h=>wpAny_tests_nil ⟨H,I,h⟩
theorem M1{c:Expr}{t:TT}(h:dQ X c t):mu X [c] t:=fun pins s σ H Q I hw=>wpAny_tests_one (h pins s σ H Q I hw)
theorem JD{pins:List (Addr×Obj)}{σ :St}{H:J}{s s4:Shared}{cl:List (Str×Addr)}{aU:List Addr}(S:me X.env.scope X.N scope N nl caps)(I:Inv X pins σ H s)(lJ:∀x,cl.lookup x=if(x,NameKind.free)∈scope.names then X.env.cells.lookup x else none)(hf:∀b∈aU,hJ X pins H b)(gD:∀b∈aU,b<s.heap.objs.size)(Ij:s4.os=s.os)(hg:s4.gens=s.gens)(aI:∃m,s4.heap.Ns s.heap.objs.size m)(hk:∀b o,s.heap.get? b=some o→s4.heap.get? b=some o) :
  Inv (eA X scope N cl s.heap.objs.size s H aU) [] (jX nl caps σ) H s4:=by
 have pz:∀x c,cl.lookup x=some c→X.env.cells.lookup x=some c:=fun x c e=>by
  rw[lJ]at e
  split at e
  ·exact e
  ·cases e
 refine⟨⟨I.ok.mod,?_,I.ok.glob,I.ok.blt,Nat.le_refl _,fun x y c h1 h2=>I.ok.inj x y c (pz x c h1) (pz y c h2),fun x hx=>?_,fun x c z=>?_,I.ok.hd,I.ok.frames,.inl rfl,fun b hb=>⟨Nat.ne_of_lt (gD b hb),fun x c e=>(hf b hb).2.2.2.2.1 x c (pz x c e)⟩,I.bs,Nat.le_trans I.ok.kA I.ja,fun b o e hb=>?_,fun b hb hs=>?_,I.stack,I.xI⟩,
  Ij,?_,ez.kept hk,?_,fun x c e=>?_,I.bc.fresh (Nat.le_refl _),fun x c e=>I.hW x c (pz x c e),fun p hp=>absurd (show p∈([]:List (Addr×Obj))from hp) (by simp),I.bc.kept hk,?_⟩
 ·show(relabel scope X.env).kind=.function;exact S.kind
 ·have hx:(relabel scope X.env).names.lookup x=some .cell∨(relabel scope X.env).names.lookup x=some .free:=hx;have hm:(x,NameKind.free)∈scope.names:=by
   rcases hx with h|h
   ·rcases w2 h with m|⟨_,m⟩
    ·exact absurd rfl (S.BX _ m)
    ·exact m
   ·rcases w2 h with m|⟨e,_⟩
    ·exact m
    ·cases e
  have aH:=S.free _ hm rfl;have hc:∃c,X.env.cells.lookup x=some c:=by
   apply I.ok.has x;show X.env.scope.names.lookup x=some .cell∨X.env.scope.names.lookup x=some .free;cases e:X.env.scope.names.lookup x with
   |none=>rw[e]at aH;cases aH
   |some k=>
    rw[e]at aH
    cases k<;>first
     |exact .inl rfl
     |exact .inr rfl
     |cases aH
  obtain⟨c,e⟩:=hc;exact⟨c,by show cl.lookup x=some c;rw[lJ,if_pos hm];exact e⟩
 ·cases z
 ·rcases(hf b hb).2.2.2.1 with z|z
  ·exact I.ok.oF b o e z
  ·exact absurd (Nat.lt_of_lt_of_le (Heap.lt_size (I.ok.bs b o e).1) z) (Nat.lt_irrefl _)
 ·rcases List.mem_cons.mp (I.tI b hs)with z|z
  ·exact(hf b hb).2.1 z
  ·exact(hf b hb).2.2.1 z
 ·rw[hg];exact I.bare
 ·obtain⟨m,aI⟩:=aI;refine⟨m,aI,fun i x v h1 h2 h3=>?_⟩;have hN:N[i]?=some x:=h1;unfold jX at h2;by_cases hi:i<nl
  ·rw[List.getElem?_append_left (by simpa using hi),List.getElem?_replicate,if_pos hi]at h2;cases h2
  ·rw[List.getElem?_append_right (by simpa using hi),List.length_replicate,List.getElem?_map]at h2;cases e:caps[i-nl]? with
   |none=>rw[e]at h2;cases h2
   |some j=>
    rw[e]at h2;have h2: σ.getD j none=some v:=Option.some.inj h2;obtain⟨y,ai,au,pD,gd⟩:=S.Fw _ _ e;have bB:(y,NameKind.free)∈scope.names:=PySem.mem_of_lookup pD;have c2:fh X.env.scope y:=by
     cases q:X.env.scope.names.lookup y with
     |none=>rw[q]at gd;cases gd
     |some k=>
      rw[q]at gd
      cases k<;>first
       |exact .inr (.inl q)
       |exact .inr (.inr q)
       |cases gd
    have iO:nl+(i-nl)=i:=by omega
    rw[iO,hN]at au;cases au;have hs: σ[j]?=some (some v):=by
     rw[List.getD_eq_getElem?_getD]at h2;cases q: σ[j]? with
     |none=>rw[q]at h2;cases h2
     |some o=>rw[q]at h2;exact congrArg some h2
    obtain⟨m0,_,hl⟩:=I.loc;obtain⟨u,r,l⟩:=hl j x v ai hs c2;refine⟨u,r,.inr ⟨?_,?_⟩⟩
    ·show(relabel scope X.env).names.lookup x=some .cell∨(relabel scope X.env).names.lookup x=some .free;rcases h3 with h3|h3|h3
     ·have h3:(relabel scope X.env).names.lookup x=some .local:=h3;rcases w2 h3 with z|⟨z,_⟩
      ·have aX:scope.names.lookup x=some .local:=S.locs _ z rfl;rw[aX]at pD;cases pD
      ·cases z
     ·exact .inl h3
     ·exact .inr h3
    ·have aH:X.env.scope.names.lookup x≠some .local:=fun z=>by rw[z]at gd;cases gd
     rcases l with⟨z,_⟩|⟨_,c,a8,aX⟩
     ·exact absurd z aH
     ·refine⟨c,?_,aX.keeps hk⟩;show cl.lookup x=some c;rw[lJ,if_pos bB];exact a8
 ·obtain⟨v,z⟩:=I.cell x c (pz x c e);exact⟨v,z.keeps hk⟩
 ·show(jX nl caps σ).length=N.length;unfold jX;rw[List.length_append,List.length_replicate,List.length_map,S.len]
theorem JF{pins:List (Addr×Obj)}{σ σ' :St}{H H':J}{s s':Shared}{cl:List (Str×Addr)}{aU:List Addr}{h':Heap}(I:Inv X pins σ H s)(hf:∀b∈aU,hJ X pins H b)(bk:Inv (eA X scope N cl s.heap.objs.size s H aU) [] σ' H' s')(hs:Heap.SameBut s.heap.objs.size s'.heap h'):Inv X pins σ H' { s' with heap:=h' }:=by
 have ne:∀b o,s.heap.get? b=some o→b≠s.heap.objs.size:=fun b o e=>Nat.ne_of_lt (Heap.lt_size e);have u:ez (c9 X.stack) aU H H' s.heap s'.heap:=bk.base;have fr:H' s.heap.objs.size=none:=bk.free;refine I.y_ (ch:=aU) (s':={ s' with heap:=h' }) bk.os ⟨fun b o e n hb hx=>(hs.2 b (ne b o e)).trans (u.keep b o e n hb hx),fun b o e n hb hx=>?_,u.free,fun b o e hx=>?_,u.hD,u.gB,u.hC⟩ (fun b o e=>?_) bk.bare fun b hb=>?_
 ·obtain⟨b1,q⟩:=u.slot b o e n hb hx;exact⟨b1,(hs.2 b (ne b o e)).trans q⟩
 ·obtain⟨bw,q⟩:=u.there b o e hx;exact⟨bw,(hs.2 b (ne b o e)).trans q⟩
 ·refine(bk.bc b o e).jF (fun c v hc q=>(hs.2 c ?_).trans q) (fun _ q=>q) fun _ _ q=>q;rintro rfl;rcases hc with z|z
  ·rw[←z,fr]at e;cases e
  ·rw[fr]at z;cases z
 ·obtain⟨_,f1,_,eC,f4,gf⟩:=hf b hb;exact⟨eC,f1,f4,gf⟩
theorem FD {pins:List (Addr×Obj)} {σ :St} {s2:Shared} {aQ:J} {it:Addr} {aU:List Addr} {fw:Nat→Heap→Prop} {bk:It} {E:Value→Shared→Prop} {Q:J→Prop} {W:Nat→Nat→St→J→Prop} {m0:Nat}(S:me X.env.scope X.N scope N nl caps) (hc:X.calm=true) (bZ:Inv X pins σ aQ s2) (T:Turn X.prog X.w X.K target bk aU it fw) (kg:fw 0 s2.heap) (f2:∀b∈aU,hJ X pins aQ b)(hg:∀cl C s H aU,ik (eA X scope N cl C s H aU) target g) (ht:∀cl C s H aU,mu (eA X scope N cl C s H aU) ifs fZ) (he:∀cl C s H aU,aP (eA X scope N cl C s H aU) elt te)(nr:W 0 m0 (jX nl caps σ) (upd aQ s2.heap.objs.size (.lst [])))(turn:∀i m σ' H',W i m σ' H'→(bk.stop i H'∧Q H')∨
    (bk.go i H'∧∀x cN,bk.jf i H' x cN→g x σ' cN fun σ2 f7=>fZ σ2 f7 fun b gV=>
       if b=true then te σ2 gV fun y nE=>∃ys,nE s2.heap.objs.size=some (.lst ys)∧ys.length<sizeLine∧∃ew,ew<m∧W (i+1) ew σ2 (upd nE s2.heap.objs.size (.lst (ys++[y])))
       else ∃ew,ew<m∧W (i+1) ew σ2 gV))
  (pg:Value→Addr→Result→Shared→Prop)
  (HG:∀(C:Addr) s' H',(∃m,s'.heap.Ns C m)→hJ X pins H' C→(∀h',Heap.SameBut C s'.heap h'→Inv X pins σ H' { s' with heap:=h' })→Q H'→pg (.ref s2.heap.objs.size) C (.ok .next) s') :
  wpAny (model X.prog X.w) X.A (newList []) (fun acc q0=>wpAny (model X.prog X.w) X.A (newFunctionEnv scope X.env.globals (g0 X.env scope.names []) [] X.env.qual none .none (some X.env)) (fun zc tJ=>
   codeAny (model X.prog X.w) X.A (.compStart (.ListComp elt [⟨target,iter,ifs,0⟩] scope pos) 0 (.ref it) acc { zc with scope:=relabel scope X.env }) (pg acc zc.locals) tJ) E q0) E s2:=by
 have sv:∀p∈scope.names,p.2=.free→∃c,X.env.cells.lookup p.1=some c:=fun p hp e=>by
  have q:=S.free p hp e;apply bZ.ok.has p.1;show X.env.scope.names.lookup p.1=some .cell∨X.env.scope.names.lookup p.1=some .free;cases au:X.env.scope.names.lookup p.1 with
  |none=>rw[au]at q;cases q
  |some k=>
   rw[au]at q
   cases k<;>first
    |exact .inl rfl
    |exact .inr rfl
    |cases q
 have lJ:∀x,(g0 X.env scope.names []).lookup x=if(x,NameKind.free)∈scope.names then X.env.cells.lookup x else none:=fun x=>zd scope.names [] sv
 have Rm:aQ s2.heap.objs.size=none:=bZ.bc.fresh (Nat.le_refl _);refine wpAny_newObj_type (wpAny_newFunctionEnv S.BX (by intro y cF;simp at cF) (fun pX vP vW=>?_) S.kind);dsimp only at vP vW ⊢;have da:Inv X pins σ (upd aQ s2.heap.objs.size (.lst [])) { s2 with heap:=s2.heap.push { cls:=.type "list",dict:=none,data:=.seq ([]:List Value).toArray } }:=bZ.wx (its:=[]) (ys:=[]) (t':=s2.toks) .nil (Nat.zero_le _);generalize vV:({ s2 with heap:=s2.heap.push { cls:=.type "list",dict:=none,data:=.seq ([]:List Value).toArray } }:Shared)=s3 at da;have vL:s2.heap.push { cls:=.type "list",dict:=none,data:=.seq ([]:List Value).toArray }=s3.heap:=by rw[←vV]
 rw[vL]at vP vW ⊢;have B2:∀b o,s2.heap.get? b=some o→s3.heap.get? b=some o:=fun b o e=>by rw[←vL];exact Heap.get?_push_of_some _ e
 have OA:s3.heap.objs.size=s2.heap.objs.size+1:=by rw[←vL,Heap.size_push]
 have wg:∀b o,s3.heap.get? b=some o→pX.get? b=some o:=fun b o e=>vW.extBut b o (Nat.ne_of_lt (Heap.lt_size e)) (Heap.get?_push_of_some _ e);have AA:∀b∈aU,b<s2.heap.objs.size:=fun b hb=>by obtain⟨o,e,_⟩:=T.obj 0 _ kg b hb;exact Heap.lt_size e
 have eC:∀b∈aU,hJ X pins (upd aQ s2.heap.objs.size (.lst [])) b:=fun b hb=>by obtain⟨fj,a1⟩:=f2 b hb;exact⟨by rw[cf (Nat.ne_of_lt (AA b hb))];exact fj,a1⟩
 have AB:∀b∈aU,b<s3.heap.objs.size:=fun b hb=>by rw[OA];exact Nat.lt_succ_of_lt (AA b hb)
 have loop:∀s4:Shared,s4={ s3 with heap:=pX,toks:=s2.toks+([]:List (Str×Value)).length }→
   codeAny (model X.prog X.w) X.A (.compLoop (.ListComp elt [⟨target,iter,ifs,0⟩] scope pos) 0 (.ref it) (.ref s2.heap.objs.size) (compEnvC scope (g0 X.env scope.names []) s3.heap.objs.size X.env))
    (pg (.ref s2.heap.objs.size) s3.heap.objs.size) s4:=by
  intro s4 pW;have iI:Inv (eA X scope N (g0 X.env scope.names []) s3.heap.objs.size s3 (upd aQ s2.heap.objs.size (.lst [])) aU) [] (jX nl caps σ) (upd aQ s2.heap.objs.size (.lst [])) s4:=
   JD S da lJ eC AB (by rw[pW]) (by rw[pW]) ⟨_,by rw[pW];exact vP⟩ (by rw[pW];exact wg)
  have OO:fw 0 s4.heap:=T.keep 0 _ _ kg fun b hb o e=>by rw[pW];exact wg b o (B2 b o e)
  generalize iW:eA X scope N (g0 X.env scope.names []) s3.heap.objs.size s3 (upd aQ s2.heap.objs.size (.lst [])) aU=B at iI;have stat:∀{H':J},(∀b∈aU,H' b=none)→∀b∈aU,hJ B [] H' b:=fun{H'} aI b hb=>by
   subst iW;obtain⟨fj,a1,a2,jl,yz,QP⟩:=eC b hb;refine⟨aI b hb,Nat.ne_of_lt (AB b hb),fun z=>?_,.inl hb,fun x c e=>?_,fun p hp=>absurd (show p∈([]:List (Addr×Obj))from hp) (by simp)⟩
   ·rcases List.mem_cons.mp (da.tI b z)with q|q
    ·exact a1 q
    ·exact a2 q
   ·have e:(g0 X.env scope.names []).lookup x=some c:=e;rw[lJ]at e
    split at e
    ·exact yz x c e
    ·cases e
  have HW:ik B target g:=by subst iW;exact hg _ _ _ _ _
  have Ir:mu B ifs fZ:=by subst iW;exact ht _ _ _ _ _
  have HR:aP B elt te:=by subst iW;exact he _ _ _ _ _
  have pF:B.prog=X.prog:=by subst iW;rfl
  have hT:B.w=X.w:=by subst iW;rfl
  have zq:B.K=X.K:=by subst iW;rfl
  have vd:B.A=X.A:=by subst iW;rfl
  have ve:B.env=compEnvC scope (g0 X.env scope.names []) s3.heap.objs.size X.env:=by subst iW;rfl
  have zt:B.calm=true:=by subst iW;exact hc
  have Hg:B.xe=fun _ _=>False:=by subst iW;rfl
  rw[←pF,←hT,←vd,←ve];refine FC (fun n s'=>∃i σ' H',Inv B [] σ' H' s'∧fw i s'.heap∧(∀b∈aU,H' b=none)∧W i n σ' H') ?_ m0 ⟨0,_,_,iI,OO,fun b hb=>(eC b hb).1,nr⟩;rintro n s5 ⟨i,σ5,gV,kl,oR,sg,PF⟩;have away:∀{α:Type}{t:Sem α}{yu:α→Shared→Prop}{EE:Value→Shared→Prop}{kX:Shared},wpAny (model B.prog B.w) B.A t yu B.xe kX→wpAny (model B.prog B.w) B.A t yu EE kX:=fun h=>wpAny_mono h (fun _ _ q=>q) fun e s' z=>by rw[Hg]at z;exact z.elim
  rcases turn i n σ5 gV PF with⟨stop,q⟩|⟨go,step⟩
  ·have d:=T.done B pF hT zq zt i [] s5 σ5 gV (notedBy (model B.prog B.w) B.A B.env fun e s'=>pg (.ref s2.heap.objs.size) s3.heap.objs.size (.error e) s') kl (stat sg) oR stop;rw[←pF,←hT]at d;refine bp d fun r fu⟨hr,ml⟩=>?_;subst hr;refine HG _ fu gV ?_ (da.n2 (Nat.le_refl _) ?_) (fun h' vT=>?_) q
   ·obtain⟨m,aI,_⟩:=ml.loc;rw[ve]at aI;exact⟨m,aI⟩
   ·have z:=ml.free;rw[ve]at z;exact z
   ·subst iW;exact JF da eC ml vT
  ·have d:=T.item B pF hT zq zt i [] s5 σ5 gV (notedBy (model B.prog B.w) B.A B.env fun e s'=>pg (.ref s2.heap.objs.size) s3.heap.objs.size (.error e) s') kl (stat sg) oR go;rw[←pF,←hT]at d;refine bp d fun r fu⟨u,hr,h6⟩=>?_;subst hr;refine bp h6 fun _ dC⟨x,fO,gW,kW,QD,xH,Hy⟩=>?_;have EK:=gW.pinned (stat Hy) (T.obj _ _ xH);refine away (bp (HW _ dC σ5 fO x u _ EK kW (step x fO QD)) fun _ jE⟨σ8,uA,EL,oJ⟩=>?_);refine away (bp (Ir _ jE σ8 uA _ EL oJ) fun b kc⟨EG,ym,Cy⟩=>?_);have again:∀{σa:St}{Ha:J}{kX:Shared},Inv B ([]++qL aU dC.heap) σa Ha kX→(∃ew,ew<n∧W (i+1) ew σa Ha)→∃m,m<n∧∃i σ' H',Inv B [] σ' H' kX∧fw i kX.heap∧(∀b∈aU,H' b=none)∧W i m σ' H':=fun{σa Ha kX} uB⟨ew,hm,PN⟩=>by
    refine⟨ew,hm,i+1,σa,Ha,uB.tX,T.keep _ _ _ xH fun b hb o e=>(uB.pin (b,o) (List.mem_append_right _ (List.mem_append_right _ (s6 hb e)))).1,fun b hb=>?_,PN⟩;obtain⟨o,e,d⟩:=T.obj _ _ xH b hb;exact(uB.pin (b,o) (List.mem_append_right _ (List.mem_append_right _ (s6 hb e)))).2.1
   cases b with
   |false=>exact again ym Cy
   |true=>show wpAny _ _ (eval elt B.env) _ _ kc;refine away (bp (HR _ kc σ8 EG _ ym Cy) fun yh NK⟨y,yk,EH,bG,ys,ha,bq,M9⟩=>?_);refine away (bp (s8 _ NK σ8 yk (.ref s2.heap.objs.size) [y] (.ref s2.heap.objs.size) [yh] (fun _ yl=>yl=upd yk s2.heap.objs.size (.lst (ys++[y]))) EH rfl (.cons bG .nil) ⟨_,ys,y,rfl,rfl,ha,bq,rfl⟩) fun _ Se⟨z,yl,EI,_,Gd⟩=>?_);subst Gd;exact again EI M9
 exact codeAny_compStart_list (loop _ (by rw[←vV])) (T.self X.A 0 _ _ _ (T.keep 0 _ _ kg fun b hb o e=>wg b o (B2 b o e)) (loop _ (by rw[←vV])))
theorem HV{pins:List (Addr×Obj)}{σ :St}{s:Shared}{H:J}(S:me X.env.scope X.N scope N nl caps)(I:Inv X pins σ H s):∀p∈scope.names,p.2=.free→∃c,X.env.cells.lookup p.1=some c:=fun p hp e=>by
 have q:=S.free p hp e;apply I.ok.has p.1;show X.env.scope.names.lookup p.1=some .cell∨X.env.scope.names.lookup p.1=some .free;cases au:X.env.scope.names.lookup p.1 with
 |none=>rw[au]at q;cases q
 |some k=>
  rw[au]at q
  cases k<;>first
   |exact .inl rfl
   |exact .inr rfl
   |cases q
theorem Mn(S:me X.env.scope X.N scope N nl caps)(hc:X.calm=true)(hi:gZ X target iter ig)(hg:∀cl C s H aU,ik (eA X scope N cl C s H aU) target g)(ht:∀cl C s H aU,mu (eA X scope N cl C s H aU) ifs fZ)(he:∀cl C s H aU,aP (eA X scope N cl C s H aU) elt te)(hs:∀x,foldedSetIterable iter X.env x=pure x:=by intro _;rfl):aP X (.ListComp elt [⟨target,iter,ifs,0⟩] scope pos) (xR ig g fZ te nl caps):=by intro pins s σ H Q I h;rw[eval_ListComp];refine wpAny_comprehension_free (use:=none) rfl hs (FA (HV S I)) S.kind S.locs ?_;refine bp (hi pins s σ H _ I h) fun v s1 h1=>bp h1 fun v9 s2 h2=>?_;obtain⟨it,aU,fw,bk,aQ,e,bZ,T,kg,f2,k⟩:=h2;subst e;obtain⟨W,⟨m0,nr⟩,turn⟩:=k s2.heap.objs.size (bZ.bc.fresh (Nat.le_refl _));refine FD (Q:=fun H'=>Q (.ref s2.heap.objs.size) H') S hc bZ T kg f2 hg ht he nr turn (fun acc C=>compPost (model X.prog X.w) X.A X.xe none (eG X pins σ Q) acc C) ?_;intro C s' H' aI _ kG q;obtain⟨m,aI⟩:=aI;exact⟨m,aI,fun h' vT=>⟨.ref s2.heap.objs.size,H',kG h' vT,rfl,q⟩⟩
end
end aV
namespace az
open PySem aV
inductive D where
 |non|aq (b:Bool)|int (i:Int)|str (x:Str)
 |tup (xs:List D)|lst (xs:List D)|bM (xs:List D)
 |cj (ks:List Key) (xs:List D)|a4 (ks:List (List Key)) (xs:List D)
 |ins (c:Str) (ns:List Str) (xs:List D)
 |fl (c:Str)
 |cM (xs:List D)
def Sub(G H:J):Prop:=∀b o,G b=some o→H b=some o
theorem Sub.refl(G:J):Sub G G:=fun _ _ e=>e
theorem Sub.trans{G H I:J}(a:Sub G H)(b:Sub H I):Sub G I:=fun c o e=>b c o (a c o e)
theorem Sub.gone{G H:J}(a:Sub G H){b:Addr}(h:H b=none):G b=none:=by
 cases e:G b with
 |none=>rfl
 |some o=>rw[a b o e]at h;cases h
theorem Sub.upd{G:J}{a:Addr}{o:cJ}(h:G a=none):Sub G (upd G a o):=fun b u e=>by rw[cf (hz e h)];exact e
theorem Sub.tZ{G H:J}{a:Addr}{o:cJ}(s:Sub G H)(h:G a=none):Sub G (aV.upd H a o):=fun b u e=>by rw[cf (hz e h)];exact s b u e
theorem Sub.both{G H:J}{a:Addr}{o:cJ}(s:Sub G H):Sub (aV.upd G a o) (aV.upd H a o):=fun b u e=>by
 by_cases hb:b=a
 ·subst hb;rw[c3]at e ⊢;exact e
 ·rw[cf hb]at e ⊢;exact s b u e
theorem Sub.at{G H:J}{a:Addr}{o:cJ}(s:Sub G H)(h:H a=some o):Sub (aV.upd G a o) H:=fun b u e=>by
 by_cases hb:b=a
 ·subst hb;rw[c3]at e;rw[h];exact e
 ·rw[cf hb]at e;exact s b u e
structure bQ(G H G' H':J):Prop where
 g:Sub G G'
 h:Sub H H'
 n:∀b,H b≠none→G' b=G b
theorem Sub.some{G H:J}(s:Sub G H){b:Addr}(h:G b≠none):H b≠none:=fun z=>h (s.gone z)
theorem bQ.refl(G H:J):bQ G H G H:=⟨Sub.refl _,Sub.refl _,fun _ _=>rfl⟩
theorem bQ.trans{G H aL H1 cx aQ:J}(a:bQ G H aL H1)(b:bQ aL H1 cx aQ):bQ G H cx aQ:=⟨a.g.trans b.g,a.h.trans b.h,fun c hc=>(b.n c (a.h.some hc)).trans (a.n c hc)⟩
theorem bQ.lay{G H:J}{p:Addr}{o:cJ}(s:Sub G H)(hp:H p=none):bQ G H (aV.upd G p o) (aV.upd H p o):=⟨Sub.upd (s.gone hp),Sub.upd hp,fun b hb=>by rw[cf];intro e;subst e;exact hb hp⟩
theorem bQ.lay0{G H:J}{p:Addr}{o:cJ}(hp:H p=none):bQ G H G (aV.upd H p o):=⟨Sub.refl _,Sub.upd hp,fun _ _=>rfl⟩
theorem bQ.put{G H G' H':J}{p:Addr}{o:cJ}(u:bQ G H G' H')(hp:H p=none)(hg:G' p=none):bQ G H (aV.upd G' p o) H':=⟨u.g.trans (Sub.upd hg),u.h,fun b hb=>by
 rw[cf]
 ·exact u.n b hb
 ·intro e;subst e;exact hb hp⟩
theorem ep.mono{G H:J}(s:Sub G H){a:Addr}{u:cJ}(r:ep G a u):ep H a u:=by
 rcases r with r|⟨o,r⟩
 ·exact .inl (s _ _ r)
 ·exact .inr ⟨o,s _ _ r⟩
theorem bx.mono{K:PySem.W.Frag}{G H:J}(s:Sub G H){a:Addr}{xs:List V}(r:bx K G a xs):bx K H a xs:=by
 rcases r with r|r
 ·exact .inl (ep.mono s r)
 ·exact .inr r
theorem cB.mono{K:PySem.W.Frag}{G H:J}(s:Sub G H){a:Addr}{xs:List V}(r:cB K G a xs):cB K H a xs:=by
 rcases r with r|r
 ·exact .inl (ep.mono s r)
 ·exact .inr r
def dP(K:PySem.W.Frag)(c:Str)(C:Addr):Prop:=PySem.W.nsIn K mainGlobals c=some (some (.ref C))
mutual
noncomputable def At(K:PySem.W.Frag)(G:J):D→V→Prop
 |.non,v=>v=.non
 |.aq b,v=>v=.aq b
 |.int i,v=>v=.int i
 |.str x,v=>v=.str x
 |.tup ds,v=>∃a xs,v=.ref a∧G a=some (.tup xs)∧aE K G ds xs
 |.cM ds,v=>∃a xs,v=.ref a∧cB K G a xs∧aE K G ds xs
 |.lst ds,v=>∃a xs,v=.ref a∧G a=some (.lst xs)∧aE K G ds xs
 |.bM ds,v=>∃a xs,v=.ref a∧bx K G a xs∧aE K G ds xs
 |.cj ks ds,v=>∃a xs,v=.ref a∧G a=some (.cj xs)∧xs.map (·.1)=ks∧aE K G ds (xs.map (·.2))
 |.a4 ks ds,v=>∃a xs,v=.ref a∧G a=some (.a4 xs)∧xs.map (·.1)=ks∧aE K G ds (xs.map (·.2))
 |.ins c ns ds,v=>∃a aJ xs,v=.ref a∧(∃C,dP K c C∧G a=some (.ins C aJ xs))∧xs.map (·.1)=ns∧aE K G ds (xs.map (·.2))
 |.fl c,v=>∃(a:Addr)(xs:List V),v=.ref a∧(∃C,dP K c C∧G a=some (mL a (.ref C)))∧xs=[]
noncomputable def aE(K:PySem.W.Frag)(G:J):List D→List V→Prop
 |[],vs=>vs=[]
 |d::ds,vs=>∃v r,vs=v::r∧At K G d v∧aE K G ds r
end
mutual
theorem At.mono{K:PySem.W.Frag}{G H:J}(s:Sub G H):∀{d:D}{v:V},At K G d v→At K H d v
 |.non,_,h=>by simpa only[At]using h
 |.aq _,_,h=>by simpa only[At]using h
 |.int _,_,h=>by simpa only[At]using h
 |.str _,_,h=>by simpa only[At]using h
 |.tup _,_,h=>by simp only[At]at h ⊢;obtain⟨a,xs,e,q,r⟩:=h;exact⟨a,xs,e,s _ _ q,aE.mono s r⟩
 |.cM _,_,h=>by simp only[At]at h ⊢;obtain⟨a,xs,e,q,r⟩:=h;exact⟨a,xs,e,cB.mono s q,aE.mono s r⟩
 |.lst _,_,h=>by simp only[At]at h ⊢;obtain⟨a,xs,e,q,r⟩:=h;exact⟨a,xs,e,s _ _ q,aE.mono s r⟩
 |.bM _,_,h=>by simp only[At]at h ⊢;obtain⟨a,xs,e,q,r⟩:=h;exact⟨a,xs,e,bx.mono s q,aE.mono s r⟩
 |.cj _ _,_,h=>by simp only[At]at h ⊢;obtain⟨a,xs,e,q,k,r⟩:=h;exact⟨a,xs,e,s _ _ q,k,aE.mono s r⟩
 |.a4 _ _,_,h=>by simp only[At]at h ⊢;obtain⟨a,xs,e,q,k,r⟩:=h;exact⟨a,xs,e,s _ _ q,k,aE.mono s r⟩
 |.ins _ _ _,_,h=>by simp only[At]at h ⊢;obtain⟨a,aJ,xs,e,⟨C,bK,q⟩,k,r⟩:=h;exact⟨a,aJ,xs,e,⟨C,bK,s _ _ q⟩,k,aE.mono s r⟩
 |.fl _,_,h=>by simp only[At]at h ⊢;obtain⟨a,xs,e,⟨C,bK,q⟩,r⟩:=h;exact⟨a,xs,e,⟨C,bK,s _ _ q⟩,r⟩
theorem aE.mono{K:PySem.W.Frag}{G H:J}(s:Sub G H):∀{ds:List D}{vs:List V},aE K G ds vs→aE K H ds vs
 |[],_,h=>by simpa only[aE]using h
 |_::_,_,h=>by simp only[aE]at h ⊢;obtain⟨v,r,e,q,t⟩:=h;exact⟨v,r,e,At.mono s q,aE.mono s t⟩
end
section
variable{K:PySem.W.Frag}{G:J}
theorem aE.nil:aE K G [] []:=by simp only[aE]
theorem aE.cons{d:D}{ds:List D}{v:V}{vs:List V}(h:At K G d v)(t:aE K G ds vs):aE K G (d::ds) (v::vs):=by simp only[aE];exact⟨v,vs,rfl,h,t⟩
theorem aE.length:∀{ds:List D}{vs:List V},aE K G ds vs→ds.length=vs.length
 |[],_,h=>by simp only[aE]at h;subst h;rfl
 |_::_,_,h=>by simp only[aE]at h;obtain⟨v,r,rfl,_,t⟩:=h;simp[aE.length t]
theorem aE.get:∀{ds:List D}{vs:List V}{i:Nat}{d:D},aE K G ds vs→ds[i]?=some d→∃v,vs[i]?=some v∧At K G d v
 |[],_,_,_,_,e=>by simp at e
 |_::_,_,0,_,h,e=>by simp only[aE]at h;obtain⟨v,r,rfl,q,t⟩:=h;simp at e;subst e;exact⟨v,by simp,q⟩
 |_::_,_,i+1,d,h,e=>by simp only[aE]at h;obtain⟨v,r,rfl,q,t⟩:=h;obtain⟨u,h1,h2⟩:=aE.get (i:=i) (d:=d) t (by simpa using e);exact⟨u,by simpa using h1,h2⟩
theorem aE.vA{ds:List D}{vs:List V}{i:Nat}{v:V}(h:aE K G ds vs)(e:vs[i]?=some v):∃d,ds[i]?=some d∧At K G d v:=by
 have hi:i<ds.length:=by rw[h.length];exact(List.getElem?_eq_some_iff.mp e).1
 obtain⟨u,h1,h2⟩:=h.get (List.getElem?_eq_getElem hi);rw[e]at h1;cases h1;exact⟨_,List.getElem?_eq_getElem hi,h2⟩
theorem aE.append:∀{ds af:List D}{vs ws:List V},aE K G ds vs→aE K G af ws→aE K G (ds++af) (vs++ws)
 |[],_,_,_,h,t=>by simp only[aE]at h;subst h;exact t
 |_::_,_,_,_,h,t=>by simp only[aE]at h;obtain⟨v,r,rfl,q,s⟩:=h;exact .cons q (aE.append s t)
theorem aE.take:∀(n:Nat){ds:List D}{vs:List V},aE K G ds vs→aE K G (ds.take n) (vs.take n)
 |0,_,_,_=>by simpa using aE.nil
 |_+1,[],_,h=>by simp only[aE]at h;subst h;simpa using aE.nil
 |n+1,_::_,_,h=>by simp only[aE]at h;obtain⟨v,r,rfl,q,t⟩:=h;exact .cons q (aE.take n t)
theorem aE.drop:∀(n:Nat){ds:List D}{vs:List V},aE K G ds vs→aE K G (ds.drop n) (vs.drop n)
 |0,_,_,h=>by simpa using h
 |_+1,[],_,h=>by simp only[aE]at h;subst h;simpa using aE.nil
 |n+1,_::_,_,h=>by simp only[aE]at h;obtain⟨v,r,rfl,q,t⟩:=h;simpa using aE.drop n t
theorem aE.set{d:D}{v:V}(q:At K G d v):∀(n:Nat){ds:List D}{vs:List V},aE K G ds vs→aE K G (ds.set n d) (vs.set n v)
 |_,[],_,h=>by simp only[aE]at h;subst h;simpa using aE.nil
 |0,_::_,_,h=>by simp only[aE]at h;obtain⟨u,r,rfl,_,t⟩:=h;exact .cons q t
 |n+1,_::_,_,h=>by simp only[aE]at h;obtain⟨u,r,rfl,p,t⟩:=h;exact .cons p (aE.set q n t)
theorem aE.snoc{ds:List D}{vs:List V}{d:D}{v:V}(h:aE K G ds vs)(q:At K G d v):aE K G (ds++[d]) (vs++[v]):=h.append (.cons q .nil)
end
inductive R(α:Type) where
 |ok (a:α)|exc (c:Str)|bad
namespace R
def bind{α β:Type}:R α→(α→R β)→R β
 |.ok a,k=>k a
 |.exc c,_=>.exc c
 |.bad,_=>.bad
def map{α β:Type}(f:α→β)(r:R α):R β:=r.bind fun a=>.ok (f a)
theorem bh{α β:Type}(a:α)(k:α→R β):(R.ok a).bind k=k a:=rfl
end R
inductive T where
 |av (d:D)|lst (ts:List T)|cj (ks:List Key) (ts:List T)|a4 (ks:List (List Key)) (ts:List T)|ins (c:Str) (ns:List Str) (ts:List T)
mutual
noncomputable def toD:T→D
 |.av d=>d
 |.lst ts=>.lst (jH ts)
 |.cj ks ts=>.cj ks (jH ts)
 |.a4 ks ts=>.a4 ks (jH ts)
 |.ins c ns ts=>.ins c ns (jH ts)
noncomputable def jH:List T→List D
 |[]=>[]
 |t::ts=>toD t::jH ts
end
mutual
noncomputable def aU(H:J):T→V→List Addr
 |.av _,_=>[]
 |.lst ts,v=>match v with
  |.ref a=>match H a with
   |some (.lst xs)=>a::cE H ts xs
   |_=>[]
  |_=>[]
 |.cj _ ts,v=>match v with
  |.ref a=>match H a with
   |some (.cj xs)=>a::cE H ts (xs.map (·.2))
   |_=>[]
  |_=>[]
 |.a4 _ ts,v=>match v with
  |.ref a=>match H a with
   |some (.a4 xs)=>a::cE H ts (xs.map (·.2))
   |_=>[]
  |_=>[]
 |.ins _ _ ts,v=>match v with
  |.ref a=>match H a with
   |some (.ins _ _ xs)=>a::cE H ts (xs.map (·.2))
   |_=>[]
  |_=>[]
noncomputable def cE(H:J):List T→List V→List Addr
 |[],_=>[]
 |t::ts,vs=>match vs with
  |v::r=>aU H t v++cE H ts r
  |[]=>[]
end
mutual
noncomputable def b9(K:PySem.W.Frag)(G H:J):T→V→Prop
 |.av d,v=>At K G d v
 |.lst ts,v=>∃a xs,v=.ref a∧H a=some (.lst xs)∧bH K G H ts xs
 |.cj ks ts,v=>∃a xs,v=.ref a∧H a=some (.cj xs)∧xs.map (·.1)=ks∧bH K G H ts (xs.map (·.2))
 |.a4 ks ts,v=>∃a xs,v=.ref a∧H a=some (.a4 xs)∧xs.map (·.1)=ks∧bH K G H ts (xs.map (·.2))
 |.ins c ns ts,v=>∃a aJ xs,v=.ref a∧(∃C,dP K c C∧H a=some (.ins C aJ xs))∧xs.map (·.1)=ns∧bH K G H ts (xs.map (·.2))
noncomputable def bH(K:PySem.W.Frag)(G H:J):List T→List V→Prop
 |[],vs=>vs=[]
 |t::ts,vs=>∃v r,vs=v::r∧b9 K G H t v∧bH K G H ts r
end
section
variable{K:PySem.W.Frag}{G G' H H' P:J}
theorem g6{a:Addr}{xs:List V}{ts:List T}(q:H a=some (.lst xs)):aU H (.lst ts) (.ref a)=a::cE H ts xs:=by simp only[aU,q]
theorem pO{a:Addr}{xs:List (Key×V)}{ks:List Key}{ts:List T}(q:H a=some (.cj xs)):aU H (.cj ks ts) (.ref a)=a::cE H ts (xs.map (·.2)):=by simp only[aU,q]
theorem pP{a:Addr}{xs:List (List Key×V)}{ks:List (List Key)}{ts:List T}(q:H a=some (.a4 xs)):aU H (.a4 ks ts) (.ref a)=a::cE H ts (xs.map (·.2)):=by simp only[aU,q]
theorem pQ{a C:Addr}{aJ}{xs:List (Str×V)}{c:Str}{ns:List Str}{ts:List T}(q:H a=some (.ins C aJ xs)):aU H (.ins c ns ts) (.ref a)=a::cE H ts (xs.map (·.2)):=by simp only[aU,q]
theorem fR{t:T}{ts:List T}{v:V}{r:List V}:cE H (t::ts) (v::r)=aU H t v++cE H ts r:=by simp only[cE]
theorem lH{vs:List V}:cE H [] vs=[]:=by simp only[cE]
mutual
theorem b9.mono(aY:Sub G G'):∀{t:T}{v:V},b9 K G H t v→b9 K G' H t v
 |.av _,_,h=>by simp only[b9]at h ⊢;exact h.mono aY
 |.lst _,_,h=>by simp only[b9]at h ⊢;obtain⟨a,xs,e,q,r⟩:=h;exact⟨a,xs,e,q,bH.mono aY r⟩
 |.cj _ _,_,h=>by simp only[b9]at h ⊢;obtain⟨a,xs,e,q,n,r⟩:=h;exact⟨a,xs,e,q,n,bH.mono aY r⟩
 |.a4 _ _,_,h=>by simp only[b9]at h ⊢;obtain⟨a,xs,e,q,n,r⟩:=h;exact⟨a,xs,e,q,n,bH.mono aY r⟩
 |.ins _ _ _,_,h=>by simp only[b9]at h ⊢;obtain⟨a,aJ,xs,e,q,n,r⟩:=h;exact⟨a,aJ,xs,e,q,n,bH.mono aY r⟩
theorem bH.mono(aY:Sub G G'):∀{ts:List T}{vs:List V},bH K G H ts vs→bH K G' H ts vs
 |[],_,h=>by simpa only[bH]using h
 |_::_,_,h=>by simp only[bH]at h ⊢;obtain⟨v,r,e,q,t⟩:=h;exact⟨v,r,e,b9.mono aY q,bH.mono aY t⟩
end
mutual
theorem b9.keep:∀{t:T}{v:V},(∀b∈aU H t v,H' b=H b)→b9 K G H t v→b9 K G H' t v∧aU H' t v=aU H t v
 |.av _,_,_,h=>by simp only[b9]at h;exact⟨by simp only[b9];exact h,by simp only[aU]⟩
 |.lst _,_,k,h=>by simp only[b9]at h;obtain⟨a,xs,rfl,q,r⟩:=h;rw[g6 q]at k;have iC:H' a=some (.lst xs):=(k a (by simp)).trans q;obtain⟨ao,a7⟩:=bH.keep (fun b hb=>k b (List.mem_cons_of_mem _ hb)) r;exact⟨by simp only[b9];exact⟨a,xs,rfl,iC,ao⟩,by rw[g6 iC,g6 q,a7]⟩
 |.cj _ _,_,k,h=>by simp only[b9]at h;obtain⟨a,xs,rfl,q,n,r⟩:=h;rw[pO q]at k;have iC:H' a=some (.cj xs):=(k a (by simp)).trans q;obtain⟨ao,a7⟩:=bH.keep (fun b hb=>k b (List.mem_cons_of_mem _ hb)) r;exact⟨by simp only[b9];exact⟨a,xs,rfl,iC,n,ao⟩,by rw[pO iC,pO q,a7]⟩
 |.a4 _ _,_,k,h=>by simp only[b9]at h;obtain⟨a,xs,rfl,q,n,r⟩:=h;rw[pP q]at k;have iC:H' a=some (.a4 xs):=(k a (by simp)).trans q;obtain⟨ao,a7⟩:=bH.keep (fun b hb=>k b (List.mem_cons_of_mem _ hb)) r;exact⟨by simp only[b9];exact⟨a,xs,rfl,iC,n,ao⟩,by rw[pP iC,pP q,a7]⟩
 |.ins _ _ _,_,k,h=>by simp only[b9]at h;obtain⟨a,aJ,xs,rfl,⟨C,bK,q⟩,n,r⟩:=h;rw[pQ q]at k;have iC:H' a=some (.ins C aJ xs):=(k a (by simp)).trans q;obtain⟨ao,a7⟩:=bH.keep (fun b hb=>k b (List.mem_cons_of_mem _ hb)) r;exact⟨by simp only[b9];exact⟨a,aJ,xs,rfl,⟨C,bK,iC⟩,n,ao⟩,by rw[pQ iC,pQ q,a7]⟩
theorem bH.keep:∀{ts:List T}{vs:List V},(∀b∈cE H ts vs,H' b=H b)→bH K G H ts vs→bH K G H' ts vs∧cE H' ts vs=cE H ts vs
 |[],_,_,h=>⟨by simpa only[bH]using h,by simp only[cE]⟩
 |_::_,_,k,h=>by simp only[bH]at h;obtain⟨v,r,rfl,q,t⟩:=h;rw[fR]at k;obtain⟨a5,bL⟩:=b9.keep (fun b hb=>k b (List.mem_append_left _ hb)) q;obtain⟨t1,dh⟩:=bH.keep (fun b hb=>k b (List.mem_append_right _ hb)) t;exact⟨by simp only[bH];exact⟨v,r,rfl,a5,t1⟩,by rw[fR,fR,bL,dh]⟩
end
mutual
theorem b9.some:∀{t:T}{v:V},b9 K G H t v→∀b∈aU H t v,H b≠none
 |.av _,_,_=>by intro b hb;simp[aU]at hb
 |.lst _,_,h=>by
  simp only[b9]at h;obtain⟨a,xs,rfl,q,r⟩:=h;rw[g6 q];intro b hb;rcases List.mem_cons.mp hb with rfl|hb
  ·rw[q];exact fun z=>nomatch z
  ·exact bH.some r b hb
 |.cj _ _,_,h=>by
  simp only[b9]at h;obtain⟨a,xs,rfl,q,n,r⟩:=h;rw[pO q];intro b hb;rcases List.mem_cons.mp hb with rfl|hb
  ·rw[q];exact fun z=>nomatch z
  ·exact bH.some r b hb
 |.a4 _ _,_,h=>by
  simp only[b9]at h;obtain⟨a,xs,rfl,q,n,r⟩:=h;rw[pP q];intro b hb;rcases List.mem_cons.mp hb with rfl|hb
  ·rw[q];exact fun z=>nomatch z
  ·exact bH.some r b hb
 |.ins _ _ _,_,h=>by
  simp only[b9]at h;obtain⟨a,aJ,xs,rfl,⟨C,bK,q⟩,n,r⟩:=h;rw[pQ q];intro b hb;rcases List.mem_cons.mp hb with rfl|hb
  ·rw[q];exact fun z=>nomatch z
  ·exact bH.some r b hb
theorem bH.some:∀{ts:List T}{vs:List V},bH K G H ts vs→∀b∈cE H ts vs,H b≠none
 |[],_,_=>by intro b hb;simp[cE]at hb
 |_::_,_,h=>by
  simp only[bH]at h;obtain⟨v,r,rfl,q,t⟩:=h;rw[fR];intro b hb;rcases List.mem_append.mp hb with hb|hb
  ·exact b9.some q b hb
  ·exact bH.some t b hb
end
mutual
theorem b9.view(aY:Sub G P):∀{t:T}{v:V},(∀a∈aU H t v,P a=H a)→b9 K G H t v→At K P (toD t) v
 |.av _,_,_,h=>by simp only[b9,toD]at h ⊢;exact h.mono aY
 |.lst _,_,k,h=>by simp only[b9]at h;obtain⟨a,xs,rfl,q,r⟩:=h;rw[g6 q]at k;simp only[toD,At];exact⟨a,xs,rfl,by rw[k a (by simp)];exact q,bH.view aY (fun b hb=>k b (List.mem_cons_of_mem _ hb)) r⟩
 |.cj _ _,_,k,h=>by simp only[b9]at h;obtain⟨a,xs,rfl,q,n,r⟩:=h;rw[pO q]at k;simp only[toD,At];exact⟨a,xs,rfl,by rw[k a (by simp)];exact q,n,bH.view aY (fun b hb=>k b (List.mem_cons_of_mem _ hb)) r⟩
 |.a4 _ _,_,k,h=>by simp only[b9]at h;obtain⟨a,xs,rfl,q,n,r⟩:=h;rw[pP q]at k;simp only[toD,At];exact⟨a,xs,rfl,by rw[k a (by simp)];exact q,n,bH.view aY (fun b hb=>k b (List.mem_cons_of_mem _ hb)) r⟩
 |.ins _ _ _,_,k,h=>by simp only[b9]at h;obtain⟨a,aJ,xs,rfl,⟨C,bK,q⟩,n,r⟩:=h;rw[pQ q]at k;simp only[toD,At];exact⟨a,aJ,xs,rfl,⟨C,bK,by rw[k a (by simp)];exact q⟩,n,bH.view aY (fun b hb=>k b (List.mem_cons_of_mem _ hb)) r⟩
theorem bH.view(aY:Sub G P):∀{ts:List T}{vs:List V},(∀a∈cE H ts vs,P a=H a)→bH K G H ts vs→aE K P (jH ts) vs
 |[],_,_,h=>by simp only[bH,jH,aE]at h ⊢;exact h
 |_::_,_,k,h=>by simp only[bH]at h;obtain⟨v,r,rfl,q,t⟩:=h;rw[fR]at k;simp only[jH,aE];exact⟨v,r,rfl,b9.view aY (fun b hb=>k b (List.mem_append_left _ hb)) q,bH.view aY (fun b hb=>k b (List.mem_append_right _ hb)) t⟩
end
theorem b9.J7{a:Addr}{o:cJ}{t:T}{v:V}(n:a∉aU H t v)(h:b9 K G H t v):b9 K G (upd H a o) t v∧aU (upd H a o) t v=aU H t v:=h.keep fun b hb=>cf fun z=>n (z▸hb)
end
inductive jk where
 |lst (ds:List D)|a4 (ks:List (List Key)) (ds:List D)|ins (c:Str) (ns:List Str) (ds:List D)
noncomputable def kp(K:PySem.W.Frag)(G:J):jk→cJ→Prop
 |.lst ds,ho=>∃xs,ho=.lst xs∧aE K G ds xs
 |.a4 ks ds,ho=>∃xs,ho=.a4 xs∧xs.map (·.1)=ks∧aE K G ds (xs.map (·.2))
 |.ins c ns ds,ho=>∃C aJ xs,dP K c C∧ho=.ins C aJ xs∧xs.map (·.1)=ns∧aE K G ds (xs.map (·.2))
theorem kp.mono{K:PySem.W.Frag}{G H:J}(s:Sub G H):∀{o:jk}{ho:cJ},kp K G o ho→kp K H o ho
 |.lst _,_,⟨xs,e,q⟩=>⟨xs,e,q.mono s⟩
 |.a4 _ _,_,⟨xs,e,k,q⟩=>⟨xs,e,k,q.mono s⟩
 |.ins _ _ _,_,⟨C,aJ,xs,c,e,k,q⟩=>⟨C,aJ,xs,c,e,k,q.mono s⟩
def kV:jk→D
 |.lst ds=>.lst ds
 |.a4 ks ds=>.a4 ks ds
 |.ins c ns ds=>.ins c ns ds
theorem kp.at{K:PySem.W.Frag}{G:J}{o:jk}{ho:cJ}{a:Addr}(h:kp K G o ho)(e:G a=some ho):At K G (kV o) (.ref a):=by
 cases o with
 |lst ds=>obtain⟨xs,rfl,q⟩:=h;simp only[kV,At];exact⟨a,xs,rfl,e,q⟩
 |a4 ks ds=>obtain⟨xs,rfl,k,q⟩:=h;simp only[kV,At];exact⟨a,xs,rfl,e,k,q⟩
 |ins c ns ds=>obtain⟨C,aJ,xs,bK,rfl,k,q⟩:=h;simp only[kV,At];exact⟨a,aJ,xs,rfl,⟨C,bK,e⟩,k,q⟩
inductive cS where
 |un|av (d:D)|aR (o:jk)|cW (t:T)
abbrev cS.cD(ds:List D):cS:=.aR (.lst ds)
abbrev ah:=List cS
structure a3 where
 K:PySem.W.Frag
 G0:J
 H0:J
 eR:Str→J→Prop
structure dF(F:a3)(G H:J):Prop where
 sub:Sub G H
 d3:Sub F.G0 G
 hh:Sub F.H0 H
 new:∀b,F.H0 b≠none→G b=F.G0 b
structure nK(F:a3)(G H:J)(t:T)(v:V):Prop where
 at_:b9 F.K G H t v
 br:(aU H t v).Nodup
 own:∀b∈aU H t v,G b=none∧F.H0 b=none
noncomputable def jS(F:a3)(G H:J)(o:Option V):cS→Prop
 |.un=>True
 |.av d=>∃v,o=some v∧At F.K G d v
 |.aR aR=>∃a ho,o=some (.ref a)∧H a=some ho∧G a=none∧F.H0 a=none∧kp F.K G aR ho
 |.cW t=>∃v,o=some v∧nK F G H t v
noncomputable def eS(H:J):cS→Option V→Addr→Prop
 |.un,_,_=>False
 |.av _,_,_=>False
 |.aR _,o,a=>o=some (.ref a)
 |.cW t,o,a=>∃v,o=some v∧a∈aU H t v
structure Rel(F:a3)(G H:J)(σ :St)(ρ:ah):Prop where
 aA:dF F G H
 len: σ.length=ρ.length
 b1:∀(i:Nat)(s:cS),ρ[i]?=some s→∃o,σ[i]?=some o∧jS F G H o s
 jY:∀(i j:Nat)(a:Addr)(s s':cS)(o bw:Option V),ρ[i]?=some s→ρ[j]?=some s'→ σ[i]?=some o→ σ[j]?=some bw→eS H s o a→eS H s' bw a→i=j
noncomputable def cy(H:J)(σ :St)(ρ:ah)(a:Addr):Prop:=∃(i:Nat)(s:cS)(o:Option V),ρ[i]?=some s∧ σ[i]?=some o∧eS H s o a
theorem C5{α:Type}{l:List α}{i:Nat}{x:α}(e:l[i]?=some x):l.set i x=l:=by
 apply List.ext_getElem?;intro j;rw[List.getElem?_set];by_cases h:i=j
 ·subst h;rw[if_pos rfl,if_pos (List.getElem?_eq_some_iff.mp e).1];exact e.symm
 ·simp[h]
section
variable{F:a3}{G G' H H':J}{σ :St}{ρ:ah}
theorem cy.aR{a:Addr}{i:Nat}{o:jk}(ai:ρ[i]?=some (.aR o))(au: σ[i]?=some (some (.ref a))):cy H σ ρ a:=⟨i,_,_,ai,au,rfl⟩
theorem jS.keep{o:Option V}{s:cS}(h:jS F G H o s)(aY:Sub G G')(k:∀a,eS H s o a→H' a=H a∧G' a=none):jS F G' H' o s∧(∀a,eS H' s o a→eS H s o a):=by
 cases s with
 |un=>exact⟨trivial,fun _ z=>z⟩
 |av d=>obtain⟨v,au,a⟩:=h;exact⟨⟨v,au,a.mono aY⟩,fun _ z=>z⟩
 |aR ds=>obtain⟨a,xs,au,h1,h2,h3,h4⟩:=h;exact⟨⟨a,xs,au,by rw[(k a au).1];exact h1,(k a au).2,h3,h4.mono aY⟩,fun _ z=>z⟩
 |cW t=>
  obtain⟨v,au,a5,bL,eP⟩:=h;obtain⟨dH,dV⟩:=a5.keep fun b hb=>(k b ⟨v,au,hb⟩).1;refine⟨⟨v,au,⟨dH.mono aY,by rw[dV];exact bL,fun b hb=>?_⟩⟩,fun a z=>?_⟩
  ·rw[dV]at hb;exact⟨(k b ⟨v,au,hb⟩).2,(eP b hb).2⟩
  ·obtain⟨u,bB,hb⟩:=z;rw[au]at bB;cases bB;rw[dV]at hb;exact⟨v,au,hb⟩
theorem jS.foot{o:Option V}{s:cS}(h:jS F G H o s){a:Addr}(f:eS H s o a):H a≠none∧G a=none∧F.H0 a=none:=by
 cases s with
 |un=>exact f.elim
 |av d=>exact f.elim
 |aR ds=>obtain⟨b,xs,au,h1,h2,h3,h4⟩:=h;have f:o=some (.ref a):=f;rw[au]at f;cases f;exact⟨by rw[h1];exact(fun z=>nomatch z),h2,h3⟩
 |cW t=>obtain⟨v,au,a5,bL,eP⟩:=h;obtain⟨u,bB,hb⟩:=f;rw[au]at bB;cases bB;exact⟨a5.some a hb,eP a hb⟩
theorem Rel.foot(r:Rel F G H σ ρ){a:Addr}(h:cy H σ ρ a):H a≠none∧G a=none∧F.H0 a=none:=by obtain⟨i,s,o,ai,au,f⟩:=h;obtain⟨bw,bB,q⟩:=r.b1 i s ai;rw[au]at bB;cases bB;exact q.foot f
theorem Rel.over{F':a3}(r:Rel F G H σ ρ)(hK:F'.K=F.K)(aA:dF F' G' H')(aY:Sub G G')(k:∀a,cy H σ ρ a→H' a=H a∧G' a=none∧F'.H0 a=none):Rel F' G' H' σ ρ:=by
 have one:∀(i:Nat)(s:cS),ρ[i]?=some s→∃o,σ[i]?=some o∧jS F' G' H' o s∧(∀a,eS H' s o a→eS H s o a):=fun i s e=>by
  obtain⟨o,ai,q⟩:=r.b1 i s e;obtain⟨a5,bL⟩:=q.keep aY fun a f=>⟨(k a ⟨i,s,o,e,ai,f⟩).1,(k a ⟨i,s,o,e,ai,f⟩).2.1⟩;refine⟨o,ai,?_,bL⟩;cases s with
  |un=>trivial
  |av d=>obtain⟨v,au,a⟩:=a5;exact⟨v,au,by rw[hK];exact a⟩
  |aR ds=>obtain⟨a,xs,au,h1,h2,h3,h4⟩:=a5;exact⟨a,xs,au,h1,h2,(k a ⟨i,_,o,e,ai,au⟩).2.2,by rw[hK];exact h4⟩
  |cW t=>obtain⟨v,au,dH,dV,hG⟩:=a5;exact⟨v,au,by rw[hK];exact dH,dV,fun b hb=>⟨(hG b hb).1,(k b ⟨i,_,o,e,ai,bL b ⟨v,au,hb⟩⟩).2.2⟩⟩
 refine⟨aA,r.len,fun i s e=>let⟨o,ai,q,_⟩:=one i s e;⟨o,ai,q⟩,fun i j a s s' o bw ai au bB c2 f1 f2=>?_⟩;obtain⟨u,a8,_,aX⟩:=one i s ai;rw[bB]at a8;cases a8;obtain⟨u,Ez,_,QG⟩:=one j s' au;rw[c2]at Ez;cases Ez;exact r.jY i j a s s' o bw ai au bB c2 (aX a f1) (QG a f2)
theorem Rel.grow(r:Rel F G H σ ρ)(aY:Sub G G')(Oy:Sub G' H')(hh:Sub H H')(nw:∀b,H b≠none→G' b=G b):Rel F G' H' σ ρ:=by
 refine r.over rfl ⟨Oy,r.aA.d3.trans aY,r.aA.hh.trans hh,fun b hb=>?_⟩ aY fun a ha=>?_
 ·rw[nw b (r.aA.hh.some hb)];exact r.aA.new b hb
 ·obtain⟨h1,h2,h3⟩:=r.foot ha;refine⟨?_,(nw a h1).trans h2,h3⟩;cases e:H a with
  |none=>exact absurd e h1
  |some o=>exact hh a o e
theorem Rel.lay(r:Rel F G H σ ρ){p:Addr}{o:cJ}(hp:H p=none):Rel F (upd G p o) (upd H p o) σ ρ:=by have vD:G p=none:=r.aA.sub.gone hp;refine r.grow (Sub.upd vD) (Sub.both r.aA.sub) (Sub.upd hp) fun b hb=>?_;rw[cf];intro e;subst e;exact hb hp
theorem Rel.lay0(r:Rel F G H σ ρ){p:Addr}{o:cJ}(hp:H p=none):Rel F G (upd H p o) σ ρ:=
 r.grow (Sub.refl _) (Sub.tZ r.aA.sub (r.aA.sub.gone hp)) (Sub.upd hp) fun _ _=>rfl
theorem Rel.take(r:Rel F G H σ ρ){p:Addr}{o:cJ}(hp:H p=some o)(hg:G p=none)(h0:F.H0 p=none)(no:¬cy H σ ρ p):Rel F (upd G p o) H σ ρ:=by
 refine r.over rfl ⟨Sub.at r.aA.sub hp,r.aA.d3.trans (Sub.upd hg),r.aA.hh,fun b hb=>?_⟩ (Sub.upd hg) fun a ha=>?_
 ·rw[cf]
  ·exact r.aA.new b hb
  ·intro e;subst e;exact hb h0
 ·obtain⟨h1,h2,h3⟩:=r.foot ha;exact⟨rfl,by rw[cf (fun z=>no (by rw[←z];exact ha))];exact h2,h3⟩
theorem Rel.av(r:Rel F G H σ ρ){i:Nat}{d:D}(e:ρ[i]?=some (.av d)):∃v,σ[i]?=some (some v)∧At F.K G d v:=by obtain⟨o,ai,v,rfl,a⟩:=r.b1 i _ e;exact⟨v,ai,a⟩
theorem Rel.obj(r:Rel F G H σ ρ){i:Nat}{o:jk}(e:ρ[i]?=some (.aR o)):∃a ho,σ[i]?=some (some (.ref a))∧H a=some ho∧G a=none∧F.H0 a=none∧kp F.K G o ho:=by obtain⟨v,ai,a,ho,rfl,h1,h2,h3,h4⟩:=r.b1 i _ e;exact⟨a,ho,ai,h1,h2,h3,h4⟩
theorem Rel.own{G H:J}{σ :St}{ρ:ah}(r:Rel F G H σ ρ){i:Nat}{ds:List D}(e:ρ[i]?=some (.cD ds)):∃a xs,σ[i]?=some (some (.ref a))∧H a=some (.lst xs)∧G a=none∧F.H0 a=none∧aE F.K G ds xs:=by obtain⟨a,ho,ai,h1,h2,h3,xs,rfl,h4⟩:=r.obj e;exact⟨a,xs,ai,h1,h2,h3,h4⟩
theorem Rel.tree{G H:J}{σ :St}{ρ:ah}(r:Rel F G H σ ρ){i:Nat}{t:T}(e:ρ[i]?=some (.cW t)):∃v,σ[i]?=some (some v)∧nK F G H t v:=by obtain⟨o,ai,v,rfl,a⟩:=r.b1 i _ e;exact⟨v,ai,a⟩
theorem get_set{α:Type}{l:List α}{i j:Nat}{x y:α}(e:(l.set i x)[j]?=some y):(i=j∧y=x)∨(i≠j∧l[j]?=some y):=by
 rw[List.getElem?_set]at e;by_cases h:i=j
 ·rw[if_pos h]at e
  split at e
  ·cases e;exact .inl ⟨h,rfl⟩
  ·cases e
 ·rw[if_neg h]at e;exact .inr ⟨h,e⟩
theorem Rel.oO(r:Rel F G H σ ρ){i:Nat}{s:cS}{o:Option V}(hi:i<ρ.length)(q:jS F G H o s)(no:∀a,eS H s o a→∀(j:Nat)(s':cS)(bw:Option V),j≠i→ρ[j]?=some s'→ σ[j]?=some bw→¬eS H s' bw a):Rel F G H (σ.set i o) (ρ.set i s):=by
 have hs:i< σ.length:=by rw[r.len];exact hi
 refine⟨r.aA,by simp[r.len],fun j s e=>?_,fun j k b s1 s2 cu b2 ai au bB c2 f1 f2=>?_⟩
 ·rcases get_set e with⟨rfl,rfl⟩|⟨ne,e⟩
  ·exact⟨o,by simp[hs],q⟩
  ·rw[List.getElem?_set_ne ne];exact r.b1 j s e
 ·rcases get_set ai with⟨fS,a8⟩|⟨fq,ff⟩
  ·subst fS a8;rw[List.getElem?_set_self hs]at bB;cases bB;rcases get_set au with⟨gg,aX⟩|⟨dv,fg⟩
   ·exact gg
   ·rw[List.getElem?_set_ne dv]at c2;exact absurd f2 (no b f1 k s2 b2 (Ne.symm dv) fg c2)
  ·rw[List.getElem?_set_ne fq]at bB;rcases get_set au with⟨gg,aX⟩|⟨dv,fg⟩
   ·subst gg aX;rw[List.getElem?_set_self hs]at c2;cases c2;exact absurd f1 (no b f2 j s1 cu (Ne.symm fq) ff bB)
   ·rw[List.getElem?_set_ne dv]at c2;exact r.jY j k b s1 s2 cu b2 ff fg bB c2 f1 f2
theorem Rel.set(r:Rel F G H σ ρ){i:Nat}{d:D}{v:V}(hi:i<ρ.length)(a:At F.K G d v):Rel F G H (σ.set i (some v)) (ρ.set i (.av d)):=
 r.oO hi ⟨v,rfl,a⟩ fun _ f=>f.elim
theorem Rel.setB(r:Rel F G H σ ρ){i:Nat}{aR:jk}{a:Addr}{ho:cJ}(hi:i<ρ.length)(ha:H a=some ho)(hg:G a=none)(h0:F.H0 a=none)(q:kp F.K G aR ho)(no:∀(j:Nat)(s:cS)(o:Option V),j≠i→ρ[j]?=some s→ σ[j]?=some o→¬eS H s o a):Rel F G H (σ.set i (some (.ref a))) (ρ.set i (.aR aR)):=
 r.oO hi ⟨a,ho,rfl,ha,hg,h0,q⟩ fun b f=>by have f:some (V.ref a)=some (.ref b):=f;cases f;exact no
theorem Rel.Ov(r:Rel F G H σ ρ){i:Nat}{ds:List D}{a:Addr}{xs:List V}(hi:i<ρ.length)(ha:H a=some (.lst xs))(hg:G a=none)(h0:F.H0 a=none)(q:aE F.K G ds xs)(no:∀(j:Nat)(s:cS)(o:Option V),j≠i→ρ[j]?=some s→ σ[j]?=some o→¬eS H s o a):Rel F G H (σ.set i (some (.ref a))) (ρ.set i (.cD ds)):=r.setB hi ha hg h0 ⟨xs,rfl,q⟩ no
theorem Rel.BM(r:Rel F G H σ ρ){i:Nat}{s s':cS}{o:Option V}{a:Addr}{ho:cJ}(e:ρ[i]?=some s)(ak: σ[i]?=some o)(eD:eS H s o a)(q:jS F G (upd H a ho) o s')(f:∀b,eS (upd H a ho) s' o b→eS H s o b∨¬cy H σ ρ b) :
  Rel F G (upd H a ho) σ (ρ.set i s'):=by
 have hi:i<ρ.length:=(List.getElem?_eq_some_iff.mp e).1;obtain⟨h1,h2,h3⟩:=r.foot ⟨i,s,o,e,ak,eD⟩;have tn:∀(j:Nat)(t:cS),i≠j→ρ[j]?=some t→∃u,σ[j]?=some u∧jS F G (upd H a ho) u t∧(∀b,eS (upd H a ho) t u b→eS H t u b):=fun j t ne z=>by obtain⟨u,a8,aX⟩:=r.b1 j t z;have na:¬eS H t u a:=fun w=>ne (r.jY i j a s t o u e z ak a8 eD w);obtain⟨a5,bL⟩:=aX.keep (H':=upd H a ho) (Sub.refl G) fun b kC=>⟨cf fun w=>na (w▸kC),(aX.foot kC).2.1⟩;exact⟨u,a8,a5,bL⟩
 refine⟨⟨Sub.tZ r.aA.sub h2,r.aA.d3,fun c u z=>?_,r.aA.new⟩,by simp[r.len],fun j t z=>?_,fun j k c s1 s2 cu b2 bB c2 gd jq f1 f2=>?_⟩
 ·rw[cf (hz z h3)];exact r.aA.hh c u z
 ·rcases get_set z with⟨rfl,rfl⟩|⟨ne,z⟩
  ·exact⟨o,ak,q⟩
  ·obtain⟨u,a8,aX,_⟩:=tn j t ne z;exact⟨u,a8,aX⟩
 ·rcases get_set bB with⟨fS,a8⟩|⟨fq,nu⟩
  ·subst fS a8;rw[ak]at gd;cases gd;rcases get_set c2 with⟨gg,aX⟩|⟨dv,l5⟩
   ·exact gg
   ·obtain⟨u,ff,_,fg⟩:=tn k s2 dv l5;rw[jq]at ff;cases ff;have g2:=fg c f2;rcases f c f1 with g1|g1
    ·exact r.jY i k c s s2 o b2 e l5 ak jq g1 g2
    ·exact absurd ⟨k,s2,b2,l5,jq,g2⟩ g1
  ·obtain⟨u,ff,_,fg⟩:=tn j s1 fq nu;rw[gd]at ff;cases ff;have g1:=fg c f1;rcases get_set c2 with⟨gg,aX⟩|⟨dv,l5⟩
   ·subst gg aX;rw[ak]at jq;cases jq;rcases f c f2 with g2|g2
    ·exact r.jY j i c s1 s cu o nu e gd ak g1 g2
    ·exact absurd ⟨j,s1,cu,nu,gd,g1⟩ g2
   ·obtain⟨u,ny,_,rq⟩:=tn k s2 dv l5;rw[jq]at ny;cases ny;exact r.jY j k c s1 s2 cu b2 nu l5 gd jq g1 (rq c f2)
theorem Rel.wD(r:Rel F G H σ ρ){i:Nat}{o bw:jk}{a:Addr}{ho:cJ}(e:ρ[i]?=some (.aR o))(ak: σ[i]?=some (some (.ref a)))(q:kp F.K G bw ho) :
  Rel F G (upd H a ho) σ (ρ.set i (.aR bw)):=by
 obtain⟨b,Rq,ai,h1,h2,h3,h4⟩:=r.obj e;rw[ak]at ai;have bz:b=a:=by cases ai;rfl
 subst bz;exact r.BM e ak rfl ⟨b,ho,rfl,c3,h2,h3,q⟩ fun c f=>.inl f
theorem Rel.mut(r:Rel F G H σ ρ){i:Nat}{ds nZ:List D}{a:Addr}{ys:List V}(e:ρ[i]?=some (.cD ds))(ak: σ[i]?=some (some (.ref a)))(q:aE F.K G nZ ys) :
  Rel F G (upd H a (.lst ys)) σ (ρ.set i (.cD nZ)):=r.wD e ak ⟨ys,rfl,q⟩
theorem Rel.iu(r:Rel F G H σ ρ){i:Nat}{o:jk}(e:ρ[i]?=some (.aR o)):∃G',Rel F G' H σ (ρ.set i (.av (kV o)))∧Sub G G':=by
 have hi:i<ρ.length:=(List.getElem?_eq_some_iff.mp e).1;obtain⟨a,ho,ai,h1,h2,h3,h4⟩:=r.obj e;have un:Rel F G H σ (ρ.set i .un):=by have z:=r.oO (s:=.un) (o:=some (.ref a)) hi trivial fun _ f=>f.elim;rw[az.C5 ai]at z;exact z
 have no:¬cy H σ (ρ.set i .un) a:=fun⟨j,s,u,ff,fg,ny⟩=>by
  rcases get_set ff with⟨_,z⟩|⟨ne,ff⟩
  ·subst z;exact ny
  ·exact ne (r.jY i j a _ s _ u e ff ai fg rfl ny)
 have a7:=un.take h1 h2 h3 no;have dN:=a7.oO (i:=i) (s:=.av (kV o)) (o:=some (.ref a)) (by simpa using hi) ⟨.ref a,rfl,(h4.mono (Sub.upd h2)).at c3⟩ fun _ f=>f.elim;rw[az.C5 ai,List.set_set]at dN;exact⟨upd G a ho,dN,Sub.upd h2⟩
end
abbrev ay:=ah→R D
abbrev bN:=ah→R Bool
abbrev aN:=ah→R (List D)
inductive eI where
 |bj (ρ:ah)|dB (d:D)|gN (ds:List D)|d9 (ρ:ah)|b3 (ρ:ah)|gM (t:T)
abbrev a_:=ah→R eI
def hY(F:a3)(c:Str):Prop:=∀G' H',dF F G' H'→F.eR c H'
noncomputable def hj(F:a3)(G H:J)(σ :St)(ρ:ah)(Q:bT):R D→Prop
 |.ok d=>∀v H' G',Rel F G' H' σ ρ→bQ G H G' H'→At F.K G' d v→Q v H'
 |.exc c=>hY F c
 |.bad=>False
noncomputable def n8(F:a3)(G H:J)(σ :St)(ρ:ah)(Q:Bool→J→Prop):R Bool→Prop
 |.ok b=>∀H' G',Rel F G' H' σ ρ→bQ G H G' H'→Q b H'
 |.exc c=>hY F c
 |.bad=>False
noncomputable def JW(F:a3)(G H:J)(σ :St)(ρ:ah)(Q:List V→J→Prop):R (List D)→Prop
 |.ok ds=>∀vs H' G',Rel F G' H' σ ρ→bQ G H G' H'→aE F.K G' ds vs→Q vs H'
 |.exc c=>hY F c
 |.bad=>False
noncomputable def J2(F:a3)(G H:J)(σ :St)(ρ:ah)(Q:bT):R (List D)→Prop
 |.ok ds=>∀a xs H' G',Rel F G' H' σ ρ→bQ G H G' H'→H a=none→H' a=some (.lst xs)→G' a=none→aE F.K G' ds xs→Q (.ref a) H'
 |.exc c=>hY F c
 |.bad=>False
noncomputable def gE(F:a3)(G:J)(b8:Ends):R eI→Prop
 |.ok (.bj bo)=>∀ σ' G' H',Rel F G' H' σ' bo→Sub G G'→b8.bj σ' H'
 |.ok (.d9 bo)=>∀ σ' G' H',Rel F G' H' σ' bo→Sub G G'→b8.d9 σ' H'
 |.ok (.b3 bo)=>∀ σ' G' H',Rel F G' H' σ' bo→Sub G G'→b8.b3 σ' H'
 |.ok (.dB d)=>∀v G' H',dF F G' H'→At F.K G' d v→b8.dB v H'
 |.ok (.gN ds)=>∀a xs G' H',dF F G' H'→G' a=none→F.H0 a=none→H' a=some (.lst xs)→aE F.K G' ds xs→b8.dB (.ref a) H'
 |.ok (.gM t)=>∀v G' H',dF F G' H'→nK F G' H' t v→b8.dB v H'
 |.exc c=>hY F c
 |.bad=>False
def cc(F:a3)(m:ay):TE:=fun σ H Q=>∃G ρ,Rel F G H σ ρ∧hj F G H σ ρ Q (m ρ)
def e1(F:a3)(m:bN):TT:=fun σ H Q=>∃G ρ,Rel F G H σ ρ∧n8 F G H σ ρ Q (m ρ)
def dE(F:a3)(m:aN):dX:=fun σ H Q=>∃G ρ,Rel F G H σ ρ∧JW F G H σ ρ Q (m ρ)
def ie(F:a3)(m:aN):TE:=fun σ H Q=>∃G ρ,Rel F G H σ ρ∧J2 F G H σ ρ Q (m ρ)
def ej(F:a3)(m:a_):dR:=fun b8 σ H=>∃G ρ,Rel F G H σ ρ∧gE F G b8 (m ρ)
section
variable{F:a3}{G aL H H1:J}{σ :St}{ρ:ah}
theorem hj.mono{Q:bT}(s:bQ G H aL H1):∀{r:R D},hj F G H σ ρ Q r→hj F aL H1 σ ρ Q r
 |.ok _,h=>fun v H' G' r aY a=>h v H' G' r (s.trans aY) a
 |.exc _,h=>h
 |.bad,h=>h
theorem n8.mono{Q:Bool→J→Prop}(s:bQ G H aL H1):∀{r:R Bool},n8 F G H σ ρ Q r→n8 F aL H1 σ ρ Q r
 |.ok _,h=>fun H' G' r aY=>h H' G' r (s.trans aY)
 |.exc _,h=>h
 |.bad,h=>h
theorem gE.mono{b8:Ends}(s:Sub G aL):∀{r:R eI},gE F G b8 r→gE F aL b8 r
 |.ok (.bj _),h=>fun σ' G' H' r aY=>h σ' G' H' r (s.trans aY)
 |.ok (.d9 _),h=>fun σ' G' H' r aY=>h σ' G' H' r (s.trans aY)
 |.ok (.b3 _),h=>fun σ' G' H' r aY=>h σ' G' H' r (s.trans aY)
 |.ok (.dB _),h=>h
 |.ok (.gN _),h=>h
 |.ok (.gM _),h=>h
 |.exc _,h=>h
 |.bad,h=>h
end
abbrev dq(t' t:TE):Prop:=∀ σ H Q,t' σ H Q→t σ H Q
abbrev km(t' t:TT):Prop:=∀ σ H Q,t' σ H Q→t σ H Q
abbrev nF(t' t:dX):Prop:=∀ σ H Q,t' σ H Q→t σ H Q
abbrev gx(t' t:dR):Prop:=∀b8 σ H,t' b8 σ H→t b8 σ H
def aj(i:Nat):ay:=fun ρ=>match ρ[i]? with
 |some (.av d)=>.ok d
 |_=>.bad
def aw(d:D):ay:=fun _=>.ok d
section
variable{F:a3}
theorem Jo(i:Nat):dq (cc F (aj i)) (tO i):=by
 rintro σ H Q ⟨G,ρ,r,h⟩;unfold aj at h;cases e:ρ[i]? with
 |none=>rw[e]at h;exact h.elim
 |some s=>
  rw[e]at h;cases s with
  |un=>exact h.elim
  |aR _=>exact h.elim
  |cW _=>exact h.elim
  |av d=>obtain⟨v,ai,a⟩:=r.av e;exact⟨v,ai,h v H G r (bQ.refl _ _) a⟩
theorem pY{d:D}{v:V}(a:∀G,At F.K G d v):dq (cc F (aw d)) (l3 v):=by rintro σ H Q ⟨G,ρ,r,h⟩;exact h v H G r (bQ.refl _ _) (a G)
def aB(f:D→D→R D)(a b:ay):ay:=fun ρ=>(a ρ).bind fun x=>(b ρ).bind fun y=>f x y
noncomputable def eJ(F:a3)(r:dr)(f:D→D→R D):Prop:=∀ σ ρ G H x y aJ e7 Q,Rel F G H σ ρ→At F.K G aJ x→At F.K G e7 y→hj F G H σ ρ Q (f aJ e7)→r x y H Q
theorem sE{r:dr}{f:D→D→R D}{ma e0:ay}(ho:eJ F r f):dq (cc F (aB f ma e0)) (q6 r (cc F ma) (cc F e0)):=by
 rintro σ H Q ⟨G,ρ,r,h⟩;unfold aB at h;refine⟨G,ρ,r,?_⟩;cases ak:ma ρ with
 |bad=>rw[ak]at h;exact h.elim
 |exc c=>rw[ak]at h;exact h
 |ok aJ=>
  rw[ak,R.bh]at h;intro x H1 aL ao s1 bu;refine⟨aL,ρ,ao,?_⟩;cases bz:e0 ρ with
  |bad=>rw[bz]at h;exact h.elim
  |exc c=>rw[bz]at h;exact h
  |ok e7=>rw[bz,R.bh]at h;intro y aQ cx a7 s2 cC;exact ho σ ρ cx aQ x y aJ e7 Q a7 (bu.mono s2.g) cC (h.mono (s1.trans s2))
def bW(f:D→R D)(a:ay):ay:=fun ρ=>(a ρ).bind f
noncomputable def yy(F:a3)(r:V→J→bT→Prop)(f:D→R D):Prop:=∀ σ ρ G H x aJ Q,Rel F G H σ ρ→At F.K G aJ x→hj F G H σ ρ Q (f aJ)→r x H Q
theorem Jn{r:V→J→bT→Prop}{f:D→R D}{ma:ay}(ho:yy F r f):dq (cc F (bW f ma)) (Dy r (cc F ma)):=by
 rintro σ H Q ⟨G,ρ,r,h⟩;unfold bW at h;refine⟨G,ρ,r,?_⟩;cases ak:ma ρ with
 |bad=>rw[ak]at h;exact h.elim
 |exc c=>rw[ak]at h;exact h
 |ok aJ=>rw[ak,R.bh]at h;intro x H1 aL ao s1 bu;exact ho σ ρ aL H1 x aJ Q ao bu (h.mono s1)
def ax:aN:=fun _=>.ok []
def ae(a:ay)(r:aN):aN:=fun ρ=>(a ρ).bind fun x=>(r ρ).bind fun xs=>.ok (x::xs)
theorem I8:nF (dE F ax) nk:=by rintro σ H Q ⟨G,ρ,r,h⟩;exact h [] H G r (bQ.refl _ _) .nil
theorem IM{ma:ay}{qv:aN}:nF (dE F (ae ma qv)) (q4 (cc F ma) (dE F qv)):=by
 rintro σ H Q ⟨G,ρ,r,h⟩;unfold ae at h;refine⟨G,ρ,r,?_⟩;cases ak:ma ρ with
 |bad=>rw[ak]at h;exact h.elim
 |exc c=>rw[ak]at h;exact h
 |ok aJ=>
  rw[ak,R.bh]at h;intro x H1 aL ao s1 bu;refine⟨aL,ρ,ao,?_⟩;cases bz:qv ρ with
  |bad=>rw[bz]at h;exact h.elim
  |exc c=>rw[bz]at h;exact h
  |ok e7=>rw[bz,R.bh]at h;intro y aQ cx a7 s2 cC;exact h (x::y) aQ cx a7 (s1.trans s2) (.cons (bu.mono s2.g) cC)
def bP(m:aN):ay:=fun ρ=>(m ρ).bind fun xs=>if xs.length≤1000000 then .ok (.tup xs)else .bad
theorem Jl{m:aN}:dq (cc F (bP m)) (Dx (dE F m)):=by
 rintro σ H Q ⟨G,ρ,r,h⟩;unfold bP at h;refine⟨G,ρ,r,?_⟩;cases ak:m ρ with
 |bad=>rw[ak]at h;exact h.elim
 |exc c=>rw[ak]at h;exact h
 |ok ds=>
  rw[ak,R.bh]at h;intro vs H1 aL ao s1 a;by_cases hl:ds.length≤1000000
  ·rw[if_pos hl]at h;refine⟨by rw[←a.length];exact Nat.le_trans hl (by decide),fun p hp=>?_⟩;refine h (.ref p) _ _ (ao.lay hp) (s1.trans (bQ.lay ao.aA.sub hp)) ?_;simp only[At];exact⟨p,vs,rfl,c3,a.mono (Sub.upd (ao.aA.sub.gone hp))⟩
  ·rw[if_neg hl]at h;exact h.elim
theorem cy.back{G H H':J}{σ :St}{ρ:ah}(r:Rel F G H σ ρ)(s:Sub H H'){a:Addr}(h:cy H' σ ρ a):cy H σ ρ a:=by
 obtain⟨i,b1,o,ai,au,f⟩:=h;refine⟨i,b1,o,ai,au,?_⟩;obtain⟨bw,bB,q⟩:=r.b1 i b1 ai;rw[au]at bB;cases bB;exact(q.keep (G':=G) (H':=H') (Sub.refl _) fun b kC=>⟨by
  cases e:H b with
  |none=>exact absurd e (q.foot kC).1
  |some u=>exact s b u e,(q.foot kC).2.1⟩).2 a f
theorem cy.fresh{G H H':J}{σ :St}{ρ:ah}(r:Rel F G H σ ρ)(s:Sub H H'){a:Addr}(n:H a=none):¬cy H' σ ρ a:=fun h=>(r.foot (h.back r s)).1 n
def lim(xs:List D):R (List D):=if xs.length≤1000000 then .ok xs else .bad
def dy(m:aN):aN:=fun ρ=>(m ρ).bind lim
theorem I1{m:aN}:dq (ie F (dy m)) (xT (dE F m)):=by
 rintro σ H Q ⟨G,ρ,r,h⟩;unfold dy lim at h;refine⟨G,ρ,r,?_⟩;cases ak:m ρ with
 |bad=>rw[ak]at h;exact h.elim
 |exc c=>rw[ak]at h;exact h
 |ok ds=>
  rw[ak,R.bh]at h;intro vs H1 aL ao s1 a;by_cases hl:ds.length≤1000000
  ·rw[if_pos hl]at h;refine⟨by rw[←a.length];exact Nat.le_trans hl (by decide),fun p hp=>?_⟩;exact h p vs _ aL (ao.lay0 hp) (s1.trans (bQ.lay0 hp)) (s1.h.gone hp) c3 (ao.aA.sub.gone hp) a
  ·rw[if_neg hl]at h;exact h.elim
def cO(m:aN):ay:=fun ρ=>(m ρ).bind fun xs=>.ok (.lst xs)
theorem IW{m:aN}:dq (cc F (cO m)) (ie F m):=by
 rintro σ H Q ⟨G,ρ,r,h⟩;unfold cO at h;refine⟨G,ρ,r,?_⟩;cases ak:m ρ with
 |bad=>rw[ak]at h;exact h.elim
 |exc c=>rw[ak]at h;exact h
 |ok ds=>rw[ak,R.bh]at h;intro a xs H' G' aZ s' aI ha hg q;refine h (.ref a) H' _ (aZ.take ha hg (r.aA.hh.gone aI) (cy.fresh r s'.h aI)) (s'.put aI hg) ?_;simp only[At];exact⟨a,xs,rfl,c3,q.mono (Sub.upd hg)⟩
def hP:D→R Bool
 |.aq b=>.ok b
 |_=>.bad
def bV(m:ay):bN:=fun ρ=>(m ρ).bind hP
theorem sD{m:ay}:km (e1 F (bV m)) (xO (cc F m)):=by
 rintro σ H Q ⟨G,ρ,r,h⟩;unfold bV at h;refine⟨G,ρ,r,?_⟩;cases ak:m ρ with
 |bad=>rw[ak]at h;exact h.elim
 |exc c=>rw[ak]at h;exact h
 |ok d=>
  rw[ak,R.bh]at h;intro x H1 aL ao s1 bu
  cases d<;>first
   |(exact h.elim)
   |(simp only[At]at bu;exact⟨_,bu,h H1 aL ao s1⟩)
theorem AO{m:ay}:km (e1 F (bV m)) (xV (cc F m)):=sD
def oe(a b:bN):bN:=fun ρ=>(a ρ).bind fun c=>if c=true then b ρ else .ok false
def fV(a b:bN):bN:=fun ρ=>(a ρ).bind fun c=>if c=true then .ok true else b ρ
def dU(a:bN):bN:=fun ρ=>(a ρ).bind fun c=>.ok (!c)
theorem IF{a b:bN}:km (e1 F (oe a b)) (Dh (e1 F a) (e1 F b)):=by
 rintro σ H Q ⟨G,ρ,r,h⟩;unfold oe at h;refine⟨G,ρ,r,?_⟩;cases ak:a ρ with
 |bad=>rw[ak]at h;exact h.elim
 |exc c=>rw[ak]at h;exact h
 |ok c=>
  rw[ak,R.bh]at h;intro H1 aL ao s1;cases c with
  |true=>exact⟨aL,ρ,ao,n8.mono s1 h⟩
  |false=>exact h H1 aL ao s1
theorem Jb{a b:bN}:km (e1 F (fV a b)) (Du (e1 F a) (e1 F b)):=by
 rintro σ H Q ⟨G,ρ,r,h⟩;unfold fV at h;refine⟨G,ρ,r,?_⟩;cases ak:a ρ with
 |bad=>rw[ak]at h;exact h.elim
 |exc c=>rw[ak]at h;exact h
 |ok c=>
  rw[ak,R.bh]at h;intro H1 aL ao s1;cases c with
  |true=>exact h H1 aL ao s1
  |false=>exact⟨aL,ρ,ao,n8.mono s1 h⟩
theorem I_{a:bN}:km (e1 F (dU a)) (Ds (e1 F a)):=by
 rintro σ H Q ⟨G,ρ,r,h⟩;unfold dU at h;refine⟨G,ρ,r,?_⟩;cases ak:a ρ with
 |bad=>rw[ak]at h;exact h.elim
 |exc c=>rw[ak]at h;exact h
 |ok c=>rw[ak,R.bh]at h;exact h
noncomputable def hn(a b:ay):ay:=fun ρ=>(a ρ).bind fun x=>(hP x).bind fun c=>if c=true then b ρ else .ok (.aq false)
noncomputable def K4(a b:ay):ay:=fun ρ=>(a ρ).bind fun x=>(hP x).bind fun c=>if c=true then .ok (.aq true)else b ρ
def m3(a:ay):ay:=fun ρ=>(a ρ).bind fun x=>(hP x).bind fun c=>.ok (.aq (!c))
theorem IG{a b:ay}:dq (cc F (hn a b)) (Di (cc F a) (cc F b)):=by
 rintro σ H Q ⟨G,ρ,r,h⟩;unfold hn at h;refine⟨G,ρ,r,?_⟩;cases ak:a ρ with
 |bad=>rw[ak]at h;exact h.elim
 |exc c=>rw[ak]at h;exact h
 |ok d=>
  rw[ak,R.bh]at h;intro x H1 aL ao s1 bu;cases d with
  |aq c=>
   simp only[At]at bu;refine⟨c,bu,?_⟩;cases c with
   |true=>exact⟨aL,ρ,ao,hj.mono s1 h⟩
   |false=>exact h _ H1 aL ao s1 (by simp only[At])
  |_=>exact h.elim
theorem Ja{a:ay}:dq (cc F (m3 a)) (Dt (cc F a)):=by
 rintro σ H Q ⟨G,ρ,r,h⟩;unfold m3 at h;refine⟨G,ρ,r,?_⟩;cases ak:a ρ with
 |bad=>rw[ak]at h;exact h.elim
 |exc c=>rw[ak]at h;exact h
 |ok d=>
  rw[ak,R.bh]at h;intro x H1 aL ao s1 bu;cases d with
  |aq c=>simp only[At]at bu;exact⟨c,bu,h _ H1 aL ao s1 (by simp only[At])⟩
  |_=>exact h.elim
def om(c:bN)(a b:ay):ay:=fun ρ=>(c ρ).bind fun k=>if k=true then a ρ else b ρ
theorem IX{c:bN}{a b:ay}:dq (cc F (om c a b)) (Dp (e1 F c) (cc F a) (cc F b)):=by
 rintro σ H Q ⟨G,ρ,r,h⟩;unfold om at h;refine⟨G,ρ,r,?_⟩;cases ak:c ρ with
 |bad=>rw[ak]at h;exact h.elim
 |exc c=>rw[ak]at h;exact h
 |ok k=>
  rw[ak,R.bh]at h;intro H1 aL ao s1;cases k with
  |true=>exact⟨aL,ρ,ao,hj.mono s1 h⟩
  |false=>exact⟨aL,ρ,ao,hj.mono s1 h⟩
def dz:a_:=fun ρ=>.ok (.bj ρ)
def bC(a b:a_):a_:=fun ρ=>(a ρ).bind fun f=>match f with
 |.bj bo=>b bo
 |f=>.ok f
theorem I7:gx (ej F dz) Dr:=by rintro b8 σ H ⟨G,ρ,r,h⟩;exact h σ G H r (Sub.refl _)
theorem Jg{a b:a_}:gx (ej F (bC a b)) (xU (ej F a) (ej F b)):=by
 rintro b8 σ H ⟨G,ρ,r,h⟩;unfold bC at h;refine⟨G,ρ,r,?_⟩;cases ak:a ρ with
 |bad=>rw[ak]at h;exact h.elim
 |exc c=>rw[ak]at h;exact h
 |ok f=>
  rw[ak,R.bh]at h;cases f with
  |bj bo=>exact fun σ' G' H' aZ s'=>⟨G',bo,aZ,gE.mono s' h⟩
  |dB d=>exact h
  |gN d=>exact h
  |d9 d=>exact h
  |b3 d=>exact h
  |gM d=>exact h
def cY(a:ay):a_:=fun ρ=>(a ρ).bind fun d=>.ok (.dB d)
theorem Jd{a:ay}:gx (ej F (cY a)) (tN (cc F a)):=by
 rintro b8 σ H ⟨G,ρ,r,h⟩;unfold cY at h;refine⟨G,ρ,r,?_⟩;cases ak:a ρ with
 |bad=>rw[ak]at h;exact h.elim
 |exc c=>rw[ak]at h;exact h
 |ok d=>rw[ak,R.bh]at h;exact fun v H' G' aZ s' a=>h v G' H' aZ.aA a
def gm(a:aN):a_:=fun ρ=>(a ρ).bind fun d=>.ok (.gN d)
theorem Je{a:aN}:gx (ej F (gm a)) (tN (ie F a)):=by
 rintro b8 σ H ⟨G,ρ,r,h⟩;unfold gm at h;refine⟨G,ρ,r,?_⟩;cases ak:a ρ with
 |bad=>rw[ak]at h;exact h.elim
 |exc c=>rw[ak]at h;exact h
 |ok d=>rw[ak,R.bh]at h;exact fun a xs H' G' aZ s' h1 h2 h3 h4=>h a xs G' H' aZ.aA h3 (r.aA.hh.gone h1) h2 h4
def j_(i:Nat):aN:=fun ρ=>match ρ[i]? with
 |some (.aR (.lst d))=>.ok d
 |_=>.bad
theorem Jf(i:Nat):gx (ej F (gm (j_ i))) (tN (tO i)):=by
 rintro b8 σ H ⟨G,ρ,r,h⟩;unfold gm j_ at h;cases e:ρ[i]? with
 |none=>rw[e]at h;exact h.elim
 |some s=>
  rw[e]at h;cases s with
  |un=>exact h.elim
  |av _=>exact h.elim
  |cW _=>exact h.elim
  |aR o=>
   cases o with
   |lst ds=>obtain⟨a,xs,ai,h1,h2,h3,h4⟩:=r.own e;exact⟨.ref a,ai,h a xs G H r.aA h2 h3 h1 h4⟩
   |a4 _ _=>exact h.elim
   |ins _ _ _=>exact h.elim
def du(c:bN)(a b:a_):a_:=fun ρ=>(c ρ).bind fun k=>if k=true then a ρ else b ρ
theorem IY{c:bN}{a b:a_}:gx (ej F (du c a b)) (Dq (e1 F c) (ej F a) (ej F b)):=by
 rintro b8 σ H ⟨G,ρ,r,h⟩;unfold du at h;refine⟨G,ρ,r,?_⟩;cases ak:c ρ with
 |bad=>rw[ak]at h;exact h.elim
 |exc c=>rw[ak]at h;exact h
 |ok k=>
  rw[ak,R.bh]at h;intro H1 aL ao s1;cases k with
  |true=>exact⟨aL,ρ,ao,gE.mono s1.g h⟩
  |false=>exact⟨aL,ρ,ao,gE.mono s1.g h⟩
def bI(i:Nat)(d:D)(ρ:ah):R ah:=if i<ρ.length then .ok (ρ.set i (.av d))else .bad
def dA(i:Nat)(a:ay):a_:=fun ρ=>(a ρ).bind fun d=>(bI i d ρ).bind fun bo=>.ok (.bj bo)
theorem Jh{i:Nat}{a:ay}:gx (ej F (dA i a)) (q2 (cc F a) (j2 i)):=by
 rintro b8 σ H ⟨G,ρ,r,h⟩;unfold dA bI at h;refine⟨G,ρ,r,?_⟩;cases ak:a ρ with
 |bad=>rw[ak]at h;exact h.elim
 |exc c=>rw[ak]at h;exact h
 |ok d=>
  rw[ak,R.bh]at h;intro v H1 aL ao s1 bf;by_cases hi:i<ρ.length
  ·rw[if_pos hi]at h;exact h _ aL H1 (ao.set hi bf) s1.g
  ·rw[if_neg hi]at h;exact h.elim
noncomputable def gG(i:Nat)(a:aN):a_:=fun ρ=>(a ρ).bind fun ds=>if i<ρ.length then .ok (.bj (ρ.set i (.cD ds)))else .bad
theorem AW{i:Nat}{a:aN}:gx (ej F (gG i a)) (q2 (ie F a) (j2 i)):=by
 rintro b8 σ H ⟨G,ρ,r,h⟩;unfold gG at h;refine⟨G,ρ,r,?_⟩;cases ak:a ρ with
 |bad=>rw[ak]at h;exact h.elim
 |exc c=>rw[ak]at h;exact h
 |ok ds=>
  rw[ak,R.bh]at h;intro b xs H1 aL ao s1 h1 h2 h3 h4;by_cases hi:i<ρ.length
  ·rw[if_pos hi]at h;exact h _ aL H1 (ao.Ov hi h2 h3 (r.aA.hh.gone h1) h4 fun j af o _ ai au f=>cy.fresh r s1.h h1 ⟨j,af,o,ai,au,f⟩) s1.g
  ·rw[if_neg hi]at h;exact h.elim
def iQ(i:Nat)(ρ:ah):ah:=match ρ[i]? with
 |some (.aR o)=>ρ.set i (.av (kV o))
 |_=>ρ
theorem Rel.iQ{G H:J}{σ :St}{ρ:ah}(r:Rel F G H σ ρ)(i:Nat):∃G',Rel F G' H σ (az.iQ i ρ)∧Sub G G':=by
 unfold az.iQ;cases e:ρ[i]? with
 |none=>exact⟨G,r,Sub.refl _⟩
 |some s=>
  cases s with
  |un=>exact⟨G,r,Sub.refl _⟩
  |av _=>exact⟨G,r,Sub.refl _⟩
  |cW _=>exact⟨G,r,Sub.refl _⟩
  |aR o=>exact r.iu e
def oi(i:Nat)(m:a_):a_:=fun ρ=>m (iQ i ρ)
theorem IV{i:Nat}{m:a_}:gx (ej F (oi i m)) (ej F m):=by rintro b8 σ H ⟨G,ρ,r,h⟩;obtain⟨aL,ao,s1⟩:=r.iQ i;exact⟨aL,_,ao,gE.mono s1 h⟩
def fL:D→Bool
 |.non=>true|.aq _=>true|.int _=>true|.str _=>true
 |_=>false
def kD:cS→cS
 |.aR o=>.av (kV o)
 |.cW t=>.av (toD t)
 |s=>s
def eb(ρ:ah):ah:=ρ.map kD
open Classical in
noncomputable def iv(σ :St)(ρ:ah)(G H:J):J:=fun b=>if cy H σ ρ b then H b else G b
theorem si{G H:J}{σ :St}{ρ:ah}(r:Rel F G H σ ρ):Sub G (iv σ ρ G H):=fun b o e=>by
 unfold iv
 split
 ·exact r.aA.sub b o e
 ·exact e
theorem mQ{G H:J}{σ :St}{ρ:ah}{b:Addr}(h:cy H σ ρ b):iv σ ρ G H b=H b:=by unfold iv;rw[if_pos h]
theorem Hz{H:J}{ρ:ah}{i:Nat}{s:cS}(e:(eb ρ)[i]?=some s)(o:Option V)(a:Addr):¬eS H s o a:=by
 unfold eb at e;rw[List.getElem?_map]at e;cases au:ρ[i]? with
 |none=>rw[au]at e;cases e
 |some t=>rw[au]at e;have af:kD t=s:=Option.some.inj e;subst af;cases t<;>exact fun z=>z
theorem Rel.plus{G H:J}{σ :St}{ρ:ah}(r:Rel F G H σ ρ):Rel F (iv σ ρ G H) H σ (eb ρ):=by
 have aY:=si r;refine⟨⟨fun b o e=>?_,r.aA.d3.trans aY,r.aA.hh,fun b hb=>?_⟩,by simp[eb,r.len],fun i s e=>?_,fun i j a s s' o bw ai _ _ _ f _=>absurd f (Hz ai o a)⟩
 ·unfold iv at e
  split at e
  ·exact e
  ·exact r.aA.sub b o e
 ·unfold iv
  split
  ·rename_i z;exact absurd (r.foot z).2.2 hb
  ·exact r.aA.new b hb
 ·unfold eb at e;rw[List.getElem?_map]at e;cases ai:ρ[i]? with
  |none=>rw[ai]at e;cases e
  |some t=>
   rw[ai]at e;have af:kD t=s:=Option.some.inj e;obtain⟨o,au,q⟩:=r.b1 i t ai;refine⟨o,au,?_⟩;subst af;cases t with
   |un=>trivial
   |av d=>obtain⟨v,bB,a⟩:=q;exact⟨v,bB,a.mono aY⟩
   |aR ds=>obtain⟨a,ho,bB,h1,h2,h3,h4⟩:=q;subst bB;exact⟨.ref a,rfl,(h4.mono aY).at (by rw[mQ (.aR ai au)];exact h1)⟩
   |cW t=>obtain⟨v,bB,q⟩:=q;exact⟨v,bB,q.at_.view aY fun a ha=>mQ ⟨i,_,o,ai,au,v,bB,ha⟩⟩
theorem Rel.back{G H G' H':J}{σ :St}{ρ:ah}(r:Rel F G H σ ρ)(aZ:Rel F G' H' σ (eb ρ))(s:Sub (iv σ ρ G H) G'):Rel F G H' σ ρ:=
 r.over rfl ⟨(si r).trans (s.trans aZ.aA.sub),r.aA.d3,aZ.aA.hh,r.aA.new⟩ (Sub.refl _) fun a ha=>by
   obtain⟨h1,h2,h3⟩:=r.foot ha;refine⟨?_,h2,h3⟩;cases e:H a with
   |none=>exact absurd e h1
   |some o=>exact aZ.aA.sub _ _ (s _ _ (by rw[mQ ha];exact e))
def tl(d:D):R D:=if fL d=true then .ok d else .bad
def KY(m:ay):ay:=fun ρ=>(m (eb ρ)).bind tl
def lO(m:bN):bN:=fun ρ=>m (eb ρ)
theorem IJ{m:bN}:km (e1 F (lO m)) (e1 F m):=by
 rintro σ H Q ⟨G,ρ,r,h⟩;refine⟨iv σ ρ G H,eb ρ,r.plus,?_⟩;unfold lO at h;cases ak:m (eb ρ)with
 |bad=>rw[ak]at h;exact h.elim
 |exc c=>rw[ak]at h;exact h
 |ok d=>rw[ak]at h;exact fun H' G' aZ s'=>h H' G (r.back aZ s'.g) ⟨Sub.refl _,s'.h,fun _ _=>rfl⟩
end
section
variable{F:a3}
structure lq(K:PySem.W.Frag)(bk:It)(ds:List D)(G:J):Prop where
 go:∀(i:Nat)(H:J),Sub G H→i<ds.length→bk.go i H
 jf:∀(i:Nat)(H:J)(x:V)(H':J),Sub G H→i<ds.length→bk.jf i H x H'→∃d,ds[i]?=some d∧
  ((H'=H∧At K G d x)∨∃p xs af,H p=none∧H'=upd H p (.tup xs)∧x=.ref p∧d=.tup af∧aE K G af xs)
 stop:∀(H:J),Sub G H→bk.stop ds.length H
noncomputable def J0(F:a3)(G H:J)(σ :St)(ρ:ah)(Q:It→J→Prop):R (List D)→Prop
 |.ok ds=>∀bk H' G',Rel F G' H' σ ρ→bQ G H G' H'→lq F.K bk ds G'→Q bk H'
 |.exc c=>hY F c
 |.bad=>False
def k6(F:a3)(m:aN):TI:=fun σ H Q=>∃G ρ,Rel F G H σ ρ∧J0 F G H σ ρ Q (m ρ)
abbrev o9(t' t:TI):Prop:=∀ σ H Q,t' σ H Q→t σ H Q
theorem lq.turn{bk:It}{ds:List D}{G aL H H':J}{σ :St}{ρ:ah}{i:Nat}{x:V}(t:lq F.K bk ds G)(r:Rel F aL H σ ρ)(s:Sub G aL)(hi:i<ds.length)(y:bk.jf i H x H') :
  ∃d G',ds[i]?=some d∧Rel F G' H' σ ρ∧bQ aL H G' H'∧At F.K G' d x:=by
 obtain⟨d,e,h⟩:=t.jf i H x H' (s.trans r.aA.sub) hi y;rcases h with⟨rfl,a⟩|⟨p,xs,af,hp,rfl,rfl,rfl,a⟩
 ·exact⟨d,aL,e,r,bQ.refl _ _,a.mono s⟩
 ·refine⟨_,_,e,r.lay hp,bQ.lay r.aA.sub hp,?_⟩;simp only[At];exact⟨p,xs,rfl,c3,(a.mono s).mono (Sub.upd (r.aA.sub.gone hp))⟩
noncomputable def lj(F:a3)(g:f_)(set:D→ah→R ah):Prop:=∀ σ ρ G H v d Q bo,Rel F G H σ ρ→At F.K G d v→set d ρ=.ok bo→(∀ σ',Rel F G H σ' bo→Q σ' H)→g v σ H Q
theorem sk(i:Nat):lj F (j2 i) (bI i):=by
 intro σ ρ G H v d Q bo r a e h;unfold bI at e;by_cases hi:i<ρ.length
 ·rw[if_pos hi]at e;cases e;exact h _ (r.set hi a)
 ·rw[if_neg hi]at e;cases e
noncomputable def fY:List (D→ah→R ah)→List D→ah→R ah
 |[],[],ρ=>.ok ρ
 |f::aK,d::ds,ρ=>(f d ρ).bind fun bo=>fY aK ds bo
 |_,_,_=>.bad
noncomputable def o8(F:a3)(g:jT)(set:List D→ah→R ah):Prop:=∀ σ ρ G H vs ds Q bo,Rel F G H σ ρ→aE F.K G ds vs→set ds ρ=.ok bo→(∀ σ',Rel F G H σ' bo→Q σ' H)→g vs σ H Q
theorem Af:o8 F sh (fY []):=by
 intro σ ρ G H vs ds Q bo r a e h;cases ds with
 |nil=>simp only[aE]at a;cases e;exact⟨a,h σ r⟩
 |cons d ds=>cases e
theorem vy{g:f_}{kE:jT}{f:D→ah→R ah}{aK:List (D→ah→R ah)}(h1:lj F g f)(h2:o8 F kE (fY aK)):o8 F (pR g kE) (fY (f::aK)):=by
 intro σ ρ G H vs ds Q bo r a e h;cases ds with
 |nil=>cases e
 |cons d ds=>
  simp only[aE]at a;obtain⟨v,t4,rfl,bf,kx⟩:=a;simp only[fY]at e;cases ai:f d ρ with
  |bad=>rw[ai]at e;cases e
  |exc c=>rw[ai]at e;cases e
  |ok dI=>rw[ai,R.bh]at e;refine⟨v,t4,rfl,h1 σ ρ G H v d _ dI r bf ai fun σ1 ao=>?_⟩;exact h2 σ1 dI G H t4 ds Q bo ao kx e h
def gP(aK:List (D→ah→R ah)):D→ah→R ah
 |.tup ds,ρ=>fY aK ds ρ
 |_,_=>.bad
theorem C1:∀{aK:List (D→ah→R ah)}{ds:List D}{ρ bo:ah},fY aK ds ρ=.ok bo→ds.length=aK.length
 |[],[],_,_,_=>rfl
 |[],_::_,_,_,e=>by cases e
 |_::_,[],_,_,e=>by cases e
 |f::aK,d::ds,ρ,bo,e=>by
  simp only[fY]at e;cases ai:f d ρ with
  |bad=>rw[ai]at e;cases e
  |exc c=>rw[ai]at e;cases e
  |ok dI=>rw[ai,R.bh]at e;simp[C1 e]
theorem Ag{kE:jT}{aK:List (D→ah→R ah)}{n:Nat}(aI:n=aK.length)(h:o8 F kE (fY aK)):lj F (sj F.K n kE) (gP aK):=by
 intro σ ρ G H v d Q bo r a e k;cases d with
 |tup ds=>simp only[At]at a;obtain⟨p,xs,rfl,aH,al⟩:=a;refine⟨p,xs,rfl,cB.of (r.aA.sub _ _ aH),?_,h σ ρ G H xs ds Q bo r al e k⟩;rw[←al.length,aI];exact C1 e
 |_=>cases e
noncomputable def fF(set:D→ah→R ah)(body:a_):List D→ah→R eI
 |[],ρ=>.ok (.bj ρ)
 |d::ds,ρ=>(set d ρ).bind fun dI=>(body dI).bind fun f=>match f with
  |.bj eQ=>fF set body ds eQ
  |.b3 eQ=>fF set body ds eQ
  |.d9 eQ=>.ok (.bj eQ)
  |f=>.ok f
def eN(mi:aN)(set:D→ah→R ah)(body:a_):a_:=fun ρ=>(mi ρ).bind fun ds=>fF set body ds ρ
theorem IU{mi:aN}{set:D→ah→R ah}{body:a_}{g:f_}(hg:lj F g set)(hx:∀d ρ c,set d ρ≠.exc c):gx (ej F (eN mi set body)) (Dn (k6 F mi) g (ej F body)):=by
 rintro b8 σ H ⟨G,ρ,r,h⟩;unfold eN at h;refine⟨G,ρ,r,?_⟩;cases ak:mi ρ with
 |bad=>rw[ak]at h;exact h.elim
 |exc c=>rw[ak]at h;exact h
 |ok ds=>
  rw[ak,R.bh]at h;intro bk H1 aL ao s1 it;refine⟨fun i m σ2 aQ=>m=ds.length-i∧i≤ds.length∧∃cx eQ,Rel F cx aQ σ2 eQ∧Sub aL cx∧gE F cx b8 (fF set body (ds.drop i) eQ),⟨ds.length,by simp,Nat.zero_le _,aL,ρ,ao,Sub.refl _,gE.mono s1.g (by simpa using h)⟩,?_⟩;rintro i m σ2 aQ ⟨rfl,hi,cx,eQ,a7,s2,k2⟩;by_cases gD:i<ds.length
  ·refine .inr ⟨it.go i aQ (s2.trans a7.aA.sub) gD,fun σ3 cN=>∃fN ud,Rel F fN cN σ3 ud∧Sub aL fN∧gE F fN b8 (fF set body (ds.drop (i+1)) ud),fun σ3 cN⟨fN,ud,dN,s3,k3⟩=>⟨ds.length-(i+1),by omega,rfl,gD,fN,ud,dN,s3,k3⟩,fun x cN y=>?_⟩;obtain⟨d,fN,bB,dN,s3,jl⟩:=it.turn a7 s2 gD y;have eW:ds.drop i=d::ds.drop (i+1):=by
    rw[List.drop_eq_getElem_cons gD];have:=List.getElem?_eq_getElem gD;rw[bB]at this;rw[Option.some.inj this]
   rw[eW]at k2;simp only[fF]at k2;cases c2:set d eQ with
   |bad=>rw[c2]at k2;exact k2.elim
   |exc c=>exact absurd c2 (hx d eQ c)
   |ok iG=>
    rw[c2,R.bh]at k2;refine hg σ2 eQ fN cN x d _ iG dN jl c2 fun σ5 jB=>⟨fN,iG,jB,?_⟩;have qR:Sub cx fN:=s3.g;cases jq:body iG with
    |bad=>rw[jq]at k2;exact k2.elim
    |exc c=>rw[jq]at k2;exact k2
    |ok f=>
     rw[jq,R.bh]at k2;cases f with
     |bj ue=>exact fun σ7 o7 fO kW dC=>⟨o7,ue,kW,s2.trans (qR.trans dC),gE.mono (qR.trans dC) k2⟩
     |b3 ue=>exact fun σ7 o7 fO kW dC=>⟨o7,ue,kW,s2.trans (qR.trans dC),gE.mono (qR.trans dC) k2⟩
     |d9 ue=>exact fun σ7 o7 fO kW dC=>k2 σ7 o7 fO kW (qR.trans dC)
     |dB d=>exact k2
     |gN ds=>exact k2
     |gM t=>exact k2
  ·have e:ds.drop i=[]:=List.drop_eq_nil_of_le (by omega);rw[e]at k2;have iO:i=ds.length:=by omega
   subst iO;exact .inl ⟨it.stop aQ (s2.trans a7.aA.sub),k2 σ2 cx aQ a7 (Sub.refl _)⟩
theorem tE(i:Nat):∀d ρ c,bI i d ρ≠.exc c:=fun d ρ c=>by
 unfold bI
 split<;>exact fun z=>nomatch z
theorem C2:∀{aK:List (D→ah→R ah)},(∀f∈aK,∀d ρ c,f d ρ≠.exc c)→∀ds ρ c,fY aK ds ρ≠.exc c
 |[],_,[],_,_,e=>nomatch e
 |[],_,_::_,_,_,e=>nomatch e
 |_::_,_,[],_,_,e=>nomatch e
 |f::aK,h,d::ds,ρ,c,e=>by
  simp only[fY]at e;cases ai:f d ρ with
  |bad=>rw[ai]at e;cases e
  |exc c=>exact h f (by simp) d ρ c ai
  |ok dI=>rw[ai,R.bh]at e;exact C2 (fun g hg=>h g (by simp[hg])) ds dI c e
theorem C4{aK:List (D→ah→R ah)}(h:∀f∈aK,∀d ρ c,f d ρ≠.exc c):∀d ρ c,gP aK d ρ≠.exc c:=fun d ρ c e=>by
 cases d<;>first
  |(exact C2 h _ _ _ e)
  |(cases e)
theorem A6{K:PySem.W.Frag}{G:J}{a:Addr}{xs:List V}{ds:List D}(h:bx K G a xs)(q:aE K G ds xs):lq K (uD K a) ds G where
 go:=fun i H s hi=>by obtain⟨v,e,_⟩:=q.get (List.getElem?_eq_getElem hi);exact⟨xs,v,bx.mono s h,e⟩
 jf:=fun i H x H' s hi y=>by obtain⟨rfl,y⟩:=y;obtain⟨d,e,a⟩:=q.vA (y xs (bx.mono s h));exact⟨d,e,.inl ⟨rfl,a⟩⟩
 stop:=fun H s=>⟨xs,bx.mono s h,by rw[←q.length];exact Nat.le_refl _⟩
theorem A7{K:PySem.W.Frag}{G:J}{a:Addr}{xs:List V}{ds:List D}(h:cB K G a xs)(q:aE K G ds xs):lq K (uE K a) ds G where
 go:=fun i H s hi=>by obtain⟨v,e,_⟩:=q.get (List.getElem?_eq_getElem hi);exact⟨xs,v,cB.mono s h,e⟩
 jf:=fun i H x H' s hi y=>by obtain⟨rfl,y⟩:=y;obtain⟨d,e,a⟩:=q.vA (y xs (cB.mono s h));exact⟨d,e,.inl ⟨rfl,a⟩⟩
 stop:=fun H s=>⟨xs,cB.mono s h,by rw[←q.length];exact Nat.le_refl _⟩
def fX(lo:Int)(n:Nat):List D:=(List.range n).map fun(i:Nat)=>.int (lo+(i:Int))
theorem JL{K:PySem.W.Frag}{G:J}(lo:Int)(n:Nat):lq K (rB lo n) (fX lo n) G where
 go:=fun i H s hi=>by
  have h:i<n:=by simpa[fX]using hi
  exact h
 jf:=fun i H x H' s hi y=>by
  have h:i<n:=by simpa[fX]using hi
  obtain⟨ai,au⟩:=y;refine⟨.int (lo+(i:Int)),?_,.inl ⟨ai,?_⟩⟩
  ·unfold fX;rw[List.getElem?_map,List.getElem?_range h];rfl
  ·simp only[At];exact au
 stop:=fun H s=>by
  have h:n≤(fX lo n).length:=by simp[fX]
  exact h
def xD:D→R (List D)
 |.lst ds=>.ok ds
 |.bM ds=>.ok ds
 |_=>.bad
def xY:D→R (List D)
 |.tup ds=>.ok ds
 |.cM ds=>.ok ds
 |_=>.bad
def hy(m:ay):aN:=fun ρ=>(m ρ).bind xD
theorem IZ{m:ay}:o9 (k6 F (hy m)) (AK F.K (cc F m)):=by
 rintro σ H Q ⟨G,ρ,r,h⟩;unfold hy at h;refine⟨G,ρ,r,?_⟩;cases ak:m ρ with
 |bad=>rw[ak]at h;exact h.elim
 |exc c=>rw[ak]at h;exact h
 |ok d=>
  rw[ak,R.bh]at h;intro v H1 aL ao s1 a;cases d with
  |lst ds=>simp only[At]at a;obtain⟨p,xs,e,aH,al⟩:=a;exact⟨p,e,⟨xs,bx.of (ao.aA.sub _ _ aH)⟩,h _ H1 aL ao s1 (A6 (bx.of aH) al)⟩
  |bM ds=>simp only[At]at a;obtain⟨p,xs,e,aH,al⟩:=a;exact⟨p,e,⟨xs,bx.mono ao.aA.sub aH⟩,h _ H1 aL ao s1 (A6 aH al)⟩
  |_=>exact h.elim
def m2(m:ay):aN:=fun ρ=>(m ρ).bind xY
theorem Jm{m:ay}:o9 (k6 F (m2 m)) (AM F.K (cc F m)):=by
 rintro σ H Q ⟨G,ρ,r,h⟩;unfold m2 at h;refine⟨G,ρ,r,?_⟩;cases ak:m ρ with
 |bad=>rw[ak]at h;exact h.elim
 |exc c=>rw[ak]at h;exact h
 |ok d=>
  rw[ak,R.bh]at h;intro v H1 aL ao s1 a;cases d with
  |tup ds=>simp only[At]at a;obtain⟨p,xs,e,aH,al⟩:=a;exact⟨p,e,⟨xs,cB.of (ao.aA.sub _ _ aH)⟩,h _ H1 aL ao s1 (A7 (cB.of aH) al)⟩
  |cM ds=>simp only[At]at a;obtain⟨p,xs,e,aH,al⟩:=a;exact⟨p,e,⟨xs,cB.mono ao.aA.sub aH⟩,h _ H1 aL ao s1 (A7 aH al)⟩
  |_=>exact h.elim
def qO:List D→R (List D)
 |[.int j]=>if-(2^62)≤j∧j<2^62 then .ok (fX 0 j.toNat)else .bad
 |_=>.bad
theorem aE.ints1{K:PySem.W.Frag}{G:J}{j:Int}{vs:List V}(a:aE K G [.int j] vs):vs=[.int j]:=by simp only[aE,At]at a;obtain⟨v,r,rfl,rfl,rfl⟩:=a;rfl
def gF(m:aN):aN:=fun ρ=>(m ρ).bind qO
theorem Jc{m:aN}:o9 (k6 F (gF m)) (AL (dE F m)):=by
 rintro σ H Q ⟨G,ρ,r,h⟩;unfold gF at h;refine⟨G,ρ,r,?_⟩;cases ak:m ρ with
 |bad=>rw[ak]at h;exact h.elim
 |exc c=>rw[ak]at h;exact h
 |ok ds=>
  rw[ak,R.bh]at h;intro vs H1 aL ao s1 a;unfold qO at h
  split at h
  ·rename_i j
   split at h
   ·rename_i b4;exact⟨j,a.ints1,b4.1,b4.2,h _ H1 aL ao s1 (JL 0 j.toNat)⟩
   ·exact h.elim
  ·exact h.elim
inductive b0 where
 |v (d:D)|o (ds:List D)|t (t:T)
noncomputable def JY(F:a3)(Q:bT):R b0→Prop
 |.ok (.v d)=>∀v G' H',dF F G' H'→At F.K G' d v→Q v H'
 |.ok (.o ds)=>∀a xs G' H',dF F G' H'→G' a=none→F.H0 a=none→H' a=some (.lst xs)→aE F.K G' ds xs→Q (.ref a) H'
 |.ok (.t t)=>∀v G' H',dF F G' H'→nK F G' H' t v→Q v H'
 |.exc c=>hY F c
 |.bad=>False
noncomputable def nh(K:PySem.W.Frag)(n:Nat)(xe:cn→Str→J→Prop)(mf:List D→R b0):hL:=fun vs H Q E=>∃G ds,Sub G H∧aE K G ds vs∧ds.length=n∧JY ⟨K,G,H,xe E⟩ Q (mf ds)
theorem tG{K:PySem.W.Frag}{n:Nat}{xe:cn→Str→J→Prop}{mf:List D→R b0}:∀vs H Q E,nh K n xe mf vs H Q E→vs.length=n:=fun vs H Q E h=>by obtain⟨G,ds,_,a,l,_⟩:=h;rw[←a.length];exact l
noncomputable def outD:eI→R b0
 |.bj _=>.ok (.v .non)
 |.dB d=>.ok (.v d)
 |.gN ds=>.ok (.o ds)
 |.gM t=>.ok (.t t)
 |_=>.bad
def i2(N:Nat)(ds:List D):ah:=ds.map .av++List.replicate (N-ds.length) .un
def c_(N:Nat)(m:a_)(ds:List D):R b0:=(m (i2 N ds)).bind outD
def tH(N:Nat)(vs:List V):St:=vs.map some++List.replicate (N-vs.length) none
theorem Ny{K:PySem.W.Frag}{G H:J}{eR:Str→J→Prop}{N:Nat}{ds:List D}{vs:List V}(s:Sub G H)(a:aE K G ds vs):Rel ⟨K,G,H,eR⟩ G H (tH N vs) (i2 N ds):=by
 have hl:=a.length;refine⟨⟨s,Sub.refl _,Sub.refl _,fun _ _=>rfl⟩,by simp[tH,i2,hl],fun i t e=>?_,fun i j b af n0 o bw ai au _ _ f _=>?_⟩
 ·unfold i2 at e;unfold tH;by_cases hi:i<ds.length
  ·rw[List.getElem?_append_left (by simpa using hi),List.getElem?_map,List.getElem?_eq_getElem hi]at e;obtain⟨v,ai,bf⟩:=a.get (List.getElem?_eq_getElem hi);rw[List.getElem?_append_left (by rw[List.length_map,←hl];exact hi),List.getElem?_map,ai];have iP:cS.av ds[i]=t:=Option.some.inj e;subst iP;exact⟨some v,rfl,v,rfl,bf⟩
  ·rw[List.getElem?_append_right (by simpa using hi),List.getElem?_replicate]at e;rw[List.getElem?_append_right (by rw[List.length_map,←hl];omega),List.getElem?_replicate,List.length_map,←hl];rw[List.length_map]at e
   split at e
   ·rename_i hh;rw[if_pos hh];cases e;exact⟨none,rfl,trivial⟩
   ·cases e
 ·exfalso;unfold i2 at ai;by_cases hi:i<ds.length
  ·rw[List.getElem?_append_left (by simpa using hi),List.getElem?_map,List.getElem?_eq_getElem hi]at ai;cases ai;exact f
  ·rw[List.getElem?_append_right (by simpa using hi),List.getElem?_replicate]at ai
   split at ai
   ·cases ai;exact f
   ·cases ai
theorem rV{K:PySem.W.Frag}{xe:cn→Str→J→Prop}{n N:Nat}{m:a_}{vs:List V}{H:J}{Q:bT}{E:cn}(h:nh K n xe (c_ N m) vs H Q E) :
  ∃G,ej ⟨K,G,H,xe E⟩ m { bj:=fun _ H'=>Q .non H',dB:=Q } (tH N vs) H:=by
 obtain⟨G,ds,s,a,l,k⟩:=h;refine⟨G,G,i2 N ds,Ny s a,?_⟩;unfold c_ at k;cases e:m (i2 N ds)with
 |bad=>rw[e]at k;exact k.elim
 |exc c=>rw[e]at k;exact k
 |ok f=>
  rw[e,R.bh]at k;cases f with
  |bj ρ=>exact fun σ' G' H' r _=>k .non G' H' r.aA (by simp only[At])
  |dB d=>exact k
  |gN ds=>exact k
  |gM t=>exact k
  |d9 ρ=>exact k.elim
  |b3 ρ=>exact k.elim
theorem dF.of{G H G' H':J}{σ :St}{ρ:ah}{eR:Str→J→Prop}(r:Rel F G H σ ρ)(k:dF ⟨F.K,G,H,eR⟩ G' H'):Rel F G' H' σ ρ:=r.grow k.d3 k.sub k.hh fun b hb=>k.new b hb
def gO:b0→R D
 |.v d=>.ok d
 |.o ds=>.ok (.lst ds)
 |.t t=>.ok (toD t)
def qP:b0→R (List D)
 |.o ds=>.ok ds
 |_=>.bad
def j1(A:List Addr)(G H:J):J:=fun b=>if b∈A then H b else G b
theorem Rel.DB{G H G0 H0:J}{σ :St}{ρ:ah}(r:Rel F G H σ ρ){F':a3}{t:T}{v:V}(hK:F'.K=F.K)(q:nK F' G H t v)(u:bQ G0 H0 G H)(n:∀b∈aU H t v,H0 b=none∧F.H0 b=none∧¬cy H σ ρ b) :
  Rel F (j1 (aU H t v) G H) H σ ρ∧bQ G0 H0 (j1 (aU H t v) G H) H∧At F.K (j1 (aU H t v) G H) (toD t) v:=by
 have aY:Sub G (j1 (aU H t v) G H):=fun b o e=>by
  unfold j1;by_cases hb:b∈aU H t v
  ·rw[(q.own b hb).1]at e;cases e
  ·rw[if_neg hb];exact e
 refine⟨r.over rfl ⟨fun b o e=>?_,r.aA.d3.trans aY,r.aA.hh,fun b hb=>?_⟩ aY fun a ha=>?_,⟨u.g.trans aY,u.h,fun b hb=>?_⟩,?_⟩
 ·unfold j1 at e
  split at e
  ·exact e
  ·exact r.aA.sub b o e
 ·unfold j1;rw[if_neg (fun z=>hb (n b z).2.1)];exact r.aA.new b hb
 ·obtain⟨h1,h2,h3⟩:=r.foot ha;refine⟨rfl,?_,h3⟩;unfold j1;rw[if_neg (fun z=>(n a z).2.2 ha)];exact h2
 ·unfold j1;rw[if_neg (fun z=>hb (n b z).1)];exact u.n b hb
 ·rw[←hK];exact q.at_.view aY fun a ha=>by unfold j1;rw[if_pos ha]
noncomputable def cG(n:Nat)(mf:List D→R b0)(m:aN):ay:=fun ρ=>(m ρ).bind fun ds=>if ds.length=n then(mf ds).bind gO else .bad
noncomputable def jw(n:Nat)(mf:List D→R b0)(m:aN):aN:=fun ρ=>(m ρ).bind fun ds=>if ds.length=n then(mf ds).bind qP else .bad
theorem AP{n:Nat}{mf:List D→R b0}{m:aN}{xe:cn→Str→J→Prop}{E:cn}(hx:F.eR=xe E):dq (cc F (cG n mf m)) (xP (nh F.K n xe mf) [] E (dE F m)):=by
 rintro σ H Q ⟨G,ρ,r,h⟩;unfold cG at h;refine⟨G,ρ,r,?_⟩;cases ak:m ρ with
 |bad=>rw[ak]at h;exact h.elim
 |exc c=>rw[ak]at h;exact h
 |ok ds=>
  rw[ak,R.bh]at h;intro vs H1 aL ao s1 a;by_cases aI:ds.length=n
  ·rw[if_pos aI]at h;rw[List.append_nil];refine⟨aL,ds,ao.aA.sub,a,aI,?_⟩;cases e:mf ds with
   |bad=>rw[e]at h;exact h.elim
   |exc c=>rw[e]at h;intro G' H' k;have z:=h G' H' (dF.of ao k).aA;rw[hx]at z;exact z
   |ok t=>
    rw[e,R.bh]at h;cases t with
    |v d=>exact fun v G' H' k bf=>h v H' G' (dF.of ao k) (s1.trans ⟨k.d3,k.hh,k.new⟩) bf
    |o af=>intro p xs G' H' k h1 h2 h3 h4;have h2:H1 p=none:=h2;have aZ:=dF.of ao k;have no:¬cy H' σ ρ p:=cy.fresh ao k.hh h2;refine h (.ref p) H' _ (aZ.take h3 h1 (ao.aA.hh.gone h2) no) ((s1.trans ⟨k.d3,k.hh,k.new⟩).put (s1.h.gone h2) h1) ?_;simp only[At];exact⟨p,xs,rfl,c3,h4.mono (Sub.upd h1)⟩
    |t t=>intro v G' H' k q;obtain⟨a1,a2,jl⟩:=(dF.of ao k).DB (F':=⟨F.K,aL,H1,xe E⟩) rfl q (s1.trans ⟨k.d3,k.hh,k.new⟩) fun b hb=>⟨s1.h.gone (q.own b hb).2,ao.aA.hh.gone (q.own b hb).2,cy.fresh ao k.hh (q.own b hb).2⟩;exact h v H' _ a1 a2 jl
  ·rw[if_neg aI]at h;exact h.elim
theorem IK{n:Nat}{mf:List D→R b0}{m:aN}{xe:cn→Str→J→Prop}{E:cn}(hx:F.eR=xe E):dq (ie F (jw n mf m)) (xP (nh F.K n xe mf) [] E (dE F m)):=by
 rintro σ H Q ⟨G,ρ,r,h⟩;unfold jw at h;refine⟨G,ρ,r,?_⟩;cases ak:m ρ with
 |bad=>rw[ak]at h;exact h.elim
 |exc c=>rw[ak]at h;exact h
 |ok ds=>
  rw[ak,R.bh]at h;intro vs H1 aL ao s1 a;by_cases aI:ds.length=n
  ·rw[if_pos aI]at h;rw[List.append_nil];refine⟨aL,ds,ao.aA.sub,a,aI,?_⟩;cases e:mf ds with
   |bad=>rw[e]at h;exact h.elim
   |exc c=>rw[e]at h;intro G' H' k;have z:=h G' H' (dF.of ao k).aA;rw[hx]at z;exact z
   |ok t=>
    rw[e,R.bh]at h;cases t with
    |v d=>exact h.elim
    |t t=>exact h.elim
    |o af=>intro p xs G' H' k h1 h2 h3 h4;have h2:H1 p=none:=h2;have aZ:=dF.of ao k;exact h p xs H' G' aZ (s1.trans ⟨k.d3,k.hh,k.new⟩) (s1.h.gone h2) h3 h1 h4
  ·rw[if_neg aI]at h;exact h.elim
abbrev gY:=ah→R T
noncomputable def J4(F:a3)(G H:J)(σ :St)(ρ:ah)(Q:bT):R T→Prop
 |.ok t=>∀v H' G',Rel F G' H' σ ρ→bQ G H G' H'→nK F G' H' t v→(∀b∈aU H' t v,H b=none)→Q v H'
 |.exc c=>hY F c
 |.bad=>False
def q7(F:a3)(m:gY):TE:=fun σ H Q=>∃G ρ,Rel F G H σ ρ∧J4 F G H σ ρ Q (m ρ)
noncomputable def qk(i:Nat)(a:gY):a_:=fun ρ=>(a ρ).bind fun t=>if i<ρ.length then .ok (.bj (ρ.set i (.cW t)))else .bad
theorem Ji{i:Nat}{a:gY}:gx (ej F (qk i a)) (q2 (q7 F a) (j2 i)):=by
 rintro b8 σ H ⟨G,ρ,r,h⟩;unfold qk at h;refine⟨G,ρ,r,?_⟩;cases ak:a ρ with
 |bad=>rw[ak]at h;exact h.elim
 |exc c=>rw[ak]at h;exact h
 |ok t=>
  rw[ak,R.bh]at h;intro v H1 aL ao s1 q n;by_cases hi:i<ρ.length
  ·rw[if_pos hi]at h;refine h _ aL H1 (ao.oO hi ⟨v,rfl,q⟩ fun b f j s' bw _ ai au sb=>?_) s1.g;obtain⟨u,mK,hb⟩:=f;cases mK;exact cy.fresh r s1.h (n b hb) ⟨j,s',bw,ai,au,sb⟩
  ·rw[if_neg hi]at h;exact h.elim
def K5(a:gY):a_:=fun ρ=>(a ρ).bind fun t=>.ok (.gM t)
def BE(i:Nat):gY:=fun ρ=>match ρ[i]? with
 |some (.cW t)=>.ok t
 |_=>.bad
end
end az
namespace az
open PySem PySem.Spec aV
def fk:cS→cS
 |.av d=>.av d
 |_=>.un
def jW(nl:Nat)(caps:List Nat)(ρ:ah):ah:=List.replicate nl .un++caps.map fun j=>fk (ρ.getD j .un)
noncomputable def eL(set:D→ah→R ah)(tst:bN)(elt:ay):List D→ah→List D→R (List D)
 |[],_,ws=>.ok ws
 |d::ds,ρ,ws=>(set d ρ).bind fun dI=>(tst dI).bind fun b=>if b=true then(elt dI).bind fun y=>if ws.length<1000000 then eL set tst elt ds dI (ws++[y])else .bad else eL set tst elt ds dI ws
def ef{α:Type}:R α→R α
 |.exc _=>.bad
 |r=>r
noncomputable def eZ(nl:Nat)(caps:List Nat)(mi:aN)(set:D→ah→R ah)(tst:bN)(elt:ay):aN:=fun ρ=>(mi ρ).bind fun ds=>ef (eL set tst elt ds (jW nl caps ρ) [])
def dT(K:PySem.W.Frag)(G H:J):a3:=⟨K,G,H,fun _ _=>False⟩
def yc(K:PySem.W.Frag)(m:bN):TT:=fun σ H Q=>∃G0 H0,e1 (dT K G0 H0) m σ H Q
def yb(K:PySem.W.Frag)(m:ay):TE:=fun σ H Q=>∃G0 H0,cc (dT K G0 H0) m σ H Q
def Cq:cS→Bool
 |.un=>true|.av _=>true
 |_=>false
theorem Cr{H:J}{s:cS}(h:Cq s=true)(o:Option V)(a:Addr):¬eS H s o a:=by
 cases s<;>first
  |exact fun z=>z
  |cases h
def mq(ρ:ah):Prop:=∀(i:Nat)(s:cS),ρ[i]?=some s→Cq s=true
theorem BV(nl:Nat)(caps:List Nat)(ρ:ah):mq (jW nl caps ρ):=fun i s ai=>by
 unfold jW at ai;by_cases hi:i<nl
 ·rw[List.getElem?_append_left (by simpa using hi),List.getElem?_replicate,if_pos hi]at ai;cases ai;rfl
 ·rw[List.getElem?_append_right (by simpa using hi),List.length_replicate,List.getElem?_map]at ai;cases jZ:caps[i-nl]? with
  |none=>rw[jZ]at ai;cases ai
  |some j=>rw[jZ]at ai;have af:fk (ρ.getD j .un)=s:=Option.some.inj ai;subst af;cases hs:ρ.getD j .un<;>rfl
def Keeps(set:D→ah→R ah):Prop:=∀d ρ bo,set d ρ=.ok bo→mq ρ→mq bo
theorem tD(i:Nat):Keeps (bI i):=fun d ρ bo e n j ds z=>by
 unfold bI at e
 split at e
 ·cases e;rcases get_set z with⟨_,z⟩|⟨_,z⟩
  ·subst z;rfl
  ·exact n j ds z
 ·cases e
theorem C0:∀{aK:List (D→ah→R ah)},(∀f∈aK,Keeps f)→∀ds ρ bo,fY aK ds ρ=.ok bo→mq ρ→mq bo
 |[],_,[],_,_,e,n=>by cases e;exact n
 |[],_,_::_,_,_,e,_=>by cases e
 |_::_,_,[],_,_,e,_=>by cases e
 |f::aK,h,d::ds,ρ,bo,e,n=>by
  simp only[fY]at e;cases ai:f d ρ with
  |bad=>rw[ai]at e;cases e
  |exc c=>rw[ai]at e;cases e
  |ok dI=>rw[ai,R.bh]at e;exact C0 (fun g hg=>h g (by simp[hg])) ds dI bo e (h f (by simp) d ρ dI ai n)
theorem C3{aK:List (D→ah→R ah)}(h:∀f∈aK,Keeps f):Keeps (gP aK):=fun d ρ bo e n=>by
 cases d<;>first
  |(exact C0 h _ _ _ e n)
  |(cases e)
section
variable{F:a3}
theorem Nx{G H:J}{σ :St}{ρ:ah}(r:Rel F G H σ ρ){acc:Addr}(ha:H acc=none)(nl:Nat)(caps:List Nat) :
  Rel (dT F.K G H) G (upd H acc (.lst [])) (jX nl caps σ) (jW nl caps ρ):=by
 refine⟨⟨Sub.tZ r.aA.sub (r.aA.sub.gone ha),Sub.refl _,Sub.upd ha,fun _ _=>rfl⟩,by simp[jX,jW],fun i s e=>?_,fun i j b s s' o bw ai _ _ _ f _=>?_⟩
 ·unfold jW at e;unfold jX;by_cases hi:i<nl
  ·rw[List.getElem?_append_left (by simpa using hi),List.getElem?_replicate,if_pos hi]at e;rw[List.getElem?_append_left (by simpa using hi),List.getElem?_replicate,if_pos hi];cases e;exact⟨none,rfl,trivial⟩
  ·rw[List.getElem?_append_right (by simpa using hi),List.length_replicate,List.getElem?_map]at e;rw[List.getElem?_append_right (by simpa using hi),List.length_replicate,List.getElem?_map];cases jZ:caps[i-nl]? with
   |none=>rw[jZ]at e;cases e
   |some j=>
    rw[jZ]at e;refine⟨σ.getD j none,rfl,?_⟩;have af:fk (ρ.getD j .un)=s:=Option.some.inj e;subst af;cases cI:ρ[j]? with
    |none=>
     have eg:ρ.getD j .un=.un:=by rw[List.getD_eq_getElem?_getD,cI];rfl
     rw[eg];exact trivial
    |some t=>
     have eg:ρ.getD j .un=t:=by rw[List.getD_eq_getElem?_getD,cI];rfl
     rw[eg];obtain⟨o,ai,q⟩:=r.b1 j t cI;cases t with
     |un=>exact trivial
     |aR ds=>exact trivial
     |cW t=>exact trivial
     |av d=>obtain⟨v,au,a⟩:=q;refine⟨v,?_,a⟩;rw[List.getD_eq_getElem?_getD,ai,au];rfl
 ·exact absurd f (Cr (BV nl caps ρ i s ai) o b)
theorem IL{nl:Nat}{caps:List Nat}{mi:aN}{set:D→ah→R ah}{tst:bN}{elt:ay}{g:f_}(hg:∀G H,lj (dT F.K G H) g set)(hx:∀d ρ c,set d ρ≠.exc c)(hk:Keeps set) :
  dq (ie F (eZ nl caps mi set tst elt)) (xR (k6 F mi) g (yc F.K tst) (yb F.K elt) nl caps):=by
 rintro σ H Q ⟨G,ρ,r,h⟩;unfold eZ at h;refine⟨G,ρ,r,?_⟩;cases ak:mi ρ with
 |bad=>rw[ak]at h;exact h.elim
 |exc c=>rw[ak]at h;exact h
 |ok ds=>
  rw[ak,R.bh]at h;intro bk H1 aL ao tW it acc ha;cases cI:eL set tst elt ds (jW nl caps ρ) []with
  |bad=>rw[cI]at h;exact h.elim
  |exc c=>rw[cI]at h;exact h.elim
  |ok res=>
   rw[cI]at h
   refine⟨fun i m σ2 aQ=>m=ds.length-i∧i≤ds.length∧∃cx eQ ys ws,Rel (dT F.K aL H1) cx aQ σ2 eQ∧mq eQ∧aQ acc=some (.lst ys)∧cx acc=none∧aE F.K cx ws ys∧eL set tst elt (ds.drop i) eQ ws=.ok res,
    ⟨ds.length,by simp,Nat.zero_le _,aL,_,[],[],Nx ao ha nl caps,BV _ _ _,c3,ao.aA.sub.gone ha,.nil,by simpa using cI⟩,?_⟩
   rintro i m σ2 aQ ⟨rfl,hi,cx,eQ,ys,ws,a7,dv,h1,h2,h3,h4⟩;have aY:Sub aL cx:=a7.aA.d3;by_cases gD:i<ds.length
   ·refine .inr ⟨it.go i aQ (aY.trans a7.aA.sub) gD,fun x cN y=>?_⟩;obtain⟨d,fN,bB,dN,x1,jl⟩:=lq.turn (F:=dT F.K aL H1) it a7 aY gD y;have eW:ds.drop i=d::ds.drop (i+1):=by
     rw[List.drop_eq_getElem_cons gD];have:=List.getElem?_eq_getElem gD;rw[bB]at this;rw[Option.some.inj this]
    rw[eW]at h4;simp only[eL]at h4;cases c2:set d eQ with
    |bad=>rw[c2]at h4;cases h4
    |exc c=>exact absurd c2 (hx d eQ c)
    |ok iG=>
     rw[c2,R.bh]at h4;refine hg aL H1 σ2 eQ fN cN x d _ iG dN jl c2 fun σ5 jB=>⟨aL,H1,fN,iG,jB,?_⟩;have qx:mq iG:=hk d eQ iG c2 dv;have yC:cN acc=some (.lst ys):=x1.h _ _ h1;have g3:fN acc=none:=by rw[x1.n acc (by rw[h1];exact fun z=>nomatch z)];exact h2
     cases gd:tst iG with
     |bad=>rw[gd]at h4;cases h4
     |exc c=>rw[gd]at h4;cases h4
     |ok b=>
      rw[gd,R.bh]at h4;intro nE rz Cz x2;have uN:nE acc=some (.lst ys):=x2.h _ _ yC;have mP:rz acc=none:=by rw[x2.n acc (by rw[yC];exact fun z=>nomatch z)];exact g3
      have yA:aE F.K rz ws ys:=(h3.mono x1.g).mono x2.g;cases b with
      |false=>rw[if_neg Bool.false_ne_true]at h4;rw[if_neg Bool.false_ne_true];exact⟨_,by omega,rfl,gD,rz,iG,ys,ws,Cz,qx,uN,mP,yA,h4⟩
      |true=>
       rw[if_pos rfl]at h4;rw[if_pos rfl];refine⟨aL,H1,rz,iG,Cz,?_⟩;cases pE:elt iG with
       |bad=>rw[pE]at h4;cases h4
       |exc c=>rw[pE]at h4;cases h4
       |ok y=>
        rw[pE,R.bh]at h4;intro yh uA uy oK u8 EX;have E1:uA acc=some (.lst ys):=u8.h _ _ uN;have Ae:uy acc=none:=by rw[u8.n acc (by rw[uN];exact fun z=>nomatch z)];exact mP
        by_cases hl:ws.length<1000000
        ·rw[if_pos hl]at h4;have yD:aE F.K uy ws ys:=yA.mono u8.g;refine⟨ys,E1,by rw[←yD.length];exact Nat.lt_trans hl (by decide),_,by omega,rfl,gD,uy,iG,ys++[yh],ws++[y],?_,qx,c3,Ae,yD.snoc EX,h4⟩;have k0:(dT F.K aL H1).H0 acc=none:=ha;refine⟨⟨Sub.tZ oK.aA.sub Ae,oK.aA.d3,fun c o z=>?_,oK.aA.new⟩,oK.len,fun j t z=>?_,fun j k b s s' o bw ff _ _ _ f _=>absurd f (Cr (qx j s ff) o b)⟩
         ·rw[cf (hz z k0)];exact oK.aA.hh c o z
         ·obtain⟨o,a8,aX⟩:=oK.b1 j t z;refine⟨o,a8,?_⟩;cases t with
          |un=>exact trivial
          |av d=>exact aX
          |aR af=>exact absurd (qx j _ z) (fun w=>nomatch w)
          |cW af=>exact absurd (qx j _ z) (fun w=>nomatch w)
        ·rw[if_neg hl]at h4;cases h4
   ·have e:ds.drop i=[]:=List.drop_eq_nil_of_le (by omega);rw[e]at h4;simp only[eL]at h4;cases h4;have iO:i=ds.length:=by omega
    subst iO;refine .inl ⟨it.stop aQ (aY.trans a7.aA.sub),?_⟩;have k:dF ⟨F.K,aL,H1,fun _ _=>False⟩ cx aQ:=a7.aA;exact h acc ys aQ cx (dF.of ao k) (tW.trans ⟨k.d3,k.hh,k.new⟩) (tW.h.gone ha) h1 h2 h3
end
mutual
noncomputable def bl:D→D→Bool
 |.non,.non=>true
 |.aq a,.aq b=>a==b
 |.aq a,.int b=>(if a then 1 else 0)==b
 |.int a,.aq b=>a==(if b then 1 else 0)
 |.int a,.int b=>a==b
 |.str a,.str b=>a==b
 |.tup xs,.tup ys=>c7 xs ys
 |.tup xs,.cM ys=>c7 xs ys
 |.cM xs,.tup ys=>c7 xs ys
 |.cM xs,.cM ys=>c7 xs ys
 |.lst xs,.lst ys=>c7 xs ys
 |.lst xs,.bM ys=>c7 xs ys
 |.bM xs,.lst ys=>c7 xs ys
 |.bM xs,.bM ys=>c7 xs ys
 |_,_=>false
noncomputable def c7:List D→List D→Bool
 |[],[]=>true
 |x::xs,y::ys=>bl x y&&c7 xs ys
 |_,_=>false
end
noncomputable def okN:Nat→D→Bool
 |_,.non=>true
 |_,.aq _=>true
 |_,.int _=>true
 |_,.str _=>true
 |n+1,.tup xs=>xs.all (okN n)
 |n+1,.cM xs=>xs.all (okN n)
 |n+1,.lst xs=>xs.all (okN n)
 |n+1,.bM xs=>xs.all (okN n)
 |_,_=>false
inductive il(s:Shared)(P:D→Value→Prop):D→Value→Prop where
 |non:il s P .non .none
 |aq (b:Bool):il s P (.aq b) (.bool b)
 |int (i:Int) (t:Tok):il s P (.int i) (.int i t)
 |str (x:Str) (t:Tok):il s P (.str x) (.str x t)
 |tup (a:Addr) (ds:List D) (its:List Value) (h:s.heap.IsTuple a its.toArray) (l:ds.length=its.length) (p:∀(i:Nat) d u,ds[i]?=some d→its[i]?=some u→P d u):il s P (.tup ds) (.ref a)
 |cM (a:Addr) (ds:List D) (its:List Value) (h:s.heap.IsTuple a its.toArray) (l:ds.length=its.length) (p:∀(i:Nat) d u,ds[i]?=some d→its[i]?=some u→P d u):il s P (.cM ds) (.ref a)
 |lst (a:Addr) (ds:List D) (its:List Value) (h:s.heap.IsList a its.toArray) (l:ds.length=its.length) (p:∀(i:Nat) d u,ds[i]?=some d→its[i]?=some u→P d u):il s P (.lst ds) (.ref a)
 |bM (a:Addr) (ds:List D) (its:List Value) (h:s.heap.IsList a its.toArray) (l:ds.length=its.length) (p:∀(i:Nat) d u,ds[i]?=some d→its[i]?=some u→P d u):il s P (.bM ds) (.ref a)
def jL(K:PySem.W.Frag)(G:J)(d:D)(u:Value):Prop:=∃x,At K G d x∧RelV x u
section
variable{X:aC}{pins:List (Addr×Obj)}{σ :St}{H G:J}{s:Shared}
theorem n7{K:PySem.W.Frag}{ds:List D}{xs:List V}{its:List Value}(q:aE K G ds xs)(r:Vals xs its):∀(i:Nat) d u,ds[i]?=some d→its[i]?=some u→jL K G d u:=fun i d u ai au=>by obtain⟨v,bB,a⟩:=q.get ai;obtain⟨jc,c2,bE⟩:=r.get bB;rw[au]at c2;cases c2;exact⟨v,a,bE⟩
theorem l0(I:Inv X pins σ H s)(aY:Sub G H){d:D}{u:Value}{n:Nat}(ok:okN n d=true)(h:jL X.K G d u):il s (jL X.K G) d u:=by
 obtain⟨x,a,r⟩:=h;cases d with
 |non=>simp only[At]at a;subst a;cases r;exact .non
 |aq b=>simp only[At]at a;subst a;cases r;exact .aq b
 |int i=>simp only[At]at a;subst a;obtain⟨t,rfl⟩:=r;exact .int i t
 |str i=>simp only[At]at a;subst a;obtain⟨t,rfl⟩:=r;exact .str i t
 |tup ds=>simp only[At]at a;obtain⟨p,xs,rfl,aH,al⟩:=a;cases r;obtain⟨its,bE,ht,_⟩:=I.tuple (cB.of (aY _ _ aH));exact .tup p ds its ht (al.length.trans bE.length) (n7 al bE)
 |lst ds=>simp only[At]at a;obtain⟨p,xs,rfl,aH,al⟩:=a;cases r;obtain⟨its,bE,ht,_⟩:=I.list (bx.of (aY _ _ aH));exact .lst p ds its ht.isList (al.length.trans bE.length) (n7 al bE)
 |bM ds=>simp only[At]at a;obtain⟨p,xs,rfl,aH,al⟩:=a;cases r;obtain⟨its,bE,ht,_⟩:=I.list (bx.mono aY aH);exact .bM p ds its ht.isList (al.length.trans bE.length) (n7 al bE)
 |cj ks xs=>cases n<;>cases ok
 |a4 ks xs=>cases n<;>cases ok
 |ins C ns xs=>cases n<;>cases ok
 |fl C=>cases n<;>cases ok
 |cM ds=>simp only[At]at a;obtain⟨p,xs,rfl,aH,al⟩:=a;cases r;obtain⟨its,bE,ht,_⟩:=I.tuple (cB.mono aY aH);exact .cM p ds its ht (al.length.trans bE.length) (n7 al bE)
theorem vp:∀{xs ys:List D},xs.length≠ys.length→c7 xs ys=false
 |[],[],h=>absurd rfl h
 |[],_::_,_=>by simp only[c7]
 |_::_,[],_=>by simp only[c7]
 |x::xs,y::ys,h=>by simp only[c7];rw[vp (fun e=>h (by simp[e])),Bool.and_false]
def ju(xs ys:List D)(j:Nat):Bool:=match xs[j]?,ys[j]? with
 |some x,some y=>bl x y
 |_,_=>true
theorem E5(f:Nat→Bool)(n:Nat):(List.range (n+1)).all f=(f 0&&(List.range n).all fun j=>f (j+1)):=by rw[List.range_succ_eq_map,List.all_cons,List.all_map];rfl
theorem vq:∀{xs ys:List D},xs.length=ys.length→(List.range xs.length).all (ju xs ys)=c7 xs ys
 |[],[],_=>by simp[c7]
 |[],_::_,h=>by simp at h
 |_::_,[],h=>by simp at h
 |x::xs,y::ys,h=>by
  rw[List.length_cons,E5];have e:(fun j=>ju (x::xs) (y::ys) (j+1))=ju xs ys:=by
   funext j
   simp[ju]
  rw[e,vq (by simpa using h)];simp only[c7];rfl
theorem in1_units(A:Around):A.in1.units=A.units+1:=rfl
theorem CV{A:Around}{P:D→Value→Prop}{d1 b_:D}{u v:Value}(h1:il s P d1 u)(h2:il s P b_ v)(cu:fL d1=true)(b2:fL b_=true) :
  SeqAt.EqAt A s u v (bl d1 b_)∧SeqAt.RcAt A s u v (bl d1 b_)∧SeqAt.RcNeAt A s u v (!bl d1 b_):=by
 cases h1 with
 |non=>
  cases h2 with
  |non=>simp only[bl];exact⟨SeqAt.EqAt.same _,SeqAt.RcAt.none_none,SeqAt.RcNeAt.none_none⟩
  |aq dZ=>simp only[bl];exact⟨SeqAt.EqAt.none_bool _,SeqAt.RcAt.none_bool _,SeqAt.RcNeAt.none_bool _⟩
  |int gg dh=>simp only[bl];exact⟨SeqAt.EqAt.none_int _ _,SeqAt.RcAt.none_int _ _,SeqAt.RcNeAt.none_int _ _⟩
  |str dW dh=>simp only[bl];exact⟨SeqAt.EqAt.none_str _ _,SeqAt.RcAt.none_str _ _,SeqAt.RcNeAt.none_str _ _⟩
  |tup=>cases b2
  |cM=>cases b2
  |lst=>cases b2
  |bM=>cases b2
 |aq e5=>
  cases h2 with
  |non=>simp only[bl];exact⟨SeqAt.EqAt.bool_none _,SeqAt.RcAt.bool_none _,SeqAt.RcNeAt.bool_none _⟩
  |aq dZ=>simp only[bl];exact⟨SeqAt.EqAt.bool_bool _ _,SeqAt.RcAt.bool_bool _ _,SeqAt.RcNeAt.bool_bool _ _⟩
  |int gg dh=>simp only[bl];exact⟨SeqAt.EqAt.bool_int _ _ _,SeqAt.RcAt.bool_int _ _ _,SeqAt.RcNeAt.bool_int _ _ _⟩
  |str dW dh=>simp only[bl];exact⟨SeqAt.EqAt.bool_str _ _ _,SeqAt.RcAt.bool_str _ _ _,SeqAt.RcNeAt.bool_str _ _ _⟩
  |tup=>cases b2
  |cM=>cases b2
  |lst=>cases b2
  |bM=>cases b2
 |int fS t1=>
  cases h2 with
  |non=>simp only[bl];exact⟨SeqAt.EqAt.int_none _ _,SeqAt.RcAt.int_none _ _,SeqAt.RcNeAt.int_none _ _⟩
  |aq dZ=>simp only[bl];exact⟨SeqAt.EqAt.int_bool _ _ _,SeqAt.RcAt.int_bool _ _ _,SeqAt.RcNeAt.int_bool _ _ _⟩
  |int gg dh=>simp only[bl];exact⟨SeqAt.EqAt.int_int _ _ _ _,SeqAt.RcAt.int_int _ _ _ _,SeqAt.RcNeAt.int_int _ _ _ _⟩
  |str dW dh=>simp only[bl];exact⟨SeqAt.EqAt.int_str _ _ _ _,SeqAt.RcAt.int_str _ _ _ _,SeqAt.RcNeAt.int_str _ _ _ _⟩
  |tup=>cases b2
  |cM=>cases b2
  |lst=>cases b2
  |bM=>cases b2
 |str d5 t1=>
  cases h2 with
  |non=>simp only[bl];exact⟨SeqAt.EqAt.str_none _ _,SeqAt.RcAt.str_none _ _,SeqAt.RcNeAt.str_none _ _⟩
  |aq dZ=>simp only[bl];exact⟨SeqAt.EqAt.str_bool _ _ _,SeqAt.RcAt.str_bool _ _ _,SeqAt.RcNeAt.str_bool _ _ _⟩
  |int gg dh=>simp only[bl];exact⟨SeqAt.EqAt.str_int _ _ _ _,SeqAt.RcAt.str_int _ _ _ _,SeqAt.RcNeAt.str_int _ _ _ _⟩
  |str dW dh=>simp only[bl];exact⟨SeqAt.EqAt.str_str _ _ _ _,SeqAt.RcAt.str_str _ _ _ _,SeqAt.RcNeAt.str_str _ _ _ _⟩
  |tup=>cases b2
  |cM=>cases b2
  |lst=>cases b2
  |bM=>cases b2
 |tup=>cases cu
 |cM=>cases cu
 |lst=>cases cu
 |bM=>cases cu
theorem BK{A:Around}{P:D→Value→Prop}{d1 b_:D}{u v:Value}(hu:A.units<cLine)(h1:il s P d1 u)(h2:il s P b_ v)(o:fL d1=true∧fL b_=false∨fL d1=false∧fL b_=true) :
  SeqAt.EqAt A s u v (bl d1 b_)∧SeqAt.RcAt A s u v (bl d1 b_)∧SeqAt.RcNeAt A s u v (!bl d1 b_):=by
 cases h1 with
 |non=>
  cases h2 with
  |non=>rcases o with⟨a8,aX⟩|⟨a8,aX⟩<;>first|(cases a8;done)|(cases aX;done)
  |aq=>rcases o with⟨a8,aX⟩|⟨a8,aX⟩<;>first|(cases a8;done)|(cases aX;done)
  |int=>rcases o with⟨a8,aX⟩|⟨a8,aX⟩<;>first|(cases a8;done)|(cases aX;done)
  |str=>rcases o with⟨a8,aX⟩|⟨a8,aX⟩<;>first|(cases a8;done)|(cases aX;done)
  |tup a2 c1 dn bU df bJ=>simp only[bl,Bool.not_false];exact⟨SeqAt.EqAt.none_tuple bU hu,SeqAt.RcAt.none_tuple bU hu,SeqAt.RcNeAt.none_tuple bU hu⟩
  |cM a2 c1 dn bU df bJ=>simp only[bl,Bool.not_false];exact⟨SeqAt.EqAt.none_tuple bU hu,SeqAt.RcAt.none_tuple bU hu,SeqAt.RcNeAt.none_tuple bU hu⟩
  |lst a2 c1 dn bU df bJ=>simp only[bl,Bool.not_false];exact⟨SeqAt.EqAt.none_list bU hu,SeqAt.RcAt.none_list bU hu,SeqAt.RcNeAt.none_list bU hu⟩
  |bM a2 c1 dn bU df bJ=>simp only[bl,Bool.not_false];exact⟨SeqAt.EqAt.none_list bU hu,SeqAt.RcAt.none_list bU hu,SeqAt.RcNeAt.none_list bU hu⟩
 |aq e5=>
  cases h2 with
  |non=>rcases o with⟨a8,aX⟩|⟨a8,aX⟩<;>first|(cases a8;done)|(cases aX;done)
  |aq=>rcases o with⟨a8,aX⟩|⟨a8,aX⟩<;>first|(cases a8;done)|(cases aX;done)
  |int=>rcases o with⟨a8,aX⟩|⟨a8,aX⟩<;>first|(cases a8;done)|(cases aX;done)
  |str=>rcases o with⟨a8,aX⟩|⟨a8,aX⟩<;>first|(cases a8;done)|(cases aX;done)
  |tup a2 c1 dn bU df bJ=>simp only[bl,Bool.not_false];exact⟨SeqAt.EqAt.bool_tuple _ bU hu,SeqAt.RcAt.bool_tuple _ bU hu,SeqAt.RcNeAt.bool_tuple _ bU hu⟩
  |cM a2 c1 dn bU df bJ=>simp only[bl,Bool.not_false];exact⟨SeqAt.EqAt.bool_tuple _ bU hu,SeqAt.RcAt.bool_tuple _ bU hu,SeqAt.RcNeAt.bool_tuple _ bU hu⟩
  |lst a2 c1 dn bU df bJ=>simp only[bl,Bool.not_false];exact⟨SeqAt.EqAt.bool_list _ bU hu,SeqAt.RcAt.bool_list _ bU hu,SeqAt.RcNeAt.bool_list _ bU hu⟩
  |bM a2 c1 dn bU df bJ=>simp only[bl,Bool.not_false];exact⟨SeqAt.EqAt.bool_list _ bU hu,SeqAt.RcAt.bool_list _ bU hu,SeqAt.RcNeAt.bool_list _ bU hu⟩
 |int fS t1=>
  cases h2 with
  |non=>rcases o with⟨a8,aX⟩|⟨a8,aX⟩<;>first|(cases a8;done)|(cases aX;done)
  |aq=>rcases o with⟨a8,aX⟩|⟨a8,aX⟩<;>first|(cases a8;done)|(cases aX;done)
  |int=>rcases o with⟨a8,aX⟩|⟨a8,aX⟩<;>first|(cases a8;done)|(cases aX;done)
  |str=>rcases o with⟨a8,aX⟩|⟨a8,aX⟩<;>first|(cases a8;done)|(cases aX;done)
  |tup a2 c1 dn bU df bJ=>simp only[bl,Bool.not_false];exact⟨SeqAt.EqAt.int_tuple _ _ bU hu,SeqAt.RcAt.int_tuple _ _ bU hu,SeqAt.RcNeAt.int_tuple _ _ bU hu⟩
  |cM a2 c1 dn bU df bJ=>simp only[bl,Bool.not_false];exact⟨SeqAt.EqAt.int_tuple _ _ bU hu,SeqAt.RcAt.int_tuple _ _ bU hu,SeqAt.RcNeAt.int_tuple _ _ bU hu⟩
  |lst a2 c1 dn bU df bJ=>simp only[bl,Bool.not_false];exact⟨SeqAt.EqAt.int_list _ _ bU hu,SeqAt.RcAt.int_list _ _ bU hu,SeqAt.RcNeAt.int_list _ _ bU hu⟩
  |bM a2 c1 dn bU df bJ=>simp only[bl,Bool.not_false];exact⟨SeqAt.EqAt.int_list _ _ bU hu,SeqAt.RcAt.int_list _ _ bU hu,SeqAt.RcNeAt.int_list _ _ bU hu⟩
 |str d5 t1=>
  cases h2 with
  |non=>rcases o with⟨a8,aX⟩|⟨a8,aX⟩<;>first|(cases a8;done)|(cases aX;done)
  |aq=>rcases o with⟨a8,aX⟩|⟨a8,aX⟩<;>first|(cases a8;done)|(cases aX;done)
  |int=>rcases o with⟨a8,aX⟩|⟨a8,aX⟩<;>first|(cases a8;done)|(cases aX;done)
  |str=>rcases o with⟨a8,aX⟩|⟨a8,aX⟩<;>first|(cases a8;done)|(cases aX;done)
  |tup a2 c1 dn bU df bJ=>simp only[bl,Bool.not_false];exact⟨SeqAt.EqAt.str_tuple _ _ bU hu,SeqAt.RcAt.str_tuple _ _ bU hu,SeqAt.RcNeAt.str_tuple _ _ bU hu⟩
  |cM a2 c1 dn bU df bJ=>simp only[bl,Bool.not_false];exact⟨SeqAt.EqAt.str_tuple _ _ bU hu,SeqAt.RcAt.str_tuple _ _ bU hu,SeqAt.RcNeAt.str_tuple _ _ bU hu⟩
  |lst a2 c1 dn bU df bJ=>simp only[bl,Bool.not_false];exact⟨SeqAt.EqAt.str_list _ _ bU hu,SeqAt.RcAt.str_list _ _ bU hu,SeqAt.RcNeAt.str_list _ _ bU hu⟩
  |bM a2 c1 dn bU df bJ=>simp only[bl,Bool.not_false];exact⟨SeqAt.EqAt.str_list _ _ bU hu,SeqAt.RcAt.str_list _ _ bU hu,SeqAt.RcNeAt.str_list _ _ bU hu⟩
 |tup a1 et i3 b7 gj hA=>
  cases h2 with
  |non=>simp only[bl,Bool.not_false];exact⟨SeqAt.EqAt.tuple_none b7 hu,SeqAt.RcAt.tuple_none b7 hu,SeqAt.RcNeAt.tuple_none b7 hu⟩
  |aq dZ=>simp only[bl,Bool.not_false];exact⟨SeqAt.EqAt.tuple_bool _ b7 hu,SeqAt.RcAt.tuple_bool _ b7 hu,SeqAt.RcNeAt.tuple_bool _ b7 hu⟩
  |int gg dh=>simp only[bl,Bool.not_false];exact⟨SeqAt.EqAt.tuple_int _ _ b7 hu,SeqAt.RcAt.tuple_int _ _ b7 hu,SeqAt.RcNeAt.tuple_int _ _ b7 hu⟩
  |str dW dh=>simp only[bl,Bool.not_false];exact⟨SeqAt.EqAt.tuple_str _ _ b7 hu,SeqAt.RcAt.tuple_str _ _ b7 hu,SeqAt.RcNeAt.tuple_str _ _ b7 hu⟩
  |tup=>rcases o with⟨a8,aX⟩|⟨a8,aX⟩<;>first|(cases a8;done)|(cases aX;done)
  |cM=>rcases o with⟨a8,aX⟩|⟨a8,aX⟩<;>first|(cases a8;done)|(cases aX;done)
  |lst=>rcases o with⟨a8,aX⟩|⟨a8,aX⟩<;>first|(cases a8;done)|(cases aX;done)
  |bM=>rcases o with⟨a8,aX⟩|⟨a8,aX⟩<;>first|(cases a8;done)|(cases aX;done)
 |cM a1 et i3 b7 gj hA=>
  cases h2 with
  |non=>simp only[bl,Bool.not_false];exact⟨SeqAt.EqAt.tuple_none b7 hu,SeqAt.RcAt.tuple_none b7 hu,SeqAt.RcNeAt.tuple_none b7 hu⟩
  |aq dZ=>simp only[bl,Bool.not_false];exact⟨SeqAt.EqAt.tuple_bool _ b7 hu,SeqAt.RcAt.tuple_bool _ b7 hu,SeqAt.RcNeAt.tuple_bool _ b7 hu⟩
  |int gg dh=>simp only[bl,Bool.not_false];exact⟨SeqAt.EqAt.tuple_int _ _ b7 hu,SeqAt.RcAt.tuple_int _ _ b7 hu,SeqAt.RcNeAt.tuple_int _ _ b7 hu⟩
  |str dW dh=>simp only[bl,Bool.not_false];exact⟨SeqAt.EqAt.tuple_str _ _ b7 hu,SeqAt.RcAt.tuple_str _ _ b7 hu,SeqAt.RcNeAt.tuple_str _ _ b7 hu⟩
  |tup=>rcases o with⟨a8,aX⟩|⟨a8,aX⟩<;>first|(cases a8;done)|(cases aX;done)
  |cM=>rcases o with⟨a8,aX⟩|⟨a8,aX⟩<;>first|(cases a8;done)|(cases aX;done)
  |lst=>rcases o with⟨a8,aX⟩|⟨a8,aX⟩<;>first|(cases a8;done)|(cases aX;done)
  |bM=>rcases o with⟨a8,aX⟩|⟨a8,aX⟩<;>first|(cases a8;done)|(cases aX;done)
 |lst a1 et i3 b7 gj hA=>
  cases h2 with
  |non=>simp only[bl,Bool.not_false];exact⟨SeqAt.EqAt.list_none b7 hu,SeqAt.RcAt.list_none b7 hu,SeqAt.RcNeAt.list_none b7 hu⟩
  |aq dZ=>simp only[bl,Bool.not_false];exact⟨SeqAt.EqAt.list_bool _ b7 hu,SeqAt.RcAt.list_bool _ b7 hu,SeqAt.RcNeAt.list_bool _ b7 hu⟩
  |int gg dh=>simp only[bl,Bool.not_false];exact⟨SeqAt.EqAt.list_int _ _ b7 hu,SeqAt.RcAt.list_int _ _ b7 hu,SeqAt.RcNeAt.list_int _ _ b7 hu⟩
  |str dW dh=>simp only[bl,Bool.not_false];exact⟨SeqAt.EqAt.list_str _ _ b7 hu,SeqAt.RcAt.list_str _ _ b7 hu,SeqAt.RcNeAt.list_str _ _ b7 hu⟩
  |tup=>rcases o with⟨a8,aX⟩|⟨a8,aX⟩<;>first|(cases a8;done)|(cases aX;done)
  |cM=>rcases o with⟨a8,aX⟩|⟨a8,aX⟩<;>first|(cases a8;done)|(cases aX;done)
  |lst=>rcases o with⟨a8,aX⟩|⟨a8,aX⟩<;>first|(cases a8;done)|(cases aX;done)
  |bM=>rcases o with⟨a8,aX⟩|⟨a8,aX⟩<;>first|(cases a8;done)|(cases aX;done)
 |bM a1 et i3 b7 gj hA=>
  cases h2 with
  |non=>simp only[bl,Bool.not_false];exact⟨SeqAt.EqAt.list_none b7 hu,SeqAt.RcAt.list_none b7 hu,SeqAt.RcNeAt.list_none b7 hu⟩
  |aq dZ=>simp only[bl,Bool.not_false];exact⟨SeqAt.EqAt.list_bool _ b7 hu,SeqAt.RcAt.list_bool _ b7 hu,SeqAt.RcNeAt.list_bool _ b7 hu⟩
  |int gg dh=>simp only[bl,Bool.not_false];exact⟨SeqAt.EqAt.list_int _ _ b7 hu,SeqAt.RcAt.list_int _ _ b7 hu,SeqAt.RcNeAt.list_int _ _ b7 hu⟩
  |str dW dh=>simp only[bl,Bool.not_false];exact⟨SeqAt.EqAt.list_str _ _ b7 hu,SeqAt.RcAt.list_str _ _ b7 hu,SeqAt.RcNeAt.list_str _ _ b7 hu⟩
  |tup=>rcases o with⟨a8,aX⟩|⟨a8,aX⟩<;>first|(cases a8;done)|(cases aX;done)
  |cM=>rcases o with⟨a8,aX⟩|⟨a8,aX⟩<;>first|(cases a8;done)|(cases aX;done)
  |lst=>rcases o with⟨a8,aX⟩|⟨a8,aX⟩<;>first|(cases a8;done)|(cases aX;done)
  |bM=>rcases o with⟨a8,aX⟩|⟨a8,aX⟩<;>first|(cases a8;done)|(cases aX;done)
theorem zC:∀{xs ys:List D},xs.length=ys.length→(∀(i:Nat) x y,xs[i]?=some x→ys[i]?=some y→bl x y=true)→c7 xs ys=true
 |[],[],_,_=>by simp only[c7]
 |[],_::_,h,_=>by simp at h
 |_::_,[],h,_=>by simp at h
 |x::xs,y::ys,h,k=>by simp only[c7];rw[k 0 x y rfl rfl,zC (by simpa using h) fun i a b ai au=>k (i+1) a b (by simpa using ai) (by simpa using au)];rfl
theorem CY{K:PySem.W.Frag}{d1 b_:D}{x:V}(cu:fL d1=true)(a1:At K G d1 x)(a2:At K G b_ x):bl d1 b_=true:=by
 cases d1 with
 |non=>simp only[At]at a1;subst a1;cases b_<;>simp only[At]at a2<;>first|(simp only[bl];done)|(cases a2;done)|(obtain⟨a,xs,e,_⟩:=a2;cases e;done)|(obtain⟨a,aJ,xs,e,_⟩:=a2;cases e;done)
 |aq b=>simp only[At]at a1;subst a1;cases b_<;>simp only[At]at a2<;>first|(cases a2;simp only[bl,beq_self_eq_true];done)|(cases a2;done)|(obtain⟨a,xs,e,_⟩:=a2;cases e;done)|(obtain⟨a,aJ,xs,e,_⟩:=a2;cases e;done)
 |int b=>simp only[At]at a1;subst a1;cases b_<;>simp only[At]at a2<;>first|(cases a2;simp only[bl,beq_self_eq_true];done)|(cases a2;done)|(obtain⟨a,xs,e,_⟩:=a2;cases e;done)|(obtain⟨a,aJ,xs,e,_⟩:=a2;cases e;done)
 |str b=>simp only[At]at a1;subst a1;cases b_<;>simp only[At]at a2<;>first|(cases a2;simp only[bl,beq_self_eq_true];done)|(cases a2;done)|(obtain⟨a,xs,e,_⟩:=a2;cases e;done)|(obtain⟨a,aJ,xs,e,_⟩:=a2;cases e;done)
 |_=>cases cu
theorem zB{d1 b_:D}(b2:fL b_=true)(cu:fL d1=false){K:PySem.W.Frag}{x:V}(a1:At K G d1 x)(a2:At K G b_ x):False:=by
 cases b_<;>first
  |(cases b2;done)
  |(simp only[At]at a2;subst a2
    cases d1<;>first
     |(cases cu;done)
     |(simp only[At]at a1;obtain⟨a,xs,e,_⟩:=a1;cases e;done)
     |(simp only[At]at a1;obtain⟨a,aJ,xs,e,_⟩:=a1;cases e;done))
inductive fB(K:PySem.W.Frag)(G:J):D→Addr→Bool→List D→List V→Prop where
 |tup {a ds xs} (h:cB K G a xs) (q:aE K G ds xs):fB K G (.tup ds) a true ds xs
 |cM {a ds xs} (h:cB K G a xs) (q:aE K G ds xs):fB K G (.cM ds) a true ds xs
 |lst {a ds xs} (h:G a=some (.lst xs)) (q:aE K G ds xs):fB K G (.lst ds) a false ds xs
 |bM {a ds xs} (h:bx K G a xs) (q:aE K G ds xs):fB K G (.bM ds) a false ds xs
theorem oQ{K:PySem.W.Frag}{n:Nat}{d:D}{x:V}(o:okN n d=true)(ns:fL d=false)(a:At K G d x):∃p b ds xs,x=.ref p∧fB K G d p b ds xs∧∃m,n=m+1∧ds.all (okN m)=true:=by
 cases d with
 |tup ds=>
  simp only[At]at a;obtain⟨p,xs,e,h,q⟩:=a;cases n with
  |zero=>cases o
  |succ m=>exact⟨p,_,ds,xs,e,.tup (cB.of h) q,m,rfl,o⟩
 |lst ds=>
  simp only[At]at a;obtain⟨p,xs,e,h,q⟩:=a;cases n with
  |zero=>cases o
  |succ m=>exact⟨p,_,ds,xs,e,.lst h q,m,rfl,o⟩
 |bM ds=>
  simp only[At]at a;obtain⟨p,xs,e,h,q⟩:=a;cases n with
  |zero=>cases o
  |succ m=>exact⟨p,_,ds,xs,e,.bM h q,m,rfl,o⟩
 |cj _ _=>cases n<;>cases o
 |a4 _ _=>cases n<;>cases o
 |ins _ _ _=>cases n<;>cases o
 |fl _=>cases n<;>cases o
 |cM ds=>
  simp only[At]at a;obtain⟨p,xs,e,h,q⟩:=a;cases n with
  |zero=>cases o
  |succ m=>exact⟨p,_,ds,xs,e,.cM h q,m,rfl,o⟩
 |_=>cases ns
theorem fB.hQ{K:PySem.W.Frag}{d:D}{p:Addr}{b:Bool}{ds:List D}{xs:List V}(h:fB K G d p b ds xs):aE K G ds xs:=by cases h<;>assumption
theorem fB.eq{K:PySem.W.Frag}{d1 b_:D}{hA bJ:Addr}{e5 dZ:Bool}{et c1:List D}{l8 kk:List V}(h1:fB K G d1 hA e5 et l8)(h2:fB K G b_ bJ dZ c1 kk):bl d1 b_=(e5==dZ&&c7 et c1):=by cases h1<;>cases h2<;>simp[bl]
theorem fB.heap(I:Inv X pins σ H s)(aY:Sub G H){d:D}{p:Addr}{b:Bool}{ds:List D}{xs:List V}(h:fB X.K G d p b ds xs) :
  ∃its:List Value,Vals xs its∧(b=true→s.heap.IsTuple p its.toArray)∧(b=false→s.heap.IsList p its.toArray):=by
 cases h with
 |tup h q=>obtain⟨its,bE,ht,_⟩:=I.tuple (cB.mono aY h);exact⟨its,bE,fun _=>ht,fun z=>by cases z⟩
 |cM h q=>obtain⟨its,bE,ht,_⟩:=I.tuple (cB.mono aY h);exact⟨its,bE,fun _=>ht,fun z=>by cases z⟩
 |lst h q=>obtain⟨its,bE,ht,_⟩:=I.list (bx.of (aY _ _ h));exact⟨its,bE,(fun z=>by cases z),fun _=>ht.isList⟩
 |bM h q=>obtain⟨its,bE,ht,_⟩:=I.list (bx.mono aY h);exact⟨its,bE,(fun z=>by cases z),fun _=>ht.isList⟩
theorem fB.same(I:Inv X pins σ H s)(aY:Sub G H){d1 b_:D}{p:Addr}{e5 dZ:Bool}{et c1:List D}{l8 kk:List V}(h1:fB X.K G d1 p e5 et l8)(h2:fB X.K G b_ p dZ c1 kk):e5=dZ∧l8=kk:=by
 obtain⟨i3,ao,t1,gj⟩:=h1.heap I aY;obtain⟨dn,a7,dh,df⟩:=h2.heap I aY;cases e5 with
 |true=>
  cases dZ with
  |false=>exact absurd rfl (SeqAt.ne_of_list_tuple (df rfl) (t1 rfl))
  |true=>
   refine⟨rfl,?_⟩;cases h1<;>cases h2<;>
   exact I.DK (cB.mono aY (by assumption)) (cB.mono aY (by assumption))
 |false=>
  cases dZ with
  |true=>exact absurd rfl (SeqAt.ne_of_list_tuple (gj rfl) (dh rfl))
  |false=>
   refine⟨rfl,?_⟩;have g1:bx X.K H p l8:=by
    cases h1 with
    |lst h q=>exact bx.of (aY _ _ h)
    |bM h q=>exact bx.mono aY h
   have g2:bx X.K H p kk:=by
    cases h2 with
    |lst h q=>exact bx.of (aY _ _ h)
    |bM h q=>exact bx.mono aY h
   exact I.wu g1 g2
theorem nP{f:D→Bool}{ds:List D}(h:ds.all f=true){i:Nat}{d:D}(e:ds[i]?=some d):f d=true:=List.all_eq_true.mp h d (List.mem_of_getElem? e)
theorem E8(I:Inv X pins σ H s)(aY:Sub G H):∀(n:Nat){d1 b_:D}{x:V},okN n d1=true→okN n b_=true→At X.K G d1 x→At X.K G b_ x→bl d1 b_=true:=by
 intro n;induction n with
 |zero=>intro d1 b_ x cu b2 a1 a2;exact CY (by cases d1<;>first|rfl|(cases cu)) a1 a2
 |succ n ck=>
  intro d1 b_ x cu b2 a1 a2;cases s1:fL d1 with
  |true=>exact CY s1 a1 a2
  |false=>
   cases s2:fL b_ with
   |true=>exact(zB s2 s1 a1 a2).elim
   |false=>
    obtain⟨hA,e5,et,l8,ai,a5,ee,zu,k1⟩:=oQ cu s1 a1;obtain⟨bJ,dZ,c1,kk,au,bL,eY,zv,k2⟩:=oQ b2 s2 a2;subst ai;cases au;have:n=ee:=by omega
    subst this;have:n=eY:=by omega
    subst this;obtain⟨bz,ex⟩:=a5.same I aY bL;subst bz;subst ex;rw[a5.eq bL,beq_self_eq_true,Bool.true_and];refine zC (a5.hQ.length.trans bL.hQ.length.symm) fun i a b ak bz=>?_;obtain⟨v,ev,bf⟩:=a5.hQ.get ak;obtain⟨iE,pM,bv⟩:=bL.hQ.get bz;rw[ev]at pM;cases pM;exact ck (nP k1 ak) (nP k2 bz) bf bv
theorem vo(I:Inv X pins σ H s)(aY:Sub G H):∀(n:Nat){d1 b_:D}{u v:Value}{A:Around},okN n d1=true→okN n b_=true→jL X.K G d1 u→jL X.K G b_ v→A.units+n<cLine→
  SeqAt.EqAt A s u v (bl d1 b_)∧SeqAt.RcAt A s u v (bl d1 b_)∧SeqAt.RcNeAt A s u v (!bl d1 b_):=by
 intro n;induction n with
 |zero=>
  intro d1 b_ u v A cu b2 a1 a2 hu;refine CV (l0 I aY cu a1) (l0 I aY b2 a2) ?_ ?_
  ·cases d1<;>first|rfl|(cases cu)
  ·cases b_<;>first|rfl|(cases b2)
 |succ n ck=>
  intro d1 b_ u v A cu b2 a1 a2 hu;have i0:A.units<cLine:=by omega
  cases s1:fL d1 with
  |true=>
   cases s2:fL b_ with
   |true=>exact CV (l0 I aY cu a1) (l0 I aY b2 a2) s1 s2
   |false=>exact BK i0 (l0 I aY cu a1) (l0 I aY b2 a2) (.inl ⟨s1,s2⟩)
  |false=>
   cases s2:fL b_ with
   |true=>exact BK i0 (l0 I aY cu a1) (l0 I aY b2 a2) (.inr ⟨s1,s2⟩)
   |false=>
    obtain⟨d5,yM,NI⟩:=a1;obtain⟨dW,at2,NJ⟩:=a2;obtain⟨hA,e5,et,l8,ai,a5,ee,zu,k1⟩:=oQ cu s1 yM;obtain⟨bJ,dZ,c1,kk,au,bL,eY,zv,k2⟩:=oQ b2 s2 at2;subst ai;subst au;cases NI;cases NJ;have:n=ee:=by omega
    subst this;have:n=eY:=by omega
    subst this;obtain⟨i3,ao,t1,gj⟩:=a5.heap I aY;obtain⟨dn,a7,dh,df⟩:=bL.heap I aY;have ob:et.length=i3.length:=a5.hQ.length.trans ao.length;have p9:c1.length=dn.length:=bL.hQ.length.trans a7.length;have item:∀j(h1:j<i3.toArray.size)(h2:j<dn.toArray.size),SeqAt.EqAt A.in1 s i3.toArray[j] dn.toArray[j] (ju et c1 j):=fun j h1 h2=>by
     have wa:j<et.length:=by rw[ob];simpa using h1
     have wb:j<c1.length:=by rw[p9];simpa using h2
     have g1:jL X.K G et[j] i3.toArray[j]:=n7 a5.hQ ao j _ _ (List.getElem?_eq_getElem wa) (by simp at h1;simp[h1]);have g2:jL X.K G c1[j] dn.toArray[j]:=n7 bL.hQ a7 j _ _ (List.getElem?_eq_getElem wb) (by simp at h2;simp[h2]);have:=(ck (A:=A.in1) (nP k1 (List.getElem?_eq_getElem wa)) (nP k2 (List.getElem?_eq_getElem wb)) g1 g2 (by rw[in1_units];omega)).1;unfold ju;rw[List.getElem?_eq_getElem wa,List.getElem?_eq_getElem wb];exact this
    have whole:SeqAt.RcAt A s (.ref hA) (.ref bJ) (bl d1 b_)∧SeqAt.RcNeAt A s (.ref hA) (.ref bJ) (!bl d1 b_):=by
     rw[a5.eq bL];cases e5 with
     |true=>
      cases dZ with
      |false=>exact⟨SeqAt.RcAt.tuple_list (t1 rfl) (df rfl) i0,SeqAt.RcNeAt.tuple_list (t1 rfl) (df rfl) i0⟩
      |true=>
       have bK:=SeqAt.RcAt.tuples (e:=ju et c1) (t1 rfl) (dh rfl) i0 item;have dx:=SeqAt.RcNeAt.tuples (e:=ju et c1) (t1 rfl) (dh rfl) i0 item;have eq:((List.range (min i3.toArray.size dn.toArray.size)).all (ju et c1)&&i3.toArray.size==dn.toArray.size)=(true==true&&c7 et c1):=by
        rw[List.size_toArray,List.size_toArray,←ob,←p9,beq_self_eq_true,Bool.true_and];by_cases hl:et.length=c1.length
        ·rw[←hl,Nat.min_self,vq hl,beq_self_eq_true,Bool.and_true]
        ·rw[vp hl];have:(et.length==c1.length)=false:=by simpa using hl
         rw[this,Bool.and_false]
       rw[eq]at bK;refine⟨bK,?_⟩
       first
        |(rw[eq]at dx;exact dx)
        |exact dx
     |false=>
      cases dZ with
      |true=>exact⟨SeqAt.RcAt.list_tuple (gj rfl) (dh rfl) i0,SeqAt.RcNeAt.list_tuple (gj rfl) (dh rfl) i0⟩
      |false=>
       rw[beq_self_eq_true,Bool.true_and];by_cases hl:et.length=c1.length
       ·have bK:=SeqAt.RcAt.lists (e:=ju et c1) (gj rfl) (df rfl) (by rw[List.size_toArray,List.size_toArray,←ob,←p9];exact hl) i0 item;have dx:=SeqAt.RcNeAt.lists (e:=ju et c1) (gj rfl) (df rfl) (by rw[List.size_toArray,List.size_toArray,←ob,←p9];exact hl) i0 item;rw[List.size_toArray,←ob,vq hl]at bK dx;exact⟨bK,dx⟩
       ·have bq:(i3.toArray.size !=dn.toArray.size)=true:=by
          rw[List.size_toArray,List.size_toArray,←ob,←p9];simpa using hl
        rw[vp hl];exact⟨SeqAt.RcAt.lists_lengths (gj rfl) (df rfl) bq i0,SeqAt.RcNeAt.lists_lengths (gj rfl) (df rfl) bq i0⟩
    refine⟨?_,whole⟩;by_cases hp:hA=bJ
    ·subst hp;rw[E8 I aY (n+1) cu b2 yM at2];exact SeqAt.EqAt.same _
    ·exact SeqAt.EqAt.of_refs hp whole.1
end
def notStar:Expr→Bool
 |.Starred .. =>false
 |_=>true
theorem De(e:Expr)(af:List Expr)(env:Env)(h:notStar e=true):starEach (e::af) env=(false,eval e env)::starEach af env:=by cases e<;>first|rfl|(cases h)
def i8:Expr→Bool
 |.ListComp .. =>false
 |.SetComp .. =>false
 |.DictComp .. =>false
 |_=>true
theorem jG(e:Expr)(t:Option Expr)(l:Nat)(env:Env)(h:i8 e=true):swapsWith e t l env=pure false:=by cases e<;>first|rfl|(cases h)
def Lv:Expr→Bool
 |.Slice .. =>false
 |_=>true
theorem bA{b:Expr}(h:Lv b=true:=by rfl):nI b:=fun o i=>by cases b<;>first|rfl|(cases h)
section
variable{X:aC}{F:a3}{e a b c:Expr}{af:List Expr}{pos:Pos}
theorem aP.imp{t t':TE}(h:aP X e t)(i:dq t' t):aP X e t':=fun pins s σ H Q I hw=>h pins s σ H Q I (i σ H Q hw)
theorem dQ.imp{t t':TT}(h:dQ X e t)(i:km t' t):dQ X e t':=fun pins s σ H Q I hw=>h pins s σ H Q I (i σ H Q hw)
theorem gy.imp{t t':TT}(h:gy X e t)(i:km t' t):gy X e t':=fun nt pins s σ H Q I hw=>h nt pins s σ H Q I (i σ H Q hw)
theorem d8.imp{t t':dX}(h:d8 X af t)(i:nF t' t):d8 X af t':=fun p pins s σ H Q I hw=>h p pins s σ H Q I (i σ H Q hw)
theorem cP.imp{st:Stmt}{t t':dR}(h:cP X st t)(i:gx t' t):cP X st t':=fun pins s σ H b8 I hw=>h pins s σ H b8 I (i b8 σ H hw)
theorem eT.imp{st:List Stmt}{t t':dR}(h:eT X st t)(i:gx t' t):eT X st t':=fun pins s σ H b8 I hw=>h pins s σ H b8 I (i b8 σ H hw)
theorem gZ.imp{bF:Expr}{t t':TI}(h:gZ X bF e t)(i:o9 t' t):gZ X bF e t':=fun pins s σ H Q I hw=>h pins s σ H Q I (i σ H Q hw)
abbrev a6(X:aC)(F:a3)(e:Expr)(m:ay):Prop:=aP X e (cc F m)
abbrev lh(X:aC)(F:a3)(e:Expr)(m:aN):Prop:=aP X e (ie F m)
abbrev e4(X:aC)(F:a3)(e:Expr)(m:bN):Prop:=dQ X e (e1 F m)
abbrev my(X:aC)(F:a3)(e:Expr)(m:bN):Prop:=gy X e (e1 F m)
abbrev gw(X:aC)(F:a3)(af:List Expr)(m:aN):Prop:=d8 X af (dE F m)
abbrev fQ(X:aC)(F:a3)(st:Stmt)(m:a_):Prop:=cP X st (ej F m)
abbrev la(X:aC)(F:a3)(st:List Stmt)(m:a_):Prop:=eT X st (ej F m)
abbrev lp(X:aC)(F:a3)(bF e:Expr)(m:aN):Prop:=gZ X bF e (k6 F m)
theorem GZ(i:Nat){x:Str}(hN:X.N[i]?=some x:=by rfl)(hv:fh X.env.scope x:=by first|exact Or.inl rfl|exact Or.inr (Or.inl rfl)|exact Or.inr (Or.inr rfl))(hd:(x==("__debug__" :Str))=false:=by decide)(hcd:(x==("__classdict__" :Str))=false:=by decide):a6 X F (.Name x pos) (aj i):=aP.imp (jA hN hv hd hcd) (Jo i)
theorem GC{i:Int}{j}:a6 X F (.Constant (.int i) j pos) (aw (.int i)):=aP.imp Mt (pY fun _=>by simp only[At])
theorem Gm{i:Bool}{j}:a6 X F (.Constant (.bool i) j pos) (aw (.aq i)):=aP.imp Mj (pY fun _=>by simp only[At])
theorem GU{i:Str}{j}:a6 X F (.Constant (.str i) j pos) (aw (.str i)):=aP.imp Ck (pY fun _=>by simp only[At])
theorem GN{j}:a6 X F (.Constant .none j pos) (aw .non):=aP.imp Mw (pY fun _=>by simp only[At])
theorem Gz{x:Str}{v:V}{u:Value}{d:D}(hm:X.mg x=some u)(r:RelV v u)(at':∀G,At F.K G d v)(hg:cA X x:=by rfl)(hd:(x==("__debug__" :Str))=false:=by decide):a6 X F (.Name x pos) (aw d):=
 aP.imp (Cg hg hm r hd) (pY at')
theorem EZ:gw X F [] ax:=d8.imp kb I8
theorem EY{m:ay}{r:aN}(h:a6 X F e m)(t:gw X F af r)(hs:notStar e=true:=by rfl):gw X F (e::af) (ae m r):=d8.imp (ic h t (De e af X.env hs)) IM
theorem GW{k}{m:aN}(h:gw X F af m):a6 X F (.Tuple af k pos) (bP m):=aP.imp (MB h) Jl
theorem LD{m:aN}(h:gw X F af m):lh X F (.List af pos) (dy m):=aP.imp (Ci h) I1
theorem Gy{m:aN}(h:lh X F e m):a6 X F e (cO m):=aP.imp h IW
theorem O3{m:bN}(h:e4 X F e m):e4 X F e (lO m):=dQ.imp h IJ
theorem Pb{m:ay}(h:a6 X F e m)(he:∀whole,isTrue e X.env whole=(do let v ←whole;standAt e.pos;holding [v] (truthy v)):=by intro _;rfl):e4 X F e (bV m):=dQ.imp (MZ h he) sD
theorem PH{m:bN}(h:e4 X F a m):my X F (.BoolOp .And [a] pos) m:=M6 h
theorem PK{m:bN}(h:e4 X F a m):my X F (.BoolOp .Or [a] pos) m:=M8 h
theorem w_and{m n:bN}(h:e4 X F a m)(k:my X F (.BoolOp .And (b::af) pos) n):my X F (.BoolOp .And (a::b::af) pos) (oe m n):=gy.imp (M5 h k) IF
theorem w_or{m n:bN}(h:e4 X F a m)(k:my X F (.BoolOp .Or (b::af) pos) n):my X F (.BoolOp .Or (a::b::af) pos) (fV m n):=gy.imp (M7 h k) Jb
theorem Pc{m:bN}(h:my X F e m):e4 X F e m:=gy.pt h
theorem Pa{m:bN}(h:e4 X F a m):e4 X F (.UnaryOp .Not a pos) (dU m):=dQ.imp (MY h) I_
theorem GQ{op}{m:ay}(h:a6 X F a m):a6 X F (.BoolOp op [a] pos) m:=My h
theorem Gl{m n:ay}(h:a6 X F a m)(k:a6 X F (.BoolOp .And (b::af) pos) n):a6 X F (.BoolOp .And (a::b::af) pos) (hn m n):=aP.imp (Mi h k) IG
theorem GO{m:ay}(h:a6 X F a m):a6 X F (.UnaryOp .Not a pos) (m3 m):=aP.imp (Mx h) Ja
theorem GA{k:bN}{m n:ay}(h:e4 X F c k)(ha:a6 X F a m)(hb:a6 X F b n):a6 X F (.IfExp c a b pos) (om k m n):=aP.imp (Ms h ha hb) IX
variable{st:Stmt}{k4:List Stmt}
theorem N0:la X F [] dz:=eT.imp Cv I7
theorem NS{m n:a_}(h:fQ X F st m)(k:la X F k4 n):la X F (st::k4) (bC m n):=eT.imp (Cu h k) Jg
theorem N1{m:a_}(h:fQ X F st m):la X F [st] m:=wX h
theorem N2{m:ay}(h:a6 X F e m):fQ X F (.Return (some e) pos) (cY m):=cP.imp (tq h) Jd
theorem N3{m:aN}(h:lh X F e m):fQ X F (.Return (some e) pos) (gm m):=cP.imp (tq h) Je
theorem N4(i:Nat){x:Str}{p:Pos}(hN:X.N[i]?=some x:=by rfl)(hv:fh X.env.scope x:=by first|exact Or.inl rfl|exact Or.inr (Or.inl rfl)|exact Or.inr (Or.inr rfl))(hd:(x==("__debug__" :Str))=false:=by decide)(hcd:(x==("__classdict__" :Str))=false:=by decide) :
  fQ X F (.Return (some (.Name x p)) pos) (gm (j_ i)):=cP.imp (tq (jA hN hv hd hcd)) (Jf i)
theorem NZ{k:bN}{m n:a_}{xs ys:List Stmt}(h:e4 X F c k)(ha:la X F xs m)(hb:la X F ys n):fQ X F (.If c xs ys pos) (du k m n):=cP.imp (Ct h ha hb) IY
theorem NY{m:a_}(i:Nat)(h:fQ X F st m):fQ X F st (oi i m):=cP.imp h IV
theorem N6(i:Nat){x:Str}{p:Pos}{m:ay}(hN:X.N.Nodup)(he:a6 X F e m)(hi:X.N[i]?=some x:=by rfl)(hx:Loc X.env.scope x:=by first|exact Or.inl rfl|exact Or.inr rfl)(hs:i8 e=true:=by rfl)(hf:X.fn x=true∨X.env.scope.names.lookup x=some .local:=by first|exact .inl rfl|exact .inr rfl):fQ X F (.Assign [.Name x p] e pos) (dA i m):=cP.imp (qN hN hi hx he (jG _ _ _ _ hs) hf) Jh
theorem N9(i:Nat){x:Str}{p:Pos}{m:aN}(hN:X.N.Nodup)(he:lh X F e m)(hi:X.N[i]?=some x:=by rfl)(hx:Loc X.env.scope x:=by first|exact Or.inl rfl|exact Or.inr rfl)(hs:i8 e=true:=by rfl)(hf:X.fn x=true∨X.env.scope.names.lookup x=some .local:=by first|exact .inl rfl|exact .inr rfl):fQ X F (.Assign [.Name x p] e pos) (gG i m):=cP.imp (qN hN hi hx he (jG _ _ _ _ hs) hf) AW
theorem mH{op:Operator}{r:dr}{f:D→D→R D}{m n:ay}(ho:cX X (binaryOp op) r)(hf:eJ F r f)(ha:a6 X F a m)(hb:a6 X F b n):a6 X F (.BinOp a op b pos) (aB f m n):=aP.imp (Mz ho ha hb) (sE hf)
theorem r9{op:CmpOp}{r:dr}{f:D→D→R D}{m n:ay}(ho:cX X (compareOp op) r)(hf:eJ F r f)(ha:a6 X F a m)(hb:a6 X F b n)(hm:behindInMarks op b=false):a6 X F (.Compare a [op] [b] pos) (aB f m n):=aP.imp (Mm ho ha hb hm) (sE hf)
theorem tP{op:CmpOp}{r:dr}{f:D→D→R D}{m n:ay}(ho:cX X (compareOp op) r)(hf:eJ F r f)(ha:a6 X F a m)(hb:a6 X F b n)(hm:behindInMarks op b=false):e4 X F (.Compare a [op] [b] pos) (bV (aB f m n)):=
 dQ.imp (MX ho ha hb hm) fun σ H Q h=>by obtain⟨G,ρ,r,k⟩:=AO (F:=F) (m:=aB f m n) σ H Q h;exact sE hf σ H _ ⟨G,ρ,r,k⟩
theorem GY{op:UnaryOp}{r:V→J→bT→Prop}{f:D→R D}{m:ay}(ho:rH X (unaryOp op) r)(hf:yy F r f)(ha:a6 X F a m):a6 X F (.UnaryOp op a pos) (bW f m):=aP.imp (MC ho ha) (Jn hf)
def iw(f:Int→Int→R D):D→D→R D
 |.int i,.int j=>f i j
 |_,_=>.bad
theorem qC{g:Int→Int→V}{f:Int→Int→D}(h:∀i j G,At F.K G (f i j) (g i j)):eJ F (jC g) (iw fun i j=>.ok (f i j)):=by
 intro σ ρ G H x y aJ e7 Q r bu cC k;unfold iw at k
 split at k
 ·rename_i i j;simp only[At]at bu cC;exact⟨i,j,bu,cC,k _ H G r (bQ.refl _ _) (h i j G)⟩
 ·exact k.elim
theorem tj{C:Int→Int→Prop}[∀i j,Decidable (C i j)]{g:Int→Int→V}{f:Int→Int→D}(h:∀i j G,At F.K G (f i j) (g i j)):eJ F (oL C g) (iw fun i j=>if C i j then .ok (f i j)else .bad):=by
 intro σ ρ G H x y aJ e7 Q r bu cC k;unfold iw at k
 split at k
 ·rename_i i j;simp only[At]at bu cC;dsimp only at k
  split at k
  ·rename_i hc;exact⟨i,j,bu,cC,hc,k _ H G r (bQ.refl _ _) (h i j G)⟩
  ·exact k.elim
 ·exact k.elim
instance(i j:Int):Decidable (rv i j):=by unfold rv;infer_instance
instance(i j:Int):Decidable (o3 i j):=by unfold o3;infer_instance
instance(i j:Int):Decidable (nC i j):=by unfold nC;infer_instance
def ni:=iw fun i j=>.ok (.int (i-j))
def ka:=iw fun i j=>if nC i j then .ok (.int (i*j))else .bad
def hV:=iw fun i j=>if rv i j then .ok (.int (i/j))else .bad
def gp:=iw fun i j=>if 0<j then .ok (.int (i%j))else .bad
def lX:=iw fun i j=>if o3 i j then .ok (.int (i^j.toNat))else .bad
def od:=iw fun i j=>.ok (.aq (decide (i<j)))
def jv:=iw fun i j=>.ok (.aq (decide (i≤j)))
def sm:=iw fun i j=>.ok (.aq (decide (j<i)))
variable{m n:ay}
theorem GV(ha:a6 X F a m)(hb:a6 X F b n):a6 X F (.BinOp a .Sub b pos) (aB ni m n):=mH L6 (qC fun _ _ _=>by simp only[At]) ha hb
theorem GJ(ha:a6 X F a m)(hb:a6 X F b n):a6 X F (.BinOp a .Mult b pos) (aB ka m n):=mH L2 (tj fun _ _ _=>by simp only[At]) ha hb
theorem Gw(ha:a6 X F a m)(hb:a6 X F b n):a6 X F (.BinOp a .FloorDiv b pos) (aB hV m n):=mH LY (tj fun _ _ _=>by simp only[At]) ha hb
theorem GI(ha:a6 X F a m)(hb:a6 X F b n):a6 X F (.BinOp a .Mod b pos) (aB gp m n):=mH L1 (tj fun _ _ _=>by simp only[At]) ha hb
theorem GR(ha:a6 X F a m)(hb:a6 X F b n):a6 X F (.BinOp a .Pow b pos) (aB lX m n):=mH L4 (tj fun _ _ _=>by simp only[At]) ha hb
theorem O9(ha:a6 X F a m)(hb:a6 X F b n):e4 X F (.Compare a [.Lt] [b] pos) (bV (aB od m n)):=tP B5 (qC fun _ _ _=>by simp only[At]) ha hb (m8 _)
theorem O8(ha:a6 X F a m)(hb:a6 X F b n):e4 X F (.Compare a [.Gt] [b] pos) (bV (aB sm m n)):=tP LZ (qC fun _ _ _=>by simp only[At]) ha hb (m8 _)
def kU:D→R D
 |.int i=>.ok (.int (-i))
 |_=>.bad
theorem GL(ha:a6 X F a m):a6 X F (.UnaryOp .USub a pos) (bW kU m):=GY Px (fun σ ρ G H x aJ Q r bu k=>by
 unfold kU at k
 split at k
 ·rename_i i;simp only[At]at bu;exact⟨i,bu,k _ H G r (bQ.refl _ _) (by simp only[At])⟩
 ·exact k.elim) ha
noncomputable def dY:D→D→R D
 |.int i,.int j=>.ok (.int (i+j))
 |.str x,.str y=>if x.length+y.length≤1000000 then .ok (.str (x++y))else .bad
 |.lst xs,.lst ys=>if xs.length+ys.length≤1000000 then .ok (.lst (xs++ys))else .bad
 |_,_=>.bad
theorem LJ:eJ F (fun x y H Q=>jC (fun i j=>.int (i+j)) x y H Q∨(∃i j,x=.str i∧y=.str j∧i.length+j.length≤sizeLine∧Q (.str (i++j)) H)∨CA x y H Q) dY:=by
 intro σ ρ G H x y aJ e7 Q r bu cC k;unfold dY at k
 split at k
 ·rename_i i j;simp only[At]at bu cC;exact .inl ⟨i,j,bu,cC,k _ H G r (bQ.refl _ _) (by simp only[At])⟩
 ·rename_i i j;simp only[At]at bu cC
  split at k
  ·rename_i hl;exact .inr (.inl ⟨i,j,bu,cC,Nat.le_trans hl (by decide),k _ H G r (bQ.refl _ _) (by simp only[At])⟩)
  ·exact k.elim
 ·rename_i ds af;simp only[At]at bu cC
  split at k
  ·rename_i hl;obtain⟨p,xs,ai,h1,a5⟩:=bu;obtain⟨bJ,ys,au,h2,bL⟩:=cC;refine .inr (.inr ⟨p,bJ,xs,ys,ai,au,r.aA.sub _ _ h1,r.aA.sub _ _ h2,by rw[←a5.length,←bL.length];exact Nat.le_trans hl (by decide),fun l aI=>?_⟩);refine k (.ref l) _ _ (r.lay aI) (bQ.lay r.aA.sub aI) ?_;simp only[At];exact⟨l,xs++ys,rfl,c3,(a5.append bL).mono (Sub.upd (r.aA.sub.gone aI))⟩
  ·exact k.elim
 ·exact k.elim
theorem Gj(ha:a6 X F a m)(hb:a6 X F b n):a6 X F (.BinOp a .Add b pos) (aB dY m n):=mH (LV.or (LW.or LX)) LJ ha hb
noncomputable def de(b:Bool)(x y:D):R D:=if okN 8 x=true∧okN 8 y=true then .ok (.aq (if b then bl x y else !bl x y))else .bad
noncomputable def w0(F:a3)(b:Bool):dr:=fun x y H Q=>∃G d1 b_,Sub G H∧At F.K G d1 x∧At F.K G b_ y∧okN 8 d1=true∧okN 8 b_=true∧Q (.aq (if b then bl d1 b_ else !bl d1 b_)) H
theorem B4(hK:F.K=X.K)(hu:X.A.units+64<cLine):cX X (compareOp .Eq) (w0 F true):=by intro pins s σ H x y v u Q I bb bG h;obtain⟨G,d1,b_,aY,a1,a2,cu,b2,q⟩:=h;rw[hK]at a1 a2;exact(vo I aY 8 (A:=X.A) cu b2 ⟨x,a1,bb⟩ ⟨y,a2,bG⟩ (by omega)).2.1 X.prog X.w X.xe _ ⟨.aq _,H,I,rfl,q⟩
theorem B6(hK:F.K=X.K)(hu:X.A.units+64<cLine):cX X (compareOp .NotEq) (w0 F false):=by intro pins s σ H x y v u Q I bb bG h;obtain⟨G,d1,b_,aY,a1,a2,cu,b2,q⟩:=h;rw[hK]at a1 a2;exact(vo I aY 8 (A:=X.A) cu b2 ⟨x,a1,bb⟩ ⟨y,a2,bG⟩ (by omega)).2.2 X.prog X.w X.xe _ ⟨.aq _,H,I,rfl,q⟩
theorem ti(b:Bool):eJ F (w0 F b) (de b):=by
 intro σ ρ G H x y aJ e7 Q r bu cC k;unfold de at k
 split at k
 ·rename_i ho;exact⟨G,aJ,e7,r.aA.sub,bu,cC,ho.1,ho.2,k _ H G r (bQ.refl _ _) (by simp only[At])⟩
 ·exact k.elim
theorem O7(hu:X.A.units+64<cLine)(ha:a6 X F a m)(hb:a6 X F b n)(hK:F.K=X.K:=by rfl):e4 X F (.Compare a [.Eq] [b] pos) (bV (aB (de true) m n)):=tP (B4 hK hu) (ti true) ha hb (m8 _)
theorem O_(hu:X.A.units+64<cLine)(ha:a6 X F a m)(hb:a6 X F b n)(hK:F.K=X.K:=by rfl):e4 X F (.Compare a [.NotEq] [b] pos) (bV (aB (de false) m n)):=tP (B6 hK hu) (ti false) ha hb (m8 _)
theorem Gv(hu:X.A.units+64<cLine)(ha:a6 X F a m)(hb:a6 X F b n)(hK:F.K=X.K:=by rfl):a6 X F (.Compare a [.Eq] [b] pos) (aB (de true) m n):=r9 (B4 hK hu) (ti true) ha hb (m8 _)
theorem GK(hu:X.A.units+64<cLine)(ha:a6 X F a m)(hb:a6 X F b n)(hK:F.K=X.K:=by rfl):a6 X F (.Compare a [.NotEq] [b] pos) (aB (de false) m n):=r9 (B6 hK hu) (ti false) ha hb (m8 _)
end
section
variable{X:aC}{F:a3}{e a b c:Expr}{af:List Expr}{pos:Pos}{m n:ay}
theorem zD:∀{ds nZ:List D},ds.length=nZ.length→(∀(i:Nat) x y,ds[i]?=some x→nZ[i]?=some y→∀z,bl x z=bl y z)→∀af,c7 ds af=c7 nZ af
 |[],[],_,_,_=>rfl
 |[],_::_,h,_,_=>by simp at h
 |_::_,[],h,_,_=>by simp at h
 |x::xs,y::ys,h,k,[]=>by simp only[c7]
 |x::xs,y::ys,h,k,e::af=>by simp only[c7];rw[k 0 x y rfl rfl e,zD (by simpa using h) (fun i a b ai au=>k (i+1) a b (by simpa using ai) (by simpa using au)) af]
theorem CW{K:PySem.W.Frag}{G:J}{d d':D}{x:V}(o:fL d=true)(a1:At K G d x)(a2:At K G d' x):d=d':=by
 cases d with
 |non=>simp only[At]at a1;subst a1;cases d'<;>simp only[At]at a2<;>first|rfl|(cases a2;done)|(obtain⟨a,xs,e,_⟩:=a2;cases e;done)|(obtain⟨a,aJ,xs,e,_⟩:=a2;cases e;done)
 |aq b=>simp only[At]at a1;subst a1;cases d'<;>simp only[At]at a2<;>first|(cases a2;rfl)|(cases a2;done)|(obtain⟨a,xs,e,_⟩:=a2;cases e;done)|(obtain⟨a,aJ,xs,e,_⟩:=a2;cases e;done)
 |int b=>simp only[At]at a1;subst a1;cases d'<;>simp only[At]at a2<;>first|(cases a2;rfl)|(cases a2;done)|(obtain⟨a,xs,e,_⟩:=a2;cases e;done)|(obtain⟨a,aJ,xs,e,_⟩:=a2;cases e;done)
 |str b=>simp only[At]at a1;subst a1;cases d'<;>simp only[At]at a2<;>first|(cases a2;rfl)|(cases a2;done)|(obtain⟨a,xs,e,_⟩:=a2;cases e;done)|(obtain⟨a,aJ,xs,e,_⟩:=a2;cases e;done)
 |_=>cases o
theorem fB.val{K:PySem.W.Frag}{G:J}{d:D}{p:Addr}{b:Bool}{ds:List D}{xs:List V}(h:fB K G d p b ds xs)(e:D):bl d e=match e with
  |.tup af=>b&&c7 ds af
  |.cM af=>b&&c7 ds af
  |.lst af=>!b&&c7 ds af
  |.bM af=>!b&&c7 ds af
  |_=>false:=by
 cases h<;>cases e<;>simp[bl]
section
variable{pins:List (Addr×Obj)}{σ :St}{H G:J}{s:Shared}
theorem E7(I:Inv X pins σ H s)(aY:Sub G H):∀(n:Nat){d d':D}{x:V},okN n d=true→okN n d'=true→At X.K G d x→At X.K G d' x→∀e,bl d e=bl d' e:=by
 intro n;induction n with
 |zero=>intro d d' x cu b2 a1 a2 e;rw[CW (by cases d<;>first|rfl|(cases cu)) a1 a2]
 |succ n ck=>
  intro d d' x cu b2 a1 a2 e;cases s1:fL d with
  |true=>rw[CW s1 a1 a2]
  |false=>
   cases s2:fL d' with
   |true=>exact(zB s2 s1 a1 a2).elim
   |false=>
    obtain⟨hA,e5,et,l8,ai,a5,ee,zu,k1⟩:=oQ cu s1 a1;obtain⟨bJ,dZ,c1,kk,au,bL,eY,zv,k2⟩:=oQ b2 s2 a2;subst ai;cases au;have:n=ee:=by omega
    subst this;have:n=eY:=by omega
    subst this;obtain⟨bz,ex⟩:=a5.same I aY bL;subst bz;subst ex;have el:∀af,c7 et af=c7 c1 af:=zD (a5.hQ.length.trans bL.hQ.length.symm) fun i a b ak bz z=>by obtain⟨v,ev,bf⟩:=a5.hQ.get ak;obtain⟨iE,pM,bv⟩:=bL.hQ.get bz;rw[ev]at pM;cases pM;exact ck (nP k1 ak) (nP k2 bz) bf bv z
    rw[a5.val,bL.val];cases e<;>first|rfl|(simp only[el])
open Classical in
noncomputable def nQ(K:PySem.W.Frag)(G:J)(d:D)(u:Value):Bool:=if h:∃d',okN 7 d'=true∧jL K G d' u then bl (Classical.choose h) d else false
theorem yI(I:Inv X pins σ H s)(aY:Sub G H){d d1:D}{u:Value}(o:okN 7 d=true)(h:jL X.K G d u):nQ X.K G d1 u=bl d d1:=by have hx:∃d',okN 7 d'=true∧jL X.K G d' u:=⟨d,o,h⟩;unfold nQ;rw[dif_pos hx];obtain⟨bw,h'⟩:=Classical.choose_spec hx;obtain⟨x,a,r⟩:=h;obtain⟨oW,kr,aZ⟩:=h';have:oW=x:=aZ.inj r;subst this;exact E7 I aY 7 bw o kr a d1
theorem yJ(I:Inv X pins σ H s)(aY:Sub G H){d1:D}:∀{ds:List D}{xs:List V}{its:List Value},aE X.K G ds xs→Vals xs its→ds.all (okN 7)=true→its.any (nQ X.K G d1)=ds.any fun y=>bl y d1
 |[],_,_,q,r,_=>by simp only[aE]at q;subst q;cases r;rfl
 |d::ds,_,_,q,r,o=>by
  simp only[aE]at q;obtain⟨v,t4,rfl,bf,kx⟩:=q;cases r with
  |cons ao a7=>rw[List.all_cons,Bool.and_eq_true]at o;rw[List.any_cons,List.any_cons,yI I aY o.1 ⟨v,bf,ao⟩,yJ I aY kx a7 o.2]
theorem BJ(I:Inv X pins σ H s)(aY:Sub G H){d1:D}{x:V}{v:Value}{A:Around}(hu:A.units+8<cLine)(cu:okN 7 d1=true)(a1:At X.K G d1 x)(bb:RelV x v):∀{ds:List D}{xs:List V}{its:List Value},aE X.K G ds xs→Vals xs its→ds.all (okN 7)=true→
  ∀u∈its,SeqAt.EqAt A s u v (nQ X.K G d1 u)
 |[],_,_,q,r,_=>by simp only[aE]at q;subst q;cases r;exact fun u hu=>nomatch hu
 |d::ds,_,_,q,r,o=>by
  simp only[aE]at q;obtain⟨w,wr,rfl,bf,kx⟩:=q;cases r with
  |cons ao a7=>
   rw[List.all_cons,Bool.and_eq_true]at o;intro jc hm;rcases List.mem_cons.mp hm with e|hm
   ·subst e;rw[yI I aY o.1 ⟨w,bf,ao⟩];exact(vo I aY 7 (A:=A) o.1 cu ⟨w,bf,ao⟩ ⟨x,a1,bb⟩ (by omega)).1
   ·exact BJ I aY hu cu a1 bb kx a7 o.2 jc hm
end
noncomputable def tC:D→Option (List D)
 |.tup ys=>some ys
 |.cM ys=>some ys
 |.lst ys=>some ys
 |.bM ys=>some ys
 |_=>none
noncomputable def inD(b:Bool)(x y:D):R D:=match tC y with
 |some ys=>if okN 7 x=true∧ys.all (okN 7)=true then .ok (.aq (if b then ys.any (fun y=>bl y x)else !ys.any fun y=>bl y x))else .bad
 |none=>.bad
noncomputable def CB(F:a3)(b:Bool):dr:=fun x y H Q=>∃G d1 b_ p ds xs k,Sub G H∧At F.K G d1 x∧y=.ref p∧fB F.K G b_ p k ds xs∧okN 7 d1=true∧ds.all (okN 7)=true∧Q (.aq (if b then ds.any (fun y=>bl y d1)else !ds.any fun y=>bl y d1)) H
theorem L0(hK:F.K=X.K)(hu:X.A.units+64<cLine):cX X (compareOp .In) (CB F true):=by
 intro pins s σ H x y v u Q I bb bG h;obtain⟨G,d1,b_,p,ds,xs,k,aY,a1,rfl,ke,cu,b2,q⟩:=h;rw[hK]at a1 ke;cases bG;obtain⟨its,ao,t1,gj⟩:=ke.heap I aY;have q:Q (.aq (ds.any fun y=>bl y d1)) H:=q;rw[←yJ I aY ke.hQ ao b2]at q;have hm:=BJ I aY (A:=X.A.in1) (d1:=d1) (by rw[in1_units];omega) cu a1 bb ke.hQ ao b2;cases k with
 |true=>exact SeqAt.in_tupleAt (nQ X.K G d1) (t1 rfl) (fun w hw=>hm w (by simpa using hw)) ⟨.aq _,H,I,rfl,by simpa using q⟩
 |false=>exact SeqAt.in_listAt (nQ X.K G d1) (gj rfl) (fun w hw=>hm w (by simpa using hw)) ⟨.aq _,H,I,rfl,by simpa using q⟩
theorem OL{K:PySem.W.Frag}{G:J}{d:D}{x:V}{ds:List D}(e:tC d=some ds)(a:At K G d x):∃p xs k,x=.ref p∧fB K G d p k ds xs:=by
 cases d<;>first
  |(cases e;done)
  |(cases e
    simp only[At]at a;obtain⟨p,xs,e,h,q⟩:=a
    first
     |exact⟨p,xs,_,e,.tup (cB.of h) q⟩
     |exact⟨p,xs,_,e,.cM h q⟩
     |exact⟨p,xs,_,e,.lst h q⟩
     |exact⟨p,xs,_,e,.bM h q⟩)
theorem LL(b:Bool):eJ F (CB F b) (inD b):=by
 intro σ ρ G H x y aJ e7 Q r bu cC k;unfold inD at k;cases e:tC e7 with
 |none=>rw[e]at k;exact k.elim
 |some ys=>
  rw[e]at k;dsimp only at k
  split at k
  ·rename_i ho;obtain⟨p,xs,cq,d2,ke⟩:=OL e cC;exact⟨G,aJ,e7,p,ys,xs,cq,r.aA.sub,bu,d2,ke,ho.1,ho.2,k _ H G r (bQ.refl _ _) (by simp only[At])⟩
  ·exact k.elim
theorem GB(hu:X.A.units+64<cLine)(ha:a6 X F a m)(hb:a6 X F b n)(hK:F.K=X.K:=by rfl)(hm:behindInMarks .In b=false:=by with_unfolding_all rfl):a6 X F (.Compare a [.In] [b] pos) (aB (inD true) m n):=r9 (L0 hK hu) (LL true) ha hb hm
def mW:D→Bool
 |.non=>true
 |_=>false
def n6(b:Bool):D→D→R D
 |x,.non=>.ok (.aq (if b then mW x else !mW x))
 |_,_=>.bad
theorem JJ{K:PySem.W.Frag}{G:J}{d:D}{x:V}(a:At K G d x):mW d=decide (x=.non):=by
 cases d<;>simp only[At]at a<;>first
  |(subst a;simp[mW];done)
  |(obtain⟨p,xs,e,_⟩:=a;subst e;simp[mW];done)
  |(obtain⟨p,aJ,xs,e,_⟩:=a;subst e;simp[mW];done)
theorem GP(ha:a6 X F a m)(hb:a6 X F b n):a6 X F (.Compare a [.IsNot] [b] pos) (aB (n6 false) m n):=r9 L3 (fun σ ρ G H x y aJ e7 Q r bu cC k=>by
 unfold n6 at k
 split at k
 ·simp only[At]at cC;rw[JJ bu]at k;exact⟨cC,k _ H G r (bQ.refl _ _) (by simp only[At];rfl)⟩
 ·exact k.elim) ha hb (m8 _)
noncomputable def hq(f g:D→D→R D)(a b c:ay):ay:=fun ρ=>(a ρ).bind fun x=>(b ρ).bind fun y=>(f x y).bind fun z=>(hP z).bind fun k=>if k=true then(c ρ).bind fun w=>g y w else .ok (.aq false)
theorem AR{r aZ:dr}{f g:D→D→R D}{l:ay}(hf:eJ F r f)(hg:eJ F aZ g):dq (cc F (hq f g m n l)) (xQ r aZ (cc F m) (cc F n) (cc F l)):=by
 rintro σ H Q ⟨G,ρ,w4,h⟩;unfold hq at h;refine⟨G,ρ,w4,?_⟩;cases ak:m ρ with
 |bad=>rw[ak]at h;exact h.elim
 |exc c=>rw[ak]at h;exact h
 |ok aJ=>
  rw[ak,R.bh]at h;intro x H1 aL ao s1 bu;refine⟨aL,ρ,ao,?_⟩;cases bz:n ρ with
  |bad=>rw[bz]at h;exact h.elim
  |exc c=>rw[bz]at h;exact h
  |ok e7=>
   rw[bz,R.bh]at h;intro y aQ cx a7 s2 cC;refine hf σ ρ cx aQ x y aJ e7 _ a7 (bu.mono s2.g) cC ?_;cases hS:f aJ e7 with
   |bad=>rw[hS]at h;exact h.elim
   |exc c=>rw[hS]at h;exact h
   |ok Ga=>
    rw[hS,R.bh]at h;intro z cN fN dN s3 yO;cases Ga with
    |aq k=>
     simp only[At]at yO;refine⟨k,yO,?_⟩;have h:hj F G H σ ρ Q (if k=true then(l ρ).bind fun w=>g e7 w else .ok (.aq false)):=h;cases k with
     |false=>rw[if_neg Bool.false_ne_true]at h ⊢;exact h _ cN fN dN (s1.trans (s2.trans s3)) (by simp only[At])
     |true=>
      rw[if_pos rfl]at h ⊢;refine⟨fN,ρ,dN,?_⟩;cases ec:l ρ with
      |bad=>rw[ec]at h;exact h.elim
      |exc c=>rw[ec]at h;exact h
      |ok F_=>rw[ec,R.bh]at h;intro w f7 EF eh s4 jU;exact hg σ ρ EF f7 y w e7 F_ Q eh ((cC.mono s3.g).mono s4.g) jU (h.mono (s1.trans (s2.trans (s3.trans s4))))
    |_=>exact h.elim
theorem Gr{op eO:CmpOp}{r aZ:dr}{f g:D→D→R D}{l:ay}(ho:cX X (compareOp op) r)(ho':cX X (compareOp eO) aZ)(hf:eJ F r f)(hg:eJ F aZ g)(ha:a6 X F a m)(hb:a6 X F b n)(hc:a6 X F c l)(hm:lastMarks [op,eO] [b,c]=false:=by with_unfolding_all rfl) :
  a6 X F (.Compare a [op,eO] [b,c] pos) (hq f g m n l):=aP.imp (Ml ho ho' ha hb hc hm) (AR hf hg)
theorem O4{op eO:CmpOp}{r aZ:dr}{f g:D→D→R D}{l:ay}(ho:cX X (compareOp op) r)(ho':cX X (compareOp eO) aZ)(hf:eJ F r f)(hg:eJ F aZ g)(ha:a6 X F a m)(hb:a6 X F b n)(hc:a6 X F c l)(hm:lastMarks [op,eO] [b,c]=false:=by with_unfolding_all rfl) :
  e4 X F (.Compare a [op,eO] [b,c] pos) (bV (hq f g m n l)):=dQ.imp (MW ho ho' ha hb hc hm) fun σ H Q h=>by
  obtain⟨G,ρ,r,k⟩:=AO (F:=F) (m:=hq f g m n l) σ H Q h;exact AR hf hg σ H _ ⟨G,ρ,r,k⟩
theorem LO:eJ F (jC fun i j=>.aq (decide (i<j))) od:=qC fun _ _ _=>by simp only[At]
theorem qD:eJ F (jC fun i j=>.aq (decide (i≤j))) jv:=qC fun _ _ _=>by simp only[At]
end
section
variable{X:aC}{F:a3}{e a b c:Expr}{af:List Expr}{pos p:Pos}{m n:ay}{ma:aN}
def cU(f:List D→R D)(m:aN):ay:=fun ρ=>(m ρ).bind f
noncomputable def nD(F:a3)(r:List V→J→bT→Prop)(f:List D→R D):Prop:=∀ σ ρ G H xs ds Q,Rel F G H σ ρ→aE F.K G ds xs→hj F G H σ ρ Q (f ds)→r xs H Q
theorem AQ{r:List V→J→bT→Prop}{f:List D→R D}(hf:nD F r f):dq (cc F (cU f ma)) (q3 r (dE F ma)):=by
 rintro σ H Q ⟨G,ρ,w4,h⟩;unfold cU at h;refine⟨G,ρ,w4,?_⟩;cases ak:ma ρ with
 |bad=>rw[ak]at h;exact h.elim
 |exc c=>rw[ak]at h;exact h
 |ok ds=>rw[ak,R.bh]at h;intro vs H1 aL ao s1 a;exact hf σ ρ aL H1 vs ds Q ao a (h.mono s1)
theorem zr{x:Str}{id:String}{r:List V→J→bT→Prop}{f:List D→R D}(hc:jg X (.builtin id) r)(hf:nD F r f)(hm:X.mg x=none)(hv:bootBuiltins x=some (.builtin id))(ha:gw X F (e::af) ma)(hg:cA X x:=by rfl)(aI:x≠"__name__":=by decide)(hdb:(x==("__debug__" :Str))=false:=by decide)(he:starEach (e::af) X.env=(false,eval e X.env)::starEach af X.env:=by rfl)(hpl:(backTo pos (starEach af X.env)).any (·.1)=false:=by rfl):a6 X F (.Call (.Name x p) (e::af) [] pos) (cU f ma):=
 aP.imp (qK hc hg hm hv ha aI hdb he hpl) (AQ hf)
theorem Gq{x:Str}{T:String}{r:List V→J→bT→Prop}{f:List D→R D}(hc:jg X (.type T) r)(hf:nD F r f)(hm:X.mg x=none)(hv:bootBuiltins x=some (.type T))(ha:gw X F (e::af) ma)(hg:cA X x:=by rfl)(aI:x≠"__name__":=by decide)(hdb:(x==("__debug__" :Str))=false:=by decide)(he:starEach (e::af) X.env=(false,eval e X.env)::starEach af X.env:=by rfl)(hpl:(backTo pos (starEach af X.env)).any (·.1)=false:=by rfl):a6 X F (.Call (.Name x p) (e::af) [] pos) (cU f ma):=
 aP.imp (Ce hc hg hm hv ha aI hdb he hpl) (AQ hf)
noncomputable def dg:List D→R D
 |[.str x]=>if x.length≤1000000 then .ok (.int x.length)else .bad
 |[.lst xs]=>.ok (.int xs.length)
 |[.bM xs]=>.ok (.int xs.length)
 |[.tup xs]=>.ok (.int xs.length)
 |[.cM xs]=>.ok (.int xs.length)
 |_=>.bad
theorem aE.one{K:PySem.W.Frag}{G:J}{d:D}{vs:List V}(a:aE K G [d] vs):∃v,vs=[v]∧At K G d v:=by simp only[aE]at a;obtain⟨v,r,rfl,h,rfl⟩:=a;exact⟨v,rfl,h⟩
theorem LN(hK:F.K=X.K):nD F (fun xs H Q=>∃x n,xs=[x]∧yo X.K x H n∧Q (.int n) H) dg:=by
 intro σ ρ G H xs ds Q r al k;unfold dg at k
 split at k
 ·rename_i x;obtain⟨v,rfl,bf⟩:=al.one;simp only[At]at bf;subst bf
  split at k
  ·rename_i hl;exact⟨_,x.length,rfl,⟨Nat.le_trans hl (by decide),rfl⟩,k _ H G r (bQ.refl _ _) (by simp only[At])⟩
  ·exact k.elim
 ·rename_i ys;obtain⟨v,rfl,bf⟩:=al.one;simp only[At]at bf;obtain⟨q,xs,rfl,h,al⟩:=bf;rw[al.length]at k;exact⟨_,xs.length,rfl,.inl ⟨xs,bx.of (r.aA.sub _ _ h),rfl⟩,k _ H G r (bQ.refl _ _) (by simp only[At])⟩
 ·rename_i ys;obtain⟨v,rfl,bf⟩:=al.one;simp only[At]at bf;obtain⟨q,xs,rfl,h,al⟩:=bf;rw[al.length]at k;rw[hK]at h;exact⟨_,xs.length,rfl,.inl ⟨xs,bx.mono r.aA.sub h,rfl⟩,k _ H G r (bQ.refl _ _) (by simp only[At])⟩
 ·rename_i ys;obtain⟨v,rfl,bf⟩:=al.one;simp only[At]at bf;obtain⟨q,xs,rfl,h,al⟩:=bf;rw[al.length]at k;exact⟨_,xs.length,rfl,.inr ⟨xs,cB.of (r.aA.sub _ _ h),rfl⟩,k _ H G r (bQ.refl _ _) (by simp only[At])⟩
 ·rename_i ys;obtain⟨v,rfl,bf⟩:=al.one;simp only[At]at bf;obtain⟨q,xs,rfl,h,al⟩:=bf;rw[al.length]at k;rw[hK]at h;exact⟨_,xs.length,rfl,.inr ⟨xs,cB.mono r.aA.sub h,rfl⟩,k _ H G r (bQ.refl _ _) (by simp only[At])⟩
 ·exact k.elim
theorem GG(hm:X.mg "len"=none)(ha:gw X F [e] ma)(hK:F.K=X.K:=by rfl)(hg:cA X "len":=by rfl)(he:starEach [e] X.env=(false,eval e X.env)::starEach [] X.env:=by rfl)(hpl:(backTo pos (starEach [] X.env)).any (·.1)=false:=by rfl) :
  a6 X F (.Call (.Name "len" p) [e] [] pos) (cU dg ma):=zr Fs (LN hK) hm PySem.boot_len ha hg (by decide) (by decide) he hpl
noncomputable def rg:D→Option String
 |.non=>some "NoneType"
 |.aq _=>some "bool"
 |.int _=>some "int"
 |.str _=>some "str"
 |.lst _=>some "list"
 |.bM _=>some "list"
 |.tup _=>some "tuple"
 |.cM _=>some "tuple"
 |.cj _ _=>some "dict"
 |.a4 _ _=>some "dict"
 |_=>none
def xK(T U:String):Bool:=T==U||(T=="bool"&&U=="int")
def gh(U:String)(d:D):R D:=match rg d with
 |some T=>.ok (.aq (xK T U))
 |none=>.bad
noncomputable def mx(K:PySem.W.Frag)(U:String):Prop:=∀T,T="NoneType"∨T="bool"∨T="int"∨T="str"∨T="list"∨T="tuple"∨T="dict"→PySem.W.kitOne K (.type T) (.type U)=some (xK T U)
theorem Pj(K:PySem.W.Frag):mx K "int":=fun T h=>by rcases h with rfl|rfl|rfl|rfl|rfl|rfl|rfl<;>kernel_rfl
theorem tU(K:PySem.W.Frag):mx K "bool":=fun T h=>by rcases h with rfl|rfl|rfl|rfl|rfl|rfl|rfl<;>kernel_rfl
theorem DI(K:PySem.W.Frag):mx K "list":=fun T h=>by rcases h with rfl|rfl|rfl|rfl|rfl|rfl|rfl<;>kernel_rfl
theorem Pk(K:PySem.W.Frag):mx K "tuple":=fun T h=>by rcases h with rfl|rfl|rfl|rfl|rfl|rfl|rfl<;>kernel_rfl
theorem JK{pins:List (Addr×Obj)}{σ :St}{H G:J}{s:Shared}{Q:Value→Shared→Prop}{E:Value→Shared→Prop}{d:D}{x:V}{u:Value}{T U:String}{k:Bool}(I:Inv X pins σ H s)(aY:Sub G H)(at':At X.K G d x)(bb:RelV x u)(e:rg d=some T)(tt:PySem.W.kitOne X.K (.type T) (.type U)=some k)(h:∀d4,Q (.bool k) { s with toks:=d4 }):wpAny (model X.prog X.w) X.A (call (.builtin "isinstance") [u,.type U]) Q E s:=by
 cases d with
 |non=>cases e;simp only[At]at at';subst at';cases bb;exact PySem.W.kia_one PySem.W.kitx_none I.dJ True.intro tt (fun z=>nomatch z) h
 |aq b=>cases e;simp only[At]at at';subst at';cases bb;exact PySem.W.kia_one PySem.W.kitx_bool I.dJ True.intro tt (fun z=>nomatch z) h
 |int b=>cases e;simp only[At]at at';subst at';obtain⟨t,rfl⟩:=bb;exact PySem.W.kia_one PySem.W.kitx_int I.dJ True.intro tt (fun z=>nomatch z) h
 |str b=>cases e;simp only[At]at at';subst at';obtain⟨t,rfl⟩:=bb;exact PySem.W.kia_one PySem.W.kitx_str I.dJ True.intro tt (fun z=>nomatch z) h
 |lst ds=>cases e;simp only[At]at at';obtain⟨q,xs,rfl,aH,_⟩:=at';cases bb;obtain⟨its,_,⟨o,n,ai,au,_⟩,_⟩:=I.list (bx.of (aY _ _ aH));exact PySem.W.kia_one PySem.W.kitx_list I.dJ ⟨o,ai,au⟩ tt (fun z=>nomatch z) h
 |bM ds=>cases e;simp only[At]at at';obtain⟨q,xs,rfl,aH,_⟩:=at';cases bb;obtain⟨its,_,⟨o,n,ai,au,_⟩,_⟩:=I.list (bx.mono aY aH);exact PySem.W.kia_one PySem.W.kitx_list I.dJ ⟨o,ai,au⟩ tt (fun z=>nomatch z) h
 |tup ds=>cases e;simp only[At]at at';obtain⟨q,xs,rfl,aH,_⟩:=at';cases bb;obtain⟨its,_,⟨o,ai,au,_⟩,_⟩:=I.tuple (cB.of (aY _ _ aH));exact PySem.W.kia_one PySem.W.kitx_tuple I.dJ ⟨o,ai,au⟩ tt (fun z=>nomatch z) h
 |cM ds=>cases e;simp only[At]at at';obtain⟨q,xs,rfl,aH,_⟩:=at';cases bb;obtain⟨its,_,⟨o,ai,au,_⟩,_⟩:=I.tuple (cB.mono aY aH);exact PySem.W.kia_one PySem.W.kitx_tuple I.dJ ⟨o,ai,au⟩ tt (fun z=>nomatch z) h
 |cj ks ds=>cases e;simp only[At]at at';obtain⟨q,xs,rfl,aH,_⟩:=at';cases bb;obtain⟨_,_,vs,_,o,af,c6,h1,h2,_⟩:=(show dG X.prog X.w H s.heap q (.cj xs)from I.bc q _ (aY _ _ aH));exact PySem.W.kia_one PySem.W.kitx_dict I.dJ ⟨o,h1,h2.1⟩ tt (fun z=>nomatch z) h
 |a4 ks ds=>cases e;simp only[At]at at';obtain⟨q,xs,rfl,aH,_⟩:=at';cases bb;obtain⟨_,_,zs,_,o,af,c6,h1,h2,_⟩:=(show dG X.prog X.w H s.heap q (.a4 xs)from I.bc q _ (aY _ _ aH));exact PySem.W.kia_one PySem.W.kitx_dict I.dJ ⟨o,h1,h2.1⟩ tt (fun z=>nomatch z) h
 |ins C ns ds=>cases e
 |fl C=>cases e
theorem Pu{d:D}{T:String}(e:rg d=some T):T="NoneType"∨T="bool"∨T="int"∨T="str"∨T="list"∨T="tuple"∨T="dict":=by cases d<;>cases e<;>simp
noncomputable def Ng(F:a3)(U:String):List V→J→bT→Prop:=fun xs H Q=>∃G d x T,Sub G H∧xs=[x,.ty U]∧At F.K G d x∧rg d=some T∧Q (.aq (xK T U)) H
theorem Fq{U:String}(hK:F.K=X.K)(tt:mx X.K U):jg X (.builtin "isinstance") (Ng F U):=by intro pins s σ H xs us Q I r h;obtain⟨G,d,x,T,aY,rfl,a,e,q⟩:=h;obtain⟨u,eF,rfl,bb,ei⟩:=vals2 r;obtain rfl:eF=Value.type U:=ei;rw[hK]at a;exact JK I aY a bb e (tt T (Pu e)) fun d4=>⟨.aq _,H,I.tok d4,rfl,q⟩
theorem GD{U:Str}{T:String}{bJ:Pos}(tt:mx X.K T)(hm:X.mg "isinstance"=none)(hmU:X.mg U=none)(hU:bootBuiltins U=some (.type T))(ha:a6 X F a m)(hK:F.K=X.K:=by rfl)(hg:cA X "isinstance":=by rfl)(hgU:cA X U:=by rfl)(hnU:U≠"__name__":=by decide)(hdU:(U==("__debug__" :Str))=false:=by decide)(hs2:starEach [.Name U bJ] X.env=(false,eval (.Name U bJ) X.env)::starEach [] X.env:=by rfl)(he:starEach [a,.Name U bJ] X.env=(false,eval a X.env)::starEach [.Name U bJ] X.env:=by rfl)(hpl:(backTo pos (starEach [.Name U bJ] X.env)).any (·.1)=false:=by rfl) :
  a6 X F (.Call (.Name "isinstance" p) [a,.Name U bJ] [] pos) (bW (gh T) m):=by
 have hb:bootBuiltins "isinstance"=some (.builtin "isinstance"):=by kernel_rfl
 refine aP.imp (qK (Fq hK tt) hg hm hb (ic ha (ic (Cd hgU hmU hU (v:=.ty T) rfl hnU hdU) kb hs2) he) (by decide) (by decide) he hpl) ?_;rintro σ H Q ⟨G,ρ,r,h⟩;unfold bW at h;refine⟨G,ρ,r,?_⟩;cases ak:m ρ with
 |bad=>rw[ak]at h;exact h.elim
 |exc c=>rw[ak]at h;exact h
 |ok d=>
  rw[ak,R.bh]at h;intro x H1 aL ao s1 bu;unfold gh at h;cases e:rg d with
  |none=>rw[e]at h;exact h.elim
  |some ET=>rw[e]at h;exact⟨aL,d,x,ET,ao.aA.sub,rfl,bu,e,h _ H1 aL ao s1 (by simp only[At])⟩
noncomputable def bg:D→D→R D
 |.lst xs,.int i=>match es xs i with|some d=>.ok d|none=>.bad
 |.bM xs,.int i=>match es xs i with|some d=>.ok d|none=>.bad
 |.tup xs,.int i=>match es xs i with|some d=>.ok d|none=>.bad
 |.cM xs,.int i=>match es xs i with|some d=>.ok d|none=>.bad
 |.str x,.int i=>if x.length≤1000000 then match es x.cps.toList i with|some c=>.ok (.str ⟨#[c]⟩)|none=>.bad else .bad
 |_,_=>.bad
theorem rO{K:PySem.W.Frag}{G:J}{ds:List D}{xs:List V}{i:Int}{d:D}(q:aE K G ds xs)(e:es ds i=some d):∃v,es xs i=some v∧At K G d v:=by
 unfold es at e ⊢;rw[q.length]at e;cases jZ:fI xs.length i with
 |none=>rw[jZ]at e;cases e
 |some j=>rw[jZ]at e;obtain⟨v,ai,a⟩:=q.get e;exact⟨v,ai,a⟩
theorem LM(hK:F.K=X.K):eJ F (CD X.K) bg:=by
 intro σ ρ G H x y aJ e7 Q r bu cC k;unfold bg at k
 split at k
 ·rename_i ds i;simp only[At]at bu cC;obtain⟨p,xs,e,h,q⟩:=bu
  split at k
  ·rename_i d eW;obtain⟨v,ev,bf⟩:=rO q eW;exact .inl ⟨p,xs,i,v,e,cC,bx.of (r.aA.sub _ _ h),ev,k _ H G r (bQ.refl _ _) bf⟩
  ·exact k.elim
 ·rename_i ds i;simp only[At]at bu cC;obtain⟨p,xs,e,h,q⟩:=bu
  split at k
  ·rename_i d eW;obtain⟨v,ev,bf⟩:=rO q eW;have h':=h;rw[hK]at h';exact .inl ⟨p,xs,i,v,e,cC,bx.mono r.aA.sub h',ev,k _ H G r (bQ.refl _ _) bf⟩
  ·exact k.elim
 ·rename_i ds i;simp only[At]at bu cC;obtain⟨p,xs,e,h,q⟩:=bu
  split at k
  ·rename_i d eW;obtain⟨v,ev,bf⟩:=rO q eW;exact .inr (.inl ⟨p,xs,i,v,e,cC,cB.of (r.aA.sub _ _ h),ev,k _ H G r (bQ.refl _ _) bf⟩)
  ·exact k.elim
 ·rename_i ds i;simp only[At]at bu cC;obtain⟨p,xs,e,h,q⟩:=bu
  split at k
  ·rename_i d eW;obtain⟨v,ev,bf⟩:=rO q eW;have h':=h;rw[hK]at h';exact .inr (.inl ⟨p,xs,i,v,e,cC,cB.mono r.aA.sub h',ev,k _ H G r (bQ.refl _ _) bf⟩)
  ·exact k.elim
 ·rename_i z i;simp only[At]at bu cC
  split at k
  ·rename_i hl
   split at k
   ·rename_i c ec;exact .inr (.inr ⟨z,i,c,bu,cC,Nat.le_trans hl (by decide),ec,k _ H G r (bQ.refl _ _) (by simp only[At])⟩)
   ·exact k.elim
  ·exact k.elim
 ·exact k.elim
theorem GF(ha:a6 X F a m)(hb:a6 X F b n)(hs:nI b)(hK:F.K=X.K:=by rfl):a6 X F (.Subscript a b pos) (aB bg m n):=aP.imp (wU v_ ha hb hs) (sE (LM hK))
end
section
variable{X:aC}{F:a3}{e a b c:Expr}{af:List Expr}{pos p:Pos}{m n:ay}{ma:aN}
noncomputable def jn{α:Type}(xs:List α)(lo hi:Option Int):List α:=(xs.drop (dm.dD xs.length 0 lo)).take (dm.dD xs.length xs.length hi-dm.dD xs.length 0 lo)
def mF(x:Str)(lo hi:Option Int):Str:=⟨(jn x.cps.toList lo hi).toArray⟩
theorem OR(lo hi:Option Int)(n:Nat):Builtin.Str.strSliceIndices lo hi 1 n=(List.range (dm.dD n n hi-dm.dD n 0 lo)).map (dm.dD n 0 lo+·):=by
 rw[←sliceRange_one];unfold Builtin.Str.strSliceIndices;simp only[show(1:Int)>0 by decide,if_true]
 congr 1
 ·cases lo with
  |none=>rfl
  |some i=>
   show max 0 (min (if i<0 then i+(n:Int)else i) (n:Int))=((if i<0 then(i+(n:Int)).toNat else min i.toNat n:Nat):Int)
   split<;>omega
 ·cases hi with
  |none=>rfl
  |some i=>
   show max 0 (min (if i<0 then i+(n:Int)else i) (n:Int))=((if i<0 then(i+(n:Int)).toNat else min i.toNat n:Nat):Int)
   split<;>omega
theorem CP(n:Nat)(v:Option Int){d:Nat}(hd:d≤n):dm.dD n d v≤n:=by
 cases v with
 |none=>exact hd
 |some i=>
  show(if i<0 then(i+(n:Int)).toNat else min i.toNat n)≤n
  split<;>omega
theorem OI(x:Str)(lo hi:Option Int):Txt.slice x lo hi=mF x lo hi:=by
 have hl:x.cps.toList.length=x.length:=by simp[Str.length]
 unfold Txt.slice mF jn;rw[OR,hl]
 split
 ·rename_i h;have h:dm.dD x.length x.length hi-dm.dD x.length 0 lo=x.length:=by simpa using h
  have h1:=CP x.length hi (Nat.le_refl _);have h2:dm.dD x.length 0 lo=0∨x.length=0:=by omega
  have e:(x.cps.toList.drop (dm.dD x.length 0 lo)).take (dm.dD x.length x.length hi-dm.dD x.length 0 lo)=x.cps.toList:=by
   rw[h];rcases h2 with z|z
   ·rw[z,List.drop_zero,List.take_of_length_le (by omega)]
   ·have b6:x.cps.toList=[]:=List.length_eq_zero_iff.mp (by omega);rw[b6];simp
  rw[e]
 ·rw[pick_run]
noncomputable def CJ:V→Option Int→Option Int→J→bT→Prop:=fun x lo hi H Q=>∃z,x=.str z∧z.length≤sizeLine∧Q (.str (mF z lo hi)) H
theorem Ca{v:Value}{o:Option Int}(h:IsPart v o):∃l:Option (Int×Tok),v=partValue l∧l.map (·.1)=o:=by
 cases h with
 |none=>exact⟨none,rfl,rfl⟩
 |int i t=>exact⟨some (i,t),rfl,rfl⟩
theorem OE:mw X CJ:=by
 intro pins s σ H x v jd je lo hi b1 Q I bb hs pl pu h;obtain⟨z,rfl,bq,q⟩:=h;obtain⟨t,rfl⟩:=bb;obtain⟨l,rfl,el⟩:=Ca pl;obtain⟨u,rfl,mK⟩:=Ca pu;refine⟨"str",_,F.slot_str_getitem.lookup,typeIs_str s z t,wpAny_getItem_str_slice (l:=l) (u:=u) (st:=none) ?_ rfl ?_⟩
 ·obtain⟨o,h1,h2,h3⟩:=hs;exact⟨o,h1,h2,h3⟩
 ·have e:Txt.slice z lo hi=mF z lo hi:=OI z lo hi;have fin:∀t' k,eG X pins σ Q (.str (Txt.slice z lo hi) t') { s with toks:=k }:=fun t' k=>⟨.str (mF z lo hi),H,I.tok k,⟨t',by rw[e]⟩,q⟩;unfold Txt.slice at fin;subst el mK;exact post_val_or_str ⟨Nat.le_trans (Txt.slice_le z _ _) bq,fin⟩
abbrev jQ:=ah→R (Option Int)
def sW:jQ:=fun _=>.ok none
def intD:D→R (Option Int)
 |.int i=>.ok (some i)
 |_=>.bad
def qj(m:ay):jQ:=fun ρ=>(m ρ).bind intD
noncomputable def J3(F:a3)(G H:J)(σ :St)(ρ:ah)(Q:Option Int→J→Prop):R (Option Int)→Prop
 |.ok o=>∀H' G',Rel F G' H' σ ρ→bQ G H G' H'→Q o H'
 |.exc c=>hY F c
 |.bad=>False
def tM(F:a3)(m:jQ):nJ:=fun σ H Q=>∃G ρ,Rel F G H σ ρ∧J3 F G H σ ρ Q (m ρ)
abbrev rF(X:aC)(F:a3)(e:Option Expr)(m:jQ):Prop:=nH X e (tM F m)
theorem Me:rF X F none sW:=fun pins s σ H Q I h=>by obtain⟨G,ρ,r,k⟩:=h;exact ML pins s σ H Q I (k H G r (bQ.refl _ _))
theorem Mf(h:a6 X F e m):rF X F (some e) (qj m):=fun pins s σ H Q I hw=>by
 obtain⟨G,ρ,r,k⟩:=hw;refine MN h pins s σ H Q I ⟨G,ρ,r,?_⟩;unfold qj at k;cases ak:m ρ with
 |bad=>rw[ak]at k;exact k.elim
 |exc c=>rw[ak]at k;exact k
 |ok d=>
  rw[ak,R.bh]at k;intro x H1 aL ao s1 bu;cases d with
  |int i=>simp only[At]at bu;exact⟨i,bu,k H1 aL ao s1⟩
  |_=>exact k.elim
noncomputable def ow(f:D→Option Int→Option Int→R D)(m:ay)(lo hi:jQ):ay:=fun ρ=>(m ρ).bind fun d=>(lo ρ).bind fun l=>(hi ρ).bind fun h=>f d l h
noncomputable def oP(d:D)(l h:Option Int):R D:=match d with
 |.lst xs=>.ok (.lst (jn xs l h))
 |.bM xs=>.ok (.lst (jn xs l h))
 |.str x=>if x.length≤1000000 then .ok (.str (mF x l h))else .bad
 |_=>.bad
theorem aE.cut{K:PySem.W.Frag}{G:J}{ds:List D}{xs:List V}(q:aE K G ds xs)(l h:Option Int):aE K G (jn ds l h) (nW xs l h):=by unfold jn nW;rw[q.length];exact(q.drop _).take _
theorem Jj(hK:F.K=X.K){lo hi:jQ}:dq (cc F (ow oP m lo hi)) (Dw (fun x lo hi H Q=>CI X.K x lo hi H Q∨CJ x lo hi H Q) (cc F m) (tM F lo) (tM F hi)):=by
 rintro σ H Q ⟨G,ρ,r,h⟩;unfold ow at h;refine⟨G,ρ,r,?_⟩;cases ak:m ρ with
 |bad=>rw[ak]at h;exact h.elim
 |exc c=>rw[ak]at h;exact h
 |ok d=>
  rw[ak,R.bh]at h;intro x H1 aL ao s1 bu;refine⟨aL,ρ,ao,?_⟩;cases el:lo ρ with
  |bad=>rw[el]at h;exact h.elim
  |exc c=>rw[el]at h;exact h
  |ok l=>
   rw[el,R.bh]at h;intro aQ cx a7 s2;refine⟨cx,ρ,a7,?_⟩;cases vi:hi ρ with
   |bad=>rw[vi]at h;exact h.elim
   |exc c=>rw[vi]at h;exact h
   |ok u=>
    rw[vi,R.bh]at h;intro cN fN dN s3;have up:=s1.trans (s2.trans s3);have nS:=(bu.mono s2.g).mono s3.g;cases d with
    |lst ds=>simp only[At]at nS;obtain⟨q,xs,rfl,aH,al⟩:=nS;refine .inl ⟨q,xs,rfl,bx.of (dN.aA.sub _ _ aH),fun df aI=>?_⟩;refine h (.ref df) _ _ (dN.lay aI) (up.trans (bQ.lay dN.aA.sub aI)) ?_;simp only[At];exact⟨df,_,rfl,c3,(al.cut l u).mono (Sub.upd (dN.aA.sub.gone aI))⟩
    |bM ds=>simp only[At]at nS;obtain⟨q,xs,rfl,aH,al⟩:=nS;have hX:=aH;rw[hK]at hX;refine .inl ⟨q,xs,rfl,bx.mono dN.aA.sub hX,fun df aI=>?_⟩;refine h (.ref df) _ _ (dN.lay aI) (up.trans (bQ.lay dN.aA.sub aI)) ?_;simp only[At];exact⟨df,_,rfl,c3,(al.cut l u).mono (Sub.upd (dN.aA.sub.gone aI))⟩
    |str z=>
     simp only[At]at nS;have h:hj F G H σ ρ Q (if z.length≤1000000 then .ok (.str (mF z l u))else .bad):=h
     split at h
     ·rename_i bq;exact .inr ⟨z,nS,Nat.le_trans bq (by decide),h _ cN fN dN up (by simp only[At])⟩
     ·exact h.elim
    |_=>exact h.elim
theorem GS{lo hi:Option Expr}{bJ:Pos}{qu lR:jQ}(ha:a6 X F a m)(hl:rF X F lo qu)(hh:rF X F hi lR)(hK:F.K=X.K:=by rfl):a6 X F (.Subscript a (.Slice lo hi none bJ) pos) (ow oP m qu lR):=aP.imp (MA (OD.or OE) ha hl hh) (Jj hK)
end
end az
namespace aV
open PySem PySem.Spec
section
variable{prog:Program}{w:World}{A:Around}{E:Value→Shared→Prop}{s:Shared}
end
theorem Inv.Pm{X:aC}{pins:List (Addr×Obj)}{σ :St}{H:J}{s:Shared}{h':Heap}{t':Nat}{ch:List Addr}(I:Inv X pins σ H s)(k:∀b o,b∉ch→s.heap.get? b=some o→h'.get? b=some o)(hf:∀b∈ch,hJ X pins H b):Inv X pins σ H { s with heap:=h',toks:=t' }:=by
 have lT:∀b u,H b=some u→b∉ch:=fun b u e z=>by rw[(hf b z).1]at e;cases e
 refine I.step (g':=s.gens) (d':=s.drawn) (ch:=ch) (fun b hb=>?_) (fun b o _ _ hc e _=>k b o hc e) (fun b o _ _ hc e _=>⟨o.slots,k b o hc e⟩) (fun _ _ _ _ n=>n)
  (fun b o hc e=>⟨o,k b o hc e⟩) (fun _ _ e=>e) (fun _ _ _ e=>e) (fun b aD e=>⟨#[],by rw[e];simp⟩) (fun m hm=>?_) (fun b u e=>?_) I.bare
 ·obtain⟨_,f1,_,eC,f4,gf⟩:=hf b hb;exact⟨eC,f1,f4,gf⟩
 ·obtain⟨o,af,c6,ho,r⟩:=hm;exact⟨o,af,c6,k _ o (fun z=>(hf _ z).2.1 rfl) ho,r⟩
 ·refine(I.bc b u e).jF (fun c v hc q=>k c v ?_ q) (fun _ q=>q) fun _ _ q=>q;rcases hc with z|z
  ·rw[z];exact lT b u e
  ·exact lT c _ z
theorem Inv.Pn{X:aC}{pins:List (Addr×Obj)}{σ :St}{H:J}{s:Shared}{h':Heap}{t':Nat}{ch:List Addr}{T:Addr}{xs:List V}{its:List Value}(I:Inv X pins σ H s)(k:∀b o,b∉ch→s.heap.get? b=some o→h'.get? b=some o)(hf:∀b∈ch,hJ X pins H b)(mS:s.heap.objs.size≤T)(ht:PyProof.Rows.IsTup h' T its.toArray)(bE:Vals xs its)(bq:xs.length≤sizeLine):Inv X pins σ (upd H T (.tup xs)) { s with heap:=h',toks:=t' }:=by
 have lT:∀b u,H b=some u→b∉ch:=fun b u e z=>by rw[(hf b z).1]at e;cases e
 have aI:H T=none:=I.bc.fresh mS;have neT:∀b o,s.heap.get? b=some o→b≠T:=fun b o e=>Nat.ne_of_lt (Nat.lt_of_lt_of_le (Heap.lt_size e) mS)
 refine I.step (g':=s.gens) (d':=s.drawn) (ch:=ch) (fun b hb=>?_) (fun b o _ _ hc e _=>k b o hc e) (fun b o _ _ hc e _=>⟨o.slots,k b o hc e⟩) (fun b o _ e n=>by rw[cf (neT b o e)];exact n)
  (fun b o hc e=>⟨o,k b o hc e⟩) (fun b ys e=>by rw[cf (hz e aI)];exact e) (fun b _ _ e=>by rw[cf (hz e aI)];exact e) (fun b aD e=>⟨#[],by rw[cf (hz e aI),e];simp⟩) (fun m hm=>?_) (fun b u e=>?_) I.bare
 ·obtain⟨_,f1,_,eC,f4,gf⟩:=hf b hb;exact⟨eC,f1,f4,gf⟩
 ·obtain⟨o,af,c6,ho,r⟩:=hm;exact⟨o,af,c6,k _ o (fun z=>(hf _ z).2.1 rfl) ho,r⟩
 ·by_cases hb:b=T
  ·subst hb;rw[c3]at e;cases e;exact⟨bq,its,bE,ht⟩
  ·rw[cf hb]at e;refine(I.bc b u e).jF (fun c v hc q=>k c v ?_ q) (fun c q=>by rw[cf (hz q aI)];exact q) fun c ys q=>by rw[cf (hz q aI)];exact q
   rcases hc with z|z
   ·rw[z];exact lT b u e
   ·exact lT c _ z
section
variable{X:aC}{bF:Expr}
end
noncomputable def uC(K:PySem.W.Frag)(l:Addr):It:=⟨fun i H=>∃xs x,bx K H l xs∧xs[i]?=some x,fun i H v H'=>∃p x,H p=none∧H'=upd H p (.tup [.int (i:Int),x])∧v=.ref p∧∀xs,bx K H l xs→xs[i]?=some x,fun i H=>∃xs,bx K H l xs∧xs.length=i⟩
theorem Po{P:Program}{w:World}{K:PySem.W.Frag}{elts:List Expr}{cq:Nat}{pos:Pos}(e it l:Addr)(Au:e≠it) :
  Turn P w K (.Tuple elts cq pos) (uC K l) [e,it] e (fun i h=>(∃old,IsEnum h e it i old)∧h.IsListIter it l i) where
 mem:=by simp
 obj:=fun i h st b hb=>by
  obtain⟨⟨old,he⟩,o,ai,c,d⟩:=st;rcases List.mem_cons.mp hb with z|z
  ·subst z;exact⟨_,he,fun v z=>by have f6:Data.fields _=Data.cell v:=z;cases f6⟩
  ·have z:b=it:=by simpa using z
   subst z;exact⟨o,ai,fun v z=>by rw[d]at z;cases z⟩
 keep:=fun i h h' st k=>by obtain⟨⟨old,he⟩,hit⟩:=st;exact⟨⟨old,k e (by simp) _ he⟩,hit.at fun o x=>k it (by simp) o x⟩
 item:=by
  intro X ed hw hK hc i pins s σ H E I hf st hg;subst ed hw hK;obtain⟨xs,x,aH,hx⟩:=hg;obtain⟨its,bE,pl,bq⟩:=I.list aH;obtain⟨⟨old,he⟩,hit⟩:=st;have eM:=pl.isList;have hle:l≠e:=fun z=>by subst z;obtain⟨o,ho,g8,_⟩:=eM;rw[he]at ho;cases ho;have g8:Value.type "enumerate"=Value.type "list":=g8;injection g8 with g8;exact absurd g8 (by decide)
  have vM:l≠it:=fun z=>by subst z;obtain⟨o,ho,g8,_⟩:=eM;obtain⟨bw,ho',kH,_⟩:=hit;rw[ho']at ho;cases ho;rw[g8]at kH;injection kH with kH;exact absurd kH (by decide)
  have W:=WalksT.enumerate (prog:=X.prog) (w:=X.w) (A:=X.A) (I.ok.hd hc) e it l Au hle vM its.toArray;have hlen:=bE.length;have H3:i<xs.length:=(List.getElem?_eq_some_iff.mp hx).1;refine W.item i s _ _ (by rw[List.size_toArray,←hlen];exact H3) ⟨⟨old,he⟩,hit,eM⟩ fun T vals h' d4 ed mS HH sq hk=>?_;obtain⟨t,u,hu,rfl⟩:=ed;obtain⟨jc,Iv,ei⟩:=bE.get hx;have mK:jc=u:=by rw[List.getElem?_toArray]at hu;rw[Iv]at hu;exact Option.some.inj hu
  subst mK;refine⟨_,rfl,?_⟩;refine W.go elts cq pos i T { s with heap:=h',toks:=d4 } _ _ sq fun h2 kg Ay=>?_;have Ak:T∉[e,it]:=W.apart i T h' sq;have keep:∀b o,b∉[e,it]→s.heap.get? b=some o→h2.get? b=some o:=fun b o hb q=>Ay b o hb (hk b o hb q);have Iq:PyProof.Rows.IsTup h2 T (#[.int i t,jc]:Array Value):=by obtain⟨o,ho,r⟩:=HH;exact⟨o,Ay T o Ak ho,r⟩
  have aI:H T=none:=I.bc.fresh mS;have bZ:Inv X pins σ (upd H T (.tup [.int (i:Int),x])) { s with heap:=h2,toks:=d4 }:=I.Pn (its:=[.int i t,jc]) (ch:=[e,it]) keep hf mS Iq (.cons ⟨t,rfl⟩ (.cons ei .nil)) (by show 2≤sizeLine;decide);refine⟨.ref T,upd H T (.tup [.int (i:Int),x]),bZ,rfl,⟨T,x,aI,rfl,rfl,fun ys cF=>by rw[I.wu cF aH];exact hx⟩,⟨kg.1,kg.2.1⟩,fun b hb=>?_⟩;have nb:b≠T:=fun z=>Ak (z▸hb);rw[cf nb];exact(hf b hb).1
 done:=by
  intro X ed hw hK hc i pins s σ H E I hf st hg;subst ed hw hK;obtain⟨xs,aH,hx⟩:=hg;obtain⟨its,bE,pl,bq⟩:=I.list aH;obtain⟨⟨old,he⟩,hit⟩:=st;have eM:=pl.isList;have hle:l≠e:=fun z=>by subst z;obtain⟨o,ho,g8,_⟩:=eM;rw[he]at ho;cases ho;have g8:Value.type "enumerate"=Value.type "list":=g8;injection g8 with g8;exact absurd g8 (by decide)
  have vM:l≠it:=fun z=>by subst z;obtain⟨o,ho,g8,_⟩:=eM;obtain⟨bw,ho',kH,_⟩:=hit;rw[ho']at ho;cases ho;rw[g8]at kH;injection kH with kH;exact absurd kH (by decide)
  have W:=WalksT.enumerate (prog:=X.prog) (w:=X.w) (A:=X.A) (I.ok.hd hc) e it l Au hle vM its.toArray;have iO:i=its.toArray.size:=by rw[List.size_toArray,←bE.length];exact hx.symm
  subst iO;exact W.done s _ _ ⟨⟨old,he⟩,hit,eM⟩ fun h' d4 cq=>⟨rfl,I.Pm (ch:=[e,it]) cq hf⟩
 self:=fun A i s Q E st h=>by obtain⟨⟨old,he⟩,_⟩:=st;exact wpAny_pyIter_enum he h
section
variable{X:aC}{elts:List Expr}{cq:Nat}{rd:Pos}
noncomputable def AJ(K:PySem.W.Frag)(bS:dX):TI:=fun σ H R=>bS σ H fun vs H1=>∃l,vs=[.ref l]∧(∃xs,bx K H1 l xs)∧R (uC K l) H1
theorem MG{a:Expr}{bS:dX}{p pos:Pos}(hg:cA X "enumerate")(hm:X.mg "enumerate"=none)(ha:d8 X [a] bS)(hs:starEach [a] X.env=[(false,eval a X.env)]:=by rfl):gZ X (.Tuple elts cq rd) (.Call (.Name "enumerate" p) [a] [] pos) (AJ X.K bS):=by
 have hb:bootBuiltins "enumerate"=some (.type "enumerate"):=by kernel_rfl
 intro pins s σ H R I h;refine PyProof.Rows.Call_ (p8 I hg hm hb (PyProof.Rows.callWith_type1 (bp (ha pos pins s σ H _ I h) fun us s1⟨vs,H1,aT,ao,a5⟩=>?_) hs rfl));obtain⟨l,e,⟨xs,aH⟩,q⟩:=a5;subst e;obtain⟨u,rfl,ei⟩:=vals1 ao;cases ei;obtain⟨its,bE,pl,bq⟩:=aT.list aH;refine call_enumerate_list pl.isList fun h' he hit hsz hk=>?_;have bZ:Inv X pins σ H1 { s1 with heap:=h' }:=aT.kept (t':=s1.toks) hk;refine wpAny_pyIter_enum he ?_;refine⟨s1.heap.objs.size+1,[s1.heap.objs.size+1,s1.heap.objs.size],_,_,H1,rfl,bZ,Po _ _ l (Nat.succ_ne_self _),⟨⟨_,he⟩,hit⟩,fun b hb=>?_,q⟩;have hb:b=s1.heap.objs.size+1∨b=s1.heap.objs.size:=by simpa using hb
 rcases hb with z|z
 ·subst z;exact aT.n2 (Nat.le_succ _) (aT.bc.fresh (Nat.le_succ _))
 ·subst z;exact aT.n2 (Nat.le_refl _) (aT.bc.fresh (Nat.le_refl _))
end
section
variable{X:aC}{elts:List Expr}{cq:Nat}{rd:Pos}
end
end aV
namespace az
open PySem PySem.Spec aV
section
variable{X:aC}{F:a3}{e a b c bF iter elt:Expr}{af:List Expr}{pos p:Pos}{m n:ay}{ma:aN}
def C6(c:Nat):D:=.str ⟨#[c]⟩
def xE:D→R (List D)
 |.str x=>.ok (x.cps.toList.map C6)
 |_=>.bad
def K1(m:ay):aN:=fun ρ=>(m ρ).bind xE
def lF(ds:List D):List D:=ds.zipIdx.map fun p=>.tup [.int (p.2:Int),p.1]
theorem G8{ds:List D}{i:Nat}{d:D}(e:ds[i]?=some d):(lF ds)[i]?=some (.tup [.int (i:Int),d]):=by unfold lF;rw[List.getElem?_map,List.getElem?_zipIdx,e];simp
def pJ:List D→R (List D)
 |[.lst ds]=>.ok (lF ds)
 |[.bM ds]=>.ok (lF ds)
 |_=>.bad
theorem A5{K:PySem.W.Frag}{G:J}{l:Addr}{ds:List D}{xs:List V}(h:bx K G l xs)(q:aE K G ds xs):lq K (uC K l) (lF ds) G where
 go:=fun i H s hi=>by
  have hi:i<ds.length:=by simpa[lF]using hi
  obtain⟨v,e,_⟩:=q.get (List.getElem?_eq_getElem hi);exact⟨xs,v,bx.mono s h,e⟩
 jf:=fun i H v H' s hi y=>by obtain⟨p,x,hp,rfl,rfl,y⟩:=y;have ex:=y xs (bx.mono s h);obtain⟨d,e,a⟩:=q.vA ex;exact⟨_,G8 e,.inr ⟨p,_,_,hp,rfl,rfl,rfl,.cons (by simp only[At]) (.cons a .nil)⟩⟩
 stop:=fun H s=>⟨xs,bx.mono s h,by simp[lF,q.length]⟩
def oj(m:aN):aN:=fun ρ=>(m ρ).bind pJ
theorem IT(hK:F.K=X.K):o9 (k6 F (oj ma)) (AJ X.K (dE F ma)):=by
 rintro σ H Q ⟨G,ρ,r,h⟩;unfold oj at h;refine⟨G,ρ,r,?_⟩;cases ak:ma ρ with
 |bad=>rw[ak]at h;exact h.elim
 |exc c=>rw[ak]at h;exact h
 |ok ds=>
  rw[ak,R.bh]at h;intro vs H1 aL ao s1 al;unfold pJ at h
  split at h
  ·rename_i ds;obtain⟨v,rfl,a⟩:=al.one;simp only[At]at a;obtain⟨q,xs,rfl,aH,fC⟩:=a;have ke:bx X.K aL q xs:=bx.of aH;rw[←hK]at ke;refine⟨q,rfl,⟨xs,by rw[←hK];exact bx.mono ao.aA.sub ke⟩,?_⟩;rw[←hK];exact h _ H1 aL ao s1 (A5 ke fC)
  ·rename_i ds;obtain⟨v,rfl,a⟩:=al.one;simp only[At]at a;obtain⟨q,xs,rfl,aH,fC⟩:=a;refine⟨q,rfl,⟨xs,by rw[←hK];exact bx.mono ao.aA.sub aH⟩,?_⟩;rw[←hK];exact h _ H1 aL ao s1 (A5 aH fC)
  ·exact h.elim
theorem PJ(h:a6 X F e m)(hK:F.K=X.K:=by rfl):lp X F bF e (hy m):=gZ.imp (MH h) (by rw[←hK];exact IZ)
theorem PM(h:a6 X F e m)(hK:F.K=X.K:=by rfl):lp X F bF e (m2 m):=gZ.imp (MJ h) (by rw[←hK];exact Jm)
theorem PL(hm:X.mg "range"=none)(ha:gw X F [a] ma)(hg:cA X "range":=by rfl)(hs:starEach [a] X.env=[(false,eval a X.env)]:=by rfl):lp X F bF (.Call (.Name "range" p) [a] [] pos) (gF ma):=gZ.imp (MI hg hm ha hs) Jc
theorem PI{elts:List Expr}{k:Nat}{ra:Pos}(hm:X.mg "enumerate"=none)(ha:gw X F [a] ma)(hK:F.K=X.K:=by rfl)(hg:cA X "enumerate":=by rfl)(hs:starEach [a] X.env=[(false,eval a X.env)]:=by rfl):lp X F (.Tuple elts k ra) (.Call (.Name "enumerate" p) [a] [] pos) (oj ma):=gZ.imp (MG hg hm ha hs) (IT hK)
structure GM(X:aC)(bF:Expr)(set:D→ah→R ah):Prop where
 ex:∃g,ik X bF g∧∀F:a3,F.K=X.K→lj F g set
 ef:∀d ρ c,set d ρ≠.exc c
 keeps:Keeps set
theorem iA(i:Nat){x:Str}(hN:X.N.Nodup)(hi:X.N[i]?=some x:=by rfl)(hx:Loc X.env.scope x:=by first|exact Or.inl rfl|exact Or.inr rfl)(hf:X.fn x=true∨X.env.scope.names.lookup x=some .local:=by first|exact .inl rfl|exact .inr rfl):GM X (.Name x pos) (bI i):=
 ⟨⟨j2 i,tp hN hi hx hf,fun _ _=>sk i⟩,tE i,tD i⟩
structure rA(X:aC)(Pe:List Expr)(aK:List (D→ah→R ah)):Prop where
 ex:∃g,pf X Pe g∧∀F:a3,F.K=X.K→o8 F g (fY aK)
 ef:∀f∈aK,∀d ρ c,f d ρ≠.exc c
 keeps:∀f∈aK,Keeps f
theorem BN:rA X [] []:=⟨⟨sh,Cn,fun _ _=>Af⟩,(fun _ h=>nomatch h),(fun _ h=>nomatch h)⟩
theorem s_{f:D→ah→R ah}{aK:List (D→ah→R ah)}(h:GM X e f)(t:rA X af aK)(hs:(assignEach (e::af) X.env).map (·.2)=assign e X.env::(assignEach af X.env).map (·.2):=by rfl):rA X (e::af) (f::aK):=by obtain⟨⟨g,h1,h2⟩,h3,h4⟩:=h;obtain⟨⟨kE,t1,dh⟩,t3,xN⟩:=t;exact⟨⟨pR g kE,wV h1 t1 hs,fun F j3=>vy (h2 F j3) (dh F j3)⟩,fun k hk=>by rcases List.mem_cons.mp hk with rfl|hk;exact h3;exact t3 k hk,fun k hk=>by rcases List.mem_cons.mp hk with rfl|hk;exact h4;exact xN k hk⟩
theorem BO{k:Nat}{aK:List (D→ah→R ah)}(hc:X.calm=true)(h:rA X af aK)(aI:(assignEach af X.env).length=aK.length:=by rfl)(hst:(assignEach af X.env).findIdx? (·.1)=none:=by rfl):GM X (.Tuple af k pos) (gP aK):=by obtain⟨⟨kE,t1,dh⟩,t3,xN⟩:=h;exact⟨⟨sj X.K aK.length kE,Cm hc t1 aI hst,fun F j3=>by rw[←j3];exact Ag rfl (dh F j3)⟩,C4 t3,C3 xN⟩
theorem NX{body:List Stmt}{mi:aN}{set:D→ah→R ah}{e0:a_}(hp:PassesOwn (model X.prog X.w) X.A X.env X.xe)(hi:lp X F bF iter mi)(hg:GM X bF set)(hb:la X F body e0)(hc:X.calm=true:=by rfl)(hK:F.K=X.K:=by rfl)(hs:∀x,foldedSetIterable iter X.env x=pure x:=by intro _;rfl) :
  fQ X F (.For bF iter body [] pos) (eN mi set e0):=by
 obtain⟨⟨g,h1,h2⟩,h3,_⟩:=hg;exact cP.imp (MT hp hc hi h1 hb hs) (IU (h2 F hK) h3)
abbrev uf(X:aC)(scope:Scope)(N:List Str)(e:Expr)(m:ay):Prop:=∀cl C s H aU G0 H0,a6 (eA X scope N cl C s H aU) (dT X.K G0 H0) e m
abbrev md(X:aC)(scope:Scope)(N:List Str)(ifs:List Expr)(m:bN):Prop:=∀cl C s H aU G0 H0,mu (eA X scope N cl C s H aU) ifs (e1 (dT X.K G0 H0) m)
abbrev rt(X:aC)(scope:Scope)(N:List Str)(bF:Expr)(set:D→ah→R ah):Prop:=∃g,(∀cl C s H aU,ik (eA X scope N cl C s H aU) bF g)∧(∀G0 H0,lj (dT X.K G0 H0) g set)
theorem y5{scope:Scope}{N:List Str}{g:f_}{set:D→ah→R ah}(h:∀cl C s H aU,ik (eA X scope N cl C s H aU) bF g)(k:∀F:a3,F.K=X.K→lj F g set):rt X scope N bF set:=⟨g,h,fun G0 H0=>k (dT X.K G0 H0) rfl⟩
def fJ:bN:=fun _=>.ok true
theorem ps{scope:Scope}{N:List Str}:md X scope N [] fJ:=fun cl C s H aU G0 H0 pins s' σ H' Q I h=>by obtain⟨G,ρ,r,k⟩:=h;exact M0 pins s' σ H' Q I (k H' G r (bQ.refl _ _))
theorem Fm{scope:Scope}{N:List Str}{mt:bN}(h:∀cl C s H aU G0 H0,e4 (eA X scope N cl C s H aU) (dT X.K G0 H0) c mt):md X scope N [c] mt:=fun cl C s H aU G0 H0=>M1 (h cl C s H aU G0 H0)
theorem FE{scope:Scope}{N:List Str}{ifs:List Expr}{nl:Nat}{caps:List Nat}{mi:aN}{set:D→ah→R ah}{mt:bN}{gJ:ay}(hK:F.K=X.K)(hi:lp X F bF iter mi)(hg:rt X scope N bF set)(ht:md X scope N ifs mt)(he:uf X scope N elt gJ)(hx:∀d ρ c,set d ρ≠.exc c)(hk:Keeps set){Q:TE→Prop}(k:∀g,(∀cl C s H aU,ik (eA X scope N cl C s H aU) bF g)→(∀cl C s H aU,mu (eA X scope N cl C s H aU) ifs (yc X.K mt))→(∀cl C s H aU,aP (eA X scope N cl C s H aU) elt (yb X.K gJ))→dq (ie F (eZ nl caps mi set mt gJ)) (xR (k6 F mi) g (yc X.K mt) (yb X.K gJ) nl caps)→Q (ie F (eZ nl caps mi set mt gJ))):Q (ie F (eZ nl caps mi set mt gJ)):=by
 obtain⟨g,g1,g2⟩:=hg;refine k g g1 (fun cl C s H aU pins s' σ H' kq I h=>?_) (fun cl C s H aU pins s' σ H' kq I h=>?_) ?_
 ·obtain⟨G0,H0,h⟩:=h;exact ht cl C s H aU G0 H0 pins s' σ H' kq I h
 ·obtain⟨G0,H0,h⟩:=h;exact he cl C s H aU G0 H0 pins s' σ H' kq I h
 ·have z:=IL (F:=F) (nl:=nl) (caps:=caps) (mi:=mi) (tst:=mt) (elt:=gJ) (g:=g) (set:=set) (fun G0 H0=>by rw[hK];exact g2 G0 H0) hx hk;rw[hK]at z;exact z
theorem LA{scope:Scope}{N:List Str}{ifs:List Expr}{nl:Nat}{caps:List Nat}{mi:aN}{set:D→ah→R ah}{mt:bN}{gJ:ay}(S:me X.env.scope X.N scope N nl caps)(hi:lp X F bF iter mi)(hg:rt X scope N bF set)(hx:∀d ρ c,set d ρ≠.exc c)(hk:Keeps set)(ht:md X scope N ifs mt)(he:uf X scope N elt gJ)(hc:X.calm=true:=by rfl)(hK:F.K=X.K:=by rfl)(hs:∀x,foldedSetIterable iter X.env x=pure x:=by intro _;rfl):lh X F (.ListComp elt [⟨bF,iter,ifs,0⟩] scope pos) (eZ nl caps mi set mt gJ):=
 FE (nl:=nl) (caps:=caps) (Q:=fun t=>aP X (.ListComp elt [⟨bF,iter,ifs,0⟩] scope pos) t) hK hi hg ht he hx hk fun g g1 t1 ai imp=>aP.imp (Mn S hc hi g1 t1 ai hs) imp
end
section
variable{X:aC}{F:a3}{e a b c:Expr}{af:List Expr}{pos p:Pos}{m n:ay}{ma:aN}
def kz:List D→Option (List Bool)
 |[]=>some []
 |.aq b::r=>(kz r).map (b::·)
 |_::_=>none
theorem y6{K:PySem.W.Frag}{G:J}:∀{ds:List D}{xs:List V}{bs:List Bool},aE K G ds xs→kz ds=some bs→xs=bs.map V.aq
 |[],_,_,q,e=>by simp only[aE]at q;subst q;cases e;rfl
 |d::ds,_,bs,q,e=>by
  simp only[aE]at q;obtain⟨v,r,rfl,a,kx⟩:=q;cases d with
  |aq b=>
   simp only[At]at a;subst a;simp only[kz]at e;cases ai:kz ds with
   |none=>rw[ai]at e;cases e
   |some cs=>rw[ai]at e;have bz:b::cs=bs:=Option.some.inj e;subst bz;rw[y6 kx ai];rfl
  |_=>cases e
theorem D1:∀{bs:List Bool}{us:List Value},Vals (bs.map V.aq) us→us=bs.map Value.bool
 |[],_,r=>by cases r;rfl
 |b::bs,_,r=>by
  cases r with
  |cons ao a7=>cases ao;rw[D1 a7];rfl
theorem Fp(hc:X.calm=true)(lJ:X.A.handled=none):jg X (.builtin "all") (fun xs H Q=>∃(p:Addr)(bs:List Bool),xs=[.ref p]∧bx X.K H p (bs.map V.aq)∧Q (.aq (bs.all id)) H):=by
 intro pins s σ H xs us Q I r h;obtain⟨p,bs,rfl,aH,q⟩:=h;obtain⟨u,rfl,ei⟩:=vals1 r;cases ei;obtain⟨its,bE,pl,bq⟩:=I.list aH;have iO:=D1 bE;refine call_all_walk (wpAny_pyIter_list pl.isList ?_);have H9:p≠s.heap.objs.size:=by obtain⟨o,ho,_⟩:=pl.isList;exact Nat.ne_of_lt (Heap.lt_size ho)
 refine⟨s.heap.objs.size,_,_,_,_,_,fun i=>(bs[i]?).getD true,rfl,Walks.list (prog:=X.prog) (w:=X.w) (A:=X.A.in1) lJ s.heap.objs.size p H9 its.toArray,⟨⟨_,Heap.get?_push_size _ rfl,rfl,rfl⟩,pl.isList.push _⟩,?_,fun h' d4 cq=>?_⟩
 ·intro i v s' kq o6 ed vF;rw[iO]at ed;have ed:(bs.map Value.bool)[i]?=some v:=by simpa using ed
  rw[List.getElem?_map]at ed;cases bz:bs[i]? with
  |none=>rw[bz]at ed;cases ed
  |some b=>rw[bz]at ed;have ev:Value.bool b=v:=Option.some.inj ed;subst ev;dsimp only at vF;rw[bz]at vF;exact wpAny_truthy_bool vF
 ·have vH:(List.range its.toArray.size).all (fun i=>(bs[i]?).getD true)=bs.all id:=by
    have hl:its.toArray.size=bs.length:=by rw[iO];simp
    rw[hl,Bool.eq_iff_iff,List.all_eq_true,List.all_eq_true];constructor
    ·intro hh x hx;obtain⟨i,hi,rfl⟩:=List.mem_iff_getElem.mp hx;have:=hh i (List.mem_range.mpr hi);rw[List.getElem?_eq_getElem hi]at this;exact this
    ·intro hh i hi;have hi:=List.mem_range.mp hi;rw[List.getElem?_eq_getElem hi];exact hh _ (List.getElem_mem hi)
  rw[vH];exact⟨.aq _,H,I.kept (t':=d4) fun b o au=>cq b o (by
   intro z;have z:b=s.heap.objs.size:=by simpa using z
   exact absurd (Heap.lt_size au) (by rw[z];exact Nat.lt_irrefl _)) (Heap.get?_push_of_some _ au),rfl,q⟩
def cT:List D→R D
 |[.lst ds]=>match kz ds with|some bs=>.ok (.aq (bs.all id))|none=>.bad
 |_=>.bad
theorem LK:nD F (fun xs H Q=>∃(p:Addr)(bs:List Bool),xs=[.ref p]∧bx X.K H p (bs.map V.aq)∧Q (.aq (bs.all id)) H) cT:=by
 intro σ ρ G H xs ds Q r al k;unfold cT at k
 split at k
 ·rename_i ds
  split at k
  ·rename_i bs bz;obtain⟨v,rfl,bf⟩:=al.one;simp only[At]at bf;obtain⟨q,xs,rfl,aH,fC⟩:=bf;have:=y6 fC bz;subst this;exact⟨q,bs,rfl,bx.of (r.aA.sub _ _ aH),k _ H G r (bQ.refl _ _) (by simp only[At])⟩
  ·exact k.elim
 ·exact k.elim
theorem Gk{k:Nat}(hr:cK k X.A)(hm:X.mg "all"=none)(ha:gw X F [e] ma)(hc:X.calm=true:=by rfl)(hg:cA X "all":=by rfl)(he:starEach [e] X.env=(false,eval e X.env)::starEach [] X.env:=by rfl)(hpl:(backTo pos (starEach [] X.env)).any (·.1)=false:=by rfl) :
  a6 X F (.Call (.Name "all" p) [e] [] pos) (cU cT ma):=zr (Fp hc hr.hd) LK hm (by kernel_rfl) ha hg (by decide) (by decide) he hpl
end
section
variable{X:aC}{F:a3}{e a b c:Expr}{af:List Expr}{pos p:Pos}{m n:ay}{ma:aN}
def ownAt(i:Nat)(ρ:ah):R (List D):=match ρ[i]? with
 |some (.aR (.lst ds))=>.ok ds
 |_=>.bad
noncomputable def kP(i:Nat)(m:ay):a_:=fun ρ=>(ownAt i ρ).bind fun ds=>(m ρ).bind fun d=>if ds.length<1000000 then .ok (.bj (ρ.set i (.cD (ds++[d]))))else .bad
theorem NQ (i:Nat) {x:Str} {bA:Pos} {apos:Pos} {cpos:Pos} (he:a6 X F e m) (hN:X.N[i]?=some x:=by rfl) (hv:fh X.env.scope x:=by first|exact Or.inl rfl|exact Or.inr (Or.inl rfl)|exact Or.inr (Or.inr rfl)) (hd:(x==("__debug__" :Str))=false:=by decide) (hcd:(x==("__classdict__" :Str))=false:=by decide)(hbase:attributeBase (.Name x bA) "append" X.env (eval (.Name x bA) X.env)=eval (.Name x bA) X.env:=by rfl) (hline:(apos.endLine==cpos.line)=true:=by rfl)(hfew:((backTo cpos (starEach [e] X.env)).all (fun x=>!x.1)&&(backToKw cpos (keywordEach [] X.env)).all (fun x=>x.1.isSome)
    &&decide (([e]:List Expr).length+([]:List Keyword).length+(if([]:List Keyword).isEmpty then 0 else 1)<30))=true:=by rfl)
  (hs:starEach [e] X.env=(false,eval e X.env)::starEach [] X.env:=by rfl) (hplain:(backTo cpos (starEach [] X.env)).any (·.1)=false:=by rfl)
  (hK:F.K=X.K:=by rfl) :
  fQ X F (.Expr (.Call (.Attribute (.Name x bA) "append" apos) [e] [] cpos) pos) (kP i m):=by
 refine cP.imp (qM (qJ PySem.F.plainAttrs_list PySem.F.slot_list_append PySem.F.type_list_append s8 (jA hN hv hd hcd) (ic he kb hs) hbase hfew hline hs hplain) (jG _ _ _ _ rfl)) ?_;rintro b8 σ H ⟨G,ρ,r,h⟩;unfold kP ownAt at h;cases cI:ρ[i]? with
 |none=>rw[cI]at h;exact h.elim
 |some s=>
  rw[cI]at h;cases s with
  |un=>exact h.elim
  |av _=>exact h.elim
  |cW _=>exact h.elim
  |aR aR=>
   cases aR with
   |a4 _ _=>exact h.elim
   |ins _ _ _=>exact h.elim
   |lst ds=>
    obtain⟨q,xs,ai,h1,h2,h3,h4⟩:=r.own cI;have h:gE F G b8 ((m ρ).bind fun d=>if ds.length<1000000 then .ok (.bj (ρ.set i (.cD (ds++[d]))))else .bad):=h;refine⟨.ref q,ai,.inl ⟨rfl,xs,bx.of h1⟩,G,ρ,r,?_⟩;cases ak:m ρ with
    |bad=>rw[ak]at h;exact h.elim
    |exc c=>rw[ak]at h;exact h
    |ok d=>
     rw[ak,R.bh]at h;intro v H1 aL ao s1 bf;obtain⟨cH,fe,eV,b7,bU,n3,iT⟩:=ao.own cI;rw[ai]at eV;cases eV;by_cases hl:ds.length<1000000
     ·rw[if_pos hl]at h;refine⟨q,fe,v,rfl,rfl,b7,by rw[←iT.length];exact Nat.lt_trans hl (by decide),?_⟩;exact h σ aL _ (ao.mut cI ai (iT.snoc bf)) s1.g
     ·rw[if_neg hl]at h;exact h.elim
end
abbrev iD(K:PySem.W.Frag)(n:Nat)(mf:List D→R b0):hL:=nh K n (fun _ _ _=>False) mf
structure ey(P:Program)(w:World)(K:PySem.W.Frag)(mg:Str→Option Value)(base:Heap)(x:Str)(n k:Nat)(mf:List D→R b0):Prop where
 ex:∃(f:Addr)(fd:FuncData)(aD:List Str),aD.length=n∧fM P w K mg base gU k f fd aD (iD K n mf)∧mg x=some (.ref f)∧PySem.W.keepIn K (.ref f)=true∧Binds K fd aD []
section
variable{X:aC}{F:a3}{e:Expr}{af:List Expr}{pos p:Pos}{ma:aN}{x:Str}{n k:Nat}{mf:List D→R b0}
theorem Gp(c:ey X.prog X.w X.K X.mg X.base x n k mf)(hr:cK k X.A)(ha:gw X F (e::af) ma)(hE:F.eR=fun _ _=>False:=by rfl)(hK:F.K=X.K:=by rfl)(hg:cA X x:=by rfl)(hdb:(x==("__debug__" :Str))=false:=by decide)(he:starEach (e::af) X.env=(false,eval e X.env)::starEach af X.env:=by rfl)(hpl:(backTo pos (starEach af X.env)).any (·.1)=false:=by rfl):a6 X F (.Call (.Name x p) (e::af) [] pos) (cG n mf ma):=by obtain⟨f,fd,aD,aI,g5,hm,hk,hb⟩:=c.ex;refine aP.imp (wR g5 hr hg hm hk hb .nil qI ha hdb he hpl) ?_;rw[←hK];exact AP (xe:=fun _ _ _=>False) (E:=uw) hE
theorem Lz(c:ey X.prog X.w X.K X.mg X.base x n k mf)(hr:cK k X.A)(ha:gw X F (e::af) ma)(hE:F.eR=fun _ _=>False:=by rfl)(hK:F.K=X.K:=by rfl)(hg:cA X x:=by rfl)(hdb:(x==("__debug__" :Str))=false:=by decide)(he:starEach (e::af) X.env=(false,eval e X.env)::starEach af X.env:=by rfl)(hpl:(backTo pos (starEach af X.env)).any (·.1)=false:=by rfl):lh X F (.Call (.Name x p) (e::af) [] pos) (jw n mf ma):=by obtain⟨f,fd,aD,aI,g5,hm,hk,hb⟩:=c.ex;refine aP.imp (wR g5 hr hg hm hk hb .nil qI ha hdb he hpl) ?_;rw[←hK];exact IK (xe:=fun _ _ _=>False) (E:=uw) hE
end
structure eo(K:PySem.W.Frag)(mg:Str→Option Value)(x:Str)(st:Stmt)(aD:List Str):Prop where
 ex:∃(f:Addr)(fd:FuncData),jO K x x st f fd∧mg x=some (.ref f)∧Binds K fd aD []
theorem FT{P:Program}{w:World}{K:PySem.W.Frag}{mg:Str→Option Value}{base:Heap}{x:Str}{st:Stmt}{N aD:List Str}{k:Nat}{m:a_}(d:eo K mg x st aD)(S:c0 N aD (bX st))(h:∀(f:Addr)(bO:Value)(A:Around)(outer:List Env)(s:Shared)(H:J)(E:cn),cK k (A.deeper (PyProof.Rows.envOfC x (bX st) s.heap.objs.size f bO))→∀G0 H0,la (dt gU P w K mg base N x (bX st) f bO A outer s H E).fs (dT K G0 H0) (eU st) m) :
  ey P w K mg base x aD.length (k+1) (c_ N.length m):=by
 obtain⟨f,fd,fn,hm,hb⟩:=d.ex;refine⟨f,fd,aD,rfl,fn.ok S tG fun bO A outer s H vs Q E hr hs=>?_,hm,fn.aA,hb⟩;obtain⟨G,ht⟩:=rV hs;exact⟨_,h f bO A outer s H E hr G H,ht⟩
theorem Hr{K:PySem.W.Frag}{h:Heap}{mg:Str→Option Value}{x:Str}{st:Stmt}{aD:List Str}{f:Addr}{dM:Value}{cV an:Option Addr}{i9:Array (Option Value)}{cb doc pm bO b3:Value}(X:K.In h)(G:h.Ns mainGlobals mg)(a:PySem.W.nsIn K mainGlobals x=some (some (.ref f)))(l:K.lookup f=some ⟨dM,cV,.func (PySem.W.fnOf x x (iq st) (eU st) (bX st) .none cb doc pm an bO b3),i9⟩)(c:PySem.W.codeIn K bO x=true)(k:PySem.W.keepIn K (.ref f)=true)(b:∀(cb doc pm:Value)(an:Option Addr)(bO b3:Value)(us:List Value),us.length=aD.length→bindArgs (PySem.W.fnOf x x (iq st) (eU st) (bX st) .none cb doc pm an bO b3) ⟨us,[]⟩=pure (aD.zip us)):eo K mg x st aD:=
 ⟨f,_,mO (st:=st) l c k,PySem.W.mg_of X G a,(mO (st:=st) l c k).binds b⟩
theorem KC{K:PySem.W.Frag}{mf:List D→R b0}{H:J}{a:Addr}{ns:List Int}(jr:bx K H a (ns.map V.int))(h:mf [.bM (ns.map .int)]=.ok (.v (.aq true)))(E:cn):iD K 1 mf [.ref a] H (fun v _=>v=.aq true) E:=by
 refine⟨H,[.bM (ns.map .int)],Sub.refl _,.cons ?_ .nil,rfl,?_⟩
 ·simp only[At];refine⟨a,_,rfl,jr,?_⟩;induction ns with
  |nil=>exact .nil
  |cons n r ck=>exact .cons (by simp only[At]) (AX r)
 ·rw[h];intro v G' H' _ bf;simp only[At]at bf;exact bf
where
 AX {K:PySem.W.Frag} {H:J}:∀r:List Int,aE K H (r.map .int) (r.map V.int)
  |[]=>.nil
  |n::r=>.cons (by simp only[At]) (AX r)
section
variable{X:aC}{F:a3}{e a b c bF iter elt:Expr}{af:List Expr}{pos p:Pos}{m n:ay}{ma:aN}{scope:Scope}{N:List Str}
structure rr(X:aC)(scope:Scope)(N:List Str)(bF:Expr)(set:D→ah→R ah):Prop where
 g:rt X scope N bF set
 bj:∀d ρ c,set d ρ≠.exc c
 aA:Keeps set
theorem pq(i:Nat){x:Str}(hN:N.Nodup:=by decide+kernel)(hi:N[i]?=some x:=by rfl)(hl:(relabel scope X.env).names.lookup x=some .local:=by rfl):rr X scope N (.Name x pos) (bI i):=
 ⟨y5 (g:=j2 i) (fun cl C s H aU=>tp (X:=eA X scope N cl C s H aU) hN hi (.inl hl) (.inr hl)) fun F _=>sk i,tE i,tD i⟩
theorem yX(i j:Nat){x y:Str}{bA py:Pos}{k:Nat}(hc:X.calm=true:=by rfl)(hN:N.Nodup:=by decide+kernel)(hi:N[i]?=some x:=by rfl)(b4:N[j]?=some y:=by rfl)(hl:(relabel scope X.env).names.lookup x=some .local:=by rfl)(hm:(relabel scope X.env).names.lookup y=some .local:=by rfl) :
  rr X scope N (.Tuple [.Name x bA,.Name y py] k pos) (gP [bI i,bI j]):=by
 refine⟨y5 (g:=sj X.K 2 (pR (j2 i) (pR (j2 j) sh))) (fun cl C s H aU=>?_) (fun F j3=>?_),C4 ?_,C3 ?_⟩
 ·exact Cm (X:=eA X scope N cl C s H aU) hc (wV (tp (X:=eA X scope N cl C s H aU) hN hi (.inl hl) (.inr hl)) (wV (tp (X:=eA X scope N cl C s H aU) hN b4 (.inl hm) (.inr hm)) Cn rfl) rfl) rfl rfl
 ·rw[←j3];exact Ag rfl (vy (sk i) (vy (sk j) Af))
 ·intro f hf;rcases List.mem_cons.mp hf with rfl|hf
  ·exact tE i
  ·rw[List.mem_singleton.mp hf];exact tE j
 ·intro f hf;rcases List.mem_cons.mp hf with rfl|hf
  ·exact tD i
  ·rw[List.mem_singleton.mp hf];exact tD j
theorem LB(nl:Nat)(caps:List Nat){ifs:List Expr}{mi:aN}{set:D→ah→R ah}{mt:bN}{gJ:ay}(S:r0 X.env.scope X.N scope N nl caps=true)(hi:lp X F bF iter mi)(hg:rr X scope N bF set)(ht:md X scope N ifs mt)(he:uf X scope N elt gJ)(hc:X.calm=true:=by rfl)(hK:F.K=X.K:=by rfl)(hs:∀x,foldedSetIterable iter X.env x=pure x:=by intro _;rfl):lh X F (.ListComp elt [⟨bF,iter,ifs,0⟩] scope pos) (eZ nl caps mi set mt gJ):=
 LA (.of S) hi hg.g hg.bj hg.aA ht he hc hK hs
noncomputable def ov(i:Nat)(a:aN):a_:=fun ρ=>((gG i a) ρ).bind fun f=>match f with
 |.bj bo=>.ok (.bj (iQ i bo))
 |f=>.ok f
theorem N8{st:Stmt}{i:Nat}{a:aN}(h:fQ X F st (gG i a)):fQ X F st (ov i a):=cP.imp h fun b8 σ H⟨G,ρ,r,k⟩=>by
 refine⟨G,ρ,r,?_⟩;unfold ov at k;cases e:gG i a ρ with
 |bad=>rw[e]at k;exact k.elim
 |exc c=>rw[e]at k;exact k
 |ok f=>
  rw[e,R.bh]at k;cases f with
  |bj bo=>intro σ' G' H' aZ s';obtain⟨cx,a7,s2⟩:=aZ.iQ i;exact k σ' cx H' a7 (s'.trans s2)
  |dB d=>exact k
  |gN d=>exact k
  |gM d=>exact k
  |d9 d=>exact k
  |b3 d=>exact k
def sU:ay:=fun _=>.ok (.cj [] [])
theorem Gs{p:Pos}:a6 X F (.Dict [] [] p) sU:=aP.imp Mp fun σ H Q⟨G,ρ,r,h⟩ d hd=>by refine h (.ref d) _ _ (r.lay hd) (bQ.lay r.aA.sub hd) ?_;simp only[At];exact⟨d,[],rfl,c3,rfl,.nil⟩
end
theorem CO(i:Int)(t:Tok):RelV (.int i) (.int i t):=⟨t,rfl⟩
theorem yB{K:PySem.W.Frag}{G:J}(i:Int):At K G (.int i) (.int i):=by simp only[At]
structure aW(X:aC)(F:a3)(e:Expr)(m:ay):Prop where
 o:aP X e (cc F m)
structure iL(X:aC)(F:a3)(e:Expr)(m:aN):Prop where
 o:aP X e (ie F m)
structure eK(X:aC)(F:a3)(e:Expr)(m:bN):Prop where
 o:dQ X e (e1 F m)
structure mz(X:aC)(F:a3)(e:Expr)(m:bN):Prop where
 o:gy X e (e1 F m)
structure fi(X:aC)(F:a3)(af:List Expr)(m:aN):Prop where
 o:d8 X af (dE F m)
structure dS(X:aC)(F:a3)(st:Stmt)(m:a_):Prop where
 o:cP X st (ej F m)
structure hO(X:aC)(F:a3)(st:List Stmt)(m:a_):Prop where
 o:eT X st (ej F m)
structure nL(X:aC)(F:a3)(bF e:Expr)(m:aN):Prop where
 o:gZ X bF e (k6 F m)
structure rM(X:aC)(F:a3)(e:Option Expr)(m:jQ):Prop where
 o:nH X e (tM F m)
section
variable{X:aC}{F:a3}{e a b c bF iter elt:Expr}{af:List Expr}{pos p:Pos}{m n:ay}{ma:aN}{st:Stmt}{k4:List Stmt}
theorem ar(i:Nat){x:Str}(hN:X.N[i]?=some x:=by rfl)(hv:fh X.env.scope x:=by first|exact Or.inl rfl|exact Or.inr (Or.inl rfl)|exact Or.inr (Or.inr rfl))(hd:(x==("__debug__" :Str))=false:=by decide)(hcd:(x==("__classdict__" :Str))=false:=by decide):aW X F (.Name x pos) (aj i):=⟨az.GZ (i:=i) (hN:=hN) (hv:=hv) (hd:=hd) (hcd:=hcd)⟩
theorem aM{i:Int}{j}:aW X F (.Constant (.int i) j pos) (aw (.int i)):=⟨az.GC ⟩
theorem fc{i:Bool}{j}:aW X F (.Constant (.bool i) j pos) (aw (.aq i)):=⟨az.Gm ⟩
theorem gR{i:Str}{j}:aW X F (.Constant (.str i) j pos) (aw (.str i)):=⟨az.GU ⟩
theorem k9{j}:aW X F (.Constant .none j pos) (aw .non):=⟨az.GN ⟩
theorem aF:fi X F [] ax:=⟨az.EZ ⟩
theorem ag{m:ay}{r:aN}(h:aW X F e m)(t:fi X F af r)(hs:notStar e=true:=by rfl):fi X F (e::af) (ae m r):=⟨az.EY (h:=h.1) (t:=t.1) (hs:=hs)⟩
theorem b5{k}{m:aN}(h:fi X F af m):aW X F (.Tuple af k pos) (bP m):=⟨az.GW (h:=h.1)⟩
theorem ek{m:aN}(h:fi X F af m):iL X F (.List af pos) (dy m):=⟨az.LD (h:=h.1)⟩
theorem c4{m:aN}(h:iL X F e m):aW X F e (cO m):=⟨az.Gy (h:=h.1)⟩
theorem Et{m:bN}(h:eK X F e m):eK X F e (lO m):=⟨az.O3 (h:=h.1)⟩
theorem f5{m:ay}(h:aW X F e m)(he:∀whole,isTrue e X.env whole=(do let v ←whole;standAt e.pos;holding [v] (truthy v)):=by intro _;rfl):eK X F e (bV m):=⟨az.Pb (h:=h.1) (he:=he)⟩
theorem Qz{m:bN}(h:eK X F a m):mz X F (.BoolOp .And [a] pos) m:=⟨az.PH (h:=h.1)⟩
theorem nx{m:bN}(h:eK X F a m):mz X F (.BoolOp .Or [a] pos) m:=⟨az.PK (h:=h.1)⟩
theorem Qy{m n:bN}(h:eK X F a m)(k:mz X F (.BoolOp .And (b::af) pos) n):mz X F (.BoolOp .And (a::b::af) pos) (oe m n):=⟨az.w_and (h:=h.1) (k:=k.1)⟩
theorem mb{m n:bN}(h:eK X F a m)(k:mz X F (.BoolOp .Or (b::af) pos) n):mz X F (.BoolOp .Or (a::b::af) pos) (fV m n):=⟨az.w_or (h:=h.1) (k:=k.1)⟩
theorem l9{m:bN}(h:mz X F e m):eK X F e m:=⟨az.Pc (h:=h.1)⟩
theorem gS{m:bN}(h:eK X F a m):eK X F (.UnaryOp .Not a pos) (dU m):=⟨az.Pa (h:=h.1)⟩
theorem kj{op}{m:ay}(h:aW X F a m):aW X F (.BoolOp op [a] pos) m:=⟨az.GQ (h:=h.1)⟩
theorem ki{m n:ay}(h:aW X F a m)(k:aW X F (.BoolOp .And (b::af) pos) n):aW X F (.BoolOp .And (a::b::af) pos) (hn m n):=⟨az.Gl (h:=h.1) (k:=k.1)⟩
theorem Ei{m:ay}(h:aW X F a m):aW X F (.UnaryOp .Not a pos) (m3 m):=⟨az.GO (h:=h.1)⟩
theorem P5{k:bN}{m n:ay}(h:eK X F c k)(ha:aW X F a m)(hb:aW X F b n):aW X F (.IfExp c a b pos) (om k m n):=⟨az.GA (h:=h.1) (ha:=ha.1) (hb:=hb.1)⟩
theorem fy:hO X F [] dz:=⟨az.N0 ⟩
theorem bY{m n:a_}(h:dS X F st m)(k:hO X F k4 n):hO X F (st::k4) (bC m n):=⟨az.NS (h:=h.1) (k:=k.1)⟩
theorem cg{m:a_}(h:dS X F st m):hO X F [st] m:=⟨az.N1 (h:=h.1)⟩
theorem dp{m:ay}(h:aW X F e m):dS X F (.Return (some e) pos) (cY m):=⟨az.N2 (h:=h.1)⟩
theorem ub{m:aN}(h:iL X F e m):dS X F (.Return (some e) pos) (gm m):=⟨az.N3 (h:=h.1)⟩
theorem uc(i:Nat){x:Str}{p:Pos}(hN:X.N[i]?=some x:=by rfl)(hv:fh X.env.scope x:=by first|exact Or.inl rfl|exact Or.inr (Or.inl rfl)|exact Or.inr (Or.inr rfl))(hd:(x==("__debug__" :Str))=false:=by decide)(hcd:(x==("__classdict__" :Str))=false:=by decide):dS X F (.Return (some (.Name x p)) pos) (gm (j_ i)):=⟨az.N4 (i:=i) (hN:=hN) (hv:=hv) (hd:=hd) (hcd:=hcd)⟩
theorem fx{k:bN}{m n:a_}{xs ys:List Stmt}(h:eK X F c k)(ha:hO X F xs m)(hb:hO X F ys n):dS X F (.If c xs ys pos) (du k m n):=⟨az.NZ (h:=h.1) (ha:=ha.1) (hb:=hb.1)⟩
theorem Er{m:a_}(i:Nat)(h:dS X F st m):dS X F st (oi i m):=⟨az.NY (i:=i) (h:=h.1)⟩
theorem en(i:Nat){x:Str}{p:Pos}{m:ay}(hN:X.N.Nodup)(he:aW X F e m)(hi:X.N[i]?=some x:=by rfl)(hx:Loc X.env.scope x:=by first|exact Or.inl rfl|exact Or.inr rfl)(hs:i8 e=true:=by rfl)(hf:X.fn x=true∨X.env.scope.names.lookup x=some .local:=by first|exact .inl rfl|exact .inr rfl):dS X F (.Assign [.Name x p] e pos) (dA i m):=⟨az.N6 (i:=i) (hN:=hN) (he:=he.1) (hi:=hi) (hx:=hx) (hs:=hs) (hf:=hf)⟩
theorem ro(i:Nat){x:Str}{p:Pos}{m:aN}(hN:X.N.Nodup)(he:iL X F e m)(hi:X.N[i]?=some x:=by rfl)(hx:Loc X.env.scope x:=by first|exact Or.inl rfl|exact Or.inr rfl)(hs:i8 e=true:=by rfl)(hf:X.fn x=true∨X.env.scope.names.lookup x=some .local:=by first|exact .inl rfl|exact .inr rfl):dS X F (.Assign [.Name x p] e pos) (gG i m):=⟨az.N9 (i:=i) (hN:=hN) (he:=he.1) (hi:=hi) (hx:=hx) (hs:=hs) (hf:=hf)⟩
theorem t6(ha:aW X F a m)(hb:aW X F b n):aW X F (.BinOp a .Sub b pos) (aB ni m n):=⟨az.GV (ha:=ha.1) (hb:=hb.1)⟩
theorem oX(ha:aW X F a m)(hb:aW X F b n):aW X F (.BinOp a .Mult b pos) (aB ka m n):=⟨az.GJ (ha:=ha.1) (hb:=hb.1)⟩
theorem jJ(ha:aW X F a m)(hb:aW X F b n):aW X F (.BinOp a .FloorDiv b pos) (aB hV m n):=⟨az.Gw (ha:=ha.1) (hb:=hb.1)⟩
theorem ih(ha:aW X F a m)(hb:aW X F b n):aW X F (.BinOp a .Mod b pos) (aB gp m n):=⟨az.GI (ha:=ha.1) (hb:=hb.1)⟩
theorem Ej(ha:aW X F a m)(hb:aW X F b n):aW X F (.BinOp a .Pow b pos) (aB lX m n):=⟨az.GR (ha:=ha.1) (hb:=hb.1)⟩
theorem Qx(ha:aW X F a m)(hb:aW X F b n):eK X F (.Compare a [.Lt] [b] pos) (bV (aB od m n)):=⟨az.O9 (ha:=ha.1) (hb:=hb.1)⟩
theorem Qw(ha:aW X F a m)(hb:aW X F b n):eK X F (.Compare a [.Gt] [b] pos) (bV (aB sm m n)):=⟨az.O8 (ha:=ha.1) (hb:=hb.1)⟩
theorem rm(ha:aW X F a m):aW X F (.UnaryOp .USub a pos) (bW kU m):=⟨az.GL (ha:=ha.1)⟩
theorem fb(ha:aW X F a m)(hb:aW X F b n):aW X F (.BinOp a .Add b pos) (aB dY m n):=⟨az.Gj (ha:=ha.1) (hb:=hb.1)⟩
theorem Ey(hu:X.A.units+64<cLine)(ha:aW X F a m)(hb:aW X F b n)(hK:F.K=X.K:=by rfl):eK X F (.Compare a [.Eq] [b] pos) (bV (aB (de true) m n)):=⟨az.O7 (hu:=hu) (ha:=ha.1) (hb:=hb.1) (hK:=hK)⟩
theorem o1(hu:X.A.units+64<cLine)(ha:aW X F a m)(hb:aW X F b n)(hK:F.K=X.K:=by rfl):eK X F (.Compare a [.NotEq] [b] pos) (bV (aB (de false) m n)):=⟨az.O_ (hu:=hu) (ha:=ha.1) (hb:=hb.1) (hK:=hK)⟩
theorem ye(hu:X.A.units+64<cLine)(ha:aW X F a m)(hb:aW X F b n)(hK:F.K=X.K:=by rfl):aW X F (.Compare a [.Eq] [b] pos) (aB (de true) m n):=⟨az.Gv (hu:=hu) (ha:=ha.1) (hb:=hb.1) (hK:=hK)⟩
theorem Qa(hu:X.A.units+64<cLine)(ha:aW X F a m)(hb:aW X F b n)(hK:F.K=X.K:=by rfl):aW X F (.Compare a [.NotEq] [b] pos) (aB (de false) m n):=⟨az.GK (hu:=hu) (ha:=ha.1) (hb:=hb.1) (hK:=hK)⟩
theorem P6(hu:X.A.units+64<cLine)(ha:aW X F a m)(hb:aW X F b n)(hK:F.K=X.K:=by rfl)(hm:behindInMarks .In b=false:=by with_unfolding_all rfl):aW X F (.Compare a [.In] [b] pos) (aB (inD true) m n):=⟨az.GB (hu:=hu) (ha:=ha.1) (hb:=hb.1) (hK:=hK) (hm:=hm)⟩
theorem Qc(ha:aW X F a m)(hb:aW X F b n):aW X F (.Compare a [.IsNot] [b] pos) (aB (n6 false) m n):=⟨az.GP (ha:=ha.1) (hb:=hb.1)⟩
theorem P1{op eO:CmpOp}{r aZ:dr}{f g:D→D→R D}{l:ay}(ho:cX X (compareOp op) r)(ho':cX X (compareOp eO) aZ)(hf:eJ F r f)(hg:eJ F aZ g)(ha:aW X F a m)(hb:aW X F b n)(hc:aW X F c l)(hm:lastMarks [op,eO] [b,c]=false:=by with_unfolding_all rfl):aW X F (.Compare a [op,eO] [b,c] pos) (hq f g m n l):=⟨az.Gr (ho:=ho) (ho':=ho') (hf:=hf) (hg:=hg) (ha:=ha.1) (hb:=hb.1) (hc:=hc.1) (hm:=hm)⟩
theorem Eu{op eO:CmpOp}{r aZ:dr}{f g:D→D→R D}{l:ay}(ho:cX X (compareOp op) r)(ho':cX X (compareOp eO) aZ)(hf:eJ F r f)(hg:eJ F aZ g)(ha:aW X F a m)(hb:aW X F b n)(hc:aW X F c l)(hm:lastMarks [op,eO] [b,c]=false:=by with_unfolding_all rfl):eK X F (.Compare a [op,eO] [b,c] pos) (bV (hq f g m n l)):=⟨az.O4 (ho:=ho) (ho':=ho') (hf:=hf) (hg:=hg) (ha:=ha.1) (hb:=hb.1) (hc:=hc.1) (hm:=hm)⟩
theorem gQ(hm:X.mg "len"=none)(ha:fi X F [e] ma)(hK:F.K=X.K:=by rfl)(hg:cA X "len":=by rfl)(he:starEach [e] X.env=(false,eval e X.env)::starEach [] X.env:=by rfl)(hpl:(backTo pos (starEach [] X.env)).any (·.1)=false:=by rfl):aW X F (.Call (.Name "len" p) [e] [] pos) (cU dg ma):=⟨az.GG (hm:=hm) (ha:=ha.1) (hK:=hK) (hg:=hg) (he:=he) (hpl:=hpl)⟩
theorem l6{U:Str}{T:String}{bJ:Pos}(tt:mx X.K T)(hm:X.mg "isinstance"=none)(hmU:X.mg U=none)(hU:bootBuiltins U=some (.type T))(ha:aW X F a m)(hK:F.K=X.K:=by rfl)(hg:cA X "isinstance":=by rfl)(hgU:cA X U:=by rfl)(hnU:U≠"__name__":=by decide)(hdU:(U==("__debug__" :Str))=false:=by decide)(hs2:starEach [.Name U bJ] X.env=(false,eval (.Name U bJ) X.env)::starEach [] X.env:=by rfl)(he:starEach [a,.Name U bJ] X.env=(false,eval a X.env)::starEach [.Name U bJ] X.env:=by rfl)(hpl:(backTo pos (starEach [.Name U bJ] X.env)).any (·.1)=false:=by rfl):aW X F (.Call (.Name "isinstance" p) [a,.Name U bJ] [] pos) (bW (gh T) m):=⟨az.GD (tt:=tt) (hm:=hm) (hmU:=hmU) (hU:=hU) (ha:=ha.1) (hK:=hK) (hg:=hg) (hgU:=hgU) (hnU:=hnU) (hdU:=hdU) (hs2:=hs2) (he:=he) (hpl:=hpl)⟩
theorem dj(ha:aW X F a m)(hb:aW X F b n)(hs:nI b)(hK:F.K=X.K:=by rfl):aW X F (.Subscript a b pos) (aB bg m n):=⟨az.GF (ha:=ha.1) (hb:=hb.1) (hs:=hs) (hK:=hK)⟩
theorem Ql:rM X F none sW:=⟨az.Me ⟩
theorem Qm(h:aW X F e m):rM X F (some e) (qj m):=⟨az.Mf (h:=h.1)⟩
theorem Qe{lo hi:Option Expr}{bJ:Pos}{qu lR:jQ}(ha:aW X F a m)(hl:rM X F lo qu)(hh:rM X F hi lR)(hK:F.K=X.K:=by rfl):aW X F (.Subscript a (.Slice lo hi none bJ) pos) (ow oP m qu lR):=⟨az.GS (ha:=ha.1) (hl:=hl.1) (hh:=hh.1) (hK:=hK)⟩
theorem l_(h:aW X F e m)(hK:F.K=X.K:=by rfl):nL X F bF e (hy m):=⟨az.PJ (h:=h.1) (hK:=hK)⟩
theorem QB(h:aW X F e m)(hK:F.K=X.K:=by rfl):nL X F bF e (m2 m):=⟨az.PM (h:=h.1) (hK:=hK)⟩
theorem mc(hm:X.mg "range"=none)(ha:fi X F [a] ma)(hg:cA X "range":=by rfl)(hs:starEach [a] X.env=[(false,eval a X.env)]:=by rfl):nL X F bF (.Call (.Name "range" p) [a] [] pos) (gF ma):=⟨az.PL (hm:=hm) (ha:=ha.1) (hg:=hg) (hs:=hs)⟩
theorem QA{elts:List Expr}{k:Nat}{ra:Pos}(hm:X.mg "enumerate"=none)(ha:fi X F [a] ma)(hK:F.K=X.K:=by rfl)(hg:cA X "enumerate":=by rfl)(hs:starEach [a] X.env=[(false,eval a X.env)]:=by rfl):nL X F (.Tuple elts k ra) (.Call (.Name "enumerate" p) [a] [] pos) (oj ma):=⟨az.PI (hm:=hm) (ha:=ha.1) (hK:=hK) (hg:=hg) (hs:=hs)⟩
theorem jK{body:List Stmt}{mi:aN}{set:D→ah→R ah}{e0:a_}(hp:PassesOwn (model X.prog X.w) X.A X.env X.xe)(hi:nL X F bF iter mi)(hg:GM X bF set)(hb:hO X F body e0)(hc:X.calm=true:=by rfl)(hK:F.K=X.K:=by rfl)(hs:∀x,foldedSetIterable iter X.env x=pure x:=by intro _;rfl):dS X F (.For bF iter body [] pos) (eN mi set e0):=⟨az.NX (hp:=hp) (hi:=hi.1) (hg:=hg) (hb:=hb.1) (hc:=hc) (hK:=hK) (hs:=hs)⟩
theorem Qt{st:Stmt}{i:Nat}{a:aN}(h:dS X F st (gG i a)):dS X F st (ov i a):=⟨az.N8 (h:=h.1)⟩
theorem P2{p:Pos}:aW X F (.Dict [] [] p) sU:=⟨az.Gs ⟩
theorem PX{k:Nat}(hr:cK k X.A)(hm:X.mg "all"=none)(ha:fi X F [e] ma)(hc:X.calm=true:=by rfl)(hg:cA X "all":=by rfl)(he:starEach [e] X.env=(false,eval e X.env)::starEach [] X.env:=by rfl)(hpl:(backTo pos (starEach [] X.env)).any (·.1)=false:=by rfl):aW X F (.Call (.Name "all" p) [e] [] pos) (cU cT ma):=⟨az.Gk (hr:=hr) (hm:=hm) (ha:=ha.1) (hc:=hc) (hg:=hg) (he:=he) (hpl:=hpl)⟩
theorem Eo (i:Nat) {x:Str} {bA:Pos} {apos:Pos} {cpos:Pos} (he:aW X F e m) (hN:X.N[i]?=some x:=by rfl) (hv:fh X.env.scope x:=by first|exact Or.inl rfl|exact Or.inr (Or.inl rfl)|exact Or.inr (Or.inr rfl)) (hd:(x==("__debug__" :Str))=false:=by decide) (hcd:(x==("__classdict__" :Str))=false:=by decide) (hbase:attributeBase (.Name x bA) "append" X.env (eval (.Name x bA) X.env)=eval (.Name x bA) X.env:=by rfl) (hline:(apos.endLine==cpos.line)=true:=by rfl) (hfew:((backTo cpos (starEach [e] X.env)).all (fun x=>!x.1)&&(backToKw cpos (keywordEach [] X.env)).all (fun x=>x.1.isSome)
   &&decide (([e]:List Expr).length+([]:List Keyword).length+(if([]:List Keyword).isEmpty then 0 else 1)<30))=true:=by rfl) (hs:starEach [e] X.env=(false,eval e X.env)::starEach [] X.env:=by rfl) (hplain:(backTo cpos (starEach [] X.env)).any (·.1)=false:=by rfl) (hK:F.K=X.K:=by rfl):dS X F (.Expr (.Call (.Attribute (.Name x bA) "append" apos) [e] [] cpos) pos) (kP i m):=⟨az.NQ (i:=i) (he:=he.1) (hN:=hN) (hv:=hv) (hd:=hd) (hcd:=hcd) (hbase:=hbase) (hline:=hline) (hfew:=hfew) (hs:=hs) (hplain:=hplain) (hK:=hK)⟩
theorem di{x:Str}{n k:Nat}{mf:List D→R b0}(c:ey X.prog X.w X.K X.mg X.base x n k mf)(hr:cK k X.A)(ha:fi X F (e::af) ma)(hE:F.eR=fun _ _=>False:=by rfl)(hK:F.K=X.K:=by rfl)(hg:cA X x:=by rfl)(hdb:(x==("__debug__" :Str))=false:=by decide)(he:starEach (e::af) X.env=(false,eval e X.env)::starEach af X.env:=by rfl)(hpl:(backTo pos (starEach af X.env)).any (·.1)=false:=by rfl):aW X F (.Call (.Name x p) (e::af) [] pos) (cG n mf ma):=⟨az.Gp (c:=c) (hr:=hr) (ha:=ha.1) (hE:=hE) (hK:=hK) (hg:=hg) (hdb:=hdb) (he:=he) (hpl:=hpl)⟩
theorem oZ{x:Str}{n k:Nat}{mf:List D→R b0}(c:ey X.prog X.w X.K X.mg X.base x n k mf)(hr:cK k X.A)(ha:fi X F (e::af) ma)(hE:F.eR=fun _ _=>False:=by rfl)(hK:F.K=X.K:=by rfl)(hg:cA X x:=by rfl)(hdb:(x==("__debug__" :Str))=false:=by decide)(he:starEach (e::af) X.env=(false,eval e X.env)::starEach af X.env:=by rfl)(hpl:(backTo pos (starEach af X.env)).any (·.1)=false:=by rfl):iL X F (.Call (.Name x p) (e::af) [] pos) (jw n mf ma):=⟨az.Lz (c:=c) (hr:=hr) (ha:=ha.1) (hE:=hE) (hK:=hK) (hg:=hg) (hdb:=hdb) (he:=he) (hpl:=hpl)⟩
variable{scope:Scope}{N:List Str}
abbrev EB(X:aC)(scope:Scope)(N:List Str)(e:Expr)(m:ay):Prop:=∀cl C s H aU G0 H0,aW (eA X scope N cl C s H aU) (dT X.K G0 H0) e m
theorem Ed{mt:bN}(h:∀cl C s H aU G0 H0,eK (eA X scope N cl C s H aU) (dT X.K G0 H0) c mt):md X scope N [c] mt:=az.Fm fun cl C s H aU G0 H0=>(h cl C s H aU G0 H0).1
theorem nv(nl:Nat)(caps:List Nat){ifs:List Expr}{mi:aN}{set:D→ah→R ah}{mt:bN}{gJ:ay}(S:r0 X.env.scope X.N scope N nl caps=true)(hi:nL X F bF iter mi)(hg:rr X scope N bF set)(ht:md X scope N ifs mt)(he:EB X scope N elt gJ)(hc:X.calm=true:=by rfl)(hK:F.K=X.K:=by rfl)(hs:∀x,foldedSetIterable iter X.env x=pure x:=by intro _;rfl):iL X F (.ListComp elt [⟨bF,iter,ifs,0⟩] scope pos) (eZ nl caps mi set mt gJ):=
 ⟨az.LB nl caps S hi.1 hg ht (fun cl C s H aU G0 H0=>(he cl C s H aU G0 H0).1) hc hK hs⟩
end
theorem f3{P:Program}{w:World}{K:PySem.W.Frag}{mg:Str→Option Value}{base:Heap}{x:Str}{st:Stmt}{N aD:List Str}{k:Nat}{m:a_}(d:eo K mg x st aD)(S:c0 N aD (bX st))(h:∀(f:Addr)(bO:Value)(A:Around)(outer:List Env)(s:Shared)(H:J)(E:cn),cK k (A.deeper (PyProof.Rows.envOfC x (bX st) s.heap.objs.size f bO))→∀G0 H0,hO (dt gU P w K mg base N x (bX st) f bO A outer s H E).fs (dT K G0 H0) (eU st) m) :
  ey P w K mg base x aD.length (k+1) (c_ N.length m):=az.FT d S fun f bO A outer s H E hr G0 H0=>(h f bO A outer s H E hr G0 H0).1
structure uv(K:PySem.W.Frag)(mg:Str→Option Value)(x:Str)(d:D):Prop where
 ex:∃(v:V)(u:Value),mg x=some u∧RelV v u∧∀G,At K G d v
theorem Ee{X:aC}{F:a3}{x:Str}{d:D}{pos:Pos}(c:uv X.K X.mg x d)(hK:F.K=X.K:=by rfl)(hg:cA X x:=by rfl)(hd:(x==("__debug__" :Str))=false:=by decide):aW X F (.Name x pos) (aw d):=by obtain⟨v,u,h1,h2,h3⟩:=c.ex;exact⟨az.Gz h1 h2 (by rw[hK];exact h3) hg hd⟩
end az
namespace aV
open PySem PySem.Spec PyProof.Rows
section
variable{X:aC}{bF:Expr}
noncomputable def yj(a b c:Int):Prop:=c≠0∧Builtin.Range.small a b c=true∧0≤Builtin.Range.rangeSize a b c∧Builtin.divisionGoesByPylong (b-a) c=false
instance(a b c:Int):Decidable (yj a b c):=by unfold yj;infer_instance
end
section
variable{X:aC}{a e:Expr}{bS:dX}{pos p pos' R5:Pos}
end
end aV
namespace az
open PySem PySem.Spec aV
abbrev fA:=ah→R (D×ah)
abbrev nG:=ah→R (List D×ah)
noncomputable def JZ(F:a3)(G:J)(σ :St)(Q:bT):R (D×ah)→Prop
 |.ok (d,bo)=>∀v H' G',Rel F G' H' σ bo→Sub G G'→At F.K G' d v→Q v H'
 |.exc c=>hY F c
 |.bad=>False
def xS(F:a3)(m:fA):TE:=fun σ H Q=>∃G ρ,Rel F G H σ ρ∧JZ F G σ Q (m ρ)
def lf(m:ay):fA:=fun ρ=>(m ρ).bind fun d=>.ok (d,ρ)
def KP(m:aN):nG:=fun ρ=>(m ρ).bind fun d=>.ok (d,ρ)
section
variable{F:a3}
def KZ(a:fA)(r:nG):nG:=fun ρ=>(a ρ).bind fun x=>(r x.2).bind fun y=>.ok (x.1::y.1,y.2)
def BD(m:nG):fA:=fun ρ=>(m ρ).bind fun x=>if x.1.length≤1000000 then .ok (.tup x.1,x.2)else .bad
def K6(i:Nat)(a:fA):a_:=fun ρ=>(a ρ).bind fun x=>(bI i x.1 x.2).bind fun bo=>.ok (.bj bo)
def mZ(a:fA):a_:=fun ρ=>(a ρ).bind fun x=>.ok (.bj x.2)
theorem IS{a:fA}:gx (ej F (mZ a)) (Dm (xS F a)):=by
 rintro b8 σ H ⟨G,ρ,r,h⟩;unfold mZ at h;refine⟨G,ρ,r,?_⟩;cases ak:a ρ with
 |bad=>rw[ak]at h;exact h.elim
 |exc c=>rw[ak]at h;exact h
 |ok x=>obtain⟨d,dI⟩:=x;rw[ak]at h;exact fun v H' G' aZ s' _=>h σ G' H' aZ s'
end
section
variable{F:a3}
def del(H:J)(a:Addr):J:=fun b=>if b=a then none else H b
theorem FZ{H:J}{a:Addr}:del H a a=none:=by simp[del]
theorem FY{H:J}{a b:Addr}(h:b≠a):del H a b=H b:=by simp[del,h]
theorem va(H:J)(a:Addr):Sub (del H a) H:=fun b o e=>by
 unfold del at e
 split at e
 ·cases e
 ·exact e
end
section
variable{F:a3}
end
end az
namespace az
open PySem PySem.Spec aV PyProof.Rows
abbrev ED(X:aC)(F:a3)(e:Expr)(m:fA):Prop:=aP X e (xS F m)
section
variable{X:aC}{F:a3}{e a b c:Expr}{af:List Expr}{pos p:Pos}{m n:ay}{ma:aN}
noncomputable def BC(i:Nat)(m:ay):fA:=fun ρ=>(ownAt i ρ).bind fun ds=>(m ρ).bind fun d=>match d with
 |.int k=>if-(2^63)≤k∧k<2^63 then match seqIndex? k ds.length with
  |some j=>match ds[j]? with
   |some y=>.ok (y,ρ.set i (.cD (ds.eraseIdx j)))
   |none=>.bad
  |none=>.bad
  else .bad
 |_=>.bad
noncomputable def KW(i:Nat)(m:fA):a_:=fun ρ=>(ownAt i ρ).bind fun _=>(m ρ).bind fun x=>(ownAt i x.2).bind fun ds=>if ds.length<1000000 then .ok (.bj (x.2.set i (.cD (ds++[x.1]))))else .bad
def p_:List D→R (List D)
 |[.lst xs]=>.ok xs
 |[.bM xs]=>.ok xs
 |[.tup xs]=>.ok xs
 |_=>.bad
def h_(m:aN):aN:=fun ρ=>(m ρ).bind p_
theorem I0(hK:F.K=X.K):dq (ie F (h_ ma)) (q3 (fun xs H Q=>∃p ys,xs=[.ref p]∧(bx X.K H p ys∨cB X.K H p ys)∧∀l,H l=none→Q (.ref l) (upd H l (.lst ys))) (dE F ma)):=by
 rintro σ H Q ⟨G,ρ,r,h⟩;unfold h_ at h;refine⟨G,ρ,r,?_⟩;cases ak:ma ρ with
 |bad=>rw[ak]at h;exact h.elim
 |exc c=>rw[ak]at h;exact h
 |ok ds=>
  rw[ak,R.bh]at h;intro vs H1 aL ao s1 a;unfold p_ at h
  split at h
  ·obtain⟨v,rfl,bf⟩:=a.one;simp only[At]at bf;obtain⟨q,xs,rfl,aH,fC⟩:=bf;refine⟨q,xs,rfl,.inl (bx.of (ao.aA.sub _ _ aH)),fun l hl=>?_⟩;exact h l xs _ aL (ao.lay0 hl) (s1.trans (bQ.lay0 hl)) (s1.h.gone hl) c3 (ao.aA.sub.gone hl) fC
  ·obtain⟨v,rfl,bf⟩:=a.one;simp only[At]at bf;obtain⟨q,xs,rfl,aH,fC⟩:=bf;refine⟨q,xs,rfl,.inl (by rw[←hK];exact bx.mono ao.aA.sub aH),fun l hl=>?_⟩;exact h l xs _ aL (ao.lay0 hl) (s1.trans (bQ.lay0 hl)) (s1.h.gone hl) c3 (ao.aA.sub.gone hl) fC
  ·obtain⟨v,rfl,bf⟩:=a.one;simp only[At]at bf;obtain⟨q,xs,rfl,aH,fC⟩:=bf;refine⟨q,xs,rfl,.inr (cB.of (ao.aA.sub _ _ aH)),fun l hl=>?_⟩;exact h l xs _ aL (ao.lay0 hl) (s1.trans (bQ.lay0 hl)) (s1.h.gone hl) c3 (ao.aA.sub.gone hl) fC
  ·exact h.elim
theorem LC(hm:X.mg "list"=none)(ha:gw X F [e] ma)(hK:F.K=X.K:=by rfl)(hg:cA X "list":=by rfl)(he:starEach [e] X.env=(false,eval e X.env)::starEach [] X.env:=by rfl)(hpl:(backTo pos (starEach [] X.env)).any (·.1)=false:=by rfl) :
  lh X F (.Call (.Name "list" p) [e] [] pos) (h_ ma):=aP.imp (Ce Ft hg hm (by kernel_rfl) ha (by decide) (by decide) he hpl) (I0 hK)
noncomputable def sP:List D→R (List D)
 |[.int j]=>if-(2^62)≤j∧j≤1000000 then .ok (fX 0 j.toNat)else .bad
 |_=>.bad
def K2(m:aN):aN:=fun ρ=>(m ρ).bind sP
def Lb:List D→R D
 |[.int i,.int j]=>.ok (.int (if j>i then j else i))
 |_=>.bad
noncomputable def Pg:List D→R D
 |[.int i]=>.ok (.int i)
 |[.aq k]=>.ok (.int (if k then 1 else 0))
 |[.str x]=>if x.length≤640 then match intText? x with|some i=>.ok (.int i)|none=>.bad else .bad
 |_=>.bad
def K7(set:D→ah→R ah)(m:ay):a_:=fun ρ=>(m ρ).bind fun d=>(set d ρ).bind fun bo=>.ok (.bj bo)
theorem NV{m:fA}(h:ED X F e m)(hs:i8 e=true:=by rfl):fQ X F (.Expr e pos) (mZ m):=cP.imp (qM h (jG _ _ _ _ hs)) IS
theorem C_{n:Nat}{mf:List D→R b0}{xe:cn→Str→J→Prop}{E:cn}{aL H1:J}{σ :aV.St}{ρ:ah}{ds:List D}{vs:List V}{Q:bT}(hx:F.eR=xe E)(ao:Rel F aL H1 σ ρ)(a:aE F.K aL ds vs)(aI:ds.length=n)(h:hj F aL H1 σ ρ Q ((mf ds).bind gO)):nh F.K n xe mf vs H1 Q E:=by
 refine⟨aL,ds,ao.aA.sub,a,aI,?_⟩;cases e:mf ds with
 |bad=>rw[e]at h;exact h.elim
 |exc c=>rw[e]at h;intro G' H' k;have z:=h G' H' (dF.of ao k).aA;rw[hx]at z;exact z
 |ok t=>
  rw[e,R.bh]at h;cases t with
  |v d=>exact fun v G' H' k bf=>h v H' G' (dF.of ao k) ⟨k.d3,k.hh,k.new⟩ bf
  |o af=>intro p xs G' H' k h1 h2 h3 h4;have h2:H1 p=none:=h2;have aZ:=dF.of ao k;have no:¬cy H' σ ρ p:=cy.fresh ao k.hh h2;refine h (.ref p) H' _ (aZ.take h3 h1 (ao.aA.hh.gone h2) no) (bQ.put ⟨k.d3,k.hh,k.new⟩ h2 h1) ?_;simp only[At];exact⟨p,xs,rfl,c3,h4.mono (Sub.upd h1)⟩
  |t t=>intro v G' H' k q;obtain⟨a1,a2,jl⟩:=(dF.of ao k).DB (F':=⟨F.K,aL,H1,xe E⟩) rfl q ⟨k.d3,k.hh,k.new⟩ fun b hb=>⟨(q.own b hb).2,ao.aA.hh.gone (q.own b hb).2,cy.fresh ao k.hh (q.own b hb).2⟩;exact h v H' _ a1 a2 jl
end
section
variable{X:aC}{F:a3}{e a b c:Expr}{af:List Expr}{pos p:Pos}{m n:ay}{ma:aN}
end
end az
namespace az
open PySem PySem.Spec aV
structure uL(X:aC)(F:a3)(e:Expr)(m:fA):Prop where
 o:aP X e (xS F m)
section
variable{X:aC}{F:a3}{e a b c bF iter elt:Expr}{af:List Expr}{pos p:Pos}{m n:ay}{ma:aN}{st:Stmt}{k4:List Stmt}
theorem k_(hm:X.mg "list"=none)(ha:fi X F [e] ma)(hK:F.K=X.K:=by rfl)(hg:cA X "list":=by rfl)(he:starEach [e] X.env=(false,eval e X.env)::starEach [] X.env:=by rfl)(hpl:(backTo pos (starEach [] X.env)).any (·.1)=false:=by rfl):iL X F (.Call (.Name "list" p) [e] [] pos) (h_ ma):=⟨az.LC (hm:=hm) (ha:=ha.1) (hK:=hK) (hg:=hg) (he:=he) (hpl:=hpl)⟩
theorem Ep{m:fA}(h:uL X F e m)(hs:i8 e=true:=by rfl):dS X F (.Expr e pos) (mZ m):=⟨az.NV (h:=h.1) (hs:=hs)⟩
end
theorem dP.inj{K:PySem.W.Frag}{c:Str}{C gT:Addr}(h:dP K c C)(h':dP K c gT):C=gT:=by unfold dP at h h';rw[h]at h';cases h';rfl
theorem Bt{K:PySem.W.Frag}{G:J}{f:Str}{d:D}:∀{xs:List (Str×V)}{ds:List D},aE K G ds (xs.map (·.2))→((xs.map (·.1)).zip ds).lookup f=some d→∃v,xs.lookup f=some v∧At K G d v
 |[],_,_,e=>by simp at e
 |(k,v)::xs,[],h,_=>by have:=h.length;simp at this
 |(k,v)::xs,e::ds,h,l=>by
  simp only[List.map_cons,aE]at h;obtain⟨iE,r,ai,a,t⟩:=h;cases ai;simp only[List.map_cons,List.zip_cons_cons,List.lookup_cons]at l ⊢;cases hk:f==k with
  |true=>rw[hk]at l;cases l;exact⟨v,rfl,a⟩
  |false=>rw[hk]at l;exact Bt t l
theorem sO{f:Str}:∀{xs:List (Str×V)},(xs.map (·.1)).all (fun k=>!(f==k))=true→xs.lookup f=none
 |[],_=>rfl
 |(k,v)::xs,h=>by simp only[List.map_cons,List.all_cons,Bool.and_eq_true,Bool.not_eq_true']at h;rw[List.lookup_cons,h.1];exact sO (by simpa using h.2)
structure o4(K:PySem.W.Frag)(c:Str)(aK:List Str):Prop where
 ex:∃C,dP K c C∧hI K C∧∀f∈aK,mn K C f
noncomputable def c8(c f:Str):D→R D
 |.ins d_ ns ds=>if d_=c then match(ns.zip ds).lookup f with
  |some d=>.ok d
  |none=>.bad
  else .bad
 |_=>.bad
section
variable{X:aC}{F:a3}{e a b c o:Expr}{af:List Expr}{pos p:Pos}{m n:ay}{ma:aN}
theorem Gx{a0 f:Str}{aK:List Str}(k:o4 X.K a0 aK)(he:a6 X F o m)(hf:f∈aK:=by decide+kernel)(hK:F.K=X.K:=by rfl)(hb:attributeBase o f X.env (eval o X.env)=eval o X.env:=by rfl):a6 X F (.Attribute o f pos) (bW (c8 a0 f) m):=by
 refine aP.imp (Mr he hb) ?_;rintro σ H Q ⟨G,ρ,r,h⟩;unfold bW at h;refine⟨G,ρ,r,?_⟩;cases ak:m ρ with
 |bad=>rw[ak]at h;exact h.elim
 |exc c=>rw[ak]at h;exact h
 |ok d=>
  rw[ak,R.bh]at h;intro x H1 aL ao s1 bu;cases d with
  |ins d_ ns ds=>
   simp only[c8]at h
   split at h
   ·rename_i hc;subst hc
    split at h
    ·rename_i d' hl;simp only[At]at bu;obtain⟨q,aJ,xs,rfl,⟨C,bK,g1⟩,rfl,al⟩:=bu;obtain⟨v,hv,bf⟩:=Bt al hl;obtain⟨gT,k1,k2,k3⟩:=k.ex;rw[hK]at bK;have:=bK.inj k1;subst this;exact⟨q,C,aJ,xs,v,rfl,ao.aA.sub _ _ g1,k2,k3 f hf,hv,h v H1 aL ao s1 bf⟩
    ·exact h.elim
   ·exact h.elim
  |_=>exact h.elim
structure iJ(P:Program)(w:World)(K:PySem.W.Frag)(mg:Str→Option Value)(base:Heap)(a0 mt:Str)(n k:Nat)(mf:List D→R b0):Prop where
 ex:∃(C f:Addr)(fd:FuncData)(aD:List Str),dP K a0 C∧hI K C∧Meth K C mt f∧fM P w K mg base gU k f fd aD (iD K (n+1) mf)∧Binds K fd aD []
noncomputable def hB(a0 mt:Str):D→R D
 |.ins d_ ns ds=>if d_=a0∧ns.all (fun k=>!(mt==k))=true then .ok (.ins d_ ns ds)else .bad
 |_=>.bad
noncomputable def fU(a0 mt:Str)(n:Nat)(mf:List D→R b0)(o:ay)(ma:aN):ay:=fun ρ=>(o ρ).bind fun d=>(hB a0 mt d).bind fun d=>(ma ρ).bind fun ds=>if ds.length=n then(mf (d::ds)).bind gO else .bad
theorem I4{a0 mt:Str}{n:Nat}{mf:List D→R b0}{C:Addr}{E:cn}(hx:F.eR=fun _ _=>False)(fG:dP F.K a0 C):dq (cc F (fU a0 mt n mf m ma)) (q5 C mt (iD F.K (n+1) mf) [] E (cc F m) (dE F ma)):=by
 rintro σ H Q ⟨G,ρ,r,h⟩;unfold fU at h;refine⟨G,ρ,r,?_⟩;cases ak:m ρ with
 |bad=>rw[ak]at h;exact h.elim
 |exc c=>rw[ak]at h;exact h
 |ok d=>
  rw[ak,R.bh]at h;intro x H1 aL ao s1 bu;cases d with
  |ins d_ ns ds=>
   simp only[hB]at h
   split at h
   ·rename_i hc;obtain⟨mU,iY⟩:=hc;subst mU;have pj:=bu;simp only[At]at bu;obtain⟨q,aJ,xs,rfl,⟨gT,bK,g1⟩,rfl,al⟩:=bu;have:=bK.inj fG;subst this;refine⟨q,aJ,xs,rfl,ao.aA.sub _ _ g1,sO iY,aL,ρ,ao,?_⟩;rw[R.bh]at h;cases bz:ma ρ with
    |bad=>rw[bz]at h;exact h.elim
    |exc c=>rw[bz]at h;exact h
    |ok af=>
     rw[bz,R.bh]at h;intro vs aQ cx a7 s2 bf;by_cases aI:af.length=n
     ·rw[if_pos aI]at h;rw[List.append_nil];exact C_ (xe:=fun _ _ _=>False) hx a7 (.cons (pj.mono s2.g) bf) (by simp[aI]) (h.mono (s1.trans s2))
     ·rw[if_neg aI]at h;exact h.elim
   ·exact h.elim
  |_=>exact h.elim
theorem GH {a0 mt:Str} {n k:Nat} {mf:List D→R b0} {pl:Sem Bool} {apos:Pos} (c:iJ X.prog X.w X.K X.mg X.base a0 mt n k mf) (hr:cK k X.A) (he:a6 X F o m) (ha:gw X F (e::af) ma) (hE:F.eR=fun _ _=>False:=by rfl) (hK:F.K=X.K:=by rfl)(hst:starEach (e::af) X.env=(false,eval e X.env)::starEach af X.env:=by rfl) (hpl:(backTo pos (starEach af X.env)).any (·.1)=false:=by rfl)(ht:eval (.Call (.Attribute o mt apos) (e::af) [] pos) X.env=(do
    let cR ←eval o X.env
    standAt apos.atName
    let(f,first) ←holding [cR] (getMethod cR mt pl)
    callWith pos f first (backTo pos (starEach (e::af) X.env)) (backToKw pos (keywordEach [] X.env))):=by rfl) :
  a6 X F (.Call (.Attribute o mt apos) (e::af) [] pos) (fU a0 mt n mf m ma):=by
 obtain⟨C,f,fd,aD,bK,dx,jm,g5,hb⟩:=c.ex;refine aP.imp (Mv (pl:=pl) he dx jm g5 hr hb .nil qI ha hst hpl ht) ?_;rw[←hK];exact I4 hE (by rw[hK];exact bK)
def Be:D→Option Key
 |.int i=>some (.inl i)
 |.str x=>some (.inr x)
 |_=>none
noncomputable def sI:List D→Option (List Key)
 |[]=>some []
 |d::ds=>match Be d,sI ds with
  |some k,some ks=>some (k::ks)
  |_,_=>none
def lM:D→Option (List Key)
 |.tup ds=>sI ds
 |_=>none
theorem Kc{K:PySem.W.Frag}{G:J}{d:D}{v:V}{k:Key}(e:Be d=some k)(a:At K G d v):v=cb k:=by
 cases d<;>first
  |(cases e;done)
  |(cases e;simp only[At]at a;exact a)
theorem Bf{K:PySem.W.Frag}{G:J}:∀{ds:List D}{vs:List V}{ks:List Key},sI ds=some ks→aE K G ds vs→vs=ks.map cb
 |[],_,_,e,a=>by simp only[aE]at a;subst a;cases e;rfl
 |d::ds,_,_,e,a=>by
  simp only[aE]at a;obtain⟨v,r,rfl,bf,kx⟩:=a;unfold sI at e
  split at e
  ·rename_i k ks ai au;cases e;rw[Kc ai bf,Bf au kx];rfl
  ·cases e
theorem wj{K:PySem.W.Frag}{G:J}{d:D}{v:V}{ks:List Key}(e:lM d=some ks)(a:At K G d v):∃b,v=.ref b∧G b=some (.tup (ks.map cb)):=by
 cases d with
 |tup ds=>simp only[At]at a;obtain⟨b,xs,rfl,hb,al⟩:=a;exact⟨b,rfl,by rw[hb,Bf e al]⟩
 |_=>cases e
theorem x9{κ:Type}[DecidableEq κ](k:κ):∀aS:List (κ×V),(fa aS k).isSome=(aS.map (·.1)).any (fun x=>decide (x=k))
 |[]=>rfl
 |(x,v)::aS=>by
  have ck:=x9 k aS;unfold fa at ck ⊢;rw[List.find?_cons,List.map_cons,List.any_cons];by_cases h:x=k
  ·simp[h]
  ·simp only[h,decide_false,Bool.false_or];exact ck
noncomputable def d0(b:Bool)(k d:D):R D:=match d with
 |.a4 ks _=>match lM k with
  |some cq=>.ok (.aq (if b then ks.any (fun x=>decide (x=cq))else !ks.any (fun x=>decide (x=cq))))
  |none=>.bad
 |_=>.bad
theorem zk{b:Bool}{σ :St}{ρ:ah}{G H:J}{y x:V}{mG dd:D}{Q:bT}(r:Rel F G H σ ρ)(cC:At F.K G mG y)(bu:At F.K G dd x)(h:hj F G H σ ρ Q (d0 b mG dd)) :
  ∃a o,x=.ref a∧jh H a y o∧Q (.aq (if b then o.isSome else !o.isSome)) H:=by
 unfold d0 at h
 split at h
 ·rename_i ks ds
  split at h
  ·rename_i cq dc;simp only[At]at bu;obtain⟨a,xs,rfl,hg,rfl,al⟩:=bu;obtain⟨q,rfl,aH⟩:=wj dc cC;refine⟨a,fa xs cq,rfl,jh.t (r.aA.sub _ _ hg) (r.aA.sub _ _ aH),?_⟩;rw[x9];exact h _ H G r (bQ.refl _ _) (by simp only[At])
  ·exact h.elim
 ·exact h.elim
theorem AS:dq (cc F (aB (d0 true) m n)) (Dk (cc F m) (cc F n)):=by
 rintro σ H Q ⟨G,ρ,r,h⟩;unfold aB at h;refine⟨G,ρ,r,?_⟩;cases ak:m ρ with
 |bad=>rw[ak]at h;exact h.elim
 |exc c=>rw[ak]at h;exact h
 |ok mG=>
  rw[ak,R.bh]at h;intro y H1 aL ao s1 cC;refine⟨aL,ρ,ao,?_⟩;cases bz:n ρ with
  |bad=>rw[bz]at h;exact h.elim
  |exc c=>rw[bz]at h;exact h
  |ok dd=>rw[bz,R.bh]at h;intro x aQ cx a7 s2 bu;exact zk (b:=true) a7 (cC.mono s2.g) bu (h.mono (s1.trans s2))
theorem AU:dq (cc F (aB (d0 false) m n)) (Dl (cc F m) (cc F n)):=by
 rintro σ H Q ⟨G,ρ,r,h⟩;unfold aB at h;refine⟨G,ρ,r,?_⟩;cases ak:m ρ with
 |bad=>rw[ak]at h;exact h.elim
 |exc c=>rw[ak]at h;exact h
 |ok mG=>
  rw[ak,R.bh]at h;intro y H1 aL ao s1 cC;refine⟨aL,ρ,ao,?_⟩;cases bz:n ρ with
  |bad=>rw[bz]at h;exact h.elim
  |exc c=>rw[bz]at h;exact h
  |ok dd=>rw[bz,R.bh]at h;intro x aQ cx a7 s2 bu;exact zk (b:=false) a7 (cC.mono s2.g) bu (h.mono (s1.trans s2))
theorem Q1(hu:X.A.units+64<cLine)(ha:a6 X F a m)(hb:a6 X F b n)(h1:behindInMarks .In b=false:=by with_unfolding_all rfl):a6 X F (.Compare a [.In] [b] pos) (aB (d0 true) m n):=aP.imp (Cf (Cb (by omega) ha hb) h1) AS
theorem Gu(hu:X.A.units+64<cLine)(ha:a6 X F a m)(hb:a6 X F b n)(h1:behindInMarks .NotIn b=false:=by with_unfolding_all rfl):a6 X F (.Compare a [.NotIn] [b] pos) (aB (d0 false) m n):=aP.imp (Cf (Cc (by omega) ha hb) h1) AU
theorem O5(hu:X.A.units+64<cLine)(ha:a6 X F a m)(hb:a6 X F b n)(h1:behindInMarks .In b=false:=by with_unfolding_all rfl):e4 X F (.Compare a [.In] [b] pos) (bV (aB (d0 true) m n)):=by refine dQ.imp (Cw (Cb (by omega) ha hb) h1) fun σ H Q h=>?_;obtain⟨G,ρ,r,k⟩:=sD σ H Q h;exact AS σ H _ ⟨G,ρ,r,k⟩
theorem O6(hu:X.A.units+64<cLine)(ha:a6 X F a m)(hb:a6 X F b n)(h1:behindInMarks .NotIn b=false:=by with_unfolding_all rfl):e4 X F (.Compare a [.NotIn] [b] pos) (bV (aB (d0 false) m n)):=by refine dQ.imp (Cw (Cc (by omega) ha hb) h1) fun σ H Q h=>?_;obtain⟨G,ρ,r,k⟩:=sD σ H Q h;exact AU σ H _ ⟨G,ρ,r,k⟩
def lP(i:Nat):a_:=fun ρ=>if i<ρ.length then .ok (.bj (ρ.set i (.aR (.a4 [] []))))else .bad
theorem N7(i:Nat){x:Str}{p q:Pos}(hN:X.N.Nodup)(hi:X.N[i]?=some x:=by rfl)(hx:Loc X.env.scope x:=by first|exact Or.inl rfl|exact Or.inr rfl)(hf:X.fn x=true∨X.env.scope.names.lookup x=some .local:=by first|exact .inl rfl|exact .inr rfl):fQ X F (.Assign [.Name x p] (.Dict [] [] q) pos) (lP i):=by
 refine cP.imp (qN hN hi hx Mq (jG _ _ _ _ rfl) hf) ?_;rintro b8 σ H ⟨G,ρ,r,h⟩;unfold lP at h;intro a ha
 split at h
 ·rename_i hl;refine h _ G _ ((r.lay0 ha).setB hl c3 (r.aA.sub.gone ha) (r.aA.hh.gone ha) ⟨[],rfl,rfl,.nil⟩ fun j af o _ ai au f=>cy.fresh r (Sub.upd ha) ha ⟨j,af,o,ai,au,f⟩) (Sub.refl _)
 ·exact h.elim
noncomputable def putD(ks:List (List Key))(ds:List D)(cq:List Key)(d:D):R jk:=if ks.any (fun x=>decide (x=cq))=false∧ks.length<1000000 then .ok (.a4 (ks++[cq]) (ds++[d]))else .bad
noncomputable def hZ(i:Nat)(mk mv:ay):a_:=fun ρ=>(mv ρ).bind fun v=>match ρ[i]? with
 |some (.aR (.a4 ks ds))=>(mk ρ).bind fun k=>match lM k with
  |some cq=>(putD ks ds cq v).bind fun o=>.ok (.bj (ρ.set i (.aR o)))
  |none=>.bad
 |_=>.bad
theorem NU(i:Nat){x:Str}{bA pos':Pos}{k v:Expr}{mk mv:ay}(hu:X.A.units+64<cLine)(hk:a6 X F k mk)(hv:a6 X F v mv)(hN:X.N[i]?=some x:=by rfl)(hvs:fh X.env.scope x:=by first|exact Or.inl rfl|exact Or.inr (Or.inl rfl)|exact Or.inr (Or.inr rfl))(hd:(x==("__debug__" :Str))=false:=by decide)(hcd:(x==("__classdict__" :Str))=false:=by decide)(hs:i8 v=true:=by rfl) :
  fQ X F (.Assign [.Subscript (.Name x bA) k pos'] v pos) (hZ i mk mv):=by
 refine cP.imp (MR (by omega) (jA hN hvs hd hcd) hk hv (jG _ _ _ _ hs)) ?_;rintro b8 σ H ⟨G,ρ,r,h⟩;unfold hZ at h;refine⟨G,ρ,r,?_⟩;cases ak:mv ρ with
 |bad=>rw[ak]at h;exact h.elim
 |exc c=>rw[ak]at h;exact h
 |ok Q0=>
  rw[ak,R.bh]at h;intro v H1 aL ao s1 bf
  split at h
  ·rename_i ks ds cI;obtain⟨q,ho,ai,_⟩:=ao.obj cI;refine⟨.ref q,ai,aL,ρ,ao,?_⟩;cases bz:mk ρ with
   |bad=>rw[bz]at h;exact h.elim
   |exc c=>rw[bz]at h;exact h
   |ok mG=>
    rw[bz,R.bh]at h;intro y aQ cx a7 s2 cC;obtain⟨cH,ho',eV,h1,h2,h3,xs,rfl,rfl,al⟩:=a7.obj cI;rw[ai]at eV;cases eV
    split at h
    ·rename_i cq dc;unfold putD at h
     split at h
     ·rename_i hc;obtain⟨mU,iY⟩:=hc;obtain⟨QV,rfl,vI⟩:=wj dc cC;have aI:fa xs cq=none:=by
       have:=x9 cq xs;rw[mU]at this;exact Option.not_isSome_iff_eq_none.mp (by rw[this];exact Bool.false_ne_true)
      refine⟨q,_,rfl,o5.t h1 (a7.aA.sub _ _ vI) (Nat.lt_trans (by simpa using iY) (by decide)),?_⟩;rw[M4 _ aI];refine h σ cx _ (a7.wD cI ai ⟨xs++[(cq,v)],rfl,by simp,?_⟩) (s1.g.trans s2.g);rw[List.map_append];exact al.snoc (bf.mono s2.g)
     ·exact h.elim
    ·exact h.elim
  ·exact h.elim
def ou(m:ay):a_:=fun ρ=>(m (eb ρ)).bind fun d=>.ok (.dB d)
theorem N5(h:a6 X F e m):fQ X F (.Return (some e) pos) (ou m):=by
 refine cP.imp (tq h) ?_;rintro b8 σ H ⟨G,ρ,r,h⟩;unfold ou at h;refine⟨_,_,r.plus,?_⟩;cases ak:m (eb ρ)with
 |bad=>rw[ak]at h;exact h.elim
 |exc c=>rw[ak]at h;exact h
 |ok d=>rw[ak,R.bh]at h;exact fun v H' G' aZ s' a=>h v G' H' aZ.aA a
end
mutual
noncomputable def iB:D→Bool
 |.ins _ _ _=>false
 |.tup ds=>i5 ds
 |.lst ds=>i5 ds
 |.bM ds=>i5 ds
 |.cj _ ds=>i5 ds
 |.a4 _ ds=>i5 ds
 |.cM ds=>i5 ds
 |_=>true
noncomputable def i5:List D→Bool
 |[]=>true
 |d::ds=>iB d&&i5 ds
end
def pZ:cJ→Bool
 |.ins _ _ _=>true
 |_=>false
section
variable{K:PySem.W.Frag}{G G':J}
theorem ep.off(h:∀b o,G b=some o→pZ o=false→G' b=some o){a:Addr}{u:cJ}(hu:pZ u=false)(r:ep G a u):ep G' a u:=by
 rcases r with r|⟨o,r⟩
 ·exact .inl (h _ _ r hu)
 ·exact .inr ⟨o,h _ _ r rfl⟩
mutual
theorem At.off(h:∀b o,G b=some o→pZ o=false→G' b=some o):∀{d:D}{v:V},iB d=true→At K G d v→At K G' d v
 |.non,_,_,q=>by simpa only[At]using q
 |.aq _,_,_,q=>by simpa only[At]using q
 |.int _,_,_,q=>by simpa only[At]using q
 |.str _,_,_,q=>by simpa only[At]using q
 |.tup _,_,n,q=>by simp only[At,iB]at q n ⊢;obtain⟨a,xs,e,g,r⟩:=q;exact⟨a,xs,e,h _ _ g rfl,aE.off h n r⟩
 |.lst _,_,n,q=>by simp only[At,iB]at q n ⊢;obtain⟨a,xs,e,g,r⟩:=q;exact⟨a,xs,e,h _ _ g rfl,aE.off h n r⟩
 |.bM _,_,n,q=>by
  simp only[At,iB]at q n ⊢;obtain⟨a,xs,e,g,r⟩:=q;refine⟨a,xs,e,?_,aE.off h n r⟩;rcases g with g|g
  ·exact .inl (ep.off h rfl g)
  ·exact .inr g
 |.cM _,_,n,q=>by
  simp only[At,iB]at q n ⊢;obtain⟨a,xs,e,g,r⟩:=q;refine⟨a,xs,e,?_,aE.off h n r⟩;rcases g with g|g
  ·exact .inl (ep.off h rfl g)
  ·exact .inr g
 |.cj _ _,_,n,q=>by simp only[At,iB]at q n ⊢;obtain⟨a,xs,e,g,k,r⟩:=q;exact⟨a,xs,e,h _ _ g rfl,k,aE.off h n r⟩
 |.a4 _ _,_,n,q=>by simp only[At,iB]at q n ⊢;obtain⟨a,xs,e,g,k,r⟩:=q;exact⟨a,xs,e,h _ _ g rfl,k,aE.off h n r⟩
 |.ins _ _ _,_,n,_=>by simp only[iB]at n;cases n
 |.fl _,_,n,q=>by simp only[At]at q ⊢;obtain⟨a,xs,e,⟨C,bK,g⟩,r⟩:=q;exact⟨a,xs,e,⟨C,bK,h _ _ g rfl⟩,r⟩
theorem aE.off(h:∀b o,G b=some o→pZ o=false→G' b=some o):∀{ds:List D}{vs:List V},i5 ds=true→aE K G ds vs→aE K G' ds vs
 |[],_,_,q=>by simpa only[aE]using q
 |_::_,_,n,q=>by simp only[aE,i5,Bool.and_eq_true]at q n ⊢;obtain⟨v,r,e,a,t⟩:=q;exact⟨v,r,e,At.off h n.1 a,aE.off h n.2 t⟩
end
end
def OC:cS→Bool
 |.aR (.ins _ _ _)=>true
 |.aR _=>false
 |.cW _=>false
 |_=>true
def wL(ρ:ah):Bool:=ρ.all OC
def kQ(m:ay):ay:=fun ρ=>(m (eb ρ)).bind fun d=>if iB d=true∧wL ρ=true then .ok d else .bad
section
variable{F:a3}
open Classical in
noncomputable def iR(H:J)(σ :St)(ρ:ah)(G:J):J:=fun b=>if cy H σ ρ b then none else G b
theorem IH{m:ay}:dq (cc F (kQ m)) (cc F m):=by
 rintro σ H Q ⟨G,ρ,r,h⟩;refine⟨iv σ ρ G H,eb ρ,r.plus,?_⟩;unfold kQ at h;cases ak:m (eb ρ)with
 |bad=>rw[ak]at h;exact h.elim
 |exc c=>rw[ak]at h;exact h
 |ok d=>
  rw[ak,R.bh]at h;intro v H' G' aZ s' a;by_cases hd:iB d=true∧wL ρ=true
  ·rw[if_pos hd]at h;have qH:∀b,cy H σ ρ b→G b=none:=fun b z=>(r.foot z).2.1;have qG:∀b,cy H σ ρ b→F.H0 b=none:=fun b z=>(r.foot z).2.2;have wO:∀b,cy H σ ρ b→∃ho,H b=some ho∧pZ ho=true:=fun b⟨i,s,o,ai,au,f⟩=>by
    have hi:=List.all_eq_true.mp hd.2 _ (List.mem_of_getElem? ai);cases s with
    |un=>exact f.elim
    |av _=>exact f.elim
    |cW _=>cases hi
    |aR aR=>
     have f:o=some (.ref b):=f;obtain⟨c,ho,bB,h1,_,_,h4⟩:=r.obj ai;rw[au,f]at bB;cases bB;cases aR with
     |lst _=>cases hi
     |a4 _ _=>cases hi
     |ins _ _ _=>obtain⟨C,aJ,xs,_,rfl,_⟩:=h4;exact⟨_,h1,rfl⟩
   have off:∀b,¬cy H σ ρ b→iR H σ ρ G' b=G' b:=fun b n=>by unfold iR;rw[if_neg n]
   have on:∀b,cy H σ ρ b→iR H σ ρ G' b=none:=fun b n=>by unfold iR;rw[if_pos n]
   have aY:Sub G (iR H σ ρ G'):=fun b o e=>by
    have n:¬cy H σ ρ b:=fun z=>by rw[qH b z]at e;cases e
    rw[off b n];exact s'.g b o (si r b o e)
   have wh:∀b,cy H σ ρ b→∀o,H b=some o→H' b=some o:=fun b z o e=>aZ.aA.sub _ _ (s'.g _ _ (by rw[mQ z];exact e));have rel:Rel F (iR H σ ρ G') H' σ ρ:=by
    refine r.over rfl ⟨fun b o e=>?_,r.aA.d3.trans aY,aZ.aA.hh,fun b hb=>?_⟩ aY fun b cD=>?_
    ·by_cases n:cy H σ ρ b
     ·rw[on b n]at e;cases e
     ·rw[off b n]at e;exact aZ.aA.sub b o e
    ·have n:¬cy H σ ρ b:=fun z=>hb (qG b z);rw[off b n];exact aZ.aA.new b hb
    ·refine⟨?_,on b cD,qG b cD⟩;cases bz:H b with
     |none=>exact absurd bz (r.foot cD).1
     |some o=>exact wh b cD o bz
   refine h v H' _ rel ⟨aY,s'.h,fun b hb=>?_⟩ (At.off (fun b o e hi=>?_) hd.1 a)
   ·by_cases n:cy H σ ρ b
    ·rw[on b n,qH b n]
    ·rw[off b n,s'.n b hb];unfold iv;rw[if_neg n]
   ·have n:¬cy H σ ρ b:=fun z=>by
      obtain⟨ho,ai,au⟩:=wO b z;have:=s'.g b ho (by rw[mQ z];exact ai);rw[e]at this;cases this;rw[hi]at au;cases au
    rw[off b n];exact e
  ·rw[if_neg hd]at h;exact h.elim
abbrev gX:=ah→R ah
noncomputable def J1(F:a3)(σ :St)(b8:Ends):R ah→Prop
 |.ok bo=>∀G' H',Rel F G' H' σ bo→b8.bj σ H'
 |.exc c=>hY F c
 |.bad=>False
def nj(F:a3)(m:gX):dR:=fun b8 σ H=>∃G ρ,Rel F G H σ ρ∧J1 F σ b8 (m ρ)
def jx(a b:gX):gX:=fun ρ=>(a ρ).bind b
theorem Jk{a b:gX}:gx (nj F (jx a b)) (xU (nj F a) (nj F b)):=by
 rintro b8 σ H ⟨G,ρ,r,h⟩;unfold jx at h;refine⟨G,ρ,r,?_⟩;cases ak:a ρ with
 |bad=>rw[ak]at h;exact h.elim
 |exc c=>rw[ak]at h;exact h
 |ok dI=>rw[ak,R.bh]at h;exact fun G' H' aZ=>⟨G',dI,aZ,h⟩
theorem wY{f:Str}{v:V}:∀{aK:List (Str×V)},(aK.map (·.1)).all (fun k=>!(f==k))=true→fK f v aK=aK++[(f,v)]
 |[],_=>rfl
 |(g,x)::aK,h=>by
  simp only[List.map_cons,List.all_cons,Bool.and_eq_true,Bool.not_eq_true']at h;have ne:g≠f:=fun z=>by subst z;simp at h
  rw[fK,if_neg ne,wY (by simpa using h.2)];rfl
noncomputable def iy(a0 f:Str)(m:ay):gX:=fun ρ=>(m ρ).bind fun d=>match(ρ[0]? :Option cS)with
 |some (.aR (.ins d_ ns ds))=>if d_=a0∧ns.all (fun k=>!(f==k))=true∧ns.length<1000 then .ok (ρ.set 0 (.aR (.ins a0 (ns++[f]) (ds++[d]))))else .bad
 |_=>.bad
end
section
variable{X:aC}{F:a3}{e o:Expr}{pos:Pos}{m:ay}
theorem Gn(h:a6 X F e m):a6 X F e (kQ m):=aP.imp h IH
theorem NW{a0 f x:Str}{aK:List Str}{bA pos':Pos}(k:o4 X.K a0 aK)(he:a6 X F e m)(hf:f∈aK:=by decide+kernel)(hN:X.N[0]?=some x:=by rfl)(hv:fh X.env.scope x:=by first|exact Or.inl rfl|exact Or.inr (Or.inl rfl)|exact Or.inr (Or.inr rfl))(hd:(x==("__debug__" :Str))=false:=by decide)(hcd:(x==("__classdict__" :Str))=false:=by decide)(hs:i8 e=true:=by rfl)(hK:F.K=X.K:=by rfl) :
  cP X (.Assign [.Attribute (.Name x bA) f pos'] e pos) (nj F (iy a0 f m)):=by
 refine cP.imp (MS (jA hN hv hd hcd) he (jG _ _ _ _ hs)) ?_;rintro b8 σ H ⟨G,ρ,r,h⟩;unfold iy at h;refine⟨G,ρ,r,?_⟩;cases ak:m ρ with
 |bad=>rw[ak]at h;exact h.elim
 |exc c=>rw[ak]at h;exact h
 |ok d=>
  rw[ak,R.bh]at h;intro v H1 aL ao s1 bf
  split at h
  ·rename_i d_ ns ds cI
   split at h
   ·rename_i hc;obtain⟨rfl,iY,HM⟩:=hc;obtain⟨q,ho,ai,h1,h2,h3,C,aJ,xs,bK,rfl,rfl,al⟩:=ao.obj cI;obtain⟨gT,k1,k2,k3⟩:=k.ex;rw[hK]at bK;have:=bK.inj k1;subst this;refine⟨.ref q,ai,q,C,aJ,xs,rfl,h1,k2,k3 f hf,by simpa using HM,?_⟩;refine h aL _ (ao.wD cI ai ⟨C,aJ,fK f v xs,by rw[hK];exact bK,rfl,?_,?_⟩)
    ·rw[wY iY];simp
    ·rw[wY iY,List.map_append];exact al.snoc bf
   ·exact h.elim
  ·exact h.elim
end
noncomputable def qi(a0:Str)(n:Nat)(mf:List D→R (List Str×List D))(ma:aN):ay:=fun ρ=>(ma ρ).bind fun ds=>if ds.length=n then(ef (mf ds)).bind fun x=>.ok (.ins a0 x.1 x.2)else .bad
section
variable{X:aC}{F:a3}{e:Expr}{af:List Expr}{pos p:Pos}{ma:aN}
end
def g9(a0:Str)(af:List D):ah:=.aR (.ins a0 [] [])::af.map .av
theorem Nz{K:PySem.W.Frag}{G H:J}{eR:Str→J→Prop}{a0:Str}{C aJ x:Addr}{af:List D}{ws:List V}(fG:dP K a0 C)(h1:H x=some (.ins C aJ []))(h2:G x=none)(s:Sub G H)(bf:aE K G af ws) :
  Rel ⟨K,G,del H x,eR⟩ G H (some (.ref x)::ws.map some) (g9 a0 af):=by
 refine⟨⟨s,Sub.refl _,va H x,fun _ _=>rfl⟩,by simp[g9,bf.length],fun i t e=>?_,fun i j b aK Ad o bw a8 aX _ _ f sb=>?_⟩
 ·cases i with
  |zero=>simp[g9]at e;subst e;exact⟨some (.ref x),by simp,x,_,rfl,h1,h2,FZ,C,aJ,[],fG,rfl,rfl,.nil⟩
  |succ i=>
   simp only[g9,List.getElem?_cons_succ]at e ⊢;rw[List.getElem?_map]at e;cases eW:af[i]? with
   |none=>rw[eW]at e;cases e
   |some d=>rw[eW]at e;cases e;obtain⟨v,ai,a⟩:=bf.get eW;exact⟨some v,by rw[List.getElem?_map,ai];rfl,v,rfl,a⟩
 ·have one:∀{i:Nat}{aK:cS}{o:Option V},(g9 a0 af)[i]?=some aK→eS H aK o b→i=0:=fun{i aK o} e f=>by
    cases i with
    |zero=>rfl
    |succ i=>
     simp only[g9,List.getElem?_cons_succ,List.getElem?_map]at e;cases eW:af[i]? with
     |none=>rw[eW]at e;cases e
     |some d=>rw[eW]at e;cases e;exact f.elim
  rw[one a8 f,one aX sb]
end az
namespace az
open PySem PySem.Spec aV PyProof.Rows
theorem OP{N:List Str}{vs:List V}(h:vs.length=N.length):aV.start N vs=vs.map some:=by unfold aV.start;simp[h]
theorem K8{P:Program}{w:World}{K:PySem.W.Frag}{mg:Str→Option Value}{base:Heap}{x qual a0 i_:Str}{st:Stmt}{N aD:List Str}{k:Nat}{m:a_}{C f:Addr}{fd:FuncData}(fn:jO K x qual st f fd)(fG:dP K a0 C)(hc:hI K C)(hm:Meth K C x f)(hb:Binds K fd (i_::aD) [])(S:c0 N (i_::aD) (bX st))(h:∀(f:Addr)(bO:Value)(A:Around)(outer:List Env)(s:Shared)(H:J)(E:cn),cK k (A.deeper (PyProof.Rows.envOfC qual (bX st) s.heap.objs.size f bO))→∀G0 H0,hO (dt gU P w K mg base N qual (bX st) f bO A outer s H E).fs (dT K G0 H0) (eU st) m) :
  iJ P w K mg base a0 x aD.length (k+1) (c_ N.length m):=by
 refine⟨C,f,fd,i_::aD,fG,hc,hm,fn.ok S tG fun bO A outer s H vs Q E hr hs=>?_,hb⟩;obtain⟨G,ht⟩:=rV hs;exact⟨_,(h f bO A outer s H E hr G H).1,ht⟩
section
variable{X:aC}{F:a3}{e a b c:Expr}{af:List Expr}{pos p:Pos}{m n:ay}{ma:aN}
noncomputable def jI:List D→R D
 |[.lst xs]=>.ok (.tup xs)
 |[.bM xs]=>.ok (.tup xs)
 |[.tup xs]=>.ok (.tup xs)
 |_=>.bad
theorem LQ(hK:F.K=X.K):nD F (fun xs H Q=>∃p ys,xs=[.ref p]∧((bx X.K H p ys∧∀l,H l=none→Q (.ref l) (upd H l (.tup ys)))∨(cB X.K H p ys∧Q (.ref p) H))) jI:=by
 intro σ ρ G H xs ds Q r al k;unfold jI at k
 split at k
 ·obtain⟨v,rfl,bf⟩:=al.one;simp only[At]at bf;obtain⟨q,ys,rfl,aH,fC⟩:=bf;refine⟨q,ys,rfl,.inl ⟨bx.of (r.aA.sub _ _ aH),fun l hl=>?_⟩⟩;refine k (.ref l) _ _ (r.lay hl) (bQ.lay r.aA.sub hl) ?_;simp only[At];exact⟨l,ys,rfl,c3,fC.mono (Sub.upd (r.aA.sub.gone hl))⟩
 ·obtain⟨v,rfl,bf⟩:=al.one;simp only[At]at bf;obtain⟨q,ys,rfl,aH,fC⟩:=bf;refine⟨q,ys,rfl,.inl ⟨by rw[←hK];exact bx.mono r.aA.sub aH,fun l hl=>?_⟩⟩;refine k (.ref l) _ _ (r.lay hl) (bQ.lay r.aA.sub hl) ?_;simp only[At];exact⟨l,ys,rfl,c3,fC.mono (Sub.upd (r.aA.sub.gone hl))⟩
 ·obtain⟨v,rfl,bf⟩:=al.one;have Fb:=bf;simp only[At]at bf;obtain⟨q,ys,rfl,aH,fC⟩:=bf;exact⟨q,ys,rfl,.inr ⟨cB.of (r.aA.sub _ _ aH),k _ H G r (bQ.refl _ _) Fb⟩⟩
 ·exact k.elim
theorem GX(hm:X.mg "tuple"=none)(ha:gw X F [e] ma)(hK:F.K=X.K:=by rfl)(hg:cA X "tuple":=by rfl)(he:starEach [e] X.env=(false,eval e X.env)::starEach [] X.env:=by rfl)(hpl:(backTo pos (starEach [] X.env)).any (·.1)=false:=by rfl) :
  a6 X F (.Call (.Name "tuple" p) [e] [] pos) (cU jI ma):=Gq Fv (LQ hK) hm (by kernel_rfl) ha hg (by decide) (by decide) he hpl
end
end az
namespace dm
open PySem PyProof.Rows
section
variable{prog:Program}{w:World}{A:Around}{E:Value→Shared→Prop}{s:Shared}
end
end dm
namespace aV
open PySem PySem.Spec PyProof.Rows
variable{X:aC}
end aV
namespace az
open PySem PySem.Spec aV PyProof.Rows
section
variable{X:aC}{F:a3}{e a b c:Expr}{af:List Expr}{pos p:Pos}{m n:ay}{ma:aN}
instance(i j:Int):Decidable (IntMulOk i j):=by unfold IntMulOk;infer_instance
end
section
variable{X:aC}{F:a3}{e a b c:Expr}{af:List Expr}{pos p:Pos}{m n:ay}{ma:aN}
noncomputable def BA(i:Nat)(m:ay):aN:=fun ρ=>(ownAt i ρ).bind fun ds=>(m ρ).bind fun d=>match d with
 |.lst af=>if ds.length+af.length≤1000000 then .ok (ds++af)else .bad
 |_=>.bad
end
end az
namespace az
open PySem PySem.Spec aV
section
variable{X:aC}{F:a3}{e a b c o bF iter elt:Expr}{af:List Expr}{pos p:Pos}{m n:ay}{ma:aN}{st:Stmt}{k4:List Stmt}
theorem iF{a0 f:Str}{aK:List Str}(k:o4 X.K a0 aK)(he:aW X F o m)(hf:f∈aK:=by decide+kernel)(hK:F.K=X.K:=by rfl)(hb:attributeBase o f X.env (eval o X.env)=eval o X.env:=by rfl):aW X F (.Attribute o f pos) (bW (c8 a0 f) m):=⟨az.Gx (k:=k) (he:=he.1) (hf:=hf) (hK:=hK) (hb:=hb)⟩
theorem l7 {a0 mt:Str} {n k:Nat} {mf:List D→R b0} {pl:Sem Bool} {apos:Pos} (c:iJ X.prog X.w X.K X.mg X.base a0 mt n k mf) (hr:cK k X.A) (he:aW X F o m) (ha:fi X F (e::af) ma) (hE:F.eR=fun _ _=>False:=by rfl) (hK:F.K=X.K:=by rfl) (hst:starEach (e::af) X.env=(false,eval e X.env)::starEach af X.env:=by rfl) (hpl:(backTo pos (starEach af X.env)).any (·.1)=false:=by rfl) (ht:eval (.Call (.Attribute o mt apos) (e::af) [] pos) X.env=(do
   let cR ←eval o X.env
   standAt apos.atName
   let(f,first) ←holding [cR] (getMethod cR mt pl)
   callWith pos f first (backTo pos (starEach (e::af) X.env)) (backToKw pos (keywordEach [] X.env))):=by rfl):aW X F (.Call (.Attribute o mt apos) (e::af) [] pos) (fU a0 mt n mf m ma):=⟨az.GH (c:=c) (hr:=hr) (he:=he.1) (ha:=ha.1) (hE:=hE) (hK:=hK) (hst:=hst) (hpl:=hpl) (ht:=ht)⟩
theorem Eg(hu:X.A.units+64<cLine)(ha:aW X F a m)(hb:aW X F b n)(h1:behindInMarks .NotIn b=false:=by with_unfolding_all rfl):aW X F (.Compare a [.NotIn] [b] pos) (aB (d0 false) m n):=⟨az.Gu (hu:=hu) (ha:=ha.1) (hb:=hb.1) (h1:=h1)⟩
theorem Ew(hu:X.A.units+64<cLine)(ha:aW X F a m)(hb:aW X F b n)(h1:behindInMarks .In b=false:=by with_unfolding_all rfl):eK X F (.Compare a [.In] [b] pos) (bV (aB (d0 true) m n)):=⟨az.O5 (hu:=hu) (ha:=ha.1) (hb:=hb.1) (h1:=h1)⟩
theorem Ex(hu:X.A.units+64<cLine)(ha:aW X F a m)(hb:aW X F b n)(h1:behindInMarks .NotIn b=false:=by with_unfolding_all rfl):eK X F (.Compare a [.NotIn] [b] pos) (bV (aB (d0 false) m n)):=⟨az.O6 (hu:=hu) (ha:=ha.1) (hb:=hb.1) (h1:=h1)⟩
theorem Es(i:Nat){x:Str}{p q:Pos}(hN:X.N.Nodup)(hi:X.N[i]?=some x:=by rfl)(hx:Loc X.env.scope x:=by first|exact Or.inl rfl|exact Or.inr rfl)(hf:X.fn x=true∨X.env.scope.names.lookup x=some .local:=by first|exact .inl rfl|exact .inr rfl):dS X F (.Assign [.Name x p] (.Dict [] [] q) pos) (lP i):=⟨az.N7 (i:=i) (hN:=hN) (hi:=hi) (hx:=hx) (hf:=hf)⟩
theorem ua(i:Nat){x:Str}{bA pos':Pos}{k v:Expr}{mk mv:ay}(hu:X.A.units+64<cLine)(hk:aW X F k mk)(hv:aW X F v mv)(hN:X.N[i]?=some x:=by rfl)(hvs:fh X.env.scope x:=by first|exact Or.inl rfl|exact Or.inr (Or.inl rfl)|exact Or.inr (Or.inr rfl))(hd:(x==("__debug__" :Str))=false:=by decide)(hcd:(x==("__classdict__" :Str))=false:=by decide)(hs:i8 v=true:=by rfl):dS X F (.Assign [.Subscript (.Name x bA) k pos'] v pos) (hZ i mk mv):=⟨az.NU (i:=i) (hu:=hu) (hk:=hk.1) (hv:=hv.1) (hN:=hN) (hvs:=hvs) (hd:=hd) (hcd:=hcd) (hs:=hs)⟩
theorem Qr(h:aW X F e m):dS X F (.Return (some e) pos) (ou m):=⟨az.N5 (h:=h.1)⟩
theorem PY(h:aW X F e m):aW X F e (kQ m):=⟨az.Gn (h:=h.1)⟩
theorem t7(hm:X.mg "tuple"=none)(ha:fi X F [e] ma)(hK:F.K=X.K:=by rfl)(hg:cA X "tuple":=by rfl)(he:starEach [e] X.env=(false,eval e X.env)::starEach [] X.env:=by rfl)(hpl:(backTo pos (starEach [] X.env)).any (·.1)=false:=by rfl):aW X F (.Call (.Name "tuple" p) [e] [] pos) (cU jI ma):=⟨az.GX (hm:=hm) (ha:=ha.1) (hK:=hK) (hg:=hg) (he:=he) (hpl:=hpl)⟩
structure rL(X:aC)(F:a3)(st:Stmt)(m:gX):Prop where
 o:cP X st (nj F m)
structure rK(X:aC)(F:a3)(st:List Stmt)(m:gX):Prop where
 o:eT X st (nj F m)
theorem Qj{m:gX}(h:rL X F st m):rK X F [st] m:=⟨wX h.1⟩
theorem rn{a b:gX}(h:rL X F st a)(k:rK X F k4 b):rK X F (st::k4) (jx a b):=⟨eT.imp (Cu h.1 k.1) Jk⟩
theorem t_{a0 f x:Str}{aK:List Str}{bA pos':Pos}(k:o4 X.K a0 aK)(he:aW X F e m)(hf:f∈aK:=by decide+kernel)(hN:X.N[0]?=some x:=by rfl)(hv:fh X.env.scope x:=by first|exact Or.inl rfl|exact Or.inr (Or.inl rfl)|exact Or.inr (Or.inr rfl))(hd:(x==("__debug__" :Str))=false:=by decide)(hcd:(x==("__classdict__" :Str))=false:=by decide)(hs:i8 e=true:=by rfl)(hK:F.K=X.K:=by rfl) :
  rL X F (.Assign [.Attribute (.Name x bA) f pos'] e pos) (iy a0 f m):=⟨az.NW k he.1 hf hN hv hd hcd hs hK⟩
end
structure lr(K:PySem.W.Frag)(a0 x qual:Str)(st:Stmt)(aD:List Str):Prop where
 ex:∃(C f:Addr)(fd:FuncData),dP K a0 C∧hI K C∧Meth K C x f∧jO K x qual st f fd∧Binds K fd aD []
structure InK(K:PySem.W.Frag)(mg:Str→Option Value)(a0 qual:Str)(st:Stmt)(aD:List Str):Prop where
 ex:∃(C f:Addr)(fd:FuncData),dP K a0 C∧pa K C f∧jO K "__init__" qual st f fd∧mg a0=some (.ref C)∧Binds K fd aD []
theorem oY{P:Program}{w:World}{K:PySem.W.Frag}{mg:Str→Option Value}{base:Heap}{x qual a0 i_:Str}{st:Stmt}{N aD:List Str}{k:Nat}{m:a_}(d:lr K a0 x qual st (i_::aD))(S:c0 N (i_::aD) (bX st))(h:∀(f:Addr)(bO:Value)(A:Around)(outer:List Env)(s:Shared)(H:J)(E:cn),cK k (A.deeper (PyProof.Rows.envOfC qual (bX st) s.heap.objs.size f bO))→∀G0 H0,hO (dt gU P w K mg base N qual (bX st) f bO A outer s H E).fs (dT K G0 H0) (eU st) m) :
  iJ P w K mg base a0 x aD.length (k+1) (c_ N.length m):=by
 obtain⟨C,f,fd,h1,h2,h3,h4,h5⟩:=d.ex;exact K8 h4 h1 h2 h3 h5 S h
end az
namespace az
open PySem PySem.Spec aV PyProof.Rows
section
variable{K:PySem.W.Frag}{G G' H H':J}
theorem bH.nil:bH K G H [] []:=by simp only[bH]
theorem bH.cons{t:T}{ts:List T}{v:V}{vs:List V}(h:b9 K G H t v)(k:bH K G H ts vs):bH K G H (t::ts) (v::vs):=by simp only[bH];exact⟨v,vs,rfl,h,k⟩
theorem bH.length:∀{ts:List T}{vs:List V},bH K G H ts vs→ts.length=vs.length
 |[],_,h=>by simp only[bH]at h;subst h;rfl
 |_::_,_,h=>by simp only[bH]at h;obtain⟨v,r,rfl,_,t⟩:=h;simp[bH.length t]
theorem tS:∀{ts:List T}{vs:List V}{i:Nat}{t:T},bH K G H ts vs→ts[i]?=some t→∃v,vs[i]?=some v∧b9 K G H t v
 |[],_,_,_,_,e=>by simp at e
 |_::_,_,0,_,h,e=>by simp only[bH]at h;obtain⟨v,r,rfl,q,t⟩:=h;simp at e;subst e;exact⟨v,by simp,q⟩
 |_::_,_,i+1,d,h,e=>by simp only[bH]at h;obtain⟨v,r,rfl,q,t⟩:=h;obtain⟨u,h1,h2⟩:=tS (i:=i) (t:=d) t (by simpa using e);exact⟨u,by simpa using h1,h2⟩
theorem bH.append:∀{ts us:List T}{vs ws:List V},bH K G H ts vs→bH K G H us ws→bH K G H (ts++us) (vs++ws)∧cE H (ts++us) (vs++ws)=cE H ts vs++cE H us ws
 |[],_,_,_,h,t=>by simp only[bH]at h;subst h;exact⟨t,by rw[lH];rfl⟩
 |_::_,_,_,_,h,t=>by simp only[bH]at h;obtain⟨v,r,rfl,q,s⟩:=h;obtain⟨h1,h2⟩:=bH.append s t;exact⟨.cons q h1,by rw[List.cons_append,List.cons_append,fR,fR,h2,List.append_assoc]⟩
theorem DC:∀{ds:List D}{xs:List V},aE K G ds xs→bH K G H (ds.map T.av) xs∧cE H (ds.map T.av) xs=[]
 |[],_,h=>by simp only[aE]at h;subst h;exact⟨.nil,lH⟩
 |_::_,_,h=>by simp only[aE]at h;obtain⟨v,r,rfl,q,t⟩:=h;obtain⟨h1,h2⟩:=DC t;exact⟨.cons (by simp only[b9];exact q) h1,by rw[List.map_cons,fR,h2];simp only[aU,List.append_nil]⟩
theorem vw:∀{ts:List T}{xs:List V}{k:Nat}{t:T}{v:V}{b:Addr},ts[k]?=some t→xs[k]?=some v→b∈aU H t v→b∈cE H ts xs
 |[],_,_,_,_,_,e,_,_=>by simp at e
 |_::_,[],_,_,_,_,_,e,_=>by simp at e
 |_::_,_::_,0,_,_,_,ai,au,h=>by simp at ai au;subst ai au;rw[fR];exact List.mem_append_left _ h
 |_::_,_::_,k+1,_,_,_,ai,au,h=>by rw[fR];exact List.mem_append_right _ (vw (by simpa using ai) (by simpa using au) h)
theorem DE{us us':List T}{q:Addr}{ys ys':List V}(aH:H q=some (.lst ys))(n:bH K G H us' ys')(f:cE H us' ys'=cE H us ys):∀{ts:List T}{xs:List V}{k:Nat},bH K G H ts xs→(cE H ts xs).Nodup→ts[k]?=some (.lst us)→xs[k]?=some (.ref q)→
  bH K G (upd H q (.lst ys')) (ts.set k (.lst us')) xs∧cE (upd H q (.lst ys')) (ts.set k (.lst us')) xs=cE H ts xs
 |[],_,_,_,_,e,_=>by simp at e
 |t::ts,_,k,h,br,ai,au=>by
  simp only[bH]at h;obtain⟨v,r,rfl,h1,h2⟩:=h;rw[fR]at br ⊢;obtain⟨ta,qA,wF⟩:=List.nodup_append.mp br;cases k with
  |zero=>
   simp at ai au;subst ai au;have hS:aU H (.lst us) (.ref q)=q::cE H us ys:=g6 aH;rw[hS]at ta wF ⊢;have fq:q∉cE H us ys:=(List.nodup_cons.mp ta).1;have dv:q∉cE H ts r:=fun z=>wF q (by simp) q z rfl;obtain⟨dH,dV⟩:=n.keep (H':=upd H q (.lst ys')) fun b hb=>cf fun z=>fq (by rw[←z,←f];exact hb);obtain⟨hG,ya⟩:=h2.keep (H':=upd H q (.lst ys')) fun b hb=>cf fun z=>dv (by rw[←z];exact hb);refine⟨.cons ?_ hG,?_⟩
   ·simp only[b9];exact⟨q,ys',rfl,c3,dH⟩
   ·rw[List.set_cons_zero,fR,g6 c3,dV,ya,f]
  |succ k=>simp only[List.getElem?_cons_succ]at ai au;have s7:q∈cE H ts r:=vw ai au (by rw[g6 aH];simp);have fq:q∉aU H t v:=fun z=>wF q z q s7 rfl;obtain⟨dH,dV⟩:=h1.J7 (o:=.lst ys') fq;obtain⟨hG,ya⟩:=DE aH n f h2 qA ai au;exact⟨.cons dH hG,by rw[List.set_cons_succ,fR,dV,ya]⟩
end
section
variable{F:a3}{G H:J}{σ :aV.St}{ρ:ah}
theorem Rel.BL(r:Rel F G H σ ρ){i k:Nat}{ts us us':List T}{a q:Addr}{xs ys ys':List V}(e:ρ[i]?=some (.cW (.lst ts)))(ai: σ[i]?=some (some (.ref a)))(ha:H a=some (.lst xs))(dc:ts[k]?=some (.lst us))(ex:xs[k]?=some (.ref q))(aH:H q=some (.lst ys))(n:bH F.K G H us' ys')(f:cE H us' ys'=cE H us ys):Rel F G (upd H q (.lst ys')) σ (ρ.set i (.cW (.lst (ts.set k (.lst us'))))):=by
 obtain⟨v,au,dH,dV,hG⟩:=r.tree e;rw[ai]at au;cases au;simp only[b9]at dH;obtain⟨kr,fe,ak,iX,wl⟩:=dH;cases ak;rw[ha]at iX;cases iX;have hS:aU H (.lst ts) (.ref a)=a::cE H ts xs:=g6 ha;rw[hS]at dV hG;obtain⟨ta,qA⟩:=List.nodup_cons.mp dV;have s7:q∈cE H ts xs:=vw dc ex (by rw[g6 aH];simp);have na:a≠q:=fun z=>ta (by rw[z];exact s7);obtain⟨hA,bJ⟩:=DE aH n f wl qA dc ex;have Al:upd H q (.lst ys') a=some (.lst xs):=by rw[cf na];exact ha
 have vh:aU (upd H q (.lst ys')) (.lst (ts.set k (.lst us'))) (.ref a)=a::cE H ts xs:=by rw[g6 Al,bJ]
 refine r.BM e ai (a:=q) ⟨.ref a,rfl,by rw[hS];exact List.mem_cons_of_mem _ s7⟩ ⟨.ref a,rfl,⟨?_,?_,?_⟩⟩ fun b kC=>.inl ?_
 ·simp only[b9];exact⟨a,xs,rfl,Al,hA⟩
 ·rw[vh];exact dV
 ·rw[vh];exact hG
 ·obtain⟨u,mK,hb⟩:=kC;cases mK;rw[vh,←hS]at hb;exact⟨.ref a,rfl,hb⟩
end
structure rJ(X:aC)(F:a3)(e:Expr)(m:gY):Prop where
 o:aP X e (q7 F m)
section
variable{X:aC}{F:a3}{e a b c bF iter elt:Expr}{af:List Expr}{pos p:Pos}{m n:ay}{ma:aN}
theorem Qu(i:Nat){x:Str}{p:Pos}{m:gY}(hN:X.N.Nodup)(he:rJ X F e m)(hi:X.N[i]?=some x:=by rfl)(hx:Loc X.env.scope x:=by first|exact Or.inl rfl|exact Or.inr rfl)(hs:i8 e=true:=by rfl)(hf:X.fn x=true∨X.env.scope.names.lookup x=some .local:=by first|exact .inl rfl|exact .inr rfl):dS X F (.Assign [.Name x p] e pos) (qk i m):=⟨cP.imp (qN hN hi hx he.1 (jG _ _ _ _ hs) hf) Ji⟩
def jb(i:Nat)(ρ:ah):R (List T):=match ρ[i]? with
 |some (.cW (.lst ts))=>.ok ts
 |_=>.bad
theorem DH{i:Nat}{ρ:ah}{ts:List T}(h:jb i ρ=.ok ts):ρ[i]?=some (.cW (.lst ts)):=by
 unfold jb at h
 split at h
 ·rename_i e;cases h;exact e
 ·cases h
theorem DG{i:Nat}{ρ:ah}{c:Str}(h:jb i ρ=.exc c):False:=by
 unfold jb at h
 split at h<;>cases h
theorem Rel.root{G H:J}{σ :aV.St}{ρ:ah}(r:Rel F G H σ ρ){i:Nat}{ts:List T}(e:ρ[i]?=some (.cW (.lst ts))):∃a xs,σ[i]?=some (some (.ref a))∧H a=some (.lst xs)∧bH F.K G H ts xs∧(cE H ts xs).Nodup:=by obtain⟨v,au,dH,dV,hG⟩:=r.tree e;simp only[b9]at dH;obtain⟨a,xs,rfl,ha,wl⟩:=dH;rw[g6 ha]at dV;exact⟨a,xs,au,ha,wl,(List.nodup_cons.mp dV).2⟩
end
end az
namespace az
open PySem PySem.Spec aV
def gk(ds:List D):T:=.lst (ds.map T.av)
section
variable{F:a3}
end
section
variable{X:aC}{F:a3}{e a b c bF iter elt:Expr}{af:List Expr}{pos p:Pos}{m n:ay}{ma:aN}{scope:Scope}{N:List Str}
end
section
variable{F:a3}
end
section
variable{X:aC}{F:a3}{e a b c o:Expr}{af:List Expr}{pos p:Pos}{m n:ay}{ma:aN}
noncomputable def findD(ks:List (List Key))(ds:List D)(cq:List Key):Option D:=((ks.zip ds).find? fun p=>decide (p.1=cq)).map (·.2)
theorem z9{K:PySem.W.Frag}{G:J}(cq:List Key):∀{ds:List D}{xs:List (List Key×V)},aE K G ds (xs.map (·.2))→match findD (xs.map (·.1)) ds cq with
  |some d=>∃v,fa xs cq=some v∧At K G d v
  |none=>fa xs cq=none
 |[],xs,h=>by
  simp only[aE]at h;have:xs=[]:=by simpa using h
  subst this;rfl
 |d::ds,[],h=>by simp only[aE,List.map_nil]at h;obtain⟨v,r,e,_⟩:=h;cases e
 |d::ds,(k,v)::xs,h=>by
  simp only[aE,List.map_cons]at h;obtain⟨iE,r,e,a,t⟩:=h;cases e;have ck:=z9 (K:=K) (G:=G) cq (ds:=ds) (xs:=xs) t;unfold findD fa at ck ⊢;simp only[List.map_cons,List.zip_cons_cons,List.find?_cons];by_cases hk:k=cq
  ·simp only[hk,decide_true,Option.map_some];exact⟨v,rfl,a⟩
  ·simp only[hk,decide_false];exact ck
noncomputable def oh(m n:ay):ay:=fun ρ=>(m ρ).bind fun d=>match d with
 |.a4 ks ds=>(n ρ).bind fun k=>match lM k with
  |some cq=>.ok ((findD ks ds cq).getD .non)
  |none=>.bad
 |_=>.bad
theorem IQ:dq (cc F (oh m n)) (Dj (cc F m) (cc F n)):=by
 rintro σ H Q ⟨G,ρ,r,h⟩;unfold oh at h;refine⟨G,ρ,r,?_⟩;cases ak:m ρ with
 |bad=>rw[ak]at h;exact h.elim
 |exc c=>rw[ak]at h;exact h
 |ok dd=>
  rw[ak,R.bh]at h;intro x H1 aL ao s1 bu;cases dd with
  |a4 ks ds=>
   simp only at h;simp only[At]at bu;obtain⟨a,xs,rfl,hg,rfl,al⟩:=bu;refine⟨a,rfl,.inr ⟨xs,.inl (ao.aA.sub _ _ hg)⟩,aL,ρ,ao,?_⟩;cases bz:n ρ with
   |bad=>rw[bz]at h;exact h.elim
   |exc c=>rw[bz]at h;exact h
   |ok mG=>
    rw[bz,R.bh]at h;intro y aQ cx a7 s2 cC;cases dc:lM mG with
    |none=>rw[dc]at h;exact h.elim
    |some cq=>
     rw[dc]at h;simp only at h;obtain⟨q,rfl,aH⟩:=wj dc cC;refine⟨fa xs cq,jh.t (a7.aA.sub _ _ (s2.g _ _ hg)) (a7.aA.sub _ _ aH),?_⟩;have f:=z9 (K:=F.K) (G:=aL) cq al;cases hS:findD (xs.map (·.1)) ds cq with
     |none=>rw[hS]at f h;rw[show fa xs cq=none from f];exact h .non aQ cx a7 (s1.trans s2) (by simp only[Option.getD_none,At])
     |some d=>rw[hS]at f h;obtain⟨v,ev,bf⟩:=f;rw[ev];exact h v aQ cx a7 (s1.trans s2) (bf.mono s2.g)
  |_=>exact h.elim
theorem Ef {apos cpos:Pos} (hu:X.A.units+64<cLine) (ho:aW X F o m) (he:aW X F e n) (h1:attributeBase o "get" X.env (eval o X.env)=eval o X.env:=by rfl)(h2:((backTo cpos (starEach [e] X.env)).all (fun x=>!x.1)&&(backToKw cpos (keywordEach [] X.env)).all (fun x=>x.1.isSome)
  &&decide (([e]:List Expr).length+([]:List Keyword).length+(if([]:List Keyword).isEmpty then 0 else 1)<30))=true:=by rfl) (h3:(apos.endLine==cpos.line)=true:=by rfl) (h4:backTo cpos (starEach [e] X.env)=[(false,eval e X.env)]:=by rfl) :
  aW X F (.Call (.Attribute o "get" apos) [e] [] cpos) (oh m n):=⟨aP.imp (Mo (by omega) ho.1 he.1 ⟨h1,h2,h3,h4⟩) IQ⟩
end
def yd(K:PySem.W.Frag):cn→Str→J→Prop:=fun E c H=>∃C,dP K c C∧∀a,H a=none→E (.ref C) (some a) H
def e9(K:PySem.W.Frag)(G H:J)(E:cn):a3:=⟨K,G,H,yd K E⟩
theorem Rel.hR{F F':a3}{G H:J}{σ :aV.St}{ρ:ah}(r:Rel F G H σ ρ)(hK:F'.K=F.K)(h0:F'.G0=F.G0)(h1:F'.H0=F.H0):Rel F' G H σ ρ:=
 r.over hK ⟨r.aA.sub,by rw[h0];exact r.aA.d3,by rw[h1];exact r.aA.hh,fun b hb=>by rw[h1]at hb;rw[h0];exact r.aA.new b hb⟩ (Sub.refl _) fun a ha=>⟨rfl,(r.foot ha).2.1,by rw[h1];exact(r.foot ha).2.2⟩
def i7(m:bN):bN:=fun ρ=>ef (m ρ)
def i6(m:a_):a_:=fun ρ=>ef (m ρ)
def lU(m:aN):aN:=fun ρ=>ef (m ρ)
section
variable{K:PySem.W.Frag}{G0 H0:J}{E:cn}
theorem Kz{m:bN}:km (e1 (e9 K G0 H0 E) (i7 m)) (e1 (dT K G0 H0) m):=by
 rintro σ H Q ⟨G,ρ,r,h⟩;unfold i7 at h;refine⟨G,ρ,r.hR rfl rfl rfl,?_⟩;cases e:m ρ with
 |bad=>rw[e]at h;exact h.elim
 |exc c=>rw[e]at h;exact h.elim
 |ok b=>rw[e]at h;exact fun H' G' aZ u=>h H' G' (aZ.hR rfl rfl rfl) u
theorem Kw{m:aN}:nF (dE (e9 K G0 H0 E) (lU m)) (dE (dT K G0 H0) m):=by
 rintro σ H Q ⟨G,ρ,r,h⟩;unfold lU at h;refine⟨G,ρ,r.hR rfl rfl rfl,?_⟩;cases e:m ρ with
 |bad=>rw[e]at h;exact h.elim
 |exc c=>rw[e]at h;exact h.elim
 |ok b=>rw[e]at h;exact fun vs H' G' aZ u a=>h vs H' G' (aZ.hR rfl rfl rfl) u a
theorem dF.hR{F F':a3}{G H:J}(k:dF F G H)(h0:F'.G0=F.G0)(h1:F'.H0=F.H0):dF F' G H:=⟨k.sub,by rw[h0];exact k.d3,by rw[h1];exact k.hh,fun b hb=>by rw[h1]at hb;rw[h0];exact k.new b hb⟩
theorem Ky{m:a_}:gx (ej (e9 K G0 H0 E) (i6 m)) (ej (dT K G0 H0) m):=by
 rintro b8 σ H ⟨G,ρ,r,h⟩;unfold i6 at h;refine⟨G,ρ,r.hR rfl rfl rfl,?_⟩;cases e:m ρ with
 |bad=>rw[e]at h;exact h.elim
 |exc c=>rw[e]at h;exact h.elim
 |ok f=>
  rw[e]at h;cases f with
  |bj bo=>exact fun σ' G' H' aZ s=>h σ' G' H' (aZ.hR rfl rfl rfl) s
  |d9 bo=>exact fun σ' G' H' aZ s=>h σ' G' H' (aZ.hR rfl rfl rfl) s
  |b3 bo=>exact fun σ' G' H' aZ s=>h σ' G' H' (aZ.hR rfl rfl rfl) s
  |dB d=>exact fun v G' H' k a=>h v G' H' (k.hR rfl rfl) a
  |gN ds=>exact fun a xs G' H' k h1 h2 h3 h4=>h a xs G' H' (k.hR rfl rfl) h1 h2 h3 h4
  |gM t=>exact fun v G' H' k q=>h v G' H' (k.hR rfl rfl) ⟨q.at_,q.br,q.own⟩
end
section
variable{X:aC}{e c:Expr}{af:List Expr}{st:Stmt}{pos p:Pos}{K:PySem.W.Frag}{G0 H0:J}{E:cn}{mt:bN}{ms:a_}{ma:aN}
theorem PB{t:TT}(h:dQ X.fs e t):dQ X e t:=fun pins s σ H Q I q=>wpAny_mono (h pins s σ H Q (I.hH _) q) (fun _ s'⟨H',bk,z⟩=>⟨H',bk.gv,z⟩) fun _ _ z=>z.elim
theorem Py{t:dX}(h:d8 X.fs af t):d8 X af t:=fun pos pins s σ H Q I q=>wpAny_mono (h pos pins s σ H Q (I.hH _) q) (fun _ s'⟨vs,H',bk,r,z⟩=>⟨vs,H',bk.gv,r,z⟩) fun _ _ z=>z.elim
theorem PA{t:dR}(h:cP X.fs st t):cP X st t:=fun pins s σ H D I q=>wpAny_mono (h pins s σ H D (I.hH _) q) (fun f s' z=>by
 cases f with
 |next=>obtain⟨σ',H',bk,z⟩:=z;exact⟨σ',H',bk.gv,z⟩
 |brk=>obtain⟨σ',H',bk,z⟩:=z;exact⟨σ',H',bk.gv,z⟩
 |cont=>obtain⟨σ',H',bk,z⟩:=z;exact⟨σ',H',bk.gv,z⟩
 |ret v=>obtain⟨x,σ',H',bk,z⟩:=z;exact⟨x,σ',H',bk.gv,z⟩) fun _ _ z=>z.elim
theorem t9(h:eK X.fs (dT K G0 H0) e mt):eK X (e9 K G0 H0 E) e (i7 mt):=⟨fun pins s σ H Q I q=>PB h.1 pins s σ H Q I (Kz σ H Q q)⟩
theorem Qh(h:fi X.fs (dT K G0 H0) af ma):fi X (e9 K G0 H0 E) af (lU ma):=⟨fun pos pins s σ H Q I q=>Py h.1 pos pins s σ H Q I (Kw σ H Q q)⟩
theorem t8(h:dS X.fs (dT K G0 H0) st ms):dS X (e9 K G0 H0 E) st (i6 ms):=⟨fun pins s σ H D I q=>PA h.1 pins s σ H D I (Ky D σ H q)⟩
end
structure uF(P:Program)(w:World)(K:PySem.W.Frag)(mg:Str→Option Value)(base:Heap)(x:Str)(n k:Nat)(mf:List D→R b0):Prop where
 ex:∃(f:Addr)(fd:FuncData)(aD:List Str),aD.length=n∧fM P w K mg base (d7 P w) k f fd aD (nh K n (yd K) mf)∧mg x=some (.ref f)∧PySem.W.keepIn K (.ref f)=true∧Binds K fd aD []
structure ux(K:PySem.W.Frag)(mg:Str→Option Value)(c:Str):Prop where
 ex:∃C,dP K c C∧mg c=some (.ref C)∧PySem.W.excIn K C [.type "ValueError",.type "Exception",.type "BaseException",.type "object"] "ValueError.__new__"=true
def ot(c:Str):a_:=fun _=>.exc c
section
variable{P:Program}{w:World}{K:PySem.W.Frag}{mg:Str→Option Value}{base:Heap}{N:List Str}{qual:Str}{scope:Scope}{f:Addr}{cd:Value}{A:Around}{outer:List Env}{s0:Shared}{Ha:J}{E:cn}{G0 H0:J}
theorem yg{x:Str}{np cpos pos cp:Pos}{m:Str}{j:Nat}(k:ux K mg x)(hg:cA (dt (d7 P w) P w K mg base N qual scope f cd A outer s0 Ha E) x:=by rfl)(hd:(x==("__debug__" :Str))=false:=by decide) :
  dS (dt (d7 P w) P w K mg base N qual scope f cd A outer s0 Ha E) (e9 K G0 H0 E) (.Raise (some (.Call (.Name x np) [.Constant (.str m) j cp] [] cpos)) none pos) (ot x):=by
 obtain⟨C,h1,h2,h3⟩:=k.ex;refine⟨fun pins s σ H D I q=>MU (X:=dt (d7 P w) P w K mg base N qual scope f cd A outer s0 Ha E) PySem.F.excBase_ValueError h3 h2 rfl hg hd pins s σ H D I ?_⟩;obtain⟨G,ρ,r,h⟩:=q;obtain⟨gT,bK,dx⟩:=(show hY (e9 K G0 H0 E) x from h) G H r.aA;have:gT=C:=by unfold dP at bK h1;rw[h1]at bK;cases bK;rfl
 subst this;exact Qb dx
theorem P0{x:Str}{n k:Nat}{mf:List D→R b0}{e:Expr}{af:List Expr}{ma:aN}{pos p:Pos}(c:uF P w K mg base x n k mf)(hr:cK k (dt (d7 P w) P w K mg base N qual scope f cd A outer s0 Ha E).A)(ha:fi (dt (d7 P w) P w K mg base N qual scope f cd A outer s0 Ha E) (e9 K G0 H0 E) (e::af) ma)(hg:cA (dt (d7 P w) P w K mg base N qual scope f cd A outer s0 Ha E) x:=by rfl)(hdb:(x==("__debug__" :Str))=false:=by decide)(he:starEach (e::af) (dt (d7 P w) P w K mg base N qual scope f cd A outer s0 Ha E).env=(false,eval e (dt (d7 P w) P w K mg base N qual scope f cd A outer s0 Ha E).env)::starEach af (dt (d7 P w) P w K mg base N qual scope f cd A outer s0 Ha E).env:=by rfl)(hpl:(backTo pos (starEach af (dt (d7 P w) P w K mg base N qual scope f cd A outer s0 Ha E).env)).any (·.1)=false:=by rfl) :
  aW (dt (d7 P w) P w K mg base N qual scope f cd A outer s0 Ha E) (e9 K G0 H0 E) (.Call (.Name x p) (e::af) [] pos) (cG n mf ma):=by
 obtain⟨sb,fd,aD,aI,g5,hm,hk,hb⟩:=c.ex;exact⟨aP.imp (wR (X:=dt (d7 P w) P w K mg base N qual scope f cd A outer s0 Ha E) g5 hr hg hm hk hb .nil Mg ha.1 hdb he hpl) (AP (F:=e9 K G0 H0 E) (xe:=yd K) (E:=E) rfl)⟩
end
theorem PW{P:Program}{w:World}{K:PySem.W.Frag}{mg:Str→Option Value}{base:Heap}{x:Str}{st:Stmt}{N aD:List Str}{k:Nat}{m:a_}(d:eo K mg x st aD)(S:c0 N aD (bX st))(h:∀(f:Addr)(bO:Value)(A:Around)(outer:List Env)(s:Shared)(H:J)(E:cn),cK k (A.deeper (PyProof.Rows.envOfC x (bX st) s.heap.objs.size f bO))→∀G0 H0,hO (dt (d7 P w) P w K mg base N x (bX st) f bO A outer s H E) (e9 K G0 H0 E) (eU st) m) :
  uF P w K mg base x aD.length (k+1) (c_ N.length m):=by
 obtain⟨f,fd,fn,hm,hb⟩:=d.ex;refine⟨f,fd,aD,rfl,?_,hm,fn.aA,hb⟩;obtain⟨dM,cV,cb,doc,pm,an,bO,b3,i9,rfl,lk,hcd⟩:=fn.ex;refine vv lk hcd S tG fun A outer s H vs Q E hr hs=>?_;obtain⟨G,ht⟩:=rV hs;exact⟨_,(h f bO A outer s H E hr G H).1,ht⟩
section
variable{X:aC}{F:a3}{e:Expr}{af:List Expr}{pos p:Pos}{ma:aN}
theorem Mh{P:Program}{w:World}:Passes (d7 P w) X (fun _ _ _=>False):=fun _ _ _ _ _ _ _ h=>by obtain⟨_,_,_,_,_,_,_,z⟩:=h;exact z.elim
end
end az
namespace aV
open PySem PySem.Spec PySem.Calls PyProof.Rows PySem.W PySem.Builtin PySem.Builtin.ObjectAttr PySem.Builtin.Getset_descriptor
def ExcAt(a D:Addr)(h:Heap):Prop:=∃o,h.get? a=some o∧o.cls=.ref D
theorem ExcAt.ty{M:Model}{a D:Addr}{h:Heap}(p:ExcAt a D h):Looks M h (typeOf (.ref a)) (.ref D):=by obtain⟨o,h1,h2⟩:=p;rw[←h2];exact(Looks.ld h1).andThen .now
structure ry(K:Frag)(D:Addr):Prop where
 ga:findIn K (.ref D) "__getattribute__"=some (some (.builtin "BaseException.__getattribute__"))
 HF:findIn K (.ref D) "__getattr__"=some none
 cl:findIn K (.ref D) "__class__"=some (some (.builtin "object.__class__"))
 m_:subIn K (.ref D) (.type "BaseException")=some true
 mo:mroIn K D (.type "object")=some true
 b3:(clsIn K D).isSome=true
section
variable{prog:Program}{w:World}{A:Around}{E:Value→Shared→Prop}{s:Shared}{K:Frag}{a D:Addr}
theorem Hf{R:Result→Shared→Prop}(X:K.In s.heap)(p:ExcAt a D s.heap)(f:ry K D)(h:R (.ok (.ret (.ref D))) s) :
  codeAny (model prog w) A (.call (.builtin "getset_descriptor.__get__") ⟨[.builtin "object.__class__",.ref a,.ref D],[]⟩) R s:=by
 obtain⟨hh,g,lD,t,os⟩:=s;have rD:=p.ty (M:=model prog w);have uG:=looks_mroIn (M:=model prog w) X f.mo
 refine codeAny_call_builtin KF.slot_gs.plain KF.entry_gs
  (KF.slot_gs.check _ _ _ _ _ _ _ _ KF.type_class
    (KF.args_gs _ _ _) ?_)
 unfold Builtin.«getset_descriptor.__get__» descrGet;rw[dga_obj];refine wpAny_bind (wpAny_pure ?_);unfold descrGetter descrCheckInstance descrNameAndClass isInstance;simp only[KF.owner_class]
 repeat lk
 refine⟨Code.quiet_builtin _ (by decide+kernel),codeAny_builtin KF.entry_class ?_⟩;unfold Builtin.«object.__class__» shownTypeOf
 repeat lk
 exact h
theorem He{Q:Option Value→Shared→Prop}(X:K.In s.heap)(p:ExcAt a D s.heap)(f:ry K D)(hs:specialIn K (.builtin "object.__class__") "__get__"=some (some (.builtin "getset_descriptor.__get__")))(ht:takesIn K (.builtin "object.__class__")=some true)(h:Q (some (.ref D)) { s with toks:=s.toks+1 }):wpAny (model prog w) A (getAttr? (.ref a) "__class__") Q E s:=by
 obtain⟨hh,g,lD,t,os⟩:=s;have rD:=p.ty (M:=model prog w);have uG:=looks_findIn (M:=model prog w) X f.ga;have aV:=looks_findIn (M:=model prog w) X f.HF;have az:=looks_findIn (M:=model prog w) X f.cl;have EM:=looks_subIn (M:=model prog w) X f.m_;have EN:=looks_specialIn (M:=model prog w) X hs;have EP:Looks (model prog w) hh (isInstance (.ref a) (.type "BaseException")) true:=rD.andThen EM;have EO:Looks (model prog w) hh (find (.ref a) (.ref D) "__class__") (.bind (.builtin "getset_descriptor.__get__") (.builtin "object.__class__")):=by have LT:=looks_takesIn (M:=model prog w) X ht;intro nA kq o6 s' k q;unfold find getOf dataDescriptor?;refine wpAny_bind (az _ _ _ _ k (wpAny_bind (EN _ _ _ _ k ?_)));refine wpAny_bind (wpAny_bind (LT _ _ _ _ k ?_));exact wpAny_pure (wpAny_bind (wpAny_rule (wpAny_pure q)))
 unfold getAttr? getAttrBy? getAttrBy;refine wpAny_bind (wpAny_mkText (wpAny_bind (wpAny_attempt (wpAny_holding (wpAny_bind (rD.at (wpAny_bind (uG.at ?_))))))));show wpAny _ _ (getAttrByItsOwn _ _ _ _ _ _) _ _ _;unfold getAttrByItsOwn hookBefore;refine wpAny_bind (aV.at ?_);refine wpAny_bind (wpAny_attempt (wpAny_holding ?_));show wpAny _ _ (boundAndCalled _ _ _) _ _ _;unfold boundAndCalled;rw[PySem.F.excAttr_ValueError.ga.bind (.ref a)];refine wpAny_bind (wpAny_pure ?_);refine wpAny_call (codeAny_call_builtin PySem.F.excAttr_ValueError.ga.plain PySem.F.entry_bexc_ga ?_);have hk:builtinKind "BaseException.__getattribute__"=some .slot:=by decide+kernel
 have hp:splitId "BaseException.__getattribute__"=some ("BaseException","__getattribute__"):=by decide+kernel
 have ha:=PySem.F.args_bexc_ga (.ref a) (.str "__class__" t);show wpAny _ _ (checkBuiltinCall "BaseException.__getattribute__" ⟨[.ref a,.str "__class__" t],[]⟩) _ _ _;simp only[checkBuiltinCall,hk,hp];refine wpAny_bind (EP.at ?_);simp only[Bool.not_true,Bool.false_eq_true,if_false];cases AG:Manifest.signature? "BaseException.__getattribute__" with
 |none=>exact absurd AG (by decide+kernel)
 |some aY=>simp only[argsOk,AG]at ha;have h2:Bind.checkArgs "BaseException.__getattribute__" aY ⟨[.ref a,.str "__class__" t],[]⟩=pure ():=ha;show wpAny _ _ (Bind.checkArgs "BaseException.__getattribute__" aY ⟨[.ref a,.str "__class__" t],[]⟩) _ _ _;rw[h2];refine wpAny_pure ?_;unfold Builtin.«object.__getattribute__»;refine wpAny_bind (wpAny_pure ?_);refine wpAny_bind (wpAny_pure ?_);refine wpAny_bind (rD.at (wpAny_bind (EO.at ?_)));show wpAny _ _ (do ret (←holding [Value.builtin "object.__class__"] (call (.builtin "getset_descriptor.__get__") [.builtin "object.__class__",.ref a,.ref D]))) _ _ _;refine wpAny_bind (wpAny_holding (wpAny_call (Hf (s:=⟨hh,g,lD,t+1,os⟩) X p f ?_)));refine wpAny_pure ?_;exact wpAny_pure (wpAny_pure h)
theorem Ki(f:ry K D)(hs:specialIn K (.builtin "object.__class__") "__get__"=some (some (.builtin "getset_descriptor.__get__")))(ht:takesIn K (.builtin "object.__class__")=some true):KitX K (.ref a) (.ref D) (ExcAt a D) where
 ty:=fun _ _ _ p=>p.ty
 it:=fun _ _ X _=>by
  have hc:=f.b3;unfold clsIn at hc
  split at hc
  ·rename_i cu b2 tg Lx ho;intro nA kq o6 s' k q;unfold isType loadHead;refine wpAny_bind ?_;exact wpAny_loadPart (k _ _ (X _ _ ho)) (wpAny_pure q)
  ·cases hc
 ne:=fun h ra dd its n b1 X Iu=>by
  refine Bool.eq_false_iff.mpr fun q=>?_;have e:D=ra:=by have:=beq_iff_eq.mp q;cases this;rfl
  subst e;have hc:=f.b3;unfold clsIn at hc
  split at hc
  ·rename_i cu b2 tg Lx ho;have z:=(X _ _ ho).symm.trans Iu;cases z
  ·cases hc
 ca:=fun X p h=>He X p f hs ht h
end
end aV
namespace az
open PySem PySem.Spec aV
structure o_(K:PySem.W.Frag)(rX:Value)(tab:List (Str×Bool)):Prop where
 sp:PySem.W.specialIn K (.builtin "object.__class__") "__get__"=some (some (.builtin "getset_descriptor.__get__"))
 d4:PySem.W.takesIn K (.builtin "object.__class__")=some true
 ex:∀c b,tab.lookup c=some b→∃C,dP K c C∧ry K C∧PySem.W.kitOne K (.ref C) rX=some b
noncomputable def g_(tab:List (Str×Bool)):D→R D
 |.fl c=>match tab.lookup c with
  |some b=>.ok (.aq b)
  |none=>.bad
 |_=>.bad
section
variable{X:aC}{F:a3}{a:Expr}{pos p:Pos}{m:ay}
noncomputable def CC(F:a3)(tab:List (Str×Bool))(vU:V):List V→J→bT→Prop:=fun xs H Q=>∃G x c b,Sub G H∧xs=[x,vU]∧At F.K G (.fl c) x∧tab.lookup c=some b∧Q (.aq b) H
theorem za{tab:List (Str×Bool)}{vU:V}{rX:Value}(hK:F.K=X.K)(hv:∀u,RelV vU u→u=rX)(t:o_ X.K rX tab):jg X (.builtin "isinstance") (CC F tab vU):=by
 intro pins s σ H xs us Q I r h;obtain⟨G,x,c,b,aY,rfl,bf,hb,q⟩:=h;obtain⟨u,eF,rfl,bb,ei⟩:=vals2 r;have:=hv eF ei;subst this;rw[hK]at bf;simp only[At]at bf;obtain⟨a,xs,rfl,⟨C,bK,ga⟩,_⟩:=bf;cases bb;obtain⟨gT,dx,f,k⟩:=t.ex c b hb;have e:gT=C:=by unfold dP at bK dx;rw[bK]at dx;cases dx;rfl
 subst e;have ok:ExcAt a gT s.heap:=by obtain⟨⟨o,h1,h2⟩,_⟩:=(show dG X.prog X.w H s.heap a (mL a (.ref gT))from I.bc a _ (aY _ _ ga));exact⟨o,h1,h2⟩
 exact PySem.W.kia_one (Ki f t.sp t.d4) I.dJ ok k (fun z=>nomatch z) fun d4=>⟨.aq _,H,I.tok d4,rfl,q⟩
theorem AV{tab:List (Str×Bool)}{vU:V}:dq (cc F (bW (g_ tab) m)) (q3 (CC F tab vU) (q4 (cc F m) (q4 (l3 vU) nk))):=by
 rintro σ H Q ⟨G,ρ,r,h⟩;unfold bW at h;refine⟨G,ρ,r,?_⟩;cases ak:m ρ with
 |bad=>rw[ak]at h;exact h.elim
 |exc c=>rw[ak]at h;exact h
 |ok d=>
  rw[ak,R.bh]at h;intro x H1 aL ao s1 bu;cases d with
  |fl c=>
   simp only[g_]at h
   split at h
   ·rename_i b hb;exact⟨aL,x,c,b,ao.aA.sub,rfl,bu,hb,h _ H1 aL ao s1 (by simp only[At])⟩
   ·exact h.elim
  |_=>exact h.elim
theorem P9{U:Str}{lg:Addr}{tab:List (Str×Bool)}{bJ:Pos}(t:o_ X.K (.ref lg) tab)(hm:X.mg "isinstance"=none)(hmU:X.mg U=some (.ref lg))(ha:aW X F a m)(hK:F.K=X.K:=by rfl)(hg:cA X "isinstance":=by rfl)(hgU:cA X U:=by rfl)(hdU:(U==("__debug__" :Str))=false:=by decide)(hs2:starEach [.Name U bJ] X.env=(false,eval (.Name U bJ) X.env)::starEach [] X.env:=by rfl)(he:starEach [a,.Name U bJ] X.env=(false,eval a X.env)::starEach [.Name U bJ] X.env:=by rfl)(hpl:(backTo pos (starEach [.Name U bJ] X.env)).any (·.1)=false:=by rfl) :
  aW X F (.Call (.Name "isinstance" p) [a,.Name U bJ] [] pos) (bW (g_ tab) m):=by
 have hb:bootBuiltins "isinstance"=some (.builtin "isinstance"):=by kernel_rfl
 exact⟨aP.imp (qK (za (F:=F) (vU:=.ref lg) hK (fun u r=>by cases r;rfl) t) hg hm hb (ic ha.1 (ic (Cg hgU hmU (v:=.ref lg) rfl hdU) kb hs2) he) (by decide) (by decide) he hpl) AV⟩
theorem P8{tab:List (Str×Bool)}{bJ:Pos}(t:o_ X.K (.type "ValueError") tab)(hm:X.mg "isinstance"=none)(hmU:X.mg "ValueError"=none)(ha:aW X F a m)(hK:F.K=X.K:=by rfl)(hg:cA X "isinstance":=by rfl)(hgU:cA X "ValueError":=by rfl)(hs2:starEach [.Name "ValueError" bJ] X.env=(false,eval (.Name "ValueError" bJ) X.env)::starEach [] X.env:=by rfl)(he:starEach [a,.Name "ValueError" bJ] X.env=(false,eval a X.env)::starEach [.Name "ValueError" bJ] X.env:=by rfl)(hpl:(backTo pos (starEach [.Name "ValueError" bJ] X.env)).any (·.1)=false:=by rfl) :
  aW X F (.Call (.Name "isinstance" p) [a,.Name "ValueError" bJ] [] pos) (bW (g_ tab) m):=by
 have hb:bootBuiltins "isinstance"=some (.builtin "isinstance"):=by kernel_rfl
 exact⟨aP.imp (qK (za (F:=F) (vU:=.ty "ValueError") hK (fun u r=>r) t) hg hm hb (ic ha.1 (ic (Cd hgU hmU (by kernel_rfl) (v:=.ty "ValueError") rfl) kb hs2) he) (by decide) (by decide) he hpl) AV⟩
noncomputable def rf(i:Nat):eI→R eI
 |.bj ρ=>.ok (.bj (ρ.set i .un))
 |.d9 ρ=>.ok (.d9 (ρ.set i .un))
 |.b3 ρ=>.ok (.b3 (ρ.set i .un))
 |f=>.ok f
structure yx(K:PySem.W.Frag)(mg:Str→Option Value)(W:Str)(cs:List Str):Prop where
 ex:∃rx,mg W=some (.ref rx)∧∀c,cs.contains c=true→∃C,dP K c C∧PySem.W.exmOne K (.ref C) (.ref rx)=some true
theorem Rel.u5{G H:J}{σ :aV.St}{ρ:ah}(r:Rel F G H σ ρ)(i:Nat):Rel F G H (σ.set i none) (ρ.set i .un):=by
 by_cases hi:i<ρ.length
 ·exact r.oO hi trivial fun _ f=>f.elim
 ·rw[List.set_eq_of_length_le (by rw[r.len];omega),List.set_eq_of_length_le (by omega)];exact r
end
noncomputable def oM:D→D→R D
 |.lst xs,.int k=>if 0≤k∧k≤1000∧xs.length≤100 then .ok (.lst (List.replicate k.toNat xs).flatten)else .bad
 |_,_=>.bad
theorem aE.rep{K:PySem.W.Frag}{G:J}{ds:List D}{xs:List V}(q:aE K G ds xs):∀n:Nat,aE K G (List.replicate n ds).flatten (List.replicate n xs).flatten
 |0=>by simpa using aE.nil
 |n+1=>by rw[List.replicate_succ,List.replicate_succ,List.flatten_cons,List.flatten_cons];exact q.append (aE.rep q n)
section
variable{X:aC}{F:a3}{a b:Expr}{pos p:Pos}{m n:ay}
theorem LP:eJ F CH oM:=by
 intro σ ρ G H x y aJ e7 Q r bu cC k;unfold oM at k
 split at k
 ·rename_i xs j
  split at k
  ·rename_i hc;simp only[At]at bu cC;obtain⟨l,vs,rfl,hl,al⟩:=bu;refine⟨l,j,vs,rfl,cC,r.aA.sub _ _ hl,by omega,by omega,?_,fun q aH=>?_⟩
   ·rw[←al.length];have h1:j.toNat≤1000:=by omega
    exact Nat.le_trans (Nat.mul_le_mul hc.2.2 h1) (by decide)
   ·refine k (.ref q) _ _ (r.lay aH) (bQ.lay r.aA.sub aH) ?_;simp only[At];exact⟨q,_,rfl,c3,(al.mono (Sub.upd (r.aA.sub.gone aH))).rep j.toNat⟩
  ·exact k.elim
 ·exact k.elim
theorem Qd(ha:aW X F a m)(hb:aW X F b n):aW X F (.BinOp a .Mult b pos) (aB oM m n):=⟨mH L5 LP ha.1 hb.1⟩
structure jP(K:PySem.W.Frag)(mg:Str→Option Value)(U:Str)(tab:List (Str×Bool)):Prop where
 ex:∃lg,mg U=some (.ref lg)∧o_ K (.ref lg) tab
theorem k8{U:Str}{tab:List (Str×Bool)}{bJ:Pos}(t:jP X.K X.mg U tab)(hm:X.mg "isinstance"=none)(ha:aW X F a m)(hK:F.K=X.K:=by rfl)(hg:cA X "isinstance":=by rfl)(hgU:cA X U:=by rfl)(hdU:(U==("__debug__" :Str))=false:=by decide)(hs2:starEach [.Name U bJ] X.env=(false,eval (.Name U bJ) X.env)::starEach [] X.env:=by rfl)(he:starEach [a,.Name U bJ] X.env=(false,eval a X.env)::starEach [.Name U bJ] X.env:=by rfl)(hpl:(backTo pos (starEach [.Name U bJ] X.env)).any (·.1)=false:=by rfl) :
  aW X F (.Call (.Name "isinstance" p) [a,.Name U bJ] [] pos) (bW (g_ tab) m):=by
 obtain⟨lg,h1,h2⟩:=t.ex;exact P9 h2 hm h1 ha hK hg hgU hdU hs2 he hpl
noncomputable def BB(i:Nat)(n:ay):ay:=fun ρ=>(ownAt i ρ).bind fun ds=>(n ρ).bind fun k=>match k with
 |.int j=>match es ds j with
  |some d=>.ok d
  |none=>.bad
 |_=>.bad
theorem Mc{i:Nat}{ρ:ah}{ds:List D}(h:ownAt i ρ=.ok ds):ρ[i]?=some (.cD ds):=by
 unfold ownAt at h
 split at h
 ·rename_i e;cases h;exact e
 ·cases h
theorem Mb{i:Nat}{ρ:ah}{c:Str}(h:ownAt i ρ=.exc c):False:=by
 unfold ownAt at h
 split at h<;>cases h
end
end az
namespace fP
open PySem PySem.SetTable
noncomputable def kN(mask:Nat)(h:Int):Nat→Nat×Nat
 |0=>(bits h%(mask+1),bits h)
 |n+1=>leap mask (kN mask h n).1 (kN mask h n).2
def gM(mask i:Nat):Nat:=runEnd mask i-i
def aY(mask:Nat)(h:Int):Nat→Nat
 |0=>0
 |n+1=>aY mask h n+gM mask (kN mask h n).1+1
theorem least(p:Nat→Prop):(∃n,p n)→∃n,p n∧∀m,m<n→¬p m:=by
 rintro⟨n,h⟩;induction n using Nat.strongRecOn with
 |_ n ck=>
  by_cases q:∃m,m<n∧p m
  ·obtain⟨m,ee,eY⟩:=q;exact ck m ee eY
  ·exact⟨n,h,fun m hm hp=>q ⟨m,hm,hp⟩⟩
section
variable{α:Type}
end
section
variable{α:Type}
end
section
variable{prog:Program}{w:World}{A:Around}{E:Value→Shared→Prop}{s:Shared}{K:Type}[DecidableEq K]{knd:KeyKind prog w K}
end
section
variable{prog:Program}{w:World}{A:Around}{E:Value→Shared→Prop}{s:Shared}{K:Type}[DecidableEq K]{knd:KeyKind prog w K}
end
section
variable{prog:Program}{w:World}{A:Around}{E:Value→Shared→Prop}{s:Shared}{K:Type}[DecidableEq K]{knd:KeyKind prog w K}
end
end fP
namespace fP
open PySem PySem.Spec PyProof.Rows
section
variable{prog:Program}{w:World}{K:Type}[DecidableEq K]{knd:PySem.KeyKind prog w K}
def FW(S:List (List K))(ks:List K):List (List K):=if ks∈S then S else S++[ks]
def FX(keys:List (List K)):List (List K):=keys.foldl FW []
section
variable{A:Around}{R:Result→Shared→Prop}{I:Addr}{aU wr:List Addr}{G:Array GenState→Array GenState→Prop}{n:Nat}{P:Nat→Value→Prop}{St:Nat→Shared→Prop}
end
end
section
variable{prog:Program}{w:World}{A:Around}{E:Value→Shared→Prop}{s:Shared}{K:Type}[DecidableEq K]{knd:PySem.KeyKind prog w K}
end
end fP
namespace LT
open PySem PyProof.Rows
structure d6(kd:SortKind)(bD:Array Keyed)(st:SortSt):Prop where
 k:kindOf st=kd
 p:(arrOf st).Perm bD
 n:pendingOf st= #[]
 f:failedOf st=none
theorem d6.ja{kd:SortKind}{bD:Array Keyed}{st:SortSt}(b:d6 kd bD st):(arrOf st).size=bD.size:=b.p.size_eq
theorem d6.to{kd:SortKind}{bD:Array Keyed}{st:SortSt}(b:d6 kd bD st){xs:Array Keyed}(q:xs.Perm (arrOf st)):d6 kd bD (setArr st xs):=⟨b.k,q.trans b.p,b.n,b.f⟩
structure jM(prog:Program)(w:World)(A:Around)(s:Shared)(kd:SortKind)(κ:KeyKind)(bD:Array Keyed):Prop where
 lt:∀(E:Value→Shared→Prop)(x y:Keyed){Q:Bool→Shared→Prop},x∈bD.toList→y∈bD.toList→Q (κ.blt ((κ.keyOf x.1).getD κ.dflt) ((κ.keyOf y.1).getD κ.dflt)) s→wpAny (model prog w) A (keyLt' kd x.1 y.1) Q E s
section
variable{prog:Program}{w:World}{A:Around}{E:Value→Shared→Prop}{s:Shared}{bD:Array Keyed}{κ:KeyKind}{kd:SortKind}
theorem d6.at{st:SortSt}(b:d6 kd bD st){i:Nat}(hi:i<bD.size):∃x,(arrOf st)[i]?=some x∧x∈bD.toList∧KK κ (arrOf st) i=(κ.keyOf x.1).getD κ.dflt:=by
 have g:i<(arrOf st).size:=by rw[b.ja];exact hi
 have e:=getElem?_pos (arrOf st) i g;refine⟨_,e,(Array.perm_iff_toList_perm.mp b.p).mem_iff.mp (by simp),?_⟩;unfold KK;rw[e]
theorem qc(C:jM prog w A s kd κ bD){st:SortSt}(b:d6 kd bD st){i j:Nat}{Q:Option Bool→SortSt→Prop}(hi:i<bD.size)(b4:j<bD.size)(h:Q (some (κ.blt (KK κ (arrOf st) i) (KK κ (arrOf st) j))) st):wpS (model prog w) A E s (ltAt' i j) Q st:=by obtain⟨x,d5,dW,nu⟩:=b.at (κ:=κ) hi;obtain⟨y,ff,fg,ny⟩:=b.at (κ:=κ) b4;rw[nu,ny]at h;rw[ltAt'_eq];refine wpS_bind (wpS_get ?_);show wpS _ _ _ _ (elem' (arrOf st) i>>=fun x=>elem' (arrOf st) j>>=fun y=>lt' x y) Q st;rw[elem'_eq,d5,elem'_eq,ff];refine wpS_bind (wpS_pure (wpS_bind (wpS_pure ?_)));rw[lt'_eq];refine wpS_bind (wpS_get (wpS_bind (wpS_lift (wpAny_attempt ?_))));rw[b.k];exact C.lt _ x y dW fg ⟨rfl,wpS_pure h⟩
theorem DX{xs:Array Keyed}:SortedToK κ xs 1:=fun i j a c=>by
 have:i=j:=by omega
 subst this;exact KeyOrd.kle_refl _
theorem PC{xs:Array Keyed}{n:Nat}(h:SortedToK κ xs n)(q:κ.kle (KK κ xs (n-1)) (KK κ xs n)):SortedToK κ xs (n+1):=fun i j a c=>by
 by_cases e:j<n
 ·exact h i j a e
 have e:j=n:=by omega
 subst e;by_cases g:i=j
 ·subst g;exact KeyOrd.kle_refl _
 ·exact KeyOrd.kle_trans (h i (j-1) (by omega) (by omega)) q
theorem r5{xs:Array Keyed}{n:Nat}(h:NonIncK κ xs n)(q:κ.kle (KK κ xs n) (KK κ xs (n-1))):NonIncK κ xs (n+1):=fun i j a c=>by
 by_cases e:j<n
 ·exact h i j a e
 have e:j=n:=by omega
 subst e;by_cases g:i=j
 ·subst g;exact KeyOrd.kle_refl _
 ·exact KeyOrd.kle_trans q (h i (j-1) (by omega) (by omega))
theorem NonIncK.same{xs ys:Array Keyed}{n:Nat}(h:NonIncK κ xs n)(e:∀k,KK κ ys k=KK κ xs k):NonIncK κ ys n:=fun i j a c=>by rw[e,e];exact h i j a c
theorem yL(C:jM prog w A s kd κ bD){st:SortSt}{a dw:Nat}{Q:AscSt→SortSt→Prop}(aI:dw≤bD.size)(ha:1≤a)(an:a≤dw)(b:d6 kd bD st)(hs:SortedToK κ (arrOf st) a)(h:∀n,a≤n→n≤dw→SortedToK κ (arrOf st) n→(n<dw→κ.klt (KK κ (arrOf st) n) (KK κ (arrOf st) (n-1)))→Q (none,n) st):wpS (model prog w) A E s (ascLoop a dw) Q st:=by
 unfold ascLoop;refine wpS_forRange (I:=fun x c t=>t=st∧c=(none,x)∧SortedToK κ (arrOf st) x) ?_ ?_ ⟨rfl,rfl,hs⟩
 ·rintro x c t g1 g2 ⟨rfl,rfl,g3⟩;dsimp only;refine wpS_bind (qc C b (by omega) (by omega) ?_);cases e:κ.blt (KK κ (arrOf t) x) (KK κ (arrOf t) (x-1))with
  |true=>exact wpS_pure (h x g1 (by omega) g3 fun _=>e)
  |false=>exact wpS_pure ⟨rfl,rfl,PC g3 e⟩
 ·rintro c t ⟨rfl,rfl,g⟩;have em:max a dw=dw:=by omega
  rw[em]at g ⊢;exact h dw an (Nat.le_refl _) g fun z=>absurd z (Nat.lt_irrefl _)
theorem DA(C:jM prog w A s kd κ bD){st:SortSt}{n dw:Nat}{Q:Option Nat→SortSt→Prop}(aI:dw≤bD.size)(h1:1≤n)(nn:n≤dw)(b:d6 kd bD st)(hs:NonIncK κ (arrOf st) n)(h:∀m t,d6 kd bD t→m≤dw→SortedToK κ (arrOf t) m→Q (some m) t):wpS (model prog w) A E s (tail3 n dw) Q st:=by
 have bq:n≤(arrOf st).size:=by rw[b.ja];omega
 have jV:d6 kd bD (setArr st (mirror (arrOf st) 0 n ((n-0)/2))):=b.to (mirror_perm _ _ _ _);unfold tail3;refine wpS_bind (wpS_reverse (wpS_bind (yL C aI h1 nn jV (fun i j g1 g2=>?_) fun m ee eY KV _=>wpS_pure (h m _ jV eY KV))));show κ.kle (KK κ (mirror (arrOf st) 0 n ((n-0)/2)) i) (KK κ (mirror (arrOf st) 0 n ((n-0)/2)) j);rw[KK_mirror bq,KK_mirror bq,if_pos ⟨Nat.zero_le _,by omega⟩,if_pos ⟨Nat.zero_le _,g2⟩];exact hs _ _ (by omega) (by omega)
def Flat(κ:KeyKind)(xs:Array Keyed)(m q:Nat):Prop:=q+1≤m∧∀i,m-(q+1)≤i→i<m→KK κ xs i=KK κ xs (m-1)
theorem vt{xs:Array Keyed}{m:Nat}(h:1≤m):Flat κ xs m 0:=⟨h,fun i a c=>by
 have:i=m-1:=by omega
 rw[this]⟩
theorem F0(C:jM prog w A s kd κ bD){st:SortSt}{n dw:Nat}{Q:DescSt→SortSt→Prop}(aI:dw≤bD.size)(h1:1≤n)(nn:n≤dw)(b:d6 kd bD st)(hs:NonIncK κ (arrOf st) n)(h:∀m q t,d6 kd bD t→n≤m→m≤dw→NonIncK κ (arrOf t) m→Flat κ (arrOf t) m q→Q (none,m,q) t):wpS (model prog w) A E s (descLoop n dw) Q st:=by
 unfold descLoop;refine wpS_forRange (I:=fun x c t=>∃q,c=(none,x,q)∧d6 kd bD t∧NonIncK κ (arrOf t) x∧Flat κ (arrOf t) x q) ?_ ?_ ⟨0,rfl,b,hs,vt h1⟩
 ·rintro x c t g1 g2 ⟨q,rfl,b,g3,gC⟩;dsimp only;have bq:x≤(arrOf t).size:=by rw[b.ja];omega
  refine wpS_bind (qc C b (by omega) (by omega) ?_);cases e:κ.blt (KK κ (arrOf t) x) (KK κ (arrOf t) (x-1))with
  |true=>
   have up:=r5 g3 (KeyOrd.kle_of_klt e);dsimp only;rw[if_pos rfl];by_cases z:q>0
   ·rw[if_pos z];exact wpS_bind (wpS_reverse (wpS_pure ⟨0,rfl,b.to (mirror_perm _ _ _ _),NonIncK.same up (KK_mirror_equal bq gC.2),vt (by omega)⟩))
   ·rw[if_neg z];exact wpS_pure ⟨0,rfl,b,up,vt (by omega)⟩
  |false=>
   dsimp only;rw[if_neg (by simp)];refine wpS_bind (qc C b (by omega) (by omega) ?_);cases bR:κ.blt (KK κ (arrOf t) (x-1)) (KK κ (arrOf t) x)with
   |true=>exact wpS_pure (h x q t b g1 (by omega) g3 gC)
   |false=>
    have pG:KK κ (arrOf t) x=KK κ (arrOf t) (x-1):=KeyOrd.kle_antisymm bR e;refine wpS_pure ⟨q+1,rfl,b,r5 g3 bR,by have:=gC.1;omega,fun i a c=>?_⟩;rw[show x+1-1=x by omega];by_cases w:i=x
    ·rw[w]
    ·rw[pG];exact gC.2 i (by omega) (by omega)
 ·rintro c t ⟨q,rfl,b,g3,gC⟩;have em:max n dw=dw:=by omega
  rw[em]at g3 gC ⊢;exact h dw q t b nn (Nat.le_refl _) g3 gC
theorem zo(C:jM prog w A s kd κ bD){st:SortSt}{n dw:Nat}{Q:Option Nat→SortSt→Prop}(aI:dw≤bD.size)(nn:n+1≤dw)(b:d6 kd bD st)(hs:NonIncK κ (arrOf st) (n+1))(h:∀m t,d6 kd bD t→m≤dw→SortedToK κ (arrOf t) m→Q (some m) t):wpS (model prog w) A E s (descPart n dw) Q st:=by
 unfold descPart;refine wpS_bind (wpS_lift (wpAny_rule ⟨rfl,wpS_bind (F0 C aI (by omega) nn b hs fun m q t jV ee eY g1 g2=>?_)⟩));dsimp only;have bq:m≤(arrOf t).size:=by rw[jV.ja];omega
 by_cases z:q>0
 ·rw[if_pos z];exact wpS_bind (wpS_reverse (DA C aI (by omega) eY (jV.to (mirror_perm _ _ _ _)) (NonIncK.same g1 (KK_mirror_equal bq g2.2)) h))
 ·rw[if_neg z];exact DA C aI (by omega) eY jV g1 h
theorem tw(C:jM prog w A s kd κ bD){st:SortSt}{dw:Nat}{Q:Option Nat→SortSt→Prop}(aI:dw≤bD.size)(h1:1≤dw)(b:d6 kd bD st)(h:∀m t,d6 kd bD t→m≤dw→SortedToK κ (arrOf t) m→Q (some m) t) :
  wpS (model prog w) A E s (countRun' 0 dw) Q st:=by
 rw[countRun0_eq];refine wpS_bind (yL C aI (Nat.le_refl 1) h1 b DX fun n fq dv g1 g2=>?_);dsimp only;by_cases e:n=dw
 ·rw[if_pos (by simpa using e)];exact wpS_pure (h n st b dv g1)
 rw[if_neg (by simpa using e)];have g2:=g2 (by omega);have bq:n≤(arrOf st).size:=by rw[b.ja];omega
 by_cases z:n>1
 ·rw[if_pos z];refine wpS_bind (qc C b (by omega) (by omega) ?_);cases bR:κ.blt (KK κ (arrOf st) 0) (KK κ (arrOf st) (n-1))with
  |true=>exact wpS_pure (h n st b dv g1)
  |false=>
   dsimp only;rw[if_neg (by simp)];have eu:∀k,0≤k→k<n→KK κ (arrOf st) k=KK κ (arrOf st) (n-1):=fun k _ hk=>
    KeyOrd.kle_antisymm (g1 k (n-1) (by omega) (by omega)) (KeyOrd.kle_trans bR (g1 0 k (Nat.zero_le _) hk))
   have r4:NonIncK κ (arrOf st) n:=fun i j a c=>by rw[eu i (Nat.zero_le _) (by omega),eu j (Nat.zero_le _) c];exact KeyOrd.kle_refl _
   exact wpS_bind (wpS_reverse (zo C aI (by omega) (b.to (mirror_perm _ _ _ _)) (NonIncK.same (r5 r4 (KeyOrd.kle_of_klt g2)) (KK_mirror_equal bq eu)) h))
 ·rw[if_neg z];have ai:n=1:=by omega
  subst ai;exact zo C aI (by omega) b (r5 (fun i j a c=>by
   have:i=j:=by omega
   subst this;exact KeyOrd.kle_refl _) (KeyOrd.kle_of_klt g2)) h
theorem y0(C:jM prog w A s kd κ bD){st:SortSt}{n ok:Nat}{Q:Bool→SortSt→Prop}(aI:n≤bD.size)(hk:ok≤n)(b:d6 kd bD st)(hs:SortedToK κ (arrOf st) ok)(h:∀t,d6 kd bD t→SortedToK κ (arrOf t) n→Q true t):wpS (model prog w) A E s (binarySort' 0 n ok) Q st:=by
 rw[binarySort'_eq];simp only[Nat.zero_add];refine wpS_bind (wpS_mono (wpS_forRange (I:=fun k c t=>c=(none,())∧d6 kd bD t∧SortedToK κ (arrOf t) (min k n)) (Q:=fun c t=>c=(none,())∧d6 kd bD t∧SortedToK κ (arrOf t) n) ?_ ?_ ?_) ?_)
 ·rintro k c t k1 k2 ⟨rfl,b,g⟩;have dc:min k n=k:=by omega
  rw[dc]at g;have bq:k<(arrOf t).size:=by rw[b.ja];omega
  refine wpS_bind (wpS_mono (wpS_forRange (I:=fun x c u=>u=t∧∃l r,c=(none,l,r)∧l≤r∧r≤k∧r-l≤k-x∧(∀i,i<l→κ.kle (KK κ (arrOf t) i) (KK κ (arrOf t) k))∧∀i,r≤i→i<k→κ.klt (KK κ (arrOf t) k) (KK κ (arrOf t) i))
   (Q:=fun c u=>u=t∧∃l r,c=(none,l,r)∧l≤k∧(∀i,i<l→κ.kle (KK κ (arrOf t) i) (KK κ (arrOf t) k))∧∀i,l≤i→i<k→κ.klt (KK κ (arrOf t) k) (KK κ (arrOf t) i)) ?_ ?_ ⟨rfl,0,k,rfl,by omega,by omega,by omega,fun i z=>by omega,fun i z f6=>by omega⟩) ?_)
  ·rintro x c u _ dW ⟨rfl,l,r,rfl,gj,df,Kv,lo,hi⟩;dsimp only;by_cases z:l≥r
   ·rw[if_pos z];have e:l=r:=by omega
    subst e;exact wpS_pure ⟨rfl,l,l,rfl,df,lo,hi⟩
   rw[if_neg z];refine wpS_bind (qc C b (by omega) (by omega) ?_);cases e:κ.blt (KK κ (arrOf u) k) (KK κ (arrOf u) ((l+r)/2))with
   |true=>exact wpS_pure ⟨rfl,l,(l+r)/2,rfl,by omega,by omega,by omega,lo,fun i a c=>KeyOrd.klt_of_klt_of_kle e (g _ _ a c)⟩
   |false=>exact wpS_pure ⟨rfl,(l+r)/2+1,r,rfl,by omega,by omega,by omega,fun i a=>KeyOrd.kle_trans (g i ((l+r)/2) (by omega) (by omega)) (show κ.kle _ _ from e),hi⟩
  ·rintro c u ⟨rfl,l,r,rfl,gj,df,Kv,lo,hi⟩;have e:l=r:=by omega
   subst e;exact⟨rfl,l,l,rfl,df,lo,hi⟩
  ·rintro c u ⟨rfl,l,r,rfl,gj,lo,hi⟩;show wpS _ _ _ _ (moveDown' k l>>=fun _=>pure (ForInStep.yield (none,()))) _ _;rw[moveDown'_eq];refine wpS_bind (wpS_modify (wpS_pure ⟨rfl,b.to (bubble_perm _ _ _),?_⟩));rw[show min (k+1) n=k+1 by omega];intro i j Ru wc;show κ.kle (KK κ (bubble (arrOf u) k (k-l)) i) (KK κ (bubble (arrOf u) k (k-l)) j);rw[KK_bubble bq (by omega),KK_bubble bq (by omega),show k-(k-l)=l by omega]
   repeat' split
   all_goals first|omega|exact KeyOrd.kle_refl _|exact lo _ (by omega)|exact KeyOrd.kle_of_klt (hi _ (by omega) (by omega))|exact g _ _ (by omega) (by omega)
 ·rintro c t ⟨rfl,b,g⟩;rw[show min (max (max ok 1) n) n=n by omega]at g;exact⟨rfl,b,g⟩
 ·refine⟨rfl,b,?_⟩;by_cases z:ok=0
  ·subst z;intro i j a c;exact DX i j a (by omega)
  ·rw[show min (max ok 1) n=ok by omega];exact hs
 ·rintro c t ⟨rfl,b,g⟩;exact wpS_pure (h t b g)
theorem NG(C:jM prog w A s kd κ bD){st:SortSt}{Q:Unit→SortSt→Prop}(b:d6 kd bD st)(h2:2≤bD.size)(mR:bD.size<64)(h:∀t,(arrOf t).Perm bD→failedOf t=none→SortedToK κ (arrOf t) bD.size→Q () t):wpS (model prog w) A E s sortRuns' Q st:=by
 rw[sortRuns'_eq];refine wpS_bind (wpS_get ?_);dsimp only;have qv:minRun' bD.size bD.size 0=bD.size:=by
  obtain⟨f,hf⟩:∃f,bD.size=f+1:=⟨bD.size-1,by omega⟩;have:minRun' (f+1) bD.size 0=bD.size:=by rw[minRun'_succ,if_pos mR,Nat.add_zero]
  rwa [←hf]at this
 simp only[b.ja,qv]
 refine wpS_bind (wpS_mono (wpS_forRange (I:=fun x c t=>(x=0∧c=(none,0)∧d6 kd bD t)∨(1≤x∧c=(none,bD.size)∧(arrOf t).Perm bD∧failedOf t=none∧pendingOf t= #[(0,bD.size,0)]∧SortedToK κ (arrOf t) bD.size))
  (Q:=fun c t=>c=(none,bD.size)∧(arrOf t).Perm bD∧failedOf t=none∧pendingOf t= #[(0,bD.size,0)]∧SortedToK κ (arrOf t) bD.size) ?_ ?_ (.inl ⟨rfl,rfl,b⟩)) ?_)
 ·have last:∀t,d6 kd bD t→SortedToK κ (arrOf t) bD.size→(arrOf (setPending t ((pendingOf t).push (0,bD.size,0)))).Perm bD∧failedOf (setPending t ((pendingOf t).push (0,bD.size,0)))=none∧pendingOf (setPending t ((pendingOf t).push (0,bD.size,0)))= #[(0,bD.size,0)]∧SortedToK κ (arrOf (setPending t ((pendingOf t).push (0,bD.size,0)))) bD.size:=
    fun t b g=>⟨b.p,b.f,by show(pendingOf t).push _=_;rw[b.n];rfl,g⟩
  rintro x c t _ dW (⟨rfl,rfl,b⟩|⟨d5,rfl,g⟩)
  ·dsimp only;rw[if_neg (by omega)];simp only[Nat.sub_zero,Nat.min_self,Nat.zero_add];refine wpS_bind (tw C (Nat.le_refl _) (by omega) b fun m t b ee g=>?_);dsimp only;by_cases z:m<bD.size
   ·rw[if_pos z];refine wpS_bind (wpS_lift (wpAny_rule ⟨rfl,wpS_bind (y0 C (Nat.le_refl _) ee b g fun u b g=>?_)⟩));simp only[Bool.not_true,Bool.false_eq_true,if_false];refine wpS_bind (wpS_get ?_);rw[b.n];exact wpS_bind (wpS_modify (wpS_pure (.inr ⟨by omega,rfl,last u b g⟩)))
   ·rw[if_neg z];have e:m=bD.size:=by omega
    subst e;refine wpS_bind (wpS_get ?_);rw[b.n];exact wpS_bind (wpS_modify (wpS_pure (.inr ⟨by omega,rfl,last t b g⟩)))
  ·dsimp only;rw[if_pos (Nat.le_refl _)];exact wpS_pure ⟨rfl,g⟩
 ·rintro c t (⟨z,_,_⟩|⟨_,e,g⟩)
  ·omega
  ·exact⟨e,g⟩
 ·rintro c t ⟨rfl,g1,g2,g3,gC⟩;dsimp only;refine wpS_bind (wpS_mono (wpS_forRange (I:=fun _ c u=>u=t∧c=(none,())) (Q:=fun c u=>u=t∧c=(none,())) ?_ (fun _ _ z=>z) ⟨rfl,rfl⟩) ?_)
  ·rintro x c u _ _ ⟨rfl,rfl⟩;refine wpS_bind (wpS_get ?_);rw[if_pos (by rw[g3];exact Nat.le_refl 1)];exact wpS_pure ⟨rfl,rfl⟩
  ·rintro c u ⟨rfl,rfl⟩;exact wpS_pure (h _ g1 g2 gC)
end
noncomputable def ltI:List Int→List Int→Bool
 |[],[]=>false
 |[],_::_=>true
 |_::_,[]=>false
 |a::x,b::y=>if a=b then ltI x y else decide (a<b)
theorem wy:∀a,ltI a a=false
 |[]=>rfl
 |_::x=>by simp[ltI,wy x]
theorem sR:∀a b c,ltI a b=true→ltI b c=true→ltI a c=true
 |[],[],_,h,_=>by cases h
 |[],_::_,[],_,h=>by cases h
 |[],_::_,_::_,_,_=>rfl
 |_::_,[],_,h,_=>by cases h
 |_::_,_::_,[],_,h=>by cases h
 |a::x,b::y,c::z,h1,h2=>by
  simp only[ltI]at h1 h2 ⊢;by_cases ai:a=b
  ·subst ai;rw[if_pos rfl]at h1;by_cases au:a=c
   ·subst au;rw[if_pos rfl]at h2 ⊢;exact sR x y z h1 h2
   ·rw[if_neg au]at h2 ⊢;exact h2
  ·rw[if_neg ai]at h1;have h1:=of_decide_eq_true h1;by_cases au:b=c
   ·subst au;rw[if_neg ai];exact decide_eq_true h1
   ·rw[if_neg au]at h2;have h2:=of_decide_eq_true h2;rw[if_neg (by omega)];exact decide_eq_true (by omega)
theorem sQ:∀a b,ltI a b=false→ltI b a=false→a=b
 |[],[],_,_=>rfl
 |[],_::_,h,_=>by cases h
 |_::_,[],_,h=>by cases h
 |a::x,b::y,h1,h2=>by
  simp only[ltI]at h1 h2;by_cases e:a=b
  ·subst e;rw[if_pos rfl]at h1 h2;rw[sQ x y h1 h2]
  ·rw[if_neg e]at h1;rw[if_neg (fun z=>e z.symm)]at h2;have h1:=of_decide_eq_false h1;have h2:=of_decide_eq_false h2;exact absurd (by omega) e
theorem Bv(a b c:List Int)(h:ltI a c=true):ltI a b=true∨ltI b c=true:=by
 cases ai:ltI a b with
 |true=>exact .inl rfl
 |false=>
  cases au:ltI b c with
  |true=>exact .inr rfl
  |false=>
   exfalso;cases bB:ltI b a with
   |true=>rw[sR b a c bB h]at au;cases au
   |false=>rw[sQ a b ai bB,au]at h;cases h
section
variable{prog:Program}{w:World}{A:Around}{E:Value→Shared→Prop}{s:Shared}
theorem Nq{a b:Int}{t u:Tok}{Q:Value→Shared→Prop}(h:Q (.bool (decide (a<b))) s):wpAny (model prog w) A (richCompare .Lt (.int a t) (.int b u)) Q E s:=
 wpAny_richCompare_same (op:=.Lt) (typeIs_int s a t) (typeIs_int s b u) slot_int_lt (call_int_lt ⟨(fun e=>nomatch e),h⟩)
theorem JB{x y:List Int}{a b:Addr}{P:Fin→Shared→Prop}(hx:IsTupleKey (intKind prog w) s.heap x a)(cF:IsTupleKey (intKind prog w) s.heap y b)(h:P (.done (.ret (.bool (ltI x y)))) s) :
  wpAny (model prog w) A (Builtin.«tuple.__lt__» ⟨[.ref a,.ref b],[]⟩) P E s:=by
 have tb:=cF.typeIs;obtain⟨LF,xs,na,iC,_,FV,Jp⟩:=hx;obtain⟨aR,ys,nb,Na,_,db,Jq⟩:=cF;show wpAny _ _ (isInstance (.ref b) (.type "tuple")>>=_) _ _ s;refine wpAny_bind (wpAny_isInstance tb isSubtype_tuple_tuple ?_);simp only[Bool.not_true,Bool.false_eq_true,if_false];refine wpAny_bind (wpAny_tupleItemsOf iC FV (wpAny_bind (wpAny_tupleItemsOf Na db (wpAny_bind ?_))));refine wpAny_forIn_list _ (fun rest r s'=>r.1=none∧s'=s∧∃oW rp fe ys',rest=List.zip fe ys'∧ItemsAre (intKind prog w) oW fe∧ItemsAre (intKind prog w) rp ys'∧ltI oW rp=ltI x y∧decide (fe.length<ys'.length)=decide (xs.size<ys.size)) _ ?_ ?_ _ _ ⟨rfl,rfl,x,y,xs.toList,ys.toList,rfl,Jp,Jq,rfl,by simp⟩
 ·rintro⟨u,v⟩ rest r s' ⟨hr,rfl,oW,rp,fe,ys',bq,h1,h2,hl,aI⟩;cases h1 with
  |nil=>simp at bq
  | @cons k1 jc dW kk g1 h1=>
    cases h2 with
    |nil=>simp at bq
    | @cons k2 iE fg QE g2 h2=>
      simp only[List.zip_cons_cons,List.cons.injEq,Prod.mk.injEq]at bq;obtain⟨⟨rfl,rfl⟩,rfl⟩:=bq;refine wpAny_bind ((intKind prog w).eqBool g1 g2 ?_);by_cases e:k1=k2
      ·subst e;simp only[decide_true,Bool.not_true,Bool.false_eq_true,if_false];refine wpAny_pure ⟨rfl,rfl,dW,fg,kk,QE,rfl,h1,h2,?_,by simpa using aI⟩;rw[←hl];simp[ltI]
      ·simp only[decide_eq_false e,Bool.not_false,if_true];obtain⟨t1,rfl⟩:=Value.isInt_shape g1;obtain⟨dh,rfl⟩:=Value.isInt_shape g2;refine wpAny_bind (wpAny_rule (wpAny_bind (Nq ?_)));rw[←hl]at h;simp only[ltI,if_neg e]at h;exact wpAny_bind (wpAny_pure (wpAny_pure (wpAny_pure h)))
 ·rintro⟨ao,a7⟩ s' ⟨hr,rfl,oW,rp,fe,ys',bq,h1,h2,hl,aI⟩;simp only at hr;subst hr;refine wpAny_pure ?_;have fin:decide (xs.size<ys.size)=ltI x y:=by
   rw[←hl,←aI];cases h1 with
   |nil=>cases h2<;>simp[ltI]
   |cons _ _=>cases h2 with
    |nil=>simp[ltI]
    |cons _ _=>simp at bq
  show P (.done (.ret (.bool (decide (xs.size<ys.size))))) s';rw[fin];exact h
theorem Nr{x y:List Int}{a b:Addr}{Q:Value→Shared→Prop}(hu:A.units<cLine)(hx:IsTupleKey (intKind prog w) s.heap x a)(cF:IsTupleKey (intKind prog w) s.heap y b)(h:Q (.bool (ltI x y)) s) :
  wpAny (model prog w) A (richCompare .Lt (.ref a) (.ref b)) Q E s:=
 wpAny_richCompare_same_room (op:=.Lt) hx.typeIs cF.typeIs F.slot_tuple_lt (wpAny_call_entry F.slot_tuple_lt hx.typeIs F.entry_tuple_lt (JB hx cF ⟨_,rfl,(fun e=>nomatch e),h⟩) (F.args_tuple_lt_2 _ _)) hu
structure f9(prog:Program)(w:World)(h:Heap)(v:Value)(k:Int×Int×Int):Prop where
 ex:∃a o m b t,v=.ref a∧h.get? a=some o∧o.cls=.type "tuple"∧o.data=.seq #[.int k.1 t,.ref b] m∧IsTupleKey (intKind prog w) h [k.2.1,k.2.2] b
def e8(k:Int×Int×Int):List Int:=[k.1,k.2.1,k.2.2]
theorem f9.inj{h:Heap}{v:Value}{k k':Int×Int×Int}(x:f9 prog w h v k)(y:f9 prog w h v k'):k=k':=by obtain⟨a,o,m,b,t,rfl,ho,hc,hd,hb⟩:=x.ex;obtain⟨kr,bw,ew,jV,t',e,ho',su,iZ,js⟩:=y.ex;cases e;rw[ho]at ho';cases ho';rw[hd]at iZ;simp at iZ;obtain⟨⟨⟨ai,_⟩,rfl⟩,_⟩:=iZ;have au:=hb.inj js;simp at au;obtain⟨k1,k2,k3⟩:=k;obtain⟨JT,JU,JV⟩:=k';simp at ai au ⊢;exact⟨ai,au⟩
theorem Ka(b:Bool)(x y:Value):keyLt' (tuples' b) x y=(do
  let xs ←Builtin.List.listItems x;let ys ←Builtin.List.listItems y
  for ((p,q),i) in(xs.toList.zip ys.toList).zipIdx do
   if !(←eqBool p q)then return ←oneLt' (b&&i==0) p q
  return xs.size<ys.size):=rfl
theorem LR{x y:Value}{Q:Bool→Shared→Prop}(h:wpAny (model prog w) A (richCompare .Lt x y) (fun v s'=>∃c,v=.bool c∧Q c s') E s):wpAny (model prog w) A (oneLt' false x y) Q E s:=by rw[oneLt'_eq];simp only[Bool.false_eq_true,if_false];refine wpAny_bind (wpAny_mono h (fun v s'⟨c,e,q⟩=>?_) fun _ _ e=>e);subst e;exact wpAny_truthy_bool q
theorem KU{x y:Value}{k k':Int×Int×Int}{Q:Bool→Shared→Prop}(hu:A.units<cLine)(hx:f9 prog w s.heap x k)(cF:f9 prog w s.heap y k')(h:Q (ltI (e8 k) (e8 k')) s):wpAny (model prog w) A (keyLt' (tuples' true) x y) Q E s:=by
 obtain⟨a,o,m,b,t,rfl,ho,hc,hd,hb⟩:=hx.ex;obtain⟨kr,bw,ew,jV,t',rfl,ho',su,iZ,js⟩:=cF.ex;rw[Ka];refine wpAny_bind (listItems_at ho hd (wpAny_bind (listItems_at ho' iZ ?_)));simp only[List.zip_cons_cons,List.zip_nil_left,List.zipIdx_cons,List.zipIdx_nil,List.forIn_cons,List.forIn_nil,e8,ltI]at h ⊢;refine wpAny_bind (wpAny_bind (wpAny_bind (wpAny_eqBool_int ?_)));by_cases e:k.1=k'.1
 ·rw[if_pos e]at h;rw[if_neg (by simp[e])];refine wpAny_pure ?_;dsimp only;refine wpAny_bind (wpAny_bind (wpAny_eqBool_tuple hu hb js ?_));by_cases au:k.2.1=k'.2.1∧k.2.2=k'.2.2
  ·rw[if_neg (by simp[au.1,au.2])];rw[if_pos au.1,if_pos au.2]at h;exact wpAny_pure (wpAny_pure (wpAny_pure h))
  ·rw[if_pos (by simp;exact Classical.not_and_iff_not_or_not.mp au)];refine wpAny_bind (LR (Nr hu hb js ⟨_,rfl,wpAny_pure (wpAny_pure (wpAny_pure ?_))⟩));simpa only[ltI]using h
 ·rw[if_neg e]at h;rw[if_pos (by simpa using e)];exact wpAny_bind (oneLt_int (wpAny_pure (wpAny_pure (wpAny_pure h))))
def L8:KeyOrd:=⟨List Int,ltI,wy,sR,Bv,sQ⟩
open Classical in
noncomputable def sJ(prog:Program)(w:World)(h:Heap):KeyKind:={ L8 with keyOf:=fun v=>if q:∃k,f9 prog w h v k then some (e8 (choose q))else none,dflt:=[] }
theorem wm{h:Heap}{v:Value}{k:Int×Int×Int}(x:f9 prog w h v k):(sJ prog w h).keyOf v=some (e8 k):=by have q:∃k,f9 prog w h v k:=⟨k,x⟩;exact(dif_pos q).trans (congrArg (fun z=>some (e8 z)) ((Classical.choose_spec q).inj x))
theorem f9.mono{h h':Heap}{v:Value}{k:Int×Int×Int}(m:∀b o,h.get? b=some o→h'.get? b=some o)(x:f9 prog w h v k):f9 prog w h' v k:=by obtain⟨a,o,ee,b,t,e,ho,hc,hd,b2,it,n,g,r⟩:=x.ex;exact⟨a,o,ee,b,t,e,m _ _ ho,hc,hd,b2,it,n,m _ _ g,r⟩
theorem wA{β:Type}{f:Value→Sem β}{g:Value→β}:∀{vs:List Value}{Q:List β→Shared→Prop},(∀v∈vs,∀(R:β→Shared→Prop),R (g v) s→wpAny (model prog w) A (f v) R E s)→Q (vs.map g) s→wpAny (model prog w) A (vs.mapM f) Q E s
 |[],Q,_,h=>by rw[List.mapM_nil];exact wpAny_pure h
 |v::vs,Q,hf,h=>by rw[List.mapM_cons];refine wpAny_bind (hf v (by simp) _ (wpAny_bind (wA (fun u hu=>hf u (by simp[hu])) (wpAny_pure h))))
theorem Kh{vs:List Value}{g:Value→Value}{T:String}{Q:SortKind→Shared→Prop}(aI:vs≠[])(h1:∀v∈vs,∃a o m r,v=.ref a∧s.heap.get? a=some o∧o.cls=.type "tuple"∧o.data=.seq (g v::r).toArray m)(h2:∀v∈vs,s.TypeIs (g v) T)(h:Q (tuples' (Value.type T !=.type "tuple")) s) :
  wpAny (model prog w) A (keyKind' vs.toArray) Q E s:=by
 rw[keyKind'_eq,List.mapM_toArray];rw[map_eq_pure_bind];refine wpAny_bind (wpAny_bind (wA (g:=fun v=>some (g v)) (fun v hv R pS=>?_) (wpAny_pure ?_)))
 ·obtain⟨a,o,m,r,rfl,ho,hc,hd⟩:=h1 v hv;show wpAny _ _ (typeOf (.ref a)>>=_) R E s;refine wpAny_bind (wpAny_typeOf ⟨o,ho,hc⟩ ?_);rw[if_neg (by simp)];refine wpAny_bind (listItems_at ho hd (wpAny_pure ?_));simpa using pS
 ·rw[if_pos (by simp)];refine wpAny_bind (wpAny_rule ?_);have e:Array.filterMap id (vs.map fun v=>some (g v)).toArray=(vs.map g).toArray:=by simp
  rw[e,oneTypeOnly'_eq,List.mapM_toArray,map_eq_pure_bind];refine wpAny_bind (wpAny_bind (wpAny_bind (wA (g:=fun _=>.type T) (fun v hv R pS=>?_) (wpAny_pure ?_))))
  ·obtain⟨u,hu,rfl⟩:=List.mem_map.mp hv;exact wpAny_typeOf (h2 u hu) pS
  ·obtain⟨v,r,rfl⟩:=List.exists_cons_of_ne_nil aI;have b6:(List.map (fun _=>Value.type T) (List.map g (v::r))).toArray[0]?=some (.type T):=by simp
   rw[b6];dsimp only;rw[if_pos (by simp)];exact wpAny_pure (wpAny_pure h)
end
section
variable{prog:Program}{w:World}{A:Around}{E:Value→Shared→Prop}{s:Shared}
theorem xF{a:Addr}{vs:List Value}{n:Nat}{κ:KeyKind}{kd:SortKind}{P:Fin→Shared→Prop}(ho:s.heap.get? a=some (seqObj "list" vs.toArray n))(mR:vs.length<64)(hk:∀h':Heap,(∀b o,b≠a→s.heap.get? b=some o→h'.get? b=some o)→vs≠[]→(∀R:SortKind→Shared→Prop,R kd { s with heap:=h' }→wpAny (model prog w) A (keyKind' vs.toArray) R E { s with heap:=h' })∧jM prog w A { s with heap:=h' } kd κ (pairsOf vs))(h:∀t:SortSt,(arrOf t).Perm (pairsOf vs)→SortedToK κ (arrOf t) (pairsOf vs).size→P (.done (.ret .none)) { s with heap:=sortedHeap s.heap a vs ((arrOf t).map (·.2)) }) :
  wpAny (model prog w) A (Builtin.«list.sort» ⟨[.ref a],[]⟩) P E s:=by
 rw[list_sort_plain];have ha:a<s.heap.objs.size:=Heap.lt_size ho;obtain⟨ai,g1⟩:∃ai,(s.heap.update a (Obj.mapSeq fun _=> #[])).get? a=some (seqObj "list" #[] ai):=⟨_,get?_update_seq ho (fun _=> #[])⟩;refine wpAny_bind (listItems_at ho rfl (wpAny_bind (listUpdate_at ho rfl (wpAny_bind (seqEpoch_at g1 rfl (wpAny_bind (wpAny_newTuple (wpAny_bind (wpAny_newList (wpAny_holding ?_))))))))));have keep:∀b o,b≠a→s.heap.get? b=some o→(((s.heap.update a (Obj.mapSeq fun _=> #[])).push (seqObj "tuple" vs.toArray 0)).push (seqObj "list" #[] 0)).get? b=some o:=fun b o nb e=>
  Heap.get?_push_of_some _ (Heap.get?_push_of_some _ (by rw[Heap.get?_update_ne _ _ _ _ nb];exact e))
 have mP:(((s.heap.update a (Obj.mapSeq fun _=> #[])).push (seqObj "tuple" vs.toArray 0)).push (seqObj "list" #[] 0)).get? a=some (seqObj "list" #[] ai):=Heap.get?_push_of_some _ (Heap.get?_push_of_some _ g1);show wpAny (model prog w) A _ P E { s with heap:=((s.heap.update a (Obj.mapSeq fun _=> #[])).push (seqObj "tuple" vs.toArray 0)).push (seqObj "list" #[] 0) };dsimp only;by_cases z:vs.toArray.size<2
 ·rw[if_pos z,if_pos z];refine wpAny_bind (wpAny_pure ?_);rw[StateT.run_pure];refine wpAny_bind (wpAny_pure (wpAny_bind (seqEpoch_at mP rfl (wpAny_bind (listUpdate_at mP rfl ?_ (hsz2:=by rw[Array.size_map];show(pairsOf vs).size≤_;rw[pairsOf_size,sizeLine_eq];omega))))));simp only[bne_self_eq_false,Bool.false_eq_true,if_false];refine wpAny_pure (h (SortSt.mk' general' (vs.toArray.zip vs.toArray) #[] 7 none) (Array.Perm.refl _) fun i j c d=>?_);have z:vs.length<2:=by simpa using z
  have:i=j:=by rw[pairsOf_size]at d;omega
  subst this;exact KeyOrd.kle_refl _
 ·rw[if_neg z,if_neg z];have z:¬vs.length<2:=by simpa using z
  obtain⟨k1,k2⟩:=hk _ keep (by intro e;subst e;simp at z)
  refine wpAny_bind (k1 _ (wpAny_bind (wpAny_mono (NG (κ:=κ) k2 (st:=SortSt.mk' kd (vs.toArray.zip vs.toArray) #[] 7 none) (Q:=fun _ t=>(arrOf t).Perm (pairsOf vs)∧failedOf t=none∧SortedToK κ (arrOf t) (pairsOf vs).size)
   ⟨rfl,Array.Perm.refl _,rfl,rfl⟩ (by rw[pairsOf_size];omega) (by rw[pairsOf_size];exact mR) fun t a1 a2 jl=>⟨a1,a2,jl⟩) ?_ fun _ _ e=>e)))
  rintro⟨⟨⟩,t⟩ s' ⟨rfl,hp,hf,hs⟩;dsimp only;refine wpAny_bind (seqEpoch_at mP rfl (wpAny_bind (listUpdate_at mP rfl ?_ (hsz2:=by refine Nat.le_trans (Nat.le_of_eq ((Array.size_map ..).trans (hp.size_eq.trans (pairsOf_size _)))) ?_;rw[sizeLine_eq];omega))));rw[hf];simp only[bne_self_eq_false,Bool.false_eq_true,if_false];exact wpAny_pure (h t hp hs)
theorem OK{l:Addr}{vs:List Value}{κ:KeyKind}{kd:SortKind}{Q:Value→Shared→Prop}(hl:s.heap.IsList l vs.toArray)(mR:vs.length<64)(hk:∀(h':Heap)(nA:Around)(o6:Value→Shared→Prop),nA.units≤A.units+8→(∀b o,s.heap.get? b=some o→h'.get? b=some o)→vs≠[]→(∀R:SortKind→Shared→Prop,R kd { s with heap:=h' }→wpAny (model prog w) nA (keyKind' vs.toArray) R o6 { s with heap:=h' })∧jM prog w nA { s with heap:=h' } kd κ (pairsOf vs))(h:∀t:SortSt,(arrOf t).Perm (pairsOf vs)→SortedToK κ (arrOf t) (pairsOf vs).size→Q (.ref (s.heap.objs.size+1)) { s with heap:=sortedAll s.heap vs ((arrOf t).map (·.2)) }) :
  wpAny (model prog w) A (call (.builtin "sorted") [.ref l]) Q E s:=by
 refine Calls.call_function_entry kind_sorted plain_sorted entry_sorted (args_sorted1 _) ?_;unfold Builtin.«sorted»;refine wpAny_bind (m:=checkCount "sorted" 1 1 _) (wpAny_pure (wpAny_bind (collect_list hl (wpAny_bind (wpAny_newList ?_)))));have bq:((s.heap.push (seqObj "list" #[] 0)).update s.heap.objs.size (Obj.mapSeq (· ++vs.toArray))).objs.size=s.heap.objs.size+1:=by rw[Heap.size_update,size_push']
 have g:(((s.heap.push (seqObj "list" #[] 0)).update s.heap.objs.size (Obj.mapSeq (· ++vs.toArray))).push (seqObj "list" vs.toArray 0)).get? (s.heap.objs.size+1)=some (seqObj "list" vs.toArray 0):=by rw[←bq];exact Heap.get?_push_size _ rfl
 have keep:∀b o,s.heap.get? b=some o→(((s.heap.push (seqObj "list" #[] 0)).update s.heap.objs.size (Obj.mapSeq (· ++vs.toArray))).push (seqObj "list" vs.toArray 0)).get? b=some o:=fun b o e=>
  Heap.get?_push_of_some _ (by rw[Heap.get?_update_ne _ _ _ _ (Nat.ne_of_lt (Heap.lt_size e))];exact Heap.get?_push_of_some _ e)
 show wpAny _ _ _ _ _ { s with heap:=((s.heap.push (seqObj "list" #[] 0)).update s.heap.objs.size (Obj.mapSeq (· ++vs.toArray))).push (seqObj "list" vs.toArray 0) };rw[bq];refine wpAny_bind (wpAny_holding (wpAny_call_entry slot_list_sort ⟨_,g,rfl⟩ entry_list_sort (xF g mR (fun h' k ne=>hk h' _ _ (by simp only[Around.in1_units];omega) (fun b o e=>k b o (fun z=>absurd (z▸Heap.lt_size e) (by have:=Heap.lt_size e;exact fun q=>absurd q (Nat.not_lt.mpr (Nat.le_succ _)))) (keep b o e)) ne) fun t a1 a2=>⟨_,rfl,?_⟩) (args_list_sort _)))
 exact wpAny_pure ⟨_,rfl,h t a1 a2⟩
end
def ix(a b:Int×Int×Int):Bool:=!ltI (e8 b) (e8 a)
def kf(ks:List (Int×Int×Int)):List (Int×Int×Int):=ks.mergeSort ix
theorem qY(ks:List (Int×Int×Int)):(kf ks).Perm ks:=List.mergeSort_perm _ _
theorem Hw{a b:Int×Int×Int}(h:e8 a=e8 b):a=b:=by obtain⟨a1,a2,jl⟩:=a;obtain⟨e5,dZ,QU⟩:=b;simp only[e8,List.cons.injEq,and_true]at h;simp only[Prod.mk.injEq];exact h
theorem KI(a b c:Int×Int×Int)(h1:ix a b=true)(h2:ix b c=true):ix a c=true:=by
 unfold ix at*;cases e:ltI (e8 c) (e8 a)with
 |false=>rfl
 |true=>
  rcases Bv _ (e8 b) _ e with z|z
  ·rw[z]at h2;cases h2
  ·rw[z]at h1;cases h1
theorem KH(a b:Int×Int×Int):(ix a b||ix b a)=true:=by
 unfold ix;cases e:ltI (e8 b) (e8 a)with
 |false=>rfl
 |true=>
  cases au:ltI (e8 a) (e8 b)with
  |false=>rfl
  |true=>have:=sR _ _ _ e au;rw[wy]at this;cases this
theorem ON{ks l:List (Int×Int×Int)}(p:l.Perm ks)(h:l.Pairwise fun a b=>ix a b=true):l=kf ks:=
 List.Perm.eq_of_pairwise (le:=fun a b=>ix a b=true) (fun a b _ _ h1 h2=>by unfold ix at h1 h2;exact Hw (sQ _ _ (by simpa using h2) (by simpa using h1))) h (List.pairwise_mergeSort KI KH ks) (p.trans (qY ks).symm)
section
variable{prog:Program}{w:World}{A:Around}{E:Value→Shared→Prop}{s:Shared}
theorem OJ{l:Addr}{vs:List Value}{ks:List (Int×Int×Int)}{Q:Value→Shared→Prop}(hu:A.units+64<cLine)(hl:s.heap.IsList l vs.toArray)(mR:vs.length<64)(aI:vs.length=ks.length)(hk:∀(i:Nat) v k,vs[i]?=some v→ks[i]?=some k→f9 prog w s.heap v k)(h:∀hF:List Value,hF.length=vs.length→(∀(i:Nat) v k,hF[i]?=some v→(kf ks)[i]?=some k→v∈vs∧f9 prog w s.heap v k)→Q (.ref (s.heap.objs.size+1)) { s with heap:=sortedAll s.heap vs hF.toArray }) :
  wpAny (model prog w) A (call (.builtin "sorted") [.ref l]) Q E s:=by
 classical
 have all:∀v∈vs,∃k,f9 prog w s.heap v k:=fun v hv=>by obtain⟨i,hi,rfl⟩:=List.getElem_of_mem hv;exact⟨_,hk i _ _ (List.getElem?_eq_getElem hi) (List.getElem?_eq_getElem (by omega))⟩
 obtain⟨kM,lK⟩:∃kM:Value→Int×Int×Int,∀v∈vs,f9 prog w s.heap v (kM v):=⟨fun v=>if q:∃k,f9 prog w s.heap v k then Classical.choose q else default,fun v hv=>by have q:=all v hv;simp only[dif_pos q];exact Classical.choose_spec q⟩
 have G3:ks=vs.map kM:=by
  apply List.ext_getElem?;intro i;rw[List.getElem?_map];cases e:vs[i]? with
  |none=>rw[List.getElem?_eq_none_iff]at e;simp;omega
  |some v=>have hi:=(List.getElem?_eq_some_iff.mp e).1;have au:ks[i]?=some ks[i]:=List.getElem?_eq_getElem (by omega);rw[au,(hk i v _ e au).inj (lK v (List.mem_of_getElem? e))];rfl
 have pm:∀p∈(pairsOf vs).toList,p.1=p.2∧p.1∈vs:=fun p hp=>by rw[pairsOf_toList]at hp;exact mem_zip_self hp
 refine OK (κ:=sJ prog w s.heap) (kd:=tuples' true) hl mR (fun h' nA o6 iU aA ne=>⟨fun R pS=>?_,⟨fun QK x y QM hx cF iV=>?_⟩⟩) fun t hp hs=>?_
 ·have g:∀v∈vs,∃u,(∃a o m r,v=Value.ref a∧h'.get? a=some o∧o.cls=.type "tuple"∧o.data=.seq (u::r).toArray m)∧Shared.TypeIs { s with heap:=h' } u "int":=fun v hv=>by
    obtain⟨a,o,m,b,t,e,ho,hc,hd,hb⟩:=((lK v hv).mono aA).ex;exact⟨_,⟨a,o,m,[.ref b],e,ho,hc,hd⟩,typeIs_int _ _ _⟩
  obtain⟨sl,Av⟩:∃sl:Value→Value,∀v∈vs,(∃a o m r,v=Value.ref a∧h'.get? a=some o∧o.cls=.type "tuple"∧o.data=.seq (sl v::r).toArray m)∧Shared.TypeIs { s with heap:=h' } (sl v) "int":=⟨fun v=>if q:∃u,(∃a o m r,v=Value.ref a∧h'.get? a=some o∧o.cls=.type "tuple"∧o.data=.seq (u::r).toArray m)∧Shared.TypeIs { s with heap:=h' } u "int" then Classical.choose q else .none,fun v hv=>by have q:=g v hv;simp only[dif_pos q];exact Classical.choose_spec q⟩
  exact Kh (s:={ s with heap:=h' }) (g:=sl) (T:="int") ne (fun v hv=>(Av v hv).1) (fun v hv=>(Av v hv).2) pS
 ·obtain⟨_,dW⟩:=pm x hx;obtain⟨_,fg⟩:=pm y cF;rw[wm (lK _ dW),wm (lK _ fg)]at iV;exact KU (s:={ s with heap:=h' }) (by omega) ((lK _ dW).mono aA) ((lK _ fg).mono aA) iV
 ·obtain⟨hF,ev⟩:∃hF:List Value,hF=(arrOf t).toList.map (·.2):=⟨_,rfl⟩;have vm:(arrOf t).map (·.2)=hF.toArray:=by rw[ev];apply Array.ext';simp
  have kN:(arrOf t).toList.Perm (pairsOf vs).toList:=Array.perm_iff_toList_perm.mp hp;have Ge:∀p∈(arrOf t).toList,p.1=p.2∧p.1∈vs:=fun p hp=>pm p (kN.mem_iff.mp hp);have tr:hF.Perm vs:=by
   rw[ev];have:=kN.map (·.2);rw[pairsOf_toList]at this;have e:(vs.zip vs).map (·.2)=vs:=by
    have:∀l:List Value,(l.zip l).map (·.2)=l:=fun l=>by induction l with
     |nil=>rfl
     |cons a l ck=>simp[ck]
    exact this vs
   rwa [e]at this
  have OM:(hF.map kM).Pairwise fun a b=>ix a b=true:=by
   rw[List.pairwise_iff_getElem];intro i j hi b4 H2;have li:i<(arrOf t).toList.length:=by rw[ev]at hi;simpa using hi
   have KQ:j<(arrOf t).toList.length:=by rw[ev]at b4;simpa using b4
   have Oz:i<(arrOf t).size:=by simpa using li
   have C7:j<(arrOf t).size:=by simpa using KQ
   have q:=hs i j (Nat.le_of_lt H2) (by rw[←hp.size_eq];exact C7);have cq:∀n(aI:n<(arrOf t).size),KK (sJ prog w s.heap) (arrOf t) n=e8 (kM (arrOf t)[n].2):=fun n aI=>by have m:=Ge (arrOf t)[n] (by simp);unfold KK;rw[Array.getElem?_eq_getElem aI];show((sJ prog w s.heap).keyOf (arrOf t)[n].1).getD _=_;rw[wm (lK _ m.2),m.1];rfl
   rw[cq i Oz,cq j C7]at q;have q:ltI (e8 (kM (arrOf t)[j].2)) (e8 (kM (arrOf t)[i].2))=false:=q;unfold ix;simp only[ev,List.getElem_map,Array.getElem_toList];rw[q];rfl
  have af:hF.map kM=kf ks:=ON (by rw[G3];exact tr.map kM) OM;rw[vm];refine h hF tr.length_eq fun i v k ai au=>?_;have mv:v∈vs:=tr.mem_iff.mp (List.mem_of_getElem? ai);rw[←af,List.getElem?_map,ai]at au;simp at au;exact⟨mv,by rw[←au];exact lK v mv⟩
end
end LT
namespace aV
open PySem PySem.Spec PyProof.Rows
section
variable{X:aC}
noncomputable def ij(H:J)(y:V)(k:Int×Int×Int):Prop:=∃a b,y=.ref a∧H a=some (.tup [.int k.1,.ref b])∧H b=some (.tup [.int k.2.1,.int k.2.2])
theorem Bd{pins:List (Addr×Obj)}{σ :St}{H:J}{s:Shared}{y:V}{u:Value}{k:Int×Int×Int}(I:Inv X pins σ H s)(r:RelV y u)(h:ij H y k):LT.f9 X.prog X.w s.heap u k:=by
 obtain⟨a,b,rfl,ha,hb⟩:=h;cases r;obtain⟨_,its,v1,o,ho,hc,n,hd⟩:=(show dG X.prog X.w H s.heap a (.tup _)from I.bc a _ ha);obtain⟨_,dn,v2,b2,Ia,iY,dv,hd2⟩:=(show dG X.prog X.w H s.heap b (.tup _)from I.bc b _ hb);cases v1 with
 |cons d5 t1=>
  cases t1 with
  |cons dW dh=>
   cases dh;obtain⟨t,rfl⟩:=d5;cases dW;cases v2 with
   |cons ff tW=>
    cases tW with
    |cons fg nq=>cases nq;obtain⟨t1,rfl⟩:=ff;obtain⟨dh,rfl⟩:=fg;exact⟨a,o,n,b,t,rfl,ho,hc,hd,b2,_,dv,Ia,iY,hd2,.cons (intKind_is _ _ _ _) (.cons (intKind_is _ _ _ _) .nil)⟩
noncomputable def Nj(K:PySem.W.Frag):List V→J→bT→Prop:=fun xs H Q=>∃p ys ks,xs=[.ref p]∧bx K H p ys∧ys.length<64∧ys.length=ks.length∧(∀(i:Nat) y k,ys[i]?=some y→ks[i]?=some k→ij H y k)∧
 ∀l zs,H l=none→zs.length=ys.length→(∀(i:Nat) z k,zs[i]?=some z→(LT.kf ks)[i]?=some k→z∈ys∧ij H z k)→Q (.ref l) (upd H l (.lst zs))
theorem ij.inj{H:J}{y:V}{k k':Int×Int×Int}(x:ij H y k)(z:ij H y k'):k=k':=by obtain⟨a,b,rfl,ha,hb⟩:=x;obtain⟨kr,jV,e,iX,js⟩:=z;cases e;rw[ha]at iX;simp only[Option.some.injEq,cJ.tup.injEq,List.cons.injEq,V.int.injEq,V.ref.injEq,and_true]at iX;obtain⟨ai,rfl⟩:=iX;rw[hb]at js;simp only[Option.some.injEq,cJ.tup.injEq,List.cons.injEq,V.int.injEq,and_true]at js;obtain⟨k1,k2,k3⟩:=k;obtain⟨JT,JU,JV⟩:=k';simp only[Prod.mk.injEq];exact⟨ai,js⟩
theorem D2{κ:Type}{R:V→κ→Prop}:∀{vs:List Value}{ks:List κ},vs.length=ks.length→(∀(i:Nat) v k,vs[i]?=some v→ks[i]?=some k→∃z,RelV z v∧R z k)→∃zs,Vals zs vs∧zs.length=vs.length∧∀(i:Nat) z k,zs[i]?=some z→ks[i]?=some k→R z k
 |[],_,_,_=>⟨[],.nil,rfl,fun i z k e=>by simp at e⟩
 |v::vs,[],h,_=>by simp at h
 |v::vs,k::ks,h,g=>by
  obtain⟨z,a8,aX⟩:=g 0 v k rfl rfl;obtain⟨zs,dH,dV,hG⟩:=D2 (vs:=vs) (ks:=ks) (by simpa using h) fun i v k ai au=>g (i+1) v k (by simpa using ai) (by simpa using au);refine⟨z::zs,.cons a8 dH,by simp[dV],fun i f6 k' ai au=>?_⟩;cases i with
  |zero=>simp at ai au;subst ai au;exact aX
  |succ i=>exact hG i f6 k' (by simpa using ai) (by simpa using au)
theorem Fu(hu:X.A.units+64<cLine):jg X (.builtin "sorted") (Nj X.K):=by
 intro pins s σ H xs us Q I r h;obtain⟨p,ys,ks,rfl,aH,aI,hk,Az,q⟩:=h;obtain⟨u,rfl,bb⟩:=vals1 r;cases bb;obtain⟨its,aZ,pl,bq⟩:=I.list aH;have hlen:=aZ.length;refine LT.OJ (ks:=ks) hu pl.isList (by omega) (by omega) (fun i v k ai au=>?_) fun hF Ku g=>?_
 ·obtain⟨y,d2,bG⟩:∃y,ys[i]?=some y∧RelV y v:=by
    have hi:i<ys.length:=by rw[hlen];exact(List.getElem?_eq_some_iff.mp ai).1
    obtain⟨iE,bR,bE⟩:=aZ.get (List.getElem?_eq_getElem hi);rw[ai]at bR;cases bR;exact⟨_,List.getElem?_eq_getElem hi,bE⟩
  exact Bd I bG (Az i y k d2 au)
 ·have back:∀v∈its,∃y∈ys,RelV y v:=fun v hv=>by
    obtain⟨i,hi,rfl⟩:=List.getElem_of_mem hv;have Aw:i<ys.length:=by omega
    obtain⟨iE,bR,bE⟩:=aZ.get (List.getElem?_eq_getElem Aw);rw[List.getElem?_eq_getElem hi]at bR;cases bR;exact⟨_,List.getElem_mem Aw,bE⟩
  have find:∀y∈ys,∃k,ij H y k:=fun y cF=>by obtain⟨j,b4,rfl⟩:=List.getElem_of_mem cF;exact⟨_,Az j _ _ (List.getElem?_eq_getElem b4) (List.getElem?_eq_getElem (by omega))⟩
  obtain⟨zs,dH,dV,hG⟩:=D2 (R:=fun z k=>z∈ys∧ij H z k) (vs:=hF) (ks:=LT.kf ks) (by rw[Ku,(LT.qY ks).length_eq];omega) fun i v k ai au=>by obtain⟨g1,g2⟩:=g i v k ai au;obtain⟨y,ff,fg⟩:=back v g1;obtain⟨k',sx⟩:=find y ff;have:=(Bd I fg sx).inj g2;subst this;exact⟨y,fg,ff,sx⟩
  obtain⟨c6,he⟩:=sortedAll_at s.heap its hF.toArray;refine⟨.ref (s.heap.objs.size+1),_,I.laid (a:=s.heap.objs.size+1) (t':=s.toks) (fun b o e=>sortedAll_old e) (Nat.le_succ _) (show dG X.prog X.w _ _ _ (.lst zs)from⟨by rw[sizeLine_eq];omega,hF,c6,dH,he⟩),rfl,q _ zs (I.bc.fresh (Nat.le_succ _)) (by omega) hG⟩
noncomputable def Nf:V→List V→J→bT→Prop:=fun x vs H Q=>∃l xs i y,x=.ref l∧vs=[.int i,y]∧H l=some (.lst xs)∧0≤i∧i<2^63∧xs.length<sizeLine∧Q .non (upd H l (.lst (xs.take (min i.toNat xs.length)++y::xs.drop (min i.toNat xs.length))))
theorem Lk:pb X "list.insert" Nf:=by
 intro pins s σ H x vs v us Q I bb bE h;obtain⟨l,xs,i,y,rfl,rfl,eX,h1,h2,bq,q⟩:=h;cases bb;obtain⟨u,nq,rfl,⟨t,rfl⟩,ei⟩:∃u nq,us=[u,nq]∧RelV (.int i) u∧RelV y nq:=by
  cases bE with
  |cons a1 e5=>cases e5 with
   |cons a2 dZ=>cases dZ;exact⟨_,_,rfl,a1,a2⟩
 obtain⟨z,its,n,r,hl,e⟩:=I.kO eX;refine call_meets F.slot_list_insert ⟨_,e,rfl⟩ F.entry_list_insert (F.args_list_insert_3 _ _ _) (AutoListH.list_insert_list_int_val_1 l its.toArray n i t nq (by rw[fitsIndex_both (by omega) h2];simp) (by rw[List.size_toArray];omega)) ⟨e,?_⟩;refine⟨.non,_,I.qb (its':=its.take (min i.toNat xs.length)++nq::its.drop (min i.toNat xs.length)) eX e ?_ ((r.take _).append (.cons ei (r.drop _))) ?_,rfl,q⟩
 ·dsimp only;rw[if_neg (by omega),List.size_toArray,←hl];apply Array.ext';simp[List.extract_eq_take_drop];exact List.take_of_length_le (by rw[List.length_drop];omega)
 ·rw[List.length_append,List.length_cons,List.length_take,List.length_drop];omega
end
end aV
namespace az
open PySem PySem.Spec aV PyProof.Rows
section
variable{X:aC}{F:a3}{e a b c:Expr}{af:List Expr}{pos p:Pos}{m n:ay}{ma:aN}
def Kb:D→Option Key
 |.int i=>some (.inl i)
 |.str x=>some (.inr x)
 |_=>none
noncomputable def keysOf:List D→Option (List Key)
 |[]=>some []
 |d::ds=>match Kb d,keysOf ds with
  |some k,some ks=>some (k::ks)
  |_,_=>none
def Pl:D→Option (List Key)
 |.tup ds=>keysOf ds
 |_=>none
noncomputable def DJ:List D→Option (List (List Key))
 |[]=>some []
 |d::ds=>match Pl d,DJ ds with
  |some k,some ks=>some (k::ks)
  |_,_=>none
noncomputable def RD:List D→R D
 |[.lst ds]=>if ds.length<77 then match DJ ds with
  |some ks=>.ok (.int (fP.FX ks).length)
  |none=>.bad
  else .bad
 |_=>.bad
noncomputable def qf(i:Nat)(m:ay):fA:=fun ρ=>(ownAt i ρ).bind fun ds=>(m ρ).bind fun d=>match d with
 |.lst af=>if ds.length+af.length≤1000000 then .ok (.non,ρ.set i (.cD (ds++af)))else .bad
 |_=>.bad
theorem P4 (i:Nat) {x:Str} {bA:Pos} {apos:Pos} {cpos:Pos} (he:aW X F e m) (hN:X.N[i]?=some x:=by rfl) (hv:fh X.env.scope x:=by first|exact Or.inl rfl|exact Or.inr (Or.inl rfl)|exact Or.inr (Or.inr rfl)) (hd:(x==("__debug__" :Str))=false:=by decide) (hcd:(x==("__classdict__" :Str))=false:=by decide)(hbase:attributeBase (.Name x bA) "extend" X.env (eval (.Name x bA) X.env)=eval (.Name x bA) X.env:=by rfl) (hline:(apos.endLine==cpos.line)=true:=by rfl)(hfew:((backTo cpos (starEach [e] X.env)).all (fun x=>!x.1)&&(backToKw cpos (keywordEach [] X.env)).all (fun x=>x.1.isSome)
    &&decide (([e]:List Expr).length+([]:List Keyword).length+(if([]:List Keyword).isEmpty then 0 else 1)<30))=true:=by rfl)
  (hs:starEach [e] X.env=(false,eval e X.env)::starEach [] X.env:=by rfl) (hplain:(backTo cpos (starEach [] X.env)).any (·.1)=false:=by rfl) :
  uL X F (.Call (.Attribute (.Name x bA) "extend" apos) [e] [] cpos) (qf i m):=by
 refine⟨aP.imp (qJ PySem.F.plainAttrs_list PySem.F.slot_list_extend PySem.F.type_list_extend Lj (jA hN hv hd hcd) (ic he.1 kb hs) hbase hfew hline hs hplain) ?_⟩;rintro σ H Q ⟨G,ρ,r,h⟩;unfold qf ownAt at h;cases cI:ρ[i]? with
 |none=>rw[cI]at h;exact h.elim
 |some s=>
  rw[cI]at h;cases s with
  |un=>exact h.elim
  |av _=>exact h.elim
  |cW _=>exact h.elim
  |aR aR=>
   cases aR with
   |a4 _ _=>exact h.elim
   |ins _ _ _=>exact h.elim
   |lst ds=>
    obtain⟨q,xs,ai,h1,h2,h3,h4⟩:=r.own cI;rw[R.bh]at h;refine⟨.ref q,ai,.inl ⟨rfl,xs,bx.of h1⟩,G,ρ,r,?_⟩;cases ak:m ρ with
    |bad=>rw[ak]at h;exact h.elim
    |exc c=>rw[ak]at h;exact h
    |ok d=>
     rw[ak,R.bh]at h;intro v H1 aL ao s1 bf;obtain⟨cH,fe,eV,b7,bU,n3,iT⟩:=ao.own cI;rw[ai]at eV;cases eV;cases d with
     |lst af=>
      simp only at h
      split at h
      ·rename_i hl;simp only[At]at bf;obtain⟨bJ,ys,rfl,g2,bL⟩:=bf;refine⟨q,bJ,fe,ys,rfl,rfl,b7,ao.aA.sub _ _ g2,by rw[←iT.length,←bL.length,sizeLine_eq];omega,?_⟩;exact h .non _ aL (ao.mut cI ai (iT.append bL)) s1.g (by simp only[At])
      ·exact h.elim
     |_=>exact h.elim
noncomputable def qg(i:Nat)(m n:ay):fA:=fun ρ=>(ownAt i ρ).bind fun ds=>(m ρ).bind fun d=>(n ρ).bind fun y=>match d with
 |.int k=>if 0≤k∧k<2^63∧ds.length<1000000 then .ok (.non,ρ.set i (.cD (ds.take (min k.toNat ds.length)++y::ds.drop (min k.toNat ds.length))))else .bad
 |_=>.bad
theorem P7 (i:Nat) {x:Str} {bA:Pos} {apos:Pos} {cpos:Pos} (ha:aW X F a m) (hb:aW X F b n) (hN:X.N[i]?=some x:=by rfl) (hv:fh X.env.scope x:=by first|exact Or.inl rfl|exact Or.inr (Or.inl rfl)|exact Or.inr (Or.inr rfl)) (hd:(x==("__debug__" :Str))=false:=by decide) (hcd:(x==("__classdict__" :Str))=false:=by decide)(hbase:attributeBase (.Name x bA) "insert" X.env (eval (.Name x bA) X.env)=eval (.Name x bA) X.env:=by rfl) (hline:(apos.endLine==cpos.line)=true:=by rfl)(hfew:((backTo cpos (starEach [a,b] X.env)).all (fun x=>!x.1)&&(backToKw cpos (keywordEach [] X.env)).all (fun x=>x.1.isSome)
    &&decide (([a,b]:List Expr).length+([]:List Keyword).length+(if([]:List Keyword).isEmpty then 0 else 1)<30))=true:=by rfl)
  (hs:starEach [a,b] X.env=(false,eval a X.env)::starEach [b] X.env:=by rfl) (hs2:starEach [b] X.env=(false,eval b X.env)::starEach [] X.env:=by rfl) (hplain:(backTo cpos (starEach [b] X.env)).any (·.1)=false:=by rfl) :
  uL X F (.Call (.Attribute (.Name x bA) "insert" apos) [a,b] [] cpos) (qg i m n):=by
 refine⟨aP.imp (qJ PySem.F.plainAttrs_list PySem.F.slot_list_insert PySem.F.type_list_insert Lk (jA hN hv hd hcd) (ic ha.1 (ic hb.1 kb hs2) hs) hbase hfew hline hs hplain) ?_⟩;rintro σ H Q ⟨G,ρ,r,h⟩;unfold qg ownAt at h;cases cI:ρ[i]? with
 |none=>rw[cI]at h;exact h.elim
 |some s=>
  rw[cI]at h;cases s with
  |un=>exact h.elim
  |av _=>exact h.elim
  |cW _=>exact h.elim
  |aR aR=>
   cases aR with
   |a4 _ _=>exact h.elim
   |ins _ _ _=>exact h.elim
   |lst ds=>
    obtain⟨q,xs,ai,h1,h2,h3,h4⟩:=r.own cI;rw[R.bh]at h;refine⟨.ref q,ai,.inl ⟨rfl,xs,bx.of h1⟩,G,ρ,r,?_⟩;cases ak:m ρ with
    |bad=>rw[ak]at h;exact h.elim
    |exc c=>rw[ak]at h;exact h
    |ok d=>
     rw[ak,R.bh]at h;intro v H1 aL ao s1 bf;refine⟨aL,ρ,ao,?_⟩;cases bz:n ρ with
     |bad=>rw[bz]at h;exact h.elim
     |exc c=>rw[bz]at h;exact h
     |ok y=>
      rw[bz,R.bh]at h;intro v2 aQ cx a7 s2 Fc;obtain⟨cH,fe,eV,b7,bU,n3,iT⟩:=a7.own cI;rw[ai]at eV;cases eV;cases d with
      |int k=>
       simp only[At]at bf;subst bf;simp only at h
       split at h
       ·rename_i hk;have hl:=iT.length;refine⟨q,fe,k,v2,rfl,rfl,b7,hk.1,hk.2.1,by rw[sizeLine_eq];omega,?_⟩;rw[←hl];exact h .non _ cx (a7.mut cI ai ((iT.take _).append (.cons Fc (iT.drop _)))) (s1.trans s2).g (by simp only[At])
       ·exact h.elim
      |_=>exact h.elim
noncomputable def Bz(ma:aN)(m:ay):aN:=fun ρ=>(ma ρ).bind fun ds=>(m ρ).bind fun d=>match d with
 |.lst af=>if ds.length+af.length≤1000000 then .ok (ds++af)else .bad
 |_=>.bad
noncomputable def By(m n:ay):aN:=fun ρ=>(m ρ).bind fun c=>(n ρ).bind fun d=>match c,d with
 |.lst ds,.lst af=>if ds.length+af.length≤1000000 then .ok (ds++af)else .bad
 |_,_=>.bad
def nX(k:Int×Int×Int):D:=.tup [.int k.1,.tup [.int k.2.1,.int k.2.2]]
def wd:D→Option (Int×Int×Int)
 |.tup [.int n,.tup [.int h,.int d]]=>some (n,h,d)
 |_=>none
noncomputable def mX:List D→Option (List (Int×Int×Int))
 |[]=>some []
 |d::ds=>match wd d,mX ds with
  |some k,some ks=>some (k::ks)
  |_,_=>none
noncomputable def qU:List D→R (List D)
 |[.lst ds]=>if ds.length<64 then match mX ds with
  |some ks=>.ok ((LT.kf ks).map nX)
  |none=>.bad
  else .bad
 |_=>.bad
def sY(m:aN):aN:=fun ρ=>(m ρ).bind qU
theorem J5{d:D}{k:Int×Int×Int}(h:wd d=some k):d=nX k:=by
 unfold wd at h
 split at h
 ·cases h;rfl
 ·cases h
theorem zi{K:PySem.W.Frag}{G:J}{v:V}{k:Int×Int×Int}:At K G (nX k) v↔ij G v k:=by
 unfold nX ij;simp only[At,aE];constructor
 ·rintro⟨a,xs,rfl,g,v1,ao,rfl,rfl,v2,a7,rfl,⟨b,ys,rfl,g2,dH,s1,rfl,rfl,dV,s2,rfl,rfl,rfl⟩,rfl⟩;exact⟨a,b,rfl,g,g2⟩
 ·rintro⟨a,b,rfl,g,g2⟩;exact⟨a,_,rfl,g,_,_,rfl,rfl,_,_,rfl,⟨b,_,rfl,g2,_,_,rfl,rfl,_,_,rfl,rfl,rfl⟩,rfl⟩
theorem Bb:∀{ds:List D}{ks:List (Int×Int×Int)},mX ds=some ks→ds=ks.map nX
 |[],ks,h=>by simp only[mX]at h;cases h;rfl
 |d::ds,ks,h=>by
  simp only[mX]at h
  split at h
  ·rename_i k Rz ai au;cases h;rw[J5 ai,Bb au];rfl
  ·cases h
theorem yN{K:PySem.W.Frag}{G:J}:∀{ds:List D}{xs:List V},xs.length=ds.length→(∀(i:Nat) x d,xs[i]?=some x→ds[i]?=some d→At K G d x)→aE K G ds xs
 |[],[],_,_=>.nil
 |[],_::_,h,_=>by simp at h
 |_::_,[],h,_=>by simp at h
 |d::ds,x::xs,h,g=>.cons (g 0 x d rfl rfl) (yN (by simpa using h) fun i x d ai au=>g (i+1) x d (by simpa using ai) (by simpa using au))
theorem Qk(hu:X.A.units+64<cLine)(hm:X.mg "sorted"=none)(ha:fi X F [e] ma)(hK:F.K=X.K:=by rfl)(hg:cA X "sorted":=by rfl)(he:starEach [e] X.env=(false,eval e X.env)::starEach [] X.env:=by rfl)(hpl:(backTo pos (starEach [] X.env)).any (·.1)=false:=by rfl) :
  iL X F (.Call (.Name "sorted" p) [e] [] pos) (sY ma):=by
 refine⟨aP.imp (qK (Fu hu) hg hm (by kernel_rfl) ha.1 (by decide) (by decide) he hpl) ?_⟩;rintro σ H Q ⟨G,ρ,r,h⟩;unfold sY at h;refine⟨G,ρ,r,?_⟩;cases ak:ma ρ with
 |bad=>rw[ak]at h;exact h.elim
 |exc c=>rw[ak]at h;exact h
 |ok ds=>
  rw[ak,R.bh]at h;intro vs H1 aL ao s1 a;unfold qU at h
  split at h
  ·split at h
   ·split at h
    ·rename_i ks dc;obtain⟨v,rfl,bf⟩:=a.one;simp only[At]at bf;obtain⟨q,xs,rfl,aH,fC⟩:=bf;have hd:=Bb dc;subst hd;have hl:=fC.length;rw[List.length_map]at hl;have Bg:∀(i:Nat) y k,xs[i]?=some y→ks[i]?=some k→ij aL y k:=fun i y k ai au=>by
      obtain⟨rp,bB,c2⟩:=fC.get (i:=i) (d:=nX k) (by rw[List.getElem?_map,au];rfl);rw[ai]at bB;cases bB;exact zi.mp c2
     have up:∀{y k},ij aL y k→ij H1 y k:=fun⟨a,b,e,g1,g2⟩=>⟨a,b,e,ao.aA.sub _ _ g1,ao.aA.sub _ _ g2⟩;rename_i _ gD;rw[List.length_map]at gD;refine⟨q,xs,ks,rfl,bx.of (ao.aA.sub _ _ aH),by omega,by omega,fun i y k ai au=>up (Bg i y k ai au),fun l zs n5 bq hg=>?_⟩;have RN:(LT.kf ks).length=ks.length:=(LT.qY ks).length_eq;refine h l zs _ aL (ao.lay0 n5) (s1.trans (bQ.lay0 n5)) (s1.h.gone n5) c3 (ao.aA.sub.gone n5) (yN (by rw[List.length_map];omega) fun i z d ai au=>?_);rw[List.getElem?_map]at au;cases bB:(LT.kf ks)[i]? with
     |none=>rw[bB]at au;cases au
     |some k=>rw[bB]at au;cases au;obtain⟨ee,eY⟩:=hg i z k ai bB;obtain⟨j,b4,rfl⟩:=List.getElem_of_mem ee;have g1:=Bg j _ _ (List.getElem?_eq_getElem b4) (List.getElem?_eq_getElem (by omega));rw[(up g1).inj eY]at g1;exact zi.mpr g1
    ·exact h.elim
   ·exact h.elim
  ·exact h.elim
def K0(k:Str)(i:Int):ay:=fun _=>.ok (.cj [.inr k] [.int i])
end
section
variable{X:aC}{F:a3}{e a b c:Expr}{af:List Expr}{pos p:Pos}{m n:ay}{ma:aN}
theorem aE.CZ{K:PySem.W.Frag}{G:J}:∀{ds:List D}{xs:List V}{j:Nat}{d:D}{v:V},aE K G ds xs→At K G d v→aE K G (ds.set j d) (xs.set j v)
 |[],_,_,_,_,h,_=>by simp only[aE]at h;subst h;simp[aE]
 |_::_,_,0,_,_,h,a=>by simp only[aE]at h;obtain⟨v,r,rfl,q,t⟩:=h;exact .cons a t
 |_::_,_,j+1,_,_,h,a=>by simp only[aE]at h;obtain⟨v,r,rfl,q,t⟩:=h;exact .cons q (aE.CZ t a)
noncomputable def putN(i:Nat)(ρ:ah)(ds:List D)(v:D):Option Nat→R eI
 |some j=>.ok (.bj (ρ.set i (.cD (ds.set j v))))
 |none=>.bad
def putK(i:Nat)(ρ:ah)(ds:List D)(v:D):D→R eI
 |.int j=>putN i ρ ds v (fI ds.length j)
 |_=>.bad
noncomputable def sX(i:Nat)(mk mv:ay):a_:=fun ρ=>(mv ρ).bind fun v=>(ownAt i ρ).bind fun ds=>(mk ρ).bind fun k=>putK i ρ ds v k
theorem Qq (i:Nat) {x:Str} {bA pos':Pos} {k v:Expr} {mk mv:ay} (hk:aW X F k mk) (hv:aW X F v mv) (hN:X.N[i]?=some x:=by rfl) (hvs:fh X.env.scope x:=by first|exact Or.inl rfl|exact Or.inr (Or.inl rfl)|exact Or.inr (Or.inr rfl)) (hd:(x==("__debug__" :Str))=false:=by decide) (hcd:(x==("__classdict__" :Str))=false:=by decide)(hs:swapsWithSole [.Subscript (.Name x bA) k pos'] v pos.line X.env=pure false:=by rfl) (hw:swappedStores [.Subscript (.Name x bA) k pos'] v X.env=pure none:=by rfl)(h1:(assignEach [.Subscript (.Name x bA) k pos'] X.env).map (·.2)=[assign (.Subscript (.Name x bA) k pos') X.env]:=by rfl)(ha:∀u,assign (.Subscript (.Name x bA) k pos') X.env u=(do
    let cR ←holding [u] (eval (.Name x bA) X.env)
    let gi ←holding [u,cR] (eval k X.env)
    standAt pos'
    holding [u,cR,gi] (setItem cR gi u)
    release [u,cR,gi] []):=by intro _;rfl) :
  dS X F (.Assign [.Subscript (.Name x bA) k pos'] v pos) (sX i mk mv):=by
 refine⟨cP.imp (MQ hv.1 (MF (jA hN hvs hd hcd) hk.1 set_list ha) hs hw h1) ?_⟩;rintro b8 σ H ⟨G,ρ,r,h⟩;unfold sX at h;refine⟨G,ρ,r,?_⟩;cases ev:mv ρ with
 |bad=>rw[ev]at h;exact h.elim
 |exc c=>rw[ev]at h;exact h
 |ok d=>
  rw[ev,R.bh]at h;intro u H1 aL ao s1 rP;cases cI:ownAt i ρ with
  |bad=>rw[cI]at h;exact h.elim
  |exc c=>exact(Mb cI).elim
  |ok ds=>
   rw[cI,R.bh]at h;have b6:=Mc cI;obtain⟨q,xs,ai,h1,h2,h3,h4⟩:=ao.own b6;refine⟨.ref q,ai,aL,ρ,ao,?_⟩;cases dc:mk ρ with
   |bad=>rw[dc]at h;exact h.elim
   |exc c=>rw[dc]at h;exact h
   |ok kd=>
    rw[dc,R.bh]at h;intro w aQ cx a7 s2 jU;obtain⟨cH,fe,eV,b7,bU,n3,iT⟩:=a7.own b6;rw[ai]at eV;cases eV;cases kd with
    |int j=>
     simp only[putK]at h;simp only[At]at jU;cases g4:fI ds.length j with
     |none=>rw[g4]at h;exact h.elim
     |some n=>rw[g4]at h;simp only[putN]at h;refine⟨q,fe,j,n,rfl,jU,b7,by rw[←iT.length];exact g4,?_⟩;exact h _ cx _ (a7.mut b6 ai (iT.CZ (rP.mono s2.g))) (s1.trans s2).g
    |_=>exact h.elim
noncomputable def uP(i:Nat)(ρ:ah)(ts:List T)(m:ay):Option Nat→R eI
 |some j=>match ts[j]? with
  |some (.lst us)=>(m ρ).bind fun d=>if us.length<1000000 then .ok (.bj (ρ.set i (.cW (.lst (ts.set j (.lst (us++[.av d])))))))else .bad
  |_=>.bad
 |none=>.bad
def nR(i:Nat)(ρ:ah)(ts:List T)(m:ay):D→R eI
 |.int j=>uP i ρ ts m (fI ts.length j)
 |_=>.bad
def sS(i:Nat)(mk m:ay):a_:=fun ρ=>(jb i ρ).bind fun ts=>(mk ρ).bind fun k=>nR i ρ ts m k
theorem Qo (i:Nat) {x:Str} {bA qW pos':Pos} {apos cpos:Pos} {k:Expr} {mk:ay} (hk:aW X F k mk) (vR:nI k) (he:aW X F e m) (hN:X.N[i]?=some x:=by rfl) (hv:fh X.env.scope x:=by first|exact Or.inl rfl|exact Or.inr (Or.inl rfl)|exact Or.inr (Or.inr rfl)) (hd:(x==("__debug__" :Str))=false:=by decide) (hcd:(x==("__classdict__" :Str))=false:=by decide)(hbase:attributeBase (.Subscript (.Name x bA) k pos') "append" X.env (eval (.Subscript (.Name x bA) k pos') X.env)=eval (.Subscript (.Name x bA) k pos') X.env:=by rfl) (hline:(apos.endLine==cpos.line)=true:=by rfl)(hfew:((backTo cpos (starEach [e] X.env)).all (fun x=>!x.1)&&(backToKw cpos (keywordEach [] X.env)).all (fun x=>x.1.isSome)
    &&decide (([e]:List Expr).length+([]:List Keyword).length+(if([]:List Keyword).isEmpty then 0 else 1)<30))=true:=by rfl)
  (hs:starEach [e] X.env=(false,eval e X.env)::starEach [] X.env:=by rfl) (hplain:(backTo cpos (starEach [] X.env)).any (·.1)=false:=by rfl) :
  dS X F (.Expr (.Call (.Attribute (.Subscript (.Name x bA) k pos') "append" apos) [e] [] cpos) qW) (sS i mk m):=by
 refine⟨cP.imp (qM (qJ PySem.F.plainAttrs_list PySem.F.slot_list_append PySem.F.type_list_append s8 (wU v_ (jA hN hv hd hcd) hk.1 vR) (ic he.1 kb hs) hbase hfew hline hs hplain) (jG _ _ _ _ rfl)) ?_⟩;rintro b8 σ H ⟨G,ρ,r,h⟩;unfold sS at h;cases cI:jb i ρ with
 |bad=>rw[cI]at h;exact h.elim
 |exc c=>exact(DG cI).elim
 |ok ts=>
  rw[cI,R.bh]at h;have b6:=DH cI;obtain⟨a,xs,ai,ha,wl,br⟩:=r.root b6;refine⟨.ref a,ai,G,ρ,r,?_⟩;cases dc:mk ρ with
  |bad=>rw[dc]at h;exact h.elim
  |exc c=>rw[dc]at h;exact h
  |ok kd=>
   rw[dc,R.bh]at h;intro w H1 aL ao s1 jU;cases kd with
   |int j=>
    simp only[nR]at h;simp only[At]at jU;cases g4:fI ts.length j with
    |none=>rw[g4]at h;exact h.elim
    |some n=>
     rw[g4]at h;simp only[uP]at h;obtain⟨kr,fe,eV,iX,rj,Lm⟩:=ao.root b6;rw[ai]at eV;cases eV;cases iP:ts[n]? with
     |none=>rw[iP]at h;exact h.elim
     |some t=>
      rw[iP]at h;cases t with
      |av _=>exact h.elim
      |cj _ _=>exact h.elim
      |a4 _ _=>exact h.elim
      |ins _ _ _=>exact h.elim
      |lst us=>
       simp only at h;obtain⟨v,ev,rk⟩:=tS rj iP;simp only[b9]at rk;obtain⟨q,ys,rfl,aH,PT⟩:=rk;have vg:es fe j=some (.ref q):=by unfold es;rw[←rj.length,g4];exact ev
       refine .inl ⟨a,fe,j,.ref q,rfl,jU,bx.of iX,vg,.inl ⟨rfl,ys,bx.of aH⟩,aL,ρ,ao,?_⟩;cases em:m ρ with
       |bad=>rw[em]at h;exact h.elim
       |exc c=>rw[em]at h;exact h
       |ok d=>
        rw[em,R.bh]at h;intro u aQ cx a7 s2 rP;by_cases v3:us.length<1000000
        ·rw[if_pos v3]at h;obtain⟨yz,Qn,c2,Am,PS,RT⟩:=a7.root b6;rw[ai]at c2;cases c2;have Iz:Qn=fe:=by
          have:=s2.h _ _ iX;rw[Am]at this;cases this;rfl
         subst Iz;have vS:aQ q=some (.lst ys):=s2.h _ _ aH;obtain⟨SA,zE,Ea⟩:=tS PS iP;rw[ev]at zE;cases zE;simp only[b9]at Ea;obtain⟨Cx,Ue,QH,AF,Eb⟩:=Ea;cases QH;rw[vS]at AF;cases AF;obtain⟨hA,bJ⟩:=Eb.append (us:=[T.av d]) (ws:=[u]) (.cons (by simp only[b9];exact rP) .nil);have Md:cE aQ [T.av d] [u]=[]:=by rw[fR,lH];simp only[aU,List.append_nil]
         rw[Md,List.append_nil]at bJ;have jB:=a7.BL b6 ai Am iP ev vS hA bJ;exact⟨q,ys,u,rfl,rfl,vS,by rw[←Eb.length];exact Nat.lt_trans v3 (by decide),h _ cx _ jB (s1.trans s2).g⟩
        ·rw[if_neg v3]at h;exact h.elim
   |_=>exact h.elim
theorem Qs(i:Nat){x:Str}{p:Pos}(hN:X.N.Nodup)(he:iL X F e ma)(hi:X.N[i]?=some x:=by rfl)(hx:Loc X.env.scope x:=by first|exact Or.inl rfl|exact Or.inr rfl)(hs:swapsWith e (some (.Name x p)) pos.line X.env=pure false:=by rfl)(hf:X.fn x=true∨X.env.scope.names.lookup x=some .local:=by first|exact .inl rfl|exact .inr rfl):dS X F (.Assign [.Name x p] e pos) (gG i ma):=⟨cP.imp (qN hN hi hx he.1 hs hf) AW⟩
end
noncomputable def Ba(F:a3)(x C:Addr)(Q:bT):R (List Str×List D)→Prop
 |.ok (ns,ds)=>∀aJ xs G' H',dF F G' H'→G' x=none→H' x=some (.ins C aJ xs)→xs.map (·.1)=ns→aE F.K G' ds (xs.map (·.2))→Q .non H'
 |.exc c=>hY F c
 |.bad=>False
noncomputable def qV(K:PySem.W.Frag)(a0:Str)(n:Nat)(mf:List D→R (List Str×List D)):hL:=fun vs H Q E=>∃G x C aJ af ws,vs=.ref x::ws∧dP K a0 C∧H x=some (.ins C aJ [])∧G x=none∧Sub G H∧aE K G af ws∧af.length=n∧Ba (e9 K G (del H x) E) x C Q (mf af)
theorem C9{K:PySem.W.Frag}{a0:Str}{n:Nat}{mf:List D→R (List Str×List D)}:∀vs H Q E,qV K a0 n mf vs H Q E→vs.length=n+1:=fun vs H Q E h=>by obtain⟨G,x,C,aJ,af,ws,rfl,_,_,_,_,q,l,_⟩:=h;rw[List.length_cons,←q.length,l]
noncomputable def oH(a0:Str):R ah→R (List Str×List D)
 |.ok (.aR (.ins c ns ds)::_)=>if c=a0 then .ok (ns,ds)else .bad
 |.exc c=>.exc c
 |_=>.bad
theorem Jz{K:PySem.W.Frag}{a0:Str}{n:Nat}{m:gX}{vs:List V}{H:J}{Q:bT}{E:cn}(h:qV K a0 n (fun af=>oH a0 (m (g9 a0 af))) vs H Q E) :
  ∃G H0,nj (e9 K G H0 E) m { bj:=fun _ H'=>Q .non H',dB:=Q } (vs.map some) H:=by
 obtain⟨G,x,C,aJ,af,ws,rfl,fG,h1,h2,s,bf,l,k⟩:=h;refine⟨G,del H x,G,g9 a0 af,Nz fG h1 h2 s bf,?_⟩;replace k:Ba (e9 K G (del H x) E) x C Q (oH a0 (m (g9 a0 af))):=k;cases em:m (g9 a0 af)with
 |bad=>rw[em]at k;exact k.elim
 |exc c=>rw[em]at k;exact k
 |ok bo=>
  rw[em]at k;intro G' H' r;unfold oH at k
  split at k
  ·rename_i QZ ns ds e_ heq;cases heq;obtain⟨a,ho,ai,g1,g2,g3,gT,r8,xs,bK,rfl,au,al⟩:=r.obj (i:=0) rfl;have ai:some (some (V.ref x))=some (some (V.ref a)):=ai;cases ai
   split at k
   ·rename_i hc;subst hc;have:=bK.inj fG;subst this;exact k r8 xs G' H' r.aA g2 g1 au al
   ·exact k.elim
  ·rename_i heq;cases heq
  ·exact k.elim
structure rC(P:Program)(w:World)(K:PySem.W.Frag)(mg:Str→Option Value)(base:Heap)(a0:Str)(n k:Nat)(mf:List D→R (List Str×List D)):Prop where
 ex:∃(C f:Addr)(fd:FuncData)(aD:List Str),dP K a0 C∧pa K C f∧fM P w K mg base (d7 P w) k f fd aD (qV K a0 n mf)∧mg a0=some (.ref C)∧Binds K fd aD []
theorem Qg{P:Program}{w:World}{K:PySem.W.Frag}{mg:Str→Option Value}{base:Heap}{qual a0 i_:Str}{st:Stmt}{aD:List Str}{k:Nat}{m:gX}(d:InK K mg a0 qual st (i_::aD))(S:c0 (i_::aD) (i_::aD) (bX st))(h:∀(f:Addr)(bO:Value)(A:Around)(outer:List Env)(s:Shared)(H:J)(E:cn),cK k (A.deeper (PyProof.Rows.envOfC qual (bX st) s.heap.objs.size f bO))→∀G0 H0,rK (dt (d7 P w) P w K mg base (i_::aD) qual (bX st) f bO A outer s H E) (e9 K G0 H0 E) (eU st) m) :
  rC P w K mg base a0 aD.length (k+1) (fun af=>oH a0 (m (g9 a0 af))):=by
 obtain⟨C,f,fd,h1,h2,h3,h4,h5⟩:=d.ex;refine⟨C,f,fd,i_::aD,h1,h2,?_,h4,h5⟩;obtain⟨dM,cV,cb,doc,pm,an,bO,b3,i9,rfl,lk,hcd⟩:=h3.ex;refine vv lk hcd S C9 fun A outer s H vs Q E hr hs=>?_;have hl:=C9 vs H Q E hs;obtain⟨G,H0,ht⟩:=Jz hs;refine⟨_,(h f bO A outer s H E hr G H0).1,?_⟩;rw[OP (by simpa using hl)];exact ht
def m1(c:bN)(x:Str):gX:=fun ρ=>(c ρ).bind fun k=>if k=true then .exc x else .ok ρ
section
variable{P:Program}{w:World}{K:PySem.W.Frag}{mg:Str→Option Value}{base:Heap}{N:List Str}{qual:Str}{scope:Scope}{f:Addr}{cd:Value}{A:Around}{outer:List Env}{s0:Shared}{Ha:J}{E:cn}{G0 H0:J}
theorem Ek{x:Str}{np cpos pos cp JG:Pos}{m:Str}{j:Nat}{c:Expr}{kt:bN}(k:ux K mg x)(h:eK (dt (d7 P w) P w K mg base N qual scope f cd A outer s0 Ha E) (e9 K G0 H0 E) c kt)(hg:cA (dt (d7 P w) P w K mg base N qual scope f cd A outer s0 Ha E) x:=by rfl)(hd:(x==("__debug__" :Str))=false:=by decide) :
  rL (dt (d7 P w) P w K mg base N qual scope f cd A outer s0 Ha E) (e9 K G0 H0 E) (.If c [.Raise (some (.Call (.Name x np) [.Constant (.str m) j cp] [] cpos)) none pos] [] JG) (m1 kt x):=by
 refine⟨cP.imp (Ct h.1 (wX (yg (P:=P) (w:=w) (K:=K) (mg:=mg) (base:=base) (N:=N) (qual:=qual) (scope:=scope) (f:=f) (cd:=cd) (A:=A) (outer:=outer) (s0:=s0) (Ha:=Ha) (E:=E) (G0:=G0) (H0:=H0) (np:=np) (cpos:=cpos) (pos:=pos) (cp:=cp) (m:=m) (j:=j) k hg hd).1) Cv) ?_⟩;rintro b8 σ H ⟨G,ρ,r,h⟩;unfold m1 at h;refine⟨G,ρ,r,?_⟩;cases ak:kt ρ with
 |bad=>rw[ak]at h;exact h.elim
 |exc c=>rw[ak]at h;exact h
 |ok b=>
  rw[ak,R.bh]at h;intro H1 aL ao s1;cases b with
  |true=>exact⟨aL,ρ,ao,h⟩
  |false=>exact h aL H1 ao
end
section
variable{X:aC}{F:a3}{e:Expr}{af:List Expr}{pos p:Pos}{ma:aN}
theorem BF{H1:J}{x aJ C:Addr}(hx:H1 x=none)(mV:H1 aJ=none):Sub H1 (del (upd (upd H1 aJ (.own x)) x (.ins C aJ [])) x):=fun b o e=>by
 have fq:b≠x:=fun z=>by rw[z,hx]at e;cases e
 have dv:b≠aJ:=fun z=>by rw[z,mV]at e;cases e
 rw[FY fq,cf fq,cf dv];exact e
theorem I3{a0:Str}{n:Nat}{mf:List D→R (List Str×List D)}{C:Addr}{E:cn}(fG:dP F.K a0 C):dq (cc F (qi a0 n mf ma)) (tL C (qV F.K a0 n mf) [] E (dE F ma)):=by
 rintro σ H Q ⟨G,ρ,r,h⟩;unfold qi at h;refine⟨G,ρ,r,?_⟩;cases ak:ma ρ with
 |bad=>rw[ak]at h;exact h.elim
 |exc c=>rw[ak]at h;exact h
 |ok ds=>
  rw[ak,R.bh]at h;intro vs H1 aL ao s1 bf x aJ hx mV ne;by_cases aI:ds.length=n
  ·rw[if_pos aI]at h;rw[List.append_nil];have m9:=BF (C:=C) hx mV;have w7:Sub aL (upd (upd H1 aJ (.own x)) x (.ins C aJ [])):=ao.aA.sub.trans (m9.trans (va _ _));refine⟨aL,x,C,aJ,ds,vs,rfl,fG,c3,ao.aA.sub.gone hx,w7,bf,aI,?_⟩;cases em:mf ds with
   |bad=>rw[em]at h;exact h.elim
   |exc c=>rw[em]at h;exact h.elim
   |ok y=>obtain⟨ns,n0⟩:=y;rw[em]at h;intro r8 xs G' H' k g1 g2 g3 gC;refine⟨rfl,?_⟩;have hh:Sub H1 H':=m9.trans k.hh;have nw:∀b,H1 b≠none→G' b=aL b:=fun b hb=>k.new b (m9.some hb);have a7:Rel F G' H' σ ρ:=ao.grow k.d3 k.sub hh nw;have no:¬cy H' σ ρ x:=cy.fresh ao hh hx;refine h (.ref x) H' _ (a7.take g2 g1 (ao.aA.hh.gone hx) no) ((s1.trans ⟨k.d3,hh,nw⟩).put (s1.h.gone hx) g1) ?_;simp only[At];exact⟨x,r8,xs,rfl,⟨C,fG,c3⟩,g3,gC.mono (Sub.upd g1)⟩
  ·rw[if_neg aI]at h;exact h.elim
theorem P_{a0:Str}{n k:Nat}{mf:List D→R (List Str×List D)}(c:rC X.prog X.w X.K X.mg X.base a0 n k mf)(hr:cK (k+1) X.A)(ha:fi X F (e::af) ma)(hK:F.K=X.K:=by rfl)(hg:cA X a0:=by rfl)(hdb:(a0==("__debug__" :Str))=false:=by decide)(he:starEach (e::af) X.env=(false,eval e X.env)::starEach af X.env:=by rfl)(hpl:(backTo pos (starEach af X.env)).any (·.1)=false:=by rfl):aW X F (.Call (.Name a0 p) (e::af) [] pos) (qi a0 n mf ma):=by obtain⟨C,f,fd,aD,bK,dx,g5,hm,hb⟩:=c.ex;refine⟨aP.imp (Mu dx g5 hr hg hm hb .nil Mh ha.1 hdb he hpl) ?_⟩;rw[←hK];exact I3 (by rw[hK];exact bK)
noncomputable def ql(i:Nat)(cs:List Str)(n:Nat)(mf:List D→R (List Str×List D))(ma:aN)(ms:a_):a_:=fun ρ=>(ef (ma ρ)).bind fun ds=>if ds.length=n∧i<ρ.length then match mf ds with
    |.ok _=>.ok (.bj ρ)
    |.exc c=>if cs.contains c=true then(ef (ms (ρ.set i (.av (.fl c))))).bind (rf i)else .bad
    |.bad=>.bad
 else .bad
theorem Qv(i:Nat){x W nm:Str}{n k:Nat}{cs:List Str}{mf:List D→R (List Str×List D)}{ma:aN}{ms:a_}{e nU:_}{af:List Expr}{oS:List Stmt}{p cpos lV np Il:Pos}(hN:X.N.Nodup)(c:rC X.prog X.w X.K X.mg X.base x n k mf)(hr:cK (k+1) X.A)(t:yx X.K X.mg W cs)(ha:fi X.fs F (e::af) ma)(hs:∀a,hO (X.marked a) F (nU::oS) ms)(hK:F.K=X.K:=by rfl)(j3:F.eR=fun _ _=>False:=by rfl)(hi:X.N[i]?=some nm:=by rfl)(hl:X.env.scope.names.lookup nm=some .local:=by rfl)(hst:X.stack=X.env::X.outer:=by rfl)(j5:X.env.frame=some X.env.locals:=by rfl)(hex:X.ex=[]:=by rfl)(hg:cA X x:=by rfl)(HX:cA X W:=by rfl)(mV:(x==("__debug__" :Str))=false:=by decide)(hd:(W==("__debug__" :Str))=false:=by decide)(vX:swapsWith (.Call (.Name x p) (e::af) [] cpos) none lV.line X.env=pure false:=by rfl)(he:starEach (e::af) X.env=(false,eval e X.env)::starEach af X.env:=by rfl)(hpl:(backTo cpos (starEach af X.env)).any (·.1)=false:=by rfl) :
  dS X F (.Try [.Expr (.Call (.Name x p) (e::af) [] cpos) lV] [.ExceptHandler (some (.Name W np)) (some nm) (nU::oS) Il] [] [] pos) (ql i cs n mf ma ms):=by
 obtain⟨o2,f,fd,aD,fG,dx,g5,hm,hb⟩:=c.ex;obtain⟨rx,HI,Aq⟩:=t.ex;refine⟨fun pins s σ H b8 I q=>?_⟩;obtain⟨G,ρ,r,h⟩:=q
 let E:cn:=fun C LF H'=>∃(a0:Str)(lb:Addr)(G':J)(ds:List D),C=.ref lb∧dP X.K a0 lb∧cs.contains a0=true∧ma ρ=.ok ds∧mf ds=.exc a0∧Rel F G' H' σ ρ∧Sub G G'
 have vO:∀C a H,E C a H→PySem.W.exmOne X.K C (.ref rx)=some true:=fun C a H'⟨a0,lb,G',ds,ai,au,bB,_⟩=>by
  obtain⟨ru,bK,dx⟩:=Aq a0 bB;have:ru=lb:=by unfold dP at bK au;rw[au]at bK;cases bK;rfl
  subst ai this;exact dx
 refine MV (E:=E) (te:=tL o2 (qV F.K x n mf) [] E (dE F ma)) (ts:=ej F ms) hN (MD dx (by rw[hK];exact g5) hr hg hm hb ha.1 mV he hpl) HI vO (fun a=>(hs a).1) hi hl hst j5 hex HX hd vX pins s σ H b8 I ⟨?_,?_⟩
 ·refine⟨G,ρ,r,?_⟩;unfold ql at h;cases ak:ma ρ with
  |bad=>rw[ak]at h;exact h.elim
  |exc c=>rw[ak]at h;exact h.elim
  |ok ds=>
   rw[ak]at h;have h:gE F G b8 (if ds.length=n∧i<ρ.length then match mf ds with
    |.ok _=>.ok (.bj ρ)
    |.exc c=>if cs.contains c=true then(ef (ms (ρ.set i (.av (.fl c))))).bind (rf i)else .bad
    |.bad=>.bad else .bad):=h
   intro vs H1 aL ao s1 bf y aJ cF mV ne;by_cases hd:ds.length=n∧i<ρ.length
   ·rw[if_pos hd]at h;rw[List.append_nil];have m9:=BF (C:=o2) cF mV;have w7:Sub aL (upd (upd H1 aJ (.own y)) y (.ins o2 aJ [])):=ao.aA.sub.trans (m9.trans (va _ _));refine⟨aL,y,o2,aJ,ds,vs,rfl,by rw[hK];exact fG,c3,ao.aA.sub.gone cF,w7,bf,hd.1,?_⟩;have Ah:∀{G' H':J},dF (e9 F.K aL (del (upd (upd H1 aJ (.own y)) y (.ins o2 aJ [])) y) E) G' H'→Rel F G' H' σ ρ∧Sub G G':=fun{G' H'} k=>
     ⟨ao.grow k.d3 k.sub (m9.trans k.hh) fun b hb=>k.new b (m9.some hb),s1.g.trans k.d3⟩
    cases em:mf ds with
    |bad=>rw[em]at h;exact h.elim
    |exc a0=>
     rw[em]at h;simp only at h;by_cases hc:cs.contains a0=true
     ·intro G' H' cq;obtain⟨ru,bK,dx⟩:=Aq a0 hc;obtain⟨dH,dV⟩:=Ah cq;rw[hK];exact⟨ru,bK,fun a _=>⟨a0,ru,G',ds,rfl,bK,hc,ak,em,dH,dV⟩⟩
     ·rw[if_neg hc]at h;exact h.elim
    |ok tt=>rw[em]at h;obtain⟨ns,n0⟩:=tt;intro r8 xs G' H' k g1 g2 g3 gC;obtain⟨dH,dV⟩:=Ah k;exact⟨rfl,h σ G' H' dH dV⟩
   ·rw[if_neg hd]at h;exact h.elim
 ·rintro C a H' ⟨a0,lb,G',ds,rfl,bK,hc,ak,em,aZ,s'⟩ hp;unfold ql at h;rw[ak]at h;have h:gE F G b8 (if ds.length=n∧i<ρ.length then match mf ds with
    |.ok _=>.ok (.bj ρ)
    |.exc c=>if cs.contains c=true then(ef (ms (ρ.set i (.av (.fl c))))).bind (rf i)else .bad
    |.bad=>.bad else .bad):=h
  by_cases hd:ds.length=n∧i<ρ.length
  ·rw[if_pos hd,em]at h;simp only at h;rw[if_pos hc]at h;have bG:=(aZ.lay (o:=mL a (.ref lb)) hp).set (d:=.fl a0) (v:=.ref a) hd.2 (by
    simp only[At];exact⟨a,[],rfl,⟨lb,by rw[hK];exact bK,c3⟩,rfl⟩)
   have xM:Sub G (upd G' a (mL a (.ref lb))):=s'.trans (Sub.upd (aZ.aA.sub.gone hp));refine⟨_,_,bG,?_⟩;cases vj:ms (ρ.set i (.av (.fl a0)))with
   |bad=>rw[vj]at h;exact h.elim
   |exc c=>rw[vj]at h;exact h.elim
   |ok eu=>
    rw[vj]at h;cases eu with
    |bj bo=>exact fun σ2 cx aQ a7 s2=>h (σ2.set i none) cx aQ (a7.u5 i) (xM.trans s2)
    |d9 bo=>exact fun σ2 cx aQ a7 s2=>h (σ2.set i none) cx aQ (a7.u5 i) (xM.trans s2)
    |b3 bo=>exact fun σ2 cx aQ a7 s2=>h (σ2.set i none) cx aQ (a7.u5 i) (xM.trans s2)
    |dB d=>exact h
    |gN d=>exact h
    |gM d=>exact h
  ·rw[if_neg hd]at h;exact h.elim
end
def kK:T→Bool
 |.av _=>true
 |_=>false
theorem Aa{H:J}:∀{us:List T}{ys:List V},us.all kK=true→cE H us ys=[]
 |[],_,_=>lH
 |_::_,[],_=>by simp only[cE]
 |.av d::us,y::ys,h=>by rw[fR,Aa (us:=us) (by simpa[kK]using h)];simp only[aU,List.append_nil]
 |.lst _::_,_::_,h=>by simp[kK]at h
 |.cj _ _::_,_::_,h=>by simp[kK]at h
 |.a4 _ _::_,_::_,h=>by simp[kK]at h
 |.ins _ _ _::_,_::_,h=>by simp[kK]at h
section
variable{X:aC}{F:a3}{e:Expr}{pos p:Pos}{m n:ay}{ma:aN}
noncomputable def rZ(i:Nat)(ρ:ah)(ts:List T):Option Nat→R eI
 |some j=>match ts[j]? with
  |some (.lst us)=>if us.all kK=true then .ok (.bj (ρ.set i (.cW (.lst (ts.set j (.lst []))))))else .bad
  |_=>.bad
 |none=>.bad
def rY(i:Nat)(ρ:ah)(ts:List T):D→R eI
 |.int j=>rZ i ρ ts (fI ts.length j)
 |_=>.bad
def sT(i:Nat)(mk:ay):a_:=fun ρ=>(jb i ρ).bind fun ts=>(mk ρ).bind fun k=>rY i ρ ts k
theorem Qp(i:Nat){x:Str}{bA qW pos':Pos}{apos cpos:Pos}{k:Expr}{mk:ay}(hk:aW X F k mk)(vR:nI k)(hN:X.N[i]?=some x:=by rfl)(hv:fh X.env.scope x:=by first|exact Or.inl rfl|exact Or.inr (Or.inl rfl)|exact Or.inr (Or.inr rfl))(hd:(x==("__debug__" :Str))=false:=by decide)(hcd:(x==("__classdict__" :Str))=false:=by decide)(hbase:attributeBase (.Subscript (.Name x bA) k pos') "clear" X.env (eval (.Subscript (.Name x bA) k pos') X.env)=eval (.Subscript (.Name x bA) k pos') X.env:=by rfl)(hline:(apos.endLine==cpos.line)=true:=by rfl) :
  dS X F (.Expr (.Call (.Attribute (.Subscript (.Name x bA) k pos') "clear" apos) [] [] cpos) qW) (sT i mk):=by
 refine⟨cP.imp (qM (Mk PySem.F.plainAttrs_list PySem.F.slot_list_clear PySem.F.type_list_clear Li (wU v_ (jA hN hv hd hcd) hk.1 vR) hbase hline) (jG _ _ _ _ rfl)) ?_⟩;rintro b8 σ H ⟨G,ρ,r,h⟩;unfold sT at h;cases cI:jb i ρ with
 |bad=>rw[cI]at h;exact h.elim
 |exc c=>exact(DG cI).elim
 |ok ts=>
  rw[cI,R.bh]at h;have b6:=DH cI;obtain⟨a,xs,ai,ha,wl,br⟩:=r.root b6;refine⟨.ref a,ai,G,ρ,r,?_⟩;cases dc:mk ρ with
  |bad=>rw[dc]at h;exact h.elim
  |exc c=>rw[dc]at h;exact h
  |ok kd=>
   rw[dc,R.bh]at h;intro w H1 aL ao s1 jU;cases kd with
   |int j=>
    simp only[rY]at h;simp only[At]at jU;cases g4:fI ts.length j with
    |none=>rw[g4]at h;exact h.elim
    |some n=>
     rw[g4]at h;simp only[rZ]at h;obtain⟨kr,fe,eV,iX,rj,Lm⟩:=ao.root b6;rw[ai]at eV;cases eV;cases iP:ts[n]? with
     |none=>rw[iP]at h;exact h.elim
     |some t=>
      rw[iP]at h;cases t with
      |av _=>exact h.elim
      |cj _ _=>exact h.elim
      |a4 _ _=>exact h.elim
      |ins _ _ _=>exact h.elim
      |lst us=>
       simp only at h;obtain⟨v,ev,rk⟩:=tS rj iP;simp only[b9]at rk;obtain⟨q,ys,rfl,aH,PT⟩:=rk;have vg:es fe j=some (.ref q):=by unfold es;rw[←rj.length,g4];exact ev
       by_cases hf:us.all kK=true
       ·rw[if_pos hf]at h;refine .inl ⟨a,fe,j,.ref q,rfl,jU,bx.of iX,vg,.inl ⟨rfl,ys,bx.of aH⟩,?_⟩;have jB:=ao.BL b6 ai iX iP ev aH (us':=[]) (ys':=[]) .nil (by rw[lH,Aa hf]);exact⟨q,ys,rfl,rfl,aH,h _ aL _ jB s1.g⟩
       ·rw[if_neg hf]at h;exact h.elim
   |_=>exact h.elim
end
end az
namespace aV
open PySem PySem.Spec PyProof.Rows
section
variable{X:aC}{i j:Nat}{x n y:Str}{W:Addr}{e:Expr}{te:TE}{E:cn}{nU:Stmt}{oS:List Stmt}{ts:dR}{lV np hp pos py:Pos}
end
end aV
namespace az
open PySem PySem.Spec aV PyProof.Rows
section
variable{X:aC}{F:a3}{pos:Pos}
end
theorem E4(ds:List D):(ds.map T.av).all kK=true:=by rw[List.all_eq_true];intro t ht;obtain⟨d,_,rfl⟩:=List.mem_map.mp ht;rfl
section
variable{X:aC}{F:a3}{a b:Expr}{pos p:Pos}{m n:ay}{ma:aN}
end
end az
namespace aV
open PySem PySem.Spec PyProof.Rows
section
variable{prog:Program}{w:World}{A:Around}{E:Value→Shared→Prop}{s:Shared}
end
section
variable{X:aC}{pos:Pos}
end
end aV
namespace az
open PySem PySem.Spec aV PyProof.Rows
section
variable{X:aC}{F:a3}{e:Expr}{af:List Expr}{pos p:Pos}{m n:ay}{ma:aN}
theorem I5{a0 mt:Str}{mf:List D→R b0}{C:Addr}{E:cn}(hx:F.eR=fun _ _=>False)(fG:dP F.K a0 C):dq (cc F (fU a0 mt 0 mf m ax)) (q5 C mt (iD F.K (0+1) mf) [] E (cc F m) nk):=by
 rintro σ H Q ⟨G,ρ,r,h⟩;unfold fU at h;refine⟨G,ρ,r,?_⟩;cases ak:m ρ with
 |bad=>rw[ak]at h;exact h.elim
 |exc c=>rw[ak]at h;exact h
 |ok d=>
  rw[ak,R.bh]at h;intro x H1 aL ao s1 bu;cases d with
  |ins d_ ns ds=>
   simp only[hB]at h
   split at h
   ·rename_i hc;obtain⟨mU,iY⟩:=hc;subst mU;have pj:=bu;simp only[At]at bu;obtain⟨q,aJ,xs,rfl,⟨gT,bK,g1⟩,rfl,al⟩:=bu;have:=bK.inj fG;subst this;refine⟨q,aJ,xs,rfl,ao.aA.sub _ _ g1,sO iY,?_⟩;rw[R.bh]at h;have h:hj F G H σ ρ Q ((mf [.ins d_ (xs.map (·.1)) ds]).bind gO):=h;show iD F.K (0+1) mf ([V.ref q]++[]) H1 Q E;rw[List.append_nil];exact C_ (xe:=fun _ _ _=>False) hx ao (.cons pj .nil) (by simp) (h.mono s1)
   ·exact h.elim
  |_=>exact h.elim
theorem Eh {o:Expr} {a0 mt:Str} {k:Nat} {mf:List D→R b0} {pl:Sem Bool} {apos:Pos} (c:iJ X.prog X.w X.K X.mg X.base a0 mt 0 k mf) (hr:cK k X.A) (he:aW X F o m) (hE:F.eR=fun _ _=>False:=by rfl) (hK:F.K=X.K:=by rfl)(ht:eval (.Call (.Attribute o mt apos) [] [] pos) X.env=(do
    let cR ←eval o X.env
    standAt apos.atName
    let(f,first) ←holding [cR] (getMethod cR mt pl)
    callWith pos f first (backTo pos (starEach [] X.env)) (backToKw pos (keywordEach [] X.env))):=by rfl) :
  aW X F (.Call (.Attribute o mt apos) [] [] pos) (fU a0 mt 0 mf m ax):=by
 obtain⟨C,f,fd,aD,bK,dx,jm,g5,hb⟩:=c.ex;refine⟨aP.imp (Cj (pl:=pl) he.1 dx jm g5 hr hb .nil qI ht) ?_⟩;rw[←hK];exact I5 hE (by rw[hK];exact bK)
end
end az
namespace aV
open PySem PySem.Spec PyProof.Rows
section
variable{X:aC}{elts:List Expr}{cq:Nat}{rd:Pos}
end
end aV
namespace az
open PySem PySem.Spec aV PyProof.Rows
section
variable{X:aC}{F:a3}{a b:Expr}{pos p:Pos}{ma:aN}
end
end az
namespace az
open PySem PySem.Spec aV
mutual
noncomputable def gq:D→Bool
 |.lst _=>false
 |.bM _=>false
 |.tup ds=>gr ds
 |.ins _ _ ds=>gr ds
 |.cj _ ds=>gr ds
 |.a4 _ ds=>gr ds
 |.cM ds=>gr ds
 |_=>true
noncomputable def gr:List D→Bool
 |[]=>true
 |d::ds=>gq d&&gr ds
end
def p0:cJ→Bool
 |.lst _=>true
 |_=>false
section
variable{K:PySem.W.Frag}{G G':J}
theorem ep.th(h:∀b o,G b=some o→p0 o=false→G' b=some o){a:Addr}{u:cJ}(hu:p0 u=false)(r:ep G a u):ep G' a u:=by
 rcases r with r|⟨o,r⟩
 ·exact .inl (h _ _ r hu)
 ·exact .inr ⟨o,h _ _ r rfl⟩
mutual
theorem At.th(h:∀b o,G b=some o→p0 o=false→G' b=some o):∀{d:D}{v:V},gq d=true→At K G d v→At K G' d v
 |.non,_,_,q=>by simpa only[At]using q
 |.aq _,_,_,q=>by simpa only[At]using q
 |.int _,_,_,q=>by simpa only[At]using q
 |.str _,_,_,q=>by simpa only[At]using q
 |.tup _,_,n,q=>by simp only[At,gq]at q n ⊢;obtain⟨a,xs,e,g,r⟩:=q;exact⟨a,xs,e,h _ _ g rfl,aE.oG h n r⟩
 |.lst _,_,n,_=>by simp only[gq]at n;cases n
 |.bM _,_,n,_=>by simp only[gq]at n;cases n
 |.cM _,_,n,q=>by
  simp only[At,gq]at q n ⊢;obtain⟨a,xs,e,g,r⟩:=q;refine⟨a,xs,e,?_,aE.oG h n r⟩;rcases g with g|g
  ·exact .inl (ep.th h rfl g)
  ·exact .inr g
 |.cj _ _,_,n,q=>by simp only[At,gq]at q n ⊢;obtain⟨a,xs,e,g,k,r⟩:=q;exact⟨a,xs,e,h _ _ g rfl,k,aE.oG h n r⟩
 |.a4 _ _,_,n,q=>by simp only[At,gq]at q n ⊢;obtain⟨a,xs,e,g,k,r⟩:=q;exact⟨a,xs,e,h _ _ g rfl,k,aE.oG h n r⟩
 |.ins _ _ _,_,n,q=>by simp only[At,gq]at q n ⊢;obtain⟨a,aJ,xs,e,⟨C,bK,g⟩,k,r⟩:=q;exact⟨a,aJ,xs,e,⟨C,bK,h _ _ g rfl⟩,k,aE.oG h n r⟩
 |.fl _,_,n,q=>by simp only[At]at q ⊢;obtain⟨a,xs,e,⟨C,bK,g⟩,r⟩:=q;exact⟨a,xs,e,⟨C,bK,h _ _ g rfl⟩,r⟩
theorem aE.oG(h:∀b o,G b=some o→p0 o=false→G' b=some o):∀{ds:List D}{vs:List V},gr ds=true→aE K G ds vs→aE K G' ds vs
 |[],_,_,q=>by simpa only[aE]using q
 |_::_,_,n,q=>by simp only[aE,gr,Bool.and_eq_true]at q n ⊢;obtain⟨v,r,e,a,t⟩:=q;exact⟨v,r,e,At.th h n.1 a,aE.oG h n.2 t⟩
end
end
mutual
noncomputable def ku:T→Bool
 |.av _=>true
 |.lst ts=>mA ts
 |_=>false
noncomputable def mA:List T→Bool
 |[]=>true
 |t::ts=>ku t&&mA ts
end
mutual
theorem yH{K:PySem.W.Frag}{G H:J}:∀{t:T}{v:V},ku t=true→b9 K G H t v→∀b∈aU H t v,∃xs,H b=some (.lst xs)
 |.av _,_,_,_,b,hb=>by simp only[aU]at hb;cases hb
 |.lst _,_,n,h,b,hb=>by
  simp only[b9,ku]at h n;obtain⟨a,xs,rfl,q,r⟩:=h;rw[g6 q]at hb;rcases List.mem_cons.mp hb with rfl|hb
  ·exact⟨xs,q⟩
  ·exact yF n r b hb
 |.cj _ _,_,n,_,_,_=>by simp only[ku]at n;cases n
 |.a4 _ _,_,n,_,_,_=>by simp only[ku]at n;cases n
 |.ins _ _ _,_,n,_,_,_=>by simp only[ku]at n;cases n
theorem yF{K:PySem.W.Frag}{G H:J}:∀{ts:List T}{vs:List V},mA ts=true→bH K G H ts vs→∀b∈cE H ts vs,∃xs,H b=some (.lst xs)
 |[],_,_,_,b,hb=>by rw[lH]at hb;cases hb
 |_::_,_,n,h,b,hb=>by
  simp only[bH,mA,Bool.and_eq_true]at h n;obtain⟨v,r,rfl,q,t⟩:=h;rw[fR]at hb;rcases List.mem_append.mp hb with hb|hb
  ·exact yH n.1 q b hb
  ·exact yF n.2 t b hb
end
def C8:cS→Bool
 |.aR (.lst _)=>true
 |.aR _=>false
 |.cW t=>ku t
 |_=>true
def qE(ρ:ah):Bool:=ρ.all C8
def qe(m:ay):ay:=fun ρ=>(m (eb ρ)).bind fun d=>if gq d=true∧qE ρ=true then .ok d else .bad
section
variable{F:a3}
theorem II{m:ay}:dq (cc F (qe m)) (cc F m):=by
 rintro σ H Q ⟨G,ρ,r,h⟩;refine⟨iv σ ρ G H,eb ρ,r.plus,?_⟩;unfold qe at h;cases ak:m (eb ρ)with
 |bad=>rw[ak]at h;exact h.elim
 |exc c=>rw[ak]at h;exact h
 |ok d=>
  rw[ak,R.bh]at h;intro v H' G' aZ s' a;by_cases hd:gq d=true∧qE ρ=true
  ·rw[if_pos hd]at h;have qH:∀b,cy H σ ρ b→G b=none:=fun b z=>(r.foot z).2.1;have qG:∀b,cy H σ ρ b→F.H0 b=none:=fun b z=>(r.foot z).2.2;have wO:∀b,cy H σ ρ b→∃ho,H b=some ho∧p0 ho=true:=fun b⟨i,s,o,ai,au,f⟩=>by
    have hi:=List.all_eq_true.mp hd.2 _ (List.mem_of_getElem? ai);cases s with
    |un=>exact f.elim
    |av _=>exact f.elim
    |cW t=>obtain⟨v,rfl,kC⟩:=f;obtain⟨bw,bB,iE,c2,ok⟩:=r.b1 i _ ai;rw[au]at bB;cases bB;cases c2;obtain⟨xs,e⟩:=yH hi ok.at_ b kC;exact⟨_,e,rfl⟩
    |aR aR=>
     have f:o=some (.ref b):=f;obtain⟨c,ho,bB,h1,_,_,h4⟩:=r.obj ai;rw[au,f]at bB;cases bB;cases aR with
     |lst _=>obtain⟨xs,rfl,_⟩:=h4;exact⟨_,h1,rfl⟩
     |a4 _ _=>cases hi
     |ins _ _ _=>cases hi
   have off:∀b,¬cy H σ ρ b→iR H σ ρ G' b=G' b:=fun b n=>by unfold iR;rw[if_neg n]
   have on:∀b,cy H σ ρ b→iR H σ ρ G' b=none:=fun b n=>by unfold iR;rw[if_pos n]
   have aY:Sub G (iR H σ ρ G'):=fun b o e=>by
    have n:¬cy H σ ρ b:=fun z=>by rw[qH b z]at e;cases e
    rw[off b n];exact s'.g b o (si r b o e)
   have wh:∀b,cy H σ ρ b→∀o,H b=some o→H' b=some o:=fun b z o e=>aZ.aA.sub _ _ (s'.g _ _ (by rw[mQ z];exact e));have rel:Rel F (iR H σ ρ G') H' σ ρ:=by
    refine r.over rfl ⟨fun b o e=>?_,r.aA.d3.trans aY,aZ.aA.hh,fun b hb=>?_⟩ aY fun b cD=>?_
    ·by_cases n:cy H σ ρ b
     ·rw[on b n]at e;cases e
     ·rw[off b n]at e;exact aZ.aA.sub b o e
    ·have n:¬cy H σ ρ b:=fun z=>hb (qG b z);rw[off b n];exact aZ.aA.new b hb
    ·refine⟨?_,on b cD,qG b cD⟩;cases bz:H b with
     |none=>exact absurd bz (r.foot cD).1
     |some o=>exact wh b cD o bz
   refine h v H' _ rel ⟨aY,s'.h,fun b hb=>?_⟩ (At.th (fun b o e hi=>?_) hd.1 a)
   ·by_cases n:cy H σ ρ b
    ·rw[on b n,qH b n]
    ·rw[off b n,s'.n b hb];unfold iv;rw[if_neg n]
   ·have n:¬cy H σ ρ b:=fun z=>by
      obtain⟨ho,ai,au⟩:=wO b z;have:=s'.g b ho (by rw[mQ z];exact ai);rw[e]at this;cases this;rw[hi]at au;cases au
    rw[off b n];exact e
  ·rw[if_neg hd]at h;exact h.elim
end
section
variable{X:aC}{F:a3}{e:Expr}
theorem PZ{m:ay}(h:aW X F e m):aW X F e (qe m):=⟨aP.imp h.1 II⟩
end
def jz(m:ay):ay:=fun ρ=>ef (m ρ)
section
variable{K:PySem.W.Frag}{G0 H0:J}{E:cn}
theorem Kx{m:ay}:dq (cc (e9 K G0 H0 E) (jz m)) (cc (dT K G0 H0) m):=by
 rintro σ H Q ⟨G,ρ,r,h⟩;unfold jz at h;refine⟨G,ρ,r.hR rfl rfl rfl,?_⟩;cases e:m ρ with
 |bad=>rw[e]at h;exact h.elim
 |exc c=>rw[e]at h;exact h.elim
 |ok b=>rw[e]at h;exact fun v H' G' aZ u a=>h v H' G' (aZ.hR rfl rfl rfl) u a
end
section
variable{X:aC}{e:Expr}{K:PySem.W.Frag}{G0 H0:J}{E:cn}{m:ay}
theorem Pz{t:TE}(h:aP X.fs e t):aP X e t:=fun pins s σ H Q I q=>wpAny_mono (h pins s σ H Q (I.hH _) q) (fun _ s'⟨v,H',bk,r,z⟩=>⟨v,H',bk.gv,r,z⟩) fun _ _ z=>z.elim
theorem yf(h:aW X.fs (dT K G0 H0) e m):aW X (e9 K G0 H0 E) e (jz m):=⟨fun pins s σ H Q I q=>Pz h.1 pins s σ H Q I (Kx σ H Q q)⟩
end
abbrev iK:=ah→R (List T)
noncomputable def JX(F:a3)(G H:J)(σ :St)(ρ:ah)(Q:List V→J→Prop):R (List T)→Prop
 |.ok ts=>∀vs H' G',Rel F G' H' σ ρ→bQ G H G' H'→bH F.K G' H' ts vs→(cE H' ts vs).Nodup→(∀b∈cE H' ts vs,G' b=none∧H b=none)→Q vs H'
 |.exc c=>hY F c
 |.bad=>False
def q1(F:a3)(m:iK):dX:=fun σ H Q=>∃G ρ,Rel F G H σ ρ∧JX F G H σ ρ Q (m ρ)
def sV:iK:=fun _=>.ok []
def og(m:gY)(r:iK):iK:=fun ρ=>(m ρ).bind fun t=>(r ρ).bind fun ts=>.ok (t::ts)
def oq(m:aN):gY:=fun ρ=>(m ρ).bind fun ds=>.ok (gk ds)
def qh(m:iK):gY:=fun ρ=>(m ρ).bind fun ts=>if ts.length≤1000000 then .ok (.lst ts)else .bad
section
variable{F:a3}
theorem N_{H H':J}{b:Addr}(s:Sub H H')(n:H b≠none):H' b=H b:=by
 cases e:H b with
 |none=>exact absurd e n
 |some o=>exact s b o e
theorem IE{m:aN}:dq (q7 F (oq m)) (ie F m):=by
 rintro σ H Q ⟨G,ρ,r,h⟩;unfold oq at h;refine⟨G,ρ,r,?_⟩;cases ak:m ρ with
 |bad=>rw[ak]at h;exact h.elim
 |exc c=>rw[ak]at h;exact h
 |ok ds=>
  rw[ak,R.bh]at h;intro a xs H' G' aZ s' aI ha hg q;obtain⟨a5,bL⟩:=DC (H:=H') q;have f:aU H' (gk ds) (.ref a)=[a]:=by rw[gk,g6 ha,bL]
  refine h (.ref a) H' G' aZ s' ⟨by simp only[gk,b9];exact⟨a,xs,rfl,ha,a5⟩,by rw[f];simp,fun b hb=>?_⟩ fun b hb=>?_
  ·rw[f]at hb;obtain rfl:=List.mem_singleton.mp hb;exact⟨hg,r.aA.hh.gone aI⟩
  ·rw[f]at hb;obtain rfl:=List.mem_singleton.mp hb;exact aI
theorem I9:nF (q1 F sV) nk:=by rintro σ H Q ⟨G,ρ,r,h⟩;exact h [] H G r (bQ.refl _ _) .nil (by rw[lH];simp) fun b hb=>by rw[lH]at hb;cases hb
theorem IP{m:gY}{n:iK}:nF (q1 F (og m n)) (q4 (q7 F m) (q1 F n)):=by
 rintro σ H Q ⟨G,ρ,r,h⟩;unfold og at h;refine⟨G,ρ,r,?_⟩;cases ak:m ρ with
 |bad=>rw[ak]at h;exact h.elim
 |exc c=>rw[ak]at h;exact h
 |ok t=>
  rw[ak,R.bh]at h;intro x H1 aL ao s1 ok fr;refine⟨aL,ρ,ao,?_⟩;cases bz:n ρ with
  |bad=>rw[bz]at h;exact h.elim
  |exc c=>rw[bz]at h;exact h
  |ok ts=>
   rw[bz,R.bh]at h;intro y aQ cx a7 s2 e_ br vx;have ne:=ok.at_.some;obtain⟨k1,k2⟩:=ok.at_.keep (H':=aQ) fun b hb=>N_ s2.h (ne b hb);refine h (x::y) aQ cx a7 (s1.trans s2) (.cons (k1.mono s2.g) e_) ?_ fun b hb=>?_
   ·rw[fR,k2];exact List.nodup_append.mpr ⟨ok.br,br,fun b hb c hc z=>ne b hb (by rw[z];exact(vx c hc).2)⟩
   ·rw[fR,k2]at hb;rcases List.mem_append.mp hb with hb|hb
    ·exact⟨by rw[s2.n b (ne b hb)];exact(ok.own b hb).1,fr b hb⟩
    ·exact⟨(vx b hb).1,s1.h.gone (vx b hb).2⟩
theorem I2{m:iK}:dq (q7 F (qh m)) (xT (q1 F m)):=by
 rintro σ H Q ⟨G,ρ,r,h⟩;unfold qh at h;refine⟨G,ρ,r,?_⟩;cases ak:m ρ with
 |bad=>rw[ak]at h;exact h.elim
 |exc c=>rw[ak]at h;exact h
 |ok ts=>
  rw[ak,R.bh]at h;intro vs H1 aL ao s1 e_ br fr;by_cases hl:ts.length≤1000000
  ·rw[if_pos hl]at h;refine⟨by rw[←e_.length];exact Nat.le_trans hl (by decide),fun p hp=>?_⟩;have ne:=e_.some;have np:∀b∈cE H1 ts vs,b≠p:=fun b hb z=>ne b hb (by rw[z];exact hp);obtain⟨k1,k2⟩:=e_.keep (H':=upd H1 p (.lst vs)) fun b hb=>cf (np b hb);have f:aU (upd H1 p (.lst vs)) (.lst ts) (.ref p)=p::cE H1 ts vs:=by rw[g6 c3,k2]
   refine h (.ref p) _ aL (ao.lay0 hp) (s1.trans (bQ.lay0 hp)) ⟨by simp only[b9];exact⟨p,vs,rfl,c3,k1⟩,?_,fun b hb=>?_⟩ fun b hb=>?_
   ·rw[f];exact List.nodup_cons.mpr ⟨fun z=>np p z rfl,br⟩
   ·rw[f]at hb;rcases List.mem_cons.mp hb with rfl|hb
    ·exact⟨ao.aA.sub.gone hp,ao.aA.hh.gone hp⟩
    ·exact⟨(fr b hb).1,r.aA.hh.gone (fr b hb).2⟩
   ·rw[f]at hb;rcases List.mem_cons.mp hb with rfl|hb
    ·exact s1.h.gone hp
    ·exact(fr b hb).2
  ·rw[if_neg hl]at h;exact h.elim
end
structure rI(X:aC)(F:a3)(af:List Expr)(m:iK):Prop where
 o:d8 X af (q1 F m)
section
variable{X:aC}{F:a3}{e o:Expr}{af:List Expr}{pos:Pos}{ma:aN}{m n:ay}
theorem El(h:iL X F e ma):rJ X F e (oq ma):=⟨aP.imp h.1 IE⟩
theorem PV:rI X F [] sV:=⟨d8.imp kb I9⟩
theorem Ec{m:gY}{r:iK}(h:rJ X F e m)(t:rI X F af r)(hs:notStar e=true:=by rfl):rI X F (e::af) (og m r):=⟨d8.imp (ic h.1 t.1 (De e af X.env hs)) IP⟩
theorem Qi{m:iK}(h:rI X F af m):rJ X F (.List af pos) (qh m):=⟨aP.imp (Ci h.1) I2⟩
noncomputable def oo(a0 mt:Str)(mf:List D→R b0)(o:ay):aN:=fun ρ=>(o ρ).bind fun d=>(hB a0 mt d).bind fun d=>(mf [d]).bind qP
theorem I6{a0 mt:Str}{mf:List D→R b0}{C:Addr}{E:cn}(hx:F.eR=fun _ _=>False)(fG:dP F.K a0 C):dq (ie F (oo a0 mt mf m)) (q5 C mt (iD F.K (0+1) mf) [] E (cc F m) nk):=by
 rintro σ H Q ⟨G,ρ,r,h⟩;unfold oo at h;refine⟨G,ρ,r,?_⟩;cases ak:m ρ with
 |bad=>rw[ak]at h;exact h.elim
 |exc c=>rw[ak]at h;exact h
 |ok d=>
  rw[ak,R.bh]at h;intro x H1 aL ao s1 bu;cases d with
  |ins d_ ns ds=>
   simp only[hB]at h
   split at h
   ·rename_i hc;obtain⟨mU,iY⟩:=hc;subst mU;have pj:=bu;simp only[At]at bu;obtain⟨q,aJ,xs,rfl,⟨gT,bK,g1⟩,rfl,al⟩:=bu;have:=bK.inj fG;subst this;refine⟨q,aJ,xs,rfl,ao.aA.sub _ _ g1,sO iY,?_⟩;rw[R.bh]at h;show iD F.K (0+1) mf ([V.ref q]++[]) H1 Q E;rw[List.append_nil];refine⟨aL,_,ao.aA.sub,.cons pj .nil,by simp,?_⟩;cases e:mf [.ins d_ (xs.map (·.1)) ds]with
    |bad=>rw[e]at h;exact h.elim
    |exc c=>rw[e]at h;intro G' H' k;have z:=h G' H' (dF.of ao k).aA;rw[hx]at z;exact z
    |ok t=>
     rw[e,R.bh]at h;cases t with
     |v d=>exact h.elim
     |t t=>exact h.elim
     |o af=>intro p xs G' H' k h1 h2 h3 h4;have h2:H1 p=none:=h2;exact h p xs H' G' (dF.of ao k) (s1.trans ⟨k.d3,k.hh,k.new⟩) (s1.h.gone h2) h3 h1 h4
   ·exact h.elim
  |_=>exact h.elim
theorem Em {a0 mt:Str} {k:Nat} {mf:List D→R b0} {pl:Sem Bool} {apos:Pos} (c:iJ X.prog X.w X.K X.mg X.base a0 mt 0 k mf) (hr:cK k X.A) (he:aW X F o m) (hE:F.eR=fun _ _=>False:=by rfl) (hK:F.K=X.K:=by rfl)(ht:eval (.Call (.Attribute o mt apos) [] [] pos) X.env=(do
    let cR ←eval o X.env
    standAt apos.atName
    let(f,first) ←holding [cR] (getMethod cR mt pl)
    callWith pos f first (backTo pos (starEach [] X.env)) (backToKw pos (keywordEach [] X.env))):=by rfl) :
  iL X F (.Call (.Attribute o mt apos) [] [] pos) (oo a0 mt mf m):=by
 obtain⟨C,f,fd,aD,bK,dx,jm,g5,hb⟩:=c.ex;refine⟨aP.imp (Cj (pl:=pl) he.1 dx jm g5 hr hb .nil qI ht) ?_⟩;rw[←hK];exact I6 hE (by rw[hK];exact bK)
noncomputable def qd(ma:aN)(n:ay):a_:=fun ρ=>(ma ρ).bind fun ds=>(n ρ).bind fun _=>if ds.length<1000000 then .ok (.bj ρ)else .bad
theorem En {a:Expr} {apos cpos qW:Pos} (ha:iL X F a ma) (he:aW X F e n)(hbase:attributeBase a "append" X.env (eval a X.env)=eval a X.env:=by rfl) (hline:(apos.endLine==cpos.line)=true:=by rfl)(hfew:((backTo cpos (starEach [e] X.env)).all (fun x=>!x.1)&&(backToKw cpos (keywordEach [] X.env)).all (fun x=>x.1.isSome)
    &&decide (([e]:List Expr).length+([]:List Keyword).length+(if([]:List Keyword).isEmpty then 0 else 1)<30))=true:=by rfl)
  (hs:starEach [e] X.env=(false,eval e X.env)::starEach [] X.env:=by rfl) (hplain:(backTo cpos (starEach [] X.env)).any (·.1)=false:=by rfl) :
  dS X F (.Expr (.Call (.Attribute a "append" apos) [e] [] cpos) qW) (qd ma n):=by
 refine⟨cP.imp (qM (qJ PySem.F.plainAttrs_list PySem.F.slot_list_append PySem.F.type_list_append s8 ha.1 (ic he.1 kb hs) hbase hfew hline hs hplain) (jG _ _ _ _ rfl)) ?_⟩;rintro b8 σ H ⟨G,ρ,r,h⟩;unfold qd at h;refine⟨G,ρ,r,?_⟩;cases ak:ma ρ with
 |bad=>rw[ak]at h;exact h.elim
 |exc c=>rw[ak]at h;exact h
 |ok ds=>
  rw[ak,R.bh]at h;intro p xs H1 aL ao s1 aI hp vD al;refine⟨.inl ⟨rfl,xs,bx.of hp⟩,aL,ρ,ao,?_⟩;cases g4:n ρ with
  |bad=>rw[g4]at h;exact h.elim
  |exc c=>rw[g4]at h;exact h
  |ok d=>
   rw[g4,R.bh]at h;intro u aQ cx a7 s2 rP;by_cases hl:ds.length<1000000
   ·rw[if_pos hl]at h;have Im:aQ p=some (.lst xs):=s2.h _ _ hp;have no:¬cy aQ σ ρ p:=cy.fresh r (s1.trans s2).h aI;have g2:cx p=none:=by rw[s2.n p (by rw[hp];simp)];exact vD
    have h0:F.H0 p=none:=r.aA.hh.gone aI;refine⟨p,xs,u,rfl,rfl,Im,by rw[←al.length];exact Nat.lt_trans hl (by decide),h σ cx _ (a7.over rfl ⟨fun b o e=>?_,a7.aA.d3,fun b o e=>?_,a7.aA.new⟩ (Sub.refl _) fun b cD=>⟨cf fun z=>no (by rw[←z];exact cD),(a7.foot cD).2⟩) (s1.trans s2).g⟩
    ·rw[cf fun z=>by rw[z,g2]at e;cases e];exact a7.aA.sub b o e
    ·rw[cf fun z=>by rw[z,h0]at e;cases e];exact a7.aA.hh b o e
   ·rw[if_neg hl]at h;exact h.elim
end
@[simp] theorem e2{α β:Type}(a:α)(k:α→R β):(R.ok a).bind k=k a:=(rfl)
@[simp] theorem Ub{α β:Type}(k:α→R β):(R.bad:R α).bind k=.bad:=(rfl)
@[simp] theorem D5{α β:Type}(c:Str)(k:α→R β):(R.exc c:R α).bind k=.exc c:=(rfl)
def qX(b:a_):eI→R eI
 |.bj ρ=>b ρ
 |f=>.ok f
@[simp] theorem x5(a b:a_)(ρ:ah):bC a b ρ=(a ρ).bind (qX b):=by unfold bC;congr 1
@[simp] theorem xG(b:a_)(ρ:ah):qX b (.bj ρ)=b ρ:=(rfl)
@[simp] theorem Sp(b:a_)(d:D):qX b (.dB d)=.ok (.dB d):=(rfl)
@[simp] theorem So(b:a_)(d:List D):qX b (.gN d)=.ok (.gN d):=(rfl)
def w1:Option cS→R D
 |some (.av d)=>.ok d
 |_=>.bad
@[simp] theorem v_var(i:Nat)(ρ:ah):aj i ρ=w1 ρ[i]?:=by unfold aj w1;rfl
@[simp] theorem R8(d:D):w1 (some (.av d))=.ok d:=(rfl)
@[simp] theorem SE(d:D)(ρ:ah):aw d ρ=.ok d:=(rfl)
@[simp] theorem SM(f:D→D→R D)(a b:ay)(ρ:ah):aB f a b ρ=(a ρ).bind fun x=>(b ρ).bind fun y=>f x y:=(rfl)
@[simp] theorem T8(f:D→R D)(a:ay)(ρ:ah):bW f a ρ=(a ρ).bind f:=(rfl)
@[simp] theorem Tw(ρ:ah):ax ρ=.ok []:=(rfl)
@[simp] theorem SY(a:ay)(r:aN)(ρ:ah):ae a r ρ=(a ρ).bind fun x=>(r ρ).bind fun xs=>.ok (x::xs):=(rfl)
def tV(xs:List D):R D:=if xs.length≤1000000 then .ok (.tup xs)else .bad
@[simp] theorem T6(m:aN)(ρ:ah):bP m ρ=(m ρ).bind tV:=(rfl)
@[simp] theorem Sw{xs:List D}(h:xs.length≤1000000):tV xs=.ok (.tup xs):=if_pos h
@[simp] theorem S7(m:aN)(ρ:ah):cO m ρ=(m ρ).bind fun xs=>.ok (.lst xs):=(rfl)
@[simp] theorem Th(m:aN)(ρ:ah):dy m ρ=(m ρ).bind lim:=(rfl)
@[simp] theorem SD(m:ay)(ρ:ah):bV m ρ=(m ρ).bind hP:=(rfl)
@[simp] theorem QT(b:Bool):hP (.aq b)=.ok b:=(rfl)
@[simp] theorem v_and(a b:bN)(ρ:ah):oe a b ρ=(a ρ).bind fun c=>if c=true then b ρ else .ok false:=(rfl)
@[simp] theorem v_or(a b:bN)(ρ:ah):fV a b ρ=(a ρ).bind fun c=>if c=true then .ok true else b ρ:=(rfl)
@[simp] theorem v_not(a:bN)(ρ:ah):dU a ρ=(a ρ).bind fun c=>.ok (!c):=(rfl)
@[simp] theorem SG(a b:ay)(ρ:ah):hn a b ρ=(a ρ).bind fun x=>(hP x).bind fun c=>if c=true then b ρ else .ok (.aq false):=(rfl)
@[simp] theorem S_(c:bN)(a b:a_)(ρ:ah):du c a b ρ=(c ρ).bind fun k=>if k=true then a ρ else b ρ:=(rfl)
@[simp] theorem Tv(ρ:ah):dz ρ=.ok (.bj ρ):=(rfl)
@[simp] theorem TP(a:ay)(ρ:ah):cY a ρ=(a ρ).bind fun d=>.ok (.dB d):=(rfl)
@[simp] theorem TQ(a:aN)(ρ:ah):gm a ρ=(a ρ).bind fun d=>.ok (.gN d):=(rfl)
@[simp] theorem TZ(i:Nat)(d:D)(ρ:ah):bI i d ρ=if i<ρ.length then .ok (ρ.set i (.av d))else .bad:=(rfl)
@[simp] theorem TS(i:Nat)(a:ay)(ρ:ah):dA i a ρ=(a ρ).bind fun d=>(bI i d ρ).bind fun bo=>.ok (.bj bo):=(rfl)
@[simp] theorem TY(i:Nat)(a:aN)(ρ:ah):gG i a ρ=(a ρ).bind fun ds=>if i<ρ.length then .ok (.bj (ρ.set i (.cD ds)))else .bad:=(rfl)
@[simp] theorem TV(i:Nat)(a:fA)(ρ:ah):K6 i a ρ=(a ρ).bind fun x=>(bI i x.1 x.2).bind fun bo=>.ok (.bj bo):=(rfl)
@[simp] theorem S5(a:fA)(ρ:ah):mZ a ρ=(a ρ).bind fun x=>.ok (.bj x.2):=(rfl)
@[simp] theorem SV(f:List D→R D)(m:aN)(ρ:ah):cU f m ρ=(m ρ).bind f:=(rfl)
@[simp] theorem SP(n:Nat)(mf:List D→R b0)(m:aN)(ρ:ah):cG n mf m ρ=(m ρ).bind fun ds=>if ds.length=n then(mf ds).bind gO else .bad:=(rfl)
@[simp] theorem SQ(n:Nat)(mf:List D→R b0)(m:aN)(ρ:ah):jw n mf m ρ=(m ρ).bind fun ds=>if ds.length=n then(mf ds).bind qP else .bad:=(rfl)
theorem x4(mi:aN)(set:D→ah→R ah)(body:a_)(ρ:ah):eN mi set body ρ=(mi ρ).bind fun ds=>fF set body ds ρ:=(rfl)
@[simp] theorem TN(m:aN)(ρ:ah):gF m ρ=(m ρ).bind qO:=(rfl)
@[simp] theorem Tb(m:ay)(ρ:ah):hy m ρ=(m ρ).bind xD:=(rfl)
@[simp] theorem v_bor(m:ay)(ρ:ah):KY m ρ=(m (eb ρ)).bind tl:=(rfl)
@[simp] theorem SO(m:bN)(ρ:ah):lO m ρ=m (eb ρ):=(rfl)
theorem D0(nl:Nat)(caps:List Nat)(mi:aN)(set:D→ah→R ah)(tst:bN)(elt:ay)(ρ:ah):eZ nl caps mi set tst elt ρ=(mi ρ).bind fun ds=>ef (eL set tst elt ds (jW nl caps ρ) []):=(rfl)
@[simp] theorem QQ(i j:Int):dY (.int i) (.int j)=.ok (.int (i+j)):=(rfl)
@[simp] theorem Sr(i j:Int):ni (.int i) (.int j)=.ok (.int (i-j)):=(rfl)
@[simp] theorem RS{i j:Int}(h1: -18446744073709551616<i)(h2:i<18446744073709551616):ka (.int i) (.int j)=.ok (.int (i*j)):=if_pos (Or.inl ⟨h1,h2⟩)
@[simp] theorem mul_r{i j:Int}(h1: -18446744073709551616<j)(h2:j<18446744073709551616):ka (.int i) (.int j)=.ok (.int (i*j)):=if_pos (Or.inr ⟨h1,h2⟩)
@[simp] theorem Q8{i j:Int}(h1:0<j)(h2:j<1073741824):hV (.int i) (.int j)=.ok (.int (i/j)):=if_pos ⟨h1,h2⟩
@[simp] theorem RQ{i j:Int}(h:0<j):gp (.int i) (.int j)=.ok (.int (i%j)):=if_pos h
@[simp] theorem R7{i:Int}{j:Nat}(h:j≤1000000)(h1: -1000000<i)(h2:i<1000000):lX (.int i) (.int (j:Int))=.ok (.int (i^j)):=by have:o3 i (j:Int):=⟨by omega,by omega,by omega⟩;simp only[lX,iw,if_pos this,Int.toNat_natCast]
theorem Cs:lX (.int 10) (.int 30)=.ok (.int 1000000000000000000000000000000):=(rfl)
@[simp] theorem RL(i j:Int):od (.int i) (.int j)=.ok (.aq (decide (i<j))):=(rfl)
@[simp] theorem RC(i j:Int):jv (.int i) (.int j)=.ok (.aq (decide (i≤j))):=(rfl)
@[simp] theorem Rl(i j:Int):sm (.int i) (.int j)=.ok (.aq (decide (j<i))):=(rfl)
@[simp] theorem Q4(i j:Int):de true (.int i) (.int j)=.ok (.aq (i==j)):=(rfl)
@[simp] theorem RU(i j:Int):de false (.int i) (.int j)=.ok (.aq (!(i==j))):=(rfl)
@[simp] theorem RE(xs:List D):dg [.lst xs]=.ok (.int xs.length):=(rfl)
@[simp] theorem RG(xs:List D):dg [.tup xs]=.ok (.int xs.length):=(rfl)
@[simp] theorem RF(xs:List D):dg [.bM xs]=.ok (.int xs.length):=(rfl)
@[simp] theorem ND(d:D):gO (.v d)=.ok d:=(rfl)
@[simp] theorem Sb(ds:List D):gO (.o ds)=.ok (.lst ds):=(rfl)
@[simp] theorem Sa(ds:List D):qP (.o ds)=.ok ds:=(rfl)
@[simp] theorem R3(d:D):outD (.dB d)=.ok (.v d):=(rfl)
@[simp] theorem R2(d:List D):outD (.gN d)=.ok (.o d):=(rfl)
@[simp] theorem x3(N:Nat)(m:a_)(ds:List D):c_ N m ds=(m (i2 N ds)).bind outD:=(rfl)
def wN:Option cS→R (List D)
 |some (.cD ds)=>.ok ds
 |_=>.bad
@[simp] theorem TJ(i:Nat)(ρ:ah):ownAt i ρ=wN ρ[i]?:=by unfold ownAt wN;rfl
@[simp] theorem R4(ds:List D):wN (some (.cD ds))=.ok ds:=(rfl)
@[simp] theorem Q9(set:D→ah→R ah)(body:a_)(ρ:ah):fF set body [] ρ=.ok (.bj ρ):=(rfl)
theorem z_{set:D→ah→R ah}{body:a_}(I:Nat→ah→Prop):∀(ds:List D)(i:Nat)(ρ:ah),(∀(j:Nat) d ρ,ds[j]?=some d→I (i+j) ρ→∃dI bo,set d ρ=.ok dI∧body dI=.ok (.bj bo)∧I (i+j+1) bo)→I i ρ→∃bo,fF set body ds ρ=.ok (.bj bo)∧I (i+ds.length) bo
 |[],i,ρ,_,h=>⟨ρ,rfl,h⟩
 |d::ds,i,ρ,st,h=>by
  obtain⟨dI,eQ,ai,au,h2⟩:=st 0 d ρ rfl h;obtain⟨bo,bB,h3⟩:=z_ I ds (i+1) eQ (fun j d ρ e hi=>by obtain⟨a,b,bK,dx,jm⟩:=st (j+1) d ρ (by simpa using e) (by rw[show i+(j+1)=i+1+j by omega];exact hi);exact⟨a,b,bK,dx,by rw[show i+1+j+1=i+(j+1)+1 by omega];exact jm⟩) (by simpa using h2)
  refine⟨bo,?_,by rw[List.length_cons,show i+(ds.length+1)=i+1+ds.length by omega];exact h3⟩;rw[fF,ai,e2,au,e2];exact bB
theorem Hx{mi:aN}{set:D→ah→R ah}{body:a_}{ds:List D}{ρ:ah}(I:Nat→ah→Prop)(hi:mi ρ=.ok ds)(st:∀(j:Nat) d ρ,ds[j]?=some d→I j ρ→∃dI bo,set d ρ=.ok dI∧body dI=.ok (.bj bo)∧I (j+1) bo)(h:I 0 ρ):∃bo,eN mi set body ρ=.ok (.bj bo)∧I ds.length bo:=by obtain⟨bo,e,h'⟩:=z_ I ds 0 ρ (fun j d ρ e b4=>by rw[Nat.zero_add]at b4 ⊢;exact st j d ρ e b4) h;rw[Nat.zero_add]at h';exact⟨bo,by rw[x4,hi,e2,e],h'⟩
@[simp] theorem QY(d:D):fk (.av d)=.av d:=(rfl)
noncomputable def uO(i:Nat)(ρ:ah)(ds:List D)(d:D):R eI:=if ds.length<1000000 then .ok (.bj (ρ.set i (.cD (ds++[d]))))else .bad
@[simp] theorem QS{i:Nat}{ρ:ah}{ds:List D}{d:D}(h:ds.length<1000000):uO i ρ ds d=.ok (.bj (ρ.set i (.cD (ds++[d])))):=if_pos h
@[simp] theorem SH(i:Nat)(m:ay)(ρ:ah):kP i m ρ=(ownAt i ρ).bind fun ds=>(m ρ).bind fun d=>uO i ρ ds d:=(rfl)
@[simp] theorem SJ(i:Nat)(m:fA)(ρ:ah):KW i m ρ=(ownAt i ρ).bind fun _=>(m ρ).bind fun x=>(ownAt i x.2).bind fun ds=>uO i x.2 ds x.1:=(rfl)
@[simp] theorem Tf(m:ay)(ρ:ah):lf m ρ=(m ρ).bind fun d=>.ok (d,ρ):=(rfl)
@[simp] theorem Tg(m:aN)(ρ:ah):KP m ρ=(m ρ).bind fun d=>.ok (d,ρ):=(rfl)
@[simp] theorem S0(a:fA)(r:nG)(ρ:ah):KZ a r ρ=(a ρ).bind fun x=>(r x.2).bind fun y=>.ok (x.1::y.1,y.2):=(rfl)
@[simp] theorem T7(m:nG)(ρ:ah):BD m ρ=(m ρ).bind fun x=>(tV x.1).bind fun d=>.ok (d,x.2):=by
  unfold BD tV
  congr 1;funext x
  split<;>rfl
noncomputable def zF(i:Nat)(ds:List D)(ρ:ah):D→R (D×ah)
 |.lst af=>if ds.length+af.length≤1000000 then .ok (.non,ρ.set i (.cD (ds++af)))else .bad
 |_=>.bad
@[simp] theorem S6(i:Nat)(m:ay)(ρ:ah):qf i m ρ=(ownAt i ρ).bind fun ds=>(m ρ).bind fun d=>zF i ds ρ d:=by unfold qf;congr 1
@[simp] theorem Q7{i:Nat}{ds af:List D}{ρ:ah}(h:ds.length+af.length≤1000000):zF i ds ρ (.lst af)=.ok (.non,ρ.set i (.cD (ds++af))):=if_pos h
noncomputable def wW(i:Nat)(ds:List D)(ρ:ah):D→R (D×ah)
 |.int k=>if-(2^63)≤k∧k<2^63 then match seqIndex? k ds.length with
  |some j=>match ds[j]? with
   |some y=>.ok (y,ρ.set i (.cD (ds.eraseIdx j)))
   |none=>.bad
  |none=>.bad
  else .bad
 |_=>.bad
@[simp] theorem TL(i:Nat)(m:ay)(ρ:ah):BC i m ρ=(ownAt i ρ).bind fun ds=>(m ρ).bind fun d=>wW i ds ρ d:=by unfold BC;congr 1
theorem R6{i:Nat}{ds:List D}{ρ:ah}{k:Nat}(h:k<ds.length)(hl:ds.length<1000000):wW i ds ρ (.int (k:Int))=.ok (ds[k],ρ.set i (.cD (ds.eraseIdx k))):=by
 have e5: -(2^63)≤(k:Int):=Int.le_trans (by decide) (Int.natCast_nonneg k);have dZ:(k:Int)<2^63:=Int.lt_trans (b:=1000000) (by omega) (by decide);have s:seqIndex? (k:Int) ds.length=some k:=by rw[PySem.seqIndex_of (by omega) (by omega)];simp
 simp only[wW,if_pos (And.intro e5 dZ),s,List.getElem?_eq_getElem h]
noncomputable def sF(i:Nat)(ds:List D)(ρ:ah)(y:D):D→R (D×ah)
 |.int k=>if 0≤k∧k<2^63∧ds.length<1000000 then .ok (.non,ρ.set i (.cD (ds.take (min k.toNat ds.length)++y::ds.drop (min k.toNat ds.length))))else .bad
 |_=>.bad
@[simp] theorem Tc(i:Nat)(m n:ay)(ρ:ah):qg i m n ρ=(ownAt i ρ).bind fun ds=>(m ρ).bind fun d=>(n ρ).bind fun y=>sF i ds ρ y d:=by unfold qg;congr 1
@[simp] theorem Tj(m:aN)(ρ:ah):K2 m ρ=(m ρ).bind sP:=(rfl)
@[simp] theorem Ti(m:aN)(ρ:ah):h_ m ρ=(m ρ).bind p_:=(rfl)
@[simp] theorem Td(m:ay)(ρ:ah):m2 m ρ=(m ρ).bind xY:=(rfl)
@[simp] theorem T9(set:D→ah→R ah)(m:ay)(ρ:ah):K7 set m ρ=(m ρ).bind fun d=>(set d ρ).bind fun bo=>.ok (.bj bo):=(rfl)
@[simp] theorem TR(m:ay)(ρ:ah):ou m ρ=(m (eb ρ)).bind fun d=>.ok (.dB d):=(rfl)
@[simp] theorem TG(a:ay)(ρ:ah):m3 a ρ=(a ρ).bind fun x=>(hP x).bind fun c=>.ok (.aq (!c)):=(rfl)
@[simp] theorem Sf(ds:List D):xD (.lst ds)=.ok ds:=(rfl)
@[simp] theorem Sx(ds:List D):xY (.tup ds)=.ok ds:=(rfl)
@[simp] theorem RI(ds:List D):p_ [.lst ds]=.ok ds:=(rfl)
@[simp] theorem RH{xs:List D}(h:xs.length≤1000000):lim xs=.ok xs:=if_pos h
@[simp] theorem Rj:eb []=[]:=(rfl)
@[simp] theorem Ri(s:cS)(ρ:ah):eb (s::ρ)=kD s::eb ρ:=(rfl)
@[simp] theorem Rd(d:D):kD (.av d)=.av d:=(rfl)
@[simp] theorem Rh:kD .un=.un:=(rfl)
@[simp] theorem Rf(ds:List D):kD (.aR (.lst ds))=.av (.lst ds):=(rfl)
@[simp] theorem R0(i:Int):tl (.int i)=.ok (.int i):=(rfl)
@[simp] theorem RZ(i:Bool):tl (.aq i)=.ok (.aq i):=(rfl)
@[simp] theorem RW{α:Type}(a:α):ef (R.ok a)=.ok a:=(rfl)
def t2:Option cS→R (List D)
 |some (.aR (.lst ds))=>.ok ds
 |_=>.bad
@[simp] theorem T_(i:Nat)(ρ:ah):j_ i ρ=t2 ρ[i]?:=by unfold j_ t2;rfl
@[simp] theorem Uc(ds:List D):t2 (some (.cD ds))=.ok ds:=(rfl)
@[simp] theorem SW(f g:D→D→R D)(a b c:ay)(ρ:ah):hq f g a b c ρ=(a ρ).bind fun x=>(b ρ).bind fun y=>(f x y).bind fun z=>(hP z).bind fun k=>if k=true then(c ρ).bind fun w=>g y w else .ok (.aq false):=(rfl)
@[simp] theorem Rv(N:Nat)(ds:List D):i2 N ds=ds.map .av++List.replicate (N-ds.length) .un:=(rfl)
theorem i4{xs:List D}{k:Nat}{d:D}(h:xs[k]?=some d):bg (.lst xs) (.int (k:Int))=.ok d:=by
 have hk:=(List.getElem?_eq_some_iff.mp h).1;have e:es xs (k:Int)=some d:=by unfold es fI;rw[if_pos (by omega),if_pos (by omega)];simpa using h
 simp only[bg,e]
theorem JO{xs:List D}{k:Nat}{d:D}(h:xs[k]?=some d):bg (.bM xs) (.int (k:Int))=.ok d:=by
 have hk:=(List.getElem?_eq_some_iff.mp h).1;have e:es xs (k:Int)=some d:=by unfold es fI;rw[if_pos (by omega),if_pos (by omega)];simpa using h
 simp only[bg,e]
theorem p3{xs:List D}{k:Nat}{d:D}(h:xs[k]?=some d):bg (.tup xs) (.int (k:Int))=.ok d:=by
 have hk:=(List.getElem?_eq_some_iff.mp h).1;have e:es xs (k:Int)=some d:=by unfold es fI;rw[if_pos (by omega),if_pos (by omega)];simpa using h
 simp only[bg,e]
theorem lS(x:Int){n:Nat}(h:0<n):∃k:Nat,k<n∧x%(n:Int)=(k:Int):=by have h0:0≤x%(n:Int):=Int.emod_nonneg _ (by omega);have h1:x%(n:Int)<(n:Int):=Int.emod_lt_of_pos _ (by omega);obtain⟨k,e⟩:=Int.eq_ofNat_of_zero_le h0;exact⟨k,by omega,e⟩
@[simp] theorem R_(n:Nat)(h:n<1000000):qO [.int (n:Int)]=.ok (fX 0 n):=by have: -(2^62)≤(n:Int)∧(n:Int)<2^62:=⟨by omega,by omega⟩;simp only[qO,if_pos this,Int.toNat_natCast]
theorem Nl{n j:Nat}{d:D}(h:(fX 0 n)[j]?=some d):j<n∧d=.int (j:Int):=by
 unfold fX at h;rw[List.getElem?_map]at h;cases e:(List.range n)[j]? with
 |none=>rw[e]at h;cases h
 |some k=>
  rw[e]at h;have b4:j<n:=by have:=(List.getElem?_eq_some_iff.mp e).1;simpa using this
  rw[List.getElem?_range b4]at e;cases e;simp at h;exact⟨b4,h.symm⟩
@[simp] theorem Nn(a:Int)(n:Nat):(fX a n).length=n:=by simp[fX]
@[simp] theorem D4{α β QJ:Type}(r:R α)(f:α→R β)(g:β→R QJ):(r.bind f).bind g=r.bind fun x=>(f x).bind g:=by cases r<;>rfl
def Ends{β:Type}(r:R β)(T:β→Prop):Prop:=∃b,r=.ok b∧T b
@[simp] theorem G7{β:Type}(b:β)(T:β→Prop):Ends (.ok b) T=T b:=propext ⟨fun⟨c,e,h⟩=>by cases e;exact h,fun h=>⟨b,rfl,h⟩⟩
@[simp] theorem Q2{β:Type}(T:β→Prop):Ends (.bad) T=False:=propext ⟨fun⟨c,e,h⟩=>(by cases e),False.elim⟩
theorem Ends.bind{α β:Type}{r:R α}{k:α→R β}{S:α→Prop}{T:β→Prop}(h:Ends r S)(f:∀b,S b→Ends (k b) T):Ends (r.bind k) T:=by obtain⟨b,rfl,hb⟩:=h;exact f b hb
def pe(I:ah→Prop)(f:eI):Prop:=∃ρ,f=.bj ρ∧I ρ
@[simp] theorem ES(I:ah→Prop)(ρ:ah):pe I (.bj ρ)=I ρ:=propext ⟨fun⟨r,e,h⟩=>by cases e;exact h,fun h=>⟨ρ,rfl,h⟩⟩
theorem zy{β:Type}{mi:aN}{set:D→ah→R ah}{body:a_}{ds:List D}{ρ:ah}{k:eI→R β}{T:β→Prop}(I:Nat→ah→Prop)(hi:mi ρ=.ok ds)(h0:I 0 ρ)(st:∀(j:Nat) d ρ,ds[j]?=some d→I j ρ→Ends ((set d ρ).bind body) (pe (I (j+1))))(fin:∀bo,I ds.length bo→Ends (k (.bj bo)) T):Ends ((eN mi set body ρ).bind k) T:=by
 obtain⟨bo,e,h⟩:=Hx (body:=body) (set:=set) (mi:=mi) I hi (fun j d ρ hd kG=>by
  obtain⟨b,e,bo,rfl,h⟩:=st j d ρ hd kG;cases af:set d ρ with
  |bad=>rw[af]at e;cases e
  |exc c=>rw[af]at e;cases e
  |ok dI=>rw[af,e2]at e;exact⟨dI,bo,rfl,e,h⟩) h0
 rw[e,e2];exact fin bo h
def Dd(i:Nat):eI→R eI
 |.bj bo=>.ok (.bj (iQ i bo))
 |f=>.ok f
@[simp] theorem TX(i:Nat)(a:aN)(ρ:ah):ov i a ρ=(gG i a ρ).bind (Dd i):=by unfold ov;congr 1
@[simp] theorem Sq(i:Nat)(ρ:ah):Dd i (.bj ρ)=.ok (.bj (iQ i ρ)):=(rfl)
noncomputable def u6(ds:List D):D→R (List D)
 |.lst af=>if ds.length+af.length≤1000000 then .ok (ds++af)else .bad
 |_=>.bad
@[simp] theorem QX{ds af:List D}(h:ds.length+af.length≤1000000):u6 ds (.lst af)=.ok (ds++af):=if_pos h
noncomputable def y9:D→D→R (List D)
 |.lst ds,.lst af=>if ds.length+af.length≤1000000 then .ok (ds++af)else .bad
 |_,_=>.bad
@[simp] theorem QW{ds af:List D}(h:ds.length+af.length≤1000000):y9 (.lst ds) (.lst af)=.ok (ds++af):=if_pos h
@[simp] theorem SR(m n:ay)(ρ:ah):By m n ρ=(m ρ).bind fun c=>(n ρ).bind fun d=>y9 c d:=by unfold By;congr 1
@[simp] theorem SU(i:Nat)(m:ay)(ρ:ah):BA i m ρ=(ownAt i ρ).bind fun ds=>(m ρ).bind fun d=>u6 ds d:=by unfold BA;congr 1
@[simp] theorem SS(ma:aN)(m:ay)(ρ:ah):Bz ma m ρ=(ma ρ).bind fun ds=>(m ρ).bind fun d=>u6 ds d:=by unfold Bz;congr 1
@[simp] theorem T1(f:D→Option Int→Option Int→R D)(m:ay)(lo hi:jQ)(ρ:ah):ow f m lo hi ρ=(m ρ).bind fun d=>(lo ρ).bind fun l=>(hi ρ).bind fun h=>f d l h:=(rfl)
def sf(i:Nat)(ρ:ah):Option cS→ah
 |some (.aR o)=>ρ.set i (.av (kV o))
 |_=>ρ
@[simp] theorem Rb(i:Nat)(ρ:ah):iQ i ρ=sf i ρ ρ[i]?:=by unfold iQ sf;rfl
@[simp] theorem Ra(i:Nat)(ρ:ah)(ds:List D):sf i ρ (some (.cD ds))=ρ.set i (.av (.lst ds)):=(rfl)
@[simp] theorem Tz(ρ:ah):sW ρ=.ok none:=(rfl)
@[simp] theorem TK(m:ay)(ρ:ah):qj m ρ=(m ρ).bind intD:=(rfl)
@[simp] theorem Rw(i:Int):intD (.int i)=.ok (some i):=(rfl)
theorem zx{β α:Type}{mi:aN}{elt:ay}{tst:bN}{caps:List Nat}{ρ:ah}{k:List D→R β}{T:β→Prop}(g:α→D)(xs:List α)(p:α→Bool)(f:α→D)(hi:mi ρ=.ok (xs.map g))(hl:xs.length≤1000)(ht:∀a∈xs,tst (.av (g a)::caps.map fun j=>fk (ρ.getD j .un))=.ok (p a))(h:∀a∈xs,p a=true→elt (.av (g a)::caps.map fun j=>fk (ρ.getD j .un))=.ok (f a))(fin:Ends (k ((xs.filter p).map f)) T):Ends ((eZ 1 caps mi (bI 0) tst elt ρ).bind k) T:=by
 have go:∀(xs:List α)(ws:List D)(s0:cS),ws.length+xs.length≤1000000→(∀a∈xs,tst (.av (g a)::caps.map fun j=>fk (ρ.getD j .un))=.ok (p a))→(∀a∈xs,p a=true→elt (.av (g a)::caps.map fun j=>fk (ρ.getD j .un))=.ok (f a))→eL (bI 0) tst elt (xs.map g) (s0::caps.map fun j=>fk (ρ.getD j .un)) ws=.ok (ws++(xs.filter p).map f):=by
  intro xs;induction xs with
  |nil=>intro ws s0 _ _ _;simp[eL]
  |cons a xs ck=>
   intro ws s0 hl ht h;simp only[List.length_cons]at hl;have b6:bI 0 (g a) (s0::caps.map fun j=>fk (ρ.getD j .un))=.ok (.av (g a)::caps.map fun j=>fk (ρ.getD j .un)):=by simp
   rw[List.map_cons,eL,b6,e2,ht a (by simp),e2];cases e:p a with
   |true=>simp only[if_true,h a (by simp) e,e2,if_pos (show ws.length<1000000 by omega)];rw[ck (ws++[f a]) _ (by simp;omega) (fun x hx=>ht x (by simp[hx])) fun x hx=>h x (by simp[hx])];simp[e]
   |false=>simp only[Bool.false_eq_true,if_false];rw[ck ws _ (by omega) (fun x hx=>ht x (by simp[hx])) fun x hx=>h x (by simp[hx])];simp[e]
 rw[D0,hi,e2];have e:=go xs [] .un (by simp;omega) ht h;have:ef (eL (bI 0) tst elt (xs.map g) (jW 1 caps ρ) [])=.ok ((xs.filter p).map f):=by show ef (eL (bI 0) tst elt (xs.map g) (.un::caps.map fun j=>fk (ρ.getD j .un)) [])=_;rw[e];rfl
 rw[this,e2];exact fin
theorem zw{β α:Type}{mi:aN}{elt:ay}{caps:List Nat}{ρ:ah}{k:List D→R β}{T:β→Prop}(g:α→D)(xs:List α)(f:α→D)(hi:mi ρ=.ok (xs.map g))(hl:xs.length≤1000)(h:∀a∈xs,elt (.av (g a)::caps.map fun j=>fk (ρ.getD j .un))=.ok (f a))(fin:Ends (k (xs.map f)) T):Ends ((eZ 1 caps mi (bI 0) fJ elt ρ).bind k) T:=
 zx g xs (fun _=>true) f hi hl (fun _ _=>rfl) (fun a ha _=>h a ha) (by rw[List.filter_eq_self.mpr fun _ _=>rfl];exact fin)
theorem Nk(n:Nat):fX 0 n=(List.range n).map fun(i:Nat)=>.int (i:Int):=by simp[fX]
theorem vk{β:Type}{mi:aN}{elt:ay}{caps:List Nat}{ρ:ah}{k:List D→R β}{T:β→Prop}(n:Nat)(f:Nat→D)(hi:mi ρ=.ok (fX 0 n))(hl:n≤1000)(h:∀a,a<n→elt (.av (.int (a:Int))::caps.map fun j=>fk (ρ.getD j .un))=.ok (f a))(fin:Ends (k ((List.range n).map f)) T):Ends ((eZ 1 caps mi (bI 0) fJ elt ρ).bind k) T:=
 zw (fun(i:Nat)=>.int (i:Int)) (List.range n) f (by rw[hi,Nk]) (by simpa using hl) (fun a ha=>h a (by simpa using ha)) fin
theorem pH{β α:Type}{mi:aN}{set:D→ah→R ah}{body:a_}{ρ:ah}{k:eI→R β}{T:β→Prop}(g:α→D)(xs:List α)(I:Nat→ah→Prop)(hi:mi ρ=.ok (xs.map g))(h0:I 0 ρ)(st:∀(j:Nat) a ρ,xs[j]?=some a→I j ρ→Ends ((set (g a) ρ).bind body) (pe (I (j+1))))(fin:∀bo,I xs.length bo→Ends (k (.bj bo)) T):Ends ((eN mi set body ρ).bind k) T:=
 zy I hi h0 (fun j d ρ hd kG=>by
  rw[List.getElem?_map]at hd;cases e:xs[j]? with
  |none=>rw[e]at hd;cases hd
  |some a=>rw[e]at hd;cases hd;exact st j a ρ e kG) (by rw[List.length_map];exact fin)
theorem pI{β:Type}{mi:aN}{set:D→ah→R ah}{body:a_}{ρ:ah}{k:eI→R β}{T:β→Prop}(n:Nat)(I:Nat→ah→Prop)(hi:mi ρ=.ok (fX 0 n))(h0:I 0 ρ)(st:∀(j:Nat) ρ,j<n→I j ρ→Ends ((set (.int (j:Int)) ρ).bind body) (pe (I (j+1))))(fin:∀bo,I n bo→Ends (k (.bj bo)) T):Ends ((eN mi set body ρ).bind k) T:=
 zy I hi h0 (fun j d ρ hd kG=>by obtain⟨b4,rfl⟩:=Nl hd;exact st j ρ b4 kG) (by rw[Nn];exact fin)
def j6{α:Type}(l:List α)(n:Nat)(y:α):List α:=l.take (min n l.length)++y::l.drop (min n l.length)
theorem A2{α:Type}(l:List α)(n:Nat)(y:α):List.Perm (j6 l n y) (y::l):=by unfold j6;refine List.perm_middle.trans ?_;rw[List.take_append_drop]
theorem JA{α:Type}(l:List α)(n:Nat)(y:α):(j6 l n y).length=l.length+1:=by rw[(A2 l n y).length_eq,List.length_cons]
theorem Jt{α:Type}(g:α→D){l:List α}{i:Nat}{v:Int}(h:0≤v)(h2:v≤1000000)(hl:l.length<1000000)(y:α)(d:D)(e:d=g y)(ρ:ah):sF i (l.map g) ρ d (.int v)=.ok (.non,ρ.set i (.cD ((j6 l v.toNat y).map g))):=by subst e;have b:0≤v∧v<2^63∧(l.map g).length<1000000:=⟨h,by omega,by simpa using hl⟩;simp only[sF,if_pos b,j6];simp[List.map_take,List.map_drop]
@[simp] theorem RK(n:Nat)(h:n≤1000000):sP [.int (n:Int)]=.ok (fX 0 n):=by have: -(2^62)≤(n:Int)∧(n:Int)≤1000000:=⟨by omega,by omega⟩;simp only[sP,if_pos this,Int.toNat_natCast]
@[simp] theorem RO(i j:Int):Lb [.int i,.int j]=.ok (.int (if j>i then j else i)):=(rfl)
@[simp] theorem QR{xs ys:List D}(h:xs.length+ys.length≤1000000):dY (.lst xs) (.lst ys)=.ok (.lst (xs++ys)):=if_pos h
@[simp] theorem Sl(xs:List D)(l h:Option Int):oP (.lst xs) l h=.ok (.lst (jn xs l h)):=(rfl)
@[simp] theorem Sm(xs:List D)(l h:Option Int):oP (.bM xs) l h=.ok (.lst (jn xs l h)):=(rfl)
theorem FO{α:Type}(xs:List α)(k:Nat):jn xs none (some (k:Int))=xs.take k:=by
 unfold jn;rw[dm.NP,dm.NO,List.drop_zero,Nat.sub_zero];by_cases h:k≤xs.length
 ·rw[Nat.min_eq_left h]
 ·rw[Nat.min_eq_right (by omega),List.take_length,List.take_of_length_le (by omega)]
@[simp] theorem Si(aK:List (D→ah→R ah))(ds:List D)(ρ:ah):gP aK (.tup ds) ρ=fY aK ds ρ:=(rfl)
@[simp] theorem Sh(ρ:ah):fY [] [] ρ=.ok ρ:=(rfl)
@[simp] theorem Sg(f:D→ah→R ah)(aK:List (D→ah→R ah))(d:D)(ds:List D)(ρ:ah):fY (f::aK) (d::ds) ρ=(f d ρ).bind fun bo=>fY aK ds bo:=(rfl)
@[simp] theorem Tr(a0:Str)(n:Nat)(mf:List D→R (List Str×List D))(ma:aN)(ρ:ah):qi a0 n mf ma ρ=(ma ρ).bind fun ds=>if ds.length=n then(ef (mf ds)).bind fun x=>.ok (.ins a0 x.1 x.2)else .bad:=(rfl)
@[simp] theorem Sy(xs:List D):jI [.lst xs]=.ok (.tup xs):=(rfl)
@[simp] theorem S4(k:Str)(i:Int)(ρ:ah):K0 k i ρ=.ok (.cj [.inr k] [.int i]):=(rfl)
@[simp] theorem RV(i:Int):kU (.int i)=.ok (.int (-i)):=(rfl)
@[simp] theorem R9{x:D}{k:Int}(h0:0≤k)(h:k≤1000):oM (.lst [x]) (.int k)=.ok (.lst (List.replicate k.toNat x)):=by
  have b:0≤k∧k≤1000∧[x].length≤100:=⟨h0,h,by simp⟩;simp only[oM,if_pos b]
  congr 2
  generalize k.toNat=n;induction n with
  |zero=>rfl
  |succ n ck=>simp[List.replicate_succ,ck]
@[simp] theorem S9(m:aN)(ρ:ah):oj m ρ=(m ρ).bind pJ:=(rfl)
@[simp] theorem v_is(m:ay)(ρ:ah):K1 m ρ=(m ρ).bind xE:=(rfl)
@[simp] theorem T2(m:aN)(ρ:ah):sY m ρ=(m ρ).bind qU:=(rfl)
@[simp] theorem Tu(i:Nat)(m:a_)(ρ:ah):oi i m ρ=m (iQ i ρ):=(rfl)
@[simp] theorem Ta(c:bN)(a b:ay)(ρ:ah):om c a b ρ=(c ρ).bind fun k=>if k=true then a ρ else b ρ:=(rfl)
@[simp] theorem TH(a b:ay)(ρ:ah):K4 a b ρ=(a ρ).bind fun x=>(hP x).bind fun c=>if c=true then .ok (.aq true)else b ρ:=(rfl)
@[simp] theorem Ts(a0 mt:Str)(n:Nat)(mf:List D→R b0)(o:ay)(ma:aN)(ρ:ah):fU a0 mt n mf o ma ρ=(o ρ).bind fun d=>(hB a0 mt d).bind fun d=>(ma ρ).bind fun ds=>if ds.length=n then(mf (d::ds)).bind gO else .bad:=(rfl)
@[simp] theorem S3(ρ:ah):sU ρ=.ok (.cj [] []):=(rfl)
@[simp] theorem Tq(i:Nat)(a:gY)(ρ:ah):qk i a ρ=(a ρ).bind fun t=>if i<ρ.length then .ok (.bj (ρ.set i (.cW t)))else .bad:=(rfl)
@[simp] theorem Tp(a:gY)(ρ:ah):K5 a ρ=(a ρ).bind fun t=>.ok (.gM t):=(rfl)
def x_:Option cS→R T
 |some (.cW t)=>.ok t
 |_=>.bad
@[simp] theorem Ua(i:Nat)(ρ:ah):BE i ρ=x_ ρ[i]?:=by unfold BE x_;rfl
@[simp] theorem Ud(t:T):x_ (some (.cW t))=.ok t:=(rfl)
def xW:Option cS→R (List T)
 |some (.cW (.lst ts))=>.ok ts
 |_=>.bad
@[simp] theorem T4(i:Nat)(ρ:ah):jb i ρ=xW ρ[i]?:=by unfold jb xW;rfl
@[simp] theorem Su(ts:List T):xW (some (.cW (.lst ts)))=.ok ts:=(rfl)
@[simp] theorem Sn(b:a_)(t:T):qX b (.gM t)=.ok (.gM t):=(rfl)
@[simp] theorem R1(t:T):outD (.gM t)=.ok (.t t):=(rfl)
@[simp] theorem Sd(t:T):gO (.t t)=.ok (toD t):=(rfl)
@[simp] theorem Rg(t:T):kD (.cW t)=.av (toD t):=(rfl)
@[simp] theorem SI(i:Nat)(mk m:ay)(ρ:ah):sS i mk m ρ=(jb i ρ).bind fun ts=>(mk ρ).bind fun k=>nR i ρ ts m k:=(rfl)
theorem E6{i:Nat}{ρ:ah}{ts:List T}{m:ay}{k:Nat}{us:List T}{d:D}(h:ts[k]?=some (.lst us))(hm:m ρ=.ok d)(hu:us.length<1000000):nR i ρ ts m (.int (k:Int))=.ok (.bj (ρ.set i (.cW (.lst (ts.set k (.lst (us++[.av d]))))))):=by
 have hk:=(List.getElem?_eq_some_iff.mp h).1;have e:fI ts.length (k:Int)=some k:=by unfold fI;rw[if_pos (by omega),if_pos (by omega)];simp
 simp only[nR,e,uP,h,hm,e2,if_pos hu]
@[simp] theorem TM(i:Nat)(mk mv:ay)(ρ:ah):sX i mk mv ρ=(mv ρ).bind fun v=>(ownAt i ρ).bind fun ds=>(mk ρ).bind fun k=>putK i ρ ds v k:=(rfl)
theorem M3{i:Nat}{ρ:ah}{ds:List D}{v:D}{k:Nat}(h:k<ds.length):putK i ρ ds v (.int (k:Int))=.ok (.bj (ρ.set i (.cD (ds.set k v)))):=by
 have e:fI ds.length (k:Int)=some k:=by unfold fI;rw[if_pos (by omega),if_pos (by omega)];simp
 simp only[putK,e,putN]
def JM(ds:List D):D→R D
 |.int j=>match es ds j with
  |some d=>.ok d
  |none=>.bad
 |_=>.bad
@[simp] theorem Te(i:Nat)(n:ay)(ρ:ah):BB i n ρ=(ownAt i ρ).bind fun ds=>(n ρ).bind (JM ds):=by unfold BB;congr 1
@[simp] theorem Ss(k:Bool):Pg [.aq k]=.ok (.int (if k then 1 else 0)):=(rfl)
@[simp] theorem Rx(x:D):n6 true x .non=.ok (.aq (mW x)):=(rfl)
@[simp] theorem Sj(x:Str):xE (.str x)=.ok (x.cps.toList.map C6):=(rfl)
theorem G9{α:Type}(g:α→D)(xs:List α):pJ [.lst (xs.map g)]=.ok (xs.zipIdx.map fun p=>.tup [.int (p.2:Int),g p.1]):=by
 simp only[pJ,lF]
 congr 1
 rw[List.zipIdx_map,List.map_map];rfl
theorem QI{α:Type}{xs:List α}{j:Nat}{p:α×Nat}(h:xs.zipIdx[j]?=some p):p.2=j∧xs[j]?=some p.1:=by
 rw[List.getElem?_zipIdx]at h;cases e:xs[j]? with
 |none=>rw[e]at h;cases h
 |some a=>rw[e]at h;simp at h;subst h;exact⟨rfl,rfl⟩
theorem G5{β α:Type}{mi:aN}{elt:ay}{caps:List Nat}{ρ:ah}{k:List D→R β}{yw:β→Prop}(g1 g2:α→D)(xs:List α)(f:α→D)(hi:mi ρ=.ok (xs.map fun a=>.tup [g1 a,g2 a]))(hl:xs.length≤1000)(h:∀a∈xs,elt (.av (g1 a)::.av (g2 a)::caps.map fun j=>fk (ρ.getD j .un))=.ok (f a))(fin:Ends (k (xs.map f)) yw):Ends ((eZ 2 caps mi (gP [bI 0,bI 1]) fJ elt ρ).bind k) yw:=by
 have go:∀(xs:List α)(ws:List D)(s0 s1:cS),ws.length+xs.length≤1000000→(∀a∈xs,elt (.av (g1 a)::.av (g2 a)::caps.map fun j=>fk (ρ.getD j .un))=.ok (f a))→eL (gP [bI 0,bI 1]) fJ elt (xs.map fun a=>.tup [g1 a,g2 a]) (s0::s1::caps.map fun j=>fk (ρ.getD j .un)) ws=.ok (ws++xs.map f):=by
  intro xs;induction xs with
  |nil=>intro ws s0 s1 _ _;simp[eL]
  |cons a xs ck=>
   intro ws s0 s1 hl h;simp only[List.length_cons]at hl;have b6:gP [bI 0,bI 1] (.tup [g1 a,g2 a]) (s0::s1::caps.map fun j=>fk (ρ.getD j .un))=.ok (.av (g1 a)::.av (g2 a)::caps.map fun j=>fk (ρ.getD j .un)):=by simp
   rw[List.map_cons,eL,b6,e2];simp only[fJ,e2,if_true,h a (by simp),if_pos (show ws.length<1000000 by omega)];rw[ck (ws++[f a]) _ _ (by simp;omega) fun x hx=>h x (by simp[hx])];simp
 rw[D0,hi,e2];have e:=go xs [] .un .un (by simp;omega) h;have:ef (eL (gP [bI 0,bI 1]) fJ elt (xs.map fun a=>.tup [g1 a,g2 a]) (jW 2 caps ρ) [])=.ok (xs.map f):=by show ef (eL (gP [bI 0,bI 1]) fJ elt (xs.map fun a=>.tup [g1 a,g2 a]) (.un::.un::caps.map fun j=>fk (ρ.getD j .un)) [])=_;rw[e];rfl
 rw[this,e2];exact fin
theorem Ends.done{β:Type}{r:R β}{b:β}(h:Ends r (· =b)):r=.ok b:=by obtain⟨c,e,rfl⟩:=h;exact e
end az
namespace cv
open PySem PySem.Spec aV az
def top(i:Nat):Stmt:=PySem.Challenge.pw_nohalfway_k02_nets.main.body.getD i (.Pass ⟨0,0,0,0⟩)
abbrev xt:Stmt:=top 25
abbrev xo:Stmt:=top 24
abbrev xp:Stmt:=top 26
abbrev xq:Stmt:=top 27
abbrev xy:Stmt:=top 28
abbrev xi:Stmt:=top 18
abbrev xj:Stmt:=top 12
abbrev xk:Stmt:=top 13
abbrev xh:Stmt:=top 19
abbrev xl:Stmt:=top 20
abbrev xg:Stmt:=top 21
abbrev xf:Stmt:=top 17
abbrev w_:Stmt:=inClass (top 22) 0
abbrev xx:Stmt:=top 33
abbrev xa:Stmt:=inClass (top 22) 5
abbrev xb:Stmt:=inClass (top 22) 6
abbrev xr:Stmt:=top 34
abbrev xc:Stmt:=inClass (top 22) 4
abbrev xd:Stmt:=inClass (top 22) 2
abbrev w8:Stmt:=inClass (top 22) 3
abbrev w9:Stmt:=inClass (top 22) 1
abbrev xw:Stmt:=top 35
abbrev xu:Stmt:=top 29
abbrev xv:Stmt:=top 30
abbrev xn:Stmt:=top 31
abbrev xm:Stmt:=top 32
abbrev lZ:Stmt:=top 36
def mE:D:=.int 4
def lB:D:=.int 6
structure uK(K:PySem.W.Frag)(mg:Str→Option Value):Prop where
 z0:eo K mg "_law_mix" xt ["_law_cell","_law_k"]
 zW:eo K mg "_law_cell_at" xo ["_law_script","_law_k"]
 zX:eo K mg "_law_counts" xp ["_law_script"]
 zY:eo K mg "_law_doors" xq ["_law_counts_here"]
 z5:eo K mg "_law_wires" xy ["_law_script","_law_counts_here"]
 zQ:eo K mg "is_pair" xi ["thing"]
 zR:eo K mg "is_whole" xj ["thing"]
 zS:eo K mg "is_whole_within" xk ["thing","least","greatest"]
 zP:eo K mg "is_door_among" xh ["counts","thing"]
 zT:eo K mg "is_wire_among" xl ["counts","thing"]
 zO:eo K mg "far_doors" xg ["counts","wires"]
 zN:eo K mg "are_counts" xf ["thing"]
 zI:InK K mg "Net" "Net.__init__" w_ ["self","counts","wires"]
 z4:eo K mg "_law_truth" xx ["_law_found","_law_due"]
 zJ:lr K "Net" "is_door" "Net.is_door" xa ["self","thing"]
 zK:lr K "Net" "is_outer" "Net.is_outer" xb ["self","thing"]
 zZ:eo K mg "_law_doors_right" xr ["_law_net","_law_counts_here","_law_far","_law_doors_here","_law_in_wires"]
 zL:lr K "Net" "outer" "Net.outer" xc ["self"]
 zM:lr K "Net" "wires" "Net.wires" xd ["self"]
 zG:lr K "Net" "beyond" "Net.beyond" w8 ["self","door"]
 zH:lr K "Net" "count" "Net.count" w9 ["self","house"]
 z3:eo K mg "_law_right" xw ["_law_net","_law_counts_here","_law_wires_here","_law_far"]
 z1:eo K mg "_law_names" xu ["_law_e"]
 z2:eo K mg "_law_refused" xv ["_law_counts_here","_law_wires_here"]
 zV:eo K mg "_law_bad_wires" xn ["_law_counts_here","_law_wires_here","_law_number"]
 zU:eo K mg "_law_bad_counts" xm ["_law_counts_here","_law_number"]
 Hl:eo K mg "law" lZ ["_law_script"]
 rl:ux K mg "NoNet"
 DM:jP K mg "NoAddress" [("NoNet",false)]
 DN:jP K mg "NoBooks" [("NoNet",false)]
 DO:jP K mg "NoDoor" [("NoNet",false)]
 DP:jP K mg "NoMove" [("NoNet",false)]
 DQ:jP K mg "NoNet" [("NoNet",true)]
 DR:jP K mg "NoPlan" [("NoNet",false)]
 DS:jP K mg "NoRow" [("NoNet",false)]
 DT:jP K mg "NoSaying" [("NoNet",false)]
 DU:jP K mg "NoText" [("NoNet",false)]
 DV:o_ K (.type "ValueError") [("NoNet",true)]
 Dz:yx K mg "WayError" ["NoNet"]
 fT:o4 K "Net" ["many","counts","joined","far"]
 yP:mg "ValueError"=none
 yQ:mg "all"=none
 pk:mg "bool"=none
 yR:mg "enumerate"=none
 yS:mg "int"=none
 fD:mg "isinstance"=none
 gb:mg "len"=none
 iM:mg "list"=none
 ky:mg "range"=none
 yY:mg "sorted"=none
 nT:mg "tuple"=none
 mE:uv K mg "MOST_DOORS" mE
 lB:uv K mg "MOST_HOUSES" lB
theorem Oo:c0 ["_law_cell","_law_k"] ["_law_cell","_law_k"] (bX xt):=⟨rfl,rfl,rfl,by decide+kernel,rfl,by decide+kernel,by decide+kernel⟩
noncomputable def rU:a_:=
    cY (aB hV (aB gp (aB ka (aB dY (aB gp (aj 0) (aB lX (aw (.int 10)) (aw (.int 30)))) (aw (.int 1))) (aB dY (aB dY (aw (.int 48271)) (aB ka (aB ka (aw (.int 2)) (aj 1)) (aj 1))) (aj 1))) (aw (.int 2147483647))) (aw (.int 7)))
def fW:List D→R b0:=c_ 2 rU
theorem Om:c0 ["_law_script","_law_k"] ["_law_script","_law_k"] (bX xo):=⟨rfl,rfl,rfl,by decide+kernel,rfl,by decide+kernel,by decide+kernel⟩
noncomputable def rT:a_:=
    bC (du (bV (aB od (aj 1) (cU dg (ae (aj 0) (ax))))) (cY (aB bg (aj 0) (aj 1))) (dz))
    (cY (aw (.int 0)))
def ia:List D→R b0:=c_ 2 rT
theorem CU:c0 ["_law_script","_law_many"] ["_law_script"] (bX xp):=⟨rfl,rfl,rfl,by decide+kernel,rfl,by decide+kernel,by decide+kernel⟩
noncomputable def uY:a_:=
    bC (dA 1 (aB dY (aw (.int 1)) (aB gp (cG 2 fW (ae (cG 2 ia (ae (aj 0) (ae (aw (.int 0)) (ax)))) (ae (aw (.int 1)) (ax)))) (aw (.int 6)))))
    (gm (eZ 1 [0] (gF (ae (aj 1) (ax))) (bI 0) (fJ) (aB dY (aw (.int 1)) (aB gp (cG 2 fW (ae (cG 2 ia (ae (aj 1) (ae (aw (.int 1)) (ax)))) (ae (aB dY (aw (.int 3)) (aj 0)) (ax)))) (aw (.int 4))))))
def qo:List D→R b0:=c_ 2 uY
theorem xC:c0 ["_law_counts_here","_law_doors_here","_law_house"] ["_law_counts_here"] (bX xq):=⟨rfl,rfl,rfl,by decide+kernel,rfl,by decide+kernel,by decide+kernel⟩
noncomputable def uZ:a_:=
    bC (gG 1 (dy (ax)))
    (bC (eN (gF (ae (cU dg (ae (aj 0) (ax))) (ax))) (bI 2) (mZ (qf 1 (cO (eZ 1 [2] (gF (ae (aB bg (aj 0) (aj 2)) (ax))) (bI 0) (fJ) (bP (ae (aj 1) (ae (aj 0) (ax)))))))))
    (gm (j_ 1)))
def qp:List D→R b0:=c_ 3 uZ
theorem nd:c0 ["_law_script","_law_counts_here","_law_doors_here","_law_some","_law_k","_law_dealt","_law_most","_law_many"] ["_law_script","_law_counts_here"] (bX xy):=⟨rfl,rfl,rfl,by decide+kernel,rfl,by decide+kernel,by decide+kernel⟩
noncomputable def u3:a_:=
    bC (dA 2 (cO (jw 1 qp (ae (aj 1) (ax)))))
    (bC (gG 3 (dy (ax)))
    (bC (eN (gF (ae (cU dg (ae (aj 2) (ax))) (ax))) (bI 4) (kP 3 (bP (ae (cG 2 fW (ae (aB dY (cG 2 ia (ae (aj 0) (ae (aw (.int 2)) (ax)))) (aB ka (aj 4) (aj 4))) (ae (aB dY (aw (.int 20)) (aj 4)) (ax)))) (ae (aB bg (aj 2) (aj 4)) (ax))))))
    (bC (oi 3 (ov 5 (eZ 2 [] (hy (cO (sY (ae (aj 3) (ax))))) (gP [bI 0,bI 1]) (fJ) (aj 1))))
    (bC (dA 6 (aB hV (aB ni (cU dg (ae (aj 2) (ax))) (aw (.int 1))) (aw (.int 2))))
    (bC (dA 7 (aB ni (aj 6) (aB gp (cG 2 fW (ae (cG 2 ia (ae (aj 0) (ae (aw (.int 3)) (ax)))) (ae (aw (.int 11)) (ax)))) (aB dY (aB hV (aj 6) (aw (.int 3))) (aw (.int 1))))))
    (gm (eZ 1 [5] (gF (ae (aj 7) (ax))) (bI 0) (fJ) (bP (ae (aB bg (aj 1) (aB ka (aw (.int 2)) (aj 0))) (ae (aB bg (aj 1) (aB dY (aB ka (aw (.int 2)) (aj 0)) (aw (.int 1)))) (ax)))))))))))
def qr:List D→R b0:=c_ 8 u3
theorem Oi:c0 ["thing"] ["thing"] (bX xi):=⟨rfl,rfl,rfl,by decide+kernel,rfl,by decide+kernel,by decide+kernel⟩
noncomputable def yT:a_:=
    cY (hn (bW (gh "tuple") (aj 0)) (aB (de true) (cU dg (ae (aj 0) (ax))) (aw (.int 2))))
def kS:List D→R b0:=c_ 1 yT
theorem Oj:c0 ["thing"] ["thing"] (bX xj):=⟨rfl,rfl,rfl,by decide+kernel,rfl,by decide+kernel,by decide+kernel⟩
def yU:a_:=
    cY (hn (bW (gh "int") (aj 0)) (m3 (bW (gh "bool") (aj 0))))
def oB:List D→R b0:=c_ 1 yU
theorem Ol:c0 ["thing","least","greatest"] ["thing","least","greatest"] (bX xk):=⟨rfl,rfl,rfl,by decide+kernel,rfl,by decide+kernel,by decide+kernel⟩
def rR:a_:=
    cY (hn (cG 1 oB (ae (aj 0) (ax))) (hq jv jv (aj 1) (aj 0) (aj 2)))
def gH:List D→R b0:=c_ 3 rR
theorem Oh:c0 ["counts","thing"] ["counts","thing"] (bX xh):=⟨rfl,rfl,rfl,by decide+kernel,rfl,by decide+kernel,by decide+kernel⟩
noncomputable def lz:a_:=
    bC (du (fV (dU (bV (cG 1 kS (ae (aj 1) (ax))))) (dU (bV (cG 3 gH (ae (aB bg (aj 1) (aw (.int 0))) (ae (aw (.int 0)) (ae (aB ni (cU dg (ae (aj 0) (ax))) (aw (.int 1))) (ax)))))))) (cY (aw (.aq false))) (dz))
    (cY (cG 3 gH (ae (aB bg (aj 1) (aw (.int 1))) (ae (aw (.int 0)) (ae (aB ni (aB bg (aj 0) (aB bg (aj 1) (aw (.int 0)))) (aw (.int 1))) (ax))))))
def eE:List D→R b0:=c_ 2 lz
theorem CS:c0 ["counts","thing","both"] ["counts","thing"] (bX xl):=⟨rfl,rfl,rfl,by decide+kernel,rfl,by decide+kernel,by decide+kernel⟩
noncomputable def mB:a_:=
    bC (du (dU (bV (cG 1 kS (ae (aj 1) (ax))))) (cY (aw (.aq false))) (dz))
    (bC (dA 2 (hn (cG 2 eE (ae (aj 0) (ae (aB bg (aj 1) (aw (.int 0))) (ax)))) (cG 2 eE (ae (aj 0) (ae (aB bg (aj 1) (aw (.int 1))) (ax))))))
    (cY (hn (aj 2) (aB (de false) (aB bg (aj 1) (aw (.int 0))) (aB bg (aj 1) (aw (.int 1)))))))
def gI:List D→R b0:=c_ 3 mB
theorem xB:c0 ["counts","wires","far","wire"] ["counts","wires"] (bX xg):=⟨rfl,rfl,rfl,by decide+kernel,rfl,by decide+kernel,by decide+kernel⟩
noncomputable def uW:a_:=
    bC (i6 (lP 2))
    (bC (eN (m2 (aj 1)) (bI 3) (bC (du (i7 (dU (bV (cG 2 gI (ae (aj 0) (ae (aj 3) (ax))))))) (ot "NoNet") (dz))
    (bC (du (i7 (lO (fV (bV (aB (d0 true) (aB bg (aj 3) (aw (.int 0))) (aj 2))) (bV (aB (d0 true) (aB bg (aj 3) (aw (.int 1))) (aj 2)))))) (ot "NoNet") (dz))
    (bC (i6 (hZ 2 (aB bg (aj 3) (aw (.int 0))) (aB bg (aj 3) (aw (.int 1)))))
    (i6 (hZ 2 (aB bg (aj 3) (aw (.int 1))) (aB bg (aj 3) (aw (.int 0)))))))))
    (i6 (ou (aj 2))))
def kR:List D→R b0:=c_ 4 uW
theorem Og:c0 ["thing"] ["thing"] (bX xf):=⟨rfl,rfl,rfl,by decide+kernel,rfl,by decide+kernel,by decide+kernel⟩
noncomputable def ly:a_:=
    bC (du (fV (dU (bV (bW (gh "list") (aj 0)))) (dU (bV (hq jv jv (aw (.int 1)) (cU dg (ae (aj 0) (ax))) (aw lB))))) (cY (aw (.aq false))) (dz))
    (cY (cU cT (ae (cO (eZ 1 [] (hy (aj 0)) (bI 0) (fJ) (cG 3 gH (ae (aj 0) (ae (aw (.int 1)) (ae (aw mE) (ax))))))) (ax))))
def gn:List D→R b0:=c_ 1 ly
theorem Oc:c0 ["self","counts","wires"] ["self","counts","wires"] (bX w_):=⟨rfl,rfl,rfl,by decide+kernel,rfl,by decide+kernel,by decide+kernel⟩
noncomputable def lx:gX:=
    jx (m1 (i7 (dU (bV (cG 1 gn (ae (aj 1) (ax)))))) "NoNet")
    (jx (m1 (i7 (dU (bV (bW (gh "list") (aj 2))))) "NoNet")
    (jx (iy "Net" "many" (jz (cU dg (ae (aj 1) (ax)))))
    (jx (iy "Net" "counts" (jz (cU jI (ae (aj 1) (ax)))))
    (jx (iy "Net" "joined" (jz (cU jI (ae (aj 2) (ax)))))
    (iy "Net" "far" (kQ (cG 2 kR (lU (ae (bW (c8 "Net" "counts") (aj 0)) (ae (bW (c8 "Net" "joined") (aj 0)) (ax)))))))))))
def jy:List D→R (List Str×List D):=fun af=>oH "Net" (lx (g9 "Net" af))
theorem Oq:c0 ["_law_found","_law_due"] ["_law_found","_law_due"] (bX xx):=⟨rfl,rfl,rfl,by decide+kernel,rfl,by decide+kernel,by decide+kernel⟩
def yW:a_:=
    cY (hn (bW (gh "bool") (aj 0)) (aB (de true) (aj 0) (aj 1)))
def oC:List D→R b0:=c_ 2 yW
theorem Od:c0 ["self","thing"] ["self","thing"] (bX xa):=⟨rfl,rfl,rfl,by decide+kernel,rfl,by decide+kernel,by decide+kernel⟩
def uT:a_:=
    cY (cG 2 eE (ae (bW (c8 "Net" "counts") (aj 0)) (ae (aj 1) (ax))))
def oy:List D→R b0:=c_ 2 uT
theorem Oe:c0 ["self","thing"] ["self","thing"] (bX xb):=⟨rfl,rfl,rfl,by decide+kernel,rfl,by decide+kernel,by decide+kernel⟩
noncomputable def rQ:a_:=
    cY (hn (fU "Net" "is_door" 1 oy (aj 0) (ae (aj 1) (ax))) (aB (d0 false) (aj 1) (bW (c8 "Net" "far") (aj 0))))
def m4:List D→R b0:=c_ 2 rQ
theorem tA:c0 ["_law_net","_law_counts_here","_law_far","_law_doors_here","_law_in_wires","_law_door","_law_there","_law_thing"] ["_law_net","_law_counts_here","_law_far","_law_doors_here","_law_in_wires"] (bX xr):=⟨rfl,rfl,rfl,by decide+kernel,rfl,by decide+kernel,by decide+kernel⟩
noncomputable def u0:a_:=
    bC (eN (hy (aB dY (aj 3) (cO (dy (ae (bP (ae (aw (.int 0)) (ae (aB bg (aj 1) (aw (.int 0))) (ax)))) (ae (bP (ae (cU dg (ae (aj 1) (ax))) (ae (aw (.int 0)) (ax)))) (ae (bP (ae (bW kU (aw (.int 1))) (ae (aw (.int 0)) (ax)))) (ae (bP (ae (aw (.int 0)) (ae (bW kU (aw (.int 1))) (ax)))) (ax))))))))) (bI 5) (bC (dA 6 (aB (inD true) (aj 5) (aj 3)))
    (bC (du (dU (bV (cG 2 oC (ae (fU "Net" "is_door" 1 oy (aj 0) (ae (aj 5) (ax))) (ae (aj 6) (ax)))))) (cY (aw (.aq false))) (dz))
    (du (dU (bV (cG 2 oC (ae (fU "Net" "is_outer" 1 m4 (aj 0) (ae (aj 5) (ax))) (ae (hn (aj 6) (aB (d0 false) (aj 5) (aj 4))) (ax)))))) (cY (aw (.aq false))) (dz)))))
    (bC (eN (hy (cO (dy (ae (aw .non) (ae (aw (.int 0)) (ae (aw (.str (PySem.Str.ofString "0.0"))) (ae (cO (dy (ae (aw (.int 0)) (ae (aw (.int 0)) (ax))))) (ae (bP (ae (aw (.int 0)) (ax))) (ae (bP (ae (aw (.int 0)) (ae (aw (.int 0)) (ae (aw (.int 0)) (ax))))) (ae (bP (ae (aw (.aq false)) (ae (aw (.int 0)) (ax)))) (ae (bP (ae (aw (.int 0)) (ae (aw .non) (ax)))) (ae (bP (ae (bP (ae (aw (.int 0)) (ae (aw (.int 0)) (ax)))) (ae (bP (ae (aw (.int 0)) (ae (aw (.int 0)) (ax)))) (ax)))) (ae (aj 2) (ax)))))))))))))) (bI 7) (du (fV (dU (bV (cG 2 oC (ae (fU "Net" "is_door" 1 oy (aj 0) (ae (aj 7) (ax))) (ae (aw (.aq false)) (ax)))))) (dU (bV (cG 2 oC (ae (fU "Net" "is_outer" 1 m4 (aj 0) (ae (aj 7) (ax))) (ae (aw (.aq false)) (ax))))))) (cY (aw (.aq false))) (dz)))
    (cY (aw (.aq true))))
def sZ:List D→R b0:=c_ 8 u0
theorem tx:c0 ["self","found","house","number"] ["self"] (bX xc):=⟨rfl,rfl,rfl,by decide+kernel,rfl,by decide+kernel,by decide+kernel⟩
noncomputable def uU:a_:=
    bC (gG 1 (dy (ax)))
    (bC (eN (gF (ae (bW (c8 "Net" "many") (aj 0)) (ax))) (bI 2) (eN (gF (ae (aB bg (bW (c8 "Net" "counts") (aj 0)) (aj 2)) (ax))) (bI 3) (du (bV (aB (d0 false) (bP (ae (aj 2) (ae (aj 3) (ax)))) (bW (c8 "Net" "far") (aj 0)))) (kP 1 (bP (ae (aj 2) (ae (aj 3) (ax))))) (dz))))
    (gm (j_ 1)))
def oz:List D→R b0:=c_ 4 uU
theorem Of:c0 ["self"] ["self"] (bX xd):=⟨rfl,rfl,rfl,by decide+kernel,rfl,by decide+kernel,by decide+kernel⟩
def uV:a_:=
    gm (h_ (ae (bW (c8 "Net" "joined") (aj 0)) (ax)))
def oA:List D→R b0:=c_ 1 uV
theorem Oa:c0 ["self","door"] ["self","door"] (bX w8):=⟨rfl,rfl,rfl,by decide+kernel,rfl,by decide+kernel,by decide+kernel⟩
def uR:a_:=
    cY (oh (bW (c8 "Net" "far") (aj 0)) (aj 1))
def qm:List D→R b0:=c_ 2 uR
theorem Ob:c0 ["self","house"] ["self","house"] (bX w9):=⟨rfl,rfl,rfl,by decide+kernel,rfl,by decide+kernel,by decide+kernel⟩
noncomputable def uS:a_:=
    cY (om (bV (hq jv od (aw (.int 0)) (aj 1) (bW (c8 "Net" "many") (aj 0)))) (aB bg (bW (c8 "Net" "counts") (aj 0)) (aj 1)) (aw (.int 0)))
def ox:List D→R b0:=c_ 2 uS
theorem nc:c0 ["_law_net","_law_counts_here","_law_wires_here","_law_far","_law_doors_here","_law_beyond","_law_one","_law_two","_law_house","_law_door"] ["_law_net","_law_counts_here","_law_wires_here","_law_far"] (bX xw):=⟨rfl,rfl,rfl,by decide+kernel,rfl,by decide+kernel,by decide+kernel⟩
noncomputable def u2:a_:=
    bC (dA 4 (cO (jw 1 qp (ae (aj 1) (ax)))))
    (bC (lP 5)
    (bC (eN (hy (aj 2)) (gP [bI 6,bI 7]) (bC (hZ 5 (aj 6) (aj 7))
    (hZ 5 (aj 7) (aj 6))))
    (bC (oi 5 (du (fV (bV (aB (de false) (bW (c8 "Net" "many") (aj 0)) (cU dg (ae (aj 1) (ax))))) (fV (bV (bW (gh "bool") (bW (c8 "Net" "many") (aj 0)))) (bV (aB (de false) (fU "Net" "wires" 0 oA (aj 0) ax) (aj 2))))) (cY (aw (.aq false))) (dz)))
    (bC (eN (gF (ae (cU dg (ae (aj 1) (ax))) (ax))) (bI 8) (du (fV (bV (aB (de false) (fU "Net" "count" 1 ox (aj 0) (ae (aj 8) (ax))) (aB bg (aj 1) (aj 8)))) (bV (bW (gh "bool") (fU "Net" "count" 1 ox (aj 0) (ae (aj 8) (ax)))))) (cY (aw (.aq false))) (dz)))
    (bC (eN (hy (aj 4)) (bI 9) (du (bV (aB (de false) (fU "Net" "beyond" 1 qm (aj 0) (ae (aj 9) (ax))) (oh (aj 5) (aj 9)))) (cY (aw (.aq false))) (dz)))
    (bC (du (bV (aB (de false) (fU "Net" "outer" 0 oz (aj 0) ax) (cO (eZ 1 [5] (hy (aj 4)) (bI 0) (bV (aB (d0 false) (aj 0) (aj 1))) (aj 0))))) (cY (aw (.aq false))) (dz))
    (cY (cG 5 sZ (ae (aj 0) (ae (aj 1) (ae (aj 3) (ae (aj 4) (ae (aj 5) (ax))))))))))))))
def qq:List D→R b0:=c_ 10 u2
theorem oN:c0 ["_law_e","_law_some"] ["_law_e"] (bX xu):=⟨rfl,rfl,rfl,by decide+kernel,rfl,by decide+kernel,by decide+kernel⟩
noncomputable def yV:a_:=
    bC (dA 1 (cO (dy (ae (bP (ae (aw (.str (PySem.Str.ofString "NoNet"))) (ae (bW (g_ [("NoNet",true)]) (aj 0)) (ax)))) (ae (bP (ae (aw (.str (PySem.Str.ofString "NoBooks"))) (ae (bW (g_ [("NoNet",false)]) (aj 0)) (ax)))) (ae (bP (ae (aw (.str (PySem.Str.ofString "NoDoor"))) (ae (bW (g_ [("NoNet",false)]) (aj 0)) (ax)))) (ax)))))))
    (bC (dA 1 (aB dY (aj 1) (cO (dy (ae (bP (ae (aw (.str (PySem.Str.ofString "NoAddress"))) (ae (bW (g_ [("NoNet",false)]) (aj 0)) (ax)))) (ae (bP (ae (aw (.str (PySem.Str.ofString "NoSaying"))) (ae (bW (g_ [("NoNet",false)]) (aj 0)) (ax)))) (ax)))))))
    (bC (dA 1 (aB dY (aj 1) (cO (dy (ae (bP (ae (aw (.str (PySem.Str.ofString "NoRow"))) (ae (bW (g_ [("NoNet",false)]) (aj 0)) (ax)))) (ae (bP (ae (aw (.str (PySem.Str.ofString "NoPlan"))) (ae (bW (g_ [("NoNet",false)]) (aj 0)) (ax)))) (ax)))))))
    (bC (dA 1 (aB dY (aj 1) (cO (dy (ae (bP (ae (aw (.str (PySem.Str.ofString "NoMove"))) (ae (bW (g_ [("NoNet",false)]) (aj 0)) (ax)))) (ae (bP (ae (aw (.str (PySem.Str.ofString "NoText"))) (ae (bW (g_ [("NoNet",false)]) (aj 0)) (ax)))) (ax)))))))
    (bC (dA 1 (aB dY (aj 1) (cO (dy (ae (bP (ae (aw (.str (PySem.Str.ofString "plain"))) (ae (m3 (bW (g_ [("NoNet",true)]) (aj 0))) (ax)))) (ax))))))
    (gm (eZ 2 [] (hy (aj 1)) (gP [bI 0,bI 1]) (bV (aj 1)) (aj 0)))))))
def wz:List D→R b0:=c_ 2 yV
theorem tB:c0 ["_law_counts_here","_law_wires_here","_law_error","_law_e"] ["_law_counts_here","_law_wires_here"] (bX xv):=⟨rfl,rfl,rfl,by decide+kernel,rfl,by decide+kernel,by decide+kernel⟩
noncomputable def u1:a_:=
    bC (dA 2 (aw .non))
    (bC (ql 3 ["NoNet"] 2 jy (ae (aj 0) (ae (aj 1) (ax))) (dA 2 (aj 3)))
    (cY (hn (aB (n6 false) (aj 2) (aw .non)) (aB (de true) (cO (jw 1 wz (ae (aj 2) (ax)))) (cO (dy (ae (aw (.str (PySem.Str.ofString "NoNet"))) (ax))))))))
def iz:List D→R b0:=c_ 4 u1
theorem kZ:c0 ["_law_counts_here","_law_wires_here","_law_number","_law_one","_law_some","_law_spoiled","_law_bad","_law_first"] ["_law_counts_here","_law_wires_here","_law_number"] (bX xn):=⟨rfl,rfl,rfl,by decide+kernel,rfl,by decide+kernel,by decide+kernel⟩
noncomputable def pn:a_:=
    bC (dA 3 (bP (ae (aw (.int 0)) (ae (aw (.int 0)) (ax)))))
    (bC (dA 4 (cO (dy (ae (bP (ae (bP (ae (aw (.int 0)) (ae (aB bg (aj 0) (aw (.int 0))) (ax)))) (ae (aj 3) (ax)))) (ae (bP (ae (aj 3) (ae (bP (ae (cU dg (ae (aj 0) (ax))) (ae (aw (.int 0)) (ax)))) (ax)))) (ae (bP (ae (bP (ae (aw (.int 0)) (ae (bW kU (aw (.int 1))) (ax)))) (ae (aj 3) (ax)))) (ae (bP (ae (bP (ae (bW kU (aw (.int 1))) (ae (aw (.int 0)) (ax)))) (ae (aj 3) (ax)))) (ae (bP (ae (aj 3) (ae (aj 3) (ax)))) (ae (bP (ae (aj 3) (ax))) (ax))))))))))
    (bC (dA 4 (aB dY (aj 4) (cO (dy (ae (bP (ae (bP (ae (aw (.int 0)) (ae (aw (.int 0)) (ax)))) (ae (bP (ae (aw (.int 0)) (ae (aw (.int 0)) (ax)))) (ae (bP (ae (aw (.int 0)) (ae (aw (.int 0)) (ax)))) (ax))))) (ae (bP (ae (bP (ae (aw (.aq true)) (ae (aw (.int 0)) (ax)))) (ae (aj 3) (ax)))) (ae (bP (ae (aj 3) (ae (bP (ae (aw (.int 0)) (ae (aw (.aq false)) (ax)))) (ax)))) (ae (bP (ae (cO (dy (ae (aw (.int 0)) (ae (aw (.int 0)) (ax))))) (ae (aj 3) (ax)))) (ae (bP (ae (aw .non) (ae (aj 3) (ax)))) (ae (aw (.str (PySem.Str.ofString ""))) (ae (aw .non) (ax))))))))))))
    (bC (dA 4 (aB dY (aj 4) (cO (dy (ae (cO (dy (ae (aj 3) (ae (aj 3) (ax))))) (ae (bP (ae (aj 3) (ae (bP (ae (aw (.int 0)) (ax))) (ax)))) (ae (bP (ae (aj 3) (ae (bP (ae (aw (.int 0)) (ae (aw (.int 0)) (ae (aw (.int 0)) (ax))))) (ax)))) (ae (aw (.int 0)) (ae (bP (ae (aj 3) (ae (aw (.str (PySem.Str.ofString "00"))) (ax)))) (ax))))))))))
    (bC (gG 5 (h_ (ae (aj 1) (ax))))
    (bC (dA 6 (aB bg (aj 4) (aB gp (aj 2) (aw (.int 18)))))
    (bC (du (oe (bV (aB (de true) (aB gp (aB hV (aj 2) (aw (.int 18))) (aw (.int 3))) (aw (.int 0)))) (bV (aB sm (cU dg (ae (aj 1) (ax))) (aw (.int 0))))) (bC (dA 7 (aB bg (aj 1) (aB gp (aB hV (aj 2) (aw (.int 54))) (cU dg (ae (aj 1) (ax))))))
    (dA 6 (aB bg (cO (dy (ae (bP (ae (aB bg (aj 7) (aw (.int 0))) (ae (bP (ae (aw (.int 0)) (ae (aw (.int 0)) (ax)))) (ax)))) (ae (bP (ae (aB bg (aj 7) (aw (.int 1))) (ae (aB bg (aj 7) (aw (.int 0))) (ax)))) (ae (aj 7) (ax)))))) (aB gp (aB hV (aj 2) (aw (.int 540))) (aw (.int 3)))))) (dz))
    (bC (mZ (qg 5 (aB gp (aB hV (aj 2) (aw (.int 5400))) (aB dY (cU dg (ae (aj 1) (ax))) (aw (.int 1)))) (aj 6)))
    (gm (j_ 5)))))))))
def kT:List D→R b0:=c_ 8 pn
theorem CT:c0 ["_law_counts_here","_law_number","_law_spoiled"] ["_law_counts_here","_law_number"] (bX xm):=⟨rfl,rfl,rfl,by decide+kernel,rfl,by decide+kernel,by decide+kernel⟩
noncomputable def rS:a_:=
    bC (du (bV (aB (de true) (aB gp (aj 1) (aw (.int 8))) (aw (.int 0)))) (cY (aB bg (cO (dy (ae (cO (dy (ax))) (ae (aB oM (cO (dy (ae (aw (.int 1)) (ax)))) (aw (.int 7))) (ae (aw .non) (ae (cU jI (ae (aj 0) (ax))) (ae (aw (.str (PySem.Str.ofString "2"))) (ae (aw (.int 3)) (ae (sU) (ae (cO (dy (ae (aw (.int 4)) (ae (aw (.int 4)) (ae (aw (.int 4)) (ae (aw (.int 4)) (ae (aw (.int 4)) (ae (aw (.int 4)) (ae (aw (.int 4)) (ae (aw (.int 4)) (ax))))))))))) (ax))))))))))) (aB gp (aB hV (aj 1) (aw (.int 8))) (aw (.int 8))))) (dz))
    (bC (gG 2 (h_ (ae (aj 0) (ax))))
    (bC (sX 2 (aB gp (aB hV (aj 1) (aw (.int 8))) (cU dg (ae (aj 0) (ax)))) (aB bg (cO (dy (ae (aw (.int 0)) (ae (aw (.int 5)) (ae (bW kU (aw (.int 1))) (ae (aw (.aq true)) (ae (aw (.str (PySem.Str.ofString "2"))) (ae (aw .non) (ae (cO (dy (ae (aw (.int 2)) (ax)))) (ae (aB lX (aw (.int 10)) (aw (.int 40))) (ax))))))))))) (aB gp (aB hV (aj 1) (aw (.int 56))) (aw (.int 8)))))
    (gm (j_ 2))))
def lQ:List D→R b0:=c_ 3 rS
theorem kY:c0 ["_law_script","_law_counts_here","_law_wires_here","_law_handed","_law_net","_law_far","_law_k","_law_cell","_law_number"] ["_law_script"] (bX lZ):=⟨rfl,rfl,rfl,by decide+kernel,rfl,by decide+kernel,by decide+kernel⟩
noncomputable def uX:a_:=
    bC (dA 1 (cO (jw 1 qo (ae (aj 0) (ax)))))
    (bC (dA 2 (cO (jw 2 qr (ae (aj 0) (ae (aj 1) (ax))))))
    (bC (qk 3 (qh (og (oq (h_ (ae (aj 1) (ax)))) (og (oq (h_ (ae (aj 2) (ax)))) (sV)))))
    (bC (dA 4 (qe (qi "Net" 2 jy (ae (aB bg (aj 3) (aw (.int 0))) (ae (aB bg (aj 3) (aw (.int 1))) (ax))))))
    (bC (dA 5 (bP (ae (aB dY (aw (.int 6)) (cG 2 fW (ae (cG 2 ia (ae (aj 0) (ae (aw (.int 4)) (ax)))) (ae (aw (.int 2)) (ax))))) (ae (aw (.int 0)) (ax)))))
    (bC (du (lO (fV (bV (aB (de false) (aj 3) (cO (dy (ae (aj 1) (ae (aj 2) (ax))))))) (dU (bV (cG 4 qq (ae (aj 4) (ae (aj 1) (ae (aj 2) (ae (aj 5) (ax)))))))))) (cY (aw (.aq false))) (dz))
    (bC (sS 3 (aw (.int 0)) (aw (.int 1)))
    (bC (sT 3 (aw (.int 1)))
    (bC (qd (oo "Net" "wires" oA (aj 4)) (bP (ae (bP (ae (aw (.int 0)) (ae (aw (.int 0)) (ax)))) (ae (bP (ae (aw (.int 0)) (ae (aw (.int 0)) (ax)))) (ax)))))
    (bC (qd (oo "Net" "outer" oz (aj 4)) (bP (ae (aw (.int 9)) (ae (aw (.int 9)) (ax)))))
    (bC (du (dU (bV (cG 4 qq (ae (aj 4) (ae (aj 1) (ae (aj 2) (ae (aj 5) (ax)))))))) (cY (aw (.aq false))) (dz))
    (bC (eN (oj (ae (aB dY (cO (dy (ae (aw (.int 0)) (ae (aw (.int 1)) (ae (aw (.int 2)) (ae (aw (.int 3)) (ax))))))) (ow oP (aj 0) (sW) (qj (aw (.int 63))))) (ax))) (gP [bI 6,bI 7]) (bC (dA 8 (cG 2 fW (ae (aj 7) (ae (aB dY (aw (.int 40)) (aj 6)) (ax)))))
    (bC (du (dU (bV (cG 2 iz (ae (cO (h_ (ae (aj 1) (ax)))) (ae (cO (jw 3 kT (ae (aj 1) (ae (aj 2) (ae (aB hV (aj 8) (aw (.int 2))) (ax)))))) (ax)))))) (cY (aw (.aq false))) (dz))
    (du (dU (bV (cG 2 iz (ae (cG 2 lQ (ae (aj 1) (ae (aj 8) (ax)))) (ae (cO (h_ (ae (aj 2) (ax)))) (ax)))))) (cY (aw (.aq false))) (dz)))))
    (cY (hn (cG 2 iz (ae (cO (h_ (ae (aj 1) (ax)))) (ae (aw .non) (ax)))) (cG 2 iz (ae (cO (h_ (ae (aj 1) (ax)))) (ae (cU jI (ae (aj 2) (ax))) (ax)))))))))))))))))
def m5:List D→R b0:=c_ 9 uX
section
variable{P:Program}{w:World}{K:PySem.W.Frag}{mg:Str→Option Value}{base:Heap}(T:uK K mg)
include T
set_option maxHeartbeats 4000000
theorem n_:ey P w K mg base "_law_mix" 2 1 fW:=by
 have h:=f3 (P:=P) (w:=w) (mg:=mg) (base:=base) (k:=0) (m:=rU) T.z0 Oo;exact h fun _ _ _ _ _ _ _ hr _ _=>
 cg (dp (jJ (ih (oX (fb (ih (ar 0) (Ej (aM) (aM))) (aM)) (fb (fb (aM) (oX (oX (aM) (ar 1)) (ar 1))) (ar 1))) (aM)) (aM)))
theorem p6:ey P w K mg base "_law_cell_at" 2 1 ia:=by
 have h:=f3 (P:=P) (w:=w) (mg:=mg) (base:=base) (k:=0) (m:=rT) T.zW Om;exact h fun _ _ _ _ _ _ _ hr _ _=>
 bY (fx (Qx (ar 1) (gQ T.gb (ag (ar 0) (aF)))) (cg (dp (dj (ar 0) (ar 1) bA))) (fy))
  (cg (dp (aM)))
theorem Kq:ey P w K mg base "_law_counts" 1 2 qo:=by
 have h:=f3 (P:=P) (w:=w) (mg:=mg) (base:=base) (k:=1) (m:=uY) T.zX CU;exact h fun _ _ _ _ _ _ _ hr _ _=>
 bY (en 1 CU.br (fb (aM) (ih (di (n_ T) (hr.mono (by decide)) (ag (di (p6 T) (hr.mono (by decide)) (ag (ar 0) (ag (aM) (aF)))) (ag (aM) (aF)))) (aM))))
  (cg (ub (nv (N:=["_law_house","_law_script"]) 1 [0] (by rfl) (mc T.ky (ag (ar 1) (aF))) (pq 0) (ps) (fun _ _ _ _ _ _ _=>fb (aM) (ih (di (n_ T) (hr.mono (by decide)) (ag (di (p6 T) (hr.mono (by decide)) (ag (ar 1) (ag (aM) (aF)))) (ag (fb (aM) (ar 0)) (aF)))) (aM))))))
theorem Bn:ey P w K mg base "_law_doors" 1 1 qp:=by
 have h:=f3 (P:=P) (w:=w) (mg:=mg) (base:=base) (k:=0) (m:=uZ) T.zY xC;exact h fun _ _ _ _ _ _ _ hr _ _=>
 bY (ro 1 xC.br (ek (aF)))
  (bY (jK PassesOwn.never (mc T.ky (ag (gQ T.gb (ag (ar 0) (aF))) (aF))) (iA 2 xC.br) (cg (Ep (P4 1 (c4 (nv (N:=["_law_number","_law_house"]) 1 [2] (by rfl) (mc T.ky (ag (dj (ar 0) (ar 2) bA) (aF))) (pq 0) (ps) (fun _ _ _ _ _ _ _=>b5 (ag (ar 1) (ag (ar 0) (aF))))))))))
  (cg (uc 1)))
theorem Kt:ey P w K mg base "_law_wires" 2 2 qr:=by
 have h:=f3 (P:=P) (w:=w) (mg:=mg) (base:=base) (k:=1) (m:=u3) T.z5 nd;exact h fun _ _ _ _ _ _ _ hr _ _=>
 bY (en 2 nd.br (c4 (oZ (Bn T) (hr.mono (by decide)) (ag (ar 1) (aF)))))
  (bY (ro 3 nd.br (ek (aF)))
  (bY (jK PassesOwn.never (mc T.ky (ag (gQ T.gb (ag (ar 2) (aF))) (aF))) (iA 4 nd.br) (cg (Eo 3 (b5 (ag (di (n_ T) (hr.mono (by decide)) (ag (fb (di (p6 T) (hr.mono (by decide)) (ag (ar 0) (ag (aM) (aF)))) (oX (ar 4) (ar 4))) (ag (fb (aM) (ar 4)) (aF)))) (ag (dj (ar 2) (ar 4) bA) (aF)))))))
  (bY (Er 3 (Qt (Qs 5 nd.br (nv (N:=["_law_number","_law_door"]) 2 [] (by rfl) (l_ (c4 (Qk hr.units T.yY (ag (ar 3) (aF))))) (yX 0 1) (ps) (fun _ _ _ _ _ _ _=>ar 1)))))
  (bY (en 6 nd.br (jJ (t6 (gQ T.gb (ag (ar 2) (aF))) (aM)) (aM)))
  (bY (en 7 nd.br (t6 (ar 6) (ih (di (n_ T) (hr.mono (by decide)) (ag (di (p6 T) (hr.mono (by decide)) (ag (ar 0) (ag (aM) (aF)))) (ag (aM) (aF)))) (fb (jJ (ar 6) (aM)) (aM)))))
  (cg (ub (nv (N:=["_law_k","_law_dealt"]) 1 [5] (by rfl) (mc T.ky (ag (ar 7) (aF))) (pq 0) (ps) (fun _ _ _ _ _ _ _=>b5 (ag (dj (ar 1) (oX (aM) (ar 0)) bA) (ag (dj (ar 1) (fb (oX (aM) (ar 0)) (aM)) bA) (aF))))))))))))
theorem Bm:ey P w K mg base "is_pair" 1 1 kS:=by
 have h:=f3 (P:=P) (w:=w) (mg:=mg) (base:=base) (k:=0) (m:=yT) T.zQ Oi;exact h fun _ _ _ _ _ _ _ hr _ _=>
 cg (dp (ki (l6 (Pk _) T.fD T.nT (by kernel_rfl) (ar 0)) (kj (ye hr.units (gQ T.gb (ag (ar 0) (aF))) (aM)))))
theorem Km:ey P w K mg base "is_whole" 1 1 oB:=by
 have h:=f3 (P:=P) (w:=w) (mg:=mg) (base:=base) (k:=0) (m:=yU) T.zR Oj;exact h fun _ _ _ _ _ _ _ hr _ _=>
 cg (dp (ki (l6 (Pj _) T.fD T.yS (by kernel_rfl) (ar 0)) (kj (Ei (l6 (tU _) T.fD T.pk (by kernel_rfl) (ar 0))))))
theorem wt:ey P w K mg base "is_whole_within" 3 2 gH:=by
 have h:=f3 (P:=P) (w:=w) (mg:=mg) (base:=base) (k:=1) (m:=rR) T.zS Ol;exact h fun _ _ _ _ _ _ _ hr _ _=>
 cg (dp (ki (di (Km T) (hr.mono (by decide)) (ag (ar 0) (aF))) (kj (P1 qF qF qD qD (ar 1) (ar 0) (ar 2)))))
theorem wq:ey P w K mg base "is_door_among" 2 3 eE:=by
 have h:=f3 (P:=P) (w:=w) (mg:=mg) (base:=base) (k:=2) (m:=lz) T.zP Oh;exact h fun _ _ _ _ _ _ _ hr _ _=>
 bY (fx (l9 (mb (gS (f5 (di (Bm T) (hr.mono (by decide)) (ag (ar 1) (aF))))) (nx (gS (f5 (di (wt T) (hr.mono (by decide)) (ag (dj (ar 1) (aM) bA) (ag (aM) (ag (t6 (gQ T.gb (ag (ar 0) (aF))) (aM)) (aF)))))))))) (cg (dp (fc))) (fy))
  (cg (dp (di (wt T) (hr.mono (by decide)) (ag (dj (ar 1) (aM) bA) (ag (aM) (ag (t6 (dj (ar 0) (dj (ar 1) (aM) bA) bA) (aM)) (aF)))))))
theorem Kn:ey P w K mg base "is_wire_among" 2 4 gI:=by
 have h:=f3 (P:=P) (w:=w) (mg:=mg) (base:=base) (k:=3) (m:=mB) T.zT CS;exact h fun _ _ _ _ _ _ _ hr _ _=>
 bY (fx (gS (f5 (di (Bm T) (hr.mono (by decide)) (ag (ar 1) (aF))))) (cg (dp (fc))) (fy))
  (bY (en 2 CS.br (ki (di (wq T) (hr.mono (by decide)) (ag (ar 0) (ag (dj (ar 1) (aM) bA) (aF)))) (kj (di (wq T) (hr.mono (by decide)) (ag (ar 0) (ag (dj (ar 1) (aM) bA) (aF)))))))
  (cg (dp (ki (ar 2) (kj (Qa hr.units (dj (ar 1) (aM) bA) (dj (ar 1) (aM) bA)))))))
theorem Kl:uF P w K mg base "far_doors" 2 5 kR:=by
 have h:=PW (P:=P) (w:=w) (mg:=mg) (base:=base) (k:=4) (m:=uW) T.zO xB;exact h fun _ _ _ _ _ _ _ hr _ _=>
 bY (t8 (Es 2 xB.br))
  (bY (jK PassesOwn.leaving (QB (ar 1)) (iA 3 xB.br) (bY (fx (t9 (gS (f5 (di (Kn T) (hr.mono (by decide)) (ag (ar 0) (ag (ar 3) (aF))))))) (cg (yg T.rl)) (fy))
  (bY (fx (t9 (Et (l9 (mb (Ew hr.units (dj (ar 3) (aM) bA) (ar 2)) (nx (Ew hr.units (dj (ar 3) (aM) bA) (ar 2))))))) (cg (yg T.rl)) (fy))
  (bY (t8 (ua 2 hr.units (dj (ar 3) (aM) bA) (dj (ar 3) (aM) bA)))
  (cg (t8 (ua 2 hr.units (dj (ar 3) (aM) bA) (dj (ar 3) (aM) bA))))))))
  (cg (t8 (Qr (ar 2)))))
theorem Kk:ey P w K mg base "are_counts" 1 3 gn:=by
 have h:=f3 (P:=P) (w:=w) (mg:=mg) (base:=base) (k:=2) (m:=ly) T.zN Og;exact h fun _ _ _ _ _ _ _ hr _ _=>
 bY (fx (l9 (mb (gS (f5 (l6 (DI _) T.fD T.iM (by kernel_rfl) (ar 0)))) (nx (gS (Eu qF qF qD qD (aM) (gQ T.gb (ag (ar 0) (aF))) (Ee T.lB)))))) (cg (dp (fc))) (fy))
  (cg (dp (PX hr T.yQ (ag (c4 (nv (N:=["doors"]) 1 [] (by rfl) (l_ (ar 0)) (pq 0) (ps) (fun _ _ _ _ _ _ _=>di (wt T) (hr.mono (by decide)) (ag (ar 0) (ag (aM) (ag (Ee T.mE) (aF))))))) (aF)))))
theorem Bi:rC P w K mg base "Net" 2 6 jy:=by
 have h:=Qg (P:=P) (w:=w) (mg:=mg) (base:=base) (k:=5) (m:=lx) T.zI Oc;exact h fun _ _ _ _ _ _ _ hr _ _=>
 rn (Ek T.rl (t9 (gS (f5 (di (Kk T) (hr.mono (by decide)) (ag (ar 1) (aF)))))))
  (rn (Ek T.rl (t9 (gS (f5 (l6 (DI _) T.fD T.iM (by kernel_rfl) (ar 2))))))
  (rn (t_ T.fT (yf (gQ T.gb (ag (ar 1) (aF)))))
  (rn (t_ T.fT (yf (t7 T.nT (ag (ar 1) (aF)))))
  (rn (t_ T.fT (yf (t7 T.nT (ag (ar 2) (aF)))))
  (Qj (t_ T.fT (PY (P0 (Kl T) (hr.mono (by decide)) (Qh (ag (iF T.fT (ar 0)) (ag (iF T.fT (ar 0)) (aF))))))))))))
theorem sM:ey P w K mg base "_law_truth" 2 1 oC:=by
 have h:=f3 (P:=P) (w:=w) (mg:=mg) (base:=base) (k:=0) (m:=yW) T.z4 Oq;exact h fun _ _ _ _ _ _ _ hr _ _=>
 cg (dp (ki (l6 (tU _) T.fD T.pk (by kernel_rfl) (ar 0)) (kj (ye hr.units (ar 0) (ar 1)))))
theorem wo:iJ P w K mg base "Net" "is_door" 1 4 oy:=by
 have h:=oY (P:=P) (w:=w) (mg:=mg) (base:=base) (k:=3) (m:=uT) T.zJ Od;exact h fun _ _ _ _ _ _ _ hr _ _=>
 cg (dp (di (wq T) (hr.mono (by decide)) (ag (iF T.fT (ar 0)) (ag (ar 1) (aF)))))
theorem Bj:iJ P w K mg base "Net" "is_outer" 1 5 m4:=by
 have h:=oY (P:=P) (w:=w) (mg:=mg) (base:=base) (k:=4) (m:=rQ) T.zK Oe;exact h fun _ _ _ _ _ _ _ hr _ _=>
 cg (dp (ki (l7 (wo T) (hr.mono (by decide)) (ar 0) (ag (ar 1) (aF))) (kj (Eg hr.units (ar 1) (iF T.fT (ar 0))))))
theorem Kr:ey P w K mg base "_law_doors_right" 5 6 sZ:=by
 have h:=f3 (P:=P) (w:=w) (mg:=mg) (base:=base) (k:=5) (m:=u0) T.zZ tA;exact h fun _ _ _ _ _ _ _ hr _ _=>
 bY (jK PassesOwn.never (l_ (fb (ar 3) (c4 (ek (ag (b5 (ag (aM) (ag (dj (ar 1) (aM) bA) (aF)))) (ag (b5 (ag (gQ T.gb (ag (ar 1) (aF))) (ag (aM) (aF)))) (ag (b5 (ag (rm (aM)) (ag (aM) (aF)))) (ag (b5 (ag (aM) (ag (rm (aM)) (aF)))) (aF))))))))) (iA 5 tA.br) (bY (en 6 tA.br (P6 hr.units (ar 5) (ar 3)))
  (bY (fx (gS (f5 (di (sM T) (hr.mono (by decide)) (ag (l7 (wo T) (hr.mono (by decide)) (ar 0) (ag (ar 5) (aF))) (ag (ar 6) (aF)))))) (cg (dp (fc))) (fy))
  (cg (fx (gS (f5 (di (sM T) (hr.mono (by decide)) (ag (l7 (Bj T) (hr.mono (by decide)) (ar 0) (ag (ar 5) (aF))) (ag (ki (ar 6) (kj (Eg hr.units (ar 5) (ar 4)))) (aF)))))) (cg (dp (fc))) (fy))))))
  (bY (jK PassesOwn.never (l_ (c4 (ek (ag (k9) (ag (aM) (ag (gR) (ag (c4 (ek (ag (aM) (ag (aM) (aF))))) (ag (b5 (ag (aM) (aF))) (ag (b5 (ag (aM) (ag (aM) (ag (aM) (aF))))) (ag (b5 (ag (fc) (ag (aM) (aF)))) (ag (b5 (ag (aM) (ag (k9) (aF)))) (ag (b5 (ag (b5 (ag (aM) (ag (aM) (aF)))) (ag (b5 (ag (aM) (ag (aM) (aF)))) (aF)))) (ag (ar 2) (aF)))))))))))))) (iA 7 tA.br) (cg (fx (l9 (mb (gS (f5 (di (sM T) (hr.mono (by decide)) (ag (l7 (wo T) (hr.mono (by decide)) (ar 0) (ag (ar 7) (aF))) (ag (fc) (aF)))))) (nx (gS (f5 (di (sM T) (hr.mono (by decide)) (ag (l7 (Bj T) (hr.mono (by decide)) (ar 0) (ag (ar 7) (aF))) (ag (fc) (aF))))))))) (cg (dp (fc))) (fy))))
  (cg (dp (fc))))
theorem Bk:iJ P w K mg base "Net" "outer" 0 1 oz:=by
 have h:=oY (P:=P) (w:=w) (mg:=mg) (base:=base) (k:=0) (m:=uU) T.zL tx;exact h fun _ _ _ _ _ _ _ hr _ _=>
 bY (ro 1 tx.br (ek (aF)))
  (bY (jK PassesOwn.never (mc T.ky (ag (iF T.fT (ar 0)) (aF))) (iA 2 tx.br) (cg (jK PassesOwn.never (mc T.ky (ag (dj (iF T.fT (ar 0)) (ar 2) bA) (aF))) (iA 3 tx.br) (cg (fx (Ex hr.units (b5 (ag (ar 2) (ag (ar 3) (aF)))) (iF T.fT (ar 0))) (cg (Eo 1 (b5 (ag (ar 2) (ag (ar 3) (aF)))))) (fy))))))
  (cg (uc 1)))
theorem Bl:iJ P w K mg base "Net" "wires" 0 1 oA:=by
 have h:=oY (P:=P) (w:=w) (mg:=mg) (base:=base) (k:=0) (m:=uV) T.zM Of;exact h fun _ _ _ _ _ _ _ hr _ _=>
 cg (ub (k_ T.iM (ag (iF T.fT (ar 0)) (aF))))
theorem Kj:iJ P w K mg base "Net" "beyond" 1 1 qm:=by
 have h:=oY (P:=P) (w:=w) (mg:=mg) (base:=base) (k:=0) (m:=uR) T.zG Oa;exact h fun _ _ _ _ _ _ _ hr _ _=>
 cg (dp (Ef hr.units (iF T.fT (ar 0)) (ar 1)))
theorem Bh:iJ P w K mg base "Net" "count" 1 1 ox:=by
 have h:=oY (P:=P) (w:=w) (mg:=mg) (base:=base) (k:=0) (m:=uS) T.zH Ob;exact h fun _ _ _ _ _ _ _ hr _ _=>
 cg (dp (P5 (Eu qF B5 qD LO (aM) (ar 1) (iF T.fT (ar 0))) (dj (iF T.fT (ar 0)) (ar 1) bA) (aM)))
theorem Bo:ey P w K mg base "_law_right" 4 7 qq:=by
 have h:=f3 (P:=P) (w:=w) (mg:=mg) (base:=base) (k:=6) (m:=u2) T.z3 nc;exact h fun _ _ _ _ _ _ _ hr _ _=>
 bY (en 4 nc.br (c4 (oZ (Bn T) (hr.mono (by decide)) (ag (ar 1) (aF)))))
  (bY (Es 5 nc.br)
  (bY (jK PassesOwn.never (l_ (ar 2)) (BO rfl (s_ (iA 6 nc.br) (s_ (iA 7 nc.br) (BN)))) (bY (ua 5 hr.units (ar 6) (ar 7))
  (cg (ua 5 hr.units (ar 7) (ar 6)))))
  (bY (Er 5 (fx (l9 (mb (o1 hr.units (iF T.fT (ar 0)) (gQ T.gb (ag (ar 1) (aF)))) (mb (f5 (l6 (tU _) T.fD T.pk (by kernel_rfl) (iF T.fT (ar 0)))) (nx (o1 hr.units (Eh (Bl T) (hr.mono (by decide)) (ar 0)) (ar 2)))))) (cg (dp (fc))) (fy)))
  (bY (jK PassesOwn.never (mc T.ky (ag (gQ T.gb (ag (ar 1) (aF))) (aF))) (iA 8 nc.br) (cg (fx (l9 (mb (o1 hr.units (l7 (Bh T) (hr.mono (by decide)) (ar 0) (ag (ar 8) (aF))) (dj (ar 1) (ar 8) bA)) (nx (f5 (l6 (tU _) T.fD T.pk (by kernel_rfl) (l7 (Bh T) (hr.mono (by decide)) (ar 0) (ag (ar 8) (aF)))))))) (cg (dp (fc))) (fy))))
  (bY (jK PassesOwn.never (l_ (ar 4)) (iA 9 nc.br) (cg (fx (o1 hr.units (l7 (Kj T) (hr.mono (by decide)) (ar 0) (ag (ar 9) (aF))) (Ef hr.units (ar 5) (ar 9))) (cg (dp (fc))) (fy))))
  (bY (fx (o1 hr.units (Eh (Bk T) (hr.mono (by decide)) (ar 0)) (c4 (nv (N:=["_law_door","_law_beyond"]) 1 [5] (by rfl) (l_ (ar 4)) (pq 0) (Ed (fun _ _ _ _ _ _ _=>Ex hr.units (ar 0) (ar 1))) (fun _ _ _ _ _ _ _=>ar 0)))) (cg (dp (fc))) (fy))
  (cg (dp (di (Kr T) (hr.mono (by decide)) (ag (ar 0) (ag (ar 1) (ag (ar 3) (ag (ar 4) (ag (ar 5) (aF)))))))))))))))
theorem Ks:ey P w K mg base "_law_names" 1 1 wz:=by
 have h:=f3 (P:=P) (w:=w) (mg:=mg) (base:=base) (k:=0) (m:=yV) T.z1 oN;exact h fun _ _ _ _ _ _ _ hr _ _=>
 bY (en 1 oN.br (c4 (ek (ag (b5 (ag (gR) (ag (k8 T.DQ T.fD (ar 0)) (aF)))) (ag (b5 (ag (gR) (ag (k8 T.DN T.fD (ar 0)) (aF)))) (ag (b5 (ag (gR) (ag (k8 T.DO T.fD (ar 0)) (aF)))) (aF)))))))
  (bY (en 1 oN.br (fb (ar 1) (c4 (ek (ag (b5 (ag (gR) (ag (k8 T.DM T.fD (ar 0)) (aF)))) (ag (b5 (ag (gR) (ag (k8 T.DT T.fD (ar 0)) (aF)))) (aF)))))))
  (bY (en 1 oN.br (fb (ar 1) (c4 (ek (ag (b5 (ag (gR) (ag (k8 T.DS T.fD (ar 0)) (aF)))) (ag (b5 (ag (gR) (ag (k8 T.DR T.fD (ar 0)) (aF)))) (aF)))))))
  (bY (en 1 oN.br (fb (ar 1) (c4 (ek (ag (b5 (ag (gR) (ag (k8 T.DP T.fD (ar 0)) (aF)))) (ag (b5 (ag (gR) (ag (k8 T.DU T.fD (ar 0)) (aF)))) (aF)))))))
  (bY (en 1 oN.br (fb (ar 1) (c4 (ek (ag (b5 (ag (gR) (ag (Ei (P8 T.DV T.fD T.yP (ar 0))) (aF)))) (aF))))))
  (cg (ub (nv (N:=["_law_word","_law_truth_here"]) 2 [] (by rfl) (l_ (ar 1)) (yX 0 1) (Ed (fun _ _ _ _ _ _ _=>f5 (ar 1))) (fun _ _ _ _ _ _ _=>ar 0))))))))
theorem sL:ey P w K mg base "_law_refused" 2 8 iz:=by
 have h:=f3 (P:=P) (w:=w) (mg:=mg) (base:=base) (k:=7) (m:=u1) T.z2 tB;exact h fun _ _ _ _ _ _ _ hr _ _=>
 bY (en 2 tB.br (k9))
  (bY (Qv 3 tB.br (Bi T) (hr.mono (by decide)) T.Dz (ag (ar 0) (ag (ar 1) (aF))) (fun _=>cg (en 2 tB.br (ar 3))))
  (cg (dp (ki (Qc (ar 2) (k9)) (kj (ye hr.units (c4 (oZ (Ks T) (hr.mono (by decide)) (ag (ar 2) (aF)))) (c4 (ek (ag (gR) (aF))))))))))
theorem Kp:ey P w K mg base "_law_bad_wires" 3 1 kT:=by
 have h:=f3 (P:=P) (w:=w) (mg:=mg) (base:=base) (k:=0) (m:=pn) T.zV kZ;exact h fun _ _ _ _ _ _ _ hr _ _=>
 bY (en 3 kZ.br (b5 (ag (aM) (ag (aM) (aF)))))
  (bY (en 4 kZ.br (c4 (ek (ag (b5 (ag (b5 (ag (aM) (ag (dj (ar 0) (aM) bA) (aF)))) (ag (ar 3) (aF)))) (ag (b5 (ag (ar 3) (ag (b5 (ag (gQ T.gb (ag (ar 0) (aF))) (ag (aM) (aF)))) (aF)))) (ag (b5 (ag (b5 (ag (aM) (ag (rm (aM)) (aF)))) (ag (ar 3) (aF)))) (ag (b5 (ag (b5 (ag (rm (aM)) (ag (aM) (aF)))) (ag (ar 3) (aF)))) (ag (b5 (ag (ar 3) (ag (ar 3) (aF)))) (ag (b5 (ag (ar 3) (aF))) (aF))))))))))
  (bY (en 4 kZ.br (fb (ar 4) (c4 (ek (ag (b5 (ag (b5 (ag (aM) (ag (aM) (aF)))) (ag (b5 (ag (aM) (ag (aM) (aF)))) (ag (b5 (ag (aM) (ag (aM) (aF)))) (aF))))) (ag (b5 (ag (b5 (ag (fc) (ag (aM) (aF)))) (ag (ar 3) (aF)))) (ag (b5 (ag (ar 3) (ag (b5 (ag (aM) (ag (fc) (aF)))) (aF)))) (ag (b5 (ag (c4 (ek (ag (aM) (ag (aM) (aF))))) (ag (ar 3) (aF)))) (ag (b5 (ag (k9) (ag (ar 3) (aF)))) (ag (gR) (ag (k9) (aF))))))))))))
  (bY (en 4 kZ.br (fb (ar 4) (c4 (ek (ag (c4 (ek (ag (ar 3) (ag (ar 3) (aF))))) (ag (b5 (ag (ar 3) (ag (b5 (ag (aM) (aF))) (aF)))) (ag (b5 (ag (ar 3) (ag (b5 (ag (aM) (ag (aM) (ag (aM) (aF))))) (aF)))) (ag (aM) (ag (b5 (ag (ar 3) (ag (gR) (aF)))) (aF))))))))))
  (bY (ro 5 kZ.br (k_ T.iM (ag (ar 1) (aF))))
  (bY (en 6 kZ.br (dj (ar 4) (ih (ar 2) (aM)) bA))
  (bY (fx (l9 (Qy (Ey hr.units (ih (jJ (ar 2) (aM)) (aM)) (aM)) (Qz (Qw (gQ T.gb (ag (ar 1) (aF))) (aM))))) (bY (en 7 kZ.br (dj (ar 1) (ih (jJ (ar 2) (aM)) (gQ T.gb (ag (ar 1) (aF)))) bA))
  (cg (en 6 kZ.br (dj (c4 (ek (ag (b5 (ag (dj (ar 7) (aM) bA) (ag (b5 (ag (aM) (ag (aM) (aF)))) (aF)))) (ag (b5 (ag (dj (ar 7) (aM) bA) (ag (dj (ar 7) (aM) bA) (aF)))) (ag (ar 7) (aF)))))) (ih (jJ (ar 2) (aM)) (aM)) bA)))) (fy))
  (bY (Ep (P7 5 (ih (jJ (ar 2) (aM)) (fb (gQ T.gb (ag (ar 1) (aF))) (aM))) (ar 6)))
  (cg (uc 5)))))))))
theorem Ko:ey P w K mg base "_law_bad_counts" 2 1 lQ:=by
 have h:=f3 (P:=P) (w:=w) (mg:=mg) (base:=base) (k:=0) (m:=rS) T.zU CT;exact h fun _ _ _ _ _ _ _ hr _ _=>
 bY (fx (Ey hr.units (ih (ar 1) (aM)) (aM)) (cg (dp (dj (c4 (ek (ag (c4 (ek (aF))) (ag (Qd (c4 (ek (ag (aM) (aF)))) (aM)) (ag (k9) (ag (t7 T.nT (ag (ar 0) (aF))) (ag (gR) (ag (aM) (ag (P2) (ag (c4 (ek (ag (aM) (ag (aM) (ag (aM) (ag (aM) (ag (aM) (ag (aM) (ag (aM) (ag (aM) (aF))))))))))) (aF))))))))))) (ih (jJ (ar 1) (aM)) (aM)) bA))) (fy))
  (bY (ro 2 CT.br (k_ T.iM (ag (ar 0) (aF))))
  (bY (Qq 2 (ih (jJ (ar 1) (aM)) (gQ T.gb (ag (ar 0) (aF)))) (dj (c4 (ek (ag (aM) (ag (aM) (ag (rm (aM)) (ag (fc) (ag (gR) (ag (k9) (ag (c4 (ek (ag (aM) (aF)))) (ag (Ej (aM) (aM)) (aF))))))))))) (ih (jJ (ar 1) (aM)) (aM)) bA))
  (cg (uc 2))))
theorem Fn(f:Addr)(bO:Value)(A:Around)(outer:List Env)(s:Shared)(H:J)(E:cn)(hr:cK 8 (A.deeper (PyProof.Rows.envOfC "law" (bX lZ) s.heap.objs.size f bO)))(G0 H0:J):hO (dt gU P w K mg base ["_law_script","_law_counts_here","_law_wires_here","_law_handed","_law_net","_law_far","_law_k","_law_cell","_law_number"] "law" (bX lZ) f bO A outer s H E).fs (dT K G0 H0) (eU lZ) uX:=
 bY (en 1 kY.br (c4 (oZ (Kq T) (hr.mono (by decide)) (ag (ar 0) (aF)))))
  (bY (en 2 kY.br (c4 (oZ (Kt T) (hr.mono (by decide)) (ag (ar 0) (ag (ar 1) (aF))))))
  (bY (Qu 3 kY.br (Qi (Ec (El (k_ T.iM (ag (ar 1) (aF)))) (Ec (El (k_ T.iM (ag (ar 2) (aF)))) (PV)))))
  (bY (en 4 kY.br (PZ (P_ (Bi T) (hr.mono (by decide)) (ag (dj (ar 3) (aM) bA) (ag (dj (ar 3) (aM) bA) (aF))))))
  (bY (en 5 kY.br (b5 (ag (fb (aM) (di (n_ T) (hr.mono (by decide)) (ag (di (p6 T) (hr.mono (by decide)) (ag (ar 0) (ag (aM) (aF)))) (ag (aM) (aF))))) (ag (aM) (aF)))))
  (bY (fx (Et (l9 (mb (o1 hr.units (ar 3) (c4 (ek (ag (ar 1) (ag (ar 2) (aF)))))) (nx (gS (f5 (di (Bo T) (hr.mono (by decide)) (ag (ar 4) (ag (ar 1) (ag (ar 2) (ag (ar 5) (aF)))))))))))) (cg (dp (fc))) (fy))
  (bY (Qo 3 (aM) bA (aM))
  (bY (Qp 3 (aM) bA)
  (bY (En (Em (Bl T) (hr.mono (by decide)) (ar 4)) (b5 (ag (b5 (ag (aM) (ag (aM) (aF)))) (ag (b5 (ag (aM) (ag (aM) (aF)))) (aF)))))
  (bY (En (Em (Bk T) (hr.mono (by decide)) (ar 4)) (b5 (ag (aM) (ag (aM) (aF)))))
  (bY (fx (gS (f5 (di (Bo T) (hr.mono (by decide)) (ag (ar 4) (ag (ar 1) (ag (ar 2) (ag (ar 5) (aF)))))))) (cg (dp (fc))) (fy))
  (bY (jK PassesOwn.never (QA T.yR (ag (fb (c4 (ek (ag (aM) (ag (aM) (ag (aM) (ag (aM) (aF))))))) (Qe (ar 0) (Ql) (Qm (aM)))) (aF))) (BO rfl (s_ (iA 6 kY.br) (s_ (iA 7 kY.br) (BN)))) (bY (en 8 kY.br (di (n_ T) (hr.mono (by decide)) (ag (ar 7) (ag (fb (aM) (ar 6)) (aF)))))
  (bY (fx (gS (f5 (di (sL T) (hr.mono (by decide)) (ag (c4 (k_ T.iM (ag (ar 1) (aF)))) (ag (c4 (oZ (Kp T) (hr.mono (by decide)) (ag (ar 1) (ag (ar 2) (ag (jJ (ar 8) (aM)) (aF)))))) (aF)))))) (cg (dp (fc))) (fy))
  (cg (fx (gS (f5 (di (sL T) (hr.mono (by decide)) (ag (di (Ko T) (hr.mono (by decide)) (ag (ar 1) (ag (ar 8) (aF)))) (ag (c4 (k_ T.iM (ag (ar 2) (aF)))) (aF)))))) (cg (dp (fc))) (fy))))))
  (cg (dp (ki (di (sL T) (hr.mono (by decide)) (ag (c4 (k_ T.iM (ag (ar 1) (aF)))) (ag (k9) (aF)))) (kj (di (sL T) (hr.mono (by decide)) (ag (c4 (k_ T.iM (ag (ar 1) (aF)))) (ag (t7 T.nT (ag (ar 2) (aF))) (aF)))))))))))))))))))
end
end cv
namespace cv
open PySem PySem.Spec aV az
theorem gA{α β:Type}(a:α)(k:α→R β):(R.ok a).bind k=k a:=rfl
theorem Fo{f:List D→R b0}{a b c:ay}{ρ:ah}{x z w y:D}(ha:a ρ=.ok x)(hb:b ρ=.ok z)(hc:c ρ=.ok w)(h:f [x,z,w]=.ok (.v y)):cG 3 f (ae a (ae b (ae c ax))) ρ=.ok y:=by simp only[cG,ae,ax,ha,hb,hc,gA,List.length_cons,List.length_nil,if_true,h,gO]
theorem y0{f:D→D→R D}{a b:ay}{ρ:ah}{x y z:D}(ha:a ρ=.ok x)(hb:b ρ=.ok y)(h:f x y=.ok z):aB f a b ρ=.ok z:=by simp only[aB,ha,hb,gA,h]
theorem KX{a:ay}{ρ:ah}{c:Bool}(ha:a ρ=.ok (.aq c)):bV a ρ=.ok c:=by simp only[bV,ha,gA,hP]
theorem K3{a:bN}{ρ:ah}{c:Bool}(ha:a ρ=.ok c):dU a ρ=.ok (!c):=by simp only[dU,ha,gA]
theorem L7{a b:bN}{ρ:ah}{c d:Bool}(ha:a ρ=.ok c)(hb:c=false→b ρ=.ok d):fV a b ρ=.ok (c||d):=by
 cases c
 ·simp only[fV,ha,gA,hb rfl,Bool.false_eq_true,if_false,Bool.false_or]
 ·simp only[fV,ha,gA,if_true,Bool.true_or]
theorem Fz{f g:D→D→R D}{a b c:ay}{ρ:ah}{x y w:D}{k l:Bool}(ha:a ρ=.ok x)(hb:b ρ=.ok y)(hc:c ρ=.ok w)(hf:f x y=.ok (.aq k))(hg:g y w=.ok (.aq l)):hq f g a b c ρ=.ok (.aq (k&&l)):=by
 cases k
 ·simp only[hq,ha,hb,hf,gA,hP,Bool.false_eq_true,if_false,Bool.false_and]
 ·simp only[hq,ha,hb,hc,hf,hg,gA,hP,if_true,Bool.true_and]
theorem Ou{c:bN}{a b:a_}{ρ:ah}(hc:c ρ=.ok false):bC (du c a dz) b ρ=b ρ:=by simp only[bC,du,hc,gA,dz];rfl
theorem NA{e:ay}{ρ:ah}{d:D}(he:e ρ=.ok d):cY e ρ=.ok (.dB d):=by simp only[cY,he,gA]
theorem KO{a:ay}{ρ:ah}{xs:List D}(ha:a ρ=.ok (.lst xs)):cU dg (ae a ax) ρ=.ok (.int (xs.length:Nat)):=by simp only[cU,ae,ax,ha,gA,dg]
def aO(cs:List Nat):List D:=cs.map fun(c:Nat)=>D.int (c:Int)
abbrev aG:=Nat×Nat
def a9(d:aG):D:=.tup [.int (d.1:Nat),.int (d.2:Nat)]
def bt(w:aG×aG):D:=.tup [a9 w.1,a9 w.2]
def ends(ws:List (aG×aG)):List aG:=(ws.map fun w=>[w.1,w.2]).flatten
def fE(cs:List Nat)(h:Nat):List aG:=(List.range (cs.getD h 0)).map fun k=>(h,k)
def cT(cs:List Nat)(n:Nat):List aG:=(List.range n).flatMap (fE cs)
theorem rN(cs:List Nat)(n:Nat):cT cs (n+1)=cT cs n++fE cs n:=by unfold cT;rw[List.range_succ,List.flatMap_append];simp
theorem wC{cs:List Nat}{h:Nat}{d:aG}:d∈fE cs h↔d.1=h∧d.2<cs.getD h 0:=by
 unfold fE;rw[List.mem_map];constructor
 ·rintro⟨k,hk,rfl⟩;exact⟨rfl,List.mem_range.mp hk⟩
 ·rintro⟨rfl,h2⟩;exact⟨d.2,List.mem_range.mpr h2,rfl⟩
theorem qs{cs:List Nat}{n:Nat}{d:aG}:d∈cT cs n↔d.1<n∧d.2<cs.getD d.1 0:=by
 unfold cT;rw[List.mem_flatMap];constructor
 ·rintro⟨h,hh,hd⟩;obtain⟨rfl,h2⟩:=wC.mp hd;exact⟨List.mem_range.mp hh,h2⟩
 ·rintro⟨h1,h2⟩;exact⟨d.1,List.mem_range.mpr h1,wC.mpr ⟨rfl,h2⟩⟩
theorem F7(cs:List Nat)(h:Nat):(fE cs h).Nodup:=by unfold fE;rw[List.nodup_iff_pairwise_ne,List.pairwise_map];exact List.nodup_range.imp fun HJ z=>HJ (Prod.mk.inj z).2
theorem yE(cs:List Nat):∀n,(cT cs n).Nodup
 |0=>List.nodup_nil
 |n+1=>by rw[rN];refine List.nodup_append.mpr ⟨yE cs n,F7 cs n,fun a ha b hb z=>?_⟩;subst z;have h1:=(qs.mp ha).1;have h2:=(wC.mp hb).1;omega
theorem vz{cs:List Nat}(h:∀c∈cs,c≤4)(k:Nat):cs.getD k 0≤4:=by
 rw[List.getD_eq_getElem?_getD];cases e:cs[k]? with
 |none=>simp
 |some c=>simpa using h c (List.mem_of_getElem? e)
theorem zp{cs:List Nat}(h:∀c∈cs,1≤c∧c≤4)(k:Nat):(fE cs k).length≤4:=by unfold fE;rw[List.length_map,List.length_range];exact vz (fun c hc=>(h c hc).2) k
theorem nO{cs:List Nat}(h:∀c∈cs,1≤c∧c≤4):∀n,(cT cs n).length≤4*n
 |0=>by simp[cT]
 |n+1=>by rw[rN,List.length_append];have:=nO h n;have:=zp h n;omega
theorem kB{cs:List Nat}{h:Nat}(hh:h<cs.length):(aO cs)[h]?=some (.int (cs.getD h 0:Nat)):=by simp[aO,List.getElem?_eq_getElem hh,List.getD_eq_getElem?_getD]
structure jj(cs:List Nat)(ws:List (aG×aG)):Prop where
 h1:1≤cs.length
 h6:cs.length≤6
 c:∀c∈cs,1≤c∧c≤4
 br:(ends ws).Nodup
 sub:∀d∈ends ws,d∈cT cs cs.length
 out:∃d,d∈cT cs cs.length∧d∉ends ws
 few:ws.length<100
theorem head_mem{cs:List Nat}(h1:1≤cs.length)(c:∀c∈cs,1≤c∧c≤4):((0,0):aG)∈cT cs cs.length:=by
 refine qs.mpr ⟨h1,?_⟩;cases cs with
 |nil=>simp at h1
 |cons x r=>exact(c x (List.mem_cons_self ..)).1
def fp(d:aG):List Key:=[.inl (d.1:Nat),.inl (d.2:Nat)]
theorem wi{a b:aG}(h:fp a=fp b):a=b:=by
 obtain⟨a1,a2⟩:=a;obtain⟨e5,dZ⟩:=b;simp only[fp,List.cons.injEq,Sum.inl.injEq,and_true]at h;have h1:a1=e5:=by omega
 have h2:a2=dZ:=by omega
 rw[h1,h2]
theorem lN(d:aG):lM (a9 d)=some (fp d):=rfl
def ct(ws:List (aG×aG)):List (List Key):=(ends ws).map fp
def cw(ws:List (aG×aG)):List D:=(ws.map fun w=>[a9 w.2,a9 w.1]).flatten
theorem ks_any(ws:List (aG×aG))(d:aG):(ct ws).any (fun x=>decide (x=fp d))=decide (d∈ends ws):=by
 unfold ct;rw[List.any_map];by_cases h:d∈ends ws
 ·rw[decide_eq_true h,List.any_eq_true];exact⟨d,h,by simp⟩
 ·rw[decide_eq_false h,List.any_eq_false];intro x hx;simp only[Function.comp,decide_eq_true_eq];exact fun z=>h (wi z▸hx)
theorem zz(ws:List (aG×aG)):(ends ws).length=2*ws.length:=by
 induction ws with
 |nil=>rfl
 |cons w r ck=>simp only[ends,List.map_cons,List.flatten_cons,List.length_append,List.length_cons,List.length_nil]at ck ⊢;omega
theorem r7{i:Nat}{mk mv:ay}{ρ:ah}{ks:List (List Key)}{ds:List D}{k v:D}{cq:List Key}(hs:ρ[i]?=some (.aR (.a4 ks ds)))(hk:mk ρ=.ok k)(hv:mv ρ=.ok v)(dc:lM k=some cq)(aI:ks.any (fun x=>decide (x=cq))=false)(hl:ks.length<1000000) :
  hZ i mk mv ρ=.ok (.bj (ρ.set i (.aR (.a4 (ks++[cq]) (ds++[v]))))):=by
 simp only[hZ,hv,hs,hk,gA,dc,putD,if_pos (And.intro aI hl)]
theorem yK{ks:List (List Key)}{a b:List Key}(h:ks.any (fun x=>decide (x=b))=false)(ne:a≠b):(ks++[a]).any (fun x=>decide (x=b))=false:=by rw[List.any_append,h];simp[ne]
theorem Bp(ws:List (aG×aG))(w:aG×aG):ct (ws++[w])=ct ws++[fp w.1]++[fp w.2]:=by simp[ct,ends]
theorem D7(ws:List (aG×aG))(w:aG×aG):cw (ws++[w])=cw ws++[a9 w.2]++[a9 w.1]:=by simp[cw]
theorem wH{P:List (aG×aG)}{w:aG×aG}{r:List (aG×aG)}(br:(ends (P++w::r)).Nodup):w.1∉ends P∧w.2∉ends P∧w.1≠w.2:=by
 have e:ends (P++w::r)=ends P++(w.1::w.2::ends r):=by simp[ends]
 rw[e]at br;obtain⟨_,dv,s9⟩:=List.nodup_append.mp br;refine⟨fun z=>s9 _ z w.1 (by simp) rfl,fun z=>s9 _ z w.2 (by simp) rfl,fun z=>?_⟩;rw[List.nodup_cons]at dv;exact dv.1 (by rw[z];simp)
theorem kh(i lo hi:Int):gH [.int i,.int lo,.int hi]=.ok (.v (.aq (decide (lo≤i)&&decide (i≤hi)))):=by have w:oB [.int i]=.ok (.v (.aq true)):=rfl;simp[gH,rR,w];by_cases h:lo≤i<;>simp[h]
theorem nY{cs:List Nat}{d:aG}(h:d∈cT cs cs.length):eE [.tup (aO cs),a9 d]=.ok (.v (.aq true)):=by
 obtain⟨h1,h2⟩:=qs.mp h;have p:kS [a9 d]=.ok (.v (.aq true)):=rfl;have b6:bg (a9 d) (.int 0)=.ok (.int d.1):=rfl;have ai:bg (a9 d) (.int 1)=.ok (.int d.2):=rfl;have au:bg (.tup (aO cs)) (.int (d.1:Nat))=.ok (.int (cs.getD d.1 0:Nat)):=p3 (kB h1);have l:(aO cs).length=cs.length:=by simp[aO]
 simp only[List.getD_eq_getElem?_getD]at h2 au;simp[eE,lz,p,b6,ai,au,l,kh,show¬((cs.length:Int)-1<(d.1:Nat))by omega];omega
theorem F5{a b:aG}(h:a≠b):de false (a9 a) (a9 b)=.ok (.aq true):=by
 show R.ok (D.aq (!(((a.1:Nat):Int)==((b.1:Nat):Int)&&(((a.2:Nat):Int)==((b.2:Nat):Int)&&true))))=_;by_cases h1:a.1=b.1
 ·by_cases h2:a.2=b.2
  ·exact absurd (Prod.ext h1 h2) h
  ·rw[beq_eq_false_iff_ne.mpr (show((a.2:Nat):Int)≠((b.2:Nat):Int)by omega)];simp
 ·rw[beq_eq_false_iff_ne.mpr (show((a.1:Nat):Int)≠((b.1:Nat):Int)by omega)];simp
theorem D9{cs:List Nat}{w:aG×aG}(h1:w.1∈cT cs cs.length)(h2:w.2∈cT cs cs.length)(ne:w.1≠w.2):gI [.tup (aO cs),bt w]=.ok (.v (.aq true)):=by have p:kS [bt w]=.ok (.v (.aq true)):=rfl;have b6:bg (bt w) (.int 0)=.ok (a9 w.1):=rfl;have ai:bg (bt w) (.int 1)=.ok (a9 w.2):=rfl;simp[gI,mB,p,b6,ai,nY h1,nY h2,F5 ne]
def mJ:ay:=(cG 3 gH (ae (aj 0) (ae (aw (.int 1)) (ae (aw mE) (ax)))))
theorem zg:∀(cs:List Nat),(∀c∈cs,1≤c∧c≤4)→∀(ws:List D)(s0:cS),ws.length+cs.length<1000→eL (bI 0) fJ mJ (aO cs) [s0] ws=.ok (ws++cs.map fun _=>D.aq true)
 |[],_,ws,s0,_=>by simp[eL,aO]
 |c::cs,h,ws,s0,hl=>by
  simp only[List.length_cons]at hl;obtain⟨bK,rW⟩:=h c (List.mem_cons_self ..);have b6:bI 0 (.int (c:Nat)) [s0]=.ok [.av (.int (c:Nat))]:=rfl;have ai:mJ [.av (.int (c:Nat))]=.ok (.aq true):=by have z:=kh (c:Nat) 1 4;rw[decide_eq_true (by omega),decide_eq_true (by omega)]at z;exact Fo rfl rfl rfl z
  show eL (bI 0) fJ mJ (.int (c:Nat)::aO cs) [s0] ws=_;rw[eL,b6,gA];simp only[fJ,gA,ai,if_true,if_pos (show ws.length<1000000 by omega)];rw[zg cs (fun c h'=>h c (List.mem_cons_of_mem _ h')) _ _ (by rw[List.length_append,List.length_singleton];omega),List.append_assoc];rfl
theorem y8:∀cs:List Nat,kz (cs.map fun _=>D.aq true)=some (cs.map fun _=>true)
 |[]=>rfl
 |c::cs=>by simp only[List.map_cons,kz,y8 cs,Option.map_some]
theorem u9(cs:List Nat)(h1:1≤cs.length)(h6:cs.length≤6)(h:∀c∈cs,1≤c∧c≤4):gn [.lst (aO cs)]=.ok (.v (.aq true)):=by
 show(ly [.av (.lst (aO cs))]).bind outD=_;have qa:cU dg (ae (aj 0) ax) [.av (.lst (aO cs))]=.ok (.int (cs.length:Nat)):=by rw[KO (xs:=aO cs) rfl];simp[aO]
 have bK:fV (dU (bV (bW (gh "list") (aj 0)))) (dU (bV (hq jv jv (aw (.int 1)) (cU dg (ae (aj 0) (ax))) (aw lB)))) [.av (.lst (aO cs))]=.ok (false||false):=by refine L7 rfl fun _=>?_;have z:=Fz (f:=jv) (g:=jv) (a:=aw (.int 1)) (c:=aw lB) (ρ:=[.av (.lst (aO cs))]) rfl qa rfl (k:=true) (l:=true) (by show R.ok (D.aq (decide ((1:Int)≤(cs.length:Nat))))=_;rw[decide_eq_true (by omega)]) (by show R.ok (D.aq (decide (((cs.length:Nat):Int)≤6)))=_;rw[decide_eq_true (by omega)]);exact K3 (c:=true) (KX z)
 have ea:eZ 1 [] (hy (aj 0)) (bI 0) (fJ) mJ [.av (.lst (aO cs))]=.ok (cs.map fun _=>D.aq true):=by show ef (eL (bI 0) fJ mJ (aO cs) [.un] [])=_;rw[zg cs h _ _ (by simp;omega)];rfl
 have e:cU az.cT (ae (cO (eZ 1 [] (hy (aj 0)) (bI 0) (fJ) mJ)) (ax)) [.av (.lst (aO cs))]=.ok (.aq true):=by
  simp only[cU,ae,ax,cO,ea,gA,az.cT,y8]
  congr 2
  rw[List.all_map];simp
 unfold mJ at e;unfold ly;rw[Ou bK,NA e];rfl
theorem q9{a b:gX}{ρ dI:ah}(h:a ρ=.ok dI):jx a b ρ=b dI:=by simp only[jx,h,gA]
theorem D6:∀ws:List (aG×aG),i5 (cw ws)=true
 |[]=>rfl
 |w::ws=>by show i5 (a9 w.2::a9 w.1::cw ws)=true;simp only[i5,D6 ws];rfl
@[simp] theorem TF(m:bN)(ρ:ah):i7 m ρ=ef (m ρ):=(rfl)
@[simp] theorem TA(m:aN)(ρ:ah):lU m ρ=ef (m ρ):=(rfl)
@[simp] theorem TC(m:a_)(ρ:ah):i6 m ρ=ef (m ρ):=(rfl)
@[simp] theorem TB(m:ay)(ρ:ah):jz m ρ=ef (m ρ):=(rfl)
@[simp] theorem TO(c:Str)(ρ:ah):ot c ρ=.exc c:=(rfl)
@[simp] theorem TU(i:Nat)(ρ:ah)(h:i<ρ.length):lP i ρ=.ok (.bj (ρ.set i (.aR (.a4 [] [])))):=by unfold lP;rw[if_pos h]
@[simp] theorem Rc(ks:List (List Key))(ds:List D):kD (.aR (.a4 ks ds))=.av (.a4 ks ds):=(rfl)
inductive er where
 |w (x:aG×aG)|n (d:D)
def fv:er→D
 |.w x=>bt x
 |.n d=>d
noncomputable def hM(cs:List Nat):er→Prop
 |.w x=>x.1∈cT cs cs.length∧x.2∈cT cs cs.length∧x.1≠x.2
 |.n d=>gI [.tup (aO cs),d]=.ok (.v (.aq false))
noncomputable def gs:List er→List (aG×aG)→Option (List (aG×aG))
 |[],P=>some P
 |.n _::_,_=>none
 |.w x::r,P=>if x.1∈ends P∨x.2∈ends P then none else gs r (P++[x])
noncomputable def fBody:a_:=(bC (du (i7 (dU (bV (cG 2 gI (ae (aj 0) (ae (aj 3) (ax))))))) (ot "NoNet") (dz))
    (bC (du (i7 (lO (fV (bV (aB (d0 true) (aB bg (aj 3) (aw (.int 0))) (aj 2))) (bV (aB (d0 true) (aB bg (aj 3) (aw (.int 1))) (aj 2)))))) (ot "NoNet") (dz))
    (bC (i6 (hZ 2 (aB bg (aj 3) (aw (.int 0))) (aB bg (aj 3) (aw (.int 1)))))
    (i6 (hZ 2 (aB bg (aj 3) (aw (.int 1))) (aB bg (aj 3) (aw (.int 0))))))))
theorem u_(b:Bool)(P:List (aG×aG))(d:aG):d0 b (a9 d) (.a4 (ct P) (cw P))=.ok (.aq (if b then decide (d∈ends P)else !decide (d∈ends P))):=by simp only[d0,lN,ks_any]
theorem Ho{cs:List Nat}{W d:D}{P:List (aG×aG)}(h:gI [.tup (aO cs),d]=.ok (.v (.aq false))):fBody [.av (.tup (aO cs)),.av W,.aR (.a4 (ct P) (cw P)),.av d]=.exc "NoNet":=by simp[fBody,h]
theorem Hn{cs:List Nat}{W:D}{P:List (aG×aG)}{w:aG×aG}(h:hM cs (.w w))(k:w.1∈ends P∨w.2∈ends P):fBody [.av (.tup (aO cs)),.av W,.aR (.a4 (ct P) (cw P)),.av (bt w)]=.exc "NoNet":=by
 have b6:bg (bt w) (.int 0)=.ok (a9 w.1):=rfl;have ai:bg (bt w) (.int 1)=.ok (a9 w.2):=rfl;have hw:=D9 h.1 h.2.1 h.2.2;by_cases k1:w.1∈ends P
 ·simp[fBody,hw,b6,ai,u_,k1]
 ·have k2:=k.resolve_left k1;simp[fBody,hw,b6,ai,u_,k1,k2]
theorem Hp{cs:List Nat}{W:D}{P:List (aG×aG)}{w:aG×aG}(h:hM cs (.w w))(k1:w.1∉ends P)(k2:w.2∉ends P)(hl:P.length<1000):fBody [.av (.tup (aO cs)),.av W,.aR (.a4 (ct P) (cw P)),.av (bt w)]=.ok (.bj [.av (.tup (aO cs)),.av W,.aR (.a4 (ct (P++[w])) (cw (P++[w]))),.av (bt w)]):=by
 have b6:bg (bt w) (.int 0)=.ok (a9 w.1):=rfl;have ai:bg (bt w) (.int 1)=.ok (a9 w.2):=rfl;have hw:=D9 h.1 h.2.1 h.2.2;have lk:(ct P).length<10000:=by unfold ct;rw[List.length_map,zz];omega
 have a1:=r7 (i:=2) (mk:=aB bg (aj 3) (aw (.int 0))) (mv:=aB bg (aj 3) (aw (.int 1))) (ρ:=[.av (.tup (aO cs)),.av W,.aR (.a4 (ct P) (cw P)),.av (bt w)]) rfl rfl rfl (lN w.1) (by rw[ks_any];exact decide_eq_false k1) (by omega);have a2:=r7 (i:=2) (mk:=aB bg (aj 3) (aw (.int 1))) (mv:=aB bg (aj 3) (aw (.int 0))) (ρ:=[.av (.tup (aO cs)),.av W,.aR (.a4 (ct P++[fp w.1]) (cw P++[a9 w.2])),.av (bt w)]) rfl rfl rfl (lN w.2) (yK (by rw[ks_any];exact decide_eq_false k2) (fun z=>h.2.2 (wi z))) (by rw[List.length_append,List.length_singleton];omega);rw[Bp,D7];have EW:hZ 2 (aB bg (aj 3) (aw (.int 0))) (aB bg (aj 3) (aw (.int 1))) [.av (.tup (aO cs)),.av W,.aR (.a4 (ct P) (cw P)),.av (bt w)]=.ok (.bj [.av (.tup (aO cs)),.av W,.aR (.a4 (ct P++[fp w.1]) (cw P++[a9 w.2])),.av (bt w)]):=a1;have uM:hZ 2 (aB bg (aj 3) (aw (.int 1))) (aB bg (aj 3) (aw (.int 0))) [.av (.tup (aO cs)),.av W,.aR (.a4 (ct P++[fp w.1]) (cw P++[a9 w.2])),.av (bt w)]=.ok (.bj [.av (.tup (aO cs)),.av W,.aR (.a4 (ct P++[fp w.1]++[fp w.2]) (cw P++[a9 w.2]++[a9 w.1])),.av (bt w)]):=a2;simp[-List.append_assoc,fBody,hw,b6,ai,u_,k1,k2,EW,uM]
theorem z6(cs:List Nat)(W:D):∀(r:List er)(P:List (aG×aG))(s3:cS),(∀t∈r,hM cs t)→P.length+r.length<1000→
  match gs r P with
  |some Q=>∃t3,fF (bI 3) fBody (r.map fv) [.av (.tup (aO cs)),.av W,.aR (.a4 (ct P) (cw P)),s3]=.ok (.bj [.av (.tup (aO cs)),.av W,.aR (.a4 (ct Q) (cw Q)),t3])
  |none=>fF (bI 3) fBody (r.map fv) [.av (.tup (aO cs)),.av W,.aR (.a4 (ct P) (cw P)),s3]=.exc "NoNet"
 |[],P,s3,_,_=>⟨s3,rfl⟩
 |.n d::r,P,s3,ok,hl=>by have e:=Ho (W:=W) (P:=P) (ok (.n d) (by simp));show fF (bI 3) fBody (d::r.map fv) _=_;rw[fF];have b6:bI 3 d [.av (.tup (aO cs)),.av W,.aR (.a4 (ct P) (cw P)),s3]=.ok [.av (.tup (aO cs)),.av W,.aR (.a4 (ct P) (cw P)),.av d]:=rfl;rw[b6,e2,e,D5]
 |.w x::r,P,s3,ok,hl=>by
  have B_:=ok (.w x) (by simp);have b6:bI 3 (bt x) [.av (.tup (aO cs)),.av W,.aR (.a4 (ct P) (cw P)),s3]=.ok [.av (.tup (aO cs)),.av W,.aR (.a4 (ct P) (cw P)),.av (bt x)]:=rfl;by_cases h:x.1∈ends P∨x.2∈ends P
  ·have e:=Hn (W:=W) B_ h;rw[gs,if_pos h];show fF (bI 3) fBody (bt x::r.map fv) _=_;rw[fF,b6,e2,e,D5]
  ·rw[not_or]at h;have e:=Hp (W:=W) B_ h.1 h.2 (by omega);have z:=z6 cs W r (P++[x]) (.av (bt x)) (fun t ht=>ok t (by simp[ht])) (by simp at hl ⊢;omega);rw[gs,if_neg (by rw[not_or];exact h)];show match gs r (P++[x])with
    |some Q=>∃t3,fF (bI 3) fBody (bt x::r.map fv) _=.ok (.bj [.av (.tup (aO cs)),.av W,.aR (.a4 (ct Q) (cw Q)),t3])
    |none=>fF (bI 3) fBody (bt x::r.map fv) _=.exc "NoNet"
   rw[fF,b6,e2,e,e2];exact z
theorem z8(cs:List Nat)(ts:List er)(ok:∀t∈ts,hM cs t)(hl:ts.length<1000):kR [.tup (aO cs),.tup (ts.map fv)]=match gs ts []with
  |some Q=>.ok (.v (.a4 (ct Q) (cw Q)))
  |none=>.exc "NoNet":=by
 have z:=z6 cs (.tup (ts.map fv)) ts [] .un ok (by simpa using hl);have b:uW=bC (i6 (lP 2)) (bC (eN (m2 (aj 1)) (bI 3) fBody) (i6 (ou (aj 2)))):=rfl;rw[kR,x3,b];have i:i2 4 [.tup (aO cs),.tup (ts.map fv)]=[.av (.tup (aO cs)),.av (.tup (ts.map fv)),.un,.un]:=rfl;rw[i];have k0:ct []=[]:=rfl;have v0:cw []=[]:=rfl;rw[k0,v0]at z;cases h:gs ts []with
 |none=>rw[h]at z;simp[x4];rw[z];rfl
 |some Q=>rw[h]at z;obtain⟨t3,z⟩:=z;simp[x4];rw[z];simp
theorem pw(ns:List Int)(k:Nat):∃c:Int,ia [.bM (ns.map D.int),.int k]=.ok (.v (.int c)):=by
 by_cases h:k<ns.length
 ·refine⟨ns[k],?_⟩;have e:bg (.bM (ns.map D.int)) (.int (k:Int))=.ok (.int ns[k]):=JO (by simp[h]);simp[ia,rT,h,e]
 ·exact⟨0,by simp[ia,rT,h]⟩
theorem qt(c:Int)(k:Nat)(hk:k<1000):∃y:Int,fW [.int c,.int k]=.ok (.v (.int y)):=by
 have h1:(2:Int)*(k:Int)*(k:Int)≤2000000:=by
  have:k*k≤1000*1000:=Nat.mul_le_mul (by omega) (by omega);have e:(2:Int)*(k:Int)*(k:Int)=2*((k*k:Nat):Int):=by rw[Int.natCast_mul,Int.mul_assoc]
  rw[e];omega
 have h0:0≤(2:Int)*(k:Int)*(k:Int):=Int.mul_nonneg (by omega) (by omega);simp(disch:=first|omega|(simp;done)|(simp;omega)) [fW,rU,Cs]
theorem FH(ns:List Int):∃cs:List Nat,(1≤cs.length∧cs.length≤6)∧(∀c∈cs,1≤c∧c≤4)∧qo [.bM (ns.map D.int)]=.ok (.o (aO cs)):=by
 suffices h:Ends (qo [.bM (ns.map D.int)]) fun b=>∃cs:List Nat,(1≤cs.length∧cs.length≤6)∧(∀c∈cs,1≤c∧c≤4)∧b=.o (aO cs)by
  obtain⟨b,e,cs,h1,h2,rfl⟩:=h;exact⟨cs,h1,h2,e⟩
 obtain⟨iN,b6⟩:=pw ns 0;obtain⟨bK,ai⟩:=pw ns 1;have Gb:ia [.bM (ns.map D.int),.int 0]=.ok (.v (.int iN)):=b6;have eV:ia [.bM (ns.map D.int),.int 1]=.ok (.v (.int bK)):=ai;obtain⟨y,d2⟩:=qt iN 1 (by decide);have mM:fW [.int iN,.int 1]=.ok (.v (.int y)):=d2;obtain⟨m,hm,em⟩:=lS y (n:=6) (by decide);have G4:(1:Int)+y%6=((m+1:Nat):Int):=by have:y%6=(m:Int):=em;omega
 have ex:∀k:Nat,∃c:Nat,(1≤c∧c≤4)∧(k<10→∃z:Int,fW [.int bK,.int (3+(k:Int))]=.ok (.v (.int z))∧1+z%4=(c:Int)):=fun k=>by
  by_cases hk:k<10
  ·obtain⟨z,Hk⟩:=qt bK (3+k) (by omega);obtain⟨q,aH,eq⟩:=lS z (n:=4) (by decide);exact⟨1+q,by omega,fun _=>⟨z,by rw[←Hk];simp,by have:z%4=(q:Int):=eq;omega⟩⟩
  ·exact⟨1,by omega,fun h=>absurd h hk⟩
 let px:Nat→Nat:=fun k=>(ex k).choose
 have Fx:∀k,1≤px k∧px k≤4:=fun k=>(ex k).choose_spec.1;have Fy:∀k:Nat,k<10→∃z:Int,fW [.int bK,.int (3+(k:Int))]=.ok (.v (.int z))∧1+z%4=(px k:Int):=fun k=>(ex k).choose_spec.2;simp(disch:=first|omega|(simp;done)|(simp;omega)) [qo,uY,Gb,mM,G4,-Int.natCast_add];refine vk (m+1) (fun k=>.int (px k:Int)) (by simp[show m+1<1000000 by omega,-Int.natCast_add]) (by omega) (fun k hk=>?_) ?_
 ·obtain⟨z,au,bB⟩:=Fy k (by omega);simp[eV,au,bB]
 ·simp;refine⟨(List.range (m+1)).map px,⟨by simp,by simp;omega⟩,fun c hc=>?_,by simp[aO]⟩;obtain⟨k,_,rfl⟩:=List.mem_map.mp hc;exact Fx k
theorem zm{cs:List Nat}(h6:cs.length≤6)(ea:∀c∈cs,1≤c∧c≤4):qp [.lst (aO cs)]=.ok (.o ((cT cs cs.length).map a9)):=by
 apply Ends.done;have lcs:(aO cs).length=cs.length:=by simp[aO]
 simp(disch:=first|omega|(simp;done)|(simp;omega)) [qp,uZ];refine pI cs.length (fun j ρ=>∃s2,ρ=[.av (.lst (aO cs)),.cD ((cT cs j).map a9),s2]) (by simp[lcs,show cs.length<1000000 by omega]) ⟨.un,by simp[cT]⟩ ?_ ?_
 ·rintro j _ b4 ⟨s5,rfl⟩;have bB:bg (.lst (aO cs)) (.int (j:Int))=.ok (.int (cs.getD j 0:Nat)):=i4 (kB b4);have sN:=vz (fun c h=>(ea c h).2) j;simp;refine vk (cs.getD j 0) (fun k=>a9 (j,k)) (by simp only[List.getD_eq_getElem?_getD]at bB sN;simp[bB,show cs[j]?.getD 0<1000000 by omega]) (by omega) (fun k hk=>by simp[a9]) ?_;have qa:=nO ea j;simp only[List.getD_eq_getElem?_getD]at sN ⊢;simp[show(cT cs j).length+cs[j]?.getD 0≤1000000 by omega];rw[rN];simp[fE]
 ·rintro _ ⟨s5,rfl⟩;simp
abbrev ko:=Int×aG
def oE(p:ko):D:=.tup [.int p.1,a9 p.2]
def m7(p:ko):Int×Int×Int:=(p.1,(p.2.1:Int),(p.2.2:Int))
def rh(k:Int×Int×Int):ko:=(k.1,(k.2.1.toNat,k.2.2.toNat))
theorem DW(p:ko):rh (m7 p)=p:=by simp[rh,m7]
theorem Bc:∀aD:List ko,mX (aD.map oE)=some (aD.map m7)
 |[]=>rfl
 |p::aD=>by simp only[List.map_cons,mX,Bc aD];rfl
theorem xF(aD:List ko)(h:aD.length<64):∃ft:List ko,ft.Perm aD∧qU [.lst (aD.map oE)]=.ok (ft.map oE):=by
 refine⟨(LT.kf (aD.map m7)).map rh,?_,?_⟩
 ·refine((LT.qY (aD.map m7)).map rh).trans ?_;rw[List.map_map,show rh∘m7=id from funext DW,List.map_id]
 ·have hl:(aD.map oE).length<64:=by simpa using h
  simp only[qU,if_pos hl,Bc]
  congr 1
  rw[List.map_map];refine List.map_congr_left fun k hk=>?_;obtain⟨p,_,rfl⟩:=List.mem_map.mp ((LT.qY (aD.map m7)).mem_iff.mp hk);simp only[Function.comp,DW];rfl
noncomputable def pairUp(l:List aG)(n:Nat):List (aG×aG):=(List.range n).map fun k=>(l.getD (2*k) (0,0),l.getD (2*k+1) (0,0))
theorem zA(l:List aG):∀n,2*n≤l.length→ends (pairUp l n)=l.take (2*n)
 |0,_=>by simp[pairUp,ends]
 |n+1,h=>by
  have ck:=zA l n (by omega);have e:pairUp l (n+1)=pairUp l n++[(l.getD (2*n) (0,0),l.getD (2*n+1) (0,0))]:=by simp[pairUp,List.range_succ]
  have au:ends (pairUp l n++[(l.getD (2*n) (0,0),l.getD (2*n+1) (0,0))])=ends (pairUp l n)++[l.getD (2*n) (0,0),l.getD (2*n+1) (0,0)]:=by simp[ends]
  have t1:l.take (2*n+1+1)=l.take (2*n)++[l[2*n],l[2*n+1]]:=by rw[List.take_add_one,List.take_add_one,List.getElem?_eq_getElem (show 2*n<l.length by omega),List.getElem?_eq_getElem (show 2*n+1<l.length by omega),List.append_assoc];rfl
  rw[e,au,ck,show 2*(n+1)=2*n+1+1 by omega,t1];simp[List.getElem?_eq_getElem (show 2*n<l.length by omega),List.getElem?_eq_getElem (show 2*n+1<l.length by omega)]
theorem PR(ns:List Int)(cs:List Nat)(h1:1≤cs.length)(h6:cs.length≤6)(ea:∀c∈cs,1≤c∧c≤4):∃ws,jj cs ws∧qr [.bM (ns.map D.int),.lst (aO cs)]=.ok (.o (ws.map bt)):=by
 suffices h:Ends (qr [.bM (ns.map D.int),.lst (aO cs)]) fun b=>∃ws,jj cs ws∧b=.o (ws.map bt)by
  obtain⟨b,e,ws,h,rfl⟩:=h;exact⟨ws,h,e⟩
 have uG:1≤(cT cs cs.length).length:=List.length_pos_of_mem (head_mem h1 ea);have QL:=nO ea cs.length;have Ln:=yE cs cs.length;have out:=zm h6 ea;generalize An:cT cs cs.length=al at*;obtain⟨dx,au⟩:=pw ns 2;obtain⟨jm,bB⟩:=pw ns 3;have Gf:ia [.bM (ns.map D.int),.int 2]=.ok (.v (.int dx)):=au;have pD:ia [.bM (ns.map D.int),.int 3]=.ok (.v (.int jm)):=bB;simp(disch:=first|omega|(simp;done)|(simp;omega)) [qr,u3,out];refine pI al.length (fun j ρ=>∃(aD:List ko)(s4:cS),aD.map (·.2)=al.take j∧ρ=[.av (.bM (ns.map D.int)),.av (.lst (aO cs)),.av (.lst (al.map a9)),.cD (aD.map oE),s4,.un,.un,.un]) (by simp(disch:=first|omega|(simp;done)|(simp;omega))) ⟨[],.un,rfl,rfl⟩ ?_ ?_
 ·rintro j _ b4 ⟨aD,s4,hp,rfl⟩;have kN:aD.length=j:=by
   have:=congrArg List.length hp;simpa[Nat.min_eq_left (Nat.le_of_lt b4)]using this
  obtain⟨y,d2⟩:=qt (dx+(j:Int)*(j:Int)) (20+j) (by omega);have mM:fW [.int (dx+(j:Int)*(j:Int)),.int (20+(j:Int))]=.ok (.v (.int y)):=by rw[←d2];simp
  have eW:bg (.lst (al.map a9)) (.int (j:Int))=.ok (a9 al[j]):=i4 (by simp[b4]);simp(disch:=first|omega|(simp;done)|(simp;omega)) [Gf,mM,eW];refine⟨aD++[(y,al[j])],?_,by simp[oE]⟩;rw[List.map_append,hp,List.take_add_one,List.getElem?_eq_getElem b4];rfl
 ·rintro _ ⟨aD,s4,hp,rfl⟩;rw[List.take_length]at hp;have kN:aD.length=al.length:=by rw[←hp,List.length_map]
  obtain⟨ft,aH,af⟩:=xF aD (by omega);have RJ:ft.length=al.length:=by rw[aH.length_eq,kN]
  simp;refine G5 (fun p:ko=>.int p.1) (fun p=>a9 p.2) ft (fun p=>a9 p.2) (by simp[af];intros;rfl) (by omega) (fun p _=>by simp) ?_;have hd:(ft.map (·.2)).Perm al:=by rw[←hp];exact aH.map _
  have G1:ft.map (fun p=>a9 p.2)=(ft.map (·.2)).map a9:=by simp
  rw[G1];generalize Rn:ft.map (·.2)=dl at hd;have RB:dl.length=al.length:=hd.length_eq;obtain⟨y,d2⟩:=qt jm 11 (by decide);have mM:fW [.int jm,.int 11]=.ok (.v (.int y)):=d2;have QN:=Int.emod_nonneg y (b:=((al.length:Int)-1)/2/3+1) (by omega);have QO:=Int.emod_lt_of_pos y (b:=((al.length:Int)-1)/2/3+1) (by omega);generalize hv:((al.length:Int)-1)/2-y%(((al.length:Int)-1)/2/3+1)=v;have Iy:0≤v∧2*v+1≤al.length:=by omega
  obtain⟨n,rfl⟩:=Int.eq_ofNat_of_zero_le Iy.1;simp(disch:=first|omega|(simp;done)|(simp;omega)) [pD,mM,hv];refine vk n (fun k=>bt (dl.getD (2*k) (0,0),dl.getD (2*k+1) (0,0))) (by simp(disch:=first|omega|(simp;done)|(simp;omega))) (by omega) (fun k hk=>?_) ?_
  ·have a1:bg (.lst (dl.map a9)) (.int (2*(k:Int)))=.ok (a9 (dl.getD (2*k) (0,0))):=by
     have:=i4 (xs:=dl.map a9) (k:=2*k) (d:=a9 (dl.getD (2*k) (0,0))) (by simp[show 2*k<dl.length by omega]);rw[←this];simp
   have a2:bg (.lst (dl.map a9)) (.int (2*(k:Int)+1))=.ok (a9 (dl.getD (2*k+1) (0,0))):=by have:=i4 (xs:=dl.map a9) (k:=2*k+1) (d:=a9 (dl.getD (2*k+1) (0,0))) (by simp[show 2*k+1<dl.length by omega]);rw[←this];simp
   simp only[List.getD_eq_getElem?_getD]at a1 a2;simp[a1,a2,bt]
  ·have pG:=zA dl n (by omega);have wG:dl.Nodup:=hd.nodup_iff.mpr Ln;simp;refine⟨pairUp dl n,⟨h1,h6,ea,by rw[pG];exact wG.sublist (List.take_sublist _ _),fun d iZ=>?_,?_,?_⟩,by simp[pairUp,bt]⟩
   ·rw[pG]at iZ;rw[An];exact hd.mem_iff.mp (List.mem_of_mem_take iZ)
   ·have hx:2*n<dl.length:=by omega
    refine⟨dl[2*n],by rw[An];exact hd.mem_iff.mp (List.getElem_mem _),?_⟩;rw[pG];intro z;rw[←List.take_append_drop (2*n) dl,List.nodup_append]at wG;exact wG.2.2 _ z dl[2*n] (by rw[List.mem_iff_getElem?];exact⟨0,by simp[List.getElem?_eq_getElem hx]⟩) rfl
   ·simp[pairUp];omega
@[simp] theorem T3(a b:gX)(ρ:ah):jx a b ρ=(a ρ).bind b:=(rfl)
@[simp] theorem S8(c:bN)(x:Str)(ρ:ah):m1 c x ρ=(c ρ).bind fun k=>if k=true then .exc x else .ok ρ:=(rfl)
noncomputable def cQ(cs:List Nat)(ws:List (aG×aG)):D:=.ins "Net" ["many","counts","joined","far"] [.int (cs.length:Nat),.tup (aO cs),.tup (ws.map bt),.a4 (ct ws) (cw ws)]
theorem AZ(a b:D):g9 "Net" [a,b]=[.aR (.ins "Net" [] []),.av a,.av b]:=rfl
theorem Jx{a b:D}(h:gn [a]=.ok (.v (.aq false))):jy [a,b]=.exc "NoNet":=by
 have z:lx (g9 "Net" [a,b])=.exc "NoNet":=by rw[AZ,lx];simp[h]
 rw[jy,z];rfl
theorem A1{a b:D}(h:gn [a]=.ok (.v (.aq true)))(k:gh "list" b=.ok (.aq false)):jy [a,b]=.exc "NoNet":=by
 have z:lx (g9 "Net" [a,b])=.exc "NoNet":=by rw[AZ,lx];simp[h,k]
 rw[jy,z];rfl
noncomputable def Jw(cs:List Nat)(l:List D):b0→R (List Str×List D)
 |.v d=>.ok (["many","counts","joined","far"],[.int (cs.length:Nat),.tup (aO cs),.tup l,d])
 |_=>.bad
theorem A0(cs:List Nat)(h1:1≤cs.length)(h6:cs.length≤6)(ea:∀c∈cs,1≤c∧c≤4)(l:List D){r:R b0}(h:kR [.tup (aO cs),.tup l]=r)(hr:r=.exc "NoNet"∨∃ws,r=.ok (.v (.a4 (ct ws) (cw ws)))) :
  jy [.lst (aO cs),.lst l]=r.bind (Jw cs l):=by
 let eh (ns:List Str) (ds:List D):ah:=[.aR (.ins "Net" ns ds),.av (.lst (aO cs)),.av (.lst l)]
 have g1:m1 (i7 (dU (bV (cG 1 gn (ae (aj 1) (ax)))))) "NoNet" (eh [] [])=.ok (eh [] []):=by simp[eh,u9 cs h1 h6 ea]
 have g2:m1 (i7 (dU (bV (bW (gh "list") (aj 2))))) "NoNet" (eh [] [])=.ok (eh [] []):=rfl;have f1:iy "Net" "many" (jz (cU dg (ae (aj 1) (ax)))) (eh [] [])=.ok (eh ["many"] [.int (cs.length:Nat)]):=by
  have qa:jz (cU dg (ae (aj 1) ax)) (eh [] [])=.ok (.int (cs.length:Nat)):=by simp[eh,aO]
  rw[iy,qa];rfl
 have f2:iy "Net" "counts" (jz (cU jI (ae (aj 1) (ax)))) (eh ["many"] [.int (cs.length:Nat)])=.ok (eh ["many","counts"] [.int (cs.length:Nat),.tup (aO cs)]):=rfl;have eC:iy "Net" "joined" (jz (cU jI (ae (aj 2) (ax)))) (eh ["many","counts"] [.int (cs.length:Nat),.tup (aO cs)])=.ok (eh ["many","counts","joined"] [.int (cs.length:Nat),.tup (aO cs),.tup l]):=rfl;show oH "Net" (lx (eh [] []))=_;unfold lx;rw[q9 g1,q9 g2,q9 f1,q9 f2,q9 eC];have y:cG 2 kR (lU (ae (bW (c8 "Net" "counts") (aj 0)) (ae (bW (c8 "Net" "joined") (aj 0)) (ax)))) (eb (eh ["many","counts","joined"] [.int (cs.length:Nat),.tup (aO cs),.tup l]))=r.bind gO:=by show(kR [.tup (aO cs),.tup l]).bind gO=_;rw[h]
 rcases hr with rfl|⟨ws,rfl⟩
 ·have z:kQ (cG 2 kR (lU (ae (bW (c8 "Net" "counts") (aj 0)) (ae (bW (c8 "Net" "joined") (aj 0)) (ax))))) (eh ["many","counts","joined"] [.int (cs.length:Nat),.tup (aO cs),.tup l])=.exc "NoNet":=by
    rw[kQ,y];rfl
  rw[iy,z];rfl
 ·have n:iB (.a4 (ct ws) (cw ws))=true∧wL (eh ["many","counts","joined"] [.int (cs.length:Nat),.tup (aO cs),.tup l])=true:=⟨by simp only[iB];exact D6 ws,rfl⟩;have z:kQ (cG 2 kR (lU (ae (bW (c8 "Net" "counts") (aj 0)) (ae (bW (c8 "Net" "joined") (aj 0)) (ax))))) (eh ["many","counts","joined"] [.int (cs.length:Nat),.tup (aO cs),.tup l])=.ok (.a4 (ct ws) (cw ws)):=by
   rw[kQ,y];simp only[e2,ND,if_pos n]
  rw[iy,z];rfl
theorem tw(cs:List Nat):∀(ws P:List (aG×aG)),(ends (P++ws)).Nodup→gs (ws.map er.w) P=some (P++ws)
 |[],P,_=>by simp[gs]
 |w::r,P,br=>by
  obtain⟨fq,dv,_⟩:=wH br;rw[List.map_cons,gs,if_neg (by rw[not_or];exact⟨fq,dv⟩)];have q:P++w::r=(P++[w])++r:=by simp
  rw[q]at br ⊢;exact tw cs r (P++[w]) br
theorem q8{cs:List Nat}{ws:List (aG×aG)}(h:jj cs ws):∀t∈ws.map er.w,hM cs t:=fun t ht=>by obtain⟨w,hw,rfl⟩:=List.mem_map.mp ht;have ee:w.1∈ends ws:=List.mem_flatten.mpr ⟨[w.1,w.2],List.mem_map.mpr ⟨w,hw,rfl⟩,by simp⟩;have eY:w.2∈ends ws:=List.mem_flatten.mpr ⟨[w.1,w.2],List.mem_map.mpr ⟨w,hw,rfl⟩,by simp⟩;refine⟨h.sub _ ee,h.sub _ eY,fun z=>?_⟩;obtain⟨a,b,rfl⟩:=List.append_of_mem hw;exact(wH h.br).2.2 z
theorem BI(ws:List (aG×aG)):(ws.map er.w).map fv=ws.map bt:=by rw[List.map_map];rfl
theorem Jy(cs:List Nat)(ws:List (aG×aG))(h:jj cs ws):jy [.lst (aO cs),.lst (ws.map bt)]=.ok (["many","counts","joined","far"],[.int (cs.length:Nat),.tup (aO cs),.tup (ws.map bt),.a4 (ct ws) (cw ws)]):=by have f:=z8 cs (ws.map er.w) (q8 h) (by have:=h.few;simp;omega);rw[tw cs ws [] (by simpa using h.br),BI]at f;rw[A0 cs h.h1 h.h6 h.c _ f (.inr ⟨ws,rfl⟩)];rfl
theorem CN:∀(a:List er)(d:D)(b:List er)(P:List (aG×aG)),gs (a++.n d::b) P=none
 |[],_,_,_=>rfl
 |.n _::_,_,_,_=>rfl
 |.w x::a,d,b,P=>by
  rw[List.cons_append,gs]
  split
  ·rfl
  ·exact CN a d b _
theorem CM:∀(ws P Q:List (aG×aG)),(∀w∈ws,w.1≠w.2)→(ends P).Nodup→gs (ws.map er.w) P=some Q→(ends (P++ws)).Nodup
 |[],P,Q,_,h,_=>by simpa using h
 |w::r,P,Q,ne,h,e=>by
  rw[List.map_cons,gs]at e
  split at e
  ·cases e
  ·rename_i k;rw[not_or]at k;have q:P++w::r=(P++[w])++r:=by simp
   rw[q];refine CM r (P++[w]) Q (fun x hx=>ne x (by simp[hx])) ?_ e;have:ends (P++[w])=ends P++[w.1,w.2]:=by simp[ends]
   rw[this];refine List.nodup_append.mpr ⟨h,by simp[ne w (by simp)],fun a ha b hb z=>?_⟩;subst z;simp at hb;rcases hb with rfl|rfl
   ·exact k.1 ha
   ·exact k.2 ha
theorem Nu(cs:List Nat)(h1:1≤cs.length)(h6:cs.length≤6)(ea:∀c∈cs,1≤c∧c≤4)(ts:List er)(ok:∀t∈ts,hM cs t)(hl:ts.length<1000)(h:gs ts []=none):jy [.lst (aO cs),.lst (ts.map fv)]=.exc "NoNet":=by have f:=z8 cs ts ok hl;rw[h]at f;rw[A0 cs h1 h6 ea _ f (.inl rfl)];rfl
theorem Ll:wz [.fl "NoNet"]=.ok (.o [.str (PySem.Str.ofString "NoNet")]):=by rfl
@[simp] theorem T5(i:Nat)(cs:List Str)(n:Nat)(mf:List D→R (List Str×List D))(ma:aN)(ms:a_)(ρ:ah):ql i cs n mf ma ms ρ=(ef (ma ρ)).bind fun ds=>if ds.length=n∧i<ρ.length then match mf ds with
   |.ok _=>.ok (.bj ρ)
   |.exc c=>if cs.contains c=true then(ef (ms (ρ.set i (.av (.fl c))))).bind (rf i)else .bad
   |.bad=>.bad
  else .bad:=(rfl)
theorem tu{a b:D}(h:jy [a,b]=.exc "NoNet"):iz [a,b]=.ok (.v (.aq true)):=by have n:n6 false (.fl "NoNet") .non=.ok (.aq true):=rfl;have t:∀ρ:ah,rf 3 (.bj ρ)=.ok (.bj (ρ.set 3 .un)):=fun _=>rfl;have q:de true (.lst [.str (PySem.Str.ofString "NoNet")]) (.lst [.str (PySem.Str.ofString "NoNet")])=.ok (.aq true):=rfl;simp[iz,u1,h,t,n,Ll,q]
theorem Hc{i:Int}{n:Nat}(h0:0≤i)(h1:i≤(n:Int)-1):∃k:Nat,k<n∧i=(k:Int):=⟨i.toNat,by omega,by omega⟩
theorem oI(x y:D):kS [.tup [x,y]]=.ok (.v (.aq true)):=rfl
theorem kv(cs:List Nat)(i j:Int):eE [.tup (aO cs),.tup [.int i,.int j]]=.ok (.v (.aq (decide (0≤i)&&decide (i≤(cs.length:Int)-1)&&(decide (0≤j)&&decide (j≤(cs.getD i.toNat 0:Int)-1))))):=by
 have i1:bg (.tup [.int i,.int j]) (.int 0)=.ok (.int i):=rfl;have fS:bg (.tup [.int i,.int j]) (.int 1)=.ok (.int j):=rfl;have ln:dg [.tup (aO cs)]=.ok (.int (cs.length:Int)):=by simp[aO]
 by_cases h:0≤i∧i≤(cs.length:Int)-1
 ·obtain⟨k,hk,rfl⟩:=Hc h.1 h.2;have sH:bg (.tup (aO cs)) (.int (k:Int))=.ok (.int (cs.getD k 0:Nat)):=p3 (kB hk);simp only[List.getD_eq_getElem?_getD]at sH ⊢;simp[eE,lz,oI,i1,fS,ln,kh,sH,h.2]
 ·have hb:(decide (0≤i)&&decide (i≤(cs.length:Int)-1))=false:=by
    rw[←Bool.decide_and,decide_eq_false_iff_not];exact h
  rw[hb,Bool.false_and];simp only[eE,x3,lz];have w:=kh i 0 ((cs.length:Int)-1);rw[hb]at w;simp[oI,i1,fS,ln,w]
theorem oV{x a b:D}(h:oB [x]=.ok (.v (.aq false))):gH [x,a,b]=.ok (.v (.aq false)):=by simp[gH,rR,h]
theorem jo{cs:List Nat}{x:D}(h:kS [x]=.ok (.v (.aq false))):eE [.tup (aO cs),x]=.ok (.v (.aq false)):=by simp[eE,lz,h]
theorem vc{cs:List Nat}{x y:D}(h:oB [x]=.ok (.v (.aq false))):eE [.tup (aO cs),.tup [x,y]]=.ok (.v (.aq false)):=by have i1:bg (.tup [x,y]) (.int 0)=.ok x:=rfl;simp[eE,lz,oI,i1,oV h]
theorem zl{cs:List Nat}{y:D}(h1:1≤cs.length)(h:oB [y]=.ok (.v (.aq false))):eE [.tup (aO cs),.tup [.int 0,y]]=.ok (.v (.aq false)):=by
 have i1:bg (.tup [.int 0,y]) (.int 0)=.ok (.int 0):=rfl;have fS:bg (.tup [.int 0,y]) (.int 1)=.ok y:=rfl;have ln:dg [.tup (aO cs)]=.ok (.int (cs.length:Int)):=by simp[aO]
 have sH:bg (.tup (aO cs)) (.int 0)=.ok (.int (cs.getD 0 0:Nat)):=p3 (k:=0) (kB h1);have w:=kh 0 0 ((cs.length:Int)-1);have eF:gH [.int 0,.int 0,.int ((cs.length:Int)-1)]=.ok (.v (.aq true)):=by rw[w];simp;omega
 simp[eE,lz,oI,i1,fS,ln,sH,eF,oV h]
theorem oU{cs:List Nat}{x:D}(h:kS [x]=.ok (.v (.aq false))):gI [.tup (aO cs),x]=.ok (.v (.aq false)):=by simp[gI,mB,h]
theorem oT{cs:List Nat}{x y:D}(h:eE [.tup (aO cs),x]=.ok (.v (.aq false))):gI [.tup (aO cs),.tup [x,y]]=.ok (.v (.aq false)):=by have i1:bg (.tup [x,y]) (.int 0)=.ok x:=rfl;have fS:bg (.tup [x,y]) (.int 1)=.ok y:=rfl;simp[gI,mB,oI,i1,fS,h]
theorem ri{cs:List Nat}{x y:D}(k:eE [.tup (aO cs),x]=.ok (.v (.aq true)))(h:eE [.tup (aO cs),y]=.ok (.v (.aq false))):gI [.tup (aO cs),.tup [x,y]]=.ok (.v (.aq false)):=by have i1:bg (.tup [x,y]) (.int 0)=.ok x:=rfl;have fS:bg (.tup [x,y]) (.int 1)=.ok y:=rfl;simp[gI,mB,oI,i1,fS,h,k]
theorem F4(a:aG):de false (a9 a) (a9 a)=.ok (.aq false):=by show R.ok (D.aq (!(((a.1:Nat):Int)==((a.1:Nat):Int)&&(((a.2:Nat):Int)==((a.2:Nat):Int)&&true))))=_;simp
theorem D8{cs:List Nat}{a:aG}(k:eE [.tup (aO cs),a9 a]=.ok (.v (.aq true))):gI [.tup (aO cs),bt (a,a)]=.ok (.v (.aq false)):=by have p:kS [bt (a,a)]=.ok (.v (.aq true)):=rfl;have i1:bg (bt (a,a)) (.int 0)=.ok (a9 a):=rfl;have fS:bg (bt (a,a)) (.int 1)=.ok (a9 a):=rfl;simp[gI,mB,p,i1,fS,k,F4]
abbrev eB:D:=.tup [.int 0,.int 0]
noncomputable def nf(cs:List Nat):List D:=[.tup [.tup [.int 0,.int (cs.getD 0 0:Nat)],eB],.tup [eB,.tup [.int (cs.length:Nat),.int 0]],.tup [.tup [.int 0,.int (-1)],eB],.tup [.tup [.int (-1),.int 0],eB],.tup [eB,eB],.tup [eB],
 .tup [eB,eB,eB],.tup [.tup [.aq true,.int 0],eB],.tup [eB,.tup [.int 0,.aq false]],.tup [.lst [.int 0,.int 0],eB],.tup [.non,eB],.str (PySem.Str.ofString ""),.non,
 .lst [eB,eB],.tup [eB,.tup [.int 0]],.tup [eB,.tup [.int 0,.int 0,.int 0]],.int 0,.tup [eB,.str (PySem.Str.ofString "00")]]
theorem Fd{cs:List Nat}(h1:1≤cs.length)(ea:∀c∈cs,1≤c∧c≤4):∀d∈nf cs,gI [.tup (aO cs),d]=.ok (.v (.aq false)):=by
 have k:eE [.tup (aO cs),eB]=.ok (.v (.aq true)):=nY (d:=(0,0)) (head_mem h1 ea);intro d hd;simp only[nf,List.mem_cons,List.not_mem_nil,or_false]at hd;rcases hd with rfl|rfl|rfl|rfl|rfl|rfl|rfl|rfl|rfl|rfl|rfl|rfl|rfl|rfl|rfl|rfl|rfl|rfl
 ·exact oT (by rw[kv];simp;omega)
 ·exact ri k (by rw[kv];simp)
 ·exact oT (by rw[kv];simp)
 ·exact oT (by rw[kv];simp)
 ·exact D8 (a:=(0,0)) k
 ·exact oU rfl
 ·exact oU rfl
 ·exact oT (vc rfl)
 ·exact ri k (zl h1 rfl)
 ·exact oT (jo rfl)
 ·exact oT (jo rfl)
 ·exact oU rfl
 ·exact oU rfl
 ·exact oU rfl
 ·exact ri k (jo rfl)
 ·exact ri k (jo rfl)
 ·exact oU rfl
 ·exact ri k (jo rfl)
def nB(ws:List (aG×aG)):er→Prop
 |.n _=>True
 |.w x=>x.1∈ends ws∨x.2∈ends ws
theorem G6{ws:List (aG×aG)}{w:aG×aG}(hw:w∈ws):w.1∈ends ws∧w.2∈ends ws:=
 ⟨List.mem_flatten.mpr ⟨[w.1,w.2],List.mem_map.mpr ⟨w,hw,rfl⟩,by simp⟩,List.mem_flatten.mpr ⟨[w.1,w.2],List.mem_map.mpr ⟨w,hw,rfl⟩,by simp⟩⟩
def ng(w:aG×aG):List D:=[.tup [a9 w.1,eB],.tup [a9 w.2,a9 w.1],bt w]
theorem Ff{cs:List Nat}{ws:List (aG×aG)}(cL:jj cs ws){w:aG×aG}(hw:w∈ws):∀d∈ng w,∃t,hM cs t∧nB ws t∧d=fv t:=by
 obtain⟨ee,eY⟩:=G6 hw;obtain⟨cu,b2,tg⟩:hM cs (.w w):=q8 cL (.w w) (List.mem_map.mpr ⟨w,hw,rfl⟩);intro d hd;simp only[ng,List.mem_cons,List.not_mem_nil,or_false]at hd;rcases hd with rfl|rfl|rfl
 ·by_cases z:w.1=(0,0)
  ·exact⟨.n (.tup [a9 w.1,eB]),by rw[z];exact D8 (a:=(0,0)) (nY (head_mem cL.h1 cL.c)),trivial,rfl⟩
  ·exact⟨.w (w.1,(0,0)),⟨cu,head_mem cL.h1 cL.c,z⟩,.inl ee,rfl⟩
 ·exact⟨.w (w.2,w.1),⟨b2,cu,fun z=>tg z.symm⟩,.inl eY,rfl⟩
 ·exact⟨.w w,⟨cu,b2,tg⟩,.inl ee,rfl⟩
theorem Fh{cs:List Nat}{ws:List (aG×aG)}(cL:jj cs ws)(y:Int):∃(t:er)(j:Nat),hM cs t∧nB ws t∧kT [.lst (aO cs),.lst (ws.map bt),.int y]=.ok (.o ((j6 (ws.map er.w) j t).map fv)):=by
 have h1:=cL.h1;have few:=cL.few;suffices h:Ends (kT [.lst (aO cs),.lst (ws.map bt),.int y]) fun r=>∃(t:er)(j:Nat),hM cs t∧nB ws t∧r=.o ((j6 (ws.map er.w) j t).map fv)by
  obtain⟨b,e,t,j,h1,h2,rfl⟩:=h;exact⟨t,j,h1,h2,e⟩
 have iN:bg (.lst (aO cs)) (.int 0)=.ok (.int (cs.getD 0 0:Nat)):=i4 (k:=0) (kB h1);obtain⟨k,hk,dc⟩:=lS y (n:=18) (by decide);have mI:y%18=(k:Int):=dc;obtain⟨d,hd⟩:∃d,(nf cs)[k]?=some d:=⟨(nf cs)[k]'(by simpa[nf]using hk),List.getElem?_eq_getElem _⟩;have jt:bg (.lst (nf cs)) (.int (k:Int))=.ok d:=i4 hd;have r4:hM cs (.n d):=Fd h1 cL.c d (List.mem_of_getElem? hd);have lw:(ws.map bt).length=ws.length:=by simp
 have mt:=BI ws;have fin:∀(t:er)(ρ:ah),5<ρ.length→hM cs t→nB ws t→Ends ((sF 5 (ws.map bt) ρ (fv t) (.int (y/5400%((ws.length:Int)+1)))).bind fun x=>(t2 x.2[5]?).bind fun x=>(.ok (.o x):R b0)) fun r=>∃t,hM cs t∧nB ws t∧∃j,r=.o ((j6 (ws.map er.w) j t).map fv):=fun t ρ h5 o b=>by have p:0≤y/5400%((ws.length:Int)+1):=Int.emod_nonneg _ (by omega);have q:y/5400%((ws.length:Int)+1)<(ws.length:Int)+1:=Int.emod_lt_of_pos _ (by omega);rw[←mt,Jt fv p (by omega) (by simp;omega) t (fv t) rfl];simp[h5];exact⟨t,o,b,_,rfl⟩
 have lcs:(aO cs).length=cs.length:=by simp[aO]
 simp only[nf,eB]at jt;generalize cs.getD 0 0=HA at jt iN;by_cases h3:y/18%3=0∧0<ws.length
 ·obtain⟨h3,h4⟩:=h3;obtain⟨i,hi,iO⟩:=lS (y/54) h4;obtain⟨q,aH,eq⟩:=lS (y/540) (n:=3) (by decide);have G_:y/540%3=(q:Int):=eq;have pE:bg (.lst (ws.map bt)) (.int (i:Int))=.ok (bt ws[i]):=i4 (by simp[hi]);have nr:bg (bt ws[i]) (.int 0)=.ok (a9 ws[i].1):=rfl;have dH:bg (bt ws[i]) (.int 1)=.ok (a9 ws[i].2):=rfl;obtain⟨zh,Ar⟩:∃d,(ng ws[i])[q]?=some d:=⟨(ng ws[i])[q]'(by simpa[ng]using aH),List.getElem?_eq_getElem _⟩;have Ax:bg (.lst (ng ws[i])) (.int (q:Int))=.ok zh:=i4 Ar;obtain⟨t,o,b,rfl⟩:=Ff cL (List.getElem_mem hi) zh (List.mem_of_getElem? Ar);simp only[ng,eB]at Ax;simp(disch:=first|omega|(simp;done)|(simp;omega)) [kT,pn,iN,lcs,mI,jt,h3,h4,iO,pE,nr,dH,G_,Ax];exact fin t _ (by simp) o b
 ·have hc:(decide (y/18%3=0)&&decide (0<ws.length))=false:=by
    rw[←Bool.decide_and,decide_eq_false_iff_not];exact h3
  by_cases n3:y/18%3=0
  ·have h4:ws.length=0:=by omega
   simp(disch:=first|omega|(simp;done)|(simp;omega)) [kT,pn,iN,lcs,mI,jt,n3,h4];simpa[h4,fv]using fin (.n d) _ (by simp) r4 trivial
  ·simp(disch:=first|omega|(simp;done)|(simp;omega)) [kT,pn,iN,lcs,mI,jt,n3];exact fin (.n d) _ (by simp) r4 trivial
theorem Fi{cs:List Nat}{ws:List (aG×aG)}(cL:jj cs ws){t:er}(o:hM cs t)(b:nB ws t)(j:Nat):gs (j6 (ws.map er.w) j t) []=none:=by
 unfold j6;cases t with
 |n d=>exact CN _ d _ _
 |w x=>
  generalize min j (ws.map er.w).length=m;rw[←List.map_take,←List.map_drop,←List.map_cons (f:=er.w),←List.map_append];cases h:gs (((ws.take m)++x::ws.drop m).map er.w) []with
  |none=>rfl
  |some Q=>
   have ne:∀w∈ws.take m++x::ws.drop m,w.1≠w.2:=fun w hw=>by
    rcases List.mem_append.mp hw with hw|hw
    ·exact(q8 cL (.w w) (List.mem_map.mpr ⟨w,List.mem_of_mem_take hw,rfl⟩)).2.2
    ·rcases List.mem_cons.mp hw with rfl|hw
     ·exact o.2.2
     ·exact(q8 cL (.w w) (List.mem_map.mpr ⟨w,List.mem_of_mem_drop hw,rfl⟩)).2.2
   have br:=CM _ [] Q ne (by simp[ends]) h;rw[List.nil_append]at br;have lV:(ends (ws.take m++x::ws.drop m)).Perm ([x.1,x.2]++ends ws):=by
    have ai:ends (ws.take m++x::ws.drop m)=ends (ws.take m)++([x.1,x.2]++ends (ws.drop m)):=by simp[ends]
    have au:ends ws=ends (ws.take m)++ends (ws.drop m):=by
     conv=>lhs;rw[←List.take_append_drop m ws]
     simp only[ends,List.map_append,List.flatten_append]
    rw[ai,au,←List.append_assoc,←List.append_assoc];exact List.Perm.append_right _ List.perm_append_comm
   have qA:=lV.nodup_iff.mp br;obtain⟨_,_,jY⟩:=List.nodup_append.mp qA;rcases b with b|b
   ·exact(jY x.1 (by simp) x.1 b rfl).elim
   ·exact(jY x.2 (by simp) x.2 b rfl).elim
theorem Nw{cs:List Nat}{ws:List (aG×aG)}(cL:jj cs ws)(y:Int):∃l,kT [.lst (aO cs),.lst (ws.map bt),.int y]=.ok (.o l)∧iz [.lst (aO cs),.lst l]=.ok (.v (.aq true)):=by
 obtain⟨t,j,o,b,e⟩:=Fh cL y;refine⟨_,e,tu (Nu cs cL.h1 cL.h6 cL.c _ (fun u hu=>?_) (by rw[JA];have:=cL.few;simp;omega) (Fi cL o b j))⟩;rcases List.mem_cons.mp ((A2 _ j t).mem_iff.mp hu)with rfl|hu
 ·exact o
 ·exact q8 cL u hu
theorem y7{α:Type}(f:α→Bool):∀l:List α,kz (l.map fun a=>D.aq (f a))=some (l.map f)
 |[]=>rfl
 |a::l=>by simp[kz,y7 f l]
theorem E3{α:Type}(f:α→Bool)(l:List α):az.cT [.lst (l.map fun a=>D.aq (f a))]=.ok (.aq (l.all f)):=by simp[az.cT,y7,Function.comp_def]
theorem v8(l:List D):gh "list" (.lst l)=.ok (.aq true):=rfl
theorem lR:lB=.int 6:=rfl
theorem Ld:mE=.int 4:=rfl
theorem pA{x:D}(h:gh "list" x=.ok (.aq false)):gn [x]=.ok (.v (.aq false)):=by simp[gn,ly,h]
theorem u7{l:List D}(h:l.length=0∨6<l.length):gn [.lst l]=.ok (.v (.aq false)):=by
 rcases h with h|h
 ·simp[gn,ly,v8,h]
 ·have q:¬(l.length:Int)≤6:=by omega
  have p:(1:Int)≤l.length:=by omega
  simp[gn,ly,v8,lR,q,p]
theorem FG{l:List D}{f:D→Bool}(h1:1≤l.length)(h6:l.length≤6)(h:∀d∈l,gH [d,.int 1,.int 4]=.ok (.v (.aq (f d)))):gn [.lst l]=.ok (.v (.aq (l.all f))):=by
 apply Ends.done;have p:(1:Int)≤l.length:=by omega
 have q:(l.length:Int)≤6:=by omega
 simp[gn,ly,v8,lR,p,q];refine zw (fun d:D=>d) l (fun d=>.aq (f d)) (by simp) (by omega) (fun d hd=>by simp[Ld,h d hd]) ?_;simp[E3]
theorem FI{cs:List Nat}(h1:1≤cs.length)(h6:cs.length≤6)(ea:∀c∈cs,1≤c∧c≤4){j:Nat}(b4:j<cs.length){x:D}(hx:gH [x,.int 1,.int 4]=.ok (.v (.aq false))):gn [.lst ((aO cs).set j x)]=.ok (.v (.aq false)):=by
 have lcs:(aO cs).length=cs.length:=by simp[aO]
 classical
 have h:∀d∈(aO cs).set j x,gH [d,.int 1,.int 4]=.ok (.v (.aq (decide (gH [d,.int 1,.int 4]=.ok (.v (.aq true)))))):=fun d hd=>by
  rcases List.mem_or_eq_of_mem_set hd with hd|rfl
  ·obtain⟨c,hc,rfl⟩:=List.mem_map.mp hd;have e:=kh (c:Int) 1 4;have:(decide ((1:Int)≤c)&&decide ((c:Int)≤4))=true:=by have:=ea c hc;simp;omega
   rw[this]at e;simp[e]
  ·rw[hx];simp
 rw[FG (by simp[lcs];omega) (by simp[lcs];omega) h];have:((aO cs).set j x).all (fun d=>decide (gH [d,.int 1,.int 4]=.ok (.v (.aq true))))=false:=by rw[List.all_eq_false];exact⟨x,List.mem_set (by simpa[lcs]using b4) _,by rw[hx];simp⟩
 rw[this]
noncomputable def mD(cs:List Nat):List D:=[.lst [],.lst [.int 1,.int 1,.int 1,.int 1,.int 1,.int 1,.int 1],.non,.tup (aO cs),.str (PySem.Str.ofString "2"),.int 3,.cj [] [],.lst [.int 4,.int 4,.int 4,.int 4,.int 4,.int 4,.int 4,.int 4]]
theorem Fg(cs:List Nat):∀d∈mD cs,gn [d]=.ok (.v (.aq false)):=by
 intro d hd;simp only[mD,List.mem_cons,List.not_mem_nil,or_false]at hd;rcases hd with rfl|rfl|rfl|rfl|rfl|rfl|rfl|rfl
 ·exact u7 (.inl rfl)
 ·exact u7 (.inr (by simp))
 ·exact pA rfl
 ·exact pA rfl
 ·exact pA rfl
 ·exact pA rfl
 ·exact pA rfl
 ·exact u7 (.inr (by simp))
noncomputable def mC:List D:=[.int 0,.int 5,.int (-1),.aq true,.str (PySem.Str.ofString "2"),.non,.lst [.int 2],.int 10000000000000000000000000000000000000000]
theorem Fe:∀d∈mC,gH [d,.int 1,.int 4]=.ok (.v (.aq false)):=by
 intro d hd;simp only[mC,List.mem_cons,List.not_mem_nil,or_false]at hd;rcases hd with rfl|rfl|rfl|rfl|rfl|rfl|rfl|rfl
 ·rw[kh];rfl
 ·rw[kh];rfl
 ·rw[kh];rfl
 ·exact oV rfl
 ·exact oV rfl
 ·exact oV rfl
 ·exact oV rfl
 ·rw[kh];rfl
theorem MP:lX (.int 10) (.int 40)=.ok (.int 10000000000000000000000000000000000000000):=(rfl)
theorem Fj{cs:List Nat}(h1:1≤cs.length)(h6:cs.length≤6)(ea:∀c∈cs,1≤c∧c≤4)(y:Int):∃x:b0,lQ [.lst (aO cs),.int y]=.ok x∧∃d,gO x=.ok d∧gn [d]=.ok (.v (.aq false)):=by
 suffices h:Ends (lQ [.lst (aO cs),.int y]) fun x=>∃d,gO x=.ok d∧gn [d]=.ok (.v (.aq false))by
  obtain⟨b,e,h⟩:=h;exact⟨b,e,h⟩
 have lcs:(aO cs).length=cs.length:=by simp[aO]
 by_cases h:y%8=0
 ·obtain⟨k,hk,dc⟩:=lS (y/8) (n:=8) (by decide);have mI:y/8%8=(k:Int):=dc;obtain⟨d,hd⟩:∃d,(mD cs)[k]?=some d:=⟨(mD cs)[k]'(by simpa[mD]using hk),List.getElem?_eq_getElem _⟩;have jt:bg (.lst (mD cs)) (.int (k:Int))=.ok d:=i4 hd;have aI:=Fg cs d (List.mem_of_getElem? hd);simp only[mD]at jt;simp(disch:=first|omega|(simp;done)|(simp;omega)) [lQ,rS,h,mI,jt];exact aI
 ·obtain⟨j,b4,jZ⟩:=lS (y/8) (n:=cs.length) (by omega);obtain⟨k,hk,dc⟩:=lS (y/56) (n:=8) (by decide);have mI:y/56%8=(k:Int):=dc;obtain⟨d,hd⟩:∃d,mC[k]?=some d:=⟨mC[k]'(by simpa[mC]using hk),List.getElem?_eq_getElem _⟩;have jt:bg (.lst mC) (.int (k:Int))=.ok d:=i4 hd;have aI:=Fe d (List.mem_of_getElem? hd);simp only[mC]at jt;have MK:∀ρ:ah,putK 2 ρ (aO cs) d (.int (j:Int))=.ok (.bj (ρ.set 2 (.cD ((aO cs).set j d)))):=fun ρ=>M3 (by rw[lcs];exact b4);simp(disch:=first|omega|(simp;done)|(simp;omega)) [lQ,rS,h,mI,jt,lcs,jZ,MP,MK];exact FI h1 h6 ea b4 aI
theorem Nv{cs:List Nat}(h1:1≤cs.length)(h6:cs.length≤6)(ea:∀c∈cs,1≤c∧c≤4)(y:Int)(w:D):∃x d,lQ [.lst (aO cs),.int y]=.ok x∧gO x=.ok d∧iz [d,w]=.ok (.v (.aq true)):=by obtain⟨x,e,d,au,h⟩:=Fj h1 h6 ea y;exact⟨x,d,e,au,tu (Jx h)⟩
theorem pL:∀{xs:List D},(∀x∈xs,bl x x=true)→c7 xs xs=true
 |[],_=>by simp[c7]
 |x::xs,h=>by simp[c7,h x (by simp),pL (xs:=xs) fun y cF=>h y (by simp[cF])]
theorem pK:∀(n:Nat)(d:D),okN n d=true→bl d d=true
 |_,.non,_=>by simp[bl]
 |_,.aq _,_=>by simp[bl]
 |_,.int _,_=>by simp[bl]
 |_,.str _,_=>by simp[bl]
 |n+1,.tup xs,h=>by simp only[bl];exact pL fun x hx=>pK n x (List.all_eq_true.mp (by simpa[okN]using h) x hx)
 |n+1,.cM xs,h=>by simp only[bl];exact pL fun x hx=>pK n x (List.all_eq_true.mp (by simpa[okN]using h) x hx)
 |n+1,.lst xs,h=>by simp only[bl];exact pL fun x hx=>pK n x (List.all_eq_true.mp (by simpa[okN]using h) x hx)
 |n+1,.bM xs,h=>by simp only[bl];exact pL fun x hx=>pK n x (List.all_eq_true.mp (by simpa[okN]using h) x hx)
 |0,.tup _,h=>by simp[okN]at h
 |0,.cM _,h=>by simp[okN]at h
 |0,.lst _,h=>by simp[okN]at h
 |0,.bM _,h=>by simp[okN]at h
 |0,.cj _ _,h=>by simp[okN]at h
 |0,.a4 _ _,h=>by simp[okN]at h
 |0,.ins _ _ _,h=>by simp[okN]at h
 |0,.fl _,h=>by simp[okN]at h
 |n+1,.cj _ _,h=>by simp[okN]at h
 |n+1,.a4 _ _,h=>by simp[okN]at h
 |n+1,.ins _ _ _,h=>by simp[okN]at h
 |n+1,.fl _,h=>by simp[okN]at h
theorem r_{d:D}(h:okN 8 d=true):de false d d=.ok (.aq false):=by simp[de,h,pK 8 d h]
theorem wK(n:Nat)(a:aG):okN (n+1) (a9 a)=true:=by simp[a9,okN]
theorem B1(n:Nat)(w:aG×aG):okN (n+2) (bt w)=true:=by simp[bt,okN,wK]
theorem tk{α:Type}(g:α→D)(n:Nat)(l:List α)(h:∀a∈l,okN n (g a)=true):okN (n+1) (.lst (l.map g))=true:=by simp only[okN,List.all_map,List.all_eq_true];exact fun a ha=>h a ha
theorem Ht{ks:List (List Key)}{ds:List D}{k:List Key}{d:D}(h:findD ks ds k=some d):d∈ds:=by unfold findD at h;obtain⟨p,hp,rfl⟩:=Option.map_eq_some_iff.mp h;exact(List.of_mem_zip (List.mem_of_find?_eq_some hp)).2
theorem PE{ws:List (aG×aG)}{d:D}(h:d∈cw ws):∃a,d=a9 a:=by
 obtain⟨l,hl,hd⟩:=List.mem_flatten.mp h;obtain⟨w,_,rfl⟩:=List.mem_map.mp hl;simp at hd;rcases hd with rfl|rfl
 ·exact⟨_,rfl⟩
 ·exact⟨_,rfl⟩
def lG(ws:List (aG×aG))(k:List Key):D:=(findD (ct ws) (cw ws) k).getD .non
theorem Hm(ws:List (aG×aG))(k:List Key):de false (lG ws k) (lG ws k)=.ok (.aq false):=by
 refine r_ ?_;unfold lG;cases h:findD (ct ws) (cw ws) k with
 |none=>rfl
 |some d=>obtain⟨a,rfl⟩:=PE (Ht h);rfl
@[simp] theorem S2(m n:ay)(ρ:ah):oh m n ρ=(m ρ).bind fun d=>match d with
  |.a4 ks ds=>(n ρ).bind fun k=>match lM k with
   |some cq=>.ok ((findD ks ds cq).getD .non)
   |none=>.bad
  |_=>.bad:=(rfl)
theorem BH(cs:List Nat)(ws:List (aG×aG)):c8 "Net" "many" (cQ cs ws)=.ok (.int (cs.length:Int)):=rfl
theorem zf(cs:List Nat)(ws:List (aG×aG)):c8 "Net" "counts" (cQ cs ws)=.ok (.tup (aO cs)):=rfl
theorem JR(cs:List Nat)(ws:List (aG×aG)):c8 "Net" "joined" (cQ cs ws)=.ok (.tup (ws.map bt)):=rfl
theorem z7(cs:List Nat)(ws:List (aG×aG)):c8 "Net" "far" (cQ cs ws)=.ok (.a4 (ct ws) (cw ws)):=rfl
theorem FF{cs:List Nat}{ws:List (aG×aG)}{h:Nat}(hh:h<cs.length):ox [cQ cs ws,.int (h:Int)]=.ok (.v (.int (cs.getD h 0:Nat))):=by have e:bg (.tup (aO cs)) (.int (h:Int))=.ok (.int (cs.getD h 0:Nat)):=p3 (kB hh);simp only[List.getD_eq_getElem?_getD]at e ⊢;simp[ox,uS,BH,zf,e,hh]
theorem D_(cs:List Nat)(ws:List (aG×aG)):oA [cQ cs ws]=.ok (.o (ws.map bt)):=by have l:p_ [.tup (ws.map bt)]=.ok (ws.map bt):=rfl;simp[oA,uV,JR,l]
theorem Fl(cs:List Nat)(ws:List (aG×aG))(d:aG):qm [cQ cs ws,a9 d]=.ok (.v (lG ws (fp d))):=by simp[qm,uR,z7,lN,lG]
def outs(cs:List Nat)(ws:List (aG×aG))(n:Nat):List aG:=(cT cs n).filter fun d=>!decide (d∈ends ws)
theorem Ma(cs:List Nat)(ws:List (aG×aG))(n:Nat):outs cs ws (n+1)=outs cs ws n++(fE cs n).filter (fun d=>!decide (d∈ends ws)):=by unfold outs;rw[rN,List.filter_append]
theorem B9{cs:List Nat}(ws:List (aG×aG))(h:∀c∈cs,1≤c∧c≤4)(n:Nat):(outs cs ws n).length≤4*n:=Nat.le_trans (List.length_filter_le _ _) (nO h n)
theorem r3(ws:List (aG×aG))(d:aG):d0 false (a9 d) (.a4 (ct ws) (cw ws))=.ok (.aq (!decide (d∈ends ws))):=by simp only[d0,lN,ks_any];rfl
theorem B8{cs:List Nat}{ws:List (aG×aG)}(cL:jj cs ws):oz [cQ cs ws]=.ok (.o ((outs cs ws cs.length).map a9)):=by
 apply Ends.done;have h6:=cL.h6;have n1:c8 "Net" "far" (cQ cs ws)=.ok (.a4 (ct ws) (cw ws)):=rfl;have Hq:c8 "Net" "counts" (cQ cs ws)=.ok (.tup (aO cs)):=rfl;simp(disch:=first|omega|(simp;done)|(simp;omega)) [oz,uU];refine pI cs.length (fun j ρ=>∃s2 s3,ρ=[.av (cQ cs ws),.cD ((outs cs ws j).map a9),s2,s3]) (by simp(disch:=first|omega|(simp;done)|(simp;omega)) [BH]) ⟨.un,.un,by simp[outs,cT]⟩ ?_ ?_
 ·rintro j _ b4 ⟨s2,s3,rfl⟩;have sN:=vz (fun c h=>(cL.c c h).2) j;have bB:bg (.tup (aO cs)) (.int (j:Int))=.ok (.int (cs.getD j 0:Nat)):=p3 (kB b4);have lo:=B9 ws cL.c j;simp only[List.getD_eq_getElem?_getD]at bB sN;simp;have z:=pI (β:=eI) (set:=bI 3) (body:=du (bV (aB (d0 false) (bP (ae (aj 2) (ae (aj 3) (ax)))) (bW (c8 "Net" "far") (aj 0)))) (kP 1 (bP (ae (aj 2) (ae (aj 3) (ax))))) (dz)) (mi:=gF (ae (aB bg (bW (c8 "Net" "counts") (aj 0)) (aj 2)) (ax))) (ρ:=[.av (cQ cs ws),.cD ((outs cs ws j).map a9),.av (.int (j:Int)),s3]) (k:=fun f=>.ok f) (T:=pe fun ρ=>∃s3,ρ=[.av (cQ cs ws),.cD ((outs cs ws (j+1)).map a9),.av (.int (j:Int)),s3]) (cs[j]?.getD 0) (fun k ρ=>∃s3,ρ=[.av (cQ cs ws),.cD ((outs cs ws j++((fE cs j).take k).filter (fun d=>!decide (d∈ends ws))).map a9),.av (.int (j:Int)),s3]) (by simp[Hq,bB,show cs[j]?.getD 0<1000000 by omega]) ⟨s3,by simp⟩ ?_ ?_
  ·obtain⟨f,hS,bo,rfl,NL,rfl⟩:=z;have G2:eN (gF (ae (aB bg (bW (c8 "Net" "counts") (aj 0)) (aj 2)) (ax))) (bI 3) (du (bV (aB (d0 false) (bP (ae (aj 2) (ae (aj 3) (ax)))) (bW (c8 "Net" "far") (aj 0)))) (kP 1 (bP (ae (aj 2) (ae (aj 3) (ax))))) (dz)) [.av (cQ cs ws),.cD ((outs cs ws j).map a9),.av (.int (j:Int)),s3]=.ok (.bj [.av (cQ cs ws),.cD ((outs cs ws (j+1)).map a9),.av (.int (j:Int)),NL]):=by
    rw[←hS];cases eN (gF (ae (aB bg (bW (c8 "Net" "counts") (aj 0)) (aj 2)) (ax))) (bI 3) (du (bV (aB (d0 false) (bP (ae (aj 2) (ae (aj 3) (ax)))) (bW (c8 "Net" "far") (aj 0)))) (kP 1 (bP (ae (aj 2) (ae (aj 3) (ax))))) (dz)) [.av (cQ cs ws),.cD ((outs cs ws j).map a9),.av (.int (j:Int)),s3]<;>rfl
   rw[G2];simp
  ·rintro k _ hk ⟨s3,rfl⟩;have sx:k<(fE cs j).length:=by simp[fE,List.getD_eq_getElem?_getD];exact hk
   have eW:(fE cs j)[k]=(j,k):=by simp[fE]
   have dd:d0 false (.tup [.int (j:Int),.int (k:Int)]) (.a4 (ct ws) (cw ws))=.ok (.aq (!decide ((j,k)∈ends ws))):=r3 ws (j,k);have qa:(((fE cs j).take k).filter (fun d=>!decide (d∈ends ws))).length≤4:=Nat.le_trans (List.length_filter_le _ _) (Nat.le_trans (List.length_take_le' _ _) (zp cL.c j));rw[List.take_add_one,List.getElem?_eq_getElem sx,eW,Option.toList_some,List.filter_append];by_cases hm:(j,k)∈ends ws
   ·simp[n1,dd,hm]
   ·simp(disch:=first|omega|(simp;done)|(simp;omega)) [n1,dd,hm];rfl
  ·rintro _ ⟨s3,rfl⟩;have:(fE cs j).take (cs[j]?.getD 0)=fE cs j:=List.take_of_length_le (by simp[fE,List.getD_eq_getElem?_getD]);rw[this,←Ma];simp
 ·rintro _ ⟨s2,s3,rfl⟩;simp
theorem p2(cs:List Nat)(ws:List (aG×aG))(x:D){b:Bool}(h:eE [.tup (aO cs),x]=.ok (.v (.aq b))):oy [cQ cs ws,x]=.ok (.v (.aq b)):=by simp[oy,uT,zf,h]
theorem qS(cs:List Nat)(ws:List (aG×aG)):hB "Net" "is_door" (cQ cs ws)=.ok (cQ cs ws):=rfl
theorem xA(cs:List Nat)(ws:List (aG×aG)):hB "Net" "is_outer" (cQ cs ws)=.ok (cQ cs ws):=rfl
theorem NT(cs:List Nat)(ws:List (aG×aG)):hB "Net" "count" (cQ cs ws)=.ok (cQ cs ws):=rfl
theorem CR(cs:List Nat)(ws:List (aG×aG)):hB "Net" "wires" (cQ cs ws)=.ok (cQ cs ws):=rfl
theorem NR(cs:List Nat)(ws:List (aG×aG)):hB "Net" "beyond" (cQ cs ws)=.ok (cQ cs ws):=rfl
theorem CQ(cs:List Nat)(ws:List (aG×aG)):hB "Net" "outer" (cQ cs ws)=.ok (cQ cs ws):=rfl
theorem B7(cs:List Nat)(ws:List (aG×aG))(x:D)(h:eE [.tup (aO cs),x]=.ok (.v (.aq false))):m4 [cQ cs ws,x]=.ok (.v (.aq false)):=by simp[m4,rQ,qS,p2 cs ws x h]
theorem L_{cs:List Nat}(ws:List (aG×aG)){d:aG}(h:d∈cT cs cs.length):m4 [cQ cs ws,a9 d]=.ok (.v (.aq (!decide (d∈ends ws)))):=by simp[m4,rQ,qS,p2 cs ws _ (nY h),z7,r3]
theorem xX(a b:Bool):oC [.aq a,.aq b]=.ok (.v (.aq (a==b))):=by cases a<;>cases b<;>rfl
theorem AY(i j:Int)(l:List aG):inD true (.tup [.int i,.int j]) (.lst (l.map a9))=.ok (.aq (l.any fun d=>((d.1:Int)==i)&&((d.2:Int)==j))):=by
 have s:tC (.lst (l.map a9))=some (l.map a9):=rfl;have o:okN 7 (.tup [.int i,.int j])=true:=rfl;have b2:(l.map a9).all (okN 7)=true:=by rw[List.all_map,List.all_eq_true];exact fun a _=>wK 6 a
 simp only[inD,s,o,b2,and_self,if_true,List.any_map]
 congr 2
 congr 1
 funext d
 simp[Function.comp,a9,bl,c7]
theorem Js{d:aG}{l:List aG}(h:d∈l):inD true (a9 d) (.lst (l.map a9))=.ok (.aq true):=by show inD true (.tup [.int (d.1:Nat),.int (d.2:Nat)]) _=_;rw[AY];have:(l.any fun e=>((e.1:Int)==((d.1:Nat):Int))&&((e.2:Int)==((d.2:Nat):Int)))=true:=List.any_eq_true.mpr ⟨d,h,by simp⟩;rw[this]
theorem Ju{i j:Int}{l:List aG}(h:∀d∈l,¬((d.1:Int)=i∧(d.2:Int)=j)):inD true (.tup [.int i,.int j]) (.lst (l.map a9))=.ok (.aq false):=by
 rw[AY];have:(l.any fun e=>((e.1:Int)==i)&&((e.2:Int)==j))=false:=by rw[List.any_eq_false];intro d hd z;simp at z;exact h d hd z
 rw[this]
def sa(cs:List Nat):List (Int×Int):=[(0,(cs.getD 0 0:Nat)),((cs.length:Nat),0),(-1,0),(0,-1)]
def j7(p:Int×Int):D:=.tup [.int p.1,.int p.2]
theorem Hh{cs:List Nat}:∀p∈sa cs,(∀d∈cT cs cs.length,¬((d.1:Int)=p.1∧(d.2:Int)=p.2))∧eE [.tup (aO cs),j7 p]=.ok (.v (.aq false)):=by
 intro p hp;simp only[sa,List.mem_cons,List.not_mem_nil,or_false]at hp;rcases hp with rfl|rfl|rfl|rfl
 ·refine⟨fun d hd z=>?_,by rw[j7,kv];simp;omega⟩;obtain⟨h1,h2⟩:=qs.mp hd;obtain⟨a8,aX⟩:=z;have e:d.1=0:=by omega
  rw[e]at h2;simp only at aX;omega
 ·refine⟨fun d hd z=>?_,by rw[j7,kv];simp⟩;obtain⟨h1,h2⟩:=qs.mp hd;have:=z.1;simp only at this;omega
 ·refine⟨fun d hd z=>?_,by rw[j7,kv];simp⟩;have:=z.1;simp only at this;omega
 ·refine⟨fun d hd z=>?_,by rw[j7,kv];simp⟩;have:=z.2;simp only at this;omega
noncomputable def wJ(f:Int):List D:=[.non,.int 0,.str (PySem.Str.ofString "0.0"),.lst [.int 0,.int 0],.tup [.int 0],.tup [.int 0,.int 0,.int 0],.tup [.aq false,.int 0],.tup [.int 0,.non],.tup [.tup [.int 0,.int 0],.tup [.int 0,.int 0]],.tup [.int f,.int 0]]
theorem LG{cs:List Nat}(h1:1≤cs.length)(h6:cs.length≤6){f:Int}(hf:6≤f):∀d∈wJ f,eE [.tup (aO cs),d]=.ok (.v (.aq false)):=by
 intro d hd;simp only[wJ,List.mem_cons,List.not_mem_nil,or_false]at hd;rcases hd with rfl|rfl|rfl|rfl|rfl|rfl|rfl|rfl|rfl|rfl
 ·exact jo rfl
 ·exact jo rfl
 ·exact jo rfl
 ·exact jo rfl
 ·exact jo rfl
 ·exact jo rfl
 ·exact vc rfl
 ·exact zl h1 rfl
 ·exact vc rfl
 ·rw[kv];have:decide (f≤(cs.length:Int)-1)=false:=by simp;omega
  simp[this]
theorem F6{cs:List Nat}{ws:List (aG×aG)}(cL:jj cs ws){f:Int}(hf:6≤f):sZ [cQ cs ws,.lst (aO cs),.tup [.int f,.int 0],.lst ((cT cs cs.length).map a9),.a4 (ct ws) (cw ws)]=.ok (.v (.aq true)):=by
 apply Ends.done;have h1:=cL.h1;have h6:=cL.h6;have lcs:(aO cs).length=cs.length:=by simp[aO]
 have Bq:=nO cL.c cs.length;have iN:bg (.lst (aO cs)) (.int 0)=.ok (.int (cs.getD 0 0:Nat)):=i4 (k:=0) (kB h1);generalize Gh:D.lst (aO cs)=C at iN;generalize Gi:D.tup [.int f,.int 0]=Fa;have p7:dg [C]=.ok (.int (cs.length:Nat)):=by rw[←Gh];simp[lcs]
 simp[sZ,u0];refine pH (fun d:D=>d) ((cT cs cs.length).map a9++(sa cs).map j7) (fun j ρ=>∃s5 fu,ρ=[.av (cQ cs ws),.av C,.av Fa,.av (.lst ((cT cs cs.length).map a9)),.av (.a4 (ct ws) (cw ws)),s5,fu,.un]) ?_ ⟨.un,.un,rfl⟩ ?_ ?_
 ·simp only[List.map_id'];simp only[sa];generalize cs.getD 0 0=HA at iN ⊢;simp(disch:=first|omega|(simp;done)|(simp;omega)) [iN,p7,j7]
 ·rintro j a _ ha ⟨s5,fu,rfl⟩;rcases List.mem_append.mp (List.mem_of_getElem? ha)with hm|hm
  ·obtain⟨d,hd,rfl⟩:=List.mem_map.mp hm;have i:=Js hd;have t:=p2 cs ws (a9 d) (nY hd);have o:=L_ ws hd;simp[i,t,o,qS,xA,xX,r3]
  ·obtain⟨p,hp,rfl⟩:=List.mem_map.mp hm;obtain⟨fq,dv⟩:=Hh p hp;have i:inD true (j7 p) (.lst ((cT cs cs.length).map a9))=.ok (.aq false):=Ju fq;have t:=p2 cs ws (j7 p) dv;have o:=B7 cs ws (j7 p) dv;simp[i,t,o,qS,xA,xX]
 ·rintro _ ⟨s5,fu,rfl⟩;simp only[xG,x5,D4];refine pH (fun d:D=>d) (wJ f) (fun j ρ=>∃dC,ρ=[.av (cQ cs ws),.av C,.av Fa,.av (.lst ((cT cs cs.length).map a9)),.av (.a4 (ct ws) (cw ws)),s5,fu,dC]) ?_ ⟨.un,rfl⟩ ?_ ?_
  ·rw[←Gi];rfl
  ·rintro j a _ ha ⟨dC,rfl⟩;have n:=LG h1 h6 hf a (List.mem_of_getElem? ha);have t:=p2 cs ws a n;have o:=B7 cs ws a n;simp[t,o,qS,xA,xX]
  ·rintro _ ⟨dC,rfl⟩;simp
@[simp] theorem Q_(i:Nat)(ρ:ah)(ks:List (List Key))(ds:List D):sf i ρ (some (.aR (.a4 ks ds)))=ρ.set i (.av (.a4 ks ds)):=(rfl)
theorem A4(i:Int):gh "bool" (.int i)=.ok (.aq false):=rfl
theorem NC{cs:List Nat}{ws:List (aG×aG)}(cL:jj cs ws){f:Int}(hf:6≤f):qq [cQ cs ws,.lst (aO cs),.lst (ws.map bt),.tup [.int f,.int 0]]=.ok (.v (.aq true)):=by
 apply Ends.done;have h1:=cL.h1;have h6:=cL.h6;have few:=cL.few;have lcs:(aO cs).length=cs.length:=by simp[aO]
 have Bq:=nO cL.c cs.length;have vb:=zm h6 cL.c;have lD:=F6 cL hf;have p7:dg [.lst (aO cs)]=.ok (.int (cs.length:Nat)):=by simp[lcs]
 have A_:∀j,j<cs.length→bg (.lst (aO cs)) (.int (j:Int))=.ok (.int (cs.getD j 0:Nat)):=fun j b4=>i4 (kB b4);generalize D.lst (aO cs)=C at vb lD p7 A_;generalize D.tup [.int f,.int 0]=Fa at lD;generalize lE:cQ cs ws=N at lD;generalize vd:cT cs cs.length=A at vb lD Bq;have Jr:∀j,j<cs.length→ox [N,.int (j:Int)]=.ok (.v (.int (cs.getD j 0:Nat))):=fun j b4=>by rw[←lE];exact FF b4
 have tF:∀mt:Str,hB "Net" mt (cQ cs ws)=.ok (cQ cs ws)→hB "Net" mt N=.ok N:=fun mt h=>by rw[←lE];exact h
 have s1:=tF _ (NT cs ws);have s2:=tF _ (CR cs ws);have s3:=tF _ (NR cs ws);have s4:=tF _ (CQ cs ws);have dH:oA [N]=.ok (.o (ws.map bt)):=by rw[←lE];exact D_ cs ws
 have cu:oz [N]=.ok (.o ((outs cs ws cs.length).map a9)):=by rw[←lE];exact B8 cL
 have e5:∀d,qm [N,a9 d]=.ok (.v (lG ws (fp d))):=fun d=>by rw[←lE];exact Fl cs ws d
 have ee:c8 "Net" "many" N=.ok (.int (cs.length:Nat)):=by rw[←lE];rfl
 have we:de false (.lst (ws.map bt)) (.lst (ws.map bt))=.ok (.aq false):=r_ (tk bt 7 ws fun w _=>B1 5 w);have B0:de false (.lst ((outs cs ws cs.length).map a9)) (.lst ((outs cs ws cs.length).map a9))=.ok (.aq false):=r_ (tk a9 7 _ fun w _=>wK 6 w);have vm:outs cs ws cs.length=A.filter fun d=>!decide (d∈ends ws):=by rw[←vd];rfl
 simp(disch:=first|omega|(simp;done)|(simp;omega)) [qq,u2,vb];refine pH bt ws (fun j ρ=>∃fu dC,ρ=[.av N,.av C,.av (.lst (ws.map bt)),.av Fa,.av (.lst (A.map a9)),.aR (.a4 (ct (ws.take j)) (cw (ws.take j))),fu,dC,.un,.un]) (by simp) ⟨.un,.un,by simp[ct,cw,ends]⟩ ?_ ?_
 ·rintro j w _ hw ⟨fu,dC,rfl⟩;obtain⟨b4,hT⟩:=List.getElem?_eq_some_iff.mp hw;have br:=cL.br;have sp:ws=ws.take j++w::ws.drop (j+1):=by
   rw[←hT,List.getElem_cons_drop,List.take_append_drop]
  rw[sp]at br;obtain⟨fq,dv,s9⟩:=wH br;have lk:(ct (ws.take j)).length<10000:=by unfold ct;rw[List.length_map,zz,List.length_take];omega
  have d4:ws.take (j+1)=ws.take j++[w]:=by rw[List.take_add_one,hw];rfl
  have a1:=r7 (i:=5) (mk:=aj 6) (mv:=aj 7) (ρ:=[.av N,.av C,.av (.lst (ws.map bt)),.av Fa,.av (.lst (A.map a9)),.aR (.a4 (ct (ws.take j)) (cw (ws.take j))),.av (a9 w.1),.av (a9 w.2),.un,.un]) rfl rfl rfl (lN w.1) (by rw[ks_any];exact decide_eq_false fq) (by omega);have a2:=r7 (i:=5) (mk:=aj 7) (mv:=aj 6) (ρ:=[.av N,.av C,.av (.lst (ws.map bt)),.av Fa,.av (.lst (A.map a9)),.aR (.a4 (ct (ws.take j)++[fp w.1]) (cw (ws.take j)++[a9 w.2])),.av (a9 w.1),.av (a9 w.2),.un,.un]) rfl rfl rfl (lN w.2) (yK (by rw[ks_any];exact decide_eq_false dv) (fun z=>s9 (wi z))) (by rw[List.length_append,List.length_singleton];omega);have st:gP [bI 6,bI 7] (bt w) [.av N,.av C,.av (.lst (ws.map bt)),.av Fa,.av (.lst (A.map a9)),.aR (.a4 (ct (ws.take j)) (cw (ws.take j))),fu,dC,.un,.un]=.ok [.av N,.av C,.av (.lst (ws.map bt)),.av Fa,.av (.lst (A.map a9)),.aR (.a4 (ct (ws.take j)) (cw (ws.take j))),.av (a9 w.1),.av (a9 w.2),.un,.un]:=rfl;rw[st,e2,x5,a1,e2,xG];have uM:=a2;rw[d4,Bp,D7];show Ends (hZ 5 (aj 7) (aj 6) [.av N,.av C,.av (.lst (ws.map bt)),.av Fa,.av (.lst (A.map a9)),.aR (.a4 (ct (ws.take j)++[fp w.1]) (cw (ws.take j)++[a9 w.2])),.av (a9 w.1),.av (a9 w.2),.un,.un]) _;rw[uM,G7,ES];exact⟨_,_,rfl⟩
 ·rintro _ ⟨fu,dC,rfl⟩;rw[List.take_length];simp(disch:=first|omega|(simp;done)|(simp;omega)) [ee,p7,A4,s2,dH,we];refine pI cs.length (fun j ρ=>∃jE,ρ=[.av N,.av C,.av (.lst (ws.map bt)),.av Fa,.av (.lst (A.map a9)),.av (.a4 (ct ws) (cw ws)),fu,dC,jE,.un]) (by simp[p7,show cs.length<1000000 by omega]) ⟨.un,rfl⟩ ?_ ?_
  ·rintro j _ b4 ⟨jE,rfl⟩;have i:=Jr j b4;have x:=A_ j b4;generalize cs.getD j 0=g at i x;simp[s1,i,x,A4]
  ·rintro _ ⟨jE,rfl⟩;simp only[xG,x5,D4];refine pH a9 A (fun j ρ=>∃kc,ρ=[.av N,.av C,.av (.lst (ws.map bt)),.av Fa,.av (.lst (A.map a9)),.av (.a4 (ct ws) (cw ws)),fu,dC,jE,kc]) (by simp) ⟨.un,rfl⟩ ?_ ?_
   ·rintro j d _ hd ⟨kc,rfl⟩;have e:=Hm ws (fp d);simp[s3,e5,lN];show Ends ((de false (lG ws (fp d)) (lG ws (fp d))).bind _) _;rw[e];simp
   ·rintro _ ⟨kc,rfl⟩;simp[s4,cu];refine zx a9 A (fun d=>!decide (d∈ends ws)) a9 (by simp) (by omega) (fun d _=>by simp[r3]) (fun d _ _=>by simp) ?_;rw[←vm];simp[B0,lD]
@[simp] theorem Tn(m:iK)(ρ:ah):qh m ρ=(m ρ).bind fun ts=>if ts.length≤1000000 then .ok (.lst ts)else .bad:=(rfl)
@[simp] theorem S1(m:gY)(r:iK)(ρ:ah):og m r ρ=(m ρ).bind fun t=>(r ρ).bind fun ts=>.ok (t::ts):=(rfl)
@[simp] theorem Tx(ρ:ah):sV ρ=.ok []:=(rfl)
@[simp] theorem SF(m:aN)(ρ:ah):oq m ρ=(m ρ).bind fun ds=>.ok (gk ds):=(rfl)
@[simp] theorem SN(m:ay)(ρ:ah):qe m ρ=(m (eb ρ)).bind fun d=>if gq d=true∧qE ρ=true then .ok d else .bad:=(rfl)
@[simp] theorem SK(ma:aN)(n:ay)(ρ:ah):qd ma n ρ=(ma ρ).bind fun ds=>(n ρ).bind fun _=>if ds.length<1000000 then .ok (.bj ρ)else .bad:=(rfl)
@[simp] theorem Tt(a0 mt:Str)(mf:List D→R b0)(o:ay)(ρ:ah):oo a0 mt mf o ρ=(o ρ).bind fun d=>(hB a0 mt d).bind fun d=>(mf [d]).bind qP:=(rfl)
@[simp] theorem SX(i:Nat)(mk:ay)(ρ:ah):sT i mk ρ=(jb i ρ).bind fun ts=>(mk ρ).bind fun k=>rY i ρ ts k:=(rfl)
theorem DF:∀ds:List D,jH (ds.map T.av)=ds
 |[]=>rfl
 |d::ds=>by simp[jH,toD,DF ds]
theorem Pf(a b:List D):toD (.lst [gk a,gk b])=.lst [.lst a,.lst b]:=by simp[toD,jH,gk,DF]
theorem BR:∀cs:List Nat,gr (aO cs)=true
 |[]=>rfl
 |c::cs=>by show gr (.int (c:Int)::aO cs)=true;simp[gr,gq,BR cs]
theorem Lp(a:aG):gq (a9 a)=true:=rfl
theorem BU:∀ws:List (aG×aG),gr (ws.map bt)=true
 |[]=>rfl
 |w::ws=>by have:gq (bt w)=true:=rfl;simp[gr,this,BU ws]
theorem BS:∀ws:List (aG×aG),gr (cw ws)=true
 |[]=>rfl
 |w::ws=>by show gr (a9 w.2::a9 w.1::cw ws)=true;simp[gr,Lp,BS ws]
theorem Lq(cs:List Nat)(ws:List (aG×aG)):gq (cQ cs ws)=true:=by simp[cQ,gq,gr,BR,BU,BS]
theorem yG:∀ds:List D,mA (ds.map T.av)=true
 |[]=>rfl
 |d::ds=>by simp[mA,ku,yG ds]
theorem LS(a b c d:D)(x y:List D):qE [.av a,.av b,.av c,.cW (.lst [gk x,gk y]),.un,.un,.un,.un,.un]=true:=by simp[qE,C8,ku,mA,gk,yG]
theorem Lh(c:Int)(k:Nat)(hk:k<1000):∃y:Int,0≤y∧fW [.int c,.int k]=.ok (.v (.int y)):=by
 have h1:(2:Int)*(k:Int)*(k:Int)≤2000000:=by
  have:k*k≤1000*1000:=Nat.mul_le_mul (by omega) (by omega);have e:(2:Int)*(k:Int)*(k:Int)=2*((k*k:Nat):Int):=by rw[Int.natCast_mul,Int.mul_assoc]
  rw[e];omega
 have h0:0≤(2:Int)*(k:Int)*(k:Int):=Int.mul_nonneg (by omega) (by omega);simp(disch:=first|omega|(simp;done)|(simp;omega)) [fW,rU,Cs];exact Int.ediv_nonneg (Int.emod_nonneg _ (by decide)) (by decide)
theorem KD(ns:List Int):m5 [.bM (ns.map D.int)]=.ok (.v (.aq true)):=by
 apply Ends.done;obtain⟨cs,⟨h1,h6⟩,ea,ec⟩:=FH ns;obtain⟨ws,cL,hT⟩:=PR ns cs h1 h6 ea;obtain⟨rW,c2⟩:=pw ns 4;obtain⟨rq,Rt,Hi⟩:=Lh rW 2 (by decide);have Gg:ia [.bM (ns.map D.int),.int 4]=.ok (.v (.int rW)):=c2;have Hj:fW [.int rW,.int 2]=.ok (.v (.int rq)):=Hi;have few:=cL.few;have lcs:(aO cs).length=cs.length:=by simp[aO]
 have dB:=NC cL (f:=6+rq) (by omega);have i2:=Jy cs ws cL;have lE:D.ins "Net" ["many","counts","joined","far"] [.int (cs.length:Nat),.tup (aO cs),.tup (ws.map bt),.a4 (ct ws) (cw ws)]=cQ cs ws:=rfl;have dH:=D_ cs ws;have cu:=B8 cL;have lo:=B9 ws cL.c cs.length;have wl:dg [.lst (ws.map bt)]=.ok (.int (ws.length:Nat)):=by simp
 have x0:∀a b:D,bg (.lst [a,b]) (.int 0)=.ok a:=fun _ _=>rfl;have d5:∀a b:D,bg (.lst [a,b]) (.int 1)=.ok b:=fun _ _=>rfl;have te:de false (.lst [.lst (aO cs),.lst (ws.map bt)]) (.lst [.lst (aO cs),.lst (ws.map bt)])=.ok (.aq false):=by refine r_ ?_;have a:okN 7 (.lst (aO cs))=true:=tk _ 6 cs fun _ _=>rfl;have b:okN 7 (.lst (ws.map bt))=true:=tk bt 6 ws fun w _=>B1 4 w;simp[okN]at a b ⊢;exact⟨a,b⟩
 have NH:∀y:Int,∃l,kT [.lst (aO cs),.lst (ws.map bt),.int y]=.ok (.o l)∧iz [.lst (aO cs),.lst l]=.ok (.v (.aq true)):=Nw cL;have Np:∀(y:Int),∃x d,lQ [.lst (aO cs),.int y]=.ok x∧gO x=.ok d∧iz [d,.lst (ws.map bt)]=.ok (.v (.aq true)):=fun y=>Nv h1 h6 ea y _;have f1:iz [.lst (aO cs),.non]=.ok (.v (.aq true)):=tu (A1 (u9 cs h1 h6 ea) rfl);have f2:iz [.lst (aO cs),.tup (ws.map bt)]=.ok (.v (.aq true)):=tu (A1 (u9 cs h1 h6 ea) rfl);have fq:=Lq cs ws;have LU:=LS (.bM (ns.map D.int)) (.lst (aO cs)) (.lst (ws.map bt)) .non (aO cs) (ws.map bt);have sw:=CR cs ws;have so:=CQ cs ws;have ap:∀ρ:ah,nR 3 ρ [gk (aO cs),gk (ws.map bt)] (aw (.int 1)) (.int 0)=.ok (.bj (ρ.set 3 (.cW (.lst [.lst ((aO cs).map T.av++[.av (.int 1)]),gk (ws.map bt)])))):=fun ρ=>E6 (k:=0) (us:=(aO cs).map T.av) (d:=.int 1) rfl rfl (by simp[lcs];omega);have cl:∀(ρ:ah)(t:T),rY 3 ρ [t,gk (ws.map bt)] (.int 1)=.ok (.bj (ρ.set 3 (.cW (.lst [t,.lst []])))):=fun ρ t=>by show rZ 3 ρ [t,gk (ws.map bt)] (some 1)=_;have a:=E4 (ws.map bt);simp only[rZ,gk,List.getElem?_cons_succ,List.getElem?_cons_zero,a,if_true];rfl
 have cut:=FO (ns.map D.int) 63;have FL:jn (ns.map D.int) none (some 63)=(ns.take 63).map D.int:=by rw[List.map_take];exact cut
 let xs:List Int:=[0,1,2,3]++ns.take 63
 have RM:xs.length≤67:=by simp only[xs,List.length_append,List.length_take,List.length_cons,List.length_nil];omega
 simp only[m5,x3,uX];simp(disch:=first|omega|(simp;done)|(simp;omega)) [ec,hT,Pf,x0,d5,i2,lE,fq,LU,Gg,Hj,te,dB,ap,cl,sw,so,dH,cu,show ws.length<1000000 by omega,show(outs cs ws cs.length).length<1000000 by omega];refine pH (fun p:Int×Nat=>D.tup [.int (p.2:Int),.int p.1]) xs.zipIdx (fun j ρ=>∃fu dC jE,ρ=[.av (.bM (ns.map D.int)),.av (.lst (aO cs)),.av (.lst (ws.map bt)),.cW (.lst [.lst ((aO cs).map T.av++[.av (.int 1)]),.lst []]),.av (cQ cs ws),.av (.tup [.int (6+rq),.int 0]),fu,dC,jE]) ?_ ⟨.un,.un,.un,rfl⟩ ?_ ?_
 ·have em:=G9 D.int xs;rw[←em];have ex:(xs.map D.int)=D.int 0::D.int 1::D.int 2::D.int 3::(ns.take 63).map D.int:=by simp[xs]
  rw[ex];simp(disch:=first|omega|(simp;done)|(simp;omega)) [FL]
 ·rintro j ⟨x,k⟩ _ hk ⟨fu,dC,jE,rfl⟩;obtain⟨a8,aX⟩:=QI hk;have b4:k<xs.length:=by
   have:=(List.getElem?_eq_some_iff.mp aX).1;simp only at a8;omega
  obtain⟨y,d2⟩:=qt x (40+k) (by omega);have mM:fW [.int x,.int (40+(k:Int))]=.ok (.v (.int y)):=by rw[←d2];simp
  obtain⟨l,g1,g2⟩:=NH (y/2);obtain⟨u,d,g3,gC,HB⟩:=Np y;simp(disch:=first|omega|(simp;done)|(simp;omega)) [mM,g1,g2,g3,gC,HB]
 ·rintro _ ⟨fu,dC,jE,rfl⟩;simp[f1,f2]
theorem j9{P:Str→Bool→Prop}:∀c x,([]:List (Str×Bool)).lookup c=some x→P c x:=fun _ _ h=>nomatch h
theorem j8{P:Str→Bool→Prop}{a:Str}{b:Bool}{l:List (Str×Bool)}(h:P a b)(t:∀c x,l.lookup c=some x→P c x):∀c x,((a,b)::l).lookup c=some x→P c x:=fun c x e=>by
 rw[List.lookup_cons]at e
 split at e
 ·rename_i k;rw[beq_iff_eq]at k;cases e;rw[k];exact h
 ·exact t c x e
theorem FK{P:Str→Prop}:∀c,([]:List Str).contains c=true→P c:=fun _ h=>nomatch h
theorem FJ{P:Str→Prop}{a:Str}{l:List Str}(h:P a)(t:∀c,l.contains c=true→P c):∀c,(a::l).contains c=true→P c:=fun c e=>by
 rw[List.contains_cons,Bool.or_eq_true]at e;rcases e with k|k
 ·rw[beq_iff_eq]at k;rw[k];exact h
 ·exact t c k
theorem Qf{P:Program}{w:World}{K:PySem.W.Frag}{mg:Str→Option Value}{base:Heap}{x:Str}{st:Stmt}{N aD:List Str}{k:Nat}{m:a_}{f:Addr}{fd:FuncData}(fn:jO K x x st f fd)(S:c0 N aD (bX st))(h:∀(f:Addr)(bO:Value)(A:Around)(outer:List PySem.Env)(s:Shared)(H:J)(E:cn),cK k (A.deeper (PyProof.Rows.envOfC x (bX st) s.heap.objs.size f bO))→∀G0 H0,hO (dt gU P w K mg base N x (bX st) f bO A outer s H E).fs (dT K G0 H0) (eU st) m) :
  fM P w K mg base gU (k+1) f fd aD (iD K aD.length (c_ N.length m)):=fn.ok S tG fun bO A outer s H vs Q E hr hs=>by
 obtain⟨G,ht⟩:=rV hs;exact⟨_,(h f bO A outer s H E hr G H).1,ht⟩
structure eH(K:PySem.W.Frag)(x:Str)(st:Stmt):Prop where
 ex:∃(f:Addr)(cV an:Option Addr)(b1:Array (Option Value))(dM cb ip pm cd b3:Value),PySem.W.nsIn K mainGlobals x=some (some (.ref f))∧K.lookup f=some ⟨dM,cV,.func (PySem.W.fnOf x x (iq st) (eU st) (bX st) .none cb ip pm an cd b3),b1⟩∧PySem.W.codeIn K cd x=true∧PySem.W.keepIn K (.ref f)=true
theorem fo{K:PySem.W.Frag}{x:Str}{st:Stmt}{f:Addr}{cV an:Option Addr}{b1:Array (Option Value)}{dM cb ip pm cd b3:Value}(a:PySem.W.nsIn K mainGlobals x=some (some (.ref f)))(l:K.lookup f=some ⟨dM,cV,.func (PySem.W.fnOf x x (iq st) (eU st) (bX st) .none cb ip pm an cd b3),b1⟩)(c:PySem.W.codeIn K cd x=true)(k:PySem.W.keepIn K (.ref f)=true):eH K x st:=⟨f,cV,an,b1,dM,cb,ip,pm,cd,b3,a,l,c,k⟩
theorem fm{K:PySem.W.Frag}{h:Heap}{mg:Str→Option Value}{x:Str}{st:Stmt}{aD:List Str}(X:K.In h)(G:h.Ns mainGlobals mg)(F:eH K x st)(b:∀(cb doc pm:Value)(an:Option Addr)(bO b3:Value)(us:List Value),us.length=aD.length→bindArgs (PySem.W.fnOf x x (iq st) (eU st) (bX st) .none cb doc pm an bO b3) ⟨us,[]⟩=pure (aD.zip us)):eo K mg x st aD:=by obtain⟨f,cV,an,b1,dM,cb,ip,pm,cd,b3,a,l,c,k⟩:=F.ex;exact Hr (st:=st) X G a l c k b
structure jR(K:PySem.W.Frag)(C:Addr)(x qual:Str)(st:Stmt):Prop where
 ex:∃(f:Addr)(cV an:Option Addr)(b1:Array (Option Value))(dM cb ip pm cd b3:Value),PySem.W.findIn K (.ref C) x=some (some (.ref f))∧K.lookup f=some ⟨dM,cV,.func (PySem.W.fnOf x qual (iq st) (eU st) (bX st) .none cb ip pm an cd b3),b1⟩∧PySem.W.codeIn K cd qual=true∧PySem.W.keepIn K (.ref f)=true∧PySem.W.isFn K (.ref f)=true
theorem m6{K:PySem.W.Frag}{C:Addr}{x qual:Str}{st:Stmt}{f:Addr}{cV an:Option Addr}{b1:Array (Option Value)}{dM cb ip pm cd b3:Value}(a:PySem.W.findIn K (.ref C) x=some (some (.ref f)))(l:K.lookup f=some ⟨dM,cV,.func (PySem.W.fnOf x qual (iq st) (eU st) (bX st) .none cb ip pm an cd b3),b1⟩)(c:PySem.W.codeIn K cd qual=true)(k:PySem.W.keepIn K (.ref f)=true)(i:PySem.W.isFn K (.ref f)=true):jR K C x qual st:=⟨f,cV,an,b1,dM,cb,ip,pm,cd,b3,a,l,c,k,i⟩
theorem oD{K:PySem.W.Frag}{a0 x qual:Str}{C:Addr}{st:Stmt}{aD:List Str}(n:PySem.W.nsIn K mainGlobals a0=some (some (.ref C)))(g1:PySem.W.plainGet K C Str.empty=true)(g2:PySem.W.hasDictIn K C=true)(g3:PySem.W.plainOver K C=true)(gC:PySem.W.findIn K (.ref C) "__setattr__"=some (some (.builtin "object.__setattr__")))(F:jR K C x qual st)(b:∀(cb doc pm:Value)(an:Option Addr)(bO b3:Value)(us:List Value),us.length=aD.length→bindArgs (PySem.W.fnOf x qual (iq st) (eU st) (bX st) .none cb doc pm an bO b3) ⟨us,[]⟩=pure (aD.zip us)):lr K a0 x qual st aD:=by obtain⟨f,cV,an,b1,dM,cb,ip,pm,cd,b3,a,l,c,k,i⟩:=F.ex;exact⟨⟨C,f,_,n,⟨g1,g2,g3,gC⟩,⟨a,i,k⟩,mO (st:=st) l c k,(mO (st:=st) l c k).binds b⟩⟩
theorem Le{K:PySem.W.Frag}{h:Heap}{mg:Str→Option Value}{a0 qual:Str}{C:Addr}{st:Stmt}{aD:List Str}(X:K.In h)(G:h.Ns mainGlobals mg)(n:PySem.W.nsIn K mainGlobals a0=some (some (.ref C)))(mk:PySem.W.makesIn K C=true)(J6:PySem.W.keepIn K (.ref C)=true)(F:jR K C "__init__" qual st)(b:∀(cb doc pm:Value)(an:Option Addr)(bO b3:Value)(us:List Value),us.length=aD.length→bindArgs (PySem.W.fnOf "__init__" qual (iq st) (eU st) (bX st) .none cb doc pm an bO b3) ⟨us,[]⟩=pure (aD.zip us)):InK K mg a0 qual st aD:=by obtain⟨f,cV,an,b1,dM,cb,ip,pm,cd,b3,a,l,c,k,i⟩:=F.ex;exact⟨⟨C,f,_,n,⟨mk,a,i,J6⟩,mO (st:=st) l c k,PySem.W.mg_of X G n,(mO (st:=st) l c k).binds b⟩⟩
set_option maxHeartbeats 4000000 in
theorem Pt{K:PySem.W.Frag}{h:Heap}{mg:Str→Option Value}{fz:Addr}{dk:Addr}{QF:ClassData}{uh:Addr}{ui:Addr}{uj:Addr}{uk:Addr}{um:Addr}{uo:Addr}{uq:Addr}{ur:Addr}{uu:Addr}{O1:Tok}{O2:Tok}(X:K.In h)(G:h.Ns mainGlobals mg)(n_Net:PySem.W.nsIn K mainGlobals "Net"=some (some (.ref fz)))(g1_Net:PySem.W.plainGet K fz Str.empty=true)(g2_Net:PySem.W.hasDictIn K fz=true)(g3_Net:PySem.W.plainOver K fz=true)(g4_Net:PySem.W.findIn K (.ref fz) "__setattr__"=some (some (.builtin "object.__setattr__")))(u_Net_many:PySem.W.findIn K (.ref fz) "many"=some none)(u_Net_counts:PySem.W.findIn K (.ref fz) "counts"=some none)(u_Net_joined:PySem.W.findIn K (.ref fz) "joined"=some none)(u_Net_far:PySem.W.findIn K (.ref fz) "far"=some none)(mk_Net:PySem.W.makesIn K fz=true)(kc_Net:PySem.W.keepIn K (.ref fz)=true)(n_NoNet:PySem.W.nsIn K mainGlobals "NoNet"=some (some (.ref dk)))(ct_NoNet:PySem.W.clsIn K dk=some QF)(e1_NoNet:PySem.W.excIn K dk [.type "ValueError",.type "Exception",.type "BaseException",.type "object"] "ValueError.__new__"=true)(ga_NoNet:PySem.W.findIn K (.ref dk) "__getattribute__"=some (some (.builtin "BaseException.__getattribute__")))(gn_NoNet:PySem.W.findIn K (.ref dk) "__getattr__"=some none)(cl_NoNet:PySem.W.findIn K (.ref dk) "__class__"=some (some (.builtin "object.__class__")))(sb_NoNet:PySem.W.subIn K (.ref dk) (.type "BaseException")=some true)(mo_NoNet:PySem.W.mroIn K dk (.type "object")=some true)(spc0:PySem.W.specialIn K (.builtin "object.__class__") "__get__"=some (some (.builtin "getset_descriptor.__get__")))(tkc0:PySem.W.takesIn K (.builtin "object.__class__")=some true)(n_NoAddress:PySem.W.nsIn K mainGlobals "NoAddress"=some (some (.ref uh)))(ki_NoNet_NoAddress:PySem.W.kitOne K (.ref dk) (.ref uh)=some false)(n_NoBooks:PySem.W.nsIn K mainGlobals "NoBooks"=some (some (.ref ui)))(ki_NoNet_NoBooks:PySem.W.kitOne K (.ref dk) (.ref ui)=some false)(n_NoDoor:PySem.W.nsIn K mainGlobals "NoDoor"=some (some (.ref uj)))(ki_NoNet_NoDoor:PySem.W.kitOne K (.ref dk) (.ref uj)=some false)(n_NoMove:PySem.W.nsIn K mainGlobals "NoMove"=some (some (.ref uk)))(ki_NoNet_NoMove:PySem.W.kitOne K (.ref dk) (.ref uk)=some false)(ki_NoNet_NoNet:PySem.W.kitOne K (.ref dk) (.ref dk)=some true)(n_NoPlan:PySem.W.nsIn K mainGlobals "NoPlan"=some (some (.ref um)))(ki_NoNet_NoPlan:PySem.W.kitOne K (.ref dk) (.ref um)=some false)(n_NoRow:PySem.W.nsIn K mainGlobals "NoRow"=some (some (.ref uo)))(ki_NoNet_NoRow:PySem.W.kitOne K (.ref dk) (.ref uo)=some false)(n_NoSaying:PySem.W.nsIn K mainGlobals "NoSaying"=some (some (.ref uq)))(ki_NoNet_NoSaying:PySem.W.kitOne K (.ref dk) (.ref uq)=some false)(n_NoText:PySem.W.nsIn K mainGlobals "NoText"=some (some (.ref ur)))(ki_NoNet_NoText:PySem.W.kitOne K (.ref dk) (.ref ur)=some false)(ki_NoNet_ValueError:PySem.W.kitOne K (.ref dk) (.type "ValueError")=some true)(n_WayError:PySem.W.nsIn K mainGlobals "WayError"=some (some (.ref uu)))(em_NoNet_WayError:PySem.W.exmOne K (.ref dk) (.ref uu)=some true)(h0:eH K "_law_mix" xt)(h1:eH K "_law_cell_at" xo)(h2:eH K "_law_counts" xp)(h3:eH K "_law_doors" xq)(h4:eH K "_law_wires" xy)(h5:eH K "is_pair" xi)(h6:eH K "is_whole" xj)(h7:eH K "is_whole_within" xk)(h8:eH K "is_door_among" xh)(h9:eH K "is_wire_among" xl)(h10:eH K "far_doors" xg)(h11:eH K "are_counts" xf)(h12:jR K fz "__init__" "Net.__init__" w_)(h13:eH K "_law_truth" xx)(h14:jR K fz "is_door" "Net.is_door" xa)(h15:jR K fz "is_outer" "Net.is_outer" xb)(h16:eH K "_law_doors_right" xr)(h17:jR K fz "outer" "Net.outer" xc)(h18:jR K fz "wires" "Net.wires" xd)(h19:jR K fz "beyond" "Net.beyond" w8)(h20:jR K fz "count" "Net.count" w9)(h21:eH K "_law_right" xw)(h22:eH K "_law_names" xu)(h23:eH K "_law_refused" xv)(h24:eH K "_law_bad_wires" xn)(h25:eH K "_law_bad_counts" xm)(h26:eH K "law" lZ)(z_ValueError:PySem.W.nsIn K mainGlobals "ValueError"=some none)(z_all:PySem.W.nsIn K mainGlobals "all"=some none)(z_bool:PySem.W.nsIn K mainGlobals "bool"=some none)(z_enumerate:PySem.W.nsIn K mainGlobals "enumerate"=some none)(z_int:PySem.W.nsIn K mainGlobals "int"=some none)(z_isinstance:PySem.W.nsIn K mainGlobals "isinstance"=some none)(z_len:PySem.W.nsIn K mainGlobals "len"=some none)(z_list:PySem.W.nsIn K mainGlobals "list"=some none)(z_range:PySem.W.nsIn K mainGlobals "range"=some none)(z_sorted:PySem.W.nsIn K mainGlobals "sorted"=some none)(z_tuple:PySem.W.nsIn K mainGlobals "tuple"=some none)(z_MOST_DOORS:PySem.W.nsIn K mainGlobals "MOST_DOORS"=some (some (.int 4 O1)))(z_MOST_HOUSES:PySem.W.nsIn K mainGlobals "MOST_HOUSES"=some (some (.int 6 O2))):uK K mg where
 fT:=⟨fz,n_Net,⟨g1_Net,g2_Net,g3_Net,g4_Net⟩,(List.forall_mem_cons.2 ⟨u_Net_many,(List.forall_mem_cons.2 ⟨u_Net_counts,(List.forall_mem_cons.2 ⟨u_Net_joined,(List.forall_mem_cons.2 ⟨u_Net_far,(fun _ h=>absurd h List.not_mem_nil)⟩)⟩)⟩)⟩)⟩
 rl:=⟨⟨dk,n_NoNet,PySem.W.mg_of X G n_NoNet,e1_NoNet⟩⟩
 DM:=⟨⟨uh,PySem.W.mg_of X G n_NoAddress,⟨spc0,tkc0,(j8 ⟨dk,n_NoNet,⟨ga_NoNet,gn_NoNet,cl_NoNet,sb_NoNet,mo_NoNet,(by rw[ct_NoNet];rfl)⟩,ki_NoNet_NoAddress⟩ j9)⟩⟩⟩
 DN:=⟨⟨ui,PySem.W.mg_of X G n_NoBooks,⟨spc0,tkc0,(j8 ⟨dk,n_NoNet,⟨ga_NoNet,gn_NoNet,cl_NoNet,sb_NoNet,mo_NoNet,(by rw[ct_NoNet];rfl)⟩,ki_NoNet_NoBooks⟩ j9)⟩⟩⟩
 DO:=⟨⟨uj,PySem.W.mg_of X G n_NoDoor,⟨spc0,tkc0,(j8 ⟨dk,n_NoNet,⟨ga_NoNet,gn_NoNet,cl_NoNet,sb_NoNet,mo_NoNet,(by rw[ct_NoNet];rfl)⟩,ki_NoNet_NoDoor⟩ j9)⟩⟩⟩
 DP:=⟨⟨uk,PySem.W.mg_of X G n_NoMove,⟨spc0,tkc0,(j8 ⟨dk,n_NoNet,⟨ga_NoNet,gn_NoNet,cl_NoNet,sb_NoNet,mo_NoNet,(by rw[ct_NoNet];rfl)⟩,ki_NoNet_NoMove⟩ j9)⟩⟩⟩
 DQ:=⟨⟨dk,PySem.W.mg_of X G n_NoNet,⟨spc0,tkc0,(j8 ⟨dk,n_NoNet,⟨ga_NoNet,gn_NoNet,cl_NoNet,sb_NoNet,mo_NoNet,(by rw[ct_NoNet];rfl)⟩,ki_NoNet_NoNet⟩ j9)⟩⟩⟩
 DR:=⟨⟨um,PySem.W.mg_of X G n_NoPlan,⟨spc0,tkc0,(j8 ⟨dk,n_NoNet,⟨ga_NoNet,gn_NoNet,cl_NoNet,sb_NoNet,mo_NoNet,(by rw[ct_NoNet];rfl)⟩,ki_NoNet_NoPlan⟩ j9)⟩⟩⟩
 DS:=⟨⟨uo,PySem.W.mg_of X G n_NoRow,⟨spc0,tkc0,(j8 ⟨dk,n_NoNet,⟨ga_NoNet,gn_NoNet,cl_NoNet,sb_NoNet,mo_NoNet,(by rw[ct_NoNet];rfl)⟩,ki_NoNet_NoRow⟩ j9)⟩⟩⟩
 DT:=⟨⟨uq,PySem.W.mg_of X G n_NoSaying,⟨spc0,tkc0,(j8 ⟨dk,n_NoNet,⟨ga_NoNet,gn_NoNet,cl_NoNet,sb_NoNet,mo_NoNet,(by rw[ct_NoNet];rfl)⟩,ki_NoNet_NoSaying⟩ j9)⟩⟩⟩
 DU:=⟨⟨ur,PySem.W.mg_of X G n_NoText,⟨spc0,tkc0,(j8 ⟨dk,n_NoNet,⟨ga_NoNet,gn_NoNet,cl_NoNet,sb_NoNet,mo_NoNet,(by rw[ct_NoNet];rfl)⟩,ki_NoNet_NoText⟩ j9)⟩⟩⟩
 DV:=⟨spc0,tkc0,(j8 ⟨dk,n_NoNet,⟨ga_NoNet,gn_NoNet,cl_NoNet,sb_NoNet,mo_NoNet,(by rw[ct_NoNet];rfl)⟩,ki_NoNet_ValueError⟩ j9)⟩
 Dz:=⟨⟨uu,PySem.W.mg_of X G n_WayError,(FJ ⟨dk,n_NoNet,em_NoNet_WayError⟩ FK)⟩⟩
 z0:=fm X G h0 fun _ _ _ _ _ _ us hl=>match us,hl with|[_,_],_=>rfl
 zW:=fm X G h1 fun _ _ _ _ _ _ us hl=>match us,hl with|[_,_],_=>rfl
 zX:=fm X G h2 fun _ _ _ _ _ _ us hl=>match us,hl with|[_],_=>rfl
 zY:=fm X G h3 fun _ _ _ _ _ _ us hl=>match us,hl with|[_],_=>rfl
 z5:=fm X G h4 fun _ _ _ _ _ _ us hl=>match us,hl with|[_,_],_=>rfl
 zQ:=fm X G h5 fun _ _ _ _ _ _ us hl=>match us,hl with|[_],_=>rfl
 zR:=fm X G h6 fun _ _ _ _ _ _ us hl=>match us,hl with|[_],_=>rfl
 zS:=fm X G h7 fun _ _ _ _ _ _ us hl=>match us,hl with|[_,_,_],_=>rfl
 zP:=fm X G h8 fun _ _ _ _ _ _ us hl=>match us,hl with|[_,_],_=>rfl
 zT:=fm X G h9 fun _ _ _ _ _ _ us hl=>match us,hl with|[_,_],_=>rfl
 zO:=fm X G h10 fun _ _ _ _ _ _ us hl=>match us,hl with|[_,_],_=>rfl
 zN:=fm X G h11 fun _ _ _ _ _ _ us hl=>match us,hl with|[_],_=>rfl
 zI:=Le X G n_Net mk_Net kc_Net h12 fun _ _ _ _ _ _ us hl=>match us,hl with|[_,_,_],_=>rfl
 z4:=fm X G h13 fun _ _ _ _ _ _ us hl=>match us,hl with|[_,_],_=>rfl
 zJ:=oD n_Net g1_Net g2_Net g3_Net g4_Net h14 fun _ _ _ _ _ _ us hl=>match us,hl with|[_,_],_=>rfl
 zK:=oD n_Net g1_Net g2_Net g3_Net g4_Net h15 fun _ _ _ _ _ _ us hl=>match us,hl with|[_,_],_=>rfl
 zZ:=fm X G h16 fun _ _ _ _ _ _ us hl=>match us,hl with|[_,_,_,_,_],_=>rfl
 zL:=oD n_Net g1_Net g2_Net g3_Net g4_Net h17 fun _ _ _ _ _ _ us hl=>match us,hl with|[_],_=>rfl
 zM:=oD n_Net g1_Net g2_Net g3_Net g4_Net h18 fun _ _ _ _ _ _ us hl=>match us,hl with|[_],_=>rfl
 zG:=oD n_Net g1_Net g2_Net g3_Net g4_Net h19 fun _ _ _ _ _ _ us hl=>match us,hl with|[_,_],_=>rfl
 zH:=oD n_Net g1_Net g2_Net g3_Net g4_Net h20 fun _ _ _ _ _ _ us hl=>match us,hl with|[_,_],_=>rfl
 z3:=fm X G h21 fun _ _ _ _ _ _ us hl=>match us,hl with|[_,_,_,_],_=>rfl
 z1:=fm X G h22 fun _ _ _ _ _ _ us hl=>match us,hl with|[_],_=>rfl
 z2:=fm X G h23 fun _ _ _ _ _ _ us hl=>match us,hl with|[_,_],_=>rfl
 zV:=fm X G h24 fun _ _ _ _ _ _ us hl=>match us,hl with|[_,_,_],_=>rfl
 zU:=fm X G h25 fun _ _ _ _ _ _ us hl=>match us,hl with|[_,_],_=>rfl
 Hl:=fm X G h26 fun _ _ _ _ _ _ us hl=>match us,hl with|[_],_=>rfl
 yP:=PySem.W.mg_none_of X G z_ValueError
 yQ:=PySem.W.mg_none_of X G z_all
 pk:=PySem.W.mg_none_of X G z_bool
 yR:=PySem.W.mg_none_of X G z_enumerate
 yS:=PySem.W.mg_none_of X G z_int
 fD:=PySem.W.mg_none_of X G z_isinstance
 gb:=PySem.W.mg_none_of X G z_len
 iM:=PySem.W.mg_none_of X G z_list
 ky:=PySem.W.mg_none_of X G z_range
 yY:=PySem.W.mg_none_of X G z_sorted
 nT:=PySem.W.mg_none_of X G z_tuple
 mE:=⟨⟨_,_,PySem.W.mg_of X G z_MOST_DOORS,(CO _ _),fun _=>(yB _)⟩⟩
 lB:=⟨⟨_,_,PySem.W.mg_of X G z_MOST_HOUSES,(CO _ _),fun _=>(yB _)⟩⟩
set_option maxHeartbeats 4000000 in
theorem all_mk{l:PySem.W.OpenLaw}{w:World}{K:PySem.W.Frag}{h:Heap}{mg:Str→Option Value}{eD:Addr}(X:K.In h)(G:h.Ns mainGlobals mg)(HT:mg "law"=some (.ref eD))(F:eH K "law" lZ)(T:uK K mg) :
  ∃fd:FuncData,(∀(s:Shared)(v:Value),BindsTo s fd ⟨[v],[]⟩ [("_law_script",v)])∧∀base:Heap,K.In base→base.Ns mainGlobals mg→fM l.prog w K mg base gU 9 eD fd ["_law_script"] (iD K 1 m5):=by
 obtain⟨f,cV,an,b1,dM,cb,ip,pm,cd,b3,a,lk,c,k⟩:=F.ex;have e:=HT.symm.trans (PySem.W.mg_of X G a);cases e;exact⟨_,fun s v=>.of_eq rfl,fun base _ _=>Qf (mO (st:=lZ) lk c k) kY (Fn T)⟩
theorem KG(K:PySem.W.Frag)(H:J)(a:Addr)(ns:List Int)(jr:bx K H a (ns.map V.int)):iD K 1 m5 [.ref a] H (fun v _=>v=.aq true) (fun _ _ _=>False):=
 KC (K:=K) (mf:=m5) (H:=H) (a:=a) (ns:=ns) jr (KD ns) (fun _ _ _=>False)
theorem PO {l:PySem.W.OpenLaw} {q:Program} {loose:List Str} {nN:(Str→Option Value)→Heap→Prop} {lu:World→Heap→Prop} {d:DefRec} {K:Params→PySem.W.Frag} (aI:l.most=some 63) (pT:d.params.defaults=[])(vG:∀(w:World)(h:Heap),lu w h→(K w.params).In h)(F:∀(w:World)(mg:Str→Option Value)(eD:Addr)(h:Heap),(K w.params).In h→h.Ns mainGlobals mg→mg d.name=some (.ref eD)→
    ∃fd:FuncData,(∀(s:Shared)(u:Value),BindsTo s fd ⟨[u],[]⟩ [("_law_script",u)])∧∀base:Heap,(K w.params).In base→base.Ns mainGlobals mg→fM l.prog w (K w.params) mg base gU 9 eD fd ["_law_script"] (iD (K w.params) 1 m5)) :
  PySem.W.WalkO q loose nN lu l.row.toRowW d [] (fun f vs=>PySem.call f vs):=
 aV.PQ (n:=63) (k:=9) (x:="_law_script") (CX:=fun _=>gU) (sp:=fun w=>iD (K w.params) 1 m5) aI (by decide) pT ⟨rfl,by decide,by decide⟩ vG F (fun w H a ns _ _ jr=>KG (K w.params) H a ns jr) fun _ _ _ _ _ z=>z
end cv
end
namespace PySem.W.Fast
theorem tw6424012139306004872 : True := trivial
theorem tw14526728809137535405 : True := trivial
theorem tw17696898409169853262 : True := trivial
theorem tw6235739653647582273 : True := trivial
theorem tw12034767584762957096 : True := trivial
theorem tw7106987889401731606 : True := trivial
theorem tw15297420457095338668 : True := trivial
theorem tw7938588855834889826 : True := trivial
theorem tw2054389883694408334 : True := trivial
theorem tw15612903824097307865 : True := trivial
theorem tw8406656579184507598 : True := trivial
theorem tw2949817112159575895 : True := trivial
theorem tw325407498756447179 : True := trivial
theorem tw9851219565423424891 : True := trivial
theorem tw2394449611967684523 : True := trivial
theorem tw11167588069670746601 : True := trivial
theorem tw2036513333931191902 : True := trivial
theorem tw7970310937945963294 : True := trivial
theorem tw1450325709938779974 : True := trivial
theorem tw16931418701264561708 : True := trivial
theorem tw8525773950999957265 : True := trivial
theorem tw9564209007062350998 : True := trivial
theorem tw18179352631627008316 : True := trivial
theorem tw5303012292911358773 : True := trivial
theorem tw7966654798360791377 : True := trivial
theorem tw5074909667345116187 : True := trivial
theorem tw1590026466583261289 : True := trivial
theorem tw8703271794450760842 : True := trivial
theorem tw7037183376296261617 : True := trivial
theorem tw10682280413946820376 : True := trivial
theorem tw8962658262171617585 : True := trivial
theorem tw9600568719849750310 : True := trivial
theorem tw6193322945857084908 : True := trivial
theorem tw18193423471488345797 : True := trivial
theorem tw11909681143590432990 : True := trivial
theorem tw14208800450001155202 : True := trivial
theorem tw9879768610523078577 : True := trivial
theorem tw13875270924349346487 : True := trivial
theorem tw7582504868113484536 : True := trivial
theorem tw15217426934981681580 : True := trivial
theorem tw6665261806551898476 : True := trivial
theorem tw8109514668174037194 : True := trivial
theorem tw18182822723929453263 : True := trivial
theorem tw13010733279784803951 : True := trivial
theorem tw18250983670805753652 : True := trivial
theorem tw5302459877426052557 : True := trivial
theorem tw15584042865960472302 : True := trivial
theorem tw6840529716500630509 : True := trivial
theorem tw18270071530065578335 : True := trivial
theorem tw14070655217576680224 : True := trivial
theorem tw11099562298644289279 : True := trivial
theorem tw9339245376721424570 : True := trivial
theorem tw4000400259735122209 : True := trivial
theorem tw16743566299909170800 : True := trivial
theorem tw15130291536903992627 : True := trivial
theorem tw8955860033798372425 : True := trivial
theorem tw3024578805977548362 : True := trivial
theorem tw12883977729636676780 : True := trivial
theorem tw892078505590063936 : True := trivial
theorem tw18009754324208029680 : True := trivial
theorem tw4588689046010217682 : True := trivial
theorem tw14971544169113283464 : True := trivial
theorem tw8035459026214047465 : True := trivial
end PySem.W.Fast
open PySem PySem.W PyProof.Rows
set_option maxRecDepth 100000 in
set_option maxHeartbeats 0 in
theorem PySem.Challenge.cw_nohalfway_k02_nets_holds : PySem.Challenge.rw_nohalfway_k02_nets.Holds := by
 w_on;o_law;k_head;(case hw=>w_witness2)
 k_fill
 refine cv.PO (l:=PySem.Challenge.rw_nohalfway_k02_nets) rfl rfl (fun w h Y=>PySem.W.kIn_of Y) ?F
 case F=>
  intro w mg eD h ji G pU
  refine' cv.all_mk ji G pU ?h26 (cv.Pt ji G ?n_Net ?g1_Net ?g2_Net ?g3_Net ?g4_Net ?u_Net_many ?u_Net_counts ?u_Net_joined ?u_Net_far ?mk_Net ?kc_Net ?n_NoNet ?ct_NoNet ?e1_NoNet ?ga_NoNet ?gn_NoNet ?cl_NoNet ?sb_NoNet ?mo_NoNet ?spc0 ?tkc0 ?n_NoAddress ?ki_NoNet_NoAddress ?n_NoBooks ?ki_NoNet_NoBooks ?n_NoDoor ?ki_NoNet_NoDoor ?n_NoMove ?ki_NoNet_NoMove ?ki_NoNet_NoNet ?n_NoPlan ?ki_NoNet_NoPlan ?n_NoRow ?ki_NoNet_NoRow ?n_NoSaying ?ki_NoNet_NoSaying ?n_NoText ?ki_NoNet_NoText ?ki_NoNet_ValueError ?n_WayError ?em_NoNet_WayError ?h0 ?h1 ?h2 ?h3 ?h4 ?h5 ?h6 ?h7 ?h8 ?h9 ?h10 ?h11 ?h12 ?h13 ?h14 ?h15 ?h16 ?h17 ?h18 ?h19 ?h20 ?h21 ?h22 ?h23 ?h24 ?h25 ?h26 ?z_ValueError ?z_all ?z_bool ?z_enumerate ?z_int ?z_isinstance ?z_len ?z_list ?z_range ?z_sorted ?z_tuple ?z_MOST_DOORS ?z_MOST_HOUSES)
  (case n_Net=>k_is)
  (case g1_Net=>k_is)
  (case g2_Net=>k_is)
  (case g3_Net=>k_is)
  (case g4_Net=>k_is)
  (case u_Net_many=>k_is)
  (case u_Net_counts=>k_is)
  (case u_Net_joined=>k_is)
  (case u_Net_far=>k_is)
  (case mk_Net=>k_is)
  (case kc_Net=>k_is)
  (case n_NoNet=>k_is)
  (case ct_NoNet=>k_is)
  (case e1_NoNet=>k_exc)
  (case ga_NoNet=>k_is)
  (case gn_NoNet=>k_is)
  (case cl_NoNet=>k_is)
  (case sb_NoNet=>k_is)
  (case mo_NoNet=>k_is)
  (case spc0=>k_is)
  (case tkc0=>k_is)
  (case n_NoAddress=>k_is)
  (case ki_NoNet_NoAddress=>kit_is)
  (case n_NoBooks=>k_is)
  (case ki_NoNet_NoBooks=>kit_is)
  (case n_NoDoor=>k_is)
  (case ki_NoNet_NoDoor=>kit_is)
  (case n_NoMove=>k_is)
  (case ki_NoNet_NoMove=>kit_is)
  (case ki_NoNet_NoNet=>kit_is)
  (case n_NoPlan=>k_is)
  (case ki_NoNet_NoPlan=>kit_is)
  (case n_NoRow=>k_is)
  (case ki_NoNet_NoRow=>kit_is)
  (case n_NoSaying=>k_is)
  (case ki_NoNet_NoSaying=>kit_is)
  (case n_NoText=>k_is)
  (case ki_NoNet_NoText=>kit_is)
  (case ki_NoNet_ValueError=>kit_is)
  (case n_WayError=>k_is)
  (case em_NoNet_WayError=>kts_exm)
  (case z_ValueError=>k_is)
  (case z_all=>k_is)
  (case z_bool=>k_is)
  (case z_enumerate=>k_is)
  (case z_int=>k_is)
  (case z_isinstance=>k_is)
  (case z_len=>k_is)
  (case z_list=>k_is)
  (case z_range=>k_is)
  (case z_sorted=>k_is)
  (case z_tuple=>k_is)
  (case z_MOST_DOORS=>k_is)
  (case z_MOST_HOUSES=>k_is)
  (case h0=>(refine' cv.fo ?a ?l ?c ?k;(case a=>k_is);(case l=>k_is);(case c=>k_is);(case k=>k_is)))
  (case h1=>(refine' cv.fo ?a ?l ?c ?k;(case a=>k_is);(case l=>k_is);(case c=>k_is);(case k=>k_is)))
  (case h2=>(refine' cv.fo ?a ?l ?c ?k;(case a=>k_is);(case l=>k_is);(case c=>k_is);(case k=>k_is)))
  (case h3=>(refine' cv.fo ?a ?l ?c ?k;(case a=>k_is);(case l=>k_is);(case c=>k_is);(case k=>k_is)))
  (case h4=>(refine' cv.fo ?a ?l ?c ?k;(case a=>k_is);(case l=>k_is);(case c=>k_is);(case k=>k_is)))
  (case h5=>(refine' cv.fo ?a ?l ?c ?k;(case a=>k_is);(case l=>k_is);(case c=>k_is);(case k=>k_is)))
  (case h6=>(refine' cv.fo ?a ?l ?c ?k;(case a=>k_is);(case l=>k_is);(case c=>k_is);(case k=>k_is)))
  (case h7=>(refine' cv.fo ?a ?l ?c ?k;(case a=>k_is);(case l=>k_is);(case c=>k_is);(case k=>k_is)))
  (case h8=>(refine' cv.fo ?a ?l ?c ?k;(case a=>k_is);(case l=>k_is);(case c=>k_is);(case k=>k_is)))
  (case h9=>(refine' cv.fo ?a ?l ?c ?k;(case a=>k_is);(case l=>k_is);(case c=>k_is);(case k=>k_is)))
  (case h10=>(refine' cv.fo ?a ?l ?c ?k;(case a=>k_is);(case l=>k_is);(case c=>k_is);(case k=>k_is)))
  (case h11=>(refine' cv.fo ?a ?l ?c ?k;(case a=>k_is);(case l=>k_is);(case c=>k_is);(case k=>k_is)))
  (case h12=>(refine' cv.m6 ?a ?l ?c ?k ?i;(case a=>k_is);(case l=>k_is);(case c=>k_is);(case k=>k_is);(case i=>k_is)))
  (case h13=>(refine' cv.fo ?a ?l ?c ?k;(case a=>k_is);(case l=>k_is);(case c=>k_is);(case k=>k_is)))
  (case h14=>(refine' cv.m6 ?a ?l ?c ?k ?i;(case a=>k_is);(case l=>k_is);(case c=>k_is);(case k=>k_is);(case i=>k_is)))
  (case h15=>(refine' cv.m6 ?a ?l ?c ?k ?i;(case a=>k_is);(case l=>k_is);(case c=>k_is);(case k=>k_is);(case i=>k_is)))
  (case h16=>(refine' cv.fo ?a ?l ?c ?k;(case a=>k_is);(case l=>k_is);(case c=>k_is);(case k=>k_is)))
  (case h17=>(refine' cv.m6 ?a ?l ?c ?k ?i;(case a=>k_is);(case l=>k_is);(case c=>k_is);(case k=>k_is);(case i=>k_is)))
  (case h18=>(refine' cv.m6 ?a ?l ?c ?k ?i;(case a=>k_is);(case l=>k_is);(case c=>k_is);(case k=>k_is);(case i=>k_is)))
  (case h19=>(refine' cv.m6 ?a ?l ?c ?k ?i;(case a=>k_is);(case l=>k_is);(case c=>k_is);(case k=>k_is);(case i=>k_is)))
  (case h20=>(refine' cv.m6 ?a ?l ?c ?k ?i;(case a=>k_is);(case l=>k_is);(case c=>k_is);(case k=>k_is);(case i=>k_is)))
  (case h21=>(refine' cv.fo ?a ?l ?c ?k;(case a=>k_is);(case l=>k_is);(case c=>k_is);(case k=>k_is)))
  (case h22=>(refine' cv.fo ?a ?l ?c ?k;(case a=>k_is);(case l=>k_is);(case c=>k_is);(case k=>k_is)))
  (case h23=>(refine' cv.fo ?a ?l ?c ?k;(case a=>k_is);(case l=>k_is);(case c=>k_is);(case k=>k_is)))
  (case h24=>(refine' cv.fo ?a ?l ?c ?k;(case a=>k_is);(case l=>k_is);(case c=>k_is);(case k=>k_is)))
  (case h25=>(refine' cv.fo ?a ?l ?c ?k;(case a=>k_is);(case l=>k_is);(case c=>k_is);(case k=>k_is)))
  (case h26=>(refine' cv.fo ?a ?l ?c ?k;(case a=>k_is);(case l=>k_is);(case c=>k_is);(case k=>k_is)))
