import PyProof.Rows.All
import Wide.All
import OpenK.AllK
import Wide.FinOn
import Lean
import PyProof.EqAt
import PyProof.EqKinds
import PyProof.TupleCall
import PyProof.NeKinds
import KE.KIsAll
import PyProof.ExcArgsOwn
import PySem.SetOps
import PyProof.TupleKey
import PyProof.SetKind
import PyProof.IsRules
import PyProof.Rows.SetFrom
import PyProof.Rows.SortShellK
import PyProof.DictKinds
import PyProof.FactsAll.tuple_2
import PyProof.SetRoads
import PyProof.AutoListH
import PyProof.SumAny
import KE.RegKIsAll
import KE.RegKTryMore
import PySem.Challenge.RW_nohalfway_k23_whole_plain_plan
set_option Elab.async false
set_option linter.all false
set_option maxRecDepth 100000
noncomputable section
namespace aX
open PySem PySem.Spec PyProof.Rows
abbrev Key:=Sum Int Str
def q5:Key→Value→Bool
 |.inl k,v=>Value.isInt k v
 |.inr x,v=>Value.isStrOf x v
def Rc(w:World):Key→Int
 |.inl k=>hashInt k
 |.inr x=>hashStr w x
theorem mK:∀{k:Key}{v:Value},q5 k v=true→(∃i t,k=Sum.inl i∧v=Value.int i t)∨(∃x t,k=Sum.inr x∧v=Value.str x t)
 |.inl i,v,h=>by obtain⟨t,e⟩:=Value.isInt_shape (k:=i) (v:=v) h;exact .inl ⟨i,t,rfl,e⟩
 |.inr x,v,h=>by obtain⟨t,e⟩:=Value.isStrOf_shape (x:=x) (v:=v) h;exact .inr ⟨x,t,rfl,e⟩
theorem Rd(i:Int)(t:Tok):q5 (.inl i) (.int i t)=true:=by simp[q5,Value.isInt]
theorem Rf(x:Str)(t:Tok):q5 (.inr x) (.str x t)=true:=by simp[q5,Value.isStrOf]
theorem Rj(a b:Int):decide ((Sum.inl a:Key)=Sum.inl b)=(a==b):=by
 by_cases e:a=b
 ·subst e;simp
 ·have h:¬(Sum.inl a:Key)=Sum.inl b:=fun q=>e (Sum.inl.inj q);rw[decide_eq_false h];exact(beq_eq_false_iff_ne.mpr e).symm
theorem Rm(a b:Str):decide ((Sum.inr a:Key)=Sum.inr b)=decide (a=b):=by
 by_cases e:a=b
 ·subst e;simp
 ·have h:¬(Sum.inr a:Key)=Sum.inr b:=fun q=>e (Sum.inr.inj q);rw[decide_eq_false h,decide_eq_false e]
theorem Rk(a:Int)(b:Str):decide ((Sum.inl a:Key)=Sum.inr b)=false:=decide_eq_false (fun q=>nomatch q)
theorem Rl(a:Str)(b:Int):decide ((Sum.inr a:Key)=Sum.inl b)=false:=decide_eq_false (fun q=>nomatch q)
noncomputable def hW(prog:Program)(w:World):PySem.KeyKind prog w Key where
 is:=q5
 hash:=Rc w
 inj:=fun v a b ha hb=>by
  rcases mK ha with⟨i,t,rfl,rfl⟩|⟨x,t,rfl,rfl⟩
  ·rcases mK hb with⟨j,u,rfl,e⟩|⟨y,u,rfl,e⟩
   ·injection e with aq _;rw[aq]
   ·exact nomatch e
  ·rcases mK hb with⟨j,u,rfl,e⟩|⟨y,u,rfl,e⟩
   ·exact nomatch e
   ·injection e with aq _;rw[aq]
 byValue:=fun k v h=>by rcases mK h with⟨i,t,rfl,rfl⟩|⟨x,t,rfl,rfl⟩<;>rfl
 pyHash:=fun hv h=>by
  rcases mK hv with⟨i,t,rfl,rfl⟩|⟨x,t,rfl,rfl⟩
  ·exact wpAny_pyHash_int h
  ·exact wpAny_pyHash_str h
 eqBool:=fun hu hv h=>by
  rcases mK hu with⟨i,t,rfl,rfl⟩|⟨x,t,rfl,rfl⟩
  ·rcases mK hv with⟨j,u,rfl,rfl⟩|⟨y,u,rfl,rfl⟩
   ·rw[Rj]at h;exact wpAny_eqBool_int h
   ·rw[Rk]at h;exact SeqAt.EqAt.int_str i t y u _ _ _ _ h
  ·rcases mK hv with⟨j,u,rfl,rfl⟩|⟨y,u,rfl,rfl⟩
   ·rw[Rl]at h;exact SeqAt.EqAt.str_int x t j u _ _ _ _ h
   ·rw[Rm]at h;exact wpAny_eqBool_str h
 «strs»:=fun k x t v h=>by
  rcases mK h with⟨i,u,rfl,e⟩|⟨y,u,rfl,e⟩
  ·exact nomatch e
  ·injection e with aq _;subst aq;cases v<;>rfl
theorem SP(prog:Program)(w:World)(i:Int)(t:Tok):(hW prog w).is (.inl i) (.int i t)=true:=Rd i t
theorem SQ(prog:Program)(w:World)(x:Str)(t:Tok):(hW prog w).is (.inr x) (.str x t)=true:=Rf x t
inductive V where
 |non|ax (b:Bool)|int (i:Int)|str (x:Str)|lN (b:Array UInt8)|vb (b:UInt64)|ref (a:Addr)|ty (n:String)
 deriving DecidableEq
noncomputable def RelV:V→Value→Prop
 |.non,u=>u=Value.none
 |.ax b,u=>u=Value.bool b
 |.int i,u=>∃t,u=Value.int i t
 |.str x,u=>∃t,u=Value.str x t
 |.lN b,u=>∃t,u=Value.bytes b t
 |.vb b,u=>∃t,u=Value.float b t
 |.ref a,u=>u=Value.ref a
 |.ty n,u=>u=Value.type n
abbrev Vals:List V→List Value→Prop:=Paired RelV
theorem Vals.length{xs:List V}{us:List Value}(r:Vals xs us):xs.length=us.length:=Paired.length r
theorem Vals.get:∀{xs:List V}{us:List Value}{i:Nat}{x:V},Vals xs us→xs[i]?=some x→∃u,us[i]?=some u∧RelV x u
 |_,_,_,_,.nil,e=>by simp at e
 |_,_,0,_,.cons r _,e=>by simp at e;subst e;exact⟨_,rfl,r⟩
 |_,_,i+1,x,.cons _ t,e=>by obtain⟨u,h1,h2⟩:=Vals.get (i:=i) (x:=x) t (by simpa using e);exact⟨u,by simpa using h1,h2⟩
theorem Vals.set{x:V}{u:Value}(r:RelV x u):∀{xs:List V}{us:List Value}(i:Nat),Vals xs us→Vals (xs.set i x) (us.set i u)
 |_,_,_,.nil=>.nil
 |_,_,0,.cons _ t=>.cons r t
 |_,_,i+1,.cons q t=>.cons q (Vals.set r i t)
theorem Vals.append:∀{xs ys:List V}{us ws:List Value},Vals xs us→Vals ys ws→Vals (xs++ys) (us++ws)
 |_,_,_,_,.nil,s=>s
 |_,_,_,_,.cons r t,s=>.cons r (Vals.append t s)
theorem Vals.take:∀{xs:List V}{us:List Value}(n:Nat),Vals xs us→Vals (xs.take n) (us.take n)
 |_,_,0,_=>.nil
 |_,_,_+1,.nil=>.nil
 |_,_,n+1,.cons r t=>.cons r (Vals.take n t)
theorem Vals.drop:∀{xs:List V}{us:List Value}(n:Nat),Vals xs us→Vals (xs.drop n) (us.drop n)
 |_,_,0,r=>r
 |_,_,_+1,.nil=>.nil
 |_,_,n+1,.cons _ t=>Vals.drop n t
def ia:Option V→Option Value→Prop
 |some v,some u=>RelV v u
 |none,none=>True
 |_,_=>False
def gp{κ:Type}:List (κ×V)→List (κ×Value)→Prop:=Paired fun(p:κ×V)(q:κ×Value)=>p.1=q.1∧RelV p.2 q.2
def cM:Key→V
 |.inl i=>.int i
 |.inr x=>.str x
inductive dK where
 |lst (xs:List V)
 |tup (xs:List V)
 |dm (aV:List (Key×V))|bK (aV:List (List Key×V))
 |set (S:Int→Bool) (n:Nat)
 |ins (C a5:Addr) (aI:List (Str×V))
 |own (x:Addr)
 |xg (aI:List (Str×V))
 |met (f x:Addr)
 |pX (lo hi:Int)
 |jG (o:Obj) (u:dK)
 |oy (ps:Array Value)
 |ext (qq:Heap→Prop)
abbrev ai:=Addr→Option dK
def upd(H:ai)(a:Addr)(o:dK):ai:=fun b=>if b=a then some o else H b
theorem eB{H:ai}{a:Addr}{o:dK}:upd H a o a=some o:=by unfold upd;rw[if_pos rfl]
theorem dJ{H:ai}{a b:Addr}{o:dK}(h:b≠a):upd H a o b=H b:=by unfold upd;rw[if_neg h]
theorem S_{H:ai}{a b:Addr}{o u:dK}(h:H a=some o)(h':H b=some u)(d:o≠u):a≠b:=by intro e;subst e;rw[h]at h';exact d (Option.some.inj h')
theorem jk{H:ai}{a b:Addr}{o:dK}(h:H a=some o)(h':H b=none):a≠b:=by intro e;subst e;rw[h]at h';cases h'
section
variable(P:Program)(w:World)
noncomputable def e5(H:ai)(h:Heap)(a:Addr):dK→Prop
 |.lst xs=>xs.length≤sizeLine∧∃(its:List Value)(n:Nat),Vals xs its∧h.get? a=some { cls:=.type "list",data:=.seq its.toArray n }
 |.tup xs=>xs.length≤sizeLine∧∃its:List Value,Vals xs its∧IsTup h a its.toArray
 |.dm aV=>aV.length≤sizeLine∧(a==sysModules)=false∧∃vs,gp aV vs∧h.DictOf (hW P w) a vs
 |.bK aV=>aV.length≤sizeLine∧(a==sysModules)=false∧∃xs:List (List Key×Addr×Value),
     Paired (fun(p:List Key×V)(q:List Key×Addr×Value)=>p.1=q.1∧H q.2.1=some (.tup (p.1.map cM))∧RelV p.2 q.2.2) aV xs∧
     ∃o es cz,h.get? a=some o∧o.ExactDict∧o.data=.dict es cz∧es.toList=xs.map (entryOfKey (tupleKind (hW P w)))∧(xs.map (·.1)).Nodup
 |.set S n=>h.SetOf (intKind P w) a S n
 |.ins C a5 aI=>H a5=some (.own a)∧aI.length≤1000∧a5≠a∧h.get? a=some (PySem.W.instObj C a5)∧
     ∃dV,h.Ns1 a5 dV∧(∀f,ia (aI.lookup f) (dV f))∧PySem.Within dV (aI.map (·.1))
 |.own _=>∃o,h.get? a=some o
 |.xg aI=>∃dV,h.Ns1 a dV∧∀f,ia (aI.lookup f) (dV f)
 |.pX lo hi=>∃t u v,h.get? a=some { cls:=.type "range",data:=.fields #[.int lo t,.int hi u,.int 1 v] }
 |.jG o u=>h.get? a=some o∧e5 H h a u
 |.oy ps=>h.get? a=some { cls:=.none,data:=.fields ps }
 |.met f x=>h.get? a=some (PySem.W.methodObj (.ref f) (.ref x))
 |.ext qq=>qq h∧(∃o,h.get? a=some o)∧∀h1 h2:Heap,qq h1→(∀o,h1.get? a=some o→h2.get? a=some o)→qq h2
def ee(H:ai)(h:Heap):Prop:=∀a o,H a=some o→e5 P w H h a o
end
section
variable{P:Program}{w:World}{H H':ai}{h h':Heap}{a:Addr}{o:dK}
theorem e5.lt(x:e5 P w H h a o):a<h.objs.size:=by
 cases o with
 |lst xs=>obtain⟨_,_,_,_,e⟩:=x;exact Heap.lt_size e
 |tup xs=>obtain⟨_,_,_,p⟩:=x;exact p.lt
 |dm aV=>obtain⟨_,_,_,_,o,_,_,e,_⟩:=x;exact Heap.lt_size e
 |bK aV=>obtain⟨_,_,_,_,o,_,_,e,_⟩:=x;exact Heap.lt_size e
 |set S n=>obtain⟨o,_,_,_,e,_⟩:=x;exact Heap.lt_size e
 |ins C a5 aI=>obtain⟨_,_,_,e,_⟩:=x;exact Heap.lt_size e
 |own y=>obtain⟨_,e⟩:=x;exact Heap.lt_size e
 |xg aI=>obtain⟨_,⟨_,_,_,e,_⟩,_⟩:=x;exact Heap.lt_size e
 |pX lo hi=>obtain⟨_,_,_,e⟩:=x;exact Heap.lt_size e
 |jG a4 u=>obtain⟨e,_⟩:=x;exact Heap.lt_size e
 |oy ps=>exact Heap.lt_size (show h.get? a=some _ from x)
 |met f y=>exact Heap.lt_size (show h.get? a=some _ from x)
 |ext qq=>obtain⟨_,⟨_,e⟩,_⟩:=x;exact Heap.lt_size e
theorem Paired.Ac{α β:Type}{F G:α→β→Prop}:∀{l₁:List α}{l₂:List β},Paired F l₁ l₂→(∀a b,F a b→G a b)→Paired G l₁ l₂
 |_,_,.nil,_=>.nil
 |_,_,.cons r t,f=>.cons (f _ _ r) (Paired.Ac t f)
theorem e5.m5(x:e5 P w H h a o)(k:∀b u,(b=a∨H b=some (.own a))→h.get? b=some u→h'.get? b=some u)(ho:∀b,H b=some (.own a)→H' b=some (.own a))(ht:∀b xs,H b=some (.tup xs)→H' b=some (.tup xs)):e5 P w H' h' a o:=by
 induction o with
 |lst xs=>obtain⟨z,its,n,r,e⟩:=x;exact⟨z,its,n,r,k _ _ (.inl rfl) e⟩
 |tup xs=>obtain⟨z,its,r,a4,e,c⟩:=x;exact⟨z,its,r,a4,k _ _ (.inl rfl) e,c⟩
 |dm aV=>obtain⟨z,y,vs,r,a4,es,cz,e,c⟩:=x;exact⟨z,y,vs,r,a4,es,cz,k _ _ (.inl rfl) e,c⟩
 |bK aV=>obtain⟨z,y,xs,r,a4,es,cz,e,c⟩:=x;exact⟨z,y,xs,Paired.Ac r fun p q z=>⟨z.1,ht _ _ z.2.1,z.2.2⟩,a4,es,cz,k _ _ (.inl rfl) e,c⟩
 |set S n=>obtain⟨a4,es,cz,t,e,c⟩:=x;exact⟨a4,es,cz,t,k _ _ (.inl rfl) e,c⟩
 |ins C a5 aI=>obtain⟨d,z,ne,e,dV,⟨dO,es,cz,az,c⟩,r⟩:=x;exact⟨ho _ d,z,ne,k _ _ (.inl rfl) e,dV,⟨dO,es,cz,k _ _ (.inr d) az,c⟩,r⟩
 |own y=>obtain⟨a4,e⟩:=x;exact⟨a4,k _ _ (.inl rfl) e⟩
 |xg aI=>obtain⟨dV,⟨dO,es,cz,e,c⟩,r⟩:=x;exact⟨dV,⟨dO,es,cz,k _ _ (.inl rfl) e,c⟩,r⟩
 |pX lo hi=>obtain⟨t,u,v,e⟩:=x;exact⟨t,u,v,k _ _ (.inl rfl) e⟩
 |jG a4 u bQ=>obtain⟨e,q⟩:=x;exact⟨k _ _ (.inl rfl) e,bQ q⟩
 |oy ps=>have e:h.get? a=some { cls:=.none,data:=.fields ps }:=x;show h'.get? a=some { cls:=.none,data:=.fields ps };exact k a _ (.inl rfl) e
 |met f y=>have e:h.get? a=some (PySem.W.methodObj (.ref f) (.ref y)):=x;show h'.get? a=some (PySem.W.methodObj (.ref f) (.ref y));exact k a _ (.inl rfl) e
 |ext qq=>obtain⟨p,⟨o,e⟩,st⟩:=x;exact⟨st _ _ p fun o q=>k _ _ (.inl rfl) q,⟨o,k _ _ (.inl rfl) e⟩,st⟩
theorem ee.lt(x:ee P w H h)(e:H a=some o):a<h.objs.size:=(x a o e).lt
theorem ee.fresh(x:ee P w H h)(e:h.objs.size≤a):H a=none:=by
 cases q:H a with
 |none=>rfl
 |some u=>exact absurd (Nat.lt_of_lt_of_le (x.lt q) e) (Nat.lt_irrefl _)
theorem ee.kept(x:ee P w H h)(k:∀b u,h.get? b=some u→h'.get? b=some u):ee P w H h':=fun a o e=>
 (x a o e).m5 (fun b u _ q=>k b u q) (fun _ q=>q) fun _ _ q=>q
theorem ee.laid(x:ee P w H h)(k:∀b u,h.get? b=some u→h'.get? b=some u)(hp:h.objs.size≤a)(new:e5 P w (upd H a o) h' a o):ee P w (upd H a o) h':=fun b u e=>by
 have aC:=x.fresh hp;by_cases hb:b=a
 ·subst hb;rw[eB]at e;cases e;exact new
 ·rw[dJ hb]at e;exact(x b u e).m5 (fun c v _ q=>k c v q) (fun c q=>by rw[dJ (jk q aC)];exact q) fun c xs q=>by rw[dJ (jk q aC)];exact q
end
def gq(H:ai)(a:Addr)(u:dK):Prop:=H a=some u∨∃o,H a=some (.jG o u)
theorem gq.ok{P:Program}{w:World}{H:ai}{h:Heap}{a:Addr}{u:dK}(r:gq H a u)(x:ee P w H h):e5 P w H h a u:=by
 rcases r with r|⟨o,r⟩
 ·exact x a u r
 ·obtain⟨_,q⟩:=x a _ r;exact q
noncomputable def r7:Option dK→Prop
 |some (.lst _)=>True
 |some (.dm _)=>True
 |some (.bK _)=>True
 |some (.set _ _)=>True
 |some (.ins _ _ _)=>True
 |some (.ext _)=>True
 |_=>False
section
variable{P:Program}{w:World}{H:ai}{h h':Heap}{x e:Addr}{bJ:dK}
theorem ee.write(ok:ee P w H h)(jj:r7 (H x))(he:e=x∨H e=some (.own x))(k:∀b u,b≠e→h.get? b=some u→h'.get? b=some u)(qX:∃u,h'.get? e=some u)(new:e5 P w (upd H x bJ) h' x bJ):ee P w (upd H x bJ) h':=fun b u q=>by
 have HT:∀c y,H c=some (.own y)→c≠x:=fun c y r z=>by subst z;rw[r]at jj;exact jj
 have Tr:∀c xs,H c=some (.tup xs)→c≠x:=fun c xs r z=>by subst z;rw[r]at jj;exact jj
 by_cases hb:b=x
 ·subst hb;rw[eB]at q;cases q;exact new
 ·rw[dJ hb]at q;by_cases lR:b=e
  ·have dR:H b=some (.own x):=by
     rcases he with z|z
     ·exact absurd (lR.trans z) hb
     ·rw[lR];exact z
   rw[q]at dR;cases dR;obtain⟨v,hv⟩:=qX;exact⟨v,by rw[lR];exact hv⟩
  ·refine(ok b u q).m5 (fun c v hc r=>k c v ?_ r) (fun c r=>by rw[dJ (HT c b r)];exact r) fun c xs r=>by rw[dJ (Tr c xs r)];exact r
   rcases hc with rfl|hc
   ·exact lR
   ·rintro rfl;rcases he with z|z
    ·exact HT c b hc z
    ·rw[hc]at z;cases z;exact hb rfl
end
structure e6(aI ex:List Addr)(H H':ai)(h h':Heap):Prop where
 keep:∀b o,h.get? b=some o→H b=none→b∉aI→b∉ex→h'.get? b=some o
 slot:∀b o,h.get? b=some o→H b=none→b∈aI→b∉ex→∃cF,h'.get? b=some { o with slots:=cF }
 free:∀b o,h.get? b=some o→H b=none→b∉ex→H' b=none
 there:∀b o,h.get? b=some o→b∉ex→∃bJ,h'.get? b=some bJ
 iY:∀b xs,H b=some (.tup xs)→H' b=some (.tup xs)
 ie:∀b o u,H b=some (.jG o u)→H' b=some (.jG o u)
 iX:∀b ps,H b=some (.oy ps)→∃more,H' b=some (.oy (ps++more))
section
variable{aI FW ex EE:List Addr}{H H1 a9:ai}{h h1 h2 h':Heap}{a x e:Addr}{o:dK}
theorem e6.any(u:e6 aI ex H H1 h h1){b:Addr}{a4:Obj}(q:h.get? b=some a4)(n:H b=none)(hx:b∉ex):∃cF,h1.get? b=some { a4 with slots:=cF }:=by
 by_cases hb:b∈aI
 ·exact u.slot b a4 q n hb hx
 ·exact⟨a4.slots,u.keep b a4 q n hb hx⟩
theorem e6.trans(a:e6 aI ex H H1 h h1)(b:e6 aI ex H1 a9 h1 h2):e6 aI ex H a9 h h2 where
 keep:=fun c a4 q n hc hx=>b.keep c a4 (a.keep c a4 q n hc hx) (a.free c a4 q n hx) hc hx
 slot:=fun c a4 q n hc hx=>by obtain⟨cF,aq⟩:=a.slot c a4 q n hc hx;obtain⟨BZ,az⟩:=b.slot c _ aq (a.free c a4 q n hx) hc hx;exact⟨BZ,az⟩
 free:=fun c a4 q n hx=>by obtain⟨bJ,aq⟩:=a.there c a4 q hx;exact b.free c bJ aq (a.free c a4 q n hx) hx
 there:=fun c a4 q hx=>by obtain⟨bJ,aq⟩:=a.there c a4 q hx;exact b.there c bJ aq hx
 iY:=fun c xs q=>b.iY c xs (a.iY c xs q)
 ie:=fun c a4 xs q=>b.ie c a4 xs (a.ie c a4 xs q)
 iX:=fun c ps q=>by obtain⟨m1,aq⟩:=a.iX c ps q;obtain⟨m2,az⟩:=b.iX c _ aq;exact⟨m1++m2,by rw[az,Array.append_assoc]⟩
theorem e6.kept(k:∀b u,h.get? b=some u→h'.get? b=some u):e6 aI ex H H h h':=
 ⟨fun b a4 q _ _ _=>k b a4 q,fun b a4 q _ _ _=>⟨a4.slots,k b a4 q⟩,fun _ _ _ n _=>n,fun b a4 q _=>⟨a4,k b a4 q⟩,fun _ _ q=>q,fun _ _ _ q=>q,fun _ ps q=>⟨#[],by rw[q];simp⟩⟩
theorem e6.refl:e6 aI ex H H h h:=e6.kept fun _ _ q=>q
theorem e6.laid(k:∀b u,h.get? b=some u→h'.get? b=some u)(hp:h.objs.size≤a)(aC:H a=none):e6 aI ex H (upd H a o) h h' where
 keep:=fun b u q _ _ _=>k b u q
 slot:=fun b u q _ _ _=>⟨u.slots,k b u q⟩
 free:=fun b u q n _=>by rw[dJ (Nat.ne_of_lt (Nat.lt_of_lt_of_le (Heap.lt_size q) hp))];exact n
 there:=fun b u q _=>⟨u,k b u q⟩
 iY:=fun b xs q=>by rw[dJ (jk q aC)];exact q
 ie:=fun b u xs q=>by rw[dJ (jk q aC)];exact q
 iX:=fun b ps q=>⟨#[],by rw[dJ (jk q aC),q];simp⟩
theorem e6.write(jj:r7 (H x))(he:e=x∨H e=some (.own x))(k:∀b u,b≠e→h.get? b=some u→h'.get? b=some u)(qX:∃u,h'.get? e=some u):e6 aI ex H (upd H x o) h h':=by
 have hx:∀b,H b=none→b≠x:=fun b n z=>by subst z;rw[n]at jj;exact jj
 have hb:∀b,H b=none→b≠e:=fun b n z=>by
  subst z;rcases he with r|r
  ·exact hx b n r
  ·rw[n]at r;cases r
 have hm:∀b u,H b=some u→¬r7 (some u)→b≠x:=fun b u q nm z=>by subst z;rw[q]at jj;exact nm jj
 refine⟨fun b u q n _ _=>k b u (hb b n) q,fun b u q n _ _=>⟨u.slots,k b u (hb b n) q⟩,fun b u q n _=>by rw[dJ (hx b n)];exact n,fun b u q _=>?_,
  fun b xs q=>by rw[dJ (hm b _ q fun z=>z)];exact q,fun b u xs q=>by rw[dJ (hm b _ q fun z=>z)];exact q,fun b ps q=>⟨#[],by rw[dJ (hm b _ q fun z=>z),q];simp⟩⟩
 by_cases lR:b=e
 ·subst lR;exact qX
 ·exact⟨u,k b u lR q⟩
end
def w7(h:Heap)(H:ai):List Addr:=(List.range h.objs.size).filter fun a=>(H a).isSome
def mH(h:Heap)(H:ai):Heap:=PySem.W.hideAll h (w7 h H)
theorem OZ(h:Heap)(H:ai):(mH h H).objs.size=h.objs.size:=PySem.W.hideAll_size _ _
theorem OY{h:Heap}{H:ai}{b:Addr}{o:Obj}(e:h.get? b=some o)(n:H b=none):(mH h H).get? b=some o:=
 PySem.W.hideAll_get _ e fun hm=>by have q:(H b).isSome=true:=(List.mem_filter.mp hm).2;rw[n]at q;simp at q
theorem TF{h:Heap}{H:ai}{b:Addr}{o:Obj}(e:(mH h H).get? b=some o):h.get? b=some o∧H b=none:=by
 have b6:h.get? b=some o:=PySem.W.of_hideAll (w7 h H) e;refine⟨b6,?_⟩;cases q:H b with
 |none=>rfl
 |some x=>have hm:b∈w7 h H:=List.mem_filter.mpr ⟨List.mem_range.mpr (Heap.lt_size b6),by simp[q]⟩;have z:(mH h H).get? b=none:=PySem.W.hideAll_none (w7 h H) hm;rw[z]at e;cases e
noncomputable def Ll(g h:Heap)(L:Addr):List (Addr×Obj):=(List.range h.objs.size).filterMap fun a=>if a=L∨(g.get? a).isSome=true then none else(h.get? a).map fun o=>(a,o)
def rest(g h:Heap)(L d:Addr):List (Addr×Obj):=(Ll g h L).filter fun p=>decide (p.1≠d)
structure Mod(K:PySem.W.Frag)(mg:Str→Option Value)(base:Heap):Prop where
 n3:K.In base
 glob:base.Ns mainGlobals mg
 blt:∃fC,base.Ns builtinsNs fC∧∀x:Str,x≠"__name__"→fC x=bootBuiltins x
 nolimit:base.NoLimit
structure aM where
 prog:Program
 w:World
 K:PySem.W.Frag
 mg:Str→Option Value
 base:Heap
 A:Around
 N:List Str
 fh:Shared
 oN:ai
 env:Env
 outer:List Env
 stack:List Env
 ex:List Addr
 fn:Str→Bool
 calm:Bool
 oh:List (Addr×Obj)
 xe:Value→Shared→Prop
def en(l:List Env):List Addr:=l.filterMap (·.frame)
abbrev aM.aI(X:aM):List Addr:=en X.outer
noncomputable def gU(sc:Scope)(x:Str):Prop:=sc.names.lookup x=some .local∨sc.names.lookup x=some .cell∨sc.names.lookup x=some .free
def Loc(sc:Scope)(x:Str):Prop:=sc.names.lookup x=some .local∨sc.names.lookup x=some .cell
noncomputable def Look(env:Env)(h:Heap)(m:Str→Option Value)(x:Str)(u:Value):Prop:=
 (env.kindOf x=some .local∧m x=some u)∨((env.kindOf x=some .cell∨env.kindOf x=some .free)∧∃c,env.cells.lookup x=some c∧h.IsCell c (some u))
structure aM.Ok(X:aM):Prop where
 mod:Mod X.K X.mg X.base
 kind:X.env.scope.kind=.function
 glob:X.env.globals=mainGlobals
 blt:X.env.builtins=builtinsNs
 above:X.fh.heap.objs.size≤X.env.locals
 inj:∀x y c,X.env.cells.lookup x=some c→X.env.cells.lookup y=some c→x=y
 has:∀x,(X.env.kindOf x=some .cell∨X.env.kindOf x=some .free)→∃c,X.env.cells.lookup x=some c
 sf:∀x c,X.fn x=true→X.env.cells.lookup x=some c→X.fh.heap.objs.size≤c
 hd:X.calm=true→X.A.handled=none
 frames:X.A.frames=some X.stack
 wR:X.stack=X.outer∨(X.stack=X.env::X.outer∧X.env.frame=some X.env.locals)
 EI:∀b∈X.ex,b≠X.env.locals∧∀x c,X.env.cells.lookup x=some c→c≠b
 bs:∀b o,X.base.get? b=some o→X.fh.heap.get? b=some o∧X.oN b=none
 nL:X.base.objs.size≤X.fh.heap.objs.size
 pR:∀b o,X.base.get? b=some o→b∉X.ex
 u_:∀b∈X.ex,b∉X.aI
 je:X.fh.heap.FunFrames X.base X.outer
 ph:∀b∈X.aI,X.oN b=none
structure Inv(X:aM)(pins:List (Addr×Obj))(σ :List (Option V))(H:ai)(s:Shared):Prop where
 ok:X.Ok
 os:s.os=X.fh.os
 bare:AllBare s.gens
 base:e6 X.aI X.ex X.oN H X.fh.heap s.heap
 loc:∃m,s.heap.Ns X.env.locals m∧∀(i:Nat)(x:Str)(v:V),X.N[i]?=some x→ σ[i]?=some (some v)→gU X.env.scope x→∃u,RelV v u∧Look X.env s.heap m x u
 cell:∀x c,X.env.cells.lookup x=some c→∃v,s.heap.IsCell c v
 free:H X.env.locals=none
 lO:∀x c,X.env.cells.lookup x=some c→H c=none
 pin:∀p∈X.oh++pins,s.heap.get? p.1=some p.2∧H p.1=none∧p.1≠X.env.locals∧p.1∉X.aI∧∀v,p.2.data≠.cell v
 bF:ee X.prog X.w H s.heap
 len: σ.length=X.N.length
section
variable{X:aM}{pins:List (Addr×Obj)}{σ :List (Option V)}{H H':ai}{s:Shared}{h':Heap}
theorem aM.Ok.Ti(ok:X.Ok){b:Addr}{o:Obj}(e:X.base.get? b=some o):b∉X.aI:=fun hb=>by have:=(ok.je.mem hb).1;rw[e]at this;cases this
theorem Inv.bs(I:Inv X pins σ H s):∀b o,X.base.get? b=some o→s.heap.get? b=some o∧H b=none:=fun b o e=>
 ⟨I.base.keep b o (I.ok.bs b o e).1 (I.ok.bs b o e).2 (I.ok.Ti e) (I.ok.pR b o e),I.base.free b o (I.ok.bs b o e).1 (I.ok.bs b o e).2 (I.ok.pR b o e)⟩
theorem Inv.fG(I:Inv X pins σ H s):∀b o,X.base.get? b=some o→s.heap.get? b=some o:=fun b o e=>(I.bs b o e).1
theorem Inv.mod(I:Inv X pins σ H s):Mod X.K X.mg X.base:=I.ok.mod
theorem Inv.fJ(I:Inv X pins σ H s):X.K.In s.heap:=I.ok.mod.n3.keeps I.fG
theorem Inv.lt(I:Inv X pins σ H s):X.env.locals<s.heap.objs.size:=let⟨_,aC,_⟩:=I.loc;aC.lt
theorem Inv.p4(I:Inv X pins σ H s):X.fh.heap.objs.size≤s.heap.objs.size:=Nat.le_trans I.ok.above (Nat.le_of_lt I.lt)
theorem Inv.Tn(I:Inv X pins σ H s){a:Addr}(h:s.heap.objs.size≤a):a∉X.aI:=fun hb=>by obtain⟨_,o,ho,_⟩:=I.ok.je.mem hb;exact absurd (Nat.lt_of_lt_of_le (Heap.lt_size ho) (Nat.le_trans I.p4 h)) (Nat.lt_irrefl _)
theorem Inv.o2(I:Inv X pins σ H s):∀x c,X.env.cells.lookup x=some c→c≠X.env.locals:=fun x c e z=>by obtain⟨v,o,ho,hd⟩:=I.cell x c e;obtain⟨m,⟨bJ,es,cz,ho',hP,_⟩,_⟩:=I.loc;rw[z,ho']at ho;cases ho;rw[hP]at hd;cases hd
theorem Inv.je(I:Inv X pins σ H s):s.heap.FunFrames X.base X.outer:=by
 have all:∀(l:List Env),(∀b∈en l,b∈X.aI)→X.fh.heap.FunFrames X.base l→s.heap.FunFrames X.base l:=by
  intro l;induction l with
  |nil=>intro _ _;trivial
  |cons env r bQ=>intro hs hl;obtain⟨hk,⟨L,o,hf,aC,ho,hd⟩,hr⟩:=hl;have gh:L∈X.aI:=hs L (by unfold en;rw[List.filterMap_cons,hf];exact List.mem_cons_self);obtain⟨cF,e⟩:=I.base.slot L o ho (I.ok.ph L gh) gh fun z=>I.ok.u_ L z gh;exact⟨hk,⟨L,_,hf,aC,e,hd⟩,bQ (fun b hb=>hs b (by unfold en;rw[List.filterMap_cons,hf];exact List.mem_cons_of_mem _ hb)) hr⟩
 exact all X.outer (fun _ hb=>hb) I.ok.je
theorem Inv.stack(I:Inv X pins σ H s):s.heap.FunFrames X.base X.stack:=by
 rcases I.ok.wR with e|⟨e,hf⟩
 ·rw[e];exact I.je
 ·rw[e];obtain⟨m,aC,_⟩:=I.loc;refine .cons (by rw[I.ok.kind];decide) hf aC ?_ I.je;exact Heap.get?_none_of_le (Nat.le_trans I.ok.nL I.ok.above)
theorem Inv.wU(I:Inv X pins σ H s):∀b∈en X.stack,b∈X.env.locals::X.aI:=fun b hb=>by
 rcases I.ok.wR with e|⟨e,hf⟩
 ·rw[e]at hb;exact List.mem_cons_of_mem _ hb
 ·rw[e]at hb;unfold en at hb;rw[List.filterMap_cons,hf]at hb;exact hb
theorem Inv.B3(I:Inv X pins σ H s):∀b∈en X.stack,H b=none:=fun b hb=>by
 rcases List.mem_cons.mp (I.wU b hb)with e|hb
 ·rw[e];exact I.free
 ·obtain⟨_,o,ho,_⟩:=I.ok.je.mem hb;exact I.base.free b o ho (I.ok.ph b hb) fun z=>I.ok.u_ b z hb
theorem Inv.step{g':Array GenState}{t':Nat}{d':Drawn}{ch:List Addr}(I:Inv X pins σ H s)(lS:∀b∈ch,(b∈X.ex∨X.fh.heap.objs.size≤b)∧b≠X.env.locals∧(∀x c,X.env.cells.lookup x=some c→c≠b)∧∀p∈X.oh++pins,p.1≠b)(keep:∀b o,b≠X.env.locals→b∉X.aI→b∉ch→s.heap.get? b=some o→H b=none→h'.get? b=some o)(slot:∀b o,b≠X.env.locals→b∈X.aI→b∉ch→s.heap.get? b=some o→H b=none→∃cF,h'.get? b=some { o with slots:=cF })(free:∀b o,b∉ch→s.heap.get? b=some o→H b=none→H' b=none)(there:∀b o,b∉ch→s.heap.get? b=some o→∃bJ,h'.get? b=some bJ)(iY:∀b xs,H b=some (.tup xs)→H' b=some (.tup xs))(ie:∀b o u,H b=some (.jG o u)→H' b=some (.jG o u))(iX:∀b ps,H b=some (.oy ps)→∃more,H' b=some (.oy (ps++more)))(ns:∀m,s.heap.Ns X.env.locals m→h'.Ns X.env.locals m)(bF:ee X.prog X.w H' h')(hg:AllBare g') :
  Inv X pins σ H' { s with heap:=h',gens:=g',drawn:=d',toks:=t' }:=by
 have HH:∀b o,X.fh.heap.get? b=some o→b≠X.env.locals:=fun b o e=>Nat.ne_of_lt (Nat.lt_of_lt_of_le (Heap.lt_size e) I.ok.above);have v8:∀b o,X.fh.heap.get? b=some o→b∉X.ex→b∉ch:=fun b o e hx hb=>by
  rcases(lS b hb).1 with z|z
  ·exact hx z
  ·exact absurd (Nat.lt_of_lt_of_le (Heap.lt_size e) z) (Nat.lt_irrefl _)
 have cellK:∀x c,X.env.cells.lookup x=some c→∀v,s.heap.IsCell c v→h'.IsCell c v:=fun x c e v⟨o,ho,hd⟩=>by
  have tH:c∉ch:=fun z=>(lS c z).2.2.1 x c e rfl;by_cases hc:c∈X.aI
  ·obtain⟨cF,q⟩:=slot c o (I.o2 x c e) hc tH ho (I.lO x c e);exact⟨_,q,hd⟩
  ·exact⟨o,keep c o (I.o2 x c e) hc tH ho (I.lO x c e),hd⟩
 refine⟨I.ok,I.os,hg,⟨fun b o e n hb hx=>?_,fun b o e n hb hx=>?_,fun b o e n hx=>?_,fun b o e hx=>?_,fun b xs e=>iY b xs (I.base.iY b xs e),fun b o xs e=>ie b o xs (I.base.ie b o xs e),fun b ps e=>?_⟩,?_,fun x c e=>?_,?_,fun x c e=>?_,fun p hp=>?_,bF,I.len⟩
 ·exact keep b o (HH b o e) hb (v8 b o e hx) (I.base.keep b o e n hb hx) (I.base.free b o e n hx)
 ·obtain⟨cF,aq⟩:=I.base.slot b o e n hb hx;obtain⟨BZ,az⟩:=slot b _ (HH b o e) hb (v8 b o e hx) aq (I.base.free b o e n hx);exact⟨BZ,az⟩
 ·obtain⟨bJ,aq⟩:=I.base.there b o e hx;exact free b bJ (v8 b o e hx) aq (I.base.free b o e n hx)
 ·obtain⟨bJ,aq⟩:=I.base.there b o e hx;exact there b bJ (v8 b o e hx) aq
 ·obtain⟨m1,aq⟩:=I.base.iX b ps e;obtain⟨m2,az⟩:=iX b _ aq;exact⟨m1++m2,by rw[az,Array.append_assoc]⟩
 ·obtain⟨m,aC,hl⟩:=I.loc;refine⟨m,ns m aC,fun i x v aq az b7=>?_⟩;obtain⟨u,r,l⟩:=hl i x v aq az b7;refine⟨u,r,?_⟩;rcases l with l|⟨k,c,e,z⟩
  ·exact .inl l
  ·exact .inr ⟨k,c,e,cellK x c e _ z⟩
 ·obtain⟨v,z⟩:=I.cell x c e;exact⟨v,cellK x c e v z⟩
 ·obtain⟨m,⟨o,_,_,ho,_⟩,_⟩:=I.loc;exact free _ o (fun z=>(lS _ z).2.1 rfl) ho I.free
 ·obtain⟨v,o,ho,hd⟩:=I.cell x c e;exact free c o (fun z=>(lS c z).2.2.1 x c e rfl) ho (I.lO x c e)
 ·obtain⟨e,n,ne,g8,d⟩:=I.pin p hp;have tH:p.1∉ch:=fun z=>(lS p.1 z).2.2.2 p hp rfl;exact⟨keep p.1 p.2 ne g8 tH e n,free p.1 p.2 tH e n,ne,g8,d⟩
theorem Inv.un{t':Nat}(I:Inv X pins σ H s)(u:e6 X.aI [] H H' s.heap h')(bF:ee X.prog X.w H' h'):Inv X pins σ H' { s with heap:=h',toks:=t' }:=by
 obtain⟨m,⟨o,es,cz,ho,r⟩,_⟩:=id I.loc;obtain⟨cF,gh⟩:=u.any ho I.free (by simp);exact I.step (g':=s.gens) (d':=s.drawn) (ch:=[]) (fun _ z=>nomatch z) (fun b o _ hb _ e n=>u.keep b o e n hb (by simp)) (fun b o _ hb _ e n=>u.slot b o e n hb (by simp)) (fun b o _ e n=>u.free b o e n (by simp)) (fun b o _ e=>u.there b o e (by simp)) u.iY u.ie u.iX (fun c0 hm=>by obtain⟨bJ,es',pf,ho',bf⟩:=hm;rw[ho]at ho';cases ho';exact⟨_,es',pf,gh,bf⟩) bF I.bare
theorem Inv.call{g':Array GenState}{t':Nat}{d':Drawn}{ch:List Addr}(I:Inv X pins σ H s)(u:e6 (en X.stack) ch H H' s.heap h')(bF:ee X.prog X.w H' h')(hg:AllBare g')(lS:∀b∈ch,(b∈X.ex∨X.fh.heap.objs.size≤b)∧b≠X.env.locals∧(∀x c,X.env.cells.lookup x=some c→c≠b)∧∀p∈X.oh++pins,p.1≠b) :
  Inv X pins σ H' { s with heap:=h',gens:=g',drawn:=d',toks:=t' }:=by
 obtain⟨m,⟨o,es,cz,ho,r⟩,_⟩:=id I.loc;obtain⟨cF,gh⟩:=u.any ho I.free fun z=>(lS _ z).2.1 rfl;exact I.step (ch:=ch) lS (fun b o gh hb hc e n=>u.keep b o e n (fun z=>(List.mem_cons.mp (I.wU b z)).elim gh hb) hc) (fun b o _ _ hc e n=>u.any e n hc) (fun b o hc e n=>u.free b o e n hc) (fun b o hc e=>u.there b o e hc) u.iY u.ie u.iX (fun c0 hm=>by obtain⟨bJ,es',pf,ho',bf⟩:=hm;rw[ho]at ho';cases ho';exact⟨_,es',pf,gh,bf⟩) bF hg
theorem Inv.turned{t':Nat}{it:Addr}(I:Inv X pins σ H s)(k:∀b o,b≠it→s.heap.get? b=some o→h'.get? b=some o)(aC:H it=none)(gh:it≠X.env.locals)(h1:it∈X.ex∨X.fh.heap.objs.size≤it)(h2:∀x c,X.env.cells.lookup x=some c→c≠it)(h3:∀p∈X.oh++pins,p.1≠it):Inv X pins σ H { s with heap:=h',toks:=t' }:=by
 have oe:∀b u,H b=some u→b≠it:=fun b u e z=>by rw[z,aC]at e;cases e
 refine I.step (g':=s.gens) (d':=s.drawn) (ch:=[it]) (fun b hb=>?_) (fun b o _ _ hc e _=>k b o (fun z=>hc (by simp[z])) e) (fun b o _ _ hc e _=>⟨o.slots,k b o (fun z=>hc (by simp[z])) e⟩) (fun _ _ _ _ n=>n)
  (fun b o hc e=>⟨o,k b o (fun z=>hc (by simp[z])) e⟩) (fun _ _ e=>e) (fun _ _ _ e=>e) (fun b ps e=>⟨#[],by rw[e];simp⟩) (fun m hm=>?_) (fun b u e=>?_) I.bare
 ·have e:b=it:=by simpa using hb
  subst e;exact⟨h1,gh,h2,h3⟩
 ·obtain⟨o,es,cz,ho,r⟩:=hm;exact⟨o,es,cz,k _ o (Ne.symm gh) ho,r⟩
 ·refine(I.bF b u e).m5 (fun c v hc q=>k c v ?_ q) (fun _ q=>q) fun _ _ q=>q;rcases hc with z|z
  ·rw[z];exact oe b u e
  ·exact oe c _ z
theorem Inv.tok(I:Inv X pins σ H s)(t:Nat):Inv X pins σ H { s with toks:=t }:=I.un (h':=s.heap) (t':=t) e6.refl I.bF
theorem Inv.kept{t':Nat}(I:Inv X pins σ H s)(k:∀b u,s.heap.get? b=some u→h'.get? b=some u):Inv X pins σ H { s with heap:=h',toks:=t' }:=I.un (e6.kept k) (I.bF.kept k)
theorem Inv.laid{a:Addr}{o:dK}{t':Nat}(I:Inv X pins σ H s)(k:∀b u,s.heap.get? b=some u→h'.get? b=some u)(hp:s.heap.objs.size≤a)(new:e5 X.prog X.w (upd H a o) h' a o) :
  Inv X pins σ (upd H a o) { s with heap:=h',toks:=t' }:=I.un (e6.laid k hp (I.bF.fresh hp)) (I.bF.laid k hp new)
theorem Inv.write{x e:Addr}{o:dK}{t':Nat}(I:Inv X pins σ H s)(jj:r7 (H x))(he:e=x∨H e=some (.own x))(k:∀b u,b≠e→s.heap.get? b=some u→h'.get? b=some u)(qX:∃u,h'.get? e=some u)(new:e5 X.prog X.w (upd H x o) h' x o):Inv X pins σ (upd H x o) { s with heap:=h',toks:=t' }:=I.un (e6.write jj he k qX) (I.bF.write jj he k qX new)
theorem Inv.Im{Il:List (Addr×Obj)}(I:Inv X pins σ H s)(h:∀p∈Il,s.heap.get? p.1=some p.2∧H p.1=none∧p.1≠X.env.locals∧p.1∉X.aI∧∀v,p.2.data≠.cell v):Inv X Il σ H s:=
 ⟨I.ok,I.os,I.bare,I.base,I.loc,I.cell,I.free,I.lO,fun p hp=>(List.mem_append.mp hp).elim (fun z=>I.pin p (List.mem_append_left _ z)) (h p),I.bF,I.len⟩
theorem HO{N:List Str}(hN:N.Nodup){i j:Nat}{x:Str}(a:N[i]?=some x)(b:N[j]?=some x):i=j:=by obtain⟨h1,aq⟩:=List.getElem?_eq_some_iff.mp a;obtain⟨h2,az⟩:=List.getElem?_eq_some_iff.mp b;exact(List.getElem_inj hN).mp (aq.trans az.symm)
theorem Jr{M:Model}{A:Around}{E:Value→Shared→Prop}{i:Nat}{x:Str}{v:V}{u:Value}{Q:Unit→Shared→Prop}(I:Inv X pins σ H s)(hN:X.N.Nodup)(hi:X.N[i]?=some x)(hx:Loc X.env.scope x)(r:RelV v u)(h:∀s',Inv X pins (σ.set i (some v)) H s'→(∃a,Heap.SameBut a s.heap s'.heap∧(a=X.env.locals∨X.env.cells.lookup x=some a))→Q () s')(hf:X.fn x=true∨X.env.scope.names.lookup x=some .local:=by first|exact .inl rfl|exact .inr rfl|assumption):wpAny M A (storeName X.env x u) Q E s:=by
 obtain⟨m,aC,hl⟩:=id I.loc;have ON:(X.env.scope.kind==.class||(X.env.scope.kind==.module&&X.env.locals !=X.env.globals))=false:=by rw[I.ok.kind];rfl
 have hiσ :i< σ.length:=by rw[I.len];exact(List.getElem?_eq_some_iff.mp hi).1
 have o2:=I.o2;have tracked:∀{a:Addr}{h':Heap},(∃o,s.heap.get? a=some o∧H a=none)→Heap.SameBut a s.heap h'→ee X.prog X.w H h':=fun{a h'} ha hs b a4 e=>by
  obtain⟨_,_,vq⟩:=ha;refine(I.bF b a4 e).m5 (fun c fq hc q=>(hs.2 c ?_).trans q) (fun _ q=>q) fun _ _ q=>q;rintro rfl;rcases hc with rfl|hc
  ·rw[vq]at e;cases e
  ·rw[vq]at hc;cases hc
 rcases hx with hk|hk
 ·refine wpAny_storeName_local hk aC (fun h' Pc hs=>?_) ON;obtain⟨Tu,_,_,Pg,_⟩:=id aC;refine h _ ⟨I.ok,I.os,I.bare,⟨fun b o e n hb hx=>?_,fun b o e n hb hx=>?_,I.base.free,fun b o e hx=>?_,I.base.iY,I.base.ie,I.base.iX⟩,⟨_,Pc,fun j y oA aq az b7=>?_⟩,fun y c e=>?_,I.free,I.lO,fun p hp=>?_,tracked ⟨Tu,Pg,I.free⟩ hs,by simpa using I.len⟩ ⟨_,hs,.inl rfl⟩
  ·exact(hs.2 b (Nat.ne_of_lt (Nat.lt_of_lt_of_le (Heap.lt_size e) I.ok.above))).trans (I.base.keep b o e n hb hx)
  ·obtain⟨cF,aq⟩:=I.base.slot b o e n hb hx;exact⟨cF,(hs.2 b (Nat.ne_of_lt (Nat.lt_of_lt_of_le (Heap.lt_size e) I.ok.above))).trans aq⟩
  ·obtain⟨bJ,aq⟩:=I.base.there b o e hx;exact⟨bJ,(hs.2 b (Nat.ne_of_lt (Nat.lt_of_lt_of_le (Heap.lt_size e) I.ok.above))).trans aq⟩
  ·by_cases cg:j=i
   ·subst cg;rw[hi]at aq;cases aq;rw[List.getElem?_set_self hiσ]at az;cases az;exact⟨u,r,.inl ⟨hk,by simp⟩⟩
   ·rw[List.getElem?_set_ne (Ne.symm cg)]at az;obtain⟨iu,bf,q⟩:=hl j y oA aq az b7;refine⟨iu,bf,?_⟩;rcases q with⟨k,e⟩|⟨k,c,e,z⟩
    ·refine .inl ⟨k,?_⟩;have:y≠x:=fun e=>cg (HO hN aq (e▸hi));simp[this,e]
    ·exact .inr ⟨k,c,e,z.sameBut hs (o2 y c e)⟩
  ·obtain⟨fq,z⟩:=I.cell y c e;exact⟨fq,z.sameBut hs (o2 y c e)⟩
  ·obtain⟨e,n,ne,g8,d⟩:=I.pin p hp;exact⟨(hs.2 p.1 ne).trans e,n,ne,g8,d⟩
 ·have zq:X.fn x=true:=by
    rcases hf with z|z
    ·exact z
    ·rw[z]at hk;cases hk
  obtain⟨c,hc⟩:=I.ok.has x (.inl hk);obtain⟨fq,z⟩:=I.cell x c hc;refine wpAny_storeName_cell I.ok.kind hk hc z (fun h' vp hs=>?_);obtain⟨e_,Gm,Ph⟩:=id z;refine h { s with heap:=h' } ⟨I.ok,I.os,I.bare,⟨fun b o e n hb hx=>?_,fun b o e n hb hx=>?_,I.base.free,fun b o e hx=>?_,I.base.iY,I.base.ie,I.base.iX⟩,⟨m,aC.sameBut hs (Ne.symm (o2 x c hc)),fun j y oA aq az b7=>?_⟩,fun y ej e=>?_,I.free,I.lO,fun p hp=>?_,tracked ⟨e_,Gm,I.lO x c hc⟩ hs,by simpa using I.len⟩ ⟨c,hs,.inr hc⟩
  ·exact(hs.2 b (Nat.ne_of_lt (Nat.lt_of_lt_of_le (Heap.lt_size e) (I.ok.sf x c zq hc)))).trans (I.base.keep b o e n hb hx)
  ·obtain⟨cF,aq⟩:=I.base.slot b o e n hb hx;exact⟨cF,(hs.2 b (Nat.ne_of_lt (Nat.lt_of_lt_of_le (Heap.lt_size e) (I.ok.sf x c zq hc)))).trans aq⟩
  ·obtain⟨bJ,aq⟩:=I.base.there b o e hx;exact⟨bJ,(hs.2 b (Nat.ne_of_lt (Nat.lt_of_lt_of_le (Heap.lt_size e) (I.ok.sf x c zq hc)))).trans aq⟩
  ·by_cases cg:j=i
   ·subst cg;rw[hi]at aq;cases aq;rw[List.getElem?_set_self hiσ]at az;cases az;exact⟨u,r,.inr ⟨.inl hk,c,hc,vp⟩⟩
   ·rw[List.getElem?_set_ne (Ne.symm cg)]at az;obtain⟨iu,bf,q⟩:=hl j y oA aq az b7;refine⟨iu,bf,?_⟩;rcases q with q|⟨k,ej,e,fb⟩
    ·exact .inl q
    ·refine .inr ⟨k,ej,e,fb.sameBut hs ?_⟩;rintro rfl;exact cg (HO hN aq (I.ok.inj _ _ _ e hc▸hi))
  ·by_cases F8:ej=c
   ·subst F8;exact⟨_,vp⟩
   ·obtain⟨jq,aZ⟩:=I.cell y ej e;exact⟨jq,aZ.sameBut hs F8⟩
  ·obtain⟨e,n,ne,g8,d⟩:=I.pin p hp;refine⟨(hs.2 p.1 ?_).trans e,n,ne,g8,d⟩;intro q;rw[q,Gm]at e;have dR:e_=p.2:=Option.some.inj e;exact d fq (by rw[←dR];exact Ph)
theorem Jq{M:Model}{A:Around}{E:Value→Shared→Prop}{i:Nat}{x:Str}{v:V}{u:Value}{Q:Unit→Shared→Prop}(I:Inv X pins σ H s)(hN:X.N.Nodup)(hi:X.N[i]?=some x)(hx:Loc X.env.scope x)(r:RelV v u)(h:∀s',Inv X pins (σ.set i (some v)) H s'→Q () s')(hf:X.fn x=true∨X.env.scope.names.lookup x=some .local:=by first|exact .inl rfl|exact .inr rfl|assumption):wpAny M A (storeName X.env x u) Q E s:=
 Jr I hN hi hx r (fun s' jx _=>h s' jx) hf
theorem Inv.LR{s':Shared}{ch:List Addr}(I:Inv X pins σ H s)(ho:s'.os=s.os)(u:e6 (en X.stack) ch H H' s.heap s'.heap)(bF:ee X.prog X.w H' s'.heap)(hg:AllBare s'.gens)(lS:∀b∈ch,(b∈X.ex∨X.fh.heap.objs.size≤b)∧b≠X.env.locals∧(∀x c,X.env.cells.lookup x=some c→c≠b)∧∀p∈X.oh++pins,p.1≠b):Inv X pins σ H' s':=by obtain⟨h',g',d',t',bJ⟩:=s';have e:bJ=s.os:=ho;subst e;exact I.call (g':=g') (t':=t') (d':=d') u bF hg lS
end
abbrev c7:=Value→Option Addr→ai→Prop
abbrev St:=List (Option V)
abbrev cP:=V→ai→Prop
abbrev TE:=St→ai→cP→Prop
abbrev TT:=St→ai→(Bool→ai→Prop)→Prop
abbrev er:=St→ai→(List V→ai→Prop)→Prop
structure Ends where
 bq:St→ai→Prop
 dH:cP
 fG:St→ai→Prop:=fun _ _=>False
 cK:St→ai→Prop:=fun _ _=>False
abbrev eM:=Ends→St→ai→Prop
noncomputable def gb(X:aM)(pins:List (Addr×Obj))(σ :St)(Q:cP)(u:Value)(s':Shared):Prop:=∃v H',Inv X pins σ H' s'∧RelV v u∧Q v H'
noncomputable def uC(X:aM)(pins:List (Addr×Obj))(σ :St)(Q:Bool→ai→Prop)(b:Bool)(s':Shared):Prop:=∃H',Inv X pins σ H' s'∧Q b H'
noncomputable def KO(X:aM)(pins:List (Addr×Obj))(σ :St)(Q:List V→ai→Prop)(us:List Value)(s':Shared):Prop:=∃vs H',Inv X pins σ H' s'∧Vals vs us∧Q vs H'
noncomputable def oT(X:aM)(pins:List (Addr×Obj))(D:Ends)(f:Flow)(s':Shared):Prop:=
 match f with
 |.next=>∃ σ' H',Inv X pins σ' H' s'∧D.bq σ' H'
 |.brk=>∃ σ' H',Inv X pins σ' H' s'∧D.fG σ' H'
 |.cont=>∃ σ' H',Inv X pins σ' H' s'∧D.cK σ' H'
 |.ret u=>∃v σ' H',Inv X pins σ' H' s'∧RelV v u∧D.dH v H'
noncomputable def a3(X:aM)(e:Expr)(t:TE):Prop:=
 ∀(pins:List (Addr×Obj))(s:Shared)(σ :St)(H:ai)(Q:cP),Inv X pins σ H s→t σ H Q→wpAny (model X.prog X.w) X.A (eval e X.env) (gb X pins σ Q) X.xe s
noncomputable def eU(X:aM)(e:Expr)(t:TT):Prop:=
 ∀(pins:List (Addr×Obj))(s:Shared)(σ :St)(H:ai)(Q:Bool→ai→Prop),Inv X pins σ H s→t σ H Q→wpAny (model X.prog X.w) X.A (isTrue e X.env (eval e X.env)) (uC X pins σ Q) X.xe s
noncomputable def h_(X:aM)(e:Expr)(t:TT):Prop:=
 ∀(whole:Sem Value)(pins:List (Addr×Obj))(s:Shared)(σ :St)(H:ai)(Q:Bool→ai→Prop),Inv X pins σ H s→t σ H Q→wpAny (model X.prog X.w) X.A (isTrue e X.env whole) (uC X pins σ Q) X.xe s
theorem h_.pt{X:aM}{e:Expr}{t:TT}(h:h_ X e t):eU X e t:=h _
noncomputable def eT(X:aM)(es:List Expr)(t:er):Prop:=
 ∀(pos:Pos)(pins:List (Addr×Obj))(s:Shared)(σ :St)(H:ai)(Q:List V→ai→Prop),Inv X pins σ H s→t σ H Q→wpAny (model X.prog X.w) X.A (spliced (backTo pos (starEach es X.env))) (KO X pins σ Q) X.xe s
noncomputable def dr(X:aM)(st:Stmt)(t:eM):Prop:=
 ∀(pins:List (Addr×Obj))(s:Shared)(σ :St)(H:ai)(D:Ends),Inv X pins σ H s→t D σ H→wpAny (model X.prog X.w) X.A (exec st X.env) (oT X pins D) X.xe s
noncomputable def fS(X:aM)(st:List Stmt)(t:eM):Prop:=
 ∀(pins:List (Addr×Obj))(s:Shared)(σ :St)(H:ai)(D:Ends),Inv X pins σ H s→t D σ H→wpAny (model X.prog X.w) X.A (execs st X.env) (oT X pins D) X.xe s
theorem bL{α:Type}{t:Sem α}{Q oS:α→Shared→Prop}{M:Model}{A:Around}{E:Value→Shared→Prop}{s:Shared}(h:wpAny M A t Q E s)(fz:∀a s,Q a s→oS a s):wpAny M A t oS E s:=wpAny_mono h fz fun _ _ x=>x
section
variable{X:aM}
theorem bin{a b:Expr}{b1 tb:TE}(ha:a3 X a b1)(hb:a3 X b tb){pins:List (Addr×Obj)}{s:Shared}{σ :St}{H:ai}{R:V→V→ai→Prop}(I:Inv X pins σ H s)(h:b1 σ H fun x H1=>tb σ H1 fun y a9=>R x y a9){α:Type}{Q:α→Shared→Prop}{f:Value→Value→Sem α}(hf:∀v u s2 x y a9,Inv X pins σ a9 s2→RelV x v→RelV y u→R x y a9→wpAny (model X.prog X.w) X.A (f v u) Q X.xe s2) :
  wpAny (model X.prog X.w) X.A (eval a X.env) (fun v c4=>wpAny (model X.prog X.w) X.A (eval b X.env) (fun u lx=>wpAny (model X.prog X.w) X.A (f v u) Q X.xe lx) X.xe c4) X.xe s:=by
 refine bL (ha pins s σ H _ I h) fun v s1⟨x,H1,aQ,au,aS⟩=>?_;refine bL (hb pins s1 σ H1 _ aQ aS) fun u s2⟨y,a9,b5,bh,bl⟩=>?_;exact hf v u s2 x y a9 b5 au bh bl
def Cf(i:Nat):TE:=fun σ H Q=>∃v,σ[i]?=some (some v)∧Q v H
def p6(v:V):TE:=fun _ H Q=>Q v H
theorem mX{i:Nat}{x:Str}{pos:Pos}(hN:X.N[i]?=some x)(hv:gU X.env.scope x)(hd:(x==("__debug__" :Str))=false:=by decide)(hcd:(x==("__classdict__" :Str))=false:=by decide):a3 X (.Name x pos) (Cf i):=by
 intro pins s σ H Q I h;obtain⟨v,e,h⟩:=h;obtain⟨m,aC,hl⟩:=I.loc;obtain⟨u,r,l⟩:=hl i x v hN e hv;have fin:gb X pins σ Q u s:=⟨v,H,I,r,h⟩;rcases l with⟨hk,hm⟩|⟨hk,c,hc,F9⟩
 ·exact wpAny_Name (wpAny_loadName_local I.ok.kind hk aC hm fin) hd
 ·rcases hk with hk|hk
  ·exact wpAny_Name (wpAny_loadName_cell I.ok.kind hk hc F9 fin) hd
  ·exact wpAny_Name (wpAny_loadName_free I.ok.kind hk hc F9 fin hcd) hd
theorem Uy{i j pos}:a3 X (.Constant (.int i) j pos) (p6 (.int i)):=fun _ _ _ H _ I h=>wpAny_Constant_int ⟨.int i,H,I.tok _,⟨_,rfl⟩,h⟩
theorem Un{b j pos}:a3 X (.Constant (.bool b) j pos) (p6 (.ax b)):=fun _ _ _ H _ I h=>Constant_bool ⟨.ax b,H,I,rfl,h⟩
theorem UG{j pos}:a3 X (.Constant .none j pos) (p6 .non):=fun _ _ _ H _ I h=>Constant_none ⟨.non,H,I,rfl,h⟩
theorem AA{x j pos}:a3 X (.Constant (.str x) j pos) (p6 (.str x)):=fun _ _ _ H _ I h=>Calls.Constant_str ⟨.str x,H,I.tok _,⟨_,rfl⟩,h⟩
def cU(X:aM)(x:Str):Prop:=X.env.kindOf x=some .globalImplicit
theorem vM{E:Value→Shared→Prop}{pins:List (Addr×Obj)}{s:Shared}{σ :St}{H:ai}{x:Str}{u:Value}{pos:Pos}{Q:Value→Shared→Prop}(I:Inv X pins σ H s)(hg:cU X x)(hm:X.mg x=some u)(h:Q u s)(hd:(x==("__debug__" :Str))=false:=by decide):wpAny (model X.prog X.w) X.A (eval (.Name x pos) X.env) Q E s:=
 Calls.Name_function_global I.ok.kind hg (Calls.loadGlobal_global (by rw[I.ok.glob];exact I.mod.glob.keeps I.fG) hm h) hd
theorem mL{E:Value→Shared→Prop}{pins:List (Addr×Obj)}{s:Shared}{σ :St}{H:ai}{x:Str}{u:Value}{pos:Pos}{Q:Value→Shared→Prop}(I:Inv X pins σ H s)(hg:cU X x)(hm:X.mg x=none)(hv:bootBuiltins x=some u)(h:Q u s)(aC:x≠"__name__":=by decide)(hd:(x==("__debug__" :Str))=false:=by decide):wpAny (model X.prog X.w) X.A (eval (.Name x pos) X.env) Q E s:=by obtain⟨fC,h1,h2⟩:=I.mod.blt;exact Calls.Name_function_global I.ok.kind hg (Calls.loadGlobal_builtin (by rw[I.ok.glob];exact I.mod.glob.keeps I.fG) hm (by rw[I.ok.blt];exact h1.keeps I.fG) ((h2 x aC).trans hv) h) hd
theorem Uw{x:Str}{v:V}{u:Value}{pos:Pos}(hg:cU X x)(hm:X.mg x=some u)(r:RelV v u)(hd:(x==("__debug__" :Str))=false:=by decide):a3 X (.Name x pos) (p6 v):=
 fun _ _ _ H _ I h=>vM I hg hm ⟨v,H,I,r,h⟩ hd
theorem Uo{x:Str}{v:V}{u:Value}{pos:Pos}(hg:cU X x)(hm:X.mg x=none)(hv:bootBuiltins x=some u)(r:RelV v u)(aC:x≠"__name__":=by decide)(hd:(x==("__debug__" :Str))=false:=by decide):a3 X (.Name x pos) (p6 v):=
 fun _ _ _ H _ I h=>mL I hg hm hv ⟨v,H,I,r,h⟩ aC hd
variable{a b:Expr}{b1 tb:TE}{pos:Pos}
noncomputable def uy(X:aM)(op:CmpOp)(a b:Expr)(t:TE):Prop:=
 ∀(pins:List (Addr×Obj))(s:Shared)(σ :St)(H:ai)(Q:cP),Inv X pins σ H s→t σ H Q→
  wpAny (model X.prog X.w) X.A (eval a X.env) (fun v c4=>wpAny (model X.prog X.w) X.A (eval b X.env) (fun u lx=>wpAny (model X.prog X.w) X.A (compareOp op v u) (gb X pins σ Q) X.xe lx) X.xe c4) X.xe s
theorem HM(b:Expr){op:CmpOp}(h:op≠.In)(h2:op≠.NotIn):behindInMarks op b=false:=by
 have aq:(op==CmpOp.In)=false:=by cases op<;>first|rfl|exact absurd rfl h
 have az:(op==CmpOp.NotIn)=false:=by cases op<;>first|rfl|exact absurd rfl h2
 cases b<;>simp[behindInMarks,aq,az]
def B7(t:TE):TT:=fun σ H Q=>t σ H fun x H1=>∃c,x=.ax c∧Q c H1
theorem Uq{op:CmpOp}{t:TE}(h:uy X op a b t)(h1:behindInMarks op b=false:=by first|exact HM _ (by decide) (by decide)|rfl):a3 X (.Compare a [op] [b] pos) t:=fun pins s σ H Q I hw=>wpAny_Compare1 (h pins s σ H Q I hw) h1
theorem IC{op:CmpOp}{t:TE}(h:uy X op a b t)(h1:behindInMarks op b=false:=by first|exact HM _ (by decide) (by decide)|rfl):eU X (.Compare a [op] [b] pos) (B7 t):=by intro pins s σ H Q I hw;refine wpAny_isTrue_Compare1 (bL (h pins s σ H _ I hw) fun v s1 h1=>bL h1 fun u s2 h2=>bL h2 fun c s3⟨x,H1,aQ,au,aS⟩=>?_) h1;obtain⟨d,rfl,q⟩:=aS;cases au;exact wpAny_truthy_bool ⟨H1,aQ,q⟩
theorem Vh{e:Expr}{t:TE}(h:a3 X e t)(he:∀whole,isTrue e X.env whole=(do let v ←whole;standAt e.pos;holding [v] (truthy v)):=by intro _;rfl):eU X e (B7 t):=by intro pins s σ H Q I hw;refine isTrue_plain (bL (h pins s σ H _ I hw) fun v s1⟨x,H1,aQ,au,aS⟩=>?_) (he _);obtain⟨d,rfl,q⟩:=aS;cases au;exact wpAny_truthy_bool ⟨H1,aQ,q⟩
variable{ei wX:TT}{rest:List Expr}
def JB(t u:TT):TT:=fun σ H Q=>t σ H fun c H1=>if c=true then u σ H1 Q else Q false H1
def JN(t u:TT):TT:=fun σ H Q=>t σ H fun c H1=>if c=true then Q true H1 else u σ H1 Q
def JL(t:TT):TT:=fun σ H Q=>t σ H fun c H1=>Q (!c) H1
theorem Vn(ha:eU X a ei):h_ X (.BoolOp .And [a] pos) ei:=by
 intro qb pins s σ H Q I h;refine isTrue_and (bL (ha pins s σ H Q I h) fun c s1 e=>?_);cases c with
 |true=>exact isTrue_and_nil e
 |false=>exact e
theorem Vp(ha:eU X a ei):h_ X (.BoolOp .Or [a] pos) ei:=by
 intro qb pins s σ H Q I h;refine isTrue_or (bL (ha pins s σ H Q I h) fun c s1 e=>?_);cases c with
 |false=>exact isTrue_or_nil e
 |true=>exact e
theorem Vm(ha:eU X a ei)(hb:h_ X (.BoolOp .And (b::rest) pos) wX):h_ X (.BoolOp .And (a::b::rest) pos) (JB ei wX):=by
 intro qb pins s σ H Q I h;refine isTrue_and (bL (ha pins s σ H _ I h) fun c s1⟨H1,aQ,aS⟩=>?_);cases c with
 |true=>exact hb qb pins s1 σ H1 Q aQ aS
 |false=>exact⟨H1,aQ,aS⟩
theorem Vo(ha:eU X a ei)(hb:h_ X (.BoolOp .Or (b::rest) pos) wX):h_ X (.BoolOp .Or (a::b::rest) pos) (JN ei wX):=by
 intro qb pins s σ H Q I h;refine isTrue_or (bL (ha pins s σ H _ I h) fun c s1⟨H1,aQ,aS⟩=>?_);cases c with
 |true=>exact⟨H1,aQ,aS⟩
 |false=>exact hb qb pins s1 σ H1 Q aQ aS
theorem Vg(ha:eU X a ei):eU X (.UnaryOp .Not a pos) (JL ei):=by intro pins s σ H Q I h;exact isTrue_not (ha pins s σ H (fun c H1=>Q (!c) H1) I h)
noncomputable def JC(b1 tb:TE):TE:=fun σ H Q=>b1 σ H fun x H1=>∃c,x=.ax c∧if c=true then tb σ H1 Q else Q (.ax false) H1
noncomputable def JO(b1 tb:TE):TE:=fun σ H Q=>b1 σ H fun x H1=>∃c,x=.ax c∧if c=true then Q (.ax true) H1 else tb σ H1 Q
def JM(b1:TE):TE:=fun σ H Q=>b1 σ H fun x H1=>∃c,x=.ax c∧Q (.ax (!c)) H1
theorem UI{op}{t:TE}(h:a3 X a t):a3 X (.BoolOp op [a] pos) t:=fun pins s σ H Q I hw=>BoolOp_one (h pins s σ H Q I hw)
theorem Um(ha:a3 X a b1)(hb:a3 X (.BoolOp .And (b::rest) pos) tb):a3 X (.BoolOp .And (a::b::rest) pos) (JC b1 tb):=by
 intro pins s σ H Q I h;refine BoolOp_and (bL (ha pins s σ H _ I h) fun v s1⟨x,H1,aQ,au,aS⟩=>?_);obtain⟨c,rfl,aS⟩:=aS;cases au;refine wpAny_truthy_bool ?_;cases c with
 |true=>exact hb pins s1 σ H1 Q aQ aS
 |false=>exact⟨.ax false,H1,aQ,rfl,aS⟩
theorem UK(ha:a3 X a b1)(hb:a3 X (.BoolOp .Or (b::rest) pos) tb):a3 X (.BoolOp .Or (a::b::rest) pos) (JO b1 tb):=by
 intro pins s σ H Q I h;refine BoolOp_or (bL (ha pins s σ H _ I h) fun v s1⟨x,H1,aQ,au,aS⟩=>?_);obtain⟨c,rfl,aS⟩:=aS;cases au;refine wpAny_truthy_bool ?_;cases c with
 |false=>exact hb pins s1 σ H1 Q aQ aS
 |true=>exact⟨.ax true,H1,aQ,rfl,aS⟩
theorem UH(ha:a3 X a b1):a3 X (.UnaryOp .Not a pos) (JM b1):=by intro pins s σ H Q I h;refine UnaryOp_ (bL (ha pins s σ H _ I h) fun v s1⟨x,H1,aQ,au,aS⟩=>?_);obtain⟨c,rfl,aS⟩:=aS;cases au;exact not_of (wpAny_truthy_bool ⟨.ax (!c),H1,aQ,rfl,aS⟩)
def JH(t:TT)(b1 tb:TE):TE:=fun σ H Q=>t σ H fun c H1=>if c=true then b1 σ H1 Q else tb σ H1 Q
theorem Ux{c:Expr}(hc:eU X c ei)(ha:a3 X a b1)(hb:a3 X b tb):a3 X (.IfExp c a b pos) (JH ei b1 tb):=by
 intro pins s σ H Q I h;refine wpAny_IfExp (bL (hc pins s σ H _ I h) fun d s1⟨H1,aQ,aS⟩=>?_);cases d with
 |true=>exact ha pins s1 σ H1 Q aQ aS
 |false=>exact hb pins s1 σ H1 Q aQ aS
end
noncomputable def bP(K:PySem.W.Frag)(H:ai)(a:Addr)(xs:List V):Prop:=
 gq H a (.lst xs)∨
  ∃(o:Obj)(its:Array Value)(n:Nat),K.lookup a=some o∧o.cls=.type "list"∧o.dict=none∧o.data=.seq its n∧its.size≤sizeLine∧Vals xs its.toList
noncomputable def cS(K:PySem.W.Frag)(H:ai)(a:Addr)(xs:List V):Prop:=
 gq H a (.tup xs)∨
  ∃(o:Obj)(its:Array Value)(n:Nat),K.lookup a=some o∧o.cls=.type "tuple"∧o.data=.seq its n∧its.size≤sizeLine∧Vals xs its.toList
noncomputable def Le:Value→Option V
 |.none=>some .non
 |.bool b=>some (.ax b)
 |.int i _=>some (.int i)
 |.str x _=>some (.str x)
 |.bytes b _=>some (.lN b)
 |.float b _=>some (.vb b)
 |.ref a=>some (.ref a)
 |.type n=>some (.ty n)
 |_=>none
theorem RelV.abs{x:V}{u:Value}(r:RelV x u):Le u=some x:=by
 cases x with
 |non=>cases r;rfl
 |ax _=>cases r;rfl
 |int _=>obtain⟨t,rfl⟩:=r;rfl
 |str _=>obtain⟨t,rfl⟩:=r;rfl
 |lN _=>obtain⟨t,rfl⟩:=r;rfl
 |vb _=>obtain⟨t,rfl⟩:=r;rfl
 |ref _=>cases r;rfl
 |ty _=>cases r;rfl
theorem RelV.inj{x y:V}{u:Value}(r:RelV x u)(q:RelV y u):x=y:=Option.some.inj (r.abs.symm.trans q.abs)
theorem Vals.inj:∀{xs ys:List V}{us:List Value},Vals xs us→Vals ys us→xs=ys
 |_,_,_,.nil,.nil=>rfl
 |_,_,_,.cons r t,.cons bf t'=>by rw[r.inj bf,Vals.inj t t']
section
variable{X:aM}{pins:List (Addr×Obj)}{σ :St}{H:ai}{s:Shared}{a:Addr}{xs ys:List V}
theorem bP.of{K:PySem.W.Frag}(h:H a=some (.lst xs)):bP K H a xs:=.inl (.inl h)
theorem cS.of{K:PySem.W.Frag}(h:H a=some (.tup xs)):cS K H a xs:=.inl (.inl h)
theorem Inv.list(I:Inv X pins σ H s)(h:bP X.K H a xs):∃its:List Value,Vals xs its∧PlainL s.heap a its.toArray∧xs.length≤sizeLine:=by
 rcases h with h|⟨o,its,n,hk,hc,hd,hs,bj,r⟩
 ·obtain⟨z,its,n,r,e⟩:=h.ok I.bF;exact⟨its,r,⟨_,n,e,rfl,rfl,rfl⟩,z⟩
 ·refine⟨its.toList,r,⟨o,n,I.fJ a o hk,hc,hd,by simpa using hs⟩,?_⟩;have e:=r.length;simp only[Array.length_toList]at e;omega
theorem Inv.tuple(I:Inv X pins σ H s)(h:cS X.K H a xs):∃its:List Value,Vals xs its∧IsTup s.heap a its.toArray∧xs.length≤sizeLine:=by
 rcases h with h|⟨o,its,n,hk,hc,hs,bj,r⟩
 ·obtain⟨z,its,r,p⟩:=h.ok I.bF;exact⟨its,r,p,z⟩
 ·refine⟨its.toList,r,⟨o,I.fJ a o hk,hc,n,by simpa using hs⟩,?_⟩;have e:=r.length;simp only[Array.length_toList]at e;omega
theorem Inv.z3(I:Inv X pins σ H s)(h:bP X.K H a xs)(h':bP X.K H a ys):xs=ys:=by
 obtain⟨its,r,⟨o,n,e,_,_,d⟩,_⟩:=I.list h;obtain⟨its',bf,⟨bJ,S0,b6,_,_,d'⟩,_⟩:=I.list h';rw[e]at b6;cases b6;rw[d]at d';injection d' with d1 _;have:its=its':=by simpa using congrArg Array.toList d1
 subst this;exact r.inj bf
theorem Inv.Cp(I:Inv X pins σ H s)(h:cS X.K H a xs)(h':cS X.K H a ys):xs=ys:=by
 obtain⟨its,r,⟨o,e,_,n,d⟩,_⟩:=I.tuple h;obtain⟨its',bf,⟨bJ,b6,_,S0,d'⟩,_⟩:=I.tuple h';rw[e]at b6;cases b6;rw[d]at d';injection d' with d1 _;have:its=its':=by simpa using congrArg Array.toList d1
 subst this;exact r.inj bf
end
abbrev aM.j1(X:aM)(E:Value→Shared→Prop):aM:={ X with xe:=E }
abbrev aM.hF(X:aM):aM:=X.j1 fun _ _=>False
theorem aM.Ok.j1{X:aM}(ok:X.Ok)(E:Value→Shared→Prop):(X.j1 E).Ok:=
 ⟨ok.mod,ok.kind,ok.glob,ok.blt,ok.above,ok.inj,ok.has,ok.sf,ok.hd,ok.frames,ok.wR,ok.EI,ok.bs,ok.nL,ok.pR,ok.u_,ok.je,ok.ph⟩
theorem aM.Ok.jo{X:aM}{E:Value→Shared→Prop}(ok:(X.j1 E).Ok):X.Ok:=
 ⟨ok.mod,ok.kind,ok.glob,ok.blt,ok.above,ok.inj,ok.has,ok.sf,ok.hd,ok.frames,ok.wR,ok.EI,ok.bs,ok.nL,ok.pR,ok.u_,ok.je,ok.ph⟩
section
variable{X:aM}{pins:List (Addr×Obj)}{σ :St}{H:ai}{s:Shared}{E:Value→Shared→Prop}
theorem Inv.j1(I:Inv X pins σ H s)(E:Value→Shared→Prop):Inv (X.j1 E) pins σ H s:=⟨I.ok.j1 E,I.os,I.bare,I.base,I.loc,I.cell,I.free,I.lO,I.pin,I.bF,I.len⟩
theorem Inv.jo(I:Inv (X.j1 E) pins σ H s):Inv X pins σ H s:=⟨I.ok.jo,I.os,I.bare,I.base,I.loc,I.cell,I.free,I.lO,I.pin,I.bF,I.len⟩
theorem oT.jo{D:Ends}{f:Flow}{s':Shared}(h:oT (X.j1 E) pins D f s'):oT X pins D f s':=by
 cases f with
 |next=>obtain⟨σ',H',I,q⟩:=h;exact⟨σ',H',I.jo,q⟩
 |brk=>obtain⟨σ',H',I,q⟩:=h;exact⟨σ',H',I.jo,q⟩
 |cont=>obtain⟨σ',H',I,q⟩:=h;exact⟨σ',H',I.jo,q⟩
 |ret u=>obtain⟨v,σ',H',I,r,q⟩:=h;exact⟨v,σ',H',I.jo,r,q⟩
theorem fS.hF{st:List Stmt}{t:eM}(h:fS X.hF st t):fS X st t:=fun pins s σ H D I hw=>
 wpAny_mono (h pins s σ H D (I.j1 _) hw) (fun _ _ q=>q.jo) fun _ _ z=>False.elim z
end
section
variable{X:aM}{st:Stmt}{rest:List Stmt}{t u:eM}{e:Expr}{dI:TE}{pos:Pos}
def Cb:eM:=fun D σ H=>D.bq σ H
def Cc(t u:eM):eM:=fun D σ H=>t { D with bq:=u D } σ H
theorem IA:fS X [] Cb:=fun _ _ σ H _ I h=>wpAny_execs_nil ⟨σ,H,I,h⟩
theorem Iz(h1:dr X st t)(h2:fS X rest u):fS X (st::rest) (Cc t u):=by
 intro pins s σ H D I h;refine wpAny_execs_cons (bL (h1 pins s σ H { D with bq:=u D } I h) fun f s1 q=>?_);cases f with
 |next=>obtain⟨σ',H',jx,q⟩:=q;exact h2 pins s1 σ' H' D jx q
 |ret v=>exact q
 |brk=>exact q
 |cont=>exact q
theorem AF(h1:dr X st t):fS X [st] t:=by
 intro pins s σ H D I h;refine wpAny_execs_cons (bL (h1 pins s σ H D I h) fun f s1 q=>?_);cases f with
 |next=>exact wpAny_execs_nil q
 |ret v=>exact q
 |brk=>exact q
 |cont=>exact q
theorem Inv.quiet{pins:List (Addr×Obj)}{σ :St}{H:ai}{s:Shared}(I:Inv X pins σ H s):interactive X.env=false:=by simp[interactive,I.ok.kind]
def B_(dI:TE):eM:=fun D σ H=>dI σ H fun _ H1=>D.bq σ H1
theorem wo(he:a3 X e dI)(hs:swapsWith e none pos.line X.env=pure false:=by rfl):dr X (.Expr e pos) (B_ dI):=by intro pins s σ H D I h;exact wpAny_Expr_any (bL (he pins s σ H _ I h) fun v s1⟨x,H1,aQ,au,aS⟩=>⟨σ,H1,aQ,aS⟩) I.quiet hs
def w4(dI:TE):eM:=fun D σ H=>dI σ H D.dH
theorem wq(he:a3 X e dI):dr X (.Return (some e) pos) (w4 dI):=by intro pins s σ H D I h;exact wpAny_Return_some (bL (he pins s σ H _ I h) fun v s1⟨x,H1,aQ,au,aS⟩=>⟨x,σ,H1,aQ,au,aS⟩)
def Ca(c:TT)(t u:eM):eM:=fun D σ H=>c σ H fun b H1=>if b=true then t D σ H1 else u D σ H1
theorem Iw{c:Expr}{a b:List Stmt}{f6:TT}(hc:eU X c f6)(ha:fS X a t)(hb:fS X b u):dr X (.If c a b pos) (Ca f6 t u):=by
 intro pins s σ H D I h;refine wpAny_If (bL (hc pins s σ H _ I h) fun d s1⟨H1,aQ,aS⟩=>?_);cases d with
 |true=>exact ha pins s1 σ H1 D aQ aS
 |false=>exact hb pins s1 σ H1 D aQ aS
def JK:eM:=fun _ _ _=>False
theorem Iy:dr X st JK:=fun _ _ _ _ _ _ h=>h.elim
end
abbrev hH:=V→St→ai→(St→ai→Prop)→Prop
abbrev jA:=List V→St→ai→(St→ai→Prop)→Prop
noncomputable def i5(X:aM)(target:Expr)(t:hH):Prop:=
 ∀(pins:List (Addr×Obj))(s:Shared)(σ :St)(H:ai)(v:V)(u:Value)(Q:St→ai→Prop),Inv X pins σ H s→RelV v u→t v σ H Q→
  wpAny (model X.prog X.w) X.A (assign target X.env u) (fun _ s'=>∃ σ' H',Inv X pins σ' H' s'∧Q σ' H') X.xe s
noncomputable def qB(X:aM)(bS:List Expr)(t:jA):Prop:=
 ∀(pins:List (Addr×Obj))(s:Shared)(σ :St)(H:ai)(vs:List V)(us:List Value)(Q:St→ai→Prop),Inv X pins σ H s→Vals vs us→t vs σ H Q→
  wpAny (model X.prog X.w) X.A (assignInOrder ((assignEach bS X.env).map (·.2)) us) (fun _ s'=>∃ σ' H',Inv X pins σ' H' s'∧Q σ' H') X.xe s
section
variable{X:aM}{pos:Pos}
def jI(i:Nat):hH:=fun v σ H Q=>Q (σ.set i (some v)) H
theorem wk{i:Nat}{x:Str}(hN:X.N.Nodup)(hi:X.N[i]?=some x)(hx:Loc X.env.scope x)(hf:X.fn x=true∨X.env.scope.names.lookup x=some .local:=by first|exact .inl rfl|exact .inr rfl|assumption):i5 X (.Name x pos) (jI i):=by intro pins s σ H v u Q I r h;exact wpAny_assign_Name (Jq I hN hi hx r (fun s' jx=>⟨_,H,jx,h⟩) hf)
def vd:jA:=fun vs σ H Q=>vs=[]∧Q σ H
def sG(t:hH)(u:jA):jA:=fun vs σ H Q=>∃v r,vs=v::r∧t v σ H fun σ' H'=>u r σ' H' Q
theorem Ij:qB X [] vd:=by intro pins s σ H vs us Q I r h;obtain⟨e,h⟩:=h;subst e;cases r;exact assignInOrder_nil ⟨σ,H,I,h⟩
theorem AB{e:Expr}{es:List Expr}{t:hH}{u:jA}(h1:i5 X e t)(h2:qB X es u)(hs:(assignEach (e::es) X.env).map (·.2)=assign e X.env::(assignEach es X.env).map (·.2):=by rfl):qB X (e::es) (sG t u):=by
 intro pins s σ H vs us Q I r h;obtain⟨v,xa,aq,h⟩:=h;subst aq;cases r with
 |cons r lp=>rw[hs];refine assignInOrder_cons (bL (h1 pins s σ H _ _ _ I r h) fun _ s1⟨σ1,H1,aQ,aS⟩=>?_);exact h2 pins s1 σ1 H1 _ _ Q aQ lp aS
noncomputable def ve(K:PySem.W.Frag)(n:Nat)(t:jA):hH:=fun v σ H Q=>∃a xs,v=.ref a∧cS K H a xs∧xs.length=n∧t xs σ H Q
theorem Ii{es:List Expr}{k:Nat}{t:jA}{n:Nat}(hc:X.calm=true)(h:qB X es t)(aC:(assignEach es X.env).length=n:=by rfl)(hst:(assignEach es X.env).findIdx? (·.1)=none:=by rfl):i5 X (.Tuple es k pos) (ve X.K n t):=by intro pins s σ H v u Q I r hw;obtain⟨a,xs,aq,aJ,hl,hw⟩:=hw;subst aq;cases r;obtain⟨its,bV,ht,bj⟩:=I.tuple aJ;refine assign_Tuple_tuple (I.ok.hd hc) ht (by simp[aC,←hl,bV.length]) hst fun h' hx=>?_;have aQ:Inv X pins σ H { s with heap:=h' }:=I.kept (t':=s.toks) fun b o e=>hx b o (Nat.ne_of_lt (Heap.lt_size e)) e;exact h pins _ σ H xs _ Q aQ (by simpa using bV) hw
def ow(dI:TE)(g:hH):eM:=fun D σ H=>dI σ H fun x H1=>g x σ H1 D.bq
theorem U8{bC e:Expr}{dI:TE}{g:hH}(he:a3 X e dI)(hg:i5 X bC g)(hs:swapsWithSole [bC] e pos.line X.env=pure false:=by rfl)(hw:swappedStores [bC] e X.env=pure none:=by rfl)(h1:(assignEach [bC] X.env).map (·.2)=[assign bC X.env]:=by rfl):dr X (.Assign [bC] e pos) (ow dI g):=by intro pins s σ H D I h;refine wpAny_Assign_stores (bL (he pins s σ H _ I h) fun v s1⟨x,H1,aQ,au,aS⟩=>?_) hs hw;rw[h1];exact bL (hg pins s1 σ H1 x v _ aQ au aS) fun _ s2 q=>q
theorem wt{i:Nat}{x:Str}{e:Expr}{dI:TE}{pos':Pos}(hN:X.N.Nodup)(hi:X.N[i]?=some x)(hx:Loc X.env.scope x)(he:a3 X e dI)(hs:swapsWith e (some (.Name x pos')) pos.line X.env=pure false:=by rfl)(hf:X.fn x=true∨X.env.scope.names.lookup x=some .local:=by first|exact .inl rfl|exact .inr rfl|assumption) :
  dr X (.Assign [.Name x pos'] e pos) (ow dI (jI i)):=by
 intro pins s σ H D I h;refine wpAny_Assign_Name (bL (he pins s σ H _ I h) fun v s1⟨y,H1,aQ,au,aS⟩=>?_) hs;exact Jq aQ hN hi hx au (fun s2 b5=>⟨_,H1,b5,aS⟩) hf
end
section
variable{X:aM}{pos:Pos}
noncomputable def JR(c:TT)(tb:eM):eM:=fun D σ H=>∃W:Nat→St→ai→Prop,(∃m,W m σ H)∧∀m σ H,W m σ H→
 c σ H fun b H1=>if b=true then ∃N:St→ai→Prop,(∀ σ' H',N σ' H'→∃c0,c0<m∧W c0 σ' H')∧tb { D with bq:=N,cK:=N,fG:=D.bq } σ H1 else D.bq σ H1
theorem Vd{c:Expr}{body:List Stmt}{f6:TT}{tb:eM}(hp:PassesOwn (model X.prog X.w) X.A X.env X.xe)(hc:eU X c f6)(hb:fS X body tb):dr X (.While c body [] pos) (JR f6 tb):=by
 intro pins s σ H D I h;obtain⟨W,⟨m0,nf⟩,turn⟩:=h;refine wpAny_While (codeAny_whileLoop (fun n s'=>∃ σ' H',Inv X pins σ' H' s'∧W n σ' H') ?_ m0 ⟨σ,H,I,nf⟩);rintro n s1 ⟨σ1,H1,aQ,lz⟩;refine wpAny_passesOwn hp (bL (hc pins s1 σ1 H1 _ aQ (turn n σ1 H1 lz)) fun b s2⟨a9,b5,bl⟩=>?_);cases b with
 |true=>
  obtain⟨N,hN,bl⟩:=bl;rw[if_pos rfl];refine wpAny_passesOwn hp (bL (hb pins s2 σ1 a9 _ b5 bl) fun f s3 dw=>?_);cases f with
  |next=>obtain⟨σ3,dk,d9,mU⟩:=dw;obtain⟨c0,hm,ng⟩:=hN σ3 dk mU;exact⟨c0,hm,σ3,dk,d9,ng⟩
  |cont=>obtain⟨σ3,dk,d9,mU⟩:=dw;obtain⟨c0,hm,ng⟩:=hN σ3 dk mU;exact⟨c0,hm,σ3,dk,d9,ng⟩
  |brk=>exact dw
  |ret v=>exact dw
 |false=>rw[if_neg Bool.false_ne_true];exact wpAny_execs_nil ⟨σ1,a9,b5,bl⟩
end
structure It where
 go:Nat→ai→Prop
 i2:Nat→ai→V→ai→Prop
 stop:Nat→ai→Prop
noncomputable def i4(X:aM)(pins:List (Addr×Obj))(H:ai)(b:Addr):Prop:=
 H b=none∧b≠X.env.locals∧b∉X.aI∧(b∈X.ex∨X.fh.heap.objs.size≤b)∧(∀x c,X.env.cells.lookup x=some c→c≠b)∧∀p∈X.oh++pins,p.1≠b
theorem Inv.mD{X:aM}{pins:List (Addr×Obj)}{σ :St}{H H':ai}{s:Shared}{b:Addr}(I:Inv X pins σ H s)(hb:s.heap.objs.size≤b)(aC:H' b=none):i4 X pins H' b:=by
 refine⟨aC,Nat.ne_of_gt (Nat.lt_of_lt_of_le I.lt hb),I.Tn hb,.inr (Nat.le_trans I.p4 hb),fun x c e z=>?_,fun p hp z=>?_⟩
 ·obtain⟨v,q⟩:=I.cell x c e;exact absurd (Nat.lt_of_lt_of_le q.lt (by rw[z];exact hb)) (Nat.lt_irrefl _)
 ·exact absurd (Nat.lt_of_lt_of_le (Heap.lt_size (I.pin p hp).1) (by rw[z];exact hb)) (Nat.lt_irrefl _)
structure Turn(P:Program)(w:World)(K:PySem.W.Frag)(bC:Expr)(cq:It)(a6:List Addr)(it:Addr)(gD:Nat→Heap→Prop):Prop where
 mem:it∈a6
 obj:∀i h,gD i h→∀b∈a6,∃o,h.get? b=some o∧∀v,o.data≠.cell v
 keep:∀i h h',gD i h→(∀b∈a6,∀o,h.get? b=some o→h'.get? b=some o)→gD i h'
 item:∀(X:aM),X.prog=P→X.w=w→X.K=K→X.calm=true→∀(i:Nat)(pins:List (Addr×Obj))(s:Shared)(σ :St)(H:ai)(E:Value→Shared→Prop),Inv X pins σ H s→(∀b∈a6,i4 X pins H b)→gD i s.heap→cq.go i H→
  wpAny (model P w) X.A (pyNext (.ref it)) (fun r s1=>∃u,r=some u∧
   wpAny (model P w) X.A (letOwnedTupleGo bC (.ref it) u) (fun _ s2=>∃x H',Inv X pins σ H' s2∧RelV x u∧cq.i2 i H x H'∧gD (i+1) s2.heap∧∀b∈a6,H' b=none) E s1) E s
 done:∀(X:aM),X.prog=P→X.w=w→X.K=K→X.calm=true→∀(i:Nat)(pins:List (Addr×Obj))(s:Shared)(σ :St)(H:ai)(E:Value→Shared→Prop),Inv X pins σ H s→(∀b∈a6,i4 X pins H b)→gD i s.heap→cq.stop i H→
  wpAny (model P w) X.A (pyNext (.ref it)) (fun r s1=>r=none∧Inv X pins σ H s1) E s
 self:∀(A:Around)(i:Nat)(s:Shared)(Q:Value→Shared→Prop)(E:Value→Shared→Prop),gD i s.heap→Q (.ref it) s→wpAny (model P w) A (pyIter (.ref it)) Q E s
abbrev TI:=St→ai→(It→ai→Prop)→Prop
noncomputable def Dn(X:aM)(pins:List (Addr×Obj))(σ :St)(bC:Expr)(R:It→ai→Prop)(vF:Value)(s2:Shared):Prop:=
 ∃(it:Addr)(a6:List Addr)(gD:Nat→Heap→Prop)(cq:It)(H':ai),vF=.ref it∧Inv X pins σ H' s2∧Turn X.prog X.w X.K bC cq a6 it gD∧gD 0 s2.heap∧(∀b∈a6,i4 X pins H' b)∧R cq H'
noncomputable def fR(X:aM)(bC iter:Expr)(iw:TI):Prop:=
 ∀(pins:List (Addr×Obj))(s:Shared)(σ :St)(H:ai)(R:It→ai→Prop),Inv X pins σ H s→iw σ H R→
  wpAny (model X.prog X.w) X.A (eval iter X.env) (fun v s1=>wpAny (model X.prog X.w) X.A (pyIter v) (Dn X pins σ bC R) X.xe s1) X.xe s
theorem vi{M:Model}{A:Around}{E:Value→Shared→Prop}{s:Shared}{bC:Expr}{it:Addr}{u:Value}{o:Obj}{n:String}{vs:Array Value}{Q:Unit→Shared→Prop}(ho:s.heap.get? it=some o)(hc:o.cls=.type n)(hd:o.data=.fields vs)(aC:["enumerate","zip","dict_itemiterator","dict_reverseitemiterator","odict_iterator","itertools.zip_longest","itertools.pairwise"].contains n=false)(fz:Q () s):wpAny M A (letOwnedTupleGo bC (.ref it) u) Q E s:=by
 unfold letOwnedTupleGo
 cases bC<;>first
  |exact wpAny_pure fz
  |(cases u<;>first
      |exact wpAny_pure fz
      |(refine wpAny_bind (wpAny_load ho ?_)
        rw[hc,hd];show wpAny M A (if(["enumerate","zip","dict_itemiterator","dict_reverseitemiterator","odict_iterator","itertools.zip_longest","itertools.pairwise"].contains n&&vs[0]?==some (rawInt _))=true then _ else _) Q E s;rw[if_neg (by intro h;rw[aC,Bool.false_and]at h;cases h)];exact wpAny_pure fz))
noncomputable def xG(K:PySem.W.Frag)(a:Addr):It:=
 ⟨fun i H=>∃xs x,bP K H a xs∧xs[i]?=some x,fun i H x H'=>H'=H∧∀xs,bP K H a xs→xs[i]?=some x,fun i H=>∃xs,bP K H a xs∧xs.length≤i⟩
noncomputable def xI(K:PySem.W.Frag)(a:Addr):It:=
 ⟨fun i H=>∃xs x,cS K H a xs∧xs[i]?=some x,fun i H x H'=>H'=H∧∀xs,cS K H a xs→xs[i]?=some x,fun i H=>∃xs,cS K H a xs∧xs.length≤i⟩
def ur(lo:Int)(n:Nat):It:=⟨fun i _=>i<n,fun i H x H'=>H'=H∧x=.int (lo+i),fun i _=>n≤i⟩
theorem Yg{P:Program}{w:World}{K:PySem.W.Frag}{bC:Expr}(a it:Addr):Turn P w K bC (xG K a) [it] it (fun i h=>h.IsListIter it a i) where
 mem:=by simp
 obj:=fun i h st b hb=>by
  have e:b=it:=by simpa using hb
  subst e;obtain⟨o,e,c,d⟩:=st;exact⟨o,e,fun v z=>by rw[d]at z;cases z⟩
 keep:=fun i h h' st k=>st.at fun o e=>k it (by simp) o e
 item:=by intro X de hw hK hc i pins s σ H E I hf st hg;subst de hw hK;obtain⟨xs,x,aJ,hx⟩:=hg;obtain⟨its,bV,p,bj⟩:=I.list aJ;obtain⟨u,hu,ed⟩:=bV.get hx;obtain⟨f0,f1,f2,ew,f4,hL⟩:=hf it (by simp);refine wpAny_pyNext_list_item st p.isList (x:=u) (by simpa using hu) fun h' lu eQ=>?_;have aQ:Inv X pins σ H { s with heap:=h' }:=I.turned (t':=s.toks) (fun b o hb e=>(eQ.2 b hb).trans e) f0 f1 ew f4 hL;obtain⟨o,e,c,d⟩:=id lu;exact⟨u,rfl,vi (s:={ s with heap:=h' }) e c d (by decide) ⟨x,H,aQ,ed,⟨rfl,fun ys bX=>by rw[I.z3 bX aJ];exact hx⟩,lu,fun b hb=>(hf b hb).1⟩⟩
 done:=by intro X de hw hK hc i pins s σ H E I hf st hg;subst de hw hK;obtain⟨xs,aJ,hx⟩:=hg;obtain⟨its,bV,p,bj⟩:=I.list aJ;obtain⟨f0,f1,f2,ew,f4,hL⟩:=hf it (by simp);have hl:=bV.length;exact wpAny_pyNext_list_end (I.ok.hd hc) st p.isList (by simp;omega) fun h' bb=>⟨rfl,I.turned (t':=s.toks) (fun b o hb e=>bb b o hb e) f0 f1 ew f4 hL⟩
 self:=fun _ _ _ _ _ st h=>wpAny_pyIter_listiter st h
theorem Yj{P:Program}{w:World}{K:PySem.W.Frag}{bC:Expr}(a it:Addr):Turn P w K bC (xI K a) [it] it (fun i h=>h.IsTupleIter it a i) where
 mem:=by simp
 obj:=fun i h st b hb=>by
  have e:b=it:=by simpa using hb
  subst e;obtain⟨o,e,c,d⟩:=st;exact⟨o,e,fun v z=>by rw[d]at z;cases z⟩
 keep:=fun i h h' st k=>st.at fun o e=>k it (by simp) o e
 item:=by intro X de hw hK hc i pins s σ H E I hf st hg;subst de hw hK;obtain⟨xs,x,aJ,hx⟩:=hg;obtain⟨its,bV,p,bj⟩:=I.tuple aJ;obtain⟨u,hu,ed⟩:=bV.get hx;obtain⟨f0,f1,f2,ew,f4,hL⟩:=hf it (by simp);refine wpAny_pyNext_tuple_item st (show s.heap.IsTuple a its.toArray from p) (x:=u) (by simpa using hu) fun h' lu eQ=>?_;have aQ:Inv X pins σ H { s with heap:=h' }:=I.turned (t':=s.toks) (fun b o hb e=>(eQ.2 b hb).trans e) f0 f1 ew f4 hL;obtain⟨o,e,c,d⟩:=id lu;exact⟨u,rfl,vi (s:={ s with heap:=h' }) e c d (by decide) ⟨x,H,aQ,ed,⟨rfl,fun ys bX=>by rw[I.Cp bX aJ];exact hx⟩,lu,fun b hb=>(hf b hb).1⟩⟩
 done:=by intro X de hw hK hc i pins s σ H E I hf st hg;subst de hw hK;obtain⟨xs,aJ,hx⟩:=hg;obtain⟨its,bV,p,bj⟩:=I.tuple aJ;obtain⟨f0,f1,f2,ew,f4,hL⟩:=hf it (by simp);have hl:=bV.length;exact wpAny_pyNext_tuple_end (I.ok.hd hc) st (show s.heap.IsTuple a its.toArray from p) (by simp;omega) fun h' bb=>⟨rfl,I.turned (t':=s.toks) (fun b o hb e=>bb b o hb e) f0 f1 ew f4 hL⟩
 self:=fun _ _ _ _ _ st h=>wpAny_pyIter_tupleiter st h
theorem Yh{P:Program}{w:World}{K:PySem.W.Frag}{bC:Expr}(it:Addr)(lo:Int)(n:Nat):Turn P w K bC (ur lo n) [it] it (fun i h=>IsRangeIter h it (lo+(i:Nat)*1) ((n:Int)-(i:Nat)) 1) where
 mem:=by simp
 obj:=fun i h st b hb=>by
  have e:b=it:=by simpa using hb
  subst e;exact⟨_,st,fun v z=>by have fb:Data.fields _=Data.cell v:=z;cases fb⟩
 keep:=fun i h h' st k=>k it (by simp) _ st
 item:=by intro X de hw hK hc i pins s σ H E I hf st hg;subst de hw hK;obtain⟨f0,f1,f2,ew,f4,hL⟩:=hf it (by simp);have W:=Walks.range (prog:=X.prog) (w:=X.w) (I.ok.hd hc) it lo 1 n;refine W.item i s _ _ hg st fun v h' cX hv lu cv=>?_;obtain⟨t,rfl⟩:=hv;have aQ:Inv X pins σ H { s with heap:=h',toks:=cX }:=I.turned (fun b o hb e=>cv b o (by simpa using hb) e) f0 f1 ew f4 hL;refine⟨_,rfl,vi (s:={ s with heap:=h',toks:=cX }) (n:="range_iterator") lu rfl rfl (by decide) ⟨.int (lo+i),H,aQ,⟨t,?_⟩,⟨rfl,rfl⟩,lu,fun b hb=>(hf b hb).1⟩⟩;rw[Int.mul_one]
 done:=by intro X de hw hK hc i pins s σ H E I hf st hg;subst de hw hK;obtain⟨f0,f1,f2,ew,f4,hL⟩:=hf it (by simp);exact wpAny_pyNext_range_end (I.ok.hd hc) st (by have:n≤i:=hg;omega) fun h' bb=>⟨rfl,I.turned (t':=s.toks) (fun b o hb e=>bb b o hb e) f0 f1 ew f4 hL⟩
 self:=fun _ _ _ _ _ st h=>wpAny_pyIter_rangeiter st h
section
variable{X:aM}{bC:Expr}
noncomputable def GB(K:PySem.W.Frag)(bH:TE):TI:=fun σ H R=>bH σ H fun x H1=>∃a,x=.ref a∧(∃xs,bP K H1 a xs)∧R (xG K a) H1
noncomputable def GF(K:PySem.W.Frag)(bH:TE):TI:=fun σ H R=>bH σ H fun x H1=>∃a,x=.ref a∧(∃xs,cS K H1 a xs)∧R (xI K a) H1
theorem UP{l:Expr}{bH:TE}(hl:a3 X l bH):fR X bC l (GB X.K bH):=by
 intro pins s σ H R I h;refine bL (hl pins s σ H _ I h) fun v s1⟨x,H1,aQ,au,aS⟩=>?_;obtain⟨a,e,⟨xs,aJ⟩,q⟩:=aS;subst e;cases au;obtain⟨its,bV,p,bj⟩:=aQ.list aJ;refine wpAny_pyIter_list p.isList ?_;refine⟨s1.heap.objs.size,[s1.heap.objs.size],_,_,H1,rfl,aQ.kept (t':=s1.toks) fun b o e=>Heap.get?_push_of_some _ e,Yg a _,⟨_,Heap.get?_push_size _ rfl,rfl,rfl⟩,fun b hb=>?_,q⟩;have e:b=s1.heap.objs.size:=by simpa using hb
 subst e;exact aQ.mD (Nat.le_refl _) (aQ.bF.fresh (Nat.le_refl _))
theorem US{l:Expr}{bH:TE}(hl:a3 X l bH):fR X bC l (GF X.K bH):=by
 intro pins s σ H R I h;refine bL (hl pins s σ H _ I h) fun v s1⟨x,H1,aQ,au,aS⟩=>?_;obtain⟨a,e,⟨xs,aJ⟩,q⟩:=aS;subst e;cases au;obtain⟨its,bV,p,bj⟩:=aQ.tuple aJ;refine wpAny_pyIter_tuple (show s1.heap.IsTuple a its.toArray from p) ?_;refine⟨s1.heap.objs.size,[s1.heap.objs.size],_,_,H1,rfl,aQ.kept (t':=s1.toks) fun b o e=>Heap.get?_push_of_some _ e,Yj a _,⟨_,Heap.get?_push_size _ rfl,rfl,rfl⟩,fun b hb=>?_,q⟩;have e:b=s1.heap.objs.size:=by simpa using hb
 subst e;exact aQ.mD (Nat.le_refl _) (aQ.bF.fresh (Nat.le_refl _))
theorem VB{pins:List (Addr×Obj)}{σ :St}{H:ai}{s:Shared}{R:It→ai→Prop}{E:Value→Shared→Prop}{lo hi:Int}{t u v:Tok}{cX:Nat}(I:Inv X pins σ H s)(h1: -(2^62)≤lo)(h2:lo<2^62)(h3: -(2^62)≤hi)(h4:hi<2^62)(q:R (ur lo (hi-lo).toNat) H):wpAny (model X.prog X.w) X.A (pyIter (.ref s.heap.objs.size)) (Dn X pins σ bC R) E { s with heap:=s.heap.push { cls:=.type "range",data:=.fields #[.int lo t,.int hi u,.int 1 v] },toks:=cX }:=by
 refine wpAny_pyIter_range (IsRange.new ..) (small_one h1 h2 h3 h4) ?_;have aQ:Inv X pins σ H { s with heap:=s.heap.push { cls:=.type "range",data:=.fields #[.int lo t,.int hi u,.int 1 v] },toks:=cX }:=I.kept fun b o e=>Heap.get?_push_of_some _ e
 refine⟨(s.heap.push { cls:=.type "range",data:=.fields #[.int lo t,.int hi u,.int 1 v] }).objs.size,[(s.heap.push { cls:=.type "range",data:=.fields #[.int lo t,.int hi u,.int 1 v] }).objs.size],_,_,H,rfl,
  aQ.kept (t':=cX) fun b o e=>Heap.get?_push_of_some _ e,Yh _ lo (hi-lo).toNat,?_,fun b hb=>?_,q⟩
 ·have aq:lo+((0:Nat):Int)*1=lo:=by simp
  have az:(((hi-lo).toNat:Nat):Int)-((0:Nat):Int)=Builtin.Range.rangeSize lo hi 1:=by rw[rangeSize_one];split<;>omega
  show IsRangeIter _ _ (lo+((0:Nat):Int)*1) ((((hi-lo).toNat:Nat):Int)-((0:Nat):Int)) 1;rw[aq,az];exact Heap.get?_push_size _ rfl
 ·have e:b=(s.heap.push { cls:=.type "range",data:=.fields #[.int lo t,.int hi u,.int 1 v] }).objs.size:=by simpa using hb
  subst e;exact aQ.mD (Nat.le_refl _) (aQ.bF.fresh (Nat.le_refl _))
noncomputable def GC(b1:er):TI:=fun σ H R=>b1 σ H fun vs H1=>∃j:Int,vs=[.int j]∧-(2^62)≤j∧j<2^62∧R (ur 0 j.toNat) H1
theorem UQ{a:Expr}{b1:er}{p pos:Pos}(hg:cU X "range")(hm:X.mg "range"=none)(ha:eT X [a] b1)(hs:starEach [a] X.env=[(false,eval a X.env)]:=by rfl):fR X bC (.Call (.Name "range" p) [a] [] pos) (GC b1):=by
 intro pins s σ H R I h;refine Call_ (mL I hg hm boot_range (PyProof.Rows.callWith_type1 (bL (ha pos pins s σ H _ I h) fun us s1⟨vs,H1,aQ,au,aS⟩=>?_) hs rfl));obtain⟨j,e,aS,bl,q⟩:=aS;subst e;cases au with
 |cons r lp=>cases lp;obtain⟨t,rfl⟩:=r;exact call_range_1 (VB aQ (by omega) (by omega) aS bl (by simpa using q))
noncomputable def JG(iw:TI)(g:hH)(tb:eM):eM:=fun D σ H=>iw σ H fun cq H1=>∃W:Nat→Nat→St→ai→Prop,(∃m,W 0 m σ H1)∧∀i m σ H,W i m σ H→
 (cq.stop i H∧D.bq σ H)∨(cq.go i H∧∃N:St→ai→Prop,(∀ σ' H',N σ' H'→∃c0,c0<m∧W (i+1) c0 σ' H')∧∀x H',cq.i2 i H x H'→g x σ H' fun σ2 a9=>tb { D with bq:=N,cK:=N,fG:=D.bq } σ2 a9)
def tO(a6:List Addr)(h:Heap):List (Addr×Obj):=a6.filterMap fun b=>(h.get? b).map fun o=>(b,o)
theorem v3{a6:List Addr}{h:Heap}{b:Addr}{o:Obj}(hb:b∈a6)(e:h.get? b=some o):(b,o)∈tO a6 h:=List.mem_filterMap.mpr ⟨b,hb,by rw[e];rfl⟩
theorem TG{a6:List Addr}{h:Heap}{p:Addr×Obj}(hp:p∈tO a6 h):p.1∈a6∧h.get? p.1=some p.2:=by
 obtain⟨b,hb,e⟩:=List.mem_filterMap.mp hp;cases q:h.get? b with
 |none=>rw[q]at e;cases e
 |some o=>rw[q]at e;have b6:(b,o)=p:=Option.some.inj e;subst b6;exact⟨hb,q⟩
theorem Inv.pinned{pins:List (Addr×Obj)}{σ :St}{H:ai}{s:Shared}{a6:List Addr}(I:Inv X pins σ H s)(hf:∀b∈a6,i4 X pins H b)(ho:∀b∈a6,∃o,s.heap.get? b=some o∧∀v,o.data≠.cell v):Inv X (pins++tO a6 s.heap) σ H s:=
 I.Im fun p hp=>(List.mem_append.mp hp).elim (fun z=>I.pin p (List.mem_append_right _ z)) fun z=>by obtain⟨hb,e⟩:=TG z;obtain⟨f0,f1,f2,_⟩:=hf p.1 hb;obtain⟨o,b6,d⟩:=ho p.1 hb;rw[e]at b6;cases b6;exact⟨e,f0,f1,f2,d⟩
theorem Inv.w8{pins pl:List (Addr×Obj)}{σ :St}{H:ai}{s:Shared}(I:Inv X (pins++pl) σ H s):Inv X pins σ H s:=I.Im fun p hp=>I.pin p (List.mem_append_right _ (List.mem_append_left _ hp))
theorem Vb{iter:Expr}{body:List Stmt}{iw:TI}{g:hH}{tb:eM}{pos:Pos}(hp:PassesOwn (model X.prog X.w) X.A X.env X.xe)(hc:X.calm=true)(hi:fR X bC iter iw)(hg:i5 X bC g)(hb:fS X body tb)(hs:∀x,foldedSetIterable iter X.env x=pure x:=by intro _;rfl):dr X (.For bC iter body [] pos) (JG iw g tb):=by
 intro pins s σ H D I h;refine wpAny_For (bL (hi pins s σ H _ I h) fun v s1 h1=>bL h1 fun vF s2 h2=>?_) hs;obtain⟨it,a6,gD,cq,a9,e,b5,T,ky,f2,W,⟨m0,nf⟩,turn⟩:=h2;subst e;have stat:∀{H':ai},(∀b∈a6,H' b=none)→∀b∈a6,i4 X pins H' b:=fun aC b hb=>⟨aC b hb,(f2 b hb).2⟩;refine codeAny_forLoop_any (fun n s'=>∃i σ' H',Inv X pins σ' H' s'∧gD i s'.heap∧(∀b∈a6,H' b=none)∧W i n σ' H') ?_ m0 ⟨0,σ,a9,b5,ky,fun b hb=>(f2 b hb).1,nf⟩;rintro n s3 ⟨i,σ3,dk,d9,Jn,FT,ng⟩;rcases turn i n σ3 dk ng with⟨stop,qn⟩|⟨go,N,hN,step⟩
 ·refine wpAny_passesOwn hp (bL (T.done X rfl rfl rfl hc i pins s3 σ3 dk X.xe d9 (stat FT) Jn stop) fun r s4⟨hr,j7⟩=>?_);subst hr;exact wpAny_execs_nil ⟨σ3,dk,j7,qn⟩
 ·refine wpAny_passesOwn hp (bL (T.item X rfl rfl rfl hc i pins s3 σ3 dk X.xe d9 (stat FT) Jn go) fun r s4⟨u,hr,h4⟩=>?_);subst hr;refine wpAny_passesOwn hp (bL h4 fun _ s5⟨x,iz,qx,oi,l8,rL,vc⟩=>?_);have KY:=qx.pinned (stat vc) (T.obj _ _ rL);refine wpAny_passesOwn hp (bL (hg _ s5 σ3 iz x u _ KY oi (step x iz l8)) fun _ cT⟨σ6,qw,r3,kv⟩=>?_);refine wpAny_passesOwn hp (bL (hb _ cT σ6 qw _ r3 kv) fun f cR iq=>?_);have again:∀{σ7:St}{gf:ai},Inv X (pins++tO a6 s5.heap) σ7 gf cR→N σ7 gf→∃m,m<n∧∃i σ' H',Inv X pins σ' H' cR∧gD i cR.heap∧(∀b∈a6,H' b=none)∧W i m σ' H':=fun{σ7 gf} jy tE=>by
   obtain⟨c0,hm,YI⟩:=hN σ7 gf tE;refine⟨c0,hm,i+1,σ7,gf,jy.w8,T.keep _ _ _ rL fun b hb o e=>(jy.pin (b,o) (List.mem_append_right _ (List.mem_append_right _ (v3 hb e)))).1,fun b hb=>?_,YI⟩;obtain⟨o,e,d⟩:=T.obj _ _ rL b hb;exact(jy.pin (b,o) (List.mem_append_right _ (List.mem_append_right _ (v3 hb e)))).2.1
  cases f with
  |next=>obtain⟨σ7,gf,jy,tE⟩:=iq;exact again jy tE
  |cont=>obtain⟨σ7,gf,jy,tE⟩:=iq;exact again jy tE
  |brk=>obtain⟨σ7,gf,jy,iq⟩:=iq;exact⟨σ7,gf,jy.w8,iq⟩
  |ret v=>obtain⟨rQ,σ7,gf,jy,g_,iq⟩:=iq;exact⟨rQ,σ7,gf,jy.w8,g_,iq⟩
end
abbrev ep:=V→V→ai→cP→Prop
noncomputable def dF(X:aM)(f:Value→Value→Sem Value)(r:ep):Prop:=
 ∀(pins:List (Addr×Obj))(s:Shared)(σ :St)(H:ai)(x y:V)(v u:Value)(Q:cP),Inv X pins σ H s→RelV x v→RelV y u→r x y H Q→
  wpAny (model X.prog X.w) X.A (f v u) (gb X pins σ Q) X.xe s
noncomputable def gR(X:aM)(f:Value)(r:List V→ai→cP→Prop):Prop:=
 ∀(pins:List (Addr×Obj))(s:Shared)(σ :St)(H:ai)(xs:List V)(us:List Value)(Q:cP),Inv X pins σ H s→Vals xs us→r xs H Q→
  wpAny (model X.prog X.w) X.A (call f us) (gb X pins σ Q) X.xe s
noncomputable def K_(X:aM)(r:V→ai→(Bool→ai→Prop)→Prop):Prop:=
 ∀(pins:List (Addr×Obj))(s:Shared)(σ :St)(H:ai)(x:V)(v:Value)(Q:Bool→ai→Prop),Inv X pins σ H s→RelV x v→r x H Q→
  wpAny (model X.prog X.w) X.A (truthy v) (uC X pins σ Q) X.xe s
def t6(r:ep)(b1 tb:TE):TE:=fun σ H Q=>b1 σ H fun x H1=>tb σ H1 fun y a9=>r x y a9 Q
def rE(C:Int→Int→Prop)(g:Int→Int→V):ep:=fun x y H Q=>∃i j,x=.int i∧y=.int j∧C i j∧Q (g i j) H
def ll(g:Int→Int→V):ep:=fun x y H Q=>∃i j,x=.int i∧y=.int j∧Q (g i j) H
section
variable{X:aM}{a b c:Expr}{b1 tb f6:TE}{pos:Pos}
theorem yG(ha:a3 X a b1)(hb:a3 X b tb){pins:List (Addr×Obj)}{s:Shared}{σ :St}{H:ai}{R:V→V→ai→Prop}(I:Inv X pins σ H s)(h:b1 σ H fun x H1=>tb σ H1 fun y a9=>R x y a9){Q:Value→Shared→Prop}{f:Value→Value→Sem Value}(hf:∀v u s2 x y a9,Inv X pins σ a9 s2→RelV x v→RelV y u→R x y a9→wpAny (model X.prog X.w) X.A (f v u) Q X.xe s2) :
  wpAny (model X.prog X.w) X.A (eval a X.env) (fun v c4=>wpAny (model X.prog X.w) X.A (eval b X.env) (fun u lx=>wpAny (model X.prog X.w) X.A (f v u) Q X.xe lx) X.xe c4) X.xe s:=by
 refine bL (ha pins s σ H _ I h) fun v s1⟨x,H1,aQ,au,aS⟩=>?_;refine bL (hb pins s1 σ H1 _ aQ aS) fun u s2⟨y,a9,b5,bh,bl⟩=>?_;exact hf v u s2 x y a9 b5 au bh bl
theorem UJ{op:Operator}{r:ep}(ho:dF X (binaryOp op) r)(ha:a3 X a b1)(hb:a3 X b tb):a3 X (.BinOp a op b pos) (t6 r b1 tb):=by intro pins s σ H Q I h;exact wpAny_BinOp (yG ha hb I h fun v u s2 x y a9 b5 bw b9 q=>ho pins s2 σ a9 x y v u Q b5 bw b9 q)
theorem wd{f:Value→Value→Sem Value}{C:Int→Int→Prop}{g:Int→Int→Int}(rule:∀(i j:Int)(t u:Tok)(s:Shared)(Q:Value→Shared→Prop)(E:Value→Shared→Prop),C i j→Q (.int (g i j) s.toks) { s with toks:=s.toks+1 }→wpAny (model X.prog X.w) X.A (f (.int i t) (.int j u)) Q E s) :
  dF X f (rE C fun i j=>.int (g i j)):=by
 intro pins s σ H x y v u Q I bw b9 h;obtain⟨i,j,rfl,rfl,hc,q⟩:=h;obtain⟨t,rfl⟩:=bw;obtain⟨t',rfl⟩:=b9;exact rule i j t t' s _ _ hc ⟨.int (g i j),H,I.tok _,⟨_,rfl⟩,q⟩
theorem HY{f:Value→Value→Sem Value}{g:Int→Int→Int}(rule:∀(i j:Int)(t u:Tok)(s:Shared)(Q:Value→Shared→Prop)(E:Value→Shared→Prop),Q (.int (g i j) s.toks) { s with toks:=s.toks+1 }→wpAny (model X.prog X.w) X.A (f (.int i t) (.int j u)) Q E s) :
  dF X f (ll fun i j=>.int (g i j)):=by
 intro pins s σ H x y v u Q I bw b9 h;obtain⟨i,j,rfl,rfl,q⟩:=h;obtain⟨t,rfl⟩:=bw;obtain⟨t',rfl⟩:=b9;exact rule i j t t' s _ _ ⟨.int (g i j),H,I.tok _,⟨_,rfl⟩,q⟩
theorem As{f:Value→Value→Sem Value}{g:Int→Int→Bool}(rule:∀(i j:Int)(t u:Tok)(s:Shared)(Q:Value→Shared→Prop)(E:Value→Shared→Prop),Q (.bool (g i j)) s→wpAny (model X.prog X.w) X.A (f (.int i t) (.int j u)) Q E s) :
  dF X f (ll fun i j=>.ax (g i j)):=by
 intro pins s σ H x y v u Q I bw b9 h;obtain⟨i,j,rfl,rfl,q⟩:=h;obtain⟨t,rfl⟩:=bw;obtain⟨t',rfl⟩:=b9;exact rule i j t t' s _ _ ⟨.ax (g i j),H,I,rfl,q⟩
def uk(i j:Int):Prop:=0<j∧j<1073741824
def rX(i j:Int):Prop:=0≤j∧j≤1000000∧i.natAbs<2^64
def qu(i j:Int):Prop:=(-(2^64)<i∧i<2^64)∨(-(2^64)<j∧j<2^64)
theorem qu.ok{i j:Int}(h:qu i j):IntMulOk i j:=by
 rcases h with⟨h1,h2⟩|⟨h1,h2⟩
 ·exact .of_left (intBits_le_64 h1 h2)
 ·exact .of_right (intBits_le_64 h1 h2)
theorem TZ:dF X (binaryOp .Add) (ll fun i j=>.int (i+j)):=HY fun _ _ _ _ _ _ _ q=>add_int q
theorem T9:dF X (binaryOp .Sub) (ll fun i j=>.int (i-j)):=HY fun _ _ _ _ _ _ _ q=>sub_int q
theorem T5:dF X (binaryOp .Mult) (rE qu fun i j=>.int (i*j)):=wd fun _ _ _ _ _ _ _ hc q=>mul_int q hc.ok
theorem T3:dF X (binaryOp .FloorDiv) (rE uk fun i j=>.int (i/j)):=wd fun i j _ _ _ _ _ hc q=>by have h1:(0:Int)<j:=hc.1;have h2:j<1073741824:=hc.2;exact floordiv_int (by omega) (by rw[Int.fdiv_eq_ediv_of_nonneg i (by omega)];exact q) (.inl (PyProof.noPylong_small (by omega)))
theorem T4:dF X (binaryOp .Mod) (rE (fun _ j=>0<j) fun i j=>.int (i%j)):=wd fun i j _ _ _ _ _ hc q=>by have h1:(0:Int)<j:=hc;exact mod_int' (by omega) (by rw[Int.fmod_eq_emod_of_nonneg i (by omega)];exact q)
theorem T7:dF X (binaryOp .Pow) (rE rX fun i j=>.int (i^j.toNat)):=wd fun _ _ _ _ _ _ _ hc q=>pow_int_small hc.1 hc.2.1 hc.2.2 q
end
noncomputable def I4:V→V→Bool
 |.non,.non=>true|.non,.int _=>true|.int _,.non=>true|.non,.ax _=>true|.ax _,.non=>true|.non,.str _=>true|.str _,.non=>true
 |.int _,.int _=>true|.ax _,.ax _=>true|.str _,.str _=>true|.lN _,.lN _=>true
 |.int _,.str _=>true|.str _,.int _=>true|.ax _,.str _=>true|.str _,.ax _=>true
 |_,_=>false
section
variable{X:aM}{a b c:Expr}{b1 tb f6:TE}{pos:Pos}
theorem FK{pins:List (Addr×Obj)}{σ :St}{H:ai}{s:Shared}{Q:cP}{k k':Bool}(I:Inv X pins σ H s)(q:Q (.ax k) H)(e:k=k'):gb X pins σ Q (.bool k') s:=by subst e;exact⟨.ax k,H,I,rfl,q⟩
theorem H4:dF X (compareOp .Lt) (ll fun i j=>.ax (decide (i<j))):=As fun _ _ _ _ _ _ _ q=>lt_int q
theorem tL:dF X (compareOp .LtE) (ll fun i j=>.ax (decide (i≤j))):=As fun _ _ _ _ _ _ _ q=>le_int q
theorem H0:dF X (compareOp .Gt) (ll fun i j=>.ax (decide (j<i))):=As fun _ _ _ _ _ _ _ q=>gt_int q
theorem H3:dF X (compareOp .Is) (fun x y H Q=>y=.non∧Q (.ax (decide (x=.non))) H):=by
 intro pins s σ H x y v u Q I bw b9 h;obtain⟨rfl,q⟩:=h;cases b9;refine is_none_gen (FK I q ?_)
 cases x<;>first
  |(cases bw;rfl)
  |(obtain⟨t,rfl⟩:=bw;rfl)
theorem H6:dF X (compareOp .IsNot) (fun x y H Q=>y=.non∧Q (.ax (!decide (x=.non))) H):=by
 intro pins s σ H x y v u Q I bw b9 h;obtain⟨rfl,q⟩:=h;cases b9;refine isnot_none_gen (FK I q ?_)
 cases x<;>first
  |(cases bw;rfl)
  |(obtain⟨t,rfl⟩:=bw;rfl)
theorem dF.or{f:Value→Value→Sem Value}{r bf:ep}(h:dF X f r)(h':dF X f bf):dF X f (fun x y H Q=>r x y H Q∨bf x y H Q):=by
 intro pins s σ H x y v u Q I bw b9 q;rcases q with q|q
 ·exact h pins s σ H x y v u Q I bw b9 q
 ·exact h' pins s σ H x y v u Q I bw b9 q
theorem la(b:Expr){op:CmpOp}(h:op≠.In:=by decide)(h2:op≠.NotIn:=by decide):behindInMarks op b=false:=by
 have aq:(op==CmpOp.In)=false:=by cases op<;>first|rfl|exact absurd rfl h
 have az:(op==CmpOp.NotIn)=false:=by cases op<;>first|rfl|exact absurd rfl h2
 cases b<;>simp[behindInMarks,aq,az]
theorem Ur{op:CmpOp}{r:ep}(ho:dF X (compareOp op) r)(ha:a3 X a b1)(hb:a3 X b tb)(hm:behindInMarks op b=false):a3 X (.Compare a [op] [b] pos) (t6 r b1 tb):=by intro pins s σ H Q I h;exact wpAny_Compare1 (yG ha hb I h fun v u s2 x y a9 b5 bw b9 q=>ho pins s2 σ a9 x y v u Q b5 bw b9 q) hm
def Cd(t:TE):TT:=fun σ H Q=>t σ H fun x H'=>∃k,x=.ax k∧Q k H'
theorem Vf{op:CmpOp}{r:ep}(ho:dF X (compareOp op) r)(ha:a3 X a b1)(hb:a3 X b tb)(hm:behindInMarks op b=false):eU X (.Compare a [op] [b] pos) (Cd (t6 r b1 tb)):=by
 intro pins s σ H Q I h;refine wpAny_isTrue_Compare1 (bL (ha pins s σ H _ I h) fun v s1⟨x,H1,aQ,au,aS⟩=>bL (hb pins s1 σ H1 _ aQ aS) fun u s2⟨y,a9,b5,bh,bl⟩=>
  bL (ho pins s2 σ a9 x y v u _ b5 au bh bl) fun c s3⟨z,dk,d9,dX,k,e,dw⟩=>?_) hm
 subst e;cases dX;exact wpAny_truthy_bool ⟨dk,d9,dw⟩
noncomputable def B8(r bf:ep)(b1 tb f6:TE):TE:=fun σ H Q=>b1 σ H fun x H1=>tb σ H1 fun y a9=>r x y a9 fun z dk=>∃k,z=.ax k∧
 (if k=true then f6 σ dk fun fq gG=>bf y fq gG Q else Q (.ax false) dk)
theorem Up{op f3:CmpOp}{r bf:ep}(ho:dF X (compareOp op) r)(ho':dF X (compareOp f3) bf)(ha:a3 X a b1)(hb:a3 X b tb)(hc:a3 X c f6)(hm:lastMarks [op,f3] [b,c]=false:=by with_unfolding_all rfl):a3 X (.Compare a [op,f3] [b,c] pos) (B8 r bf b1 tb f6):=by
 intro pins s σ H Q I h;refine Compare_chain (bL (ha pins s σ H _ I h) fun v s1⟨x,H1,aQ,au,aS⟩=>chain_link (bL (hb pins s1 σ H1 _ aQ aS) fun u s2⟨y,a9,b5,bh,bl⟩=>
  bL (ho pins s2 σ a9 x y v u _ b5 au bh bl) fun d s3⟨z,dk,d9,dX,k,e,dw⟩=>?_)) hm
 subst e;cases dX;refine wpAny_truthy_bool ?_;cases k with
 |false=>exact ite_ff ⟨.ax false,dk,d9,rfl,dw⟩
 |true=>exact ite_tt (chain_last (bL (hc pins s3 σ dk _ d9 dw) fun fq s4⟨fb,gG,j7,l1,lh⟩=>ho' pins s4 σ gG y fb u fq Q j7 bh l1 lh))
theorem Ve{op f3:CmpOp}{r bf:ep}(ho:dF X (compareOp op) r)(ho':dF X (compareOp f3) bf)(ha:a3 X a b1)(hb:a3 X b tb)(hc:a3 X c f6)(hm:lastMarks [op,f3] [b,c]=false:=by with_unfolding_all rfl):eU X (.Compare a [op,f3] [b,c] pos) (Cd (B8 r bf b1 tb f6)):=by
 intro pins s σ H Q I h;refine isTrue_chain (bL (ha pins s σ H _ I h) fun v s1⟨x,H1,aQ,au,aS⟩=>test_link (bL (hb pins s1 σ H1 _ aQ aS) fun u s2⟨y,a9,b5,bh,bl⟩=>
  bL (ho pins s2 σ a9 x y v u _ b5 au bh bl) fun d s3⟨z,dk,d9,dX,k,e,dw⟩=>?_)) hm
 subst e;cases dX;refine wpAny_truthy_bool ?_;cases k with
 |false=>obtain⟨k',b6,dR⟩:=dw;cases b6;exact ite_ff ⟨dk,d9,dR⟩
 |true=>refine ite_tt (test_last (bL (hc pins s3 σ dk _ d9 dw) fun fq s4⟨fb,gG,j7,l1,lh⟩=>bL (ho' pins s4 σ gG y fb u fq _ j7 bh l1 lh) fun d' s5⟨aZ,iz,qx,oi,k2,az,pV⟩=>?_));subst az;cases oi;exact wpAny_truthy_bool ⟨iz,qx,pV⟩
noncomputable def La(K:PySem.W.Frag)(x:V)(H:ai)(k:Bool):Prop:=
 match x with
 |.non=>k=false
 |.ax b=>k=b
 |.int i=>k=(i !=0)
 |.str y=>y.length≤sizeLine∧k=((y.length:Int) !=0)
 |.lN y=>y.size≤sizeLine∧k=((y.size:Int) !=0)
 |.ref p=>(∃xs,bP K H p xs∧k=!xs.isEmpty)∨(∃xs,cS K H p xs∧k=!xs.isEmpty)∨∃aV,H p=some (.dm aV)∧k=!aV.isEmpty
 |_=>False
theorem QM{κ:Type}{aV:List (κ×V)}{vs:List (κ×Value)}(r:gp aV vs):(!vs.isEmpty)=!aV.isEmpty:=by cases r<;>rfl
theorem GY{xs:List V}{its:List Value}(r:Vals xs its):(!its.toArray.isEmpty)=!xs.isEmpty:=by cases r<;>simp
theorem tc:(sizeLine:Nat)<2^63:=by rw[sizeLine_eq];decide
theorem abv:K_ X (fun x H Q=>∃k,La X.K x H k∧Q k H):=by
 intro pins s σ H x v Q I bw h;obtain⟨k,e,q⟩:=h;have hl:=tc;have hs:sizeLine=16777216:=sizeLine_eq;cases x with
 |non=>cases bw;have b6:k=false:=e;subst b6;exact truthy_none ⟨H,I,q⟩
 |ax b=>cases bw;have b6:k=b:=e;subst b6;exact wpAny_truthy_bool ⟨H,I,q⟩
 |int i=>obtain⟨t,rfl⟩:=bw;have b6:k=(i !=0):=e;subst b6;exact PySem.P.truthy_int ⟨H,I,q⟩
 |str y=>obtain⟨t,rfl⟩:=bw;obtain⟨bX,b6⟩:y.length≤sizeLine∧k=((y.length:Int) !=0):=e;subst b6;exact PySem.P.truthy_str (by omega) ⟨H,I.tok _,q⟩
 |lN y=>obtain⟨t,rfl⟩:=bw;obtain⟨bX,b6⟩:y.size≤sizeLine∧k=((y.size:Int) !=0):=e;subst b6;exact PySem.W.truthy_bytes (by omega) ⟨H,I.tok _,q⟩
 |ref p=>
  cases bw;have b6:(∃xs,bP X.K H p xs∧k=!xs.isEmpty)∨(∃xs,cS X.K H p xs∧k=!xs.isEmpty)∨∃aV,H p=some (.dm aV)∧k=!aV.isEmpty:=e;rcases b6 with⟨xs,hx,b6⟩|⟨xs,hx,b6⟩|⟨aV,hx,b6⟩
  ·subst b6;obtain⟨its,r,pl,bj⟩:=I.list hx;have hlen:=r.length;exact wpAny_truthy_list pl.isList (by simp only[List.size_toArray];omega) ⟨H,I.tok _,by rw[GY r];exact q⟩
  ·subst b6;obtain⟨its,r,pl,bj⟩:=I.tuple hx;have hlen:=r.length;exact truthy_tuple pl (by simp only[List.size_toArray];omega) ⟨H,I.tok _,by rw[GY r];exact q⟩
  ·subst b6;obtain⟨bj,ih,vs,r,m⟩:aV.length≤sizeLine∧(p==sysModules)=false∧∃vs,gp aV vs∧s.heap.DictOf (hW X.prog X.w) p vs:=I.bF p _ hx;have hlen:aV.length=vs.length:=Paired.length r;exact wpAny_truthy_dict ih m (by omega) ⟨H,I.tok _,by rw[QM r];exact q⟩
 |_=>exact(show False from e).elim
theorem T1:dF X (binaryOp .Add) (fun x y H Q=>∃i j,x=.str i∧y=.str j∧i.length+j.length≤sizeLine∧Q (.str (i++j)) H):=by intro pins s σ H x y v u Q I bw b9 h;obtain⟨i,j,rfl,rfl,bj,q⟩:=h;obtain⟨t,rfl⟩:=bw;obtain⟨t',rfl⟩:=b9;exact add_str (fun t' cX=>⟨.str (i++j),H,I.tok _,⟨_,rfl⟩,q⟩) bj
theorem vals1{x:V}{us:List Value}(r:Vals [x] us):∃u,us=[u]∧RelV x u:=by
 cases r with
 |cons au bh=>cases bh;exact⟨_,rfl,au⟩
theorem vals2{x y:V}{us:List Value}(r:Vals [x,y] us):∃u fq,us=[u,fq]∧RelV x u∧RelV y fq:=by
 cases r with
 |cons au bh=>
  cases bh with
  |cons dX l1=>cases l1;exact⟨_,_,rfl,au,dX⟩
theorem LW:gR X (.type "int") (fun xs H Q=>(∃i,xs=[.int i]∧Q (.int i) H)∨∃k,xs=[.ax k]∧Q (.int (if k then 1 else 0)) H):=by
 intro pins s σ H xs us Q I r h;rcases h with⟨i,rfl,q⟩|⟨k,rfl,q⟩
 ·obtain⟨u,rfl,t,rfl⟩:=vals1 r;exact call_int_int ⟨.int i,H,I,⟨_,rfl⟩,q⟩
 ·obtain⟨u,rfl,au⟩:=vals1 r;cases au;exact call_int_bool ⟨.int (if k then 1 else 0),H,I.tok _,⟨_,rfl⟩,q⟩
theorem L4:gR X (.type "str") (fun xs H Q=>∃i,xs=[.int i]∧i.natAbs.log2<1920∧Q (.str (toString i)) H):=by intro pins s σ H xs us Q I r h;obtain⟨i,rfl,bj,q⟩:=h;obtain⟨u,rfl,t,rfl⟩:=vals1 r;exact PySem.P.str_of_int bj ⟨.str _,H,I.tok _,⟨_,rfl⟩,q⟩
noncomputable def Dm(K:PySem.W.Frag)(x:V)(H:ai)(n:Nat):Prop:=
 match x with
 |.str y=>y.length≤sizeLine∧n=y.length
 |.lN y=>y.size≤sizeLine∧n=y.size
 |.ref p=>(∃xs,bP K H p xs∧n=xs.length)∨∃xs,cS K H p xs∧n=xs.length
 |_=>False
theorem LZ:gR X (.builtin "len") (fun xs H Q=>∃x n,xs=[x]∧Dm X.K x H n∧Q (.int n) H):=by
 intro pins s σ H xs us Q I r h;obtain⟨x,n,rfl,e,q⟩:=h;obtain⟨u,rfl,bw⟩:=vals1 r;have hl:=tc;have hs:sizeLine=16777216:=sizeLine_eq;cases x with
 |str y=>obtain⟨t,rfl⟩:=bw;obtain⟨bX,b6⟩:y.length≤sizeLine∧n=y.length:=e;subst b6;exact len_str (by omega) ⟨.int _,H,I.tok _,⟨_,rfl⟩,q⟩
 |lN y=>obtain⟨t,rfl⟩:=bw;obtain⟨bX,b6⟩:y.size≤sizeLine∧n=y.size:=e;subst b6;exact PySem.W.len_bytes (by omega) ⟨.int _,H,I.tok _,⟨_,rfl⟩,q⟩
 |ref p=>
  cases bw;have b6:(∃xs,bP X.K H p xs∧n=xs.length)∨∃xs,cS X.K H p xs∧n=xs.length:=e;rcases b6 with⟨xs,hx,b6⟩|⟨xs,hx,b6⟩
  ·subst b6;obtain⟨its,bf,pl,bj⟩:=I.list hx;have hlen:=bf.length;exact Calls.call_len_list pl.isList (by simp only[List.size_toArray];omega) ⟨.int xs.length,H,I.tok _,⟨_,by simp only[List.size_toArray];rw[hlen]⟩,q⟩
  ·subst b6;obtain⟨its,bf,pl,bj⟩:=I.tuple hx;have hlen:=bf.length;exact len_tuple pl (by simp only[List.size_toArray];omega) ⟨.int xs.length,H,I.tok _,⟨_,by simp only[List.size_toArray];rw[hlen]⟩,q⟩
 |_=>exact(show False from e).elim
end
structure oR(h:Heap)(x a5 C:Addr)(dV:Str→Option Value):Prop where
 obj:h.get? x=some (PySem.W.instObj C a5)
 ns:h.Ns1 a5 dV
 ne:a5≠x
theorem Sn{h:Heap}{a5:Addr}{dV:Str→Option Value}(n:h.Ns1 a5 dV):∃dO,h.get? a5=some dO∧∀name,PySem.W.lookIn name dO=some (dV name):=by
 obtain⟨o,es,cz,ho,hd,hk,_,hm⟩:=n;refine⟨o,ho,fun name=>?_⟩;have e:=hm name;unfold nsFind findBy at e;rw[←Array.find?_toList]at e;unfold PySem.W.lookIn;rw[hd];dsimp only
 split
 ·rename_i y q;rw[q]at e;exact congrArg some e
 ·rename_i q;rw[q]at e;have a:es.toList.any (·.refKey)=false:=by
   rw[List.any_eq_false];intro y bX;obtain⟨z,t,O5⟩:=hk y (Array.mem_toList_iff.mp bX);simp[DictEntry.refKey,O5]
  have jB:¬es.toList.any (·.refKey)=true:=by rw[a];exact Bool.false_ne_true
  rw[if_neg jB];exact congrArg some e
theorem oR.look{h:Heap}{x a5 C:Addr}{dV:Str→Option Value}(I:oR h x a5 C dV):∃dO,PySem.W.InstAt h x (PySem.W.instObj C a5) C (some dO)∧∀name,PySem.W.lookIn name dO=some (dV name):=
 let⟨dO,ho,hl⟩:=Sn I.ns
 ⟨dO,⟨I.obj,rfl,rfl,ho⟩,hl⟩
section
variable{prog:Program}{w:World}{A:Around}{E:Value→Shared→Prop}{s:Shared}{K:PySem.W.Frag}{x a5 C f:Addr}{dV:Str→Option Value}{name:Str}{v:Value}
theorem get_map{expr:Bool}{Q:Value→Shared→Prop}(X:K.In s.heap)(I:oR s.heap x a5 C dV)(hg:PySem.W.plainGet K C name=true)(hh:PySem.W.hasDictIn K C=true)(ha:PySem.W.findIn K (.ref C) name=some none)(hv:dV name=some v)(vw:PySem.W.handedIn v=true)(h:Q v { s with toks:=s.toks+1 }) :
  wpAny (model prog w) A (getAttr (.ref x) name expr) Q E s:=by
 obtain⟨dO,cq,hl⟩:=I.look;exact PySem.W.get_value X cq (PySem.W.plainGet_of hg).1 (PySem.W.findObj_own hh ha rfl (by rw[hl,hv])) vw h
theorem Ot{pl:Sem Bool}{Q:Value×List Value→Shared→Prop}(X:K.In s.heap)(I:oR s.heap x a5 C dV)(hg:PySem.W.plainGet K C name=true)(hf:PySem.W.findIn K (.ref C) name=some (some (.ref f)))(ht:PySem.W.isFn K (.ref f)=true)(hv:dV name=none)(h:Q (.ref f,[.ref x]) s) :
  wpAny (model prog w) A (getMethod (.ref x) name pl) Q E s:=by
 obtain⟨dO,cq,hl⟩:=I.look;exact PySem.W.method_fn X cq (PySem.W.plainGet_of hg).1 (PySem.W.plainGet_of hg).2 hf (beq_iff_eq.mp ht) (by show(PySem.W.lookIn name dO).map (·.isSome)=some false;rw[hl,hv];rfl) h
theorem W4{ns:List Str}{Q:Unit→Shared→Prop}(X:K.In s.heap)(I:oR s.heap x a5 C dV)(hs:PySem.W.findIn K (.ref C) "__setattr__"=some (some (.builtin "object.__setattr__")))(hp:PySem.W.plainOver K C=true)(ht:PySem.W.takerIn K C name=some none)(hh:PySem.W.hasDictIn K C=true)(hw:PySem.Within dV ns)(hsz:ns.length≤sizeLine)(h:∀h',oR h' x a5 C (fun y=>if y=name then some v else dV y)→Heap.SameBut a5 s.heap h'→Q () { s with heap:=h',toks:=s.toks+2 }) :
  wpAny (model prog w) A (setAttr (.ref x) name v) Q E s:=by
 obtain⟨dO,cq,hl⟩:=I.look;refine PySem.W.set_plain X cq hs (PySem.W.osa_open (s:={ s with toks:=s.toks+1 }) (r:=none) X cq hp ht fun b=>?_);obtain⟨cd,hc,hP⟩:=PySem.W.any_some hh;have hx:s.heap.get? x=some ⟨.ref C,some a5,.plain,#[]⟩:=I.obj;refine wpAny_bind (wpAny_pure (wpAny_bind (wpAny_bind (wpAny_loadPart hx (wpAny_bind (PySem.W.Looks.here (s:={ s with toks:=s.toks+1 }) (PySem.W.looks_clsIn X hc) ?_))))));rw[hP];refine wpAny_pure (a:=some a5) (wpAny_bind (wpAny_pure (wpAny_bind ?_)));refine wpAny_nsSet1 (s:={ s with toks:=s.toks+1 }) I.ns fun h' vr hs2=>?_;obtain⟨aa2,ZT,ZR,Pf,OP,OL⟩:=vr.count (PySem.Within.cons name v hw);refine wpAny_bind (wpAny_lookBehind Pf (by rw[OP];exact pastItsLine_dict (Nat.le_trans OL (by rw[List.length_cons];omega))) ?_);exact wpAny_pure (h _ ⟨(hs2.2 _ (Ne.symm I.ne)).trans I.obj,vr,I.ne⟩ hs2)
theorem SI {R:Result→Shared→Prop} {vs:List Value} {kw:List (Str×Value)} (X:K.In s.heap) (hm:PySem.W.makesIn K C=true)(hi:PySem.W.findIn K (.ref C) "__init__"=some (some (.ref f))) (hf:PySem.W.typeIn K (.ref f)=some (.type "function"))(h:codeAny (model prog w) (A.under (.builtin "type.__call__" ⟨.ref C::vs,kw⟩)) (.call (.ref f) ⟨.ref (s.heap.objs.size+1)::vs,kw⟩) (PySem.W.InitBack (s.heap.objs.size+1) R)
    { s with heap:=(s.heap.push PySem.W.emptyDict).push (PySem.W.instObj C s.heap.objs.size) }) :
  codeAny (model prog w) A (.call (.ref C) ⟨vs,kw⟩) R s:=by
 obtain⟨hh,g,d,t,os⟩:=s;exact PySem.W.make_core (PySem.W.makes_of X hm) (PySem.W.looks_findIn X hi) (fun self=>PySem.W.bind_fn X self hf) (.inl rfl) h
end
noncomputable def g9(f:Str)(v:V):List (Str×V)→List (Str×V)
 |[]=>[(f,v)]
 |(g,x)::r=>if g=f then(g,v)::r else(g,x)::g9 f v r
theorem Ht(f g:Str)(v:V):∀aI:List (Str×V),(g9 f v aI).lookup g=if g=f then some v else aI.lookup g
 |[]=>by
  show List.lookup g [(f,v)]=_;by_cases h:g=f
  ·have hb:(g==f)=true:=beq_iff_eq.mpr h;simp only[List.lookup,hb,if_pos h]
  ·have hb:(g==f)=false:=beq_eq_false_iff_ne.mpr h;simp only[List.lookup,hb,if_neg h]
 |(k,x)::r=>by
  have bQ:=Ht f g v r;rw[show g9 f v ((k,x)::r)=(if k=f then(k,v)::r else(k,x)::g9 f v r)from rfl];by_cases hk:k=f
  ·rw[if_pos hk];by_cases h:g=k
   ·have hb:(g==k)=true:=beq_iff_eq.mpr h;simp only[List.lookup,hb,if_pos (h.trans hk)]
   ·have hb:(g==k)=false:=beq_eq_false_iff_ne.mpr h;simp only[List.lookup,hb,if_neg (fun e:g=f=>h (e.trans hk.symm))]
  ·rw[if_neg hk];by_cases h:g=k
   ·have hb:(g==k)=true:=beq_iff_eq.mpr h;simp only[List.lookup,hb,if_neg (fun e:g=f=>hk (h.symm.trans e))]
   ·have hb:(g==k)=false:=beq_eq_false_iff_ne.mpr h;simp only[List.lookup,hb];exact bQ
theorem zX(f:Str)(v:V):∀aI:List (Str×V),f∈(g9 f v aI).map (·.1)∧∀g,g∈aI.map (·.1)→g∈(g9 f v aI).map (·.1)
 |[]=>⟨by simp[g9],fun g h=>by simp at h⟩
 |(k,x)::r=>by
  obtain⟨bk,bz⟩:=zX f v r;rw[show g9 f v ((k,x)::r)=(if k=f then(k,v)::r else(k,x)::g9 f v r)from rfl];by_cases hk:k=f
  ·rw[if_pos hk];subst hk;exact⟨by simp,fun g h=>by simpa using h⟩
  ·rw[if_neg hk];refine⟨?_,fun g h=>?_⟩
   ·rw[List.map_cons];exact List.mem_cons_of_mem _ bk
   ·rw[List.map_cons]at h ⊢;rcases List.mem_cons.mp h with e|e
    ·exact List.mem_cons.mpr (.inl e)
    ·exact List.mem_cons_of_mem _ (bz g e)
theorem Hq(f:Str)(v:V):∀aI:List (Str×V),(g9 f v aI).length≤aI.length+1
 |[]=>by simp[g9]
 |(k,x)::r=>by
  have bQ:=Hq f v r;rw[show g9 f v ((k,x)::r)=(if k=f then(k,v)::r else(k,x)::g9 f v r)from rfl];by_cases hk:k=f
  ·rw[if_pos hk,List.length_cons,List.length_cons];omega
  ·rw[if_neg hk,List.length_cons,List.length_cons];omega
theorem ia.some_of{v:V}{o:Option Value}(r:ia (some v) o):∃u,o=some u∧RelV v u:=by
 cases o with
 |none=>exact(show False from r).elim
 |some u=>exact⟨u,rfl,r⟩
theorem ia.none_of{o:Option Value}(r:ia none o):o=none:=by
 cases o with
 |none=>rfl
 |some u=>exact(show False from r).elim
theorem OH{v:V}{u:Value}(r:RelV v u):PySem.W.handedIn u=true:=by
 cases v with
 |non=>cases(show u=Value.none from r);rfl
 |ax b=>cases(show u=Value.bool b from r);rfl
 |int i=>obtain⟨t,e⟩:=(show ∃t,u=Value.int i t from r);cases e;rfl
 |str x=>obtain⟨t,e⟩:=(show ∃t,u=Value.str x t from r);cases e;rfl
 |lN b=>obtain⟨t,e⟩:=(show ∃t,u=Value.bytes b t from r);cases e;rfl
 |vb b=>obtain⟨t,e⟩:=(show ∃t,u=Value.float b t from r);cases e;rfl
 |ref a=>cases(show u=Value.ref a from r);rfl
 |ty n=>cases(show u=Value.type n from r);rfl
section
variable{P:Program}{w:World}{H H':ai}{h h':Heap}{a C a5:Addr}{aI FW:List (Str×V)}
theorem zM(bF:ee P w H h)(e:H a=some (.ins C a5 aI)):∃dV,oR h a a5 C dV∧(∀f,ia (aI.lookup f) (dV f))∧PySem.Within dV (aI.map (·.1))∧aI.length≤1000∧H a5=some (.own a):=by obtain⟨d,z,ne,a4,dV,n,r,q⟩:=(show e5 P w H h a (.ins C a5 aI)from bF a _ e);exact⟨dV,⟨a4,n,ne⟩,r,q,z,d⟩
end
structure i3(K:PySem.W.Frag)(C:Addr):Prop where
 UM:PySem.W.plainGet K C Str.empty=true
 hd:PySem.W.hasDictIn K C=true
 po:PySem.W.plainOver K C=true
 m3:PySem.W.findIn K (.ref C) "__setattr__"=some (some (.builtin "object.__setattr__"))
theorem i3.get{K:PySem.W.Frag}{C:Addr}(c:i3 K C)(f:Str):PySem.W.plainGet K C f=true:=c.UM
def oP(K:PySem.W.Frag)(C:Addr)(f:Str):Prop:=PySem.W.findIn K (.ref C) f=some none
theorem oP.Ya{K:PySem.W.Frag}{C:Addr}{f:Str}(n:oP K C f):PySem.W.takerIn K C f=some none:=by unfold PySem.W.takerIn;rw[show PySem.W.findIn K (.ref C) f=some none from n];rfl
structure Meth(K:PySem.W.Frag)(C:Addr)(m:Str)(f:Addr):Prop where
 at_:PySem.W.findIn K (.ref C) m=some (some (.ref f))
 fn:PySem.W.isFn K (.ref f)=true
 aK:PySem.W.keepIn K (.ref f)=true
section
variable{X:aM}{pins:List (Addr×Obj)}{σ :St}{H:ai}{s:Shared}{a C a5:Addr}{aI:List (Str×V)}{f:Str}{v:V}{A:Around}{E:Value→Shared→Prop}
theorem Ou{b:Bool}{Q:Value→Shared→Prop}(I:Inv X pins σ H s)(e:H a=some (.ins C a5 aI))(c:i3 X.K C)(n:oP X.K C f)(l:aI.lookup f=some v)(h:∀u s',Inv X pins σ H s'→RelV v u→Q u s'):wpAny (model X.prog X.w) A (getAttr (.ref a) f b) Q E s:=by obtain⟨dV,O,r,_,_,_⟩:=zM I.bF e;obtain⟨u,hu,ed⟩:=ia.some_of (v:=v) (o:=dV f) (by rw[←l];exact r f);exact get_map I.fJ O (c.get f) c.hd n hu (OH ed) (h u _ (I.tok _) ed)
theorem zf{m:Str}{g:Addr}{pl:Sem Bool}{Q:Value×List Value→Shared→Prop}(I:Inv X pins σ H s)(e:H a=some (.ins C a5 aI))(c:i3 X.K C)(k:Meth X.K C m g)(l:aI.lookup m=none)(h:Q (.ref g,[.ref a]) s):wpAny (model X.prog X.w) A (getMethod (.ref a) m pl) Q E s:=by obtain⟨dV,O,r,_,_,_⟩:=zM I.bF e;have aC:dV m=none:=ia.none_of (by rw[←l];exact r m);exact Ot I.fJ O (c.get m) k.at_ k.fn aC h
theorem W5{y:V}{u:Value}{Q:Unit→Shared→Prop}(I:Inv X pins σ H s)(e:H a=some (.ins C a5 aI))(c:i3 X.K C)(n:oP X.K C f)(hl:aI.length<1000)(b9:RelV y u)(h:∀s',Inv X pins σ (upd H a (.ins C a5 (g9 f y aI))) s'→Q () s'):wpAny (model X.prog X.w) A (setAttr (.ref a) f u) Q E s:=by
 obtain⟨dV,O,r,iw,_,ho⟩:=zM I.bF e;have bj:(aI.map (·.1)).length≤sizeLine:=by rw[List.length_map,sizeLine_eq];omega
 refine W4 I.fJ O c.m3 c.po n.Ya c.hd iw bj fun h' r9 eQ=>h _ ?_;have hd:∃o,h'.get? a5=some o:=let⟨o,_,_,b6,_⟩:=r9.ns;⟨o,b6⟩
 refine I.write (x:=a) (e:=a5) (by rw[e];exact True.intro) (.inr ho) (fun b q hb z=>(eQ.2 b hb).trans z) hd ?_;refine⟨by rw[dJ O.ne];exact ho,?_,O.ne,r9.obj,_,r9.ns,fun g=>?_,fun g hg=>?_⟩
 ·have:=Hq f y aI;omega
 ·show ia ((g9 f y aI).lookup g) (if g=f then some u else dV g);rw[Ht];by_cases q:g=f
  ·rw[if_pos q,if_pos q];exact b9
  ·rw[if_neg q,if_neg q];exact r g
 ·by_cases q:g=f
  ·rw[q];exact(zX f y aI).1
  ·refine(zX f y aI).2 g (iw g fun z=>hg ?_);show(if g=f then some u else dV g)=none;rw[if_neg q];exact z
theorem Inv.made(I:Inv X pins σ H s):Inv X pins σ (upd (upd H s.heap.objs.size (.own (s.heap.objs.size+1))) (s.heap.objs.size+1) (.ins C s.heap.objs.size []))
  { s with heap:=(s.heap.push PySem.W.emptyDict).push (PySem.W.instObj C s.heap.objs.size) }:=by
 have aq:(s.heap.push PySem.W.emptyDict).get? s.heap.objs.size=some PySem.W.emptyDict:=Heap.get?_push_size s.heap rfl;have az:((s.heap.push PySem.W.emptyDict).push (PySem.W.instObj C s.heap.objs.size)).get? (s.heap.objs.size+1)=some (PySem.W.instObj C s.heap.objs.size):=by
  have:=Heap.get?_push_size (s.heap.push PySem.W.emptyDict) (o:=PySem.W.instObj C s.heap.objs.size) rfl
  rwa [Heap.size_push]at this
 have b7:(s.heap.push PySem.W.emptyDict).Ns s.heap.objs.size (fun _=>none):=⟨PySem.W.emptyDict,#[],_,aq,rfl,(fun e he=>absurd he (by simp)),fun _=>rfl⟩;have aQ:=I.laid (a:=s.heap.objs.size) (o:=.own (s.heap.objs.size+1)) (h':=s.heap.push PySem.W.emptyDict) (t':=s.toks) (fun b u q=>Heap.get?_push_of_some _ q) (Nat.le_refl _) ⟨_,aq⟩;refine aQ.laid (a:=s.heap.objs.size+1) (o:=.ins C s.heap.objs.size []) (t':=s.toks) (fun b u q=>Heap.get?_push_of_some _ q) (Nat.le_of_eq (Heap.size_push _ _)) ?_;have ne:s.heap.objs.size≠s.heap.objs.size+1:=Nat.ne_of_lt (Nat.lt_succ_self _);refine⟨by rw[dJ ne,eB],Nat.zero_le _,ne,az,fun _=>none,(Heap.Ns1.of_empty b7).at fun o q=>Heap.get?_push_of_some _ q,fun _=>True.intro,fun y bX=>absurd rfl bX⟩
theorem Lx{prog:Program}{w:World}{env:Env}{e:Expr}{f:Str}{pos:Pos}{s:Shared}{Q:Value→Shared→Prop}(hb:attributeBase e f env (eval e env)=eval e env)(h:wpAny (model prog w) A (eval e env) (fun o c4=>wpAny (model prog w) A (getAttr o f true) Q E c4) E s):wpAny (model prog w) A (eval (.Attribute e f pos) env) Q E s:=
 Attribute_any_ h (by rw[arm_eval_Attribute,hb])
end
noncomputable def XA(K:PySem.W.Frag)(b1:TE)(f:Str):TE:=fun σ H Q=>b1 σ H fun x H1=>∃a C a5 aI v,x=.ref a∧H1 a=some (.ins C a5 aI)∧i3 K C∧oP K C f∧aI.lookup f=some v∧Q v H1
noncomputable def V2(K:PySem.W.Frag)(b1 nc:TE)(f:Str):eM:=fun D σ H=>nc σ H fun y H1=>b1 σ H1 fun x a9=>∃a C a5 aI,x=.ref a∧a9 a=some (.ins C a5 aI)∧i3 K C∧oP K C f∧aI.length<1000∧
 D.bq σ (upd a9 a (.ins C a5 (g9 f y aI)))
section
variable{X:aM}{o e value:Expr}{f:Str}{pos pos' p8:Pos}{b1 nc:TE}
theorem Uv(he:a3 X e b1)(hb:attributeBase e f X.env (eval e X.env)=eval e X.env):a3 X (.Attribute e f pos) (XA X.K b1 f):=by intro pins s σ H Q I h;refine Lx hb (bL (he pins s σ H _ I h) fun u s1⟨x,H1,aQ,bw,a,C,a5,aI,v,ex,av,c,n,l,q⟩=>?_);subst ex;obtain rfl:u=Value.ref a:=bw;exact Ou aQ av c n l fun iu s2 b5 ed=>⟨v,H1,b5,ed,q⟩
theorem Va(ha:a3 X o b1)(hv:a3 X value nc)(hs:swapsWith value (some (.Attribute o f pos')) pos.line X.env=pure false):dr X (.Assign [.Attribute o f pos'] value pos) (V2 X.K b1 nc f):=by intro pins s σ H D I h;refine plainObj_wpAny_Assign_Attribute (bL (hv pins s σ H _ I h) fun u s1⟨y,H1,aQ,b9,q⟩=>bL (ha pins s1 σ H1 _ aQ q) fun fK s2⟨x,a9,b5,bw,a,C,a5,aI,ex,av,c,n,l,bl⟩=>?_) hs;subst ex;obtain rfl:fK=Value.ref a:=bw;exact W5 b5 av c n l b9 fun s3 d9=>⟨σ,_,d9,bl⟩
theorem aaX {pl:Sem Bool} {m:Str} {apos:Pos} {args:List Expr} {pins:List (Addr×Obj)} {s:Shared} {σ :St} {H:ai} {Q:Value→Shared→Prop} {dI:TE} (he:a3 X e dI) (I:Inv X pins σ H s)(h:dI σ H fun x H1=>∃a C a5 aI g,x=.ref a∧H1 a=some (.ins C a5 aI)∧i3 X.K C∧Meth X.K C m g∧aI.lookup m=none∧
    ∀s1,Inv X pins σ H1 s1→wpAny (model X.prog X.w) X.A (callWith pos (.ref g) [.ref a] (backTo pos (starEach args X.env)) (backToKw pos (keywordEach [] X.env))) Q X.xe s1)
  (ht:eval (.Call (.Attribute e m apos) args [] pos) X.env=(do
    let fK ←eval e X.env
    standAt apos.atName
    let(f,first) ←holding [fK] (getMethod fK m pl)
    callWith pos f first (backTo pos (starEach args X.env)) (backToKw pos (keywordEach [] X.env)))) :
  wpAny (model X.prog X.w) X.A (eval (.Call (.Attribute e m apos) args [] pos) X.env) Q X.xe s:=by
 refine PySem.W.methodCall_KW (pl:=pl) (bL (he pins s σ H _ I h) fun u s1⟨x,H1,aQ,bw,a,C,a5,aI,g,ex,av,c,k,l,q⟩=>?_) ht;subst ex;obtain rfl:u=Value.ref a:=bw;exact zf aQ av c k l (q s1 aQ)
end
section
variable{X:aM}{pins:List (Addr×Obj)}{σ :St}{H:ai}{s:Shared}{A:Around}{E:Value→Shared→Prop}{Q:Value→Shared→Prop}{c:Value}{b:Bool}
end
structure dt(k:Nat)(A:Around):Prop where
 hd:A.handled=none
 u2:A.depth+3*k+5<recursionLimit
 un:A.units+16*k+200<cLine
theorem dt.mono{j k:Nat}{A:Around}(r:dt k A)(h:j≤k):dt j A:=⟨r.hd,by have:=r.u2;omega,by have:=r.un;omega⟩
theorem dt.deeper{k:Nat}{A:Around}(r:dt (k+1) A)(env:Env):dt k (A.deeper env):=
 ⟨r.hd,by have:=r.u2;show A.depth+1+3*k+5<_;omega,by have:=r.un;show A.units+3+16*k+200<_;omega⟩
theorem SH{A:Around}{C:Addr}{us:List Value}{kw:List (Str×Value)}:(A.under (.builtin "type.__call__" ⟨.ref C::us,kw⟩)).depth=A.depth+1:=by
 first|rfl|simp[Around.under,Code.weight,Code.isCreation,Code.isGuard,Code.isCaller,Code.frames,Code.isFrame,guardIds]
theorem SJ{A:Around}{C:Addr}{us:List Value}{kw:List (Str×Value)}:(A.under (.builtin "type.__call__" ⟨.ref C::us,kw⟩)).units=A.units+1:=by
 first|rfl|simp[Around.under,Code.cUnits,Code.frames,Code.isFrame]
theorem dt.make{k:Nat}{A:Around}(r:dt (k+1) A)(C:Addr)(us:List Value)(kw:List (Str×Value)):dt k (A.under (.builtin "type.__call__" ⟨.ref C::us,kw⟩)):=
 ⟨r.hd,by have:=r.u2;rw[SH];omega,by have:=r.un;rw[SJ];omega⟩
theorem dt.depth{k:Nat}{A:Around}(r:dt k A):A.depth<recursionLimit:=by have:=r.u2;omega
theorem dt.units{k:Nat}{A:Around}(r:dt k A):A.units+64<cLine:=by have:=r.un;omega
def w2:er:=fun _ H Q=>Q [] H
def B9(b1:TE)(eA:er):er:=fun σ H Q=>b1 σ H fun x H1=>eA σ H1 fun xs a9=>Q (x::xs) a9
section
variable{X:aM}{e:Expr}{es:List Expr}{dI:TE}{t:er}{pos:Pos}
theorem mW:eT X [] w2:=fun _ _ _ _ H Q I h=>Calls.spliced_nil ⟨[],H,I,.nil,h⟩
theorem lg(ha:a3 X e dI)(hr:eT X es t)(hs:starEach (e::es) X.env=(false,eval e X.env)::starEach es X.env:=by rfl):eT X (e::es) (B9 dI t):=by intro pos pins s σ H Q I h;rw[hs];show wpAny _ _ (spliced ((false,eval e X.env)::backTo pos (starEach es X.env))) _ _ s;refine Calls.spliced_cons (bL (ha pins s σ H _ I h) fun u s1⟨x,H1,aQ,au,aS⟩=>?_);exact bL (hr pos pins s1 σ H1 _ aQ aS) fun us s2⟨xs,a9,b5,bh,bl⟩=>⟨x::xs,a9,b5,.cons au bh,bl⟩
noncomputable def Ce(t:er):TE:=fun σ H Q=>t σ H fun xs H1=>xs.length≤sizeLine∧∀p,H1 p=none→Q (.ref p) (upd H1 p (.tup xs))
noncomputable def JI(t:er):TE:=fun σ H Q=>t σ H fun xs H1=>xs.length≤sizeLine∧∀p,H1 p=none→Q (.ref p) (upd H1 p (.lst xs))
theorem Ih{e2}(h:eT X es t):a3 X (.Tuple es e2 pos) (Ce t):=by intro pins s σ H Q I aJ;refine wpAny_Tuple_spliced (bL (h pos pins s σ H _ I aJ) fun us s1⟨xs,H1,aQ,r,z,q⟩=>⟨by rw[←r.length];exact z,?_⟩);have hf:H1 s1.heap.objs.size=none:=aQ.bF.fresh (Nat.le_refl _);refine⟨.ref s1.heap.objs.size,upd H1 s1.heap.objs.size (.tup xs),aQ.laid (t':=s1.toks) (fun b u e=>Heap.get?_push_of_some _ e) (Nat.le_refl _) ?_,rfl,q _ hf⟩;exact⟨z,us,r,⟨_,Heap.get?_push_size _ rfl,rfl,_,rfl⟩⟩
theorem UB(h:eT X es t):a3 X (.List es pos) (JI t):=by intro pins s σ H Q I aJ;refine wpAny_List_spliced (bL (h pos pins s σ H _ I aJ) fun us s1⟨xs,H1,aQ,r,z,q⟩=>⟨by rw[←r.length];exact z,?_⟩);have hf:H1 s1.heap.objs.size=none:=aQ.bF.fresh (Nat.le_refl _);refine⟨.ref s1.heap.objs.size,upd H1 s1.heap.objs.size (.lst xs),aQ.laid (t':=s1.toks) (fun b u e=>Heap.get?_push_of_some _ e) (Nat.le_refl _) ?_,rfl,q _ hf⟩;exact⟨z,us,0,r,Heap.get?_push_size _ rfl⟩
end
abbrev i6:=List V→ai→cP→c7→Prop
abbrev j6:=List Env→ai→Shared→c7→Value→Shared→Prop
structure oM(P:Program)(w:World)(K:PySem.W.Frag)(mg:Str→Option Value)(base:Heap)(A:Around)(outer:List Env)(s:Shared)(H:ai):Prop where
 frames:A.frames=some outer
 mod:Mod K mg base
 bs:∀b o,base.get? b=some o→s.heap.get? b=some o∧H b=none
 nL:base.objs.size≤s.heap.objs.size
 je:s.heap.FunFrames base outer
 ph:∀b∈en outer,H b=none
 bF:ee P w H s.heap
 bare:AllBare s.gens
noncomputable def xy(outer:List Env)(P:Program)(w:World)(H:ai)(s:Shared)(Q:cP)(u:Value)(s':Shared):Prop:=
 ∃v H',s'.os=s.os∧AllBare s'.gens∧e6 (en outer) [] H H' s.heap s'.heap∧ee P w H' s'.heap∧RelV v u∧Q v H'
noncomputable def KQ(CX:j6)(outer:List Env)(P:Program)(w:World)(H:ai)(s:Shared)(Q:cP)(E:c7)(r:Result)(s':Shared):Prop:=
 match r with
 |.ok (.ret u)=>xy outer P w H s Q u s'
 |.ok _=>False
 |.error e=>CX outer H s E e s'
structure hq(P:Program)(w:World)(K:PySem.W.Frag)(mg:Str→Option Value)(base:Heap)(CX:j6)(k:Nat)(f:Addr)(fd:FuncData)(ps:List Str)(sp:i6):Prop where
 len:∀vs H Q E,sp vs H Q E→vs.length=ps.length
 run:∀(A:Around)(outer:List Env)(s:Shared)(H:ai)(args:Args)(us:List Value)(vs:List V)(Q:cP)(E:c7),dt k A→oM P w K mg base A outer s H→BindsTo s fd args (ps.zip us)→Vals vs us→sp vs H Q E→
  codeAny (model P w) A (.call (.ref f) args) (KQ CX outer P w H s Q E) s
theorem oM.make{P:Program}{w:World}{K:PySem.W.Frag}{mg:Str→Option Value}{base:Heap}{A:Around}{outer:List Env}{s:Shared}{H:ai}(e:oM P w K mg base A outer s H)(C:Addr)(us:List Value)(kw:List (Str×Value)) :
  oM P w K mg base (A.under (.builtin "type.__call__" ⟨.ref C::us,kw⟩)) outer s H:=⟨by first|exact e.frames|(simpa[Around.under,Code.envs,Code.isFrame,pushEnvs]using e.frames),e.mod,e.bs,e.nL,e.je,e.ph,e.bF,e.bare⟩
section
variable{X:aM}{pins:List (Addr×Obj)}{σ :St}{H:ai}{s s':Shared}
theorem Inv.Ey(I:Inv X pins σ H s):oM X.prog X.w X.K X.mg X.base X.A X.stack s H:=
 ⟨I.ok.frames,I.ok.mod,I.bs,Nat.le_trans I.ok.nL I.p4,I.stack,I.B3,I.bF,I.bare⟩
theorem Inv.after{Q:cP}{u:Value}(I:Inv X pins σ H s)(h:xy X.stack X.prog X.w H s Q u s'):gb X pins σ Q u s':=by obtain⟨v,H',os,bare,un,bF,r,q⟩:=h;obtain⟨hh,g,d,t,Au⟩:=s';obtain rfl:Au=s.os:=os;exact⟨v,H',I.call (h':=hh) (g':=g) (d':=d) (t':=t) (ch:=[]) un bF bare (fun b z=>absurd z (by simp)),r,q⟩
end
def wZ(sp:i6)(gu:List V)(E:c7)(t:er):TE:=fun σ H Q=>t σ H fun vs H1=>sp (vs++gu) H1 Q E
noncomputable def w1(C:Addr)(m:Str)(sp:i6)(gu:List V)(E:c7)(b1:TE)(t:er):TE:=fun σ H Q=>b1 σ H fun x H1=>∃a a5 aI,x=.ref a∧H1 a=some (.ins C a5 aI)∧aI.lookup m=none∧
 t σ H1 fun vs a9=>sp (x::(vs++gu)) a9 Q E
noncomputable def JJ(C:Addr)(sp:i6)(gu:List V)(E:c7)(t:er):TE:=fun σ H Q=>t σ H fun vs H1=>∀x a5,H1 x=none→H1 a5=none→a5≠x→
 sp (.ref x::(vs++gu)) (upd (upd H1 a5 (.own x)) x (.ins C a5 [])) (fun v a9=>v=.non∧Q (.ref x) a9) E
noncomputable def Binds(K:PySem.W.Frag)(fd:FuncData)(ps:List Str)(ds:List Value):Prop:=
 ∀(s:Shared)(us:List Value),K.In s.heap→(us++ds).length=ps.length→BindsTo s fd ⟨us,[]⟩ (ps.zip (us++ds))
theorem Binds.all{K:PySem.W.Frag}{fd:FuncData}{ps:List Str}(h:∀us:List Value,us.length=ps.length→bindArgs fd ⟨us,[]⟩=pure (ps.zip us)):Binds K fd ps []:=fun s us _ hl=>by rw[List.append_nil]at hl ⊢;exact .of_eq (h us hl)
noncomputable def Passes(CX:j6)(X:aM)(E:c7):Prop:=∀(pins:List (Addr×Obj))(σ :St)(H:ai)(s:Shared)(e:Value)(s':Shared),Inv X pins σ H s→CX X.stack H s E e s'→X.xe e s'
section
variable{X:aM}{CX:j6}{k:Nat}{f C:Addr}{fd:FuncData}{ps:List Str}{sp:i6}{gu:List V}{ds:List Value}{E:c7}{x m:Str}{p pos apos:Pos}{e o:Expr}{es:List Expr}{b1:TE}{t:er}
theorem AW{pins:List (Addr×Obj)}{σ :St}{H:ai}{s:Shared}{Q:cP}{us:List Value}{vs:List V}(F:hq X.prog X.w X.K X.mg X.base CX k f fd ps sp)(hr:dt k X.A)(hb:Binds X.K fd ps ds)(hd:Vals gu ds)(hx:Passes CX X E)(I:Inv X pins σ H s)(r:Vals vs us)(h:sp (vs++gu) H Q E):wpAny (model X.prog X.w) X.A (call (.ref f) us) (gb X pins σ Q) X.xe s:=by
 have bh:Vals (vs++gu) (us++ds):=r.append hd;have hl:(us++ds).length=ps.length:=by rw[←bh.length];exact F.len _ _ _ _ h
 refine wpAny_call (codeAny_mono (F.run X.A X.stack s H ⟨us,[]⟩ (us++ds) (vs++gu) Q E hr I.Ey (hb s us I.fJ hl) bh h) fun r s' aJ=>?_);cases r with
 |error e=>exact hx pins σ H s e s' I aJ
 |ok fl=>
  cases fl with
  |ret u=>exact I.after aJ
  |next=>exact False.elim aJ
  |brk=>exact False.elim aJ
  |cont=>exact False.elim aJ
theorem wj(F:hq X.prog X.w X.K X.mg X.base CX k f fd ps sp)(hr:dt k X.A)(hg:cU X x)(hm:X.mg x=some (.ref f))(hk:PySem.W.keepIn X.K (.ref f)=true)(hb:Binds X.K fd ps ds)(hd:Vals gu ds)(hx:Passes CX X E)(ha:eT X (e::es) t)(hdb:(x==("__debug__" :Str))=false:=by decide)(he:starEach (e::es) X.env=(false,eval e X.env)::starEach es X.env:=by rfl)(hpl:(backTo pos (starEach es X.env)).any (·.1)=false:=by rfl) :
  a3 X (.Call (.Name x p) (e::es) [] pos) (wZ sp gu E t):=by
 intro pins s σ H Q I h;refine wpAny_Call_Name_kw (vM I hg hm ?_ hdb);refine PySem.W.callWith_K (h₀:=X.base) I.ok.mod.n3 hk (bL (ha pos pins s σ H _ I h) fun us s1⟨vs,H1,aQ,r,q⟩=>⟨aQ.fJ,?_⟩) he hpl;exact AW F hr hb hd hx aQ r q
theorem UD {pl:Sem Bool} (he:a3 X o b1) (c:i3 X.K C) (hm:Meth X.K C m f) (F:hq X.prog X.w X.K X.mg X.base CX k f fd ps sp) (hr:dt k X.A) (hb:Binds X.K fd ps ds) (hd:Vals gu ds) (hx:Passes CX X E) (ha:eT X (e::es) t)(hst:starEach (e::es) X.env=(false,eval e X.env)::starEach es X.env:=by rfl) (hpl:(backTo pos (starEach es X.env)).any (·.1)=false:=by rfl)(ht:eval (.Call (.Attribute o m apos) (e::es) [] pos) X.env=(do
    let fK ←eval o X.env
    standAt apos.atName
    let(f,first) ←holding [fK] (getMethod fK m pl)
    callWith pos f first (backTo pos (starEach (e::es) X.env)) (backToKw pos (keywordEach [] X.env))):=by rfl) :
  a3 X (.Call (.Attribute o m apos) (e::es) [] pos) (w1 C m sp gu E b1 t):=by
 intro pins s σ H Q I h;refine PySem.W.methodCall_KW (pl:=pl) (bL (he pins s σ H _ I h) fun u s1⟨x,H1,aQ,bw,a,a5,aI,ex,av,l,q⟩=>?_) ht;subst ex;obtain rfl:u=Value.ref a:=bw;refine zf aQ av c hm l ?_;refine PySem.W.callWith_K (first:=[.ref a]) (h₀:=X.base) I.ok.mod.n3 hm.aK (bL (ha pos pins s1 σ H1 _ aQ q) fun us s2⟨vs,a9,b5,r,bl⟩=>⟨b5.fJ,?_⟩) hst hpl;exact AW (us:=.ref a::us) (vs:=.ref a::vs) F hr hb hd hx b5 (.cons rfl r) bl
theorem UE {pl:Sem Bool} (he:a3 X o b1) (c:i3 X.K C) (hm:Meth X.K C m f) (F:hq X.prog X.w X.K X.mg X.base CX k f fd ps sp) (hr:dt k X.A) (hb:Binds X.K fd ps ds) (hd:Vals gu ds) (hx:Passes CX X E)(ht:eval (.Call (.Attribute o m apos) [] [] pos) X.env=(do
    let fK ←eval o X.env
    standAt apos.atName
    let(f,first) ←holding [fK] (getMethod fK m pl)
    callWith pos f first (backTo pos (starEach [] X.env)) (backToKw pos (keywordEach [] X.env))):=by rfl) :
  a3 X (.Call (.Attribute o m apos) [] [] pos) (w1 C m sp gu E b1 w2):=by
 intro pins s σ H Q I h;refine PySem.W.methodCall_KW (pl:=pl) (bL (he pins s σ H _ I h) fun u s1⟨x,H1,aQ,bw,a,a5,aI,ex,av,l,q⟩=>?_) ht;subst ex;obtain rfl:u=Value.ref a:=bw;refine zf aQ av c hm l ?_;exact PySem.W.callWith_K0 (first:=[.ref a]) aQ.fJ hm.aK (AW (us:=[.ref a]) (vs:=[.ref a]) F hr hb hd hx aQ (.cons rfl .nil) q)
structure uv(K:PySem.W.Frag)(C f:Addr):Prop where
 makes:PySem.W.makesIn K C=true
 init:PySem.W.findIn K (.ref C) "__init__"=some (some (.ref f))
 fn:PySem.W.isFn K (.ref f)=true
 aK:PySem.W.keepIn K (.ref C)=true
theorem VV{pins:List (Addr×Obj)}{σ :St}{H:ai}{s:Shared}{Q:cP}{us:List Value}{vs:List V}(M:uv X.K C f)(F:hq X.prog X.w X.K X.mg X.base CX k f fd ps sp)(hr:dt (k+1) X.A)(hb:Binds X.K fd ps ds)(hd:Vals gu ds)(hx:Passes CX X E)(I:Inv X pins σ H s)(r:Vals vs us)(h:∀x a5,H x=none→H a5=none→a5≠x→sp (.ref x::(vs++gu)) (upd (upd H a5 (.own x)) x (.ins C a5 [])) (fun v a9=>v=.non∧Q (.ref x) a9) E) :
  wpAny (model X.prog X.w) X.A (call (.ref C) us) (gb X pins σ Q) X.xe s:=by
 have aJ:=h (s.heap.objs.size+1) s.heap.objs.size (I.bF.fresh (Nat.le_succ _)) (I.bF.fresh (Nat.le_refl _)) (Nat.ne_of_lt (Nat.lt_succ_self _));have b5:=Inv.made (C:=C) I;have bh:Vals (V.ref (s.heap.objs.size+1)::(vs++gu)) (Value.ref (s.heap.objs.size+1)::(us++ds)):=.cons rfl (r.append hd);have hl:(Value.ref (s.heap.objs.size+1)::us++ds).length=ps.length:=by have e:=bh.length;rw[F.len _ _ _ _ aJ]at e;exact e.symm
 refine wpAny_call (SI (f:=f) I.fJ M.makes M.init (beq_iff_eq.mp M.fn) (codeAny_mono (F.run _ X.stack _ _ ⟨Value.ref (s.heap.objs.size+1)::us,[]⟩ (Value.ref (s.heap.objs.size+1)::(us++ds)) _ _ E (hr.make C us [])
  (b5.Ey.make C us []) (hb _ (Value.ref (s.heap.objs.size+1)::us) b5.fJ hl) bh aJ) fun r s' nT=>?_))
 cases r with
 |error e=>exact hx pins σ _ _ e s' b5 nT
 |ok fl=>
  cases fl with
  |ret u=>obtain⟨v,H',d9,bV,ev,dw⟩:=b5.after nT;subst ev;exact⟨bV,⟨V.ref (s.heap.objs.size+1),H',d9,rfl,dw⟩⟩
  |next=>exact False.elim nT
  |brk=>exact False.elim nT
  |cont=>exact False.elim nT
theorem UC(M:uv X.K C f)(F:hq X.prog X.w X.K X.mg X.base CX k f fd ps sp)(hr:dt (k+1) X.A)(hg:cU X x)(hm:X.mg x=some (.ref C))(hb:Binds X.K fd ps ds)(hd:Vals gu ds)(hx:Passes CX X E)(ha:eT X (e::es) t)(hdb:(x==("__debug__" :Str))=false:=by decide)(he:starEach (e::es) X.env=(false,eval e X.env)::starEach es X.env:=by rfl)(hpl:(backTo pos (starEach es X.env)).any (·.1)=false:=by rfl) :
  a3 X (.Call (.Name x p) (e::es) [] pos) (JJ C sp gu E t):=by
 intro pins s σ H Q I h;refine wpAny_Call_Name_kw (vM I hg hm ?_ hdb);refine PySem.W.callWith_K (h₀:=X.base) I.ok.mod.n3 M.aK (bL (ha pos pins s σ H _ I h) fun us s1⟨vs,H1,aQ,r,q⟩=>⟨aQ.fJ,?_⟩) he hpl;exact VV M F hr hb hd hx aQ r q
end
section
variable{X:aM}{CX:j6}{k:Nat}{f C:Addr}{fd:FuncData}{ps aH:List Str}{sp:i6}{E:c7}{x m:Str}{p pos apos aaH:Pos}{e o:Expr}{es:List Expr}{aaI:List Keyword}{dI b1:TE}{t cX:er}{nm:Option Str}
variable{g:List Value→List Value→List Value}{aaa:List V→List V→List V}
end
structure cG(N P:List Str)(sc:Scope):Prop where
 kind:sc.kind=.function
 co:sc.isCoroutine=false
 gen:sc.isGenerator=false
 aU:N.Nodup
 pre:N.take P.length=P
 par:∀x∈P,sc.names.lookup x=some .local∨sc.names.lookup x=some .cell
 Tj:∀y∈sc.names,y.2≠.free
theorem DW{kindOf:Str→Option NameKind}{x:Str}:∀{binds:List (Str×Value)}{m:Str→Option Value},(∀v,(x,v)∉binds)→bindL kindOf binds m x=m x
 |[],_,_=>rfl
 |(n,v)::r,m,h=>by
  unfold bindL;rw[DW fun w hw=>h w (List.mem_cons_of_mem _ hw)]
  split
  ·have:x≠n:=by rintro rfl;exact h v List.mem_cons_self
   simp[this]
  ·rfl
theorem DU{kindOf:Str→Option NameKind}{x:Str}:∀{binds:List (Str×Value)}{m:Str→Option Value},(∀v,(x,v)∉binds)→bindC kindOf binds m x=m x
 |[],_,_=>rfl
 |(n,v)::r,m,h=>by
  unfold bindC;rw[DU fun w hw=>h w (List.mem_cons_of_mem _ hw)]
  split
  ·rfl
  ·have:x≠n:=by rintro rfl;exact h v List.mem_cons_self
   simp[this]
theorem DV{kindOf:Str→Option NameKind}{x:Str}{v:Value}:∀{P:List Str}{vs:List Value}{i:Nat}{m:Str→Option Value},P.Nodup→P[i]?=some x→vs[i]?=some v→kindOf x=some .local→
  bindL kindOf (P.zip vs) m x=some v
 |[],_,_,_,_,h,_,_=>by simp at h
 |_::_,[],_,_,_,_,h,_=>by simp at h
 |p::P,w::vs,0,m,aU,h1,h2,hk=>by simp at h1 h2;subst h1;subst h2;show bindL kindOf ((p,w)::P.zip vs) m p=_;unfold bindL;rw[DW fun v hv=>(List.nodup_cons.mp aU).1 (List.of_mem_zip hv).1,if_pos hk];simp
 |p::P,w::vs,i+1,m,aU,h1,h2,hk=>by show bindL kindOf ((p,w)::P.zip vs) m x=_;unfold bindL;exact DV (i:=i) (List.nodup_cons.mp aU).2 (by simpa using h1) (by simpa using h2) hk
theorem DT{kindOf:Str→Option NameKind}{x:Str}{v:Value}:∀{P:List Str}{vs:List Value}{i:Nat}{m:Str→Option Value},P.Nodup→P[i]?=some x→vs[i]?=some v→kindOf x≠some .local→
  bindC kindOf (P.zip vs) m x=some v
 |[],_,_,_,_,h,_,_=>by simp at h
 |_::_,[],_,_,_,_,h,_=>by simp at h
 |p::P,w::vs,0,m,aU,h1,h2,hk=>by simp at h1 h2;subst h1;subst h2;show bindC kindOf ((p,w)::P.zip vs) m p=_;unfold bindC;rw[DU fun v hv=>(List.nodup_cons.mp aU).1 (List.of_mem_zip hv).1,if_neg hk];simp
 |p::P,w::vs,i+1,m,aU,h1,h2,hk=>by show bindC kindOf ((p,w)::P.zip vs) m x=_;unfold bindC;exact DT (i:=i) (List.nodup_cons.mp aU).2 (by simpa using h1) (by simpa using h2) hk
def start(N:List Str)(vs:List V):St:=vs.map some++List.replicate (N.length-vs.length) none
noncomputable def eO(CX:j6)(P:Program)(w:World)(K:PySem.W.Frag)(mg:Str→Option Value)(base:Heap)(N:List Str)(qual:Str)(scope:Scope)(f:Addr)(cd:Value)(A:Around)(outer:List Env)(s:Shared)(H:ai)(E:c7):aM where
 prog:=P
 w:=w
 K:=K
 mg:=mg
 base:=base
 A:=A.deeper (envOfC qual scope s.heap.objs.size f cd)
 N:=N
 fh:=s
 oN:=H
 env:=envOfC qual scope s.heap.objs.size f cd
 outer:=outer
 stack:=envOfC qual scope s.heap.objs.size f cd::outer
 ex:=[]
 calm:=true
 fn:=fun _=>true
 oh:=[]
 xe:=fun e s'=>wpAny (model P w) (A.deeper (envOfC qual scope s.heap.objs.size f cd)) (leaving (envOfC qual scope s.heap.objs.size f cd) e) (fun _ iV=>CX outer H s E e iV) (fun b6 iV=>CX outer H s E b6 iV) s'
theorem D4{sc:Scope}{n:Nat}{x:Str}(h:sc.names.lookup x=some .cell):∃c,(cellsFrom n sc.names []).lookup x=some c:=by have q:=PySem.W.cellsFrom_some sc.names n [] (.inl h);exact Option.isSome_iff_exists.mp q
theorem QJ{CX:j6}{P:Program}{w:World}{K:PySem.W.Frag}{mg:Str→Option Value}{base:Heap}{N ps:List Str}{qual:Str}{scope:Scope}{f:Addr}{cd:Value}{A:Around}{outer:List Env}{s s1:Shared}{H:ai}{E:c7}{us:List Value}{vs:List V}(S:cG N ps scope)(hd:A.handled=none)(c8:oM P w K mg base A outer s H)(hl:vs.length=ps.length)(r:Vals vs us)(x:InCallC s s.heap.objs.size (bindL (envOfC qual scope s.heap.objs.size f cd).kindOf (ps.zip us) fun _=>none) (cellsFrom (s.heap.objs.size+1) scope.names []) (bindC (envOfC qual scope s.heap.objs.size f cd).kindOf (ps.zip us) fun _=>none) s1) :
  Inv (eO CX P w K mg base N qual scope f cd A outer s H E) [] (start N vs) H s1:=by
 have hpl:ps.length≤N.length:=by have:=congrArg List.length S.pre;rw[List.length_take]at this;omega
 obtain⟨h1,cX,rfl,hk⟩:=x.done;have tI:∀b:Addr,b∉(eO CX P w K mg base N qual scope f cd A outer s H E).ex:=fun b z=>absurd (show b∈([]:List Addr)from z) (by simp)
 refine⟨⟨c8.mod,S.kind,rfl,rfl,Nat.le_refl _,fun y z c h1 h2=>?_,fun y bX=>?_,fun y c _ h=>?_,fun _=>hd,Around.frames_deeper c8.frames,.inr ⟨rfl,rfl⟩,fun b z=>absurd z (tI b),c8.bs,c8.nL,fun b _ _=>tI b,fun b z=>absurd z (tI b),c8.je,c8.ph⟩,
  rfl,c8.bare,e6.kept hk,⟨_,x.toInCall.ns,fun i y v h1 h2 h3=>?_⟩,fun y c h=>⟨_,x.cell y c h⟩,c8.bF.fresh (Nat.le_refl _),fun y c h=>?_,fun p hp=>absurd (show p∈([]:List (Addr×Obj))from hp) (by simp),c8.bF.kept hk,?_⟩
 ·exact name_of_addr x.apart (PySem.mem_of_lookup h1) (PySem.mem_of_lookup h2)
 ·have bX:scope.names.lookup y=some .cell∨scope.names.lookup y=some .free:=bX;rcases bX with bX|bX
  ·exact D4 bX
  ·exact absurd rfl (S.Tj _ (PySem.mem_of_lookup bX))
 ·exact Nat.le_of_lt (x.above y c (PySem.mem_of_lookup h))
 ·have hi:i<vs.length:=by
    unfold start at h2;by_cases hi:i<vs.length
    ·exact hi
    ·rw[List.getElem?_append_right (by simpa using hi)]at h2;rw[List.getElem?_replicate]at h2
     split at h2<;>cases h2
  have ha:vs[i]?=some v:=by
   unfold start at h2;rw[List.getElem?_append_left (by simpa using hi),List.getElem?_map]at h2;cases e:vs[i]? with
   |none=>rw[e]at h2;cases h2
   |some a=>rw[e]at h2;cases h2;rfl
  obtain⟨u,hu,bV⟩:=r.get ha;have hp:ps[i]?=some y:=by rw[←S.pre,List.getElem?_take_of_lt (by omega)];exact h1
  have HG:ps.Nodup:=by rw[←S.pre];exact S.aU.sublist (List.take_sublist _ _)
  refine⟨u,bV,?_⟩;rcases S.par y (List.mem_of_getElem? hp)with k|k
  ·exact .inl ⟨k,DV HG hp hu k⟩
  ·obtain⟨c,e⟩:=D4 (n:=s.heap.objs.size+1) k;refine .inr ⟨.inl k,c,e,?_⟩;have q:=x.cell y c e;rw[DT HG hp hu (by show scope.names.lookup y≠_;rw[k];decide)]at q;exact q
 ·exact c8.bF.fresh (Nat.le_of_lt (x.above y c (PySem.mem_of_lookup h)))
 ·unfold start;show _=N.length;rw[List.length_append,List.length_map,List.length_replicate];omega
theorem FO {CX:j6} {P:Program} {w:World} {K:PySem.W.Frag} {mg:Str→Option Value} {base:Heap} {k:Nat} {f:Addr} {name qual:Str} {params:Arguments} {body:List Stmt} {scope:Scope} {u0 cM doc pm b_ cK e_:Value} {an dO:Option Addr}{lb:Array (Option Value)} {N ps:List Str} {sp:i6} (lk:K.lookup f=some ⟨e_,dO,.func (PySem.W.fnOf name qual params body scope u0 cM doc pm an b_ cK),lb⟩) (hcd:PySem.W.codeIn K b_ qual=true) (S:cG N ps scope)(len:∀vs H Q E,sp vs H Q E→vs.length=ps.length)(zl:∀(A:Around)(outer:List Env)(s:Shared)(H:ai)(vs:List V)(Q:cP)(E:c7),dt k (A.deeper (envOfC qual scope s.heap.objs.size f b_))→sp vs H Q E→
    ∃t,fS (eO CX P w K mg base N qual scope f b_ A outer s H E) body t∧t { bq:=fun _ H'=>Q .non H',dH:=Q } (start N vs) H) :
  hq P w K mg base CX (k+1) f (PySem.W.fnOf name qual params body scope u0 cM doc pm an b_ cK) ps sp:=by
 refine⟨len,fun A outer s H args us vs Q E hr c8 hb r nU=>?_⟩;have hl:=len _ _ _ _ nU;have kK:K.In s.heap:=c8.mod.n3.keeps fun b o e=>(c8.bs b o e).1;have lim:s.heap.NoLimit:=c8.mod.nolimit.keeps fun b o e=>(c8.bs b o e).1;have O6:∀y∈ps.zip us,scope.names.lookup y.1=some .local∨(scope.names.lookup y.1=some .cell∧((cellsFrom (s.heap.objs.size+1) scope.names []).lookup y.1).isSome=true):=fun⟨n,v⟩ bX=>by
  rcases S.par n (List.of_mem_zip bX).1 with q|q
  ·exact .inl q
  ·exact .inr ⟨q,PySem.W.cellsFrom_some _ _ _ (.inl q)⟩
 refine codeAny_call_function hr.depth (kK _ _ lk) rfl S.co S.gen rfl (PySem.W.codeRec_of kK hcd) (hb _ _ _ _ ?_);refine wpAny_newFunctionEnv_cells S.kind O6 fun env he s1 x=>?_;subst he;refine⟨lim.keeps x.toInCall.keep,codeAny_func ?_⟩;obtain⟨t,ht,aJ⟩:=zl A outer s H vs Q E (hr.deeper _) nU;have I:Inv (eO CX P w K mg base N qual scope f b_ A outer s H E) [] (start N vs) H s1:=QJ S hr.hd c8 hl r x;refine wpAny_mono (ht [] s1 (start N vs) H _ I aJ) (fun fl s' hs=>?_) fun e s' hs=>hs;have fin:∀{σ' :St}{H':ai}{v:V}{u:Value},Inv (eO CX P w K mg base N qual scope f b_ A outer s H E) [] σ' H' s'→RelV v u→Q v H'→xy outer P w H s Q u s':=
  fun{σ' H' v u} cq bV q=>⟨v,H',cq.os,cq.bare,cq.base,cq.bF,bV,q⟩
 cases fl with
 |ret u=>obtain⟨v,σ',H',cq,bV,q⟩:=hs;exact fin cq bV q
 |next=>obtain⟨σ',H',cq,q⟩:=hs;exact fin (v:=V.non) (u:=Value.none) cq rfl q
 |brk=>obtain⟨_,_,_,q⟩:=hs;exact False.elim q
 |cont=>obtain⟨_,_,_,q⟩:=hs;exact False.elim q
section
variable{X:aM}{x:Str}{p pos:Pos}{e:Expr}{es:List Expr}{t:er}{id T:String}{r:List V→ai→cP→Prop}
def wY(r:List V→ai→cP→Prop)(t:er):TE:=fun σ H Q=>t σ H fun vs H1=>r vs H1 Q
theorem Ay(hc:gR X (.builtin id) r)(hg:cU X x)(hm:X.mg x=none)(hv:bootBuiltins x=some (.builtin id))(ha:eT X (e::es) t)(aC:x≠"__name__":=by decide)(hdb:(x==("__debug__" :Str))=false:=by decide)(he:starEach (e::es) X.env=(false,eval e X.env)::starEach es X.env:=by rfl)(hpl:(backTo pos (starEach es X.env)).any (·.1)=false:=by rfl):a3 X (.Call (.Name x p) (e::es) [] pos) (wY r t):=by intro pins s σ H Q I h;refine wpAny_Call_Name_kw (mL I hg hm hv ?_ aC hdb);exact PyProof.Rows.callWith_builtin1 (bL (ha pos pins s σ H _ I h) fun us s1⟨vs,H1,aQ,au,aS⟩=>hc pins s1 σ H1 vs us Q aQ au aS) he hpl
theorem Az(hc:gR X (.type T) r)(hg:cU X x)(hm:X.mg x=none)(hv:bootBuiltins x=some (.type T))(ha:eT X (e::es) t)(aC:x≠"__name__":=by decide)(hdb:(x==("__debug__" :Str))=false:=by decide)(he:starEach (e::es) X.env=(false,eval e X.env)::starEach es X.env:=by rfl)(hpl:(backTo pos (starEach es X.env)).any (·.1)=false:=by rfl):a3 X (.Call (.Name x p) (e::es) [] pos) (wY r t):=by intro pins s σ H Q I h;refine wpAny_Call_Name_kw (mL I hg hm hv ?_ aC hdb);exact PyProof.Rows.callWith_type1 (bL (ha pos pins s σ H _ I h) fun us s1⟨vs,H1,aQ,au,aS⟩=>hc pins s1 σ H1 vs us Q aQ au aS) he hpl
end
end aX
namespace d6
open PySem PyProof.Rows
section
open PySem.SeqAt
open PySem.AutoSeq1 (wpAny_loadPart')
open PySem.MeetsSeq PySem.MeetsSeq2 PySem.MeetsSeq3
end
section
variable{prog:Program}{w:World}{A:Around}{E:Value→Shared→Prop}{s:Shared}
def eH(n d:Nat):Option Int→Nat
 |none=>d
 |some v=>if v<0 then(v+(n:Int)).toNat else min v.toNat n
theorem IY(n d:Nat):eH n d none=d:=rfl
theorem wA(n d k:Nat):eH n d (some (k:Int))=min k n:=by show(if(k:Int)<0 then((k:Int)+(n:Int)).toNat else min (k:Int).toNat n)=min k n;rw[if_neg (by omega),Int.toNat_natCast]
theorem IX(n d:Nat)(hd:d≤n)(o:Option Int):eH n d o≤n:=by
 cases o with
 |none=>exact hd
 |some v=>
  show(if v<0 then(v+(n:Int)).toNat else min v.toNat n)≤n;by_cases hv:v<0
  ·rw[if_pos hv];omega
  ·rw[if_neg hv];exact Nat.min_le_right _ _
end
end d6
namespace aX
open PySem PySem.Spec PyProof.Rows
abbrev bI:=St→ai→(Option Int→ai→Prop)→Prop
noncomputable def qC(X:aM)(e:Option Expr)(t:bI):Prop:=
 ∀(pins:List (Addr×Obj))(s:Shared)(σ :St)(H:ai)(Q:Option Int→ai→Prop),Inv X pins σ H s→t σ H Q→
  wpAny (model X.prog X.w) X.A (evalPart e X.env) (fun u s'=>∃o H',Inv X pins σ H' s'∧IsPart u o∧Q o H') X.xe s
def XC:bI:=fun _ H Q=>Q none H
def XD(t:TE):bI:=fun σ H Q=>t σ H fun x H1=>∃i,x=.int i∧Q (some i) H1
section
variable{X:aM}{e:Expr}{dI:TE}{lo hi:Option Expr}{bH w5:bI}{pos cB:Pos}
theorem U4:qC X none XC:=by intro pins s σ H Q I h;rw[evalPart_none];exact wpAny_pure ⟨none,H,I,.none,h⟩
theorem U5(h:a3 X e dI):qC X (some e) (XD dI):=by intro pins s σ H Q I hw;rw[evalPart_some];refine bL (h pins s σ H _ I hw) fun u s1⟨x,H1,aQ,au,aS⟩=>?_;obtain⟨i,rfl,q⟩:=aS;obtain⟨t,rfl⟩:=au;exact⟨some i,H1,aQ,.int i t,q⟩
noncomputable def oU(X:aM)(r:V→Option Int→Option Int→ai→cP→Prop):Prop:=
 ∀(pins:List (Addr×Obj))(s:Shared)(σ :St)(H:ai)(x:V)(v kB kC:Value)(lo hi:Option Int)(cF:Addr)(Q:cP),Inv X pins σ H s→RelV x v→s.heap.IsSliceOf cF kB kC .none→IsPart kB lo→IsPart kC hi→r x lo hi H Q→
  ∃T id,typeLookup (.type T) "__getitem__"=pure (some (.builtin id))∧s.TypeIs v T∧wpAny (model X.prog X.w) X.A (getItem v (.ref cF)) (gb X pins σ Q) X.xe s
theorem oU.or{r bf:V→Option Int→Option Int→ai→cP→Prop}(h:oU X r)(h':oU X bf):oU X (fun x lo hi H Q=>r x lo hi H Q∨bf x lo hi H Q):=by
 intro pins s σ H x v kB kC lo hi cF Q I bw hs pl pu q;rcases q with q|q
 ·exact h pins s σ H x v kB kC lo hi cF Q I bw hs pl pu q
 ·exact h' pins s σ H x v kB kC lo hi cF Q I bw hs pl pu q
noncomputable def JQ(r:V→Option Int→Option Int→ai→cP→Prop)(dI:TE)(bH w5:bI):TE:=fun σ H Q=>dI σ H fun x H1=>bH σ H1 fun l a9=>w5 σ a9 fun u dk=>r x l u dk Q
theorem UL{r:V→Option Int→Option Int→ai→cP→Prop}(hr:oU X r)(he:a3 X e dI)(hl:qC X lo bH)(hu:qC X hi w5):a3 X (.Subscript e (.Slice lo hi none cB) pos) (JQ r dI bH w5):=by intro pins s σ H Q I h;refine Subscript_ (bL (he pins s σ H _ I h) fun v s1⟨x,H1,aQ,au,aS⟩=>?_);refine wpAny_Slice (bL (hl pins s1 σ H1 _ aQ aS) fun kB s2⟨l,a9,b5,pl,bl⟩=>bL (hu pins s2 σ a9 _ b5 bl) fun kC s3⟨u,dk,d9,pu,dw⟩=>?_);rw[evalPart_none];refine wpAny_pure ?_;have j7:Inv X pins σ dk { s3 with heap:=s3.heap.push { cls:=.type "slice",data:=.fields #[kB,kC,.none] } }:=d9.kept (t':=s3.toks) fun b a4 q=>Heap.get?_push_of_some _ q;obtain⟨T,id,fZ,ht,hg⟩:=hr pins { s3 with heap:=s3.heap.push { cls:=.type "slice",data:=.fields #[kB,kC,.none] } } σ dk x v kB kC l u s3.heap.objs.size Q j7 au (Heap.IsSliceOf.new ..) pl pu dw;show wpAny (model X.prog X.w) X.A (subscriptTail e (.Slice lo hi none cB) v (.ref s3.heap.objs.size)) (gb X pins σ Q) X.xe { s3 with heap:=s3.heap.push { cls:=.type "slice",data:=.fields #[kB,kC,.none] } };exact tail_any (ops:=[.ref s3.heap.objs.size,v]) ht fZ hg (by with_unfolding_all rfl)
noncomputable def qP(xs:List V)(lo hi:Option Int):List V:=(xs.drop (d6.eH xs.length 0 lo)).take (d6.eH xs.length xs.length hi-d6.eH xs.length 0 lo)
theorem Me(xs:List V)(lo hi:Option Int):(qP xs lo hi).length≤xs.length:=by unfold qP;rw[List.length_take,List.length_drop];omega
end
noncomputable def lU(n:Nat)(i:Int):Option Nat:=if 0≤i then(if i<n then some i.toNat else none)else if-(n:Int)≤i then some (i+n).toNat else none
def gr{α:Type}(xs:List α)(i:Int):Option α:=(lU xs.length i).bind fun j=>xs[j]?
theorem QW{n:Nat}{i:Int}{j:Nat}(h:lU n i=some j):seqIndex? i n=some j∧j<n∧-(n:Int)≤i∧i<n:=by
 unfold lU at h;by_cases h0:0≤i
 ·rw[if_pos h0]at h;by_cases h1:i<n
  ·rw[if_pos h1]at h;have e:i.toNat=j:=Option.some.inj h;exact⟨by rw[seqIndex_of h0 h1,e],by omega,by omega,h1⟩
  ·rw[if_neg h1]at h;cases h
 ·rw[if_neg h0]at h;by_cases h1: -(n:Int)≤i
  ·rw[if_pos h1]at h;have e:(i+n).toNat=j:=Option.some.inj h;exact⟨by rw[seqIndex_neg (by omega) h1,e],by omega,h1,by omega⟩
  ·rw[if_neg h1]at h;cases h
theorem xZ{α:Type}{xs:List α}{i:Int}{v:α}(h:gr xs i=some v):∃j,seqIndex? i xs.length=some j∧xs[j]?=some v∧j<xs.length∧-(xs.length:Int)≤i∧i<xs.length:=by
 unfold gr at h;cases e:lU xs.length i with
 |none=>rw[e]at h;cases h
 |some j=>rw[e]at h;obtain⟨h1,h2,h3,h4⟩:=QW e;exact⟨j,h1,h,h2,h3,h4⟩
def uA(b:Expr):Prop:=∀o i,subscripted b false o i=operate [o,i] (getItem o i)
noncomputable def mq(X:aM)(r:ep):Prop:=
 ∀(value slice:Expr)(pins:List (Addr×Obj))(s:Shared)(σ :St)(H:ai)(x y:V)(v u:Value)(Q:cP),Inv X pins σ H s→RelV x v→RelV y u→r x y H Q→
  subscripted slice false v u=operate [v,u] (getItem v u)→wpAny (model X.prog X.w) X.A (subscriptTail value slice v u) (gb X pins σ Q) X.xe s
noncomputable def xN(X:aM)(id:String)(r:V→List V→ai→cP→Prop):Prop:=
 ∀(pins:List (Addr×Obj))(s:Shared)(σ :St)(H:ai)(x:V)(xs:List V)(v:Value)(us:List Value)(Q:cP),Inv X pins σ H s→RelV x v→Vals xs us→r x xs H Q→
  wpAny (model X.prog X.w) X.A (call (.builtin id) (v::us)) (gb X pins σ Q) X.xe s
section
variable{X:aM}{a b:Expr}{b1 tb:TE}{pos:Pos}
theorem mq.or{r bf:ep}(h:mq X r)(h':mq X bf):mq X (fun x y H Q=>r x y H Q∨bf x y H Q):=by
 intro value slice pins s σ H x y v u Q I bw b9 q hs;rcases q with q|q
 ·exact h value slice pins s σ H x y v u Q I bw b9 q hs
 ·exact h' value slice pins s σ H x y v u Q I bw b9 q hs
theorem Uz{r:ep}(hr:mq X r)(ha:a3 X a b1)(hb:a3 X b tb)(hs:uA b):a3 X (.Subscript a b pos) (t6 r b1 tb):=by intro pins s σ H Q I h;exact Subscript_ (yG ha hb I h fun v u s2 x y a9 b5 bw b9 q=>hr a b pins s2 σ a9 x y v u Q b5 bw b9 q (hs _ _))
noncomputable def IJ(K:PySem.W.Frag):ep:=fun x y H Q=>∃p xs i v,x=.ref p∧y=.int i∧bP K H p xs∧gr xs i=some v∧Q v H
noncomputable def IL(K:PySem.W.Frag):ep:=fun x y H Q=>∃p xs i v,x=.ref p∧y=.int i∧cS K H p xs∧gr xs i=some v∧Q v H
noncomputable def IK:ep:=fun x y H Q=>∃z i c,x=.str z∧y=.int i∧z.length≤sizeLine∧gr z.cps.toList i=some c∧Q (.str ⟨#[c]⟩) H
theorem QX:mq X (IJ X.K):=by
 intro value slice pins s σ H x y v u Q I bw b9 h hs;obtain⟨p,xs,i,z,rfl,rfl,aJ,he,q⟩:=h;cases bw;obtain⟨t,rfl⟩:=b9;obtain⟨its,r,pl,bj⟩:=I.list aJ;obtain⟨j,h1,h2,h3,h4,h5⟩:=xZ he;obtain⟨w,jd,pY⟩:=r.get h2;have hl:=r.length;have aC:=tc;have fin:gb X pins σ Q w s:=⟨z,H,I,pY,q⟩;by_cases h0:0≤i
 ·have cg:i.toNat=j:=by
    rw[seqIndex_of h0 h5]at h1;exact Option.some.inj h1
  exact item_listR pl.isList h0 (by omega) (by rw[cg];simpa using jd) fin hs
 ·have cg:(i+(its.toArray.size:Int)).toNat=j:=by
    rw[seqIndex_neg (by omega) h4]at h1;rw[List.size_toArray,←hl];exact Option.some.inj h1
  exact subscriptTail_builtinR (x:=w) pl.isList.typeIs slot_list_getitem.lookup
   (wpAny_getItem_list_neg (Q:=fun r s'=>r=w∧gb X pins σ Q r s') pl.isList (by omega) (by rw[List.size_toArray]<;>omega) (by omega) (by rw[cg];simpa using jd) ⟨rfl,fin⟩) hs
theorem Q1:mq X (IL X.K):=by
 intro value slice pins s σ H x y v u Q I bw b9 h hs;obtain⟨p,xs,i,z,rfl,rfl,aJ,he,q⟩:=h;cases bw;obtain⟨t,rfl⟩:=b9;obtain⟨its,r,pl,bj⟩:=I.tuple aJ;obtain⟨j,h1,h2,h3,h4,h5⟩:=xZ he;obtain⟨w,jd,pY⟩:=r.get h2;have hl:=r.length;have aC:=tc;have fin:gb X pins σ Q w s:=⟨z,H,I,pY,q⟩
 exact subscriptTail_builtinR (x:=w) pl.typeIs slot_tuple_getitem.lookup
  (getItem_tuple (j:=j) (Q:=fun r s'=>r=w∧gb X pins σ Q r s') pl (by omega) (by omega) (by rw[List.size_toArray,←hl];exact h1) (by simpa using jd) ⟨rfl,fin⟩) hs
theorem Q0:mq X IK:=by
 intro value slice pins s σ H x y v u Q I bw b9 h hs;obtain⟨z,i,c,rfl,rfl,bj,he,q⟩:=h;obtain⟨t,rfl⟩:=bw;obtain⟨t',rfl⟩:=b9;obtain⟨j,h1,h2,h3,h4,h5⟩:=xZ he;have hl:z.cps.toList.length=z.length:=by simp[Str.length]
 rw[hl]at h1 h4 h5;have aC:=tc;exact tail_any (typeIs_str s z t) slot_str_getitem.lookup (getItem_str (c:=c) (by have aq:decide (i< -(2^63:Int))=false:=decide_eq_false (by omega);have az:decide (i≥2^63)=false:=decide_eq_false (by omega);rw[aq,az,Bool.or_false]) (by rw[h1];simpa using h2) ⟨.str ⟨#[c]⟩,H,I.tok _,⟨_,rfl⟩,q⟩) hs
def II(K:PySem.W.Frag):ep:=fun x y H Q=>IJ K x y H Q∨IL K x y H Q∨IK x y H Q
theorem QZ:mq X (II X.K):=QX.or (Q1.or Q0)
theorem Inv.lst{pins:List (Addr×Obj)}{σ :St}{H:ai}{s:Shared}{p:Addr}{xs:List V}(I:Inv X pins σ H s)(h:H p=some (.lst xs)) :
  ∃(its:List Value)(n:Nat),Vals xs its∧s.heap.get? p=some { cls:=.type "list",data:=.seq its.toArray n }∧xs.length≤sizeLine:=by
 obtain⟨z,its,n,r,e⟩:=I.bF p _ h;exact⟨its,n,r,e,z⟩
theorem Xi(lo hi:Option Int)(n:Nat):(sliceBounds lo hi none n).1=((d6.eH n 0 lo:Nat):Int)∧(sliceBounds lo hi none n).2.1=((d6.eH n n hi:Nat):Int)∧(sliceBounds lo hi none n).2.2=1:=by
 refine⟨?_,?_,rfl⟩
 ·cases lo with
  |none=>simp[sliceBounds,d6.eH]
  |some i=>
   simp only[sliceBounds,d6.eH,Option.getD_none,show(1:Int)>0 by decide,if_true];by_cases h:i<0
   ·simp only[h,if_true]<;>omega
   ·simp only[h,if_false]<;>omega
 ·cases hi with
  |none=>simp[sliceBounds,d6.eH]
  |some i=>
   simp only[sliceBounds,d6.eH,Option.getD_none,show(1:Int)>0 by decide,if_true];by_cases h:i<0
   ·simp only[h,if_true]<;>omega
   ·simp only[h,if_false]<;>omega
theorem Xh(its:List Value)(lo hi:Option Int):slicePick its.toArray lo hi none=((its.drop (d6.eH its.length 0 lo)).take (d6.eH its.length its.length hi-d6.eH its.length 0 lo)).toArray:=by obtain⟨h1,h2,h3⟩:=Xi lo hi its.toArray.size;unfold slicePick;rw[h1,h2,h3];simp only[sliceRange_one,pick_run,List.size_toArray]<;>rfl
noncomputable def IP(K:PySem.W.Frag):V→Option Int→Option Int→ai→cP→Prop:=fun x lo hi H Q=>∃a xs,x=.ref a∧bP K H a xs∧∀p,H p=none→Q (.ref p) (upd H p (.lst (qP xs lo hi)))
theorem Xf:oU X (IP X.K):=by intro pins s σ H x v kB kC lo hi cF Q I bw hs pl pu h;obtain⟨a,xs,rfl,hx,q⟩:=h;cases bw;obtain⟨its,r,ht,bj⟩:=I.list hx;have hlen:=r.length;refine⟨"list",_,slot_list_getitem.lookup,ht.isList.typeIs,?_⟩;refine wpAny_getItem_list_slice ht.isList hs pl pu .none (by simp) ?_ (by rw[List.size_toArray]<;>omega);rw[Xh,←hlen];refine⟨.ref s.heap.objs.size,_,I.laid (t':=s.toks) (o:=.lst (qP xs lo hi)) (fun b a4 q=>Heap.get?_push_of_some _ q) (Nat.le_refl _) ?_,rfl,q _ (I.bF.fresh (Nat.le_refl _))⟩;exact⟨Nat.le_trans (Me xs lo hi) bj,_,0,(r.drop (d6.eH xs.length 0 lo)).take (d6.eH xs.length xs.length hi-d6.eH xs.length 0 lo),Heap.get?_push_size _ rfl⟩
theorem gR.or{f:Value}{r bf:List V→ai→cP→Prop}(h:gR X f r)(h':gR X f bf):gR X f (fun xs H Q=>r xs H Q∨bf xs H Q):=by
 intro pins s σ H xs us Q I rs q;rcases q with q|q
 ·exact h pins s σ H xs us Q I rs q
 ·exact h' pins s σ H xs us Q I rs q
theorem L1:gR X (.type "list") (fun xs H Q=>∃p ys,xs=[.ref p]∧(bP X.K H p ys∨cS X.K H p ys)∧∀l,H l=none→Q (.ref l) (upd H l (.lst ys))):=by
 intro pins s σ H xs us Q I r h;obtain⟨p,ys,rfl,aJ,q⟩:=h;obtain⟨u,rfl,bw⟩:=vals1 r;cases bw
 have fin:∀(its:List Value),Vals ys its→ys.length≤sizeLine→∀(h':Heap)(ej:Nat),(∀b bJ,s.heap.get? b=some bJ→h'.get? b=some bJ)→
   h'.get? s.heap.objs.size=some { cls:=.type "list",dict:=none,data:=.seq its.toArray ej,slots:= #[] }→gb X pins σ Q (.ref s.heap.objs.size) { s with heap:=h' }:=fun its bf bj h' ej aK e=>
  ⟨.ref s.heap.objs.size,_,I.laid (t':=s.toks) aK (Nat.le_refl _) (show e5 X.prog X.w _ h' _ (.lst ys)from⟨bj,its,ej,bf,e⟩),rfl,q _ (I.bF.fresh (Nat.le_refl _))⟩
 rcases aJ with aJ|aJ
 ·obtain⟨its,bf,pl,bj⟩:=I.list aJ;have hlen:=bf.length;obtain⟨o,ho,hc,n,hd⟩:=pl.isList;exact call_list_seq p (.inl rfl) ho hc hd (fun h' ej aK e=>fin its bf bj h' ej aK e) (by simp only[List.size_toArray]<;>omega)
 ·obtain⟨its,bf,pl,bj⟩:=I.tuple aJ;have hlen:=bf.length;obtain⟨o,ho,hc,n,hd⟩:=pl;exact call_list_seq p (.inr rfl) ho hc hd (fun h' ej aK e=>fin its bf bj h' ej aK e) (by simp only[List.size_toArray]<;>omega)
theorem L6:gR X (.type "tuple") (fun xs H Q=>∃p ys,xs=[.ref p]∧((bP X.K H p ys∧∀l,H l=none→Q (.ref l) (upd H l (.tup ys)))∨(cS X.K H p ys∧Q (.ref p) H))):=by
 intro pins s σ H xs us Q I r h;obtain⟨p,ys,rfl,h⟩:=h;obtain⟨u,rfl,bw⟩:=vals1 r;cases bw;rcases h with⟨aJ,q⟩|⟨aJ,q⟩
 ·obtain⟨its,bf,pl,bj⟩:=I.list aJ;have hlen:=bf.length;refine call_tuple_list pl.isList (fun h' aK=>?_) (by simp only[List.size_toArray]<;>omega);have aQ:Inv X pins σ H { s with heap:=h' }:=I.kept (t':=s.toks) aK;have b5:Inv X pins σ (upd H h'.objs.size (.tup ys)) { s with heap:=h'.push { cls:=.type "tuple",data:=.seq its.toArray } }:=
   aQ.laid (t':=s.toks) (fun b o e=>Heap.get?_push_of_some _ e) (Nat.le_refl _) (show e5 X.prog X.w _ _ _ (.tup ys)from⟨bj,its,bf,IsTup.new _ _⟩)
  exact⟨.ref h'.objs.size,_,b5,rfl,q _ (aQ.bF.fresh (Nat.le_refl _))⟩
 ·obtain⟨its,bf,pl,bj⟩:=I.tuple aJ;exact call_tuple_same pl ⟨.ref p,H,I,rfl,q⟩
noncomputable def JZ(K:PySem.W.Frag)(T:String)(x:V)(H:ai):Prop:=match x with
 |.str _=>T="str"
 |.int _=>T="int"
 |.ref p=>(T="list"∧∃xs,bP K H p xs)∨(T="tuple"∧∃o,K.lookup p=some o∧o.cls=.type "tuple"∧o.dict=none)∨
     (T="dict"∧((∃aV,H p=some (.dm aV))∨∃aV,H p=some (.bK aV)))∨(T="set"∧∃S n,H p=some (.set S n))
 |_=>False
theorem Yo{pins:List (Addr×Obj)}{σ :St}{H:ai}{s:Shared}{T:String}{x:V}{v:Value}(I:Inv X pins σ H s)(r:RelV x v)(ty:JZ X.K T x H) :
  s.TypeIs v T∧∀a,v=.ref a→∃a4,s.heap.get? a=some a4∧a4.dict=none:=by
 cases x with
 |str z=>obtain⟨t,rfl⟩:=r;cases(show T="str" from ty);exact⟨typeIs_str s z t,fun _ e=>nomatch e⟩
 |int i=>obtain⟨t,rfl⟩:=r;cases(show T="int" from ty);exact⟨typeIs_int s i t,fun _ e=>nomatch e⟩
 |ref p=>
  cases r;rcases ty with⟨rfl,xs,aJ⟩|⟨rfl,o,hk,hc,hd⟩|⟨rfl,hk⟩|⟨rfl,S,n,hk⟩
  ·obtain⟨its,_,pl,_⟩:=I.list aJ;refine⟨pl.isList.typeIs,fun a e=>?_⟩;cases e;obtain⟨o,n,e,c,hd,_⟩:=pl;exact⟨o,e,hd⟩
  ·refine⟨⟨o,I.fJ p o hk,hc⟩,fun a e=>?_⟩;cases e;exact⟨o,I.fJ _ o hk,hd⟩
  ·have z:∃o,s.heap.get? p=some o∧o.ExactDict:=by
     rcases hk with⟨aV,hk⟩|⟨aV,hk⟩
     ·obtain⟨_,_,_,_,o,_,_,e,ex,_⟩:=I.bF p _ hk;exact⟨o,e,ex⟩
     ·obtain⟨_,_,_,_,o,_,_,e,ex,_⟩:=I.bF p _ hk;exact⟨o,e,ex⟩
   obtain⟨o,e,ex⟩:=z;refine⟨⟨o,e,ex.1⟩,fun a az=>?_⟩;cases az;exact⟨o,e,ex.2.1⟩
  ·obtain⟨o,_,_,_,e,ex,_⟩:=I.bF p _ hk;refine⟨⟨o,e,ex.1⟩,fun a az=>?_⟩;cases az;exact⟨o,e,ex.2.1⟩
 |_=>exact False.elim ty
noncomputable def Xy(K:PySem.W.Frag)(T:String)(r:V→List V→ai→cP→Prop)(to:TE)(t:er):TE:=fun σ H Q=>to σ H fun x H1=>JZ K T x H1∧t σ H1 fun xs a9=>r x xs a9 Q
variable{o e:Expr}{es:List Expr}{to:TE}{t:er}{name:Str}{apos bM:Pos}{T id:String}{r:V→List V→ai→cP→Prop}
theorem pU (Ui:PlainAttrs T) (slot:Slot T name id) (Pz:typeOf (.builtin id)=pure (.type "method_descriptor")) (hm:xN X id r) (ho:a3 X o to) (ha:eT X (e::es) t)(hbase:attributeBase o name X.env (eval o X.env)=eval o X.env:=by rfl)(hfew:((backTo bM (starEach (e::es) X.env)).all (fun x=>!x.1)&&(backToKw bM (keywordEach [] X.env)).all (fun x=>x.1.isSome)
    &&decide ((e::es).length+([]:List Keyword).length+(if([]:List Keyword).isEmpty then 0 else 1)<30))=true:=by rfl)
  (hline:(apos.endLine==bM.line)=true:=by rfl) (hs:starEach (e::es) X.env=(false,eval e X.env)::starEach es X.env:=by rfl) (hplain:(backTo bM (starEach es X.env)).any (·.1)=false:=by rfl) :
  a3 X (.Call (.Attribute o name apos) (e::es) [] bM) (Xy X.K T r to t):=by
 intro pins s σ H Q I h;refine wpAny_Call_method_late hbase hfew hline rfl (bL (ho pins s σ H _ I h) fun v s1⟨x,H1,aQ,au,ty,aS⟩=>?_);obtain⟨h1,h2⟩:=Yo aQ au ty;refine⟨T,id,Ui,slot,Pz,h1,h2,?_⟩;have kg:=ha bM pins s1 σ H1 _ aQ aS;rw[hs]at kg ⊢;refine Calls.callWith_builtin (by show(false||(backTo bM (starEach es X.env)).any (·.1))=false;rw[hplain]<;>rfl) (Calls.evalArgs_plain ?_);exact bL kg fun us s2⟨vs,a9,b5,bh,bl⟩=>hm pins s2 σ a9 x vs v us Q b5 au bh bl
end
noncomputable def uw(X:aM)(id:String)(r:V→List V→ai→cP→Prop):Prop:=
 ∀(pins:List (Addr×Obj))(s:Shared)(σ :St)(H:ai)(x:V)(xs:List V)(v:Value)(us:List Value)(Q:cP),Inv X pins σ H s→RelV x v→Vals xs us→r x xs H Q→
  wpAny (model X.prog X.w) X.A (call (.builtin id) (v::us)) (gb X pins σ Q) X.xe s
theorem Vals.one:∀{x:V}{us:List Value},Vals [x] us→∃u,us=[u]∧RelV x u
 |_,_,.cons r .nil=>⟨_,rfl,r⟩
theorem Vals.eraseIdx:∀{xs:List V}{us:List Value}(i:Nat),Vals xs us→Vals (xs.eraseIdx i) (us.eraseIdx i)
 |_,_,_,.nil=>.nil
 |_,_,0,.cons _ t=>t
 |_,_,i+1,.cons r t=>.cons r (Vals.eraseIdx i t)
theorem Vals.rep{xs:List V}{us:List Value}(h:Vals xs us):∀k:Nat,Vals (List.replicate k xs).flatten (List.replicate k us).flatten
 |0=>.nil
 |k+1=>by rw[List.replicate_succ,List.replicate_succ,List.flatten_cons,List.flatten_cons];exact Vals.append h (Vals.rep h k)
theorem Ho{α:Type}:∀(l:List α)(i:Nat),(l.eraseIdx i).length≤l.length
 |[],_=>Nat.le_refl _
 |_::_,0=>Nat.le_succ _
 |_::r,i+1=>Nat.succ_le_succ (Ho r i)
theorem foldl_rep(its:List Value):∀(k:Nat)(acc:List Value),
  List.foldl (fun e2 cc=>e2++cc) acc.toArray (List.replicate k its.toArray)=(acc++(List.replicate k its).flatten).toArray
 |0,acc=>by simp
 |k+1,acc=>by
  have e:acc.toArray++its.toArray=(acc++its).toArray:=by simp
  have az:(acc++its)++(List.replicate k its).flatten=acc++(List.replicate (k+1) its).flatten:=by rw[List.replicate_succ,List.flatten_cons,List.append_assoc]
  rw[←az,←foldl_rep its k (acc++its),←e,List.replicate_succ,List.foldl_cons]
section
variable{X:aM}{pins:List (Addr×Obj)}{σ :St}{H:ai}{s:Shared}{l b:Addr}{xs ys zs:List V}
theorem Inv.vN{its its':List Value}{n:Nat}{f:Array Value→Array Value}{t':Nat}(I:Inv X pins σ H s)(g5:H l=some (.lst xs))(e:s.heap.get? l=some { cls:=.type "list",data:=.seq its.toArray n })(hf:f its.toArray=its'.toArray)(hv:Vals ys its')(bj:ys.length≤sizeLine) :
  Inv X pins σ (upd H l (.lst ys)) { s with heap:=s.heap.update l (Obj.mapSeq f),toks:=t' }:=by
 have q:=PySem.IsL.update e f;rw[hf]at q;refine I.write (x:=l) (e:=l) (by rw[g5];exact trivial) (.inl rfl) (fun eV u hb hu=>(Heap.get?_update_other s.heap (Obj.mapSeq f) (Ne.symm hb)).trans hu) ⟨_,q⟩ ?_;exact⟨bj,its',_,hv,q⟩
theorem Inv.z5{its:List Value}{t':Nat}(I:Inv X pins σ H s)(hv:Vals ys its)(bj:ys.length≤sizeLine) :
  Inv X pins σ (upd H s.heap.objs.size (.lst ys)) { s with heap:=s.heap.push { cls:=.type "list",data:=.seq its.toArray },toks:=t' }:=
 I.laid (fun _ _ q=>Heap.get?_push_of_some _ q) (Nat.le_refl _) ⟨bj,its,0,hv,Heap.get?_push_size _ rfl⟩
theorem Inv.fresh(I:Inv X pins σ H s):H s.heap.objs.size=none:=I.bF.fresh (Nat.le_refl _)
theorem Inv.n5(I:Inv X pins σ H s)(g5:H l=some (.lst xs)):xs.length≤sizeLine∧∃(its:List Value)(n:Nat),Vals xs its∧xs.length=its.length∧s.heap.get? l=some { cls:=.type "list",data:=.seq its.toArray n }:=by obtain⟨z,its,n,r,e⟩:=I.bF l _ g5;exact⟨z,its,n,r,r.length,e⟩
theorem HS{n:Nat}(h:n≤sizeLine):Builtin.List.listTooLong n=false:=by unfold Builtin.List.listTooLong;exact decide_eq_false (by omega)
end
section
variable{X:aM}
noncomputable def Vt:V→List V→ai→cP→Prop:=fun x vs H Q=>∃l xs y,x=.ref l∧vs=[y]∧H l=some (.lst xs)∧xs.length<sizeLine∧Q .non (upd H l (.lst (xs++[y])))
theorem Ah:uw X "list.append" Vt:=by intro pins s σ H x vs v us Q I bw bV h;obtain⟨l,xs,y,rfl,rfl,g5,bj,q⟩:=h;cases bw;obtain⟨u,rfl,ed⟩:=bV.one;obtain⟨z,its,n,r,hl,e⟩:=I.n5 g5;refine call_meets F.slot_list_append ⟨_,e,rfl⟩ F.entry_list_append (F.args_list_append_2 _ _) (PySem.list_append l its.toArray n u (by rw[List.size_toArray];omega)) ⟨e,?_⟩;refine⟨.non,_,I.vN (its':=its++[u]) g5 e (by simp) (r.append (.cons ed .nil)) ?_,rfl,q⟩;rw[List.length_append,List.length_singleton];omega
noncomputable def Vu:V→List V→ai→cP→Prop:=fun x vs H Q=>∃l b xs zs,x=.ref l∧vs=[.ref b]∧H l=some (.lst xs)∧H b=some (.lst zs)∧xs.length+zs.length≤sizeLine∧Q .non (upd H l (.lst (xs++zs)))
theorem SS:uw X "list.extend" Vu:=by
 intro pins s σ H x vs v us Q I bw bV h;obtain⟨l,b,xs,zs,rfl,rfl,g5,mF,bj,q⟩:=h;cases bw;obtain⟨u,rfl,ed⟩:=bV.one;cases ed;obtain⟨z,its,n,r,hl,e⟩:=I.n5 g5;obtain⟨aZ,ey,c2,bh,sQ,az⟩:=I.n5 mF;have hsz:its.toArray.size+ey.toArray.size≤sizeLine:=by rw[List.size_toArray,List.size_toArray];omega
 have zw:¬(!its.toArray.isEmpty&&Builtin.List.listTooLong (its.toArray.size+ey.toArray.size))=true:=by rw[HS hsz,Bool.and_false];exact Bool.false_ne_true
 refine call_meets F.slot_list_extend ⟨_,e,rfl⟩ F.entry_list_extend (F.args_list_extend_2 _ _)
  (AutoSeq1.list_extend_list_list_0 l its.toArray n b ey.toArray c2 zw (by rw[List.size_toArray];omega) (by omega)) ⟨e,az,?_⟩
 refine⟨.non,_,I.vN (its':=its++ey) g5 e (by simp) (r.append bh) ?_,rfl,q⟩;rw[List.length_append];omega
noncomputable def Vz:V→List V→ai→cP→Prop:=fun x vs H Q=>∃l xs i k y,x=.ref l∧vs=[.int i]∧H l=some (.lst xs)∧-(2^63)≤i∧i<2^63∧seqIndex? i xs.length=some k∧xs[k]?=some y∧Q y (upd H l (.lst (xs.eraseIdx k)))
theorem SX:uw X "list.pop" Vz:=by
 intro pins s σ H x vs v us Q I bw bV h;obtain⟨l,xs,i,k,y,rfl,rfl,g5,h1,h2,hk,bX,q⟩:=h;cases bw;obtain⟨u,rfl,ed⟩:=bV.one;obtain⟨t,rfl⟩:=ed;obtain⟨z,its,n,r,hl,e⟩:=I.n5 g5;obtain⟨w,hw,pY⟩:=r.get bX
 refine call_meets F.slot_list_pop ⟨_,e,rfl⟩ F.entry_list_pop (F.args_list_pop_2 _ _)
  (MeetsSeq.list_pop_at l its.toArray n i t k w (fitsIndex_both h1 h2) (by rw[List.size_toArray,←hl];exact hk) (by rw[←Array.getElem?_toList];exact hw) (by rw[List.size_toArray];omega)) ⟨e,?_⟩
 refine⟨y,_,I.vN (its':=its.eraseIdx k) g5 e ?_ (r.eraseIdx k) ?_,pY,q⟩
 ·show its.toArray.eraseIdxIfInBounds k=(its.eraseIdx k).toArray;rw[List.eraseIdxIfInBounds_toArray]
 ·have:=Ho xs k;omega
noncomputable def IH:ep:=fun x y H Q=>∃l b xs zs,x=.ref l∧y=.ref b∧H l=some (.lst xs)∧H b=some (.lst zs)∧xs.length+zs.length≤sizeLine∧∀p,H p=none→Q (.ref p) (upd H p (.lst (xs++zs)))
theorem T2:dF X (binaryOp .Add) IH:=by
 intro pins s σ H x y v u Q I bw b9 h;obtain⟨l,b,xs,zs,rfl,rfl,g5,mF,bj,q⟩:=h;cases bw;cases b9;obtain⟨z,its,n,r,hl,e⟩:=I.n5 g5;obtain⟨aZ,ey,c2,bh,sQ,az⟩:=I.n5 mF;refine PySem.P.add_list e az ?_ (by rw[List.size_toArray,List.size_toArray];omega);have av:its.toArray++ey.toArray=(its++ey).toArray:=by simp
 rw[av];exact⟨.ref _,_,I.z5 (t':=s.toks) (r.append bh) (by rw[List.length_append];omega),rfl,q _ I.fresh⟩
noncomputable def IM:ep:=fun x y H Q=>∃l k xs,x=.ref l∧y=.int k∧H l=some (.lst xs)∧-(2^63)≤k∧k<2^63∧xs.length*k.toNat≤sizeLine∧
 ∀p,H p=none→Q (.ref p) (upd H p (.lst (List.replicate k.toNat xs).flatten))
theorem len_rep{α:Type}(xs:List α)(k:Nat):(List.replicate k xs).flatten.length=k*xs.length:=by
 induction k with
 |zero=>simp
 |succ k bQ=>rw[List.replicate_succ,List.flatten_cons,List.length_append,bQ,Nat.succ_mul,Nat.add_comm]
theorem T8:dF X (binaryOp .Mult) IM:=by
 intro pins s σ H x y v u Q I bw b9 h;obtain⟨l,k,xs,rfl,rfl,g5,h1,h2,bj,q⟩:=h;cases bw;obtain⟨t,rfl⟩:=b9;obtain⟨z,its,n,r,hl,e⟩:=I.n5 g5;have hlen:its.toArray.size*k.toNat≤sizeLine:=by rw[List.size_toArray,←hl];exact bj
 have OM:¬its.toArray.size*k.toNat>(2^63-1)/8:=by
  have:(sizeLine:Nat)≤(2^63-1)/8:=by decide
  omega
 have OV:¬(!Builtin.List.listFitsIndex k)=true:=by rw[fitsIndex_both h1 h2];exact Bool.false_ne_true
 have zw:¬Builtin.List.listTooLong (its.toArray.size*k.toNat)=true:=by rw[HS hlen];exact Bool.false_ne_true
 have Pe:List.foldl (fun e2 cc=>e2++cc) #[] (List.replicate (if its.toArray.isEmpty=true then 0 else k.toNat) its.toArray)=(List.replicate k.toNat its).flatten.toArray:=by
  have f0:∀m:Nat,List.foldl (fun e2 cc=>e2++cc) #[] (List.replicate m its.toArray)=(List.replicate m its).flatten.toArray:=fun m=>by have:=foldl_rep its m [];rw[List.nil_append]at this;exact this
  rw[f0];cases its with
  |nil=>simp
  |cons a bf=>rw[if_neg (by simp)]
 refine wpAny_binaryOp_repeat_ref (T:="list") (U:="int") (by decide) ⟨_,e,rfl⟩ (fun s'=>typeIs_int s' k t) noFill_list_mul F.fills_int_mul F.slot_int_rmul repeat_list F.slot_int_index.lookup
  (call_meets F.slot_int_rmul (typeIs_int s k t) F.entry_int_rmul (F.args_int_rmul_2 _ _) (int___rmul___int_list k t l its.toArray n)
    ⟨e,rfl,⟨_,e,rfl⟩,call_meets F.slot_list_mul ⟨_,e,rfl⟩ F.entry_list_mul (F.args_list_mul_2 _ _) (AutoListH.list___mul___list_int_3 l its.toArray n k t OV OM zw) ⟨e,?_⟩⟩)
 rw[Pe];exact⟨.ref _,_,I.z5 (t':=s.toks) (r.rep k.toNat) (by rw[len_rep,Nat.mul_comm];exact bj),rfl,q _ I.fresh⟩
end
section
variable{prog:Program}{w:World}{A:Around}{E:Value→Shared→Prop}{s:Shared}
end
section
variable{X:aM}
end
section
variable{κ:Type}[DecidableEq κ]
def gj(aV:List (κ×V))(k:κ):Option V:=(aV.find? fun eY=>decide (eY.1=k)).map (·.2)
noncomputable def putK(aV:List (κ×V))(k:κ)(v:V):List (κ×V):=
 if(aV.any fun eY=>decide (eY.1=k))=true then aV.map (fun eY=>if eY.1=k then(eY.1,v)else eY)else aV++[(k,v)]
theorem Cz{p:κ×V}{r:List (κ×V)}{k:κ}(e:p.1=k):gj (p::r) k=some p.2:=by simp[gj,List.find?_cons,e]
theorem Cy{p:κ×V}{r:List (κ×V)}{k:κ}(e:¬p.1=k):gj (p::r) k=gj r k:=by simp[gj,List.find?_cons,e]
theorem Cx(k:κ):∀aV:List (κ×V),(aV.any fun eY=>decide (eY.1=k))=(gj aV k).isSome
 |[]=>rfl
 |p::r=>by
  rw[List.any_cons];by_cases e:p.1=k
  ·simp only[Cz e,decide_eq_true e,Bool.true_or,Option.isSome_some]
  ·rw[Cy e,decide_eq_false e,Bool.false_or];exact Cx k r
theorem Hr(aV:List (κ×V))(k:κ)(v:V):(putK aV k v).length≤aV.length+1:=by
 unfold putK
 split
 ·rw[List.length_map];omega
 ·rw[List.length_append,List.length_cons,List.length_nil];omega
theorem Vk{aV:List (κ×V)}{k:κ}(v:V)(h:gj aV k=none):putK aV k v=aV++[(k,v)]:=by unfold putK;rw[Cx,h];exact if_neg (by decide)
theorem ia.s6{o:Option V}{u:Option Value}(r:ia o u):o.isSome=u.isSome:=by
 cases o with
 |none=>cases u with
  |none=>rfl
  |some _=>exact(show False from r).elim
 |some _=>cases u with
  |none=>exact(show False from r).elim
  |some _=>rfl
theorem ia.getD{o:Option V}{u:Option Value}{d:V}{d':Value}(r:ia o u)(AO:RelV d d'):RelV (o.getD d) (u.getD d'):=by
 cases o with
 |none=>cases u with
  |none=>exact AO
  |some _=>exact(show False from r).elim
 |some _=>cases u with
  |none=>exact(show False from r).elim
  |some _=>exact r
theorem gp.val{aV:List (κ×V)}{vs:List (κ×Value)}(r:gp aV vs)(k:κ):ia (gj aV k) (valueAt vs k):=by
 unfold gp at r;induction r with
 |nil=>exact True.intro
 | @cons p q ps dD h t bQ=>
   obtain⟨h1,h2⟩:=h;by_cases e:p.1=k
   ·have b6:q.1=k:=h1.symm.trans e;have b:valueAt (q::dD) k=some q.2:=by simp[valueAt,List.find?_cons,b6]
    rw[Cz e,b];exact h2
   ·have b6:¬q.1=k:=fun z=>e (h1.trans z);have b:valueAt (q::dD) k=valueAt dD k:=by simp[valueAt,List.find?_cons,b6]
    rw[Cy e,b];exact bQ
theorem gp.any{aV:List (κ×V)}{vs:List (κ×Value)}(r:gp aV vs)(k:κ):(aV.any fun eY=>decide (eY.1=k))=vs.any fun eY=>decide (eY.1=k):=by
 unfold gp at r;induction r with
 |nil=>rfl
 |cons h t bQ=>rw[List.any_cons,List.any_cons,bQ,h.1]
theorem gp.AQ{aV:List (κ×V)}{vs:List (κ×Value)}(r:gp aV vs)(k:κ){y:V}{u:Value}(b9:RelV y u) :
  gp (aV.map fun eY=>if eY.1=k then(eY.1,y)else eY) (vs.map fun eY=>if eY.1=k then(eY.1,u)else eY):=by
 unfold gp at r ⊢;induction r with
 |nil=>exact .nil
 | @cons p q ps dD h t bQ=>
   rw[List.map_cons,List.map_cons];refine .cons ?_ bQ;obtain⟨h1,h2⟩:=h;by_cases e:p.1=k
   ·rw[if_pos e,if_pos (h1.symm.trans e)];exact⟨h1,b9⟩
   ·rw[if_neg e,if_neg (fun z=>e (h1.trans z))];exact⟨h1,h2⟩
theorem gp.put{aV:List (κ×V)}{vs:List (κ×Value)}(r:gp aV vs)(k:κ){y:V}{u:Value}(b9:RelV y u):gp (putK aV k y) (stored vs k u):=by
 unfold putK stored;rw[r.any k];by_cases e:(vs.any fun eY=>decide (eY.1=k))=true
 ·rw[if_pos e,if_pos e];exact r.AQ k b9
 ·rw[if_neg e,if_neg e];exact Paired.snoc r ⟨rfl,b9⟩
theorem gp.length{aV:List (κ×V)}{vs:List (κ×Value)}(r:gp aV vs):aV.length=vs.length:=Paired.length r
end
theorem s8{P:Program}{w:World}{k:Key}{u:Value}(r:RelV (cM k) u):(hW P w).is k u=true:=by
 cases k with
 |inl i=>obtain⟨t,e⟩:=(show ∃t,u=Value.int i t from r);subst e;exact SP P w i t
 |inr x=>obtain⟨t,e⟩:=(show ∃t,u=Value.str x t from r);subst e;exact SQ P w x t
theorem G3{P:Program}{w:World}:∀{aH:List Key}{us:List Value},Vals (aH.map cM) us→ItemsAre (hW P w) aH us
 |[],_,r=>by rw[List.map_nil]at r;cases r;exact .nil
 |k::aH,_,r=>by
  rw[List.map_cons]at r;cases r with
  |cons h t=>exact .cons (s8 h) (G3 t)
abbrev KT(H:ai):List (List Key×V)→List (List Key×Addr×Value)→Prop:=Paired fun p q=>p.1=q.1∧H q.2.1=some (.tup (p.1.map cM))∧RelV p.2 q.2.2
theorem KT.val{H:ai}{aV:List (List Key×V)}{xs:List (List Key×Addr×Value)}(r:KT H aV xs)(k:List Key):ia (gj aV k) ((atKey xs k).map (·.2)):=by
 induction r with
 |nil=>exact True.intro
 | @cons p q ps dD h t bQ=>
   obtain⟨h1,_,h2⟩:=h;by_cases e:p.1=k
   ·have b6:q.1=k:=h1.symm.trans e;have b:atKey (q::dD) k=some q.2:=by simp[atKey,List.find?_cons,b6]
    rw[Cz e,b];exact h2
   ·have b6:¬q.1=k:=fun z=>e (h1.trans z);have b:atKey (q::dD) k=atKey dD k:=by simp[atKey,List.find?_cons,b6]
    rw[Cy e,b];exact bQ
theorem KT.AQ{H:ai}{aV:List (List Key×V)}{xs:List (List Key×Addr×Value)}(r:KT H aV xs)(k:List Key){y:V}{u:Value}(b9:RelV y u) :
  KT H (aV.map fun eY=>if eY.1=k then(eY.1,y)else eY) (xs.map (putAt k u)):=by
 induction r with
 |nil=>exact .nil
 | @cons p q ps dD h t bQ=>
   rw[List.map_cons,List.map_cons];refine .cons ?_ bQ;obtain⟨h1,h2,h3⟩:=h;unfold putAt;by_cases e:p.1=k
   ·rw[if_pos e,if_pos (h1.symm.trans e)];exact⟨h1,h2,b9⟩
   ·rw[if_neg e,if_neg (fun z=>e (h1.trans z))];exact⟨h1,h2,h3⟩
theorem KT.put{H:ai}{aV:List (List Key×V)}{xs:List (List Key×Addr×Value)}(r:KT H aV xs)(k:List Key){b:Addr}{y:V}{u:Value}(hb:H b=some (.tup (k.map cM)))(b9:RelV y u) :
  KT H (putK aV k y) (storedH xs k b u):=by
 have e:(aV.any fun eY=>decide (eY.1=k))=(atKey xs k).isSome:=by rw[Cx,(r.val k).s6,Option.isSome_map]
 unfold putK storedH;rw[e];by_cases q:(atKey xs k).isSome=true
 ·rw[if_pos q,if_pos q];exact r.AQ k b9
 ·rw[if_neg q,if_neg q];exact Paired.snoc r ⟨rfl,hb,b9⟩
theorem KT.keeps{H H':ai}{aV:List (List Key×V)}{xs:List (List Key×Addr×Value)}(r:KT H aV xs)(ht:∀b ys,H b=some (.tup ys)→H' b=some (.tup ys)):KT H' aV xs:=
 Paired.Ac r fun _ _ z=>⟨z.1,ht _ _ z.2.1,z.2.2⟩
section
variable{P:Program}{w:World}{H:ai}{h:Heap}{a:Addr}
theorem IV{u:dK}(ok:ee P w H h)(e:gq H a u):e5 P w H h a u:=e.ok ok
theorem si{aV:List (Key×V)}(ok:ee P w H h)(e:gq H a (.dm aV)):aV.length≤sizeLine∧(a==sysModules)=false∧∃vs,gp aV vs∧h.DictOf (hW P w) a vs:=
 show e5 P w H h a (.dm aV)from IV ok e
theorem MA{aV:List (Key×V)}(ok:ee P w H h)(e:H a=some (.dm aV)):aV.length≤sizeLine∧(a==sysModules)=false∧∃vs,gp aV vs∧h.DictOf (hW P w) a vs:=si ok (.inl e)
theorem q6{aH:List Key}(ok:ee P w H h)(e:H a=some (.tup (aH.map cM))):(tupleKind (hW P w)).is h aH a:=by obtain⟨_,its,r,o,h1,h2,n,h3⟩:=(show e5 P w H h a (.tup (aH.map cM))from ok a _ e);exact⟨o,its.toArray,n,h1,h2,h3,by simpa using G3 r⟩
theorem sj{aV:List (List Key×V)}(ok:ee P w H h)(e:gq H a (.bK aV)):aV.length≤sizeLine∧(a==sysModules)=false∧
  ∃xs,KT H aV xs∧h.DictOfH (tupleKind (hW P w)) a xs:=by
 obtain⟨z,y,xs,r,o,es,cz,h1,h2,h3,h4,h5⟩:=(show e5 P w H h a (.bK aV)from IV ok e);refine⟨z,y,xs,r,o,es,cz,h1,h2,h3,h4,fun x hx=>?_,h5⟩;have all:∀{l:List (List Key×V)}{m:List (List Key×Addr×Value)},KT H l m→∀x∈m,(tupleKind (hW P w)).is h x.1 x.2.1:=by
  intro l m q;induction q with
  |nil=>intro x hx;exact nomatch hx
  | @cons p q ps dD aJ t bQ=>
    intro x hx;rcases List.mem_cons.mp hx with e|hx
    ·subst e;exact q6 ok (by rw[←aJ.1];exact aJ.2.1)
    ·exact bQ x hx
 exact all r x hx
theorem ME{aV:List (List Key×V)}(ok:ee P w H h)(e:H a=some (.bK aV)):aV.length≤sizeLine∧(a==sysModules)=false∧
  ∃xs,KT H aV xs∧h.DictOfH (tupleKind (hW P w)) a xs:=sj ok (.inl e)
end
noncomputable def jw(H:ai)(a:Addr)(y:V)(r:Option V):Prop:=
 (∃aV k,gq H a (.dm aV)∧y=cM k∧r=gj aV k)∨∃aV k b,gq H a (.bK aV)∧y=.ref b∧H b=some (.tup (k.map cM))∧r=gj aV k
noncomputable def oK(H:ai)(a:Addr)(y v:V)(H':ai):Prop:=
 (∃aV k,H a=some (.dm aV)∧y=cM k∧aV.length<sizeLine∧H'=upd H a (.dm (putK aV k v)))∨
 ∃aV k b,H a=some (.bK aV)∧y=.ref b∧H b=some (.tup (k.map cM))∧aV.length<sizeLine∧H'=upd H a (.bK (putK aV k v))
theorem jw.k{H:ai}{a:Addr}{aV:List (Key×V)}{k:Key}(e:H a=some (.dm aV)):jw H a (cM k) (gj aV k):=.inl ⟨aV,k,.inl e,rfl,rfl⟩
theorem jw.t{H:ai}{a b:Addr}{aV:List (List Key×V)}{k:List Key}(e:H a=some (.bK aV))(bb:H b=some (.tup (k.map cM))):jw H a (.ref b) (gj aV k):=.inr ⟨aV,k,b,.inl e,rfl,bb,rfl⟩
theorem oK.k{H:ai}{a:Addr}{aV:List (Key×V)}{k:Key}{v:V}(e:H a=some (.dm aV))(hl:aV.length<sizeLine):oK H a (cM k) v (upd H a (.dm (putK aV k v))):=.inl ⟨aV,k,e,rfl,hl,rfl⟩
theorem oK.t{H:ai}{a b:Addr}{aV:List (List Key×V)}{k:List Key}{v:V}(e:H a=some (.bK aV))(bb:H b=some (.tup (k.map cM)))(hl:aV.length<sizeLine) :
  oK H a (.ref b) v (upd H a (.bK (putK aV k v))):=.inr ⟨aV,k,b,e,rfl,bb,hl,rfl⟩
section
variable{X:aM}{pins:List (Addr×Obj)}{σ :St}{H:ai}{s:Shared}{a:Addr}{y v:V}{u r:Value}{o:Option V}{A:Around}{E:Value→Shared→Prop}
theorem Inv.big(I:Inv X pins σ H s):sysModules<s.heap.objs.size:=by have h:mainGlobals<s.heap.objs.size:=(I.mod.glob.keeps I.fG).lt;exact Nat.lt_trans (by decide) h
theorem Mm{Q:Value→Shared→Prop}(hu:A.units+1<cLine)(I:Inv X pins σ H s)(g:jw H a y o)(b9:RelV y u)(h:∀s',Inv X pins σ H s'→Q (.bool o.isSome) s') :
  wpAny (model X.prog X.w) A (compareOp .In u (.ref a)) Q E s:=by
 rcases g with⟨aV,k,e,dB,l⟩|⟨aV,k,b,e,dB,bb,l⟩
 ·subst dB;obtain⟨z,hd,vs,rel,dd⟩:=si I.bF e;refine wpAny_in_of (s8 b9) hd dd.mapOf ?_;rw[←(rel.val k).s6,←l];exact h _ (I.tok _)
 ·subst dB;cases(show u=Value.ref b from b9);obtain⟨z,hd,xs,rel,dd⟩:=sj I.bF e;refine wpAny_in_heap (tupleKind_room_in1 hu) (q6 I.bF bb) hd dd ?_;have q:=(rel.val k).s6;rw[Option.isSome_map]at q;rw[←q,←l];exact h _ (I.tok _)
theorem Mn{Q:Value→Shared→Prop}(hu:A.units+1<cLine)(I:Inv X pins σ H s)(g:jw H a y o)(b9:RelV y u)(h:∀s',Inv X pins σ H s'→Q (.bool (!o.isSome)) s') :
  wpAny (model X.prog X.w) A (compareOp .NotIn u (.ref a)) Q E s:=by
 rcases g with⟨aV,k,e,dB,l⟩|⟨aV,k,b,e,dB,bb,l⟩
 ·subst dB;obtain⟨z,hd,vs,rel,dd⟩:=si I.bF e;refine wpAny_notIn_of (s8 b9) hd dd.mapOf ?_;rw[←(rel.val k).s6,←l];exact h _ (I.tok _)
 ·subst dB;cases(show u=Value.ref b from b9);obtain⟨z,hd,xs,rel,dd⟩:=sj I.bF e;refine wpAny_notIn_heap (tupleKind_room_in1 hu) (q6 I.bF bb) hd dd ?_;have q:=(rel.val k).s6;rw[Option.isSome_map]at q;rw[←q,←l];exact h _ (I.tok _)
theorem Eh{h':Heap}{t':Nat}{a4:dK}(I:Inv X pins σ H s)(jj:r7 (H a))(hs:Heap.SameBut a s.heap h')(he:∃q,h'.get? a=some q)(new:e5 X.prog X.w (upd H a a4) h' a a4) :
  Inv X pins σ (upd H a a4) { s with heap:=h',toks:=t' }:=
 I.write (x:=a) (e:=a) jj (.inl rfl) (fun b q hb z=>(hs.2 b hb).trans z) he new
theorem Mz{P:Program}{w:World}{H':ai}{h':Heap}{aV:List (Key×V)}{vs:List (Key×Value)}(z:aV.length≤sizeLine)(hd:(a==sysModules)=false)(rel:gp aV vs)(dd:h'.DictOf (hW P w) a vs) :
  e5 P w H' h' a (.dm aV):=⟨z,hd,vs,rel,dd⟩
theorem Mp{H':ai}{Q:Unit→Shared→Prop}(hu:A.units+1<cLine)(I:Inv X pins σ H s)(g:oK H a y v H')(b9:RelV y u)(bV:RelV v r)(h:∀s',Inv X pins σ H' s'→Q () s') :
  wpAny (model X.prog X.w) A (setItem (.ref a) u r) Q E s:=by
 rcases g with⟨aV,k,e,dB,l,yQ⟩|⟨aV,k,b,e,dB,bb,l,yQ⟩
 ·subst dB yQ;obtain⟨z,hd,vs,rel,dd⟩:=MA I.bF e;have bj:vs.length≤sizeLine:=by rw[←rel.length];exact z
  have hl:(putK aV k v).length≤sizeLine:=by have:=Hr aV k v;omega
  refine wpAny_setItem_pairs (hsz:=bj) (s8 b9) dd fun h' u1 hs=>h _ ?_;have he:∃q,h'.get? a=some q:=let⟨q,_,_,aJ,_⟩:=u1;⟨q,aJ⟩
  exact Eh I (by rw[e];exact True.intro) hs he (Mz hl hd (rel.put k bV) u1)
 ·subst dB yQ;cases(show u=Value.ref b from b9);obtain⟨z,hd,xs,rel,dd⟩:=ME I.bF e;have bj:xs.length≤sizeLine:=by rw[←Paired.length rel];exact z
  have hl:(putK aV k v).length≤sizeLine:=by have:=Hr aV k v;omega
  refine wpAny_setItem_heap (hsz:=bj) (tupleKind_room_in1 hu) (q6 I.bF bb) dd fun h' u1 hs=>h _ ?_;obtain⟨q,es,cz,aJ,h2,h3,h4,_,h5⟩:=u1;refine Eh I (by rw[e];exact True.intro) hs ⟨q,aJ⟩ ⟨hl,hd,_,(rel.put k bb bV).keeps fun c ys ec=>?_,q,es,cz,aJ,h2,h3,h4,h5⟩;rw[dJ (S_ ec e (fun z=>nomatch z))];exact ec
end
section
variable{X:aM}{pins:List (Addr×Obj)}{σ :St}{H:ai}{s:Shared}{a:Addr}{aV:List (Key×V)}{k:Key}{u:Value}{A:Around}{E:Value→Shared→Prop}
end
noncomputable def JE(ty hY:TE):TE:=fun σ H Q=>ty σ H fun y H1=>hY σ H1 fun x a9=>∃a o,x=.ref a∧jw a9 a y o∧Q (.ax o.isSome) a9
noncomputable def JF(ty hY:TE):TE:=fun σ H Q=>ty σ H fun y H1=>hY σ H1 fun x a9=>∃a o,x=.ref a∧jw a9 a y o∧Q (.ax (!o.isSome)) a9
noncomputable def V1(hY ty nc:TE):eM:=fun D σ H=>nc σ H fun v H1=>hY σ H1 fun x a9=>ty σ a9 fun y dk=>∃a gG,x=.ref a∧oK dk a y v gG∧D.bq σ gG
section
variable{X:aM}{o i e value:Expr}{pos pos' p8:Pos}{hY ty nc:TE}
theorem Ig(hu:X.A.units+1<cLine)(hi:a3 X i ty)(ho:a3 X o hY):uy X .In i o (JE ty hY):=by intro pins s σ H Q I h;refine bL (hi pins s σ H _ I h) fun zO s1⟨y,H1,aQ,b9,aS⟩=>bL (ho pins s1 σ H1 _ aQ aS) fun u s2⟨x,a9,b5,bw,a,fK,ex,g,bl⟩=>?_;subst ex;obtain rfl:u=Value.ref a:=bw;exact Mm hu b5 g b9 fun s3 d9=>⟨.ax fK.isSome,a9,d9,rfl,bl⟩
theorem Ul(hu:X.A.units+1<cLine)(hi:a3 X i ty)(ho:a3 X o hY):uy X .NotIn i o (JF ty hY):=by intro pins s σ H Q I h;refine bL (hi pins s σ H _ I h) fun zO s1⟨y,H1,aQ,b9,aS⟩=>bL (ho pins s1 σ H1 _ aQ aS) fun u s2⟨x,a9,b5,bw,a,fK,ex,g,bl⟩=>?_;subst ex;obtain rfl:u=Value.ref a:=bw;exact Mn hu b5 g b9 fun s3 d9=>⟨.ax (!fK.isSome),a9,d9,rfl,bl⟩
theorem U_(hu:X.A.units+1<cLine)(ho:a3 X o hY)(hi:a3 X i ty)(hv:a3 X value nc)(hs:swapsWith value (some (.Subscript o i pos')) pos.line X.env=pure false) :
  dr X (.Assign [.Subscript o i pos'] value pos) (V1 hY ty nc):=by
 intro pins s σ H D I h;refine wpAny_Assign_Subscript (bL (hv pins s σ H _ I h) fun r s1⟨v,H1,aQ,bV,aS⟩=>bL (ho pins s1 σ H1 _ aQ aS) fun u s2⟨x,a9,b5,bw,bl⟩=>bL (hi pins s2 σ a9 _ b5 bl) fun zO s3⟨y,dk,d9,b9,a,gG,ex,g,dw⟩=>?_) hs;subst ex;obtain rfl:u=Value.ref a:=bw;exact Mp hu d9 g b9 bV fun s4 j7=>⟨σ,gG,j7,dw⟩
end
theorem MD{P:Program}{w:World}{H:ai}(h:Heap)(hb:sysModules<h.objs.size):e5 P w H (h.push { cls:=.type "dict",data:=.dict #[] }) h.objs.size (.bK []):=
 ⟨Nat.zero_le _,beq_eq_false_iff_ne.mpr (Ne.symm (Nat.ne_of_lt hb)),[],.nil,_,#[],0,Heap.get?_push_size _ rfl,⟨rfl,rfl,rfl⟩,rfl,rfl,List.nodup_nil⟩
def Xz:TE:=fun _ H Q=>∀p,H p=none→Q (.ref p) (upd H p (.bK []))
section
variable{X:aM}{pos:Pos}
theorem Uu:a3 X (.Dict [] [] pos) Xz:=fun pins s σ H Q I h=>
 wpAny_Dict_empty ⟨.ref s.heap.objs.size,_,I.laid (a:=s.heap.objs.size) (o:=.bK []) (t':=s.toks) (fun _ _ q=>Heap.get?_push_of_some _ q) (Nat.le_refl _) (MD s.heap I.big),rfl,h _ (I.bF.fresh (Nat.le_refl _))⟩
end
structure K5(X:aM)(o:Expr)(m:Str)(apos:Pos)(e:Expr)(bM:Pos):Prop where
 base:attributeBase o m X.env (eval o X.env)=eval o X.env
 few:((backTo bM (starEach [e] X.env)).all (fun x=>!x.1)&&(backToKw bM (keywordEach [] X.env)).all (fun x=>x.1.isSome)
  &&decide (([e]:List Expr).length+([]:List Keyword).length+(if([]:List Keyword).isEmpty then 0 else 1)<30))=true
 line:(apos.endLine==bM.line)=true
 trees:backTo bM (starEach [e] X.env)=[(false,eval e X.env)]
def Dk(H:ai)(a:Addr):Prop:=(∃aV,gq H a (.dm aV))∨∃aV,gq H a (.bK aV)
theorem QL{X:aM}{pins:List (Addr×Obj)}{σ :St}{H:ai}{s:Shared}{a:Addr}(I:Inv X pins σ H s)(d:Dk H a) :
  s.TypeIs (.ref a) "dict"∧(∀b,Value.ref a=.ref b→∃a4,s.heap.get? b=some a4∧a4.dict=none)∧(a==sysModules)=false:=by
 rcases d with⟨aV,e⟩|⟨aV,e⟩
 ·obtain⟨_,hd,vs,_,dd⟩:=si I.bF e;refine⟨dd.typeIs,fun b q=>?_,hd⟩;cases q;obtain⟨a4,_,_,h1,h2,_⟩:=dd;exact⟨a4,h1,h2.2.1⟩
 ·obtain⟨_,hd,xs,_,dd⟩:=sj I.bF e;refine⟨dd.typeIs,fun b q=>?_,hd⟩;cases q;obtain⟨a4,_,_,h1,h2,_⟩:=dd;exact⟨a4,h1,h2.2.1⟩
section
variable{X:aM}{pins:List (Addr×Obj)}{σ :St}{H:ai}{s:Shared}{a:Addr}{y d:V}{u r:Value}{o:Option V}{A:Around}{E:Value→Shared→Prop}
theorem Ml{Q:Value→Shared→Prop}(hu:A.units+1<cLine)(I:Inv X pins σ H s)(g:jw H a y o)(b9:RelV y u)(h:∀fq s',Inv X pins σ H s'→RelV (o.getD .non) fq→Q fq s') :
  wpAny (model X.prog X.w) A (call (.builtin "dict.get") [.ref a,u]) Q E s:=by
 rcases g with⟨aV,k,e,dB,l⟩|⟨aV,k,b,e,dB,bb,l⟩
 ·subst dB;obtain⟨z,hd,vs,rel,dd⟩:=si I.bF e;refine call_meetsIn PySem.F.slot_dict_get dd.typeIs PySem.F.entry_dict_get (PySem.F.args_dict_get_2 _ _) (meets_dict_get (hW X.prog X.w) a (s8 b9) hd) ⟨_,dd.mapOf,h _ _ (I.tok _) ?_⟩;rw[l];exact(rel.val k).getD rfl
 ·subst dB;cases(show u=Value.ref b from b9);obtain⟨z,hd,xs,rel,dd⟩:=sj I.bF e;refine call_meetsIn PySem.F.slot_dict_get dd.typeIs PySem.F.entry_dict_get (PySem.F.args_dict_get_2 _ _) (meetsH_dict_get (tupleKind (hW X.prog X.w)) a b hd) ⟨tupleKind_room_in1 hu,k,xs,q6 I.bF bb,dd,h _ _ (I.tok _) ?_⟩;rw[l];exact(rel.val k).getD rfl
end
noncomputable def JD(hY ty:TE):TE:=fun σ H Q=>hY σ H fun x H1=>∃a,x=.ref a∧Dk H1 a∧ty σ H1 fun y a9=>∃o,jw a9 a y o∧Q (o.getD .non) a9
section
variable{X:aM}{o e f:Expr}{apos bM:Pos}{hY ty abz:TE}
theorem Ut(hu:X.A.units+1<cLine)(ho:a3 X o hY)(he:a3 X e ty)(m:K5 X o "get" apos e bM):a3 X (.Call (.Attribute o "get" apos) [e] [] bM) (JD hY ty):=by intro pins s σ H Q I h;refine wpAny_Call_method m.base m.few m.line PySem.F.plainAttrs_dict PySem.F.slot_dict_get PySem.F.type_dict_get (bL (ho pins s σ H _ I h) fun u s1⟨x,H1,aQ,bw,a,ex,d,aS⟩=>?_);subst ex;obtain rfl:u=Value.ref a:=bw;obtain⟨t1,b2,_⟩:=QL aQ d;refine⟨t1,b2,?_⟩;rw[m.trees];refine Calls.callWith_builtin rfl (Calls.evalArgs_plain (Calls.spliced_cons (bL (he pins s1 σ H1 _ aQ aS) fun zO s2⟨y,a9,b5,b9,fK,g,bl⟩=>Calls.spliced_nil ?_)));exact Ml hu b5 g b9 fun fq s3 d9 pY=>⟨_,a9,d9,pY,bl⟩
end
section
variable{X:aM}{pins:List (Addr×Obj)}{σ :St}{H:ai}{s:Shared}{a:Addr}{aV:List (Key×V)}{A:Around}{E:Value→Shared→Prop}
end
section
variable{X:aM}{pins:List (Addr×Obj)}{σ :St}{H:ai}{s:Shared}{a:Addr}{y:V}{u:Value}{A:Around}{E:Value→Shared→Prop}
end
end aX
namespace C7
open PySem PySem.W PySem.Calls PyProof.Rows
theorem QH{P:Params}{h:Heap}:∀(ns:List Int)(vs:List Value),WellAll P h vs (ns.map WData.int)→IntsAre vs ns:=by
 intro ns;induction ns with
 |nil=>intro vs w;rw[List.map_nil]at w;cases w;exact .nil
 |cons n ns bQ=>
  intro vs w;rw[List.map_cons]at w;cases w with
  |cons a b=>cases a;exact .cons _ _ (bQ _ b)
theorem WU{l:OpenLaw}{n:Nat}(aC:l.most=some n){P:Params}{h:Heap}{args:List WData}{vals:List Value}(vu:l.row.toRowW.claim.pre args=true)(zI:WellAll P h vals args) :
  ∃a vs ns,vals=[Value.ref a]∧args=[WData.list (ns.map WData.int)]∧h.get? a=some { cls:=.type "list",data:=.seq vs.toArray }∧IntsAre vs ns∧ns.length≤n:=by
 have Pt:WShape.hasAll [] args [.list .int]=true:=(pre_splitW vu).1;have hc:l.pre.holds [] { args:=args }=true:=(pre_splitW vu).2;obtain⟨d,r,rfl,h1,h2⟩:=hasAllW_cons Pt;obtain rfl:=hasAllW_nil h2;obtain⟨xs,rfl,h3⟩:=hasW_list h1;obtain⟨ns,rfl⟩:=items_int h3;have hlen:ns.length≤n:=by
  unfold OpenLaw.pre at hc;have h4:(WTm.not (.lt (.lit (.int (n:Int))) (.len (.arg 0)))).holds [] { args:=[.list (ns.map .int)] }=true:=by have h4:=(holds_andW hc).1;rw[aC]at h4;exact h4
  have h5:=condW_of h4 (w_not (w_lt w_lit (w_len_list (w_arg rfl))));rw[List.length_map]at h5;refine Nat.le_of_not_lt fun q=>?_;have dR:(n:Int)<((ns.length:Nat):Int):=by omega
  first
   |(rw[decide_eq_true dR]at h5;exact absurd h5 (by decide))
   |(simp at h5;omega)
 cases zI with
 |cons lz jq=>
  cases jq;cases lz with
  |list ho sM=>exact⟨_,_,ns,rfl,rfl,ho,QH ns _ sM,hlen⟩
theorem U6(l:OpenLaw)(args:List WData):l.row.toRowW.claim.post args (.bool true) args=true:=
 postW_of (r:=l.row.toRowW) (X:=(true==true))
  (show WShape.has [] (.bool true) .bool=true by first|rfl|decide|simp[WShape.has,WShape.arms,WShape.armsAll])
  (show(WTm.eq .res (.lit (.bool true))).value [] { args:=args,res:=some (.bool true),after:=args }=some (.bool (true==true))from w_eq_bool (w_res rfl) w_lit) rfl
theorem Lw {l:OpenLaw} {n:Nat} {q:Program} {loose:List Str} {qE:(Str→Option Value)→Heap→Prop} {nG:World→Heap→Prop} {d:DefRec}(aC:l.most=some n) (sP:d.params.defaults=[])(call:∀(w:World)(fh c4:Shared)(mg fC:Str→Option Value)(fI:Addr)(o:Obj)(pm cd doc:Value)(a:Addr)(vs:List Value)(ns:List Int),
    Ground q loose [] qE w fh mg fC c4.heap→nG w c4.heap→
    c4.heap.get? fI=some o→o.data=.func (docDef d.name d.params d.body d.scope pm cd doc)→c4.heap.CodeRec cd d.name→mg d.name=some (.ref fI)→
    c4.heap.get? a=some { cls:=.type "list",data:=.seq vs.toArray }→IntsAre vs ns→ns.length≤n→c4.gens= #[]→
    codeAny (model l.prog w) callerA (.call (.ref fI) ⟨[.ref a],[]⟩) (fun r s'=>r=.ok (.ret (.bool true))∧OldK c4.heap s'.heap∧s'.os=c4.os∧AllBare s'.gens) c4) :
  WalkO q loose qE nG l.row.toRowW d [] (fun f vs=>PySem.call f vs):=by
 intro w fh c4 mg fC G Y fI o pm cd doc u0 cM ho hd hcd F3 sS hg args vals as vu aaq aax zI aar;obtain rfl:u0=.none:=Dflts.none F3 sP;obtain rfl:cM=.none:=Dflts.noKw F3;obtain⟨a,vs,ns,rfl,rfl,zA,hints,hlen⟩:=WU aC vu zI;refine enter_call (codeAny_mono (call w fh c4 mg fC fI o pm cd doc a vs ns G Y ho (fd_plain hd) hcd sS zA hints hlen hg) fun r s' aJ=>?_);obtain⟨rfl,h2,h3,h4⟩:=aJ;exact⟨.inl ⟨.bool true,.bool true,[],rfl,fun _=>rfl,.bool true,U6 l _,fun _=>⟨List.Pairwise.nil,fun _ hm=>(nomatch hm)⟩⟩,h2,h3,h4⟩
section
variable{prog:Program}{w:World}{A:Around}{E:Value→Shared→Prop}{s:Shared}{K:Frag}
end
end C7
namespace aX
open PySem PySem.Spec PyProof.Rows
theorem J6:∀{vs:List Value}{ns:List Int},IntsAre vs ns→Vals (ns.map V.int) vs
 |_,_,.nil=>.nil
 |_,_,.cons n t h=>.cons ⟨t,rfl⟩ (J6 h)
def xO(H:ai):Prop:=∀b,H b=none∨∃o xs,H b=some (.jG o (.lst xs))
theorem R7{P:Program}{w:World}{K:PySem.W.Frag}{mg fC:Str→Option Value}{CX:j6}{k:Nat}{fI a:Addr}{fd:FuncData}{x:Str}{sp:i6}{c4:Shared}{vs:List Value}{ns:List Int}(kK:K.In c4.heap)(zy:c4.heap.Ns mainGlobals mg)(hb:c4.heap.Ns builtinsNs fC)(zk:∀x:Str,x≠"__name__"→fC x=bootBuiltins x)(O9:c4.heap.NoLimit)(hg:c4.gens= #[])(ha:c4.heap.get? a=some { cls:=.type "list",data:=.seq vs.toArray })(hi:IntsAre vs ns)(hl:ns.length≤sizeLine)(hr:dt k callerA)(F:∀base:Heap,K.In base→base.Ns mainGlobals mg→hq P w K mg base CX k fI fd [x] sp)(OI:∀(s:Shared)(u:Value),BindsTo s fd ⟨[u],[]⟩ [(x,u)])(nU:∀H:ai,xO H→bP K H a (ns.map V.int)→sp [.ref a] H (fun v _=>v=.ax true) fun _ _ _=>False)(zg:∀H e s',CX [] H c4 (fun _ _ _=>False) e s'→False) :
  codeAny (model P w) callerA (.call (.ref fI) ⟨[.ref a],[]⟩) (fun r s'=>r=.ok (.ret (.bool true))∧OldK c4.heap s'.heap∧s'.os=c4.os∧AllBare s'.gens) c4:=by
 have bV:=J6 hi;have Si:=hi.length
 have core:∀H:ai,xO H→bP K H a (ns.map V.int)→ee P w H c4.heap→(∀b,H b≠none→b=a)→(H a≠none→K.lookup a=none)→
   codeAny (model P w) callerA (.call (.ref fI) ⟨[.ref a],[]⟩) (fun r s'=>r=.ok (.ret (.bool true))∧OldK c4.heap s'.heap∧s'.os=c4.os∧AllBare s'.gens) c4:=by
  intro H vk ih bF kg hK;have DP:∀{b:Addr}{o:Obj},c4.heap.get? b=some o→H b=none→(mH c4.heap H).get? b=some o:=fun e n=>OY e n;have tI:∀{b:Addr}{o:Obj}{es:Array DictEntry}{cz:Nat},c4.heap.get? b=some o→o.data=.dict es cz→H b=none:=fun{b o es cz} e d=>by
   cases q:H b with
   |none=>rfl
   |some u=>have b6:b=a:=kg b (by rw[q];simp);subst b6;rw[ha]at e;cases e;have d':Data.seq vs.toArray _=Data.dict es cz:=d;cases d'
  have v9:∀{b:Addr}{m:Str→Option Value},c4.heap.Ns b m→(mH c4.heap H).Ns b m:=fun{b m}⟨o,es,cz,e,d,r⟩=>⟨o,es,cz,DP e (tI e d),d,r⟩;have F4:K.In (mH c4.heap H):=fun b o e=>DP (kK b o e) (by
   cases q:H b with
   |none=>rfl
   |some u=>have b6:b=a:=kg b (by rw[q];simp);subst b6;rw[hK (by rw[q];simp)]at e;cases e)
  have pk:Mod K mg (mH c4.heap H):=⟨F4,v9 zy,⟨fC,v9 hb,zk⟩,let⟨vY,h1,h2⟩:=O9;⟨vY,v9 h1,h2⟩⟩;have c8:oM P w K mg (mH c4.heap H) callerA [] c4 H:=⟨rfl,pk,fun b o e=>TF e,Nat.le_of_eq (OZ _ _),trivial,fun b hb=>absurd (show b∈([]:List Addr)from hb) (by simp),bF,.of_eq hg⟩;refine codeAny_mono ((F _ F4 (v9 zy)).run callerA [] c4 H ⟨[.ref a],[]⟩ [.ref a] [.ref a] _ _ hr c8 (OI c4 (.ref a)) (.cons rfl .nil) (nU H vk ih)) fun r s' h=>?_;cases r with
  |error e=>exact(zg H e s' h).elim
  |ok fl=>
   cases fl with
   |next=>exact False.elim h
   |brk=>exact False.elim h
   |cont=>exact False.elim h
   |ret u=>
    obtain⟨v,H',os,bare,un,Pj,bf,q⟩:=h;have dR:v=.ax true:=q;subst dR;obtain rfl:u=Value.bool true:=bf;refine⟨rfl,OldK.of_keep fun b o e=>?_,os,bare⟩;cases q:H b with
    |none=>exact un.keep b o e q (by intro z;exact absurd (show b∈([]:List Addr)from z) (by simp)) (by simp)
    |some u=>
     rcases vk b with z|⟨a4,xs,z⟩
     ·rw[q]at z;cases z
     ·have aZ:=un.ie b a4 _ z;obtain⟨aq,_⟩:=bF b _ z;obtain⟨az,_⟩:=Pj b _ aZ;rw[e]at aq;cases aq;exact az
 cases hk:K.lookup a with
 |some o=>have e:=kK a o hk;rw[ha]at e;cases e;refine core (fun _=>none) (fun _=>.inl rfl) (.inr ⟨_,vs.toArray,_,hk,rfl,rfl,rfl,by rw[List.size_toArray,Si];exact hl,by simpa using bV⟩) (fun b u z=>by have fb:(none:Option dK)=some u:=z;cases fb) (fun b z=>absurd rfl z) fun z=>absurd rfl z
 |none=>
  refine core (fun b=>if b=a then some (.jG { cls:=.type "list",data:=.seq vs.toArray } (.lst (ns.map V.int)))else none) (fun b=>?_) (.inl (.inr ⟨{ cls:=.type "list",data:=.seq vs.toArray },if_pos rfl⟩)) (fun b u z=>?_) (fun b z=>?_) fun _=>hk
  ·by_cases hb:b=a
   ·exact .inr ⟨_,_,if_pos hb⟩
   ·exact .inl (if_neg hb)
  ·by_cases hb:b=a
   ·have fb:=(if_pos hb).symm.trans z;cases fb;subst hb;exact⟨ha,by rw[List.length_map];exact hl,vs,_,bV,ha⟩
   ·have fb:=(if_neg hb).symm.trans z;cases fb
  ·by_cases hb:b=a
   ·exact hb
   ·exact absurd (if_neg hb) z
theorem YV {l:PySem.W.OpenLaw} {n k:Nat} {q:Program} {loose:List Str} {qE:(Str→Option Value)→Heap→Prop} {nG:World→Heap→Prop} {d:DefRec} {K:Params→PySem.W.Frag} {CX:World→j6} {sp:World→i6} {x:Str}(aC:l.most=some n) (vr:n≤sizeLine) (sP:d.params.defaults=[]) (hr:dt k callerA)(zj:∀(w:World)(h:Heap),nG w h→(K w.params).In h)(F:∀(w:World)(mg:Str→Option Value)(fI:Addr)(h:Heap),(K w.params).In h→h.Ns mainGlobals mg→mg d.name=some (.ref fI)→
    ∃fd:FuncData,(∀(s:Shared)(u:Value),BindsTo s fd ⟨[u],[]⟩ [(x,u)])∧
     ∀base:Heap,(K w.params).In base→base.Ns mainGlobals mg→hq l.prog w (K w.params) mg base (CX w) k fI fd [x] (sp w))
  (nU:∀(w:World)(H:ai)(a:Addr)(ns:List Int),ns.length≤n→xO H→bP (K w.params) H a (ns.map V.int)→sp w [.ref a] H (fun v _=>v=.ax true) fun _ _ _=>False)
  (zg:∀(w:World)(H:ai)(s:Shared)(e:Value)(s':Shared),CX w [] H s (fun _ _ _=>False) e s'→False) :
  PySem.W.WalkO q loose qE nG l.row.toRowW d [] (fun f vs=>PySem.call f vs):=by
 refine C7.Lw aC sP fun w fh c4 mg fC fI o pm cd doc a vs ns G Y ho hd hcd sS zA hints hlen hg=>?_;have kK:=zj w _ Y;obtain⟨fd,hb,iJ⟩:=F w mg fI _ kK G.T.g sS;exact R7 kK G.T.g G.T.b G.T.builtins G.T.nolimit hg zA hints (Nat.le_trans hlen vr) hr iJ hb (fun H vk ih=>nU w H a ns hlen vk ih) fun H e s'=>zg w H c4 e s'
noncomputable def inClass(s:Stmt)(j:Nat):Stmt:=match s with
 |.ClassDef _ _ _ body _ _ _ _ _ _ _=>body.getD j (.Pass ⟨0,0,0,0⟩)
 |_=>.Pass ⟨0,0,0,0⟩
noncomputable def jE(s:Stmt):Arguments:=match s with
 |.FunctionDef _ a _ _ _ _ _ _ _ _=>a
 |_=>{ posonlyargs:=[],args:=[],vararg:=none,kwonlyargs:=[],kw_defaults:=[],kwarg:=none,defaults:=[] }
def fX(s:Stmt):List Stmt:=match s with
 |.FunctionDef _ _ b _ _ _ _ _ _ _=>b
 |_=>[]
noncomputable def bO(s:Stmt):Scope:=match s with
 |.FunctionDef _ _ _ _ _ _ sc _ _ _=>sc
 |_=>{ kind:=.function,names:=[],isGenerator:=false,isCoroutine:=false }
abbrev gP:j6:=fun _ _ _ _ _ _=>False
abbrev xA:c7:=fun _ _ _=>False
theorem tM{X:aM}:Passes gP X xA:=fun _ _ _ _ _ _ _ h=>h.elim
structure kH(K:PySem.W.Frag)(x qual:Str)(st:Stmt)(f:Addr)(fd:FuncData):Prop where
 ex:∃(e_:Value)(dO:Option Addr)(cM doc pm:Value)(an:Option Addr)(b_ cK:Value)(lb:Array (Option Value)),
  fd=PySem.W.fnOf x qual (jE st) (fX st) (bO st) .none cM doc pm an b_ cK∧K.lookup f=some ⟨e_,dO,.func fd,lb⟩∧PySem.W.codeIn K b_ qual=true
 aK:PySem.W.keepIn K (.ref f)=true
section
variable{P:Program}{w:World}{K:PySem.W.Frag}{mg:Str→Option Value}{base:Heap}
theorem kH.ok {x qual:Str} {st:Stmt} {f:Addr} {fd:FuncData} {N ps:List Str} {k:Nat} {sp:i6} (F:kH K x qual st f fd) (S:cG N ps (bO st)) (len:∀vs H Q E,sp vs H Q E→vs.length=ps.length)(zl:∀(b_:Value)(A:Around)(outer:List Env)(s:Shared)(H:ai)(vs:List V)(Q:cP)(E:c7),dt k (A.deeper (envOfC qual (bO st) s.heap.objs.size f b_))→sp vs H Q E→
    ∃t,fS (eO gP P w K mg base N qual (bO st) f b_ A outer s H E).hF (fX st) t∧t { bq:=fun _ H'=>Q .non H',dH:=Q } (start N vs) H):hq P w K mg base gP (k+1) f fd ps sp:=by
 obtain⟨e_,dO,cM,doc,pm,an,b_,cK,lb,rfl,lk,hcd⟩:=F.ex;refine FO lk hcd S len fun A outer s H vs Q E hr nU=>?_;obtain⟨t,h,q⟩:=zl b_ A outer s H vs Q E hr nU;exact⟨t,h.hF,q⟩
theorem kH.binds{x qual:Str}{st:Stmt}{f:Addr}{fd:FuncData}{ps:List Str}(F:kH K x qual st f fd)(h:∀(cM doc pm:Value)(an:Option Addr)(b_ cK:Value)(us:List Value),us.length=ps.length→bindArgs (PySem.W.fnOf x qual (jE st) (fX st) (bO st) .none cM doc pm an b_ cK) ⟨us,[]⟩=pure (ps.zip us)):Binds K fd ps []:=by obtain⟨e_,dO,cM,doc,pm,an,b_,cK,lb,rfl,lk,hcd⟩:=F.ex;exact .all (h cM doc pm an b_ cK)
theorem pj{x qual:Str}{st:Stmt}{f:Addr}{e_:Value}{dO an:Option Addr}{lb:Array (Option Value)}{cM doc pm b_ cK:Value}(l:K.lookup f=some ⟨e_,dO,.func (PySem.W.fnOf x qual (jE st) (fX st) (bO st) .none cM doc pm an b_ cK),lb⟩)(c:PySem.W.codeIn K b_ qual=true)(k:PySem.W.keepIn K (.ref f)=true):kH K x qual st f (PySem.W.fnOf x qual (jE st) (fX st) (bO st) .none cM doc pm an b_ cK):=⟨⟨e_,dO,cM,doc,pm,an,b_,cK,lb,rfl,l,c⟩,k⟩
end
section
variable{X:aM}
end
def nD(H H':ai):Prop:=∀b o,H b=some o→H' b=some o
theorem nD.trans{H H1 a9:ai}(a:nD H H1)(b:nD H1 a9):nD H a9:=fun c o h=>b c o (a c o h)
theorem nD.free{H H':ai}(e:nD H H'){l:Addr}(h:H' l=Option.none):H l=Option.none:=by
 cases q:H l with
 |none=>rfl
 |some o=>rw[e l o q]at h;cases h
theorem nD.seq{K:PySem.W.Frag}{H H':ai}{a:Addr}{xs:List V}(e:nD H H')(h:bP K H a xs):bP K H' a xs:=by
 rcases h with(h|⟨o,h⟩)|h
 ·exact .inl (.inl (e _ _ h))
 ·exact .inl (.inr ⟨o,e _ _ h⟩)
 ·exact .inr h
section
variable{X:aM}
end
section
variable{κ:Type}[DecidableEq κ]
end
structure um(P:Program)(w:World)(outer:List Env)(H H':ai)(s:Shared)(a:Addr)(C gV:Value)(B:Heap)(s':Shared):Prop where
 os:s'.os=s.os
 bare:AllBare s'.gens
 un:e6 (en outer) [] H H' s.heap s'.heap
 y8:Heap.FlyingW B outer a C gV s'.heap
 old:∀b o,s.heap.get? b=some o→H b=none→b∉en outer→B.get? b=some o
 Ci:∀b o,s.heap.get? b=some o→b∉en outer→∃bJ,B.get? b=some bJ
 bF:ee P w H' B
 ha:H' a=none
noncomputable def gQ(P:Program)(w:World):j6:=fun outer H s E e s'=>∃(a:Addr)(C gV:Value)(B:Heap)(H':ai),e=.ref a∧um P w outer H H' s a C gV B s'∧E C (some a) H'
section
variable{X:aM}{pins:List (Addr×Obj)}{σ :St}{H H':ai}{s s':Shared}{a:Addr}{C gV:Value}{B:Heap}
theorem ee.part(x:ee X.prog X.w H s.heap)(k:∀b u,(H b).isSome=true→s.heap.get? b=some u→B.get? b=some u):ee X.prog X.w H B:=fun b o e=>
 (x b o e).m5 (fun c u hc q=>k c u (by rcases hc with rfl|hc<;>simp[*]) q) (fun _ q=>q) fun _ _ q=>q
theorem FV{env:Env}{outer:List Env}{L:Addr}(h:env.frame=some L){b:Addr}(hb:b∈en (env::outer)):b=L∨b∈en outer:=by unfold en at hb;rw[List.filterMap_cons,h]at hb;exact List.mem_cons.mp hb
theorem Inv.Sg{M:Model}{A:Around}{E:Value→Shared→Prop}{h':Heap}{vs:List Value}{Q:Unit→Shared→Prop}(I:Inv X pins σ H s)(hst:X.stack=X.env::X.outer)(qY:X.env.frame=some X.env.locals)(hex:X.ex=[])(kg:A.frames=some X.stack)(hx:Heap.MadeExcOf s.heap h' a C vs)(fz:∀gV B iV,um X.prog X.w X.outer X.oN H X.fh a C gV B iV→Q () iV):wpAny M A (leaving X.env (.ref a)) Q E { s with heap:=h' }:=by
 have Gg:∀env∈X.stack,∀b,env.frame=some b→b∈en X.stack:=fun env he b hb=>List.mem_filterMap.mpr ⟨env,he,hb⟩;have mF:∀b o,s.heap.get? b=some o→b∉en X.stack→(PySem.W.hideAll s.heap (en X.stack)).get? b=some o:=fun b o q n=>PySem.W.hideAll_get _ q n;have mI:∀b o,X.fh.heap.get? b=some o→b∉en X.outer→b∉en X.stack:=fun b o q n z=>by
  rw[hst]at z;rcases FV qY z with r|r
  ·subst r;exact absurd (Nat.lt_of_lt_of_le (Heap.lt_size q) I.ok.above) (Nat.lt_irrefl _)
  ·exact n r
 have hQ:∀b,b∉X.ex:=fun b z=>by rw[hex]at z;cases z
 refine PySem.wpAny_leaves_madeW (base:=PySem.W.hideAll s.heap (en X.stack)) (h:=s.heap) (by rw[kg,hst]) qY (fun b o q=>PySem.W.of_hideAll _ q) (by have:=PySem.W.funFrames_hide (as:=en X.stack) I.stack Gg;rw[hst]at this ⊢;exact this) hx fun F2 t e2 cc qd oC=>?_;refine fz (.ref t) (PySem.W.hideAll s.heap (en X.stack)) _ ⟨I.os,I.bare,⟨?_,?_,?_,?_,I.base.iY,I.base.ie,I.base.iX⟩,e2,?_,?_,?_,?_⟩
 ·exact fun b o q n hb _=>e2.1 b o (mF b o (I.base.keep b o q n hb (hQ b)) (mI b o q hb))
 ·intro b o q n hb _;obtain⟨cF,aS⟩:=I.base.slot b o q n hb (hQ b);obtain⟨_,bJ,dR,g8⟩:=I.ok.je.mem hb;rw[q]at dR;cases dR;obtain⟨B0,bl⟩:=oC b _ (hx.keeps b _ aS) g8;exact⟨B0,bl⟩
 ·exact fun b o q n _=>I.base.free b o q n (hQ b)
 ·intro b o q _;by_cases hb:b∈en X.outer
  ·obtain⟨_,bJ,dR,_⟩:=e2.2.2.1.mem hb;exact⟨bJ,dR⟩
  ·obtain⟨bJ,dR⟩:=I.base.there b o q (hQ b);exact⟨bJ,e2.1 b bJ (mF b bJ dR (mI b o q hb))⟩
 ·exact fun b o q n hb=>mF b o (I.base.keep b o q n hb (hQ b)) (mI b o q hb)
 ·intro b o q hb;obtain⟨bJ,dR⟩:=I.base.there b o q (hQ b);exact⟨bJ,mF b bJ dR (mI b o q hb)⟩
 ·exact ee.part (X:=X) (s:=s) I.bF fun b u hs q=>mF b u q fun z=>by rw[I.B3 b z]at hs;cases hs
 ·cases q:H a with
  |none=>rfl
  |some o=>
   have k:∀o:dK,e5 X.prog X.w H s.heap a o→∃u,s.heap.get? a=some u:=fun o x=>by
    induction o with
    |lst xs=>obtain⟨_,_,_,_,e⟩:=x;exact⟨_,e⟩
    |tup xs=>obtain⟨_,_,_,_,e,_⟩:=x;exact⟨_,e⟩
    |dm aV=>obtain⟨_,_,_,_,o,_,_,e,_⟩:=x;exact⟨_,e⟩
    |bK aV=>obtain⟨_,_,_,_,o,_,_,e,_⟩:=x;exact⟨_,e⟩
    |set S n=>obtain⟨o,_,_,_,e,_⟩:=x;exact⟨_,e⟩
    |ins C a5 aI=>obtain⟨_,_,_,e,_⟩:=x;exact⟨_,e⟩
    |own y=>obtain⟨_,e⟩:=x;exact⟨_,e⟩
    |xg aI=>obtain⟨_,⟨_,_,_,e,_⟩,_⟩:=x;exact⟨_,e⟩
    |pX lo hi=>obtain⟨_,_,_,e⟩:=x;exact⟨_,e⟩
    |jG a4 u=>obtain⟨e,_⟩:=x;exact⟨_,e⟩
    |oy ps=>exact⟨_,(show s.heap.get? a=some _ from x)⟩
    |met f y=>exact⟨_,(show s.heap.get? a=some _ from x)⟩
    |ext qq=>obtain⟨_,⟨_,e⟩,_⟩:=x;exact⟨_,e⟩
   obtain⟨u,e⟩:=k o (I.bF a o q);rw[hx.new]at e;cases e
theorem Inv.Sh{M:Model}{A:Around}{E:Value→Shared→Prop}{Q:Unit→Shared→Prop}(I:Inv X pins σ H s)(hst:X.stack=X.env::X.outer)(qY:X.env.frame=some X.env.locals)(hex:X.ex=[])(kg:A.frames=some X.stack)(f:um X.prog X.w X.stack H H' s a C gV B s')(fz:∀iV,um X.prog X.w X.outer X.oN H' X.fh a C gV B iV→Q () iV):wpAny M A (leaving X.env (.ref a)) Q E s':=by
 have mI:∀b o,X.fh.heap.get? b=some o→b∉en X.outer→b∉en X.stack:=fun b o q n z=>by
  rw[hst]at z;rcases FV qY z with r|r
  ·subst r;exact absurd (Nat.lt_of_lt_of_le (Heap.lt_size q) I.ok.above) (Nat.lt_irrefl _)
  ·exact n r
 have Pm:∀b,b∈en X.outer→b∈en X.stack:=fun b z=>by rw[hst];unfold en;rw[List.filterMap_cons,qY];exact List.mem_cons_of_mem _ z
 have hQ:∀b,b∉X.ex:=fun b z=>by rw[hex]at z;cases z
 have no:∀b:Addr,b∉([]:List Addr):=fun b z=>by cases z
 obtain⟨os,bare,un,y8,old,Ci,bF,ha⟩:=f;rw[hst]at y8;refine PySem.wpAny_leaves_onW (by rw[kg,hst]) qY y8 fun F2 e2 cc=>?_;refine fz _ ⟨os.trans I.os,bare,⟨?_,?_,?_,?_,fun b xs q=>un.iY b xs (I.base.iY b xs q),fun b o u q=>un.ie b o u (I.base.ie b o u q),?_⟩,e2,?_,?_,bF,ha⟩
 ·exact fun b o q n hb _=>e2.1 b o (old b o (I.base.keep b o q n hb (hQ b)) (I.base.free b o q n (hQ b)) (mI b o q hb))
 ·intro b o q n hb _;obtain⟨cF,aS⟩:=I.base.slot b o q n hb (hQ b);obtain⟨_,bJ,dR,g8⟩:=I.ok.je.mem hb;rw[q]at dR;cases dR;obtain⟨abl,bl⟩:=un.slot b _ aS (I.base.free b o q n (hQ b)) (Pm b hb) (no b);obtain⟨B0,dw⟩:=cc b _ bl g8;exact⟨B0,dw⟩
 ·intro b o q n _;obtain⟨bJ,dR⟩:=I.base.there b o q (hQ b);exact un.free b bJ dR (I.base.free b o q n (hQ b)) (no b)
 ·intro b o q _;by_cases hb:b∈en X.outer
  ·obtain⟨_,bJ,dR,_⟩:=e2.2.2.1.mem hb;exact⟨bJ,dR⟩
  ·obtain⟨bJ,dR⟩:=I.base.there b o q (hQ b);obtain⟨b3,bl⟩:=Ci b bJ dR (mI b o q hb);exact⟨b3,e2.1 b b3 bl⟩
 ·intro b ps q;obtain⟨m1,aq⟩:=I.base.iX b ps q;obtain⟨m2,az⟩:=un.iX b _ aq;exact⟨m1++m2,by rw[az,Array.append_assoc]⟩
 ·exact fun b o q n hb=>old b o (I.base.keep b o q n hb (hQ b)) (I.base.free b o q n (hQ b)) (mI b o q hb)
 ·intro b o q hb;obtain⟨bJ,dR⟩:=I.base.there b o q (hQ b);exact Ci b bJ dR (mI b o q hb)
end
theorem NT{K:PySem.W.Frag}{h:Heap}{C:Addr}{sd:List Value}{newId:String}(X:K.In h)(q:PySem.W.excIn K C sd newId=true) :
  ∃bm N nm q bs hdct sn sub ab col dd k0 k1 k2 k3 k5 mN,h.get? C=some (excClassObj nm q C N bs bm hdct sn sub ab col dd k0 k1 k2 k3 k5 newId)∧h.Ns N mN∧mN "__init__"=none∧OwnTail h sd bm:=by
 unfold PySem.W.excIn at q
 split at q
 ·rename_i dd cd cF ho
  split at q
  ·rename_i lE bm k0 k1 k2 k3 n k5 hm hs;simp only[Bool.and_eq_true,beq_iff_eq,Bool.not_eq_true']at q;obtain⟨⟨⟨⟨⟨rfl,rfl⟩,Ga⟩,ht⟩,bF⟩,vt⟩:=q;obtain⟨nm,bs,mro,ns,qn,hd,sn,sub,ab,col,del⟩:=cd;dsimp only at hm Ga bF vt;subst hm Ga;have Pu:cF= #[k0,k1,k2,k3,some (.builtin n),k5]:=by
    obtain⟨l⟩:=cF;simp only at hs;rw[hs]
   subst Pu;exact⟨bm,ns,nm,qn,bs,hd,sn,sub,ab,col,dd,k0,k1,k2,k3,k5,_,X _ _ ho,.of_isNs (PySem.W.isNs_of_in X bF),PySem.W.nsMap_none_of_in X bF vt,PySem.W.tail_of_in X ht⟩
  ·cases q
 ·cases q
noncomputable def JP(X:aM)(C:Addr):eM:=fun _ σ H=>∀pins s h' a vs,Inv X pins σ H s→Heap.MadeExcOf s.heap h' a (.ref C) vs→X.xe (.ref a) { s with heap:=h' }
section
variable{X:aM}{x:Str}{np bM pos uY:Pos}{C:Addr}{sd:List Value}{B newId QD:String}{m:Str}{j:Nat}
theorem Vc(FB:ExcBaseFacts B newId QD sd)(q:PySem.W.excIn X.K C sd newId=true)(hm:X.mg x=some (.ref C))(hc:X.calm=true:=by rfl)(hg:cU X x:=by rfl)(hd:(x==("__debug__" :Str))=false:=by decide) :
  dr X (.Raise (some (.Call (.Name x np) [.Constant (.str m) j uY] [] bM)) none pos) (JP X C):=by
 intro pins s σ H D I h;obtain⟨bm,N,nm,qn,bs,hdct,sn,sub,ab,col,dd,k0,k1,k2,k3,k5,mN,hO,hN,vt,Ds⟩:=NT I.mod.n3 q;refine wpAny_Raise_call_subT (mN:=mN) (C:=C) (nm:=nm) (q:=qn) (N:=N) (bs:=bs) (bm:=bm) (hdct:=hdct) (sn:=sn) (sub:=sub) (ab:=ab) (col:=col) (dd:=dd) (k0:=k0) (k1:=k1) (k2:=k2) (k3:=k3) (k5:=k5) FB (Ds.hasType FB.hasBase) (I.ok.hd hc) rfl vt (vM I hg hm ⟨rfl,?_⟩ hd);refine Calls.evalArgs_plain (Calls.spliced_cons (bL (AA (X:=X) (x:=m) (j:=j) (pos:=uY) pins s σ H (fun _ H1=>H1=H) I rfl) fun u s1⟨v,H1,aQ,au,aq⟩=>?_));subst aq;refine Calls.spliced_nil ⟨rfl,Nat.le_of_ble_eq_true rfl,aQ.fG _ _ hO,hN.keeps aQ.fG,Ds.keeps aQ.fG,fun h' a hx=>h pins s1 h' a _ aQ hx⟩
theorem Za{P:Program}{w:World}{K:PySem.W.Frag}{mg:Str→Option Value}{base:Heap}{N:List Str}{qual:Str}{scope:Scope}{f:Addr}{cd:Value}{A:Around}{outer:List Env}{s0:Shared}{bB:ai}{E:c7}{σ :St}{H:ai}{cJ:Ends}(h:∀a,H a=none→E (.ref C) (some a) H):JP (eO (gQ P w) P w K mg base N qual scope f cd A outer s0 bB E) C cJ σ H:=fun pins s h' a vs I hx=>
 I.Sg (C:=.ref C) rfl rfl rfl I.ok.frames hx fun gV B iV fl=>⟨a,.ref C,gV,B,H,rfl,fl,h a fl.ha⟩
theorem Uj{P:Program}{w:World}{K:PySem.W.Frag}{mg:Str→Option Value}{base:Heap}{N:List Str}{qual:Str}{scope:Scope}{f:Addr}{cd:Value}{A:Around}{outer:List Env}{s0:Shared}{bB:ai}{E:c7} :
  Passes (gQ P w) (eO (gQ P w) P w K mg base N qual scope f cd A outer s0 bB E) E:=fun pins σ H s e s' I hx=>by
 obtain⟨a,C,gV,B,H',rfl,fl,hE⟩:=hx;exact I.Sh (X:=eO (gQ P w) P w K mg base N qual scope f cd A outer s0 bB E) rfl rfl rfl I.ok.frames fl fun iV Oc=>⟨a,C,gV,B,H',rfl,Oc,hE⟩
end
abbrev NS(a:Addr)(C:Value):dK:=.ext fun h=>∃a4,h.get? a=some a4∧a4.cls=C
section
variable{X:aM}{pins:List (Addr×Obj)}{σ :St}{H H':ai}{s s':Shared}{a:Addr}{C gV:Value}{B:Heap}{F2:Heap}
end
section
variable{X:aM}{k:Nat}{f C:Addr}{fd:FuncData}{ps:List Str}{sp:i6}{E:c7}{x:Str}{p pos:Pos}{e:Expr}{es:List Expr}{t:er}
end
section
variable{X:aM}{pins:List (Addr×Obj)}{σ :St}{H H':ai}{s s':Shared}{a:Addr}
end
section
variable{X:aM}{i:Nat}{x n:Str}{W:Addr}{e:Expr}{dI:TE}{E:c7}{LN:Stmt}{Xw:List Stmt}{bS:eM}{Ax np hp pos:Pos}
end
noncomputable def iG(env:Env):List (Str×NameKind)→List (Str×Addr)→List (Str×Addr)
 |[],cs=>cs
 |(x,k)::r,cs=>iG env r (if k==.free then(x,(env.cells.lookup x).getD 0)::cs else cs)
theorem D8{env:Env}:∀(names:List (Str×NameKind))(cs:List (Str×Addr)),(∀p∈names,p.2=.free→∃c,env.cells.lookup p.1=some c)→
 (forIn (m:=Sem) names cs fun(x:Str×NameKind) cs=>if(x.2==NameKind.free)=true then do
   let a ←cellOf env x.1
   pure (ForInStep.yield ((x.1,a)::cs))else pure (ForInStep.yield cs))=pure (iG env names cs)
 |[],cs,_=>rfl
 |(x,k)::r,cs,h=>by
  rw[List.forIn_cons];have bQ:=D8 (env:=env) r;by_cases hk:k=.free
  ·subst hk;obtain⟨c,hc⟩:=h (x,.free) List.mem_cons_self rfl;have aq:cellOf env x=pure c:=by unfold cellOf;rw[hc]
   simp only[beq_self_eq_true,if_true,iG,aq,hc,Option.getD_some,pure_bind];exact bQ _ fun p hp=>h p (List.mem_cons_of_mem _ hp)
  ·have hb:(k==NameKind.free)=false:=by simpa using hk
   simp only[hb,Bool.false_eq_true,if_false,iG,pure_bind];exact bQ _ fun p hp=>h p (List.mem_cons_of_mem _ hp)
theorem D7{env:Env}{scope:Scope}(h:∀p∈scope.names,p.2=.free→∃c,env.cells.lookup p.1=some c):closureFor scope env=pure (iG env scope.names []):=by
 have e:=D8 (env:=env) scope.names [] h;unfold closureFor
 refine Eq.trans (b:=(forIn (m:=Sem) scope.names [] fun(x:Str×NameKind) cs=>if(x.2==NameKind.free)=true then do
   let a ←cellOf env x.1
   pure (ForInStep.yield ((x.1,a)::cs))else pure (ForInStep.yield cs))>>=pure) rfl ?_
 rw[e];rfl
theorem D6{env:Env}{x:Str}:∀(names:List (Str×NameKind))(cs:List (Str×Addr)),(∀p∈names,p.2=.free→∃c,env.cells.lookup p.1=some c)→
  (iG env names cs).lookup x=if(x,NameKind.free)∈names then env.cells.lookup x else cs.lookup x
 |[],cs,_=>by simp[iG]
 |(y,k)::r,cs,h=>by
  rw[iG,D6 r _ fun p hp=>h p (List.mem_cons_of_mem _ hp)];by_cases hm:(x,NameKind.free)∈r
  ·rw[if_pos hm,if_pos (List.mem_cons_of_mem _ hm)]
  ·rw[if_neg hm];by_cases hk:k=.free
   ·subst hk;obtain⟨c,hc⟩:=h (y,.free) List.mem_cons_self rfl;by_cases hx:x=y
    ·subst hx;rw[if_pos List.mem_cons_self];simp[List.lookup_cons,hc]
    ·have nm:¬(x,NameKind.free)∈(y,NameKind.free)::r:=fun z=>by
       rcases List.mem_cons.mp z with e|e
       ·exact hx (by injection e)
       ·exact hm e
     rw[if_neg nm];have hb:(x==y)=false:=by simpa using hx
     simp[List.lookup_cons,hb]
   ·have hb:(k==NameKind.free)=false:=by simpa using hk
    have nm:¬(x,NameKind.free)∈(y,k)::r:=fun z=>by
     rcases List.mem_cons.mp z with e|e
     ·exact hk (by injection e with _ az;exact az.symm)
     ·exact hm e
    rw[if_neg nm];simp[hb]
theorem Mb {prog:Program} {w:World} {A:Around} {R:Result→Shared→Prop} {s:Shared} {elt target iter:Expr} {ifs:List Expr} {scope:Scope} {pos:Pos} {it acc:Value} {env:Env} (I:Nat→Shared→Prop)(turn:∀n s,I n s→wpAny (model prog w) A (pyNext it) (fun r c4=>match r with
    |none=>R (.ok .next) c4
    |some v=>wpAny (model prog w) A (letOwnedTupleGo target it v) (fun _ Jx=>wpAny (model prog w) A (assign target env v) (fun _ lx=>
       wpAny (model prog w) A (forIn ifs true fun c r=>if r=true then do let ok ←isTrue c env (eval c env);pure (ForInStep.yield ok)else pure (ForInStep.yield r)) (fun ok t5=>
        if ok=true then wpAny (model prog w) A (eval elt env) (fun x wW=>
         wpAny (model prog w) A (call (.builtin "list.append") [acc,x]) (fun _ Jy=>∃m,m<n∧I m Jy) (notedBy (model prog w) A env fun e s'=>R (.error e) s') wW) (notedBy (model prog w) A env fun e s'=>R (.error e) s') t5
        else ∃m,m<n∧I m t5) (notedBy (model prog w) A env fun e s'=>R (.error e) s') lx) (notedBy (model prog w) A env fun e s'=>R (.error e) s') Jx) (notedBy (model prog w) A env fun e s'=>R (.error e) s') c4) (notedBy (model prog w) A env fun e s'=>R (.error e) s') s)
  (n:Nat) (h:I n s):codeAny (model prog w) A (.compLoop (.ListComp elt [⟨target,iter,ifs,0⟩] scope pos) 0 it acc env) R s:=by
 refine codeAny_loop rfl I (fun n s iK=>?_) n h;show wpAny _ A ((compTurn (.ListComp elt [⟨target,iter,ifs,0⟩] scope pos) 0 it acc env).onRaise (fun x=>do noteFrame x env;theTreesLotGoes x)) _ _ s;refine wpAny_noted ?_;rw[compTurn_list];refine wpAny_bind (wpAny_standAt (wpAny_bind (wpAny_mono (turn n s iK) (fun r c4 jL=>?_) fun _ _ h'=>h')));cases r with
 |none=>exact wpAny_pure jL
 |some v=>
  refine wpAny_bind (wpAny_mono jL (fun _ Jx PH=>?_) fun _ _ h'=>h');refine wpAny_bind (wpAny_mono PH (fun _ lx kW=>wpAny_bind (wpAny_mono kW (fun ok t5 nY=>?_) fun _ _ h'=>h')) fun _ _ h'=>h');cases ok with
  |false=>exact wpAny_pure ⟨rfl,nY⟩
  |true=>exact wpAny_bind (wpAny_bind (wpAny_mono nY (fun x wW sV=>wpAny_bind (wpAny_mono sV (fun _ Jy g6=>wpAny_pure (wpAny_pure ⟨rfl,g6⟩)) fun _ _ h'=>h')) fun _ _ h'=>h'))
abbrev fe(X:aM)(scope:Scope)(N:List Str)(cl:List (Str×Addr))(C:Addr)(s:Shared)(H:ai)(a6:List Addr):aM where
 prog:=X.prog
 w:=X.w
 K:=X.K
 mg:=X.mg
 base:=X.base
 A:=X.A
 N:=N
 fh:=s
 oN:=H
 env:=compEnvC scope cl C X.env
 outer:=X.stack
 stack:=X.stack
 ex:=a6
 calm:=X.calm
 fn:=fun _=>false
 oh:=[]
 xe:=fun _ _=>False
def lM(nl:Nat)(caps:List Nat)(σ :St):St:=List.replicate nl none++caps.map fun j=> σ.getD j none
def vD:Option NameKind→Bool
 |some .cell=>true
 |some .free=>true
 |_=>false
structure me(sc:Scope)(qD:List Str)(scope:Scope)(N:List Str)(nl:Nat)(caps:List Nat):Prop where
 kind:scope.kind=.function
 HN:∀x∈scope.names,x.2≠.cell
 locs:∀x∈scope.names,x.2=.local→scope.names.lookup x.1=some .local
 free:∀x∈scope.names,x.2=.free→vD (sc.names.lookup x.1)=true
 len:N.length=nl+caps.length
 L9:∀k j,caps[k]?=some j→∃x,qD[j]?=some x∧N[nl+k]?=some x∧scope.names.lookup x=some .free∧vD (sc.names.lookup x)=true
noncomputable def qO(sc:Scope)(qD:List Str)(scope:Scope)(N:List Str)(nl:Nat)(caps:List Nat):Bool:=
 (scope.kind==.function)&&scope.names.all (fun x=>x.2 !=.cell&&(x.2 !=.local||scope.names.lookup x.1==some .local)&&(x.2 !=.free||vD (sc.names.lookup x.1)))&&
 (N.length==nl+caps.length)&&(caps.zipIdx.all fun zS=>match qD[zS.1]? with
   |none=>false
   |some x=>N[nl+zS.2]?==some x&&scope.names.lookup x==some .free&&vD (sc.names.lookup x))
theorem me.of{sc:Scope}{qD:List Str}{scope:Scope}{N:List Str}{nl:Nat}{caps:List Nat}(h:qO sc qD scope N nl caps=true):me sc qD scope N nl caps:=by
 unfold qO at h;rw[Bool.and_eq_true,Bool.and_eq_true,Bool.and_eq_true]at h;obtain⟨⟨⟨h1,h2⟩,h3⟩,h4⟩:=h;rw[List.all_eq_true]at h2 h4;refine⟨eq_of_beq h1,fun x hx=>?_,fun x hx e=>?_,fun x hx e=>?_,eq_of_beq h3,fun k j e=>?_⟩
 ·have:=h2 x hx;rw[Bool.and_eq_true,Bool.and_eq_true]at this;simpa using this.1.1
 ·have:=h2 x hx;rw[Bool.and_eq_true,Bool.and_eq_true]at this;have q:=this.1.2;rw[e]at q;simpa using q
 ·have:=h2 x hx;rw[Bool.and_eq_true,Bool.and_eq_true]at this;have q:=this.2;rw[e]at q;simpa using q
 ·have m:(j,k)∈caps.zipIdx:=by
    rw[List.mem_zipIdx_iff_getElem?];exact e
  have q:=h4 _ m;dsimp only at q
  split at q
  ·cases q
  ·rename_i x ex;rw[Bool.and_eq_true,Bool.and_eq_true]at q;exact⟨x,ex,eq_of_beq q.1.1,eq_of_beq q.1.2,q.2⟩
theorem AP{scope:Scope}{env:Env}{x:Str}{k:NameKind}(h:(relabel scope env).names.lookup x=some k):(x,k)∈scope.names∨(k=.cell∧(x,NameKind.free)∈scope.names):=by
 have m:=PySem.mem_of_lookup h;obtain⟨⟨y,q⟩,bX,e⟩:=List.mem_map.mp m;dsimp only at e
 split at e
 ·rename_i hc;injection e with aq az;subst aq;have hf:q=.free:=by
   rw[Bool.and_eq_true,Bool.and_eq_true]at hc;exact eq_of_beq hc.1.1
  subst hf;exact .inr ⟨az.symm,bX⟩
 ·injection e with aq az;subst aq;subst az;exact .inl bX
noncomputable def w0(iw:TI)(g:hH)(f6:TT)(dI:TE)(nl:Nat)(caps:List Nat):TE:=fun σ H Q=>
 iw σ H fun cq H1=>∀acc,H1 acc=none→∃W:Nat→Nat→St→ai→Prop,(∃m,W 0 m (lM nl caps σ) (upd H1 acc (.lst [])))∧
  ∀i m σ' H',W i m σ' H'→(cq.stop i H'∧Q (.ref acc) H')∨
   (cq.go i H'∧∀x a9,cq.i2 i H' x a9→g x σ' a9 fun σ2 dk=>f6 σ2 dk fun b gG=>
      if b=true then dI σ2 gG fun y iz=>∃ys,iz acc=some (.lst ys)∧ys.length<sizeLine∧∃c0,c0<m∧W (i+1) c0 σ2 (upd iz acc (.lst (ys++[y])))
      else ∃c0,c0<m∧W (i+1) c0 σ2 gG)
section
variable{X:aM}{elt target iter:Expr}{ifs:List Expr}{scope:Scope}{pos:Pos}{N:List Str}{nl:Nat}{caps:List Nat}{iw:TI}{g:hH}{f6:TT}{dI:TE}
noncomputable def nB(X:aM)(ifs:List Expr)(t:TT):Prop:=
 ∀(pins:List (Addr×Obj))(s:Shared)(σ :St)(H:ai)(Q:Bool→ai→Prop),Inv X pins σ H s→t σ H Q→
  wpAny (model X.prog X.w) X.A (forIn ifs true fun c r=>if r=true then do let ok ←isTrue c X.env (eval c X.env);pure (ForInStep.yield ok)else pure (ForInStep.yield r)) (uC X pins σ Q) X.xe s
def XE:TT:=fun _ H Q=>Q true H
theorem Vi:nB X [] XE:=fun _ _ _ H _ I h=>wpAny_tests_nil ⟨H,I,h⟩
theorem Vj{c:Expr}{t:TT}(h:eU X c t):nB X [c] t:=fun pins s σ H Q I hw=>wpAny_tests_one (h pins s σ H Q I hw)
theorem QI{pins:List (Addr×Obj)}{σ :St}{H:ai}{s s4:Shared}{cl:List (Str×Addr)}{a6:List Addr}(S:me X.env.scope X.N scope N nl caps)(I:Inv X pins σ H s)(jJ:∀x,cl.lookup x=if(x,NameKind.free)∈scope.names then X.env.cells.lookup x else none)(hf:∀b∈a6,i4 X pins H b)(fB:∀b∈a6,b<s.heap.objs.size)(Pl:s4.os=s.os)(hg:s4.gens=s.gens)(aC:∃m,s4.heap.Ns s.heap.objs.size m)(hk:∀b o,s.heap.get? b=some o→s4.heap.get? b=some o) :
  Inv (fe X scope N cl s.heap.objs.size s H a6) [] (lM nl caps σ) H s4:=by
 have sg:∀x c,cl.lookup x=some c→X.env.cells.lookup x=some c:=fun x c e=>by
  rw[jJ]at e
  split at e
  ·exact e
  ·cases e
 refine⟨⟨I.ok.mod,?_,I.ok.glob,I.ok.blt,Nat.le_refl _,fun x y c h1 h2=>I.ok.inj x y c (sg x c h1) (sg y c h2),fun x hx=>?_,fun x c z=>?_,I.ok.hd,I.ok.frames,.inl rfl,fun b hb=>⟨Nat.ne_of_lt (fB b hb),fun x c e=>(hf b hb).2.2.2.2.1 x c (sg x c e)⟩,I.bs,Nat.le_trans I.ok.nL I.p4,fun b o e hb=>?_,fun b hb hs=>?_,I.stack,I.B3⟩,
  Pl,?_,e6.kept hk,?_,fun x c e=>?_,I.bF.fresh (Nat.le_refl _),fun x c e=>I.lO x c (sg x c e),fun p hp=>absurd (show p∈([]:List (Addr×Obj))from hp) (by simp),I.bF.kept hk,?_⟩
 ·show(relabel scope X.env).kind=.function;exact S.kind
 ·have hx:(relabel scope X.env).names.lookup x=some .cell∨(relabel scope X.env).names.lookup x=some .free:=hx;have hm:(x,NameKind.free)∈scope.names:=by
   rcases hx with h|h
   ·rcases AP h with m|⟨_,m⟩
    ·exact absurd rfl (S.HN _ m)
    ·exact m
   ·rcases AP h with m|⟨e,_⟩
    ·exact m
    ·cases e
  have aJ:=S.free _ hm rfl;have hc:∃c,X.env.cells.lookup x=some c:=by
   apply I.ok.has x;show X.env.scope.names.lookup x=some .cell∨X.env.scope.names.lookup x=some .free;cases e:X.env.scope.names.lookup x with
   |none=>rw[e]at aJ;cases aJ
   |some k=>
    rw[e]at aJ
    cases k<;>first
     |exact .inl rfl
     |exact .inr rfl
     |cases aJ
  obtain⟨c,e⟩:=hc;exact⟨c,by show cl.lookup x=some c;rw[jJ,if_pos hm];exact e⟩
 ·cases z
 ·rcases(hf b hb).2.2.2.1 with z|z
  ·exact I.ok.pR b o e z
  ·exact absurd (Nat.lt_of_lt_of_le (Heap.lt_size (I.ok.bs b o e).1) z) (Nat.lt_irrefl _)
 ·rcases List.mem_cons.mp (I.wU b hs)with z|z
  ·exact(hf b hb).2.1 z
  ·exact(hf b hb).2.2.1 z
 ·rw[hg];exact I.bare
 ·obtain⟨m,aC⟩:=aC;refine⟨m,aC,fun i x v h1 h2 h3=>?_⟩;have hN:N[i]?=some x:=h1;unfold lM at h2;by_cases hi:i<nl
  ·rw[List.getElem?_append_left (by simpa using hi),List.getElem?_replicate,if_pos hi]at h2;cases h2
  ·rw[List.getElem?_append_right (by simpa using hi),List.length_replicate,List.getElem?_map]at h2;cases e:caps[i-nl]? with
   |none=>rw[e]at h2;cases h2
   |some j=>
    rw[e]at h2;have h2: σ.getD j none=some v:=Option.some.inj h2;obtain⟨y,aq,az,yO,gZ⟩:=S.L9 _ _ e;have b7:(y,NameKind.free)∈scope.names:=PySem.mem_of_lookup yO;have eu:gU X.env.scope y:=by
     cases q:X.env.scope.names.lookup y with
     |none=>rw[q]at gZ;cases gZ
     |some k=>
      rw[q]at gZ
      cases k<;>first
       |exact .inr (.inl q)
       |exact .inr (.inr q)
       |cases gZ
    have iH:nl+(i-nl)=i:=by omega
    rw[iH,hN]at az;cases az;have hs: σ[j]?=some (some v):=by
     rw[List.getD_eq_getElem?_getD]at h2;cases q: σ[j]? with
     |none=>rw[q]at h2;cases h2
     |some o=>rw[q]at h2;exact congrArg some h2
    obtain⟨m0,_,hl⟩:=I.loc;obtain⟨u,r,l⟩:=hl j x v aq hs eu;refine⟨u,r,.inr ⟨?_,?_⟩⟩
    ·show(relabel scope X.env).names.lookup x=some .cell∨(relabel scope X.env).names.lookup x=some .free;rcases h3 with h3|h3|h3
     ·have h3:(relabel scope X.env).names.lookup x=some .local:=h3;rcases AP h3 with z|⟨z,_⟩
      ·have aZ:scope.names.lookup x=some .local:=S.locs _ z rfl;rw[aZ]at yO;cases yO
      ·cases z
     ·exact .inl h3
     ·exact .inr h3
    ·have aJ:X.env.scope.names.lookup x≠some .local:=fun z=>by rw[z]at gZ;cases gZ
     rcases l with⟨z,_⟩|⟨_,c,bg,aZ⟩
     ·exact absurd z aJ
     ·refine⟨c,?_,aZ.keeps hk⟩;show cl.lookup x=some c;rw[jJ,if_pos b7];exact bg
 ·obtain⟨v,z⟩:=I.cell x c (sg x c e);exact⟨v,z.keeps hk⟩
 ·show(lM nl caps σ).length=N.length;unfold lM;rw[List.length_append,List.length_replicate,List.length_map,S.len]
theorem QK{pins:List (Addr×Obj)}{σ σ' :St}{H H':ai}{s s':Shared}{cl:List (Str×Addr)}{a6:List Addr}{h':Heap}(I:Inv X pins σ H s)(hf:∀b∈a6,i4 X pins H b)(cq:Inv (fe X scope N cl s.heap.objs.size s H a6) [] σ' H' s')(hs:Heap.SameBut s.heap.objs.size s'.heap h'):Inv X pins σ H' { s' with heap:=h' }:=by
 have ne:∀b o,s.heap.get? b=some o→b≠s.heap.objs.size:=fun b o e=>Nat.ne_of_lt (Heap.lt_size e);have u:e6 (en X.stack) a6 H H' s.heap s'.heap:=cq.base;have fr:H' s.heap.objs.size=none:=cq.free;refine I.LR (ch:=a6) (s':={ s' with heap:=h' }) cq.os ⟨fun b o e n hb hx=>(hs.2 b (ne b o e)).trans (u.keep b o e n hb hx),fun b o e n hb hx=>?_,u.free,fun b o e hx=>?_,u.iY,u.ie,u.iX⟩ (fun b o e=>?_) cq.bare fun b hb=>?_
 ·obtain⟨cF,q⟩:=u.slot b o e n hb hx;exact⟨cF,(hs.2 b (ne b o e)).trans q⟩
 ·obtain⟨bJ,q⟩:=u.there b o e hx;exact⟨bJ,(hs.2 b (ne b o e)).trans q⟩
 ·refine(cq.bF b o e).m5 (fun c v hc q=>(hs.2 c ?_).trans q) (fun _ q=>q) fun _ _ q=>q;rintro rfl;rcases hc with z|z
  ·rw[←z,fr]at e;cases e
  ·rw[fr]at z;cases z
 ·obtain⟨_,f1,_,ew,f4,hL⟩:=hf b hb;exact⟨ew,f1,f4,hL⟩
theorem D_ {pins:List (Addr×Obj)} {σ :St} {s2:Shared} {a9:ai} {it:Addr} {a6:List Addr} {gD:Nat→Heap→Prop} {cq:It} {E:Value→Shared→Prop} {Q:ai→Prop} {W:Nat→Nat→St→ai→Prop} {m0:Nat}(S:me X.env.scope X.N scope N nl caps) (hc:X.calm=true) (b5:Inv X pins σ a9 s2) (T:Turn X.prog X.w X.K target cq a6 it gD) (ky:gD 0 s2.heap) (f2:∀b∈a6,i4 X pins a9 b)(hg:∀cl C s H a6,i5 (fe X scope N cl C s H a6) target g) (ht:∀cl C s H a6,nB (fe X scope N cl C s H a6) ifs f6) (he:∀cl C s H a6,a3 (fe X scope N cl C s H a6) elt dI)(nf:W 0 m0 (lM nl caps σ) (upd a9 s2.heap.objs.size (.lst [])))(turn:∀i m σ' H',W i m σ' H'→(cq.stop i H'∧Q H')∨
    (cq.go i H'∧∀x dk,cq.i2 i H' x dk→g x σ' dk fun σ2 gG=>f6 σ2 gG fun b iz=>
       if b=true then dI σ2 iz fun y qw=>∃ys,qw s2.heap.objs.size=some (.lst ys)∧ys.length<sizeLine∧∃c0,c0<m∧W (i+1) c0 σ2 (upd qw s2.heap.objs.size (.lst (ys++[y])))
       else ∃c0,c0<m∧W (i+1) c0 σ2 iz))
  (r_:Value→Addr→Result→Shared→Prop)
  (OA:∀(C:Addr) s' H',(∃m,s'.heap.Ns C m)→i4 X pins H' C→(∀h',Heap.SameBut C s'.heap h'→Inv X pins σ H' { s' with heap:=h' })→Q H'→r_ (.ref s2.heap.objs.size) C (.ok .next) s') :
  wpAny (model X.prog X.w) X.A (newList []) (fun acc t5=>wpAny (model X.prog X.w) X.A (newFunctionEnv scope X.env.globals (iG X.env scope.names []) [] X.env.qual none .none (some X.env)) (fun D5 wW=>
   codeAny (model X.prog X.w) X.A (.compStart (.ListComp elt [⟨target,iter,ifs,0⟩] scope pos) 0 (.ref it) acc { D5 with scope:=relabel scope X.env }) (r_ acc D5.locals) wW) E t5) E s2:=by
 have vq:∀p∈scope.names,p.2=.free→∃c,X.env.cells.lookup p.1=some c:=fun p hp e=>by
  have q:=S.free p hp e;apply b5.ok.has p.1;show X.env.scope.names.lookup p.1=some .cell∨X.env.scope.names.lookup p.1=some .free;cases az:X.env.scope.names.lookup p.1 with
  |none=>rw[az]at q;cases q
  |some k=>
   rw[az]at q
   cases k<;>first
    |exact .inl rfl
    |exact .inr rfl
    |cases q
 have jJ:∀x,(iG X.env scope.names []).lookup x=if(x,NameKind.free)∈scope.names then X.env.cells.lookup x else none:=fun x=>D6 scope.names [] vq
 have aaf:a9 s2.heap.objs.size=none:=b5.bF.fresh (Nat.le_refl _);refine wpAny_newObj_type (wpAny_newFunctionEnv S.HN (by intro y bX;simp at bX) (fun jL zz zD=>?_) S.kind);dsimp only at zz zD ⊢;have d9:Inv X pins σ (upd a9 s2.heap.objs.size (.lst [])) { s2 with heap:=s2.heap.push { cls:=.type "list",dict:=none,data:=.seq ([]:List Value).toArray } }:=b5.z5 (its:=[]) (ys:=[]) (t':=s2.toks) .nil (Nat.zero_le _);generalize zC:({ s2 with heap:=s2.heap.push { cls:=.type "list",dict:=none,data:=.seq ([]:List Value).toArray } }:Shared)=s3 at d9;have zr:s2.heap.push { cls:=.type "list",dict:=none,data:=.seq ([]:List Value).toArray }=s3.heap:=by rw[←zC]
 rw[zr]at zz zD ⊢;have HX:∀b o,s2.heap.get? b=some o→s3.heap.get? b=some o:=fun b o e=>by rw[←zr];exact Heap.get?_push_of_some _ e
 have Xa:s3.heap.objs.size=s2.heap.objs.size+1:=by rw[←zr,Heap.size_push]
 have zU:∀b o,s3.heap.get? b=some o→jL.get? b=some o:=fun b o e=>zD.extBut b o (Nat.ne_of_lt (Heap.lt_size e)) (Heap.get?_push_of_some _ e);have Gk:∀b∈a6,b<s2.heap.objs.size:=fun b hb=>by obtain⟨o,e,_⟩:=T.obj 0 _ ky b hb;exact Heap.lt_size e
 have ew:∀b∈a6,i4 X pins (upd a9 s2.heap.objs.size (.lst [])) b:=fun b hb=>by obtain⟨gV,a1⟩:=f2 b hb;exact⟨by rw[dJ (Nat.ne_of_lt (Gk b hb))];exact gV,a1⟩
 have Gl:∀b∈a6,b<s3.heap.objs.size:=fun b hb=>by rw[Xa];exact Nat.lt_succ_of_lt (Gk b hb)
 have loop:∀s4:Shared,s4={ s3 with heap:=jL,toks:=s2.toks+([]:List (Str×Value)).length }→
   codeAny (model X.prog X.w) X.A (.compLoop (.ListComp elt [⟨target,iter,ifs,0⟩] scope pos) 0 (.ref it) (.ref s2.heap.objs.size) (compEnvC scope (iG X.env scope.names []) s3.heap.objs.size X.env))
    (r_ (.ref s2.heap.objs.size) s3.heap.objs.size) s4:=by
  intro s4 sT;have j7:Inv (fe X scope N (iG X.env scope.names []) s3.heap.objs.size s3 (upd a9 s2.heap.objs.size (.lst [])) a6) [] (lM nl caps σ) (upd a9 s2.heap.objs.size (.lst [])) s4:=
   QI S d9 jJ ew Gl (by rw[sT]) (by rw[sT]) ⟨_,by rw[sT];exact zz⟩ (by rw[sT];exact zU)
  have Xq:gD 0 s4.heap:=T.keep 0 _ _ ky fun b hb o e=>by rw[sT];exact zU b o (HX b o e)
  generalize kh:fe X scope N (iG X.env scope.names []) s3.heap.objs.size s3 (upd a9 s2.heap.objs.size (.lst [])) a6=B at j7;have stat:∀{H':ai},(∀b∈a6,H' b=none)→∀b∈a6,i4 B [] H' b:=fun{H'} aC b hb=>by
   subst kh;obtain⟨gV,a1,a2,eE,hA,ib⟩:=ew b hb;refine⟨aC b hb,Nat.ne_of_lt (Gl b hb),fun z=>?_,.inl hb,fun x c e=>?_,fun p hp=>absurd (show p∈([]:List (Addr×Obj))from hp) (by simp)⟩
   ·rcases List.mem_cons.mp (d9.wU b z)with q|q
    ·exact a1 q
    ·exact a2 q
   ·have e:(iG X.env scope.names []).lookup x=some c:=e;rw[jJ]at e
    split at e
    ·exact hA x c e
    ·cases e
  have OW:i5 B target g:=by subst kh;exact hg _ _ _ _ _
  have Py:nB B ifs f6:=by subst kh;exact ht _ _ _ _ _
  have OR:a3 B elt dI:=by subst kh;exact he _ _ _ _ _
  have sq:B.prog=X.prog:=by subst kh;rfl
  have jd:B.w=X.w:=by subst kh;rfl
  have Er:B.K=X.K:=by subst kh;rfl
  have MO:B.A=X.A:=by subst kh;rfl
  have yP:B.env=compEnvC scope (iG X.env scope.names []) s3.heap.objs.size X.env:=by subst kh;rfl
  have Es:B.calm=true:=by subst kh;exact hc
  have NU:B.xe=fun _ _=>False:=by subst kh;rfl
  rw[←sq,←jd,←MO,←yP];refine Mb (fun n s'=>∃i σ' H',Inv B [] σ' H' s'∧gD i s'.heap∧(∀b∈a6,H' b=none)∧W i n σ' H') ?_ m0 ⟨0,_,_,j7,Xq,fun b hb=>(ew b hb).1,nf⟩;rintro n s5 ⟨i,σ5,iz,qx,rL,vc,YH⟩;have away:∀{α:Type}{t:Sem α}{Dq:α→Shared→Prop}{KR:Value→Shared→Prop}{m3:Shared},wpAny (model B.prog B.w) B.A t Dq B.xe m3→wpAny (model B.prog B.w) B.A t Dq KR m3:=fun h=>wpAny_mono h (fun _ _ q=>q) fun e s' z=>by rw[NU]at z;exact z.elim
  rcases turn i n σ5 iz YH with⟨stop,q⟩|⟨go,step⟩
  ·have d:=T.done B sq jd Er Es i [] s5 σ5 iz (notedBy (model B.prog B.w) B.A B.env fun e s'=>r_ (.ref s2.heap.objs.size) s3.heap.objs.size (.error e) s') qx (stat vc) rL stop;rw[←sq,←jd]at d;refine bL d fun r cT⟨hr,r3⟩=>?_;subst hr;refine OA _ cT iz ?_ (d9.mD (Nat.le_refl _) ?_) (fun h' jg=>?_) q
   ·obtain⟨m,aC,_⟩:=r3.loc;rw[yP]at aC;exact⟨m,aC⟩
   ·have z:=r3.free;rw[yP]at z;exact z
   ·subst kh;exact QK d9 ew r3 jg
  ·have d:=T.item B sq jd Er Es i [] s5 σ5 iz (notedBy (model B.prog B.w) B.A B.env fun e s'=>r_ (.ref s2.heap.objs.size) s3.heap.objs.size (.error e) s') qx (stat vc) rL go;rw[←sq,←jd]at d;refine bL d fun r cT⟨u,hr,h6⟩=>?_;subst hr;refine bL h6 fun _ cR⟨x,gf,jy,g_,l_,B2,Og⟩=>?_;have KZ:=jy.pinned (stat Og) (T.obj _ _ B2);refine away (bL (OW _ cR σ5 gf x u _ KZ g_ (step x gf l_)) fun _ tU⟨σ8,xD,K0,AH⟩=>?_);refine away (bL (Py _ tU σ8 xD _ K0 AH) fun b IW⟨KU,Dj,AI⟩=>?_);have again:∀{σa:St}{hy:ai}{m3:Shared},Inv B ([]++tO a6 cR.heap) σa hy m3→(∃c0,c0<n∧W (i+1) c0 σa hy)→∃m,m<n∧∃i σ' H',Inv B [] σ' H' m3∧gD i m3.heap∧(∀b∈a6,H' b=none)∧W i m σ' H':=fun{σa hy m3} xE⟨c0,hm,YR⟩=>by
    refine⟨c0,hm,i+1,σa,hy,xE.w8,T.keep _ _ _ B2 fun b hb o e=>(xE.pin (b,o) (List.mem_append_right _ (List.mem_append_right _ (v3 hb e)))).1,fun b hb=>?_,YR⟩;obtain⟨o,e,d⟩:=T.obj _ _ B2 b hb;exact(xE.pin (b,o) (List.mem_append_right _ (List.mem_append_right _ (v3 hb e)))).2.1
   cases b with
   |false=>exact again Dj AI
   |true=>show wpAny _ _ (eval elt B.env) _ _ IW;refine away (bL (OR _ IW σ8 KU _ Dj AI) fun C2 tS⟨y,Dg,KW,b9,ys,ha,bj,Vq⟩=>?_);refine away (bL (Ah _ tS σ8 Dg (.ref s2.heap.objs.size) [y] (.ref s2.heap.objs.size) [C2] (fun _ Dh=>Dh=upd Dg s2.heap.objs.size (.lst (ys++[y]))) KW rfl (.cons b9 .nil) ⟨_,ys,y,rfl,rfl,ha,bj,rfl⟩) fun _ abh⟨z,Dh,KX,_,MH⟩=>?_);subst MH;exact again KX Vq
 exact codeAny_compStart_list (loop _ (by rw[←zC])) (T.self X.A 0 _ _ _ (T.keep 0 _ _ ky fun b hb o e=>zU b o (HX b o e)) (loop _ (by rw[←zC])))
theorem Ge{pins:List (Addr×Obj)}{σ :St}{s:Shared}{H:ai}(S:me X.env.scope X.N scope N nl caps)(I:Inv X pins σ H s):∀p∈scope.names,p.2=.free→∃c,X.env.cells.lookup p.1=some c:=fun p hp e=>by
 have q:=S.free p hp e;apply I.ok.has p.1;show X.env.scope.names.lookup p.1=some .cell∨X.env.scope.names.lookup p.1=some .free;cases az:X.env.scope.names.lookup p.1 with
 |none=>rw[az]at q;cases q
 |some k=>
  rw[az]at q
  cases k<;>first
   |exact .inl rfl
   |exact .inr rfl
   |cases q
theorem Us(S:me X.env.scope X.N scope N nl caps)(hc:X.calm=true)(hi:fR X target iter iw)(hg:∀cl C s H a6,i5 (fe X scope N cl C s H a6) target g)(ht:∀cl C s H a6,nB (fe X scope N cl C s H a6) ifs f6)(he:∀cl C s H a6,a3 (fe X scope N cl C s H a6) elt dI)(hs:∀x,foldedSetIterable iter X.env x=pure x:=by intro _;rfl):a3 X (.ListComp elt [⟨target,iter,ifs,0⟩] scope pos) (w0 iw g f6 dI nl caps):=by intro pins s σ H Q I h;rw[eval_ListComp];refine wpAny_comprehension_free (use:=none) rfl hs (D7 (Ge S I)) S.kind S.locs ?_;refine bL (hi pins s σ H _ I h) fun v s1 h1=>bL h1 fun vF s2 h2=>?_;obtain⟨it,a6,gD,cq,a9,e,b5,T,ky,f2,k⟩:=h2;subst e;obtain⟨W,⟨m0,nf⟩,turn⟩:=k s2.heap.objs.size (b5.bF.fresh (Nat.le_refl _));refine D_ (Q:=fun H'=>Q (.ref s2.heap.objs.size) H') S hc b5 T ky f2 hg ht he nf turn (fun acc C=>compPost (model X.prog X.w) X.A X.xe none (gb X pins σ Q) acc C) ?_;intro C s' H' aC _ iK q;obtain⟨m,aC⟩:=aC;exact⟨m,aC,fun h' jg=>⟨.ref s2.heap.objs.size,H',iK h' jg,rfl,q⟩⟩
theorem U9{i:Nat}{y:Str}{py Jk:Pos}(S:me X.env.scope X.N scope N nl caps)(hc:X.calm=true)(hN:X.N.Nodup)(bX:X.N[i]?=some y)(hl:X.env.kindOf y=some .local)(hi:fR X target iter iw)(hg:∀cl C s H a6,i5 (fe X scope N cl C s H a6) target g)(ht:∀cl C s H a6,nB (fe X scope N cl C s H a6) ifs f6)(he:∀cl C s H a6,a3 (fe X scope N cl C s H a6) elt dI)(pv:swapsWith (.ListComp elt [⟨target,iter,ifs,0⟩] scope pos) (some (.Name y py)) Jk.line X.env=pure true:=by rfl)(hs:∀x,foldedSetIterable iter X.env x=pure x:=by intro _;rfl):dr X (.Assign [.Name y py] (.ListComp elt [⟨target,iter,ifs,0⟩] scope pos) Jk) (ow (w0 iw g f6 dI nl caps) (jI i)):=by
 intro pins s σ H cJ I h;rw[exec_Assign_Name_used _ _ _ _ pv];refine wpAny_bind (wpAny_standAt (wpAny_bind ?_));show wpAny _ X.A (do let _ ←comprehension (.ListComp elt [⟨target,iter,ifs,0⟩] scope pos) scope X.env _ (newList []) false (eval iter X.env) (some (assign (.Name y py) X.env))) _ _ s;refine wpAny_bind (wpAny_mono (wpAny_comprehension_free (use:=some (assign (.Name y py) X.env)) (Q:=fun _ s'=>oT X pins cJ .next s') rfl hs (D7 (Ge S I)) S.kind S.locs ?_) (fun _ s' aJ=>wpAny_pure (wpAny_pure aJ)) fun _ _ e=>e);refine bL (hi pins s σ H _ I h) fun v s1 h1=>bL h1 fun vF s2 h2=>?_;obtain⟨it,a6,gD,cq,a9,e,b5,T,ky,f2,k⟩:=h2;subst e;obtain⟨W,⟨m0,nf⟩,turn⟩:=k s2.heap.objs.size (b5.bF.fresh (Nat.le_refl _));refine D_ (Q:=fun H'=>cJ.bq (σ.set i (some (.ref s2.heap.objs.size))) H') S hc b5 T ky f2 hg ht he nf turn (fun acc C=>compPost (model X.prog X.w) X.A X.xe (some (assign (.Name y py) X.env)) (fun _ s'=>oT X pins cJ .next s') acc C) ?_;intro C s' H' aC hO iK q;obtain⟨m,aC⟩:=aC;show wpAny _ X.A (assign (.Name y py) X.env (.ref s2.heap.objs.size)) _ _ s';have jx:Inv X pins σ H' s':=iK s'.heap (Heap.SameBut.refl _ _);refine wpAny_assign_Name (Jr (v:=.ref s2.heap.objs.size) jx hN bX (.inl hl) (show RelV (V.ref _) _ from rfl) (fun iV KV Pr=>?_) (.inr hl));obtain⟨a,Pq,ha⟩:=Pr;obtain⟨jb,bN,cZ,eN,kP,yH⟩:=hO;have S1:C≠a:=by
  rcases ha with z|z
  ·rw[z];exact bN
  ·exact fun w=>kP y a z w.symm
 refine⟨m,aC.sameBut Pq S1,fun h' jg=>?_⟩;exact⟨_,H',KV.turned (t':=iV.toks) (it:=C) (fun b o hb e=>(jg.2 b hb).trans e) jb bN eN kP yH,q⟩
end
end aX
namespace aB
open PySem aX
inductive D where
 |non|ax (b:Bool)|int (i:Int)|str (x:Str)
 |tup (xs:List D)|lst (xs:List D)|cy (xs:List D)
 |dm (aH:List Key) (xs:List D)|bK (aH:List (List Key)) (xs:List D)
 |ins (c:Str) (ns:List Str) (xs:List D)
 |qU (c:Str)
 |dy (xs:List D)
def Sub(G H:ai):Prop:=∀b o,G b=some o→H b=some o
theorem Sub.refl(G:ai):Sub G G:=fun _ _ e=>e
theorem Sub.trans{G H I:ai}(a:Sub G H)(b:Sub H I):Sub G I:=fun c o e=>b c o (a c o e)
theorem Sub.gone{G H:ai}(a:Sub G H){b:Addr}(h:H b=none):G b=none:=by
 cases e:G b with
 |none=>rfl
 |some o=>rw[a b o e]at h;cases h
theorem Sub.upd{G:ai}{a:Addr}{o:dK}(h:G a=none):Sub G (upd G a o):=fun b u e=>by rw[dJ (jk e h)];exact e
theorem Sub.w9{G H:ai}{a:Addr}{o:dK}(s:Sub G H)(h:G a=none):Sub G (aX.upd H a o):=fun b u e=>by rw[dJ (jk e h)];exact s b u e
theorem Sub.both{G H:ai}{a:Addr}{o:dK}(s:Sub G H):Sub (aX.upd G a o) (aX.upd H a o):=fun b u e=>by
 by_cases hb:b=a
 ·subst hb;rw[eB]at e ⊢;exact e
 ·rw[dJ hb]at e ⊢;exact s b u e
theorem Sub.at{G H:ai}{a:Addr}{o:dK}(s:Sub G H)(h:H a=some o):Sub (aX.upd G a o) H:=fun b u e=>by
 by_cases hb:b=a
 ·subst hb;rw[eB]at e;rw[h];exact e
 ·rw[dJ hb]at e;exact s b u e
structure cb(G H G' H':ai):Prop where
 g:Sub G G'
 h:Sub H H'
 n:∀b,H b≠none→G' b=G b
theorem Sub.some{G H:ai}(s:Sub G H){b:Addr}(h:G b≠none):H b≠none:=fun z=>h (s.gone z)
theorem cb.refl(G H:ai):cb G H G H:=⟨Sub.refl _,Sub.refl _,fun _ _=>rfl⟩
theorem cb.trans{G H aT H1 dj a9:ai}(a:cb G H aT H1)(b:cb aT H1 dj a9):cb G H dj a9:=⟨a.g.trans b.g,a.h.trans b.h,fun c hc=>(b.n c (a.h.some hc)).trans (a.n c hc)⟩
theorem cb.lay{G H:ai}{p:Addr}{o:dK}(s:Sub G H)(hp:H p=none):cb G H (aX.upd G p o) (aX.upd H p o):=⟨Sub.upd (s.gone hp),Sub.upd hp,fun b hb=>by rw[dJ];intro e;subst e;exact hb hp⟩
theorem cb.lay0{G H:ai}{p:Addr}{o:dK}(hp:H p=none):cb G H G (aX.upd H p o):=⟨Sub.refl _,Sub.upd hp,fun _ _=>rfl⟩
theorem cb.put{G H G' H':ai}{p:Addr}{o:dK}(u:cb G H G' H')(hp:H p=none)(hg:G' p=none):cb G H (aX.upd G' p o) H':=⟨u.g.trans (Sub.upd hg),u.h,fun b hb=>by
 rw[dJ]
 ·exact u.n b hb
 ·intro e;subst e;exact hb hp⟩
theorem gq.mono{G H:ai}(s:Sub G H){a:Addr}{u:dK}(r:gq G a u):gq H a u:=by
 rcases r with r|⟨o,r⟩
 ·exact .inl (s _ _ r)
 ·exact .inr ⟨o,s _ _ r⟩
theorem bP.mono{K:PySem.W.Frag}{G H:ai}(s:Sub G H){a:Addr}{xs:List V}(r:bP K G a xs):bP K H a xs:=by
 rcases r with r|r
 ·exact .inl (gq.mono s r)
 ·exact .inr r
theorem cS.mono{K:PySem.W.Frag}{G H:ai}(s:Sub G H){a:Addr}{xs:List V}(r:cS K G a xs):cS K H a xs:=by
 rcases r with r|r
 ·exact .inl (gq.mono s r)
 ·exact .inr r
def f9(K:PySem.W.Frag)(c:Str)(C:Addr):Prop:=PySem.W.nsIn K mainGlobals c=some (some (.ref C))
mutual
noncomputable def At(K:PySem.W.Frag)(G:ai):D→V→Prop
 |.non,v=>v=.non
 |.ax b,v=>v=.ax b
 |.int i,v=>v=.int i
 |.str x,v=>v=.str x
 |.tup ds,v=>∃a xs,v=.ref a∧G a=some (.tup xs)∧aL K G ds xs
 |.dy ds,v=>∃a xs,v=.ref a∧cS K G a xs∧aL K G ds xs
 |.lst ds,v=>∃a xs,v=.ref a∧G a=some (.lst xs)∧aL K G ds xs
 |.cy ds,v=>∃a xs,v=.ref a∧bP K G a xs∧aL K G ds xs
 |.dm aH ds,v=>∃a xs,v=.ref a∧G a=some (.dm xs)∧xs.map (·.1)=aH∧aL K G ds (xs.map (·.2))
 |.bK aH ds,v=>∃a xs,v=.ref a∧G a=some (.bK xs)∧xs.map (·.1)=aH∧aL K G ds (xs.map (·.2))
 |.ins c ns ds,v=>∃a a5 xs,v=.ref a∧(∃C,f9 K c C∧G a=some (.ins C a5 xs))∧xs.map (·.1)=ns∧aL K G ds (xs.map (·.2))
 |.qU c,v=>∃(a:Addr)(xs:List V),v=.ref a∧(∃C,f9 K c C∧G a=some (NS a (.ref C)))∧xs=[]
noncomputable def aL(K:PySem.W.Frag)(G:ai):List D→List V→Prop
 |[],vs=>vs=[]
 |d::ds,vs=>∃v r,vs=v::r∧At K G d v∧aL K G ds r
end
mutual
theorem At.mono{K:PySem.W.Frag}{G H:ai}(s:Sub G H):∀{d:D}{v:V},At K G d v→At K H d v
 |.non,_,h=>by simpa only[At]using h
 |.ax _,_,h=>by simpa only[At]using h
 |.int _,_,h=>by simpa only[At]using h
 |.str _,_,h=>by simpa only[At]using h
 |.tup _,_,h=>by simp only[At]at h ⊢;obtain⟨a,xs,e,q,r⟩:=h;exact⟨a,xs,e,s _ _ q,aL.mono s r⟩
 |.dy _,_,h=>by simp only[At]at h ⊢;obtain⟨a,xs,e,q,r⟩:=h;exact⟨a,xs,e,cS.mono s q,aL.mono s r⟩
 |.lst _,_,h=>by simp only[At]at h ⊢;obtain⟨a,xs,e,q,r⟩:=h;exact⟨a,xs,e,s _ _ q,aL.mono s r⟩
 |.cy _,_,h=>by simp only[At]at h ⊢;obtain⟨a,xs,e,q,r⟩:=h;exact⟨a,xs,e,bP.mono s q,aL.mono s r⟩
 |.dm _ _,_,h=>by simp only[At]at h ⊢;obtain⟨a,xs,e,q,k,r⟩:=h;exact⟨a,xs,e,s _ _ q,k,aL.mono s r⟩
 |.bK _ _,_,h=>by simp only[At]at h ⊢;obtain⟨a,xs,e,q,k,r⟩:=h;exact⟨a,xs,e,s _ _ q,k,aL.mono s r⟩
 |.ins _ _ _,_,h=>by simp only[At]at h ⊢;obtain⟨a,a5,xs,e,⟨C,bN,q⟩,k,r⟩:=h;exact⟨a,a5,xs,e,⟨C,bN,s _ _ q⟩,k,aL.mono s r⟩
 |.qU _,_,h=>by simp only[At]at h ⊢;obtain⟨a,xs,e,⟨C,bN,q⟩,r⟩:=h;exact⟨a,xs,e,⟨C,bN,s _ _ q⟩,r⟩
theorem aL.mono{K:PySem.W.Frag}{G H:ai}(s:Sub G H):∀{ds:List D}{vs:List V},aL K G ds vs→aL K H ds vs
 |[],_,h=>by simpa only[aL]using h
 |_::_,_,h=>by simp only[aL]at h ⊢;obtain⟨v,r,e,q,t⟩:=h;exact⟨v,r,e,At.mono s q,aL.mono s t⟩
end
section
variable{K:PySem.W.Frag}{G:ai}
theorem aL.nil:aL K G [] []:=by simp only[aL]
theorem aL.cons{d:D}{ds:List D}{v:V}{vs:List V}(h:At K G d v)(t:aL K G ds vs):aL K G (d::ds) (v::vs):=by simp only[aL];exact⟨v,vs,rfl,h,t⟩
theorem aL.length:∀{ds:List D}{vs:List V},aL K G ds vs→ds.length=vs.length
 |[],_,h=>by simp only[aL]at h;subst h;rfl
 |_::_,_,h=>by simp only[aL]at h;obtain⟨v,r,rfl,_,t⟩:=h;simp[aL.length t]
theorem aL.get:∀{ds:List D}{vs:List V}{i:Nat}{d:D},aL K G ds vs→ds[i]?=some d→∃v,vs[i]?=some v∧At K G d v
 |[],_,_,_,_,e=>by simp at e
 |_::_,_,0,_,h,e=>by simp only[aL]at h;obtain⟨v,r,rfl,q,t⟩:=h;simp at e;subst e;exact⟨v,by simp,q⟩
 |_::_,_,i+1,d,h,e=>by simp only[aL]at h;obtain⟨v,r,rfl,q,t⟩:=h;obtain⟨u,h1,h2⟩:=aL.get (i:=i) (d:=d) t (by simpa using e);exact⟨u,by simpa using h1,h2⟩
theorem aL.vh{ds:List D}{vs:List V}{i:Nat}{v:V}(h:aL K G ds vs)(e:vs[i]?=some v):∃d,ds[i]?=some d∧At K G d v:=by
 have hi:i<ds.length:=by rw[h.length];exact(List.getElem?_eq_some_iff.mp e).1
 obtain⟨u,h1,h2⟩:=h.get (List.getElem?_eq_getElem hi);rw[e]at h1;cases h1;exact⟨_,List.getElem?_eq_getElem hi,h2⟩
theorem aL.append:∀{ds es:List D}{vs ws:List V},aL K G ds vs→aL K G es ws→aL K G (ds++es) (vs++ws)
 |[],_,_,_,h,t=>by simp only[aL]at h;subst h;exact t
 |_::_,_,_,_,h,t=>by simp only[aL]at h;obtain⟨v,r,rfl,q,s⟩:=h;exact .cons q (aL.append s t)
theorem aL.take:∀(n:Nat){ds:List D}{vs:List V},aL K G ds vs→aL K G (ds.take n) (vs.take n)
 |0,_,_,_=>by simpa using aL.nil
 |_+1,[],_,h=>by simp only[aL]at h;subst h;simpa using aL.nil
 |n+1,_::_,_,h=>by simp only[aL]at h;obtain⟨v,r,rfl,q,t⟩:=h;exact .cons q (aL.take n t)
theorem aL.drop:∀(n:Nat){ds:List D}{vs:List V},aL K G ds vs→aL K G (ds.drop n) (vs.drop n)
 |0,_,_,h=>by simpa using h
 |_+1,[],_,h=>by simp only[aL]at h;subst h;simpa using aL.nil
 |n+1,_::_,_,h=>by simp only[aL]at h;obtain⟨v,r,rfl,q,t⟩:=h;simpa using aL.drop n t
theorem aL.set{d:D}{v:V}(q:At K G d v):∀(n:Nat){ds:List D}{vs:List V},aL K G ds vs→aL K G (ds.set n d) (vs.set n v)
 |_,[],_,h=>by simp only[aL]at h;subst h;simpa using aL.nil
 |0,_::_,_,h=>by simp only[aL]at h;obtain⟨u,r,rfl,_,t⟩:=h;exact .cons q t
 |n+1,_::_,_,h=>by simp only[aL]at h;obtain⟨u,r,rfl,p,t⟩:=h;exact .cons p (aL.set q n t)
theorem aL.snoc{ds:List D}{vs:List V}{d:D}{v:V}(h:aL K G ds vs)(q:At K G d v):aL K G (ds++[d]) (vs++[v]):=h.append (.cons q .nil)
end
inductive R(α:Type) where
 |ok (a:α)|exc (c:Str)|bad
namespace R
def bind{α β:Type}:R α→(α→R β)→R β
 |.ok a,k=>k a
 |.exc c,_=>.exc c
 |.bad,_=>.bad
def map{α β:Type}(f:α→β)(r:R α):R β:=r.bind fun a=>.ok (f a)
theorem bE{α β:Type}(a:α)(k:α→R β):(R.ok a).bind k=k a:=rfl
end R
inductive T where
 |ak (d:D)|lst (bS:List T)|dm (aH:List Key) (bS:List T)|bK (aH:List (List Key)) (bS:List T)|ins (c:Str) (ns:List Str) (bS:List T)
mutual
noncomputable def toD:T→D
 |.ak d=>d
 |.lst bS=>.lst (oz bS)
 |.dm aH bS=>.dm aH (oz bS)
 |.bK aH bS=>.bK aH (oz bS)
 |.ins c ns bS=>.ins c ns (oz bS)
noncomputable def oz:List T→List D
 |[]=>[]
 |t::bS=>toD t::oz bS
end
mutual
noncomputable def a6(H:ai):T→V→List Addr
 |.ak _,_=>[]
 |.lst bS,v=>match v with
  |.ref a=>match H a with
   |some (.lst xs)=>a::g4 H bS xs
   |_=>[]
  |_=>[]
 |.dm _ bS,v=>match v with
  |.ref a=>match H a with
   |some (.dm xs)=>a::g4 H bS (xs.map (·.2))
   |_=>[]
  |_=>[]
 |.bK _ bS,v=>match v with
  |.ref a=>match H a with
   |some (.bK xs)=>a::g4 H bS (xs.map (·.2))
   |_=>[]
  |_=>[]
 |.ins _ _ bS,v=>match v with
  |.ref a=>match H a with
   |some (.ins _ _ xs)=>a::g4 H bS (xs.map (·.2))
   |_=>[]
  |_=>[]
noncomputable def g4(H:ai):List T→List V→List Addr
 |[],_=>[]
 |t::bS,vs=>match vs with
  |v::r=>a6 H t v++g4 H bS r
  |[]=>[]
end
mutual
noncomputable def dN(K:PySem.W.Frag)(G H:ai):T→V→Prop
 |.ak d,v=>At K G d v
 |.lst bS,v=>∃a xs,v=.ref a∧H a=some (.lst xs)∧c1 K G H bS xs
 |.dm aH bS,v=>∃a xs,v=.ref a∧H a=some (.dm xs)∧xs.map (·.1)=aH∧c1 K G H bS (xs.map (·.2))
 |.bK aH bS,v=>∃a xs,v=.ref a∧H a=some (.bK xs)∧xs.map (·.1)=aH∧c1 K G H bS (xs.map (·.2))
 |.ins c ns bS,v=>∃a a5 xs,v=.ref a∧(∃C,f9 K c C∧H a=some (.ins C a5 xs))∧xs.map (·.1)=ns∧c1 K G H bS (xs.map (·.2))
noncomputable def c1(K:PySem.W.Frag)(G H:ai):List T→List V→Prop
 |[],vs=>vs=[]
 |t::bS,vs=>∃v r,vs=v::r∧dN K G H t v∧c1 K G H bS r
end
section
variable{K:PySem.W.Frag}{G G' H H' P:ai}
theorem sF{a:Addr}{xs:List V}{bS:List T}(q:H a=some (.lst xs)):a6 H (.lst bS) (.ref a)=a::g4 H bS xs:=by simp only[a6,q]
theorem sC{a:Addr}{xs:List (Key×V)}{aH:List Key}{bS:List T}(q:H a=some (.dm xs)):a6 H (.dm aH bS) (.ref a)=a::g4 H bS (xs.map (·.2)):=by simp only[a6,q]
theorem sD{a:Addr}{xs:List (List Key×V)}{aH:List (List Key)}{bS:List T}(q:H a=some (.bK xs)):a6 H (.bK aH bS) (.ref a)=a::g4 H bS (xs.map (·.2)):=by simp only[a6,q]
theorem sE{a C:Addr}{a5}{xs:List (Str×V)}{c:Str}{ns:List Str}{bS:List T}(q:H a=some (.ins C a5 xs)):a6 H (.ins c ns bS) (.ref a)=a::g4 H bS (xs.map (·.2)):=by simp only[a6,q]
theorem sA{t:T}{bS:List T}{v:V}{r:List V}:g4 H (t::bS) (v::r)=a6 H t v++g4 H bS r:=by simp only[g4]
mutual
theorem dN.mono(aY:Sub G G'):∀{t:T}{v:V},dN K G H t v→dN K G' H t v
 |.ak _,_,h=>by simp only[dN]at h ⊢;exact h.mono aY
 |.lst _,_,h=>by simp only[dN]at h ⊢;obtain⟨a,xs,e,q,r⟩:=h;exact⟨a,xs,e,q,c1.mono aY r⟩
 |.dm _ _,_,h=>by simp only[dN]at h ⊢;obtain⟨a,xs,e,q,n,r⟩:=h;exact⟨a,xs,e,q,n,c1.mono aY r⟩
 |.bK _ _,_,h=>by simp only[dN]at h ⊢;obtain⟨a,xs,e,q,n,r⟩:=h;exact⟨a,xs,e,q,n,c1.mono aY r⟩
 |.ins _ _ _,_,h=>by simp only[dN]at h ⊢;obtain⟨a,a5,xs,e,q,n,r⟩:=h;exact⟨a,a5,xs,e,q,n,c1.mono aY r⟩
theorem c1.mono(aY:Sub G G'):∀{bS:List T}{vs:List V},c1 K G H bS vs→c1 K G' H bS vs
 |[],_,h=>by simpa only[c1]using h
 |_::_,_,h=>by simp only[c1]at h ⊢;obtain⟨v,r,e,q,t⟩:=h;exact⟨v,r,e,dN.mono aY q,c1.mono aY t⟩
end
mutual
theorem dN.keep:∀{t:T}{v:V},(∀b∈a6 H t v,H' b=H b)→dN K G H t v→dN K G H' t v∧a6 H' t v=a6 H t v
 |.ak _,_,_,h=>by simp only[dN]at h;exact⟨by simp only[dN];exact h,by simp only[a6]⟩
 |.lst _,_,k,h=>by simp only[dN]at h;obtain⟨a,xs,rfl,q,r⟩:=h;rw[sF q]at k;have lj:H' a=some (.lst xs):=(k a (by simp)).trans q;obtain⟨au,bh⟩:=c1.keep (fun b hb=>k b (List.mem_cons_of_mem _ hb)) r;exact⟨by simp only[dN];exact⟨a,xs,rfl,lj,au⟩,by rw[sF lj,sF q,bh]⟩
 |.dm _ _,_,k,h=>by simp only[dN]at h;obtain⟨a,xs,rfl,q,n,r⟩:=h;rw[sC q]at k;have lj:H' a=some (.dm xs):=(k a (by simp)).trans q;obtain⟨au,bh⟩:=c1.keep (fun b hb=>k b (List.mem_cons_of_mem _ hb)) r;exact⟨by simp only[dN];exact⟨a,xs,rfl,lj,n,au⟩,by rw[sC lj,sC q,bh]⟩
 |.bK _ _,_,k,h=>by simp only[dN]at h;obtain⟨a,xs,rfl,q,n,r⟩:=h;rw[sD q]at k;have lj:H' a=some (.bK xs):=(k a (by simp)).trans q;obtain⟨au,bh⟩:=c1.keep (fun b hb=>k b (List.mem_cons_of_mem _ hb)) r;exact⟨by simp only[dN];exact⟨a,xs,rfl,lj,n,au⟩,by rw[sD lj,sD q,bh]⟩
 |.ins _ _ _,_,k,h=>by simp only[dN]at h;obtain⟨a,a5,xs,rfl,⟨C,bN,q⟩,n,r⟩:=h;rw[sE q]at k;have lj:H' a=some (.ins C a5 xs):=(k a (by simp)).trans q;obtain⟨au,bh⟩:=c1.keep (fun b hb=>k b (List.mem_cons_of_mem _ hb)) r;exact⟨by simp only[dN];exact⟨a,a5,xs,rfl,⟨C,bN,lj⟩,n,au⟩,by rw[sE lj,sE q,bh]⟩
theorem c1.keep:∀{bS:List T}{vs:List V},(∀b∈g4 H bS vs,H' b=H b)→c1 K G H bS vs→c1 K G H' bS vs∧g4 H' bS vs=g4 H bS vs
 |[],_,_,h=>⟨by simpa only[c1]using h,by simp only[g4]⟩
 |_::_,_,k,h=>by simp only[c1]at h;obtain⟨v,r,rfl,q,t⟩:=h;rw[sA]at k;obtain⟨aS,bl⟩:=dN.keep (fun b hb=>k b (List.mem_append_left _ hb)) q;obtain⟨t1,b2⟩:=c1.keep (fun b hb=>k b (List.mem_append_right _ hb)) t;exact⟨by simp only[c1];exact⟨v,r,rfl,aS,t1⟩,by rw[sA,sA,bl,b2]⟩
end
mutual
theorem dN.some:∀{t:T}{v:V},dN K G H t v→∀b∈a6 H t v,H b≠none
 |.ak _,_,_=>by intro b hb;simp[a6]at hb
 |.lst _,_,h=>by
  simp only[dN]at h;obtain⟨a,xs,rfl,q,r⟩:=h;rw[sF q];intro b hb;rcases List.mem_cons.mp hb with rfl|hb
  ·rw[q];exact fun z=>nomatch z
  ·exact c1.some r b hb
 |.dm _ _,_,h=>by
  simp only[dN]at h;obtain⟨a,xs,rfl,q,n,r⟩:=h;rw[sC q];intro b hb;rcases List.mem_cons.mp hb with rfl|hb
  ·rw[q];exact fun z=>nomatch z
  ·exact c1.some r b hb
 |.bK _ _,_,h=>by
  simp only[dN]at h;obtain⟨a,xs,rfl,q,n,r⟩:=h;rw[sD q];intro b hb;rcases List.mem_cons.mp hb with rfl|hb
  ·rw[q];exact fun z=>nomatch z
  ·exact c1.some r b hb
 |.ins _ _ _,_,h=>by
  simp only[dN]at h;obtain⟨a,a5,xs,rfl,⟨C,bN,q⟩,n,r⟩:=h;rw[sE q];intro b hb;rcases List.mem_cons.mp hb with rfl|hb
  ·rw[q];exact fun z=>nomatch z
  ·exact c1.some r b hb
theorem c1.some:∀{bS:List T}{vs:List V},c1 K G H bS vs→∀b∈g4 H bS vs,H b≠none
 |[],_,_=>by intro b hb;simp[g4]at hb
 |_::_,_,h=>by
  simp only[c1]at h;obtain⟨v,r,rfl,q,t⟩:=h;rw[sA];intro b hb;rcases List.mem_append.mp hb with hb|hb
  ·exact dN.some q b hb
  ·exact c1.some t b hb
end
mutual
theorem dN.view(aY:Sub G P):∀{t:T}{v:V},(∀a∈a6 H t v,P a=H a)→dN K G H t v→At K P (toD t) v
 |.ak _,_,_,h=>by simp only[dN,toD]at h ⊢;exact h.mono aY
 |.lst _,_,k,h=>by simp only[dN]at h;obtain⟨a,xs,rfl,q,r⟩:=h;rw[sF q]at k;simp only[toD,At];exact⟨a,xs,rfl,by rw[k a (by simp)];exact q,c1.view aY (fun b hb=>k b (List.mem_cons_of_mem _ hb)) r⟩
 |.dm _ _,_,k,h=>by simp only[dN]at h;obtain⟨a,xs,rfl,q,n,r⟩:=h;rw[sC q]at k;simp only[toD,At];exact⟨a,xs,rfl,by rw[k a (by simp)];exact q,n,c1.view aY (fun b hb=>k b (List.mem_cons_of_mem _ hb)) r⟩
 |.bK _ _,_,k,h=>by simp only[dN]at h;obtain⟨a,xs,rfl,q,n,r⟩:=h;rw[sD q]at k;simp only[toD,At];exact⟨a,xs,rfl,by rw[k a (by simp)];exact q,n,c1.view aY (fun b hb=>k b (List.mem_cons_of_mem _ hb)) r⟩
 |.ins _ _ _,_,k,h=>by simp only[dN]at h;obtain⟨a,a5,xs,rfl,⟨C,bN,q⟩,n,r⟩:=h;rw[sE q]at k;simp only[toD,At];exact⟨a,a5,xs,rfl,⟨C,bN,by rw[k a (by simp)];exact q⟩,n,c1.view aY (fun b hb=>k b (List.mem_cons_of_mem _ hb)) r⟩
theorem c1.view(aY:Sub G P):∀{bS:List T}{vs:List V},(∀a∈g4 H bS vs,P a=H a)→c1 K G H bS vs→aL K P (oz bS) vs
 |[],_,_,h=>by simp only[c1,oz,aL]at h ⊢;exact h
 |_::_,_,k,h=>by simp only[c1]at h;obtain⟨v,r,rfl,q,t⟩:=h;rw[sA]at k;simp only[oz,aL];exact⟨v,r,rfl,dN.view aY (fun b hb=>k b (List.mem_append_left _ hb)) q,c1.view aY (fun b hb=>k b (List.mem_append_right _ hb)) t⟩
end
end
inductive kL where
 |lst (ds:List D)|bK (aH:List (List Key)) (ds:List D)|ins (c:Str) (ns:List Str) (ds:List D)
noncomputable def mu(K:PySem.W.Frag)(G:ai):kL→dK→Prop
 |.lst ds,ho=>∃xs,ho=.lst xs∧aL K G ds xs
 |.bK aH ds,ho=>∃xs,ho=.bK xs∧xs.map (·.1)=aH∧aL K G ds (xs.map (·.2))
 |.ins c ns ds,ho=>∃C a5 xs,f9 K c C∧ho=.ins C a5 xs∧xs.map (·.1)=ns∧aL K G ds (xs.map (·.2))
theorem mu.mono{K:PySem.W.Frag}{G H:ai}(s:Sub G H):∀{o:kL}{ho:dK},mu K G o ho→mu K H o ho
 |.lst _,_,⟨xs,e,q⟩=>⟨xs,e,q.mono s⟩
 |.bK _ _,_,⟨xs,e,k,q⟩=>⟨xs,e,k,q.mono s⟩
 |.ins _ _ _,_,⟨C,a5,xs,c,e,k,q⟩=>⟨C,a5,xs,c,e,k,q.mono s⟩
def mV:kL→D
 |.lst ds=>.lst ds
 |.bK aH ds=>.bK aH ds
 |.ins c ns ds=>.ins c ns ds
theorem mu.at{K:PySem.W.Frag}{G:ai}{o:kL}{ho:dK}{a:Addr}(h:mu K G o ho)(e:G a=some ho):At K G (mV o) (.ref a):=by
 cases o with
 |lst ds=>obtain⟨xs,rfl,q⟩:=h;simp only[mV,At];exact⟨a,xs,rfl,e,q⟩
 |bK aH ds=>obtain⟨xs,rfl,k,q⟩:=h;simp only[mV,At];exact⟨a,xs,rfl,e,k,q⟩
 |ins c ns ds=>obtain⟨C,a5,xs,bN,rfl,k,q⟩:=h;simp only[mV,At];exact⟨a,a5,xs,rfl,⟨C,bN,e⟩,k,q⟩
inductive cO where
 |un|ak (d:D)|a4 (o:kL)|eA (t:T)
abbrev cO.cE(ds:List D):cO:=.a4 (.lst ds)
abbrev ao:=List cO
structure bt where
 K:PySem.W.Frag
 bY:ai
 bB:ai
 gS:Str→ai→Prop
structure eL(F:bt)(G H:ai):Prop where
 sub:Sub G H
 fy:Sub F.bY G
 hh:Sub F.bB H
 new:∀b,F.bB b≠none→G b=F.bY b
structure uD(F:bt)(G H:ai)(t:T)(v:V):Prop where
 at_:dN F.K G H t v
 aU:(a6 H t v).Nodup
 own:∀b∈a6 H t v,G b=none∧F.bB b=none
noncomputable def lI(F:bt)(G H:ai)(o:Option V):cO→Prop
 |.un=>True
 |.ak d=>∃v,o=some v∧At F.K G d v
 |.a4 a4=>∃a ho,o=some (.ref a)∧H a=some ho∧G a=none∧F.bB a=none∧mu F.K G a4 ho
 |.eA t=>∃v,o=some v∧uD F G H t v
noncomputable def gd(H:ai):cO→Option V→Addr→Prop
 |.un,_,_=>False
 |.ak _,_,_=>False
 |.a4 _,o,a=>o=some (.ref a)
 |.eA t,o,a=>∃v,o=some v∧a∈a6 H t v
structure Rel(F:bt)(G H:ai)(σ :St)(ρ:ao):Prop where
 aK:eL F G H
 len: σ.length=ρ.length
 cF:∀(i:Nat)(s:cO),ρ[i]?=some s→∃o,σ[i]?=some o∧lI F G H o s
 o5:∀(i j:Nat)(a:Addr)(s s':cO)(o bJ:Option V),ρ[i]?=some s→ρ[j]?=some s'→ σ[i]?=some o→ σ[j]?=some bJ→gd H s o a→gd H s' bJ a→i=j
noncomputable def dM(H:ai)(σ :St)(ρ:ao)(a:Addr):Prop:=∃(i:Nat)(s:cO)(o:Option V),ρ[i]?=some s∧ σ[i]?=some o∧gd H s o a
theorem Jc{α:Type}{l:List α}{i:Nat}{x:α}(e:l[i]?=some x):l.set i x=l:=by
 apply List.ext_getElem?;intro j;rw[List.getElem?_set];by_cases h:i=j
 ·subst h;rw[if_pos rfl,if_pos (List.getElem?_eq_some_iff.mp e).1];exact e.symm
 ·simp[h]
section
variable{F:bt}{G G' H H':ai}{σ :St}{ρ:ao}
theorem dM.a4{a:Addr}{i:Nat}{o:kL}(aq:ρ[i]?=some (.a4 o))(az: σ[i]?=some (some (.ref a))):dM H σ ρ a:=⟨i,_,_,aq,az,rfl⟩
theorem lI.keep{o:Option V}{s:cO}(h:lI F G H o s)(aY:Sub G G')(k:∀a,gd H s o a→H' a=H a∧G' a=none):lI F G' H' o s∧(∀a,gd H' s o a→gd H s o a):=by
 cases s with
 |un=>exact⟨trivial,fun _ z=>z⟩
 |ak d=>obtain⟨v,az,a⟩:=h;exact⟨⟨v,az,a.mono aY⟩,fun _ z=>z⟩
 |a4 ds=>obtain⟨a,xs,az,h1,h2,h3,h4⟩:=h;exact⟨⟨a,xs,az,by rw[(k a az).1];exact h1,(k a az).2,h3,h4.mono aY⟩,fun _ z=>z⟩
 |eA t=>
  obtain⟨v,az,aS,bl,dw⟩:=h;obtain⟨lz,jq⟩:=aS.keep fun b hb=>(k b ⟨v,az,hb⟩).1;refine⟨⟨v,az,⟨lz.mono aY,by rw[jq];exact bl,fun b hb=>?_⟩⟩,fun a z=>?_⟩
  ·rw[jq]at hb;exact⟨(k b ⟨v,az,hb⟩).2,(dw b hb).2⟩
  ·obtain⟨u,b7,hb⟩:=z;rw[az]at b7;cases b7;rw[jq]at hb;exact⟨v,az,hb⟩
theorem lI.foot{o:Option V}{s:cO}(h:lI F G H o s){a:Addr}(f:gd H s o a):H a≠none∧G a=none∧F.bB a=none:=by
 cases s with
 |un=>exact f.elim
 |ak d=>exact f.elim
 |a4 ds=>obtain⟨b,xs,az,h1,h2,h3,h4⟩:=h;have f:o=some (.ref a):=f;rw[az]at f;cases f;exact⟨by rw[h1];exact(fun z=>nomatch z),h2,h3⟩
 |eA t=>obtain⟨v,az,aS,bl,dw⟩:=h;obtain⟨u,b7,hb⟩:=f;rw[az]at b7;cases b7;exact⟨aS.some a hb,dw a hb⟩
theorem Rel.foot(r:Rel F G H σ ρ){a:Addr}(h:dM H σ ρ a):H a≠none∧G a=none∧F.bB a=none:=by obtain⟨i,s,o,aq,az,f⟩:=h;obtain⟨bJ,b7,q⟩:=r.cF i s aq;rw[az]at b7;cases b7;exact q.foot f
theorem Rel.over{F':bt}(r:Rel F G H σ ρ)(hK:F'.K=F.K)(aK:eL F' G' H')(aY:Sub G G')(k:∀a,dM H σ ρ a→H' a=H a∧G' a=none∧F'.bB a=none):Rel F' G' H' σ ρ:=by
 have one:∀(i:Nat)(s:cO),ρ[i]?=some s→∃o,σ[i]?=some o∧lI F' G' H' o s∧(∀a,gd H' s o a→gd H s o a):=fun i s e=>by
  obtain⟨o,aq,q⟩:=r.cF i s e;obtain⟨aS,bl⟩:=q.keep aY fun a f=>⟨(k a ⟨i,s,o,e,aq,f⟩).1,(k a ⟨i,s,o,e,aq,f⟩).2.1⟩;refine⟨o,aq,?_,bl⟩;cases s with
  |un=>trivial
  |ak d=>obtain⟨v,az,a⟩:=aS;exact⟨v,az,by rw[hK];exact a⟩
  |a4 ds=>obtain⟨a,xs,az,h1,h2,h3,h4⟩:=aS;exact⟨a,xs,az,h1,h2,(k a ⟨i,_,o,e,aq,az⟩).2.2,by rw[hK];exact h4⟩
  |eA t=>obtain⟨v,az,lz,jq,ng⟩:=aS;exact⟨v,az,by rw[hK];exact lz,jq,fun b hb=>⟨(ng b hb).1,(k b ⟨i,_,o,e,aq,bl b ⟨v,az,hb⟩⟩).2.2⟩⟩
 refine⟨aK,r.len,fun i s e=>let⟨o,aq,q,_⟩:=one i s e;⟨o,aq,q⟩,fun i j a s s' o bJ aq az b7 eu f1 f2=>?_⟩;obtain⟨u,bg,_,aZ⟩:=one i s aq;rw[b7]at bg;cases bg;obtain⟨u,ju,_,nq⟩:=one j s' az;rw[eu]at ju;cases ju;exact r.o5 i j a s s' o bJ aq az b7 eu (aZ a f1) (nq a f2)
theorem Rel.grow(r:Rel F G H σ ρ)(aY:Sub G G')(W6:Sub G' H')(hh:Sub H H')(nw:∀b,H b≠none→G' b=G b):Rel F G' H' σ ρ:=by
 refine r.over rfl ⟨W6,r.aK.fy.trans aY,r.aK.hh.trans hh,fun b hb=>?_⟩ aY fun a ha=>?_
 ·rw[nw b (r.aK.hh.some hb)];exact r.aK.new b hb
 ·obtain⟨h1,h2,h3⟩:=r.foot ha;refine⟨?_,(nw a h1).trans h2,h3⟩;cases e:H a with
  |none=>exact absurd e h1
  |some o=>exact hh a o e
theorem Rel.lay(r:Rel F G H σ ρ){p:Addr}{o:dK}(hp:H p=none):Rel F (upd G p o) (upd H p o) σ ρ:=by have Ow:G p=none:=r.aK.sub.gone hp;refine r.grow (Sub.upd Ow) (Sub.both r.aK.sub) (Sub.upd hp) fun b hb=>?_;rw[dJ];intro e;subst e;exact hb hp
theorem Rel.lay0(r:Rel F G H σ ρ){p:Addr}{o:dK}(hp:H p=none):Rel F G (upd H p o) σ ρ:=
 r.grow (Sub.refl _) (Sub.w9 r.aK.sub (r.aK.sub.gone hp)) (Sub.upd hp) fun _ _=>rfl
theorem Rel.take(r:Rel F G H σ ρ){p:Addr}{o:dK}(hp:H p=some o)(hg:G p=none)(h0:F.bB p=none)(no:¬dM H σ ρ p):Rel F (upd G p o) H σ ρ:=by
 refine r.over rfl ⟨Sub.at r.aK.sub hp,r.aK.fy.trans (Sub.upd hg),r.aK.hh,fun b hb=>?_⟩ (Sub.upd hg) fun a ha=>?_
 ·rw[dJ]
  ·exact r.aK.new b hb
  ·intro e;subst e;exact hb h0
 ·obtain⟨h1,h2,h3⟩:=r.foot ha;exact⟨rfl,by rw[dJ (fun z=>no (by rw[←z];exact ha))];exact h2,h3⟩
theorem Rel.ak(r:Rel F G H σ ρ){i:Nat}{d:D}(e:ρ[i]?=some (.ak d)):∃v,σ[i]?=some (some v)∧At F.K G d v:=by obtain⟨o,aq,v,rfl,a⟩:=r.cF i _ e;exact⟨v,aq,a⟩
theorem Rel.obj(r:Rel F G H σ ρ){i:Nat}{o:kL}(e:ρ[i]?=some (.a4 o)):∃a ho,σ[i]?=some (some (.ref a))∧H a=some ho∧G a=none∧F.bB a=none∧mu F.K G o ho:=by obtain⟨v,aq,a,ho,rfl,h1,h2,h3,h4⟩:=r.cF i _ e;exact⟨a,ho,aq,h1,h2,h3,h4⟩
theorem Rel.own{G H:ai}{σ :St}{ρ:ao}(r:Rel F G H σ ρ){i:Nat}{ds:List D}(e:ρ[i]?=some (.cE ds)):∃a xs,σ[i]?=some (some (.ref a))∧H a=some (.lst xs)∧G a=none∧F.bB a=none∧aL F.K G ds xs:=by obtain⟨a,ho,aq,h1,h2,h3,xs,rfl,h4⟩:=r.obj e;exact⟨a,xs,aq,h1,h2,h3,h4⟩
theorem get_set{α:Type}{l:List α}{i j:Nat}{x y:α}(e:(l.set i x)[j]?=some y):(i=j∧y=x)∨(i≠j∧l[j]?=some y):=by
 rw[List.getElem?_set]at e;by_cases h:i=j
 ·rw[if_pos h]at e
  split at e
  ·cases e;exact .inl ⟨h,rfl⟩
  ·cases e
 ·rw[if_neg h]at e;exact .inr ⟨h,e⟩
theorem Rel.wK(r:Rel F G H σ ρ){i:Nat}{s:cO}{o:Option V}(hi:i<ρ.length)(q:lI F G H o s)(no:∀a,gd H s o a→∀(j:Nat)(s':cO)(bJ:Option V),j≠i→ρ[j]?=some s'→ σ[j]?=some bJ→¬gd H s' bJ a):Rel F G H (σ.set i o) (ρ.set i s):=by
 have hs:i< σ.length:=by rw[r.len];exact hi
 refine⟨r.aK,by simp[r.len],fun j s e=>?_,fun j k b s1 s2 cA b3 aq az b7 eu f1 f2=>?_⟩
 ·rcases get_set e with⟨rfl,rfl⟩|⟨ne,e⟩
  ·exact⟨o,by simp[hs],q⟩
  ·rw[List.getElem?_set_ne ne];exact r.cF j s e
 ·rcases get_set aq with⟨bk,bg⟩|⟨da,fD⟩
  ·subst bk bg;rw[List.getElem?_set_self hs]at b7;cases b7;rcases get_set az with⟨bz,aZ⟩|⟨c2,f7⟩
   ·exact bz
   ·rw[List.getElem?_set_ne c2]at eu;exact absurd f2 (no b f1 k s2 b3 (Ne.symm c2) f7 eu)
  ·rw[List.getElem?_set_ne da]at b7;rcases get_set az with⟨bz,aZ⟩|⟨c2,f7⟩
   ·subst bz aZ;rw[List.getElem?_set_self hs]at eu;cases eu;exact absurd f1 (no b f2 j s1 cA (Ne.symm da) fD b7)
   ·rw[List.getElem?_set_ne c2]at eu;exact r.o5 j k b s1 s2 cA b3 fD f7 b7 eu f1 f2
theorem Rel.set(r:Rel F G H σ ρ){i:Nat}{d:D}{v:V}(hi:i<ρ.length)(a:At F.K G d v):Rel F G H (σ.set i (some v)) (ρ.set i (.ak d)):=
 r.wK hi ⟨v,rfl,a⟩ fun _ f=>f.elim
theorem Rel.setB(r:Rel F G H σ ρ){i:Nat}{a4:kL}{a:Addr}{ho:dK}(hi:i<ρ.length)(ha:H a=some ho)(hg:G a=none)(h0:F.bB a=none)(q:mu F.K G a4 ho)(no:∀(j:Nat)(s:cO)(o:Option V),j≠i→ρ[j]?=some s→ σ[j]?=some o→¬gd H s o a):Rel F G H (σ.set i (some (.ref a))) (ρ.set i (.a4 a4)):=
 r.wK hi ⟨a,ho,rfl,ha,hg,h0,q⟩ fun b f=>by have f:some (V.ref a)=some (.ref b):=f;cases f;exact no
theorem Rel.WZ(r:Rel F G H σ ρ){i:Nat}{ds:List D}{a:Addr}{xs:List V}(hi:i<ρ.length)(ha:H a=some (.lst xs))(hg:G a=none)(h0:F.bB a=none)(q:aL F.K G ds xs)(no:∀(j:Nat)(s:cO)(o:Option V),j≠i→ρ[j]?=some s→ σ[j]?=some o→¬gd H s o a):Rel F G H (σ.set i (some (.ref a))) (ρ.set i (.cE ds)):=r.setB hi ha hg h0 ⟨xs,rfl,q⟩ no
theorem Rel.SY(r:Rel F G H σ ρ){i:Nat}{s s':cO}{o:Option V}{a:Addr}{ho:dK}(e:ρ[i]?=some s)(av: σ[i]?=some o)(fI:gd H s o a)(q:lI F G (upd H a ho) o s')(f:∀b,gd (upd H a ho) s' o b→gd H s o b∨¬dM H σ ρ b) :
  Rel F G (upd H a ho) σ (ρ.set i s'):=by
 have hi:i<ρ.length:=(List.getElem?_eq_some_iff.mp e).1;obtain⟨h1,h2,h3⟩:=r.foot ⟨i,s,o,e,av,fI⟩;have wh:∀(j:Nat)(t:cO),i≠j→ρ[j]?=some t→∃u,σ[j]?=some u∧lI F G (upd H a ho) u t∧(∀b,gd (upd H a ho) t u b→gd H t u b):=fun j t ne z=>by obtain⟨u,bg,aZ⟩:=r.cF j t z;have na:¬gd H t u a:=fun w=>ne (r.o5 i j a s t o u e z av bg fI w);obtain⟨aS,bl⟩:=aZ.keep (H':=upd H a ho) (Sub.refl G) fun b sz=>⟨dJ fun w=>na (w▸sz),(aZ.foot sz).2.1⟩;exact⟨u,bg,aS,bl⟩
 refine⟨⟨Sub.w9 r.aK.sub h2,r.aK.fy,fun c u z=>?_,r.aK.new⟩,by simp[r.len],fun j t z=>?_,fun j k c s1 s2 cA b3 b7 eu gZ jF f1 f2=>?_⟩
 ·rw[dJ (jk z h3)];exact r.aK.hh c u z
 ·rcases get_set z with⟨rfl,rfl⟩|⟨ne,z⟩
  ·exact⟨o,av,q⟩
  ·obtain⟨u,bg,aZ,_⟩:=wh j t ne z;exact⟨u,bg,aZ⟩
 ·rcases get_set b7 with⟨bk,bg⟩|⟨da,qd⟩
  ·subst bk bg;rw[av]at gZ;cases gZ;rcases get_set eu with⟨bz,aZ⟩|⟨c2,oC⟩
   ·exact bz
   ·obtain⟨u,fD,_,f7⟩:=wh k s2 c2 oC;rw[jF]at fD;cases fD;have g2:=f7 c f2;rcases f c f1 with g1|g1
    ·exact r.o5 i k c s s2 o b3 e oC av jF g1 g2
    ·exact absurd ⟨k,s2,b3,oC,jF,g2⟩ g1
  ·obtain⟨u,fD,_,f7⟩:=wh j s1 da qd;rw[gZ]at fD;cases fD;have g1:=f7 c f1;rcases get_set eu with⟨bz,aZ⟩|⟨c2,oC⟩
   ·subst bz aZ;rw[av]at jF;cases jF;rcases f c f2 with g2|g2
    ·exact r.o5 j i c s1 s cA o qd e gZ av g1 g2
    ·exact absurd ⟨j,s1,cA,qd,gZ,g1⟩ g2
   ·obtain⟨u,hn,_,ix⟩:=wh k s2 c2 oC;rw[jF]at hn;cases hn;exact r.o5 j k c s1 s2 cA b3 qd oC gZ jF g1 (ix c f2)
theorem Rel.Ai(r:Rel F G H σ ρ){i:Nat}{o bJ:kL}{a:Addr}{ho:dK}(e:ρ[i]?=some (.a4 o))(av: σ[i]?=some (some (.ref a)))(q:mu F.K G bJ ho) :
  Rel F G (upd H a ho) σ (ρ.set i (.a4 bJ)):=by
 obtain⟨b,aau,aq,h1,h2,h3,h4⟩:=r.obj e;rw[av]at aq;have bb:b=a:=by cases aq;rfl
 subst bb;exact r.SY e av rfl ⟨b,ho,rfl,eB,h2,h3,q⟩ fun c f=>.inl f
theorem Rel.mut(r:Rel F G H σ ρ){i:Nat}{ds o7:List D}{a:Addr}{ys:List V}(e:ρ[i]?=some (.cE ds))(av: σ[i]?=some (some (.ref a)))(q:aL F.K G o7 ys) :
  Rel F G (upd H a (.lst ys)) σ (ρ.set i (.cE o7)):=r.Ai e av ⟨ys,rfl,q⟩
theorem Rel.jG(r:Rel F G H σ ρ){i:Nat}{o:kL}(e:ρ[i]?=some (.a4 o)):∃G',Rel F G' H σ (ρ.set i (.ak (mV o)))∧Sub G G':=by
 have hi:i<ρ.length:=(List.getElem?_eq_some_iff.mp e).1;obtain⟨a,ho,aq,h1,h2,h3,h4⟩:=r.obj e;have un:Rel F G H σ (ρ.set i .un):=by have z:=r.wK (s:=.un) (o:=some (.ref a)) hi trivial fun _ f=>f.elim;rw[aB.Jc aq]at z;exact z
 have no:¬dM H σ (ρ.set i .un) a:=fun⟨j,s,u,fD,f7,hn⟩=>by
  rcases get_set fD with⟨_,z⟩|⟨ne,fD⟩
  ·subst z;exact hn
  ·exact ne (r.o5 i j a _ s _ u e fD aq f7 rfl hn)
 have bh:=un.take h1 h2 h3 no;have dX:=bh.wK (i:=i) (s:=.ak (mV o)) (o:=some (.ref a)) (by simpa using hi) ⟨.ref a,rfl,(h4.mono (Sub.upd h2)).at eB⟩ fun _ f=>f.elim;rw[aB.Jc aq,List.set_set]at dX;exact⟨upd G a ho,dX,Sub.upd h2⟩
end
abbrev aD:=ao→R D
abbrev b4:=ao→R Bool
abbrev aP:=ao→R (List D)
inductive e4 where
 |bq (ρ:ao)|dH (d:D)|jl (ds:List D)|fG (ρ:ao)|cK (ρ:ao)|d4 (t:T)
abbrev a0:=ao→R e4
def km(F:bt)(c:Str):Prop:=∀G' H',eL F G' H'→F.gS c H'
noncomputable def ik(F:bt)(G H:ai)(σ :St)(ρ:ao)(Q:cP):R D→Prop
 |.ok d=>∀v H' G',Rel F G' H' σ ρ→cb G H G' H'→At F.K G' d v→Q v H'
 |.exc c=>km F c
 |.bad=>False
noncomputable def q4(F:bt)(G H:ai)(σ :St)(ρ:ao)(Q:Bool→ai→Prop):R Bool→Prop
 |.ok b=>∀H' G',Rel F G' H' σ ρ→cb G H G' H'→Q b H'
 |.exc c=>km F c
 |.bad=>False
noncomputable def Q2(F:bt)(G H:ai)(σ :St)(ρ:ao)(Q:List V→ai→Prop):R (List D)→Prop
 |.ok ds=>∀vs H' G',Rel F G' H' σ ρ→cb G H G' H'→aL F.K G' ds vs→Q vs H'
 |.exc c=>km F c
 |.bad=>False
noncomputable def Q8(F:bt)(G H:ai)(σ :St)(ρ:ao)(Q:cP):R (List D)→Prop
 |.ok ds=>∀a xs H' G',Rel F G' H' σ ρ→cb G H G' H'→H a=none→H' a=some (.lst xs)→G' a=none→aL F.K G' ds xs→Q (.ref a) H'
 |.exc c=>km F c
 |.bad=>False
noncomputable def hT(F:bt)(G:ai)(cJ:Ends):R e4→Prop
 |.ok (.bq bo)=>∀ σ' G' H',Rel F G' H' σ' bo→Sub G G'→cJ.bq σ' H'
 |.ok (.fG bo)=>∀ σ' G' H',Rel F G' H' σ' bo→Sub G G'→cJ.fG σ' H'
 |.ok (.cK bo)=>∀ σ' G' H',Rel F G' H' σ' bo→Sub G G'→cJ.cK σ' H'
 |.ok (.dH d)=>∀v G' H',eL F G' H'→At F.K G' d v→cJ.dH v H'
 |.ok (.jl ds)=>∀a xs G' H',eL F G' H'→G' a=none→F.bB a=none→H' a=some (.lst xs)→aL F.K G' ds xs→cJ.dH (.ref a) H'
 |.ok (.d4 t)=>∀v G' H',eL F G' H'→uD F G' H' t v→cJ.dH v H'
 |.exc c=>km F c
 |.bad=>False
def cW(F:bt)(m:aD):TE:=fun σ H Q=>∃G ρ,Rel F G H σ ρ∧ik F G H σ ρ Q (m ρ)
def fL(F:bt)(m:b4):TT:=fun σ H Q=>∃G ρ,Rel F G H σ ρ∧q4 F G H σ ρ Q (m ρ)
def ei(F:bt)(m:aP):er:=fun σ H Q=>∃G ρ,Rel F G H σ ρ∧Q2 F G H σ ρ Q (m ρ)
def j0(F:bt)(m:aP):TE:=fun σ H Q=>∃G ρ,Rel F G H σ ρ∧Q8 F G H σ ρ Q (m ρ)
def fp(F:bt)(m:a0):eM:=fun cJ σ H=>∃G ρ,Rel F G H σ ρ∧hT F G cJ (m ρ)
section
variable{F:bt}{G aT H H1:ai}{σ :St}{ρ:ao}
theorem ik.mono{Q:cP}(s:cb G H aT H1):∀{r:R D},ik F G H σ ρ Q r→ik F aT H1 σ ρ Q r
 |.ok _,h=>fun v H' G' r aY a=>h v H' G' r (s.trans aY) a
 |.exc _,h=>h
 |.bad,h=>h
theorem q4.mono{Q:Bool→ai→Prop}(s:cb G H aT H1):∀{r:R Bool},q4 F G H σ ρ Q r→q4 F aT H1 σ ρ Q r
 |.ok _,h=>fun H' G' r aY=>h H' G' r (s.trans aY)
 |.exc _,h=>h
 |.bad,h=>h
theorem hT.mono{cJ:Ends}(s:Sub G aT):∀{r:R e4},hT F G cJ r→hT F aT cJ r
 |.ok (.bq _),h=>fun σ' G' H' r aY=>h σ' G' H' r (s.trans aY)
 |.ok (.fG _),h=>fun σ' G' H' r aY=>h σ' G' H' r (s.trans aY)
 |.ok (.cK _),h=>fun σ' G' H' r aY=>h σ' G' H' r (s.trans aY)
 |.ok (.dH _),h=>h
 |.ok (.jl _),h=>h
 |.ok (.d4 _),h=>h
 |.exc _,h=>h
 |.bad,h=>h
end
abbrev eK(t' t:TE):Prop:=∀ σ H Q,t' σ H Q→t σ H Q
abbrev mn(t' t:TT):Prop:=∀ σ H Q,t' σ H Q→t σ H Q
abbrev qy(t' t:er):Prop:=∀ σ H Q,t' σ H Q→t σ H Q
abbrev hz(t' t:eM):Prop:=∀cJ σ H,t' cJ σ H→t cJ σ H
def J(i:Nat):aD:=fun ρ=>match ρ[i]? with
 |some (.ak d)=>.ok d
 |_=>.bad
def aj(d:D):aD:=fun _=>.ok d
section
variable{F:bt}
theorem Qv(i:Nat):eK (cW F (J i)) (Cf i):=by
 rintro σ H Q ⟨G,ρ,r,h⟩;unfold J at h;cases e:ρ[i]? with
 |none=>rw[e]at h;exact h.elim
 |some s=>
  rw[e]at h;cases s with
  |un=>exact h.elim
  |a4 _=>exact h.elim
  |eA _=>exact h.elim
  |ak d=>obtain⟨v,aq,a⟩:=r.ak e;exact⟨v,aq,h v H G r (cb.refl _ _) a⟩
theorem sX{d:D}{v:V}(a:∀G,At F.K G d v):eK (cW F (aj d)) (p6 v):=by rintro σ H Q ⟨G,ρ,r,h⟩;exact h v H G r (cb.refl _ _) (a G)
def ag(f:D→D→R D)(a b:aD):aD:=fun ρ=>(a ρ).bind fun x=>(b ρ).bind fun y=>f x y
noncomputable def fQ(F:bt)(r:ep)(f:D→D→R D):Prop:=∀ σ ρ G H x y a5 fx Q,Rel F G H σ ρ→At F.K G a5 x→At F.K G fx y→ik F G H σ ρ Q (f a5 fx)→r x y H Q
theorem vA{r:ep}{f:D→D→R D}{ma fC:aD}(ho:fQ F r f):eK (cW F (ag f ma fC)) (t6 r (cW F ma) (cW F fC)):=by
 rintro σ H Q ⟨G,ρ,r,h⟩;unfold ag at h;refine⟨G,ρ,r,?_⟩;cases av:ma ρ with
 |bad=>rw[av]at h;exact h.elim
 |exc c=>rw[av]at h;exact h
 |ok a5=>
  rw[av,R.bE]at h;intro x H1 aT au s1 bT;refine⟨aT,ρ,au,?_⟩;cases bb:fC ρ with
  |bad=>rw[bb]at h;exact h.elim
  |exc c=>rw[bb]at h;exact h
  |ok fx=>rw[bb,R.bE]at h;intro y a9 dj bh s2 cH;exact ho σ ρ dj a9 x y a5 fx Q bh (bT.mono s2.g) cH (h.mono (s1.trans s2))
def dC(f:D→R D)(a:aD):aD:=fun ρ=>(a ρ).bind f
def ar:aP:=fun _=>.ok []
def ae(a:aD)(r:aP):aP:=fun ρ=>(a ρ).bind fun x=>(r ρ).bind fun xs=>.ok (x::xs)
theorem GO:qy (ei F ar) w2:=by rintro σ H Q ⟨G,ρ,r,h⟩;exact h [] H G r (cb.refl _ _) .nil
theorem PS{ma:aD}{pP:aP}:qy (ei F (ae ma pP)) (B9 (cW F ma) (ei F pP)):=by
 rintro σ H Q ⟨G,ρ,r,h⟩;unfold ae at h;refine⟨G,ρ,r,?_⟩;cases av:ma ρ with
 |bad=>rw[av]at h;exact h.elim
 |exc c=>rw[av]at h;exact h
 |ok a5=>
  rw[av,R.bE]at h;intro x H1 aT au s1 bT;refine⟨aT,ρ,au,?_⟩;cases bb:pP ρ with
  |bad=>rw[bb]at h;exact h.elim
  |exc c=>rw[bb]at h;exact h
  |ok fx=>rw[bb,R.bE]at h;intro y a9 dj bh s2 cH;exact h (x::y) a9 dj bh (s1.trans s2) (.cons (bT.mono s2.g) cH)
def cD(m:aP):aD:=fun ρ=>(m ρ).bind fun xs=>if xs.length≤1000000 then .ok (.tup xs)else .bad
theorem Qs{m:aP}:eK (cW F (cD m)) (Ce (ei F m)):=by
 rintro σ H Q ⟨G,ρ,r,h⟩;unfold cD at h;refine⟨G,ρ,r,?_⟩;cases av:m ρ with
 |bad=>rw[av]at h;exact h.elim
 |exc c=>rw[av]at h;exact h
 |ok ds=>
  rw[av,R.bE]at h;intro vs H1 aT au s1 a;by_cases hl:ds.length≤1000000
  ·rw[if_pos hl]at h;refine⟨by rw[←a.length];exact Nat.le_trans hl (by decide),fun p hp=>?_⟩;refine h (.ref p) _ _ (au.lay hp) (s1.trans (cb.lay au.aK.sub hp)) ?_;simp only[At];exact⟨p,vs,rfl,eB,a.mono (Sub.upd (au.aK.sub.gone hp))⟩
  ·rw[if_neg hl]at h;exact h.elim
theorem dM.back{G H H':ai}{σ :St}{ρ:ao}(r:Rel F G H σ ρ)(s:Sub H H'){a:Addr}(h:dM H' σ ρ a):dM H σ ρ a:=by
 obtain⟨i,cF,o,aq,az,f⟩:=h;refine⟨i,cF,o,aq,az,?_⟩;obtain⟨bJ,b7,q⟩:=r.cF i cF aq;rw[az]at b7;cases b7;exact(q.keep (G':=G) (H':=H') (Sub.refl _) fun b sz=>⟨by
  cases e:H b with
  |none=>exact absurd e (q.foot sz).1
  |some u=>exact s b u e,(q.foot sz).2.1⟩).2 a f
theorem dM.fresh{G H H':ai}{σ :St}{ρ:ao}(r:Rel F G H σ ρ)(s:Sub H H'){a:Addr}(n:H a=none):¬dM H' σ ρ a:=fun h=>(r.foot (h.back r s)).1 n
def lim(xs:List D):R (List D):=if xs.length≤1000000 then .ok xs else .bad
def dz(m:aP):aP:=fun ρ=>(m ρ).bind lim
theorem P9{m:aP}:eK (j0 F (dz m)) (JI (ei F m)):=by
 rintro σ H Q ⟨G,ρ,r,h⟩;unfold dz lim at h;refine⟨G,ρ,r,?_⟩;cases av:m ρ with
 |bad=>rw[av]at h;exact h.elim
 |exc c=>rw[av]at h;exact h
 |ok ds=>
  rw[av,R.bE]at h;intro vs H1 aT au s1 a;by_cases hl:ds.length≤1000000
  ·rw[if_pos hl]at h;refine⟨by rw[←a.length];exact Nat.le_trans hl (by decide),fun p hp=>?_⟩;exact h p vs _ aT (au.lay0 hp) (s1.trans (cb.lay0 hp)) (s1.h.gone hp) eB (au.aK.sub.gone hp) a
  ·rw[if_neg hl]at h;exact h.elim
def cj(m:aP):aD:=fun ρ=>(m ρ).bind fun xs=>.ok (.lst xs)
theorem P0{m:aP}:eK (cW F (cj m)) (j0 F m):=by
 rintro σ H Q ⟨G,ρ,r,h⟩;unfold cj at h;refine⟨G,ρ,r,?_⟩;cases av:m ρ with
 |bad=>rw[av]at h;exact h.elim
 |exc c=>rw[av]at h;exact h
 |ok ds=>rw[av,R.bE]at h;intro a xs H' G' bf s' aC ha hg q;refine h (.ref a) H' _ (bf.take ha hg (r.aK.hh.gone aC) (dM.fresh r s'.h aC)) (s'.put aC hg) ?_;simp only[At];exact⟨a,xs,rfl,eB,q.mono (Sub.upd hg)⟩
def ja:D→R Bool
 |.ax b=>.ok b
 |_=>.bad
def aW(m:aD):b4:=fun ρ=>(m ρ).bind ja
theorem vz{m:aD}:mn (fL F (aW m)) (B7 (cW F m)):=by
 rintro σ H Q ⟨G,ρ,r,h⟩;unfold aW at h;refine⟨G,ρ,r,?_⟩;cases av:m ρ with
 |bad=>rw[av]at h;exact h.elim
 |exc c=>rw[av]at h;exact h
 |ok d=>
  rw[av,R.bE]at h;intro x H1 aT au s1 bT
  cases d<;>first
   |(exact h.elim)
   |(simp only[At]at bT;exact⟨_,bT,h H1 aT au s1⟩)
theorem GI{m:aD}:mn (fL F (aW m)) (Cd (cW F m)):=vz
def jQ(a b:b4):b4:=fun ρ=>(a ρ).bind fun c=>if c=true then b ρ else .ok false
def eZ(a b:b4):b4:=fun ρ=>(a ρ).bind fun c=>if c=true then .ok true else b ρ
def eb(a:b4):b4:=fun ρ=>(a ρ).bind fun c=>.ok (!c)
theorem PJ{a b:b4}:mn (fL F (jQ a b)) (JB (fL F a) (fL F b)):=by
 rintro σ H Q ⟨G,ρ,r,h⟩;unfold jQ at h;refine⟨G,ρ,r,?_⟩;cases av:a ρ with
 |bad=>rw[av]at h;exact h.elim
 |exc c=>rw[av]at h;exact h
 |ok c=>
  rw[av,R.bE]at h;intro H1 aT au s1;cases c with
  |true=>exact⟨aT,ρ,au,q4.mono s1 h⟩
  |false=>exact h H1 aT au s1
theorem Qg{a b:b4}:mn (fL F (eZ a b)) (JN (fL F a) (fL F b)):=by
 rintro σ H Q ⟨G,ρ,r,h⟩;unfold eZ at h;refine⟨G,ρ,r,?_⟩;cases av:a ρ with
 |bad=>rw[av]at h;exact h.elim
 |exc c=>rw[av]at h;exact h
 |ok c=>
  rw[av,R.bE]at h;intro H1 aT au s1;cases c with
  |true=>exact h H1 aT au s1
  |false=>exact⟨aT,ρ,au,q4.mono s1 h⟩
theorem Qd{a:b4}:mn (fL F (eb a)) (JL (fL F a)):=by
 rintro σ H Q ⟨G,ρ,r,h⟩;unfold eb at h;refine⟨G,ρ,r,?_⟩;cases av:a ρ with
 |bad=>rw[av]at h;exact h.elim
 |exc c=>rw[av]at h;exact h
 |ok c=>rw[av,R.bE]at h;exact h
noncomputable def jR(a b:aD):aD:=fun ρ=>(a ρ).bind fun x=>(ja x).bind fun c=>if c=true then b ρ else .ok (.ax false)
noncomputable def pG(a b:aD):aD:=fun ρ=>(a ρ).bind fun x=>(ja x).bind fun c=>if c=true then .ok (.ax true)else b ρ
def rl(a:aD):aD:=fun ρ=>(a ρ).bind fun x=>(ja x).bind fun c=>.ok (.ax (!c))
theorem PK{a b:aD}:eK (cW F (jR a b)) (JC (cW F a) (cW F b)):=by
 rintro σ H Q ⟨G,ρ,r,h⟩;unfold jR at h;refine⟨G,ρ,r,?_⟩;cases av:a ρ with
 |bad=>rw[av]at h;exact h.elim
 |exc c=>rw[av]at h;exact h
 |ok d=>
  rw[av,R.bE]at h;intro x H1 aT au s1 bT;cases d with
  |ax c=>
   simp only[At]at bT;refine⟨c,bT,?_⟩;cases c with
   |true=>exact⟨aT,ρ,au,ik.mono s1 h⟩
   |false=>exact h _ H1 aT au s1 (by simp only[At])
  |_=>exact h.elim
theorem Qh{a b:aD}:eK (cW F (pG a b)) (JO (cW F a) (cW F b)):=by
 rintro σ H Q ⟨G,ρ,r,h⟩;unfold pG at h;refine⟨G,ρ,r,?_⟩;cases av:a ρ with
 |bad=>rw[av]at h;exact h.elim
 |exc c=>rw[av]at h;exact h
 |ok d=>
  rw[av,R.bE]at h;intro x H1 aT au s1 bT;cases d with
  |ax c=>
   simp only[At]at bT;refine⟨c,bT,?_⟩;cases c with
   |false=>exact⟨aT,ρ,au,ik.mono s1 h⟩
   |true=>exact h _ H1 aT au s1 (by simp only[At])
  |_=>exact h.elim
theorem Qe{a:aD}:eK (cW F (rl a)) (JM (cW F a)):=by
 rintro σ H Q ⟨G,ρ,r,h⟩;unfold rl at h;refine⟨G,ρ,r,?_⟩;cases av:a ρ with
 |bad=>rw[av]at h;exact h.elim
 |exc c=>rw[av]at h;exact h
 |ok d=>
  rw[av,R.bE]at h;intro x H1 aT au s1 bT;cases d with
  |ax c=>simp only[At]at bT;exact⟨c,bT,h _ H1 aT au s1 (by simp only[At])⟩
  |_=>exact h.elim
def pE(c:b4)(a b:aD):aD:=fun ρ=>(c ρ).bind fun k=>if k=true then a ρ else b ρ
theorem P2{c:b4}{a b:aD}:eK (cW F (pE c a b)) (JH (fL F c) (cW F a) (cW F b)):=by
 rintro σ H Q ⟨G,ρ,r,h⟩;unfold pE at h;refine⟨G,ρ,r,?_⟩;cases av:c ρ with
 |bad=>rw[av]at h;exact h.elim
 |exc c=>rw[av]at h;exact h
 |ok k=>
  rw[av,R.bE]at h;intro H1 aT au s1;cases k with
  |true=>exact⟨aT,ρ,au,ik.mono s1 h⟩
  |false=>exact⟨aT,ρ,au,ik.mono s1 h⟩
def cw:a0:=fun ρ=>.ok (.bq ρ)
def aR(a b:a0):a0:=fun ρ=>(a ρ).bind fun f=>match f with
 |.bq bo=>b bo
 |f=>.ok f
theorem Qc:hz (fp F cw) Cb:=by rintro cJ σ H ⟨G,ρ,r,h⟩;exact h σ G H r (Sub.refl _)
theorem Qm{a b:a0}:hz (fp F (aR a b)) (Cc (fp F a) (fp F b)):=by
 rintro cJ σ H ⟨G,ρ,r,h⟩;unfold aR at h;refine⟨G,ρ,r,?_⟩;cases av:a ρ with
 |bad=>rw[av]at h;exact h.elim
 |exc c=>rw[av]at h;exact h
 |ok f=>
  rw[av,R.bE]at h;cases f with
  |bq bo=>exact fun σ' G' H' bf s'=>⟨G',bo,bf,hT.mono s' h⟩
  |dH d=>exact h
  |jl d=>exact h
  |fG d=>exact h
  |cK d=>exact h
  |d4 d=>exact h
def n8(a:aD):a0:=fun ρ=>(a ρ).bind fun _=>.ok (.bq ρ)
theorem PW{a:aD}:hz (fp F (n8 a)) (B_ (cW F a)):=by
 rintro cJ σ H ⟨G,ρ,r,h⟩;unfold n8 at h;refine⟨G,ρ,r,?_⟩;cases av:a ρ with
 |bad=>rw[av]at h;exact h.elim
 |exc c=>rw[av]at h;exact h
 |ok d=>rw[av,R.bE]at h;exact fun v H' G' bf s' _=>h σ G' H' bf s'.g
def bU(a:aD):a0:=fun ρ=>(a ρ).bind fun d=>.ok (.dH d)
theorem Qj{a:aD}:hz (fp F (bU a)) (w4 (cW F a)):=by
 rintro cJ σ H ⟨G,ρ,r,h⟩;unfold bU at h;refine⟨G,ρ,r,?_⟩;cases av:a ρ with
 |bad=>rw[av]at h;exact h.elim
 |exc c=>rw[av]at h;exact h
 |ok d=>rw[av,R.bE]at h;exact fun v H' G' bf s' a=>h v G' H' bf.aK a
def gw(a:aP):a0:=fun ρ=>(a ρ).bind fun d=>.ok (.jl d)
theorem Qk{a:aP}:hz (fp F (gw a)) (w4 (j0 F a)):=by
 rintro cJ σ H ⟨G,ρ,r,h⟩;unfold gw at h;refine⟨G,ρ,r,?_⟩;cases av:a ρ with
 |bad=>rw[av]at h;exact h.elim
 |exc c=>rw[av]at h;exact h
 |ok d=>rw[av,R.bE]at h;exact fun a xs H' G' bf s' h1 h2 h3 h4=>h a xs G' H' bf.aK h3 (r.aK.hh.gone h1) h2 h4
def iR(i:Nat):aP:=fun ρ=>match ρ[i]? with
 |some (.a4 (.lst d))=>.ok d
 |_=>.bad
theorem Ql(i:Nat):hz (fp F (gw (iR i))) (w4 (Cf i)):=by
 rintro cJ σ H ⟨G,ρ,r,h⟩;unfold gw iR at h;cases e:ρ[i]? with
 |none=>rw[e]at h;exact h.elim
 |some s=>
  rw[e]at h;cases s with
  |un=>exact h.elim
  |ak _=>exact h.elim
  |eA _=>exact h.elim
  |a4 o=>
   cases o with
   |lst ds=>obtain⟨a,xs,aq,h1,h2,h3,h4⟩:=r.own e;exact⟨.ref a,aq,h a xs G H r.aK h2 h3 h1 h4⟩
   |bK _ _=>exact h.elim
   |ins _ _ _=>exact h.elim
def ck(c:b4)(a b:a0):a0:=fun ρ=>(c ρ).bind fun k=>if k=true then a ρ else b ρ
theorem P4{c:b4}{a b:a0}:hz (fp F (ck c a b)) (Ca (fL F c) (fp F a) (fp F b)):=by
 rintro cJ σ H ⟨G,ρ,r,h⟩;unfold ck at h;refine⟨G,ρ,r,?_⟩;cases av:c ρ with
 |bad=>rw[av]at h;exact h.elim
 |exc c=>rw[av]at h;exact h
 |ok k=>
  rw[av,R.bE]at h;intro H1 aT au s1;cases k with
  |true=>exact⟨aT,ρ,au,hT.mono s1.g h⟩
  |false=>exact⟨aT,ρ,au,hT.mono s1.g h⟩
def a8(i:Nat)(d:D)(ρ:ao):R ao:=if i<ρ.length then .ok (ρ.set i (.ak d))else .bad
def cp(i:Nat)(a:aD):a0:=fun ρ=>(a ρ).bind fun d=>(a8 i d ρ).bind fun bo=>.ok (.bq bo)
theorem Qn{i:Nat}{a:aD}:hz (fp F (cp i a)) (ow (cW F a) (jI i)):=by
 rintro cJ σ H ⟨G,ρ,r,h⟩;unfold cp a8 at h;refine⟨G,ρ,r,?_⟩;cases av:a ρ with
 |bad=>rw[av]at h;exact h.elim
 |exc c=>rw[av]at h;exact h
 |ok d=>
  rw[av,R.bE]at h;intro v H1 aT au s1 bc;by_cases hi:i<ρ.length
  ·rw[if_pos hi]at h;exact h _ aT H1 (au.set hi bc) s1.g
  ·rw[if_neg hi]at h;exact h.elim
noncomputable def ez(i:Nat)(a:aP):a0:=fun ρ=>(a ρ).bind fun ds=>if i<ρ.length then .ok (.bq (ρ.set i (.cE ds)))else .bad
theorem GP{i:Nat}{a:aP}:hz (fp F (ez i a)) (ow (j0 F a) (jI i)):=by
 rintro cJ σ H ⟨G,ρ,r,h⟩;unfold ez at h;refine⟨G,ρ,r,?_⟩;cases av:a ρ with
 |bad=>rw[av]at h;exact h.elim
 |exc c=>rw[av]at h;exact h
 |ok ds=>
  rw[av,R.bE]at h;intro b xs H1 aT au s1 h1 h2 h3 h4;by_cases hi:i<ρ.length
  ·rw[if_pos hi]at h;exact h _ aT H1 (au.WZ hi h2 h3 (r.aK.hh.gone h1) h4 fun j es o _ aq az f=>dM.fresh r s1.h h1 ⟨j,es,o,aq,az,f⟩) s1.g
  ·rw[if_neg hi]at h;exact h.elim
def kT(i:Nat)(ρ:ao):ao:=match ρ[i]? with
 |some (.a4 o)=>ρ.set i (.ak (mV o))
 |_=>ρ
theorem Rel.kT{G H:ai}{σ :St}{ρ:ao}(r:Rel F G H σ ρ)(i:Nat):∃G',Rel F G' H σ (aB.kT i ρ)∧Sub G G':=by
 unfold aB.kT;cases e:ρ[i]? with
 |none=>exact⟨G,r,Sub.refl _⟩
 |some s=>
  cases s with
  |un=>exact⟨G,r,Sub.refl _⟩
  |ak _=>exact⟨G,r,Sub.refl _⟩
  |eA _=>exact⟨G,r,Sub.refl _⟩
  |a4 o=>exact r.jG e
def Sy(i:Nat)(m:a0):a0:=fun ρ=>m (kT i ρ)
def gz:D→Bool
 |.non=>true|.ax _=>true|.int _=>true|.str _=>true
 |_=>false
theorem At.I4{K:PySem.W.Frag}{G G':ai}{d:D}{v:V}(h:gz d=true)(a:At K G d v):At K G' d v:=by
 cases d<;>first
  |(simp only[At]at a ⊢;exact a)
  |(cases h)
def nR:cO→cO
 |.a4 o=>.ak (mV o)
 |.eA t=>.ak (toD t)
 |s=>s
def eP(ρ:ao):ao:=ρ.map nR
open Classical in
noncomputable def kf(σ :St)(ρ:ao)(G H:ai):ai:=fun b=>if dM H σ ρ b then H b else G b
theorem zd{G H:ai}{σ :St}{ρ:ao}(r:Rel F G H σ ρ):Sub G (kf σ ρ G H):=fun b o e=>by
 unfold kf
 split
 ·exact r.aK.sub b o e
 ·exact e
theorem sH{G H:ai}{σ :St}{ρ:ao}{b:Addr}(h:dM H σ ρ b):kf σ ρ G H b=H b:=by unfold kf;rw[if_pos h]
theorem Oj{H:ai}{ρ:ao}{i:Nat}{s:cO}(e:(eP ρ)[i]?=some s)(o:Option V)(a:Addr):¬gd H s o a:=by
 unfold eP at e;rw[List.getElem?_map]at e;cases az:ρ[i]? with
 |none=>rw[az]at e;cases e
 |some t=>rw[az]at e;have es:nR t=s:=Option.some.inj e;subst es;cases t<;>exact fun z=>z
theorem Rel.plus{G H:ai}{σ :St}{ρ:ao}(r:Rel F G H σ ρ):Rel F (kf σ ρ G H) H σ (eP ρ):=by
 have aY:=zd r;refine⟨⟨fun b o e=>?_,r.aK.fy.trans aY,r.aK.hh,fun b hb=>?_⟩,by simp[eP,r.len],fun i s e=>?_,fun i j a s s' o bJ aq _ _ _ f _=>absurd f (Oj aq o a)⟩
 ·unfold kf at e
  split at e
  ·exact e
  ·exact r.aK.sub b o e
 ·unfold kf
  split
  ·rename_i z;exact absurd (r.foot z).2.2 hb
  ·exact r.aK.new b hb
 ·unfold eP at e;rw[List.getElem?_map]at e;cases aq:ρ[i]? with
  |none=>rw[aq]at e;cases e
  |some t=>
   rw[aq]at e;have es:nR t=s:=Option.some.inj e;obtain⟨o,az,q⟩:=r.cF i t aq;refine⟨o,az,?_⟩;subst es;cases t with
   |un=>trivial
   |ak d=>obtain⟨v,b7,a⟩:=q;exact⟨v,b7,a.mono aY⟩
   |a4 ds=>obtain⟨a,ho,b7,h1,h2,h3,h4⟩:=q;subst b7;exact⟨.ref a,rfl,(h4.mono aY).at (by rw[sH (.a4 aq az)];exact h1)⟩
   |eA t=>obtain⟨v,b7,q⟩:=q;exact⟨v,b7,q.at_.view aY fun a ha=>sH ⟨i,_,o,aq,az,v,b7,ha⟩⟩
theorem Rel.back{G H G' H':ai}{σ :St}{ρ:ao}(r:Rel F G H σ ρ)(bf:Rel F G' H' σ (eP ρ))(s:Sub (kf σ ρ G H) G'):Rel F G H' σ ρ:=
 r.over rfl ⟨(zd r).trans (s.trans bf.aK.sub),r.aK.fy,bf.aK.hh,r.aK.new⟩ (Sub.refl _) fun a ha=>by
   obtain⟨h1,h2,h3⟩:=r.foot ha;refine⟨?_,h2,h3⟩;cases e:H a with
   |none=>exact absurd e h1
   |some o=>exact bf.aK.sub _ _ (s _ _ (by rw[sH ha];exact e))
def pT(d:D):R D:=if gz d=true then .ok d else .bad
def ip(m:aD):aD:=fun ρ=>(m (eP ρ)).bind pT
theorem PL{m:aD}:eK (cW F (ip m)) (cW F m):=by
 rintro σ H Q ⟨G,ρ,r,h⟩;refine⟨kf σ ρ G H,eP ρ,r.plus,?_⟩;unfold ip pT at h;cases av:m (eP ρ)with
 |bad=>rw[av]at h;exact h.elim
 |exc c=>rw[av]at h;exact h
 |ok d=>
  rw[av,R.bE]at h;intro v H' G' bf s' a;by_cases hd:gz d=true
  ·rw[if_pos hd]at h;exact h v H' G (r.back bf s'.g) ⟨Sub.refl _,s'.h,fun _ _=>rfl⟩ (a.I4 hd)
  ·rw[if_neg hd]at h;exact h.elim
def iP(m:b4):b4:=fun ρ=>m (eP ρ)
theorem PN{m:b4}:mn (fL F (iP m)) (fL F m):=by
 rintro σ H Q ⟨G,ρ,r,h⟩;refine⟨kf σ ρ G H,eP ρ,r.plus,?_⟩;unfold iP at h;cases av:m (eP ρ)with
 |bad=>rw[av]at h;exact h.elim
 |exc c=>rw[av]at h;exact h
 |ok d=>rw[av]at h;exact fun H' G' bf s'=>h H' G (r.back bf s'.g) ⟨Sub.refl _,s'.h,fun _ _=>rfl⟩
end
section
variable{F:bt}
structure kJ(K:PySem.W.Frag)(cq:It)(ds:List D)(G:ai):Prop where
 go:∀(i:Nat)(H:ai),Sub G H→i<ds.length→cq.go i H
 i2:∀(i:Nat)(H:ai)(x:V)(H':ai),Sub G H→i<ds.length→cq.i2 i H x H'→∃d,ds[i]?=some d∧
  ((H'=H∧At K G d x)∨∃p xs es,H p=none∧H'=upd H p (.tup xs)∧x=.ref p∧d=.tup es∧aL K G es xs)
 stop:∀(H:ai),Sub G H→cq.stop ds.length H
noncomputable def Q6(F:bt)(G H:ai)(σ :St)(ρ:ao)(Q:It→ai→Prop):R (List D)→Prop
 |.ok ds=>∀cq H' G',Rel F G' H' σ ρ→cb G H G' H'→kJ F.K cq ds G'→Q cq H'
 |.exc c=>km F c
 |.bad=>False
def kz(F:bt)(m:aP):TI:=fun σ H Q=>∃G ρ,Rel F G H σ ρ∧Q6 F G H σ ρ Q (m ρ)
abbrev nz(t' t:TI):Prop:=∀ σ H Q,t' σ H Q→t σ H Q
theorem kJ.turn{cq:It}{ds:List D}{G aT H H':ai}{σ :St}{ρ:ao}{i:Nat}{x:V}(t:kJ F.K cq ds G)(r:Rel F aT H σ ρ)(s:Sub G aT)(hi:i<ds.length)(y:cq.i2 i H x H') :
  ∃d G',ds[i]?=some d∧Rel F G' H' σ ρ∧cb aT H G' H'∧At F.K G' d x:=by
 obtain⟨d,e,h⟩:=t.i2 i H x H' (s.trans r.aK.sub) hi y;rcases h with⟨rfl,a⟩|⟨p,xs,es,hp,rfl,rfl,rfl,a⟩
 ·exact⟨d,aT,e,r,cb.refl _ _,a.mono s⟩
 ·refine⟨_,_,e,r.lay hp,cb.lay r.aK.sub hp,?_⟩;simp only[At];exact⟨p,xs,rfl,eB,(a.mono s).mono (Sub.upd (r.aK.sub.gone hp))⟩
noncomputable def mm(F:bt)(g:hH)(set:D→ao→R ao):Prop:=∀ σ ρ G H v d Q bo,Rel F G H σ ρ→At F.K G d v→set d ρ=.ok bo→(∀ σ',Rel F G H σ' bo→Q σ' H)→g v σ H Q
theorem vf(i:Nat):mm F (jI i) (a8 i):=by
 intro σ ρ G H v d Q bo r a e h;unfold a8 at e;by_cases hi:i<ρ.length
 ·rw[if_pos hi]at e;cases e;exact h _ (r.set hi a)
 ·rw[if_neg hi]at e;cases e
noncomputable def gA:List (D→ao→R ao)→List D→ao→R ao
 |[],[],ρ=>.ok ρ
 |f::aI,d::ds,ρ=>(f d ρ).bind fun bo=>gA aI ds bo
 |_,_,_=>.bad
noncomputable def qv(F:bt)(g:jA)(set:List D→ao→R ao):Prop:=∀ σ ρ G H vs ds Q bo,Rel F G H σ ρ→aL F.K G ds vs→set ds ρ=.ok bo→(∀ σ',Rel F G H σ' bo→Q σ' H)→g vs σ H Q
theorem FY:qv F vd (gA []):=by
 intro σ ρ G H vs ds Q bo r a e h;cases ds with
 |nil=>simp only[aL]at a;cases e;exact⟨a,h σ r⟩
 |cons d ds=>cases e
theorem ze{g:hH}{jf:jA}{f:D→ao→R ao}{aI:List (D→ao→R ao)}(h1:mm F g f)(h2:qv F jf (gA aI)):qv F (sG g jf) (gA (f::aI)):=by
 intro σ ρ G H vs ds Q bo r a e h;cases ds with
 |nil=>cases e
 |cons d ds=>
  simp only[aL]at a;obtain⟨v,xa,rfl,bc,mA⟩:=a;simp only[gA]at e;cases aq:f d ρ with
  |bad=>rw[aq]at e;cases e
  |exc c=>rw[aq]at e;cases e
  |ok d2=>rw[aq,R.bE]at e;refine⟨v,xa,rfl,h1 σ ρ G H v d _ d2 r bc aq fun σ1 au=>?_⟩;exact h2 σ1 d2 G H xa ds Q bo au mA e h
def eI(aI:List (D→ao→R ao)):D→ao→R ao
 |.tup ds,ρ=>gA aI ds ρ
 |_,_=>.bad
theorem BU:∀{aI:List (D→ao→R ao)}{ds:List D}{ρ bo:ao},gA aI ds ρ=.ok bo→ds.length=aI.length
 |[],[],_,_,_=>rfl
 |[],_::_,_,_,e=>by cases e
 |_::_,[],_,_,e=>by cases e
 |f::aI,d::ds,ρ,bo,e=>by
  simp only[gA]at e;cases aq:f d ρ with
  |bad=>rw[aq]at e;cases e
  |exc c=>rw[aq]at e;cases e
  |ok d2=>rw[aq,R.bE]at e;simp[BU e]
theorem FZ{jf:jA}{aI:List (D→ao→R ao)}{n:Nat}(aC:n=aI.length)(h:qv F jf (gA aI)):mm F (ve F.K n jf) (eI aI):=by
 intro σ ρ G H v d Q bo r a e k;cases d with
 |tup ds=>simp only[At]at a;obtain⟨p,xs,rfl,aJ,al⟩:=a;refine⟨p,xs,rfl,cS.of (r.aK.sub _ _ aJ),?_,h σ ρ G H xs ds Q bo r al e k⟩;rw[←al.length,aC];exact BU e
 |_=>cases e
noncomputable def e9(set:D→ao→R ao)(body:a0):List D→ao→R e4
 |[],ρ=>.ok (.bq ρ)
 |d::ds,ρ=>(set d ρ).bind fun d2=>(body d2).bind fun f=>match f with
  |.bq eC=>e9 set body ds eC
  |.cK eC=>e9 set body ds eC
  |.fG eC=>.ok (.bq eC)
  |f=>.ok f
def d3(mi:aP)(set:D→ao→R ao)(body:a0):a0:=fun ρ=>(mi ρ).bind fun ds=>e9 set body ds ρ
theorem PZ{mi:aP}{set:D→ao→R ao}{body:a0}{g:hH}(hg:mm F g set)(hx:∀d ρ c,set d ρ≠.exc c):hz (fp F (d3 mi set body)) (JG (kz F mi) g (fp F body)):=by
 rintro cJ σ H ⟨G,ρ,r,h⟩;unfold d3 at h;refine⟨G,ρ,r,?_⟩;cases av:mi ρ with
 |bad=>rw[av]at h;exact h.elim
 |exc c=>rw[av]at h;exact h
 |ok ds=>
  rw[av,R.bE]at h;intro cq H1 aT au s1 it;refine⟨fun i m σ2 a9=>m=ds.length-i∧i≤ds.length∧∃dj eC,Rel F dj a9 σ2 eC∧Sub aT dj∧hT F dj cJ (e9 set body (ds.drop i) eC),⟨ds.length,by simp,Nat.zero_le _,aT,ρ,au,Sub.refl _,hT.mono s1.g (by simpa using h)⟩,?_⟩;rintro i m σ2 a9 ⟨rfl,hi,dj,eC,bh,s2,k2⟩;by_cases fB:i<ds.length
  ·refine .inr ⟨it.go i a9 (s2.trans bh.aK.sub) fB,fun σ3 dk=>∃gn xu,Rel F gn dk σ3 xu∧Sub aT gn∧hT F gn cJ (e9 set body (ds.drop (i+1)) xu),fun σ3 dk⟨gn,xu,dX,s3,k3⟩=>⟨ds.length-(i+1),by omega,rfl,fB,gn,xu,dX,s3,k3⟩,fun x dk y=>?_⟩;obtain⟨d,gn,b7,dX,s3,eE⟩:=it.turn bh s2 fB y;have ek:ds.drop i=d::ds.drop (i+1):=by
    rw[List.drop_eq_getElem_cons fB];have:=List.getElem?_eq_getElem fB;rw[b7]at this;rw[Option.some.inj this]
   rw[ek]at k2;simp only[e9]at k2;cases eu:set d eC with
   |bad=>rw[eu]at k2;exact k2.elim
   |exc c=>exact absurd eu (hx d eC c)
   |ok iy=>
    rw[eu,R.bE]at k2;refine hg σ2 eC gn dk x d _ iy dX eE eu fun σ5 oi=>⟨gn,iy,oi,?_⟩;have tT:Sub dj gn:=s3.g;cases jF:body iy with
    |bad=>rw[jF]at k2;exact k2.elim
    |exc c=>rw[jF]at k2;exact k2
    |ok f=>
     rw[jF,R.bE]at k2;cases f with
     |bq nr=>exact fun σ7 kI gf g_ cR=>⟨kI,nr,g_,s2.trans (tT.trans cR),hT.mono (tT.trans cR) k2⟩
     |cK nr=>exact fun σ7 kI gf g_ cR=>⟨kI,nr,g_,s2.trans (tT.trans cR),hT.mono (tT.trans cR) k2⟩
     |fG nr=>exact fun σ7 kI gf g_ cR=>k2 σ7 kI gf g_ (tT.trans cR)
     |dH d=>exact k2
     |jl ds=>exact k2
     |d4 t=>exact k2
  ·have e:ds.drop i=[]:=List.drop_eq_nil_of_le (by omega);rw[e]at k2;have iH:i=ds.length:=by omega
   subst iH;exact .inl ⟨it.stop a9 (s2.trans bh.aK.sub),k2 σ2 dj a9 bh (Sub.refl _)⟩
theorem wM(i:Nat):∀d ρ c,a8 i d ρ≠.exc c:=fun d ρ c=>by
 unfold a8
 split<;>exact fun z=>nomatch z
theorem Jb:∀{aI:List (D→ao→R ao)},(∀f∈aI,∀d ρ c,f d ρ≠.exc c)→∀ds ρ c,gA aI ds ρ≠.exc c
 |[],_,[],_,_,e=>nomatch e
 |[],_,_::_,_,_,e=>nomatch e
 |_::_,_,[],_,_,e=>nomatch e
 |f::aI,h,d::ds,ρ,c,e=>by
  simp only[gA]at e;cases aq:f d ρ with
  |bad=>rw[aq]at e;cases e
  |exc c=>exact h f (by simp) d ρ c aq
  |ok d2=>rw[aq,R.bE]at e;exact Jb (fun g hg=>h g (by simp[hg])) ds d2 c e
theorem BW{aI:List (D→ao→R ao)}(h:∀f∈aI,∀d ρ c,f d ρ≠.exc c):∀d ρ c,eI aI d ρ≠.exc c:=fun d ρ c e=>by
 cases d<;>first
  |(exact Jb h _ _ _ e)
  |(cases e)
theorem G1{K:PySem.W.Frag}{G:ai}{a:Addr}{xs:List V}{ds:List D}(h:bP K G a xs)(q:aL K G ds xs):kJ K (xG K a) ds G where
 go:=fun i H s hi=>by obtain⟨v,e,_⟩:=q.get (List.getElem?_eq_getElem hi);exact⟨xs,v,bP.mono s h,e⟩
 i2:=fun i H x H' s hi y=>by obtain⟨rfl,y⟩:=y;obtain⟨d,e,a⟩:=q.vh (y xs (bP.mono s h));exact⟨d,e,.inl ⟨rfl,a⟩⟩
 stop:=fun H s=>⟨xs,bP.mono s h,by rw[←q.length];exact Nat.le_refl _⟩
theorem G2{K:PySem.W.Frag}{G:ai}{a:Addr}{xs:List V}{ds:List D}(h:cS K G a xs)(q:aL K G ds xs):kJ K (xI K a) ds G where
 go:=fun i H s hi=>by obtain⟨v,e,_⟩:=q.get (List.getElem?_eq_getElem hi);exact⟨xs,v,cS.mono s h,e⟩
 i2:=fun i H x H' s hi y=>by obtain⟨rfl,y⟩:=y;obtain⟨d,e,a⟩:=q.vh (y xs (cS.mono s h));exact⟨d,e,.inl ⟨rfl,a⟩⟩
 stop:=fun H s=>⟨xs,cS.mono s h,by rw[←q.length];exact Nat.le_refl _⟩
def fg(lo:Int)(n:Nat):List D:=(List.range n).map fun(i:Nat)=>.int (lo+(i:Int))
theorem QQ{K:PySem.W.Frag}{G:ai}(lo:Int)(n:Nat):kJ K (ur lo n) (fg lo n) G where
 go:=fun i H s hi=>by
  have h:i<n:=by simpa[fg]using hi
  exact h
 i2:=fun i H x H' s hi y=>by
  have h:i<n:=by simpa[fg]using hi
  obtain⟨aq,az⟩:=y;refine⟨.int (lo+(i:Int)),?_,.inl ⟨aq,?_⟩⟩
  ·unfold fg;rw[List.getElem?_map,List.getElem?_range h];rfl
  ·simp only[At];exact az
 stop:=fun H s=>by
  have h:n≤(fg lo n).length:=by simp[fg]
  exact h
def wJ:D→R (List D)
 |.lst ds=>.ok ds
 |.cy ds=>.ok ds
 |_=>.bad
def Cm:D→R (List D)
 |.tup ds=>.ok ds
 |.dy ds=>.ok ds
 |_=>.bad
def ea(m:aD):aP:=fun ρ=>(m ρ).bind wJ
theorem P7{m:aD}:nz (kz F (ea m)) (GB F.K (cW F m)):=by
 rintro σ H Q ⟨G,ρ,r,h⟩;unfold ea at h;refine⟨G,ρ,r,?_⟩;cases av:m ρ with
 |bad=>rw[av]at h;exact h.elim
 |exc c=>rw[av]at h;exact h
 |ok d=>
  rw[av,R.bE]at h;intro v H1 aT au s1 a;cases d with
  |lst ds=>simp only[At]at a;obtain⟨p,xs,e,aJ,al⟩:=a;exact⟨p,e,⟨xs,bP.of (au.aK.sub _ _ aJ)⟩,h _ H1 aT au s1 (G1 (bP.of aJ) al)⟩
  |cy ds=>simp only[At]at a;obtain⟨p,xs,e,aJ,al⟩:=a;exact⟨p,e,⟨xs,bP.mono au.aK.sub aJ⟩,h _ H1 aT au s1 (G1 aJ al)⟩
  |_=>exact h.elim
def pD(m:aD):aP:=fun ρ=>(m ρ).bind Cm
theorem Qu{m:aD}:nz (kz F (pD m)) (GF F.K (cW F m)):=by
 rintro σ H Q ⟨G,ρ,r,h⟩;unfold pD at h;refine⟨G,ρ,r,?_⟩;cases av:m ρ with
 |bad=>rw[av]at h;exact h.elim
 |exc c=>rw[av]at h;exact h
 |ok d=>
  rw[av,R.bE]at h;intro v H1 aT au s1 a;cases d with
  |tup ds=>simp only[At]at a;obtain⟨p,xs,e,aJ,al⟩:=a;exact⟨p,e,⟨xs,cS.of (au.aK.sub _ _ aJ)⟩,h _ H1 aT au s1 (G2 (cS.of aJ) al)⟩
  |dy ds=>simp only[At]at a;obtain⟨p,xs,e,aJ,al⟩:=a;exact⟨p,e,⟨xs,cS.mono au.aK.sub aJ⟩,h _ H1 aT au s1 (G2 aJ al)⟩
  |_=>exact h.elim
def mY:List D→R (List D)
 |[.int j]=>if-(2^62)≤j∧j<2^62 then .ok (fg 0 j.toNat)else .bad
 |_=>.bad
theorem aL.ints1{K:PySem.W.Frag}{G:ai}{j:Int}{vs:List V}(a:aL K G [.int j] vs):vs=[.int j]:=by simp only[aL,At]at a;obtain⟨v,r,rfl,rfl,rfl⟩:=a;rfl
def fm(m:aP):aP:=fun ρ=>(m ρ).bind mY
theorem Qi{m:aP}:nz (kz F (fm m)) (GC (ei F m)):=by
 rintro σ H Q ⟨G,ρ,r,h⟩;unfold fm at h;refine⟨G,ρ,r,?_⟩;cases av:m ρ with
 |bad=>rw[av]at h;exact h.elim
 |exc c=>rw[av]at h;exact h
 |ok ds=>
  rw[av,R.bE]at h;intro vs H1 aT au s1 a;unfold mY at h
  split at h
  ·rename_i j
   split at h
   ·rename_i cg;exact⟨j,a.ints1,cg.1,cg.2,h _ H1 aT au s1 (QQ 0 j.toNat)⟩
   ·exact h.elim
  ·exact h.elim
inductive bW where
 |v (d:D)|o (ds:List D)|t (t:T)
noncomputable def Q4(F:bt)(Q:cP):R bW→Prop
 |.ok (.v d)=>∀v G' H',eL F G' H'→At F.K G' d v→Q v H'
 |.ok (.o ds)=>∀a xs G' H',eL F G' H'→G' a=none→F.bB a=none→H' a=some (.lst xs)→aL F.K G' ds xs→Q (.ref a) H'
 |.ok (.t t)=>∀v G' H',eL F G' H'→uD F G' H' t v→Q v H'
 |.exc c=>km F c
 |.bad=>False
noncomputable def ou(K:PySem.W.Frag)(n:Nat)(xe:c7→Str→ai→Prop)(mf:List D→R bW):i6:=fun vs H Q E=>∃G ds,Sub G H∧aL K G ds vs∧ds.length=n∧Q4 ⟨K,G,H,xe E⟩ Q (mf ds)
theorem wN{K:PySem.W.Frag}{n:Nat}{xe:c7→Str→ai→Prop}{mf:List D→R bW}:∀vs H Q E,ou K n xe mf vs H Q E→vs.length=n:=fun vs H Q E h=>by obtain⟨G,ds,_,a,l,_⟩:=h;rw[←a.length];exact l
noncomputable def outD:e4→R bW
 |.bq _=>.ok (.v .non)
 |.dH d=>.ok (.v d)
 |.jl ds=>.ok (.o ds)
 |.d4 t=>.ok (.t t)
 |_=>.bad
def kY(N:Nat)(ds:List D):ao:=ds.map .ak++List.replicate (N-ds.length) .un
def cQ(N:Nat)(m:a0)(ds:List D):R bW:=(m (kY N ds)).bind outD
def wO(N:Nat)(vs:List V):St:=vs.map some++List.replicate (N-vs.length) none
theorem VF{K:PySem.W.Frag}{G H:ai}{gS:Str→ai→Prop}{N:Nat}{ds:List D}{vs:List V}(s:Sub G H)(a:aL K G ds vs):Rel ⟨K,G,H,gS⟩ G H (wO N vs) (kY N ds):=by
 have hl:=a.length;refine⟨⟨s,Sub.refl _,Sub.refl _,fun _ _=>rfl⟩,by simp[wO,kY,hl],fun i t e=>?_,fun i j b es es' o bJ aq az _ _ f _=>?_⟩
 ·unfold kY at e;unfold wO;by_cases hi:i<ds.length
  ·rw[List.getElem?_append_left (by simpa using hi),List.getElem?_map,List.getElem?_eq_getElem hi]at e;obtain⟨v,aq,bc⟩:=a.get (List.getElem?_eq_getElem hi);rw[List.getElem?_append_left (by rw[List.length_map,←hl];exact hi),List.getElem?_map,aq];have iI:cO.ak ds[i]=t:=Option.some.inj e;subst iI;exact⟨some v,rfl,v,rfl,bc⟩
  ·rw[List.getElem?_append_right (by simpa using hi),List.getElem?_replicate]at e;rw[List.getElem?_append_right (by rw[List.length_map,←hl];omega),List.getElem?_replicate,List.length_map,←hl];rw[List.length_map]at e
   split at e
   ·rename_i hh;rw[if_pos hh];cases e;exact⟨none,rfl,trivial⟩
   ·cases e
 ·exfalso;unfold kY at aq;by_cases hi:i<ds.length
  ·rw[List.getElem?_append_left (by simpa using hi),List.getElem?_map,List.getElem?_eq_getElem hi]at aq;cases aq;exact f
  ·rw[List.getElem?_append_right (by simpa using hi),List.getElem?_replicate]at aq
   split at aq
   ·cases aq;exact f
   ·cases aq
theorem uW{K:PySem.W.Frag}{xe:c7→Str→ai→Prop}{n N:Nat}{m:a0}{vs:List V}{H:ai}{Q:cP}{E:c7}(h:ou K n xe (cQ N m) vs H Q E) :
  ∃G,fp ⟨K,G,H,xe E⟩ m { bq:=fun _ H'=>Q .non H',dH:=Q } (wO N vs) H:=by
 obtain⟨G,ds,s,a,l,k⟩:=h;refine⟨G,G,kY N ds,VF s a,?_⟩;unfold cQ at k;cases e:m (kY N ds)with
 |bad=>rw[e]at k;exact k.elim
 |exc c=>rw[e]at k;exact k
 |ok f=>
  rw[e,R.bE]at k;cases f with
  |bq ρ=>exact fun σ' G' H' r _=>k .non G' H' r.aK (by simp only[At])
  |dH d=>exact k
  |jl ds=>exact k
  |d4 t=>exact k
  |fG ρ=>exact k.elim
  |cK ρ=>exact k.elim
theorem eL.of{G H G' H':ai}{σ :St}{ρ:ao}{gS:Str→ai→Prop}(r:Rel F G H σ ρ)(k:eL ⟨F.K,G,H,gS⟩ G' H'):Rel F G' H' σ ρ:=r.grow k.fy k.sub k.hh fun b hb=>k.new b hb
def iU:bW→R D
 |.v d=>.ok d
 |.o ds=>.ok (.lst ds)
 |.t t=>.ok (toD t)
def AS:bW→R (List D)
 |.o ds=>.ok ds
 |_=>.bad
def lQ(A:List Addr)(G H:ai):ai:=fun b=>if b∈A then H b else G b
theorem Rel.Cg{G H bY bB:ai}{σ :St}{ρ:ao}(r:Rel F G H σ ρ){F':bt}{t:T}{v:V}(hK:F'.K=F.K)(q:uD F' G H t v)(u:cb bY bB G H)(n:∀b∈a6 H t v,bB b=none∧F.bB b=none∧¬dM H σ ρ b) :
  Rel F (lQ (a6 H t v) G H) H σ ρ∧cb bY bB (lQ (a6 H t v) G H) H∧At F.K (lQ (a6 H t v) G H) (toD t) v:=by
 have aY:Sub G (lQ (a6 H t v) G H):=fun b o e=>by
  unfold lQ;by_cases hb:b∈a6 H t v
  ·rw[(q.own b hb).1]at e;cases e
  ·rw[if_neg hb];exact e
 refine⟨r.over rfl ⟨fun b o e=>?_,r.aK.fy.trans aY,r.aK.hh,fun b hb=>?_⟩ aY fun a ha=>?_,⟨u.g.trans aY,u.h,fun b hb=>?_⟩,?_⟩
 ·unfold lQ at e
  split at e
  ·exact e
  ·exact r.aK.sub b o e
 ·unfold lQ;rw[if_neg (fun z=>hb (n b z).2.1)];exact r.aK.new b hb
 ·obtain⟨h1,h2,h3⟩:=r.foot ha;refine⟨rfl,?_,h3⟩;unfold lQ;rw[if_neg (fun z=>(n a z).2.2 ha)];exact h2
 ·unfold lQ;rw[if_neg (fun z=>hb (n b z).1)];exact u.n b hb
 ·rw[←hK];exact q.at_.view aY fun a ha=>by unfold lQ;rw[if_pos ha]
noncomputable def bR(n:Nat)(mf:List D→R bW)(m:aP):aD:=fun ρ=>(m ρ).bind fun ds=>if ds.length=n then(mf ds).bind iU else .bad
noncomputable def gv(n:Nat)(mf:List D→R bW)(m:aP):aP:=fun ρ=>(m ρ).bind fun ds=>if ds.length=n then(mf ds).bind AS else .bad
theorem GJ{n:Nat}{mf:List D→R bW}{m:aP}{xe:c7→Str→ai→Prop}{E:c7}(hx:F.gS=xe E):eK (cW F (bR n mf m)) (wZ (ou F.K n xe mf) [] E (ei F m)):=by
 rintro σ H Q ⟨G,ρ,r,h⟩;unfold bR at h;refine⟨G,ρ,r,?_⟩;cases av:m ρ with
 |bad=>rw[av]at h;exact h.elim
 |exc c=>rw[av]at h;exact h
 |ok ds=>
  rw[av,R.bE]at h;intro vs H1 aT au s1 a;by_cases aC:ds.length=n
  ·rw[if_pos aC]at h;rw[List.append_nil];refine⟨aT,ds,au.aK.sub,a,aC,?_⟩;cases e:mf ds with
   |bad=>rw[e]at h;exact h.elim
   |exc c=>rw[e]at h;intro G' H' k;have z:=h G' H' (eL.of au k).aK;rw[hx]at z;exact z
   |ok t=>
    rw[e,R.bE]at h;cases t with
    |v d=>exact fun v G' H' k bc=>h v H' G' (eL.of au k) (s1.trans ⟨k.fy,k.hh,k.new⟩) bc
    |o es=>intro p xs G' H' k h1 h2 h3 h4;have h2:H1 p=none:=h2;have bf:=eL.of au k;have no:¬dM H' σ ρ p:=dM.fresh au k.hh h2;refine h (.ref p) H' _ (bf.take h3 h1 (au.aK.hh.gone h2) no) ((s1.trans ⟨k.fy,k.hh,k.new⟩).put (s1.h.gone h2) h1) ?_;simp only[At];exact⟨p,xs,rfl,eB,h4.mono (Sub.upd h1)⟩
    |t t=>intro v G' H' k q;obtain⟨a1,a2,eE⟩:=(eL.of au k).Cg (F':=⟨F.K,aT,H1,xe E⟩) rfl q (s1.trans ⟨k.fy,k.hh,k.new⟩) fun b hb=>⟨s1.h.gone (q.own b hb).2,au.aK.hh.gone (q.own b hb).2,dM.fresh au k.hh (q.own b hb).2⟩;exact h v H' _ a1 a2 eE
  ·rw[if_neg aC]at h;exact h.elim
theorem PQ{n:Nat}{mf:List D→R bW}{m:aP}{xe:c7→Str→ai→Prop}{E:c7}(hx:F.gS=xe E):eK (j0 F (gv n mf m)) (wZ (ou F.K n xe mf) [] E (ei F m)):=by
 rintro σ H Q ⟨G,ρ,r,h⟩;unfold gv at h;refine⟨G,ρ,r,?_⟩;cases av:m ρ with
 |bad=>rw[av]at h;exact h.elim
 |exc c=>rw[av]at h;exact h
 |ok ds=>
  rw[av,R.bE]at h;intro vs H1 aT au s1 a;by_cases aC:ds.length=n
  ·rw[if_pos aC]at h;rw[List.append_nil];refine⟨aT,ds,au.aK.sub,a,aC,?_⟩;cases e:mf ds with
   |bad=>rw[e]at h;exact h.elim
   |exc c=>rw[e]at h;intro G' H' k;have z:=h G' H' (eL.of au k).aK;rw[hx]at z;exact z
   |ok t=>
    rw[e,R.bE]at h;cases t with
    |v d=>exact h.elim
    |t t=>exact h.elim
    |o es=>intro p xs G' H' k h1 h2 h3 h4;have h2:H1 p=none:=h2;have bf:=eL.of au k;exact h p xs H' G' bf (s1.trans ⟨k.fy,k.hh,k.new⟩) (s1.h.gone h2) h3 h1 h4
  ·rw[if_neg aC]at h;exact h.elim
abbrev r5:=ao→R T
noncomputable def SE(i:Nat)(a:r5):a0:=fun ρ=>(a ρ).bind fun t=>if i<ρ.length then .ok (.bq (ρ.set i (.eA t)))else .bad
def SA(a:r5):a0:=fun ρ=>(a ρ).bind fun t=>.ok (.d4 t)
def HC(i:Nat):r5:=fun ρ=>match ρ[i]? with
 |some (.eA t)=>.ok t
 |_=>.bad
end
end aB
namespace aB
open PySem PySem.Spec aX
def gK:cO→cO
 |.ak d=>.ak d
 |_=>.un
def lL(nl:Nat)(caps:List Nat)(ρ:ao):ao:=List.replicate nl .un++caps.map fun j=>gK (ρ.getD j .un)
noncomputable def fW(set:D→ao→R ao)(tst:b4)(elt:aD):List D→ao→List D→R (List D)
 |[],_,ws=>.ok ws
 |d::ds,ρ,ws=>(set d ρ).bind fun d2=>(tst d2).bind fun b=>if b=true then(elt d2).bind fun y=>if ws.length<1000000 then fW set tst elt ds d2 (ws++[y])else .bad else fW set tst elt ds d2 ws
def gy{α:Type}:R α→R α
 |.exc _=>.bad
 |r=>r
noncomputable def dh(nl:Nat)(caps:List Nat)(mi:aP)(set:D→ao→R ao)(tst:b4)(elt:aD):aP:=fun ρ=>(mi ρ).bind fun ds=>gy (fW set tst elt ds (lL nl caps ρ) [])
def eW(K:PySem.W.Frag)(G H:ai):bt:=⟨K,G,H,fun _ _=>False⟩
def CI(K:PySem.W.Frag)(m:b4):TT:=fun σ H Q=>∃bY bB,fL (eW K bY bB) m σ H Q
def CH(K:PySem.W.Frag)(m:aD):TE:=fun σ H Q=>∃bY bB,cW (eW K bY bB) m σ H Q
def Io:cO→Bool
 |.un=>true|.ak _=>true
 |_=>false
theorem Ip{H:ai}{s:cO}(h:Io s=true)(o:Option V)(a:Addr):¬gd H s o a:=by
 cases s<;>first
  |exact fun z=>z
  |cases h
def oQ(ρ:ao):Prop:=∀(i:Nat)(s:cO),ρ[i]?=some s→Io s=true
theorem HL(nl:Nat)(caps:List Nat)(ρ:ao):oQ (lL nl caps ρ):=fun i s aq=>by
 unfold lL at aq;by_cases hi:i<nl
 ·rw[List.getElem?_append_left (by simpa using hi),List.getElem?_replicate,if_pos hi]at aq;cases aq;rfl
 ·rw[List.getElem?_append_right (by simpa using hi),List.length_replicate,List.getElem?_map]at aq;cases jc:caps[i-nl]? with
  |none=>rw[jc]at aq;cases aq
  |some j=>rw[jc]at aq;have es:gK (ρ.getD j .un)=s:=Option.some.inj aq;subst es;cases hs:ρ.getD j .un<;>rfl
def Keeps(set:D→ao→R ao):Prop:=∀d ρ bo,set d ρ=.ok bo→oQ ρ→oQ bo
theorem wL(i:Nat):Keeps (a8 i):=fun d ρ bo e n j ds z=>by
 unfold a8 at e
 split at e
 ·cases e;rcases get_set z with⟨_,z⟩|⟨_,z⟩
  ·subst z;rfl
  ·exact n j ds z
 ·cases e
theorem Ja:∀{aI:List (D→ao→R ao)},(∀f∈aI,Keeps f)→∀ds ρ bo,gA aI ds ρ=.ok bo→oQ ρ→oQ bo
 |[],_,[],_,_,e,n=>by cases e;exact n
 |[],_,_::_,_,_,e,_=>by cases e
 |_::_,_,[],_,_,e,_=>by cases e
 |f::aI,h,d::ds,ρ,bo,e,n=>by
  simp only[gA]at e;cases aq:f d ρ with
  |bad=>rw[aq]at e;cases e
  |exc c=>rw[aq]at e;cases e
  |ok d2=>rw[aq,R.bE]at e;exact Ja (fun g hg=>h g (by simp[hg])) ds d2 bo e (h f (by simp) d ρ d2 aq n)
theorem BV{aI:List (D→ao→R ao)}(h:∀f∈aI,Keeps f):Keeps (eI aI):=fun d ρ bo e n=>by
 cases d<;>first
  |(exact Ja h _ _ _ e n)
  |(cases e)
section
variable{F:bt}
theorem VE{G H:ai}{σ :St}{ρ:ao}(r:Rel F G H σ ρ){acc:Addr}(ha:H acc=none)(nl:Nat)(caps:List Nat) :
  Rel (eW F.K G H) G (upd H acc (.lst [])) (lM nl caps σ) (lL nl caps ρ):=by
 refine⟨⟨Sub.w9 r.aK.sub (r.aK.sub.gone ha),Sub.refl _,Sub.upd ha,fun _ _=>rfl⟩,by simp[lM,lL],fun i s e=>?_,fun i j b s s' o bJ aq _ _ _ f _=>?_⟩
 ·unfold lL at e;unfold lM;by_cases hi:i<nl
  ·rw[List.getElem?_append_left (by simpa using hi),List.getElem?_replicate,if_pos hi]at e;rw[List.getElem?_append_left (by simpa using hi),List.getElem?_replicate,if_pos hi];cases e;exact⟨none,rfl,trivial⟩
  ·rw[List.getElem?_append_right (by simpa using hi),List.length_replicate,List.getElem?_map]at e;rw[List.getElem?_append_right (by simpa using hi),List.length_replicate,List.getElem?_map];cases jc:caps[i-nl]? with
   |none=>rw[jc]at e;cases e
   |some j=>
    rw[jc]at e;refine⟨σ.getD j none,rfl,?_⟩;have es:gK (ρ.getD j .un)=s:=Option.some.inj e;subst es;cases c_:ρ[j]? with
    |none=>
     have eg:ρ.getD j .un=.un:=by rw[List.getD_eq_getElem?_getD,c_];rfl
     rw[eg];exact trivial
    |some t=>
     have eg:ρ.getD j .un=t:=by rw[List.getD_eq_getElem?_getD,c_];rfl
     rw[eg];obtain⟨o,aq,q⟩:=r.cF j t c_;cases t with
     |un=>exact trivial
     |a4 ds=>exact trivial
     |eA t=>exact trivial
     |ak d=>obtain⟨v,az,a⟩:=q;refine⟨v,?_,a⟩;rw[List.getD_eq_getElem?_getD,aq,az];rfl
 ·exact absurd f (Ip (HL nl caps ρ i s aq) o b)
theorem PR{nl:Nat}{caps:List Nat}{mi:aP}{set:D→ao→R ao}{tst:b4}{elt:aD}{g:hH}(hg:∀G H,mm (eW F.K G H) g set)(hx:∀d ρ c,set d ρ≠.exc c)(hk:Keeps set) :
  eK (j0 F (dh nl caps mi set tst elt)) (w0 (kz F mi) g (CI F.K tst) (CH F.K elt) nl caps):=by
 rintro σ H Q ⟨G,ρ,r,h⟩;unfold dh at h;refine⟨G,ρ,r,?_⟩;cases av:mi ρ with
 |bad=>rw[av]at h;exact h.elim
 |exc c=>rw[av]at h;exact h
 |ok ds=>
  rw[av,R.bE]at h;intro cq H1 aT au kA it acc ha;cases c_:fW set tst elt ds (lL nl caps ρ) []with
  |bad=>rw[c_]at h;exact h.elim
  |exc c=>rw[c_]at h;exact h.elim
  |ok res=>
   rw[c_]at h
   refine⟨fun i m σ2 a9=>m=ds.length-i∧i≤ds.length∧∃dj eC ys ws,Rel (eW F.K aT H1) dj a9 σ2 eC∧oQ eC∧a9 acc=some (.lst ys)∧dj acc=none∧aL F.K dj ws ys∧fW set tst elt (ds.drop i) eC ws=.ok res,
    ⟨ds.length,by simp,Nat.zero_le _,aT,_,[],[],VE au ha nl caps,HL _ _ _,eB,au.aK.sub.gone ha,.nil,by simpa using c_⟩,?_⟩
   rintro i m σ2 a9 ⟨rfl,hi,dj,eC,ys,ws,bh,c2,h1,h2,h3,h4⟩;have aY:Sub aT dj:=bh.aK.fy;by_cases fB:i<ds.length
   ·refine .inr ⟨it.go i a9 (aY.trans bh.aK.sub) fB,fun x dk y=>?_⟩;obtain⟨d,gn,b7,dX,iv,eE⟩:=kJ.turn (F:=eW F.K aT H1) it bh aY fB y;have ek:ds.drop i=d::ds.drop (i+1):=by
     rw[List.drop_eq_getElem_cons fB];have:=List.getElem?_eq_getElem fB;rw[b7]at this;rw[Option.some.inj this]
    rw[ek]at h4;simp only[fW]at h4;cases eu:set d eC with
    |bad=>rw[eu]at h4;cases h4
    |exc c=>exact absurd eu (hx d eC c)
    |ok iy=>
     rw[eu,R.bE]at h4;refine hg aT H1 σ2 eC gn dk x d _ iy dX eE eu fun σ5 oi=>⟨aT,H1,gn,iy,oi,?_⟩;have tD:oQ iy:=hk d eC iy eu c2;have Dv:dk acc=some (.lst ys):=iv.h _ _ h1;have g3:gn acc=none:=by rw[iv.n acc (by rw[h1];exact fun z=>nomatch z)];exact h2
     cases gZ:tst iy with
     |bad=>rw[gZ]at h4;cases h4
     |exc c=>rw[gZ]at h4;cases h4
     |ok b=>
      rw[gZ,R.bE]at h4;intro qw uo AJ Ct;have xV:qw acc=some (.lst ys):=Ct.h _ _ Dv;have za:uo acc=none:=by rw[Ct.n acc (by rw[Dv];exact fun z=>nomatch z)];exact g3
      have i9:aL F.K uo ws ys:=(h3.mono iv.g).mono Ct.g;cases b with
      |false=>rw[if_neg Bool.false_ne_true]at h4;rw[if_neg Bool.false_ne_true];exact⟨_,by omega,rfl,fB,uo,iy,ys,ws,AJ,tD,xV,za,i9,h4⟩
      |true=>
       rw[if_pos rfl]at h4;rw[if_pos rfl];refine⟨aT,H1,uo,iy,AJ,?_⟩;cases sm:elt iy with
       |bad=>rw[sm]at h4;cases h4
       |exc c=>rw[sm]at h4;cases h4
       |ok y=>
        rw[sm,R.bE]at h4;intro C2 xD xC oj u8 xU;have Lf:xD acc=some (.lst ys):=u8.h _ _ xV;have zb:xC acc=none:=by rw[u8.n acc (by rw[xV];exact fun z=>nomatch z)];exact za
        by_cases hl:ws.length<1000000
        ·rw[if_pos hl]at h4;have Dy:aL F.K xC ws ys:=i9.mono u8.g;refine⟨ys,Lf,by rw[←Dy.length];exact Nat.lt_trans hl (by decide),_,by omega,rfl,fB,xC,iy,ys++[C2],ws++[y],?_,tD,eB,zb,Dy.snoc xU,h4⟩;have k0:(eW F.K aT H1).bB acc=none:=ha;refine⟨⟨Sub.w9 oj.aK.sub zb,oj.aK.fy,fun c o z=>?_,oj.aK.new⟩,oj.len,fun j t z=>?_,fun j k b s s' o bJ fD _ _ _ f _=>absurd f (Ip (tD j s fD) o b)⟩
         ·rw[dJ (jk z k0)];exact oj.aK.hh c o z
         ·obtain⟨o,bg,aZ⟩:=oj.cF j t z;refine⟨o,bg,?_⟩;cases t with
          |un=>exact trivial
          |ak d=>exact aZ
          |a4 es=>exact absurd (tD j _ z) (fun w=>nomatch w)
          |eA es=>exact absurd (tD j _ z) (fun w=>nomatch w)
        ·rw[if_neg hl]at h4;cases h4
   ·have e:ds.drop i=[]:=List.drop_eq_nil_of_le (by omega);rw[e]at h4;simp only[fW]at h4;cases h4;have iH:i=ds.length:=by omega
    subst iH;refine .inl ⟨it.stop a9 (aY.trans bh.aK.sub),?_⟩;have k:eL ⟨F.K,aT,H1,fun _ _=>False⟩ dj a9:=bh.aK;exact h acc ys a9 dj (eL.of au k) (kA.trans ⟨k.fy,k.hh,k.new⟩) (kA.h.gone ha) h1 h2 h3
end
mutual
noncomputable def bu:D→D→Bool
 |.non,.non=>true
 |.ax a,.ax b=>a==b
 |.ax a,.int b=>(if a then 1 else 0)==b
 |.int a,.ax b=>a==(if b then 1 else 0)
 |.int a,.int b=>a==b
 |.str a,.str b=>a==b
 |.tup xs,.tup ys=>dT xs ys
 |.tup xs,.dy ys=>dT xs ys
 |.dy xs,.tup ys=>dT xs ys
 |.dy xs,.dy ys=>dT xs ys
 |.lst xs,.lst ys=>dT xs ys
 |.lst xs,.cy ys=>dT xs ys
 |.cy xs,.lst ys=>dT xs ys
 |.cy xs,.cy ys=>dT xs ys
 |_,_=>false
noncomputable def dT:List D→List D→Bool
 |[],[]=>true
 |x::xs,y::ys=>bu x y&&dT xs ys
 |_,_=>false
end
noncomputable def okN:Nat→D→Bool
 |_,.non=>true
 |_,.ax _=>true
 |_,.int _=>true
 |_,.str _=>true
 |n+1,.tup xs=>xs.all (okN n)
 |n+1,.dy xs=>xs.all (okN n)
 |n+1,.lst xs=>xs.all (okN n)
 |n+1,.cy xs=>xs.all (okN n)
 |_,_=>false
inductive jz(s:Shared)(P:D→Value→Prop):D→Value→Prop where
 |non:jz s P .non .none
 |ax (b:Bool):jz s P (.ax b) (.bool b)
 |int (i:Int) (t:Tok):jz s P (.int i) (.int i t)
 |str (x:Str) (t:Tok):jz s P (.str x) (.str x t)
 |tup (a:Addr) (ds:List D) (its:List Value) (h:s.heap.IsTuple a its.toArray) (l:ds.length=its.length) (p:∀(i:Nat) d u,ds[i]?=some d→its[i]?=some u→P d u):jz s P (.tup ds) (.ref a)
 |dy (a:Addr) (ds:List D) (its:List Value) (h:s.heap.IsTuple a its.toArray) (l:ds.length=its.length) (p:∀(i:Nat) d u,ds[i]?=some d→its[i]?=some u→P d u):jz s P (.dy ds) (.ref a)
 |lst (a:Addr) (ds:List D) (its:List Value) (h:s.heap.IsList a its.toArray) (l:ds.length=its.length) (p:∀(i:Nat) d u,ds[i]?=some d→its[i]?=some u→P d u):jz s P (.lst ds) (.ref a)
 |cy (a:Addr) (ds:List D) (its:List Value) (h:s.heap.IsList a its.toArray) (l:ds.length=its.length) (p:∀(i:Nat) d u,ds[i]?=some d→its[i]?=some u→P d u):jz s P (.cy ds) (.ref a)
def lC(K:PySem.W.Frag)(G:ai)(d:D)(u:Value):Prop:=∃x,At K G d x∧RelV x u
section
variable{X:aM}{pins:List (Addr×Obj)}{σ :St}{H G:ai}{s:Shared}
theorem q2{K:PySem.W.Frag}{ds:List D}{xs:List V}{its:List Value}(q:aL K G ds xs)(r:Vals xs its):∀(i:Nat) d u,ds[i]?=some d→its[i]?=some u→lC K G d u:=fun i d u aq az=>by obtain⟨v,b7,a⟩:=q.get aq;obtain⟨iu,eu,bV⟩:=r.get b7;rw[az]at eu;cases eu;exact⟨v,a,bV⟩
theorem ot(I:Inv X pins σ H s)(aY:Sub G H){d:D}{u:Value}{n:Nat}(ok:okN n d=true)(h:lC X.K G d u):jz s (lC X.K G) d u:=by
 obtain⟨x,a,r⟩:=h;cases d with
 |non=>simp only[At]at a;subst a;cases r;exact .non
 |ax b=>simp only[At]at a;subst a;cases r;exact .ax b
 |int i=>simp only[At]at a;subst a;obtain⟨t,rfl⟩:=r;exact .int i t
 |str i=>simp only[At]at a;subst a;obtain⟨t,rfl⟩:=r;exact .str i t
 |tup ds=>simp only[At]at a;obtain⟨p,xs,rfl,aJ,al⟩:=a;cases r;obtain⟨its,bV,ht,_⟩:=I.tuple (cS.of (aY _ _ aJ));exact .tup p ds its ht (al.length.trans bV.length) (q2 al bV)
 |lst ds=>simp only[At]at a;obtain⟨p,xs,rfl,aJ,al⟩:=a;cases r;obtain⟨its,bV,ht,_⟩:=I.list (bP.of (aY _ _ aJ));exact .lst p ds its ht.isList (al.length.trans bV.length) (q2 al bV)
 |cy ds=>simp only[At]at a;obtain⟨p,xs,rfl,aJ,al⟩:=a;cases r;obtain⟨its,bV,ht,_⟩:=I.list (bP.mono aY aJ);exact .cy p ds its ht.isList (al.length.trans bV.length) (q2 al bV)
 |dm aH xs=>cases n<;>cases ok
 |bK aH xs=>cases n<;>cases ok
 |ins C ns xs=>cases n<;>cases ok
 |qU C=>cases n<;>cases ok
 |dy ds=>simp only[At]at a;obtain⟨p,xs,rfl,aJ,al⟩:=a;cases r;obtain⟨its,bV,ht,_⟩:=I.tuple (cS.mono aY aJ);exact .dy p ds its ht (al.length.trans bV.length) (q2 al bV)
theorem y0:∀{xs ys:List D},xs.length≠ys.length→dT xs ys=false
 |[],[],h=>absurd rfl h
 |[],_::_,_=>by simp only[dT]
 |_::_,[],_=>by simp only[dT]
 |x::xs,y::ys,h=>by simp only[dT];rw[y0 (fun e=>h (by simp[e])),Bool.and_false]
def kZ(xs ys:List D)(j:Nat):Bool:=match xs[j]?,ys[j]? with
 |some x,some y=>bu x y
 |_,_=>true
theorem Lm(f:Nat→Bool)(n:Nat):(List.range (n+1)).all f=(f 0&&(List.range n).all fun j=>f (j+1)):=by rw[List.range_succ_eq_map,List.all_cons,List.all_map];rfl
theorem y1:∀{xs ys:List D},xs.length=ys.length→(List.range xs.length).all (kZ xs ys)=dT xs ys
 |[],[],_=>by simp[dT]
 |[],_::_,h=>by simp at h
 |_::_,[],h=>by simp at h
 |x::xs,y::ys,h=>by
  rw[List.length_cons,Lm];have e:(fun j=>kZ (x::xs) (y::ys) (j+1))=kZ xs ys:=by
   funext j
   simp[kZ]
  rw[e,y1 (by simpa using h)];simp only[dT];rfl
theorem in1_units(A:Around):A.in1.units=A.units+1:=rfl
theorem I5{A:Around}{P:D→Value→Prop}{d1 ct:D}{u v:Value}(h1:jz s P d1 u)(h2:jz s P ct v)(cA:gz d1=true)(b3:gz ct=true) :
  SeqAt.EqAt A s u v (bu d1 ct)∧SeqAt.RcAt A s u v (bu d1 ct)∧SeqAt.RcNeAt A s u v (!bu d1 ct):=by
 cases h1 with
 |non=>
  cases h2 with
  |non=>simp only[bu];exact⟨SeqAt.EqAt.same _,SeqAt.RcAt.none_none,SeqAt.RcNeAt.none_none⟩
  |ax dg=>simp only[bu];exact⟨SeqAt.EqAt.none_bool _,SeqAt.RcAt.none_bool _,SeqAt.RcNeAt.none_bool _⟩
  |int bz b2=>simp only[bu];exact⟨SeqAt.EqAt.none_int _ _,SeqAt.RcAt.none_int _ _,SeqAt.RcNeAt.none_int _ _⟩
  |str cc b2=>simp only[bu];exact⟨SeqAt.EqAt.none_str _ _,SeqAt.RcAt.none_str _ _,SeqAt.RcNeAt.none_str _ _⟩
  |tup=>cases b3
  |dy=>cases b3
  |lst=>cases b3
  |cy=>cases b3
 |ax d_=>
  cases h2 with
  |non=>simp only[bu];exact⟨SeqAt.EqAt.bool_none _,SeqAt.RcAt.bool_none _,SeqAt.RcNeAt.bool_none _⟩
  |ax dg=>simp only[bu];exact⟨SeqAt.EqAt.bool_bool _ _,SeqAt.RcAt.bool_bool _ _,SeqAt.RcNeAt.bool_bool _ _⟩
  |int bz b2=>simp only[bu];exact⟨SeqAt.EqAt.bool_int _ _ _,SeqAt.RcAt.bool_int _ _ _,SeqAt.RcNeAt.bool_int _ _ _⟩
  |str cc b2=>simp only[bu];exact⟨SeqAt.EqAt.bool_str _ _ _,SeqAt.RcAt.bool_str _ _ _,SeqAt.RcNeAt.bool_str _ _ _⟩
  |tup=>cases b3
  |dy=>cases b3
  |lst=>cases b3
  |cy=>cases b3
 |int bk t1=>
  cases h2 with
  |non=>simp only[bu];exact⟨SeqAt.EqAt.int_none _ _,SeqAt.RcAt.int_none _ _,SeqAt.RcNeAt.int_none _ _⟩
  |ax dg=>simp only[bu];exact⟨SeqAt.EqAt.int_bool _ _ _,SeqAt.RcAt.int_bool _ _ _,SeqAt.RcNeAt.int_bool _ _ _⟩
  |int bz b2=>simp only[bu];exact⟨SeqAt.EqAt.int_int _ _ _ _,SeqAt.RcAt.int_int _ _ _ _,SeqAt.RcNeAt.int_int _ _ _ _⟩
  |str cc b2=>simp only[bu];exact⟨SeqAt.EqAt.int_str _ _ _ _,SeqAt.RcAt.int_str _ _ _ _,SeqAt.RcNeAt.int_str _ _ _ _⟩
  |tup=>cases b3
  |dy=>cases b3
  |lst=>cases b3
  |cy=>cases b3
 |str e2 t1=>
  cases h2 with
  |non=>simp only[bu];exact⟨SeqAt.EqAt.str_none _ _,SeqAt.RcAt.str_none _ _,SeqAt.RcNeAt.str_none _ _⟩
  |ax dg=>simp only[bu];exact⟨SeqAt.EqAt.str_bool _ _ _,SeqAt.RcAt.str_bool _ _ _,SeqAt.RcNeAt.str_bool _ _ _⟩
  |int bz b2=>simp only[bu];exact⟨SeqAt.EqAt.str_int _ _ _ _,SeqAt.RcAt.str_int _ _ _ _,SeqAt.RcNeAt.str_int _ _ _ _⟩
  |str cc b2=>simp only[bu];exact⟨SeqAt.EqAt.str_str _ _ _ _,SeqAt.RcAt.str_str _ _ _ _,SeqAt.RcNeAt.str_str _ _ _ _⟩
  |tup=>cases b3
  |dy=>cases b3
  |lst=>cases b3
  |cy=>cases b3
 |tup=>cases cA
 |dy=>cases cA
 |lst=>cases cA
 |cy=>cases cA
theorem HF{A:Around}{P:D→Value→Prop}{d1 ct:D}{u v:Value}(hu:A.units<cLine)(h1:jz s P d1 u)(h2:jz s P ct v)(o:gz d1=true∧gz ct=false∨gz d1=false∧gz ct=true) :
  SeqAt.EqAt A s u v (bu d1 ct)∧SeqAt.RcAt A s u v (bu d1 ct)∧SeqAt.RcNeAt A s u v (!bu d1 ct):=by
 cases h1 with
 |non=>
  cases h2 with
  |non=>rcases o with⟨bg,aZ⟩|⟨bg,aZ⟩<;>first|(cases bg;done)|(cases aZ;done)
  |ax=>rcases o with⟨bg,aZ⟩|⟨bg,aZ⟩<;>first|(cases bg;done)|(cases aZ;done)
  |int=>rcases o with⟨bg,aZ⟩|⟨bg,aZ⟩<;>first|(cases bg;done)|(cases aZ;done)
  |str=>rcases o with⟨bg,aZ⟩|⟨bg,aZ⟩<;>first|(cases bg;done)|(cases aZ;done)
  |tup a2 d7 ey cu cf cB=>simp only[bu,Bool.not_false];exact⟨SeqAt.EqAt.none_tuple cu hu,SeqAt.RcAt.none_tuple cu hu,SeqAt.RcNeAt.none_tuple cu hu⟩
  |dy a2 d7 ey cu cf cB=>simp only[bu,Bool.not_false];exact⟨SeqAt.EqAt.none_tuple cu hu,SeqAt.RcAt.none_tuple cu hu,SeqAt.RcNeAt.none_tuple cu hu⟩
  |lst a2 d7 ey cu cf cB=>simp only[bu,Bool.not_false];exact⟨SeqAt.EqAt.none_list cu hu,SeqAt.RcAt.none_list cu hu,SeqAt.RcNeAt.none_list cu hu⟩
  |cy a2 d7 ey cu cf cB=>simp only[bu,Bool.not_false];exact⟨SeqAt.EqAt.none_list cu hu,SeqAt.RcAt.none_list cu hu,SeqAt.RcNeAt.none_list cu hu⟩
 |ax d_=>
  cases h2 with
  |non=>rcases o with⟨bg,aZ⟩|⟨bg,aZ⟩<;>first|(cases bg;done)|(cases aZ;done)
  |ax=>rcases o with⟨bg,aZ⟩|⟨bg,aZ⟩<;>first|(cases bg;done)|(cases aZ;done)
  |int=>rcases o with⟨bg,aZ⟩|⟨bg,aZ⟩<;>first|(cases bg;done)|(cases aZ;done)
  |str=>rcases o with⟨bg,aZ⟩|⟨bg,aZ⟩<;>first|(cases bg;done)|(cases aZ;done)
  |tup a2 d7 ey cu cf cB=>simp only[bu,Bool.not_false];exact⟨SeqAt.EqAt.bool_tuple _ cu hu,SeqAt.RcAt.bool_tuple _ cu hu,SeqAt.RcNeAt.bool_tuple _ cu hu⟩
  |dy a2 d7 ey cu cf cB=>simp only[bu,Bool.not_false];exact⟨SeqAt.EqAt.bool_tuple _ cu hu,SeqAt.RcAt.bool_tuple _ cu hu,SeqAt.RcNeAt.bool_tuple _ cu hu⟩
  |lst a2 d7 ey cu cf cB=>simp only[bu,Bool.not_false];exact⟨SeqAt.EqAt.bool_list _ cu hu,SeqAt.RcAt.bool_list _ cu hu,SeqAt.RcNeAt.bool_list _ cu hu⟩
  |cy a2 d7 ey cu cf cB=>simp only[bu,Bool.not_false];exact⟨SeqAt.EqAt.bool_list _ cu hu,SeqAt.RcAt.bool_list _ cu hu,SeqAt.RcNeAt.bool_list _ cu hu⟩
 |int bk t1=>
  cases h2 with
  |non=>rcases o with⟨bg,aZ⟩|⟨bg,aZ⟩<;>first|(cases bg;done)|(cases aZ;done)
  |ax=>rcases o with⟨bg,aZ⟩|⟨bg,aZ⟩<;>first|(cases bg;done)|(cases aZ;done)
  |int=>rcases o with⟨bg,aZ⟩|⟨bg,aZ⟩<;>first|(cases bg;done)|(cases aZ;done)
  |str=>rcases o with⟨bg,aZ⟩|⟨bg,aZ⟩<;>first|(cases bg;done)|(cases aZ;done)
  |tup a2 d7 ey cu cf cB=>simp only[bu,Bool.not_false];exact⟨SeqAt.EqAt.int_tuple _ _ cu hu,SeqAt.RcAt.int_tuple _ _ cu hu,SeqAt.RcNeAt.int_tuple _ _ cu hu⟩
  |dy a2 d7 ey cu cf cB=>simp only[bu,Bool.not_false];exact⟨SeqAt.EqAt.int_tuple _ _ cu hu,SeqAt.RcAt.int_tuple _ _ cu hu,SeqAt.RcNeAt.int_tuple _ _ cu hu⟩
  |lst a2 d7 ey cu cf cB=>simp only[bu,Bool.not_false];exact⟨SeqAt.EqAt.int_list _ _ cu hu,SeqAt.RcAt.int_list _ _ cu hu,SeqAt.RcNeAt.int_list _ _ cu hu⟩
  |cy a2 d7 ey cu cf cB=>simp only[bu,Bool.not_false];exact⟨SeqAt.EqAt.int_list _ _ cu hu,SeqAt.RcAt.int_list _ _ cu hu,SeqAt.RcNeAt.int_list _ _ cu hu⟩
 |str e2 t1=>
  cases h2 with
  |non=>rcases o with⟨bg,aZ⟩|⟨bg,aZ⟩<;>first|(cases bg;done)|(cases aZ;done)
  |ax=>rcases o with⟨bg,aZ⟩|⟨bg,aZ⟩<;>first|(cases bg;done)|(cases aZ;done)
  |int=>rcases o with⟨bg,aZ⟩|⟨bg,aZ⟩<;>first|(cases bg;done)|(cases aZ;done)
  |str=>rcases o with⟨bg,aZ⟩|⟨bg,aZ⟩<;>first|(cases bg;done)|(cases aZ;done)
  |tup a2 d7 ey cu cf cB=>simp only[bu,Bool.not_false];exact⟨SeqAt.EqAt.str_tuple _ _ cu hu,SeqAt.RcAt.str_tuple _ _ cu hu,SeqAt.RcNeAt.str_tuple _ _ cu hu⟩
  |dy a2 d7 ey cu cf cB=>simp only[bu,Bool.not_false];exact⟨SeqAt.EqAt.str_tuple _ _ cu hu,SeqAt.RcAt.str_tuple _ _ cu hu,SeqAt.RcNeAt.str_tuple _ _ cu hu⟩
  |lst a2 d7 ey cu cf cB=>simp only[bu,Bool.not_false];exact⟨SeqAt.EqAt.str_list _ _ cu hu,SeqAt.RcAt.str_list _ _ cu hu,SeqAt.RcNeAt.str_list _ _ cu hu⟩
  |cy a2 d7 ey cu cf cB=>simp only[bu,Bool.not_false];exact⟨SeqAt.EqAt.str_list _ _ cu hu,SeqAt.RcAt.str_list _ _ cu hu,SeqAt.RcNeAt.str_list _ _ cu hu⟩
 |tup a1 fw kl cL dU eG=>
  cases h2 with
  |non=>simp only[bu,Bool.not_false];exact⟨SeqAt.EqAt.tuple_none cL hu,SeqAt.RcAt.tuple_none cL hu,SeqAt.RcNeAt.tuple_none cL hu⟩
  |ax dg=>simp only[bu,Bool.not_false];exact⟨SeqAt.EqAt.tuple_bool _ cL hu,SeqAt.RcAt.tuple_bool _ cL hu,SeqAt.RcNeAt.tuple_bool _ cL hu⟩
  |int bz b2=>simp only[bu,Bool.not_false];exact⟨SeqAt.EqAt.tuple_int _ _ cL hu,SeqAt.RcAt.tuple_int _ _ cL hu,SeqAt.RcNeAt.tuple_int _ _ cL hu⟩
  |str cc b2=>simp only[bu,Bool.not_false];exact⟨SeqAt.EqAt.tuple_str _ _ cL hu,SeqAt.RcAt.tuple_str _ _ cL hu,SeqAt.RcNeAt.tuple_str _ _ cL hu⟩
  |tup=>rcases o with⟨bg,aZ⟩|⟨bg,aZ⟩<;>first|(cases bg;done)|(cases aZ;done)
  |dy=>rcases o with⟨bg,aZ⟩|⟨bg,aZ⟩<;>first|(cases bg;done)|(cases aZ;done)
  |lst=>rcases o with⟨bg,aZ⟩|⟨bg,aZ⟩<;>first|(cases bg;done)|(cases aZ;done)
  |cy=>rcases o with⟨bg,aZ⟩|⟨bg,aZ⟩<;>first|(cases bg;done)|(cases aZ;done)
 |dy a1 fw kl cL dU eG=>
  cases h2 with
  |non=>simp only[bu,Bool.not_false];exact⟨SeqAt.EqAt.tuple_none cL hu,SeqAt.RcAt.tuple_none cL hu,SeqAt.RcNeAt.tuple_none cL hu⟩
  |ax dg=>simp only[bu,Bool.not_false];exact⟨SeqAt.EqAt.tuple_bool _ cL hu,SeqAt.RcAt.tuple_bool _ cL hu,SeqAt.RcNeAt.tuple_bool _ cL hu⟩
  |int bz b2=>simp only[bu,Bool.not_false];exact⟨SeqAt.EqAt.tuple_int _ _ cL hu,SeqAt.RcAt.tuple_int _ _ cL hu,SeqAt.RcNeAt.tuple_int _ _ cL hu⟩
  |str cc b2=>simp only[bu,Bool.not_false];exact⟨SeqAt.EqAt.tuple_str _ _ cL hu,SeqAt.RcAt.tuple_str _ _ cL hu,SeqAt.RcNeAt.tuple_str _ _ cL hu⟩
  |tup=>rcases o with⟨bg,aZ⟩|⟨bg,aZ⟩<;>first|(cases bg;done)|(cases aZ;done)
  |dy=>rcases o with⟨bg,aZ⟩|⟨bg,aZ⟩<;>first|(cases bg;done)|(cases aZ;done)
  |lst=>rcases o with⟨bg,aZ⟩|⟨bg,aZ⟩<;>first|(cases bg;done)|(cases aZ;done)
  |cy=>rcases o with⟨bg,aZ⟩|⟨bg,aZ⟩<;>first|(cases bg;done)|(cases aZ;done)
 |lst a1 fw kl cL dU eG=>
  cases h2 with
  |non=>simp only[bu,Bool.not_false];exact⟨SeqAt.EqAt.list_none cL hu,SeqAt.RcAt.list_none cL hu,SeqAt.RcNeAt.list_none cL hu⟩
  |ax dg=>simp only[bu,Bool.not_false];exact⟨SeqAt.EqAt.list_bool _ cL hu,SeqAt.RcAt.list_bool _ cL hu,SeqAt.RcNeAt.list_bool _ cL hu⟩
  |int bz b2=>simp only[bu,Bool.not_false];exact⟨SeqAt.EqAt.list_int _ _ cL hu,SeqAt.RcAt.list_int _ _ cL hu,SeqAt.RcNeAt.list_int _ _ cL hu⟩
  |str cc b2=>simp only[bu,Bool.not_false];exact⟨SeqAt.EqAt.list_str _ _ cL hu,SeqAt.RcAt.list_str _ _ cL hu,SeqAt.RcNeAt.list_str _ _ cL hu⟩
  |tup=>rcases o with⟨bg,aZ⟩|⟨bg,aZ⟩<;>first|(cases bg;done)|(cases aZ;done)
  |dy=>rcases o with⟨bg,aZ⟩|⟨bg,aZ⟩<;>first|(cases bg;done)|(cases aZ;done)
  |lst=>rcases o with⟨bg,aZ⟩|⟨bg,aZ⟩<;>first|(cases bg;done)|(cases aZ;done)
  |cy=>rcases o with⟨bg,aZ⟩|⟨bg,aZ⟩<;>first|(cases bg;done)|(cases aZ;done)
 |cy a1 fw kl cL dU eG=>
  cases h2 with
  |non=>simp only[bu,Bool.not_false];exact⟨SeqAt.EqAt.list_none cL hu,SeqAt.RcAt.list_none cL hu,SeqAt.RcNeAt.list_none cL hu⟩
  |ax dg=>simp only[bu,Bool.not_false];exact⟨SeqAt.EqAt.list_bool _ cL hu,SeqAt.RcAt.list_bool _ cL hu,SeqAt.RcNeAt.list_bool _ cL hu⟩
  |int bz b2=>simp only[bu,Bool.not_false];exact⟨SeqAt.EqAt.list_int _ _ cL hu,SeqAt.RcAt.list_int _ _ cL hu,SeqAt.RcNeAt.list_int _ _ cL hu⟩
  |str cc b2=>simp only[bu,Bool.not_false];exact⟨SeqAt.EqAt.list_str _ _ cL hu,SeqAt.RcAt.list_str _ _ cL hu,SeqAt.RcNeAt.list_str _ _ cL hu⟩
  |tup=>rcases o with⟨bg,aZ⟩|⟨bg,aZ⟩<;>first|(cases bg;done)|(cases aZ;done)
  |dy=>rcases o with⟨bg,aZ⟩|⟨bg,aZ⟩<;>first|(cases bg;done)|(cases aZ;done)
  |lst=>rcases o with⟨bg,aZ⟩|⟨bg,aZ⟩<;>first|(cases bg;done)|(cases aZ;done)
  |cy=>rcases o with⟨bg,aZ⟩|⟨bg,aZ⟩<;>first|(cases bg;done)|(cases aZ;done)
theorem EA:∀{xs ys:List D},xs.length=ys.length→(∀(i:Nat) x y,xs[i]?=some x→ys[i]?=some y→bu x y=true)→dT xs ys=true
 |[],[],_,_=>by simp only[dT]
 |[],_::_,h,_=>by simp at h
 |_::_,[],h,_=>by simp at h
 |x::xs,y::ys,h,k=>by simp only[dT];rw[k 0 x y rfl rfl,EA (by simpa using h) fun i a b aq az=>k (i+1) a b (by simpa using aq) (by simpa using az)];rfl
theorem I7{K:PySem.W.Frag}{d1 ct:D}{x:V}(cA:gz d1=true)(a1:At K G d1 x)(a2:At K G ct x):bu d1 ct=true:=by
 cases d1 with
 |non=>simp only[At]at a1;subst a1;cases ct<;>simp only[At]at a2<;>first|(simp only[bu];done)|(cases a2;done)|(obtain⟨a,xs,e,_⟩:=a2;cases e;done)|(obtain⟨a,a5,xs,e,_⟩:=a2;cases e;done)
 |ax b=>simp only[At]at a1;subst a1;cases ct<;>simp only[At]at a2<;>first|(cases a2;simp only[bu,beq_self_eq_true];done)|(cases a2;done)|(obtain⟨a,xs,e,_⟩:=a2;cases e;done)|(obtain⟨a,a5,xs,e,_⟩:=a2;cases e;done)
 |int b=>simp only[At]at a1;subst a1;cases ct<;>simp only[At]at a2<;>first|(cases a2;simp only[bu,beq_self_eq_true];done)|(cases a2;done)|(obtain⟨a,xs,e,_⟩:=a2;cases e;done)|(obtain⟨a,a5,xs,e,_⟩:=a2;cases e;done)
 |str b=>simp only[At]at a1;subst a1;cases ct<;>simp only[At]at a2<;>first|(cases a2;simp only[bu,beq_self_eq_true];done)|(cases a2;done)|(obtain⟨a,xs,e,_⟩:=a2;cases e;done)|(obtain⟨a,a5,xs,e,_⟩:=a2;cases e;done)
 |_=>cases cA
theorem Ez{d1 ct:D}(b3:gz ct=true)(cA:gz d1=false){K:PySem.W.Frag}{x:V}(a1:At K G d1 x)(a2:At K G ct x):False:=by
 cases ct<;>first
  |(cases b3;done)
  |(simp only[At]at a2;subst a2
    cases d1<;>first
     |(cases cA;done)
     |(simp only[At]at a1;obtain⟨a,xs,e,_⟩:=a1;cases e;done)
     |(simp only[At]at a1;obtain⟨a,a5,xs,e,_⟩:=a1;cases e;done))
inductive gJ(K:PySem.W.Frag)(G:ai):D→Addr→Bool→List D→List V→Prop where
 |tup {a ds xs} (h:cS K G a xs) (q:aL K G ds xs):gJ K G (.tup ds) a true ds xs
 |dy {a ds xs} (h:cS K G a xs) (q:aL K G ds xs):gJ K G (.dy ds) a true ds xs
 |lst {a ds xs} (h:G a=some (.lst xs)) (q:aL K G ds xs):gJ K G (.lst ds) a false ds xs
 |cy {a ds xs} (h:bP K G a xs) (q:aL K G ds xs):gJ K G (.cy ds) a false ds xs
theorem rK{K:PySem.W.Frag}{n:Nat}{d:D}{x:V}(o:okN n d=true)(ns:gz d=false)(a:At K G d x):∃p b ds xs,x=.ref p∧gJ K G d p b ds xs∧∃m,n=m+1∧ds.all (okN m)=true:=by
 cases d with
 |tup ds=>
  simp only[At]at a;obtain⟨p,xs,e,h,q⟩:=a;cases n with
  |zero=>cases o
  |succ m=>exact⟨p,_,ds,xs,e,.tup (cS.of h) q,m,rfl,o⟩
 |lst ds=>
  simp only[At]at a;obtain⟨p,xs,e,h,q⟩:=a;cases n with
  |zero=>cases o
  |succ m=>exact⟨p,_,ds,xs,e,.lst h q,m,rfl,o⟩
 |cy ds=>
  simp only[At]at a;obtain⟨p,xs,e,h,q⟩:=a;cases n with
  |zero=>cases o
  |succ m=>exact⟨p,_,ds,xs,e,.cy h q,m,rfl,o⟩
 |dm _ _=>cases n<;>cases o
 |bK _ _=>cases n<;>cases o
 |ins _ _ _=>cases n<;>cases o
 |qU _=>cases n<;>cases o
 |dy ds=>
  simp only[At]at a;obtain⟨p,xs,e,h,q⟩:=a;cases n with
  |zero=>cases o
  |succ m=>exact⟨p,_,ds,xs,e,.dy h q,m,rfl,o⟩
 |_=>cases ns
theorem gJ.gW{K:PySem.W.Frag}{d:D}{p:Addr}{b:Bool}{ds:List D}{xs:List V}(h:gJ K G d p b ds xs):aL K G ds xs:=by cases h<;>assumption
theorem gJ.eq{K:PySem.W.Frag}{d1 ct:D}{eG cB:Addr}{d_ dg:Bool}{fw d7:List D}{oF oG:List V}(h1:gJ K G d1 eG d_ fw oF)(h2:gJ K G ct cB dg d7 oG):bu d1 ct=(d_==dg&&dT fw d7):=by cases h1<;>cases h2<;>simp[bu]
theorem gJ.heap(I:Inv X pins σ H s)(aY:Sub G H){d:D}{p:Addr}{b:Bool}{ds:List D}{xs:List V}(h:gJ X.K G d p b ds xs) :
  ∃its:List Value,Vals xs its∧(b=true→s.heap.IsTuple p its.toArray)∧(b=false→s.heap.IsList p its.toArray):=by
 cases h with
 |tup h q=>obtain⟨its,bV,ht,_⟩:=I.tuple (cS.mono aY h);exact⟨its,bV,fun _=>ht,fun z=>by cases z⟩
 |dy h q=>obtain⟨its,bV,ht,_⟩:=I.tuple (cS.mono aY h);exact⟨its,bV,fun _=>ht,fun z=>by cases z⟩
 |lst h q=>obtain⟨its,bV,ht,_⟩:=I.list (bP.of (aY _ _ h));exact⟨its,bV,(fun z=>by cases z),fun _=>ht.isList⟩
 |cy h q=>obtain⟨its,bV,ht,_⟩:=I.list (bP.mono aY h);exact⟨its,bV,(fun z=>by cases z),fun _=>ht.isList⟩
theorem gJ.same(I:Inv X pins σ H s)(aY:Sub G H){d1 ct:D}{p:Addr}{d_ dg:Bool}{fw d7:List D}{oF oG:List V}(h1:gJ X.K G d1 p d_ fw oF)(h2:gJ X.K G ct p dg d7 oG):d_=dg∧oF=oG:=by
 obtain⟨kl,au,t1,dU⟩:=h1.heap I aY;obtain⟨ey,bh,b2,cf⟩:=h2.heap I aY;cases d_ with
 |true=>
  cases dg with
  |false=>exact absurd rfl (SeqAt.ne_of_list_tuple (cf rfl) (t1 rfl))
  |true=>
   refine⟨rfl,?_⟩;cases h1<;>cases h2<;>
   exact I.Cp (cS.mono aY (by assumption)) (cS.mono aY (by assumption))
 |false=>
  cases dg with
  |true=>exact absurd rfl (SeqAt.ne_of_list_tuple (dU rfl) (b2 rfl))
  |false=>
   refine⟨rfl,?_⟩;have g1:bP X.K H p oF:=by
    cases h1 with
    |lst h q=>exact bP.of (aY _ _ h)
    |cy h q=>exact bP.mono aY h
   have g2:bP X.K H p oG:=by
    cases h2 with
    |lst h q=>exact bP.of (aY _ _ h)
    |cy h q=>exact bP.mono aY h
   exact I.z3 g1 g2
theorem qG{f:D→Bool}{ds:List D}(h:ds.all f=true){i:Nat}{d:D}(e:ds[i]?=some d):f d=true:=List.all_eq_true.mp h d (List.mem_of_getElem? e)
theorem Lv(I:Inv X pins σ H s)(aY:Sub G H):∀(n:Nat){d1 ct:D}{x:V},okN n d1=true→okN n ct=true→At X.K G d1 x→At X.K G ct x→bu d1 ct=true:=by
 intro n;induction n with
 |zero=>intro d1 ct x cA b3 a1 a2;exact I7 (by cases d1<;>first|rfl|(cases cA)) a1 a2
 |succ n bQ=>
  intro d1 ct x cA b3 a1 a2;cases s1:gz d1 with
  |true=>exact I7 s1 a1 a2
  |false=>
   cases s2:gz ct with
   |true=>exact(Ez s2 s1 a1 a2).elim
   |false=>
    obtain⟨eG,d_,fw,oF,aq,aS,m1,Eu,k1⟩:=rK cA s1 a1;obtain⟨cB,dg,d7,oG,az,bl,m2,Ew,k2⟩:=rK b3 s2 a2;subst aq;cases az;have:n=m1:=by omega
    subst this;have:n=m2:=by omega
    subst this;obtain⟨bb,ex⟩:=aS.same I aY bl;subst bb;subst ex;rw[aS.eq bl,beq_self_eq_true,Bool.true_and];refine EA (aS.gW.length.trans bl.gW.length.symm) fun i a b av bb=>?_;obtain⟨v,ev,bc⟩:=aS.gW.get av;obtain⟨oA,sv,bv⟩:=bl.gW.get bb;rw[ev]at sv;cases sv;exact bQ (qG k1 av) (qG k2 bb) bc bv
theorem yY(I:Inv X pins σ H s)(aY:Sub G H):∀(n:Nat){d1 ct:D}{u v:Value}{A:Around},okN n d1=true→okN n ct=true→lC X.K G d1 u→lC X.K G ct v→A.units+n<cLine→
  SeqAt.EqAt A s u v (bu d1 ct)∧SeqAt.RcAt A s u v (bu d1 ct)∧SeqAt.RcNeAt A s u v (!bu d1 ct):=by
 intro n;induction n with
 |zero=>
  intro d1 ct u v A cA b3 a1 a2 hu;refine I5 (ot I aY cA a1) (ot I aY b3 a2) ?_ ?_
  ·cases d1<;>first|rfl|(cases cA)
  ·cases ct<;>first|rfl|(cases b3)
 |succ n bQ=>
  intro d1 ct u v A cA b3 a1 a2 hu;have kk:A.units<cLine:=by omega
  cases s1:gz d1 with
  |true=>
   cases s2:gz ct with
   |true=>exact I5 (ot I aY cA a1) (ot I aY b3 a2) s1 s2
   |false=>exact HF kk (ot I aY cA a1) (ot I aY b3 a2) (.inl ⟨s1,s2⟩)
  |false=>
   cases s2:gz ct with
   |true=>exact HF kk (ot I aY cA a1) (ot I aY b3 a2) (.inr ⟨s1,s2⟩)
   |false=>
    obtain⟨e2,DE,VW⟩:=a1;obtain⟨cc,at2,VX⟩:=a2;obtain⟨eG,d_,fw,oF,aq,aS,m1,Eu,k1⟩:=rK cA s1 DE;obtain⟨cB,dg,d7,oG,az,bl,m2,Ew,k2⟩:=rK b3 s2 at2;subst aq;subst az;cases VW;cases VX;have:n=m1:=by omega
    subst this;have:n=m2:=by omega
    subst this;obtain⟨kl,au,t1,dU⟩:=aS.heap I aY;obtain⟨ey,bh,b2,cf⟩:=bl.heap I aY;have mM:fw.length=kl.length:=aS.gW.length.trans au.length;have s_:d7.length=ey.length:=bl.gW.length.trans bh.length;have item:∀j(h1:j<kl.toArray.size)(h2:j<ey.toArray.size),SeqAt.EqAt A.in1 s kl.toArray[j] ey.toArray[j] (kZ fw d7 j):=fun j h1 h2=>by
     have pz:j<fw.length:=by rw[mM];simpa using h1
     have n0:j<d7.length:=by rw[s_];simpa using h2
     have g1:lC X.K G fw[j] kl.toArray[j]:=q2 aS.gW au j _ _ (List.getElem?_eq_getElem pz) (by simp at h1;simp[h1]);have g2:lC X.K G d7[j] ey.toArray[j]:=q2 bl.gW bh j _ _ (List.getElem?_eq_getElem n0) (by simp at h2;simp[h2]);have:=(bQ (A:=A.in1) (qG k1 (List.getElem?_eq_getElem pz)) (qG k2 (List.getElem?_eq_getElem n0)) g1 g2 (by rw[in1_units];omega)).1;unfold kZ;rw[List.getElem?_eq_getElem pz,List.getElem?_eq_getElem n0];exact this
    have whole:SeqAt.RcAt A s (.ref eG) (.ref cB) (bu d1 ct)∧SeqAt.RcNeAt A s (.ref eG) (.ref cB) (!bu d1 ct):=by
     rw[aS.eq bl];cases d_ with
     |true=>
      cases dg with
      |false=>exact⟨SeqAt.RcAt.tuple_list (t1 rfl) (cf rfl) kk,SeqAt.RcNeAt.tuple_list (t1 rfl) (cf rfl) kk⟩
      |true=>
       have bN:=SeqAt.RcAt.tuples (e:=kZ fw d7) (t1 rfl) (b2 rfl) kk item;have cZ:=SeqAt.RcNeAt.tuples (e:=kZ fw d7) (t1 rfl) (b2 rfl) kk item;have eq:((List.range (min kl.toArray.size ey.toArray.size)).all (kZ fw d7)&&kl.toArray.size==ey.toArray.size)=(true==true&&dT fw d7):=by
        rw[List.size_toArray,List.size_toArray,←mM,←s_,beq_self_eq_true,Bool.true_and];by_cases hl:fw.length=d7.length
        ·rw[←hl,Nat.min_self,y1 hl,beq_self_eq_true,Bool.and_true]
        ·rw[y0 hl];have:(fw.length==d7.length)=false:=by simpa using hl
         rw[this,Bool.and_false]
       rw[eq]at bN;refine⟨bN,?_⟩
       first
        |(rw[eq]at cZ;exact cZ)
        |exact cZ
     |false=>
      cases dg with
      |true=>exact⟨SeqAt.RcAt.list_tuple (dU rfl) (b2 rfl) kk,SeqAt.RcNeAt.list_tuple (dU rfl) (b2 rfl) kk⟩
      |false=>
       rw[beq_self_eq_true,Bool.true_and];by_cases hl:fw.length=d7.length
       ·have bN:=SeqAt.RcAt.lists (e:=kZ fw d7) (dU rfl) (cf rfl) (by rw[List.size_toArray,List.size_toArray,←mM,←s_];exact hl) kk item;have cZ:=SeqAt.RcNeAt.lists (e:=kZ fw d7) (dU rfl) (cf rfl) (by rw[List.size_toArray,List.size_toArray,←mM,←s_];exact hl) kk item;rw[List.size_toArray,←mM,y1 hl]at bN cZ;exact⟨bN,cZ⟩
       ·have bj:(kl.toArray.size !=ey.toArray.size)=true:=by
          rw[List.size_toArray,List.size_toArray,←mM,←s_];simpa using hl
        rw[y0 hl];exact⟨SeqAt.RcAt.lists_lengths (dU rfl) (cf rfl) bj kk,SeqAt.RcNeAt.lists_lengths (dU rfl) (cf rfl) bj kk⟩
    refine⟨?_,whole⟩;by_cases hp:eG=cB
    ·subst hp;rw[Lv I aY (n+1) cA b3 DE at2];exact SeqAt.EqAt.same _
    ·exact SeqAt.EqAt.of_refs hp whole.1
end
def notStar:Expr→Bool
 |.Starred .. =>false
 |_=>true
theorem Jp(e:Expr)(es:List Expr)(env:Env)(h:notStar e=true):starEach (e::es) env=(false,eval e env)::starEach es env:=by cases e<;>first|rfl|(cases h)
def iS:Expr→Bool
 |.ListComp .. =>false
 |.SetComp .. =>false
 |.DictComp .. =>false
 |_=>true
theorem l4(e:Expr)(t:Option Expr)(l:Nat)(env:Env)(h:iS e=true):swapsWith e t l env=pure false:=by cases e<;>first|rfl|(cases h)
def Tq:Expr→Bool
 |.Slice .. =>false
 |_=>true
theorem aN{b:Expr}(h:Tq b=true:=by rfl):uA b:=fun o i=>by cases b<;>first|rfl|(cases h)
section
variable{X:aM}{F:bt}{e a b c:Expr}{es:List Expr}{pos:Pos}
theorem a3.imp{t t':TE}(h:a3 X e t)(i:eK t' t):a3 X e t':=fun pins s σ H Q I hw=>h pins s σ H Q I (i σ H Q hw)
theorem eU.imp{t t':TT}(h:eU X e t)(i:mn t' t):eU X e t':=fun pins s σ H Q I hw=>h pins s σ H Q I (i σ H Q hw)
theorem h_.imp{t t':TT}(h:h_ X e t)(i:mn t' t):h_ X e t':=fun qb pins s σ H Q I hw=>h qb pins s σ H Q I (i σ H Q hw)
theorem eT.imp{t t':er}(h:eT X es t)(i:qy t' t):eT X es t':=fun p pins s σ H Q I hw=>h p pins s σ H Q I (i σ H Q hw)
theorem dr.imp{st:Stmt}{t t':eM}(h:dr X st t)(i:hz t' t):dr X st t':=fun pins s σ H cJ I hw=>h pins s σ H cJ I (i cJ σ H hw)
theorem fS.imp{st:List Stmt}{t t':eM}(h:fS X st t)(i:hz t' t):fS X st t':=fun pins s σ H cJ I hw=>h pins s σ H cJ I (i cJ σ H hw)
theorem fR.imp{bC:Expr}{t t':TI}(h:fR X bC e t)(i:nz t' t):fR X bC e t':=fun pins s σ H Q I hw=>h pins s σ H Q I (i σ H Q hw)
abbrev a_(X:aM)(F:bt)(e:Expr)(m:aD):Prop:=a3 X e (cW F m)
abbrev mj(X:aM)(F:bt)(e:Expr)(m:aP):Prop:=a3 X e (j0 F m)
abbrev ft(X:aM)(F:bt)(e:Expr)(m:b4):Prop:=eU X e (fL F m)
abbrev oW(X:aM)(F:bt)(e:Expr)(m:b4):Prop:=h_ X e (fL F m)
abbrev gm(X:aM)(F:bt)(es:List Expr)(m:aP):Prop:=eT X es (ei F m)
abbrev fU(X:aM)(F:bt)(st:Stmt)(m:a0):Prop:=dr X st (fp F m)
abbrev nv(X:aM)(F:bt)(st:List Stmt)(m:a0):Prop:=fS X st (fp F m)
abbrev j8(X:aM)(F:bt)(bC e:Expr)(m:aP):Prop:=fR X bC e (kz F m)
theorem Nw(i:Nat){x:Str}(hN:X.N[i]?=some x:=by rfl)(hv:gU X.env.scope x:=by first|exact Or.inl rfl|exact Or.inr (Or.inl rfl)|exact Or.inr (Or.inr rfl))(hd:(x==("__debug__" :Str))=false:=by decide)(hcd:(x==("__classdict__" :Str))=false:=by decide):a_ X F (.Name x pos) (J i):=a3.imp (mX hN hv hd hcd) (Qv i)
theorem M6{i:Int}{j}:a_ X F (.Constant (.int i) j pos) (aj (.int i)):=a3.imp Uy (sX fun _=>by simp only[At])
theorem MS{i:Bool}{j}:a_ X F (.Constant (.bool i) j pos) (aj (.ax i)):=a3.imp Un (sX fun _=>by simp only[At])
theorem Np{i:Str}{j}:a_ X F (.Constant (.str i) j pos) (aj (.str i)):=a3.imp AA (sX fun _=>by simp only[At])
theorem Ng{j}:a_ X F (.Constant .none j pos) (aj .non):=a3.imp UG (sX fun _=>by simp only[At])
theorem M1{x:Str}{v:V}{u:Value}{d:D}(hm:X.mg x=some u)(r:RelV v u)(at':∀G,At F.K G d v)(hg:cU X x:=by rfl)(hd:(x==("__debug__" :Str))=false:=by decide):a_ X F (.Name x pos) (aj d):=
 a3.imp (Uw hg hm r hd) (sX at')
theorem Ld:gm X F [] ar:=eT.imp mW GO
theorem Lc{m:aD}{r:aP}(h:a_ X F e m)(t:gm X F es r)(hs:notStar e=true:=by rfl):gm X F (e::es) (ae m r):=eT.imp (lg h t (Jp e es X.env hs)) PS
theorem Nu{k}{m:aP}(h:gm X F es m):a_ X F (.Tuple es k pos) (cD m):=a3.imp (Ih h) Qs
theorem TB{m:aP}(h:gm X F es m):mj X F (.List es pos) (dz m):=a3.imp (UB h) P9
theorem M0{m:aP}(h:mj X F e m):a_ X F e (cj m):=a3.imp h P0
theorem MT{m:aD}(h:a_ X F e m):a_ X F e (ip m):=a3.imp h PL
theorem XT{m:b4}(h:ft X F e m):ft X F e (iP m):=eU.imp h PN
theorem X7{m:aD}(h:a_ X F e m)(he:∀whole,isTrue e X.env whole=(do let v ←whole;standAt e.pos;holding [v] (truthy v)):=by intro _;rfl):ft X F e (aW m):=eU.imp (Vh h he) vz
theorem YJ{m:b4}(h:ft X F a m):oW X F (.BoolOp .And [a] pos) m:=Vn h
theorem YM{m:b4}(h:ft X F a m):oW X F (.BoolOp .Or [a] pos) m:=Vp h
theorem w_and{m n:b4}(h:ft X F a m)(k:oW X F (.BoolOp .And (b::es) pos) n):oW X F (.BoolOp .And (a::b::es) pos) (jQ m n):=h_.imp (Vm h k) PJ
theorem w_or{m n:b4}(h:ft X F a m)(k:oW X F (.BoolOp .Or (b::es) pos) n):oW X F (.BoolOp .Or (a::b::es) pos) (eZ m n):=h_.imp (Vo h k) Qg
theorem X8{m:b4}(h:oW X F e m):ft X F e m:=h_.pt h
theorem X4{m:b4}(h:ft X F a m):ft X F (.UnaryOp .Not a pos) (eb m):=eU.imp (Vg h) Qd
theorem Nj{op}{m:aD}(h:a_ X F a m):a_ X F (.BoolOp op [a] pos) m:=UI h
theorem MR{m n:aD}(h:a_ X F a m)(k:a_ X F (.BoolOp .And (b::es) pos) n):a_ X F (.BoolOp .And (a::b::es) pos) (jR m n):=a3.imp (Um h k) PK
theorem Nk{m n:aD}(h:a_ X F a m)(k:a_ X F (.BoolOp .Or (b::es) pos) n):a_ X F (.BoolOp .Or (a::b::es) pos) (pG m n):=a3.imp (UK h k) Qh
theorem Nh{m:aD}(h:a_ X F a m):a_ X F (.UnaryOp .Not a pos) (rl m):=a3.imp (UH h) Qe
theorem M4{k:b4}{m n:aD}(h:ft X F c k)(ha:a_ X F a m)(hb:a_ X F b n):a_ X F (.IfExp c a b pos) (pE k m n):=a3.imp (Ux h ha hb) P2
variable{st:Stmt}{m7:List Stmt}
theorem Wf:nv X F [] cw:=fS.imp IA Qc
theorem V9{m n:a0}(h:fU X F st m)(k:nv X F m7 n):nv X F (st::m7) (aR m n):=fS.imp (Iz h k) Qm
theorem Wg{m:a0}(h:fU X F st m):nv X F [st] m:=AF h
theorem Wa{m:aD}(h:a_ X F e m)(hs:iS e=true:=by rfl):fU X F (.Expr e pos) (n8 m):=dr.imp (wo h (l4 _ _ _ _ hs)) PW
theorem Wh{m:aD}(h:a_ X F e m):fU X F (.Return (some e) pos) (bU m):=dr.imp (wq h) Qj
theorem Wi{m:aP}(h:mj X F e m):fU X F (.Return (some e) pos) (gw m):=dr.imp (wq h) Qk
theorem Wj(i:Nat){x:Str}{p:Pos}(hN:X.N[i]?=some x:=by rfl)(hv:gU X.env.scope x:=by first|exact Or.inl rfl|exact Or.inr (Or.inl rfl)|exact Or.inr (Or.inr rfl))(hd:(x==("__debug__" :Str))=false:=by decide)(hcd:(x==("__classdict__" :Str))=false:=by decide) :
  fU X F (.Return (some (.Name x p)) pos) (gw (iR i)):=dr.imp (wq (mX hN hv hd hcd)) (Ql i)
theorem We{k:b4}{m n:a0}{xs ys:List Stmt}(h:ft X F c k)(ha:nv X F xs m)(hb:nv X F ys n):fU X F (.If c xs ys pos) (ck k m n):=dr.imp (Iw h ha hb) P4
theorem Wl(i:Nat){x:Str}{p:Pos}{m:aD}(hN:X.N.Nodup)(he:a_ X F e m)(hi:X.N[i]?=some x:=by rfl)(hx:Loc X.env.scope x:=by first|exact Or.inl rfl|exact Or.inr rfl)(hs:iS e=true:=by rfl)(hf:X.fn x=true∨X.env.scope.names.lookup x=some .local:=by first|exact .inl rfl|exact .inr rfl):fU X F (.Assign [.Name x p] e pos) (cp i m):=dr.imp (wt hN hi hx he (l4 _ _ _ _ hs) hf) Qn
theorem Wq(i:Nat){x:Str}{p:Pos}{m:aP}(hN:X.N.Nodup)(he:mj X F e m)(hi:X.N[i]?=some x:=by rfl)(hx:Loc X.env.scope x:=by first|exact Or.inl rfl|exact Or.inr rfl)(hs:iS e=true:=by rfl)(hf:X.fn x=true∨X.env.scope.names.lookup x=some .local:=by first|exact .inl rfl|exact .inr rfl):fU X F (.Assign [.Name x p] e pos) (ez i m):=dr.imp (wt hN hi hx he (l4 _ _ _ _ hs) hf) GP
theorem o8{op:Operator}{r:ep}{f:D→D→R D}{m n:aD}(ho:dF X (binaryOp op) r)(hf:fQ F r f)(ha:a_ X F a m)(hb:a_ X F b n):a_ X F (.BinOp a op b pos) (ag f m n):=a3.imp (UJ ho ha hb) (vA hf)
theorem qR{op:CmpOp}{r:ep}{f:D→D→R D}{m n:aD}(ho:dF X (compareOp op) r)(hf:fQ F r f)(ha:a_ X F a m)(hb:a_ X F b n)(hm:behindInMarks op b=false):a_ X F (.Compare a [op] [b] pos) (ag f m n):=a3.imp (Ur ho ha hb hm) (vA hf)
theorem ox{op:CmpOp}{r:ep}{f:D→D→R D}{m n:aD}(ho:dF X (compareOp op) r)(hf:fQ F r f)(ha:a_ X F a m)(hb:a_ X F b n)(hm:behindInMarks op b=false):ft X F (.Compare a [op] [b] pos) (aW (ag f m n)):=
 eU.imp (Vf ho ha hb hm) fun σ H Q h=>by obtain⟨G,ρ,r,k⟩:=GI (F:=F) (m:=ag f m n) σ H Q h;exact vA hf σ H _ ⟨G,ρ,r,k⟩
def jN(f:Int→Int→R D):D→D→R D
 |.int i,.int j=>f i j
 |_,_=>.bad
theorem rB{g:Int→Int→V}{f:Int→Int→D}(h:∀i j G,At F.K G (f i j) (g i j)):fQ F (ll g) (jN fun i j=>.ok (f i j)):=by
 intro σ ρ G H x y a5 fx Q r bT cH k;unfold jN at k
 split at k
 ·rename_i i j;simp only[At]at bT cH;exact⟨i,j,bT,cH,k _ H G r (cb.refl _ _) (h i j G)⟩
 ·exact k.elim
theorem wb{C:Int→Int→Prop}[∀i j,Decidable (C i j)]{g:Int→Int→V}{f:Int→Int→D}(h:∀i j G,At F.K G (f i j) (g i j)):fQ F (rE C g) (jN fun i j=>if C i j then .ok (f i j)else .bad):=by
 intro σ ρ G H x y a5 fx Q r bT cH k;unfold jN at k
 split at k
 ·rename_i i j;simp only[At]at bT cH;dsimp only at k
  split at k
  ·rename_i hc;exact⟨i,j,bT,cH,hc,k _ H G r (cb.refl _ _) (h i j G)⟩
  ·exact k.elim
 ·exact k.elim
instance(i j:Int):Decidable (uk i j):=by unfold uk;infer_instance
instance(i j:Int):Decidable (rX i j):=by unfold rX;infer_instance
instance(i j:Int):Decidable (qu i j):=by unfold qu;infer_instance
def l3:=jN fun i j=>.ok (.int (i-j))
def ks:=jN fun i j=>if qu i j then .ok (.int (i*j))else .bad
def hM:=jN fun i j=>if uk i j then .ok (.int (i/j))else .bad
def dv:=jN fun i j=>if 0<j then .ok (.int (i%j))else .bad
def jX:=jN fun i j=>if rX i j then .ok (.int (i^j.toNat))else .bad
def ra:=jN fun i j=>.ok (.ax (decide (i<j)))
def k7:=jN fun i j=>.ok (.ax (decide (i≤j)))
def mE:=jN fun i j=>.ok (.ax (decide (j<i)))
variable{m n:aD}
theorem Nr(ha:a_ X F a m)(hb:a_ X F b n):a_ X F (.BinOp a .Sub b pos) (ag l3 m n):=o8 T9 (rB fun _ _ _=>by simp only[At]) ha hb
theorem Nd(ha:a_ X F a m)(hb:a_ X F b n):a_ X F (.BinOp a .Mult b pos) (ag ks m n):=o8 T5 (wb fun _ _ _=>by simp only[At]) ha hb
theorem MY(ha:a_ X F a m)(hb:a_ X F b n):a_ X F (.BinOp a .FloorDiv b pos) (ag hM m n):=o8 T3 (wb fun _ _ _=>by simp only[At]) ha hb
theorem Nc(ha:a_ X F a m)(hb:a_ X F b n):a_ X F (.BinOp a .Mod b pos) (ag dv m n):=o8 T4 (wb fun _ _ _=>by simp only[At]) ha hb
theorem Nm(ha:a_ X F a m)(hb:a_ X F b n):a_ X F (.BinOp a .Pow b pos) (ag jX m n):=o8 T7 (wb fun _ _ _=>by simp only[At]) ha hb
theorem X2(ha:a_ X F a m)(hb:a_ X F b n):ft X F (.Compare a [.Lt] [b] pos) (aW (ag ra m n)):=ox H4 (rB fun _ _ _=>by simp only[At]) ha hb (la _)
theorem XZ(ha:a_ X F a m)(hb:a_ X F b n):ft X F (.Compare a [.Gt] [b] pos) (aW (ag mE m n)):=ox H0 (rB fun _ _ _=>by simp only[At]) ha hb (la _)
theorem M3(ha:a_ X F a m)(hb:a_ X F b n):a_ X F (.Compare a [.Gt] [b] pos) (ag mE m n):=qR H0 (rB fun _ _ _=>by simp only[At]) ha hb (la _)
def Tb:D→R D
 |.int i=>.ok (.int (-i))
 |_=>.bad
noncomputable def cC:D→D→R D
 |.int i,.int j=>.ok (.int (i+j))
 |.str x,.str y=>if x.length+y.length≤1000000 then .ok (.str (x++y))else .bad
 |.lst xs,.lst ys=>if xs.length+ys.length≤1000000 then .ok (.lst (xs++ys))else .bad
 |_,_=>.bad
theorem TL:fQ F (fun x y H Q=>ll (fun i j=>.int (i+j)) x y H Q∨(∃i j,x=.str i∧y=.str j∧i.length+j.length≤sizeLine∧Q (.str (i++j)) H)∨IH x y H Q) cC:=by
 intro σ ρ G H x y a5 fx Q r bT cH k;unfold cC at k
 split at k
 ·rename_i i j;simp only[At]at bT cH;exact .inl ⟨i,j,bT,cH,k _ H G r (cb.refl _ _) (by simp only[At])⟩
 ·rename_i i j;simp only[At]at bT cH
  split at k
  ·rename_i hl;exact .inr (.inl ⟨i,j,bT,cH,Nat.le_trans hl (by decide),k _ H G r (cb.refl _ _) (by simp only[At])⟩)
  ·exact k.elim
 ·rename_i ds es;simp only[At]at bT cH
  split at k
  ·rename_i hl;obtain⟨p,xs,aq,h1,aS⟩:=bT;obtain⟨cB,ys,az,h2,bl⟩:=cH;refine .inr (.inr ⟨p,cB,xs,ys,aq,az,r.aK.sub _ _ h1,r.aK.sub _ _ h2,by rw[←aS.length,←bl.length];exact Nat.le_trans hl (by decide),fun l aC=>?_⟩);refine k (.ref l) _ _ (r.lay aC) (cb.lay r.aK.sub aC) ?_;simp only[At];exact⟨l,xs++ys,rfl,eB,(aS.append bl).mono (Sub.upd (r.aK.sub.gone aC))⟩
  ·exact k.elim
 ·exact k.elim
theorem MP(ha:a_ X F a m)(hb:a_ X F b n):a_ X F (.BinOp a .Add b pos) (ag cC m n):=o8 (TZ.or (T1.or T2)) TL ha hb
noncomputable def b8(b:Bool)(x y:D):R D:=if okN 8 x=true∧okN 8 y=true then .ok (.ax (if b then bu x y else !bu x y))else .bad
noncomputable def AK(F:bt)(b:Bool):ep:=fun x y H Q=>∃G d1 ct,Sub G H∧At F.K G d1 x∧At F.K G ct y∧okN 8 d1=true∧okN 8 ct=true∧Q (.ax (if b then bu d1 ct else !bu d1 ct)) H
theorem HZ(hK:F.K=X.K)(hu:X.A.units+64<cLine):dF X (compareOp .Eq) (AK F true):=by intro pins s σ H x y v u Q I bw b9 h;obtain⟨G,d1,ct,aY,a1,a2,cA,b3,q⟩:=h;rw[hK]at a1 a2;exact(yY I aY 8 (A:=X.A) cA b3 ⟨x,a1,bw⟩ ⟨y,a2,b9⟩ (by omega)).2.1 X.prog X.w X.xe _ ⟨.ax _,H,I,rfl,q⟩
theorem H5(hK:F.K=X.K)(hu:X.A.units+64<cLine):dF X (compareOp .NotEq) (AK F false):=by intro pins s σ H x y v u Q I bw b9 h;obtain⟨G,d1,ct,aY,a1,a2,cA,b3,q⟩:=h;rw[hK]at a1 a2;exact(yY I aY 8 (A:=X.A) cA b3 ⟨x,a1,bw⟩ ⟨y,a2,b9⟩ (by omega)).2.2 X.prog X.w X.xe _ ⟨.ax _,H,I,rfl,q⟩
theorem wa(b:Bool):fQ F (AK F b) (b8 b):=by
 intro σ ρ G H x y a5 fx Q r bT cH k;unfold b8 at k
 split at k
 ·rename_i ho;exact⟨G,a5,fx,r.aK.sub,bT,cH,ho.1,ho.2,k _ H G r (cb.refl _ _) (by simp only[At])⟩
 ·exact k.elim
theorem XY(hu:X.A.units+64<cLine)(ha:a_ X F a m)(hb:a_ X F b n)(hK:F.K=X.K:=by rfl):ft X F (.Compare a [.Eq] [b] pos) (aW (ag (b8 true) m n)):=ox (HZ hK hu) (wa true) ha hb (la _)
theorem X3(hu:X.A.units+64<cLine)(ha:a_ X F a m)(hb:a_ X F b n)(hK:F.K=X.K:=by rfl):ft X F (.Compare a [.NotEq] [b] pos) (aW (ag (b8 false) m n)):=ox (H5 hK hu) (wa false) ha hb (la _)
theorem MX(hu:X.A.units+64<cLine)(ha:a_ X F a m)(hb:a_ X F b n)(hK:F.K=X.K:=by rfl):a_ X F (.Compare a [.Eq] [b] pos) (ag (b8 true) m n):=qR (HZ hK hu) (wa true) ha hb (la _)
theorem Nf(hu:X.A.units+64<cLine)(ha:a_ X F a m)(hb:a_ X F b n)(hK:F.K=X.K:=by rfl):a_ X F (.Compare a [.NotEq] [b] pos) (ag (b8 false) m n):=qR (H5 hK hu) (wa false) ha hb (la _)
end
section
variable{X:aM}{F:bt}{e a b c:Expr}{es:List Expr}{pos:Pos}{m n:aD}
theorem EB:∀{ds o7:List D},ds.length=o7.length→(∀(i:Nat) x y,ds[i]?=some x→o7[i]?=some y→∀z,bu x z=bu y z)→∀es,dT ds es=dT o7 es
 |[],[],_,_,_=>rfl
 |[],_::_,h,_,_=>by simp at h
 |_::_,[],h,_,_=>by simp at h
 |x::xs,y::ys,h,k,[]=>by simp only[dT]
 |x::xs,y::ys,h,k,e::es=>by simp only[dT];rw[k 0 x y rfl rfl e,EB (by simpa using h) (fun i a b aq az=>k (i+1) a b (by simpa using aq) (by simpa using az)) es]
theorem I6{K:PySem.W.Frag}{G:ai}{d d':D}{x:V}(o:gz d=true)(a1:At K G d x)(a2:At K G d' x):d=d':=by
 cases d with
 |non=>simp only[At]at a1;subst a1;cases d'<;>simp only[At]at a2<;>first|rfl|(cases a2;done)|(obtain⟨a,xs,e,_⟩:=a2;cases e;done)|(obtain⟨a,a5,xs,e,_⟩:=a2;cases e;done)
 |ax b=>simp only[At]at a1;subst a1;cases d'<;>simp only[At]at a2<;>first|(cases a2;rfl)|(cases a2;done)|(obtain⟨a,xs,e,_⟩:=a2;cases e;done)|(obtain⟨a,a5,xs,e,_⟩:=a2;cases e;done)
 |int b=>simp only[At]at a1;subst a1;cases d'<;>simp only[At]at a2<;>first|(cases a2;rfl)|(cases a2;done)|(obtain⟨a,xs,e,_⟩:=a2;cases e;done)|(obtain⟨a,a5,xs,e,_⟩:=a2;cases e;done)
 |str b=>simp only[At]at a1;subst a1;cases d'<;>simp only[At]at a2<;>first|(cases a2;rfl)|(cases a2;done)|(obtain⟨a,xs,e,_⟩:=a2;cases e;done)|(obtain⟨a,a5,xs,e,_⟩:=a2;cases e;done)
 |_=>cases o
theorem gJ.val{K:PySem.W.Frag}{G:ai}{d:D}{p:Addr}{b:Bool}{ds:List D}{xs:List V}(h:gJ K G d p b ds xs)(e:D):bu d e=match e with
  |.tup es=>b&&dT ds es
  |.dy es=>b&&dT ds es
  |.lst es=>!b&&dT ds es
  |.cy es=>!b&&dT ds es
  |_=>false:=by
 cases h<;>cases e<;>simp[bu]
section
variable{pins:List (Addr×Obj)}{σ :St}{H G:ai}{s:Shared}
theorem Lu(I:Inv X pins σ H s)(aY:Sub G H):∀(n:Nat){d d':D}{x:V},okN n d=true→okN n d'=true→At X.K G d x→At X.K G d' x→∀e,bu d e=bu d' e:=by
 intro n;induction n with
 |zero=>intro d d' x cA b3 a1 a2 e;rw[I6 (by cases d<;>first|rfl|(cases cA)) a1 a2]
 |succ n bQ=>
  intro d d' x cA b3 a1 a2 e;cases s1:gz d with
  |true=>rw[I6 s1 a1 a2]
  |false=>
   cases s2:gz d' with
   |true=>exact(Ez s2 s1 a1 a2).elim
   |false=>
    obtain⟨eG,d_,fw,oF,aq,aS,m1,Eu,k1⟩:=rK cA s1 a1;obtain⟨cB,dg,d7,oG,az,bl,m2,Ew,k2⟩:=rK b3 s2 a2;subst aq;cases az;have:n=m1:=by omega
    subst this;have:n=m2:=by omega
    subst this;obtain⟨bb,ex⟩:=aS.same I aY bl;subst bb;subst ex;have el:∀es,dT fw es=dT d7 es:=EB (aS.gW.length.trans bl.gW.length.symm) fun i a b av bb z=>by obtain⟨v,ev,bc⟩:=aS.gW.get av;obtain⟨oA,sv,bv⟩:=bl.gW.get bb;rw[ev]at sv;cases sv;exact bQ (qG k1 av) (qG k2 bb) bc bv z
    rw[aS.val,bl.val];cases e<;>first|rfl|(simp only[el])
open Classical in
noncomputable def kO(K:PySem.W.Frag)(G:ai)(d:D)(u:Value):Bool:=if h:∃d',okN 7 d'=true∧lC K G d' u then bu (Classical.choose h) d else false
theorem xW(I:Inv X pins σ H s)(aY:Sub G H){d d1:D}{u:Value}(o:okN 7 d=true)(h:lC X.K G d u):kO X.K G d1 u=bu d d1:=by have hx:∃d',okN 7 d'=true∧lC X.K G d' u:=⟨d,o,h⟩;unfold kO;rw[dif_pos hx];obtain⟨bJ,h'⟩:=Classical.choose_spec hx;obtain⟨x,a,r⟩:=h;obtain⟨Y1,jB,bf⟩:=h';have:Y1=x:=bf.inj r;subst this;exact Lu I aY 7 bJ o jB a d1
theorem xX(I:Inv X pins σ H s)(aY:Sub G H){d1:D}:∀{ds:List D}{xs:List V}{its:List Value},aL X.K G ds xs→Vals xs its→ds.all (okN 7)=true→its.any (kO X.K G d1)=ds.any fun y=>bu y d1
 |[],_,_,q,r,_=>by simp only[aL]at q;subst q;cases r;rfl
 |d::ds,_,_,q,r,o=>by
  simp only[aL]at q;obtain⟨v,xa,rfl,bc,mA⟩:=q;cases r with
  |cons au bh=>rw[List.all_cons,Bool.and_eq_true]at o;rw[List.any_cons,List.any_cons,xW I aY o.1 ⟨v,bc,au⟩,xX I aY mA bh o.2]
theorem vZ(I:Inv X pins σ H s)(aY:Sub G H){d1:D}{x:V}{v:Value}{A:Around}(hu:A.units+8<cLine)(cA:okN 7 d1=true)(a1:At X.K G d1 x)(bw:RelV x v):∀{ds:List D}{xs:List V}{its:List Value},aL X.K G ds xs→Vals xs its→ds.all (okN 7)=true→
  ∀u∈its,SeqAt.EqAt A s u v (kO X.K G d1 u)
 |[],_,_,q,r,_=>by simp only[aL]at q;subst q;cases r;exact fun u hu=>nomatch hu
 |d::ds,_,_,q,r,o=>by
  simp only[aL]at q;obtain⟨w,wr,rfl,bc,mA⟩:=q;cases r with
  |cons au bh=>
   rw[List.all_cons,Bool.and_eq_true]at o;intro iu hm;rcases List.mem_cons.mp hm with e|hm
   ·subst e;rw[xW I aY o.1 ⟨w,bc,au⟩];exact(yY I aY 7 (A:=A) o.1 cA ⟨w,bc,au⟩ ⟨x,a1,bw⟩ (by omega)).1
   ·exact vZ I aY hu cA a1 bw mA bh o.2 iu hm
end
noncomputable def oq:D→Option (List D)
 |.tup ys=>some ys
 |.dy ys=>some ys
 |.lst ys=>some ys
 |.cy ys=>some ys
 |_=>none
noncomputable def inD(b:Bool)(x y:D):R D:=match oq y with
 |some ys=>if okN 7 x=true∧ys.all (okN 7)=true then .ok (.ax (if b then ys.any (fun y=>bu y x)else !ys.any fun y=>bu y x))else .bad
 |none=>.bad
noncomputable def AL(F:bt)(b:Bool):ep:=fun x y H Q=>∃G d1 ct p ds xs k,Sub G H∧At F.K G d1 x∧y=.ref p∧gJ F.K G ct p k ds xs∧okN 7 d1=true∧ds.all (okN 7)=true∧Q (.ax (if b then ds.any (fun y=>bu y d1)else !ds.any fun y=>bu y d1)) H
theorem H2(hK:F.K=X.K)(hu:X.A.units+64<cLine):dF X (compareOp .In) (AL F true):=by
 intro pins s σ H x y v u Q I bw b9 h;obtain⟨G,d1,ct,p,ds,xs,k,aY,a1,rfl,gB,cA,b3,q⟩:=h;rw[hK]at a1 gB;cases b9;obtain⟨its,au,t1,dU⟩:=gB.heap I aY;have q:Q (.ax (ds.any fun y=>bu y d1)) H:=q;rw[←xX I aY gB.gW au b3]at q;have hm:=vZ I aY (A:=X.A.in1) (d1:=d1) (by rw[in1_units];omega) cA a1 bw gB.gW au b3;cases k with
 |true=>exact SeqAt.in_tupleAt (kO X.K G d1) (t1 rfl) (fun w hw=>hm w (by simpa using hw)) ⟨.ax _,H,I,rfl,by simpa using q⟩
 |false=>exact SeqAt.in_listAt (kO X.K G d1) (dU rfl) (fun w hw=>hm w (by simpa using hw)) ⟨.ax _,H,I,rfl,by simpa using q⟩
theorem T6(hK:F.K=X.K)(hu:X.A.units+64<cLine):dF X (compareOp .NotIn) (AL F false):=by
 intro pins s σ H x y v u Q I bw b9 h;obtain⟨G,d1,ct,p,ds,xs,k,aY,a1,rfl,gB,cA,b3,q⟩:=h;rw[hK]at a1 gB;cases b9;obtain⟨its,au,t1,dU⟩:=gB.heap I aY;have q:Q (.ax (!ds.any fun y=>bu y d1)) H:=q;rw[←xX I aY gB.gW au b3]at q;have hm:=vZ I aY (A:=X.A.in1) (d1:=d1) (by rw[in1_units];omega) cA a1 bw gB.gW au b3;cases k with
 |true=>exact SeqAt.notIn_tupleAt (kO X.K G d1) (t1 rfl) (fun w hw=>hm w (by simpa using hw)) ⟨.ax _,H,I,rfl,by simpa using q⟩
 |false=>exact SeqAt.notIn_listAt (kO X.K G d1) (dU rfl) (fun w hw=>hm w (by simpa using hw)) ⟨.ax _,H,I,rfl,by simpa using q⟩
theorem Xl{K:PySem.W.Frag}{G:ai}{d:D}{x:V}{ds:List D}(e:oq d=some ds)(a:At K G d x):∃p xs k,x=.ref p∧gJ K G d p k ds xs:=by
 cases d<;>first
  |(cases e;done)
  |(cases e
    simp only[At]at a;obtain⟨p,xs,e,h,q⟩:=a
    first
     |exact⟨p,xs,_,e,.tup (cS.of h) q⟩
     |exact⟨p,xs,_,e,.dy h q⟩
     |exact⟨p,xs,_,e,.lst h q⟩
     |exact⟨p,xs,_,e,.cy h q⟩)
theorem Ap(b:Bool):fQ F (AL F b) (inD b):=by
 intro σ ρ G H x y a5 fx Q r bT cH k;unfold inD at k;cases e:oq fx with
 |none=>rw[e]at k;exact k.elim
 |some ys=>
  rw[e]at k;dsimp only at k
  split at k
  ·rename_i ho;obtain⟨p,xs,cv,dB,gB⟩:=Xl e cH;exact⟨G,a5,fx,p,ys,xs,cv,r.aK.sub,bT,dB,gB,ho.1,ho.2,k _ H G r (cb.refl _ _) (by simp only[At])⟩
  ·exact k.elim
theorem X0(hu:X.A.units+64<cLine)(ha:a_ X F a m)(hb:a_ X F b n)(hK:F.K=X.K:=by rfl)(hm:behindInMarks .In b=false:=by with_unfolding_all rfl):ft X F (.Compare a [.In] [b] pos) (aW (ag (inD true) m n)):=ox (H2 hK hu) (Ap true) ha hb hm
theorem X5(hu:X.A.units+64<cLine)(ha:a_ X F a m)(hb:a_ X F b n)(hK:F.K=X.K:=by rfl)(hm:behindInMarks .NotIn b=false:=by with_unfolding_all rfl):ft X F (.Compare a [.NotIn] [b] pos) (aW (ag (inD false) m n)):=ox (T6 hK hu) (Ap false) ha hb hm
theorem M5(hu:X.A.units+64<cLine)(ha:a_ X F a m)(hb:a_ X F b n)(hK:F.K=X.K:=by rfl)(hm:behindInMarks .In b=false:=by with_unfolding_all rfl):a_ X F (.Compare a [.In] [b] pos) (ag (inD true) m n):=qR (H2 hK hu) (Ap true) ha hb hm
def eX:D→Bool
 |.non=>true
 |_=>false
def eh(b:Bool):D→D→R D
 |x,.non=>.ok (.ax (if b then eX x else !eX x))
 |_,_=>.bad
theorem vE{K:PySem.W.Frag}{G:ai}{d:D}{x:V}(a:At K G d x):eX d=decide (x=.non):=by
 cases d<;>simp only[At]at a<;>first
  |(subst a;simp[eX];done)
  |(obtain⟨p,xs,e,_⟩:=a;subst e;simp[eX];done)
  |(obtain⟨p,a5,xs,e,_⟩:=a;subst e;simp[eX];done)
theorem X1(ha:a_ X F a m)(hb:a_ X F b n):ft X F (.Compare a [.Is] [b] pos) (aW (ag (eh true) m n)):=ox H3 (fun σ ρ G H x y a5 fx Q r bT cH k=>by
 unfold eh at k
 split at k
 ·simp only[At]at cH;rw[vE bT]at k;exact⟨cH,k _ H G r (cb.refl _ _) (by simp only[At];rfl)⟩
 ·exact k.elim) ha hb (la _)
theorem X6(ha:a_ X F a m)(hb:a_ X F b n):ft X F (.Compare a [.IsNot] [b] pos) (aW (ag (eh false) m n)):=ox H6 (fun σ ρ G H x y a5 fx Q r bT cH k=>by
 unfold eh at k
 split at k
 ·simp only[At]at cH;rw[vE bT]at k;exact⟨cH,k _ H G r (cb.refl _ _) (by simp only[At];rfl)⟩
 ·exact k.elim) ha hb (la _)
theorem M7(ha:a_ X F a m)(hb:a_ X F b n):a_ X F (.Compare a [.Is] [b] pos) (ag (eh true) m n):=qR H3 (fun σ ρ G H x y a5 fx Q r bT cH k=>by
 unfold eh at k
 split at k
 ·simp only[At]at cH;rw[vE bT]at k;exact⟨cH,k _ H G r (cb.refl _ _) (by simp only[At];rfl)⟩
 ·exact k.elim) ha hb (la _)
theorem Ni(ha:a_ X F a m)(hb:a_ X F b n):a_ X F (.Compare a [.IsNot] [b] pos) (ag (eh false) m n):=qR H6 (fun σ ρ G H x y a5 fx Q r bT cH k=>by
 unfold eh at k
 split at k
 ·simp only[At]at cH;rw[vE bT]at k;exact⟨cH,k _ H G r (cb.refl _ _) (by simp only[At];rfl)⟩
 ·exact k.elim) ha hb (la _)
noncomputable def iQ(f g:D→D→R D)(a b c:aD):aD:=fun ρ=>(a ρ).bind fun x=>(b ρ).bind fun y=>(f x y).bind fun z=>(ja z).bind fun k=>if k=true then(c ρ).bind fun w=>g y w else .ok (.ax false)
theorem GL{r bf:ep}{f g:D→D→R D}{l:aD}(hf:fQ F r f)(hg:fQ F bf g):eK (cW F (iQ f g m n l)) (B8 r bf (cW F m) (cW F n) (cW F l)):=by
 rintro σ H Q ⟨G,ρ,AR,h⟩;unfold iQ at h;refine⟨G,ρ,AR,?_⟩;cases av:m ρ with
 |bad=>rw[av]at h;exact h.elim
 |exc c=>rw[av]at h;exact h
 |ok a5=>
  rw[av,R.bE]at h;intro x H1 aT au s1 bT;refine⟨aT,ρ,au,?_⟩;cases bb:n ρ with
  |bad=>rw[bb]at h;exact h.elim
  |exc c=>rw[bb]at h;exact h
  |ok fx=>
   rw[bb,R.bE]at h;intro y a9 dj bh s2 cH;refine hf σ ρ dj a9 x y a5 fx _ bh (bT.mono s2.g) cH ?_;cases hJ:f a5 fx with
   |bad=>rw[hJ]at h;exact h.elim
   |exc c=>rw[hJ]at h;exact h
   |ok MG=>
    rw[hJ,R.bE]at h;intro z dk gn dX s3 lK;cases MG with
    |ax k=>
     simp only[At]at lK;refine⟨k,lK,?_⟩;have h:ik F G H σ ρ Q (if k=true then(l ρ).bind fun w=>g fx w else .ok (.ax false)):=h;cases k with
     |false=>rw[if_neg Bool.false_ne_true]at h ⊢;exact h _ dk gn dX (s1.trans (s2.trans s3)) (by simp only[At])
     |true=>
      rw[if_pos rfl]at h ⊢;refine⟨gn,ρ,dX,?_⟩;cases ec:l ρ with
      |bad=>rw[ec]at h;exact h.elim
      |exc c=>rw[ec]at h;exact h
      |ok MF=>rw[ec,R.bE]at h;intro w gG r1 l1 s4 j_;exact hg σ ρ r1 gG y w fx MF Q l1 ((cH.mono s3.g).mono s4.g) j_ (h.mono (s1.trans (s2.trans (s3.trans s4))))
    |_=>exact h.elim
theorem MW{op f3:CmpOp}{r bf:ep}{f g:D→D→R D}{l:aD}(ho:dF X (compareOp op) r)(ho':dF X (compareOp f3) bf)(hf:fQ F r f)(hg:fQ F bf g)(ha:a_ X F a m)(hb:a_ X F b n)(hc:a_ X F c l)(hm:lastMarks [op,f3] [b,c]=false:=by with_unfolding_all rfl) :
  a_ X F (.Compare a [op,f3] [b,c] pos) (iQ f g m n l):=a3.imp (Up ho ho' ha hb hc hm) (GL hf hg)
theorem XU{op f3:CmpOp}{r bf:ep}{f g:D→D→R D}{l:aD}(ho:dF X (compareOp op) r)(ho':dF X (compareOp f3) bf)(hf:fQ F r f)(hg:fQ F bf g)(ha:a_ X F a m)(hb:a_ X F b n)(hc:a_ X F c l)(hm:lastMarks [op,f3] [b,c]=false:=by with_unfolding_all rfl) :
  ft X F (.Compare a [op,f3] [b,c] pos) (aW (iQ f g m n l)):=eU.imp (Ve ho ho' ha hb hc hm) fun σ H Q h=>by
  obtain⟨G,ρ,r,k⟩:=GI (F:=F) (m:=iQ f g m n l) σ H Q h;exact GL hf hg σ H _ ⟨G,ρ,r,k⟩
theorem TP:fQ F (ll fun i j=>.ax (decide (i<j))) ra:=rB fun _ _ _=>by simp only[At]
theorem tK:fQ F (ll fun i j=>.ax (decide (i≤j))) k7:=rB fun _ _ _=>by simp only[At]
end
section
variable{X:aM}{F:bt}{e a b c:Expr}{es:List Expr}{pos p:Pos}{m n:aD}{ma:aP}
def bZ(f:List D→R D)(m:aP):aD:=fun ρ=>(m ρ).bind f
noncomputable def md(F:bt)(r:List V→ai→cP→Prop)(f:List D→R D):Prop:=∀ σ ρ G H xs ds Q,Rel F G H σ ρ→aL F.K G ds xs→ik F G H σ ρ Q (f ds)→r xs H Q
theorem GK{r:List V→ai→cP→Prop}{f:List D→R D}(hf:md F r f):eK (cW F (bZ f ma)) (wY r (ei F ma)):=by
 rintro σ H Q ⟨G,ρ,AR,h⟩;unfold bZ at h;refine⟨G,ρ,AR,?_⟩;cases av:ma ρ with
 |bad=>rw[av]at h;exact h.elim
 |exc c=>rw[av]at h;exact h
 |ok ds=>rw[av,R.bE]at h;intro vs H1 aT au s1 a;exact hf σ ρ aT H1 vs ds Q au a (h.mono s1)
theorem yR{x:Str}{id:String}{r:List V→ai→cP→Prop}{f:List D→R D}(hc:gR X (.builtin id) r)(hf:md F r f)(hm:X.mg x=none)(hv:bootBuiltins x=some (.builtin id))(ha:gm X F (e::es) ma)(hg:cU X x:=by rfl)(aC:x≠"__name__":=by decide)(hdb:(x==("__debug__" :Str))=false:=by decide)(he:starEach (e::es) X.env=(false,eval e X.env)::starEach es X.env:=by rfl)(hpl:(backTo pos (starEach es X.env)).any (·.1)=false:=by rfl):a_ X F (.Call (.Name x p) (e::es) [] pos) (bZ f ma):=
 a3.imp (Ay hc hg hm hv ha aC hdb he hpl) (GK hf)
theorem yS{x:Str}{T:String}{r:List V→ai→cP→Prop}{f:List D→R D}(hc:gR X (.type T) r)(hf:md F r f)(hm:X.mg x=none)(hv:bootBuiltins x=some (.type T))(ha:gm X F (e::es) ma)(hg:cU X x:=by rfl)(aC:x≠"__name__":=by decide)(hdb:(x==("__debug__" :Str))=false:=by decide)(he:starEach (e::es) X.env=(false,eval e X.env)::starEach es X.env:=by rfl)(hpl:(backTo pos (starEach es X.env)).any (·.1)=false:=by rfl):a_ X F (.Call (.Name x p) (e::es) [] pos) (bZ f ma):=
 a3.imp (Az hc hg hm hv ha aC hdb he hpl) (GK hf)
noncomputable def cV:List D→R D
 |[.str x]=>if x.length≤1000000 then .ok (.int x.length)else .bad
 |[.lst xs]=>.ok (.int xs.length)
 |[.cy xs]=>.ok (.int xs.length)
 |[.tup xs]=>.ok (.int xs.length)
 |[.dy xs]=>.ok (.int xs.length)
 |_=>.bad
theorem aL.one{K:PySem.W.Frag}{G:ai}{d:D}{vs:List V}(a:aL K G [d] vs):∃v,vs=[v]∧At K G d v:=by simp only[aL]at a;obtain⟨v,r,rfl,h,rfl⟩:=a;exact⟨v,rfl,h⟩
theorem aL.two{K:PySem.W.Frag}{G:ai}{d e:D}{vs:List V}(a:aL K G [d,e] vs):∃v w,vs=[v,w]∧At K G d v∧At K G e w:=by simp only[aL]at a;obtain⟨v,r,rfl,h,w,bf,rfl,h',rfl⟩:=a;exact⟨v,w,rfl,h,h'⟩
theorem TO(hK:F.K=X.K):md F (fun xs H Q=>∃x n,xs=[x]∧Dm X.K x H n∧Q (.int n) H) cV:=by
 intro σ ρ G H xs ds Q r al k;unfold cV at k
 split at k
 ·rename_i x;obtain⟨v,rfl,bc⟩:=al.one;simp only[At]at bc;subst bc
  split at k
  ·rename_i hl;exact⟨_,x.length,rfl,⟨Nat.le_trans hl (by decide),rfl⟩,k _ H G r (cb.refl _ _) (by simp only[At])⟩
  ·exact k.elim
 ·rename_i ys;obtain⟨v,rfl,bc⟩:=al.one;simp only[At]at bc;obtain⟨q,xs,rfl,h,al⟩:=bc;rw[al.length]at k;exact⟨_,xs.length,rfl,.inl ⟨xs,bP.of (r.aK.sub _ _ h),rfl⟩,k _ H G r (cb.refl _ _) (by simp only[At])⟩
 ·rename_i ys;obtain⟨v,rfl,bc⟩:=al.one;simp only[At]at bc;obtain⟨q,xs,rfl,h,al⟩:=bc;rw[al.length]at k;rw[hK]at h;exact⟨_,xs.length,rfl,.inl ⟨xs,bP.mono r.aK.sub h,rfl⟩,k _ H G r (cb.refl _ _) (by simp only[At])⟩
 ·rename_i ys;obtain⟨v,rfl,bc⟩:=al.one;simp only[At]at bc;obtain⟨q,xs,rfl,h,al⟩:=bc;rw[al.length]at k;exact⟨_,xs.length,rfl,.inr ⟨xs,cS.of (r.aK.sub _ _ h),rfl⟩,k _ H G r (cb.refl _ _) (by simp only[At])⟩
 ·rename_i ys;obtain⟨v,rfl,bc⟩:=al.one;simp only[At]at bc;obtain⟨q,xs,rfl,h,al⟩:=bc;rw[al.length]at k;rw[hK]at h;exact⟨_,xs.length,rfl,.inr ⟨xs,cS.mono r.aK.sub h,rfl⟩,k _ H G r (cb.refl _ _) (by simp only[At])⟩
 ·exact k.elim
theorem M_(hm:X.mg "len"=none)(ha:gm X F [e] ma)(hK:F.K=X.K:=by rfl)(hg:cU X "len":=by rfl)(he:starEach [e] X.env=(false,eval e X.env)::starEach [] X.env:=by rfl)(hpl:(backTo pos (starEach [] X.env)).any (·.1)=false:=by rfl) :
  a_ X F (.Call (.Name "len" p) [e] [] pos) (bZ cV ma):=yR LZ (TO hK) hm PySem.boot_len ha hg (by decide) (by decide) he hpl
noncomputable def t_:D→Option String
 |.non=>some "NoneType"
 |.ax _=>some "bool"
 |.int _=>some "int"
 |.str _=>some "str"
 |.lst _=>some "list"
 |.cy _=>some "list"
 |.tup _=>some "tuple"
 |.dy _=>some "tuple"
 |.dm _ _=>some "dict"
 |.bK _ _=>some "dict"
 |_=>none
def B4(T U:String):Bool:=T==U||(T=="bool"&&U=="int")
def gi(U:String)(d:D):R D:=match t_ d with
 |some T=>.ok (.ax (B4 T U))
 |none=>.bad
noncomputable def nE(K:PySem.W.Frag)(U:String):Prop:=∀T,T="NoneType"∨T="bool"∨T="int"∨T="str"∨T="list"∨T="tuple"∨T="dict"→PySem.W.kitOne K (.type T) (.type U)=some (B4 T U)
theorem Ye(K:PySem.W.Frag):nE K "int":=fun T h=>by rcases h with rfl|rfl|rfl|rfl|rfl|rfl|rfl<;>kernel_rfl
theorem Yd(K:PySem.W.Frag):nE K "bool":=fun T h=>by rcases h with rfl|rfl|rfl|rfl|rfl|rfl|rfl<;>kernel_rfl
theorem JX(K:PySem.W.Frag):nE K "str":=fun T h=>by rcases h with rfl|rfl|rfl|rfl|rfl|rfl|rfl<;>kernel_rfl
theorem t8(K:PySem.W.Frag):nE K "list":=fun T h=>by rcases h with rfl|rfl|rfl|rfl|rfl|rfl|rfl<;>kernel_rfl
theorem Ck(K:PySem.W.Frag):nE K "tuple":=fun T h=>by rcases h with rfl|rfl|rfl|rfl|rfl|rfl|rfl<;>kernel_rfl
theorem QN{pins:List (Addr×Obj)}{σ :St}{H G:ai}{s:Shared}{Q:Value→Shared→Prop}{E:Value→Shared→Prop}{d:D}{x:V}{u:Value}{T U:String}{k:Bool}(I:Inv X pins σ H s)(aY:Sub G H)(at':At X.K G d x)(bw:RelV x u)(e:t_ d=some T)(tt:PySem.W.kitOne X.K (.type T) (.type U)=some k)(h:∀cX,Q (.bool k) { s with toks:=cX }):wpAny (model X.prog X.w) X.A (call (.builtin "isinstance") [u,.type U]) Q E s:=by
 cases d with
 |non=>cases e;simp only[At]at at';subst at';cases bw;exact PySem.W.kia_one PySem.W.kitx_none I.fJ True.intro tt (fun z=>nomatch z) h
 |ax b=>cases e;simp only[At]at at';subst at';cases bw;exact PySem.W.kia_one PySem.W.kitx_bool I.fJ True.intro tt (fun z=>nomatch z) h
 |int b=>cases e;simp only[At]at at';subst at';obtain⟨t,rfl⟩:=bw;exact PySem.W.kia_one PySem.W.kitx_int I.fJ True.intro tt (fun z=>nomatch z) h
 |str b=>cases e;simp only[At]at at';subst at';obtain⟨t,rfl⟩:=bw;exact PySem.W.kia_one PySem.W.kitx_str I.fJ True.intro tt (fun z=>nomatch z) h
 |lst ds=>cases e;simp only[At]at at';obtain⟨q,xs,rfl,aJ,_⟩:=at';cases bw;obtain⟨its,_,⟨o,n,aq,az,_⟩,_⟩:=I.list (bP.of (aY _ _ aJ));exact PySem.W.kia_one PySem.W.kitx_list I.fJ ⟨o,aq,az⟩ tt (fun z=>nomatch z) h
 |cy ds=>cases e;simp only[At]at at';obtain⟨q,xs,rfl,aJ,_⟩:=at';cases bw;obtain⟨its,_,⟨o,n,aq,az,_⟩,_⟩:=I.list (bP.mono aY aJ);exact PySem.W.kia_one PySem.W.kitx_list I.fJ ⟨o,aq,az⟩ tt (fun z=>nomatch z) h
 |tup ds=>cases e;simp only[At]at at';obtain⟨q,xs,rfl,aJ,_⟩:=at';cases bw;obtain⟨its,_,⟨o,aq,az,_⟩,_⟩:=I.tuple (cS.of (aY _ _ aJ));exact PySem.W.kia_one PySem.W.kitx_tuple I.fJ ⟨o,aq,az⟩ tt (fun z=>nomatch z) h
 |dy ds=>cases e;simp only[At]at at';obtain⟨q,xs,rfl,aJ,_⟩:=at';cases bw;obtain⟨its,_,⟨o,aq,az,_⟩,_⟩:=I.tuple (cS.mono aY aJ);exact PySem.W.kia_one PySem.W.kitx_tuple I.fJ ⟨o,aq,az⟩ tt (fun z=>nomatch z) h
 |dm aH ds=>cases e;simp only[At]at at';obtain⟨q,xs,rfl,aJ,_⟩:=at';cases bw;obtain⟨_,_,vs,_,o,es,cz,h1,h2,_⟩:=(show e5 X.prog X.w H s.heap q (.dm xs)from I.bF q _ (aY _ _ aJ));exact PySem.W.kia_one PySem.W.kitx_dict I.fJ ⟨o,h1,h2.1⟩ tt (fun z=>nomatch z) h
 |bK aH ds=>cases e;simp only[At]at at';obtain⟨q,xs,rfl,aJ,_⟩:=at';cases bw;obtain⟨_,_,zs,_,o,es,cz,h1,h2,_⟩:=(show e5 X.prog X.w H s.heap q (.bK xs)from I.bF q _ (aY _ _ aJ));exact PySem.W.kia_one PySem.W.kitx_dict I.fJ ⟨o,h1,h2.1⟩ tt (fun z=>nomatch z) h
 |ins C ns ds=>cases e
 |qU C=>cases e
theorem Yn{d:D}{T:String}(e:t_ d=some T):T="NoneType"∨T="bool"∨T="int"∨T="str"∨T="list"∨T="tuple"∨T="dict":=by cases d<;>cases e<;>simp
noncomputable def Vx(F:bt)(U:String):List V→ai→cP→Prop:=fun xs H Q=>∃G d x T,Sub G H∧xs=[x,.ty U]∧At F.K G d x∧t_ d=some T∧Q (.ax (B4 T U)) H
theorem LY{U:String}(hK:F.K=X.K)(tt:nE X.K U):gR X (.builtin "isinstance") (Vx F U):=by intro pins s σ H xs us Q I r h;obtain⟨G,d,x,T,aY,rfl,a,e,q⟩:=h;obtain⟨u,fq,rfl,bw,ed⟩:=vals2 r;obtain rfl:fq=Value.type U:=ed;rw[hK]at a;exact QN I aY a bw e (tt T (Yn e)) fun cX=>⟨.ax _,H,I.tok cX,rfl,q⟩
theorem M8{U:Str}{T:String}{cB:Pos}(tt:nE X.K T)(hm:X.mg "isinstance"=none)(hmU:X.mg U=none)(hU:bootBuiltins U=some (.type T))(ha:a_ X F a m)(hK:F.K=X.K:=by rfl)(hg:cU X "isinstance":=by rfl)(hgU:cU X U:=by rfl)(hnU:U≠"__name__":=by decide)(hdU:(U==("__debug__" :Str))=false:=by decide)(hs2:starEach [.Name U cB] X.env=(false,eval (.Name U cB) X.env)::starEach [] X.env:=by rfl)(he:starEach [a,.Name U cB] X.env=(false,eval a X.env)::starEach [.Name U cB] X.env:=by rfl)(hpl:(backTo pos (starEach [.Name U cB] X.env)).any (·.1)=false:=by rfl) :
  a_ X F (.Call (.Name "isinstance" p) [a,.Name U cB] [] pos) (dC (gi T) m):=by
 have hb:bootBuiltins "isinstance"=some (.builtin "isinstance"):=by kernel_rfl
 refine a3.imp (Ay (LY hK tt) hg hm hb (lg ha (lg (Uo hgU hmU hU (v:=.ty T) rfl hnU hdU) mW hs2) he) (by decide) (by decide) he hpl) ?_;rintro σ H Q ⟨G,ρ,r,h⟩;unfold dC at h;refine⟨G,ρ,r,?_⟩;cases av:m ρ with
 |bad=>rw[av]at h;exact h.elim
 |exc c=>rw[av]at h;exact h
 |ok d=>
  rw[av,R.bE]at h;intro x H1 aT au s1 bT;unfold gi at h;cases e:t_ d with
  |none=>rw[e]at h;exact h.elim
  |some i7=>rw[e]at h;exact⟨aT,d,x,i7,au.aK.sub,rfl,bT,e,h _ H1 aT au s1 (by simp only[At])⟩
noncomputable def ay:D→D→R D
 |.lst xs,.int i=>match gr xs i with|some d=>.ok d|none=>.bad
 |.cy xs,.int i=>match gr xs i with|some d=>.ok d|none=>.bad
 |.tup xs,.int i=>match gr xs i with|some d=>.ok d|none=>.bad
 |.dy xs,.int i=>match gr xs i with|some d=>.ok d|none=>.bad
 |.str x,.int i=>if x.length≤1000000 then match gr x.cps.toList i with|some c=>.ok (.str ⟨#[c]⟩)|none=>.bad else .bad
 |_,_=>.bad
theorem uK{K:PySem.W.Frag}{G:ai}{ds:List D}{xs:List V}{i:Int}{d:D}(q:aL K G ds xs)(e:gr ds i=some d):∃v,gr xs i=some v∧At K G d v:=by
 unfold gr at e ⊢;rw[q.length]at e;cases jc:lU xs.length i with
 |none=>rw[jc]at e;cases e
 |some j=>rw[jc]at e;obtain⟨v,aq,a⟩:=q.get e;exact⟨v,aq,a⟩
theorem TN(hK:F.K=X.K):fQ F (II X.K) ay:=by
 intro σ ρ G H x y a5 fx Q r bT cH k;unfold ay at k
 split at k
 ·rename_i ds i;simp only[At]at bT cH;obtain⟨p,xs,e,h,q⟩:=bT
  split at k
  ·rename_i d ek;obtain⟨v,ev,bc⟩:=uK q ek;exact .inl ⟨p,xs,i,v,e,cH,bP.of (r.aK.sub _ _ h),ev,k _ H G r (cb.refl _ _) bc⟩
  ·exact k.elim
 ·rename_i ds i;simp only[At]at bT cH;obtain⟨p,xs,e,h,q⟩:=bT
  split at k
  ·rename_i d ek;obtain⟨v,ev,bc⟩:=uK q ek;have h':=h;rw[hK]at h';exact .inl ⟨p,xs,i,v,e,cH,bP.mono r.aK.sub h',ev,k _ H G r (cb.refl _ _) bc⟩
  ·exact k.elim
 ·rename_i ds i;simp only[At]at bT cH;obtain⟨p,xs,e,h,q⟩:=bT
  split at k
  ·rename_i d ek;obtain⟨v,ev,bc⟩:=uK q ek;exact .inr (.inl ⟨p,xs,i,v,e,cH,cS.of (r.aK.sub _ _ h),ev,k _ H G r (cb.refl _ _) bc⟩)
  ·exact k.elim
 ·rename_i ds i;simp only[At]at bT cH;obtain⟨p,xs,e,h,q⟩:=bT
  split at k
  ·rename_i d ek;obtain⟨v,ev,bc⟩:=uK q ek;have h':=h;rw[hK]at h';exact .inr (.inl ⟨p,xs,i,v,e,cH,cS.mono r.aK.sub h',ev,k _ H G r (cb.refl _ _) bc⟩)
  ·exact k.elim
 ·rename_i z i;simp only[At]at bT cH
  split at k
  ·rename_i hl
   split at k
   ·rename_i c ec;exact .inr (.inr ⟨z,i,c,bT,cH,Nat.le_trans hl (by decide),ec,k _ H G r (cb.refl _ _) (by simp only[At])⟩)
   ·exact k.elim
  ·exact k.elim
 ·exact k.elim
theorem M9(ha:a_ X F a m)(hb:a_ X F b n)(hs:uA b)(hK:F.K=X.K:=by rfl):a_ X F (.Subscript a b pos) (ag ay m n):=a3.imp (Uz QZ ha hb hs) (vA (TN hK))
end
section
variable{X:aM}{F:bt}{e a b c:Expr}{es:List Expr}{pos p:Pos}{m n:aD}{ma:aP}
noncomputable def ef{α:Type}(xs:List α)(lo hi:Option Int):List α:=(xs.drop (d6.eH xs.length 0 lo)).take (d6.eH xs.length xs.length hi-d6.eH xs.length 0 lo)
def o3(x:Str)(lo hi:Option Int):Str:=⟨(ef x.cps.toList lo hi).toArray⟩
theorem Xu(lo hi:Option Int)(n:Nat):Builtin.Str.strSliceIndices lo hi 1 n=(List.range (d6.eH n n hi-d6.eH n 0 lo)).map (d6.eH n 0 lo+·):=by
 rw[←sliceRange_one];unfold Builtin.Str.strSliceIndices;simp only[show(1:Int)>0 by decide,if_true]
 congr 1
 ·cases lo with
  |none=>rfl
  |some i=>
   show max 0 (min (if i<0 then i+(n:Int)else i) (n:Int))=((if i<0 then(i+(n:Int)).toNat else min i.toNat n:Nat):Int)
   split<;>omega
 ·cases hi with
  |none=>rfl
  |some i=>
   show max 0 (min (if i<0 then i+(n:Int)else i) (n:Int))=((if i<0 then(i+(n:Int)).toNat else min i.toNat n:Nat):Int)
   split<;>omega
theorem IX(n:Nat)(v:Option Int){d:Nat}(hd:d≤n):d6.eH n d v≤n:=by
 cases v with
 |none=>exact hd
 |some i=>
  show(if i<0 then(i+(n:Int)).toNat else min i.toNat n)≤n
  split<;>omega
theorem Xj(x:Str)(lo hi:Option Int):Txt.slice x lo hi=o3 x lo hi:=by
 have hl:x.cps.toList.length=x.length:=by simp[Str.length]
 unfold Txt.slice o3 ef;rw[Xu,hl]
 split
 ·rename_i h;have h:d6.eH x.length x.length hi-d6.eH x.length 0 lo=x.length:=by simpa using h
  have h1:=IX x.length hi (Nat.le_refl _);have h2:d6.eH x.length 0 lo=0∨x.length=0:=by omega
  have e:(x.cps.toList.drop (d6.eH x.length 0 lo)).take (d6.eH x.length x.length hi-d6.eH x.length 0 lo)=x.cps.toList:=by
   rw[h];rcases h2 with z|z
   ·rw[z,List.drop_zero,List.take_of_length_le (by omega)]
   ·have c8:x.cps.toList=[]:=List.length_eq_zero_iff.mp (by omega);rw[c8];simp
  rw[e]
 ·rw[pick_run]
noncomputable def IQ:V→Option Int→Option Int→ai→cP→Prop:=fun x lo hi H Q=>∃z,x=.str z∧z.length≤sizeLine∧Q (.str (o3 z lo hi)) H
theorem Ic{v:Value}{o:Option Int}(h:IsPart v o):∃l:Option (Int×Tok),v=partValue l∧l.map (·.1)=o:=by
 cases h with
 |none=>exact⟨none,rfl,rfl⟩
 |int i t=>exact⟨some (i,t),rfl,rfl⟩
theorem Xg:oU X IQ:=by
 intro pins s σ H x v kB kC lo hi cF Q I bw hs pl pu h;obtain⟨z,rfl,bj,q⟩:=h;obtain⟨t,rfl⟩:=bw;obtain⟨l,rfl,el⟩:=Ic pl;obtain⟨u,rfl,kS⟩:=Ic pu;refine⟨"str",_,F.slot_str_getitem.lookup,typeIs_str s z t,wpAny_getItem_str_slice (l:=l) (u:=u) (st:=none) ?_ rfl ?_⟩
 ·obtain⟨o,h1,h2,h3⟩:=hs;exact⟨o,h1,h2,h3⟩
 ·have e:Txt.slice z lo hi=o3 z lo hi:=Xj z lo hi;have fin:∀t' k,gb X pins σ Q (.str (Txt.slice z lo hi) t') { s with toks:=k }:=fun t' k=>⟨.str (o3 z lo hi),H,I.tok k,⟨t',by rw[e]⟩,q⟩;unfold Txt.slice at fin;subst el kS;exact post_val_or_str ⟨Nat.le_trans (Txt.slice_le z _ _) bj,fin⟩
abbrev lG:=ao→R (Option Int)
def mQ:lG:=fun _=>.ok none
def intD:D→R (Option Int)
 |.int i=>.ok (some i)
 |_=>.bad
def ko(m:aD):lG:=fun ρ=>(m ρ).bind intD
noncomputable def Q9(F:bt)(G H:ai)(σ :St)(ρ:ao)(Q:Option Int→ai→Prop):R (Option Int)→Prop
 |.ok o=>∀H' G',Rel F G' H' σ ρ→cb G H G' H'→Q o H'
 |.exc c=>km F c
 |.bad=>False
def w3(F:bt)(m:lG):bI:=fun σ H Q=>∃G ρ,Rel F G H σ ρ∧Q9 F G H σ ρ Q (m ρ)
abbrev uz(X:aM)(F:bt)(e:Option Expr)(m:lG):Prop:=qC X e (w3 F m)
theorem Ug:uz X F none mQ:=fun pins s σ H Q I h=>by obtain⟨G,ρ,r,k⟩:=h;exact U4 pins s σ H Q I (k H G r (cb.refl _ _))
theorem Uh(h:a_ X F e m):uz X F (some e) (ko m):=fun pins s σ H Q I hw=>by
 obtain⟨G,ρ,r,k⟩:=hw;refine U5 h pins s σ H Q I ⟨G,ρ,r,?_⟩;unfold ko at k;cases av:m ρ with
 |bad=>rw[av]at k;exact k.elim
 |exc c=>rw[av]at k;exact k
 |ok d=>
  rw[av,R.bE]at k;intro x H1 aT au s1 bT;cases d with
  |int i=>simp only[At]at bT;exact⟨i,bT,k H1 aT au s1⟩
  |_=>exact k.elim
noncomputable def kp(f:D→Option Int→Option Int→R D)(m:aD)(lo hi:lG):aD:=fun ρ=>(m ρ).bind fun d=>(lo ρ).bind fun l=>(hi ρ).bind fun h=>f d l h
noncomputable def jZ(d:D)(l h:Option Int):R D:=match d with
 |.lst xs=>.ok (.lst (ef xs l h))
 |.cy xs=>.ok (.lst (ef xs l h))
 |.str x=>if x.length≤1000000 then .ok (.str (o3 x l h))else .bad
 |_=>.bad
theorem aL.cut{K:PySem.W.Frag}{G:ai}{ds:List D}{xs:List V}(q:aL K G ds xs)(l h:Option Int):aL K G (ef ds l h) (qP xs l h):=by unfold ef qP;rw[q.length];exact(q.drop _).take _
theorem Qp(hK:F.K=X.K){lo hi:lG}:eK (cW F (kp jZ m lo hi)) (JQ (fun x lo hi H Q=>IP X.K x lo hi H Q∨IQ x lo hi H Q) (cW F m) (w3 F lo) (w3 F hi)):=by
 rintro σ H Q ⟨G,ρ,r,h⟩;unfold kp at h;refine⟨G,ρ,r,?_⟩;cases av:m ρ with
 |bad=>rw[av]at h;exact h.elim
 |exc c=>rw[av]at h;exact h
 |ok d=>
  rw[av,R.bE]at h;intro x H1 aT au s1 bT;refine⟨aT,ρ,au,?_⟩;cases el:lo ρ with
  |bad=>rw[el]at h;exact h.elim
  |exc c=>rw[el]at h;exact h
  |ok l=>
   rw[el,R.bE]at h;intro a9 dj bh s2;refine⟨dj,ρ,bh,?_⟩;cases yU:hi ρ with
   |bad=>rw[yU]at h;exact h.elim
   |exc c=>rw[yU]at h;exact h
   |ok u=>
    rw[yU,R.bE]at h;intro dk gn dX s3;have up:=s1.trans (s2.trans s3);have qH:=(bT.mono s2.g).mono s3.g;cases d with
    |lst ds=>simp only[At]at qH;obtain⟨q,xs,rfl,aJ,al⟩:=qH;refine .inl ⟨q,xs,rfl,bP.of (dX.aK.sub _ _ aJ),fun cf aC=>?_⟩;refine h (.ref cf) _ _ (dX.lay aC) (up.trans (cb.lay dX.aK.sub aC)) ?_;simp only[At];exact⟨cf,_,rfl,eB,(al.cut l u).mono (Sub.upd (dX.aK.sub.gone aC))⟩
    |cy ds=>simp only[At]at qH;obtain⟨q,xs,rfl,aJ,al⟩:=qH;have nT:=aJ;rw[hK]at nT;refine .inl ⟨q,xs,rfl,bP.mono dX.aK.sub nT,fun cf aC=>?_⟩;refine h (.ref cf) _ _ (dX.lay aC) (up.trans (cb.lay dX.aK.sub aC)) ?_;simp only[At];exact⟨cf,_,rfl,eB,(al.cut l u).mono (Sub.upd (dX.aK.sub.gone aC))⟩
    |str z=>
     simp only[At]at qH;have h:ik F G H σ ρ Q (if z.length≤1000000 then .ok (.str (o3 z l u))else .bad):=h
     split at h
     ·rename_i bj;exact .inr ⟨z,qH,Nat.le_trans bj (by decide),h _ dk gn dX up (by simp only[At])⟩
     ·exact h.elim
    |_=>exact h.elim
theorem Nn{lo hi:Option Expr}{cB:Pos}{tC tA:lG}(ha:a_ X F a m)(hl:uz X F lo tC)(hh:uz X F hi tA)(hK:F.K=X.K:=by rfl):a_ X F (.Subscript a (.Slice lo hi none cB) pos) (kp jZ m tC tA):=a3.imp (UL (Xf.or Xg) ha hl hh) (Qp hK)
def m6:List D→R D
 |[.int i]=>if i.natAbs.log2<1920 then .ok (.str (toString i))else .bad
 |_=>.bad
theorem TR:md F (fun xs H Q=>∃i,xs=[.int i]∧i.natAbs.log2<1920∧Q (.str (toString i)) H) m6:=by
 intro σ ρ G H xs ds Q r al k;unfold m6 at k
 split at k
 ·rename_i i
  split at k
  ·rename_i hl;exact⟨i,al.ints1,hl,k _ H G r (cb.refl _ _) (by simp only[At])⟩
  ·exact k.elim
 ·exact k.elim
theorem Nq(hm:X.mg "str"=none)(ha:gm X F [e] ma)(hg:cU X "str":=by rfl)(he:starEach [e] X.env=(false,eval e X.env)::starEach [] X.env:=by rfl)(hpl:(backTo pos (starEach [] X.env)).any (·.1)=false:=by rfl) :
  a_ X F (.Call (.Name "str" p) [e] [] pos) (bZ m6 ma):=yS L4 TR hm (by kernel_rfl) ha hg (by decide) (by decide) he hpl
theorem LX:gR X (.type "int") (fun xs H Q=>(∃i,xs=[.int i]∧Q (.int i) H)∨∃x i,xs=[.str x]∧x.length≤640∧intText? x=some i∧Q (.int i) H):=by
 intro pins s σ H xs us Q I r h;rcases h with⟨i,rfl,q⟩|⟨x,i,rfl,hl,hi,q⟩
 ·obtain⟨u,rfl,t,rfl⟩:=vals1 r;exact call_int_int ⟨.int i,H,I,⟨_,rfl⟩,q⟩
 ·obtain⟨u,rfl,t,rfl⟩:=vals1 r;exact PySem.W.KIN.call_text hi hl ⟨.int i,H,I.tok _,⟨_,rfl⟩,q⟩
end
end aB
namespace aX
open PySem PySem.Spec
section
variable{prog:Program}{w:World}{A:Around}{E:Value→Shared→Prop}{s:Shared}
theorem Tf{it t:Addr}{i:Nat}{items:Array Value}{x:Value}{Q:Value→Shared→Prop}(hit:s.heap.IsTupleIter it t i)(ht:s.heap.IsTuple t items)(hx:items[i]?=some x)(fz:∀h',h'.IsTupleIter it t (i+1)→Heap.SameBut it s.heap h'→Q x { s with heap:=h' }):wpAny (model prog w) A (Builtin.SmallTypes.nextOf (.ref it)) Q E s:=by
 obtain⟨o,ho,hc,hd⟩:=id hit;obtain⟨ol,q0,_,nl,qW⟩:=ht;unfold Builtin.SmallTypes.nextOf
 refine wpAny_bind (wpAny_callSpecial?_slot (name:=Str.ofString "__next__") hit.typeIs F.slot_tuple_iterator_next
  (wpAny_call_entry F.slot_tuple_iterator_next hit.typeIs F.entry_tuple_iterator_next ?_ (F.args_tuple_iterator_next_1 _)))
 show wpAny _ _ (field (.ref it) 0>>=_) _ _ s;refine wpAny_bind (wpAny_field ho hd (x:=.ref t) rfl ?_);show wpAny _ _ (if(Value.ref t==Value.none)=true then _ else _) _ _ s;rw[if_neg (show¬((Value.ref t==Value.none)=true)from Bool.false_ne_true)];show wpAny _ _ (field (.ref it) 1>>=_) _ _ s;refine wpAny_bind (wpAny_field ho hd (x:=.int i 0) rfl ?_);show wpAny _ _ (seqItems? (.ref t)>>=_) _ _ s;refine wpAny_bind (wpAny_seqItems q0 qW ?_);simp only[Int.toNat_natCast,hx];refine wpAny_bind (wpAny_setField ho hd (by simp) (wpAny_pure ⟨x,rfl,wpAny_pure (fz _ ?_ (Heap.SameBut.update ..))⟩));exact⟨_,Heap.get?_update_self _ ho (Obj.isFreed_of_fields (Obj.data_mapFields hd _)),(Obj.cls_mapFields ..).trans hc,by
  rw[Obj.data_mapFields hd];simp[rawInt]⟩
theorem Te{it t:Addr}{i:Nat}{items:Array Value}{Q:Value→Shared→Prop}(hh:A.handled=none)(hit:s.heap.IsTupleIter it t i)(ht:s.heap.IsTuple t items)(hx:items[i]?=none)(hE:∀h' e,Heap.ExtBut it s.heap h'→(∃o,h'.get? e=some o∧o.cls=.type "StopIteration")→E (.ref e) { s with heap:=h' }):wpAny (model prog w) A (Builtin.SmallTypes.nextOf (.ref it)) Q E s:=by
 obtain⟨o,ho,hc,hd⟩:=id hit;obtain⟨ol,q0,_,nl,qW⟩:=ht;unfold Builtin.SmallTypes.nextOf
 refine wpAny_bind (wpAny_callSpecial?_slot (name:=Str.ofString "__next__") hit.typeIs F.slot_tuple_iterator_next
  (wpAny_call_entry F.slot_tuple_iterator_next hit.typeIs F.entry_tuple_iterator_next ?_ (F.args_tuple_iterator_next_1 _)))
 show wpAny _ _ (field (.ref it) 0>>=_) _ _ s;refine wpAny_bind (wpAny_field ho hd (x:=.ref t) rfl ?_);show wpAny _ _ (if(Value.ref t==Value.none)=true then _ else _) _ _ s;rw[if_neg (show¬((Value.ref t==Value.none)=true)from Bool.false_ne_true)];show wpAny _ _ (field (.ref it) 1>>=_) _ _ s;refine wpAny_bind (wpAny_field ho hd (x:=.int i 0) rfl ?_);show wpAny _ _ (seqItems? (.ref t)>>=_) _ _ s;refine wpAny_bind (wpAny_seqItems q0 qW ?_);simp only[Int.toNat_natCast,hx];refine wpAny_bind (wpAny_rule (wpAny_bind (wpAny_setField ho hd (by simp) ?_)));show wpAny _ _ (newExc (.type "StopIteration") []>>=_) _ _ _;refine wpAny_bind ?_;simp only[newExc,newTuple];refine wpAny_bind (wpAny_newObj_type ?_ (by size_fits));refine wpAny_bind (m:=firstArgMember _ _) (wpAny_of_eq (a:=Value.none) (by first|rfl|(simp only[firstArgMember];rfl)) ?_);refine wpAny_newObj_type ?_ (by size_fits);simp only[raiseNew];refine wpAny_bind (wpAny_handled ?_)
 first|rw[show A.in1.handled=none from hh]|rw[hh]
 refine wpAny_bind (wpAny_pure (wpAny_throw ?_));exact hE _ _ (((Heap.SameBut.update ..).extBut.push _).push _) ⟨_,Heap.get?_push_size _ rfl,rfl⟩
theorem Ep(hh:A.handled=none)(it l:Addr)(iM:l≠it)(items:Array Value) :
  Draws prog w A it [it,l] items.size (fun i v=>items[i]?=some v) (fun i h=>h.IsTupleIter it l i∧h.IsTuple l items) where
 live:=fun _ _ st=>let⟨o,ho,_⟩:=st.1;⟨o,ho⟩
 frame:=fun _ _ _ st hk=>⟨st.1.at fun o e=>hk it (by simp) o e,st.2.at fun o e=>hk l (by simp) o e⟩
 item:=fun i s Q E hi st fz=>by refine Tf st.1 st.2 (x:=items[i]) (by simp[hi]) fun h' O1 jg=>?_;exact fz _ h' s.toks (by simp[hi]) ⟨O1,st.2.extBut jg.extBut iM⟩ jg
 done:=fun s Q E st hE=>Te hh st.1 st.2 (by simp) hE
structure nH(z TI bI bk bz:Addr)(f1 f2:List Addr):Prop where
 TIz:TI≠z
 TOz:bI≠z
 TITO:TI≠bI
 TIi1:TI≠bk
 TIi2:TI≠bz
 TOi1:bI≠bk
 TOi2:bI≠bz
 i1z:bk≠z
 i2z:bz≠z
 i12:bk≠bz
 y4:z∉f1
 EK:bI∉f1
 N1:bz∉f1
 y6:z∉f2
 y5:bI∉f2
 EL:bk∉f2
theorem kd{a6:List Addr}{n:Nat}{P:Nat→Value→Prop}{St:Nat→Heap→Prop}{it b:Addr}{h h':Heap}{i:Nat}(D:Draws prog w A it a6 n P St)(st:St i h)(hs:Heap.SameBut b h h')(hb:b∉a6):St i h':=
 D.frame i h h' st fun c hc o e=>hs.extBut c o (fun z=>hb (z▸hc)) e
theorem ZA {z TI bI bk bz:Addr} {f1 f2:List Addr} {da c2 i:Nat} {kM kN:Nat→Value→Prop} {iD iE:Nat→Heap→Prop} {a b:Value} {Q:Value→Shared→Prop} (f_:Draws prog w A bk f1 da kM iD) (fP:Draws prog w A bz f2 c2 kN iE) (ap:nH z TI bI bk bz f1 f2)(bj:IsZip s.heap z TI bI .none) (ff:IsPair s.heap TI (.ref bk) (.ref bz)) (fA:IsPair s.heap bI a b) (h1:iD i s.heap) (h2:iE i s.heap) (dU:i<da) (cf:i<c2)(fz:∀x y h' cX,kM i x→kN i y→IsZip h' z TI bI (rawInt s.heap.objs.size)→IsPair h' bI x y→iD (i+1) h'→iE (i+1) h'→IsPair h' s.heap.objs.size x y→h'.objs.size=s.heap.objs.size+1→
    (∀c o,c≠z→c≠bI→c≠bk→c≠bz→s.heap.get? c=some o→h'.get? c=some o)→Q (.ref s.heap.objs.size) { s with heap:=h',toks:=cX }) :
  wpAny (model prog w) A (Builtin.«zip.__next__» ⟨[.ref z],[]⟩) (fun fin s'=>∃v,fin=.done (.ret v)∧Q v s') E s:=by
 show wpAny _ _ (field (.ref z) 2>>=_) _ _ _;refine wpAny_bind (wpAny_field bj rfl (x:=.bool false) rfl ?_);show wpAny _ _ (field (.ref z) 3>>=_) _ _ _;refine wpAny_bind (wpAny_field bj rfl (x:=.ref TI) rfl ?_);refine wpAny_bind (wpAny_seqItems ff rfl ?_);show wpAny _ _ (Builtin.SmallTypes.ownedTupleIsFree (.ref z)>>=_) _ _ _;refine wpAny_bind ?_;unfold Builtin.SmallTypes.ownedTupleIsFree;refine wpAny_bind (wpAny_field bj rfl (x:=.none) rfl (wpAny_pure ?_));simp only[if_true];refine wpAny_bind (wpAny_rule ?_);refine wpAny_bind (wpAny_field bj rfl (x:=.ref bI) rfl ?_);refine wpAny_bind (wpAny_setField_rec bj (by simp) fun jL nX hS=>?_);replace nX:IsZip jL z TI bI .ellipsis:=nX;refine wpAny_bind ?_;simp only[List.zipIdx_cons,List.zipIdx_nil,List.forIn_cons,List.forIn_nil];refine wpAny_bind (wpAny_bind (wpAny_onRaise ?_));show wpAny _ _ (Builtin.SmallTypes.nextOf (.ref bk)>>=_) _ _ _;refine wpAny_bind (f_.item i _ _ _ dU (kd f_ h1 hS ap.y4) fun x kW J0 hx Jw iN=>wpAny_pure ?_);have sJ:IsPair kW bI a b:=iN.extBut _ _ ap.TOi1 (hS.extBut _ _ ap.TOz fA);refine wpAny_bind (wpAny_seqItems sJ rfl ?_);refine wpAny_bind (wpAny_updateSeq_pair sJ fun nY vm kj=>?_);replace vm:IsPair nY bI x b:=vm;refine wpAny_bind (wpAny_letGo (wpAny_pure ?_));refine wpAny_bind (wpAny_bind (wpAny_onRaise ?_));show wpAny _ _ (Builtin.SmallTypes.nextOf (.ref bz)>>=_) _ _ _;have Xo:iE i nY:=kd fP (kd fP (kd fP h2 hS ap.y6) iN ap.EL) kj ap.y5;refine wpAny_bind (fP.item i _ _ _ cf Xo fun y sV abA bX Xv nV=>wpAny_pure ?_);have F5:IsPair sV bI x b:=nV.extBut _ _ ap.TOi2 vm;refine wpAny_bind (wpAny_seqItems F5 rfl ?_);refine wpAny_bind (wpAny_updateSeq_pair F5 fun g6 vn nW=>?_);replace vn:IsPair g6 bI x y:=vn;refine wpAny_bind (wpAny_letGo (wpAny_pure (wpAny_pure ?_)));refine wpAny_bind (wpAny_seqItems vn rfl ?_);refine wpAny_bind (wpAny_newTuple ?_);have hsz:g6.objs.size=s.heap.objs.size:=by rw[nW.1,nV.1,kj.1,iN.1,hS.1]
 have Gv:IsZip g6 z TI bI .ellipsis:=nW.extBut _ _ ap.TOz.symm (nV.extBut _ _ ap.i2z.symm (kj.extBut _ _ ap.TOz.symm (iN.extBut _ _ ap.i1z.symm nX)));have O8:∀c o,c≠z→c≠bI→c≠bk→c≠bz→s.heap.get? c=some o→g6.get? c=some o:=fun c o bN cZ eN kP e=>
  nW.extBut _ _ cZ (nV.extBut _ _ kP (kj.extBut _ _ cZ (iN.extBut _ _ eN (hS.extBut _ _ bN e))))
 have Xn:iD (i+1) g6:=kd f_ (kd f_ (kd f_ Jw kj ap.EK) nV ap.N1) nW ap.EK;have Xp:iE (i+1) g6:=kd fP Xv nW ap.y5;have Gr:z<g6.objs.size:=Heap.lt_size Gv;show wpAny _ _ (Builtin.SmallTypes.ownedTupleHandOut (.ref z) (.ref g6.objs.size)>>=_) _ _ _;refine wpAny_bind ?_;unfold Builtin.SmallTypes.ownedTupleHandOut;have PG:IsZip (g6.push { cls:=.type "tuple",data:=.seq #[x,y] }) z TI bI .ellipsis:=Heap.get?_push_of_some _ Gv;refine wpAny_bind (wpAny_setField_rec PG (by simp) fun PI zK zF=>?_);replace zK:IsZip PI z TI bI (rawInt g6.objs.size):=zK;refine wpAny_setField_rec zK (by simp) fun sW vx zG=>?_;replace vx:IsZip sW z TI bI (rawInt g6.objs.size):=vx;have up:∀c o,c≠z→g6.get? c=some o→sW.get? c=some o:=fun c o bN e=>zG.extBut _ _ bN (zF.extBut _ _ bN (Heap.get?_push_of_some _ e));have F7:IsPair sW g6.objs.size x y:=zG.extBut _ _ (Nat.ne_of_gt Gr) (zF.extBut _ _ (Nat.ne_of_gt Gr) (Heap.get?_push_size _ rfl));have Gq:sW.objs.size=g6.objs.size+1:=by rw[zG.1,zF.1,Heap.size_push]
 rw[hsz]at vx F7 Gq;refine wpAny_pure ⟨_,rfl,?_⟩;show Q (.ref g6.objs.size) _;rw[hsz];exact fz x y sW _ hx bX vx (up _ _ ap.TOz vn) (f_.frame _ _ _ Xn fun c hc o e=>up c o (fun q=>ap.y4 (q▸hc)) e) (fP.frame _ _ _ Xp fun c hc o e=>up c o (fun q=>ap.y6 (q▸hc)) e) F7 Gq fun c o bN cZ eN kP e=>up c o bN (O8 c o bN cZ eN kP e)
theorem Zz{z TI bI bk bz:Addr}{f1 f2:List Addr}{da c2 i:Nat}{kM kN:Nat→Value→Prop}{iD iE:Nat→Heap→Prop}{a b:Value}{Q:Fin→Shared→Prop}(f_:Draws prog w A bk f1 da kM iD)(fP:Draws prog w A bz f2 c2 kN iE)(ap:nH z TI bI bk bz f1 f2)(bj:IsZip s.heap z TI bI .none)(ff:IsPair s.heap TI (.ref bk) (.ref bz))(fA:IsPair s.heap bI a b)(h1:iD i s.heap)(h2:iE i s.heap)(zo:i=da∨(i<da∧i=c2))(hE:∀h' e cX,(∀c o,c≠z→c≠bI→c≠bk→c≠bz→s.heap.get? c=some o→h'.get? c=some o)→(∃o,h'.get? e=some o∧o.cls=.type "StopIteration")→E (.ref e) { s with heap:=h',toks:=cX }) :
  wpAny (model prog w) A (Builtin.«zip.__next__» ⟨[.ref z],[]⟩) Q E s:=by
 show wpAny _ _ (field (.ref z) 2>>=_) _ _ _;refine wpAny_bind (wpAny_field bj rfl (x:=.bool false) rfl ?_);show wpAny _ _ (field (.ref z) 3>>=_) _ _ _;refine wpAny_bind (wpAny_field bj rfl (x:=.ref TI) rfl ?_);refine wpAny_bind (wpAny_seqItems ff rfl ?_);show wpAny _ _ (Builtin.SmallTypes.ownedTupleIsFree (.ref z)>>=_) _ _ _;refine wpAny_bind ?_;unfold Builtin.SmallTypes.ownedTupleIsFree;refine wpAny_bind (wpAny_field bj rfl (x:=.none) rfl (wpAny_pure ?_));simp only[if_true];refine wpAny_bind (wpAny_rule ?_);refine wpAny_bind (wpAny_field bj rfl (x:=.ref bI) rfl ?_);refine wpAny_bind (wpAny_setField_rec bj (by simp) fun jL nX hS=>?_);replace nX:IsZip jL z TI bI .ellipsis:=nX;refine wpAny_bind ?_;simp only[List.zipIdx_cons,List.zipIdx_nil,List.forIn_cons,List.forIn_nil];refine wpAny_bind (wpAny_bind (wpAny_onRaise ?_));show wpAny _ _ (Builtin.SmallTypes.nextOf (.ref bk)>>=_) _ _ _;have Jm:iD i jL:=kd f_ h1 hS ap.y4;rcases zo with aq|⟨dU,az⟩
 ·subst aq;refine wpAny_bind (f_.done _ _ _ Jm fun kW e iN he=>?_);obtain⟨An,pq,sO⟩:=he;have Gs:IsZip kW z TI bI .ellipsis:=iN _ _ ap.i1z.symm nX;have zp:e≠z:=fun x=>by subst x;rw[Gs]at pq;cases pq;simp at sO
  refine wpAny_setField_rec Gs (by simp) fun nY _ kj=>hE nY e s.toks (fun c o bN _ eN _ x=>kj.extBut _ _ bN (iN _ _ eN (hS.extBut _ _ bN x))) ⟨An,kj.extBut _ _ zp pq,sO⟩
 ·subst az;refine wpAny_bind (f_.item _ _ _ _ dU Jm fun x kW J0 hx Jw iN=>wpAny_pure ?_);have sJ:IsPair kW bI a b:=iN.extBut _ _ ap.TOi1 (hS.extBut _ _ ap.TOz fA);refine wpAny_bind (wpAny_seqItems sJ rfl ?_);refine wpAny_bind (wpAny_updateSeq_pair sJ fun nY vm kj=>?_);refine wpAny_bind (wpAny_letGo (wpAny_pure ?_));refine wpAny_bind (wpAny_bind (wpAny_onRaise ?_));show wpAny _ _ (Builtin.SmallTypes.nextOf (.ref bz)>>=_) _ _ _;refine wpAny_bind (fP.done _ _ _ (kd fP (kd fP (kd fP h2 hS ap.y6) iN ap.EL) kj ap.y5) fun sV e nV he=>?_);obtain⟨An,pq,sO⟩:=he;have Gu:IsZip sV z TI bI .ellipsis:=nV _ _ ap.i2z.symm (kj.extBut _ _ ap.TOz.symm (iN.extBut _ _ ap.i1z.symm nX));have zp:e≠z:=fun x=>by subst x;rw[Gu]at pq;cases pq;simp at sO
  refine wpAny_setField_rec Gu (by simp) fun g6 _ nW=>hE g6 e J0 (fun c o bN cZ eN kP x=>nW.extBut _ _ bN (nV _ _ kP (kj.extBut _ _ cZ (iN.extBut _ _ eN (hS.extBut _ _ bN x))))) ⟨An,nW.extBut _ _ zp pq,sO⟩
theorem IG {z TI bI bk bz:Addr} {f1 f2:List Addr} {da c2 i:Nat} {kM kN:Nat→Value→Prop} {iD iE:Nat→Heap→Prop} {a b:Value} {Q:Option Value→Shared→Prop} (f_:Draws prog w A.in1 bk f1 da kM iD) (fP:Draws prog w A.in1 bz f2 c2 kN iE) (ap:nH z TI bI bk bz f1 f2)(bj:IsZip s.heap z TI bI .none) (ff:IsPair s.heap TI (.ref bk) (.ref bz)) (fA:IsPair s.heap bI a b) (h1:iD i s.heap) (h2:iE i s.heap) (dU:i<da) (cf:i<c2)(fz:∀x y h' cX,kM i x→kN i y→IsZip h' z TI bI (rawInt s.heap.objs.size)→IsPair h' bI x y→iD (i+1) h'→iE (i+1) h'→IsPair h' s.heap.objs.size x y→h'.objs.size=s.heap.objs.size+1→
    (∀c o,c≠z→c≠bI→c≠bk→c≠bz→s.heap.get? c=some o→h'.get? c=some o)→Q (some (.ref s.heap.objs.size)) { s with heap:=h',toks:=cX }) :
  wpAny (model prog w) A (pyNext (.ref z)) Q E s:=by
 have fZ:s.TypeIs (.ref z) "zip":=⟨_,bj,rfl⟩;unfold pyNext
 exact wpAny_bind (wpAny_attempt (wpAny_callSpecial?_slot (name:=Str.ofString "__next__") fZ F.slot_zip_next
  (wpAny_call_entry F.slot_zip_next fZ F.entry_zip_next
    (ZA f_ fP ap bj ff fA h1 h2 dU cf fun x y h' cX a1 a2 eE hA ib i9 xT xU Lb=>wpAny_pure (fz x y h' cX a1 a2 eE hA ib i9 xT xU Lb)) (F.args_zip_next_1 _))))
theorem IF{z TI bI bk bz:Addr}{f1 f2:List Addr}{da c2 i:Nat}{kM kN:Nat→Value→Prop}{iD iE:Nat→Heap→Prop}{a b:Value}{Q:Option Value→Shared→Prop}(f_:Draws prog w A.in1 bk f1 da kM iD)(fP:Draws prog w A.in1 bz f2 c2 kN iE)(ap:nH z TI bI bk bz f1 f2)(bj:IsZip s.heap z TI bI .none)(ff:IsPair s.heap TI (.ref bk) (.ref bz))(fA:IsPair s.heap bI a b)(h1:iD i s.heap)(h2:iE i s.heap)(zo:i=da∨(i<da∧i=c2))(fz:∀h' cX,(∀c o,c≠z→c≠bI→c≠bk→c≠bz→s.heap.get? c=some o→h'.get? c=some o)→Q none { s with heap:=h',toks:=cX }):wpAny (model prog w) A (pyNext (.ref z)) Q E s:=by
 have fZ:s.TypeIs (.ref z) "zip":=⟨_,bj,rfl⟩;unfold pyNext
 refine wpAny_bind (wpAny_attempt (wpAny_callSpecial?_slot (name:=Str.ofString "__next__") fZ F.slot_zip_next
  (wpAny_call_entry F.slot_zip_next fZ F.entry_zip_next (Zz f_ fP ap bj ff fA h1 h2 zo fun h' e cX hk he=>?_) (F.args_zip_next_1 _))))
 obtain⟨o,ho,hc⟩:=he;refine wpAny_bind (wpAny_isInstance (T:="StopIteration") (b:=true) ⟨o,ho,hc⟩ isSubtype_stop ?_);exact wpAny_pure (fz _ _ hk)
end
theorem Inv.t9{X:aM}{pins:List (Addr×Obj)}{σ :St}{H:ai}{s:Shared}{h':Heap}{t':Nat}{ch:List Addr}(I:Inv X pins σ H s)(k:∀b o,b∉ch→s.heap.get? b=some o→h'.get? b=some o)(hf:∀b∈ch,i4 X pins H b):Inv X pins σ H { s with heap:=h',toks:=t' }:=by
 have oe:∀b u,H b=some u→b∉ch:=fun b u e z=>by rw[(hf b z).1]at e;cases e
 refine I.step (g':=s.gens) (d':=s.drawn) (ch:=ch) (fun b hb=>?_) (fun b o _ _ hc e _=>k b o hc e) (fun b o _ _ hc e _=>⟨o.slots,k b o hc e⟩) (fun _ _ _ _ n=>n)
  (fun b o hc e=>⟨o,k b o hc e⟩) (fun _ _ e=>e) (fun _ _ _ e=>e) (fun b ps e=>⟨#[],by rw[e];simp⟩) (fun m hm=>?_) (fun b u e=>?_) I.bare
 ·obtain⟨_,f1,_,ew,f4,hL⟩:=hf b hb;exact⟨ew,f1,f4,hL⟩
 ·obtain⟨o,es,cz,ho,r⟩:=hm;exact⟨o,es,cz,k _ o (fun z=>(hf _ z).2.1 rfl) ho,r⟩
 ·refine(I.bF b u e).m5 (fun c v hc q=>k c v ?_ q) (fun _ q=>q) fun _ _ q=>q;rcases hc with z|z
  ·rw[z];exact oe b u e
  ·exact oe c _ z
theorem Inv.Cq{X:aM}{pins:List (Addr×Obj)}{σ :St}{H:ai}{s:Shared}{h':Heap}{t':Nat}{ch:List Addr}{T:Addr}{xs:List V}{its:List Value}(I:Inv X pins σ H s)(k:∀b o,b∉ch→s.heap.get? b=some o→h'.get? b=some o)(hf:∀b∈ch,i4 X pins H b)(fZ:s.heap.objs.size≤T)(ht:PyProof.Rows.IsTup h' T its.toArray)(bV:Vals xs its)(bj:xs.length≤sizeLine):Inv X pins σ (upd H T (.tup xs)) { s with heap:=h',toks:=t' }:=by
 have oe:∀b u,H b=some u→b∉ch:=fun b u e z=>by rw[(hf b z).1]at e;cases e
 have aC:H T=none:=I.bF.fresh fZ;have neT:∀b o,s.heap.get? b=some o→b≠T:=fun b o e=>Nat.ne_of_lt (Nat.lt_of_lt_of_le (Heap.lt_size e) fZ)
 refine I.step (g':=s.gens) (d':=s.drawn) (ch:=ch) (fun b hb=>?_) (fun b o _ _ hc e _=>k b o hc e) (fun b o _ _ hc e _=>⟨o.slots,k b o hc e⟩) (fun b o _ e n=>by rw[dJ (neT b o e)];exact n)
  (fun b o hc e=>⟨o,k b o hc e⟩) (fun b ys e=>by rw[dJ (jk e aC)];exact e) (fun b _ _ e=>by rw[dJ (jk e aC)];exact e) (fun b ps e=>⟨#[],by rw[dJ (jk e aC),e];simp⟩) (fun m hm=>?_) (fun b u e=>?_) I.bare
 ·obtain⟨_,f1,_,ew,f4,hL⟩:=hf b hb;exact⟨ew,f1,f4,hL⟩
 ·obtain⟨o,es,cz,ho,r⟩:=hm;exact⟨o,es,cz,k _ o (fun z=>(hf _ z).2.1 rfl) ho,r⟩
 ·by_cases hb:b=T
  ·subst hb;rw[eB]at e;cases e;exact⟨bj,its,bV,ht⟩
  ·rw[dJ hb]at e;refine(I.bF b u e).m5 (fun c v hc q=>k c v ?_ q) (fun c q=>by rw[dJ (jk q aC)];exact q) fun c ys q=>by rw[dJ (jk q aC)];exact q
   rcases hc with z|z
   ·rw[z];exact oe b u e
   ·exact oe c _ z
noncomputable def xH(x:Str):It:=⟨fun i _=>i<x.cps.size,fun i H v H'=>H'=H∧∃c,x.cps[i]?=some c∧v=.str ⟨#[c]⟩,fun i _=>i=x.cps.size⟩
theorem Kd{prog:Program}{w:World}{A:Around}(hh:A.handled=none)(I:Addr)(x:Str)(t:Tok):Walks prog w A I [I] [I] x.cps.size (SignAt x) (fun i h=>h.IsStrIter I (strIterType x) x t i):=by
 unfold strIterType;cases ha:x.cps.all (· <128)
 ·rw[if_neg Bool.false_ne_true];exact Walks.strWide hh I x t
 ·rw[if_pos rfl];exact Walks.strAscii hh I x t
theorem qQ{prog:Program}{w:World}{A:Around}(hh:A.handled=none)(I:Addr)(x:Str)(t:Tok):Draws prog w A I [I] x.cps.size (fun i v=>∃c u,x.cps[i]?=some c∧v=.str ⟨#[c]⟩ u) (fun i h=>h.IsStrIter I (strIterType x) x t i):=by
 unfold strIterType;cases ha:x.cps.all (· <128)
 ·rw[if_neg Bool.false_ne_true];exact Draws.strWide hh I x t
 ·rw[if_pos rfl];exact Draws.strAscii hh I x t
theorem Xt(x:Str):["enumerate","zip","dict_itemiterator","dict_reverseitemiterator","odict_iterator","itertools.zip_longest","itertools.pairwise"].contains (strIterType x)=false:=by
 unfold strIterType
 split<;>decide
theorem Yi{P:Program}{w:World}{K:PySem.W.Frag}{bC:Expr}(it:Addr)(x:Str)(t:Tok):Turn P w K bC (xH x) [it] it (fun i h=>h.IsStrIter it (strIterType x) x t i) where
 mem:=by simp
 obj:=fun i h st b hb=>by
  have e:b=it:=by simpa using hb
  subst e;obtain⟨o,e,c,d⟩:=st;exact⟨o,e,fun v z=>by rw[d]at z;cases z⟩
 keep:=fun i h h' st k=>by obtain⟨o,e,r⟩:=st;exact⟨o,k it (by simp) o e,r⟩
 item:=by intro X de hw hK hc i pins s σ H E I hf st hg;subst de hw hK;have W:=Kd (prog:=X.prog) (w:=X.w) (A:=X.A) (I.ok.hd hc) it x t;refine W.item i s _ _ hg st fun v h' cX hv lu cv=>?_;obtain⟨c,u,vp,rfl⟩:=hv;have aQ:Inv X pins σ H { s with heap:=h',toks:=cX }:=I.t9 (ch:=[it]) cv hf;obtain⟨o,e,bN,d1⟩:=id lu;exact⟨_,rfl,vi (s:={ s with heap:=h',toks:=cX }) e bN d1 (Xt x) ⟨.str ⟨#[c]⟩,H,aQ,⟨u,rfl⟩,⟨rfl,c,vp,rfl⟩,lu,fun b hb=>(hf b hb).1⟩⟩
 done:=by intro X de hw hK hc i pins s σ H E I hf st hg;subst de hw hK;have W:=Kd (prog:=X.prog) (w:=X.w) (A:=X.A) (I.ok.hd hc) it x t;have hi:i=x.cps.size:=hg;subst hi;exact W.done s _ _ st fun h' cX cv=>⟨rfl,I.t9 (ch:=[it]) cv hf⟩
 self:=fun A i s Q E st h=>by
  unfold strIterType at st;cases ha:x.cps.all (· <128)
  ·rw[ha,if_neg Bool.false_ne_true]at st;exact wpAny_pyIter_striter_wide st h
  ·rw[ha,if_pos rfl]at st;exact wpAny_pyIter_striter_ascii st h
section
variable{X:aM}{bC:Expr}
def GD(bH:TE):TI:=fun σ H R=>bH σ H fun v H1=>∃x,v=.str x∧R (xH x) H1
theorem UR{l:Expr}{bH:TE}(hl:a3 X l bH):fR X bC l (GD bH):=by
 intro pins s σ H R I h;refine bL (hl pins s σ H _ I h) fun v s1⟨y,H1,aQ,au,aS⟩=>?_;obtain⟨x,e,q⟩:=aS;subst e;obtain⟨t,rfl⟩:=au;refine wpAny_pyIter_strU ?_;refine⟨s1.heap.objs.size,[s1.heap.objs.size],_,_,H1,rfl,aQ.kept (t':=s1.toks) fun b o e=>Heap.get?_push_of_some _ e,Yi _ x t,⟨_,Heap.get?_push_size _ rfl,rfl,rfl⟩,fun b hb=>?_,q⟩;have e:b=s1.heap.objs.size:=by simpa using hb
 subst e;exact aQ.mD (Nat.le_refl _) (aQ.bF.fresh (Nat.le_refl _))
end
noncomputable def xF(K:PySem.W.Frag)(l:Addr):It:=⟨fun i H=>∃xs x,bP K H l xs∧xs[i]?=some x,fun i H v H'=>∃p x,H p=none∧H'=upd H p (.tup [.int (i:Int),x])∧v=.ref p∧∀xs,bP K H l xs→xs[i]?=some x,fun i H=>∃xs,bP K H l xs∧xs.length=i⟩
theorem Yf{P:Program}{w:World}{K:PySem.W.Frag}{elts:List Expr}{cv:Nat}{pos:Pos}(e it l:Addr)(Gb:e≠it) :
  Turn P w K (.Tuple elts cv pos) (xF K l) [e,it] e (fun i h=>(∃old,IsEnum h e it i old)∧h.IsListIter it l i) where
 mem:=by simp
 obj:=fun i h st b hb=>by
  obtain⟨⟨old,he⟩,o,aq,c,d⟩:=st;rcases List.mem_cons.mp hb with z|z
  ·subst z;exact⟨_,he,fun v z=>by have fb:Data.fields _=Data.cell v:=z;cases fb⟩
  ·have z:b=it:=by simpa using z
   subst z;exact⟨o,aq,fun v z=>by rw[d]at z;cases z⟩
 keep:=fun i h h' st k=>by obtain⟨⟨old,he⟩,hit⟩:=st;exact⟨⟨old,k e (by simp) _ he⟩,hit.at fun o x=>k it (by simp) o x⟩
 item:=by
  intro X de hw hK hc i pins s σ H E I hf st hg;subst de hw hK;obtain⟨xs,x,aJ,hx⟩:=hg;obtain⟨its,bV,pl,bj⟩:=I.list aJ;obtain⟨⟨old,he⟩,hit⟩:=st;have gh:=pl.isList;have hle:l≠e:=fun z=>by subst z;obtain⟨o,ho,iL,_⟩:=gh;rw[he]at ho;cases ho;have iL:Value.type "enumerate"=Value.type "list":=iL;injection iL with iL;exact absurd iL (by decide)
  have sR:l≠it:=fun z=>by subst z;obtain⟨o,ho,iL,_⟩:=gh;obtain⟨bJ,ho',mG,_⟩:=hit;rw[ho']at ho;cases ho;rw[iL]at mG;injection mG with mG;exact absurd mG (by decide)
  have W:=WalksT.enumerate (prog:=X.prog) (w:=X.w) (A:=X.A) (I.ok.hd hc) e it l Gb hle sR its.toArray;have hlen:=bV.length;have zt:i<xs.length:=(List.getElem?_eq_some_iff.mp hx).1;refine W.item i s _ _ (by rw[List.size_toArray,←hlen];exact zt) ⟨⟨old,he⟩,hit,gh⟩ fun T vals h' cX de fZ OD pk hk=>?_;obtain⟨t,u,hu,rfl⟩:=de;obtain⟨iu,zH,ed⟩:=bV.get hx;have kS:iu=u:=by rw[List.getElem?_toArray]at hu;rw[zH]at hu;exact Option.some.inj hu
  subst kS;refine⟨_,rfl,?_⟩;refine W.go elts cv pos i T { s with heap:=h',toks:=cX } _ _ pk fun h2 ky qZ=>?_;have F6:T∉[e,it]:=W.apart i T h' pk;have keep:∀b o,b∉[e,it]→s.heap.get? b=some o→h2.get? b=some o:=fun b o hb q=>qZ b o hb (hk b o hb q);have sU:PyProof.Rows.IsTup h2 T (#[.int i t,iu]:Array Value):=by obtain⟨o,ho,r⟩:=OD;exact⟨o,qZ T o F6 ho,r⟩
  have aC:H T=none:=I.bF.fresh fZ;have b5:Inv X pins σ (upd H T (.tup [.int (i:Int),x])) { s with heap:=h2,toks:=cX }:=I.Cq (its:=[.int i t,iu]) (ch:=[e,it]) keep hf fZ sU (.cons ⟨t,rfl⟩ (.cons ed .nil)) (by show 2≤sizeLine;decide);refine⟨.ref T,upd H T (.tup [.int (i:Int),x]),b5,rfl,⟨T,x,aC,rfl,rfl,fun ys bX=>by rw[I.z3 bX aJ];exact hx⟩,⟨ky.1,ky.2.1⟩,fun b hb=>?_⟩;have nb:b≠T:=fun z=>F6 (z▸hb);rw[dJ nb];exact(hf b hb).1
 done:=by
  intro X de hw hK hc i pins s σ H E I hf st hg;subst de hw hK;obtain⟨xs,aJ,hx⟩:=hg;obtain⟨its,bV,pl,bj⟩:=I.list aJ;obtain⟨⟨old,he⟩,hit⟩:=st;have gh:=pl.isList;have hle:l≠e:=fun z=>by subst z;obtain⟨o,ho,iL,_⟩:=gh;rw[he]at ho;cases ho;have iL:Value.type "enumerate"=Value.type "list":=iL;injection iL with iL;exact absurd iL (by decide)
  have sR:l≠it:=fun z=>by subst z;obtain⟨o,ho,iL,_⟩:=gh;obtain⟨bJ,ho',mG,_⟩:=hit;rw[ho']at ho;cases ho;rw[iL]at mG;injection mG with mG;exact absurd mG (by decide)
  have W:=WalksT.enumerate (prog:=X.prog) (w:=X.w) (A:=X.A) (I.ok.hd hc) e it l Gb hle sR its.toArray;have iH:i=its.toArray.size:=by rw[List.size_toArray,←bV.length];exact hx.symm
  subst iH;exact W.done s _ _ ⟨⟨old,he⟩,hit,gh⟩ fun h' cX cv=>⟨rfl,I.t9 (ch:=[e,it]) cv hf⟩
 self:=fun A i s Q E st h=>by obtain⟨⟨old,he⟩,_⟩:=st;exact wpAny_pyIter_enum he h
section
variable{X:aM}{elts:List Expr}{cv:Nat}{p8:Pos}
noncomputable def GA(K:PySem.W.Frag)(b1:er):TI:=fun σ H R=>b1 σ H fun vs H1=>∃l,vs=[.ref l]∧(∃xs,bP K H1 l xs)∧R (xF K l) H1
theorem UO{a:Expr}{b1:er}{p pos:Pos}(hg:cU X "enumerate")(hm:X.mg "enumerate"=none)(ha:eT X [a] b1)(hs:starEach [a] X.env=[(false,eval a X.env)]:=by rfl):fR X (.Tuple elts cv p8) (.Call (.Name "enumerate" p) [a] [] pos) (GA X.K b1):=by
 have hb:bootBuiltins "enumerate"=some (.type "enumerate"):=by kernel_rfl
 intro pins s σ H R I h;refine PyProof.Rows.Call_ (mL I hg hm hb (PyProof.Rows.callWith_type1 (bL (ha pos pins s σ H _ I h) fun us s1⟨vs,H1,aQ,au,aS⟩=>?_) hs rfl));obtain⟨l,e,⟨xs,aJ⟩,q⟩:=aS;subst e;obtain⟨u,rfl,ed⟩:=vals1 au;cases ed;obtain⟨its,bV,pl,bj⟩:=aQ.list aJ;refine call_enumerate_list pl.isList fun h' he hit hsz hk=>?_;have b5:Inv X pins σ H1 { s1 with heap:=h' }:=aQ.kept (t':=s1.toks) hk;refine wpAny_pyIter_enum he ?_;refine⟨s1.heap.objs.size+1,[s1.heap.objs.size+1,s1.heap.objs.size],_,_,H1,rfl,b5,Yf _ _ l (Nat.succ_ne_self _),⟨⟨_,he⟩,hit⟩,fun b hb=>?_,q⟩;have hb:b=s1.heap.objs.size+1∨b=s1.heap.objs.size:=by simpa using hb
 rcases hb with z|z
 ·subst z;exact aQ.mD (Nat.le_succ _) (aQ.bF.fresh (Nat.le_succ _))
 ·subst z;exact aQ.mD (Nat.le_refl _) (aQ.bF.fresh (Nat.le_refl _))
end
abbrev xl(h:Heap)(x:Str)(t:Tok):Heap:=h.push { cls:=.type (strIterType x),data:=.fields #[.str x t,.int 0 0] }
abbrev xm(h:Heap)(x:Str)(t:Tok)(l:Addr):Heap:=(xl h x t).push { cls:=.type "tuple_iterator",data:=.fields #[.ref l,.int 0 0] }
abbrev xn(h:Heap)(x:Str)(t:Tok)(l:Addr):Heap:=(xm h x t l).push { cls:=.type "tuple",data:=.seq #[.ref h.objs.size,.ref (xl h x t).objs.size] }
abbrev xo(h:Heap)(x:Str)(t:Tok)(l:Addr):Heap:=(xn h x t l).push { cls:=.type "tuple",data:=.seq #[.none,.none] }
abbrev qo(h:Heap)(x:Str)(t:Tok)(l:Addr):Heap:=(xo h x t l).push { cls:=.type "zip",data:=.fields #[.none,.bool false,.bool false,.ref (xm h x t l).objs.size,.ref (xn h x t l).objs.size] }
set_option maxHeartbeats 4000000 in
theorem SN(x:Str)(t:Tok)(cf:Addr)(ys:Array Value) :
  Meets (Builtin.«zip.__new__» ⟨[.type "zip",.str x t,.ref cf],[]⟩) (fun _ R s=>s.heap.IsTuple cf ys∧R (.ok (.ret (.ref (xo s.heap x t cf).objs.size))) { s with heap:=qo s.heap x t cf }):=
 .of_wp fun prog w A R s h=>by
   obtain⟨hp,g,d,cX,os⟩:=s;obtain⟨sQ,h⟩:=h;have lT:=sub_zip;have Oy:Heap.IsTuple (Shared.heap ⟨hp.push { cls:=.type (strIterType x),data:=.fields #[.str x t,.int 0 0] },g,d,cX,os⟩) cf ys:=Heap.IsTuple.push sQ _
   wp_walk using wpAny_pyIter_strU,wpAny_pyIter_tuple Oy
   exact⟨_,rfl,h⟩
theorem L8 {prog:Program} {w:World} {A:Around} {E:Value→Shared→Prop} {s:Shared} {x:Str} {t:Tok} {cf:Addr} {ys:Array Value} {Q:Value→Shared→Prop} (sQ:s.heap.IsTuple cf ys)(h:∀h',IsZip h' (s.heap.objs.size+4) (s.heap.objs.size+2) (s.heap.objs.size+3) .none→IsPair h' (s.heap.objs.size+2) (.ref s.heap.objs.size) (.ref (s.heap.objs.size+1))→
    IsPair h' (s.heap.objs.size+3) .none .none→h'.IsStrIter s.heap.objs.size (strIterType x) x t 0→h'.IsTupleIter (s.heap.objs.size+1) cf 0→h'.objs.size=s.heap.objs.size+5→
    (∀c o,s.heap.get? c=some o→h'.get? c=some o)→Q (.ref (s.heap.objs.size+4)) { s with heap:=h' }) :
  wpAny (model prog w) A (call (.type "zip") [.str x t,.ref cf]) Q E s:=by
 refine callType_new F.called_zip (by decide) (F.typeCall_zip_2 _ _) (F.newCall_zip_2 _ _) (fun obj=>F.args_object_init_3 obj _ _) F.entry_zip_new (SN x t cf ys) ⟨sQ,?_⟩;have bg:(xl s.heap x t).objs.size=s.heap.objs.size+1:=Heap.size_push ..;have aZ:(xm s.heap x t cf).objs.size=s.heap.objs.size+2:=by rw[Heap.size_push,bg]
 have ju:(xn s.heap x t cf).objs.size=s.heap.objs.size+3:=by rw[Heap.size_push,aZ]
 have nq:(xo s.heap x t cf).objs.size=s.heap.objs.size+4:=by rw[Heap.size_push,ju]
 have C3:(qo s.heap x t cf).objs.size=s.heap.objs.size+5:=by rw[Heap.size_push,nq]
 have lP:(qo s.heap x t cf).get? (xo s.heap x t cf).objs.size=some _:=Heap.get?_push_size _ rfl;have jH:(qo s.heap x t cf).get? (xn s.heap x t cf).objs.size=some _:=Heap.get?_push_of_some _ (Heap.get?_push_size _ rfl);have g3:(qo s.heap x t cf).get? (xm s.heap x t cf).objs.size=some _:=Heap.get?_push_of_some _ (Heap.get?_push_of_some _ (Heap.get?_push_size _ rfl));have g2:(qo s.heap x t cf).get? (xl s.heap x t).objs.size=some _:=Heap.get?_push_of_some _ (Heap.get?_push_of_some _ (Heap.get?_push_of_some _ (Heap.get?_push_size _ rfl)));have g1:(qo s.heap x t cf).get? s.heap.objs.size=some _:=Heap.get?_push_of_some _ (Heap.get?_push_of_some _ (Heap.get?_push_of_some _ (Heap.get?_push_of_some _ (Heap.get?_push_size _ rfl))));show _∧_;rw[aZ,ju,nq]at lP;rw[bg,aZ]at g3;rw[ju]at jH;rw[bg]at g2;rw[nq];exact⟨⟨_,lP,rfl⟩,h _ lP g3 jH ⟨_,g1,rfl,rfl⟩ ⟨_,g2,rfl,rfl⟩ C3 fun c o x=>
  Heap.get?_push_of_some _ (Heap.get?_push_of_some _ (Heap.get?_push_of_some _ (Heap.get?_push_of_some _ (Heap.get?_push_of_some _ x))))⟩
noncomputable def xJ(K:PySem.W.Frag)(x:Str)(l:Addr):It:=⟨fun i H=>i<x.cps.size∧∃ys y,cS K H l ys∧ys[i]?=some y,
 fun i H v H'=>∃p c y,x.cps[i]?=some c∧H p=none∧H'=upd H p (.tup [.str ⟨#[c]⟩,y])∧v=.ref p∧∀ys,cS K H l ys→ys[i]?=some y,
 fun i H=>∃ys,cS K H l ys∧i=min x.cps.size ys.length⟩
structure xR(z TI bI bk bz:Addr):Prop where
 TIz:TI≠z
 TOz:bI≠z
 TITO:TI≠bI
 TIi1:TI≠bk
 TIi2:TI≠bz
 TOi1:bI≠bk
 TOi2:bI≠bz
 i1z:bk≠z
 i2z:bz≠z
 i12:bk≠bz
theorem Yk{P:Program}{w:World}{K:PySem.W.Frag}{elts:List Expr}{cv:Nat}{pos:Pos}(x:Str)(t:Tok)(l z TI bI bk bz:Addr)(ap:xR z TI bI bk bz) :
  Turn P w K (.Tuple elts cv pos) (xJ K x l) [z,TI,bI,bk,bz] z (fun i h=>IsZip h z TI bI .none∧IsPair h TI (.ref bk) (.ref bz)∧(∃a b,IsPair h bI a b)∧h.IsStrIter bk (strIterType x) x t i∧h.IsTupleIter bz l i) where
 mem:=by simp
 obj:=fun i h st b hb=>by
  obtain⟨bj,ff,⟨a,eV,fA⟩,⟨cA,aq,bN,d1⟩,b3,az,cZ,ct⟩:=st;have hb:b=z∨b=TI∨b=bI∨b=bk∨b=bz:=by simpa using hb
  rcases hb with q|q|q|q|q<;>subst q
  ·exact⟨_,bj,fun v z=>by have fb:Data.fields _=Data.cell v:=z;cases fb⟩
  ·exact⟨_,ff,fun v z=>by have fb:Data.seq _ _=Data.cell v:=z;cases fb⟩
  ·exact⟨_,fA,fun v z=>by have fb:Data.seq _ _=Data.cell v:=z;cases fb⟩
  ·exact⟨cA,aq,fun v z=>by rw[d1]at z;cases z⟩
  ·exact⟨b3,az,fun v z=>by rw[ct]at z;cases z⟩
 keep:=fun i h h' st k=>by obtain⟨bj,ff,⟨a,eV,fA⟩,⟨cA,aq,au⟩,b3,az,bh⟩:=st;exact⟨k z (by simp) _ bj,k TI (by simp) _ ff,⟨a,eV,k bI (by simp) _ fA⟩,⟨cA,k bk (by simp) _ aq,au⟩,b3,k bz (by simp) _ az,bh⟩
 item:=by
  intro X de hw hK hc i pins s σ H E I hf st hg;subst de hw hK;obtain⟨hi,ys,y,aJ,bX⟩:=hg;obtain⟨its,bV,ht,PD⟩:=I.tuple aJ;obtain⟨bj,ff,⟨a,eV,fA⟩,mJ,hs2⟩:=st;have nl:∀b∈[z,TI,bI,bk,bz],l≠b:=fun b hb q=>by
   subst q;rcases aJ with(h|⟨o,h⟩)|⟨o,s7,n,h,_⟩
   ·rw[(hf l hb).1]at h;cases h
   ·rw[(hf l hb).1]at h;cases h
   ·have h1:=I.ok.mod.n3 l o h;rcases(hf l hb).2.2.2.1 with q|q
    ·exact I.ok.pR l o h1 q
    ·exact absurd (Nat.lt_of_lt_of_le (Heap.lt_size (I.ok.bs l o h1).1) q) (Nat.lt_irrefl _)
  have hh:X.A.in1.handled=none:=I.ok.hd hc;have f_:=qQ (prog:=X.prog) (w:=X.w) (A:=X.A.in1) hh bk x t;have fP:=Ep (prog:=X.prog) (w:=X.w) (A:=X.A.in1) hh bz l (nl bz (by simp)) its.toArray;have hlen:=bV.length;have zt:i<ys.length:=(List.getElem?_eq_some_iff.mp bX).1
  have lK:nH z TI bI bk bz [bk] [bz,l]:=⟨ap.TIz,ap.TOz,ap.TITO,ap.TIi1,ap.TIi2,ap.TOi1,ap.TOi2,ap.i1z,ap.i2z,ap.i12,by simpa using ap.i1z.symm,by simpa using ap.TOi1,by simpa using ap.i12.symm,
   by simp only[List.mem_cons,List.not_mem_nil,or_false,not_or];exact⟨ap.i2z.symm,(nl z (by simp)).symm⟩,by simp only[List.mem_cons,List.not_mem_nil,or_false,not_or];exact⟨ap.TOi2,(nl bI (by simp)).symm⟩,by simp only[List.mem_cons,List.not_mem_nil,or_false,not_or];exact⟨ap.i12,(nl bk (by simp)).symm⟩⟩
  refine IG f_ fP lK bj ff fA mJ ⟨hs2,ht⟩ hi (by rw[List.size_toArray,←hlen];exact zt) fun kA gE h' cX eG cB a1 a2 eE hA ib i9 hk=>?_;obtain⟨c,t1,zm,rfl⟩:=eG;obtain⟨iu,zH,ed⟩:=bV.get bX;have kS:iu=gE:=by rw[List.getElem?_toArray]at cB;rw[zH]at cB;exact Option.some.inj cB
  subst kS;refine⟨_,rfl,?_⟩;refine wpAny_letOwnedTupleGo_zip a1 fun h2 zJ jK=>?_;have B6:∀b∈[z,TI,bI,bk,bz],b<s.heap.objs.size:=fun b hb=>by
   have hb:b=z∨b=TI∨b=bI∨b=bk∨b=bz:=by simpa using hb
   obtain⟨cA,aq,_⟩:=mJ;obtain⟨b3,az,_⟩:=hs2;rcases hb with q|q|q|q|q<;>subst q
   ·exact Heap.lt_size bj
   ·exact Heap.lt_size ff
   ·exact Heap.lt_size fA
   ·exact Heap.lt_size aq
   ·exact Heap.lt_size az
  have tF:∀b∈[z,TI,bI,bk,bz],b≠s.heap.objs.size:=fun b hb=>Nat.ne_of_lt (B6 b hb);have keep:∀b o,b∉[z,bI,bk,bz]→s.heap.get? b=some o→h2.get? b=some o:=fun b o hb q=>by have hb:¬(b=z∨b=bI∨b=bk∨b=bz):=fun w=>hb (by simpa using w);exact jK.extBut b o (fun w=>hb (.inl w)) (hk b o (fun w=>hb (.inl w)) (fun w=>hb (.inr (.inl w))) (fun w=>hb (.inr (.inr (.inl w)))) (fun w=>hb (.inr (.inr (.inr w)))) q)
  have sU:PyProof.Rows.IsTup h2 s.heap.objs.size ([.str ⟨#[c]⟩ t1,iu]:List Value).toArray:=⟨_,jK.extBut _ _ (tF z (by simp)).symm ib,rfl,_,rfl⟩;have aC:H s.heap.objs.size=none:=I.bF.fresh (Nat.le_refl _);have b5:Inv X pins σ (upd H s.heap.objs.size (.tup [.str ⟨#[c]⟩,y])) { s with heap:=h2,toks:=cX }:=I.Cq (its:=[.str ⟨#[c]⟩ t1,iu]) (ch:=[z,bI,bk,bz]) keep (fun b hb=>hf b (by
   have hb:b=z∨b=bI∨b=bk∨b=bz:=by simpa using hb
   rcases hb with q|q|q|q<;>simp[q])) (Nat.le_refl _) sU (.cons ⟨t1,rfl⟩ (.cons ed .nil)) (by show 2≤sizeLine;decide)
  refine⟨.ref s.heap.objs.size,_,b5,rfl,⟨s.heap.objs.size,c,y,zm,aC,rfl,rfl,fun zs PF=>by rw[I.Cp PF aJ];exact bX⟩,?_,fun b hb=>?_⟩
  ·refine⟨zJ,jK.extBut _ _ ap.TIz (hk _ _ ap.TIz ap.TITO ap.TIi1 ap.TIi2 ff),⟨_,_,jK.extBut _ _ ap.TOz a2⟩,?_,?_⟩
   ·obtain⟨cA,aq,au⟩:=eE;exact⟨cA,jK.extBut _ _ ap.i1z aq,au⟩
   ·obtain⟨⟨b3,az,bh⟩,_⟩:=hA;exact⟨b3,jK.extBut _ _ ap.i2z az,bh⟩
  ·rw[dJ (tF b hb)];exact(hf b hb).1
 done:=by
  intro X de hw hK hc i pins s σ H E I hf st hg;subst de hw hK;obtain⟨ys,aJ,hi⟩:=hg;obtain⟨its,bV,ht,PD⟩:=I.tuple aJ;obtain⟨bj,ff,⟨a,eV,fA⟩,mJ,hs2⟩:=st;have nl:∀b∈[z,TI,bI,bk,bz],l≠b:=fun b hb q=>by
   subst q;rcases aJ with(h|⟨o,h⟩)|⟨o,s7,n,h,_⟩
   ·rw[(hf l hb).1]at h;cases h
   ·rw[(hf l hb).1]at h;cases h
   ·have h1:=I.ok.mod.n3 l o h;rcases(hf l hb).2.2.2.1 with q|q
    ·exact I.ok.pR l o h1 q
    ·exact absurd (Nat.lt_of_lt_of_le (Heap.lt_size (I.ok.bs l o h1).1) q) (Nat.lt_irrefl _)
  have hh:X.A.in1.handled=none:=I.ok.hd hc;have f_:=qQ (prog:=X.prog) (w:=X.w) (A:=X.A.in1) hh bk x t;have fP:=Ep (prog:=X.prog) (w:=X.w) (A:=X.A.in1) hh bz l (nl bz (by simp)) its.toArray;have hlen:=bV.length
  have lK:nH z TI bI bk bz [bk] [bz,l]:=⟨ap.TIz,ap.TOz,ap.TITO,ap.TIi1,ap.TIi2,ap.TOi1,ap.TOi2,ap.i1z,ap.i2z,ap.i12,by simpa using ap.i1z.symm,by simpa using ap.TOi1,by simpa using ap.i12.symm,
   by simp only[List.mem_cons,List.not_mem_nil,or_false,not_or];exact⟨ap.i2z.symm,(nl z (by simp)).symm⟩,by simp only[List.mem_cons,List.not_mem_nil,or_false,not_or];exact⟨ap.TOi2,(nl bI (by simp)).symm⟩,by simp only[List.mem_cons,List.not_mem_nil,or_false,not_or];exact⟨ap.i12,(nl bk (by simp)).symm⟩⟩
  refine IF f_ fP lK bj ff fA mJ ⟨hs2,ht⟩ ?_ fun h' cX cv=>⟨rfl,I.t9 (ch:=[z,bI,bk,bz]) (fun b o hb q=>?_) fun b hb=>hf b ?_⟩
  ·have es:its.toArray.size=its.length:=by simp
   rw[es,←hlen];omega
  ·have hb:¬(b=z∨b=bI∨b=bk∨b=bz):=fun w=>hb (by simpa using w);exact cv b o (fun w=>hb (.inl w)) (fun w=>hb (.inr (.inl w))) (fun w=>hb (.inr (.inr (.inl w)))) (fun w=>hb (.inr (.inr (.inr w)))) q
  ·have hb:b=z∨b=bI∨b=bk∨b=bz:=by simpa using hb
   rcases hb with q|q|q|q<;>simp[q]
 self:=fun A i s Q E st h=>wpAny_pyIter_zip st.1 h
section
variable{X:aM}{elts:List Expr}{cv:Nat}{p8:Pos}
theorem KL(n:Nat):xR (n+4) (n+2) (n+3) n (n+1):=
 ⟨(show n+2≠n+4 from Nat.ne_of_lt (show(n+2:Nat)<n+4 by omega)),
  (show n+3≠n+4 from Nat.ne_of_lt (show(n+3:Nat)<n+4 by omega)),
  (show n+2≠n+3 from Nat.ne_of_lt (show(n+2:Nat)<n+3 by omega)),
  (show n+2≠n from Nat.ne_of_gt (show(n:Nat)<n+2 by omega)),
  (show n+2≠n+1 from Nat.ne_of_gt (show(n+1:Nat)<n+2 by omega)),
  (show n+3≠n from Nat.ne_of_gt (show(n:Nat)<n+3 by omega)),
  (show n+3≠n+1 from Nat.ne_of_gt (show(n+1:Nat)<n+3 by omega)),
  (show n≠n+4 from Nat.ne_of_lt (show(n:Nat)<n+4 by omega)),
  (show n+1≠n+4 from Nat.ne_of_lt (show(n+1:Nat)<n+4 by omega)),
  (show n≠n+1 from Nat.ne_of_lt (show(n:Nat)<n+1 by omega))⟩
noncomputable def GH(K:PySem.W.Frag)(b1:er):TI:=fun σ H R=>b1 σ H fun vs H1=>∃x l,vs=[.str x,.ref l]∧(∃ys,cS K H1 l ys)∧R (xJ K x l) H1
theorem UU{a b:Expr}{b1:er}{p pos:Pos}(hg:cU X "zip")(hm:X.mg "zip"=none)(ha:eT X [a,b] b1)(hs:starEach [a,b] X.env=[(false,eval a X.env),(false,eval b X.env)]:=by rfl)(hs2:starEach [b] X.env=[(false,eval b X.env)]:=by rfl) :
  fR X (.Tuple elts cv p8) (.Call (.Name "zip" p) [a,b] [] pos) (GH X.K b1):=by
 have hb:bootBuiltins "zip"=some (.type "zip"):=by kernel_rfl
 intro pins s σ H R I h;refine PyProof.Rows.Call_ (mL I hg hm hb (PyProof.Rows.callWith_type1 (bL (ha pos pins s σ H _ I h) fun us s1⟨vs,H1,aQ,au,aS⟩=>?_) (by rw[hs,hs2]) (by rw[hs2];rfl)));obtain⟨x,l,e,⟨ys,aJ⟩,q⟩:=aS;subst e;obtain⟨u,gE,rfl,⟨t,rfl⟩,ed⟩:=vals2 au;cases ed;obtain⟨its,bV,ht,bj⟩:=aQ.tuple aJ;refine L8 (show s1.heap.IsTuple l its.toArray from ht) fun h' a1 a2 eE hA ib i9 hk=>?_;have b5:Inv X pins σ H1 { s1 with heap:=h' }:=aQ.kept (t':=s1.toks) hk;refine wpAny_pyIter_zip a1 ?_;refine⟨s1.heap.objs.size+4,[s1.heap.objs.size+4,s1.heap.objs.size+2,s1.heap.objs.size+3,s1.heap.objs.size,s1.heap.objs.size+1],_,_,H1,rfl,b5,Yk x t l _ _ _ _ _ (KL s1.heap.objs.size),⟨a1,a2,⟨_,_,eE⟩,hA,ib⟩,fun b hb=>?_,q⟩;have hb:s1.heap.objs.size≤b:=by
  have hb:b=s1.heap.objs.size+4∨b=s1.heap.objs.size+2∨b=s1.heap.objs.size+3∨b=s1.heap.objs.size∨b=s1.heap.objs.size+1:=by simpa using hb
  rcases hb with q|q|q|q|q
  ·rw[q];exact Nat.le_add_right _ _
  ·rw[q];exact Nat.le_add_right _ _
  ·rw[q];exact Nat.le_add_right _ _
  ·rw[q];exact Nat.le_refl _
  ·rw[q];exact Nat.le_add_right _ _
 exact aQ.mD hb (aQ.bF.fresh hb)
end
end aX
namespace aB
open PySem PySem.Spec aX
section
variable{X:aM}{F:bt}{e a b c bC iter elt:Expr}{es:List Expr}{pos p:Pos}{m n:aD}{ma:aP}
def dP(c:Nat):D:=.str ⟨#[c]⟩
def BY:D→R (List D)
 |.str x=>.ok (x.cps.toList.map dP)
 |_=>.bad
theorem QR{K:PySem.W.Frag}{G:ai}(x:Str):kJ K (xH x) (x.cps.toList.map dP) G where
 go:=fun i H s hi=>by
  have h:i<x.cps.size:=by simpa using hi
  exact h
 i2:=fun i H v H' s hi y=>by obtain⟨e,c,hc,rfl⟩:=y;refine⟨dP c,?_,.inl ⟨e,by unfold dP;simp only[At]⟩⟩;rw[List.getElem?_map,Array.getElem?_toList,hc];rfl
 stop:=fun H s=>by
  have h:(x.cps.toList.map dP).length=x.cps.size:=by simp
  exact h
def rh(m:aD):aP:=fun ρ=>(m ρ).bind BY
theorem Qq:nz (kz F (rh m)) (GD (cW F m)):=by
 rintro σ H Q ⟨G,ρ,r,h⟩;unfold rh at h;refine⟨G,ρ,r,?_⟩;cases av:m ρ with
 |bad=>rw[av]at h;exact h.elim
 |exc c=>rw[av]at h;exact h
 |ok d=>
  rw[av,R.bE]at h;intro v H1 aT au s1 a;cases d with
  |str x=>simp only[At]at a;exact⟨x,a,h _ H1 aT au s1 (QR x)⟩
  |_=>exact h.elim
def nP(ds:List D):List D:=ds.zipIdx.map fun p=>.tup [.int (p.2:Int),p.1]
theorem NH{ds:List D}{i:Nat}{d:D}(e:ds[i]?=some d):(nP ds)[i]?=some (.tup [.int (i:Int),d]):=by unfold nP;rw[List.getElem?_map,List.getElem?_zipIdx,e];simp
def pe:List D→R (List D)
 |[.lst ds]=>.ok (nP ds)
 |[.cy ds]=>.ok (nP ds)
 |_=>.bad
theorem G0{K:PySem.W.Frag}{G:ai}{l:Addr}{ds:List D}{xs:List V}(h:bP K G l xs)(q:aL K G ds xs):kJ K (xF K l) (nP ds) G where
 go:=fun i H s hi=>by
  have hi:i<ds.length:=by simpa[nP]using hi
  obtain⟨v,e,_⟩:=q.get (List.getElem?_eq_getElem hi);exact⟨xs,v,bP.mono s h,e⟩
 i2:=fun i H v H' s hi y=>by obtain⟨p,x,hp,rfl,rfl,y⟩:=y;have ex:=y xs (bP.mono s h);obtain⟨d,e,a⟩:=q.vh ex;exact⟨_,NH e,.inr ⟨p,_,_,hp,rfl,rfl,rfl,.cons (by simp only[At]) (.cons a .nil)⟩⟩
 stop:=fun H s=>⟨xs,bP.mono s h,by simp[nP,q.length]⟩
def oa(m:aP):aP:=fun ρ=>(m ρ).bind pe
theorem PY(hK:F.K=X.K):nz (kz F (oa ma)) (GA X.K (ei F ma)):=by
 rintro σ H Q ⟨G,ρ,r,h⟩;unfold oa at h;refine⟨G,ρ,r,?_⟩;cases av:ma ρ with
 |bad=>rw[av]at h;exact h.elim
 |exc c=>rw[av]at h;exact h
 |ok ds=>
  rw[av,R.bE]at h;intro vs H1 aT au s1 al;unfold pe at h
  split at h
  ·rename_i ds;obtain⟨v,rfl,a⟩:=al.one;simp only[At]at a;obtain⟨q,xs,rfl,aJ,fu⟩:=a;have gB:bP X.K aT q xs:=bP.of aJ;rw[←hK]at gB;refine⟨q,rfl,⟨xs,by rw[←hK];exact bP.mono au.aK.sub gB⟩,?_⟩;rw[←hK];exact h _ H1 aT au s1 (G0 gB fu)
  ·rename_i ds;obtain⟨v,rfl,a⟩:=al.one;simp only[At]at a;obtain⟨q,xs,rfl,aJ,fu⟩:=a;refine⟨q,rfl,⟨xs,by rw[←hK];exact bP.mono au.aK.sub aJ⟩,?_⟩;rw[←hK];exact h _ H1 aT au s1 (G0 aJ fu)
  ·exact h.elim
def ql(xs:List Nat)(ys:List D):List D:=(xs.zip ys).map fun p=>.tup [dP p.1,p.2]
def C4:List D→R (List D)
 |[.str x,.dy ys]=>.ok (ql x.cps.toList ys)
 |_=>.bad
theorem QS{K:PySem.W.Frag}{G:ai}{x:Str}{l:Addr}{ds:List D}{xs:List V}(h:cS K G l xs)(q:aL K G ds xs):kJ K (xJ K x l) (ql x.cps.toList ds) G where
 go:=fun i H s hi=>by
  have hi:i<min x.cps.size ds.length:=by simpa[ql]using hi
  have h1:i<ds.length:=by omega
  obtain⟨v,e,_⟩:=q.get (List.getElem?_eq_getElem h1);exact⟨by omega,xs,v,cS.mono s h,e⟩
 i2:=fun i H v H' s hi y=>by
  obtain⟨p,c,Zt,hc,hp,rfl,rfl,y⟩:=y;have ex:=y xs (cS.mono s h);obtain⟨d,e,a⟩:=q.vh ex;refine⟨.tup [dP c,d],?_,.inr ⟨p,_,_,hp,rfl,rfl,rfl,.cons (by unfold dP;simp only[At]) (.cons a .nil)⟩⟩;unfold ql;rw[List.getElem?_map];have sy:(x.cps.toList.zip ds)[i]?=some (c,d):=by rw[List.getElem?_zip_eq_some];exact⟨by rw[Array.getElem?_toList];exact hc,e⟩
  rw[sy];rfl
 stop:=fun H s=>⟨xs,cS.mono s h,by simp[ql,q.length]⟩
def ri(m:aP):aP:=fun ρ=>(m ρ).bind C4
theorem Qx(hK:F.K=X.K):nz (kz F (ri ma)) (GH X.K (ei F ma)):=by
 rintro σ H Q ⟨G,ρ,r,h⟩;unfold ri at h;refine⟨G,ρ,r,?_⟩;cases av:ma ρ with
 |bad=>rw[av]at h;exact h.elim
 |exc c=>rw[av]at h;exact h
 |ok ds=>
  rw[av,R.bE]at h;intro vs H1 aT au s1 al;unfold C4 at h
  split at h
  ·rename_i x ys;obtain⟨v,w,rfl,bc,j_⟩:=al.two;simp only[At]at bc j_;subst bc;obtain⟨q,xs,rfl,aJ,fu⟩:=j_;refine⟨x,q,rfl,⟨xs,by rw[←hK];exact cS.mono au.aK.sub aJ⟩,?_⟩;rw[←hK];exact h _ H1 aT au s1 (QS aJ fu)
  ·exact h.elim
theorem YL(h:a_ X F e m)(hK:F.K=X.K:=by rfl):j8 X F bC e (ea m):=fR.imp (UP h) (by rw[←hK];exact P7)
theorem YP(h:a_ X F e m)(hK:F.K=X.K:=by rfl):j8 X F bC e (pD m):=fR.imp (US h) (by rw[←hK];exact Qu)
theorem YO(h:a_ X F e m):j8 X F bC e (rh m):=fR.imp (UR h) Qq
theorem YN(hm:X.mg "range"=none)(ha:gm X F [a] ma)(hg:cU X "range":=by rfl)(hs:starEach [a] X.env=[(false,eval a X.env)]:=by rfl):j8 X F bC (.Call (.Name "range" p) [a] [] pos) (fm ma):=fR.imp (UQ hg hm ha hs) Qi
theorem YK{elts:List Expr}{k:Nat}{m9:Pos}(hm:X.mg "enumerate"=none)(ha:gm X F [a] ma)(hK:F.K=X.K:=by rfl)(hg:cU X "enumerate":=by rfl)(hs:starEach [a] X.env=[(false,eval a X.env)]:=by rfl):j8 X F (.Tuple elts k m9) (.Call (.Name "enumerate" p) [a] [] pos) (oa ma):=fR.imp (UO hg hm ha hs) (PY hK)
theorem YQ{elts:List Expr}{k:Nat}{m9:Pos}(hm:X.mg "zip"=none)(ha:gm X F [a,b] ma)(hK:F.K=X.K:=by rfl)(hg:cU X "zip":=by rfl)(hs:starEach [a,b] X.env=[(false,eval a X.env),(false,eval b X.env)]:=by rfl)(hs2:starEach [b] X.env=[(false,eval b X.env)]:=by rfl) :
  j8 X F (.Tuple elts k m9) (.Call (.Name "zip" p) [a,b] [] pos) (ri ma):=fR.imp (UU hg hm ha hs hs2) (Qx hK)
structure GM(X:aM)(bC:Expr)(set:D→ao→R ao):Prop where
 ex:∃g,i5 X bC g∧∀F:bt,F.K=X.K→mm F g set
 gy:∀d ρ c,set d ρ≠.exc c
 keeps:Keeps set
theorem e1(i:Nat){x:Str}(hN:X.N.Nodup)(hi:X.N[i]?=some x:=by rfl)(hx:Loc X.env.scope x:=by first|exact Or.inl rfl|exact Or.inr rfl)(hf:X.fn x=true∨X.env.scope.names.lookup x=some .local:=by first|exact .inl rfl|exact .inr rfl):GM X (.Name x pos) (a8 i):=
 ⟨⟨jI i,wk hN hi hx hf,fun _ _=>vf i⟩,wM i,wL i⟩
structure r2(X:aM)(Yb:List Expr)(aI:List (D→ao→R ao)):Prop where
 ex:∃g,qB X Yb g∧∀F:bt,F.K=X.K→qv F g (gA aI)
 gy:∀f∈aI,∀d ρ c,f d ρ≠.exc c
 keeps:∀f∈aI,Keeps f
theorem tG:r2 X [] []:=⟨⟨vd,Ij,fun _ _=>FY⟩,(fun _ h=>nomatch h),(fun _ h=>nomatch h)⟩
theorem jU{f:D→ao→R ao}{aI:List (D→ao→R ao)}(h:GM X e f)(t:r2 X es aI)(hs:(assignEach (e::es) X.env).map (·.2)=assign e X.env::(assignEach es X.env).map (·.2):=by rfl):r2 X (e::es) (f::aI):=by obtain⟨⟨g,h1,h2⟩,h3,h4⟩:=h;obtain⟨⟨jf,t1,b2⟩,t3,ly⟩:=t;exact⟨⟨sG g jf,AB h1 t1 hs,fun F iJ=>ze (h2 F iJ) (b2 F iJ)⟩,fun k hk=>by rcases List.mem_cons.mp hk with rfl|hk;exact h3;exact t3 k hk,fun k hk=>by rcases List.mem_cons.mp hk with rfl|hk;exact h4;exact ly k hk⟩
theorem v7{k:Nat}{aI:List (D→ao→R ao)}(hc:X.calm=true)(h:r2 X es aI)(aC:(assignEach es X.env).length=aI.length:=by rfl)(hst:(assignEach es X.env).findIdx? (·.1)=none:=by rfl):GM X (.Tuple es k pos) (eI aI):=by obtain⟨⟨jf,t1,b2⟩,t3,ly⟩:=h;exact⟨⟨ve X.K aI.length jf,Ii hc t1 aC hst,fun F iJ=>by rw[←iJ];exact FZ rfl (b2 F iJ)⟩,BW t3,BV ly⟩
theorem Wd{body:List Stmt}{mi:aP}{set:D→ao→R ao}{fC:a0}(hp:PassesOwn (model X.prog X.w) X.A X.env X.xe)(hi:j8 X F bC iter mi)(hg:GM X bC set)(hb:nv X F body fC)(hc:X.calm=true:=by rfl)(hK:F.K=X.K:=by rfl)(hs:∀x,foldedSetIterable iter X.env x=pure x:=by intro _;rfl) :
  fU X F (.For bC iter body [] pos) (d3 mi set fC):=by
 obtain⟨⟨g,h1,h2⟩,h3,_⟩:=hg;exact dr.imp (Vb hp hc hi h1 hb hs) (PZ (h2 F hK) h3)
abbrev rV(X:aM)(scope:Scope)(N:List Str)(e:Expr)(m:aD):Prop:=∀cl C s H a6 bY bB,a_ (fe X scope N cl C s H a6) (eW X.K bY bB) e m
abbrev lD(X:aM)(scope:Scope)(N:List Str)(ifs:List Expr)(m:b4):Prop:=∀cl C s H a6 bY bB,nB (fe X scope N cl C s H a6) ifs (fL (eW X.K bY bB) m)
abbrev rW(X:aM)(scope:Scope)(N:List Str)(bC:Expr)(set:D→ao→R ao):Prop:=∃g,(∀cl C s H a6,i5 (fe X scope N cl C s H a6) bC g)∧(∀bY bB,mm (eW X.K bY bB) g set)
theorem DX{scope:Scope}{N:List Str}{g:hH}{set:D→ao→R ao}(h:∀cl C s H a6,i5 (fe X scope N cl C s H a6) bC g)(k:∀F:bt,F.K=X.K→mm F g set):rW X scope N bC set:=⟨g,h,fun bY bB=>k (eW X.K bY bB) rfl⟩
def dW:b4:=fun _=>.ok true
theorem fH{scope:Scope}{N:List Str}:lD X scope N [] dW:=fun cl C s H a6 bY bB pins s' σ H' Q I h=>by obtain⟨G,ρ,r,k⟩:=h;exact Vi pins s' σ H' Q I (k H' G r (cb.refl _ _))
theorem LF{scope:Scope}{N:List Str}{mt:b4}(h:∀cl C s H a6 bY bB,ft (fe X scope N cl C s H a6) (eW X.K bY bB) c mt):lD X scope N [c] mt:=fun cl C s H a6 bY bB=>Vj (h cl C s H a6 bY bB)
theorem Ea{scope:Scope}{N:List Str}{ifs:List Expr}{nl:Nat}{caps:List Nat}{mi:aP}{set:D→ao→R ao}{mt:b4}{e0:aD}(hK:F.K=X.K)(hi:j8 X F bC iter mi)(hg:rW X scope N bC set)(ht:lD X scope N ifs mt)(he:rV X scope N elt e0)(hx:∀d ρ c,set d ρ≠.exc c)(hk:Keeps set){Q:TE→Prop}(k:∀g,(∀cl C s H a6,i5 (fe X scope N cl C s H a6) bC g)→(∀cl C s H a6,nB (fe X scope N cl C s H a6) ifs (CI X.K mt))→(∀cl C s H a6,a3 (fe X scope N cl C s H a6) elt (CH X.K e0))→eK (j0 F (dh nl caps mi set mt e0)) (w0 (kz F mi) g (CI X.K mt) (CH X.K e0) nl caps)→Q (j0 F (dh nl caps mi set mt e0))):Q (j0 F (dh nl caps mi set mt e0)):=by
 obtain⟨g,g1,g2⟩:=hg;refine k g g1 (fun cl C s H a6 pins s' σ H' oS I h=>?_) (fun cl C s H a6 pins s' σ H' oS I h=>?_) ?_
 ·obtain⟨bY,bB,h⟩:=h;exact ht cl C s H a6 bY bB pins s' σ H' oS I h
 ·obtain⟨bY,bB,h⟩:=h;exact he cl C s H a6 bY bB pins s' σ H' oS I h
 ·have z:=PR (F:=F) (nl:=nl) (caps:=caps) (mi:=mi) (tst:=mt) (elt:=e0) (g:=g) (set:=set) (fun bY bB=>by rw[hK];exact g2 bY bB) hx hk;rw[hK]at z;exact z
theorem Tw{scope:Scope}{N:List Str}{ifs:List Expr}{nl:Nat}{caps:List Nat}{mi:aP}{set:D→ao→R ao}{mt:b4}{e0:aD}(S:me X.env.scope X.N scope N nl caps)(hi:j8 X F bC iter mi)(hg:rW X scope N bC set)(hx:∀d ρ c,set d ρ≠.exc c)(hk:Keeps set)(ht:lD X scope N ifs mt)(he:rV X scope N elt e0)(hc:X.calm=true:=by rfl)(hK:F.K=X.K:=by rfl)(hs:∀x,foldedSetIterable iter X.env x=pure x:=by intro _;rfl):mj X F (.ListComp elt [⟨bC,iter,ifs,0⟩] scope pos) (dh nl caps mi set mt e0):=
 Ea (nl:=nl) (caps:=caps) (Q:=fun t=>a3 X (.ListComp elt [⟨bC,iter,ifs,0⟩] scope pos) t) hK hi hg ht he hx hk fun g g1 t1 aq imp=>a3.imp (Us S hc hi g1 t1 aq hs) imp
theorem V7(i:Nat){y:Str}{py:Pos}{scope:Scope}{N:List Str}{ifs:List Expr}{nl:Nat}{caps:List Nat}{mi:aP}{set:D→ao→R ao}{mt:b4}{e0:aD}{bM:Pos}(hN:X.N.Nodup)(S:me X.env.scope X.N scope N nl caps)(hi:j8 X F bC iter mi)(hg:rW X scope N bC set)(hx:∀d ρ c,set d ρ≠.exc c)(hk:Keeps set)(ht:lD X scope N ifs mt)(he:rV X scope N elt e0)(bX:X.N[i]?=some y:=by rfl)(hl:X.env.kindOf y=some .local:=by rfl)(pv:swapsWith (.ListComp elt [⟨bC,iter,ifs,0⟩] scope bM) (some (.Name y py)) pos.line X.env=pure true:=by rfl)(hc:X.calm=true:=by rfl)(hK:F.K=X.K:=by rfl)(hs:∀x,foldedSetIterable iter X.env x=pure x:=by intro _;rfl) :
  fU X F (.Assign [.Name y py] (.ListComp elt [⟨bC,iter,ifs,0⟩] scope bM) pos) (ez i (dh nl caps mi set mt e0)):=by
 refine dr.imp (t:=ow (j0 F (dh nl caps mi set mt e0)) (jI i)) ?_ GP;refine Ea (nl:=nl) (caps:=caps) (Q:=fun t=>dr X (.Assign [.Name y py] (.ListComp elt [⟨bC,iter,ifs,0⟩] scope bM) pos) (ow t (jI i))) hK hi hg ht he hx hk fun g g1 t1 aq imp=>?_;exact dr.imp (U9 S hc hN bX hl hi g1 t1 aq pv hs) fun cJ σ H h=>imp σ H _ h
end
section
variable{X:aM}{F:bt}{e a b c:Expr}{es:List Expr}{pos p:Pos}{m n:aD}{ma:aP}
def mB:List D→Option (List Bool)
 |[]=>some []
 |.ax b::r=>(mB r).map (b::·)
 |_::_=>none
theorem D0{K:PySem.W.Frag}{G:ai}:∀{ds:List D}{xs:List V}{bs:List Bool},aL K G ds xs→mB ds=some bs→xs=bs.map V.ax
 |[],_,_,q,e=>by simp only[aL]at q;subst q;cases e;rfl
 |d::ds,_,bs,q,e=>by
  simp only[aL]at q;obtain⟨v,r,rfl,a,mA⟩:=q;cases d with
  |ax b=>
   simp only[At]at a;subst a;simp only[mB]at e;cases aq:mB ds with
   |none=>rw[aq]at e;cases e
   |some cs=>rw[aq]at e;have bb:b::cs=bs:=Option.some.inj e;subst bb;rw[D0 mA aq];rfl
  |_=>cases e
theorem J5:∀{bs:List Bool}{us:List Value},Vals (bs.map V.ax) us→us=bs.map Value.bool
 |[],_,r=>by cases r;rfl
 |b::bs,_,r=>by
  cases r with
  |cons au bh=>cases au;rw[J5 bh];rfl
theorem LV(hc:X.calm=true)(jJ:X.A.handled=none):gR X (.builtin "all") (fun xs H Q=>∃(p:Addr)(bs:List Bool),xs=[.ref p]∧bP X.K H p (bs.map V.ax)∧Q (.ax (bs.all id)) H):=by
 intro pins s σ H xs us Q I r h;obtain⟨p,bs,rfl,aJ,q⟩:=h;obtain⟨u,rfl,ed⟩:=vals1 r;cases ed;obtain⟨its,bV,pl,bj⟩:=I.list aJ;have iH:=J5 bV;refine call_all_walk (wpAny_pyIter_list pl.isList ?_);have iM:p≠s.heap.objs.size:=by obtain⟨o,ho,_⟩:=pl.isList;exact Nat.ne_of_lt (Heap.lt_size ho)
 refine⟨s.heap.objs.size,_,_,_,_,_,fun i=>(bs[i]?).getD true,rfl,Walks.list (prog:=X.prog) (w:=X.w) (A:=X.A.in1) jJ s.heap.objs.size p iM its.toArray,⟨⟨_,Heap.get?_push_size _ rfl,rfl,rfl⟩,pl.isList.push _⟩,?_,fun h' cX cv=>?_⟩
 ·intro i v s' oS ZE de zh;rw[iH]at de;have de:(bs.map Value.bool)[i]?=some v:=by simpa using de
  rw[List.getElem?_map]at de;cases bb:bs[i]? with
  |none=>rw[bb]at de;cases de
  |some b=>rw[bb]at de;have ev:Value.bool b=v:=Option.some.inj de;subst ev;dsimp only at zh;rw[bb]at zh;exact wpAny_truthy_bool zh
 ·have sM:(List.range its.toArray.size).all (fun i=>(bs[i]?).getD true)=bs.all id:=by
    have hl:its.toArray.size=bs.length:=by rw[iH];simp
    rw[hl,Bool.eq_iff_iff,List.all_eq_true,List.all_eq_true];constructor
    ·intro hh x hx;obtain⟨i,hi,rfl⟩:=List.mem_iff_getElem.mp hx;have:=hh i (List.mem_range.mpr hi);rw[List.getElem?_eq_getElem hi]at this;exact this
    ·intro hh i hi;have hi:=List.mem_range.mp hi;rw[List.getElem?_eq_getElem hi];exact hh _ (List.getElem_mem hi)
  rw[sM];exact⟨.ax _,H,I.kept (t':=cX) fun b o az=>cv b o (by
   intro z;have z:b=s.heap.objs.size:=by simpa using z
   exact absurd (Heap.lt_size az) (by rw[z];exact Nat.lt_irrefl _)) (Heap.get?_push_of_some _ az),rfl,q⟩
def c3:List D→R D
 |[.lst ds]=>match mB ds with|some bs=>.ok (.ax (bs.all id))|none=>.bad
 |_=>.bad
theorem TM:md F (fun xs H Q=>∃(p:Addr)(bs:List Bool),xs=[.ref p]∧bP X.K H p (bs.map V.ax)∧Q (.ax (bs.all id)) H) c3:=by
 intro σ ρ G H xs ds Q r al k;unfold c3 at k
 split at k
 ·rename_i ds
  split at k
  ·rename_i bs bb;obtain⟨v,rfl,bc⟩:=al.one;simp only[At]at bc;obtain⟨q,xs,rfl,aJ,fu⟩:=bc;have:=D0 fu bb;subst this;exact⟨q,bs,rfl,bP.of (r.aK.sub _ _ aJ),k _ H G r (cb.refl _ _) (by simp only[At])⟩
  ·exact k.elim
 ·exact k.elim
theorem MQ{k:Nat}(hr:dt k X.A)(hm:X.mg "all"=none)(ha:gm X F [e] ma)(hc:X.calm=true:=by rfl)(hg:cU X "all":=by rfl)(he:starEach [e] X.env=(false,eval e X.env)::starEach [] X.env:=by rfl)(hpl:(backTo pos (starEach [] X.env)).any (·.1)=false:=by rfl) :
  a_ X F (.Call (.Name "all" p) [e] [] pos) (bZ c3 ma):=yR (LV hc hr.hd) TM hm (by kernel_rfl) ha hg (by decide) (by decide) he hpl
end
section
variable{X:aM}{F:bt}{e a b c:Expr}{es:List Expr}{pos p:Pos}{m n:aD}{ma:aP}
def ownAt(i:Nat)(ρ:ao):R (List D):=match ρ[i]? with
 |some (.a4 (.lst ds))=>.ok ds
 |_=>.bad
noncomputable def g7(i:Nat)(m:aD):a0:=fun ρ=>(ownAt i ρ).bind fun ds=>(m ρ).bind fun d=>if ds.length<1000000 then .ok (.bq (ρ.set i (.cE (ds++[d]))))else .bad
theorem V4 (i:Nat) {x:Str} {aN:Pos} {apos:Pos} {bM:Pos} (he:a_ X F e m) (hN:X.N[i]?=some x:=by rfl) (hv:gU X.env.scope x:=by first|exact Or.inl rfl|exact Or.inr (Or.inl rfl)|exact Or.inr (Or.inr rfl)) (hd:(x==("__debug__" :Str))=false:=by decide) (hcd:(x==("__classdict__" :Str))=false:=by decide)(hbase:attributeBase (.Name x aN) "append" X.env (eval (.Name x aN) X.env)=eval (.Name x aN) X.env:=by rfl) (hline:(apos.endLine==bM.line)=true:=by rfl)(hfew:((backTo bM (starEach [e] X.env)).all (fun x=>!x.1)&&(backToKw bM (keywordEach [] X.env)).all (fun x=>x.1.isSome)
    &&decide (([e]:List Expr).length+([]:List Keyword).length+(if([]:List Keyword).isEmpty then 0 else 1)<30))=true:=by rfl)
  (hs:starEach [e] X.env=(false,eval e X.env)::starEach [] X.env:=by rfl) (hplain:(backTo bM (starEach [] X.env)).any (·.1)=false:=by rfl)
  (hK:F.K=X.K:=by rfl) :
  fU X F (.Expr (.Call (.Attribute (.Name x aN) "append" apos) [e] [] bM) pos) (g7 i m):=by
 refine dr.imp (wo (pU PySem.F.plainAttrs_list PySem.F.slot_list_append PySem.F.type_list_append Ah (mX hN hv hd hcd) (lg he mW hs) hbase hfew hline hs hplain) (l4 _ _ _ _ rfl)) ?_;rintro cJ σ H ⟨G,ρ,r,h⟩;unfold g7 ownAt at h;cases c_:ρ[i]? with
 |none=>rw[c_]at h;exact h.elim
 |some s=>
  rw[c_]at h;cases s with
  |un=>exact h.elim
  |ak _=>exact h.elim
  |eA _=>exact h.elim
  |a4 a4=>
   cases a4 with
   |bK _ _=>exact h.elim
   |ins _ _ _=>exact h.elim
   |lst ds=>
    obtain⟨q,xs,aq,h1,h2,h3,h4⟩:=r.own c_;have h:hT F G cJ ((m ρ).bind fun d=>if ds.length<1000000 then .ok (.bq (ρ.set i (.cE (ds++[d]))))else .bad):=h;refine⟨.ref q,aq,.inl ⟨rfl,xs,bP.of h1⟩,G,ρ,r,?_⟩;cases av:m ρ with
    |bad=>rw[av]at h;exact h.elim
    |exc c=>rw[av]at h;exact h
    |ok d=>
     rw[av,R.bE]at h;intro v H1 aT au s1 bc;obtain⟨dR,nh,gY,cL,cu,vj,ig⟩:=au.own c_;rw[aq]at gY;cases gY;by_cases hl:ds.length<1000000
     ·rw[if_pos hl]at h;refine⟨q,nh,v,rfl,rfl,cL,by rw[←ig.length];exact Nat.lt_trans hl (by decide),?_⟩;exact h σ aT _ (au.mut c_ aq (ig.snoc bc)) s1.g
     ·rw[if_neg hl]at h;exact h.elim
end
abbrev lr(K:PySem.W.Frag)(n:Nat)(mf:List D→R bW):i6:=ou K n (fun _ _ _=>False) mf
structure dc(P:Program)(w:World)(K:PySem.W.Frag)(mg:Str→Option Value)(base:Heap)(x:Str)(n k:Nat)(mf:List D→R bW):Prop where
 ex:∃(f:Addr)(fd:FuncData)(ps:List Str),ps.length=n∧hq P w K mg base gP k f fd ps (lr K n mf)∧mg x=some (.ref f)∧PySem.W.keepIn K (.ref f)=true∧Binds K fd ps []
section
variable{X:aM}{F:bt}{e:Expr}{es:List Expr}{pos p:Pos}{ma:aP}{x:Str}{n k:Nat}{mf:List D→R bW}
theorem MV(c:dc X.prog X.w X.K X.mg X.base x n k mf)(hr:dt k X.A)(ha:gm X F (e::es) ma)(hE:F.gS=fun _ _=>False:=by rfl)(hK:F.K=X.K:=by rfl)(hg:cU X x:=by rfl)(hdb:(x==("__debug__" :Str))=false:=by decide)(he:starEach (e::es) X.env=(false,eval e X.env)::starEach es X.env:=by rfl)(hpl:(backTo pos (starEach es X.env)).any (·.1)=false:=by rfl):a_ X F (.Call (.Name x p) (e::es) [] pos) (bR n mf ma):=by obtain⟨f,fd,ps,aC,gL,hm,hk,hb⟩:=c.ex;refine a3.imp (wj gL hr hg hm hk hb .nil tM ha hdb he hpl) ?_;rw[←hK];exact GJ (xe:=fun _ _ _=>False) (E:=xA) hE
theorem Tv(c:dc X.prog X.w X.K X.mg X.base x n k mf)(hr:dt k X.A)(ha:gm X F (e::es) ma)(hE:F.gS=fun _ _=>False:=by rfl)(hK:F.K=X.K:=by rfl)(hg:cU X x:=by rfl)(hdb:(x==("__debug__" :Str))=false:=by decide)(he:starEach (e::es) X.env=(false,eval e X.env)::starEach es X.env:=by rfl)(hpl:(backTo pos (starEach es X.env)).any (·.1)=false:=by rfl):mj X F (.Call (.Name x p) (e::es) [] pos) (gv n mf ma):=by obtain⟨f,fd,ps,aC,gL,hm,hk,hb⟩:=c.ex;refine a3.imp (wj gL hr hg hm hk hb .nil tM ha hdb he hpl) ?_;rw[←hK];exact PQ (xe:=fun _ _ _=>False) (E:=xA) hE
end
structure c6(K:PySem.W.Frag)(mg:Str→Option Value)(x:Str)(st:Stmt)(ps:List Str):Prop where
 ex:∃(f:Addr)(fd:FuncData),kH K x x st f fd∧mg x=some (.ref f)∧Binds K fd ps []
theorem Mo{P:Program}{w:World}{K:PySem.W.Frag}{mg:Str→Option Value}{base:Heap}{x:Str}{st:Stmt}{N ps:List Str}{k:Nat}{m:a0}(d:c6 K mg x st ps)(S:cG N ps (bO st))(h:∀(f:Addr)(b_:Value)(A:Around)(outer:List Env)(s:Shared)(H:ai)(E:c7),dt k (A.deeper (PyProof.Rows.envOfC x (bO st) s.heap.objs.size f b_))→∀bY bB,nv (eO gP P w K mg base N x (bO st) f b_ A outer s H E).hF (eW K bY bB) (fX st) m) :
  dc P w K mg base x ps.length (k+1) (cQ N.length m):=by
 obtain⟨f,fd,fn,hm,hb⟩:=d.ex;refine⟨f,fd,ps,rfl,fn.ok S wN fun b_ A outer s H vs Q E hr hs=>?_,hm,fn.aK,hb⟩;obtain⟨G,ht⟩:=uW hs;exact⟨_,h f b_ A outer s H E hr G H,ht⟩
theorem N9{K:PySem.W.Frag}{h:Heap}{mg:Str→Option Value}{x:Str}{st:Stmt}{ps:List Str}{f:Addr}{e_:Value}{dO an:Option Addr}{lb:Array (Option Value)}{cM doc pm b_ cK:Value}(X:K.In h)(G:h.Ns mainGlobals mg)(a:PySem.W.nsIn K mainGlobals x=some (some (.ref f)))(l:K.lookup f=some ⟨e_,dO,.func (PySem.W.fnOf x x (jE st) (fX st) (bO st) .none cM doc pm an b_ cK),lb⟩)(c:PySem.W.codeIn K b_ x=true)(k:PySem.W.keepIn K (.ref f)=true)(b:∀(cM doc pm:Value)(an:Option Addr)(b_ cK:Value)(us:List Value),us.length=ps.length→bindArgs (PySem.W.fnOf x x (jE st) (fX st) (bO st) .none cM doc pm an b_ cK) ⟨us,[]⟩=pure (ps.zip us)):c6 K mg x st ps:=
 ⟨f,_,pj (st:=st) l c k,PySem.W.mg_of X G a,(pj (st:=st) l c k).binds b⟩
theorem R8{K:PySem.W.Frag}{mf:List D→R bW}{H:ai}{a:Addr}{ns:List Int}(ih:bP K H a (ns.map V.int))(h:mf [.cy (ns.map .int)]=.ok (.v (.ax true)))(E:c7):lr K 1 mf [.ref a] H (fun v _=>v=.ax true) E:=by
 refine⟨H,[.cy (ns.map .int)],Sub.refl _,.cons ?_ .nil,rfl,?_⟩
 ·simp only[At];refine⟨a,_,rfl,ih,?_⟩;induction ns with
  |nil=>exact .nil
  |cons n r bQ=>exact .cons (by simp only[At]) (GQ r)
 ·rw[h];intro v G' H' _ bc;simp only[At]at bc;exact bc
where
 GQ {K:PySem.W.Frag} {H:ai}:∀r:List Int,aL K H (r.map .int) (r.map V.int)
  |[]=>.nil
  |n::r=>.cons (by simp only[At]) (GQ r)
section
variable{X:aM}{F:bt}{e a b c bC iter elt:Expr}{es:List Expr}{pos p:Pos}{m n:aD}{ma:aP}{scope:Scope}{N:List Str}
structure qt(X:aM)(scope:Scope)(N:List Str)(bC:Expr)(set:D→ao→R ao):Prop where
 g:rW X scope N bC set
 bq:∀d ρ c,set d ρ≠.exc c
 aK:Keeps set
theorem gs(i:Nat){x:Str}(hN:N.Nodup:=by decide+kernel)(hi:N[i]?=some x:=by rfl)(hl:(relabel scope X.env).names.lookup x=some .local:=by rfl):qt X scope N (.Name x pos) (a8 i):=
 ⟨DX (g:=jI i) (fun cl C s H a6=>wk (X:=fe X scope N cl C s H a6) hN hi (.inl hl) (.inr hl)) fun F _=>vf i,wM i,wL i⟩
theorem nK(i j:Nat){x y:Str}{aN py:Pos}{k:Nat}(hc:X.calm=true:=by rfl)(hN:N.Nodup:=by decide+kernel)(hi:N[i]?=some x:=by rfl)(cg:N[j]?=some y:=by rfl)(hl:(relabel scope X.env).names.lookup x=some .local:=by rfl)(hm:(relabel scope X.env).names.lookup y=some .local:=by rfl) :
  qt X scope N (.Tuple [.Name x aN,.Name y py] k pos) (eI [a8 i,a8 j]):=by
 refine⟨DX (g:=ve X.K 2 (sG (jI i) (sG (jI j) vd))) (fun cl C s H a6=>?_) (fun F iJ=>?_),BW ?_,BV ?_⟩
 ·exact Ii (X:=fe X scope N cl C s H a6) hc (AB (wk (X:=fe X scope N cl C s H a6) hN hi (.inl hl) (.inr hl)) (AB (wk (X:=fe X scope N cl C s H a6) hN cg (.inl hm) (.inr hm)) Ij rfl) rfl) rfl rfl
 ·rw[←iJ];exact FZ rfl (ze (vf i) (ze (vf j) FY))
 ·intro f hf;rcases List.mem_cons.mp hf with rfl|hf
  ·exact wM i
  ·rw[List.mem_singleton.mp hf];exact wM j
 ·intro f hf;rcases List.mem_cons.mp hf with rfl|hf
  ·exact wL i
  ·rw[List.mem_singleton.mp hf];exact wL j
theorem Tx(nl:Nat)(caps:List Nat){ifs:List Expr}{mi:aP}{set:D→ao→R ao}{mt:b4}{e0:aD}(S:qO X.env.scope X.N scope N nl caps=true)(hi:j8 X F bC iter mi)(hg:qt X scope N bC set)(ht:lD X scope N ifs mt)(he:rV X scope N elt e0)(hc:X.calm=true:=by rfl)(hK:F.K=X.K:=by rfl)(hs:∀x,foldedSetIterable iter X.env x=pure x:=by intro _;rfl):mj X F (.ListComp elt [⟨bC,iter,ifs,0⟩] scope pos) (dh nl caps mi set mt e0):=
 Tw (.of S) hi hg.g hg.bq hg.aK ht he hc hK hs
theorem V8(i:Nat)(nl:Nat)(caps:List Nat){y:Str}{py:Pos}{ifs:List Expr}{mi:aP}{set:D→ao→R ao}{mt:b4}{e0:aD}{bM:Pos}(hN:X.N.Nodup)(S:qO X.env.scope X.N scope N nl caps=true)(hi:j8 X F bC iter mi)(hg:qt X scope N bC set)(ht:lD X scope N ifs mt)(he:rV X scope N elt e0)(bX:X.N[i]?=some y:=by rfl)(hl:X.env.kindOf y=some .local:=by rfl)(pv:swapsWith (.ListComp elt [⟨bC,iter,ifs,0⟩] scope bM) (some (.Name y py)) pos.line X.env=pure true:=by rfl)(hc:X.calm=true:=by rfl)(hK:F.K=X.K:=by rfl)(hs:∀x,foldedSetIterable iter X.env x=pure x:=by intro _;rfl) :
  fU X F (.Assign [.Name y py] (.ListComp elt [⟨bC,iter,ifs,0⟩] scope bM) pos) (ez i (dh nl caps mi set mt e0)):=
 V7 i hN (.of S) hi hg.g hg.bq hg.aK ht he bX hl pv hc hK hs
noncomputable def ji(i:Nat)(a:aP):a0:=fun ρ=>((ez i a) ρ).bind fun f=>match f with
 |.bq bo=>.ok (.bq (kT i bo))
 |f=>.ok f
theorem Wo{st:Stmt}{i:Nat}{a:aP}(h:fU X F st (ez i a)):fU X F st (ji i a):=dr.imp h fun cJ σ H⟨G,ρ,r,k⟩=>by
 refine⟨G,ρ,r,?_⟩;unfold ji at k;cases e:ez i a ρ with
 |bad=>rw[e]at k;exact k.elim
 |exc c=>rw[e]at k;exact k
 |ok f=>
  rw[e,R.bE]at k;cases f with
  |bq bo=>intro σ' G' H' bf s';obtain⟨dj,bh,s2⟩:=bf.kT i;exact k σ' dj H' bh (s'.trans s2)
  |dH d=>exact k
  |jl d=>exact k
  |d4 d=>exact k
  |fG d=>exact k
  |cK d=>exact k
def Sw:aD:=fun _=>.ok (.dm [] [])
end
theorem Co{K:PySem.W.Frag}{c:Addr}{dd:Option Addr}{its:Array Value}{n:Nat}{cF:Array (Option Value)}{xs:List V}{ds:List D}(l:K.lookup c=some ⟨.type "tuple",dd,.seq its n,cF⟩)(bj:its.size≤sizeLine)(v:Vals xs its.toList)(a:∀G,aL K G ds xs) :
  ∀G,At K G (.dy ds) (.ref c):=fun G=>by
 simp only[At];exact⟨c,xs,rfl,.inr ⟨_,its,n,l,rfl,rfl,bj,v⟩,a G⟩
theorem mZ(i:Int)(t:Tok):RelV (.int i) (.int i t):=⟨t,rfl⟩
theorem wz(x:Str)(t:Tok):RelV (.str x) (.str x t):=⟨t,rfl⟩
theorem mz{K:PySem.W.Frag}{G:ai}(i:Int):At K G (.int i) (.int i):=by simp only[At]
theorem uI{K:PySem.W.Frag}{G:ai}(i:Str):At K G (.str i) (.str i):=by simp only[At]
structure a7(X:aM)(F:bt)(e:Expr)(m:aD):Prop where
 o:a3 X e (cW F m)
structure nF(X:aM)(F:bt)(e:Expr)(m:aP):Prop where
 o:a3 X e (j0 F m)
structure e8(X:aM)(F:bt)(e:Expr)(m:b4):Prop where
 o:eU X e (fL F m)
structure oX(X:aM)(F:bt)(e:Expr)(m:b4):Prop where
 o:h_ X e (fL F m)
structure e7(X:aM)(F:bt)(es:List Expr)(m:aP):Prop where
 o:eT X es (ei F m)
structure fi(X:aM)(F:bt)(st:Stmt)(m:a0):Prop where
 o:dr X st (fp F m)
structure i8(X:aM)(F:bt)(st:List Stmt)(m:a0):Prop where
 o:fS X st (fp F m)
structure lJ(X:aM)(F:bt)(bC e:Expr)(m:aP):Prop where
 o:fR X bC e (kz F m)
structure uH(X:aM)(F:bt)(e:Option Expr)(m:lG):Prop where
 o:qC X e (w3 F m)
section
variable{X:aM}{F:bt}{e a b c bC iter elt:Expr}{es:List Expr}{pos p:Pos}{m n:aD}{ma:aP}{st:Stmt}{m7:List Stmt}
theorem af(i:Nat){x:Str}(hN:X.N[i]?=some x:=by rfl)(hv:gU X.env.scope x:=by first|exact Or.inl rfl|exact Or.inr (Or.inl rfl)|exact Or.inr (Or.inr rfl))(hd:(x==("__debug__" :Str))=false:=by decide)(hcd:(x==("__classdict__" :Str))=false:=by decide):a7 X F (.Name x pos) (J i):=⟨aB.Nw (i:=i) (hN:=hN) (hv:=hv) (hd:=hd) (hcd:=hcd)⟩
theorem aF{i:Int}{j}:a7 X F (.Constant (.int i) j pos) (aj (.int i)):=⟨aB.M6 ⟩
theorem jt{i:Bool}{j}:a7 X F (.Constant (.bool i) j pos) (aj (.ax i)):=⟨aB.MS ⟩
theorem e3{i:Str}{j}:a7 X F (.Constant (.str i) j pos) (aj (.str i)):=⟨aB.Np ⟩
theorem fN{j}:a7 X F (.Constant .none j pos) (aj .non):=⟨aB.Ng ⟩
theorem aA:e7 X F [] ar:=⟨aB.Ld ⟩
theorem ah{m:aD}{r:aP}(h:a7 X F e m)(t:e7 X F es r)(hs:notStar e=true:=by rfl):e7 X F (e::es) (ae m r):=⟨aB.Lc (h:=h.1) (t:=t.1) (hs:=hs)⟩
theorem dZ{k}{m:aP}(h:e7 X F es m):a7 X F (.Tuple es k pos) (cD m):=⟨aB.Nu (h:=h.1)⟩
theorem eJ{m:aP}(h:e7 X F es m):nF X F (.List es pos) (dz m):=⟨aB.TB (h:=h.1)⟩
theorem cY{m:aP}(h:nF X F e m):a7 X F e (cj m):=⟨aB.M0 (h:=h.1)⟩
theorem rR{m:aD}(h:a7 X F e m):a7 X F e (ip m):=⟨aB.MT (h:=h.1)⟩
theorem xk{m:b4}(h:e8 X F e m):e8 X F e (iP m):=⟨aB.XT (h:=h.1)⟩
theorem fO{m:aD}(h:a7 X F e m)(he:∀whole,isTrue e X.env whole=(do let v ←whole;standAt e.pos;holding [v] (truthy v)):=by intro _;rfl):e8 X F e (aW m):=⟨aB.X7 (h:=h.1) (he:=he)⟩
theorem C0{m:b4}(h:e8 X F a m):oX X F (.BoolOp .And [a] pos) m:=⟨aB.YJ (h:=h.1)⟩
theorem kG{m:b4}(h:e8 X F a m):oX X F (.BoolOp .Or [a] pos) m:=⟨aB.YM (h:=h.1)⟩
theorem CZ{m n:b4}(h:e8 X F a m)(k:oX X F (.BoolOp .And (b::es) pos) n):oX X F (.BoolOp .And (a::b::es) pos) (jQ m n):=⟨aB.w_and (h:=h.1) (k:=k.1)⟩
theorem j2{m n:b4}(h:e8 X F a m)(k:oX X F (.BoolOp .Or (b::es) pos) n):oX X F (.BoolOp .Or (a::b::es) pos) (eZ m n):=⟨aB.w_or (h:=h.1) (k:=k.1)⟩
theorem i0{m:b4}(h:oX X F e m):e8 X F e m:=⟨aB.X8 (h:=h.1)⟩
theorem gk{m:b4}(h:e8 X F a m):e8 X F (.UnaryOp .Not a pos) (eb m):=⟨aB.X4 (h:=h.1)⟩
theorem l6{op}{m:aD}(h:a7 X F a m):a7 X F (.BoolOp op [a] pos) m:=⟨aB.Nj (h:=h.1)⟩
theorem oD{m n:aD}(h:a7 X F a m)(k:a7 X F (.BoolOp .And (b::es) pos) n):a7 X F (.BoolOp .And (a::b::es) pos) (jR m n):=⟨aB.MR (h:=h.1) (k:=k.1)⟩
theorem Kp{m n:aD}(h:a7 X F a m)(k:a7 X F (.BoolOp .Or (b::es) pos) n):a7 X F (.BoolOp .Or (a::b::es) pos) (pG m n):=⟨aB.Nk (h:=h.1) (k:=k.1)⟩
theorem Zb{m:aD}(h:a7 X F a m):a7 X F (.UnaryOp .Not a pos) (rl m):=⟨aB.Nh (h:=h.1)⟩
theorem Kl{k:b4}{m n:aD}(h:e8 X F c k)(ha:a7 X F a m)(hb:a7 X F b n):a7 X F (.IfExp c a b pos) (pE k m n):=⟨aB.M4 (h:=h.1) (ha:=ha.1) (hb:=hb.1)⟩
theorem d0:i8 X F [] cw:=⟨aB.Wf ⟩
theorem bp{m n:a0}(h:fi X F st m)(k:i8 X F m7 n):i8 X F (st::m7) (aR m n):=⟨aB.V9 (h:=h.1) (k:=k.1)⟩
theorem bx{m:a0}(h:fi X F st m):i8 X F [st] m:=⟨aB.Wg (h:=h.1)⟩
theorem CT{m:aD}(h:a7 X F e m)(hs:iS e=true:=by rfl):fi X F (.Expr e pos) (n8 m):=⟨aB.Wa (h:=h.1) (hs:=hs)⟩
theorem cN{m:aD}(h:a7 X F e m):fi X F (.Return (some e) pos) (bU m):=⟨aB.Wh (h:=h.1)⟩
theorem CV{m:aP}(h:nF X F e m):fi X F (.Return (some e) pos) (gw m):=⟨aB.Wi (h:=h.1)⟩
theorem qi(i:Nat){x:Str}{p:Pos}(hN:X.N[i]?=some x:=by rfl)(hv:gU X.env.scope x:=by first|exact Or.inl rfl|exact Or.inr (Or.inl rfl)|exact Or.inr (Or.inr rfl))(hd:(x==("__debug__" :Str))=false:=by decide)(hcd:(x==("__classdict__" :Str))=false:=by decide):fi X F (.Return (some (.Name x p)) pos) (gw (iR i)):=⟨aB.Wj (i:=i) (hN:=hN) (hv:=hv) (hd:=hd) (hcd:=hcd)⟩
theorem dS{k:b4}{m n:a0}{xs ys:List Stmt}(h:e8 X F c k)(ha:i8 X F xs m)(hb:i8 X F ys n):fi X F (.If c xs ys pos) (ck k m n):=⟨aB.We (h:=h.1) (ha:=ha.1) (hb:=hb.1)⟩
theorem di(i:Nat){x:Str}{p:Pos}{m:aD}(hN:X.N.Nodup)(he:a7 X F e m)(hi:X.N[i]?=some x:=by rfl)(hx:Loc X.env.scope x:=by first|exact Or.inl rfl|exact Or.inr rfl)(hs:iS e=true:=by rfl)(hf:X.fn x=true∨X.env.scope.names.lookup x=some .local:=by first|exact .inl rfl|exact .inr rfl):fi X F (.Assign [.Name x p] e pos) (cp i m):=⟨aB.Wl (i:=i) (hN:=hN) (he:=he.1) (hi:=hi) (hx:=hx) (hs:=hs) (hf:=hf)⟩
theorem kF(i:Nat){x:Str}{p:Pos}{m:aP}(hN:X.N.Nodup)(he:nF X F e m)(hi:X.N[i]?=some x:=by rfl)(hx:Loc X.env.scope x:=by first|exact Or.inl rfl|exact Or.inr rfl)(hs:iS e=true:=by rfl)(hf:X.fn x=true∨X.env.scope.names.lookup x=some .local:=by first|exact .inl rfl|exact .inr rfl):fi X F (.Assign [.Name x p] e pos) (ez i m):=⟨aB.Wq (i:=i) (hN:=hN) (he:=he.1) (hi:=hi) (hx:=hx) (hs:=hs) (hf:=hf)⟩
theorem qg(ha:a7 X F a m)(hb:a7 X F b n):a7 X F (.BinOp a .Sub b pos) (ag l3 m n):=⟨aB.Nr (ha:=ha.1) (hb:=hb.1)⟩
theorem rT(ha:a7 X F a m)(hb:a7 X F b n):a7 X F (.BinOp a .Mult b pos) (ag ks m n):=⟨aB.Nd (ha:=ha.1) (hb:=hb.1)⟩
theorem lA(ha:a7 X F a m)(hb:a7 X F b n):a7 X F (.BinOp a .FloorDiv b pos) (ag hM m n):=⟨aB.MY (ha:=ha.1) (hb:=hb.1)⟩
theorem eo(ha:a7 X F a m)(hb:a7 X F b n):a7 X F (.BinOp a .Mod b pos) (ag dv m n):=⟨aB.Nc (ha:=ha.1) (hb:=hb.1)⟩
theorem xh(ha:a7 X F a m)(hb:a7 X F b n):a7 X F (.BinOp a .Pow b pos) (ag jX m n):=⟨aB.Nm (ha:=ha.1) (hb:=hb.1)⟩
theorem Zo(ha:a7 X F a m)(hb:a7 X F b n):e8 X F (.Compare a [.Lt] [b] pos) (aW (ag ra m n)):=⟨aB.X2 (ha:=ha.1) (hb:=hb.1)⟩
theorem CY(ha:a7 X F a m)(hb:a7 X F b n):e8 X F (.Compare a [.Gt] [b] pos) (aW (ag mE m n)):=⟨aB.XZ (ha:=ha.1) (hb:=hb.1)⟩
theorem Y5(ha:a7 X F a m)(hb:a7 X F b n):a7 X F (.Compare a [.Gt] [b] pos) (ag mE m n):=⟨aB.M3 (ha:=ha.1) (hb:=hb.1)⟩
theorem dY(ha:a7 X F a m)(hb:a7 X F b n):a7 X F (.BinOp a .Add b pos) (ag cC m n):=⟨aB.MP (ha:=ha.1) (hb:=hb.1)⟩
theorem nk(hu:X.A.units+64<cLine)(ha:a7 X F a m)(hb:a7 X F b n)(hK:F.K=X.K:=by rfl):e8 X F (.Compare a [.Eq] [b] pos) (aW (ag (b8 true) m n)):=⟨aB.XY (hu:=hu) (ha:=ha.1) (hb:=hb.1) (hK:=hK)⟩
theorem l7(hu:X.A.units+64<cLine)(ha:a7 X F a m)(hb:a7 X F b n)(hK:F.K=X.K:=by rfl):e8 X F (.Compare a [.NotEq] [b] pos) (aW (ag (b8 false) m n)):=⟨aB.X3 (hu:=hu) (ha:=ha.1) (hb:=hb.1) (hK:=hK)⟩
theorem rS(hu:X.A.units+64<cLine)(ha:a7 X F a m)(hb:a7 X F b n)(hK:F.K=X.K:=by rfl):a7 X F (.Compare a [.Eq] [b] pos) (ag (b8 true) m n):=⟨aB.MX (hu:=hu) (ha:=ha.1) (hb:=hb.1) (hK:=hK)⟩
theorem CO(hu:X.A.units+64<cLine)(ha:a7 X F a m)(hb:a7 X F b n)(hK:F.K=X.K:=by rfl):a7 X F (.Compare a [.NotEq] [b] pos) (ag (b8 false) m n):=⟨aB.Nf (hu:=hu) (ha:=ha.1) (hb:=hb.1) (hK:=hK)⟩
theorem KG(hu:X.A.units+64<cLine)(ha:a7 X F a m)(hb:a7 X F b n)(hK:F.K=X.K:=by rfl)(hm:behindInMarks .In b=false:=by with_unfolding_all rfl):e8 X F (.Compare a [.In] [b] pos) (aW (ag (inD true) m n)):=⟨aB.X0 (hu:=hu) (ha:=ha.1) (hb:=hb.1) (hK:=hK) (hm:=hm)⟩
theorem uh(hu:X.A.units+64<cLine)(ha:a7 X F a m)(hb:a7 X F b n)(hK:F.K=X.K:=by rfl)(hm:behindInMarks .NotIn b=false:=by with_unfolding_all rfl):e8 X F (.Compare a [.NotIn] [b] pos) (aW (ag (inD false) m n)):=⟨aB.X5 (hu:=hu) (ha:=ha.1) (hb:=hb.1) (hK:=hK) (hm:=hm)⟩
theorem uf(hu:X.A.units+64<cLine)(ha:a7 X F a m)(hb:a7 X F b n)(hK:F.K=X.K:=by rfl)(hm:behindInMarks .In b=false:=by with_unfolding_all rfl):a7 X F (.Compare a [.In] [b] pos) (ag (inD true) m n):=⟨aB.M5 (hu:=hu) (ha:=ha.1) (hb:=hb.1) (hK:=hK) (hm:=hm)⟩
theorem qk(ha:a7 X F a m)(hb:a7 X F b n):e8 X F (.Compare a [.Is] [b] pos) (aW (ag (eh true) m n)):=⟨aB.X1 (ha:=ha.1) (hb:=hb.1)⟩
theorem KH(ha:a7 X F a m)(hb:a7 X F b n):e8 X F (.Compare a [.IsNot] [b] pos) (aW (ag (eh false) m n)):=⟨aB.X6 (ha:=ha.1) (hb:=hb.1)⟩
theorem Y7(ha:a7 X F a m)(hb:a7 X F b n):a7 X F (.Compare a [.Is] [b] pos) (ag (eh true) m n):=⟨aB.M7 (ha:=ha.1) (hb:=hb.1)⟩
theorem Ko(ha:a7 X F a m)(hb:a7 X F b n):a7 X F (.Compare a [.IsNot] [b] pos) (ag (eh false) m n):=⟨aB.Ni (ha:=ha.1) (hb:=hb.1)⟩
theorem Y3{op f3:CmpOp}{r bf:ep}{f g:D→D→R D}{l:aD}(ho:dF X (compareOp op) r)(ho':dF X (compareOp f3) bf)(hf:fQ F r f)(hg:fQ F bf g)(ha:a7 X F a m)(hb:a7 X F b n)(hc:a7 X F c l)(hm:lastMarks [op,f3] [b,c]=false:=by with_unfolding_all rfl):a7 X F (.Compare a [op,f3] [b,c] pos) (iQ f g m n l):=⟨aB.MW (ho:=ho) (ho':=ho') (hf:=hf) (hg:=hg) (ha:=ha.1) (hb:=hb.1) (hc:=hc.1) (hm:=hm)⟩
theorem KC{op f3:CmpOp}{r bf:ep}{f g:D→D→R D}{l:aD}(ho:dF X (compareOp op) r)(ho':dF X (compareOp f3) bf)(hf:fQ F r f)(hg:fQ F bf g)(ha:a7 X F a m)(hb:a7 X F b n)(hc:a7 X F c l)(hm:lastMarks [op,f3] [b,c]=false:=by with_unfolding_all rfl):e8 X F (.Compare a [op,f3] [b,c] pos) (aW (iQ f g m n l)):=⟨aB.XU (ho:=ho) (ho':=ho') (hf:=hf) (hg:=hg) (ha:=ha.1) (hb:=hb.1) (hc:=hc.1) (hm:=hm)⟩
theorem eS(hm:X.mg "len"=none)(ha:e7 X F [e] ma)(hK:F.K=X.K:=by rfl)(hg:cU X "len":=by rfl)(he:starEach [e] X.env=(false,eval e X.env)::starEach [] X.env:=by rfl)(hpl:(backTo pos (starEach [] X.env)).any (·.1)=false:=by rfl):a7 X F (.Call (.Name "len" p) [e] [] pos) (bZ cV ma):=⟨aB.M_ (hm:=hm) (ha:=ha.1) (hK:=hK) (hg:=hg) (he:=he) (hpl:=hpl)⟩
theorem kE{U:Str}{T:String}{cB:Pos}(tt:nE X.K T)(hm:X.mg "isinstance"=none)(hmU:X.mg U=none)(hU:bootBuiltins U=some (.type T))(ha:a7 X F a m)(hK:F.K=X.K:=by rfl)(hg:cU X "isinstance":=by rfl)(hgU:cU X U:=by rfl)(hnU:U≠"__name__":=by decide)(hdU:(U==("__debug__" :Str))=false:=by decide)(hs2:starEach [.Name U cB] X.env=(false,eval (.Name U cB) X.env)::starEach [] X.env:=by rfl)(he:starEach [a,.Name U cB] X.env=(false,eval a X.env)::starEach [.Name U cB] X.env:=by rfl)(hpl:(backTo pos (starEach [.Name U cB] X.env)).any (·.1)=false:=by rfl):a7 X F (.Call (.Name "isinstance" p) [a,.Name U cB] [] pos) (dC (gi T) m):=⟨aB.M8 (tt:=tt) (hm:=hm) (hmU:=hmU) (hU:=hU) (ha:=ha.1) (hK:=hK) (hg:=hg) (hgU:=hgU) (hnU:=hnU) (hdU:=hdU) (hs2:=hs2) (he:=he) (hpl:=hpl)⟩
theorem bA(ha:a7 X F a m)(hb:a7 X F b n)(hs:uA b)(hK:F.K=X.K:=by rfl):a7 X F (.Subscript a b pos) (ag ay m n):=⟨aB.M9 (ha:=ha.1) (hb:=hb.1) (hs:=hs) (hK:=hK)⟩
theorem rU:uH X F none mQ:=⟨aB.Ug ⟩
theorem oE(h:a7 X F e m):uH X F (some e) (ko m):=⟨aB.Uh (h:=h.1)⟩
theorem qf{lo hi:Option Expr}{cB:Pos}{tC tA:lG}(ha:a7 X F a m)(hl:uH X F lo tC)(hh:uH X F hi tA)(hK:F.K=X.K:=by rfl):a7 X F (.Subscript a (.Slice lo hi none cB) pos) (kp jZ m tC tA):=⟨aB.Nn (ha:=ha.1) (hl:=hl.1) (hh:=hh.1) (hK:=hK)⟩
theorem Kq(hm:X.mg "str"=none)(ha:e7 X F [e] ma)(hg:cU X "str":=by rfl)(he:starEach [e] X.env=(false,eval e X.env)::starEach [] X.env:=by rfl)(hpl:(backTo pos (starEach [] X.env)).any (·.1)=false:=by rfl):a7 X F (.Call (.Name "str" p) [e] [] pos) (bZ m6 ma):=⟨aB.Nq (hm:=hm) (ha:=ha.1) (hg:=hg) (he:=he) (hpl:=hpl)⟩
theorem fs(h:a7 X F e m)(hK:F.K=X.K:=by rfl):lJ X F bC e (ea m):=⟨aB.YL (h:=h.1) (hK:=hK)⟩
theorem Zq(h:a7 X F e m)(hK:F.K=X.K:=by rfl):lJ X F bC e (pD m):=⟨aB.YP (h:=h.1) (hK:=hK)⟩
theorem Zp(h:a7 X F e m):lJ X F bC e (rh m):=⟨aB.YO (h:=h.1)⟩
theorem i1(hm:X.mg "range"=none)(ha:e7 X F [a] ma)(hg:cU X "range":=by rfl)(hs:starEach [a] X.env=[(false,eval a X.env)]:=by rfl):lJ X F bC (.Call (.Name "range" p) [a] [] pos) (fm ma):=⟨aB.YN (hm:=hm) (ha:=ha.1) (hg:=hg) (hs:=hs)⟩
theorem C1{elts:List Expr}{k:Nat}{m9:Pos}(hm:X.mg "enumerate"=none)(ha:e7 X F [a] ma)(hK:F.K=X.K:=by rfl)(hg:cU X "enumerate":=by rfl)(hs:starEach [a] X.env=[(false,eval a X.env)]:=by rfl):lJ X F (.Tuple elts k m9) (.Call (.Name "enumerate" p) [a] [] pos) (oa ma):=⟨aB.YK (hm:=hm) (ha:=ha.1) (hK:=hK) (hg:=hg) (hs:=hs)⟩
theorem Zr{elts:List Expr}{k:Nat}{m9:Pos}(hm:X.mg "zip"=none)(ha:e7 X F [a,b] ma)(hK:F.K=X.K:=by rfl)(hg:cU X "zip":=by rfl)(hs:starEach [a,b] X.env=[(false,eval a X.env),(false,eval b X.env)]:=by rfl)(hs2:starEach [b] X.env=[(false,eval b X.env)]:=by rfl):lJ X F (.Tuple elts k m9) (.Call (.Name "zip" p) [a,b] [] pos) (ri ma):=⟨aB.YQ (hm:=hm) (ha:=ha.1) (hK:=hK) (hg:=hg) (hs:=hs) (hs2:=hs2)⟩
theorem hj{body:List Stmt}{mi:aP}{set:D→ao→R ao}{fC:a0}(hp:PassesOwn (model X.prog X.w) X.A X.env X.xe)(hi:lJ X F bC iter mi)(hg:GM X bC set)(hb:i8 X F body fC)(hc:X.calm=true:=by rfl)(hK:F.K=X.K:=by rfl)(hs:∀x,foldedSetIterable iter X.env x=pure x:=by intro _;rfl):fi X F (.For bC iter body [] pos) (d3 mi set fC):=⟨aB.Wd (hp:=hp) (hi:=hi.1) (hg:=hg) (hb:=hb.1) (hc:=hc) (hK:=hK) (hs:=hs)⟩
theorem nj{st:Stmt}{i:Nat}{a:aP}(h:fi X F st (ez i a)):fi X F st (ji i a):=⟨aB.Wo (h:=h.1)⟩
theorem qe{k:Nat}(hr:dt k X.A)(hm:X.mg "all"=none)(ha:e7 X F [e] ma)(hc:X.calm=true:=by rfl)(hg:cU X "all":=by rfl)(he:starEach [e] X.env=(false,eval e X.env)::starEach [] X.env:=by rfl)(hpl:(backTo pos (starEach [] X.env)).any (·.1)=false:=by rfl):a7 X F (.Call (.Name "all" p) [e] [] pos) (bZ c3 ma):=⟨aB.MQ (hr:=hr) (hm:=hm) (ha:=ha.1) (hc:=hc) (hg:=hg) (he:=he) (hpl:=hpl)⟩
theorem qh (i:Nat) {x:Str} {aN:Pos} {apos:Pos} {bM:Pos} (he:a7 X F e m) (hN:X.N[i]?=some x:=by rfl) (hv:gU X.env.scope x:=by first|exact Or.inl rfl|exact Or.inr (Or.inl rfl)|exact Or.inr (Or.inr rfl)) (hd:(x==("__debug__" :Str))=false:=by decide) (hcd:(x==("__classdict__" :Str))=false:=by decide) (hbase:attributeBase (.Name x aN) "append" X.env (eval (.Name x aN) X.env)=eval (.Name x aN) X.env:=by rfl) (hline:(apos.endLine==bM.line)=true:=by rfl) (hfew:((backTo bM (starEach [e] X.env)).all (fun x=>!x.1)&&(backToKw bM (keywordEach [] X.env)).all (fun x=>x.1.isSome)
   &&decide (([e]:List Expr).length+([]:List Keyword).length+(if([]:List Keyword).isEmpty then 0 else 1)<30))=true:=by rfl) (hs:starEach [e] X.env=(false,eval e X.env)::starEach [] X.env:=by rfl) (hplain:(backTo bM (starEach [] X.env)).any (·.1)=false:=by rfl) (hK:F.K=X.K:=by rfl):fi X F (.Expr (.Call (.Attribute (.Name x aN) "append" apos) [e] [] bM) pos) (g7 i m):=⟨aB.V4 (i:=i) (he:=he.1) (hN:=hN) (hv:=hv) (hd:=hd) (hcd:=hcd) (hbase:=hbase) (hline:=hline) (hfew:=hfew) (hs:=hs) (hplain:=hplain) (hK:=hK)⟩
theorem c5{x:Str}{n k:Nat}{mf:List D→R bW}(c:dc X.prog X.w X.K X.mg X.base x n k mf)(hr:dt k X.A)(ha:e7 X F (e::es) ma)(hE:F.gS=fun _ _=>False:=by rfl)(hK:F.K=X.K:=by rfl)(hg:cU X x:=by rfl)(hdb:(x==("__debug__" :Str))=false:=by decide)(he:starEach (e::es) X.env=(false,eval e X.env)::starEach es X.env:=by rfl)(hpl:(backTo pos (starEach es X.env)).any (·.1)=false:=by rfl):a7 X F (.Call (.Name x p) (e::es) [] pos) (bR n mf ma):=⟨aB.MV (c:=c) (hr:=hr) (ha:=ha.1) (hE:=hE) (hK:=hK) (hg:=hg) (hdb:=hdb) (he:=he) (hpl:=hpl)⟩
theorem iZ{x:Str}{n k:Nat}{mf:List D→R bW}(c:dc X.prog X.w X.K X.mg X.base x n k mf)(hr:dt k X.A)(ha:e7 X F (e::es) ma)(hE:F.gS=fun _ _=>False:=by rfl)(hK:F.K=X.K:=by rfl)(hg:cU X x:=by rfl)(hdb:(x==("__debug__" :Str))=false:=by decide)(he:starEach (e::es) X.env=(false,eval e X.env)::starEach es X.env:=by rfl)(hpl:(backTo pos (starEach es X.env)).any (·.1)=false:=by rfl):nF X F (.Call (.Name x p) (e::es) [] pos) (gv n mf ma):=⟨aB.Tv (c:=c) (hr:=hr) (ha:=ha.1) (hE:=hE) (hK:=hK) (hg:=hg) (hdb:=hdb) (he:=he) (hpl:=hpl)⟩
variable{scope:Scope}{N:List Str}
abbrev Dc(X:aM)(scope:Scope)(N:List Str)(e:Expr)(m:aD):Prop:=∀cl C s H a6 bY bB,a7 (fe X scope N cl C s H a6) (eW X.K bY bB) e m
theorem ue{mt:b4}(h:∀cl C s H a6 bY bB,e8 (fe X scope N cl C s H a6) (eW X.K bY bB) c mt):lD X scope N [c] mt:=aB.LF fun cl C s H a6 bY bB=>(h cl C s H a6 bY bB).1
theorem gO(nl:Nat)(caps:List Nat){ifs:List Expr}{mi:aP}{set:D→ao→R ao}{mt:b4}{e0:aD}(S:qO X.env.scope X.N scope N nl caps=true)(hi:lJ X F bC iter mi)(hg:qt X scope N bC set)(ht:lD X scope N ifs mt)(he:Dc X scope N elt e0)(hc:X.calm=true:=by rfl)(hK:F.K=X.K:=by rfl)(hs:∀x,foldedSetIterable iter X.env x=pure x:=by intro _;rfl):nF X F (.ListComp elt [⟨bC,iter,ifs,0⟩] scope pos) (dh nl caps mi set mt e0):=
 ⟨aB.Tx nl caps S hi.1 hg ht (fun cl C s H a6 bY bB=>(he cl C s H a6 bY bB).1) hc hK hs⟩
theorem ni(i:Nat)(nl:Nat)(caps:List Nat){y:Str}{py:Pos}{ifs:List Expr}{mi:aP}{set:D→ao→R ao}{mt:b4}{e0:aD}{bM:Pos}(hN:X.N.Nodup)(S:qO X.env.scope X.N scope N nl caps=true)(hi:lJ X F bC iter mi)(hg:qt X scope N bC set)(ht:lD X scope N ifs mt)(he:Dc X scope N elt e0)(bX:X.N[i]?=some y:=by rfl)(hl:X.env.kindOf y=some .local:=by rfl)(pv:swapsWith (.ListComp elt [⟨bC,iter,ifs,0⟩] scope bM) (some (.Name y py)) pos.line X.env=pure true:=by rfl)(hc:X.calm=true:=by rfl)(hK:F.K=X.K:=by rfl)(hs:∀x,foldedSetIterable iter X.env x=pure x:=by intro _;rfl) :
  fi X F (.Assign [.Name y py] (.ListComp elt [⟨bC,iter,ifs,0⟩] scope bM) pos) (ez i (dh nl caps mi set mt e0)):=
 ⟨aB.V8 i nl caps hN S hi.1 hg ht (fun cl C s H a6 bY bB=>(he cl C s H a6 bY bB).1) bX hl pv hc hK hs⟩
end
theorem dE{P:Program}{w:World}{K:PySem.W.Frag}{mg:Str→Option Value}{base:Heap}{x:Str}{st:Stmt}{N ps:List Str}{k:Nat}{m:a0}(d:c6 K mg x st ps)(S:cG N ps (bO st))(h:∀(f:Addr)(b_:Value)(A:Around)(outer:List Env)(s:Shared)(H:ai)(E:c7),dt k (A.deeper (PyProof.Rows.envOfC x (bO st) s.heap.objs.size f b_))→∀bY bB,i8 (eO gP P w K mg base N x (bO st) f b_ A outer s H E).hF (eW K bY bB) (fX st) m) :
  dc P w K mg base x ps.length (k+1) (cQ N.length m):=aB.Mo d S fun f b_ A outer s H E hr bY bB=>(h f b_ A outer s H E hr bY bB).1
structure mh(K:PySem.W.Frag)(mg:Str→Option Value)(x:Str)(d:D):Prop where
 ex:∃(v:V)(u:Value),mg x=some u∧RelV v u∧∀G,At K G d v
theorem kD{X:aM}{F:bt}{x:Str}{d:D}{pos:Pos}(c:mh X.K X.mg x d)(hK:F.K=X.K:=by rfl)(hg:cU X x:=by rfl)(hd:(x==("__debug__" :Str))=false:=by decide):a7 X F (.Name x pos) (aj d):=by obtain⟨v,u,h1,h2,h3⟩:=c.ex;exact⟨aB.M1 h1 h2 (by rw[hK];exact h3) hg hd⟩
end aB
namespace aX
open PySem PySem.Spec PyProof.Rows
section
variable{X:aM}{bC:Expr}
noncomputable def De(a b c:Int):Prop:=c≠0∧Builtin.Range.small a b c=true∧0≤Builtin.Range.rangeSize a b c∧Builtin.divisionGoesByPylong (b-a) c=false
instance(a b c:Int):Decidable (De a b c):=by unfold De;infer_instance
end
section
variable{X:aM}{a e:Expr}{b1:er}{pos p pos' iT:Pos}
noncomputable def rJoin(K:PySem.W.Frag):V→List V→ai→cP→Prop:=fun x vs H Q=>∃sep p ys,x=.str sep∧vs=[.ref p]∧bP K H p (ys.map V.str)∧(ys.map (·.length)).sum+ys.length*sep.length≤16777216∧Q (.str (Txt.join sep ys)) H
theorem J8:∀{xs:List V}{us:List Value},xs.length=us.length→(∀(i:Nat) x y,xs[i]?=some x→us[i]?=some y→RelV x y)→Vals xs us
 |[],[],_,_=>.nil
 |[],_::_,h,_=>by simp at h
 |_::_,[],h,_=>by simp at h
 |x::xs,u::us,h,f=>.cons (f 0 x u (by simp) (by simp)) (J8 (by simpa using h) fun i a b aq az=>f (i+1) a b (by simpa using aq) (by simpa using az))
theorem Ju:∀{ys:List Str}{its:List Value},Vals (ys.map V.str) its→StrsAre its ys
 |[],_,h=>by cases h;exact .nil
 |y::ys,_,h=>by
  cases h with
  |cons r lp=>obtain⟨t,rfl⟩:=r;exact .cons y t (Ju lp)
theorem SW:xN X "str.join" (rJoin X.K):=by intro pins s σ H x vs v us Q I bw bV h;obtain⟨sep,p,ys,rfl,rfl,aJ,bj,q⟩:=h;obtain⟨t,rfl⟩:=bw;obtain⟨u,rfl,ed⟩:=vals1 bV;cases ed;obtain⟨its,r,pl,_⟩:=I.list aJ;exact join_list pl.isList (by simpa using Ju r) bj fun t' k=>⟨.str _,H,I.tok _,⟨_,rfl⟩,q⟩
theorem Sl{pins:List (Addr×Obj)}{σ :St}{H1:ai}{s2:Shared}{Q:cP}{r:Addr}{j:Int}{t u v:Tok}(b5:Inv X pins σ H1 s2)(hc:X.calm=true)(hr:IsRange s2.heap r 0 j 1 t u v)(aS: -(2^62)≤j)(bl:j≤1000000)(q:∀l,H1 l=none→Q (.ref l) (upd H1 l (.lst ((List.range j.toNat).map fun i=>.int (i:Nat))))):wpAny (model X.prog X.w) X.A (call (.type "list") [.ref r]) (gb X pins σ Q) X.xe s2:=by
 have aC:Builtin.Range.rangeSize 0 j 1=(j.toNat:Nat):=by rw[rangeSize_one];split<;>omega
 refine call_list_range (b5.ok.hd hc) hr (small_one (by omega) (by omega) (by omega) (by omega)) aC (by omega) fun h' cX Du ej aK e it=>?_;obtain⟨acc,rfl⟩:∃l:List Value,Du=l.toArray:=⟨Du.toList,by simp⟩;have hv:Vals ((List.range j.toNat).map fun i=>V.int ((i:Nat):Int)) acc:=by
  have hl:acc.length=j.toNat:=by simpa using it.1
  refine J8 ?_ ?_
  ·simp[hl]
  ·intro i x y aq az;rw[List.getElem?_map]at aq;have hi:i<j.toNat:=by rw[←hl];exact(List.getElem?_eq_some_iff.mp az).1
   rw[List.getElem?_range hi]at aq;cases aq;obtain⟨tt,rfl⟩:=it.2 i y (by simpa using az);exact⟨tt,by simp⟩
 exact⟨.ref _,_,b5.laid (t':=cX) aK (Nat.le_refl _) (show e5 X.prog X.w _ h' _ (.lst _)from⟨Nat.le_trans (m:=1000000) (by simp;omega) (by decide),acc,ej,hv,e⟩),rfl,q _ (b5.bF.fresh (Nat.le_refl _))⟩
noncomputable def XB(b1:er):TE:=fun σ H Q=>b1 σ H fun vs H1=>∃j:Int,vs=[.int j]∧-(2^62)≤j∧j≤1000000∧∀l,H1 l=none→Q (.ref l) (upd H1 l (.lst ((List.range j.toNat).map fun i=>.int (i:Nat))))
theorem UA(hg:cU X "list")(hm:X.mg "list"=none)(hg2:cU X "range")(hm2:X.mg "range"=none)(hc:X.calm=true)(ha:eT X [a] b1)(hs:starEach [a] X.env=[(false,eval a X.env)]:=by rfl)(hs2:starEach [.Call (.Name "range" iT) [a] [] pos'] X.env=[(false,eval (.Call (.Name "range" iT) [a] [] pos') X.env)]:=by rfl) :
  a3 X (.Call (.Name "list" p) [.Call (.Name "range" iT) [a] [] pos'] [] pos) (XB b1):=by
 intro pins s σ H Q I h;refine wpAny_Call_Name_kw (mL (u:=.type "list") I hg hm (by kernel_rfl) ?_);refine PyProof.Rows.callWith_type1 ?_ hs2 rfl;rw[hs2];refine Calls.spliced_cons ?_;refine Call_ (mL I hg2 hm2 boot_range (PyProof.Rows.callWith_type1 (bL (ha pos' pins s σ H _ I h) fun us s1⟨vs,H1,aQ,au,aS⟩=>?_) hs rfl));obtain⟨j,e,aS,bl,q⟩:=aS;subst e;cases au with
 |cons r lp=>cases lp;obtain⟨t,rfl⟩:=r;refine call_range_1 (Calls.spliced_nil ?_);exact Sl (aQ.kept fun b o e=>Heap.get?_push_of_some _ e) hc (IsRange.new ..) aS bl q
end
end aX
namespace aB
open PySem PySem.Spec aX
abbrev fc:=ao→R (D×ao)
abbrev iA:=ao→R (List D×ao)
noncomputable def Q5(F:bt)(G:ai)(σ :St)(Q:cP):R (D×ao)→Prop
 |.ok (d,bo)=>∀v H' G',Rel F G' H' σ bo→Sub G G'→At F.K G' d v→Q v H'
 |.exc c=>km F c
 |.bad=>False
noncomputable def Q3(F:bt)(G:ai)(σ :St)(Q:List V→ai→Prop):R (List D×ao)→Prop
 |.ok (d,bo)=>∀v H' G',Rel F G' H' σ bo→Sub G G'→aL F.K G' d v→Q v H'
 |.exc c=>km F c
 |.bad=>False
def p7(F:bt)(m:fc):TE:=fun σ H Q=>∃G ρ,Rel F G H σ ρ∧Q5 F G σ Q (m ρ)
def rM(F:bt)(m:iA):er:=fun σ H Q=>∃G ρ,Rel F G H σ ρ∧Q3 F G σ Q (m ρ)
def lf(m:aD):fc:=fun ρ=>(m ρ).bind fun d=>.ok (d,ρ)
def q_(m:aP):iA:=fun ρ=>(m ρ).bind fun d=>.ok (d,ρ)
section
variable{F:bt}
theorem P5{m:aD}:eK (p7 F (lf m)) (cW F m):=by
 rintro σ H Q ⟨G,ρ,r,h⟩;refine⟨G,ρ,r,?_⟩;unfold lf at h;cases av:m ρ with
 |bad=>rw[av]at h;exact h.elim
 |exc c=>rw[av]at h;exact h
 |ok d=>rw[av]at h;exact fun v H' G' bf u a=>h v H' G' bf u.g a
theorem P6{m:aP}:qy (rM F (q_ m)) (ei F m):=by
 rintro σ H Q ⟨G,ρ,r,h⟩;refine⟨G,ρ,r,?_⟩;unfold q_ at h;cases av:m ρ with
 |bad=>rw[av]at h;exact h.elim
 |exc c=>rw[av]at h;exact h
 |ok d=>rw[av]at h;exact fun v H' G' bf u a=>h v H' G' bf u.g a
def pC(a:fc)(r:iA):iA:=fun ρ=>(a ρ).bind fun x=>(r x.2).bind fun y=>.ok (x.1::y.1,y.2)
theorem PT{ma:fc}{pP:iA}:qy (rM F (pC ma pP)) (B9 (p7 F ma) (rM F pP)):=by
 rintro σ H Q ⟨G,ρ,r,h⟩;unfold pC at h;refine⟨G,ρ,r,?_⟩;cases av:ma ρ with
 |bad=>rw[av]at h;exact h.elim
 |exc c=>rw[av]at h;exact h
 |ok x=>
  obtain⟨a5,d2⟩:=x;rw[av,R.bE]at h;intro x H1 aT au s1 bT;refine⟨aT,d2,au,?_⟩;cases bb:pP d2 with
  |bad=>simp only[bb]at h;exact h.elim
  |exc c=>simp only[bb]at h;exact h
  |ok y=>obtain⟨fx,eC⟩:=y;simp only[bb,R.bE]at h;intro y a9 dj bh s2 cH;exact h (x::y) a9 dj bh (s1.trans s2) (.cons (bT.mono s2) cH)
def pH(m:iA):fc:=fun ρ=>(m ρ).bind fun x=>if x.1.length≤1000000 then .ok (.tup x.1,x.2)else .bad
theorem Qt{m:iA}:eK (p7 F (pH m)) (Ce (rM F m)):=by
 rintro σ H Q ⟨G,ρ,r,h⟩;unfold pH at h;refine⟨G,ρ,r,?_⟩;cases av:m ρ with
 |bad=>rw[av]at h;exact h.elim
 |exc c=>rw[av]at h;exact h
 |ok x=>
  obtain⟨ds,d2⟩:=x;rw[av,R.bE]at h;intro vs H1 aT au s1 a;by_cases hl:ds.length≤1000000
  ·simp only[if_pos hl]at h;refine⟨by rw[←a.length];exact Nat.le_trans hl (by decide),fun p hp=>?_⟩;refine h (.ref p) _ _ (au.lay hp) (s1.trans (Sub.upd (au.aK.sub.gone hp))) ?_;simp only[At];exact⟨p,vs,rfl,eB,a.mono (Sub.upd (au.aK.sub.gone hp))⟩
  ·simp only[if_neg hl]at h;exact h.elim
def rm(i:Nat)(a:fc):a0:=fun ρ=>(a ρ).bind fun x=>(a8 i x.1 x.2).bind fun bo=>.ok (.bq bo)
theorem Qo{i:Nat}{a:fc}:hz (fp F (rm i a)) (ow (p7 F a) (jI i)):=by
 rintro cJ σ H ⟨G,ρ,r,h⟩;unfold rm a8 at h;refine⟨G,ρ,r,?_⟩;cases av:a ρ with
 |bad=>rw[av]at h;exact h.elim
 |exc c=>rw[av]at h;exact h
 |ok x=>
  obtain⟨d,d2⟩:=x;rw[av,R.bE]at h;intro v H1 aT au s1 bc;by_cases hi:i<d2.length
  ·simp only[if_pos hi]at h;exact h _ aT H1 (au.set hi bc) s1
  ·simp only[if_neg hi]at h;exact h.elim
def n9(a:fc):a0:=fun ρ=>(a ρ).bind fun x=>.ok (.bq x.2)
theorem PX{a:fc}:hz (fp F (n9 a)) (B_ (p7 F a)):=by
 rintro cJ σ H ⟨G,ρ,r,h⟩;unfold n9 at h;refine⟨G,ρ,r,?_⟩;cases av:a ρ with
 |bad=>rw[av]at h;exact h.elim
 |exc c=>rw[av]at h;exact h
 |ok x=>obtain⟨d,d2⟩:=x;rw[av]at h;exact fun v H' G' bf s' _=>h σ G' H' bf s'
end
section
variable{F:bt}
def del(H:ai)(a:Addr):ai:=fun b=>if b=a then none else H b
theorem Mx{H:ai}{a:Addr}:del H a a=none:=by simp[del]
theorem Mw{H:ai}{a b:Addr}(h:b≠a):del H a b=H b:=by simp[del,h]
theorem Ek(H:ai)(a:Addr):Sub (del H a) H:=fun b o e=>by
 unfold del at e
 split at e
 ·cases e
 ·exact e
end
section
variable{F:bt}
end
end aB
namespace aB
open PySem PySem.Spec aX PyProof.Rows
abbrev oL(X:aM)(F:bt)(e:Expr)(m:fc):Prop:=a3 X e (p7 F m)
abbrev ui(X:aM)(F:bt)(es:List Expr)(m:iA):Prop:=eT X es (rM F m)
theorem aL.erase{K:PySem.W.Frag}{G:ai}{ds:List D}{xs:List V}(n:Nat)(q:aL K G ds xs):aL K G (ds.eraseIdx n) (xs.eraseIdx n):=by rw[List.eraseIdx_eq_take_drop_succ,List.eraseIdx_eq_take_drop_succ];exact(q.take n).append (q.drop (n+1))
section
variable{X:aM}{F:bt}{e a b c:Expr}{es:List Expr}{pos p:Pos}{m n:aD}{ma:aP}
noncomputable def k8(i:Nat)(m:aD):fc:=fun ρ=>(ownAt i ρ).bind fun ds=>(m ρ).bind fun d=>match d with
 |.int k=>if-(2^63)≤k∧k<2^63 then match seqIndex? k ds.length with
  |some j=>match ds[j]? with
   |some y=>.ok (y,ρ.set i (.cE (ds.eraseIdx j)))
   |none=>.bad
  |none=>.bad
  else .bad
 |_=>.bad
theorem Nl (i:Nat) {x:Str} {aN:Pos} {apos:Pos} {bM:Pos} (he:a_ X F e m) (hN:X.N[i]?=some x:=by rfl) (hv:gU X.env.scope x:=by first|exact Or.inl rfl|exact Or.inr (Or.inl rfl)|exact Or.inr (Or.inr rfl)) (hd:(x==("__debug__" :Str))=false:=by decide) (hcd:(x==("__classdict__" :Str))=false:=by decide)(hbase:attributeBase (.Name x aN) "pop" X.env (eval (.Name x aN) X.env)=eval (.Name x aN) X.env:=by rfl) (hline:(apos.endLine==bM.line)=true:=by rfl)(hfew:((backTo bM (starEach [e] X.env)).all (fun x=>!x.1)&&(backToKw bM (keywordEach [] X.env)).all (fun x=>x.1.isSome)
    &&decide (([e]:List Expr).length+([]:List Keyword).length+(if([]:List Keyword).isEmpty then 0 else 1)<30))=true:=by rfl)
  (hs:starEach [e] X.env=(false,eval e X.env)::starEach [] X.env:=by rfl) (hplain:(backTo bM (starEach [] X.env)).any (·.1)=false:=by rfl) :
  oL X F (.Call (.Attribute (.Name x aN) "pop" apos) [e] [] bM) (k8 i m):=by
 refine a3.imp (pU PySem.F.plainAttrs_list PySem.F.slot_list_pop PySem.F.type_list_pop SX (mX hN hv hd hcd) (lg he mW hs) hbase hfew hline hs hplain) ?_;rintro σ H Q ⟨G,ρ,r,h⟩;unfold k8 ownAt at h;cases c_:ρ[i]? with
 |none=>rw[c_]at h;exact h.elim
 |some s=>
  rw[c_]at h;cases s with
  |un=>exact h.elim
  |ak _=>exact h.elim
  |eA _=>exact h.elim
  |a4 a4=>
   cases a4 with
   |bK _ _=>exact h.elim
   |ins _ _ _=>exact h.elim
   |lst ds=>
    obtain⟨q,xs,aq,h1,h2,h3,h4⟩:=r.own c_;rw[R.bE]at h;refine⟨.ref q,aq,.inl ⟨rfl,xs,bP.of h1⟩,G,ρ,r,?_⟩;cases av:m ρ with
    |bad=>rw[av]at h;exact h.elim
    |exc c=>rw[av]at h;exact h
    |ok d=>
     rw[av,R.bE]at h;intro v H1 aT au s1 bc;obtain⟨dR,nh,gY,cL,cu,vj,ig⟩:=au.own c_;rw[aq]at gY;cases gY;cases d with
     |int k=>
      simp only[At]at bc;subst bc;simp only at h
      split at h
      ·rename_i hk
       split at h
       ·rename_i j jc
        split at h
        ·rename_i y dB;obtain⟨w,jd,j_⟩:=ig.get dB;refine⟨q,nh,k,j,w,rfl,rfl,cL,hk.1,hk.2,by rw[←ig.length];exact jc,jd,?_⟩;exact h w _ aT (au.mut c_ aq (ig.erase j)) s1.g j_
        ·exact h.elim
       ·exact h.elim
      ·exact h.elim
     |_=>exact h.elim
noncomputable def mO(i:Nat)(m:fc):a0:=fun ρ=>(ownAt i ρ).bind fun _=>(m ρ).bind fun x=>(ownAt i x.2).bind fun ds=>if ds.length<1000000 then .ok (.bq (x.2.set i (.cE (ds++[x.1]))))else .bad
theorem V5 (i:Nat) {x:Str} {aN:Pos} {apos:Pos} {bM:Pos} {m:fc} (he:oL X F e m) (hN:X.N[i]?=some x:=by rfl) (hv:gU X.env.scope x:=by first|exact Or.inl rfl|exact Or.inr (Or.inl rfl)|exact Or.inr (Or.inr rfl)) (hd:(x==("__debug__" :Str))=false:=by decide) (hcd:(x==("__classdict__" :Str))=false:=by decide)(hbase:attributeBase (.Name x aN) "append" X.env (eval (.Name x aN) X.env)=eval (.Name x aN) X.env:=by rfl) (hline:(apos.endLine==bM.line)=true:=by rfl)(hfew:((backTo bM (starEach [e] X.env)).all (fun x=>!x.1)&&(backToKw bM (keywordEach [] X.env)).all (fun x=>x.1.isSome)
    &&decide (([e]:List Expr).length+([]:List Keyword).length+(if([]:List Keyword).isEmpty then 0 else 1)<30))=true:=by rfl)
  (hs:starEach [e] X.env=(false,eval e X.env)::starEach [] X.env:=by rfl) (hplain:(backTo bM (starEach [] X.env)).any (·.1)=false:=by rfl) :
  fU X F (.Expr (.Call (.Attribute (.Name x aN) "append" apos) [e] [] bM) pos) (mO i m):=by
 refine dr.imp (wo (pU PySem.F.plainAttrs_list PySem.F.slot_list_append PySem.F.type_list_append Ah (mX hN hv hd hcd) (lg he mW hs) hbase hfew hline hs hplain) (l4 _ _ _ _ rfl)) ?_;rintro cJ σ H ⟨G,ρ,r,h⟩;unfold mO ownAt at h;cases c_:ρ[i]? with
 |none=>rw[c_]at h;exact h.elim
 |some s=>
  rw[c_]at h;cases s with
  |un=>exact h.elim
  |ak _=>exact h.elim
  |eA _=>exact h.elim
  |a4 a4=>
   cases a4 with
   |bK _ _=>exact h.elim
   |ins _ _ _=>exact h.elim
   |lst ZM=>
    obtain⟨q,xs,aq,h1,h2,h3,h4⟩:=r.own c_;rw[R.bE]at h;refine⟨.ref q,aq,.inl ⟨rfl,xs,bP.of h1⟩,G,ρ,r,?_⟩;cases av:m ρ with
    |bad=>rw[av]at h;exact h.elim
    |exc c=>rw[av]at h;exact h
    |ok y=>
     obtain⟨d,d2⟩:=y;rw[av,R.bE]at h;intro v H1 aT au s1 bc;simp only at h;cases u7:d2[i]? with
     |none=>rw[u7]at h;exact h.elim
     |some s=>
      rw[u7]at h;cases s with
      |un=>exact h.elim
      |ak _=>exact h.elim
      |eA _=>exact h.elim
      |a4 a4=>
       cases a4 with
       |bK _ _=>exact h.elim
       |ins _ _ _=>exact h.elim
       |lst ds=>
        rw[R.bE]at h;obtain⟨dR,nh,gY,cL,cu,vj,ig⟩:=au.own u7;rw[aq]at gY;cases gY;by_cases hl:ds.length<1000000
        ·rw[if_pos hl]at h;refine⟨q,nh,v,rfl,rfl,cL,by rw[←ig.length];exact Nat.lt_trans hl (by decide),?_⟩;exact h σ aT _ (au.mut u7 aq (ig.snoc bc)) s1
        ·rw[if_neg hl]at h;exact h.elim
def n4:List D→R (List D)
 |[.lst xs]=>.ok xs
 |[.cy xs]=>.ok xs
 |[.tup xs]=>.ok xs
 |_=>.bad
def jT(m:aP):aP:=fun ρ=>(m ρ).bind n4
theorem P8(hK:F.K=X.K):eK (j0 F (jT ma)) (wY (fun xs H Q=>∃p ys,xs=[.ref p]∧(bP X.K H p ys∨cS X.K H p ys)∧∀l,H l=none→Q (.ref l) (upd H l (.lst ys))) (ei F ma)):=by
 rintro σ H Q ⟨G,ρ,r,h⟩;unfold jT at h;refine⟨G,ρ,r,?_⟩;cases av:ma ρ with
 |bad=>rw[av]at h;exact h.elim
 |exc c=>rw[av]at h;exact h
 |ok ds=>
  rw[av,R.bE]at h;intro vs H1 aT au s1 a;unfold n4 at h
  split at h
  ·obtain⟨v,rfl,bc⟩:=a.one;simp only[At]at bc;obtain⟨q,xs,rfl,aJ,fu⟩:=bc;refine⟨q,xs,rfl,.inl (bP.of (au.aK.sub _ _ aJ)),fun l hl=>?_⟩;exact h l xs _ aT (au.lay0 hl) (s1.trans (cb.lay0 hl)) (s1.h.gone hl) eB (au.aK.sub.gone hl) fu
  ·obtain⟨v,rfl,bc⟩:=a.one;simp only[At]at bc;obtain⟨q,xs,rfl,aJ,fu⟩:=bc;refine⟨q,xs,rfl,.inl (by rw[←hK];exact bP.mono au.aK.sub aJ),fun l hl=>?_⟩;exact h l xs _ aT (au.lay0 hl) (s1.trans (cb.lay0 hl)) (s1.h.gone hl) eB (au.aK.sub.gone hl) fu
  ·obtain⟨v,rfl,bc⟩:=a.one;simp only[At]at bc;obtain⟨q,xs,rfl,aJ,fu⟩:=bc;refine⟨q,xs,rfl,.inr (cS.of (au.aK.sub _ _ aJ)),fun l hl=>?_⟩;exact h l xs _ aT (au.lay0 hl) (s1.trans (cb.lay0 hl)) (s1.h.gone hl) eB (au.aK.sub.gone hl) fu
  ·exact h.elim
theorem Tz(hm:X.mg "list"=none)(ha:gm X F [e] ma)(hK:F.K=X.K:=by rfl)(hg:cU X "list":=by rfl)(he:starEach [e] X.env=(false,eval e X.env)::starEach [] X.env:=by rfl)(hpl:(backTo pos (starEach [] X.env)).any (·.1)=false:=by rfl) :
  mj X F (.Call (.Name "list" p) [e] [] pos) (jT ma):=a3.imp (Az L1 hg hm (by kernel_rfl) ha (by decide) (by decide) he hpl) (P8 hK)
noncomputable def td:List D→R (List D)
 |[.int j]=>if-(2^62)≤j∧j≤1000000 then .ok (fg 0 j.toNat)else .bad
 |_=>.bad
def rj(m:aP):aP:=fun ρ=>(m ρ).bind td
theorem DF{K:PySem.W.Frag}{G:ai}:∀(l:List Nat),aL K G (l.map fun i=>.int (0+((i:Nat):Int))) (l.map fun i=>V.int ((i:Nat):Int))
 |[]=>.nil
 |i::l=>.cons (by simp[At]) (DF l)
theorem TA{iT pos':Pos}(hm:X.mg "list"=none)(hm2:X.mg "range"=none)(ha:gm X F [a] ma)(hc:X.calm=true:=by rfl)(hg:cU X "list":=by rfl)(hg2:cU X "range":=by rfl)(hs:starEach [a] X.env=[(false,eval a X.env)]:=by rfl)(hs2:starEach [.Call (.Name "range" iT) [a] [] pos'] X.env=[(false,eval (.Call (.Name "range" iT) [a] [] pos') X.env)]:=by rfl) :
  mj X F (.Call (.Name "list" p) [.Call (.Name "range" iT) [a] [] pos'] [] pos) (rj ma):=by
 refine a3.imp (UA hg hm hg2 hm2 hc ha hs hs2) ?_;rintro σ H Q ⟨G,ρ,r,h⟩;unfold rj at h;refine⟨G,ρ,r,?_⟩;cases av:ma ρ with
 |bad=>rw[av]at h;exact h.elim
 |exc c=>rw[av]at h;exact h
 |ok ds=>
  rw[av,R.bE]at h;intro vs H1 aT au s1 a;unfold td at h
  split at h
  ·rename_i j
   split at h
   ·rename_i cg;refine⟨j,a.ints1,cg.1,cg.2,fun l hl=>?_⟩;exact h l _ _ aT (au.lay0 hl) (s1.trans (cb.lay0 hl)) (s1.h.gone hl) eB (au.aK.sub.gone hl) (DF _)
   ·exact h.elim
  ·exact h.elim
def SK:List D→R D
 |[.int i,.int j]=>.ok (.int (if j>i then j else i))
 |_=>.bad
noncomputable def rN:List D→R D
 |[.int i]=>.ok (.int i)
 |[.ax k]=>.ok (.int (if k then 1 else 0))
 |[.str x]=>if x.length≤640 then match intText? x with|some i=>.ok (.int i)|none=>.bad else .bad
 |_=>.bad
theorem TU:md F (fun xs H Q=>((∃i,xs=[.int i]∧Q (.int i) H)∨∃k,xs=[.ax k]∧Q (.int (if k then 1 else 0)) H)∨((∃i,xs=[.int i]∧Q (.int i) H)∨∃x i,xs=[.str x]∧x.length≤640∧intText? x=some i∧Q (.int i) H)) rN:=by
 intro σ ρ G H xs ds Q r al k;unfold rN at k
 split at k
 ·rename_i i;exact .inl (.inl ⟨i,al.ints1,k _ H G r (cb.refl _ _) (by simp only[At])⟩)
 ·rename_i c;obtain⟨v,rfl,bc⟩:=al.one;simp only[At]at bc;subst bc;exact .inl (.inr ⟨c,rfl,k _ H G r (cb.refl _ _) (by simp only[At])⟩)
 ·rename_i x
  split at k
  ·rename_i hl
   split at k
   ·rename_i i hi;obtain⟨v,rfl,bc⟩:=al.one;simp only[At]at bc;subst bc;exact .inr (.inr ⟨x,i,rfl,hl,hi,k _ H G r (cb.refl _ _) (by simp only[At])⟩)
   ·exact k.elim
  ·exact k.elim
 ·exact k.elim
theorem Nt(hm:X.mg "int"=none)(ha:gm X F [e] ma)(hg:cU X "int":=by rfl)(he:starEach [e] X.env=(false,eval e X.env)::starEach [] X.env:=by rfl)(hpl:(backTo pos (starEach [] X.env)).any (·.1)=false:=by rfl) :
  a_ X F (.Call (.Name "int" p) [e] [] pos) (bZ rN ma):=yS (LW.or LX) TU hm (by kernel_rfl) ha hg (by decide) (by decide) he hpl
def t4:List D→Option (List Str)
 |[]=>some []
 |.str x::r=>(t4 r).map (x::·)
 |_=>none
theorem Jv{K:PySem.W.Frag}{G:ai}:∀{ds:List D}{xs:List V}{ys:List Str},aL K G ds xs→t4 ds=some ys→xs=ys.map V.str
 |[],_,_,h,e=>by simp only[aL]at h;subst h;cases e;rfl
 |d::ds,_,_,h,e=>by
  simp only[aL]at h;obtain⟨v,r,rfl,q,t⟩:=h;cases d with
  |str x=>
   unfold t4 at e;cases c_:t4 ds with
   |none=>rw[c_]at e;cases e
   |some zs=>rw[c_]at e;cases e;simp only[At]at q;rw[q,Jv t c_];rfl
  |_=>cases e
noncomputable def vG(sep:Str):List D→R D
 |[.lst ds]=>match t4 ds with
  |some ys=>if(ys.map (·.length)).sum+ys.length*sep.length≤16777216 then .ok (.str (Txt.join sep ys))else .bad
  |none=>.bad
 |_=>.bad
def pI(set:D→ao→R ao)(m:aD):a0:=fun ρ=>(m ρ).bind fun d=>(set d ρ).bind fun bo=>.ok (.bq bo)
theorem Wr{bC:Expr}{set:D→ao→R ao}(he:a_ X F e m)(hg:GM X bC set)(hK:F.K=X.K:=by rfl)(hs:swapsWithSole [bC] e pos.line X.env=pure false:=by rfl)(hw:swappedStores [bC] e X.env=pure none:=by rfl)(h1:(assignEach [bC] X.env).map (·.2)=[assign bC X.env]:=by rfl):fU X F (.Assign [bC] e pos) (pI set m):=by
 obtain⟨⟨g,g1,g2⟩,g3,_⟩:=hg;refine dr.imp (U8 he g1 hs hw h1) ?_;rintro cJ σ H ⟨G,ρ,r,h⟩;unfold pI at h;refine⟨G,ρ,r,?_⟩;cases av:m ρ with
 |bad=>rw[av]at h;exact h.elim
 |exc c=>rw[av]at h;exact h
 |ok d=>
  rw[av,R.bE]at h;intro v H1 aT au s1 bc;cases es:set d ρ with
  |bad=>rw[es]at h;exact h.elim
  |exc c=>exact absurd es (g3 d ρ c)
  |ok bo=>rw[es]at h;exact g2 F hK σ ρ aT H1 v d _ bo au bc es fun σ' bf=>h σ' aT H1 bf s1.g
theorem N4(h:a_ X F e m):oL X F e (lf m):=a3.imp h P5
theorem N5:ui X F [] (q_ ar):=eT.imp mW (fun σ H Q h=>GO σ H Q (P6 σ H Q h))
theorem N2{m:fc}{r:iA}(h:oL X F e m)(t:ui X F es r)(hs:notStar e=true:=by rfl):ui X F (e::es) (pC m r):=eT.imp (lg h t (Jp e es X.env hs)) PT
theorem f_tup{k}{m:iA}(h:ui X F es m):oL X F (.Tuple es k pos) (pH m):=a3.imp (Ih h) Qt
theorem Wn(i:Nat){x:Str}{p:Pos}{m:fc}(hN:X.N.Nodup)(he:oL X F e m)(hi:X.N[i]?=some x:=by rfl)(hx:Loc X.env.scope x:=by first|exact Or.inl rfl|exact Or.inr rfl)(hs:iS e=true:=by rfl)(hf:X.fn x=true∨X.env.scope.names.lookup x=some .local:=by first|exact .inl rfl|exact .inr rfl):fU X F (.Assign [.Name x p] e pos) (rm i m):=
 dr.imp (wt hN hi hx he (l4 _ _ _ _ hs) hf) Qo
theorem Wb{m:fc}(h:oL X F e m)(hs:iS e=true:=by rfl):fU X F (.Expr e pos) (n9 m):=dr.imp (wo h (l4 _ _ _ _ hs)) PX
theorem Jj{n:Nat}{mf:List D→R bW}{xe:c7→Str→ai→Prop}{E:c7}{aT H1:ai}{σ :aX.St}{ρ:ao}{ds:List D}{vs:List V}{Q:cP}(hx:F.gS=xe E)(au:Rel F aT H1 σ ρ)(a:aL F.K aT ds vs)(aC:ds.length=n)(h:ik F aT H1 σ ρ Q ((mf ds).bind iU)):ou F.K n xe mf vs H1 Q E:=by
 refine⟨aT,ds,au.aK.sub,a,aC,?_⟩;cases e:mf ds with
 |bad=>rw[e]at h;exact h.elim
 |exc c=>rw[e]at h;intro G' H' k;have z:=h G' H' (eL.of au k).aK;rw[hx]at z;exact z
 |ok t=>
  rw[e,R.bE]at h;cases t with
  |v d=>exact fun v G' H' k bc=>h v H' G' (eL.of au k) ⟨k.fy,k.hh,k.new⟩ bc
  |o es=>intro p xs G' H' k h1 h2 h3 h4;have h2:H1 p=none:=h2;have bf:=eL.of au k;have no:¬dM H' σ ρ p:=dM.fresh au k.hh h2;refine h (.ref p) H' _ (bf.take h3 h1 (au.aK.hh.gone h2) no) (cb.put ⟨k.fy,k.hh,k.new⟩ h2 h1) ?_;simp only[At];exact⟨p,xs,rfl,eB,h4.mono (Sub.upd h1)⟩
  |t t=>intro v G' H' k q;obtain⟨a1,a2,eE⟩:=(eL.of au k).Cg (F':=⟨F.K,aT,H1,xe E⟩) rfl q ⟨k.fy,k.hh,k.new⟩ fun b hb=>⟨(q.own b hb).2,au.aK.hh.gone (q.own b hb).2,dM.fresh au k.hh (q.own b hb).2⟩;exact h v H' _ a1 a2 eE
end
section
variable{X:aM}{F:bt}{e a b c:Expr}{es:List Expr}{pos p:Pos}{m n:aD}{ma:aP}
end
end aB
namespace aB
open PySem PySem.Spec aX
structure my(X:aM)(F:bt)(e:Expr)(m:fc):Prop where
 o:a3 X e (p7 F m)
structure uE(X:aM)(F:bt)(es:List Expr)(m:iA):Prop where
 o:eT X es (rM F m)
section
variable{X:aM}{F:bt}{e a b c bC iter elt:Expr}{es:List Expr}{pos p:Pos}{m n:aD}{ma:aP}{st:Stmt}{m7:List Stmt}
theorem CP (i:Nat) {x:Str} {aN:Pos} {apos:Pos} {bM:Pos} (he:a7 X F e m) (hN:X.N[i]?=some x:=by rfl) (hv:gU X.env.scope x:=by first|exact Or.inl rfl|exact Or.inr (Or.inl rfl)|exact Or.inr (Or.inr rfl)) (hd:(x==("__debug__" :Str))=false:=by decide) (hcd:(x==("__classdict__" :Str))=false:=by decide) (hbase:attributeBase (.Name x aN) "pop" X.env (eval (.Name x aN) X.env)=eval (.Name x aN) X.env:=by rfl) (hline:(apos.endLine==bM.line)=true:=by rfl) (hfew:((backTo bM (starEach [e] X.env)).all (fun x=>!x.1)&&(backToKw bM (keywordEach [] X.env)).all (fun x=>x.1.isSome)
   &&decide (([e]:List Expr).length+([]:List Keyword).length+(if([]:List Keyword).isEmpty then 0 else 1)<30))=true:=by rfl) (hs:starEach [e] X.env=(false,eval e X.env)::starEach [] X.env:=by rfl) (hplain:(backTo bM (starEach [] X.env)).any (·.1)=false:=by rfl):my X F (.Call (.Attribute (.Name x aN) "pop" apos) [e] [] bM) (k8 i m):=⟨aB.Nl (i:=i) (he:=he.1) (hN:=hN) (hv:=hv) (hd:=hd) (hcd:=hcd) (hbase:=hbase) (hline:=hline) (hfew:=hfew) (hs:=hs) (hplain:=hplain)⟩
theorem Kw (i:Nat) {x:Str} {aN:Pos} {apos:Pos} {bM:Pos} {m:fc} (he:my X F e m) (hN:X.N[i]?=some x:=by rfl) (hv:gU X.env.scope x:=by first|exact Or.inl rfl|exact Or.inr (Or.inl rfl)|exact Or.inr (Or.inr rfl)) (hd:(x==("__debug__" :Str))=false:=by decide) (hcd:(x==("__classdict__" :Str))=false:=by decide) (hbase:attributeBase (.Name x aN) "append" X.env (eval (.Name x aN) X.env)=eval (.Name x aN) X.env:=by rfl) (hline:(apos.endLine==bM.line)=true:=by rfl) (hfew:((backTo bM (starEach [e] X.env)).all (fun x=>!x.1)&&(backToKw bM (keywordEach [] X.env)).all (fun x=>x.1.isSome)
   &&decide (([e]:List Expr).length+([]:List Keyword).length+(if([]:List Keyword).isEmpty then 0 else 1)<30))=true:=by rfl) (hs:starEach [e] X.env=(false,eval e X.env)::starEach [] X.env:=by rfl) (hplain:(backTo bM (starEach [] X.env)).any (·.1)=false:=by rfl):fi X F (.Expr (.Call (.Attribute (.Name x aN) "append" apos) [e] [] bM) pos) (mO i m):=⟨aB.V5 (i:=i) (he:=he.1) (hN:=hN) (hv:=hv) (hd:=hd) (hcd:=hcd) (hbase:=hbase) (hline:=hline) (hfew:=hfew) (hs:=hs) (hplain:=hplain)⟩
theorem xj(hm:X.mg "list"=none)(ha:e7 X F [e] ma)(hK:F.K=X.K:=by rfl)(hg:cU X "list":=by rfl)(he:starEach [e] X.env=(false,eval e X.env)::starEach [] X.env:=by rfl)(hpl:(backTo pos (starEach [] X.env)).any (·.1)=false:=by rfl):nF X F (.Call (.Name "list" p) [e] [] pos) (jT ma):=⟨aB.Tz (hm:=hm) (ha:=ha.1) (hK:=hK) (hg:=hg) (he:=he) (hpl:=hpl)⟩
theorem Kv{iT pos':Pos}(hm:X.mg "list"=none)(hm2:X.mg "range"=none)(ha:e7 X F [a] ma)(hc:X.calm=true:=by rfl)(hg:cU X "list":=by rfl)(hg2:cU X "range":=by rfl)(hs:starEach [a] X.env=[(false,eval a X.env)]:=by rfl)(hs2:starEach [.Call (.Name "range" iT) [a] [] pos'] X.env=[(false,eval (.Call (.Name "range" iT) [a] [] pos') X.env)]:=by rfl):nF X F (.Call (.Name "list" p) [.Call (.Name "range" iT) [a] [] pos'] [] pos) (rj ma):=⟨aB.TA (hm:=hm) (hm2:=hm2) (ha:=ha.1) (hc:=hc) (hg:=hg) (hg2:=hg2) (hs:=hs) (hs2:=hs2)⟩
theorem Zd(hm:X.mg "int"=none)(ha:e7 X F [e] ma)(hg:cU X "int":=by rfl)(he:starEach [e] X.env=(false,eval e X.env)::starEach [] X.env:=by rfl)(hpl:(backTo pos (starEach [] X.env)).any (·.1)=false:=by rfl):a7 X F (.Call (.Name "int" p) [e] [] pos) (bZ rN ma):=⟨aB.Nt (hm:=hm) (ha:=ha.1) (hg:=hg) (he:=he) (hpl:=hpl)⟩
theorem KA{bC:Expr}{set:D→ao→R ao}(he:a7 X F e m)(hg:GM X bC set)(hK:F.K=X.K:=by rfl)(hs:swapsWithSole [bC] e pos.line X.env=pure false:=by rfl)(hw:swappedStores [bC] e X.env=pure none:=by rfl)(h1:(assignEach [bC] X.env).map (·.2)=[assign bC X.env]:=by rfl):fi X F (.Assign [bC] e pos) (pI set m):=⟨aB.Wr (he:=he.1) (hg:=hg) (hK:=hK) (hs:=hs) (hw:=hw) (h1:=h1)⟩
theorem Ze(h:a7 X F e m):my X F e (lf m):=⟨aB.N4 (h:=h.1)⟩
theorem Zf:uE X F [] (q_ ar):=⟨aB.N5 ⟩
theorem Ks{m:fc}{r:iA}(h:my X F e m)(t:uE X F es r)(hs:notStar e=true:=by rfl):uE X F (e::es) (pC m r):=⟨aB.N2 (h:=h.1) (t:=t.1) (hs:=hs)⟩
theorem Zh{k}{m:iA}(h:uE X F es m):my X F (.Tuple es k pos) (pH m):=⟨aB.f_tup (h:=h.1)⟩
theorem Zm(i:Nat){x:Str}{p:Pos}{m:fc}(hN:X.N.Nodup)(he:my X F e m)(hi:X.N[i]?=some x:=by rfl)(hx:Loc X.env.scope x:=by first|exact Or.inl rfl|exact Or.inr rfl)(hs:iS e=true:=by rfl)(hf:X.fn x=true∨X.env.scope.names.lookup x=some .local:=by first|exact .inl rfl|exact .inr rfl):fi X F (.Assign [.Name x p] e pos) (rm i m):=⟨aB.Wn (i:=i) (hN:=hN) (he:=he.1) (hi:=hi) (hx:=hx) (hs:=hs) (hf:=hf)⟩
theorem CU{m:fc}(h:my X F e m)(hs:iS e=true:=by rfl):fi X F (.Expr e pos) (n9 m):=⟨aB.Wb (h:=h.1) (hs:=hs)⟩
end
theorem f9.inj{K:PySem.W.Frag}{c:Str}{C lE:Addr}(h:f9 K c C)(h':f9 K c lE):C=lE:=by unfold f9 at h h';rw[h]at h';cases h';rfl
theorem Hs{K:PySem.W.Frag}{G:ai}{f:Str}{d:D}:∀{xs:List (Str×V)}{ds:List D},aL K G ds (xs.map (·.2))→((xs.map (·.1)).zip ds).lookup f=some d→∃v,xs.lookup f=some v∧At K G d v
 |[],_,_,e=>by simp at e
 |(k,v)::xs,[],h,_=>by have:=h.length;simp at this
 |(k,v)::xs,e::ds,h,l=>by
  simp only[List.map_cons,aL]at h;obtain⟨oA,r,aq,a,t⟩:=h;cases aq;simp only[List.map_cons,List.zip_cons_cons,List.lookup_cons]at l ⊢;cases hk:f==k with
  |true=>rw[hk]at l;cases l;exact⟨v,rfl,a⟩
  |false=>rw[hk]at l;exact Hs t l
theorem z4{f:Str}:∀{xs:List (Str×V)},(xs.map (·.1)).all (fun k=>!(f==k))=true→xs.lookup f=none
 |[],_=>rfl
 |(k,v)::xs,h=>by simp only[List.map_cons,List.all_cons,Bool.and_eq_true,Bool.not_eq_true']at h;rw[List.lookup_cons,h.1];exact z4 (by simpa using h.2)
structure rY(K:PySem.W.Frag)(c:Str)(aI:List Str):Prop where
 ex:∃C,f9 K c C∧i3 K C∧∀f∈aI,oP K C f
noncomputable def eF(c f:Str):D→R D
 |.ins ej ns ds=>if ej=c then match(ns.zip ds).lookup f with
  |some d=>.ok d
  |none=>.bad
  else .bad
 |_=>.bad
section
variable{X:aM}{F:bt}{e a b c o:Expr}{es:List Expr}{pos p:Pos}{m n:aD}{ma:aP}
theorem MZ{bD f:Str}{aI:List Str}(k:rY X.K bD aI)(he:a_ X F o m)(hf:f∈aI:=by decide+kernel)(hK:F.K=X.K:=by rfl)(hb:attributeBase o f X.env (eval o X.env)=eval o X.env:=by rfl):a_ X F (.Attribute o f pos) (dC (eF bD f) m):=by
 refine a3.imp (Uv he hb) ?_;rintro σ H Q ⟨G,ρ,r,h⟩;unfold dC at h;refine⟨G,ρ,r,?_⟩;cases av:m ρ with
 |bad=>rw[av]at h;exact h.elim
 |exc c=>rw[av]at h;exact h
 |ok d=>
  rw[av,R.bE]at h;intro x H1 aT au s1 bT;cases d with
  |ins ej ns ds=>
   simp only[eF]at h
   split at h
   ·rename_i hc;subst hc
    split at h
    ·rename_i d' hl;simp only[At]at bT;obtain⟨q,a5,xs,rfl,⟨C,bN,g1⟩,rfl,al⟩:=bT;obtain⟨v,hv,bc⟩:=Hs al hl;obtain⟨lE,k1,k2,k3⟩:=k.ex;rw[hK]at bN;have:=bN.inj k1;subst this;exact⟨q,C,a5,xs,v,rfl,au.aK.sub _ _ g1,k2,k3 f hf,hv,h v H1 aT au s1 bc⟩
    ·exact h.elim
   ·exact h.elim
  |_=>exact h.elim
structure nA(P:Program)(w:World)(K:PySem.W.Frag)(mg:Str→Option Value)(base:Heap)(bD mt:Str)(n k:Nat)(mf:List D→R bW):Prop where
 ex:∃(C f:Addr)(fd:FuncData)(ps:List Str),f9 K bD C∧i3 K C∧Meth K C mt f∧hq P w K mg base gP k f fd ps (lr K (n+1) mf)∧Binds K fd ps []
noncomputable def p0(bD mt:Str):D→R D
 |.ins ej ns ds=>if ej=bD∧ns.all (fun k=>!(mt==k))=true then .ok (.ins ej ns ds)else .bad
 |_=>.bad
noncomputable def kn(bD mt:Str)(n:Nat)(mf:List D→R bW)(o:aD)(ma:aP):aD:=fun ρ=>(o ρ).bind fun d=>(p0 bD mt d).bind fun d=>(ma ρ).bind fun ds=>if ds.length=n then(mf (d::ds)).bind iU else .bad
theorem Qa{bD mt:Str}{n:Nat}{mf:List D→R bW}{C:Addr}{E:c7}(hx:F.gS=fun _ _=>False)(hO:f9 F.K bD C):eK (cW F (kn bD mt n mf m ma)) (w1 C mt (lr F.K (n+1) mf) [] E (cW F m) (ei F ma)):=by
 rintro σ H Q ⟨G,ρ,r,h⟩;unfold kn at h;refine⟨G,ρ,r,?_⟩;cases av:m ρ with
 |bad=>rw[av]at h;exact h.elim
 |exc c=>rw[av]at h;exact h
 |ok d=>
  rw[av,R.bE]at h;intro x H1 aT au s1 bT;cases d with
  |ins ej ns ds=>
   simp only[p0]at h
   split at h
   ·rename_i hc;obtain⟨pn,ki⟩:=hc;subst pn;have x1:=bT;simp only[At]at bT;obtain⟨q,a5,xs,rfl,⟨lE,bN,g1⟩,rfl,al⟩:=bT;have:=bN.inj hO;subst this;refine⟨q,a5,xs,rfl,au.aK.sub _ _ g1,z4 ki,aT,ρ,au,?_⟩;rw[R.bE]at h;cases bb:ma ρ with
    |bad=>rw[bb]at h;exact h.elim
    |exc c=>rw[bb]at h;exact h
    |ok es=>
     rw[bb,R.bE]at h;intro vs a9 dj bh s2 bc;by_cases aC:es.length=n
     ·rw[if_pos aC]at h;rw[List.append_nil];exact Jj (xe:=fun _ _ _=>False) hx bh (.cons (x1.mono s2.g) bc) (by simp[aC]) (h.mono (s1.trans s2))
     ·rw[if_neg aC]at h;exact h.elim
   ·exact h.elim
  |_=>exact h.elim
theorem Nb {bD mt:Str} {n k:Nat} {mf:List D→R bW} {pl:Sem Bool} {apos:Pos} (c:nA X.prog X.w X.K X.mg X.base bD mt n k mf) (hr:dt k X.A) (he:a_ X F o m) (ha:gm X F (e::es) ma) (hE:F.gS=fun _ _=>False:=by rfl) (hK:F.K=X.K:=by rfl)(hst:starEach (e::es) X.env=(false,eval e X.env)::starEach es X.env:=by rfl) (hpl:(backTo pos (starEach es X.env)).any (·.1)=false:=by rfl)(ht:eval (.Call (.Attribute o mt apos) (e::es) [] pos) X.env=(do
    let fK ←eval o X.env
    standAt apos.atName
    let(f,first) ←holding [fK] (getMethod fK mt pl)
    callWith pos f first (backTo pos (starEach (e::es) X.env)) (backToKw pos (keywordEach [] X.env))):=by rfl) :
  a_ X F (.Call (.Attribute o mt apos) (e::es) [] pos) (kn bD mt n mf m ma):=by
 obtain⟨C,f,fd,ps,bN,cZ,eN,gL,hb⟩:=c.ex;refine a3.imp (UD (pl:=pl) he cZ eN gL hr hb .nil tM ha hst hpl ht) ?_;rw[←hK];exact Qa hE (by rw[hK];exact bN)
def k4:D→Option Key
 |.int i=>some (.inl i)
 |.str x=>some (.inr x)
 |_=>none
noncomputable def vI:List D→Option (List Key)
 |[]=>some []
 |d::ds=>match k4 d,vI ds with
  |some k,some aH=>some (k::aH)
  |_,_=>none
def n1:D→Option (List Key)
 |.tup ds=>vI ds
 |_=>none
theorem Rg{K:PySem.W.Frag}{G:ai}{d:D}{v:V}{k:Key}(e:k4 d=some k)(a:At K G d v):v=cM k:=by
 cases d<;>first
  |(cases e;done)
  |(cases e;simp only[At]at a;exact a)
theorem G_{K:PySem.W.Frag}{G:ai}:∀{ds:List D}{vs:List V}{aH:List Key},vI ds=some aH→aL K G ds vs→vs=aH.map cM
 |[],_,_,e,a=>by simp only[aL]at a;subst a;cases e;rfl
 |d::ds,_,_,e,a=>by
  simp only[aL]at a;obtain⟨v,r,rfl,bc,mA⟩:=a;unfold vI at e
  split at e
  ·rename_i k aH aq az;cases e;rw[Rg aq bc,G_ az mA];rfl
  ·cases e
theorem zW{K:PySem.W.Frag}{G:ai}{d:D}{v:V}{aH:List Key}(e:n1 d=some aH)(a:At K G d v):∃b,v=.ref b∧G b=some (.tup (aH.map cM)):=by
 cases d with
 |tup ds=>simp only[At]at a;obtain⟨b,xs,rfl,hb,al⟩:=a;exact⟨b,rfl,by rw[hb,G_ e al]⟩
 |_=>cases e
theorem CA{κ:Type}[DecidableEq κ](k:κ):∀aV:List (κ×V),(gj aV k).isSome=(aV.map (·.1)).any (fun x=>decide (x=k))
 |[]=>rfl
 |(x,v)::aV=>by
  have bQ:=CA k aV;unfold gj at bQ ⊢;rw[List.find?_cons,List.map_cons,List.any_cons];by_cases h:x=k
  ·simp[h]
  ·simp only[h,decide_false,Bool.false_or];exact bQ
noncomputable def fj(b:Bool)(k d:D):R D:=match d with
 |.bK aH _=>match n1 k with
  |some cv=>.ok (.ax (if b then aH.any (fun x=>decide (x=cv))else !aH.any (fun x=>decide (x=cv))))
  |none=>.bad
 |_=>.bad
theorem El{b:Bool}{σ :St}{ρ:ao}{G H:ai}{y x:V}{o6 dd:D}{Q:cP}(r:Rel F G H σ ρ)(cH:At F.K G o6 y)(bT:At F.K G dd x)(h:ik F G H σ ρ Q (fj b o6 dd)) :
  ∃a o,x=.ref a∧jw H a y o∧Q (.ax (if b then o.isSome else !o.isSome)) H:=by
 unfold fj at h
 split at h
 ·rename_i aH ds
  split at h
  ·rename_i cv g0;simp only[At]at bT;obtain⟨a,xs,rfl,hg,rfl,al⟩:=bT;obtain⟨q,rfl,aJ⟩:=zW g0 cH;refine⟨a,gj xs cv,rfl,jw.t (r.aK.sub _ _ hg) (r.aK.sub _ _ aJ),?_⟩;rw[CA];exact h _ H G r (cb.refl _ _) (by simp only[At])
  ·exact h.elim
 ·exact h.elim
theorem GN:eK (cW F (ag (fj true) m n)) (JE (cW F m) (cW F n)):=by
 rintro σ H Q ⟨G,ρ,r,h⟩;unfold ag at h;refine⟨G,ρ,r,?_⟩;cases av:m ρ with
 |bad=>rw[av]at h;exact h.elim
 |exc c=>rw[av]at h;exact h
 |ok o6=>
  rw[av,R.bE]at h;intro y H1 aT au s1 cH;refine⟨aT,ρ,au,?_⟩;cases bb:n ρ with
  |bad=>rw[bb]at h;exact h.elim
  |exc c=>rw[bb]at h;exact h
  |ok dd=>rw[bb,R.bE]at h;intro x a9 dj bh s2 bT;exact El (b:=true) bh (cH.mono s2.g) bT (h.mono (s1.trans s2))
theorem PV:eK (cW F (ag (fj false) m n)) (JF (cW F m) (cW F n)):=by
 rintro σ H Q ⟨G,ρ,r,h⟩;unfold ag at h;refine⟨G,ρ,r,?_⟩;cases av:m ρ with
 |bad=>rw[av]at h;exact h.elim
 |exc c=>rw[av]at h;exact h
 |ok o6=>
  rw[av,R.bE]at h;intro y H1 aT au s1 cH;refine⟨aT,ρ,au,?_⟩;cases bb:n ρ with
  |bad=>rw[bb]at h;exact h.elim
  |exc c=>rw[bb]at h;exact h
  |ok dd=>rw[bb,R.bE]at h;intro x a9 dj bh s2 bT;exact El (b:=false) bh (cH.mono s2.g) bT (h.mono (s1.trans s2))
theorem ZO(hu:X.A.units+64<cLine)(ha:a_ X F a m)(hb:a_ X F b n)(h1:behindInMarks .In b=false:=by with_unfolding_all rfl):a_ X F (.Compare a [.In] [b] pos) (ag (fj true) m n):=a3.imp (Uq (Ig (by omega) ha hb) h1) GN
theorem XW(hu:X.A.units+64<cLine)(ha:a_ X F a m)(hb:a_ X F b n)(h1:behindInMarks .In b=false:=by with_unfolding_all rfl):ft X F (.Compare a [.In] [b] pos) (aW (ag (fj true) m n)):=by refine eU.imp (IC (Ig (by omega) ha hb) h1) fun σ H Q h=>?_;obtain⟨G,ρ,r,k⟩:=vz σ H Q h;exact GN σ H _ ⟨G,ρ,r,k⟩
theorem XX(hu:X.A.units+64<cLine)(ha:a_ X F a m)(hb:a_ X F b n)(h1:behindInMarks .NotIn b=false:=by with_unfolding_all rfl):ft X F (.Compare a [.NotIn] [b] pos) (aW (ag (fj false) m n)):=by refine eU.imp (IC (Ul (by omega) ha hb) h1) fun σ H Q h=>?_;obtain⟨G,ρ,r,k⟩:=vz σ H Q h;exact PV σ H _ ⟨G,ρ,r,k⟩
def th(i:Nat):a0:=fun ρ=>if i<ρ.length then .ok (.bq (ρ.set i (.a4 (.bK [] []))))else .bad
theorem Wm(i:Nat){x:Str}{p q:Pos}(hN:X.N.Nodup)(hi:X.N[i]?=some x:=by rfl)(hx:Loc X.env.scope x:=by first|exact Or.inl rfl|exact Or.inr rfl)(hf:X.fn x=true∨X.env.scope.names.lookup x=some .local:=by first|exact .inl rfl|exact .inr rfl):fU X F (.Assign [.Name x p] (.Dict [] [] q) pos) (th i):=by
 refine dr.imp (wt hN hi hx Uu (l4 _ _ _ _ rfl) hf) ?_;rintro cJ σ H ⟨G,ρ,r,h⟩;unfold th at h;intro a ha
 split at h
 ·rename_i hl;refine h _ G _ ((r.lay0 ha).setB hl eB (r.aK.sub.gone ha) (r.aK.hh.gone ha) ⟨[],rfl,rfl,.nil⟩ fun j es o _ aq az f=>dM.fresh r (Sub.upd ha) ha ⟨j,es,o,aq,az,f⟩) (Sub.refl _)
 ·exact h.elim
noncomputable def putD(aH:List (List Key))(ds:List D)(cv:List Key)(d:D):R kL:=if aH.any (fun x=>decide (x=cv))=false∧aH.length<1000000 then .ok (.bK (aH++[cv]) (ds++[d]))else .bad
noncomputable def mP(i:Nat)(mk mv:aD):a0:=fun ρ=>(mv ρ).bind fun v=>match ρ[i]? with
 |some (.a4 (.bK aH ds))=>(mk ρ).bind fun k=>match n1 k with
  |some cv=>(putD aH ds cv v).bind fun o=>.ok (.bq (ρ.set i (.a4 o)))
  |none=>.bad
 |_=>.bad
theorem V_(i:Nat){x:Str}{aN pos':Pos}{k v:Expr}{mk mv:aD}(hu:X.A.units+64<cLine)(hk:a_ X F k mk)(hv:a_ X F v mv)(hN:X.N[i]?=some x:=by rfl)(hvs:gU X.env.scope x:=by first|exact Or.inl rfl|exact Or.inr (Or.inl rfl)|exact Or.inr (Or.inr rfl))(hd:(x==("__debug__" :Str))=false:=by decide)(hcd:(x==("__classdict__" :Str))=false:=by decide)(hs:iS v=true:=by rfl) :
  fU X F (.Assign [.Subscript (.Name x aN) k pos'] v pos) (mP i mk mv):=by
 refine dr.imp (U_ (by omega) (mX hN hvs hd hcd) hk hv (l4 _ _ _ _ hs)) ?_;rintro cJ σ H ⟨G,ρ,r,h⟩;unfold mP at h;refine⟨G,ρ,r,?_⟩;cases av:mv ρ with
 |bad=>rw[av]at h;exact h.elim
 |exc c=>rw[av]at h;exact h
 |ok ZN=>
  rw[av,R.bE]at h;intro v H1 aT au s1 bc
  split at h
  ·rename_i aH ds c_;obtain⟨q,ho,aq,_⟩:=au.obj c_;refine⟨.ref q,aq,aT,ρ,au,?_⟩;cases bb:mk ρ with
   |bad=>rw[bb]at h;exact h.elim
   |exc c=>rw[bb]at h;exact h
   |ok o6=>
    rw[bb,R.bE]at h;intro y a9 dj bh s2 cH;obtain⟨dR,ho',gY,h1,h2,h3,xs,rfl,rfl,al⟩:=bh.obj c_;rw[aq]at gY;cases gY
    split at h
    ·rename_i cv g0;unfold putD at h
     split at h
     ·rename_i hc;obtain⟨pn,ki⟩:=hc;obtain⟨oZ,rfl,zk⟩:=zW g0 cH;have aC:gj xs cv=none:=by
       have:=CA cv xs;rw[pn]at this;exact Option.not_isSome_iff_eq_none.mp (by rw[this];exact Bool.false_ne_true)
      refine⟨q,_,rfl,oK.t h1 (bh.aK.sub _ _ zk) (Nat.lt_trans (by simpa using ki) (by decide)),?_⟩;rw[Vk _ aC];refine h σ dj _ (bh.Ai c_ aq ⟨xs++[(cv,v)],rfl,by simp,?_⟩) (s1.g.trans s2.g);rw[List.map_append];exact al.snoc (bc.mono s2.g)
     ·exact h.elim
    ·exact h.elim
  ·exact h.elim
def hD(m:aD):a0:=fun ρ=>(m (eP ρ)).bind fun d=>.ok (.dH d)
theorem Wk(h:a_ X F e m):fU X F (.Return (some e) pos) (hD m):=by
 refine dr.imp (wq h) ?_;rintro cJ σ H ⟨G,ρ,r,h⟩;unfold hD at h;refine⟨_,_,r.plus,?_⟩;cases av:m (eP ρ)with
 |bad=>rw[av]at h;exact h.elim
 |exc c=>rw[av]at h;exact h
 |ok d=>rw[av,R.bE]at h;exact fun v H' G' bf s' a=>h v G' H' bf.aK a
def rf:a0:=fun _=>.bad
theorem V6{st:Stmt}:fU X F st rf:=dr.imp Iy fun cJ σ H⟨G,ρ,r,h⟩=>h.elim
end
mutual
noncomputable def jW:D→Bool
 |.ins _ _ _=>false
 |.tup ds=>ku ds
 |.lst ds=>ku ds
 |.cy ds=>ku ds
 |.dm _ ds=>ku ds
 |.bK _ ds=>ku ds
 |.dy ds=>ku ds
 |_=>true
noncomputable def ku:List D→Bool
 |[]=>true
 |d::ds=>jW d&&ku ds
end
def sZ:dK→Bool
 |.ins _ _ _=>true
 |_=>false
section
variable{K:PySem.W.Frag}{G G':ai}
theorem gq.off(h:∀b o,G b=some o→sZ o=false→G' b=some o){a:Addr}{u:dK}(hu:sZ u=false)(r:gq G a u):gq G' a u:=by
 rcases r with r|⟨o,r⟩
 ·exact .inl (h _ _ r hu)
 ·exact .inr ⟨o,h _ _ r rfl⟩
mutual
theorem At.off(h:∀b o,G b=some o→sZ o=false→G' b=some o):∀{d:D}{v:V},jW d=true→At K G d v→At K G' d v
 |.non,_,_,q=>by simpa only[At]using q
 |.ax _,_,_,q=>by simpa only[At]using q
 |.int _,_,_,q=>by simpa only[At]using q
 |.str _,_,_,q=>by simpa only[At]using q
 |.tup _,_,n,q=>by simp only[At,jW]at q n ⊢;obtain⟨a,xs,e,g,r⟩:=q;exact⟨a,xs,e,h _ _ g rfl,aL.off h n r⟩
 |.lst _,_,n,q=>by simp only[At,jW]at q n ⊢;obtain⟨a,xs,e,g,r⟩:=q;exact⟨a,xs,e,h _ _ g rfl,aL.off h n r⟩
 |.cy _,_,n,q=>by
  simp only[At,jW]at q n ⊢;obtain⟨a,xs,e,g,r⟩:=q;refine⟨a,xs,e,?_,aL.off h n r⟩;rcases g with g|g
  ·exact .inl (gq.off h rfl g)
  ·exact .inr g
 |.dy _,_,n,q=>by
  simp only[At,jW]at q n ⊢;obtain⟨a,xs,e,g,r⟩:=q;refine⟨a,xs,e,?_,aL.off h n r⟩;rcases g with g|g
  ·exact .inl (gq.off h rfl g)
  ·exact .inr g
 |.dm _ _,_,n,q=>by simp only[At,jW]at q n ⊢;obtain⟨a,xs,e,g,k,r⟩:=q;exact⟨a,xs,e,h _ _ g rfl,k,aL.off h n r⟩
 |.bK _ _,_,n,q=>by simp only[At,jW]at q n ⊢;obtain⟨a,xs,e,g,k,r⟩:=q;exact⟨a,xs,e,h _ _ g rfl,k,aL.off h n r⟩
 |.ins _ _ _,_,n,_=>by simp only[jW]at n;cases n
 |.qU _,_,n,q=>by simp only[At]at q ⊢;obtain⟨a,xs,e,⟨C,bN,g⟩,r⟩:=q;exact⟨a,xs,e,⟨C,bN,h _ _ g rfl⟩,r⟩
theorem aL.off(h:∀b o,G b=some o→sZ o=false→G' b=some o):∀{ds:List D}{vs:List V},ku ds=true→aL K G ds vs→aL K G' ds vs
 |[],_,_,q=>by simpa only[aL]using q
 |_::_,_,n,q=>by simp only[aL,ku,Bool.and_eq_true]at q n ⊢;obtain⟨v,r,e,a,t⟩:=q;exact⟨v,r,e,At.off h n.1 a,aL.off h n.2 t⟩
end
end
def Xb:cO→Bool
 |.a4 (.ins _ _ _)=>true
 |.a4 _=>false
 |.eA _=>false
 |_=>true
def Ar(ρ:ao):Bool:=ρ.all Xb
def n7(m:aD):aD:=fun ρ=>(m (eP ρ)).bind fun d=>if jW d=true∧Ar ρ=true then .ok d else .bad
section
variable{F:bt}
open Classical in
noncomputable def qV(H:ai)(σ :St)(ρ:ao)(G:ai):ai:=fun b=>if dM H σ ρ b then none else G b
theorem PM{m:aD}:eK (cW F (n7 m)) (cW F m):=by
 rintro σ H Q ⟨G,ρ,r,h⟩;refine⟨kf σ ρ G H,eP ρ,r.plus,?_⟩;unfold n7 at h;cases av:m (eP ρ)with
 |bad=>rw[av]at h;exact h.elim
 |exc c=>rw[av]at h;exact h
 |ok d=>
  rw[av,R.bE]at h;intro v H' G' bf s' a;by_cases hd:jW d=true∧Ar ρ=true
  ·rw[if_pos hd]at h;have Ia:∀b,dM H σ ρ b→G b=none:=fun b z=>(r.foot z).2.1;have H_:∀b,dM H σ ρ b→F.bB b=none:=fun b z=>(r.foot z).2.2;have Ue:∀b,dM H σ ρ b→∃ho,H b=some ho∧sZ ho=true:=fun b⟨i,s,o,aq,az,f⟩=>by
    have hi:=List.all_eq_true.mp hd.2 _ (List.mem_of_getElem? aq);cases s with
    |un=>exact f.elim
    |ak _=>exact f.elim
    |eA _=>cases hi
    |a4 a4=>
     have f:o=some (.ref b):=f;obtain⟨c,ho,b7,h1,_,_,h4⟩:=r.obj aq;rw[az,f]at b7;cases b7;cases a4 with
     |lst _=>cases hi
     |bK _ _=>cases hi
     |ins _ _ _=>obtain⟨C,a5,xs,_,rfl,_⟩:=h4;exact⟨_,h1,rfl⟩
   have off:∀b,¬dM H σ ρ b→qV H σ ρ G' b=G' b:=fun b n=>by unfold qV;rw[if_neg n]
   have on:∀b,dM H σ ρ b→qV H σ ρ G' b=none:=fun b n=>by unfold qV;rw[if_pos n]
   have aY:Sub G (qV H σ ρ G'):=fun b o e=>by
    have n:¬dM H σ ρ b:=fun z=>by rw[Ia b z]at e;cases e
    rw[off b n];exact s'.g b o (zd r b o e)
   have Rb:∀b,dM H σ ρ b→∀o,H b=some o→H' b=some o:=fun b z o e=>bf.aK.sub _ _ (s'.g _ _ (by rw[sH z];exact e));have rel:Rel F (qV H σ ρ G') H' σ ρ:=by
    refine r.over rfl ⟨fun b o e=>?_,r.aK.fy.trans aY,bf.aK.hh,fun b hb=>?_⟩ aY fun b cE=>?_
    ·by_cases n:dM H σ ρ b
     ·rw[on b n]at e;cases e
     ·rw[off b n]at e;exact bf.aK.sub b o e
    ·have n:¬dM H σ ρ b:=fun z=>hb (H_ b z);rw[off b n];exact bf.aK.new b hb
    ·refine⟨?_,on b cE,H_ b cE⟩;cases bb:H b with
     |none=>exact absurd bb (r.foot cE).1
     |some o=>exact Rb b cE o bb
   refine h v H' _ rel ⟨aY,s'.h,fun b hb=>?_⟩ (At.off (fun b o e hi=>?_) hd.1 a)
   ·by_cases n:dM H σ ρ b
    ·rw[on b n,Ia b n]
    ·rw[off b n,s'.n b hb];unfold kf;rw[if_neg n]
   ·have n:¬dM H σ ρ b:=fun z=>by
      obtain⟨ho,aq,az⟩:=Ue b z;have:=s'.g b ho (by rw[sH z];exact aq);rw[e]at this;cases this;rw[hi]at az;cases az
    rw[off b n];exact e
  ·rw[if_neg hd]at h;exact h.elim
abbrev iB:=ao→R ao
noncomputable def Q7(F:bt)(σ :St)(cJ:Ends):R ao→Prop
 |.ok bo=>∀G' H',Rel F G' H' σ bo→cJ.bq σ H'
 |.exc c=>km F c
 |.bad=>False
def m8(F:bt)(m:iB):eM:=fun cJ σ H=>∃G ρ,Rel F G H σ ρ∧Q7 F σ cJ (m ρ)
def lX(a b:iB):iB:=fun ρ=>(a ρ).bind b
theorem Qr{a b:iB}:hz (m8 F (lX a b)) (Cc (m8 F a) (m8 F b)):=by
 rintro cJ σ H ⟨G,ρ,r,h⟩;unfold lX at h;refine⟨G,ρ,r,?_⟩;cases av:a ρ with
 |bad=>rw[av]at h;exact h.elim
 |exc c=>rw[av]at h;exact h
 |ok d2=>rw[av,R.bE]at h;exact fun G' H' bf=>⟨G',d2,bf,h⟩
def n_(c:b4):iB:=fun ρ=>(c ρ).bind fun k=>if k=true then .bad else .ok ρ
theorem P1{c:b4}:hz (m8 F (n_ c)) (Ca (fL F c) JK Cb):=by
 rintro cJ σ H ⟨G,ρ,r,h⟩;unfold n_ at h;refine⟨G,ρ,r,?_⟩;cases av:c ρ with
 |bad=>rw[av]at h;exact h.elim
 |exc c=>rw[av]at h;exact h
 |ok k=>
  rw[av,R.bE]at h;intro H1 aT au s1;cases k with
  |true=>exact h.elim
  |false=>exact h aT H1 au
theorem AG{f:Str}{v:V}:∀{aI:List (Str×V)},(aI.map (·.1)).all (fun k=>!(f==k))=true→g9 f v aI=aI++[(f,v)]
 |[],_=>rfl
 |(g,x)::aI,h=>by
  simp only[List.map_cons,List.all_cons,Bool.and_eq_true,Bool.not_eq_true']at h;have ne:g≠f:=fun z=>by subst z;simp at h
  rw[g9,if_neg ne,AG (by simpa using h.2)];rfl
noncomputable def jS(bD f:Str)(m:aD):iB:=fun ρ=>(m ρ).bind fun d=>match(ρ[0]? :Option cO)with
 |some (.a4 (.ins ej ns ds))=>if ej=bD∧ns.all (fun k=>!(f==k))=true∧ns.length<1000 then .ok (ρ.set 0 (.a4 (.ins bD (ns++[f]) (ds++[d]))))else .bad
 |_=>.bad
end
section
variable{X:aM}{F:bt}{e o:Expr}{pos:Pos}{m:aD}
theorem MU(h:a_ X F e m):a_ X F e (n7 m):=a3.imp h PM
theorem Wc{bD f x:Str}{aI:List Str}{aN pos':Pos}(k:rY X.K bD aI)(he:a_ X F e m)(hf:f∈aI:=by decide+kernel)(hN:X.N[0]?=some x:=by rfl)(hv:gU X.env.scope x:=by first|exact Or.inl rfl|exact Or.inr (Or.inl rfl)|exact Or.inr (Or.inr rfl))(hd:(x==("__debug__" :Str))=false:=by decide)(hcd:(x==("__classdict__" :Str))=false:=by decide)(hs:iS e=true:=by rfl)(hK:F.K=X.K:=by rfl) :
  dr X (.Assign [.Attribute (.Name x aN) f pos'] e pos) (m8 F (jS bD f m)):=by
 refine dr.imp (Va (mX hN hv hd hcd) he (l4 _ _ _ _ hs)) ?_;rintro cJ σ H ⟨G,ρ,r,h⟩;unfold jS at h;refine⟨G,ρ,r,?_⟩;cases av:m ρ with
 |bad=>rw[av]at h;exact h.elim
 |exc c=>rw[av]at h;exact h
 |ok d=>
  rw[av,R.bE]at h;intro v H1 aT au s1 bc
  split at h
  ·rename_i ej ns ds c_
   split at h
   ·rename_i hc;obtain⟨rfl,ki,OK⟩:=hc;obtain⟨q,ho,aq,h1,h2,h3,C,a5,xs,bN,rfl,rfl,al⟩:=au.obj c_;obtain⟨lE,k1,k2,k3⟩:=k.ex;rw[hK]at bN;have:=bN.inj k1;subst this;refine⟨.ref q,aq,q,C,a5,xs,rfl,h1,k2,k3 f hf,by simpa using OK,?_⟩;refine h aT _ (au.Ai c_ aq ⟨C,a5,g9 f v xs,by rw[hK];exact bN,rfl,?_,?_⟩)
    ·rw[AG ki];simp
    ·rw[AG ki,List.map_append];exact al.snoc bc
   ·exact h.elim
  ·exact h.elim
end
noncomputable def G7(F:bt)(x C:Addr)(Q:cP):R (List Str×List D)→Prop
 |.ok (ns,ds)=>∀a5 xs G' H',eL F G' H'→G' x=none→H' x=some (.ins C a5 xs)→xs.map (·.1)=ns→aL F.K G' ds (xs.map (·.2))→Q .non H'
 |.exc _=>False
 |.bad=>False
noncomputable def t2(K:PySem.W.Frag)(bD:Str)(n:Nat)(mf:List D→R (List Str×List D)):i6:=fun vs H Q E=>∃G x C a5 es ws,vs=.ref x::ws∧f9 K bD C∧H x=some (.ins C a5 [])∧G x=none∧Sub G H∧aL K G es ws∧es.length=n∧G7 ⟨K,G,del H x,fun _ _=>False⟩ x C Q (mf es)
noncomputable def rk(bD:Str)(n:Nat)(mf:List D→R (List Str×List D))(ma:aP):aD:=fun ρ=>(ma ρ).bind fun ds=>if ds.length=n then(gy (mf ds)).bind fun x=>.ok (.ins bD x.1 x.2)else .bad
section
variable{X:aM}{F:bt}{e:Expr}{es:List Expr}{pos p:Pos}{ma:aP}
theorem P_{bD:Str}{n:Nat}{mf:List D→R (List Str×List D)}{C:Addr}{E:c7}(hO:f9 F.K bD C):eK (cW F (rk bD n mf ma)) (JJ C (t2 F.K bD n mf) [] E (ei F ma)):=by
 rintro σ H Q ⟨G,ρ,r,h⟩;unfold rk at h;refine⟨G,ρ,r,?_⟩;cases av:ma ρ with
 |bad=>rw[av]at h;exact h.elim
 |exc c=>rw[av]at h;exact h
 |ok ds=>
  rw[av,R.bE]at h;intro vs H1 aT au s1 bc x a5 hx OQ ne;by_cases aC:ds.length=n
  ·rw[if_pos aC]at h;rw[List.append_nil];have AX:Sub H1 (del (upd (upd H1 a5 (.own x)) x (.ins C a5 [])) x):=fun b o e=>by
    have da:b≠x:=fun z=>by rw[z,hx]at e;cases e
    have c2:b≠a5:=fun z=>by rw[z,OQ]at e;cases e
    rw[Mw da,dJ da,dJ c2];exact e
   have V3:Sub aT (upd (upd H1 a5 (.own x)) x (.ins C a5 [])):=au.aK.sub.trans (AX.trans (Ek _ _));refine⟨aT,x,C,a5,ds,vs,rfl,hO,eB,au.aK.sub.gone hx,V3,bc,aC,?_⟩;cases em:mf ds with
   |bad=>rw[em]at h;exact h.elim
   |exc c=>rw[em]at h;exact h.elim
   |ok y=>obtain⟨ns,es'⟩:=y;rw[em]at h;intro yN xs G' H' k g1 g2 g3 jH;refine⟨rfl,?_⟩;have hh:Sub H1 H':=AX.trans k.hh;have nw:∀b,H1 b≠none→G' b=aT b:=fun b hb=>k.new b (AX.some hb);have bh:Rel F G' H' σ ρ:=au.grow k.fy k.sub hh nw;have no:¬dM H' σ ρ x:=dM.fresh au hh hx;refine h (.ref x) H' _ (bh.take g2 g1 (au.aK.hh.gone hx) no) ((s1.trans ⟨k.fy,hh,nw⟩).put (s1.h.gone hx) g1) ?_;simp only[At];exact⟨x,yN,xs,rfl,⟨C,hO,eB⟩,g3,jH.mono (Sub.upd g1)⟩
  ·rw[if_neg aC]at h;exact h.elim
structure uu(P:Program)(w:World)(K:PySem.W.Frag)(mg:Str→Option Value)(base:Heap)(bD:Str)(n k:Nat)(mf:List D→R (List Str×List D)):Prop where
 ex:∃(C f:Addr)(fd:FuncData)(ps:List Str),f9 K bD C∧uv K C f∧hq P w K mg base gP k f fd ps (t2 K bD n mf)∧mg bD=some (.ref C)∧Binds K fd ps []
theorem Na{bD:Str}{n k:Nat}{mf:List D→R (List Str×List D)}(c:uu X.prog X.w X.K X.mg X.base bD n k mf)(hr:dt (k+1) X.A)(ha:gm X F (e::es) ma)(hK:F.K=X.K:=by rfl)(hg:cU X bD:=by rfl)(hdb:(bD==("__debug__" :Str))=false:=by decide)(he:starEach (e::es) X.env=(false,eval e X.env)::starEach es X.env:=by rfl)(hpl:(backTo pos (starEach es X.env)).any (·.1)=false:=by rfl):a_ X F (.Call (.Name bD p) (e::es) [] pos) (rk bD n mf ma):=by obtain⟨C,f,fd,ps,bN,cZ,gL,hm,hb⟩:=c.ex;refine a3.imp (UC cZ gL hr hg hm hb .nil tM ha hdb he hpl) ?_;rw[←hK];exact P_ (by rw[hK];exact bN)
end
def jM(bD:Str)(es:List D):ao:=.a4 (.ins bD [] [])::es.map .ak
noncomputable def outI(bD:Str):R ao→R (List Str×List D)
 |.ok (.a4 (.ins c ns ds)::_)=>if c=bD then .ok (ns,ds)else .bad
 |_=>.bad
theorem VG{K:PySem.W.Frag}{G H:ai}{gS:Str→ai→Prop}{bD:Str}{C a5 x:Addr}{es:List D}{ws:List V}(hO:f9 K bD C)(h1:H x=some (.ins C a5 []))(h2:G x=none)(s:Sub G H)(bc:aL K G es ws) :
  Rel ⟨K,G,del H x,gS⟩ G H (some (.ref x)::ws.map some) (jM bD es):=by
 refine⟨⟨s,Sub.refl _,Ek H x,fun _ _=>rfl⟩,by simp[jM,bc.length],fun i t e=>?_,fun i j b aI FW o bJ bg aZ _ _ f EJ=>?_⟩
 ·cases i with
  |zero=>simp[jM]at e;subst e;exact⟨some (.ref x),by simp,x,_,rfl,h1,h2,Mx,C,a5,[],hO,rfl,rfl,.nil⟩
  |succ i=>
   simp only[jM,List.getElem?_cons_succ]at e ⊢;rw[List.getElem?_map]at e;cases ek:es[i]? with
   |none=>rw[ek]at e;cases e
   |some d=>rw[ek]at e;cases e;obtain⟨v,aq,a⟩:=bc.get ek;exact⟨some v,by rw[List.getElem?_map,aq];rfl,v,rfl,a⟩
 ·have one:∀{i:Nat}{aI:cO}{o:Option V},(jM bD es)[i]?=some aI→gd H aI o b→i=0:=fun{i aI o} e f=>by
    cases i with
    |zero=>rfl
    |succ i=>
     simp only[jM,List.getElem?_cons_succ,List.getElem?_map]at e;cases ek:es[i]? with
     |none=>rw[ek]at e;cases e
     |some d=>rw[ek]at e;cases e;exact f.elim
  rw[one bg f,one aZ EJ]
theorem QF{K:PySem.W.Frag}{bD:Str}{n:Nat}{m:iB}{vs:List V}{H:ai}{Q:cP}{E:c7}(h:t2 K bD n (fun es=>outI bD (m (jM bD es))) vs H Q E) :
  ∃G bB,m8 (eW K G bB) m { bq:=fun _ H'=>Q .non H',dH:=Q } (vs.map some) H:=by
 obtain⟨G,x,C,a5,es,ws,rfl,hO,h1,h2,s,bc,l,k⟩:=h;refine⟨G,del H x,G,jM bD es,VG hO h1 h2 s bc,?_⟩;replace k:G7 ⟨K,G,del H x,fun _ _=>False⟩ x C Q (outI bD (m (jM bD es))):=k;cases em:m (jM bD es)with
 |bad=>rw[em]at k;exact k.elim
 |exc c=>rw[em]at k;exact k.elim
 |ok bo=>
  rw[em]at k;intro G' H' r;unfold outI at k
  split at k
  ·rename_i ZL ns ds bH heq;cases heq;obtain⟨a,ho,aq,g1,g2,g3,lE,yN,xs,bN,rfl,az,al⟩:=r.obj (i:=0) rfl;have aq:some (some (V.ref x))=some (some (V.ref a)):=aq;cases aq
   split at k
   ·rename_i hc;subst hc;have:=bN.inj hO;subst this;exact k yN xs G' H' r.aK g2 g1 az al
   ·exact k.elim
  ·exact k.elim
end aB
namespace aB
open PySem PySem.Spec aX PyProof.Rows
theorem Ji{K:PySem.W.Frag}{bD:Str}{n:Nat}{mf:List D→R (List Str×List D)}:∀vs H Q E,t2 K bD n mf vs H Q E→vs.length=n+1:=fun vs H Q E h=>by obtain⟨G,x,C,a5,es,ws,rfl,_,_,_,_,q,l,_⟩:=h;rw[List.length_cons,←q.length,l]
theorem Xr{N:List Str}{vs:List V}(h:vs.length=N.length):aX.start N vs=vs.map some:=by unfold aX.start;simp[h]
theorem Qf{P:Program}{w:World}{K:PySem.W.Frag}{mg:Str→Option Value}{base:Heap}{x qual bD f5:Str}{st:Stmt}{ps:List Str}{k:Nat}{m:iB}{f:Addr}{fd:FuncData}(fn:kH K x qual st f fd)(S:cG (f5::ps) (f5::ps) (bO st))(h:∀(f:Addr)(b_:Value)(A:Around)(outer:List Env)(s:Shared)(H:ai)(E:c7),dt k (A.deeper (PyProof.Rows.envOfC qual (bO st) s.heap.objs.size f b_))→∀bY bB,fS (eO gP P w K mg base (f5::ps) qual (bO st) f b_ A outer s H E).hF (fX st) (m8 (eW K bY bB) m)) :
  hq P w K mg base gP (k+1) f fd (f5::ps) (t2 K bD ps.length fun es=>outI bD (m (jM bD es))):=fn.ok S Ji fun b_ A outer s H vs Q E hr hs=>by
 have hl:=Ji vs H Q E hs;obtain⟨G,bB,ht⟩:=QF hs;refine⟨_,h f b_ A outer s H E hr G bB,?_⟩;rw[Xr (by simpa using hl)];exact ht
theorem SG{P:Program}{w:World}{K:PySem.W.Frag}{mg:Str→Option Value}{base:Heap}{x qual bD f5:Str}{st:Stmt}{N ps:List Str}{k:Nat}{m:a0}{C f:Addr}{fd:FuncData}(fn:kH K x qual st f fd)(hO:f9 K bD C)(hc:i3 K C)(hm:Meth K C x f)(hb:Binds K fd (f5::ps) [])(S:cG N (f5::ps) (bO st))(h:∀(f:Addr)(b_:Value)(A:Around)(outer:List Env)(s:Shared)(H:ai)(E:c7),dt k (A.deeper (PyProof.Rows.envOfC qual (bO st) s.heap.objs.size f b_))→∀bY bB,i8 (eO gP P w K mg base N qual (bO st) f b_ A outer s H E).hF (eW K bY bB) (fX st) m) :
  nA P w K mg base bD x ps.length (k+1) (cQ N.length m):=by
 refine⟨C,f,fd,f5::ps,hO,hc,hm,fn.ok S wN fun b_ A outer s H vs Q E hr hs=>?_,hb⟩;obtain⟨G,ht⟩:=uW hs;exact⟨_,(h f b_ A outer s H E hr G H).1,ht⟩
section
variable{X:aM}{F:bt}{e a b c:Expr}{es:List Expr}{pos p:Pos}{m n:aD}{ma:aP}
noncomputable def m_:List D→R D
 |[.lst xs]=>.ok (.tup xs)
 |[.cy xs]=>.ok (.tup xs)
 |[.tup xs]=>.ok (.tup xs)
 |_=>.bad
theorem TV(hK:F.K=X.K):md F (fun xs H Q=>∃p ys,xs=[.ref p]∧((bP X.K H p ys∧∀l,H l=none→Q (.ref l) (upd H l (.tup ys)))∨(cS X.K H p ys∧Q (.ref p) H))) m_:=by
 intro σ ρ G H xs ds Q r al k;unfold m_ at k
 split at k
 ·obtain⟨v,rfl,bc⟩:=al.one;simp only[At]at bc;obtain⟨q,ys,rfl,aJ,fu⟩:=bc;refine⟨q,ys,rfl,.inl ⟨bP.of (r.aK.sub _ _ aJ),fun l hl=>?_⟩⟩;refine k (.ref l) _ _ (r.lay hl) (cb.lay r.aK.sub hl) ?_;simp only[At];exact⟨l,ys,rfl,eB,fu.mono (Sub.upd (r.aK.sub.gone hl))⟩
 ·obtain⟨v,rfl,bc⟩:=al.one;simp only[At]at bc;obtain⟨q,ys,rfl,aJ,fu⟩:=bc;refine⟨q,ys,rfl,.inl ⟨by rw[←hK];exact bP.mono r.aK.sub aJ,fun l hl=>?_⟩⟩;refine k (.ref l) _ _ (r.lay hl) (cb.lay r.aK.sub hl) ?_;simp only[At];exact⟨l,ys,rfl,eB,fu.mono (Sub.upd (r.aK.sub.gone hl))⟩
 ·obtain⟨v,rfl,bc⟩:=al.one;have Ly:=bc;simp only[At]at bc;obtain⟨q,ys,rfl,aJ,fu⟩:=bc;exact⟨q,ys,rfl,.inr ⟨cS.of (r.aK.sub _ _ aJ),k _ H G r (cb.refl _ _) Ly⟩⟩
 ·exact k.elim
theorem Nv(hm:X.mg "tuple"=none)(ha:gm X F [e] ma)(hK:F.K=X.K:=by rfl)(hg:cU X "tuple":=by rfl)(he:starEach [e] X.env=(false,eval e X.env)::starEach [] X.env:=by rfl)(hpl:(backTo pos (starEach [] X.env)).any (·.1)=false:=by rfl) :
  a_ X F (.Call (.Name "tuple" p) [e] [] pos) (bZ m_ ma):=yS L6 (TV hK) hm (by kernel_rfl) ha hg (by decide) (by decide) he hpl
end
end aB
namespace d6
open PySem PyProof.Rows
section
variable{prog:Program}{w:World}{A:Around}{E:Value→Shared→Prop}{s:Shared}
end
end d6
namespace aX
open PySem PySem.Spec PyProof.Rows
variable{X:aM}
end aX
namespace aB
open PySem PySem.Spec aX PyProof.Rows
section
variable{X:aM}{F:bt}{e a b c:Expr}{es:List Expr}{pos p:Pos}{m n:aD}{ma:aP}
instance(i j:Int):Decidable (IntMulOk i j):=by unfold IntMulOk;infer_instance
end
section
variable{X:aM}{F:bt}{e a b c:Expr}{es:List Expr}{pos p:Pos}{m n:aD}{ma:aP}
noncomputable def HA(i:Nat)(m:aD):aP:=fun ρ=>(ownAt i ρ).bind fun ds=>(m ρ).bind fun d=>match d with
 |.lst es=>if ds.length+es.length≤1000000 then .ok (ds++es)else .bad
 |_=>.bad
end
end aB
namespace aB
open PySem PySem.Spec aX
section
variable{X:aM}{F:bt}{e a b c o bC iter elt:Expr}{es:List Expr}{pos p:Pos}{m n:aD}{ma:aP}{st:Stmt}{m7:List Stmt}
theorem lB{bD f:Str}{aI:List Str}(k:rY X.K bD aI)(he:a7 X F o m)(hf:f∈aI:=by decide+kernel)(hK:F.K=X.K:=by rfl)(hb:attributeBase o f X.env (eval o X.env)=eval o X.env:=by rfl):a7 X F (.Attribute o f pos) (dC (eF bD f) m):=⟨aB.MZ (k:=k) (he:=he.1) (hf:=hf) (hK:=hK) (hb:=hb)⟩
theorem Kn {bD mt:Str} {n k:Nat} {mf:List D→R bW} {pl:Sem Bool} {apos:Pos} (c:nA X.prog X.w X.K X.mg X.base bD mt n k mf) (hr:dt k X.A) (he:a7 X F o m) (ha:e7 X F (e::es) ma) (hE:F.gS=fun _ _=>False:=by rfl) (hK:F.K=X.K:=by rfl) (hst:starEach (e::es) X.env=(false,eval e X.env)::starEach es X.env:=by rfl) (hpl:(backTo pos (starEach es X.env)).any (·.1)=false:=by rfl) (ht:eval (.Call (.Attribute o mt apos) (e::es) [] pos) X.env=(do
   let fK ←eval o X.env
   standAt apos.atName
   let(f,first) ←holding [fK] (getMethod fK mt pl)
   callWith pos f first (backTo pos (starEach (e::es) X.env)) (backToKw pos (keywordEach [] X.env))):=by rfl):a7 X F (.Call (.Attribute o mt apos) (e::es) [] pos) (kn bD mt n mf m ma):=⟨aB.Nb (c:=c) (hr:=hr) (he:=he.1) (ha:=ha.1) (hE:=hE) (hK:=hK) (hst:=hst) (hpl:=hpl) (ht:=ht)⟩
theorem KD(hu:X.A.units+64<cLine)(ha:a7 X F a m)(hb:a7 X F b n)(h1:behindInMarks .In b=false:=by with_unfolding_all rfl):e8 X F (.Compare a [.In] [b] pos) (aW (ag (fj true) m n)):=⟨aB.XW (hu:=hu) (ha:=ha.1) (hb:=hb.1) (h1:=h1)⟩
theorem Zn(hu:X.A.units+64<cLine)(ha:a7 X F a m)(hb:a7 X F b n)(h1:behindInMarks .NotIn b=false:=by with_unfolding_all rfl):e8 X F (.Compare a [.NotIn] [b] pos) (aW (ag (fj false) m n)):=⟨aB.XX (hu:=hu) (ha:=ha.1) (hb:=hb.1) (h1:=h1)⟩
theorem Zl(i:Nat){x:Str}{p q:Pos}(hN:X.N.Nodup)(hi:X.N[i]?=some x:=by rfl)(hx:Loc X.env.scope x:=by first|exact Or.inl rfl|exact Or.inr rfl)(hf:X.fn x=true∨X.env.scope.names.lookup x=some .local:=by first|exact .inl rfl|exact .inr rfl):fi X F (.Assign [.Name x p] (.Dict [] [] q) pos) (th i):=⟨aB.Wm (i:=i) (hN:=hN) (hi:=hi) (hx:=hx) (hf:=hf)⟩
theorem Ky(i:Nat){x:Str}{aN pos':Pos}{k v:Expr}{mk mv:aD}(hu:X.A.units+64<cLine)(hk:a7 X F k mk)(hv:a7 X F v mv)(hN:X.N[i]?=some x:=by rfl)(hvs:gU X.env.scope x:=by first|exact Or.inl rfl|exact Or.inr (Or.inl rfl)|exact Or.inr (Or.inr rfl))(hd:(x==("__debug__" :Str))=false:=by decide)(hcd:(x==("__classdict__" :Str))=false:=by decide)(hs:iS v=true:=by rfl):fi X F (.Assign [.Subscript (.Name x aN) k pos'] v pos) (mP i mk mv):=⟨aB.V_ (i:=i) (hu:=hu) (hk:=hk.1) (hv:=hv.1) (hN:=hN) (hvs:=hvs) (hd:=hd) (hcd:=hcd) (hs:=hs)⟩
theorem qj(h:a7 X F e m):fi X F (.Return (some e) pos) (hD m):=⟨aB.Wk (h:=h.1)⟩
theorem Kx{st:Stmt}:fi X F st rf:=⟨aB.V6 ⟩
theorem Y2(h:a7 X F e m):a7 X F e (n7 m):=⟨aB.MU (h:=h.1)⟩
theorem Y9{bD:Str}{n k:Nat}{mf:List D→R (List Str×List D)}(c:uu X.prog X.w X.K X.mg X.base bD n k mf)(hr:dt (k+1) X.A)(ha:e7 X F (e::es) ma)(hK:F.K=X.K:=by rfl)(hg:cU X bD:=by rfl)(hdb:(bD==("__debug__" :Str))=false:=by decide)(he:starEach (e::es) X.env=(false,eval e X.env)::starEach es X.env:=by rfl)(hpl:(backTo pos (starEach es X.env)).any (·.1)=false:=by rfl):a7 X F (.Call (.Name bD p) (e::es) [] pos) (rk bD n mf ma):=⟨aB.Na (c:=c) (hr:=hr) (ha:=ha.1) (hK:=hK) (hg:=hg) (hdb:=hdb) (he:=he) (hpl:=hpl)⟩
theorem Kr(hm:X.mg "tuple"=none)(ha:e7 X F [e] ma)(hK:F.K=X.K:=by rfl)(hg:cU X "tuple":=by rfl)(he:starEach [e] X.env=(false,eval e X.env)::starEach [] X.env:=by rfl)(hpl:(backTo pos (starEach [] X.env)).any (·.1)=false:=by rfl):a7 X F (.Call (.Name "tuple" p) [e] [] pos) (bZ m_ ma):=⟨aB.Nv (hm:=hm) (ha:=ha.1) (hK:=hK) (hg:=hg) (he:=he) (hpl:=hpl)⟩
structure uG(X:aM)(F:bt)(st:Stmt)(m:iB):Prop where
 o:dr X st (m8 F m)
structure uF(X:aM)(F:bt)(st:List Stmt)(m:iB):Prop where
 o:fS X st (m8 F m)
theorem Zk{m:iB}(h:uG X F st m):uF X F [st] m:=⟨AF h.1⟩
theorem ug{a b:iB}(h:uG X F st a)(k:uF X F m7 b):uF X F (st::m7) (lX a b):=⟨fS.imp (Iz h.1 k.1) Qr⟩
theorem Ku{c:Expr}{r:Stmt}{k:b4}(h:e8 X F c k):uG X F (.If c [r] [] pos) (n_ k):=⟨dr.imp (Iw h.1 (AF Iy) IA) P1⟩
theorem xi{bD f x:Str}{aI:List Str}{aN pos':Pos}(k:rY X.K bD aI)(he:a7 X F e m)(hf:f∈aI:=by decide+kernel)(hN:X.N[0]?=some x:=by rfl)(hv:gU X.env.scope x:=by first|exact Or.inl rfl|exact Or.inr (Or.inl rfl)|exact Or.inr (Or.inr rfl))(hd:(x==("__debug__" :Str))=false:=by decide)(hcd:(x==("__classdict__" :Str))=false:=by decide)(hs:iS e=true:=by rfl)(hK:F.K=X.K:=by rfl) :
  uG X F (.Assign [.Attribute (.Name x aN) f pos'] e pos) (jS bD f m):=⟨aB.Wc k he.1 hf hN hv hd hcd hs hK⟩
end
structure r6(K:PySem.W.Frag)(bD x qual:Str)(st:Stmt)(ps:List Str):Prop where
 ex:∃(C f:Addr)(fd:FuncData),f9 K bD C∧i3 K C∧Meth K C x f∧kH K x qual st f fd∧Binds K fd ps []
structure InK(K:PySem.W.Frag)(mg:Str→Option Value)(bD qual:Str)(st:Stmt)(ps:List Str):Prop where
 ex:∃(C f:Addr)(fd:FuncData),f9 K bD C∧uv K C f∧kH K "__init__" qual st f fd∧mg bD=some (.ref C)∧Binds K fd ps []
theorem CS{P:Program}{w:World}{K:PySem.W.Frag}{mg:Str→Option Value}{base:Heap}{x qual bD f5:Str}{st:Stmt}{N ps:List Str}{k:Nat}{m:a0}(d:r6 K bD x qual st (f5::ps))(S:cG N (f5::ps) (bO st))(h:∀(f:Addr)(b_:Value)(A:Around)(outer:List Env)(s:Shared)(H:ai)(E:c7),dt k (A.deeper (PyProof.Rows.envOfC qual (bO st) s.heap.objs.size f b_))→∀bY bB,i8 (eO gP P w K mg base N qual (bO st) f b_ A outer s H E).hF (eW K bY bB) (fX st) m) :
  nA P w K mg base bD x ps.length (k+1) (cQ N.length m):=by
 obtain⟨C,f,fd,h1,h2,h3,h4,h5⟩:=d.ex;exact SG h4 h1 h2 h3 h5 S h
theorem Zi{P:Program}{w:World}{K:PySem.W.Frag}{mg:Str→Option Value}{base:Heap}{qual bD f5:Str}{st:Stmt}{ps:List Str}{k:Nat}{m:iB}(d:InK K mg bD qual st (f5::ps))(S:cG (f5::ps) (f5::ps) (bO st))(h:∀(f:Addr)(b_:Value)(A:Around)(outer:List Env)(s:Shared)(H:ai)(E:c7),dt k (A.deeper (PyProof.Rows.envOfC qual (bO st) s.heap.objs.size f b_))→∀bY bB,uF (eO gP P w K mg base (f5::ps) qual (bO st) f b_ A outer s H E).hF (eW K bY bB) (fX st) m) :
  uu P w K mg base bD ps.length (k+1) (fun es=>outI bD (m (jM bD es))):=by
 obtain⟨C,f,fd,h1,h2,h3,h4,h5⟩:=d.ex;exact⟨C,f,fd,f5::ps,h1,h2,Qf h3 S fun f b_ A outer s H E hr bY bB=>(h f b_ A outer s H E hr bY bB).1,h4,h5⟩
end aB
namespace aB
open PySem PySem.Spec aX PyProof.Rows
section
variable{K:PySem.W.Frag}{G G' H H':ai}
theorem c1.nil:c1 K G H [] []:=by simp only[c1]
theorem c1.cons{t:T}{bS:List T}{v:V}{vs:List V}(h:dN K G H t v)(k:c1 K G H bS vs):c1 K G H (t::bS) (v::vs):=by simp only[c1];exact⟨v,vs,rfl,h,k⟩
theorem c1.length:∀{bS:List T}{vs:List V},c1 K G H bS vs→bS.length=vs.length
 |[],_,h=>by simp only[c1]at h;subst h;rfl
 |_::_,_,h=>by simp only[c1]at h;obtain⟨v,r,rfl,_,t⟩:=h;simp[c1.length t]
end
section
variable{F:bt}{G H:ai}{σ :aX.St}{ρ:ao}
end
section
variable{X:aM}{F:bt}{e a b c bC iter elt:Expr}{es:List Expr}{pos p:Pos}{m n:aD}{ma:aP}
def w6(i:Nat)(ρ:ao):R (List T):=match ρ[i]? with
 |some (.eA (.lst bS))=>.ok bS
 |_=>.bad
end
end aB
namespace aB
open PySem PySem.Spec aX
section
variable{F:bt}
end
section
variable{X:aM}{F:bt}{e a b c bC iter elt:Expr}{es:List Expr}{pos p:Pos}{m n:aD}{ma:aP}{scope:Scope}{N:List Str}
end
noncomputable def js(c:b4)(b:a0):Nat→ao→R e4
 |0,_=>.bad
 |n+1,ρ=>(c ρ).bind fun k=>if k=true then(b ρ).bind fun f=>match f with
  |.bq bo=>js c b n bo
  |.cK bo=>js c b n bo
  |.fG bo=>.ok (.bq bo)
  |f=>.ok f
  else .ok (.bq ρ)
def kq(c:b4)(b:a0):a0:=js c b 1000
section
variable{F:bt}
theorem Qw{c:b4}{b:a0}:hz (fp F (kq c b)) (JR (fL F c) (fp F b)):=by
 rintro cJ σ H ⟨G,ρ,r,h⟩;refine⟨fun m σ2 a9=>∃dj eC,Rel F dj a9 σ2 eC∧Sub G dj∧hT F dj cJ (js c b m eC),⟨1000,G,ρ,r,Sub.refl _,h⟩,?_⟩;rintro m σ2 a9 ⟨dj,eC,bh,s2,k2⟩;refine⟨dj,eC,bh,?_⟩;cases m with
 |zero=>exact k2.elim
 |succ n=>
  simp only[js]at k2;cases ec:c eC with
  |bad=>rw[ec]at k2;exact k2.elim
  |exc x=>rw[ec]at k2;exact k2
  |ok k=>
   rw[ec,R.bE]at k2;intro dk gn dX iv;cases k with
   |false=>rw[if_neg Bool.false_ne_true]at k2 ⊢;exact k2 σ2 gn dk dX iv.g
   |true=>
    rw[if_pos rfl]at k2 ⊢;refine⟨fun σ4 gG=>∃r1 iy,Rel F r1 gG σ4 iy∧Sub G r1∧hT F r1 cJ (js c b n iy),fun σ4 gG q=>⟨n,Nat.lt_succ_self _,q⟩,gn,eC,dX,?_⟩;cases bb:b eC with
    |bad=>rw[bb]at k2;exact k2.elim
    |exc x=>rw[bb]at k2;exact k2
    |ok f=>
     rw[bb,R.bE]at k2;cases f with
     |bq nr=>exact fun σ7 kI gf g_ cR=>⟨kI,nr,g_,s2.trans (iv.g.trans cR),hT.mono (iv.g.trans cR) k2⟩
     |cK nr=>exact fun σ7 kI gf g_ cR=>⟨kI,nr,g_,s2.trans (iv.g.trans cR),hT.mono (iv.g.trans cR) k2⟩
     |fG nr=>exact fun σ7 kI gf g_ cR=>k2 σ7 kI gf g_ (iv.g.trans cR)
     |dH d=>exact k2
     |jl ds=>exact k2
     |d4 t=>exact k2
end
section
variable{X:aM}{F:bt}{e a b c o:Expr}{es:List Expr}{pos p:Pos}{m n:aD}{ma:aP}
theorem CW{body:List Stmt}{vY:b4}{fC:a0}(hp:PassesOwn (model X.prog X.w) X.A X.env X.xe)(hc:e8 X F c vY)(hb:i8 X F body fC):fi X F (.While c body [] pos) (kq vY fC):=⟨dr.imp (Vd hp hc.1 hb.1) Qw⟩
noncomputable def findD(aH:List (List Key))(ds:List D)(cv:List Key):Option D:=((aH.zip ds).find? fun p=>decide (p.1=cv)).map (·.2)
theorem FL{K:PySem.W.Frag}{G:ai}(cv:List Key):∀{ds:List D}{xs:List (List Key×V)},aL K G ds (xs.map (·.2))→match findD (xs.map (·.1)) ds cv with
  |some d=>∃v,gj xs cv=some v∧At K G d v
  |none=>gj xs cv=none
 |[],xs,h=>by
  simp only[aL]at h;have:xs=[]:=by simpa using h
  subst this;rfl
 |d::ds,[],h=>by simp only[aL,List.map_nil]at h;obtain⟨v,r,e,_⟩:=h;cases e
 |d::ds,(k,v)::xs,h=>by
  simp only[aL,List.map_cons]at h;obtain⟨oA,r,e,a,t⟩:=h;cases e;have bQ:=FL (K:=K) (G:=G) cv (ds:=ds) (xs:=xs) t;unfold findD gj at bQ ⊢;simp only[List.map_cons,List.zip_cons_cons,List.find?_cons];by_cases hk:k=cv
  ·simp only[hk,decide_true,Option.map_some];exact⟨v,rfl,a⟩
  ·simp only[hk,decide_false];exact bQ
noncomputable def te(m n:aD):aD:=fun ρ=>(m ρ).bind fun d=>match d with
 |.bK aH ds=>(n ρ).bind fun k=>match n1 k with
  |some cv=>.ok ((findD aH ds cv).getD .non)
  |none=>.bad
 |_=>.bad
theorem PU:eK (cW F (te m n)) (JD (cW F m) (cW F n)):=by
 rintro σ H Q ⟨G,ρ,r,h⟩;unfold te at h;refine⟨G,ρ,r,?_⟩;cases av:m ρ with
 |bad=>rw[av]at h;exact h.elim
 |exc c=>rw[av]at h;exact h
 |ok dd=>
  rw[av,R.bE]at h;intro x H1 aT au s1 bT;cases dd with
  |bK aH ds=>
   simp only at h;simp only[At]at bT;obtain⟨a,xs,rfl,hg,rfl,al⟩:=bT;refine⟨a,rfl,.inr ⟨xs,.inl (au.aK.sub _ _ hg)⟩,aT,ρ,au,?_⟩;cases bb:n ρ with
   |bad=>rw[bb]at h;exact h.elim
   |exc c=>rw[bb]at h;exact h
   |ok o6=>
    rw[bb,R.bE]at h;intro y a9 dj bh s2 cH;cases g0:n1 o6 with
    |none=>rw[g0]at h;exact h.elim
    |some cv=>
     rw[g0]at h;simp only at h;obtain⟨q,rfl,aJ⟩:=zW g0 cH;refine⟨gj xs cv,jw.t (bh.aK.sub _ _ (s2.g _ _ hg)) (bh.aK.sub _ _ aJ),?_⟩;have f:=FL (K:=F.K) (G:=aT) cv al;cases hJ:findD (xs.map (·.1)) ds cv with
     |none=>rw[hJ]at f h;rw[show gj xs cv=none from f];exact h .non a9 dj bh (s1.trans s2) (by simp only[Option.getD_none,At])
     |some d=>rw[hJ]at f h;obtain⟨v,ev,bc⟩:=f;rw[ev];exact h v a9 dj bh (s1.trans s2) (bc.mono s2.g)
  |_=>exact h.elim
theorem Y4 {apos bM:Pos} (hu:X.A.units+64<cLine) (ho:a7 X F o m) (he:a7 X F e n) (h1:attributeBase o "get" X.env (eval o X.env)=eval o X.env:=by rfl)(h2:((backTo bM (starEach [e] X.env)).all (fun x=>!x.1)&&(backToKw bM (keywordEach [] X.env)).all (fun x=>x.1.isSome)
  &&decide (([e]:List Expr).length+([]:List Keyword).length+(if([]:List Keyword).isEmpty then 0 else 1)<30))=true:=by rfl) (h3:(apos.endLine==bM.line)=true:=by rfl) (h4:backTo bM (starEach [e] X.env)=[(false,eval e X.env)]:=by rfl) :
  a7 X F (.Call (.Attribute o "get" apos) [e] [] bM) (te m n):=⟨a3.imp (Ut (by omega) ho.1 he.1 ⟨h1,h2,h3,h4⟩) PU⟩
noncomputable def Vv(F:bt):V→List V→ai→cP→Prop:=fun x vs H Q=>∃G d1 ct p y ds xs j,Sub G H∧x=.ref p∧vs=[y]∧At F.K G d1 y∧gJ F.K G ct p false ds xs∧okN 7 d1=true∧ds.all (okN 7)=true∧ds.length<1000000∧ds.findIdx? (fun z=>bu z d1)=some j∧Q (.int (j:Nat)) H
theorem Ln{pins:List (Addr×Obj)}{σ :aX.St}{G H:ai}{s:Shared}(I:Inv X pins σ H s)(aY:Sub G H){d1:D}{ds:List D}{xs:List V}{its:List Value}(q:aL X.K G ds xs)(r:Vals xs its)(o:ds.all (okN 7)=true){i:Nat}{d:D}{u:Value}(aq:ds[i]?=some d)(az:its[i]?=some u):kO X.K G d1 u=bu d d1:=by
 obtain⟨v,ev,bc⟩:=q.get aq;have ho:okN 7 d=true:=List.all_eq_true.mp o d (List.mem_of_getElem? aq);have bV:RelV v u:=by obtain⟨iu,kS,ed⟩:=r.get ev;rw[az]at kS;cases kS;exact ed
 exact xW I aY ho ⟨v,bc,bV⟩
theorem SU(hK:F.K=X.K)(hu:X.A.units+64<cLine):xN X "list.index" (Vv F):=by
 intro pins s σ H x vs v us Q I bw bV h;obtain⟨G,d1,ct,p,y,ds,xs,j,aY,rfl,rfl,a1,gB,cA,b3,hl,cg,q⟩:=h;rw[hK]at a1 gB;cases bw;obtain⟨u,rfl,ed⟩:=vals1 bV;obtain⟨its,au,t1,dU⟩:=gB.heap I aY;have hm:=vZ I aY (A:=X.A.in1) (d1:=d1) (by simp only[in1_units];omega) cA a1 ed gB.gW au b3;obtain⟨⟨cls,dict,data,slots⟩,g1,g2,nn,g3⟩:=dU rfl;simp only at g2 g3;subst g2 g3;obtain⟨fB,aq,az⟩:=List.findIdx?_eq_some_iff_getElem.mp cg;have sR:its.length=ds.length:=by rw[←au.length,←gB.gW.length]
 have O_:j<its.length:=by omega
 have DA:∀(i:Nat)(h:i<ds.length),kO X.K G d1 (its[i]'(by omega))=bu ds[i] d1:=fun i h=>Ln I aY gB.gW au b3 (List.getElem?_eq_getElem h) (List.getElem?_eq_getElem (by omega));have fZ:s.TypeIs (.ref p) "list":=⟨_,g1,rfl⟩;have Pw:(j:Int)<2^63-1:=by
  have:(j:Int)<1000000:=by omega
  omega
 refine call_meets PySem.F.slot_list_index fZ PySem.F.entry_list_index (PySem.F.args_list_index_2 _ _) (SeqAt.list_indexAt p its.toArray nn dict slots u (kO X.K G d1) j (by simpa using O_) Pw ?_ ?_) ⟨g1,fun w hw=>hm w (by simpa using hw),?_⟩
 ·have:=DA j fB;rw[aq]at this;simpa using this
 ·intro k hk O7;have z:=DA k (by omega);have b7:=az k O7;rw[Bool.not_eq_true]at b7;rw[b7]at z;simpa using z
 ·exact⟨.int (j:Nat),H,I.tok _,⟨_,rfl⟩,q⟩
noncomputable def q1:D→List D→R D
 |.lst ds,[d]=>if okN 7 d=true∧ds.all (okN 7)=true∧ds.length<1000000 then match ds.findIdx? (fun z=>bu z d)with
  |some j=>.ok (.int (j:Nat))
  |none=>.bad
  else .bad
 |_,_=>.bad
noncomputable def lW(m:aD)(ma:aP):aD:=fun ρ=>(m ρ).bind fun d=>match d with
 |.lst ds=>(ma ρ).bind fun es=>q1 (.lst ds) es
 |_=>.bad
theorem CN {apos bM:Pos} (hu:X.A.units+64<cLine) (ho:a7 X F o m) (ha:e7 X F [e] ma) (hK:F.K=X.K:=by rfl)(hbase:attributeBase o "index" X.env (eval o X.env)=eval o X.env:=by rfl)(hfew:((backTo bM (starEach [e] X.env)).all (fun x=>!x.1)&&(backToKw bM (keywordEach [] X.env)).all (fun x=>x.1.isSome)
    &&decide (([e]:List Expr).length+([]:List Keyword).length+(if([]:List Keyword).isEmpty then 0 else 1)<30))=true:=by rfl)
  (hline:(apos.endLine==bM.line)=true:=by rfl) (hs:starEach [e] X.env=(false,eval e X.env)::starEach [] X.env:=by rfl) (hplain:(backTo bM (starEach [] X.env)).any (·.1)=false:=by rfl) :
  a7 X F (.Call (.Attribute o "index" apos) [e] [] bM) (lW m ma):=by
 refine⟨a3.imp (pU PySem.F.plainAttrs_list PySem.F.slot_list_index PySem.F.type_list_index (SU (F:=F) hK hu) ho.1 ha.1 hbase hfew hline hs hplain) ?_⟩;rintro σ H Q ⟨G,ρ,r,h⟩;unfold lW at h;refine⟨G,ρ,r,?_⟩;cases av:m ρ with
 |bad=>rw[av]at h;exact h.elim
 |exc c=>rw[av]at h;exact h
 |ok dd=>
  rw[av,R.bE]at h;intro x H1 aT au s1 bT;cases dd with
  |lst ds=>
   simp only at h;simp only[At]at bT;obtain⟨p,xs,rfl,hg,al⟩:=bT;refine⟨.inl ⟨rfl,xs,bP.of (au.aK.sub _ _ hg)⟩,aT,ρ,au,?_⟩;cases bb:ma ρ with
   |bad=>rw[bb]at h;exact h.elim
   |exc c=>rw[bb]at h;exact h
   |ok es=>
    rw[bb,R.bE]at h;intro vs a9 dj bh s2 cH;unfold q1 at h
    split at h
    ·rename_i o7 d aq;cases aq
     split at h
     ·rename_i hc
      split at h
      ·rename_i j jc;obtain⟨y,rfl,bc⟩:=cH.one;exact⟨dj,d,.lst ds,p,y,ds,xs,j,bh.aK.sub,rfl,rfl,bc,.lst (s2.g _ _ hg) (al.mono s2.g),hc.1,hc.2.1,hc.2.2,jc,h _ a9 dj bh (s1.trans s2) (by simp only[At])⟩
      ·exact h.elim
     ·exact h.elim
    ·exact h.elim
  |_=>exact h.elim
end
def CK(K:PySem.W.Frag):c7→Str→ai→Prop:=fun E c H=>∃C,f9 K c C∧∀a,H a=none→E (.ref C) (some a) H
def ke(K:PySem.W.Frag)(G H:ai)(E:c7):bt:=⟨K,G,H,CK K E⟩
theorem Rel.kb{F F':bt}{G H:ai}{σ :aX.St}{ρ:ao}(r:Rel F G H σ ρ)(hK:F'.K=F.K)(h0:F'.bY=F.bY)(h1:F'.bB=F.bB):Rel F' G H σ ρ:=
 r.over hK ⟨r.aK.sub,by rw[h0];exact r.aK.fy,by rw[h1];exact r.aK.hh,fun b hb=>by rw[h1]at hb;rw[h0];exact r.aK.new b hb⟩ (Sub.refl _) fun a ha=>⟨rfl,(r.foot ha).2.1,by rw[h1];exact(r.foot ha).2.2⟩
def rA(m:b4):b4:=fun ρ=>gy (m ρ)
def tJ(m:a0):a0:=fun ρ=>gy (m ρ)
def pQ(m:aP):aP:=fun ρ=>gy (m ρ)
section
variable{K:PySem.W.Frag}{bY bB:ai}{E:c7}
theorem R2{m:b4}:mn (fL (ke K bY bB E) (rA m)) (fL (eW K bY bB) m):=by
 rintro σ H Q ⟨G,ρ,r,h⟩;unfold rA at h;refine⟨G,ρ,r.kb rfl rfl rfl,?_⟩;cases e:m ρ with
 |bad=>rw[e]at h;exact h.elim
 |exc c=>rw[e]at h;exact h.elim
 |ok b=>rw[e]at h;exact fun H' G' bf u=>h H' G' (bf.kb rfl rfl rfl) u
theorem R0{m:aP}:qy (ei (ke K bY bB E) (pQ m)) (ei (eW K bY bB) m):=by
 rintro σ H Q ⟨G,ρ,r,h⟩;unfold pQ at h;refine⟨G,ρ,r.kb rfl rfl rfl,?_⟩;cases e:m ρ with
 |bad=>rw[e]at h;exact h.elim
 |exc c=>rw[e]at h;exact h.elim
 |ok b=>rw[e]at h;exact fun vs H' G' bf u a=>h vs H' G' (bf.kb rfl rfl rfl) u a
theorem eL.kb{F F':bt}{G H:ai}(k:eL F G H)(h0:F'.bY=F.bY)(h1:F'.bB=F.bB):eL F' G H:=⟨k.sub,by rw[h0];exact k.fy,by rw[h1];exact k.hh,fun b hb=>by rw[h1]at hb;rw[h0];exact k.new b hb⟩
theorem R1{m:a0}:hz (fp (ke K bY bB E) (tJ m)) (fp (eW K bY bB) m):=by
 rintro cJ σ H ⟨G,ρ,r,h⟩;unfold tJ at h;refine⟨G,ρ,r.kb rfl rfl rfl,?_⟩;cases e:m ρ with
 |bad=>rw[e]at h;exact h.elim
 |exc c=>rw[e]at h;exact h.elim
 |ok f=>
  rw[e]at h;cases f with
  |bq bo=>exact fun σ' G' H' bf s=>h σ' G' H' (bf.kb rfl rfl rfl) s
  |fG bo=>exact fun σ' G' H' bf s=>h σ' G' H' (bf.kb rfl rfl rfl) s
  |cK bo=>exact fun σ' G' H' bf s=>h σ' G' H' (bf.kb rfl rfl rfl) s
  |dH d=>exact fun v G' H' k a=>h v G' H' (k.kb rfl rfl) a
  |jl ds=>exact fun a xs G' H' k h1 h2 h3 h4=>h a xs G' H' (k.kb rfl rfl) h1 h2 h3 h4
  |d4 t=>exact fun v G' H' k q=>h v G' H' (k.kb rfl rfl) ⟨q.at_,q.aU,q.own⟩
end
section
variable{X:aM}{e c:Expr}{es:List Expr}{st:Stmt}{pos p:Pos}{K:PySem.W.Frag}{bY bB:ai}{E:c7}{mt:b4}{ms:a0}{ma:aP}
theorem Yu{t:TT}(h:eU X.hF e t):eU X e t:=fun pins s σ H Q I q=>wpAny_mono (h pins s σ H Q (I.j1 _) q) (fun _ s'⟨H',cq,z⟩=>⟨H',cq.jo,z⟩) fun _ _ z=>z.elim
theorem Ys{t:er}(h:eT X.hF es t):eT X es t:=fun pos pins s σ H Q I q=>wpAny_mono (h pos pins s σ H Q (I.j1 _) q) (fun _ s'⟨vs,H',cq,r,z⟩=>⟨vs,H',cq.jo,r,z⟩) fun _ _ z=>z.elim
theorem Yt{t:eM}(h:dr X.hF st t):dr X st t:=fun pins s σ H D I q=>wpAny_mono (h pins s σ H D (I.j1 _) q) (fun f s' z=>by
 cases f with
 |next=>obtain⟨σ',H',cq,z⟩:=z;exact⟨σ',H',cq.jo,z⟩
 |brk=>obtain⟨σ',H',cq,z⟩:=z;exact⟨σ',H',cq.jo,z⟩
 |cont=>obtain⟨σ',H',cq,z⟩:=z;exact⟨σ',H',cq.jo,z⟩
 |ret v=>obtain⟨x,σ',H',cq,z⟩:=z;exact⟨x,σ',H',cq.jo,z⟩) fun _ _ z=>z.elim
theorem Kt(h:e8 X.hF (eW K bY bB) e mt):e8 X (ke K bY bB E) e (rA mt):=⟨fun pins s σ H Q I q=>Yu h.1 pins s σ H Q I (R2 σ H Q q)⟩
theorem CR(h:e7 X.hF (eW K bY bB) es ma):e7 X (ke K bY bB E) es (pQ ma):=⟨fun pos pins s σ H Q I q=>Ys h.1 pos pins s σ H Q I (R0 σ H Q q)⟩
theorem Zj(h:fi X.hF (eW K bY bB) st ms):fi X (ke K bY bB E) st (tJ ms):=⟨fun pins s σ H D I q=>Yt h.1 pins s σ H D I (R1 D σ H q)⟩
end
structure qz(P:Program)(w:World)(K:PySem.W.Frag)(mg:Str→Option Value)(base:Heap)(x:Str)(n k:Nat)(mf:List D→R bW):Prop where
 ex:∃(f:Addr)(fd:FuncData)(ps:List Str),ps.length=n∧hq P w K mg base (gQ P w) k f fd ps (ou K n (CK K) mf)∧mg x=some (.ref f)∧PySem.W.keepIn K (.ref f)=true∧Binds K fd ps []
structure xB(K:PySem.W.Frag)(mg:Str→Option Value)(c:Str):Prop where
 ex:∃C,f9 K c C∧mg c=some (.ref C)∧PySem.W.excIn K C [.type "ValueError",.type "Exception",.type "BaseException",.type "object"] "ValueError.__new__"=true
def z9(c:Str):a0:=fun _=>.exc c
section
variable{P:Program}{w:World}{K:PySem.W.Frag}{mg:Str→Option Value}{base:Heap}{N:List Str}{qual:Str}{scope:Scope}{f:Addr}{cd:Value}{A:Around}{outer:List Env}{s0:Shared}{hy:ai}{E:c7}{bY bB:ai}
theorem Kz{x:Str}{np bM pos uY:Pos}{m:Str}{j:Nat}(k:xB K mg x)(hg:cU (eO (gQ P w) P w K mg base N qual scope f cd A outer s0 hy E) x:=by rfl)(hd:(x==("__debug__" :Str))=false:=by decide) :
  fi (eO (gQ P w) P w K mg base N qual scope f cd A outer s0 hy E) (ke K bY bB E) (.Raise (some (.Call (.Name x np) [.Constant (.str m) j uY] [] bM)) none pos) (z9 x):=by
 obtain⟨C,h1,h2,h3⟩:=k.ex;refine⟨fun pins s σ H D I q=>Vc (X:=eO (gQ P w) P w K mg base N qual scope f cd A outer s0 hy E) PySem.F.excBase_ValueError h3 h2 rfl hg hd pins s σ H D I ?_⟩;obtain⟨G,ρ,r,h⟩:=q;obtain⟨lE,bN,cZ⟩:=(show km (ke K bY bB E) x from h) G H r.aK;have:lE=C:=by unfold f9 at bN h1;rw[h1]at bN;cases bN;rfl
 subst this;exact Za cZ
theorem CM{x:Str}{n k:Nat}{mf:List D→R bW}{e:Expr}{es:List Expr}{ma:aP}{pos p:Pos}(c:qz P w K mg base x n k mf)(hr:dt k (eO (gQ P w) P w K mg base N qual scope f cd A outer s0 hy E).A)(ha:e7 (eO (gQ P w) P w K mg base N qual scope f cd A outer s0 hy E) (ke K bY bB E) (e::es) ma)(hg:cU (eO (gQ P w) P w K mg base N qual scope f cd A outer s0 hy E) x:=by rfl)(hdb:(x==("__debug__" :Str))=false:=by decide)(he:starEach (e::es) (eO (gQ P w) P w K mg base N qual scope f cd A outer s0 hy E).env=(false,eval e (eO (gQ P w) P w K mg base N qual scope f cd A outer s0 hy E).env)::starEach es (eO (gQ P w) P w K mg base N qual scope f cd A outer s0 hy E).env:=by rfl)(hpl:(backTo pos (starEach es (eO (gQ P w) P w K mg base N qual scope f cd A outer s0 hy E).env)).any (·.1)=false:=by rfl) :
  a7 (eO (gQ P w) P w K mg base N qual scope f cd A outer s0 hy E) (ke K bY bB E) (.Call (.Name x p) (e::es) [] pos) (bR n mf ma):=by
 obtain⟨EJ,fd,ps,aC,gL,hm,hk,hb⟩:=c.ex;exact⟨a3.imp (wj (X:=eO (gQ P w) P w K mg base N qual scope f cd A outer s0 hy E) gL hr hg hm hk hb .nil Uj ha.1 hdb he hpl) (GJ (F:=ke K bY bB E) (xe:=CK K) (E:=E) rfl)⟩
end
theorem CJ{P:Program}{w:World}{K:PySem.W.Frag}{mg:Str→Option Value}{base:Heap}{x:Str}{st:Stmt}{N ps:List Str}{k:Nat}{m:a0}(d:c6 K mg x st ps)(S:cG N ps (bO st))(h:∀(f:Addr)(b_:Value)(A:Around)(outer:List Env)(s:Shared)(H:ai)(E:c7),dt k (A.deeper (PyProof.Rows.envOfC x (bO st) s.heap.objs.size f b_))→∀bY bB,i8 (eO (gQ P w) P w K mg base N x (bO st) f b_ A outer s H E) (ke K bY bB E) (fX st) m) :
  qz P w K mg base x ps.length (k+1) (cQ N.length m):=by
 obtain⟨f,fd,fn,hm,hb⟩:=d.ex;refine⟨f,fd,ps,rfl,?_,hm,fn.aK,hb⟩;obtain⟨e_,dO,cM,doc,pm,an,b_,cK,lb,rfl,lk,hcd⟩:=fn.ex;refine FO lk hcd S wN fun A outer s H vs Q E hr hs=>?_;obtain⟨G,ht⟩:=uW hs;exact⟨_,(h f b_ A outer s H E hr G H).1,ht⟩
noncomputable def pB(n:Nat)(mf:List D→R bW)(m:aP):aD:=fun ρ=>(m ρ).bind fun ds=>if ds.length=n then(gy (mf ds)).bind iU else .bad
section
variable{X:aM}{F:bt}{e:Expr}{es:List Expr}{pos p:Pos}{ma:aP}
theorem Uk{P:Program}{w:World}:Passes (gQ P w) X (fun _ _ _=>False):=fun _ _ _ _ _ _ _ h=>by obtain⟨_,_,_,_,_,_,_,z⟩:=h;exact z.elim
theorem PO{n:Nat}{mf:List D→R bW}{m:aP}{xe:c7→Str→ai→Prop}{E:c7}:eK (cW F (pB n mf m)) (wZ (ou F.K n xe mf) [] E (ei F m)):=by
 rintro σ H Q ⟨G,ρ,r,h⟩;unfold pB at h;refine⟨G,ρ,r,?_⟩;cases av:m ρ with
 |bad=>rw[av]at h;exact h.elim
 |exc c=>rw[av]at h;exact h
 |ok ds=>
  rw[av,R.bE]at h;intro vs H1 aT au s1 a;by_cases aC:ds.length=n
  ·rw[if_pos aC]at h;rw[List.append_nil];refine⟨aT,ds,au.aK.sub,a,aC,?_⟩;cases e:mf ds with
   |bad=>rw[e]at h;exact h.elim
   |exc c=>rw[e]at h;exact h.elim
   |ok t=>
    rw[e]at h;have h:ik F G H σ ρ Q (iU t):=h;cases t with
    |v d=>exact fun v G' H' k bc=>h v H' G' (eL.of au k) (s1.trans ⟨k.fy,k.hh,k.new⟩) bc
    |o es=>intro p xs G' H' k h1 h2 h3 h4;have h2:H1 p=none:=h2;have bf:=eL.of au k;have no:¬dM H' σ ρ p:=dM.fresh au k.hh h2;refine h (.ref p) H' _ (bf.take h3 h1 (au.aK.hh.gone h2) no) ((s1.trans ⟨k.fy,k.hh,k.new⟩).put (s1.h.gone h2) h1) ?_;simp only[At];exact⟨p,xs,rfl,eB,h4.mono (Sub.upd h1)⟩
    |t t=>intro v G' H' k q;obtain⟨a1,a2,eE⟩:=(eL.of au k).Cg (F':=⟨F.K,aT,H1,xe E⟩) rfl q (s1.trans ⟨k.fy,k.hh,k.new⟩) fun b hb=>⟨s1.h.gone (q.own b hb).2,au.aK.hh.gone (q.own b hb).2,dM.fresh au k.hh (q.own b hb).2⟩;exact h v H' _ a1 a2 eE
  ·rw[if_neg aC]at h;exact h.elim
theorem CL{x:Str}{n k:Nat}{mf:List D→R bW}(c:qz X.prog X.w X.K X.mg X.base x n k mf)(hr:dt k X.A)(ha:e7 X F (e::es) ma)(hK:F.K=X.K:=by rfl)(hg:cU X x:=by rfl)(hdb:(x==("__debug__" :Str))=false:=by decide)(he:starEach (e::es) X.env=(false,eval e X.env)::starEach es X.env:=by rfl)(hpl:(backTo pos (starEach es X.env)).any (·.1)=false:=by rfl):a7 X F (.Call (.Name x p) (e::es) [] pos) (pB n mf ma):=by obtain⟨f,fd,ps,aC,gL,hm,hk,hb⟩:=c.ex;refine⟨a3.imp (wj gL hr hg hm hk hb .nil Uk ha.1 hdb he hpl) ?_⟩;rw[←hK];exact PO
end
end aB
namespace aX
open PySem PySem.Spec PySem.Calls PyProof.Rows PySem.W PySem.Builtin PySem.Builtin.ObjectAttr PySem.Builtin.Getset_descriptor
section
variable{prog:Program}{w:World}{A:Around}{E:Value→Shared→Prop}{s:Shared}{K:Frag}{a D:Addr}
end
end aX
namespace aB
open PySem PySem.Spec aX
section
variable{X:aM}{F:bt}{a:Expr}{pos p:Pos}{m:aD}
end
noncomputable def pW:D→D→R D
 |.lst xs,.int k=>if 0≤k∧k≤1000∧xs.length≤100 then .ok (.lst (List.replicate k.toNat xs).flatten)else .bad
 |_,_=>.bad
theorem aL.rep{K:PySem.W.Frag}{G:ai}{ds:List D}{xs:List V}(q:aL K G ds xs):∀n:Nat,aL K G (List.replicate n ds).flatten (List.replicate n xs).flatten
 |0=>by simpa using aL.nil
 |n+1=>by rw[List.replicate_succ,List.replicate_succ,List.flatten_cons,List.flatten_cons];exact q.append (aL.rep q n)
section
variable{X:aM}{F:bt}{a b:Expr}{pos p:Pos}{m n:aD}
theorem TQ:fQ F IM pW:=by
 intro σ ρ G H x y a5 fx Q r bT cH k;unfold pW at k
 split at k
 ·rename_i xs j
  split at k
  ·rename_i hc;simp only[At]at bT cH;obtain⟨l,vs,rfl,hl,al⟩:=bT;refine⟨l,j,vs,rfl,cH,r.aK.sub _ _ hl,by omega,by omega,?_,fun q aJ=>?_⟩
   ·rw[←al.length];have h1:j.toNat≤1000:=by omega
    exact Nat.le_trans (Nat.mul_le_mul hc.2.2 h1) (by decide)
   ·refine k (.ref q) _ _ (r.lay aJ) (cb.lay r.aK.sub aJ) ?_;simp only[At];exact⟨q,_,rfl,eB,(al.mono (Sub.upd (r.aK.sub.gone aJ))).rep j.toNat⟩
  ·exact k.elim
 ·exact k.elim
theorem Zc(ha:a7 X F a m)(hb:a7 X F b n):a7 X F (.BinOp a .Mult b pos) (ag pW m n):=⟨o8 T8 TQ ha.1 hb.1⟩
noncomputable def HB(i:Nat)(n:aD):aD:=fun ρ=>(ownAt i ρ).bind fun ds=>(n ρ).bind fun k=>match k with
 |.int j=>match gr ds j with
  |some d=>.ok d
  |none=>.bad
 |_=>.bad
end
end aB
namespace eD
open PySem PySem.SetTable
theorem yF(xs:Array Nat)(j:Nat)(hs:xs.toList.Pairwise (· <·)):∀fuel lo hi,hi≤lo+fuel→lo≤hi→hi≤xs.size→(∀k,k<lo→xs.getD k j<j)→(∀k,hi≤k→k<xs.size→j≤xs.getD k j)→
  below.go xs j fuel lo hi≤xs.size∧(∀k,k<below.go xs j fuel lo hi→xs.getD k j<j)∧(∀k,below.go xs j fuel lo hi≤k→k<xs.size→j≤xs.getD k j)
 |0,lo,hi,h1,h2,h3,h4,h5=>by
  have e:lo=hi:=by omega
  subst e;exact⟨h3,h4,h5⟩
 |fuel+1,lo,hi,h1,h2,h3,h4,h5=>by
  have mono:∀a b,a≤b→b<xs.size→xs.getD a j≤xs.getD b j:=by
   intro a b sL hb;rcases Nat.eq_or_lt_of_le sL with rfl|sL
   ·exact Nat.le_refl _
   have:=List.pairwise_iff_getElem.mp hs a b (by simp;omega) (by simpa using hb) sL;simp only[Array.getElem_toList]at this;rw[Array.getD_eq_getD_getElem?,Array.getD_eq_getD_getElem?,Array.getElem?_eq_getElem (by omega),Array.getElem?_eq_getElem hb];exact Nat.le_of_lt this
  unfold below.go;by_cases h:lo<hi
  ·rw[if_pos h];dsimp only;by_cases q:xs.getD ((lo+hi)/2) j<j
   ·rw[if_pos q];refine yF xs j hs fuel _ hi (by omega) (by omega) h3 (fun k hk=>?_) h5;exact Nat.lt_of_le_of_lt (mono k ((lo+hi)/2) (by omega) (by omega)) q
   ·rw[if_neg q];refine yF xs j hs fuel lo _ (by omega) (by omega) (by omega) h4 fun k hk jg=>?_;exact Nat.le_trans (Nat.not_lt.mp q) (mono _ k hk jg)
  ·rw[if_neg h];have e:lo=hi:=by omega
   subst e;exact⟨h3,h4,h5⟩
theorem DQ{xs:Array Nat}(hs:xs.toList.Pairwise (· <·))(j:Nat):below xs j≤xs.size∧(∀y∈xs.toList.take (below xs j),y<j)∧(∀y∈xs.toList.drop (below xs j),j≤y):=by
 obtain⟨a,b,c⟩:=yF xs j hs xs.size 0 xs.size (by omega) (by omega) (Nat.le_refl _) (fun k hk=>absurd hk (Nat.not_lt_zero _)) (fun k h1 h2=>absurd h2 (by omega));refine⟨a,fun y bX=>?_,fun y bX=>?_⟩
 ·obtain⟨k,hk,rfl⟩:=List.getElem_of_mem bX;have kV:k<below xs j∧k<xs.size:=by simpa[List.length_take,Nat.lt_min]using hk
  have:=b k kV.1;rw[Array.getD_eq_getD_getElem?,Array.getElem?_eq_getElem kV.2]at this;simpa using this
 ·obtain⟨k,hk,rfl⟩:=List.getElem_of_mem bX;have kV:below xs j+k<xs.size:=by simp at hk;omega
  have:=c (below xs j+k) (Nat.le_add_right _ _) kV;rw[Array.getD_eq_getD_getElem?,Array.getElem?_eq_getElem kV]at this;simpa using this
theorem vC{α:Type}(xs:Array α)(p:Nat)(x:α):(insertAt xs p x).toList=xs.toList.take p++x::xs.toList.drop p:=by unfold insertAt;simp[Array.toList_extract,List.extract_eq_take_drop];exact List.take_of_length_le (by simp)
structure Tab(t:SetTable)(n:Nat):Prop where
 sk:t.dummies= #[]
 l2:t.place.size=n
 rF:t.place.toList.Pairwise (· <·)
 le:∀j∈t.place.toList,j≤t.mask
theorem slot_of{t:SetTable}{n:Nat}(T:Tab t n)(j:Nat):(∃i,t.slot j=.live i∧t.place.toList[i]?=some j)∨(t.slot j=.empty∧j∉t.place.toList):=by
 obtain⟨a,b,c⟩:=DQ T.rF j;unfold slot;dsimp only;by_cases h:t.place[below t.place j]?=some j
 ·left
  refine⟨below t.place j,?_,by simpa using h⟩;rw[h];simp
 ·right
  constructor
  ·have:(t.place[below t.place j]?==some j)=false:=by simpa using h
   rw[this,T.sk];simp[has]
  ·intro m;have c0:=m;rw[←List.take_append_drop (below t.place j) t.place.toList]at c0;rcases List.mem_append.mp c0 with c0|c0
   ·exact absurd (b j c0) (Nat.lt_irrefl _)
   ·cases hd:t.place.toList.drop (below t.place j)with
    |nil=>rw[hd]at c0;cases c0
    |cons y r=>
     have bX:t.place[below t.place j]?=some y:=by
      have:(t.place.toList.drop (below t.place j))[0]?=some y:=by rw[hd];rfl
      rw[List.getElem?_drop]at this;simpa using this
     have hr:=T.rF;rw[←List.take_append_drop (below t.place j) t.place.toList,hd]at hr;have hr:=(List.pairwise_append.mp hr).2.1;rw[hd]at c0;rcases List.mem_cons.mp c0 with rfl|c0
     ·exact h bX
     ·have h1:=(List.pairwise_cons.mp hr).1 j c0;have h2:=c y (by rw[hd];simp);omega
theorem Jg{t:SetTable}{n:Nat}(T:Tab t n){j:Nat}(m:j∈t.place.toList):∃i,t.slot j=.live i∧t.place.toList[i]?=some j:=by
 rcases slot_of T j with h|h
 ·exact h
 ·exact absurd m h.2
theorem Xk{t:SetTable}{n:Nat}(T:Tab t n){j:Nat}(m:j∉t.place.toList):t.slot j=.empty:=by
 rcases slot_of T j with⟨i,h,e⟩|h
 ·exact absurd (List.mem_of_getElem? e) m
 ·exact h.1
theorem Vl{t:SetTable}{n:Nat}(T:Tab t n){j:Nat}(m:j∉t.place.toList)(cg:j≤t.mask):∃p,(t.put j).2=p∧p≤n∧Tab (t.put j).1 (n+1)∧(t.put j).1.place.toList=t.place.toList.take p++j::t.place.toList.drop p∧(t.put j).1={ t with place:=(t.put j).1.place }:=by
 obtain⟨a,b,c⟩:=DQ T.rF j;have e:(t.put j).1.place.toList=t.place.toList.take (below t.place j)++j::t.place.toList.drop (below t.place j):=by unfold put;exact vC _ _ _
 have ek:(t.put j).1.dummies= #[]:=by unfold put;simp[has,T.sk]
 have em:(t.put j).1.mask=t.mask:=rfl;refine⟨below t.place j,rfl,T.l2▸a,⟨ek,?_,?_,?_⟩,e,?_⟩
 ·have:(t.put j).1.place.toList.length=n+1:=by
    rw[e,List.length_append,List.length_cons,List.length_take,List.length_drop];have:=T.l2;simp only[Array.length_toList];omega
  simpa using this
 ·rw[e];have hr:=T.rF;rw[←List.take_append_drop (below t.place j) t.place.toList]at hr;obtain⟨au,bh,dX⟩:=List.pairwise_append.mp hr;refine List.pairwise_append.mpr ⟨au,List.pairwise_cons.mpr ⟨fun y bX=>?_,bh⟩,fun x hx y bX=>?_⟩
  ·rcases Nat.eq_or_lt_of_le (c y bX)with q|q
   ·exact absurd (q▸List.mem_of_mem_drop bX) m
   ·exact q
  ·rcases List.mem_cons.mp bX with rfl|bX
   ·exact b x hx
   ·exact dX x hx y bX
 ·intro y bX;rw[em];rw[e]at bX;rcases List.mem_append.mp bX with bX|bX
  ·exact T.le y (List.mem_of_mem_take bX)
  ·rcases List.mem_cons.mp bX with rfl|bX
   ·exact cg
   ·exact T.le y (List.mem_of_mem_drop bX)
 ·have yT:(t.put j).1.dummies=t.dummies:=ek.trans T.sk.symm;show(t.put j).1=_;have:(t.put j).1={ t with place:=(t.put j).1.place,dummies:=(t.put j).1.dummies }:=rfl;rw[this,yT]
noncomputable def j9(mask:Nat)(p:Probe):Probe:=
 if p.more>0 then{ p with j:=p.j+1,more:=p.more-1 }else
 { p with j:=(leap mask p.i p.perturb).1,more:=runEnd mask (leap mask p.i p.perturb).1-(leap mask p.i p.perturb).1,i:=(leap mask p.i p.perturb).1,perturb:=(leap mask p.i p.perturb).2 }
theorem Dw(t:SetTable)(p:Probe):t.advance p=j9 t.mask p:=rfl
def IB(mask:Nat)(i q:Nat):Probe:={ j:=i,more:=runEnd mask i-i,i,perturb:=q,dummy:=none }
noncomputable def cn(mask:Nat)(h:Int):Nat→Probe
 |0=>IB mask (bits h%(mask+1)) (bits h)
 |n+1=>j9 mask (cn mask h n)
noncomputable def du(mask:Nat)(h:Int):Nat→Nat×Nat
 |0=>(bits h%(mask+1),bits h)
 |n+1=>leap mask (du mask h n).1 (du mask h n).2
def d4(mask i:Nat):Nat:=runEnd mask i-i
def aY(mask:Nat)(h:Int):Nat→Nat
 |0=>0
 |n+1=>aY mask h n+d4 mask (du mask h n).1+1
theorem VM(mask i:Nat):d4 mask i≤9:=by unfold d4 runEnd;split<;>omega
theorem AU(mask i:Nat):i≤runEnd mask i:=by unfold runEnd;split<;>omega
theorem Jd(mask:Nat)(h:Int):∀n,aY mask h n≤10*n
 |0=>Nat.le_refl _
 |n+1=>by have:=Jd mask h n;have:=VM mask (du mask h n).1;unfold aY;omega
theorem Lj{mask i q r:Nat}(hr:r<d4 mask i):j9 mask { j:=i+r,more:=d4 mask i-r,i:=i,perturb:=q,dummy:=none }={ j:=i+(r+1),more:=d4 mask i-(r+1),i:=i,perturb:=q,dummy:=none }:=by unfold j9;rw[if_pos (by show d4 mask i-r>0;omega)];simp only[Probe.mk.injEq];refine⟨by omega,by omega,trivial,trivial,trivial⟩
theorem Lk{mask i q:Nat}:j9 mask { j:=i+d4 mask i,more:=d4 mask i-d4 mask i,i:=i,perturb:=q,dummy:=none }=IB mask (leap mask i q).1 (leap mask i q).2:=by unfold j9;rw[if_neg (by show¬(d4 mask i-d4 mask i>0);omega)];rfl
theorem rD(mask:Nat)(h:Int):∀L r,r≤d4 mask (du mask h L).1→cn mask h (aY mask h L+r)={ j:=(du mask h L).1+r,more:=d4 mask (du mask h L).1-r,i:=(du mask h L).1,perturb:=(du mask h L).2,dummy:=none }
 |0,0,_=>rfl
 |L,r+1,hr=>by have:=rD mask h L r (by omega);show j9 mask (cn mask h (aY mask h L+r))=_;rw[this];exact Lj (by omega)
 |L+1,0,_=>by have:=rD mask h L (d4 mask (du mask h L).1) (Nat.le_refl _);show j9 mask (cn mask h (aY mask h L+d4 mask (du mask h L).1))=_;rw[this,Lk];rfl
theorem LD(h:Int):bits h<2^64:=by unfold bits;have:=Int.emod_lt_of_pos h (b:=2^64) (by decide);have:=Int.emod_nonneg h (b:=2^64) (by decide);omega
theorem Hw(mask:Nat)(h:Int):∀n,(du mask h n).2=bits h/32^n
 |0=>by simp[du]
 |n+1=>by show(du mask h n).2/32=_;rw[Hw mask h n,Nat.div_div_eq_div_mul,Nat.pow_succ]
theorem Sq(mask:Nat)(h:Int)(n:Nat)(aC:13≤n):(du mask h n).2=0:=by
 rw[Hw];apply Nat.div_eq_of_lt;have h1:=LD h;have h2:32^13≤32^n:=Nat.pow_le_pow_right (by decide) aC;have h3:(2:Nat)^64<32^13:=by decide
 omega
def jP(mask:Nat):Nat→Nat→Nat
 |0,i=>i
 |n+1,i=>(jP mask n i*5+1)%(mask+1)
theorem Hv(mask:Nat)(h:Int):∀m,(du mask h (13+m)).1=jP mask m (du mask h 13).1
 |0=>rfl
 |m+1=>by have e:(du mask h (13+(m+1))).2=0:=Sq mask h _ (by omega);have az:(du mask h (13+m)).2/32=0:=e;show((du mask h (13+m)).1*5+1+(du mask h (13+m)).2/32)%(mask+1)=_;rw[az,Hv mask h m];rfl
theorem vL(mask:Nat)(a:Nat):∀b i,jP mask (a+b) i=jP mask b (jP mask a i)
 |0,_=>rfl
 |b+1,i=>by show(jP mask (a+b) i*5+1)%(mask+1)=_;rw[vL mask a b i];rfl
def wg(mask:Nat):Nat→Nat→List Nat
 |0,_=>[]
 |n+1,i=>i::wg mask n ((i*5+1)%(mask+1))
theorem Hn(mask i:Nat):∀n,jP mask n ((i*5+1)%(mask+1))=jP mask (n+1) i
 |0=>rfl
 |n+1=>by show(jP mask n _*5+1)%_=_;rw[Hn mask i n];rfl
theorem Ae(mask:Nat):∀n i j,j∈wg mask n i→∃m,m<n∧jP mask m i=j
 |0,_,_,h=>by cases h
 |n+1,i,j,h=>by
  rcases List.mem_cons.mp h with rfl|h
  ·exact⟨0,by omega,rfl⟩
  ·obtain⟨m,h1,h2⟩:=Ae mask n _ j h;exact⟨m+1,by omega,by rw[←Hn];exact h2⟩
structure gF(mask:Nat):Prop where
 all:∀j,j≤mask→j∈wg mask (mask+1) 0
 back:jP mask (mask+1) 0=0
theorem gF.reach{mask:Nat}(C:gF mask){i j:Nat}(hi:i≤mask)(cg:j≤mask):∃m,m≤mask∧jP mask m i=j:=by
 obtain⟨a,a1,a2⟩:=Ae _ _ _ _ (C.all i hi);obtain⟨b,d_,dg⟩:=Ae _ _ _ _ (C.all j cg);by_cases h:a≤b
 ·refine⟨b-a,by omega,?_⟩;rw[←a2,←vL,show a+(b-a)=b by omega,dg]
 ·refine⟨mask+1-a+b,by omega,?_⟩;rw[←a2,←vL,show a+(mask+1-a+b)=(mask+1)+b by omega,vL,C.back,dg]
theorem yK{mask:Nat}(h:(List.range (mask+1)).all (fun j=>(wg mask (mask+1) 0).contains j)=true)(b:jP mask (mask+1) 0=0):gF mask:=
 ⟨fun j cg=>by have:=List.all_eq_true.mp h j (List.mem_range.mpr (by omega));exact List.contains_iff_mem.mp this,b⟩
theorem Eg:gF 7:=yK (by decide+kernel) (by decide+kernel)
theorem Ef:gF 31:=yK (by decide+kernel) (by decide+kernel)
theorem Ee:gF 127:=yK (by decide+kernel) (by decide+kernel)
theorem z6(mask:Nat)(h:Int):∀n,(du mask h n).1≤mask
 |0=>Nat.le_of_lt_succ (Nat.mod_lt _ (by omega))
 |n+1=>Nat.le_of_lt_succ (Nat.mod_lt _ (by omega))
theorem gF.leap{mask:Nat}(C:gF mask)(h:Int){j:Nat}(cg:j≤mask):∃L,L<mask+15∧(du mask h L).1=j:=by obtain⟨m,h1,h2⟩:=C.reach (z6 mask h 13) cg;exact⟨13+m,by omega,by rw[Hv];exact h2⟩
theorem gF.cover{mask:Nat}(C:gF mask)(h:Int){j:Nat}(cg:j≤mask):∃n,n<10*turns mask∧(cn mask h n).j=j:=by
 obtain⟨L,h1,h2⟩:=C.leap h cg;refine⟨aY mask h L,?_,?_⟩
 ·have:=Jd mask h L;unfold turns;omega
 ·have:=rD mask h L 0 (Nat.zero_le _);simp only[Nat.add_zero]at this;rw[this];exact h2
theorem Oh{P:List Nat}{mask:Nat}(hs:P.Pairwise (· <·))(aC:P.length≤mask):∃j,j≤mask∧j∉P:=by
 apply Classical.byContradiction;intro no;have all:∀j,j≤mask→j∈P:=fun j cg=>Classical.byContradiction fun z=>no ⟨j,cg,z⟩;have aU:(List.range (mask+1)).Nodup:=List.nodup_range;have sub:∀x∈List.range (mask+1),x∈P:=fun x hx=>all x (by have:=List.mem_range.mp hx;omega);have key:∀(l:List Nat),l.Nodup→∀(P:List Nat),(∀x∈l,x∈P)→l.length≤P.length:=by
  intro l;induction l with
  |nil=>intro _ P _;simp
  |cons a r bQ=>intro aU P sub;obtain⟨da,c2⟩:=List.nodup_cons.mp aU;have ha:=sub a (by simp);have:=bQ c2 (P.erase a) (fun x hx=>(List.mem_erase_of_ne (by intro e;subst e;exact da hx)).mpr (sub x (by simp[hx])));rw[List.length_erase_of_mem ha]at this;have:0<P.length:=List.length_pos_of_mem ha;simp;omega
 have:=key _ aU P sub;simp at this;omega
theorem least(p:Nat→Prop):(∃n,p n)→∃n,p n∧∀m,m<n→¬p m:=by
 rintro⟨n,h⟩;induction n using Nat.strongRecOn with
 |_ n bQ=>
  by_cases q:∃m,m<n∧p m
  ·obtain⟨m,m1,m2⟩:=q;exact bQ m m1 m2
  ·exact⟨n,h,fun m hm hp=>q ⟨m,hm,hp⟩⟩
theorem gF.first{mask:Nat}(C:gF mask){P:List Nat}(hs:P.Pairwise (· <·))(aC:P.length≤mask)(h:Int):∃N,N<10*turns mask∧(cn mask h N).j∉P∧∀m,m<N→(cn mask h m).j∈P:=by obtain⟨j,pz,n0⟩:=Oh hs aC;obtain⟨n,da,c2⟩:=C.cover h pz;obtain⟨N,ux,r8⟩:=least (fun n=>(cn mask h n).j∉P) ⟨n,by rw[c2];exact n0⟩;refine⟨N,?_,ux,fun m hm=>Classical.byContradiction (r8 m hm)⟩;have:¬n<N:=fun z=>r8 n z (by rw[c2];exact n0);omega
theorem Hu(mask:Nat)(h:Int):∀n,(cn mask h n).dummy=none
 |0=>rfl
 |n+1=>by
  show(j9 mask (cn mask h n)).dummy=none;unfold j9
  split<;>exact Hu mask h n
theorem AV{mask i:Nat}(hi:i≤mask):runEnd mask i≤mask:=by unfold runEnd;split<;>omega
structure Dp(mask:Nat)(p:Probe):Prop where
 i:p.i≤mask
 j:p.j+p.more≤mask
theorem IE(mask:Nat)(h:Int):∀n,Dp mask (cn mask h n)
 |0=>by have:=z6 mask h 0;have h2:=AV this;have h3:=AU mask (du mask h 0).1;exact⟨this,by show(du mask h 0).1+(runEnd mask (du mask h 0).1-(du mask h 0).1)≤mask;omega⟩
 |n+1=>by
  obtain⟨a,b⟩:=IE mask h n;show Dp mask (j9 mask (cn mask h n));unfold j9
  split
  ·rename_i q;refine⟨a,?_⟩;show(cn mask h n).j+1+((cn mask h n).more-1)≤mask;omega
  ·have h1:(SetTable.leap mask (cn mask h n).i (cn mask h n).perturb).1≤mask:=Nat.le_of_lt_succ (Nat.mod_lt _ (by omega));have h2:=AV h1;have h3:=AU mask (SetTable.leap mask (cn mask h n).i (cn mask h n).perturb).1;refine⟨h1,?_⟩;show(SetTable.leap mask (cn mask h n).i (cn mask h n).perturb).1+(runEnd mask _-_)≤mask;omega
theorem ID(mask:Nat)(h:Int)(n:Nat):(cn mask h n).j≤mask:=by have:=(IE mask h n).j;omega
section
variable{α:Type}
noncomputable def gT(t:SetTable)(es:Array (Int×α))(j:Nat)(e:Int×α):Prop:=∃i:Nat,t.place.toList[i]?=some j∧es.toList[i]?=some e
structure fT(t:SetTable)(es:Array (Int×α)):Prop where
 tab:Tab t es.size
 Ed:gF t.mask
 room:es.size≤t.mask
 find:∀j e,gT t es j e→∃n,(cn t.mask e.1 n).j=j∧∀m,m<n→(cn t.mask e.1 m).j∈t.place.toList
theorem fT.len{t:SetTable}{es:Array (Int×α)}(I:fT t es):t.place.toList.length=es.size:=by simpa using I.tab.l2
theorem fT.first{t:SetTable}{es:Array (Int×α)}(I:fT t es)(h:Int):∃N,N<10*turns t.mask∧(cn t.mask h N).j∉t.place.toList∧∀m,m<N→(cn t.mask h m).j∈t.place.toList:=
 I.Ed.first I.tab.rF (by rw[I.len];exact I.room) h
theorem fT.ent{t:SetTable}{es:Array (Int×α)}(I:fT t es){j i:Nat}(e:t.place.toList[i]?=some j):∃x,es.toList[i]?=some x:=by have:i<t.place.toList.length:=(List.getElem?_eq_some_iff.mp e).1;rw[I.len]at this;exact⟨_,List.getElem?_eq_getElem (by simpa using this)⟩
theorem Iq{t:SetTable}{n:Nat}(T:Tab t n){i k j:Nat}(a:t.place.toList[i]?=some j)(b:t.place.toList[k]?=some j):i=k:=by
 obtain⟨a1,a2⟩:=List.getElem?_eq_some_iff.mp a;obtain⟨d_,dg⟩:=List.getElem?_eq_some_iff.mp b;have r:=List.pairwise_iff_getElem.mp T.rF;rcases Nat.lt_trichotomy i k with h|h|h
 ·have:=r i k a1 d_ h;omega
 ·exact h
 ·have:=r k i d_ a1 h;omega
theorem gT.inj{t:SetTable}{es:Array (Int×α)}{n:Nat}(T:Tab t n){j:Nat}{e b6:Int×α}(a:gT t es j e)(b:gT t es j b6):e=b6:=by obtain⟨i,a1,a2⟩:=a;obtain⟨k,d_,dg⟩:=b;have:=Iq T a1 d_;subst this;rw[a2]at dg;exact Option.some.inj dg
theorem Iv{t:SetTable}{es:Array (Int×α)}(I:fT t es){f:Nat→Int}(hf:∀(i:Nat) e,es.toList[i]?=some e→f i=e.1)(h:Int){N:Nat}(h1:(cn t.mask h N).j∉t.place.toList)(h2:∀m,m<N→(cn t.mask h m).j∈t.place.toList) :
  ∀fuel n,n≤N→N-n<fuel→
  (probe.go t f h fuel (cn t.mask h n)=some (.empty (cn t.mask h N).j none)∧∀m,n≤m→m<N→∀e,gT t es (cn t.mask h m).j e→e.1≠h)∨
  (∃m i e,n≤m∧m<N∧t.place.toList[i]?=some (cn t.mask h m).j∧es.toList[i]?=some e∧e.1=h∧probe.go t f h fuel (cn t.mask h n)=some (.candidate (cn t.mask h m).j i (cn t.mask h (m+1)))∧∀c0,n≤c0→c0<m→∀e,gT t es (cn t.mask h c0).j e→e.1≠h)
 |0,n,_,aai=>by omega
 |fuel+1,n,aC,iJ=>by
  unfold probe.go;by_cases q:n=N
  ·subst q
   left
   rw[Xk I.tab h1];dsimp only;rw[Hu];exact⟨rfl,fun m a b=>by omega⟩
  ·obtain⟨i,s1,s2⟩:=Jg I.tab (h2 n (by omega));obtain⟨x,hx⟩:=I.ent s2;rw[s1];dsimp only;by_cases w:x.1=h
   ·right
    refine⟨n,i,x,Nat.le_refl _,by omega,s2,hx,w,?_,fun c0 a b=>by omega⟩;rw[if_pos (by rw[hf i x hx,w];simp),Dw];rfl
   ·rw[if_neg (by rw[hf i x hx];simpa using w),Dw];have no:∀e,gT t es (cn t.mask h n).j e→e.1≠h:=fun e he=>by
     rw[gT.inj I.tab he ⟨i,s2,hx⟩];exact w
    rcases Iv I hf h h1 h2 fuel (n+1) (by omega) (by omega)with⟨a,b⟩|⟨m,vy,e,a1,a2,eE,hA,ib,i9,xT⟩
    ·refine .inl ⟨a,fun m c d=>?_⟩;rcases Nat.eq_or_lt_of_le c with rfl|c
     ·exact no
     ·exact b m c d
    ·refine .inr ⟨m,vy,e,by omega,a2,eE,hA,ib,i9,fun c0 c d=>?_⟩;rcases Nat.eq_or_lt_of_le c with rfl|c
     ·exact no
     ·exact xT c0 c d
theorem NG{t t':SetTable}{es:Array (Int×α)}(hl:t.place.toList.length=es.size){j p:Nat}{e:Int×α}(hp:p≤es.size)(de:t'.place.toList=t.place.toList.take p++j::t.place.toList.drop p){zR:Nat}{b6:Int×α}(h:gT t' (insertAt es p e) zR b6):(zR=j∧b6=e)∨gT t es zR b6:=by
 obtain⟨i,a,b⟩:=h;rw[de]at a;rw[vC]at b;have dU:(t.place.toList.take p).length=p:=by rw[List.length_take,hl];omega
 have cf:(es.toList.take p).length=p:=by rw[List.length_take,Array.length_toList];omega
 rcases Nat.lt_trichotomy i p with q|q|q
 ·right
  rw[List.getElem?_append_left (by omega),List.getElem?_take_of_lt q]at a;rw[List.getElem?_append_left (by omega),List.getElem?_take_of_lt q]at b;exact⟨i,a,b⟩
 ·left
  subst q;rw[List.getElem?_append_right (by omega),dU,Nat.sub_self]at a;rw[List.getElem?_append_right (by omega),cf,Nat.sub_self]at b;simp at a b;exact⟨a.symm,b.symm⟩
 ·right
  obtain⟨k,rfl⟩:∃k,i=p+1+k:=⟨i-p-1,by omega⟩;rw[List.getElem?_append_right (by omega),dU,show p+1+k-p=k+1 by omega,List.getElem?_cons_succ,List.getElem?_drop]at a;rw[List.getElem?_append_right (by omega),cf,show p+1+k-p=k+1 by omega,List.getElem?_cons_succ,List.getElem?_drop]at b;exact⟨p+k,a,b⟩
theorem fT.put{t:SetTable}{es:Array (Int×α)}(I:fT t es){h:Int}{x:α}{N:Nat}(h1:(cn t.mask h N).j∉t.place.toList)(h2:∀m,m<N→(cn t.mask h m).j∈t.place.toList)(hr:es.size+1≤t.mask) :
  fT (t.put (cn t.mask h N).j).1 (insertAt es (t.put (cn t.mask h N).j).2 (h,x))∧(t.put (cn t.mask h N).j).2≤es.size∧(insertAt es (t.put (cn t.mask h N).j).2 (h,x)).size=es.size+1:=by
 obtain⟨p,eG,cB,i7,de,_⟩:=Vl I.tab h1 (ID _ _ _);have hsz:(insertAt es p (h,x)).size=es.size+1:=by
  have:(insertAt es p (h,x)).toList.length=es.size+1:=by rw[vC,List.length_append,List.length_cons,List.length_take,List.length_drop,Array.length_toList];omega
  simpa using this
 rw[eG];have lT:∀y∈t.place.toList,y∈(t.put (cn t.mask h N).j).1.place.toList:=fun y bX=>by
  rw[de];rw[←List.take_append_drop p t.place.toList]at bX;rcases List.mem_append.mp bX with bX|bX
  ·exact List.mem_append_left _ bX
  ·exact List.mem_append_right _ (List.mem_cons_of_mem _ bX)
 refine⟨⟨by rw[hsz];exact i7,I.Ed,by rw[hsz];exact hr,fun j e he=>?_⟩,cB,hsz⟩;rcases NG I.len cB de he with⟨rfl,rfl⟩|he
 ·exact⟨N,rfl,fun m hm=>lT _ (h2 m hm)⟩
 ·obtain⟨n,da,c2⟩:=I.find j e he;exact⟨n,da,fun m hm=>lT _ (c2 m hm)⟩
end
theorem I9(mask:Nat)(h:Int):∀L m,m<aY mask h L→∃fE r,fE<L∧r≤d4 mask (du mask h fE).1∧m=aY mask h fE+r
 |0,m,hm=>by simp[aY]at hm
 |L+1,m,hm=>by
  by_cases q:m<aY mask h L
  ·obtain⟨fE,r,a,b,c⟩:=I9 mask h L m q;exact⟨fE,r,by omega,b,c⟩
  ·unfold aY at hm;exact⟨L,m-aY mask h L,by omega,by omega,by omega⟩
structure Own(M:Nat)(owner:Array (Option Nat))(a:List Nat):Prop where
 l2:owner.size=M+1
 aU:a.Nodup
 le:∀j∈a,j≤M
 of:∀j k:Nat,owner[j]?=some (some k)↔a[k]?=some j
theorem Own.free{M:Nat}{owner:Array (Option Nat)}{a:List Nat}(O:Own M owner a){j:Nat}(cg:j≤M):(owner.getD j (some 0)).isNone=true↔j∉a:=by
 have hs:j<owner.size:=by have:=O.l2;omega
 rw[Array.getD_eq_getD_getElem?,Array.getElem?_eq_getElem hs];constructor
 ·intro h m;obtain⟨k,hk,rfl⟩:=List.getElem_of_mem m;have:=(O.of _ k).mpr (List.getElem?_eq_getElem hk);rw[Array.getElem?_eq_getElem hs]at this;simp only[Option.getD_some]at h;rw[Option.some.inj this]at h;cases h
 ·intro h;simp only[Option.getD_some];cases e:owner[j]with
  |none=>rfl
  |some k=>exfalso;have:=(O.of j k).mp (by rw[Array.getElem?_eq_getElem hs,e]);exact h (List.mem_of_getElem? this)
theorem FU{M:Nat}{owner:Array (Option Nat)}{a:List Nat}(O:Own M owner a)(h:Int):∀fuel L,(∃mr,L≤mr∧mr<L+fuel∧(du M h mr).1∉a)→
  ∃fE k,layClean.free M owner fuel (du M h L).1 (du M h L).2=some ((du M h fE).1+k)∧k≤d4 M (du M h fE).1∧(du M h fE).1+k∉a∧L≤fE∧(∀lF,L≤lF→lF<fE→∀r,r≤d4 M (du M h lF).1→(du M h lF).1+r∈a)∧∀r,r<k→(du M h fE).1+r∈a
 |0,L,⟨mr,h1,h2,_⟩=>by omega
 |fuel+1,L,⟨mr,h1,h2,h3⟩=>by
  unfold layClean.free;have hle:=z6 M h L;have aay:=AV hle;have aam:=AU M (du M h L).1;cases hf:(List.range (runEnd M (du M h L).1+1-(du M h L).1)).find? fun k=>(owner.getD ((du M h L).1+k) (some 0)).isNone with
  |some k=>
   dsimp only;obtain⟨aS,as,bs,bl,dw⟩:=List.find?_eq_some_iff_append.mp hf;have hk:k∈List.range (runEnd M (du M h L).1+1-(du M h L).1):=by rw[bl];simp
   have hk:=List.mem_range.mp hk;refine⟨L,k,rfl,by unfold d4;omega,(O.free (by omega)).mp aS,Nat.le_refl _,fun lF c d=>by omega,fun r hr=>?_⟩;have:r∈as:=by
    have g0:as.length=k:=by
     have:=congrArg (·[as.length]?) bl;simp only[List.getElem?_append_right (Nat.le_refl _),Nat.sub_self,List.getElem?_cons_zero]at this;have l:as.length<runEnd M (du M h L).1+1-(du M h L).1:=by have:=congrArg List.length bl;simp at this;omega
     rw[List.getElem?_range l]at this;exact Option.some.inj this
    have:=congrArg (·[r]?) bl;rw[List.getElem?_append_left (by omega),List.getElem?_range (by omega)]at this;exact List.mem_of_getElem? this.symm
   have no:=dw r this;apply Classical.byContradiction;intro z;rw[(O.free (by omega)).mpr z]at no;simp at no
  |none=>
   dsimp only;have all:∀r,r≤d4 M (du M h L).1→(du M h L).1+r∈a:=fun r hr=>by have:=List.find?_eq_none.mp hf r (List.mem_range.mpr (by unfold d4 at hr;omega));apply Classical.byContradiction;intro z;exact this ((O.free (by unfold d4 at hr;omega)).mpr z)
   have ne:L≠mr:=by rintro rfl;exact h3 (by simpa using all 0 (Nat.zero_le _))
   obtain⟨fE,k,a1,a2,eE,hA,ib,i9⟩:=FU O h fuel (L+1) ⟨mr,by omega,by omega,h3⟩;refine⟨fE,k,a1,a2,eE,by omega,fun lF c d=>?_,i9⟩;rcases Nat.eq_or_lt_of_le c with rfl|c
   ·exact all
   ·exact ib lF c d
theorem Oi{M:Nat}(C:gF M){owner:Array (Option Nat)}{a:List Nat}(O:Own M owner a)(hl:a.length≤M)(h:Int):∃N,layClean.free M owner (turns M) (bits h%(M+1)) (bits h)=some (cn M h N).j∧(cn M h N).j∉a∧∀m,m<N→(cn M h m).j∈a:=by
 have:∃j,j≤M∧j∉a:=by
  apply Classical.byContradiction;intro no;have all:∀j,j≤M→j∈a:=fun j cg=>Classical.byContradiction fun z=>no ⟨j,cg,z⟩;have key:∀(l:List Nat),l.Nodup→∀(P:List Nat),(∀x∈l,x∈P)→l.length≤P.length:=by
   intro l;induction l with
   |nil=>intro _ P _;simp
   |cons a r bQ=>intro aU P sub;obtain⟨da,c2⟩:=List.nodup_cons.mp aU;have ha:=sub a (by simp);have:=bQ c2 (P.erase a) (fun x hx=>(List.mem_erase_of_ne (by intro e;subst e;exact da hx)).mpr (sub x (by simp[hx])));rw[List.length_erase_of_mem ha]at this;have:0<P.length:=List.length_pos_of_mem ha;simp;omega
  have:=key (List.range (M+1)) List.nodup_range a (fun x hx=>all x (by have:=List.mem_range.mp hx;omega));simp at this;omega
 obtain⟨j,pz,n0⟩:=this;obtain⟨mr,dU,cf⟩:=C.leap h pz;obtain⟨fE,k,a1,a2,eE,hA,ib,i9⟩:=FU O h (turns M) 0 ⟨mr,Nat.zero_le _,by unfold turns;omega,by rw[cf];exact n0⟩;have e:=rD M h fE k a2;refine⟨aY M h fE+k,by rw[e];exact a1,by rw[e];exact eE,fun m hm=>?_⟩;by_cases q:m<aY M h fE
 ·obtain⟨lF,r,d_,dg,oY⟩:=I9 M h fE m q;rw[oY,rD M h lF r dg];exact ib lF (Nat.zero_le _) d_ r dg
 ·obtain⟨r,rfl⟩:∃r,m=aY M h fE+r:=⟨m-aY M h fE,by omega⟩;rw[rD M h fE r (by omega)];exact i9 r (by omega)
noncomputable def wQ(M:Nat)(acc:Option (Array (Option Nat)×Nat))(h:Int):Option (Array (Option Nat)×Nat):=do
 let(owner,k) ←acc
 let j ←layClean.free M owner (turns M) (bits h%(M+1)) (bits h)
 pure (owner.setIfInBounds j (some k),k+1)
theorem Sa(M:Nat)(hs:Array Int):layClean M hs=(hs.toList.foldl (wQ M) (some (Array.replicate (M+1) none,0))).map (·.1):=by unfold layClean;rw[←Array.foldl_toList];rfl
structure Laid(M:Nat)(hs:List Int)(a:List Nat):Prop where
 len:a.length=hs.length
 find:∀(k:Nat) j h,a[k]?=some j→hs[k]?=some h→∃n,(cn M h n).j=j∧∀m,m<n→(cn M h m).j∈a
theorem Own.add{M:Nat}{owner:Array (Option Nat)}{a:List Nat}(O:Own M owner a){j:Nat}(cg:j≤M)(aC:j∉a):Own M (owner.setIfInBounds j (some a.length)) (a++[j]):=by
 have hs:j<owner.size:=by have:=O.l2;omega
 refine⟨by simp[O.l2],?_,?_,fun i k=>?_⟩
 ·refine List.nodup_append.mpr ⟨O.aU,by simp,fun x hx y bX=>?_⟩;simp at bX;subst bX;intro e;subst e;exact aC hx
 ·intro i hi;rcases List.mem_append.mp hi with hi|hi
  ·exact O.le i hi
  ·simp at hi;omega
 ·rw[Array.getElem?_setIfInBounds];by_cases q:j=i
  ·subst q;rw[if_pos rfl,if_pos hs];constructor
   ·intro e;have e:=Option.some.inj (Option.some.inj e);subst e;rw[List.getElem?_append_right (Nat.le_refl _)];simp
   ·intro e;rcases Nat.lt_trichotomy k a.length with w|w|w
    ·rw[List.getElem?_append_left w]at e;exact absurd (List.mem_of_getElem? e) aC
    ·rw[w]
    ·rw[List.getElem?_eq_none (by simp;omega)]at e;cases e
  ·rw[if_neg q,O.of i k];rcases Nat.lt_trichotomy k a.length with w|w|w
   ·rw[List.getElem?_append_left w]
   ·subst w;rw[List.getElem?_append_right (Nat.le_refl _),List.getElem?_eq_none (Nat.le_refl _)];simp;exact q
   ·rw[List.getElem?_eq_none (by omega),List.getElem?_eq_none (by simp;omega)]
theorem FP{M:Nat}(C:gF M):∀(hs done:List Int)(owner:Array (Option Nat))(a:List Nat),Own M owner a→Laid M done a→done.length+hs.length≤M→
  ∃wi jB,hs.foldl (wQ M) (some (owner,a.length))=some (wi,jB.length)∧Own M wi jB∧Laid M (done++hs) jB
 |[],done,owner,a,O,L,_=>⟨owner,a,rfl,O,by simpa using L⟩
 |h::hs,done,owner,a,O,L,hl=>by
  simp only[List.length_cons]at hl;obtain⟨N,f1,f2,ew⟩:=Oi C O (by rw[L.len];omega) h;have r9:=O.add (ID M h N) f2;have fE:Laid M (done++[h]) (a++[(cn M h N).j]):=by
   refine⟨by simp[L.len],fun k j g h1 h2=>?_⟩;rcases Nat.lt_trichotomy k a.length with w|w|w
   ·rw[List.getElem?_append_left w]at h1;rw[List.getElem?_append_left (by rw[←L.len];exact w)]at h2;obtain⟨n,da,c2⟩:=L.find k j g h1 h2;exact⟨n,da,fun m hm=>List.mem_append_left _ (c2 m hm)⟩
   ·subst w;rw[List.getElem?_append_right (Nat.le_refl _)]at h1;rw[L.len,List.getElem?_append_right (Nat.le_refl _)]at h2;simp at h1 h2;subst h1;subst h2;exact⟨N,rfl,fun m hm=>List.mem_append_left _ (ew m hm)⟩
   ·rw[List.getElem?_eq_none (by simp;omega)]at h1;cases h1
  have step:wQ M (some (owner,a.length)) h=some (owner.setIfInBounds (cn M h N).j (some a.length),(a++[(cn M h N).j]).length):=by unfold wQ;simp only[Option.bind_eq_bind,Option.bind_some,f1];simp
  obtain⟨wi,jB,au,bh,dX⟩:=FP C hs (done++[h]) _ _ r9 fE (by simp;omega);refine⟨wi,jB,?_,bh,by simpa using dX⟩;rw[List.foldl_cons,step];exact au
theorem Sb{M:Nat}(C:gF M){hs:Array Int}(hl:hs.size≤M):∃owner a,layClean M hs=some owner∧Own M owner a∧Laid M hs.toList a:=by
 have O:Own M (Array.replicate (M+1) none) []:=⟨by simp,by simp,by simp,fun j k=>by
  rw[Array.getElem?_replicate]
  split<;>simp⟩
 obtain⟨owner,a,au,bh,dX⟩:=FP C hs.toList [] _ [] O ⟨rfl,by simp⟩ (by simpa using hl);refine⟨owner,a,?_,bh,by simpa using dX⟩;rw[Sa];have:(List.length ([]:List Nat))=0:=rfl;rw[this]at au;rw[au];rfl
theorem HP{l P:List Nat}(aU:l.Nodup)(sub:∀x∈l,x∈P):l.length≤P.length:=by
 induction l generalizing P with
 |nil=>simp
 |cons a r bQ=>obtain⟨da,c2⟩:=List.nodup_cons.mp aU;have ha:=sub a (by simp);have:=bQ c2 (P:=P.erase a) (fun x hx=>(List.mem_erase_of_ne (by intro e;subst e;exact da hx)).mpr (sub x (by simp[hx])));rw[List.length_erase_of_mem ha]at this;have:0<P.length:=List.length_pos_of_mem ha;simp;omega
section
variable{α:Type}
theorem filterMap_get{es:List α}:∀{l:List Nat},(∀k∈l,k<es.length)→(l.filterMap (es[·]?)).length=l.length∧∀(i:Nat) e,(l.filterMap (es[·]?))[i]?=some e→∃k,l[i]?=some k∧es[k]?=some e
 |[],_=>⟨rfl,fun i e h=>by simp at h⟩
 |k::l,hk=>by
  have O3:k<es.length:=hk k (by simp);have h0:es[k]?=some es[k]:=List.getElem?_eq_getElem O3;obtain⟨a,b⟩:=filterMap_get (es:=es) (l:=l) fun x hx=>hk x (by simp[hx]);rw[List.filterMap_cons,h0];refine⟨by simp[a],fun i e h=>?_⟩;cases i with
  |zero=>simp at h;exact⟨k,rfl,by rw[h0,h]⟩
  |succ i=>simpa using b i e (by simpa using h)
theorem R3{M:Nat}(C:gF M){es:Array (Int×α)}(hl:es.size≤M)(finger moves:Nat)(led plain:Bool) :
  ∃t' order,laid M finger moves led plain (es.map (·.1))=some (t',order)∧t'.mask=M∧t'.led=led∧t'.plain=plain∧t'.moves=moves∧t'.dummies= #[]∧
   (order.filterMap (es[·]?)).size=es.size∧fT t' (order.filterMap (es[·]?))∧∀e,e∈(order.filterMap (es[·]?)).toList↔e∈es.toList:=by
 obtain⟨owner,a,bN,O,L⟩:=Sb C (hs:=es.map (·.1)) (by simpa using hl);have Sm:a.length=es.size:=by rw[L.len];simp
 have TH:∀j,j≤M→∃x,owner[j]?=some x:=fun j cg=>⟨_,Array.getElem?_eq_getElem (by have:=O.l2;omega)⟩;obtain⟨live,yV⟩:∃live,live=(List.range (M+1)).filterMap fun j=>(owner.getD j none).map (j,·):=⟨_,rfl⟩;have mem:∀j k,(j,k)∈live↔a[k]?=some j:=by
  intro j k;rw[yV,List.mem_filterMap];constructor
  ·rintro⟨i,hi,e⟩;obtain⟨x,hx⟩:=TH i (by have:=List.mem_range.mp hi;omega);rw[Array.getD_eq_getD_getElem?,hx,Option.getD_some]at e;cases x with
   |none=>cases e
   |some y=>simp at e;obtain⟨rfl,rfl⟩:=e;exact(O.of _ _).mp hx
  ·intro e;have cg:=O.le j (List.mem_of_getElem? e);refine⟨j,List.mem_range.mpr (by omega),?_⟩;rw[Array.getD_eq_getD_getElem?,(O.of j k).mpr e];rfl
 have rise:(live.map (·.1)).Pairwise (· <·):=by
  rw[yV,List.pairwise_map];refine List.Pairwise.filterMap _ (R:=(· <·)) ?_ (by simpa using List.pairwise_lt_range);intro i vy O0 b hb eV kU;cases q:owner.getD i none with
  |none=>rw[q]at hb;simp at hb
  |some y=>
   cases dR:owner.getD vy none with
   |none=>rw[dR]at kU;simp at kU
   |some Zt=>rw[q]at hb;rw[dR]at kU;simp at hb kU;subst hb;subst kU;exact O0
 have S8:(live.map (·.1)).Nodup:=rise.imp (fun h=>Nat.ne_of_lt h);have mM:live.length=es.size:=by
  apply Nat.le_antisymm
  ·have:=HP S8 (P:=a) (fun x hx=>by
     obtain⟨p,eG,rfl⟩:=List.mem_map.mp hx;exact List.mem_of_getElem? ((mem p.1 p.2).mp eG))
   simp at this;omega
  ·have:=HP O.aU (P:=live.map (·.1)) (fun x hx=>by
     obtain⟨k,hk,rfl⟩:=List.getElem_of_mem hx;exact List.mem_map.mpr ⟨(a[k],k),(mem _ _).mpr (List.getElem?_eq_getElem hk),rfl⟩)
   simp at this;omega
 have T_:∀k∈live.map (·.2),k<es.toList.length:=fun k hk=>by obtain⟨p,eG,rfl⟩:=List.mem_map.mp hk;have:=(List.getElem?_eq_some_iff.mp ((mem p.1 p.2).mp eG)).1;simp;omega
 have y9:((live.map (·.2)).toArray.filterMap (es[·]?)).toList=(live.map (·.2)).filterMap (es.toList[·]?):=by rw[Array.toList_filterMap];simp
 obtain⟨g1,g2⟩:=filterMap_get T_;have hsz:((live.map (·.2)).toArray.filterMap (es[·]?)).size=es.size:=by
  have:((live.map (·.2)).toArray.filterMap (es[·]?)).toList.length=es.size:=by rw[y9,g1];simp[mM]
  simpa using this
 refine⟨_,_,by
  unfold laid;rw[bN];show some _=_;rw[←yV],rfl,rfl,rfl,rfl,rfl,hsz,⟨⟨rfl,?_,?_,?_⟩,C,by rw[hsz];exact hl,?_⟩,fun e=>?_⟩
 ·rw[hsz];simp[mM]
 ·simpa using rise
 ·intro j cg;have cg:j∈live.map (·.1):=by simpa using cg
  obtain⟨p,eG,rfl⟩:=List.mem_map.mp cg;exact O.le _ (List.mem_of_getElem? ((mem p.1 p.2).mp eG))
 ·rintro j e ⟨i,h1,h2⟩;have h1:(live.map (·.1))[i]?=some j:=by simpa using h1
  rw[y9]at h2;obtain⟨k,k1,k2⟩:=g2 i e h2;have hk:live[i]?=some (j,k):=by
   rw[List.getElem?_map]at h1 k1;cases q:live[i]? with
   |none=>rw[q]at h1;cases h1
   |some p=>rw[q]at h1 k1;simp at h1 k1;rw[←h1,←k1]
  have hk:=(mem j k).mp (List.mem_of_getElem? hk);obtain⟨n,da,c2⟩:=L.find k j e.1 hk (by simp at k2 ⊢;exact⟨_,k2⟩);refine⟨n,da,fun m hm=>?_⟩;have:=c2 m hm;obtain⟨k',kV,b6⟩:=List.getElem_of_mem this;have:(cn M e.1 m).j∈live.map (·.1):=List.mem_map.mpr ⟨((cn M e.1 m).j,k'),(mem _ _).mpr (by rw[←b6];exact List.getElem?_eq_getElem kV),rfl⟩;simpa using this
 ·rw[y9,List.mem_filterMap];constructor
  ·rintro⟨k,_,q⟩;exact List.mem_of_getElem? q
  ·intro q;obtain⟨k,hk,rfl⟩:=List.getElem_of_mem q;refine⟨k,?_,List.getElem?_eq_getElem hk⟩;have O4:k<a.length:=by rw[Sm];simpa using hk
   exact List.mem_map.mpr ⟨(a[k],k),(mem _ _).mpr (List.getElem?_eq_getElem O4),rfl⟩
end
section
variable{prog:Program}{w:World}{A:Around}{E:Value→Shared→Prop}{s:Shared}{K:Type}[DecidableEq K]{knd:KeyKind prog w K}
theorem HR{aH:List K}{a:Addr}{n:Nat}{Q:Bool→Shared→Prop}(hk:IsTupleKey knd s.heap aH a)(h:Q false s):wpAny (model prog w) A (ofAClassStatement (n+1) (.ref a)) Q E s:=by
 have fZ:=hk.typeIs;obtain⟨o,items,m,ho,_,hd,hi⟩:=hk;unfold ofAClassStatement;refine wpAny_bind (wpAny_typeOf fZ ?_);dsimp only;rw[if_pos (by rfl)];refine wpAny_bind (wpAny_pure ?_);simp only[Bool.not_true,Bool.false_eq_true,if_false];refine wpAny_bind (wpAny_seqItems ho hd ?_);dsimp only;refine wpAny_bind ?_;rw[←Array.forIn_toList];refine wpAny_forIn_list _ (fun rest r s'=>r.1=none∧s'=s∧∀v∈rest,carriedByValue v=true) _ ?_ ?_ _ _ ⟨rfl,rfl,hi.byValue⟩
 ·rintro v rest r s' ⟨hr,rfl,al⟩;have e:ofAClassStatement n v=pure false:=by
   have:=al v List.mem_cons_self;cases v<;>first|(simp[carriedByValue]at this;done)|(unfold ofAClassStatement;rfl)
  rw[e];refine wpAny_bind (wpAny_pure ?_);simp only[Bool.false_eq_true,if_false];exact wpAny_pure ⟨rfl,rfl,fun u hu=>al u (List.mem_cons_of_mem _ hu)⟩
 ·rintro⟨au,bh⟩ s' ⟨hr,rfl,_⟩;simp only at hr;subst hr;exact wpAny_pure h
theorem LM{aH:List K}{a:Addr}{Q:Bool→Shared→Prop}(hk:IsTupleKey knd s.heap aH a)(h:∀b,Q b s):wpAny (model prog w) A (hashByValue 8 (.ref a)) Q E s:=by
 have fZ:=hk.typeIs;obtain⟨o,items,m,ho,_,hd,hi⟩:=hk;unfold hashByValue;refine wpAny_bind (wpAny_specialOf fZ F.slot_tuple_hash.lookup ?_);dsimp only;refine wpAny_bind (wpAny_seqItems ho hd ?_);simp only[Option.getD_some];refine wpAny_bind ?_;rw[←Array.forIn_toList];refine wpAny_forIn_list _ (fun rest r s'=>r.1=none∧s'=s∧∀v∈rest,carriedByValue v=true) _ ?_ ?_ _ _ ⟨rfl,rfl,hi.byValue⟩
 ·rintro v rest r s' ⟨hr,rfl,al⟩;have e:∃b,hashByValue 7 v=pure b:=by
   have:=al v List.mem_cons_self;cases v<;>first|(simp[carriedByValue]at this;done)|(unfold hashByValue;exact⟨_,rfl⟩)
  obtain⟨b,e⟩:=e;rw[e];refine wpAny_bind (wpAny_pure ?_);cases b with
  |true=>exact wpAny_pure ⟨rfl,rfl,fun u hu=>al u (List.mem_cons_of_mem _ hu)⟩
  |false=>exact wpAny_pure (wpAny_pure (h _))
 ·rintro⟨au,bh⟩ s' ⟨hr,rfl,_⟩;simp only at hr;subst hr;exact wpAny_pure (h _)
structure rZ(knd:KeyKind prog w K)(h:Heap)(es:List (Int×Value)):Prop where
 el:∀e∈es,∃aH b,e.2=.ref b∧IsTupleKey knd h aH b∧e.1=tupleKeyHash knd aH
noncomputable def uq(knd:KeyKind prog w K)(h:Heap)(es:List (Int×Value))(aH:List K):Prop:=∃e∈es,∃b,e.2=.ref b∧IsTupleKey knd h aH b
theorem Tp{aH:List K}{x:Addr}(hx:IsTupleKey knd s.heap aH x):∀(l:List Value),(∀y∈l,∃k6 b,y=.ref b∧IsTupleKey knd s.heap k6 b)→∀{Q:Bool→Shared→Prop},Q false s→wpAny (model prog w) A (searchCouldBeSeen (.ref x) l) Q E s:=by
 intro l hl Q h;unfold searchCouldBeSeen;refine wpAny_bind ?_;refine wpAny_forIn_list _ (fun rest r s'=>r.1=none∧s'=s∧∀y∈rest,∃k6 b,y=.ref b∧IsTupleKey knd s.heap k6 b) _ ?_ ?_ _ _ ⟨rfl,rfl,hl⟩
 ·rintro v rest r s' ⟨hr,rfl,al⟩;obtain⟨k6,b,rfl,hb⟩:=al v List.mem_cons_self;have Dx:=fun u(hu:u∈rest)=>al u (List.mem_cons_of_mem _ hu);dsimp only;by_cases q:(x==b)=true
  ·rw[if_pos (by simp[q])];exact wpAny_pure ⟨rfl,rfl,Dx⟩
  ·rw[if_neg (by simp[carriedByValue];simpa using q)];refine wpAny_bind (wpAny_eqIsQuiet_tuple hx ?_);simp only[Bool.not_true,Bool.false_eq_true,if_false];refine wpAny_bind (wpAny_eqIsQuiet_tuple hb ?_);simp only[Bool.not_true,Bool.false_eq_true,if_false];refine wpAny_bind (HR hx ?_);simp only[Bool.false_eq_true,if_false];refine wpAny_bind (HR hb ?_);simp only[Bool.false_eq_true,if_false];exact wpAny_pure ⟨rfl,rfl,Dx⟩
 ·rintro⟨au,bh⟩ s' ⟨hr,rfl,_⟩;simp only at hr;subst hr;exact wpAny_pure h
end
section
variable{prog:Program}{w:World}{A:Around}{E:Value→Shared→Prop}{s:Shared}{K:Type}[DecidableEq K]{knd:KeyKind prog w K}
theorem rZ.at{h:Heap}{t:SetTable}{es:Array (Int×Value)}(X:rZ knd h es.toList){j:Nat}{e:Int×Value}(q:gT t es j e):∃aH b,e.2=.ref b∧IsTupleKey knd h aH b∧e.1=tupleKeyHash knd aH:=by obtain⟨i,_,q⟩:=q;exact X.el e (List.mem_of_getElem? q)
theorem fT.fits{t:SetTable}{es:Array (Int×Value)}(I:fT t es):t.fits es.size=true:=by unfold SetTable.fits SetTable.fill;rw[I.tab.sk,I.tab.l2];have:=I.room;simp;omega
theorem fT.mem{t:SetTable}{es:Array (Int×Value)}(I:fT t es){e:Int×Value}(m:e∈es.toList):∃j,gT t es j e:=by
 obtain⟨i,hi,rfl⟩:=List.getElem_of_mem m;have:i<t.place.toList.length:=by rw[I.len];simpa using hi
 exact⟨_,i,List.getElem?_eq_getElem this,List.getElem?_eq_getElem hi⟩
theorem gT.place{t:SetTable}{es:Array (Int×Value)}{j:Nat}{e:Int×Value}(q:gT t es j e):j∈t.place.toList:=by obtain⟨i,q,_⟩:=q;exact List.mem_of_getElem? q
theorem fT.TY{t:SetTable}{es:Array (Int×Value)}(I:fT t es)(X:rZ knd s.heap es.toList){aH:List K}{N:Nat}(h1:(cn t.mask (tupleKeyHash knd aH) N).j∉t.place.toList)(hh:uq knd s.heap es.toList aH) :
  ∃m e b,m<N∧gT t es (cn t.mask (tupleKeyHash knd aH) m).j e∧e.1=tupleKeyHash knd aH∧e.2=.ref b∧IsTupleKey knd s.heap aH b:=by
 obtain⟨e,e0,b,bb,gM⟩:=hh;obtain⟨j,q⟩:=I.mem e0;obtain⟨k6,eV,aq,k1,az⟩:=X.el e e0;rw[bb]at aq;cases aq;have:=gM.inj k1;subst this;obtain⟨n,da,c2⟩:=I.find j e q;rw[az]at da c2;refine⟨n,e,b,?_,by rw[da];exact q,az,bb,gM⟩;rcases Nat.lt_trichotomy n N with z|z|z
 ·exact z
 ·subst z;exact absurd (by rw[da];exact q.place) h1
 ·exact absurd (c2 N z) h1
theorem I8{a x:Addr}{o:Obj}{cz:Nat}{t:SetTable}{es:Array (Int×Value)}{aH:List K}(hu:A.units<cLine)(ho:s.heap.get? a=some o)(hd:o.data=.set es cz t)(I:fT t es)(X:rZ knd s.heap es.toList)(hx:IsTupleKey knd s.heap aH x)(wc:t.mask%2=1){N:Nat}(hN:N<10*turns t.mask)(h1:(cn t.mask (tupleKeyHash knd aH) N).j∉t.place.toList)(h2:∀m,m<N→(cn t.mask (tupleKeyHash knd aH) m).j∈t.place.toList){Q:SetFound→Shared→Prop}(yes:uq knd s.heap es.toList aH→Q (.there none) s)(no:¬uq knd s.heap es.toList aH→Q (.free (cn t.mask (tupleKeyHash knd aH) N).j false) s) :
  ∀(fuel n:Nat)(st:Option Probe),n≤N→N-n<fuel→st.getD (t.probeStart (tupleKeyHash knd aH))=cn t.mask (tupleKeyHash knd aH) n→
   (∀m,m<n→∀e,gT t es (cn t.mask (tupleKeyHash knd aH) m).j e→∀b,e.2=.ref b→¬IsTupleKey knd s.heap aH b)→
   wpAny (model prog w) A (setSearchFrom a (.ref x) (tupleKeyHash knd aH) true fuel st) Q E s
 |0,n,_,_,z,_,_=>by omega
 |fuel+1,n,st,aC,hf,hst,lR=>by
  unfold setSearchFrom;refine wpAny_bind (wpAny_setState_of ho hd I.fits ?_);dsimp only;rw[if_neg (by unfold SetTable.gaveWay;simp[wc])];rw[hst];unfold SetTable.probe;have G:=Iv I (f:=fun i=>(es[i]?.map (·.1)).getD 0) (fun i e q=>by simp at q;simp[q]) (tupleKeyHash knd aH) h1 h2 (10*turns t.mask) n aC (by omega);generalize bj:probe.go t _ (tupleKeyHash knd aH) (10*turns t.mask) (cn t.mask (tupleKeyHash knd aH) n)=z;rcases G with⟨g,g2⟩|⟨m,i,e,m1,m2,n6,z7,aaV,g,g2⟩
  ·have g:=bj.symm.trans g;subst g;dsimp only;refine wpAny_pure (no fun hh=>?_);obtain⟨m,e,b,m1,q,bl,dw,lh⟩:=I.TY X h1 hh;by_cases z:m<n
   ·exact lR m z e q b dw lh
   ·exact g2 m (by omega) m1 e q bl
  ·have g:=bj.symm.trans g;subst g;dsimp only;have Et:gT t es (cn t.mask (tupleKeyHash knd aH) m).j e:=⟨i,n6,z7⟩;obtain⟨k6,b,bb,gM,_⟩:=X.at Et;have iH:es[i]?=some (e.1,.ref b):=by
    have:es[i]?=some e:=by simpa using z7
    rw[this,←bb]
   have cF:t.slot (cn t.mask (tupleKeyHash knd aH) m).j=.live i:=by obtain⟨vy,s1,s2⟩:=Jg I.tab (List.mem_of_getElem? n6);rw[s1,Iq I.tab s2 n6]
   have seen:∀y∈(Array.filter (fun z:Int×Value=>z.1==tupleKeyHash knd aH) es).toList.map (·.2),∃k6 b,y=.ref b∧IsTupleKey knd s.heap k6 b:=fun y bX=>by
    obtain⟨e,he,rfl⟩:=List.mem_map.mp bX;have he:e∈es.toList:=by simp at he;simpa using he.1
    obtain⟨k2,dg,bN,cZ,eN⟩:=X.el e he;exact⟨k2,dg,bN,cZ⟩
   cases hl:t.led
   all_goals first
    |rw[if_neg (show¬((!true)=true)by simp)]
    |(rw[if_pos (show(!false)=true from rfl)];refine wpAny_bind (Tp hx _ seen ?_);rw[if_neg (show¬(false=true)by simp)])
   all_goals
    rw[iH];dsimp only;refine wpAny_bind (wpAny_holding (wpAny_eqBool_tuple hu gM hx ?_));refine wpAny_bind (wpAny_setState_of ho hd I.fits ?_);dsimp only;by_cases q:k6=aH
    ·subst q;rw[if_pos (by simp)];exact wpAny_pure (yes ⟨e,List.mem_of_getElem? z7,b,bb,gM⟩)
    ·rw[if_neg (by simp[q])];have NP:t.sameMemory t.moves t.mask=some true:=by unfold SetTable.sameMemory;simp
     rw[NP];dsimp only;rw[if_pos rfl,cF];dsimp only;rw[iH];dsimp only;refine wpAny_bind (wpAny_isSame_ref_self ?_);rw[if_pos rfl];refine wpAny_bind (wpAny_pure ?_);dsimp only;rw[if_neg (by simp[q])];refine I8 hu ho hd I X hx wc hN h1 h2 yes no fuel (m+1) _ (by omega) (by omega) rfl fun c0 hm b6 he eV u5 zT=>?_;have key:∀e:Int×Value,gT t es (cn t.mask (tupleKeyHash knd aH) c0).j e→e.2=.ref eV→e.1=tupleKeyHash knd aH:=fun e he bb=>by obtain⟨k2,dg,bN,cZ,eN⟩:=X.at he;rw[bb]at bN;cases bN;rw[eN,cZ.inj zT]
     by_cases z:c0<n
     ·exact lR c0 z b6 he eV u5 zT
     ·by_cases aZ:c0<m
      ·exact g2 c0 (by omega) aZ b6 he (key b6 he u5)
      ·have:c0=m:=by omega
       subst this;have:=gT.inj I.tab he Et;subst this;rw[bb]at u5;cases u5;exact q (gM.inj zT)
end
section
variable{prog:Program}{w:World}{A:Around}{E:Value→Shared→Prop}{s:Shared}{K:Type}[DecidableEq K]{knd:KeyKind prog w K}
def uB(mask n:Nat):Prop:=(mask=7∧n<5)∨(mask=31∧n<19)∨(mask=127∧n<77)
theorem Mg{mask n:Nat}(h:uB mask n):gF mask∧mask%2=1:=by
 rcases h with⟨rfl,_⟩|⟨rfl,_⟩|⟨rfl,_⟩
 ·exact⟨Eg,rfl⟩
 ·exact⟨Ef,rfl⟩
 ·exact⟨Ee,rfl⟩
structure iC(knd:KeyKind prog w K)(ok:Addr→Prop)(h:Heap)(a:Addr)(S:List (List K)):Prop where
 ex:∃o es cz t,h.get? a=some o∧o.ExactSet∧o.data=.set es cz t∧fT t es∧rZ knd h es.toList∧(∀aH,uq knd h es.toList aH↔aH∈S)∧es.size=S.length∧uB t.mask es.size∧∀e∈es.toList,∀b,e.2=.ref b→ok b
theorem vH{h h':Heap}{a b:Addr}{o:Obj}{aH:List K}{es:Array (Int×Value)}{cz:Nat}{t:SetTable}(ho:h.get? a=some o)(hd:o.data=.set es cz t)(eQ:Heap.SameBut a h h')(x:IsTupleKey knd h aH b):IsTupleKey knd h' aH b:=by
 obtain⟨bJ,items,n,ho',hc,hP,hi⟩:=x;have iM:b≠a:=by rintro rfl;rw[ho]at ho';cases ho';rw[hd]at hP;cases hP
 exact⟨bJ,items,n,(eQ.2 b iM).trans ho',hc,hP,hi⟩
theorem Ri{h h':Heap}{a b:Addr}{o:Obj}{aH:List K}{es:Array (Int×Value)}{cz:Nat}{t:SetTable}(ho:h'.get? a=some o)(hd:o.data=.set es cz t)(eQ:Heap.SameBut a h h')(x:IsTupleKey knd h' aH b):IsTupleKey knd h aH b:=by
 obtain⟨bJ,items,n,ho',hc,hP,hi⟩:=x;have iM:b≠a:=by rintro rfl;rw[ho]at ho';cases ho';rw[hd]at hP;cases hP
 exact⟨bJ,items,n,(eQ.2 b iM).symm.trans ho',hc,hP,hi⟩
theorem F1{h:Heap}{a:Addr}{o:Obj}{es es':Array (Int×Value)}{cz:Nat}{t t':SetTable}(ho:h.get? a=some o)(hx:o.ExactSet)(hd:o.data=.set es cz t):∃bJ,(h.update a (Obj.putSet es' t')).get? a=some bJ∧bJ.ExactSet∧bJ.data=.set es' (cz+1) t':=by
 refine⟨_,Heap.get?_update_self _ ho (by rw[putSet_of es' t' hd];rfl),?_,?_⟩
 ·rw[putSet_of es' t' hd];exact hx
 ·rw[putSet_of es' t' hd]
theorem HE{α:Type}{es:Array α}{p:Nat}{x e:α}:e∈(insertAt es p x).toList↔e=x∨e∈es.toList:=by
 rw[vC];constructor
 ·intro h;rcases List.mem_append.mp h with h|h
  ·exact .inr (List.mem_of_mem_take h)
  ·rcases List.mem_cons.mp h with h|h
   ·exact .inl h
   ·exact .inr (List.mem_of_mem_drop h)
 ·rintro(rfl|h)
  ·simp
  ·rw[←List.take_append_drop p es.toList]at h;rcases List.mem_append.mp h with h|h
   ·exact List.mem_append_left _ h
   ·exact List.mem_append_right _ (List.mem_cons_of_mem _ h)
theorem VH{a:Addr}{o:Obj}{cz:Nat}{t:SetTable}{es:Array (Int×Value)}{M wanted:Nat}{Q:Unit→Shared→Prop}(ho:s.heap.get? a=some o)(hx:o.ExactSet)(hd:o.data=.set es cz t)(I:fT t es)(C:gF M)(hl:es.size≤M)(pk:SetTable.sizeAbove wanted=M+1)(hm:M≤127)(h:∀es' t' bJ h',Heap.SameBut a s.heap h'→h'.get? a=some bJ→bJ.ExactSet→bJ.data=.set es' (cz+1) t'→t'.mask=M→fT t' es'→es'.size=es.size→(∀e,e∈es'.toList↔e∈es.toList)→Q () { s with heap:=h' }) :
  wpAny (model prog w) A (setRelay a wanted) Q E s:=by
 unfold setRelay;refine wpAny_bind (wpAny_setState_of ho hd I.fits ?_);dsimp only;rw[if_neg (by rw[pk];show¬(M+1>sizeLine);rw[sizeLine_eq];omega)];obtain⟨t',order,au,bh,dX,l1,oi,AJ,g_,oj,Vs⟩:=R3 C hl t.finger (t.movedTo M) t.led t.plain;have e:t.relaid (es.map (·.1)) wanted=some (t',order):=by unfold SetTable.relaid;rw[pk];exact au
 rw[e];have step:wpAny (model prog w) A (if((order.filterMap (es[·]?)).size !=es.size)=true then(do unsupported "internal:set-table-lost-an-element";pure (order.filterMap (es[·]?),t'))else pure (order.filterMap (es[·]?),t')) (fun r s'=>wpAny (model prog w) A (storeSet a r.1 r.2) Q E s') E s:=by rw[if_neg (by rw[g_];simp)];refine wpAny_pure ?_;obtain⟨bJ,g1,g2,g3⟩:=F1 (es':=order.filterMap (es[·]?)) (t':=t') ho hx hd;exact wpAny_storeSet_of ho hd (h _ t' bJ _ (Heap.SameBut.update _ _ _) g1 g2 g3 bh oj g_ Vs) (by rw[g_,sizeLine_eq];omega)
 exact wpAny_bind step
theorem Lg{ok:Addr→Prop}{a x:Addr}{S:List (List K)}{aH:List K}{Q:Bool→Shared→Prop}(hu:A.units<cLine)(T:iC knd ok s.heap a S)(hx:IsTupleKey knd s.heap aH x)(bF:ok x)(ih:S.length<76)(h:∀b h',Heap.SameBut a s.heap h'→iC knd ok h' a (if aH∈S then S else S++[aH])→Q b { s with heap:=h' }) :
  wpAny (model prog w) A (setAddHashed a (.ref x) (tupleKeyHash knd aH)) Q E s:=by
 obtain⟨o,es,cz,t,ho,hex,hd,I,X,hm,aC,hr,hk⟩:=T.ex;obtain⟨C,wc⟩:=Mg hr;obtain⟨N,K6,ux,r8⟩:=I.first (tupleKeyHash knd aH);unfold setAddHashed setAddHashedIn;refine wpAny_holding (wpAny_bind (wpAny_setState_of ho hd I.fits ?_));dsimp only;rw[if_neg (by simp[byScan,Value.scannable])];unfold setSearch;refine wpAny_bind (I8 hu ho hd I X hx wc K6 ux r8 (fun yes=>?_) (fun no=>?_) 100000 0 none (Nat.zero_le _) ?_ rfl fun m hm=>absurd hm (Nat.not_lt_zero _))
 ·dsimp only;refine wpAny_pure ?_;have:=h false s.heap (Heap.SameBut.refl _ _) (by rw[if_pos ((hm aH).mp yes)];exact T);exact this
 ·dsimp only;refine wpAny_bind (wpAny_setState_of ho hd I.fits ?_);dsimp only;have bj:es.size+1≤t.mask:=by
   rcases hr with⟨e,_⟩|⟨e,_⟩|⟨e,_⟩<;>omega
  obtain⟨jx,eG,cB⟩:=I.put (x:=Value.ref x) ux r8 bj;have HK:aH∉S:=fun z=>no ((hm aH).mpr z)
  have fin:∀(t1:SetTable),t1.mask=t.mask→t1.place=(t.put (cn t.mask (tupleKeyHash knd aH) N).j).1.place→t1.dummies= #[]→
    wpAny (model prog w) A (do
     storeSet a (SetTable.insertAt es (t.put (cn t.mask (tupleKeyHash knd aH) N).j).2 (tupleKeyHash knd aH,Value.ref x)) t1
     if(!false&&t1.tooFull)=true then do
        setRelay a (SetTable.grown (es.size+1))
        pure true
      else pure true) Q E s:=by
   intro t1 aq az b7;have aQ:fT t1 (SetTable.insertAt es (t.put (cn t.mask (tupleKeyHash knd aH) N).j).2 (tupleKeyHash knd aH,Value.ref x)):=by obtain⟨⟨a1,a2,eE,hA⟩,b,c,d⟩:=jx;have em:(t.put (cn t.mask (tupleKeyHash knd aH) N).j).1.mask=t.mask:=rfl;rw[em]at hA b c d;refine⟨⟨b7,by rw[az];exact a2,by rw[az];exact eE,by rw[az,aq];exact hA⟩,by rw[aq];exact b,by rw[aq];exact c,fun j e he=>?_⟩;rw[aq,az];exact d j e (by obtain⟨i,bk,bz⟩:=he;exact⟨i,by rw[←az];exact bk,bz⟩)
   obtain⟨cA,g1,g2,g3⟩:=F1 (es':=SetTable.insertAt es (t.put (cn t.mask (tupleKeyHash knd aH) N).j).2 (tupleKeyHash knd aH,Value.ref x)) (t':=t1) ho hex hd;have IZ:=Heap.SameBut.update s.heap a (Obj.putSet (SetTable.insertAt es (t.put (cn t.mask (tupleKeyHash knd aH) N).j).2 (tupleKeyHash knd aH,Value.ref x)) t1);have done:∀(h':Heap)(es':Array (Int×Value))(t':SetTable)(bJ:Obj)(pf:Nat),Heap.SameBut a s.heap h'→h'.get? a=some bJ→bJ.ExactSet→bJ.data=.set es' pf t'→fT t' es'→es'.size=es.size+1→(∀e,e∈es'.toList↔e=(tupleKeyHash knd aH,Value.ref x)∨e∈es.toList)→uB t'.mask es'.size→Q true { s with heap:=h' }:=by
    intro h' es' t' bJ pf eQ aS bl dw lh pV kv iq;refine h true h' eQ ⟨bJ,es',pf,t',aS,bl,dw,lh,⟨fun e he=>?_⟩,fun k2=>?_,?_,iq,fun e he b bb=>?_⟩
    ·rcases(kv e).mp he with rfl|he
     ·exact⟨aH,x,rfl,vH ho hd eQ hx,rfl⟩
     ·obtain⟨k3,oY,bN,cZ,eN⟩:=X.el e he;exact⟨k3,oY,bN,vH ho hd eQ cZ,eN⟩
    ·rw[if_neg HK,List.mem_append,←hm k2];constructor
     ·rintro⟨e,he,b,bb,gM⟩;have gM:=Ri aS dw eQ gM;rcases(kv e).mp he with rfl|he
      ·cases bb;exact .inr (by rw[gM.inj hx];simp)
      ·exact .inl ⟨e,he,b,bb,gM⟩
     ·rintro(⟨e,he,b,bb,gM⟩|z)
      ·exact⟨e,(kv e).mpr (.inr he),b,bb,vH ho hd eQ gM⟩
      ·simp at z;subst z;exact⟨_,(kv _).mpr (.inl rfl),x,rfl,vH ho hd eQ hx⟩
    ·rw[if_neg HK,pV,aC];simp
    ·rcases(kv e).mp he with rfl|he
     ·cases bb;exact bF
     ·exact hk e he b bb
   refine wpAny_bind (wpAny_storeSet_of ho hd ?_ (by rw[cB,sizeLine_eq];omega));have JW:t1.tooFull=decide ((es.size+1)*5≥t.mask*3):=by
    unfold SetTable.tooFull SetTable.fill;have:t1.place.size=es.size+1:=by have:=aQ.tab.l2;rw[cB]at this;exact this
    rw[this,aq,b7];simp
   by_cases full:(es.size+1)*5≥t.mask*3
   ·rw[if_pos (by rw[JW];simpa using full)];have big:∃M,gF M∧SetTable.sizeAbove (SetTable.grown (es.size+1))=M+1∧M≤127∧es.size+1≤M∧uB M (es.size+1):=by
     rcases hr with⟨e,l⟩|⟨e,l⟩|⟨e,l⟩
     ·have:es.size=4:=by omega
      rw[this];exact⟨31,Ef,by decide+kernel,by omega,by omega,.inr (.inl ⟨rfl,by omega⟩)⟩
     ·have:es.size=18:=by omega
      rw[this];exact⟨127,Ee,by decide+kernel,by omega,by omega,.inr (.inr ⟨rfl,by omega⟩)⟩
     ·omega
    obtain⟨M,bN,cZ,eN,kP,yH⟩:=big;refine wpAny_bind (VH g1 g2 g3 aQ bN (by rw[cB];exact kP) cZ eN fun es' t' bJ h' eQ aS bl dw lh pV kv iq=>wpAny_pure ?_);exact done h' es' t' bJ _ (IZ.trans eQ) aS bl dw pV (by rw[kv,cB]) (fun e=>by rw[iq e,HE]) (by rw[lh,kv,cB];exact yH)
   ·rw[if_neg (by rw[JW];simpa using full)];refine wpAny_pure (done _ _ t1 cA _ IZ g1 g2 g3 aQ cB (fun e=>HE) ?_);rw[aq,cB];rcases hr with⟨e,l⟩|⟨e,l⟩|⟨e,l⟩
    ·exact .inl ⟨e,by omega⟩
    ·exact .inr (.inl ⟨e,by omega⟩)
    ·exact .inr (.inr ⟨e,by omega⟩)
  have ek:(t.put (cn t.mask (tupleKeyHash knd aH) N).j).1.dummies= #[]:=jx.tab.sk
  split
  ·refine wpAny_bind (LM hx fun b=>?_);cases b
   ·exact fin _ rfl rfl ek
   ·exact fin _ rfl rfl ek
  ·refine wpAny_bind (wpAny_pure ?_);exact fin _ rfl rfl ek
 ·have:10*turns t.mask≤1420:=by
    rcases hr with⟨e,_⟩|⟨e,_⟩|⟨e,_⟩<;>rw[e]<;>decide
  omega
end
end eD
namespace eD
open PySem PySem.Spec PyProof.Rows
section
variable{prog:Program}{w:World}{K:Type}[DecidableEq K]{knd:PySem.KeyKind prog w K}
def kc(S:List (List K))(aH:List K):List (List K):=if aH∈S then S else S++[aH]
def ic(keys:List (List K)):List (List K):=keys.foldl kc []
theorem Ej(keys:List (List K)):(ic keys).length≤keys.length:=by
 have:∀(l S:List (List K)),(l.foldl kc S).length≤S.length+l.length:=by
  intro l;induction l with
  |nil=>intro S;simp
  |cons k l bQ=>
   intro S;have:=bQ (kc S k);have h2:(kc S k).length≤S.length+1:=by unfold kc;split<;>simp
   simp only[List.foldl_cons,List.length_cons];omega
 have:=this keys [];simpa[ic]using this
theorem Mv{keys:List (List K)}{i:Nat}{aH:List K}(h:keys[i]?=some aH):ic (keys.take (i+1))=kc (ic (keys.take i)) aH:=by unfold ic;rw[List.take_add_one,h];simp[List.foldl_append]
section
variable{A:Around}{R:Result→Shared→Prop}{I:Addr}{a6 wr:List Addr}{G:Array GenState→Array GenState→Prop}{n:Nat}{P:Nat→Value→Prop}{St:Nat→Shared→Prop}
noncomputable def r4(knd:PySem.KeyKind prog w K)(keys:List (List K))(P:Nat→Value→Prop)(no:List Addr)(h:Heap):Prop:=∀i v,P i v→∃b aH,v=.ref b∧b∉no∧keys[i]?=some aH∧IsTupleKey knd h aH b
theorem r4.but{keys:List (List K)}{no:List Addr}{h h':Heap}(k:r4 knd keys P no h)(m:∀b o,b∉no→h.get? b=some o→h'.get? b=some o):r4 knd keys P no h':=fun i v p=>by obtain⟨b,aH,e,nb,q,o,it,c,ho,r⟩:=k i v p;exact⟨b,aH,e,nb,q,o,it,c,m b o nb ho,r⟩
theorem iC.moved{ok:Addr→Prop}{h h':Heap}{S:Addr}{L:List (List K)}(T:iC knd ok h S L)(SD:∀o,h.get? S=some o→h'.get? S=some o)(m:∀b o,ok b→h.get? b=some o→h'.get? b=some o):iC knd ok h' S L:=by
 obtain⟨o,es,cz,t,ho,hex,hd,K7,X,hm,aC,hr,hb⟩:=T.ex;have aK:∀e∈es.toList,∀b aH,e.2=.ref b→(IsTupleKey knd h aH b↔IsTupleKey knd h' aH b):=fun e he b aH bb=>by
  have nb:=hb e he b bb;obtain⟨k2,dg,bN,⟨b3,it,c,g1,g2⟩,eN⟩:=X.el e he;rw[bb]at bN;cases bN;have FX:=m b b3 nb g1;constructor
  ·rintro⟨bJ,s7,ej,aS,bl⟩;rw[g1]at aS;cases aS;exact⟨b3,s7,ej,FX,bl⟩
  ·rintro⟨bJ,s7,ej,aS,bl⟩;rw[FX]at aS;cases aS;exact⟨b3,s7,ej,g1,bl⟩
 refine⟨o,es,cz,t,SD o ho,hex,hd,K7,⟨fun e he=>?_⟩,fun aH=>?_,aC,hr,hb⟩
 ·obtain⟨k2,dg,bN,cZ,eN⟩:=X.el e he;exact⟨k2,dg,bN,(aK e he dg k2 bN).mp cZ,eN⟩
 ·rw[←hm aH];constructor
  ·rintro⟨e,he,b,bb,gM⟩;exact⟨e,he,b,bb,(aK e he b aH bb).mpr gM⟩
  ·rintro⟨e,he,b,bb,gM⟩;exact⟨e,he,b,bb,(aK e he b aH bb).mp gM⟩
theorem So(W:WalksS prog w A.in1 I a6 wr G n P St)(S:Addr)(vl:S∉a6)(keys:List (List K))(aC:keys.length=n)(hb:n<77)(hu:A.in1.units<cLine) :
  ∀(k i:Nat)(s:Shared),n-i=k→i≤n→St i s→r4 knd keys P (S::wr) s.heap→iC knd (fun b=>b∉S::wr) s.heap S (ic (keys.take i))→
   (∀s',Moved (S::wr) G s s'→iC knd (fun b=>b∉S::wr) s'.heap S (ic keys)→R (.ok (.ret .none)) s')→
   codeAny (model prog w) A (.builtin "set.update.loop" ⟨[.ref S,.ref I],[]⟩) R s:=by
 have OC:S∉wr:=fun h=>vl (W.sub _ h);have lT:∀b∈wr,b∈S::wr:=fun b hb=>List.mem_cons_of_mem _ hb;have keep:∀{s s':Shared}{L:List (List K)},Moved wr G s s'→iC knd (fun b=>b∉S::wr) s.heap S L→iC knd (fun b=>b∉S::wr) s'.heap S L:=fun m T=>
  T.moved (fun o e=>m.heap S o OC e) fun b o nb e=>m.heap b o (fun z=>nb (lT b z)) e
 intro k;induction k with
 |zero=>
  intro i s hk hi hst Hl T hR;have e:i=n:=by omega
  subst e;refine codeAny_builtin F.entry_set_update_loop ?_;rw[Around.under_plainId F.plain_set_update_loop _];show wpAny _ A.in1 (pyNext (.ref I)>>=_) _ _ s;refine wpAny_bind (W.done s _ _ hst fun s' hm=>?_);show wpAny _ A.in1 (ret Value.none) _ _ s';rw[←aC,List.take_length]at T;exact wpAny_pure (hR s' (hm.mono lT) (keep hm T))
 |succ k bQ=>
  intro i s hk hi hst Hl T hR;have fB:i<n:=by omega
  refine codeAny_builtin F.entry_set_update_loop ?_;rw[Around.under_plainId F.plain_set_update_loop _];show wpAny _ A.in1 (pyNext (.ref I)>>=_) _ _ s;refine wpAny_bind (W.item i s _ _ fB hst fun v s' de Px hm=>?_);have Hm:r4 knd keys P (S::wr) s'.heap:=Hl.but fun b o nb e=>hm.heap b o (fun z=>nb (lT b z)) e;have i7:=keep hm T;obtain⟨b,aH,rfl,nb,g0,gM⟩:=Hm i v de;show wpAny _ A.in1 (holding [Value.ref b] (setAdd S (.ref b))>>=_) _ _ s';refine wpAny_bind (wpAny_holding ?_);unfold setAdd;refine wpAny_holding (wpAny_bind (wpAny_pyHash_tuple hu gM ?_));have room:(ic (keys.take i)).length<76:=by have:=Ej (keys.take i);rw[List.length_take]at this;omega
  refine Lg (s:={ s' with toks:=s'.toks+(aH.length+1) }) hu i7 gM nb room fun c h' eQ K8=>?_;have K9:iC knd (fun b=>b∉S::wr) h' S (ic (keys.take (i+1))):=by rw[Mv g0];exact K8
  have va:∀eV o,eV∉S::wr→s'.heap.get? eV=some o→h'.get? eV=some o:=fun eV o S6 e=>by rw[eQ.2 eV (fun z=>S6 (by rw[z];exact List.mem_cons_self))];exact e
  refine wpAny_pure ⟨plainId_quiet F.plain_set_update_loop _,bQ (i+1) _ (by omega) fB (W.frame _ s' _ _ Px (Nat.le_add_right _ _) fun eV kU o e=>?_) (Hm.but va) K9 fun iV Pa OB=>?_⟩
  ·rw[eQ.2 eV (fun h:eV=S=>vl (by rw[←h];exact kU))];exact e
  ·refine hR iV (Moved.trans W.gtrans ((hm.mono lT).then_heap (Nat.le_add_right _ _) fun eV o kU e=>?_) Pa) OB;rw[eQ.2 eV (fun h:eV=S=>kU (by rw[h];exact List.mem_cons_self))];exact e
end
end
section
variable{prog:Program}{w:World}{A:Around}{E:Value→Shared→Prop}{s:Shared}{K:Type}[DecidableEq K]{knd:PySem.KeyKind prog w K}
def kx(led:Bool):Obj:={ cls:=.type "set",dict:=none,data:=.set #[] 0 (.fresh 0 0 led) }
theorem iC.new{ok:Addr→Prop}{h:Heap}{S:Addr}{led:Bool}(e:h.get? S=some (kx led)):iC knd ok h S []:=
 ⟨_,#[],0,_,e,⟨rfl,rfl,rfl⟩,rfl,⟨⟨rfl,rfl,by simp[SetTable.fresh],by simp[SetTable.fresh]⟩,Eg,Nat.zero_le _,fun j e he=>by obtain⟨i,_,q⟩:=he;simp at q⟩,⟨fun e he=>by simp at he⟩,fun aH=>⟨fun⟨e,he,_⟩=>by simp at he,fun z=>by simp at z⟩,rfl,.inl ⟨rfl,by show 0<5;omega⟩,fun e he=>by simp at he⟩
set_option maxHeartbeats 3200000 in
theorem L3{l:Addr}{items:Array Value}{keys:List (List K)}{Q:Value→Shared→Prop}(hh:A.handled=none)(hu:A.units+64<cLine)(hl:s.heap.IsList l items)(hk:keys.length=items.size)(hb:items.size<77)(hi:∀(i:Nat) v,items[i]?=some v→∃b aH,v=.ref b∧keys[i]?=some aH∧IsTupleKey knd s.heap aH b)(h:∀(h':Heap)(cX:Nat),iC knd (fun _=>True) h' s.heap.objs.size (ic keys)→(∀b o,s.heap.get? b=some o→h'.get? b=some o)→Q (.ref s.heap.objs.size) { s with heap:=h',toks:=cX }) :
  wpAny (model prog w) A (call (.type "set") [.ref l]) Q E s:=by
 obtain⟨c,bH,aat⟩:=F.called_set.mro;have aas:=F.called_set.made;have lT:=F.called_set.sub;refine wpAny_call (codeAny_of_tree ?_);show wpAny _ _ (callAny (.type "set") _) _ _ _;refine wpAny_pure ⟨Code.quiet_builtin _ (by decide+kernel),codeAny_builtin F.entry_type_call ?_⟩;rw[Around.under_plain (weight_type_call_type "set" [.ref l] []) rfl];have h1:=F.called_set.notType;have h2:=F.called_set.canCreate;have aah:=F.typeCall_set_1 (.ref l)
 repeat (any_goals (first|assumption|wp_step))
 refine codeAny_mono (code_set_new_1 (.ref l) (E:=E) (Q₁:=fun obj c4=>∃led:Bool,obj=.ref s.heap.objs.size∧c4={ s with heap:=s.heap.push (kx led) }) fun led=>⟨led,rfl,rfl⟩) fun r c4 hr=>?_;rcases r with e|fl
 ·exact hr
 ·cases fl with
  |ret obj=>
   obtain⟨led,rfl,rfl⟩:=hr;have ih:(s.heap.push (kx led)).get? s.heap.objs.size=some (kx led):=Heap.get?_push_size _ rfl;have fZ:Shared.TypeIs { s with heap:=s.heap.push (kx led) } (.ref s.heap.objs.size) "set":=⟨_,ih,rfl⟩;have sR:=F.called_set.init.lookup;have aag:=F.called_set.init.bind (.ref s.heap.objs.size)
   repeat (any_goals (first|assumption|wp_step))
   refine codeAny_mono (codeAny_call_builtin (R:=wants (fun r lx=>r=.none∧∃h' cX,lx={ s with heap:=h',toks:=cX }∧iC knd (fun _=>True) h' s.heap.objs.size (ic keys)∧(∀b o,s.heap.get? b=some o→h'.get? b=some o)) E) F.called_set.init.plain F.entry_set_init (check_set_init_1 fZ ?_)) fun VY lx zB=>?_
   ·obtain⟨ol,q0,jJ,nl,qW⟩:=hl;obtain⟨aa3,TC,aa4,Ua⟩:=ol;simp only at jJ qW;subst jJ;subst qW;have Pk:(s.heap.push (kx led)).get? l=some { cls:=.type "list",dict:=TC,data:=.seq items nl,slots:=Ua }:=Heap.get?_push_of_some _ q0;have aaA:=F.sub_list_set;have aaz:=F.sub_list_frozenset;have iM:(Value.type "list"==Value.type "dict")=false:=by decide
    have Gi:(s.heap.push (kx led)).IsList l items:=⟨_,Pk,rfl,nl,rfl⟩;unfold Builtin.«set.__init__» noKeywords Builtin.Frozenset.updateFrom;generalize Oz:pyIter=fR
    wp_walk
    subst Oz;refine wpAny_pyIter_list Gi ?_;refine wpAny_bind (wpAny_runValue ?_);have Gj:l<s.heap.objs.size:=Heap.lt_size q0;have y3:(s.heap.push (kx led)).objs.size=s.heap.objs.size+1:=Heap.size_push _ _;have Pd:l≠(s.heap.push (kx led)).objs.size:=by rw[y3];exact Nat.ne_of_lt (Nat.lt_succ_of_lt Gj)
    have vl:s.heap.objs.size∉[(s.heap.push (kx led)).objs.size,l]:=by rw[y3];simp only[List.mem_cons,List.mem_singleton,List.not_mem_nil,or_false,not_or];exact⟨Nat.ne_of_lt (Nat.lt_succ_self _),Nat.ne_of_gt Gj⟩
    have F0:∀b o,s.heap.get? b=some o→((s.heap.push (kx led)).push { cls:=.type "list_iterator",data:=.fields #[.ref l,.int 0 0] }).get? b=some o:=fun b o e=>Heap.get?_push_of_some _ (Heap.get?_push_of_some _ e);have va:∀b o,s.heap.get? b=some o→b∉s.heap.objs.size::[(s.heap.push (kx led)).objs.size]:=fun b o e=>by have:=Heap.lt_size e;rw[y3];simp only[List.mem_cons,List.mem_singleton,List.not_mem_nil,or_false,not_or];exact⟨Nat.ne_of_lt this,Nat.ne_of_lt (Nat.lt_succ_of_lt this)⟩
    refine So (knd:=knd) ((Walks.list (by simp[hh]) _ l Pd items).toS) s.heap.objs.size vl keys hk hb (by simp only[Around.in1_units];omega) (items.size-0) 0 _ (by omega) (Nat.zero_le _)
     ⟨⟨_,Heap.get?_push_size _ rfl,rfl,rfl⟩,(Gi.push _)⟩ (fun i v p=>?_) (iC.new (led:=led) (Heap.get?_push_of_some _ ih)) ?hR
    ·obtain⟨b,aH,rfl,q,o,it,c,ho,r⟩:=hi i v p;exact⟨b,aH,rfl,va b o ho,q,o,it,c,F0 b o ho,r⟩
    case hR=>intro s' hm zi;obtain⟨h',g',d',Yc,Au⟩:=s';have eg:g'=s.gens:=hm.gens;have ek:d'=s.drawn:=hm.drawn;have qT:Au=s.os:=hm.os;subst eg;subst ek;subst qT;show wpAny _ _ _ _ _ _;refine wpAny_pure ?_;show wpAny _ _ (ret Value.none) _ _ _;obtain⟨o,es,cz,t,aS,bl,dw,lh,pV,kv,iq,AH,AI⟩:=zi.ex;exact wpAny_pure ⟨rfl,h',Yc,rfl,⟨o,es,cz,t,aS,bl,dw,lh,pV,kv,iq,AH,fun _ _ _ _=>trivial⟩,fun b o e=>hm.heap b o (va b o e) (F0 b o e)⟩
   ·rcases VY with e|Od
    ·exact zB
    ·cases Od with
     |ret r=>
      obtain⟨rfl,h',cX,rfl,zi,kV⟩:=zB
      repeat (any_goals (first|assumption|wp_step))
      exact h _ _ zi kV
     |_=>exact zB.elim
  |_=>exact hr.elim
end
end eD
namespace LT
open PySem PyProof.Rows
structure j4(hV:SortKind)(fF:Array Keyed)(st:SortSt):Prop where
 k:kindOf st=hV
 p:(arrOf st).Perm fF
 n:pendingOf st= #[]
 f:failedOf st=none
theorem j4.p4{hV:SortKind}{fF:Array Keyed}{st:SortSt}(b:j4 hV fF st):(arrOf st).size=fF.size:=b.p.size_eq
theorem j4.to{hV:SortKind}{fF:Array Keyed}{st:SortSt}(b:j4 hV fF st){xs:Array Keyed}(q:xs.Perm (arrOf st)):j4 hV fF (setArr st xs):=⟨b.k,q.trans b.p,b.n,b.f⟩
structure Df(prog:Program)(w:World)(A:Around)(s:Shared)(hV:SortKind)(κ:KeyKind)(fF:Array Keyed):Prop where
 lt:∀(E:Value→Shared→Prop)(x y:Keyed){Q:Bool→Shared→Prop},x∈fF.toList→y∈fF.toList→Q (κ.blt ((κ.keyOf x.1).getD κ.dflt) ((κ.keyOf y.1).getD κ.dflt)) s→wpAny (model prog w) A (keyLt' hV x.1 y.1) Q E s
section
variable{prog:Program}{w:World}{A:Around}{E:Value→Shared→Prop}{s:Shared}{fF:Array Keyed}{κ:KeyKind}{hV:SortKind}
theorem j4.at{st:SortSt}(b:j4 hV fF st){i:Nat}(hi:i<fF.size):∃x,(arrOf st)[i]?=some x∧x∈fF.toList∧KK κ (arrOf st) i=(κ.keyOf x.1).getD κ.dflt:=by
 have g:i<(arrOf st).size:=by rw[b.p4];exact hi
 have e:=getElem?_pos (arrOf st) i g;refine⟨_,e,(Array.perm_iff_toList_perm.mp b.p).mem_iff.mp (by simp),?_⟩;unfold KK;rw[e]
theorem Su(C:Df prog w A s hV κ fF){st:SortSt}(b:j4 hV fF st){i j:Nat}{Q:Option Bool→SortSt→Prop}(hi:i<fF.size)(cg:j<fF.size)(h:Q (some (κ.blt (KK κ (arrOf st) i) (KK κ (arrOf st) j))) st):wpS (model prog w) A E s (ltAt' i j) Q st:=by obtain⟨x,e2,cc,qd⟩:=b.at (κ:=κ) hi;obtain⟨y,fD,f7,hn⟩:=b.at (κ:=κ) cg;rw[qd,hn]at h;rw[ltAt'_eq];refine wpS_bind (wpS_get ?_);show wpS _ _ _ _ (elem' (arrOf st) i>>=fun x=>elem' (arrOf st) j>>=fun y=>lt' x y) Q st;rw[elem'_eq,e2,elem'_eq,fD];refine wpS_bind (wpS_pure (wpS_bind (wpS_pure ?_)));rw[lt'_eq];refine wpS_bind (wpS_get (wpS_bind (wpS_lift (wpAny_attempt ?_))));rw[b.k];exact C.lt _ x y cc f7 ⟨rfl,wpS_pure h⟩
theorem Yv{xs:Array Keyed}:SortedToK κ xs 1:=fun i j a c=>by
 have:i=j:=by omega
 subst this;exact KeyOrd.kle_refl _
theorem uU(C:Df prog w A s hV κ fF){st:SortSt}{n ok:Nat}{Q:Bool→SortSt→Prop}(aC:n≤fF.size)(hk:ok≤n)(b:j4 hV fF st)(hs:SortedToK κ (arrOf st) ok)(h:∀t,j4 hV fF t→SortedToK κ (arrOf t) n→Q true t):wpS (model prog w) A E s (binarySort' 0 n ok) Q st:=by
 rw[binarySort'_eq];simp only[Nat.zero_add];refine wpS_bind (wpS_mono (wpS_forRange (I:=fun k c t=>c=(none,())∧j4 hV fF t∧SortedToK κ (arrOf t) (min k n)) (Q:=fun c t=>c=(none,())∧j4 hV fF t∧SortedToK κ (arrOf t) n) ?_ ?_ ?_) ?_)
 ·rintro k c t k1 k2 ⟨rfl,b,g⟩;have g0:min k n=k:=by omega
  rw[g0]at g;have bj:k<(arrOf t).size:=by rw[b.p4];omega
  refine wpS_bind (wpS_mono (wpS_forRange (I:=fun x c u=>u=t∧∃l r,c=(none,l,r)∧l≤r∧r≤k∧r-l≤k-x∧(∀i,i<l→κ.kle (KK κ (arrOf t) i) (KK κ (arrOf t) k))∧∀i,r≤i→i<k→κ.klt (KK κ (arrOf t) k) (KK κ (arrOf t) i))
   (Q:=fun c u=>u=t∧∃l r,c=(none,l,r)∧l≤k∧(∀i,i<l→κ.kle (KK κ (arrOf t) i) (KK κ (arrOf t) k))∧∀i,l≤i→i<k→κ.klt (KK κ (arrOf t) k) (KK κ (arrOf t) i)) ?_ ?_ ⟨rfl,0,k,rfl,by omega,by omega,by omega,fun i z=>by omega,fun i z fb=>by omega⟩) ?_)
  ·rintro x c u _ cc ⟨rfl,l,r,rfl,dU,cf,RZ,lo,hi⟩;dsimp only;by_cases z:l≥r
   ·rw[if_pos z];have e:l=r:=by omega
    subst e;exact wpS_pure ⟨rfl,l,l,rfl,cf,lo,hi⟩
   rw[if_neg z];refine wpS_bind (Su C b (by omega) (by omega) ?_);cases e:κ.blt (KK κ (arrOf u) k) (KK κ (arrOf u) ((l+r)/2))with
   |true=>exact wpS_pure ⟨rfl,l,(l+r)/2,rfl,by omega,by omega,by omega,lo,fun i a c=>KeyOrd.klt_of_klt_of_kle e (g _ _ a c)⟩
   |false=>exact wpS_pure ⟨rfl,(l+r)/2+1,r,rfl,by omega,by omega,by omega,fun i a=>KeyOrd.kle_trans (g i ((l+r)/2) (by omega) (by omega)) (show κ.kle _ _ from e),hi⟩
  ·rintro c u ⟨rfl,l,r,rfl,dU,cf,RZ,lo,hi⟩;have e:l=r:=by omega
   subst e;exact⟨rfl,l,l,rfl,cf,lo,hi⟩
  ·rintro c u ⟨rfl,l,r,rfl,dU,lo,hi⟩;show wpS _ _ _ _ (moveDown' k l>>=fun _=>pure (ForInStep.yield (none,()))) _ _;rw[moveDown'_eq];refine wpS_bind (wpS_modify (wpS_pure ⟨rfl,b.to (bubble_perm _ _ _),?_⟩));rw[show min (k+1) n=k+1 by omega];intro i j aaC zS;show κ.kle (KK κ (bubble (arrOf u) k (k-l)) i) (KK κ (bubble (arrOf u) k (k-l)) j);rw[KK_bubble bj (by omega),KK_bubble bj (by omega),show k-(k-l)=l by omega]
   repeat' split
   all_goals first|omega|exact KeyOrd.kle_refl _|exact lo _ (by omega)|exact KeyOrd.kle_of_klt (hi _ (by omega) (by omega))|exact g _ _ (by omega) (by omega)
 ·rintro c t ⟨rfl,b,g⟩;rw[show min (max (max ok 1) n) n=n by omega]at g;exact⟨rfl,b,g⟩
 ·refine⟨rfl,b,?_⟩;by_cases z:ok=0
  ·subst z;intro i j a c;exact Yv i j a (by omega)
  ·rw[show min (max ok 1) n=ok by omega];exact hs
 ·rintro c t ⟨rfl,b,g⟩;exact wpS_pure (h t b g)
end
noncomputable def ltI:List Int→List Int→Bool
 |[],[]=>false
 |[],_::_=>true
 |_::_,[]=>false
 |a::x,b::y=>if a=b then ltI x y else decide (a<b)
section
variable{prog:Program}{w:World}{A:Around}{E:Value→Shared→Prop}{s:Shared}
def FN(k:Int×Int×Int):List Int:=[k.1,k.2.1,k.2.2]
end
section
variable{prog:Program}{w:World}{A:Around}{E:Value→Shared→Prop}{s:Shared}
end
def Se(a b:Int×Int×Int):Bool:=!ltI (FN b) (FN a)
def Xm(aH:List (Int×Int×Int)):List (Int×Int×Int):=aH.mergeSort Se
section
variable{prog:Program}{w:World}{A:Around}{E:Value→Shared→Prop}{s:Shared}
end
end LT
namespace aX
open PySem PySem.Spec PyProof.Rows
section
variable{X:aM}
noncomputable def Dr(a:Addr)(n:Nat)(h:Heap):Prop:=∃o es cz t,h.get? a=some o∧o.ExactSet∧o.data=.set es cz t∧t.fits es.size=true∧es.size=n
def wV(a:Addr)(n:Nat):dK:=.ext (Dr a n)
theorem Xx{P:Program}{w:World}{H:ai}{h:Heap}{a:Addr}{n:Nat}(x:Dr a n h):e5 P w H h a (wV a n):=
 ⟨x,by obtain⟨o,_,_,_,e,_⟩:=x;exact⟨o,e⟩,fun h1 h2 y k=>by obtain⟨o,es,cz,t,e,r⟩:=y;exact⟨o,es,cz,t,k o e,r⟩⟩
noncomputable def Dl(H:ai)(ys:List V)(keys:List (List Key)):Prop:=keys.length=ys.length∧∀(i:Nat) y k,ys[i]?=some y→keys[i]?=some k→∃b,y=.ref b∧H b=some (.tup (k.map cM))
noncomputable def VA(K:PySem.W.Frag):List V→ai→cP→Prop:=fun xs H Q=>∃p ys keys,xs=[.ref p]∧bP K H p ys∧ys.length<77∧Dl H ys keys∧∀l,H l=none→Q (.ref l) (upd H l (wV l (eD.ic keys).length))
theorem L2(hh:X.A.handled=none)(hu:X.A.units+64<cLine):gR X (.type "set") (VA X.K):=by
 intro pins s σ H xs us Q I r h;obtain⟨p,ys,keys,rfl,aJ,aC,⟨hl,hk⟩,q⟩:=h;obtain⟨u,rfl,bw⟩:=vals1 r;cases bw;obtain⟨its,bf,pl,bj⟩:=I.list aJ;have hlen:=bf.length;refine eD.L3 (knd:=hW X.prog X.w) (items:=its.toArray) (keys:=keys) hh hu pl.isList (by rw[List.size_toArray];omega) (by rw[List.size_toArray];omega) (fun i v hv=>?_) fun h' cX T aK=>?_
 ·have hv:its[i]?=some v:=by simpa using hv
  have hi:=(List.getElem?_eq_some_iff.mp hv).1;have dB:ys[i]?=some ys[i]:=List.getElem?_eq_getElem (by omega);have g0:keys[i]?=some keys[i]:=List.getElem?_eq_getElem (by omega);obtain⟨b,aq,az⟩:=hk i _ _ dB g0;obtain⟨oA,vw,bV⟩:=bf.get dB;rw[hv]at vw;cases vw;rw[aq]at bV;cases bV;exact⟨b,_,rfl,g0,q6 I.bF az⟩
 ·obtain⟨o,es,cz,t,g1,g2,g3,jH,lP,za,Om,zb⟩:=T.ex;exact⟨.ref s.heap.objs.size,_,I.laid (t':=cX) aK (Nat.le_refl _) (Xx ⟨o,es,cz,t,g1,g2,g3,jH.fits,Om⟩),rfl,q _ (I.bF.fresh (Nat.le_refl _))⟩
def Vy:List V→ai→cP→Prop:=fun xs H Q=>∃a n,xs=[.ref a]∧H a=some (wV a n)∧n<1000∧Q (.int n) H
theorem L0:gR X (.builtin "len") Vy:=by intro pins s σ H xs us Q I r h;obtain⟨a,n,rfl,ha,aC,q⟩:=h;obtain⟨u,rfl,bw⟩:=vals1 r;cases bw;obtain⟨⟨o,es,cz,t,g1,g2,g3,jH,lP⟩,_⟩:=(show e5 X.prog X.w H s.heap a (wV a n)from I.bF a _ ha);subst lP;exact call_len_set g1 g2 g3 jH (by omega) ⟨.int es.size,H,I.tok _,⟨_,rfl⟩,q⟩
noncomputable def Vw:V→List V→ai→cP→Prop:=fun x vs H Q=>∃l xs i y,x=.ref l∧vs=[.int i,y]∧H l=some (.lst xs)∧0≤i∧i<2^63∧xs.length<sizeLine∧Q .non (upd H l (.lst (xs.take (min i.toNat xs.length)++y::xs.drop (min i.toNat xs.length))))
theorem SV:uw X "list.insert" Vw:=by
 intro pins s σ H x vs v us Q I bw bV h;obtain⟨l,xs,i,y,rfl,rfl,g5,h1,h2,bj,q⟩:=h;cases bw;obtain⟨u,gE,rfl,⟨t,rfl⟩,ed⟩:∃u gE,us=[u,gE]∧RelV (.int i) u∧RelV y gE:=by
  cases bV with
  |cons a1 d_=>cases d_ with
   |cons a2 dg=>cases dg;exact⟨_,_,rfl,a1,a2⟩
 obtain⟨z,its,n,r,hl,e⟩:=I.n5 g5;refine call_meets F.slot_list_insert ⟨_,e,rfl⟩ F.entry_list_insert (F.args_list_insert_3 _ _ _) (AutoListH.list_insert_list_int_val_1 l its.toArray n i t gE (by rw[fitsIndex_both (by omega) h2];simp) (by rw[List.size_toArray];omega)) ⟨e,?_⟩;refine⟨.non,_,I.vN (its':=its.take (min i.toNat xs.length)++gE::its.drop (min i.toNat xs.length)) g5 e ?_ ((r.take _).append (.cons ed (r.drop _))) ?_,rfl,q⟩
 ·dsimp only;rw[if_neg (by omega),List.size_toArray,←hl];apply Array.ext';simp[List.extract_eq_take_drop];exact List.take_of_length_le (by rw[List.length_drop];omega)
 ·rw[List.length_append,List.length_cons,List.length_take,List.length_drop];omega
end
end aX
namespace aB
open PySem PySem.Spec aX PyProof.Rows
section
variable{X:aM}{F:bt}{e a b c:Expr}{es:List Expr}{pos p:Pos}{m n:aD}{ma:aP}
def G9:D→Option Key
 |.int i=>some (.inl i)
 |.str x=>some (.inr x)
 |_=>none
noncomputable def keysOf:List D→Option (List Key)
 |[]=>some []
 |d::ds=>match G9 d,keysOf ds with
  |some k,some aH=>some (k::aH)
  |_,_=>none
def Cn:D→Option (List Key)
 |.tup ds=>keysOf ds
 |_=>none
noncomputable def p_:List D→Option (List (List Key))
 |[]=>some []
 |d::ds=>match Cn d,p_ ds with
  |some k,some aH=>some (k::aH)
  |_,_=>none
noncomputable def ta:List D→R D
 |[.lst ds]=>if ds.length<77 then match p_ ds with
  |some aH=>.ok (.int (eD.ic aH).length)
  |none=>.bad
  else .bad
 |_=>.bad
theorem Ha{K:PySem.W.Frag}{G:ai}:∀{ds:List D}{aH:List Key}{xs:List V},keysOf ds=some aH→aL K G ds xs→xs=aH.map cM
 |[],aH,xs,e,h=>by simp only[keysOf]at e;cases e;simp only[aL]at h;subst h;rfl
 |d::ds,aH,xs,e,h=>by
  simp only[keysOf]at e
  split at e
  ·rename_i k k6 aq az;cases e;simp only[aL]at h;obtain⟨v,r,rfl,a1,a2⟩:=h;rw[Ha az a2,List.map_cons];cases d<;>simp only[G9]at aq<;>first|(cases aq;done)|(cases aq;simp only[At]at a1;subst a1;rfl)
  ·cases e
theorem JY{K:PySem.W.Frag}{G:ai}:∀{ds:List D}{aH:List (List Key)}{xs:List V},p_ ds=some aH→aL K G ds xs→Dl G xs aH
 |[],aH,xs,e,h=>by simp only[p_]at e;cases e;simp only[aL]at h;subst h;exact⟨rfl,fun i y k aq=>by simp at aq⟩
 |d::ds,aH,xs,e,h=>by
  simp only[p_]at e
  split at e
  ·rename_i k k6 aq az;cases e;simp only[aL]at h;obtain⟨v,r,rfl,a1,a2⟩:=h;obtain⟨dU,cf⟩:=JY az a2;refine⟨by simp[dU],fun i y k' aS bl=>?_⟩;cases i with
   |succ i=>exact cf i y k' (by simpa using aS) (by simpa using bl)
   |zero=>
    simp at aS bl;subst aS bl;cases d<;>simp only[Cn]at aq<;>first|(cases aq;done)|skip
    simp only[At]at a1;obtain⟨b,ys,rfl,g,q⟩:=a1;exact⟨b,rfl,by rw[g,Ha aq q]⟩
  ·cases e
theorem Y8{iT pos':Pos}(hh:X.A.handled=none)(hu:X.A.units+64<cLine)(hm:X.mg "len"=none)(hm2:X.mg "set"=none)(ha:e7 X F [e] ma)(hK:F.K=X.K:=by rfl)(hg:cU X "len":=by rfl)(hg2:cU X "set":=by rfl)(hs:starEach [.Call (.Name "set" iT) [e] [] pos'] X.env=(false,eval (.Call (.Name "set" iT) [e] [] pos') X.env)::starEach [] X.env:=by rfl)(he:starEach [e] X.env=(false,eval e X.env)::starEach [] X.env:=by rfl)(hpl:(backTo pos (starEach [] X.env)).any (·.1)=false:=by rfl)(Po:(backTo pos' (starEach [] X.env)).any (·.1)=false:=by rfl) :
  a7 X F (.Call (.Name "len" p) [.Call (.Name "set" iT) [e] [] pos'] [] pos) (bZ ta ma):=by
 refine⟨a3.imp (Ay L0 hg hm PySem.boot_len (lg (Az (L2 hh hu) hg2 hm2 (by kernel_rfl) ha.1 (by decide) (by decide) he Po) mW hs) (by decide) (by decide) hs hpl) ?_⟩;rintro σ H Q ⟨G,ρ,r,h⟩;unfold bZ at h;refine⟨G,ρ,r,?_⟩;cases av:ma ρ with
 |bad=>rw[av]at h;exact h.elim
 |exc c=>rw[av]at h;exact h
 |ok ds=>
  rw[av,R.bE]at h;intro vs H1 aT au s1 a;unfold ta at h
  split at h
  ·split at h
   ·split at h
    ·rename_i aH g0;obtain⟨v,rfl,bc⟩:=a.one;simp only[At]at bc;obtain⟨q,xs,rfl,aJ,fu⟩:=bc;have kt:=JY g0 fu;have hl:=fu.length;refine⟨q,xs,aH,rfl,bP.of (au.aK.sub _ _ aJ),by omega,⟨kt.1,fun i y k aq az=>?_⟩,fun l Gh=>?_⟩
     ·obtain⟨b,bb,Oq⟩:=kt.2 i y k aq az;exact⟨b,bb,au.aK.sub _ _ Oq⟩
     ·have:=eD.Ej aH;have:=kt.1;refine⟨l,_,rfl,eB,by omega,?_⟩;exact h _ _ aT (au.lay0 Gh) (s1.trans (cb.lay0 Gh)) (by simp only[At])
    ·exact h.elim
   ·exact h.elim
  ·exact h.elim
noncomputable def rg(i:Nat)(m:aD):fc:=fun ρ=>(ownAt i ρ).bind fun ds=>(m ρ).bind fun d=>match d with
 |.lst es=>if ds.length+es.length≤1000000 then .ok (.non,ρ.set i (.cE (ds++es)))else .bad
 |_=>.bad
theorem Kk (i:Nat) {x:Str} {aN:Pos} {apos:Pos} {bM:Pos} (he:a7 X F e m) (hN:X.N[i]?=some x:=by rfl) (hv:gU X.env.scope x:=by first|exact Or.inl rfl|exact Or.inr (Or.inl rfl)|exact Or.inr (Or.inr rfl)) (hd:(x==("__debug__" :Str))=false:=by decide) (hcd:(x==("__classdict__" :Str))=false:=by decide)(hbase:attributeBase (.Name x aN) "extend" X.env (eval (.Name x aN) X.env)=eval (.Name x aN) X.env:=by rfl) (hline:(apos.endLine==bM.line)=true:=by rfl)(hfew:((backTo bM (starEach [e] X.env)).all (fun x=>!x.1)&&(backToKw bM (keywordEach [] X.env)).all (fun x=>x.1.isSome)
    &&decide (([e]:List Expr).length+([]:List Keyword).length+(if([]:List Keyword).isEmpty then 0 else 1)<30))=true:=by rfl)
  (hs:starEach [e] X.env=(false,eval e X.env)::starEach [] X.env:=by rfl) (hplain:(backTo bM (starEach [] X.env)).any (·.1)=false:=by rfl) :
  my X F (.Call (.Attribute (.Name x aN) "extend" apos) [e] [] bM) (rg i m):=by
 refine⟨a3.imp (pU PySem.F.plainAttrs_list PySem.F.slot_list_extend PySem.F.type_list_extend SS (mX hN hv hd hcd) (lg he.1 mW hs) hbase hfew hline hs hplain) ?_⟩;rintro σ H Q ⟨G,ρ,r,h⟩;unfold rg ownAt at h;cases c_:ρ[i]? with
 |none=>rw[c_]at h;exact h.elim
 |some s=>
  rw[c_]at h;cases s with
  |un=>exact h.elim
  |ak _=>exact h.elim
  |eA _=>exact h.elim
  |a4 a4=>
   cases a4 with
   |bK _ _=>exact h.elim
   |ins _ _ _=>exact h.elim
   |lst ds=>
    obtain⟨q,xs,aq,h1,h2,h3,h4⟩:=r.own c_;rw[R.bE]at h;refine⟨.ref q,aq,.inl ⟨rfl,xs,bP.of h1⟩,G,ρ,r,?_⟩;cases av:m ρ with
    |bad=>rw[av]at h;exact h.elim
    |exc c=>rw[av]at h;exact h
    |ok d=>
     rw[av,R.bE]at h;intro v H1 aT au s1 bc;obtain⟨dR,nh,gY,cL,cu,vj,ig⟩:=au.own c_;rw[aq]at gY;cases gY;cases d with
     |lst es=>
      simp only at h
      split at h
      ·rename_i hl;simp only[At]at bc;obtain⟨cB,ys,rfl,g2,bl⟩:=bc;refine⟨q,cB,nh,ys,rfl,rfl,cL,au.aK.sub _ _ g2,by rw[←ig.length,←bl.length,sizeLine_eq];omega,?_⟩;exact h .non _ aT (au.mut c_ aq (ig.append bl)) s1.g (by simp only[At])
      ·exact h.elim
     |_=>exact h.elim
noncomputable def pF(i:Nat)(m n:aD):fc:=fun ρ=>(ownAt i ρ).bind fun ds=>(m ρ).bind fun d=>(n ρ).bind fun y=>match d with
 |.int k=>if 0≤k∧k<2^63∧ds.length<1000000 then .ok (.non,ρ.set i (.cE (ds.take (min k.toNat ds.length)++y::ds.drop (min k.toNat ds.length))))else .bad
 |_=>.bad
theorem Y6 (i:Nat) {x:Str} {aN:Pos} {apos:Pos} {bM:Pos} (ha:a7 X F a m) (hb:a7 X F b n) (hN:X.N[i]?=some x:=by rfl) (hv:gU X.env.scope x:=by first|exact Or.inl rfl|exact Or.inr (Or.inl rfl)|exact Or.inr (Or.inr rfl)) (hd:(x==("__debug__" :Str))=false:=by decide) (hcd:(x==("__classdict__" :Str))=false:=by decide)(hbase:attributeBase (.Name x aN) "insert" X.env (eval (.Name x aN) X.env)=eval (.Name x aN) X.env:=by rfl) (hline:(apos.endLine==bM.line)=true:=by rfl)(hfew:((backTo bM (starEach [a,b] X.env)).all (fun x=>!x.1)&&(backToKw bM (keywordEach [] X.env)).all (fun x=>x.1.isSome)
    &&decide (([a,b]:List Expr).length+([]:List Keyword).length+(if([]:List Keyword).isEmpty then 0 else 1)<30))=true:=by rfl)
  (hs:starEach [a,b] X.env=(false,eval a X.env)::starEach [b] X.env:=by rfl) (hs2:starEach [b] X.env=(false,eval b X.env)::starEach [] X.env:=by rfl) (hplain:(backTo bM (starEach [b] X.env)).any (·.1)=false:=by rfl) :
  my X F (.Call (.Attribute (.Name x aN) "insert" apos) [a,b] [] bM) (pF i m n):=by
 refine⟨a3.imp (pU PySem.F.plainAttrs_list PySem.F.slot_list_insert PySem.F.type_list_insert SV (mX hN hv hd hcd) (lg ha.1 (lg hb.1 mW hs2) hs) hbase hfew hline hs hplain) ?_⟩;rintro σ H Q ⟨G,ρ,r,h⟩;unfold pF ownAt at h;cases c_:ρ[i]? with
 |none=>rw[c_]at h;exact h.elim
 |some s=>
  rw[c_]at h;cases s with
  |un=>exact h.elim
  |ak _=>exact h.elim
  |eA _=>exact h.elim
  |a4 a4=>
   cases a4 with
   |bK _ _=>exact h.elim
   |ins _ _ _=>exact h.elim
   |lst ds=>
    obtain⟨q,xs,aq,h1,h2,h3,h4⟩:=r.own c_;rw[R.bE]at h;refine⟨.ref q,aq,.inl ⟨rfl,xs,bP.of h1⟩,G,ρ,r,?_⟩;cases av:m ρ with
    |bad=>rw[av]at h;exact h.elim
    |exc c=>rw[av]at h;exact h
    |ok d=>
     rw[av,R.bE]at h;intro v H1 aT au s1 bc;refine⟨aT,ρ,au,?_⟩;cases bb:n ρ with
     |bad=>rw[bb]at h;exact h.elim
     |exc c=>rw[bb]at h;exact h
     |ok y=>
      rw[bb,R.bE]at h;intro v2 a9 dj bh s2 Lz;obtain⟨dR,nh,gY,cL,cu,vj,ig⟩:=bh.own c_;rw[aq]at gY;cases gY;cases d with
      |int k=>
       simp only[At]at bc;subst bc;simp only at h
       split at h
       ·rename_i hk;have hl:=ig.length;refine⟨q,nh,k,v2,rfl,rfl,cL,hk.1,hk.2.1,by rw[sizeLine_eq];omega,?_⟩;rw[←hl];exact h .non _ dj (bh.mut c_ aq ((ig.take _).append (.cons Lz (ig.drop _)))) (s1.trans s2).g (by simp only[At])
       ·exact h.elim
      |_=>exact h.elim
noncomputable def Hz(ma:aP)(m:aD):aP:=fun ρ=>(ma ρ).bind fun ds=>(m ρ).bind fun d=>match d with
 |.lst es=>if ds.length+es.length≤1000000 then .ok (ds++es)else .bad
 |_=>.bad
noncomputable def Hy(m n:aD):aP:=fun ρ=>(m ρ).bind fun c=>(n ρ).bind fun d=>match c,d with
 |.lst ds,.lst es=>if ds.length+es.length≤1000000 then .ok (ds++es)else .bad
 |_,_=>.bad
def Mk(k:Int×Int×Int):D:=.tup [.int k.1,.tup [.int k.2.1,.int k.2.2]]
def Q_:D→Option (Int×Int×Int)
 |.tup [.int n,.tup [.int h,.int d]]=>some (n,h,d)
 |_=>none
noncomputable def G8:List D→Option (List (Int×Int×Int))
 |[]=>some []
 |d::ds=>match Q_ d,G8 ds with
  |some k,some aH=>some (k::aH)
  |_,_=>none
noncomputable def Jh:List D→R (List D)
 |[.lst ds]=>if ds.length<64 then match G8 ds with
  |some aH=>.ok ((LT.Xm aH).map Mk)
  |none=>.bad
  else .bad
 |_=>.bad
def SF(m:aP):aP:=fun ρ=>(m ρ).bind Jh
def Sx(k:Str)(i:Int):aD:=fun _=>.ok (.dm [.inr k] [.int i])
end
section
variable{X:aM}{F:bt}{e a b c:Expr}{es:List Expr}{pos p:Pos}{m n:aD}{ma:aP}
noncomputable def putN(i:Nat)(ρ:ao)(ds:List D)(v:D):Option Nat→R e4
 |some j=>.ok (.bq (ρ.set i (.cE (ds.set j v))))
 |none=>.bad
def putK(i:Nat)(ρ:ao)(ds:List D)(v:D):D→R e4
 |.int j=>putN i ρ ds v (lU ds.length j)
 |_=>.bad
noncomputable def Sz(i:Nat)(mk mv:aD):a0:=fun ρ=>(mv ρ).bind fun v=>(ownAt i ρ).bind fun ds=>(mk ρ).bind fun k=>putK i ρ ds v k
noncomputable def Lr(i:Nat)(ρ:ao)(bS:List T)(m:aD):Option Nat→R e4
 |some j=>match bS[j]? with
  |some (.lst us)=>(m ρ).bind fun d=>if us.length<1000000 then .ok (.bq (ρ.set i (.eA (.lst (bS.set j (.lst (us++[.ak d])))))))else .bad
  |_=>.bad
 |none=>.bad
def DC(i:Nat)(ρ:ao)(bS:List T)(m:aD):D→R e4
 |.int j=>Lr i ρ bS m (lU bS.length j)
 |_=>.bad
def Sv(i:Nat)(mk m:aD):a0:=fun ρ=>(w6 i ρ).bind fun bS=>(mk ρ).bind fun k=>DC i ρ bS m k
end
section
variable{P:Program}{w:World}{K:PySem.W.Frag}{mg:Str→Option Value}{base:Heap}{N:List Str}{qual:Str}{scope:Scope}{f:Addr}{cd:Value}{A:Around}{outer:List Env}{s0:Shared}{hy:ai}{E:c7}{bY bB:ai}
end
section
variable{X:aM}{F:bt}{e:Expr}{es:List Expr}{pos p:Pos}{ma:aP}
end
section
variable{X:aM}{F:bt}{e:Expr}{pos p:Pos}{m n:aD}{ma:aP}
end
end aB
namespace aX
open PySem PySem.Spec PyProof.Rows
section
variable{X:aM}{i j:Nat}{x n y:Str}{W:Addr}{e:Expr}{dI:TE}{E:c7}{LN:Stmt}{Xw:List Stmt}{bS:eM}{Ax np hp pos py:Pos}
end
end aX
namespace aB
open PySem PySem.Spec aX PyProof.Rows
section
variable{X:aM}{F:bt}{pos:Pos}
end
section
variable{X:aM}{F:bt}{a b:Expr}{pos p:Pos}{m n:aD}{ma:aP}
end
end aB
namespace aX
open PySem PySem.Spec PyProof.Rows
section
variable{prog:Program}{w:World}{A:Around}{E:Value→Shared→Prop}{s:Shared}
theorem Eo{it t:Addr}{items:Array Value}(iM:t≠it):∀(n i:Nat)(s:Shared)(Q:List Value→Shared→Prop),s.heap.IsListIter it t i→s.heap.IsList t items→i+n≤items.size→
  (∀h',h'.IsListIter it t (i+n)→Heap.SameBut it s.heap h'→Q ((items.toList.drop i).take n) { s with heap:=h' })→wpAny (model prog w) A (draw (.ref it) n) Q E s
 |0,i,s,Q,hit,_,_,fz=>by show wpAny _ _ (pure []) Q E s;exact wpAny_pure (by simpa using fz s.heap hit (Heap.SameBut.refl ..))
 |n+1,i,s,Q,hit,ht,hle,fz=>by
  have fB:i<items.size:=by omega
  show wpAny _ _ (pyNext (.ref it)>>=_) Q E s;refine wpAny_bind (wpAny_pyNext_list_item hit ht (x:=items[i]) (by simp[fB]) fun jL zu hS=>?_);refine wpAny_bind (wpAny_holding (Eo iM n (i+1) _ _ zu (ht.extBut hS.extBut iM) (by omega) fun kW O2 iN=>wpAny_pure ?_));have hd:items.toList.drop i=items[i]::items.toList.drop (i+1):=by simp[List.drop_eq_getElem_cons,fB]
  have:=fz kW (by rw[show i+(n+1)=i+1+n by omega];exact O2) (hS.trans iN);rw[hd,List.take_succ_cons]at this;exact this
theorem Yp{t:Addr}{items:Array Value}{Q:List Value→Shared→Prop}(hh:A.handled=none)(ht:s.heap.IsList t items)(fz:∀h',Heap.ExtBut s.heap.objs.size s.heap h'→Q items.toList { s with heap:=h' }):wpAny (model prog w) A (unpackItems (.ref t) items.size none) Q E s:=by
 have fB:t≠s.heap.objs.size:=by obtain⟨o,ho,_⟩:=ht;exact Nat.ne_of_lt (Heap.lt_size ho)
 unfold unpackItems;refine wpAny_bind ?_
 ·unfold notIterableAtAll;refine wpAny_bind (wpAny_specialOf ht.typeIs slot_list_iter.lookup ?_);refine wpAny_pure ?_;simp only[Bool.false_eq_true,if_false];refine wpAny_bind (wpAny_holding (wpAny_pyIter_list ht ?_));refine wpAny_bind (wpAny_holding (Eo fB items.size 0 _ _ ⟨_,Heap.get?_push_size _ rfl,rfl,rfl⟩ (ht.push _) (by omega) fun jL zu hS=>?_));have sM:List.take items.size (List.drop 0 items.toList)=items.toList:=by
   rw[List.drop_zero];exact List.take_of_length_le (by simp)
  rw[sM];rw[if_neg (by simp)];have PA:jL.IsList t items:=(ht.push _).extBut hS.extBut fB;refine wpAny_bind (wpAny_holding (wpAny_pyNext_list_end hh zu PA (by simp) fun kW OS=>?_));simp only[Option.isSome_none,Bool.false_eq_true,if_false];refine wpAny_pure (fz kW fun b o hb e=>OS b o hb (hS.extBut b o hb (Heap.get?_push_of_some _ e)))
theorem Yq{t:Addr}{items:Array Value}{targets:List (Bool×(Value→Sem Unit))}{Q:Unit→Shared→Prop}(hh:A.handled=none)(ht:s.heap.IsList t items)(aC:targets.length=items.size)(zE:targets.findIdx? (·.1)=none)(h:∀h',Heap.ExtBut s.heap.objs.size s.heap h'→wpAny (model prog w) A (assignInOrder (targets.map (·.2)) items.toList) Q E { s with heap:=h' }) :
  wpAny (model prog w) A (unpack (.ref t) targets) Q E s:=by
 unfold unpack;rw[aC,zE];exact wpAny_bind (wpAny_holding (Yp hh ht h))
theorem Ls{env:Env}{elts:List Expr}{e2}{pos:Pos}{t:Addr}{items:Array Value}{Q:Unit→Shared→Prop}(hh:A.handled=none)(ht:s.heap.IsList t items)(aC:(assignEach elts env).length=items.size)(zE:(assignEach elts env).findIdx? (·.1)=none)(h:∀h',Heap.ExtBut s.heap.objs.size s.heap h'→wpAny (model prog w) A (assignInOrder ((assignEach elts env).map (·.2)) items.toList) Q E { s with heap:=h' }) :
  wpAny (model prog w) A (assign (.Tuple elts e2 pos) env (.ref t)) Q E s:=by
 rw[assign_Tuple];exact wpAny_bind (wpAny_standAt (Yq hh ht aC zE h))
end
section
variable{X:aM}{pos:Pos}
noncomputable def zc(K:PySem.W.Frag)(n:Nat)(t:jA):hH:=fun v σ H Q=>∃a xs,v=.ref a∧bP K H a xs∧xs.length=n∧t xs σ H Q
theorem UN{es:List Expr}{k:Nat}{t:jA}{n:Nat}(hc:X.calm=true)(h:qB X es t)(aC:(assignEach es X.env).length=n:=by rfl)(hst:(assignEach es X.env).findIdx? (·.1)=none:=by rfl):i5 X (.Tuple es k pos) (zc X.K n t):=by intro pins s σ H v u Q I r hw;obtain⟨a,xs,aq,aJ,hl,hw⟩:=hw;subst aq;cases r;obtain⟨its,bV,pl,bj⟩:=I.list aJ;refine Ls (I.ok.hd hc) pl.isList (by simp[aC,←hl,bV.length]) hst fun h' hx=>?_;have aQ:Inv X pins σ H { s with heap:=h' }:=I.kept (t':=s.toks) fun b o e=>hx b o (Nat.ne_of_lt (Heap.lt_size e)) e;exact h pins _ σ H xs _ Q aQ (by simpa using bV) hw
theorem J7:∀{is:List Int}{us:List Value},Vals (is.map V.int) us→∀(i:Nat) v,us[i]?=some v→∃t,v=.int ((is[i]?).getD 0) t
 |[],_,r,i,v,e=>by cases r;cases e
 |k::is,_,r,i,v,e=>by
  cases r with
  |cons au bh=>
   cases i with
   |zero=>simp at e;subst e;obtain⟨t,z⟩:=au;exact⟨t,by simpa using z⟩
   |succ i=>simpa using J7 bh i v (by simpa using e)
theorem Iu:∀(is:List Int)(n:Nat),n≤is.length→preSum (fun i=>(is[i]?).getD 0) n=(is.take n).sum
 |is,0,_=>by simp[preSum]
 |is,n+1,h=>by
  have aC:n<is.length:=by omega
  rw[preSum,Iu is n (by omega),List.take_add_one,List.getElem?_eq_getElem aC];simp[-List.take_append_getElem]
theorem L5(hc:X.calm=true)(jJ:X.A.handled=none):gR X (.builtin "sum") (fun xs H Q=>∃(p:Addr)(is:List Int),xs=[.ref p]∧bP X.K H p (is.map V.int)∧Q (.int is.sum) H):=by
 intro pins s σ H xs us Q I r h;obtain⟨p,is,rfl,aJ,q⟩:=h;obtain⟨u,rfl,ed⟩:=vals1 r;cases ed;obtain⟨its,bV,pl,bj⟩:=I.list aJ;have hl:its.length=is.length:=by rw[←bV.length,List.length_map]
 refine call_sum_walkAnyS (wpAny_pyIter_list pl.isList ?_);have iM:p≠s.heap.objs.size:=by obtain⟨o,ho,_⟩:=pl.isList;exact Nat.ne_of_lt (Heap.lt_size ho)
 refine⟨s.heap.objs.size,_,_,_,_,_,_,fun i=>(is[i]?).getD 0,rfl,(Walks.list (prog:=X.prog) (w:=X.w) (A:=X.A.in1) jJ s.heap.objs.size p iM its.toArray).toS,⟨⟨_,Heap.get?_push_size _ rfl,rfl,rfl⟩,pl.isList.push _⟩,?_,?_,fun s' cX cv=>?_⟩
 ·intro b hb;have hp:p<s.heap.objs.size:=by obtain⟨o,ho,_⟩:=pl.isList;exact Heap.lt_size ho
  simp at hb ⊢;rcases hb with rfl|rfl
  ·exact Nat.lt_succ_self _
  ·exact Nat.lt_succ_of_lt hp
 ·intro i v de;exact J7 bV i v (by simpa using de)
 ·have es:s'={ s with heap:=s'.heap,toks:=s'.toks }:=by
    have k1:=cv.gens;have k2:=cv.os;have k3:=cv.drawn;obtain⟨h,g,d,t,o⟩:=s';simp only at k1 k2 k3;subst k1 k2 k3;rfl
  have aC:its.toArray.size=is.length:=by simpa using hl
  rw[aC,Iu is is.length (Nat.le_refl _),List.take_length];rw[es];refine⟨.int _,H,I.kept (t':=s'.toks) fun b o az=>cv.heap b o (by
   intro z;have z:b=s.heap.objs.size:=by simpa using z
   exact absurd (Heap.lt_size az) (by rw[z];exact Nat.lt_irrefl _)) (Heap.get?_push_of_some _ az),⟨_,rfl⟩,q⟩
end
end aX
namespace aB
open PySem PySem.Spec aX PyProof.Rows
section
variable{X:aM}{F:bt}{e:Expr}{es:List Expr}{pos p:Pos}{m n:aD}{ma:aP}
def rI(aI:List (D→ao→R ao)):D→ao→R ao
 |.lst ds,ρ=>gA aI ds ρ
 |_,_=>.bad
theorem Oo{jf:jA}{aI:List (D→ao→R ao)}{n:Nat}(aC:n=aI.length)(h:qv F jf (gA aI)):mm F (zc F.K n jf) (rI aI):=by
 intro σ ρ G H v d Q bo r a e k;cases d with
 |lst ds=>simp only[At]at a;obtain⟨p,xs,rfl,aJ,al⟩:=a;refine⟨p,xs,rfl,bP.of (r.aK.sub _ _ aJ),?_,h σ ρ G H xs ds Q bo r al e k⟩;rw[←al.length,aC];exact BU e
 |_=>cases e
theorem W2{aI:List (D→ao→R ao)}(h:∀f∈aI,∀d ρ c,f d ρ≠.exc c)(d:D)(ρ:ao)(c:Str):rI aI d ρ≠.exc c:=by
 cases d with
 |lst ds=>exact BW h (.tup ds) ρ c
 |_=>exact fun z=>nomatch z
theorem W0{aI:List (D→ao→R ao)}(h:∀f∈aI,Keeps f):Keeps (rI aI):=by
 have k:=BV h;intro d ρ bo z;cases d with
 |lst ds=>exact k (.tup ds) ρ bo z
 |_=>cases z
theorem S5{k:Nat}{aI:List (D→ao→R ao)}(hc:X.calm=true)(h:r2 X es aI)(aC:(assignEach es X.env).length=aI.length:=by rfl)(hst:(assignEach es X.env).findIdx? (·.1)=none:=by rfl):GM X (.Tuple es k pos) (rI aI):=by obtain⟨⟨jf,t1,b2⟩,t3,ly⟩:=h;exact⟨⟨zc X.K aI.length jf,UN hc t1 aC hst,fun F iJ=>by rw[←iJ];exact Oo rfl (b2 F iJ)⟩,W2 t3,W0 ly⟩
def px:List D→Option (List Int)
 |[]=>some []
 |.int i::ds=>(px ds).map (i::·)
 |_=>none
noncomputable def ov:List D→R D
 |[.lst ds]=>match px ds with
  |some is=>.ok (.int is.sum)
  |none=>.bad
 |_=>.bad
theorem GX{K:PySem.W.Frag}{G:ai}:∀{ds:List D}{xs:List V}{is:List Int},aL K G ds xs→px ds=some is→xs=is.map V.int
 |[],xs,is,a,e=>by simp only[aL]at a;cases e;subst a;rfl
 |d::ds,xs,is,a,e=>by
  simp only[aL]at a;obtain⟨v,r,rfl,a1,a2⟩:=a;cases d with
  |int i=>
   simp only[At]at a1;subst a1;simp only[px]at e;cases aq:px ds with
   |none=>rw[aq]at e;cases e
   |some cs=>rw[aq]at e;have bb:i::cs=is:=Option.some.inj e;subst bb;rw[GX a2 aq];rfl
  |_=>cases e
theorem TS:md F (fun xs H Q=>∃(p:Addr)(is:List Int),xs=[.ref p]∧bP F.K H p (is.map V.int)∧Q (.int is.sum) H) ov:=by
 intro σ ρ G H xs ds Q r al k;unfold ov at k
 split at k
 ·rename_i ds
  split at k
  ·rename_i is bb;obtain⟨v,rfl,bc⟩:=al.one;simp only[At]at bc;obtain⟨q,xs,rfl,aJ,fu⟩:=bc;refine⟨q,is,rfl,?_,k _ H G r (cb.refl _ _) (by simp only[At])⟩;rw[←GX fu bb];exact bP.of (r.aK.sub _ _ aJ)
  ·exact k.elim
 ·exact k.elim
theorem CQ{k:Nat}(hr:dt k X.A)(hm:X.mg "sum"=none)(ha:e7 X F [e] ma)(hK:F.K=X.K:=by rfl)(hc:X.calm=true:=by rfl)(hg:cU X "sum":=by rfl)(he:starEach [e] X.env=(false,eval e X.env)::starEach [] X.env:=by rfl)(hpl:(backTo pos (starEach [] X.env)).any (·.1)=false:=by rfl) :
  a7 X F (.Call (.Name "sum" p) [e] [] pos) (bZ ov ma):=⟨yR (L5 hc hr.hd) (by rw[←hK];exact TS) hm (by kernel_rfl) ha.1 hg (by decide) (by decide) he hpl⟩
def tg(sep:Str)(m:aP):aD:=fun ρ=>(m ρ).bind (vG sep)
theorem Km {sep:Str} {j:Nat} {aN apos bM:Pos} (ha:e7 X F [e] ma) (hK:F.K=X.K:=by rfl)(hbase:attributeBase (.Constant (.str sep) j aN) "join" X.env (eval (.Constant (.str sep) j aN) X.env)=eval (.Constant (.str sep) j aN) X.env:=by rfl) (hline:(apos.endLine==bM.line)=true:=by rfl)(hfew:((backTo bM (starEach [e] X.env)).all (fun x=>!x.1)&&(backToKw bM (keywordEach [] X.env)).all (fun x=>x.1.isSome)
    &&decide (([e]:List Expr).length+([]:List Keyword).length+(if([]:List Keyword).isEmpty then 0 else 1)<30))=true:=by rfl)
  (hs:starEach [e] X.env=(false,eval e X.env)::starEach [] X.env:=by rfl) (hplain:(backTo bM (starEach [] X.env)).any (·.1)=false:=by rfl) :
  a7 X F (.Call (.Attribute (.Constant (.str sep) j aN) "join" apos) [e] [] bM) (tg sep ma):=by
 refine⟨a3.imp (pU PySem.F.plainAttrs_str PySem.F.slot_str_join PySem.F.type_str_join SW AA ha.1 hbase hfew hline hs hplain) ?_⟩;rintro σ H Q ⟨G,ρ,r,h⟩;unfold tg at h;refine⟨rfl,G,ρ,r,?_⟩;cases av:ma ρ with
 |bad=>rw[av]at h;exact h.elim
 |exc c=>rw[av]at h;exact h
 |ok ds=>
  rw[av,R.bE]at h;intro vs H1 aT au s1 bc;unfold vG at h
  split at h
  ·rename_i aI
   split at h
   ·rename_i ys dB
    split at h
    ·rename_i bj;obtain⟨v,rfl,j_⟩:=bc.one;simp only[At]at j_;obtain⟨q,xs,rfl,aJ,fu⟩:=j_;refine⟨sep,q,ys,rfl,rfl,?_,bj,h _ H1 aT au s1 (by simp only[At])⟩;rw[←Jv fu dB];exact bP.of (au.aK.sub _ _ aJ)
    ·exact h.elim
   ·exact h.elim
  ·exact h.elim
theorem Qb{bD mt:Str}{mf:List D→R bW}{C:Addr}{E:c7}(hx:F.gS=fun _ _=>False)(hO:f9 F.K bD C):eK (cW F (kn bD mt 0 mf m ar)) (w1 C mt (lr F.K (0+1) mf) [] E (cW F m) w2):=by
 rintro σ H Q ⟨G,ρ,r,h⟩;unfold kn at h;refine⟨G,ρ,r,?_⟩;cases av:m ρ with
 |bad=>rw[av]at h;exact h.elim
 |exc c=>rw[av]at h;exact h
 |ok d=>
  rw[av,R.bE]at h;intro x H1 aT au s1 bT;cases d with
  |ins ej ns ds=>
   simp only[p0]at h
   split at h
   ·rename_i hc;obtain⟨pn,ki⟩:=hc;subst pn;have x1:=bT;simp only[At]at bT;obtain⟨q,a5,xs,rfl,⟨lE,bN,g1⟩,rfl,al⟩:=bT;have:=bN.inj hO;subst this;refine⟨q,a5,xs,rfl,au.aK.sub _ _ g1,z4 ki,?_⟩;rw[R.bE]at h;have h:ik F G H σ ρ Q ((mf [.ins ej (xs.map (·.1)) ds]).bind iU):=h;show lr F.K (0+1) mf ([V.ref q]++[]) H1 Q E;rw[List.append_nil];exact Jj (xe:=fun _ _ _=>False) hx au (.cons x1 .nil) (by simp) (h.mono s1)
   ·exact h.elim
  |_=>exact h.elim
theorem Y_ {o:Expr} {bD mt:Str} {k:Nat} {mf:List D→R bW} {pl:Sem Bool} {apos:Pos} (c:nA X.prog X.w X.K X.mg X.base bD mt 0 k mf) (hr:dt k X.A) (he:a7 X F o m) (hE:F.gS=fun _ _=>False:=by rfl) (hK:F.K=X.K:=by rfl)(ht:eval (.Call (.Attribute o mt apos) [] [] pos) X.env=(do
    let fK ←eval o X.env
    standAt apos.atName
    let(f,first) ←holding [fK] (getMethod fK mt pl)
    callWith pos f first (backTo pos (starEach [] X.env)) (backToKw pos (keywordEach [] X.env))):=by rfl) :
  a7 X F (.Call (.Attribute o mt apos) [] [] pos) (kn bD mt 0 mf m ar):=by
 obtain⟨C,f,fd,ps,bN,cZ,eN,gL,hb⟩:=c.ex;refine⟨a3.imp (UE (pl:=pl) he.1 cZ eN gL hr hb .nil tM ht) ?_⟩;rw[←hK];exact Qb hE (by rw[hK];exact bN)
end
end aB
namespace aX
open PySem PySem.Spec PyProof.Rows
abbrev xp(h:Heap)(x:Str)(t:Tok):Heap:=h.push { cls:=.type (strIterType x),data:=.fields #[.str x t,.int 0 0] }
abbrev xq(h:Heap)(x:Str)(t:Tok)(cc:Str)(b2:Tok):Heap:=(xp h x t).push { cls:=.type (strIterType cc),data:=.fields #[.str cc b2,.int 0 0] }
abbrev xr(h:Heap)(x:Str)(t:Tok)(cc:Str)(b2:Tok):Heap:=(xq h x t cc b2).push { cls:=.type "tuple",data:=.seq #[.ref h.objs.size,.ref (xp h x t).objs.size] }
abbrev xt(h:Heap)(x:Str)(t:Tok)(cc:Str)(b2:Tok):Heap:=(xr h x t cc b2).push { cls:=.type "tuple",data:=.seq #[.none,.none] }
abbrev qp(h:Heap)(x:Str)(t:Tok)(cc:Str)(b2:Tok):Heap:=(xt h x t cc b2).push { cls:=.type "zip",data:=.fields #[.none,.bool false,.bool false,.ref (xq h x t cc b2).objs.size,.ref (xr h x t cc b2).objs.size] }
set_option maxHeartbeats 4000000 in
theorem SM(x:Str)(t:Tok)(cc:Str)(b2:Tok) :
  Meets (Builtin.«zip.__new__» ⟨[.type "zip",.str x t,.str cc b2],[]⟩) (fun _ R s=>R (.ok (.ret (.ref (xt s.heap x t cc b2).objs.size))) { s with heap:=qp s.heap x t cc b2 }):=
 .of_wp fun prog w A R s h=>by
   obtain⟨hp,g,d,cX,os⟩:=s;have lT:=sub_zip
   wp_walk using wpAny_pyIter_strU
   exact⟨_,rfl,h⟩
theorem L7 {prog:Program} {w:World} {A:Around} {E:Value→Shared→Prop} {s:Shared} {x:Str} {t:Tok} {cc:Str} {b2:Tok} {Q:Value→Shared→Prop}(h:∀h',IsZip h' (s.heap.objs.size+4) (s.heap.objs.size+2) (s.heap.objs.size+3) .none→IsPair h' (s.heap.objs.size+2) (.ref s.heap.objs.size) (.ref (s.heap.objs.size+1))→
    IsPair h' (s.heap.objs.size+3) .none .none→h'.IsStrIter s.heap.objs.size (strIterType x) x t 0→h'.IsStrIter (s.heap.objs.size+1) (strIterType cc) cc b2 0→h'.objs.size=s.heap.objs.size+5→
    (∀c o,s.heap.get? c=some o→h'.get? c=some o)→Q (.ref (s.heap.objs.size+4)) { s with heap:=h' }) :
  wpAny (model prog w) A (call (.type "zip") [.str x t,.str cc b2]) Q E s:=by
 refine callType_new F.called_zip (by decide) (F.typeCall_zip_2 _ _) (F.newCall_zip_2 _ _) (fun obj=>F.args_object_init_3 obj _ _) F.entry_zip_new (SM x t cc b2) ?_;have bg:(xp s.heap x t).objs.size=s.heap.objs.size+1:=Heap.size_push ..;have aZ:(xq s.heap x t cc b2).objs.size=s.heap.objs.size+2:=by rw[Heap.size_push,bg]
 have ju:(xr s.heap x t cc b2).objs.size=s.heap.objs.size+3:=by rw[Heap.size_push,aZ]
 have nq:(xt s.heap x t cc b2).objs.size=s.heap.objs.size+4:=by rw[Heap.size_push,ju]
 have C3:(qp s.heap x t cc b2).objs.size=s.heap.objs.size+5:=by rw[Heap.size_push,nq]
 have lP:(qp s.heap x t cc b2).get? (xt s.heap x t cc b2).objs.size=some _:=Heap.get?_push_size _ rfl;have jH:(qp s.heap x t cc b2).get? (xr s.heap x t cc b2).objs.size=some _:=Heap.get?_push_of_some _ (Heap.get?_push_size _ rfl);have g3:(qp s.heap x t cc b2).get? (xq s.heap x t cc b2).objs.size=some _:=Heap.get?_push_of_some _ (Heap.get?_push_of_some _ (Heap.get?_push_size _ rfl));have g2:(qp s.heap x t cc b2).get? (xp s.heap x t).objs.size=some _:=Heap.get?_push_of_some _ (Heap.get?_push_of_some _ (Heap.get?_push_of_some _ (Heap.get?_push_size _ rfl)));have g1:(qp s.heap x t cc b2).get? s.heap.objs.size=some _:=Heap.get?_push_of_some _ (Heap.get?_push_of_some _ (Heap.get?_push_of_some _ (Heap.get?_push_of_some _ (Heap.get?_push_size _ rfl))));show _∧_;rw[aZ,ju,nq]at lP;rw[bg,aZ]at g3;rw[ju]at jH;rw[bg]at g2;rw[nq];exact⟨⟨_,lP,rfl⟩,h _ lP g3 jH ⟨_,g1,rfl,rfl⟩ ⟨_,g2,rfl,rfl⟩ C3 fun c o x=>
  Heap.get?_push_of_some _ (Heap.get?_push_of_some _ (Heap.get?_push_of_some _ (Heap.get?_push_of_some _ (Heap.get?_push_of_some _ x))))⟩
noncomputable def xK(x cc:Str):It:=⟨fun i _=>i<x.cps.size∧i<cc.cps.size,
 fun i H v H'=>∃p c cZ,x.cps[i]?=some c∧cc.cps[i]?=some cZ∧H p=none∧H'=upd H p (.tup [.str ⟨#[c]⟩,.str ⟨#[cZ]⟩])∧v=.ref p,
 fun i _=>i=min x.cps.size cc.cps.size⟩
theorem Yl{P:Program}{w:World}{K:PySem.W.Frag}{elts:List Expr}{cv:Nat}{pos:Pos}(x:Str)(t:Tok)(cc:Str)(b2:Tok)(z TI bI bk bz:Addr)(ap:xR z TI bI bk bz) :
  Turn P w K (.Tuple elts cv pos) (xK x cc) [z,TI,bI,bk,bz] z (fun i h=>IsZip h z TI bI .none∧IsPair h TI (.ref bk) (.ref bz)∧(∃a b,IsPair h bI a b)∧h.IsStrIter bk (strIterType x) x t i∧h.IsStrIter bz (strIterType cc) cc b2 i) where
 mem:=by simp
 obj:=fun i h st b hb=>by
  obtain⟨bj,ff,⟨a,eV,fA⟩,⟨cA,aq,bN,d1⟩,b3,az,cZ,ct⟩:=st;have hb:b=z∨b=TI∨b=bI∨b=bk∨b=bz:=by simpa using hb
  rcases hb with q|q|q|q|q<;>subst q
  ·exact⟨_,bj,fun v z=>by have fb:Data.fields _=Data.cell v:=z;cases fb⟩
  ·exact⟨_,ff,fun v z=>by have fb:Data.seq _ _=Data.cell v:=z;cases fb⟩
  ·exact⟨_,fA,fun v z=>by have fb:Data.seq _ _=Data.cell v:=z;cases fb⟩
  ·exact⟨cA,aq,fun v z=>by rw[d1]at z;cases z⟩
  ·exact⟨b3,az,fun v z=>by rw[ct]at z;cases z⟩
 keep:=fun i h h' st k=>by obtain⟨bj,ff,⟨a,eV,fA⟩,⟨cA,aq,au⟩,b3,az,bh⟩:=st;exact⟨k z (by simp) _ bj,k TI (by simp) _ ff,⟨a,eV,k bI (by simp) _ fA⟩,⟨cA,k bk (by simp) _ aq,au⟩,b3,k bz (by simp) _ az,bh⟩
 item:=by
  intro X de hw hK hc i pins s σ H E I hf st hg;subst de hw hK;obtain⟨hi,OX⟩:=hg;obtain⟨bj,ff,⟨a,eV,fA⟩,mJ,hs2⟩:=st;have hh:X.A.in1.handled=none:=I.ok.hd hc;have f_:=qQ (prog:=X.prog) (w:=X.w) (A:=X.A.in1) hh bk x t;have fP:=qQ (prog:=X.prog) (w:=X.w) (A:=X.A.in1) hh bz cc b2
  have lK:nH z TI bI bk bz [bk] [bz]:=⟨ap.TIz,ap.TOz,ap.TITO,ap.TIi1,ap.TIi2,ap.TOi1,ap.TOi2,ap.i1z,ap.i2z,ap.i12,by simpa using ap.i1z.symm,by simpa using ap.TOi1,by simpa using ap.i12.symm,
   by simpa using ap.i2z.symm,by simpa using ap.TOi2,by simpa using ap.i12⟩
  refine IG f_ fP lK bj ff fA mJ hs2 hi OX fun kA gE h' cX eG cB a1 a2 eE hA ib i9 hk=>?_;obtain⟨c,t1,zm,rfl⟩:=eG;obtain⟨cZ,t3,OO,rfl⟩:=cB;refine⟨_,rfl,?_⟩;refine wpAny_letOwnedTupleGo_zip a1 fun h2 zJ jK=>?_;have B6:∀b∈[z,TI,bI,bk,bz],b<s.heap.objs.size:=fun b hb=>by
   have hb:b=z∨b=TI∨b=bI∨b=bk∨b=bz:=by simpa using hb
   obtain⟨cA,aq,_⟩:=mJ;obtain⟨b3,az,_⟩:=hs2;rcases hb with q|q|q|q|q<;>subst q
   ·exact Heap.lt_size bj
   ·exact Heap.lt_size ff
   ·exact Heap.lt_size fA
   ·exact Heap.lt_size aq
   ·exact Heap.lt_size az
  have tF:∀b∈[z,TI,bI,bk,bz],b≠s.heap.objs.size:=fun b hb=>Nat.ne_of_lt (B6 b hb);have keep:∀b o,b∉[z,bI,bk,bz]→s.heap.get? b=some o→h2.get? b=some o:=fun b o hb q=>by have hb:¬(b=z∨b=bI∨b=bk∨b=bz):=fun w=>hb (by simpa using w);exact jK.extBut b o (fun w=>hb (.inl w)) (hk b o (fun w=>hb (.inl w)) (fun w=>hb (.inr (.inl w))) (fun w=>hb (.inr (.inr (.inl w)))) (fun w=>hb (.inr (.inr (.inr w)))) q)
  have sU:PyProof.Rows.IsTup h2 s.heap.objs.size ([.str ⟨#[c]⟩ t1,.str ⟨#[cZ]⟩ t3]:List Value).toArray:=⟨_,jK.extBut _ _ (tF z (by simp)).symm ib,rfl,_,rfl⟩;have aC:H s.heap.objs.size=none:=I.bF.fresh (Nat.le_refl _);have b5:Inv X pins σ (upd H s.heap.objs.size (.tup [.str ⟨#[c]⟩,.str ⟨#[cZ]⟩])) { s with heap:=h2,toks:=cX }:=I.Cq (its:=[.str ⟨#[c]⟩ t1,.str ⟨#[cZ]⟩ t3]) (ch:=[z,bI,bk,bz]) keep (fun b hb=>hf b (by
   have hb:b=z∨b=bI∨b=bk∨b=bz:=by simpa using hb
   rcases hb with q|q|q|q<;>simp[q])) (Nat.le_refl _) sU (.cons ⟨t1,rfl⟩ (.cons ⟨t3,rfl⟩ .nil)) (by show 2≤sizeLine;decide)
  refine⟨.ref s.heap.objs.size,_,b5,rfl,⟨s.heap.objs.size,c,cZ,zm,OO,aC,rfl,rfl⟩,?_,fun b hb=>?_⟩
  ·refine⟨zJ,jK.extBut _ _ ap.TIz (hk _ _ ap.TIz ap.TITO ap.TIi1 ap.TIi2 ff),⟨_,_,jK.extBut _ _ ap.TOz a2⟩,?_,?_⟩
   ·obtain⟨cA,aq,au⟩:=eE;exact⟨cA,jK.extBut _ _ ap.i1z aq,au⟩
   ·obtain⟨b3,az,bh⟩:=hA;exact⟨b3,jK.extBut _ _ ap.i2z az,bh⟩
  ·rw[dJ (tF b hb)];exact(hf b hb).1
 done:=by
  intro X de hw hK hc i pins s σ H E I hf st hg;subst de hw hK;have hi:i=min x.cps.size cc.cps.size:=hg;obtain⟨bj,ff,⟨a,eV,fA⟩,mJ,hs2⟩:=st;have hh:X.A.in1.handled=none:=I.ok.hd hc;have f_:=qQ (prog:=X.prog) (w:=X.w) (A:=X.A.in1) hh bk x t;have fP:=qQ (prog:=X.prog) (w:=X.w) (A:=X.A.in1) hh bz cc b2
  have lK:nH z TI bI bk bz [bk] [bz]:=⟨ap.TIz,ap.TOz,ap.TITO,ap.TIi1,ap.TIi2,ap.TOi1,ap.TOi2,ap.i1z,ap.i2z,ap.i12,by simpa using ap.i1z.symm,by simpa using ap.TOi1,by simpa using ap.i12.symm,
   by simpa using ap.i2z.symm,by simpa using ap.TOi2,by simpa using ap.i12⟩
  refine IF f_ fP lK bj ff fA mJ hs2 ?_ fun h' cX cv=>⟨rfl,I.t9 (ch:=[z,bI,bk,bz]) (fun b o hb q=>?_) fun b hb=>hf b ?_⟩
  ·omega
  ·have hb:¬(b=z∨b=bI∨b=bk∨b=bz):=fun w=>hb (by simpa using w);exact cv b o (fun w=>hb (.inl w)) (fun w=>hb (.inr (.inl w))) (fun w=>hb (.inr (.inr (.inl w)))) (fun w=>hb (.inr (.inr (.inr w)))) q
  ·have hb:b=z∨b=bI∨b=bk∨b=bz:=by simpa using hb
   rcases hb with q|q|q|q<;>simp[q]
 self:=fun A i s Q E st h=>wpAny_pyIter_zip st.1 h
section
variable{X:aM}{elts:List Expr}{cv:Nat}{p8:Pos}
def GG(b1:er):TI:=fun σ H R=>b1 σ H fun vs H1=>∃x cc,vs=[.str x,.str cc]∧R (xK x cc) H1
theorem UT{a b:Expr}{b1:er}{p pos:Pos}(hg:cU X "zip")(hm:X.mg "zip"=none)(ha:eT X [a,b] b1)(hs:starEach [a,b] X.env=[(false,eval a X.env),(false,eval b X.env)]:=by rfl)(hs2:starEach [b] X.env=[(false,eval b X.env)]:=by rfl) :
  fR X (.Tuple elts cv p8) (.Call (.Name "zip" p) [a,b] [] pos) (GG b1):=by
 have hb:bootBuiltins "zip"=some (.type "zip"):=by kernel_rfl
 intro pins s σ H R I h;refine PyProof.Rows.Call_ (mL I hg hm hb (PyProof.Rows.callWith_type1 (bL (ha pos pins s σ H _ I h) fun us s1⟨vs,H1,aQ,au,aS⟩=>?_) (by rw[hs,hs2]) (by rw[hs2];rfl)));obtain⟨x,cc,e,q⟩:=aS;subst e;obtain⟨u,gE,rfl,⟨t,rfl⟩,⟨b2,rfl⟩⟩:=vals2 au;refine L7 fun h' a1 a2 eE hA ib i9 hk=>?_;have b5:Inv X pins σ H1 { s1 with heap:=h' }:=aQ.kept (t':=s1.toks) hk;refine wpAny_pyIter_zip a1 ?_;refine⟨s1.heap.objs.size+4,[s1.heap.objs.size+4,s1.heap.objs.size+2,s1.heap.objs.size+3,s1.heap.objs.size,s1.heap.objs.size+1],_,_,H1,rfl,b5,Yl x t cc b2 _ _ _ _ _ (KL s1.heap.objs.size),⟨a1,a2,⟨_,_,eE⟩,hA,ib⟩,fun b hb=>?_,q⟩;have hb:s1.heap.objs.size≤b:=by
  have hb:b=s1.heap.objs.size+4∨b=s1.heap.objs.size+2∨b=s1.heap.objs.size+3∨b=s1.heap.objs.size∨b=s1.heap.objs.size+1:=by simpa using hb
  rcases hb with q|q|q|q|q
  ·rw[q];exact Nat.le_add_right _ _
  ·rw[q];exact Nat.le_add_right _ _
  ·rw[q];exact Nat.le_add_right _ _
  ·rw[q];exact Nat.le_refl _
  ·rw[q];exact Nat.le_add_right _ _
 exact aQ.mD hb (aQ.bF.fresh hb)
end
end aX
namespace aB
open PySem PySem.Spec aX PyProof.Rows
section
variable{X:aM}{F:bt}{a b:Expr}{pos p:Pos}{ma:aP}
def qm(xs ys:List Nat):List D:=(xs.zip ys).map fun p=>.tup [dP p.1,dP p.2]
def C5:List D→R (List D)
 |[.str x,.str y]=>.ok (qm x.cps.toList y.cps.toList)
 |_=>.bad
theorem QT{K:PySem.W.Frag}{G:ai}{x y:Str}:kJ K (xK x y) (qm x.cps.toList y.cps.toList) G where
 go:=fun i H s hi=>by
  have hi:i<min x.cps.size y.cps.size:=by simpa[qm]using hi
  exact⟨by omega,by omega⟩
 i2:=fun i H v H' s hi z=>by
  obtain⟨p,c,cZ,hc,ki,hp,rfl,rfl⟩:=z;refine⟨.tup [dP c,dP cZ],?_,.inr ⟨p,_,_,hp,rfl,rfl,rfl,.cons (by unfold dP;simp only[At]) (.cons (by unfold dP;simp only[At]) .nil)⟩⟩;unfold qm;rw[List.getElem?_map];have sy:(x.cps.toList.zip y.cps.toList)[i]?=some (c,cZ):=by rw[List.getElem?_zip_eq_some];exact⟨by rw[Array.getElem?_toList];exact hc,by rw[Array.getElem?_toList];exact ki⟩
  rw[sy];rfl
 stop:=fun H s=>by show _=_;simp[qm]
def tf(m:aP):aP:=fun ρ=>(m ρ).bind C5
theorem Qy:nz (kz F (tf ma)) (GG (ei F ma)):=by
 rintro σ H Q ⟨G,ρ,r,h⟩;unfold tf at h;refine⟨G,ρ,r,?_⟩;cases av:ma ρ with
 |bad=>rw[av]at h;exact h.elim
 |exc c=>rw[av]at h;exact h
 |ok ds=>
  rw[av,R.bE]at h;intro vs H1 aT au s1 al;unfold C5 at h
  split at h
  ·rename_i x y;obtain⟨v,w,rfl,bc,j_⟩:=al.two;simp only[At]at bc j_;subst bc j_;exact⟨x,y,rfl,h _ H1 aT au s1 QT⟩
  ·exact h.elim
theorem Zs{elts:List Expr}{k:Nat}{m9:Pos}(hm:X.mg "zip"=none)(ha:e7 X F [a,b] ma)(hg:cU X "zip":=by rfl)(hs:starEach [a,b] X.env=[(false,eval a X.env),(false,eval b X.env)]:=by rfl)(hs2:starEach [b] X.env=[(false,eval b X.env)]:=by rfl) :
  lJ X F (.Tuple elts k m9) (.Call (.Name "zip" p) [a,b] [] pos) (tf ma):=⟨fR.imp (UT hg hm ha.1 hs hs2) Qy⟩
end
end aB
namespace aB
open PySem PySem.Spec aX
@[simp] theorem df{α β:Type}(a:α)(k:α→R β):(R.ok a).bind k=k a:=(rfl)
@[simp] theorem acC{α β:Type}(k:α→R β):(R.bad:R α).bind k=.bad:=(rfl)
@[simp] theorem acD{α β:Type}(c:Str)(k:α→R β):(R.exc c:R α).bind k=.exc c:=(rfl)
def gC(b:a0):e4→R e4
 |.bq ρ=>b ρ
 |f=>.ok f
@[simp] theorem l5(a b:a0)(ρ:ao):aR a b ρ=(a ρ).bind (gC b):=by unfold aR;congr 1
@[simp] theorem p3(b:a0)(ρ:ao):gC b (.bq ρ)=b ρ:=(rfl)
@[simp] theorem abp(b:a0)(d:D):gC b (.dH d)=.ok (.dH d):=(rfl)
@[simp] theorem abo(b:a0)(d:List D):gC b (.jl d)=.ok (.jl d):=(rfl)
def wy:Option cO→R D
 |some (.ak d)=>.ok d
 |_=>.bad
@[simp] theorem v_var(i:Nat)(ρ:ao):J i ρ=wy ρ[i]?:=by unfold J wy;rfl
@[simp] theorem abb(d:D):wy (some (.ak d))=.ok d:=(rfl)
@[simp] theorem Cu(d:D)(ρ:ao):aj d ρ=.ok d:=(rfl)
@[simp] theorem Yx(f:D→D→R D)(a b:aD)(ρ:ao):ag f a b ρ=(a ρ).bind fun x=>(b ρ).bind fun y=>f x y:=(rfl)
@[simp] theorem acy(f:D→R D)(a:aD)(ρ:ao):dC f a ρ=(a ρ).bind f:=(rfl)
@[simp] theorem qa(ρ:ao):ar ρ=.ok []:=(rfl)
@[simp] theorem rP(a:aD)(r:aP)(ρ:ao):ae a r ρ=(a ρ).bind fun x=>(r ρ).bind fun xs=>.ok (x::xs):=(rfl)
def rO(xs:List D):R D:=if xs.length≤1000000 then .ok (.tup xs)else .bad
@[simp] theorem J4(m:aP)(ρ:ao):cD m ρ=(m ρ).bind rO:=(rfl)
@[simp] theorem abw{xs:List D}(h:xs.length≤1000000):rO xs=.ok (.tup xs):=if_pos h
@[simp] theorem YA(m:aP)(ρ:ao):cj m ρ=(m ρ).bind fun xs=>.ok (.lst xs):=(rfl)
@[simp] theorem YC(m:aP)(ρ:ao):dz m ρ=(m ρ).bind lim:=(rfl)
@[simp] theorem Yw(m:aD)(ρ:ao):aW m ρ=(m ρ).bind ja:=(rfl)
@[simp] theorem ZH(b:Bool):ja (.ax b)=.ok b:=(rfl)
@[simp] theorem v_and(a b:b4)(ρ:ao):jQ a b ρ=(a ρ).bind fun c=>if c=true then b ρ else .ok false:=(rfl)
@[simp] theorem v_or(a b:b4)(ρ:ao):eZ a b ρ=(a ρ).bind fun c=>if c=true then .ok true else b ρ:=(rfl)
@[simp] theorem v_not(a:b4)(ρ:ao):eb a ρ=(a ρ).bind fun c=>.ok (!c):=(rfl)
@[simp] theorem abB(a b:aD)(ρ:ao):jR a b ρ=(a ρ).bind fun x=>(ja x).bind fun c=>if c=true then b ρ else .ok (.ax false):=(rfl)
@[simp] theorem YB(c:b4)(a b:a0)(ρ:ao):ck c a b ρ=(c ρ).bind fun k=>if k=true then a ρ else b ρ:=(rfl)
@[simp] theorem aca(ρ:ao):cw ρ=.ok (.bq ρ):=(rfl)
@[simp] theorem aco(a:aD)(ρ:ao):bU a ρ=(a ρ).bind fun d=>.ok (.dH d):=(rfl)
@[simp] theorem acp(a:aP)(ρ:ao):gw a ρ=(a ρ).bind fun d=>.ok (.jl d):=(rfl)
@[simp] theorem YE(i:Nat)(d:D)(ρ:ao):a8 i d ρ=if i<ρ.length then .ok (ρ.set i (.ak d))else .bad:=(rfl)
@[simp] theorem acq(i:Nat)(a:aD)(ρ:ao):cp i a ρ=(a ρ).bind fun d=>(a8 i d ρ).bind fun bo=>.ok (.bq bo):=(rfl)
@[simp] theorem YD(i:Nat)(a:aP)(ρ:ao):ez i a ρ=(a ρ).bind fun ds=>if i<ρ.length then .ok (.bq (ρ.set i (.cE ds)))else .bad:=(rfl)
@[simp] theorem acr(i:Nat)(a:fc)(ρ:ao):rm i a ρ=(a ρ).bind fun x=>(a8 i x.1 x.2).bind fun bo=>.ok (.bq bo):=(rfl)
@[simp] theorem abS(a:fc)(ρ:ao):n9 a ρ=(a ρ).bind fun x=>.ok (.bq x.2):=(rfl)
@[simp] theorem abL(f:List D→R D)(m:aP)(ρ:ao):bZ f m ρ=(m ρ).bind f:=(rfl)
@[simp] theorem abG(n:Nat)(mf:List D→R bW)(m:aP)(ρ:ao):bR n mf m ρ=(m ρ).bind fun ds=>if ds.length=n then(mf ds).bind iU else .bad:=(rfl)
@[simp] theorem Yy(n:Nat)(mf:List D→R bW)(m:aP)(ρ:ao):gv n mf m ρ=(m ρ).bind fun ds=>if ds.length=n then(mf ds).bind AS else .bad:=(rfl)
theorem Yz(mi:aP)(set:D→ao→R ao)(body:a0)(ρ:ao):d3 mi set body ρ=(mi ρ).bind fun ds=>e9 set body ds ρ:=(rfl)
@[simp] theorem acn(m:aP)(ρ:ao):fm m ρ=(m ρ).bind mY:=(rfl)
@[simp] theorem w_(m:aD)(ρ:ao):ea m ρ=(m ρ).bind wJ:=(rfl)
@[simp] theorem v_bor(m:aD)(ρ:ao):ip m ρ=(m (eP ρ)).bind pT:=(rfl)
@[simp] theorem abF(m:b4)(ρ:ao):iP m ρ=m (eP ρ):=(rfl)
theorem J3(nl:Nat)(caps:List Nat)(mi:aP)(set:D→ao→R ao)(tst:b4)(elt:aD)(ρ:ao):dh nl caps mi set tst elt ρ=(mi ρ).bind fun ds=>gy (fW set tst elt ds (lL nl caps ρ) []):=(rfl)
@[simp] theorem ZG(i j:Int):cC (.int i) (.int j)=.ok (.int (i+j)):=(rfl)
@[simp] theorem abr(i j:Int):l3 (.int i) (.int j)=.ok (.int (i-j)):=(rfl)
@[simp] theorem aaZ{i j:Int}(h1: -18446744073709551616<i)(h2:i<18446744073709551616):ks (.int i) (.int j)=.ok (.int (i*j)):=if_pos (Or.inl ⟨h1,h2⟩)
@[simp] theorem mul_r{i j:Int}(h1: -18446744073709551616<j)(h2:j<18446744073709551616):ks (.int i) (.int j)=.ok (.int (i*j)):=if_pos (Or.inr ⟨h1,h2⟩)
@[simp] theorem ZV{i j:Int}(h1:0<j)(h2:j<1073741824):hM (.int i) (.int j)=.ok (.int (i/j)):=if_pos ⟨h1,h2⟩
@[simp] theorem aaY{i j:Int}(h:0<j):dv (.int i) (.int j)=.ok (.int (i%j)):=if_pos h
@[simp] theorem aba{i:Int}{j:Nat}(h:j≤1000000)(h1: -1000000<i)(h2:i<1000000):jX (.int i) (.int (j:Int))=.ok (.int (i^j)):=by have:rX i (j:Int):=⟨by omega,by omega,by omega⟩;simp only[jX,jN,if_pos this,Int.toNat_natCast]
theorem U7:jX (.int 10) (.int 6)=.ok (.int 1000000):=(rfl)
theorem Ir:jX (.int 10) (.int 30)=.ok (.int 1000000000000000000000000000000):=(rfl)
@[simp] theorem aaT(i j:Int):ra (.int i) (.int j)=.ok (.ax (decide (i<j))):=(rfl)
@[simp] theorem aaL(i j:Int):k7 (.int i) (.int j)=.ok (.ax (decide (i≤j))):=(rfl)
@[simp] theorem aab(i j:Int):mE (.int i) (.int j)=.ok (.ax (decide (j<i))):=(rfl)
@[simp] theorem ZS(i j:Int):b8 true (.int i) (.int j)=.ok (.ax (i==j)):=(rfl)
@[simp] theorem aa0(i j:Int):b8 false (.int i) (.int j)=.ok (.ax (!(i==j))):=(rfl)
@[simp] theorem aaM(xs:List D):cV [.lst xs]=.ok (.int xs.length):=(rfl)
@[simp] theorem aaO(xs:List D):cV [.tup xs]=.ok (.int xs.length):=(rfl)
@[simp] theorem aaN(xs:List D):cV [.cy xs]=.ok (.int xs.length):=(rfl)
@[simp] theorem abg(d:D):iU (.v d)=.ok d:=(rfl)
@[simp] theorem abe(ds:List D):iU (.o ds)=.ok (.lst ds):=(rfl)
@[simp] theorem VO(ds:List D):AS (.o ds)=.ok ds:=(rfl)
@[simp] theorem aa9(d:D):outD (.dH d)=.ok (.v d):=(rfl)
@[simp] theorem aa8(d:List D):outD (.jl d)=.ok (.o d):=(rfl)
@[simp] theorem ua(N:Nat)(m:a0)(ds:List D):cQ N m ds=(m (kY N ds)).bind outD:=(rfl)
def Aw:Option cO→R (List D)
 |some (.cE ds)=>.ok ds
 |_=>.bad
@[simp] theorem aci(i:Nat)(ρ:ao):ownAt i ρ=Aw ρ[i]?:=by unfold ownAt Aw;rfl
@[simp] theorem aa_(ds:List D):Aw (some (.cE ds))=.ok ds:=(rfl)
@[simp] theorem Z2(set:D→ao→R ao)(body:a0)(ρ:ao):e9 set body [] ρ=.ok (.bq ρ):=(rfl)
theorem FR{set:D→ao→R ao}{body:a0}(I:Nat→ao→Prop):∀(ds:List D)(i:Nat)(ρ:ao),(∀(j:Nat) d ρ,ds[j]?=some d→I (i+j) ρ→∃d2 bo,set d ρ=.ok d2∧body d2=.ok (.bq bo)∧I (i+j+1) bo)→I i ρ→∃bo,e9 set body ds ρ=.ok (.bq bo)∧I (i+ds.length) bo
 |[],i,ρ,_,h=>⟨ρ,rfl,h⟩
 |d::ds,i,ρ,st,h=>by
  obtain⟨d2,eC,aq,az,h2⟩:=st 0 d ρ rfl h;obtain⟨bo,b7,h3⟩:=FR I ds (i+1) eC (fun j d ρ e hi=>by obtain⟨a,b,bN,cZ,eN⟩:=st (j+1) d ρ (by simpa using e) (by rw[show i+(j+1)=i+1+j by omega];exact hi);exact⟨a,b,bN,cZ,by rw[show i+1+j+1=i+(j+1)+1 by omega];exact eN⟩) (by simpa using h2)
  refine⟨bo,?_,by rw[List.length_cons,show i+(ds.length+1)=i+1+ds.length by omega];exact h3⟩;rw[e9,aq,df,az,df];exact b7
theorem FQ{mi:aP}{set:D→ao→R ao}{body:a0}{ds:List D}{ρ:ao}(I:Nat→ao→Prop)(hi:mi ρ=.ok ds)(st:∀(j:Nat) d ρ,ds[j]?=some d→I j ρ→∃d2 bo,set d ρ=.ok d2∧body d2=.ok (.bq bo)∧I (j+1) bo)(h:I 0 ρ):∃bo,d3 mi set body ρ=.ok (.bq bo)∧I ds.length bo:=by obtain⟨bo,e,h'⟩:=FR I ds 0 ρ (fun j d ρ e cg=>by rw[Nat.zero_add]at cg ⊢;exact st j d ρ e cg) h;rw[Nat.zero_add]at h';exact⟨bo,by rw[Yz,hi,df,e],h'⟩
@[simp] theorem ZK(d:D):gK (.ak d)=.ak d:=(rfl)
noncomputable def xY(i:Nat)(ρ:ao)(ds:List D)(d:D):R e4:=if ds.length<1000000 then .ok (.bq (ρ.set i (.cE (ds++[d]))))else .bad
@[simp] theorem Lq{i:Nat}{ρ:ao}{ds:List D}{d:D}(h:ds.length<1000000):xY i ρ ds d=.ok (.bq (ρ.set i (.cE (ds++[d])))):=if_pos h
@[simp] theorem abC(i:Nat)(m:aD)(ρ:ao):g7 i m ρ=(ownAt i ρ).bind fun ds=>(m ρ).bind fun d=>xY i ρ ds d:=(rfl)
@[simp] theorem abE(i:Nat)(m:fc)(ρ:ao):mO i m ρ=(ownAt i ρ).bind fun _=>(m ρ).bind fun x=>(ownAt i x.2).bind fun ds=>xY i x.2 ds x.1:=(rfl)
@[simp] theorem ab2(m:aD)(ρ:ao):lf m ρ=(m ρ).bind fun d=>.ok (d,ρ):=(rfl)
@[simp] theorem ab3(m:aP)(ρ:ao):q_ m ρ=(m ρ).bind fun d=>.ok (d,ρ):=(rfl)
@[simp] theorem abN(a:fc)(r:iA)(ρ:ao):pC a r ρ=(a ρ).bind fun x=>(r x.2).bind fun y=>.ok (x.1::y.1,y.2):=(rfl)
@[simp] theorem acx(m:iA)(ρ:ao):pH m ρ=(m ρ).bind fun x=>(rO x.1).bind fun d=>.ok (d,x.2):=by
  unfold pH rO
  congr 1;funext x
  split<;>rfl
noncomputable def EH(i:Nat)(ds:List D)(ρ:ao):D→R (D×ao)
 |.lst es=>if ds.length+es.length≤1000000 then .ok (.non,ρ.set i (.cE (ds++es)))else .bad
 |_=>.bad
@[simp] theorem abT(i:Nat)(m:aD)(ρ:ao):rg i m ρ=(ownAt i ρ).bind fun ds=>(m ρ).bind fun d=>EH i ds ρ d:=by unfold rg;congr 1
@[simp] theorem ZU{i:Nat}{ds es:List D}{ρ:ao}(h:ds.length+es.length≤1000000):EH i ds ρ (.lst es)=.ok (.non,ρ.set i (.cE (ds++es))):=if_pos h
noncomputable def tQ(i:Nat)(ds:List D)(ρ:ao):D→R (D×ao)
 |.int k=>if-(2^63)≤k∧k<2^63 then match seqIndex? k ds.length with
  |some j=>match ds[j]? with
   |some y=>.ok (y,ρ.set i (.cE (ds.eraseIdx j)))
   |none=>.bad
  |none=>.bad
  else .bad
 |_=>.bad
@[simp] theorem ack(i:Nat)(m:aD)(ρ:ao):k8 i m ρ=(ownAt i ρ).bind fun ds=>(m ρ).bind fun d=>tQ i ds ρ d:=by unfold k8;congr 1
theorem U3{i:Nat}{ds:List D}{ρ:ao}{k:Nat}(h:k<ds.length)(hl:ds.length<1000000):tQ i ds ρ (.int (k:Int))=.ok (ds[k],ρ.set i (.cE (ds.eraseIdx k))):=by
 have d_: -(2^63)≤(k:Int):=Int.le_trans (by decide) (Int.natCast_nonneg k);have dg:(k:Int)<2^63:=Int.lt_trans (b:=1000000) (by omega) (by decide);have s:seqIndex? (k:Int) ds.length=some k:=by rw[PySem.seqIndex_of (by omega) (by omega)];simp
 simp only[tQ,if_pos (And.intro d_ dg),s,List.getElem?_eq_getElem h]
noncomputable def vB(i:Nat)(ds:List D)(ρ:ao)(y:D):D→R (D×ao)
 |.int k=>if 0≤k∧k<2^63∧ds.length<1000000 then .ok (.non,ρ.set i (.cE (ds.take (min k.toNat ds.length)++y::ds.drop (min k.toNat ds.length))))else .bad
 |_=>.bad
@[simp] theorem abW(i:Nat)(m n:aD)(ρ:ao):pF i m n ρ=(ownAt i ρ).bind fun ds=>(m ρ).bind fun d=>(n ρ).bind fun y=>vB i ds ρ y d:=by unfold pF;congr 1
@[simp] theorem ab5(m:aP)(ρ:ao):rj m ρ=(m ρ).bind td:=(rfl)
@[simp] theorem ab4(m:aP)(ρ:ao):jT m ρ=(m ρ).bind n4:=(rfl)
@[simp] theorem abX(m:aD)(ρ:ao):pD m ρ=(m ρ).bind Cm:=(rfl)
@[simp] theorem YF(set:D→ao→R ao)(m:aD)(ρ:ao):pI set m ρ=(m ρ).bind fun d=>(set d ρ).bind fun bo=>.ok (.bq bo):=(rfl)
@[simp] theorem Cw(m:aD)(ρ:ao):hD m ρ=(m (eP ρ)).bind fun d=>.ok (.dH d):=(rfl)
@[simp] theorem acg(a:aD)(ρ:ao):rl a ρ=(a ρ).bind fun x=>(ja x).bind fun c=>.ok (.ax (!c)):=(rfl)
@[simp] theorem abi(ds:List D):wJ (.lst ds)=.ok ds:=(rfl)
@[simp] theorem abx(ds:List D):Cm (.tup ds)=.ok ds:=(rfl)
@[simp] theorem aaR(ds:List D):n4 [.lst ds]=.ok ds:=(rfl)
@[simp] theorem aaQ{xs:List D}(h:xs.length≤1000000):lim xs=.ok xs:=if_pos h
@[simp] theorem Z_:eP []=[]:=(rfl)
@[simp] theorem Z9(s:cO)(ρ:ao):eP (s::ρ)=nR s::eP ρ:=(rfl)
@[simp] theorem Z5(d:D):nR (.ak d)=.ak d:=(rfl)
@[simp] theorem Z8:nR .un=.un:=(rfl)
@[simp] theorem Z6(ds:List D):nR (.a4 (.lst ds))=.ak (.lst ds):=(rfl)
@[simp] theorem aa6(i:Int):pT (.int i)=.ok (.int i):=(rfl)
@[simp] theorem aa5(i:Bool):pT (.ax i)=.ok (.ax i):=(rfl)
@[simp] theorem Th{α:Type}(a:α):gy (R.ok a)=.ok a:=(rfl)
def CB:Option cO→R (List D)
 |some (.a4 (.lst ds))=>.ok ds
 |_=>.bad
@[simp] theorem acz(i:Nat)(ρ:ao):iR i ρ=CB ρ[i]?:=by unfold iR CB;rfl
@[simp] theorem acF(ds:List D):CB (some (.cE ds))=.ok ds:=(rfl)
@[simp] theorem abM(f g:D→D→R D)(a b c:aD)(ρ:ao):iQ f g a b c ρ=(a ρ).bind fun x=>(b ρ).bind fun y=>(f x y).bind fun z=>(ja z).bind fun k=>if k=true then(c ρ).bind fun w=>g y w else .ok (.ax false):=(rfl)
@[simp] theorem aaD(N:Nat)(ds:List D):kY N ds=ds.map .ak++List.replicate (N-ds.length) .un:=(rfl)
theorem jO{xs:List D}{k:Nat}{d:D}(h:xs[k]?=some d):ay (.lst xs) (.int (k:Int))=.ok d:=by
 have hk:=(List.getElem?_eq_some_iff.mp h).1;have e:gr xs (k:Int)=some d:=by unfold gr lU;rw[if_pos (by omega),if_pos (by omega)];simpa using h
 simp only[ay,e]
theorem QY{xs:List D}{k:Nat}{d:D}(h:xs[k]?=some d):ay (.cy xs) (.int (k:Int))=.ok d:=by
 have hk:=(List.getElem?_eq_some_iff.mp h).1;have e:gr xs (k:Int)=some d:=by unfold gr lU;rw[if_pos (by omega),if_pos (by omega)];simpa using h
 simp only[ay,e]
theorem zQ{xs:List D}{k:Nat}{d:D}(h:xs[k]?=some d):ay (.tup xs) (.int (k:Int))=.ok d:=by
 have hk:=(List.getElem?_eq_some_iff.mp h).1;have e:gr xs (k:Int)=some d:=by unfold gr lU;rw[if_pos (by omega),if_pos (by omega)];simpa using h
 simp only[ay,e]
theorem zP{ys:List Int}{k:Nat}(h:k<ys.length):ay (.lst (ys.map D.int)) (.int (k:Int))=.ok (.int ys[k]):=jO (by simp[h])
theorem jV(x:Int){n:Nat}(h:0<n):∃k:Nat,k<n∧x%(n:Int)=(k:Int):=by have h0:0≤x%(n:Int):=Int.emod_nonneg _ (by omega);have h1:x%(n:Int)<(n:Int):=Int.emod_lt_of_pos _ (by omega);obtain⟨k,e⟩:=Int.eq_ofNat_of_zero_le h0;exact⟨k,by omega,e⟩
@[simp] theorem abd(n:Nat)(h:n<1000000):mY [.int (n:Int)]=.ok (fg 0 n):=by have: -(2^62)≤(n:Int)∧(n:Int)<2^62:=⟨by omega,by omega⟩;simp only[mY,if_pos this,Int.toNat_natCast]
theorem IS{n j:Nat}{d:D}(h:(fg 0 n)[j]?=some d):j<n∧d=.int (j:Int):=by
 unfold fg at h;rw[List.getElem?_map]at h;cases e:(List.range n)[j]? with
 |none=>rw[e]at h;cases h
 |some k=>
  rw[e]at h;have cg:j<n:=by have:=(List.getElem?_eq_some_iff.mp e).1;simpa using this
  rw[List.getElem?_range cg]at e;cases e;simp at h;exact⟨cg,h.symm⟩
@[simp] theorem VC(a:Int)(n:Nat):(fg a n).length=n:=by simp[fg]
@[simp] theorem acB{α β ZD:Type}(r:R α)(f:α→R β)(g:β→R ZD):(r.bind f).bind g=r.bind fun x=>(f x).bind g:=by cases r<;>rfl
def Ends{β:Type}(r:R β)(T:β→Prop):Prop:=∃b,r=.ok b∧T b
@[simp] theorem ZQ{β:Type}(b:β)(T:β→Prop):Ends (.ok b) T=T b:=propext ⟨fun⟨c,e,h⟩=>by cases e;exact h,fun h=>⟨b,rfl,h⟩⟩
@[simp] theorem ZP{β:Type}(T:β→Prop):Ends (.bad) T=False:=propext ⟨fun⟨c,e,h⟩=>(by cases e),False.elim⟩
theorem Ends.bind{α β:Type}{r:R α}{k:α→R β}{S:α→Prop}{T:β→Prop}(h:Ends r S)(f:∀b,S b→Ends (k b) T):Ends (r.bind k) T:=by obtain⟨b,rfl,hb⟩:=h;exact f b hb
def qA(I:ao→Prop)(f:e4):Prop:=∃ρ,f=.bq ρ∧I ρ
@[simp] theorem ZF(I:ao→Prop)(ρ:ao):qA I (.bq ρ)=I ρ:=propext ⟨fun⟨r,e,h⟩=>by cases e;exact h,fun h=>⟨ρ,rfl,h⟩⟩
theorem Ex{β:Type}{mi:aP}{set:D→ao→R ao}{body:a0}{ds:List D}{ρ:ao}{k:e4→R β}{T:β→Prop}(I:Nat→ao→Prop)(hi:mi ρ=.ok ds)(h0:I 0 ρ)(st:∀(j:Nat) d ρ,ds[j]?=some d→I j ρ→Ends ((set d ρ).bind body) (qA (I (j+1))))(fin:∀bo,I ds.length bo→Ends (k (.bq bo)) T):Ends ((d3 mi set body ρ).bind k) T:=by
 obtain⟨bo,e,h⟩:=FQ (body:=body) (set:=set) (mi:=mi) I hi (fun j d ρ hd iK=>by
  obtain⟨b,e,bo,rfl,h⟩:=st j d ρ hd iK;cases es:set d ρ with
  |bad=>rw[es]at e;cases e
  |exc c=>rw[es]at e;cases e
  |ok d2=>rw[es,df]at e;exact⟨d2,bo,rfl,e,h⟩) h0
 rw[e,df];exact fin bo h
def Jo(i:Nat):e4→R e4
 |.bq bo=>.ok (.bq (kT i bo))
 |f=>.ok f
@[simp] theorem acs(i:Nat)(a:aP)(ρ:ao):ji i a ρ=(ez i a ρ).bind (Jo i):=by unfold ji;congr 1
@[simp] theorem abq(i:Nat)(ρ:ao):Jo i (.bq ρ)=.ok (.bq (kT i ρ)):=(rfl)
noncomputable def yI(ds:List D):D→R (List D)
 |.lst es=>if ds.length+es.length≤1000000 then .ok (ds++es)else .bad
 |_=>.bad
@[simp] theorem ZJ{ds es:List D}(h:ds.length+es.length≤1000000):yI ds (.lst es)=.ok (ds++es):=if_pos h
noncomputable def D3:D→D→R (List D)
 |.lst ds,.lst es=>if ds.length+es.length≤1000000 then .ok (ds++es)else .bad
 |_,_=>.bad
@[simp] theorem ZI{ds es:List D}(h:ds.length+es.length≤1000000):D3 (.lst ds) (.lst es)=.ok (ds++es):=if_pos h
@[simp] theorem abI(m n:aD)(ρ:ao):Hy m n ρ=(m ρ).bind fun c=>(n ρ).bind fun d=>D3 c d:=by unfold Hy;congr 1
@[simp] theorem abK(i:Nat)(m:aD)(ρ:ao):HA i m ρ=(ownAt i ρ).bind fun ds=>(m ρ).bind fun d=>yI ds d:=by unfold HA;congr 1
@[simp] theorem abJ(ma:aP)(m:aD)(ρ:ao):Hz ma m ρ=(ma ρ).bind fun ds=>(m ρ).bind fun d=>yI ds d:=by unfold Hz;congr 1
@[simp] theorem acu(f:D→Option Int→Option Int→R D)(m:aD)(lo hi:lG)(ρ:ao):kp f m lo hi ρ=(m ρ).bind fun d=>(lo ρ).bind fun l=>(hi ρ).bind fun h=>f d l h:=(rfl)
def y_(i:Nat)(ρ:ao):Option cO→ao
 |some (.a4 o)=>ρ.set i (.ak (mV o))
 |_=>ρ
@[simp] theorem Z4(i:Nat)(ρ:ao):kT i ρ=y_ i ρ ρ[i]?:=by unfold kT y_;rfl
@[simp] theorem Z3(i:Nat)(ρ:ao)(ds:List D):y_ i ρ (some (.cE ds))=ρ.set i (.ak (.lst ds)):=(rfl)
@[simp] theorem acb(ρ:ao):mQ ρ=.ok none:=(rfl)
@[simp] theorem acj(m:aD)(ρ:ao):ko m ρ=(m ρ).bind intD:=(rfl)
@[simp] theorem aaE(i:Int):intD (.int i)=.ok (some i):=(rfl)
theorem su{β α:Type}{mi:aP}{elt:aD}{tst:b4}{caps:List Nat}{ρ:ao}{k:List D→R β}{T:β→Prop}(g:α→D)(xs:List α)(p:α→Bool)(f:α→D)(hi:mi ρ=.ok (xs.map g))(hl:xs.length≤1000)(ht:∀a∈xs,tst (.ak (g a)::caps.map fun j=>gK (ρ.getD j .un))=.ok (p a))(h:∀a∈xs,p a=true→elt (.ak (g a)::caps.map fun j=>gK (ρ.getD j .un))=.ok (f a))(fin:Ends (k ((xs.filter p).map f)) T):Ends ((dh 1 caps mi (a8 0) tst elt ρ).bind k) T:=by
 have go:∀(xs:List α)(ws:List D)(s0:cO),ws.length+xs.length≤1000000→(∀a∈xs,tst (.ak (g a)::caps.map fun j=>gK (ρ.getD j .un))=.ok (p a))→(∀a∈xs,p a=true→elt (.ak (g a)::caps.map fun j=>gK (ρ.getD j .un))=.ok (f a))→fW (a8 0) tst elt (xs.map g) (s0::caps.map fun j=>gK (ρ.getD j .un)) ws=.ok (ws++(xs.filter p).map f):=by
  intro xs;induction xs with
  |nil=>intro ws s0 _ _ _;simp[fW]
  |cons a xs bQ=>
   intro ws s0 hl ht h;simp only[List.length_cons]at hl;have c8:a8 0 (g a) (s0::caps.map fun j=>gK (ρ.getD j .un))=.ok (.ak (g a)::caps.map fun j=>gK (ρ.getD j .un)):=by simp
   rw[List.map_cons,fW,c8,df,ht a (by simp),df];cases e:p a with
   |true=>simp only[if_true,h a (by simp) e,df,if_pos (show ws.length<1000000 by omega)];rw[bQ (ws++[f a]) _ (by simp;omega) (fun x hx=>ht x (by simp[hx])) fun x hx=>h x (by simp[hx])];simp[e]
   |false=>simp only[Bool.false_eq_true,if_false];rw[bQ ws _ (by omega) (fun x hx=>ht x (by simp[hx])) fun x hx=>h x (by simp[hx])];simp[e]
 rw[J3,hi,df];have e:=go xs [] .un (by simp;omega) ht h;have:gy (fW (a8 0) tst elt (xs.map g) (lL 1 caps ρ) [])=.ok ((xs.filter p).map f):=by show gy (fW (a8 0) tst elt (xs.map g) (.un::caps.map fun j=>gK (ρ.getD j .un)) [])=_;rw[e];rfl
 rw[this,df];exact fin
theorem mC{β α:Type}{mi:aP}{elt:aD}{caps:List Nat}{ρ:ao}{k:List D→R β}{T:β→Prop}(g:α→D)(xs:List α)(f:α→D)(hi:mi ρ=.ok (xs.map g))(hl:xs.length≤1000)(h:∀a∈xs,elt (.ak (g a)::caps.map fun j=>gK (ρ.getD j .un))=.ok (f a))(fin:Ends (k (xs.map f)) T):Ends ((dh 1 caps mi (a8 0) dW elt ρ).bind k) T:=
 su g xs (fun _=>true) f hi hl (fun _ _=>rfl) (fun a ha _=>h a ha) (by rw[List.filter_eq_self.mpr fun _ _=>rfl];exact fin)
theorem AM(n:Nat):fg 0 n=(List.range n).map fun(i:Nat)=>.int (i:Int):=by simp[fg]
theorem pb{β:Type}{mi:aP}{elt:aD}{caps:List Nat}{ρ:ao}{k:List D→R β}{T:β→Prop}(n:Nat)(f:Nat→D)(hi:mi ρ=.ok (fg 0 n))(hl:n≤1000)(h:∀a,a<n→elt (.ak (.int (a:Int))::caps.map fun j=>gK (ρ.getD j .un))=.ok (f a))(fin:Ends (k ((List.range n).map f)) T):Ends ((dh 1 caps mi (a8 0) dW elt ρ).bind k) T:=
 mC (fun(i:Nat)=>.int (i:Int)) (List.range n) f (by rw[hi,AM]) (by simpa using hl) (fun a ha=>h a (by simpa using ha)) fin
theorem yW{β α:Type}{mi:aP}{set:D→ao→R ao}{body:a0}{ρ:ao}{k:e4→R β}{T:β→Prop}(g:α→D)(xs:List α)(I:Nat→ao→Prop)(hi:mi ρ=.ok (xs.map g))(h0:I 0 ρ)(st:∀(j:Nat) a ρ,xs[j]?=some a→I j ρ→Ends ((set (g a) ρ).bind body) (qA (I (j+1))))(fin:∀bo,I xs.length bo→Ends (k (.bq bo)) T):Ends ((d3 mi set body ρ).bind k) T:=
 Ex I hi h0 (fun j d ρ hd iK=>by
  rw[List.getElem?_map]at hd;cases e:xs[j]? with
  |none=>rw[e]at hd;cases hd
  |some a=>rw[e]at hd;cases hd;exact st j a ρ e iK) (by rw[List.length_map];exact fin)
theorem pd{β:Type}{mi:aP}{set:D→ao→R ao}{body:a0}{ρ:ao}{k:e4→R β}{T:β→Prop}(n:Nat)(I:Nat→ao→Prop)(hi:mi ρ=.ok (fg 0 n))(h0:I 0 ρ)(st:∀(j:Nat) ρ,j<n→I j ρ→Ends ((set (.int (j:Int)) ρ).bind body) (qA (I (j+1))))(fin:∀bo,I n bo→Ends (k (.bq bo)) T):Ends ((d3 mi set body ρ).bind k) T:=
 Ex I hi h0 (fun j d ρ hd iK=>by obtain⟨cg,rfl⟩:=IS hd;exact st j ρ cg iK) (by rw[VC];exact fin)
theorem HD{α β:Type}(f:α→β):∀(l:List α)(i:Nat),(l.map f).eraseIdx i=(l.eraseIdx i).map f
 |[],_=>rfl
 |x::l,0=>rfl
 |x::l,i+1=>by simp only[List.eraseIdx_cons_succ,List.map_cons,HD f l i]
theorem AE{α:Type}(g:α→D){l:List α}{i:Nat}{k:Nat}(h:k<l.length)(hl:l.length<1000000)(ρ:ao):tQ i (l.map g) ρ (.int (k:Int))=.ok (g l[k],ρ.set i (.cE ((l.eraseIdx k).map g))):=by rw[U3 (by simpa using h) (by simpa using hl),HD];simp
theorem VN{v:Int}(h1: -1000000≤v)(h2:v≤1000000):mY [.int v]=.ok (fg 0 v.toNat):=by have: -(2^62)≤v∧v<2^62:=⟨by omega,by omega⟩;simp only[mY,if_pos this]
def pw{α:Type}(l:List α)(n:Nat)(y:α):List α:=l.take (min n l.length)++y::l.drop (min n l.length)
theorem GW{α:Type}(l:List α)(n:Nat)(y:α):List.Perm (pw l n y) (y::l):=by unfold pw;refine List.perm_middle.trans ?_;rw[List.take_append_drop]
theorem QG{α:Type}(l:List α)(n:Nat)(y:α):(pw l n y).length=l.length+1:=by rw[(GW l n y).length_eq,List.length_cons]
theorem QA{α:Type}(g:α→D){l:List α}{i:Nat}{v:Int}(h:0≤v)(h2:v≤1000000)(hl:l.length<1000000)(y:α)(d:D)(e:d=g y)(ρ:ao):vB i (l.map g) ρ d (.int v)=.ok (.non,ρ.set i (.cE ((pw l v.toNat y).map g))):=by subst e;have b:0≤v∧v<2^63∧(l.map g).length<1000000:=⟨h,by omega,by simpa using hl⟩;simp only[vB,if_pos b,pw];simp[List.map_take,List.map_drop]
@[simp] theorem aaS(n:Nat)(h:n≤1000000):td [.int (n:Int)]=.ok (fg 0 n):=by have: -(2^62)≤(n:Int)∧(n:Int)≤1000000:=⟨by omega,by omega⟩;simp only[td,if_pos this,Int.toNat_natCast]
@[simp] theorem aaW(i j:Int):SK [.int i,.int j]=.ok (.int (if j>i then j else i)):=(rfl)
@[simp] theorem i_{xs ys:List D}(h:xs.length+ys.length≤1000000):cC (.lst xs) (.lst ys)=.ok (.lst (xs++ys)):=if_pos h
@[simp] theorem Jf(xs:List D)(l h:Option Int):jZ (.lst xs) l h=.ok (.lst (ef xs l h)):=(rfl)
@[simp] theorem abm(xs:List D)(l h:Option Int):jZ (.cy xs) l h=.ok (.lst (ef xs l h)):=(rfl)
theorem uZ{α:Type}(xs:List α)(k:Nat):ef xs none (some (k:Int))=xs.take k:=by
 unfold ef;rw[d6.IY,d6.wA,List.drop_zero,Nat.sub_zero];by_cases h:k≤xs.length
 ·rw[Nat.min_eq_left h]
 ·rw[Nat.min_eq_right (by omega),List.take_length,List.take_of_length_le (by omega)]
theorem Ec{α:Type}(xs:List α)(k:Nat):ef xs (some (k:Int)) none=xs.drop k:=by
 unfold ef;rw[d6.IY,d6.wA];by_cases h:k≤xs.length
 ·rw[Nat.min_eq_left h,←List.length_drop,List.take_length]
 ·rw[Nat.min_eq_right (by omega),List.drop_length,List.drop_of_length_le (by omega)];simp
theorem o4{α β:Type}(g:α→β)(xs:List α)(l h:Option Int):ef (xs.map g) l h=(ef xs l h).map g:=by unfold ef;simp[List.map_take,List.map_drop]
@[simp] theorem W3(aI:List (D→ao→R ao))(ds:List D)(ρ:ao):eI aI (.tup ds) ρ=gA aI ds ρ:=(rfl)
@[simp] theorem WY(ρ:ao):gA [] [] ρ=.ok ρ:=(rfl)
@[simp] theorem WX(f:D→ao→R ao)(aI:List (D→ao→R ao))(d:D)(ds:List D)(ρ:ao):gA (f::aI) (d::ds) ρ=(f d ρ).bind fun bo=>gA aI ds bo:=(rfl)
@[simp] theorem ab8(bD:Str)(n:Nat)(mf:List D→R (List Str×List D))(ma:aP)(ρ:ao):rk bD n mf ma ρ=(ma ρ).bind fun ds=>if ds.length=n then(gy (mf ds)).bind fun x=>.ok (.ins bD x.1 x.2)else .bad:=(rfl)
@[simp] theorem aby(xs:List D):m_ [.lst xs]=.ok (.tup xs):=(rfl)
@[simp] theorem abQ(k:Str)(i:Int)(ρ:ao):Sx k i ρ=.ok (.dm [.inr k] [.int i]):=(rfl)
@[simp] theorem aa1(i:Int):Tb (.int i)=.ok (.int (-i)):=(rfl)
@[simp] theorem VI{x:D}{k:Int}(h0:0≤k)(h:k≤1000):pW (.lst [x]) (.int k)=.ok (.lst (List.replicate k.toNat x)):=by
  have b:0≤k∧k≤1000∧[x].length≤100:=⟨h0,h,by simp⟩;simp only[pW,if_pos b]
  congr 2
  generalize k.toNat=n;induction n with
  |zero=>rfl
  |succ n bQ=>simp[List.replicate_succ,bQ]
@[simp] theorem Cv(m:aP)(ρ:ao):oa m ρ=(m ρ).bind pe:=(rfl)
@[simp] theorem v_is(m:aD)(ρ:ao):rh m ρ=(m ρ).bind BY:=(rfl)
@[simp] theorem acv(m:aP)(ρ:ao):SF m ρ=(m ρ).bind Jh:=(rfl)
@[simp] theorem ab_(i:Nat)(m:a0)(ρ:ao):Sy i m ρ=m (kT i ρ):=(rfl)
@[simp] theorem abU(c:b4)(a b:aD)(ρ:ao):pE c a b ρ=(c ρ).bind fun k=>if k=true then a ρ else b ρ:=(rfl)
@[simp] theorem ach(a b:aD)(ρ:ao):pG a b ρ=(a ρ).bind fun x=>(ja x).bind fun c=>if c=true then .ok (.ax true)else b ρ:=(rfl)
@[simp] theorem ab9(bD mt:Str)(n:Nat)(mf:List D→R bW)(o:aD)(ma:aP)(ρ:ao):kn bD mt n mf o ma ρ=(o ρ).bind fun d=>(p0 bD mt d).bind fun d=>(ma ρ).bind fun ds=>if ds.length=n then(mf (d::ds)).bind iU else .bad:=(rfl)
@[simp] theorem abP(ρ:ao):Sw ρ=.ok (.dm [] []):=(rfl)
@[simp] theorem ab7(i:Nat)(a:r5)(ρ:ao):SE i a ρ=(a ρ).bind fun t=>if i<ρ.length then .ok (.bq (ρ.set i (.eA t)))else .bad:=(rfl)
@[simp] theorem ab6(a:r5)(ρ:ao):SA a ρ=(a ρ).bind fun t=>.ok (.d4 t):=(rfl)
def CC:Option cO→R T
 |some (.eA t)=>.ok t
 |_=>.bad
@[simp] theorem acA(i:Nat)(ρ:ao):HC i ρ=CC ρ[i]?:=by unfold HC CC;rfl
@[simp] theorem acG(t:T):CC (some (.eA t))=.ok t:=(rfl)
def Cj:Option cO→R (List T)
 |some (.eA (.lst bS))=>.ok bS
 |_=>.bad
@[simp] theorem acw(i:Nat)(ρ:ao):w6 i ρ=Cj ρ[i]?:=by unfold w6 Cj;rfl
@[simp] theorem abu(bS:List T):Cj (some (.eA (.lst bS)))=.ok bS:=(rfl)
@[simp] theorem abn(b:a0)(t:T):gC b (.d4 t)=.ok (.d4 t):=(rfl)
@[simp] theorem aa7(t:T):outD (.d4 t)=.ok (.t t):=(rfl)
@[simp] theorem abf(t:T):iU (.t t)=.ok (toD t):=(rfl)
@[simp] theorem Z7(t:T):nR (.eA t)=.ak (toD t):=(rfl)
@[simp] theorem abD(i:Nat)(mk m:aD)(ρ:ao):Sv i mk m ρ=(w6 i ρ).bind fun bS=>(mk ρ).bind fun k=>DC i ρ bS m k:=(rfl)
@[simp] theorem acm(i:Nat)(mk mv:aD)(ρ:ao):Sz i mk mv ρ=(mv ρ).bind fun v=>(ownAt i ρ).bind fun ds=>(mk ρ).bind fun k=>putK i ρ ds v k:=(rfl)
def QV(ds:List D):D→R D
 |.int j=>match gr ds j with
  |some d=>.ok d
  |none=>.bad
 |_=>.bad
@[simp] theorem abY(i:Nat)(n:aD)(ρ:ao):HB i n ρ=(ownAt i ρ).bind fun ds=>(n ρ).bind (QV ds):=by unfold HB;congr 1
@[simp] theorem abt(k:Bool):rN [.ax k]=.ok (.int (if k then 1 else 0)):=(rfl)
@[simp] theorem aaG(x:D):eh true x .non=.ok (.ax (eX x)):=(rfl)
@[simp] theorem abk(x:Str):BY (.str x)=.ok (x.cps.toList.map dP):=(rfl)
theorem yX{α:Type}(g:α→D)(xs:List α):pe [.lst (xs.map g)]=.ok (xs.zipIdx.map fun p=>.tup [.int (p.2:Int),g p.1]):=by
 simp only[pe,nP]
 congr 1
 rw[List.zipIdx_map,List.map_map];rfl
theorem ZC{α:Type}{xs:List α}{j:Nat}{p:α×Nat}(h:xs.zipIdx[j]?=some p):p.2=j∧xs[j]?=some p.1:=by
 rw[List.getElem?_zipIdx]at h;cases e:xs[j]? with
 |none=>rw[e]at h;cases h
 |some a=>rw[e]at h;simp at h;subst h;exact⟨rfl,rfl⟩
theorem C6{α:Type}{xs:List α}{p:α×Nat}(h:p∈xs.zipIdx):xs[p.2]?=some p.1:=by obtain⟨j,e⟩:=List.mem_iff_getElem?.mp h;obtain⟨h1,h2⟩:=ZC e;rw[h1];exact h2
theorem nO{β α:Type}{mi:aP}{elt:aD}{caps:List Nat}{ρ:ao}{k:List D→R β}{Dt:β→Prop}(g1 g2:α→D)(xs:List α)(f:α→D)(hi:mi ρ=.ok (xs.map fun a=>.tup [g1 a,g2 a]))(hl:xs.length≤1000)(h:∀a∈xs,elt (.ak (g1 a)::.ak (g2 a)::caps.map fun j=>gK (ρ.getD j .un))=.ok (f a))(fin:Ends (k (xs.map f)) Dt):Ends ((dh 2 caps mi (eI [a8 0,a8 1]) dW elt ρ).bind k) Dt:=by
 have go:∀(xs:List α)(ws:List D)(s0 s1:cO),ws.length+xs.length≤1000000→(∀a∈xs,elt (.ak (g1 a)::.ak (g2 a)::caps.map fun j=>gK (ρ.getD j .un))=.ok (f a))→fW (eI [a8 0,a8 1]) dW elt (xs.map fun a=>.tup [g1 a,g2 a]) (s0::s1::caps.map fun j=>gK (ρ.getD j .un)) ws=.ok (ws++xs.map f):=by
  intro xs;induction xs with
  |nil=>intro ws s0 s1 _ _;simp[fW]
  |cons a xs bQ=>
   intro ws s0 s1 hl h;simp only[List.length_cons]at hl;have c8:eI [a8 0,a8 1] (.tup [g1 a,g2 a]) (s0::s1::caps.map fun j=>gK (ρ.getD j .un))=.ok (.ak (g1 a)::.ak (g2 a)::caps.map fun j=>gK (ρ.getD j .un)):=by simp
   rw[List.map_cons,fW,c8,df];simp only[dW,df,if_true,h a (by simp),if_pos (show ws.length<1000000 by omega)];rw[bQ (ws++[f a]) _ _ (by simp;omega) fun x hx=>h x (by simp[hx])];simp
 rw[J3,hi,df];have e:=go xs [] .un .un (by simp;omega) h;have:gy (fW (eI [a8 0,a8 1]) dW elt (xs.map fun a=>.tup [g1 a,g2 a]) (lL 2 caps ρ) [])=.ok (xs.map f):=by show gy (fW (eI [a8 0,a8 1]) dW elt (xs.map fun a=>.tup [g1 a,g2 a]) (.un::.un::caps.map fun j=>gK (ρ.getD j .un)) [])=_;rw[e];rfl
 rw[this,df];exact fin
theorem Ends.done{β:Type}{r:R β}{b:β}(h:Ends r (· =b)):r=.ok b:=by obtain⟨c,e,rfl⟩:=h;exact e
end aB
namespace bG
open PySem PySem.Spec aX aB
noncomputable def top(i:Nat):Stmt:=PySem.Challenge.pw_nohalfway_k23_whole_plain_plan.main.body.getD i (.Pass ⟨0,0,0,0⟩)
abbrev Br:Stmt:=top 51
abbrev Bv:Stmt:=top 53
abbrev Bd:Stmt:=top 44
abbrev Bj:Stmt:=top 7
abbrev Bk:Stmt:=top 8
abbrev Bb:Stmt:=top 45
abbrev Bl:Stmt:=top 46
abbrev A4:Stmt:=top 47
abbrev A3:Stmt:=top 43
abbrev A0:Stmt:=inClass (top 48) 0
abbrev BB:Stmt:=top 55
abbrev Bn:Stmt:=top 56
abbrev Bp:Stmt:=top 50
abbrev Bo:Stmt:=top 57
abbrev Bu:Stmt:=top 52
abbrev Bw:Stmt:=top 58
abbrev BC:Stmt:=top 64
abbrev Bz:Stmt:=top 65
abbrev By:Stmt:=top 54
abbrev BD:Stmt:=top 60
abbrev Bs:Stmt:=top 61
abbrev Bx:Stmt:=top 62
abbrev Bm:Stmt:=top 59
abbrev BA:Stmt:=top 63
abbrev Bq:Stmt:=top 67
abbrev Be:Stmt:=top 14
abbrev Bc:Stmt:=top 19
abbrev Bg:Stmt:=top 20
abbrev A_:Stmt:=top 21
abbrev AZ:Stmt:=inClass (top 48) 1
abbrev Ba:Stmt:=top 22
abbrev BI:Stmt:=top 23
abbrev Bh:Stmt:=top 31
abbrev Bf:Stmt:=top 32
abbrev BJ:Stmt:=top 38
abbrev A1:Stmt:=inClass (top 48) 4
abbrev A9:Stmt:=top 13
abbrev A7:Stmt:=top 15
abbrev A2:Stmt:=top 16
abbrev A6:Stmt:=top 34
abbrev Bi:Stmt:=top 35
abbrev BK:Stmt:=top 24
abbrev AY:Stmt:=inClass (top 48) 3
abbrev BG:Stmt:=top 26
abbrev BL:Stmt:=top 27
abbrev A8:Stmt:=top 36
abbrev BF:Stmt:=top 37
abbrev A5:Stmt:=top 39
abbrev Bt:Stmt:=top 68
abbrev BE:Stmt:=top 66
abbrev BH:Stmt:=top 33
abbrev oo:Stmt:=top 69
def nM:D:=.int 15
def qK:D:=.int 4
def o1:D:=.int 6
def qL:D:=.int 12
def qM:D:=.int 40
noncomputable def qN:D:=.dy [.str (PySem.Str.ofString "0"),.str (PySem.Str.ofString "1"),.str (PySem.Str.ofString "x")]
def hI:D:=.dy [.str (PySem.Str.ofString "wait")]
def nN:D:=.dy [.int 8,.int 4,.int 2,.int 1]
structure xQ(K:PySem.W.Frag)(mg:Str→Option Value):Prop where
 Fh:c6 K mg "_law_draws" Br ["_law_cell","_law_many"]
 Fm:c6 K mg "_law_net" Bv ["_law_cell"]
 E3:c6 K mg "is_pair" Bd ["thing"]
 E9:c6 K mg "is_whole" Bj ["thing"]
 E_:c6 K mg "is_whole_within" Bk ["thing","least","greatest"]
 E1:c6 K mg "is_door_among" Bb ["counts","thing"]
 Fb:c6 K mg "is_wire_among" Bl ["counts","thing"]
 ET:c6 K mg "far_doors" A4 ["counts","wires"]
 ES:c6 K mg "are_counts" A3 ["thing"]
 EO:InK K mg "Net" "Net.__init__" A0 ["self","counts","wires"]
 Ft:c6 K mg "_law_row" BB ["_law_draws_here","_law_count"]
 Fd:c6 K mg "_law_book" Bn ["_law_cell","_law_count"]
 Ff:c6 K mg "_law_cell_at" Bp ["_law_script","_law_k"]
 Fe:c6 K mg "_law_books" Bo ["_law_script","_law_start","_law_counts"]
 Fl:c6 K mg "_law_mixed" Bu ["_law_cell","_law_k"]
 Fn:c6 K mg "_law_new_books" Bw ["_law_script","_law_old","_law_counts"]
 Fu:c6 K mg "_law_shuffled" BC ["_law_some","_law_cells","_law_k"]
 Fq:c6 K mg "_law_plans" Bz ["_law_cells","_law_many"]
 Fp:c6 K mg "_law_outer" By ["_law_parts"]
 Fv:c6 K mg "_law_signs" BD ["_law_address"]
 Fi:c6 K mg "_law_is_like" Bs ["_law_pattern","_law_signs_here"]
 Fo:c6 K mg "_law_out" Bx ["_law_book_here","_law_door","_law_signs_here"]
 Fc:c6 K mg "_law_beyond" Bm ["_law_parts","_law_door"]
 Fs:c6 K mg "_law_road" BA ["_law_parts","_law_books_here","_law_door","_law_address"]
 Fg:c6 K mg "_law_come_to" Bq ["_law_parts","_law_books_here","_law_wanted"]
 E4:c6 K mg "is_pattern" Be ["thing"]
 E2:c6 K mg "is_number_or_none" Bc ["thing","doors"]
 E6:c6 K mg "is_row" Bg ["thing","doors"]
 EZ:c6 K mg "is_book" A_ ["thing","doors"]
 EN:r6 K "Net" "count" "Net.count" AZ ["self","house"]
 E0:c6 K mg "is_books" Ba ["thing","net"]
 FC:c6 K mg "refuse_unless_books" BI ["thing","net"]
 E7:c6 K mg "is_step" Bh ["thing","net"]
 E5:c6 K mg "is_plan" Bf ["thing","net"]
 FD:c6 K mg "refuse_unless_plan" BJ ["net","old","new","plan"]
 EP:r6 K "Net" "outer" "Net.outer" A1 ["self"]
 EY:c6 K mg "is_address" A9 ["thing"]
 EW:c6 K mg "fits" A7 ["pattern","address"]
 ER:c6 K mg "addresses" A2 ["pattern"]
 EV:c6 K mg "first_untaught" A6 ["done","doors"]
 E8:c6 K mg "is_waited_for" Bi ["done","house"]
 FE:c6 K mg "taken" BK ["book","door","address"]
 EM:r6 K "Net" "beyond" "Net.beyond" AY ["self","door"]
 Fz:c6 K mg "onward" BG ["net","book","door","address"]
 FF:c6 K mg "walked" BL ["net","books","door","address"]
 EX:c6 K mg "house_at_fault" A8 ["net","old","new","plan","place","door","address"]
 Fx:c6 K mg "least_fault" BF ["net","old","new","plan"]
 EU:c6 K mg "fault" A5 ["net","old","new","plan"]
 Fj:c6 K mg "_law_late" Bt ["_law_net_here","_law_parts","_law_books_here","_law_some","_law_number"]
 Fw:c6 K mg "_law_with_waits" BE ["_law_plan","_law_cells"]
 FA:c6 K mg "plain_plan" BH ["net"]
 N3:c6 K mg "law" oo ["_law_script"]
 Ki:xB K mg "NoBooks"
 Kj:xB K mg "NoPlan"
 il:rY K "Net" ["many","counts","joined","far"]
 nI:mg "all"=none
 DH:mg "bool"=none
 uN:mg "enumerate"=none
 x8:mg "int"=none
 jC:mg "isinstance"=none
 et:mg "len"=none
 ka:mg "list"=none
 hB:mg "range"=none
 DN:mg "set"=none
 sb:mg "str"=none
 uS:mg "sum"=none
 qJ:mg "tuple"=none
 yE:mg "zip"=none
 nM:mh K mg "GREATEST_ADDRESS" nM
 qK:mh K mg "MOST_DOORS" qK
 o1:mh K mg "MOST_HOUSES" o1
 qL:mh K mg "MOST_ROWS" qL
 qM:mh K mg "MOST_STEPS" qM
 qN:mh K mg "SIGNS" qN
 hI:mh K mg "WAIT" hI
 nN:mh K mg "WORTHS" nN
theorem pZ:cG ["_law_cell","_law_many","_law_draws_here","_law_rest","_law_k","_law_prime","_law_factor"] ["_law_cell","_law_many"] (bO Br):=⟨rfl,rfl,rfl,by decide+kernel,rfl,by decide+kernel,by decide+kernel⟩
noncomputable def yn:a0:=
    aR (ez 2 (dz (ar)))
    (aR (cp 3 (ag hM (J 0) (aj (.int 2))))
    (aR (d3 (fm (ae (J 1) (ar))) (a8 4) (ck (aW (ag (b8 true) (ag dv (J 0) (aj (.int 2))) (aj (.int 1)))) (aR (cp 5 (ag ay (cj (dz (ae (aj (.int 2147483647)) (ae (aj (.int 2147483629)) (ae (aj (.int 2147483587)) (ae (aj (.int 2147483579)) (ar))))))) (ag dv (ag hM (J 4) (aj (.int 4))) (aj (.int 4)))))
    (aR (cp 6 (ag ay (cj (dz (ae (aj (.int 48271)) (ae (aj (.int 69621)) (ae (aj (.int 16807)) (ae (aj (.int 39373)) (ar))))))) (ag dv (J 4) (aj (.int 4)))))
    (g7 2 (ag hM (ag dv (ag ks (ag cC (ag cC (ag dv (J 3) (ag jX (aj (.int 10)) (aj (.int 30)))) (ag ks (aj (.int 7919)) (J 4))) (aj (.int 1))) (J 6)) (J 5)) (aj (.int 7)))))) (aR (g7 2 (ag dv (J 3) (ag jX (aj (.int 10)) (aj (.int 6)))))
    (cp 3 (ag hM (J 3) (ag jX (aj (.int 10)) (aj (.int 6))))))))
    (gw (iR 2))))
def mR:List D→R bW:=cQ 7 yn
theorem m4:cG ["_law_cell","_law_draws_here","_law_many","_law_counts","_law_free","_law_house","_law_wires","_law_k","_law_one"] ["_law_cell"] (bO Bv):=⟨rfl,rfl,rfl,by decide+kernel,rfl,by decide+kernel,by decide+kernel⟩
noncomputable def yr:a0:=
    aR (cp 1 (cj (gv 2 mR (ae (J 0) (ae (aj (.int 40)) (ar))))))
    (aR (cp 2 (ag cC (aj (.int 1)) (ag dv (ag ay (J 1) (aj (.int 0))) (aj (.int 6)))))
    (aR (ji 3 (dh 1 [1,2] (fm (ae (J 2) (ar))) (a8 0) (dW) (ag cC (aj (.int 1)) (ag dv (ag ay (J 1) (ag cC (aj (.int 1)) (J 0))) (ag ay (cj (dz (ae (aj (.int 4)) (ae (aj (.int 4)) (ae (aj (.int 4)) (ae (aj (.int 3)) (ae (aj (.int 2)) (ae (aj (.int 2)) (ar))))))))) (ag l3 (J 2) (aj (.int 1))))))))
    (aR (ez 4 (dz (ar)))
    (aR (d3 (fm (ae (bZ cV (ae (J 3) (ar))) (ar))) (a8 5) (n9 (rg 4 (cj (dh 1 [5] (fm (ae (ag ay (J 3) (J 5)) (ar))) (a8 0) (dW) (cD (ae (J 1) (ae (J 0) (ar)))))))))
    (aR (ez 6 (dz (ar)))
    (aR (d3 (fm (ae (ip (ag l3 (ag hM (ag l3 (bZ cV (ae (J 4) (ar))) (aj (.int 1))) (aj (.int 2))) (ag dv (ag ay (J 1) (aj (.int 7))) (aj (.int 2))))) (ar))) (a8 7) (aR (rm 8 (k8 4 (ip (ag dv (ag ay (J 1) (ag cC (aj (.int 8)) (ag ks (aj (.int 2)) (J 7)))) (bZ cV (ae (J 4) (ar)))))))
    (mO 6 (pH (pC (lf (J 8)) (pC (k8 4 (ip (ag dv (ag ay (J 1) (ag cC (aj (.int 9)) (ag ks (aj (.int 2)) (J 7)))) (bZ cV (ae (J 4) (ar)))))) (q_ ar)))))))
    (hD (cD (ae (J 3) (ae (J 6) (ar)))))))))))
def rx:List D→R bW:=cQ 9 yr
theorem WG:cG ["thing"] ["thing"] (bO Bd):=⟨rfl,rfl,rfl,by decide+kernel,rfl,by decide+kernel,by decide+kernel⟩
noncomputable def DI:a0:=
    bU (jR (dC (gi "tuple") (J 0)) (ag (b8 true) (bZ cV (ae (J 0) (ar))) (aj (.int 2))))
def tp:List D→R bW:=cQ 1 DI
theorem WK:cG ["thing"] ["thing"] (bO Bj):=⟨rfl,rfl,rfl,by decide+kernel,rfl,by decide+kernel,by decide+kernel⟩
def DJ:a0:=
    bU (jR (dC (gi "int") (J 0)) (rl (dC (gi "bool") (J 0))))
def Aa:List D→R bW:=cQ 1 DJ
theorem WL:cG ["thing","least","greatest"] ["thing","least","greatest"] (bO Bk):=⟨rfl,rfl,rfl,by decide+kernel,rfl,by decide+kernel,by decide+kernel⟩
def yg:a0:=
    bU (jR (bR 1 Aa (ae (J 0) (ar))) (iQ k7 k7 (J 1) (J 0) (J 2)))
def lZ:List D→R bW:=cQ 3 yg
theorem WD:cG ["counts","thing"] ["counts","thing"] (bO Bb):=⟨rfl,rfl,rfl,by decide+kernel,rfl,by decide+kernel,by decide+kernel⟩
noncomputable def yb:a0:=
    aR (ck (eZ (eb (aW (bR 1 tp (ae (J 1) (ar))))) (eb (aW (bR 3 lZ (ae (ag ay (J 1) (aj (.int 0))) (ae (aj (.int 0)) (ae (ag l3 (bZ cV (ae (J 0) (ar))) (aj (.int 1))) (ar)))))))) (bU (aj (.ax false))) (cw))
    (bU (bR 3 lZ (ae (ag ay (J 1) (aj (.int 1))) (ae (aj (.int 0)) (ae (ag l3 (ag ay (J 0) (ag ay (J 1) (aj (.int 0)))) (aj (.int 1))) (ar))))))
def tn:List D→R bW:=cQ 2 yb
theorem I3:cG ["counts","thing","both"] ["counts","thing"] (bO Bl):=⟨rfl,rfl,rfl,by decide+kernel,rfl,by decide+kernel,by decide+kernel⟩
noncomputable def yh:a0:=
    aR (ck (eb (aW (bR 1 tp (ae (J 1) (ar))))) (bU (aj (.ax false))) (cw))
    (aR (cp 2 (jR (bR 2 tn (ae (J 0) (ae (ag ay (J 1) (aj (.int 0))) (ar)))) (bR 2 tn (ae (J 0) (ae (ag ay (J 1) (aj (.int 1))) (ar))))))
    (bU (jR (J 2) (ag (b8 false) (ag ay (J 1) (aj (.int 0))) (ag ay (J 1) (aj (.int 1)))))))
def ru:List D→R bW:=cQ 3 yh
theorem BM:cG ["counts","wires","far","wire"] ["counts","wires"] (bO A4):=⟨rfl,rfl,rfl,by decide+kernel,rfl,by decide+kernel,by decide+kernel⟩
noncomputable def uO:a0:=
    aR (th 2)
    (aR (d3 (pD (J 1)) (a8 3) (aR (ck (eb (aW (bR 2 ru (ae (J 0) (ae (J 3) (ar)))))) (rf) (cw))
    (aR (ck (iP (eZ (aW (ag (fj true) (ag ay (J 3) (aj (.int 0))) (J 2))) (aW (ag (fj true) (ag ay (J 3) (aj (.int 1))) (J 2))))) (rf) (cw))
    (aR (mP 2 (ag ay (J 3) (aj (.int 0))) (ag ay (J 3) (aj (.int 1))))
    (mP 2 (ag ay (J 3) (aj (.int 1))) (ag ay (J 3) (aj (.int 0))))))))
    (hD (J 2)))
def rn:List D→R bW:=cQ 4 uO
theorem Wx:cG ["thing"] ["thing"] (bO A3):=⟨rfl,rfl,rfl,by decide+kernel,rfl,by decide+kernel,by decide+kernel⟩
noncomputable def uM:a0:=
    aR (ck (eZ (eb (aW (dC (gi "list") (J 0)))) (eb (aW (iQ k7 k7 (aj (.int 1)) (bZ cV (ae (J 0) (ar))) (aj o1))))) (bU (aj (.ax false))) (cw))
    (bU (bZ c3 (ae (cj (dh 1 [] (ea (J 0)) (a8 0) (dW) (bR 3 lZ (ae (J 0) (ae (aj (.int 1)) (ae (aj qK) (ar))))))) (ar))))
def tk:List D→R bW:=cQ 1 uM
theorem Wv:cG ["self","counts","wires"] ["self","counts","wires"] (bO A0):=⟨rfl,rfl,rfl,by decide+kernel,rfl,by decide+kernel,by decide+kernel⟩
noncomputable def uL:iB:=
    lX (n_ (eb (aW (bR 1 tk (ae (J 1) (ar))))))
    (lX (n_ (eb (aW (dC (gi "list") (J 2)))))
    (lX (jS "Net" "many" (bZ cV (ae (J 1) (ar))))
    (lX (jS "Net" "counts" (bZ m_ (ae (J 1) (ar))))
    (lX (jS "Net" "joined" (bZ m_ (ae (J 2) (ar))))
    (jS "Net" "far" (n7 (bR 2 rn (ae (dC (eF "Net" "counts") (J 0)) (ae (dC (eF "Net" "joined") (J 0)) (ar))))))))))
def z_:List D→R (List Str×List D):=fun es=>outI "Net" (uL (jM "Net" es))
theorem wF:cG ["_law_draws_here","_law_count","_law_pattern","_law_begin","_law_end"] ["_law_draws_here","_law_count"] (bO BB):=⟨rfl,rfl,rfl,by decide+kernel,rfl,by decide+kernel,by decide+kernel⟩
noncomputable def yx:a0:=
    aR (cp 2 (tg (PySem.Str.ofString "") (ae (cj (dh 1 [0] (fm (ae (aj (.int 4)) (ar))) (a8 0) (dW) (ag ay (aj (.str (PySem.Str.ofString "01xxx"))) (ag dv (ag ay (J 1) (J 0)) (aj (.int 5)))))) (ar))))
    (aR (cp 3 (ag ay (cj (dz (ae (aj .non) (ae (aj .non) (ae (aj .non) (ae (ag dv (ag ay (J 0) (aj (.int 5))) (J 1)) (ar))))))) (ag dv (ag ay (J 0) (aj (.int 4))) (aj (.int 4)))))
    (aR (cp 4 (ag ay (cj (dz (ae (ag dv (ag ay (J 0) (aj (.int 7))) (J 1)) (ae (aj .non) (ar))))) (ag hM (ag dv (ag ay (J 0) (aj (.int 6))) (aj (.int 7))) (aj (.int 6)))))
    (bU (cD (ae (J 2) (ae (J 3) (ae (J 4) (ar))))))))
def pO:List D→R bW:=cQ 5 yx
theorem tV:cG ["_law_cell","_law_count","_law_draws_here","_law_many","_law_book_here"] ["_law_cell","_law_count"] (bO Bn):=⟨rfl,rfl,rfl,by decide+kernel,rfl,by decide+kernel,by decide+kernel⟩
noncomputable def yk:a0:=
    aR (cp 2 (cj (gv 2 mR (ae (J 0) (ae (aj (.int 104)) (ar))))))
    (aR (cp 3 (ag ay (cj (dz (ae (ag dv (ag ay (J 2) (aj (.int 0))) (aj (.int 5))) (ae (ag dv (ag ay (J 2) (aj (.int 0))) (aj (.int 13))) (ar))))) (ag hM (ag dv (ag ay (J 2) (aj (.int 1))) (aj (.int 4))) (aj (.int 3)))))
    (aR (ji 4 (dh 1 [1,2] (fm (ae (J 3) (ar))) (a8 0) (dW) (bR 2 pO (ae (kp jZ (J 2) (ko (ag cC (aj (.int 4)) (ag ks (aj (.int 8)) (J 0)))) (ko (ag cC (aj (.int 12)) (ag ks (aj (.int 8)) (J 0))))) (ae (J 1) (ar))))))
    (aR (ck (aW (ag mE (ag dv (ag ay (J 2) (aj (.int 2))) (aj (.int 3))) (aj (.int 0)))) (cp 4 (ag cC (kp jZ (J 4) (mQ) (ko (aj (.int 11)))) (cj (dz (ae (cD (ae (aj (.str (PySem.Str.ofString "xxxx"))) (ae (aj .non) (ae (ag dv (ag ay (J 2) (aj (.int 3))) (J 1)) (ar))))) (ar)))))) (cw))
    (bU (J 4)))))
def pM:List D→R bW:=cQ 5 yk
theorem WN:cG ["_law_script","_law_k"] ["_law_script","_law_k"] (bO Bp):=⟨rfl,rfl,rfl,by decide+kernel,rfl,by decide+kernel,by decide+kernel⟩
noncomputable def uR:a0:=
    aR (ck (aW (ag ra (J 1) (bZ cV (ae (J 0) (ar))))) (bU (ag ay (J 0) (J 1))) (cw))
    (bU (aj (.int 0)))
def k9:List D→R bW:=cQ 2 uR
theorem WM:cG ["_law_script","_law_start","_law_counts"] ["_law_script","_law_start","_law_counts"] (bO Bo):=⟨rfl,rfl,rfl,by decide+kernel,rfl,by decide+kernel,by decide+kernel⟩
noncomputable def yl:a0:=
    gw (dh 2 [0,1] (oa (ae (J 2) (ar))) (eI [a8 0,a8 1]) (dW) (bR 2 pM (ae (bR 2 k9 (ae (J 2) (ae (ag cC (J 3) (J 0)) (ar)))) (ae (J 1) (ar)))))
def oc:List D→R bW:=cQ 3 yl
theorem WQ:cG ["_law_cell","_law_k"] ["_law_cell","_law_k"] (bO Bu):=⟨rfl,rfl,rfl,by decide+kernel,rfl,by decide+kernel,by decide+kernel⟩
def yq:a0:=
    bU (ag ay (cj (gv 2 mR (ae (J 0) (ae (ag cC (J 1) (aj (.int 1))) (ar))))) (J 1))
def gx:List D→R bW:=cQ 2 yq
theorem tX:cG ["_law_script","_law_old","_law_counts","_law_fresh","_law_first","_law_found","_law_house"] ["_law_script","_law_old","_law_counts"] (bO Bw):=⟨rfl,rfl,rfl,by decide+kernel,rfl,by decide+kernel,by decide+kernel⟩
noncomputable def yt:a0:=
    aR (cp 3 (cj (gv 3 oc (ae (J 0) (ae (aj (.int 7)) (ae (J 2) (ar)))))))
    (aR (cp 4 (bR 2 gx (ae (bR 2 k9 (ae (J 0) (ae (aj (.int 0)) (ar)))) (ae (aj (.int 50)) (ar)))))
    (aR (ez 5 (dz (ar)))
    (aR (d3 (fm (ae (bZ cV (ae (J 2) (ar))) (ar))) (a8 6) (g7 5 (ag ay (cj (dz (ae (ag ay (J 1) (J 6)) (ae (ag ay (J 3) (J 6)) (ar))))) (bZ rN (ae (ag mE (ag dv (ag hM (J 4) (ag cC (J 6) (aj (.int 1)))) (aj (.int 4))) (aj (.int 0))) (ar))))))
    (gw (iR 5)))))
def tr:List D→R bW:=cQ 7 yt
theorem tY:cG ["_law_some","_law_cells","_law_k","_law_found","_law_done","_law_cell"] ["_law_some","_law_cells","_law_k"] (bO BC):=⟨rfl,rfl,rfl,by decide+kernel,rfl,by decide+kernel,by decide+kernel⟩
noncomputable def DL:a0:=
    aR (ez 3 (jT (ae (J 0) (ar))))
    (aR (ez 4 (dz (ar)))
    (aR (kq (iP (aW (ag (b8 false) (J 3) (cj (dz (ar)))))) (aR (cp 5 (aj (.int 5)))
    (aR (ck (aW (ag (b8 false) (J 1) (cj (dz (ar))))) (cp 5 (ip (ag ay (J 1) (ag dv (ag cC (bZ cV (ae (J 4) (ar))) (J 2)) (bZ cV (ae (J 1) (ar))))))) (cw))
    (mO 4 (k8 3 (ip (ag dv (bR 2 gx (ae (J 5) (ae (ag cC (bZ cV (ae (J 4) (ar))) (J 2)) (ar)))) (bZ cV (ae (J 3) (ar))))))))))
    (gw (iR 4))))
def l0:List D→R bW:=cQ 6 DL
theorem rG:cG ["_law_cells","_law_many","_law_houses","_law_teaches","_law_turns","_law_forgets","_law_waits"] ["_law_cells","_law_many"] (bO Bz):=⟨rfl,rfl,rfl,by decide+kernel,rfl,by decide+kernel,by decide+kernel⟩
noncomputable def yw:a0:=
    aR (cp 2 (cj (rj (ae (J 1) (ar)))))
    (aR (ji 3 (dh 1 [] (ea (cj (gv 3 l0 (ae (J 2) (ae (J 0) (ae (aj (.int 0)) (ar))))))) (a8 0) (dW) (cD (ae (aj (.str (PySem.Str.ofString "teach"))) (ae (J 0) (ar))))))
    (aR (ji 4 (dh 1 [] (ea (cj (gv 3 l0 (ae (J 2) (ae (J 0) (ae (aj (.int 7)) (ar))))))) (a8 0) (dW) (cD (ae (aj (.str (PySem.Str.ofString "turn"))) (ae (J 0) (ar))))))
    (aR (ji 5 (dh 1 [] (ea (cj (gv 3 l0 (ae (J 2) (ae (J 0) (ae (aj (.int 14)) (ar))))))) (a8 0) (dW) (cD (ae (aj (.str (PySem.Str.ofString "forget"))) (ae (J 0) (ar))))))
    (aR (cp 6 (ag pW (cj (dz (ae (cD (ae (aj (.str (PySem.Str.ofString "wait"))) (ar))) (ar)))) (ag cC (aj (.int 1)) (ag dv (bR 2 gx (ae (bZ ov (ae (J 0) (ar))) (ae (aj (.int 60)) (ar)))) (aj (.int 3))))))
    (gw (dz (ae (J 3) (ae (J 4) (ae (J 6) (ae (J 5) (ar)))))))))))
def vU:List D→R bW:=cQ 7 yw
theorem wD:cG ["_law_parts","_law_used","_law_found","_law_house"] ["_law_parts"] (bO By):=⟨rfl,rfl,rfl,by decide+kernel,rfl,by decide+kernel,by decide+kernel⟩
noncomputable def yv:a0:=
    aR (cp 1 (ag cC (cj (dh 2 [] (ea (ag ay (J 0) (aj (.int 1)))) (eI [a8 0,a8 1]) (dW) (J 0))) (cj (dh 2 [] (ea (ag ay (J 0) (aj (.int 1)))) (eI [a8 0,a8 1]) (dW) (J 1)))))
    (aR (ez 2 (dz (ar)))
    (aR (d3 (fm (ae (bZ cV (ae (ag ay (J 0) (aj (.int 0))) (ar))) (ar))) (a8 3) (n9 (rg 2 (cj (dh 1 [3,1] (fm (ae (ag ay (ag ay (J 0) (aj (.int 0))) (J 3)) (ar))) (a8 0) (aW (ag (inD false) (cD (ae (J 1) (ae (J 0) (ar)))) (J 2))) (cD (ae (J 1) (ae (J 0) (ar)))))))))
    (gw (iR 2))))
def vT:List D→R bW:=cQ 4 yv
theorem WR:cG ["_law_address"] ["_law_address"] (bO BD):=⟨rfl,rfl,rfl,by decide+kernel,rfl,by decide+kernel,by decide+kernel⟩
noncomputable def yy:a0:=
    bU (tg (PySem.Str.ofString "") (ae (cj (dh 1 [0] (ea (cj (dz (ae (aj (.int 8)) (ae (aj (.int 4)) (ae (aj (.int 2)) (ae (aj (.int 1)) (ar)))))))) (a8 0) (dW) (bZ m6 (ae (ag dv (ag hM (J 1) (J 0)) (aj (.int 2))) (ar))))) (ar)))
def rz:List D→R bW:=cQ 1 yy
theorem WO:cG ["_law_pattern","_law_signs_here"] ["_law_pattern","_law_signs_here"] (bO Bs):=⟨rfl,rfl,rfl,by decide+kernel,rfl,by decide+kernel,by decide+kernel⟩
noncomputable def yo:a0:=
    bU (bZ c3 (ae (cj (dh 2 [] (tf (ae (J 0) (ae (J 1) (ar)))) (eI [a8 0,a8 1]) (dW) (pG (ag (b8 true) (J 0) (aj (.str (PySem.Str.ofString "x")))) (ag (b8 true) (J 0) (J 1))))) (ar)))
def pN:List D→R bW:=cQ 2 yo
theorem wC:cG ["_law_book_here","_law_door","_law_signs_here","_law_pattern","_law_begin","_law_end"] ["_law_book_here","_law_door","_law_signs_here"] (bO Bx):=⟨rfl,rfl,rfl,by decide+kernel,rfl,by decide+kernel,by decide+kernel⟩
noncomputable def yu:a0:=
    aR (d3 (ea (J 0)) (eI [a8 3,a8 4,a8 5]) (ck (jQ (aW (bR 2 pN (ae (J 3) (ae (J 2) (ar))))) (eZ (aW (ag (eh true) (J 4) (aj .non))) (aW (ag (b8 true) (J 4) (J 1))))) (bU (J 5)) (cw)))
    (bU (aj .non))
def ry:List D→R bW:=cQ 6 yu
theorem BO:cG ["_law_parts","_law_door","_law_one","_law_other"] ["_law_parts","_law_door"] (bO Bm):=⟨rfl,rfl,rfl,by decide+kernel,rfl,by decide+kernel,by decide+kernel⟩
noncomputable def yj:a0:=
    aR (d3 (ea (ag ay (J 0) (aj (.int 1)))) (eI [a8 2,a8 3]) (aR (ck (aW (ag (b8 true) (J 2) (J 1))) (bU (J 3)) (cw))
    (ck (aW (ag (b8 true) (J 3) (J 1))) (bU (J 2)) (cw))))
    (bU (aj .non))
def pL:List D→R bW:=cQ 4 yj
theorem rH:cG ["_law_parts","_law_books_here","_law_door","_law_address","_law_signs_here","_law_road_here","_law_end","_law_behind"] ["_law_parts","_law_books_here","_law_door","_law_address"] (bO BA):=⟨rfl,rfl,rfl,by decide+kernel,rfl,by decide+kernel,by decide+kernel⟩
noncomputable def DK:a0:=
    aR (cp 4 (bR 1 rz (ae (J 3) (ar))))
    (aR (ez 5 (dz (ar)))
    (aR (kq (iP (aW (ag (inD false) (J 2) (J 5)))) (aR (g7 5 (J 2))
    (aR (cp 6 (bR 3 ry (ae (ag ay (J 1) (ag ay (J 2) (aj (.int 0)))) (ae (ag ay (J 2) (aj (.int 1))) (ae (J 4) (ar))))))
    (aR (ck (aW (ag (eh true) (J 6) (aj .non))) (hD (cD (ae (J 5) (ae (cD (ae (aj (.str (PySem.Str.ofString "drop"))) (ae (ag ay (J 2) (aj (.int 0))) (ar)))) (ar))))) (cw))
    (aR (cp 7 (bR 2 pL (ae (J 0) (ae (cD (ae (ag ay (J 2) (aj (.int 0))) (ae (J 6) (ar)))) (ar)))))
    (aR (ck (aW (ag (eh true) (J 7) (aj .non))) (hD (cD (ae (J 5) (ae (cD (ae (aj (.str (PySem.Str.ofString "out"))) (ae (ag ay (J 2) (aj (.int 0))) (ae (J 6) (ar))))) (ar))))) (cw))
    (cp 2 (J 7))))))))
    (hD (cD (ae (J 5) (ae (cD (ae (aj (.str (PySem.Str.ofString "ring"))) (ae (lW (J 5) (ae (J 2) (ar))) (ar)))) (ar)))))))
def ts:List D→R bW:=cQ 8 DK
theorem tW:cG ["_law_parts","_law_books_here","_law_wanted","_law_found","_law_door","_law_address","_law_road_here"] ["_law_parts","_law_books_here","_law_wanted"] (bO Bq):=⟨rfl,rfl,rfl,by decide+kernel,rfl,by decide+kernel,by decide+kernel⟩
noncomputable def ym:a0:=
    aR (ez 3 (dz (ar)))
    (aR (d3 (ea (cj (gv 1 vT (ae (J 0) (ar))))) (a8 4) (d3 (fm (ae (aj (.int 16)) (ar))) (a8 5) (aR (cp 6 (ag ay (bR 4 ts (ae (J 0) (ae (J 1) (ae (J 4) (ae (J 5) (ar)))))) (aj (.int 0))))
    (ck (aW (ag (inD true) (J 2) (cj (dh 2 [] (ea (J 6)) (eI [a8 0,a8 1]) (dW) (J 0))))) (g7 3 (J 4)) (cw)))))
    (gw (iR 3)))
def rv:List D→R bW:=cQ 7 ym
theorem WH:cG ["thing"] ["thing"] (bO Be):=⟨rfl,rfl,rfl,by decide+kernel,rfl,by decide+kernel,by decide+kernel⟩
noncomputable def yc:a0:=
    aR (ck (eZ (eb (aW (dC (gi "str") (J 0)))) (aW (ag (b8 false) (bZ cV (ae (J 0) (ar))) (bZ cV (ae (aj nN) (ar)))))) (bU (aj (.ax false))) (cw))
    (bU (bZ c3 (ae (cj (dh 1 [] (rh (J 0)) (a8 0) (dW) (ag (inD true) (J 0) (aj qN)))) (ar))))
def rq:List D→R bW:=cQ 1 yc
theorem WE:cG ["thing","doors"] ["thing","doors"] (bO Bc):=⟨rfl,rfl,rfl,by decide+kernel,rfl,by decide+kernel,by decide+kernel⟩
noncomputable def uP:a0:=
    bU (pG (ag (eh true) (J 0) (aj .non)) (bR 3 lZ (ae (J 0) (ae (aj (.int 0)) (ae (ag l3 (J 1) (aj (.int 1))) (ar))))))
def ob:List D→R bW:=cQ 2 uP
theorem WI:cG ["thing","doors"] ["thing","doors"] (bO Bg):=⟨rfl,rfl,rfl,by decide+kernel,rfl,by decide+kernel,by decide+kernel⟩
noncomputable def ye:a0:=
    aR (ck (eZ (eb (aW (dC (gi "tuple") (J 0)))) (aW (ag (b8 false) (bZ cV (ae (J 0) (ar))) (aj (.int 3))))) (bU (aj (.ax false))) (cw))
    (aR (ck (eb (aW (bR 1 rq (ae (ag ay (J 0) (aj (.int 0))) (ar))))) (bU (aj (.ax false))) (cw))
    (bU (jR (bR 2 ob (ae (ag ay (J 0) (aj (.int 1))) (ae (J 1) (ar)))) (bR 2 ob (ae (ag ay (J 0) (aj (.int 2))) (ae (J 1) (ar)))))))
def rt:List D→R bW:=cQ 2 ye
theorem WB:cG ["thing","doors"] ["thing","doors"] (bO A_):=⟨rfl,rfl,rfl,by decide+kernel,rfl,by decide+kernel,by decide+kernel⟩
noncomputable def x_:a0:=
    aR (ck (eZ (eb (aW (dC (gi "list") (J 0)))) (aW (ag mE (bZ cV (ae (J 0) (ar))) (aj qL)))) (bU (aj (.ax false))) (cw))
    (bU (bZ c3 (ae (cj (dh 1 [1] (ea (J 0)) (a8 0) (dW) (bR 2 rt (ae (J 0) (ae (J 1) (ar)))))) (ar))))
def rp:List D→R bW:=cQ 2 x_
theorem Wu:cG ["self","house"] ["self","house"] (bO AZ):=⟨rfl,rfl,rfl,by decide+kernel,rfl,by decide+kernel,by decide+kernel⟩
noncomputable def x3:a0:=
    bU (pE (aW (iQ k7 ra (aj (.int 0)) (J 1) (dC (eF "Net" "many") (J 0)))) (ag ay (dC (eF "Net" "counts") (J 0)) (J 1)) (aj (.int 0)))
def vO:List D→R bW:=cQ 2 x3
theorem WC:cG ["thing","net"] ["thing","net"] (bO Ba):=⟨rfl,rfl,rfl,by decide+kernel,rfl,by decide+kernel,by decide+kernel⟩
noncomputable def ya:a0:=
    aR (ck (eZ (eb (aW (dC (gi "list") (J 0)))) (aW (ag (b8 false) (bZ cV (ae (J 0) (ar))) (dC (eF "Net" "many") (J 1))))) (bU (aj (.ax false))) (cw))
    (bU (bZ c3 (ae (cj (dh 2 [1] (oa (ae (J 0) (ar))) (eI [a8 0,a8 1]) (dW) (bR 2 rp (ae (J 1) (ae (kn "Net" "count" 1 vO (J 2) (ae (J 0) (ar))) (ar)))))) (ar))))
def tm:List D→R bW:=cQ 2 ya
theorem WS:cG ["thing","net"] ["thing","net"] (bO BI):=⟨rfl,rfl,rfl,by decide+kernel,rfl,by decide+kernel,by decide+kernel⟩
def yB:a0:=
    ck (rA (eb (aW (bR 2 tm (ae (J 0) (ae (J 1) (ar))))))) (z9 "NoBooks") (cw)
def vW:List D→R bW:=cQ 2 yB
theorem WJ:cG ["thing","net"] ["thing","net"] (bO Bh):=⟨rfl,rfl,rfl,by decide+kernel,rfl,by decide+kernel,by decide+kernel⟩
noncomputable def yf:a0:=
    aR (ck (eZ (eb (aW (dC (gi "tuple") (J 0)))) (eZ (aW (ag (inD false) (bZ cV (ae (J 0) (ar))) (cD (ae (aj (.int 1)) (ae (aj (.int 2)) (ar)))))) (eb (aW (dC (gi "str") (ag ay (J 0) (aj (.int 0)))))))) (bU (aj (.ax false))) (cw))
    (aR (ck (aW (ag (b8 true) (bZ cV (ae (J 0) (ar))) (aj (.int 1)))) (bU (ag (b8 true) (ag ay (J 0) (aj (.int 0))) (aj (.str (PySem.Str.ofString "wait"))))) (cw))
    (bU (jR (ag (inD true) (ag ay (J 0) (aj (.int 0))) (cD (ae (aj (.str (PySem.Str.ofString "teach"))) (ae (aj (.str (PySem.Str.ofString "turn"))) (ae (aj (.str (PySem.Str.ofString "forget"))) (ar)))))) (bR 3 lZ (ae (ag ay (J 0) (aj (.int 1))) (ae (aj (.int 0)) (ae (ag l3 (dC (eF "Net" "many") (J 1)) (aj (.int 1))) (ar))))))))
def vR:List D→R bW:=cQ 2 yf
theorem I1:cG ["thing","net","once"] ["thing","net"] (bO Bf):=⟨rfl,rfl,rfl,by decide+kernel,rfl,by decide+kernel,by decide+kernel⟩
noncomputable def yd:a0:=
    aR (ck (eZ (eb (aW (dC (gi "list") (J 0)))) (aW (ag mE (bZ cV (ae (J 0) (ar))) (aj qM)))) (bU (aj (.ax false))) (cw))
    (aR (ck (eb (aW (bZ c3 (ae (cj (dh 1 [1] (ea (J 0)) (a8 0) (dW) (bR 2 vR (ae (J 0) (ae (J 1) (ar)))))) (ar))))) (bU (aj (.ax false))) (cw))
    (aR (ji 2 (dh 1 [] (ea (J 0)) (a8 0) (aW (ag (b8 false) (J 0) (aj hI))) (J 0)))
    (bU (ag (b8 true) (bZ ta (ae (J 2) (ar))) (bZ cV (ae (J 2) (ar)))))))
def rr:List D→R bW:=cQ 3 yd
theorem WT:cG ["net","old","new","plan"] ["net","old","new","plan"] (bO BJ):=⟨rfl,rfl,rfl,by decide+kernel,rfl,by decide+kernel,by decide+kernel⟩
noncomputable def yC:a0:=
    aR (n8 (bR 2 vW (pQ (ae (J 1) (ae (J 0) (ar))))))
    (aR (n8 (bR 2 vW (pQ (ae (J 2) (ae (J 0) (ar))))))
    (ck (rA (eb (aW (bR 2 rr (ae (J 3) (ae (J 0) (ar))))))) (z9 "NoPlan") (cw)))
def Ab:List D→R bW:=cQ 4 yC
theorem wB:cG ["self","found","house","number"] ["self"] (bO A1):=⟨rfl,rfl,rfl,by decide+kernel,rfl,by decide+kernel,by decide+kernel⟩
noncomputable def x4:a0:=
    aR (ez 1 (dz (ar)))
    (aR (d3 (fm (ae (dC (eF "Net" "many") (J 0)) (ar))) (a8 2) (d3 (fm (ae (ag ay (dC (eF "Net" "counts") (J 0)) (J 2)) (ar))) (a8 3) (ck (aW (ag (fj false) (cD (ae (J 2) (ae (J 3) (ar)))) (dC (eF "Net" "far") (J 0)))) (g7 1 (cD (ae (J 2) (ae (J 3) (ar))))) (cw))))
    (gw (iR 1)))
def tj:List D→R bW:=cQ 4 x4
theorem WA:cG ["thing"] ["thing"] (bO A9):=⟨rfl,rfl,rfl,by decide+kernel,rfl,by decide+kernel,by decide+kernel⟩
def x9:a0:=
    bU (bR 3 lZ (ae (J 0) (ae (aj (.int 0)) (ae (aj nM) (ar)))))
def vQ:List D→R bW:=cQ 1 x9
theorem Wz:cG ["pattern","address"] ["pattern","address"] (bO A7):=⟨rfl,rfl,rfl,by decide+kernel,rfl,by decide+kernel,by decide+kernel⟩
noncomputable def x7:a0:=
    aR (ck (eZ (eb (aW (bR 1 rq (ae (J 0) (ar))))) (eb (aW (bR 1 vQ (ae (J 1) (ar)))))) (bU (aj (.ax false))) (cw))
    (bU (bZ c3 (ae (cj (dh 2 [1] (ri (ae (J 0) (ae (aj nN) (ar)))) (eI [a8 0,a8 1]) (dW) (ag (inD true) (J 0) (cD (ae (aj (.str (PySem.Str.ofString "x"))) (ae (bZ m6 (ae (ag dv (ag hM (J 2) (J 1)) (aj (.int 2))) (ar))) (ar))))))) (ar))))
def pJ:List D→R bW:=cQ 2 x7
theorem Ww:cG ["pattern"] ["pattern"] (bO A2):=⟨rfl,rfl,rfl,by decide+kernel,rfl,by decide+kernel,by decide+kernel⟩
noncomputable def DG:a0:=
    gw (dh 1 [0] (fm (ae (ag cC (aj nM) (aj (.int 1))) (ar))) (a8 0) (aW (bR 2 pJ (ae (J 1) (ae (J 0) (ar))))) (J 0))
def vP:List D→R bW:=cQ 1 DG
theorem I0:cG ["done","doors","door"] ["done","doors"] (bO A6):=⟨rfl,rfl,rfl,by decide+kernel,rfl,by decide+kernel,by decide+kernel⟩
noncomputable def x6:a0:=
    aR (d3 (ea (J 1)) (a8 2) (ck (aW (ag (inD false) (cD (ae (aj (.str (PySem.Str.ofString "teach"))) (ae (ag ay (J 2) (aj (.int 0))) (ar)))) (J 0))) (bU (ag ay (J 2) (aj (.int 0)))) (cw)))
    (bU (aj .non))
def tl:List D→R bW:=cQ 3 x6
theorem I2:cG ["done","house","turn"] ["done","house"] (bO Bi):=⟨rfl,rfl,rfl,by decide+kernel,rfl,by decide+kernel,by decide+kernel⟩
noncomputable def uQ:a0:=
    aR (cp 2 (cD (ae (aj (.str (PySem.Str.ofString "turn"))) (ae (J 1) (ar)))))
    (bU (jR (ag (inD true) (J 2) (J 0)) (ag (inD true) (aj hI) (kp jZ (J 0) (ko (lW (J 0) (ae (J 2) (ar)))) (mQ)))))
def tq:List D→R bW:=cQ 3 uQ
theorem BQ:cG ["book","door","address","number","row"] ["book","door","address"] (bO BK):=⟨rfl,rfl,rfl,by decide+kernel,rfl,by decide+kernel,by decide+kernel⟩
noncomputable def yD:a0:=
    aR (d3 (oa (ae (J 0) (ar))) (eI [a8 3,a8 4]) (ck (jQ (eZ (aW (ag (eh true) (ag ay (J 4) (aj (.int 1))) (aj .non))) (aW (ag (b8 true) (ag ay (J 4) (aj (.int 1))) (J 1)))) (aW (bR 2 pJ (ae (ag ay (J 4) (aj (.int 0))) (ae (J 2) (ar)))))) (bU (J 3)) (cw)))
    (bU (aj .non))
def vX:List D→R bW:=cQ 5 yD
theorem Wt:cG ["self","door"] ["self","door"] (bO AY):=⟨rfl,rfl,rfl,by decide+kernel,rfl,by decide+kernel,by decide+kernel⟩
def x2:a0:=
    bU (te (dC (eF "Net" "far") (J 0)) (J 1))
def ti:List D→R bW:=cQ 2 x2
theorem wG:cG ["net","book","door","address","number","out","far"] ["net","book","door","address"] (bO BG):=⟨rfl,rfl,rfl,by decide+kernel,rfl,by decide+kernel,by decide+kernel⟩
noncomputable def qI:a0:=
    aR (cp 4 (bR 3 vX (ae (J 1) (ae (ag ay (J 2) (aj (.int 1))) (ae (J 3) (ar))))))
    (aR (cp 5 (pE (aW (ag (eh true) (J 4) (aj .non))) (aj .non) (ag ay (ag ay (J 1) (J 4)) (aj (.int 2)))))
    (aR (ck (aW (ag (eh true) (J 5) (aj .non))) (bU (cD (ae (aj (.str (PySem.Str.ofString "drop"))) (ae (ag ay (J 2) (aj (.int 0))) (ar))))) (cw))
    (aR (cp 6 (kn "Net" "beyond" 1 ti (J 0) (ae (cD (ae (ag ay (J 2) (aj (.int 0))) (ae (J 5) (ar)))) (ar))))
    (aR (ck (aW (ag (eh true) (J 6) (aj .non))) (bU (cD (ae (aj (.str (PySem.Str.ofString "out"))) (ae (ag ay (J 2) (aj (.int 0))) (ae (J 5) (ar)))))) (cw))
    (bU (cD (ae (aj (.str (PySem.Str.ofString "at"))) (ae (ag ay (J 6) (aj (.int 0))) (ae (ag ay (J 6) (aj (.int 1))) (ar))))))))))
def mS:List D→R bW:=cQ 7 qI
theorem wI:cG ["net","books","door","address","doors","told"] ["net","books","door","address"] (bO BL):=⟨rfl,rfl,rfl,by decide+kernel,rfl,by decide+kernel,by decide+kernel⟩
noncomputable def DO:a0:=
    aR (ez 4 (dz (ar)))
    (aR (kq (iP (aW (ag (inD false) (J 2) (J 4)))) (aR (g7 4 (J 2))
    (aR (cp 5 (bR 4 mS (ae (J 0) (ae (ag ay (J 1) (ag ay (J 2) (aj (.int 0)))) (ae (J 2) (ae (J 3) (ar)))))))
    (aR (ck (aW (ag (b8 false) (ag ay (J 5) (aj (.int 0))) (aj (.str (PySem.Str.ofString "at"))))) (hD (cD (ae (J 4) (ae (J 5) (ar))))) (cw))
    (cp 2 (cD (ae (ag ay (J 5) (aj (.int 1))) (ae (ag ay (J 5) (aj (.int 2))) (ar)))))))))
    (hD (cD (ae (J 4) (ae (cD (ae (aj (.str (PySem.Str.ofString "ring"))) (ae (lW (J 4) (ae (J 2) (ar))) (ar)))) (ar))))))
def tw:List D→R bW:=cQ 6 DO
theorem BN:cG ["net","old","new","plan","place","door","address","step","done"] ["net","old","new","plan","place","door","address"] (bO A8):=⟨rfl,rfl,rfl,by decide+kernel,rfl,by decide+kernel,by decide+kernel⟩
noncomputable def nJ:a0:=
    aR (cp 7 (ag ay (J 3) (J 4)))
    (aR (cp 8 (kp jZ (J 3) (mQ) (ko (J 4))))
    (aR (ck (aW (ag (b8 true) (J 7) (cD (ae (aj (.str (PySem.Str.ofString "turn"))) (ae (ag ay (J 5) (aj (.int 0))) (ar)))))) (bU (bR 2 tl (ae (J 8) (ae (ag ay (bR 4 tw (ae (J 0) (ae (J 2) (ae (J 5) (ae (J 6) (ar)))))) (aj (.int 0))) (ar))))) (cw))
    (aR (ck (jQ (aW (ag (b8 true) (ag ay (J 7) (aj (.int 0))) (aj (.str (PySem.Str.ofString "forget"))))) (eb (aW (bR 2 tq (ae (J 8) (ae (ag ay (J 5) (aj (.int 0))) (ar))))))) (ck (aW (ag (inD true) (ag ay (J 7) (aj (.int 1))) (cj (dh 2 [] (ea (ag ay (bR 4 tw (ae (J 0) (ae (J 1) (ae (J 5) (ae (J 6) (ar)))))) (aj (.int 0)))) (eI [a8 0,a8 1]) (dW) (J 0))))) (bU (ag ay (J 7) (aj (.int 1)))) (cw)) (cw))
    (bU (aj .non)))))
def lY:List D→R bW:=cQ 9 nJ
theorem tZ:cG ["net","old","new","plan","place","door","address","house"] ["net","old","new","plan"] (bO BF):=⟨rfl,rfl,rfl,by decide+kernel,rfl,by decide+kernel,by decide+kernel⟩
noncomputable def DM:a0:=
    aR (d3 (fm (ae (bZ cV (ae (J 3) (ar))) (ar))) (a8 4) (d3 (ea (kn "Net" "outer" 0 tj (J 0) ar)) (a8 5) (d3 (ea (cj (gv 1 vP (ae (aj (.str (PySem.Str.ofString "xxxx"))) (ar))))) (a8 6) (aR (cp 7 (bR 7 lY (ae (J 0) (ae (J 1) (ae (J 2) (ae (J 3) (ae (J 4) (ae (J 5) (ae (J 6) (ar))))))))))
    (ck (aW (ag (eh false) (J 7) (aj .non))) (bU (cD (ae (J 4) (ae (J 5) (ae (J 6) (ae (J 7) (ar))))))) (cw))))))
    (bU (aj .non))
def tv:List D→R bW:=cQ 8 DM
theorem Wy:cG ["net","old","new","plan"] ["net","old","new","plan"] (bO A5):=⟨rfl,rfl,rfl,by decide+kernel,rfl,by decide+kernel,by decide+kernel⟩
noncomputable def x5:a0:=
    aR (n8 (bR 4 Ab (pQ (ae (J 0) (ae (J 1) (ae (J 2) (ae (J 3) (ar))))))))
    (tJ (bU (bR 4 tv (ae (J 0) (ae (J 1) (ae (J 2) (ae (J 3) (ar))))))))
def ro:List D→R bW:=cQ 4 x5
theorem jY:cG ["_law_net_here","_law_parts","_law_books_here","_law_some","_law_number","_law_old","_law_new","_law_teaches","_law_turns","_law_waits","_law_forgets","_law_step","_law_plan","_law_due"] ["_law_net_here","_law_parts","_law_books_here","_law_some","_law_number"] (bO Bt):=⟨rfl,rfl,rfl,by decide+kernel,rfl,by decide+kernel,by decide+kernel⟩
noncomputable def yp:a0:=
    aR (pI (eI [a8 5,a8 6]) (J 2))
    (aR (pI (rI [a8 7,a8 8,a8 9,a8 10]) (J 3))
    (aR (cp 11 (ag ay (J 7) (ag dv (J 4) (bZ cV (ae (J 7) (ar))))))
    (aR (cp 12 (ag cC (ag cC (ag cC (ag cC (cj (dh 1 [11] (ea (J 7)) (a8 0) (aW (ag (b8 false) (J 0) (J 1))) (J 0))) (J 8)) (cj (dz (ae (J 11) (ar))))) (J 9)) (J 10)))
    (aR (cp 13 (ag (b8 false) (cj (gv 3 rv (ae (J 1) (ae (J 6) (ae (ag ay (J 11) (aj (.int 1))) (ar)))))) (cj (dz (ar)))))
    (aR (ck (aW (ag (b8 false) (ag (eh false) (pB 4 ro (ae (J 0) (ae (J 5) (ae (J 6) (ae (J 12) (ar)))))) (aj .non)) (J 13))) (bU (aj (.ax false))) (cw))
    (aR (cp 11 (ag ay (J 10) (ag dv (ag hM (J 4) (aj (.int 7))) (bZ cV (ae (J 10) (ar))))))
    (aR (cp 12 (ag cC (ag cC (ag cC (ag cC (J 7) (J 8)) (cj (dz (ae (J 11) (ar))))) (J 9)) (cj (dh 1 [11] (ea (J 10)) (a8 0) (aW (ag (b8 false) (J 0) (J 1))) (J 0)))))
    (aR (cp 13 (ag (b8 false) (cj (gv 3 rv (ae (J 1) (ae (J 5) (ae (ag ay (J 11) (aj (.int 1))) (ar)))))) (cj (dz (ar)))))
    (bU (ag (b8 true) (ag (eh false) (pB 4 ro (ae (J 0) (ae (J 5) (ae (J 6) (ae (J 12) (ar)))))) (aj .non)) (J 13)))))))))))
def vS:List D→R bW:=cQ 14 yp
theorem BP:cG ["_law_plan","_law_cells","_law_found","_law_cell"] ["_law_plan","_law_cells"] (bO BE):=⟨rfl,rfl,rfl,by decide+kernel,rfl,by decide+kernel,by decide+kernel⟩
noncomputable def yz:a0:=
    aR (ez 2 (jT (ae (J 0) (ar))))
    (aR (d3 (ea (kp jZ (J 1) (mQ) (ko (aj (.int 15))))) (a8 3) (ck (aW (ag (b8 true) (ag dv (bR 2 gx (ae (J 3) (ae (aj (.int 61)) (ar)))) (aj (.int 3))) (aj (.int 0)))) (n9 (pF 2 (ip (ag dv (bR 2 gx (ae (J 3) (ae (aj (.int 62)) (ar)))) (ag cC (bZ cV (ae (J 2) (ar))) (aj (.int 1))))) (cD (ae (aj (.str (PySem.Str.ofString "wait"))) (ar))))) (cw)))
    (gw (iR 2)))
def tu:List D→R bW:=cQ 4 yz
theorem wH:cG ["net","houses","taught","turned"] ["net"] (bO BH):=⟨rfl,rfl,rfl,by decide+kernel,rfl,by decide+kernel,by decide+kernel⟩
noncomputable def yA:a0:=
    aR (cp 1 (cj (rj (ae (dC (eF "Net" "many") (J 0)) (ar)))))
    (aR (ji 2 (dh 1 [] (ea (J 1)) (a8 0) (dW) (cD (ae (aj (.str (PySem.Str.ofString "teach"))) (ae (J 0) (ar))))))
    (aR (ji 3 (dh 1 [] (ea (J 1)) (a8 0) (dW) (cD (ae (aj (.str (PySem.Str.ofString "turn"))) (ae (J 0) (ar))))))
    (bU (ag cC (ag cC (ag cC (J 2) (J 3)) (cj (dz (ae (aj hI) (ar))))) (cj (dh 1 [] (ea (J 1)) (a8 0) (dW) (cD (ae (aj (.str (PySem.Str.ofString "forget"))) (ae (J 0) (ar))))))))))
def vV:List D→R bW:=cQ 4 yA
theorem lq:cG ["_law_script","_law_parts","_law_net_here","_law_old","_law_new","_law_cells","_law_some","_law_plan","_law_short","_law_plans_here","_law_one"] ["_law_script"] (bO oo):=⟨rfl,rfl,rfl,by decide+kernel,rfl,by decide+kernel,by decide+kernel⟩
noncomputable def yi:a0:=
    aR (cp 1 (bR 1 rx (ae (bR 2 k9 (ae (J 0) (ae (aj (.int 0)) (ar)))) (ar))))
    (aR (cp 2 (rk "Net" 2 z_ (ae (cj (jT (ae (ag ay (J 1) (aj (.int 0))) (ar)))) (ae (cj (jT (ae (ag ay (J 1) (aj (.int 1))) (ar)))) (ar)))))
    (aR (cp 3 (cj (gv 3 oc (ae (J 0) (ae (aj (.int 1)) (ae (ag ay (J 1) (aj (.int 0))) (ar)))))))
    (aR (cp 4 (cj (gv 3 tr (ae (J 0) (ae (J 3) (ae (ag ay (J 1) (aj (.int 0))) (ar)))))))
    (aR (ji 5 (dh 1 [] (ea (kp jZ (J 0) (ko (aj (.int 13))) (mQ))) (a8 0) (dW) (ag dv (J 0) (ag jX (aj (.int 10)) (aj (.int 30))))))
    (aR (cp 6 (cj (gv 2 vU (ae (J 5) (ae (bZ cV (ae (ag ay (J 1) (aj (.int 0))) (ar))) (ar))))))
    (aR (cp 7 (ag cC (ag cC (ag cC (ag ay (J 6) (aj (.int 0))) (ag ay (J 6) (aj (.int 1)))) (ag ay (J 6) (aj (.int 2)))) (ag ay (J 6) (aj (.int 3)))))
    (aR (cp 8 (ag cC (ag cC (ag cC (ag ay (J 6) (aj (.int 0))) (ag ay (J 6) (aj (.int 1)))) (ag ay (J 6) (aj (.int 2)))) (kp jZ (ag ay (J 6) (aj (.int 3))) (mQ) (ko (ag dv (bR 2 gx (ae (bZ ov (ae (J 5) (ar))) (ae (aj (.int 63)) (ar)))) (ag cC (bZ cV (ae (ag ay (J 6) (aj (.int 3))) (ar))) (aj (.int 1))))))))
    (aR (cp 9 (cj (dz (ae (J 7) (ae (cj (gv 2 tu (ae (J 7) (ae (J 5) (ar))))) (ae (ag cC (ag ay (J 6) (aj (.int 0))) (ag ay (J 6) (aj (.int 1)))) (ae (J 8) (ar))))))))
    (aR (d3 (ea (ag cC (J 9) (cj (dz (ae (bR 1 vV (ae (J 2) (ar))) (ae (cj (dz (ar))) (ae (ag ay (J 6) (aj (.int 0))) (ar)))))))) (a8 10) (ck (aW (ag (eh false) (pB 4 ro (ae (J 2) (ae (J 3) (ae (J 4) (ae (J 10) (ar)))))) (aj .non))) (bU (aj (.ax false))) (cw)))
    (bU (bR 5 vS (ae (J 2) (ae (J 1) (ae (cD (ae (J 3) (ae (J 4) (ar)))) (ae (J 6) (ae (bR 2 gx (ae (bZ ov (ae (J 5) (ar))) (ae (aj (.int 64)) (ar)))) (ar)))))))))))))))))
def pK:List D→R bW:=cQ 11 yi
section
variable{P:Program}{w:World}{K:PySem.W.Frag}{mg:Str→Option Value}{base:Heap}(T:xQ K mg)
include T
set_option maxHeartbeats 4000000
theorem z0:dc P w K mg base "_law_draws" 2 1 mR:=by
 have h:=dE (P:=P) (w:=w) (mg:=mg) (base:=base) (k:=0) (m:=yn) T.Fh pZ;exact h fun _ _ _ _ _ _ _ hr _ _=>
 bp (kF 2 pZ.aU (eJ (aA)))
  (bp (di 3 pZ.aU (lA (af 0) (aF)))
  (bp (hj PassesOwn.never (i1 T.hB (ah (af 1) (aA))) (e1 4 pZ.aU) (bx (dS (nk hr.units (eo (af 0) (aF)) (aF)) (bp (di 5 pZ.aU (bA (cY (eJ (ah (aF) (ah (aF) (ah (aF) (ah (aF) (aA))))))) (eo (lA (af 4) (aF)) (aF)) aN))
  (bp (di 6 pZ.aU (bA (cY (eJ (ah (aF) (ah (aF) (ah (aF) (ah (aF) (aA))))))) (eo (af 4) (aF)) aN))
  (bx (qh 2 (lA (eo (rT (dY (dY (eo (af 3) (xh (aF) (aF))) (rT (aF) (af 4))) (aF)) (af 6)) (af 5)) (aF)))))) (bp (qh 2 (eo (af 3) (xh (aF) (aF))))
  (bx (di 3 pZ.aU (lA (af 3) (xh (aF) (aF)))))))))
  (bx (qi 2))))
theorem RK:dc P w K mg base "_law_net" 1 2 rx:=by
 have h:=dE (P:=P) (w:=w) (mg:=mg) (base:=base) (k:=1) (m:=yr) T.Fm m4;exact h fun _ _ _ _ _ _ _ hr _ _=>
 bp (di 1 m4.aU (cY (iZ (z0 T) (hr.mono (by decide)) (ah (af 0) (ah (aF) (aA))))))
  (bp (di 2 m4.aU (dY (aF) (eo (bA (af 1) (aF) aN) (aF))))
  (bp (nj (ni (N:=["_law_k","_law_draws_here","_law_many"]) 3 1 [1,2] m4.aU (by rfl) (i1 T.hB (ah (af 2) (aA))) (gs 0) (fH) (fun _ _ _ _ _ _ _=>dY (aF) (eo (bA (af 1) (dY (aF) (af 0)) aN) (bA (cY (eJ (ah (aF) (ah (aF) (ah (aF) (ah (aF) (ah (aF) (ah (aF) (aA))))))))) (qg (af 2) (aF)) aN)))))
  (bp (kF 4 m4.aU (eJ (aA)))
  (bp (hj PassesOwn.never (i1 T.hB (ah (eS T.et (ah (af 3) (aA))) (aA))) (e1 5 m4.aU) (bx (CU (Kk 4 (cY (gO (N:=["_law_door","_law_house"]) 1 [5] (by rfl) (i1 T.hB (ah (bA (af 3) (af 5) aN) (aA))) (gs 0) (fH) (fun _ _ _ _ _ _ _=>dZ (ah (af 1) (ah (af 0) (aA))))))))))
  (bp (kF 6 m4.aU (eJ (aA)))
  (bp (hj PassesOwn.never (i1 T.hB (ah (rR (qg (lA (qg (eS T.et (ah (af 4) (aA))) (aF)) (aF)) (eo (bA (af 1) (aF) aN) (aF)))) (aA))) (e1 7 m4.aU) (bp (Zm 8 m4.aU (CP 4 (rR (eo (bA (af 1) (dY (aF) (rT (aF) (af 7))) aN) (eS T.et (ah (af 4) (aA)))))))
  (bx (Kw 6 (Zh (Ks (Ze (af 8)) (Ks (CP 4 (rR (eo (bA (af 1) (dY (aF) (rT (aF) (af 7))) aN) (eS T.et (ah (af 4) (aA)))))) (Zf))))))))
  (bx (qj (dZ (ah (af 3) (ah (af 6) (aA))))))))))))
theorem Hf:dc P w K mg base "is_pair" 1 1 tp:=by
 have h:=dE (P:=P) (w:=w) (mg:=mg) (base:=base) (k:=0) (m:=DI) T.E3 WG;exact h fun _ _ _ _ _ _ _ hr _ _=>
 bx (cN (oD (kE (Ck _) T.jC T.qJ (by kernel_rfl) (af 0)) (l6 (rS hr.units (eS T.et (ah (af 0) (aA))) (aF)))))
theorem RE:dc P w K mg base "is_whole" 1 1 Aa:=by
 have h:=dE (P:=P) (w:=w) (mg:=mg) (base:=base) (k:=0) (m:=DJ) T.E9 WK;exact h fun _ _ _ _ _ _ _ hr _ _=>
 bx (cN (oD (kE (Ye _) T.jC T.x8 (by kernel_rfl) (af 0)) (l6 (Zb (kE (Yd _) T.jC T.DH (by kernel_rfl) (af 0))))))
theorem q8:dc P w K mg base "is_whole_within" 3 2 lZ:=by
 have h:=dE (P:=P) (w:=w) (mg:=mg) (base:=base) (k:=1) (m:=yg) T.E_ WL;exact h fun _ _ _ _ _ _ _ hr _ _=>
 bx (cN (oD (c5 (RE T) (hr.mono (by decide)) (ah (af 0) (aA))) (l6 (Y3 tL tL tK tK (af 1) (af 0) (af 2)))))
theorem Hd:dc P w K mg base "is_door_among" 2 3 tn:=by
 have h:=dE (P:=P) (w:=w) (mg:=mg) (base:=base) (k:=2) (m:=yb) T.E1 WD;exact h fun _ _ _ _ _ _ _ hr _ _=>
 bp (dS (i0 (j2 (gk (fO (c5 (Hf T) (hr.mono (by decide)) (ah (af 1) (aA))))) (kG (gk (fO (c5 (q8 T) (hr.mono (by decide)) (ah (bA (af 1) (aF) aN) (ah (aF) (ah (qg (eS T.et (ah (af 0) (aA))) (aF)) (aA)))))))))) (bx (cN (jt))) (d0))
  (bx (cN (c5 (q8 T) (hr.mono (by decide)) (ah (bA (af 1) (aF) aN) (ah (aF) (ah (qg (bA (af 0) (bA (af 1) (aF) aN) aN) (aF)) (aA)))))))
theorem RF:dc P w K mg base "is_wire_among" 2 4 ru:=by
 have h:=dE (P:=P) (w:=w) (mg:=mg) (base:=base) (k:=3) (m:=yh) T.Fb I3;exact h fun _ _ _ _ _ _ _ hr _ _=>
 bp (dS (gk (fO (c5 (Hf T) (hr.mono (by decide)) (ah (af 1) (aA))))) (bx (cN (jt))) (d0))
  (bp (di 2 I3.aU (oD (c5 (Hd T) (hr.mono (by decide)) (ah (af 0) (ah (bA (af 1) (aF) aN) (aA)))) (l6 (c5 (Hd T) (hr.mono (by decide)) (ah (af 0) (ah (bA (af 1) (aF) aN) (aA)))))))
  (bx (cN (oD (af 2) (l6 (CO hr.units (bA (af 1) (aF) aN) (bA (af 1) (aF) aN)))))))
theorem Ru:dc P w K mg base "far_doors" 2 5 rn:=by
 have h:=dE (P:=P) (w:=w) (mg:=mg) (base:=base) (k:=4) (m:=uO) T.ET BM;exact h fun _ _ _ _ _ _ _ hr _ _=>
 bp (Zl 2 BM.aU)
  (bp (hj PassesOwn.never (Zq (af 1)) (e1 3 BM.aU) (bp (dS (gk (fO (c5 (RF T) (hr.mono (by decide)) (ah (af 0) (ah (af 3) (aA)))))) (bx (Kx)) (d0))
  (bp (dS (xk (i0 (j2 (KD hr.units (bA (af 3) (aF) aN) (af 2)) (kG (KD hr.units (bA (af 3) (aF) aN) (af 2)))))) (bx (Kx)) (d0))
  (bp (Ky 2 hr.units (bA (af 3) (aF) aN) (bA (af 3) (aF) aN))
  (bx (Ky 2 hr.units (bA (af 3) (aF) aN) (bA (af 3) (aF) aN)))))))
  (bx (qj (af 2))))
theorem Rt:dc P w K mg base "are_counts" 1 3 tk:=by
 have h:=dE (P:=P) (w:=w) (mg:=mg) (base:=base) (k:=2) (m:=uM) T.ES Wx;exact h fun _ _ _ _ _ _ _ hr _ _=>
 bp (dS (i0 (j2 (gk (fO (kE (t8 _) T.jC T.ka (by kernel_rfl) (af 0)))) (kG (gk (KC tL tL tK tK (aF) (eS T.et (ah (af 0) (aA))) (kD T.o1)))))) (bx (cN (jt))) (d0))
  (bx (cN (qe hr T.nI (ah (cY (gO (N:=["doors"]) 1 [] (by rfl) (fs (af 0)) (gs 0) (fH) (fun _ _ _ _ _ _ _=>c5 (q8 T) (hr.mono (by decide)) (ah (af 0) (ah (aF) (ah (kD T.qK) (aA))))))) (aA)))))
theorem Rp:uu P w K mg base "Net" 2 6 z_:=by
 have h:=Zi (P:=P) (w:=w) (mg:=mg) (base:=base) (k:=5) (m:=uL) T.EO Wv;exact h fun _ _ _ _ _ _ _ hr _ _=>
 ug (Ku (gk (fO (c5 (Rt T) (hr.mono (by decide)) (ah (af 1) (aA))))))
  (ug (Ku (gk (fO (kE (t8 _) T.jC T.ka (by kernel_rfl) (af 2)))))
  (ug (xi T.il (eS T.et (ah (af 1) (aA))))
  (ug (xi T.il (Kr T.qJ (ah (af 1) (aA))))
  (ug (xi T.il (Kr T.qJ (ah (af 2) (aA))))
  (Zk (xi T.il (Y2 (c5 (Ru T) (hr.mono (by decide)) (ah (lB T.il (af 0)) (ah (lB T.il (af 0)) (aA)))))))))))
theorem RQ:dc P w K mg base "_law_row" 2 1 pO:=by
 have h:=dE (P:=P) (w:=w) (mg:=mg) (base:=base) (k:=0) (m:=yx) T.Ft wF;exact h fun _ _ _ _ _ _ _ hr _ _=>
 bp (di 2 wF.aU (Km (ah (cY (gO (N:=["_law_k","_law_draws_here"]) 1 [0] (by rfl) (i1 T.hB (ah (aF) (aA))) (gs 0) (fH) (fun _ _ _ _ _ _ _=>bA (e3) (eo (bA (af 1) (af 0) aN) (aF)) aN))) (aA))))
  (bp (di 3 wF.aU (bA (cY (eJ (ah (fN) (ah (fN) (ah (fN) (ah (eo (bA (af 0) (aF) aN) (af 1)) (aA))))))) (eo (bA (af 0) (aF) aN) (aF)) aN))
  (bp (di 4 wF.aU (bA (cY (eJ (ah (eo (bA (af 0) (aF) aN) (af 1)) (ah (fN) (aA))))) (lA (eo (bA (af 0) (aF) aN) (aF)) (aF)) aN))
  (bx (cN (dZ (ah (af 2) (ah (af 3) (ah (af 4) (aA)))))))))
theorem RH:dc P w K mg base "_law_book" 2 2 pM:=by
 have h:=dE (P:=P) (w:=w) (mg:=mg) (base:=base) (k:=1) (m:=yk) T.Fd tV;exact h fun _ _ _ _ _ _ _ hr _ _=>
 bp (di 2 tV.aU (cY (iZ (z0 T) (hr.mono (by decide)) (ah (af 0) (ah (aF) (aA))))))
  (bp (di 3 tV.aU (bA (cY (eJ (ah (eo (bA (af 2) (aF) aN) (aF)) (ah (eo (bA (af 2) (aF) aN) (aF)) (aA))))) (lA (eo (bA (af 2) (aF) aN) (aF)) (aF)) aN))
  (bp (nj (ni (N:=["_law_k","_law_count","_law_draws_here"]) 4 1 [1,2] tV.aU (by rfl) (i1 T.hB (ah (af 3) (aA))) (gs 0) (fH) (fun _ _ _ _ _ _ _=>c5 (RQ T) (hr.mono (by decide)) (ah (qf (af 2) (oE (dY (aF) (rT (aF) (af 0)))) (oE (dY (aF) (rT (aF) (af 0))))) (ah (af 1) (aA))))))
  (bp (dS (CY (eo (bA (af 2) (aF) aN) (aF)) (aF)) (bx (di 4 tV.aU (dY (qf (af 4) (rU) (oE (aF))) (cY (eJ (ah (dZ (ah (e3) (ah (fN) (ah (eo (bA (af 2) (aF) aN) (af 1)) (aA))))) (aA))))))) (d0))
  (bx (cN (af 4))))))
theorem zZ:dc P w K mg base "_law_cell_at" 2 1 k9:=by
 have h:=dE (P:=P) (w:=w) (mg:=mg) (base:=base) (k:=0) (m:=uR) T.Ff WN;exact h fun _ _ _ _ _ _ _ hr _ _=>
 bp (dS (Zo (af 1) (eS T.et (ah (af 0) (aA)))) (bx (cN (bA (af 0) (af 1) aN))) (d0))
  (bx (cN (aF)))
theorem Hh:dc P w K mg base "_law_books" 3 3 oc:=by
 have h:=dE (P:=P) (w:=w) (mg:=mg) (base:=base) (k:=2) (m:=yl) T.Fe WM;exact h fun _ _ _ _ _ _ _ hr _ _=>
 bx (CV (gO (N:=["_law_k","_law_many","_law_script","_law_start"]) 2 [0,1] (by rfl) (C1 T.uN (ah (af 2) (aA))) (nK 0 1) (fH) (fun _ _ _ _ _ _ _=>c5 (RH T) (hr.mono (by decide)) (ah (c5 (zZ T) (hr.mono (by decide)) (ah (af 2) (ah (dY (af 3) (af 0)) (aA)))) (ah (af 1) (aA))))))
theorem pA:dc P w K mg base "_law_mixed" 2 2 gx:=by
 have h:=dE (P:=P) (w:=w) (mg:=mg) (base:=base) (k:=1) (m:=yq) T.Fl WQ;exact h fun _ _ _ _ _ _ _ hr _ _=>
 bx (cN (bA (cY (iZ (z0 T) (hr.mono (by decide)) (ah (af 0) (ah (dY (af 1) (aF)) (aA))))) (af 1) aN))
theorem RL:dc P w K mg base "_law_new_books" 3 4 tr:=by
 have h:=dE (P:=P) (w:=w) (mg:=mg) (base:=base) (k:=3) (m:=yt) T.Fn tX;exact h fun _ _ _ _ _ _ _ hr _ _=>
 bp (di 3 tX.aU (cY (iZ (Hh T) (hr.mono (by decide)) (ah (af 0) (ah (aF) (ah (af 2) (aA)))))))
  (bp (di 4 tX.aU (c5 (pA T) (hr.mono (by decide)) (ah (c5 (zZ T) (hr.mono (by decide)) (ah (af 0) (ah (aF) (aA)))) (ah (aF) (aA)))))
  (bp (kF 5 tX.aU (eJ (aA)))
  (bp (hj PassesOwn.never (i1 T.hB (ah (eS T.et (ah (af 2) (aA))) (aA))) (e1 6 tX.aU) (bx (qh 5 (bA (cY (eJ (ah (bA (af 1) (af 6) aN) (ah (bA (af 3) (af 6) aN) (aA))))) (Zd T.x8 (ah (Y5 (eo (lA (af 4) (dY (af 6) (aF))) (aF)) (aF)) (aA))) aN))))
  (bx (qi 5)))))
theorem z1:dc P w K mg base "_law_shuffled" 3 3 l0:=by
 have h:=dE (P:=P) (w:=w) (mg:=mg) (base:=base) (k:=2) (m:=DL) T.Fu tY;exact h fun _ _ _ _ _ _ _ hr _ _=>
 bp (kF 3 tY.aU (xj T.ka (ah (af 0) (aA))))
  (bp (kF 4 tY.aU (eJ (aA)))
  (bp (CW PassesOwn.never (xk (l7 hr.units (af 3) (cY (eJ (aA))))) (bp (di 5 tY.aU (aF))
  (bp (dS (l7 hr.units (af 1) (cY (eJ (aA)))) (bx (di 5 tY.aU (rR (bA (af 1) (eo (dY (eS T.et (ah (af 4) (aA))) (af 2)) (eS T.et (ah (af 1) (aA)))) aN)))) (d0))
  (bx (Kw 4 (CP 3 (rR (eo (c5 (pA T) (hr.mono (by decide)) (ah (af 5) (ah (dY (eS T.et (ah (af 4) (aA))) (af 2)) (aA)))) (eS T.et (ah (af 3) (aA)))))))))))
  (bx (qi 4))))
theorem RO:dc P w K mg base "_law_plans" 2 4 vU:=by
 have h:=dE (P:=P) (w:=w) (mg:=mg) (base:=base) (k:=3) (m:=yw) T.Fq rG;exact h fun _ _ _ _ _ _ _ hr _ _=>
 bp (di 2 rG.aU (cY (Kv T.ka T.hB (ah (af 1) (aA)))))
  (bp (nj (ni (N:=["_law_house"]) 3 1 [] rG.aU (by rfl) (fs (cY (iZ (z1 T) (hr.mono (by decide)) (ah (af 2) (ah (af 0) (ah (aF) (aA))))))) (gs 0) (fH) (fun _ _ _ _ _ _ _=>dZ (ah (e3) (ah (af 0) (aA))))))
  (bp (nj (ni (N:=["_law_house"]) 4 1 [] rG.aU (by rfl) (fs (cY (iZ (z1 T) (hr.mono (by decide)) (ah (af 2) (ah (af 0) (ah (aF) (aA))))))) (gs 0) (fH) (fun _ _ _ _ _ _ _=>dZ (ah (e3) (ah (af 0) (aA))))))
  (bp (nj (ni (N:=["_law_house"]) 5 1 [] rG.aU (by rfl) (fs (cY (iZ (z1 T) (hr.mono (by decide)) (ah (af 2) (ah (af 0) (ah (aF) (aA))))))) (gs 0) (fH) (fun _ _ _ _ _ _ _=>dZ (ah (e3) (ah (af 0) (aA))))))
  (bp (di 6 rG.aU (Zc (cY (eJ (ah (dZ (ah (e3) (aA))) (aA)))) (dY (aF) (eo (c5 (pA T) (hr.mono (by decide)) (ah (CQ hr T.uS (ah (af 0) (aA))) (ah (aF) (aA)))) (aF)))))
  (bx (CV (eJ (ah (af 3) (ah (af 4) (ah (af 6) (ah (af 5) (aA))))))))))))
theorem RN:dc P w K mg base "_law_outer" 1 1 vT:=by
 have h:=dE (P:=P) (w:=w) (mg:=mg) (base:=base) (k:=0) (m:=yv) T.Fp wD;exact h fun _ _ _ _ _ _ _ hr _ _=>
 bp (di 1 wD.aU (dY (cY (gO (N:=["_law_one","_law_other"]) 2 [] (by rfl) (fs (bA (af 0) (aF) aN)) (nK 0 1) (fH) (fun _ _ _ _ _ _ _=>af 0))) (cY (gO (N:=["_law_one","_law_other"]) 2 [] (by rfl) (fs (bA (af 0) (aF) aN)) (nK 0 1) (fH) (fun _ _ _ _ _ _ _=>af 1)))))
  (bp (kF 2 wD.aU (eJ (aA)))
  (bp (hj PassesOwn.never (i1 T.hB (ah (eS T.et (ah (bA (af 0) (aF) aN) (aA))) (aA))) (e1 3 wD.aU) (bx (CU (Kk 2 (cY (gO (N:=["_law_door","_law_house","_law_used"]) 1 [3,1] (by rfl) (i1 T.hB (ah (bA (bA (af 0) (aF) aN) (af 3) aN) (aA))) (gs 0) (ue (fun _ _ _ _ _ _ _=>uh hr.units (dZ (ah (af 1) (ah (af 0) (aA)))) (af 2))) (fun _ _ _ _ _ _ _=>dZ (ah (af 1) (ah (af 0) (aA))))))))))
  (bx (qi 2))))
theorem RR:dc P w K mg base "_law_signs" 1 1 rz:=by
 have h:=dE (P:=P) (w:=w) (mg:=mg) (base:=base) (k:=0) (m:=yy) T.Fv WR;exact h fun _ _ _ _ _ _ _ hr _ _=>
 bx (cN (Km (ah (cY (gO (N:=["_law_worth","_law_address"]) 1 [0] (by rfl) (fs (cY (eJ (ah (aF) (ah (aF) (ah (aF) (ah (aF) (aA)))))))) (gs 0) (fH) (fun _ _ _ _ _ _ _=>Kq T.sb (ah (eo (lA (af 1) (af 0)) (aF)) (aA))))) (aA))))
theorem RI:dc P w K mg base "_law_is_like" 2 1 pN:=by
 have h:=dE (P:=P) (w:=w) (mg:=mg) (base:=base) (k:=0) (m:=yo) T.Fi WO;exact h fun _ _ _ _ _ _ _ hr _ _=>
 bx (cN (qe hr T.nI (ah (cY (gO (N:=["_law_mark","_law_sign"]) 2 [] (by rfl) (Zs T.yE (ah (af 0) (ah (af 1) (aA)))) (nK 0 1) (fH) (fun _ _ _ _ _ _ _=>Kp (rS hr.units (af 0) (e3)) (l6 (rS hr.units (af 0) (af 1)))))) (aA))))
theorem RM:dc P w K mg base "_law_out" 3 2 ry:=by
 have h:=dE (P:=P) (w:=w) (mg:=mg) (base:=base) (k:=1) (m:=yu) T.Fo wC;exact h fun _ _ _ _ _ _ _ hr _ _=>
 bp (hj PassesOwn.never (fs (af 0)) (v7 rfl (jU (e1 3 wC.aU) (jU (e1 4 wC.aU) (jU (e1 5 wC.aU) (tG))))) (bx (dS (i0 (CZ (fO (c5 (RI T) (hr.mono (by decide)) (ah (af 3) (ah (af 2) (aA))))) (C0 (i0 (j2 (qk (af 4) (fN)) (kG (nk hr.units (af 4) (af 1)))))))) (bx (cN (af 5))) (d0))))
  (bx (cN (fN)))
theorem RG:dc P w K mg base "_law_beyond" 2 1 pL:=by
 have h:=dE (P:=P) (w:=w) (mg:=mg) (base:=base) (k:=0) (m:=yj) T.Fc BO;exact h fun _ _ _ _ _ _ _ hr _ _=>
 bp (hj PassesOwn.never (fs (bA (af 0) (aF) aN)) (v7 rfl (jU (e1 2 BO.aU) (jU (e1 3 BO.aU) (tG)))) (bp (dS (nk hr.units (af 2) (af 1)) (bx (cN (af 3))) (d0))
  (bx (dS (nk hr.units (af 3) (af 1)) (bx (cN (af 2))) (d0)))))
  (bx (cN (fN)))
theorem RP:dc P w K mg base "_law_road" 4 3 ts:=by
 have h:=dE (P:=P) (w:=w) (mg:=mg) (base:=base) (k:=2) (m:=DK) T.Fs rH;exact h fun _ _ _ _ _ _ _ hr _ _=>
 bp (di 4 rH.aU (c5 (RR T) (hr.mono (by decide)) (ah (af 3) (aA))))
  (bp (kF 5 rH.aU (eJ (aA)))
  (bp (CW PassesOwn.never (xk (uh hr.units (af 2) (af 5))) (bp (qh 5 (af 2))
  (bp (di 6 rH.aU (c5 (RM T) (hr.mono (by decide)) (ah (bA (af 1) (bA (af 2) (aF) aN) aN) (ah (bA (af 2) (aF) aN) (ah (af 4) (aA))))))
  (bp (dS (qk (af 6) (fN)) (bx (qj (dZ (ah (af 5) (ah (dZ (ah (e3) (ah (bA (af 2) (aF) aN) (aA)))) (aA)))))) (d0))
  (bp (di 7 rH.aU (c5 (RG T) (hr.mono (by decide)) (ah (af 0) (ah (dZ (ah (bA (af 2) (aF) aN) (ah (af 6) (aA)))) (aA)))))
  (bp (dS (qk (af 7) (fN)) (bx (qj (dZ (ah (af 5) (ah (dZ (ah (e3) (ah (bA (af 2) (aF) aN) (ah (af 6) (aA))))) (aA)))))) (d0))
  (bx (di 2 rH.aU (af 7)))))))))
  (bx (qj (dZ (ah (af 5) (ah (dZ (ah (e3) (ah (CN hr.units (af 5) (ah (af 2) (aA))) (aA)))) (aA))))))))
theorem Hi:dc P w K mg base "_law_come_to" 3 4 rv:=by
 have h:=dE (P:=P) (w:=w) (mg:=mg) (base:=base) (k:=3) (m:=ym) T.Fg tW;exact h fun _ _ _ _ _ _ _ hr _ _=>
 bp (kF 3 tW.aU (eJ (aA)))
  (bp (hj PassesOwn.never (fs (cY (iZ (RN T) (hr.mono (by decide)) (ah (af 0) (aA))))) (e1 4 tW.aU) (bx (hj PassesOwn.never (i1 T.hB (ah (aF) (aA))) (e1 5 tW.aU) (bp (di 6 tW.aU (bA (c5 (RP T) (hr.mono (by decide)) (ah (af 0) (ah (af 1) (ah (af 4) (ah (af 5) (aA)))))) (aF) aN))
  (bx (dS (KG hr.units (af 2) (cY (gO (N:=["_law_house","_law_entry"]) 2 [] (by rfl) (fs (af 6)) (nK 0 1) (fH) (fun _ _ _ _ _ _ _=>af 0)))) (bx (qh 3 (af 4))) (d0)))))))
  (bx (qi 3)))
theorem Hg:dc P w K mg base "is_pattern" 1 1 rq:=by
 have h:=dE (P:=P) (w:=w) (mg:=mg) (base:=base) (k:=0) (m:=yc) T.E4 WH;exact h fun _ _ _ _ _ _ _ hr _ _=>
 bp (dS (i0 (j2 (gk (fO (kE (JX _) T.jC T.sb (by kernel_rfl) (af 0)))) (kG (l7 hr.units (eS T.et (ah (af 0) (aA))) (eS T.et (ah (kD T.nN) (aA))))))) (bx (cN (jt))) (d0))
  (bx (cN (qe hr T.nI (ah (cY (gO (N:=["sign"]) 1 [] (by rfl) (Zp (af 0)) (gs 0) (fH) (fun _ _ _ _ _ _ _=>uf hr.units (af 0) (kD T.qN)))) (aA)))))
theorem He:dc P w K mg base "is_number_or_none" 2 3 ob:=by
 have h:=dE (P:=P) (w:=w) (mg:=mg) (base:=base) (k:=2) (m:=uP) T.E2 WE;exact h fun _ _ _ _ _ _ _ hr _ _=>
 bx (cN (Kp (Y7 (af 0) (fN)) (l6 (c5 (q8 T) (hr.mono (by decide)) (ah (af 0) (ah (aF) (ah (qg (af 1) (aF)) (aA))))))))
theorem RB:dc P w K mg base "is_row" 2 4 rt:=by
 have h:=dE (P:=P) (w:=w) (mg:=mg) (base:=base) (k:=3) (m:=ye) T.E6 WI;exact h fun _ _ _ _ _ _ _ hr _ _=>
 bp (dS (i0 (j2 (gk (fO (kE (Ck _) T.jC T.qJ (by kernel_rfl) (af 0)))) (kG (l7 hr.units (eS T.et (ah (af 0) (aA))) (aF))))) (bx (cN (jt))) (d0))
  (bp (dS (gk (fO (c5 (Hg T) (hr.mono (by decide)) (ah (bA (af 0) (aF) aN) (aA))))) (bx (cN (jt))) (d0))
  (bx (cN (oD (c5 (He T) (hr.mono (by decide)) (ah (bA (af 0) (aF) aN) (ah (af 1) (aA)))) (l6 (c5 (He T) (hr.mono (by decide)) (ah (bA (af 0) (aF) aN) (ah (af 1) (aA)))))))))
theorem Ry:dc P w K mg base "is_book" 2 5 rp:=by
 have h:=dE (P:=P) (w:=w) (mg:=mg) (base:=base) (k:=4) (m:=x_) T.EZ WB;exact h fun _ _ _ _ _ _ _ hr _ _=>
 bp (dS (i0 (j2 (gk (fO (kE (t8 _) T.jC T.ka (by kernel_rfl) (af 0)))) (kG (CY (eS T.et (ah (af 0) (aA))) (kD T.qL))))) (bx (cN (jt))) (d0))
  (bx (cN (qe hr T.nI (ah (cY (gO (N:=["row","doors"]) 1 [1] (by rfl) (fs (af 0)) (gs 0) (fH) (fun _ _ _ _ _ _ _=>c5 (RB T) (hr.mono (by decide)) (ah (af 0) (ah (af 1) (aA)))))) (aA)))))
theorem Ro:nA P w K mg base "Net" "count" 1 1 vO:=by
 have h:=CS (P:=P) (w:=w) (mg:=mg) (base:=base) (k:=0) (m:=x3) T.EN Wu;exact h fun _ _ _ _ _ _ _ hr _ _=>
 bx (cN (Kl (KC tL H4 tK TP (aF) (af 1) (lB T.il (af 0))) (bA (lB T.il (af 0)) (af 1) aN) (aF)))
theorem Rz:dc P w K mg base "is_books" 2 6 tm:=by
 have h:=dE (P:=P) (w:=w) (mg:=mg) (base:=base) (k:=5) (m:=ya) T.E0 WC;exact h fun _ _ _ _ _ _ _ hr _ _=>
 bp (dS (i0 (j2 (gk (fO (kE (t8 _) T.jC T.ka (by kernel_rfl) (af 0)))) (kG (l7 hr.units (eS T.et (ah (af 0) (aA))) (lB T.il (af 1)))))) (bx (cN (jt))) (d0))
  (bx (cN (qe hr T.nI (ah (cY (gO (N:=["house","book","net"]) 2 [1] (by rfl) (C1 T.uN (ah (af 0) (aA))) (nK 0 1) (fH) (fun _ _ _ _ _ _ _=>c5 (Ry T) (hr.mono (by decide)) (ah (af 1) (ah (Kn (Ro T) (hr.mono (by decide)) (af 2) (ah (af 0) (aA))) (aA)))))) (aA)))))
theorem Hj:qz P w K mg base "refuse_unless_books" 2 7 vW:=by
 have h:=CJ (P:=P) (w:=w) (mg:=mg) (base:=base) (k:=6) (m:=yB) T.FC WS;exact h fun _ _ _ _ _ _ _ hr _ _=>
 bx (dS (Kt (gk (fO (c5 (Rz T) (hr.mono (by decide)) (ah (af 0) (ah (af 1) (aA))))))) (bx (Kz T.Ki)) (d0))
theorem RC:dc P w K mg base "is_step" 2 3 vR:=by
 have h:=dE (P:=P) (w:=w) (mg:=mg) (base:=base) (k:=2) (m:=yf) T.E7 WJ;exact h fun _ _ _ _ _ _ _ hr _ _=>
 bp (dS (i0 (j2 (gk (fO (kE (Ck _) T.jC T.qJ (by kernel_rfl) (af 0)))) (j2 (uh hr.units (eS T.et (ah (af 0) (aA))) (dZ (ah (aF) (ah (aF) (aA))))) (kG (gk (fO (kE (JX _) T.jC T.sb (by kernel_rfl) (bA (af 0) (aF) aN)))))))) (bx (cN (jt))) (d0))
  (bp (dS (nk hr.units (eS T.et (ah (af 0) (aA))) (aF)) (bx (cN (rS hr.units (bA (af 0) (aF) aN) (e3)))) (d0))
  (bx (cN (oD (uf hr.units (bA (af 0) (aF) aN) (dZ (ah (e3) (ah (e3) (ah (e3) (aA)))))) (l6 (c5 (q8 T) (hr.mono (by decide)) (ah (bA (af 0) (aF) aN) (ah (aF) (ah (qg (lB T.il (af 1)) (aF)) (aA))))))))))
theorem RA:dc P w K mg base "is_plan" 2 4 rr:=by
 have h:=dE (P:=P) (w:=w) (mg:=mg) (base:=base) (k:=3) (m:=yd) T.E5 I1;exact h fun _ _ _ _ _ _ _ hr _ _=>
 bp (dS (i0 (j2 (gk (fO (kE (t8 _) T.jC T.ka (by kernel_rfl) (af 0)))) (kG (CY (eS T.et (ah (af 0) (aA))) (kD T.qM))))) (bx (cN (jt))) (d0))
  (bp (dS (gk (fO (qe hr T.nI (ah (cY (gO (N:=["step","net"]) 1 [1] (by rfl) (fs (af 0)) (gs 0) (fH) (fun _ _ _ _ _ _ _=>c5 (RC T) (hr.mono (by decide)) (ah (af 0) (ah (af 1) (aA)))))) (aA))))) (bx (cN (jt))) (d0))
  (bp (nj (ni (N:=["step"]) 2 1 [] I1.aU (by rfl) (fs (af 0)) (gs 0) (ue (fun _ _ _ _ _ _ _=>l7 hr.units (af 0) (kD T.hI))) (fun _ _ _ _ _ _ _=>af 0)))
  (bx (cN (rS hr.units (Y8 hr.hd hr.units T.et T.DN (ah (af 2) (aA))) (eS T.et (ah (af 2) (aA))))))))
theorem RW:qz P w K mg base "refuse_unless_plan" 4 8 Ab:=by
 have h:=CJ (P:=P) (w:=w) (mg:=mg) (base:=base) (k:=7) (m:=yC) T.FD WT;exact h fun _ _ _ _ _ _ _ hr _ _=>
 bp (CT (CM (Hj T) (hr.mono (by decide)) (CR (ah (af 1) (ah (af 0) (aA))))))
  (bp (CT (CM (Hj T) (hr.mono (by decide)) (CR (ah (af 2) (ah (af 0) (aA))))))
  (bx (dS (Kt (gk (fO (c5 (RA T) (hr.mono (by decide)) (ah (af 3) (ah (af 0) (aA))))))) (bx (Kz T.Kj)) (d0))))
theorem Rq:nA P w K mg base "Net" "outer" 0 1 tj:=by
 have h:=CS (P:=P) (w:=w) (mg:=mg) (base:=base) (k:=0) (m:=x4) T.EP wB;exact h fun _ _ _ _ _ _ _ hr _ _=>
 bp (kF 1 wB.aU (eJ (aA)))
  (bp (hj PassesOwn.never (i1 T.hB (ah (lB T.il (af 0)) (aA))) (e1 2 wB.aU) (bx (hj PassesOwn.never (i1 T.hB (ah (bA (lB T.il (af 0)) (af 2) aN) (aA))) (e1 3 wB.aU) (bx (dS (Zn hr.units (dZ (ah (af 2) (ah (af 3) (aA)))) (lB T.il (af 0))) (bx (qh 1 (dZ (ah (af 2) (ah (af 3) (aA)))))) (d0))))))
  (bx (qi 1)))
theorem Rx:dc P w K mg base "is_address" 1 3 vQ:=by
 have h:=dE (P:=P) (w:=w) (mg:=mg) (base:=base) (k:=2) (m:=x9) T.EY WA;exact h fun _ _ _ _ _ _ _ hr _ _=>
 bx (cN (c5 (q8 T) (hr.mono (by decide)) (ah (af 0) (ah (aF) (ah (kD T.nM) (aA))))))
theorem Hc:dc P w K mg base "fits" 2 4 pJ:=by
 have h:=dE (P:=P) (w:=w) (mg:=mg) (base:=base) (k:=3) (m:=x7) T.EW Wz;exact h fun _ _ _ _ _ _ _ hr _ _=>
 bp (dS (i0 (j2 (gk (fO (c5 (Hg T) (hr.mono (by decide)) (ah (af 0) (aA))))) (kG (gk (fO (c5 (Rx T) (hr.mono (by decide)) (ah (af 1) (aA)))))))) (bx (cN (jt))) (d0))
  (bx (cN (qe hr T.nI (ah (cY (gO (N:=["sign","worth","address"]) 2 [1] (by rfl) (Zr T.yE (ah (af 0) (ah (kD T.nN) (aA)))) (nK 0 1) (fH) (fun _ _ _ _ _ _ _=>uf hr.units (af 0) (dZ (ah (e3) (ah (Kq T.sb (ah (eo (lA (af 2) (af 1)) (aF)) (aA))) (aA))))))) (aA)))))
theorem Rr:dc P w K mg base "addresses" 1 5 vP:=by
 have h:=dE (P:=P) (w:=w) (mg:=mg) (base:=base) (k:=4) (m:=DG) T.ER Ww;exact h fun _ _ _ _ _ _ _ hr _ _=>
 bx (CV (gO (N:=["address","pattern"]) 1 [0] (by rfl) (i1 T.hB (ah (dY (kD T.nM) (aF)) (aA))) (gs 0) (ue (fun _ _ _ _ _ _ _=>fO (c5 (Hc T) (hr.mono (by decide)) (ah (af 1) (ah (af 0) (aA)))))) (fun _ _ _ _ _ _ _=>af 0)))
theorem Rv:dc P w K mg base "first_untaught" 2 1 tl:=by
 have h:=dE (P:=P) (w:=w) (mg:=mg) (base:=base) (k:=0) (m:=x6) T.EV I0;exact h fun _ _ _ _ _ _ _ hr _ _=>
 bp (hj PassesOwn.never (fs (af 1)) (e1 2 I0.aU) (bx (dS (uh hr.units (dZ (ah (e3) (ah (bA (af 2) (aF) aN) (aA)))) (af 0)) (bx (cN (bA (af 2) (aF) aN))) (d0))))
  (bx (cN (fN)))
theorem RD:dc P w K mg base "is_waited_for" 2 1 tq:=by
 have h:=dE (P:=P) (w:=w) (mg:=mg) (base:=base) (k:=0) (m:=uQ) T.E8 I2;exact h fun _ _ _ _ _ _ _ hr _ _=>
 bp (di 2 I2.aU (dZ (ah (e3) (ah (af 1) (aA)))))
  (bx (cN (oD (uf hr.units (af 2) (af 0)) (l6 (uf hr.units (kD T.hI) (qf (af 0) (oE (CN hr.units (af 0) (ah (af 2) (aA)))) (rU)))))))
theorem RX:dc P w K mg base "taken" 3 5 vX:=by
 have h:=dE (P:=P) (w:=w) (mg:=mg) (base:=base) (k:=4) (m:=yD) T.FE BQ;exact h fun _ _ _ _ _ _ _ hr _ _=>
 bp (hj PassesOwn.never (C1 T.uN (ah (af 0) (aA))) (v7 rfl (jU (e1 3 BQ.aU) (jU (e1 4 BQ.aU) (tG)))) (bx (dS (i0 (CZ (i0 (j2 (qk (bA (af 4) (aF) aN) (fN)) (kG (nk hr.units (bA (af 4) (aF) aN) (af 1))))) (C0 (fO (c5 (Hc T) (hr.mono (by decide)) (ah (bA (af 4) (aF) aN) (ah (af 2) (aA)))))))) (bx (cN (af 3))) (d0))))
  (bx (cN (fN)))
theorem Rn:nA P w K mg base "Net" "beyond" 1 1 ti:=by
 have h:=CS (P:=P) (w:=w) (mg:=mg) (base:=base) (k:=0) (m:=x2) T.EM Wt;exact h fun _ _ _ _ _ _ _ hr _ _=>
 bx (cN (Y4 hr.units (lB T.il (af 0)) (af 1)))
theorem RU:dc P w K mg base "onward" 4 6 mS:=by
 have h:=dE (P:=P) (w:=w) (mg:=mg) (base:=base) (k:=5) (m:=qI) T.Fz wG;exact h fun _ _ _ _ _ _ _ hr _ _=>
 bp (di 4 wG.aU (c5 (RX T) (hr.mono (by decide)) (ah (af 1) (ah (bA (af 2) (aF) aN) (ah (af 3) (aA))))))
  (bp (di 5 wG.aU (Kl (qk (af 4) (fN)) (fN) (bA (bA (af 1) (af 4) aN) (aF) aN)))
  (bp (dS (qk (af 5) (fN)) (bx (cN (dZ (ah (e3) (ah (bA (af 2) (aF) aN) (aA)))))) (d0))
  (bp (di 6 wG.aU (Kn (Rn T) (hr.mono (by decide)) (af 0) (ah (dZ (ah (bA (af 2) (aF) aN) (ah (af 5) (aA)))) (aA))))
  (bp (dS (qk (af 6) (fN)) (bx (cN (dZ (ah (e3) (ah (bA (af 2) (aF) aN) (ah (af 5) (aA))))))) (d0))
  (bx (cN (dZ (ah (e3) (ah (bA (af 6) (aF) aN) (ah (bA (af 6) (aF) aN) (aA)))))))))))
theorem Hk:dc P w K mg base "walked" 4 7 tw:=by
 have h:=dE (P:=P) (w:=w) (mg:=mg) (base:=base) (k:=6) (m:=DO) T.FF wI;exact h fun _ _ _ _ _ _ _ hr _ _=>
 bp (kF 4 wI.aU (eJ (aA)))
  (bp (CW PassesOwn.never (xk (uh hr.units (af 2) (af 4))) (bp (qh 4 (af 2))
  (bp (di 5 wI.aU (c5 (RU T) (hr.mono (by decide)) (ah (af 0) (ah (bA (af 1) (bA (af 2) (aF) aN) aN) (ah (af 2) (ah (af 3) (aA)))))))
  (bp (dS (l7 hr.units (bA (af 5) (aF) aN) (e3)) (bx (qj (dZ (ah (af 4) (ah (af 5) (aA)))))) (d0))
  (bx (di 2 wI.aU (dZ (ah (bA (af 5) (aF) aN) (ah (bA (af 5) (aF) aN) (aA))))))))))
  (bx (qj (dZ (ah (af 4) (ah (dZ (ah (e3) (ah (CN hr.units (af 4) (ah (af 2) (aA))) (aA)))) (aA)))))))
theorem Rw:dc P w K mg base "house_at_fault" 7 8 lY:=by
 have h:=dE (P:=P) (w:=w) (mg:=mg) (base:=base) (k:=7) (m:=nJ) T.EX BN;exact h fun _ _ _ _ _ _ _ hr _ _=>
 bp (di 7 BN.aU (bA (af 3) (af 4) aN))
  (bp (di 8 BN.aU (qf (af 3) (rU) (oE (af 4))))
  (bp (dS (nk hr.units (af 7) (dZ (ah (e3) (ah (bA (af 5) (aF) aN) (aA))))) (bx (cN (c5 (Rv T) (hr.mono (by decide)) (ah (af 8) (ah (bA (c5 (Hk T) (hr.mono (by decide)) (ah (af 0) (ah (af 2) (ah (af 5) (ah (af 6) (aA)))))) (aF) aN) (aA)))))) (d0))
  (bp (dS (i0 (CZ (nk hr.units (bA (af 7) (aF) aN) (e3)) (C0 (gk (fO (c5 (RD T) (hr.mono (by decide)) (ah (af 8) (ah (bA (af 5) (aF) aN) (aA))))))))) (bx (dS (KG hr.units (bA (af 7) (aF) aN) (cY (gO (N:=["house","number"]) 2 [] (by rfl) (fs (bA (c5 (Hk T) (hr.mono (by decide)) (ah (af 0) (ah (af 1) (ah (af 5) (ah (af 6) (aA)))))) (aF) aN)) (nK 0 1) (fH) (fun _ _ _ _ _ _ _=>af 0)))) (bx (cN (bA (af 7) (aF) aN))) (d0))) (d0))
  (bx (cN (fN))))))
theorem RT:dc P w K mg base "least_fault" 4 9 tv:=by
 have h:=dE (P:=P) (w:=w) (mg:=mg) (base:=base) (k:=8) (m:=DM) T.Fx tZ;exact h fun _ _ _ _ _ _ _ hr _ _=>
 bp (hj PassesOwn.never (i1 T.hB (ah (eS T.et (ah (af 3) (aA))) (aA))) (e1 4 tZ.aU) (bx (hj PassesOwn.never (fs (Y_ (Rq T) (hr.mono (by decide)) (af 0))) (e1 5 tZ.aU) (bx (hj PassesOwn.never (fs (cY (iZ (Rr T) (hr.mono (by decide)) (ah (e3) (aA))))) (e1 6 tZ.aU) (bp (di 7 tZ.aU (c5 (Rw T) (hr.mono (by decide)) (ah (af 0) (ah (af 1) (ah (af 2) (ah (af 3) (ah (af 4) (ah (af 5) (ah (af 6) (aA))))))))))
  (bx (dS (KH (af 7) (fN)) (bx (cN (dZ (ah (af 4) (ah (af 5) (ah (af 6) (ah (af 7) (aA)))))))) (d0)))))))))
  (bx (cN (fN)))
theorem zY:qz P w K mg base "fault" 4 10 ro:=by
 have h:=CJ (P:=P) (w:=w) (mg:=mg) (base:=base) (k:=9) (m:=x5) T.EU Wy;exact h fun _ _ _ _ _ _ _ hr _ _=>
 bp (CT (CM (RW T) (hr.mono (by decide)) (CR (ah (af 0) (ah (af 1) (ah (af 2) (ah (af 3) (aA))))))))
  (bx (Zj (cN (c5 (RT T) (hr.mono (by decide)) (ah (af 0) (ah (af 1) (ah (af 2) (ah (af 3) (aA)))))))))
theorem RJ:dc P w K mg base "_law_late" 5 11 vS:=by
 have h:=dE (P:=P) (w:=w) (mg:=mg) (base:=base) (k:=10) (m:=yp) T.Fj jY;exact h fun _ _ _ _ _ _ _ hr _ _=>
 bp (KA (af 2) (v7 rfl (jU (e1 5 jY.aU) (jU (e1 6 jY.aU) (tG)))))
  (bp (KA (af 3) (S5 rfl (jU (e1 7 jY.aU) (jU (e1 8 jY.aU) (jU (e1 9 jY.aU) (jU (e1 10 jY.aU) (tG)))))))
  (bp (di 11 jY.aU (bA (af 7) (eo (af 4) (eS T.et (ah (af 7) (aA)))) aN))
  (bp (di 12 jY.aU (dY (dY (dY (dY (cY (gO (N:=["_law_other","_law_step"]) 1 [11] (by rfl) (fs (af 7)) (gs 0) (ue (fun _ _ _ _ _ _ _=>l7 hr.units (af 0) (af 1))) (fun _ _ _ _ _ _ _=>af 0))) (af 8)) (cY (eJ (ah (af 11) (aA))))) (af 9)) (af 10)))
  (bp (di 13 jY.aU (CO hr.units (cY (iZ (Hi T) (hr.mono (by decide)) (ah (af 1) (ah (af 6) (ah (bA (af 11) (aF) aN) (aA)))))) (cY (eJ (aA)))))
  (bp (dS (l7 hr.units (Ko (CL (zY T) (hr.mono (by decide)) (ah (af 0) (ah (af 5) (ah (af 6) (ah (af 12) (aA)))))) (fN)) (af 13)) (bx (cN (jt))) (d0))
  (bp (di 11 jY.aU (bA (af 10) (eo (lA (af 4) (aF)) (eS T.et (ah (af 10) (aA)))) aN))
  (bp (di 12 jY.aU (dY (dY (dY (dY (af 7) (af 8)) (cY (eJ (ah (af 11) (aA))))) (af 9)) (cY (gO (N:=["_law_other","_law_step"]) 1 [11] (by rfl) (fs (af 10)) (gs 0) (ue (fun _ _ _ _ _ _ _=>l7 hr.units (af 0) (af 1))) (fun _ _ _ _ _ _ _=>af 0)))))
  (bp (di 13 jY.aU (CO hr.units (cY (iZ (Hi T) (hr.mono (by decide)) (ah (af 1) (ah (af 5) (ah (bA (af 11) (aF) aN) (aA)))))) (cY (eJ (aA)))))
  (bx (cN (rS hr.units (Ko (CL (zY T) (hr.mono (by decide)) (ah (af 0) (ah (af 5) (ah (af 6) (ah (af 12) (aA)))))) (fN)) (af 13))))))))))))
theorem RS:dc P w K mg base "_law_with_waits" 2 3 tu:=by
 have h:=dE (P:=P) (w:=w) (mg:=mg) (base:=base) (k:=2) (m:=yz) T.Fw BP;exact h fun _ _ _ _ _ _ _ hr _ _=>
 bp (kF 2 BP.aU (xj T.ka (ah (af 0) (aA))))
  (bp (hj PassesOwn.never (fs (qf (af 1) (rU) (oE (aF)))) (e1 3 BP.aU) (bx (dS (nk hr.units (eo (c5 (pA T) (hr.mono (by decide)) (ah (af 3) (ah (aF) (aA)))) (aF)) (aF)) (bx (CU (Y6 2 (rR (eo (c5 (pA T) (hr.mono (by decide)) (ah (af 3) (ah (aF) (aA)))) (dY (eS T.et (ah (af 2) (aA))) (aF)))) (dZ (ah (e3) (aA)))))) (d0))))
  (bx (qi 2)))
theorem RV:dc P w K mg base "plain_plan" 1 1 vV:=by
 have h:=dE (P:=P) (w:=w) (mg:=mg) (base:=base) (k:=0) (m:=yA) T.FA wH;exact h fun _ _ _ _ _ _ _ hr _ _=>
 bp (di 1 wH.aU (cY (Kv T.ka T.hB (ah (lB T.il (af 0)) (aA)))))
  (bp (nj (ni (N:=["house"]) 2 1 [] wH.aU (by rfl) (fs (af 1)) (gs 0) (fH) (fun _ _ _ _ _ _ _=>dZ (ah (e3) (ah (af 0) (aA))))))
  (bp (nj (ni (N:=["house"]) 3 1 [] wH.aU (by rfl) (fs (af 1)) (gs 0) (fH) (fun _ _ _ _ _ _ _=>dZ (ah (e3) (ah (af 0) (aA))))))
  (bx (cN (dY (dY (dY (af 2) (af 3)) (cY (eJ (ah (kD T.hI) (aA))))) (cY (gO (N:=["house"]) 1 [] (by rfl) (fs (af 1)) (gs 0) (fH) (fun _ _ _ _ _ _ _=>dZ (ah (e3) (ah (af 0) (aA)))))))))))
theorem LG(f:Addr)(b_:Value)(A:Around)(outer:List Env)(s:Shared)(H:ai)(E:c7)(hr:dt 11 (A.deeper (PyProof.Rows.envOfC "law" (bO oo) s.heap.objs.size f b_)))(bY bB:ai):i8 (eO gP P w K mg base ["_law_script","_law_parts","_law_net_here","_law_old","_law_new","_law_cells","_law_some","_law_plan","_law_short","_law_plans_here","_law_one"] "law" (bO oo) f b_ A outer s H E).hF (eW K bY bB) (fX oo) yi:=
 bp (di 1 lq.aU (c5 (RK T) (hr.mono (by decide)) (ah (c5 (zZ T) (hr.mono (by decide)) (ah (af 0) (ah (aF) (aA)))) (aA))))
  (bp (di 2 lq.aU (Y9 (Rp T) (hr.mono (by decide)) (ah (cY (xj T.ka (ah (bA (af 1) (aF) aN) (aA)))) (ah (cY (xj T.ka (ah (bA (af 1) (aF) aN) (aA)))) (aA)))))
  (bp (di 3 lq.aU (cY (iZ (Hh T) (hr.mono (by decide)) (ah (af 0) (ah (aF) (ah (bA (af 1) (aF) aN) (aA)))))))
  (bp (di 4 lq.aU (cY (iZ (RL T) (hr.mono (by decide)) (ah (af 0) (ah (af 3) (ah (bA (af 1) (aF) aN) (aA)))))))
  (bp (nj (ni (N:=["_law_cell"]) 5 1 [] lq.aU (by rfl) (fs (qf (af 0) (oE (aF)) (rU))) (gs 0) (fH) (fun _ _ _ _ _ _ _=>eo (af 0) (xh (aF) (aF)))))
  (bp (di 6 lq.aU (cY (iZ (RO T) (hr.mono (by decide)) (ah (af 5) (ah (eS T.et (ah (bA (af 1) (aF) aN) (aA))) (aA))))))
  (bp (di 7 lq.aU (dY (dY (dY (bA (af 6) (aF) aN) (bA (af 6) (aF) aN)) (bA (af 6) (aF) aN)) (bA (af 6) (aF) aN)))
  (bp (di 8 lq.aU (dY (dY (dY (bA (af 6) (aF) aN) (bA (af 6) (aF) aN)) (bA (af 6) (aF) aN)) (qf (bA (af 6) (aF) aN) (rU) (oE (eo (c5 (pA T) (hr.mono (by decide)) (ah (CQ hr T.uS (ah (af 5) (aA))) (ah (aF) (aA)))) (dY (eS T.et (ah (bA (af 6) (aF) aN) (aA))) (aF)))))))
  (bp (di 9 lq.aU (cY (eJ (ah (af 7) (ah (cY (iZ (RS T) (hr.mono (by decide)) (ah (af 7) (ah (af 5) (aA))))) (ah (dY (bA (af 6) (aF) aN) (bA (af 6) (aF) aN)) (ah (af 8) (aA))))))))
  (bp (hj PassesOwn.never (fs (dY (af 9) (cY (eJ (ah (c5 (RV T) (hr.mono (by decide)) (ah (af 2) (aA))) (ah (cY (eJ (aA))) (ah (bA (af 6) (aF) aN) (aA)))))))) (e1 10 lq.aU) (bx (dS (KH (CL (zY T) (hr.mono (by decide)) (ah (af 2) (ah (af 3) (ah (af 4) (ah (af 10) (aA)))))) (fN)) (bx (cN (jt))) (d0))))
  (bx (cN (c5 (RJ T) (hr.mono (by decide)) (ah (af 2) (ah (af 1) (ah (dZ (ah (af 3) (ah (af 4) (aA)))) (ah (af 6) (ah (c5 (pA T) (hr.mono (by decide)) (ah (CQ hr T.uS (ah (af 5) (aA))) (ah (aF) (aA)))) (aA))))))))))))))))))
end
end bG
namespace bG
open PySem PySem.Spec aX aB
theorem fv{α β:Type}(a:α)(k:α→R β):(R.ok a).bind k=k a:=rfl
theorem BS{a b:a0}{ρ bo:ao}(h:a ρ=.ok (.bq bo)):aR a b ρ=b bo:=by simp only[aR,h,fv]
theorem LS{f:List D→R bW}{a:aD}{ρ:ao}{x y:D}(ha:a ρ=.ok x)(h:f [x]=.ok (.v y)):bR 1 f (ae a ar) ρ=.ok y:=by simp only[bR,ae,ar,ha,fv,List.length_cons,List.length_nil,if_true,h,iU]
theorem call2{f:List D→R bW}{a b:aD}{ρ:ao}{x z y:D}(ha:a ρ=.ok x)(hb:b ρ=.ok z)(h:f [x,z]=.ok (.v y)):bR 2 f (ae a (ae b ar)) ρ=.ok y:=by simp only[bR,ae,ar,ha,hb,fv,List.length_cons,List.length_nil,if_true,h,iU]
theorem LU{f:List D→R bW}{a b c:aD}{ρ:ao}{x z w y:D}(ha:a ρ=.ok x)(hb:b ρ=.ok z)(hc:c ρ=.ok w)(h:f [x,z,w]=.ok (.v y)):bR 3 f (ae a (ae b (ae c ar))) ρ=.ok y:=by simp only[bR,ae,ar,ha,hb,hc,fv,List.length_cons,List.length_nil,if_true,h,iU]
theorem uU{f:D→D→R D}{a b:aD}{ρ:ao}{x y z:D}(ha:a ρ=.ok x)(hb:b ρ=.ok y)(h:f x y=.ok z):ag f a b ρ=.ok z:=by simp only[ag,ha,hb,fv,h]
theorem rd{a:aD}{ρ:ao}{c:Bool}(ha:a ρ=.ok (.ax c)):aW a ρ=.ok c:=by simp only[aW,ha,fv,ja]
theorem z8{a:b4}{ρ:ao}{c:Bool}(ha:a ρ=.ok c):eb a ρ=.ok (!c):=by simp only[eb,ha,fv]
theorem H7{a b:b4}{ρ:ao}{c d:Bool}(ha:a ρ=.ok c)(hb:c=false→b ρ=.ok d):eZ a b ρ=.ok (c||d):=by
 cases c
 ·simp only[eZ,ha,fv,hb rfl,Bool.false_eq_true,if_false,Bool.false_or]
 ·simp only[eZ,ha,fv,if_true,Bool.true_or]
theorem L_{f g:D→D→R D}{a b c:aD}{ρ:ao}{x y w:D}{k l:Bool}(ha:a ρ=.ok x)(hb:b ρ=.ok y)(hc:c ρ=.ok w)(hf:f x y=.ok (.ax k))(hg:g y w=.ok (.ax l)):iQ f g a b c ρ=.ok (.ax (k&&l)):=by
 cases k
 ·simp only[iQ,ha,hb,hf,fv,ja,Bool.false_eq_true,if_false,Bool.false_and]
 ·simp only[iQ,ha,hb,hc,hf,hg,fv,ja,if_true,Bool.true_and]
theorem BR{c:b4}{a b:a0}{ρ:ao}(hc:c ρ=.ok false):aR (ck c a cw) b ρ=b ρ:=by simp only[aR,ck,hc,fv,cw];rfl
theorem VJ{e:aD}{ρ:ao}{d:D}(he:e ρ=.ok d):bU e ρ=.ok (.dH d):=by simp only[bU,he,fv]
theorem Oe{mi:aP}{set:D→ao→R ao}{body:a0}{ds:List D}{ρ:ao}(hi:mi ρ=.ok ds):d3 mi set body ρ=e9 set body ds ρ:=by rw[d3,hi];rfl
theorem Of{mi:aP}{set:D→ao→R ao}{body:a0}{ds:List D}{ρ bo:ao}(hi:mi ρ=.ok ds)(h:e9 set body ds ρ=.ok (.bq bo)):d3 mi set body ρ=.ok (.bq bo):=by rw[Oe hi];exact h
theorem Hp{a:aD}{ρ:ao}{xs:List D}(ha:a ρ=.ok (.lst xs)):bZ cV (ae a ar) ρ=.ok (.int (xs.length:Nat)):=by simp only[bZ,ae,ar,ha,fv,cV]
def b0(cs:List Nat):List D:=cs.map fun(c:Nat)=>D.int (c:Int)
abbrev aw:=Nat×Nat
def aO(d:aw):D:=.tup [.int (d.1:Nat),.int (d.2:Nat)]
def dG(w:aw×aw):D:=.tup [aO w.1,aO w.2]
def ends(ws:List (aw×aw)):List aw:=(ws.map fun w=>[w.1,w.2]).flatten
structure Lay(all left:List aw)(ws:List (aw×aw)):Prop where
 aU:(left++ends ws).Nodup
 sub:∀d∈left++ends ws,d∈all
theorem u9{α:Type}:∀(l:List α)(i:Nat)(h:i<l.length),List.Perm (l[i]::l.eraseIdx i) l
 |x::l,0,_=>List.Perm.refl _
 |x::l,i+1,h=>by have bQ:=u9 l i (by simpa using h);simp only[List.getElem_cons_succ,List.eraseIdx_cons_succ];exact(List.Perm.swap x _ _).trans (bQ.cons x)
theorem Lay.take{all left:List aw}{ws:List (aw×aw)}(h:Lay all left ws){i j:Nat}(hi:i<left.length)(cg:j<(left.eraseIdx i).length) :
  Lay all ((left.eraseIdx i).eraseIdx j) (ws++[(left[i],(left.eraseIdx i)[j])]):=by
 have eG:List.Perm left (left[i]::left.eraseIdx i):=(u9 left i hi).symm;have cB:List.Perm (left.eraseIdx i) ((left.eraseIdx i)[j]::(left.eraseIdx i).eraseIdx j):=(u9 (left.eraseIdx i) j cg).symm;have Ax:ends (ws++[(left[i],(left.eraseIdx i)[j])])=ends ws++[left[i],(left.eraseIdx i)[j]]:=by simp[ends]
 have pp:List.Perm (left++ends ws) ((left.eraseIdx i).eraseIdx j++ends (ws++[(left[i],(left.eraseIdx i)[j])])):=by rw[Ax];refine(List.Perm.append_right _ (eG.trans (List.Perm.cons _ cB))).trans ?_;refine(List.perm_append_comm (l₁:=[left[i],(left.eraseIdx i)[j]]) (l₂:=(left.eraseIdx i).eraseIdx j++ends ws)).trans ?_;rw[List.append_assoc]
 exact⟨pp.nodup_iff.mp h.aU,fun d hd=>h.sub d (pp.mem_iff.mpr hd)⟩
def gg(cs:List Nat)(h:Nat):List aw:=(List.range (cs.getD h 0)).map fun k=>(h,k)
def c3(cs:List Nat)(n:Nat):List aw:=(List.range n).flatMap (gg cs)
theorem uJ(cs:List Nat)(n:Nat):c3 cs (n+1)=c3 cs n++gg cs n:=by unfold c3;rw[List.range_succ,List.flatMap_append];simp
theorem Ad{cs:List Nat}{h:Nat}{d:aw}:d∈gg cs h↔d.1=h∧d.2<cs.getD h 0:=by
 unfold gg;rw[List.mem_map];constructor
 ·rintro⟨k,hk,rfl⟩;exact⟨rfl,List.mem_range.mp hk⟩
 ·rintro⟨rfl,h2⟩;exact⟨d.2,List.mem_range.mpr h2,rfl⟩
theorem kr{cs:List Nat}{n:Nat}{d:aw}:d∈c3 cs n↔d.1<n∧d.2<cs.getD d.1 0:=by
 unfold c3;rw[List.mem_flatMap];constructor
 ·rintro⟨h,hh,hd⟩;obtain⟨rfl,h2⟩:=Ad.mp hd;exact⟨List.mem_range.mp hh,h2⟩
 ·rintro⟨h1,h2⟩;exact⟨d.1,List.mem_range.mpr h1,Ad.mpr ⟨rfl,h2⟩⟩
theorem MC(cs:List Nat)(h:Nat):(gg cs h).Nodup:=by unfold gg;rw[List.nodup_iff_pairwise_ne,List.pairwise_map];exact List.nodup_range.imp fun sL z=>sL (Prod.mk.inj z).2
theorem Dz(cs:List Nat):∀n,(c3 cs n).Nodup
 |0=>List.nodup_nil
 |n+1=>by rw[uJ];refine List.nodup_append.mpr ⟨Dz cs n,MC cs n,fun a ha b hb z=>?_⟩;subst z;have h1:=(kr.mp ha).1;have h2:=(Ad.mp hb).1;omega
theorem vg{cs:List Nat}(h:∀c∈cs,c≤4)(k:Nat):cs.getD k 0≤4:=by
 rw[List.getD_eq_getElem?_getD];cases e:cs[k]? with
 |none=>simp
 |some c=>simpa using h c (List.mem_of_getElem? e)
theorem yM{cs:List Nat}(h:∀c∈cs,1≤c∧c≤4)(k:Nat):(gg cs k).length≤4:=by unfold gg;rw[List.length_map,List.length_range];exact vg (fun c hc=>(h c hc).2) k
theorem sa{cs:List Nat}(h:∀c∈cs,1≤c∧c≤4):∀n,(c3 cs n).length≤4*n
 |0=>by simp[c3]
 |n+1=>by rw[uJ,List.length_append];have:=sa h n;have:=yM h n;omega
theorem sh{cs:List Nat}{h:Nat}(hh:h<cs.length):(b0 cs)[h]?=some (.int (cs.getD h 0:Nat)):=by simp[b0,List.getElem?_eq_getElem hh,List.getD_eq_getElem?_getD]
structure gH(cs:List Nat)(ws:List (aw×aw)):Prop where
 h1:1≤cs.length
 h6:cs.length≤6
 c:∀c∈cs,1≤c∧c≤4
 aU:(ends ws).Nodup
 sub:∀d∈ends ws,d∈c3 cs cs.length
 out:∃d,d∈c3 cs cs.length∧d∉ends ws
 few:ws.length<100
theorem head_mem{cs:List Nat}(h1:1≤cs.length)(c:∀c∈cs,1≤c∧c≤4):((0,0):aw)∈c3 cs cs.length:=by
 refine kr.mpr ⟨h1,?_⟩;cases cs with
 |nil=>simp at h1
 |cons x r=>exact(c x (List.mem_cons_self ..)).1
def hC(d:aw):List Key:=[.inl (d.1:Nat),.inl (d.2:Nat)]
theorem zV{a b:aw}(h:hC a=hC b):a=b:=by
 obtain⟨a1,a2⟩:=a;obtain⟨d_,dg⟩:=b;simp only[hC,List.cons.injEq,Sum.inl.injEq,and_true]at h;have h1:a1=d_:=by omega
 have h2:a2=dg:=by omega
 rw[h1,h2]
theorem q7(d:aw):n1 (aO d)=some (hC d):=rfl
def dQ(ws:List (aw×aw)):List (List Key):=(ends ws).map hC
def d5(ws:List (aw×aw)):List D:=(ws.map fun w=>[aO w.2,aO w.1]).flatten
theorem ks_any(ws:List (aw×aw))(d:aw):(dQ ws).any (fun x=>decide (x=hC d))=decide (d∈ends ws):=by
 unfold dQ;rw[List.any_map];by_cases h:d∈ends ws
 ·rw[decide_eq_true h,List.any_eq_true];exact⟨d,h,by simp⟩
 ·rw[decide_eq_false h,List.any_eq_false];intro x hx;simp only[Function.comp,decide_eq_true_eq];exact fun z=>h (zV z▸hx)
theorem NF(ws:List (aw×aw)):(ends ws).length=2*ws.length:=by
 induction ws with
 |nil=>rfl
 |cons w r bQ=>simp only[ends,List.map_cons,List.flatten_cons,List.length_append,List.length_cons,List.length_nil]at bQ ⊢;omega
theorem Em{i:Nat}{mk mv:aD}{ρ:ao}{aH:List (List Key)}{ds:List D}{k v:D}{cv:List Key}(hs:ρ[i]?=some (.a4 (.bK aH ds)))(hk:mk ρ=.ok k)(hv:mv ρ=.ok v)(g0:n1 k=some cv)(aC:aH.any (fun x=>decide (x=cv))=false)(hl:aH.length<1000000) :
  mP i mk mv ρ=.ok (.bq (ρ.set i (.a4 (.bK (aH++[cv]) (ds++[v]))))):=by
 simp only[mP,hv,hs,hk,fv,g0,putD,if_pos (And.intro aC hl)]
theorem Lp{aH:List (List Key)}{a b:List Key}(h:aH.any (fun x=>decide (x=b))=false)(ne:a≠b):(aH++[a]).any (fun x=>decide (x=b))=false:=by rw[List.any_append,h];simp[ne]
theorem RY(ws:List (aw×aw))(w:aw×aw):dQ (ws++[w])=dQ ws++[hC w.1]++[hC w.2]:=by simp[dQ,ends]
theorem YG(ws:List (aw×aw))(w:aw×aw):d5 (ws++[w])=d5 ws++[aO w.2]++[aO w.1]:=by simp[d5]
theorem Tg{P:List (aw×aw)}{w:aw×aw}{r:List (aw×aw)}(aU:(ends (P++w::r)).Nodup):w.1∉ends P∧w.2∉ends P∧w.1≠w.2:=by
 have e:ends (P++w::r)=ends P++(w.1::w.2::ends r):=by simp[ends]
 rw[e]at aU;obtain⟨_,c2,mU⟩:=List.nodup_append.mp aU;refine⟨fun z=>mU _ z w.1 (by simp) rfl,fun z=>mU _ z w.2 (by simp) rfl,fun z=>?_⟩;rw[List.nodup_cons]at c2;exact c2.1 (by rw[z];simp)
theorem uc(i lo hi:Int):lZ [.int i,.int lo,.int hi]=.ok (.v (.ax (decide (lo≤i)&&decide (i≤hi)))):=by have w:Aa [.int i]=.ok (.v (.ax true)):=rfl;simp[lZ,yg,w];by_cases h:lo≤i<;>simp[h]
theorem Ei{cs:List Nat}{d:aw}(h:d∈c3 cs cs.length):tn [.tup (b0 cs),aO d]=.ok (.v (.ax true)):=by
 obtain⟨h1,h2⟩:=kr.mp h;have p:tp [aO d]=.ok (.v (.ax true)):=rfl;have c8:ay (aO d) (.int 0)=.ok (.int d.1):=rfl;have aq:ay (aO d) (.int 1)=.ok (.int d.2):=rfl;have az:ay (.tup (b0 cs)) (.int (d.1:Nat))=.ok (.int (cs.getD d.1 0:Nat)):=zQ (sh h1);have l:(b0 cs).length=cs.length:=by simp[b0]
 simp only[List.getD_eq_getElem?_getD]at h2 az;simp[tn,yb,p,c8,aq,az,l,uc,show¬((cs.length:Int)-1<(d.1:Nat))by omega];omega
theorem MB{a b:aw}(h:a≠b):b8 false (aO a) (aO b)=.ok (.ax true):=by
 show R.ok (D.ax (!(((a.1:Nat):Int)==((b.1:Nat):Int)&&(((a.2:Nat):Int)==((b.2:Nat):Int)&&true))))=_;by_cases h1:a.1=b.1
 ·by_cases h2:a.2=b.2
  ·exact absurd (Prod.ext h1 h2) h
  ·rw[beq_eq_false_iff_ne.mpr (show((a.2:Nat):Int)≠((b.2:Nat):Int)by omega)];simp
 ·rw[beq_eq_false_iff_ne.mpr (show((a.1:Nat):Int)≠((b.1:Nat):Int)by omega)];simp
theorem YY{cs:List Nat}{w:aw×aw}(h1:w.1∈c3 cs cs.length)(h2:w.2∈c3 cs cs.length)(ne:w.1≠w.2):ru [.tup (b0 cs),dG w]=.ok (.v (.ax true)):=by have p:tp [dG w]=.ok (.v (.ax true)):=rfl;have c8:ay (dG w) (.int 0)=.ok (aO w.1):=rfl;have aq:ay (dG w) (.int 1)=.ok (aO w.2):=rfl;simp[ru,yh,p,c8,aq,Ei h1,Ei h2,MB ne]
noncomputable def fBody:a0:=(aR (ck (eb (aW (bR 2 ru (ae (J 0) (ae (J 3) (ar)))))) (rf) (cw))
    (aR (ck (iP (eZ (aW (ag (fj true) (ag ay (J 3) (aj (.int 0))) (J 2))) (aW (ag (fj true) (ag ay (J 3) (aj (.int 1))) (J 2))))) (rf) (cw))
    (aR (mP 2 (ag ay (J 3) (aj (.int 0))) (ag ay (J 3) (aj (.int 1))))
    (mP 2 (ag ay (J 3) (aj (.int 1))) (ag ay (J 3) (aj (.int 0)))))))
theorem Fy(cs:List Nat)(W:D):∀(r P:List (aw×aw)),(ends (P++r)).Nodup→(∀d∈ends r,d∈c3 cs cs.length)→(P++r).length<1000→∀s3:cO,∃t3,e9 (a8 3) fBody (r.map dG) [.ak (.tup (b0 cs)),.ak W,.a4 (.bK (dQ P) (d5 P)),s3]=.ok (.bq [.ak (.tup (b0 cs)),.ak W,.a4 (.bK (dQ (P++r)) (d5 (P++r))),t3])
 |[],P,_,_,_,s3=>⟨s3,by rw[List.append_nil];rfl⟩
 |w::r,P,aU,sub,hl,s3=>by
  obtain⟨da,c2,mU⟩:=Tg aU;have lk:(dQ P).length<10000:=by unfold dQ;rw[List.length_map,NF];rw[List.length_append]at hl;omega
  have c8:a8 3 (dG w) [.ak (.tup (b0 cs)),.ak W,.a4 (.bK (dQ P) (d5 P)),s3]=.ok [.ak (.tup (b0 cs)),.ak W,.a4 (.bK (dQ P) (d5 P)),.ak (dG w)]:=rfl;have bN:eb (aW (bR 2 ru (ae (J 0) (ae (J 3) (ar))))) [.ak (.tup (b0 cs)),.ak W,.a4 (.bK (dQ P) (d5 P)),.ak (dG w)]=.ok false:=z8 (c:=true) (rd (call2 rfl rfl (YY (sub _ (by simp[ends])) (sub _ (by simp[ends])) mU)));have k1:fj true (aO w.1) (.bK (dQ P) (d5 P))=.ok (.ax false):=by simp only[fj,q7,ks_any,decide_eq_false da,if_true]
  have k2:fj true (aO w.2) (.bK (dQ P) (d5 P))=.ok (.ax false):=by simp only[fj,q7,ks_any,decide_eq_false c2,if_true]
  have cZ:iP (eZ (aW (ag (fj true) (ag ay (J 3) (aj (.int 0))) (J 2))) (aW (ag (fj true) (ag ay (J 3) (aj (.int 1))) (J 2)))) [.ak (.tup (b0 cs)),.ak W,.a4 (.bK (dQ P) (d5 P)),.ak (dG w)]=.ok (false||false):=by unfold iP;exact H7 (rd (uU (x:=aO w.1) (y:=.bK (dQ P) (d5 P)) rfl rfl k1)) fun _=>rd (uU (x:=aO w.2) (y:=.bK (dQ P) (d5 P)) rfl rfl k2)
  have a1:=Em (i:=2) (mk:=ag ay (J 3) (aj (.int 0))) (mv:=ag ay (J 3) (aj (.int 1))) (ρ:=[.ak (.tup (b0 cs)),.ak W,.a4 (.bK (dQ P) (d5 P)),.ak (dG w)]) rfl rfl rfl (q7 w.1) (by rw[ks_any];exact decide_eq_false da) (by omega);have a2:=Em (i:=2) (mk:=ag ay (J 3) (aj (.int 1))) (mv:=ag ay (J 3) (aj (.int 0))) (ρ:=[.ak (.tup (b0 cs)),.ak W,.a4 (.bK (dQ P++[hC w.1]) (d5 P++[aO w.2])),.ak (dG w)]) rfl rfl rfl (q7 w.2) (Lp (by rw[ks_any];exact decide_eq_false c2) (fun z=>mU (zV z))) (by rw[List.length_append,List.length_singleton];omega);have aq:fBody [.ak (.tup (b0 cs)),.ak W,.a4 (.bK (dQ P) (d5 P)),.ak (dG w)]=.ok (.bq [.ak (.tup (b0 cs)),.ak W,.a4 (.bK (dQ (P++[w])) (d5 (P++[w]))),.ak (dG w)]):=by unfold fBody;rw[BR bN,BR cZ,BS a1,RY,YG];exact a2
  rw[List.map_cons,e9,c8,fv,aq,fv];have q:P++w::r=(P++[w])++r:=by simp
  rw[q]at aU hl ⊢;exact Fy cs W r (P++[w]) aU (fun d hd=>sub d (by simp only[ends,List.map_cons,List.flatten_cons,List.mem_append]at hd ⊢;exact .inr hd)) hl _
theorem N7(cs:List Nat)(ws:List (aw×aw))(h:gH cs ws):rn [.tup (b0 cs),.tup (ws.map dG)]=.ok (.v (.bK (dQ ws) (d5 ws))):=by show(uO [.ak (.tup (b0 cs)),.ak (.tup (ws.map dG)),.un,.un]).bind outD=_;have s1:th 2 [.ak (.tup (b0 cs)),.ak (.tup (ws.map dG)),.un,.un]=.ok (.bq [.ak (.tup (b0 cs)),.ak (.tup (ws.map dG)),.a4 (.bK (dQ []) (d5 [])),.un]):=rfl;obtain⟨t3,e⟩:=Fy cs (.tup (ws.map dG)) ws [] (by simpa using h.aU) h.sub (by have:=h.few;simp;omega) .un;have f:=Of (mi:=pD (J 1)) (ρ:=[.ak (.tup (b0 cs)),.ak (.tup (ws.map dG)),.a4 (.bK (dQ []) (d5 [])),.un]) rfl e;unfold fBody at f;unfold uO;rw[BS s1,BS f];rfl
def o_:aD:=(bR 3 lZ (ae (J 0) (ae (aj (.int 1)) (ae (aj qK) (ar)))))
theorem Eb:∀(cs:List Nat),(∀c∈cs,1≤c∧c≤4)→∀(ws:List D)(s0:cO),ws.length+cs.length<1000→fW (a8 0) dW o_ (b0 cs) [s0] ws=.ok (ws++cs.map fun _=>D.ax true)
 |[],_,ws,s0,_=>by simp[fW,b0]
 |c::cs,h,ws,s0,hl=>by
  simp only[List.length_cons]at hl;obtain⟨bN,kP⟩:=h c (List.mem_cons_self ..);have c8:a8 0 (.int (c:Nat)) [s0]=.ok [.ak (.int (c:Nat))]:=rfl;have aq:o_ [.ak (.int (c:Nat))]=.ok (.ax true):=by have z:=uc (c:Nat) 1 4;rw[decide_eq_true (by omega),decide_eq_true (by omega)]at z;exact LU rfl rfl rfl z
  show fW (a8 0) dW o_ (.int (c:Nat)::b0 cs) [s0] ws=_;rw[fW,c8,fv];simp only[dW,fv,aq,if_true,if_pos (show ws.length<1000000 by omega)];rw[Eb cs (fun c h'=>h c (List.mem_cons_of_mem _ h')) _ _ (by rw[List.length_append,List.length_singleton];omega),List.append_assoc];rfl
theorem D2:∀cs:List Nat,mB (cs.map fun _=>D.ax true)=some (cs.map fun _=>true)
 |[]=>rfl
 |c::cs=>by simp only[List.map_cons,mB,D2 cs,Option.map_some]
theorem Md(cs:List Nat)(h1:1≤cs.length)(h6:cs.length≤6)(h:∀c∈cs,1≤c∧c≤4):tk [.lst (b0 cs)]=.ok (.v (.ax true)):=by
 show(uM [.ak (.lst (b0 cs))]).bind outD=_;have lV:bZ cV (ae (J 0) ar) [.ak (.lst (b0 cs))]=.ok (.int (cs.length:Nat)):=by rw[Hp (xs:=b0 cs) rfl];simp[b0]
 have bN:eZ (eb (aW (dC (gi "list") (J 0)))) (eb (aW (iQ k7 k7 (aj (.int 1)) (bZ cV (ae (J 0) (ar))) (aj o1)))) [.ak (.lst (b0 cs))]=.ok (false||false):=by refine H7 rfl fun _=>?_;have z:=L_ (f:=k7) (g:=k7) (a:=aj (.int 1)) (c:=aj o1) (ρ:=[.ak (.lst (b0 cs))]) rfl lV rfl (k:=true) (l:=true) (by show R.ok (D.ax (decide ((1:Int)≤(cs.length:Nat))))=_;rw[decide_eq_true (by omega)]) (by show R.ok (D.ax (decide (((cs.length:Nat):Int)≤6)))=_;rw[decide_eq_true (by omega)]);exact z8 (c:=true) (rd z)
 have kQ:dh 1 [] (ea (J 0)) (a8 0) (dW) o_ [.ak (.lst (b0 cs))]=.ok (cs.map fun _=>D.ax true):=by show gy (fW (a8 0) dW o_ (b0 cs) [.un] [])=_;rw[Eb cs h _ _ (by simp;omega)];rfl
 have e:bZ aB.c3 (ae (cj (dh 1 [] (ea (J 0)) (a8 0) (dW) o_)) (ar)) [.ak (.lst (b0 cs))]=.ok (.ax true):=by
  simp only[bZ,ae,ar,cj,kQ,fv,aB.c3,D2]
  congr 2
  rw[List.all_map];simp
 unfold o_ at e;unfold uM;rw[BR bN,VJ e];rfl
theorem t7{a b:iB}{ρ d2:ao}(h:a ρ=.ok d2):lX a b ρ=b d2:=by simp only[lX,h,fv]
theorem J9:∀ws:List (aw×aw),ku (d5 ws)=true
 |[]=>rfl
 |w::ws=>by show ku (aO w.2::aO w.1::d5 ws)=true;simp only[ku,J9 ws];rfl
theorem QE(cs:List Nat)(ws:List (aw×aw))(h:gH cs ws):z_ [.lst (b0 cs),.lst (ws.map dG)]=.ok (["many","counts","joined","far"],[.int (cs.length:Nat),.tup (b0 cs),.tup (ws.map dG),.bK (dQ ws) (d5 ws)]):=by
 let r (ns:List Str) (ds:List D):ao:=[.a4 (.ins "Net" ns ds),.ak (.lst (b0 cs)),.ak (.lst (ws.map dG))]
 have g1:n_ (eb (aW (bR 1 tk (ae (J 1) (ar))))) (r [] [])=.ok (r [] []):=by have z:eb (aW (bR 1 tk (ae (J 1) (ar)))) (r [] [])=.ok false:=z8 (c:=true) (rd (LS rfl (Md cs h.h1 h.h6 h.c)));simp only[n_,z,fv,Bool.false_eq_true,if_false]
 have g2:n_ (eb (aW (dC (gi "list") (J 2)))) (r [] [])=.ok (r [] []):=rfl;have f1:jS "Net" "many" (bZ cV (ae (J 1) (ar))) (r [] [])=.ok (r ["many"] [.int (cs.length:Nat)]):=by
  have lV:bZ cV (ae (J 1) ar) (r [] [])=.ok (.int (cs.length:Nat)):=by rw[Hp (xs:=b0 cs) rfl];simp[b0]
  rw[jS,lV];rfl
 have f2:jS "Net" "counts" (bZ m_ (ae (J 1) (ar))) (r ["many"] [.int (cs.length:Nat)])=.ok (r ["many","counts"] [.int (cs.length:Nat),.tup (b0 cs)]):=rfl;have ew:jS "Net" "joined" (bZ m_ (ae (J 2) (ar))) (r ["many","counts"] [.int (cs.length:Nat),.tup (b0 cs)])=.ok (r ["many","counts","joined"] [.int (cs.length:Nat),.tup (b0 cs),.tup (ws.map dG)]):=rfl;have f4:jS "Net" "far" (n7 (bR 2 rn (ae (dC (eF "Net" "counts") (J 0)) (ae (dC (eF "Net" "joined") (J 0)) (ar))))) (r ["many","counts","joined"] [.int (cs.length:Nat),.tup (b0 cs),.tup (ws.map dG)])=.ok (r ["many","counts","joined","far"] [.int (cs.length:Nat),.tup (b0 cs),.tup (ws.map dG),.bK (dQ ws) (d5 ws)]):=by
  have z:n7 (bR 2 rn (ae (dC (eF "Net" "counts") (J 0)) (ae (dC (eF "Net" "joined") (J 0)) (ar)))) (r ["many","counts","joined"] [.int (cs.length:Nat),.tup (b0 cs),.tup (ws.map dG)])=.ok (.bK (dQ ws) (d5 ws)):=by have y:bR 2 rn (ae (dC (eF "Net" "counts") (J 0)) (ae (dC (eF "Net" "joined") (J 0)) (ar))) (eP (r ["many","counts","joined"] [.int (cs.length:Nat),.tup (b0 cs),.tup (ws.map dG)]))=.ok (.bK (dQ ws) (d5 ws)):=call2 (x:=.tup (b0 cs)) (z:=.tup (ws.map dG)) rfl rfl (N7 cs ws h);have n:jW (.bK (dQ ws) (d5 ws))=true∧Ar (r ["many","counts","joined"] [.int (cs.length:Nat),.tup (b0 cs),.tup (ws.map dG)])=true:=⟨by simp only[jW];exact J9 ws,rfl⟩;simp only[n7,y,fv,if_pos n]
  rw[jS,z];rfl
 show outI "Net" (uL (r [] []))=_;unfold uL;rw[t7 g1,t7 g2,t7 f1,t7 f2,t7 ew,f4];rfl
theorem yJ(ns:List Int)(k:Nat):∃c:Int,k9 [.cy (ns.map D.int),.int k]=.ok (.v (.int c)):=by
 by_cases h:k<ns.length
 ·refine⟨ns[k],?_⟩;have e:ay (.cy (ns.map D.int)) (.int (k:Int))=.ok (.int ns[k]):=QY (by simp[h]);simp(disch:=first|omega|(simp;done)|(simp;omega)) [k9,uR,h,e]
 ·exact⟨0,by simp(disch:=first|omega|(simp;done)|(simp;omega)) [k9,uR,h]⟩
theorem Ik(P:Int→Prop){a b c d:Int}(ha:P a)(hb:P b)(hc:P c)(hd:P d)(x:Int):∃y,P y∧ay (.lst [.int a,.int b,.int c,.int d]) (.int (x%4))=.ok (.int y):=by
 have h:x%4=0∨x%4=1∨x%4=2∨x%4=3:=by omega
 rcases h with h|h|h|h<;>rw[h]
 ·exact⟨a,ha,rfl⟩
 ·exact⟨b,hb,rfl⟩
 ·exact⟨c,hc,rfl⟩
 ·exact⟨d,hd,rfl⟩
theorem yL(c:Int)(n:Nat)(aC:n<1000):∃ys:List Int,ys.length=n∧mR [.int c,.int n]=.ok (.o (ys.map D.int)):=by
 let I:Nat→ao→Prop:=fun j ρ=>∃(ys:List Int)(r:Int)(s4 s5 cT:cO),ys.length=j∧ρ=[.ak (.int c),.ak (.int n),.cE (ys.map D.int),.ak (.int r),s4,s5,cT]
 have L:=FQ (mi:=fm (ae (J 1) (ar))) (set:=a8 4) (ρ:=[.ak (.int c),.ak (.int n),.cE [],.ak (.int (c/2)),.un,.un,.un]) (ds:=fg 0 n) I (body:=(ck (aW (ag (b8 true) (ag dv (J 0) (aj (.int 2))) (aj (.int 1)))) (aR (cp 5 (ag ay (cj (dz (ae (aj (.int 2147483647)) (ae (aj (.int 2147483629)) (ae (aj (.int 2147483587)) (ae (aj (.int 2147483579)) (ar))))))) (ag dv (ag hM (J 4) (aj (.int 4))) (aj (.int 4)))))
  (aR (cp 6 (ag ay (cj (dz (ae (aj (.int 48271)) (ae (aj (.int 69621)) (ae (aj (.int 16807)) (ae (aj (.int 39373)) (ar))))))) (ag dv (J 4) (aj (.int 4)))))
  (g7 2 (ag hM (ag dv (ag ks (ag cC (ag cC (ag dv (J 3) (ag jX (aj (.int 10)) (aj (.int 30)))) (ag ks (aj (.int 7919)) (J 4))) (aj (.int 1))) (J 6)) (J 5)) (aj (.int 7)))))) (aR (g7 2 (ag dv (J 3) (ag jX (aj (.int 10)) (aj (.int 6)))))
  (cp 3 (ag hM (J 3) (ag jX (aj (.int 10)) (aj (.int 6)))))))) (by simp[show n<1000000 by omega]) (fun j d ρ hd iK=>?_) ⟨[],c/2,.un,.un,.un,rfl,rfl⟩
 ·obtain⟨bo,e,ys,r,s4,s5,cT,hl,rfl⟩:=L;refine⟨ys,by simpa using hl,?_⟩;simp(disch:=first|omega|(simp;done)|(simp;omega)) [mR,yn,e]
 ·obtain⟨cg,rfl⟩:=IS hd;obtain⟨ys,r,s4,s5,cT,hl,rfl⟩:=iK;obtain⟨p,hp,cz⟩:=Ik (fun y=>0<y) (a:=2147483647) (b:=2147483629) (c:=2147483587) (d:=2147483579) (by decide) (by decide) (by decide) (by decide) ((j:Int)/4);obtain⟨f,hf,hJ⟩:=Ik (fun y=>0<y∧y<2^64) (a:=48271) (b:=69621) (c:=16807) (d:=39373) (by decide) (by decide) (by decide) (by decide) (j:Int);have aak:f<18446744073709551616:=hf.2;have aaj:=hf.1;by_cases hc:c%2=1
  ·exact⟨_,_,by simp;rfl,by simp(disch:=first|omega|(simp;done)|(simp;omega)) [hc,cz,hJ,Ir];rfl,ys++[_],r,_,_,_,by simp[hl],by simp;exact⟨rfl,rfl,rfl,rfl⟩⟩
  ·exact⟨_,_,by simp;rfl,by simp(disch:=first|omega|(simp;done)|(simp;omega)) [hc,U7];rfl,ys++[_],_,_,_,_,by simp[hl],by simp;exact⟨rfl,rfl,rfl,rfl,rfl⟩⟩
theorem Af(c:Int)(k:Nat)(hk:k<900):∃y:Int,gx [.int c,.int k]=.ok (.v (.int y)):=by
 obtain⟨ys,hl,e⟩:=yL c (k+1) (by omega);have h:k<ys.length:=by omega
 refine⟨ys[k],?_⟩;have b6:mR [.int c,.int ((k:Int)+1)]=.ok (.o (ys.map D.int)):=by rw[←e];rfl
 simp(disch:=first|omega|(simp;done)|(simp;omega)) [gx,yq,b6,zP h]
theorem X9(mT:Nat)(h1:1≤mT)(h6:mT≤6):∃t:Nat,1≤t∧t≤4∧ay (.lst [.int 4,.int 4,.int 4,.int 3,.int 2,.int 2]) (.int ((mT:Int)-1))=.ok (.int (t:Nat)):=by
 have:mT=1∨mT=2∨mT=3∨mT=4∨mT=5∨mT=6:=by omega
 rcases this with h|h|h|h|h|h<;>subst h
 ·exact⟨4,by decide,by decide,rfl⟩
 ·exact⟨4,by decide,by decide,rfl⟩
 ·exact⟨4,by decide,by decide,rfl⟩
 ·exact⟨3,by decide,by decide,rfl⟩
 ·exact⟨2,by decide,by decide,rfl⟩
 ·exact⟨2,by decide,by decide,rfl⟩
theorem Tc(cell:Int):∃(cs:List Nat)(ws:List (aw×aw)),gH cs ws∧rx [.int cell]=.ok (.v (.tup [.lst (b0 cs),.lst (ws.map dG)])):=by
 suffices h:Ends (rx [.int cell]) fun b=>∃cs ws,gH cs ws∧b=.v (.tup [.lst (b0 cs),.lst (ws.map dG)])by
  obtain⟨b,e,cs,ws,h,rfl⟩:=h;exact⟨cs,ws,h,e⟩
 obtain⟨xs,hx,ex⟩:=yL cell 40 (by decide);have EE:mR [.int cell,.int 40]=.ok (.o (xs.map D.int)):=ex;have at':∀k:Nat,k<40→∃x,ay (.lst (xs.map D.int)) (.int (k:Int))=.ok (.int x):=fun k hk=>⟨_,zP (by omega)⟩;obtain⟨x0,c8⟩:=at' 0 (by decide);obtain⟨rQ,sm⟩:=at' 7 (by decide);obtain⟨m,hm,em⟩:=jV x0 (n:=6) (by decide);have sl:ay (.lst (xs.map D.int)) (.int 0)=.ok (.int x0):=c8;have MI:ay (.lst (xs.map D.int)) (.int 7)=.ok (.int rQ):=sm;have sr:(1:Int)+x0%6=((m+1:Nat):Int):=by have:x0%6=(m:Int):=em;omega
 simp(disch:=first|omega|(simp;done)|(simp;omega)) [rx,yr,EE,sl,sr,-Int.natCast_add];obtain⟨t,t1,ly,iI⟩:=X9 (m+1) (by omega) (by omega)
 let kR:Nat→Nat:=fun k=>(1+xs.getD (1+k) 0%(t:Int)).toNat
 have uX:∀k,1≤kR k∧kR k≤4∧1+xs.getD (1+k) 0%(t:Int)=(kR k:Int):=fun k=>by have a:=Int.emod_nonneg (xs.getD (1+k) 0) (b:=(t:Int)) (by omega);have b:=Int.emod_lt_of_pos (xs.getD (1+k) 0) (b:=(t:Int)) (by omega);show 1≤(1+xs.getD (1+k) 0%(t:Int)).toNat∧(1+xs.getD (1+k) 0%(t:Int)).toNat≤4∧_=((1+xs.getD (1+k) 0%(t:Int)).toNat:Int);omega
 have eg:∀k:Nat,k<10→ay (.lst (xs.map D.int)) (.int (1+(k:Int)))=.ok (.int (xs.getD (1+k) 0)):=fun k hk=>by
  have h:1+k<xs.length:=by omega
  have:=zP h;rw[List.getD_eq_getElem?_getD,List.getElem?_eq_getElem h];exact this
 refine pb (m+1) (fun k=>.int (kR k:Int)) (by simp[show m+1<1000000 by omega,-Int.natCast_add]) (by omega) (fun k hk=>?_) ?_
 ·simp only[List.getD_eq_getElem?_getD]at eg uX;simp[eg k (by omega),iI,show 0<t by omega,(uX k).2.2,-Int.natCast_add]
 have NA:(List.range (m+1)).map (fun k=>D.int (kR k:Int))=b0 ((List.range (m+1)).map kR):=by simp[b0]
 rw[NA];generalize F_:(List.range (m+1)).map kR=cs;have bN:cs.length=m+1:=by rw[←F_];simp
 have kQ:∀c∈cs,1≤c∧c≤4:=fun c hc=>by rw[←F_]at hc;obtain⟨k,_,rfl⟩:=List.mem_map.mp hc;exact⟨(uX k).1,(uX k).2.1⟩
 have lcs:(b0 cs).length=cs.length:=by simp[b0]
 refine pd cs.length (fun j ρ=>∃s5,ρ=[.ak (.int cell),.ak (.lst (xs.map D.int)),.ak (.int (m+1:Nat)),.ak (.lst (b0 cs)),.cE ((c3 cs j).map aO),s5,.un,.un,.un]) (by simp[lcs,show cs.length<1000000 by omega]) ⟨.un,by simp[c3]⟩ ?_ ?_
 ·rintro j _ cg ⟨s5,rfl⟩;have b7:ay (.lst (b0 cs)) (.int (j:Int))=.ok (.int (cs.getD j 0:Nat)):=jO (sh cg);have q9:=vg (fun c h=>(kQ c h).2) j;simp;refine pb (cs.getD j 0) (fun k=>aO (j,k)) (by simp only[List.getD_eq_getElem?_getD]at b7 q9;simp[b7,show cs[j]?.getD 0<1000000 by omega]) (by omega) (fun k hk=>by simp[aO]) ?_;have lV:=sa kQ j;simp only[List.getD_eq_getElem?_getD]at q9 ⊢;simp[show(c3 cs j).length+cs[j]?.getD 0≤1000000 by omega];rw[uJ];simp[gg]
  done
 ·rintro _ ⟨s5,rfl⟩;have K1:1≤(c3 cs cs.length).length:=List.length_pos_of_mem (head_mem (by omega) kQ);have K2:=sa kQ cs.length;generalize gh:(c3 cs cs.length).length=L at K1 K2;obtain⟨iq,aaw,NL⟩:=jV rQ (n:=2) (by decide);generalize hv:((L:Int)-1)/2-rQ%2=v;have aaB: -1≤v∧2*v+1≤L:=by have:rQ%2=(iq:Int):=NL;omega
  simp[eP];refine pd v.toNat (fun j ρ=>∃left ws cR tU,Lay (c3 cs cs.length) left ws∧left.length+2*j=L∧ws.length=j∧ρ=[.ak (.int cell),.ak (.lst (xs.map D.int)),.ak (.int (m+1:Nat)),.ak (.lst (b0 cs)),.cE (left.map aO),s5,.cE (ws.map dG),cR,tU]) ?_ ⟨c3 cs cs.length,[],.un,.un,⟨by simpa[ends]using Dz cs cs.length,fun d hd=>by simpa[ends]using hd⟩,by omega,rfl,rfl⟩ ?_ ?_
  ·simp(disch:=first|omega|(simp;done)|(simp;omega)) [MI,gh,hv,VN (v:=v) (by omega) (by omega)]
  ·rintro j _ cg ⟨left,ws,cR,tU,lay,h1,h2,rfl⟩;obtain⟨Kg,MJ⟩:=at' (8+2*j) (by omega);obtain⟨Kh,ML⟩:=at' (9+2*j) (by omega);obtain⟨k1,zv,NB⟩:=jV Kg (n:=left.length) (by omega);have le:(left.eraseIdx k1).length=left.length-1:=by simp[List.length_eraseIdx,zv]
   obtain⟨k2,qZ,NC⟩:=jV Kh (n:=(left.eraseIdx k1).length) (by omega);have MK:ay (.lst (xs.map D.int)) (.int (8+2*(j:Int)))=.ok (.int Kg):=by rw[←MJ];simp
   have MN:ay (.lst (xs.map D.int)) (.int (9+2*(j:Int)))=.ok (.int Kh):=by rw[←ML];simp
   have kM:=AE aO (i:=4) zv (by omega);have kN:=AE aO (i:=4) qZ (by omega);simp(disch:=first|omega|(simp;done)|(simp;omega)) [MK,MN,NB,kM,NC,kN];refine⟨_,_,lay.take zv qZ,by rw[List.length_eraseIdx,if_pos qZ,le];omega,by simp[h2],rfl,by simp[dG]⟩
  ·rintro _ ⟨left,ws,cR,tU,lay,h1,h2,rfl⟩;have nl:1≤left.length:=by omega
   simp;refine⟨cs,ws,⟨by omega,by omega,kQ,(List.nodup_append.mp lay.aU).2.1,fun d hd=>lay.sub d (List.mem_append_right _ hd),?_,by omega⟩,rfl,rfl⟩;cases left with
   |nil=>simp at nl
   |cons d r=>exact⟨d,lay.sub d (by simp),fun z=>(List.nodup_append.mp lay.aU).2.2 d (by simp) d z rfl⟩
inductive aE where
 |dA (k:Bool)
 |ac (w h:Nat)
def wS:Str:=PySem.Str.ofString "wait"
noncomputable def fM(w:Nat):Str:=if w=0 then PySem.Str.ofString "teach" else if w=1 then PySem.Str.ofString "turn" else PySem.Str.ofString "forget"
def aG:aE→D
 |.dA true=>hI
 |.dA false=>.tup [.str wS]
 |.ac w h=>.tup [.str (fM w),.int (h:Int)]
def aE.act:aE→Bool
 |.dA _=>false
 |.ac _ _=>true
def aE.ok(n:Nat):aE→Prop
 |.dA _=>True
 |.ac w h=>w<3∧h<n
def k4:aE→List Key
 |.dA _=>[]
 |.ac w h=>[.inr (fM w),.inl (h:Int)]
noncomputable def cI(cs:List Nat)(ws:List (aw×aw)):D:=.ins "Net" ["many","counts","joined","far"] [.int (cs.length:Nat),.tup (b0 cs),.tup (ws.map dG),.bK (dQ ws) (d5 ws)]
theorem tx(cs:List Nat)(ws:List (aw×aw)):eF "Net" "many" (cI cs ws)=.ok (.int (cs.length:Int)):=rfl
theorem CG(w:Nat)(h:w<3):w=0∨w=1∨w=2:=by omega
theorem Xs{cs:List Nat}{ws:List (aw×aw)}{s:aE}(h:s.ok cs.length):vR [aG s,cI cs ws]=.ok (.v (.ax true)):=by
 cases s with
 |dA k=>cases k<;>rfl
 |ac w k=>
  obtain⟨hw,hk⟩:=h;have c8:ay (aG (.ac w k)) (.int 0)=.ok (.str (fM w)):=rfl;have aq:ay (aG (.ac w k)) (.int 1)=.ok (.int k):=rfl;have l:cV [aG (.ac w k)]=.ok (.int 2):=rfl;have t1:gi "tuple" (aG (.ac w k))=.ok (.ax true):=rfl;have b2:gi "str" (.str (fM w))=.ok (.ax true):=rfl;have bk:inD false (.int 2) (.tup [.int 1,.int 2])=.ok (.ax false):=rfl;have bz:inD true (.str (fM w)) (.tup [.str (PySem.Str.ofString "teach"),.str (PySem.Str.ofString "turn"),.str (PySem.Str.ofString "forget")])=.ok (.ax true):=by rcases CG w hw with h|h|h<;>subst h<;>rfl
  simp[vR,yf,c8,aq,l,t1,b2,bk,bz,tx,uc];omega
theorem Ta(s:aE):b8 false (aG s) hI=.ok (.ax s.act)∧b8 false (aG s) (.tup [.str wS])=.ok (.ax s.act):=by
 cases s with
 |dA k=>cases k<;>exact⟨rfl,rfl⟩
 |ac w k=>
  have e:dT [.str (fM w),.int (k:Int)] [.str wS]=false:=by simp[dT]
  exact⟨by show R.ok (D.ax (!dT [.str (fM w),.int (k:Int)] [.str wS]))=_;rw[e];rfl,by show R.ok (D.ax (!dT [.str (fM w),.int (k:Int)] [.str wS]))=_;rw[e];rfl⟩
theorem YX{a b:Nat}(ha:a<3)(hb:b<3)(h:fM a=fM b):a=b:=by rcases CG a ha with h1|h1|h1<;>rcases CG b hb with h2|h2|h2<;>subst h1<;>subst h2<;>first|rfl|(exact absurd h (by decide))
theorem Rh{n:Nat}{s t:aE}(hs:s.ok n)(ht:t.ok n)(as:s.act=true)(at':t.act=true)(h:k4 s=k4 t):s=t:=by
 cases s with
 |dA k=>cases as
 |ac w k=>
  cases t with
  |dA k=>cases at'
  |ac fq k'=>
   simp only[k4,List.cons.injEq,Sum.inr.injEq,Sum.inl.injEq,and_true]at h;have:=YX hs.1 ht.1 h.1;have:k=k':=by omega
   subst_vars;rfl
theorem Hb:∀{ss:List aE},(∀s∈ss,s.act=true)→p_ (ss.map aG)=some (ss.map k4)
 |[],_=>rfl
 |s::ss,h=>by
  have bQ:=Hb (ss:=ss) fun x hx=>h x (by simp[hx]);have e:Cn (aG s)=some (k4 s):=by
   cases s with
   |dA k=>exact nomatch h (.dA k) (by simp)
   |ac w k=>rfl
  simp only[List.map_cons,p_,e,bQ]
theorem Mu{α:Type}[DecidableEq α](l:List (List α)):∀S:List (List α),S.Nodup→((l.foldl eD.kc S).length=S.length+l.length↔(S++l).Nodup)∧(l.foldl eD.kc S).length≤S.length+l.length:=by
 induction l with
 |nil=>intro S h;simp[h]
 |cons a l bQ=>
  intro S h;simp only[List.foldl_cons,List.length_cons];by_cases ha:a∈S
  ·have e:eD.kc S a=S:=by simp[eD.kc,ha]
   rw[e];have:=(bQ S h).2;refine⟨⟨fun z=>by omega,fun z=>?_⟩,by omega⟩;exact absurd ha fun q=>(List.nodup_append.mp z).2.2 a q a (by simp) rfl
  ·have e:eD.kc S a=S++[a]:=by simp[eD.kc,ha]
   rw[e];have aC:(S++[a]).Nodup:=by rw[List.nodup_append];refine⟨h,by simp,fun x hx y bX z=>?_⟩;rw[List.mem_singleton.mp bX]at z;exact ha (z▸hx)
   have:=bQ (S++[a]) aC;simp only[List.length_append,List.length_singleton,List.append_assoc,List.singleton_append]at this;rw[show S.length+(l.length+1)=S.length+1+l.length by omega];exact this
theorem Mt{α:Type}[DecidableEq α](l:List (List α)):(eD.ic l).length=l.length↔l.Nodup:=by have:=(Mu l [] List.nodup_nil).1;simpa[eD.ic]using this
structure hG(n:Nat)(ps:List aE):Prop where
 ok:∀s∈ps,s.ok n
 aU:(ps.filter aE.act).Nodup
theorem nodup_map_on{α β:Type}{f:α→β}:∀{l:List α},(∀a∈l,∀b∈l,f a=f b→a=b)→l.Nodup→(l.map f).Nodup
 |[],_,_=>List.nodup_nil
 |a::l,h,aC=>by rw[List.nodup_cons]at aC;rw[List.map_cons,List.nodup_cons];refine⟨fun z=>?_,nodup_map_on (fun x hx y bX=>h x (by simp[hx]) y (by simp[bX])) aC.2⟩;obtain⟨b,hb,e⟩:=List.mem_map.mp z;exact aC.1 (h b (by simp[hb]) a (by simp) e▸hb)
theorem HQ{α β:Type}{f:α→β}:∀{l:List α},(l.map f).Nodup→l.Nodup
 |[],_=>List.nodup_nil
 |a::l,h=>by rw[List.map_cons,List.nodup_cons]at h;rw[List.nodup_cons];exact⟨fun z=>h.1 (List.mem_map.mpr ⟨a,z,rfl⟩),HQ h.2⟩
theorem D1{α:Type}(f:α→Bool):∀l:List α,mB (l.map fun a=>D.ax (f a))=some (l.map f)
 |[]=>rfl
 |a::l=>by simp[mB,D1 f l]
theorem qF{α:Type}(f:α→Bool)(l:List α):aB.c3 [.lst (l.map fun a=>D.ax (f a))]=.ok (.ax (l.all f)):=by simp[aB.c3,D1,Function.comp_def]
theorem zN(l:List D):gi "list" (.lst l)=.ok (.ax true):=rfl
theorem UY{cs:List Nat}{ws:List (aw×aw)}{ps:List aE}(h:∀s∈ps,s.ok cs.length)(hl:ps.length≤40){c:Bool}(hc:c=true↔(ps.filter aE.act).Nodup):rr [.lst (ps.map aG),cI cs ws]=.ok (.v (.ax c)):=by
 suffices h:Ends (rr [.lst (ps.map aG),cI cs ws]) (· =.v (.ax c))by
  obtain⟨b,e,rfl⟩:=h;exact e
 simp[rr,yd,zN,qM,show¬((40:Int)<ps.length)by omega];refine mC aG ps (fun _=>.ax true) (by simp) (by omega) (fun s hs=>by simp[Xs (ws:=ws) (h s hs)]) ?_;have a:=qF (fun _=>true) ps;simp[a];refine su aG ps aE.act aG (by simp) (by omega) (fun s hs=>by simp[Ta]) (fun s _ _=>by simp) ?_;have k:=Hb (ss:=ps.filter aE.act) fun s hs=>(List.mem_filter.mp hs).2;have fl:=List.length_filter_le aE.act ps;have ls:ta [.lst ((ps.filter aE.act).map aG)]=.ok (.int (eD.ic ((ps.filter aE.act).map k4)).length):=by simp[ta,k,show(ps.filter aE.act).length<77 by omega]
 simp[ls];have q:=Mt ((ps.filter aE.act).map k4);rw[List.length_map]at q;have r:((ps.filter aE.act).map k4).Nodup↔(ps.filter aE.act).Nodup:=⟨HQ,nodup_map_on fun a ha b hb=>Rh (h a (List.mem_filter.mp ha).1) (h b (List.mem_filter.mp hb).1) (List.mem_filter.mp ha).2 (List.mem_filter.mp hb).2⟩;rw[r]at q;by_cases aC:(ps.filter aE.act).Nodup
 ·rw[hc.mpr aC,q.mpr aC];simp
 ·have:c=false:=by
    cases c with
    |true=>exact absurd (hc.mp rfl) aC
    |false=>rfl
  rw[this,beq_eq_false_iff_ne];exact fun z=>aC (q.mp (by omega))
theorem UZ{cs:List Nat}{ws:List (aw×aw)}{ps:List aE}(h:hG cs.length ps)(hl:ps.length≤40):rr [.lst (ps.map aG),cI cs ws]=.ok (.v (.ax true)):=by rw[UY h.ok hl (c:=true) ⟨fun _=>h.aU,fun _=>rfl⟩]
theorem hG.perm{n:Nat}{ps dD:List aE}(h:hG n ps)(p:List.Perm ps dD):hG n dD:=⟨fun s hs=>h.ok s (p.mem_iff.mpr hs),(p.filter _).nodup_iff.mp h.aU⟩
theorem hG.dA{n:Nat}{ps:List aE}{k:Bool}(h:hG n ps):hG n (.dA k::ps):=⟨fun s hs=>(List.mem_cons.mp hs).elim (fun e=>by rw[e];trivial) (h.ok s),by simpa[aE.act]using h.aU⟩
noncomputable def plain(n:Nat)(k:Bool):List aE:=((List.range n).map (aE.ac 0)++(List.range n).map (aE.ac 1))++[.dA k]++(List.range n).map (aE.ac 2)
theorem plain_len(n:Nat)(k:Bool):(plain n k).length=3*n+1:=by simp[plain];omega
theorem UX(n:Nat)(k:Bool):hG n (plain n k):=by
 constructor
 ·intro s hs;simp[plain]at hs;rcases hs with⟨a,h,rfl⟩|⟨a,h,rfl⟩|rfl|⟨a,h,rfl⟩
  ·exact⟨by decide,h⟩
  ·exact⟨by decide,h⟩
  ·trivial
  ·exact⟨by decide,h⟩
 ·have f:∀w:Nat,((List.range n).map (aE.ac w)).filter aE.act=(List.range n).map (aE.ac w):=fun w=>List.filter_eq_self.mpr fun s hs=>by
    obtain⟨a,_,rfl⟩:=List.mem_map.mp hs;rfl
  have aU:∀w:Nat,((List.range n).map (aE.ac w)).Nodup:=fun w=>nodup_map_on (fun a _ b _ e=>by cases e;rfl) List.nodup_range;simp only[plain,List.filter_append,f];simp only[aE.act,List.filter_cons,List.filter_nil,Bool.false_eq_true,if_false,List.append_nil];rw[List.nodup_append,List.nodup_append];refine⟨⟨aU 0,aU 1,fun a ha b hb e=>?_⟩,aU 2,fun a ha b hb e=>?_⟩
  ·obtain⟨x,_,rfl⟩:=List.mem_map.mp ha;obtain⟨y,_,rfl⟩:=List.mem_map.mp hb;cases e
  ·obtain⟨y,_,rfl⟩:=List.mem_map.mp hb;rcases List.mem_append.mp ha with ha|ha
   ·obtain⟨x,_,rfl⟩:=List.mem_map.mp ha;cases e
   ·obtain⟨x,_,rfl⟩:=List.mem_map.mp ha;cases e
def xP(c:Nat):Prop:=c=48∨c=49∨c=120
structure lH(x:Str):Prop where
 l:x.cps.toList.length=4
 s:∀c∈x.cps.toList,xP c
theorem W9{c:Nat}(h:xP c):inD true (dP c) qN=.ok (.ax true):=by rcases h with h|h|h<;>subst h<;>rfl
theorem len_str(x:Str)(h:x.cps.toList.length≤1000):cV [.str x]=.ok (.int (x.cps.toList.length:Int)):=by
 have e:x.length=x.cps.toList.length:=rfl;have az:x.length≤1000000:=by omega
 rw[←e];simp only[cV,if_pos az]
theorem QO(x:Str):gi "str" (.str x)=.ok (.ax true):=rfl
theorem QP(l:List D):gi "tuple" (.tup l)=.ok (.ax true):=rfl
theorem Y0:cV [nN]=.ok (.int 4):=rfl
theorem Ie{x:Str}(h:lH x):rq [.str x]=.ok (.v (.ax true)):=by apply Ends.done;have l:=h.l;simp[rq,yc,QO,len_str x (by omega),Y0,l];refine mC dP x.cps.toList (fun _=>.ax true) (by simp) (by omega) (fun c hc=>by simp[W9 (h.s c hc)]) ?_;have a:=qF (fun _:Nat=>true) x.cps.toList;simp only[a];simp
structure dx where
 p:Str
 a:Option Nat
 b:Option Nat
def dq:Option Nat→D
 |none=>.non
 |some k=>.int (k:Int)
def fo(r:dx):D:=.tup [.str r.p,dq r.a,dq r.b]
structure nC(c:Nat)(r:dx):Prop where
 p:lH r.p
 a:∀k,r.a=some k→k<c
 b:∀k,r.b=some k→k<c
theorem HU{c:Nat}{o:Option Nat}(h:∀k,o=some k→k<c):ob [dq o,.int (c:Int)]=.ok (.v (.ax true)):=by
 cases o with
 |none=>simp[ob,uP,dq,eX]
 |some k=>have:=h k rfl;simp[ob,uP,dq,eX,uc];omega
theorem VQ{c:Nat}{p a b:D}{h1 h2 h3:Bool}(aq:rq [p]=.ok (.v (.ax h1)))(az:ob [a,.int (c:Int)]=.ok (.v (.ax h2)))(b7:ob [b,.int (c:Int)]=.ok (.v (.ax h3))):rt [.tup [p,a,b],.int (c:Int)]=.ok (.v (.ax (h1&&h2&&h3))):=by have fk:ay (.tup [p,a,b]) (.int 0)=.ok p:=rfl;have bk:ay (.tup [p,a,b]) (.int 1)=.ok a:=rfl;have bz:ay (.tup [p,a,b]) (.int 2)=.ok b:=rfl;cases h1<;>cases h2<;>cases h3<;>simp[rt,ye,QP,fk,bk,bz,aq,az,b7]
theorem VT{c:Nat}{r:dx}(h:nC c r):rt [fo r,.int (c:Int)]=.ok (.v (.ax true)):=VQ (Ie h.p) (HU h.a) (HU h.b)
def br(b:List dx):D:=.lst (b.map fo)
structure nx(c:Nat)(b:List dx):Prop where
 l:b.length≤12
 r:∀r∈b,nC c r
theorem LI{c:Nat}{l:List D}{f:D→Bool}(hl:l.length≤12)(h:∀d∈l,rt [d,.int (c:Int)]=.ok (.v (.ax (f d)))):rp [.lst l,.int (c:Int)]=.ok (.v (.ax (l.all f))):=by apply Ends.done;simp[rp,x_,zN,qL,show¬((12:Int)<l.length)by omega];refine mC id l (fun d=>.ax (f d)) (by simp) (by omega) (fun d hd=>by simp[h d hd]) ?_;have a:=qF f l;simp[a]
theorem LK{c:Nat}{b:List dx}(h:nx c b):rp [br b,.int (c:Int)]=.ok (.v (.ax true)):=by
 have:=LI (c:=c) (l:=b.map fo) (f:=fun _=>true) (by simpa using h.l) fun d hd=>by obtain⟨r,hr,rfl⟩:=List.mem_map.mp hd;exact VT (h.r r hr)
 unfold br;rw[this];simp
theorem Ma(cs:List Nat)(ws:List (aw×aw)):eF "Net" "counts" (cI cs ws)=.ok (.tup (b0 cs)):=rfl
theorem WV(cs:List Nat)(ws:List (aw×aw)):p0 "Net" "count" (cI cs ws)=.ok (cI cs ws):=rfl
theorem Mc{cs:List Nat}{ws:List (aw×aw)}{h:Nat}(hh:h<cs.length):vO [cI cs ws,.int (h:Int)]=.ok (.v (.int (cs.getD h 0:Nat))):=by have e:ay (.tup (b0 cs)) (.int (h:Int))=.ok (.int (cs.getD h 0:Nat)):=zQ (sh hh);simp only[List.getD_eq_getElem?_getD]at e ⊢;simp[vO,x3,tx,Ma,e,hh]
theorem LL{cs:List Nat}{ws:List (aw×aw)}{l:List D}{f:D×Nat→Bool}(hl:l.length=cs.length)(h6:cs.length≤6)(h:∀p∈l.zipIdx,rp [p.1,.int (cs.getD p.2 0:Nat)]=.ok (.v (.ax (f p)))):tm [.lst l,cI cs ws]=.ok (.v (.ax (l.zipIdx.all f))):=by
 apply Ends.done;simp[tm,ya,zN,tx,hl];have qS:=yX id l;rw[List.map_id]at qS;refine nO (fun p:D×Nat=>.int (p.2:Int)) (fun p=>p.1) l.zipIdx (fun p=>.ax (f p)) (by simp only[Cv,rP,v_var,qa];simp[qS]) (by simp;omega) (fun p hp=>?_) ?_
 ·have:=(List.getElem?_eq_some_iff.mp (C6 hp)).1;have hc:=Mc (cs:=cs) (ws:=ws) (h:=p.2) (by omega);have hb:=h p hp;simp only[List.getD_eq_getElem?_getD]at hc hb;simp[WV,hc,hb]
 ·have a:=qF f l.zipIdx;simp[a]
structure j5(cs:List Nat)(bs:List (List dx)):Prop where
 l:bs.length=cs.length
 b:∀(i:Nat) b,bs[i]?=some b→nx (cs.getD i 0) b
theorem DZ{cs:List Nat}{ws:List (aw×aw)}{bs:List (List dx)}(h6:cs.length≤6)(h:j5 cs bs):tm [.lst (bs.map br),cI cs ws]=.ok (.v (.ax true)):=by
 have:=LL (ws:=ws) (l:=bs.map br) (f:=fun _=>true) (by simpa using h.l) h6 fun p hp=>by
  have e:=C6 hp;rw[List.getElem?_map]at e;cases bb:bs[p.2]? with
  |none=>rw[bb]at e;cases e
  |some b=>rw[bb]at e;rw[←Option.some.inj (show some (br b)=some p.1 from e)];exact LK (h.b _ _ bb)
 rw[this];simp
@[simp] theorem abZ(m:aP)(ρ:ao):ri m ρ=(m ρ).bind C4:=(rfl)
@[simp] theorem abO(m n:aD)(ρ:ao):te m n ρ=(m ρ).bind fun d=>match d with
  |.bK aH ds=>(n ρ).bind fun k=>match n1 k with
   |some cv=>.ok ((findD aH ds cv).getD .non)
   |none=>.bad
  |_=>.bad:=(rfl)
@[simp] theorem Cw(e:aD)(ρ:ao):hD e ρ=(e (eP ρ)).bind fun d=>.ok (.dH d):=by unfold hD;rfl
@[simp] theorem abV(m:aD)(ma:aP)(ρ:ao):lW m ma ρ=(m ρ).bind fun d=>match d with
  |.lst ds=>(ma ρ).bind fun es=>q1 (.lst ds) es
  |_=>.bad:=(rfl)
theorem Li(i:Int):vQ [.int i]=.ok (.v (.ax (decide (0≤i)&&decide (i≤15)))):=by simp[vQ,x9,uc,nM]
def fV(a w:Nat):Nat:=48+a/w%2
def pg(p:Str)(a:Nat):Bool:=(p.cps.toList.zip [8,4,2,1]).all fun q=>decide (q.1=120∨q.1=fV a q.2)
theorem Js(b:Nat)(h:b=0∨b=1):m6 [.int (b:Int)]=.ok (.str ⟨#[48+b]⟩):=by rcases h with rfl|rfl<;>rfl
theorem sign_eq(c d:Nat):bu (.str ⟨#[d]⟩) (dP c)=decide (c=d):=by show bu (.str ⟨#[d]⟩) (.str ⟨#[c]⟩)=_;simp only[bu];rw[Bool.eq_iff_iff,beq_iff_eq,decide_eq_true_iff];simp;exact eq_comm
theorem Jt:PySem.Str.ofString "x"=⟨#[120]⟩:=by decide
theorem Qz(c d:Nat):inD true (dP c) (.tup [.str (PySem.Str.ofString "x"),.str ⟨#[d]⟩])=.ok (.ax (decide (c=120∨c=d))):=by have o:okN 7 (dP c)=true:=rfl;have cA:okN 7 (.str (PySem.Str.ofString "x"))=true:=rfl;have b3:okN 7 (.str ⟨#[d]⟩)=true:=rfl;have s:oq (.tup [.str (PySem.Str.ofString "x"),.str ⟨#[d]⟩])=some [.str (PySem.Str.ofString "x"),.str ⟨#[d]⟩]:=rfl;simp only[inD,s,o,cA,b3,List.all_cons,List.all_nil,Bool.and_true,and_self,if_true,List.any_cons,List.any_nil,Bool.or_false];rw[Jt,sign_eq,sign_eq];simp
theorem Ob{p:Str}(hp:lH p){a:Nat}(ha:a<16):pJ [.str p,.int (a:Int)]=.ok (.v (.ax (pg p a))):=by
 apply Ends.done;have l:=hp.l;simp[pJ,x7,Ie hp,Li,show(a:Int)≤15 by omega];refine nO (fun q:Nat×Nat=>dP q.1) (fun q=>.int (q.2:Int)) (p.cps.toList.zip [8,4,2,1]) (fun q=>.ax (decide (q.1=120∨q.1=fV a q.2))) ?_ (by simp;omega) (fun q aJ=>?_) ?_
 ·show R.ok (ql p.cps.toList [.int 8,.int 4,.int 2,.int 1])=_;unfold ql;rw[show([.int 8,.int 4,.int 2,.int 1]:List D)=([8,4,2,1]:List Nat).map fun(n:Nat)=>D.int (n:Int)from rfl,List.zip_map_right,List.map_map];rfl
 ·have hw:q.2=8∨q.2=4∨q.2=2∨q.2=1:=by
    have:=(List.of_mem_zip (show(q.1,q.2)∈_ from aJ)).2;simpa using this
  have eQ:m6 [.int ((a:Int)/(q.2:Int)%2)]=.ok (.str ⟨#[48+a/q.2%2]⟩):=by have:=Js (a/q.2%2) (by omega);rw[←this];simp
  simp(disch:=first|omega|(simp;done)|(simp;omega)) [eQ,Qz,fV];rw[Bool.eq_iff_iff];simp;exact decide_eq_true_iff.symm
 ·have al:=qF (fun q:Nat×Nat=>decide (q.1=120∨q.1=fV a q.2)) (p.cps.toList.zip [8,4,2,1]);simp only[al];simp[pg]
def mt(d a:Nat)(r:dx):Bool:=(r.a.isNone||r.a==some d)&&pg r.p a
theorem GZ(o:Option Nat):eX (dq o)=o.isNone:=by cases o<;>rfl
theorem EC(o:Option Nat)(d:Nat):b8 true (dq o) (.int (d:Int))=.ok (.ax (o==some d)):=by
 cases o with
 |none=>rfl
 |some k=>
  show R.ok (D.ax ((k:Int)==(d:Int)))=_
  congr 2
  rw[Bool.eq_iff_iff];simp;omega
theorem ub(mi:aP)(set:D→ao→R ao)(body:a0)(ρ:ao):d3 mi set body ρ=(mi ρ).bind fun ds=>e9 set body ds ρ:=(rfl)
noncomputable def iW(d a:Nat):Nat→List dx→Option Nat
 |_,[]=>none
 |i,r::rs=>if mt d a r=true then some i else iW d a (i+1) rs
theorem JV{d a:Nat}(ha:a<16):∀(rs:List dx)(i:Nat)(s0 s3 s4:cO),(∀r∈rs,lH r.p)→
  Ends ((e9 (eI [a8 3,a8 4]) (ck (jQ (eZ (aW (ag (eh true) (ag ay (J 4) (aj (.int 1))) (aj .non))) (aW (ag (b8 true) (ag ay (J 4) (aj (.int 1))) (J 1)))) (aW (bR 2 pJ (ae (ag ay (J 4) (aj (.int 0))) (ae (J 2) (ar)))))) (bU (J 3)) (cw)) ((rs.zipIdx i).map fun p=>.tup [.int (p.2:Int),fo p.1]) [s0,.ak (.int (d:Int)),.ak (.int (a:Int)),s3,s4]).bind (gC (bU (aj .non)))) (· =.dH (dq (iW d a i rs)))
 |[],i,s0,s3,s4,_=>by simp[iW,dq]
 |r::rs,i,s0,s3,s4,h=>by
  have fk:ay (fo r) (.int 0)=.ok (.str r.p):=rfl;have bk:ay (fo r) (.int 1)=.ok (dq r.a):=rfl;have bQ:=JV (d:=d) ha rs (i+1) s0 (.ak (.int (i:Int))) (.ak (fo r)) fun x hx=>h x (List.mem_cons_of_mem _ hx);have f:=Ob (h r List.mem_cons_self) ha;have bd:(ck (jQ (eZ (aW (ag (eh true) (ag ay (J 4) (aj (.int 1))) (aj .non))) (aW (ag (b8 true) (ag ay (J 4) (aj (.int 1))) (J 1)))) (aW (bR 2 pJ (ae (ag ay (J 4) (aj (.int 0))) (ae (J 2) (ar)))))) (bU (J 3)) (cw)) [s0,.ak (.int (d:Int)),.ak (.int (a:Int)),.ak (.int (i:Int)),.ak (fo r)]=if mt d a r=true then .ok (.dH (.int (i:Int)))else .ok (.bq [s0,.ak (.int (d:Int)),.ak (.int (a:Int)),.ak (.int (i:Int)),.ak (fo r)]):=by unfold mt;have aS:=GZ r.a;have bl:=EC r.a d;generalize r.a.isNone=d_ at aS ⊢;generalize(r.a==some d)=dg at bl ⊢;generalize pg r.p a=oY at f ⊢;cases d_<;>cases dg<;>cases oY<;>simp[fk,bk,aS,bl,f]
  rw[List.zipIdx_cons,List.map_cons,e9];simp only[W3,WX,WY,YE,List.length_cons,List.length_nil,df];simp only[show(3:Nat)<0+1+1+1+1+1 by decide,if_true,df,List.set_cons_succ,List.set_cons_zero,List.length_cons,List.length_nil,show(4:Nat)<0+1+1+1+1+1 by decide,bd];cases hm:mt d a r with
  |true=>simp[iW,hm,dq]
  |false=>simp only[Bool.false_eq_true,if_false,df,iW,hm];exact bQ
theorem X_{b:List dx}(hb:∀r∈b,lH r.p)(d a:Nat)(ha:a<16):vX [br b,.int (d:Int),.int (a:Int)]=.ok (.v (dq (iW d a 0 b))):=by apply Ends.done;have e:pe [br b]=.ok (b.zipIdx.map fun p=>.tup [.int (p.2:Int),fo p.1]):=yX fo b;have k:=JV (d:=d) ha b 0 (.ak (br b)) .un .un hb;obtain⟨f,hf,rfl⟩:=k;simp only[vX,ua,yD,l5,ub,Cv,rP,v_var,qa];have z:wy (kY 5 [br b,.int (d:Int),.int (a:Int)])[0]?=.ok (br b):=rfl;simp only[z,df,e];have aZ:kY 5 [br b,.int (d:Int),.int (a:Int)]=[.ak (br b),.ak (.int (d:Int)),.ak (.int (a:Int)),.un,.un]:=rfl;rw[aZ,hf];simp
def st(s:String):D:=.str (PySem.Str.ofString s)
inductive On where
 |drop|out (o:Nat)|to (e:aw)
def pairsOf(ws:List (aw×aw)):List (aw×aw):=ws.flatMap fun w=>[(w.1,w.2),(w.2,w.1)]
def gX(ws:List (aw×aw))(d:aw):Option aw:=((pairsOf ws).find? fun p=>decide (p.1=d)).map (·.2)
theorem KJ:∀ws:List (aw×aw),(dQ ws).zip (d5 ws)=(pairsOf ws).map fun p=>(hC p.1,aO p.2)
 |[]=>rfl
 |w::ws=>by
  have bQ:=KJ ws;have aq:dQ (w::ws)=hC w.1::hC w.2::dQ ws:=by simp[dQ,ends]
  have az:d5 (w::ws)=aO w.2::aO w.1::d5 ws:=by simp[d5]
  have b7:pairsOf (w::ws)=(w.1,w.2)::(w.2,w.1)::pairsOf ws:=by simp[pairsOf]
  rw[aq,az,b7,List.zip_cons_cons,List.zip_cons_cons,bQ];rfl
theorem Oa(ps:List (aw×aw))(d:aw):((ps.map fun p=>(hC p.1,aO p.2)).find? fun p=>decide (p.1=hC d))=(ps.find? fun p=>decide (p.1=d)).map fun p=>(hC p.1,aO p.2):=by
 induction ps with
 |nil=>rfl
 |cons p ps bQ=>
  rw[List.map_cons,List.find?_cons,List.find?_cons];by_cases h:p.1=d
  ·simp[h]
  ·have:hC p.1≠hC d:=fun z=>h (zV z);simp[h,this,bQ]
theorem N_(ws:List (aw×aw))(d:aw):findD (dQ ws) (d5 ws) (hC d)=(gX ws d).map aO:=by unfold findD gX;rw[KJ,Oa,Option.map_map,Option.map_map];rfl
theorem DS{ws:List (aw×aw)}{d e:aw}(h:gX ws d=some e):e∈ends ws:=by
 unfold gX at h;obtain⟨p,hp,rfl⟩:=Option.map_eq_some_iff.mp h;have hm:=List.mem_of_find?_eq_some hp;unfold pairsOf at hm;obtain⟨w,hw,bj⟩:=List.mem_flatMap.mp hm;have Gd:∀x,x=w.1∨x=w.2→x∈ends ws:=fun x hx=>List.mem_flatten.mpr ⟨[w.1,w.2],List.mem_map.mpr ⟨w,hw,rfl⟩,by simpa using hx⟩;simp only[List.mem_cons,List.not_mem_nil,or_false]at bj;rcases bj with rfl|rfl
 ·exact Gd _ (.inr rfl)
 ·exact Gd _ (.inl rfl)
noncomputable def gN(h:Nat):On→D
 |.drop=>.tup [st "drop",.int (h:Int)]
 |.out o=>.tup [st "out",.int (h:Int),.int (o:Int)]
 |.to e=>.tup [st "at",.int (e.1:Int),.int (e.2:Int)]
noncomputable def bq(ws:List (aw×aw))(b:List dx)(h d a:Nat):On:=match iW d a 0 b with
 |none=>.drop
 |some i=>match(b[i]?).bind (·.b)with
  |none=>.drop
  |some o=>match gX ws (h,o)with
   |none=>.out o
   |some e=>.to e
theorem JT{d a:Nat}:∀(rs:List dx)(i k:Nat),iW d a i rs=some k→i≤k∧k<i+rs.length
 |[],_,_,h=>by simp[iW]at h
 |r::rs,i,k,h=>by
  simp only[iW]at h
  split at h
  ·cases h;simp
  ·have:=JT rs (i+1) k h;simp;omega
theorem N6(cs:List Nat)(ws:List (aw×aw)):eF "Net" "far" (cI cs ws)=.ok (.bK (dQ ws) (d5 ws)):=rfl
theorem I_(cs:List Nat)(ws:List (aw×aw)):p0 "Net" "beyond" (cI cs ws)=.ok (cI cs ws):=rfl
theorem LA(cs:List Nat)(ws:List (aw×aw))(d:aw):ti [cI cs ws,aO d]=.ok (.v (((gX ws d).map aO).getD .non)):=by simp[ti,x2,N6,q7,N_]
theorem TX{cs:List Nat}{ws:List (aw×aw)}{b:List dx}(hb:∀r∈b,lH r.p)(h d a:Nat)(ha:a<16):mS [cI cs ws,br b,aO (h,d),.int (a:Int)]=.ok (.v (gN h (bq ws b h d a))):=by
 have fk:ay (aO (h,d)) (.int 0)=.ok (.int (h:Int)):=rfl;have bk:ay (aO (h,d)) (.int 1)=.ok (.int (d:Int)):=rfl;have cX:=X_ hb d a ha;have LH:∀o:Nat,ti [cI cs ws,.tup [.int (h:Int),.int (o:Int)]]=.ok (.v (((gX ws (h,o)).map aO).getD .non)):=fun o=>LA cs ws (h,o);have od:eX .non=true:=rfl;have da:∀i,eX (.int i)=false:=fun _=>rfl;unfold bq;cases e:iW d a 0 b with
 |none=>simp[mS,qI,fk,bk,cX,e,dq,od,da,gN,st]
 |some i=>
  have hi:=JT b 0 i e;have Gf:i<b.length:=by omega
  have kX:ay (br b) (.int (i:Int))=.ok (fo b[i]):=jO (by simp[Gf]);have bz:ay (fo b[i]) (.int 2)=.ok (dq b[i].b):=rfl;simp only[List.getElem?_eq_getElem Gf,Option.bind_some];cases bb:b[i].b with
  |none=>simp[mS,qI,fk,bk,cX,e,dq,od,da,gN,st,kX,bz,bb]
  |some o=>
   have uV:=LH o;cases dB:gX ws (h,o)with
   |none=>rw[dB]at uV;simp[mS,qI,fk,bk,cX,e,dq,od,da,gN,st,kX,bz,bb,I_,uV,dB]
   |some f=>rw[dB]at uV;have f0:ay (aO f) (.int 0)=.ok (.int (f.1:Int)):=rfl;have f1:ay (aO f) (.int 1)=.ok (.int (f.2:Int)):=rfl;have g8:eX (aO f)=false:=rfl;simp[mS,qI,fk,bk,cX,e,dq,od,da,gN,st,kX,bz,bb,I_,uV,dB,f0,f1,g8]
inductive ml where
 |drop (h:Nat)|out (h o:Nat)|ring (d:aw)
noncomputable def walk(N:aw→On):Nat→List aw→aw→Option (List aw×ml)
 |0,_,_=>none
 |n+1,ds,d=>if d∈ds then some (ds,.ring d)else match N d with
  |.to e=>walk N n (ds++[d]) e
  |.drop=>some (ds++[d],.drop d.1)
  |.out o=>some (ds++[d],.out d.1 o)
theorem Kb{N:aw→On}{A:List aw}(kg:A.length<100)(cl:∀d∈A,∀e,N d=.to e→e∈A):∀(n:Nat)(ds:List aw)(d:aw),ds.Nodup→(∀x∈ds,x∈A)→d∈A→101≤n+ds.length→∃r,walk N n ds d=some r
 |0,ds,d,aU,eQ,_,h=>by have:=List.Nodup.length_le_of_subset aU eQ;omega
 |n+1,ds,d,aU,eQ,hd,h=>by
  simp only[walk];by_cases hm:d∈ds
  ·rw[if_pos hm];exact⟨_,rfl⟩
  ·rw[if_neg hm];cases e:N d with
   |drop=>exact⟨_,rfl⟩
   |out o=>exact⟨_,rfl⟩
   |to f=>
    have S7:(ds++[d]).Nodup:=List.nodup_append.mpr ⟨aU,by simp,fun x hx y bX z=>hm (by rw[←List.mem_singleton.mp bX,←z];exact hx)⟩;have Ws:∀x∈ds++[d],x∈A:=fun x hx=>by
     rcases List.mem_append.mp hx with h|h
     ·exact eQ x h
     ·rw[List.mem_singleton.mp h];exact hd
    exact Kb kg cl n (ds++[d]) f S7 Ws (cl d hd f e) (by simp;omega)
theorem u3(a b:aw):bu (aO a) (aO b)=decide (a=b):=by
 show(((a.1:Int)==(b.1:Int))&&(((a.2:Int)==(b.2:Int))&&true))=_;rw[Bool.and_true,Bool.eq_iff_iff,Bool.and_eq_true,beq_iff_eq,beq_iff_eq,decide_eq_true_iff];constructor
 ·intro⟨h1,h2⟩;exact Prod.ext (by omega) (by omega)
 ·rintro rfl;exact⟨rfl,rfl⟩
theorem En(ds:List aw):(ds.map aO).all (okN 7)=true:=by rw[List.all_map,List.all_eq_true];intro d _;rfl
theorem Lo(ds:List aw)(d:aw):((ds.map aO).any fun y=>bu y (aO d))=decide (d∈ds):=by
 rw[List.any_map,Bool.eq_iff_iff,List.any_eq_true,decide_eq_true_iff];constructor
 ·rintro⟨x,hx,h⟩;have:=(u3 x d).symm.trans h;rw[decide_eq_true_iff]at this;rw[←this];exact hx
 ·intro h;exact⟨d,h,by show bu (aO d) (aO d)=true;rw[u3];simp⟩
theorem Aj{m1 m2:aD}{ρ:ao}{ds:List aw}{d:aw}(h1:m1 ρ=.ok (aO d))(h2:m2 ρ=.ok (.lst (ds.map aO))):aW (ag (inD false) m1 m2) ρ=.ok (!decide (d∈ds)):=by refine rd (uU h1 h2 ?_);have s:oq (.lst (ds.map aO))=some (ds.map aO):=rfl;have o:okN 7 (aO d)=true:=rfl;simp only[inD,s,En,o,and_self,if_true,Lo];rfl
def idx(ds:List aw)(d:aw):Nat:=(ds.findIdx? fun x=>decide (x=d)).getD 0
theorem GU{m1 m2:aD}{ρ:ao}{ds:List aw}{d:aw}(h2:m2 ρ=.ok (.lst (ds.map aO)))(h1:m1 ρ=.ok (aO d))(hm:d∈ds)(hl:ds.length<1000):lW m2 (ae m1 ar) ρ=.ok (.int (idx ds d:Nat)):=by
 have f:(ds.map aO).findIdx? (fun z=>bu z (aO d))=ds.findIdx? (fun x=>decide (x=d)):=by
  rw[List.findIdx?_map]
  congr 1
  funext x
  exact u3 x d
 have g:∃j,ds.findIdx? (fun x=>decide (x=d))=some j:=by
  cases e:ds.findIdx? (fun x=>decide (x=d))with
  |some j=>exact⟨j,rfl⟩
  |none=>exact absurd (List.findIdx?_eq_none_iff.mp e d hm) (by simp)
 obtain⟨j,g⟩:=g;have o:okN 7 (aO d)=true:=rfl;have l:(ds.map aO).length<1000000:=by rw[List.length_map];omega
 rw[lW,h2,fv];simp only[show ae m1 ar ρ=.ok [aO d]by simp[h1],fv,q1,o,En,l,and_self,if_true,f,g,idx,Option.getD_some]
noncomputable def pa(ds:List aw):ml→D
 |.drop h=>.tup [st "drop",.int (h:Nat)]
 |.out h o=>.tup [st "out",.int (h:Nat),.int (o:Nat)]
 |.ring d=>.tup [st "ring",.int (idx ds d:Nat)]
def jn(r:List aw×ml):D:=.tup [.lst (r.1.map aO),pa r.1 r.2]
def xc:b4:=iP (aW (ag (inD false) (J 2) (J 4)))
noncomputable def ud:a0:=(aR (g7 4 (J 2))
    (aR (cp 5 (bR 4 mS (ae (J 0) (ae (ag ay (J 1) (ag ay (J 2) (aj (.int 0)))) (ae (J 2) (ae (J 3) (ar)))))))
    (aR (ck (aW (ag (b8 false) (ag ay (J 5) (aj (.int 0))) (aj (.str (PySem.Str.ofString "at"))))) (hD (cD (ae (J 4) (ae (J 5) (ar))))) (cw))
    (cp 2 (cD (ae (ag ay (J 5) (aj (.int 1))) (ae (ag ay (J 5) (aj (.int 2))) (ar))))))))
noncomputable def xd:a0:=(hD (cD (ae (J 4) (ae (cD (ae (aj (.str (PySem.Str.ofString "ring"))) (ae (lW (J 4) (ae (J 2) (ar))) (ar)))) (ar)))))
noncomputable def mx(X Y:D)(d:aw)(a:Nat)(ds:List aw)(s5:cO):ao:=[.ak X,.ak Y,.ak (aO d),.ak (.int (a:Int)),.cE (ds.map aO),s5]
theorem Ke(X Y:D)(d:aw)(a:Nat)(ds:List aw)(s5:cO):xc (mx X Y d a ds s5)=.ok (!decide (d∈ds)):=Aj rfl rfl
structure j3(cs:List Nat)(bs:List (List dx)):Prop where
 l:bs.length=cs.length
 p:∀b∈bs,∀r∈b,lH r.p
def hX(ws:List (aw×aw))(bs:List (List dx))(a:Nat)(d:aw):On:=bq ws (bs.getD d.1 []) d.1 d.2 a
theorem HJ(s:String)(h:(PySem.Str.ofString s==PySem.Str.ofString "at")=false):b8 false (st s) (.str (PySem.Str.ofString "at"))=.ok (.ax true):=by show R.ok (D.ax (!(PySem.Str.ofString s==PySem.Str.ofString "at")))=_;rw[h];rfl
theorem YZ{cs:List Nat}{ws:List (aw×aw)}{bs:List (List dx)}(hb:j3 cs bs){d:aw}(hd:d.1<cs.length){a:Nat}(ha:a<16)(ds:List aw)(hl:ds.length<1000)(s5:cO) :
  ud (mx (cI cs ws) (.lst (bs.map br)) d a ds s5)=match hX ws bs a d with
   |.to e=>.ok (.bq (mx (cI cs ws) (.lst (bs.map br)) e a (ds++[d]) (.ak (gN d.1 (.to e)))))
   |o=>.ok (.dH (.tup [.lst ((ds++[d]).map aO),gN d.1 o])):=by
 have fk:ay (aO d) (.int 0)=.ok (.int (d.1:Int)):=rfl;have hP:d.1<bs.length:=by rw[hb.l];exact hd
 have eg:bs.getD d.1 []=bs[d.1]:=by simp[hP]
 have kX:ay (.lst (bs.map br)) (.int (d.1:Int))=.ok (br (bs.getD d.1 [])):=by rw[eg];exact jO (by simp[hP])
 have on:=TX (cs:=cs) (ws:=ws) (b:=bs.getD d.1 []) (fun r hr=>hb.p bs[d.1] (List.getElem_mem _) r (by rw[←eg];exact hr)) d.1 d.2 a ha;have Aq:mS [cI cs ws,br (bs.getD d.1 []),aO d,.int (a:Int)]=.ok (.v (gN d.1 (hX ws bs a d))):=on;have lV:(ds.map aO).length<1000000:=by simp;omega
 generalize bs.getD d.1 []=oZ at*;generalize hX ws bs a d=o at*;simp only[ud,mx];cases o with
 |drop=>have c8:ay (gN d.1 .drop) (.int 0)=.ok (st "drop"):=rfl;have n:=HJ "drop" (by decide);simp(disch:=first|omega|(simp;done)|(simp;omega)) [fk,kX,Aq,c8,n]
 |out o=>have c8:ay (gN d.1 (.out o)) (.int 0)=.ok (st "out"):=rfl;have n:=HJ "out" (by decide);simp(disch:=first|omega|(simp;done)|(simp;omega)) [fk,kX,Aq,c8,n]
 |to e=>have c8:ay (gN d.1 (.to e)) (.int 0)=.ok (st "at"):=rfl;have aq:ay (gN d.1 (.to e)) (.int 1)=.ok (.int (e.1:Int)):=rfl;have az:ay (gN d.1 (.to e)) (.int 2)=.ok (.int (e.2:Int)):=rfl;have n:b8 false (st "at") (.str (PySem.Str.ofString "at"))=.ok (.ax false):=rfl;simp(disch:=first|omega|(simp;done)|(simp;omega)) [fk,kX,Aq,c8,aq,az,n];rfl
theorem Kf{cs:List Nat}{ws:List (aw×aw)}{bs:List (List dx)}(cx:gH cs ws)(hb:j3 cs bs){a:Nat}(ha:a<16):∀(n:Nat)(ds:List aw)(d:aw)(s5:cO)(r:List aw×ml),d.1<cs.length→ds.length+n<1001→walk (hX ws bs a) n ds d=some r→
  (js xc ud n (mx (cI cs ws) (.lst (bs.map br)) d a ds s5)).bind (gC xd)=.ok (.dH (jn r))
 |0,ds,d,s5,r,_,_,h=>by simp[walk]at h
 |n+1,ds,d,s5,r,hd,hl,h=>by
  simp only[walk]at h;by_cases hm:d∈ds
  ·rw[if_pos hm]at h;obtain rfl:=Option.some.inj h;rw[js,Ke,df,decide_eq_true hm];have i:=GU (m1:=J 2) (m2:=J 4) (ρ:=eP (mx (cI cs ws) (.lst (bs.map br)) d a ds s5)) (ds:=ds) (d:=d) rfl rfl hm (by omega);have v4:J 4 (eP (mx (cI cs ws) (.lst (bs.map br)) d a ds s5))=.ok (.lst (ds.map aO)):=rfl;simp only[Bool.not_true,Bool.false_eq_true,if_false,df,p3];simp only[xd,Cw,J4,rP,qa,Cu,i,v4,df,rO,List.length_cons,List.length_nil];simp[jn,pa,st]
  ·rw[if_neg hm]at h;rw[js,Ke,df,decide_eq_false hm];have b:=YZ (ws:=ws) hb hd ha ds (by omega) s5;simp only[Bool.not_false,if_true,b];cases e:hX ws bs a d with
   |drop=>rw[e]at h;obtain rfl:=Option.some.inj h;simp[jn,pa,gN]
   |out o=>rw[e]at h;obtain rfl:=Option.some.inj h;simp[jn,pa,gN]
   |to f=>
    rw[e]at h;simp only[df];have hf:f∈ends ws:=by
     unfold hX bq at e
     split at e
     ·cases e
     ·split at e
      ·cases e
      ·split at e
       ·cases e
       ·rename_i dB;cases e;exact DS dB
    exact Kf cx hb ha n (ds++[d]) f _ r (kr.mp (cx.sub f hf)).1 (by simp;omega) h
theorem Al{cs:List Nat}{ws:List (aw×aw)}{bs:List (List dx)}{a:Nat}(cx:gH cs ws){d f:aw}(e:hX ws bs a d=.to f):f∈c3 cs cs.length:=by
 unfold hX bq at e
 split at e
 ·cases e
 ·split at e
  ·cases e
  ·split at e
   ·cases e
   ·rename_i dB;cases e;exact cx.sub _ (DS dB)
theorem CF{cs:List Nat}{ws:List (aw×aw)}{bs:List (List dx)}(cx:gH cs ws)(hb:j3 cs bs){a:Nat}(ha:a<16){d:aw}(hd:d∈c3 cs cs.length):∃r,walk (hX ws bs a) 1000 [] d=some r∧tw [cI cs ws,.lst (bs.map br),aO d,.int (a:Int)]=.ok (.v (jn r)):=by have kg:=sa cx.c cs.length;have h6:=cx.h6;obtain⟨r,hr⟩:=Kb (N:=hX ws bs a) (A:=c3 cs cs.length) (by omega) (fun d _ e he=>Al cx he) 1000 [] d List.nodup_nil (by simp) hd (by simp);refine⟨r,hr,?_⟩;have k:=Kf cx hb ha 1000 [] d .un r (kr.mp hd).1 (by simp) hr;have z:tw [cI cs ws,.lst (bs.map br),aO d,.int (a:Int)]=(aR (ez 4 (dz ar)) (aR (kq xc ud) xd) [.ak (cI cs ws),.ak (.lst (bs.map br)),.ak (aO d),.ak (.int (a:Int)),.un,.un]).bind outD:=rfl;rw[z];simp only[l5,YD,YC,qa,df];have z2:lim []=.ok []:=rfl;simp only[z2,df];have aZ:(kq xc ud (mx (cI cs ws) (.lst (bs.map br)) d a [] .un)).bind (gC xd)=.ok (.dH (jn r)):=k;have ju:([.ak (cI cs ws),.ak (.lst (bs.map br)),.ak (aO d),.ak (.int (a:Int)),.un,.un]:ao).set 4 (.cE [])=mx (cI cs ws) (.lst (bs.map br)) d a [] .un:=rfl;simp only[show(4:Nat)<([.ak (cI cs ws),.ak (.lst (bs.map br)),.ak (aO d),.ak (.int (a:Int)),.un,.un]:ao).length from(by simp),if_true,df,p3,l5,ju,aZ];rfl
@[simp] theorem ab1(sep:Str)(m:aP)(ρ:ao):tg sep m ρ=(m ρ).bind (vG sep):=(rfl)
theorem G6(a b c d:Nat):vG (PySem.Str.ofString "") [.lst [dP a,dP b,dP c,dP d]]=.ok (.str ⟨#[a,b,c,d]⟩):=rfl
theorem wm(y:Int):∃c,xP c∧ay (.str (PySem.Str.ofString "01xxx")) (.int (y%5))=.ok (dP c):=by
 have h:y%5=0∨y%5=1∨y%5=2∨y%5=3∨y%5=4:=by omega
 rcases h with h|h|h|h|h<;>rw[h]
 ·exact⟨48,.inl rfl,rfl⟩
 ·exact⟨49,.inr (.inl rfl),rfl⟩
 ·exact⟨120,.inr (.inr rfl),rfl⟩
 ·exact⟨120,.inr (.inr rfl),rfl⟩
 ·exact⟨120,.inr (.inr rfl),rfl⟩
theorem VR(ys:List Int)(bX:ys.length=8)(c:Nat)(hc:1≤c):∃r,nC c r∧pO [.lst (ys.map D.int),.int (c:Int)]=.ok (.v (fo r)):=by
 suffices h:Ends (pO [.lst (ys.map D.int),.int (c:Int)]) fun b=>∃r,nC c r∧b=.v (fo r)by
  obtain⟨b,e,r,h,rfl⟩:=h;exact⟨r,h,e⟩
 match ys,bX with
 |[oH,fD,f7,hn,ix,l8,l9,l_],_=>
 obtain⟨jb,h0,c8⟩:=wm oH;obtain⟨bN,h1,aq⟩:=wm fD;obtain⟨cZ,h2,az⟩:=wm f7;obtain⟨eN,h3,b7⟩:=wm hn;have l1:mY [.int 4]=.ok (fg 0 4):=rfl
 let kR:Nat→Nat:=fun k=>if k=0 then jb else if k=1 then bN else if k=2 then cZ else eN
 have q3:∀k:Nat,k<4→∃y,ay (.lst (([oH,fD,f7,hn,ix,l8,l9,l_]:List Int).map D.int)) (.int (k:Int))=.ok (.int y)∧ay (.str (PySem.Str.ofString "01xxx")) (.int (y%5))=.ok (dP (kR k)):=fun k hk=>by
  have:k=0∨k=1∨k=2∨k=3:=by omega
  rcases this with rfl|rfl|rfl|rfl
  ·exact⟨oH,rfl,c8⟩
  ·exact⟨fD,rfl,aq⟩
  ·exact⟨f7,rfl,az⟩
  ·exact⟨hn,rfl,b7⟩
 have Gw:ay (.lst (([oH,fD,f7,hn,ix,l8,l9,l_]:List Int).map D.int)) (.int 4)=.ok (.int ix):=rfl;have Gx:ay (.lst (([oH,fD,f7,hn,ix,l8,l9,l_]:List Int).map D.int)) (.int 5)=.ok (.int l8):=rfl;have Gy:ay (.lst (([oH,fD,f7,hn,ix,l8,l9,l_]:List Int).map D.int)) (.int 6)=.ok (.int l9):=rfl;have Gz:ay (.lst (([oH,fD,f7,hn,ix,l8,l9,l_]:List Int).map D.int)) (.int 7)=.ok (.int l_):=rfl;generalize([oH,fD,f7,hn,ix,l8,l9,l_]:List Int).map D.int=Y at q3 Gw Gx Gy Gz ⊢;simp[pO,yx];refine pb 4 (fun k=>dP (kR k)) (by simp[l1]) (by omega) (fun k hk=>?_) ?_
 ·obtain⟨y,aS,bl⟩:=q3 k hk;simp[aS,bl]
 have c_:(List.range 4).map (fun k=>dP (kR k))=[dP jb,dP bN,dP cZ,dP eN]:=rfl;rw[c_];obtain⟨aS,Pp,eq1⟩:=jV l8 (n:=c) (by omega);obtain⟨bl,vv,eq2⟩:=jV l_ (n:=c) (by omega);have e2:∃o:Option Nat,(∀k,o=some k→k<c)∧ay (.lst [.non,.non,.non,.int (aS:Int)]) (.int (ix%4))=.ok (dq o):=by
  have h:ix%4=0∨ix%4=1∨ix%4=2∨ix%4=3:=by omega
  rcases h with h|h|h|h<;>rw[h]
  ·exact⟨none,(fun _ z=>nomatch z),rfl⟩
  ·exact⟨none,(fun _ z=>nomatch z),rfl⟩
  ·exact⟨none,(fun _ z=>nomatch z),rfl⟩
  ·exact⟨some aS,(fun k z=>by cases z;exact Pp),rfl⟩
 have cc:∃o:Option Nat,(∀k,o=some k→k<c)∧ay (.lst [.int (bl:Int),.non]) (.int (l9%7/6))=.ok (dq o):=by
  have h:l9%7/6=0∨l9%7/6=1:=by omega
  rcases h with h|h<;>rw[h]
  ·exact⟨some bl,(fun k z=>by cases z;exact vv),rfl⟩
  ·exact⟨none,(fun _ z=>nomatch z),rfl⟩
 obtain⟨cA,g1,bg⟩:=e2;obtain⟨b3,g2,aZ⟩:=cc;simp(disch:=first|omega|(simp;done)|(simp;omega)) [G6,Gw,Gx,Gy,Gz,eq1,eq2,bg,aZ];refine⟨⟨⟨#[jb,bN,cZ,eN]⟩,cA,b3⟩,⟨⟨rfl,fun d hd=>?_⟩,g1,g2⟩,rfl⟩;have hd:d∈[jb,bN,cZ,eN]:=hd;simp at hd;rcases hd with rfl|rfl|rfl|rfl<;>assumption
theorem u4{ys:List Int}{k:Nat}(h:k<ys.length):ay (.lst (ys.map D.int)) (.int (k:Int))=.ok (.int ys[k]):=jO (by simp[h])
theorem Mf{α:Type}(xs:List α)(a b:Nat):ef xs (some (a:Int)) (some (b:Int))=(xs.drop (min a xs.length)).take (min b xs.length-min a xs.length):=by unfold ef;rw[d6.wA,d6.wA]
theorem KI{c q:Nat}(aJ:q<c):nC c ⟨PySem.Str.ofString "xxxx",none,some q⟩:=⟨⟨show(PySem.Str.ofString "xxxx").cps.toList.length=4 by decide,fun d hd=>by have:d∈[120,120,120,120]:=hd;simp at this;exact .inr (.inr this)⟩,(fun _ z=>nomatch z),(fun k z=>by cases z;exact aJ)⟩
theorem LJ(cell:Int)(c:Nat)(hc:1≤c):∃b,nx c b∧pM [.int cell,.int (c:Int)]=.ok (.v (br b)):=by
 suffices h:Ends (pM [.int cell,.int (c:Int)]) fun x=>∃b,nx c b∧x=.v (br b)by
  obtain⟨b,e,r,h,rfl⟩:=h;exact⟨r,h,e⟩
 obtain⟨ys,hl,ek⟩:=yL cell 104 (by decide);have yT:mR [.int cell,.int 104]=.ok (.o (ys.map D.int)):=ek;have gV:ay (.lst (ys.map D.int)) (.int 0)=.ok (.int ys[0]):=u4 (k:=0) (by omega);have a1:ay (.lst (ys.map D.int)) (.int 1)=.ok (.int ys[1]):=u4 (k:=1) (by omega);have a2:ay (.lst (ys.map D.int)) (.int 2)=.ok (.int ys[2]):=u4 (k:=2) (by omega);have eE:ay (.lst (ys.map D.int)) (.int 3)=.ok (.int ys[3]):=u4 (k:=3) (by omega);generalize ys[0]=oI at gV;generalize ys[1]=bg at a1;generalize ys[2]=aZ at a2;generalize ys[3]=ju at eE;have x:∃m:Nat,m≤12∧ay (.lst [.int (oI%5),.int (oI%13)]) (.int (bg%4/3))=.ok (.int (m:Int)):=by
  have h:bg%4/3=0∨bg%4/3=1:=by omega
  rcases h with h|h<;>rw[h]
  ·obtain⟨m,hm,em⟩:=jV oI (n:=5) (by decide);have sr:oI%5=(m:Int):=em;exact⟨m,by omega,by rw[sr];rfl⟩
  ·obtain⟨m,hm,em⟩:=jV oI (n:=13) (by decide);have sr:oI%13=(m:Int):=em;exact⟨m,by omega,by rw[sr];rfl⟩
 obtain⟨m,hm,em⟩:=x;have lp:∀k:Nat,∃r,nC c r∧(k<12→pO [.lst (ef (ys.map D.int) (some (4+8*(k:Int))) (some (12+8*(k:Int)))),.int (c:Int)]=.ok (.v (fo r))):=fun k=>by
  by_cases hk:k<12
  ·have aq:ef (ys.map D.int) (some (4+8*(k:Int))) (some (12+8*(k:Int)))=(ef ys (some ((4+8*k:Nat):Int)) (some ((12+8*k:Nat):Int))).map D.int:=by
     rw[←o4];simp
   obtain⟨r,h1,h2⟩:=VR (ef ys (some ((4+8*k:Nat):Int)) (some ((12+8*k:Nat):Int))) (by rw[Mf];simp;omega) c hc;exact⟨r,h1,fun _=>by rw[aq];exact h2⟩
  ·exact⟨_,KI (q:=0) (by omega),fun z=>absurd z hk⟩
 let om:Nat→dx:=fun k=>(lp k).choose
 have VK:∀k,nC c (om k):=fun k=>(lp k).choose_spec.1;have VL:∀k:Nat,k<12→pO [.lst (ef (ys.map D.int) (some (4+8*(k:Int))) (some (12+8*(k:Int)))),.int (c:Int)]=.ok (.v (fo (om k))):=fun k=>(lp k).choose_spec.2;simp(disch:=first|omega|(simp;done)|(simp;omega)) [pM,yk,yT,gV,a1,em];refine pb m (fun k=>fo (om k)) (by simp[show m<1000000 by omega]) (by omega) (fun k hk=>?_) ?_
 ·have q:=VL k (by omega);simp(disch:=first|omega|(simp;done)|(simp;omega)) [q]
 ·have bb:(List.range m).map (fun k=>fo (om k))=((List.range m).map om).map fo:=by simp
  rw[bb];have d_:∀r∈(List.range m).map om,nC c r:=fun r hr=>by obtain⟨k,_,rfl⟩:=List.mem_map.mp hr;exact VK k
  have ax:((List.range m).map om).length=m:=by simp
  generalize(List.range m).map om=b at d_ ax;obtain⟨q,aJ,eq⟩:=jV ju (n:=c) (by omega);have LP:ef (b.map fo) none (some 11)=(b.take 11).map fo:=by rw[o4];congr 1;exact uZ b 11
  simp(disch:=first|omega|(simp;done)|(simp;omega)) [a2,eE,eq];by_cases t:0<aZ%3
  ·rw[if_pos t,LP];simp(disch:=first|omega|(simp;done)|(simp;omega)) [-List.map_take];refine⟨b.take 11++[⟨PySem.Str.ofString "xxxx",none,some q⟩],⟨by simp;omega,fun r hr=>?_⟩,?_⟩
   ·rcases List.mem_append.mp hr with hr|hr
    ·exact d_ r (List.mem_of_mem_take hr)
    ·rw[List.mem_singleton.mp hr];exact KI aJ
   ·simp[br,fo,dq]
  ·rw[if_neg t];simp;exact⟨b,⟨by omega,d_⟩,rfl⟩
theorem DY(ns:List Int)(st:Nat)(hst:st<100)(cs:List Nat)(h6:cs.length≤6)(kQ:∀c∈cs,1≤c∧c≤4):∃bs,j5 cs bs∧oc [.cy (ns.map D.int),.int (st:Int),.lst (b0 cs)]=.ok (.o (bs.map br)):=by
 suffices h:Ends (oc [.cy (ns.map D.int),.int (st:Int),.lst (b0 cs)]) fun x=>∃bs,j5 cs bs∧x=.o (bs.map br)by
  obtain⟨b,e,r,h,rfl⟩:=h;exact⟨r,h,e⟩
 have oZ:∀p:Nat×Nat,∃b,(p∈cs.zipIdx→nx p.1 b)∧(p∈cs.zipIdx→∃cl:Int,k9 [.cy (ns.map D.int),.int ((st:Int)+(p.2:Int))]=.ok (.v (.int cl))∧pM [.int cl,.int (p.1:Int)]=.ok (.v (br b))):=fun p=>by
  by_cases hp:p∈cs.zipIdx
  ·have hm:p.1∈cs:=List.mem_of_getElem? (C6 hp);obtain⟨cl,Nz⟩:=yJ ns (st+p.2);obtain⟨b,h1,h2⟩:=LJ cl p.1 (kQ _ hm).1;exact⟨b,fun _=>h1,fun _=>⟨cl,by rw[←Nz];simp,h2⟩⟩
  ·exact⟨[],fun z=>absurd z hp,fun z=>absurd z hp⟩
 let uT:Nat×Nat→List dx:=fun p=>(oZ p).choose
 have LB:∀p∈cs.zipIdx,nx p.1 (uT p):=fun p=>(oZ p).choose_spec.1;have LC:∀p∈cs.zipIdx,∃cl:Int,k9 [.cy (ns.map D.int),.int ((st:Int)+(p.2:Int))]=.ok (.v (.int cl))∧pM [.int cl,.int (p.1:Int)]=.ok (.v (br (uT p))):=fun p=>(oZ p).choose_spec.2;simp[oc,yl];have qS:pe [.lst (b0 cs)]=.ok (cs.zipIdx.map fun p=>.tup [.int (p.2:Int),.int (p.1:Int)]):=yX (fun c:Nat=>D.int (c:Int)) cs;refine nO (fun p:Nat×Nat=>.int (p.2:Int)) (fun p=>.int (p.1:Int)) cs.zipIdx (fun p=>br (uT p)) (by simp only[Cv,rP,v_var,qa];simp[qS]) (by simp;omega) (fun p hp=>?_) ?_
 ·obtain⟨cl,aq,az⟩:=LC p hp;simp[aq,az]
 ·simp;refine⟨cs.zipIdx.map uT,⟨by simp,fun i b e=>?_⟩,by simp⟩;rw[List.getElem?_map,List.getElem?_zipIdx]at e;cases ec:cs[i]? with
  |none=>rw[ec]at e;cases e
  |some c=>
   rw[ec]at e;simp at e;subst e;have:(c,i)∈cs.zipIdx:=by rw[List.mem_iff_getElem?];exact⟨i,by rw[List.getElem?_zipIdx,ec];simp⟩
   have k:=LB _ this;rw[List.getD_eq_getElem?_getD,ec];exact k
theorem Td(ns:List Int)(cs:List Nat)(h6:cs.length≤6)(kQ:∀c∈cs,1≤c∧c≤4){bs:List (List dx)}(hb:j5 cs bs):∃se,j5 cs se∧tr [.cy (ns.map D.int),.lst (bs.map br),.lst (b0 cs)]=.ok (.o (se.map br)):=by
 suffices h:Ends (tr [.cy (ns.map D.int),.lst (bs.map br),.lst (b0 cs)]) fun x=>∃se,j5 cs se∧x=.o (se.map br)by
  obtain⟨b,e,r,h,rfl⟩:=h;exact⟨r,h,e⟩
 obtain⟨aI,hf,hJ⟩:=DY ns 7 (by decide) cs h6 kQ;have o9:oc [.cy (ns.map D.int),.int 7,.lst (b0 cs)]=.ok (.o (aI.map br)):=hJ;obtain⟨jb,c8⟩:=yJ ns 0;have sl:k9 [.cy (ns.map D.int),.int 0]=.ok (.v (.int jb)):=c8;obtain⟨y,dB⟩:=Af jb 50 (by decide);have sx:gx [.int jb,.int 50]=.ok (.v (.int y)):=dB;have lcs:(b0 cs).length=cs.length:=by simp[b0]
 have vJ:=hb.l;have lf:=hf.l;simp(disch:=first|omega|(simp;done)|(simp;omega)) [tr,yt,o9,sl,sx];refine pd cs.length (fun j ρ=>∃(pS:List (List dx))(cT:cO),pS.length=j∧(∀(i:Nat) b,pS[i]?=some b→nx (cs.getD i 0) b)∧ρ=[.ak (.cy (ns.map D.int)),.ak (.lst (bs.map br)),.ak (.lst (b0 cs)),.ak (.lst (aI.map br)),.ak (.int y),.cE (pS.map br),cT]) (by simp[lcs,show cs.length<1000000 by omega]) ⟨[],.un,rfl,(fun i b e=>by simp at e),rfl⟩ ?_ ?_
 ·rintro j _ cg ⟨pS,cT,hl,ho,rfl⟩;have bk:ay (.lst (bs.map br)) (.int (j:Int))=.ok (br bs[j]):=jO (by simp[show j<bs.length by omega]);have bz:ay (.lst (aI.map br)) (.int (j:Int))=.ok (br aI[j]):=jO (by simp[show j<aI.length by omega]);have x:∃b,nx (cs.getD j 0) b∧ay (.lst [br bs[j],br aI[j]]) (.int (if 0<y/((j:Int)+1)%4 then 1 else 0))=.ok (br b):=by
   by_cases t:0<y/((j:Int)+1)%4
   ·rw[if_pos t];exact⟨aI[j],hf.b j _ (List.getElem?_eq_getElem (by omega)),rfl⟩
   ·rw[if_neg t];exact⟨bs[j],hb.b j _ (List.getElem?_eq_getElem (by omega)),rfl⟩
  obtain⟨b,OJ,ex⟩:=x;simp(disch:=first|omega|(simp;done)|(simp;omega)) [bk,bz,ex];refine⟨pS++[b],by simp[hl],fun i eV e=>?_,by simp⟩;rw[List.getElem?_append]at e
  split at e
  ·exact ho i eV e
  ·rename_i hi;have:i=j:=by
    by_cases q:i=j
    ·exact q
    ·rw[List.getElem?_eq_none (by simp;omega)]at e;cases e
   subst this;rw[hl,Nat.sub_self]at e;cases e;exact OJ
 ·rintro _ ⟨pS,cT,hl,ho,rfl⟩;simp;exact⟨pS,⟨hl,ho⟩,rfl⟩
@[simp] theorem ab0(m:aP)(ρ:ao):tf m ρ=(m ρ).bind C5:=(rfl)
def jm(a:Nat):Str:=⟨#[fV a 8,fV a 4,fV a 2,fV a 1]⟩
theorem W_{a:Nat}(ha:a<16):rz [.int (a:Int)]=.ok (.v (.str (jm a))):=by
 apply Ends.done;simp[rz,yy];refine mC (fun w:Nat=>D.int (w:Int)) [8,4,2,1] (fun w=>dP (fV a w)) (by simp) (by decide) (fun w hw=>?_) ?_
 ·have Gn:w=8∨w=4∨w=2∨w=1:=by simpa using hw
  have eQ:m6 [.int ((a:Int)/(w:Int)%2)]=.ok (dP (fV a w)):=by have:=Js (a/w%2) (by omega);rw[show dP (fV a w)=.str ⟨#[48+a/w%2]⟩from rfl,←this];simp
  simp(disch:=first|omega|(simp;done)|(simp;omega)) [eQ]
 ·simp only[List.map_cons,List.map_nil,G6];simp[jm]
theorem ED(c:Nat):b8 true (dP c) (.str (PySem.Str.ofString "x"))=.ok (.ax (decide (c=120))):=by
 show R.ok (D.ax ((⟨#[c]⟩:Str)==PySem.Str.ofString "x"))=_
 congr 2
 rw[Jt,Bool.eq_iff_iff,beq_iff_eq,decide_eq_true_iff];simp
theorem NN(c d:Nat):b8 true (dP c) (dP d)=.ok (.ax (decide (c=d))):=by
 show R.ok (D.ax ((⟨#[c]⟩:Str)==(⟨#[d]⟩:Str)))=_
 congr 2
 rw[Bool.eq_iff_iff,beq_iff_eq,decide_eq_true_iff];simp
theorem Sk{p:Str}(hp:lH p)(a:Nat):pN [.str p,.str (jm a)]=.ok (.v (.ax (pg p a))):=by
 apply Ends.done;have l:=hp.l;simp[pN,yo];refine nO (fun q:Nat×Nat=>dP q.1) (fun q=>dP (fV a q.2)) (p.cps.toList.zip [8,4,2,1]) (fun q=>.ax (decide (q.1=120∨q.1=fV a q.2))) ?_ (by simp;omega) (fun q aJ=>?_) ?_
 ·show R.ok (qm p.cps.toList [fV a 8,fV a 4,fV a 2,fV a 1])=_;unfold qm;rw[show[fV a 8,fV a 4,fV a 2,fV a 1]=[8,4,2,1].map (fV a)from rfl,List.zip_map_right,List.map_map];rfl
 ·by_cases h:q.1=120
  ·simp[ED,h]
  ·simp[ED,NN,h]
 ·have al:=qF (fun q:Nat×Nat=>decide (q.1=120∨q.1=fV a q.2)) (p.cps.toList.zip [8,4,2,1]);simp only[al];simp[pg]
def og(b:List dx)(d a:Nat):Option Nat:=(b.find? (mt d a)).bind (·.b)
theorem H8{d a:Nat}:∀(rs:List dx)(s0 s3 s4 s5:cO),(∀r∈rs,lH r.p)→
  (e9 (eI [a8 3,a8 4,a8 5]) (ck (jQ (aW (bR 2 pN (ae (J 3) (ae (J 2) (ar))))) (eZ (aW (ag (eh true) (J 4) (aj .non))) (aW (ag (b8 true) (J 4) (J 1))))) (bU (J 5)) (cw)) (rs.map fo) [s0,.ak (.int (d:Int)),.ak (.str (jm a)),s3,s4,s5]).bind (gC (bU (aj .non)))=.ok (.dH (dq (og rs d a)))
 |[],s0,s3,s4,s5,_=>by simp[og,dq]
 |r::rs,s0,s3,s4,s5,h=>by
  have bQ:=H8 (d:=d) (a:=a) rs s0 (.ak (.str r.p)) (.ak (dq r.a)) (.ak (dq r.b)) fun x hx=>h x (List.mem_cons_of_mem _ hx);have f:=Sk (h r List.mem_cons_self) a;have bd:(ck (jQ (aW (bR 2 pN (ae (J 3) (ae (J 2) (ar))))) (eZ (aW (ag (eh true) (J 4) (aj .non))) (aW (ag (b8 true) (J 4) (J 1))))) (bU (J 5)) (cw)) [s0,.ak (.int (d:Int)),.ak (.str (jm a)),.ak (.str r.p),.ak (dq r.a),.ak (dq r.b)]=if mt d a r=true then .ok (.dH (dq r.b))else .ok (.bq [s0,.ak (.int (d:Int)),.ak (.str (jm a)),.ak (.str r.p),.ak (dq r.a),.ak (dq r.b)]):=by unfold mt;have aS:=GZ r.a;have bl:=EC r.a d;generalize r.a.isNone=d_ at aS ⊢;generalize(r.a==some d)=dg at bl ⊢;generalize pg r.p a=oY at f ⊢;cases d_<;>cases dg<;>cases oY<;>simp[aS,bl,f]
  have c8:eI [a8 3,a8 4,a8 5] (fo r) [s0,.ak (.int (d:Int)),.ak (.str (jm a)),s3,s4,s5]=.ok [s0,.ak (.int (d:Int)),.ak (.str (jm a)),.ak (.str r.p),.ak (dq r.a),.ak (dq r.b)]:=rfl;rw[List.map_cons,e9,c8,df,bd];unfold og;rw[List.find?_cons];cases hm:mt d a r with
  |true=>simp
  |false=>simp only[Bool.false_eq_true,if_false,df];exact bQ
theorem Uc{b:List dx}(hb:∀r∈b,lH r.p)(d a:Nat):ry [br b,.int (d:Int),.str (jm a)]=.ok (.v (dq (og b d a))):=by
 have k:=H8 (d:=d) (a:=a) b (.ak (br b)) .un .un .un hb;have z:ry [br b,.int (d:Int),.str (jm a)]=((e9 (eI [a8 3,a8 4,a8 5]) (ck (jQ (aW (bR 2 pN (ae (J 3) (ae (J 2) (ar))))) (eZ (aW (ag (eh true) (J 4) (aj .non))) (aW (ag (b8 true) (J 4) (J 1))))) (bU (J 5)) (cw)) (b.map fo) [.ak (br b),.ak (.int (d:Int)),.ak (.str (jm a)),.un,.un,.un]).bind (gC (bU (aj .non)))).bind outD:=by simp only[ry,ua,yu,l5,ub,w_];rfl
 rw[z,k];rfl
theorem JU{d a:Nat}:∀(rs:List dx)(i:Nat),match iW d a i rs with
  |some k=>∃r,rs[k-i]?=some r∧i≤k∧rs.find? (mt d a)=some r
  |none=>rs.find? (mt d a)=none
 |[],i=>rfl
 |r::rs,i=>by
  have bQ:=JU (d:=d) (a:=a) rs (i+1);simp only[iW];rw[List.find?_cons];cases hm:mt d a r with
  |true=>simp
  |false=>
   simp only[Bool.false_eq_true,if_false];cases e:iW d a (i+1) rs with
   |none=>rw[e]at bQ;exact bQ
   |some k=>rw[e]at bQ;obtain⟨x,h1,h2,h3⟩:=bQ;refine⟨x,?_,by omega,h3⟩;rw[show k-i=(k-(i+1))+1 by omega];simpa using h1
noncomputable def lead(ws:List (aw×aw))(h:Nat):Option Nat→On
 |none=>.drop
 |some o=>match gX ws (h,o)with
  |none=>.out o
  |some e=>.to e
theorem Tt(ws:List (aw×aw))(b:List dx)(h d a:Nat):bq ws b h d a=lead ws h (og b d a):=by
 have k:=JU (d:=d) (a:=a) b 0;unfold bq og;cases e:iW d a 0 b with
 |none=>rw[e]at k;simp only at k;rw[k];rfl
 |some i=>rw[e]at k;obtain⟨r,h1,_,h3⟩:=k;rw[h3];simp only[Nat.sub_zero]at h1;simp only[h1,Option.bind_some];cases r.b<;>rfl
theorem y2(a b:aw):b8 true (aO a) (aO b)=.ok (.ax (decide (a=b))):=by have o:∀d:aw,okN 8 (aO d)=true:=fun _=>rfl;simp only[b8,o,and_self,if_true,u3]
theorem DR(d:aw):∀(ws:List (aw×aw))(s0 s2 s3:cO),
  (e9 (eI [a8 2,a8 3]) (aR (ck (aW (ag (b8 true) (J 2) (J 1))) (bU (J 3)) (cw)) (ck (aW (ag (b8 true) (J 3) (J 1))) (bU (J 2)) (cw))) (ws.map dG) [s0,.ak (aO d),s2,s3]).bind (gC (bU (aj .non)))=.ok (.dH (((gX ws d).map aO).getD .non))
 |[],s0,s2,s3=>by simp[gX,pairsOf]
 |w::ws,s0,s2,s3=>by
  have bQ:=DR d ws s0 (.ak (aO w.1)) (.ak (aO w.2));have c8:eI [a8 2,a8 3] (dG w) [s0,.ak (aO d),s2,s3]=.ok [s0,.ak (aO d),.ak (aO w.1),.ak (aO w.2)]:=rfl;have cz:pairsOf (w::ws)=(w.1,w.2)::(w.2,w.1)::pairsOf ws:=by simp[pairsOf]
  rw[List.map_cons,e9,c8,df];by_cases h1:w.1=d
  ·simp[y2,h1,gX,cz]
  ·by_cases h2:w.2=d
   ·simp[y2,h1,h2,gX,cz]
   ·have bb:gX (w::ws) d=gX ws d:=by simp[gX,cz,h1,h2]
    rw[bb];simp only[l5,YB,Yw,Yx,v_var];simp[y2,h1,h2];exact bQ
def parts(cs:List Nat)(ws:List (aw×aw)):D:=.tup [.lst (b0 cs),.lst (ws.map dG)]
theorem Sd(cs:List Nat)(ws:List (aw×aw))(d:aw):pL [parts cs ws,aO d]=.ok (.v (((gX ws d).map aO).getD .non)):=by
 have k:=DR d ws (.ak (parts cs ws)) .un .un;have z:pL [parts cs ws,aO d]=((e9 (eI [a8 2,a8 3]) (aR (ck (aW (ag (b8 true) (J 2) (J 1))) (bU (J 3)) (cw)) (ck (aW (ag (b8 true) (J 3) (J 1))) (bU (J 2)) (cw))) (ws.map dG) [.ak (parts cs ws),.ak (aO d),.un,.un]).bind (gC (bU (aj .non)))).bind outD:=by simp only[pL,ua,yj,l5,ub,w_];rfl
 rw[z,k];rfl
def wu:b4:=iP (aW (ag (inD false) (J 2) (J 5)))
noncomputable def tR:a0:=(aR (g7 5 (J 2))
    (aR (cp 6 (bR 3 ry (ae (ag ay (J 1) (ag ay (J 2) (aj (.int 0)))) (ae (ag ay (J 2) (aj (.int 1))) (ae (J 4) (ar))))))
    (aR (ck (aW (ag (eh true) (J 6) (aj .non))) (hD (cD (ae (J 5) (ae (cD (ae (aj (.str (PySem.Str.ofString "drop"))) (ae (ag ay (J 2) (aj (.int 0))) (ar)))) (ar))))) (cw))
    (aR (cp 7 (bR 2 pL (ae (J 0) (ae (cD (ae (ag ay (J 2) (aj (.int 0))) (ae (J 6) (ar)))) (ar)))))
    (aR (ck (aW (ag (eh true) (J 7) (aj .non))) (hD (cD (ae (J 5) (ae (cD (ae (aj (.str (PySem.Str.ofString "out"))) (ae (ag ay (J 2) (aj (.int 0))) (ae (J 6) (ar))))) (ar))))) (cw))
    (cp 2 (J 7)))))))
noncomputable def wx:a0:=(hD (cD (ae (J 5) (ae (cD (ae (aj (.str (PySem.Str.ofString "ring"))) (ae (lW (J 5) (ae (J 2) (ar))) (ar)))) (ar)))))
noncomputable def mw(X Y:D)(d:aw)(a:Nat)(ds:List aw)(cT cR:cO):ao:=[.ak X,.ak Y,.ak (aO d),.ak (.int (a:Int)),.ak (.str (jm a)),.cE (ds.map aO),cT,cR]
theorem IT(X Y:D)(d:aw)(a:Nat)(ds:List aw)(cT cR:cO):wu (mw X Y d a ds cT cR)=.ok (!decide (d∈ds)):=Aj rfl rfl
theorem VD{cs:List Nat}{ws:List (aw×aw)}{bs:List (List dx)}(hb:j3 cs bs){d:aw}(hd:d.1<cs.length){a:Nat}(ds:List aw)(hl:ds.length<1000)(cT cR:cO) :
  ∃Jz JA,tR (mw (parts cs ws) (.lst (bs.map br)) d a ds cT cR)=match hX ws bs a d with
   |.to e=>.ok (.bq (mw (parts cs ws) (.lst (bs.map br)) e a (ds++[d]) Jz JA))
   |o=>.ok (.dH (.tup [.lst ((ds++[d]).map aO),gN d.1 o])):=by
 have fk:ay (aO d) (.int 0)=.ok (.int (d.1:Int)):=rfl;have bk:ay (aO d) (.int 1)=.ok (.int (d.2:Int)):=rfl;have hP:d.1<bs.length:=by rw[hb.l];exact hd
 have eg:bs.getD d.1 []=bs[d.1]:=by simp[hP]
 have kX:ay (.lst (bs.map br)) (.int (d.1:Int))=.ok (br (bs.getD d.1 [])):=by rw[eg];exact jO (by simp[hP])
 have on:=Uc (b:=bs.getD d.1 []) (fun r hr=>hb.p bs[d.1] (List.getElem_mem _) r (by rw[←eg];exact hr)) d.2 a;have nl:hX ws bs a d=lead ws d.1 (og (bs.getD d.1 []) d.2 a):=Tt _ _ _ _ _;rw[nl];generalize bs.getD d.1 []=oZ at*;have od:eX .non=true:=rfl;have da:∀i,eX (.int i)=false:=fun _=>rfl;have c2:∀e:aw,eX (aO e)=false:=fun _=>rfl;simp only[tR,mw];cases qT:og oZ d.2 a with
 |none=>rw[qT]at on;refine⟨.un,.un,?_⟩;simp(disch:=first|omega|(simp;done)|(simp;omega)) [fk,bk,kX,on,dq,od,lead,gN,st]
 |some o=>
  rw[qT]at on;have vJ:=Sd cs ws (d.1,o);have vK:pL [parts cs ws,.tup [.int (d.1:Int),.int (o:Int)]]=.ok (.v (((gX ws (d.1,o)).map aO).getD .non)):=vJ;cases dB:gX ws (d.1,o)with
  |none=>rw[dB]at vK;refine⟨.un,.un,?_⟩;simp(disch:=first|omega|(simp;done)|(simp;omega)) [fk,bk,kX,on,dq,od,da,vK,lead,dB,gN,st]
  |some e=>rw[dB]at vK;refine⟨.ak (.int (o:Int)),.ak (aO e),?_⟩;simp(disch:=first|omega|(simp;done)|(simp;omega)) [fk,bk,kX,on,dq,od,da,c2,vK,lead,dB]
theorem IU{cs:List Nat}{ws:List (aw×aw)}{bs:List (List dx)}(cx:gH cs ws)(hb:j3 cs bs){a:Nat}:∀(n:Nat)(ds:List aw)(d:aw)(cT cR:cO)(r:List aw×ml),d.1<cs.length→ds.length+n<1001→walk (hX ws bs a) n ds d=some r→
  (js wu tR n (mw (parts cs ws) (.lst (bs.map br)) d a ds cT cR)).bind (gC wx)=.ok (.dH (jn r))
 |0,ds,d,cT,cR,r,_,_,h=>by simp[walk]at h
 |n+1,ds,d,cT,cR,r,hd,hl,h=>by
  simp only[walk]at h;by_cases hm:d∈ds
  ·rw[if_pos hm]at h;obtain rfl:=Option.some.inj h;rw[js,IT,df,decide_eq_true hm];have i:=GU (m1:=J 2) (m2:=J 5) (ρ:=eP (mw (parts cs ws) (.lst (bs.map br)) d a ds cT cR)) (ds:=ds) (d:=d) rfl rfl hm (by omega);have v4:J 5 (eP (mw (parts cs ws) (.lst (bs.map br)) d a ds cT cR))=.ok (.lst (ds.map aO)):=rfl;simp only[Bool.not_true,Bool.false_eq_true,if_false,df,p3];simp only[wx,Cw,J4,rP,qa,Cu,i,v4,df,rO,List.length_cons,List.length_nil];simp[jn,pa,st]
  ·rw[if_neg hm]at h;rw[js,IT,df,decide_eq_false hm];obtain⟨Jz,JA,b⟩:=VD (ws:=ws) hb hd (a:=a) ds (by omega) cT cR;simp only[Bool.not_false,if_true,b];cases e:hX ws bs a d with
   |drop=>rw[e]at h;obtain rfl:=Option.some.inj h;simp[jn,pa,gN]
   |out o=>rw[e]at h;obtain rfl:=Option.some.inj h;simp[jn,pa,gN]
   |to f=>rw[e]at h;simp only[df];exact IU cx hb n (ds++[d]) f _ _ r (kr.mp (Al cx e)).1 (by simp;omega) h
theorem VP{cs:List Nat}{ws:List (aw×aw)}{bs:List (List dx)}(cx:gH cs ws)(hb:j3 cs bs){a:Nat}(ha:a<16){d:aw}(hd:d∈c3 cs cs.length){r:List aw×ml}(hr:walk (hX ws bs a) 1000 [] d=some r):ts [parts cs ws,.lst (bs.map br),aO d,.int (a:Int)]=.ok (.v (jn r)):=by
 have k:=IU cx hb (a:=a) 1000 [] d .un .un r (kr.mp hd).1 (by simp) hr;have aY:=W_ ha;have z:ts [parts cs ws,.lst (bs.map br),aO d,.int (a:Int)]=(aR (cp 4 (bR 1 rz (ae (J 3) (ar)))) (aR (ez 5 (dz ar)) (aR (kq wu tR) wx)) [.ak (parts cs ws),.ak (.lst (bs.map br)),.ak (aO d),.ak (.int (a:Int)),.un,.un,.un,.un]).bind outD:=rfl;rw[z];have s4:cp 4 (bR 1 rz (ae (J 3) (ar))) [.ak (parts cs ws),.ak (.lst (bs.map br)),.ak (aO d),.ak (.int (a:Int)),.un,.un,.un,.un]=.ok (.bq [.ak (parts cs ws),.ak (.lst (bs.map br)),.ak (aO d),.ak (.int (a:Int)),.ak (.str (jm a)),.un,.un,.un]):=by simp[aY]
 have s5:ez 5 (dz ar) [.ak (parts cs ws),.ak (.lst (bs.map br)),.ak (aO d),.ak (.int (a:Int)),.ak (.str (jm a)),.un,.un,.un]=.ok (.bq (mw (parts cs ws) (.lst (bs.map br)) d a [] .un .un)):=rfl;have aZ:(kq wu tR (mw (parts cs ws) (.lst (bs.map br)) d a [] .un .un)).bind (gC wx)=.ok (.dH (jn r)):=k;simp only[l5,s4,s5,df,p3,aZ];rfl
deriving instance DecidableEq for aE
def outs(cs:List Nat)(ws:List (aw×aw))(n:Nat):List aw:=(c3 cs n).filter fun d=>!decide (d∈ends ws)
theorem H9(cs:List Nat)(ws:List (aw×aw))(n:Nat):outs cs ws (n+1)=outs cs ws n++(gg cs n).filter (fun d=>!decide (d∈ends ws)):=by unfold outs;rw[uJ,List.filter_append]
theorem Av{cs:List Nat}(ws:List (aw×aw))(h:∀c∈cs,1≤c∧c≤4)(n:Nat):(outs cs ws n).length≤4*n:=Nat.le_trans (List.length_filter_le _ _) (sa h n)
theorem My(ws:List (aw×aw))(d:aw):fj false (aO d) (.bK (dQ ws) (d5 ws))=.ok (.ax (!decide (d∈ends ws))):=by simp only[fj,q7,ks_any];rfl
theorem Ud{cs:List Nat}{ws:List (aw×aw)}(cx:gH cs ws):tj [cI cs ws]=.ok (.o ((outs cs ws cs.length).map aO)):=by
 apply Ends.done;have h6:=cx.h6;have FG:eF "Net" "far" (cI cs ws)=.ok (.bK (dQ ws) (d5 ws)):=rfl;have N8:eF "Net" "counts" (cI cs ws)=.ok (.tup (b0 cs)):=rfl;simp(disch:=first|omega|(simp;done)|(simp;omega)) [tj,x4];refine pd cs.length (fun j ρ=>∃s2 s3,ρ=[.ak (cI cs ws),.cE ((outs cs ws j).map aO),s2,s3]) (by simp(disch:=first|omega|(simp;done)|(simp;omega)) [tx]) ⟨.un,.un,by simp[outs,c3]⟩ ?_ ?_
 ·rintro j _ cg ⟨s2,s3,rfl⟩;have q9:=vg (fun c h=>(cx.c c h).2) j;have b7:ay (.tup (b0 cs)) (.int (j:Int))=.ok (.int (cs.getD j 0:Nat)):=zQ (sh cg);have lo:=Av ws cx.c j;simp only[List.getD_eq_getElem?_getD]at b7 q9;simp;have z:=pd (β:=e4) (set:=a8 3) (body:=ck (aW (ag (fj false) (cD (ae (J 2) (ae (J 3) (ar)))) (dC (eF "Net" "far") (J 0)))) (g7 1 (cD (ae (J 2) (ae (J 3) (ar))))) (cw)) (mi:=fm (ae (ag ay (dC (eF "Net" "counts") (J 0)) (J 2)) (ar))) (ρ:=[.ak (cI cs ws),.cE ((outs cs ws j).map aO),.ak (.int (j:Int)),s3]) (k:=fun f=>.ok f) (T:=qA fun ρ=>∃s3,ρ=[.ak (cI cs ws),.cE ((outs cs ws (j+1)).map aO),.ak (.int (j:Int)),s3]) (cs[j]?.getD 0) (fun k ρ=>∃s3,ρ=[.ak (cI cs ws),.cE ((outs cs ws j++((gg cs j).take k).filter (fun d=>!decide (d∈ends ws))).map aO),.ak (.int (j:Int)),s3]) (by simp[N8,b7,show cs[j]?.getD 0<1000000 by omega]) ⟨s3,by simp⟩ ?_ ?_
  ·obtain⟨f,hJ,bo,rfl,VZ,rfl⟩:=z;have o9:d3 (fm (ae (ag ay (dC (eF "Net" "counts") (J 0)) (J 2)) (ar))) (a8 3) (ck (aW (ag (fj false) (cD (ae (J 2) (ae (J 3) (ar)))) (dC (eF "Net" "far") (J 0)))) (g7 1 (cD (ae (J 2) (ae (J 3) (ar))))) (cw)) [.ak (cI cs ws),.cE ((outs cs ws j).map aO),.ak (.int (j:Int)),s3]=.ok (.bq [.ak (cI cs ws),.cE ((outs cs ws (j+1)).map aO),.ak (.int (j:Int)),VZ]):=by
    rw[←hJ];cases d3 (fm (ae (ag ay (dC (eF "Net" "counts") (J 0)) (J 2)) (ar))) (a8 3) (ck (aW (ag (fj false) (cD (ae (J 2) (ae (J 3) (ar)))) (dC (eF "Net" "far") (J 0)))) (g7 1 (cD (ae (J 2) (ae (J 3) (ar))))) (cw)) [.ak (cI cs ws),.cE ((outs cs ws j).map aO),.ak (.int (j:Int)),s3]<;>rfl
   rw[o9];simp
  ·rintro k _ hk ⟨s3,rfl⟩;have kV:k<(gg cs j).length:=by simp[gg,List.getD_eq_getElem?_getD];exact hk
   have ek:(gg cs j)[k]=(j,k):=by simp[gg]
   have dd:fj false (.tup [.int (j:Int),.int (k:Int)]) (.bK (dQ ws) (d5 ws))=.ok (.ax (!decide ((j,k)∈ends ws))):=My ws (j,k);have lV:(((gg cs j).take k).filter (fun d=>!decide (d∈ends ws))).length≤4:=Nat.le_trans (List.length_filter_le _ _) (Nat.le_trans (List.length_take_le' _ _) (yM cx.c j));rw[List.take_add_one,List.getElem?_eq_getElem kV,ek,Option.toList_some,List.filter_append];by_cases hm:(j,k)∈ends ws
   ·simp[FG,dd,hm]
   ·simp(disch:=first|omega|(simp;done)|(simp;omega)) [FG,dd,hm];rfl
  ·rintro _ ⟨s3,rfl⟩;have:(gg cs j).take (cs[j]?.getD 0)=gg cs j:=List.take_of_length_le (by simp[gg,List.getD_eq_getElem?_getD]);rw[this,←H9];simp
 ·rintro _ ⟨s2,s3,rfl⟩;simp
theorem Sp{cs:List Nat}{ws:List (aw×aw)}(cx:gH cs ws):vT [parts cs ws]=.ok (.o ((outs cs ws cs.length).map aO)):=by
 apply Ends.done;have h6:=cx.h6;have few:=cx.few;have f5:ay (parts cs ws) (.int 0)=.ok (.lst (b0 cs)):=rfl;have eG:ay (parts cs ws) (.int 1)=.ok (.lst (ws.map dG)):=rfl;have lcs:(b0 cs).length=cs.length:=by simp[b0]
 simp[vT,yv];refine nO (fun w:aw×aw=>aO w.1) (fun w=>aO w.2) ws (fun w=>aO w.1) (by simp[eG];intros;rfl) (by omega) (fun w _=>by simp) ?_;refine nO (fun w:aw×aw=>aO w.1) (fun w=>aO w.2) ws (fun w=>aO w.2) (by simp[eG];intros;rfl) (by omega) (fun w _=>by simp) ?_;have GV:cC (.lst (ws.map fun w=>aO w.1)) (.lst (ws.map fun w=>aO w.2))=.ok (.lst ((ws.map (·.1)++ws.map (·.2)).map aO)):=by rw[i_ (by simp;omega),List.map_append,List.map_map,List.map_map];rfl
 have hm:∀d,d∈ws.map (·.1)++ws.map (·.2)↔d∈ends ws:=fun d=>by
  simp only[ends,List.mem_append,List.mem_map,List.mem_flatten];constructor
  ·rintro(⟨w,hw,rfl⟩|⟨w,hw,rfl⟩)
   ·exact⟨[w.1,w.2],⟨w,hw,rfl⟩,by simp⟩
   ·exact⟨[w.1,w.2],⟨w,hw,rfl⟩,by simp⟩
  ·rintro⟨_,⟨w,hw,rfl⟩,hd⟩;simp at hd;rcases hd with rfl|rfl
   ·exact .inl ⟨w,hw,rfl⟩
   ·exact .inr ⟨w,hw,rfl⟩
 generalize Gg:ws.map (·.1)++ws.map (·.2)=inner at GV hm;rw[GV,df];refine pd cs.length (fun j ρ=>∃s3,ρ=[.ak (parts cs ws),.ak (.lst (inner.map aO)),.cE ((outs cs ws j).map aO),s3]) (by simp(disch:=first|omega|(simp;done)|(simp;omega)) [f5,lcs]) ⟨.un,by simp[outs,c3]⟩ ?_ ?_
 ·rintro j _ cg ⟨s3,rfl⟩;have q9:=vg (fun c h=>(cx.c c h).2) j;have b7:ay (.lst (b0 cs)) (.int (j:Int))=.ok (.int (cs.getD j 0:Nat)):=jO (sh cg);have lo:=Av ws cx.c j;simp only[List.getD_eq_getElem?_getD]at b7 q9;simp;refine su (fun k:Nat=>D.int (k:Int)) (List.range (cs[j]?.getD 0)) (fun k=>!decide ((j,k)∈inner)) (fun k=>aO (j,k)) (by simp[f5,b7,show cs[j]?.getD 0<1000000 by omega,AM]) (by simp;omega) (fun k _=>?_) (fun k _ _=>by simp[aO]) ?_
  ·exact Aj (d:=(j,k)) (by simp[aO]) rfl
  ·have el:((List.range (cs[j]?.getD 0)).filter (fun k=>!decide ((j,k)∈inner))).map (fun k=>aO (j,k))=((gg cs j).filter (fun d=>!decide (d∈ends ws))).map aO:=by
     unfold gg;rw[List.filter_map,List.map_map,List.getD_eq_getElem?_getD]
     congr 1
     congr 1
     funext k
     simp only[Function.comp];rw[show decide ((j,k)∈inner)=decide ((j,k)∈ends ws)from decide_eq_decide.mpr (hm (j,k))]
   have lV:((gg cs j).filter (fun d=>!decide (d∈ends ws))).length≤4:=Nat.le_trans (List.length_filter_le _ _) (yM cx.c j);rw[el];simp(disch:=first|omega|(simp;done)|(simp;omega)) [H9]
 ·rintro _ ⟨s3,rfl⟩;simp
theorem Lh:vP [.str (PySem.Str.ofString "xxxx")]=.ok (.o ((List.range 16).map fun(a:Nat)=>D.int (a:Int))):=by rfl
def iO:aE→Bool
 |.dA _=>true
 |_=>false
def Ok(n:Nat)(ps:List aE):Prop:=∀s∈ps,s.ok n
theorem YW{a b:Nat}(ha:a<3)(hb:b<3):(fM a==fM b)=decide (a=b):=by
 have h1:a=0∨a=1∨a=2:=by omega
 have h2:b=0∨b=1∨b=2:=by omega
 rcases h1 with rfl|rfl|rfl<;>rcases h2 with rfl|rfl|rfl<;>decide
theorem u6{n:Nat}{s:aE}(hs:s.ok n){w h:Nat}(hw:w<3):bu (aG s) (aG (.ac w h))=decide (s=.ac w h):=by
 cases s with
 |dA k=>have q:decide (aE.dA k=.ac w h)=false:=decide_eq_false (fun z=>nomatch z);rw[q];cases k<;>simp[aG,bu,dT,hI]
 |ac fq h'=>
  have:bu (aG (.ac fq h')) (aG (.ac w h))=((fM fq==fM w)&&(((h':Int)==(h:Int))&&true)):=by simp[aG,bu,dT]
  rw[this,YW hs.1 hw,Bool.eq_iff_iff];simp;omega
theorem NO(s:aE):bu (aG s) hI=iO s:=by
 cases s with
 |dA k=>cases k<;>rfl
 |ac w h=>simp[aG,bu,dT,hI,iO]
theorem Ao(ps:List aE):(ps.map aG).all (okN 7)=true:=by
 rw[List.all_map,List.all_eq_true];intro s _;cases s with
 |dA k=>cases k<;>rfl
 |ac w h=>rfl
theorem HV(s:aE):okN 7 (aG s)=true:=by
 cases s with
 |dA k=>cases k<;>rfl
 |ac w h=>rfl
theorem DB{n:Nat}:∀{ps:List aE},Ok n ps→∀{w h:Nat},w<3→((ps.map aG).any fun y=>bu y (aG (.ac w h)))=decide (.ac w h∈ps)
 |[],_,w,h,_=>by simp
 |s::ps,hp,w,h,hw=>by have bQ:=DB (ps:=ps) (fun x hx=>hp x (List.mem_cons_of_mem _ hx)) (h:=h) hw;rw[List.map_cons,List.any_cons,bQ,u6 (hp s List.mem_cons_self) hw,Bool.eq_iff_iff,Bool.or_eq_true,decide_eq_true_iff,decide_eq_true_iff,decide_eq_true_iff,List.mem_cons];exact⟨fun q=>q.imp Eq.symm id,fun q=>q.imp Eq.symm id⟩
theorem GR{n:Nat}{ps:List aE}(hp:Ok n ps){w h:Nat}(hw:w<3)(b:Bool):inD b (aG (.ac w h)) (.lst (ps.map aG))=.ok (.ax (if b then decide (.ac w h∈ps)else !decide (.ac w h∈ps))):=by have s:oq (.lst (ps.map aG))=some (ps.map aG):=rfl;simp only[inD,s,Ao,HV,and_self,if_true,DB hp hw]
theorem QB(ps:List aE):inD true hI (.lst (ps.map aG))=.ok (.ax (ps.any iO)):=by
 have s:oq (.lst (ps.map aG))=some (ps.map aG):=rfl;have o:okN 7 hI=true:=rfl;have e:((ps.map aG).any fun y=>bu y hI)=ps.any iO:=by
  rw[List.any_map]
  congr 1
  funext x
  exact NO x
 simp only[inD,s,Ao,o,and_self,if_true,e]
def jh(ps:List aE)(s:aE):Nat:=ps.findIdx fun x=>decide (x=s)
theorem QC{n:Nat}{ps:List aE}(hp:Ok n ps){w h:Nat}(hw:w<3)(hl:ps.length<1000)(hm: .ac w h∈ps):q1 (.lst (ps.map aG)) [aG (.ac w h)]=.ok (.int (jh ps (.ac w h):Nat)):=by
 have f:(ps.map aG).findIdx? (fun z=>bu z (aG (.ac w h)))=some (jh ps (.ac w h)):=by
  rw[List.findIdx?_map];have:∀(ps:List aE),Ok n ps→.ac w h∈ps→ps.findIdx? ((fun z=>bu z (aG (.ac w h)))∘aG)=some (jh ps (.ac w h)):=by
   intro ps;induction ps with
   |nil=>intro _ hm;simp at hm
   |cons s ps bQ=>
    intro hp hm;rw[List.findIdx?_cons];simp only[Function.comp,jh,List.findIdx_cons,u6 (hp s List.mem_cons_self) hw];by_cases q:s=.ac w h
    ·simp[q]
    ·have zx: .ac w h∈ps:=by
       rcases List.mem_cons.mp hm with z|z
       ·exact absurd z.symm q
       ·exact z
     have k:=bQ (fun x hx=>hp x (List.mem_cons_of_mem _ hx)) zx;simp only[Function.comp,jh]at k;simp[q,k]
  exact this ps hp hm
 have l:(ps.map aG).length<1000000:=by rw[List.length_map];omega
 simp only[q1,Ao,HV,l,and_self,if_true,f]
def oB(ps:List aE)(h:Nat):Bool:=decide (.ac 1 h∈ps)&&(ps.drop (jh ps (.ac 1 h))).any iO
theorem YS{n:Nat}{ps:List aE}(hp:Ok n ps)(hl:ps.length<1000)(h:Nat):tq [.lst (ps.map aG),.int (h:Int)]=.ok (.v (.ax (oB ps h))):=by
 have e:(D.tup [.str (PySem.Str.ofString "turn"),.int (h:Int)])=aG (.ac 1 h):=rfl;have bk:=GR hp (w:=1) (h:=h) (by decide) true;simp only[if_true]at bk;unfold oB;by_cases hm: .ac 1 h∈ps
 ·have q3:=QC hp (w:=1) (h:=h) (by decide) hl hm;have cF:jZ (.lst (ps.map aG)) (some (jh ps (.ac 1 h):Int)) none=.ok (.lst ((ps.drop (jh ps (.ac 1 h))).map aG)):=by
   rw[Jf,o4,Ec]
  have QU:=QB (ps.drop (jh ps (.ac 1 h)));rw[Jf]at cF;rw[decide_eq_true hm]at bk ⊢;simp only[tq,ua,uQ];simp[e,bk,q3];rw[show ef (ps.map aG) (some (jh ps (.ac 1 h):Int)) none=(ps.drop (jh ps (.ac 1 h))).map aG from by rw[o4,Ec],QU];simp
 ·rw[decide_eq_false hm]at bk ⊢;simp[tq,uQ,e,bk]
def nd(ps:List aE)(ds:List aw):Option Nat:=(ds.find? fun d=>!decide (.ac 0 d.1∈ps)).map (·.1)
theorem J1{n:Nat}{ps:List aE}(hp:Ok n ps):∀(ds:List aw)(s1 s2:cO),
  (e9 (a8 2) (ck (aW (ag (inD false) (cD (ae (aj (.str (PySem.Str.ofString "teach"))) (ae (ag ay (J 2) (aj (.int 0))) (ar)))) (J 0))) (bU (ag ay (J 2) (aj (.int 0)))) (cw)) (ds.map aO) [.ak (.lst (ps.map aG)),s1,s2]).bind (gC (bU (aj .non)))=.ok (.dH (dq (nd ps ds)))
 |[],s1,s2=>by simp[nd,dq]
 |d::ds,s1,s2=>by
  have bQ:=J1 hp ds s1 (.ak (aO d));have fk:ay (aO d) (.int 0)=.ok (.int (d.1:Int)):=rfl;have e:(D.tup [.str (PySem.Str.ofString "teach"),.int (d.1:Int)])=aG (.ac 0 d.1):=rfl;have bk:=GR hp (w:=0) (h:=d.1) (by decide) false;simp only[Bool.false_eq_true,if_false]at bk;unfold nd;rw[List.map_cons,e9,List.find?_cons];by_cases hm: .ac 0 d.1∈ps
  ·rw[decide_eq_true hm]at bk;simp[fk,e,bk,hm];exact bQ
  ·rw[decide_eq_false hm]at bk;simp[fk,e,bk,hm,dq]
theorem Yr{n:Nat}{ps:List aE}(hp:Ok n ps)(ds:List aw):tl [.lst (ps.map aG),.lst (ds.map aO)]=.ok (.v (dq (nd ps ds))):=by
 have k:=J1 hp ds (.ak (.lst (ds.map aO))) .un;have z:tl [.lst (ps.map aG),.lst (ds.map aO)]=((e9 (a8 2) (ck (aW (ag (inD false) (cD (ae (aj (.str (PySem.Str.ofString "teach"))) (ae (ag ay (J 2) (aj (.int 0))) (ar)))) (J 0))) (bU (ag ay (J 2) (aj (.int 0)))) (cw)) (ds.map aO) [.ak (.lst (ps.map aG)),.ak (.lst (ds.map aO)),.un]).bind (gC (bU (aj .non)))).bind outD:=by simp only[tl,ua,x6,l5,ub,w_];rfl
 rw[z,k];rfl
noncomputable def jr(ws:List (aw×aw))(bs:List (List dx))(a:Nat)(d:aw):List aw:=match walk (hX ws bs a) 1000 [] d with
 |some r=>r.1
 |none=>[]
noncomputable def hf(ws:List (aw×aw))(old new:List (List dx))(ps:List aE)(p:Nat)(d:aw)(a:Nat):Option Nat:=match ps[p]? with
 |some (.ac 1 h)=>if h=d.1 then nd (ps.take p) (jr ws new a d)else none
 |some (.ac 2 h)=>if oB (ps.take p) d.1=true then none else if h∈(jr ws old a d).map (·.1)then some h else none
 |_=>none
theorem CE{N:aw→On}:∀(n:Nat)(ds:List aw)(d:aw)(r:List aw×ml),walk N n ds d=some r→r.1.length≤ds.length+n
 |0,ds,d,r,h=>by simp[walk]at h
 |n+1,ds,d,r,h=>by
  simp only[walk]at h
  split at h
  ·cases h;simp
  ·split at h
   ·have:=CE n _ _ r h;simp at this;omega
   ·cases h;simp
   ·cases h;simp
theorem GS(h:Nat)(l:List Nat):inD true (.int (h:Int)) (.lst (l.map fun(x:Nat)=>D.int (x:Int)))=.ok (.ax (decide (h∈l))):=by
 have s:oq (.lst (l.map fun(x:Nat)=>D.int (x:Int)))=some (l.map fun(x:Nat)=>D.int (x:Int)):=rfl;have o:okN 7 (.int (h:Int))=true:=rfl;have b3:(l.map fun(x:Nat)=>D.int (x:Int)).all (okN 7)=true:=by rw[List.all_map,List.all_eq_true];intro x _;rfl
 have e:((l.map fun(x:Nat)=>D.int (x:Int)).any fun y=>bu y (.int (h:Int)))=decide (h∈l):=by
  rw[List.any_map,Bool.eq_iff_iff,List.any_eq_true,decide_eq_true_iff];constructor
  ·rintro⟨x,hx,q⟩;have q:((x:Int)==(h:Int))=true:=by simpa[bu]using q
   rw[beq_iff_eq]at q;have:x=h:=by omega
   rw[←this];exact hx
  ·intro hx;exact⟨h,hx,by simp[bu]⟩
 simp only[inD,s,o,b3,and_self,if_true,e]
theorem OT{cs:List Nat}{ws:List (aw×aw)}{old new:List (List dx)}(cx:gH cs ws)(ho:j3 cs old)(aC:j3 cs new){ps:List aE}(hp:Ok cs.length ps)(hl:ps.length<1000){p:Nat}(hpl:p<ps.length){d:aw}(hd:d∈c3 cs cs.length){a:Nat}(ha:a<16) :
  lY [cI cs ws,.lst (old.map br),.lst (new.map br),.lst (ps.map aG),.int (p:Int),aO d,.int (a:Int)]=.ok (.v (dq (hf ws old new ps p d a))):=by
 apply Ends.done;obtain⟨au,lz,aq⟩:=CF cx aC ha hd;obtain⟨bh,jq,az⟩:=CF cx ho ha hd;have d1:jr ws new a d=au.1:=by unfold jr;rw[lz]
 have ct:jr ws old a d=bh.1:=by unfold jr;rw[jq]
 have fk:ay (aO d) (.int 0)=.ok (.int (d.1:Int)):=rfl;have nZ:ay (.lst (ps.map aG)) (.int (p:Int))=.ok (aG ps[p]):=jO (by simp[hpl]);have cK:ef (ps.map aG) none (some (p:Int))=(ps.take p).map aG:=by rw[o4,uZ]
 have HW:Ok cs.length (ps.take p):=fun s hs=>hp s (List.mem_of_mem_take hs);have hs:=hp ps[p] (List.getElem_mem _);have iI:(D.tup [.str (PySem.Str.ofString "turn"),.int (d.1:Int)])=aG (.ac 1 d.1):=rfl;have Am:∀s:aE,okN 8 (aG s)=true:=fun s=>by
  cases s with
  |dA k=>cases k<;>rfl
  |ac w h=>rfl
 have nQ:b8 true (aG ps[p]) (aG (.ac 1 d.1))=.ok (.ax (decide (ps[p]=.ac 1 d.1))):=by simp only[b8,Am,and_self,if_true,u6 hs (show 1<3 by decide)]
 have kA:=Yr HW au.1;have gE:=YS HW (by simp;omega) d.1;have t0:∀r:List aw×ml,ay (jn r) (.int 0)=.ok (.lst (r.1.map aO)):=fun _=>rfl;unfold hf;rw[List.getElem?_eq_getElem hpl,d1,ct];cases es:ps[p]with
 |dA k=>
  rw[es]at nZ nQ;have k0:ay (aG (.dA k)) (.int 0)=.ok (.str wS):=by cases k<;>rfl
  have n2:b8 true (.str wS) (.str (PySem.Str.ofString "forget"))=.ok (.ax false):=rfl;simp[lY,nJ,nZ,cK,fk,iI,nQ,k0,n2,dq,-List.map_take]
 |ac w h=>
  rw[es]at nZ nQ hs;have hw:=hs.1;have Gn:w=0∨w=1∨w=2:=by omega
  have k0:ay (aG (.ac w h)) (.int 0)=.ok (.str (fM w)):=rfl;have k1:ay (aG (.ac w h)) (.int 1)=.ok (.int (h:Int)):=rfl;rcases Gn with rfl|rfl|rfl
  ·have n2:b8 true (.str (fM 0)) (.str (PySem.Str.ofString "forget"))=.ok (.ax false):=rfl;simp[lY,nJ,nZ,cK,fk,iI,nQ,k0,n2,dq,-List.map_take]
  ·have n2:b8 true (.str (fM 1)) (.str (PySem.Str.ofString "forget"))=.ok (.ax false):=rfl;by_cases q:h=d.1
   ·subst q;simp[lY,nJ,nZ,cK,fk,iI,nQ,aq,t0,kA,-List.map_take]
   ·have dR:¬(aE.ac 1 h=.ac 1 d.1):=fun z=>q (by cases z;rfl);simp[lY,nJ,nZ,cK,fk,iI,nQ,q,k0,n2,dq,-List.map_take]
  ·have n2:b8 true (.str (fM 2)) (.str (PySem.Str.ofString "forget"))=.ok (.ax true):=rfl;cases Gp:oB (ps.take p) d.1 with
   |true=>rw[Gp]at gE;simp[lY,nJ,nZ,cK,fk,iI,nQ,k0,n2,gE,dq,-List.map_take]
   |false=>
    rw[Gp]at gE;simp[lY,nJ,nZ,cK,fk,iI,nQ,k0,k1,n2,gE,-List.map_take];refine nO (fun e:aw=>.int (e.1:Int)) (fun e=>.int (e.2:Int)) bh.1 (fun e=>.int (e.1:Int)) (by simp[az,t0];intros;rfl) ?_ (fun e _=>by simp) ?_
    ·have:=CE 1000 [] d bh jq;simpa using this
    ·have sY:=GS h (bh.1.map (·.1));rw[List.map_map]at sY;have zL:inD true (.int (h:Int)) (.lst (bh.1.map fun e=>D.int (e.1:Int)))=.ok (.ax (decide (h∈bh.1.map (·.1)))):=sY;simp only[zL];by_cases hm:h∈bh.1.map (·.1)
     ·rw[decide_eq_true hm,if_pos hm];simp[dq]
     ·rw[decide_eq_false hm,if_neg hm];simp[dq]
@[simp] theorem acf(m:b4)(ρ:ao):rA m ρ=gy (m ρ):=(rfl)
@[simp] theorem acd(m:aP)(ρ:ao):pQ m ρ=gy (m ρ):=(rfl)
@[simp] theorem ace(m:a0)(ρ:ao):tJ m ρ=gy (m ρ):=(rfl)
@[simp] theorem Th{α:Type}(a:α):gy (R.ok a)=.ok a:=(rfl)
@[simp] theorem abR(m:aD)(ρ:ao):n8 m ρ=(m ρ).bind fun _=>.ok (.bq ρ):=(rfl)
structure oV(jv:Prop)(I:ao→Prop)(r:R e4):Prop where
 ex:(jv∧∃x,r=.ok (.dH x)∧eX x=false)∨(¬jv∧∃bo,r=.ok (.bq bo)∧I bo)
theorem Jl{α:Type}{set:D→ao→R ao}{body:a0}{I:ao→Prop}(g:α→D)(jv:α→Prop):∀(xs:List α)(ρ:ao),(∀a∈xs,∀ρ,I ρ→oV (jv a) I ((set (g a) ρ).bind body))→I ρ→oV (∃a∈xs,jv a) I (e9 set body (xs.map g) ρ)
 |[],ρ,_,h=>⟨.inr ⟨by simp,ρ,rfl,h⟩⟩
 |a::xs,ρ,st,h=>by
  have s1:=st a List.mem_cons_self ρ h;rw[List.map_cons,e9];cases es:set (g a) ρ with
  |bad=>rw[es]at s1;rcases s1.ex with⟨_,x,z,_⟩|⟨_,x,z,_⟩<;>cases z
  |exc c=>rw[es]at s1;rcases s1.ex with⟨_,x,z,_⟩|⟨_,x,z,_⟩<;>cases z
  |ok d2=>
   rw[es,df]at s1;rw[df];rcases s1.ex with⟨hb,x,e,hx⟩|⟨hb,bo,e,iK⟩
   ·rw[e,df];exact⟨.inl ⟨⟨a,List.mem_cons_self,hb⟩,x,rfl,hx⟩⟩
   ·rw[e,df];have bQ:=Jl g jv xs bo (fun b kU=>st b (List.mem_cons_of_mem _ kU)) iK;rcases bQ.ex with⟨⟨b,sN,vo⟩,z⟩|⟨aC,z⟩
    ·exact⟨.inl ⟨⟨b,List.mem_cons_of_mem _ sN,vo⟩,z⟩⟩
    ·refine⟨.inr ⟨?_,z⟩⟩;rintro⟨b,sN,vo⟩;rcases List.mem_cons.mp sN with rfl|sN
     ·exact hb vo
     ·exact aC ⟨b,sN,vo⟩
theorem B1{α:Type}{mi:aP}{set:D→ao→R ao}{body:a0}{I:ao→Prop}{ρ:ao}(g:α→D)(xs:List α)(jv:α→Prop)(hi:mi ρ=.ok (xs.map g))(st:∀a∈xs,∀ρ,I ρ→oV (jv a) I ((set (g a) ρ).bind body))(h:I ρ):oV (∃a∈xs,jv a) I (d3 mi set body ρ):=by rw[ub,hi,df];exact Jl g jv xs ρ st h
theorem oV.mono{jv Dd:Prop}{I jx:ao→Prop}{r:R e4}(h:oV jv I r)(hb:jv↔Dd)(hi:∀ρ,I ρ→jx ρ):oV Dd jx r:=by
 rcases h.ex with⟨a,b⟩|⟨a,ρ,b,c⟩
 ·exact⟨.inl ⟨hb.mp a,b⟩⟩
 ·exact⟨.inr ⟨fun z=>a (hb.mpr z),ρ,b,hi ρ c⟩⟩
noncomputable def r0(ws:List (aw×aw))(cs:List Nat)(old new:List (List dx))(ps:List aE):Prop:=∃p∈List.range ps.length,∃d∈outs cs ws cs.length,∃a∈List.range 16,hf ws old new ps p d a≠none
theorem WW(cs:List Nat)(ws:List (aw×aw)):p0 "Net" "outer" (cI cs ws)=.ok (cI cs ws):=rfl
theorem Sf{cs:List Nat}{ws:List (aw×aw)}{old new:List (List dx)}(cx:gH cs ws)(ho:j3 cs old)(aC:j3 cs new){ps:List aE}(hp:Ok cs.length ps)(hl:ps.length<1000) :
  ∃x,tv [cI cs ws,.lst (old.map br),.lst (new.map br),.lst (ps.map aG)]=.ok (.v x)∧(eX x=false↔r0 ws cs old new ps):=by
 have S:=B1 (mi:=fm (ae (bZ cV (ae (J 3) (ar))) (ar))) (set:=a8 4) (body:=d3 (ea (kn "Net" "outer" 0 tj (J 0) (ar))) (a8 5) (d3 (ea (cj (gv 1 vP (ae (aj (.str (PySem.Str.ofString "xxxx"))) (ar))))) (a8 6) (aR (cp 7 (bR 7 lY (ae (J 0) (ae (J 1) (ae (J 2) (ae (J 3) (ae (J 4) (ae (J 5) (ae (J 6) (ar))))))))))
  (ck (aW (ag (eh false) (J 7) (aj .non))) (bU (cD (ae (J 4) (ae (J 5) (ae (J 6) (ae (J 7) (ar))))))) (cw)))))
  (I:=fun ρ=>∃s4 s5 cT cR,ρ=[.ak (cI cs ws),.ak (.lst (old.map br)),.ak (.lst (new.map br)),.ak (.lst (ps.map aG)),s4,s5,cT,cR])
  (ρ:=[.ak (cI cs ws),.ak (.lst (old.map br)),.ak (.lst (new.map br)),.ak (.lst (ps.map aG)),.un,.un,.un,.un])
  (fun(p:Nat)=>D.int (p:Int)) (List.range ps.length) (fun p=>∃d∈outs cs ws cs.length,∃a∈List.range 16,hf ws old new ps p d a≠none)
  (by simp(disch:=first|omega|(simp;done)|(simp;omega)) [AM]) ?_ ⟨_,_,_,_,rfl⟩
 ·rcases S.ex with⟨hb,x,e,hx⟩|⟨hb,bo,e,s4,s5,cT,cR,rfl⟩
  ·refine⟨x,?_,fun _=>hb,fun _=>hx⟩;have z:tv [cI cs ws,.lst (old.map br),.lst (new.map br),.lst (ps.map aG)]=((R.ok (e4.dH x)).bind (gC (bU (aj .non)))).bind outD:=by rw[←e];rfl
   rw[z];rfl
  ·refine⟨.non,?_,(fun z=>Bool.noConfusion (show true=false from z)),fun z=>absurd z hb⟩;have z:tv [cI cs ws,.lst (old.map br),.lst (new.map br),.lst (ps.map aG)]=((R.ok (e4.bq [.ak (cI cs ws),.ak (.lst (old.map br)),.ak (.lst (new.map br)),.ak (.lst (ps.map aG)),s4,s5,cT,cR])).bind (gC (bU (aj .non)))).bind outD:=by rw[←e];rfl
   rw[z];rfl
 ·rintro p Pn _ ⟨s4,s5,cT,cR,rfl⟩;have hpl:p<ps.length:=List.mem_range.mp Pn;have eu:a8 4 (.int (p:Int)) [.ak (cI cs ws),.ak (.lst (old.map br)),.ak (.lst (new.map br)),.ak (.lst (ps.map aG)),s4,s5,cT,cR]=.ok [.ak (cI cs ws),.ak (.lst (old.map br)),.ak (.lst (new.map br)),.ak (.lst (ps.map aG)),.ak (.int (p:Int)),s5,cT,cR]:=rfl;rw[eu,df];refine(B1 (I:=fun ρ=>∃s5 cT cR,ρ=[.ak (cI cs ws),.ak (.lst (old.map br)),.ak (.lst (new.map br)),.ak (.lst (ps.map aG)),.ak (.int (p:Int)),s5,cT,cR]) aO (outs cs ws cs.length) (fun d=>∃a∈List.range 16,hf ws old new ps p d a≠none) (by simp[WW,Ud cx]) ?_ ⟨_,_,_,rfl⟩).mono Iff.rfl fun ρ⟨s5,cT,cR,e⟩=>⟨_,s5,cT,cR,e⟩;rintro d hd _ ⟨s5,cT,cR,rfl⟩;have ij:d∈c3 cs cs.length:=(List.mem_filter.mp hd).1;have gZ:a8 5 (aO d) [.ak (cI cs ws),.ak (.lst (old.map br)),.ak (.lst (new.map br)),.ak (.lst (ps.map aG)),.ak (.int (p:Int)),s5,cT,cR]=.ok [.ak (cI cs ws),.ak (.lst (old.map br)),.ak (.lst (new.map br)),.ak (.lst (ps.map aG)),.ak (.int (p:Int)),.ak (aO d),cT,cR]:=rfl;rw[gZ,df];refine(B1 (I:=fun ρ=>∃cT cR,ρ=[.ak (cI cs ws),.ak (.lst (old.map br)),.ak (.lst (new.map br)),.ak (.lst (ps.map aG)),.ak (.int (p:Int)),.ak (aO d),cT,cR]) (fun(a:Nat)=>D.int (a:Int)) (List.range 16) (fun a=>hf ws old new ps p d a≠none) (by simp only[w_,YA,Yy,rP,Cu,qa,df,List.length_cons,List.length_nil,if_true,Lh,VO];rfl) ?_ ⟨_,_,rfl⟩).mono Iff.rfl fun ρ⟨cT,cR,e⟩=>⟨_,cT,cR,e⟩;rintro a ha _ ⟨cT,cR,rfl⟩;have OG:a<16:=List.mem_range.mp ha;have h:=OT cx ho aC hp hl hpl ij OG;have jF:a8 6 (.int (a:Int)) [.ak (cI cs ws),.ak (.lst (old.map br)),.ak (.lst (new.map br)),.ak (.lst (ps.map aG)),.ak (.int (p:Int)),.ak (aO d),cT,cR]=.ok [.ak (cI cs ws),.ak (.lst (old.map br)),.ak (.lst (new.map br)),.ak (.lst (ps.map aG)),.ak (.int (p:Int)),.ak (aO d),.ak (.int (a:Int)),cR]:=rfl;have g8:∀x:D,eh false x .non=.ok (.ax (!eX x)):=fun _=>rfl;rw[jF,df];cases e:hf ws old new ps p d a with
  |none=>rw[e]at h;refine⟨.inr ⟨by simp,_,?_,.ak (.int (a:Int)),.ak .non,rfl⟩⟩;simp[h,dq,g8,show eX .non=true from rfl]
  |some k=>rw[e]at h;refine⟨.inl ⟨by simp,.tup [.int (p:Int),aO d,.int (a:Int),.int (k:Int)],?_,rfl⟩⟩;simp[h,dq,g8,show eX (.int (k:Int))=false from rfl]
theorem j5.p{cs:List Nat}{bs:List (List dx)}(h:j5 cs bs):j3 cs bs:=⟨h.l,fun b hb r hr=>by obtain⟨i,hi⟩:=List.mem_iff_getElem?.mp hb;exact((h.b i b hi).r r hr).p⟩
theorem y7{cs:List Nat}{ws:List (aw×aw)}{old new:List (List dx)}(cx:gH cs ws)(ho:j5 cs old)(aC:j5 cs new){ps:List aE}(hp:hG cs.length ps)(hl:ps.length≤40) :
  ∃x,ro [cI cs ws,.lst (old.map br),.lst (new.map br),.lst (ps.map aG)]=.ok (.v x)∧(eX x=false↔r0 ws cs old new ps):=by
 obtain⟨x,e,hx⟩:=Sf cx ho.p aC.p hp.ok (by omega);refine⟨x,?_,hx⟩;have Zv:=DZ (ws:=ws) cx.h6 ho;have Zu:=DZ (ws:=ws) cx.h6 aC;have Zw:=UZ (ws:=ws) hp hl;have Ub:∀ρ:ao,outD (.bq ρ)=.ok (.v .non):=fun _=>rfl;simp[ro,x5,Ab,yC,vW,yB,Zv,Zu,Zw,e,Ub]
structure uj(n:Nat)(A:List aE)(x:aE):Prop where
 p9:∀h,x=.ac 1 h→∀h',h'<n→.ac 0 h'∈A
 gL:∀h,x=.ac 2 h→∀h',h'<n→∃k,List.Sublist [.ac 1 h',.dA k] A
def Good(n:Nat)(ps:List aE):Prop:=∀A x B,ps=A++x::B→uj n A x
theorem uj.mono{n:Nat}{A nt:List aE}{x:aE}(h:uj n A x)(s:List.Sublist A nt):uj n nt x:=⟨fun k e h' hh=>s.subset (h.p9 k e h' hh),fun k e h' hh=>by obtain⟨k',q⟩:=h.gL k e h' hh;exact⟨k',q.trans s⟩⟩
theorem Ka{t:aE}{k:Bool}:∀{A:List aE},List.Sublist [t,.dA k] A→(A.drop (jh A t)).any iO=true
 |[],h=>by cases h
 |y::A,h=>by
  unfold jh;rw[List.findIdx_cons];by_cases q:y=t
  ·simp only[q,decide_true,cond_true,List.drop_zero];rw[List.any_eq_true];exact⟨.dA k,by rw[←q];exact h.subset (by simp),rfl⟩
  ·simp only[q,decide_false,cond_false,List.drop_succ_cons];refine Ka (A:=A) (k:=k) ?_;cases h with
   |cons _ h=>exact h
   |cons_cons _ h=>exact absurd rfl q
theorem CD{A:List aE}{h:Nat}{k:Bool}(s:List.Sublist [.ac 1 h,.dA k] A):oB A h=true:=by unfold oB;rw[decide_eq_true (s.subset (by simp)),Ka s];rfl
theorem Kc{N:aw→On}{S:List aw}(cl:∀d∈S,∀e,N d=.to e→e∈S):∀(n:Nat)(ds:List aw)(d:aw)(r:List aw×ml),(∀x∈ds,x∈S)→d∈S→walk N n ds d=some r→∀x∈r.1,x∈S
 |0,ds,d,r,_,_,h=>by simp[walk]at h
 |n+1,ds,d,r,hs,hd,h=>by
  have jg:∀x∈ds++[d],x∈S:=fun x hx=>by
   rcases List.mem_append.mp hx with hx|hx
   ·exact hs x hx
   ·rw[List.mem_singleton.mp hx];exact hd
  simp only[walk]at h
  split at h
  ·cases h;exact hs
  ·split at h
   ·rename_i e;exact Kc cl n _ _ r jg (cl d hd _ e) h
   ·cases h;exact jg
   ·cases h;exact jg
theorem xb{cs:List Nat}{ws:List (aw×aw)}{bs:List (List dx)}(cx:gH cs ws)(a:Nat){d:aw}(hd:d∈c3 cs cs.length):∀x∈jr ws bs a d,x.1<cs.length:=by
 unfold jr
 split
 ·rename_i r e;intro x hx;exact(kr.mp (Kc (N:=hX ws bs a) (S:=c3 cs cs.length) (fun d _ e he=>Al cx he) 1000 [] d r (by simp) hd e x hx)).1
 ·simp
theorem p2{ps:List aE}{p:Nat}{s:aE}(h:ps[p]?=some s):ps=ps.take p++s::ps.drop (p+1):=by obtain⟨hp,e⟩:=List.getElem?_eq_some_iff.mp h;rw[←e];simp
theorem good_none{cs:List Nat}{ws:List (aw×aw)}{old new:List (List dx)}(cx:gH cs ws){ps:List aE}(g:Good cs.length ps):¬r0 ws cs old new ps:=by
 rintro⟨p,_,d,hd,a,_,h⟩;have ij:d∈c3 cs cs.length:=(List.mem_filter.mp hd).1;apply h;unfold hf
 split
 ·rename_i k e;have g1:=g _ _ _ (p2 e)
  split
  ·unfold nd;rw[List.find?_eq_none.mpr,Option.map_none];intro x hx;rw[decide_eq_true (g1.p9 k rfl x.1 (xb cx a ij x hx))];simp
  ·rfl
 ·rename_i k e;have g1:=g _ _ _ (p2 e);obtain⟨k',s⟩:=g1.gL k rfl d.1 (kr.mp ij).1;rw[if_pos (CD s)]
 ·rfl
theorem iF{α:Type}{x:α}:∀{T R A B:List α},x∉T→T++R=A++x::B→∃nt,A=T++nt∧R=nt++x::B
 |[],R,A,B,_,e=>⟨A,rfl,e⟩
 |t::T,R,[],B,h,e=>by simp only[List.cons_append,List.nil_append,List.cons.injEq]at e;exact absurd (by rw[e.1];exact List.mem_cons_self) h
 |t::T,R,a::A,B,h,e=>by simp only[List.cons_append,List.cons.injEq]at e;obtain⟨nt,h1,h2⟩:=iF (fun z=>h (List.mem_cons_of_mem _ z)) e.2;exact⟨nt,by rw[h1,e.1];rfl,h2⟩
theorem k_{w fq h:Nat}{l:List Nat}(hw:fq≠w):aE.ac fq h∉l.map (aE.ac w):=fun z=>by obtain⟨x,_,e⟩:=List.mem_map.mp z;cases e;exact hw rfl
theorem Cr{A:List aE}{ul:List Nat}{h:Nat}(hu:h∈ul){W R:List aE}{k:Bool}(hw: .dA k∈W):List.Sublist [.ac 1 h,.dA k] (A++(ul.map (aE.ac 1)++(W++R))):=by have s1:List.Sublist [aE.ac 1 h] (ul.map (aE.ac 1)):=List.singleton_sublist.mpr (List.mem_map.mpr ⟨h,hu,rfl⟩);have s2:List.Sublist [aE.dA k] W:=List.singleton_sublist.mpr hw;have s3:=s1.append (s2.append (List.nil_sublist R));exact List.Sublist.trans s3 (List.sublist_append_right _ _)
theorem sI{n:Nat}{bH ul fl:List Nat}{W:List aE}(ht:∀h,h<n→h∈bH)(hw:∀s∈W,iO s=true)(hf:fl≠[]→(∀h,h<n→h∈ul)∧∃k,.dA k∈W):Good n (bH.map (aE.ac 0)++(ul.map (aE.ac 1)++(W++fl.map (aE.ac 2)))):=by
 intro A x B e;constructor
 ·rintro h rfl h' hh;obtain⟨nt,rfl,_⟩:=iF (k_ (by decide)) e;exact List.mem_append_left _ (List.mem_map.mpr ⟨h',ht h' hh,rfl⟩)
 ·rintro h rfl h' hh;obtain⟨nu,rfl,aq⟩:=iF (k_ (by decide)) e;obtain⟨qr,rfl,az⟩:=iF (k_ (by decide)) aq;obtain⟨qs,rfl,b7⟩:=iF (fun z=>by have:=hw _ z;cases this) az;have aC:fl≠[]:=fun z=>by rw[z]at b7;simp at b7
  obtain⟨hu,k,hk⟩:=hf aC;exact⟨k,Cr (hu h' hh) hk⟩
theorem Ov{n:Nat}{X Y:List aE}{k:Bool}(g:Good n (X++Y)):Good n (X++.dA k::Y):=by
 intro A x B e;by_cases hx:iO x=true
 ·exact⟨(fun h z=>by rw[z]at hx;cases hx),(fun h z=>by rw[z]at hx;cases hx)⟩
 ·rcases List.append_eq_append_iff.mp e with⟨jB,h1,h2⟩|⟨ej,h1,h2⟩
  ·cases jB with
   |nil=>simp only[List.nil_append,List.cons.injEq]at h2;exact absurd (by rw[←h2.1];rfl) hx
   |cons y xS=>simp only[List.cons_append,List.cons.injEq]at h2;have q:=g (X++xS) x B (by rw[h2.2,List.append_assoc]);rw[h1,←h2.1];exact q.mono ((List.Sublist.refl X).append (List.sublist_cons_self _ _))
  ·cases ej with
   |nil=>simp only[List.nil_append,List.cons.injEq]at h2;exact absurd (by rw[h2.1];rfl) hx
   |cons y LO=>simp only[List.cons_append,List.cons.injEq]at h2;exact g A x (LO++Y) (by rw[h1,←h2.1];simp)
theorem J2{A:List aE}{n h0:Nat}(h1:∀h,h<n→h≠h0→.ac 0 h∈A)(h2: .ac 0 h0∉A){ds:List aw}(hd:∀d∈ds,d.1<n):nd A ds≠none↔h0∈ds.map (·.1):=by
 unfold nd;rw[ne_eq,Option.map_eq_none_iff,List.find?_eq_none];constructor
 ·intro h;apply Classical.byContradiction;intro aC;apply h;intro x hx;have:x.1≠h0:=fun z=>aC (List.mem_map.mpr ⟨x,hx,z⟩);rw[decide_eq_true (h1 x.1 (hd x hx) this)];simp
 ·intro hm h;obtain⟨x,hx,e⟩:=List.mem_map.mp hm;have:=h x hx;rw[e,decide_eq_false h2]at this;simp at this
theorem R6{cs:List Nat}{ws:List (aw×aw)}{old new:List (List dx)}(cx:gH cs ws){bH ul fl:List Nat}{W:List aE}{h0:Nat}(ht:∀h,h<cs.length→h≠h0→h∈bH)(Ox:h0∉bH)(hu:∀h,h<cs.length→h∈ul)(hw:∀s∈W,iO s=true)(hk:∃k,.dA k∈W) :
  r0 ws cs old new (bH.map (aE.ac 0)++(ul.map (aE.ac 1)++(.ac 0 h0::(W++fl.map (aE.ac 2)))))↔∃d∈outs cs ws cs.length,∃a∈List.range 16,h0∈(jr ws new a d).map (·.1):=by
 generalize nS:bH.map (aE.ac 0)++(ul.map (aE.ac 1)++(.ac 0 h0::(W++fl.map (aE.ac 2))))=ps;have p9:∀A h B,ps=A++.ac 1 h::B→(∀h',h'<cs.length→h'≠h0→.ac 0 h'∈A)∧.ac 0 h0∉A:=fun A h B e=>by
  rw[←nS]at e;obtain⟨nu,rfl,aq⟩:=iF (k_ (by decide)) e;refine⟨fun h' hh aC=>List.mem_append_left _ (List.mem_map.mpr ⟨h',ht h' hh aC,rfl⟩),fun z=>?_⟩;rcases List.mem_append.mp z with z|z
  ·obtain⟨x,hx,q⟩:=List.mem_map.mp z;cases q;exact Ox hx
  ·rcases List.append_eq_append_iff.mp aq with⟨jB,aS,bl⟩|⟨ej,aS,bl⟩
   ·cases jB with
    |nil=>simp at bl
    |cons y xS=>
     simp only[List.cons_append,List.cons.injEq]at bl;have dw:W++fl.map (aE.ac 2)=xS++.ac 1 h::B:=bl.2;have:aE.ac 1 h∈W++fl.map (aE.ac 2):=by rw[dw];simp
     rcases List.mem_append.mp this with m|m
     ·have:=hw _ m;cases this
     ·exact k_ (by decide) m
   ·have:aE.ac 0 h0∈ul.map (aE.ac 1):=by rw[aS];exact List.mem_append_left _ z
    exact k_ (by decide) this
 have gL:∀A h B,ps=A++.ac 2 h::B→∀h',h'<cs.length→∃k,List.Sublist [.ac 1 h',.dA k] A:=fun A h B e h' hh=>by rw[←nS]at e;obtain⟨nu,rfl,aq⟩:=iF (k_ (by decide)) e;obtain⟨qr,rfl,az⟩:=iF (k_ (by decide)) aq;obtain⟨qs,rfl,b7⟩:=iF (T:=[aE.ac 0 h0]) (x:=aE.ac 2 h) (by simp) (show[aE.ac 0 h0]++(W++fl.map (aE.ac 2))=_ from az);obtain⟨oJ,rfl,_⟩:=iF (fun z=>by have:=hw _ z;cases this) b7;obtain⟨k,hk⟩:=hk;refine⟨k,?_⟩;have:=Cr (A:=bH.map (aE.ac 0)) (hu h' hh) (W:=[.ac 0 h0]++W) (R:=oJ) (k:=k) (List.mem_append_right _ hk);simpa using this
 constructor
 ·rintro⟨p,_,d,hd,a,ha,h⟩;have ij:d∈c3 cs cs.length:=(List.mem_filter.mp hd).1;refine⟨d,hd,a,ha,?_⟩;unfold hf at h
  split at h
  ·rename_i k e;obtain⟨t1,b2⟩:=p9 _ _ _ (p2 e)
   split at h
   ·exact(J2 t1 b2 (xb cx a ij)).mp h
   ·exact absurd rfl h
  ·rename_i k e;obtain⟨k',s⟩:=gL _ _ _ (p2 e) d.1 (kr.mp ij).1;rw[if_pos (CD s)]at h;exact absurd rfl h
  ·exact absurd rfl h
 ·rintro⟨d,hd,a,ha,hm⟩;have ij:d∈c3 cs cs.length:=(List.mem_filter.mp hd).1;have Pb:aE.ac 1 d.1∈ps:=by
   rw[←nS];exact List.mem_append_right _ (List.mem_append_left _ (List.mem_map.mpr ⟨d.1,hu _ (kr.mp ij).1,rfl⟩))
  obtain⟨p,e⟩:=List.mem_iff_getElem?.mp Pb;have hp:=(List.getElem?_eq_some_iff.mp e).1;refine⟨p,List.mem_range.mpr hp,d,hd,a,ha,?_⟩;obtain⟨t1,b2⟩:=p9 _ _ _ (p2 e);unfold hf;rw[e];simp only[if_true];exact(J2 t1 b2 (xb cx a ij)).mpr hm
theorem R4{cs:List Nat}{ws:List (aw×aw)}{old new:List (List dx)}(cx:gH cs ws){bH ul fl:List Nat}{W:List aE}{h0:Nat}(ht:∀h,h<cs.length→h∈bH)(aac:h0∉fl)(hu:∀h,h<cs.length→h∈ul)(hw:∀s∈W,iO s=true)(hk:∃k,.dA k∈W) :
  r0 ws cs old new (bH.map (aE.ac 0)++(ul.map (aE.ac 1)++(.ac 2 h0::(W++fl.map (aE.ac 2)))))↔∃d∈outs cs ws cs.length,∃a∈List.range 16,h0∈(jr ws old a d).map (·.1):=by
 generalize nS:bH.map (aE.ac 0)++(ul.map (aE.ac 1)++(.ac 2 h0::(W++fl.map (aE.ac 2))))=ps;have p9:∀A h B,ps=A++.ac 1 h::B→∀h',h'<cs.length→.ac 0 h'∈A:=fun A h B e h' hh=>by rw[←nS]at e;obtain⟨nu,rfl,aq⟩:=iF (k_ (by decide)) e;exact List.mem_append_left _ (List.mem_map.mpr ⟨h',ht h' hh,rfl⟩)
 have gL:∀A h B,ps=A++.ac 2 h::B→h≠h0→∀h',h'<cs.length→∃k,List.Sublist [.ac 1 h',.dA k] A:=fun A h B e aC h' hh=>by rw[←nS]at e;obtain⟨nu,rfl,aq⟩:=iF (k_ (by decide)) e;obtain⟨qr,rfl,az⟩:=iF (k_ (by decide)) aq;obtain⟨qs,rfl,b7⟩:=iF (T:=[aE.ac 2 h0]) (x:=aE.ac 2 h) (by simpa using aC) (show[aE.ac 2 h0]++(W++fl.map (aE.ac 2))=_ from az);obtain⟨oJ,rfl,_⟩:=iF (fun z=>by have:=hw _ z;cases this) b7;obtain⟨k,hk⟩:=hk;refine⟨k,?_⟩;have:=Cr (A:=bH.map (aE.ac 0)) (hu h' hh) (W:=[.ac 2 h0]++W) (R:=oJ) (k:=k) (List.mem_append_right _ hk);simpa using this
 constructor
 ·rintro⟨p,_,d,hd,a,ha,h⟩;have ij:d∈c3 cs cs.length:=(List.mem_filter.mp hd).1;refine⟨d,hd,a,ha,?_⟩;unfold hf at h
  split at h
  ·rename_i k e
   split at h
   ·exfalso;apply h;unfold nd;rw[List.find?_eq_none.mpr,Option.map_none];intro x hx;rw[decide_eq_true (p9 _ _ _ (p2 e) x.1 (xb cx a ij x hx))];simp
   ·exact absurd rfl h
  ·rename_i k e;by_cases q:k=h0
   ·subst q
    split at h
    ·exact absurd rfl h
    ·split at h
     ·assumption
     ·exact absurd rfl h
   ·obtain⟨k',s⟩:=gL _ _ _ (p2 e) q d.1 (kr.mp ij).1;rw[if_pos (CD s)]at h;exact absurd rfl h
  ·exact absurd rfl h
 ·rintro⟨d,hd,a,ha,hm⟩
  let p:=(bH.map (aE.ac 0)++ul.map (aE.ac 1)).length
  have e:ps[p]?=some (.ac 2 h0):=by rw[←nS,←List.append_assoc,List.getElem?_append_right (Nat.le_refl _),Nat.sub_self];rfl
  have iI:ps.take p=bH.map (aE.ac 0)++ul.map (aE.ac 1):=by rw[←nS,←List.append_assoc,List.take_left]
  have hp:=(List.getElem?_eq_some_iff.mp e).1;refine⟨p,List.mem_range.mpr hp,d,hd,a,ha,?_⟩;have nw:oB (ps.take p) d.1=false:=by
   unfold oB;rw[iI];have:((bH.map (aE.ac 0)++ul.map (aE.ac 1)).drop (jh (bH.map (aE.ac 0)++ul.map (aE.ac 1)) (.ac 1 d.1))).any iO=false:=by rw[List.any_eq_false];intro x hx;have hx:=List.mem_of_mem_drop hx;rcases List.mem_append.mp hx with hx|hx<;>(obtain⟨y,_,rfl⟩:=List.mem_map.mp hx;simp[iO])
   rw[this,Bool.and_false]
  unfold hf;rw[e];simp only[nw,Bool.false_eq_true,if_false,if_pos hm];simp
def d8(l:List Nat):List D:=l.map fun(x:Nat)=>D.int (x:Int)
theorem ne_nil{α:Type}(g:α→D)(hg:∀a,okN 7 (g a)=true)(l:List α):b8 false (.lst (l.map g)) (.lst [])=.ok (.ax (!l.isEmpty)):=by
 have cA:okN 8 (.lst (l.map g))=true:=by simp only[okN,List.all_map,List.all_eq_true];intro a _;exact hg a
 have b3:okN 8 (.lst [])=true:=rfl;have e:bu (.lst (l.map g)) (.lst [])=l.isEmpty:=by
  cases l with
  |nil=>rfl
  |cons a l=>simp[bu,dT]
 simp only[b8,cA,b3,and_self,if_true,e];rfl
theorem tB(c:Int)(k:Nat)(hk:k<900){n:Nat}(aC:0<n):∃(y:Int)(q:Nat),q<n∧gx [.int c,.int (k:Int)]=.ok (.v (.int y))∧y%(n:Int)=(q:Int):=by obtain⟨y,e⟩:=Af c k hk;obtain⟨q,aJ,eq⟩:=jV y (n:=n) aC;exact⟨y,q,aJ,e,eq⟩
def rJ:b4:=iP (aW (ag (b8 false) (J 3) (cj (dz (ar)))))
noncomputable def p1:a0:=(aR (cp 5 (aj (.int 5)))
    (aR (ck (aW (ag (b8 false) (J 1) (cj (dz (ar))))) (cp 5 (ip (ag ay (J 1) (ag dv (ag cC (bZ cV (ae (J 4) (ar))) (J 2)) (bZ cV (ae (J 1) (ar))))))) (cw))
    (mO 4 (k8 3 (ip (ag dv (bR 2 gx (ae (J 5) (ae (ag cC (bZ cV (ae (J 4) (ar))) (J 2)) (ar)))) (bZ cV (ae (J 3) (ar)))))))))
noncomputable def gI(X:D)(zs:List Int)(k:Nat)(found done:List Nat)(s5:cO):ao:=[.ak X,.ak (.lst (zs.map D.int)),.ak (.int (k:Int)),.cE (d8 found),.cE (d8 done),s5]
theorem W8(X:D)(zs:List Int)(k:Nat)(found done:List Nat)(s5:cO):rJ (gI X zs k found done s5)=.ok (!found.isEmpty):=by have e:=ne_nil (fun(x:Nat)=>D.int (x:Int)) (fun _=>rfl) found;have b6:b8 false (.lst (d8 found)) (.lst [])=.ok (.ax (!found.isEmpty)):=e;simp[rJ,gI,b6]
theorem W7(X:D)(zs:List Int)(k:Nat)(hk:k<100)(found done:List Nat)(hf:0<found.length)(hl:found.length<100)(hd:done.length<100)(s5:cO):∃(q:Nat)(aJ:q<found.length)(p5:cO),p1 (gI X zs k found done s5)=.ok (.bq (gI X zs k (found.eraseIdx q) (done++[found[q]]) p5)):=by
 have ln:∀l:List Nat,(d8 l).length=l.length:=fun l=>by simp[d8]
 have v_:∀i:Int,pT (.int i)=.ok (.int i):=fun _=>rfl;suffices h:∃c:Int,∀t:e4→R e4,((R.ok (e4.bq (gI X zs k found done (.ak (.int 5))))).bind fun f=>(gC (ck (aW (ag (b8 false) (J 1) (cj (dz (ar))))) (cp 5 (ip (ag ay (J 1) (ag dv (ag cC (bZ cV (ae (J 4) (ar))) (J 2)) (bZ cV (ae (J 1) (ar))))))) (cw)) f).bind t)=t (.bq (gI X zs k found done (.ak (.int c))))by
  obtain⟨c,h⟩:=h;obtain⟨y,q,aJ,aq,az⟩:=tB c (done.length+k) (by omega) hf;refine⟨q,aJ,.ak (.int c),?_⟩;have gY:gx [.int c,.int ((done.length:Int)+(k:Int))]=.ok (.v (.int y)):=by rw[←aq];simp
  have z:=h (gC (mO 4 (k8 3 (ip (ag dv (bR 2 gx (ae (J 5) (ae (ag cC (bZ cV (ae (J 4) (ar))) (J 2)) (ar)))) (bZ cV (ae (J 3) (ar))))))));have aZ:p1 (gI X zs k found done s5)=(mO 4 (k8 3 (ip (ag dv (bR 2 gx (ae (J 5) (ae (ag cC (bZ cV (ae (J 4) (ar))) (J 2)) (ar)))) (bZ cV (ae (J 3) (ar))))))) (gI X zs k found done (.ak (.int c))):=by rw[p3]at z;rw[←z];have V0:cp 5 (aj (.int 5)) (gI X zs k found done s5)=.ok (.bq (gI X zs k found done (.ak (.int 5)))):=rfl;simp only[p1,l5,V0,df,p3]
  rw[aZ];have po:=AE (fun(x:Nat)=>D.int (x:Int)) (l:=found) (i:=3) aJ (by omega) (gI X zs k found done (.ak (.int c)));have U2:tQ 3 (d8 found) [.ak X,.ak (.lst (zs.map D.int)),.ak (.int (k:Int)),.cE (d8 found),.cE (d8 done),.ak (.int c)] (.int (q:Int))=.ok (.int (found[q]:Int),[.ak X,.ak (.lst (zs.map D.int)),.ak (.int (k:Int)),.cE (d8 (found.eraseIdx q)),.cE (d8 done),.ak (.int c)]):=po;have ld:(d8 done).length<1000000:=by rw[ln];omega
  simp(disch:=first|omega|(simp;done)|(simp;omega)) [gI,ln,gY,az,v_,U2];simp[d8]
 have e:=ne_nil D.int (fun _=>rfl) zs;cases bj:zs.isEmpty with
 |true=>rw[bj]at e;refine⟨5,fun t=>?_⟩;simp[gI,e]
 |false=>
  rw[bj]at e;have PE:0<zs.length:=by
   cases zs with
   |nil=>simp at bj
   |cons a l=>simp
  obtain⟨q,aJ,eq⟩:=jV ((done.length:Int)+(k:Int)) (n:=zs.length) PE;have q3:ay (.lst (zs.map D.int)) (.int (q:Int))=.ok (.int zs[q]):=jO (by simp[aJ]);refine⟨zs[q],fun t=>?_⟩;simp(disch:=first|omega|(simp;done)|(simp;omega)) [gI,e,ln,eq,q3,v_]
theorem Je(X:D)(zs:List Int)(k:Nat)(hk:k<100):∀(n:Nat)(found done:List Nat)(s5:cO),found.length<n→found.length+done.length<100→∃(l:List Nat)(p5:cO),l.Perm (done++found)∧js rJ p1 n (gI X zs k found done s5)=.ok (.bq (gI X zs k [] l p5))
 |0,found,done,s5,h,_=>by omega
 |n+1,found,done,s5,h,hl=>by
  rw[js,W8,df];cases found with
  |nil=>exact⟨done,s5,by simp,rfl⟩
  |cons x xs=>
   obtain⟨q,aJ,p5,e⟩:=W7 X zs k hk (x::xs) done (by simp) (by simp at hl ⊢;omega) (by omega) s5;simp only[List.isEmpty_cons,Bool.not_false,if_true,e,df];have le:((x::xs).eraseIdx q).length=xs.length:=by rw[List.length_eraseIdx,if_pos aJ];simp
   obtain⟨l,t',p,b6⟩:=Je X zs k hk n ((x::xs).eraseIdx q) (done++[(x::xs)[q]]) p5 (by rw[le];simp at h;omega) (by rw[le];simp at hl ⊢;omega);refine⟨l,t',p.trans ?_,b6⟩;rw[List.append_assoc];exact(List.Perm.refl done).append (u9 (x::xs) q aJ)
theorem BX(l:List Nat)(hl:l.length<50)(zs:List Int)(k:Nat)(hk:k<100):∃s9:List Nat,s9.Perm l∧l0 [.lst (d8 l),.lst (zs.map D.int),.int (k:Int)]=.ok (.o (d8 s9)):=by
 obtain⟨s9,p5,p,e⟩:=Je (.lst (d8 l)) zs k hk 1000 l [] .un (by omega) (by simp;omega);refine⟨s9,by simpa using p,?_⟩;have z:l0 [.lst (d8 l),.lst (zs.map D.int),.int (k:Int)]=((kq rJ p1 (gI (.lst (d8 l)) zs k l [] .un)).bind (gC (gw (iR 4)))).bind outD:=by have a:n4 [.lst (d8 l)]=.ok (d8 l):=rfl;have oI:l0 [.lst (d8 l),.lst (zs.map D.int),.int (k:Int)]=(aR (ez 3 (jT (ae (J 0) (ar)))) (aR (ez 4 (dz (ar))) (aR (kq rJ p1) (gw (iR 4)))) [.ak (.lst (d8 l)),.ak (.lst (zs.map D.int)),.ak (.int (k:Int)),.un,.un,.un]).bind outD:=rfl;rw[oI];have s3:ez 3 (jT (ae (J 0) (ar))) [.ak (.lst (d8 l)),.ak (.lst (zs.map D.int)),.ak (.int (k:Int)),.un,.un,.un]=.ok (.bq [.ak (.lst (d8 l)),.ak (.lst (zs.map D.int)),.ak (.int (k:Int)),.cE (d8 l),.un,.un]):=rfl;have s4:ez 4 (dz (ar)) [.ak (.lst (d8 l)),.ak (.lst (zs.map D.int)),.ak (.int (k:Int)),.cE (d8 l),.un,.un]=.ok (.bq (gI (.lst (d8 l)) zs k l [] .un)):=rfl;simp only[l5,s3,s4,df,p3]
 have az:kq rJ p1 (gI (.lst (d8 l)) zs k l [] .un)=.ok (.bq (gI (.lst (d8 l)) zs k [] s9 p5)):=e;rw[z,az];rfl
theorem ints_of:∀zs:List Int,px (zs.map D.int)=some zs
 |[]=>rfl
 |z::zs=>by simp[px,ints_of zs]
theorem B5(zs:List Int):ov [.lst (zs.map D.int)]=.ok (.int zs.sum):=by simp only[ov,ints_of]
structure Parts(n:Nat)(bH ul fl:List Nat)(m:Nat):Prop where
 t:bH.Perm (List.range n)
 u:ul.Perm (List.range n)
 f:fl.Perm (List.range n)
 m1:1≤m
 n6:m≤3
def eR(m:Nat):List aE:=List.replicate m (.dA false)
theorem U0(zs:List Int)(n:Nat)(aC:n≤6):∃(bH ul fl:List Nat)(m:Nat),Parts n bH ul fl m∧vU [.lst (zs.map D.int),.int (n:Int)]=.ok (.o [.lst ((bH.map (aE.ac 0)).map aG),.lst ((ul.map (aE.ac 1)).map aG),.lst ((eR m).map aG),.lst ((fl.map (aE.ac 2)).map aG)]):=by
 have c_:d8 (List.range n)=fg 0 n:=by simp[d8,fg]
 obtain⟨bH,pt,iI⟩:=BX (List.range n) (by simp;omega) zs 0 (by decide);obtain⟨ul,pu,kS⟩:=BX (List.range n) (by simp;omega) zs 7 (by decide);obtain⟨fl,tN,hJ⟩:=BX (List.range n) (by simp;omega) zs 14 (by decide);rw[c_]at iI kS hJ;have NQ:l0 [.lst (fg 0 n),.lst (zs.map D.int),.int 0]=.ok (.o (d8 bH)):=iI;have NR:l0 [.lst (fg 0 n),.lst (zs.map D.int),.int 7]=.ok (.o (d8 ul)):=kS;have o9:l0 [.lst (fg 0 n),.lst (zs.map D.int),.int 14]=.ok (.o (d8 fl)):=hJ;have lt:bH.length=n:=by rw[pt.length_eq];simp
 have aaU:ul.length=n:=by rw[pu.length_eq];simp
 have lf:fl.length=n:=by rw[tN.length_eq];simp
 obtain⟨y,q,aJ,dB,eq⟩:=tB zs.sum 60 (by decide) (n:=3) (by decide);have sx:gx [.int zs.sum,.int 60]=.ok (.v (.int y)):=dB;have NJ:y%3=(q:Int):=eq;refine⟨bH,ul,fl,1+q,⟨pt,pu,tN,by omega,by omega⟩,?_⟩;apply Ends.done;simp(disch:=first|omega|(simp;done)|(simp;omega)) [vU,yw];refine mC (fun(x:Nat)=>D.int (x:Int)) bH (fun x=>aG (.ac 0 x)) (by simp[NQ,d8]) (by omega) (fun x _=>by simp[aG,fM]) ?_;refine mC (fun(x:Nat)=>D.int (x:Int)) ul (fun x=>aG (.ac 1 x)) (by simp[NR,d8]) (by omega) (fun x _=>by simp[aG,fM]) ?_;refine mC (fun(x:Nat)=>D.int (x:Int)) fl (fun x=>aG (.ac 2 x)) (by simp[o9,d8]) (by omega) (fun x _=>by simp[aG,fM]) ?_;have VU:pW (.lst [.tup [.str (PySem.Str.ofString "wait")]]) (.int (1+(q:Int)))=.ok (.lst ((eR (1+q)).map aG)):=by
  rw[VI (by omega) (by omega)]
  congr 2
  rw[show(1+(q:Int)).toNat=1+q by omega];simp[eR,aG,wS]
 simp(disch:=first|omega|(simp;done)|(simp;omega)) [B5,sx,NJ,VU]
theorem rC{n:Nat}{l:List Nat}(p:l.Perm (List.range n)):(∀h,h<n→h∈l)∧(∀h∈l,h<n)∧l.Nodup∧l.length=n:=⟨fun h hh=>p.mem_iff.mpr (List.mem_range.mpr hh),fun h hh=>List.mem_range.mp (p.mem_iff.mp hh),p.nodup_iff.mpr List.nodup_range,by rw[p.length_eq];simp⟩
noncomputable def fa(bH ul fl:List Nat)(W:List aE):List aE:=bH.map (aE.ac 0)++(ul.map (aE.ac 1)++(W++fl.map (aE.ac 2)))
theorem tP{n:Nat}{bH ul fl:List Nat}{W:List aE}(ht:∀h∈bH,h<n)(hu:∀h∈ul,h<n)(hf:∀h∈fl,h<n)(Ak:bH.Nodup)(Ts:ul.Nodup)(g8:fl.Nodup)(hw:∀s∈W,iO s=true):hG n (fa bH ul fl W):=by
 constructor
 ·intro s hs;simp only[fa,List.mem_append,List.mem_map]at hs;rcases hs with⟨a,h,rfl⟩|⟨a,h,rfl⟩|h|⟨a,h,rfl⟩
  ·exact⟨by decide,ht a h⟩
  ·exact⟨by decide,hu a h⟩
  ·cases s with
   |dA k=>trivial
   |ac w x=>have:=hw _ h;cases this
  ·exact⟨by decide,hf a h⟩
 ·have f:∀(w:Nat)(l:List Nat),(l.map (aE.ac w)).filter aE.act=l.map (aE.ac w):=fun w l=>List.filter_eq_self.mpr fun s hs=>by
    obtain⟨a,_,rfl⟩:=List.mem_map.mp hs;rfl
  have Ol:W.filter aE.act=[]:=List.filter_eq_nil_iff.mpr fun s hs=>by
   have:=hw s hs;cases s with
   |dA k=>simp[aE.act]
   |ac w x=>cases this
  have aU:∀(w:Nat)(l:List Nat),l.Nodup→(l.map (aE.ac w)).Nodup:=fun w l h=>nodup_map_on (fun a _ b _ e=>by cases e;rfl) h;simp only[fa,List.filter_append,f,Ol,List.nil_append];rw[List.nodup_append,List.nodup_append];refine⟨aU 0 bH Ak,⟨aU 1 ul Ts,aU 2 fl g8,fun a ha b hb e=>?_⟩,fun a ha b hb e=>?_⟩
  ·obtain⟨x,_,rfl⟩:=List.mem_map.mp ha;obtain⟨y,_,rfl⟩:=List.mem_map.mp hb;cases e
  ·obtain⟨x,_,rfl⟩:=List.mem_map.mp ha;rcases List.mem_append.mp hb with hb|hb
   ·obtain⟨y,_,rfl⟩:=List.mem_map.mp hb;cases e
   ·obtain⟨y,_,rfl⟩:=List.mem_map.mp hb;cases e
theorem qc(m:Nat):∀s∈eR m,iO s=true:=fun s hs=>by rw[(List.mem_replicate.mp hs).2];rfl
theorem xf{m:Nat}(h:1≤m):∃k,aE.dA k∈eR m:=⟨false,List.mem_replicate.mpr ⟨by omega,rfl⟩⟩
theorem YT{n:Nat}{ps:List aE}(hp:hG n ps)(g:Good n ps)(hl:ps.length≤24)(zs:List Int):∃dD,hG n dD∧Good n dD∧dD.length≤40∧tu [.lst (ps.map aG),.lst (zs.map D.int)]=.ok (.o (dD.map aG)):=by
 suffices h:Ends (tu [.lst (ps.map aG),.lst (zs.map D.int)]) fun b=>∃dD,hG n dD∧Good n dD∧dD.length≤40∧b=.o (dD.map aG)by
  obtain⟨b,e,dD,h1,h2,h3,rfl⟩:=h;exact⟨dD,h1,h2,h3,e⟩
 have LQ:ef (zs.map D.int) none (some 15)=(zs.take 15).map D.int:=by rw[o4];congr 1;exact uZ zs 15
 have a:n4 [.lst (ps.map aG)]=.ok (ps.map aG):=rfl;have v_:∀i:Int,pT (.int i)=.ok (.int i):=fun _=>rfl;simp[tu,yz,jT,a];refine yW D.int (zs.take 15) (fun j ρ=>∃dD s3,hG n dD∧Good n dD∧dD.length≤24+j∧ρ=[.ak (.lst (ps.map aG)),.ak (.lst (zs.map D.int)),.cE (dD.map aG),s3]) (by simp[LQ,wJ]) ⟨ps,.un,hp,g,by omega,rfl⟩ ?_ ?_
 ·rintro j z _ cg ⟨dD,s3,h1,h2,h3,rfl⟩;have aao:j<15:=by
   have:=(List.getElem?_eq_some_iff.mp cg).1;simp at this;omega
  obtain⟨y,q,aJ,dB,eq⟩:=tB z 61 (by decide) (n:=3) (by decide);have sx:gx [.int z,.int 61]=.ok (.v (.int y)):=dB;obtain⟨f7,bl,vv,NV,eq2⟩:=tB z 62 (by decide) (n:=dD.length+1) (by omega);have NW:gx [.int z,.int 62]=.ok (.v (.int f7)):=NV;have NK:f7%((dD.length:Int)+1)=(bl:Int):=eq2;simp(disch:=first|omega|(simp;done)|(simp;omega)) [sx];by_cases t:y%3=0
  ·have im:=QA aG (l:=dD) (i:=2) (v:=(bl:Int)) (by omega) (by omega) (by omega) (.dA false) (.tup [.str (PySem.Str.ofString "wait")]) rfl [.ak (.lst (ps.map aG)),.ak (.lst (zs.map D.int)),.cE (dD.map aG),.ak (.int z)];have acE:∀(i:Nat)(m n:aD)(ρ:ao),pF i m n ρ=(ownAt i ρ).bind fun ds=>(m ρ).bind fun d=>(n ρ).bind fun y=>vB i ds ρ y d:=fun i m n ρ=>by unfold pF;congr 1
   rw[if_pos t];simp(disch:=first|omega|(simp;done)|(simp;omega)) [NW,NK,v_,im];refine⟨pw dD bl (.dA false),?_,?_,by rw[QG];omega,rfl⟩
   ·exact h1.dA.perm (GW dD bl (.dA false)).symm
   ·unfold pw;refine Ov ?_;rw[List.take_append_drop];exact h2
  ·rw[if_neg t];simp;exact⟨dD,h1,h2,by omega,rfl⟩
 ·rintro _ ⟨dD,s3,h1,h2,h3,rfl⟩;have:(zs.take 15).length≤15:=by simp;omega
  simp;exact⟨dD,h1,h2,by omega,rfl⟩
theorem D9{cs:List Nat}{ws:List (aw×aw)}{bs:List (List dx)}(cx:gH cs ws)(hb:j3 cs bs)(h0:Nat):∃l:List aw,rv [parts cs ws,.lst (bs.map br),.int (h0:Int)]=.ok (.o (l.map aO))∧(l≠[]↔∃d∈outs cs ws cs.length,∃a∈List.range 16,h0∈(jr ws bs a d).map (·.1)):=by
 let P:aw→Nat→Bool:=fun d a=>decide (h0∈(jr ws bs a d).map (·.1))
 let row:aw→Nat→List aw:=fun d k=>((List.range k).filter (P d)).map fun _=>d
 suffices h:Ends (rv [parts cs ws,.lst (bs.map br),.int (h0:Int)]) fun b=>b=.o (((outs cs ws cs.length).flatMap fun d=>row d 16).map aO)by
  obtain⟨b,e,rfl⟩:=h;refine⟨_,e,?_⟩;rw[ne_eq,List.flatMap_eq_nil_iff];constructor
  ·intro h;apply Classical.byContradiction;intro aC;apply h;intro d hd;simp only[row,List.map_eq_nil_iff,List.filter_eq_nil_iff];intro a ha z;exact aC ⟨d,hd,a,ha,by simpa[P]using z⟩
  ·rintro⟨d,hd,a,ha,hm⟩ h;have:=h d hd;simp only[row,List.map_eq_nil_iff,List.filter_eq_nil_iff]at this;exact this a ha (by simpa[P]using hm)
 have h6:=cx.h6;have lo:=Av ws cx.c cs.length;have Hx:∀d k,(row d k).length≤k:=fun d k=>by simp only[row,List.length_map];exact Nat.le_trans (List.length_filter_le _ _) (by simp)
 have Sj:∀l:List aw,(l.flatMap fun d=>row d 16).length≤16*l.length:=fun l=>by
  induction l with
  |nil=>simp
  |cons d l bQ=>rw[List.flatMap_cons,List.length_append,List.length_cons];have:=Hx d 16;omega
 simp[rv,ym];refine yW aO (outs cs ws cs.length) (fun j ρ=>∃s4 s5 cT,ρ=[.ak (parts cs ws),.ak (.lst (bs.map br)),.ak (.int (h0:Int)),.cE ((((outs cs ws cs.length).take j).flatMap fun d=>row d 16).map aO),s4,s5,cT]) (by simp[Sp cx]) ⟨.un,.un,.un,by simp⟩ ?_ ?_
 ·rintro j d _ cg ⟨s4,s5,cT,rfl⟩;have hd:d∈outs cs ws cs.length:=List.mem_of_getElem? cg;have ij:d∈c3 cs cs.length:=(List.mem_filter.mp hd).1;have aap:=(List.getElem?_eq_some_iff.mp cg).1;have vJ:=Sj ((outs cs ws cs.length).take j);have lt:((outs cs ws cs.length).take j).length≤24:=by simp;omega
  have Vr:mY [.int 16]=.ok (fg 0 16):=rfl;have jc:(((outs cs ws cs.length).take (j+1)).flatMap fun d=>row d 16)=(((outs cs ws cs.length).take j).flatMap fun d=>row d 16)++row d 16:=by rw[List.take_add_one,cg];simp
  rw[jc];generalize((outs cs ws cs.length).take j).flatMap (fun d=>row d 16)=base at vJ ⊢;have eu:a8 4 (aO d) [.ak (parts cs ws),.ak (.lst (bs.map br)),.ak (.int (h0:Int)),.cE (base.map aO),s4,s5,cT]=.ok [.ak (parts cs ws),.ak (.lst (bs.map br)),.ak (.int (h0:Int)),.cE (base.map aO),.ak (aO d),s5,cT]:=rfl;rw[eu,df];have z:=pd (β:=e4) (set:=a8 5) (body:=(aR (cp 6 (ag ay (bR 4 ts (ae (J 0) (ae (J 1) (ae (J 4) (ae (J 5) (ar)))))) (aj (.int 0))))
  (ck (aW (ag (inD true) (J 2) (cj (dh 2 [] (ea (J 6)) (eI [a8 0,a8 1]) (dW) (J 0))))) (g7 3 (J 4)) (cw)))) (mi:=fm (ae (aj (.int 16)) (ar))) (ρ:=[.ak (parts cs ws),.ak (.lst (bs.map br)),.ak (.int (h0:Int)),.cE (base.map aO),.ak (aO d),s5,cT]) (k:=fun f=>.ok f) (T:=qA fun ρ=>∃s4 s5 cT,ρ=[.ak (parts cs ws),.ak (.lst (bs.map br)),.ak (.int (h0:Int)),.cE ((base++row d 16).map aO),s4,s5,cT]) 16 (fun k ρ=>∃s5 cT,ρ=[.ak (parts cs ws),.ak (.lst (bs.map br)),.ak (.int (h0:Int)),.cE ((base++row d k).map aO),.ak (aO d),s5,cT]) (by simp[Vr]) ⟨s5,cT,by simp[row]⟩ ?_ ?_
  ·obtain⟨f,hJ,hf⟩:=z;have o9:=hJ;refine⟨f,?_,hf⟩;rw[←o9];generalize d3 _ _ _ _=q;cases q<;>rfl
  ·rintro k _ hk ⟨s5,cT,rfl⟩;obtain⟨r,hr,_⟩:=CF cx hb hk ij;have AO:=VP cx hb hk ij hr;have ek:jr ws bs k d=r.1:=by unfold jr;rw[hr]
   have t0:ay (jn r) (.int 0)=.ok (.lst (r.1.map aO)):=rfl;have lk:=Hx d k;have es:row d (k+1)=row d k++(if P d k=true then[d]else[]):=by
    simp only[row,List.range_succ,List.filter_append,List.map_append]
    congr 1
    cases de:P d k<;>simp[de]
   simp[AO,t0];refine nO (fun e:aw=>.int (e.1:Int)) (fun e=>.int (e.2:Int)) r.1 (fun e=>.int (e.1:Int)) (by simp;intros;rfl) (by have:=CE 1000 [] d r hr;simpa using this) (fun e _=>by simp) ?_;have sY:=GS h0 (r.1.map (·.1));rw[List.map_map]at sY;have zL:inD true (.int (h0:Int)) (.lst (r.1.map fun e=>D.int (e.1:Int)))=.ok (.ax (P d k)):=by rw[show P d k=decide (h0∈r.1.map (·.1))by simp only[P,ek]];exact sY
   simp only[zL];rw[es];cases de:P d k with
   |true=>
    have lV:((base++row d k).map aO).length<1000000:=by rw[List.length_map,List.length_append];omega
    rw[List.map_append]at lV;simp;rw[Lq lV];simp
   |false=>simp
  ·rintro _ ⟨s5,cT,rfl⟩;simp
 ·rintro _ ⟨s4,s5,cT,rfl⟩;simp
@[simp] theorem YF(set:D→ao→R ao)(m:aD)(ρ:ao):pI set m ρ=(m ρ).bind fun d=>(set d ρ).bind fun bo=>.ok (.bq bo):=(rfl)
@[simp] theorem abj(aI:List (D→ao→R ao))(ds:List D)(ρ:ao):rI aI (.lst ds) ρ=gA aI ds ρ:=(rfl)
@[simp] theorem abH(n:Nat)(mf:List D→R bW)(m:aP)(ρ:ao):pB n mf m ρ=(m ρ).bind fun ds=>if ds.length=n then(gy (mf ds)).bind iU else .bad:=(rfl)
@[simp] theorem aaF(x:D):eh false x .non=.ok (.ax (!eX x)):=(rfl)
theorem NM(a b:Bool):b8 true (.ax a) (.ax b)=.ok (.ax (a==b)):=rfl
theorem S9(a b:Bool):b8 false (.ax a) (.ax b)=.ok (.ax (!(a==b))):=rfl
theorem HI{n w h h0:Nat}(hw:w<3)(aC:h<n):b8 false (aG (.ac w h)) (aG (.ac w h0))=.ok (.ax (!decide (h=h0))):=by
 have Am:∀s:aE,okN 8 (aG s)=true:=fun s=>by
  cases s with
  |dA k=>cases k<;>rfl
  |ac w h=>rfl
 have e:=u6 (n:=n) (s:=.ac w h) ⟨hw,aC⟩ (w:=w) (h:=h0) hw;have q:decide (aE.ac w h=.ac w h0)=decide (h=h0):=decide_eq_decide.mpr ⟨fun z=>by cases z;rfl,fun z=>by rw[z]⟩;simp only[b8,Am,and_self,if_true,e,q];rfl
theorem FJ{l:List Nat}(aU:l.Nodup){h0:Nat}(hm:h0∈l):(h0::l.filter fun h=>!decide (h=h0)).Perm l:=by
 induction l with
 |nil=>simp at hm
 |cons x l bQ=>
  rw[List.nodup_cons]at aU;by_cases q:x=h0
  ·subst q;have:(x::l).filter (fun h=>!decide (h=x))=l:=by
    rw[List.filter_cons,decide_eq_true rfl];simp only[Bool.not_true,Bool.false_eq_true,if_false];rw[List.filter_eq_self];intro y bX;rw[decide_eq_false (fun z=>aU.1 (by rw[←z];exact bX))];rfl
   rw[this]
  ·have zx:h0∈l:=by
     rcases List.mem_cons.mp hm with z|z
     ·exact absurd z.symm q
     ·exact z
   rw[List.filter_cons,decide_eq_false q];simp only[Bool.not_false,if_true];exact(List.Perm.swap x h0 _).trans ((bQ aU.2 zx).cons x)
theorem FI{l:List Nat}{h0:Nat}:h0∉l.filter fun h=>!decide (h=h0):=fun z=>by have:=(List.mem_filter.mp z).2;simp at this
theorem bn{a:Bool}{l:List aw}(h:a=false↔l≠[]):(!a)=!l.isEmpty:=by cases a<;>cases l<;>simp at h ⊢
theorem R5{cs:List Nat}{ws:List (aw×aw)}{old new:List (List dx)}(cx:gH cs ws)(ho:j5 cs old)(aC:j5 cs new){bH ul fl:List Nat}{m:Nat}(P:Parts cs.length bH ul fl m)(y:Int) :
  vS [cI cs ws,parts cs ws,.tup [.lst (old.map br),.lst (new.map br)],.lst [.lst ((bH.map (aE.ac 0)).map aG),.lst ((ul.map (aE.ac 1)).map aG),.lst ((eR m).map aG),.lst ((fl.map (aE.ac 2)).map aG)],.int y]=.ok (.v (.ax true)):=by
 apply Ends.done;obtain⟨t1,b2,t3,ly⟩:=rC P.t;obtain⟨kA,gE,iv,Cs⟩:=rC P.u;obtain⟨f1,f2,ew,f4⟩:=rC P.f;have h1:=cx.h1;have h6:=cx.h6;have n6:=P.n6;have lw:(eR m).length=m:=by simp[eR]
 obtain⟨q,aJ,eq⟩:=jV y (n:=bH.length) (by omega);obtain⟨bl,vv,eq2⟩:=jV (y/7) (n:=fl.length) (by omega);have G5:ay (.lst ((bH.map (aE.ac 0)).map aG)) (.int (q:Int))=.ok (aG (.ac 0 bH[q])):=jO (by simp[aJ]);have G4:ay (.lst ((fl.map (aE.ac 2)).map aG)) (.int (bl:Int))=.ok (aG (.ac 2 fl[bl])):=jO (by simp[vv]);have mt:bH[q]∈bH:=List.getElem_mem _;have mf:fl[bl]∈fl:=List.getElem_mem _;generalize bH[q]=h0 at G5 mt;generalize fl[bl]=fY at G4 mf;have aan:=b2 h0 mt;have aal:=f2 fY mf;have pt:=FJ t3 mt;have Ak:h0∉bH.filter (fun h=>!decide (h=h0)):=FI;have lt':(bH.filter fun h=>!decide (h=h0)).length+1=bH.length:=by have:=pt.length_eq;simpa using this
 have SR:∀h,h<cs.length→h≠h0→h∈bH.filter (fun h=>!decide (h=h0)):=fun h hh iM=>List.mem_filter.mpr ⟨t1 h hh,by rw[decide_eq_false iM];rfl⟩;have Ib:=tP (W:=eR m) b2 gE f2 t3 iv ew (qc m);have TJ:hG cs.length ((bH.filter fun h=>!decide (h=h0)).map (aE.ac 0)++(ul.map (aE.ac 1)++(.ac 0 h0::(eR m++fl.map (aE.ac 2))))):=by refine Ib.perm ?_;unfold fa;refine((pt.symm.map (aE.ac 0)).append_right _).trans ?_;rw[List.map_cons,List.cons_append];refine List.Perm.trans ?_ (((List.perm_middle (a:=aE.ac 0 h0) (l₁:=ul.map (aE.ac 1)) (l₂:=eR m++fl.map (aE.ac 2))).symm).append_left _);exact List.perm_middle.symm
 obtain⟨e2,EF,PB⟩:=y7 cx ho aC TJ (by simp[lw];omega);have Sr:=R6 (old:=old) (new:=new) cx SR Ak kA (qc m) (xf P.m1) (fl:=fl);obtain⟨dU,Nx,pn⟩:=D9 cx aC.p h0;have d_:(!eX e2)=!dU.isEmpty:=bn (PB.trans (Sr.trans pn.symm));have tN:=FJ ew mf;have g8:fY∉fl.filter (fun h=>!decide (h=fY)):=FI;have aaP:(fl.filter fun h=>!decide (h=fY)).length+1=fl.length:=by have:=tN.length_eq;simpa using this
 have TK:hG cs.length (bH.map (aE.ac 0)++(ul.map (aE.ac 1)++(.ac 2 fY::(eR m++(fl.filter fun h=>!decide (h=fY)).map (aE.ac 2))))):=by refine Ib.perm ?_;unfold fa;refine(List.Perm.append_left _ (List.Perm.append_left _ ?_));refine((tN.symm.map (aE.ac 2)).append_left _).trans ?_;rw[List.map_cons];exact List.perm_middle
 obtain⟨cc,EG,PC⟩:=y7 cx ho aC TK (by simp[lw];omega);have Ss:=R4 (old:=old) (new:=new) cx t1 g8 kA (qc m) (xf P.m1);obtain⟨cf,Ny,ki⟩:=D9 cx ho.p fY;have dg:(!eX cc)=!cf.isEmpty:=bn (PC.trans (Ss.trans ki.symm));have bN:eX e2=dU.isEmpty:=by simpa using d_
 have cZ:eX cc=cf.isEmpty:=by simpa using dg
 have da:=ne_nil aO (fun _=>rfl) dU;have c2:=ne_nil aO (fun _=>rfl) cf;have s1:ay (aG (.ac 0 h0)) (.int 1)=.ok (.int (h0:Int)):=rfl;have s2:ay (aG (.ac 2 fY)) (.int 1)=.ok (.int (fY:Int)):=rfl;have aq:((bH.filter fun h=>!decide (h=h0)).map fun h=>aG (.ac 0 h))++(ul.map (aE.ac 1)).map aG++[aG (.ac 0 h0)]++(eR m).map aG++(fl.map (aE.ac 2)).map aG=((bH.filter fun h=>!decide (h=h0)).map (aE.ac 0)++(ul.map (aE.ac 1)++(.ac 0 h0::(eR m++fl.map (aE.ac 2))))).map aG:=by simp[Function.comp_def]
 have az:(bH.map (aE.ac 0)).map aG++(ul.map (aE.ac 1)).map aG++[aG (.ac 2 fY)]++(eR m).map aG++((fl.filter fun h=>!decide (h=fY)).map fun h=>aG (.ac 2 h))=(bH.map (aE.ac 0)++(ul.map (aE.ac 1)++(.ac 2 fY::(eR m++(fl.filter fun h=>!decide (h=fY)).map (aE.ac 2))))).map aG:=by simp[Function.comp_def]
 have LT:((bH.map (aE.ac 0)).map aG).length=cs.length:=by simp[ly]
 have K3:((ul.map (aE.ac 1)).map aG).length=cs.length:=by simp[Cs]
 have xM:((fl.map (aE.ac 2)).map aG).length=cs.length:=by simp[f4]
 have K4:((eR m).map aG).length=m:=by simp[lw]
 have TE:(bH.map (aE.ac 0)).map aG=bH.map fun h=>aG (.ac 0 h):=by simp[Function.comp_def]
 have KS:(fl.map (aE.ac 2)).map aG=fl.map fun h=>aG (.ac 2 h):=by simp[Function.comp_def]
 generalize hU:(ul.map (aE.ac 1)).map aG=U at*;generalize OE:(eR m).map aG=W at*;generalize fZ:(bH.map (aE.ac 0)).map aG=T at*;generalize iJ:(fl.map (aE.ac 2)).map aG=F at*;have eqT:y%(T.length:Int)=(q:Int):=by rw[LT,←ly];exact eq
 have yZ:y/7%(F.length:Int)=(bl:Int):=by rw[xM,←f4];exact eq2
 simp(disch:=first|omega|(simp;done)|(simp;omega)) [vS,yp,eqT,G5];refine su (fun h=>aG (.ac 0 h)) bH (fun h=>!decide (h=h0)) (fun h=>aG (.ac 0 h)) (by simp[TE]) (by omega) (fun h hm=>by have:=HI (h0:=h0) (show 0<3 by decide) (b2 h hm);simp[this]) (fun h _ _=>by simp) ?_
 rw[←aq]at EF;rw[←az]at EG;have aaK:((bH.filter fun h=>!decide (h=h0)).map fun h=>aG (.ac 0 h)).length≤6:=by simp only[List.length_map];omega
 generalize aae:((bH.filter fun h=>!decide (h=h0)).map fun h=>aG (.ac 0 h))=i7 at*;have nu:cC (.lst i7) (.lst U)=.ok (.lst (i7++U)):=i_ (by omega);have qr:cC (.lst (i7++U)) (.lst [aG (.ac 0 h0)])=.ok (.lst (i7++U++[aG (.ac 0 h0)])):=i_ (by simp;omega);have qs:cC (.lst (i7++U++[aG (.ac 0 h0)])) (.lst W)=.ok (.lst (i7++U++[aG (.ac 0 h0)]++W)):=i_ (by simp;omega);have oJ:cC (.lst (i7++U++[aG (.ac 0 h0)]++W)) (.lst F)=.ok (.lst (i7++U++[aG (.ac 0 h0)]++W++F)):=i_ (by simp;omega);have C8:cC (.lst T) (.lst U)=.ok (.lst (T++U)):=i_ (by omega);have C9:cC (.lst (T++U)) (.lst [aG (.ac 2 fY)])=.ok (.lst (T++U++[aG (.ac 2 fY)])):=i_ (by simp;omega);have C_:cC (.lst (T++U++[aG (.ac 2 fY)])) (.lst W)=.ok (.lst (T++U++[aG (.ac 2 fY)]++W)):=i_ (by simp;omega);simp(disch:=first|omega|(simp;done)|(simp;omega)) [nu,qr,qs,oJ,s1,Nx,da,EF,bN,S9,yZ,G4,C8,C9,C_,-List.append_assoc];refine su (fun h=>aG (.ac 2 h)) fl (fun h=>!decide (h=fY)) (fun h=>aG (.ac 2 h)) (by simp[KS]) (by omega) (fun h hm=>by have:=HI (h0:=fY) (show 2<3 by decide) (f2 h hm);simp[this]) (fun h _ _=>by simp) ?_
 have aaJ:((fl.filter fun h=>!decide (h=fY)).map fun h=>aG (.ac 2 h)).length≤6:=by simp only[List.length_map];omega
 generalize aad:((fl.filter fun h=>!decide (h=fY)).map fun h=>aG (.ac 2 h))=F' at*;have KP:cC (.lst (T++U++[aG (.ac 2 fY)]++W)) (.lst F')=.ok (.lst (T++U++[aG (.ac 2 fY)]++W++F')):=i_ (by simp;omega);simp(disch:=first|omega|(simp;done)|(simp;omega)) [C8,C9,C_,KP,s2,Ny,c2,EG,cZ,NM,-List.append_assoc]
theorem UW(cs:List Nat)(ws:List (aw×aw))(h6:cs.length≤6):vV [cI cs ws]=.ok (.v (.lst ((plain cs.length true).map aG))):=by apply Ends.done;simp(disch:=first|omega|(simp;done)|(simp;omega)) [vV,yA,tx];refine pb cs.length (fun i=>aG (.ac 0 i)) (by simp) (by omega) (fun k hk=>by simp[aG,fM]) ?_;refine pb cs.length (fun i=>aG (.ac 1 i)) (by simp) (by omega) (fun k hk=>by simp[aG,fM]) ?_;simp(disch:=first|omega|(simp;done)|(simp;omega));refine pb cs.length (fun i=>aG (.ac 2 i)) (by simp) (by omega) (fun k hk=>by simp[aG,fM]) ?_;simp(disch:=first|omega|(simp;done)|(simp;omega));simp[plain,aG,Function.comp_def]
def AD(ps:List aE):D:=.lst (ps.map aG)
structure ny(n:Nat)(ps:List aE):Prop where
 ok:hG n ps
 g:Good n ps
 l:ps.length≤40
theorem R9(ns:List Int)(zy:ns.length≤63):pK [.cy (ns.map D.int)]=.ok (.v (.ax true)):=by
 apply Ends.done;obtain⟨jb,c8⟩:=yJ ns 0;have sl:k9 [.cy (ns.map D.int),.int 0]=.ok (.v (.int jb)):=c8;obtain⟨cs,ws,cx,qS⟩:=Tc jb;have ND:rx [.int jb]=.ok (.v (parts cs ws)):=qS;have h1:=cx.h1;have h6:=cx.h6;have lcs:(b0 cs).length=cs.length:=by simp[b0]
 obtain⟨old,ho,qT⟩:=DY ns 1 (by decide) cs h6 cx.c;have NI:oc [.cy (ns.map D.int),.int 1,.lst (b0 cs)]=.ok (.o (old.map br)):=qT;obtain⟨new,aC,jd⟩:=Td ns cs h6 cx.c ho;have iH:=QE cs ws cx;have fold:D.ins "Net" ["many","counts","joined","far"] [.int (cs.length:Int),.tup (b0 cs),.tup (ws.map dG),.bK (dQ ws) (d5 ws)]=cI cs ws:=rfl;have f5:ay (parts cs ws) (.int 0)=.ok (.lst (b0 cs)):=rfl;have eG:ay (parts cs ws) (.int 1)=.ok (.lst (ws.map dG)):=rfl;have z2:n4 [.lst (b0 cs)]=.ok (b0 cs):=rfl;have dU:n4 [.lst (ws.map dG)]=.ok (ws.map dG):=rfl;simp(disch:=first|omega|(simp;done)|(simp;omega)) [pK,yi,sl,ND,f5,eG,jT,z2,dU,iH,fold,NI,jd];have lc:(ef ns (some 13) none).length≤63:=by unfold ef;simp;omega
 have cm:ef (ns.map D.int) (some 13) none=(ef ns (some 13) none).map D.int:=o4 _ _ _ _;refine mC D.int (ef ns (some 13) none) (fun z=>.int (z%1000000000000000000000000000000)) (by simp[cm]) (by omega) (fun z _=>by simp(disch:=first|omega|(simp;done)|(simp;omega)) [Ir]) ?_;have sy:(ef ns (some 13) none).map (fun z=>D.int (z%1000000000000000000000000000000))=((ef ns (some 13) none).map fun z=>z%1000000000000000000000000000000).map D.int:=by simp
 rw[sy];generalize(ef ns (some 13) none).map (fun z=>z%1000000000000000000000000000000)=zs;obtain⟨bH,ul,fl,m,P,cz⟩:=U0 zs cs.length h6;obtain⟨t1,b2,t3,ly⟩:=rC P.t;obtain⟨kA,gE,iv,Cs⟩:=rC P.u;obtain⟨f1,f2,ew,f4⟩:=rC P.f;have n6:=P.n6;have lw:(eR m).length=m:=by simp[eR]
 have late:=fun y=>R5 cx ho aC P y;have LT:((bH.map (aE.ac 0)).map aG).length=cs.length:=by simp[ly]
 have K3:((ul.map (aE.ac 1)).map aG).length=cs.length:=by simp[Cs]
 have xM:((fl.map (aE.ac 2)).map aG).length=cs.length:=by simp[f4]
 have K4:((eR m).map aG).length=m:=by simp[lw]
 obtain⟨hn,dw,aav,NX,eq3⟩:=tB zs.sum 63 (by decide) (n:=fl.length+1) (by omega);have NY:gx [.int zs.sum,.int 63]=.ok (.v (.int hn)):=NX;obtain⟨ix,NZ⟩:=Af zs.sum 64 (by decide);have N0:gx [.int zs.sum,.int 64]=.ok (.v (.int ix)):=NZ;have FH:ny cs.length (fa bH ul fl (eR m)):=⟨tP b2 gE f2 t3 iv ew (qc m),sI t1 (qc m) (fun _=>⟨kA,xf P.m1⟩),by simp[fa,lw];omega⟩;obtain⟨dD,lz,jq,ng,J_⟩:=YT FH.ok FH.g (by simp[fa,lw];omega) zs;have ZW:ny cs.length dD:=⟨lz,jq,ng⟩;have ZX:ny cs.length (fa bH ul [] []):=⟨tP b2 gE (by simp) t3 iv List.nodup_nil (by simp),sI t1 (by simp) (fun z=>absurd rfl z),by simp[fa];omega⟩;have ZY:ny cs.length (fa bH ul (fl.take dw) (eR m)):=⟨tP b2 gE (fun h hh=>f2 h (List.mem_of_mem_take hh)) t3 iv (ew.sublist (List.take_sublist _ _)) (qc m),sI t1 (qc m) (fun _=>⟨kA,xf P.m1⟩),by simp[fa,lw];omega⟩;have pX:∀h,h<cs.length→h∈List.range cs.length:=fun h hh=>List.mem_range.mpr hh;have U1:plain cs.length true=fa (List.range cs.length) (List.range cs.length) (List.range cs.length) [.dA true]:=by simp[plain,fa]
 have ZZ:ny cs.length (plain cs.length true):=⟨UX _ _,by rw[U1];exact sI pX (by simp[iO]) (fun _=>⟨pX,true,by simp⟩),by rw[plain_len];omega⟩;have Z0:ny cs.length []:=⟨⟨by simp,by simp⟩,fun A x B e=>by simp at e,by simp⟩;have Z1:ny cs.length (fa bH [] [] []):=⟨tP b2 (by simp) (by simp) t3 List.nodup_nil List.nodup_nil (by simp),sI t1 (by simp) (fun z=>absurd rfl z),by simp[fa];omega⟩;have pp:=UW cs ws h6;have Di:∀a b c d:D,ay (.lst [a,b,c,d]) (.int 0)=.ok a:=fun _ _ _ _=>rfl;have aQ:∀a b c d:D,ay (.lst [a,b,c,d]) (.int 1)=.ok b:=fun _ _ _ _=>rfl;have b5:∀a b c d:D,ay (.lst [a,b,c,d]) (.int 2)=.ok c:=fun _ _ _ _=>rfl;have d9:∀a b c d:D,ay (.lst [a,b,c,d]) (.int 3)=.ok d:=fun _ _ _ _=>rfl;have cut:ef ((fl.map (aE.ac 2)).map aG) none (some (dw:Int))=((fl.take dw).map (aE.ac 2)).map aG:=by rw[uZ,List.map_take,List.map_take]
 have d1:(bH.map (aE.ac 0)).map aG++(ul.map (aE.ac 1)).map aG++(eR m).map aG++(fl.map (aE.ac 2)).map aG=(fa bH ul fl (eR m)).map aG:=by simp[fa]
 have Mh:(bH.map (aE.ac 0)).map aG++(ul.map (aE.ac 1)).map aG=(fa bH ul [] []).map aG:=by simp[fa]
 have Mi:(bH.map (aE.ac 0)).map aG++(ul.map (aE.ac 1)).map aG++(eR m).map aG++((fl.take dw).map (aE.ac 2)).map aG=(fa bH ul (fl.take dw) (eR m)).map aG:=by simp[fa]
 have Mj:(bH.map (aE.ac 0)).map aG=(fa bH [] [] []).map aG:=by simp[fa]
 have eD:(((fl.take dw).map (aE.ac 2)).map aG).length≤6:=by simp;omega
 rw[←d1]at J_;generalize ih:((fl.take dw).map (aE.ac 2)).map aG=S at*;generalize hU:(ul.map (aE.ac 1)).map aG=U at*;generalize OE:(eR m).map aG=W at*;generalize fZ:(bH.map (aE.ac 0)).map aG=T at*;generalize iJ:(fl.map (aE.ac 2)).map aG=F at*;have yZ:hn%((F.length:Int)+1)=(dw:Int):=by rw[xM,←f4];exact eq3
 have nu:cC (.lst T) (.lst U)=.ok (.lst (T++U)):=i_ (by omega);have qr:cC (.lst (T++U)) (.lst W)=.ok (.lst (T++U++W)):=i_ (by simp;omega);have qs:cC (.lst (T++U++W)) (.lst F)=.ok (.lst (T++U++W++F)):=i_ (by simp;omega);have oJ:cC (.lst (T++U++W)) (.lst S)=.ok (.lst (T++U++W++S)):=i_ (by simp;omega);simp(disch:=first|omega|(simp;done)|(simp;omega)) [f5,lcs,cz,Di,aQ,b5,d9,nu,qr,qs,oJ,B5,NY,yZ,cut,J_,-List.append_assoc];refine yW AD [fa bH ul fl (eR m),dD,fa bH ul [] [],fa bH ul (fl.take dw) (eR m),plain cs.length true,[],fa bH [] [] []] (fun _ ρ=>∃tS,ρ=[.ak (.cy (ns.map D.int)),.ak (parts cs ws),.ak (cI cs ws),.ak (.lst (old.map br)),.ak (.lst (new.map br)),.ak (.lst (zs.map D.int)),.ak (.lst [.lst T,.lst U,.lst W,.lst F]),.ak (.lst (T++U++W++F)),.ak (.lst (T++U++W++S)),.ak (.lst [.lst (T++U++W++F),.lst (dD.map aG),.lst (T++U),.lst (T++U++W++S)]),tS]) ?_ ⟨.un,rfl⟩ ?_ ?_
 ·have KN:∀a b c d e f g:D,cC (.lst [a,b,c,d]) (.lst [e,f,g])=.ok (.lst [a,b,c,d,e,f,g]):=fun _ _ _ _ _ _ _=>i_ (by simp);simp(disch:=first|omega|(simp;done)|(simp;omega)) [pp,Di,KN,AD,←d1,←Mh,←Mi,←Mj,-List.append_assoc]
 ·rintro j ps _ cg ⟨tS,rfl⟩;have hf:ny cs.length ps:=by
   have:=List.mem_of_getElem? cg;simp only[List.mem_cons,List.not_mem_nil,or_false]at this;rcases this with q|q|q|q|q|q|q<;>subst q<;>assumption
  obtain⟨x,ex,hx⟩:=y7 cx ho aC hf.ok hf.l;have bq:eX x=true:=by
   cases e:eX x with
   |true=>rfl
   |false=>exact absurd (hx.mp e) (good_none cx hf.g)
  simp[AD,ex,bq]
 ·rintro _ ⟨tS,rfl⟩;simp[B5,N0,late]
theorem Zg{P:Program}{w:World}{K:PySem.W.Frag}{mg:Str→Option Value}{base:Heap}{x:Str}{st:Stmt}{N ps:List Str}{k:Nat}{m:a0}{f:Addr}{fd:FuncData}(fn:kH K x x st f fd)(S:cG N ps (bO st))(h:∀(f:Addr)(b_:Value)(A:Around)(outer:List PySem.Env)(s:Shared)(H:ai)(E:c7),dt k (A.deeper (PyProof.Rows.envOfC x (bO st) s.heap.objs.size f b_))→∀bY bB,i8 (eO gP P w K mg base N x (bO st) f b_ A outer s H E).hF (eW K bY bB) (fX st) m) :
  hq P w K mg base gP (k+1) f fd ps (lr K ps.length (cQ N.length m)):=fn.ok S wN fun b_ A outer s H vs Q E hr hs=>by
 obtain⟨G,ht⟩:=uW hs;exact⟨_,(h f b_ A outer s H E hr G H).1,ht⟩
structure c9(K:PySem.W.Frag)(x:Str)(st:Stmt):Prop where
 ex:∃(f:Addr)(dO an:Option Addr)(cF:Array (Option Value))(e_ cM jD pm cd cK:Value),PySem.W.nsIn K mainGlobals x=some (some (.ref f))∧K.lookup f=some ⟨e_,dO,.func (PySem.W.fnOf x x (jE st) (fX st) (bO st) .none cM jD pm an cd cK),cF⟩∧PySem.W.codeIn K cd x=true∧PySem.W.keepIn K (.ref f)=true
theorem dp{K:PySem.W.Frag}{x:Str}{st:Stmt}{f:Addr}{dO an:Option Addr}{cF:Array (Option Value)}{e_ cM jD pm cd cK:Value}(a:PySem.W.nsIn K mainGlobals x=some (some (.ref f)))(l:K.lookup f=some ⟨e_,dO,.func (PySem.W.fnOf x x (jE st) (fX st) (bO st) .none cM jD pm an cd cK),cF⟩)(c:PySem.W.codeIn K cd x=true)(k:PySem.W.keepIn K (.ref f)=true):c9 K x st:=⟨f,dO,an,cF,e_,cM,jD,pm,cd,cK,a,l,c,k⟩
theorem dn{K:PySem.W.Frag}{h:Heap}{mg:Str→Option Value}{x:Str}{st:Stmt}{ps:List Str}(X:K.In h)(G:h.Ns mainGlobals mg)(F:c9 K x st)(b:∀(cM doc pm:Value)(an:Option Addr)(b_ cK:Value)(us:List Value),us.length=ps.length→bindArgs (PySem.W.fnOf x x (jE st) (fX st) (bO st) .none cM doc pm an b_ cK) ⟨us,[]⟩=pure (ps.zip us)):c6 K mg x st ps:=by obtain⟨f,dO,an,cF,e_,cM,jD,pm,cd,cK,a,l,c,k⟩:=F.ex;exact N9 (st:=st) X G a l c k b
structure oO(K:PySem.W.Frag)(C:Addr)(x qual:Str)(st:Stmt):Prop where
 ex:∃(f:Addr)(dO an:Option Addr)(cF:Array (Option Value))(e_ cM jD pm cd cK:Value),PySem.W.findIn K (.ref C) x=some (some (.ref f))∧K.lookup f=some ⟨e_,dO,.func (PySem.W.fnOf x qual (jE st) (fX st) (bO st) .none cM jD pm an cd cK),cF⟩∧PySem.W.codeIn K cd qual=true∧PySem.W.keepIn K (.ref f)=true∧PySem.W.isFn K (.ref f)=true
theorem v5{K:PySem.W.Frag}{C:Addr}{x qual:Str}{st:Stmt}{f:Addr}{dO an:Option Addr}{cF:Array (Option Value)}{e_ cM jD pm cd cK:Value}(a:PySem.W.findIn K (.ref C) x=some (some (.ref f)))(l:K.lookup f=some ⟨e_,dO,.func (PySem.W.fnOf x qual (jE st) (fX st) (bO st) .none cM jD pm an cd cK),cF⟩)(c:PySem.W.codeIn K cd qual=true)(k:PySem.W.keepIn K (.ref f)=true)(i:PySem.W.isFn K (.ref f)=true):oO K C x qual st:=⟨f,dO,an,cF,e_,cM,jD,pm,cd,cK,a,l,c,k,i⟩
theorem Ag{K:PySem.W.Frag}{bD x qual:Str}{C:Addr}{st:Stmt}{ps:List Str}(n:PySem.W.nsIn K mainGlobals bD=some (some (.ref C)))(g1:PySem.W.plainGet K C Str.empty=true)(g2:PySem.W.hasDictIn K C=true)(g3:PySem.W.plainOver K C=true)(jH:PySem.W.findIn K (.ref C) "__setattr__"=some (some (.builtin "object.__setattr__")))(F:oO K C x qual st)(b:∀(cM doc pm:Value)(an:Option Addr)(b_ cK:Value)(us:List Value),us.length=ps.length→bindArgs (PySem.W.fnOf x qual (jE st) (fX st) (bO st) .none cM doc pm an b_ cK) ⟨us,[]⟩=pure (ps.zip us)):r6 K bD x qual st ps:=by obtain⟨f,dO,an,cF,e_,cM,jD,pm,cd,cK,a,l,c,k,i⟩:=F.ex;exact⟨⟨C,f,_,n,⟨g1,g2,g3,jH⟩,⟨a,i,k⟩,pj (st:=st) l c k,(pj (st:=st) l c k).binds b⟩⟩
theorem SO{K:PySem.W.Frag}{h:Heap}{mg:Str→Option Value}{bD qual:Str}{C:Addr}{st:Stmt}{ps:List Str}(X:K.In h)(G:h.Ns mainGlobals mg)(n:PySem.W.nsIn K mainGlobals bD=some (some (.ref C)))(mk:PySem.W.makesIn K C=true)(Ra:PySem.W.keepIn K (.ref C)=true)(F:oO K C "__init__" qual st)(b:∀(cM doc pm:Value)(an:Option Addr)(b_ cK:Value)(us:List Value),us.length=ps.length→bindArgs (PySem.W.fnOf "__init__" qual (jE st) (fX st) (bO st) .none cM doc pm an b_ cK) ⟨us,[]⟩=pure (ps.zip us)):InK K mg bD qual st ps:=by obtain⟨f,dO,an,cF,e_,cM,jD,pm,cd,cK,a,l,c,k,i⟩:=F.ex;exact⟨⟨C,f,_,n,⟨mk,a,i,Ra⟩,pj (st:=st) l c k,PySem.W.mg_of X G n,(pj (st:=st) l c k).binds b⟩⟩
set_option maxHeartbeats 4000000 in
theorem Ym{K:PySem.W.Frag}{h:Heap}{mg:Str→Option Value}{hZ:Addr}{mb:Addr}{Zx:ClassData}{mc:Addr}{Zy:ClassData}{XF:Tok}{XG:Tok}{XH:Tok}{XI:Tok}{XJ:Tok}{xv:Addr}{Mq:Option Addr}{S2:Nat}{Xc:Array (Option Value)}{XK XM XN:Tok}{xw:Addr}{Mr:Option Addr}{S3:Nat}{Xd:Array (Option Value)}{XO:Tok}{xx:Addr}{Ms:Option Addr}{S4:Nat}{Xe:Array (Option Value)}{XP XQ XR XS:Tok}(X:K.In h)(G:h.Ns mainGlobals mg)(n_Net:PySem.W.nsIn K mainGlobals "Net"=some (some (.ref hZ)))(g1_Net:PySem.W.plainGet K hZ Str.empty=true)(g2_Net:PySem.W.hasDictIn K hZ=true)(g3_Net:PySem.W.plainOver K hZ=true)(g4_Net:PySem.W.findIn K (.ref hZ) "__setattr__"=some (some (.builtin "object.__setattr__")))(u_Net_many:PySem.W.findIn K (.ref hZ) "many"=some none)(u_Net_counts:PySem.W.findIn K (.ref hZ) "counts"=some none)(u_Net_joined:PySem.W.findIn K (.ref hZ) "joined"=some none)(u_Net_far:PySem.W.findIn K (.ref hZ) "far"=some none)(mk_Net:PySem.W.makesIn K hZ=true)(kc_Net:PySem.W.keepIn K (.ref hZ)=true)(n_NoBooks:PySem.W.nsIn K mainGlobals "NoBooks"=some (some (.ref mb)))(ct_NoBooks:PySem.W.clsIn K mb=some Zx)(e1_NoBooks:PySem.W.excIn K mb [.type "ValueError",.type "Exception",.type "BaseException",.type "object"] "ValueError.__new__"=true)(ga_NoBooks:PySem.W.findIn K (.ref mb) "__getattribute__"=some (some (.builtin "BaseException.__getattribute__")))(gn_NoBooks:PySem.W.findIn K (.ref mb) "__getattr__"=some none)(cl_NoBooks:PySem.W.findIn K (.ref mb) "__class__"=some (some (.builtin "object.__class__")))(sb_NoBooks:PySem.W.subIn K (.ref mb) (.type "BaseException")=some true)(mo_NoBooks:PySem.W.mroIn K mb (.type "object")=some true)(n_NoPlan:PySem.W.nsIn K mainGlobals "NoPlan"=some (some (.ref mc)))(ct_NoPlan:PySem.W.clsIn K mc=some Zy)(e1_NoPlan:PySem.W.excIn K mc [.type "ValueError",.type "Exception",.type "BaseException",.type "object"] "ValueError.__new__"=true)(ga_NoPlan:PySem.W.findIn K (.ref mc) "__getattribute__"=some (some (.builtin "BaseException.__getattribute__")))(gn_NoPlan:PySem.W.findIn K (.ref mc) "__getattr__"=some none)(cl_NoPlan:PySem.W.findIn K (.ref mc) "__class__"=some (some (.builtin "object.__class__")))(sb_NoPlan:PySem.W.subIn K (.ref mc) (.type "BaseException")=some true)(mo_NoPlan:PySem.W.mroIn K mc (.type "object")=some true)(spc0:PySem.W.specialIn K (.builtin "object.__class__") "__get__"=some (some (.builtin "getset_descriptor.__get__")))(tkc0:PySem.W.takesIn K (.builtin "object.__class__")=some true)(h0:c9 K "_law_draws" Br)(h1:c9 K "_law_net" Bv)(h2:c9 K "is_pair" Bd)(h3:c9 K "is_whole" Bj)(h4:c9 K "is_whole_within" Bk)(h5:c9 K "is_door_among" Bb)(h6:c9 K "is_wire_among" Bl)(h7:c9 K "far_doors" A4)(h8:c9 K "are_counts" A3)(h9:oO K hZ "__init__" "Net.__init__" A0)(h10:c9 K "_law_row" BB)(h11:c9 K "_law_book" Bn)(h12:c9 K "_law_cell_at" Bp)(h13:c9 K "_law_books" Bo)(h14:c9 K "_law_mixed" Bu)(h15:c9 K "_law_new_books" Bw)(h16:c9 K "_law_shuffled" BC)(h17:c9 K "_law_plans" Bz)(h18:c9 K "_law_outer" By)(h19:c9 K "_law_signs" BD)(h20:c9 K "_law_is_like" Bs)(h21:c9 K "_law_out" Bx)(h22:c9 K "_law_beyond" Bm)(h23:c9 K "_law_road" BA)(h24:c9 K "_law_come_to" Bq)(h25:c9 K "is_pattern" Be)(h26:c9 K "is_number_or_none" Bc)(h27:c9 K "is_row" Bg)(h28:c9 K "is_book" A_)(h29:oO K hZ "count" "Net.count" AZ)(h30:c9 K "is_books" Ba)(h31:c9 K "refuse_unless_books" BI)(h32:c9 K "is_step" Bh)(h33:c9 K "is_plan" Bf)(h34:c9 K "refuse_unless_plan" BJ)(h35:oO K hZ "outer" "Net.outer" A1)(h36:c9 K "is_address" A9)(h37:c9 K "fits" A7)(h38:c9 K "addresses" A2)(h39:c9 K "first_untaught" A6)(h40:c9 K "is_waited_for" Bi)(h41:c9 K "taken" BK)(h42:oO K hZ "beyond" "Net.beyond" AY)(h43:c9 K "onward" BG)(h44:c9 K "walked" BL)(h45:c9 K "house_at_fault" A8)(h46:c9 K "least_fault" BF)(h47:c9 K "fault" A5)(h48:c9 K "_law_late" Bt)(h49:c9 K "_law_with_waits" BE)(h50:c9 K "plain_plan" BH)(h51:c9 K "law" oo)(z_all:PySem.W.nsIn K mainGlobals "all"=some none)(z_bool:PySem.W.nsIn K mainGlobals "bool"=some none)(z_enumerate:PySem.W.nsIn K mainGlobals "enumerate"=some none)(z_int:PySem.W.nsIn K mainGlobals "int"=some none)(z_isinstance:PySem.W.nsIn K mainGlobals "isinstance"=some none)(z_len:PySem.W.nsIn K mainGlobals "len"=some none)(z_list:PySem.W.nsIn K mainGlobals "list"=some none)(z_range:PySem.W.nsIn K mainGlobals "range"=some none)(z_set:PySem.W.nsIn K mainGlobals "set"=some none)(z_str:PySem.W.nsIn K mainGlobals "str"=some none)(z_sum:PySem.W.nsIn K mainGlobals "sum"=some none)(z_tuple:PySem.W.nsIn K mainGlobals "tuple"=some none)(z_zip:PySem.W.nsIn K mainGlobals "zip"=some none)(z_GREATEST_ADDRESS:PySem.W.nsIn K mainGlobals "GREATEST_ADDRESS"=some (some (.int 15 XF)))(z_MOST_DOORS:PySem.W.nsIn K mainGlobals "MOST_DOORS"=some (some (.int 4 XG)))(z_MOST_HOUSES:PySem.W.nsIn K mainGlobals "MOST_HOUSES"=some (some (.int 6 XH)))(z_MOST_ROWS:PySem.W.nsIn K mainGlobals "MOST_ROWS"=some (some (.int 12 XI)))(z_MOST_STEPS:PySem.W.nsIn K mainGlobals "MOST_STEPS"=some (some (.int 40 XJ)))(z_SIGNS:PySem.W.nsIn K mainGlobals "SIGNS"=some (some (.ref xv)))(y_SIGNS:K.lookup xv=some ⟨.type "tuple",Mq,.seq #[.str (PySem.Str.ofString "0") XK,.str (PySem.Str.ofString "1") XM,.str (PySem.Str.ofString "x") XN] S2,Xc⟩)(z_WAIT:PySem.W.nsIn K mainGlobals "WAIT"=some (some (.ref xw)))(y_WAIT:K.lookup xw=some ⟨.type "tuple",Mr,.seq #[.str (PySem.Str.ofString "wait") XO] S3,Xd⟩)(z_WORTHS:PySem.W.nsIn K mainGlobals "WORTHS"=some (some (.ref xx)))(y_WORTHS:K.lookup xx=some ⟨.type "tuple",Ms,.seq #[.int 8 XP,.int 4 XQ,.int 2 XR,.int 1 XS] S4,Xe⟩):xQ K mg where
 il:=⟨hZ,n_Net,⟨g1_Net,g2_Net,g3_Net,g4_Net⟩,(List.forall_mem_cons.2 ⟨u_Net_many,(List.forall_mem_cons.2 ⟨u_Net_counts,(List.forall_mem_cons.2 ⟨u_Net_joined,(List.forall_mem_cons.2 ⟨u_Net_far,(fun _ h=>absurd h List.not_mem_nil)⟩)⟩)⟩)⟩)⟩
 Ki:=⟨⟨mb,n_NoBooks,PySem.W.mg_of X G n_NoBooks,e1_NoBooks⟩⟩
 Kj:=⟨⟨mc,n_NoPlan,PySem.W.mg_of X G n_NoPlan,e1_NoPlan⟩⟩
 Fh:=dn X G h0 fun _ _ _ _ _ _ us hl=>match us,hl with|[_,_],_=>rfl
 Fm:=dn X G h1 fun _ _ _ _ _ _ us hl=>match us,hl with|[_],_=>rfl
 E3:=dn X G h2 fun _ _ _ _ _ _ us hl=>match us,hl with|[_],_=>rfl
 E9:=dn X G h3 fun _ _ _ _ _ _ us hl=>match us,hl with|[_],_=>rfl
 E_:=dn X G h4 fun _ _ _ _ _ _ us hl=>match us,hl with|[_,_,_],_=>rfl
 E1:=dn X G h5 fun _ _ _ _ _ _ us hl=>match us,hl with|[_,_],_=>rfl
 Fb:=dn X G h6 fun _ _ _ _ _ _ us hl=>match us,hl with|[_,_],_=>rfl
 ET:=dn X G h7 fun _ _ _ _ _ _ us hl=>match us,hl with|[_,_],_=>rfl
 ES:=dn X G h8 fun _ _ _ _ _ _ us hl=>match us,hl with|[_],_=>rfl
 EO:=SO X G n_Net mk_Net kc_Net h9 fun _ _ _ _ _ _ us hl=>match us,hl with|[_,_,_],_=>rfl
 Ft:=dn X G h10 fun _ _ _ _ _ _ us hl=>match us,hl with|[_,_],_=>rfl
 Fd:=dn X G h11 fun _ _ _ _ _ _ us hl=>match us,hl with|[_,_],_=>rfl
 Ff:=dn X G h12 fun _ _ _ _ _ _ us hl=>match us,hl with|[_,_],_=>rfl
 Fe:=dn X G h13 fun _ _ _ _ _ _ us hl=>match us,hl with|[_,_,_],_=>rfl
 Fl:=dn X G h14 fun _ _ _ _ _ _ us hl=>match us,hl with|[_,_],_=>rfl
 Fn:=dn X G h15 fun _ _ _ _ _ _ us hl=>match us,hl with|[_,_,_],_=>rfl
 Fu:=dn X G h16 fun _ _ _ _ _ _ us hl=>match us,hl with|[_,_,_],_=>rfl
 Fq:=dn X G h17 fun _ _ _ _ _ _ us hl=>match us,hl with|[_,_],_=>rfl
 Fp:=dn X G h18 fun _ _ _ _ _ _ us hl=>match us,hl with|[_],_=>rfl
 Fv:=dn X G h19 fun _ _ _ _ _ _ us hl=>match us,hl with|[_],_=>rfl
 Fi:=dn X G h20 fun _ _ _ _ _ _ us hl=>match us,hl with|[_,_],_=>rfl
 Fo:=dn X G h21 fun _ _ _ _ _ _ us hl=>match us,hl with|[_,_,_],_=>rfl
 Fc:=dn X G h22 fun _ _ _ _ _ _ us hl=>match us,hl with|[_,_],_=>rfl
 Fs:=dn X G h23 fun _ _ _ _ _ _ us hl=>match us,hl with|[_,_,_,_],_=>rfl
 Fg:=dn X G h24 fun _ _ _ _ _ _ us hl=>match us,hl with|[_,_,_],_=>rfl
 E4:=dn X G h25 fun _ _ _ _ _ _ us hl=>match us,hl with|[_],_=>rfl
 E2:=dn X G h26 fun _ _ _ _ _ _ us hl=>match us,hl with|[_,_],_=>rfl
 E6:=dn X G h27 fun _ _ _ _ _ _ us hl=>match us,hl with|[_,_],_=>rfl
 EZ:=dn X G h28 fun _ _ _ _ _ _ us hl=>match us,hl with|[_,_],_=>rfl
 EN:=Ag n_Net g1_Net g2_Net g3_Net g4_Net h29 fun _ _ _ _ _ _ us hl=>match us,hl with|[_,_],_=>rfl
 E0:=dn X G h30 fun _ _ _ _ _ _ us hl=>match us,hl with|[_,_],_=>rfl
 FC:=dn X G h31 fun _ _ _ _ _ _ us hl=>match us,hl with|[_,_],_=>rfl
 E7:=dn X G h32 fun _ _ _ _ _ _ us hl=>match us,hl with|[_,_],_=>rfl
 E5:=dn X G h33 fun _ _ _ _ _ _ us hl=>match us,hl with|[_,_],_=>rfl
 FD:=dn X G h34 fun _ _ _ _ _ _ us hl=>match us,hl with|[_,_,_,_],_=>rfl
 EP:=Ag n_Net g1_Net g2_Net g3_Net g4_Net h35 fun _ _ _ _ _ _ us hl=>match us,hl with|[_],_=>rfl
 EY:=dn X G h36 fun _ _ _ _ _ _ us hl=>match us,hl with|[_],_=>rfl
 EW:=dn X G h37 fun _ _ _ _ _ _ us hl=>match us,hl with|[_,_],_=>rfl
 ER:=dn X G h38 fun _ _ _ _ _ _ us hl=>match us,hl with|[_],_=>rfl
 EV:=dn X G h39 fun _ _ _ _ _ _ us hl=>match us,hl with|[_,_],_=>rfl
 E8:=dn X G h40 fun _ _ _ _ _ _ us hl=>match us,hl with|[_,_],_=>rfl
 FE:=dn X G h41 fun _ _ _ _ _ _ us hl=>match us,hl with|[_,_,_],_=>rfl
 EM:=Ag n_Net g1_Net g2_Net g3_Net g4_Net h42 fun _ _ _ _ _ _ us hl=>match us,hl with|[_,_],_=>rfl
 Fz:=dn X G h43 fun _ _ _ _ _ _ us hl=>match us,hl with|[_,_,_,_],_=>rfl
 FF:=dn X G h44 fun _ _ _ _ _ _ us hl=>match us,hl with|[_,_,_,_],_=>rfl
 EX:=dn X G h45 fun _ _ _ _ _ _ us hl=>match us,hl with|[_,_,_,_,_,_,_],_=>rfl
 Fx:=dn X G h46 fun _ _ _ _ _ _ us hl=>match us,hl with|[_,_,_,_],_=>rfl
 EU:=dn X G h47 fun _ _ _ _ _ _ us hl=>match us,hl with|[_,_,_,_],_=>rfl
 Fj:=dn X G h48 fun _ _ _ _ _ _ us hl=>match us,hl with|[_,_,_,_,_],_=>rfl
 Fw:=dn X G h49 fun _ _ _ _ _ _ us hl=>match us,hl with|[_,_],_=>rfl
 FA:=dn X G h50 fun _ _ _ _ _ _ us hl=>match us,hl with|[_],_=>rfl
 N3:=dn X G h51 fun _ _ _ _ _ _ us hl=>match us,hl with|[_],_=>rfl
 nI:=PySem.W.mg_none_of X G z_all
 DH:=PySem.W.mg_none_of X G z_bool
 uN:=PySem.W.mg_none_of X G z_enumerate
 x8:=PySem.W.mg_none_of X G z_int
 jC:=PySem.W.mg_none_of X G z_isinstance
 et:=PySem.W.mg_none_of X G z_len
 ka:=PySem.W.mg_none_of X G z_list
 hB:=PySem.W.mg_none_of X G z_range
 DN:=PySem.W.mg_none_of X G z_set
 sb:=PySem.W.mg_none_of X G z_str
 uS:=PySem.W.mg_none_of X G z_sum
 qJ:=PySem.W.mg_none_of X G z_tuple
 yE:=PySem.W.mg_none_of X G z_zip
 nM:=⟨⟨_,_,PySem.W.mg_of X G z_GREATEST_ADDRESS,(mZ _ _),fun _=>(mz _)⟩⟩
 qK:=⟨⟨_,_,PySem.W.mg_of X G z_MOST_DOORS,(mZ _ _),fun _=>(mz _)⟩⟩
 o1:=⟨⟨_,_,PySem.W.mg_of X G z_MOST_HOUSES,(mZ _ _),fun _=>(mz _)⟩⟩
 qL:=⟨⟨_,_,PySem.W.mg_of X G z_MOST_ROWS,(mZ _ _),fun _=>(mz _)⟩⟩
 qM:=⟨⟨_,_,PySem.W.mg_of X G z_MOST_STEPS,(mZ _ _),fun _=>(mz _)⟩⟩
 qN:=⟨⟨.ref xv,_,PySem.W.mg_of X G z_SIGNS,rfl,Co y_SIGNS (Nat.le_of_ble_eq_true rfl) (.cons (wz _ _) (.cons (wz _ _) (.cons (wz _ _) .nil))) fun _=>(.cons (uI _) (.cons (uI _) (.cons (uI _) .nil)))⟩⟩
 hI:=⟨⟨.ref xw,_,PySem.W.mg_of X G z_WAIT,rfl,Co y_WAIT (Nat.le_of_ble_eq_true rfl) (.cons (wz _ _) .nil) fun _=>(.cons (uI _) .nil)⟩⟩
 nN:=⟨⟨.ref xx,_,PySem.W.mg_of X G z_WORTHS,rfl,Co y_WORTHS (Nat.le_of_ble_eq_true rfl) (.cons (mZ _ _) (.cons (mZ _ _) (.cons (mZ _ _) (.cons (mZ _ _) .nil)))) fun _=>(.cons (mz _) (.cons (mz _) (.cons (mz _) (.cons (mz _) .nil))))⟩⟩
set_option maxHeartbeats 4000000 in
theorem all_mk{l:PySem.W.OpenLaw}{w:World}{K:PySem.W.Frag}{h:Heap}{mg:Str→Option Value}{fI:Addr}(X:K.In h)(G:h.Ns mainGlobals mg)(OU:mg "law"=some (.ref fI))(F:c9 K "law" oo)(T:xQ K mg) :
  ∃fd:FuncData,(∀(s:Shared)(v:Value),BindsTo s fd ⟨[v],[]⟩ [("_law_script",v)])∧∀base:Heap,K.In base→base.Ns mainGlobals mg→hq l.prog w K mg base gP 12 fI fd ["_law_script"] (lr K 1 pK):=by
 obtain⟨f,dO,an,cF,e_,cM,jD,pm,cd,cK,a,lk,c,k⟩:=F.ex;have e:=OU.symm.trans (PySem.W.mg_of X G a);cases e;exact⟨_,fun s v=>.of_eq rfl,fun base _ _=>Zg (pj (st:=oo) lk c k) lq (LG T)⟩
theorem R_(K:PySem.W.Frag)(H:ai)(a:Addr)(ns:List Int)(hl:ns.length≤63)(ih:bP K H a (ns.map V.int)):lr K 1 pK [.ref a] H (fun v _=>v=.ax true) (fun _ _ _=>False):=
 R8 (K:=K) (mf:=pK) (H:=H) (a:=a) (ns:=ns) ih (R9 ns hl) (fun _ _ _=>False)
theorem YU {l:PySem.W.OpenLaw} {q:Program} {loose:List Str} {qE:(Str→Option Value)→Heap→Prop} {nG:World→Heap→Prop} {d:DefRec} {K:Params→PySem.W.Frag} (aC:l.most=some 63) (sP:d.params.defaults=[])(zj:∀(w:World)(h:Heap),nG w h→(K w.params).In h)(F:∀(w:World)(mg:Str→Option Value)(fI:Addr)(h:Heap),(K w.params).In h→h.Ns mainGlobals mg→mg d.name=some (.ref fI)→
    ∃fd:FuncData,(∀(s:Shared)(u:Value),BindsTo s fd ⟨[u],[]⟩ [("_law_script",u)])∧∀base:Heap,(K w.params).In base→base.Ns mainGlobals mg→hq l.prog w (K w.params) mg base gP 12 fI fd ["_law_script"] (lr (K w.params) 1 pK)) :
  PySem.W.WalkO q loose qE nG l.row.toRowW d [] (fun f vs=>PySem.call f vs):=
 aX.YV (n:=63) (k:=12) (x:="_law_script") (CX:=fun _=>gP) (sp:=fun w=>lr (K w.params) 1 pK) aC (by decide) sP ⟨rfl,by decide,by decide⟩ zj F (fun w H a ns hl _ ih=>R_ (K w.params) H a ns hl ih) fun _ _ _ _ _ z=>z
end bG
end
namespace PySem.W.Fast
theorem tw12843557770642306453 : True := trivial
theorem tw2232469984407979627 : True := trivial
theorem tw907402959355925174 : True := trivial
theorem tw11154403248889398528 : True := trivial
theorem tw16127653284639927467 : True := trivial
theorem tw12688683008838147558 : True := trivial
theorem tw16420210235392592340 : True := trivial
theorem tw444479803206749914 : True := trivial
theorem tw10478442062414142249 : True := trivial
theorem tw9913220503465850289 : True := trivial
theorem tw16429935811848693574 : True := trivial
theorem tw8635369243474911962 : True := trivial
theorem tw13248794123201870095 : True := trivial
theorem tw565507122903669041 : True := trivial
theorem tw7721007361100346567 : True := trivial
theorem tw9612538670660275597 : True := trivial
theorem tw530995459975566609 : True := trivial
theorem tw383667078729873501 : True := trivial
theorem tw4805927760411893121 : True := trivial
theorem tw6634751155745681730 : True := trivial
theorem tw14126667720269143798 : True := trivial
theorem tw6595008800011275694 : True := trivial
theorem tw11158703171805890995 : True := trivial
theorem tw5908380382647142338 : True := trivial
theorem tw2201149068396030737 : True := trivial
theorem tw13213896437688319985 : True := trivial
theorem tw5673503882099509716 : True := trivial
theorem tw13910344422919820977 : True := trivial
theorem tw17974959816942100369 : True := trivial
theorem tw14353582946518036495 : True := trivial
theorem tw5379862590403482430 : True := trivial
theorem tw830008693259705079 : True := trivial
theorem tw16811898454346803088 : True := trivial
theorem tw2375176895423858936 : True := trivial
theorem tw16971275609466965058 : True := trivial
theorem tw12535495995808893782 : True := trivial
theorem tw16825149179290559202 : True := trivial
theorem tw8388762446445632209 : True := trivial
theorem tw3537973892542692538 : True := trivial
theorem tw14504792864325598589 : True := trivial
theorem tw12713479712234852141 : True := trivial
theorem tw9010010435396194559 : True := trivial
theorem tw11195876030328758116 : True := trivial
theorem tw14418300961504618050 : True := trivial
theorem tw3171591569544235853 : True := trivial
theorem tw2782756323992700126 : True := trivial
theorem tw12168362261187805441 : True := trivial
theorem tw8623878338697244366 : True := trivial
theorem tw18441476224356792865 : True := trivial
theorem tw12354751454459170256 : True := trivial
theorem tw6764717202451267587 : True := trivial
theorem tw7504990434160494379 : True := trivial
theorem tw3812919885979489652 : True := trivial
theorem tw4374931086776186614 : True := trivial
theorem tw3697346973685956869 : True := trivial
theorem tw996422395435747315 : True := trivial
theorem tw7329992802774425083 : True := trivial
theorem tw11849153725284545242 : True := trivial
theorem tw4313490648154737052 : True := trivial
theorem tw11681515331416846367 : True := trivial
theorem tw292651395744345713 : True := trivial
theorem tw9027842926197005257 : True := trivial
theorem tw3295823695927032525 : True := trivial
theorem tw17347322745051115422 : True := trivial
theorem tw5546991088363019544 : True := trivial
theorem tw4503554300889666061 : True := trivial
theorem tw11784384320419170082 : True := trivial
theorem tw3339971698109539604 : True := trivial
theorem tw716606321770119427 : True := trivial
theorem tw4455610844186866016 : True := trivial
theorem tw2508737495814598556 : True := trivial
theorem tw3534419687945939052 : True := trivial
theorem tw12099221112717561728 : True := trivial
theorem tw15106743180260265797 : True := trivial
theorem tw2314486076044608903 : True := trivial
theorem tw9592258635464438007 : True := trivial
theorem tw14925023471547288840 : True := trivial
theorem tw3074434429083500729 : True := trivial
theorem tw12336681538621975270 : True := trivial
theorem tw12748777745134749180 : True := trivial
theorem tw15078165694395429307 : True := trivial
theorem tw16803419740586056278 : True := trivial
theorem tw2109383122554612855 : True := trivial
theorem tw14752991344598621875 : True := trivial
theorem tw11994696991288372572 : True := trivial
theorem tw8304078906997231249 : True := trivial
theorem tw5119006532917144882 : True := trivial
theorem tw13294722872852830975 : True := trivial
theorem tw8933765133206957485 : True := trivial
theorem tw9446259210187586356 : True := trivial
theorem tw3923928684291103335 : True := trivial
theorem tw15994283475609242199 : True := trivial
theorem tw5544606921527129445 : True := trivial
theorem tw9667897599286596464 : True := trivial
theorem tw17660441175679045139 : True := trivial
theorem tw17960552671727782614 : True := trivial
end PySem.W.Fast
open PySem PySem.W PyProof.Rows
set_option maxRecDepth 100000 in
set_option maxHeartbeats 0 in
theorem PySem.Challenge.cw_nohalfway_k23_whole_plain_plan_holds : PySem.Challenge.rw_nohalfway_k23_whole_plain_plan.Holds := by
 w_on;o_law;k_head;(case hw=>w_witness2)
 k_fill
 refine bG.YU (l:=PySem.Challenge.rw_nohalfway_k23_whole_plain_plan) rfl rfl (fun w h Y=>PySem.W.kIn_of Y) ?F
 case F=>
  intro w mg fI h kK G sS
  refine' bG.all_mk kK G sS ?h51 (bG.Ym kK G ?n_Net ?g1_Net ?g2_Net ?g3_Net ?g4_Net ?u_Net_many ?u_Net_counts ?u_Net_joined ?u_Net_far ?mk_Net ?kc_Net ?n_NoBooks ?ct_NoBooks ?e1_NoBooks ?ga_NoBooks ?gn_NoBooks ?cl_NoBooks ?sb_NoBooks ?mo_NoBooks ?n_NoPlan ?ct_NoPlan ?e1_NoPlan ?ga_NoPlan ?gn_NoPlan ?cl_NoPlan ?sb_NoPlan ?mo_NoPlan ?spc0 ?tkc0 ?h0 ?h1 ?h2 ?h3 ?h4 ?h5 ?h6 ?h7 ?h8 ?h9 ?h10 ?h11 ?h12 ?h13 ?h14 ?h15 ?h16 ?h17 ?h18 ?h19 ?h20 ?h21 ?h22 ?h23 ?h24 ?h25 ?h26 ?h27 ?h28 ?h29 ?h30 ?h31 ?h32 ?h33 ?h34 ?h35 ?h36 ?h37 ?h38 ?h39 ?h40 ?h41 ?h42 ?h43 ?h44 ?h45 ?h46 ?h47 ?h48 ?h49 ?h50 ?h51 ?z_all ?z_bool ?z_enumerate ?z_int ?z_isinstance ?z_len ?z_list ?z_range ?z_set ?z_str ?z_sum ?z_tuple ?z_zip ?z_GREATEST_ADDRESS ?z_MOST_DOORS ?z_MOST_HOUSES ?z_MOST_ROWS ?z_MOST_STEPS ?z_SIGNS ?y_SIGNS ?z_WAIT ?y_WAIT ?z_WORTHS ?y_WORTHS)
  (case n_Net=>k_is)
  (case g1_Net=>k_is)
  (case g2_Net=>k_is)
  (case g3_Net=>k_is)
  (case g4_Net=>k_is)
  (case u_Net_many=>k_is)
  (case u_Net_counts=>k_is)
  (case u_Net_joined=>k_is)
  (case u_Net_far=>k_is)
  (case mk_Net=>k_is)
  (case kc_Net=>k_is)
  (case n_NoBooks=>k_is)
  (case ct_NoBooks=>k_is)
  (case e1_NoBooks=>k_exc)
  (case ga_NoBooks=>k_is)
  (case gn_NoBooks=>k_is)
  (case cl_NoBooks=>k_is)
  (case sb_NoBooks=>k_is)
  (case mo_NoBooks=>k_is)
  (case n_NoPlan=>k_is)
  (case ct_NoPlan=>k_is)
  (case e1_NoPlan=>k_exc)
  (case ga_NoPlan=>k_is)
  (case gn_NoPlan=>k_is)
  (case cl_NoPlan=>k_is)
  (case sb_NoPlan=>k_is)
  (case mo_NoPlan=>k_is)
  (case spc0=>k_is)
  (case tkc0=>k_is)
  (case z_all=>k_is)
  (case z_bool=>k_is)
  (case z_enumerate=>k_is)
  (case z_int=>k_is)
  (case z_isinstance=>k_is)
  (case z_len=>k_is)
  (case z_list=>k_is)
  (case z_range=>k_is)
  (case z_set=>k_is)
  (case z_str=>k_is)
  (case z_sum=>k_is)
  (case z_tuple=>k_is)
  (case z_zip=>k_is)
  (case z_GREATEST_ADDRESS=>k_is)
  (case z_MOST_DOORS=>k_is)
  (case z_MOST_HOUSES=>k_is)
  (case z_MOST_ROWS=>k_is)
  (case z_MOST_STEPS=>k_is)
  (case z_SIGNS=>k_is)
  (case y_SIGNS=>k_is)
  (case z_WAIT=>k_is)
  (case y_WAIT=>k_is)
  (case z_WORTHS=>k_is)
  (case y_WORTHS=>k_is)
  (case h0=>(refine' bG.dp ?a ?l ?c ?k;(case a=>k_is);(case l=>k_is);(case c=>k_is);(case k=>k_is)))
  (case h1=>(refine' bG.dp ?a ?l ?c ?k;(case a=>k_is);(case l=>k_is);(case c=>k_is);(case k=>k_is)))
  (case h2=>(refine' bG.dp ?a ?l ?c ?k;(case a=>k_is);(case l=>k_is);(case c=>k_is);(case k=>k_is)))
  (case h3=>(refine' bG.dp ?a ?l ?c ?k;(case a=>k_is);(case l=>k_is);(case c=>k_is);(case k=>k_is)))
  (case h4=>(refine' bG.dp ?a ?l ?c ?k;(case a=>k_is);(case l=>k_is);(case c=>k_is);(case k=>k_is)))
  (case h5=>(refine' bG.dp ?a ?l ?c ?k;(case a=>k_is);(case l=>k_is);(case c=>k_is);(case k=>k_is)))
  (case h6=>(refine' bG.dp ?a ?l ?c ?k;(case a=>k_is);(case l=>k_is);(case c=>k_is);(case k=>k_is)))
  (case h7=>(refine' bG.dp ?a ?l ?c ?k;(case a=>k_is);(case l=>k_is);(case c=>k_is);(case k=>k_is)))
  (case h8=>(refine' bG.dp ?a ?l ?c ?k;(case a=>k_is);(case l=>k_is);(case c=>k_is);(case k=>k_is)))
  (case h9=>(refine' bG.v5 ?a ?l ?c ?k ?i;(case a=>k_is);(case l=>k_is);(case c=>k_is);(case k=>k_is);(case i=>k_is)))
  (case h10=>(refine' bG.dp ?a ?l ?c ?k;(case a=>k_is);(case l=>k_is);(case c=>k_is);(case k=>k_is)))
  (case h11=>(refine' bG.dp ?a ?l ?c ?k;(case a=>k_is);(case l=>k_is);(case c=>k_is);(case k=>k_is)))
  (case h12=>(refine' bG.dp ?a ?l ?c ?k;(case a=>k_is);(case l=>k_is);(case c=>k_is);(case k=>k_is)))
  (case h13=>(refine' bG.dp ?a ?l ?c ?k;(case a=>k_is);(case l=>k_is);(case c=>k_is);(case k=>k_is)))
  (case h14=>(refine' bG.dp ?a ?l ?c ?k;(case a=>k_is);(case l=>k_is);(case c=>k_is);(case k=>k_is)))
  (case h15=>(refine' bG.dp ?a ?l ?c ?k;(case a=>k_is);(case l=>k_is);(case c=>k_is);(case k=>k_is)))
  (case h16=>(refine' bG.dp ?a ?l ?c ?k;(case a=>k_is);(case l=>k_is);(case c=>k_is);(case k=>k_is)))
  (case h17=>(refine' bG.dp ?a ?l ?c ?k;(case a=>k_is);(case l=>k_is);(case c=>k_is);(case k=>k_is)))
  (case h18=>(refine' bG.dp ?a ?l ?c ?k;(case a=>k_is);(case l=>k_is);(case c=>k_is);(case k=>k_is)))
  (case h19=>(refine' bG.dp ?a ?l ?c ?k;(case a=>k_is);(case l=>k_is);(case c=>k_is);(case k=>k_is)))
  (case h20=>(refine' bG.dp ?a ?l ?c ?k;(case a=>k_is);(case l=>k_is);(case c=>k_is);(case k=>k_is)))
  (case h21=>(refine' bG.dp ?a ?l ?c ?k;(case a=>k_is);(case l=>k_is);(case c=>k_is);(case k=>k_is)))
  (case h22=>(refine' bG.dp ?a ?l ?c ?k;(case a=>k_is);(case l=>k_is);(case c=>k_is);(case k=>k_is)))
  (case h23=>(refine' bG.dp ?a ?l ?c ?k;(case a=>k_is);(case l=>k_is);(case c=>k_is);(case k=>k_is)))
  (case h24=>(refine' bG.dp ?a ?l ?c ?k;(case a=>k_is);(case l=>k_is);(case c=>k_is);(case k=>k_is)))
  (case h25=>(refine' bG.dp ?a ?l ?c ?k;(case a=>k_is);(case l=>k_is);(case c=>k_is);(case k=>k_is)))
  (case h26=>(refine' bG.dp ?a ?l ?c ?k;(case a=>k_is);(case l=>k_is);(case c=>k_is);(case k=>k_is)))
  (case h27=>(refine' bG.dp ?a ?l ?c ?k;(case a=>k_is);(case l=>k_is);(case c=>k_is);(case k=>k_is)))
  (case h28=>(refine' bG.dp ?a ?l ?c ?k;(case a=>k_is);(case l=>k_is);(case c=>k_is);(case k=>k_is)))
  (case h29=>(refine' bG.v5 ?a ?l ?c ?k ?i;(case a=>k_is);(case l=>k_is);(case c=>k_is);(case k=>k_is);(case i=>k_is)))
  (case h30=>(refine' bG.dp ?a ?l ?c ?k;(case a=>k_is);(case l=>k_is);(case c=>k_is);(case k=>k_is)))
  (case h31=>(refine' bG.dp ?a ?l ?c ?k;(case a=>k_is);(case l=>k_is);(case c=>k_is);(case k=>k_is)))
  (case h32=>(refine' bG.dp ?a ?l ?c ?k;(case a=>k_is);(case l=>k_is);(case c=>k_is);(case k=>k_is)))
  (case h33=>(refine' bG.dp ?a ?l ?c ?k;(case a=>k_is);(case l=>k_is);(case c=>k_is);(case k=>k_is)))
  (case h34=>(refine' bG.dp ?a ?l ?c ?k;(case a=>k_is);(case l=>k_is);(case c=>k_is);(case k=>k_is)))
  (case h35=>(refine' bG.v5 ?a ?l ?c ?k ?i;(case a=>k_is);(case l=>k_is);(case c=>k_is);(case k=>k_is);(case i=>k_is)))
  (case h36=>(refine' bG.dp ?a ?l ?c ?k;(case a=>k_is);(case l=>k_is);(case c=>k_is);(case k=>k_is)))
  (case h37=>(refine' bG.dp ?a ?l ?c ?k;(case a=>k_is);(case l=>k_is);(case c=>k_is);(case k=>k_is)))
  (case h38=>(refine' bG.dp ?a ?l ?c ?k;(case a=>k_is);(case l=>k_is);(case c=>k_is);(case k=>k_is)))
  (case h39=>(refine' bG.dp ?a ?l ?c ?k;(case a=>k_is);(case l=>k_is);(case c=>k_is);(case k=>k_is)))
  (case h40=>(refine' bG.dp ?a ?l ?c ?k;(case a=>k_is);(case l=>k_is);(case c=>k_is);(case k=>k_is)))
  (case h41=>(refine' bG.dp ?a ?l ?c ?k;(case a=>k_is);(case l=>k_is);(case c=>k_is);(case k=>k_is)))
  (case h42=>(refine' bG.v5 ?a ?l ?c ?k ?i;(case a=>k_is);(case l=>k_is);(case c=>k_is);(case k=>k_is);(case i=>k_is)))
  (case h43=>(refine' bG.dp ?a ?l ?c ?k;(case a=>k_is);(case l=>k_is);(case c=>k_is);(case k=>k_is)))
  (case h44=>(refine' bG.dp ?a ?l ?c ?k;(case a=>k_is);(case l=>k_is);(case c=>k_is);(case k=>k_is)))
  (case h45=>(refine' bG.dp ?a ?l ?c ?k;(case a=>k_is);(case l=>k_is);(case c=>k_is);(case k=>k_is)))
  (case h46=>(refine' bG.dp ?a ?l ?c ?k;(case a=>k_is);(case l=>k_is);(case c=>k_is);(case k=>k_is)))
  (case h47=>(refine' bG.dp ?a ?l ?c ?k;(case a=>k_is);(case l=>k_is);(case c=>k_is);(case k=>k_is)))
  (case h48=>(refine' bG.dp ?a ?l ?c ?k;(case a=>k_is);(case l=>k_is);(case c=>k_is);(case k=>k_is)))
  (case h49=>(refine' bG.dp ?a ?l ?c ?k;(case a=>k_is);(case l=>k_is);(case c=>k_is);(case k=>k_is)))
  (case h50=>(refine' bG.dp ?a ?l ?c ?k;(case a=>k_is);(case l=>k_is);(case c=>k_is);(case k=>k_is)))
  (case h51=>(refine' bG.dp ?a ?l ?c ?k;(case a=>k_is);(case l=>k_is);(case c=>k_is);(case k=>k_is)))
