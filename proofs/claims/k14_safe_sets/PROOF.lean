import PyProof.Rows.All
import Wide.All
import OpenK.AllK
import Wide.FinOn
import Lean
import PyProof.EqAt
import PyProof.EqKinds
import PyProof.TupleCall
import PyProof.NeKinds
import KE.KIsAll
import PyProof.ExcArgsOwn
import PySem.SetOps
import PyProof.TupleKey
import PyProof.SetKind
import PyProof.IsRules
import PyProof.Rows.SetFrom
import PyProof.Rows.SortShellK
import PyProof.DictKinds
import PyProof.FactsAll.tuple_2
import PyProof.SetRoads
import PyProof.AutoListH
import PyProof.SumAny
import PyProof.StrCalls
import KE.RegKIsAll
import KE.RegKTryMore
import PySem.Challenge.RW_nohalfway_k14_safe_sets
set_option Elab.async false
set_option linter.all false
set_option maxRecDepth 100000
noncomputable section
namespace aS
open PySem PySem.Spec PyProof.Rows
abbrev Key:=Sum Int Str
def qG:Key→Value→Bool
 |.inl k,v=>Value.isInt k v
 |.inr x,v=>Value.isStrOf x v
def Qt(w:World):Key→Int
 |.inl k=>hashInt k
 |.inr x=>hashStr w x
theorem mh:∀{k:Key}{v:Value},qG k v=true→(∃i t,k=Sum.inl i∧v=Value.int i t)∨(∃x t,k=Sum.inr x∧v=Value.str x t)
 |.inl i,v,h=>by obtain⟨t,e⟩:=Value.isInt_shape (k:=i) (v:=v) h;exact .inl ⟨i,t,rfl,e⟩
 |.inr x,v,h=>by obtain⟨t,e⟩:=Value.isStrOf_shape (x:=x) (v:=v) h;exact .inr ⟨x,t,rfl,e⟩
theorem Qu(i:Int)(t:Tok):qG (.inl i) (.int i t)=true:=by simp[qG,Value.isInt]
theorem Qv(x:Str)(t:Tok):qG (.inr x) (.str x t)=true:=by simp[qG,Value.isStrOf]
theorem Qx(a b:Int):decide ((Sum.inl a:Key)=Sum.inl b)=(a==b):=by
 by_cases e:a=b
 ·subst e;simp
 ·have h:¬(Sum.inl a:Key)=Sum.inl b:=fun q=>e (Sum.inl.inj q);rw[decide_eq_false h];exact(beq_eq_false_iff_ne.mpr e).symm
theorem QA(a b:Str):decide ((Sum.inr a:Key)=Sum.inr b)=decide (a=b):=by
 by_cases e:a=b
 ·subst e;simp
 ·have h:¬(Sum.inr a:Key)=Sum.inr b:=fun q=>e (Sum.inr.inj q);rw[decide_eq_false h,decide_eq_false e]
theorem Qy(a:Int)(b:Str):decide ((Sum.inl a:Key)=Sum.inr b)=false:=decide_eq_false (fun q=>nomatch q)
theorem Qz(a:Str)(b:Int):decide ((Sum.inr a:Key)=Sum.inl b)=false:=decide_eq_false (fun q=>nomatch q)
noncomputable def iF(prog:Program)(w:World):PySem.KeyKind prog w Key where
 is:=qG
 hash:=Qt w
 inj:=fun v a b ha hb=>by
  rcases mh ha with⟨i,t,rfl,rfl⟩|⟨x,t,rfl,rfl⟩
  ·rcases mh hb with⟨j,u,rfl,e⟩|⟨y,u,rfl,e⟩
   ·injection e with aj _;rw[aj]
   ·exact nomatch e
  ·rcases mh hb with⟨j,u,rfl,e⟩|⟨y,u,rfl,e⟩
   ·exact nomatch e
   ·injection e with aj _;rw[aj]
 byValue:=fun k v h=>by rcases mh h with⟨i,t,rfl,rfl⟩|⟨x,t,rfl,rfl⟩<;>rfl
 pyHash:=fun hv h=>by
  rcases mh hv with⟨i,t,rfl,rfl⟩|⟨x,t,rfl,rfl⟩
  ·exact wpAny_pyHash_int h
  ·exact wpAny_pyHash_str h
 eqBool:=fun hu hv h=>by
  rcases mh hu with⟨i,t,rfl,rfl⟩|⟨x,t,rfl,rfl⟩
  ·rcases mh hv with⟨j,u,rfl,rfl⟩|⟨y,u,rfl,rfl⟩
   ·rw[Qx]at h;exact wpAny_eqBool_int h
   ·rw[Qy]at h;exact SeqAt.EqAt.int_str i t y u _ _ _ _ h
  ·rcases mh hv with⟨j,u,rfl,rfl⟩|⟨y,u,rfl,rfl⟩
   ·rw[Qz]at h;exact SeqAt.EqAt.str_int x t j u _ _ _ _ h
   ·rw[QA]at h;exact wpAny_eqBool_str h
 «strs»:=fun k x t v h=>by
  rcases mh h with⟨i,u,rfl,e⟩|⟨y,u,rfl,e⟩
  ·exact nomatch e
  ·injection e with aj _;subst aj;cases v<;>rfl
theorem RG(prog:Program)(w:World)(i:Int)(t:Tok):(iF prog w).is (.inl i) (.int i t)=true:=Qu i t
theorem RH(prog:Program)(w:World)(x:Str)(t:Tok):(iF prog w).is (.inr x) (.str x t)=true:=Qv x t
inductive V where
 |non|aD (b:Bool)|int (i:Int)|str (x:Str)|lp (b:Array UInt8)|vb (b:UInt64)|ref (a:Addr)|ty (n:String)
 deriving DecidableEq
noncomputable def RelV:V→Value→Prop
 |.non,u=>u=Value.none
 |.aD b,u=>u=Value.bool b
 |.int i,u=>∃t,u=Value.int i t
 |.str x,u=>∃t,u=Value.str x t
 |.lp b,u=>∃t,u=Value.bytes b t
 |.vb b,u=>∃t,u=Value.float b t
 |.ref a,u=>u=Value.ref a
 |.ty n,u=>u=Value.type n
abbrev Vals:List V→List Value→Prop:=Paired RelV
theorem Vals.length{xs:List V}{us:List Value}(r:Vals xs us):xs.length=us.length:=Paired.length r
theorem Vals.get:∀{xs:List V}{us:List Value}{i:Nat}{x:V},Vals xs us→xs[i]?=some x→∃u,us[i]?=some u∧RelV x u
 |_,_,_,_,.nil,e=>by simp at e
 |_,_,0,_,.cons r _,e=>by simp at e;subst e;exact⟨_,rfl,r⟩
 |_,_,i+1,x,.cons _ t,e=>by obtain⟨u,h1,h2⟩:=Vals.get (i:=i) (x:=x) t (by simpa using e);exact⟨u,by simpa using h1,h2⟩
theorem Vals.set{x:V}{u:Value}(r:RelV x u):∀{xs:List V}{us:List Value}(i:Nat),Vals xs us→Vals (xs.set i x) (us.set i u)
 |_,_,_,.nil=>.nil
 |_,_,0,.cons _ t=>.cons r t
 |_,_,i+1,.cons q t=>.cons q (Vals.set r i t)
theorem Vals.append:∀{xs ys:List V}{us ws:List Value},Vals xs us→Vals ys ws→Vals (xs++ys) (us++ws)
 |_,_,_,_,.nil,s=>s
 |_,_,_,_,.cons r t,s=>.cons r (Vals.append t s)
theorem Vals.take:∀{xs:List V}{us:List Value}(n:Nat),Vals xs us→Vals (xs.take n) (us.take n)
 |_,_,0,_=>.nil
 |_,_,_+1,.nil=>.nil
 |_,_,n+1,.cons r t=>.cons r (Vals.take n t)
theorem Vals.drop:∀{xs:List V}{us:List Value}(n:Nat),Vals xs us→Vals (xs.drop n) (us.drop n)
 |_,_,0,r=>r
 |_,_,_+1,.nil=>.nil
 |_,_,n+1,.cons _ t=>Vals.drop n t
def hz:Option V→Option Value→Prop
 |some v,some u=>RelV v u
 |none,none=>True
 |_,_=>False
def fo{κ:Type}:List (κ×V)→List (κ×Value)→Prop:=Paired fun(p:κ×V)(q:κ×Value)=>p.1=q.1∧RelV p.2 q.2
def cT:Key→V
 |.inl i=>.int i
 |.inr x=>.str x
inductive dC where
 |lst (xs:List V)
 |tup (xs:List V)
 |cW (aT:List (Key×V))|a_ (aT:List (List Key×V))
 |set (S:Int→Bool) (n:Nat)
 |ins (C a0:Addr) (aV:List (Str×V))
 |own (x:Addr)
 |CS (aV:List (Str×V))
 |met (f x:Addr)
 |AY (lo hi:Int)
 |j8 (o:Obj) (u:dC)
 |pN (aU:Array Value)
 |ext (rR:Heap→Prop)
abbrev ah:=Addr→Option dC
def upd(H:ah)(a:Addr)(o:dC):ah:=fun b=>if b=a then some o else H b
theorem dA{H:ah}{a:Addr}{o:dC}:upd H a o a=some o:=by unfold upd;rw[if_pos rfl]
theorem dr{H:ah}{a b:Addr}{o:dC}(h:b≠a):upd H a o b=H b:=by unfold upd;rw[if_neg h]
theorem R0{H:ah}{a b:Addr}{o u:dC}(h:H a=some o)(h':H b=some u)(d:o≠u):a≠b:=by intro e;subst e;rw[h]at h';exact d (Option.some.inj h')
theorem jr{H:ah}{a b:Addr}{o:dC}(h:H a=some o)(h':H b=none):a≠b:=by intro e;subst e;rw[h]at h';cases h'
section
variable(P:Program)(w:World)
noncomputable def fz(H:ah)(h:Heap)(a:Addr):dC→Prop
 |.lst xs=>xs.length≤sizeLine∧∃(its:List Value)(n:Nat),Vals xs its∧h.get? a=some { cls:=.type "list",data:=.seq its.toArray n }
 |.tup xs=>xs.length≤sizeLine∧∃its:List Value,Vals xs its∧IsTup h a its.toArray
 |.cW aT=>aT.length≤sizeLine∧(a==sysModules)=false∧∃vs,fo aT vs∧h.DictOf (iF P w) a vs
 |.a_ aT=>aT.length≤sizeLine∧(a==sysModules)=false∧∃xs:List (List Key×Addr×Value),
     Paired (fun(p:List Key×V)(q:List Key×Addr×Value)=>p.1=q.1∧H q.2.1=some (.tup (p.1.map cT))∧RelV p.2 q.2.2) aT xs∧
     ∃o ag du,h.get? a=some o∧o.ExactDict∧o.data=.dict ag du∧ag.toList=xs.map (entryOfKey (tupleKind (iF P w)))∧(xs.map (·.1)).Nodup
 |.set S n=>h.SetOf (intKind P w) a S n
 |.ins C a0 aV=>H a0=some (.own a)∧aV.length≤1000∧a0≠a∧h.get? a=some (PySem.W.instObj C a0)∧
     ∃dY,h.Ns1 a0 dY∧(∀f,hz (aV.lookup f) (dY f))∧PySem.Within dY (aV.map (·.1))
 |.own _=>∃o,h.get? a=some o
 |.CS aV=>∃dY,h.Ns1 a dY∧∀f,hz (aV.lookup f) (dY f)
 |.AY lo hi=>∃t u v,h.get? a=some { cls:=.type "range",data:=.fields #[.int lo t,.int hi u,.int 1 v] }
 |.j8 o u=>h.get? a=some o∧fz H h a u
 |.pN aU=>h.get? a=some { cls:=.none,data:=.fields aU }
 |.met f x=>h.get? a=some (PySem.W.methodObj (.ref f) (.ref x))
 |.ext rR=>rR h∧(∃o,h.get? a=some o)∧∀h1 h2:Heap,rR h1→(∀o,h1.get? a=some o→h2.get? a=some o)→rR h2
def ez(H:ah)(h:Heap):Prop:=∀a o,H a=some o→fz P w H h a o
end
section
variable{P:Program}{w:World}{H H':ah}{h h':Heap}{a:Addr}{o:dC}
theorem fz.lt(x:fz P w H h a o):a<h.objs.size:=by
 cases o with
 |lst xs=>obtain⟨_,_,_,_,e⟩:=x;exact Heap.lt_size e
 |tup xs=>obtain⟨_,_,_,p⟩:=x;exact p.lt
 |cW aT=>obtain⟨_,_,_,_,o,_,_,e,_⟩:=x;exact Heap.lt_size e
 |a_ aT=>obtain⟨_,_,_,_,o,_,_,e,_⟩:=x;exact Heap.lt_size e
 |set S n=>obtain⟨o,_,_,_,e,_⟩:=x;exact Heap.lt_size e
 |ins C a0 aV=>obtain⟨_,_,_,e,_⟩:=x;exact Heap.lt_size e
 |own y=>obtain⟨_,e⟩:=x;exact Heap.lt_size e
 |CS aV=>obtain⟨_,⟨_,_,_,e,_⟩,_⟩:=x;exact Heap.lt_size e
 |AY lo hi=>obtain⟨_,_,_,e⟩:=x;exact Heap.lt_size e
 |j8 aR u=>obtain⟨e,_⟩:=x;exact Heap.lt_size e
 |pN aU=>exact Heap.lt_size (show h.get? a=some _ from x)
 |met f y=>exact Heap.lt_size (show h.get? a=some _ from x)
 |ext rR=>obtain⟨_,⟨_,e⟩,_⟩:=x;exact Heap.lt_size e
theorem Paired.Aj{α β:Type}{F G:α→β→Prop}:∀{l₁:List α}{l₂:List β},Paired F l₁ l₂→(∀a b,F a b→G a b)→Paired G l₁ l₂
 |_,_,.nil,_=>.nil
 |_,_,.cons r t,f=>.cons (f _ _ r) (Paired.Aj t f)
theorem fz.nY(x:fz P w H h a o)(k:∀b u,(b=a∨H b=some (.own a))→h.get? b=some u→h'.get? b=some u)(ho:∀b,H b=some (.own a)→H' b=some (.own a))(ht:∀b xs,H b=some (.tup xs)→H' b=some (.tup xs)):fz P w H' h' a o:=by
 induction o with
 |lst xs=>obtain⟨z,its,n,r,e⟩:=x;exact⟨z,its,n,r,k _ _ (.inl rfl) e⟩
 |tup xs=>obtain⟨z,its,r,aR,e,c⟩:=x;exact⟨z,its,r,aR,k _ _ (.inl rfl) e,c⟩
 |cW aT=>obtain⟨z,y,vs,r,aR,ag,du,e,c⟩:=x;exact⟨z,y,vs,r,aR,ag,du,k _ _ (.inl rfl) e,c⟩
 |a_ aT=>obtain⟨z,y,xs,r,aR,ag,du,e,c⟩:=x;exact⟨z,y,xs,Paired.Aj r fun p q z=>⟨z.1,ht _ _ z.2.1,z.2.2⟩,aR,ag,du,k _ _ (.inl rfl) e,c⟩
 |set S n=>obtain⟨aR,ag,du,t,e,c⟩:=x;exact⟨aR,ag,du,t,k _ _ (.inl rfl) e,c⟩
 |ins C a0 aV=>obtain⟨d,z,ne,e,dY,⟨dT,ag,du,ax,c⟩,r⟩:=x;exact⟨ho _ d,z,ne,k _ _ (.inl rfl) e,dY,⟨dT,ag,du,k _ _ (.inr d) ax,c⟩,r⟩
 |own y=>obtain⟨aR,e⟩:=x;exact⟨aR,k _ _ (.inl rfl) e⟩
 |CS aV=>obtain⟨dY,⟨dT,ag,du,e,c⟩,r⟩:=x;exact⟨dY,⟨dT,ag,du,k _ _ (.inl rfl) e,c⟩,r⟩
 |AY lo hi=>obtain⟨t,u,v,e⟩:=x;exact⟨t,u,v,k _ _ (.inl rfl) e⟩
 |j8 aR u b6=>obtain⟨e,q⟩:=x;exact⟨k _ _ (.inl rfl) e,b6 q⟩
 |pN aU=>have e:h.get? a=some { cls:=.none,data:=.fields aU }:=x;show h'.get? a=some { cls:=.none,data:=.fields aU };exact k a _ (.inl rfl) e
 |met f y=>have e:h.get? a=some (PySem.W.methodObj (.ref f) (.ref y)):=x;show h'.get? a=some (PySem.W.methodObj (.ref f) (.ref y));exact k a _ (.inl rfl) e
 |ext rR=>obtain⟨p,⟨o,e⟩,st⟩:=x;exact⟨st _ _ p fun o q=>k _ _ (.inl rfl) q,⟨o,k _ _ (.inl rfl) e⟩,st⟩
theorem ez.lt(x:ez P w H h)(e:H a=some o):a<h.objs.size:=(x a o e).lt
theorem ez.fresh(x:ez P w H h)(e:h.objs.size≤a):H a=none:=by
 cases q:H a with
 |none=>rfl
 |some u=>exact absurd (Nat.lt_of_lt_of_le (x.lt q) e) (Nat.lt_irrefl _)
theorem ez.kept(x:ez P w H h)(k:∀b u,h.get? b=some u→h'.get? b=some u):ez P w H h':=fun a o e=>
 (x a o e).nY (fun b u _ q=>k b u q) (fun _ q=>q) fun _ _ q=>q
theorem ez.laid(x:ez P w H h)(k:∀b u,h.get? b=some u→h'.get? b=some u)(hp:h.objs.size≤a)(new:fz P w (upd H a o) h' a o):ez P w (upd H a o) h':=fun b u e=>by
 have aJ:=x.fresh hp;by_cases hb:b=a
 ·subst hb;rw[dA]at e;cases e;exact new
 ·rw[dr hb]at e;exact(x b u e).nY (fun c v _ q=>k c v q) (fun c q=>by rw[dr (jr q aJ)];exact q) fun c xs q=>by rw[dr (jr q aJ)];exact q
end
def e3(H:ah)(a:Addr)(u:dC):Prop:=H a=some u∨∃o,H a=some (.j8 o u)
theorem e3.of{H:ah}{a:Addr}{u:dC}(h:H a=some u):e3 H a u:=.inl h
theorem e3.ok{P:Program}{w:World}{H:ah}{h:Heap}{a:Addr}{u:dC}(r:e3 H a u)(x:ez P w H h):fz P w H h a u:=by
 rcases r with r|⟨o,r⟩
 ·exact x a u r
 ·obtain⟨_,q⟩:=x a _ r;exact q
noncomputable def r4:Option dC→Prop
 |some (.lst _)=>True
 |some (.cW _)=>True
 |some (.a_ _)=>True
 |some (.set _ _)=>True
 |some (.ins _ _ _)=>True
 |some (.ext _)=>True
 |_=>False
section
variable{P:Program}{w:World}{H:ah}{h h':Heap}{x e:Addr}{cg:dC}
theorem ez.write(ok:ez P w H h)(jo:r4 (H x))(he:e=x∨H e=some (.own x))(k:∀b u,b≠e→h.get? b=some u→h'.get? b=some u)(qu:∃u,h'.get? e=some u)(new:fz P w (upd H x cg) h' x cg):ez P w (upd H x cg) h':=fun b u q=>by
 have HC:∀c y,H c=some (.own y)→c≠x:=fun c y r z=>by subst z;rw[r]at jo;exact jo
 have Sa:∀c xs,H c=some (.tup xs)→c≠x:=fun c xs r z=>by subst z;rw[r]at jo;exact jo
 by_cases hb:b=x
 ·subst hb;rw[dA]at q;cases q;exact new
 ·rw[dr hb]at q;by_cases oL:b=e
  ·have i4:H b=some (.own x):=by
     rcases he with z|z
     ·exact absurd (oL.trans z) hb
     ·rw[oL];exact z
   rw[q]at i4;cases i4;obtain⟨v,hv⟩:=qu;exact⟨v,by rw[oL];exact hv⟩
  ·refine(ok b u q).nY (fun c v hc r=>k c v ?_ r) (fun c r=>by rw[dr (HC c b r)];exact r) fun c xs r=>by rw[dr (Sa c xs r)];exact r
   rcases hc with rfl|hc
   ·exact oL
   ·rintro rfl;rcases he with z|z
    ·exact HC c b hc z
    ·rw[hc]at z;cases z;exact hb rfl
end
structure e4(aV ex:List Addr)(H H':ah)(h h':Heap):Prop where
 keep:∀b o,h.get? b=some o→H b=none→b∉aV→b∉ex→h'.get? b=some o
 slot:∀b o,h.get? b=some o→H b=none→b∈aV→b∉ex→∃bZ,h'.get? b=some { o with slots:=bZ }
 free:∀b o,h.get? b=some o→H b=none→b∉ex→H' b=none
 there:∀b o,h.get? b=some o→b∉ex→∃cg,h'.get? b=some cg
 kn:∀b xs,H b=some (.tup xs)→H' b=some (.tup xs)
 jI:∀b o u,H b=some (.j8 o u)→H' b=some (.j8 o u)
 km:∀b aU,H b=some (.pN aU)→∃more,H' b=some (.pN (aU++more))
section
variable{aV FK ex j5:List Addr}{H H1 aM:ah}{h h1 h2 h':Heap}{a x e:Addr}{o:dC}
theorem e4.any(u:e4 aV ex H H1 h h1){b:Addr}{aR:Obj}(q:h.get? b=some aR)(n:H b=none)(hx:b∉ex):∃bZ,h1.get? b=some { aR with slots:=bZ }:=by
 by_cases hb:b∈aV
 ·exact u.slot b aR q n hb hx
 ·exact⟨aR.slots,u.keep b aR q n hb hx⟩
theorem e4.trans(a:e4 aV ex H H1 h h1)(b:e4 aV ex H1 aM h1 h2):e4 aV ex H aM h h2 where
 keep:=fun c aR q n hc hx=>b.keep c aR (a.keep c aR q n hc hx) (a.free c aR q n hx) hc hx
 slot:=fun c aR q n hc hx=>by obtain⟨bZ,aj⟩:=a.slot c aR q n hc hx;obtain⟨B5,ax⟩:=b.slot c _ aj (a.free c aR q n hx) hc hx;exact⟨B5,ax⟩
 free:=fun c aR q n hx=>by obtain⟨cg,aj⟩:=a.there c aR q hx;exact b.free c cg aj (a.free c aR q n hx) hx
 there:=fun c aR q hx=>by obtain⟨cg,aj⟩:=a.there c aR q hx;exact b.there c cg aj hx
 kn:=fun c xs q=>b.kn c xs (a.kn c xs q)
 jI:=fun c aR xs q=>b.jI c aR xs (a.jI c aR xs q)
 km:=fun c aU q=>by obtain⟨m1,aj⟩:=a.km c aU q;obtain⟨m2,ax⟩:=b.km c _ aj;exact⟨m1++m2,by rw[ax,Array.append_assoc]⟩
theorem e4.kept(k:∀b u,h.get? b=some u→h'.get? b=some u):e4 aV ex H H h h':=
 ⟨fun b aR q _ _ _=>k b aR q,fun b aR q _ _ _=>⟨aR.slots,k b aR q⟩,fun _ _ _ n _=>n,fun b aR q _=>⟨aR,k b aR q⟩,fun _ _ q=>q,fun _ _ _ q=>q,fun _ aU q=>⟨#[],by rw[q];simp⟩⟩
theorem e4.refl:e4 aV ex H H h h:=e4.kept fun _ _ q=>q
theorem e4.laid(k:∀b u,h.get? b=some u→h'.get? b=some u)(hp:h.objs.size≤a)(aJ:H a=none):e4 aV ex H (upd H a o) h h' where
 keep:=fun b u q _ _ _=>k b u q
 slot:=fun b u q _ _ _=>⟨u.slots,k b u q⟩
 free:=fun b u q n _=>by rw[dr (Nat.ne_of_lt (Nat.lt_of_lt_of_le (Heap.lt_size q) hp))];exact n
 there:=fun b u q _=>⟨u,k b u q⟩
 kn:=fun b xs q=>by rw[dr (jr q aJ)];exact q
 jI:=fun b u xs q=>by rw[dr (jr q aJ)];exact q
 km:=fun b aU q=>⟨#[],by rw[dr (jr q aJ),q];simp⟩
theorem e4.write(jo:r4 (H x))(he:e=x∨H e=some (.own x))(k:∀b u,b≠e→h.get? b=some u→h'.get? b=some u)(qu:∃u,h'.get? e=some u):e4 aV ex H (upd H x o) h h':=by
 have hx:∀b,H b=none→b≠x:=fun b n z=>by subst z;rw[n]at jo;exact jo
 have hb:∀b,H b=none→b≠e:=fun b n z=>by
  subst z;rcases he with r|r
  ·exact hx b n r
  ·rw[n]at r;cases r
 have hm:∀b u,H b=some u→¬r4 (some u)→b≠x:=fun b u q nm z=>by subst z;rw[q]at jo;exact nm jo
 refine⟨fun b u q n _ _=>k b u (hb b n) q,fun b u q n _ _=>⟨u.slots,k b u (hb b n) q⟩,fun b u q n _=>by rw[dr (hx b n)];exact n,fun b u q _=>?_,
  fun b xs q=>by rw[dr (hm b _ q fun z=>z)];exact q,fun b u xs q=>by rw[dr (hm b _ q fun z=>z)];exact q,fun b aU q=>⟨#[],by rw[dr (hm b _ q fun z=>z),q];simp⟩⟩
 by_cases oL:b=e
 ·subst oL;exact qu
 ·exact⟨u,k b u oL q⟩
end
def xa(h:Heap)(H:ah):List Addr:=(List.range h.objs.size).filter fun a=>(H a).isSome
def me(h:Heap)(H:ah):Heap:=PySem.W.hideAll h (xa h H)
theorem N_(h:Heap)(H:ah):(me h H).objs.size=h.objs.size:=PySem.W.hideAll_size _ _
theorem N9{h:Heap}{H:ah}{b:Addr}{o:Obj}(e:h.get? b=some o)(n:H b=none):(me h H).get? b=some o:=
 PySem.W.hideAll_get _ e fun hm=>by have q:(H b).isSome=true:=(List.mem_filter.mp hm).2;rw[n]at q;simp at q
theorem Sk{h:Heap}{H:ah}{b:Addr}{o:Obj}(e:(me h H).get? b=some o):h.get? b=some o∧H b=none:=by
 have cA:h.get? b=some o:=PySem.W.of_hideAll (xa h H) e;refine⟨cA,?_⟩;cases q:H b with
 |none=>rfl
 |some x=>have hm:b∈xa h H:=List.mem_filter.mpr ⟨List.mem_range.mpr (Heap.lt_size cA),by simp[q]⟩;have z:(me h H).get? b=none:=PySem.W.hideAll_none (xa h H) hm;rw[z]at e;cases e
noncomputable def K0(g h:Heap)(L:Addr):List (Addr×Obj):=(List.range h.objs.size).filterMap fun a=>if a=L∨(g.get? a).isSome=true then none else(h.get? a).map fun o=>(a,o)
def rest(g h:Heap)(L d:Addr):List (Addr×Obj):=(K0 g h L).filter fun p=>decide (p.1≠d)
structure Mod(K:PySem.W.Frag)(mg:Str→Option Value)(base:Heap):Prop where
 oX:K.In base
 glob:base.Ns mainGlobals mg
 blt:∃dq,base.Ns builtinsNs dq∧∀x:Str,x≠"__name__"→dq x=bootBuiltins x
 nolimit:base.NoLimit
structure aK where
 prog:Program
 w:World
 K:PySem.W.Frag
 mg:Str→Option Value
 base:Heap
 A:Around
 N:List Str
 fY:Shared
 r0:ah
 env:Env
 outer:List Env
 stack:List Env
 ex:List Addr
 fn:Str→Bool
 calm:Bool
 g7:List (Addr×Obj)
 xe:Value→Shared→Prop
def j7(l:List Env):List Addr:=l.filterMap (·.frame)
abbrev aK.aV(X:aK):List Addr:=j7 X.outer
noncomputable def eC(sc:Scope)(x:Str):Prop:=sc.names.lookup x=some .local∨sc.names.lookup x=some .cell∨sc.names.lookup x=some .free
def Loc(sc:Scope)(x:Str):Prop:=sc.names.lookup x=some .local∨sc.names.lookup x=some .cell
noncomputable def Look(env:Env)(h:Heap)(m:Str→Option Value)(x:Str)(u:Value):Prop:=
 (env.kindOf x=some .local∧m x=some u)∨((env.kindOf x=some .cell∨env.kindOf x=some .free)∧∃c,env.cells.lookup x=some c∧h.IsCell c (some u))
structure aK.Ok(X:aK):Prop where
 mod:Mod X.K X.mg X.base
 kind:X.env.scope.kind=.function
 glob:X.env.globals=mainGlobals
 blt:X.env.builtins=builtinsNs
 above:X.fY.heap.objs.size≤X.env.locals
 inj:∀x y c,X.env.cells.lookup x=some c→X.env.cells.lookup y=some c→x=y
 has:∀x,(X.env.kindOf x=some .cell∨X.env.kindOf x=some .free)→∃c,X.env.cells.lookup x=some c
 sb:∀x c,X.fn x=true→X.env.cells.lookup x=some c→X.fY.heap.objs.size≤c
 hd:X.calm=true→X.A.handled=none
 frames:X.A.frames=some X.stack
 wX:X.stack=X.outer∨(X.stack=X.env::X.outer∧X.env.frame=some X.env.locals)
 EH:∀b∈X.ex,b≠X.env.locals∧∀x c,X.env.cells.lookup x=some c→c≠b
 bs:∀b o,X.base.get? b=some o→X.fY.heap.get? b=some o∧X.r0 b=none
 m5:X.base.objs.size≤X.fY.heap.objs.size
 pn:∀b o,X.base.get? b=some o→b∉X.ex
 u_:∀b∈X.ex,b∉X.aV
 j_:X.fY.heap.FunFrames X.base X.outer
 oI:∀b∈X.aV,X.r0 b=none
structure Inv(X:aK)(pins:List (Addr×Obj))(σ :List (Option V))(H:ah)(s:Shared):Prop where
 ok:X.Ok
 os:s.os=X.fY.os
 bare:AllBare s.gens
 base:e4 X.aV X.ex X.r0 H X.fY.heap s.heap
 loc:∃m,s.heap.Ns X.env.locals m∧∀(i:Nat)(x:Str)(v:V),X.N[i]?=some x→ σ[i]?=some (some v)→eC X.env.scope x→∃u,RelV v u∧Look X.env s.heap m x u
 cell:∀x c,X.env.cells.lookup x=some c→∃v,s.heap.IsCell c v
 free:H X.env.locals=none
 lx:∀x c,X.env.cells.lookup x=some c→H c=none
 pin:∀p∈X.g7++pins,s.heap.get? p.1=some p.2∧H p.1=none∧p.1≠X.env.locals∧p.1∉X.aV∧∀v,p.2.data≠.cell v
 bM:ez X.prog X.w H s.heap
 len: σ.length=X.N.length
section
variable{X:aK}{pins:List (Addr×Obj)}{σ :List (Option V)}{H H':ah}{s:Shared}{h':Heap}
theorem aK.Ok.R6(ok:X.Ok){b:Addr}{o:Obj}(e:X.base.get? b=some o):b∉X.aV:=fun hb=>by have:=(ok.j_.mem hb).1;rw[e]at this;cases this
theorem Inv.bs(I:Inv X pins σ H s):∀b o,X.base.get? b=some o→s.heap.get? b=some o∧H b=none:=fun b o e=>
 ⟨I.base.keep b o (I.ok.bs b o e).1 (I.ok.bs b o e).2 (I.ok.R6 e) (I.ok.pn b o e),I.base.free b o (I.ok.bs b o e).1 (I.ok.bs b o e).2 (I.ok.pn b o e)⟩
theorem Inv.ft(I:Inv X pins σ H s):∀b o,X.base.get? b=some o→s.heap.get? b=some o:=fun b o e=>(I.bs b o e).1
theorem Inv.mod(I:Inv X pins σ H s):Mod X.K X.mg X.base:=I.ok.mod
theorem Inv.fT(I:Inv X pins σ H s):X.K.In s.heap:=I.ok.mod.oX.keeps I.ft
theorem Inv.lt(I:Inv X pins σ H s):X.env.locals<s.heap.objs.size:=let⟨_,aJ,_⟩:=I.loc;aJ.lt
theorem Inv.pJ(I:Inv X pins σ H s):X.fY.heap.objs.size≤s.heap.objs.size:=Nat.le_trans I.ok.above (Nat.le_of_lt I.lt)
theorem Inv.R8(I:Inv X pins σ H s){a:Addr}(h:s.heap.objs.size≤a):a∉X.aV:=fun hb=>by obtain⟨_,o,ho,_⟩:=I.ok.j_.mem hb;exact absurd (Nat.lt_of_lt_of_le (Heap.lt_size ho) (Nat.le_trans I.pJ h)) (Nat.lt_irrefl _)
theorem Inv.oA(I:Inv X pins σ H s):∀x c,X.env.cells.lookup x=some c→c≠X.env.locals:=fun x c e z=>by obtain⟨v,o,ho,hd⟩:=I.cell x c e;obtain⟨m,⟨cg,ag,du,ho',jK,_⟩,_⟩:=I.loc;rw[z,ho']at ho;cases ho;rw[jK]at hd;cases hd
theorem Inv.j_(I:Inv X pins σ H s):s.heap.FunFrames X.base X.outer:=by
 have all:∀(l:List Env),(∀b∈j7 l,b∈X.aV)→X.fY.heap.FunFrames X.base l→s.heap.FunFrames X.base l:=by
  intro l;induction l with
  |nil=>intro _ _;trivial
  |cons env r b6=>intro hs hl;obtain⟨hk,⟨L,o,hf,aJ,ho,hd⟩,hr⟩:=hl;have fQ:L∈X.aV:=hs L (by unfold j7;rw[List.filterMap_cons,hf];exact List.mem_cons_self);obtain⟨bZ,e⟩:=I.base.slot L o ho (I.ok.oI L fQ) fQ fun z=>I.ok.u_ L z fQ;exact⟨hk,⟨L,_,hf,aJ,e,hd⟩,b6 (fun b hb=>hs b (by unfold j7;rw[List.filterMap_cons,hf];exact List.mem_cons_of_mem _ hb)) hr⟩
 exact all X.outer (fun _ hb=>hb) I.ok.j_
theorem Inv.stack(I:Inv X pins σ H s):s.heap.FunFrames X.base X.stack:=by
 rcases I.ok.wX with e|⟨e,hf⟩
 ·rw[e];exact I.j_
 ·rw[e];obtain⟨m,aJ,_⟩:=I.loc;refine .cons (by rw[I.ok.kind];decide) hf aJ ?_ I.j_;exact Heap.get?_none_of_le (Nat.le_trans I.ok.m5 I.ok.above)
theorem Inv.wY(I:Inv X pins σ H s):∀b∈j7 X.stack,b∈X.env.locals::X.aV:=fun b hb=>by
 rcases I.ok.wX with e|⟨e,hf⟩
 ·rw[e]at hb;exact List.mem_cons_of_mem _ hb
 ·rw[e]at hb;unfold j7 at hb;rw[List.filterMap_cons,hf]at hb;exact hb
theorem Inv.I9(I:Inv X pins σ H s):∀b∈j7 X.stack,H b=none:=fun b hb=>by
 rcases List.mem_cons.mp (I.wY b hb)with e|hb
 ·rw[e];exact I.free
 ·obtain⟨_,o,ho,_⟩:=I.ok.j_.mem hb;exact I.base.free b o ho (I.ok.oI b hb) fun z=>I.ok.u_ b z hb
theorem Inv.step{g':Array GenState}{t':Nat}{d':Drawn}{ch:List Addr}(I:Inv X pins σ H s)(lA:∀b∈ch,(b∈X.ex∨X.fY.heap.objs.size≤b)∧b≠X.env.locals∧(∀x c,X.env.cells.lookup x=some c→c≠b)∧∀p∈X.g7++pins,p.1≠b)(keep:∀b o,b≠X.env.locals→b∉X.aV→b∉ch→s.heap.get? b=some o→H b=none→h'.get? b=some o)(slot:∀b o,b≠X.env.locals→b∈X.aV→b∉ch→s.heap.get? b=some o→H b=none→∃bZ,h'.get? b=some { o with slots:=bZ })(free:∀b o,b∉ch→s.heap.get? b=some o→H b=none→H' b=none)(there:∀b o,b∉ch→s.heap.get? b=some o→∃cg,h'.get? b=some cg)(kn:∀b xs,H b=some (.tup xs)→H' b=some (.tup xs))(jI:∀b o u,H b=some (.j8 o u)→H' b=some (.j8 o u))(km:∀b aU,H b=some (.pN aU)→∃more,H' b=some (.pN (aU++more)))(ns:∀m,s.heap.Ns X.env.locals m→h'.Ns X.env.locals m)(bM:ez X.prog X.w H' h')(hg:AllBare g') :
  Inv X pins σ H' { s with heap:=h',gens:=g',drawn:=d',toks:=t' }:=by
 have Ht:∀b o,X.fY.heap.get? b=some o→b≠X.env.locals:=fun b o e=>Nat.ne_of_lt (Nat.lt_of_lt_of_le (Heap.lt_size e) I.ok.above);have wq:∀b o,X.fY.heap.get? b=some o→b∉X.ex→b∉ch:=fun b o e hx hb=>by
  rcases(lA b hb).1 with z|z
  ·exact hx z
  ·exact absurd (Nat.lt_of_lt_of_le (Heap.lt_size e) z) (Nat.lt_irrefl _)
 have cellK:∀x c,X.env.cells.lookup x=some c→∀v,s.heap.IsCell c v→h'.IsCell c v:=fun x c e v⟨o,ho,hd⟩=>by
  have tq:c∉ch:=fun z=>(lA c z).2.2.1 x c e rfl;by_cases hc:c∈X.aV
  ·obtain⟨bZ,q⟩:=slot c o (I.oA x c e) hc tq ho (I.lx x c e);exact⟨_,q,hd⟩
  ·exact⟨o,keep c o (I.oA x c e) hc tq ho (I.lx x c e),hd⟩
 refine⟨I.ok,I.os,hg,⟨fun b o e n hb hx=>?_,fun b o e n hb hx=>?_,fun b o e n hx=>?_,fun b o e hx=>?_,fun b xs e=>kn b xs (I.base.kn b xs e),fun b o xs e=>jI b o xs (I.base.jI b o xs e),fun b aU e=>?_⟩,?_,fun x c e=>?_,?_,fun x c e=>?_,fun p hp=>?_,bM,I.len⟩
 ·exact keep b o (Ht b o e) hb (wq b o e hx) (I.base.keep b o e n hb hx) (I.base.free b o e n hx)
 ·obtain⟨bZ,aj⟩:=I.base.slot b o e n hb hx;obtain⟨B5,ax⟩:=slot b _ (Ht b o e) hb (wq b o e hx) aj (I.base.free b o e n hx);exact⟨B5,ax⟩
 ·obtain⟨cg,aj⟩:=I.base.there b o e hx;exact free b cg (wq b o e hx) aj (I.base.free b o e n hx)
 ·obtain⟨cg,aj⟩:=I.base.there b o e hx;exact there b cg (wq b o e hx) aj
 ·obtain⟨m1,aj⟩:=I.base.km b aU e;obtain⟨m2,ax⟩:=km b _ aj;exact⟨m1++m2,by rw[ax,Array.append_assoc]⟩
 ·obtain⟨m,aJ,hl⟩:=I.loc;refine⟨m,ns m aJ,fun i x v aj ax bE=>?_⟩;obtain⟨u,r,l⟩:=hl i x v aj ax bE;refine⟨u,r,?_⟩;rcases l with l|⟨k,c,e,z⟩
  ·exact .inl l
  ·exact .inr ⟨k,c,e,cellK x c e _ z⟩
 ·obtain⟨v,z⟩:=I.cell x c e;exact⟨v,cellK x c e v z⟩
 ·obtain⟨m,⟨o,_,_,ho,_⟩,_⟩:=I.loc;exact free _ o (fun z=>(lA _ z).2.1 rfl) ho I.free
 ·obtain⟨v,o,ho,hd⟩:=I.cell x c e;exact free c o (fun z=>(lA c z).2.2.1 x c e rfl) ho (I.lx x c e)
 ·obtain⟨e,n,ne,nL,d⟩:=I.pin p hp;have tq:p.1∉ch:=fun z=>(lA p.1 z).2.2.2 p hp rfl;exact⟨keep p.1 p.2 ne nL tq e n,free p.1 p.2 tq e n,ne,nL,d⟩
theorem Inv.un{t':Nat}(I:Inv X pins σ H s)(u:e4 X.aV [] H H' s.heap h')(bM:ez X.prog X.w H' h'):Inv X pins σ H' { s with heap:=h',toks:=t' }:=by
 obtain⟨m,⟨o,ag,du,ho,r⟩,_⟩:=id I.loc;obtain⟨bZ,fQ⟩:=u.any ho I.free (by simp);exact I.step (g':=s.gens) (d':=s.drawn) (ch:=[]) (fun _ z=>nomatch z) (fun b o _ hb _ e n=>u.keep b o e n hb (by simp)) (fun b o _ hb _ e n=>u.slot b o e n hb (by simp)) (fun b o _ e n=>u.free b o e n (by simp)) (fun b o _ e=>u.there b o e (by simp)) u.kn u.jI u.km (fun ee hm=>by obtain⟨cg,sl,y6,ho',br⟩:=hm;rw[ho]at ho';cases ho';exact⟨_,sl,y6,fQ,br⟩) bM I.bare
theorem Inv.call{g':Array GenState}{t':Nat}{d':Drawn}{ch:List Addr}(I:Inv X pins σ H s)(u:e4 (j7 X.stack) ch H H' s.heap h')(bM:ez X.prog X.w H' h')(hg:AllBare g')(lA:∀b∈ch,(b∈X.ex∨X.fY.heap.objs.size≤b)∧b≠X.env.locals∧(∀x c,X.env.cells.lookup x=some c→c≠b)∧∀p∈X.g7++pins,p.1≠b) :
  Inv X pins σ H' { s with heap:=h',gens:=g',drawn:=d',toks:=t' }:=by
 obtain⟨m,⟨o,ag,du,ho,r⟩,_⟩:=id I.loc;obtain⟨bZ,fQ⟩:=u.any ho I.free fun z=>(lA _ z).2.1 rfl;exact I.step (ch:=ch) lA (fun b o fQ hb hc e n=>u.keep b o e n (fun z=>(List.mem_cons.mp (I.wY b z)).elim fQ hb) hc) (fun b o _ _ hc e n=>u.any e n hc) (fun b o hc e n=>u.free b o e n hc) (fun b o hc e=>u.there b o e hc) u.kn u.jI u.km (fun ee hm=>by obtain⟨cg,sl,y6,ho',br⟩:=hm;rw[ho]at ho';cases ho';exact⟨_,sl,y6,fQ,br⟩) bM hg
theorem Inv.turned{t':Nat}{it:Addr}(I:Inv X pins σ H s)(k:∀b o,b≠it→s.heap.get? b=some o→h'.get? b=some o)(aJ:H it=none)(fQ:it≠X.env.locals)(h1:it∈X.ex∨X.fY.heap.objs.size≤it)(h2:∀x c,X.env.cells.lookup x=some c→c≠it)(h3:∀p∈X.g7++pins,p.1≠it):Inv X pins σ H { s with heap:=h',toks:=t' }:=by
 have nM:∀b u,H b=some u→b≠it:=fun b u e z=>by rw[z,aJ]at e;cases e
 refine I.step (g':=s.gens) (d':=s.drawn) (ch:=[it]) (fun b hb=>?_) (fun b o _ _ hc e _=>k b o (fun z=>hc (by simp[z])) e) (fun b o _ _ hc e _=>⟨o.slots,k b o (fun z=>hc (by simp[z])) e⟩) (fun _ _ _ _ n=>n)
  (fun b o hc e=>⟨o,k b o (fun z=>hc (by simp[z])) e⟩) (fun _ _ e=>e) (fun _ _ _ e=>e) (fun b aU e=>⟨#[],by rw[e];simp⟩) (fun m hm=>?_) (fun b u e=>?_) I.bare
 ·have e:b=it:=by simpa using hb
  subst e;exact⟨h1,fQ,h2,h3⟩
 ·obtain⟨o,ag,du,ho,r⟩:=hm;exact⟨o,ag,du,k _ o (Ne.symm fQ) ho,r⟩
 ·refine(I.bM b u e).nY (fun c v hc q=>k c v ?_ q) (fun _ q=>q) fun _ _ q=>q;rcases hc with z|z
  ·rw[z];exact nM b u e
  ·exact nM c _ z
theorem Inv.tok(I:Inv X pins σ H s)(t:Nat):Inv X pins σ H { s with toks:=t }:=I.un (h':=s.heap) (t':=t) e4.refl I.bM
theorem Inv.kept{t':Nat}(I:Inv X pins σ H s)(k:∀b u,s.heap.get? b=some u→h'.get? b=some u):Inv X pins σ H { s with heap:=h',toks:=t' }:=I.un (e4.kept k) (I.bM.kept k)
theorem Inv.laid{a:Addr}{o:dC}{t':Nat}(I:Inv X pins σ H s)(k:∀b u,s.heap.get? b=some u→h'.get? b=some u)(hp:s.heap.objs.size≤a)(new:fz X.prog X.w (upd H a o) h' a o) :
  Inv X pins σ (upd H a o) { s with heap:=h',toks:=t' }:=I.un (e4.laid k hp (I.bM.fresh hp)) (I.bM.laid k hp new)
theorem Inv.write{x e:Addr}{o:dC}{t':Nat}(I:Inv X pins σ H s)(jo:r4 (H x))(he:e=x∨H e=some (.own x))(k:∀b u,b≠e→s.heap.get? b=some u→h'.get? b=some u)(qu:∃u,h'.get? e=some u)(new:fz X.prog X.w (upd H x o) h' x o):Inv X pins σ (upd H x o) { s with heap:=h',toks:=t' }:=I.un (e4.write jo he k qu) (I.bM.write jo he k qu new)
theorem Inv.H_{H9:List (Addr×Obj)}(I:Inv X pins σ H s)(h:∀p∈H9,s.heap.get? p.1=some p.2∧H p.1=none∧p.1≠X.env.locals∧p.1∉X.aV∧∀v,p.2.data≠.cell v):Inv X H9 σ H s:=
 ⟨I.ok,I.os,I.bare,I.base,I.loc,I.cell,I.free,I.lx,fun p hp=>(List.mem_append.mp hp).elim (fun z=>I.pin p (List.mem_append_left _ z)) (h p),I.bM,I.len⟩
theorem HA{N:List Str}(hN:N.Nodup){i j:Nat}{x:Str}(a:N[i]?=some x)(b:N[j]?=some x):i=j:=by obtain⟨h1,aj⟩:=List.getElem?_eq_some_iff.mp a;obtain⟨h2,ax⟩:=List.getElem?_eq_some_iff.mp b;exact(List.getElem_inj hN).mp (aj.trans ax.symm)
theorem Ja{M:Model}{A:Around}{E:Value→Shared→Prop}{i:Nat}{x:Str}{v:V}{u:Value}{Q:Unit→Shared→Prop}(I:Inv X pins σ H s)(hN:X.N.Nodup)(hi:X.N[i]?=some x)(hx:Loc X.env.scope x)(r:RelV v u)(h:∀s',Inv X pins (σ.set i (some v)) H s'→(∃a,Heap.SameBut a s.heap s'.heap∧(a=X.env.locals∨X.env.cells.lookup x=some a))→Q () s')(hf:X.fn x=true∨X.env.scope.names.lookup x=some .local:=by first|exact .inl rfl|exact .inr rfl|assumption):wpAny M A (storeName X.env x u) Q E s:=by
 obtain⟨m,aJ,hl⟩:=id I.loc;have NZ:(X.env.scope.kind==.class||(X.env.scope.kind==.module&&X.env.locals !=X.env.globals))=false:=by rw[I.ok.kind];rfl
 have hiσ :i< σ.length:=by rw[I.len];exact(List.getElem?_eq_some_iff.mp hi).1
 have oA:=I.oA;have tracked:∀{a:Addr}{h':Heap},(∃o,s.heap.get? a=some o∧H a=none)→Heap.SameBut a s.heap h'→ez X.prog X.w H h':=fun{a h'} ha hs b aR e=>by
  obtain⟨_,_,vp⟩:=ha;refine(I.bM b aR e).nY (fun c eZ hc q=>(hs.2 c ?_).trans q) (fun _ q=>q) fun _ _ q=>q;rintro rfl;rcases hc with rfl|hc
  ·rw[vp]at e;cases e
  ·rw[vp]at hc;cases hc
 rcases hx with hk|hk
 ·refine wpAny_storeName_local hk aJ (fun h' sL hs=>?_) NZ;obtain⟨Sd,_,_,Ot,_⟩:=id aJ;refine h _ ⟨I.ok,I.os,I.bare,⟨fun b o e n hb hx=>?_,fun b o e n hb hx=>?_,I.base.free,fun b o e hx=>?_,I.base.kn,I.base.jI,I.base.km⟩,⟨_,sL,fun j y lR aj ax bE=>?_⟩,fun y c e=>?_,I.free,I.lx,fun p hp=>?_,tracked ⟨Sd,Ot,I.free⟩ hs,by simpa using I.len⟩ ⟨_,hs,.inl rfl⟩
  ·exact(hs.2 b (Nat.ne_of_lt (Nat.lt_of_lt_of_le (Heap.lt_size e) I.ok.above))).trans (I.base.keep b o e n hb hx)
  ·obtain⟨bZ,aj⟩:=I.base.slot b o e n hb hx;exact⟨bZ,(hs.2 b (Nat.ne_of_lt (Nat.lt_of_lt_of_le (Heap.lt_size e) I.ok.above))).trans aj⟩
  ·obtain⟨cg,aj⟩:=I.base.there b o e hx;exact⟨cg,(hs.2 b (Nat.ne_of_lt (Nat.lt_of_lt_of_le (Heap.lt_size e) I.ok.above))).trans aj⟩
  ·by_cases cF:j=i
   ·subst cF;rw[hi]at aj;cases aj;rw[List.getElem?_set_self hiσ]at ax;cases ax;exact⟨u,r,.inl ⟨hk,by simp⟩⟩
   ·rw[List.getElem?_set_ne (Ne.symm cF)]at ax;obtain⟨iH,br,q⟩:=hl j y lR aj ax bE;refine⟨iH,br,?_⟩;rcases q with⟨k,e⟩|⟨k,c,e,z⟩
    ·refine .inl ⟨k,?_⟩;have:y≠x:=fun e=>cF (HA hN aj (e▸hi));simp[this,e]
    ·exact .inr ⟨k,c,e,z.sameBut hs (oA y c e)⟩
  ·obtain⟨eZ,z⟩:=I.cell y c e;exact⟨eZ,z.sameBut hs (oA y c e)⟩
  ·obtain⟨e,n,ne,nL,d⟩:=I.pin p hp;exact⟨(hs.2 p.1 ne).trans e,n,ne,nL,d⟩
 ·have zG:X.fn x=true:=by
    rcases hf with z|z
    ·exact z
    ·rw[z]at hk;cases hk
  obtain⟨c,hc⟩:=I.ok.has x (.inl hk);obtain⟨eZ,z⟩:=I.cell x c hc;refine wpAny_storeName_cell I.ok.kind hk hc z (fun h' sC hs=>?_);obtain⟨e8,F_,Ou⟩:=id z;refine h { s with heap:=h' } ⟨I.ok,I.os,I.bare,⟨fun b o e n hb hx=>?_,fun b o e n hb hx=>?_,I.base.free,fun b o e hx=>?_,I.base.kn,I.base.jI,I.base.km⟩,⟨m,aJ.sameBut hs (Ne.symm (oA x c hc)),fun j y lR aj ax bE=>?_⟩,fun y fb e=>?_,I.free,I.lx,fun p hp=>?_,tracked ⟨e8,F_,I.lx x c hc⟩ hs,by simpa using I.len⟩ ⟨c,hs,.inr hc⟩
  ·exact(hs.2 b (Nat.ne_of_lt (Nat.lt_of_lt_of_le (Heap.lt_size e) (I.ok.sb x c zG hc)))).trans (I.base.keep b o e n hb hx)
  ·obtain⟨bZ,aj⟩:=I.base.slot b o e n hb hx;exact⟨bZ,(hs.2 b (Nat.ne_of_lt (Nat.lt_of_lt_of_le (Heap.lt_size e) (I.ok.sb x c zG hc)))).trans aj⟩
  ·obtain⟨cg,aj⟩:=I.base.there b o e hx;exact⟨cg,(hs.2 b (Nat.ne_of_lt (Nat.lt_of_lt_of_le (Heap.lt_size e) (I.ok.sb x c zG hc)))).trans aj⟩
  ·by_cases cF:j=i
   ·subst cF;rw[hi]at aj;cases aj;rw[List.getElem?_set_self hiσ]at ax;cases ax;exact⟨u,r,.inr ⟨.inl hk,c,hc,sC⟩⟩
   ·rw[List.getElem?_set_ne (Ne.symm cF)]at ax;obtain⟨iH,br,q⟩:=hl j y lR aj ax bE;refine⟨iH,br,?_⟩;rcases q with q|⟨k,fb,e,gj⟩
    ·exact .inl q
    ·refine .inr ⟨k,fb,e,gj.sameBut hs ?_⟩;rintro rfl;exact cF (HA hN aj (I.ok.inj _ _ _ e hc▸hi))
  ·by_cases F0:fb=c
   ·subst F0;exact⟨_,sC⟩
   ·obtain⟨eI,aW⟩:=I.cell y fb e;exact⟨eI,aW.sameBut hs F0⟩
  ·obtain⟨e,n,ne,nL,d⟩:=I.pin p hp;refine⟨(hs.2 p.1 ?_).trans e,n,ne,nL,d⟩;intro q;rw[q,F_]at e;have i4:e8=p.2:=Option.some.inj e;exact d eZ (by rw[←i4];exact Ou)
theorem I_{M:Model}{A:Around}{E:Value→Shared→Prop}{i:Nat}{x:Str}{v:V}{u:Value}{Q:Unit→Shared→Prop}(I:Inv X pins σ H s)(hN:X.N.Nodup)(hi:X.N[i]?=some x)(hx:Loc X.env.scope x)(r:RelV v u)(h:∀s',Inv X pins (σ.set i (some v)) H s'→Q () s')(hf:X.fn x=true∨X.env.scope.names.lookup x=some .local:=by first|exact .inl rfl|exact .inr rfl|assumption):wpAny M A (storeName X.env x u) Q E s:=
 Ja I hN hi hx r (fun s' k7 _=>h s' k7) hf
theorem Inv.Lj{s':Shared}{ch:List Addr}(I:Inv X pins σ H s)(ho:s'.os=s.os)(u:e4 (j7 X.stack) ch H H' s.heap s'.heap)(bM:ez X.prog X.w H' s'.heap)(hg:AllBare s'.gens)(lA:∀b∈ch,(b∈X.ex∨X.fY.heap.objs.size≤b)∧b≠X.env.locals∧(∀x c,X.env.cells.lookup x=some c→c≠b)∧∀p∈X.g7++pins,p.1≠b):Inv X pins σ H' s':=by obtain⟨h',g',d',t',cg⟩:=s';have e:cg=s.os:=ho;subst e;exact I.call (g':=g') (t':=t') (d':=d') u bM hg lA
end
abbrev dc:=Value→Option Addr→ah→Prop
abbrev St:=List (Option V)
abbrev cI:=V→ah→Prop
abbrev TE:=St→ah→cI→Prop
abbrev TT:=St→ah→(Bool→ah→Prop)→Prop
abbrev es:=St→ah→(List V→ah→Prop)→Prop
structure Ends where
 bj:St→ah→Prop
 dh:cI
 ft:St→ah→Prop:=fun _ _=>False
 c3:St→ah→Prop:=fun _ _=>False
abbrev eB:=Ends→St→ah→Prop
noncomputable def gm(X:aK)(pins:List (Addr×Obj))(σ :St)(Q:cI)(u:Value)(s':Shared):Prop:=∃v H',Inv X pins σ H' s'∧RelV v u∧Q v H'
noncomputable def ux(X:aK)(pins:List (Addr×Obj))(σ :St)(Q:Bool→ah→Prop)(b:Bool)(s':Shared):Prop:=∃H',Inv X pins σ H' s'∧Q b H'
noncomputable def Kp(X:aK)(pins:List (Addr×Obj))(σ :St)(Q:List V→ah→Prop)(us:List Value)(s':Shared):Prop:=∃vs H',Inv X pins σ H' s'∧Vals vs us∧Q vs H'
noncomputable def oj(X:aK)(pins:List (Addr×Obj))(D:Ends)(f:Flow)(s':Shared):Prop:=
 match f with
 |.next=>∃ σ' H',Inv X pins σ' H' s'∧D.bj σ' H'
 |.brk=>∃ σ' H',Inv X pins σ' H' s'∧D.ft σ' H'
 |.cont=>∃ σ' H',Inv X pins σ' H' s'∧D.c3 σ' H'
 |.ret u=>∃v σ' H',Inv X pins σ' H' s'∧RelV v u∧D.dh v H'
noncomputable def a3(X:aK)(e:Expr)(t:TE):Prop:=
 ∀(pins:List (Addr×Obj))(s:Shared)(σ :St)(H:ah)(Q:cI),Inv X pins σ H s→t σ H Q→wpAny (model X.prog X.w) X.A (eval e X.env) (gm X pins σ Q) X.xe s
noncomputable def e2(X:aK)(e:Expr)(t:TT):Prop:=
 ∀(pins:List (Addr×Obj))(s:Shared)(σ :St)(H:ah)(Q:Bool→ah→Prop),Inv X pins σ H s→t σ H Q→wpAny (model X.prog X.w) X.A (isTrue e X.env (eval e X.env)) (ux X pins σ Q) X.xe s
noncomputable def iu(X:aK)(e:Expr)(t:TT):Prop:=
 ∀(whole:Sem Value)(pins:List (Addr×Obj))(s:Shared)(σ :St)(H:ah)(Q:Bool→ah→Prop),Inv X pins σ H s→t σ H Q→wpAny (model X.prog X.w) X.A (isTrue e X.env whole) (ux X pins σ Q) X.xe s
theorem iu.pt{X:aK}{e:Expr}{t:TT}(h:iu X e t):e2 X e t:=h _
noncomputable def eR(X:aK)(ag:List Expr)(t:es):Prop:=
 ∀(pos:Pos)(pins:List (Addr×Obj))(s:Shared)(σ :St)(H:ah)(Q:List V→ah→Prop),Inv X pins σ H s→t σ H Q→wpAny (model X.prog X.w) X.A (spliced (backTo pos (starEach ag X.env))) (Kp X pins σ Q) X.xe s
noncomputable def cU(X:aK)(st:Stmt)(t:eB):Prop:=
 ∀(pins:List (Addr×Obj))(s:Shared)(σ :St)(H:ah)(D:Ends),Inv X pins σ H s→t D σ H→wpAny (model X.prog X.w) X.A (exec st X.env) (oj X pins D) X.xe s
noncomputable def fa(X:aK)(st:List Stmt)(t:eB):Prop:=
 ∀(pins:List (Addr×Obj))(s:Shared)(σ :St)(H:ah)(D:Ends),Inv X pins σ H s→t D σ H→wpAny (model X.prog X.w) X.A (execs st X.env) (oj X pins D) X.xe s
theorem bI{α:Type}{t:Sem α}{Q oi:α→Shared→Prop}{M:Model}{A:Around}{E:Value→Shared→Prop}{s:Shared}(h:wpAny M A t Q E s)(ia:∀a s,Q a s→oi a s):wpAny M A t oi E s:=wpAny_mono h ia fun _ _ x=>x
section
variable{X:aK}
theorem bin{a b:Expr}{cb tb:TE}(ha:a3 X a cb)(hb:a3 X b tb){pins:List (Addr×Obj)}{s:Shared}{σ :St}{H:ah}{R:V→V→ah→Prop}(I:Inv X pins σ H s)(h:cb σ H fun x H1=>tb σ H1 fun y aM=>R x y aM){α:Type}{Q:α→Shared→Prop}{f:Value→Value→Sem α}(hf:∀v u s2 x y aM,Inv X pins σ aM s2→RelV x v→RelV y u→R x y aM→wpAny (model X.prog X.w) X.A (f v u) Q X.xe s2) :
  wpAny (model X.prog X.w) X.A (eval a X.env) (fun v c2=>wpAny (model X.prog X.w) X.A (eval b X.env) (fun u jX=>wpAny (model X.prog X.w) X.A (f v u) Q X.xe jX) X.xe c2) X.xe s:=by
 refine bI (ha pins s σ H _ I h) fun v s1⟨x,H1,a5,av,aY⟩=>?_;refine bI (hb pins s1 σ H1 _ a5 aY) fun u s2⟨y,aM,cc,bg,bA⟩=>?_;exact hf v u s2 x y aM cc av bg bA
def rH(i:Nat):TE:=fun σ H Q=>∃v,σ[i]?=some (some v)∧Q v H
def pL(v:V):TE:=fun _ H Q=>Q v H
theorem hI{i:Nat}{x:Str}{pos:Pos}(hN:X.N[i]?=some x)(hv:eC X.env.scope x)(hd:(x==("__debug__" :Str))=false:=by decide)(hcd:(x==("__classdict__" :Str))=false:=by decide):a3 X (.Name x pos) (rH i):=by
 intro pins s σ H Q I h;obtain⟨v,e,h⟩:=h;obtain⟨m,aJ,hl⟩:=I.loc;obtain⟨u,r,l⟩:=hl i x v hN e hv;have fin:gm X pins σ Q u s:=⟨v,H,I,r,h⟩;rcases l with⟨hk,hm⟩|⟨hk,c,hc,F1⟩
 ·exact wpAny_Name (wpAny_loadName_local I.ok.kind hk aJ hm fin) hd
 ·rcases hk with hk|hk
  ·exact wpAny_Name (wpAny_loadName_cell I.ok.kind hk hc F1 fin) hd
  ·exact wpAny_Name (wpAny_loadName_free I.ok.kind hk hc F1 fin hcd) hd
theorem Tr{i j pos}:a3 X (.Constant (.int i) j pos) (pL (.int i)):=fun _ _ _ H _ I h=>wpAny_Constant_int ⟨.int i,H,I.tok _,⟨_,rfl⟩,h⟩
theorem Ta{b j pos}:a3 X (.Constant (.bool b) j pos) (pL (.aD b)):=fun _ _ _ H _ I h=>Constant_bool ⟨.aD b,H,I,rfl,h⟩
theorem Tu{j pos}:a3 X (.Constant .none j pos) (pL .non):=fun _ _ _ H _ I h=>Constant_none ⟨.non,H,I,rfl,h⟩
theorem Tx{x j pos}:a3 X (.Constant (.str x) j pos) (pL (.str x)):=fun _ _ _ H _ I h=>Calls.Constant_str ⟨.str x,H,I.tok _,⟨_,rfl⟩,h⟩
def da(X:aK)(x:Str):Prop:=X.env.kindOf x=some .globalImplicit
theorem Ac{E:Value→Shared→Prop}{pins:List (Addr×Obj)}{s:Shared}{σ :St}{H:ah}{x:Str}{u:Value}{pos:Pos}{Q:Value→Shared→Prop}(I:Inv X pins σ H s)(hg:da X x)(hm:X.mg x=some u)(h:Q u s)(hd:(x==("__debug__" :Str))=false:=by decide):wpAny (model X.prog X.w) X.A (eval (.Name x pos) X.env) Q E s:=
 Calls.Name_function_global I.ok.kind hg (Calls.loadGlobal_global (by rw[I.ok.glob];exact I.mod.glob.keeps I.ft) hm h) hd
theorem o1{E:Value→Shared→Prop}{pins:List (Addr×Obj)}{s:Shared}{σ :St}{H:ah}{x:Str}{u:Value}{pos:Pos}{Q:Value→Shared→Prop}(I:Inv X pins σ H s)(hg:da X x)(hm:X.mg x=none)(hv:bootBuiltins x=some u)(h:Q u s)(aJ:x≠"__name__":=by decide)(hd:(x==("__debug__" :Str))=false:=by decide):wpAny (model X.prog X.w) X.A (eval (.Name x pos) X.env) Q E s:=by obtain⟨dq,h1,h2⟩:=I.mod.blt;exact Calls.Name_function_global I.ok.kind hg (Calls.loadGlobal_builtin (by rw[I.ok.glob];exact I.mod.glob.keeps I.ft) hm (by rw[I.ok.blt];exact h1.keeps I.ft) ((h2 x aJ).trans hv) h) hd
theorem Tp{x:Str}{v:V}{u:Value}{pos:Pos}(hg:da X x)(hm:X.mg x=some u)(r:RelV v u)(hd:(x==("__debug__" :Str))=false:=by decide):a3 X (.Name x pos) (pL v):=
 fun _ _ _ H _ I h=>Ac I hg hm ⟨v,H,I,r,h⟩ hd
theorem Tb{x:Str}{v:V}{u:Value}{pos:Pos}(hg:da X x)(hm:X.mg x=none)(hv:bootBuiltins x=some u)(r:RelV v u)(aJ:x≠"__name__":=by decide)(hd:(x==("__debug__" :Str))=false:=by decide):a3 X (.Name x pos) (pL v):=
 fun _ _ _ H _ I h=>o1 I hg hm hv ⟨v,H,I,r,h⟩ aJ hd
variable{a b:Expr}{cb tb:TE}{pos:Pos}
noncomputable def uu(X:aK)(op:CmpOp)(a b:Expr)(t:TE):Prop:=
 ∀(pins:List (Addr×Obj))(s:Shared)(σ :St)(H:ah)(Q:cI),Inv X pins σ H s→t σ H Q→
  wpAny (model X.prog X.w) X.A (eval a X.env) (fun v c2=>wpAny (model X.prog X.w) X.A (eval b X.env) (fun u jX=>wpAny (model X.prog X.w) X.A (compareOp op v u) (gm X pins σ Q) X.xe jX) X.xe c2) X.xe s
theorem Hz(b:Expr){op:CmpOp}(h:op≠.In)(h2:op≠.NotIn):behindInMarks op b=false:=by
 have aj:(op==CmpOp.In)=false:=by cases op<;>first|rfl|exact absurd rfl h
 have ax:(op==CmpOp.NotIn)=false:=by cases op<;>first|rfl|exact absurd rfl h2
 cases b<;>simp[behindInMarks,aj,ax]
def Cc(t:TE):TT:=fun σ H Q=>t σ H fun x H1=>∃c,x=.aD c∧Q c H1
theorem Te{op:CmpOp}{t:TE}(h:uu X op a b t)(h1:behindInMarks op b=false:=by first|exact Hz _ (by decide) (by decide)|rfl):a3 X (.Compare a [op] [b] pos) t:=fun pins s σ H Q I hw=>wpAny_Compare1 (h pins s σ H Q I hw) h1
theorem Ii{op:CmpOp}{t:TE}(h:uu X op a b t)(h1:behindInMarks op b=false:=by first|exact Hz _ (by decide) (by decide)|rfl):e2 X (.Compare a [op] [b] pos) (Cc t):=by intro pins s σ H Q I hw;refine wpAny_isTrue_Compare1 (bI (h pins s σ H _ I hw) fun v s1 h1=>bI h1 fun u s2 h2=>bI h2 fun c s3⟨x,H1,a5,av,aY⟩=>?_) h1;obtain⟨d,rfl,q⟩:=aY;cases av;exact wpAny_truthy_bool ⟨H1,a5,q⟩
theorem T9{e:Expr}{t:TE}(h:a3 X e t)(he:∀whole,isTrue e X.env whole=(do let v ←whole;standAt e.pos;holding [v] (truthy v)):=by intro _;rfl):e2 X e (Cc t):=by intro pins s σ H Q I hw;refine isTrue_plain (bI (h pins s σ H _ I hw) fun v s1⟨x,H1,a5,av,aY⟩=>?_) (he _);obtain⟨d,rfl,q⟩:=aY;cases av;exact wpAny_truthy_bool ⟨H1,a5,q⟩
variable{eo w1:TT}{rest:List Expr}
def Jh(t u:TT):TT:=fun σ H Q=>t σ H fun c H1=>if c=true then u σ H1 Q else Q false H1
def Jv(t u:TT):TT:=fun σ H Q=>t σ H fun c H1=>if c=true then Q true H1 else u σ H1 Q
def Jt(t:TT):TT:=fun σ H Q=>t σ H fun c H1=>Q (!c) H1
theorem Ud(ha:e2 X a eo):iu X (.BoolOp .And [a] pos) eo:=by
 intro pP pins s σ H Q I h;refine isTrue_and (bI (ha pins s σ H Q I h) fun c s1 e=>?_);cases c with
 |true=>exact isTrue_and_nil e
 |false=>exact e
theorem Ug(ha:e2 X a eo):iu X (.BoolOp .Or [a] pos) eo:=by
 intro pP pins s σ H Q I h;refine isTrue_or (bI (ha pins s σ H Q I h) fun c s1 e=>?_);cases c with
 |false=>exact isTrue_or_nil e
 |true=>exact e
theorem Uc(ha:e2 X a eo)(hb:iu X (.BoolOp .And (b::rest) pos) w1):iu X (.BoolOp .And (a::b::rest) pos) (Jh eo w1):=by
 intro pP pins s σ H Q I h;refine isTrue_and (bI (ha pins s σ H _ I h) fun c s1⟨H1,a5,aY⟩=>?_);cases c with
 |true=>exact hb pP pins s1 σ H1 Q a5 aY
 |false=>exact⟨H1,a5,aY⟩
theorem Ue(ha:e2 X a eo)(hb:iu X (.BoolOp .Or (b::rest) pos) w1):iu X (.BoolOp .Or (a::b::rest) pos) (Jv eo w1):=by
 intro pP pins s σ H Q I h;refine isTrue_or (bI (ha pins s σ H _ I h) fun c s1⟨H1,a5,aY⟩=>?_);cases c with
 |true=>exact⟨H1,a5,aY⟩
 |false=>exact hb pP pins s1 σ H1 Q a5 aY
theorem T8(ha:e2 X a eo):e2 X (.UnaryOp .Not a pos) (Jt eo):=by intro pins s σ H Q I h;exact isTrue_not (ha pins s σ H (fun c H1=>Q (!c) H1) I h)
noncomputable def Ji(cb tb:TE):TE:=fun σ H Q=>cb σ H fun x H1=>∃c,x=.aD c∧if c=true then tb σ H1 Q else Q (.aD false) H1
def Ju(cb:TE):TE:=fun σ H Q=>cb σ H fun x H1=>∃c,x=.aD c∧Q (.aD (!c)) H1
theorem Tw{op}{t:TE}(h:a3 X a t):a3 X (.BoolOp op [a] pos) t:=fun pins s σ H Q I hw=>BoolOp_one (h pins s σ H Q I hw)
theorem S_(ha:a3 X a cb)(hb:a3 X (.BoolOp .And (b::rest) pos) tb):a3 X (.BoolOp .And (a::b::rest) pos) (Ji cb tb):=by
 intro pins s σ H Q I h;refine BoolOp_and (bI (ha pins s σ H _ I h) fun v s1⟨x,H1,a5,av,aY⟩=>?_);obtain⟨c,rfl,aY⟩:=aY;cases av;refine wpAny_truthy_bool ?_;cases c with
 |true=>exact hb pins s1 σ H1 Q a5 aY
 |false=>exact⟨.aD false,H1,a5,rfl,aY⟩
theorem Tv(ha:a3 X a cb):a3 X (.UnaryOp .Not a pos) (Ju cb):=by intro pins s σ H Q I h;refine UnaryOp_ (bI (ha pins s σ H _ I h) fun v s1⟨x,H1,a5,av,aY⟩=>?_);obtain⟨c,rfl,aY⟩:=aY;cases av;exact not_of (wpAny_truthy_bool ⟨.aD (!c),H1,a5,rfl,aY⟩)
def Jp(t:TT)(cb tb:TE):TE:=fun σ H Q=>t σ H fun c H1=>if c=true then cb σ H1 Q else tb σ H1 Q
theorem Tq{c:Expr}(hc:e2 X c eo)(ha:a3 X a cb)(hb:a3 X b tb):a3 X (.IfExp c a b pos) (Jp eo cb tb):=by
 intro pins s σ H Q I h;refine wpAny_IfExp (bI (hc pins s σ H _ I h) fun d s1⟨H1,a5,aY⟩=>?_);cases d with
 |true=>exact ha pins s1 σ H1 Q a5 aY
 |false=>exact hb pins s1 σ H1 Q a5 aY
end
noncomputable def bS(K:PySem.W.Frag)(H:ah)(a:Addr)(xs:List V):Prop:=
 e3 H a (.lst xs)∨
  ∃(o:Obj)(its:Array Value)(n:Nat),K.lookup a=some o∧o.cls=.type "list"∧o.dict=none∧o.data=.seq its n∧its.size≤sizeLine∧Vals xs its.toList
noncomputable def cv(K:PySem.W.Frag)(H:ah)(a:Addr)(xs:List V):Prop:=
 e3 H a (.tup xs)∨
  ∃(o:Obj)(its:Array Value)(n:Nat),K.lookup a=some o∧o.cls=.type "tuple"∧o.data=.seq its n∧its.size≤sizeLine∧Vals xs its.toList
noncomputable def KP:Value→Option V
 |.none=>some .non
 |.bool b=>some (.aD b)
 |.int i _=>some (.int i)
 |.str x _=>some (.str x)
 |.bytes b _=>some (.lp b)
 |.float b _=>some (.vb b)
 |.ref a=>some (.ref a)
 |.type n=>some (.ty n)
 |_=>none
theorem RelV.abs{x:V}{u:Value}(r:RelV x u):KP u=some x:=by
 cases x with
 |non=>cases r;rfl
 |aD _=>cases r;rfl
 |int _=>obtain⟨t,rfl⟩:=r;rfl
 |str _=>obtain⟨t,rfl⟩:=r;rfl
 |lp _=>obtain⟨t,rfl⟩:=r;rfl
 |vb _=>obtain⟨t,rfl⟩:=r;rfl
 |ref _=>cases r;rfl
 |ty _=>cases r;rfl
theorem RelV.inj{x y:V}{u:Value}(r:RelV x u)(q:RelV y u):x=y:=Option.some.inj (r.abs.symm.trans q.abs)
theorem Vals.inj:∀{xs ys:List V}{us:List Value},Vals xs us→Vals ys us→xs=ys
 |_,_,_,.nil,.nil=>rfl
 |_,_,_,.cons r t,.cons br t'=>by rw[r.inj br,Vals.inj t t']
section
variable{X:aK}{pins:List (Addr×Obj)}{σ :St}{H:ah}{s:Shared}{a:Addr}{xs ys:List V}
theorem bS.of{K:PySem.W.Frag}(h:H a=some (.lst xs)):bS K H a xs:=.inl (.inl h)
theorem cv.of{K:PySem.W.Frag}(h:H a=some (.tup xs)):cv K H a xs:=.inl (.inl h)
theorem Inv.list(I:Inv X pins σ H s)(h:bS X.K H a xs):∃its:List Value,Vals xs its∧PlainL s.heap a its.toArray∧xs.length≤sizeLine:=by
 rcases h with h|⟨o,its,n,hk,hc,hd,hs,bx,r⟩
 ·obtain⟨z,its,n,r,e⟩:=h.ok I.bM;exact⟨its,r,⟨_,n,e,rfl,rfl,rfl⟩,z⟩
 ·refine⟨its.toList,r,⟨o,n,I.fT a o hk,hc,hd,by simpa using hs⟩,?_⟩;have e:=r.length;simp only[Array.length_toList]at e;omega
theorem Inv.tuple(I:Inv X pins σ H s)(h:cv X.K H a xs):∃its:List Value,Vals xs its∧IsTup s.heap a its.toArray∧xs.length≤sizeLine:=by
 rcases h with h|⟨o,its,n,hk,hc,hs,bx,r⟩
 ·obtain⟨z,its,r,p⟩:=h.ok I.bM;exact⟨its,r,p,z⟩
 ·refine⟨its.toList,r,⟨o,I.fT a o hk,hc,n,by simpa using hs⟩,?_⟩;have e:=r.length;simp only[Array.length_toList]at e;omega
theorem Inv.Ad(I:Inv X pins σ H s)(h:bS X.K H a xs)(h':bS X.K H a ys):xs=ys:=by
 obtain⟨its,r,⟨o,n,e,_,_,d⟩,_⟩:=I.list h;obtain⟨its',br,⟨cg,i0,cA,_,_,d'⟩,_⟩:=I.list h';rw[e]at cA;cases cA;rw[d]at d';injection d' with d1 _;have:its=its':=by simpa using congrArg Array.toList d1
 subst this;exact r.inj br
theorem Inv.Cy(I:Inv X pins σ H s)(h:cv X.K H a xs)(h':cv X.K H a ys):xs=ys:=by
 obtain⟨its,r,⟨o,e,_,n,d⟩,_⟩:=I.tuple h;obtain⟨its',br,⟨cg,cA,_,i0,d'⟩,_⟩:=I.tuple h';rw[e]at cA;cases cA;rw[d]at d';injection d' with d1 _;have:its=its':=by simpa using congrArg Array.toList d1
 subst this;exact r.inj br
end
abbrev aK.lS(X:aK)(E:Value→Shared→Prop):aK:={ X with xe:=E }
abbrev aK.jU(X:aK):aK:=X.lS fun _ _=>False
theorem aK.Ok.lS{X:aK}(ok:X.Ok)(E:Value→Shared→Prop):(X.lS E).Ok:=
 ⟨ok.mod,ok.kind,ok.glob,ok.blt,ok.above,ok.inj,ok.has,ok.sb,ok.hd,ok.frames,ok.wX,ok.EH,ok.bs,ok.m5,ok.pn,ok.u_,ok.j_,ok.oI⟩
theorem aK.Ok.n1{X:aK}{E:Value→Shared→Prop}(ok:(X.lS E).Ok):X.Ok:=
 ⟨ok.mod,ok.kind,ok.glob,ok.blt,ok.above,ok.inj,ok.has,ok.sb,ok.hd,ok.frames,ok.wX,ok.EH,ok.bs,ok.m5,ok.pn,ok.u_,ok.j_,ok.oI⟩
section
variable{X:aK}{pins:List (Addr×Obj)}{σ :St}{H:ah}{s:Shared}{E:Value→Shared→Prop}
theorem Inv.lS(I:Inv X pins σ H s)(E:Value→Shared→Prop):Inv (X.lS E) pins σ H s:=⟨I.ok.lS E,I.os,I.bare,I.base,I.loc,I.cell,I.free,I.lx,I.pin,I.bM,I.len⟩
theorem Inv.n1(I:Inv (X.lS E) pins σ H s):Inv X pins σ H s:=⟨I.ok.n1,I.os,I.bare,I.base,I.loc,I.cell,I.free,I.lx,I.pin,I.bM,I.len⟩
theorem oj.n1{D:Ends}{f:Flow}{s':Shared}(h:oj (X.lS E) pins D f s'):oj X pins D f s':=by
 cases f with
 |next=>obtain⟨σ',H',I,q⟩:=h;exact⟨σ',H',I.n1,q⟩
 |brk=>obtain⟨σ',H',I,q⟩:=h;exact⟨σ',H',I.n1,q⟩
 |cont=>obtain⟨σ',H',I,q⟩:=h;exact⟨σ',H',I.n1,q⟩
 |ret u=>obtain⟨v,σ',H',I,r,q⟩:=h;exact⟨v,σ',H',I.n1,r,q⟩
theorem fa.jU{st:List Stmt}{t:eB}(h:fa X.jU st t):fa X st t:=fun pins s σ H D I hw=>
 wpAny_mono (h pins s σ H D (I.lS _) hw) (fun _ _ q=>q.n1) fun _ _ z=>False.elim z
end
section
variable{X:aK}{st:Stmt}{rest:List Stmt}{t u:eB}{e:Expr}{dO:TE}{pos:Pos}
def Cj:eB:=fun D σ H=>D.bj σ H
def Cm(t u:eB):eB:=fun D σ H=>t { D with bj:=u D } σ H
theorem Ih:fa X [] Cj:=fun _ _ σ H _ I h=>wpAny_execs_nil ⟨σ,H,I,h⟩
theorem AM(h1:cU X st t)(h2:fa X rest u):fa X (st::rest) (Cm t u):=by
 intro pins s σ H D I h;refine wpAny_execs_cons (bI (h1 pins s σ H { D with bj:=u D } I h) fun f s1 q=>?_);cases f with
 |next=>obtain⟨σ',H',k7,q⟩:=q;exact h2 pins s1 σ' H' D k7 q
 |ret v=>exact q
 |brk=>exact q
 |cont=>exact q
theorem tI(h1:cU X st t):fa X [st] t:=by
 intro pins s σ H D I h;refine wpAny_execs_cons (bI (h1 pins s σ H D I h) fun f s1 q=>?_);cases f with
 |next=>exact wpAny_execs_nil q
 |ret v=>exact q
 |brk=>exact q
 |cont=>exact q
theorem Inv.quiet{pins:List (Addr×Obj)}{σ :St}{H:ah}{s:Shared}(I:Inv X pins σ H s):interactive X.env=false:=by simp[interactive,I.ok.kind]
def Jn(dO:TE):eB:=fun D σ H=>dO σ H fun _ H1=>D.bj σ H1
theorem ro(he:a3 X e dO)(hs:swapsWith e none pos.line X.env=pure false:=by rfl):cU X (.Expr e pos) (Jn dO):=by intro pins s σ H D I h;exact wpAny_Expr_any (bI (he pins s σ H _ I h) fun v s1⟨x,H1,a5,av,aY⟩=>⟨σ,H1,a5,aY⟩) I.quiet hs
def tW(dO:TE):eB:=fun D σ H=>dO σ H D.dh
theorem rp(he:a3 X e dO):cU X (.Return (some e) pos) (tW dO):=by intro pins s σ H D I h;exact wpAny_Return_some (bI (he pins s σ H _ I h) fun v s1⟨x,H1,a5,av,aY⟩=>⟨x,σ,H1,a5,av,aY⟩)
def Cg(c:TT)(t u:eB):eB:=fun D σ H=>c σ H fun b H1=>if b=true then t D σ H1 else u D σ H1
theorem AL{c:Expr}{a b:List Stmt}{fZ:TT}(hc:e2 X c fZ)(ha:fa X a t)(hb:fa X b u):cU X (.If c a b pos) (Cg fZ t u):=by
 intro pins s σ H D I h;refine wpAny_If (bI (hc pins s σ H _ I h) fun d s1⟨H1,a5,aY⟩=>?_);cases d with
 |true=>exact ha pins s1 σ H1 D a5 aY
 |false=>exact hb pins s1 σ H1 D a5 aY
def Js:eB:=fun _ _ _=>False
theorem Ig:cU X st Js:=fun _ _ _ _ _ _ h=>h.elim
end
abbrev hY:=V→St→ah→(St→ah→Prop)→Prop
abbrev k9:=List V→St→ah→(St→ah→Prop)→Prop
noncomputable def jd(X:aK)(target:Expr)(t:hY):Prop:=
 ∀(pins:List (Addr×Obj))(s:Shared)(σ :St)(H:ah)(v:V)(u:Value)(Q:St→ah→Prop),Inv X pins σ H s→RelV v u→t v σ H Q→
  wpAny (model X.prog X.w) X.A (assign target X.env u) (fun _ s'=>∃ σ' H',Inv X pins σ' H' s'∧Q σ' H') X.xe s
noncomputable def r5(X:aK)(aA:List Expr)(t:k9):Prop:=
 ∀(pins:List (Addr×Obj))(s:Shared)(σ :St)(H:ah)(vs:List V)(us:List Value)(Q:St→ah→Prop),Inv X pins σ H s→Vals vs us→t vs σ H Q→
  wpAny (model X.prog X.w) X.A (assignInOrder ((assignEach aA X.env).map (·.2)) us) (fun _ s'=>∃ σ' H',Inv X pins σ' H' s'∧Q σ' H') X.xe s
abbrev xQ:=V→V→V→ah→(ah→Prop)→Prop
noncomputable def Dm(X:aK)(t:xQ):Prop:=
 ∀(pins:List (Addr×Obj))(s:Shared)(σ :St)(H:ah)(o i v:V)(dK fe u:Value)(Q:ah→Prop),Inv X pins σ H s→RelV o dK→RelV i fe→RelV v u→t o i v H Q→
  wpAny (model X.prog X.w) X.A (setItem dK fe u) (fun _ s'=>∃H',Inv X pins σ H' s'∧Q H') X.xe s
section
variable{X:aK}{pos:Pos}
def iz(i:Nat):hY:=fun v σ H Q=>Q (σ.set i (some v)) H
theorem rn{i:Nat}{x:Str}(hN:X.N.Nodup)(hi:X.N[i]?=some x)(hx:Loc X.env.scope x)(hf:X.fn x=true∨X.env.scope.names.lookup x=some .local:=by first|exact .inl rfl|exact .inr rfl|assumption):jd X (.Name x pos) (iz i):=by intro pins s σ H v u Q I r h;exact wpAny_assign_Name (I_ I hN hi hx r (fun s' k7=>⟨_,H,k7,h⟩) hf)
def vd:k9:=fun vs σ H Q=>vs=[]∧Q σ H
def sv(t:hY)(u:k9):k9:=fun vs σ H Q=>∃v r,vs=v::r∧t v σ H fun σ' H'=>u r σ' H' Q
theorem H7:r5 X [] vd:=by intro pins s σ H vs us Q I r h;obtain⟨e,h⟩:=h;subst e;cases r;exact assignInOrder_nil ⟨σ,H,I,h⟩
theorem AJ{e:Expr}{ag:List Expr}{t:hY}{u:k9}(h1:jd X e t)(h2:r5 X ag u)(hs:(assignEach (e::ag) X.env).map (·.2)=assign e X.env::(assignEach ag X.env).map (·.2):=by rfl):r5 X (e::ag) (sv t u):=by
 intro pins s σ H vs us Q I r h;obtain⟨v,xi,aj,h⟩:=h;subst aj;cases r with
 |cons r pB=>rw[hs];refine assignInOrder_cons (bI (h1 pins s σ H _ _ _ I r h) fun _ s1⟨σ1,H1,a5,aY⟩=>?_);exact h2 pins s1 σ1 H1 _ _ Q a5 pB aY
noncomputable def vf(K:PySem.W.Frag)(n:Nat)(t:k9):hY:=fun v σ H Q=>∃a xs,v=.ref a∧cv K H a xs∧xs.length=n∧t xs σ H Q
theorem H6{ag:List Expr}{k:Nat}{t:k9}{n:Nat}(hc:X.calm=true)(h:r5 X ag t)(aJ:(assignEach ag X.env).length=n:=by rfl)(hst:(assignEach ag X.env).findIdx? (·.1)=none:=by rfl):jd X (.Tuple ag k pos) (vf X.K n t):=by intro pins s σ H v u Q I r hw;obtain⟨a,xs,aj,aO,hl,hw⟩:=hw;subst aj;cases r;obtain⟨its,b0,ht,bx⟩:=I.tuple aO;refine assign_Tuple_tuple (I.ok.hd hc) ht (by simp[aJ,←hl,b0.length]) hst fun h' hx=>?_;have a5:Inv X pins σ H { s with heap:=h' }:=I.kept (t':=s.toks) fun b o e=>hx b o (Nat.ne_of_lt (Heap.lt_size e)) e;exact h pins _ σ H xs _ Q a5 (by simpa using b0) hw
noncomputable def NF(to w8:TE)(t:xQ):hY:=fun v σ H Q=>to σ H fun o H1=>w8 σ H1 fun i aM=>t o i v aM fun cO=>Q σ cO
theorem H5 {o i:Expr} {to w8:TE} {t:xQ} (ho:a3 X o to) (hi:a3 X i w8) (hs:Dm X t)(ha:∀v,assign (.Subscript o i pos) X.env v=(do
    let dK ←holding [v] (eval o X.env)
    let fe ←holding [v,dK] (eval i X.env)
    standAt pos
    holding [v,dK,fe] (setItem dK fe v)
    release [v,dK,fe] []):=by intro _;rfl):jd X (.Subscript o i pos) (NF to w8 t):=by
 intro pins s σ H v u Q I r h;rw[ha];refine wpAny_bind (wpAny_holding (bI (ho pins s σ H _ I h) fun dK s1⟨x,H1,a5,av,aY⟩=>?_));refine wpAny_bind (wpAny_holding (bI (hi pins s1 σ H1 _ a5 aY) fun fe s2⟨y,aM,cc,bg,bA⟩=>?_));refine wpAny_bind (wpAny_standAt (wpAny_bind (wpAny_holding (bI (hs pins s2 σ aM x y v dK fe u _ cc av bg r bA) fun _ s3⟨cO,dS,en⟩=>?_))));exact wpAny_release ⟨σ,cO,dS,en⟩
def mD(dO:TE)(g:hY):eB:=fun D σ H=>dO σ H fun x H1=>g x σ H1 D.bj
theorem AK{bu e:Expr}{dO:TE}{g:hY}(he:a3 X e dO)(hg:jd X bu g)(hs:swapsWithSole [bu] e pos.line X.env=pure false:=by rfl)(hw:swappedStores [bu] e X.env=pure none:=by rfl)(h1:(assignEach [bu] X.env).map (·.2)=[assign bu X.env]:=by rfl):cU X (.Assign [bu] e pos) (mD dO g):=by intro pins s σ H D I h;refine wpAny_Assign_stores (bI (he pins s σ H _ I h) fun v s1⟨x,H1,a5,av,aY⟩=>?_) hs hw;rw[h1];exact bI (hg pins s1 σ H1 x v _ a5 av aY) fun _ s2 q=>q
theorem rq{i:Nat}{x:Str}{e:Expr}{dO:TE}{pos':Pos}(hN:X.N.Nodup)(hi:X.N[i]?=some x)(hx:Loc X.env.scope x)(he:a3 X e dO)(hs:swapsWith e (some (.Name x pos')) pos.line X.env=pure false:=by rfl)(hf:X.fn x=true∨X.env.scope.names.lookup x=some .local:=by first|exact .inl rfl|exact .inr rfl|assumption) :
  cU X (.Assign [.Name x pos'] e pos) (mD dO (iz i)):=by
 intro pins s σ H D I h;refine wpAny_Assign_Name (bI (he pins s σ H _ I h) fun v s1⟨y,H1,a5,av,aY⟩=>?_) hs;exact I_ a5 hN hi hx av (fun s2 cc=>⟨_,H1,cc,aY⟩) hf
end
section
variable{X:aK}{pos:Pos}
noncomputable def Jw(c:TT)(tb:eB):eB:=fun D σ H=>∃W:Nat→St→ah→Prop,(∃m,W m σ H)∧∀m σ H,W m σ H→
 c σ H fun b H1=>if b=true then ∃N:St→ah→Prop,(∀ σ' H',N σ' H'→∃ee,ee<m∧W ee σ' H')∧tb { D with bj:=N,c3:=N,ft:=D.bj } σ H1 else D.bj σ H1
theorem T3{c:Expr}{body:List Stmt}{fZ:TT}{tb:eB}(hp:PassesOwn (model X.prog X.w) X.A X.env X.xe)(hc:e2 X c fZ)(hb:fa X body tb):cU X (.While c body [] pos) (Jw fZ tb):=by
 intro pins s σ H D I h;obtain⟨W,⟨m0,ko⟩,turn⟩:=h;refine wpAny_While (codeAny_whileLoop (fun n s'=>∃ σ' H',Inv X pins σ' H' s'∧W n σ' H') ?_ m0 ⟨σ,H,I,ko⟩);rintro n s1 ⟨σ1,H1,a5,ey⟩;refine wpAny_passesOwn hp (bI (hc pins s1 σ1 H1 _ a5 (turn n σ1 H1 ey)) fun b s2⟨aM,cc,bA⟩=>?_);cases b with
 |true=>
  obtain⟨N,hN,bA⟩:=bA;rw[if_pos rfl];refine wpAny_passesOwn hp (bI (hb pins s2 σ1 aM _ cc bA) fun f s3 en=>?_);cases f with
  |next=>obtain⟨σ3,cO,dS,gs⟩:=en;obtain⟨ee,hm,fL⟩:=hN σ3 cO gs;exact⟨ee,hm,σ3,cO,dS,fL⟩
  |cont=>obtain⟨σ3,cO,dS,gs⟩:=en;obtain⟨ee,hm,fL⟩:=hN σ3 cO gs;exact⟨ee,hm,σ3,cO,dS,fL⟩
  |brk=>exact en
  |ret v=>exact en
 |false=>rw[if_neg Bool.false_ne_true];exact wpAny_execs_nil ⟨σ1,aM,cc,bA⟩
end
structure It where
 go:Nat→ah→Prop
 ja:Nat→ah→V→ah→Prop
 stop:Nat→ah→Prop
noncomputable def jb(X:aK)(pins:List (Addr×Obj))(H:ah)(b:Addr):Prop:=
 H b=none∧b≠X.env.locals∧b∉X.aV∧(b∈X.ex∨X.fY.heap.objs.size≤b)∧(∀x c,X.env.cells.lookup x=some c→c≠b)∧∀p∈X.g7++pins,p.1≠b
theorem Inv.nc{X:aK}{pins:List (Addr×Obj)}{σ :St}{H H':ah}{s:Shared}{b:Addr}(I:Inv X pins σ H s)(hb:s.heap.objs.size≤b)(aJ:H' b=none):jb X pins H' b:=by
 refine⟨aJ,Nat.ne_of_gt (Nat.lt_of_lt_of_le I.lt hb),I.R8 hb,.inr (Nat.le_trans I.pJ hb),fun x c e z=>?_,fun p hp z=>?_⟩
 ·obtain⟨v,q⟩:=I.cell x c e;exact absurd (Nat.lt_of_lt_of_le q.lt (by rw[z];exact hb)) (Nat.lt_irrefl _)
 ·exact absurd (Nat.lt_of_lt_of_le (Heap.lt_size (I.pin p hp).1) (by rw[z];exact hb)) (Nat.lt_irrefl _)
structure Turn(P:Program)(w:World)(K:PySem.W.Frag)(bu:Expr)(cV:It)(aE:List Addr)(it:Addr)(gw:Nat→Heap→Prop):Prop where
 mem:it∈aE
 obj:∀i h,gw i h→∀b∈aE,∃o,h.get? b=some o∧∀v,o.data≠.cell v
 keep:∀i h h',gw i h→(∀b∈aE,∀o,h.get? b=some o→h'.get? b=some o)→gw i h'
 item:∀(X:aK),X.prog=P→X.w=w→X.K=K→X.calm=true→∀(i:Nat)(pins:List (Addr×Obj))(s:Shared)(σ :St)(H:ah)(E:Value→Shared→Prop),Inv X pins σ H s→(∀b∈aE,jb X pins H b)→gw i s.heap→cV.go i H→
  wpAny (model P w) X.A (pyNext (.ref it)) (fun r s1=>∃u,r=some u∧
   wpAny (model P w) X.A (letOwnedTupleGo bu (.ref it) u) (fun _ s2=>∃x H',Inv X pins σ H' s2∧RelV x u∧cV.ja i H x H'∧gw (i+1) s2.heap∧∀b∈aE,H' b=none) E s1) E s
 done:∀(X:aK),X.prog=P→X.w=w→X.K=K→X.calm=true→∀(i:Nat)(pins:List (Addr×Obj))(s:Shared)(σ :St)(H:ah)(E:Value→Shared→Prop),Inv X pins σ H s→(∀b∈aE,jb X pins H b)→gw i s.heap→cV.stop i H→
  wpAny (model P w) X.A (pyNext (.ref it)) (fun r s1=>r=none∧Inv X pins σ H s1) E s
 self:∀(A:Around)(i:Nat)(s:Shared)(Q:Value→Shared→Prop)(E:Value→Shared→Prop),gw i s.heap→Q (.ref it) s→wpAny (model P w) A (pyIter (.ref it)) Q E s
abbrev TI:=St→ah→(It→ah→Prop)→Prop
noncomputable def Dl(X:aK)(pins:List (Addr×Obj))(σ :St)(bu:Expr)(R:It→ah→Prop)(vC:Value)(s2:Shared):Prop:=
 ∃(it:Addr)(aE:List Addr)(gw:Nat→Heap→Prop)(cV:It)(H':ah),vC=.ref it∧Inv X pins σ H' s2∧Turn X.prog X.w X.K bu cV aE it gw∧gw 0 s2.heap∧(∀b∈aE,jb X pins H' b)∧R cV H'
noncomputable def f_(X:aK)(bu iter:Expr)(iI:TI):Prop:=
 ∀(pins:List (Addr×Obj))(s:Shared)(σ :St)(H:ah)(R:It→ah→Prop),Inv X pins σ H s→iI σ H R→
  wpAny (model X.prog X.w) X.A (eval iter X.env) (fun v s1=>wpAny (model X.prog X.w) X.A (pyIter v) (Dl X pins σ bu R) X.xe s1) X.xe s
theorem vh{M:Model}{A:Around}{E:Value→Shared→Prop}{s:Shared}{bu:Expr}{it:Addr}{u:Value}{o:Obj}{n:String}{vs:Array Value}{Q:Unit→Shared→Prop}(ho:s.heap.get? it=some o)(hc:o.cls=.type n)(hd:o.data=.fields vs)(aJ:["enumerate","zip","dict_itemiterator","dict_reverseitemiterator","odict_iterator","itertools.zip_longest","itertools.pairwise"].contains n=false)(ia:Q () s):wpAny M A (letOwnedTupleGo bu (.ref it) u) Q E s:=by
 unfold letOwnedTupleGo
 cases bu<;>first
  |exact wpAny_pure ia
  |(cases u<;>first
      |exact wpAny_pure ia
      |(refine wpAny_bind (wpAny_load ho ?_)
        rw[hc,hd];show wpAny M A (if(["enumerate","zip","dict_itemiterator","dict_reverseitemiterator","odict_iterator","itertools.zip_longest","itertools.pairwise"].contains n&&vs[0]?==some (rawInt _))=true then _ else _) Q E s;rw[if_neg (by intro h;rw[aJ,Bool.false_and]at h;cases h)];exact wpAny_pure ia))
noncomputable def p5(K:PySem.W.Frag)(a:Addr):It:=
 ⟨fun i H=>∃xs x,bS K H a xs∧xs[i]?=some x,fun i H x H'=>H'=H∧∀xs,bS K H a xs→xs[i]?=some x,fun i H=>∃xs,bS K H a xs∧xs.length≤i⟩
noncomputable def xH(K:PySem.W.Frag)(a:Addr):It:=
 ⟨fun i H=>∃xs x,cv K H a xs∧xs[i]?=some x,fun i H x H'=>H'=H∧∀xs,cv K H a xs→xs[i]?=some x,fun i H=>∃xs,cv K H a xs∧xs.length≤i⟩
def r2(lo:Int)(n:Nat):It:=⟨fun i _=>i<n,fun i H x H'=>H'=H∧x=.int (lo+i),fun i _=>n≤i⟩
theorem W5{P:Program}{w:World}{K:PySem.W.Frag}{bu:Expr}(a it:Addr):Turn P w K bu (p5 K a) [it] it (fun i h=>h.IsListIter it a i) where
 mem:=by simp
 obj:=fun i h st b hb=>by
  have e:b=it:=by simpa using hb
  subst e;obtain⟨o,e,c,d⟩:=st;exact⟨o,e,fun v z=>by rw[d]at z;cases z⟩
 keep:=fun i h h' st k=>st.at fun o e=>k it (by simp) o e
 item:=by intro X eb hw hK hc i pins s σ H E I hf st hg;subst eb hw hK;obtain⟨xs,x,aO,hx⟩:=hg;obtain⟨its,b0,p,bx⟩:=I.list aO;obtain⟨u,hu,ef⟩:=b0.get hx;obtain⟨f0,f1,f2,fE,f4,h_⟩:=hf it (by simp);refine wpAny_pyNext_list_item st p.isList (x:=u) (by simpa using hu) fun h' kX kW=>?_;have a5:Inv X pins σ H { s with heap:=h' }:=I.turned (t':=s.toks) (fun b o hb e=>(kW.2 b hb).trans e) f0 f1 fE f4 h_;obtain⟨o,e,c,d⟩:=id kX;exact⟨u,rfl,vh (s:={ s with heap:=h' }) e c d (by decide) ⟨x,H,a5,ef,⟨rfl,fun ys cK=>by rw[I.Ad cK aO];exact hx⟩,kX,fun b hb=>(hf b hb).1⟩⟩
 done:=by intro X eb hw hK hc i pins s σ H E I hf st hg;subst eb hw hK;obtain⟨xs,aO,hx⟩:=hg;obtain⟨its,b0,p,bx⟩:=I.list aO;obtain⟨f0,f1,f2,fE,f4,h_⟩:=hf it (by simp);have hl:=b0.length;exact wpAny_pyNext_list_end (I.ok.hd hc) st p.isList (by simp;omega) fun h' bq=>⟨rfl,I.turned (t':=s.toks) (fun b o hb e=>bq b o hb e) f0 f1 fE f4 h_⟩
 self:=fun _ _ _ _ _ st h=>wpAny_pyIter_listiter st h
theorem W8{P:Program}{w:World}{K:PySem.W.Frag}{bu:Expr}(a it:Addr):Turn P w K bu (xH K a) [it] it (fun i h=>h.IsTupleIter it a i) where
 mem:=by simp
 obj:=fun i h st b hb=>by
  have e:b=it:=by simpa using hb
  subst e;obtain⟨o,e,c,d⟩:=st;exact⟨o,e,fun v z=>by rw[d]at z;cases z⟩
 keep:=fun i h h' st k=>st.at fun o e=>k it (by simp) o e
 item:=by intro X eb hw hK hc i pins s σ H E I hf st hg;subst eb hw hK;obtain⟨xs,x,aO,hx⟩:=hg;obtain⟨its,b0,p,bx⟩:=I.tuple aO;obtain⟨u,hu,ef⟩:=b0.get hx;obtain⟨f0,f1,f2,fE,f4,h_⟩:=hf it (by simp);refine wpAny_pyNext_tuple_item st (show s.heap.IsTuple a its.toArray from p) (x:=u) (by simpa using hu) fun h' kX kW=>?_;have a5:Inv X pins σ H { s with heap:=h' }:=I.turned (t':=s.toks) (fun b o hb e=>(kW.2 b hb).trans e) f0 f1 fE f4 h_;obtain⟨o,e,c,d⟩:=id kX;exact⟨u,rfl,vh (s:={ s with heap:=h' }) e c d (by decide) ⟨x,H,a5,ef,⟨rfl,fun ys cK=>by rw[I.Cy cK aO];exact hx⟩,kX,fun b hb=>(hf b hb).1⟩⟩
 done:=by intro X eb hw hK hc i pins s σ H E I hf st hg;subst eb hw hK;obtain⟨xs,aO,hx⟩:=hg;obtain⟨its,b0,p,bx⟩:=I.tuple aO;obtain⟨f0,f1,f2,fE,f4,h_⟩:=hf it (by simp);have hl:=b0.length;exact wpAny_pyNext_tuple_end (I.ok.hd hc) st (show s.heap.IsTuple a its.toArray from p) (by simp;omega) fun h' bq=>⟨rfl,I.turned (t':=s.toks) (fun b o hb e=>bq b o hb e) f0 f1 fE f4 h_⟩
 self:=fun _ _ _ _ _ st h=>wpAny_pyIter_tupleiter st h
theorem W6{P:Program}{w:World}{K:PySem.W.Frag}{bu:Expr}(it:Addr)(lo:Int)(n:Nat):Turn P w K bu (r2 lo n) [it] it (fun i h=>IsRangeIter h it (lo+(i:Nat)*1) ((n:Int)-(i:Nat)) 1) where
 mem:=by simp
 obj:=fun i h st b hb=>by
  have e:b=it:=by simpa using hb
  subst e;exact⟨_,st,fun v z=>by have gj:Data.fields _=Data.cell v:=z;cases gj⟩
 keep:=fun i h h' st k=>k it (by simp) _ st
 item:=by intro X eb hw hK hc i pins s σ H E I hf st hg;subst eb hw hK;obtain⟨f0,f1,f2,fE,f4,h_⟩:=hf it (by simp);have W:=Walks.range (prog:=X.prog) (w:=X.w) (I.ok.hd hc) it lo 1 n;refine W.item i s _ _ hg st fun v h' dv hv kX cJ=>?_;obtain⟨t,rfl⟩:=hv;have a5:Inv X pins σ H { s with heap:=h',toks:=dv }:=I.turned (fun b o hb e=>cJ b o (by simpa using hb) e) f0 f1 fE f4 h_;refine⟨_,rfl,vh (s:={ s with heap:=h',toks:=dv }) (n:="range_iterator") kX rfl rfl (by decide) ⟨.int (lo+i),H,a5,⟨t,?_⟩,⟨rfl,rfl⟩,kX,fun b hb=>(hf b hb).1⟩⟩;rw[Int.mul_one]
 done:=by intro X eb hw hK hc i pins s σ H E I hf st hg;subst eb hw hK;obtain⟨f0,f1,f2,fE,f4,h_⟩:=hf it (by simp);exact wpAny_pyNext_range_end (I.ok.hd hc) st (by have:n≤i:=hg;omega) fun h' bq=>⟨rfl,I.turned (t':=s.toks) (fun b o hb e=>bq b o hb e) f0 f1 fE f4 h_⟩
 self:=fun _ _ _ _ _ st h=>wpAny_pyIter_rangeiter st h
section
variable{X:aK}{bu:Expr}
noncomputable def Gl(K:PySem.W.Frag)(fK:TE):TI:=fun σ H R=>fK σ H fun x H1=>∃a,x=.ref a∧(∃xs,bS K H1 a xs)∧R (p5 K a) H1
noncomputable def Gq(K:PySem.W.Frag)(fK:TE):TI:=fun σ H R=>fK σ H fun x H1=>∃a,x=.ref a∧(∃xs,cv K H1 a xs)∧R (xH K a) H1
theorem H8{l:Expr}{fK:TE}(hl:a3 X l fK):f_ X bu l (Gl X.K fK):=by
 intro pins s σ H R I h;refine bI (hl pins s σ H _ I h) fun v s1⟨x,H1,a5,av,aY⟩=>?_;obtain⟨a,e,⟨xs,aO⟩,q⟩:=aY;subst e;cases av;obtain⟨its,b0,p,bx⟩:=a5.list aO;refine wpAny_pyIter_list p.isList ?_;refine⟨s1.heap.objs.size,[s1.heap.objs.size],_,_,H1,rfl,a5.kept (t':=s1.toks) fun b o e=>Heap.get?_push_of_some _ e,W5 a _,⟨_,Heap.get?_push_size _ rfl,rfl,rfl⟩,fun b hb=>?_,q⟩;have e:b=s1.heap.objs.size:=by simpa using hb
 subst e;exact a5.nc (Nat.le_refl _) (a5.bM.fresh (Nat.le_refl _))
theorem TG{l:Expr}{fK:TE}(hl:a3 X l fK):f_ X bu l (Gq X.K fK):=by
 intro pins s σ H R I h;refine bI (hl pins s σ H _ I h) fun v s1⟨x,H1,a5,av,aY⟩=>?_;obtain⟨a,e,⟨xs,aO⟩,q⟩:=aY;subst e;cases av;obtain⟨its,b0,p,bx⟩:=a5.tuple aO;refine wpAny_pyIter_tuple (show s1.heap.IsTuple a its.toArray from p) ?_;refine⟨s1.heap.objs.size,[s1.heap.objs.size],_,_,H1,rfl,a5.kept (t':=s1.toks) fun b o e=>Heap.get?_push_of_some _ e,W8 a _,⟨_,Heap.get?_push_size _ rfl,rfl,rfl⟩,fun b hb=>?_,q⟩;have e:b=s1.heap.objs.size:=by simpa using hb
 subst e;exact a5.nc (Nat.le_refl _) (a5.bM.fresh (Nat.le_refl _))
theorem IB{pins:List (Addr×Obj)}{σ :St}{H:ah}{s:Shared}{R:It→ah→Prop}{E:Value→Shared→Prop}{lo hi:Int}{t u v:Tok}{dv:Nat}(I:Inv X pins σ H s)(h1: -(2^62)≤lo)(h2:lo<2^62)(h3: -(2^62)≤hi)(h4:hi<2^62)(q:R (r2 lo (hi-lo).toNat) H):wpAny (model X.prog X.w) X.A (pyIter (.ref s.heap.objs.size)) (Dl X pins σ bu R) E { s with heap:=s.heap.push { cls:=.type "range",data:=.fields #[.int lo t,.int hi u,.int 1 v] },toks:=dv }:=by
 refine wpAny_pyIter_range (IsRange.new ..) (small_one h1 h2 h3 h4) ?_;have a5:Inv X pins σ H { s with heap:=s.heap.push { cls:=.type "range",data:=.fields #[.int lo t,.int hi u,.int 1 v] },toks:=dv }:=I.kept fun b o e=>Heap.get?_push_of_some _ e
 refine⟨(s.heap.push { cls:=.type "range",data:=.fields #[.int lo t,.int hi u,.int 1 v] }).objs.size,[(s.heap.push { cls:=.type "range",data:=.fields #[.int lo t,.int hi u,.int 1 v] }).objs.size],_,_,H,rfl,
  a5.kept (t':=dv) fun b o e=>Heap.get?_push_of_some _ e,W6 _ lo (hi-lo).toNat,?_,fun b hb=>?_,q⟩
 ·have aj:lo+((0:Nat):Int)*1=lo:=by simp
  have ax:(((hi-lo).toNat:Nat):Int)-((0:Nat):Int)=Builtin.Range.rangeSize lo hi 1:=by rw[rangeSize_one];split<;>omega
  show IsRangeIter _ _ (lo+((0:Nat):Int)*1) ((((hi-lo).toNat:Nat):Int)-((0:Nat):Int)) 1;rw[aj,ax];exact Heap.get?_push_size _ rfl
 ·have e:b=(s.heap.push { cls:=.type "range",data:=.fields #[.int lo t,.int hi u,.int 1 v] }).objs.size:=by simpa using hb
  subst e;exact a5.nc (Nat.le_refl _) (a5.bM.fresh (Nat.le_refl _))
noncomputable def Gm(cb:es):TI:=fun σ H R=>cb σ H fun vs H1=>∃j:Int,vs=[.int j]∧-(2^62)≤j∧j<2^62∧R (r2 0 j.toNat) H1
noncomputable def Gn(cb:es):TI:=fun σ H R=>cb σ H fun vs H1=>∃i j:Int,vs=[.int i,.int j]∧(-(2^62)≤i∧i<2^62∧-(2^62)≤j∧j<2^62)∧R (r2 i (j-i).toNat) H1
theorem TB{a:Expr}{cb:es}{p pos:Pos}(hg:da X "range")(hm:X.mg "range"=none)(ha:eR X [a] cb)(hs:starEach [a] X.env=[(false,eval a X.env)]:=by rfl):f_ X bu (.Call (.Name "range" p) [a] [] pos) (Gm cb):=by
 intro pins s σ H R I h;refine Call_ (o1 I hg hm boot_range (PyProof.Rows.callWith_type1 (bI (ha pos pins s σ H _ I h) fun us s1⟨vs,H1,a5,av,aY⟩=>?_) hs rfl));obtain⟨j,e,aY,bA,q⟩:=aY;subst e;cases av with
 |cons r pB=>cases pB;obtain⟨t,rfl⟩:=r;exact call_range_1 (IB a5 (by omega) (by omega) aY bA (by simpa using q))
theorem TC{a b:Expr}{cb:es}{p pos:Pos}(hg:da X "range")(hm:X.mg "range"=none)(ha:eR X [a,b] cb)(hs:starEach [a,b] X.env=[(false,eval a X.env),(false,eval b X.env)]:=by rfl)(hs2:starEach [b] X.env=[(false,eval b X.env)]:=by rfl) :
  f_ X bu (.Call (.Name "range" p) [a,b] [] pos) (Gn cb):=by
 intro pins s σ H R I h;refine Call_ (o1 I hg hm boot_range (PyProof.Rows.callWith_type1 (bI (ha pos pins s σ H _ I h) fun us s1⟨vs,H1,a5,av,aY⟩=>?_) (by rw[hs,hs2]) (by rw[hs2];rfl)));obtain⟨i,j,e,⟨aY,bA,en,nQ⟩,q⟩:=aY;subst e;cases av with
 |cons r pB=>
  cases pB with
  |cons br pB=>cases pB;obtain⟨t,rfl⟩:=r;obtain⟨t',rfl⟩:=br;exact call_range_2 (IB a5 aY bA en nQ q)
noncomputable def Jo(iI:TI)(g:hY)(tb:eB):eB:=fun D σ H=>iI σ H fun cV H1=>∃W:Nat→Nat→St→ah→Prop,(∃m,W 0 m σ H1)∧∀i m σ H,W i m σ H→
 (cV.stop i H∧D.bj σ H)∨(cV.go i H∧∃N:St→ah→Prop,(∀ σ' H',N σ' H'→∃ee,ee<m∧W (i+1) ee σ' H')∧∀x H',cV.ja i H x H'→g x σ H' fun σ2 aM=>tb { D with bj:=N,c3:=N,ft:=D.bj } σ2 aM)
def tH(aE:List Addr)(h:Heap):List (Addr×Obj):=aE.filterMap fun b=>(h.get? b).map fun o=>(b,o)
theorem wj{aE:List Addr}{h:Heap}{b:Addr}{o:Obj}(hb:b∈aE)(e:h.get? b=some o):(b,o)∈tH aE h:=List.mem_filterMap.mpr ⟨b,hb,by rw[e];rfl⟩
theorem Sl{aE:List Addr}{h:Heap}{p:Addr×Obj}(hp:p∈tH aE h):p.1∈aE∧h.get? p.1=some p.2:=by
 obtain⟨b,hb,e⟩:=List.mem_filterMap.mp hp;cases q:h.get? b with
 |none=>rw[q]at e;cases e
 |some o=>rw[q]at e;have cA:(b,o)=p:=Option.some.inj e;subst cA;exact⟨hb,q⟩
theorem Inv.pinned{pins:List (Addr×Obj)}{σ :St}{H:ah}{s:Shared}{aE:List Addr}(I:Inv X pins σ H s)(hf:∀b∈aE,jb X pins H b)(ho:∀b∈aE,∃o,s.heap.get? b=some o∧∀v,o.data≠.cell v):Inv X (pins++tH aE s.heap) σ H s:=
 I.H_ fun p hp=>(List.mem_append.mp hp).elim (fun z=>I.pin p (List.mem_append_right _ z)) fun z=>by obtain⟨hb,e⟩:=Sl z;obtain⟨f0,f1,f2,_⟩:=hf p.1 hb;obtain⟨o,cA,d⟩:=ho p.1 hb;rw[e]at cA;cases cA;exact⟨e,f0,f1,f2,d⟩
theorem Inv.xf{pins pl:List (Addr×Obj)}{σ :St}{H:ah}{s:Shared}(I:Inv X (pins++pl) σ H s):Inv X pins σ H s:=I.H_ fun p hp=>I.pin p (List.mem_append_right _ (List.mem_append_left _ hp))
theorem Ie{iter:Expr}{body:List Stmt}{iI:TI}{g:hY}{tb:eB}{pos:Pos}(hp:PassesOwn (model X.prog X.w) X.A X.env X.xe)(hc:X.calm=true)(hi:f_ X bu iter iI)(hg:jd X bu g)(hb:fa X body tb)(hs:∀x,foldedSetIterable iter X.env x=pure x:=by intro _;rfl):cU X (.For bu iter body [] pos) (Jo iI g tb):=by
 intro pins s σ H D I h;refine wpAny_For (bI (hi pins s σ H _ I h) fun v s1 h1=>bI h1 fun vC s2 h2=>?_) hs;obtain⟨it,aE,gw,cV,aM,e,cc,T,kj,f2,W,⟨m0,ko⟩,turn⟩:=h2;subst e;have stat:∀{H':ah},(∀b∈aE,H' b=none)→∀b∈aE,jb X pins H' b:=fun aJ b hb=>⟨aJ b hb,(f2 b hb).2⟩;refine codeAny_forLoop_any (fun n s'=>∃i σ' H',Inv X pins σ' H' s'∧gw i s'.heap∧(∀b∈aE,H' b=none)∧W i n σ' H') ?_ m0 ⟨0,σ,aM,cc,kj,fun b hb=>(f2 b hb).1,ko⟩;rintro n s3 ⟨i,σ3,cO,dS,I7,FJ,fL⟩;rcases turn i n σ3 cO fL with⟨stop,qn⟩|⟨go,N,hN,step⟩
 ·refine wpAny_passesOwn hp (bI (T.done X rfl rfl rfl hc i pins s3 σ3 cO X.xe dS (stat FJ) I7 stop) fun r s4⟨hr,j1⟩=>?_);subst hr;exact wpAny_execs_nil ⟨σ3,cO,j1,qn⟩
 ·refine wpAny_passesOwn hp (bI (T.item X rfl rfl rfl hc i pins s3 σ3 cO X.xe dS (stat FJ) I7 go) fun r s4⟨u,hr,h4⟩=>?_);subst hr;refine wpAny_passesOwn hp (bI h4 fun _ s5⟨x,iM,p3,jV,Yt,rD,vc⟩=>?_);have Kx:=p3.pinned (stat vc) (T.obj _ _ rD);refine wpAny_passesOwn hp (bI (hg _ s5 σ3 iM x u _ Kx jV (step x iM Yt)) fun _ gK⟨σ6,mQ,r1,Uk⟩=>?_);refine wpAny_passesOwn hp (bI (hb _ gK σ6 mQ _ r1 Uk) fun f dV nR=>?_);have again:∀{σ7:St}{f9:ah},Inv X (pins++tH aE s5.heap) σ7 f9 dV→N σ7 f9→∃m,m<n∧∃i σ' H',Inv X pins σ' H' dV∧gw i dV.heap∧(∀b∈aE,H' b=none)∧W i m σ' H':=fun{σ7 f9} jy tp=>by
   obtain⟨ee,hm,Xv⟩:=hN σ7 f9 tp;refine⟨ee,hm,i+1,σ7,f9,jy.xf,T.keep _ _ _ rD fun b hb o e=>(jy.pin (b,o) (List.mem_append_right _ (List.mem_append_right _ (wj hb e)))).1,fun b hb=>?_,Xv⟩;obtain⟨o,e,d⟩:=T.obj _ _ rD b hb;exact(jy.pin (b,o) (List.mem_append_right _ (List.mem_append_right _ (wj hb e)))).2.1
  cases f with
  |next=>obtain⟨σ7,f9,jy,tp⟩:=nR;exact again jy tp
  |cont=>obtain⟨σ7,f9,jy,tp⟩:=nR;exact again jy tp
  |brk=>obtain⟨σ7,f9,jy,nR⟩:=nR;exact⟨σ7,f9,jy.xf,nR⟩
  |ret v=>obtain⟨t_,σ7,f9,jy,ij,nR⟩:=nR;exact⟨t_,σ7,f9,jy.xf,ij,nR⟩
end
abbrev ea:=V→V→ah→cI→Prop
noncomputable def dp(X:aK)(f:Value→Value→Sem Value)(r:ea):Prop:=
 ∀(pins:List (Addr×Obj))(s:Shared)(σ :St)(H:ah)(x y:V)(v u:Value)(Q:cI),Inv X pins σ H s→RelV x v→RelV y u→r x y H Q→
  wpAny (model X.prog X.w) X.A (f v u) (gm X pins σ Q) X.xe s
noncomputable def hR(X:aK)(f:Value)(r:List V→ah→cI→Prop):Prop:=
 ∀(pins:List (Addr×Obj))(s:Shared)(σ :St)(H:ah)(xs:List V)(us:List Value)(Q:cI),Inv X pins σ H s→Vals xs us→r xs H Q→
  wpAny (model X.prog X.w) X.A (call f us) (gm X pins σ Q) X.xe s
noncomputable def KH(X:aK)(r:V→ah→(Bool→ah→Prop)→Prop):Prop:=
 ∀(pins:List (Addr×Obj))(s:Shared)(σ :St)(H:ah)(x:V)(v:Value)(Q:Bool→ah→Prop),Inv X pins σ H s→RelV x v→r x H Q→
  wpAny (model X.prog X.w) X.A (truthy v) (ux X pins σ Q) X.xe s
def tV(r:ea)(cb tb:TE):TE:=fun σ H Q=>cb σ H fun x H1=>tb σ H1 fun y aM=>r x y aM Q
def nS(C:Int→Int→Prop)(g:Int→Int→V):ea:=fun x y H Q=>∃i j,x=.int i∧y=.int j∧C i j∧Q (g i j) H
def ki(g:Int→Int→V):ea:=fun x y H Q=>∃i j,x=.int i∧y=.int j∧Q (g i j) H
section
variable{X:aK}{a b c:Expr}{cb tb fZ:TE}{pos:Pos}
theorem yK(ha:a3 X a cb)(hb:a3 X b tb){pins:List (Addr×Obj)}{s:Shared}{σ :St}{H:ah}{R:V→V→ah→Prop}(I:Inv X pins σ H s)(h:cb σ H fun x H1=>tb σ H1 fun y aM=>R x y aM){Q:Value→Shared→Prop}{f:Value→Value→Sem Value}(hf:∀v u s2 x y aM,Inv X pins σ aM s2→RelV x v→RelV y u→R x y aM→wpAny (model X.prog X.w) X.A (f v u) Q X.xe s2) :
  wpAny (model X.prog X.w) X.A (eval a X.env) (fun v c2=>wpAny (model X.prog X.w) X.A (eval b X.env) (fun u jX=>wpAny (model X.prog X.w) X.A (f v u) Q X.xe jX) X.xe c2) X.xe s:=by
 refine bI (ha pins s σ H _ I h) fun v s1⟨x,H1,a5,av,aY⟩=>?_;refine bI (hb pins s1 σ H1 _ a5 aY) fun u s2⟨y,aM,cc,bg,bA⟩=>?_;exact hf v u s2 x y aM cc av bg bA
theorem H2{op:Operator}{r:ea}(ho:dp X (binaryOp op) r)(ha:a3 X a cb)(hb:a3 X b tb):a3 X (.BinOp a op b pos) (tV r cb tb):=by intro pins s σ H Q I h;exact wpAny_BinOp (yK ha hb I h fun v u s2 x y aM cc bt bX q=>ho pins s2 σ aM x y v u Q cc bt bX q)
theorem rl{f:Value→Value→Sem Value}{C:Int→Int→Prop}{g:Int→Int→Int}(rule:∀(i j:Int)(t u:Tok)(s:Shared)(Q:Value→Shared→Prop)(E:Value→Shared→Prop),C i j→Q (.int (g i j) s.toks) { s with toks:=s.toks+1 }→wpAny (model X.prog X.w) X.A (f (.int i t) (.int j u)) Q E s) :
  dp X f (nS C fun i j=>.int (g i j)):=by
 intro pins s σ H x y v u Q I bt bX h;obtain⟨i,j,rfl,rfl,hc,q⟩:=h;obtain⟨t,rfl⟩:=bt;obtain⟨t',rfl⟩:=bX;exact rule i j t t' s _ _ hc ⟨.int (g i j),H,I.tok _,⟨_,rfl⟩,q⟩
theorem Ay{f:Value→Value→Sem Value}{g:Int→Int→Int}(rule:∀(i j:Int)(t u:Tok)(s:Shared)(Q:Value→Shared→Prop)(E:Value→Shared→Prop),Q (.int (g i j) s.toks) { s with toks:=s.toks+1 }→wpAny (model X.prog X.w) X.A (f (.int i t) (.int j u)) Q E s) :
  dp X f (ki fun i j=>.int (g i j)):=by
 intro pins s σ H x y v u Q I bt bX h;obtain⟨i,j,rfl,rfl,q⟩:=h;obtain⟨t,rfl⟩:=bt;obtain⟨t',rfl⟩:=bX;exact rule i j t t' s _ _ ⟨.int (g i j),H,I.tok _,⟨_,rfl⟩,q⟩
theorem Ax{f:Value→Value→Sem Value}{g:Int→Int→Bool}(rule:∀(i j:Int)(t u:Tok)(s:Shared)(Q:Value→Shared→Prop)(E:Value→Shared→Prop),Q (.bool (g i j)) s→wpAny (model X.prog X.w) X.A (f (.int i t) (.int j u)) Q E s) :
  dp X f (ki fun i j=>.aD (g i j)):=by
 intro pins s σ H x y v u Q I bt bX h;obtain⟨i,j,rfl,rfl,q⟩:=h;obtain⟨t,rfl⟩:=bt;obtain⟨t',rfl⟩:=bX;exact rule i j t t' s _ _ ⟨.aD (g i j),H,I,rfl,q⟩
def ui(i j:Int):Prop:=0<j∧j<1073741824
def rW(i j:Int):Prop:=0≤j∧j≤1000000∧i.natAbs<2^64
def p0(i j:Int):Prop:=(-(2^64)<i∧i<2^64)∨(-(2^64)<j∧j<2^64)
theorem p0.ok{i j:Int}(h:p0 i j):IntMulOk i j:=by
 rcases h with⟨h1,h2⟩|⟨h1,h2⟩
 ·exact .of_left (intBits_le_64 h1 h2)
 ·exact .of_right (intBits_le_64 h1 h2)
theorem Xa(k:Nat):(0:Int)≤2^k:=by rw[two_pow_cast];exact Int.natCast_nonneg _
theorem SI:dp X (binaryOp .Add) (ki fun i j=>.int (i+j)):=Ay fun _ _ _ _ _ _ _ q=>add_int q
theorem S0:dp X (binaryOp .Sub) (ki fun i j=>.int (i-j)):=Ay fun _ _ _ _ _ _ _ q=>sub_int q
theorem SR:dp X (binaryOp .Mult) (nS p0 fun i j=>.int (i*j)):=rl fun _ _ _ _ _ _ _ hc q=>mul_int q hc.ok
theorem SO:dp X (binaryOp .FloorDiv) (nS ui fun i j=>.int (i/j)):=rl fun i j _ _ _ _ _ hc q=>by have h1:(0:Int)<j:=hc.1;have h2:j<1073741824:=hc.2;exact floordiv_int (by omega) (by rw[Int.fdiv_eq_ediv_of_nonneg i (by omega)];exact q) (.inl (PyProof.noPylong_small (by omega)))
theorem SQ:dp X (binaryOp .Mod) (nS (fun _ j=>0<j) fun i j=>.int (i%j)):=rl fun i j _ _ _ _ _ hc q=>by have h1:(0:Int)<j:=hc;exact mod_int' (by omega) (by rw[Int.fmod_eq_emod_of_nonneg i (by omega)];exact q)
theorem SW:dp X (binaryOp .Pow) (nS rW fun i j=>.int (i^j.toNat)):=rl fun _ _ _ _ _ _ _ hc q=>pow_int_small hc.1 hc.2.1 hc.2.2 q
theorem SY:dp X (binaryOp .RShift) (nS (fun _ j=>0≤j) fun i j=>.int (i/2^j.toNat)):=rl fun i j _ _ _ _ _ hc q=>
 rshift_int hc (by rw[Int.fdiv_eq_ediv_of_nonneg i (Xa _)];exact q)
theorem SK:dp X (binaryOp .BitAnd) (ki fun i j=>.int (Builtin.bitAnd i j)):=Ay fun _ _ _ _ _ _ _ q=>and_int q
end
noncomputable def IP:V→V→Bool
 |.non,.non=>true|.non,.int _=>true|.int _,.non=>true|.non,.aD _=>true|.aD _,.non=>true|.non,.str _=>true|.str _,.non=>true
 |.int _,.int _=>true|.aD _,.aD _=>true|.str _,.str _=>true|.lp _,.lp _=>true
 |.int _,.str _=>true|.str _,.int _=>true|.aD _,.str _=>true|.str _,.aD _=>true
 |_,_=>false
section
variable{X:aK}{a b c:Expr}{cb tb fZ:TE}{pos:Pos}
theorem FD{pins:List (Addr×Obj)}{σ :St}{H:ah}{s:Shared}{Q:cI}{k k':Bool}(I:Inv X pins σ H s)(q:Q (.aD k) H)(e:k=k'):gm X pins σ Q (.bool k') s:=by subst e;exact⟨.aD k,H,I,rfl,q⟩
theorem HN:dp X (compareOp .Lt) (ki fun i j=>.aD (decide (i<j))):=Ax fun _ _ _ _ _ _ _ q=>lt_int q
theorem tB:dp X (compareOp .LtE) (ki fun i j=>.aD (decide (i≤j))):=Ax fun _ _ _ _ _ _ _ q=>le_int q
theorem SP:dp X (compareOp .Gt) (ki fun i j=>.aD (decide (j<i))):=Ax fun _ _ _ _ _ _ _ q=>gt_int q
theorem HM:dp X (compareOp .Is) (fun x y H Q=>y=.non∧Q (.aD (decide (x=.non))) H):=by
 intro pins s σ H x y v u Q I bt bX h;obtain⟨rfl,q⟩:=h;cases bX;refine is_none_gen (FD I q ?_)
 cases x<;>first
  |(cases bt;rfl)
  |(obtain⟨t,rfl⟩:=bt;rfl)
theorem SV:dp X (compareOp .IsNot) (fun x y H Q=>y=.non∧Q (.aD (!decide (x=.non))) H):=by
 intro pins s σ H x y v u Q I bt bX h;obtain⟨rfl,q⟩:=h;cases bX;refine isnot_none_gen (FD I q ?_)
 cases x<;>first
  |(cases bt;rfl)
  |(obtain⟨t,rfl⟩:=bt;rfl)
theorem dp.or{f:Value→Value→Sem Value}{r br:ea}(h:dp X f r)(h':dp X f br):dp X f (fun x y H Q=>r x y H Q∨br x y H Q):=by
 intro pins s σ H x y v u Q I bt bX q;rcases q with q|q
 ·exact h pins s σ H x y v u Q I bt bX q
 ·exact h' pins s σ H x y v u Q I bt bX q
theorem my(b:Expr){op:CmpOp}(h:op≠.In:=by decide)(h2:op≠.NotIn:=by decide):behindInMarks op b=false:=by
 have aj:(op==CmpOp.In)=false:=by cases op<;>first|rfl|exact absurd rfl h
 have ax:(op==CmpOp.NotIn)=false:=by cases op<;>first|rfl|exact absurd rfl h2
 cases b<;>simp[behindInMarks,aj,ax]
theorem Tf{op:CmpOp}{r:ea}(ho:dp X (compareOp op) r)(ha:a3 X a cb)(hb:a3 X b tb)(hm:behindInMarks op b=false):a3 X (.Compare a [op] [b] pos) (tV r cb tb):=by intro pins s σ H Q I h;exact wpAny_Compare1 (yK ha hb I h fun v u s2 x y aM cc bt bX q=>ho pins s2 σ aM x y v u Q cc bt bX q) hm
def Co(t:TE):TT:=fun σ H Q=>t σ H fun x H'=>∃k,x=.aD k∧Q k H'
theorem T7{op:CmpOp}{r:ea}(ho:dp X (compareOp op) r)(ha:a3 X a cb)(hb:a3 X b tb)(hm:behindInMarks op b=false):e2 X (.Compare a [op] [b] pos) (Co (tV r cb tb)):=by
 intro pins s σ H Q I h;refine wpAny_isTrue_Compare1 (bI (ha pins s σ H _ I h) fun v s1⟨x,H1,a5,av,aY⟩=>bI (hb pins s1 σ H1 _ a5 aY) fun u s2⟨y,aM,cc,bg,bA⟩=>
  bI (ho pins s2 σ aM x y v u _ cc av bg bA) fun c s3⟨z,cO,dS,dU,k,e,en⟩=>?_) hm
 subst e;cases dU;exact wpAny_truthy_bool ⟨cO,dS,en⟩
noncomputable def Cd(r br:ea)(cb tb fZ:TE):TE:=fun σ H Q=>cb σ H fun x H1=>tb σ H1 fun y aM=>r x y aM fun z cO=>∃k,z=.aD k∧
 (if k=true then fZ σ cO fun eZ gy=>br y eZ gy Q else Q (.aD false) cO)
theorem Td{op fW:CmpOp}{r br:ea}(ho:dp X (compareOp op) r)(ho':dp X (compareOp fW) br)(ha:a3 X a cb)(hb:a3 X b tb)(hc:a3 X c fZ)(hm:lastMarks [op,fW] [b,c]=false:=by with_unfolding_all rfl):a3 X (.Compare a [op,fW] [b,c] pos) (Cd r br cb tb fZ):=by
 intro pins s σ H Q I h;refine Compare_chain (bI (ha pins s σ H _ I h) fun v s1⟨x,H1,a5,av,aY⟩=>chain_link (bI (hb pins s1 σ H1 _ a5 aY) fun u s2⟨y,aM,cc,bg,bA⟩=>
  bI (ho pins s2 σ aM x y v u _ cc av bg bA) fun d s3⟨z,cO,dS,dU,k,e,en⟩=>?_)) hm
 subst e;cases dU;refine wpAny_truthy_bool ?_;cases k with
 |false=>exact ite_ff ⟨.aD false,cO,dS,rfl,en⟩
 |true=>exact ite_tt (chain_last (bI (hc pins s3 σ cO _ dS en) fun eZ s4⟨gj,gy,j1,pA,nQ⟩=>ho' pins s4 σ gy y gj u eZ Q j1 bg pA nQ))
theorem T6{op fW:CmpOp}{r br:ea}(ho:dp X (compareOp op) r)(ho':dp X (compareOp fW) br)(ha:a3 X a cb)(hb:a3 X b tb)(hc:a3 X c fZ)(hm:lastMarks [op,fW] [b,c]=false:=by with_unfolding_all rfl):e2 X (.Compare a [op,fW] [b,c] pos) (Co (Cd r br cb tb fZ)):=by
 intro pins s σ H Q I h;refine isTrue_chain (bI (ha pins s σ H _ I h) fun v s1⟨x,H1,a5,av,aY⟩=>test_link (bI (hb pins s1 σ H1 _ a5 aY) fun u s2⟨y,aM,cc,bg,bA⟩=>
  bI (ho pins s2 σ aM x y v u _ cc av bg bA) fun d s3⟨z,cO,dS,dU,k,e,en⟩=>?_)) hm
 subst e;cases dU;refine wpAny_truthy_bool ?_;cases k with
 |false=>obtain⟨k',cA,i4⟩:=en;cases cA;exact ite_ff ⟨cO,dS,i4⟩
 |true=>refine ite_tt (test_last (bI (hc pins s3 σ cO _ dS en) fun eZ s4⟨gj,gy,j1,pA,nQ⟩=>bI (ho' pins s4 σ gy y gj u eZ _ j1 bg pA nQ) fun d' s5⟨aW,iM,p3,jV,b7,ax,rr⟩=>?_));subst ax;cases jV;exact wpAny_truthy_bool ⟨iM,p3,rr⟩
noncomputable def KI(K:PySem.W.Frag)(x:V)(H:ah)(k:Bool):Prop:=
 match x with
 |.non=>k=false
 |.aD b=>k=b
 |.int i=>k=(i !=0)
 |.str y=>y.length≤sizeLine∧k=((y.length:Int) !=0)
 |.lp y=>y.size≤sizeLine∧k=((y.size:Int) !=0)
 |.ref p=>(∃xs,bS K H p xs∧k=!xs.isEmpty)∨(∃xs,cv K H p xs∧k=!xs.isEmpty)∨∃aT,H p=some (.cW aT)∧k=!aT.isEmpty
 |_=>False
theorem PV{κ:Type}{aT:List (κ×V)}{vs:List (κ×Value)}(r:fo aT vs):(!vs.isEmpty)=!aT.isEmpty:=by cases r<;>rfl
theorem GB{xs:List V}{its:List Value}(r:Vals xs its):(!its.toArray.isEmpty)=!xs.isEmpty:=by cases r<;>simp
theorem qM:(sizeLine:Nat)<2^63:=by rw[sizeLine_eq];decide
theorem aaf:KH X (fun x H Q=>∃k,KI X.K x H k∧Q k H):=by
 intro pins s σ H x v Q I bt h;obtain⟨k,e,q⟩:=h;have hl:=qM;have hs:sizeLine=16777216:=sizeLine_eq;cases x with
 |non=>cases bt;have cA:k=false:=e;subst cA;exact truthy_none ⟨H,I,q⟩
 |aD b=>cases bt;have cA:k=b:=e;subst cA;exact wpAny_truthy_bool ⟨H,I,q⟩
 |int i=>obtain⟨t,rfl⟩:=bt;have cA:k=(i !=0):=e;subst cA;exact PySem.P.truthy_int ⟨H,I,q⟩
 |str y=>obtain⟨t,rfl⟩:=bt;obtain⟨cK,cA⟩:y.length≤sizeLine∧k=((y.length:Int) !=0):=e;subst cA;exact PySem.P.truthy_str (by omega) ⟨H,I.tok _,q⟩
 |lp y=>obtain⟨t,rfl⟩:=bt;obtain⟨cK,cA⟩:y.size≤sizeLine∧k=((y.size:Int) !=0):=e;subst cA;exact PySem.W.truthy_bytes (by omega) ⟨H,I.tok _,q⟩
 |ref p=>
  cases bt;have cA:(∃xs,bS X.K H p xs∧k=!xs.isEmpty)∨(∃xs,cv X.K H p xs∧k=!xs.isEmpty)∨∃aT,H p=some (.cW aT)∧k=!aT.isEmpty:=e;rcases cA with⟨xs,hx,cA⟩|⟨xs,hx,cA⟩|⟨aT,hx,cA⟩
  ·subst cA;obtain⟨its,r,pl,bx⟩:=I.list hx;have hlen:=r.length;exact wpAny_truthy_list pl.isList (by simp only[List.size_toArray];omega) ⟨H,I.tok _,by rw[GB r];exact q⟩
  ·subst cA;obtain⟨its,r,pl,bx⟩:=I.tuple hx;have hlen:=r.length;exact truthy_tuple pl (by simp only[List.size_toArray];omega) ⟨H,I.tok _,by rw[GB r];exact q⟩
  ·subst cA;obtain⟨bx,e7,vs,r,m⟩:aT.length≤sizeLine∧(p==sysModules)=false∧∃vs,fo aT vs∧s.heap.DictOf (iF X.prog X.w) p vs:=I.bM p _ hx;have hlen:aT.length=vs.length:=Paired.length r;exact wpAny_truthy_dict e7 m (by omega) ⟨H,I.tok _,by rw[PV r];exact q⟩
 |_=>exact(show False from e).elim
theorem SJ:dp X (binaryOp .Add) (fun x y H Q=>∃i j,x=.str i∧y=.str j∧i.length+j.length≤sizeLine∧Q (.str (i++j)) H):=by intro pins s σ H x y v u Q I bt bX h;obtain⟨i,j,rfl,rfl,bx,q⟩:=h;obtain⟨t,rfl⟩:=bt;obtain⟨t',rfl⟩:=bX;exact add_str (fun t' dv=>⟨.str (i++j),H,I.tok _,⟨_,rfl⟩,q⟩) bx
theorem vals1{x:V}{us:List Value}(r:Vals [x] us):∃u,us=[u]∧RelV x u:=by
 cases r with
 |cons av bg=>cases bg;exact⟨_,rfl,av⟩
theorem vals2{x y:V}{us:List Value}(r:Vals [x,y] us):∃u eZ,us=[u,eZ]∧RelV x u∧RelV y eZ:=by
 cases r with
 |cons av bg=>
  cases bg with
  |cons dU pA=>cases pA;exact⟨_,_,rfl,av,dU⟩
theorem Ls(hc:X.calm=true):hR X (.builtin "min") (fun xs H Q=>∃i j,xs=[.int i,.int j]∧Q (.int (if j<i then j else i)) H):=by
 intro pins s σ H xs us Q I r h;obtain⟨i,j,rfl,q⟩:=h;obtain⟨u,eZ,rfl,⟨t,rfl⟩,⟨t',rfl⟩⟩:=vals2 r;refine min_two_ints (I.ok.hd hc) fun h' dv k=>⟨_,H,I.kept k,?_,q⟩;by_cases cF:j<i
 ·rw[if_pos cF,if_pos cF];exact⟨_,rfl⟩
 ·rw[if_neg cF,if_neg cF];exact⟨_,rfl⟩
theorem Ln:hR X (.type "int") (fun xs H Q=>(∃i,xs=[.int i]∧Q (.int i) H)∨∃k,xs=[.aD k]∧Q (.int (if k then 1 else 0)) H):=by
 intro pins s σ H xs us Q I r h;rcases h with⟨i,rfl,q⟩|⟨k,rfl,q⟩
 ·obtain⟨u,rfl,t,rfl⟩:=vals1 r;exact call_int_int ⟨.int i,H,I,⟨_,rfl⟩,q⟩
 ·obtain⟨u,rfl,av⟩:=vals1 r;cases av;exact call_int_bool ⟨.int (if k then 1 else 0),H,I.tok _,⟨_,rfl⟩,q⟩
theorem Lu:hR X (.type "str") (fun xs H Q=>∃i,xs=[.int i]∧i.natAbs.log2<1920∧Q (.str (toString i)) H):=by intro pins s σ H xs us Q I r h;obtain⟨i,rfl,bx,q⟩:=h;obtain⟨u,rfl,t,rfl⟩:=vals1 r;exact PySem.P.str_of_int bx ⟨.str _,H,I.tok _,⟨_,rfl⟩,q⟩
noncomputable def Dk(K:PySem.W.Frag)(x:V)(H:ah)(n:Nat):Prop:=
 match x with
 |.str y=>y.length≤sizeLine∧n=y.length
 |.lp y=>y.size≤sizeLine∧n=y.size
 |.ref p=>(∃xs,bS K H p xs∧n=xs.length)∨∃xs,cv K H p xs∧n=xs.length
 |_=>False
theorem Lq:hR X (.builtin "len") (fun xs H Q=>∃x n,xs=[x]∧Dk X.K x H n∧Q (.int n) H):=by
 intro pins s σ H xs us Q I r h;obtain⟨x,n,rfl,e,q⟩:=h;obtain⟨u,rfl,bt⟩:=vals1 r;have hl:=qM;have hs:sizeLine=16777216:=sizeLine_eq;cases x with
 |str y=>obtain⟨t,rfl⟩:=bt;obtain⟨cK,cA⟩:y.length≤sizeLine∧n=y.length:=e;subst cA;exact len_str (by omega) ⟨.int _,H,I.tok _,⟨_,rfl⟩,q⟩
 |lp y=>obtain⟨t,rfl⟩:=bt;obtain⟨cK,cA⟩:y.size≤sizeLine∧n=y.size:=e;subst cA;exact PySem.W.len_bytes (by omega) ⟨.int _,H,I.tok _,⟨_,rfl⟩,q⟩
 |ref p=>
  cases bt;have cA:(∃xs,bS X.K H p xs∧n=xs.length)∨∃xs,cv X.K H p xs∧n=xs.length:=e;rcases cA with⟨xs,hx,cA⟩|⟨xs,hx,cA⟩
  ·subst cA;obtain⟨its,br,pl,bx⟩:=I.list hx;have hlen:=br.length;exact Calls.call_len_list pl.isList (by simp only[List.size_toArray];omega) ⟨.int xs.length,H,I.tok _,⟨_,by simp only[List.size_toArray];rw[hlen]⟩,q⟩
  ·subst cA;obtain⟨its,br,pl,bx⟩:=I.tuple hx;have hlen:=br.length;exact len_tuple pl (by simp only[List.size_toArray];omega) ⟨.int xs.length,H,I.tok _,⟨_,by simp only[List.size_toArray];rw[hlen]⟩,q⟩
 |_=>exact(show False from e).elim
end
structure og(h:Heap)(x a0 C:Addr)(dY:Str→Option Value):Prop where
 obj:h.get? x=some (PySem.W.instObj C a0)
 ns:h.Ns1 a0 dY
 ne:a0≠x
theorem Rl{h:Heap}{a0:Addr}{dY:Str→Option Value}(n:h.Ns1 a0 dY):∃dT,h.get? a0=some dT∧∀name,PySem.W.lookIn name dT=some (dY name):=by
 obtain⟨o,ag,du,ho,hd,hk,_,hm⟩:=n;refine⟨o,ho,fun name=>?_⟩;have e:=hm name;unfold nsFind findBy at e;rw[←Array.find?_toList]at e;unfold PySem.W.lookIn;rw[hd];dsimp only
 split
 ·rename_i y q;rw[q]at e;exact congrArg some e
 ·rename_i q;rw[q]at e;have a:ag.toList.any (·.refKey)=false:=by
   rw[List.any_eq_false];intro y cK;obtain⟨z,t,Od⟩:=hk y (Array.mem_toList_iff.mp cK);simp[DictEntry.refKey,Od]
  have m3:¬ag.toList.any (·.refKey)=true:=by rw[a];exact Bool.false_ne_true
  rw[if_neg m3];exact congrArg some e
theorem og.look{h:Heap}{x a0 C:Addr}{dY:Str→Option Value}(I:og h x a0 C dY):∃dT,PySem.W.InstAt h x (PySem.W.instObj C a0) C (some dT)∧∀name,PySem.W.lookIn name dT=some (dY name):=
 let⟨dT,ho,hl⟩:=Rl I.ns
 ⟨dT,⟨I.obj,rfl,rfl,ho⟩,hl⟩
section
variable{prog:Program}{w:World}{A:Around}{E:Value→Shared→Prop}{s:Shared}{K:PySem.W.Frag}{x a0 C f:Addr}{dY:Str→Option Value}{name:Str}{v:Value}
theorem get_map{expr:Bool}{Q:Value→Shared→Prop}(X:K.In s.heap)(I:og s.heap x a0 C dY)(hg:PySem.W.plainGet K C name=true)(hh:PySem.W.hasDictIn K C=true)(ha:PySem.W.findIn K (.ref C) name=some none)(hv:dY name=some v)(OC:PySem.W.handedIn v=true)(h:Q v { s with toks:=s.toks+1 }) :
  wpAny (model prog w) A (getAttr (.ref x) name expr) Q E s:=by
 obtain⟨dT,cV,hl⟩:=I.look;exact PySem.W.get_value X cV (PySem.W.plainGet_of hg).1 (PySem.W.findObj_own hh ha rfl (by rw[hl,hv])) OC h
theorem NH{pl:Sem Bool}{Q:Value×List Value→Shared→Prop}(X:K.In s.heap)(I:og s.heap x a0 C dY)(hg:PySem.W.plainGet K C name=true)(hf:PySem.W.findIn K (.ref C) name=some (some (.ref f)))(ht:PySem.W.isFn K (.ref f)=true)(hv:dY name=none)(h:Q (.ref f,[.ref x]) s) :
  wpAny (model prog w) A (getMethod (.ref x) name pl) Q E s:=by
 obtain⟨dT,cV,hl⟩:=I.look;exact PySem.W.method_fn X cV (PySem.W.plainGet_of hg).1 (PySem.W.plainGet_of hg).2 hf (beq_iff_eq.mp ht) (by show(PySem.W.lookIn name dT).map (·.isSome)=some false;rw[hl,hv];rfl) h
theorem VI{ns:List Str}{Q:Unit→Shared→Prop}(X:K.In s.heap)(I:og s.heap x a0 C dY)(hs:PySem.W.findIn K (.ref C) "__setattr__"=some (some (.builtin "object.__setattr__")))(hp:PySem.W.plainOver K C=true)(ht:PySem.W.takerIn K C name=some none)(hh:PySem.W.hasDictIn K C=true)(hw:PySem.Within dY ns)(hsz:ns.length≤sizeLine)(h:∀h',og h' x a0 C (fun y=>if y=name then some v else dY y)→Heap.SameBut a0 s.heap h'→Q () { s with heap:=h',toks:=s.toks+2 }) :
  wpAny (model prog w) A (setAttr (.ref x) name v) Q E s:=by
 obtain⟨dT,cV,hl⟩:=I.look;refine PySem.W.set_plain X cV hs (PySem.W.osa_open (s:={ s with toks:=s.toks+1 }) (r:=none) X cV hp ht fun b=>?_);obtain⟨cd,hc,jK⟩:=PySem.W.any_some hh;have hx:s.heap.get? x=some ⟨.ref C,some a0,.plain,#[]⟩:=I.obj;refine wpAny_bind (wpAny_pure (wpAny_bind (wpAny_bind (wpAny_loadPart hx (wpAny_bind (PySem.W.Looks.here (s:={ s with toks:=s.toks+1 }) (PySem.W.looks_clsIn X hc) ?_))))));rw[jK];refine wpAny_pure (a:=some a0) (wpAny_bind (wpAny_pure (wpAny_bind ?_)));refine wpAny_nsSet1 (s:={ s with toks:=s.toks+1 }) I.ns fun h' oM hs2=>?_;obtain⟨ZQ,Y2,Y0,Oq,N1,NX⟩:=oM.count (PySem.Within.cons name v hw);refine wpAny_bind (wpAny_lookBehind Oq (by rw[N1];exact pastItsLine_dict (Nat.le_trans NX (by rw[List.length_cons];omega))) ?_);exact wpAny_pure (h _ ⟨(hs2.2 _ (Ne.symm I.ne)).trans I.obj,oM,I.ne⟩ hs2)
theorem RA {R:Result→Shared→Prop} {vs:List Value} {kw:List (Str×Value)} (X:K.In s.heap) (hm:PySem.W.makesIn K C=true)(hi:PySem.W.findIn K (.ref C) "__init__"=some (some (.ref f))) (hf:PySem.W.typeIn K (.ref f)=some (.type "function"))(h:codeAny (model prog w) (A.under (.builtin "type.__call__" ⟨.ref C::vs,kw⟩)) (.call (.ref f) ⟨.ref (s.heap.objs.size+1)::vs,kw⟩) (PySem.W.InitBack (s.heap.objs.size+1) R)
    { s with heap:=(s.heap.push PySem.W.emptyDict).push (PySem.W.instObj C s.heap.objs.size) }) :
  codeAny (model prog w) A (.call (.ref C) ⟨vs,kw⟩) R s:=by
 obtain⟨hh,g,d,t,os⟩:=s;exact PySem.W.make_core (PySem.W.makes_of X hm) (PySem.W.looks_findIn X hi) (fun self=>PySem.W.bind_fn X self hf) (.inl rfl) h
end
noncomputable def g8(f:Str)(v:V):List (Str×V)→List (Str×V)
 |[]=>[(f,v)]
 |(g,x)::r=>if g=f then(g,v)::r else(g,x)::g8 f v r
theorem Hd(f g:Str)(v:V):∀aV:List (Str×V),(g8 f v aV).lookup g=if g=f then some v else aV.lookup g
 |[]=>by
  show List.lookup g [(f,v)]=_;by_cases h:g=f
  ·have hb:(g==f)=true:=beq_iff_eq.mpr h;simp only[List.lookup,hb,if_pos h]
  ·have hb:(g==f)=false:=beq_eq_false_iff_ne.mpr h;simp only[List.lookup,hb,if_neg h]
 |(k,x)::r=>by
  have b6:=Hd f g v r;rw[show g8 f v ((k,x)::r)=(if k=f then(k,v)::r else(k,x)::g8 f v r)from rfl];by_cases hk:k=f
  ·rw[if_pos hk];by_cases h:g=k
   ·have hb:(g==k)=true:=beq_iff_eq.mpr h;simp only[List.lookup,hb,if_pos (h.trans hk)]
   ·have hb:(g==k)=false:=beq_eq_false_iff_ne.mpr h;simp only[List.lookup,hb,if_neg (fun e:g=f=>h (e.trans hk.symm))]
  ·rw[if_neg hk];by_cases h:g=k
   ·have hb:(g==k)=true:=beq_iff_eq.mpr h;simp only[List.lookup,hb,if_neg (fun e:g=f=>hk (h.symm.trans e))]
   ·have hb:(g==k)=false:=beq_eq_false_iff_ne.mpr h;simp only[List.lookup,hb];exact b6
theorem z8(f:Str)(v:V):∀aV:List (Str×V),f∈(g8 f v aV).map (·.1)∧∀g,g∈aV.map (·.1)→g∈(g8 f v aV).map (·.1)
 |[]=>⟨by simp[g8],fun g h=>by simp at h⟩
 |(k,x)::r=>by
  obtain⟨bJ,bN⟩:=z8 f v r;rw[show g8 f v ((k,x)::r)=(if k=f then(k,v)::r else(k,x)::g8 f v r)from rfl];by_cases hk:k=f
  ·rw[if_pos hk];subst hk;exact⟨by simp,fun g h=>by simpa using h⟩
  ·rw[if_neg hk];refine⟨?_,fun g h=>?_⟩
   ·rw[List.map_cons];exact List.mem_cons_of_mem _ bJ
   ·rw[List.map_cons]at h ⊢;rcases List.mem_cons.mp h with e|e
    ·exact List.mem_cons.mpr (.inl e)
    ·exact List.mem_cons_of_mem _ (bN g e)
theorem G9(f:Str)(v:V):∀aV:List (Str×V),(g8 f v aV).length≤aV.length+1
 |[]=>by simp[g8]
 |(k,x)::r=>by
  have b6:=G9 f v r;rw[show g8 f v ((k,x)::r)=(if k=f then(k,v)::r else(k,x)::g8 f v r)from rfl];by_cases hk:k=f
  ·rw[if_pos hk,List.length_cons,List.length_cons];omega
  ·rw[if_neg hk,List.length_cons,List.length_cons];omega
theorem hz.some_of{v:V}{o:Option Value}(r:hz (some v) o):∃u,o=some u∧RelV v u:=by
 cases o with
 |none=>exact(show False from r).elim
 |some u=>exact⟨u,rfl,r⟩
theorem hz.none_of{o:Option Value}(r:hz none o):o=none:=by
 cases o with
 |none=>rfl
 |some u=>exact(show False from r).elim
theorem NP{v:V}{u:Value}(r:RelV v u):PySem.W.handedIn u=true:=by
 cases v with
 |non=>cases(show u=Value.none from r);rfl
 |aD b=>cases(show u=Value.bool b from r);rfl
 |int i=>obtain⟨t,e⟩:=(show ∃t,u=Value.int i t from r);cases e;rfl
 |str x=>obtain⟨t,e⟩:=(show ∃t,u=Value.str x t from r);cases e;rfl
 |lp b=>obtain⟨t,e⟩:=(show ∃t,u=Value.bytes b t from r);cases e;rfl
 |vb b=>obtain⟨t,e⟩:=(show ∃t,u=Value.float b t from r);cases e;rfl
 |ref a=>cases(show u=Value.ref a from r);rfl
 |ty n=>cases(show u=Value.type n from r);rfl
section
variable{P:Program}{w:World}{H H':ah}{h h':Heap}{a C a0:Addr}{aV FK:List (Str×V)}
theorem zZ(bM:ez P w H h)(e:H a=some (.ins C a0 aV)):∃dY,og h a a0 C dY∧(∀f,hz (aV.lookup f) (dY f))∧PySem.Within dY (aV.map (·.1))∧aV.length≤1000∧H a0=some (.own a):=by obtain⟨d,z,ne,aR,dY,n,r,q⟩:=(show fz P w H h a (.ins C a0 aV)from bM a _ e);exact⟨dY,⟨aR,n,ne⟩,r,q,z,d⟩
end
structure jx(K:PySem.W.Frag)(C:Addr):Prop where
 Tz:PySem.W.plainGet K C Str.empty=true
 hd:PySem.W.hasDictIn K C=true
 po:PySem.W.plainOver K C=true
 mz:PySem.W.findIn K (.ref C) "__setattr__"=some (some (.builtin "object.__setattr__"))
theorem jx.get{K:PySem.W.Frag}{C:Addr}(c:jx K C)(f:Str):PySem.W.plainGet K C f=true:=c.Tz
def oc(K:PySem.W.Frag)(C:Addr)(f:Str):Prop:=PySem.W.findIn K (.ref C) f=some none
theorem oc.WW{K:PySem.W.Frag}{C:Addr}{f:Str}(n:oc K C f):PySem.W.takerIn K C f=some none:=by unfold PySem.W.takerIn;rw[show PySem.W.findIn K (.ref C) f=some none from n];rfl
structure Meth(K:PySem.W.Frag)(C:Addr)(m:Str)(f:Addr):Prop where
 at_:PySem.W.findIn K (.ref C) m=some (some (.ref f))
 fn:PySem.W.isFn K (.ref f)=true
 aL:PySem.W.keepIn K (.ref f)=true
section
variable{X:aK}{pins:List (Addr×Obj)}{σ :St}{H:ah}{s:Shared}{a C a0:Addr}{aV:List (Str×V)}{f:Str}{v:V}{A:Around}{E:Value→Shared→Prop}
theorem NI{b:Bool}{Q:Value→Shared→Prop}(I:Inv X pins σ H s)(e:H a=some (.ins C a0 aV))(c:jx X.K C)(n:oc X.K C f)(l:aV.lookup f=some v)(h:∀u s',Inv X pins σ H s'→RelV v u→Q u s'):wpAny (model X.prog X.w) A (getAttr (.ref a) f b) Q E s:=by obtain⟨dY,O,r,_,_,_⟩:=zZ I.bM e;obtain⟨u,hu,ef⟩:=hz.some_of (v:=v) (o:=dY f) (by rw[←l];exact r f);exact get_map I.fT O (c.get f) c.hd n hu (NP ef) (h u _ (I.tok _) ef)
theorem FT{m:Str}{g:Addr}{pl:Sem Bool}{Q:Value×List Value→Shared→Prop}(I:Inv X pins σ H s)(e:H a=some (.ins C a0 aV))(c:jx X.K C)(k:Meth X.K C m g)(l:aV.lookup m=none)(h:Q (.ref g,[.ref a]) s):wpAny (model X.prog X.w) A (getMethod (.ref a) m pl) Q E s:=by obtain⟨dY,O,r,_,_,_⟩:=zZ I.bM e;have aJ:dY m=none:=hz.none_of (by rw[←l];exact r m);exact NH I.fT O (c.get m) k.at_ k.fn aJ h
theorem VJ{y:V}{u:Value}{Q:Unit→Shared→Prop}(I:Inv X pins σ H s)(e:H a=some (.ins C a0 aV))(c:jx X.K C)(n:oc X.K C f)(hl:aV.length<1000)(bX:RelV y u)(h:∀s',Inv X pins σ (upd H a (.ins C a0 (g8 f y aV))) s'→Q () s'):wpAny (model X.prog X.w) A (setAttr (.ref a) f u) Q E s:=by
 obtain⟨dY,O,r,iI,_,ho⟩:=zZ I.bM e;have bx:(aV.map (·.1)).length≤sizeLine:=by rw[List.length_map,sizeLine_eq];omega
 refine VI I.fT O c.mz c.po n.WW c.hd iI bx fun h' xO kW=>h _ ?_;have hd:∃o,h'.get? a0=some o:=let⟨o,_,_,cA,_⟩:=xO.ns;⟨o,cA⟩
 refine I.write (x:=a) (e:=a0) (by rw[e];exact True.intro) (.inr ho) (fun b q hb z=>(kW.2 b hb).trans z) hd ?_;refine⟨by rw[dr O.ne];exact ho,?_,O.ne,xO.obj,_,xO.ns,fun g=>?_,fun g hg=>?_⟩
 ·have:=G9 f y aV;omega
 ·show hz ((g8 f y aV).lookup g) (if g=f then some u else dY g);rw[Hd];by_cases q:g=f
  ·rw[if_pos q,if_pos q];exact bX
  ·rw[if_neg q,if_neg q];exact r g
 ·by_cases q:g=f
  ·rw[q];exact(z8 f y aV).1
  ·refine(z8 f y aV).2 g (iI g fun z=>hg ?_);show(if g=f then some u else dY g)=none;rw[if_neg q];exact z
theorem Inv.made(I:Inv X pins σ H s):Inv X pins σ (upd (upd H s.heap.objs.size (.own (s.heap.objs.size+1))) (s.heap.objs.size+1) (.ins C s.heap.objs.size []))
  { s with heap:=(s.heap.push PySem.W.emptyDict).push (PySem.W.instObj C s.heap.objs.size) }:=by
 have aj:(s.heap.push PySem.W.emptyDict).get? s.heap.objs.size=some PySem.W.emptyDict:=Heap.get?_push_size s.heap rfl;have ax:((s.heap.push PySem.W.emptyDict).push (PySem.W.instObj C s.heap.objs.size)).get? (s.heap.objs.size+1)=some (PySem.W.instObj C s.heap.objs.size):=by
  have:=Heap.get?_push_size (s.heap.push PySem.W.emptyDict) (o:=PySem.W.instObj C s.heap.objs.size) rfl
  rwa [Heap.size_push]at this
 have bE:(s.heap.push PySem.W.emptyDict).Ns s.heap.objs.size (fun _=>none):=⟨PySem.W.emptyDict,#[],_,aj,rfl,(fun e he=>absurd he (by simp)),fun _=>rfl⟩;have a5:=I.laid (a:=s.heap.objs.size) (o:=.own (s.heap.objs.size+1)) (h':=s.heap.push PySem.W.emptyDict) (t':=s.toks) (fun b u q=>Heap.get?_push_of_some _ q) (Nat.le_refl _) ⟨_,aj⟩;refine a5.laid (a:=s.heap.objs.size+1) (o:=.ins C s.heap.objs.size []) (t':=s.toks) (fun b u q=>Heap.get?_push_of_some _ q) (Nat.le_of_eq (Heap.size_push _ _)) ?_;have ne:s.heap.objs.size≠s.heap.objs.size+1:=Nat.ne_of_lt (Nat.lt_succ_self _);refine⟨by rw[dr ne,dA],Nat.zero_le _,ne,ax,fun _=>none,(Heap.Ns1.of_empty bE).at fun o q=>Heap.get?_push_of_some _ q,fun _=>True.intro,fun y cK=>absurd rfl cK⟩
theorem K9{prog:Program}{w:World}{env:Env}{e:Expr}{f:Str}{pos:Pos}{s:Shared}{Q:Value→Shared→Prop}(hb:attributeBase e f env (eval e env)=eval e env)(h:wpAny (model prog w) A (eval e env) (fun o c2=>wpAny (model prog w) A (getAttr o f true) Q E c2) E s):wpAny (model prog w) A (eval (.Attribute e f pos) env) Q E s:=
 Attribute_any_ h (by rw[arm_eval_Attribute,hb])
end
noncomputable def Wn(K:PySem.W.Frag)(cb:TE)(f:Str):TE:=fun σ H Q=>cb σ H fun x H1=>∃a C a0 aV v,x=.ref a∧H1 a=some (.ins C a0 aV)∧jx K C∧oc K C f∧aV.lookup f=some v∧Q v H1
noncomputable def UO(K:PySem.W.Frag)(cb mG:TE)(f:Str):eB:=fun D σ H=>mG σ H fun y H1=>cb σ H1 fun x aM=>∃a C a0 aV,x=.ref a∧aM a=some (.ins C a0 aV)∧jx K C∧oc K C f∧aV.length<1000∧
 D.bj σ (upd aM a (.ins C a0 (g8 f y aV)))
section
variable{X:aK}{o e value:Expr}{f:Str}{pos pos' rJ:Pos}{cb mG:TE}
theorem Tn(he:a3 X e cb)(hb:attributeBase e f X.env (eval e X.env)=eval e X.env):a3 X (.Attribute e f pos) (Wn X.K cb f):=by intro pins s σ H Q I h;refine K9 hb (bI (he pins s σ H _ I h) fun u s1⟨x,H1,a5,bt,a,C,a0,aV,v,ex,ar,c,n,l,q⟩=>?_);subst ex;obtain rfl:u=Value.ref a:=bt;exact NI a5 ar c n l fun iH s2 cc ef=>⟨v,H1,cc,ef,q⟩
theorem T2(ha:a3 X o cb)(hv:a3 X value mG)(hs:swapsWith value (some (.Attribute o f pos')) pos.line X.env=pure false):cU X (.Assign [.Attribute o f pos'] value pos) (UO X.K cb mG f):=by intro pins s σ H D I h;refine plainObj_wpAny_Assign_Attribute (bI (hv pins s σ H _ I h) fun u s1⟨y,H1,a5,bX,q⟩=>bI (ha pins s1 σ H1 _ a5 q) fun dK s2⟨x,aM,cc,bt,a,C,a0,aV,ex,ar,c,n,l,bA⟩=>?_) hs;subst ex;obtain rfl:dK=Value.ref a:=bt;exact VJ cc ar c n l bX fun s3 dS=>⟨σ,_,dS,bA⟩
theorem ZJ {pl:Sem Bool} {m:Str} {apos:Pos} {args:List Expr} {pins:List (Addr×Obj)} {s:Shared} {σ :St} {H:ah} {Q:Value→Shared→Prop} {dO:TE} (he:a3 X e dO) (I:Inv X pins σ H s)(h:dO σ H fun x H1=>∃a C a0 aV g,x=.ref a∧H1 a=some (.ins C a0 aV)∧jx X.K C∧Meth X.K C m g∧aV.lookup m=none∧
    ∀s1,Inv X pins σ H1 s1→wpAny (model X.prog X.w) X.A (callWith pos (.ref g) [.ref a] (backTo pos (starEach args X.env)) (backToKw pos (keywordEach [] X.env))) Q X.xe s1)
  (ht:eval (.Call (.Attribute e m apos) args [] pos) X.env=(do
    let dK ←eval e X.env
    standAt apos.atName
    let(f,first) ←holding [dK] (getMethod dK m pl)
    callWith pos f first (backTo pos (starEach args X.env)) (backToKw pos (keywordEach [] X.env)))) :
  wpAny (model X.prog X.w) X.A (eval (.Call (.Attribute e m apos) args [] pos) X.env) Q X.xe s:=by
 refine PySem.W.methodCall_KW (pl:=pl) (bI (he pins s σ H _ I h) fun u s1⟨x,H1,a5,bt,a,C,a0,aV,g,ex,ar,c,k,l,q⟩=>?_) ht;subst ex;obtain rfl:u=Value.ref a:=bt;exact FT a5 ar c k l (q s1 a5)
end
section
variable{X:aK}{pins:List (Addr×Obj)}{σ :St}{H:ah}{s:Shared}{A:Around}{E:Value→Shared→Prop}{Q:Value→Shared→Prop}{c:Value}{b:Bool}
end
structure dE(k:Nat)(A:Around):Prop where
 hd:A.handled=none
 u0:A.depth+3*k+5<recursionLimit
 un:A.units+16*k+200<cLine
theorem dE.mono{j k:Nat}{A:Around}(r:dE k A)(h:j≤k):dE j A:=⟨r.hd,by have:=r.u0;omega,by have:=r.un;omega⟩
theorem dE.deeper{k:Nat}{A:Around}(r:dE (k+1) A)(env:Env):dE k (A.deeper env):=
 ⟨r.hd,by have:=r.u0;show A.depth+1+3*k+5<_;omega,by have:=r.un;show A.units+3+16*k+200<_;omega⟩
theorem Rz{A:Around}{C:Addr}{us:List Value}{kw:List (Str×Value)}:(A.under (.builtin "type.__call__" ⟨.ref C::us,kw⟩)).depth=A.depth+1:=by
 first|rfl|simp[Around.under,Code.weight,Code.isCreation,Code.isGuard,Code.isCaller,Code.frames,Code.isFrame,guardIds]
theorem RB{A:Around}{C:Addr}{us:List Value}{kw:List (Str×Value)}:(A.under (.builtin "type.__call__" ⟨.ref C::us,kw⟩)).units=A.units+1:=by
 first|rfl|simp[Around.under,Code.cUnits,Code.frames,Code.isFrame]
theorem dE.make{k:Nat}{A:Around}(r:dE (k+1) A)(C:Addr)(us:List Value)(kw:List (Str×Value)):dE k (A.under (.builtin "type.__call__" ⟨.ref C::us,kw⟩)):=
 ⟨r.hd,by have:=r.u0;rw[Rz];omega,by have:=r.un;rw[RB];omega⟩
theorem dE.depth{k:Nat}{A:Around}(r:dE k A):A.depth<recursionLimit:=by have:=r.u0;omega
theorem dE.units{k:Nat}{A:Around}(r:dE k A):A.units+64<cLine:=by have:=r.un;omega
def Ck:es:=fun _ H Q=>Q [] H
def Ce(cb:TE)(bG:es):es:=fun σ H Q=>cb σ H fun x H1=>bG σ H1 fun xs aM=>Q (x::xs) aM
section
variable{X:aK}{e:Expr}{ag:List Expr}{dO:TE}{t:es}{pos:Pos}
theorem i3:eR X [] Ck:=fun _ _ _ _ H Q I h=>Calls.spliced_nil ⟨[],H,I,.nil,h⟩
theorem gb(ha:a3 X e dO)(hr:eR X ag t)(hs:starEach (e::ag) X.env=(false,eval e X.env)::starEach ag X.env:=by rfl):eR X (e::ag) (Ce dO t):=by intro pos pins s σ H Q I h;rw[hs];show wpAny _ _ (spliced ((false,eval e X.env)::backTo pos (starEach ag X.env))) _ _ s;refine Calls.spliced_cons (bI (ha pins s σ H _ I h) fun u s1⟨x,H1,a5,av,aY⟩=>?_);exact bI (hr pos pins s1 σ H1 _ a5 aY) fun us s2⟨xs,aM,cc,bg,bA⟩=>⟨x::xs,aM,cc,.cons av bg,bA⟩
noncomputable def Cp(t:es):TE:=fun σ H Q=>t σ H fun xs H1=>xs.length≤sizeLine∧∀p,H1 p=none→Q (.ref p) (upd H1 p (.tup xs))
noncomputable def Ci(t:es):TE:=fun σ H Q=>t σ H fun xs H1=>xs.length≤sizeLine∧∀p,H1 p=none→Q (.ref p) (upd H1 p (.lst xs))
theorem H4{ip}(h:eR X ag t):a3 X (.Tuple ag ip pos) (Cp t):=by intro pins s σ H Q I aO;refine wpAny_Tuple_spliced (bI (h pos pins s σ H _ I aO) fun us s1⟨xs,H1,a5,r,z,q⟩=>⟨by rw[←r.length];exact z,?_⟩);have hf:H1 s1.heap.objs.size=none:=a5.bM.fresh (Nat.le_refl _);refine⟨.ref s1.heap.objs.size,upd H1 s1.heap.objs.size (.tup xs),a5.laid (t':=s1.toks) (fun b u e=>Heap.get?_push_of_some _ e) (Nat.le_refl _) ?_,rfl,q _ hf⟩;exact⟨z,us,r,⟨_,Heap.get?_push_size _ rfl,rfl,_,rfl⟩⟩
theorem px(h:eR X ag t):a3 X (.List ag pos) (Ci t):=by intro pins s σ H Q I aO;refine wpAny_List_spliced (bI (h pos pins s σ H _ I aO) fun us s1⟨xs,H1,a5,r,z,q⟩=>⟨by rw[←r.length];exact z,?_⟩);have hf:H1 s1.heap.objs.size=none:=a5.bM.fresh (Nat.le_refl _);refine⟨.ref s1.heap.objs.size,upd H1 s1.heap.objs.size (.lst xs),a5.laid (t':=s1.toks) (fun b u e=>Heap.get?_push_of_some _ e) (Nat.le_refl _) ?_,rfl,q _ hf⟩;exact⟨z,us,0,r,Heap.get?_push_size _ rfl⟩
end
abbrev iP:=List V→ah→cI→dc→Prop
abbrev ks:=List Env→ah→Shared→dc→Value→Shared→Prop
structure oa(P:Program)(w:World)(K:PySem.W.Frag)(mg:Str→Option Value)(base:Heap)(A:Around)(outer:List Env)(s:Shared)(H:ah):Prop where
 frames:A.frames=some outer
 mod:Mod K mg base
 bs:∀b o,base.get? b=some o→s.heap.get? b=some o∧H b=none
 m5:base.objs.size≤s.heap.objs.size
 j_:s.heap.FunFrames base outer
 oI:∀b∈j7 outer,H b=none
 bM:ez P w H s.heap
 bare:AllBare s.gens
noncomputable def xB(outer:List Env)(P:Program)(w:World)(H:ah)(s:Shared)(Q:cI)(u:Value)(s':Shared):Prop:=
 ∃v H',s'.os=s.os∧AllBare s'.gens∧e4 (j7 outer) [] H H' s.heap s'.heap∧ez P w H' s'.heap∧RelV v u∧Q v H'
noncomputable def Kq(CX:ks)(outer:List Env)(P:Program)(w:World)(H:ah)(s:Shared)(Q:cI)(E:dc)(r:Result)(s':Shared):Prop:=
 match r with
 |.ok (.ret u)=>xB outer P w H s Q u s'
 |.ok _=>False
 |.error e=>CX outer H s E e s'
structure hT(P:Program)(w:World)(K:PySem.W.Frag)(mg:Str→Option Value)(base:Heap)(CX:ks)(k:Nat)(f:Addr)(fd:FuncData)(aU:List Str)(sp:iP):Prop where
 len:∀vs H Q E,sp vs H Q E→vs.length=aU.length
 run:∀(A:Around)(outer:List Env)(s:Shared)(H:ah)(args:Args)(us:List Value)(vs:List V)(Q:cI)(E:dc),dE k A→oa P w K mg base A outer s H→BindsTo s fd args (aU.zip us)→Vals vs us→sp vs H Q E→
  codeAny (model P w) A (.call (.ref f) args) (Kq CX outer P w H s Q E) s
theorem oa.make{P:Program}{w:World}{K:PySem.W.Frag}{mg:Str→Option Value}{base:Heap}{A:Around}{outer:List Env}{s:Shared}{H:ah}(e:oa P w K mg base A outer s H)(C:Addr)(us:List Value)(kw:List (Str×Value)) :
  oa P w K mg base (A.under (.builtin "type.__call__" ⟨.ref C::us,kw⟩)) outer s H:=⟨by first|exact e.frames|(simpa[Around.under,Code.envs,Code.isFrame,pushEnvs]using e.frames),e.mod,e.bs,e.m5,e.j_,e.oI,e.bM,e.bare⟩
section
variable{X:aK}{pins:List (Addr×Obj)}{σ :St}{H:ah}{s s':Shared}
theorem Inv.EB(I:Inv X pins σ H s):oa X.prog X.w X.K X.mg X.base X.A X.stack s H:=
 ⟨I.ok.frames,I.ok.mod,I.bs,Nat.le_trans I.ok.m5 I.pJ,I.stack,I.I9,I.bM,I.bare⟩
theorem Inv.after{Q:cI}{u:Value}(I:Inv X pins σ H s)(h:xB X.stack X.prog X.w H s Q u s'):gm X pins σ Q u s':=by obtain⟨v,H',os,bare,un,bM,r,q⟩:=h;obtain⟨hh,g,d,t,S1⟩:=s';obtain rfl:S1=s.os:=os;exact⟨v,H',I.call (h':=hh) (g':=g) (d':=d) (t':=t) (ch:=[]) un bM bare (fun b z=>absurd z (by simp)),r,q⟩
end
def w3(sp:iP)(gV:List V)(E:dc)(t:es):TE:=fun σ H Q=>t σ H fun vs H1=>sp (vs++gV) H1 Q E
noncomputable def Jr(C:Addr)(m:Str)(sp:iP)(gV:List V)(E:dc)(cb:TE)(t:es):TE:=fun σ H Q=>cb σ H fun x H1=>∃a a0 aV,x=.ref a∧H1 a=some (.ins C a0 aV)∧aV.lookup m=none∧
 t σ H1 fun vs aM=>sp (x::(vs++gV)) aM Q E
noncomputable def Jq(C:Addr)(sp:iP)(gV:List V)(E:dc)(t:es):TE:=fun σ H Q=>t σ H fun vs H1=>∀x a0,H1 x=none→H1 a0=none→a0≠x→
 sp (.ref x::(vs++gV)) (upd (upd H1 a0 (.own x)) x (.ins C a0 [])) (fun v aM=>v=.non∧Q (.ref x) aM) E
noncomputable def Binds(K:PySem.W.Frag)(fd:FuncData)(aU:List Str)(ds:List Value):Prop:=
 ∀(s:Shared)(us:List Value),K.In s.heap→(us++ds).length=aU.length→BindsTo s fd ⟨us,[]⟩ (aU.zip (us++ds))
theorem Binds.all{K:PySem.W.Frag}{fd:FuncData}{aU:List Str}(h:∀us:List Value,us.length=aU.length→bindArgs fd ⟨us,[]⟩=pure (aU.zip us)):Binds K fd aU []:=fun s us _ hl=>by rw[List.append_nil]at hl ⊢;exact .of_eq (h us hl)
noncomputable def Passes(CX:ks)(X:aK)(E:dc):Prop:=∀(pins:List (Addr×Obj))(σ :St)(H:ah)(s:Shared)(e:Value)(s':Shared),Inv X pins σ H s→CX X.stack H s E e s'→X.xe e s'
section
variable{X:aK}{CX:ks}{k:Nat}{f C:Addr}{fd:FuncData}{aU:List Str}{sp:iP}{gV:List V}{ds:List Value}{E:dc}{x m:Str}{p pos apos:Pos}{e o:Expr}{ag:List Expr}{cb:TE}{t:es}
theorem IF{pins:List (Addr×Obj)}{σ :St}{H:ah}{s:Shared}{Q:cI}{us:List Value}{vs:List V}(F:hT X.prog X.w X.K X.mg X.base CX k f fd aU sp)(hr:dE k X.A)(hb:Binds X.K fd aU ds)(hd:Vals gV ds)(hx:Passes CX X E)(I:Inv X pins σ H s)(r:Vals vs us)(h:sp (vs++gV) H Q E):wpAny (model X.prog X.w) X.A (call (.ref f) us) (gm X pins σ Q) X.xe s:=by
 have bg:Vals (vs++gV) (us++ds):=r.append hd;have hl:(us++ds).length=aU.length:=by rw[←bg.length];exact F.len _ _ _ _ h
 refine wpAny_call (codeAny_mono (F.run X.A X.stack s H ⟨us,[]⟩ (us++ds) (vs++gV) Q E hr I.EB (hb s us I.fT hl) bg h) fun r s' aO=>?_);cases r with
 |error e=>exact hx pins σ H s e s' I aO
 |ok j6=>
  cases j6 with
  |ret u=>exact I.after aO
  |next=>exact False.elim aO
  |brk=>exact False.elim aO
  |cont=>exact False.elim aO
theorem wA(F:hT X.prog X.w X.K X.mg X.base CX k f fd aU sp)(hr:dE k X.A)(hg:da X x)(hm:X.mg x=some (.ref f))(hk:PySem.W.keepIn X.K (.ref f)=true)(hb:Binds X.K fd aU ds)(hd:Vals gV ds)(hx:Passes CX X E)(ha:eR X (e::ag) t)(hdb:(x==("__debug__" :Str))=false:=by decide)(he:starEach (e::ag) X.env=(false,eval e X.env)::starEach ag X.env:=by rfl)(hpl:(backTo pos (starEach ag X.env)).any (·.1)=false:=by rfl) :
  a3 X (.Call (.Name x p) (e::ag) [] pos) (w3 sp gV E t):=by
 intro pins s σ H Q I h;refine wpAny_Call_Name_kw (Ac I hg hm ?_ hdb);refine PySem.W.callWith_K (h₀:=X.base) I.ok.mod.oX hk (bI (ha pos pins s σ H _ I h) fun us s1⟨vs,H1,a5,r,q⟩=>⟨a5.fT,?_⟩) he hpl;exact IF F hr hb hd hx a5 r q
theorem Tt {pl:Sem Bool} (he:a3 X o cb) (c:jx X.K C) (hm:Meth X.K C m f) (F:hT X.prog X.w X.K X.mg X.base CX k f fd aU sp) (hr:dE k X.A) (hb:Binds X.K fd aU ds) (hd:Vals gV ds) (hx:Passes CX X E) (ha:eR X (e::ag) t)(hst:starEach (e::ag) X.env=(false,eval e X.env)::starEach ag X.env:=by rfl) (hpl:(backTo pos (starEach ag X.env)).any (·.1)=false:=by rfl)(ht:eval (.Call (.Attribute o m apos) (e::ag) [] pos) X.env=(do
    let dK ←eval o X.env
    standAt apos.atName
    let(f,first) ←holding [dK] (getMethod dK m pl)
    callWith pos f first (backTo pos (starEach (e::ag) X.env)) (backToKw pos (keywordEach [] X.env))):=by rfl) :
  a3 X (.Call (.Attribute o m apos) (e::ag) [] pos) (Jr C m sp gV E cb t):=by
 intro pins s σ H Q I h;refine PySem.W.methodCall_KW (pl:=pl) (bI (he pins s σ H _ I h) fun u s1⟨x,H1,a5,bt,a,a0,aV,ex,ar,l,q⟩=>?_) ht;subst ex;obtain rfl:u=Value.ref a:=bt;refine FT a5 ar c hm l ?_;refine PySem.W.callWith_K (first:=[.ref a]) (h₀:=X.base) I.ok.mod.oX hm.aL (bI (ha pos pins s1 σ H1 _ a5 q) fun us s2⟨vs,aM,cc,r,bA⟩=>⟨cc.fT,?_⟩) hst hpl;exact IF (us:=.ref a::us) (vs:=.ref a::vs) F hr hb hd hx cc (.cons rfl r) bA
structure uq(K:PySem.W.Frag)(C f:Addr):Prop where
 makes:PySem.W.makesIn K C=true
 init:PySem.W.findIn K (.ref C) "__init__"=some (some (.ref f))
 fn:PySem.W.isFn K (.ref f)=true
 aL:PySem.W.keepIn K (.ref C)=true
theorem UK{pins:List (Addr×Obj)}{σ :St}{H:ah}{s:Shared}{Q:cI}{us:List Value}{vs:List V}(M:uq X.K C f)(F:hT X.prog X.w X.K X.mg X.base CX k f fd aU sp)(hr:dE (k+1) X.A)(hb:Binds X.K fd aU ds)(hd:Vals gV ds)(hx:Passes CX X E)(I:Inv X pins σ H s)(r:Vals vs us)(h:∀x a0,H x=none→H a0=none→a0≠x→sp (.ref x::(vs++gV)) (upd (upd H a0 (.own x)) x (.ins C a0 [])) (fun v aM=>v=.non∧Q (.ref x) aM) E) :
  wpAny (model X.prog X.w) X.A (call (.ref C) us) (gm X pins σ Q) X.xe s:=by
 have aO:=h (s.heap.objs.size+1) s.heap.objs.size (I.bM.fresh (Nat.le_succ _)) (I.bM.fresh (Nat.le_refl _)) (Nat.ne_of_lt (Nat.lt_succ_self _));have cc:=Inv.made (C:=C) I;have bg:Vals (V.ref (s.heap.objs.size+1)::(vs++gV)) (Value.ref (s.heap.objs.size+1)::(us++ds)):=.cons rfl (r.append hd);have hl:(Value.ref (s.heap.objs.size+1)::us++ds).length=aU.length:=by have e:=bg.length;rw[F.len _ _ _ _ aO]at e;exact e.symm
 refine wpAny_call (RA (f:=f) I.fT M.makes M.init (beq_iff_eq.mp M.fn) (codeAny_mono (F.run _ X.stack _ _ ⟨Value.ref (s.heap.objs.size+1)::us,[]⟩ (Value.ref (s.heap.objs.size+1)::(us++ds)) _ _ E (hr.make C us [])
  (cc.EB.make C us []) (hb _ (Value.ref (s.heap.objs.size+1)::us) cc.fT hl) bg aO) fun r s' nk=>?_))
 cases r with
 |error e=>exact hx pins σ _ _ e s' cc nk
 |ok j6=>
  cases j6 with
  |ret u=>obtain⟨v,H',dS,b0,ev,en⟩:=cc.after nk;subst ev;exact⟨b0,⟨V.ref (s.heap.objs.size+1),H',dS,rfl,en⟩⟩
  |next=>exact False.elim nk
  |brk=>exact False.elim nk
  |cont=>exact False.elim nk
theorem Ts(M:uq X.K C f)(F:hT X.prog X.w X.K X.mg X.base CX k f fd aU sp)(hr:dE (k+1) X.A)(hg:da X x)(hm:X.mg x=some (.ref C))(hb:Binds X.K fd aU ds)(hd:Vals gV ds)(hx:Passes CX X E)(ha:eR X (e::ag) t)(hdb:(x==("__debug__" :Str))=false:=by decide)(he:starEach (e::ag) X.env=(false,eval e X.env)::starEach ag X.env:=by rfl)(hpl:(backTo pos (starEach ag X.env)).any (·.1)=false:=by rfl) :
  a3 X (.Call (.Name x p) (e::ag) [] pos) (Jq C sp gV E t):=by
 intro pins s σ H Q I h;refine wpAny_Call_Name_kw (Ac I hg hm ?_ hdb);refine PySem.W.callWith_K (h₀:=X.base) I.ok.mod.oX M.aL (bI (ha pos pins s σ H _ I h) fun us s1⟨vs,H1,a5,r,q⟩=>⟨a5.fT,?_⟩) he hpl;exact UK M F hr hb hd hx a5 r q
end
section
variable{X:aK}{CX:ks}{k:Nat}{f C:Addr}{fd:FuncData}{aU bV:List Str}{sp:iP}{E:dc}{x m:Str}{p pos apos Zv:Pos}{e o:Expr}{ag:List Expr}{Zw:List Keyword}{dO cb:TE}{t dv:es}{nm:Option Str}
variable{g:List Value→List Value→List Value}{Zc:List V→List V→List V}
end
structure cN(N P:List Str)(sc:Scope):Prop where
 kind:sc.kind=.function
 co:sc.isCoroutine=false
 gen:sc.isGenerator=false
 aQ:N.Nodup
 pre:N.take P.length=P
 par:∀x∈P,sc.names.lookup x=some .local∨sc.names.lookup x=some .cell
 R7:∀y∈sc.names,y.2≠.free
theorem DW{kindOf:Str→Option NameKind}{x:Str}:∀{binds:List (Str×Value)}{m:Str→Option Value},(∀v,(x,v)∉binds)→bindL kindOf binds m x=m x
 |[],_,_=>rfl
 |(n,v)::r,m,h=>by
  unfold bindL;rw[DW fun w hw=>h w (List.mem_cons_of_mem _ hw)]
  split
  ·have:x≠n:=by rintro rfl;exact h v List.mem_cons_self
   simp[this]
  ·rfl
theorem DU{kindOf:Str→Option NameKind}{x:Str}:∀{binds:List (Str×Value)}{m:Str→Option Value},(∀v,(x,v)∉binds)→bindC kindOf binds m x=m x
 |[],_,_=>rfl
 |(n,v)::r,m,h=>by
  unfold bindC;rw[DU fun w hw=>h w (List.mem_cons_of_mem _ hw)]
  split
  ·rfl
  ·have:x≠n:=by rintro rfl;exact h v List.mem_cons_self
   simp[this]
theorem DV{kindOf:Str→Option NameKind}{x:Str}{v:Value}:∀{P:List Str}{vs:List Value}{i:Nat}{m:Str→Option Value},P.Nodup→P[i]?=some x→vs[i]?=some v→kindOf x=some .local→
  bindL kindOf (P.zip vs) m x=some v
 |[],_,_,_,_,h,_,_=>by simp at h
 |_::_,[],_,_,_,_,h,_=>by simp at h
 |p::P,w::vs,0,m,aQ,h1,h2,hk=>by simp at h1 h2;subst h1;subst h2;show bindL kindOf ((p,w)::P.zip vs) m p=_;unfold bindL;rw[DW fun v hv=>(List.nodup_cons.mp aQ).1 (List.of_mem_zip hv).1,if_pos hk];simp
 |p::P,w::vs,i+1,m,aQ,h1,h2,hk=>by show bindL kindOf ((p,w)::P.zip vs) m x=_;unfold bindL;exact DV (i:=i) (List.nodup_cons.mp aQ).2 (by simpa using h1) (by simpa using h2) hk
theorem DT{kindOf:Str→Option NameKind}{x:Str}{v:Value}:∀{P:List Str}{vs:List Value}{i:Nat}{m:Str→Option Value},P.Nodup→P[i]?=some x→vs[i]?=some v→kindOf x≠some .local→
  bindC kindOf (P.zip vs) m x=some v
 |[],_,_,_,_,h,_,_=>by simp at h
 |_::_,[],_,_,_,_,h,_=>by simp at h
 |p::P,w::vs,0,m,aQ,h1,h2,hk=>by simp at h1 h2;subst h1;subst h2;show bindC kindOf ((p,w)::P.zip vs) m p=_;unfold bindC;rw[DU fun v hv=>(List.nodup_cons.mp aQ).1 (List.of_mem_zip hv).1,if_neg hk];simp
 |p::P,w::vs,i+1,m,aQ,h1,h2,hk=>by show bindC kindOf ((p,w)::P.zip vs) m x=_;unfold bindC;exact DT (i:=i) (List.nodup_cons.mp aQ).2 (by simpa using h1) (by simpa using h2) hk
def start(N:List Str)(vs:List V):St:=vs.map some++List.replicate (N.length-vs.length) none
noncomputable def iT(CX:ks)(P:Program)(w:World)(K:PySem.W.Frag)(mg:Str→Option Value)(base:Heap)(N:List Str)(qual:Str)(scope:Scope)(f:Addr)(cd:Value)(A:Around)(outer:List Env)(s:Shared)(H:ah)(E:dc):aK where
 prog:=P
 w:=w
 K:=K
 mg:=mg
 base:=base
 A:=A.deeper (envOfC qual scope s.heap.objs.size f cd)
 N:=N
 fY:=s
 r0:=H
 env:=envOfC qual scope s.heap.objs.size f cd
 outer:=outer
 stack:=envOfC qual scope s.heap.objs.size f cd::outer
 ex:=[]
 calm:=true
 fn:=fun _=>true
 g7:=[]
 xe:=fun e s'=>wpAny (model P w) (A.deeper (envOfC qual scope s.heap.objs.size f cd)) (leaving (envOfC qual scope s.heap.objs.size f cd) e) (fun _ tL=>CX outer H s E e tL) (fun cA tL=>CX outer H s E cA tL) s'
theorem yP{sc:Scope}{n:Nat}{x:Str}(h:sc.names.lookup x=some .cell):∃c,(cellsFrom n sc.names []).lookup x=some c:=by have q:=PySem.W.cellsFrom_some sc.names n [] (.inl h);exact Option.isSome_iff_exists.mp q
theorem PS{CX:ks}{P:Program}{w:World}{K:PySem.W.Frag}{mg:Str→Option Value}{base:Heap}{N aU:List Str}{qual:Str}{scope:Scope}{f:Addr}{cd:Value}{A:Around}{outer:List Env}{s s1:Shared}{H:ah}{E:dc}{us:List Value}{vs:List V}(S:cN N aU scope)(hd:A.handled=none)(bU:oa P w K mg base A outer s H)(hl:vs.length=aU.length)(r:Vals vs us)(x:InCallC s s.heap.objs.size (bindL (envOfC qual scope s.heap.objs.size f cd).kindOf (aU.zip us) fun _=>none) (cellsFrom (s.heap.objs.size+1) scope.names []) (bindC (envOfC qual scope s.heap.objs.size f cd).kindOf (aU.zip us) fun _=>none) s1) :
  Inv (iT CX P w K mg base N qual scope f cd A outer s H E) [] (start N vs) H s1:=by
 have hpl:aU.length≤N.length:=by have:=congrArg List.length S.pre;rw[List.length_take]at this;omega
 obtain⟨h1,dv,rfl,hk⟩:=x.done;have ts:∀b:Addr,b∉(iT CX P w K mg base N qual scope f cd A outer s H E).ex:=fun b z=>absurd (show b∈([]:List Addr)from z) (by simp)
 refine⟨⟨bU.mod,S.kind,rfl,rfl,Nat.le_refl _,fun y z c h1 h2=>?_,fun y cK=>?_,fun y c _ h=>?_,fun _=>hd,Around.frames_deeper bU.frames,.inr ⟨rfl,rfl⟩,fun b z=>absurd z (ts b),bU.bs,bU.m5,fun b _ _=>ts b,fun b z=>absurd z (ts b),bU.j_,bU.oI⟩,
  rfl,bU.bare,e4.kept hk,⟨_,x.toInCall.ns,fun i y v h1 h2 h3=>?_⟩,fun y c h=>⟨_,x.cell y c h⟩,bU.bM.fresh (Nat.le_refl _),fun y c h=>?_,fun p hp=>absurd (show p∈([]:List (Addr×Obj))from hp) (by simp),bU.bM.kept hk,?_⟩
 ·exact name_of_addr x.apart (PySem.mem_of_lookup h1) (PySem.mem_of_lookup h2)
 ·have cK:scope.names.lookup y=some .cell∨scope.names.lookup y=some .free:=cK;rcases cK with cK|cK
  ·exact yP cK
  ·exact absurd rfl (S.R7 _ (PySem.mem_of_lookup cK))
 ·exact Nat.le_of_lt (x.above y c (PySem.mem_of_lookup h))
 ·have hi:i<vs.length:=by
    unfold start at h2;by_cases hi:i<vs.length
    ·exact hi
    ·rw[List.getElem?_append_right (by simpa using hi)]at h2;rw[List.getElem?_replicate]at h2
     split at h2<;>cases h2
  have ha:vs[i]?=some v:=by
   unfold start at h2;rw[List.getElem?_append_left (by simpa using hi),List.getElem?_map]at h2;cases e:vs[i]? with
   |none=>rw[e]at h2;cases h2
   |some a=>rw[e]at h2;cases h2;rfl
  obtain⟨u,hu,b0⟩:=r.get ha;have hp:aU[i]?=some y:=by rw[←S.pre,List.getElem?_take_of_lt (by omega)];exact h1
  have Hs:aU.Nodup:=by rw[←S.pre];exact S.aQ.sublist (List.take_sublist _ _)
  refine⟨u,b0,?_⟩;rcases S.par y (List.mem_of_getElem? hp)with k|k
  ·exact .inl ⟨k,DV Hs hp hu k⟩
  ·obtain⟨c,e⟩:=yP (n:=s.heap.objs.size+1) k;refine .inr ⟨.inl k,c,e,?_⟩;have q:=x.cell y c e;rw[DT Hs hp hu (by show scope.names.lookup y≠_;rw[k];decide)]at q;exact q
 ·exact bU.bM.fresh (Nat.le_of_lt (x.above y c (PySem.mem_of_lookup h)))
 ·unfold start;show _=N.length;rw[List.length_append,List.length_map,List.length_replicate];omega
theorem Ny {CX:ks} {P:Program} {w:World} {K:PySem.W.Frag} {mg:Str→Option Value} {base:Heap} {k:Nat} {f:Addr} {name qual:Str} {params:Arguments} {body:List Stmt} {scope:Scope} {uX cT doc pm b9 c3 e8:Value} {an dT:Option Addr}{lH:Array (Option Value)} {N aU:List Str} {sp:iP} (lk:K.lookup f=some ⟨e8,dT,.func (PySem.W.fnOf name qual params body scope uX cT doc pm an b9 c3),lH⟩) (hcd:PySem.W.codeIn K b9 qual=true) (S:cN N aU scope)(len:∀vs H Q E,sp vs H Q E→vs.length=aU.length)(zC:∀(A:Around)(outer:List Env)(s:Shared)(H:ah)(vs:List V)(Q:cI)(E:dc),dE k (A.deeper (envOfC qual scope s.heap.objs.size f b9))→sp vs H Q E→
    ∃t,fa (iT CX P w K mg base N qual scope f b9 A outer s H E) body t∧t { bj:=fun _ H'=>Q .non H',dh:=Q } (start N vs) H) :
  hT P w K mg base CX (k+1) f (PySem.W.fnOf name qual params body scope uX cT doc pm an b9 c3) aU sp:=by
 refine⟨len,fun A outer s H args us vs Q E hr bU hb r nq=>?_⟩;have hl:=len _ _ _ _ nq;have ky:K.In s.heap:=bU.mod.oX.keeps fun b o e=>(bU.bs b o e).1;have lim:s.heap.NoLimit:=bU.mod.nolimit.keeps fun b o e=>(bU.bs b o e).1;have Oe:∀y∈aU.zip us,scope.names.lookup y.1=some .local∨(scope.names.lookup y.1=some .cell∧((cellsFrom (s.heap.objs.size+1) scope.names []).lookup y.1).isSome=true):=fun⟨n,v⟩ cK=>by
  rcases S.par n (List.of_mem_zip cK).1 with q|q
  ·exact .inl q
  ·exact .inr ⟨q,PySem.W.cellsFrom_some _ _ _ (.inl q)⟩
 refine codeAny_call_function hr.depth (ky _ _ lk) rfl S.co S.gen rfl (PySem.W.codeRec_of ky hcd) (hb _ _ _ _ ?_);refine wpAny_newFunctionEnv_cells S.kind Oe fun env he s1 x=>?_;subst he;refine⟨lim.keeps x.toInCall.keep,codeAny_func ?_⟩;obtain⟨t,ht,aO⟩:=zC A outer s H vs Q E (hr.deeper _) nq;have I:Inv (iT CX P w K mg base N qual scope f b9 A outer s H E) [] (start N vs) H s1:=PS S hr.hd bU hl r x;refine wpAny_mono (ht [] s1 (start N vs) H _ I aO) (fun j6 s' hs=>?_) fun e s' hs=>hs;have fin:∀{σ' :St}{H':ah}{v:V}{u:Value},Inv (iT CX P w K mg base N qual scope f b9 A outer s H E) [] σ' H' s'→RelV v u→Q v H'→xB outer P w H s Q u s':=
  fun{σ' H' v u} cV b0 q=>⟨v,H',cV.os,cV.bare,cV.base,cV.bM,b0,q⟩
 cases j6 with
 |ret u=>obtain⟨v,σ',H',cV,b0,q⟩:=hs;exact fin cV b0 q
 |next=>obtain⟨σ',H',cV,q⟩:=hs;exact fin (v:=V.non) (u:=Value.none) cV rfl q
 |brk=>obtain⟨_,_,_,q⟩:=hs;exact False.elim q
 |cont=>obtain⟨_,_,_,q⟩:=hs;exact False.elim q
section
variable{X:aK}{x:Str}{p pos:Pos}{e:Expr}{ag:List Expr}{t:es}{id T:String}{r:List V→ah→cI→Prop}
def w2(r:List V→ah→cI→Prop)(t:es):TE:=fun σ H Q=>t σ H fun vs H1=>r vs H1 Q
theorem HZ(hc:hR X (.builtin id) r)(hg:da X x)(hm:X.mg x=none)(hv:bootBuiltins x=some (.builtin id))(ha:eR X (e::ag) t)(aJ:x≠"__name__":=by decide)(hdb:(x==("__debug__" :Str))=false:=by decide)(he:starEach (e::ag) X.env=(false,eval e X.env)::starEach ag X.env:=by rfl)(hpl:(backTo pos (starEach ag X.env)).any (·.1)=false:=by rfl):a3 X (.Call (.Name x p) (e::ag) [] pos) (w2 r t):=by intro pins s σ H Q I h;refine wpAny_Call_Name_kw (o1 I hg hm hv ?_ aJ hdb);exact PyProof.Rows.callWith_builtin1 (bI (ha pos pins s σ H _ I h) fun us s1⟨vs,H1,a5,av,aY⟩=>hc pins s1 σ H1 vs us Q a5 av aY) he hpl
theorem H0(hc:hR X (.type T) r)(hg:da X x)(hm:X.mg x=none)(hv:bootBuiltins x=some (.type T))(ha:eR X (e::ag) t)(aJ:x≠"__name__":=by decide)(hdb:(x==("__debug__" :Str))=false:=by decide)(he:starEach (e::ag) X.env=(false,eval e X.env)::starEach ag X.env:=by rfl)(hpl:(backTo pos (starEach ag X.env)).any (·.1)=false:=by rfl):a3 X (.Call (.Name x p) (e::ag) [] pos) (w2 r t):=by intro pins s σ H Q I h;refine wpAny_Call_Name_kw (o1 I hg hm hv ?_ aJ hdb);exact PyProof.Rows.callWith_type1 (bI (ha pos pins s σ H _ I h) fun us s1⟨vs,H1,a5,av,aY⟩=>hc pins s1 σ H1 vs us Q a5 av aY) he hpl
end
end aS
namespace dD
open PySem PyProof.Rows
section
open PySem.SeqAt
open PySem.AutoSeq1 (wpAny_loadPart')
open PySem.MeetsSeq PySem.MeetsSeq2 PySem.MeetsSeq3
end
section
variable{prog:Program}{w:World}{A:Around}{E:Value→Shared→Prop}{s:Shared}
theorem LB{t b:Addr}{vs ws:List Value}{Q:Value→Shared→Prop}(ht:IsTup s.heap t vs.toArray)(hb:IsTup s.heap b ws.toArray)(hv:vs≠[])(h1:ws=[]→Q (.ref t) s)(h2:ws≠[]→Q (.ref s.heap.objs.size) { s with heap:=s.heap.push { cls:=.type "tuple",data:=.seq (vs++ws).toArray } })(hsz:vs.length+ws.length≤sizeLine):wpAny (model prog w) A (binaryOp .Add (.ref t) (.ref b)) Q E s:=by
 obtain⟨⟨cls,dd,data,bZ⟩,ho,hc,n,hd⟩:=id ht;obtain⟨⟨LG,uZ,data2,rz⟩,oN,jk,cD,hd2⟩:=id hb;simp only at hc hd jk hd2;subst hc hd jk hd2;have e:vs.toArray++ws.toArray=(vs++ws).toArray:=by simp
 by_cases hw:ws=[]
 ·exact concat_meets ⟨_,ho,rfl⟩ ⟨_,oN,rfl⟩ noFill_tuple_add seq_tuple_add PySem.F.slot_tuple_add PySem.F.entry_tuple_add (PySem.F.args_tuple_add_2 _ _)
    (tuple_addW1 t b vs.toArray ws.toArray n cD dd uZ bZ rz (by simpa using hv) (by simp[hw])) ⟨ho,oN,h1 hw⟩
 ·refine concat_meets ⟨_,ho,rfl⟩ ⟨_,oN,rfl⟩ noFill_tuple_add seq_tuple_add PySem.F.slot_tuple_add PySem.F.entry_tuple_add (PySem.F.args_tuple_add_2 _ _)
    (tuple_addW2 t b vs.toArray ws.toArray n cD dd uZ bZ rz (by simpa using hv) (by simpa using hw) (by rw[List.size_toArray,List.size_toArray];exact hsz)) ⟨ho,oN,?_⟩
  rw[e];exact h2 hw
def cz(n d:Nat):Option Int→Nat
 |none=>d
 |some v=>if v<0 then(v+(n:Int)).toNat else min v.toNat n
theorem UQ(n d:Nat):cz n d none=d:=rfl
theorem A8(n d k:Nat):cz n d (some (k:Int))=min k n:=by show(if(k:Int)<0 then((k:Int)+(n:Int)).toNat else min (k:Int).toNat n)=min k n;rw[if_neg (by omega),Int.toNat_natCast]
theorem A7(n d:Nat)(hd:d≤n)(o:Option Int):cz n d o≤n:=by
 cases o with
 |none=>exact hd
 |some v=>
  show(if v<0 then(v+(n:Int)).toNat else min v.toNat n)≤n;by_cases hv:v<0
  ·rw[if_pos hv];omega
  ·rw[if_neg hv];exact Nat.min_le_right _ _
theorem D5(v:Int)(n d:Nat):(if v<0 then max (v+(n:Int)) 0 else min v (n:Int))=((cz n d (some v):Nat):Int):=by
 show(if v<0 then max (v+(n:Int)) 0 else min v (n:Int))=(((if v<0 then(v+(n:Int)).toNat else min v.toNat n):Nat):Int);by_cases hv:v<0
 ·simp only[if_pos hv];omega
 ·simp only[if_neg hv];omega
theorem KW(lo hi:Option Int)(n:Nat):Builtin.Slice.sliceAdjust lo hi 1 (n:Int)=(((cz n 0 lo:Nat):Int),((cz n n hi:Nat):Int)):=by
 have h1:¬((1:Int)<0):=by omega
 unfold Builtin.Slice.sliceAdjust;simp only[h1,if_false];refine Prod.ext ?_ ?_
 ·cases lo with
  |none=>rfl
  |some v=>exact D5 v n 0
 ·cases hi with
  |none=>rfl
  |some v=>exact D5 v n n
theorem TR(i j:Nat):Builtin.Slice.slicePlaces (i:Int) (j:Int) 1=j-i:=by
 unfold Builtin.Slice.slicePlaces;have h1:(1:Int)>0:=by omega
 simp only[h1,if_true,Int.ediv_one]
 split<;>omega
theorem I2{v:Value}{o:Option Int}{Q:Option Int→Shared→Prop}(p:IsPart v o)(h:Q o s):wpAny (model prog w) A (Builtin.Slice.slicePartIndex v) Q E s:=by
 cases p with
 |none=>exact slicePart_none h
 |int i t=>exact slicePart_int h
theorem VW{bZ:Addr}{gM gN:Value}{lo hi:Option Int}{n:Nat}{Q:Int×Int×Nat→Shared→Prop}(hs:s.heap.IsSliceOf bZ gM gN .none)(pl:IsPart gM lo)(pu:IsPart gN hi)(h:Q (((cz n 0 lo:Nat):Int),1,cz n n hi-cz n 0 lo) s):wpAny (model prog w) A (Builtin.Slice.sliceApplied (.ref bZ) (pure (n:Int))) Q E s:=by obtain⟨os,oP,sE,vo⟩:=id hs;unfold Builtin.Slice.sliceApplied Builtin.Slice.sliceFields;refine wpAny_bind (wpAny_bind (wpAny_field oP vo (x:=gM) rfl (wpAny_bind (wpAny_field oP vo (x:=gN) rfl (wpAny_bind (wpAny_field oP vo (x:=.none) rfl (wpAny_pure ?_)))))));refine wpAny_bind (slicePart_none ?_);show wpAny _ _ (if((1:Int)==0)=true then _ else _) _ _ s;rw[if_neg (by decide)];refine wpAny_bind (I2 pl (wpAny_bind (I2 pu (wpAny_bind (wpAny_pure ?_)))));show wpAny _ _ (match Builtin.Slice.sliceAdjust lo hi 1 (n:Int)with|(lo,hi)=>pure (lo,(1:Int),Builtin.Slice.slicePlaces lo hi 1)) _ _ s;rw[KW lo hi n];show wpAny _ _ (pure (((cz n 0 lo:Nat):Int),(1:Int),Builtin.Slice.slicePlaces ((cz n 0 lo:Nat):Int) ((cz n n hi:Nat):Int) 1)) _ _ s;rw[TR];exact wpAny_pure h
theorem TL(xs:Array Value)(i k:Nat):((List.range k).filterMap fun(m:Nat)=>xs[((i:Int)+(m:Int)*1).toNat]?).toArray=((xs.toList.drop i).take k).toArray:=by
 have e:(fun(m:Nat)=>xs[((i:Int)+(m:Int)*1).toNat]?)=fun m=>xs[i+m]?:=by
  funext m
  have:((i:Int)+(m:Int)*1).toNat=i+m:=by omega
  rw[this]
 rw[e];have:=pick_run xs i k;rw[List.filterMap_map]at this;have ax:((fun x=>xs[x]?)∘fun x=>i+x)=fun m=>xs[i+m]?:=rfl;rw[ax]at this;rw[this]
theorem NG{t bZ:Addr}{items:Array Value}{gM gN:Value}{lo hi:Option Int}{Q:Value→Shared→Prop}(ht:IsTup s.heap t items)(hs:s.heap.IsSliceOf bZ gM gN .none)(pl:IsPart gM lo)(pu:IsPart gN hi)(hw:¬(cz items.size 0 lo=0∧cz items.size items.size hi=items.size))(h:Q (.ref s.heap.objs.size) { s with heap:=s.heap.push { cls:=.type "tuple",data:=.seq ((items.toList.drop (cz items.size 0 lo)).take (cz items.size items.size hi-cz items.size 0 lo)).toArray } })(hsz:items.size≤sizeLine):wpAny (model prog w) A (getItem (.ref t) (.ref bZ)) Q E s:=by
 have vv:sizeOk (.seq ((items.toList.drop (cz items.size 0 lo)).take (cz items.size items.size hi-cz items.size 0 lo)).toArray):=by show((items.toList.drop (cz items.size 0 lo)).take (cz items.size items.size hi-cz items.size 0 lo)).toArray.size≤sizeLine;rw[List.size_toArray,List.length_take,List.length_drop,Array.length_toList];omega
 have cF:cz items.size items.size hi≤items.size:=A7 _ _ (Nat.le_refl _) hi;obtain⟨os,oP,sE,vo⟩:=id hs;have NM:s.TypeIs (.ref bZ) "slice":=⟨os,oP,sE⟩;unfold getItem
 try with_reducible refine wpAny_holding ?_
 first|refine wpAny_bind (wpAny_pure ?_)|skip
 refine wpAny_bind (wpAny_sequenceKey ht.typeIs (by decide) ?_)
 refine wpAny_bind (wpAny_callSpecial?_slot (name:=Str.ofString "__getitem__") ht.typeIs PyProof.Rows.slot_tuple_getitem
  (wpAny_call_entry PyProof.Rows.slot_tuple_getitem ht.typeIs entry_tuple_getitem ?_ (args_tuple_getitem _ _)))
 show wpAny _ _ (Builtin.Tuple.tupleItemsOf (.ref t)>>=_) _ _ s;refine wpAny_bind (tupleItemsOf_ ht ?_);refine wpAny_bind (wpAny_typeOf NM ?_);rw[if_pos (by decide)];refine wpAny_bind (VW hs pl pu ?_);have Oo:¬((((cz items.size 0 lo:Nat):Int)==0&&(1:Int)==1&&(cz items.size items.size hi-cz items.size 0 lo)==items.size)=true):=by intro q;rw[Bool.and_eq_true,Bool.and_eq_true]at q;have aY:((cz items.size 0 lo:Nat):Int)=0:=eq_of_beq q.1.1;have bA:cz items.size items.size hi-cz items.size 0 lo=items.size:=eq_of_beq q.2;exact hw ⟨by omega,by omega⟩
 show wpAny _ _ (if(((cz items.size 0 lo:Nat):Int)==0&&(1:Int)==1&&(cz items.size items.size hi-cz items.size 0 lo)==items.size)=true then _ else _) _ _ s;rw[if_neg Oo,TL]
 first
  |exact wpAny_bind (m:=Builtin.Tuple.tupleExact _) (wpAny_newObj_type (wpAny_pure ⟨_,rfl,wpAny_pure h⟩) vv)
  |exact wpAny_bind (m:=Builtin.Tuple.tupleExact _) (wpAny_newObj_type (wpAny_bind (wpAny_pure (wpAny_pure ⟨_,rfl,wpAny_pure h⟩))) vv)
  |exact wpAny_bind (wpAny_bind (m:=Builtin.Tuple.tupleExact _) (wpAny_newObj_type (wpAny_pure (wpAny_pure ⟨_,rfl,wpAny_pure h⟩)) vv))
  |exact wpAny_bind (wpAny_bind (m:=Builtin.Tuple.tupleExact _) (wpAny_newObj_type (wpAny_pure ⟨_,rfl,wpAny_pure h⟩) vv))
end
end dD
namespace aS
open PySem PySem.Spec PyProof.Rows
abbrev b2:=St→ah→(Option Int→ah→Prop)→Prop
noncomputable def p9(X:aK)(e:Option Expr)(t:b2):Prop:=
 ∀(pins:List (Addr×Obj))(s:Shared)(σ :St)(H:ah)(Q:Option Int→ah→Prop),Inv X pins σ H s→t σ H Q→
  wpAny (model X.prog X.w) X.A (evalPart e X.env) (fun u s'=>∃o H',Inv X pins σ H' s'∧IsPart u o∧Q o H') X.xe s
def Wo:b2:=fun _ H Q=>Q none H
def Wq(t:TE):b2:=fun σ H Q=>t σ H fun x H1=>∃i,x=.int i∧Q (some i) H1
section
variable{X:aK}{e:Expr}{dO:TE}{lo hi:Option Expr}{fK w7:b2}{pos bW:Pos}
theorem TU:p9 X none Wo:=by intro pins s σ H Q I h;rw[evalPart_none];exact wpAny_pure ⟨none,H,I,.none,h⟩
theorem TV(h:a3 X e dO):p9 X (some e) (Wq dO):=by intro pins s σ H Q I hw;rw[evalPart_some];refine bI (h pins s σ H _ I hw) fun u s1⟨x,H1,a5,av,aY⟩=>?_;obtain⟨i,rfl,q⟩:=aY;obtain⟨t,rfl⟩:=av;exact⟨some i,H1,a5,.int i t,q⟩
noncomputable def mV(X:aK)(r:V→Option Int→Option Int→ah→cI→Prop):Prop:=
 ∀(pins:List (Addr×Obj))(s:Shared)(σ :St)(H:ah)(x:V)(v gM gN:Value)(lo hi:Option Int)(bZ:Addr)(Q:cI),Inv X pins σ H s→RelV x v→s.heap.IsSliceOf bZ gM gN .none→IsPart gM lo→IsPart gN hi→r x lo hi H Q→
  ∃T id,typeLookup (.type T) "__getitem__"=pure (some (.builtin id))∧s.TypeIs v T∧wpAny (model X.prog X.w) X.A (getItem v (.ref bZ)) (gm X pins σ Q) X.xe s
theorem mV.or{r br:V→Option Int→Option Int→ah→cI→Prop}(h:mV X r)(h':mV X br):mV X (fun x lo hi H Q=>r x lo hi H Q∨br x lo hi H Q):=by
 intro pins s σ H x v gM gN lo hi bZ Q I bt hs pl pu q;rcases q with q|q
 ·exact h pins s σ H x v gM gN lo hi bZ Q I bt hs pl pu q
 ·exact h' pins s σ H x v gM gN lo hi bZ Q I bt hs pl pu q
noncomputable def Cn(r:V→Option Int→Option Int→ah→cI→Prop)(dO:TE)(fK w7:b2):TE:=fun σ H Q=>dO σ H fun x H1=>fK σ H1 fun l aM=>w7 σ aM fun u cO=>r x l u cO Q
theorem H3{r:V→Option Int→Option Int→ah→cI→Prop}(hr:mV X r)(he:a3 X e dO)(hl:p9 X lo fK)(hu:p9 X hi w7):a3 X (.Subscript e (.Slice lo hi none bW) pos) (Cn r dO fK w7):=by intro pins s σ H Q I h;refine Subscript_ (bI (he pins s σ H _ I h) fun v s1⟨x,H1,a5,av,aY⟩=>?_);refine wpAny_Slice (bI (hl pins s1 σ H1 _ a5 aY) fun gM s2⟨l,aM,cc,pl,bA⟩=>bI (hu pins s2 σ aM _ cc bA) fun gN s3⟨u,cO,dS,pu,en⟩=>?_);rw[evalPart_none];refine wpAny_pure ?_;have j1:Inv X pins σ cO { s3 with heap:=s3.heap.push { cls:=.type "slice",data:=.fields #[gM,gN,.none] } }:=dS.kept (t':=s3.toks) fun b aR q=>Heap.get?_push_of_some _ q;obtain⟨T,id,hA,ht,hg⟩:=hr pins { s3 with heap:=s3.heap.push { cls:=.type "slice",data:=.fields #[gM,gN,.none] } } σ cO x v gM gN l u s3.heap.objs.size Q j1 av (Heap.IsSliceOf.new ..) pl pu en;show wpAny (model X.prog X.w) X.A (subscriptTail e (.Slice lo hi none bW) v (.ref s3.heap.objs.size)) (gm X pins σ Q) X.xe { s3 with heap:=s3.heap.push { cls:=.type "slice",data:=.fields #[gM,gN,.none] } };exact tail_any (ops:=[.ref s3.heap.objs.size,v]) ht hA hg (by with_unfolding_all rfl)
noncomputable def m7(xs:List V)(lo hi:Option Int):List V:=(xs.drop (dD.cz xs.length 0 lo)).take (dD.cz xs.length xs.length hi-dD.cz xs.length 0 lo)
theorem Ed(xs:List V)(lo hi:Option Int):(m7 xs lo hi).length≤xs.length:=by unfold m7;rw[List.length_take,List.length_drop];omega
noncomputable def Iy(K:PySem.W.Frag):V→Option Int→Option Int→ah→cI→Prop:=fun x lo hi H Q=>∃a xs,x=.ref a∧cv K H a xs∧
 ¬(dD.cz xs.length 0 lo=0∧dD.cz xs.length xs.length hi=xs.length)∧∀p,H p=none→Q (.ref p) (upd H p (.tup (m7 xs lo hi)))
theorem VV:mV X (Iy X.K):=by
 intro pins s σ H x v gM gN lo hi bZ Q I bt hs pl pu h;obtain⟨a,xs,rfl,hx,hw,q⟩:=h;cases bt;obtain⟨its,r,ht,bx⟩:=I.tuple hx;have hlen:its.toArray.size=xs.length:=by rw[List.size_toArray];exact r.length.symm
 refine⟨"tuple",_,PyProof.Rows.slot_tuple_getitem.lookup,ht.typeIs,?_⟩;refine dD.NG ht hs pl pu (by rw[hlen];exact hw) ?_ (by rw[hlen];exact bx);rw[hlen];refine⟨.ref s.heap.objs.size,_,I.laid (t':=s.toks) (o:=.tup (m7 xs lo hi)) (fun b aR q=>Heap.get?_push_of_some _ q) (Nat.le_refl _) ?_,rfl,q _ (I.bM.fresh (Nat.le_refl _))⟩;exact⟨Nat.le_trans (Ed xs lo hi) bx,_,(r.drop (dD.cz xs.length 0 lo)).take (dD.cz xs.length xs.length hi-dD.cz xs.length 0 lo),IsTup.new _ _⟩
noncomputable def Il(K:PySem.W.Frag):ea:=fun x y H Q=>∃a b xs ys,x=.ref a∧y=.ref b∧cv K H a xs∧cv K H b ys∧xs≠[]∧xs.length+ys.length≤sizeLine∧
 (ys=[]→Q (.ref a) H)∧(ys≠[]→∀p,H p=none→Q (.ref p) (upd H p (.tup (xs++ys))))
theorem Vals.Ao{xs:List V}{us:List Value}(r:Vals xs us):us=[]↔xs=[]:=by
 cases r with
 |nil=>simp
 |cons _ _=>simp
theorem SM:dp X (binaryOp .Add) (Il X.K):=by intro pins s σ H x y v u Q I bt bX h;obtain⟨a,b,xs,ys,rfl,rfl,ha,hb,hx,bx,aY,bA⟩:=h;cases bt;cases bX;obtain⟨its,av,dG,_⟩:=I.tuple ha;obtain⟨ed,bg,bW,_⟩:=I.tuple hb;refine dD.LB dG bW (fun z=>hx (av.Ao.mp z)) (fun z=>⟨.ref a,H,I,rfl,aY (bg.Ao.mp z)⟩) (fun z=>?_) (by rw[←av.length,←bg.length];exact bx);refine⟨.ref s.heap.objs.size,_,I.laid (t':=s.toks) (o:=.tup (xs++ys)) (fun b aR q=>Heap.get?_push_of_some _ q) (Nat.le_refl _) ?_,rfl,bA (fun w=>z (bg.Ao.mpr w)) _ (I.bM.fresh (Nat.le_refl _))⟩;exact⟨by rw[List.length_append];exact bx,_,av.append bg,IsTup.new _ _⟩
end
noncomputable def eF(n:Nat)(i:Int):Option Nat:=if 0≤i then(if i<n then some i.toNat else none)else if-(n:Int)≤i then some (i+n).toNat else none
def eM{α:Type}(xs:List α)(i:Int):Option α:=(eF xs.length i).bind fun j=>xs[j]?
theorem z1{n:Nat}{i:Int}{j:Nat}(h:eF n i=some j):seqIndex? i n=some j∧j<n∧-(n:Int)≤i∧i<n:=by
 unfold eF at h;by_cases h0:0≤i
 ·rw[if_pos h0]at h;by_cases h1:i<n
  ·rw[if_pos h1]at h;have e:i.toNat=j:=Option.some.inj h;exact⟨by rw[seqIndex_of h0 h1,e],by omega,by omega,h1⟩
  ·rw[if_neg h1]at h;cases h
 ·rw[if_neg h0]at h;by_cases h1: -(n:Int)≤i
  ·rw[if_pos h1]at h;have e:(i+n).toNat=j:=Option.some.inj h;exact⟨by rw[seqIndex_neg (by omega) h1,e],by omega,h1,by omega⟩
  ·rw[if_neg h1]at h;cases h
theorem x1{α:Type}{xs:List α}{i:Int}{v:α}(h:eM xs i=some v):∃j,seqIndex? i xs.length=some j∧xs[j]?=some v∧j<xs.length∧-(xs.length:Int)≤i∧i<xs.length:=by
 unfold eM at h;cases e:eF xs.length i with
 |none=>rw[e]at h;cases h
 |some j=>rw[e]at h;obtain⟨h1,h2,h3,h4⟩:=z1 e;exact⟨j,h1,h,h2,h3,h4⟩
def oh(b:Expr):Prop:=∀o i,subscripted b false o i=operate [o,i] (getItem o i)
noncomputable def lX(X:aK)(r:ea):Prop:=
 ∀(value slice:Expr)(pins:List (Addr×Obj))(s:Shared)(σ :St)(H:ah)(x y:V)(v u:Value)(Q:cI),Inv X pins σ H s→RelV x v→RelV y u→r x y H Q→
  subscripted slice false v u=operate [v,u] (getItem v u)→wpAny (model X.prog X.w) X.A (subscriptTail value slice v u) (gm X pins σ Q) X.xe s
noncomputable def r3(X:aK)(id:String)(r:V→List V→ah→cI→Prop):Prop:=
 ∀(pins:List (Addr×Obj))(s:Shared)(σ :St)(H:ah)(x:V)(xs:List V)(v:Value)(us:List Value)(Q:cI),Inv X pins σ H s→RelV x v→Vals xs us→r x xs H Q→
  wpAny (model X.prog X.w) X.A (call (.builtin id) (v::us)) (gm X pins σ Q) X.xe s
section
variable{X:aK}{a b:Expr}{cb tb:TE}{pos:Pos}
theorem lX.or{r br:ea}(h:lX X r)(h':lX X br):lX X (fun x y H Q=>r x y H Q∨br x y H Q):=by
 intro value slice pins s σ H x y v u Q I bt bX q hs;rcases q with q|q
 ·exact h value slice pins s σ H x y v u Q I bt bX q hs
 ·exact h' value slice pins s σ H x y v u Q I bt bX q hs
theorem wB{r:ea}(hr:lX X r)(ha:a3 X a cb)(hb:a3 X b tb)(hs:oh b):a3 X (.Subscript a b pos) (tV r cb tb):=by intro pins s σ H Q I h;exact Subscript_ (yK ha hb I h fun v u s2 x y aM cc bt bX q=>hr a b pins s2 σ aM x y v u Q cc bt bX q (hs _ _))
noncomputable def Ip(K:PySem.W.Frag):ea:=fun x y H Q=>∃p xs i v,x=.ref p∧y=.int i∧bS K H p xs∧eM xs i=some v∧Q v H
noncomputable def Ir(K:PySem.W.Frag):ea:=fun x y H Q=>∃p xs i v,x=.ref p∧y=.int i∧cv K H p xs∧eM xs i=some v∧Q v H
noncomputable def Iq:ea:=fun x y H Q=>∃z i c,x=.str z∧y=.int i∧z.length≤sizeLine∧eM z.cps.toList i=some c∧Q (.str ⟨#[c]⟩) H
theorem P7:lX X (Ip X.K):=by
 intro value slice pins s σ H x y v u Q I bt bX h hs;obtain⟨p,xs,i,z,rfl,rfl,aO,he,q⟩:=h;cases bt;obtain⟨t,rfl⟩:=bX;obtain⟨its,r,pl,bx⟩:=I.list aO;obtain⟨j,h1,h2,h3,h4,h5⟩:=x1 he;obtain⟨w,eu,jW⟩:=r.get h2;have hl:=r.length;have aJ:=qM;have fin:gm X pins σ Q w s:=⟨z,H,I,jW,q⟩;by_cases h0:0≤i
 ·have cF:i.toNat=j:=by
    rw[seqIndex_of h0 h5]at h1;exact Option.some.inj h1
  exact item_listR pl.isList h0 (by omega) (by rw[cF];simpa using eu) fin hs
 ·have cF:(i+(its.toArray.size:Int)).toNat=j:=by
    rw[seqIndex_neg (by omega) h4]at h1;rw[List.size_toArray,←hl];exact Option.some.inj h1
  exact subscriptTail_builtinR (x:=w) pl.isList.typeIs slot_list_getitem.lookup
   (wpAny_getItem_list_neg (Q:=fun r s'=>r=w∧gm X pins σ Q r s') pl.isList (by omega) (by rw[List.size_toArray]<;>omega) (by omega) (by rw[cF];simpa using eu) ⟨rfl,fin⟩) hs
theorem P_:lX X (Ir X.K):=by
 intro value slice pins s σ H x y v u Q I bt bX h hs;obtain⟨p,xs,i,z,rfl,rfl,aO,he,q⟩:=h;cases bt;obtain⟨t,rfl⟩:=bX;obtain⟨its,r,pl,bx⟩:=I.tuple aO;obtain⟨j,h1,h2,h3,h4,h5⟩:=x1 he;obtain⟨w,eu,jW⟩:=r.get h2;have hl:=r.length;have aJ:=qM;have fin:gm X pins σ Q w s:=⟨z,H,I,jW,q⟩
 exact subscriptTail_builtinR (x:=w) pl.typeIs slot_tuple_getitem.lookup
  (getItem_tuple (j:=j) (Q:=fun r s'=>r=w∧gm X pins σ Q r s') pl (by omega) (by omega) (by rw[List.size_toArray,←hl];exact h1) (by simpa using eu) ⟨rfl,fin⟩) hs
theorem z2:lX X Iq:=by
 intro value slice pins s σ H x y v u Q I bt bX h hs;obtain⟨z,i,c,rfl,rfl,bx,he,q⟩:=h;obtain⟨t,rfl⟩:=bt;obtain⟨t',rfl⟩:=bX;obtain⟨j,h1,h2,h3,h4,h5⟩:=x1 he;have hl:z.cps.toList.length=z.length:=by simp[Str.length]
 rw[hl]at h1 h4 h5;have aJ:=qM;exact tail_any (typeIs_str s z t) slot_str_getitem.lookup (getItem_str (c:=c) (by have aj:decide (i< -(2^63:Int))=false:=decide_eq_false (by omega);have ax:decide (i≥2^63)=false:=decide_eq_false (by omega);rw[aj,ax,Bool.or_false]) (by rw[h1];simpa using h2) ⟨.str ⟨#[c]⟩,H,I.tok _,⟨_,rfl⟩,q⟩) hs
def Io(K:PySem.W.Frag):ea:=fun x y H Q=>Ip K x y H Q∨Ir K x y H Q∨Iq x y H Q
theorem vE:lX X (Io X.K):=P7.or (P_.or z2)
theorem RC(its:List Value)(n j:Nat)(u:Value):Obj.mapSeq (·.setIfInBounds j u) { cls:=.type "list",data:=.seq its.toArray n }={ cls:=.type "list",data:=.seq (its.set j u).toArray n }:=by simp[Obj.mapSeq]
theorem Inv.lst{pins:List (Addr×Obj)}{σ :St}{H:ah}{s:Shared}{p:Addr}{xs:List V}(I:Inv X pins σ H s)(h:H p=some (.lst xs)) :
  ∃(its:List Value)(n:Nat),Vals xs its∧s.heap.get? p=some { cls:=.type "list",data:=.seq its.toArray n }∧xs.length≤sizeLine:=by
 obtain⟨z,its,n,r,e⟩:=I.bM p _ h;exact⟨its,n,r,e,z⟩
theorem Inv.Rm{pins:List (Addr×Obj)}{σ :St}{H:ah}{s:Shared}{p:Addr}{xs ys:List V}{its its':List Value}{n i0:Nat}{f:Obj→Obj}(I:Inv X pins σ H s)(h:H p=some (.lst xs))(ho:s.heap.get? p=some { cls:=.type "list",data:=.seq its.toArray n })(hf:f { cls:=.type "list",data:=.seq its.toArray n }={ cls:=.type "list",data:=.seq its'.toArray i0 })(r:Vals ys its')(bx:ys.length≤sizeLine)(t:Nat) :
  Inv X pins σ (upd H p (.lst ys)) { s with heap:=s.heap.update p f,toks:=t }:=by
 have e:(s.heap.update p f).get? p=some { cls:=.type "list",data:=.seq its'.toArray i0 }:=by rw[Heap.get?_update_self f ho (by rw[hf]<;>rfl),hf]
 refine I.write (x:=p) (e:=p) (by rw[h];trivial) (.inl rfl) (fun b u hb q=>(Heap.get?_update_other _ _ (Ne.symm hb)).trans q) ⟨_,e⟩ ?_;exact⟨bx,its',i0,r,e⟩
noncomputable def Us:V→V→V→ah→(ah→Prop)→Prop:=fun o i v H Q=>∃p xs k j,o=.ref p∧i=.int k∧H p=some (.lst xs)∧eF xs.length k=some j∧Q (upd H p (.lst (xs.set j v)))
theorem set_list:Dm X Us:=by
 intro pins s σ H o i v dK fe u Q I i6 UD b0 h;obtain⟨p,xs,k,j,rfl,rfl,hp,cF,q⟩:=h;cases i6;obtain⟨t,rfl⟩:=UD;obtain⟨its,n,r,ho,bx⟩:=I.lst hp;obtain⟨h1,h2,h3,h4⟩:=z1 cF;have hl:=r.length;have aJ:=qM;have k7:Inv X pins σ (upd H p (.lst (xs.set j v))) { s with heap:=s.heap.update p (Obj.mapSeq (·.setIfInBounds j u)) }:=
  I.Rm hp ho (RC its n j u) (r.set b0 j) (by rw[List.length_set];exact bx) s.toks
 by_cases h0:0≤k
 ·have hk:k.toNat=j:=by
    rw[seqIndex_of h0 h4]at h1;exact Option.some.inj h1
  exact PySem.W.ki_setAt ho h0 (by omega) (by rw[List.size_toArray,←hl];exact h4) (by rw[hk];exact⟨_,k7,q⟩)
 ·have hk:(k+(its.toArray.size:Int)).toNat=j:=by
    rw[seqIndex_neg (by omega) h3]at h1;rw[List.size_toArray,←hl];exact Option.some.inj h1
  exact PySem.W.ki_setBack ho (by omega) (by rw[List.size_toArray,←hl];exact h3) (by omega) (by rw[hk];exact⟨_,k7,q⟩)
theorem VY(lo hi:Option Int)(n:Nat):(sliceBounds lo hi none n).1=((dD.cz n 0 lo:Nat):Int)∧(sliceBounds lo hi none n).2.1=((dD.cz n n hi:Nat):Int)∧(sliceBounds lo hi none n).2.2=1:=by
 refine⟨?_,?_,rfl⟩
 ·cases lo with
  |none=>simp[sliceBounds,dD.cz]
  |some i=>
   simp only[sliceBounds,dD.cz,Option.getD_none,show(1:Int)>0 by decide,if_true];by_cases h:i<0
   ·simp only[h,if_true]<;>omega
   ·simp only[h,if_false]<;>omega
 ·cases hi with
  |none=>simp[sliceBounds,dD.cz]
  |some i=>
   simp only[sliceBounds,dD.cz,Option.getD_none,show(1:Int)>0 by decide,if_true];by_cases h:i<0
   ·simp only[h,if_true]<;>omega
   ·simp only[h,if_false]<;>omega
theorem VX(its:List Value)(lo hi:Option Int):slicePick its.toArray lo hi none=((its.drop (dD.cz its.length 0 lo)).take (dD.cz its.length its.length hi-dD.cz its.length 0 lo)).toArray:=by obtain⟨h1,h2,h3⟩:=VY lo hi its.toArray.size;unfold slicePick;rw[h1,h2,h3];simp only[sliceRange_one,pick_run,List.size_toArray]<;>rfl
noncomputable def Iv(K:PySem.W.Frag):V→Option Int→Option Int→ah→cI→Prop:=fun x lo hi H Q=>∃a xs,x=.ref a∧bS K H a xs∧∀p,H p=none→Q (.ref p) (upd H p (.lst (m7 xs lo hi)))
theorem VT:mV X (Iv X.K):=by intro pins s σ H x v gM gN lo hi bZ Q I bt hs pl pu h;obtain⟨a,xs,rfl,hx,q⟩:=h;cases bt;obtain⟨its,r,ht,bx⟩:=I.list hx;have hlen:=r.length;refine⟨"list",_,slot_list_getitem.lookup,ht.isList.typeIs,?_⟩;refine wpAny_getItem_list_slice ht.isList hs pl pu .none (by simp) ?_ (by rw[List.size_toArray]<;>omega);rw[VX,←hlen];refine⟨.ref s.heap.objs.size,_,I.laid (t':=s.toks) (o:=.lst (m7 xs lo hi)) (fun b aR q=>Heap.get?_push_of_some _ q) (Nat.le_refl _) ?_,rfl,q _ (I.bM.fresh (Nat.le_refl _))⟩;exact⟨Nat.le_trans (Ed xs lo hi) bx,_,0,(r.drop (dD.cz xs.length 0 lo)).take (dD.cz xs.length xs.length hi-dD.cz xs.length 0 lo),Heap.get?_push_size _ rfl⟩
theorem hR.or{f:Value}{r br:List V→ah→cI→Prop}(h:hR X f r)(h':hR X f br):hR X f (fun xs H Q=>r xs H Q∨br xs H Q):=by
 intro pins s σ H xs us Q I rs q;rcases q with q|q
 ·exact h pins s σ H xs us Q I rs q
 ·exact h' pins s σ H xs us Q I rs q
theorem Lr:hR X (.type "list") (fun xs H Q=>∃p ys,xs=[.ref p]∧(bS X.K H p ys∨cv X.K H p ys)∧∀l,H l=none→Q (.ref l) (upd H l (.lst ys))):=by
 intro pins s σ H xs us Q I r h;obtain⟨p,ys,rfl,aO,q⟩:=h;obtain⟨u,rfl,bt⟩:=vals1 r;cases bt
 have fin:∀(its:List Value),Vals ys its→ys.length≤sizeLine→∀(h':Heap)(fb:Nat),(∀b cg,s.heap.get? b=some cg→h'.get? b=some cg)→
   h'.get? s.heap.objs.size=some { cls:=.type "list",dict:=none,data:=.seq its.toArray fb,slots:= #[] }→gm X pins σ Q (.ref s.heap.objs.size) { s with heap:=h' }:=fun its br bx h' fb aL e=>
  ⟨.ref s.heap.objs.size,_,I.laid (t':=s.toks) aL (Nat.le_refl _) (show fz X.prog X.w _ h' _ (.lst ys)from⟨bx,its,fb,br,e⟩),rfl,q _ (I.bM.fresh (Nat.le_refl _))⟩
 rcases aO with aO|aO
 ·obtain⟨its,br,pl,bx⟩:=I.list aO;have hlen:=br.length;obtain⟨o,ho,hc,n,hd⟩:=pl.isList;exact call_list_seq p (.inl rfl) ho hc hd (fun h' fb aL e=>fin its br bx h' fb aL e) (by simp only[List.size_toArray]<;>omega)
 ·obtain⟨its,br,pl,bx⟩:=I.tuple aO;have hlen:=br.length;obtain⟨o,ho,hc,n,hd⟩:=pl;exact call_list_seq p (.inr rfl) ho hc hd (fun h' fb aL e=>fin its br bx h' fb aL e) (by simp only[List.size_toArray]<;>omega)
theorem Lv:hR X (.type "tuple") (fun xs H Q=>∃p ys,xs=[.ref p]∧((bS X.K H p ys∧∀l,H l=none→Q (.ref l) (upd H l (.tup ys)))∨(cv X.K H p ys∧Q (.ref p) H))):=by
 intro pins s σ H xs us Q I r h;obtain⟨p,ys,rfl,h⟩:=h;obtain⟨u,rfl,bt⟩:=vals1 r;cases bt;rcases h with⟨aO,q⟩|⟨aO,q⟩
 ·obtain⟨its,br,pl,bx⟩:=I.list aO;have hlen:=br.length;refine call_tuple_list pl.isList (fun h' aL=>?_) (by simp only[List.size_toArray]<;>omega);have a5:Inv X pins σ H { s with heap:=h' }:=I.kept (t':=s.toks) aL;have cc:Inv X pins σ (upd H h'.objs.size (.tup ys)) { s with heap:=h'.push { cls:=.type "tuple",data:=.seq its.toArray } }:=
   a5.laid (t':=s.toks) (fun b o e=>Heap.get?_push_of_some _ e) (Nat.le_refl _) (show fz X.prog X.w _ _ _ (.tup ys)from⟨bx,its,br,IsTup.new _ _⟩)
  exact⟨.ref h'.objs.size,_,cc,rfl,q _ (a5.bM.fresh (Nat.le_refl _))⟩
 ·obtain⟨its,br,pl,bx⟩:=I.tuple aO;exact call_tuple_same pl ⟨.ref p,H,I,rfl,q⟩
noncomputable def Cz(K:PySem.W.Frag)(T:String)(x:V)(H:ah):Prop:=match x with
 |.str _=>T="str"
 |.int _=>T="int"
 |.ref p=>(T="list"∧∃xs,bS K H p xs)∨(T="tuple"∧∃o,K.lookup p=some o∧o.cls=.type "tuple"∧o.dict=none)∨
     (T="dict"∧((∃aT,H p=some (.cW aT))∨∃aT,H p=some (.a_ aT)))∨(T="set"∧∃S n,H p=some (.set S n))
 |_=>False
theorem JH{pins:List (Addr×Obj)}{σ :St}{H:ah}{s:Shared}{T:String}{x:V}{v:Value}(I:Inv X pins σ H s)(r:RelV x v)(ty:Cz X.K T x H) :
  s.TypeIs v T∧∀a,v=.ref a→∃aR,s.heap.get? a=some aR∧aR.dict=none:=by
 cases x with
 |str z=>obtain⟨t,rfl⟩:=r;cases(show T="str" from ty);exact⟨typeIs_str s z t,fun _ e=>nomatch e⟩
 |int i=>obtain⟨t,rfl⟩:=r;cases(show T="int" from ty);exact⟨typeIs_int s i t,fun _ e=>nomatch e⟩
 |ref p=>
  cases r;rcases ty with⟨rfl,xs,aO⟩|⟨rfl,o,hk,hc,hd⟩|⟨rfl,hk⟩|⟨rfl,S,n,hk⟩
  ·obtain⟨its,_,pl,_⟩:=I.list aO;refine⟨pl.isList.typeIs,fun a e=>?_⟩;cases e;obtain⟨o,n,e,c,hd,_⟩:=pl;exact⟨o,e,hd⟩
  ·refine⟨⟨o,I.fT p o hk,hc⟩,fun a e=>?_⟩;cases e;exact⟨o,I.fT _ o hk,hd⟩
  ·have z:∃o,s.heap.get? p=some o∧o.ExactDict:=by
     rcases hk with⟨aT,hk⟩|⟨aT,hk⟩
     ·obtain⟨_,_,_,_,o,_,_,e,ex,_⟩:=I.bM p _ hk;exact⟨o,e,ex⟩
     ·obtain⟨_,_,_,_,o,_,_,e,ex,_⟩:=I.bM p _ hk;exact⟨o,e,ex⟩
   obtain⟨o,e,ex⟩:=z;refine⟨⟨o,e,ex.1⟩,fun a ax=>?_⟩;cases ax;exact⟨o,e,ex.2.1⟩
  ·obtain⟨o,_,_,_,e,ex,_⟩:=I.bM p _ hk;refine⟨⟨o,e,ex.1⟩,fun a ax=>?_⟩;cases ax;exact⟨o,e,ex.2.1⟩
 |_=>exact False.elim ty
noncomputable def Wl(K:PySem.W.Frag)(T:String)(r:V→List V→ah→cI→Prop)(to:TE):TE:=fun σ H Q=>to σ H fun x H1=>Cz K T x H1∧r x [] H1 Q
noncomputable def Wk(K:PySem.W.Frag)(T:String)(r:V→List V→ah→cI→Prop)(to:TE)(t:es):TE:=fun σ H Q=>to σ H fun x H1=>Cz K T x H1∧t σ H1 fun xs aM=>r x xs aM Q
variable{o e:Expr}{ag:List Expr}{to:TE}{t:es}{name:Str}{apos bC:Pos}{T id:String}{r:V→List V→ah→cI→Prop}
theorem Tc(AF:PlainAttrs T)(slot:Slot T name id)(sO:typeOf (.builtin id)=pure (.type "method_descriptor"))(hm:r3 X id r)(ho:a3 X o to)(hbase:attributeBase o name X.env (eval o X.env)=eval o X.env:=by rfl)(hline:(apos.endLine==bC.line)=true:=by rfl):a3 X (.Call (.Attribute o name apos) [] [] bC) (Wl X.K T r to):=by intro pins s σ H Q I h;refine wpAny_Call_method0_late hbase hline (bI (ho pins s σ H _ I h) fun v s1⟨x,H1,a5,av,ty,aY⟩=>?_);obtain⟨h1,h2⟩:=JH a5 av ty;exact⟨T,id,AF,slot,sO,h1,h2,Calls.callWith_builtin rfl (PySem.evalArgs_none (hm pins s1 σ H1 x [] v [] Q a5 av .nil aY))⟩
theorem pw (AF:PlainAttrs T) (slot:Slot T name id) (sO:typeOf (.builtin id)=pure (.type "method_descriptor")) (hm:r3 X id r) (ho:a3 X o to) (ha:eR X (e::ag) t)(hbase:attributeBase o name X.env (eval o X.env)=eval o X.env:=by rfl)(hfew:((backTo bC (starEach (e::ag) X.env)).all (fun x=>!x.1)&&(backToKw bC (keywordEach [] X.env)).all (fun x=>x.1.isSome)
    &&decide ((e::ag).length+([]:List Keyword).length+(if([]:List Keyword).isEmpty then 0 else 1)<30))=true:=by rfl)
  (hline:(apos.endLine==bC.line)=true:=by rfl) (hs:starEach (e::ag) X.env=(false,eval e X.env)::starEach ag X.env:=by rfl) (hplain:(backTo bC (starEach ag X.env)).any (·.1)=false:=by rfl) :
  a3 X (.Call (.Attribute o name apos) (e::ag) [] bC) (Wk X.K T r to t):=by
 intro pins s σ H Q I h;refine wpAny_Call_method_late hbase hfew hline rfl (bI (ho pins s σ H _ I h) fun v s1⟨x,H1,a5,av,ty,aY⟩=>?_);obtain⟨h1,h2⟩:=JH a5 av ty;refine⟨T,id,AF,slot,sO,h1,h2,?_⟩;have nf:=ha bC pins s1 σ H1 _ a5 aY;rw[hs]at nf ⊢;refine Calls.callWith_builtin (by show(false||(backTo bC (starEach ag X.env)).any (·.1))=false;rw[hplain]<;>rfl) (Calls.evalArgs_plain ?_);exact bI nf fun us s2⟨vs,aM,cc,bg,bA⟩=>hm pins s2 σ aM x vs v us Q cc av bg bA
end
noncomputable def ur(X:aK)(id:String)(r:V→List V→ah→cI→Prop):Prop:=
 ∀(pins:List (Addr×Obj))(s:Shared)(σ :St)(H:ah)(x:V)(xs:List V)(v:Value)(us:List Value)(Q:cI),Inv X pins σ H s→RelV x v→Vals xs us→r x xs H Q→
  wpAny (model X.prog X.w) X.A (call (.builtin id) (v::us)) (gm X pins σ Q) X.xe s
theorem Vals.one:∀{x:V}{us:List Value},Vals [x] us→∃u,us=[u]∧RelV x u
 |_,_,.cons r .nil=>⟨_,rfl,r⟩
theorem Vals.zero:∀{us:List Value},Vals [] us→us=[]
 |_,.nil=>rfl
theorem Vals.dropLast{xs:List V}{us:List Value}(h:Vals xs us):Vals xs.dropLast us.dropLast:=by
 induction h with
 |nil=>exact .nil
 |cons r t b6=>
  cases t with
  |nil=>exact .nil
  |cons q t'=>exact .cons r b6
theorem Vals.eraseIdx:∀{xs:List V}{us:List Value}(i:Nat),Vals xs us→Vals (xs.eraseIdx i) (us.eraseIdx i)
 |_,_,_,.nil=>.nil
 |_,_,0,.cons _ t=>t
 |_,_,i+1,.cons r t=>.cons r (Vals.eraseIdx i t)
theorem Vals.rep{xs:List V}{us:List Value}(h:Vals xs us):∀k:Nat,Vals (List.replicate k xs).flatten (List.replicate k us).flatten
 |0=>.nil
 |k+1=>by rw[List.replicate_succ,List.replicate_succ,List.flatten_cons,List.flatten_cons];exact Vals.append h (Vals.rep h k)
theorem Nb{α:Type}(l:List α):l.eraseIdx (l.length-1)=l.dropLast:=by
 induction l with
 |nil=>rfl
 |cons a r b6=>
  cases r with
  |nil=>rfl
  |cons b r=>
   have e:(a::b::r).length-1=((b::r).length-1)+1:=by have h1:(a::b::r).length=r.length+2:=rfl;have h2:(b::r).length=r.length+1:=rfl;omega
   rw[e,List.eraseIdx_cons_succ,b6]
   all_goals rfl
theorem G7{α:Type}:∀(l:List α)(i:Nat),(l.eraseIdx i).length≤l.length
 |[],_=>Nat.le_refl _
 |_::_,0=>Nat.le_succ _
 |_::r,i+1=>Nat.succ_le_succ (G7 r i)
theorem foldl_rep(its:List Value):∀(k:Nat)(acc:List Value),
  List.foldl (fun ip eP=>ip++eP) acc.toArray (List.replicate k its.toArray)=(acc++(List.replicate k its).flatten).toArray
 |0,acc=>by simp
 |k+1,acc=>by
  have e:acc.toArray++its.toArray=(acc++its).toArray:=by simp
  have ax:(acc++its)++(List.replicate k its).flatten=acc++(List.replicate (k+1) its).flatten:=by rw[List.replicate_succ,List.flatten_cons,List.append_assoc]
  rw[←ax,←foldl_rep its k (acc++its),←e,List.replicate_succ,List.foldl_cons]
section
variable{X:aK}{pins:List (Addr×Obj)}{σ :St}{H:ah}{s:Shared}{l b:Addr}{xs ys zs:List V}
theorem Inv.vN{its its':List Value}{n:Nat}{f:Array Value→Array Value}{t':Nat}(I:Inv X pins σ H s)(gY:H l=some (.lst xs))(e:s.heap.get? l=some { cls:=.type "list",data:=.seq its.toArray n })(hf:f its.toArray=its'.toArray)(hv:Vals ys its')(bx:ys.length≤sizeLine) :
  Inv X pins σ (upd H l (.lst ys)) { s with heap:=s.heap.update l (Obj.mapSeq f),toks:=t' }:=by
 have q:=PySem.IsL.update e f;rw[hf]at q;refine I.write (x:=l) (e:=l) (by rw[gY];exact trivial) (.inl rfl) (fun ov u hb hu=>(Heap.get?_update_other s.heap (Obj.mapSeq f) (Ne.symm hb)).trans hu) ⟨_,q⟩ ?_;exact⟨bx,its',_,hv,q⟩
theorem Inv.Ae{its:List Value}{t':Nat}(I:Inv X pins σ H s)(hv:Vals ys its)(bx:ys.length≤sizeLine) :
  Inv X pins σ (upd H s.heap.objs.size (.lst ys)) { s with heap:=s.heap.push { cls:=.type "list",data:=.seq its.toArray },toks:=t' }:=
 I.laid (fun _ _ q=>Heap.get?_push_of_some _ q) (Nat.le_refl _) ⟨bx,its,0,hv,Heap.get?_push_size _ rfl⟩
theorem Inv.fresh(I:Inv X pins σ H s):H s.heap.objs.size=none:=I.bM.fresh (Nat.le_refl _)
theorem Inv.ny(I:Inv X pins σ H s)(gY:H l=some (.lst xs)):xs.length≤sizeLine∧∃(its:List Value)(n:Nat),Vals xs its∧xs.length=its.length∧s.heap.get? l=some { cls:=.type "list",data:=.seq its.toArray n }:=by obtain⟨z,its,n,r,e⟩:=I.bM l _ gY;exact⟨z,its,n,r,r.length,e⟩
theorem HB{n:Nat}(h:n≤sizeLine):Builtin.List.listTooLong n=false:=by unfold Builtin.List.listTooLong;exact decide_eq_false (by omega)
end
section
variable{X:aK}
noncomputable def Um:V→List V→ah→cI→Prop:=fun x vs H Q=>∃l xs y,x=.ref l∧vs=[y]∧H l=some (.lst xs)∧xs.length<sizeLine∧Q .non (upd H l (.lst (xs++[y])))
theorem tn:ur X "list.append" Um:=by intro pins s σ H x vs v us Q I bt b0 h;obtain⟨l,xs,y,rfl,rfl,gY,bx,q⟩:=h;cases bt;obtain⟨u,rfl,ef⟩:=b0.one;obtain⟨z,its,n,r,hl,e⟩:=I.ny gY;refine call_meets F.slot_list_append ⟨_,e,rfl⟩ F.entry_list_append (F.args_list_append_2 _ _) (PySem.list_append l its.toArray n u (by rw[List.size_toArray];omega)) ⟨e,?_⟩;refine⟨.non,_,I.vN (its':=its++[u]) gY e (by simp) (r.append (.cons ef .nil)) ?_,rfl,q⟩;rw[List.length_append,List.length_singleton];omega
noncomputable def Un:V→List V→ah→cI→Prop:=fun x vs H Q=>∃l b xs zs,x=.ref l∧vs=[.ref b]∧H l=some (.lst xs)∧H b=some (.lst zs)∧xs.length+zs.length≤sizeLine∧Q .non (upd H l (.lst (xs++zs)))
theorem ZL:ur X "list.extend" Un:=by
 intro pins s σ H x vs v us Q I bt b0 h;obtain⟨l,b,xs,zs,rfl,rfl,gY,zv,bx,q⟩:=h;cases bt;obtain⟨u,rfl,ef⟩:=b0.one;cases ef;obtain⟨z,its,n,r,hl,e⟩:=I.ny gY;obtain⟨aW,ed,cD,bg,sI,ax⟩:=I.ny zv;have hsz:its.toArray.size+ed.toArray.size≤sizeLine:=by rw[List.size_toArray,List.size_toArray];omega
 have zJ:¬(!its.toArray.isEmpty&&Builtin.List.listTooLong (its.toArray.size+ed.toArray.size))=true:=by rw[HB hsz,Bool.and_false];exact Bool.false_ne_true
 refine call_meets F.slot_list_extend ⟨_,e,rfl⟩ F.entry_list_extend (F.args_list_extend_2 _ _)
  (AutoSeq1.list_extend_list_list_0 l its.toArray n b ed.toArray cD zJ (by rw[List.size_toArray];omega) (by omega)) ⟨e,ax,?_⟩
 refine⟨.non,_,I.vN (its':=its++ed) gY e (by simp) (r.append bg) ?_,rfl,q⟩;rw[List.length_append];omega
noncomputable def Uq:V→List V→ah→cI→Prop:=fun x vs H Q=>∃l xs y,x=.ref l∧vs=[]∧H l=some (.lst xs)∧xs[xs.length-1]?=some y∧Q y (upd H l (.lst xs.dropLast))
theorem RN:ur X "list.pop" Uq:=by
 intro pins s σ H x vs v us Q I bt b0 h;obtain⟨l,xs,y,rfl,rfl,gY,cK,q⟩:=h;cases bt;have OB:=b0.zero;subst OB;obtain⟨z,its,n,r,hl,e⟩:=I.ny gY;obtain⟨u,hu,ef⟩:=r.get cK;have OH:its.toArray[its.toArray.size-1]?=some u:=by show its.toArray[its.length-1]?=some u;rw[←Array.getElem?_toList,←hl];exact hu
 refine call_meets F.slot_list_pop ⟨_,e,rfl⟩ F.entry_list_pop (F.args_list_pop_1 _) (MeetsSeq.list_pop_last l its.toArray n u OH (by rw[List.size_toArray];omega)) ⟨e,?_⟩;refine⟨y,_,I.vN (its':=its.dropLast) gY e ?_ r.dropLast ?_,ef,q⟩
 ·show its.toArray.eraseIdxIfInBounds (its.toArray.size-1)=its.dropLast.toArray;rw[List.size_toArray,List.eraseIdxIfInBounds_toArray,Nb]
 ·rw[List.length_dropLast];omega
noncomputable def Ur:V→List V→ah→cI→Prop:=fun x vs H Q=>∃l xs i k y,x=.ref l∧vs=[.int i]∧H l=some (.lst xs)∧-(2^63)≤i∧i<2^63∧seqIndex? i xs.length=some k∧xs[k]?=some y∧Q y (upd H l (.lst (xs.eraseIdx k)))
theorem RO:ur X "list.pop" Ur:=by
 intro pins s σ H x vs v us Q I bt b0 h;obtain⟨l,xs,i,k,y,rfl,rfl,gY,h1,h2,hk,cK,q⟩:=h;cases bt;obtain⟨u,rfl,ef⟩:=b0.one;obtain⟨t,rfl⟩:=ef;obtain⟨z,its,n,r,hl,e⟩:=I.ny gY;obtain⟨w,hw,jW⟩:=r.get cK
 refine call_meets F.slot_list_pop ⟨_,e,rfl⟩ F.entry_list_pop (F.args_list_pop_2 _ _)
  (MeetsSeq.list_pop_at l its.toArray n i t k w (fitsIndex_both h1 h2) (by rw[List.size_toArray,←hl];exact hk) (by rw[←Array.getElem?_toList];exact hw) (by rw[List.size_toArray];omega)) ⟨e,?_⟩
 refine⟨y,_,I.vN (its':=its.eraseIdx k) gY e ?_ (r.eraseIdx k) ?_,jW,q⟩
 ·show its.toArray.eraseIdxIfInBounds k=(its.eraseIdx k).toArray;rw[List.eraseIdxIfInBounds_toArray]
 ·have:=G7 xs k;omega
noncomputable def Ik:ea:=fun x y H Q=>∃l b xs zs,x=.ref l∧y=.ref b∧H l=some (.lst xs)∧H b=some (.lst zs)∧xs.length+zs.length≤sizeLine∧∀p,H p=none→Q (.ref p) (upd H p (.lst (xs++zs)))
theorem HJ:dp X (binaryOp .Add) Ik:=by
 intro pins s σ H x y v u Q I bt bX h;obtain⟨l,b,xs,zs,rfl,rfl,gY,zv,bx,q⟩:=h;cases bt;cases bX;obtain⟨z,its,n,r,hl,e⟩:=I.ny gY;obtain⟨aW,ed,cD,bg,sI,ax⟩:=I.ny zv;refine PySem.P.add_list e ax ?_ (by rw[List.size_toArray,List.size_toArray];omega);have ar:its.toArray++ed.toArray=(its++ed).toArray:=by simp
 rw[ar];exact⟨.ref _,_,I.Ae (t':=s.toks) (r.append bg) (by rw[List.length_append];omega),rfl,q _ I.fresh⟩
noncomputable def Iu:ea:=fun x y H Q=>∃l k xs,x=.ref l∧y=.int k∧H l=some (.lst xs)∧-(2^63)≤k∧k<2^63∧xs.length*k.toNat≤sizeLine∧
 ∀p,H p=none→Q (.ref p) (upd H p (.lst (List.replicate k.toNat xs).flatten))
theorem len_rep{α:Type}(xs:List α)(k:Nat):(List.replicate k xs).flatten.length=k*xs.length:=by
 induction k with
 |zero=>simp
 |succ k b6=>rw[List.replicate_succ,List.flatten_cons,List.length_append,b6,Nat.succ_mul,Nat.add_comm]
theorem SX:dp X (binaryOp .Mult) Iu:=by
 intro pins s σ H x y v u Q I bt bX h;obtain⟨l,k,xs,rfl,rfl,gY,h1,h2,bx,q⟩:=h;cases bt;obtain⟨t,rfl⟩:=bX;obtain⟨z,its,n,r,hl,e⟩:=I.ny gY;have hlen:its.toArray.size*k.toNat≤sizeLine:=by rw[List.size_toArray,←hl];exact bx
 have NY:¬its.toArray.size*k.toNat>(2^63-1)/8:=by
  have:(sizeLine:Nat)≤(2^63-1)/8:=by decide
  omega
 have N6:¬(!Builtin.List.listFitsIndex k)=true:=by rw[fitsIndex_both h1 h2];exact Bool.false_ne_true
 have zJ:¬Builtin.List.listTooLong (its.toArray.size*k.toNat)=true:=by rw[HB hlen];exact Bool.false_ne_true
 have Om:List.foldl (fun ip eP=>ip++eP) #[] (List.replicate (if its.toArray.isEmpty=true then 0 else k.toNat) its.toArray)=(List.replicate k.toNat its).flatten.toArray:=by
  have f0:∀m:Nat,List.foldl (fun ip eP=>ip++eP) #[] (List.replicate m its.toArray)=(List.replicate m its).flatten.toArray:=fun m=>by have:=foldl_rep its m [];rw[List.nil_append]at this;exact this
  rw[f0];cases its with
  |nil=>simp
  |cons a br=>rw[if_neg (by simp)]
 refine wpAny_binaryOp_repeat_ref (T:="list") (U:="int") (by decide) ⟨_,e,rfl⟩ (fun s'=>typeIs_int s' k t) noFill_list_mul F.fills_int_mul F.slot_int_rmul repeat_list F.slot_int_index.lookup
  (call_meets F.slot_int_rmul (typeIs_int s k t) F.entry_int_rmul (F.args_int_rmul_2 _ _) (int___rmul___int_list k t l its.toArray n)
    ⟨e,rfl,⟨_,e,rfl⟩,call_meets F.slot_list_mul ⟨_,e,rfl⟩ F.entry_list_mul (F.args_list_mul_2 _ _) (AutoListH.list___mul___list_int_3 l its.toArray n k t N6 NY zJ) ⟨e,?_⟩⟩)
 rw[Om];exact⟨.ref _,_,I.Ae (t':=s.toks) (r.rep k.toNat) (by rw[len_rep,Nat.mul_comm];exact bx),rfl,q _ I.fresh⟩
end
section
variable{prog:Program}{w:World}{A:Around}{E:Value→Shared→Prop}{s:Shared}
end
section
variable{X:aK}
end
section
variable{κ:Type}[DecidableEq κ]
def gf(aT:List (κ×V))(k:κ):Option V:=(aT.find? fun ew=>decide (ew.1=k)).map (·.2)
noncomputable def putK(aT:List (κ×V))(k:κ)(v:V):List (κ×V):=
 if(aT.any fun ew=>decide (ew.1=k))=true then aT.map (fun ew=>if ew.1=k then(ew.1,v)else ew)else aT++[(k,v)]
def Em(aT:List (κ×V))(k:κ):List (κ×V):=aT.filter fun ew=>decide (ew.1≠k)
theorem CH{p:κ×V}{r:List (κ×V)}{k:κ}(e:p.1=k):gf (p::r) k=some p.2:=by simp[gf,List.find?_cons,e]
theorem CG{p:κ×V}{r:List (κ×V)}{k:κ}(e:¬p.1=k):gf (p::r) k=gf r k:=by simp[gf,List.find?_cons,e]
theorem CF(k:κ):∀aT:List (κ×V),(aT.any fun ew=>decide (ew.1=k))=(gf aT k).isSome
 |[]=>rfl
 |p::r=>by
  rw[List.any_cons];by_cases e:p.1=k
  ·simp only[CH e,decide_eq_true e,Bool.true_or,Option.isSome_some]
  ·rw[CG e,decide_eq_false e,Bool.false_or];exact CF k r
theorem G_(aT:List (κ×V))(k:κ)(v:V):(putK aT k v).length≤aT.length+1:=by
 unfold putK
 split
 ·rw[List.length_map];omega
 ·rw[List.length_append,List.length_cons,List.length_nil];omega
theorem Ub{aT:List (κ×V)}{k:κ}(v:V)(h:gf aT k=none):putK aT k v=aT++[(k,v)]:=by unfold putK;rw[CF,h];exact if_neg (by decide)
theorem hz.sU{o:Option V}{u:Option Value}(r:hz o u):o.isSome=u.isSome:=by
 cases o with
 |none=>cases u with
  |none=>rfl
  |some _=>exact(show False from r).elim
 |some _=>cases u with
  |none=>exact(show False from r).elim
  |some _=>rfl
theorem hz.getD{o:Option V}{u:Option Value}{d:V}{d':Value}(r:hz o u)(Uv:RelV d d'):RelV (o.getD d) (u.getD d'):=by
 cases o with
 |none=>cases u with
  |none=>exact Uv
  |some _=>exact(show False from r).elim
 |some _=>cases u with
  |none=>exact(show False from r).elim
  |some _=>exact r
theorem fo.val{aT:List (κ×V)}{vs:List (κ×Value)}(r:fo aT vs)(k:κ):hz (gf aT k) (valueAt vs k):=by
 unfold fo at r;induction r with
 |nil=>exact True.intro
 | @cons p q aU kU h t b6=>
   obtain⟨h1,h2⟩:=h;by_cases e:p.1=k
   ·have cA:q.1=k:=h1.symm.trans e;have b:valueAt (q::kU) k=some q.2:=by simp[valueAt,List.find?_cons,cA]
    rw[CH e,b];exact h2
   ·have cA:¬q.1=k:=fun z=>e (h1.trans z);have b:valueAt (q::kU) k=valueAt kU k:=by simp[valueAt,List.find?_cons,cA]
    rw[CG e,b];exact b6
theorem fo.any{aT:List (κ×V)}{vs:List (κ×Value)}(r:fo aT vs)(k:κ):(aT.any fun ew=>decide (ew.1=k))=vs.any fun ew=>decide (ew.1=k):=by
 unfold fo at r;induction r with
 |nil=>rfl
 |cons h t b6=>rw[List.any_cons,List.any_cons,b6,h.1]
theorem fo.AW{aT:List (κ×V)}{vs:List (κ×Value)}(r:fo aT vs)(k:κ){y:V}{u:Value}(bX:RelV y u) :
  fo (aT.map fun ew=>if ew.1=k then(ew.1,y)else ew) (vs.map fun ew=>if ew.1=k then(ew.1,u)else ew):=by
 unfold fo at r ⊢;induction r with
 |nil=>exact .nil
 | @cons p q aU kU h t b6=>
   rw[List.map_cons,List.map_cons];refine .cons ?_ b6;obtain⟨h1,h2⟩:=h;by_cases e:p.1=k
   ·rw[if_pos e,if_pos (h1.symm.trans e)];exact⟨h1,bX⟩
   ·rw[if_neg e,if_neg (fun z=>e (h1.trans z))];exact⟨h1,h2⟩
theorem fo.put{aT:List (κ×V)}{vs:List (κ×Value)}(r:fo aT vs)(k:κ){y:V}{u:Value}(bX:RelV y u):fo (putK aT k y) (stored vs k u):=by
 unfold putK stored;rw[r.any k];by_cases e:(vs.any fun ew=>decide (ew.1=k))=true
 ·rw[if_pos e,if_pos e];exact r.AW k bX
 ·rw[if_neg e,if_neg e];exact Paired.snoc r ⟨rfl,bX⟩
theorem fo.drop{aT:List (κ×V)}{vs:List (κ×Value)}(r:fo aT vs)(k:κ):fo (Em aT k) (without vs k):=by
 unfold fo at r ⊢;unfold Em without;induction r with
 |nil=>exact .nil
 | @cons p q aU kU h t b6=>
   obtain⟨h1,h2⟩:=h;rw[List.filter_cons,List.filter_cons];by_cases e:p.1=k
   ·have a:¬decide (p.1≠k)=true:=by simp[e]
    have b:¬decide (q.1≠k)=true:=by simp[h1.symm.trans e]
    rw[if_neg a,if_neg b];exact b6
   ·have cA:¬q.1=k:=fun z=>e (h1.trans z);have a:decide (p.1≠k)=true:=by simp[e]
    have b:decide (q.1≠k)=true:=by simp[cA]
    rw[if_pos a,if_pos b];exact .cons ⟨h1,h2⟩ b6
theorem fo.length{aT:List (κ×V)}{vs:List (κ×Value)}(r:fo aT vs):aT.length=vs.length:=Paired.length r
end
theorem qF{P:Program}{w:World}{k:Key}{u:Value}(r:RelV (cT k) u):(iF P w).is k u=true:=by
 cases k with
 |inl i=>obtain⟨t,e⟩:=(show ∃t,u=Value.int i t from r);subst e;exact RG P w i t
 |inr x=>obtain⟨t,e⟩:=(show ∃t,u=Value.str x t from r);subst e;exact RH P w x t
theorem GI{P:Program}{w:World}:∀{bV:List Key}{us:List Value},Vals (bV.map cT) us→ItemsAre (iF P w) bV us
 |[],_,r=>by rw[List.map_nil]at r;cases r;exact .nil
 |k::bV,_,r=>by
  rw[List.map_cons]at r;cases r with
  |cons h t=>exact .cons (qF h) (GI t)
abbrev KT(H:ah):List (List Key×V)→List (List Key×Addr×Value)→Prop:=Paired fun p q=>p.1=q.1∧H q.2.1=some (.tup (p.1.map cT))∧RelV p.2 q.2.2
theorem KT.val{H:ah}{aT:List (List Key×V)}{xs:List (List Key×Addr×Value)}(r:KT H aT xs)(k:List Key):hz (gf aT k) ((atKey xs k).map (·.2)):=by
 induction r with
 |nil=>exact True.intro
 | @cons p q aU kU h t b6=>
   obtain⟨h1,_,h2⟩:=h;by_cases e:p.1=k
   ·have cA:q.1=k:=h1.symm.trans e;have b:atKey (q::kU) k=some q.2:=by simp[atKey,List.find?_cons,cA]
    rw[CH e,b];exact h2
   ·have cA:¬q.1=k:=fun z=>e (h1.trans z);have b:atKey (q::kU) k=atKey kU k:=by simp[atKey,List.find?_cons,cA]
    rw[CG e,b];exact b6
theorem KT.AW{H:ah}{aT:List (List Key×V)}{xs:List (List Key×Addr×Value)}(r:KT H aT xs)(k:List Key){y:V}{u:Value}(bX:RelV y u) :
  KT H (aT.map fun ew=>if ew.1=k then(ew.1,y)else ew) (xs.map (putAt k u)):=by
 induction r with
 |nil=>exact .nil
 | @cons p q aU kU h t b6=>
   rw[List.map_cons,List.map_cons];refine .cons ?_ b6;obtain⟨h1,h2,h3⟩:=h;unfold putAt;by_cases e:p.1=k
   ·rw[if_pos e,if_pos (h1.symm.trans e)];exact⟨h1,h2,bX⟩
   ·rw[if_neg e,if_neg (fun z=>e (h1.trans z))];exact⟨h1,h2,h3⟩
theorem KT.put{H:ah}{aT:List (List Key×V)}{xs:List (List Key×Addr×Value)}(r:KT H aT xs)(k:List Key){b:Addr}{y:V}{u:Value}(hb:H b=some (.tup (k.map cT)))(bX:RelV y u) :
  KT H (putK aT k y) (storedH xs k b u):=by
 have e:(aT.any fun ew=>decide (ew.1=k))=(atKey xs k).isSome:=by rw[CF,(r.val k).sU,Option.isSome_map]
 unfold putK storedH;rw[e];by_cases q:(atKey xs k).isSome=true
 ·rw[if_pos q,if_pos q];exact r.AW k bX
 ·rw[if_neg q,if_neg q];exact Paired.snoc r ⟨rfl,hb,bX⟩
theorem KT.keeps{H H':ah}{aT:List (List Key×V)}{xs:List (List Key×Addr×Value)}(r:KT H aT xs)(ht:∀b ys,H b=some (.tup ys)→H' b=some (.tup ys)):KT H' aT xs:=
 Paired.Aj r fun _ _ z=>⟨z.1,ht _ _ z.2.1,z.2.2⟩
section
variable{P:Program}{w:World}{H:ah}{h:Heap}{a:Addr}
theorem ID{u:dC}(ok:ez P w H h)(e:e3 H a u):fz P w H h a u:=e.ok ok
theorem oC{aT:List (Key×V)}(ok:ez P w H h)(e:e3 H a (.cW aT)):aT.length≤sizeLine∧(a==sysModules)=false∧∃vs,fo aT vs∧h.DictOf (iF P w) a vs:=
 show fz P w H h a (.cW aT)from ID ok e
theorem L5{aT:List (Key×V)}(ok:ez P w H h)(e:H a=some (.cW aT)):aT.length≤sizeLine∧(a==sysModules)=false∧∃vs,fo aT vs∧h.DictOf (iF P w) a vs:=oC ok (.inl e)
theorem qH{bV:List Key}(ok:ez P w H h)(e:H a=some (.tup (bV.map cT))):(tupleKind (iF P w)).is h bV a:=by obtain⟨_,its,r,o,h1,h2,n,h3⟩:=(show fz P w H h a (.tup (bV.map cT))from ok a _ e);exact⟨o,its.toArray,n,h1,h2,h3,by simpa using GI r⟩
theorem oE{aT:List (List Key×V)}(ok:ez P w H h)(e:e3 H a (.a_ aT)):aT.length≤sizeLine∧(a==sysModules)=false∧
  ∃xs,KT H aT xs∧h.DictOfH (tupleKind (iF P w)) a xs:=by
 obtain⟨z,y,xs,r,o,ag,du,h1,h2,h3,h4,h5⟩:=(show fz P w H h a (.a_ aT)from ID ok e);refine⟨z,y,xs,r,o,ag,du,h1,h2,h3,h4,fun x hx=>?_,h5⟩;have all:∀{l:List (List Key×V)}{m:List (List Key×Addr×Value)},KT H l m→∀x∈m,(tupleKind (iF P w)).is h x.1 x.2.1:=by
  intro l m q;induction q with
  |nil=>intro x hx;exact nomatch hx
  | @cons p q aU kU aO t b6=>
    intro x hx;rcases List.mem_cons.mp hx with e|hx
    ·subst e;exact qH ok (by rw[←aO.1];exact aO.2.1)
    ·exact b6 x hx
 exact all r x hx
theorem L_{aT:List (List Key×V)}(ok:ez P w H h)(e:H a=some (.a_ aT)):aT.length≤sizeLine∧(a==sysModules)=false∧
  ∃xs,KT H aT xs∧h.DictOfH (tupleKind (iF P w)) a xs:=oE ok (.inl e)
end
noncomputable def hS(H:ah)(a:Addr)(y:V)(r:Option V):Prop:=
 (∃aT k,e3 H a (.cW aT)∧y=cT k∧r=gf aT k)∨∃aT k b,e3 H a (.a_ aT)∧y=.ref b∧H b=some (.tup (k.map cT))∧r=gf aT k
noncomputable def n9(H:ah)(a:Addr)(y v:V)(H':ah):Prop:=
 (∃aT k,H a=some (.cW aT)∧y=cT k∧aT.length<sizeLine∧H'=upd H a (.cW (putK aT k v)))∨
 ∃aT k b,H a=some (.a_ aT)∧y=.ref b∧H b=some (.tup (k.map cT))∧aT.length<sizeLine∧H'=upd H a (.a_ (putK aT k v))
theorem hS.k{H:ah}{a:Addr}{aT:List (Key×V)}{k:Key}(e:H a=some (.cW aT)):hS H a (cT k) (gf aT k):=.inl ⟨aT,k,.inl e,rfl,rfl⟩
theorem hS.t{H:ah}{a b:Addr}{aT:List (List Key×V)}{k:List Key}(e:H a=some (.a_ aT))(bq:H b=some (.tup (k.map cT))):hS H a (.ref b) (gf aT k):=.inr ⟨aT,k,b,.inl e,rfl,bq,rfl⟩
theorem n9.k{H:ah}{a:Addr}{aT:List (Key×V)}{k:Key}{v:V}(e:H a=some (.cW aT))(hl:aT.length<sizeLine):n9 H a (cT k) v (upd H a (.cW (putK aT k v))):=.inl ⟨aT,k,e,rfl,hl,rfl⟩
theorem n9.t{H:ah}{a b:Addr}{aT:List (List Key×V)}{k:List Key}{v:V}(e:H a=some (.a_ aT))(bq:H b=some (.tup (k.map cT)))(hl:aT.length<sizeLine) :
  n9 H a (.ref b) v (upd H a (.a_ (putK aT k v))):=.inr ⟨aT,k,b,e,rfl,bq,hl,rfl⟩
section
variable{X:aK}{pins:List (Addr×Obj)}{σ :St}{H:ah}{s:Shared}{a:Addr}{y v:V}{u r:Value}{o:Option V}{A:Around}{E:Value→Shared→Prop}
theorem Inv.big(I:Inv X pins σ H s):sysModules<s.heap.objs.size:=by have h:mainGlobals<s.heap.objs.size:=(I.mod.glob.keeps I.ft).lt;exact Nat.lt_trans (by decide) h
theorem LO{Q:Value→Shared→Prop}(hu:A.units+1<cLine)(I:Inv X pins σ H s)(g:hS H a y (some v))(bX:RelV y u)(h:∀eZ s',Inv X pins σ H s'→RelV v eZ→Q eZ s') :
  wpAny (model X.prog X.w) A (getItem (.ref a) u) Q E s:=by
 rcases g with⟨aT,k,e,cX,l⟩|⟨aT,k,b,e,cX,bq,l⟩
 ·subst cX;obtain⟨z,hd,vs,rel,dd⟩:=oC I.bM e;obtain⟨eZ,hw,jW⟩:=hz.some_of (v:=v) (o:=valueAt vs k) (by rw[l];exact rel.val k);exact wpAny_getItem_of (qF bX) dd.mapOf hw (h eZ _ (I.tok _) jW)
 ·subst cX;cases(show u=Value.ref b from bX);obtain⟨z,hd,xs,rel,dd⟩:=oE I.bM e;obtain⟨eZ,hw,jW⟩:=hz.some_of (v:=v) (o:=(atKey xs k).map (·.2)) (by rw[l];exact rel.val k);obtain⟨p,hp,oQ⟩:=Option.map_eq_some_iff.mp hw;refine wpAny_getItem_heap (tupleKind_room_in1 hu) (qH I.bM bq) dd hp ?_;rw[oQ];exact h eZ _ (I.tok _) jW
theorem LP{Q:Value→Shared→Prop}(hu:A.units+1<cLine)(I:Inv X pins σ H s)(g:hS H a y o)(bX:RelV y u)(h:∀s',Inv X pins σ H s'→Q (.bool o.isSome) s') :
  wpAny (model X.prog X.w) A (compareOp .In u (.ref a)) Q E s:=by
 rcases g with⟨aT,k,e,cX,l⟩|⟨aT,k,b,e,cX,bq,l⟩
 ·subst cX;obtain⟨z,hd,vs,rel,dd⟩:=oC I.bM e;refine wpAny_in_of (qF bX) hd dd.mapOf ?_;rw[←(rel.val k).sU,←l];exact h _ (I.tok _)
 ·subst cX;cases(show u=Value.ref b from bX);obtain⟨z,hd,xs,rel,dd⟩:=oE I.bM e;refine wpAny_in_heap (tupleKind_room_in1 hu) (qH I.bM bq) hd dd ?_;have q:=(rel.val k).sU;rw[Option.isSome_map]at q;rw[←q,←l];exact h _ (I.tok _)
theorem LQ{Q:Value→Shared→Prop}(hu:A.units+1<cLine)(I:Inv X pins σ H s)(g:hS H a y o)(bX:RelV y u)(h:∀s',Inv X pins σ H s'→Q (.bool (!o.isSome)) s') :
  wpAny (model X.prog X.w) A (compareOp .NotIn u (.ref a)) Q E s:=by
 rcases g with⟨aT,k,e,cX,l⟩|⟨aT,k,b,e,cX,bq,l⟩
 ·subst cX;obtain⟨z,hd,vs,rel,dd⟩:=oC I.bM e;refine wpAny_notIn_of (qF bX) hd dd.mapOf ?_;rw[←(rel.val k).sU,←l];exact h _ (I.tok _)
 ·subst cX;cases(show u=Value.ref b from bX);obtain⟨z,hd,xs,rel,dd⟩:=oE I.bM e;refine wpAny_notIn_heap (tupleKind_room_in1 hu) (qH I.bM bq) hd dd ?_;have q:=(rel.val k).sU;rw[Option.isSome_map]at q;rw[←q,←l];exact h _ (I.tok _)
theorem Ef{h':Heap}{t':Nat}{aR:dC}(I:Inv X pins σ H s)(jo:r4 (H a))(hs:Heap.SameBut a s.heap h')(he:∃q,h'.get? a=some q)(new:fz X.prog X.w (upd H a aR) h' a aR) :
  Inv X pins σ (upd H a aR) { s with heap:=h',toks:=t' }:=
 I.write (x:=a) (e:=a) jo (.inl rfl) (fun b q hb z=>(hs.2 b hb).trans z) he new
theorem L4{P:Program}{w:World}{H':ah}{h':Heap}{aT:List (Key×V)}{vs:List (Key×Value)}(z:aT.length≤sizeLine)(hd:(a==sysModules)=false)(rel:fo aT vs)(dd:h'.DictOf (iF P w) a vs) :
  fz P w H' h' a (.cW aT):=⟨z,hd,vs,rel,dd⟩
theorem LU{H':ah}{Q:Unit→Shared→Prop}(hu:A.units+1<cLine)(I:Inv X pins σ H s)(g:n9 H a y v H')(bX:RelV y u)(b0:RelV v r)(h:∀s',Inv X pins σ H' s'→Q () s') :
  wpAny (model X.prog X.w) A (setItem (.ref a) u r) Q E s:=by
 rcases g with⟨aT,k,e,cX,l,sg⟩|⟨aT,k,b,e,cX,bq,l,sg⟩
 ·subst cX sg;obtain⟨z,hd,vs,rel,dd⟩:=L5 I.bM e;have bx:vs.length≤sizeLine:=by rw[←rel.length];exact z
  have hl:(putK aT k v).length≤sizeLine:=by have:=G_ aT k v;omega
  refine wpAny_setItem_pairs (hsz:=bx) (qF bX) dd fun h' uY hs=>h _ ?_;have he:∃q,h'.get? a=some q:=let⟨q,_,_,aO,_⟩:=uY;⟨q,aO⟩
  exact Ef I (by rw[e];exact True.intro) hs he (L4 hl hd (rel.put k b0) uY)
 ·subst cX sg;cases(show u=Value.ref b from bX);obtain⟨z,hd,xs,rel,dd⟩:=L_ I.bM e;have bx:xs.length≤sizeLine:=by rw[←Paired.length rel];exact z
  have hl:(putK aT k v).length≤sizeLine:=by have:=G_ aT k v;omega
  refine wpAny_setItem_heap (hsz:=bx) (tupleKind_room_in1 hu) (qH I.bM bq) dd fun h' uY hs=>h _ ?_;obtain⟨q,ag,du,aO,h2,h3,h4,_,h5⟩:=uY;refine Ef I (by rw[e];exact True.intro) hs ⟨q,aO⟩ ⟨hl,hd,_,(rel.put k bq b0).keeps fun c ys ec=>?_,q,ag,du,aO,h2,h3,h4,h5⟩;rw[dr (R0 ec e (fun z=>nomatch z))];exact ec
end
section
variable{X:aK}{pins:List (Addr×Obj)}{σ :St}{H:ah}{s:Shared}{a:Addr}{aT:List (Key×V)}{k:Key}{u:Value}{A:Around}{E:Value→Shared→Prop}
end
def xN(i:Expr):Prop:=∀dK fe,subscripted i false dK fe=operate [dK,fe] (getItem dK fe)
theorem Wf{prog:Program}{w:World}{A:Around}{E:Value→Shared→Prop}{s:Shared}{env:Env}{value slice:Expr}{pos:Pos}{T id:String}{Q:Value→Shared→Prop}(hl:typeLookup (.type T) "__getitem__"=pure (some (.builtin id)))(hs:xN slice)(h:wpAny (model prog w) A (eval value env) (fun o c2=>wpAny (model prog w) A (eval slice env) (fun i jX=>jX.TypeIs o T∧wpAny (model prog w) A (getItem o i) Q E jX) E c2) E s) :
  wpAny (model prog w) A (eval (.Subscript value slice pos) env) Q E s:=by
 refine Subscript_ (wpAny_mono h (fun o c2 jM=>wpAny_mono jM (fun i jX kM=>?_) fun _ _ x=>x) fun _ _ x=>x);obtain⟨hA,kM⟩:=kM;unfold subscriptTail;refine wpAny_bind ?_;rw[getitemInPython_of_ne hA.not_modules];refine wpAny_bind (wpAny_specialOf hA hl ?_);have fin:wpAny (model prog w) A (subscripted slice false o i) (fun r nZ=>wpAny (model prog w) A (letTemporaryGo value o r>>=fun _=>pure r) Q E nZ) E jX:=by rw[hs o i];exact wpAny_operating (wpAny_mono kM (fun r nZ lB=>wpAny_bind (wpAny_letTemporaryGo (wpAny_pure lB))) fun _ _ x=>x)
 first
  |exact wpAny_pure (wpAny_bind fin)
  |exact wpAny_bind (wpAny_pure (wpAny_bind fin))
  |exact wpAny_bind fin
theorem L0{X:aK}{pins:List (Addr×Obj)}{σ :St}{H:ah}{s:Shared}{a:Addr}{y:V}{o:Option V}(I:Inv X pins σ H s)(g:hS H a y o):s.TypeIs (.ref a) "dict":=by
 rcases g with⟨aT,k,e,_,_⟩|⟨aT,k,b,e,_,_,_⟩
 ·obtain⟨_,_,vs,_,dd⟩:=oC I.bM e;exact dd.typeIs
 ·obtain⟨_,_,xs,_,dd⟩:=oE I.bM e;exact dd.typeIs
noncomputable def Jj(gv ty:TE):TE:=fun σ H Q=>gv σ H fun x H1=>ty σ H1 fun y aM=>∃a v,x=.ref a∧hS aM a y (some v)∧Q v aM
noncomputable def Jl(ty gv:TE):TE:=fun σ H Q=>ty σ H fun y H1=>gv σ H1 fun x aM=>∃a o,x=.ref a∧hS aM a y o∧Q (.aD o.isSome) aM
noncomputable def Jm(ty gv:TE):TE:=fun σ H Q=>ty σ H fun y H1=>gv σ H1 fun x aM=>∃a o,x=.ref a∧hS aM a y o∧Q (.aD (!o.isSome)) aM
noncomputable def UN(gv ty mG:TE):eB:=fun D σ H=>mG σ H fun v H1=>gv σ H1 fun x aM=>ty σ aM fun y cO=>∃a gy,x=.ref a∧n9 cO a y v gy∧D.bj σ gy
section
variable{X:aK}{o i e value:Expr}{pos pos' rJ:Pos}{gv ty mG:TE}
theorem Th(hu:X.A.units+1<cLine)(ho:a3 X o gv)(hi:a3 X i ty)(hs:xN i):a3 X (.Subscript o i pos) (Jj gv ty):=by intro pins s σ H Q I h;refine Wf PySem.F.slot_dict_getitem.lookup hs (bI (ho pins s σ H _ I h) fun u s1⟨x,H1,a5,bt,aY⟩=>bI (hi pins s1 σ H1 _ a5 aY) fun fe s2⟨y,aM,cc,bX,a,v,ex,g,bA⟩=>?_);subst ex;obtain rfl:u=Value.ref a:=bt;exact⟨L0 cc g,LO hu cc g bX fun eZ s3 dS jW=>⟨v,aM,dS,jW,bA⟩⟩
theorem HY(hu:X.A.units+1<cLine)(hi:a3 X i ty)(ho:a3 X o gv):uu X .In i o (Jl ty gv):=by intro pins s σ H Q I h;refine bI (hi pins s σ H _ I h) fun fe s1⟨y,H1,a5,bX,aY⟩=>bI (ho pins s1 σ H1 _ a5 aY) fun u s2⟨x,aM,cc,bt,a,dK,ex,g,bA⟩=>?_;subst ex;obtain rfl:u=Value.ref a:=bt;exact LP hu cc g bX fun s3 dS=>⟨.aD dK.isSome,aM,dS,rfl,bA⟩
theorem S9(hu:X.A.units+1<cLine)(hi:a3 X i ty)(ho:a3 X o gv):uu X .NotIn i o (Jm ty gv):=by intro pins s σ H Q I h;refine bI (hi pins s σ H _ I h) fun fe s1⟨y,H1,a5,bX,aY⟩=>bI (ho pins s1 σ H1 _ a5 aY) fun u s2⟨x,aM,cc,bt,a,dK,ex,g,bA⟩=>?_;subst ex;obtain rfl:u=Value.ref a:=bt;exact LQ hu cc g bX fun s3 dS=>⟨.aD (!dK.isSome),aM,dS,rfl,bA⟩
theorem T1(hu:X.A.units+1<cLine)(ho:a3 X o gv)(hi:a3 X i ty)(hv:a3 X value mG)(hs:swapsWith value (some (.Subscript o i pos')) pos.line X.env=pure false) :
  cU X (.Assign [.Subscript o i pos'] value pos) (UN gv ty mG):=by
 intro pins s σ H D I h;refine wpAny_Assign_Subscript (bI (hv pins s σ H _ I h) fun r s1⟨v,H1,a5,b0,aY⟩=>bI (ho pins s1 σ H1 _ a5 aY) fun u s2⟨x,aM,cc,bt,bA⟩=>bI (hi pins s2 σ aM _ cc bA) fun fe s3⟨y,cO,dS,bX,a,gy,ex,g,en⟩=>?_) hs;subst ex;obtain rfl:u=Value.ref a:=bt;exact LU hu dS g bX b0 fun s4 j1=>⟨σ,gy,j1,en⟩
end
theorem L9{P:Program}{w:World}{H:ah}(h:Heap)(hb:sysModules<h.objs.size):fz P w H (h.push { cls:=.type "dict",data:=.dict #[] }) h.objs.size (.a_ []):=
 ⟨Nat.zero_le _,beq_eq_false_iff_ne.mpr (Ne.symm (Nat.ne_of_lt hb)),[],.nil,_,#[],0,Heap.get?_push_size _ rfl,⟨rfl,rfl,rfl⟩,rfl,rfl,List.nodup_nil⟩
def Wm:TE:=fun _ H Q=>∀p,H p=none→Q (.ref p) (upd H p (.a_ []))
section
variable{X:aK}{pos:Pos}
theorem Tj:a3 X (.Dict [] [] pos) Wm:=fun pins s σ H Q I h=>
 wpAny_Dict_empty ⟨.ref s.heap.objs.size,_,I.laid (a:=s.heap.objs.size) (o:=.a_ []) (t':=s.toks) (fun _ _ q=>Heap.get?_push_of_some _ q) (Nat.le_refl _) (L9 s.heap I.big),rfl,h _ (I.bM.fresh (Nat.le_refl _))⟩
end
structure KD(X:aK)(o:Expr)(m:Str)(apos:Pos)(e:Expr)(bC:Pos):Prop where
 base:attributeBase o m X.env (eval o X.env)=eval o X.env
 few:((backTo bC (starEach [e] X.env)).all (fun x=>!x.1)&&(backToKw bC (keywordEach [] X.env)).all (fun x=>x.1.isSome)
  &&decide (([e]:List Expr).length+([]:List Keyword).length+(if([]:List Keyword).isEmpty then 0 else 1)<30))=true
 line:(apos.endLine==bC.line)=true
 trees:backTo bC (starEach [e] X.env)=[(false,eval e X.env)]
def Dj(H:ah)(a:Addr):Prop:=(∃aT,e3 H a (.cW aT))∨∃aT,e3 H a (.a_ aT)
theorem PU{X:aK}{pins:List (Addr×Obj)}{σ :St}{H:ah}{s:Shared}{a:Addr}(I:Inv X pins σ H s)(d:Dj H a) :
  s.TypeIs (.ref a) "dict"∧(∀b,Value.ref a=.ref b→∃aR,s.heap.get? b=some aR∧aR.dict=none)∧(a==sysModules)=false:=by
 rcases d with⟨aT,e⟩|⟨aT,e⟩
 ·obtain⟨_,hd,vs,_,dd⟩:=oC I.bM e;refine⟨dd.typeIs,fun b q=>?_,hd⟩;cases q;obtain⟨aR,_,_,h1,h2,_⟩:=dd;exact⟨aR,h1,h2.2.1⟩
 ·obtain⟨_,hd,xs,_,dd⟩:=oE I.bM e;refine⟨dd.typeIs,fun b q=>?_,hd⟩;cases q;obtain⟨aR,_,_,h1,h2,_⟩:=dd;exact⟨aR,h1,h2.2.1⟩
section
variable{X:aK}{pins:List (Addr×Obj)}{σ :St}{H:ah}{s:Shared}{a:Addr}{y d:V}{u r:Value}{o:Option V}{A:Around}{E:Value→Shared→Prop}
theorem LN{Q:Value→Shared→Prop}(hu:A.units+1<cLine)(I:Inv X pins σ H s)(g:hS H a y o)(bX:RelV y u)(h:∀eZ s',Inv X pins σ H s'→RelV (o.getD .non) eZ→Q eZ s') :
  wpAny (model X.prog X.w) A (call (.builtin "dict.get") [.ref a,u]) Q E s:=by
 rcases g with⟨aT,k,e,cX,l⟩|⟨aT,k,b,e,cX,bq,l⟩
 ·subst cX;obtain⟨z,hd,vs,rel,dd⟩:=oC I.bM e;refine call_meetsIn PySem.F.slot_dict_get dd.typeIs PySem.F.entry_dict_get (PySem.F.args_dict_get_2 _ _) (meets_dict_get (iF X.prog X.w) a (qF bX) hd) ⟨_,dd.mapOf,h _ _ (I.tok _) ?_⟩;rw[l];exact(rel.val k).getD rfl
 ·subst cX;cases(show u=Value.ref b from bX);obtain⟨z,hd,xs,rel,dd⟩:=oE I.bM e;refine call_meetsIn PySem.F.slot_dict_get dd.typeIs PySem.F.entry_dict_get (PySem.F.args_dict_get_2 _ _) (meetsH_dict_get (tupleKind (iF X.prog X.w)) a b hd) ⟨tupleKind_room_in1 hu,k,xs,qH I.bM bq,dd,h _ _ (I.tok _) ?_⟩;rw[l];exact(rel.val k).getD rfl
end
noncomputable def Jk(gv ty:TE):TE:=fun σ H Q=>gv σ H fun x H1=>∃a,x=.ref a∧Dj H1 a∧ty σ H1 fun y aM=>∃o,hS aM a y o∧Q (o.getD .non) aM
section
variable{X:aK}{o e f:Expr}{apos bC:Pos}{gv ty dm:TE}
theorem Ti(hu:X.A.units+1<cLine)(ho:a3 X o gv)(he:a3 X e ty)(m:KD X o "get" apos e bC):a3 X (.Call (.Attribute o "get" apos) [e] [] bC) (Jk gv ty):=by intro pins s σ H Q I h;refine wpAny_Call_method m.base m.few m.line PySem.F.plainAttrs_dict PySem.F.slot_dict_get PySem.F.type_dict_get (bI (ho pins s σ H _ I h) fun u s1⟨x,H1,a5,bt,a,ex,d,aY⟩=>?_);subst ex;obtain rfl:u=Value.ref a:=bt;obtain⟨t1,d_,_⟩:=PU a5 d;refine⟨t1,d_,?_⟩;rw[m.trees];refine Calls.callWith_builtin rfl (Calls.evalArgs_plain (Calls.spliced_cons (bI (he pins s1 σ H1 _ a5 aY) fun fe s2⟨y,aM,cc,bX,dK,g,bA⟩=>Calls.spliced_nil ?_)));exact LN hu cc g bX fun eZ s3 dS jW=>⟨_,aM,dS,jW,bA⟩
end
section
variable{X:aK}{pins:List (Addr×Obj)}{σ :St}{H:ah}{s:Shared}{a:Addr}{aT:List (Key×V)}{A:Around}{E:Value→Shared→Prop}
end
section
variable{X:aK}{pins:List (Addr×Obj)}{σ :St}{H:ah}{s:Shared}{a:Addr}{y:V}{u:Value}{A:Around}{E:Value→Shared→Prop}
end
end aS
namespace C_
open PySem PySem.W PySem.Calls PyProof.Rows
theorem PQ{P:Params}{h:Heap}:∀(ns:List Int)(vs:List Value),WellAll P h vs (ns.map WData.int)→IntsAre vs ns:=by
 intro ns;induction ns with
 |nil=>intro vs w;rw[List.map_nil]at w;cases w;exact .nil
 |cons n ns b6=>
  intro vs w;rw[List.map_cons]at w;cases w with
  |cons a b=>cases a;exact .cons _ _ (b6 _ b)
theorem VB{l:OpenLaw}{n:Nat}(aJ:l.most=some n){P:Params}{h:Heap}{args:List WData}{vals:List Value}(vt:l.row.toRowW.claim.pre args=true)(zU:WellAll P h vals args) :
  ∃a vs ns,vals=[Value.ref a]∧args=[WData.list (ns.map WData.int)]∧h.get? a=some { cls:=.type "list",data:=.seq vs.toArray }∧IntsAre vs ns∧ns.length≤n:=by
 have Oy:WShape.hasAll [] args [.list .int]=true:=(pre_splitW vt).1;have hc:l.pre.holds [] { args:=args }=true:=(pre_splitW vt).2;obtain⟨d,r,rfl,h1,h2⟩:=hasAllW_cons Oy;obtain rfl:=hasAllW_nil h2;obtain⟨xs,rfl,h3⟩:=hasW_list h1;obtain⟨ns,rfl⟩:=items_int h3;have hlen:ns.length≤n:=by
  unfold OpenLaw.pre at hc;have h4:(WTm.not (.lt (.lit (.int (n:Int))) (.len (.arg 0)))).holds [] { args:=[.list (ns.map .int)] }=true:=by have h4:=(holds_andW hc).1;rw[aJ]at h4;exact h4
  have h5:=condW_of h4 (w_not (w_lt w_lit (w_len_list (w_arg rfl))));rw[List.length_map]at h5;refine Nat.le_of_not_lt fun q=>?_;have i4:(n:Int)<((ns.length:Nat):Int):=by omega
  first
   |(rw[decide_eq_true i4]at h5;exact absurd h5 (by decide))
   |(simp at h5;omega)
 cases zU with
 |cons ey eI=>
  cases eI;cases ey with
  |list ho zz=>exact⟨_,_,ns,rfl,rfl,ho,PQ ns _ zz,hlen⟩
theorem TX(l:OpenLaw)(args:List WData):l.row.toRowW.claim.post args (.bool true) args=true:=
 postW_of (r:=l.row.toRowW) (X:=(true==true))
  (show WShape.has [] (.bool true) .bool=true by first|rfl|decide|simp[WShape.has,WShape.arms,WShape.armsAll])
  (show(WTm.eq .res (.lit (.bool true))).value [] { args:=args,res:=some (.bool true),after:=args }=some (.bool (true==true))from w_eq_bool (w_res rfl) w_lit) rfl
theorem K8 {l:OpenLaw} {n:Nat} {q:Program} {loose:List Str} {qa:(Str→Option Value)→Heap→Prop} {mZ:World→Heap→Prop} {d:DefRec}(aJ:l.most=some n) (sG:d.params.defaults=[])(call:∀(w:World)(fY c2:Shared)(mg dq:Str→Option Value)(fv:Addr)(o:Obj)(pm cd doc:Value)(a:Addr)(vs:List Value)(ns:List Int),
    Ground q loose [] qa w fY mg dq c2.heap→mZ w c2.heap→
    c2.heap.get? fv=some o→o.data=.func (docDef d.name d.params d.body d.scope pm cd doc)→c2.heap.CodeRec cd d.name→mg d.name=some (.ref fv)→
    c2.heap.get? a=some { cls:=.type "list",data:=.seq vs.toArray }→IntsAre vs ns→ns.length≤n→c2.gens= #[]→
    codeAny (model l.prog w) callerA (.call (.ref fv) ⟨[.ref a],[]⟩) (fun r s'=>r=.ok (.ret (.bool true))∧OldK c2.heap s'.heap∧s'.os=c2.os∧AllBare s'.gens) c2) :
  WalkO q loose qa mZ l.row.toRowW d [] (fun f vs=>PySem.call f vs):=by
 intro w fY c2 mg dq G Y fv o pm cd doc uX cT ho hd hcd FV sJ hg args vals as vt Zh Zk zU Zi;obtain rfl:uX=.none:=Dflts.none FV sG;obtain rfl:cT=.none:=Dflts.noKw FV;obtain⟨a,vs,ns,rfl,rfl,zM,hints,hlen⟩:=VB aJ vt zU;refine enter_call (codeAny_mono (call w fY c2 mg dq fv o pm cd doc a vs ns G Y ho (fd_plain hd) hcd sJ zM hints hlen hg) fun r s' aO=>?_);obtain⟨rfl,h2,h3,h4⟩:=aO;exact⟨.inl ⟨.bool true,.bool true,[],rfl,fun _=>rfl,.bool true,TX l _,fun _=>⟨List.Pairwise.nil,fun _ hm=>(nomatch hm)⟩⟩,h2,h3,h4⟩
section
variable{prog:Program}{w:World}{A:Around}{E:Value→Shared→Prop}{s:Shared}{K:Frag}
end
end C_
namespace aS
open PySem PySem.Spec PyProof.Rows
theorem JO:∀{vs:List Value}{ns:List Int},IntsAre vs ns→Vals (ns.map V.int) vs
 |_,_,.nil=>.nil
 |_,_,.cons n t h=>.cons ⟨t,rfl⟩ (JO h)
def xP(H:ah):Prop:=∀b,H b=none∨∃o xs,H b=some (.j8 o (.lst xs))
theorem Q9{P:Program}{w:World}{K:PySem.W.Frag}{mg dq:Str→Option Value}{CX:ks}{k:Nat}{fv a:Addr}{fd:FuncData}{x:Str}{sp:iP}{c2:Shared}{vs:List Value}{ns:List Int}(ky:K.In c2.heap)(F8:c2.heap.Ns mainGlobals mg)(hb:c2.heap.Ns builtinsNs dq)(zB:∀x:Str,x≠"__name__"→dq x=bootBuiltins x)(Oh:c2.heap.NoLimit)(hg:c2.gens= #[])(ha:c2.heap.get? a=some { cls:=.type "list",data:=.seq vs.toArray })(hi:IntsAre vs ns)(hl:ns.length≤sizeLine)(hr:dE k callerA)(F:∀base:Heap,K.In base→base.Ns mainGlobals mg→hT P w K mg base CX k fv fd [x] sp)(NS:∀(s:Shared)(u:Value),BindsTo s fd ⟨[u],[]⟩ [(x,u)])(nq:∀H:ah,xP H→bS K H a (ns.map V.int)→sp [.ref a] H (fun v _=>v=.aD true) fun _ _ _=>False)(zw:∀H e s',CX [] H c2 (fun _ _ _=>False) e s'→False) :
  codeAny (model P w) callerA (.call (.ref fv) ⟨[.ref a],[]⟩) (fun r s'=>r=.ok (.ret (.bool true))∧OldK c2.heap s'.heap∧s'.os=c2.os∧AllBare s'.gens) c2:=by
 have b0:=JO hi;have Rh:=hi.length
 have core:∀H:ah,xP H→bS K H a (ns.map V.int)→ez P w H c2.heap→(∀b,H b≠none→b=a)→(H a≠none→K.lookup a=none)→
   codeAny (model P w) callerA (.call (.ref fv) ⟨[.ref a],[]⟩) (fun r s'=>r=.ok (.ret (.bool true))∧OldK c2.heap s'.heap∧s'.os=c2.os∧AllBare s'.gens) c2:=by
  intro H vj e7 bM nf hK;have DR:∀{b:Addr}{o:Obj},c2.heap.get? b=some o→H b=none→(me c2.heap H).get? b=some o:=fun e n=>N9 e n;have ts:∀{b:Addr}{o:Obj}{ag:Array DictEntry}{du:Nat},c2.heap.get? b=some o→o.data=.dict ag du→H b=none:=fun{b o ag du} e d=>by
   cases q:H b with
   |none=>rfl
   |some u=>have cA:b=a:=nf b (by rw[q];simp);subst cA;rw[ha]at e;cases e;have d':Data.seq vs.toArray _=Data.dict ag du:=d;cases d'
  have wu:∀{b:Addr}{m:Str→Option Value},c2.heap.Ns b m→(me c2.heap H).Ns b m:=fun{b m}⟨o,ag,du,e,d,r⟩=>⟨o,ag,du,DR e (ts e d),d,r⟩;have FW:K.In (me c2.heap H):=fun b o e=>DR (ky b o e) (by
   cases q:H b with
   |none=>rfl
   |some u=>have cA:b=a:=nf b (by rw[q];simp);subst cA;rw[hK (by rw[q];simp)]at e;cases e)
  have vi:Mod K mg (me c2.heap H):=⟨FW,wu F8,⟨dq,wu hb,zB⟩,let⟨wh,h1,h2⟩:=Oh;⟨wh,wu h1,h2⟩⟩;have bU:oa P w K mg (me c2.heap H) callerA [] c2 H:=⟨rfl,vi,fun b o e=>Sk e,Nat.le_of_eq (N_ _ _),trivial,fun b hb=>absurd (show b∈([]:List Addr)from hb) (by simp),bM,.of_eq hg⟩;refine codeAny_mono ((F _ FW (wu F8)).run callerA [] c2 H ⟨[.ref a],[]⟩ [.ref a] [.ref a] _ _ hr bU (NS c2 (.ref a)) (.cons rfl .nil) (nq H vj e7)) fun r s' h=>?_;cases r with
  |error e=>exact(zw H e s' h).elim
  |ok j6=>
   cases j6 with
   |next=>exact False.elim h
   |brk=>exact False.elim h
   |cont=>exact False.elim h
   |ret u=>
    obtain⟨v,H',os,bare,un,Ov,br,q⟩:=h;have i4:v=.aD true:=q;subst i4;obtain rfl:u=Value.bool true:=br;refine⟨rfl,OldK.of_keep fun b o e=>?_,os,bare⟩;cases q:H b with
    |none=>exact un.keep b o e q (by intro z;exact absurd (show b∈([]:List Addr)from z) (by simp)) (by simp)
    |some u=>
     rcases vj b with z|⟨aR,xs,z⟩
     ·rw[q]at z;cases z
     ·have aW:=un.jI b aR _ z;obtain⟨aj,_⟩:=bM b _ z;obtain⟨ax,_⟩:=Ov b _ aW;rw[e]at aj;cases aj;exact ax
 cases hk:K.lookup a with
 |some o=>have e:=ky a o hk;rw[ha]at e;cases e;refine core (fun _=>none) (fun _=>.inl rfl) (.inr ⟨_,vs.toArray,_,hk,rfl,rfl,rfl,by rw[List.size_toArray,Rh];exact hl,by simpa using b0⟩) (fun b u z=>by have gj:(none:Option dC)=some u:=z;cases gj) (fun b z=>absurd rfl z) fun z=>absurd rfl z
 |none=>
  refine core (fun b=>if b=a then some (.j8 { cls:=.type "list",data:=.seq vs.toArray } (.lst (ns.map V.int)))else none) (fun b=>?_) (.inl (.inr ⟨{ cls:=.type "list",data:=.seq vs.toArray },if_pos rfl⟩)) (fun b u z=>?_) (fun b z=>?_) fun _=>hk
  ·by_cases hb:b=a
   ·exact .inr ⟨_,_,if_pos hb⟩
   ·exact .inl (if_neg hb)
  ·by_cases hb:b=a
   ·have gj:=(if_pos hb).symm.trans z;cases gj;subst hb;exact⟨ha,by rw[List.length_map];exact hl,vs,_,b0,ha⟩
   ·have gj:=(if_neg hb).symm.trans z;cases gj
  ·by_cases hb:b=a
   ·exact hb
   ·exact absurd (if_neg hb) z
theorem XH {l:PySem.W.OpenLaw} {n k:Nat} {q:Program} {loose:List Str} {qa:(Str→Option Value)→Heap→Prop} {mZ:World→Heap→Prop} {d:DefRec} {K:Params→PySem.W.Frag} {CX:World→ks} {sp:World→iP} {x:Str}(aJ:l.most=some n) (oM:n≤sizeLine) (sG:d.params.defaults=[]) (hr:dE k callerA)(zy:∀(w:World)(h:Heap),mZ w h→(K w.params).In h)(F:∀(w:World)(mg:Str→Option Value)(fv:Addr)(h:Heap),(K w.params).In h→h.Ns mainGlobals mg→mg d.name=some (.ref fv)→
    ∃fd:FuncData,(∀(s:Shared)(u:Value),BindsTo s fd ⟨[u],[]⟩ [(x,u)])∧
     ∀base:Heap,(K w.params).In base→base.Ns mainGlobals mg→hT l.prog w (K w.params) mg base (CX w) k fv fd [x] (sp w))
  (nq:∀(w:World)(H:ah)(a:Addr)(ns:List Int),ns.length≤n→xP H→bS (K w.params) H a (ns.map V.int)→sp w [.ref a] H (fun v _=>v=.aD true) fun _ _ _=>False)
  (zw:∀(w:World)(H:ah)(s:Shared)(e:Value)(s':Shared),CX w [] H s (fun _ _ _=>False) e s'→False) :
  PySem.W.WalkO q loose qa mZ l.row.toRowW d [] (fun f vs=>PySem.call f vs):=by
 refine C_.K8 aJ sG fun w fY c2 mg dq fv o pm cd doc a vs ns G Y ho hd hcd sJ zM hints hlen hg=>?_;have ky:=zy w _ Y;obtain⟨fd,hb,mc⟩:=F w mg fv _ ky G.T.g sJ;exact Q9 ky G.T.g G.T.b G.T.builtins G.T.nolimit hg zM hints (Nat.le_trans hlen oM) hr mc hb (fun H vj e7=>nq w H a ns hlen vj e7) fun H e s'=>zw w H c2 e s'
noncomputable def inClass(s:Stmt)(j:Nat):Stmt:=match s with
 |.ClassDef _ _ _ body _ _ _ _ _ _ _=>body.getD j (.Pass ⟨0,0,0,0⟩)
 |_=>.Pass ⟨0,0,0,0⟩
noncomputable def jF(s:Stmt):Arguments:=match s with
 |.FunctionDef _ a _ _ _ _ _ _ _ _=>a
 |_=>{ posonlyargs:=[],args:=[],vararg:=none,kwonlyargs:=[],kw_defaults:=[],kwarg:=none,defaults:=[] }
def fO(s:Stmt):List Stmt:=match s with
 |.FunctionDef _ _ b _ _ _ _ _ _ _=>b
 |_=>[]
noncomputable def bQ(s:Stmt):Scope:=match s with
 |.FunctionDef _ _ _ _ _ _ sc _ _ _=>sc
 |_=>{ kind:=.function,names:=[],isGenerator:=false,isCoroutine:=false }
abbrev gk:ks:=fun _ _ _ _ _ _=>False
abbrev uj:dc:=fun _ _ _=>False
theorem rm{X:aK}:Passes gk X uj:=fun _ _ _ _ _ _ _ h=>h.elim
structure kv(K:PySem.W.Frag)(x qual:Str)(st:Stmt)(f:Addr)(fd:FuncData):Prop where
 ex:∃(e8:Value)(dT:Option Addr)(cT doc pm:Value)(an:Option Addr)(b9 c3:Value)(lH:Array (Option Value)),
  fd=PySem.W.fnOf x qual (jF st) (fO st) (bQ st) .none cT doc pm an b9 c3∧K.lookup f=some ⟨e8,dT,.func fd,lH⟩∧PySem.W.codeIn K b9 qual=true
 aL:PySem.W.keepIn K (.ref f)=true
section
variable{P:Program}{w:World}{K:PySem.W.Frag}{mg:Str→Option Value}{base:Heap}
theorem kv.ok {x qual:Str} {st:Stmt} {f:Addr} {fd:FuncData} {N aU:List Str} {k:Nat} {sp:iP} (F:kv K x qual st f fd) (S:cN N aU (bQ st)) (len:∀vs H Q E,sp vs H Q E→vs.length=aU.length)(zC:∀(b9:Value)(A:Around)(outer:List Env)(s:Shared)(H:ah)(vs:List V)(Q:cI)(E:dc),dE k (A.deeper (envOfC qual (bQ st) s.heap.objs.size f b9))→sp vs H Q E→
    ∃t,fa (iT gk P w K mg base N qual (bQ st) f b9 A outer s H E).jU (fO st) t∧t { bj:=fun _ H'=>Q .non H',dh:=Q } (start N vs) H):hT P w K mg base gk (k+1) f fd aU sp:=by
 obtain⟨e8,dT,cT,doc,pm,an,b9,c3,lH,rfl,lk,hcd⟩:=F.ex;refine Ny lk hcd S len fun A outer s H vs Q E hr nq=>?_;obtain⟨t,h,q⟩:=zC b9 A outer s H vs Q E hr nq;exact⟨t,h.jU,q⟩
theorem kv.binds{x qual:Str}{st:Stmt}{f:Addr}{fd:FuncData}{aU:List Str}(F:kv K x qual st f fd)(h:∀(cT doc pm:Value)(an:Option Addr)(b9 c3:Value)(us:List Value),us.length=aU.length→bindArgs (PySem.W.fnOf x qual (jF st) (fO st) (bQ st) .none cT doc pm an b9 c3) ⟨us,[]⟩=pure (aU.zip us)):Binds K fd aU []:=by obtain⟨e8,dT,cT,doc,pm,an,b9,c3,lH,rfl,lk,hcd⟩:=F.ex;exact .all (h cT doc pm an b9 c3)
theorem oJ{x qual:Str}{st:Stmt}{f:Addr}{e8:Value}{dT an:Option Addr}{lH:Array (Option Value)}{cT doc pm b9 c3:Value}(l:K.lookup f=some ⟨e8,dT,.func (PySem.W.fnOf x qual (jF st) (fO st) (bQ st) .none cT doc pm an b9 c3),lH⟩)(c:PySem.W.codeIn K b9 qual=true)(k:PySem.W.keepIn K (.ref f)=true):kv K x qual st f (PySem.W.fnOf x qual (jF st) (fO st) (bQ st) .none cT doc pm an b9 c3):=⟨⟨e8,dT,cT,doc,pm,an,b9,c3,lH,rfl,l,c⟩,k⟩
end
section
variable{X:aK}
end
def mU(H H':ah):Prop:=∀b o,H b=some o→H' b=some o
theorem mU.trans{H H1 aM:ah}(a:mU H H1)(b:mU H1 aM):mU H aM:=fun c o h=>b c o (a c o h)
theorem mU.free{H H':ah}(e:mU H H'){l:Addr}(h:H' l=Option.none):H l=Option.none:=by
 cases q:H l with
 |none=>rfl
 |some o=>rw[e l o q]at h;cases h
theorem mU.seq{K:PySem.W.Frag}{H H':ah}{a:Addr}{xs:List V}(e:mU H H')(h:bS K H a xs):bS K H' a xs:=by
 rcases h with(h|⟨o,h⟩)|h
 ·exact .inl (.inl (e _ _ h))
 ·exact .inl (.inr ⟨o,e _ _ h⟩)
 ·exact .inr h
section
variable{X:aK}
end
section
variable{κ:Type}[DecidableEq κ]
end
section
variable{X:aK}{pins:List (Addr×Obj)}{σ :St}{H H':ah}{s s':Shared}{a:Addr}{C qd:Value}{B:Heap}
end
section
variable{X:aK}{x:Str}{np bC pos YS:Pos}{C:Addr}{YN:List Value}{B newId Zq:String}{m:Str}{j:Nat}
end
abbrev Nf(a:Addr)(C:Value):dC:=.ext fun h=>∃aR,h.get? a=some aR∧aR.cls=C
section
variable{X:aK}{pins:List (Addr×Obj)}{σ :St}{H H':ah}{s s':Shared}{a:Addr}{C qd:Value}{B:Heap}{Ze:Heap}
end
section
variable{X:aK}{k:Nat}{f C:Addr}{fd:FuncData}{aU:List Str}{sp:iP}{E:dc}{x:Str}{p pos:Pos}{e:Expr}{ag:List Expr}{t:es}
end
section
variable{X:aK}{pins:List (Addr×Obj)}{σ :St}{H H':ah}{s s':Shared}{a:Addr}
end
section
variable{X:aK}{i:Nat}{x n:Str}{W:Addr}{e:Expr}{dO:TE}{E:dc}{Lh:Stmt}{Wg:List Stmt}{aA:eB}{tG np hp pos:Pos}
end
noncomputable def gD(env:Env):List (Str×NameKind)→List (Str×Addr)→List (Str×Addr)
 |[],cs=>cs
 |(x,k)::r,cs=>gD env r (if k==.free then(x,(env.cells.lookup x).getD 0)::cs else cs)
theorem D8{env:Env}:∀(names:List (Str×NameKind))(cs:List (Str×Addr)),(∀p∈names,p.2=.free→∃c,env.cells.lookup p.1=some c)→
 (forIn (m:=Sem) names cs fun(x:Str×NameKind) cs=>if(x.2==NameKind.free)=true then do
   let a ←cellOf env x.1
   pure (ForInStep.yield ((x.1,a)::cs))else pure (ForInStep.yield cs))=pure (gD env names cs)
 |[],cs,_=>rfl
 |(x,k)::r,cs,h=>by
  rw[List.forIn_cons];have b6:=D8 (env:=env) r;by_cases hk:k=.free
  ·subst hk;obtain⟨c,hc⟩:=h (x,.free) List.mem_cons_self rfl;have aj:cellOf env x=pure c:=by unfold cellOf;rw[hc]
   simp only[beq_self_eq_true,if_true,gD,aj,hc,Option.getD_some,pure_bind];exact b6 _ fun p hp=>h p (List.mem_cons_of_mem _ hp)
  ·have hb:(k==NameKind.free)=false:=by simpa using hk
   simp only[hb,Bool.false_eq_true,if_false,gD,pure_bind];exact b6 _ fun p hp=>h p (List.mem_cons_of_mem _ hp)
theorem D7{env:Env}{scope:Scope}(h:∀p∈scope.names,p.2=.free→∃c,env.cells.lookup p.1=some c):closureFor scope env=pure (gD env scope.names []):=by
 have e:=D8 (env:=env) scope.names [] h;unfold closureFor
 refine Eq.trans (b:=(forIn (m:=Sem) scope.names [] fun(x:Str×NameKind) cs=>if(x.2==NameKind.free)=true then do
   let a ←cellOf env x.1
   pure (ForInStep.yield ((x.1,a)::cs))else pure (ForInStep.yield cs))>>=pure) rfl ?_
 rw[e];rfl
theorem D6{env:Env}{x:Str}:∀(names:List (Str×NameKind))(cs:List (Str×Addr)),(∀p∈names,p.2=.free→∃c,env.cells.lookup p.1=some c)→
  (gD env names cs).lookup x=if(x,NameKind.free)∈names then env.cells.lookup x else cs.lookup x
 |[],cs,_=>by simp[gD]
 |(y,k)::r,cs,h=>by
  rw[gD,D6 r _ fun p hp=>h p (List.mem_cons_of_mem _ hp)];by_cases hm:(x,NameKind.free)∈r
  ·rw[if_pos hm,if_pos (List.mem_cons_of_mem _ hm)]
  ·rw[if_neg hm];by_cases hk:k=.free
   ·subst hk;obtain⟨c,hc⟩:=h (y,.free) List.mem_cons_self rfl;by_cases hx:x=y
    ·subst hx;rw[if_pos List.mem_cons_self];simp[List.lookup_cons,hc]
    ·have nm:¬(x,NameKind.free)∈(y,NameKind.free)::r:=fun z=>by
       rcases List.mem_cons.mp z with e|e
       ·exact hx (by injection e)
       ·exact hm e
     rw[if_neg nm];have hb:(x==y)=false:=by simpa using hx
     simp[List.lookup_cons,hb]
   ·have hb:(k==NameKind.free)=false:=by simpa using hk
    have nm:¬(x,NameKind.free)∈(y,k)::r:=fun z=>by
     rcases List.mem_cons.mp z with e|e
     ·exact hk (by injection e with _ ax;exact ax.symm)
     ·exact hm e
    rw[if_neg nm];simp[hb]
theorem LH {prog:Program} {w:World} {A:Around} {R:Result→Shared→Prop} {s:Shared} {elt target iter:Expr} {ifs:List Expr} {scope:Scope} {pos:Pos} {it acc:Value} {env:Env} (I:Nat→Shared→Prop)(turn:∀n s,I n s→wpAny (model prog w) A (pyNext it) (fun r c2=>match r with
    |none=>R (.ok .next) c2
    |some v=>wpAny (model prog w) A (letOwnedTupleGo target it v) (fun _ Jf=>wpAny (model prog w) A (assign target env v) (fun _ jX=>
       wpAny (model prog w) A (forIn ifs true fun c r=>if r=true then do let ok ←isTrue c env (eval c env);pure (ForInStep.yield ok)else pure (ForInStep.yield r)) (fun ok nZ=>
        if ok=true then wpAny (model prog w) A (eval elt env) (fun x w0=>
         wpAny (model prog w) A (call (.builtin "list.append") [acc,x]) (fun _ Jg=>∃m,m<n∧I m Jg) (notedBy (model prog w) A env fun e s'=>R (.error e) s') w0) (notedBy (model prog w) A env fun e s'=>R (.error e) s') nZ
        else ∃m,m<n∧I m nZ) (notedBy (model prog w) A env fun e s'=>R (.error e) s') jX) (notedBy (model prog w) A env fun e s'=>R (.error e) s') Jf) (notedBy (model prog w) A env fun e s'=>R (.error e) s') c2) (notedBy (model prog w) A env fun e s'=>R (.error e) s') s)
  (n:Nat) (h:I n s):codeAny (model prog w) A (.compLoop (.ListComp elt [⟨target,iter,ifs,0⟩] scope pos) 0 it acc env) R s:=by
 refine codeAny_loop rfl I (fun n s kK=>?_) n h;show wpAny _ A ((compTurn (.ListComp elt [⟨target,iter,ifs,0⟩] scope pos) 0 it acc env).onRaise (fun x=>do noteFrame x env;theTreesLotGoes x)) _ _ s;refine wpAny_noted ?_;rw[compTurn_list];refine wpAny_bind (wpAny_standAt (wpAny_bind (wpAny_mono (turn n s kK) (fun r c2 jM=>?_) fun _ _ h'=>h')));cases r with
 |none=>exact wpAny_pure jM
 |some v=>
  refine wpAny_bind (wpAny_mono jM (fun _ Jf OM=>?_) fun _ _ h'=>h');refine wpAny_bind (wpAny_mono OM (fun _ jX kM=>wpAny_bind (wpAny_mono kM (fun ok nZ lB=>?_) fun _ _ h'=>h')) fun _ _ h'=>h');cases ok with
  |false=>exact wpAny_pure ⟨rfl,lB⟩
  |true=>exact wpAny_bind (wpAny_bind (wpAny_mono lB (fun x w0 sP=>wpAny_bind (wpAny_mono sP (fun _ Jg gZ=>wpAny_pure (wpAny_pure ⟨rfl,gZ⟩)) fun _ _ h'=>h')) fun _ _ h'=>h'))
abbrev eS(X:aK)(scope:Scope)(N:List Str)(cl:List (Str×Addr))(C:Addr)(s:Shared)(H:ah)(aE:List Addr):aK where
 prog:=X.prog
 w:=X.w
 K:=X.K
 mg:=X.mg
 base:=X.base
 A:=X.A
 N:=N
 fY:=s
 r0:=H
 env:=compEnvC scope cl C X.env
 outer:=X.stack
 stack:=X.stack
 ex:=aE
 calm:=X.calm
 fn:=fun x=>scope.names.lookup x==some .cell
 g7:=[]
 xe:=fun _ _=>False
def ll(nl:Nat)(caps:List Nat)(σ :St):St:=List.replicate nl none++caps.map fun j=> σ.getD j none
def vA:Option NameKind→Bool
 |some .cell=>true
 |some .free=>true
 |_=>false
structure ku(sc:Scope)(mY:List Str)(scope:Scope)(N:List Str)(nl:Nat)(caps:List Nat):Prop where
 kind:scope.kind=.function
 uniq:∀x∈scope.names,scope.names.lookup x.1=some x.2
 free:∀x∈scope.names,x.2=.free→vA (sc.names.lookup x.1)=true
 len:N.length=nl+caps.length
 Lx:∀k j,caps[k]?=some j→∃x,mY[j]?=some x∧N[nl+k]?=some x∧scope.names.lookup x=some .free∧vA (sc.names.lookup x)=true
noncomputable def ql(sc:Scope)(mY:List Str)(scope:Scope)(N:List Str)(nl:Nat)(caps:List Nat):Bool:=
 (scope.kind==.function)&&scope.names.all (fun x=>scope.names.lookup x.1==some x.2&&(x.2 !=.free||vA (sc.names.lookup x.1)))&&
 (N.length==nl+caps.length)&&(caps.zipIdx.all fun z6=>match mY[z6.1]? with
   |none=>false
   |some x=>N[nl+z6.2]?==some x&&scope.names.lookup x==some .free&&vA (sc.names.lookup x))
theorem ku.of{sc:Scope}{mY:List Str}{scope:Scope}{N:List Str}{nl:Nat}{caps:List Nat}(h:ql sc mY scope N nl caps=true):ku sc mY scope N nl caps:=by
 unfold ql at h;rw[Bool.and_eq_true,Bool.and_eq_true,Bool.and_eq_true]at h;obtain⟨⟨⟨h1,h2⟩,h3⟩,h4⟩:=h;rw[List.all_eq_true]at h2 h4;refine⟨eq_of_beq h1,fun x hx=>?_,fun x hx e=>?_,eq_of_beq h3,fun k j e=>?_⟩
 ·have:=h2 x hx;rw[Bool.and_eq_true]at this;exact eq_of_beq this.1
 ·have:=h2 x hx;rw[Bool.and_eq_true]at this;have q:=this.2;rw[e]at q;simpa using q
 ·have m:(j,k)∈caps.zipIdx:=by
    rw[List.mem_zipIdx_iff_getElem?];exact e
  have q:=h4 _ m;dsimp only at q
  split at q
  ·cases q
  ·rename_i x ex;rw[Bool.and_eq_true,Bool.and_eq_true]at q;exact⟨x,ex,eq_of_beq q.1.1,eq_of_beq q.1.2,q.2⟩
theorem ku.locs{sc:Scope}{mY:List Str}{scope:Scope}{N:List Str}{nl:Nat}{caps:List Nat}(S:ku sc mY scope N nl caps):∀x∈scope.names,x.2=.local→scope.names.lookup x.1=some .local:=fun x hx e=>e▸S.uniq x hx
theorem yQ:∀(ns:List (Str×NameKind))(n:Nat)(a b:List (Str×Addr)),cellsFrom n ns (a++b)=cellsFrom n ns a++b
 |[],_,_,_=>rfl
 |(x,k)::r,n,a,b=>by
  unfold cellsFrom
  split
  ·exact yQ r (n+1) ((x,n)::a) b
  ·exact yQ r n a b
theorem uT{x:Str}{c:Addr}:∀(ns:List (Str×NameKind))(n:Nat)(a:List (Str×Addr)),(x,c)∈cellsFrom n ns a→(x,NameKind.cell)∈ns∨(x,c)∈a
 |[],_,_,h=>.inr h
 |(y,k)::r,n,a,h=>by
  unfold cellsFrom at h
  split at h
  ·rename_i hk;rcases uT r _ _ h with z|z
   ·exact .inl (List.mem_cons_of_mem _ z)
   ·rcases List.mem_cons.mp z with e|z
    ·injection e with aj ax;subst aj;rw[eq_of_beq hk];exact .inl List.mem_cons_self
    ·exact .inr z
  ·rcases uT r _ _ h with z|z
   ·exact .inl (List.mem_cons_of_mem _ z)
   ·exact .inr z
theorem R3{M:Model}{A:Around}{E:Value→Shared→Prop}{s:Shared}{scope:Scope}{globals:Addr}{cl:List (Str×Addr)}{qual:Str}{env:Env}{Q:Env→Shared→Prop}(ia:Q { scope:=scope,locals:=s.heap.objs.size,globals:=globals,cells:=cellsFrom (s.heap.objs.size+1) scope.names cl,qual:=qual,func:=none,code:=env.code,frame:=env.frame,builtins:=env.builtins } { s with heap:=pushCells (s.heap.push { cls:=.type "dict",data:=.dict #[] }) scope.names }) :
  wpAny M A (newFunctionEnv scope globals cl [] qual none .none (some env)) Q E s:=by
 simp only[newFunctionEnv,Option.isSome_some,if_true];refine wpAny_bind (wpAny_alloc ?_);refine wpAny_bind (wpAny_layCells _ (fun name kind cells=>by cases Oc:kind==NameKind.cell<;>simp[Oc]) _ _ _ _ ?_);rw[show({ s with heap:=s.heap.push { cls:=.type "dict",data:=.dict #[] } }:Shared).heap.objs.size=s.heap.objs.size+1 from Heap.size_push ..];exact wpAny_bind (wpAny_pure (wpAny_pure ia))
theorem AV{scope:Scope}{env:Env}{x:Str}{k:NameKind}(h:(relabel scope env).names.lookup x=some k):(x,k)∈scope.names∨(k=.cell∧(x,NameKind.free)∈scope.names):=by
 have m:=PySem.mem_of_lookup h;obtain⟨⟨y,q⟩,cK,e⟩:=List.mem_map.mp m;dsimp only at e
 split at e
 ·rename_i hc;injection e with aj ax;subst aj;have hf:q=.free:=by
   rw[Bool.and_eq_true,Bool.and_eq_true]at hc;exact eq_of_beq hc.1.1
  subst hf;exact .inr ⟨ax.symm,cK⟩
 ·injection e with aj ax;subst aj;subst ax;exact .inl cK
noncomputable def w4(iI:TI)(g:hY)(fZ:TT)(dO:TE)(nl:Nat)(caps:List Nat):TE:=fun σ H Q=>
 iI σ H fun cV H1=>∀acc,H1 acc=none→∃W:Nat→Nat→St→ah→Prop,(∃m,W 0 m (ll nl caps σ) (upd H1 acc (.lst [])))∧
  ∀i m σ' H',W i m σ' H'→(cV.stop i H'∧Q (.ref acc) H')∨
   (cV.go i H'∧∀x aM,cV.ja i H' x aM→g x σ' aM fun σ2 cO=>fZ σ2 cO fun b gy=>
      if b=true then dO σ2 gy fun y iM=>∃ys,iM acc=some (.lst ys)∧ys.length<sizeLine∧∃ee,ee<m∧W (i+1) ee σ2 (upd iM acc (.lst (ys++[y])))
      else ∃ee,ee<m∧W (i+1) ee σ2 gy)
section
variable{X:aK}{elt target iter:Expr}{ifs:List Expr}{scope:Scope}{pos:Pos}{N:List Str}{nl:Nat}{caps:List Nat}{iI:TI}{g:hY}{fZ:TT}{dO:TE}
noncomputable def mT(X:aK)(ifs:List Expr)(t:TT):Prop:=
 ∀(pins:List (Addr×Obj))(s:Shared)(σ :St)(H:ah)(Q:Bool→ah→Prop),Inv X pins σ H s→t σ H Q→
  wpAny (model X.prog X.w) X.A (forIn ifs true fun c r=>if r=true then do let ok ←isTrue c X.env (eval c X.env);pure (ForInStep.yield ok)else pure (ForInStep.yield r)) (ux X pins σ Q) X.xe s
def Wr:TT:=fun _ H Q=>Q true H
theorem T_:mT X [] Wr:=fun _ _ _ H _ I h=>wpAny_tests_nil ⟨H,I,h⟩
theorem Ua{c:Expr}{t:TT}(h:e2 X c t):mT X [c] t:=fun pins s σ H Q I hw=>wpAny_tests_one (h pins s σ H Q I hw)
theorem PR{pins:List (Addr×Obj)}{σ :St}{H:ah}{s s4:Shared}{cl:List (Str×Addr)}{aE:List Addr}(S:ku X.env.scope X.N scope N nl caps)(I:Inv X pins σ H s)(dQ:∀x c,cl.lookup x=some c→X.env.cells.lookup x=some c∨(scope.names.lookup x=some .cell∧s.heap.objs.size<c∧s4.heap.IsCell c none))(b7:∀x,(x,NameKind.free)∈scope.names→cl.lookup x=X.env.cells.lookup x)(hD:∀x,scope.names.lookup x=some .cell→∃c,cl.lookup x=some c∧s.heap.objs.size<c)(qD:∀x y c,cl.lookup x=some c→cl.lookup y=some c→x=y)(hf:∀b∈aE,jb X pins H b)(ic:∀b∈aE,b<s.heap.objs.size)(oP:s4.os=s.os)(hg:s4.gens=s.gens)(aJ:∃m,s4.heap.Ns s.heap.objs.size m)(hk:∀b o,s.heap.get? b=some o→s4.heap.get? b=some o) :
  Inv (eS X scope N cl s.heap.objs.size s H aE) [] (ll nl caps σ) H s4:=by
 refine⟨⟨I.ok.mod,?_,I.ok.glob,I.ok.blt,Nat.le_refl _,qD,fun x hx=>?_,fun x c z e=>?_,I.ok.hd,I.ok.frames,.inl rfl,fun b hb=>⟨Nat.ne_of_lt (ic b hb),fun x c e=>(dQ x c e).elim (fun e=>(hf b hb).2.2.2.2.1 x c e) fun e=>Nat.ne_of_gt (Nat.lt_trans (ic b hb) e.2.1)⟩,I.bs,Nat.le_trans I.ok.m5 I.pJ,fun b o e hb=>?_,fun b hb hs=>?_,I.stack,I.I9⟩,
  oP,?_,e4.kept hk,?_,fun x c e=>?_,I.bM.fresh (Nat.le_refl _),fun x c e=>(dQ x c e).elim (I.lx x c) fun e=>I.bM.fresh (Nat.le_of_lt e.2.1),fun p hp=>absurd (show p∈([]:List (Addr×Obj))from hp) (by simp),I.bM.kept hk,?_⟩
 ·show(relabel scope X.env).kind=.function;exact S.kind
 ·have hx:(relabel scope X.env).names.lookup x=some .cell∨(relabel scope X.env).names.lookup x=some .free:=hx;have hm:(x,NameKind.free)∈scope.names∨scope.names.lookup x=some .cell:=by
   rcases hx with h|h
   ·rcases AV h with m|⟨_,m⟩
    ·exact .inr (S.uniq _ m)
    ·exact .inl m
   ·rcases AV h with m|⟨e,_⟩
    ·exact .inl m
    ·cases e
  rcases hm with hm|hm
  rotate_left
  ·obtain⟨c,e,_⟩:=hD x hm;exact⟨c,e⟩
  have aO:=S.free _ hm rfl;have hc:∃c,X.env.cells.lookup x=some c:=by
   apply I.ok.has x;show X.env.scope.names.lookup x=some .cell∨X.env.scope.names.lookup x=some .free;cases e:X.env.scope.names.lookup x with
   |none=>rw[e]at aO;cases aO
   |some k=>
    rw[e]at aO
    cases k<;>first
     |exact .inl rfl
     |exact .inr rfl
     |cases aO
  obtain⟨c,e⟩:=hc;exact⟨c,by show cl.lookup x=some c;rw[b7 x hm];exact e⟩
 ·obtain⟨fb,cA,q⟩:=hD x (eq_of_beq z);rw[show cl.lookup x=some c from e]at cA;cases cA;exact Nat.le_of_lt q
 ·rcases(hf b hb).2.2.2.1 with z|z
  ·exact I.ok.pn b o e z
  ·exact absurd (Nat.lt_of_lt_of_le (Heap.lt_size (I.ok.bs b o e).1) z) (Nat.lt_irrefl _)
 ·rcases List.mem_cons.mp (I.wY b hs)with z|z
  ·exact(hf b hb).2.1 z
  ·exact(hf b hb).2.2.1 z
 ·rw[hg];exact I.bare
 ·obtain⟨m,aJ⟩:=aJ;refine⟨m,aJ,fun i x v h1 h2 h3=>?_⟩;have hN:N[i]?=some x:=h1;unfold ll at h2;by_cases hi:i<nl
  ·rw[List.getElem?_append_left (by simpa using hi),List.getElem?_replicate,if_pos hi]at h2;cases h2
  ·rw[List.getElem?_append_right (by simpa using hi),List.length_replicate,List.getElem?_map]at h2;cases e:caps[i-nl]? with
   |none=>rw[e]at h2;cases h2
   |some j=>
    rw[e]at h2;have h2: σ.getD j none=some v:=Option.some.inj h2;obtain⟨y,aj,ax,yX,eT⟩:=S.Lx _ _ e;have bE:(y,NameKind.free)∈scope.names:=PySem.mem_of_lookup yX;have dk:eC X.env.scope y:=by
     cases q:X.env.scope.names.lookup y with
     |none=>rw[q]at eT;cases eT
     |some k=>
      rw[q]at eT
      cases k<;>first
       |exact .inr (.inl q)
       |exact .inr (.inr q)
       |cases eT
    have iv:nl+(i-nl)=i:=by omega
    rw[iv,hN]at ax;cases ax;have hs: σ[j]?=some (some v):=by
     rw[List.getD_eq_getElem?_getD]at h2;cases q: σ[j]? with
     |none=>rw[q]at h2;cases h2
     |some o=>rw[q]at h2;exact congrArg some h2
    obtain⟨m0,_,hl⟩:=I.loc;obtain⟨u,r,l⟩:=hl j x v aj hs dk;refine⟨u,r,.inr ⟨?_,?_⟩⟩
    ·show(relabel scope X.env).names.lookup x=some .cell∨(relabel scope X.env).names.lookup x=some .free;rcases h3 with h3|h3|h3
     ·have h3:(relabel scope X.env).names.lookup x=some .local:=h3;rcases AV h3 with z|⟨z,_⟩
      ·have aW:scope.names.lookup x=some .local:=S.locs _ z rfl;rw[aW]at yX;cases yX
      ·cases z
     ·exact .inl h3
     ·exact .inr h3
    ·have aO:X.env.scope.names.lookup x≠some .local:=fun z=>by rw[z]at eT;cases eT
     rcases l with⟨z,_⟩|⟨_,c,a6,aW⟩
     ·exact absurd z aO
     ·refine⟨c,?_,aW.keeps hk⟩;show cl.lookup x=some c;rw[b7 x bE];exact a6
 ·rcases dQ x c e with e|e
  ·obtain⟨v,z⟩:=I.cell x c e;exact⟨v,z.keeps hk⟩
  ·exact⟨_,e.2.2⟩
 ·show(ll nl caps σ).length=N.length;unfold ll;rw[List.length_append,List.length_replicate,List.length_map,S.len]
theorem PT{pins:List (Addr×Obj)}{σ σ' :St}{H H':ah}{s s':Shared}{cl:List (Str×Addr)}{aE:List Addr}{h':Heap}(I:Inv X pins σ H s)(hf:∀b∈aE,jb X pins H b)(cV:Inv (eS X scope N cl s.heap.objs.size s H aE) [] σ' H' s')(hs:Heap.SameBut s.heap.objs.size s'.heap h'):Inv X pins σ H' { s' with heap:=h' }:=by
 have ne:∀b o,s.heap.get? b=some o→b≠s.heap.objs.size:=fun b o e=>Nat.ne_of_lt (Heap.lt_size e);have u:e4 (j7 X.stack) aE H H' s.heap s'.heap:=cV.base;have fr:H' s.heap.objs.size=none:=cV.free;refine I.Lj (ch:=aE) (s':={ s' with heap:=h' }) cV.os ⟨fun b o e n hb hx=>(hs.2 b (ne b o e)).trans (u.keep b o e n hb hx),fun b o e n hb hx=>?_,u.free,fun b o e hx=>?_,u.kn,u.jI,u.km⟩ (fun b o e=>?_) cV.bare fun b hb=>?_
 ·obtain⟨bZ,q⟩:=u.slot b o e n hb hx;exact⟨bZ,(hs.2 b (ne b o e)).trans q⟩
 ·obtain⟨cg,q⟩:=u.there b o e hx;exact⟨cg,(hs.2 b (ne b o e)).trans q⟩
 ·refine(cV.bM b o e).nY (fun c v hc q=>(hs.2 c ?_).trans q) (fun _ q=>q) fun _ _ q=>q;rintro rfl;rcases hc with z|z
  ·rw[←z,fr]at e;cases e
  ·rw[fr]at z;cases z
 ·obtain⟨_,f1,_,fE,f4,h_⟩:=hf b hb;exact⟨fE,f1,f4,h_⟩
theorem D9 {pins:List (Addr×Obj)} {σ :St} {s2:Shared} {aM:ah} {it:Addr} {aE:List Addr} {gw:Nat→Heap→Prop} {cV:It} {E:Value→Shared→Prop} {Q:ah→Prop} {W:Nat→Nat→St→ah→Prop} {m0:Nat}(S:ku X.env.scope X.N scope N nl caps) (hc:X.calm=true) (cc:Inv X pins σ aM s2) (T:Turn X.prog X.w X.K target cV aE it gw) (kj:gw 0 s2.heap) (f2:∀b∈aE,jb X pins aM b)(hg:∀cl C s H aE,jd (eS X scope N cl C s H aE) target g) (ht:∀cl C s H aE,mT (eS X scope N cl C s H aE) ifs fZ) (he:∀cl C s H aE,a3 (eS X scope N cl C s H aE) elt dO)(ko:W 0 m0 (ll nl caps σ) (upd aM s2.heap.objs.size (.lst [])))(turn:∀i m σ' H',W i m σ' H'→(cV.stop i H'∧Q H')∨
    (cV.go i H'∧∀x cO,cV.ja i H' x cO→g x σ' cO fun σ2 gy=>fZ σ2 gy fun b iM=>
       if b=true then dO σ2 iM fun y mQ=>∃ys,mQ s2.heap.objs.size=some (.lst ys)∧ys.length<sizeLine∧∃ee,ee<m∧W (i+1) ee σ2 (upd mQ s2.heap.objs.size (.lst (ys++[y])))
       else ∃ee,ee<m∧W (i+1) ee σ2 iM))
  (r6:Value→Addr→Result→Shared→Prop)
  (NL:∀(C:Addr) s' H',(∃m,s'.heap.Ns C m)→jb X pins H' C→(∀h',Heap.SameBut C s'.heap h'→Inv X pins σ H' { s' with heap:=h' })→Q H'→r6 (.ref s2.heap.objs.size) C (.ok .next) s') :
  wpAny (model X.prog X.w) X.A (newList []) (fun acc nZ=>wpAny (model X.prog X.w) X.A (newFunctionEnv scope X.env.globals (gD X.env scope.names []) [] X.env.qual none .none (some X.env)) (fun D3 w0=>
   codeAny (model X.prog X.w) X.A (.compStart (.ListComp elt [⟨target,iter,ifs,0⟩] scope pos) 0 (.ref it) acc { D3 with scope:=relabel scope X.env }) (r6 acc D3.locals) w0) E nZ) E s2:=by
 have vp:∀p∈scope.names,p.2=.free→∃c,X.env.cells.lookup p.1=some c:=fun p hp e=>by
  have q:=S.free p hp e;apply cc.ok.has p.1;show X.env.scope.names.lookup p.1=some .cell∨X.env.scope.names.lookup p.1=some .free;cases ax:X.env.scope.names.lookup p.1 with
  |none=>rw[ax]at q;cases q
  |some k=>
   rw[ax]at q
   cases k<;>first
    |exact .inl rfl
    |exact .inr rfl
    |cases q
 have vn:∀x,(gD X.env scope.names []).lookup x=if(x,NameKind.free)∈scope.names then X.env.cells.lookup x else none:=fun x=>D6 scope.names [] vp
 have Zg:aM s2.heap.objs.size=none:=cc.bM.fresh (Nat.le_refl _);refine wpAny_newObj_type (R3 ?_);dsimp only;have dS:Inv X pins σ (upd aM s2.heap.objs.size (.lst [])) { s2 with heap:=s2.heap.push { cls:=.type "list",dict:=none,data:=.seq ([]:List Value).toArray } }:=cc.Ae (its:=[]) (ys:=[]) (t':=s2.toks) .nil (Nat.zero_le _);generalize zO:({ s2 with heap:=s2.heap.push { cls:=.type "list",dict:=none,data:=.seq ([]:List Value).toArray } }:Shared)=s3 at dS;have zH:s2.heap.push { cls:=.type "list",dict:=none,data:=.seq ([]:List Value).toArray }=s3.heap:=by rw[←zO]
 rw[zH];have HI:∀b o,s2.heap.get? b=some o→s3.heap.get? b=some o:=fun b o e=>by rw[←zH];exact Heap.get?_push_of_some _ e
 have VM:s3.heap.objs.size=s2.heap.objs.size+1:=by rw[←zH,Heap.size_push]
 have vH:=yQ scope.names (s3.heap.objs.size+1) [] (gD X.env scope.names []);have ok:=cellsFrom_ok scope.names (s3.heap.push { cls:=.type "dict",data:=.dict #[] }) (s3.heap.objs.size+1) [] ⟨fun _ _ hm=>(nomatch hm),List.Pairwise.nil⟩ (by rw[Heap.size_push];exact Nat.le_refl _);have F9:=(Heap.Ns.new s3.heap (.type "dict")).keeps (pushCells_keeps scope.names _);have vI:∀b o,s3.heap.get? b=some o→(pushCells (s3.heap.push { cls:=.type "dict",data:=.dict #[] }) scope.names).get? b=some o:=fun b o e=>pushCells_keeps _ _ b o (Heap.get?_push_of_some _ e);rw[Heap.size_push]at ok;rw[List.nil_append]at vH;rw[vH];generalize pushCells (s3.heap.push { cls:=.type "dict",data:=.dict #[] }) scope.names=jM at F9 vI ok ⊢;have old:∀x c,X.env.cells.lookup x=some c→c<s3.heap.objs.size:=fun x c e=>by obtain⟨v,z⟩:=dS.cell x c e;exact z.lt
 have qC:∀x c,(cellsFrom (s3.heap.objs.size+1) scope.names []++gD X.env scope.names []).lookup x=some c→((x,c)∈cellsFrom (s3.heap.objs.size+1) scope.names []∧scope.names.lookup x=some .cell∧s3.heap.objs.size<c∧jM.IsCell c none)∨X.env.cells.lookup x=some c:=fun x c e=>by
  rw[List.lookup_append]at e;cases aj:(cellsFrom (s3.heap.objs.size+1) scope.names []).lookup x with
  |some fb=>
   rw[aj]at e;have e:fb=c:=Option.some.inj e;subst e;have m:=PySem.mem_of_lookup aj;rcases uT _ _ _ m with z|z
   ·exact .inl ⟨m,S.uniq _ z,(ok.empty _ _ m).2,(ok.empty _ _ m).1⟩
   ·cases z
  |none=>
   rw[aj]at e;have e:(gD X.env scope.names []).lookup x=some c:=e;rw[vn]at e
   split at e
   ·exact .inr e
   ·cases e
 have b7:∀x,(x,NameKind.free)∈scope.names→(cellsFrom (s3.heap.objs.size+1) scope.names []++gD X.env scope.names []).lookup x=X.env.cells.lookup x:=fun x hx=>by
  rw[List.lookup_append];cases aj:(cellsFrom (s3.heap.objs.size+1) scope.names []).lookup x with
  |some fb=>
   rcases uT _ _ _ (PySem.mem_of_lookup aj)with z|z
   ·have aY:=S.uniq _ z;have bA:=S.uniq _ hx;dsimp only at aY bA;rw[aY]at bA;cases bA
   ·cases z
  |none=>show(gD X.env scope.names []).lookup x=_;rw[vn,if_pos hx]
 have hD:∀x,scope.names.lookup x=some .cell→∃c,(cellsFrom (s3.heap.objs.size+1) scope.names []++gD X.env scope.names []).lookup x=some c∧s3.heap.objs.size<c:=fun x hx=>by obtain⟨c,e⟩:=yP (n:=s3.heap.objs.size+1) hx;exact⟨c,by rw[List.lookup_append,e];rfl,(ok.empty _ _ (PySem.mem_of_lookup e)).2⟩
 have qD:∀x y c,(cellsFrom (s3.heap.objs.size+1) scope.names []++gD X.env scope.names []).lookup x=some c→(cellsFrom (s3.heap.objs.size+1) scope.names []++gD X.env scope.names []).lookup y=some c→x=y:=fun x y c h1 h2=>by
  rcases qC x c h1 with a6|a6<;>rcases qC y c h2 with aW|aW
  ·exact name_of_addr ok.apart a6.1 aW.1
  ·exact absurd (old y c aW) (Nat.not_lt_of_gt a6.2.2.1)
  ·exact absurd (old x c a6) (Nat.not_lt_of_gt aW.2.2.1)
  ·exact dS.ok.inj x y c a6 aW
 have dQ:∀x c,(cellsFrom (s3.heap.objs.size+1) scope.names []++gD X.env scope.names []).lookup x=some c→X.env.cells.lookup x=some c∨(scope.names.lookup x=some .cell∧s3.heap.objs.size<c∧jM.IsCell c none):=fun x c e=>(qC x c e).elim (fun z=>.inr z.2) .inl;generalize cellsFrom (s3.heap.objs.size+1) scope.names []++gD X.env scope.names []=cl at qC dQ b7 hD qD ⊢;have F7:∀b∈aE,b<s2.heap.objs.size:=fun b hb=>by obtain⟨o,e,_⟩:=T.obj 0 _ kj b hb;exact Heap.lt_size e
 have fE:∀b∈aE,jb X pins (upd aM s2.heap.objs.size (.lst [])) b:=fun b hb=>by obtain⟨qd,a1⟩:=f2 b hb;exact⟨by rw[dr (Nat.ne_of_lt (F7 b hb))];exact qd,a1⟩
 have zK:∀b∈aE,b<s3.heap.objs.size:=fun b hb=>by rw[VM];exact Nat.lt_succ_of_lt (F7 b hb)
 have loop:∀s4:Shared,s4={ s3 with heap:=jM }→
   codeAny (model X.prog X.w) X.A (.compLoop (.ListComp elt [⟨target,iter,ifs,0⟩] scope pos) 0 (.ref it) (.ref s2.heap.objs.size) (compEnvC scope cl s3.heap.objs.size X.env))
    (r6 (.ref s2.heap.objs.size) s3.heap.objs.size) s4:=by
  intro s4 qx;have j1:Inv (eS X scope N cl s3.heap.objs.size s3 (upd aM s2.heap.objs.size (.lst [])) aE) [] (ll nl caps σ) (upd aM s2.heap.objs.size (.lst [])) s4:=
   PR S dS (by rw[qx];exact dQ) b7 hD qD fE zK (by rw[qx]) (by rw[qx]) ⟨_,by rw[qx];exact F9⟩ (by rw[qx];exact vI)
  have V9:gw 0 s4.heap:=T.keep 0 _ _ kj fun b hb o e=>by rw[qx];exact vI b o (HI b o e)
  generalize kc:eS X scope N cl s3.heap.objs.size s3 (upd aM s2.heap.objs.size (.lst [])) aE=B at j1;have stat:∀{H':ah},(∀b∈aE,H' b=none)→∀b∈aE,jb B [] H' b:=fun{H'} aJ b hb=>by
   subst kc;obtain⟨qd,a1,a2,e6,gA,lZ⟩:=fE b hb;refine⟨aJ b hb,Nat.ne_of_lt (zK b hb),fun z=>?_,.inl hb,fun x c e=>?_,fun p hp=>absurd (show p∈([]:List (Addr×Obj))from hp) (by simp)⟩
   ·rcases List.mem_cons.mp (dS.wY b z)with q|q
    ·exact a1 q
    ·exact a2 q
   ·rcases dQ x c e with e|e
    ·exact gA x c e
    ·exact Nat.ne_of_gt (Nat.lt_trans (zK b hb) e.2.1)
  have N7:jd B target g:=by subst kc;exact hg _ _ _ _ _
  have OA:mT B ifs fZ:=by subst kc;exact ht _ _ _ _ _
  have N4:a3 B elt dO:=by subst kc;exact he _ _ _ _ _
  have sh:B.prog=X.prog:=by subst kc;rfl
  have eu:B.w=X.w:=by subst kc;rfl
  have Eo:B.K=X.K:=by subst kc;rfl
  have Mk:B.A=X.A:=by subst kc;rfl
  have yY:B.env=compEnvC scope cl s3.heap.objs.size X.env:=by subst kc;rfl
  have Er:B.calm=true:=by subst kc;exact hc
  have Nh:B.xe=fun _ _=>False:=by subst kc;rfl
  rw[←sh,←eu,←Mk,←yY];refine LH (fun n s'=>∃i σ' H',Inv B [] σ' H' s'∧gw i s'.heap∧(∀b∈aE,H' b=none)∧W i n σ' H') ?_ m0 ⟨0,_,_,j1,V9,fun b hb=>(fE b hb).1,ko⟩;rintro n s5 ⟨i,σ5,iM,p3,rD,vc,Xu⟩;have away:∀{α:Type}{t:Sem α}{Dn:α→Shared→Prop}{Ks:Value→Shared→Prop}{mz:Shared},wpAny (model B.prog B.w) B.A t Dn B.xe mz→wpAny (model B.prog B.w) B.A t Dn Ks mz:=fun h=>wpAny_mono h (fun _ _ q=>q) fun e s' z=>by rw[Nh]at z;exact z.elim
  rcases turn i n σ5 iM Xu with⟨stop,q⟩|⟨go,step⟩
  ·have d:=T.done B sh eu Eo Er i [] s5 σ5 iM (notedBy (model B.prog B.w) B.A B.env fun e s'=>r6 (.ref s2.heap.objs.size) s3.heap.objs.size (.error e) s') p3 (stat vc) rD stop;rw[←sh,←eu]at d;refine bI d fun r gK⟨hr,r1⟩=>?_;subst hr;refine NL _ gK iM ?_ (dS.nc (Nat.le_refl _) ?_) (fun h' fR=>?_) q
   ·obtain⟨m,aJ,_⟩:=r1.loc;rw[yY]at aJ;exact⟨m,aJ⟩
   ·have z:=r1.free;rw[yY]at z;exact z
   ·subst kc;exact PT dS fE r1 fR
  ·have d:=T.item B sh eu Eo Er i [] s5 σ5 iM (notedBy (model B.prog B.w) B.A B.env fun e s'=>r6 (.ref s2.heap.objs.size) s3.heap.objs.size (.error e) s') p3 (stat vc) rD go;rw[←sh,←eu]at d;refine bI d fun r gK⟨u,hr,h6⟩=>?_;subst hr;refine bI h6 fun _ dV⟨x,f9,jy,ij,Yu,B9,NC⟩=>?_;have Ky:=jy.pinned (stat NC) (T.obj _ _ B9);refine away (bI (N7 _ dV σ5 f9 x u _ Ky ij (step x f9 Yu)) fun _ fJ⟨σ8,xD,Kz,Ul⟩=>?_);refine away (bI (OA _ fJ σ8 xD _ Kz Ul) fun b gL⟨Kt,Di,Ij⟩=>?_);have again:∀{σa:St}{p2:ah}{mz:Shared},Inv B ([]++tH aE dV.heap) σa p2 mz→(∃ee,ee<n∧W (i+1) ee σa p2)→∃m,m<n∧∃i σ' H',Inv B [] σ' H' mz∧gw i mz.heap∧(∀b∈aE,H' b=none)∧W i m σ' H':=fun{σa p2 mz} xE⟨ee,hm,XF⟩=>by
    refine⟨ee,hm,i+1,σa,p2,xE.xf,T.keep _ _ _ B9 fun b hb o e=>(xE.pin (b,o) (List.mem_append_right _ (List.mem_append_right _ (wj hb e)))).1,fun b hb=>?_,XF⟩;obtain⟨o,e,d⟩:=T.obj _ _ B9 b hb;exact(xE.pin (b,o) (List.mem_append_right _ (List.mem_append_right _ (wj hb e)))).2.1
   cases b with
   |false=>exact again Di Ij
   |true=>show wpAny _ _ (eval elt B.env) _ _ gL;refine away (bI (N4 _ gL σ8 Kt _ Di Ij) fun C8 lK⟨y,Dg,Kv,bX,ys,ha,bx,Uj⟩=>?_);refine away (bI (tn _ lK σ8 Dg (.ref s2.heap.objs.size) [y] (.ref s2.heap.objs.size) [C8] (fun _ Dh=>Dh=upd Dg s2.heap.objs.size (.lst (ys++[y]))) Kv rfl (.cons bX .nil) ⟨_,ys,y,rfl,rfl,ha,bx,rfl⟩) fun _ lL⟨z,Dh,Kw,_,Mc⟩=>?_);subst Mc;exact again Kw Uj
 exact codeAny_compStart_list (loop _ (by rw[←zO])) (T.self X.A 0 _ _ _ (T.keep 0 _ _ kj fun b hb o e=>vI b o (HI b o e)) (loop _ (by rw[←zO])))
theorem F4{pins:List (Addr×Obj)}{σ :St}{s:Shared}{H:ah}(S:ku X.env.scope X.N scope N nl caps)(I:Inv X pins σ H s):∀p∈scope.names,p.2=.free→∃c,X.env.cells.lookup p.1=some c:=fun p hp e=>by
 have q:=S.free p hp e;apply I.ok.has p.1;show X.env.scope.names.lookup p.1=some .cell∨X.env.scope.names.lookup p.1=some .free;cases ax:X.env.scope.names.lookup p.1 with
 |none=>rw[ax]at q;cases q
 |some k=>
  rw[ax]at q
  cases k<;>first
   |exact .inl rfl
   |exact .inr rfl
   |cases q
theorem Tg(S:ku X.env.scope X.N scope N nl caps)(hc:X.calm=true)(hi:f_ X target iter iI)(hg:∀cl C s H aE,jd (eS X scope N cl C s H aE) target g)(ht:∀cl C s H aE,mT (eS X scope N cl C s H aE) ifs fZ)(he:∀cl C s H aE,a3 (eS X scope N cl C s H aE) elt dO)(hs:∀x,foldedSetIterable iter X.env x=pure x:=by intro _;rfl):a3 X (.ListComp elt [⟨target,iter,ifs,0⟩] scope pos) (w4 iI g fZ dO nl caps):=by intro pins s σ H Q I h;rw[eval_ListComp];refine wpAny_comprehension_free (use:=none) rfl hs (D7 (F4 S I)) S.kind S.locs ?_;refine bI (hi pins s σ H _ I h) fun v s1 h1=>bI h1 fun vC s2 h2=>?_;obtain⟨it,aE,gw,cV,aM,e,cc,T,kj,f2,k⟩:=h2;subst e;obtain⟨W,⟨m0,ko⟩,turn⟩:=k s2.heap.objs.size (cc.bM.fresh (Nat.le_refl _));refine D9 (Q:=fun H'=>Q (.ref s2.heap.objs.size) H') S hc cc T kj f2 hg ht he ko turn (fun acc C=>compPost (model X.prog X.w) X.A X.xe none (gm X pins σ Q) acc C) ?_;intro C s' H' aJ _ kK q;obtain⟨m,aJ⟩:=aJ;exact⟨m,aJ,fun h' fR=>⟨.ref s2.heap.objs.size,H',kK h' fR,rfl,q⟩⟩
theorem TZ{i:Nat}{y:Str}{py rB:Pos}(S:ku X.env.scope X.N scope N nl caps)(hc:X.calm=true)(hN:X.N.Nodup)(cK:X.N[i]?=some y)(hl:X.env.kindOf y=some .local)(hi:f_ X target iter iI)(hg:∀cl C s H aE,jd (eS X scope N cl C s H aE) target g)(ht:∀cl C s H aE,mT (eS X scope N cl C s H aE) ifs fZ)(he:∀cl C s H aE,a3 (eS X scope N cl C s H aE) elt dO)(oT:swapsWith (.ListComp elt [⟨target,iter,ifs,0⟩] scope pos) (some (.Name y py)) rB.line X.env=pure true:=by rfl)(hs:∀x,foldedSetIterable iter X.env x=pure x:=by intro _;rfl):cU X (.Assign [.Name y py] (.ListComp elt [⟨target,iter,ifs,0⟩] scope pos) rB) (mD (w4 iI g fZ dO nl caps) (iz i)):=by
 intro pins s σ H bO I h;rw[exec_Assign_Name_used _ _ _ _ oT];refine wpAny_bind (wpAny_standAt (wpAny_bind ?_));show wpAny _ X.A (do let _ ←comprehension (.ListComp elt [⟨target,iter,ifs,0⟩] scope pos) scope X.env _ (newList []) false (eval iter X.env) (some (assign (.Name y py) X.env))) _ _ s;refine wpAny_bind (wpAny_mono (wpAny_comprehension_free (use:=some (assign (.Name y py) X.env)) (Q:=fun _ s'=>oj X pins bO .next s') rfl hs (D7 (F4 S I)) S.kind S.locs ?_) (fun _ s' aO=>wpAny_pure (wpAny_pure aO)) fun _ _ e=>e);refine bI (hi pins s σ H _ I h) fun v s1 h1=>bI h1 fun vC s2 h2=>?_;obtain⟨it,aE,gw,cV,aM,e,cc,T,kj,f2,k⟩:=h2;subst e;obtain⟨W,⟨m0,ko⟩,turn⟩:=k s2.heap.objs.size (cc.bM.fresh (Nat.le_refl _));refine D9 (Q:=fun H'=>bO.bj (σ.set i (some (.ref s2.heap.objs.size))) H') S hc cc T kj f2 hg ht he ko turn (fun acc C=>compPost (model X.prog X.w) X.A X.xe (some (assign (.Name y py) X.env)) (fun _ s'=>oj X pins bO .next s') acc C) ?_;intro C s' H' aJ jJ kK q;obtain⟨m,aJ⟩:=aJ;show wpAny _ X.A (assign (.Name y py) X.env (.ref s2.heap.objs.size)) _ _ s';have k7:Inv X pins σ H' s':=kK s'.heap (Heap.SameBut.refl _ _);refine wpAny_assign_Name (Ja (v:=.ref s2.heap.objs.size) k7 hN cK (.inl hl) (show RelV (V.ref _) _ from rfl) (fun tL Ku Ox=>?_) (.inr hl));obtain⟨a,Ow,ha⟩:=Ox;obtain⟨jD,ck,eE,gT,l6,Li⟩:=jJ;have RT:C≠a:=by
  rcases ha with z|z
  ·rw[z];exact ck
  ·exact fun w=>l6 y a z w.symm
 refine⟨m,aJ.sameBut Ow RT,fun h' fR=>?_⟩;exact⟨_,H',Ku.turned (t':=tL.toks) (it:=C) (fun b o hb e=>(fR.2 b hb).trans e) jD ck gT l6 Li,q⟩
end
end aS
namespace ay
open PySem aS
inductive D where
 |non|aD (b:Bool)|int (i:Int)|str (x:Str)
 |tup (xs:List D)|lst (xs:List D)|bY (xs:List D)
 |cW (bV:List Key) (xs:List D)|a_ (bV:List (List Key)) (xs:List D)
 |ins (c:Str) (ns:List Str) (xs:List D)
 |l9 (c:Str)
 |de (xs:List D)
def Sub(G H:ah):Prop:=∀b o,G b=some o→H b=some o
theorem Sub.refl(G:ah):Sub G G:=fun _ _ e=>e
theorem Sub.trans{G H I:ah}(a:Sub G H)(b:Sub H I):Sub G I:=fun c o e=>b c o (a c o e)
theorem Sub.gone{G H:ah}(a:Sub G H){b:Addr}(h:H b=none):G b=none:=by
 cases e:G b with
 |none=>rfl
 |some o=>rw[a b o e]at h;cases h
theorem Sub.upd{G:ah}{a:Addr}{o:dC}(h:G a=none):Sub G (upd G a o):=fun b u e=>by rw[dr (jr e h)];exact e
theorem Sub.xg{G H:ah}{a:Addr}{o:dC}(s:Sub G H)(h:G a=none):Sub G (aS.upd H a o):=fun b u e=>by rw[dr (jr e h)];exact s b u e
theorem Sub.both{G H:ah}{a:Addr}{o:dC}(s:Sub G H):Sub (aS.upd G a o) (aS.upd H a o):=fun b u e=>by
 by_cases hb:b=a
 ·subst hb;rw[dA]at e ⊢;exact e
 ·rw[dr hb]at e ⊢;exact s b u e
theorem Sub.at{G H:ah}{a:Addr}{o:dC}(s:Sub G H)(h:H a=some o):Sub (aS.upd G a o) H:=fun b u e=>by
 by_cases hb:b=a
 ·subst hb;rw[dA]at e;rw[h];exact e
 ·rw[dr hb]at e;exact s b u e
structure bT(G H G' H':ah):Prop where
 g:Sub G G'
 h:Sub H H'
 n:∀b,H b≠none→G' b=G b
theorem Sub.some{G H:ah}(s:Sub G H){b:Addr}(h:G b≠none):H b≠none:=fun z=>h (s.gone z)
theorem bT.refl(G H:ah):bT G H G H:=⟨Sub.refl _,Sub.refl _,fun _ _=>rfl⟩
theorem bT.trans{G H aN H1 cE aM:ah}(a:bT G H aN H1)(b:bT aN H1 cE aM):bT G H cE aM:=⟨a.g.trans b.g,a.h.trans b.h,fun c hc=>(b.n c (a.h.some hc)).trans (a.n c hc)⟩
theorem bT.lay{G H:ah}{p:Addr}{o:dC}(s:Sub G H)(hp:H p=none):bT G H (aS.upd G p o) (aS.upd H p o):=⟨Sub.upd (s.gone hp),Sub.upd hp,fun b hb=>by rw[dr];intro e;subst e;exact hb hp⟩
theorem bT.lay0{G H:ah}{p:Addr}{o:dC}(hp:H p=none):bT G H G (aS.upd H p o):=⟨Sub.refl _,Sub.upd hp,fun _ _=>rfl⟩
theorem bT.put{G H G' H':ah}{p:Addr}{o:dC}(u:bT G H G' H')(hp:H p=none)(hg:G' p=none):bT G H (aS.upd G' p o) H':=⟨u.g.trans (Sub.upd hg),u.h,fun b hb=>by
 rw[dr]
 ·exact u.n b hb
 ·intro e;subst e;exact hb hp⟩
theorem e3.mono{G H:ah}(s:Sub G H){a:Addr}{u:dC}(r:e3 G a u):e3 H a u:=by
 rcases r with r|⟨o,r⟩
 ·exact .inl (s _ _ r)
 ·exact .inr ⟨o,s _ _ r⟩
theorem bS.mono{K:PySem.W.Frag}{G H:ah}(s:Sub G H){a:Addr}{xs:List V}(r:bS K G a xs):bS K H a xs:=by
 rcases r with r|r
 ·exact .inl (e3.mono s r)
 ·exact .inr r
theorem cv.mono{K:PySem.W.Frag}{G H:ah}(s:Sub G H){a:Addr}{xs:List V}(r:cv K G a xs):cv K H a xs:=by
 rcases r with r|r
 ·exact .inl (e3.mono s r)
 ·exact .inr r
def hn(K:PySem.W.Frag)(c:Str)(C:Addr):Prop:=PySem.W.nsIn K mainGlobals c=some (some (.ref C))
mutual
noncomputable def At(K:PySem.W.Frag)(G:ah):D→V→Prop
 |.non,v=>v=.non
 |.aD b,v=>v=.aD b
 |.int i,v=>v=.int i
 |.str x,v=>v=.str x
 |.tup ds,v=>∃a xs,v=.ref a∧G a=some (.tup xs)∧aI K G ds xs
 |.de ds,v=>∃a xs,v=.ref a∧cv K G a xs∧aI K G ds xs
 |.lst ds,v=>∃a xs,v=.ref a∧G a=some (.lst xs)∧aI K G ds xs
 |.bY ds,v=>∃a xs,v=.ref a∧bS K G a xs∧aI K G ds xs
 |.cW bV ds,v=>∃a xs,v=.ref a∧G a=some (.cW xs)∧xs.map (·.1)=bV∧aI K G ds (xs.map (·.2))
 |.a_ bV ds,v=>∃a xs,v=.ref a∧G a=some (.a_ xs)∧xs.map (·.1)=bV∧aI K G ds (xs.map (·.2))
 |.ins c ns ds,v=>∃a a0 xs,v=.ref a∧(∃C,hn K c C∧G a=some (.ins C a0 xs))∧xs.map (·.1)=ns∧aI K G ds (xs.map (·.2))
 |.l9 c,v=>∃(a:Addr)(xs:List V),v=.ref a∧(∃C,hn K c C∧G a=some (Nf a (.ref C)))∧xs=[]
noncomputable def aI(K:PySem.W.Frag)(G:ah):List D→List V→Prop
 |[],vs=>vs=[]
 |d::ds,vs=>∃v r,vs=v::r∧At K G d v∧aI K G ds r
end
mutual
theorem At.mono{K:PySem.W.Frag}{G H:ah}(s:Sub G H):∀{d:D}{v:V},At K G d v→At K H d v
 |.non,_,h=>by simpa only[At]using h
 |.aD _,_,h=>by simpa only[At]using h
 |.int _,_,h=>by simpa only[At]using h
 |.str _,_,h=>by simpa only[At]using h
 |.tup _,_,h=>by simp only[At]at h ⊢;obtain⟨a,xs,e,q,r⟩:=h;exact⟨a,xs,e,s _ _ q,aI.mono s r⟩
 |.de _,_,h=>by simp only[At]at h ⊢;obtain⟨a,xs,e,q,r⟩:=h;exact⟨a,xs,e,cv.mono s q,aI.mono s r⟩
 |.lst _,_,h=>by simp only[At]at h ⊢;obtain⟨a,xs,e,q,r⟩:=h;exact⟨a,xs,e,s _ _ q,aI.mono s r⟩
 |.bY _,_,h=>by simp only[At]at h ⊢;obtain⟨a,xs,e,q,r⟩:=h;exact⟨a,xs,e,bS.mono s q,aI.mono s r⟩
 |.cW _ _,_,h=>by simp only[At]at h ⊢;obtain⟨a,xs,e,q,k,r⟩:=h;exact⟨a,xs,e,s _ _ q,k,aI.mono s r⟩
 |.a_ _ _,_,h=>by simp only[At]at h ⊢;obtain⟨a,xs,e,q,k,r⟩:=h;exact⟨a,xs,e,s _ _ q,k,aI.mono s r⟩
 |.ins _ _ _,_,h=>by simp only[At]at h ⊢;obtain⟨a,a0,xs,e,⟨C,ck,q⟩,k,r⟩:=h;exact⟨a,a0,xs,e,⟨C,ck,s _ _ q⟩,k,aI.mono s r⟩
 |.l9 _,_,h=>by simp only[At]at h ⊢;obtain⟨a,xs,e,⟨C,ck,q⟩,r⟩:=h;exact⟨a,xs,e,⟨C,ck,s _ _ q⟩,r⟩
theorem aI.mono{K:PySem.W.Frag}{G H:ah}(s:Sub G H):∀{ds:List D}{vs:List V},aI K G ds vs→aI K H ds vs
 |[],_,h=>by simpa only[aI]using h
 |_::_,_,h=>by simp only[aI]at h ⊢;obtain⟨v,r,e,q,t⟩:=h;exact⟨v,r,e,At.mono s q,aI.mono s t⟩
end
section
variable{K:PySem.W.Frag}{G:ah}
theorem aI.nil:aI K G [] []:=by simp only[aI]
theorem aI.cons{d:D}{ds:List D}{v:V}{vs:List V}(h:At K G d v)(t:aI K G ds vs):aI K G (d::ds) (v::vs):=by simp only[aI];exact⟨v,vs,rfl,h,t⟩
theorem aI.length:∀{ds:List D}{vs:List V},aI K G ds vs→ds.length=vs.length
 |[],_,h=>by simp only[aI]at h;subst h;rfl
 |_::_,_,h=>by simp only[aI]at h;obtain⟨v,r,rfl,_,t⟩:=h;simp[aI.length t]
theorem aI.get:∀{ds:List D}{vs:List V}{i:Nat}{d:D},aI K G ds vs→ds[i]?=some d→∃v,vs[i]?=some v∧At K G d v
 |[],_,_,_,_,e=>by simp at e
 |_::_,_,0,_,h,e=>by simp only[aI]at h;obtain⟨v,r,rfl,q,t⟩:=h;simp at e;subst e;exact⟨v,by simp,q⟩
 |_::_,_,i+1,d,h,e=>by simp only[aI]at h;obtain⟨v,r,rfl,q,t⟩:=h;obtain⟨u,h1,h2⟩:=aI.get (i:=i) (d:=d) t (by simpa using e);exact⟨u,by simpa using h1,h2⟩
theorem aI.vg{ds:List D}{vs:List V}{i:Nat}{v:V}(h:aI K G ds vs)(e:vs[i]?=some v):∃d,ds[i]?=some d∧At K G d v:=by
 have hi:i<ds.length:=by rw[h.length];exact(List.getElem?_eq_some_iff.mp e).1
 obtain⟨u,h1,h2⟩:=h.get (List.getElem?_eq_getElem hi);rw[e]at h1;cases h1;exact⟨_,List.getElem?_eq_getElem hi,h2⟩
theorem aI.append:∀{ds ag:List D}{vs ws:List V},aI K G ds vs→aI K G ag ws→aI K G (ds++ag) (vs++ws)
 |[],_,_,_,h,t=>by simp only[aI]at h;subst h;exact t
 |_::_,_,_,_,h,t=>by simp only[aI]at h;obtain⟨v,r,rfl,q,s⟩:=h;exact .cons q (aI.append s t)
theorem aI.take:∀(n:Nat){ds:List D}{vs:List V},aI K G ds vs→aI K G (ds.take n) (vs.take n)
 |0,_,_,_=>by simpa using aI.nil
 |_+1,[],_,h=>by simp only[aI]at h;subst h;simpa using aI.nil
 |n+1,_::_,_,h=>by simp only[aI]at h;obtain⟨v,r,rfl,q,t⟩:=h;exact .cons q (aI.take n t)
theorem aI.drop:∀(n:Nat){ds:List D}{vs:List V},aI K G ds vs→aI K G (ds.drop n) (vs.drop n)
 |0,_,_,h=>by simpa using h
 |_+1,[],_,h=>by simp only[aI]at h;subst h;simpa using aI.nil
 |n+1,_::_,_,h=>by simp only[aI]at h;obtain⟨v,r,rfl,q,t⟩:=h;simpa using aI.drop n t
theorem aI.set{d:D}{v:V}(q:At K G d v):∀(n:Nat){ds:List D}{vs:List V},aI K G ds vs→aI K G (ds.set n d) (vs.set n v)
 |_,[],_,h=>by simp only[aI]at h;subst h;simpa using aI.nil
 |0,_::_,_,h=>by simp only[aI]at h;obtain⟨u,r,rfl,_,t⟩:=h;exact .cons q t
 |n+1,_::_,_,h=>by simp only[aI]at h;obtain⟨u,r,rfl,p,t⟩:=h;exact .cons p (aI.set q n t)
theorem aI.snoc{ds:List D}{vs:List V}{d:D}{v:V}(h:aI K G ds vs)(q:At K G d v):aI K G (ds++[d]) (vs++[v]):=h.append (.cons q .nil)
end
inductive R(α:Type) where
 |ok (a:α)|exc (c:Str)|bad
namespace R
def bind{α β:Type}:R α→(α→R β)→R β
 |.ok a,k=>k a
 |.exc c,_=>.exc c
 |.bad,_=>.bad
def map{α β:Type}(f:α→β)(r:R α):R β:=r.bind fun a=>.ok (f a)
theorem bl{α β:Type}(a:α)(k:α→R β):(R.ok a).bind k=k a:=rfl
end R
inductive T where
 |aq (d:D)|lst (aA:List T)|cW (bV:List Key) (aA:List T)|a_ (bV:List (List Key)) (aA:List T)|ins (c:Str) (ns:List Str) (aA:List T)
mutual
noncomputable def toD:T→D
 |.aq d=>d
 |.lst aA=>.lst (kZ aA)
 |.cW bV aA=>.cW bV (kZ aA)
 |.a_ bV aA=>.a_ bV (kZ aA)
 |.ins c ns aA=>.ins c ns (kZ aA)
noncomputable def kZ:List T→List D
 |[]=>[]
 |t::aA=>toD t::kZ aA
end
mutual
noncomputable def aE(H:ah):T→V→List Addr
 |.aq _,_=>[]
 |.lst aA,v=>match v with
  |.ref a=>match H a with
   |some (.lst xs)=>a::cj H aA xs
   |_=>[]
  |_=>[]
 |.cW _ aA,v=>match v with
  |.ref a=>match H a with
   |some (.cW xs)=>a::cj H aA (xs.map (·.2))
   |_=>[]
  |_=>[]
 |.a_ _ aA,v=>match v with
  |.ref a=>match H a with
   |some (.a_ xs)=>a::cj H aA (xs.map (·.2))
   |_=>[]
  |_=>[]
 |.ins _ _ aA,v=>match v with
  |.ref a=>match H a with
   |some (.ins _ _ xs)=>a::cj H aA (xs.map (·.2))
   |_=>[]
  |_=>[]
noncomputable def cj(H:ah):List T→List V→List Addr
 |[],_=>[]
 |t::aA,vs=>match vs with
  |v::r=>aE H t v++cj H aA r
  |[]=>[]
end
mutual
noncomputable def cf(K:PySem.W.Frag)(G H:ah):T→V→Prop
 |.aq d,v=>At K G d v
 |.lst aA,v=>∃a xs,v=.ref a∧H a=some (.lst xs)∧bK K G H aA xs
 |.cW bV aA,v=>∃a xs,v=.ref a∧H a=some (.cW xs)∧xs.map (·.1)=bV∧bK K G H aA (xs.map (·.2))
 |.a_ bV aA,v=>∃a xs,v=.ref a∧H a=some (.a_ xs)∧xs.map (·.1)=bV∧bK K G H aA (xs.map (·.2))
 |.ins c ns aA,v=>∃a a0 xs,v=.ref a∧(∃C,hn K c C∧H a=some (.ins C a0 xs))∧xs.map (·.1)=ns∧bK K G H aA (xs.map (·.2))
noncomputable def bK(K:PySem.W.Frag)(G H:ah):List T→List V→Prop
 |[],vs=>vs=[]
 |t::aA,vs=>∃v r,vs=v::r∧cf K G H t v∧bK K G H aA r
end
section
variable{K:PySem.W.Frag}{G G' H H' P:ah}
theorem gG{a:Addr}{xs:List V}{aA:List T}(q:H a=some (.lst xs)):aE H (.lst aA) (.ref a)=a::cj H aA xs:=by simp only[aE,q]
theorem sq{a:Addr}{xs:List (Key×V)}{bV:List Key}{aA:List T}(q:H a=some (.cW xs)):aE H (.cW bV aA) (.ref a)=a::cj H aA (xs.map (·.2)):=by simp only[aE,q]
theorem sr{a:Addr}{xs:List (List Key×V)}{bV:List (List Key)}{aA:List T}(q:H a=some (.a_ xs)):aE H (.a_ bV aA) (.ref a)=a::cj H aA (xs.map (·.2)):=by simp only[aE,q]
theorem su{a C:Addr}{a0}{xs:List (Str×V)}{c:Str}{ns:List Str}{aA:List T}(q:H a=some (.ins C a0 xs)):aE H (.ins c ns aA) (.ref a)=a::cj H aA (xs.map (·.2)):=by simp only[aE,q]
theorem fP{t:T}{aA:List T}{v:V}{r:List V}:cj H (t::aA) (v::r)=aE H t v++cj H aA r:=by simp only[cj]
theorem lu{vs:List V}:cj H [] vs=[]:=by simp only[cj]
mutual
theorem cf.mono(a7:Sub G G'):∀{t:T}{v:V},cf K G H t v→cf K G' H t v
 |.aq _,_,h=>by simp only[cf]at h ⊢;exact h.mono a7
 |.lst _,_,h=>by simp only[cf]at h ⊢;obtain⟨a,xs,e,q,r⟩:=h;exact⟨a,xs,e,q,bK.mono a7 r⟩
 |.cW _ _,_,h=>by simp only[cf]at h ⊢;obtain⟨a,xs,e,q,n,r⟩:=h;exact⟨a,xs,e,q,n,bK.mono a7 r⟩
 |.a_ _ _,_,h=>by simp only[cf]at h ⊢;obtain⟨a,xs,e,q,n,r⟩:=h;exact⟨a,xs,e,q,n,bK.mono a7 r⟩
 |.ins _ _ _,_,h=>by simp only[cf]at h ⊢;obtain⟨a,a0,xs,e,q,n,r⟩:=h;exact⟨a,a0,xs,e,q,n,bK.mono a7 r⟩
theorem bK.mono(a7:Sub G G'):∀{aA:List T}{vs:List V},bK K G H aA vs→bK K G' H aA vs
 |[],_,h=>by simpa only[bK]using h
 |_::_,_,h=>by simp only[bK]at h ⊢;obtain⟨v,r,e,q,t⟩:=h;exact⟨v,r,e,cf.mono a7 q,bK.mono a7 t⟩
end
mutual
theorem cf.keep:∀{t:T}{v:V},(∀b∈aE H t v,H' b=H b)→cf K G H t v→cf K G H' t v∧aE H' t v=aE H t v
 |.aq _,_,_,h=>by simp only[cf]at h;exact⟨by simp only[cf];exact h,by simp only[aE]⟩
 |.lst _,_,k,h=>by simp only[cf]at h;obtain⟨a,xs,rfl,q,r⟩:=h;rw[gG q]at k;have kT:H' a=some (.lst xs):=(k a (by simp)).trans q;obtain⟨av,bg⟩:=bK.keep (fun b hb=>k b (List.mem_cons_of_mem _ hb)) r;exact⟨by simp only[cf];exact⟨a,xs,rfl,kT,av⟩,by rw[gG kT,gG q,bg]⟩
 |.cW _ _,_,k,h=>by simp only[cf]at h;obtain⟨a,xs,rfl,q,n,r⟩:=h;rw[sq q]at k;have kT:H' a=some (.cW xs):=(k a (by simp)).trans q;obtain⟨av,bg⟩:=bK.keep (fun b hb=>k b (List.mem_cons_of_mem _ hb)) r;exact⟨by simp only[cf];exact⟨a,xs,rfl,kT,n,av⟩,by rw[sq kT,sq q,bg]⟩
 |.a_ _ _,_,k,h=>by simp only[cf]at h;obtain⟨a,xs,rfl,q,n,r⟩:=h;rw[sr q]at k;have kT:H' a=some (.a_ xs):=(k a (by simp)).trans q;obtain⟨av,bg⟩:=bK.keep (fun b hb=>k b (List.mem_cons_of_mem _ hb)) r;exact⟨by simp only[cf];exact⟨a,xs,rfl,kT,n,av⟩,by rw[sr kT,sr q,bg]⟩
 |.ins _ _ _,_,k,h=>by simp only[cf]at h;obtain⟨a,a0,xs,rfl,⟨C,ck,q⟩,n,r⟩:=h;rw[su q]at k;have kT:H' a=some (.ins C a0 xs):=(k a (by simp)).trans q;obtain⟨av,bg⟩:=bK.keep (fun b hb=>k b (List.mem_cons_of_mem _ hb)) r;exact⟨by simp only[cf];exact⟨a,a0,xs,rfl,⟨C,ck,kT⟩,n,av⟩,by rw[su kT,su q,bg]⟩
theorem bK.keep:∀{aA:List T}{vs:List V},(∀b∈cj H aA vs,H' b=H b)→bK K G H aA vs→bK K G H' aA vs∧cj H' aA vs=cj H aA vs
 |[],_,_,h=>⟨by simpa only[bK]using h,by simp only[cj]⟩
 |_::_,_,k,h=>by simp only[bK]at h;obtain⟨v,r,rfl,q,t⟩:=h;rw[fP]at k;obtain⟨aY,bA⟩:=cf.keep (fun b hb=>k b (List.mem_append_left _ hb)) q;obtain⟨t1,d_⟩:=bK.keep (fun b hb=>k b (List.mem_append_right _ hb)) t;exact⟨by simp only[bK];exact⟨v,r,rfl,aY,t1⟩,by rw[fP,fP,bA,d_]⟩
end
mutual
theorem cf.some:∀{t:T}{v:V},cf K G H t v→∀b∈aE H t v,H b≠none
 |.aq _,_,_=>by intro b hb;simp[aE]at hb
 |.lst _,_,h=>by
  simp only[cf]at h;obtain⟨a,xs,rfl,q,r⟩:=h;rw[gG q];intro b hb;rcases List.mem_cons.mp hb with rfl|hb
  ·rw[q];exact fun z=>nomatch z
  ·exact bK.some r b hb
 |.cW _ _,_,h=>by
  simp only[cf]at h;obtain⟨a,xs,rfl,q,n,r⟩:=h;rw[sq q];intro b hb;rcases List.mem_cons.mp hb with rfl|hb
  ·rw[q];exact fun z=>nomatch z
  ·exact bK.some r b hb
 |.a_ _ _,_,h=>by
  simp only[cf]at h;obtain⟨a,xs,rfl,q,n,r⟩:=h;rw[sr q];intro b hb;rcases List.mem_cons.mp hb with rfl|hb
  ·rw[q];exact fun z=>nomatch z
  ·exact bK.some r b hb
 |.ins _ _ _,_,h=>by
  simp only[cf]at h;obtain⟨a,a0,xs,rfl,⟨C,ck,q⟩,n,r⟩:=h;rw[su q];intro b hb;rcases List.mem_cons.mp hb with rfl|hb
  ·rw[q];exact fun z=>nomatch z
  ·exact bK.some r b hb
theorem bK.some:∀{aA:List T}{vs:List V},bK K G H aA vs→∀b∈cj H aA vs,H b≠none
 |[],_,_=>by intro b hb;simp[cj]at hb
 |_::_,_,h=>by
  simp only[bK]at h;obtain⟨v,r,rfl,q,t⟩:=h;rw[fP];intro b hb;rcases List.mem_append.mp hb with hb|hb
  ·exact cf.some q b hb
  ·exact bK.some t b hb
end
mutual
theorem cf.view(a7:Sub G P):∀{t:T}{v:V},(∀a∈aE H t v,P a=H a)→cf K G H t v→At K P (toD t) v
 |.aq _,_,_,h=>by simp only[cf,toD]at h ⊢;exact h.mono a7
 |.lst _,_,k,h=>by simp only[cf]at h;obtain⟨a,xs,rfl,q,r⟩:=h;rw[gG q]at k;simp only[toD,At];exact⟨a,xs,rfl,by rw[k a (by simp)];exact q,bK.view a7 (fun b hb=>k b (List.mem_cons_of_mem _ hb)) r⟩
 |.cW _ _,_,k,h=>by simp only[cf]at h;obtain⟨a,xs,rfl,q,n,r⟩:=h;rw[sq q]at k;simp only[toD,At];exact⟨a,xs,rfl,by rw[k a (by simp)];exact q,n,bK.view a7 (fun b hb=>k b (List.mem_cons_of_mem _ hb)) r⟩
 |.a_ _ _,_,k,h=>by simp only[cf]at h;obtain⟨a,xs,rfl,q,n,r⟩:=h;rw[sr q]at k;simp only[toD,At];exact⟨a,xs,rfl,by rw[k a (by simp)];exact q,n,bK.view a7 (fun b hb=>k b (List.mem_cons_of_mem _ hb)) r⟩
 |.ins _ _ _,_,k,h=>by simp only[cf]at h;obtain⟨a,a0,xs,rfl,⟨C,ck,q⟩,n,r⟩:=h;rw[su q]at k;simp only[toD,At];exact⟨a,a0,xs,rfl,⟨C,ck,by rw[k a (by simp)];exact q⟩,n,bK.view a7 (fun b hb=>k b (List.mem_cons_of_mem _ hb)) r⟩
theorem bK.view(a7:Sub G P):∀{aA:List T}{vs:List V},(∀a∈cj H aA vs,P a=H a)→bK K G H aA vs→aI K P (kZ aA) vs
 |[],_,_,h=>by simp only[bK,kZ,aI]at h ⊢;exact h
 |_::_,_,k,h=>by simp only[bK]at h;obtain⟨v,r,rfl,q,t⟩:=h;rw[fP]at k;simp only[kZ,aI];exact⟨v,r,rfl,cf.view a7 (fun b hb=>k b (List.mem_append_left _ hb)) q,bK.view a7 (fun b hb=>k b (List.mem_append_right _ hb)) t⟩
end
theorem cf.Qs{a:Addr}{o:dC}{t:T}{v:V}(n:a∉aE H t v)(h:cf K G H t v):cf K G (upd H a o) t v∧aE (upd H a o) t v=aE H t v:=h.keep fun b hb=>dr fun z=>n (z▸hb)
end
inductive kA where
 |lst (ds:List D)|a_ (bV:List (List Key)) (ds:List D)|ins (c:Str) (ns:List Str) (ds:List D)
noncomputable def lY(K:PySem.W.Frag)(G:ah):kA→dC→Prop
 |.lst ds,ho=>∃xs,ho=.lst xs∧aI K G ds xs
 |.a_ bV ds,ho=>∃xs,ho=.a_ xs∧xs.map (·.1)=bV∧aI K G ds (xs.map (·.2))
 |.ins c ns ds,ho=>∃C a0 xs,hn K c C∧ho=.ins C a0 xs∧xs.map (·.1)=ns∧aI K G ds (xs.map (·.2))
theorem lY.mono{K:PySem.W.Frag}{G H:ah}(s:Sub G H):∀{o:kA}{ho:dC},lY K G o ho→lY K H o ho
 |.lst _,_,⟨xs,e,q⟩=>⟨xs,e,q.mono s⟩
 |.a_ _ _,_,⟨xs,e,k,q⟩=>⟨xs,e,k,q.mono s⟩
 |.ins _ _ _,_,⟨C,a0,xs,c,e,k,q⟩=>⟨C,a0,xs,c,e,k,q.mono s⟩
def lG:kA→D
 |.lst ds=>.lst ds
 |.a_ bV ds=>.a_ bV ds
 |.ins c ns ds=>.ins c ns ds
theorem lY.at{K:PySem.W.Frag}{G:ah}{o:kA}{ho:dC}{a:Addr}(h:lY K G o ho)(e:G a=some ho):At K G (lG o) (.ref a):=by
 cases o with
 |lst ds=>obtain⟨xs,rfl,q⟩:=h;simp only[lG,At];exact⟨a,xs,rfl,e,q⟩
 |a_ bV ds=>obtain⟨xs,rfl,k,q⟩:=h;simp only[lG,At];exact⟨a,xs,rfl,e,k,q⟩
 |ins c ns ds=>obtain⟨C,a0,xs,ck,rfl,k,q⟩:=h;simp only[lG,At];exact⟨a,a0,xs,rfl,⟨C,ck,e⟩,k,q⟩
inductive cp where
 |un|aq (d:D)|aR (o:kA)|bG (t:T)
abbrev cp.c_(ds:List D):cp:=.aR (.lst ds)
abbrev ak:=List cp
structure aZ where
 K:PySem.W.Frag
 cu:ah
 bL:ah
 e_:Str→ah→Prop
structure eK(F:aZ)(G H:ah):Prop where
 sub:Sub G H
 fc:Sub F.cu G
 hh:Sub F.bL H
 new:∀b,F.bL b≠none→G b=F.cu b
structure k_(F:aZ)(G H:ah)(t:T)(v:V):Prop where
 at_:cf F.K G H t v
 aQ:(aE H t v).Nodup
 own:∀b∈aE H t v,G b=none∧F.bL b=none
noncomputable def kD(F:aZ)(G H:ah)(o:Option V):cp→Prop
 |.un=>True
 |.aq d=>∃v,o=some v∧At F.K G d v
 |.aR aR=>∃a ho,o=some (.ref a)∧H a=some ho∧G a=none∧F.bL a=none∧lY F.K G aR ho
 |.bG t=>∃v,o=some v∧k_ F G H t v
noncomputable def ep(H:ah):cp→Option V→Addr→Prop
 |.un,_,_=>False
 |.aq _,_,_=>False
 |.aR _,o,a=>o=some (.ref a)
 |.bG t,o,a=>∃v,o=some v∧a∈aE H t v
structure Rel(F:aZ)(G H:ah)(σ :St)(ρ:ak):Prop where
 aL:eK F G H
 len: σ.length=ρ.length
 bZ:∀(i:Nat)(s:cp),ρ[i]?=some s→∃o,σ[i]?=some o∧kD F G H o s
 gE:∀(i j:Nat)(a:Addr)(s s':cp)(o cg:Option V),ρ[i]?=some s→ρ[j]?=some s'→ σ[i]?=some o→ σ[j]?=some cg→ep H s o a→ep H s' cg a→i=j
noncomputable def cP(H:ah)(σ :St)(ρ:ak)(a:Addr):Prop:=∃(i:Nat)(s:cp)(o:Option V),ρ[i]?=some s∧ σ[i]?=some o∧ep H s o a
theorem wU{α:Type}{l:List α}{i:Nat}{x:α}(e:l[i]?=some x):l.set i x=l:=by
 apply List.ext_getElem?;intro j;rw[List.getElem?_set];by_cases h:i=j
 ·subst h;rw[if_pos rfl,if_pos (List.getElem?_eq_some_iff.mp e).1];exact e.symm
 ·simp[h]
section
variable{F:aZ}{G G' H H':ah}{σ :St}{ρ:ak}
theorem cP.aR{a:Addr}{i:Nat}{o:kA}(aj:ρ[i]?=some (.aR o))(ax: σ[i]?=some (some (.ref a))):cP H σ ρ a:=⟨i,_,_,aj,ax,rfl⟩
theorem kD.keep{o:Option V}{s:cp}(h:kD F G H o s)(a7:Sub G G')(k:∀a,ep H s o a→H' a=H a∧G' a=none):kD F G' H' o s∧(∀a,ep H' s o a→ep H s o a):=by
 cases s with
 |un=>exact⟨trivial,fun _ z=>z⟩
 |aq d=>obtain⟨v,ax,a⟩:=h;exact⟨⟨v,ax,a.mono a7⟩,fun _ z=>z⟩
 |aR ds=>obtain⟨a,xs,ax,h1,h2,h3,h4⟩:=h;exact⟨⟨a,xs,ax,by rw[(k a ax).1];exact h1,(k a ax).2,h3,h4.mono a7⟩,fun _ z=>z⟩
 |bG t=>
  obtain⟨v,ax,aY,bA,en⟩:=h;obtain⟨ey,eI⟩:=aY.keep fun b hb=>(k b ⟨v,ax,hb⟩).1;refine⟨⟨v,ax,⟨ey.mono a7,by rw[eI];exact bA,fun b hb=>?_⟩⟩,fun a z=>?_⟩
  ·rw[eI]at hb;exact⟨(k b ⟨v,ax,hb⟩).2,(en b hb).2⟩
  ·obtain⟨u,bE,hb⟩:=z;rw[ax]at bE;cases bE;rw[eI]at hb;exact⟨v,ax,hb⟩
theorem kD.foot{o:Option V}{s:cp}(h:kD F G H o s){a:Addr}(f:ep H s o a):H a≠none∧G a=none∧F.bL a=none:=by
 cases s with
 |un=>exact f.elim
 |aq d=>exact f.elim
 |aR ds=>obtain⟨b,xs,ax,h1,h2,h3,h4⟩:=h;have f:o=some (.ref a):=f;rw[ax]at f;cases f;exact⟨by rw[h1];exact(fun z=>nomatch z),h2,h3⟩
 |bG t=>obtain⟨v,ax,aY,bA,en⟩:=h;obtain⟨u,bE,hb⟩:=f;rw[ax]at bE;cases bE;exact⟨aY.some a hb,en a hb⟩
theorem Rel.foot(r:Rel F G H σ ρ){a:Addr}(h:cP H σ ρ a):H a≠none∧G a=none∧F.bL a=none:=by obtain⟨i,s,o,aj,ax,f⟩:=h;obtain⟨cg,bE,q⟩:=r.bZ i s aj;rw[ax]at bE;cases bE;exact q.foot f
theorem Rel.over{F':aZ}(r:Rel F G H σ ρ)(hK:F'.K=F.K)(aL:eK F' G' H')(a7:Sub G G')(k:∀a,cP H σ ρ a→H' a=H a∧G' a=none∧F'.bL a=none):Rel F' G' H' σ ρ:=by
 have one:∀(i:Nat)(s:cp),ρ[i]?=some s→∃o,σ[i]?=some o∧kD F' G' H' o s∧(∀a,ep H' s o a→ep H s o a):=fun i s e=>by
  obtain⟨o,aj,q⟩:=r.bZ i s e;obtain⟨aY,bA⟩:=q.keep a7 fun a f=>⟨(k a ⟨i,s,o,e,aj,f⟩).1,(k a ⟨i,s,o,e,aj,f⟩).2.1⟩;refine⟨o,aj,?_,bA⟩;cases s with
  |un=>trivial
  |aq d=>obtain⟨v,ax,a⟩:=aY;exact⟨v,ax,by rw[hK];exact a⟩
  |aR ds=>obtain⟨a,xs,ax,h1,h2,h3,h4⟩:=aY;exact⟨a,xs,ax,h1,h2,(k a ⟨i,_,o,e,aj,ax⟩).2.2,by rw[hK];exact h4⟩
  |bG t=>obtain⟨v,ax,ey,eI,fL⟩:=aY;exact⟨v,ax,by rw[hK];exact ey,eI,fun b hb=>⟨(fL b hb).1,(k b ⟨i,_,o,e,aj,bA b ⟨v,ax,hb⟩⟩).2.2⟩⟩
 refine⟨aL,r.len,fun i s e=>let⟨o,aj,q,_⟩:=one i s e;⟨o,aj,q⟩,fun i j a s s' o cg aj ax bE dk f1 f2=>?_⟩;obtain⟨u,a6,_,aW⟩:=one i s aj;rw[bE]at a6;cases a6;obtain⟨u,gx,_,k4⟩:=one j s' ax;rw[dk]at gx;cases gx;exact r.gE i j a s s' o cg aj ax bE dk (aW a f1) (k4 a f2)
theorem Rel.grow(r:Rel F G H σ ρ)(a7:Sub G G')(VK:Sub G' H')(hh:Sub H H')(nw:∀b,H b≠none→G' b=G b):Rel F G' H' σ ρ:=by
 refine r.over rfl ⟨VK,r.aL.fc.trans a7,r.aL.hh.trans hh,fun b hb=>?_⟩ a7 fun a ha=>?_
 ·rw[nw b (r.aL.hh.some hb)];exact r.aL.new b hb
 ·obtain⟨h1,h2,h3⟩:=r.foot ha;refine⟨?_,(nw a h1).trans h2,h3⟩;cases e:H a with
  |none=>exact absurd e h1
  |some o=>exact hh a o e
theorem Rel.lay(r:Rel F G H σ ρ){p:Addr}{o:dC}(hp:H p=none):Rel F (upd G p o) (upd H p o) σ ρ:=by have sy:G p=none:=r.aL.sub.gone hp;refine r.grow (Sub.upd sy) (Sub.both r.aL.sub) (Sub.upd hp) fun b hb=>?_;rw[dr];intro e;subst e;exact hb hp
theorem Rel.lay0(r:Rel F G H σ ρ){p:Addr}{o:dC}(hp:H p=none):Rel F G (upd H p o) σ ρ:=
 r.grow (Sub.refl _) (Sub.xg r.aL.sub (r.aL.sub.gone hp)) (Sub.upd hp) fun _ _=>rfl
theorem Rel.take(r:Rel F G H σ ρ){p:Addr}{o:dC}(hp:H p=some o)(hg:G p=none)(h0:F.bL p=none)(no:¬cP H σ ρ p):Rel F (upd G p o) H σ ρ:=by
 refine r.over rfl ⟨Sub.at r.aL.sub hp,r.aL.fc.trans (Sub.upd hg),r.aL.hh,fun b hb=>?_⟩ (Sub.upd hg) fun a ha=>?_
 ·rw[dr]
  ·exact r.aL.new b hb
  ·intro e;subst e;exact hb h0
 ·obtain⟨h1,h2,h3⟩:=r.foot ha;exact⟨rfl,by rw[dr (fun z=>no (by rw[←z];exact ha))];exact h2,h3⟩
theorem Rel.aq(r:Rel F G H σ ρ){i:Nat}{d:D}(e:ρ[i]?=some (.aq d)):∃v,σ[i]?=some (some v)∧At F.K G d v:=by obtain⟨o,aj,v,rfl,a⟩:=r.bZ i _ e;exact⟨v,aj,a⟩
theorem Rel.obj(r:Rel F G H σ ρ){i:Nat}{o:kA}(e:ρ[i]?=some (.aR o)):∃a ho,σ[i]?=some (some (.ref a))∧H a=some ho∧G a=none∧F.bL a=none∧lY F.K G o ho:=by obtain⟨v,aj,a,ho,rfl,h1,h2,h3,h4⟩:=r.bZ i _ e;exact⟨a,ho,aj,h1,h2,h3,h4⟩
theorem Rel.own{G H:ah}{σ :St}{ρ:ak}(r:Rel F G H σ ρ){i:Nat}{ds:List D}(e:ρ[i]?=some (.c_ ds)):∃a xs,σ[i]?=some (some (.ref a))∧H a=some (.lst xs)∧G a=none∧F.bL a=none∧aI F.K G ds xs:=by obtain⟨a,ho,aj,h1,h2,h3,xs,rfl,h4⟩:=r.obj e;exact⟨a,xs,aj,h1,h2,h3,h4⟩
theorem Rel.tree{G H:ah}{σ :St}{ρ:ak}(r:Rel F G H σ ρ){i:Nat}{t:T}(e:ρ[i]?=some (.bG t)):∃v,σ[i]?=some (some v)∧k_ F G H t v:=by obtain⟨o,aj,v,rfl,a⟩:=r.bZ i _ e;exact⟨v,aj,a⟩
theorem get_set{α:Type}{l:List α}{i j:Nat}{x y:α}(e:(l.set i x)[j]?=some y):(i=j∧y=x)∨(i≠j∧l[j]?=some y):=by
 rw[List.getElem?_set]at e;by_cases h:i=j
 ·rw[if_pos h]at e
  split at e
  ·cases e;exact .inl ⟨h,rfl⟩
  ·cases e
 ·rw[if_neg h]at e;exact .inr ⟨h,e⟩
theorem Rel.ry(r:Rel F G H σ ρ){i:Nat}{s:cp}{o:Option V}(hi:i<ρ.length)(q:kD F G H o s)(no:∀a,ep H s o a→∀(j:Nat)(s':cp)(cg:Option V),j≠i→ρ[j]?=some s'→ σ[j]?=some cg→¬ep H s' cg a):Rel F G H (σ.set i o) (ρ.set i s):=by
 have hs:i< σ.length:=by rw[r.len];exact hi
 refine⟨r.aL,by simp[r.len],fun j s e=>?_,fun j k b s1 s2 cy b_ aj ax bE dk f1 f2=>?_⟩
 ·rcases get_set e with⟨rfl,rfl⟩|⟨ne,e⟩
  ·exact⟨o,by simp[hs],q⟩
  ·rw[List.getElem?_set_ne ne];exact r.bZ j s e
 ·rcases get_set aj with⟨bJ,a6⟩|⟨cG,gh⟩
  ·subst bJ a6;rw[List.getElem?_set_self hs]at bE;cases bE;rcases get_set ax with⟨bN,aW⟩|⟨cD,jv⟩
   ·exact bN
   ·rw[List.getElem?_set_ne cD]at dk;exact absurd f2 (no b f1 k s2 b_ (Ne.symm cD) jv dk)
  ·rw[List.getElem?_set_ne cG]at bE;rcases get_set ax with⟨bN,aW⟩|⟨cD,jv⟩
   ·subst bN aW;rw[List.getElem?_set_self hs]at dk;cases dk;exact absurd f1 (no b f2 j s1 cy (Ne.symm cG) gh bE)
   ·rw[List.getElem?_set_ne cD]at dk;exact r.gE j k b s1 s2 cy b_ gh jv bE dk f1 f2
theorem Rel.set(r:Rel F G H σ ρ){i:Nat}{d:D}{v:V}(hi:i<ρ.length)(a:At F.K G d v):Rel F G H (σ.set i (some v)) (ρ.set i (.aq d)):=
 r.ry hi ⟨v,rfl,a⟩ fun _ f=>f.elim
theorem Rel.setB(r:Rel F G H σ ρ){i:Nat}{aR:kA}{a:Addr}{ho:dC}(hi:i<ρ.length)(ha:H a=some ho)(hg:G a=none)(h0:F.bL a=none)(q:lY F.K G aR ho)(no:∀(j:Nat)(s:cp)(o:Option V),j≠i→ρ[j]?=some s→ σ[j]?=some o→¬ep H s o a):Rel F G H (σ.set i (some (.ref a))) (ρ.set i (.aR aR)):=
 r.ry hi ⟨a,ho,rfl,ha,hg,h0,q⟩ fun b f=>by have f:some (V.ref a)=some (.ref b):=f;cases f;exact no
theorem Rel.VG(r:Rel F G H σ ρ){i:Nat}{ds:List D}{a:Addr}{xs:List V}(hi:i<ρ.length)(ha:H a=some (.lst xs))(hg:G a=none)(h0:F.bL a=none)(q:aI F.K G ds xs)(no:∀(j:Nat)(s:cp)(o:Option V),j≠i→ρ[j]?=some s→ σ[j]?=some o→¬ep H s o a):Rel F G H (σ.set i (some (.ref a))) (ρ.set i (.c_ ds)):=r.setB hi ha hg h0 ⟨xs,rfl,q⟩ no
theorem Rel.wm(r:Rel F G H σ ρ){i:Nat}{s s':cp}{o:Option V}{a:Addr}{ho:dC}(e:ρ[i]?=some s)(ar: σ[i]?=some o)(fv:ep H s o a)(q:kD F G (upd H a ho) o s')(f:∀b,ep (upd H a ho) s' o b→ep H s o b∨¬cP H σ ρ b) :
  Rel F G (upd H a ho) σ (ρ.set i s'):=by
 have hi:i<ρ.length:=(List.getElem?_eq_some_iff.mp e).1;obtain⟨h1,h2,h3⟩:=r.foot ⟨i,s,o,e,ar,fv⟩;have pv:∀(j:Nat)(t:cp),i≠j→ρ[j]?=some t→∃u,σ[j]?=some u∧kD F G (upd H a ho) u t∧(∀b,ep (upd H a ho) t u b→ep H t u b):=fun j t ne z=>by obtain⟨u,a6,aW⟩:=r.bZ j t z;have na:¬ep H t u a:=fun w=>ne (r.gE i j a s t o u e z ar a6 fv w);obtain⟨aY,bA⟩:=aW.keep (H':=upd H a ho) (Sub.refl G) fun b jH=>⟨dr fun w=>na (w▸jH),(aW.foot jH).2.1⟩;exact⟨u,a6,aY,bA⟩
 refine⟨⟨Sub.xg r.aL.sub h2,r.aL.fc,fun c u z=>?_,r.aL.new⟩,by simp[r.len],fun j t z=>?_,fun j k c s1 s2 cy b_ bE dk eT iU f1 f2=>?_⟩
 ·rw[dr (jr z h3)];exact r.aL.hh c u z
 ·rcases get_set z with⟨rfl,rfl⟩|⟨ne,z⟩
  ·exact⟨o,ar,q⟩
  ·obtain⟨u,a6,aW,_⟩:=pv j t ne z;exact⟨u,a6,aW⟩
 ·rcases get_set bE with⟨bJ,a6⟩|⟨cG,mI⟩
  ·subst bJ a6;rw[ar]at eT;cases eT;rcases get_set dk with⟨bN,aW⟩|⟨cD,rN⟩
   ·exact bN
   ·obtain⟨u,gh,_,jv⟩:=pv k s2 cD rN;rw[iU]at gh;cases gh;have g2:=jv c f2;rcases f c f1 with g1|g1
    ·exact r.gE i k c s s2 o b_ e rN ar iU g1 g2
    ·exact absurd ⟨k,s2,b_,rN,iU,g2⟩ g1
  ·obtain⟨u,gh,_,jv⟩:=pv j s1 cG mI;rw[eT]at gh;cases gh;have g1:=jv c f1;rcases get_set dk with⟨bN,aW⟩|⟨cD,rN⟩
   ·subst bN aW;rw[ar]at iU;cases iU;rcases f c f2 with g2|g2
    ·exact r.gE j i c s1 s cy o mI e eT ar g1 g2
    ·exact absurd ⟨j,s1,cy,mI,eT,g1⟩ g2
   ·obtain⟨u,pU,_,Ys⟩:=pv k s2 cD rN;rw[iU]at pU;cases pU;exact r.gE j k c s1 s2 cy b_ mI rN eT iU g1 (Ys c f2)
theorem Rel.Am(r:Rel F G H σ ρ){i:Nat}{o cg:kA}{a:Addr}{ho:dC}(e:ρ[i]?=some (.aR o))(ar: σ[i]?=some (some (.ref a)))(q:lY F.K G cg ho) :
  Rel F G (upd H a ho) σ (ρ.set i (.aR cg)):=by
 obtain⟨b,Zj,aj,h1,h2,h3,h4⟩:=r.obj e;rw[ar]at aj;have bq:b=a:=by cases aj;rfl
 subst bq;exact r.wm e ar rfl ⟨b,ho,rfl,dA,h2,h3,q⟩ fun c f=>.inl f
theorem Rel.mut(r:Rel F G H σ ρ){i:Nat}{ds oD:List D}{a:Addr}{ys:List V}(e:ρ[i]?=some (.c_ ds))(ar: σ[i]?=some (some (.ref a)))(q:aI F.K G oD ys) :
  Rel F G (upd H a (.lst ys)) σ (ρ.set i (.c_ oD)):=r.Am e ar ⟨ys,rfl,q⟩
theorem Rel.j8(r:Rel F G H σ ρ){i:Nat}{o:kA}(e:ρ[i]?=some (.aR o)):∃G',Rel F G' H σ (ρ.set i (.aq (lG o)))∧Sub G G':=by
 have hi:i<ρ.length:=(List.getElem?_eq_some_iff.mp e).1;obtain⟨a,ho,aj,h1,h2,h3,h4⟩:=r.obj e;have un:Rel F G H σ (ρ.set i .un):=by have z:=r.ry (s:=.un) (o:=some (.ref a)) hi trivial fun _ f=>f.elim;rw[ay.wU aj]at z;exact z
 have no:¬cP H σ (ρ.set i .un) a:=fun⟨j,s,u,gh,jv,pU⟩=>by
  rcases get_set gh with⟨_,z⟩|⟨ne,gh⟩
  ·subst z;exact pU
  ·exact ne (r.gE i j a _ s _ u e gh aj jv rfl pU)
 have bg:=un.take h1 h2 h3 no;have dU:=bg.ry (i:=i) (s:=.aq (lG o)) (o:=some (.ref a)) (by simpa using hi) ⟨.ref a,rfl,(h4.mono (Sub.upd h2)).at dA⟩ fun _ f=>f.elim;rw[ay.wU aj,List.set_set]at dU;exact⟨upd G a ho,dU,Sub.upd h2⟩
end
abbrev aC:=ak→R D
abbrev b4:=ak→R Bool
abbrev aP:=ak→R (List D)
inductive fl where
 |bj (ρ:ak)|dh (d:D)|i6 (ds:List D)|ft (ρ:ak)|c3 (ρ:ak)|i5 (t:T)
abbrev a8:=ak→R fl
def iD(F:aZ)(c:Str):Prop:=∀G' H',eK F G' H'→F.e_ c H'
noncomputable def jQ(F:aZ)(G H:ah)(σ :St)(ρ:ak)(Q:cI):R D→Prop
 |.ok d=>∀v H' G',Rel F G' H' σ ρ→bT G H G' H'→At F.K G' d v→Q v H'
 |.exc c=>iD F c
 |.bad=>False
noncomputable def qE(F:aZ)(G H:ah)(σ :St)(ρ:ak)(Q:Bool→ah→Prop):R Bool→Prop
 |.ok b=>∀H' G',Rel F G' H' σ ρ→bT G H G' H'→Q b H'
 |.exc c=>iD F c
 |.bad=>False
noncomputable def Qh(F:aZ)(G H:ah)(σ :St)(ρ:ak)(Q:List V→ah→Prop):R (List D)→Prop
 |.ok ds=>∀vs H' G',Rel F G' H' σ ρ→bT G H G' H'→aI F.K G' ds vs→Q vs H'
 |.exc c=>iD F c
 |.bad=>False
noncomputable def Qo(F:aZ)(G H:ah)(σ :St)(ρ:ak)(Q:cI):R (List D)→Prop
 |.ok ds=>∀a xs H' G',Rel F G' H' σ ρ→bT G H G' H'→H a=none→H' a=some (.lst xs)→G' a=none→aI F.K G' ds xs→Q (.ref a) H'
 |.exc c=>iD F c
 |.bad=>False
noncomputable def g0(F:aZ)(G:ah)(bO:Ends):R fl→Prop
 |.ok (.bj bh)=>∀ σ' G' H',Rel F G' H' σ' bh→Sub G G'→bO.bj σ' H'
 |.ok (.ft bh)=>∀ σ' G' H',Rel F G' H' σ' bh→Sub G G'→bO.ft σ' H'
 |.ok (.c3 bh)=>∀ σ' G' H',Rel F G' H' σ' bh→Sub G G'→bO.c3 σ' H'
 |.ok (.dh d)=>∀v G' H',eK F G' H'→At F.K G' d v→bO.dh v H'
 |.ok (.i6 ds)=>∀a xs G' H',eK F G' H'→G' a=none→F.bL a=none→H' a=some (.lst xs)→aI F.K G' ds xs→bO.dh (.ref a) H'
 |.ok (.i5 t)=>∀v G' H',eK F G' H'→k_ F G' H' t v→bO.dh v H'
 |.exc c=>iD F c
 |.bad=>False
def cY(F:aZ)(m:aC):TE:=fun σ H Q=>∃G ρ,Rel F G H σ ρ∧jQ F G H σ ρ Q (m ρ)
def gd(F:aZ)(m:b4):TT:=fun σ H Q=>∃G ρ,Rel F G H σ ρ∧qE F G H σ ρ Q (m ρ)
def eo(F:aZ)(m:aP):es:=fun σ H Q=>∃G ρ,Rel F G H σ ρ∧Qh F G H σ ρ Q (m ρ)
def i7(F:aZ)(m:aP):TE:=fun σ H Q=>∃G ρ,Rel F G H σ ρ∧Qo F G H σ ρ Q (m ρ)
def e9(F:aZ)(m:a8):eB:=fun bO σ H=>∃G ρ,Rel F G H σ ρ∧g0 F G bO (m ρ)
section
variable{F:aZ}{G aN H H1:ah}{σ :St}{ρ:ak}
theorem jQ.mono{Q:cI}(s:bT G H aN H1):∀{r:R D},jQ F G H σ ρ Q r→jQ F aN H1 σ ρ Q r
 |.ok _,h=>fun v H' G' r a7 a=>h v H' G' r (s.trans a7) a
 |.exc _,h=>h
 |.bad,h=>h
theorem qE.mono{Q:Bool→ah→Prop}(s:bT G H aN H1):∀{r:R Bool},qE F G H σ ρ Q r→qE F aN H1 σ ρ Q r
 |.ok _,h=>fun H' G' r a7=>h H' G' r (s.trans a7)
 |.exc _,h=>h
 |.bad,h=>h
theorem g0.mono{bO:Ends}(s:Sub G aN):∀{r:R fl},g0 F G bO r→g0 F aN bO r
 |.ok (.bj _),h=>fun σ' G' H' r a7=>h σ' G' H' r (s.trans a7)
 |.ok (.ft _),h=>fun σ' G' H' r a7=>h σ' G' H' r (s.trans a7)
 |.ok (.c3 _),h=>fun σ' G' H' r a7=>h σ' G' H' r (s.trans a7)
 |.ok (.dh _),h=>h
 |.ok (.i6 _),h=>h
 |.ok (.i5 _),h=>h
 |.exc _,h=>h
 |.bad,h=>h
end
abbrev ej(t' t:TE):Prop:=∀ σ H Q,t' σ H Q→t σ H Q
abbrev mS(t' t:TT):Prop:=∀ σ H Q,t' σ H Q→t σ H Q
abbrev p4(t' t:es):Prop:=∀ σ H Q,t' σ H Q→t σ H Q
abbrev gR(t' t:eB):Prop:=∀bO σ H,t' bO σ H→t bO σ H
def J(i:Nat):aC:=fun ρ=>match ρ[i]? with
 |some (.aq d)=>.ok d
 |_=>.bad
def au(d:D):aC:=fun _=>.ok d
section
variable{F:aZ}
theorem PI(i:Nat):ej (cY F (J i)) (rH i):=by
 rintro σ H Q ⟨G,ρ,r,h⟩;unfold J at h;cases e:ρ[i]? with
 |none=>rw[e]at h;exact h.elim
 |some s=>
  rw[e]at h;cases s with
  |un=>exact h.elim
  |aR _=>exact h.elim
  |bG _=>exact h.elim
  |aq d=>obtain⟨v,aj,a⟩:=r.aq e;exact⟨v,aj,h v H G r (bT.refl _ _) a⟩
theorem sR{d:D}{v:V}(a:∀G,At F.K G d v):ej (cY F (au d)) (pL v):=by rintro σ H Q ⟨G,ρ,r,h⟩;exact h v H G r (bT.refl _ _) (a G)
def ai(f:D→D→R D)(a b:aC):aC:=fun ρ=>(a ρ).bind fun x=>(b ρ).bind fun y=>f x y
noncomputable def fA(F:aZ)(r:ea)(f:D→D→R D):Prop:=∀ σ ρ G H x y a0 eN Q,Rel F G H σ ρ→At F.K G a0 x→At F.K G eN y→jQ F G H σ ρ Q (f a0 eN)→r x y H Q
theorem vy{r:ea}{f:D→D→R D}{ma dq:aC}(ho:fA F r f):ej (cY F (ai f ma dq)) (tV r (cY F ma) (cY F dq)):=by
 rintro σ H Q ⟨G,ρ,r,h⟩;unfold ai at h;refine⟨G,ρ,r,?_⟩;cases ar:ma ρ with
 |bad=>rw[ar]at h;exact h.elim
 |exc c=>rw[ar]at h;exact h
 |ok a0=>
  rw[ar,R.bl]at h;intro x H1 aN av s1 bF;refine⟨aN,ρ,av,?_⟩;cases bq:dq ρ with
  |bad=>rw[bq]at h;exact h.elim
  |exc c=>rw[bq]at h;exact h
  |ok eN=>rw[bq,R.bl]at h;intro y aM cE bg s2 b5;exact ho σ ρ cE aM x y a0 eN Q bg (bF.mono s2.g) b5 (h.mono (s1.trans s2))
def eX(f:D→R D)(a:aC):aC:=fun ρ=>(a ρ).bind f
def aw:aP:=fun _=>.ok []
def af(a:aC)(r:aP):aP:=fun ρ=>(a ρ).bind fun x=>(r ρ).bind fun xs=>.ok (x::xs)
theorem Gx:p4 (eo F aw) Ck:=by rintro σ H Q ⟨G,ρ,r,h⟩;exact h [] H G r (bT.refl _ _) .nil
theorem OY{ma:aC}{pg:aP}:p4 (eo F (af ma pg)) (Ce (cY F ma) (eo F pg)):=by
 rintro σ H Q ⟨G,ρ,r,h⟩;unfold af at h;refine⟨G,ρ,r,?_⟩;cases ar:ma ρ with
 |bad=>rw[ar]at h;exact h.elim
 |exc c=>rw[ar]at h;exact h
 |ok a0=>
  rw[ar,R.bl]at h;intro x H1 aN av s1 bF;refine⟨aN,ρ,av,?_⟩;cases bq:pg ρ with
  |bad=>rw[bq]at h;exact h.elim
  |exc c=>rw[bq]at h;exact h
  |ok eN=>rw[bq,R.bl]at h;intro y aM cE bg s2 b5;exact h (x::y) aM cE bg (s1.trans s2) (.cons (bF.mono s2.g) b5)
def dJ(m:aP):aC:=fun ρ=>(m ρ).bind fun xs=>if xs.length≤1000000 then .ok (.tup xs)else .bad
theorem PF{m:aP}:ej (cY F (dJ m)) (Cp (eo F m)):=by
 rintro σ H Q ⟨G,ρ,r,h⟩;unfold dJ at h;refine⟨G,ρ,r,?_⟩;cases ar:m ρ with
 |bad=>rw[ar]at h;exact h.elim
 |exc c=>rw[ar]at h;exact h
 |ok ds=>
  rw[ar,R.bl]at h;intro vs H1 aN av s1 a;by_cases hl:ds.length≤1000000
  ·rw[if_pos hl]at h;refine⟨by rw[←a.length];exact Nat.le_trans hl (by decide),fun p hp=>?_⟩;refine h (.ref p) _ _ (av.lay hp) (s1.trans (bT.lay av.aL.sub hp)) ?_;simp only[At];exact⟨p,vs,rfl,dA,a.mono (Sub.upd (av.aL.sub.gone hp))⟩
  ·rw[if_neg hl]at h;exact h.elim
theorem cP.some{G H:ah}{σ :St}{ρ:ak}(r:Rel F G H σ ρ){a:Addr}(h:cP H σ ρ a):∃xs,H a=some xs:=by
 cases e:H a with
 |none=>exact absurd e (r.foot h).1
 |some o=>exact⟨o,rfl⟩
theorem cP.back{G H H':ah}{σ :St}{ρ:ak}(r:Rel F G H σ ρ)(s:Sub H H'){a:Addr}(h:cP H' σ ρ a):cP H σ ρ a:=by
 obtain⟨i,bZ,o,aj,ax,f⟩:=h;refine⟨i,bZ,o,aj,ax,?_⟩;obtain⟨cg,bE,q⟩:=r.bZ i bZ aj;rw[ax]at bE;cases bE;exact(q.keep (G':=G) (H':=H') (Sub.refl _) fun b jH=>⟨by
  cases e:H b with
  |none=>exact absurd e (q.foot jH).1
  |some u=>exact s b u e,(q.foot jH).2.1⟩).2 a f
theorem cP.fresh{G H H':ah}{σ :St}{ρ:ak}(r:Rel F G H σ ρ)(s:Sub H H'){a:Addr}(n:H a=none):¬cP H' σ ρ a:=fun h=>(r.foot (h.back r s)).1 n
def lim(xs:List D):R (List D):=if xs.length≤1000000 then .ok xs else .bad
def eV(m:aP):aP:=fun ρ=>(m ρ).bind lim
theorem Pe{m:aP}:ej (i7 F (eV m)) (Ci (eo F m)):=by
 rintro σ H Q ⟨G,ρ,r,h⟩;unfold eV lim at h;refine⟨G,ρ,r,?_⟩;cases ar:m ρ with
 |bad=>rw[ar]at h;exact h.elim
 |exc c=>rw[ar]at h;exact h
 |ok ds=>
  rw[ar,R.bl]at h;intro vs H1 aN av s1 a;by_cases hl:ds.length≤1000000
  ·rw[if_pos hl]at h;refine⟨by rw[←a.length];exact Nat.le_trans hl (by decide),fun p hp=>?_⟩;exact h p vs _ aN (av.lay0 hp) (s1.trans (bT.lay0 hp)) (s1.h.gone hp) dA (av.aL.sub.gone hp) a
  ·rw[if_neg hl]at h;exact h.elim
def c4(m:aP):aC:=fun ρ=>(m ρ).bind fun xs=>.ok (.lst xs)
theorem O7{m:aP}:ej (cY F (c4 m)) (i7 F m):=by
 rintro σ H Q ⟨G,ρ,r,h⟩;unfold c4 at h;refine⟨G,ρ,r,?_⟩;cases ar:m ρ with
 |bad=>rw[ar]at h;exact h.elim
 |exc c=>rw[ar]at h;exact h
 |ok ds=>rw[ar,R.bl]at h;intro a xs H' G' br s' aJ ha hg q;refine h (.ref a) H' _ (br.take ha hg (r.aL.hh.gone aJ) (cP.fresh r s'.h aJ)) (s'.put aJ hg) ?_;simp only[At];exact⟨a,xs,rfl,dA,q.mono (Sub.upd hg)⟩
def je:D→R Bool
 |.aD b=>.ok b
 |_=>.bad
def bc(m:aC):b4:=fun ρ=>(m ρ).bind je
theorem vx{m:aC}:mS (gd F (bc m)) (Cc (cY F m)):=by
 rintro σ H Q ⟨G,ρ,r,h⟩;unfold bc at h;refine⟨G,ρ,r,?_⟩;cases ar:m ρ with
 |bad=>rw[ar]at h;exact h.elim
 |exc c=>rw[ar]at h;exact h
 |ok d=>
  rw[ar,R.bl]at h;intro x H1 aN av s1 bF
  cases d<;>first
   |(exact h.elim)
   |(simp only[At]at bF;exact⟨_,bF,h H1 aN av s1⟩)
theorem Gs{m:aC}:mS (gd F (bc m)) (Co (cY F m)):=vx
def iE(a b:b4):b4:=fun ρ=>(a ρ).bind fun c=>if c=true then b ρ else .ok false
def fg(a b:b4):b4:=fun ρ=>(a ρ).bind fun c=>if c=true then .ok true else b ρ
def eO(a:b4):b4:=fun ρ=>(a ρ).bind fun c=>.ok (!c)
theorem OO{a b:b4}:mS (gd F (iE a b)) (Jh (gd F a) (gd F b)):=by
 rintro σ H Q ⟨G,ρ,r,h⟩;unfold iE at h;refine⟨G,ρ,r,?_⟩;cases ar:a ρ with
 |bad=>rw[ar]at h;exact h.elim
 |exc c=>rw[ar]at h;exact h
 |ok c=>
  rw[ar,R.bl]at h;intro H1 aN av s1;cases c with
  |true=>exact⟨aN,ρ,av,qE.mono s1 h⟩
  |false=>exact h H1 aN av s1
theorem Po{a b:b4}:mS (gd F (fg a b)) (Jv (gd F a) (gd F b)):=by
 rintro σ H Q ⟨G,ρ,r,h⟩;unfold fg at h;refine⟨G,ρ,r,?_⟩;cases ar:a ρ with
 |bad=>rw[ar]at h;exact h.elim
 |exc c=>rw[ar]at h;exact h
 |ok c=>
  rw[ar,R.bl]at h;intro H1 aN av s1;cases c with
  |true=>exact h H1 aN av s1
  |false=>exact⟨aN,ρ,av,qE.mono s1 h⟩
theorem Pl{a:b4}:mS (gd F (eO a)) (Jt (gd F a)):=by
 rintro σ H Q ⟨G,ρ,r,h⟩;unfold eO at h;refine⟨G,ρ,r,?_⟩;cases ar:a ρ with
 |bad=>rw[ar]at h;exact h.elim
 |exc c=>rw[ar]at h;exact h
 |ok c=>rw[ar,R.bl]at h;exact h
noncomputable def lE(a b:aC):aC:=fun ρ=>(a ρ).bind fun x=>(je x).bind fun c=>if c=true then b ρ else .ok (.aD false)
noncomputable def Ru(a b:aC):aC:=fun ρ=>(a ρ).bind fun x=>(je x).bind fun c=>if c=true then .ok (.aD true)else b ρ
def q0(a:aC):aC:=fun ρ=>(a ρ).bind fun x=>(je x).bind fun c=>.ok (.aD (!c))
theorem OP{a b:aC}:ej (cY F (lE a b)) (Ji (cY F a) (cY F b)):=by
 rintro σ H Q ⟨G,ρ,r,h⟩;unfold lE at h;refine⟨G,ρ,r,?_⟩;cases ar:a ρ with
 |bad=>rw[ar]at h;exact h.elim
 |exc c=>rw[ar]at h;exact h
 |ok d=>
  rw[ar,R.bl]at h;intro x H1 aN av s1 bF;cases d with
  |aD c=>
   simp only[At]at bF;refine⟨c,bF,?_⟩;cases c with
   |true=>exact⟨aN,ρ,av,jQ.mono s1 h⟩
   |false=>exact h _ H1 aN av s1 (by simp only[At])
  |_=>exact h.elim
theorem Pm{a:aC}:ej (cY F (q0 a)) (Ju (cY F a)):=by
 rintro σ H Q ⟨G,ρ,r,h⟩;unfold q0 at h;refine⟨G,ρ,r,?_⟩;cases ar:a ρ with
 |bad=>rw[ar]at h;exact h.elim
 |exc c=>rw[ar]at h;exact h
 |ok d=>
  rw[ar,R.bl]at h;intro x H1 aN av s1 bF;cases d with
  |aD c=>simp only[At]at bF;exact⟨c,bF,h _ H1 aN av s1 (by simp only[At])⟩
  |_=>exact h.elim
def nC(c:b4)(a b:aC):aC:=fun ρ=>(c ρ).bind fun k=>if k=true then a ρ else b ρ
theorem O9{c:b4}{a b:aC}:ej (cY F (nC c a b)) (Jp (gd F c) (cY F a) (cY F b)):=by
 rintro σ H Q ⟨G,ρ,r,h⟩;unfold nC at h;refine⟨G,ρ,r,?_⟩;cases ar:c ρ with
 |bad=>rw[ar]at h;exact h.elim
 |exc c=>rw[ar]at h;exact h
 |ok k=>
  rw[ar,R.bl]at h;intro H1 aN av s1;cases k with
  |true=>exact⟨aN,ρ,av,jQ.mono s1 h⟩
  |false=>exact⟨aN,ρ,av,jQ.mono s1 h⟩
def dg:a8:=fun ρ=>.ok (.bj ρ)
def a4(a b:a8):a8:=fun ρ=>(a ρ).bind fun f=>match f with
 |.bj bh=>b bh
 |f=>.ok f
theorem Pj:gR (e9 F dg) Cj:=by rintro bO σ H ⟨G,ρ,r,h⟩;exact h σ G H r (Sub.refl _)
theorem Px{a b:a8}:gR (e9 F (a4 a b)) (Cm (e9 F a) (e9 F b)):=by
 rintro bO σ H ⟨G,ρ,r,h⟩;unfold a4 at h;refine⟨G,ρ,r,?_⟩;cases ar:a ρ with
 |bad=>rw[ar]at h;exact h.elim
 |exc c=>rw[ar]at h;exact h
 |ok f=>
  rw[ar,R.bl]at h;cases f with
  |bj bh=>exact fun σ' G' H' br s'=>⟨G',bh,br,g0.mono s' h⟩
  |dh d=>exact h
  |i6 d=>exact h
  |ft d=>exact h
  |c3 d=>exact h
  |i5 d=>exact h
def cw(a:aC):a8:=fun ρ=>(a ρ).bind fun d=>.ok (.dh d)
theorem Pr{a:aC}:gR (e9 F (cw a)) (tW (cY F a)):=by
 rintro bO σ H ⟨G,ρ,r,h⟩;unfold cw at h;refine⟨G,ρ,r,?_⟩;cases ar:a ρ with
 |bad=>rw[ar]at h;exact h.elim
 |exc c=>rw[ar]at h;exact h
 |ok d=>rw[ar,R.bl]at h;exact fun v H' G' br s' a=>h v G' H' br.aL a
def g5(a:aP):a8:=fun ρ=>(a ρ).bind fun d=>.ok (.i6 d)
theorem Pt{a:aP}:gR (e9 F (g5 a)) (tW (i7 F a)):=by
 rintro bO σ H ⟨G,ρ,r,h⟩;unfold g5 at h;refine⟨G,ρ,r,?_⟩;cases ar:a ρ with
 |bad=>rw[ar]at h;exact h.elim
 |exc c=>rw[ar]at h;exact h
 |ok d=>rw[ar,R.bl]at h;exact fun a xs H' G' br s' h1 h2 h3 h4=>h a xs G' H' br.aL h3 (r.aL.hh.gone h1) h2 h4
def mq(i:Nat):aP:=fun ρ=>match ρ[i]? with
 |some (.aR (.lst d))=>.ok d
 |_=>.bad
theorem Pu(i:Nat):gR (e9 F (g5 (mq i))) (tW (rH i)):=by
 rintro bO σ H ⟨G,ρ,r,h⟩;unfold g5 mq at h;cases e:ρ[i]? with
 |none=>rw[e]at h;exact h.elim
 |some s=>
  rw[e]at h;cases s with
  |un=>exact h.elim
  |aq _=>exact h.elim
  |bG _=>exact h.elim
  |aR o=>
   cases o with
   |lst ds=>obtain⟨a,xs,aj,h1,h2,h3,h4⟩:=r.own e;exact⟨.ref a,aj,h a xs G H r.aL h2 h3 h1 h4⟩
   |a_ _ _=>exact h.elim
   |ins _ _ _=>exact h.elim
def c9(c:b4)(a b:a8):a8:=fun ρ=>(c ρ).bind fun k=>if k=true then a ρ else b ρ
theorem O_{c:b4}{a b:a8}:gR (e9 F (c9 c a b)) (Cg (gd F c) (e9 F a) (e9 F b)):=by
 rintro bO σ H ⟨G,ρ,r,h⟩;unfold c9 at h;refine⟨G,ρ,r,?_⟩;cases ar:c ρ with
 |bad=>rw[ar]at h;exact h.elim
 |exc c=>rw[ar]at h;exact h
 |ok k=>
  rw[ar,R.bl]at h;intro H1 aN av s1;cases k with
  |true=>exact⟨aN,ρ,av,g0.mono s1.g h⟩
  |false=>exact⟨aN,ρ,av,g0.mono s1.g h⟩
def bB(i:Nat)(d:D)(ρ:ak):R ak:=if i<ρ.length then .ok (ρ.set i (.aq d))else .bad
def cR(i:Nat)(a:aC):a8:=fun ρ=>(a ρ).bind fun d=>(bB i d ρ).bind fun bh=>.ok (.bj bh)
theorem Py{i:Nat}{a:aC}:gR (e9 F (cR i a)) (mD (cY F a) (iz i)):=by
 rintro bO σ H ⟨G,ρ,r,h⟩;unfold cR bB at h;refine⟨G,ρ,r,?_⟩;cases ar:a ρ with
 |bad=>rw[ar]at h;exact h.elim
 |exc c=>rw[ar]at h;exact h
 |ok d=>
  rw[ar,R.bl]at h;intro v H1 aN av s1 bf;by_cases hi:i<ρ.length
  ·rw[if_pos hi]at h;exact h _ aN H1 (av.set hi bf) s1.g
  ·rw[if_neg hi]at h;exact h.elim
noncomputable def fH(i:Nat)(a:aP):a8:=fun ρ=>(a ρ).bind fun ds=>if i<ρ.length then .ok (.bj (ρ.set i (.c_ ds)))else .bad
theorem Gy{i:Nat}{a:aP}:gR (e9 F (fH i a)) (mD (i7 F a) (iz i)):=by
 rintro bO σ H ⟨G,ρ,r,h⟩;unfold fH at h;refine⟨G,ρ,r,?_⟩;cases ar:a ρ with
 |bad=>rw[ar]at h;exact h.elim
 |exc c=>rw[ar]at h;exact h
 |ok ds=>
  rw[ar,R.bl]at h;intro b xs H1 aN av s1 h1 h2 h3 h4;by_cases hi:i<ρ.length
  ·rw[if_pos hi]at h;exact h _ aN H1 (av.VG hi h2 h3 (r.aL.hh.gone h1) h4 fun j ag o _ aj ax f=>cP.fresh r s1.h h1 ⟨j,ag,o,aj,ax,f⟩) s1.g
  ·rw[if_neg hi]at h;exact h.elim
def ji(i:Nat)(ρ:ak):ak:=match ρ[i]? with
 |some (.aR o)=>ρ.set i (.aq (lG o))
 |_=>ρ
theorem Rel.ji{G H:ah}{σ :St}{ρ:ak}(r:Rel F G H σ ρ)(i:Nat):∃G',Rel F G' H σ (ay.ji i ρ)∧Sub G G':=by
 unfold ay.ji;cases e:ρ[i]? with
 |none=>exact⟨G,r,Sub.refl _⟩
 |some s=>
  cases s with
  |un=>exact⟨G,r,Sub.refl _⟩
  |aq _=>exact⟨G,r,Sub.refl _⟩
  |bG _=>exact⟨G,r,Sub.refl _⟩
  |aR o=>exact r.j8 e
def o4(i:Nat)(m:a8):a8:=fun ρ=>m (ji i ρ)
theorem O6{i:Nat}{m:a8}:gR (e9 F (o4 i m)) (e9 F m):=by rintro bO σ H ⟨G,ρ,r,h⟩;obtain⟨aN,av,s1⟩:=r.ji i;exact⟨aN,_,av,g0.mono s1 h⟩
def gu:D→Bool
 |.non=>true|.aD _=>true|.int _=>true|.str _=>true
 |_=>false
theorem At.IP{K:PySem.W.Frag}{G G':ah}{d:D}{v:V}(h:gu d=true)(a:At K G d v):At K G' d v:=by
 cases d<;>first
  |(simp only[At]at a ⊢;exact a)
  |(cases h)
def l_:cp→cp
 |.aR o=>.aq (lG o)
 |.bG t=>.aq (toD t)
 |s=>s
def dF(ρ:ak):ak:=ρ.map l_
open Classical in
noncomputable def jj(σ :St)(ρ:ak)(G H:ah):ah:=fun b=>if cP H σ ρ b then H b else G b
theorem ve{G H:ah}{σ :St}{ρ:ak}(r:Rel F G H σ ρ):Sub G (jj σ ρ G H):=fun b o e=>by
 unfold jj
 split
 ·exact r.aL.sub b o e
 ·exact e
theorem oK{G H:ah}{σ :St}{ρ:ak}{b:Addr}(h:cP H σ ρ b):jj σ ρ G H b=H b:=by unfold jj;rw[if_pos h]
theorem ND{H:ah}{ρ:ak}{i:Nat}{s:cp}(e:(dF ρ)[i]?=some s)(o:Option V)(a:Addr):¬ep H s o a:=by
 unfold dF at e;rw[List.getElem?_map]at e;cases ax:ρ[i]? with
 |none=>rw[ax]at e;cases e
 |some t=>rw[ax]at e;have ag:l_ t=s:=Option.some.inj e;subst ag;cases t<;>exact fun z=>z
theorem Rel.plus{G H:ah}{σ :St}{ρ:ak}(r:Rel F G H σ ρ):Rel F (jj σ ρ G H) H σ (dF ρ):=by
 have a7:=ve r;refine⟨⟨fun b o e=>?_,r.aL.fc.trans a7,r.aL.hh,fun b hb=>?_⟩,by simp[dF,r.len],fun i s e=>?_,fun i j a s s' o cg aj _ _ _ f _=>absurd f (ND aj o a)⟩
 ·unfold jj at e
  split at e
  ·exact e
  ·exact r.aL.sub b o e
 ·unfold jj
  split
  ·rename_i z;exact absurd (r.foot z).2.2 hb
  ·exact r.aL.new b hb
 ·unfold dF at e;rw[List.getElem?_map]at e;cases aj:ρ[i]? with
  |none=>rw[aj]at e;cases e
  |some t=>
   rw[aj]at e;have ag:l_ t=s:=Option.some.inj e;obtain⟨o,ax,q⟩:=r.bZ i t aj;refine⟨o,ax,?_⟩;subst ag;cases t with
   |un=>trivial
   |aq d=>obtain⟨v,bE,a⟩:=q;exact⟨v,bE,a.mono a7⟩
   |aR ds=>obtain⟨a,ho,bE,h1,h2,h3,h4⟩:=q;subst bE;exact⟨.ref a,rfl,(h4.mono a7).at (by rw[oK (.aR aj ax)];exact h1)⟩
   |bG t=>obtain⟨v,bE,q⟩:=q;exact⟨v,bE,q.at_.view a7 fun a ha=>oK ⟨i,_,o,aj,ax,v,bE,ha⟩⟩
theorem Rel.back{G H G' H':ah}{σ :St}{ρ:ak}(r:Rel F G H σ ρ)(br:Rel F G' H' σ (dF ρ))(s:Sub (jj σ ρ G H) G'):Rel F G H' σ ρ:=
 r.over rfl ⟨(ve r).trans (s.trans br.aL.sub),r.aL.fc,br.aL.hh,r.aL.new⟩ (Sub.refl _) fun a ha=>by
   obtain⟨h1,h2,h3⟩:=r.foot ha;refine⟨?_,h2,h3⟩;cases e:H a with
   |none=>exact absurd e h1
   |some o=>exact br.aL.sub _ _ (s _ _ (by rw[oK ha];exact e))
def tA(d:D):R D:=if gu d=true then .ok d else .bad
def nz(m:aC):aC:=fun ρ=>(m (dF ρ)).bind tA
theorem OQ{m:aC}:ej (cY F (nz m)) (cY F m):=by
 rintro σ H Q ⟨G,ρ,r,h⟩;refine⟨jj σ ρ G H,dF ρ,r.plus,?_⟩;unfold nz tA at h;cases ar:m (dF ρ)with
 |bad=>rw[ar]at h;exact h.elim
 |exc c=>rw[ar]at h;exact h
 |ok d=>
  rw[ar,R.bl]at h;intro v H' G' br s' a;by_cases hd:gu d=true
  ·rw[if_pos hd]at h;exact h v H' G (r.back br s'.g) ⟨Sub.refl _,s'.h,fun _ _=>rfl⟩ (a.IP hd)
  ·rw[if_neg hd]at h;exact h.elim
def gH(m:b4):b4:=fun ρ=>m (dF ρ)
theorem OT{m:b4}:mS (gd F (gH m)) (gd F m):=by
 rintro σ H Q ⟨G,ρ,r,h⟩;refine⟨jj σ ρ G H,dF ρ,r.plus,?_⟩;unfold gH at h;cases ar:m (dF ρ)with
 |bad=>rw[ar]at h;exact h.elim
 |exc c=>rw[ar]at h;exact h
 |ok d=>rw[ar]at h;exact fun H' G' br s'=>h H' G (r.back br s'.g) ⟨Sub.refl _,s'.h,fun _ _=>rfl⟩
end
section
variable{F:aZ}
structure k8(K:PySem.W.Frag)(cV:It)(ds:List D)(G:ah):Prop where
 go:∀(i:Nat)(H:ah),Sub G H→i<ds.length→cV.go i H
 ja:∀(i:Nat)(H:ah)(x:V)(H':ah),Sub G H→i<ds.length→cV.ja i H x H'→∃d,ds[i]?=some d∧
  ((H'=H∧At K G d x)∨∃p xs ag,H p=none∧H'=upd H p (.tup xs)∧x=.ref p∧d=.tup ag∧aI K G ag xs)
 stop:∀(H:ah),Sub G H→cV.stop ds.length H
noncomputable def Qm(F:aZ)(G H:ah)(σ :St)(ρ:ak)(Q:It→ah→Prop):R (List D)→Prop
 |.ok ds=>∀cV H' G',Rel F G' H' σ ρ→bT G H G' H'→k8 F.K cV ds G'→Q cV H'
 |.exc c=>iD F c
 |.bad=>False
def kl(F:aZ)(m:aP):TI:=fun σ H Q=>∃G ρ,Rel F G H σ ρ∧Qm F G H σ ρ Q (m ρ)
abbrev mR(t' t:TI):Prop:=∀ σ H Q,t' σ H Q→t σ H Q
theorem k8.turn{cV:It}{ds:List D}{G aN H H':ah}{σ :St}{ρ:ak}{i:Nat}{x:V}(t:k8 F.K cV ds G)(r:Rel F aN H σ ρ)(s:Sub G aN)(hi:i<ds.length)(y:cV.ja i H x H') :
  ∃d G',ds[i]?=some d∧Rel F G' H' σ ρ∧bT aN H G' H'∧At F.K G' d x:=by
 obtain⟨d,e,h⟩:=t.ja i H x H' (s.trans r.aL.sub) hi y;rcases h with⟨rfl,a⟩|⟨p,xs,ag,hp,rfl,rfl,rfl,a⟩
 ·exact⟨d,aN,e,r,bT.refl _ _,a.mono s⟩
 ·refine⟨_,_,e,r.lay hp,bT.lay r.aL.sub hp,?_⟩;simp only[At];exact⟨p,xs,rfl,dA,(a.mono s).mono (Sub.upd (r.aL.sub.gone hp))⟩
noncomputable def mP(F:aZ)(g:hY)(set:D→ak→R ak):Prop:=∀ σ ρ G H v d Q bh,Rel F G H σ ρ→At F.K G d v→set d ρ=.ok bh→(∀ σ',Rel F G H σ' bh→Q σ' H)→g v σ H Q
theorem sx(i:Nat):mP F (iz i) (bB i):=by
 intro σ ρ G H v d Q bh r a e h;unfold bB at e;by_cases hi:i<ρ.length
 ·rw[if_pos hi]at e;cases e;exact h _ (r.set hi a)
 ·rw[if_neg hi]at e;cases e
noncomputable def hL:List (D→ak→R ak)→List D→ak→R ak
 |[],[],ρ=>.ok ρ
 |f::aV,d::ds,ρ=>(f d ρ).bind fun bh=>hL aV ds bh
 |_,_,_=>.bad
noncomputable def rZ(F:aZ)(g:k9)(set:List D→ak→R ak):Prop:=∀ σ ρ G H vs ds Q bh,Rel F G H σ ρ→aI F.K G ds vs→set ds ρ=.ok bh→(∀ σ',Rel F G H σ' bh→Q σ' H)→g vs σ H Q
theorem FP:rZ F vd (hL []):=by
 intro σ ρ G H vs ds Q bh r a e h;cases ds with
 |nil=>simp only[aI]at a;cases e;exact⟨a,h σ r⟩
 |cons d ds=>cases e
theorem zp{g:hY}{mb:k9}{f:D→ak→R ak}{aV:List (D→ak→R ak)}(h1:mP F g f)(h2:rZ F mb (hL aV)):rZ F (sv g mb) (hL (f::aV)):=by
 intro σ ρ G H vs ds Q bh r a e h;cases ds with
 |nil=>cases e
 |cons d ds=>
  simp only[aI]at a;obtain⟨v,xi,rfl,bf,l1⟩:=a;simp only[hL]at e;cases aj:f d ρ with
  |bad=>rw[aj]at e;cases e
  |exc c=>rw[aj]at e;cases e
  |ok dn=>rw[aj,R.bl]at e;refine⟨v,xi,rfl,h1 σ ρ G H v d _ dn r bf aj fun σ1 av=>?_⟩;exact h2 σ1 dn G H xi ds Q bh av l1 e h
def fX(aV:List (D→ak→R ak)):D→ak→R ak
 |.tup ds,ρ=>hL aV ds ρ
 |_,_=>.bad
theorem IY:∀{aV:List (D→ak→R ak)}{ds:List D}{ρ bh:ak},hL aV ds ρ=.ok bh→ds.length=aV.length
 |[],[],_,_,_=>rfl
 |[],_::_,_,_,e=>by cases e
 |_::_,[],_,_,e=>by cases e
 |f::aV,d::ds,ρ,bh,e=>by
  simp only[hL]at e;cases aj:f d ρ with
  |bad=>rw[aj]at e;cases e
  |exc c=>rw[aj]at e;cases e
  |ok dn=>rw[aj,R.bl]at e;simp[IY e]
theorem FQ{mb:k9}{aV:List (D→ak→R ak)}{n:Nat}(aJ:n=aV.length)(h:rZ F mb (hL aV)):mP F (vf F.K n mb) (fX aV):=by
 intro σ ρ G H v d Q bh r a e k;cases d with
 |tup ds=>simp only[At]at a;obtain⟨p,xs,rfl,aO,al⟩:=a;refine⟨p,xs,rfl,cv.of (r.aL.sub _ _ aO),?_,h σ ρ G H xs ds Q bh r al e k⟩;rw[←al.length,aJ];exact IY e
 |_=>cases e
noncomputable def gX(set:D→ak→R ak)(body:a8):List D→ak→R fl
 |[],ρ=>.ok (.bj ρ)
 |d::ds,ρ=>(set d ρ).bind fun dn=>(body dn).bind fun f=>match f with
  |.bj dR=>gX set body ds dR
  |.c3 dR=>gX set body ds dR
  |.ft dR=>.ok (.bj dR)
  |f=>.ok f
def d7(mi:aP)(set:D→ak→R ak)(body:a8):a8:=fun ρ=>(mi ρ).bind fun ds=>gX set body ds ρ
theorem O5{mi:aP}{set:D→ak→R ak}{body:a8}{g:hY}(hg:mP F g set)(hx:∀d ρ c,set d ρ≠.exc c):gR (e9 F (d7 mi set body)) (Jo (kl F mi) g (e9 F body)):=by
 rintro bO σ H ⟨G,ρ,r,h⟩;unfold d7 at h;refine⟨G,ρ,r,?_⟩;cases ar:mi ρ with
 |bad=>rw[ar]at h;exact h.elim
 |exc c=>rw[ar]at h;exact h
 |ok ds=>
  rw[ar,R.bl]at h;intro cV H1 aN av s1 it;refine⟨fun i m σ2 aM=>m=ds.length-i∧i≤ds.length∧∃cE dR,Rel F cE aM σ2 dR∧Sub aN cE∧g0 F cE bO (gX set body (ds.drop i) dR),⟨ds.length,by simp,Nat.zero_le _,aN,ρ,av,Sub.refl _,g0.mono s1.g (by simpa using h)⟩,?_⟩;rintro i m σ2 aM ⟨rfl,hi,cE,dR,bg,s2,b7⟩;by_cases ic:i<ds.length
  ·refine .inr ⟨it.go i aM (s2.trans bg.aL.sub) ic,fun σ3 cO=>∃fm xw,Rel F fm cO σ3 xw∧Sub aN fm∧g0 F fm bO (gX set body (ds.drop (i+1)) xw),fun σ3 cO⟨fm,xw,dU,s3,hD⟩=>⟨ds.length-(i+1),by omega,rfl,ic,fm,xw,dU,s3,hD⟩,fun x cO y=>?_⟩;obtain⟨d,fm,bE,dU,s3,e6⟩:=it.turn bg s2 ic y;have ek:ds.drop i=d::ds.drop (i+1):=by
    rw[List.drop_eq_getElem_cons ic];have:=List.getElem?_eq_getElem ic;rw[bE]at this;rw[Option.some.inj this]
   rw[ek]at b7;simp only[gX]at b7;cases dk:set d dR with
   |bad=>rw[dk]at b7;exact b7.elim
   |exc c=>exact absurd dk (hx d dR c)
   |ok iJ=>
    rw[dk,R.bl]at b7;refine hg σ2 dR fm cO x d _ iJ dU e6 dk fun σ5 jV=>⟨fm,iJ,jV,?_⟩;have tM:Sub cE fm:=s3.g;cases iU:body iJ with
    |bad=>rw[iU]at b7;exact b7.elim
    |exc c=>rw[iU]at b7;exact b7
    |ok f=>
     rw[iU,R.bl]at b7;cases f with
     |bj mL=>exact fun σ7 kx f9 ij dV=>⟨kx,mL,ij,s2.trans (tM.trans dV),g0.mono (tM.trans dV) b7⟩
     |c3 mL=>exact fun σ7 kx f9 ij dV=>⟨kx,mL,ij,s2.trans (tM.trans dV),g0.mono (tM.trans dV) b7⟩
     |ft mL=>exact fun σ7 kx f9 ij dV=>b7 σ7 kx f9 ij (tM.trans dV)
     |dh d=>exact b7
     |i6 ds=>exact b7
     |i5 t=>exact b7
  ·have e:ds.drop i=[]:=List.drop_eq_nil_of_le (by omega);rw[e]at b7;have iv:i=ds.length:=by omega
   subst iv;exact .inl ⟨it.stop aM (s2.trans bg.aL.sub),b7 σ2 cE aM bg (Sub.refl _)⟩
theorem tS(i:Nat):∀d ρ c,bB i d ρ≠.exc c:=fun d ρ c=>by
 unfold bB
 split<;>exact fun z=>nomatch z
theorem IZ:∀{aV:List (D→ak→R ak)},(∀f∈aV,∀d ρ c,f d ρ≠.exc c)→∀ds ρ c,hL aV ds ρ≠.exc c
 |[],_,[],_,_,e=>nomatch e
 |[],_,_::_,_,_,e=>nomatch e
 |_::_,_,[],_,_,e=>nomatch e
 |f::aV,h,d::ds,ρ,c,e=>by
  simp only[hL]at e;cases aj:f d ρ with
  |bad=>rw[aj]at e;cases e
  |exc c=>exact h f (by simp) d ρ c aj
  |ok dn=>rw[aj,R.bl]at e;exact IZ (fun g hg=>h g (by simp[hg])) ds dn c e
theorem I1{aV:List (D→ak→R ak)}(h:∀f∈aV,∀d ρ c,f d ρ≠.exc c):∀d ρ c,fX aV d ρ≠.exc c:=fun d ρ c e=>by
 cases d<;>first
  |(exact IZ h _ _ _ e)
  |(cases e)
theorem GF{K:PySem.W.Frag}{G:ah}{a:Addr}{xs:List V}{ds:List D}(h:bS K G a xs)(q:aI K G ds xs):k8 K (p5 K a) ds G where
 go:=fun i H s hi=>by obtain⟨v,e,_⟩:=q.get (List.getElem?_eq_getElem hi);exact⟨xs,v,bS.mono s h,e⟩
 ja:=fun i H x H' s hi y=>by obtain⟨rfl,y⟩:=y;obtain⟨d,e,a⟩:=q.vg (y xs (bS.mono s h));exact⟨d,e,.inl ⟨rfl,a⟩⟩
 stop:=fun H s=>⟨xs,bS.mono s h,by rw[←q.length];exact Nat.le_refl _⟩
theorem GH{K:PySem.W.Frag}{G:ah}{a:Addr}{xs:List V}{ds:List D}(h:cv K G a xs)(q:aI K G ds xs):k8 K (xH K a) ds G where
 go:=fun i H s hi=>by obtain⟨v,e,_⟩:=q.get (List.getElem?_eq_getElem hi);exact⟨xs,v,cv.mono s h,e⟩
 ja:=fun i H x H' s hi y=>by obtain⟨rfl,y⟩:=y;obtain⟨d,e,a⟩:=q.vg (y xs (cv.mono s h));exact⟨d,e,.inl ⟨rfl,a⟩⟩
 stop:=fun H s=>⟨xs,cv.mono s h,by rw[←q.length];exact Nat.le_refl _⟩
def fI(lo:Int)(n:Nat):List D:=(List.range n).map fun(i:Nat)=>.int (lo+(i:Int))
theorem GG{K:PySem.W.Frag}{G:ah}(lo:Int)(n:Nat):k8 K (r2 lo n) (fI lo n) G where
 go:=fun i H s hi=>by
  have h:i<n:=by simpa[fI]using hi
  exact h
 ja:=fun i H x H' s hi y=>by
  have h:i<n:=by simpa[fI]using hi
  obtain⟨aj,ax⟩:=y;refine⟨.int (lo+(i:Int)),?_,.inl ⟨aj,?_⟩⟩
  ·unfold fI;rw[List.getElem?_map,List.getElem?_range h];rfl
  ·simp only[At];exact ax
 stop:=fun H s=>by
  have h:n≤(fI lo n).length:=by simp[fI]
  exact h
def wR:D→R (List D)
 |.lst ds=>.ok ds
 |.bY ds=>.ok ds
 |_=>.bad
def Cw:D→R (List D)
 |.tup ds=>.ok ds
 |.de ds=>.ok ds
 |_=>.bad
def g4(m:aC):aP:=fun ρ=>(m ρ).bind wR
theorem Pc{m:aC}:mR (kl F (g4 m)) (Gl F.K (cY F m)):=by
 rintro σ H Q ⟨G,ρ,r,h⟩;unfold g4 at h;refine⟨G,ρ,r,?_⟩;cases ar:m ρ with
 |bad=>rw[ar]at h;exact h.elim
 |exc c=>rw[ar]at h;exact h
 |ok d=>
  rw[ar,R.bl]at h;intro v H1 aN av s1 a;cases d with
  |lst ds=>simp only[At]at a;obtain⟨p,xs,e,aO,al⟩:=a;exact⟨p,e,⟨xs,bS.of (av.aL.sub _ _ aO)⟩,h _ H1 aN av s1 (GF (bS.of aO) al)⟩
  |bY ds=>simp only[At]at a;obtain⟨p,xs,e,aO,al⟩:=a;exact⟨p,e,⟨xs,bS.mono av.aL.sub aO⟩,h _ H1 aN av s1 (GF aO al)⟩
  |_=>exact h.elim
def o6(m:aC):aP:=fun ρ=>(m ρ).bind Cw
theorem PH{m:aC}:mR (kl F (o6 m)) (Gq F.K (cY F m)):=by
 rintro σ H Q ⟨G,ρ,r,h⟩;unfold o6 at h;refine⟨G,ρ,r,?_⟩;cases ar:m ρ with
 |bad=>rw[ar]at h;exact h.elim
 |exc c=>rw[ar]at h;exact h
 |ok d=>
  rw[ar,R.bl]at h;intro v H1 aN av s1 a;cases d with
  |tup ds=>simp only[At]at a;obtain⟨p,xs,e,aO,al⟩:=a;exact⟨p,e,⟨xs,cv.of (av.aL.sub _ _ aO)⟩,h _ H1 aN av s1 (GH (cv.of aO) al)⟩
  |de ds=>simp only[At]at a;obtain⟨p,xs,e,aO,al⟩:=a;exact⟨p,e,⟨xs,cv.mono av.aL.sub aO⟩,h _ H1 aN av s1 (GH aO al)⟩
  |_=>exact h.elim
def lJ:List D→R (List D)
 |[.int j]=>if-(2^62)≤j∧j<2^62 then .ok (fI 0 j.toNat)else .bad
 |_=>.bad
noncomputable def tK:List D→R (List D)
 |[.int i,.int j]=>if-(2^62)≤i∧i<2^62∧-(2^62)≤j∧j<2^62 then .ok (fI i (j-i).toNat)else .bad
 |_=>.bad
theorem aI.ints1{K:PySem.W.Frag}{G:ah}{j:Int}{vs:List V}(a:aI K G [.int j] vs):vs=[.int j]:=by simp only[aI,At]at a;obtain⟨v,r,rfl,rfl,rfl⟩:=a;rfl
theorem aI.ints2{K:PySem.W.Frag}{G:ah}{i j:Int}{vs:List V}(a:aI K G [.int i,.int j] vs):vs=[.int i,.int j]:=by simp only[aI,At]at a;obtain⟨v,r,rfl,rfl,v,r,rfl,rfl,rfl⟩:=a;rfl
def eW(m:aP):aP:=fun ρ=>(m ρ).bind lJ
def q4(m:aP):aP:=fun ρ=>(m ρ).bind tK
theorem Pp{m:aP}:mR (kl F (eW m)) (Gm (eo F m)):=by
 rintro σ H Q ⟨G,ρ,r,h⟩;unfold eW at h;refine⟨G,ρ,r,?_⟩;cases ar:m ρ with
 |bad=>rw[ar]at h;exact h.elim
 |exc c=>rw[ar]at h;exact h
 |ok ds=>
  rw[ar,R.bl]at h;intro vs H1 aN av s1 a;unfold lJ at h
  split at h
  ·rename_i j
   split at h
   ·rename_i cF;exact⟨j,a.ints1,cF.1,cF.2,h _ H1 aN av s1 (GG 0 j.toNat)⟩
   ·exact h.elim
  ·exact h.elim
theorem Pq{m:aP}:mR (kl F (q4 m)) (Gn (eo F m)):=by
 rintro σ H Q ⟨G,ρ,r,h⟩;unfold q4 at h;refine⟨G,ρ,r,?_⟩;cases ar:m ρ with
 |bad=>rw[ar]at h;exact h.elim
 |exc c=>rw[ar]at h;exact h
 |ok ds=>
  rw[ar,R.bl]at h;intro vs H1 aN av s1 a;unfold tK at h
  split at h
  ·rename_i i j
   split at h
   ·rename_i cF;exact⟨i,j,a.ints2,cF,h _ H1 aN av s1 (GG i (j-i).toNat)⟩
   ·exact h.elim
  ·exact h.elim
inductive b1 where
 |v (d:D)|o (ds:List D)|t (t:T)
noncomputable def Qk(F:aZ)(Q:cI):R b1→Prop
 |.ok (.v d)=>∀v G' H',eK F G' H'→At F.K G' d v→Q v H'
 |.ok (.o ds)=>∀a xs G' H',eK F G' H'→G' a=none→F.bL a=none→H' a=some (.lst xs)→aI F.K G' ds xs→Q (.ref a) H'
 |.ok (.t t)=>∀v G' H',eK F G' H'→k_ F G' H' t v→Q v H'
 |.exc c=>iD F c
 |.bad=>False
noncomputable def pG(K:PySem.W.Frag)(n:Nat)(xe:dc→Str→ah→Prop)(mf:List D→R b1):iP:=fun vs H Q E=>∃G ds,Sub G H∧aI K G ds vs∧ds.length=n∧Qk ⟨K,G,H,xe E⟩ Q (mf ds)
theorem B6{K:PySem.W.Frag}{n:Nat}{xe:dc→Str→ah→Prop}{mf:List D→R b1}:∀vs H Q E,pG K n xe mf vs H Q E→vs.length=n:=fun vs H Q E h=>by obtain⟨G,ds,_,a,l,_⟩:=h;rw[←a.length];exact l
noncomputable def outD:fl→R b1
 |.bj _=>.ok (.v .non)
 |.dh d=>.ok (.v d)
 |.i6 ds=>.ok (.o ds)
 |.i5 t=>.ok (.t t)
 |_=>.bad
def jO(N:Nat)(ds:List D):ak:=ds.map .aq++List.replicate (N-ds.length) .un
def cZ(N:Nat)(m:a8)(ds:List D):R b1:=(m (jO N ds)).bind outD
def lP(N:Nat)(vs:List V):St:=vs.map some++List.replicate (N-vs.length) none
theorem Uz{K:PySem.W.Frag}{G H:ah}{e_:Str→ah→Prop}{N:Nat}{ds:List D}{vs:List V}(s:Sub G H)(a:aI K G ds vs):Rel ⟨K,G,H,e_⟩ G H (lP N vs) (jO N ds):=by
 have hl:=a.length;refine⟨⟨s,Sub.refl _,Sub.refl _,fun _ _=>rfl⟩,by simp[lP,jO,hl],fun i t e=>?_,fun i j b ag sl o cg aj ax _ _ f _=>?_⟩
 ·unfold jO at e;unfold lP;by_cases hi:i<ds.length
  ·rw[List.getElem?_append_left (by simpa using hi),List.getElem?_map,List.getElem?_eq_getElem hi]at e;obtain⟨v,aj,bf⟩:=a.get (List.getElem?_eq_getElem hi);rw[List.getElem?_append_left (by rw[List.length_map,←hl];exact hi),List.getElem?_map,aj];have gq:cp.aq ds[i]=t:=Option.some.inj e;subst gq;exact⟨some v,rfl,v,rfl,bf⟩
  ·rw[List.getElem?_append_right (by simpa using hi),List.getElem?_replicate]at e;rw[List.getElem?_append_right (by rw[List.length_map,←hl];omega),List.getElem?_replicate,List.length_map,←hl];rw[List.length_map]at e
   split at e
   ·rename_i hh;rw[if_pos hh];cases e;exact⟨none,rfl,trivial⟩
   ·cases e
 ·exfalso;unfold jO at aj;by_cases hi:i<ds.length
  ·rw[List.getElem?_append_left (by simpa using hi),List.getElem?_map,List.getElem?_eq_getElem hi]at aj;cases aj;exact f
  ·rw[List.getElem?_append_right (by simpa using hi),List.getElem?_replicate]at aj
   split at aj
   ·cases aj;exact f
   ·cases aj
theorem yM{K:PySem.W.Frag}{xe:dc→Str→ah→Prop}{n N:Nat}{m:a8}{vs:List V}{H:ah}{Q:cI}{E:dc}(h:pG K n xe (cZ N m) vs H Q E) :
  ∃G,e9 ⟨K,G,H,xe E⟩ m { bj:=fun _ H'=>Q .non H',dh:=Q } (lP N vs) H:=by
 obtain⟨G,ds,s,a,l,k⟩:=h;refine⟨G,G,jO N ds,Uz s a,?_⟩;unfold cZ at k;cases e:m (jO N ds)with
 |bad=>rw[e]at k;exact k.elim
 |exc c=>rw[e]at k;exact k
 |ok f=>
  rw[e,R.bl]at k;cases f with
  |bj ρ=>exact fun σ' G' H' r _=>k .non G' H' r.aL (by simp only[At])
  |dh d=>exact k
  |i6 ds=>exact k
  |i5 t=>exact k
  |ft ρ=>exact k.elim
  |c3 ρ=>exact k.elim
theorem eK.of{G H G' H':ah}{σ :St}{ρ:ak}{e_:Str→ah→Prop}(r:Rel F G H σ ρ)(k:eK ⟨F.K,G,H,e_⟩ G' H'):Rel F G' H' σ ρ:=r.grow k.fc k.sub k.hh fun b hb=>k.new b hb
def kV:b1→R D
 |.v d=>.ok d
 |.o ds=>.ok (.lst ds)
 |.t t=>.ok (toD t)
def A2:b1→R T
 |.t t=>.ok t
 |_=>.bad
def A1:b1→R (List D)
 |.o ds=>.ok ds
 |_=>.bad
def lz(A:List Addr)(G H:ah):ah:=fun b=>if b∈A then H b else G b
theorem Rel.JA{G H cu bL:ah}{σ :St}{ρ:ak}(r:Rel F G H σ ρ){F':aZ}{t:T}{v:V}(hK:F'.K=F.K)(q:k_ F' G H t v)(u:bT cu bL G H)(n:∀b∈aE H t v,bL b=none∧F.bL b=none∧¬cP H σ ρ b) :
  Rel F (lz (aE H t v) G H) H σ ρ∧bT cu bL (lz (aE H t v) G H) H∧At F.K (lz (aE H t v) G H) (toD t) v:=by
 have a7:Sub G (lz (aE H t v) G H):=fun b o e=>by
  unfold lz;by_cases hb:b∈aE H t v
  ·rw[(q.own b hb).1]at e;cases e
  ·rw[if_neg hb];exact e
 refine⟨r.over rfl ⟨fun b o e=>?_,r.aL.fc.trans a7,r.aL.hh,fun b hb=>?_⟩ a7 fun a ha=>?_,⟨u.g.trans a7,u.h,fun b hb=>?_⟩,?_⟩
 ·unfold lz at e
  split at e
  ·exact e
  ·exact r.aL.sub b o e
 ·unfold lz;rw[if_neg (fun z=>hb (n b z).2.1)];exact r.aL.new b hb
 ·obtain⟨h1,h2,h3⟩:=r.foot ha;refine⟨rfl,?_,h3⟩;unfold lz;rw[if_neg (fun z=>(n a z).2.2 ha)];exact h2
 ·unfold lz;rw[if_neg (fun z=>hb (n b z).1)];exact u.n b hb
 ·rw[←hK];exact q.at_.view a7 fun a ha=>by unfold lz;rw[if_pos ha]
noncomputable def b8(n:Nat)(mf:List D→R b1)(m:aP):aC:=fun ρ=>(m ρ).bind fun ds=>if ds.length=n then(mf ds).bind kV else .bad
noncomputable def fV(n:Nat)(mf:List D→R b1)(m:aP):aP:=fun ρ=>(m ρ).bind fun ds=>if ds.length=n then(mf ds).bind A1 else .bad
theorem OU{n:Nat}{mf:List D→R b1}{m:aP}{xe:dc→Str→ah→Prop}{E:dc}(hx:F.e_=xe E):ej (cY F (b8 n mf m)) (w3 (pG F.K n xe mf) [] E (eo F m)):=by
 rintro σ H Q ⟨G,ρ,r,h⟩;unfold b8 at h;refine⟨G,ρ,r,?_⟩;cases ar:m ρ with
 |bad=>rw[ar]at h;exact h.elim
 |exc c=>rw[ar]at h;exact h
 |ok ds=>
  rw[ar,R.bl]at h;intro vs H1 aN av s1 a;by_cases aJ:ds.length=n
  ·rw[if_pos aJ]at h;rw[List.append_nil];refine⟨aN,ds,av.aL.sub,a,aJ,?_⟩;cases e:mf ds with
   |bad=>rw[e]at h;exact h.elim
   |exc c=>rw[e]at h;intro G' H' k;have z:=h G' H' (eK.of av k).aL;rw[hx]at z;exact z
   |ok t=>
    rw[e,R.bl]at h;cases t with
    |v d=>exact fun v G' H' k bf=>h v H' G' (eK.of av k) (s1.trans ⟨k.fc,k.hh,k.new⟩) bf
    |o ag=>intro p xs G' H' k h1 h2 h3 h4;have h2:H1 p=none:=h2;have br:=eK.of av k;have no:¬cP H' σ ρ p:=cP.fresh av k.hh h2;refine h (.ref p) H' _ (br.take h3 h1 (av.aL.hh.gone h2) no) ((s1.trans ⟨k.fc,k.hh,k.new⟩).put (s1.h.gone h2) h1) ?_;simp only[At];exact⟨p,xs,rfl,dA,h4.mono (Sub.upd h1)⟩
    |t t=>intro v G' H' k q;obtain⟨a1,a2,e6⟩:=(eK.of av k).JA (F':=⟨F.K,aN,H1,xe E⟩) rfl q (s1.trans ⟨k.fc,k.hh,k.new⟩) fun b hb=>⟨s1.h.gone (q.own b hb).2,av.aL.hh.gone (q.own b hb).2,cP.fresh av k.hh (q.own b hb).2⟩;exact h v H' _ a1 a2 e6
  ·rw[if_neg aJ]at h;exact h.elim
theorem OV{n:Nat}{mf:List D→R b1}{m:aP}{xe:dc→Str→ah→Prop}{E:dc}(hx:F.e_=xe E):ej (i7 F (fV n mf m)) (w3 (pG F.K n xe mf) [] E (eo F m)):=by
 rintro σ H Q ⟨G,ρ,r,h⟩;unfold fV at h;refine⟨G,ρ,r,?_⟩;cases ar:m ρ with
 |bad=>rw[ar]at h;exact h.elim
 |exc c=>rw[ar]at h;exact h
 |ok ds=>
  rw[ar,R.bl]at h;intro vs H1 aN av s1 a;by_cases aJ:ds.length=n
  ·rw[if_pos aJ]at h;rw[List.append_nil];refine⟨aN,ds,av.aL.sub,a,aJ,?_⟩;cases e:mf ds with
   |bad=>rw[e]at h;exact h.elim
   |exc c=>rw[e]at h;intro G' H' k;have z:=h G' H' (eK.of av k).aL;rw[hx]at z;exact z
   |ok t=>
    rw[e,R.bl]at h;cases t with
    |v d=>exact h.elim
    |t t=>exact h.elim
    |o ag=>intro p xs G' H' k h1 h2 h3 h4;have h2:H1 p=none:=h2;have br:=eK.of av k;exact h p xs H' G' br (s1.trans ⟨k.fc,k.hh,k.new⟩) (s1.h.gone h2) h3 h1 h4
  ·rw[if_neg aJ]at h;exact h.elim
abbrev kz:=ak→R T
noncomputable def Qq(F:aZ)(G H:ah)(σ :St)(ρ:ak)(Q:cI):R T→Prop
 |.ok t=>∀v H' G',Rel F G' H' σ ρ→bT G H G' H'→k_ F G' H' t v→(∀b∈aE H' t v,H b=none)→Q v H'
 |.exc c=>iD F c
 |.bad=>False
def w6(F:aZ)(m:kz):TE:=fun σ H Q=>∃G ρ,Rel F G H σ ρ∧Qq F G H σ ρ Q (m ρ)
noncomputable def qS(n:Nat)(mf:List D→R b1)(m:aP):kz:=fun ρ=>(m ρ).bind fun ds=>if ds.length=n then(mf ds).bind A2 else .bad
theorem OW{n:Nat}{mf:List D→R b1}{m:aP}{xe:dc→Str→ah→Prop}{E:dc}(hx:F.e_=xe E):ej (w6 F (qS n mf m)) (w3 (pG F.K n xe mf) [] E (eo F m)):=by
 rintro σ H Q ⟨G,ρ,r,h⟩;unfold qS at h;refine⟨G,ρ,r,?_⟩;cases ar:m ρ with
 |bad=>rw[ar]at h;exact h.elim
 |exc c=>rw[ar]at h;exact h
 |ok ds=>
  rw[ar,R.bl]at h;intro vs H1 aN av s1 a;by_cases aJ:ds.length=n
  ·rw[if_pos aJ]at h;rw[List.append_nil];refine⟨aN,ds,av.aL.sub,a,aJ,?_⟩;cases e:mf ds with
   |bad=>rw[e]at h;exact h.elim
   |exc c=>rw[e]at h;intro G' H' k;have z:=h G' H' (eK.of av k).aL;rw[hx]at z;exact z
   |ok t=>
    rw[e,R.bl]at h;cases t with
    |v d=>exact h.elim
    |o ag=>exact h.elim
    |t t=>intro v G' H' k q;exact h v H' G' (eK.of av k) (s1.trans ⟨k.fc,k.hh,k.new⟩) ⟨q.at_,q.aQ,fun b hb=>⟨(q.own b hb).1,av.aL.hh.gone (q.own b hb).2⟩⟩ fun b hb=>s1.h.gone (q.own b hb).2
  ·rw[if_neg aJ]at h;exact h.elim
noncomputable def o_(i:Nat)(a:kz):a8:=fun ρ=>(a ρ).bind fun t=>if i<ρ.length then .ok (.bj (ρ.set i (.bG t)))else .bad
theorem PA{i:Nat}{a:kz}:gR (e9 F (o_ i a)) (mD (w6 F a) (iz i)):=by
 rintro bO σ H ⟨G,ρ,r,h⟩;unfold o_ at h;refine⟨G,ρ,r,?_⟩;cases ar:a ρ with
 |bad=>rw[ar]at h;exact h.elim
 |exc c=>rw[ar]at h;exact h
 |ok t=>
  rw[ar,R.bl]at h;intro v H1 aN av s1 q n;by_cases hi:i<ρ.length
  ·rw[if_pos hi]at h;refine h _ aN H1 (av.ry hi ⟨v,rfl,q⟩ fun b f j s' cg _ aj ax ze=>?_) s1.g;obtain⟨u,iw,hb⟩:=f;cases iw;exact cP.fresh r s1.h (n b hb) ⟨j,s',cg,aj,ax,ze⟩
  ·rw[if_neg hi]at h;exact h.elim
def s7(a:kz):a8:=fun ρ=>(a ρ).bind fun t=>.ok (.i5 t)
def q7(i:Nat):kz:=fun ρ=>match ρ[i]? with
 |some (.bG t)=>.ok t
 |_=>.bad
theorem Pw(i:Nat):gR (e9 F (s7 (q7 i))) (tW (rH i)):=by
 rintro bO σ H ⟨G,ρ,r,h⟩;unfold s7 q7 at h;cases e:ρ[i]? with
 |none=>rw[e]at h;exact h.elim
 |some s=>
  rw[e]at h;cases s with
  |un=>exact h.elim
  |aq _=>exact h.elim
  |aR _=>exact h.elim
  |bG t=>obtain⟨v,aj,q⟩:=r.tree e;exact⟨v,aj,h v G H r.aL q⟩
end
end ay
namespace ay
open PySem PySem.Spec aS
def gC:cp→cp
 |.aq d=>.aq d
 |_=>.un
def lj(nl:Nat)(caps:List Nat)(ρ:ak):ak:=List.replicate nl .un++caps.map fun j=>gC (ρ.getD j .un)
noncomputable def fN(set:D→ak→R ak)(tst:b4)(elt:aC):List D→ak→List D→R (List D)
 |[],_,ws=>.ok ws
 |d::ds,ρ,ws=>(set d ρ).bind fun dn=>(tst dn).bind fun b=>if b=true then(elt dn).bind fun y=>if ws.length<1000000 then fN set tst elt ds dn (ws++[y])else .bad else fN set tst elt ds dn ws
def iG{α:Type}:R α→R α
 |.exc _=>.bad
 |r=>r
noncomputable def d6(nl:Nat)(caps:List Nat)(mi:aP)(set:D→ak→R ak)(tst:b4)(elt:aC):aP:=fun ρ=>(mi ρ).bind fun ds=>iG (fN set tst elt ds (lj nl caps ρ) [])
def fF(K:PySem.W.Frag)(G H:ah):aZ:=⟨K,G,H,fun _ _=>False⟩
def CR(K:PySem.W.Frag)(m:b4):TT:=fun σ H Q=>∃cu bL,gd (fF K cu bL) m σ H Q
def CQ(K:PySem.W.Frag)(m:aC):TE:=fun σ H Q=>∃cu bL,cY (fF K cu bL) m σ H Q
def Ia:cp→Bool
 |.un=>true|.aq _=>true
 |_=>false
theorem Ib{H:ah}{s:cp}(h:Ia s=true)(o:Option V)(a:Addr):¬ep H s o a:=by
 cases s<;>first
  |exact fun z=>z
  |cases h
def od(ρ:ak):Prop:=∀(i:Nat)(s:cp),ρ[i]?=some s→Ia s=true
theorem Hy(nl:Nat)(caps:List Nat)(ρ:ak):od (lj nl caps ρ):=fun i s aj=>by
 unfold lj at aj;by_cases hi:i<nl
 ·rw[List.getElem?_append_left (by simpa using hi),List.getElem?_replicate,if_pos hi]at aj;cases aj;rfl
 ·rw[List.getElem?_append_right (by simpa using hi),List.length_replicate,List.getElem?_map]at aj;cases jh:caps[i-nl]? with
  |none=>rw[jh]at aj;cases aj
  |some j=>rw[jh]at aj;have ag:gC (ρ.getD j .un)=s:=Option.some.inj aj;subst ag;cases hs:ρ.getD j .un<;>rfl
def Keeps(set:D→ak→R ak):Prop:=∀d ρ bh,set d ρ=.ok bh→od ρ→od bh
theorem tR(i:Nat):Keeps (bB i):=fun d ρ bh e n j ds z=>by
 unfold bB at e
 split at e
 ·cases e;rcases get_set z with⟨_,z⟩|⟨_,z⟩
  ·subst z;rfl
  ·exact n j ds z
 ·cases e
theorem IX:∀{aV:List (D→ak→R ak)},(∀f∈aV,Keeps f)→∀ds ρ bh,hL aV ds ρ=.ok bh→od ρ→od bh
 |[],_,[],_,_,e,n=>by cases e;exact n
 |[],_,_::_,_,_,e,_=>by cases e
 |_::_,_,[],_,_,e,_=>by cases e
 |f::aV,h,d::ds,ρ,bh,e,n=>by
  simp only[hL]at e;cases aj:f d ρ with
  |bad=>rw[aj]at e;cases e
  |exc c=>rw[aj]at e;cases e
  |ok dn=>rw[aj,R.bl]at e;exact IX (fun g hg=>h g (by simp[hg])) ds dn bh e (h f (by simp) d ρ dn aj n)
theorem I0{aV:List (D→ak→R ak)}(h:∀f∈aV,Keeps f):Keeps (fX aV):=fun d ρ bh e n=>by
 cases d<;>first
  |(exact IX h _ _ _ e n)
  |(cases e)
section
variable{F:aZ}
theorem Uy{G H:ah}{σ :St}{ρ:ak}(r:Rel F G H σ ρ){acc:Addr}(ha:H acc=none)(nl:Nat)(caps:List Nat) :
  Rel (fF F.K G H) G (upd H acc (.lst [])) (ll nl caps σ) (lj nl caps ρ):=by
 refine⟨⟨Sub.xg r.aL.sub (r.aL.sub.gone ha),Sub.refl _,Sub.upd ha,fun _ _=>rfl⟩,by simp[ll,lj],fun i s e=>?_,fun i j b s s' o cg aj _ _ _ f _=>?_⟩
 ·unfold lj at e;unfold ll;by_cases hi:i<nl
  ·rw[List.getElem?_append_left (by simpa using hi),List.getElem?_replicate,if_pos hi]at e;rw[List.getElem?_append_left (by simpa using hi),List.getElem?_replicate,if_pos hi];cases e;exact⟨none,rfl,trivial⟩
  ·rw[List.getElem?_append_right (by simpa using hi),List.length_replicate,List.getElem?_map]at e;rw[List.getElem?_append_right (by simpa using hi),List.length_replicate,List.getElem?_map];cases jh:caps[i-nl]? with
   |none=>rw[jh]at e;cases e
   |some j=>
    rw[jh]at e;refine⟨σ.getD j none,rfl,?_⟩;have ag:gC (ρ.getD j .un)=s:=Option.some.inj e;subst ag;cases cq:ρ[j]? with
    |none=>
     have eg:ρ.getD j .un=.un:=by rw[List.getD_eq_getElem?_getD,cq];rfl
     rw[eg];exact trivial
    |some t=>
     have eg:ρ.getD j .un=t:=by rw[List.getD_eq_getElem?_getD,cq];rfl
     rw[eg];obtain⟨o,aj,q⟩:=r.bZ j t cq;cases t with
     |un=>exact trivial
     |aR ds=>exact trivial
     |bG t=>exact trivial
     |aq d=>obtain⟨v,ax,a⟩:=q;refine⟨v,?_,a⟩;rw[List.getD_eq_getElem?_getD,aj,ax];rfl
 ·exact absurd f (Ib (Hy nl caps ρ i s aj) o b)
theorem OX{nl:Nat}{caps:List Nat}{mi:aP}{set:D→ak→R ak}{tst:b4}{elt:aC}{g:hY}(hg:∀G H,mP (fF F.K G H) g set)(hx:∀d ρ c,set d ρ≠.exc c)(hk:Keeps set) :
  ej (i7 F (d6 nl caps mi set tst elt)) (w4 (kl F mi) g (CR F.K tst) (CQ F.K elt) nl caps):=by
 rintro σ H Q ⟨G,ρ,r,h⟩;unfold d6 at h;refine⟨G,ρ,r,?_⟩;cases ar:mi ρ with
 |bad=>rw[ar]at h;exact h.elim
 |exc c=>rw[ar]at h;exact h
 |ok ds=>
  rw[ar,R.bl]at h;intro cV H1 aN av xd it acc ha;cases cq:fN set tst elt ds (lj nl caps ρ) []with
  |bad=>rw[cq]at h;exact h.elim
  |exc c=>rw[cq]at h;exact h.elim
  |ok res=>
   rw[cq]at h
   refine⟨fun i m σ2 aM=>m=ds.length-i∧i≤ds.length∧∃cE dR ys ws,Rel (fF F.K aN H1) cE aM σ2 dR∧od dR∧aM acc=some (.lst ys)∧cE acc=none∧aI F.K cE ws ys∧fN set tst elt (ds.drop i) dR ws=.ok res,
    ⟨ds.length,by simp,Nat.zero_le _,aN,_,[],[],Uy av ha nl caps,Hy _ _ _,dA,av.aL.sub.gone ha,.nil,by simpa using cq⟩,?_⟩
   rintro i m σ2 aM ⟨rfl,hi,cE,dR,ys,ws,bg,cD,h1,h2,h3,h4⟩;have a7:Sub aN cE:=bg.aL.fc;by_cases ic:i<ds.length
   ·refine .inr ⟨it.go i aM (a7.trans bg.aL.sub) ic,fun x cO y=>?_⟩;obtain⟨d,fm,bE,dU,lQ,e6⟩:=k8.turn (F:=fF F.K aN H1) it bg a7 ic y;have ek:ds.drop i=d::ds.drop (i+1):=by
     rw[List.drop_eq_getElem_cons ic];have:=List.getElem?_eq_getElem ic;rw[bE]at this;rw[Option.some.inj this]
    rw[ek]at h4;simp only[fN]at h4;cases dk:set d dR with
    |bad=>rw[dk]at h4;cases h4
    |exc c=>exact absurd dk (hx d dR c)
    |ok iJ=>
     rw[dk,R.bl]at h4;refine hg aN H1 σ2 dR fm cO x d _ iJ dU e6 dk fun σ5 jV=>⟨aN,H1,fm,iJ,jV,?_⟩;have pj:od iJ:=hk d dR iJ dk cD;have Dt:cO acc=some (.lst ys):=lQ.h _ _ h1;have g3:fm acc=none:=by rw[lQ.n acc (by rw[h1];exact fun z=>nomatch z)];exact h2
     cases eT:tst iJ with
     |bad=>rw[eT]at h4;cases h4
     |exc c=>rw[eT]at h4;cases h4
     |ok b=>
      rw[eT,R.bl]at h4;intro mQ p1 wD CA;have xU:mQ acc=some (.lst ys):=CA.h _ _ Dt;have FN:p1 acc=none:=by rw[CA.n acc (by rw[Dt];exact fun z=>nomatch z)];exact g3
      have qe:aI F.K p1 ws ys:=(h3.mono lQ.g).mono CA.g;cases b with
      |false=>rw[if_neg Bool.false_ne_true]at h4;rw[if_neg Bool.false_ne_true];exact⟨_,by omega,rfl,ic,p1,iJ,ys,ws,wD,pj,xU,FN,qe,h4⟩
      |true=>
       rw[if_pos rfl]at h4;rw[if_pos rfl];refine⟨aN,H1,p1,iJ,wD,?_⟩;cases oF:elt iJ with
       |bad=>rw[oF]at h4;cases h4
       |exc c=>rw[oF]at h4;cases h4
       |ok y=>
        rw[oF,R.bl]at h4;intro C8 xD xC rt u8 xT;have KQ:xD acc=some (.lst ys):=u8.h _ _ xU;have FO:xC acc=none:=by rw[u8.n acc (by rw[xU];exact fun z=>nomatch z)];exact FN
        by_cases hl:ws.length<1000000
        ·rw[if_pos hl]at h4;have Dv:aI F.K xC ws ys:=qe.mono u8.g;refine⟨ys,KQ,by rw[←Dv.length];exact Nat.lt_trans hl (by decide),_,by omega,rfl,ic,xC,iJ,ys++[C8],ws++[y],?_,pj,dA,FO,Dv.snoc xT,h4⟩;have qC:(fF F.K aN H1).bL acc=none:=ha;refine⟨⟨Sub.xg rt.aL.sub FO,rt.aL.fc,fun c o z=>?_,rt.aL.new⟩,rt.len,fun j t z=>?_,fun j k b s s' o cg gh _ _ _ f _=>absurd f (Ib (pj j s gh) o b)⟩
         ·rw[dr (jr z qC)];exact rt.aL.hh c o z
         ·obtain⟨o,a6,aW⟩:=rt.bZ j t z;refine⟨o,a6,?_⟩;cases t with
          |un=>exact trivial
          |aq d=>exact aW
          |aR ag=>exact absurd (pj j _ z) (fun w=>nomatch w)
          |bG ag=>exact absurd (pj j _ z) (fun w=>nomatch w)
        ·rw[if_neg hl]at h4;cases h4
   ·have e:ds.drop i=[]:=List.drop_eq_nil_of_le (by omega);rw[e]at h4;simp only[fN]at h4;cases h4;have iv:i=ds.length:=by omega
    subst iv;refine .inl ⟨it.stop aM (a7.trans bg.aL.sub),?_⟩;have k:eK ⟨F.K,aN,H1,fun _ _=>False⟩ cE aM:=bg.aL;exact h acc ys aM cE (eK.of av k) (xd.trans ⟨k.fc,k.hh,k.new⟩) (xd.h.gone ha) h1 h2 h3
end
mutual
noncomputable def bk:D→D→Bool
 |.non,.non=>true
 |.aD a,.aD b=>a==b
 |.aD a,.int b=>(if a then 1 else 0)==b
 |.int a,.aD b=>a==(if b then 1 else 0)
 |.int a,.int b=>a==b
 |.str a,.str b=>a==b
 |.tup xs,.tup ys=>dX xs ys
 |.tup xs,.de ys=>dX xs ys
 |.de xs,.tup ys=>dX xs ys
 |.de xs,.de ys=>dX xs ys
 |.lst xs,.lst ys=>dX xs ys
 |.lst xs,.bY ys=>dX xs ys
 |.bY xs,.lst ys=>dX xs ys
 |.bY xs,.bY ys=>dX xs ys
 |_,_=>false
noncomputable def dX:List D→List D→Bool
 |[],[]=>true
 |x::xs,y::ys=>bk x y&&dX xs ys
 |_,_=>false
end
noncomputable def okN:Nat→D→Bool
 |_,.non=>true
 |_,.aD _=>true
 |_,.int _=>true
 |_,.str _=>true
 |n+1,.tup xs=>xs.all (okN n)
 |n+1,.de xs=>xs.all (okN n)
 |n+1,.lst xs=>xs.all (okN n)
 |n+1,.bY xs=>xs.all (okN n)
 |_,_=>false
inductive jA(s:Shared)(P:D→Value→Prop):D→Value→Prop where
 |non:jA s P .non .none
 |aD (b:Bool):jA s P (.aD b) (.bool b)
 |int (i:Int) (t:Tok):jA s P (.int i) (.int i t)
 |str (x:Str) (t:Tok):jA s P (.str x) (.str x t)
 |tup (a:Addr) (ds:List D) (its:List Value) (h:s.heap.IsTuple a its.toArray) (l:ds.length=its.length) (p:∀(i:Nat) d u,ds[i]?=some d→its[i]?=some u→P d u):jA s P (.tup ds) (.ref a)
 |de (a:Addr) (ds:List D) (its:List Value) (h:s.heap.IsTuple a its.toArray) (l:ds.length=its.length) (p:∀(i:Nat) d u,ds[i]?=some d→its[i]?=some u→P d u):jA s P (.de ds) (.ref a)
 |lst (a:Addr) (ds:List D) (its:List Value) (h:s.heap.IsList a its.toArray) (l:ds.length=its.length) (p:∀(i:Nat) d u,ds[i]?=some d→its[i]?=some u→P d u):jA s P (.lst ds) (.ref a)
 |bY (a:Addr) (ds:List D) (its:List Value) (h:s.heap.IsList a its.toArray) (l:ds.length=its.length) (p:∀(i:Nat) d u,ds[i]?=some d→its[i]?=some u→P d u):jA s P (.bY ds) (.ref a)
def k5(K:PySem.W.Frag)(G:ah)(d:D)(u:Value):Prop:=∃x,At K G d x∧RelV x u
section
variable{X:aK}{pins:List (Addr×Obj)}{σ :St}{H G:ah}{s:Shared}
theorem qA{K:PySem.W.Frag}{ds:List D}{xs:List V}{its:List Value}(q:aI K G ds xs)(r:Vals xs its):∀(i:Nat) d u,ds[i]?=some d→its[i]?=some u→k5 K G d u:=fun i d u aj ax=>by obtain⟨v,bE,a⟩:=q.get aj;obtain⟨iH,dk,b0⟩:=r.get bE;rw[ax]at dk;cases dk;exact⟨v,a,b0⟩
theorem nW(I:Inv X pins σ H s)(a7:Sub G H){d:D}{u:Value}{n:Nat}(ok:okN n d=true)(h:k5 X.K G d u):jA s (k5 X.K G) d u:=by
 obtain⟨x,a,r⟩:=h;cases d with
 |non=>simp only[At]at a;subst a;cases r;exact .non
 |aD b=>simp only[At]at a;subst a;cases r;exact .aD b
 |int i=>simp only[At]at a;subst a;obtain⟨t,rfl⟩:=r;exact .int i t
 |str i=>simp only[At]at a;subst a;obtain⟨t,rfl⟩:=r;exact .str i t
 |tup ds=>simp only[At]at a;obtain⟨p,xs,rfl,aO,al⟩:=a;cases r;obtain⟨its,b0,ht,_⟩:=I.tuple (cv.of (a7 _ _ aO));exact .tup p ds its ht (al.length.trans b0.length) (qA al b0)
 |lst ds=>simp only[At]at a;obtain⟨p,xs,rfl,aO,al⟩:=a;cases r;obtain⟨its,b0,ht,_⟩:=I.list (bS.of (a7 _ _ aO));exact .lst p ds its ht.isList (al.length.trans b0.length) (qA al b0)
 |bY ds=>simp only[At]at a;obtain⟨p,xs,rfl,aO,al⟩:=a;cases r;obtain⟨its,b0,ht,_⟩:=I.list (bS.mono a7 aO);exact .bY p ds its ht.isList (al.length.trans b0.length) (qA al b0)
 |cW bV xs=>cases n<;>cases ok
 |a_ bV xs=>cases n<;>cases ok
 |ins C ns xs=>cases n<;>cases ok
 |l9 C=>cases n<;>cases ok
 |de ds=>simp only[At]at a;obtain⟨p,xs,rfl,aO,al⟩:=a;cases r;obtain⟨its,b0,ht,_⟩:=I.tuple (cv.mono a7 aO);exact .de p ds its ht (al.length.trans b0.length) (qA al b0)
theorem y8:∀{xs ys:List D},xs.length≠ys.length→dX xs ys=false
 |[],[],h=>absurd rfl h
 |[],_::_,_=>by simp only[dX]
 |_::_,[],_=>by simp only[dX]
 |x::xs,y::ys,h=>by simp only[dX];rw[y8 (fun e=>h (by simp[e])),Bool.and_false]
def kN(xs ys:List D)(j:Nat):Bool:=match xs[j]?,ys[j]? with
 |some x,some y=>bk x y
 |_,_=>true
theorem K2(f:Nat→Bool)(n:Nat):(List.range (n+1)).all f=(f 0&&(List.range n).all fun j=>f (j+1)):=by rw[List.range_succ_eq_map,List.all_cons,List.all_map];rfl
theorem y9:∀{xs ys:List D},xs.length=ys.length→(List.range xs.length).all (kN xs ys)=dX xs ys
 |[],[],_=>by simp[dX]
 |[],_::_,h=>by simp at h
 |_::_,[],h=>by simp at h
 |x::xs,y::ys,h=>by
  rw[List.length_cons,K2];have e:(fun j=>kN (x::xs) (y::ys) (j+1))=kN xs ys:=by
   funext j
   simp[kN]
  rw[e,y9 (by simpa using h)];simp only[dX];rfl
theorem in1_units(A:Around):A.in1.units=A.units+1:=rfl
theorem IQ{A:Around}{P:D→Value→Prop}{d1 cC:D}{u v:Value}(h1:jA s P d1 u)(h2:jA s P cC v)(cy:gu d1=true)(b_:gu cC=true) :
  SeqAt.EqAt A s u v (bk d1 cC)∧SeqAt.RcAt A s u v (bk d1 cC)∧SeqAt.RcNeAt A s u v (!bk d1 cC):=by
 cases h1 with
 |non=>
  cases h2 with
  |non=>simp only[bk];exact⟨SeqAt.EqAt.same _,SeqAt.RcAt.none_none,SeqAt.RcNeAt.none_none⟩
  |aD d0=>simp only[bk];exact⟨SeqAt.EqAt.none_bool _,SeqAt.RcAt.none_bool _,SeqAt.RcNeAt.none_bool _⟩
  |int bN d_=>simp only[bk];exact⟨SeqAt.EqAt.none_int _ _,SeqAt.RcAt.none_int _ _,SeqAt.RcNeAt.none_int _ _⟩
  |str eP d_=>simp only[bk];exact⟨SeqAt.EqAt.none_str _ _,SeqAt.RcAt.none_str _ _,SeqAt.RcNeAt.none_str _ _⟩
  |tup=>cases b_
  |de=>cases b_
  |lst=>cases b_
  |bY=>cases b_
 |aD eD=>
  cases h2 with
  |non=>simp only[bk];exact⟨SeqAt.EqAt.bool_none _,SeqAt.RcAt.bool_none _,SeqAt.RcNeAt.bool_none _⟩
  |aD d0=>simp only[bk];exact⟨SeqAt.EqAt.bool_bool _ _,SeqAt.RcAt.bool_bool _ _,SeqAt.RcNeAt.bool_bool _ _⟩
  |int bN d_=>simp only[bk];exact⟨SeqAt.EqAt.bool_int _ _ _,SeqAt.RcAt.bool_int _ _ _,SeqAt.RcNeAt.bool_int _ _ _⟩
  |str eP d_=>simp only[bk];exact⟨SeqAt.EqAt.bool_str _ _ _,SeqAt.RcAt.bool_str _ _ _,SeqAt.RcNeAt.bool_str _ _ _⟩
  |tup=>cases b_
  |de=>cases b_
  |lst=>cases b_
  |bY=>cases b_
 |int bJ t1=>
  cases h2 with
  |non=>simp only[bk];exact⟨SeqAt.EqAt.int_none _ _,SeqAt.RcAt.int_none _ _,SeqAt.RcNeAt.int_none _ _⟩
  |aD d0=>simp only[bk];exact⟨SeqAt.EqAt.int_bool _ _ _,SeqAt.RcAt.int_bool _ _ _,SeqAt.RcNeAt.int_bool _ _ _⟩
  |int bN d_=>simp only[bk];exact⟨SeqAt.EqAt.int_int _ _ _ _,SeqAt.RcAt.int_int _ _ _ _,SeqAt.RcNeAt.int_int _ _ _ _⟩
  |str eP d_=>simp only[bk];exact⟨SeqAt.EqAt.int_str _ _ _ _,SeqAt.RcAt.int_str _ _ _ _,SeqAt.RcNeAt.int_str _ _ _ _⟩
  |tup=>cases b_
  |de=>cases b_
  |lst=>cases b_
  |bY=>cases b_
 |str ip t1=>
  cases h2 with
  |non=>simp only[bk];exact⟨SeqAt.EqAt.str_none _ _,SeqAt.RcAt.str_none _ _,SeqAt.RcNeAt.str_none _ _⟩
  |aD d0=>simp only[bk];exact⟨SeqAt.EqAt.str_bool _ _ _,SeqAt.RcAt.str_bool _ _ _,SeqAt.RcNeAt.str_bool _ _ _⟩
  |int bN d_=>simp only[bk];exact⟨SeqAt.EqAt.str_int _ _ _ _,SeqAt.RcAt.str_int _ _ _ _,SeqAt.RcNeAt.str_int _ _ _ _⟩
  |str eP d_=>simp only[bk];exact⟨SeqAt.EqAt.str_str _ _ _ _,SeqAt.RcAt.str_str _ _ _ _,SeqAt.RcNeAt.str_str _ _ _ _⟩
  |tup=>cases b_
  |de=>cases b_
  |lst=>cases b_
  |bY=>cases b_
 |tup=>cases cy
 |de=>cases cy
 |lst=>cases cy
 |bY=>cases cy
theorem Hn{A:Around}{P:D→Value→Prop}{d1 cC:D}{u v:Value}(hu:A.units<cLine)(h1:jA s P d1 u)(h2:jA s P cC v)(o:gu d1=true∧gu cC=false∨gu d1=false∧gu cC=true) :
  SeqAt.EqAt A s u v (bk d1 cC)∧SeqAt.RcAt A s u v (bk d1 cC)∧SeqAt.RcNeAt A s u v (!bk d1 cC):=by
 cases h1 with
 |non=>
  cases h2 with
  |non=>rcases o with⟨a6,aW⟩|⟨a6,aW⟩<;>first|(cases a6;done)|(cases aW;done)
  |aD=>rcases o with⟨a6,aW⟩|⟨a6,aW⟩<;>first|(cases a6;done)|(cases aW;done)
  |int=>rcases o with⟨a6,aW⟩|⟨a6,aW⟩<;>first|(cases a6;done)|(cases aW;done)
  |str=>rcases o with⟨a6,aW⟩|⟨a6,aW⟩<;>first|(cases a6;done)|(cases aW;done)
  |tup a2 d4 ed cB cL bW=>simp only[bk,Bool.not_false];exact⟨SeqAt.EqAt.none_tuple cB hu,SeqAt.RcAt.none_tuple cB hu,SeqAt.RcNeAt.none_tuple cB hu⟩
  |de a2 d4 ed cB cL bW=>simp only[bk,Bool.not_false];exact⟨SeqAt.EqAt.none_tuple cB hu,SeqAt.RcAt.none_tuple cB hu,SeqAt.RcNeAt.none_tuple cB hu⟩
  |lst a2 d4 ed cB cL bW=>simp only[bk,Bool.not_false];exact⟨SeqAt.EqAt.none_list cB hu,SeqAt.RcAt.none_list cB hu,SeqAt.RcNeAt.none_list cB hu⟩
  |bY a2 d4 ed cB cL bW=>simp only[bk,Bool.not_false];exact⟨SeqAt.EqAt.none_list cB hu,SeqAt.RcAt.none_list cB hu,SeqAt.RcNeAt.none_list cB hu⟩
 |aD eD=>
  cases h2 with
  |non=>rcases o with⟨a6,aW⟩|⟨a6,aW⟩<;>first|(cases a6;done)|(cases aW;done)
  |aD=>rcases o with⟨a6,aW⟩|⟨a6,aW⟩<;>first|(cases a6;done)|(cases aW;done)
  |int=>rcases o with⟨a6,aW⟩|⟨a6,aW⟩<;>first|(cases a6;done)|(cases aW;done)
  |str=>rcases o with⟨a6,aW⟩|⟨a6,aW⟩<;>first|(cases a6;done)|(cases aW;done)
  |tup a2 d4 ed cB cL bW=>simp only[bk,Bool.not_false];exact⟨SeqAt.EqAt.bool_tuple _ cB hu,SeqAt.RcAt.bool_tuple _ cB hu,SeqAt.RcNeAt.bool_tuple _ cB hu⟩
  |de a2 d4 ed cB cL bW=>simp only[bk,Bool.not_false];exact⟨SeqAt.EqAt.bool_tuple _ cB hu,SeqAt.RcAt.bool_tuple _ cB hu,SeqAt.RcNeAt.bool_tuple _ cB hu⟩
  |lst a2 d4 ed cB cL bW=>simp only[bk,Bool.not_false];exact⟨SeqAt.EqAt.bool_list _ cB hu,SeqAt.RcAt.bool_list _ cB hu,SeqAt.RcNeAt.bool_list _ cB hu⟩
  |bY a2 d4 ed cB cL bW=>simp only[bk,Bool.not_false];exact⟨SeqAt.EqAt.bool_list _ cB hu,SeqAt.RcAt.bool_list _ cB hu,SeqAt.RcNeAt.bool_list _ cB hu⟩
 |int bJ t1=>
  cases h2 with
  |non=>rcases o with⟨a6,aW⟩|⟨a6,aW⟩<;>first|(cases a6;done)|(cases aW;done)
  |aD=>rcases o with⟨a6,aW⟩|⟨a6,aW⟩<;>first|(cases a6;done)|(cases aW;done)
  |int=>rcases o with⟨a6,aW⟩|⟨a6,aW⟩<;>first|(cases a6;done)|(cases aW;done)
  |str=>rcases o with⟨a6,aW⟩|⟨a6,aW⟩<;>first|(cases a6;done)|(cases aW;done)
  |tup a2 d4 ed cB cL bW=>simp only[bk,Bool.not_false];exact⟨SeqAt.EqAt.int_tuple _ _ cB hu,SeqAt.RcAt.int_tuple _ _ cB hu,SeqAt.RcNeAt.int_tuple _ _ cB hu⟩
  |de a2 d4 ed cB cL bW=>simp only[bk,Bool.not_false];exact⟨SeqAt.EqAt.int_tuple _ _ cB hu,SeqAt.RcAt.int_tuple _ _ cB hu,SeqAt.RcNeAt.int_tuple _ _ cB hu⟩
  |lst a2 d4 ed cB cL bW=>simp only[bk,Bool.not_false];exact⟨SeqAt.EqAt.int_list _ _ cB hu,SeqAt.RcAt.int_list _ _ cB hu,SeqAt.RcNeAt.int_list _ _ cB hu⟩
  |bY a2 d4 ed cB cL bW=>simp only[bk,Bool.not_false];exact⟨SeqAt.EqAt.int_list _ _ cB hu,SeqAt.RcAt.int_list _ _ cB hu,SeqAt.RcNeAt.int_list _ _ cB hu⟩
 |str ip t1=>
  cases h2 with
  |non=>rcases o with⟨a6,aW⟩|⟨a6,aW⟩<;>first|(cases a6;done)|(cases aW;done)
  |aD=>rcases o with⟨a6,aW⟩|⟨a6,aW⟩<;>first|(cases a6;done)|(cases aW;done)
  |int=>rcases o with⟨a6,aW⟩|⟨a6,aW⟩<;>first|(cases a6;done)|(cases aW;done)
  |str=>rcases o with⟨a6,aW⟩|⟨a6,aW⟩<;>first|(cases a6;done)|(cases aW;done)
  |tup a2 d4 ed cB cL bW=>simp only[bk,Bool.not_false];exact⟨SeqAt.EqAt.str_tuple _ _ cB hu,SeqAt.RcAt.str_tuple _ _ cB hu,SeqAt.RcNeAt.str_tuple _ _ cB hu⟩
  |de a2 d4 ed cB cL bW=>simp only[bk,Bool.not_false];exact⟨SeqAt.EqAt.str_tuple _ _ cB hu,SeqAt.RcAt.str_tuple _ _ cB hu,SeqAt.RcNeAt.str_tuple _ _ cB hu⟩
  |lst a2 d4 ed cB cL bW=>simp only[bk,Bool.not_false];exact⟨SeqAt.EqAt.str_list _ _ cB hu,SeqAt.RcAt.str_list _ _ cB hu,SeqAt.RcNeAt.str_list _ _ cB hu⟩
  |bY a2 d4 ed cB cL bW=>simp only[bk,Bool.not_false];exact⟨SeqAt.EqAt.str_list _ _ cB hu,SeqAt.RcAt.str_list _ _ cB hu,SeqAt.RcNeAt.str_list _ _ cB hu⟩
 |tup a1 fu kg cQ eG dG=>
  cases h2 with
  |non=>simp only[bk,Bool.not_false];exact⟨SeqAt.EqAt.tuple_none cQ hu,SeqAt.RcAt.tuple_none cQ hu,SeqAt.RcNeAt.tuple_none cQ hu⟩
  |aD d0=>simp only[bk,Bool.not_false];exact⟨SeqAt.EqAt.tuple_bool _ cQ hu,SeqAt.RcAt.tuple_bool _ cQ hu,SeqAt.RcNeAt.tuple_bool _ cQ hu⟩
  |int bN d_=>simp only[bk,Bool.not_false];exact⟨SeqAt.EqAt.tuple_int _ _ cQ hu,SeqAt.RcAt.tuple_int _ _ cQ hu,SeqAt.RcNeAt.tuple_int _ _ cQ hu⟩
  |str eP d_=>simp only[bk,Bool.not_false];exact⟨SeqAt.EqAt.tuple_str _ _ cQ hu,SeqAt.RcAt.tuple_str _ _ cQ hu,SeqAt.RcNeAt.tuple_str _ _ cQ hu⟩
  |tup=>rcases o with⟨a6,aW⟩|⟨a6,aW⟩<;>first|(cases a6;done)|(cases aW;done)
  |de=>rcases o with⟨a6,aW⟩|⟨a6,aW⟩<;>first|(cases a6;done)|(cases aW;done)
  |lst=>rcases o with⟨a6,aW⟩|⟨a6,aW⟩<;>first|(cases a6;done)|(cases aW;done)
  |bY=>rcases o with⟨a6,aW⟩|⟨a6,aW⟩<;>first|(cases a6;done)|(cases aW;done)
 |de a1 fu kg cQ eG dG=>
  cases h2 with
  |non=>simp only[bk,Bool.not_false];exact⟨SeqAt.EqAt.tuple_none cQ hu,SeqAt.RcAt.tuple_none cQ hu,SeqAt.RcNeAt.tuple_none cQ hu⟩
  |aD d0=>simp only[bk,Bool.not_false];exact⟨SeqAt.EqAt.tuple_bool _ cQ hu,SeqAt.RcAt.tuple_bool _ cQ hu,SeqAt.RcNeAt.tuple_bool _ cQ hu⟩
  |int bN d_=>simp only[bk,Bool.not_false];exact⟨SeqAt.EqAt.tuple_int _ _ cQ hu,SeqAt.RcAt.tuple_int _ _ cQ hu,SeqAt.RcNeAt.tuple_int _ _ cQ hu⟩
  |str eP d_=>simp only[bk,Bool.not_false];exact⟨SeqAt.EqAt.tuple_str _ _ cQ hu,SeqAt.RcAt.tuple_str _ _ cQ hu,SeqAt.RcNeAt.tuple_str _ _ cQ hu⟩
  |tup=>rcases o with⟨a6,aW⟩|⟨a6,aW⟩<;>first|(cases a6;done)|(cases aW;done)
  |de=>rcases o with⟨a6,aW⟩|⟨a6,aW⟩<;>first|(cases a6;done)|(cases aW;done)
  |lst=>rcases o with⟨a6,aW⟩|⟨a6,aW⟩<;>first|(cases a6;done)|(cases aW;done)
  |bY=>rcases o with⟨a6,aW⟩|⟨a6,aW⟩<;>first|(cases a6;done)|(cases aW;done)
 |lst a1 fu kg cQ eG dG=>
  cases h2 with
  |non=>simp only[bk,Bool.not_false];exact⟨SeqAt.EqAt.list_none cQ hu,SeqAt.RcAt.list_none cQ hu,SeqAt.RcNeAt.list_none cQ hu⟩
  |aD d0=>simp only[bk,Bool.not_false];exact⟨SeqAt.EqAt.list_bool _ cQ hu,SeqAt.RcAt.list_bool _ cQ hu,SeqAt.RcNeAt.list_bool _ cQ hu⟩
  |int bN d_=>simp only[bk,Bool.not_false];exact⟨SeqAt.EqAt.list_int _ _ cQ hu,SeqAt.RcAt.list_int _ _ cQ hu,SeqAt.RcNeAt.list_int _ _ cQ hu⟩
  |str eP d_=>simp only[bk,Bool.not_false];exact⟨SeqAt.EqAt.list_str _ _ cQ hu,SeqAt.RcAt.list_str _ _ cQ hu,SeqAt.RcNeAt.list_str _ _ cQ hu⟩
  |tup=>rcases o with⟨a6,aW⟩|⟨a6,aW⟩<;>first|(cases a6;done)|(cases aW;done)
  |de=>rcases o with⟨a6,aW⟩|⟨a6,aW⟩<;>first|(cases a6;done)|(cases aW;done)
  |lst=>rcases o with⟨a6,aW⟩|⟨a6,aW⟩<;>first|(cases a6;done)|(cases aW;done)
  |bY=>rcases o with⟨a6,aW⟩|⟨a6,aW⟩<;>first|(cases a6;done)|(cases aW;done)
 |bY a1 fu kg cQ eG dG=>
  cases h2 with
  |non=>simp only[bk,Bool.not_false];exact⟨SeqAt.EqAt.list_none cQ hu,SeqAt.RcAt.list_none cQ hu,SeqAt.RcNeAt.list_none cQ hu⟩
  |aD d0=>simp only[bk,Bool.not_false];exact⟨SeqAt.EqAt.list_bool _ cQ hu,SeqAt.RcAt.list_bool _ cQ hu,SeqAt.RcNeAt.list_bool _ cQ hu⟩
  |int bN d_=>simp only[bk,Bool.not_false];exact⟨SeqAt.EqAt.list_int _ _ cQ hu,SeqAt.RcAt.list_int _ _ cQ hu,SeqAt.RcNeAt.list_int _ _ cQ hu⟩
  |str eP d_=>simp only[bk,Bool.not_false];exact⟨SeqAt.EqAt.list_str _ _ cQ hu,SeqAt.RcAt.list_str _ _ cQ hu,SeqAt.RcNeAt.list_str _ _ cQ hu⟩
  |tup=>rcases o with⟨a6,aW⟩|⟨a6,aW⟩<;>first|(cases a6;done)|(cases aW;done)
  |de=>rcases o with⟨a6,aW⟩|⟨a6,aW⟩<;>first|(cases a6;done)|(cases aW;done)
  |lst=>rcases o with⟨a6,aW⟩|⟨a6,aW⟩<;>first|(cases a6;done)|(cases aW;done)
  |bY=>rcases o with⟨a6,aW⟩|⟨a6,aW⟩<;>first|(cases a6;done)|(cases aW;done)
theorem ED:∀{xs ys:List D},xs.length=ys.length→(∀(i:Nat) x y,xs[i]?=some x→ys[i]?=some y→bk x y=true)→dX xs ys=true
 |[],[],_,_=>by simp only[dX]
 |[],_::_,h,_=>by simp at h
 |_::_,[],h,_=>by simp at h
 |x::xs,y::ys,h,k=>by simp only[dX];rw[k 0 x y rfl rfl,ED (by simpa using h) fun i a b aj ax=>k (i+1) a b (by simpa using aj) (by simpa using ax)];rfl
theorem IT{K:PySem.W.Frag}{d1 cC:D}{x:V}(cy:gu d1=true)(a1:At K G d1 x)(a2:At K G cC x):bk d1 cC=true:=by
 cases d1 with
 |non=>simp only[At]at a1;subst a1;cases cC<;>simp only[At]at a2<;>first|(simp only[bk];done)|(cases a2;done)|(obtain⟨a,xs,e,_⟩:=a2;cases e;done)|(obtain⟨a,a0,xs,e,_⟩:=a2;cases e;done)
 |aD b=>simp only[At]at a1;subst a1;cases cC<;>simp only[At]at a2<;>first|(cases a2;simp only[bk,beq_self_eq_true];done)|(cases a2;done)|(obtain⟨a,xs,e,_⟩:=a2;cases e;done)|(obtain⟨a,a0,xs,e,_⟩:=a2;cases e;done)
 |int b=>simp only[At]at a1;subst a1;cases cC<;>simp only[At]at a2<;>first|(cases a2;simp only[bk,beq_self_eq_true];done)|(cases a2;done)|(obtain⟨a,xs,e,_⟩:=a2;cases e;done)|(obtain⟨a,a0,xs,e,_⟩:=a2;cases e;done)
 |str b=>simp only[At]at a1;subst a1;cases cC<;>simp only[At]at a2<;>first|(cases a2;simp only[bk,beq_self_eq_true];done)|(cases a2;done)|(obtain⟨a,xs,e,_⟩:=a2;cases e;done)|(obtain⟨a,a0,xs,e,_⟩:=a2;cases e;done)
 |_=>cases cy
theorem EC{d1 cC:D}(b_:gu cC=true)(cy:gu d1=false){K:PySem.W.Frag}{x:V}(a1:At K G d1 x)(a2:At K G cC x):False:=by
 cases cC<;>first
  |(cases b_;done)
  |(simp only[At]at a2;subst a2
    cases d1<;>first
     |(cases cy;done)
     |(simp only[At]at a1;obtain⟨a,xs,e,_⟩:=a1;cases e;done)
     |(simp only[At]at a1;obtain⟨a,a0,xs,e,_⟩:=a1;cases e;done))
inductive gz(K:PySem.W.Frag)(G:ah):D→Addr→Bool→List D→List V→Prop where
 |tup {a ds xs} (h:cv K G a xs) (q:aI K G ds xs):gz K G (.tup ds) a true ds xs
 |de {a ds xs} (h:cv K G a xs) (q:aI K G ds xs):gz K G (.de ds) a true ds xs
 |lst {a ds xs} (h:G a=some (.lst xs)) (q:aI K G ds xs):gz K G (.lst ds) a false ds xs
 |bY {a ds xs} (h:bS K G a xs) (q:aI K G ds xs):gz K G (.bY ds) a false ds xs
theorem rC{K:PySem.W.Frag}{n:Nat}{d:D}{x:V}(o:okN n d=true)(ns:gu d=false)(a:At K G d x):∃p b ds xs,x=.ref p∧gz K G d p b ds xs∧∃m,n=m+1∧ds.all (okN m)=true:=by
 cases d with
 |tup ds=>
  simp only[At]at a;obtain⟨p,xs,e,h,q⟩:=a;cases n with
  |zero=>cases o
  |succ m=>exact⟨p,_,ds,xs,e,.tup (cv.of h) q,m,rfl,o⟩
 |lst ds=>
  simp only[At]at a;obtain⟨p,xs,e,h,q⟩:=a;cases n with
  |zero=>cases o
  |succ m=>exact⟨p,_,ds,xs,e,.lst h q,m,rfl,o⟩
 |bY ds=>
  simp only[At]at a;obtain⟨p,xs,e,h,q⟩:=a;cases n with
  |zero=>cases o
  |succ m=>exact⟨p,_,ds,xs,e,.bY h q,m,rfl,o⟩
 |cW _ _=>cases n<;>cases o
 |a_ _ _=>cases n<;>cases o
 |ins _ _ _=>cases n<;>cases o
 |l9 _=>cases n<;>cases o
 |de ds=>
  simp only[At]at a;obtain⟨p,xs,e,h,q⟩:=a;cases n with
  |zero=>cases o
  |succ m=>exact⟨p,_,ds,xs,e,.de h q,m,rfl,o⟩
 |_=>cases ns
theorem gz.gS{K:PySem.W.Frag}{d:D}{p:Addr}{b:Bool}{ds:List D}{xs:List V}(h:gz K G d p b ds xs):aI K G ds xs:=by cases h<;>assumption
theorem gz.eq{K:PySem.W.Frag}{d1 cC:D}{dG bW:Addr}{eD d0:Bool}{fu d4:List D}{n3 e1:List V}(h1:gz K G d1 dG eD fu n3)(h2:gz K G cC bW d0 d4 e1):bk d1 cC=(eD==d0&&dX fu d4):=by cases h1<;>cases h2<;>simp[bk]
theorem gz.heap(I:Inv X pins σ H s)(a7:Sub G H){d:D}{p:Addr}{b:Bool}{ds:List D}{xs:List V}(h:gz X.K G d p b ds xs) :
  ∃its:List Value,Vals xs its∧(b=true→s.heap.IsTuple p its.toArray)∧(b=false→s.heap.IsList p its.toArray):=by
 cases h with
 |tup h q=>obtain⟨its,b0,ht,_⟩:=I.tuple (cv.mono a7 h);exact⟨its,b0,fun _=>ht,fun z=>by cases z⟩
 |de h q=>obtain⟨its,b0,ht,_⟩:=I.tuple (cv.mono a7 h);exact⟨its,b0,fun _=>ht,fun z=>by cases z⟩
 |lst h q=>obtain⟨its,b0,ht,_⟩:=I.list (bS.of (a7 _ _ h));exact⟨its,b0,(fun z=>by cases z),fun _=>ht.isList⟩
 |bY h q=>obtain⟨its,b0,ht,_⟩:=I.list (bS.mono a7 h);exact⟨its,b0,(fun z=>by cases z),fun _=>ht.isList⟩
theorem gz.same(I:Inv X pins σ H s)(a7:Sub G H){d1 cC:D}{p:Addr}{eD d0:Bool}{fu d4:List D}{n3 e1:List V}(h1:gz X.K G d1 p eD fu n3)(h2:gz X.K G cC p d0 d4 e1):eD=d0∧n3=e1:=by
 obtain⟨kg,av,t1,eG⟩:=h1.heap I a7;obtain⟨ed,bg,d_,cL⟩:=h2.heap I a7;cases eD with
 |true=>
  cases d0 with
  |false=>exact absurd rfl (SeqAt.ne_of_list_tuple (cL rfl) (t1 rfl))
  |true=>
   refine⟨rfl,?_⟩;cases h1<;>cases h2<;>
   exact I.Cy (cv.mono a7 (by assumption)) (cv.mono a7 (by assumption))
 |false=>
  cases d0 with
  |true=>exact absurd rfl (SeqAt.ne_of_list_tuple (eG rfl) (d_ rfl))
  |false=>
   refine⟨rfl,?_⟩;have g1:bS X.K H p n3:=by
    cases h1 with
    |lst h q=>exact bS.of (a7 _ _ h)
    |bY h q=>exact bS.mono a7 h
   have g2:bS X.K H p e1:=by
    cases h2 with
    |lst h q=>exact bS.of (a7 _ _ h)
    |bY h q=>exact bS.mono a7 h
   exact I.Ad g1 g2
theorem qg{f:D→Bool}{ds:List D}(h:ds.all f=true){i:Nat}{d:D}(e:ds[i]?=some d):f d=true:=List.all_eq_true.mp h d (List.mem_of_getElem? e)
theorem K7(I:Inv X pins σ H s)(a7:Sub G H):∀(n:Nat){d1 cC:D}{x:V},okN n d1=true→okN n cC=true→At X.K G d1 x→At X.K G cC x→bk d1 cC=true:=by
 intro n;induction n with
 |zero=>intro d1 cC x cy b_ a1 a2;exact IT (by cases d1<;>first|rfl|(cases cy)) a1 a2
 |succ n b6=>
  intro d1 cC x cy b_ a1 a2;cases s1:gu d1 with
  |true=>exact IT s1 a1 a2
  |false=>
   cases s2:gu cC with
   |true=>exact(EC s2 s1 a1 a2).elim
   |false=>
    obtain⟨dG,eD,fu,n3,aj,aY,m1,Es,dQ⟩:=rC cy s1 a1;obtain⟨bW,d0,d4,e1,ax,bA,m2,Et,b7⟩:=rC b_ s2 a2;subst aj;cases ax;have:n=m1:=by omega
    subst this;have:n=m2:=by omega
    subst this;obtain⟨bq,ex⟩:=aY.same I a7 bA;subst bq;subst ex;rw[aY.eq bA,beq_self_eq_true,Bool.true_and];refine ED (aY.gS.length.trans bA.gS.length.symm) fun i a b ar bq=>?_;obtain⟨v,ev,bf⟩:=aY.gS.get ar;obtain⟨lR,l8,bv⟩:=bA.gS.get bq;rw[ev]at l8;cases l8;exact b6 (qg dQ ar) (qg b7 bq) bf bv
theorem y7(I:Inv X pins σ H s)(a7:Sub G H):∀(n:Nat){d1 cC:D}{u v:Value}{A:Around},okN n d1=true→okN n cC=true→k5 X.K G d1 u→k5 X.K G cC v→A.units+n<cLine→
  SeqAt.EqAt A s u v (bk d1 cC)∧SeqAt.RcAt A s u v (bk d1 cC)∧SeqAt.RcNeAt A s u v (!bk d1 cC):=by
 intro n;induction n with
 |zero=>
  intro d1 cC u v A cy b_ a1 a2 hu;refine IQ (nW I a7 cy a1) (nW I a7 b_ a2) ?_ ?_
  ·cases d1<;>first|rfl|(cases cy)
  ·cases cC<;>first|rfl|(cases b_)
 |succ n b6=>
  intro d1 cC u v A cy b_ a1 a2 hu;have kf:A.units<cLine:=by omega
  cases s1:gu d1 with
  |true=>
   cases s2:gu cC with
   |true=>exact IQ (nW I a7 cy a1) (nW I a7 b_ a2) s1 s2
   |false=>exact Hn kf (nW I a7 cy a1) (nW I a7 b_ a2) (.inl ⟨s1,s2⟩)
  |false=>
   cases s2:gu cC with
   |true=>exact Hn kf (nW I a7 cy a1) (nW I a7 b_ a2) (.inr ⟨s1,s2⟩)
   |false=>
    obtain⟨ip,DE,UL⟩:=a1;obtain⟨eP,at2,UM⟩:=a2;obtain⟨dG,eD,fu,n3,aj,aY,m1,Es,dQ⟩:=rC cy s1 DE;obtain⟨bW,d0,d4,e1,ax,bA,m2,Et,b7⟩:=rC b_ s2 at2;subst aj;subst ax;cases UL;cases UM;have:n=m1:=by omega
    subst this;have:n=m2:=by omega
    subst this;obtain⟨kg,av,t1,eG⟩:=aY.heap I a7;obtain⟨ed,bg,d_,cL⟩:=bA.heap I a7;have qK:fu.length=kg.length:=aY.gS.length.trans av.length;have sW:d4.length=ed.length:=bA.gS.length.trans bg.length;have item:∀j(h1:j<kg.toArray.size)(h2:j<ed.toArray.size),SeqAt.EqAt A.in1 s kg.toArray[j] ed.toArray[j] (kN fu d4 j):=fun j h1 h2=>by
     have jl:j<fu.length:=by rw[qK];simpa using h1
     have qB:j<d4.length:=by rw[sW];simpa using h2
     have g1:k5 X.K G fu[j] kg.toArray[j]:=qA aY.gS av j _ _ (List.getElem?_eq_getElem jl) (by simp at h1;simp[h1]);have g2:k5 X.K G d4[j] ed.toArray[j]:=qA bA.gS bg j _ _ (List.getElem?_eq_getElem qB) (by simp at h2;simp[h2]);have:=(b6 (A:=A.in1) (qg dQ (List.getElem?_eq_getElem jl)) (qg b7 (List.getElem?_eq_getElem qB)) g1 g2 (by rw[in1_units];omega)).1;unfold kN;rw[List.getElem?_eq_getElem jl,List.getElem?_eq_getElem qB];exact this
    have whole:SeqAt.RcAt A s (.ref dG) (.ref bW) (bk d1 cC)∧SeqAt.RcNeAt A s (.ref dG) (.ref bW) (!bk d1 cC):=by
     rw[aY.eq bA];cases eD with
     |true=>
      cases d0 with
      |false=>exact⟨SeqAt.RcAt.tuple_list (t1 rfl) (cL rfl) kf,SeqAt.RcNeAt.tuple_list (t1 rfl) (cL rfl) kf⟩
      |true=>
       have ck:=SeqAt.RcAt.tuples (e:=kN fu d4) (t1 rfl) (d_ rfl) kf item;have eE:=SeqAt.RcNeAt.tuples (e:=kN fu d4) (t1 rfl) (d_ rfl) kf item;have eq:((List.range (min kg.toArray.size ed.toArray.size)).all (kN fu d4)&&kg.toArray.size==ed.toArray.size)=(true==true&&dX fu d4):=by
        rw[List.size_toArray,List.size_toArray,←qK,←sW,beq_self_eq_true,Bool.true_and];by_cases hl:fu.length=d4.length
        ·rw[←hl,Nat.min_self,y9 hl,beq_self_eq_true,Bool.and_true]
        ·rw[y8 hl];have:(fu.length==d4.length)=false:=by simpa using hl
         rw[this,Bool.and_false]
       rw[eq]at ck;refine⟨ck,?_⟩
       first
        |(rw[eq]at eE;exact eE)
        |exact eE
     |false=>
      cases d0 with
      |true=>exact⟨SeqAt.RcAt.list_tuple (eG rfl) (d_ rfl) kf,SeqAt.RcNeAt.list_tuple (eG rfl) (d_ rfl) kf⟩
      |false=>
       rw[beq_self_eq_true,Bool.true_and];by_cases hl:fu.length=d4.length
       ·have ck:=SeqAt.RcAt.lists (e:=kN fu d4) (eG rfl) (cL rfl) (by rw[List.size_toArray,List.size_toArray,←qK,←sW];exact hl) kf item;have eE:=SeqAt.RcNeAt.lists (e:=kN fu d4) (eG rfl) (cL rfl) (by rw[List.size_toArray,List.size_toArray,←qK,←sW];exact hl) kf item;rw[List.size_toArray,←qK,y9 hl]at ck eE;exact⟨ck,eE⟩
       ·have bx:(kg.toArray.size !=ed.toArray.size)=true:=by
          rw[List.size_toArray,List.size_toArray,←qK,←sW];simpa using hl
        rw[y8 hl];exact⟨SeqAt.RcAt.lists_lengths (eG rfl) (cL rfl) bx kf,SeqAt.RcNeAt.lists_lengths (eG rfl) (cL rfl) bx kf⟩
    refine⟨?_,whole⟩;by_cases hp:dG=bW
    ·subst hp;rw[K7 I a7 (n+1) cy b_ DE at2];exact SeqAt.EqAt.same _
    ·exact SeqAt.EqAt.of_refs hp whole.1
end
def notStar:Expr→Bool
 |.Starred .. =>false
 |_=>true
theorem wW(e:Expr)(ag:List Expr)(env:Env)(h:notStar e=true):starEach (e::ag) env=(false,eval e env)::starEach ag env:=by cases e<;>first|rfl|(cases h)
def i1:Expr→Bool
 |.ListComp .. =>false
 |.SetComp .. =>false
 |.DictComp .. =>false
 |_=>true
theorem jt(e:Expr)(t:Option Expr)(l:Nat)(env:Env)(h:i1 e=true):swapsWith e t l env=pure false:=by cases e<;>first|rfl|(cases h)
def R9:Expr→Bool
 |.Slice .. =>false
 |_=>true
theorem aH{b:Expr}(h:R9 b=true:=by rfl):oh b:=fun o i=>by cases b<;>first|rfl|(cases h)
section
variable{X:aK}{F:aZ}{e a b c:Expr}{ag:List Expr}{pos:Pos}
theorem a3.imp{t t':TE}(h:a3 X e t)(i:ej t' t):a3 X e t':=fun pins s σ H Q I hw=>h pins s σ H Q I (i σ H Q hw)
theorem e2.imp{t t':TT}(h:e2 X e t)(i:mS t' t):e2 X e t':=fun pins s σ H Q I hw=>h pins s σ H Q I (i σ H Q hw)
theorem iu.imp{t t':TT}(h:iu X e t)(i:mS t' t):iu X e t':=fun pP pins s σ H Q I hw=>h pP pins s σ H Q I (i σ H Q hw)
theorem eR.imp{t t':es}(h:eR X ag t)(i:p4 t' t):eR X ag t':=fun p pins s σ H Q I hw=>h p pins s σ H Q I (i σ H Q hw)
theorem cU.imp{st:Stmt}{t t':eB}(h:cU X st t)(i:gR t' t):cU X st t':=fun pins s σ H bO I hw=>h pins s σ H bO I (i bO σ H hw)
theorem fa.imp{st:List Stmt}{t t':eB}(h:fa X st t)(i:gR t' t):fa X st t':=fun pins s σ H bO I hw=>h pins s σ H bO I (i bO σ H hw)
theorem f_.imp{bu:Expr}{t t':TI}(h:f_ X bu e t)(i:mR t' t):f_ X bu e t':=fun pins s σ H Q I hw=>h pins s σ H Q I (i σ H Q hw)
abbrev a9(X:aK)(F:aZ)(e:Expr)(m:aC):Prop:=a3 X e (cY F m)
abbrev lW(X:aK)(F:aZ)(e:Expr)(m:aP):Prop:=a3 X e (i7 F m)
abbrev fp(X:aK)(F:aZ)(e:Expr)(m:b4):Prop:=e2 X e (gd F m)
abbrev oq(X:aK)(F:aZ)(e:Expr)(m:b4):Prop:=iu X e (gd F m)
abbrev f7(X:aK)(F:aZ)(ag:List Expr)(m:aP):Prop:=eR X ag (eo F m)
abbrev fB(X:aK)(F:aZ)(st:Stmt)(m:a8):Prop:=cU X st (e9 F m)
abbrev mM(X:aK)(F:aZ)(st:List Stmt)(m:a8):Prop:=fa X st (e9 F m)
abbrev jz(X:aK)(F:aZ)(bu e:Expr)(m:aP):Prop:=f_ X bu e (kl F m)
theorem M3(i:Nat){x:Str}(hN:X.N[i]?=some x:=by rfl)(hv:eC X.env.scope x:=by first|exact Or.inl rfl|exact Or.inr (Or.inl rfl)|exact Or.inr (Or.inr rfl))(hd:(x==("__debug__" :Str))=false:=by decide)(hcd:(x==("__classdict__" :Str))=false:=by decide):a9 X F (.Name x pos) (J i):=a3.imp (hI hN hv hd hcd) (PI i)
theorem MB{i:Int}{j}:a9 X F (.Constant (.int i) j pos) (au (.int i)):=a3.imp Tr (sR fun _=>by simp only[At])
theorem Mo{i:Bool}{j}:a9 X F (.Constant (.bool i) j pos) (au (.aD i)):=a3.imp Ta (sR fun _=>by simp only[At])
theorem MW{i:Str}{j}:a9 X F (.Constant (.str i) j pos) (au (.str i)):=a3.imp Tx (sR fun _=>by simp only[At])
theorem MO{j}:a9 X F (.Constant .none j pos) (au .non):=a3.imp Tu (sR fun _=>by simp only[At])
theorem My{x:Str}{v:V}{u:Value}{d:D}(hm:X.mg x=some u)(r:RelV v u)(at':∀G,At F.K G d v)(hg:da X x:=by rfl)(hd:(x==("__debug__" :Str))=false:=by decide):a9 X F (.Name x pos) (au d):=
 a3.imp (Tp hg hm r hd) (sR at')
theorem KO:f7 X F [] aw:=eR.imp i3 Gx
theorem KN{m:aC}{r:aP}(h:a9 X F e m)(t:f7 X F ag r)(hs:notStar e=true:=by rfl):f7 X F (e::ag) (af m r):=eR.imp (gb h t (wW e ag X.env hs)) OY
theorem M0{k}{m:aP}(h:f7 X F ag m):a9 X F (.Tuple ag k pos) (dJ m):=a3.imp (H4 h) PF
theorem Sj{m:aP}(h:f7 X F ag m):lW X F (.List ag pos) (eV m):=a3.imp (px h) Pe
theorem Mx{m:aP}(h:lW X F e m):a9 X F e (c4 m):=a3.imp h O7
theorem Mp{m:aC}(h:a9 X F e m):a9 X F e (nz m):=a3.imp h OQ
theorem WD{m:b4}(h:fp X F e m):fp X F e (gH m):=e2.imp h OT
theorem WS{m:aC}(h:a9 X F e m)(he:∀whole,isTrue e X.env whole=(do let v ←whole;standAt e.pos;holding [v] (truthy v)):=by intro _;rfl):fp X F e (bc m):=e2.imp (T9 h he) vx
theorem Xw{m:b4}(h:fp X F a m):oq X F (.BoolOp .And [a] pos) m:=Ud h
theorem Xz{m:b4}(h:fp X F a m):oq X F (.BoolOp .Or [a] pos) m:=Ug h
theorem w_and{m n:b4}(h:fp X F a m)(k:oq X F (.BoolOp .And (b::ag) pos) n):oq X F (.BoolOp .And (a::b::ag) pos) (iE m n):=iu.imp (Uc h k) OO
theorem w_or{m n:b4}(h:fp X F a m)(k:oq X F (.BoolOp .Or (b::ag) pos) n):oq X F (.BoolOp .Or (a::b::ag) pos) (fg m n):=iu.imp (Ue h k) Po
theorem WT{m:b4}(h:oq X F e m):fp X F e m:=iu.pt h
theorem WO{m:b4}(h:fp X F a m):fp X F (.UnaryOp .Not a pos) (eO m):=e2.imp (T8 h) Pl
theorem MQ{op}{m:aC}(h:a9 X F a m):a9 X F (.BoolOp op [a] pos) m:=Tw h
theorem Mn{m n:aC}(h:a9 X F a m)(k:a9 X F (.BoolOp .And (b::ag) pos) n):a9 X F (.BoolOp .And (a::b::ag) pos) (lE m n):=a3.imp (S_ h k) OP
theorem MP{m:aC}(h:a9 X F a m):a9 X F (.UnaryOp .Not a pos) (q0 m):=a3.imp (Tv h) Pm
theorem Mz{k:b4}{m n:aC}(h:fp X F c k)(ha:a9 X F a m)(hb:a9 X F b n):a9 X F (.IfExp c a b pos) (nC k m n):=a3.imp (Tq h ha hb) O9
variable{st:Stmt}{kk:List Stmt}
theorem U4:mM X F [] dg:=fa.imp Ih Pj
theorem UX{m n:a8}(h:fB X F st m)(k:mM X F kk n):mM X F (st::kk) (a4 m n):=fa.imp (AM h k) Px
theorem U5{m:a8}(h:fB X F st m):mM X F [st] m:=tI h
theorem U6{m:aC}(h:a9 X F e m):fB X F (.Return (some e) pos) (cw m):=cU.imp (rp h) Pr
theorem U7{m:aP}(h:lW X F e m):fB X F (.Return (some e) pos) (g5 m):=cU.imp (rp h) Pt
theorem U8(i:Nat){x:Str}{p:Pos}(hN:X.N[i]?=some x:=by rfl)(hv:eC X.env.scope x:=by first|exact Or.inl rfl|exact Or.inr (Or.inl rfl)|exact Or.inr (Or.inr rfl))(hd:(x==("__debug__" :Str))=false:=by decide)(hcd:(x==("__classdict__" :Str))=false:=by decide) :
  fB X F (.Return (some (.Name x p)) pos) (g5 (mq i)):=cU.imp (rp (hI hN hv hd hcd)) (Pu i)
theorem U3{k:b4}{m n:a8}{xs ys:List Stmt}(h:fp X F c k)(ha:mM X F xs m)(hb:mM X F ys n):fB X F (.If c xs ys pos) (c9 k m n):=cU.imp (AL h ha hb) O_
theorem U2{m:a8}(i:Nat)(h:fB X F st m):fB X F st (o4 i m):=cU.imp h O6
theorem U_(i:Nat){x:Str}{p:Pos}{m:aC}(hN:X.N.Nodup)(he:a9 X F e m)(hi:X.N[i]?=some x:=by rfl)(hx:Loc X.env.scope x:=by first|exact Or.inl rfl|exact Or.inr rfl)(hs:i1 e=true:=by rfl)(hf:X.fn x=true∨X.env.scope.names.lookup x=some .local:=by first|exact .inl rfl|exact .inr rfl):fB X F (.Assign [.Name x p] e pos) (cR i m):=cU.imp (rq hN hi hx he (jt _ _ _ _ hs) hf) Py
theorem Vd(i:Nat){x:Str}{p:Pos}{m:aP}(hN:X.N.Nodup)(he:lW X F e m)(hi:X.N[i]?=some x:=by rfl)(hx:Loc X.env.scope x:=by first|exact Or.inl rfl|exact Or.inr rfl)(hs:i1 e=true:=by rfl)(hf:X.fn x=true∨X.env.scope.names.lookup x=some .local:=by first|exact .inl rfl|exact .inr rfl):fB X F (.Assign [.Name x p] e pos) (fH i m):=cU.imp (rq hN hi hx he (jt _ _ _ _ hs) hf) Gy
theorem kH{op:Operator}{r:ea}{f:D→D→R D}{m n:aC}(ho:dp X (binaryOp op) r)(hf:fA F r f)(ha:a9 X F a m)(hb:a9 X F b n):a9 X F (.BinOp a op b pos) (ai f m n):=a3.imp (H2 ho ha hb) (vy hf)
theorem u2{op:CmpOp}{r:ea}{f:D→D→R D}{m n:aC}(ho:dp X (compareOp op) r)(hf:fA F r f)(ha:a9 X F a m)(hb:a9 X F b n)(hm:behindInMarks op b=false):a9 X F (.Compare a [op] [b] pos) (ai f m n):=a3.imp (Tf ho ha hb hm) (vy hf)
theorem n0{op:CmpOp}{r:ea}{f:D→D→R D}{m n:aC}(ho:dp X (compareOp op) r)(hf:fA F r f)(ha:a9 X F a m)(hb:a9 X F b n)(hm:behindInMarks op b=false):fp X F (.Compare a [op] [b] pos) (bc (ai f m n)):=
 e2.imp (T7 ho ha hb hm) fun σ H Q h=>by obtain⟨G,ρ,r,k⟩:=Gs (F:=F) (m:=ai f m n) σ H Q h;exact vy hf σ H _ ⟨G,ρ,r,k⟩
def hB(f:Int→Int→R D):D→D→R D
 |.int i,.int j=>f i j
 |_,_=>.bad
theorem rj{g:Int→Int→V}{f:Int→Int→D}(h:∀i j G,At F.K G (f i j) (g i j)):fA F (ki g) (hB fun i j=>.ok (f i j)):=by
 intro σ ρ G H x y a0 eN Q r bF b5 k;unfold hB at k
 split at k
 ·rename_i i j;simp only[At]at bF b5;exact⟨i,j,bF,b5,k _ H G r (bT.refl _ _) (h i j G)⟩
 ·exact k.elim
theorem ri{C:Int→Int→Prop}[∀i j,Decidable (C i j)]{g:Int→Int→V}{f:Int→Int→D}(h:∀i j G,At F.K G (f i j) (g i j)):fA F (nS C g) (hB fun i j=>if C i j then .ok (f i j)else .bad):=by
 intro σ ρ G H x y a0 eN Q r bF b5 k;unfold hB at k
 split at k
 ·rename_i i j;simp only[At]at bF b5;dsimp only at k
  split at k
  ·rename_i hc;exact⟨i,j,bF,b5,hc,k _ H G r (bT.refl _ _) (h i j G)⟩
  ·exact k.elim
 ·exact k.elim
instance(i j:Int):Decidable (ui i j):=by unfold ui;infer_instance
instance(i j:Int):Decidable (rW i j):=by unfold rW;infer_instance
instance(i j:Int):Decidable (p0 i j):=by unfold p0;infer_instance
def mC:=hB fun i j=>.ok (.int (i-j))
def mx:=hB fun i j=>if p0 i j then .ok (.int (i*j))else .bad
def eU:=hB fun i j=>if ui i j then .ok (.int (i/j))else .bad
def dN:=hB fun i j=>if 0<j then .ok (.int (i%j))else .bad
def nP:=hB fun i j=>if rW i j then .ok (.int (i^j.toNat))else .bad
def lD:=hB fun i j=>.ok (.aD (decide (i<j)))
def kP:=hB fun i j=>.ok (.aD (decide (i≤j)))
def qs:=hB fun i j=>.ok (.aD (decide (j<i)))
variable{m n:aC}
theorem MY(ha:a9 X F a m)(hb:a9 X F b n):a9 X F (.BinOp a .Sub b pos) (ai mC m n):=kH S0 (rj fun _ _ _=>by simp only[At]) ha hb
theorem MK(ha:a9 X F a m)(hb:a9 X F b n):a9 X F (.BinOp a .Mult b pos) (ai mx m n):=kH SR (ri fun _ _ _=>by simp only[At]) ha hb
theorem Mv(ha:a9 X F a m)(hb:a9 X F b n):a9 X F (.BinOp a .FloorDiv b pos) (ai eU m n):=kH SO (ri fun _ _ _=>by simp only[At]) ha hb
theorem MJ(ha:a9 X F a m)(hb:a9 X F b n):a9 X F (.BinOp a .Mod b pos) (ai dN m n):=kH SQ (ri fun _ _ _=>by simp only[At]) ha hb
theorem MT(ha:a9 X F a m)(hb:a9 X F b n):a9 X F (.BinOp a .Pow b pos) (ai nP m n):=kH SW (ri fun _ _ _=>by simp only[At]) ha hb
theorem WM(ha:a9 X F a m)(hb:a9 X F b n):fp X F (.Compare a [.Lt] [b] pos) (bc (ai lD m n)):=n0 HN (rj fun _ _ _=>by simp only[At]) ha hb (my _)
theorem WJ(ha:a9 X F a m)(hb:a9 X F b n):fp X F (.Compare a [.Gt] [b] pos) (bc (ai qs m n)):=n0 SP (rj fun _ _ _=>by simp only[At]) ha hb (my _)
def R1:D→R D
 |.int i=>.ok (.int (-i))
 |_=>.bad
noncomputable def d9:D→D→R D
 |.int i,.int j=>.ok (.int (i+j))
 |.str x,.str y=>if x.length+y.length≤1000000 then .ok (.str (x++y))else .bad
 |.lst xs,.lst ys=>if xs.length+ys.length≤1000000 then .ok (.lst (xs++ys))else .bad
 |_,_=>.bad
theorem Sn:fA F (fun x y H Q=>ki (fun i j=>.int (i+j)) x y H Q∨(∃i j,x=.str i∧y=.str j∧i.length+j.length≤sizeLine∧Q (.str (i++j)) H)∨Ik x y H Q) d9:=by
 intro σ ρ G H x y a0 eN Q r bF b5 k;unfold d9 at k
 split at k
 ·rename_i i j;simp only[At]at bF b5;exact .inl ⟨i,j,bF,b5,k _ H G r (bT.refl _ _) (by simp only[At])⟩
 ·rename_i i j;simp only[At]at bF b5
  split at k
  ·rename_i hl;exact .inr (.inl ⟨i,j,bF,b5,Nat.le_trans hl (by decide),k _ H G r (bT.refl _ _) (by simp only[At])⟩)
  ·exact k.elim
 ·rename_i ds ag;simp only[At]at bF b5
  split at k
  ·rename_i hl;obtain⟨p,xs,aj,h1,aY⟩:=bF;obtain⟨bW,ys,ax,h2,bA⟩:=b5;refine .inr (.inr ⟨p,bW,xs,ys,aj,ax,r.aL.sub _ _ h1,r.aL.sub _ _ h2,by rw[←aY.length,←bA.length];exact Nat.le_trans hl (by decide),fun l aJ=>?_⟩);refine k (.ref l) _ _ (r.lay aJ) (bT.lay r.aL.sub aJ) ?_;simp only[At];exact⟨l,xs++ys,rfl,dA,(aY.append bA).mono (Sub.upd (r.aL.sub.gone aJ))⟩
  ·exact k.elim
 ·exact k.elim
theorem Ml(ha:a9 X F a m)(hb:a9 X F b n):a9 X F (.BinOp a .Add b pos) (ai d9 m n):=kH (SI.or (SJ.or HJ)) Sn ha hb
noncomputable def bR(b:Bool)(x y:D):R D:=if okN 8 x=true∧okN 8 y=true then .ok (.aD (if b then bk x y else !bk x y))else .bad
noncomputable def AR(F:aZ)(b:Bool):ea:=fun x y H Q=>∃G d1 cC,Sub G H∧At F.K G d1 x∧At F.K G cC y∧okN 8 d1=true∧okN 8 cC=true∧Q (.aD (if b then bk d1 cC else !bk d1 cC)) H
theorem HK(hK:F.K=X.K)(hu:X.A.units+64<cLine):dp X (compareOp .Eq) (AR F true):=by intro pins s σ H x y v u Q I bt bX h;obtain⟨G,d1,cC,a7,a1,a2,cy,b_,q⟩:=h;rw[hK]at a1 a2;exact(y7 I a7 8 (A:=X.A) cy b_ ⟨x,a1,bt⟩ ⟨y,a2,bX⟩ (by omega)).2.1 X.prog X.w X.xe _ ⟨.aD _,H,I,rfl,q⟩
theorem HO(hK:F.K=X.K)(hu:X.A.units+64<cLine):dp X (compareOp .NotEq) (AR F false):=by intro pins s σ H x y v u Q I bt bX h;obtain⟨G,d1,cC,a7,a1,a2,cy,b_,q⟩:=h;rw[hK]at a1 a2;exact(y7 I a7 8 (A:=X.A) cy b_ ⟨x,a1,bt⟩ ⟨y,a2,bX⟩ (by omega)).2.2 X.prog X.w X.xe _ ⟨.aD _,H,I,rfl,q⟩
theorem wx(b:Bool):fA F (AR F b) (bR b):=by
 intro σ ρ G H x y a0 eN Q r bF b5 k;unfold bR at k
 split at k
 ·rename_i ho;exact⟨G,a0,eN,r.aL.sub,bF,b5,ho.1,ho.2,k _ H G r (bT.refl _ _) (by simp only[At])⟩
 ·exact k.elim
theorem WI(hu:X.A.units+64<cLine)(ha:a9 X F a m)(hb:a9 X F b n)(hK:F.K=X.K:=by rfl):fp X F (.Compare a [.Eq] [b] pos) (bc (ai (bR true) m n)):=n0 (HK hK hu) (wx true) ha hb (my _)
theorem WN(hu:X.A.units+64<cLine)(ha:a9 X F a m)(hb:a9 X F b n)(hK:F.K=X.K:=by rfl):fp X F (.Compare a [.NotEq] [b] pos) (bc (ai (bR false) m n)):=n0 (HO hK hu) (wx false) ha hb (my _)
theorem Mu(hu:X.A.units+64<cLine)(ha:a9 X F a m)(hb:a9 X F b n)(hK:F.K=X.K:=by rfl):a9 X F (.Compare a [.Eq] [b] pos) (ai (bR true) m n):=u2 (HK hK hu) (wx true) ha hb (my _)
theorem MN(hu:X.A.units+64<cLine)(ha:a9 X F a m)(hb:a9 X F b n)(hK:F.K=X.K:=by rfl):a9 X F (.Compare a [.NotEq] [b] pos) (ai (bR false) m n):=u2 (HO hK hu) (wx false) ha hb (my _)
end
section
variable{X:aK}{F:aZ}{e a b c:Expr}{ag:List Expr}{pos:Pos}{m n:aC}
theorem EE:∀{ds oD:List D},ds.length=oD.length→(∀(i:Nat) x y,ds[i]?=some x→oD[i]?=some y→∀z,bk x z=bk y z)→∀ag,dX ds ag=dX oD ag
 |[],[],_,_,_=>rfl
 |[],_::_,h,_,_=>by simp at h
 |_::_,[],h,_,_=>by simp at h
 |x::xs,y::ys,h,k,[]=>by simp only[dX]
 |x::xs,y::ys,h,k,e::ag=>by simp only[dX];rw[k 0 x y rfl rfl e,EE (by simpa using h) (fun i a b aj ax=>k (i+1) a b (by simpa using aj) (by simpa using ax)) ag]
theorem IS{K:PySem.W.Frag}{G:ah}{d d':D}{x:V}(o:gu d=true)(a1:At K G d x)(a2:At K G d' x):d=d':=by
 cases d with
 |non=>simp only[At]at a1;subst a1;cases d'<;>simp only[At]at a2<;>first|rfl|(cases a2;done)|(obtain⟨a,xs,e,_⟩:=a2;cases e;done)|(obtain⟨a,a0,xs,e,_⟩:=a2;cases e;done)
 |aD b=>simp only[At]at a1;subst a1;cases d'<;>simp only[At]at a2<;>first|(cases a2;rfl)|(cases a2;done)|(obtain⟨a,xs,e,_⟩:=a2;cases e;done)|(obtain⟨a,a0,xs,e,_⟩:=a2;cases e;done)
 |int b=>simp only[At]at a1;subst a1;cases d'<;>simp only[At]at a2<;>first|(cases a2;rfl)|(cases a2;done)|(obtain⟨a,xs,e,_⟩:=a2;cases e;done)|(obtain⟨a,a0,xs,e,_⟩:=a2;cases e;done)
 |str b=>simp only[At]at a1;subst a1;cases d'<;>simp only[At]at a2<;>first|(cases a2;rfl)|(cases a2;done)|(obtain⟨a,xs,e,_⟩:=a2;cases e;done)|(obtain⟨a,a0,xs,e,_⟩:=a2;cases e;done)
 |_=>cases o
theorem gz.val{K:PySem.W.Frag}{G:ah}{d:D}{p:Addr}{b:Bool}{ds:List D}{xs:List V}(h:gz K G d p b ds xs)(e:D):bk d e=match e with
  |.tup ag=>b&&dX ds ag
  |.de ag=>b&&dX ds ag
  |.lst ag=>!b&&dX ds ag
  |.bY ag=>!b&&dX ds ag
  |_=>false:=by
 cases h<;>cases e<;>simp[bk]
section
variable{pins:List (Addr×Obj)}{σ :St}{H G:ah}{s:Shared}
theorem K6(I:Inv X pins σ H s)(a7:Sub G H):∀(n:Nat){d d':D}{x:V},okN n d=true→okN n d'=true→At X.K G d x→At X.K G d' x→∀e,bk d e=bk d' e:=by
 intro n;induction n with
 |zero=>intro d d' x cy b_ a1 a2 e;rw[IS (by cases d<;>first|rfl|(cases cy)) a1 a2]
 |succ n b6=>
  intro d d' x cy b_ a1 a2 e;cases s1:gu d with
  |true=>rw[IS s1 a1 a2]
  |false=>
   cases s2:gu d' with
   |true=>exact(EC s2 s1 a1 a2).elim
   |false=>
    obtain⟨dG,eD,fu,n3,aj,aY,m1,Es,dQ⟩:=rC cy s1 a1;obtain⟨bW,d0,d4,e1,ax,bA,m2,Et,b7⟩:=rC b_ s2 a2;subst aj;cases ax;have:n=m1:=by omega
    subst this;have:n=m2:=by omega
    subst this;obtain⟨bq,ex⟩:=aY.same I a7 bA;subst bq;subst ex;have el:∀ag,dX fu ag=dX d4 ag:=EE (aY.gS.length.trans bA.gS.length.symm) fun i a b ar bq z=>by obtain⟨v,ev,bf⟩:=aY.gS.get ar;obtain⟨lR,l8,bv⟩:=bA.gS.get bq;rw[ev]at l8;cases l8;exact b6 (qg dQ ar) (qg b7 bq) bf bv z
    rw[aY.val,bA.val];cases e<;>first|rfl|(simp only[el])
open Classical in
noncomputable def kF(K:PySem.W.Frag)(G:ah)(d:D)(u:Value):Bool:=if h:∃d',okN 7 d'=true∧k5 K G d' u then bk (Classical.choose h) d else false
theorem xW(I:Inv X pins σ H s)(a7:Sub G H){d d1:D}{u:Value}(o:okN 7 d=true)(h:k5 X.K G d u):kF X.K G d1 u=bk d d1:=by have hx:∃d',okN 7 d'=true∧k5 X.K G d' u:=⟨d,o,h⟩;unfold kF;rw[dif_pos hx];obtain⟨cg,h'⟩:=Classical.choose_spec hx;obtain⟨x,a,r⟩:=h;obtain⟨XN,m3,br⟩:=h';have:XN=x:=br.inj r;subst this;exact K6 I a7 7 cg o m3 a d1
theorem xX(I:Inv X pins σ H s)(a7:Sub G H){d1:D}:∀{ds:List D}{xs:List V}{its:List Value},aI X.K G ds xs→Vals xs its→ds.all (okN 7)=true→its.any (kF X.K G d1)=ds.any fun y=>bk y d1
 |[],_,_,q,r,_=>by simp only[aI]at q;subst q;cases r;rfl
 |d::ds,_,_,q,r,o=>by
  simp only[aI]at q;obtain⟨v,xi,rfl,bf,l1⟩:=q;cases r with
  |cons av bg=>rw[List.all_cons,Bool.and_eq_true]at o;rw[List.any_cons,List.any_cons,xW I a7 o.1 ⟨v,bf,av⟩,xX I a7 l1 bg o.2]
theorem wi(I:Inv X pins σ H s)(a7:Sub G H){d1:D}{x:V}{v:Value}{A:Around}(hu:A.units+8<cLine)(cy:okN 7 d1=true)(a1:At X.K G d1 x)(bt:RelV x v):∀{ds:List D}{xs:List V}{its:List Value},aI X.K G ds xs→Vals xs its→ds.all (okN 7)=true→
  ∀u∈its,SeqAt.EqAt A s u v (kF X.K G d1 u)
 |[],_,_,q,r,_=>by simp only[aI]at q;subst q;cases r;exact fun u hu=>nomatch hu
 |d::ds,_,_,q,r,o=>by
  simp only[aI]at q;obtain⟨w,wr,rfl,bf,l1⟩:=q;cases r with
  |cons av bg=>
   rw[List.all_cons,Bool.and_eq_true]at o;intro iH hm;rcases List.mem_cons.mp hm with e|hm
   ·subst e;rw[xW I a7 o.1 ⟨w,bf,av⟩];exact(y7 I a7 7 (A:=A) o.1 cy ⟨w,bf,av⟩ ⟨x,a1,bt⟩ (by omega)).1
   ·exact wi I a7 hu cy a1 bt l1 bg o.2 iH hm
end
noncomputable def rx:D→Option (List D)
 |.tup ys=>some ys
 |.de ys=>some ys
 |.lst ys=>some ys
 |.bY ys=>some ys
 |_=>none
noncomputable def inD(b:Bool)(x y:D):R D:=match rx y with
 |some ys=>if okN 7 x=true∧ys.all (okN 7)=true then .ok (.aD (if b then ys.any (fun y=>bk y x)else !ys.any fun y=>bk y x))else .bad
 |none=>.bad
noncomputable def AS(F:aZ)(b:Bool):ea:=fun x y H Q=>∃G d1 cC p ds xs k,Sub G H∧At F.K G d1 x∧y=.ref p∧gz F.K G cC p k ds xs∧okN 7 d1=true∧ds.all (okN 7)=true∧Q (.aD (if b then ds.any (fun y=>bk y d1)else !ds.any fun y=>bk y d1)) H
theorem HL(hK:F.K=X.K)(hu:X.A.units+64<cLine):dp X (compareOp .In) (AS F true):=by
 intro pins s σ H x y v u Q I bt bX h;obtain⟨G,d1,cC,p,ds,xs,k,a7,a1,rfl,fw,cy,b_,q⟩:=h;rw[hK]at a1 fw;cases bX;obtain⟨its,av,t1,eG⟩:=fw.heap I a7;have q:Q (.aD (ds.any fun y=>bk y d1)) H:=q;rw[←xX I a7 fw.gS av b_]at q;have hm:=wi I a7 (A:=X.A.in1) (d1:=d1) (by rw[in1_units];omega) cy a1 bt fw.gS av b_;cases k with
 |true=>exact SeqAt.in_tupleAt (kF X.K G d1) (t1 rfl) (fun w hw=>hm w (by simpa using hw)) ⟨.aD _,H,I,rfl,by simpa using q⟩
 |false=>exact SeqAt.in_listAt (kF X.K G d1) (eG rfl) (fun w hw=>hm w (by simpa using hw)) ⟨.aD _,H,I,rfl,by simpa using q⟩
theorem SU(hK:F.K=X.K)(hu:X.A.units+64<cLine):dp X (compareOp .NotIn) (AS F false):=by
 intro pins s σ H x y v u Q I bt bX h;obtain⟨G,d1,cC,p,ds,xs,k,a7,a1,rfl,fw,cy,b_,q⟩:=h;rw[hK]at a1 fw;cases bX;obtain⟨its,av,t1,eG⟩:=fw.heap I a7;have q:Q (.aD (!ds.any fun y=>bk y d1)) H:=q;rw[←xX I a7 fw.gS av b_]at q;have hm:=wi I a7 (A:=X.A.in1) (d1:=d1) (by rw[in1_units];omega) cy a1 bt fw.gS av b_;cases k with
 |true=>exact SeqAt.notIn_tupleAt (kF X.K G d1) (t1 rfl) (fun w hw=>hm w (by simpa using hw)) ⟨.aD _,H,I,rfl,by simpa using q⟩
 |false=>exact SeqAt.notIn_listAt (kF X.K G d1) (eG rfl) (fun w hw=>hm w (by simpa using hw)) ⟨.aD _,H,I,rfl,by simpa using q⟩
theorem V4{K:PySem.W.Frag}{G:ah}{d:D}{x:V}{ds:List D}(e:rx d=some ds)(a:At K G d x):∃p xs k,x=.ref p∧gz K G d p k ds xs:=by
 cases d<;>first
  |(cases e;done)
  |(cases e
    simp only[At]at a;obtain⟨p,xs,e,h,q⟩:=a
    first
     |exact⟨p,xs,_,e,.tup (cv.of h) q⟩
     |exact⟨p,xs,_,e,.de h q⟩
     |exact⟨p,xs,_,e,.lst h q⟩
     |exact⟨p,xs,_,e,.bY h q⟩)
theorem Au(b:Bool):fA F (AS F b) (inD b):=by
 intro σ ρ G H x y a0 eN Q r bF b5 k;unfold inD at k;cases e:rx eN with
 |none=>rw[e]at k;exact k.elim
 |some ys=>
  rw[e]at k;dsimp only at k
  split at k
  ·rename_i ho;obtain⟨p,xs,cJ,cX,fw⟩:=V4 e b5;exact⟨G,a0,eN,p,ys,xs,cJ,r.aL.sub,bF,cX,fw,ho.1,ho.2,k _ H G r (bT.refl _ _) (by simp only[At])⟩
  ·exact k.elim
theorem WK(hu:X.A.units+64<cLine)(ha:a9 X F a m)(hb:a9 X F b n)(hK:F.K=X.K:=by rfl)(hm:behindInMarks .In b=false:=by with_unfolding_all rfl):fp X F (.Compare a [.In] [b] pos) (bc (ai (inD true) m n)):=n0 (HL hK hu) (Au true) ha hb hm
theorem WQ(hu:X.A.units+64<cLine)(ha:a9 X F a m)(hb:a9 X F b n)(hK:F.K=X.K:=by rfl)(hm:behindInMarks .NotIn b=false:=by with_unfolding_all rfl):fp X F (.Compare a [.NotIn] [b] pos) (bc (ai (inD false) m n)):=n0 (SU hK hu) (Au false) ha hb hm
theorem MA(hu:X.A.units+64<cLine)(ha:a9 X F a m)(hb:a9 X F b n)(hK:F.K=X.K:=by rfl)(hm:behindInMarks .In b=false:=by with_unfolding_all rfl):a9 X F (.Compare a [.In] [b] pos) (ai (inD true) m n):=u2 (HL hK hu) (Au true) ha hb hm
def hC:D→Bool
 |.non=>true
 |_=>false
def fG(b:Bool):D→D→R D
 |x,.non=>.ok (.aD (if b then hC x else !hC x))
 |_,_=>.bad
theorem z0{K:PySem.W.Frag}{G:ah}{d:D}{x:V}(a:At K G d x):hC d=decide (x=.non):=by
 cases d<;>simp only[At]at a<;>first
  |(subst a;simp[hC];done)
  |(obtain⟨p,xs,e,_⟩:=a;subst e;simp[hC];done)
  |(obtain⟨p,a0,xs,e,_⟩:=a;subst e;simp[hC];done)
theorem WL(ha:a9 X F a m)(hb:a9 X F b n):fp X F (.Compare a [.Is] [b] pos) (bc (ai (fG true) m n)):=n0 HM (fun σ ρ G H x y a0 eN Q r bF b5 k=>by
 unfold fG at k
 split at k
 ·simp only[At]at b5;rw[z0 bF]at k;exact⟨b5,k _ H G r (bT.refl _ _) (by simp only[At];rfl)⟩
 ·exact k.elim) ha hb (my _)
theorem WR(ha:a9 X F a m)(hb:a9 X F b n):fp X F (.Compare a [.IsNot] [b] pos) (bc (ai (fG false) m n)):=n0 SV (fun σ ρ G H x y a0 eN Q r bF b5 k=>by
 unfold fG at k
 split at k
 ·simp only[At]at b5;rw[z0 bF]at k;exact⟨b5,k _ H G r (bT.refl _ _) (by simp only[At];rfl)⟩
 ·exact k.elim) ha hb (my _)
theorem MC(ha:a9 X F a m)(hb:a9 X F b n):a9 X F (.Compare a [.Is] [b] pos) (ai (fG true) m n):=u2 HM (fun σ ρ G H x y a0 eN Q r bF b5 k=>by
 unfold fG at k
 split at k
 ·simp only[At]at b5;rw[z0 bF]at k;exact⟨b5,k _ H G r (bT.refl _ _) (by simp only[At];rfl)⟩
 ·exact k.elim) ha hb (my _)
noncomputable def iY(f g:D→D→R D)(a b c:aC):aC:=fun ρ=>(a ρ).bind fun x=>(b ρ).bind fun y=>(f x y).bind fun z=>(je z).bind fun k=>if k=true then(c ρ).bind fun w=>g y w else .ok (.aD false)
theorem Gv{r br:ea}{f g:D→D→R D}{l:aC}(hf:fA F r f)(hg:fA F br g):ej (cY F (iY f g m n l)) (Cd r br (cY F m) (cY F n) (cY F l)):=by
 rintro σ H Q ⟨G,ρ,AX,h⟩;unfold iY at h;refine⟨G,ρ,AX,?_⟩;cases ar:m ρ with
 |bad=>rw[ar]at h;exact h.elim
 |exc c=>rw[ar]at h;exact h
 |ok a0=>
  rw[ar,R.bl]at h;intro x H1 aN av s1 bF;refine⟨aN,ρ,av,?_⟩;cases bq:n ρ with
  |bad=>rw[bq]at h;exact h.elim
  |exc c=>rw[bq]at h;exact h
  |ok eN=>
   rw[bq,R.bl]at h;intro y aM cE bg s2 b5;refine hf σ ρ cE aM x y a0 eN _ bg (bF.mono s2.g) b5 ?_;cases dW:f a0 eN with
   |bad=>rw[dW]at h;exact h.elim
   |exc c=>rw[dW]at h;exact h
   |ok Mb=>
    rw[dW,R.bl]at h;intro z cO fm dU s3 qh;cases Mb with
    |aD k=>
     simp only[At]at qh;refine⟨k,qh,?_⟩;have h:jQ F G H σ ρ Q (if k=true then(l ρ).bind fun w=>g eN w else .ok (.aD false)):=h;cases k with
     |false=>rw[if_neg Bool.false_ne_true]at h ⊢;exact h _ cO fm dU (s1.trans (s2.trans s3)) (by simp only[At])
     |true=>
      rw[if_pos rfl]at h ⊢;refine⟨fm,ρ,dU,?_⟩;cases ec:l ρ with
      |bad=>rw[ec]at h;exact h.elim
      |exc c=>rw[ec]at h;exact h
      |ok Ma=>rw[ec,R.bl]at h;intro w gy rY pA s4 gB;exact hg σ ρ rY gy y w eN Ma Q pA ((b5.mono s3.g).mono s4.g) gB (h.mono (s1.trans (s2.trans (s3.trans s4))))
    |_=>exact h.elim
theorem Mt{op fW:CmpOp}{r br:ea}{f g:D→D→R D}{l:aC}(ho:dp X (compareOp op) r)(ho':dp X (compareOp fW) br)(hf:fA F r f)(hg:fA F br g)(ha:a9 X F a m)(hb:a9 X F b n)(hc:a9 X F c l)(hm:lastMarks [op,fW] [b,c]=false:=by with_unfolding_all rfl) :
  a9 X F (.Compare a [op,fW] [b,c] pos) (iY f g m n l):=a3.imp (Td ho ho' ha hb hc hm) (Gv hf hg)
theorem WE{op fW:CmpOp}{r br:ea}{f g:D→D→R D}{l:aC}(ho:dp X (compareOp op) r)(ho':dp X (compareOp fW) br)(hf:fA F r f)(hg:fA F br g)(ha:a9 X F a m)(hb:a9 X F b n)(hc:a9 X F c l)(hm:lastMarks [op,fW] [b,c]=false:=by with_unfolding_all rfl) :
  fp X F (.Compare a [op,fW] [b,c] pos) (bc (iY f g m n l)):=e2.imp (T6 ho ho' ha hb hc hm) fun σ H Q h=>by
  obtain⟨G,ρ,r,k⟩:=Gs (F:=F) (m:=iY f g m n l) σ H Q h;exact Gv hf hg σ H _ ⟨G,ρ,r,k⟩
theorem Ss:fA F (ki fun i j=>.aD (decide (i<j))) lD:=rj fun _ _ _=>by simp only[At]
theorem tw:fA F (ki fun i j=>.aD (decide (i≤j))) kP:=rj fun _ _ _=>by simp only[At]
end
section
variable{X:aK}{F:aZ}{e a b c:Expr}{ag:List Expr}{pos p:Pos}{m n:aC}{ma:aP}
def ct(f:List D→R D)(m:aP):aC:=fun ρ=>(m ρ).bind f
noncomputable def lV(F:aZ)(r:List V→ah→cI→Prop)(f:List D→R D):Prop:=∀ σ ρ G H xs ds Q,Rel F G H σ ρ→aI F.K G ds xs→jQ F G H σ ρ Q (f ds)→r xs H Q
theorem Gu{r:List V→ah→cI→Prop}{f:List D→R D}(hf:lV F r f):ej (cY F (ct f ma)) (w2 r (eo F ma)):=by
 rintro σ H Q ⟨G,ρ,AX,h⟩;unfold ct at h;refine⟨G,ρ,AX,?_⟩;cases ar:ma ρ with
 |bad=>rw[ar]at h;exact h.elim
 |exc c=>rw[ar]at h;exact h
 |ok ds=>rw[ar,R.bl]at h;intro vs H1 aN av s1 a;exact hf σ ρ aN H1 vs ds Q av a (h.mono s1)
theorem yZ{x:Str}{id:String}{r:List V→ah→cI→Prop}{f:List D→R D}(hc:hR X (.builtin id) r)(hf:lV F r f)(hm:X.mg x=none)(hv:bootBuiltins x=some (.builtin id))(ha:f7 X F (e::ag) ma)(hg:da X x:=by rfl)(aJ:x≠"__name__":=by decide)(hdb:(x==("__debug__" :Str))=false:=by decide)(he:starEach (e::ag) X.env=(false,eval e X.env)::starEach ag X.env:=by rfl)(hpl:(backTo pos (starEach ag X.env)).any (·.1)=false:=by rfl):a9 X F (.Call (.Name x p) (e::ag) [] pos) (ct f ma):=
 a3.imp (HZ hc hg hm hv ha aJ hdb he hpl) (Gu hf)
theorem y0{x:Str}{T:String}{r:List V→ah→cI→Prop}{f:List D→R D}(hc:hR X (.type T) r)(hf:lV F r f)(hm:X.mg x=none)(hv:bootBuiltins x=some (.type T))(ha:f7 X F (e::ag) ma)(hg:da X x:=by rfl)(aJ:x≠"__name__":=by decide)(hdb:(x==("__debug__" :Str))=false:=by decide)(he:starEach (e::ag) X.env=(false,eval e X.env)::starEach ag X.env:=by rfl)(hpl:(backTo pos (starEach ag X.env)).any (·.1)=false:=by rfl):a9 X F (.Call (.Name x p) (e::ag) [] pos) (ct f ma):=
 a3.imp (H0 hc hg hm hv ha aJ hdb he hpl) (Gu hf)
noncomputable def df:List D→R D
 |[.str x]=>if x.length≤1000000 then .ok (.int x.length)else .bad
 |[.lst xs]=>.ok (.int xs.length)
 |[.bY xs]=>.ok (.int xs.length)
 |[.tup xs]=>.ok (.int xs.length)
 |[.de xs]=>.ok (.int xs.length)
 |_=>.bad
theorem aI.one{K:PySem.W.Frag}{G:ah}{d:D}{vs:List V}(a:aI K G [d] vs):∃v,vs=[v]∧At K G d v:=by simp only[aI]at a;obtain⟨v,r,rfl,h,rfl⟩:=a;exact⟨v,rfl,h⟩
theorem aI.two{K:PySem.W.Frag}{G:ah}{d e:D}{vs:List V}(a:aI K G [d,e] vs):∃v w,vs=[v,w]∧At K G d v∧At K G e w:=by simp only[aI]at a;obtain⟨v,r,rfl,h,w,br,rfl,h',rfl⟩:=a;exact⟨v,w,rfl,h,h'⟩
theorem Sr(hK:F.K=X.K):lV F (fun xs H Q=>∃x n,xs=[x]∧Dk X.K x H n∧Q (.int n) H) df:=by
 intro σ ρ G H xs ds Q r al k;unfold df at k
 split at k
 ·rename_i x;obtain⟨v,rfl,bf⟩:=al.one;simp only[At]at bf;subst bf
  split at k
  ·rename_i hl;exact⟨_,x.length,rfl,⟨Nat.le_trans hl (by decide),rfl⟩,k _ H G r (bT.refl _ _) (by simp only[At])⟩
  ·exact k.elim
 ·rename_i ys;obtain⟨v,rfl,bf⟩:=al.one;simp only[At]at bf;obtain⟨q,xs,rfl,h,al⟩:=bf;rw[al.length]at k;exact⟨_,xs.length,rfl,.inl ⟨xs,bS.of (r.aL.sub _ _ h),rfl⟩,k _ H G r (bT.refl _ _) (by simp only[At])⟩
 ·rename_i ys;obtain⟨v,rfl,bf⟩:=al.one;simp only[At]at bf;obtain⟨q,xs,rfl,h,al⟩:=bf;rw[al.length]at k;rw[hK]at h;exact⟨_,xs.length,rfl,.inl ⟨xs,bS.mono r.aL.sub h,rfl⟩,k _ H G r (bT.refl _ _) (by simp only[At])⟩
 ·rename_i ys;obtain⟨v,rfl,bf⟩:=al.one;simp only[At]at bf;obtain⟨q,xs,rfl,h,al⟩:=bf;rw[al.length]at k;exact⟨_,xs.length,rfl,.inr ⟨xs,cv.of (r.aL.sub _ _ h),rfl⟩,k _ H G r (bT.refl _ _) (by simp only[At])⟩
 ·rename_i ys;obtain⟨v,rfl,bf⟩:=al.one;simp only[At]at bf;obtain⟨q,xs,rfl,h,al⟩:=bf;rw[al.length]at k;rw[hK]at h;exact⟨_,xs.length,rfl,.inr ⟨xs,cv.mono r.aL.sub h,rfl⟩,k _ H G r (bT.refl _ _) (by simp only[At])⟩
 ·exact k.elim
theorem MF(hm:X.mg "len"=none)(ha:f7 X F [e] ma)(hK:F.K=X.K:=by rfl)(hg:da X "len":=by rfl)(he:starEach [e] X.env=(false,eval e X.env)::starEach [] X.env:=by rfl)(hpl:(backTo pos (starEach [] X.env)).any (·.1)=false:=by rfl) :
  a9 X F (.Call (.Name "len" p) [e] [] pos) (ct df ma):=yZ Lq (Sr hK) hm PySem.boot_len ha hg (by decide) (by decide) he hpl
noncomputable def t2:D→Option String
 |.non=>some "NoneType"
 |.aD _=>some "bool"
 |.int _=>some "int"
 |.str _=>some "str"
 |.lst _=>some "list"
 |.bY _=>some "list"
 |.tup _=>some "tuple"
 |.de _=>some "tuple"
 |.cW _ _=>some "dict"
 |.a_ _ _=>some "dict"
 |_=>none
def B_(T U:String):Bool:=T==U||(T=="bool"&&U=="int")
def iB(U:String)(d:D):R D:=match t2 d with
 |some T=>.ok (.aD (B_ T U))
 |none=>.bad
noncomputable def mW(K:PySem.W.Frag)(U:String):Prop:=∀T,T="NoneType"∨T="bool"∨T="int"∨T="str"∨T="list"∨T="tuple"∨T="dict"→PySem.W.kitOne K (.type T) (.type U)=some (B_ T U)
theorem W0(K:PySem.W.Frag):mW K "int":=fun T h=>by rcases h with rfl|rfl|rfl|rfl|rfl|rfl|rfl<;>kernel_rfl
theorem JE(K:PySem.W.Frag):mW K "bool":=fun T h=>by rcases h with rfl|rfl|rfl|rfl|rfl|rfl|rfl<;>kernel_rfl
theorem W2(K:PySem.W.Frag):mW K "str":=fun T h=>by rcases h with rfl|rfl|rfl|rfl|rfl|rfl|rfl<;>kernel_rfl
theorem Cv(K:PySem.W.Frag):mW K "list":=fun T h=>by rcases h with rfl|rfl|rfl|rfl|rfl|rfl|rfl<;>kernel_rfl
theorem W3(K:PySem.W.Frag):mW K "tuple":=fun T h=>by rcases h with rfl|rfl|rfl|rfl|rfl|rfl|rfl<;>kernel_rfl
theorem PY{pins:List (Addr×Obj)}{σ :St}{H G:ah}{s:Shared}{Q:Value→Shared→Prop}{E:Value→Shared→Prop}{d:D}{x:V}{u:Value}{T U:String}{k:Bool}(I:Inv X pins σ H s)(a7:Sub G H)(at':At X.K G d x)(bt:RelV x u)(e:t2 d=some T)(tt:PySem.W.kitOne X.K (.type T) (.type U)=some k)(h:∀dv,Q (.bool k) { s with toks:=dv }):wpAny (model X.prog X.w) X.A (call (.builtin "isinstance") [u,.type U]) Q E s:=by
 cases d with
 |non=>cases e;simp only[At]at at';subst at';cases bt;exact PySem.W.kia_one PySem.W.kitx_none I.fT True.intro tt (fun z=>nomatch z) h
 |aD b=>cases e;simp only[At]at at';subst at';cases bt;exact PySem.W.kia_one PySem.W.kitx_bool I.fT True.intro tt (fun z=>nomatch z) h
 |int b=>cases e;simp only[At]at at';subst at';obtain⟨t,rfl⟩:=bt;exact PySem.W.kia_one PySem.W.kitx_int I.fT True.intro tt (fun z=>nomatch z) h
 |str b=>cases e;simp only[At]at at';subst at';obtain⟨t,rfl⟩:=bt;exact PySem.W.kia_one PySem.W.kitx_str I.fT True.intro tt (fun z=>nomatch z) h
 |lst ds=>cases e;simp only[At]at at';obtain⟨q,xs,rfl,aO,_⟩:=at';cases bt;obtain⟨its,_,⟨o,n,aj,ax,_⟩,_⟩:=I.list (bS.of (a7 _ _ aO));exact PySem.W.kia_one PySem.W.kitx_list I.fT ⟨o,aj,ax⟩ tt (fun z=>nomatch z) h
 |bY ds=>cases e;simp only[At]at at';obtain⟨q,xs,rfl,aO,_⟩:=at';cases bt;obtain⟨its,_,⟨o,n,aj,ax,_⟩,_⟩:=I.list (bS.mono a7 aO);exact PySem.W.kia_one PySem.W.kitx_list I.fT ⟨o,aj,ax⟩ tt (fun z=>nomatch z) h
 |tup ds=>cases e;simp only[At]at at';obtain⟨q,xs,rfl,aO,_⟩:=at';cases bt;obtain⟨its,_,⟨o,aj,ax,_⟩,_⟩:=I.tuple (cv.of (a7 _ _ aO));exact PySem.W.kia_one PySem.W.kitx_tuple I.fT ⟨o,aj,ax⟩ tt (fun z=>nomatch z) h
 |de ds=>cases e;simp only[At]at at';obtain⟨q,xs,rfl,aO,_⟩:=at';cases bt;obtain⟨its,_,⟨o,aj,ax,_⟩,_⟩:=I.tuple (cv.mono a7 aO);exact PySem.W.kia_one PySem.W.kitx_tuple I.fT ⟨o,aj,ax⟩ tt (fun z=>nomatch z) h
 |cW bV ds=>cases e;simp only[At]at at';obtain⟨q,xs,rfl,aO,_⟩:=at';cases bt;obtain⟨_,_,vs,_,o,ag,du,h1,h2,_⟩:=(show fz X.prog X.w H s.heap q (.cW xs)from I.bM q _ (a7 _ _ aO));exact PySem.W.kia_one PySem.W.kitx_dict I.fT ⟨o,h1,h2.1⟩ tt (fun z=>nomatch z) h
 |a_ bV ds=>cases e;simp only[At]at at';obtain⟨q,xs,rfl,aO,_⟩:=at';cases bt;obtain⟨_,_,zs,_,o,ag,du,h1,h2,_⟩:=(show fz X.prog X.w H s.heap q (.a_ xs)from I.bM q _ (a7 _ _ aO));exact PySem.W.kia_one PySem.W.kitx_dict I.fT ⟨o,h1,h2.1⟩ tt (fun z=>nomatch z) h
 |ins C ns ds=>cases e
 |l9 C=>cases e
theorem Xc{d:D}{T:String}(e:t2 d=some T):T="NoneType"∨T="bool"∨T="int"∨T="str"∨T="list"∨T="tuple"∨T="dict":=by cases d<;>cases e<;>simp
noncomputable def Up(F:aZ)(U:String):List V→ah→cI→Prop:=fun xs H Q=>∃G d x T,Sub G H∧xs=[x,.ty U]∧At F.K G d x∧t2 d=some T∧Q (.aD (B_ T U)) H
theorem Lp{U:String}(hK:F.K=X.K)(tt:mW X.K U):hR X (.builtin "isinstance") (Up F U):=by intro pins s σ H xs us Q I r h;obtain⟨G,d,x,T,a7,rfl,a,e,q⟩:=h;obtain⟨u,eZ,rfl,bt,ef⟩:=vals2 r;obtain rfl:eZ=Value.type U:=ef;rw[hK]at a;exact PY I a7 a bt e (tt T (Xc e)) fun dv=>⟨.aD _,H,I.tok dv,rfl,q⟩
theorem MD{U:Str}{T:String}{bW:Pos}(tt:mW X.K T)(hm:X.mg "isinstance"=none)(hmU:X.mg U=none)(hU:bootBuiltins U=some (.type T))(ha:a9 X F a m)(hK:F.K=X.K:=by rfl)(hg:da X "isinstance":=by rfl)(hgU:da X U:=by rfl)(hnU:U≠"__name__":=by decide)(hdU:(U==("__debug__" :Str))=false:=by decide)(hs2:starEach [.Name U bW] X.env=(false,eval (.Name U bW) X.env)::starEach [] X.env:=by rfl)(he:starEach [a,.Name U bW] X.env=(false,eval a X.env)::starEach [.Name U bW] X.env:=by rfl)(hpl:(backTo pos (starEach [.Name U bW] X.env)).any (·.1)=false:=by rfl) :
  a9 X F (.Call (.Name "isinstance" p) [a,.Name U bW] [] pos) (eX (iB T) m):=by
 have hb:bootBuiltins "isinstance"=some (.builtin "isinstance"):=by kernel_rfl
 refine a3.imp (HZ (Lp hK tt) hg hm hb (gb ha (gb (Tb hgU hmU hU (v:=.ty T) rfl hnU hdU) i3 hs2) he) (by decide) (by decide) he hpl) ?_;rintro σ H Q ⟨G,ρ,r,h⟩;unfold eX at h;refine⟨G,ρ,r,?_⟩;cases ar:m ρ with
 |bad=>rw[ar]at h;exact h.elim
 |exc c=>rw[ar]at h;exact h
 |ok d=>
  rw[ar,R.bl]at h;intro x H1 aN av s1 bF;unfold iB at h;cases e:t2 d with
  |none=>rw[e]at h;exact h.elim
  |some KG=>rw[e]at h;exact⟨aN,d,x,KG,av.aL.sub,rfl,bF,e,h _ H1 aN av s1 (by simp only[At])⟩
noncomputable def az:D→D→R D
 |.lst xs,.int i=>match eM xs i with|some d=>.ok d|none=>.bad
 |.bY xs,.int i=>match eM xs i with|some d=>.ok d|none=>.bad
 |.tup xs,.int i=>match eM xs i with|some d=>.ok d|none=>.bad
 |.de xs,.int i=>match eM xs i with|some d=>.ok d|none=>.bad
 |.str x,.int i=>if x.length≤1000000 then match eM x.cps.toList i with|some c=>.ok (.str ⟨#[c]⟩)|none=>.bad else .bad
 |_,_=>.bad
theorem uH{K:PySem.W.Frag}{G:ah}{ds:List D}{xs:List V}{i:Int}{d:D}(q:aI K G ds xs)(e:eM ds i=some d):∃v,eM xs i=some v∧At K G d v:=by
 unfold eM at e ⊢;rw[q.length]at e;cases jh:eF xs.length i with
 |none=>rw[jh]at e;cases e
 |some j=>rw[jh]at e;obtain⟨v,aj,a⟩:=q.get e;exact⟨v,aj,a⟩
theorem Sq(hK:F.K=X.K):fA F (Io X.K) az:=by
 intro σ ρ G H x y a0 eN Q r bF b5 k;unfold az at k
 split at k
 ·rename_i ds i;simp only[At]at bF b5;obtain⟨p,xs,e,h,q⟩:=bF
  split at k
  ·rename_i d ek;obtain⟨v,ev,bf⟩:=uH q ek;exact .inl ⟨p,xs,i,v,e,b5,bS.of (r.aL.sub _ _ h),ev,k _ H G r (bT.refl _ _) bf⟩
  ·exact k.elim
 ·rename_i ds i;simp only[At]at bF b5;obtain⟨p,xs,e,h,q⟩:=bF
  split at k
  ·rename_i d ek;obtain⟨v,ev,bf⟩:=uH q ek;have h':=h;rw[hK]at h';exact .inl ⟨p,xs,i,v,e,b5,bS.mono r.aL.sub h',ev,k _ H G r (bT.refl _ _) bf⟩
  ·exact k.elim
 ·rename_i ds i;simp only[At]at bF b5;obtain⟨p,xs,e,h,q⟩:=bF
  split at k
  ·rename_i d ek;obtain⟨v,ev,bf⟩:=uH q ek;exact .inr (.inl ⟨p,xs,i,v,e,b5,cv.of (r.aL.sub _ _ h),ev,k _ H G r (bT.refl _ _) bf⟩)
  ·exact k.elim
 ·rename_i ds i;simp only[At]at bF b5;obtain⟨p,xs,e,h,q⟩:=bF
  split at k
  ·rename_i d ek;obtain⟨v,ev,bf⟩:=uH q ek;have h':=h;rw[hK]at h';exact .inr (.inl ⟨p,xs,i,v,e,b5,cv.mono r.aL.sub h',ev,k _ H G r (bT.refl _ _) bf⟩)
  ·exact k.elim
 ·rename_i z i;simp only[At]at bF b5
  split at k
  ·rename_i hl
   split at k
   ·rename_i c ec;exact .inr (.inr ⟨z,i,c,bF,b5,Nat.le_trans hl (by decide),ec,k _ H G r (bT.refl _ _) (by simp only[At])⟩)
   ·exact k.elim
  ·exact k.elim
 ·exact k.elim
theorem ME(ha:a9 X F a m)(hb:a9 X F b n)(hs:oh b)(hK:F.K=X.K:=by rfl):a9 X F (.Subscript a b pos) (ai az m n):=a3.imp (wB vE ha hb hs) (vy (Sq hK))
end
section
variable{X:aK}{F:aZ}{e a b c:Expr}{ag:List Expr}{pos p:Pos}{m n:aC}{ma:aP}
noncomputable def jg{α:Type}(xs:List α)(lo hi:Option Int):List α:=(xs.drop (dD.cz xs.length 0 lo)).take (dD.cz xs.length xs.length hi-dD.cz xs.length 0 lo)
def oB(x:Str)(lo hi:Option Int):Str:=⟨(jg x.cps.toList lo hi).toArray⟩
theorem Wb(lo hi:Option Int)(n:Nat):Builtin.Str.strSliceIndices lo hi 1 n=(List.range (dD.cz n n hi-dD.cz n 0 lo)).map (dD.cz n 0 lo+·):=by
 rw[←sliceRange_one];unfold Builtin.Str.strSliceIndices;simp only[show(1:Int)>0 by decide,if_true]
 congr 1
 ·cases lo with
  |none=>rfl
  |some i=>
   show max 0 (min (if i<0 then i+(n:Int)else i) (n:Int))=((if i<0 then(i+(n:Int)).toNat else min i.toNat n:Nat):Int)
   split<;>omega
 ·cases hi with
  |none=>rfl
  |some i=>
   show max 0 (min (if i<0 then i+(n:Int)else i) (n:Int))=((if i<0 then(i+(n:Int)).toNat else min i.toNat n:Nat):Int)
   split<;>omega
theorem A7(n:Nat)(v:Option Int){d:Nat}(hd:d≤n):dD.cz n d v≤n:=by
 cases v with
 |none=>exact hd
 |some i=>
  show(if i<0 then(i+(n:Int)).toNat else min i.toNat n)≤n
  split<;>omega
theorem VZ(x:Str)(lo hi:Option Int):Txt.slice x lo hi=oB x lo hi:=by
 have hl:x.cps.toList.length=x.length:=by simp[Str.length]
 unfold Txt.slice oB jg;rw[Wb,hl]
 split
 ·rename_i h;have h:dD.cz x.length x.length hi-dD.cz x.length 0 lo=x.length:=by simpa using h
  have h1:=A7 x.length hi (Nat.le_refl _);have h2:dD.cz x.length 0 lo=0∨x.length=0:=by omega
  have e:(x.cps.toList.drop (dD.cz x.length 0 lo)).take (dD.cz x.length x.length hi-dD.cz x.length 0 lo)=x.cps.toList:=by
   rw[h];rcases h2 with z|z
   ·rw[z,List.drop_zero,List.take_of_length_le (by omega)]
   ·have bU:x.cps.toList=[]:=List.length_eq_zero_iff.mp (by omega);rw[bU];simp
  rw[e]
 ·rw[pick_run]
noncomputable def Iw:V→Option Int→Option Int→ah→cI→Prop:=fun x lo hi H Q=>∃z,x=.str z∧z.length≤sizeLine∧Q (.str (oB z lo hi)) H
theorem HW{v:Value}{o:Option Int}(h:IsPart v o):∃l:Option (Int×Tok),v=partValue l∧l.map (·.1)=o:=by
 cases h with
 |none=>exact⟨none,rfl,rfl⟩
 |int i t=>exact⟨some (i,t),rfl,rfl⟩
theorem VU:mV X Iw:=by
 intro pins s σ H x v gM gN lo hi bZ Q I bt hs pl pu h;obtain⟨z,rfl,bx,q⟩:=h;obtain⟨t,rfl⟩:=bt;obtain⟨l,rfl,el⟩:=HW pl;obtain⟨u,rfl,iw⟩:=HW pu;refine⟨"str",_,F.slot_str_getitem.lookup,typeIs_str s z t,wpAny_getItem_str_slice (l:=l) (u:=u) (st:=none) ?_ rfl ?_⟩
 ·obtain⟨o,h1,h2,h3⟩:=hs;exact⟨o,h1,h2,h3⟩
 ·have e:Txt.slice z lo hi=oB z lo hi:=VZ z lo hi;have fin:∀t' k,gm X pins σ Q (.str (Txt.slice z lo hi) t') { s with toks:=k }:=fun t' k=>⟨.str (oB z lo hi),H,I.tok k,⟨t',by rw[e]⟩,q⟩;unfold Txt.slice at fin;subst el iw;exact post_val_or_str ⟨Nat.le_trans (Txt.slice_le z _ _) bx,fin⟩
abbrev jc:=ak→R (Option Int)
def qZ:jc:=fun _=>.ok none
def intD:D→R (Option Int)
 |.int i=>.ok (some i)
 |_=>.bad
def mm(m:aC):jc:=fun ρ=>(m ρ).bind intD
noncomputable def Qp(F:aZ)(G H:ah)(σ :St)(ρ:ak)(Q:Option Int→ah→Prop):R (Option Int)→Prop
 |.ok o=>∀H' G',Rel F G' H' σ ρ→bT G H G' H'→Q o H'
 |.exc c=>iD F c
 |.bad=>False
def rG(F:aZ)(m:jc):b2:=fun σ H Q=>∃G ρ,Rel F G H σ ρ∧Qp F G H σ ρ Q (m ρ)
abbrev p8(X:aK)(F:aZ)(e:Option Expr)(m:jc):Prop:=p9 X e (rG F m)
theorem S3:p8 X F none qZ:=fun pins s σ H Q I h=>by obtain⟨G,ρ,r,k⟩:=h;exact TU pins s σ H Q I (k H G r (bT.refl _ _))
theorem S4(h:a9 X F e m):p8 X F (some e) (mm m):=fun pins s σ H Q I hw=>by
 obtain⟨G,ρ,r,k⟩:=hw;refine TV h pins s σ H Q I ⟨G,ρ,r,?_⟩;unfold mm at k;cases ar:m ρ with
 |bad=>rw[ar]at k;exact k.elim
 |exc c=>rw[ar]at k;exact k
 |ok d=>
  rw[ar,R.bl]at k;intro x H1 aN av s1 bF;cases d with
  |int i=>simp only[At]at bF;exact⟨i,bF,k H1 aN av s1⟩
  |_=>exact k.elim
noncomputable def jS(f:D→Option Int→Option Int→R D)(m:aC)(lo hi:jc):aC:=fun ρ=>(m ρ).bind fun d=>(lo ρ).bind fun l=>(hi ρ).bind fun h=>f d l h
noncomputable def nX(d:D)(l h:Option Int):R D:=match d with
 |.lst xs=>.ok (.lst (jg xs l h))
 |.bY xs=>.ok (.lst (jg xs l h))
 |.str x=>if x.length≤1000000 then .ok (.str (oB x l h))else .bad
 |_=>.bad
theorem aI.cut{K:PySem.W.Frag}{G:ah}{ds:List D}{xs:List V}(q:aI K G ds xs)(l h:Option Int):aI K G (jg ds l h) (m7 xs l h):=by unfold jg m7;rw[q.length];exact(q.drop _).take _
theorem PB(hK:F.K=X.K){lo hi:jc}:ej (cY F (jS nX m lo hi)) (Cn (fun x lo hi H Q=>Iv X.K x lo hi H Q∨Iw x lo hi H Q) (cY F m) (rG F lo) (rG F hi)):=by
 rintro σ H Q ⟨G,ρ,r,h⟩;unfold jS at h;refine⟨G,ρ,r,?_⟩;cases ar:m ρ with
 |bad=>rw[ar]at h;exact h.elim
 |exc c=>rw[ar]at h;exact h
 |ok d=>
  rw[ar,R.bl]at h;intro x H1 aN av s1 bF;refine⟨aN,ρ,av,?_⟩;cases el:lo ρ with
  |bad=>rw[el]at h;exact h.elim
  |exc c=>rw[el]at h;exact h
  |ok l=>
   rw[el,R.bl]at h;intro aM cE bg s2;refine⟨cE,ρ,bg,?_⟩;cases hZ:hi ρ with
   |bad=>rw[hZ]at h;exact h.elim
   |exc c=>rw[hZ]at h;exact h
   |ok u=>
    rw[hZ,R.bl]at h;intro cO fm dU s3;have up:=s1.trans (s2.trans s3);have l2:=(bF.mono s2.g).mono s3.g;cases d with
    |lst ds=>simp only[At]at l2;obtain⟨q,xs,rfl,aO,al⟩:=l2;refine .inl ⟨q,xs,rfl,bS.of (dU.aL.sub _ _ aO),fun cL aJ=>?_⟩;refine h (.ref cL) _ _ (dU.lay aJ) (up.trans (bT.lay dU.aL.sub aJ)) ?_;simp only[At];exact⟨cL,_,rfl,dA,(al.cut l u).mono (Sub.upd (dU.aL.sub.gone aJ))⟩
    |bY ds=>simp only[At]at l2;obtain⟨q,xs,rfl,aO,al⟩:=l2;have nk:=aO;rw[hK]at nk;refine .inl ⟨q,xs,rfl,bS.mono dU.aL.sub nk,fun cL aJ=>?_⟩;refine h (.ref cL) _ _ (dU.lay aJ) (up.trans (bT.lay dU.aL.sub aJ)) ?_;simp only[At];exact⟨cL,_,rfl,dA,(al.cut l u).mono (Sub.upd (dU.aL.sub.gone aJ))⟩
    |str z=>
     simp only[At]at l2;have h:jQ F G H σ ρ Q (if z.length≤1000000 then .ok (.str (oB z l u))else .bad):=h
     split at h
     ·rename_i bx;exact .inr ⟨z,l2,Nat.le_trans bx (by decide),h _ cO fm dU up (by simp only[At])⟩
     ·exact h.elim
    |_=>exact h.elim
theorem MU{lo hi:Option Expr}{bW:Pos}{kS kR:jc}(ha:a9 X F a m)(hl:p8 X F lo kS)(hh:p8 X F hi kR)(hK:F.K=X.K:=by rfl):a9 X F (.Subscript a (.Slice lo hi none bW) pos) (jS nX m kS kR):=a3.imp (H3 (VT.or VU) ha hl hh) (PB hK)
def pH:List D→R D
 |[.int i]=>if i.natAbs.log2<1920 then .ok (.str (toString i))else .bad
 |_=>.bad
theorem Sy:lV F (fun xs H Q=>∃i,xs=[.int i]∧i.natAbs.log2<1920∧Q (.str (toString i)) H) pH:=by
 intro σ ρ G H xs ds Q r al k;unfold pH at k
 split at k
 ·rename_i i
  split at k
  ·rename_i hl;exact⟨i,al.ints1,hl,k _ H G r (bT.refl _ _) (by simp only[At])⟩
  ·exact k.elim
 ·exact k.elim
theorem MX(hm:X.mg "str"=none)(ha:f7 X F [e] ma)(hg:da X "str":=by rfl)(he:starEach [e] X.env=(false,eval e X.env)::starEach [] X.env:=by rfl)(hpl:(backTo pos (starEach [] X.env)).any (·.1)=false:=by rfl) :
  a9 X F (.Call (.Name "str" p) [e] [] pos) (ct pH ma):=y0 Lu Sy hm (by kernel_rfl) ha hg (by decide) (by decide) he hpl
theorem Lo:hR X (.type "int") (fun xs H Q=>(∃i,xs=[.int i]∧Q (.int i) H)∨∃x i,xs=[.str x]∧x.length≤640∧intText? x=some i∧Q (.int i) H):=by
 intro pins s σ H xs us Q I r h;rcases h with⟨i,rfl,q⟩|⟨x,i,rfl,hl,hi,q⟩
 ·obtain⟨u,rfl,t,rfl⟩:=vals1 r;exact call_int_int ⟨.int i,H,I,⟨_,rfl⟩,q⟩
 ·obtain⟨u,rfl,t,rfl⟩:=vals1 r;exact PySem.W.KIN.call_text hi hl ⟨.int i,H,I.tok _,⟨_,rfl⟩,q⟩
end
end ay
namespace aS
open PySem PySem.Spec
section
variable{prog:Program}{w:World}{A:Around}{E:Value→Shared→Prop}{s:Shared}
theorem R5{it t:Addr}{i:Nat}{items:Array Value}{x:Value}{Q:Value→Shared→Prop}(hit:s.heap.IsTupleIter it t i)(ht:s.heap.IsTuple t items)(hx:items[i]?=some x)(ia:∀h',h'.IsTupleIter it t (i+1)→Heap.SameBut it s.heap h'→Q x { s with heap:=h' }):wpAny (model prog w) A (Builtin.SmallTypes.nextOf (.ref it)) Q E s:=by
 obtain⟨o,ho,hc,hd⟩:=id hit;obtain⟨ol,zN,_,nl,qt⟩:=ht;unfold Builtin.SmallTypes.nextOf
 refine wpAny_bind (wpAny_callSpecial?_slot (name:=Str.ofString "__next__") hit.typeIs F.slot_tuple_iterator_next
  (wpAny_call_entry F.slot_tuple_iterator_next hit.typeIs F.entry_tuple_iterator_next ?_ (F.args_tuple_iterator_next_1 _)))
 show wpAny _ _ (field (.ref it) 0>>=_) _ _ s;refine wpAny_bind (wpAny_field ho hd (x:=.ref t) rfl ?_);show wpAny _ _ (if(Value.ref t==Value.none)=true then _ else _) _ _ s;rw[if_neg (show¬((Value.ref t==Value.none)=true)from Bool.false_ne_true)];show wpAny _ _ (field (.ref it) 1>>=_) _ _ s;refine wpAny_bind (wpAny_field ho hd (x:=.int i 0) rfl ?_);show wpAny _ _ (seqItems? (.ref t)>>=_) _ _ s;refine wpAny_bind (wpAny_seqItems zN qt ?_);simp only[Int.toNat_natCast,hx];refine wpAny_bind (wpAny_setField ho hd (by simp) (wpAny_pure ⟨x,rfl,wpAny_pure (ia _ ?_ (Heap.SameBut.update ..))⟩));exact⟨_,Heap.get?_update_self _ ho (Obj.isFreed_of_fields (Obj.data_mapFields hd _)),(Obj.cls_mapFields ..).trans hc,by
  rw[Obj.data_mapFields hd];simp[rawInt]⟩
theorem R4{it t:Addr}{i:Nat}{items:Array Value}{Q:Value→Shared→Prop}(hh:A.handled=none)(hit:s.heap.IsTupleIter it t i)(ht:s.heap.IsTuple t items)(hx:items[i]?=none)(hE:∀h' e,Heap.ExtBut it s.heap h'→(∃o,h'.get? e=some o∧o.cls=.type "StopIteration")→E (.ref e) { s with heap:=h' }):wpAny (model prog w) A (Builtin.SmallTypes.nextOf (.ref it)) Q E s:=by
 obtain⟨o,ho,hc,hd⟩:=id hit;obtain⟨ol,zN,_,nl,qt⟩:=ht;unfold Builtin.SmallTypes.nextOf
 refine wpAny_bind (wpAny_callSpecial?_slot (name:=Str.ofString "__next__") hit.typeIs F.slot_tuple_iterator_next
  (wpAny_call_entry F.slot_tuple_iterator_next hit.typeIs F.entry_tuple_iterator_next ?_ (F.args_tuple_iterator_next_1 _)))
 show wpAny _ _ (field (.ref it) 0>>=_) _ _ s;refine wpAny_bind (wpAny_field ho hd (x:=.ref t) rfl ?_);show wpAny _ _ (if(Value.ref t==Value.none)=true then _ else _) _ _ s;rw[if_neg (show¬((Value.ref t==Value.none)=true)from Bool.false_ne_true)];show wpAny _ _ (field (.ref it) 1>>=_) _ _ s;refine wpAny_bind (wpAny_field ho hd (x:=.int i 0) rfl ?_);show wpAny _ _ (seqItems? (.ref t)>>=_) _ _ s;refine wpAny_bind (wpAny_seqItems zN qt ?_);simp only[Int.toNat_natCast,hx];refine wpAny_bind (wpAny_rule (wpAny_bind (wpAny_setField ho hd (by simp) ?_)));show wpAny _ _ (newExc (.type "StopIteration") []>>=_) _ _ _;refine wpAny_bind ?_;simp only[newExc,newTuple];refine wpAny_bind (wpAny_newObj_type ?_ (by size_fits));refine wpAny_bind (m:=firstArgMember _ _) (wpAny_of_eq (a:=Value.none) (by first|rfl|(simp only[firstArgMember];rfl)) ?_);refine wpAny_newObj_type ?_ (by size_fits);simp only[raiseNew];refine wpAny_bind (wpAny_handled ?_)
 first|rw[show A.in1.handled=none from hh]|rw[hh]
 refine wpAny_bind (wpAny_pure (wpAny_throw ?_));exact hE _ _ (((Heap.SameBut.update ..).extBut.push _).push _) ⟨_,Heap.get?_push_size _ rfl,rfl⟩
theorem El(hh:A.handled=none)(it l:Addr)(zL:l≠it)(items:Array Value) :
  Draws prog w A it [it,l] items.size (fun i v=>items[i]?=some v) (fun i h=>h.IsTupleIter it l i∧h.IsTuple l items) where
 live:=fun _ _ st=>let⟨o,ho,_⟩:=st.1;⟨o,ho⟩
 frame:=fun _ _ _ st hk=>⟨st.1.at fun o e=>hk it (by simp) o e,st.2.at fun o e=>hk l (by simp) o e⟩
 item:=fun i s Q E hi st ia=>by refine R5 st.1 st.2 (x:=items[i]) (by simp[hi]) fun h' Oa fR=>?_;exact ia _ h' s.toks (by simp[hi]) ⟨Oa,st.2.extBut fR.extBut zL⟩ fR
 done:=fun s Q E st hE=>R4 hh st.1 st.2 (by simp) hE
structure qc(z TI b2 bJ bN:Addr)(f1 f2:List Addr):Prop where
 TIz:TI≠z
 TOz:b2≠z
 TITO:TI≠b2
 TIi1:TI≠bJ
 TIi2:TI≠bN
 TOi1:b2≠bJ
 TOi2:b2≠bN
 i1z:bJ≠z
 i2z:bN≠z
 i12:bJ≠bN
 zf:z∉f1
 EJ:b2∉f1
 Nl:bN∉f1
 zh:z∉f2
 zg:b2∉f2
 EK:bJ∉f2
theorem j9{aE:List Addr}{n:Nat}{P:Nat→Value→Prop}{St:Nat→Heap→Prop}{it b:Addr}{h h':Heap}{i:Nat}(D:Draws prog w A it aE n P St)(st:St i h)(hs:Heap.SameBut b h h')(hb:b∉aE):St i h':=
 D.frame i h h' st fun c hc o e=>hs.extBut c o (fun z=>hb (z▸hc)) e
theorem YB {z TI b2 bJ bN:Addr} {f1 f2:List Addr} {cG cD i:Nat} {kB kC:Nat→Value→Prop} {iQ iR:Nat→Heap→Prop} {a b:Value} {Q:Value→Shared→Prop} (hq:Draws prog w A bJ f1 cG kB iQ) (gQ:Draws prog w A bN f2 cD kC iR) (ap:qc z TI b2 bJ bN f1 f2)(bx:IsZip s.heap z TI b2 .none) (ib:IsPair s.heap TI (.ref bJ) (.ref bN)) (iA:IsPair s.heap b2 a b) (h1:iQ i s.heap) (h2:iR i s.heap) (eG:i<cG) (cL:i<cD)(ia:∀x y h' dv,kB i x→kC i y→IsZip h' z TI b2 (rawInt s.heap.objs.size)→IsPair h' b2 x y→iQ (i+1) h'→iR (i+1) h'→IsPair h' s.heap.objs.size x y→h'.objs.size=s.heap.objs.size+1→
    (∀c o,c≠z→c≠b2→c≠bJ→c≠bN→s.heap.get? c=some o→h'.get? c=some o)→Q (.ref s.heap.objs.size) { s with heap:=h',toks:=dv }) :
  wpAny (model prog w) A (Builtin.«zip.__next__» ⟨[.ref z],[]⟩) (fun fin s'=>∃v,fin=.done (.ret v)∧Q v s') E s:=by
 show wpAny _ _ (field (.ref z) 2>>=_) _ _ _;refine wpAny_bind (wpAny_field bx rfl (x:=.bool false) rfl ?_);show wpAny _ _ (field (.ref z) 3>>=_) _ _ _;refine wpAny_bind (wpAny_field bx rfl (x:=.ref TI) rfl ?_);refine wpAny_bind (wpAny_seqItems ib rfl ?_);show wpAny _ _ (Builtin.SmallTypes.ownedTupleIsFree (.ref z)>>=_) _ _ _;refine wpAny_bind ?_;unfold Builtin.SmallTypes.ownedTupleIsFree;refine wpAny_bind (wpAny_field bx rfl (x:=.none) rfl (wpAny_pure ?_));simp only[if_true];refine wpAny_bind (wpAny_rule ?_);refine wpAny_bind (wpAny_field bx rfl (x:=.ref b2) rfl ?_);refine wpAny_bind (wpAny_setField_rec bx (by simp) fun jM nu kL=>?_);replace nu:IsZip jM z TI b2 .ellipsis:=nu;refine wpAny_bind ?_;simp only[List.zipIdx_cons,List.zipIdx_nil,List.forIn_cons,List.forIn_nil];refine wpAny_bind (wpAny_bind (wpAny_onRaise ?_));show wpAny _ _ (Builtin.SmallTypes.nextOf (.ref bJ)>>=_) _ _ _;refine wpAny_bind (hq.item i _ _ _ eG (j9 hq h1 kL ap.zf) fun x kM JI hx Jb jL=>wpAny_pure ?_);have sz:IsPair kM b2 a b:=jL.extBut _ _ ap.TOi1 (kL.extBut _ _ ap.TOz iA);refine wpAny_bind (wpAny_seqItems sz rfl ?_);refine wpAny_bind (wpAny_updateSeq_pair sz fun lB vl ke=>?_);replace vl:IsPair lB b2 x b:=vl;refine wpAny_bind (wpAny_letGo (wpAny_pure ?_));refine wpAny_bind (wpAny_bind (wpAny_onRaise ?_));show wpAny _ _ (Builtin.SmallTypes.nextOf (.ref bN)>>=_) _ _ _;have V7:iR i lB:=j9 gQ (j9 gQ (j9 gQ h2 kL ap.zh) jL ap.EK) ke ap.zg;refine wpAny_bind (gQ.item i _ _ _ cL V7 fun y sP aal cK We nr=>wpAny_pure ?_);have FX:IsPair sP b2 x b:=nr.extBut _ _ ap.TOi2 vl;refine wpAny_bind (wpAny_seqItems FX rfl ?_);refine wpAny_bind (wpAny_updateSeq_pair FX fun gZ vm nt=>?_);replace vm:IsPair gZ b2 x y:=vm;refine wpAny_bind (wpAny_letGo (wpAny_pure (wpAny_pure ?_)));refine wpAny_bind (wpAny_seqItems vm rfl ?_);refine wpAny_bind (wpAny_newTuple ?_);have hsz:gZ.objs.size=s.heap.objs.size:=by rw[nt.1,nr.1,ke.1,jL.1,kL.1]
 have Gj:IsZip gZ z TI b2 .ellipsis:=nt.extBut _ _ ap.TOz.symm (nr.extBut _ _ ap.i2z.symm (ke.extBut _ _ ap.TOz.symm (jL.extBut _ _ ap.i1z.symm nu)));have Og:∀c o,c≠z→c≠b2→c≠bJ→c≠bN→s.heap.get? c=some o→gZ.get? c=some o:=fun c o ck eE gT l6 e=>
  nt.extBut _ _ eE (nr.extBut _ _ l6 (ke.extBut _ _ eE (jL.extBut _ _ gT (kL.extBut _ _ ck e))))
 have V6:iQ (i+1) gZ:=j9 hq (j9 hq (j9 hq Jb ke ap.EJ) nr ap.Nl) nt ap.EJ;have V8:iR (i+1) gZ:=j9 gQ We nt ap.zg;have Gg:z<gZ.objs.size:=Heap.lt_size Gj;show wpAny _ _ (Builtin.SmallTypes.ownedTupleHandOut (.ref z) (.ref gZ.objs.size)>>=_) _ _ _;refine wpAny_bind ?_;unfold Builtin.SmallTypes.ownedTupleHandOut;have OL:IsZip (gZ.push { cls:=.type "tuple",data:=.seq #[x,y] }) z TI b2 .ellipsis:=Heap.get?_push_of_some _ Gj;refine wpAny_bind (wpAny_setField_rec OL (by simp) fun ON zW zP=>?_);replace zW:IsZip ON z TI b2 (rawInt gZ.objs.size):=zW;refine wpAny_setField_rec zW (by simp) fun sQ vw zQ=>?_;replace vw:IsZip sQ z TI b2 (rawInt gZ.objs.size):=vw;have up:∀c o,c≠z→gZ.get? c=some o→sQ.get? c=some o:=fun c o ck e=>zQ.extBut _ _ ck (zP.extBut _ _ ck (Heap.get?_push_of_some _ e));have FZ:IsPair sQ gZ.objs.size x y:=zQ.extBut _ _ (Nat.ne_of_gt Gg) (zP.extBut _ _ (Nat.ne_of_gt Gg) (Heap.get?_push_size _ rfl));have Gf:sQ.objs.size=gZ.objs.size+1:=by rw[zQ.1,zP.1,Heap.size_push]
 rw[hsz]at vw FZ Gf;refine wpAny_pure ⟨_,rfl,?_⟩;show Q (.ref gZ.objs.size) _;rw[hsz];exact ia x y sQ _ hx cK vw (up _ _ ap.TOz vm) (hq.frame _ _ _ V6 fun c hc o e=>up c o (fun q=>ap.zf (q▸hc)) e) (gQ.frame _ _ _ V8 fun c hc o e=>up c o (fun q=>ap.zh (q▸hc)) e) FZ Gf fun c o ck eE gT l6 e=>up c o ck (Og c o ck eE gT l6 e)
theorem YA{z TI b2 bJ bN:Addr}{f1 f2:List Addr}{cG cD i:Nat}{kB kC:Nat→Value→Prop}{iQ iR:Nat→Heap→Prop}{a b:Value}{Q:Fin→Shared→Prop}(hq:Draws prog w A bJ f1 cG kB iQ)(gQ:Draws prog w A bN f2 cD kC iR)(ap:qc z TI b2 bJ bN f1 f2)(bx:IsZip s.heap z TI b2 .none)(ib:IsPair s.heap TI (.ref bJ) (.ref bN))(iA:IsPair s.heap b2 a b)(h1:iQ i s.heap)(h2:iR i s.heap)(zE:i=cG∨(i<cG∧i=cD))(hE:∀h' e dv,(∀c o,c≠z→c≠b2→c≠bJ→c≠bN→s.heap.get? c=some o→h'.get? c=some o)→(∃o,h'.get? e=some o∧o.cls=.type "StopIteration")→E (.ref e) { s with heap:=h',toks:=dv }) :
  wpAny (model prog w) A (Builtin.«zip.__next__» ⟨[.ref z],[]⟩) Q E s:=by
 show wpAny _ _ (field (.ref z) 2>>=_) _ _ _;refine wpAny_bind (wpAny_field bx rfl (x:=.bool false) rfl ?_);show wpAny _ _ (field (.ref z) 3>>=_) _ _ _;refine wpAny_bind (wpAny_field bx rfl (x:=.ref TI) rfl ?_);refine wpAny_bind (wpAny_seqItems ib rfl ?_);show wpAny _ _ (Builtin.SmallTypes.ownedTupleIsFree (.ref z)>>=_) _ _ _;refine wpAny_bind ?_;unfold Builtin.SmallTypes.ownedTupleIsFree;refine wpAny_bind (wpAny_field bx rfl (x:=.none) rfl (wpAny_pure ?_));simp only[if_true];refine wpAny_bind (wpAny_rule ?_);refine wpAny_bind (wpAny_field bx rfl (x:=.ref b2) rfl ?_);refine wpAny_bind (wpAny_setField_rec bx (by simp) fun jM nu kL=>?_);replace nu:IsZip jM z TI b2 .ellipsis:=nu;refine wpAny_bind ?_;simp only[List.zipIdx_cons,List.zipIdx_nil,List.forIn_cons,List.forIn_nil];refine wpAny_bind (wpAny_bind (wpAny_onRaise ?_));show wpAny _ _ (Builtin.SmallTypes.nextOf (.ref bJ)>>=_) _ _ _;have I6:iQ i jM:=j9 hq h1 kL ap.zf;rcases zE with aj|⟨eG,ax⟩
 ·subst aj;refine wpAny_bind (hq.done _ _ _ I6 fun kM e jL he=>?_);obtain⟨Aq,oO,sD⟩:=he;have Gh:IsZip kM z TI b2 .ellipsis:=jL _ _ ap.i1z.symm nu;have zF:e≠z:=fun x=>by subst x;rw[Gh]at oO;cases oO;simp at sD
  refine wpAny_setField_rec Gh (by simp) fun lB _ ke=>hE lB e s.toks (fun c o ck _ gT _ x=>ke.extBut _ _ ck (jL _ _ gT (kL.extBut _ _ ck x))) ⟨Aq,ke.extBut _ _ zF oO,sD⟩
 ·subst ax;refine wpAny_bind (hq.item _ _ _ _ eG I6 fun x kM JI hx Jb jL=>wpAny_pure ?_);have sz:IsPair kM b2 a b:=jL.extBut _ _ ap.TOi1 (kL.extBut _ _ ap.TOz iA);refine wpAny_bind (wpAny_seqItems sz rfl ?_);refine wpAny_bind (wpAny_updateSeq_pair sz fun lB vl ke=>?_);refine wpAny_bind (wpAny_letGo (wpAny_pure ?_));refine wpAny_bind (wpAny_bind (wpAny_onRaise ?_));show wpAny _ _ (Builtin.SmallTypes.nextOf (.ref bN)>>=_) _ _ _;refine wpAny_bind (gQ.done _ _ _ (j9 gQ (j9 gQ (j9 gQ h2 kL ap.zh) jL ap.EK) ke ap.zg) fun sP e nr he=>?_);obtain⟨Aq,oO,sD⟩:=he;have Gi:IsZip sP z TI b2 .ellipsis:=nr _ _ ap.i2z.symm (ke.extBut _ _ ap.TOz.symm (jL.extBut _ _ ap.i1z.symm nu));have zF:e≠z:=fun x=>by subst x;rw[Gi]at oO;cases oO;simp at sD
  refine wpAny_setField_rec Gi (by simp) fun gZ _ nt=>hE gZ e JI (fun c o ck eE gT l6 x=>nt.extBut _ _ ck (nr _ _ l6 (ke.extBut _ _ eE (jL.extBut _ _ gT (kL.extBut _ _ ck x))))) ⟨Aq,nt.extBut _ _ zF oO,sD⟩
theorem Ui {z TI b2 bJ bN:Addr} {f1 f2:List Addr} {cG cD i:Nat} {kB kC:Nat→Value→Prop} {iQ iR:Nat→Heap→Prop} {a b:Value} {Q:Option Value→Shared→Prop} (hq:Draws prog w A.in1 bJ f1 cG kB iQ) (gQ:Draws prog w A.in1 bN f2 cD kC iR) (ap:qc z TI b2 bJ bN f1 f2)(bx:IsZip s.heap z TI b2 .none) (ib:IsPair s.heap TI (.ref bJ) (.ref bN)) (iA:IsPair s.heap b2 a b) (h1:iQ i s.heap) (h2:iR i s.heap) (eG:i<cG) (cL:i<cD)(ia:∀x y h' dv,kB i x→kC i y→IsZip h' z TI b2 (rawInt s.heap.objs.size)→IsPair h' b2 x y→iQ (i+1) h'→iR (i+1) h'→IsPair h' s.heap.objs.size x y→h'.objs.size=s.heap.objs.size+1→
    (∀c o,c≠z→c≠b2→c≠bJ→c≠bN→s.heap.get? c=some o→h'.get? c=some o)→Q (some (.ref s.heap.objs.size)) { s with heap:=h',toks:=dv }) :
  wpAny (model prog w) A (pyNext (.ref z)) Q E s:=by
 have hA:s.TypeIs (.ref z) "zip":=⟨_,bx,rfl⟩;unfold pyNext
 exact wpAny_bind (wpAny_attempt (wpAny_callSpecial?_slot (name:=Str.ofString "__next__") hA F.slot_zip_next
  (wpAny_call_entry F.slot_zip_next hA F.entry_zip_next
    (YB hq gQ ap bx ib iA h1 h2 eG cL fun x y h' dv a1 a2 e6 gA lZ qe KJ xT KL=>wpAny_pure (ia x y h' dv a1 a2 e6 gA lZ qe KJ xT KL)) (F.args_zip_next_1 _))))
theorem Uh{z TI b2 bJ bN:Addr}{f1 f2:List Addr}{cG cD i:Nat}{kB kC:Nat→Value→Prop}{iQ iR:Nat→Heap→Prop}{a b:Value}{Q:Option Value→Shared→Prop}(hq:Draws prog w A.in1 bJ f1 cG kB iQ)(gQ:Draws prog w A.in1 bN f2 cD kC iR)(ap:qc z TI b2 bJ bN f1 f2)(bx:IsZip s.heap z TI b2 .none)(ib:IsPair s.heap TI (.ref bJ) (.ref bN))(iA:IsPair s.heap b2 a b)(h1:iQ i s.heap)(h2:iR i s.heap)(zE:i=cG∨(i<cG∧i=cD))(ia:∀h' dv,(∀c o,c≠z→c≠b2→c≠bJ→c≠bN→s.heap.get? c=some o→h'.get? c=some o)→Q none { s with heap:=h',toks:=dv }):wpAny (model prog w) A (pyNext (.ref z)) Q E s:=by
 have hA:s.TypeIs (.ref z) "zip":=⟨_,bx,rfl⟩;unfold pyNext
 refine wpAny_bind (wpAny_attempt (wpAny_callSpecial?_slot (name:=Str.ofString "__next__") hA F.slot_zip_next
  (wpAny_call_entry F.slot_zip_next hA F.entry_zip_next (YA hq gQ ap bx ib iA h1 h2 zE fun h' e dv hk he=>?_) (F.args_zip_next_1 _))))
 obtain⟨o,ho,hc⟩:=he;refine wpAny_bind (wpAny_isInstance (T:="StopIteration") (b:=true) ⟨o,ho,hc⟩ isSubtype_stop ?_);exact wpAny_pure (ia _ _ hk)
end
theorem Inv.xc{X:aK}{pins:List (Addr×Obj)}{σ :St}{H:ah}{s:Shared}{h':Heap}{t':Nat}{ch:List Addr}(I:Inv X pins σ H s)(k:∀b o,b∉ch→s.heap.get? b=some o→h'.get? b=some o)(hf:∀b∈ch,jb X pins H b):Inv X pins σ H { s with heap:=h',toks:=t' }:=by
 have nM:∀b u,H b=some u→b∉ch:=fun b u e z=>by rw[(hf b z).1]at e;cases e
 refine I.step (g':=s.gens) (d':=s.drawn) (ch:=ch) (fun b hb=>?_) (fun b o _ _ hc e _=>k b o hc e) (fun b o _ _ hc e _=>⟨o.slots,k b o hc e⟩) (fun _ _ _ _ n=>n)
  (fun b o hc e=>⟨o,k b o hc e⟩) (fun _ _ e=>e) (fun _ _ _ e=>e) (fun b aU e=>⟨#[],by rw[e];simp⟩) (fun m hm=>?_) (fun b u e=>?_) I.bare
 ·obtain⟨_,f1,_,fE,f4,h_⟩:=hf b hb;exact⟨fE,f1,f4,h_⟩
 ·obtain⟨o,ag,du,ho,r⟩:=hm;exact⟨o,ag,du,k _ o (fun z=>(hf _ z).2.1 rfl) ho,r⟩
 ·refine(I.bM b u e).nY (fun c v hc q=>k c v ?_ q) (fun _ q=>q) fun _ _ q=>q;rcases hc with z|z
  ·rw[z];exact nM b u e
  ·exact nM c _ z
theorem Inv.JF{X:aK}{pins:List (Addr×Obj)}{σ :St}{H:ah}{s:Shared}{h':Heap}{t':Nat}{ch:List Addr}{T:Addr}{xs:List V}{its:List Value}(I:Inv X pins σ H s)(k:∀b o,b∉ch→s.heap.get? b=some o→h'.get? b=some o)(hf:∀b∈ch,jb X pins H b)(hA:s.heap.objs.size≤T)(ht:PyProof.Rows.IsTup h' T its.toArray)(b0:Vals xs its)(bx:xs.length≤sizeLine):Inv X pins σ (upd H T (.tup xs)) { s with heap:=h',toks:=t' }:=by
 have nM:∀b u,H b=some u→b∉ch:=fun b u e z=>by rw[(hf b z).1]at e;cases e
 have aJ:H T=none:=I.bM.fresh hA;have neT:∀b o,s.heap.get? b=some o→b≠T:=fun b o e=>Nat.ne_of_lt (Nat.lt_of_lt_of_le (Heap.lt_size e) hA)
 refine I.step (g':=s.gens) (d':=s.drawn) (ch:=ch) (fun b hb=>?_) (fun b o _ _ hc e _=>k b o hc e) (fun b o _ _ hc e _=>⟨o.slots,k b o hc e⟩) (fun b o _ e n=>by rw[dr (neT b o e)];exact n)
  (fun b o hc e=>⟨o,k b o hc e⟩) (fun b ys e=>by rw[dr (jr e aJ)];exact e) (fun b _ _ e=>by rw[dr (jr e aJ)];exact e) (fun b aU e=>⟨#[],by rw[dr (jr e aJ),e];simp⟩) (fun m hm=>?_) (fun b u e=>?_) I.bare
 ·obtain⟨_,f1,_,fE,f4,h_⟩:=hf b hb;exact⟨fE,f1,f4,h_⟩
 ·obtain⟨o,ag,du,ho,r⟩:=hm;exact⟨o,ag,du,k _ o (fun z=>(hf _ z).2.1 rfl) ho,r⟩
 ·by_cases hb:b=T
  ·subst hb;rw[dA]at e;cases e;exact⟨bx,its,b0,ht⟩
  ·rw[dr hb]at e;refine(I.bM b u e).nY (fun c v hc q=>k c v ?_ q) (fun c q=>by rw[dr (jr q aJ)];exact q) fun c ys q=>by rw[dr (jr q aJ)];exact q
   rcases hc with z|z
   ·rw[z];exact nM b u e
   ·exact nM c _ z
noncomputable def xG(x:Str):It:=⟨fun i _=>i<x.cps.size,fun i H v H'=>H'=H∧∃c,x.cps[i]?=some c∧v=.str ⟨#[c]⟩,fun i _=>i=x.cps.size⟩
theorem JU{prog:Program}{w:World}{A:Around}(hh:A.handled=none)(I:Addr)(x:Str)(t:Tok):Walks prog w A I [I] [I] x.cps.size (SignAt x) (fun i h=>h.IsStrIter I (strIterType x) x t i):=by
 unfold strIterType;cases ha:x.cps.all (· <128)
 ·rw[if_neg Bool.false_ne_true];exact Walks.strWide hh I x t
 ·rw[if_pos rfl];exact Walks.strAscii hh I x t
theorem Ek{prog:Program}{w:World}{A:Around}(hh:A.handled=none)(I:Addr)(x:Str)(t:Tok):Draws prog w A I [I] x.cps.size (fun i v=>∃c u,x.cps[i]?=some c∧v=.str ⟨#[c]⟩ u) (fun i h=>h.IsStrIter I (strIterType x) x t i):=by
 unfold strIterType;cases ha:x.cps.all (· <128)
 ·rw[if_neg Bool.false_ne_true];exact Draws.strWide hh I x t
 ·rw[if_pos rfl];exact Draws.strAscii hh I x t
theorem Wa(x:Str):["enumerate","zip","dict_itemiterator","dict_reverseitemiterator","odict_iterator","itertools.zip_longest","itertools.pairwise"].contains (strIterType x)=false:=by
 unfold strIterType
 split<;>decide
theorem W7{P:Program}{w:World}{K:PySem.W.Frag}{bu:Expr}(it:Addr)(x:Str)(t:Tok):Turn P w K bu (xG x) [it] it (fun i h=>h.IsStrIter it (strIterType x) x t i) where
 mem:=by simp
 obj:=fun i h st b hb=>by
  have e:b=it:=by simpa using hb
  subst e;obtain⟨o,e,c,d⟩:=st;exact⟨o,e,fun v z=>by rw[d]at z;cases z⟩
 keep:=fun i h h' st k=>by obtain⟨o,e,r⟩:=st;exact⟨o,k it (by simp) o e,r⟩
 item:=by intro X eb hw hK hc i pins s σ H E I hf st hg;subst eb hw hK;have W:=JU (prog:=X.prog) (w:=X.w) (A:=X.A) (I.ok.hd hc) it x t;refine W.item i s _ _ hg st fun v h' dv hv kX cJ=>?_;obtain⟨c,u,sC,rfl⟩:=hv;have a5:Inv X pins σ H { s with heap:=h',toks:=dv }:=I.xc (ch:=[it]) cJ hf;obtain⟨o,e,ck,d1⟩:=id kX;exact⟨_,rfl,vh (s:={ s with heap:=h',toks:=dv }) e ck d1 (Wa x) ⟨.str ⟨#[c]⟩,H,a5,⟨u,rfl⟩,⟨rfl,c,sC,rfl⟩,kX,fun b hb=>(hf b hb).1⟩⟩
 done:=by intro X eb hw hK hc i pins s σ H E I hf st hg;subst eb hw hK;have W:=JU (prog:=X.prog) (w:=X.w) (A:=X.A) (I.ok.hd hc) it x t;have hi:i=x.cps.size:=hg;subst hi;exact W.done s _ _ st fun h' dv cJ=>⟨rfl,I.xc (ch:=[it]) cJ hf⟩
 self:=fun A i s Q E st h=>by
  unfold strIterType at st;cases ha:x.cps.all (· <128)
  ·rw[ha,if_neg Bool.false_ne_true]at st;exact wpAny_pyIter_striter_wide st h
  ·rw[ha,if_pos rfl]at st;exact wpAny_pyIter_striter_ascii st h
section
variable{X:aK}{bu:Expr}
def Gp(fK:TE):TI:=fun σ H R=>fK σ H fun v H1=>∃x,v=.str x∧R (xG x) H1
theorem TF{l:Expr}{fK:TE}(hl:a3 X l fK):f_ X bu l (Gp fK):=by
 intro pins s σ H R I h;refine bI (hl pins s σ H _ I h) fun v s1⟨y,H1,a5,av,aY⟩=>?_;obtain⟨x,e,q⟩:=aY;subst e;obtain⟨t,rfl⟩:=av;refine wpAny_pyIter_strU ?_;refine⟨s1.heap.objs.size,[s1.heap.objs.size],_,_,H1,rfl,a5.kept (t':=s1.toks) fun b o e=>Heap.get?_push_of_some _ e,W7 _ x t,⟨_,Heap.get?_push_size _ rfl,rfl,rfl⟩,fun b hb=>?_,q⟩;have e:b=s1.heap.objs.size:=by simpa using hb
 subst e;exact a5.nc (Nat.le_refl _) (a5.bM.fresh (Nat.le_refl _))
end
noncomputable def xF(K:PySem.W.Frag)(l:Addr):It:=⟨fun i H=>∃xs x,bS K H l xs∧xs[i]?=some x,fun i H v H'=>∃p x,H p=none∧H'=upd H p (.tup [.int (i:Int),x])∧v=.ref p∧∀xs,bS K H l xs→xs[i]?=some x,fun i H=>∃xs,bS K H l xs∧xs.length=i⟩
theorem W4{P:Program}{w:World}{K:PySem.W.Frag}{elts:List Expr}{cJ:Nat}{pos:Pos}(e it l:Addr)(F2:e≠it) :
  Turn P w K (.Tuple elts cJ pos) (xF K l) [e,it] e (fun i h=>(∃old,IsEnum h e it i old)∧h.IsListIter it l i) where
 mem:=by simp
 obj:=fun i h st b hb=>by
  obtain⟨⟨old,he⟩,o,aj,c,d⟩:=st;rcases List.mem_cons.mp hb with z|z
  ·subst z;exact⟨_,he,fun v z=>by have gj:Data.fields _=Data.cell v:=z;cases gj⟩
  ·have z:b=it:=by simpa using z
   subst z;exact⟨o,aj,fun v z=>by rw[d]at z;cases z⟩
 keep:=fun i h h' st k=>by obtain⟨⟨old,he⟩,hit⟩:=st;exact⟨⟨old,k e (by simp) _ he⟩,hit.at fun o x=>k it (by simp) o x⟩
 item:=by
  intro X eb hw hK hc i pins s σ H E I hf st hg;subst eb hw hK;obtain⟨xs,x,aO,hx⟩:=hg;obtain⟨its,b0,pl,bx⟩:=I.list aO;obtain⟨⟨old,he⟩,hit⟩:=st;have fQ:=pl.isList;have hle:l≠e:=fun z=>by subst z;obtain⟨o,ho,iX,_⟩:=fQ;rw[he]at ho;cases ho;have iX:Value.type "enumerate"=Value.type "list":=iX;injection iX with iX;exact absurd iX (by decide)
  have vr:l≠it:=fun z=>by subst z;obtain⟨o,ho,iX,_⟩:=fQ;obtain⟨cg,ho',md,_⟩:=hit;rw[ho']at ho;cases ho;rw[iX]at md;injection md with md;exact absurd md (by decide)
  have W:=WalksT.enumerate (prog:=X.prog) (w:=X.w) (A:=X.A) (I.ok.hd hc) e it l F2 hle vr its.toArray;have hlen:=b0.length;have zI:i<xs.length:=(List.getElem?_eq_some_iff.mp hx).1;refine W.item i s _ _ (by rw[List.size_toArray,←hlen];exact zI) ⟨⟨old,he⟩,hit,fQ⟩ fun T vals h' dv eb hA NN vi hk=>?_;obtain⟨t,u,hu,rfl⟩:=eb;obtain⟨iH,zS,ef⟩:=b0.get hx;have iw:iH=u:=by rw[List.getElem?_toArray]at hu;rw[zS]at hu;exact Option.some.inj hu
  subst iw;refine⟨_,rfl,?_⟩;refine W.go elts cJ pos i T { s with heap:=h',toks:=dv } _ _ vi fun h2 kj nj=>?_;have FY:T∉[e,it]:=W.apart i T h' vi;have keep:∀b o,b∉[e,it]→s.heap.get? b=some o→h2.get? b=some o:=fun b o hb q=>nj b o hb (hk b o hb q);have zR:PyProof.Rows.IsTup h2 T (#[.int i t,iH]:Array Value):=by obtain⟨o,ho,r⟩:=NN;exact⟨o,nj T o FY ho,r⟩
  have aJ:H T=none:=I.bM.fresh hA;have cc:Inv X pins σ (upd H T (.tup [.int (i:Int),x])) { s with heap:=h2,toks:=dv }:=I.JF (its:=[.int i t,iH]) (ch:=[e,it]) keep hf hA zR (.cons ⟨t,rfl⟩ (.cons ef .nil)) (by show 2≤sizeLine;decide);refine⟨.ref T,upd H T (.tup [.int (i:Int),x]),cc,rfl,⟨T,x,aJ,rfl,rfl,fun ys cK=>by rw[I.Ad cK aO];exact hx⟩,⟨kj.1,kj.2.1⟩,fun b hb=>?_⟩;have nb:b≠T:=fun z=>FY (z▸hb);rw[dr nb];exact(hf b hb).1
 done:=by
  intro X eb hw hK hc i pins s σ H E I hf st hg;subst eb hw hK;obtain⟨xs,aO,hx⟩:=hg;obtain⟨its,b0,pl,bx⟩:=I.list aO;obtain⟨⟨old,he⟩,hit⟩:=st;have fQ:=pl.isList;have hle:l≠e:=fun z=>by subst z;obtain⟨o,ho,iX,_⟩:=fQ;rw[he]at ho;cases ho;have iX:Value.type "enumerate"=Value.type "list":=iX;injection iX with iX;exact absurd iX (by decide)
  have vr:l≠it:=fun z=>by subst z;obtain⟨o,ho,iX,_⟩:=fQ;obtain⟨cg,ho',md,_⟩:=hit;rw[ho']at ho;cases ho;rw[iX]at md;injection md with md;exact absurd md (by decide)
  have W:=WalksT.enumerate (prog:=X.prog) (w:=X.w) (A:=X.A) (I.ok.hd hc) e it l F2 hle vr its.toArray;have iv:i=its.toArray.size:=by rw[List.size_toArray,←b0.length];exact hx.symm
  subst iv;exact W.done s _ _ ⟨⟨old,he⟩,hit,fQ⟩ fun h' dv cJ=>⟨rfl,I.xc (ch:=[e,it]) cJ hf⟩
 self:=fun A i s Q E st h=>by obtain⟨⟨old,he⟩,_⟩:=st;exact wpAny_pyIter_enum he h
section
variable{X:aK}{elts:List Expr}{cJ:Nat}{rJ:Pos}
noncomputable def Gk(K:PySem.W.Frag)(cb:es):TI:=fun σ H R=>cb σ H fun vs H1=>∃l,vs=[.ref l]∧(∃xs,bS K H1 l xs)∧R (xF K l) H1
theorem TA{a:Expr}{cb:es}{p pos:Pos}(hg:da X "enumerate")(hm:X.mg "enumerate"=none)(ha:eR X [a] cb)(hs:starEach [a] X.env=[(false,eval a X.env)]:=by rfl):f_ X (.Tuple elts cJ rJ) (.Call (.Name "enumerate" p) [a] [] pos) (Gk X.K cb):=by
 have hb:bootBuiltins "enumerate"=some (.type "enumerate"):=by kernel_rfl
 intro pins s σ H R I h;refine PyProof.Rows.Call_ (o1 I hg hm hb (PyProof.Rows.callWith_type1 (bI (ha pos pins s σ H _ I h) fun us s1⟨vs,H1,a5,av,aY⟩=>?_) hs rfl));obtain⟨l,e,⟨xs,aO⟩,q⟩:=aY;subst e;obtain⟨u,rfl,ef⟩:=vals1 av;cases ef;obtain⟨its,b0,pl,bx⟩:=a5.list aO;refine call_enumerate_list pl.isList fun h' he hit hsz hk=>?_;have cc:Inv X pins σ H1 { s1 with heap:=h' }:=a5.kept (t':=s1.toks) hk;refine wpAny_pyIter_enum he ?_;refine⟨s1.heap.objs.size+1,[s1.heap.objs.size+1,s1.heap.objs.size],_,_,H1,rfl,cc,W4 _ _ l (Nat.succ_ne_self _),⟨⟨_,he⟩,hit⟩,fun b hb=>?_,q⟩;have hb:b=s1.heap.objs.size+1∨b=s1.heap.objs.size:=by simpa using hb
 rcases hb with z|z
 ·subst z;exact a5.nc (Nat.le_succ _) (a5.bM.fresh (Nat.le_succ _))
 ·subst z;exact a5.nc (Nat.le_refl _) (a5.bM.fresh (Nat.le_refl _))
end
abbrev xr(h:Heap)(x:Str)(t:Tok):Heap:=h.push { cls:=.type (strIterType x),data:=.fields #[.str x t,.int 0 0] }
abbrev xt(h:Heap)(x:Str)(t:Tok)(l:Addr):Heap:=(xr h x t).push { cls:=.type "tuple_iterator",data:=.fields #[.ref l,.int 0 0] }
abbrev xu(h:Heap)(x:Str)(t:Tok)(l:Addr):Heap:=(xt h x t l).push { cls:=.type "tuple",data:=.seq #[.ref h.objs.size,.ref (xr h x t).objs.size] }
abbrev xv(h:Heap)(x:Str)(t:Tok)(l:Addr):Heap:=(xu h x t l).push { cls:=.type "tuple",data:=.seq #[.none,.none] }
abbrev pX(h:Heap)(x:Str)(t:Tok)(l:Addr):Heap:=(xv h x t l).push { cls:=.type "zip",data:=.fields #[.none,.bool false,.bool false,.ref (xt h x t l).objs.size,.ref (xu h x t l).objs.size] }
set_option maxHeartbeats 4000000 in
theorem RE(x:Str)(t:Tok)(cL:Addr)(ys:Array Value) :
  Meets (Builtin.«zip.__new__» ⟨[.type "zip",.str x t,.ref cL],[]⟩) (fun _ R s=>s.heap.IsTuple cL ys∧R (.ok (.ret (.ref (xv s.heap x t cL).objs.size))) { s with heap:=pX s.heap x t cL }):=
 .of_wp fun prog w A R s h=>by
   obtain⟨hp,g,d,dv,os⟩:=s;obtain⟨sI,h⟩:=h;have Zm:=sub_zip;have NJ:Heap.IsTuple (Shared.heap ⟨hp.push { cls:=.type (strIterType x),data:=.fields #[.str x t,.int 0 0] },g,d,dv,os⟩) cL ys:=Heap.IsTuple.push sI _
   wp_walk using wpAny_pyIter_strU,wpAny_pyIter_tuple NJ
   exact⟨_,rfl,h⟩
theorem Lw {prog:Program} {w:World} {A:Around} {E:Value→Shared→Prop} {s:Shared} {x:Str} {t:Tok} {cL:Addr} {ys:Array Value} {Q:Value→Shared→Prop} (sI:s.heap.IsTuple cL ys)(h:∀h',IsZip h' (s.heap.objs.size+4) (s.heap.objs.size+2) (s.heap.objs.size+3) .none→IsPair h' (s.heap.objs.size+2) (.ref s.heap.objs.size) (.ref (s.heap.objs.size+1))→
    IsPair h' (s.heap.objs.size+3) .none .none→h'.IsStrIter s.heap.objs.size (strIterType x) x t 0→h'.IsTupleIter (s.heap.objs.size+1) cL 0→h'.objs.size=s.heap.objs.size+5→
    (∀c o,s.heap.get? c=some o→h'.get? c=some o)→Q (.ref (s.heap.objs.size+4)) { s with heap:=h' }) :
  wpAny (model prog w) A (call (.type "zip") [.str x t,.ref cL]) Q E s:=by
 refine callType_new F.called_zip (by decide) (F.typeCall_zip_2 _ _) (F.newCall_zip_2 _ _) (fun obj=>F.args_object_init_3 obj _ _) F.entry_zip_new (RE x t cL ys) ⟨sI,?_⟩;have a6:(xr s.heap x t).objs.size=s.heap.objs.size+1:=Heap.size_push ..;have aW:(xt s.heap x t cL).objs.size=s.heap.objs.size+2:=by rw[Heap.size_push,a6]
 have gx:(xu s.heap x t cL).objs.size=s.heap.objs.size+3:=by rw[Heap.size_push,aW]
 have k4:(xv s.heap x t cL).objs.size=s.heap.objs.size+4:=by rw[Heap.size_push,gx]
 have pV:(pX s.heap x t cL).objs.size=s.heap.objs.size+5:=by rw[Heap.size_push,k4]
 have nd:(pX s.heap x t cL).get? (xv s.heap x t cL).objs.size=some _:=Heap.get?_push_size _ rfl;have ly:(pX s.heap x t cL).get? (xu s.heap x t cL).objs.size=some _:=Heap.get?_push_of_some _ (Heap.get?_push_size _ rfl);have g3:(pX s.heap x t cL).get? (xt s.heap x t cL).objs.size=some _:=Heap.get?_push_of_some _ (Heap.get?_push_of_some _ (Heap.get?_push_size _ rfl));have g2:(pX s.heap x t cL).get? (xr s.heap x t).objs.size=some _:=Heap.get?_push_of_some _ (Heap.get?_push_of_some _ (Heap.get?_push_of_some _ (Heap.get?_push_size _ rfl)));have g1:(pX s.heap x t cL).get? s.heap.objs.size=some _:=Heap.get?_push_of_some _ (Heap.get?_push_of_some _ (Heap.get?_push_of_some _ (Heap.get?_push_of_some _ (Heap.get?_push_size _ rfl))));show _∧_;rw[aW,gx,k4]at nd;rw[a6,aW]at g3;rw[gx]at ly;rw[a6]at g2;rw[k4];exact⟨⟨_,nd,rfl⟩,h _ nd g3 ly ⟨_,g1,rfl,rfl⟩ ⟨_,g2,rfl,rfl⟩ pV fun c o x=>
  Heap.get?_push_of_some _ (Heap.get?_push_of_some _ (Heap.get?_push_of_some _ (Heap.get?_push_of_some _ (Heap.get?_push_of_some _ x))))⟩
noncomputable def xI(K:PySem.W.Frag)(x:Str)(l:Addr):It:=⟨fun i H=>i<x.cps.size∧∃ys y,cv K H l ys∧ys[i]?=some y,
 fun i H v H'=>∃p c y,x.cps[i]?=some c∧H p=none∧H'=upd H p (.tup [.str ⟨#[c]⟩,y])∧v=.ref p∧∀ys,cv K H l ys→ys[i]?=some y,
 fun i H=>∃ys,cv K H l ys∧i=min x.cps.size ys.length⟩
structure Ds(z TI b2 bJ bN:Addr):Prop where
 TIz:TI≠z
 TOz:b2≠z
 TITO:TI≠b2
 TIi1:TI≠bJ
 TIi2:TI≠bN
 TOi1:b2≠bJ
 TOi2:b2≠bN
 i1z:bJ≠z
 i2z:bN≠z
 i12:bJ≠bN
theorem W9{P:Program}{w:World}{K:PySem.W.Frag}{elts:List Expr}{cJ:Nat}{pos:Pos}(x:Str)(t:Tok)(l z TI b2 bJ bN:Addr)(ap:Ds z TI b2 bJ bN) :
  Turn P w K (.Tuple elts cJ pos) (xI K x l) [z,TI,b2,bJ,bN] z (fun i h=>IsZip h z TI b2 .none∧IsPair h TI (.ref bJ) (.ref bN)∧(∃a b,IsPair h b2 a b)∧h.IsStrIter bJ (strIterType x) x t i∧h.IsTupleIter bN l i) where
 mem:=by simp
 obj:=fun i h st b hb=>by
  obtain⟨bx,ib,⟨a,ov,iA⟩,⟨cy,aj,ck,d1⟩,b_,ax,eE,cC⟩:=st;have hb:b=z∨b=TI∨b=b2∨b=bJ∨b=bN:=by simpa using hb
  rcases hb with q|q|q|q|q<;>subst q
  ·exact⟨_,bx,fun v z=>by have gj:Data.fields _=Data.cell v:=z;cases gj⟩
  ·exact⟨_,ib,fun v z=>by have gj:Data.seq _ _=Data.cell v:=z;cases gj⟩
  ·exact⟨_,iA,fun v z=>by have gj:Data.seq _ _=Data.cell v:=z;cases gj⟩
  ·exact⟨cy,aj,fun v z=>by rw[d1]at z;cases z⟩
  ·exact⟨b_,ax,fun v z=>by rw[cC]at z;cases z⟩
 keep:=fun i h h' st k=>by obtain⟨bx,ib,⟨a,ov,iA⟩,⟨cy,aj,av⟩,b_,ax,bg⟩:=st;exact⟨k z (by simp) _ bx,k TI (by simp) _ ib,⟨a,ov,k b2 (by simp) _ iA⟩,⟨cy,k bJ (by simp) _ aj,av⟩,b_,k bN (by simp) _ ax,bg⟩
 item:=by
  intro X eb hw hK hc i pins s σ H E I hf st hg;subst eb hw hK;obtain⟨hi,ys,y,aO,cK⟩:=hg;obtain⟨its,b0,ht,OI⟩:=I.tuple aO;obtain⟨bx,ib,⟨a,ov,iA⟩,vu,hs2⟩:=st;have nl:∀b∈[z,TI,b2,bJ,bN],l≠b:=fun b hb q=>by
   subst q;rcases aO with(h|⟨o,h⟩)|⟨o,P1,n,h,_⟩
   ·rw[(hf l hb).1]at h;cases h
   ·rw[(hf l hb).1]at h;cases h
   ·have h1:=I.ok.mod.oX l o h;rcases(hf l hb).2.2.2.1 with q|q
    ·exact I.ok.pn l o h1 q
    ·exact absurd (Nat.lt_of_lt_of_le (Heap.lt_size (I.ok.bs l o h1).1) q) (Nat.lt_irrefl _)
  have hh:X.A.in1.handled=none:=I.ok.hd hc;have hq:=Ek (prog:=X.prog) (w:=X.w) (A:=X.A.in1) hh bJ x t;have gQ:=El (prog:=X.prog) (w:=X.w) (A:=X.A.in1) hh bN l (nl bN (by simp)) its.toArray;have hlen:=b0.length;have zI:i<ys.length:=(List.getElem?_eq_some_iff.mp cK).1
  have qh:qc z TI b2 bJ bN [bJ] [bN,l]:=⟨ap.TIz,ap.TOz,ap.TITO,ap.TIi1,ap.TIi2,ap.TOi1,ap.TOi2,ap.i1z,ap.i2z,ap.i12,by simpa using ap.i1z.symm,by simpa using ap.TOi1,by simpa using ap.i12.symm,
   by simp only[List.mem_cons,List.not_mem_nil,or_false,not_or];exact⟨ap.i2z.symm,(nl z (by simp)).symm⟩,by simp only[List.mem_cons,List.not_mem_nil,or_false,not_or];exact⟨ap.TOi2,(nl b2 (by simp)).symm⟩,by simp only[List.mem_cons,List.not_mem_nil,or_false,not_or];exact⟨ap.i12,(nl bJ (by simp)).symm⟩⟩
  refine Ui hq gQ qh bx ib iA vu ⟨hs2,ht⟩ hi (by rw[List.size_toArray,←hlen];exact zI) fun xd JJ h' dv dG bW a1 a2 e6 gA lZ qe hk=>?_;obtain⟨c,t1,N0,rfl⟩:=dG;obtain⟨iH,zS,ef⟩:=b0.get cK;have iw:iH=JJ:=by rw[List.getElem?_toArray]at bW;rw[zS]at bW;exact Option.some.inj bW
  subst iw;refine⟨_,rfl,?_⟩;refine wpAny_letOwnedTupleGo_zip a1 fun h2 OJ qw=>?_;have Wj:∀b∈[z,TI,b2,bJ,bN],b<s.heap.objs.size:=fun b hb=>by
   have hb:b=z∨b=TI∨b=b2∨b=bJ∨b=bN:=by simpa using hb
   obtain⟨cy,aj,_⟩:=vu;obtain⟨b_,ax,_⟩:=hs2;rcases hb with q|q|q|q|q<;>subst q
   ·exact Heap.lt_size bx
   ·exact Heap.lt_size ib
   ·exact Heap.lt_size iA
   ·exact Heap.lt_size aj
   ·exact Heap.lt_size ax
  have Hr:∀b∈[z,TI,b2,bJ,bN],b≠s.heap.objs.size:=fun b hb=>Nat.ne_of_lt (Wj b hb);have keep:∀b o,b∉[z,b2,bJ,bN]→s.heap.get? b=some o→h2.get? b=some o:=fun b o hb q=>by have hb:¬(b=z∨b=b2∨b=bJ∨b=bN):=fun w=>hb (by simpa using w);exact qw.extBut b o (fun w=>hb (.inl w)) (hk b o (fun w=>hb (.inl w)) (fun w=>hb (.inr (.inl w))) (fun w=>hb (.inr (.inr (.inl w)))) (fun w=>hb (.inr (.inr (.inr w)))) q)
  have zR:PyProof.Rows.IsTup h2 s.heap.objs.size ([.str ⟨#[c]⟩ t1,iH]:List Value).toArray:=⟨_,qw.extBut _ _ (Hr z (by simp)).symm lZ,rfl,_,rfl⟩;have aJ:H s.heap.objs.size=none:=I.bM.fresh (Nat.le_refl _);have cc:Inv X pins σ (upd H s.heap.objs.size (.tup [.str ⟨#[c]⟩,y])) { s with heap:=h2,toks:=dv }:=I.JF (its:=[.str ⟨#[c]⟩ t1,iH]) (ch:=[z,b2,bJ,bN]) keep (fun b hb=>hf b (by
   have hb:b=z∨b=b2∨b=bJ∨b=bN:=by simpa using hb
   rcases hb with q|q|q|q<;>simp[q])) (Nat.le_refl _) zR (.cons ⟨t1,rfl⟩ (.cons ef .nil)) (by show 2≤sizeLine;decide)
  refine⟨.ref s.heap.objs.size,_,cc,rfl,⟨s.heap.objs.size,c,y,N0,aJ,rfl,rfl,fun zs OK=>by rw[I.Cy OK aO];exact cK⟩,?_,fun b hb=>?_⟩
  ·refine⟨OJ,qw.extBut _ _ ap.TIz (hk _ _ ap.TIz ap.TITO ap.TIi1 ap.TIi2 ib),⟨_,_,qw.extBut _ _ ap.TOz a2⟩,?_,?_⟩
   ·obtain⟨cy,aj,av⟩:=e6;exact⟨cy,qw.extBut _ _ ap.i1z aj,av⟩
   ·obtain⟨⟨b_,ax,bg⟩,_⟩:=gA;exact⟨b_,qw.extBut _ _ ap.i2z ax,bg⟩
  ·rw[dr (Hr b hb)];exact(hf b hb).1
 done:=by
  intro X eb hw hK hc i pins s σ H E I hf st hg;subst eb hw hK;obtain⟨ys,aO,hi⟩:=hg;obtain⟨its,b0,ht,OI⟩:=I.tuple aO;obtain⟨bx,ib,⟨a,ov,iA⟩,vu,hs2⟩:=st;have nl:∀b∈[z,TI,b2,bJ,bN],l≠b:=fun b hb q=>by
   subst q;rcases aO with(h|⟨o,h⟩)|⟨o,P1,n,h,_⟩
   ·rw[(hf l hb).1]at h;cases h
   ·rw[(hf l hb).1]at h;cases h
   ·have h1:=I.ok.mod.oX l o h;rcases(hf l hb).2.2.2.1 with q|q
    ·exact I.ok.pn l o h1 q
    ·exact absurd (Nat.lt_of_lt_of_le (Heap.lt_size (I.ok.bs l o h1).1) q) (Nat.lt_irrefl _)
  have hh:X.A.in1.handled=none:=I.ok.hd hc;have hq:=Ek (prog:=X.prog) (w:=X.w) (A:=X.A.in1) hh bJ x t;have gQ:=El (prog:=X.prog) (w:=X.w) (A:=X.A.in1) hh bN l (nl bN (by simp)) its.toArray;have hlen:=b0.length
  have qh:qc z TI b2 bJ bN [bJ] [bN,l]:=⟨ap.TIz,ap.TOz,ap.TITO,ap.TIi1,ap.TIi2,ap.TOi1,ap.TOi2,ap.i1z,ap.i2z,ap.i12,by simpa using ap.i1z.symm,by simpa using ap.TOi1,by simpa using ap.i12.symm,
   by simp only[List.mem_cons,List.not_mem_nil,or_false,not_or];exact⟨ap.i2z.symm,(nl z (by simp)).symm⟩,by simp only[List.mem_cons,List.not_mem_nil,or_false,not_or];exact⟨ap.TOi2,(nl b2 (by simp)).symm⟩,by simp only[List.mem_cons,List.not_mem_nil,or_false,not_or];exact⟨ap.i12,(nl bJ (by simp)).symm⟩⟩
  refine Uh hq gQ qh bx ib iA vu ⟨hs2,ht⟩ ?_ fun h' dv cJ=>⟨rfl,I.xc (ch:=[z,b2,bJ,bN]) (fun b o hb q=>?_) fun b hb=>hf b ?_⟩
  ·have ag:its.toArray.size=its.length:=by simp
   rw[ag,←hlen];omega
  ·have hb:¬(b=z∨b=b2∨b=bJ∨b=bN):=fun w=>hb (by simpa using w);exact cJ b o (fun w=>hb (.inl w)) (fun w=>hb (.inr (.inl w))) (fun w=>hb (.inr (.inr (.inl w)))) (fun w=>hb (.inr (.inr (.inr w)))) q
  ·have hb:b=z∨b=b2∨b=bJ∨b=bN:=by simpa using hb
   rcases hb with q|q|q|q<;>simp[q]
 self:=fun A i s Q E st h=>wpAny_pyIter_zip st.1 h
section
variable{X:aK}{elts:List Expr}{cJ:Nat}{rJ:Pos}
theorem YD(n:Nat):Ds (n+4) (n+2) (n+3) n (n+1):=
 ⟨(show n+2≠n+4 from Nat.ne_of_lt (show(n+2:Nat)<n+4 by omega)),
  (show n+3≠n+4 from Nat.ne_of_lt (show(n+3:Nat)<n+4 by omega)),
  (show n+2≠n+3 from Nat.ne_of_lt (show(n+2:Nat)<n+3 by omega)),
  (show n+2≠n from Nat.ne_of_gt (show(n:Nat)<n+2 by omega)),
  (show n+2≠n+1 from Nat.ne_of_gt (show(n+1:Nat)<n+2 by omega)),
  (show n+3≠n from Nat.ne_of_gt (show(n:Nat)<n+3 by omega)),
  (show n+3≠n+1 from Nat.ne_of_gt (show(n+1:Nat)<n+3 by omega)),
  (show n≠n+4 from Nat.ne_of_lt (show(n:Nat)<n+4 by omega)),
  (show n+1≠n+4 from Nat.ne_of_lt (show(n+1:Nat)<n+4 by omega)),
  (show n≠n+1 from Nat.ne_of_lt (show(n:Nat)<n+1 by omega))⟩
noncomputable def Gr(K:PySem.W.Frag)(cb:es):TI:=fun σ H R=>cb σ H fun vs H1=>∃x l,vs=[.str x,.ref l]∧(∃ys,cv K H1 l ys)∧R (xI K x l) H1
theorem TH{a b:Expr}{cb:es}{p pos:Pos}(hg:da X "zip")(hm:X.mg "zip"=none)(ha:eR X [a,b] cb)(hs:starEach [a,b] X.env=[(false,eval a X.env),(false,eval b X.env)]:=by rfl)(hs2:starEach [b] X.env=[(false,eval b X.env)]:=by rfl) :
  f_ X (.Tuple elts cJ rJ) (.Call (.Name "zip" p) [a,b] [] pos) (Gr X.K cb):=by
 have hb:bootBuiltins "zip"=some (.type "zip"):=by kernel_rfl
 intro pins s σ H R I h;refine PyProof.Rows.Call_ (o1 I hg hm hb (PyProof.Rows.callWith_type1 (bI (ha pos pins s σ H _ I h) fun us s1⟨vs,H1,a5,av,aY⟩=>?_) (by rw[hs,hs2]) (by rw[hs2];rfl)));obtain⟨x,l,e,⟨ys,aO⟩,q⟩:=aY;subst e;obtain⟨u,JJ,rfl,⟨t,rfl⟩,ef⟩:=vals2 av;cases ef;obtain⟨its,b0,ht,bx⟩:=a5.tuple aO;refine Lw (show s1.heap.IsTuple l its.toArray from ht) fun h' a1 a2 e6 gA lZ qe hk=>?_;have cc:Inv X pins σ H1 { s1 with heap:=h' }:=a5.kept (t':=s1.toks) hk;refine wpAny_pyIter_zip a1 ?_;refine⟨s1.heap.objs.size+4,[s1.heap.objs.size+4,s1.heap.objs.size+2,s1.heap.objs.size+3,s1.heap.objs.size,s1.heap.objs.size+1],_,_,H1,rfl,cc,W9 x t l _ _ _ _ _ (YD s1.heap.objs.size),⟨a1,a2,⟨_,_,e6⟩,gA,lZ⟩,fun b hb=>?_,q⟩;have hb:s1.heap.objs.size≤b:=by
  have hb:b=s1.heap.objs.size+4∨b=s1.heap.objs.size+2∨b=s1.heap.objs.size+3∨b=s1.heap.objs.size∨b=s1.heap.objs.size+1:=by simpa using hb
  rcases hb with q|q|q|q|q
  ·rw[q];exact Nat.le_add_right _ _
  ·rw[q];exact Nat.le_add_right _ _
  ·rw[q];exact Nat.le_add_right _ _
  ·rw[q];exact Nat.le_refl _
  ·rw[q];exact Nat.le_add_right _ _
 exact a5.nc hb (a5.bM.fresh hb)
end
end aS
namespace ay
open PySem PySem.Spec aS
section
variable{X:aK}{F:aZ}{e a b c bu iter elt:Expr}{ag:List Expr}{pos p:Pos}{m n:aC}{ma:aP}
def eH(c:Nat):D:=.str ⟨#[c]⟩
def B3:D→R (List D)
 |.str x=>.ok (x.cps.toList.map eH)
 |_=>.bad
theorem P2{K:PySem.W.Frag}{G:ah}(x:Str):k8 K (xG x) (x.cps.toList.map eH) G where
 go:=fun i H s hi=>by
  have h:i<x.cps.size:=by simpa using hi
  exact h
 ja:=fun i H v H' s hi y=>by obtain⟨e,c,hc,rfl⟩:=y;refine⟨eH c,?_,.inl ⟨e,by unfold eH;simp only[At]⟩⟩;rw[List.getElem?_map,Array.getElem?_toList,hc];rfl
 stop:=fun H s=>by
  have h:(x.cps.toList.map eH).length=x.cps.size:=by simp
  exact h
def qU(m:aC):aP:=fun ρ=>(m ρ).bind B3
theorem PD:mR (kl F (qU m)) (Gp (cY F m)):=by
 rintro σ H Q ⟨G,ρ,r,h⟩;unfold qU at h;refine⟨G,ρ,r,?_⟩;cases ar:m ρ with
 |bad=>rw[ar]at h;exact h.elim
 |exc c=>rw[ar]at h;exact h
 |ok d=>
  rw[ar,R.bl]at h;intro v H1 aN av s1 a;cases d with
  |str x=>simp only[At]at a;exact⟨x,a,h _ H1 aN av s1 (P2 x)⟩
  |_=>exact h.elim
def m_(ds:List D):List D:=ds.zipIdx.map fun p=>.tup [.int (p.2:Int),p.1]
theorem M_{ds:List D}{i:Nat}{d:D}(e:ds[i]?=some d):(m_ ds)[i]?=some (.tup [.int (i:Int),d]):=by unfold m_;rw[List.getElem?_map,List.getElem?_zipIdx,e];simp
def qr:List D→R (List D)
 |[.lst ds]=>.ok (m_ ds)
 |[.bY ds]=>.ok (m_ ds)
 |_=>.bad
theorem GD{K:PySem.W.Frag}{G:ah}{l:Addr}{ds:List D}{xs:List V}(h:bS K G l xs)(q:aI K G ds xs):k8 K (xF K l) (m_ ds) G where
 go:=fun i H s hi=>by
  have hi:i<ds.length:=by simpa[m_]using hi
  obtain⟨v,e,_⟩:=q.get (List.getElem?_eq_getElem hi);exact⟨xs,v,bS.mono s h,e⟩
 ja:=fun i H v H' s hi y=>by obtain⟨p,x,hp,rfl,rfl,y⟩:=y;have ex:=y xs (bS.mono s h);obtain⟨d,e,a⟩:=q.vg ex;exact⟨_,M_ e,.inr ⟨p,_,_,hp,rfl,rfl,rfl,.cons (by simp only[At]) (.cons a .nil)⟩⟩
 stop:=fun H s=>⟨xs,bS.mono s h,by simp[m_,q.length]⟩
def o5(m:aP):aP:=fun ρ=>(m ρ).bind qr
theorem O4(hK:F.K=X.K):mR (kl F (o5 ma)) (Gk X.K (eo F ma)):=by
 rintro σ H Q ⟨G,ρ,r,h⟩;unfold o5 at h;refine⟨G,ρ,r,?_⟩;cases ar:ma ρ with
 |bad=>rw[ar]at h;exact h.elim
 |exc c=>rw[ar]at h;exact h
 |ok ds=>
  rw[ar,R.bl]at h;intro vs H1 aN av s1 al;unfold qr at h
  split at h
  ·rename_i ds;obtain⟨v,rfl,a⟩:=al.one;simp only[At]at a;obtain⟨q,xs,rfl,aO,gp⟩:=a;have fw:bS X.K aN q xs:=bS.of aO;rw[←hK]at fw;refine⟨q,rfl,⟨xs,by rw[←hK];exact bS.mono av.aL.sub fw⟩,?_⟩;rw[←hK];exact h _ H1 aN av s1 (GD fw gp)
  ·rename_i ds;obtain⟨v,rfl,a⟩:=al.one;simp only[At]at a;obtain⟨q,xs,rfl,aO,gp⟩:=a;refine⟨q,rfl,⟨xs,by rw[←hK];exact bS.mono av.aL.sub aO⟩,?_⟩;rw[←hK];exact h _ H1 aN av s1 (GD aO gp)
  ·exact h.elim
def pW(xs:List Nat)(ys:List D):List D:=(xs.zip ys).map fun p=>.tup [eH p.1,p.2]
def C9:List D→R (List D)
 |[.str x,.de ys]=>.ok (pW x.cps.toList ys)
 |_=>.bad
theorem P4{K:PySem.W.Frag}{G:ah}{x:Str}{l:Addr}{ds:List D}{xs:List V}(h:cv K G l xs)(q:aI K G ds xs):k8 K (xI K x l) (pW x.cps.toList ds) G where
 go:=fun i H s hi=>by
  have hi:i<min x.cps.size ds.length:=by simpa[pW]using hi
  have h1:i<ds.length:=by omega
  obtain⟨v,e,_⟩:=q.get (List.getElem?_eq_getElem h1);exact⟨by omega,xs,v,cv.mono s h,e⟩
 ja:=fun i H v H' s hi y=>by
  obtain⟨p,c,abt,hc,hp,rfl,rfl,y⟩:=y;have ex:=y xs (cv.mono s h);obtain⟨d,e,a⟩:=q.vg ex;refine⟨.tup [eH c,d],?_,.inr ⟨p,_,_,hp,rfl,rfl,rfl,.cons (by unfold eH;simp only[At]) (.cons a .nil)⟩⟩;unfold pW;rw[List.getElem?_map];have Nj:(x.cps.toList.zip ds)[i]?=some (c,d):=by rw[List.getElem?_zip_eq_some];exact⟨by rw[Array.getElem?_toList];exact hc,e⟩
  rw[Nj];rfl
 stop:=fun H s=>⟨xs,cv.mono s h,by simp[pW,q.length]⟩
def qV(m:aP):aP:=fun ρ=>(m ρ).bind C9
theorem PK(hK:F.K=X.K):mR (kl F (qV ma)) (Gr X.K (eo F ma)):=by
 rintro σ H Q ⟨G,ρ,r,h⟩;unfold qV at h;refine⟨G,ρ,r,?_⟩;cases ar:ma ρ with
 |bad=>rw[ar]at h;exact h.elim
 |exc c=>rw[ar]at h;exact h
 |ok ds=>
  rw[ar,R.bl]at h;intro vs H1 aN av s1 al;unfold C9 at h
  split at h
  ·rename_i x ys;obtain⟨v,w,rfl,bf,gB⟩:=al.two;simp only[At]at bf gB;subst bf;obtain⟨q,xs,rfl,aO,gp⟩:=gB;refine⟨x,q,rfl,⟨xs,by rw[←hK];exact cv.mono av.aL.sub aO⟩,?_⟩;rw[←hK];exact h _ H1 aN av s1 (P4 aO gp)
  ·exact h.elim
theorem Xy(h:a9 X F e m)(hK:F.K=X.K:=by rfl):jz X F bu e (g4 m):=f_.imp (H8 h) (by rw[←hK];exact Pc)
theorem XD(h:a9 X F e m)(hK:F.K=X.K:=by rfl):jz X F bu e (o6 m):=f_.imp (TG h) (by rw[←hK];exact PH)
theorem XC(h:a9 X F e m):jz X F bu e (qU m):=f_.imp (TF h) PD
theorem XA(hm:X.mg "range"=none)(ha:f7 X F [a] ma)(hg:da X "range":=by rfl)(hs:starEach [a] X.env=[(false,eval a X.env)]:=by rfl):jz X F bu (.Call (.Name "range" p) [a] [] pos) (eW ma):=f_.imp (TB hg hm ha hs) Pp
theorem XB(hm:X.mg "range"=none)(ha:f7 X F [a,b] ma)(hg:da X "range":=by rfl)(hs:starEach [a,b] X.env=[(false,eval a X.env),(false,eval b X.env)]:=by rfl)(hs2:starEach [b] X.env=[(false,eval b X.env)]:=by rfl):jz X F bu (.Call (.Name "range" p) [a,b] [] pos) (q4 ma):=f_.imp (TC hg hm ha hs hs2) Pq
theorem Xx{elts:List Expr}{k:Nat}{pO:Pos}(hm:X.mg "enumerate"=none)(ha:f7 X F [a] ma)(hK:F.K=X.K:=by rfl)(hg:da X "enumerate":=by rfl)(hs:starEach [a] X.env=[(false,eval a X.env)]:=by rfl):jz X F (.Tuple elts k pO) (.Call (.Name "enumerate" p) [a] [] pos) (o5 ma):=f_.imp (TA hg hm ha hs) (O4 hK)
theorem XE{elts:List Expr}{k:Nat}{pO:Pos}(hm:X.mg "zip"=none)(ha:f7 X F [a,b] ma)(hK:F.K=X.K:=by rfl)(hg:da X "zip":=by rfl)(hs:starEach [a,b] X.env=[(false,eval a X.env),(false,eval b X.env)]:=by rfl)(hs2:starEach [b] X.env=[(false,eval b X.env)]:=by rfl) :
  jz X F (.Tuple elts k pO) (.Call (.Name "zip" p) [a,b] [] pos) (qV ma):=f_.imp (TH hg hm ha hs hs2) (PK hK)
structure GM(X:aK)(bu:Expr)(set:D→ak→R ak):Prop where
 ex:∃g,jd X bu g∧∀F:aZ,F.K=X.K→mP F g set
 iG:∀d ρ c,set d ρ≠.exc c
 keeps:Keeps set
theorem dZ(i:Nat){x:Str}(hN:X.N.Nodup)(hi:X.N[i]?=some x:=by rfl)(hx:Loc X.env.scope x:=by first|exact Or.inl rfl|exact Or.inr rfl)(hf:X.fn x=true∨X.env.scope.names.lookup x=some .local:=by first|exact .inl rfl|exact .inr rfl):GM X (.Name x pos) (bB i):=
 ⟨⟨iz i,rn hN hi hx hf,fun _ _=>sx i⟩,tS i,tR i⟩
structure uk(X:aK)(WX:List Expr)(aV:List (D→ak→R ak)):Prop where
 ex:∃g,r5 X WX g∧∀F:aZ,F.K=X.K→rZ F g (hL aV)
 iG:∀f∈aV,∀d ρ c,f d ρ≠.exc c
 keeps:∀f∈aV,Keeps f
theorem nJ:uk X [] []:=⟨⟨vd,H7,fun _ _=>FP⟩,(fun _ h=>nomatch h),(fun _ h=>nomatch h)⟩
theorem gI{f:D→ak→R ak}{aV:List (D→ak→R ak)}(h:GM X e f)(t:uk X ag aV)(hs:(assignEach (e::ag) X.env).map (·.2)=assign e X.env::(assignEach ag X.env).map (·.2):=by rfl):uk X (e::ag) (f::aV):=by obtain⟨⟨g,h1,h2⟩,h3,h4⟩:=h;obtain⟨⟨mb,t1,d_⟩,t3,pK⟩:=t;exact⟨⟨sv g mb,AJ h1 t1 hs,fun F mc=>zp (h2 F mc) (d_ F mc)⟩,fun k hk=>by rcases List.mem_cons.mp hk with rfl|hk;exact h3;exact t3 k hk,fun k hk=>by rcases List.mem_cons.mp hk with rfl|hk;exact h4;exact pK k hk⟩
theorem nK{k:Nat}{aV:List (D→ak→R ak)}(hc:X.calm=true)(h:uk X ag aV)(aJ:(assignEach ag X.env).length=aV.length:=by rfl)(hst:(assignEach ag X.env).findIdx? (·.1)=none:=by rfl):GM X (.Tuple ag k pos) (fX aV):=by obtain⟨⟨mb,t1,d_⟩,t3,pK⟩:=h;exact⟨⟨vf X.K aV.length mb,H6 hc t1 aJ hst,fun F mc=>by rw[←mc];exact FQ rfl (d_ F mc)⟩,I1 t3,I0 pK⟩
theorem U1{body:List Stmt}{mi:aP}{set:D→ak→R ak}{dq:a8}(hp:PassesOwn (model X.prog X.w) X.A X.env X.xe)(hi:jz X F bu iter mi)(hg:GM X bu set)(hb:mM X F body dq)(hc:X.calm=true:=by rfl)(hK:F.K=X.K:=by rfl)(hs:∀x,foldedSetIterable iter X.env x=pure x:=by intro _;rfl) :
  fB X F (.For bu iter body [] pos) (d7 mi set dq):=by
 obtain⟨⟨g,h1,h2⟩,h3,_⟩:=hg;exact cU.imp (Ie hp hc hi h1 hb hs) (O5 (h2 F hK) h3)
abbrev rU(X:aK)(scope:Scope)(N:List Str)(e:Expr)(m:aC):Prop:=∀cl C s H aE cu bL,a9 (eS X scope N cl C s H aE) (fF X.K cu bL) e m
abbrev k6(X:aK)(scope:Scope)(N:List Str)(ifs:List Expr)(m:b4):Prop:=∀cl C s H aE cu bL,mT (eS X scope N cl C s H aE) ifs (gd (fF X.K cu bL) m)
abbrev rV(X:aK)(scope:Scope)(N:List Str)(bu:Expr)(set:D→ak→R ak):Prop:=∃g,(∀cl C s H aE,jd (eS X scope N cl C s H aE) bu g)∧(∀cu bL,mP (fF X.K cu bL) g set)
theorem yL{scope:Scope}{N:List Str}{g:hY}{set:D→ak→R ak}(h:∀cl C s H aE,jd (eS X scope N cl C s H aE) bu g)(k:∀F:aZ,F.K=X.K→mP F g set):rV X scope N bu set:=⟨g,h,fun cu bL=>k (fF X.K cu bL) rfl⟩
def fh:b4:=fun _=>.ok true
theorem j3{scope:Scope}{N:List Str}:k6 X scope N [] fh:=fun cl C s H aE cu bL pins s' σ H' Q I h=>by obtain⟨G,ρ,r,k⟩:=h;exact T_ pins s' σ H' Q I (k H' G r (bT.refl _ _))
theorem Ld{scope:Scope}{N:List Str}{mt:b4}(h:∀cl C s H aE cu bL,fp (eS X scope N cl C s H aE) (fF X.K cu bL) c mt):k6 X scope N [c] mt:=fun cl C s H aE cu bL=>Ua (h cl C s H aE cu bL)
theorem D_{scope:Scope}{N:List Str}{ifs:List Expr}{nl:Nat}{caps:List Nat}{mi:aP}{set:D→ak→R ak}{mt:b4}{fi:aC}(hK:F.K=X.K)(hi:jz X F bu iter mi)(hg:rV X scope N bu set)(ht:k6 X scope N ifs mt)(he:rU X scope N elt fi)(hx:∀d ρ c,set d ρ≠.exc c)(hk:Keeps set){Q:TE→Prop}(k:∀g,(∀cl C s H aE,jd (eS X scope N cl C s H aE) bu g)→(∀cl C s H aE,mT (eS X scope N cl C s H aE) ifs (CR X.K mt))→(∀cl C s H aE,a3 (eS X scope N cl C s H aE) elt (CQ X.K fi))→ej (i7 F (d6 nl caps mi set mt fi)) (w4 (kl F mi) g (CR X.K mt) (CQ X.K fi) nl caps)→Q (i7 F (d6 nl caps mi set mt fi))):Q (i7 F (d6 nl caps mi set mt fi)):=by
 obtain⟨g,g1,g2⟩:=hg;refine k g g1 (fun cl C s H aE pins s' σ H' oi I h=>?_) (fun cl C s H aE pins s' σ H' oi I h=>?_) ?_
 ·obtain⟨cu,bL,h⟩:=h;exact ht cl C s H aE cu bL pins s' σ H' oi I h
 ·obtain⟨cu,bL,h⟩:=h;exact he cl C s H aE cu bL pins s' σ H' oi I h
 ·have z:=OX (F:=F) (nl:=nl) (caps:=caps) (mi:=mi) (tst:=mt) (elt:=fi) (g:=g) (set:=set) (fun cu bL=>by rw[hK];exact g2 cu bL) hx hk;rw[hK]at z;exact z
theorem Sg{scope:Scope}{N:List Str}{ifs:List Expr}{nl:Nat}{caps:List Nat}{mi:aP}{set:D→ak→R ak}{mt:b4}{fi:aC}(S:ku X.env.scope X.N scope N nl caps)(hi:jz X F bu iter mi)(hg:rV X scope N bu set)(hx:∀d ρ c,set d ρ≠.exc c)(hk:Keeps set)(ht:k6 X scope N ifs mt)(he:rU X scope N elt fi)(hc:X.calm=true:=by rfl)(hK:F.K=X.K:=by rfl)(hs:∀x,foldedSetIterable iter X.env x=pure x:=by intro _;rfl):lW X F (.ListComp elt [⟨bu,iter,ifs,0⟩] scope pos) (d6 nl caps mi set mt fi):=
 D_ (nl:=nl) (caps:=caps) (Q:=fun t=>a3 X (.ListComp elt [⟨bu,iter,ifs,0⟩] scope pos) t) hK hi hg ht he hx hk fun g g1 t1 aj imp=>a3.imp (Tg S hc hi g1 t1 aj hs) imp
theorem UU(i:Nat){y:Str}{py:Pos}{scope:Scope}{N:List Str}{ifs:List Expr}{nl:Nat}{caps:List Nat}{mi:aP}{set:D→ak→R ak}{mt:b4}{fi:aC}{bC:Pos}(hN:X.N.Nodup)(S:ku X.env.scope X.N scope N nl caps)(hi:jz X F bu iter mi)(hg:rV X scope N bu set)(hx:∀d ρ c,set d ρ≠.exc c)(hk:Keeps set)(ht:k6 X scope N ifs mt)(he:rU X scope N elt fi)(cK:X.N[i]?=some y:=by rfl)(hl:X.env.kindOf y=some .local:=by rfl)(oT:swapsWith (.ListComp elt [⟨bu,iter,ifs,0⟩] scope bC) (some (.Name y py)) pos.line X.env=pure true:=by rfl)(hc:X.calm=true:=by rfl)(hK:F.K=X.K:=by rfl)(hs:∀x,foldedSetIterable iter X.env x=pure x:=by intro _;rfl) :
  fB X F (.Assign [.Name y py] (.ListComp elt [⟨bu,iter,ifs,0⟩] scope bC) pos) (fH i (d6 nl caps mi set mt fi)):=by
 refine cU.imp (t:=mD (i7 F (d6 nl caps mi set mt fi)) (iz i)) ?_ Gy;refine D_ (nl:=nl) (caps:=caps) (Q:=fun t=>cU X (.Assign [.Name y py] (.ListComp elt [⟨bu,iter,ifs,0⟩] scope bC) pos) (mD t (iz i))) hK hi hg ht he hx hk fun g g1 t1 aj imp=>?_;exact cU.imp (TZ S hc hN cK hl hi g1 t1 aj oT hs) fun bO σ H h=>imp σ H _ h
end
section
variable{X:aK}{F:aZ}{e a b c:Expr}{ag:List Expr}{pos p:Pos}{m n:aC}{ma:aP}
def l5:List D→Option (List Bool)
 |[]=>some []
 |.aD b::r=>(l5 r).map (b::·)
 |_::_=>none
theorem DY{K:PySem.W.Frag}{G:ah}:∀{ds:List D}{xs:List V}{bs:List Bool},aI K G ds xs→l5 ds=some bs→xs=bs.map V.aD
 |[],_,_,q,e=>by simp only[aI]at q;subst q;cases e;rfl
 |d::ds,_,bs,q,e=>by
  simp only[aI]at q;obtain⟨v,r,rfl,a,l1⟩:=q;cases d with
  |aD b=>
   simp only[At]at a;subst a;simp only[l5]at e;cases aj:l5 ds with
   |none=>rw[aj]at e;cases e
   |some cs=>rw[aj]at e;have bq:b::cs=bs:=Option.some.inj e;subst bq;rw[DY l1 aj];rfl
  |_=>cases e
theorem JN:∀{bs:List Bool}{us:List Value},Vals (bs.map V.aD) us→us=bs.map Value.bool
 |[],_,r=>by cases r;rfl
 |b::bs,_,r=>by
  cases r with
  |cons av bg=>cases av;rw[JN bg];rfl
theorem Lm(hc:X.calm=true)(vn:X.A.handled=none):hR X (.builtin "all") (fun xs H Q=>∃(p:Addr)(bs:List Bool),xs=[.ref p]∧bS X.K H p (bs.map V.aD)∧Q (.aD (bs.all id)) H):=by
 intro pins s σ H xs us Q I r h;obtain⟨p,bs,rfl,aO,q⟩:=h;obtain⟨u,rfl,ef⟩:=vals1 r;cases ef;obtain⟨its,b0,pl,bx⟩:=I.list aO;have iv:=JN b0;refine call_all_walk (wpAny_pyIter_list pl.isList ?_);have zL:p≠s.heap.objs.size:=by obtain⟨o,ho,_⟩:=pl.isList;exact Nat.ne_of_lt (Heap.lt_size ho)
 refine⟨s.heap.objs.size,_,_,_,_,_,fun i=>(bs[i]?).getD true,rfl,Walks.list (prog:=X.prog) (w:=X.w) (A:=X.A.in1) vn s.heap.objs.size p zL its.toArray,⟨⟨_,Heap.get?_push_size _ rfl,rfl,rfl⟩,pl.isList.push _⟩,?_,fun h' dv cJ=>?_⟩
 ·intro i v s' oi YF eb zx;rw[iv]at eb;have eb:(bs.map Value.bool)[i]?=some v:=by simpa using eb
  rw[List.getElem?_map]at eb;cases bq:bs[i]? with
  |none=>rw[bq]at eb;cases eb
  |some b=>rw[bq]at eb;have ev:Value.bool b=v:=Option.some.inj eb;subst ev;dsimp only at zx;rw[bq]at zx;exact wpAny_truthy_bool zx
 ·have zz:(List.range its.toArray.size).all (fun i=>(bs[i]?).getD true)=bs.all id:=by
    have hl:its.toArray.size=bs.length:=by rw[iv];simp
    rw[hl,Bool.eq_iff_iff,List.all_eq_true,List.all_eq_true];constructor
    ·intro hh x hx;obtain⟨i,hi,rfl⟩:=List.mem_iff_getElem.mp hx;have:=hh i (List.mem_range.mpr hi);rw[List.getElem?_eq_getElem hi]at this;exact this
    ·intro hh i hi;have hi:=List.mem_range.mp hi;rw[List.getElem?_eq_getElem hi];exact hh _ (List.getElem_mem hi)
  rw[zz];exact⟨.aD _,H,I.kept (t':=dv) fun b o ax=>cJ b o (by
   intro z;have z:b=s.heap.objs.size:=by simpa using z
   exact absurd (Heap.lt_size ax) (by rw[z];exact Nat.lt_irrefl _)) (Heap.get?_push_of_some _ ax),rfl,q⟩
def dx:List D→R D
 |[.lst ds]=>match l5 ds with|some bs=>.ok (.aD (bs.all id))|none=>.bad
 |_=>.bad
theorem So:lV F (fun xs H Q=>∃(p:Addr)(bs:List Bool),xs=[.ref p]∧bS X.K H p (bs.map V.aD)∧Q (.aD (bs.all id)) H) dx:=by
 intro σ ρ G H xs ds Q r al k;unfold dx at k
 split at k
 ·rename_i ds
  split at k
  ·rename_i bs bq;obtain⟨v,rfl,bf⟩:=al.one;simp only[At]at bf;obtain⟨q,xs,rfl,aO,gp⟩:=bf;have:=DY gp bq;subst this;exact⟨q,bs,rfl,bS.of (r.aL.sub _ _ aO),k _ H G r (bT.refl _ _) (by simp only[At])⟩
  ·exact k.elim
 ·exact k.elim
theorem Mm{k:Nat}(hr:dE k X.A)(hm:X.mg "all"=none)(ha:f7 X F [e] ma)(hc:X.calm=true:=by rfl)(hg:da X "all":=by rfl)(he:starEach [e] X.env=(false,eval e X.env)::starEach [] X.env:=by rfl)(hpl:(backTo pos (starEach [] X.env)).any (·.1)=false:=by rfl) :
  a9 X F (.Call (.Name "all" p) [e] [] pos) (ct dx ma):=yZ (Lm hc hr.hd) So hm (by kernel_rfl) ha hg (by decide) (by decide) he hpl
end
section
variable{X:aK}{F:aZ}{e a b c:Expr}{ag:List Expr}{pos p:Pos}{m n:aC}{ma:aP}
def ownAt(i:Nat)(ρ:ak):R (List D):=match ρ[i]? with
 |some (.aR (.lst ds))=>.ok ds
 |_=>.bad
noncomputable def jn(i:Nat)(m:aC):a8:=fun ρ=>(ownAt i ρ).bind fun ds=>(m ρ).bind fun d=>if ds.length<1000000 then .ok (.bj (ρ.set i (.c_ (ds++[d]))))else .bad
theorem UR (i:Nat) {x:Str} {aH:Pos} {apos:Pos} {bC:Pos} (he:a9 X F e m) (hN:X.N[i]?=some x:=by rfl) (hv:eC X.env.scope x:=by first|exact Or.inl rfl|exact Or.inr (Or.inl rfl)|exact Or.inr (Or.inr rfl)) (hd:(x==("__debug__" :Str))=false:=by decide) (hcd:(x==("__classdict__" :Str))=false:=by decide)(hbase:attributeBase (.Name x aH) "append" X.env (eval (.Name x aH) X.env)=eval (.Name x aH) X.env:=by rfl) (hline:(apos.endLine==bC.line)=true:=by rfl)(hfew:((backTo bC (starEach [e] X.env)).all (fun x=>!x.1)&&(backToKw bC (keywordEach [] X.env)).all (fun x=>x.1.isSome)
    &&decide (([e]:List Expr).length+([]:List Keyword).length+(if([]:List Keyword).isEmpty then 0 else 1)<30))=true:=by rfl)
  (hs:starEach [e] X.env=(false,eval e X.env)::starEach [] X.env:=by rfl) (hplain:(backTo bC (starEach [] X.env)).any (·.1)=false:=by rfl)
  (hK:F.K=X.K:=by rfl) :
  fB X F (.Expr (.Call (.Attribute (.Name x aH) "append" apos) [e] [] bC) pos) (jn i m):=by
 refine cU.imp (ro (pw PySem.F.plainAttrs_list PySem.F.slot_list_append PySem.F.type_list_append tn (hI hN hv hd hcd) (gb he i3 hs) hbase hfew hline hs hplain) (jt _ _ _ _ rfl)) ?_;rintro bO σ H ⟨G,ρ,r,h⟩;unfold jn ownAt at h;cases cq:ρ[i]? with
 |none=>rw[cq]at h;exact h.elim
 |some s=>
  rw[cq]at h;cases s with
  |un=>exact h.elim
  |aq _=>exact h.elim
  |bG _=>exact h.elim
  |aR aR=>
   cases aR with
   |a_ _ _=>exact h.elim
   |ins _ _ _=>exact h.elim
   |lst ds=>
    obtain⟨q,xs,aj,h1,h2,h3,h4⟩:=r.own cq;have h:g0 F G bO ((m ρ).bind fun d=>if ds.length<1000000 then .ok (.bj (ρ.set i (.c_ (ds++[d]))))else .bad):=h;refine⟨.ref q,aj,.inl ⟨rfl,xs,bS.of h1⟩,G,ρ,r,?_⟩;cases ar:m ρ with
    |bad=>rw[ar]at h;exact h.elim
    |exc c=>rw[ar]at h;exact h
    |ok d=>
     rw[ar,R.bl]at h;intro v H1 aN av s1 bf;obtain⟨i4,iq,gF,cQ,cB,zu,kb⟩:=av.own cq;rw[aj]at gF;cases gF;by_cases hl:ds.length<1000000
     ·rw[if_pos hl]at h;refine⟨q,iq,v,rfl,rfl,cQ,by rw[←kb.length];exact Nat.lt_trans hl (by decide),?_⟩;exact h σ aN _ (av.mut cq aj (kb.snoc bf)) s1.g
     ·rw[if_neg hl]at h;exact h.elim
end
abbrev mB(K:PySem.W.Frag)(n:Nat)(mf:List D→R b1):iP:=pG K n (fun _ _ _=>False) mf
structure c8(P:Program)(w:World)(K:PySem.W.Frag)(mg:Str→Option Value)(base:Heap)(x:Str)(n k:Nat)(mf:List D→R b1):Prop where
 ex:∃(f:Addr)(fd:FuncData)(aU:List Str),aU.length=n∧hT P w K mg base gk k f fd aU (mB K n mf)∧mg x=some (.ref f)∧PySem.W.keepIn K (.ref f)=true∧Binds K fd aU []
section
variable{X:aK}{F:aZ}{e:Expr}{ag:List Expr}{pos p:Pos}{ma:aP}{x:Str}{n k:Nat}{mf:List D→R b1}
theorem Mr(c:c8 X.prog X.w X.K X.mg X.base x n k mf)(hr:dE k X.A)(ha:f7 X F (e::ag) ma)(hE:F.e_=fun _ _=>False:=by rfl)(hK:F.K=X.K:=by rfl)(hg:da X x:=by rfl)(hdb:(x==("__debug__" :Str))=false:=by decide)(he:starEach (e::ag) X.env=(false,eval e X.env)::starEach ag X.env:=by rfl)(hpl:(backTo pos (starEach ag X.env)).any (·.1)=false:=by rfl):a9 X F (.Call (.Name x p) (e::ag) [] pos) (b8 n mf ma):=by obtain⟨f,fd,aU,aJ,iy,hm,hk,hb⟩:=c.ex;refine a3.imp (wA iy hr hg hm hk hb .nil rm ha hdb he hpl) ?_;rw[←hK];exact OU (xe:=fun _ _ _=>False) (E:=uj) hE
theorem Se(c:c8 X.prog X.w X.K X.mg X.base x n k mf)(hr:dE k X.A)(ha:f7 X F (e::ag) ma)(hE:F.e_=fun _ _=>False:=by rfl)(hK:F.K=X.K:=by rfl)(hg:da X x:=by rfl)(hdb:(x==("__debug__" :Str))=false:=by decide)(he:starEach (e::ag) X.env=(false,eval e X.env)::starEach ag X.env:=by rfl)(hpl:(backTo pos (starEach ag X.env)).any (·.1)=false:=by rfl):lW X F (.Call (.Name x p) (e::ag) [] pos) (fV n mf ma):=by obtain⟨f,fd,aU,aJ,iy,hm,hk,hb⟩:=c.ex;refine a3.imp (wA iy hr hg hm hk hb .nil rm ha hdb he hpl) ?_;rw[←hK];exact OV (xe:=fun _ _ _=>False) (E:=uj) hE
end
structure c7(K:PySem.W.Frag)(mg:Str→Option Value)(x:Str)(st:Stmt)(aU:List Str):Prop where
 ex:∃(f:Addr)(fd:FuncData),kv K x x st f fd∧mg x=some (.ref f)∧Binds K fd aU []
theorem LR{P:Program}{w:World}{K:PySem.W.Frag}{mg:Str→Option Value}{base:Heap}{x:Str}{st:Stmt}{N aU:List Str}{k:Nat}{m:a8}(d:c7 K mg x st aU)(S:cN N aU (bQ st))(h:∀(f:Addr)(b9:Value)(A:Around)(outer:List Env)(s:Shared)(H:ah)(E:dc),dE k (A.deeper (PyProof.Rows.envOfC x (bQ st) s.heap.objs.size f b9))→∀cu bL,mM (iT gk P w K mg base N x (bQ st) f b9 A outer s H E).jU (fF K cu bL) (fO st) m) :
  c8 P w K mg base x aU.length (k+1) (cZ N.length m):=by
 obtain⟨f,fd,fn,hm,hb⟩:=d.ex;refine⟨f,fd,aU,rfl,fn.ok S B6 fun b9 A outer s H vs Q E hr hs=>?_,hm,fn.aL,hb⟩;obtain⟨G,ht⟩:=yM hs;exact⟨_,h f b9 A outer s H E hr G H,ht⟩
theorem Nv{K:PySem.W.Frag}{h:Heap}{mg:Str→Option Value}{x:Str}{st:Stmt}{aU:List Str}{f:Addr}{e8:Value}{dT an:Option Addr}{lH:Array (Option Value)}{cT doc pm b9 c3:Value}(X:K.In h)(G:h.Ns mainGlobals mg)(a:PySem.W.nsIn K mainGlobals x=some (some (.ref f)))(l:K.lookup f=some ⟨e8,dT,.func (PySem.W.fnOf x x (jF st) (fO st) (bQ st) .none cT doc pm an b9 c3),lH⟩)(c:PySem.W.codeIn K b9 x=true)(k:PySem.W.keepIn K (.ref f)=true)(b:∀(cT doc pm:Value)(an:Option Addr)(b9 c3:Value)(us:List Value),us.length=aU.length→bindArgs (PySem.W.fnOf x x (jF st) (fO st) (bQ st) .none cT doc pm an b9 c3) ⟨us,[]⟩=pure (aU.zip us)):c7 K mg x st aU:=
 ⟨f,_,oJ (st:=st) l c k,PySem.W.mg_of X G a,(oJ (st:=st) l c k).binds b⟩
theorem Q_{K:PySem.W.Frag}{mf:List D→R b1}{H:ah}{a:Addr}{ns:List Int}(e7:bS K H a (ns.map V.int))(h:mf [.bY (ns.map .int)]=.ok (.v (.aD true)))(E:dc):mB K 1 mf [.ref a] H (fun v _=>v=.aD true) E:=by
 refine⟨H,[.bY (ns.map .int)],Sub.refl _,.cons ?_ .nil,rfl,?_⟩
 ·simp only[At];refine⟨a,_,rfl,e7,?_⟩;induction ns with
  |nil=>exact .nil
  |cons n r b6=>exact .cons (by simp only[At]) (Gz r)
 ·rw[h];intro v G' H' _ bf;simp only[At]at bf;exact bf
where
 Gz {K:PySem.W.Frag} {H:ah}:∀r:List Int,aI K H (r.map .int) (r.map V.int)
  |[]=>.nil
  |n::r=>.cons (by simp only[At]) (Gz r)
section
variable{X:aK}{F:aZ}{e a b c bu iter elt:Expr}{ag:List Expr}{pos p:Pos}{m n:aC}{ma:aP}{scope:Scope}{N:List Str}
structure n7(X:aK)(scope:Scope)(N:List Str)(bu:Expr)(set:D→ak→R ak):Prop where
 g:rV X scope N bu set
 bj:∀d ρ c,set d ρ≠.exc c
 aL:Keeps set
theorem iS(i:Nat){x:Str}(hN:N.Nodup:=by decide+kernel)(hi:N[i]?=some x:=by rfl)(hl:(relabel scope X.env).names.lookup x=some .local:=by rfl):n7 X scope N (.Name x pos) (bB i):=
 ⟨yL (g:=iz i) (fun cl C s H aE=>rn (X:=eS X scope N cl C s H aE) hN hi (.inl hl) (.inr hl)) fun F _=>sx i,tS i,tR i⟩
theorem Lb(i:Nat){x:Str}(hN:N.Nodup:=by decide+kernel)(hi:N[i]?=some x:=by rfl)(hl:(relabel scope X.env).names.lookup x=some .cell:=by rfl)(hs:(scope.names.lookup x==some .cell)=true:=by rfl):n7 X scope N (.Name x pos) (bB i):=
 ⟨yL (g:=iz i) (fun cl C s H aE=>rn (X:=eS X scope N cl C s H aE) hN hi (.inr hl) (.inl hs)) fun F _=>sx i,tS i,tR i⟩
theorem DO(i j:Nat){x y:Str}{aH py:Pos}{k:Nat}(hc:X.calm=true:=by rfl)(hN:N.Nodup:=by decide+kernel)(hi:N[i]?=some x:=by rfl)(cF:N[j]?=some y:=by rfl)(hl:(relabel scope X.env).names.lookup x=some .local:=by rfl)(hm:(relabel scope X.env).names.lookup y=some .local:=by rfl) :
  n7 X scope N (.Tuple [.Name x aH,.Name y py] k pos) (fX [bB i,bB j]):=by
 refine⟨yL (g:=vf X.K 2 (sv (iz i) (sv (iz j) vd))) (fun cl C s H aE=>?_) (fun F mc=>?_),I1 ?_,I0 ?_⟩
 ·exact H6 (X:=eS X scope N cl C s H aE) hc (AJ (rn (X:=eS X scope N cl C s H aE) hN hi (.inl hl) (.inr hl)) (AJ (rn (X:=eS X scope N cl C s H aE) hN cF (.inl hm) (.inr hm)) H7 rfl) rfl) rfl rfl
 ·rw[←mc];exact FQ rfl (zp (sx i) (zp (sx j) FP))
 ·intro f hf;rcases List.mem_cons.mp hf with rfl|hf
  ·exact tS i
  ·rw[List.mem_singleton.mp hf];exact tS j
 ·intro f hf;rcases List.mem_cons.mp hf with rfl|hf
  ·exact tR i
  ·rw[List.mem_singleton.mp hf];exact tR j
theorem Sh(nl:Nat)(caps:List Nat){ifs:List Expr}{mi:aP}{set:D→ak→R ak}{mt:b4}{fi:aC}(S:ql X.env.scope X.N scope N nl caps=true)(hi:jz X F bu iter mi)(hg:n7 X scope N bu set)(ht:k6 X scope N ifs mt)(he:rU X scope N elt fi)(hc:X.calm=true:=by rfl)(hK:F.K=X.K:=by rfl)(hs:∀x,foldedSetIterable iter X.env x=pure x:=by intro _;rfl):lW X F (.ListComp elt [⟨bu,iter,ifs,0⟩] scope pos) (d6 nl caps mi set mt fi):=
 Sg (.of S) hi hg.g hg.bj hg.aL ht he hc hK hs
theorem UW(i:Nat)(nl:Nat)(caps:List Nat){y:Str}{py:Pos}{ifs:List Expr}{mi:aP}{set:D→ak→R ak}{mt:b4}{fi:aC}{bC:Pos}(hN:X.N.Nodup)(S:ql X.env.scope X.N scope N nl caps=true)(hi:jz X F bu iter mi)(hg:n7 X scope N bu set)(ht:k6 X scope N ifs mt)(he:rU X scope N elt fi)(cK:X.N[i]?=some y:=by rfl)(hl:X.env.kindOf y=some .local:=by rfl)(oT:swapsWith (.ListComp elt [⟨bu,iter,ifs,0⟩] scope bC) (some (.Name y py)) pos.line X.env=pure true:=by rfl)(hc:X.calm=true:=by rfl)(hK:F.K=X.K:=by rfl)(hs:∀x,foldedSetIterable iter X.env x=pure x:=by intro _;rfl) :
  fB X F (.Assign [.Name y py] (.ListComp elt [⟨bu,iter,ifs,0⟩] scope bC) pos) (fH i (d6 nl caps mi set mt fi)):=
 UU i hN (.of S) hi hg.g hg.bj hg.aL ht he cK hl oT hc hK hs
noncomputable def nE(i:Nat)(a:aP):a8:=fun ρ=>((fH i a) ρ).bind fun f=>match f with
 |.bj bh=>.ok (.bj (ji i bh))
 |f=>.ok f
theorem Vc{st:Stmt}{i:Nat}{a:aP}(h:fB X F st (fH i a)):fB X F st (nE i a):=cU.imp h fun bO σ H⟨G,ρ,r,k⟩=>by
 refine⟨G,ρ,r,?_⟩;unfold nE at k;cases e:fH i a ρ with
 |bad=>rw[e]at k;exact k.elim
 |exc c=>rw[e]at k;exact k
 |ok f=>
  rw[e,R.bl]at k;cases f with
  |bj bh=>intro σ' G' H' br s';obtain⟨cE,bg,s2⟩:=br.ji i;exact k σ' cE H' bg (s'.trans s2)
  |dh d=>exact k
  |i6 d=>exact k
  |i5 d=>exact k
  |ft d=>exact k
  |c3 d=>exact k
def Rq:aC:=fun _=>.ok (.cW [] [])
end
theorem Cx{K:PySem.W.Frag}{c:Addr}{dd:Option Addr}{its:Array Value}{n:Nat}{bZ:Array (Option Value)}{xs:List V}{ds:List D}(l:K.lookup c=some ⟨.type "tuple",dd,.seq its n,bZ⟩)(bx:its.size≤sizeLine)(v:Vals xs its.toList)(a:∀G,aI K G ds xs) :
  ∀G,At K G (.de ds) (.ref c):=fun G=>by
 simp only[At];exact⟨c,xs,rfl,.inr ⟨_,its,n,l,rfl,rfl,bx,v⟩,a G⟩
theorem pC(i:Int)(t:Tok):RelV (.int i) (.int i t):=⟨t,rfl⟩
theorem wH(x:Str)(t:Tok):RelV (.str x) (.str x t):=⟨t,rfl⟩
theorem ou{K:PySem.W.Frag}{G:ah}(i:Int):At K G (.int i) (.int i):=by simp only[At]
theorem uE{K:PySem.W.Frag}{G:ah}(i:Str):At K G (.str i) (.str i):=by simp only[At]
structure aX(X:aK)(F:aZ)(e:Expr)(m:aC):Prop where
 o:a3 X e (cY F m)
structure j2(X:aK)(F:aZ)(e:Expr)(m:aP):Prop where
 o:a3 X e (i7 F m)
structure e5(X:aK)(F:aZ)(e:Expr)(m:b4):Prop where
 o:e2 X e (gd F m)
structure ot(X:aK)(F:aZ)(e:Expr)(m:b4):Prop where
 o:iu X e (gd F m)
structure fM(X:aK)(F:aZ)(ag:List Expr)(m:aP):Prop where
 o:eR X ag (eo F m)
structure eL(X:aK)(F:aZ)(st:Stmt)(m:a8):Prop where
 o:cU X st (e9 F m)
structure jB(X:aK)(F:aZ)(st:List Stmt)(m:a8):Prop where
 o:fa X st (e9 F m)
structure la(X:aK)(F:aZ)(bu e:Expr)(m:aP):Prop where
 o:f_ X bu e (kl F m)
structure qb(X:aK)(F:aZ)(e:Option Expr)(m:jc):Prop where
 o:p9 X e (rG F m)
section
variable{X:aK}{F:aZ}{e a b c bu iter elt:Expr}{ag:List Expr}{pos p:Pos}{m n:aC}{ma:aP}{st:Stmt}{kk:List Stmt}
theorem ae(i:Nat){x:Str}(hN:X.N[i]?=some x:=by rfl)(hv:eC X.env.scope x:=by first|exact Or.inl rfl|exact Or.inr (Or.inl rfl)|exact Or.inr (Or.inr rfl))(hd:(x==("__debug__" :Str))=false:=by decide)(hcd:(x==("__classdict__" :Str))=false:=by decide):aX X F (.Name x pos) (J i):=⟨ay.M3 (i:=i) (hN:=hN) (hv:=hv) (hd:=hd) (hcd:=hcd)⟩
theorem aG{i:Int}{j}:aX X F (.Constant (.int i) j pos) (au (.int i)):=⟨ay.MB ⟩
theorem k1{i:Bool}{j}:aX X F (.Constant (.bool i) j pos) (au (.aD i)):=⟨ay.Mo ⟩
theorem dt{i:Str}{j}:aX X F (.Constant (.str i) j pos) (au (.str i)):=⟨ay.MW ⟩
theorem hM{j}:aX X F (.Constant .none j pos) (au .non):=⟨ay.MO ⟩
theorem aF:fM X F [] aw:=⟨ay.KO ⟩
theorem ao{m:aC}{r:aP}(h:aX X F e m)(t:fM X F ag r)(hs:notStar e=true:=by rfl):fM X F (e::ag) (af m r):=⟨ay.KN (h:=h.1) (t:=t.1) (hs:=hs)⟩
theorem ei{k}{m:aP}(h:fM X F ag m):aX X F (.Tuple ag k pos) (dJ m):=⟨ay.M0 (h:=h.1)⟩
theorem gg{m:aP}(h:fM X F ag m):j2 X F (.List ag pos) (eV m):=⟨ay.Sj (h:=h.1)⟩
theorem dB{m:aP}(h:j2 X F e m):aX X F e (c4 m):=⟨ay.Mx (h:=h.1)⟩
theorem CT{m:aC}(h:aX X F e m):aX X F e (nz m):=⟨ay.Mp (h:=h.1)⟩
theorem pS{m:b4}(h:e5 X F e m):e5 X F e (gH m):=⟨ay.WD (h:=h.1)⟩
theorem hj{m:aC}(h:aX X F e m)(he:∀whole,isTrue e X.env whole=(do let v ←whole;standAt e.pos;holding [v] (truthy v)):=by intro _;rfl):e5 X F e (bc m):=⟨ay.WS (h:=h.1) (he:=he)⟩
theorem pT{m:b4}(h:e5 X F a m):ot X F (.BoolOp .And [a] pos) m:=⟨ay.Xw (h:=h.1)⟩
theorem k3{m:b4}(h:e5 X F a m):ot X F (.BoolOp .Or [a] pos) m:=⟨ay.Xz (h:=h.1)⟩
theorem n6{m n:b4}(h:e5 X F a m)(k:ot X F (.BoolOp .And (b::ag) pos) n):ot X F (.BoolOp .And (a::b::ag) pos) (iE m n):=⟨ay.w_and (h:=h.1) (k:=k.1)⟩
theorem kq{m n:b4}(h:e5 X F a m)(k:ot X F (.BoolOp .Or (b::ag) pos) n):ot X F (.BoolOp .Or (a::b::ag) pos) (fg m n):=⟨ay.w_or (h:=h.1) (k:=k.1)⟩
theorem hP{m:b4}(h:ot X F e m):e5 X F e m:=⟨ay.WT (h:=h.1)⟩
theorem i_{m:b4}(h:e5 X F a m):e5 X F (.UnaryOp .Not a pos) (eO m):=⟨ay.WO (h:=h.1)⟩
theorem uf{op}{m:aC}(h:aX X F a m):aX X F (.BoolOp op [a] pos) m:=⟨ay.MQ (h:=h.1)⟩
theorem ub{m n:aC}(h:aX X F a m)(k:aX X F (.BoolOp .And (b::ag) pos) n):aX X F (.BoolOp .And (a::b::ag) pos) (lE m n):=⟨ay.Mn (h:=h.1) (k:=k.1)⟩
theorem XX{m:aC}(h:aX X F a m):aX X F (.UnaryOp .Not a pos) (q0 m):=⟨ay.MP (h:=h.1)⟩
theorem CU{k:b4}{m n:aC}(h:e5 X F c k)(ha:aX X F a m)(hb:aX X F b n):aX X F (.IfExp c a b pos) (nC k m n):=⟨ay.Mz (h:=h.1) (ha:=ha.1) (hb:=hb.1)⟩
theorem d3:jB X F [] dg:=⟨ay.U4 ⟩
theorem bo{m n:a8}(h:eL X F st m)(k:jB X F kk n):jB X F (st::kk) (a4 m n):=⟨ay.UX (h:=h.1) (k:=k.1)⟩
theorem bz{m:a8}(h:eL X F st m):jB X F [st] m:=⟨ay.U5 (h:=h.1)⟩
theorem cS{m:aC}(h:aX X F e m):eL X F (.Return (some e) pos) (cw m):=⟨ay.U6 (h:=h.1)⟩
theorem pR{m:aP}(h:j2 X F e m):eL X F (.Return (some e) pos) (g5 m):=⟨ay.U7 (h:=h.1)⟩
theorem C2(i:Nat){x:Str}{p:Pos}(hN:X.N[i]?=some x:=by rfl)(hv:eC X.env.scope x:=by first|exact Or.inl rfl|exact Or.inr (Or.inl rfl)|exact Or.inr (Or.inr rfl))(hd:(x==("__debug__" :Str))=false:=by decide)(hcd:(x==("__classdict__" :Str))=false:=by decide):eL X F (.Return (some (.Name x p)) pos) (g5 (mq i)):=⟨ay.U8 (i:=i) (hN:=hN) (hv:=hv) (hd:=hd) (hcd:=hcd)⟩
theorem d2{k:b4}{m n:a8}{xs ys:List Stmt}(h:e5 X F c k)(ha:jB X F xs m)(hb:jB X F ys n):eL X F (.If c xs ys pos) (c9 k m n):=⟨ay.U3 (h:=h.1) (ha:=ha.1) (hb:=hb.1)⟩
theorem C1{m:a8}(i:Nat)(h:eL X F st m):eL X F st (o4 i m):=⟨ay.U2 (i:=i) (h:=h.1)⟩
theorem di(i:Nat){x:Str}{p:Pos}{m:aC}(hN:X.N.Nodup)(he:aX X F e m)(hi:X.N[i]?=some x:=by rfl)(hx:Loc X.env.scope x:=by first|exact Or.inl rfl|exact Or.inr rfl)(hs:i1 e=true:=by rfl)(hf:X.fn x=true∨X.env.scope.names.lookup x=some .local:=by first|exact .inl rfl|exact .inr rfl):eL X F (.Assign [.Name x p] e pos) (cR i m):=⟨ay.U_ (i:=i) (hN:=hN) (he:=he.1) (hi:=hi) (hx:=hx) (hs:=hs) (hf:=hf)⟩
theorem lU(i:Nat){x:Str}{p:Pos}{m:aP}(hN:X.N.Nodup)(he:j2 X F e m)(hi:X.N[i]?=some x:=by rfl)(hx:Loc X.env.scope x:=by first|exact Or.inl rfl|exact Or.inr rfl)(hs:i1 e=true:=by rfl)(hf:X.fn x=true∨X.env.scope.names.lookup x=some .local:=by first|exact .inl rfl|exact .inr rfl):eL X F (.Assign [.Name x p] e pos) (fH i m):=⟨ay.Vd (i:=i) (hN:=hN) (he:=he.1) (hi:=hi) (hx:=hx) (hs:=hs) (hf:=hf)⟩
theorem rP(ha:aX X F a m)(hb:aX X F b n):aX X F (.BinOp a .Sub b pos) (ai mC m n):=⟨ay.MY (ha:=ha.1) (hb:=hb.1)⟩
theorem ue(ha:aX X F a m)(hb:aX X F b n):aX X F (.BinOp a .Mult b pos) (ai mx m n):=⟨ay.MK (ha:=ha.1) (hb:=hb.1)⟩
theorem f3(ha:aX X F a m)(hb:aX X F b n):aX X F (.BinOp a .FloorDiv b pos) (ai eU m n):=⟨ay.Mv (ha:=ha.1) (hb:=hb.1)⟩
theorem eh(ha:aX X F a m)(hb:aX X F b n):aX X F (.BinOp a .Mod b pos) (ai dN m n):=⟨ay.MJ (ha:=ha.1) (hb:=hb.1)⟩
theorem CW(ha:aX X F a m)(hb:aX X F b n):aX X F (.BinOp a .Pow b pos) (ai nP m n):=⟨ay.MT (ha:=ha.1) (hb:=hb.1)⟩
theorem Ki(ha:aX X F a m)(hb:aX X F b n):e5 X F (.Compare a [.Lt] [b] pos) (bc (ai lD m n)):=⟨ay.WM (ha:=ha.1) (hb:=hb.1)⟩
theorem C6(ha:aX X F a m)(hb:aX X F b n):e5 X F (.Compare a [.Gt] [b] pos) (bc (ai qs m n)):=⟨ay.WJ (ha:=ha.1) (hb:=hb.1)⟩
theorem e0(ha:aX X F a m)(hb:aX X F b n):aX X F (.BinOp a .Add b pos) (ai d9 m n):=⟨ay.Ml (ha:=ha.1) (hb:=hb.1)⟩
theorem gP(hu:X.A.units+64<cLine)(ha:aX X F a m)(hb:aX X F b n)(hK:F.K=X.K:=by rfl):e5 X F (.Compare a [.Eq] [b] pos) (bc (ai (bR true) m n)):=⟨ay.WI (hu:=hu) (ha:=ha.1) (hb:=hb.1) (hK:=hK)⟩
theorem k2(hu:X.A.units+64<cLine)(ha:aX X F a m)(hb:aX X F b n)(hK:F.K=X.K:=by rfl):e5 X F (.Compare a [.NotEq] [b] pos) (bc (ai (bR false) m n)):=⟨ay.WN (hu:=hu) (ha:=ha.1) (hb:=hb.1) (hK:=hK)⟩
theorem lT(hu:X.A.units+64<cLine)(ha:aX X F a m)(hb:aX X F b n)(hK:F.K=X.K:=by rfl):aX X F (.Compare a [.Eq] [b] pos) (ai (bR true) m n):=⟨ay.Mu (hu:=hu) (ha:=ha.1) (hb:=hb.1) (hK:=hK)⟩
theorem CV(hu:X.A.units+64<cLine)(ha:aX X F a m)(hb:aX X F b n)(hK:F.K=X.K:=by rfl):aX X F (.Compare a [.NotEq] [b] pos) (ai (bR false) m n):=⟨ay.MN (hu:=hu) (ha:=ha.1) (hb:=hb.1) (hK:=hK)⟩
theorem Yk(hu:X.A.units+64<cLine)(ha:aX X F a m)(hb:aX X F b n)(hK:F.K=X.K:=by rfl)(hm:behindInMarks .In b=false:=by with_unfolding_all rfl):e5 X F (.Compare a [.In] [b] pos) (bc (ai (inD true) m n)):=⟨ay.WK (hu:=hu) (ha:=ha.1) (hb:=hb.1) (hK:=hK) (hm:=hm)⟩
theorem Kj(hu:X.A.units+64<cLine)(ha:aX X F a m)(hb:aX X F b n)(hK:F.K=X.K:=by rfl)(hm:behindInMarks .NotIn b=false:=by with_unfolding_all rfl):e5 X F (.Compare a [.NotIn] [b] pos) (bc (ai (inD false) m n)):=⟨ay.WQ (hu:=hu) (ha:=ha.1) (hb:=hb.1) (hK:=hK) (hm:=hm)⟩
theorem ud(hu:X.A.units+64<cLine)(ha:aX X F a m)(hb:aX X F b n)(hK:F.K=X.K:=by rfl)(hm:behindInMarks .In b=false:=by with_unfolding_all rfl):aX X F (.Compare a [.In] [b] pos) (ai (inD true) m n):=⟨ay.MA (hu:=hu) (ha:=ha.1) (hb:=hb.1) (hK:=hK) (hm:=hm)⟩
theorem rQ(ha:aX X F a m)(hb:aX X F b n):e5 X F (.Compare a [.Is] [b] pos) (bc (ai (fG true) m n)):=⟨ay.WL (ha:=ha.1) (hb:=hb.1)⟩
theorem Kk(ha:aX X F a m)(hb:aX X F b n):e5 X F (.Compare a [.IsNot] [b] pos) (bc (ai (fG false) m n)):=⟨ay.WR (ha:=ha.1) (hb:=hb.1)⟩
theorem J0(ha:aX X F a m)(hb:aX X F b n):aX X F (.Compare a [.Is] [b] pos) (ai (fG true) m n):=⟨ay.MC (ha:=ha.1) (hb:=hb.1)⟩
theorem XQ{op fW:CmpOp}{r br:ea}{f g:D→D→R D}{l:aC}(ho:dp X (compareOp op) r)(ho':dp X (compareOp fW) br)(hf:fA F r f)(hg:fA F br g)(ha:aX X F a m)(hb:aX X F b n)(hc:aX X F c l)(hm:lastMarks [op,fW] [b,c]=false:=by with_unfolding_all rfl):aX X F (.Compare a [op,fW] [b,c] pos) (iY f g m n l):=⟨ay.Mt (ho:=ho) (ho':=ho') (hf:=hf) (hg:=hg) (ha:=ha.1) (hb:=hb.1) (hc:=hc.1) (hm:=hm)⟩
theorem Kh{op fW:CmpOp}{r br:ea}{f g:D→D→R D}{l:aC}(ho:dp X (compareOp op) r)(ho':dp X (compareOp fW) br)(hf:fA F r f)(hg:fA F br g)(ha:aX X F a m)(hb:aX X F b n)(hc:aX X F c l)(hm:lastMarks [op,fW] [b,c]=false:=by with_unfolding_all rfl):e5 X F (.Compare a [op,fW] [b,c] pos) (bc (iY f g m n l)):=⟨ay.WE (ho:=ho) (ho':=ho') (hf:=hf) (hg:=hg) (ha:=ha.1) (hb:=hb.1) (hc:=hc.1) (hm:=hm)⟩
theorem eJ(hm:X.mg "len"=none)(ha:fM X F [e] ma)(hK:F.K=X.K:=by rfl)(hg:da X "len":=by rfl)(he:starEach [e] X.env=(false,eval e X.env)::starEach [] X.env:=by rfl)(hpl:(backTo pos (starEach [] X.env)).any (·.1)=false:=by rfl):aX X F (.Call (.Name "len" p) [e] [] pos) (ct df ma):=⟨ay.MF (hm:=hm) (ha:=ha.1) (hK:=hK) (hg:=hg) (he:=he) (hpl:=hpl)⟩
theorem n2{U:Str}{T:String}{bW:Pos}(tt:mW X.K T)(hm:X.mg "isinstance"=none)(hmU:X.mg U=none)(hU:bootBuiltins U=some (.type T))(ha:aX X F a m)(hK:F.K=X.K:=by rfl)(hg:da X "isinstance":=by rfl)(hgU:da X U:=by rfl)(hnU:U≠"__name__":=by decide)(hdU:(U==("__debug__" :Str))=false:=by decide)(hs2:starEach [.Name U bW] X.env=(false,eval (.Name U bW) X.env)::starEach [] X.env:=by rfl)(he:starEach [a,.Name U bW] X.env=(false,eval a X.env)::starEach [.Name U bW] X.env:=by rfl)(hpl:(backTo pos (starEach [.Name U bW] X.env)).any (·.1)=false:=by rfl):aX X F (.Call (.Name "isinstance" p) [a,.Name U bW] [] pos) (eX (iB T) m):=⟨ay.MD (tt:=tt) (hm:=hm) (hmU:=hmU) (hU:=hU) (ha:=ha.1) (hK:=hK) (hg:=hg) (hgU:=hgU) (hnU:=hnU) (hdU:=hdU) (hs2:=hs2) (he:=he) (hpl:=hpl)⟩
theorem bw(ha:aX X F a m)(hb:aX X F b n)(hs:oh b)(hK:F.K=X.K:=by rfl):aX X F (.Subscript a b pos) (ai az m n):=⟨ay.ME (ha:=ha.1) (hb:=hb.1) (hs:=hs) (hK:=hK)⟩
theorem Kc:qb X F none qZ:=⟨ay.S3 ⟩
theorem xm(h:aX X F e m):qb X F (some e) (mm m):=⟨ay.S4 (h:=h.1)⟩
theorem J6{lo hi:Option Expr}{bW:Pos}{kS kR:jc}(ha:aX X F a m)(hl:qb X F lo kS)(hh:qb X F hi kR)(hK:F.K=X.K:=by rfl):aX X F (.Subscript a (.Slice lo hi none bW) pos) (jS nX m kS kR):=⟨ay.MU (ha:=ha.1) (hl:=hl.1) (hh:=hh.1) (hK:=hK)⟩
theorem X0(hm:X.mg "str"=none)(ha:fM X F [e] ma)(hg:da X "str":=by rfl)(he:starEach [e] X.env=(false,eval e X.env)::starEach [] X.env:=by rfl)(hpl:(backTo pos (starEach [] X.env)).any (·.1)=false:=by rfl):aX X F (.Call (.Name "str" p) [e] [] pos) (ct pH ma):=⟨ay.MX (hm:=hm) (ha:=ha.1) (hg:=hg) (he:=he) (hpl:=hpl)⟩
theorem kp(h:aX X F e m)(hK:F.K=X.K:=by rfl):la X F bu e (g4 m):=⟨ay.Xy (h:=h.1) (hK:=hK)⟩
theorem Yn(h:aX X F e m)(hK:F.K=X.K:=by rfl):la X F bu e (o6 m):=⟨ay.XD (h:=h.1) (hK:=hK)⟩
theorem Ym(h:aX X F e m):la X F bu e (qU m):=⟨ay.XC (h:=h.1)⟩
theorem f6(hm:X.mg "range"=none)(ha:fM X F [a] ma)(hg:da X "range":=by rfl)(hs:starEach [a] X.env=[(false,eval a X.env)]:=by rfl):la X F bu (.Call (.Name "range" p) [a] [] pos) (eW ma):=⟨ay.XA (hm:=hm) (ha:=ha.1) (hg:=hg) (hs:=hs)⟩
theorem Yl(hm:X.mg "range"=none)(ha:fM X F [a,b] ma)(hg:da X "range":=by rfl)(hs:starEach [a,b] X.env=[(false,eval a X.env),(false,eval b X.env)]:=by rfl)(hs2:starEach [b] X.env=[(false,eval b X.env)]:=by rfl):la X F bu (.Call (.Name "range" p) [a,b] [] pos) (q4 ma):=⟨ay.XB (hm:=hm) (ha:=ha.1) (hg:=hg) (hs:=hs) (hs2:=hs2)⟩
theorem Kl{elts:List Expr}{k:Nat}{pO:Pos}(hm:X.mg "enumerate"=none)(ha:fM X F [a] ma)(hK:F.K=X.K:=by rfl)(hg:da X "enumerate":=by rfl)(hs:starEach [a] X.env=[(false,eval a X.env)]:=by rfl):la X F (.Tuple elts k pO) (.Call (.Name "enumerate" p) [a] [] pos) (o5 ma):=⟨ay.Xx (hm:=hm) (ha:=ha.1) (hK:=hK) (hg:=hg) (hs:=hs)⟩
theorem Yo{elts:List Expr}{k:Nat}{pO:Pos}(hm:X.mg "zip"=none)(ha:fM X F [a,b] ma)(hK:F.K=X.K:=by rfl)(hg:da X "zip":=by rfl)(hs:starEach [a,b] X.env=[(false,eval a X.env),(false,eval b X.env)]:=by rfl)(hs2:starEach [b] X.env=[(false,eval b X.env)]:=by rfl):la X F (.Tuple elts k pO) (.Call (.Name "zip" p) [a,b] [] pos) (qV ma):=⟨ay.XE (hm:=hm) (ha:=ha.1) (hK:=hK) (hg:=hg) (hs:=hs) (hs2:=hs2)⟩
theorem f5{body:List Stmt}{mi:aP}{set:D→ak→R ak}{dq:a8}(hp:PassesOwn (model X.prog X.w) X.A X.env X.xe)(hi:la X F bu iter mi)(hg:GM X bu set)(hb:jB X F body dq)(hc:X.calm=true:=by rfl)(hK:F.K=X.K:=by rfl)(hs:∀x,foldedSetIterable iter X.env x=pure x:=by intro _;rfl):eL X F (.For bu iter body [] pos) (d7 mi set dq):=⟨ay.U1 (hp:=hp) (hi:=hi.1) (hg:=hg) (hb:=hb.1) (hc:=hc) (hK:=hK) (hs:=hs)⟩
theorem C3{st:Stmt}{i:Nat}{a:aP}(h:eL X F st (fH i a)):eL X F st (nE i a):=⟨ay.Vc (h:=h.1)⟩
theorem xk{k:Nat}(hr:dE k X.A)(hm:X.mg "all"=none)(ha:fM X F [e] ma)(hc:X.calm=true:=by rfl)(hg:da X "all":=by rfl)(he:starEach [e] X.env=(false,eval e X.env)::starEach [] X.env:=by rfl)(hpl:(backTo pos (starEach [] X.env)).any (·.1)=false:=by rfl):aX X F (.Call (.Name "all" p) [e] [] pos) (ct dx ma):=⟨ay.Mm (hr:=hr) (hm:=hm) (ha:=ha.1) (hc:=hc) (hg:=hg) (he:=he) (hpl:=hpl)⟩
theorem n4 (i:Nat) {x:Str} {aH:Pos} {apos:Pos} {bC:Pos} (he:aX X F e m) (hN:X.N[i]?=some x:=by rfl) (hv:eC X.env.scope x:=by first|exact Or.inl rfl|exact Or.inr (Or.inl rfl)|exact Or.inr (Or.inr rfl)) (hd:(x==("__debug__" :Str))=false:=by decide) (hcd:(x==("__classdict__" :Str))=false:=by decide) (hbase:attributeBase (.Name x aH) "append" X.env (eval (.Name x aH) X.env)=eval (.Name x aH) X.env:=by rfl) (hline:(apos.endLine==bC.line)=true:=by rfl) (hfew:((backTo bC (starEach [e] X.env)).all (fun x=>!x.1)&&(backToKw bC (keywordEach [] X.env)).all (fun x=>x.1.isSome)
   &&decide (([e]:List Expr).length+([]:List Keyword).length+(if([]:List Keyword).isEmpty then 0 else 1)<30))=true:=by rfl) (hs:starEach [e] X.env=(false,eval e X.env)::starEach [] X.env:=by rfl) (hplain:(backTo bC (starEach [] X.env)).any (·.1)=false:=by rfl) (hK:F.K=X.K:=by rfl):eL X F (.Expr (.Call (.Attribute (.Name x aH) "append" apos) [e] [] bC) pos) (jn i m):=⟨ay.UR (i:=i) (he:=he.1) (hN:=hN) (hv:=hv) (hd:=hd) (hcd:=hcd) (hbase:=hbase) (hline:=hline) (hfew:=hfew) (hs:=hs) (hplain:=hplain) (hK:=hK)⟩
theorem c6{x:Str}{n k:Nat}{mf:List D→R b1}(c:c8 X.prog X.w X.K X.mg X.base x n k mf)(hr:dE k X.A)(ha:fM X F (e::ag) ma)(hE:F.e_=fun _ _=>False:=by rfl)(hK:F.K=X.K:=by rfl)(hg:da X x:=by rfl)(hdb:(x==("__debug__" :Str))=false:=by decide)(he:starEach (e::ag) X.env=(false,eval e X.env)::starEach ag X.env:=by rfl)(hpl:(backTo pos (starEach ag X.env)).any (·.1)=false:=by rfl):aX X F (.Call (.Name x p) (e::ag) [] pos) (b8 n mf ma):=⟨ay.Mr (c:=c) (hr:=hr) (ha:=ha.1) (hE:=hE) (hK:=hK) (hg:=hg) (hdb:=hdb) (he:=he) (hpl:=hpl)⟩
theorem hO{x:Str}{n k:Nat}{mf:List D→R b1}(c:c8 X.prog X.w X.K X.mg X.base x n k mf)(hr:dE k X.A)(ha:fM X F (e::ag) ma)(hE:F.e_=fun _ _=>False:=by rfl)(hK:F.K=X.K:=by rfl)(hg:da X x:=by rfl)(hdb:(x==("__debug__" :Str))=false:=by decide)(he:starEach (e::ag) X.env=(false,eval e X.env)::starEach ag X.env:=by rfl)(hpl:(backTo pos (starEach ag X.env)).any (·.1)=false:=by rfl):j2 X F (.Call (.Name x p) (e::ag) [] pos) (fV n mf ma):=⟨ay.Se (c:=c) (hr:=hr) (ha:=ha.1) (hE:=hE) (hK:=hK) (hg:=hg) (hdb:=hdb) (he:=he) (hpl:=hpl)⟩
variable{scope:Scope}{N:List Str}
abbrev Dc(X:aK)(scope:Scope)(N:List Str)(e:Expr)(m:aC):Prop:=∀cl C s H aE cu bL,aX (eS X scope N cl C s H aE) (fF X.K cu bL) e m
theorem rO{mt:b4}(h:∀cl C s H aE cu bL,e5 (eS X scope N cl C s H aE) (fF X.K cu bL) c mt):k6 X scope N [c] mt:=ay.Ld fun cl C s H aE cu bL=>(h cl C s H aE cu bL).1
theorem i9(nl:Nat)(caps:List Nat){ifs:List Expr}{mi:aP}{set:D→ak→R ak}{mt:b4}{fi:aC}(S:ql X.env.scope X.N scope N nl caps=true)(hi:la X F bu iter mi)(hg:n7 X scope N bu set)(ht:k6 X scope N ifs mt)(he:Dc X scope N elt fi)(hc:X.calm=true:=by rfl)(hK:F.K=X.K:=by rfl)(hs:∀x,foldedSetIterable iter X.env x=pure x:=by intro _;rfl):j2 X F (.ListComp elt [⟨bu,iter,ifs,0⟩] scope pos) (d6 nl caps mi set mt fi):=
 ⟨ay.Sh nl caps S hi.1 hg ht (fun cl C s H aE cu bL=>(he cl C s H aE cu bL).1) hc hK hs⟩
theorem C0(i:Nat)(nl:Nat)(caps:List Nat){y:Str}{py:Pos}{ifs:List Expr}{mi:aP}{set:D→ak→R ak}{mt:b4}{fi:aC}{bC:Pos}(hN:X.N.Nodup)(S:ql X.env.scope X.N scope N nl caps=true)(hi:la X F bu iter mi)(hg:n7 X scope N bu set)(ht:k6 X scope N ifs mt)(he:Dc X scope N elt fi)(cK:X.N[i]?=some y:=by rfl)(hl:X.env.kindOf y=some .local:=by rfl)(oT:swapsWith (.ListComp elt [⟨bu,iter,ifs,0⟩] scope bC) (some (.Name y py)) pos.line X.env=pure true:=by rfl)(hc:X.calm=true:=by rfl)(hK:F.K=X.K:=by rfl)(hs:∀x,foldedSetIterable iter X.env x=pure x:=by intro _;rfl) :
  eL X F (.Assign [.Name y py] (.ListComp elt [⟨bu,iter,ifs,0⟩] scope bC) pos) (fH i (d6 nl caps mi set mt fi)):=
 ⟨ay.UW i nl caps hN S hi.1 hg ht (fun cl C s H aE cu bL=>(he cl C s H aE cu bL).1) cK hl oT hc hK hs⟩
end
theorem dI{P:Program}{w:World}{K:PySem.W.Frag}{mg:Str→Option Value}{base:Heap}{x:Str}{st:Stmt}{N aU:List Str}{k:Nat}{m:a8}(d:c7 K mg x st aU)(S:cN N aU (bQ st))(h:∀(f:Addr)(b9:Value)(A:Around)(outer:List Env)(s:Shared)(H:ah)(E:dc),dE k (A.deeper (PyProof.Rows.envOfC x (bQ st) s.heap.objs.size f b9))→∀cu bL,jB (iT gk P w K mg base N x (bQ st) f b9 A outer s H E).jU (fF K cu bL) (fO st) m) :
  c8 P w K mg base x aU.length (k+1) (cZ N.length m):=ay.LR d S fun f b9 A outer s H E hr cu bL=>(h f b9 A outer s H E hr cu bL).1
structure n8(K:PySem.W.Frag)(mg:Str→Option Value)(x:Str)(d:D):Prop where
 ex:∃(v:V)(u:Value),mg x=some u∧RelV v u∧∀G,At K G d v
theorem mJ{X:aK}{F:aZ}{x:Str}{d:D}{pos:Pos}(c:n8 X.K X.mg x d)(hK:F.K=X.K:=by rfl)(hg:da X x:=by rfl)(hd:(x==("__debug__" :Str))=false:=by decide):aX X F (.Name x pos) (au d):=by obtain⟨v,u,h1,h2,h3⟩:=c.ex;exact⟨ay.My h1 h2 (by rw[hK];exact h3) hg hd⟩
end ay
namespace aS
open PySem PySem.Spec PyProof.Rows
section
variable{X:aK}{bu:Expr}
noncomputable def Dd(a b c:Int):Prop:=c≠0∧Builtin.Range.small a b c=true∧0≤Builtin.Range.rangeSize a b c∧Builtin.divisionGoesByPylong (b-a) c=false
instance(a b c:Int):Decidable (Dd a b c):=by unfold Dd;infer_instance
end
section
variable{X:aK}{a e:Expr}{cb:es}{pos p pos' ZX:Pos}
end
end aS
namespace ay
open PySem PySem.Spec aS
abbrev eQ:=ak→R (D×ak)
abbrev iN:=ak→R (List D×ak)
noncomputable def Ql(F:aZ)(G:ah)(σ :St)(Q:cI):R (D×ak)→Prop
 |.ok (d,bh)=>∀v H' G',Rel F G' H' σ bh→Sub G G'→At F.K G' d v→Q v H'
 |.exc c=>iD F c
 |.bad=>False
noncomputable def Qj(F:aZ)(G:ah)(σ :St)(Q:List V→ah→Prop):R (List D×ak)→Prop
 |.ok (d,bh)=>∀v H' G',Rel F G' H' σ bh→Sub G G'→aI F.K G' d v→Q v H'
 |.exc c=>iD F c
 |.bad=>False
def pM(F:aZ)(m:eQ):TE:=fun σ H Q=>∃G ρ,Rel F G H σ ρ∧Ql F G σ Q (m ρ)
def rF(F:aZ)(m:iN):es:=fun σ H Q=>∃G ρ,Rel F G H σ ρ∧Qj F G σ Q (m ρ)
def lf(m:aC):eQ:=fun ρ=>(m ρ).bind fun d=>.ok (d,ρ)
def qL(m:aP):iN:=fun ρ=>(m ρ).bind fun d=>.ok (d,ρ)
section
variable{F:aZ}
theorem Pa{m:aC}:ej (pM F (lf m)) (cY F m):=by
 rintro σ H Q ⟨G,ρ,r,h⟩;refine⟨G,ρ,r,?_⟩;unfold lf at h;cases ar:m ρ with
 |bad=>rw[ar]at h;exact h.elim
 |exc c=>rw[ar]at h;exact h
 |ok d=>rw[ar]at h;exact fun v H' G' br u a=>h v H' G' br u.g a
theorem Pb{m:aP}:p4 (rF F (qL m)) (eo F m):=by
 rintro σ H Q ⟨G,ρ,r,h⟩;refine⟨G,ρ,r,?_⟩;unfold qL at h;cases ar:m ρ with
 |bad=>rw[ar]at h;exact h.elim
 |exc c=>rw[ar]at h;exact h
 |ok d=>rw[ar]at h;exact fun v H' G' br u a=>h v H' G' br u.g a
def o2(a:eQ)(r:iN):iN:=fun ρ=>(a ρ).bind fun x=>(r x.2).bind fun y=>.ok (x.1::y.1,y.2)
theorem OZ{ma:eQ}{pg:iN}:p4 (rF F (o2 ma pg)) (Ce (pM F ma) (rF F pg)):=by
 rintro σ H Q ⟨G,ρ,r,h⟩;unfold o2 at h;refine⟨G,ρ,r,?_⟩;cases ar:ma ρ with
 |bad=>rw[ar]at h;exact h.elim
 |exc c=>rw[ar]at h;exact h
 |ok x=>
  obtain⟨a0,dn⟩:=x;rw[ar,R.bl]at h;intro x H1 aN av s1 bF;refine⟨aN,dn,av,?_⟩;cases bq:pg dn with
  |bad=>simp only[bq]at h;exact h.elim
  |exc c=>simp only[bq]at h;exact h
  |ok y=>obtain⟨eN,dR⟩:=y;simp only[bq,R.bl]at h;intro y aM cE bg s2 b5;exact h (x::y) aM cE bg (s1.trans s2) (.cons (bF.mono s2) b5)
def pa(m:iN):eQ:=fun ρ=>(m ρ).bind fun x=>if x.1.length≤1000000 then .ok (.tup x.1,x.2)else .bad
theorem PG{m:iN}:ej (pM F (pa m)) (Cp (rF F m)):=by
 rintro σ H Q ⟨G,ρ,r,h⟩;unfold pa at h;refine⟨G,ρ,r,?_⟩;cases ar:m ρ with
 |bad=>rw[ar]at h;exact h.elim
 |exc c=>rw[ar]at h;exact h
 |ok x=>
  obtain⟨ds,dn⟩:=x;rw[ar,R.bl]at h;intro vs H1 aN av s1 a;by_cases hl:ds.length≤1000000
  ·simp only[if_pos hl]at h;refine⟨by rw[←a.length];exact Nat.le_trans hl (by decide),fun p hp=>?_⟩;refine h (.ref p) _ _ (av.lay hp) (s1.trans (Sub.upd (av.aL.sub.gone hp))) ?_;simp only[At];exact⟨p,vs,rfl,dA,a.mono (Sub.upd (av.aL.sub.gone hp))⟩
  ·simp only[if_neg hl]at h;exact h.elim
def q5(i:Nat)(a:eQ):a8:=fun ρ=>(a ρ).bind fun x=>(bB i x.1 x.2).bind fun bh=>.ok (.bj bh)
theorem Pz{i:Nat}{a:eQ}:gR (e9 F (q5 i a)) (mD (pM F a) (iz i)):=by
 rintro bO σ H ⟨G,ρ,r,h⟩;unfold q5 bB at h;refine⟨G,ρ,r,?_⟩;cases ar:a ρ with
 |bad=>rw[ar]at h;exact h.elim
 |exc c=>rw[ar]at h;exact h
 |ok x=>
  obtain⟨d,dn⟩:=x;rw[ar,R.bl]at h;intro v H1 aN av s1 bf;by_cases hi:i<dn.length
  ·simp only[if_pos hi]at h;exact h _ aN H1 (av.set hi bf) s1
  ·simp only[if_neg hi]at h;exact h.elim
def o3(a:eQ):a8:=fun ρ=>(a ρ).bind fun x=>.ok (.bj x.2)
theorem O3{a:eQ}:gR (e9 F (o3 a)) (Jn (pM F a)):=by
 rintro bO σ H ⟨G,ρ,r,h⟩;unfold o3 at h;refine⟨G,ρ,r,?_⟩;cases ar:a ρ with
 |bad=>rw[ar]at h;exact h.elim
 |exc c=>rw[ar]at h;exact h
 |ok x=>obtain⟨d,dn⟩:=x;rw[ar]at h;exact fun v H' G' br s' _=>h σ G' H' br s'
end
section
variable{F:aZ}
def del(H:ah)(a:Addr):ah:=fun b=>if b=a then none else H b
theorem LZ{H:ah}{a:Addr}:del H a a=none:=by simp[del]
theorem LY{H:ah}{a b:Addr}(h:b≠a):del H a b=H b:=by simp[del,h]
theorem Eh(H:ah)(a:Addr):Sub (del H a) H:=fun b o e=>by
 unfold del at e
 split at e
 ·cases e
 ·exact e
theorem Rel.drop{G H:ah}{σ :St}{ρ:ak}(r:Rel F G H σ ρ)(i:Nat):Rel F G H σ (ρ.set i .un):=by
 by_cases hi:i<ρ.length
 ·have hs:i< σ.length:=by rw[r.len];exact hi
  have z:=r.ry (s:=.un) (o:= σ[i]) hi trivial fun _ f=>f.elim;rw[ay.wU (List.getElem?_eq_getElem hs)]at z;exact z
 ·rw[List.set_eq_of_length_le (by omega)];exact r
end
section
variable{F:aZ}
end
end ay
namespace ay
open PySem PySem.Spec aS PyProof.Rows
abbrev mN(X:aK)(F:aZ)(e:Expr)(m:eQ):Prop:=a3 X e (pM F m)
abbrev uh(X:aK)(F:aZ)(ag:List Expr)(m:iN):Prop:=eR X ag (rF F m)
theorem aI.erase{K:PySem.W.Frag}{G:ah}{ds:List D}{xs:List V}(n:Nat)(q:aI K G ds xs):aI K G (ds.eraseIdx n) (xs.eraseIdx n):=by rw[List.eraseIdx_eq_take_drop_succ,List.eraseIdx_eq_take_drop_succ];exact(q.take n).append (q.drop (n+1))
theorem aI.L7{K:PySem.W.Frag}{G:ah}{ds:List D}{xs:List V}(q:aI K G ds xs):aI K G ds.dropLast xs.dropLast:=by rw[List.dropLast_eq_take,List.dropLast_eq_take,q.length];exact q.take _
section
variable{X:aK}{F:aZ}{e a b c:Expr}{ag:List Expr}{pos p:Pos}{m n:aC}{ma:aP}
noncomputable def o7(i:Nat)(m:aC):eQ:=fun ρ=>(ownAt i ρ).bind fun ds=>(m ρ).bind fun d=>match d with
 |.int k=>if-(2^63)≤k∧k<2^63 then match seqIndex? k ds.length with
  |some j=>match ds[j]? with
   |some y=>.ok (y,ρ.set i (.c_ (ds.eraseIdx j)))
   |none=>.bad
  |none=>.bad
  else .bad
 |_=>.bad
theorem MS (i:Nat) {x:Str} {aH:Pos} {apos:Pos} {bC:Pos} (he:a9 X F e m) (hN:X.N[i]?=some x:=by rfl) (hv:eC X.env.scope x:=by first|exact Or.inl rfl|exact Or.inr (Or.inl rfl)|exact Or.inr (Or.inr rfl)) (hd:(x==("__debug__" :Str))=false:=by decide) (hcd:(x==("__classdict__" :Str))=false:=by decide)(hbase:attributeBase (.Name x aH) "pop" X.env (eval (.Name x aH) X.env)=eval (.Name x aH) X.env:=by rfl) (hline:(apos.endLine==bC.line)=true:=by rfl)(hfew:((backTo bC (starEach [e] X.env)).all (fun x=>!x.1)&&(backToKw bC (keywordEach [] X.env)).all (fun x=>x.1.isSome)
    &&decide (([e]:List Expr).length+([]:List Keyword).length+(if([]:List Keyword).isEmpty then 0 else 1)<30))=true:=by rfl)
  (hs:starEach [e] X.env=(false,eval e X.env)::starEach [] X.env:=by rfl) (hplain:(backTo bC (starEach [] X.env)).any (·.1)=false:=by rfl) :
  mN X F (.Call (.Attribute (.Name x aH) "pop" apos) [e] [] bC) (o7 i m):=by
 refine a3.imp (pw PySem.F.plainAttrs_list PySem.F.slot_list_pop PySem.F.type_list_pop RO (hI hN hv hd hcd) (gb he i3 hs) hbase hfew hline hs hplain) ?_;rintro σ H Q ⟨G,ρ,r,h⟩;unfold o7 ownAt at h;cases cq:ρ[i]? with
 |none=>rw[cq]at h;exact h.elim
 |some s=>
  rw[cq]at h;cases s with
  |un=>exact h.elim
  |aq _=>exact h.elim
  |bG _=>exact h.elim
  |aR aR=>
   cases aR with
   |a_ _ _=>exact h.elim
   |ins _ _ _=>exact h.elim
   |lst ds=>
    obtain⟨q,xs,aj,h1,h2,h3,h4⟩:=r.own cq;rw[R.bl]at h;refine⟨.ref q,aj,.inl ⟨rfl,xs,bS.of h1⟩,G,ρ,r,?_⟩;cases ar:m ρ with
    |bad=>rw[ar]at h;exact h.elim
    |exc c=>rw[ar]at h;exact h
    |ok d=>
     rw[ar,R.bl]at h;intro v H1 aN av s1 bf;obtain⟨i4,iq,gF,cQ,cB,zu,kb⟩:=av.own cq;rw[aj]at gF;cases gF;cases d with
     |int k=>
      simp only[At]at bf;subst bf;simp only at h
      split at h
      ·rename_i hk
       split at h
       ·rename_i j jh
        split at h
        ·rename_i y cX;obtain⟨w,eu,gB⟩:=kb.get cX;refine⟨q,iq,k,j,w,rfl,rfl,cQ,hk.1,hk.2,by rw[←kb.length];exact jh,eu,?_⟩;exact h w _ aN (av.mut cq aj (kb.erase j)) s1.g gB
        ·exact h.elim
       ·exact h.elim
      ·exact h.elim
     |_=>exact h.elim
noncomputable def q2(i:Nat):eQ:=fun ρ=>(ownAt i ρ).bind fun ds=>match ds[ds.length-1]? with
 |some y=>.ok (y,ρ.set i (.c_ ds.dropLast))
 |none=>.bad
theorem MR(i:Nat){x:Str}{aH:Pos}{apos:Pos}{bC:Pos}(hN:X.N[i]?=some x:=by rfl)(hv:eC X.env.scope x:=by first|exact Or.inl rfl|exact Or.inr (Or.inl rfl)|exact Or.inr (Or.inr rfl))(hd:(x==("__debug__" :Str))=false:=by decide)(hcd:(x==("__classdict__" :Str))=false:=by decide)(hbase:attributeBase (.Name x aH) "pop" X.env (eval (.Name x aH) X.env)=eval (.Name x aH) X.env:=by rfl)(hline:(apos.endLine==bC.line)=true:=by rfl) :
  mN X F (.Call (.Attribute (.Name x aH) "pop" apos) [] [] bC) (q2 i):=by
 refine a3.imp (Tc PySem.F.plainAttrs_list PySem.F.slot_list_pop PySem.F.type_list_pop RN (hI hN hv hd hcd) hbase hline) ?_;rintro σ H Q ⟨G,ρ,r,h⟩;unfold q2 ownAt at h;cases cq:ρ[i]? with
 |none=>rw[cq]at h;exact h.elim
 |some s=>
  rw[cq]at h;cases s with
  |un=>exact h.elim
  |aq _=>exact h.elim
  |bG _=>exact h.elim
  |aR aR=>
   cases aR with
   |a_ _ _=>exact h.elim
   |ins _ _ _=>exact h.elim
   |lst ds=>
    obtain⟨q,xs,aj,h1,h2,h3,h4⟩:=r.own cq;rw[R.bl]at h;refine⟨.ref q,aj,.inl ⟨rfl,xs,bS.of h1⟩,?_⟩
    split at h
    ·rename_i y cX;obtain⟨w,eu,gB⟩:=h4.get cX;exact⟨q,xs,w,rfl,rfl,h1,by rw[←h4.length];exact eu,h w _ G (r.mut cq aj h4.L7) (Sub.refl _) gB⟩
    ·exact h.elim
noncomputable def sX(i:Nat)(m:eQ):a8:=fun ρ=>(ownAt i ρ).bind fun _=>(m ρ).bind fun x=>(ownAt i x.2).bind fun ds=>if ds.length<1000000 then .ok (.bj (x.2.set i (.c_ (ds++[x.1]))))else .bad
theorem US (i:Nat) {x:Str} {aH:Pos} {apos:Pos} {bC:Pos} {m:eQ} (he:mN X F e m) (hN:X.N[i]?=some x:=by rfl) (hv:eC X.env.scope x:=by first|exact Or.inl rfl|exact Or.inr (Or.inl rfl)|exact Or.inr (Or.inr rfl)) (hd:(x==("__debug__" :Str))=false:=by decide) (hcd:(x==("__classdict__" :Str))=false:=by decide)(hbase:attributeBase (.Name x aH) "append" X.env (eval (.Name x aH) X.env)=eval (.Name x aH) X.env:=by rfl) (hline:(apos.endLine==bC.line)=true:=by rfl)(hfew:((backTo bC (starEach [e] X.env)).all (fun x=>!x.1)&&(backToKw bC (keywordEach [] X.env)).all (fun x=>x.1.isSome)
    &&decide (([e]:List Expr).length+([]:List Keyword).length+(if([]:List Keyword).isEmpty then 0 else 1)<30))=true:=by rfl)
  (hs:starEach [e] X.env=(false,eval e X.env)::starEach [] X.env:=by rfl) (hplain:(backTo bC (starEach [] X.env)).any (·.1)=false:=by rfl) :
  fB X F (.Expr (.Call (.Attribute (.Name x aH) "append" apos) [e] [] bC) pos) (sX i m):=by
 refine cU.imp (ro (pw PySem.F.plainAttrs_list PySem.F.slot_list_append PySem.F.type_list_append tn (hI hN hv hd hcd) (gb he i3 hs) hbase hfew hline hs hplain) (jt _ _ _ _ rfl)) ?_;rintro bO σ H ⟨G,ρ,r,h⟩;unfold sX ownAt at h;cases cq:ρ[i]? with
 |none=>rw[cq]at h;exact h.elim
 |some s=>
  rw[cq]at h;cases s with
  |un=>exact h.elim
  |aq _=>exact h.elim
  |bG _=>exact h.elim
  |aR aR=>
   cases aR with
   |a_ _ _=>exact h.elim
   |ins _ _ _=>exact h.elim
   |lst YU=>
    obtain⟨q,xs,aj,h1,h2,h3,h4⟩:=r.own cq;rw[R.bl]at h;refine⟨.ref q,aj,.inl ⟨rfl,xs,bS.of h1⟩,G,ρ,r,?_⟩;cases ar:m ρ with
    |bad=>rw[ar]at h;exact h.elim
    |exc c=>rw[ar]at h;exact h
    |ok y=>
     obtain⟨d,dn⟩:=y;rw[ar,R.bl]at h;intro v H1 aN av s1 bf;simp only at h;cases u7:dn[i]? with
     |none=>rw[u7]at h;exact h.elim
     |some s=>
      rw[u7]at h;cases s with
      |un=>exact h.elim
      |aq _=>exact h.elim
      |bG _=>exact h.elim
      |aR aR=>
       cases aR with
       |a_ _ _=>exact h.elim
       |ins _ _ _=>exact h.elim
       |lst ds=>
        rw[R.bl]at h;obtain⟨i4,iq,gF,cQ,cB,zu,kb⟩:=av.own u7;rw[aj]at gF;cases gF;by_cases hl:ds.length<1000000
        ·rw[if_pos hl]at h;refine⟨q,iq,v,rfl,rfl,cQ,by rw[←kb.length];exact Nat.lt_trans hl (by decide),?_⟩;exact h σ aN _ (av.mut u7 aj (kb.snoc bf)) s1
        ·rw[if_neg hl]at h;exact h.elim
def nv:List D→R (List D)
 |[.lst xs]=>.ok xs
 |[.bY xs]=>.ok xs
 |[.tup xs]=>.ok xs
 |_=>.bad
def iZ(m:aP):aP:=fun ρ=>(m ρ).bind nv
theorem Pd(hK:F.K=X.K):ej (i7 F (iZ ma)) (w2 (fun xs H Q=>∃p ys,xs=[.ref p]∧(bS X.K H p ys∨cv X.K H p ys)∧∀l,H l=none→Q (.ref l) (upd H l (.lst ys))) (eo F ma)):=by
 rintro σ H Q ⟨G,ρ,r,h⟩;unfold iZ at h;refine⟨G,ρ,r,?_⟩;cases ar:ma ρ with
 |bad=>rw[ar]at h;exact h.elim
 |exc c=>rw[ar]at h;exact h
 |ok ds=>
  rw[ar,R.bl]at h;intro vs H1 aN av s1 a;unfold nv at h
  split at h
  ·obtain⟨v,rfl,bf⟩:=a.one;simp only[At]at bf;obtain⟨q,xs,rfl,aO,gp⟩:=bf;refine⟨q,xs,rfl,.inl (bS.of (av.aL.sub _ _ aO)),fun l hl=>?_⟩;exact h l xs _ aN (av.lay0 hl) (s1.trans (bT.lay0 hl)) (s1.h.gone hl) dA (av.aL.sub.gone hl) gp
  ·obtain⟨v,rfl,bf⟩:=a.one;simp only[At]at bf;obtain⟨q,xs,rfl,aO,gp⟩:=bf;refine⟨q,xs,rfl,.inl (by rw[←hK];exact bS.mono av.aL.sub aO),fun l hl=>?_⟩;exact h l xs _ aN (av.lay0 hl) (s1.trans (bT.lay0 hl)) (s1.h.gone hl) dA (av.aL.sub.gone hl) gp
  ·obtain⟨v,rfl,bf⟩:=a.one;simp only[At]at bf;obtain⟨q,xs,rfl,aO,gp⟩:=bf;refine⟨q,xs,rfl,.inr (cv.of (av.aL.sub _ _ aO)),fun l hl=>?_⟩;exact h l xs _ aN (av.lay0 hl) (s1.trans (bT.lay0 hl)) (s1.h.gone hl) dA (av.aL.sub.gone hl) gp
  ·exact h.elim
theorem Si(hm:X.mg "list"=none)(ha:f7 X F [e] ma)(hK:F.K=X.K:=by rfl)(hg:da X "list":=by rfl)(he:starEach [e] X.env=(false,eval e X.env)::starEach [] X.env:=by rfl)(hpl:(backTo pos (starEach [] X.env)).any (·.1)=false:=by rfl) :
  lW X F (.Call (.Name "list" p) [e] [] pos) (iZ ma):=a3.imp (H0 Lr hg hm (by kernel_rfl) ha (by decide) (by decide) he hpl) (Pd hK)
noncomputable def vM:List D→R (List D)
 |[.int j]=>if-(2^62)≤j∧j≤1000000 then .ok (fI 0 j.toNat)else .bad
 |_=>.bad
def Rt(m:aP):aP:=fun ρ=>(m ρ).bind vM
def pf:List D→R D
 |[.int i,.int j]=>.ok (.int (if j<i then j else i))
 |_=>.bad
def RD:List D→R D
 |[.int i,.int j]=>.ok (.int (if j>i then j else i))
 |_=>.bad
theorem Su:lV F (fun xs H Q=>∃i j,xs=[.int i,.int j]∧Q (.int (if j<i then j else i)) H) pf:=by
 intro σ ρ G H xs ds Q r al k;unfold pf at k
 split at k
 ·exact⟨_,_,al.ints2,k _ H G r (bT.refl _ _) (by simp only[At])⟩
 ·exact k.elim
theorem MI(hm:X.mg "min"=none)(ha:f7 X F [a,b] ma)(hc:X.calm=true:=by rfl)(hg:da X "min":=by rfl)(he:starEach [a,b] X.env=(false,eval a X.env)::starEach [b] X.env:=by rfl)(hpl:(backTo pos (starEach [b] X.env)).any (·.1)=false:=by rfl) :
  a9 X F (.Call (.Name "min" p) [a,b] [] pos) (ct pf ma):=yZ (Ls hc) Su hm (by kernel_rfl) ha hg (by decide) (by decide) he hpl
noncomputable def rI:List D→R D
 |[.int i]=>.ok (.int i)
 |[.aD k]=>.ok (.int (if k then 1 else 0))
 |[.str x]=>if x.length≤640 then match intText? x with|some i=>.ok (.int i)|none=>.bad else .bad
 |_=>.bad
theorem SA:lV F (fun xs H Q=>((∃i,xs=[.int i]∧Q (.int i) H)∨∃k,xs=[.aD k]∧Q (.int (if k then 1 else 0)) H)∨((∃i,xs=[.int i]∧Q (.int i) H)∨∃x i,xs=[.str x]∧x.length≤640∧intText? x=some i∧Q (.int i) H)) rI:=by
 intro σ ρ G H xs ds Q r al k;unfold rI at k
 split at k
 ·rename_i i;exact .inl (.inl ⟨i,al.ints1,k _ H G r (bT.refl _ _) (by simp only[At])⟩)
 ·rename_i c;obtain⟨v,rfl,bf⟩:=al.one;simp only[At]at bf;subst bf;exact .inl (.inr ⟨c,rfl,k _ H G r (bT.refl _ _) (by simp only[At])⟩)
 ·rename_i x
  split at k
  ·rename_i hl
   split at k
   ·rename_i i hi;obtain⟨v,rfl,bf⟩:=al.one;simp only[At]at bf;subst bf;exact .inr (.inr ⟨x,i,rfl,hl,hi,k _ H G r (bT.refl _ _) (by simp only[At])⟩)
   ·exact k.elim
  ·exact k.elim
 ·exact k.elim
theorem MZ(hm:X.mg "int"=none)(ha:f7 X F [e] ma)(hg:da X "int":=by rfl)(he:starEach [e] X.env=(false,eval e X.env)::starEach [] X.env:=by rfl)(hpl:(backTo pos (starEach [] X.env)).any (·.1)=false:=by rfl) :
  a9 X F (.Call (.Name "int" p) [e] [] pos) (ct rI ma):=y0 (Ln.or Lo) SA hm (by kernel_rfl) ha hg (by decide) (by decide) he hpl
def mn(set:D→ak→R ak)(m:aC):a8:=fun ρ=>(m ρ).bind fun d=>(set d ρ).bind fun bh=>.ok (.bj bh)
theorem Ve{bu:Expr}{set:D→ak→R ak}(he:a9 X F e m)(hg:GM X bu set)(hK:F.K=X.K:=by rfl)(hs:swapsWithSole [bu] e pos.line X.env=pure false:=by rfl)(hw:swappedStores [bu] e X.env=pure none:=by rfl)(h1:(assignEach [bu] X.env).map (·.2)=[assign bu X.env]:=by rfl):fB X F (.Assign [bu] e pos) (mn set m):=by
 obtain⟨⟨g,g1,g2⟩,g3,_⟩:=hg;refine cU.imp (AK he g1 hs hw h1) ?_;rintro bO σ H ⟨G,ρ,r,h⟩;unfold mn at h;refine⟨G,ρ,r,?_⟩;cases ar:m ρ with
 |bad=>rw[ar]at h;exact h.elim
 |exc c=>rw[ar]at h;exact h
 |ok d=>
  rw[ar,R.bl]at h;intro v H1 aN av s1 bf;cases ag:set d ρ with
  |bad=>rw[ag]at h;exact h.elim
  |exc c=>exact absurd ag (g3 d ρ c)
  |ok bh=>rw[ag]at h;exact g2 F hK σ ρ aN H1 v d _ bh av bf ag fun σ' br=>h σ' aN H1 br s1.g
theorem Nq(h:a9 X F e m):mN X F e (lf m):=a3.imp h Pa
theorem Nr:uh X F [] (qL aw):=eR.imp i3 (fun σ H Q h=>Gx σ H Q (Pb σ H Q h))
theorem Nn{m:eQ}{r:iN}(h:mN X F e m)(t:uh X F ag r)(hs:notStar e=true:=by rfl):uh X F (e::ag) (o2 m r):=eR.imp (gb h t (wW e ag X.env hs)) OZ
theorem f_tup{k}{m:iN}(h:uh X F ag m):mN X F (.Tuple ag k pos) (pa m):=a3.imp (H4 h) PG
theorem Vb(i:Nat){x:Str}{p:Pos}{m:eQ}(hN:X.N.Nodup)(he:mN X F e m)(hi:X.N[i]?=some x:=by rfl)(hx:Loc X.env.scope x:=by first|exact Or.inl rfl|exact Or.inr rfl)(hs:i1 e=true:=by rfl)(hf:X.fn x=true∨X.env.scope.names.lookup x=some .local:=by first|exact .inl rfl|exact .inr rfl):fB X F (.Assign [.Name x p] e pos) (q5 i m):=
 cU.imp (rq hN hi hx he (jt _ _ _ _ hs) hf) Pz
theorem UZ{m:eQ}(h:mN X F e m)(hs:i1 e=true:=by rfl):fB X F (.Expr e pos) (o3 m):=cU.imp (ro h (jt _ _ _ _ hs)) O3
theorem V2{n:Nat}{mf:List D→R b1}{xe:dc→Str→ah→Prop}{E:dc}{aN H1:ah}{σ :aS.St}{ρ:ak}{ds:List D}{vs:List V}{Q:cI}(hx:F.e_=xe E)(av:Rel F aN H1 σ ρ)(a:aI F.K aN ds vs)(aJ:ds.length=n)(h:jQ F aN H1 σ ρ Q ((mf ds).bind kV)):pG F.K n xe mf vs H1 Q E:=by
 refine⟨aN,ds,av.aL.sub,a,aJ,?_⟩;cases e:mf ds with
 |bad=>rw[e]at h;exact h.elim
 |exc c=>rw[e]at h;intro G' H' k;have z:=h G' H' (eK.of av k).aL;rw[hx]at z;exact z
 |ok t=>
  rw[e,R.bl]at h;cases t with
  |v d=>exact fun v G' H' k bf=>h v H' G' (eK.of av k) ⟨k.fc,k.hh,k.new⟩ bf
  |o ag=>intro p xs G' H' k h1 h2 h3 h4;have h2:H1 p=none:=h2;have br:=eK.of av k;have no:¬cP H' σ ρ p:=cP.fresh av k.hh h2;refine h (.ref p) H' _ (br.take h3 h1 (av.aL.hh.gone h2) no) (bT.put ⟨k.fc,k.hh,k.new⟩ h2 h1) ?_;simp only[At];exact⟨p,xs,rfl,dA,h4.mono (Sub.upd h1)⟩
  |t t=>intro v G' H' k q;obtain⟨a1,a2,e6⟩:=(eK.of av k).JA (F':=⟨F.K,aN,H1,xe E⟩) rfl q ⟨k.fc,k.hh,k.new⟩ fun b hb=>⟨(q.own b hb).2,av.aL.hh.gone (q.own b hb).2,cP.fresh av k.hh (q.own b hb).2⟩;exact h v H' _ a1 a2 e6
end
section
variable{X:aK}{F:aZ}{e a b c:Expr}{ag:List Expr}{pos p:Pos}{m n:aC}{ma:aP}
end
end ay
namespace ay
open PySem PySem.Spec aS
structure mX(X:aK)(F:aZ)(e:Expr)(m:eQ):Prop where
 o:a3 X e (pM F m)
structure uy(X:aK)(F:aZ)(ag:List Expr)(m:iN):Prop where
 o:eR X ag (rF F m)
section
variable{X:aK}{F:aZ}{e a b c bu iter elt:Expr}{ag:List Expr}{pos p:Pos}{m n:aC}{ma:aP}{st:Stmt}{kk:List Stmt}
theorem J4 (i:Nat) {x:Str} {aH:Pos} {apos:Pos} {bC:Pos} (he:aX X F e m) (hN:X.N[i]?=some x:=by rfl) (hv:eC X.env.scope x:=by first|exact Or.inl rfl|exact Or.inr (Or.inl rfl)|exact Or.inr (Or.inr rfl)) (hd:(x==("__debug__" :Str))=false:=by decide) (hcd:(x==("__classdict__" :Str))=false:=by decide) (hbase:attributeBase (.Name x aH) "pop" X.env (eval (.Name x aH) X.env)=eval (.Name x aH) X.env:=by rfl) (hline:(apos.endLine==bC.line)=true:=by rfl) (hfew:((backTo bC (starEach [e] X.env)).all (fun x=>!x.1)&&(backToKw bC (keywordEach [] X.env)).all (fun x=>x.1.isSome)
   &&decide (([e]:List Expr).length+([]:List Keyword).length+(if([]:List Keyword).isEmpty then 0 else 1)<30))=true:=by rfl) (hs:starEach [e] X.env=(false,eval e X.env)::starEach [] X.env:=by rfl) (hplain:(backTo bC (starEach [] X.env)).any (·.1)=false:=by rfl):mX X F (.Call (.Attribute (.Name x aH) "pop" apos) [e] [] bC) (o7 i m):=⟨ay.MS (i:=i) (he:=he.1) (hN:=hN) (hv:=hv) (hd:=hd) (hcd:=hcd) (hbase:=hbase) (hline:=hline) (hfew:=hfew) (hs:=hs) (hplain:=hplain)⟩
theorem J3(i:Nat){x:Str}{aH:Pos}{apos:Pos}{bC:Pos}(hN:X.N[i]?=some x:=by rfl)(hv:eC X.env.scope x:=by first|exact Or.inl rfl|exact Or.inr (Or.inl rfl)|exact Or.inr (Or.inr rfl))(hd:(x==("__debug__" :Str))=false:=by decide)(hcd:(x==("__classdict__" :Str))=false:=by decide)(hbase:attributeBase (.Name x aH) "pop" X.env (eval (.Name x aH) X.env)=eval (.Name x aH) X.env:=by rfl)(hline:(apos.endLine==bC.line)=true:=by rfl):mX X F (.Call (.Attribute (.Name x aH) "pop" apos) [] [] bC) (q2 i):=⟨ay.MR (i:=i) (hN:=hN) (hv:=hv) (hd:=hd) (hcd:=hcd) (hbase:=hbase) (hline:=hline)⟩
theorem Ye (i:Nat) {x:Str} {aH:Pos} {apos:Pos} {bC:Pos} {m:eQ} (he:mX X F e m) (hN:X.N[i]?=some x:=by rfl) (hv:eC X.env.scope x:=by first|exact Or.inl rfl|exact Or.inr (Or.inl rfl)|exact Or.inr (Or.inr rfl)) (hd:(x==("__debug__" :Str))=false:=by decide) (hcd:(x==("__classdict__" :Str))=false:=by decide) (hbase:attributeBase (.Name x aH) "append" X.env (eval (.Name x aH) X.env)=eval (.Name x aH) X.env:=by rfl) (hline:(apos.endLine==bC.line)=true:=by rfl) (hfew:((backTo bC (starEach [e] X.env)).all (fun x=>!x.1)&&(backToKw bC (keywordEach [] X.env)).all (fun x=>x.1.isSome)
   &&decide (([e]:List Expr).length+([]:List Keyword).length+(if([]:List Keyword).isEmpty then 0 else 1)<30))=true:=by rfl) (hs:starEach [e] X.env=(false,eval e X.env)::starEach [] X.env:=by rfl) (hplain:(backTo bC (starEach [] X.env)).any (·.1)=false:=by rfl):eL X F (.Expr (.Call (.Attribute (.Name x aH) "append" apos) [e] [] bC) pos) (sX i m):=⟨ay.US (i:=i) (he:=he.1) (hN:=hN) (hv:=hv) (hd:=hd) (hcd:=hcd) (hbase:=hbase) (hline:=hline) (hfew:=hfew) (hs:=hs) (hplain:=hplain)⟩
theorem mK(hm:X.mg "list"=none)(ha:fM X F [e] ma)(hK:F.K=X.K:=by rfl)(hg:da X "list":=by rfl)(he:starEach [e] X.env=(false,eval e X.env)::starEach [] X.env:=by rfl)(hpl:(backTo pos (starEach [] X.env)).any (·.1)=false:=by rfl):j2 X F (.Call (.Name "list" p) [e] [] pos) (iZ ma):=⟨ay.Si (hm:=hm) (ha:=ha.1) (hK:=hK) (hg:=hg) (he:=he) (hpl:=hpl)⟩
theorem J1(hm:X.mg "min"=none)(ha:fM X F [a,b] ma)(hc:X.calm=true:=by rfl)(hg:da X "min":=by rfl)(he:starEach [a,b] X.env=(false,eval a X.env)::starEach [b] X.env:=by rfl)(hpl:(backTo pos (starEach [b] X.env)).any (·.1)=false:=by rfl):aX X F (.Call (.Name "min" p) [a,b] [] pos) (ct pf ma):=⟨ay.MI (hm:=hm) (ha:=ha.1) (hc:=hc) (hg:=hg) (he:=he) (hpl:=hpl)⟩
theorem X1(hm:X.mg "int"=none)(ha:fM X F [e] ma)(hg:da X "int":=by rfl)(he:starEach [e] X.env=(false,eval e X.env)::starEach [] X.env:=by rfl)(hpl:(backTo pos (starEach [] X.env)).any (·.1)=false:=by rfl):aX X F (.Call (.Name "int" p) [e] [] pos) (ct rI ma):=⟨ay.MZ (hm:=hm) (ha:=ha.1) (hg:=hg) (he:=he) (hpl:=hpl)⟩
theorem xo{bu:Expr}{set:D→ak→R ak}(he:aX X F e m)(hg:GM X bu set)(hK:F.K=X.K:=by rfl)(hs:swapsWithSole [bu] e pos.line X.env=pure false:=by rfl)(hw:swappedStores [bu] e X.env=pure none:=by rfl)(h1:(assignEach [bu] X.env).map (·.2)=[assign bu X.env]:=by rfl):eL X F (.Assign [bu] e pos) (mn set m):=⟨ay.Ve (he:=he.1) (hg:=hg) (hK:=hK) (hs:=hs) (hw:=hw) (h1:=h1)⟩
theorem X3(h:aX X F e m):mX X F e (lf m):=⟨ay.Nq (h:=h.1)⟩
theorem X4:uy X F [] (qL aw):=⟨ay.Nr ⟩
theorem J8{m:eQ}{r:iN}(h:mX X F e m)(t:uy X F ag r)(hs:notStar e=true:=by rfl):uy X F (e::ag) (o2 m r):=⟨ay.Nn (h:=h.1) (t:=t.1) (hs:=hs)⟩
theorem X6{k}{m:iN}(h:uy X F ag m):mX X F (.Tuple ag k pos) (pa m):=⟨ay.f_tup (h:=h.1)⟩
theorem Yi(i:Nat){x:Str}{p:Pos}{m:eQ}(hN:X.N.Nodup)(he:mX X F e m)(hi:X.N[i]?=some x:=by rfl)(hx:Loc X.env.scope x:=by first|exact Or.inl rfl|exact Or.inr rfl)(hs:i1 e=true:=by rfl)(hf:X.fn x=true∨X.env.scope.names.lookup x=some .local:=by first|exact .inl rfl|exact .inr rfl):eL X F (.Assign [.Name x p] e pos) (q5 i m):=⟨ay.Vb (i:=i) (hN:=hN) (he:=he.1) (hi:=hi) (hx:=hx) (hs:=hs) (hf:=hf)⟩
theorem Ke{m:eQ}(h:mX X F e m)(hs:i1 e=true:=by rfl):eL X F (.Expr e pos) (o3 m):=⟨ay.UZ (h:=h.1) (hs:=hs)⟩
end
theorem hn.inj{K:PySem.W.Frag}{c:Str}{C pZ:Addr}(h:hn K c C)(h':hn K c pZ):C=pZ:=by unfold hn at h h';rw[h]at h';cases h';rfl
theorem Hb{K:PySem.W.Frag}{G:ah}{f:Str}{d:D}:∀{xs:List (Str×V)}{ds:List D},aI K G ds (xs.map (·.2))→((xs.map (·.1)).zip ds).lookup f=some d→∃v,xs.lookup f=some v∧At K G d v
 |[],_,_,e=>by simp at e
 |(k,v)::xs,[],h,_=>by have:=h.length;simp at this
 |(k,v)::xs,e::ds,h,l=>by
  simp only[List.map_cons,aI]at h;obtain⟨lR,r,aj,a,t⟩:=h;cases aj;simp only[List.map_cons,List.zip_cons_cons,List.lookup_cons]at l ⊢;cases hk:f==k with
  |true=>rw[hk]at l;cases l;exact⟨v,rfl,a⟩
  |false=>rw[hk]at l;exact Hb t l
theorem Hc{f:Str}:∀{xs:List (Str×V)},(xs.map (·.1)).all (fun k=>!(f==k))=true→xs.lookup f=none
 |[],_=>rfl
 |(k,v)::xs,h=>by simp only[List.map_cons,List.all_cons,Bool.and_eq_true,Bool.not_eq_true']at h;rw[List.lookup_cons,h.1];exact Hc (by simpa using h.2)
structure rX(K:PySem.W.Frag)(c:Str)(aV:List Str):Prop where
 ex:∃C,hn K c C∧jx K C∧∀f∈aV,oc K C f
noncomputable def iW(c f:Str):D→R D
 |.ins fb ns ds=>if fb=c then match(ns.zip ds).lookup f with
  |some d=>.ok d
  |none=>.bad
  else .bad
 |_=>.bad
section
variable{X:aK}{F:aZ}{e a b c o:Expr}{ag:List Expr}{pos p:Pos}{m n:aC}{ma:aP}
theorem Mw{bD f:Str}{aV:List Str}(k:rX X.K bD aV)(he:a9 X F o m)(hf:f∈aV:=by decide+kernel)(hK:F.K=X.K:=by rfl)(hb:attributeBase o f X.env (eval o X.env)=eval o X.env:=by rfl):a9 X F (.Attribute o f pos) (eX (iW bD f) m):=by
 refine a3.imp (Tn he hb) ?_;rintro σ H Q ⟨G,ρ,r,h⟩;unfold eX at h;refine⟨G,ρ,r,?_⟩;cases ar:m ρ with
 |bad=>rw[ar]at h;exact h.elim
 |exc c=>rw[ar]at h;exact h
 |ok d=>
  rw[ar,R.bl]at h;intro x H1 aN av s1 bF;cases d with
  |ins fb ns ds=>
   simp only[iW]at h
   split at h
   ·rename_i hc;subst hc
    split at h
    ·rename_i d' hl;simp only[At]at bF;obtain⟨q,a0,xs,rfl,⟨C,ck,g1⟩,rfl,al⟩:=bF;obtain⟨v,hv,bf⟩:=Hb al hl;obtain⟨pZ,dQ,b7,hD⟩:=k.ex;rw[hK]at ck;have:=ck.inj dQ;subst this;exact⟨q,C,a0,xs,v,rfl,av.aL.sub _ _ g1,b7,hD f hf,hv,h v H1 aN av s1 bf⟩
    ·exact h.elim
   ·exact h.elim
  |_=>exact h.elim
structure p6(P:Program)(w:World)(K:PySem.W.Frag)(mg:Str→Option Value)(base:Heap)(bD mt:Str)(n k:Nat)(mf:List D→R b1):Prop where
 ex:∃(C f:Addr)(fd:FuncData)(aU:List Str),hn K bD C∧jx K C∧Meth K C mt f∧hT P w K mg base gk k f fd aU (mB K (n+1) mf)∧Binds K fd aU []
noncomputable def wQ(bD mt:Str):D→R D
 |.ins fb ns ds=>if fb=bD∧ns.all (fun k=>!(mt==k))=true then .ok (.ins fb ns ds)else .bad
 |_=>.bad
noncomputable def qY(bD mt:Str)(n:Nat)(mf:List D→R b1)(o:aC)(ma:aP):aC:=fun ρ=>(o ρ).bind fun d=>(wQ bD mt d).bind fun d=>(ma ρ).bind fun ds=>if ds.length=n then(mf (d::ds)).bind kV else .bad
theorem Ph{bD mt:Str}{n:Nat}{mf:List D→R b1}{C:Addr}{E:dc}(hx:F.e_=fun _ _=>False)(jJ:hn F.K bD C):ej (cY F (qY bD mt n mf m ma)) (Jr C mt (mB F.K (n+1) mf) [] E (cY F m) (eo F ma)):=by
 rintro σ H Q ⟨G,ρ,r,h⟩;unfold qY at h;refine⟨G,ρ,r,?_⟩;cases ar:m ρ with
 |bad=>rw[ar]at h;exact h.elim
 |exc c=>rw[ar]at h;exact h
 |ok d=>
  rw[ar,R.bl]at h;intro x H1 aN av s1 bF;cases d with
  |ins fb ns ds=>
   simp only[wQ]at h
   split at h
   ·rename_i hc;obtain⟨zD,jk⟩:=hc;subst zD;have x3:=bF;simp only[At]at bF;obtain⟨q,a0,xs,rfl,⟨pZ,ck,g1⟩,rfl,al⟩:=bF;have:=ck.inj jJ;subst this;refine⟨q,a0,xs,rfl,av.aL.sub _ _ g1,Hc jk,aN,ρ,av,?_⟩;rw[R.bl]at h;cases bq:ma ρ with
    |bad=>rw[bq]at h;exact h.elim
    |exc c=>rw[bq]at h;exact h
    |ok ag=>
     rw[bq,R.bl]at h;intro vs aM cE bg s2 bf;by_cases aJ:ag.length=n
     ·rw[if_pos aJ]at h;rw[List.append_nil];exact V2 (xe:=fun _ _ _=>False) hx bg (.cons (x3.mono s2.g) bf) (by simp[aJ]) (h.mono (s1.trans s2))
     ·rw[if_neg aJ]at h;exact h.elim
   ·exact h.elim
  |_=>exact h.elim
theorem MH {bD mt:Str} {n k:Nat} {mf:List D→R b1} {pl:Sem Bool} {apos:Pos} (c:p6 X.prog X.w X.K X.mg X.base bD mt n k mf) (hr:dE k X.A) (he:a9 X F o m) (ha:f7 X F (e::ag) ma) (hE:F.e_=fun _ _=>False:=by rfl) (hK:F.K=X.K:=by rfl)(hst:starEach (e::ag) X.env=(false,eval e X.env)::starEach ag X.env:=by rfl) (hpl:(backTo pos (starEach ag X.env)).any (·.1)=false:=by rfl)(ht:eval (.Call (.Attribute o mt apos) (e::ag) [] pos) X.env=(do
    let dK ←eval o X.env
    standAt apos.atName
    let(f,first) ←holding [dK] (getMethod dK mt pl)
    callWith pos f first (backTo pos (starEach (e::ag) X.env)) (backToKw pos (keywordEach [] X.env))):=by rfl) :
  a9 X F (.Call (.Attribute o mt apos) (e::ag) [] pos) (qY bD mt n mf m ma):=by
 obtain⟨C,f,fd,aU,ck,eE,gT,iy,hb⟩:=c.ex;refine a3.imp (Tt (pl:=pl) he eE gT iy hr hb .nil rm ha hst hpl ht) ?_;rw[←hK];exact Ph hE (by rw[hK];exact ck)
def GO:D→Option Key
 |.int i=>some (.inl i)
 |.str x=>some (.inr x)
 |_=>none
noncomputable def vK:List D→Option (List Key)
 |[]=>some []
 |d::ds=>match GO d,vK ds with
  |some k,some bV=>some (k::bV)
  |_,_=>none
def mj:D→Option (List Key)
 |.tup ds=>vK ds
 |_=>none
theorem Qw{K:PySem.W.Frag}{G:ah}{d:D}{v:V}{k:Key}(e:GO d=some k)(a:At K G d v):v=cT k:=by
 cases d<;>first
  |(cases e;done)
  |(cases e;simp only[At]at a;exact a)
theorem GP{K:PySem.W.Frag}{G:ah}:∀{ds:List D}{vs:List V}{bV:List Key},vK ds=some bV→aI K G ds vs→vs=bV.map cT
 |[],_,_,e,a=>by simp only[aI]at a;subst a;cases e;rfl
 |d::ds,_,_,e,a=>by
  simp only[aI]at a;obtain⟨v,r,rfl,bf,l1⟩:=a;unfold vK at e
  split at e
  ·rename_i k bV aj ax;cases e;rw[Qw aj bf,GP ax l1];rfl
  ·cases e
theorem vJ{K:PySem.W.Frag}{G:ah}{d:D}{v:V}{bV:List Key}(e:mj d=some bV)(a:At K G d v):∃b,v=.ref b∧G b=some (.tup (bV.map cT)):=by
 cases d with
 |tup ds=>simp only[At]at a;obtain⟨b,xs,rfl,hb,al⟩:=a;exact⟨b,rfl,by rw[hb,GP e al]⟩
 |_=>cases e
theorem CI{κ:Type}[DecidableEq κ](k:κ):∀aT:List (κ×V),(gf aT k).isSome=(aT.map (·.1)).any (fun x=>decide (x=k))
 |[]=>rfl
 |(x,v)::aT=>by
  have b6:=CI k aT;unfold gf at b6 ⊢;rw[List.find?_cons,List.map_cons,List.any_cons];by_cases h:x=k
  ·simp[h]
  ·simp only[h,decide_false,Bool.false_or];exact b6
noncomputable def fD(b:Bool)(k d:D):R D:=match d with
 |.a_ bV _=>match mj k with
  |some cJ=>.ok (.aD (if b then bV.any (fun x=>decide (x=cJ))else !bV.any (fun x=>decide (x=cJ))))
  |none=>.bad
 |_=>.bad
theorem Ei{b:Bool}{σ :St}{ρ:ak}{G H:ah}{y x:V}{m8 dd:D}{Q:cI}(r:Rel F G H σ ρ)(b5:At F.K G m8 y)(bF:At F.K G dd x)(h:jQ F G H σ ρ Q (fD b m8 dd)) :
  ∃a o,x=.ref a∧hS H a y o∧Q (.aD (if b then o.isSome else !o.isSome)) H:=by
 unfold fD at h
 split at h
 ·rename_i bV ds
  split at h
  ·rename_i cJ dP;simp only[At]at bF;obtain⟨a,xs,rfl,hg,rfl,al⟩:=bF;obtain⟨q,rfl,aO⟩:=vJ dP b5;refine⟨a,gf xs cJ,rfl,hS.t (r.aL.sub _ _ hg) (r.aL.sub _ _ aO),?_⟩;rw[CI];exact h _ H G r (bT.refl _ _) (by simp only[At])
  ·exact h.elim
 ·exact h.elim
theorem Gw:ej (cY F (ai (fD true) m n)) (Jl (cY F m) (cY F n)):=by
 rintro σ H Q ⟨G,ρ,r,h⟩;unfold ai at h;refine⟨G,ρ,r,?_⟩;cases ar:m ρ with
 |bad=>rw[ar]at h;exact h.elim
 |exc c=>rw[ar]at h;exact h
 |ok m8=>
  rw[ar,R.bl]at h;intro y H1 aN av s1 b5;refine⟨aN,ρ,av,?_⟩;cases bq:n ρ with
  |bad=>rw[bq]at h;exact h.elim
  |exc c=>rw[bq]at h;exact h
  |ok dd=>rw[bq,R.bl]at h;intro x aM cE bg s2 bF;exact Ei (b:=true) bg (b5.mono s2.g) bF (h.mono (s1.trans s2))
theorem O2:ej (cY F (ai (fD false) m n)) (Jm (cY F m) (cY F n)):=by
 rintro σ H Q ⟨G,ρ,r,h⟩;unfold ai at h;refine⟨G,ρ,r,?_⟩;cases ar:m ρ with
 |bad=>rw[ar]at h;exact h.elim
 |exc c=>rw[ar]at h;exact h
 |ok m8=>
  rw[ar,R.bl]at h;intro y H1 aN av s1 b5;refine⟨aN,ρ,av,?_⟩;cases bq:n ρ with
  |bad=>rw[bq]at h;exact h.elim
  |exc c=>rw[bq]at h;exact h
  |ok dd=>rw[bq,R.bl]at h;intro x aM cE bg s2 bF;exact Ei (b:=false) bg (b5.mono s2.g) bF (h.mono (s1.trans s2))
theorem YX(hu:X.A.units+64<cLine)(ha:a9 X F a m)(hb:a9 X F b n)(h1:behindInMarks .In b=false:=by with_unfolding_all rfl):a9 X F (.Compare a [.In] [b] pos) (ai (fD true) m n):=a3.imp (Te (HY (by omega) ha hb) h1) Gw
theorem WG(hu:X.A.units+64<cLine)(ha:a9 X F a m)(hb:a9 X F b n)(h1:behindInMarks .In b=false:=by with_unfolding_all rfl):fp X F (.Compare a [.In] [b] pos) (bc (ai (fD true) m n)):=by refine e2.imp (Ii (HY (by omega) ha hb) h1) fun σ H Q h=>?_;obtain⟨G,ρ,r,k⟩:=vx σ H Q h;exact Gw σ H _ ⟨G,ρ,r,k⟩
theorem WH(hu:X.A.units+64<cLine)(ha:a9 X F a m)(hb:a9 X F b n)(h1:behindInMarks .NotIn b=false:=by with_unfolding_all rfl):fp X F (.Compare a [.NotIn] [b] pos) (bc (ai (fD false) m n)):=by refine e2.imp (Ii (S9 (by omega) ha hb) h1) fun σ H Q h=>?_;obtain⟨G,ρ,r,k⟩:=vx σ H Q h;exact O2 σ H _ ⟨G,ρ,r,k⟩
def o9(i:Nat):a8:=fun ρ=>if i<ρ.length then .ok (.bj (ρ.set i (.aR (.a_ [] []))))else .bad
theorem Va(i:Nat){x:Str}{p q:Pos}(hN:X.N.Nodup)(hi:X.N[i]?=some x:=by rfl)(hx:Loc X.env.scope x:=by first|exact Or.inl rfl|exact Or.inr rfl)(hf:X.fn x=true∨X.env.scope.names.lookup x=some .local:=by first|exact .inl rfl|exact .inr rfl):fB X F (.Assign [.Name x p] (.Dict [] [] q) pos) (o9 i):=by
 refine cU.imp (rq hN hi hx Tj (jt _ _ _ _ rfl) hf) ?_;rintro bO σ H ⟨G,ρ,r,h⟩;unfold o9 at h;intro a ha
 split at h
 ·rename_i hl;refine h _ G _ ((r.lay0 ha).setB hl dA (r.aL.sub.gone ha) (r.aL.hh.gone ha) ⟨[],rfl,rfl,.nil⟩ fun j ag o _ aj ax f=>cP.fresh r (Sub.upd ha) ha ⟨j,ag,o,aj,ax,f⟩) (Sub.refl _)
 ·exact h.elim
noncomputable def putD(bV:List (List Key))(ds:List D)(cJ:List Key)(d:D):R kA:=if bV.any (fun x=>decide (x=cJ))=false∧bV.length<1000000 then .ok (.a_ (bV++[cJ]) (ds++[d]))else .bad
noncomputable def kQ(i:Nat)(mk mv:aC):a8:=fun ρ=>(mv ρ).bind fun v=>match ρ[i]? with
 |some (.aR (.a_ bV ds))=>(mk ρ).bind fun k=>match mj k with
  |some cJ=>(putD bV ds cJ v).bind fun o=>.ok (.bj (ρ.set i (.aR o)))
  |none=>.bad
 |_=>.bad
theorem UY(i:Nat){x:Str}{aH pos':Pos}{k v:Expr}{mk mv:aC}(hu:X.A.units+64<cLine)(hk:a9 X F k mk)(hv:a9 X F v mv)(hN:X.N[i]?=some x:=by rfl)(hvs:eC X.env.scope x:=by first|exact Or.inl rfl|exact Or.inr (Or.inl rfl)|exact Or.inr (Or.inr rfl))(hd:(x==("__debug__" :Str))=false:=by decide)(hcd:(x==("__classdict__" :Str))=false:=by decide)(hs:i1 v=true:=by rfl) :
  fB X F (.Assign [.Subscript (.Name x aH) k pos'] v pos) (kQ i mk mv):=by
 refine cU.imp (T1 (by omega) (hI hN hvs hd hcd) hk hv (jt _ _ _ _ hs)) ?_;rintro bO σ H ⟨G,ρ,r,h⟩;unfold kQ at h;refine⟨G,ρ,r,?_⟩;cases ar:mv ρ with
 |bad=>rw[ar]at h;exact h.elim
 |exc c=>rw[ar]at h;exact h
 |ok YW=>
  rw[ar,R.bl]at h;intro v H1 aN av s1 bf
  split at h
  ·rename_i bV ds cq;obtain⟨q,ho,aj,_⟩:=av.obj cq;refine⟨.ref q,aj,aN,ρ,av,?_⟩;cases bq:mk ρ with
   |bad=>rw[bq]at h;exact h.elim
   |exc c=>rw[bq]at h;exact h
   |ok m8=>
    rw[bq,R.bl]at h;intro y aM cE bg s2 b5;obtain⟨i4,ho',gF,h1,h2,h3,xs,rfl,rfl,al⟩:=bg.obj cq;rw[aj]at gF;cases gF
    split at h
    ·rename_i cJ dP;unfold putD at h
     split at h
     ·rename_i hc;obtain⟨zD,jk⟩:=hc;obtain⟨sa,rfl,zB⟩:=vJ dP b5;have aJ:gf xs cJ=none:=by
       have:=CI cJ xs;rw[zD]at this;exact Option.not_isSome_iff_eq_none.mp (by rw[this];exact Bool.false_ne_true)
      refine⟨q,_,rfl,n9.t h1 (bg.aL.sub _ _ zB) (Nat.lt_trans (by simpa using jk) (by decide)),?_⟩;rw[Ub _ aJ];refine h σ cE _ (bg.Am cq aj ⟨xs++[(cJ,v)],rfl,by simp,?_⟩) (s1.g.trans s2.g);rw[List.map_append];exact al.snoc (bf.mono s2.g)
     ·exact h.elim
    ·exact h.elim
  ·exact h.elim
def ig(m:aC):a8:=fun ρ=>(m (dF ρ)).bind fun d=>.ok (.dh d)
theorem U9(h:a9 X F e m):fB X F (.Return (some e) pos) (ig m):=by
 refine cU.imp (rp h) ?_;rintro bO σ H ⟨G,ρ,r,h⟩;unfold ig at h;refine⟨_,_,r.plus,?_⟩;cases ar:m (dF ρ)with
 |bad=>rw[ar]at h;exact h.elim
 |exc c=>rw[ar]at h;exact h
 |ok d=>rw[ar,R.bl]at h;exact fun v H' G' br s' a=>h v G' H' br.aL a
def qQ:a8:=fun _=>.bad
theorem UT{st:Stmt}:fB X F st qQ:=cU.imp Ig fun bO σ H⟨G,ρ,r,h⟩=>h.elim
end
mutual
noncomputable def jT:D→Bool
 |.ins _ _ _=>false
 |.tup ds=>kh ds
 |.lst ds=>kh ds
 |.bY ds=>kh ds
 |.cW _ ds=>kh ds
 |.a_ _ ds=>kh ds
 |.de ds=>kh ds
 |_=>true
noncomputable def kh:List D→Bool
 |[]=>true
 |d::ds=>jT d&&kh ds
end
def sS:dC→Bool
 |.ins _ _ _=>true
 |_=>false
section
variable{K:PySem.W.Frag}{G G':ah}
theorem e3.off(h:∀b o,G b=some o→sS o=false→G' b=some o){a:Addr}{u:dC}(hu:sS u=false)(r:e3 G a u):e3 G' a u:=by
 rcases r with r|⟨o,r⟩
 ·exact .inl (h _ _ r hu)
 ·exact .inr ⟨o,h _ _ r rfl⟩
mutual
theorem At.off(h:∀b o,G b=some o→sS o=false→G' b=some o):∀{d:D}{v:V},jT d=true→At K G d v→At K G' d v
 |.non,_,_,q=>by simpa only[At]using q
 |.aD _,_,_,q=>by simpa only[At]using q
 |.int _,_,_,q=>by simpa only[At]using q
 |.str _,_,_,q=>by simpa only[At]using q
 |.tup _,_,n,q=>by simp only[At,jT]at q n ⊢;obtain⟨a,xs,e,g,r⟩:=q;exact⟨a,xs,e,h _ _ g rfl,aI.off h n r⟩
 |.lst _,_,n,q=>by simp only[At,jT]at q n ⊢;obtain⟨a,xs,e,g,r⟩:=q;exact⟨a,xs,e,h _ _ g rfl,aI.off h n r⟩
 |.bY _,_,n,q=>by
  simp only[At,jT]at q n ⊢;obtain⟨a,xs,e,g,r⟩:=q;refine⟨a,xs,e,?_,aI.off h n r⟩;rcases g with g|g
  ·exact .inl (e3.off h rfl g)
  ·exact .inr g
 |.de _,_,n,q=>by
  simp only[At,jT]at q n ⊢;obtain⟨a,xs,e,g,r⟩:=q;refine⟨a,xs,e,?_,aI.off h n r⟩;rcases g with g|g
  ·exact .inl (e3.off h rfl g)
  ·exact .inr g
 |.cW _ _,_,n,q=>by simp only[At,jT]at q n ⊢;obtain⟨a,xs,e,g,k,r⟩:=q;exact⟨a,xs,e,h _ _ g rfl,k,aI.off h n r⟩
 |.a_ _ _,_,n,q=>by simp only[At,jT]at q n ⊢;obtain⟨a,xs,e,g,k,r⟩:=q;exact⟨a,xs,e,h _ _ g rfl,k,aI.off h n r⟩
 |.ins _ _ _,_,n,_=>by simp only[jT]at n;cases n
 |.l9 _,_,n,q=>by simp only[At]at q ⊢;obtain⟨a,xs,e,⟨C,ck,g⟩,r⟩:=q;exact⟨a,xs,e,⟨C,ck,h _ _ g rfl⟩,r⟩
theorem aI.off(h:∀b o,G b=some o→sS o=false→G' b=some o):∀{ds:List D}{vs:List V},kh ds=true→aI K G ds vs→aI K G' ds vs
 |[],_,_,q=>by simpa only[aI]using q
 |_::_,_,n,q=>by simp only[aI,kh,Bool.and_eq_true]at q n ⊢;obtain⟨v,r,e,a,t⟩:=q;exact⟨v,r,e,At.off h n.1 a,aI.off h n.2 t⟩
end
end
def VO:cp→Bool
 |.aR (.ins _ _ _)=>true
 |.aR _=>false
 |.bG _=>false
 |_=>true
def Aw(ρ:ak):Bool:=ρ.all VO
def nA(m:aC):aC:=fun ρ=>(m (dF ρ)).bind fun d=>if jT d=true∧Aw ρ=true then .ok d else .bad
section
variable{F:aZ}
open Classical in
noncomputable def ka(H:ah)(σ :St)(ρ:ak)(G:ah):ah:=fun b=>if cP H σ ρ b then none else G b
theorem OR{m:aC}:ej (cY F (nA m)) (cY F m):=by
 rintro σ H Q ⟨G,ρ,r,h⟩;refine⟨jj σ ρ G H,dF ρ,r.plus,?_⟩;unfold nA at h;cases ar:m (dF ρ)with
 |bad=>rw[ar]at h;exact h.elim
 |exc c=>rw[ar]at h;exact h
 |ok d=>
  rw[ar,R.bl]at h;intro v H' G' br s' a;by_cases hd:jT d=true∧Aw ρ=true
  ·rw[if_pos hd]at h;have tF:∀b,cP H σ ρ b→G b=none:=fun b z=>(r.foot z).2.1;have tE:∀b,cP H σ ρ b→F.bL b=none:=fun b z=>(r.foot z).2.2;have AA:∀b,cP H σ ρ b→∃ho,H b=some ho∧sS ho=true:=fun b⟨i,s,o,aj,ax,f⟩=>by
    have hi:=List.all_eq_true.mp hd.2 _ (List.mem_of_getElem? aj);cases s with
    |un=>exact f.elim
    |aq _=>exact f.elim
    |bG _=>cases hi
    |aR aR=>
     have f:o=some (.ref b):=f;obtain⟨c,ho,bE,h1,_,_,h4⟩:=r.obj aj;rw[ax,f]at bE;cases bE;cases aR with
     |lst _=>cases hi
     |a_ _ _=>cases hi
     |ins _ _ _=>obtain⟨C,a0,xs,_,rfl,_⟩:=h4;exact⟨_,h1,rfl⟩
   have off:∀b,¬cP H σ ρ b→ka H σ ρ G' b=G' b:=fun b n=>by unfold ka;rw[if_neg n]
   have on:∀b,cP H σ ρ b→ka H σ ρ G' b=none:=fun b n=>by unfold ka;rw[if_pos n]
   have a7:Sub G (ka H σ ρ G'):=fun b o e=>by
    have n:¬cP H σ ρ b:=fun z=>by rw[tF b z]at e;cases e
    rw[off b n];exact s'.g b o (ve r b o e)
   have z7:∀b,cP H σ ρ b→∀o,H b=some o→H' b=some o:=fun b z o e=>br.aL.sub _ _ (s'.g _ _ (by rw[oK z];exact e));have rel:Rel F (ka H σ ρ G') H' σ ρ:=by
    refine r.over rfl ⟨fun b o e=>?_,r.aL.fc.trans a7,br.aL.hh,fun b hb=>?_⟩ a7 fun b c_=>?_
    ·by_cases n:cP H σ ρ b
     ·rw[on b n]at e;cases e
     ·rw[off b n]at e;exact br.aL.sub b o e
    ·have n:¬cP H σ ρ b:=fun z=>hb (tE b z);rw[off b n];exact br.aL.new b hb
    ·refine⟨?_,on b c_,tE b c_⟩;cases bq:H b with
     |none=>exact absurd bq (r.foot c_).1
     |some o=>exact z7 b c_ o bq
   refine h v H' _ rel ⟨a7,s'.h,fun b hb=>?_⟩ (At.off (fun b o e hi=>?_) hd.1 a)
   ·by_cases n:cP H σ ρ b
    ·rw[on b n,tF b n]
    ·rw[off b n,s'.n b hb];unfold jj;rw[if_neg n]
   ·have n:¬cP H σ ρ b:=fun z=>by
      obtain⟨ho,aj,ax⟩:=AA b z;have:=s'.g b ho (by rw[oK z];exact aj);rw[e]at this;cases this;rw[hi]at ax;cases ax
    rw[off b n];exact e
  ·rw[if_neg hd]at h;exact h.elim
abbrev er:=ak→R ak
noncomputable def Qn(F:aZ)(σ :St)(bO:Ends):R ak→Prop
 |.ok bh=>∀G' H',Rel F G' H' σ bh→bO.bj σ H'
 |.exc c=>iD F c
 |.bad=>False
def mE(F:aZ)(m:er):eB:=fun bO σ H=>∃G ρ,Rel F G H σ ρ∧Qn F σ bO (m ρ)
def lF(a b:er):er:=fun ρ=>(a ρ).bind b
theorem PE{a b:er}:gR (mE F (lF a b)) (Cm (mE F a) (mE F b)):=by
 rintro bO σ H ⟨G,ρ,r,h⟩;unfold lF at h;refine⟨G,ρ,r,?_⟩;cases ar:a ρ with
 |bad=>rw[ar]at h;exact h.elim
 |exc c=>rw[ar]at h;exact h
 |ok dn=>rw[ar,R.bl]at h;exact fun G' H' br=>⟨G',dn,br,h⟩
def nB(c:b4):er:=fun ρ=>(c ρ).bind fun k=>if k=true then .bad else .ok ρ
theorem O8{c:b4}:gR (mE F (nB c)) (Cg (gd F c) Js Cj):=by
 rintro bO σ H ⟨G,ρ,r,h⟩;unfold nB at h;refine⟨G,ρ,r,?_⟩;cases ar:c ρ with
 |bad=>rw[ar]at h;exact h.elim
 |exc c=>rw[ar]at h;exact h
 |ok k=>
  rw[ar,R.bl]at h;intro H1 aN av s1;cases k with
  |true=>exact h.elim
  |false=>exact h aN H1 av
theorem AQ{f:Str}{v:V}:∀{aV:List (Str×V)},(aV.map (·.1)).all (fun k=>!(f==k))=true→g8 f v aV=aV++[(f,v)]
 |[],_=>rfl
 |(g,x)::aV,h=>by
  simp only[List.map_cons,List.all_cons,Bool.and_eq_true,Bool.not_eq_true']at h;have ne:g≠f:=fun z=>by subst z;simp at h
  rw[g8,if_neg ne,AQ (by simpa using h.2)];rfl
noncomputable def jR(bD f:Str)(m:aC):er:=fun ρ=>(m ρ).bind fun d=>match(ρ[0]? :Option cp)with
 |some (.aR (.ins fb ns ds))=>if fb=bD∧ns.all (fun k=>!(f==k))=true∧ns.length<1000 then .ok (ρ.set 0 (.aR (.ins bD (ns++[f]) (ds++[d]))))else .bad
 |_=>.bad
end
section
variable{X:aK}{F:aZ}{e o:Expr}{pos:Pos}{m:aC}
theorem Mq(h:a9 X F e m):a9 X F e (nA m):=a3.imp h OR
theorem U0{bD f x:Str}{aV:List Str}{aH pos':Pos}(k:rX X.K bD aV)(he:a9 X F e m)(hf:f∈aV:=by decide+kernel)(hN:X.N[0]?=some x:=by rfl)(hv:eC X.env.scope x:=by first|exact Or.inl rfl|exact Or.inr (Or.inl rfl)|exact Or.inr (Or.inr rfl))(hd:(x==("__debug__" :Str))=false:=by decide)(hcd:(x==("__classdict__" :Str))=false:=by decide)(hs:i1 e=true:=by rfl)(hK:F.K=X.K:=by rfl) :
  cU X (.Assign [.Attribute (.Name x aH) f pos'] e pos) (mE F (jR bD f m)):=by
 refine cU.imp (T2 (hI hN hv hd hcd) he (jt _ _ _ _ hs)) ?_;rintro bO σ H ⟨G,ρ,r,h⟩;unfold jR at h;refine⟨G,ρ,r,?_⟩;cases ar:m ρ with
 |bad=>rw[ar]at h;exact h.elim
 |exc c=>rw[ar]at h;exact h
 |ok d=>
  rw[ar,R.bl]at h;intro v H1 aN av s1 bf
  split at h
  ·rename_i fb ns ds cq
   split at h
   ·rename_i hc;obtain⟨rfl,jk,NW⟩:=hc;obtain⟨q,ho,aj,h1,h2,h3,C,a0,xs,ck,rfl,rfl,al⟩:=av.obj cq;obtain⟨pZ,dQ,b7,hD⟩:=k.ex;rw[hK]at ck;have:=ck.inj dQ;subst this;refine⟨.ref q,aj,q,C,a0,xs,rfl,h1,b7,hD f hf,by simpa using NW,?_⟩;refine h aN _ (av.Am cq aj ⟨C,a0,g8 f v xs,by rw[hK];exact ck,rfl,?_,?_⟩)
    ·rw[AQ jk];simp
    ·rw[AQ jk,List.map_append];exact al.snoc bf
   ·exact h.elim
  ·exact h.elim
end
noncomputable def GK(F:aZ)(x C:Addr)(Q:cI):R (List Str×List D)→Prop
 |.ok (ns,ds)=>∀a0 xs G' H',eK F G' H'→G' x=none→H' x=some (.ins C a0 xs)→xs.map (·.1)=ns→aI F.K G' ds (xs.map (·.2))→Q .non H'
 |.exc _=>False
 |.bad=>False
noncomputable def tT(K:PySem.W.Frag)(bD:Str)(n:Nat)(mf:List D→R (List Str×List D)):iP:=fun vs H Q E=>∃G x C a0 ag ws,vs=.ref x::ws∧hn K bD C∧H x=some (.ins C a0 [])∧G x=none∧Sub G H∧aI K G ag ws∧ag.length=n∧GK ⟨K,G,del H x,fun _ _=>False⟩ x C Q (mf ag)
noncomputable def qX(bD:Str)(n:Nat)(mf:List D→R (List Str×List D))(ma:aP):aC:=fun ρ=>(ma ρ).bind fun ds=>if ds.length=n then(iG (mf ds)).bind fun x=>.ok (.ins bD x.1 x.2)else .bad
section
variable{X:aK}{F:aZ}{e:Expr}{ag:List Expr}{pos p:Pos}{ma:aP}
theorem Pg{bD:Str}{n:Nat}{mf:List D→R (List Str×List D)}{C:Addr}{E:dc}(jJ:hn F.K bD C):ej (cY F (qX bD n mf ma)) (Jq C (tT F.K bD n mf) [] E (eo F ma)):=by
 rintro σ H Q ⟨G,ρ,r,h⟩;unfold qX at h;refine⟨G,ρ,r,?_⟩;cases ar:ma ρ with
 |bad=>rw[ar]at h;exact h.elim
 |exc c=>rw[ar]at h;exact h
 |ok ds=>
  rw[ar,R.bl]at h;intro vs H1 aN av s1 bf x a0 hx N2 ne;by_cases aJ:ds.length=n
  ·rw[if_pos aJ]at h;rw[List.append_nil];have A6:Sub H1 (del (upd (upd H1 a0 (.own x)) x (.ins C a0 [])) x):=fun b o e=>by
    have cG:b≠x:=fun z=>by rw[z,hx]at e;cases e
    have cD:b≠a0:=fun z=>by rw[z,N2]at e;cases e
    rw[LY cG,dr cG,dr cD];exact e
   have UP:Sub aN (upd (upd H1 a0 (.own x)) x (.ins C a0 [])):=av.aL.sub.trans (A6.trans (Eh _ _));refine⟨aN,x,C,a0,ds,vs,rfl,jJ,dA,av.aL.sub.gone hx,UP,bf,aJ,?_⟩;cases em:mf ds with
   |bad=>rw[em]at h;exact h.elim
   |exc c=>rw[em]at h;exact h.elim
   |ok y=>obtain⟨ns,sl⟩:=y;rw[em]at h;intro yV xs G' H' k g1 g2 g3 ly;refine⟨rfl,?_⟩;have hh:Sub H1 H':=A6.trans k.hh;have nw:∀b,H1 b≠none→G' b=aN b:=fun b hb=>k.new b (A6.some hb);have bg:Rel F G' H' σ ρ:=av.grow k.fc k.sub hh nw;have no:¬cP H' σ ρ x:=cP.fresh av hh hx;refine h (.ref x) H' _ (bg.take g2 g1 (av.aL.hh.gone hx) no) ((s1.trans ⟨k.fc,hh,nw⟩).put (s1.h.gone hx) g1) ?_;simp only[At];exact⟨x,yV,xs,rfl,⟨C,jJ,dA⟩,g3,ly.mono (Sub.upd g1)⟩
  ·rw[if_neg aJ]at h;exact h.elim
structure um(P:Program)(w:World)(K:PySem.W.Frag)(mg:Str→Option Value)(base:Heap)(bD:Str)(n k:Nat)(mf:List D→R (List Str×List D)):Prop where
 ex:∃(C f:Addr)(fd:FuncData)(aU:List Str),hn K bD C∧uq K C f∧hT P w K mg base gk k f fd aU (tT K bD n mf)∧mg bD=some (.ref C)∧Binds K fd aU []
theorem MG{bD:Str}{n k:Nat}{mf:List D→R (List Str×List D)}(c:um X.prog X.w X.K X.mg X.base bD n k mf)(hr:dE (k+1) X.A)(ha:f7 X F (e::ag) ma)(hK:F.K=X.K:=by rfl)(hg:da X bD:=by rfl)(hdb:(bD==("__debug__" :Str))=false:=by decide)(he:starEach (e::ag) X.env=(false,eval e X.env)::starEach ag X.env:=by rfl)(hpl:(backTo pos (starEach ag X.env)).any (·.1)=false:=by rfl):a9 X F (.Call (.Name bD p) (e::ag) [] pos) (qX bD n mf ma):=by obtain⟨C,f,fd,aU,ck,eE,iy,hm,hb⟩:=c.ex;refine a3.imp (Ts eE iy hr hg hm hb .nil rm ha hdb he hpl) ?_;rw[←hK];exact Pg (by rw[hK];exact ck)
end
def jP(bD:Str)(ag:List D):ak:=.aR (.ins bD [] [])::ag.map .aq
noncomputable def outI(bD:Str):R ak→R (List Str×List D)
 |.ok (.aR (.ins c ns ds)::_)=>if c=bD then .ok (ns,ds)else .bad
 |_=>.bad
theorem UA{K:PySem.W.Frag}{G H:ah}{e_:Str→ah→Prop}{bD:Str}{C a0 x:Addr}{ag:List D}{ws:List V}(jJ:hn K bD C)(h1:H x=some (.ins C a0 []))(h2:G x=none)(s:Sub G H)(bf:aI K G ag ws) :
  Rel ⟨K,G,del H x,e_⟩ G H (some (.ref x)::ws.map some) (jP bD ag):=by
 refine⟨⟨s,Sub.refl _,Eh H x,fun _ _=>rfl⟩,by simp[jP,bf.length],fun i t e=>?_,fun i j b aV FK o cg a6 aW _ _ f ze=>?_⟩
 ·cases i with
  |zero=>simp[jP]at e;subst e;exact⟨some (.ref x),by simp,x,_,rfl,h1,h2,LZ,C,a0,[],jJ,rfl,rfl,.nil⟩
  |succ i=>
   simp only[jP,List.getElem?_cons_succ]at e ⊢;rw[List.getElem?_map]at e;cases ek:ag[i]? with
   |none=>rw[ek]at e;cases e
   |some d=>rw[ek]at e;cases e;obtain⟨v,aj,a⟩:=bf.get ek;exact⟨some v,by rw[List.getElem?_map,aj];rfl,v,rfl,a⟩
 ·have one:∀{i:Nat}{aV:cp}{o:Option V},(jP bD ag)[i]?=some aV→ep H aV o b→i=0:=fun{i aV o} e f=>by
    cases i with
    |zero=>rfl
    |succ i=>
     simp only[jP,List.getElem?_cons_succ,List.getElem?_map]at e;cases ek:ag[i]? with
     |none=>rw[ek]at e;cases e
     |some d=>rw[ek]at e;cases e;exact f.elim
  rw[one a6 f,one aW ze]
theorem PO{K:PySem.W.Frag}{bD:Str}{n:Nat}{m:er}{vs:List V}{H:ah}{Q:cI}{E:dc}(h:tT K bD n (fun ag=>outI bD (m (jP bD ag))) vs H Q E) :
  ∃G bL,mE (fF K G bL) m { bj:=fun _ H'=>Q .non H',dh:=Q } (vs.map some) H:=by
 obtain⟨G,x,C,a0,ag,ws,rfl,jJ,h1,h2,s,bf,l,k⟩:=h;refine⟨G,del H x,G,jP bD ag,UA jJ h1 h2 s bf,?_⟩;replace k:GK ⟨K,G,del H x,fun _ _=>False⟩ x C Q (outI bD (m (jP bD ag))):=k;cases em:m (jP bD ag)with
 |bad=>rw[em]at k;exact k.elim
 |exc c=>rw[em]at k;exact k.elim
 |ok bh=>
  rw[em]at k;intro G' H' r;unfold outI at k
  split at k
  ·rename_i YR ns ds fK heq;cases heq;obtain⟨a,ho,aj,g1,g2,g3,pZ,yV,xs,ck,rfl,ax,al⟩:=r.obj (i:=0) rfl;have aj:some (some (V.ref x))=some (some (V.ref a)):=aj;cases aj
   split at k
   ·rename_i hc;subst hc;have:=ck.inj jJ;subst this;exact k yV xs G' H' r.aL g2 g1 ax al
   ·exact k.elim
  ·exact k.elim
end ay
namespace ay
open PySem PySem.Spec aS PyProof.Rows
theorem I4{K:PySem.W.Frag}{bD:Str}{n:Nat}{mf:List D→R (List Str×List D)}:∀vs H Q E,tT K bD n mf vs H Q E→vs.length=n+1:=fun vs H Q E h=>by obtain⟨G,x,C,a0,ag,ws,rfl,_,_,_,_,q,l,_⟩:=h;rw[List.length_cons,←q.length,l]
theorem V_{N:List Str}{vs:List V}(h:vs.length=N.length):aS.start N vs=vs.map some:=by unfold aS.start;simp[h]
theorem Pn{P:Program}{w:World}{K:PySem.W.Frag}{mg:Str→Option Value}{base:Heap}{x qual bD fj:Str}{st:Stmt}{aU:List Str}{k:Nat}{m:er}{f:Addr}{fd:FuncData}(fn:kv K x qual st f fd)(S:cN (fj::aU) (fj::aU) (bQ st))(h:∀(f:Addr)(b9:Value)(A:Around)(outer:List Env)(s:Shared)(H:ah)(E:dc),dE k (A.deeper (PyProof.Rows.envOfC qual (bQ st) s.heap.objs.size f b9))→∀cu bL,fa (iT gk P w K mg base (fj::aU) qual (bQ st) f b9 A outer s H E).jU (fO st) (mE (fF K cu bL) m)) :
  hT P w K mg base gk (k+1) f fd (fj::aU) (tT K bD aU.length fun ag=>outI bD (m (jP bD ag))):=fn.ok S I4 fun b9 A outer s H vs Q E hr hs=>by
 have hl:=I4 vs H Q E hs;obtain⟨G,bL,ht⟩:=PO hs;refine⟨_,h f b9 A outer s H E hr G bL,?_⟩;rw[V_ (by simpa using hl)];exact ht
theorem Ry{P:Program}{w:World}{K:PySem.W.Frag}{mg:Str→Option Value}{base:Heap}{x qual bD fj:Str}{st:Stmt}{N aU:List Str}{k:Nat}{m:a8}{C f:Addr}{fd:FuncData}(fn:kv K x qual st f fd)(jJ:hn K bD C)(hc:jx K C)(hm:Meth K C x f)(hb:Binds K fd (fj::aU) [])(S:cN N (fj::aU) (bQ st))(h:∀(f:Addr)(b9:Value)(A:Around)(outer:List Env)(s:Shared)(H:ah)(E:dc),dE k (A.deeper (PyProof.Rows.envOfC qual (bQ st) s.heap.objs.size f b9))→∀cu bL,jB (iT gk P w K mg base N qual (bQ st) f b9 A outer s H E).jU (fF K cu bL) (fO st) m) :
  p6 P w K mg base bD x aU.length (k+1) (cZ N.length m):=by
 refine⟨C,f,fd,fj::aU,jJ,hc,hm,fn.ok S B6 fun b9 A outer s H vs Q E hr hs=>?_,hb⟩;obtain⟨G,ht⟩:=yM hs;exact⟨_,(h f b9 A outer s H E hr G H).1,ht⟩
section
variable{X:aK}{F:aZ}{e a b c:Expr}{ag:List Expr}{pos p:Pos}{m n:aC}{ma:aP}
noncomputable def mF:List D→R D
 |[.lst xs]=>.ok (.tup xs)
 |[.bY xs]=>.ok (.tup xs)
 |[.tup xs]=>.ok (.tup xs)
 |_=>.bad
theorem SD(hK:F.K=X.K):lV F (fun xs H Q=>∃p ys,xs=[.ref p]∧((bS X.K H p ys∧∀l,H l=none→Q (.ref l) (upd H l (.tup ys)))∨(cv X.K H p ys∧Q (.ref p) H))) mF:=by
 intro σ ρ G H xs ds Q r al k;unfold mF at k
 split at k
 ·obtain⟨v,rfl,bf⟩:=al.one;simp only[At]at bf;obtain⟨q,ys,rfl,aO,gp⟩:=bf;refine⟨q,ys,rfl,.inl ⟨bS.of (r.aL.sub _ _ aO),fun l hl=>?_⟩⟩;refine k (.ref l) _ _ (r.lay hl) (bT.lay r.aL.sub hl) ?_;simp only[At];exact⟨l,ys,rfl,dA,gp.mono (Sub.upd (r.aL.sub.gone hl))⟩
 ·obtain⟨v,rfl,bf⟩:=al.one;simp only[At]at bf;obtain⟨q,ys,rfl,aO,gp⟩:=bf;refine⟨q,ys,rfl,.inl ⟨by rw[←hK];exact bS.mono r.aL.sub aO,fun l hl=>?_⟩⟩;refine k (.ref l) _ _ (r.lay hl) (bT.lay r.aL.sub hl) ?_;simp only[At];exact⟨l,ys,rfl,dA,gp.mono (Sub.upd (r.aL.sub.gone hl))⟩
 ·obtain⟨v,rfl,bf⟩:=al.one;have K_:=bf;simp only[At]at bf;obtain⟨q,ys,rfl,aO,gp⟩:=bf;exact⟨q,ys,rfl,.inr ⟨cv.of (r.aL.sub _ _ aO),k _ H G r (bT.refl _ _) K_⟩⟩
 ·exact k.elim
theorem M1(hm:X.mg "tuple"=none)(ha:f7 X F [e] ma)(hK:F.K=X.K:=by rfl)(hg:da X "tuple":=by rfl)(he:starEach [e] X.env=(false,eval e X.env)::starEach [] X.env:=by rfl)(hpl:(backTo pos (starEach [] X.env)).any (·.1)=false:=by rfl) :
  a9 X F (.Call (.Name "tuple" p) [e] [] pos) (ct mF ma):=y0 Lv (SD hK) hm (by kernel_rfl) ha hg (by decide) (by decide) he hpl
end
end ay
namespace dD
open PySem PyProof.Rows
section
variable{prog:Program}{w:World}{A:Around}{E:Value→Shared→Prop}{s:Shared}
theorem LC{t b:Addr}{ws:List Value}{Q:Value→Shared→Prop}(ht:IsTup s.heap t ([]:List Value).toArray)(hb:IsTup s.heap b ws.toArray)(h:Q (.ref b) s):wpAny (model prog w) A (binaryOp .Add (.ref t) (.ref b)) Q E s:=by
 obtain⟨⟨cls,dd,data,bZ⟩,ho,hc,n,hd⟩:=id ht;obtain⟨⟨LG,uZ,data2,rz⟩,oN,jk,cD,hd2⟩:=id hb;simp only at hc hd jk hd2;subst hc hd jk hd2
 exact concat_meets ⟨_,ho,rfl⟩ ⟨_,oN,rfl⟩ noFill_tuple_add seq_tuple_add PySem.F.slot_tuple_add PySem.F.entry_tuple_add (PySem.F.args_tuple_add_2 _ _)
  (tuple_addW0 t b ([]:List Value).toArray ws.toArray n cD dd uZ bZ rz (by simp)) ⟨ho,oN,h⟩
end
end dD
namespace aS
open PySem PySem.Spec PyProof.Rows
variable{X:aK}
noncomputable def Im(K:PySem.W.Frag):ea:=fun x y H Q=>∃a b ys,x=.ref a∧y=.ref b∧cv K H a []∧cv K H b ys∧Q (.ref b) H
theorem SN:dp X (binaryOp .Add) (Im X.K):=by intro pins s σ H x y v u Q I bt bX h;obtain⟨a,b,ys,rfl,rfl,ha,hb,q⟩:=h;cases bt;cases bX;obtain⟨its,av,dG,_⟩:=I.tuple ha;cases av;obtain⟨ed,bg,bW,_⟩:=I.tuple hb;exact dD.LC dG bW ⟨.ref b,H,I,rfl,q⟩
end aS
namespace ay
open PySem PySem.Spec aS PyProof.Rows
section
variable{X:aK}{F:aZ}{e a b c:Expr}{ag:List Expr}{pos p:Pos}{m n:aC}{ma:aP}
noncomputable def lq:D→D→R D
 |.tup xs,.tup ys=>if xs.length+ys.length≤1000000 then .ok (.tup (xs++ys))else .bad
 |_,_=>.bad
theorem Sp(hK:F.K=X.K):fA F (fun x y H Q=>Il X.K x y H Q∨Im X.K x y H Q) lq:=by
 intro σ ρ G H x y a0 eN Q r bF b5 k;unfold lq at k
 split at k
 ·rename_i ds ag;have x3:=bF;have La:=b5;simp only[At]at bF b5
  split at k
  ·rename_i hl;obtain⟨p,xs,rfl,h1,aY⟩:=bF;obtain⟨bW,ys,rfl,h2,bA⟩:=b5;by_cases hx:xs=[]
   ·subst hx;refine .inr ⟨p,bW,ys,rfl,rfl,cv.of (r.aL.sub _ _ h1),cv.of (r.aL.sub _ _ h2),?_⟩;have e:ds=[]:=List.eq_nil_of_length_eq_zero (by rw[aY.length];rfl);subst e;exact k _ H G r (bT.refl _ _) La
   ·refine .inl ⟨p,bW,xs,ys,rfl,rfl,cv.of (r.aL.sub _ _ h1),cv.of (r.aL.sub _ _ h2),hx,by rw[←aY.length,←bA.length];exact Nat.le_trans hl (by decide),fun cK=>?_,fun _ l aJ=>?_⟩
    ·subst cK;have e:ag=[]:=List.eq_nil_of_length_eq_zero (by rw[bA.length];rfl);subst e;rw[List.append_nil]at k;exact k _ H G r (bT.refl _ _) x3
    ·refine k (.ref l) _ _ (r.lay aJ) (bT.lay r.aL.sub aJ) ?_;simp only[At];exact⟨l,xs++ys,rfl,dA,(aY.append bA).mono (Sub.upd (r.aL.sub.gone aJ))⟩
  ·exact k.elim
 ·exact k.elim
theorem Ms(ha:a9 X F a m)(hb:a9 X F b n)(hK:F.K=X.K:=by rfl):a9 X F (.BinOp a .Add b pos) (ai lq m n):=kH (SM.or SN) (Sp hK) ha hb
noncomputable def rA(d:D)(l h:Option Int):R D:=match d with
 |.tup xs=>if dD.cz xs.length 0 l=0∧dD.cz xs.length xs.length h=xs.length then .bad else .ok (.tup (jg xs l h))
 |_=>.bad
theorem PC(hK:F.K=X.K){lo hi:jc}:ej (cY F (jS rA m lo hi)) (Cn (Iy X.K) (cY F m) (rG F lo) (rG F hi)):=by
 rintro σ H Q ⟨G,ρ,r,h⟩;unfold jS at h;refine⟨G,ρ,r,?_⟩;cases ar:m ρ with
 |bad=>rw[ar]at h;exact h.elim
 |exc c=>rw[ar]at h;exact h
 |ok d=>
  rw[ar,R.bl]at h;intro x H1 aN av s1 bF;refine⟨aN,ρ,av,?_⟩;cases el:lo ρ with
  |bad=>rw[el]at h;exact h.elim
  |exc c=>rw[el]at h;exact h
  |ok l=>
   rw[el,R.bl]at h;intro aM cE bg s2;refine⟨cE,ρ,bg,?_⟩;cases hZ:hi ρ with
   |bad=>rw[hZ]at h;exact h.elim
   |exc c=>rw[hZ]at h;exact h
   |ok u=>
    rw[hZ,R.bl]at h;intro cO fm dU s3;have up:=(s1.trans s2).trans s3;have l2:=(bF.mono s2.g).mono s3.g;cases d with
    |tup ds=>
     simp only[rA]at h
     split at h
     ·exact h.elim
     ·rename_i hw;simp only[At]at l2;obtain⟨q,xs,rfl,aO,gp⟩:=l2;rw[gp.length]at hw;refine⟨q,xs,rfl,cv.of (dU.aL.sub _ _ aO),hw,fun G4 aJ=>?_⟩;refine h (.ref G4) _ _ (dU.lay aJ) (up.trans (bT.lay dU.aL.sub aJ)) ?_;simp only[At];exact⟨G4,_,rfl,dA,(gp.cut l u).mono (Sub.upd (dU.aL.sub.gone aJ))⟩
    |_=>exact h.elim
theorem MV{lo hi:Option Expr}{bW:Pos}{kS kR:jc}(ha:a9 X F a m)(hl:p8 X F lo kS)(hh:p8 X F hi kR)(hK:F.K=X.K:=by rfl):a9 X F (.Subscript a (.Slice lo hi none bW) pos) (jS rA m kS kR):=a3.imp (H3 VV ha hl hh) (PC hK)
instance(i j:Int):Decidable (IntMulOk i j):=by unfold IntMulOk;infer_instance
theorem SS:dp X (binaryOp .Mult) (nS IntMulOk fun i j=>.int (i*j)):=rl fun _ _ _ _ _ _ _ hc q=>mul_int q hc
def nI:=hB fun i j=>if IntMulOk i j then .ok (.int (i*j))else .bad
theorem ML(ha:a9 X F a m)(hb:a9 X F b n):a9 X F (.BinOp a .Mult b pos) (ai nI m n):=kH SS (ri fun _ _ _=>by simp only[At]) ha hb
end
section
variable{X:aK}{F:aZ}{e a b c:Expr}{ag:List Expr}{pos p:Pos}{m n:aC}{ma:aP}
noncomputable def qT(i:Nat)(m:aC):aP:=fun ρ=>(ownAt i ρ).bind fun ds=>(m ρ).bind fun d=>match d with
 |.lst ag=>if ds.length+ag.length≤1000000 then .ok (ds++ag)else .bad
 |_=>.bad
theorem Sf(i:Nat){x:Str}{aH:Pos}(hb:a9 X F b m)(hN:X.N[i]?=some x:=by rfl)(hv:eC X.env.scope x:=by first|exact Or.inl rfl|exact Or.inr (Or.inl rfl)|exact Or.inr (Or.inr rfl))(hd:(x==("__debug__" :Str))=false:=by decide)(hcd:(x==("__classdict__" :Str))=false:=by decide) :
  lW X F (.BinOp (.Name x aH) .Add b pos) (qT i m):=by
 refine a3.imp (H2 HJ (hI hN hv hd hcd) hb) ?_;rintro σ H Q ⟨G,ρ,r,h⟩;unfold qT ownAt at h;cases cq:ρ[i]? with
 |none=>rw[cq]at h;exact h.elim
 |some s=>
  rw[cq]at h;cases s with
  |un=>exact h.elim
  |aq _=>exact h.elim
  |bG _=>exact h.elim
  |aR aR=>
   cases aR with
   |a_ _ _=>exact h.elim
   |ins _ _ _=>exact h.elim
   |lst ds=>
    obtain⟨q,xs,aj,h1,h2,h3,h4⟩:=r.own cq;rw[R.bl]at h;refine⟨.ref q,aj,G,ρ,r,?_⟩;cases ar:m ρ with
    |bad=>rw[ar]at h;exact h.elim
    |exc c=>rw[ar]at h;exact h
    |ok d=>
     rw[ar,R.bl]at h;intro v H1 aN av s1 bf;obtain⟨i4,iq,gF,cQ,cB,zu,kb⟩:=av.own cq;rw[aj]at gF;cases gF;cases d with
     |lst ag=>
      simp only at h
      split at h
      ·rename_i hl;simp only[At]at bf;obtain⟨bW,ys,rfl,g2,bA⟩:=bf;refine⟨q,bW,iq,ys,rfl,rfl,cQ,av.aL.sub _ _ g2,by rw[←kb.length,←bA.length];exact Nat.le_trans hl (by decide),fun l aJ=>?_⟩;exact h l (iq++ys) _ aN (av.lay0 aJ) (s1.trans (bT.lay0 aJ)) (s1.h.gone aJ) dA (av.aL.sub.gone aJ) (kb.append bA)
      ·exact h.elim
     |_=>exact h.elim
end
end ay
namespace ay
open PySem PySem.Spec aS
section
variable{X:aK}{F:aZ}{e a b c o bu iter elt:Expr}{ag:List Expr}{pos p:Pos}{m n:aC}{ma:aP}{st:Stmt}{kk:List Stmt}
theorem uc{bD f:Str}{aV:List Str}(k:rX X.K bD aV)(he:aX X F o m)(hf:f∈aV:=by decide+kernel)(hK:F.K=X.K:=by rfl)(hb:attributeBase o f X.env (eval o X.env)=eval o X.env:=by rfl):aX X F (.Attribute o f pos) (eX (iW bD f) m):=⟨ay.Mw (k:=k) (he:=he.1) (hf:=hf) (hK:=hK) (hb:=hb)⟩
theorem XW {bD mt:Str} {n k:Nat} {mf:List D→R b1} {pl:Sem Bool} {apos:Pos} (c:p6 X.prog X.w X.K X.mg X.base bD mt n k mf) (hr:dE k X.A) (he:aX X F o m) (ha:fM X F (e::ag) ma) (hE:F.e_=fun _ _=>False:=by rfl) (hK:F.K=X.K:=by rfl) (hst:starEach (e::ag) X.env=(false,eval e X.env)::starEach ag X.env:=by rfl) (hpl:(backTo pos (starEach ag X.env)).any (·.1)=false:=by rfl) (ht:eval (.Call (.Attribute o mt apos) (e::ag) [] pos) X.env=(do
   let dK ←eval o X.env
   standAt apos.atName
   let(f,first) ←holding [dK] (getMethod dK mt pl)
   callWith pos f first (backTo pos (starEach (e::ag) X.env)) (backToKw pos (keywordEach [] X.env))):=by rfl):aX X F (.Call (.Attribute o mt apos) (e::ag) [] pos) (qY bD mt n mf m ma):=⟨ay.MH (c:=c) (hr:=hr) (he:=he.1) (ha:=ha.1) (hE:=hE) (hK:=hK) (hst:=hst) (hpl:=hpl) (ht:=ht)⟩
theorem C5(hu:X.A.units+64<cLine)(ha:aX X F a m)(hb:aX X F b n)(h1:behindInMarks .In b=false:=by with_unfolding_all rfl):e5 X F (.Compare a [.In] [b] pos) (bc (ai (fD true) m n)):=⟨ay.WG (hu:=hu) (ha:=ha.1) (hb:=hb.1) (h1:=h1)⟩
theorem Yj(hu:X.A.units+64<cLine)(ha:aX X F a m)(hb:aX X F b n)(h1:behindInMarks .NotIn b=false:=by with_unfolding_all rfl):e5 X F (.Compare a [.NotIn] [b] pos) (bc (ai (fD false) m n)):=⟨ay.WH (hu:=hu) (ha:=ha.1) (hb:=hb.1) (h1:=h1)⟩
theorem Kf(i:Nat){x:Str}{p q:Pos}(hN:X.N.Nodup)(hi:X.N[i]?=some x:=by rfl)(hx:Loc X.env.scope x:=by first|exact Or.inl rfl|exact Or.inr rfl)(hf:X.fn x=true∨X.env.scope.names.lookup x=some .local:=by first|exact .inl rfl|exact .inr rfl):eL X F (.Assign [.Name x p] (.Dict [] [] q) pos) (o9 i):=⟨ay.Va (i:=i) (hN:=hN) (hi:=hi) (hx:=hx) (hf:=hf)⟩
theorem xn(i:Nat){x:Str}{aH pos':Pos}{k v:Expr}{mk mv:aC}(hu:X.A.units+64<cLine)(hk:aX X F k mk)(hv:aX X F v mv)(hN:X.N[i]?=some x:=by rfl)(hvs:eC X.env.scope x:=by first|exact Or.inl rfl|exact Or.inr (Or.inl rfl)|exact Or.inr (Or.inr rfl))(hd:(x==("__debug__" :Str))=false:=by decide)(hcd:(x==("__classdict__" :Str))=false:=by decide)(hs:i1 v=true:=by rfl):eL X F (.Assign [.Subscript (.Name x aH) k pos'] v pos) (kQ i mk mv):=⟨ay.UY (i:=i) (hu:=hu) (hk:=hk.1) (hv:=hv.1) (hN:=hN) (hvs:=hvs) (hd:=hd) (hcd:=hcd) (hs:=hs)⟩
theorem n5(h:aX X F e m):eL X F (.Return (some e) pos) (ig m):=⟨ay.U9 (h:=h.1)⟩
theorem Kd{st:Stmt}:eL X F st qQ:=⟨ay.UT ⟩
theorem XP(h:aX X F e m):aX X F e (nA m):=⟨ay.Mq (h:=h.1)⟩
theorem XU{bD:Str}{n k:Nat}{mf:List D→R (List Str×List D)}(c:um X.prog X.w X.K X.mg X.base bD n k mf)(hr:dE (k+1) X.A)(ha:fM X F (e::ag) ma)(hK:F.K=X.K:=by rfl)(hg:da X bD:=by rfl)(hdb:(bD==("__debug__" :Str))=false:=by decide)(he:starEach (e::ag) X.env=(false,eval e X.env)::starEach ag X.env:=by rfl)(hpl:(backTo pos (starEach ag X.env)).any (·.1)=false:=by rfl):aX X F (.Call (.Name bD p) (e::ag) [] pos) (qX bD n mf ma):=⟨ay.MG (c:=c) (hr:=hr) (ha:=ha.1) (hK:=hK) (hg:=hg) (hdb:=hdb) (he:=he) (hpl:=hpl)⟩
theorem J7(hm:X.mg "tuple"=none)(ha:fM X F [e] ma)(hK:F.K=X.K:=by rfl)(hg:da X "tuple":=by rfl)(he:starEach [e] X.env=(false,eval e X.env)::starEach [] X.env:=by rfl)(hpl:(backTo pos (starEach [] X.env)).any (·.1)=false:=by rfl):aX X F (.Call (.Name "tuple" p) [e] [] pos) (ct mF ma):=⟨ay.M1 (hm:=hm) (ha:=ha.1) (hK:=hK) (hg:=hg) (he:=he) (hpl:=hpl)⟩
theorem JY(ha:aX X F a m)(hb:aX X F b n)(hK:F.K=X.K:=by rfl):aX X F (.BinOp a .Add b pos) (ai lq m n):=⟨ay.Ms (ha:=ha.1) (hb:=hb.1) (hK:=hK)⟩
theorem XZ{lo hi:Option Expr}{bW:Pos}{kS kR:jc}(ha:aX X F a m)(hl:qb X F lo kS)(hh:qb X F hi kR)(hK:F.K=X.K:=by rfl):aX X F (.Subscript a (.Slice lo hi none bW) pos) (jS rA m kS kR):=⟨ay.MV (ha:=ha.1) (hl:=hl.1) (hh:=hh.1) (hK:=hK)⟩
theorem J2(ha:aX X F a m)(hb:aX X F b n):aX X F (.BinOp a .Mult b pos) (ai nI m n):=⟨ay.ML (ha:=ha.1) (hb:=hb.1)⟩
theorem Yc(i:Nat){x:Str}{aH:Pos}(hb:aX X F b m)(hN:X.N[i]?=some x:=by rfl)(hv:eC X.env.scope x:=by first|exact Or.inl rfl|exact Or.inr (Or.inl rfl)|exact Or.inr (Or.inr rfl))(hd:(x==("__debug__" :Str))=false:=by decide)(hcd:(x==("__classdict__" :Str))=false:=by decide):j2 X F (.BinOp (.Name x aH) .Add b pos) (qT i m):=⟨ay.Sf (i:=i) (hb:=hb.1) (hN:=hN) (hv:=hv) (hd:=hd) (hcd:=hcd)⟩
structure uD(X:aK)(F:aZ)(st:Stmt)(m:er):Prop where
 o:cU X st (mE F m)
structure uC(X:aK)(F:aZ)(st:List Stmt)(m:er):Prop where
 o:fa X st (mE F m)
theorem Yb{m:er}(h:uD X F st m):uC X F [st] m:=⟨tI h.1⟩
theorem ug{a b:er}(h:uD X F st a)(k:uC X F kk b):uC X F (st::kk) (lF a b):=⟨fa.imp (AM h.1 k.1) PE⟩
theorem Ka{c:Expr}{r:Stmt}{k:b4}(h:e5 X F c k):uD X F (.If c [r] [] pos) (nB k):=⟨cU.imp (AL h.1 (tI Ig) Ih) O8⟩
theorem xl{bD f x:Str}{aV:List Str}{aH pos':Pos}(k:rX X.K bD aV)(he:aX X F e m)(hf:f∈aV:=by decide+kernel)(hN:X.N[0]?=some x:=by rfl)(hv:eC X.env.scope x:=by first|exact Or.inl rfl|exact Or.inr (Or.inl rfl)|exact Or.inr (Or.inr rfl))(hd:(x==("__debug__" :Str))=false:=by decide)(hcd:(x==("__classdict__" :Str))=false:=by decide)(hs:i1 e=true:=by rfl)(hK:F.K=X.K:=by rfl) :
  uD X F (.Assign [.Attribute (.Name x aH) f pos'] e pos) (jR bD f m):=⟨ay.U0 k he.1 hf hN hv hd hcd hs hK⟩
end
structure uo(K:PySem.W.Frag)(bD x qual:Str)(st:Stmt)(aU:List Str):Prop where
 ex:∃(C f:Addr)(fd:FuncData),hn K bD C∧jx K C∧Meth K C x f∧kv K x qual st f fd∧Binds K fd aU []
structure InK(K:PySem.W.Frag)(mg:Str→Option Value)(bD qual:Str)(st:Stmt)(aU:List Str):Prop where
 ex:∃(C f:Addr)(fd:FuncData),hn K bD C∧uq K C f∧kv K "__init__" qual st f fd∧mg bD=some (.ref C)∧Binds K fd aU []
theorem J9{P:Program}{w:World}{K:PySem.W.Frag}{mg:Str→Option Value}{base:Heap}{x qual bD fj:Str}{st:Stmt}{N aU:List Str}{k:Nat}{m:a8}(d:uo K bD x qual st (fj::aU))(S:cN N (fj::aU) (bQ st))(h:∀(f:Addr)(b9:Value)(A:Around)(outer:List Env)(s:Shared)(H:ah)(E:dc),dE k (A.deeper (PyProof.Rows.envOfC qual (bQ st) s.heap.objs.size f b9))→∀cu bL,jB (iT gk P w K mg base N qual (bQ st) f b9 A outer s H E).jU (fF K cu bL) (fO st) m) :
  p6 P w K mg base bD x aU.length (k+1) (cZ N.length m):=by
 obtain⟨C,f,fd,h1,h2,h3,h4,h5⟩:=d.ex;exact Ry h4 h1 h2 h3 h5 S h
theorem X7{P:Program}{w:World}{K:PySem.W.Frag}{mg:Str→Option Value}{base:Heap}{qual bD fj:Str}{st:Stmt}{aU:List Str}{k:Nat}{m:er}(d:InK K mg bD qual st (fj::aU))(S:cN (fj::aU) (fj::aU) (bQ st))(h:∀(f:Addr)(b9:Value)(A:Around)(outer:List Env)(s:Shared)(H:ah)(E:dc),dE k (A.deeper (PyProof.Rows.envOfC qual (bQ st) s.heap.objs.size f b9))→∀cu bL,uC (iT gk P w K mg base (fj::aU) qual (bQ st) f b9 A outer s H E).jU (fF K cu bL) (fO st) m) :
  um P w K mg base bD aU.length (k+1) (fun ag=>outI bD (m (jP bD ag))):=by
 obtain⟨C,f,fd,h1,h2,h3,h4,h5⟩:=d.ex;exact⟨C,f,fd,fj::aU,h1,h2,Pn h3 S fun f b9 A outer s H E hr cu bL=>(h f b9 A outer s H E hr cu bL).1,h4,h5⟩
end ay
namespace ay
open PySem PySem.Spec aS PyProof.Rows
section
variable{K:PySem.W.Frag}{G G' H H':ah}
theorem bK.nil:bK K G H [] []:=by simp only[bK]
theorem bK.cons{t:T}{aA:List T}{v:V}{vs:List V}(h:cf K G H t v)(k:bK K G H aA vs):bK K G H (t::aA) (v::vs):=by simp only[bK];exact⟨v,vs,rfl,h,k⟩
theorem bK.length:∀{aA:List T}{vs:List V},bK K G H aA vs→aA.length=vs.length
 |[],_,h=>by simp only[bK]at h;subst h;rfl
 |_::_,_,h=>by simp only[bK]at h;obtain⟨v,r,rfl,_,t⟩:=h;simp[bK.length t]
theorem tY:∀{aA:List T}{vs:List V}{i:Nat}{t:T},bK K G H aA vs→aA[i]?=some t→∃v,vs[i]?=some v∧cf K G H t v
 |[],_,_,_,_,e=>by simp at e
 |_::_,_,0,_,h,e=>by simp only[bK]at h;obtain⟨v,r,rfl,q,t⟩:=h;simp at e;subst e;exact⟨v,by simp,q⟩
 |_::_,_,i+1,d,h,e=>by simp only[bK]at h;obtain⟨v,r,rfl,q,t⟩:=h;obtain⟨u,h1,h2⟩:=tY (i:=i) (t:=d) t (by simpa using e);exact⟨u,by simpa using h1,h2⟩
theorem bK.append:∀{aA us:List T}{vs ws:List V},bK K G H aA vs→bK K G H us ws→bK K G H (aA++us) (vs++ws)∧cj H (aA++us) (vs++ws)=cj H aA vs++cj H us ws
 |[],_,_,_,h,t=>by simp only[bK]at h;subst h;exact⟨t,by rw[lu];rfl⟩
 |_::_,_,_,_,h,t=>by simp only[bK]at h;obtain⟨v,r,rfl,q,s⟩:=h;obtain⟨h1,h2⟩:=bK.append s t;exact⟨.cons q h1,by rw[List.cons_append,List.cons_append,fP,fP,h2,List.append_assoc]⟩
theorem bK.take:∀(n:Nat){aA:List T}{vs:List V},bK K G H aA vs→bK K G H (aA.take n) (vs.take n)∧List.Sublist (cj H (aA.take n) (vs.take n)) (cj H aA vs)
 |0,_,_,_=>⟨by simpa using bK.nil,by simp[lu]⟩
 |_+1,[],_,h=>by simp only[bK]at h;subst h;exact⟨by simpa using bK.nil,by simp[lu]⟩
 |n+1,_::_,_,h=>by simp only[bK]at h;obtain⟨v,r,rfl,q,t⟩:=h;obtain⟨h1,h2⟩:=bK.take n t;exact⟨.cons q h1,by rw[List.take_succ_cons,List.take_succ_cons,fP,fP];exact h2.append_left _⟩
theorem Cq:∀{ds:List D}{xs:List V},aI K G ds xs→bK K G H (ds.map T.aq) xs∧cj H (ds.map T.aq) xs=[]
 |[],_,h=>by simp only[aI]at h;subst h;exact⟨.nil,lu⟩
 |_::_,_,h=>by simp only[aI]at h;obtain⟨v,r,rfl,q,t⟩:=h;obtain⟨h1,h2⟩:=Cq t;exact⟨.cons (by simp only[cf];exact q) h1,by rw[List.map_cons,fP,h2];simp only[aE,List.append_nil]⟩
theorem zk:∀{aA:List T}{xs:List V}{k:Nat}{t:T}{v:V}{b:Addr},aA[k]?=some t→xs[k]?=some v→b∈aE H t v→b∈cj H aA xs
 |[],_,_,_,_,_,e,_,_=>by simp at e
 |_::_,[],_,_,_,_,_,e,_=>by simp at e
 |_::_,_::_,0,_,_,_,aj,ax,h=>by simp at aj ax;subst aj ax;rw[fP];exact List.mem_append_left _ h
 |_::_,_::_,k+1,_,_,_,aj,ax,h=>by rw[fP];exact List.mem_append_right _ (zk (by simpa using aj) (by simpa using ax) h)
theorem JC{us mH:List T}{q:Addr}{ys jw:List V}(aO:H q=some (.lst ys))(n:bK K G H mH jw)(f:cj H mH jw=cj H us ys):∀{aA:List T}{xs:List V}{k:Nat},bK K G H aA xs→(cj H aA xs).Nodup→aA[k]?=some (.lst us)→xs[k]?=some (.ref q)→
  bK K G (upd H q (.lst jw)) (aA.set k (.lst mH)) xs∧cj (upd H q (.lst jw)) (aA.set k (.lst mH)) xs=cj H aA xs
 |[],_,_,_,_,e,_=>by simp at e
 |t::aA,_,k,h,aQ,aj,ax=>by
  simp only[bK]at h;obtain⟨v,r,rfl,h1,h2⟩:=h;rw[fP]at aQ ⊢;obtain⟨wo,pk,tr⟩:=List.nodup_append.mp aQ;cases k with
  |zero=>
   simp at aj ax;subst aj ax;have dW:aE H (.lst us) (.ref q)=q::cj H us ys:=gG aO;rw[dW]at wo tr ⊢;have cG:q∉cj H us ys:=(List.nodup_cons.mp wo).1;have cD:q∉cj H aA r:=fun z=>tr q (by simp) q z rfl;obtain⟨ey,eI⟩:=n.keep (H':=upd H q (.lst jw)) fun b hb=>dr fun z=>cG (by rw[←z,←f];exact hb);obtain⟨fL,CL⟩:=h2.keep (H':=upd H q (.lst jw)) fun b hb=>dr fun z=>cD (by rw[←z];exact hb);refine⟨.cons ?_ fL,?_⟩
   ·simp only[cf];exact⟨q,jw,rfl,dA,ey⟩
   ·rw[List.set_cons_zero,fP,gG dA,eI,CL,f]
  |succ k=>simp only[List.getElem?_cons_succ]at aj ax;have wk:q∈cj H aA r:=zk aj ax (by rw[gG aO];simp);have cG:q∉aE H t v:=fun z=>tr q z q wk rfl;obtain⟨ey,eI⟩:=h1.Qs (o:=.lst jw) cG;obtain⟨fL,CL⟩:=JC aO n f h2 pk aj ax;exact⟨.cons ey fL,by rw[List.set_cons_succ,fP,eI,CL]⟩
end
section
variable{F:aZ}{G H:ah}{σ :aS.St}{ρ:ak}
theorem Rel.Hq(r:Rel F G H σ ρ){i k:Nat}{aA us mH:List T}{a q:Addr}{xs ys jw:List V}(e:ρ[i]?=some (.bG (.lst aA)))(aj: σ[i]?=some (some (.ref a)))(ha:H a=some (.lst xs))(dP:aA[k]?=some (.lst us))(ex:xs[k]?=some (.ref q))(aO:H q=some (.lst ys))(n:bK F.K G H mH jw)(f:cj H mH jw=cj H us ys):Rel F G (upd H q (.lst jw)) σ (ρ.set i (.bG (.lst (aA.set k (.lst mH))))):=by
 obtain⟨v,ax,ey,eI,fL⟩:=r.tree e;rw[aj]at ax;cases ax;simp only[cf]at ey;obtain⟨m3,iq,ar,kd,wl⟩:=ey;cases ar;rw[ha]at kd;cases kd;have dW:aE H (.lst aA) (.ref a)=a::cj H aA xs:=gG ha;rw[dW]at eI fL;obtain⟨wo,pk⟩:=List.nodup_cons.mp eI;have wk:q∈cj H aA xs:=zk dP ex (by rw[gG aO];simp);have na:a≠q:=fun z=>wo (by rw[z];exact wk);obtain⟨dG,bW⟩:=JC aO n f wl pk dP ex;have ng:upd H q (.lst jw) a=some (.lst xs):=by rw[dr na];exact ha
 have kI:aE (upd H q (.lst jw)) (.lst (aA.set k (.lst mH))) (.ref a)=a::cj H aA xs:=by rw[gG ng,bW]
 refine r.wm e aj (a:=q) ⟨.ref a,rfl,by rw[dW];exact List.mem_cons_of_mem _ wk⟩ ⟨.ref a,rfl,⟨?_,?_,?_⟩⟩ fun b jH=>.inl ?_
 ·simp only[cf];exact⟨a,xs,rfl,ng,dG⟩
 ·rw[kI];exact eI
 ·rw[kI];exact fL
 ·obtain⟨u,iw,hb⟩:=jH;cases iw;rw[kI,←dW]at hb;exact⟨.ref a,rfl,hb⟩
end
structure xS(X:aK)(F:aZ)(e:Expr)(m:kz):Prop where
 o:a3 X e (w6 F m)
section
variable{X:aK}{F:aZ}{e a b c bu iter elt:Expr}{ag:List Expr}{pos p:Pos}{m n:aC}{ma:aP}
theorem J_{x:Str}{n k:Nat}{mf:List D→R b1}(c:c8 X.prog X.w X.K X.mg X.base x n k mf)(hr:dE k X.A)(ha:fM X F (e::ag) ma)(hE:F.e_=fun _ _=>False:=by rfl)(hK:F.K=X.K:=by rfl)(hg:da X x:=by rfl)(hdb:(x==("__debug__" :Str))=false:=by decide)(he:starEach (e::ag) X.env=(false,eval e X.env)::starEach ag X.env:=by rfl)(hpl:(backTo pos (starEach ag X.env)).any (·.1)=false:=by rfl):xS X F (.Call (.Name x p) (e::ag) [] pos) (qS n mf ma):=by obtain⟨f,fd,aU,aJ,iy,hm,hk,hb⟩:=c.ex;refine⟨a3.imp (wA iy hr hg hm hk hb .nil rm ha.1 hdb he hpl) ?_⟩;rw[←hK];exact OW (xe:=fun _ _ _=>False) (E:=uj) hE
theorem C4(i:Nat){x:Str}{p:Pos}{m:kz}(hN:X.N.Nodup)(he:xS X F e m)(hi:X.N[i]?=some x:=by rfl)(hx:Loc X.env.scope x:=by first|exact Or.inl rfl|exact Or.inr rfl)(hs:i1 e=true:=by rfl)(hf:X.fn x=true∨X.env.scope.names.lookup x=some .local:=by first|exact .inl rfl|exact .inr rfl):eL X F (.Assign [.Name x p] e pos) (o_ i m):=⟨cU.imp (rq hN hi hx he.1 (jt _ _ _ _ hs) hf) PA⟩
theorem Yh(i:Nat){x:Str}{p:Pos}(hN:X.N[i]?=some x:=by rfl)(hv:eC X.env.scope x:=by first|exact Or.inl rfl|exact Or.inr (Or.inl rfl)|exact Or.inr (Or.inr rfl))(hd:(x==("__debug__" :Str))=false:=by decide)(hcd:(x==("__classdict__" :Str))=false:=by decide) :
  eL X F (.Return (some (.Name x p)) pos) (s7 (q7 i)):=⟨cU.imp (rp (hI hN hv hd hcd)) (Pw i)⟩
def il(i:Nat)(ρ:ak):R (List T):=match ρ[i]? with
 |some (.bG (.lst aA))=>.ok aA
 |_=>.bad
theorem w_{i:Nat}{ρ:ak}{aA:List T}(h:il i ρ=.ok aA):ρ[i]?=some (.bG (.lst aA)):=by
 unfold il at h
 split at h
 ·rename_i e;cases h;exact e
 ·cases h
theorem w9{i:Nat}{ρ:ak}{c:Str}(h:il i ρ=.exc c):False:=by
 unfold il at h
 split at h<;>cases h
theorem Rel.root{G H:ah}{σ :aS.St}{ρ:ak}(r:Rel F G H σ ρ){i:Nat}{aA:List T}(e:ρ[i]?=some (.bG (.lst aA))):∃a xs,σ[i]?=some (some (.ref a))∧H a=some (.lst xs)∧bK F.K G H aA xs∧(cj H aA xs).Nodup:=by obtain⟨v,ax,ey,eI,fL⟩:=r.tree e;simp only[cf]at ey;obtain⟨a,xs,rfl,ha,wl⟩:=ey;rw[gG ha]at eI;exact⟨a,xs,ax,ha,wl,(List.nodup_cons.mp eI).2⟩
end
end ay
namespace ay
open PySem PySem.Spec aS
def gr(ds:List D):T:=.lst (ds.map T.aq)
section
variable{F:aZ}
end
section
variable{X:aK}{F:aZ}{e a b c bu iter elt:Expr}{ag:List Expr}{pos p:Pos}{m n:aC}{ma:aP}{scope:Scope}{N:List Str}
end
noncomputable def jZ(c:b4)(b:a8):Nat→ak→R fl
 |0,_=>.bad
 |n+1,ρ=>(c ρ).bind fun k=>if k=true then(b ρ).bind fun f=>match f with
  |.bj bh=>jZ c b n bh
  |.c3 bh=>jZ c b n bh
  |.ft bh=>.ok (.bj bh)
  |f=>.ok f
  else .ok (.bj ρ)
def q8(c:b4)(b:a8):a8:=jZ c b 1000
section
variable{F:aZ}
theorem PJ{c:b4}{b:a8}:gR (e9 F (q8 c b)) (Jw (gd F c) (e9 F b)):=by
 rintro bO σ H ⟨G,ρ,r,h⟩;refine⟨fun m σ2 aM=>∃cE dR,Rel F cE aM σ2 dR∧Sub G cE∧g0 F cE bO (jZ c b m dR),⟨1000,G,ρ,r,Sub.refl _,h⟩,?_⟩;rintro m σ2 aM ⟨cE,dR,bg,s2,b7⟩;refine⟨cE,dR,bg,?_⟩;cases m with
 |zero=>exact b7.elim
 |succ n=>
  simp only[jZ]at b7;cases ec:c dR with
  |bad=>rw[ec]at b7;exact b7.elim
  |exc x=>rw[ec]at b7;exact b7
  |ok k=>
   rw[ec,R.bl]at b7;intro cO fm dU lQ;cases k with
   |false=>rw[if_neg Bool.false_ne_true]at b7 ⊢;exact b7 σ2 fm cO dU lQ.g
   |true=>
    rw[if_pos rfl]at b7 ⊢;refine⟨fun σ4 gy=>∃rY iJ,Rel F rY gy σ4 iJ∧Sub G rY∧g0 F rY bO (jZ c b n iJ),fun σ4 gy q=>⟨n,Nat.lt_succ_self _,q⟩,fm,dR,dU,?_⟩;cases bq:b dR with
    |bad=>rw[bq]at b7;exact b7.elim
    |exc x=>rw[bq]at b7;exact b7
    |ok f=>
     rw[bq,R.bl]at b7;cases f with
     |bj mL=>exact fun σ7 kx f9 ij dV=>⟨kx,mL,ij,s2.trans (lQ.g.trans dV),g0.mono (lQ.g.trans dV) b7⟩
     |c3 mL=>exact fun σ7 kx f9 ij dV=>⟨kx,mL,ij,s2.trans (lQ.g.trans dV),g0.mono (lQ.g.trans dV) b7⟩
     |ft mL=>exact fun σ7 kx f9 ij dV=>b7 σ7 kx f9 ij (lQ.g.trans dV)
     |dh d=>exact b7
     |i6 ds=>exact b7
     |i5 t=>exact b7
end
section
variable{X:aK}{F:aZ}{e a b c o:Expr}{ag:List Expr}{pos p:Pos}{m n:aC}{ma:aP}
theorem Kg{body:List Stmt}{wh:b4}{dq:a8}(hp:PassesOwn (model X.prog X.w) X.A X.env X.xe)(hc:e5 X F c wh)(hb:jB X F body dq):eL X F (.While c body [] pos) (q8 wh dq):=⟨cU.imp (T3 hp hc.1 hb.1) PJ⟩
def wV:=hB fun i j=>if 0≤j then .ok (.int (i/2^j.toNat))else .bad
def uG:=hB fun i j=>.ok (.int (Builtin.bitAnd i j))
theorem J5(ha:aX X F a m)(hb:aX X F b n):aX X F (.BinOp a .RShift b pos) (ai wV m n):=⟨kH SY (ri fun _ _ _=>by simp only[At]) ha.1 hb.1⟩
theorem JX(ha:aX X F a m)(hb:aX X F b n):aX X F (.BinOp a .BitAnd b pos) (ai uG m n):=⟨kH SK (rj fun _ _ _=>by simp only[At]) ha.1 hb.1⟩
noncomputable def findD(bV:List (List Key))(ds:List D)(cJ:List Key):Option D:=((bV.zip ds).find? fun p=>decide (p.1=cJ)).map (·.2)
theorem zi{K:PySem.W.Frag}{G:ah}(cJ:List Key):∀{ds:List D}{xs:List (List Key×V)},aI K G ds (xs.map (·.2))→match findD (xs.map (·.1)) ds cJ with
  |some d=>∃v,gf xs cJ=some v∧At K G d v
  |none=>gf xs cJ=none
 |[],xs,h=>by
  simp only[aI]at h;have:xs=[]:=by simpa using h
  subst this;rfl
 |d::ds,[],h=>by simp only[aI,List.map_nil]at h;obtain⟨v,r,e,_⟩:=h;cases e
 |d::ds,(k,v)::xs,h=>by
  simp only[aI,List.map_cons]at h;obtain⟨lR,r,e,a,t⟩:=h;cases e;have b6:=zi (K:=K) (G:=G) cJ (ds:=ds) (xs:=xs) t;unfold findD gf at b6 ⊢;simp only[List.map_cons,List.zip_cons_cons,List.find?_cons];by_cases hk:k=cJ
  ·simp only[hk,decide_true,Option.map_some];exact⟨v,rfl,a⟩
  ·simp only[hk,decide_false];exact b6
noncomputable def sY(m n:aC):aC:=fun ρ=>(m ρ).bind fun d=>match d with
 |.a_ bV ds=>(n ρ).bind fun k=>match mj k with
  |some cJ=>.ok ((findD bV ds cJ).getD .non)
  |none=>.bad
 |_=>.bad
theorem O0:ej (cY F (sY m n)) (Jk (cY F m) (cY F n)):=by
 rintro σ H Q ⟨G,ρ,r,h⟩;unfold sY at h;refine⟨G,ρ,r,?_⟩;cases ar:m ρ with
 |bad=>rw[ar]at h;exact h.elim
 |exc c=>rw[ar]at h;exact h
 |ok dd=>
  rw[ar,R.bl]at h;intro x H1 aN av s1 bF;cases dd with
  |a_ bV ds=>
   simp only at h;simp only[At]at bF;obtain⟨a,xs,rfl,hg,rfl,al⟩:=bF;refine⟨a,rfl,.inr ⟨xs,.inl (av.aL.sub _ _ hg)⟩,aN,ρ,av,?_⟩;cases bq:n ρ with
   |bad=>rw[bq]at h;exact h.elim
   |exc c=>rw[bq]at h;exact h
   |ok m8=>
    rw[bq,R.bl]at h;intro y aM cE bg s2 b5;cases dP:mj m8 with
    |none=>rw[dP]at h;exact h.elim
    |some cJ=>
     rw[dP]at h;simp only at h;obtain⟨q,rfl,aO⟩:=vJ dP b5;refine⟨gf xs cJ,hS.t (bg.aL.sub _ _ (s2.g _ _ hg)) (bg.aL.sub _ _ aO),?_⟩;have f:=zi (K:=F.K) (G:=aN) cJ al;cases dW:findD (xs.map (·.1)) ds cJ with
     |none=>rw[dW]at f h;rw[show gf xs cJ=none from f];exact h .non aM cE bg (s1.trans s2) (by simp only[Option.getD_none,At])
     |some d=>rw[dW]at f h;obtain⟨v,ev,bf⟩:=f;rw[ev];exact h v aM cE bg (s1.trans s2) (bf.mono s2.g)
  |_=>exact h.elim
theorem XS {apos bC:Pos} (hu:X.A.units+64<cLine) (ho:aX X F o m) (he:aX X F e n) (h1:attributeBase o "get" X.env (eval o X.env)=eval o X.env:=by rfl)(h2:((backTo bC (starEach [e] X.env)).all (fun x=>!x.1)&&(backToKw bC (keywordEach [] X.env)).all (fun x=>x.1.isSome)
  &&decide (([e]:List Expr).length+([]:List Keyword).length+(if([]:List Keyword).isEmpty then 0 else 1)<30))=true:=by rfl) (h3:(apos.endLine==bC.line)=true:=by rfl) (h4:backTo bC (starEach [e] X.env)=[(false,eval e X.env)]:=by rfl) :
  aX X F (.Call (.Attribute o "get" apos) [e] [] bC) (sY m n):=⟨a3.imp (Ti (by omega) ho.1 he.1 ⟨h1,h2,h3,h4⟩) O0⟩
noncomputable def qm(d k:D):R D:=match d with
 |.a_ bV ds=>match mj k with
  |some cJ=>match findD bV ds cJ with
   |some v=>.ok v
   |none=>.bad
  |none=>.bad
 |_=>.bad
theorem O1:ej (cY F (ai qm m n)) (Jj (cY F m) (cY F n)):=by
 rintro σ H Q ⟨G,ρ,r,h⟩;unfold ai at h;refine⟨G,ρ,r,?_⟩;cases ar:m ρ with
 |bad=>rw[ar]at h;exact h.elim
 |exc c=>rw[ar]at h;exact h
 |ok dd=>
  rw[ar,R.bl]at h;intro x H1 aN av s1 bF;refine⟨aN,ρ,av,?_⟩;cases bq:n ρ with
  |bad=>rw[bq]at h;exact h.elim
  |exc c=>rw[bq]at h;exact h
  |ok m8=>
   rw[bq,R.bl]at h;intro y aM cE bg s2 b5;unfold qm at h
   split at h
   ·rename_i bV ds
    split at h
    ·rename_i cJ dP;simp only[At]at bF;obtain⟨a,xs,rfl,hg,rfl,al⟩:=bF;obtain⟨q,rfl,aO⟩:=vJ dP b5;have f:=zi (K:=F.K) (G:=aN) cJ al
     split at h
     ·rename_i d dW;rw[dW]at f;obtain⟨v,ev,bf⟩:=f;refine⟨a,v,rfl,?_,h v aM cE bg (s1.trans s2) (bf.mono s2.g)⟩;rw[←ev];exact hS.t (bg.aL.sub _ _ (s2.g _ _ hg)) (bg.aL.sub _ _ aO)
     ·exact h.elim
    ·exact h.elim
   ·exact h.elim
theorem XT(hu:X.A.units+64<cLine)(ho:aX X F o m)(he:aX X F e n)(hs:xN e):aX X F (.Subscript o e pos) (ai qm m n):=⟨a3.imp (Th (by omega) ho.1 he.1 hs) O1⟩
noncomputable def Uo(F:aZ):V→List V→ah→cI→Prop:=fun x vs H Q=>∃G d1 cC p y ds xs j,Sub G H∧x=.ref p∧vs=[y]∧At F.K G d1 y∧gz F.K G cC p false ds xs∧okN 7 d1=true∧ds.all (okN 7)=true∧ds.length<1000000∧ds.findIdx? (fun z=>bk z d1)=some j∧Q (.int (j:Nat)) H
theorem K3{pins:List (Addr×Obj)}{σ :aS.St}{G H:ah}{s:Shared}(I:Inv X pins σ H s)(a7:Sub G H){d1:D}{ds:List D}{xs:List V}{its:List Value}(q:aI X.K G ds xs)(r:Vals xs its)(o:ds.all (okN 7)=true){i:Nat}{d:D}{u:Value}(aj:ds[i]?=some d)(ax:its[i]?=some u):kF X.K G d1 u=bk d d1:=by
 obtain⟨v,ev,bf⟩:=q.get aj;have ho:okN 7 d=true:=List.all_eq_true.mp o d (List.mem_of_getElem? aj);have b0:RelV v u:=by obtain⟨iH,iw,ef⟩:=r.get ev;rw[ax]at iw;cases iw;exact ef
 exact xW I a7 ho ⟨v,bf,b0⟩
theorem RM(hK:F.K=X.K)(hu:X.A.units+64<cLine):r3 X "list.index" (Uo F):=by
 intro pins s σ H x vs v us Q I bt b0 h;obtain⟨G,d1,cC,p,y,ds,xs,j,a7,rfl,rfl,a1,fw,cy,b_,hl,cF,q⟩:=h;rw[hK]at a1 fw;cases bt;obtain⟨u,rfl,ef⟩:=vals1 b0;obtain⟨its,av,t1,eG⟩:=fw.heap I a7;have hm:=wi I a7 (A:=X.A.in1) (d1:=d1) (by simp only[in1_units];omega) cy a1 ef fw.gS av b_;obtain⟨⟨cls,dict,data,slots⟩,g1,g2,nn,g3⟩:=eG rfl;simp only at g2 g3;subst g2 g3;obtain⟨ic,aj,ax⟩:=List.findIdx?_eq_some_iff_getElem.mp cF;have vr:its.length=ds.length:=by rw[←av.length,←fw.gS.length]
 have Oi:j<its.length:=by omega
 have DB:∀(i:Nat)(h:i<ds.length),kF X.K G d1 (its[i]'(by omega))=bk ds[i] d1:=fun i h=>K3 I a7 fw.gS av b_ (List.getElem?_eq_getElem h) (List.getElem?_eq_getElem (by omega));have hA:s.TypeIs (.ref p) "list":=⟨_,g1,rfl⟩;have Oz:(j:Int)<2^63-1:=by
  have:(j:Int)<1000000:=by omega
  omega
 refine call_meets PySem.F.slot_list_index hA PySem.F.entry_list_index (PySem.F.args_list_index_2 _ _) (SeqAt.list_indexAt p its.toArray nn dict slots u (kF X.K G d1) j (by simpa using Oi) Oz ?_ ?_) ⟨g1,fun w hw=>hm w (by simpa using hw),?_⟩
 ·have:=DB j ic;rw[aj]at this;simpa using this
 ·intro k hk Of;have z:=DB k (by omega);have bE:=ax k Of;rw[Bool.not_eq_true]at bE;rw[bE]at z;simpa using z
 ·exact⟨.int (j:Nat),H,I.tok _,⟨_,rfl⟩,q⟩
noncomputable def vz:D→List D→R D
 |.lst ds,[d]=>if okN 7 d=true∧ds.all (okN 7)=true∧ds.length<1000000 then match ds.findIdx? (fun z=>bk z d)with
  |some j=>.ok (.int (j:Nat))
  |none=>.bad
  else .bad
 |_,_=>.bad
noncomputable def nD(m:aC)(ma:aP):aC:=fun ρ=>(m ρ).bind fun d=>match d with
 |.lst ds=>(ma ρ).bind fun ag=>vz (.lst ds) ag
 |_=>.bad
theorem JZ {apos bC:Pos} (hu:X.A.units+64<cLine) (ho:aX X F o m) (ha:fM X F [e] ma) (hK:F.K=X.K:=by rfl)(hbase:attributeBase o "index" X.env (eval o X.env)=eval o X.env:=by rfl)(hfew:((backTo bC (starEach [e] X.env)).all (fun x=>!x.1)&&(backToKw bC (keywordEach [] X.env)).all (fun x=>x.1.isSome)
    &&decide (([e]:List Expr).length+([]:List Keyword).length+(if([]:List Keyword).isEmpty then 0 else 1)<30))=true:=by rfl)
  (hline:(apos.endLine==bC.line)=true:=by rfl) (hs:starEach [e] X.env=(false,eval e X.env)::starEach [] X.env:=by rfl) (hplain:(backTo bC (starEach [] X.env)).any (·.1)=false:=by rfl) :
  aX X F (.Call (.Attribute o "index" apos) [e] [] bC) (nD m ma):=by
 refine⟨a3.imp (pw PySem.F.plainAttrs_list PySem.F.slot_list_index PySem.F.type_list_index (RM (F:=F) hK hu) ho.1 ha.1 hbase hfew hline hs hplain) ?_⟩;rintro σ H Q ⟨G,ρ,r,h⟩;unfold nD at h;refine⟨G,ρ,r,?_⟩;cases ar:m ρ with
 |bad=>rw[ar]at h;exact h.elim
 |exc c=>rw[ar]at h;exact h
 |ok dd=>
  rw[ar,R.bl]at h;intro x H1 aN av s1 bF;cases dd with
  |lst ds=>
   simp only at h;simp only[At]at bF;obtain⟨p,xs,rfl,hg,al⟩:=bF;refine⟨.inl ⟨rfl,xs,bS.of (av.aL.sub _ _ hg)⟩,aN,ρ,av,?_⟩;cases bq:ma ρ with
   |bad=>rw[bq]at h;exact h.elim
   |exc c=>rw[bq]at h;exact h
   |ok ag=>
    rw[bq,R.bl]at h;intro vs aM cE bg s2 b5;unfold vz at h
    split at h
    ·rename_i oD d aj;cases aj
     split at h
     ·rename_i hc
      split at h
      ·rename_i j jh;obtain⟨y,rfl,bf⟩:=b5.one;exact⟨cE,d,.lst ds,p,y,ds,xs,j,bg.aL.sub,rfl,rfl,bf,.lst (s2.g _ _ hg) (al.mono s2.g),hc.1,hc.2.1,hc.2.2,jh,h _ aM cE bg (s1.trans s2) (by simp only[At])⟩
      ·exact h.elim
     ·exact h.elim
    ·exact h.elim
  |_=>exact h.elim
end
section
variable{K:PySem.W.Frag}{cu bL:ah}{E:dc}
end
section
variable{X:aK}{e c:Expr}{ag:List Expr}{st:Stmt}{pos p:Pos}{K:PySem.W.Frag}{cu bL:ah}{E:dc}{mt:b4}{ms:a8}{ma:aP}
end
section
variable{P:Program}{w:World}{K:PySem.W.Frag}{mg:Str→Option Value}{base:Heap}{N:List Str}{qual:Str}{scope:Scope}{f:Addr}{cd:Value}{A:Around}{outer:List Env}{s0:Shared}{p2:ah}{E:dc}{cu bL:ah}
end
section
variable{X:aK}{F:aZ}{e:Expr}{ag:List Expr}{pos p:Pos}{ma:aP}
end
end ay
namespace aS
open PySem PySem.Spec PySem.Calls PyProof.Rows PySem.W PySem.Builtin PySem.Builtin.ObjectAttr PySem.Builtin.Getset_descriptor
section
variable{prog:Program}{w:World}{A:Around}{E:Value→Shared→Prop}{s:Shared}{K:Frag}{a D:Addr}
end
end aS
namespace ay
open PySem PySem.Spec aS
section
variable{X:aK}{F:aZ}{a:Expr}{pos p:Pos}{m:aC}
end
noncomputable def ru:D→D→R D
 |.lst xs,.int k=>if 0≤k∧k≤1000∧xs.length≤100 then .ok (.lst (List.replicate k.toNat xs).flatten)else .bad
 |_,_=>.bad
theorem aI.rep{K:PySem.W.Frag}{G:ah}{ds:List D}{xs:List V}(q:aI K G ds xs):∀n:Nat,aI K G (List.replicate n ds).flatten (List.replicate n xs).flatten
 |0=>by simpa using aI.nil
 |n+1=>by rw[List.replicate_succ,List.replicate_succ,List.flatten_cons,List.flatten_cons];exact q.append (aI.rep q n)
section
variable{X:aK}{F:aZ}{a b:Expr}{pos p:Pos}{m n:aC}
theorem Sw:fA F Iu ru:=by
 intro σ ρ G H x y a0 eN Q r bF b5 k;unfold ru at k
 split at k
 ·rename_i xs j
  split at k
  ·rename_i hc;simp only[At]at bF b5;obtain⟨l,vs,rfl,hl,al⟩:=bF;refine⟨l,j,vs,rfl,b5,r.aL.sub _ _ hl,by omega,by omega,?_,fun q aO=>?_⟩
   ·rw[←al.length];have h1:j.toNat≤1000:=by omega
    exact Nat.le_trans (Nat.mul_le_mul hc.2.2 h1) (by decide)
   ·refine k (.ref q) _ _ (r.lay aO) (bT.lay r.aL.sub aO) ?_;simp only[At];exact⟨q,_,rfl,dA,(al.mono (Sub.upd (r.aL.sub.gone aO))).rep j.toNat⟩
  ·exact k.elim
 ·exact k.elim
theorem XY(ha:aX X F a m)(hb:aX X F b n):aX X F (.BinOp a .Mult b pos) (ai ru m n):=⟨kH SX Sw ha.1 hb.1⟩
noncomputable def Hl(i:Nat)(n:aC):aC:=fun ρ=>(ownAt i ρ).bind fun ds=>(n ρ).bind fun k=>match k with
 |.int j=>match eM ds j with
  |some d=>.ok d
  |none=>.bad
 |_=>.bad
end
end ay
namespace hV
open PySem PySem.SetTable
structure Tab(t:SetTable)(n:Nat):Prop where
 YV:t.dummies= #[]
 B4:t.place.size=n
 UE:t.place.toList.Pairwise (· <·)
 le:∀j∈t.place.toList,j≤t.mask
noncomputable def KX(mask:Nat)(p:Probe):Probe:=
 if p.more>0 then{ p with j:=p.j+1,more:=p.more-1 }else
 { p with j:=(leap mask p.i p.perturb).1,more:=runEnd mask (leap mask p.i p.perturb).1-(leap mask p.i p.perturb).1,i:=(leap mask p.i p.perturb).1,perturb:=(leap mask p.i p.perturb).2 }
def T4(mask:Nat)(i q:Nat):Probe:={ j:=i,more:=runEnd mask i-i,i,perturb:=q,dummy:=none }
noncomputable def AP(mask:Nat)(h:Int):Nat→Probe
 |0=>T4 mask (bits h%(mask+1)) (bits h)
 |n+1=>KX mask (AP mask h n)
noncomputable def Af(mask:Nat)(h:Int):Nat→Nat×Nat
 |0=>(bits h%(mask+1),bits h)
 |n+1=>leap mask (Af mask h n).1 (Af mask h n).2
def i5(mask i:Nat):Nat:=runEnd mask i-i
def a7(mask:Nat)(h:Int):Nat→Nat
 |0=>0
 |n+1=>a7 mask h n+i5 mask (Af mask h n).1+1
def G5(mask:Nat):Nat→Nat→Nat
 |0,i=>i
 |n+1,i=>(G5 mask n i*5+1)%(mask+1)
def HQ(mask:Nat):Nat→Nat→List Nat
 |0,_=>[]
 |n+1,i=>i::HQ mask n ((i*5+1)%(mask+1))
structure Kr(mask:Nat):Prop where
 all:∀j,j≤mask→j∈HQ mask (mask+1) 0
 back:G5 mask (mask+1) 0=0
theorem least(p:Nat→Prop):(∃n,p n)→∃n,p n∧∀m,m<n→¬p m:=by
 rintro⟨n,h⟩;induction n using Nat.strongRecOn with
 |_ n b6=>
  by_cases q:∃m,m<n∧p m
  ·obtain⟨m,m1,m2⟩:=q;exact b6 m m1 m2
  ·exact⟨n,h,fun m hm hp=>q ⟨m,hm,hp⟩⟩
section
variable{α:Type}
noncomputable def n_(t:SetTable)(ag:Array (Int×α))(j:Nat)(e:Int×α):Prop:=∃i:Nat,t.place.toList[i]?=some j∧ag.toList[i]?=some e
structure Dp(t:SetTable)(ag:Array (Int×α)):Prop where
 tab:Tab t ag.size
 YT:Kr t.mask
 room:ag.size≤t.mask
 find:∀j e,n_ t ag j e→∃n,(AP t.mask e.1 n).j=j∧∀m,m<n→(AP t.mask e.1 m).j∈t.place.toList
theorem Dp.len{t:SetTable}{ag:Array (Int×α)}(I:Dp t ag):t.place.toList.length=ag.size:=by simpa using I.tab.B4
theorem TQ{t:SetTable}{n:Nat}(T:Tab t n){i k j:Nat}(a:t.place.toList[i]?=some j)(b:t.place.toList[k]?=some j):i=k:=by
 obtain⟨a1,a2⟩:=List.getElem?_eq_some_iff.mp a;obtain⟨eD,d0⟩:=List.getElem?_eq_some_iff.mp b;have r:=List.pairwise_iff_getElem.mp T.UE;rcases Nat.lt_trichotomy i k with h|h|h
 ·have:=r i k a1 eD h;omega
 ·exact h
 ·have:=r k i eD a1 h;omega
theorem n_.inj{t:SetTable}{ag:Array (Int×α)}{n:Nat}(T:Tab t n){j:Nat}{e cA:Int×α}(a:n_ t ag j e)(b:n_ t ag j cA):e=cA:=by obtain⟨i,a1,a2⟩:=a;obtain⟨k,eD,d0⟩:=b;have:=TQ T a1 eD;subst this;rw[a2]at d0;exact Option.some.inj d0
end
structure Own(M:Nat)(owner:Array (Option Nat))(a:List Nat):Prop where
 B4:owner.size=M+1
 aQ:a.Nodup
 le:∀j∈a,j≤M
 of:∀j k:Nat,owner[j]?=some (some k)↔a[k]?=some j
theorem Own.free{M:Nat}{owner:Array (Option Nat)}{a:List Nat}(O:Own M owner a){j:Nat}(cF:j≤M):(owner.getD j (some 0)).isNone=true↔j∉a:=by
 have hs:j<owner.size:=by have:=O.B4;omega
 rw[Array.getD_eq_getD_getElem?,Array.getElem?_eq_getElem hs];constructor
 ·intro h m;obtain⟨k,hk,rfl⟩:=List.getElem_of_mem m;have:=(O.of _ k).mpr (List.getElem?_eq_getElem hk);rw[Array.getElem?_eq_getElem hs]at this;simp only[Option.getD_some]at h;rw[Option.some.inj this]at h;cases h
 ·intro h;simp only[Option.getD_some];cases e:owner[j]with
  |none=>rfl
  |some k=>exfalso;have:=(O.of j k).mp (by rw[Array.getElem?_eq_getElem hs,e]);exact h (List.mem_of_getElem? this)
section
variable{α:Type}
end
section
variable{prog:Program}{w:World}{A:Around}{E:Value→Shared→Prop}{s:Shared}{K:Type}[DecidableEq K]{knd:KeyKind prog w K}
structure Df(knd:KeyKind prog w K)(h:Heap)(ag:List (Int×Value)):Prop where
 el:∀e∈ag,∃bV b,e.2=.ref b∧IsTupleKey knd h bV b∧e.1=tupleKeyHash knd bV
end
section
variable{prog:Program}{w:World}{A:Around}{E:Value→Shared→Prop}{s:Shared}{K:Type}[DecidableEq K]{knd:KeyKind prog w K}
theorem Df.at{h:Heap}{t:SetTable}{ag:Array (Int×Value)}(X:Df knd h ag.toList){j:Nat}{e:Int×Value}(q:n_ t ag j e):∃bV b,e.2=.ref b∧IsTupleKey knd h bV b∧e.1=tupleKeyHash knd bV:=by obtain⟨i,_,q⟩:=q;exact X.el e (List.mem_of_getElem? q)
theorem n_.place{t:SetTable}{ag:Array (Int×Value)}{j:Nat}{e:Int×Value}(q:n_ t ag j e):j∈t.place.toList:=by obtain⟨i,q,_⟩:=q;exact List.mem_of_getElem? q
end
section
variable{prog:Program}{w:World}{A:Around}{E:Value→Shared→Prop}{s:Shared}{K:Type}[DecidableEq K]{knd:KeyKind prog w K}
end
end hV
namespace hV
open PySem PySem.Spec PyProof.Rows
section
variable{prog:Program}{w:World}{K:Type}[DecidableEq K]{knd:PySem.KeyKind prog w K}
section
variable{A:Around}{R:Result→Shared→Prop}{I:Addr}{aE wr:List Addr}{G:Array GenState→Array GenState→Prop}{n:Nat}{P:Nat→Value→Prop}{St:Nat→Shared→Prop}
end
end
section
variable{prog:Program}{w:World}{A:Around}{E:Value→Shared→Prop}{s:Shared}{K:Type}[DecidableEq K]{knd:PySem.KeyKind prog w K}
end
end hV
namespace LT
open PySem PyProof.Rows
structure j0(ff:SortKind)(fC:Array Keyed)(st:SortSt):Prop where
 k:kindOf st=ff
 p:(arrOf st).Perm fC
 n:pendingOf st= #[]
 f:failedOf st=none
theorem j0.pJ{ff:SortKind}{fC:Array Keyed}{st:SortSt}(b:j0 ff fC st):(arrOf st).size=fC.size:=b.p.size_eq
theorem j0.to{ff:SortKind}{fC:Array Keyed}{st:SortSt}(b:j0 ff fC st){xs:Array Keyed}(q:xs.Perm (arrOf st)):j0 ff fC (setArr st xs):=⟨b.k,q.trans b.p,b.n,b.f⟩
structure De(prog:Program)(w:World)(A:Around)(s:Shared)(ff:SortKind)(κ:KeyKind)(fC:Array Keyed):Prop where
 lt:∀(E:Value→Shared→Prop)(x y:Keyed){Q:Bool→Shared→Prop},x∈fC.toList→y∈fC.toList→Q (κ.blt ((κ.keyOf x.1).getD κ.dflt) ((κ.keyOf y.1).getD κ.dflt)) s→wpAny (model prog w) A (keyLt' ff x.1 y.1) Q E s
section
variable{prog:Program}{w:World}{A:Around}{E:Value→Shared→Prop}{s:Shared}{fC:Array Keyed}{κ:KeyKind}{ff:SortKind}
theorem j0.at{st:SortSt}(b:j0 ff fC st){i:Nat}(hi:i<fC.size):∃x,(arrOf st)[i]?=some x∧x∈fC.toList∧KK κ (arrOf st) i=(κ.keyOf x.1).getD κ.dflt:=by
 have g:i<(arrOf st).size:=by rw[b.pJ];exact hi
 have e:=getElem?_pos (arrOf st) i g;refine⟨_,e,(Array.perm_iff_toList_perm.mp b.p).mem_iff.mp (by simp),?_⟩;unfold KK;rw[e]
theorem Rn(C:De prog w A s ff κ fC){st:SortSt}(b:j0 ff fC st){i j:Nat}{Q:Option Bool→SortSt→Prop}(hi:i<fC.size)(cF:j<fC.size)(h:Q (some (κ.blt (KK κ (arrOf st) i) (KK κ (arrOf st) j))) st):wpS (model prog w) A E s (ltAt' i j) Q st:=by obtain⟨x,ip,eP,mI⟩:=b.at (κ:=κ) hi;obtain⟨y,gh,jv,pU⟩:=b.at (κ:=κ) cF;rw[mI,pU]at h;rw[ltAt'_eq];refine wpS_bind (wpS_get ?_);show wpS _ _ _ _ (elem' (arrOf st) i>>=fun x=>elem' (arrOf st) j>>=fun y=>lt' x y) Q st;rw[elem'_eq,ip,elem'_eq,gh];refine wpS_bind (wpS_pure (wpS_bind (wpS_pure ?_)));rw[lt'_eq];refine wpS_bind (wpS_get (wpS_bind (wpS_lift (wpAny_attempt ?_))));rw[b.k];exact C.lt _ x y eP jv ⟨rfl,wpS_pure h⟩
theorem Xd{xs:Array Keyed}:SortedToK κ xs 1:=fun i j a c=>by
 have:i=j:=by omega
 subst this;exact KeyOrd.kle_refl _
theorem uP(C:De prog w A s ff κ fC){st:SortSt}{n ok:Nat}{Q:Bool→SortSt→Prop}(aJ:n≤fC.size)(hk:ok≤n)(b:j0 ff fC st)(hs:SortedToK κ (arrOf st) ok)(h:∀t,j0 ff fC t→SortedToK κ (arrOf t) n→Q true t):wpS (model prog w) A E s (binarySort' 0 n ok) Q st:=by
 rw[binarySort'_eq];simp only[Nat.zero_add];refine wpS_bind (wpS_mono (wpS_forRange (I:=fun k c t=>c=(none,())∧j0 ff fC t∧SortedToK κ (arrOf t) (min k n)) (Q:=fun c t=>c=(none,())∧j0 ff fC t∧SortedToK κ (arrOf t) n) ?_ ?_ ?_) ?_)
 ·rintro k c t dQ b7 ⟨rfl,b,g⟩;have dP:min k n=k:=by omega
  rw[dP]at g;have bx:k<(arrOf t).size:=by rw[b.pJ];omega
  refine wpS_bind (wpS_mono (wpS_forRange (I:=fun x c u=>u=t∧∃l r,c=(none,l,r)∧l≤r∧r≤k∧r-l≤k-x∧(∀i,i<l→κ.kle (KK κ (arrOf t) i) (KK κ (arrOf t) k))∧∀i,r≤i→i<k→κ.klt (KK κ (arrOf t) k) (KK κ (arrOf t) i))
   (Q:=fun c u=>u=t∧∃l r,c=(none,l,r)∧l≤k∧(∀i,i<l→κ.kle (KK κ (arrOf t) i) (KK κ (arrOf t) k))∧∀i,l≤i→i<k→κ.klt (KK κ (arrOf t) k) (KK κ (arrOf t) i)) ?_ ?_ ⟨rfl,0,k,rfl,by omega,by omega,by omega,fun i z=>by omega,fun i z gj=>by omega⟩) ?_)
  ·rintro x c u _ eP ⟨rfl,l,r,rfl,eG,cL,Q8,lo,hi⟩;dsimp only;by_cases z:l≥r
   ·rw[if_pos z];have e:l=r:=by omega
    subst e;exact wpS_pure ⟨rfl,l,l,rfl,cL,lo,hi⟩
   rw[if_neg z];refine wpS_bind (Rn C b (by omega) (by omega) ?_);cases e:κ.blt (KK κ (arrOf u) k) (KK κ (arrOf u) ((l+r)/2))with
   |true=>exact wpS_pure ⟨rfl,l,(l+r)/2,rfl,by omega,by omega,by omega,lo,fun i a c=>KeyOrd.klt_of_klt_of_kle e (g _ _ a c)⟩
   |false=>exact wpS_pure ⟨rfl,(l+r)/2+1,r,rfl,by omega,by omega,by omega,fun i a=>KeyOrd.kle_trans (g i ((l+r)/2) (by omega) (by omega)) (show κ.kle _ _ from e),hi⟩
  ·rintro c u ⟨rfl,l,r,rfl,eG,cL,Q8,lo,hi⟩;have e:l=r:=by omega
   subst e;exact⟨rfl,l,l,rfl,cL,lo,hi⟩
  ·rintro c u ⟨rfl,l,r,rfl,eG,lo,hi⟩;show wpS _ _ _ _ (moveDown' k l>>=fun _=>pure (ForInStep.yield (none,()))) _ _;rw[moveDown'_eq];refine wpS_bind (wpS_modify (wpS_pure ⟨rfl,b.to (bubble_perm _ _ _),?_⟩));rw[show min (k+1) n=k+1 by omega];intro i j Zo z6;show κ.kle (KK κ (bubble (arrOf u) k (k-l)) i) (KK κ (bubble (arrOf u) k (k-l)) j);rw[KK_bubble bx (by omega),KK_bubble bx (by omega),show k-(k-l)=l by omega]
   repeat' split
   all_goals first|omega|exact KeyOrd.kle_refl _|exact lo _ (by omega)|exact KeyOrd.kle_of_klt (hi _ (by omega) (by omega))|exact g _ _ (by omega) (by omega)
 ·rintro c t ⟨rfl,b,g⟩;rw[show min (max (max ok 1) n) n=n by omega]at g;exact⟨rfl,b,g⟩
 ·refine⟨rfl,b,?_⟩;by_cases z:ok=0
  ·subst z;intro i j a c;exact Xd i j a (by omega)
  ·rw[show min (max ok 1) n=ok by omega];exact hs
 ·rintro c t ⟨rfl,b,g⟩;exact wpS_pure (h t b g)
end
noncomputable def ltI:List Int→List Int→Bool
 |[],[]=>false
 |[],_::_=>true
 |_::_,[]=>false
 |a::x,b::y=>if a=b then ltI x y else decide (a<b)
section
variable{prog:Program}{w:World}{A:Around}{E:Value→Shared→Prop}{s:Shared}
structure xJ(prog:Program)(w:World)(h:Heap)(v:Value)(k:Int×Int×Int):Prop where
 ex:∃a o m b t,v=.ref a∧h.get? a=some o∧o.cls=.type "tuple"∧o.data=.seq #[.int k.1 t,.ref b] m∧IsTupleKey (intKind prog w) h [k.2.1,k.2.2] b
def FH(k:Int×Int×Int):List Int:=[k.1,k.2.1,k.2.2]
theorem xJ.inj{h:Heap}{v:Value}{k k':Int×Int×Int}(x:xJ prog w h v k)(y:xJ prog w h v k'):k=k':=by obtain⟨a,o,m,b,t,rfl,ho,hc,hd,hb⟩:=x.ex;obtain⟨m3,cg,ee,ov,t',e,ho',sC,jK,nh⟩:=y.ex;cases e;rw[ho]at ho';cases ho';rw[hd]at jK;simp at jK;obtain⟨⟨⟨aj,_⟩,rfl⟩,_⟩:=jK;have ax:=hb.inj nh;simp at ax;obtain⟨dQ,b7,hD⟩:=k;obtain⟨Qd,Qe,vF⟩:=k';simp at aj ax ⊢;exact⟨aj,ax⟩
end
section
variable{prog:Program}{w:World}{A:Around}{E:Value→Shared→Prop}{s:Shared}
end
def Rf(a b:Int×Int×Int):Bool:=!ltI (FH b) (FH a)
def V5(bV:List (Int×Int×Int)):List (Int×Int×Int):=bV.mergeSort Rf
section
variable{prog:Program}{w:World}{A:Around}{E:Value→Shared→Prop}{s:Shared}
end
end LT
namespace aS
open PySem PySem.Spec PyProof.Rows
section
variable{X:aK}
noncomputable def xK(H:ah)(y:V)(k:Int×Int×Int):Prop:=∃a b,y=.ref a∧H a=some (.tup [.int k.1,.ref b])∧H b=some (.tup [.int k.2.1,.int k.2.2])
theorem xK.inj{H:ah}{y:V}{k k':Int×Int×Int}(x:xK H y k)(z:xK H y k'):k=k':=by obtain⟨a,b,rfl,ha,hb⟩:=x;obtain⟨m3,ov,e,kd,nh⟩:=z;cases e;rw[ha]at kd;simp only[Option.some.injEq,dC.tup.injEq,List.cons.injEq,V.int.injEq,V.ref.injEq,and_true]at kd;obtain⟨aj,rfl⟩:=kd;rw[hb]at nh;simp only[Option.some.injEq,dC.tup.injEq,List.cons.injEq,V.int.injEq,and_true]at nh;obtain⟨dQ,b7,hD⟩:=k;obtain⟨Qd,Qe,vF⟩:=k';simp only[Prod.mk.injEq];exact⟨aj,nh⟩
end
end aS
namespace ay
open PySem PySem.Spec aS PyProof.Rows
section
variable{X:aK}{F:aZ}{e a b c:Expr}{ag:List Expr}{pos p:Pos}{m n:aC}{ma:aP}
noncomputable def Hj(i:Nat)(m:aC):eQ:=fun ρ=>(ownAt i ρ).bind fun ds=>(m ρ).bind fun d=>match d with
 |.lst ag=>if ds.length+ag.length≤1000000 then .ok (.non,ρ.set i (.c_ (ds++ag)))else .bad
 |_=>.bad
noncomputable def Hk(i:Nat)(m n:aC):eQ:=fun ρ=>(ownAt i ρ).bind fun ds=>(m ρ).bind fun d=>(n ρ).bind fun y=>match d with
 |.int k=>if 0≤k∧k<2^63∧ds.length<1000000 then .ok (.non,ρ.set i (.c_ (ds.take (min k.toNat ds.length)++y::ds.drop (min k.toNat ds.length))))else .bad
 |_=>.bad
noncomputable def Hi(ma:aP)(m:aC):aP:=fun ρ=>(ma ρ).bind fun ds=>(m ρ).bind fun d=>match d with
 |.lst ag=>if ds.length+ag.length≤1000000 then .ok (ds++ag)else .bad
 |_=>.bad
noncomputable def Hh(m n:aC):aP:=fun ρ=>(m ρ).bind fun c=>(n ρ).bind fun d=>match c,d with
 |.lst ds,.lst ag=>if ds.length+ag.length≤1000000 then .ok (ds++ag)else .bad
 |_,_=>.bad
def LM(k:Int×Int×Int):D:=.tup [.int k.1,.tup [.int k.2.1,.int k.2.2]]
def Qr:D→Option (Int×Int×Int)
 |.tup [.int n,.tup [.int h,.int d]]=>some (n,h,d)
 |_=>none
noncomputable def GN:List D→Option (List (Int×Int×Int))
 |[]=>some []
 |d::ds=>match Qr d,GN ds with
  |some k,some bV=>some (k::bV)
  |_,_=>none
noncomputable def I3:List D→R (List D)
 |[.lst ds]=>if ds.length<64 then match GN ds with
  |some bV=>.ok ((LT.V5 bV).map LM)
  |none=>.bad
  else .bad
 |_=>.bad
def Rw(m:aP):aP:=fun ρ=>(m ρ).bind I3
def Rr(k:Str)(i:Int):aC:=fun _=>.ok (.cW [.inr k] [.int i])
end
section
variable{X:aK}{F:aZ}{e a b c:Expr}{ag:List Expr}{pos p:Pos}{m n:aC}{ma:aP}
theorem aI.IW{K:PySem.W.Frag}{G:ah}:∀{ds:List D}{xs:List V}{j:Nat}{d:D}{v:V},aI K G ds xs→At K G d v→aI K G (ds.set j d) (xs.set j v)
 |[],_,_,_,_,h,_=>by simp only[aI]at h;subst h;simp[aI]
 |_::_,_,0,_,_,h,a=>by simp only[aI]at h;obtain⟨v,r,rfl,q,t⟩:=h;exact .cons a t
 |_::_,_,j+1,_,_,h,a=>by simp only[aI]at h;obtain⟨v,r,rfl,q,t⟩:=h;exact .cons q (aI.IW t a)
noncomputable def putN(i:Nat)(ρ:ak)(ds:List D)(v:D):Option Nat→R fl
 |some j=>.ok (.bj (ρ.set i (.c_ (ds.set j v))))
 |none=>.bad
def putK(i:Nat)(ρ:ak)(ds:List D)(v:D):D→R fl
 |.int j=>putN i ρ ds v (eF ds.length j)
 |_=>.bad
noncomputable def Rv(i:Nat)(mk mv:aC):a8:=fun ρ=>(mv ρ).bind fun v=>(ownAt i ρ).bind fun ds=>(mk ρ).bind fun k=>putK i ρ ds v k
noncomputable def xZ(i:Nat)(ρ:ak)(aA:List T)(m:aC):Option Nat→R fl
 |some j=>match aA[j]? with
  |some (.lst us)=>(m ρ).bind fun d=>if us.length<1000000 then .ok (.bj (ρ.set i (.bG (.lst (aA.set j (.lst (us++[.aq d])))))))else .bad
  |_=>.bad
 |none=>.bad
def r9(i:Nat)(ρ:ak)(aA:List T)(m:aC):D→R fl
 |.int j=>xZ i ρ aA m (eF aA.length j)
 |_=>.bad
def qO(i:Nat)(mk m:aC):a8:=fun ρ=>(il i ρ).bind fun aA=>(mk ρ).bind fun k=>r9 i ρ aA m k
end
section
variable{P:Program}{w:World}{K:PySem.W.Frag}{mg:Str→Option Value}{base:Heap}{N:List Str}{qual:Str}{scope:Scope}{f:Addr}{cd:Value}{A:Around}{outer:List Env}{s0:Shared}{p2:ah}{E:dc}{cu bL:ah}
end
section
variable{X:aK}{F:aZ}{e:Expr}{ag:List Expr}{pos p:Pos}{ma:aP}
end
def ie:T→Bool
 |.aq _=>true
 |_=>false
theorem zj{H:ah}:∀{us:List T}{ys:List V},us.all ie=true→cj H us ys=[]
 |[],_,_=>lu
 |_::_,[],_=>by simp only[cj]
 |.aq d::us,y::ys,h=>by rw[fP,zj (us:=us) (by simpa[ie]using h)];simp only[aE,List.append_nil]
 |.lst _::_,_::_,h=>by simp[ie]at h
 |.cW _ _::_,_::_,h=>by simp[ie]at h
 |.a_ _ _::_,_::_,h=>by simp[ie]at h
 |.ins _ _ _::_,_::_,h=>by simp[ie]at h
section
variable{X:aK}{F:aZ}{e:Expr}{pos p:Pos}{m n:aC}{ma:aP}
end
end ay
namespace aS
open PySem PySem.Spec PyProof.Rows
section
variable{X:aK}{i j:Nat}{x n y:Str}{W:Addr}{e:Expr}{dO:TE}{E:dc}{Lh:Stmt}{Wg:List Stmt}{aA:eB}{tG np hp pos py:Pos}
end
end aS
namespace ay
open PySem PySem.Spec aS PyProof.Rows
section
variable{X:aK}{F:aZ}{pos:Pos}
end
theorem FL{K:PySem.W.Frag}{G H:ah}:∀{us:List T}{ys:List V},us.all ie=true→bK K G H us ys→∃ds,us=ds.map T.aq∧aI K G ds ys
 |[],[],_,_=>⟨[],rfl,.nil⟩
 |[],_::_,_,h=>by simp[bK]at h
 |_::_,[],_,h=>by simp[bK]at h
 |.aq d::us,y::ys,h,k=>by simp only[bK,cf]at k;obtain⟨v,r,z,dQ,b7⟩:=k;cases z;obtain⟨ds,e,q⟩:=FL (us:=us) (ys:=ys) (by simpa[ie]using h) b7;exact⟨d::ds,by rw[e];rfl,.cons dQ q⟩
 |.lst _::_,_::_,h,_=>by simp[ie]at h
 |.cW _ _::_,_::_,h,_=>by simp[ie]at h
 |.a_ _ _::_,_::_,h,_=>by simp[ie]at h
 |.ins _ _ _::_,_::_,h,_=>by simp[ie]at h
theorem JB{K:PySem.W.Frag}{G H:ah}:∀{ds:List D}{ys:List V},aI K G ds ys→bK K G H (ds.map T.aq) ys
 |[],ys,h=>by
  have:=h.length;cases ys with
  |nil=>simp[bK]
  |cons _ _=>simp at this
 |d::ds,ys,h=>by
  cases ys with
  |nil=>have:=h.length;simp at this
  |cons y ys=>rw[List.map_cons];simp only[aI]at h;obtain⟨v,r,z,h1,h2⟩:=h;cases z;exact .cons (by simp only[cf];exact h1) (JB h2)
theorem K1(ds:List D):(ds.map T.aq).all ie=true:=by rw[List.all_eq_true];intro t ht;obtain⟨d,_,rfl⟩:=List.mem_map.mp ht;rfl
section
variable{X:aK}{F:aZ}{a b:Expr}{pos p:Pos}{m n:aC}{ma:aP}
end
end ay
namespace aS
open PySem PySem.Spec PyProof.Rows
section
variable{prog:Program}{w:World}{A:Around}{E:Value→Shared→Prop}{s:Shared}
end
section
variable{X:aK}{pos:Pos}
end
end aS
namespace ay
open PySem PySem.Spec aS PyProof.Rows
section
variable{X:aK}{F:aZ}{e:Expr}{ag:List Expr}{pos p:Pos}{m n:aC}{ma:aP}
end
end ay
namespace aS
open PySem PySem.Spec PyProof.Rows
section
variable{X:aK}{elts:List Expr}{cJ:Nat}{rJ:Pos}
end
end aS
namespace ay
open PySem PySem.Spec aS PyProof.Rows
section
variable{X:aK}{F:aZ}{a b:Expr}{pos p:Pos}{ma:aP}
end
end ay
namespace ay
open PySem PySem.Spec aS
mutual
noncomputable def js:D→Bool
 |.lst _=>false
 |.bY _=>false
 |.tup ds=>hG ds
 |.ins _ _ ds=>hG ds
 |.cW _ ds=>hG ds
 |.a_ _ ds=>hG ds
 |.de ds=>hG ds
 |_=>true
noncomputable def hG:List D→Bool
 |[]=>true
 |d::ds=>js d&&hG ds
end
def sT:dC→Bool
 |.lst _=>true
 |_=>false
section
variable{K:PySem.W.Frag}{G G':ah}
theorem e3.Ar(h:∀b o,G b=some o→sT o=false→G' b=some o){a:Addr}{u:dC}(hu:sT u=false)(r:e3 G a u):e3 G' a u:=by
 rcases r with r|⟨o,r⟩
 ·exact .inl (h _ _ r hu)
 ·exact .inr ⟨o,h _ _ r rfl⟩
mutual
theorem At.Ar(h:∀b o,G b=some o→sT o=false→G' b=some o):∀{d:D}{v:V},js d=true→At K G d v→At K G' d v
 |.non,_,_,q=>by simpa only[At]using q
 |.aD _,_,_,q=>by simpa only[At]using q
 |.int _,_,_,q=>by simpa only[At]using q
 |.str _,_,_,q=>by simpa only[At]using q
 |.tup _,_,n,q=>by simp only[At,js]at q n ⊢;obtain⟨a,xs,e,g,r⟩:=q;exact⟨a,xs,e,h _ _ g rfl,aI.pq h n r⟩
 |.lst _,_,n,_=>by simp only[js]at n;cases n
 |.bY _,_,n,_=>by simp only[js]at n;cases n
 |.de _,_,n,q=>by
  simp only[At,js]at q n ⊢;obtain⟨a,xs,e,g,r⟩:=q;refine⟨a,xs,e,?_,aI.pq h n r⟩;rcases g with g|g
  ·exact .inl (e3.Ar h rfl g)
  ·exact .inr g
 |.cW _ _,_,n,q=>by simp only[At,js]at q n ⊢;obtain⟨a,xs,e,g,k,r⟩:=q;exact⟨a,xs,e,h _ _ g rfl,k,aI.pq h n r⟩
 |.a_ _ _,_,n,q=>by simp only[At,js]at q n ⊢;obtain⟨a,xs,e,g,k,r⟩:=q;exact⟨a,xs,e,h _ _ g rfl,k,aI.pq h n r⟩
 |.ins _ _ _,_,n,q=>by simp only[At,js]at q n ⊢;obtain⟨a,a0,xs,e,⟨C,ck,g⟩,k,r⟩:=q;exact⟨a,a0,xs,e,⟨C,ck,h _ _ g rfl⟩,k,aI.pq h n r⟩
 |.l9 _,_,n,q=>by simp only[At]at q ⊢;obtain⟨a,xs,e,⟨C,ck,g⟩,r⟩:=q;exact⟨a,xs,e,⟨C,ck,h _ _ g rfl⟩,r⟩
theorem aI.pq(h:∀b o,G b=some o→sT o=false→G' b=some o):∀{ds:List D}{vs:List V},hG ds=true→aI K G ds vs→aI K G' ds vs
 |[],_,_,q=>by simpa only[aI]using q
 |_::_,_,n,q=>by simp only[aI,hG,Bool.and_eq_true]at q n ⊢;obtain⟨v,r,e,a,t⟩:=q;exact⟨v,r,e,At.Ar h n.1 a,aI.pq h n.2 t⟩
end
end
mutual
noncomputable def lg:T→Bool
 |.aq _=>true
 |.lst aA=>lh aA
 |_=>false
noncomputable def lh:List T→Bool
 |[]=>true
 |t::aA=>lg t&&lh aA
end
mutual
theorem Dy{K:PySem.W.Frag}{G H:ah}:∀{t:T}{v:V},lg t=true→cf K G H t v→∀b∈aE H t v,∃xs,H b=some (.lst xs)
 |.aq _,_,_,_,b,hb=>by simp only[aE]at hb;cases hb
 |.lst _,_,n,h,b,hb=>by
  simp only[cf,lg]at h n;obtain⟨a,xs,rfl,q,r⟩:=h;rw[gG q]at hb;rcases List.mem_cons.mp hb with rfl|hb
  ·exact⟨xs,q⟩
  ·exact Dx n r b hb
 |.cW _ _,_,n,_,_,_=>by simp only[lg]at n;cases n
 |.a_ _ _,_,n,_,_,_=>by simp only[lg]at n;cases n
 |.ins _ _ _,_,n,_,_,_=>by simp only[lg]at n;cases n
theorem Dx{K:PySem.W.Frag}{G H:ah}:∀{aA:List T}{vs:List V},lh aA=true→bK K G H aA vs→∀b∈cj H aA vs,∃xs,H b=some (.lst xs)
 |[],_,_,_,b,hb=>by rw[lu]at hb;cases hb
 |_::_,_,n,h,b,hb=>by
  simp only[bK,lh,Bool.and_eq_true]at h n;obtain⟨v,r,rfl,q,t⟩:=h;rw[fP]at hb;rcases List.mem_append.mp hb with hb|hb
  ·exact Dy n.1 q b hb
  ·exact Dx n.2 t b hb
end
def pF:cp→Bool
 |.aR (.lst _)=>true
 |.aR _=>false
 |.bG t=>lg t
 |_=>true
def tx(ρ:ak):Bool:=ρ.all pF
section
variable{F:aZ}
end
section
variable{X:aK}{F:aZ}{e:Expr}
end
section
variable{K:PySem.W.Frag}{cu bL:ah}{E:dc}
end
section
variable{X:aK}{e:Expr}{K:PySem.W.Frag}{cu bL:ah}{E:dc}{m:aC}
end
abbrev ob:=ak→R (List T)
noncomputable def Qi(F:aZ)(G H:ah)(σ :St)(ρ:ak)(Q:List V→ah→Prop):R (List T)→Prop
 |.ok aA=>∀vs H' G',Rel F G' H' σ ρ→bT G H G' H'→bK F.K G' H' aA vs→(cj H' aA vs).Nodup→(∀b∈cj H' aA vs,G' b=none∧H b=none)→Q vs H'
 |.exc c=>iD F c
 |.bad=>False
def Cb(F:aZ)(m:ob):es:=fun σ H Q=>∃G ρ,Rel F G H σ ρ∧Qi F G H σ ρ Q (m ρ)
def vR:ob:=fun _=>.ok []
def s6(m:ob):kz:=fun ρ=>(m ρ).bind fun aA=>if aA.length≤1000000 then .ok (.lst aA)else .bad
section
variable{F:aZ}
theorem Pk:p4 (Cb F vR) Ck:=by rintro σ H Q ⟨G,ρ,r,h⟩;exact h [] H G r (bT.refl _ _) .nil (by rw[lu];simp) fun b hb=>by rw[lu]at hb;cases hb
theorem Pf{m:ob}:ej (w6 F (s6 m)) (Ci (Cb F m)):=by
 rintro σ H Q ⟨G,ρ,r,h⟩;unfold s6 at h;refine⟨G,ρ,r,?_⟩;cases ar:m ρ with
 |bad=>rw[ar]at h;exact h.elim
 |exc c=>rw[ar]at h;exact h
 |ok aA=>
  rw[ar,R.bl]at h;intro vs H1 aN av s1 fK aQ fr;by_cases hl:aA.length≤1000000
  ·rw[if_pos hl]at h;refine⟨by rw[←fK.length];exact Nat.le_trans hl (by decide),fun p hp=>?_⟩;have ne:=fK.some;have np:∀b∈cj H1 aA vs,b≠p:=fun b hb z=>ne b hb (by rw[z];exact hp);obtain⟨dQ,b7⟩:=fK.keep (H':=upd H1 p (.lst vs)) fun b hb=>dr (np b hb);have f:aE (upd H1 p (.lst vs)) (.lst aA) (.ref p)=p::cj H1 aA vs:=by rw[gG dA,b7]
   refine h (.ref p) _ aN (av.lay0 hp) (s1.trans (bT.lay0 hp)) ⟨by simp only[cf];exact⟨p,vs,rfl,dA,dQ⟩,?_,fun b hb=>?_⟩ fun b hb=>?_
   ·rw[f];exact List.nodup_cons.mpr ⟨fun z=>np p z rfl,aQ⟩
   ·rw[f]at hb;rcases List.mem_cons.mp hb with rfl|hb
    ·exact⟨av.aL.sub.gone hp,av.aL.hh.gone hp⟩
    ·exact⟨(fr b hb).1,r.aL.hh.gone (fr b hb).2⟩
   ·rw[f]at hb;rcases List.mem_cons.mp hb with rfl|hb
    ·exact s1.h.gone hp
    ·exact(fr b hb).2
  ·rw[if_neg hl]at h;exact h.elim
end
structure Dr(X:aK)(F:aZ)(ag:List Expr)(m:ob):Prop where
 o:eR X ag (Cb F m)
section
variable{X:aK}{F:aZ}{e o:Expr}{ag:List Expr}{pos:Pos}{ma:aP}{m n:aC}
theorem XO:Dr X F [] vR:=⟨eR.imp i3 Pk⟩
theorem Ya{m:ob}(h:Dr X F ag m):xS X F (.List ag pos) (s6 m):=⟨a3.imp (px h.1) Pf⟩
end
section
variable{F:aZ}{G H:ah}{σ :aS.St}{ρ:ak}
theorem Rel.moveTo(r:Rel F G H σ ρ){s b:Nat}{t:T}{v:V}(hs:ρ[s]?=some (.bG t))(hv: σ[s]?=some (some v))(hb:b<ρ.length)(ne:s≠b) :
  Rel F G H (σ.set b (some v)) ((ρ.set s .un).set b (.bG t)):=by
 obtain⟨o,aj,lR,ax,ok⟩:=r.bZ s _ hs;rw[hv]at aj;cases aj;cases ax;have nh:b< σ.length:=by rw[r.len];exact hb
 have hl:s<ρ.length:=(List.getElem?_eq_some_iff.mp hs).1;have src:∀(i:Nat)(q:cp)(o:Option V)(a:Addr),((ρ.set s .un).set b (.bG t))[i]?=some q→(σ.set b (some v))[i]?=some o→ep H q o a→∃fS,ρ[fS]?=some q∧ σ[fS]?=some o∧((i=b∧fS=s)∨(i≠b∧i≠s∧fS=i)):=fun i q o a aj ax f=>by
  by_cases ni:i=b
  ·subst ni;rw[List.getElem?_set_self (by simpa using hb)]at aj;cases aj;rw[List.getElem?_set_self nh]at ax;cases ax;exact⟨s,hs,hv,.inl ⟨rfl,rfl⟩⟩
  ·rw[List.getElem?_set_ne (Ne.symm ni)]at aj ax;by_cases qv:i=s
   ·subst qv;rw[List.getElem?_set_self hl]at aj;cases aj;exact f.elim
   ·rw[List.getElem?_set_ne (Ne.symm qv)]at aj;exact⟨i,aj,ax,.inr ⟨ni,qv,rfl⟩⟩
 refine⟨r.aL,by simp[r.len],fun i q e=>?_,fun i j a s1 s2 cy b_ a1 a2 e6 gA f1 f2=>?_⟩
 ·by_cases ni:i=b
  ·subst ni;rw[List.getElem?_set_self (by simpa using hb)]at e;cases e;exact⟨some v,by rw[List.getElem?_set_self nh],v,rfl,ok⟩
  ·rw[List.getElem?_set_ne (Ne.symm ni)]at e;by_cases qv:i=s
   ·subst qv;rw[List.getElem?_set_self hl]at e;cases e;exact⟨_,by rw[List.getElem?_set_ne (Ne.symm ni)];exact hv,trivial⟩
   ·rw[List.getElem?_set_ne (Ne.symm qv)]at e;obtain⟨o,aj,aY⟩:=r.bZ i q e;exact⟨o,by rw[List.getElem?_set_ne (Ne.symm ni)];exact aj,aY⟩
 ·obtain⟨fS,eD,d0,m4⟩:=src i s1 cy a a1 e6 f1;obtain⟨Qa,ck,eE,gT⟩:=src j s2 b_ a a2 gA f2;have z:=r.gE fS Qa a s1 s2 cy b_ eD ck d0 eE f1 f2;rcases m4 with⟨dG,bW⟩|⟨dG,bW,lI⟩<;>rcases gT with⟨aY,bA⟩|⟨aY,bA,en⟩
  ·rw[dG,aY]
  ·exact absurd (by rw[←en,←z,bW]) bA
  ·exact absurd (by rw[←lI,z,bA]) bW
  ·rw[←lI,←en,z]
theorem Rel.RK(r:Rel F G H σ ρ){s b:Nat}{t:T}{v:V}(hb:ρ[b]?=some (.bG t))(hv: σ[b]?=some (some v))(hs: σ[s]?=some (some v))(ne:s≠b) :
  Rel F G H σ ((ρ.set b .un).set s (.bG t)):=by
 have hl:s<ρ.length:=by rw[←r.len];exact(List.getElem?_eq_some_iff.mp hs).1
 have z:=r.moveTo hb hv hl (Ne.symm ne)
 rwa [wU hs]at z
end
noncomputable def vG(F:aZ)(G:ah)(σ :aS.St)(bO:Ends):R ak→Prop
 |.ok bh=>∀G' H',Rel F G' H' σ bh→Sub G G'→bO.bj σ H'
 |.exc c=>iD F c
 |.bad=>False
def w5(F:aZ)(m:er):eB:=fun bO σ H=>∃G ρ,Rel F G H σ ρ∧vG F G σ bO (m ρ)
theorem vG.mono{F:aZ}{G aN:ah}{σ :aS.St}{bO:Ends}(s:Sub G aN):∀{r:R ak},vG F G σ bO r→vG F aN σ bO r
 |.ok _,h=>fun G' H' r a7=>h G' H' r (s.trans a7)
 |.exc _,h=>h
 |.bad,h=>h
structure uB(X:aK)(F:aZ)(st:Stmt)(m:er):Prop where
 o:cU X st (w5 F m)
structure uA(X:aK)(F:aZ)(st:List Stmt)(m:er):Prop where
 o:fa X st (w5 F m)
theorem CY{X:aK}{F:aZ}{st:Stmt}{m:er}(h:uB X F st m):uA X F [st] m:=⟨tI h.1⟩
section
variable{X:aK}{F:aZ}{e c:Expr}{pos:Pos}{m:aC}
def qW(k:b4)(a b:er):er:=fun ρ=>(k ρ).bind fun c=>if c=true then a ρ else b ρ
theorem X9{st Jc:List Stmt}{k:b4}{a b:er}(h:e5 X F c k)(ha:uA X F st a)(hb:uA X F Jc b):uB X F (.If c st Jc pos) (qW k a b):=by
 refine⟨cU.imp (AL h.1 ha.1 hb.1) ?_⟩;rintro bO σ H ⟨G,ρ,r,h⟩;unfold qW at h;refine⟨G,ρ,r,?_⟩;cases ar:k ρ with
 |bad=>rw[ar]at h;exact h.elim
 |exc c=>rw[ar]at h;exact h
 |ok b=>
  rw[ar,R.bl]at h;intro H1 aN av s1;cases b with
  |true=>exact⟨aN,ρ,av,h.mono s1.g⟩
  |false=>exact⟨aN,ρ,av,h.mono s1.g⟩
def HD:fl→R ak
 |.bj ρ=>.ok ρ
 |_=>.bad
def q1(m:a8):er:=fun ρ=>(m ρ).bind HD
theorem X8 (i:Nat) {x:Str} {aH rB pos':Pos} {apos bC:Pos} {k:Expr} {mk:aC} (hk:aX X F k mk) (sM:oh k) (he:aX X F e m) (hN:X.N[i]?=some x:=by rfl) (hv:eC X.env.scope x:=by first|exact Or.inl rfl|exact Or.inr (Or.inl rfl)|exact Or.inr (Or.inr rfl)) (hd:(x==("__debug__" :Str))=false:=by decide) (hcd:(x==("__classdict__" :Str))=false:=by decide)(hbase:attributeBase (.Subscript (.Name x aH) k pos') "append" X.env (eval (.Subscript (.Name x aH) k pos') X.env)=eval (.Subscript (.Name x aH) k pos') X.env:=by rfl) (hline:(apos.endLine==bC.line)=true:=by rfl)(hfew:((backTo bC (starEach [e] X.env)).all (fun x=>!x.1)&&(backToKw bC (keywordEach [] X.env)).all (fun x=>x.1.isSome)
    &&decide (([e]:List Expr).length+([]:List Keyword).length+(if([]:List Keyword).isEmpty then 0 else 1)<30))=true:=by rfl)
  (hs:starEach [e] X.env=(false,eval e X.env)::starEach [] X.env:=by rfl) (hplain:(backTo bC (starEach [] X.env)).any (·.1)=false:=by rfl) :
  uB X F (.Expr (.Call (.Attribute (.Subscript (.Name x aH) k pos') "append" apos) [e] [] bC) rB) (q1 (qO i mk m)):=by
 refine⟨cU.imp (ro (pw PySem.F.plainAttrs_list PySem.F.slot_list_append PySem.F.type_list_append tn (wB vE (hI hN hv hd hcd) hk.1 sM) (gb he.1 i3 hs) hbase hfew hline hs hplain) (jt _ _ _ _ rfl)) ?_⟩;rintro bO σ H ⟨G,ρ,r,h⟩;unfold q1 qO at h;cases cq:il i ρ with
 |bad=>rw[cq]at h;exact h.elim
 |exc c=>exact(w9 cq).elim
 |ok aA=>
  rw[cq,R.bl]at h;have bU:=w_ cq;obtain⟨a,xs,aj,ha,wl,aQ⟩:=r.root bU;refine⟨.ref a,aj,G,ρ,r,?_⟩;cases dP:mk ρ with
  |bad=>rw[dP]at h;exact h.elim
  |exc c=>rw[dP]at h;exact h
  |ok ff=>
   rw[dP,R.bl]at h;intro w H1 aN av s1 gB;cases ff with
   |int j=>
    simp only[r9]at h;simp only[At]at gB;cases d5:eF aA.length j with
    |none=>rw[d5]at h;exact h.elim
    |some n=>
     rw[d5]at h;simp only[xZ]at h;obtain⟨m3,iq,gF,kd,t5,An⟩:=av.root bU;rw[aj]at gF;cases gF;cases gq:aA[n]? with
     |none=>rw[gq]at h;exact h.elim
     |some t=>
      rw[gq]at h;cases t with
      |aq _=>exact h.elim
      |cW _ _=>exact h.elim
      |a_ _ _=>exact h.elim
      |ins _ _ _=>exact h.elim
      |lst us=>
       simp only at h;obtain⟨v,ev,t7⟩:=tY t5 gq;simp only[cf]at t7;obtain⟨q,ys,rfl,aO,XM⟩:=t7;have si:eM iq j=some (.ref q):=by unfold eM;rw[←t5.length,d5];exact ev
       refine .inl ⟨a,iq,j,.ref q,rfl,gB,bS.of kd,si,.inl ⟨rfl,ys,bS.of aO⟩,aN,ρ,av,?_⟩;cases em:m ρ with
       |bad=>rw[em]at h;exact h.elim
       |exc c=>rw[em]at h;exact h
       |ok d=>
        rw[em,R.bl]at h;intro u aM cE bg s2 x2;by_cases zT:us.length<1000000
        ·rw[if_pos zT]at h;obtain⟨gA,CZ,dk,sA,CP,RY⟩:=bg.root bU;rw[aj]at dk;cases dk;have zV:CZ=iq:=by
          have:=s2.h _ _ kd;rw[sA]at this;cases this;rfl
         subst zV;have oR:aM q=some (.lst ys):=s2.h _ _ aO;obtain⟨Xe,sm,t8⟩:=tY CP gq;rw[ev]at sm;cases sm;simp only[cf]at t8;obtain⟨rr,Yv,pV,sN,t9⟩:=t8;cases pV;rw[oR]at sN;cases sN;obtain⟨dG,bW⟩:=t9.append (us:=[T.aq d]) (ws:=[u]) (.cons (by simp only[cf];exact x2) .nil);have lI:cj aM [T.aq d] [u]=[]:=by rw[fP,lu];simp only[aE,List.append_nil]
         rw[lI,List.append_nil]at bW;have jV:=bg.Hq bU aj sA gq ev oR dG bW;exact⟨q,ys,u,rfl,rfl,oR,by rw[←t9.length];exact Nat.lt_trans zT (by decide),h cE _ jV (s1.trans s2).g⟩
        ·rw[if_neg zT]at h;exact h.elim
   |_=>exact h.elim
end
section
variable{X:aK}{F:aZ}{e c:Expr}{pos:Pos}{m:aC}
noncomputable def AH(i:Nat)(ρ:ak)(aA us:List T)(j:Nat)(d:D):D→R ak
 |.int l=>match eF us.length l with
  |some n=>if us.all ie=true then .ok (ρ.set i (.bG (.lst (aA.set j (.lst (us.set n (.aq d)))))))else .bad
  |none=>.bad
 |_=>.bad
noncomputable def AI(i:Nat)(ρ:ak)(aA:List T)(mu:aC)(d:D):Option Nat→R ak
 |some j=>match aA[j]? with
  |some (.lst us)=>(mu ρ).bind fun k=>AH i ρ aA us j d k
  |_=>.bad
 |none=>.bad
noncomputable def AG(i:Nat)(ρ:ak)(aA:List T)(mu:aC)(d:D):D→R ak
 |.int j=>AI i ρ aA mu d (eF aA.length j)
 |_=>.bad
noncomputable def q3(i:Nat)(mk mu mv:aC):er:=fun ρ=>(mv ρ).bind fun d=>(il i ρ).bind fun aA=>(mk ρ).bind fun k=>AG i ρ aA mu d k
theorem X_ (i:Nat) {x:Str} {aH pz pos':Pos} {k j v:Expr} {mk mu mv:aC} (hk:aX X F k mk) (sM:oh k) (cF:aX X F j mu) (hv:aX X F v mv) (hN:X.N[i]?=some x:=by rfl) (hvs:eC X.env.scope x:=by first|exact Or.inl rfl|exact Or.inr (Or.inl rfl)|exact Or.inr (Or.inr rfl)) (hd:(x==("__debug__" :Str))=false:=by decide) (hcd:(x==("__classdict__" :Str))=false:=by decide)(hs:swapsWithSole [.Subscript (.Subscript (.Name x aH) k pz) j pos'] v pos.line X.env=pure false:=by rfl) (hw:swappedStores [.Subscript (.Subscript (.Name x aH) k pz) j pos'] v X.env=pure none:=by rfl)(h1:(assignEach [.Subscript (.Subscript (.Name x aH) k pz) j pos'] X.env).map (·.2)=[assign (.Subscript (.Subscript (.Name x aH) k pz) j pos') X.env]:=by rfl)(ha:∀u,assign (.Subscript (.Subscript (.Name x aH) k pz) j pos') X.env u=(do
    let dK ←holding [u] (eval (.Subscript (.Name x aH) k pz) X.env)
    let fe ←holding [u,dK] (eval j X.env)
    standAt pos'
    holding [u,dK,fe] (setItem dK fe u)
    release [u,dK,fe] []):=by intro _;rfl) :
  uB X F (.Assign [.Subscript (.Subscript (.Name x aH) k pz) j pos'] v pos) (q3 i mk mu mv):=by
 refine⟨cU.imp (AK hv.1 (H5 (wB vE (hI hN hvs hd hcd) hk.1 sM) cF.1 set_list ha) hs hw h1) ?_⟩;rintro bO σ H ⟨G,ρ,r,h⟩;unfold q3 at h;refine⟨G,ρ,r,?_⟩;cases ev:mv ρ with
 |bad=>rw[ev]at h;exact h.elim
 |exc c=>rw[ev]at h;exact h
 |ok d=>
  rw[ev,R.bl]at h;intro u H1 aN av s1 x2;cases cq:il i ρ with
  |bad=>rw[cq]at h;exact h.elim
  |exc c=>exact(w9 cq).elim
  |ok aA=>
   rw[cq,R.bl]at h;have bU:=w_ cq;obtain⟨a,xs,aj,ha,wl,aQ⟩:=av.root bU;refine⟨.ref a,aj,aN,ρ,av,?_⟩;cases dP:mk ρ with
   |bad=>rw[dP]at h;exact h.elim
   |exc c=>rw[dP]at h;exact h
   |ok ff=>
    rw[dP,R.bl]at h;intro w aM cE bg s2 gB;cases ff with
    |int z5=>
     simp only[AG]at h;simp only[At]at gB;cases d5:eF aA.length z5 with
     |none=>rw[d5]at h;exact h.elim
     |some n=>
      rw[d5]at h;simp only[AI]at h;obtain⟨m3,iq,gF,kd,t5,An⟩:=bg.root bU;rw[aj]at gF;cases gF;cases gq:aA[n]? with
      |none=>rw[gq]at h;exact h.elim
      |some t=>
       rw[gq]at h;cases t with
       |aq _=>exact h.elim
       |cW _ _=>exact h.elim
       |a_ _ _=>exact h.elim
       |ins _ _ _=>exact h.elim
       |lst us=>
        simp only at h;obtain⟨lR,l8,t7⟩:=tY t5 gq;simp only[cf]at t7;obtain⟨q,ys,rfl,aO,XM⟩:=t7;have si:eM iq z5=some (.ref q):=by unfold eM;rw[←t5.length,d5];exact l8
        refine .inl ⟨a,iq,z5,.ref q,rfl,gB,bS.of kd,si,cE,ρ,bg,?_⟩;cases em:mu ρ with
        |bad=>rw[em]at h;exact h.elim
        |exc c=>rw[em]at h;exact h
        |ok QB=>
         rw[em,R.bl]at h;intro fL cO fm dU s3 DG;cases QB with
         |int l=>
          simp only[AH]at h;simp only[At]at DG;cases gW:eF us.length l with
          |none=>rw[gW]at h;exact h.elim
          |some o=>
           rw[gW]at h;simp only at h;by_cases hf:us.all ie=true
           ·rw[if_pos hf]at h;obtain⟨gA,CZ,dk,sA,CP,RY⟩:=dU.root bU;rw[aj]at dk;cases dk;have zV:CZ=iq:=by
             have:=s3.h _ _ kd;rw[sA]at this;cases this;rfl
            subst zV;have oR:cO q=some (.lst ys):=s3.h _ _ aO;obtain⟨Xe,sm,t8⟩:=tY CP gq;rw[l8]at sm;cases sm;simp only[cf]at t8;obtain⟨rr,Yv,pV,sN,t9⟩:=t8;cases pV;rw[oR]at sN;cases sN;obtain⟨ds,rfl,al⟩:=FL hf t9;have KY:=al.IW (j:=o) (x2.mono (s2.trans s3).g);have wn:bK F.K fm cO ((ds.map T.aq).set o (.aq d)) (ys.set o u):=by
             have z:=JB (H:=cO) KY
             rwa [List.map_set]at z
            have f1:cj cO ((ds.map T.aq).set o (.aq d)) (ys.set o u)=[]:=zj (by rw[←List.map_set];exact K1 _)
            have f2:cj cO (ds.map T.aq) ys=[]:=zj hf;have jV:=dU.Hq bU aj sA gq l8 oR wn (f1.trans f2.symm);refine⟨q,ys,l,o,rfl,DG,oR,by rw[←t9.length];exact gW,?_⟩;exact h fm _ jV (s1.trans (s2.trans s3)).g
           ·rw[if_neg hf]at h;exact h.elim
         |_=>exact h.elim
    |_=>exact h.elim
end
inductive mO where
 |bj (ρ:ak)|dh (d:D) (ρ:ak)
abbrev iO:=ak→R mO
noncomputable def oW(F:aZ)(G:ah)(σ :aS.St)(bO:Ends):R mO→Prop
 |.ok (.bj bh)=>∀ σ' G' H',Rel F G' H' σ' bh→Sub G G'→ σ'[0]?= σ[0]?→ σ'[1]?= σ[1]?→bO.bj σ' H'
 |.ok (.dh d bh)=>∀v σ' G' H',Rel F G' H' σ' bh→At F.K G' d v→ σ'[0]?= σ[0]?→ σ'[1]?= σ[1]?→bO.dh v H'
 |.exc c=>iD F c
 |.bad=>False
def Cf(F:aZ)(m:iO):eB:=fun bO σ H=>∃G ρ,Rel F G H σ ρ∧oW F G σ bO (m ρ)
theorem oW.mono{F:aZ}{G aN:ah}{σ σ1:aS.St}{bO:Ends}(s:Sub G aN)(bU: σ1[0]?= σ[0]?)(aj: σ1[1]?= σ[1]?):∀{r:R mO},oW F G σ bO r→oW F aN σ1 bO r
 |.ok (.bj _),h=>fun σ' G' H' r a7 kr a6=>h σ' G' H' r (s.trans a7) (kr.trans bU) (a6.trans aj)
 |.ok (.dh _ _),h=>fun v σ' G' H' r a kr a6=>h v σ' G' H' r a (kr.trans bU) (a6.trans aj)
 |.exc _,h=>h
 |.bad,h=>h
structure r7(X:aK)(F:aZ)(st:Stmt)(m:iO):Prop where
 o:cU X st (Cf F m)
structure uz(X:aK)(F:aZ)(st:List Stmt)(m:iO):Prop where
 o:fa X st (Cf F m)
def EL(b:iO):mO→R mO
 |.bj ρ=>b ρ
 |.dh d ρ=>.ok (.dh d ρ)
def o8(a b:iO):iO:=fun ρ=>(a ρ).bind (EL b)
theorem Yq{X:aK}{F:aZ}{st:Stmt}{m:iO}(h:r7 X F st m):uz X F [st] m:=⟨tI h.1⟩
theorem xp{X:aK}{F:aZ}{st:Stmt}{kk:List Stmt}{a b:iO}(h:r7 X F st a)(k:uz X F kk b):uz X F (st::kk) (o8 a b):=by
 refine⟨fa.imp (AM h.1 k.1) ?_⟩;rintro bO σ H ⟨G,ρ,r,h⟩;unfold o8 at h;refine⟨G,ρ,r,?_⟩;cases ar:a ρ with
 |bad=>rw[ar]at h;exact h.elim
 |exc c=>rw[ar]at h;exact h
 |ok f=>
  rw[ar,R.bl]at h;cases f with
  |bj dn=>exact fun σ' G' H' br s' kr a6=>⟨G',dn,br,oW.mono s' kr a6 h⟩
  |dh d dn=>exact h
noncomputable def q6(i:Nat)(a:aC):iO:=fun ρ=>(a ρ).bind fun d=>if i<ρ.length then .ok (.bj (ρ.set i (.aq d)))else .bad
theorem C7{X:aK}{F:aZ}{e:Expr}{pos:Pos}(i:Nat){x:Str}{p:Pos}{m:aC}(hN:X.N.Nodup)(he:aX X F e m)(h2:2≤i:=by decide)(hi:X.N[i]?=some x:=by rfl)(hx:Loc X.env.scope x:=by first|exact Or.inl rfl|exact Or.inr rfl)(hs:i1 e=true:=by rfl)(hf:X.fn x=true∨X.env.scope.names.lookup x=some .local:=by first|exact .inl rfl|exact .inr rfl):r7 X F (.Assign [.Name x p] e pos) (q6 i m):=by
 refine⟨cU.imp (rq hN hi hx he.1 (jt _ _ _ _ hs) hf) ?_⟩;rintro bO σ H ⟨G,ρ,r,h⟩;unfold q6 at h;refine⟨G,ρ,r,?_⟩;cases ar:m ρ with
 |bad=>rw[ar]at h;exact h.elim
 |exc c=>rw[ar]at h;exact h
 |ok d=>
  rw[ar,R.bl]at h;intro v H1 aN av s1 bf;by_cases hi:i<ρ.length
  ·rw[if_pos hi]at h;exact h _ aN H1 (av.set hi bf) s1.g (List.getElem?_set_ne (by omega)) (List.getElem?_set_ne (by omega))
  ·rw[if_neg hi]at h;exact h.elim
def vT(a:aC):iO:=fun ρ=>(a ρ).bind fun d=>.ok (.dh d ρ)
theorem Yr{X:aK}{F:aZ}{e:Expr}{pos:Pos}{m:aC}(h:aX X F e m):r7 X F (.Return (some e) pos) (vT m):=by
 refine⟨cU.imp (rp h.1) ?_⟩;rintro bO σ H ⟨G,ρ,r,h⟩;unfold vT at h;refine⟨G,ρ,r,?_⟩;cases ar:m ρ with
 |bad=>rw[ar]at h;exact h.elim
 |exc c=>rw[ar]at h;exact h
 |ok d=>rw[ar,R.bl]at h;exact fun v H1 aN av s1 bf=>h v σ aN H1 av bf rfl rfl
noncomputable def kE(b:Nat)(dq:er):List Nat→ak→R ak
 |[],ρ=>.ok ρ
 |s::r,ρ=>match ρ[s]? with
  |some (.bG t)=>if s≠b∧b<ρ.length then(dq ((ρ.set s .un).set b (.bG t))).bind fun dR=>match dR[b]? with
     |some (.bG d_)=>kE b dq r ((dR.set b .un).set s (.bG d_))
     |_=>.bad
   else .bad
  |_=>.bad
section
variable{F:aZ}
theorem KZ{b:Nat}{dq:er}{l:List Nat}{vs:List V}{p:Addr}{cu G H:ah}{σ :aS.St}{ρ:ak}{bO:Ends}(r:Rel F G H σ ρ)(s0:Sub cu G)(sy:G p=some (.lst vs))(hl:vs.length=l.length)(hv:∀(i s:Nat),l[i]?=some s→∃v,vs[i]?=some v∧ σ[s]?=some (some v))(hb:∀s∈l,s≠b)(d0:2≤b)(h:oW F cu σ bO ((kE b dq l ρ).bind fun bh=>.ok (.bj bh))) :
  ∃W:Nat→Nat→aS.St→ah→Prop,(∃m,W 0 m σ H)∧∀i m σ H,W i m σ H→
   ((p5 F.K p).stop i H∧bO.bj σ H)∨((p5 F.K p).go i H∧∃N:aS.St→ah→Prop,(∀ σ' H',N σ' H'→∃ee,ee<m∧W (i+1) ee σ' H')∧∀x H',(p5 F.K p).ja i H x H'→iz b x σ H' fun σ2 aM=>w5 F dq { bO with bj:=N,c3:=N,ft:=bO.bj } σ2 aM):=by
 let W:Nat→Nat→aS.St→ah→Prop:=fun i m σ' H'=>m=l.length-i∧i≤l.length∧∃aN dn,Rel F aN H' σ' dn∧Sub G aN∧(∀s,s≠b→ σ'[s]?= σ[s]?)∧kE b dq (l.drop i) dn=kE b dq l ρ
 refine⟨W,⟨l.length,rfl,Nat.zero_le _,G,ρ,r,Sub.refl _,fun _ _=>rfl,rfl⟩,?_⟩;rintro i m σ1 H1 ⟨rfl,hi,aN,dn,av,a7,wO,ar⟩;have fw:bS F.K H1 p vs:=bS.of (av.aL.sub _ _ (a7 _ _ sy));rcases Nat.lt_or_ge i l.length with lt|ge
 ·right
  obtain⟨s,ag⟩:∃s,l[i]?=some s:=⟨l[i],List.getElem?_eq_getElem lt⟩;obtain⟨v,ev,ax⟩:=hv i s ag;have ms:s∈l:=List.mem_of_getElem? ag;have hd:l.drop i=s::l.drop (i+1):=by rw[List.getElem?_eq_some_iff]at ag;obtain⟨q,rfl⟩:=ag;exact(List.getElem_cons_drop q).symm
  refine⟨⟨vs,v,fw,ev⟩,W (i+1) (l.length-(i+1)),fun σ' H' w=>⟨_,by omega,w⟩,?_⟩;rintro x cO ⟨sg,hx⟩;rw[sg];have:=hx vs fw;rw[ev]at this;cases this;show w5 F dq _ (σ1.set b (some v)) H1;rw[hd,kE]at ar;have nb:=hb s ms;have bE: σ1[s]?=some (some v):=by rw[wO s nb];exact ax
  cases gq:dn[s]? with
  |none=>rw[gq]at ar;rw[←ar]at h;exact h.elim
  |some bZ=>
   rw[gq]at ar;cases bZ with
   |un=>rw[←ar]at h;exact h.elim
   |aq _=>rw[←ar]at h;exact h.elim
   |aR _=>rw[←ar]at h;exact h.elim
   |bG t=>
    simp only at ar;by_cases hc:s≠b∧b<dn.length
    ·rw[if_pos hc]at ar;refine⟨aN,_,av.moveTo gq bE hc.2 nb,?_⟩;cases em:dq ((dn.set s .un).set b (.bG t))with
     |bad=>rw[em]at ar;rw[←ar]at h;exact h.elim
     |exc c=>rw[em]at ar;rw[←ar]at h;exact h
     |ok dR=>
      rw[em,R.bl]at ar;intro cE aM bg s2;have NU:b< σ1.length:=by rw[av.len];exact hc.2
      cases bq:dR[b]? with
      |none=>rw[bq]at ar;rw[←ar]at h;exact h.elim
      |some rz=>
       rw[bq]at ar;cases rz with
       |un=>rw[←ar]at h;exact h.elim
       |aq _=>rw[←ar]at h;exact h.elim
       |aR _=>rw[←ar]at h;exact h.elim
       |bG d_=>
        simp only at ar;have v1:(σ1.set b (some v))[b]?=some (some v):=by rw[List.getElem?_set_self NU]
        have v2:(σ1.set b (some v))[s]?=some (some v):=by rw[List.getElem?_set_ne (Ne.symm nb)];exact bE
        exact⟨rfl,lt,cE,_,bg.RK bq v1 v2 nb,a7.trans s2,fun s' fR=>by rw[List.getElem?_set_ne (Ne.symm fR)];exact wO s' fR,ar⟩
    ·rw[if_neg hc]at ar;rw[←ar]at h;exact h.elim
 ·left
  have vq:i=l.length:=Nat.le_antisymm hi ge;rw[vq,List.drop_length,kE]at ar;rw[←ar]at h;exact⟨⟨vs,fw,by omega⟩,h σ1 aN H1 av (s0.trans a7) (wO 0 (by omega)) (wO 1 (by omega))⟩
end
def lb(x y:Nat):Nat→List Nat
 |0=>[x]
 |1=>[y]
 |_=>[x,y]
noncomputable def qf(x y b:Nat)(dq:er)(ρ:ak):Option Nat→R mO
 |some n=>match ρ[x]? with
  |some (.bG _)=>match ρ[y]? with
   |some (.bG _)=>(kE b dq (lb x y n) ρ).bind fun bh=>.ok (.bj bh)
   |_=>.bad
  |_=>.bad
 |none=>.bad
def l0(x y b:Nat)(dq:er)(ρ:ak):D→R mO
 |.int j=>qf x y b dq ρ (eF 4 j)
 |_=>.bad
def vO(x y b:Nat)(mk:aC)(dq:er):iO:=fun ρ=>(iG (mk ρ)).bind fun k=>l0 x y b dq ρ k
section
variable{X:aK}{F:aZ}{k:Expr}{pos:Pos}{mk:aC}
theorem Yp(x y b:Nat){g_ gi bn:Str}{dG bW lI AB AD AE aY bA en nQ rr HV wz:Pos}{body:List Stmt}{dq:er}(hp:PassesOwn (model X.prog X.w) X.A X.env X.xe)(hk:aX X F k mk)(sM:oh k)(NR:uA X F body dq)(NK:X.N.Nodup)(Gd:x≠b)(Ge:y≠b)(zA:2≤b)(hc:X.calm=true:=by rfl)(hK:F.K=X.K:=by rfl)(hx:X.N[x]?=some g_:=by rfl)(cK:X.N[y]?=some gi:=by rfl)(NV:X.N[b]?=some bn:=by rfl)(c0:eC X.env.scope g_:=by first|exact Or.inl rfl|exact Or.inr (Or.inl rfl)|exact Or.inr (Or.inr rfl))(c1:eC X.env.scope gi:=by first|exact Or.inl rfl|exact Or.inr (Or.inl rfl)|exact Or.inr (Or.inr rfl))(z_:Loc X.env.scope bn:=by first|exact Or.inl rfl|exact Or.inr rfl)(hf:X.fn bn=true∨X.env.scope.names.lookup bn=some .local:=by first|exact .inl rfl|exact .inr rfl)(a0:(g_==("__debug__" :Str))=false:=by decide)(eN:(gi==("__debug__" :Str))=false:=by decide)(yS:(g_==("__classdict__" :Str))=false:=by decide)(yT:(gi==("__classdict__" :Str))=false:=by decide)(hs:∀z,foldedSetIterable (.Subscript (.List [.List [.Name g_ dG] aY,.List [.Name gi bW] bA,.List [.Name g_ lI,.Name gi AB] en,.List [.Name g_ AD,.Name gi AE] nQ] rr) k HV) X.env z=pure z:=by intro _;rfl) :
  r7 X F (.For (.Name bn wz) (.Subscript (.List [.List [.Name g_ dG] aY,.List [.Name gi bW] bA,.List [.Name g_ lI,.Name gi AB] en,.List [.Name g_ AD,.Name gi AE] nQ] rr) k HV) body [] pos) (vO x y b mk dq):=by
 have ex:∀p,a3 X (.Name g_ p) (rH x):=fun p=>hI hx c0 a0 yS;have cX:∀p,a3 X (.Name gi p) (rH y):=fun p=>hI cK c1 eN yT;have cG:∀(n:Str)(p:Pos)(ag:List Expr),starEach (.Name n p::ag) X.env=(false,eval (.Name n p) X.env)::starEach ag X.env:=fun n p ag=>wW _ ag X.env rfl;have cD:∀(ls:List Expr)(p:Pos)(ag:List Expr),starEach (.List ls p::ag) X.env=(false,eval (.List ls p) X.env)::starEach ag X.env:=fun ls p ag=>wW _ ag X.env rfl;refine⟨cU.imp (Ie hp hc (H8 (wB vE (px (gb (px (gb (ex dG) i3 (cG _ _ _))) (gb (px (gb (cX bW) i3 (cG _ _ _))) (gb (px (gb (ex lI) (gb (cX AB) i3 (cG _ _ _)) (cG _ _ _))) (gb (px (gb (ex AD) (gb (cX AE) i3 (cG _ _ _)) (cG _ _ _))) i3 (cD _ _ _)) (cD _ _ _)) (cD _ _ _)) (cD _ _ _))) hk.1 sM)) (rn NK NV z_ hf) NR.1 hs) ?_⟩;rintro bO σ H ⟨G,ρ,r,h⟩;unfold vO at h;cases dP:mk ρ with
 |bad=>rw[dP]at h;exact h.elim
 |exc c=>rw[dP]at h;exact h.elim
 |ok ff=>
  rw[dP]at h;replace h:oW F G σ bO (l0 x y b dq ρ ff):=h;cases ff with
  |int j=>
   simp only[l0]at h;cases d5:eF 4 j with
   |none=>rw[d5]at h;exact h.elim
   |some n=>
    rw[d5]at h;simp only[qf]at h;cases zc:ρ[x]? with
    |none=>rw[zc]at h;exact h.elim
    |some tU=>
     rw[zc]at h;cases zd:ρ[y]? with
     |none=>rw[zd]at h;cases tU<;>exact h.elim
     |some Ca=>
      rw[zd]at h;cases tU with
      |un=>exact h.elim
      |aq _=>exact h.elim
      |aR _=>exact h.elim
      |bG dm=>
       cases Ca with
       |un=>exact h.elim
       |aq _=>exact h.elim
       |aR _=>exact h.elim
       |bG ty=>
        simp only at h;obtain⟨_,bF,fx,rfl,SF⟩:=r.bZ x _ zc;obtain⟨_,b5,fy,rfl,SG⟩:=r.bZ y _ zd;refine⟨fx,bF,(show(1:Nat)≤sizeLine by decide),fun a1 eD=>⟨fy,b5,(show(1:Nat)≤sizeLine by decide),fun a2 d0=>⟨fx,bF,fy,b5,(show(2:Nat)≤sizeLine by decide),fun e6 m4=>⟨fx,bF,fy,b5,(show(2:Nat)≤sizeLine by decide),fun gA uI=>⟨(show(4:Nat)≤sizeLine by decide),fun lZ x4=>?_⟩⟩⟩⟩⟩;have jV:=((((r.lay0 (o:=.lst [fx]) eD).lay0 (o:=.lst [fy]) d0).lay0 (o:=.lst [fx,fy]) m4).lay0 (o:=.lst [fx,fy]) uI).lay0 (o:=.lst [.ref a1,.ref a2,.ref e6,.ref gA]) x4;have s5:=((((bT.lay0 (G:=G) (o:=.lst [fx]) eD).trans (bT.lay0 (o:=.lst [fy]) d0)).trans (bT.lay0 (o:=.lst [fx,fy]) m4)).trans (bT.lay0 (o:=.lst [fx,fy]) uI)).trans (bT.lay0 (o:=.lst [.ref a1,.ref a2,.ref e6,.ref gA]) x4);have g1:=(bT.lay0 (G:=G) (o:=.lst [fx]) eD).h;have g2:=(bT.lay0 (G:=G) (o:=.lst [fy]) d0).h;have g3:=(bT.lay0 (G:=G) (o:=.lst [fx,fy]) m4).h;have ly:=(bT.lay0 (G:=G) (o:=.lst [fx,fy]) uI).h;have nd:=(bT.lay0 (G:=G) (o:=.lst [V.ref a1,.ref a2,.ref e6,.ref gA]) x4).h;refine⟨G,ρ,jV,?_⟩;rw[dP];intro w mQ p1 wD gK gB;simp only[At]at gB;have up:=s5.trans gK;suffices key:∃(g7:Addr)(vs:List V),([V.ref a1,.ref a2,.ref e6,.ref gA])[n]?=some (.ref g7)∧H g7=none∧(upd (upd (upd (upd (upd H a1 (.lst [fx])) a2 (.lst [fy])) e6 (.lst [fx,fy])) gA (.lst [fx,fy])) lZ (.lst [.ref a1,.ref a2,.ref e6,.ref gA])) g7=some (.lst vs)∧vs.length=(lb x y n).length∧(∀(i s:Nat),(lb x y n)[i]?=some s→∃v,vs[i]?=some v∧ σ[s]?=some (some v))∧(∀s∈lb x y n,s≠b)by
         obtain⟨g7,vs,dQ,b7,vF,qD,Qf,Qg⟩:=key;have hD:mQ g7=some (.lst vs):=gK.h _ _ vF;have si:eM [V.ref a1,.ref a2,.ref e6,.ref gA] j=some (.ref g7):=by unfold eM;show(eF 4 j).bind _=_;rw[d5];exact dQ
         have FU:p1 g7=none:=by rw[gK.n g7 (by rw[vF];simp)];exact r.aL.sub.gone b7
         have ij:=wD.take hD FU (r.aL.hh.gone b7) (cP.fresh r up.h b7);refine Or.inl ⟨lZ,_,j,.ref g7,rfl,gB,bS.of (gK.h _ _ dA),si,g7,rfl,⟨vs,bS.of hD⟩,?_⟩;rw[←hK];exact KZ ij (up.g.trans (Sub.upd FU)) dA qD Qf Qg zA h
        have pj:n<4:=(z1 d5).2.1;have two:∀(i s:Nat),[x,y][i]?=some s→∃v,[fx,fy][i]?=some v∧ σ[s]?=some (some v):=fun i s e=>by
         match i,e with
         |0,e=>cases e;exact⟨fx,rfl,bF⟩
         |1,e=>cases e;exact⟨fy,rfl,b5⟩
        have JG:∀s∈[x,y],s≠b:=fun s hs=>by
         simp at hs;rcases hs with rfl|rfl
         ·exact Gd
         ·exact Ge
        match n,pj with
        |0,_=>
         refine⟨a1,[fx],rfl,eD,nd _ _ (ly _ _ (g3 _ _ (g2 _ _ dA))),rfl,fun i s e=>?_,fun s hs=>?_⟩
         ·match i,e with
          |0,e=>cases e;exact⟨fx,rfl,bF⟩
         ·simp only[lb,List.mem_singleton]at hs;subst hs;exact Gd
        |1,_=>
         refine⟨a2,[fy],rfl,g1.gone d0,nd _ _ (ly _ _ (g3 _ _ dA)),rfl,fun i s e=>?_,fun s hs=>?_⟩
         ·match i,e with
          |0,e=>cases e;exact⟨fy,rfl,b5⟩
         ·simp only[lb,List.mem_singleton]at hs;subst hs;exact Ge
        |2,_=>exact⟨e6,[fx,fy],rfl,g1.gone (g2.gone m4),nd _ _ (ly _ _ dA),rfl,two,JG⟩
        |3,_=>exact⟨gA,[fx,fy],rfl,g1.gone (g2.gone (g3.gone uI)),nd _ _ dA,rfl,two,JG⟩
  |_=>exact h.elim
end
open Classical in
noncomputable def gU(H:ah)(l:List Addr):ah:=fun b=>if b∈l then none else H b
theorem yR{H:ah}{l:List Addr}{b:Addr}(h:b∈l):gU H l b=none:=by unfold gU;rw[if_pos h]
theorem uW{H:ah}{l:List Addr}{b:Addr}(h:b∉l):gU H l b=H b:=by unfold gU;rw[if_neg h]
theorem LK(H:ah)(l:List Addr):Sub (gU H l) H:=fun b o e=>by
 by_cases h:b∈l
 ·rw[yR h]at e;cases e
 ·rw[uW h]at e;exact e
theorem Ee{H:ah}{l:List Addr}{b:Addr}(h:gU H l b=none):b∈l∨H b=none:=by
 by_cases hb:b∈l
 ·exact .inl hb
 ·rw[uW hb]at h;exact .inr h
noncomputable def GL(F:aZ)(c0 c1:V)(Q:cI):R (D×T×T)→Prop
 |.ok (d,dm,ty)=>∀v G' H',eK F G' H'→At F.K G' d v→k_ F G' H' dm c0→k_ F G' H' ty c1→(∀b∈aE H' dm c0,b∉aE H' ty c1)→Q v H'
 |.exc c=>iD F c
 |.bad=>False
noncomputable def B7(K:PySem.W.Frag)(n:Nat)(mf:T→T→List D→R (D×T×T)):iP:=fun vs H Q E=>∃G dm ty c0 c1 ag ws,vs=c0::c1::ws∧Sub G H∧cf K G H dm c0∧cf K G H ty c1∧(aE H dm c0++aE H ty c1).Nodup∧(∀b∈aE H dm c0++aE H ty c1,G b=none)∧aI K G ag ws∧ag.length=n∧
 GL ⟨K,G,gU H (aE H dm c0++aE H ty c1),fun _ _=>False⟩ c0 c1 Q (mf dm ty ag)
theorem V1{K:PySem.W.Frag}{n:Nat}{mf:T→T→List D→R (D×T×T)}:∀vs H Q E,B7 K n mf vs H Q E→vs.length=n+2:=fun vs H Q E h=>by obtain⟨G,dm,ty,c0,c1,ag,ws,rfl,_,_,_,_,_,a,l,_⟩:=h;simp[←a.length,l]
noncomputable def oU(N:Nat)(dm ty:T)(ag:List D):ak:=.bG dm::.bG ty::(ag.map .aq++List.replicate (N-2-ag.length) .un)
noncomputable def tD(d:D)(ρ:ak):R (D×T×T):=match(ρ[0]? :Option cp)with
 |some (.bG dm)=>match(ρ[1]? :Option cp)with
  |some (.bG ty)=>.ok (d,dm,ty)
  |_=>.bad
 |_=>.bad
def HR:mO→R (D×T×T)
 |.bj ρ=>tD .non ρ
 |.dh d ρ=>tD d ρ
def sZ(N:Nat)(m:iO):T→T→List D→R (D×T×T):=fun dm ty ag=>(m (oU N dm ty ag)).bind HR
theorem UB{K:PySem.W.Frag}{G H:ah}{e_:Str→ah→Prop}{N:Nat}{dm ty:T}{c0 c1:V}{ag:List D}{ws:List V}(s:Sub G H)(a1:cf K G H dm c0)(a2:cf K G H ty c1)(aQ:(aE H dm c0++aE H ty c1).Nodup)(no:∀b∈aE H dm c0++aE H ty c1,G b=none)(a:aI K G ag ws) :
  Rel ⟨K,G,gU H (aE H dm c0++aE H ty c1),e_⟩ G H (lP N (c0::c1::ws)) (oU N dm ty ag):=by
 have hl:=a.length;obtain⟨cG,cD,gs⟩:=List.nodup_append.mp aQ;have st:lP N (c0::c1::ws)=some c0::some c1::(ws.map some++List.replicate (N-2-ag.length) none):=by
  unfold lP;simp only[List.map_cons,List.length_cons,List.cons_append,hl]
  congr 4
  omega
 rw[st];have foot:∀(i:Nat)(q:cp)(o:Option V)(b:Addr),(oU N dm ty ag)[i]?=some q→(some c0::some c1::(ws.map some++List.replicate (N-2-ag.length) (none:Option V)))[i]?=some o→ep H q o b→(i=0∧b∈aE H dm c0)∨(i=1∧b∈aE H ty c1):=fun i q o b aj ax f=>by
  match i,aj,ax with
  |0,aj,ax=>cases aj;cases ax;obtain⟨u,z,hb⟩:=f;cases z;exact .inl ⟨rfl,hb⟩
  |1,aj,ax=>cases aj;cases ax;obtain⟨u,z,hb⟩:=f;cases z;exact .inr ⟨rfl,hb⟩
  |i+2,aj,ax=>
   have aj:(ag.map cp.aq++List.replicate (N-2-ag.length) .un)[i]?=some q:=aj;have m:=List.mem_of_getElem? aj;rcases List.mem_append.mp m with m|m
   ·obtain⟨d,_,rfl⟩:=List.mem_map.mp m;exact f.elim
   ·obtain⟨_,rfl⟩:=List.mem_replicate.mp m;exact f.elim
 refine⟨⟨s,Sub.refl _,LK _ _,fun _ _=>rfl⟩,by simp[oU,hl],fun i q e=>?_,fun i j b s1 s2 cy b_ aj ax bE dk f1 f2=>?_⟩
 ·match i,e with
  |0,e=>cases e;exact⟨some c0,rfl,c0,rfl,a1,cG,fun b hb=>⟨no b (List.mem_append_left _ hb),yR (List.mem_append_left _ hb)⟩⟩
  |1,e=>cases e;exact⟨some c1,rfl,c1,rfl,a2,cD,fun b hb=>⟨no b (List.mem_append_right _ hb),yR (List.mem_append_right _ hb)⟩⟩
  |i+2,e=>
   have e:(ag.map cp.aq++List.replicate (N-2-ag.length) .un)[i]?=some q:=e;show ∃o,(ws.map some++List.replicate (N-2-ag.length) none)[i]?=some o∧_;by_cases hi:i<ag.length
   ·rw[List.getElem?_append_left (by simpa using hi),List.getElem?_map,List.getElem?_eq_getElem hi]at e;obtain⟨v,aj,bf⟩:=a.get (List.getElem?_eq_getElem hi);rw[List.getElem?_append_left (by rw[List.length_map,←hl];exact hi),List.getElem?_map,aj];have gq:cp.aq ag[i]=q:=Option.some.inj e;subst gq;exact⟨some v,rfl,v,rfl,bf⟩
   ·rw[List.getElem?_append_right (by simpa using hi),List.getElem?_replicate,List.length_map]at e;rw[List.getElem?_append_right (by rw[List.length_map,←hl];omega),List.getElem?_replicate,List.length_map,←hl];by_cases hh:i-ag.length<N-2-ag.length
    ·rw[if_pos hh]at e;cases e;exact⟨none,by rw[if_pos hh],trivial⟩
    ·rw[if_neg hh]at e;cases e
 ·rcases foot i s1 cy b aj bE f1 with⟨bJ,m1⟩|⟨bJ,m1⟩<;>rcases foot j s2 b_ b ax dk f2 with⟨jl,m2⟩|⟨jl,m2⟩
  ·rw[bJ,jl]
  ·exact absurd rfl (gs b m1 b m2)
  ·exact absurd rfl (gs b m2 b m1)
  ·rw[bJ,jl]
theorem Lf{K:PySem.W.Frag}{n N:Nat}{m:iO}{vs:List V}{H:ah}{Q:cI}{E:dc}(h:B7 K n (sZ N m) vs H Q E) :
  ∃G bL,Cf ⟨K,G,bL,fun _ _=>False⟩ m { bj:=fun _ H'=>Q .non H',dh:=Q } (lP N vs) H:=by
 obtain⟨G,dm,ty,c0,c1,ag,ws,rfl,s,a1,a2,aQ,no,a,l,k⟩:=h;refine⟨G,_,G,oU N dm ty ag,UB s a1 a2 aQ no a,?_⟩;unfold sZ at k;have fin:∀(d:D)(bh:ak)(σ' :aS.St)(G' H':ah)(v:V),GL ⟨K,G,gU H (aE H dm c0++aE H ty c1),fun _ _=>False⟩ c0 c1 Q (tD d bh)→Rel ⟨K,G,gU H (aE H dm c0++aE H ty c1),fun _ _=>False⟩ G' H' σ' bh→At K G' d v→ σ'[0]?=some (some c0)→ σ'[1]?=some (some c1)→Q v H':=fun d bh σ' G' H' v k r bf kr a6=>by
  unfold tD at k
  split at k
  ·rename_i t0 bU
   split at k
   ·rename_i t1 aj;obtain⟨_,ko,aam,rfl,Sm⟩:=r.bZ 0 _ bU;rw[kr]at ko;cases ko;obtain⟨_,ey,xd,rfl,ps⟩:=r.bZ 1 _ aj;rw[a6]at ey;cases ey;refine k v G' H' r.aL bf Sm ps fun b h0 h1=>?_;have:=r.gE 0 1 b _ _ _ _ bU aj kr a6 ⟨c0,rfl,h0⟩ ⟨c1,rfl,h1⟩;cases this
   ·exact k.elim
  ·exact k.elim
 have Km:(lP N (c0::c1::ws))[0]?=some (some c0):=rfl;have gh:(lP N (c0::c1::ws))[1]?=some (some c1):=rfl;cases e:m (oU N dm ty ag)with
 |bad=>rw[e]at k;exact k.elim
 |exc c=>rw[e]at k;exact k
 |ok f=>
  rw[e,R.bl]at k;cases f with
  |bj bh=>exact fun σ' G' H' r s' kr a6=>fin .non bh σ' G' H' .non k r (by simp only[At]) (kr.trans Km) (a6.trans gh)
  |dh d bh=>exact fun v σ' G' H' r bf kr a6=>fin d bh σ' G' H' v k r bf (kr.trans Km) (a6.trans gh)
structure xM(P:Program)(w:World)(K:PySem.W.Frag)(mg:Str→Option Value)(base:Heap)(x:Str)(n k:Nat)(mf:T→T→List D→R (D×T×T)):Prop where
 ex:∃(f:Addr)(fd:FuncData)(aU:List Str),aU.length=n+2∧hT P w K mg base gk k f fd aU (B7 K n mf)∧mg x=some (.ref f)∧PySem.W.keepIn K (.ref f)=true∧Binds K fd aU []
theorem LS{P:Program}{w:World}{K:PySem.W.Frag}{mg:Str→Option Value}{base:Heap}{x:Str}{st:Stmt}{N:List Str}{fj dG:Str}{aU:List Str}{k:Nat}{m:iO}(d:c7 K mg x st (fj::dG::aU))(S:cN N (fj::dG::aU) (bQ st))(h:∀(f:Addr)(b9:Value)(A:Around)(outer:List Env)(s:Shared)(H:ah)(E:dc),dE k (A.deeper (PyProof.Rows.envOfC x (bQ st) s.heap.objs.size f b9))→∀cu bL,uz (iT gk P w K mg base N x (bQ st) f b9 A outer s H E).jU (fF K cu bL) (fO st) m) :
  xM P w K mg base x aU.length (k+1) (sZ N.length m):=by
 obtain⟨f,fd,fn,hm,hb⟩:=d.ex;refine⟨f,fd,fj::dG::aU,rfl,fn.ok S V1 fun b9 A outer s H vs Q E hr hs=>?_,hm,fn.aL,hb⟩;obtain⟨G,bL,ht⟩:=Lf hs;exact⟨_,(h f b9 A outer s H E hr G bL).1,ht⟩
theorem Rel.W_{F:aZ}{G H G' H':ah}{σ :aS.St}{ρ:ak}{e_:Str→ah→Prop}(r:Rel F G H σ ρ){x y:Nat}{dm ty rL rM:T}{c0 c1:V}(ex:ρ[x]?=some (.bG dm))(cX:ρ[y]?=some (.bG ty))(ne:x≠y)(hx: σ[x]?=some (some c0))(cK: σ[y]?=some (some c1))(k:eK ⟨F.K,G,gU H (aE H dm c0++aE H ty c1),e_⟩ G' H')(nN:k_ ⟨F.K,G,gU H (aE H dm c0++aE H ty c1),e_⟩ G' H' rL c0)(nO:k_ ⟨F.K,G,gU H (aE H dm c0++aE H ty c1),e_⟩ G' H' rM c1)(gE:∀b∈aE H' rL c0,b∉aE H' rM c1) :
  Rel F G' H' σ ((ρ.set x (.bG rL)).set y (.bG rM)):=by
 have ZG:x<ρ.length:=(List.getElem?_eq_some_iff.mp ex).1;have ZH:y<ρ.length:=(List.getElem?_eq_some_iff.mp cX).1;have zm:∀b∈aE H dm c0,ep H (.bG dm) (some c0) b:=fun b hb=>⟨c0,rfl,hb⟩;have zo:∀b∈aE H ty c1,ep H (.bG ty) (some c1) b:=fun b hb=>⟨c1,rfl,hb⟩;have c_:∀b∈aE H dm c0++aE H ty c1,cP H σ ρ b:=fun b hb=>by
  rcases List.mem_append.mp hb with hb|hb
  ·exact⟨x,_,_,ex,hx,zm b hb⟩
  ·exact⟨y,_,_,cX,cK,zo b hb⟩
 have h0:∀b,gU H (aE H dm c0++aE H ty c1) b=none→F.bL b=none:=fun b z=>by
  rcases Ee z with z|z
  ·exact(r.foot (c_ b z)).2.2
  ·exact r.aL.hh.gone z
 have aL:eK F G' H':=by
  refine⟨k.sub,r.aL.fc.trans k.fc,fun b o e=>?_,fun b hb=>?_⟩
  ·refine k.hh b o ?_;have n:b∉aE H dm c0++aE H ty c1:=fun z=>by rw[(r.foot (c_ b z)).2.2]at e;cases e
   show gU H _ b=some o;rw[uW n];exact r.aL.hh b o e
  ·have n:gU H (aE H dm c0++aE H ty c1) b≠none:=fun z=>hb (h0 b z);rw[show G' b=G b from k.new b n];exact r.aL.new b hb
 have pv:∀(i:Nat)(s:cp),i≠x→i≠y→ρ[i]?=some s→∃o,σ[i]?=some o∧kD F G' H' o s∧(∀a,ep H' s o a→ep H s o a):=fun i s cG cD e=>by
  obtain⟨o,aj,q⟩:=r.bZ i s e;obtain⟨aY,bA⟩:=q.keep (H':=H') k.fc fun a f=>by
   have na:a∉aE H dm c0++aE H ty c1:=fun z=>by
    rcases List.mem_append.mp z with z|z
    ·exact cG (r.gE i x a _ _ _ _ e ex aj hx f (zm a z))
    ·exact cD (r.gE i y a _ _ _ _ e cX aj cK f (zo a z))
   obtain⟨g1,g2,_⟩:=q.foot f;have c:gU H (aE H dm c0++aE H ty c1) a=H a:=uW na;refine⟨?_,?_⟩
   ·cases hZ:H a with
    |none=>exact absurd hZ g1
    |some u=>exact k.hh a u (c.trans hZ)
   ·rw[show G' a=G a from k.new a (by show gU H _ a≠none;rw[c];exact g1)];exact g2
  exact⟨o,aj,aY,bA⟩
 have uV:∀(i:Nat)(s:cp)(o:Option V)(a:Addr),i≠x→i≠y→ρ[i]?=some s→ σ[i]?=some o→ep H s o a→gU H (aE H dm c0++aE H ty c1) a≠none:=fun i s o a cG cD e aj f z=>by
  rcases Ee z with z|z
  ·rcases List.mem_append.mp z with z|z
   ·exact cG (r.gE i x a _ _ _ _ e ex aj hx f (zm a z))
   ·exact cD (r.gE i y a _ _ _ _ e cX aj cK f (zo a z))
  ·exact(r.foot ⟨i,s,o,e,aj,f⟩).1 z
 have cl:∀(i:Nat)(s:cp)(o:Option V)(a:Addr),((ρ.set x (.bG rL)).set y (.bG rM))[i]?=some s→ σ[i]?=some o→ep H' s o a→(i=x∧a∈aE H' rL c0)∨(i=y∧a∈aE H' rM c1)∨(i≠x∧i≠y∧ρ[i]?=some s∧ep H s o a):=fun i s o a e aj f=>by
  rcases get_set e with⟨rfl,rfl⟩|⟨cG,e⟩
  ·rw[cK]at aj;cases aj;obtain⟨u,z,hb⟩:=f;cases z;exact .inr (.inl ⟨rfl,hb⟩)
  ·rcases get_set e with⟨rfl,rfl⟩|⟨cD,e⟩
   ·rw[hx]at aj;cases aj;obtain⟨u,z,hb⟩:=f;cases z;exact .inl ⟨rfl,hb⟩
   ·obtain⟨cg,ey,_,eI⟩:=pv i s (Ne.symm cD) (Ne.symm cG) e;rw[aj]at ey;cases ey;exact .inr (.inr ⟨Ne.symm cD,Ne.symm cG,e,eI a f⟩)
 refine⟨aL,by simp[r.len],fun i s e=>?_,fun i j a s1 s2 cy b_ aj ax bE dk f1 f2=>?_⟩
 ·rcases get_set e with⟨rfl,rfl⟩|⟨cG,e⟩
  ·exact⟨some c1,cK,c1,rfl,nO.at_,nO.aQ,fun b hb=>⟨(nO.own b hb).1,h0 b (nO.own b hb).2⟩⟩
  ·rcases get_set e with⟨rfl,rfl⟩|⟨cD,e⟩
   ·exact⟨some c0,hx,c0,rfl,nN.at_,nN.aQ,fun b hb=>⟨(nN.own b hb).1,h0 b (nN.own b hb).2⟩⟩
   ·obtain⟨o,ey,eI,_⟩:=pv i s (Ne.symm cD) (Ne.symm cG) e;exact⟨o,ey,eI⟩
 ·rcases cl i s1 cy a aj bE f1 with⟨bJ,m1⟩|⟨bJ,m1⟩|⟨bJ,bN,zX,zY⟩<;>rcases cl j s2 b_ a ax dk f2 with⟨jl,m2⟩|⟨jl,m2⟩|⟨jl,qB,z3,z4⟩
  ·rw[bJ,jl]
  ·exact absurd m2 (gE a m1)
  ·exact absurd (nN.own a m1).2 (uV j s2 b_ a jl qB z3 dk z4)
  ·exact absurd m1 (gE a m2)
  ·rw[bJ,jl]
  ·exact absurd (nO.own a m1).2 (uV j s2 b_ a jl qB z3 dk z4)
  ·exact absurd (nN.own a m2).2 (uV i s1 cy a bJ bN zX bE zY)
  ·exact absurd (nO.own a m2).2 (uV i s1 cy a bJ bN zX bE zY)
  ·exact r.gE i j a s1 s2 cy b_ zX z3 bE dk zY z4
noncomputable def tZ(x y n:Nat)(mf:T→T→List D→R (D×T×T))(ρ:ak)(ag:List D):Option cp→Option cp→R fl
 |some (.bG dm),some (.bG ty)=>if ag.length=n∧x≠y then(mf dm ty ag).bind fun p=>.ok (.bj ((ρ.set x (.bG p.2.1)).set y (.bG p.2.2)))else .bad
 |_,_=>.bad
noncomputable def vQ(x y n:Nat)(mf:T→T→List D→R (D×T×T))(ma:aP):a8:=fun ρ=>(iG (ma ρ)).bind fun ag=>tZ x y n mf ρ ag ρ[x]? ρ[y]?
section
variable{X:aK}{F:aZ}{ag:List Expr}{pos:Pos}{ma:aP}
theorem Yf(x y:Nat){f g_ gi:Str}{n k:Nat}{mf:T→T→List D→R (D×T×T)}{p aH py tG:Pos}(c:xM X.prog X.w X.K X.mg X.base f n k mf)(hr:dE k X.A)(ha:fM X F ag ma)(hE:F.e_=fun _ _=>False:=by rfl)(hK:F.K=X.K:=by rfl)(hx:X.N[x]?=some g_:=by rfl)(cK:X.N[y]?=some gi:=by rfl)(c0:eC X.env.scope g_:=by first|exact Or.inl rfl|exact Or.inr (Or.inl rfl)|exact Or.inr (Or.inr rfl))(c1:eC X.env.scope gi:=by first|exact Or.inl rfl|exact Or.inr (Or.inl rfl)|exact Or.inr (Or.inr rfl))(a0:(g_==("__debug__" :Str))=false:=by decide)(eN:(gi==("__debug__" :Str))=false:=by decide)(yS:(g_==("__classdict__" :Str))=false:=by decide)(yT:(gi==("__classdict__" :Str))=false:=by decide)(hg:da X f:=by rfl)(hdb:(f==("__debug__" :Str))=false:=by decide)(he:starEach (.Name g_ aH::.Name gi py::ag) X.env=(false,eval (.Name g_ aH) X.env)::starEach (.Name gi py::ag) X.env:=by rfl)(N3:starEach (.Name gi py::ag) X.env=(false,eval (.Name gi py) X.env)::starEach ag X.env:=by rfl)(hpl:(backTo pos (starEach (.Name gi py::ag) X.env)).any (·.1)=false:=by rfl) :
  eL X F (.Expr (.Call (.Name f p) (.Name g_ aH::.Name gi py::ag) [] pos) tG) (vQ x y n mf ma):=by
 obtain⟨fv,fd,aU,aJ,iy,hm,hk,hb⟩:=c.ex;refine⟨cU.imp (ro (wA iy hr hg hm hk hb .nil rm (gb (hI hx c0 a0 yS) (gb (hI cK c1 eN yT) ha.1 N3) he) hdb he hpl) (jt _ _ _ _ rfl)) ?_⟩;rintro bO σ H ⟨G,ρ,r,h⟩;unfold vQ at h;cases ar:ma ρ with
 |bad=>rw[ar]at h;exact h.elim
 |exc c=>rw[ar]at h;exact h.elim
 |ok ds=>
  rw[ar]at h;replace h:g0 F G bO (tZ x y n mf ρ ds ρ[x]? ρ[y]?):=h;cases ex:ρ[x]? with
  |none=>rw[ex]at h;exact h.elim
  |some tU=>
   cases cX:ρ[y]? with
   |none=>rw[ex,cX]at h;cases tU<;>exact h.elim
   |some Ca=>
    rw[ex,cX]at h;cases tU with
    |un=>exact h.elim
    |aq _=>exact h.elim
    |aR _=>exact h.elim
    |bG dm=>
     cases Ca with
     |un=>exact h.elim
     |aq _=>exact h.elim
     |aR _=>exact h.elim
     |bG ty=>
      simp only[tZ]at h;obtain⟨_,bF,fx,rfl,SF⟩:=r.bZ x _ ex;obtain⟨_,b5,fy,rfl,SG⟩:=r.bZ y _ cX;refine⟨fx,bF,fy,b5,G,ρ,r,?_⟩;rw[ar];intro vs H1 aN av s1 bf;by_cases hl:ds.length=n∧x≠y
      ·rw[if_pos hl]at h;obtain⟨_,DH,_,aj,ps⟩:=av.bZ x _ ex;rw[bF]at DH;cases DH;cases aj;obtain⟨_,DI,_,ax,tv⟩:=av.bZ y _ cX;rw[b5]at DI;cases DI;cases ax;refine⟨aN,dm,ty,fx,fy,ds,vs,by simp,av.aL.sub,by rw[←hK];exact ps.at_,by rw[←hK];exact tv.at_,List.nodup_append.mpr ⟨ps.aQ,tv.aQ,fun b NQ c zA z=>?_⟩,fun b hb=>?_,by rw[←hK];exact bf,hl.1,?_⟩
       ·subst z;exact hl.2 (av.gE x y b _ _ _ _ ex cX bF b5 ⟨fx,rfl,NQ⟩ ⟨fy,rfl,zA⟩)
       ·rcases List.mem_append.mp hb with hb|hb
        ·exact(ps.own b hb).1
        ·exact(tv.own b hb).1
       ·rw[←hK];cases em:mf dm ty ds with
        |bad=>rw[em]at h;exact h.elim
        |exc c=>rw[em]at h;exact(h G H r.aL|>fun z=>by rw[hE]at z;exact z.elim)
        |ok q=>obtain⟨d,rL,rM⟩:=q;rw[em,R.bl]at h;intro v G' H' k' ad nN nO gE;exact h σ G' H' (av.W_ ex cX hl.2 bF b5 k' nN nO gE) (s1.g.trans k'.fc)
      ·rw[if_neg hl]at h;exact h.elim
end
def qR(m:aP):aP:=fun ρ=>(m (dF ρ)).bind fun ds=>if hG ds=true∧tx ρ=true then .ok ds else .bad
section
variable{F:aZ}
theorem OS{m:aP}:ej (i7 F (qR m)) (i7 F m):=by
 rintro σ H Q ⟨G,ρ,r,h⟩;refine⟨jj σ ρ G H,dF ρ,r.plus,?_⟩;unfold qR at h;cases ar:m (dF ρ)with
 |bad=>rw[ar]at h;exact h.elim
 |exc c=>rw[ar]at h;exact h
 |ok ds=>
  rw[ar,R.bl]at h;intro p xs H' G' br s' aJ ha hg q;by_cases hd:hG ds=true∧tx ρ=true
  ·rw[if_pos hd]at h;have tF:∀b,cP H σ ρ b→G b=none:=fun b z=>(r.foot z).2.1;have tE:∀b,cP H σ ρ b→F.bL b=none:=fun b z=>(r.foot z).2.2;have AA:∀b,cP H σ ρ b→∃ho,H b=some ho∧sT ho=true:=fun b⟨i,s,o,aj,ax,f⟩=>by
    have hi:=List.all_eq_true.mp hd.2 _ (List.mem_of_getElem? aj);cases s with
    |un=>exact f.elim
    |aq _=>exact f.elim
    |bG t=>obtain⟨v,rfl,jH⟩:=f;obtain⟨cg,bE,lR,dk,ok⟩:=r.bZ i _ aj;rw[ax]at bE;cases bE;cases dk;obtain⟨xs,e⟩:=Dy hi ok.at_ b jH;exact⟨_,e,rfl⟩
    |aR aR=>
     have f:o=some (.ref b):=f;obtain⟨c,ho,bE,h1,_,_,h4⟩:=r.obj aj;rw[ax,f]at bE;cases bE;cases aR with
     |lst _=>obtain⟨xs,rfl,_⟩:=h4;exact⟨_,h1,rfl⟩
     |a_ _ _=>cases hi
     |ins _ _ _=>cases hi
   have off:∀b,¬cP H σ ρ b→ka H σ ρ G' b=G' b:=fun b n=>by unfold ka;rw[if_neg n]
   have on:∀b,cP H σ ρ b→ka H σ ρ G' b=none:=fun b n=>by unfold ka;rw[if_pos n]
   have a7:Sub G (ka H σ ρ G'):=fun b o e=>by
    have n:¬cP H σ ρ b:=fun z=>by rw[tF b z]at e;cases e
    rw[off b n];exact s'.g b o (ve r b o e)
   have z7:∀b,cP H σ ρ b→∀o,H b=some o→H' b=some o:=fun b z o e=>br.aL.sub _ _ (s'.g _ _ (by rw[oK z];exact e));have rel:Rel F (ka H σ ρ G') H' σ ρ:=by
    refine r.over rfl ⟨fun b o e=>?_,r.aL.fc.trans a7,br.aL.hh,fun b hb=>?_⟩ a7 fun b c_=>?_
    ·by_cases n:cP H σ ρ b
     ·rw[on b n]at e;cases e
     ·rw[off b n]at e;exact br.aL.sub b o e
    ·have n:¬cP H σ ρ b:=fun z=>hb (tE b z);rw[off b n];exact br.aL.new b hb
    ·refine⟨?_,on b c_,tE b c_⟩;cases bq:H b with
     |none=>exact absurd bq (r.foot c_).1
     |some o=>exact z7 b c_ o bq
   refine h p xs H' _ rel ⟨a7,s'.h,fun b hb=>?_⟩ aJ ha (by rw[off p (fun z=>(r.foot z).1 aJ)];exact hg) (aI.pq (fun b o e hi=>?_) hd.1 q)
   ·by_cases n:cP H σ ρ b
    ·rw[on b n,tF b n]
    ·rw[off b n,s'.n b hb];unfold jj;rw[if_neg n]
   ·have n:¬cP H σ ρ b:=fun z=>by
      obtain⟨ho,aj,ax⟩:=AA b z;have:=s'.g b ho (by rw[oK z];exact aj);rw[e]at this;cases this;rw[hi]at ax;cases ax
    rw[off b n];exact e
  ·rw[if_neg hd]at h;exact h.elim
end
section
variable{X:aK}{F:aZ}{e:Expr}{pos:Pos}
theorem Kb{m:aP}(h:j2 X F e m):j2 X F e (qR m):=⟨a3.imp h.1 OS⟩
end
theorem JD{K:PySem.W.Frag}{G H:ah}:∀{aA:List T}{xs:List V}{k:Nat}{t:T}{v:V},bK K G H aA xs→cf K G H t v→bK K G H (aA.set k t) (xs.set k v)∧(∀b∈cj H (aA.set k t) (xs.set k v),b∈cj H aA xs∨b∈aE H t v)∧((cj H aA xs).Nodup→(aE H t v).Nodup→(∀b∈aE H t v,b∉cj H aA xs)→(cj H (aA.set k t) (xs.set k v)).Nodup)
 |[],_,_,_,_,h,_=>by simp only[bK]at h;subst h;exact⟨by simp[bK],by simp[cj],by simp[cj]⟩
 |u::aA,_,k,t,v,h,ht=>by
  simp only[bK]at h;obtain⟨w,r,rfl,h1,h2⟩:=h;cases k with
  |zero=>
   rw[List.set_cons_zero,List.set_cons_zero,fP,fP];refine⟨.cons ht h2,fun b hb=>?_,fun cG cD gs=>?_⟩
   ·rcases List.mem_append.mp hb with hb|hb
    ·exact .inr hb
    ·exact .inl (List.mem_append_right _ hb)
   ·exact List.nodup_append.mpr ⟨cD,(List.nodup_append.mp cG).2.1,fun a ha b hb z=>gs a ha (by rw[z];exact List.mem_append_right _ hb)⟩
  |succ k=>
   rw[List.set_cons_succ,List.set_cons_succ,fP,fP];obtain⟨dG,bW,lI⟩:=JD (k:=k) h2 ht;refine⟨.cons h1 dG,fun b hb=>?_,fun cG cD gs=>?_⟩
   ·rcases List.mem_append.mp hb with hb|hb
    ·exact .inl (List.mem_append_left _ hb)
    ·rcases bW b hb with hb|hb
     ·exact .inl (List.mem_append_right _ hb)
     ·exact .inr hb
   ·obtain⟨m1,m2,Rp⟩:=List.nodup_append.mp cG;refine List.nodup_append.mpr ⟨m1,lI m2 cD (fun b hb z=>gs b hb (List.mem_append_right _ z)),fun a ha b hb z=>?_⟩;rcases bW b hb with hb|hb
    ·exact Rp a ha b hb z
    ·exact gs b hb (by rw[←z];exact List.mem_append_left _ ha)
noncomputable def AO(i:Nat)(ρ:ak)(aA:List T)(ds:List D):Option Nat→R fl
 |some j=>.ok (.bj (ρ.set i (.bG (.lst (aA.set j (gr ds))))))
 |none=>.bad
def tJ(i:Nat)(ρ:ak)(aA:List T)(ds:List D):D→R fl
 |.int j=>AO i ρ aA ds (eF aA.length j)
 |_=>.bad
noncomputable def vS(i:Nat)(mk:aC)(mv:aP):a8:=fun ρ=>(mv ρ).bind fun ds=>(il i ρ).bind fun aA=>(mk ρ).bind fun k=>tJ i ρ aA ds k
section
variable{X:aK}{F:aZ}{e:Expr}{pos:Pos}
theorem Yg (i:Nat) {x:Str} {aH pos':Pos} {k v:Expr} {mk:aC} {mv:aP} (hk:aX X F k mk) (hv:j2 X F v mv) (hN:X.N[i]?=some x:=by rfl) (hvs:eC X.env.scope x:=by first|exact Or.inl rfl|exact Or.inr (Or.inl rfl)|exact Or.inr (Or.inr rfl)) (hd:(x==("__debug__" :Str))=false:=by decide) (hcd:(x==("__classdict__" :Str))=false:=by decide)(hs:swapsWithSole [.Subscript (.Name x aH) k pos'] v pos.line X.env=pure false:=by rfl) (hw:swappedStores [.Subscript (.Name x aH) k pos'] v X.env=pure none:=by rfl)(h1:(assignEach [.Subscript (.Name x aH) k pos'] X.env).map (·.2)=[assign (.Subscript (.Name x aH) k pos') X.env]:=by rfl)(ha:∀u,assign (.Subscript (.Name x aH) k pos') X.env u=(do
    let dK ←holding [u] (eval (.Name x aH) X.env)
    let fe ←holding [u,dK] (eval k X.env)
    standAt pos'
    holding [u,dK,fe] (setItem dK fe u)
    release [u,dK,fe] []):=by intro _;rfl) :
  eL X F (.Assign [.Subscript (.Name x aH) k pos'] v pos) (vS i mk mv):=by
 refine⟨cU.imp (AK hv.1 (H5 (hI hN hvs hd hcd) hk.1 set_list ha) hs hw h1) ?_⟩;rintro bO σ H ⟨G,ρ,r,h⟩;unfold vS at h;refine⟨G,ρ,r,?_⟩;cases ev:mv ρ with
 |bad=>rw[ev]at h;exact h.elim
 |exc c=>rw[ev]at h;exact h
 |ok ds=>
  rw[ev,R.bl]at h;intro p ys H1 aN av s1 aJ hp sy al;cases cq:il i ρ with
  |bad=>rw[cq]at h;exact h.elim
  |exc c=>exact(w9 cq).elim
  |ok aA=>
   rw[cq,R.bl]at h;have bU:=w_ cq;obtain⟨a,xs,aj,ha,wl,aQ⟩:=av.root bU;refine⟨.ref a,aj,aN,ρ,av,?_⟩;cases dP:mk ρ with
   |bad=>rw[dP]at h;exact h.elim
   |exc c=>rw[dP]at h;exact h
   |ok ff=>
    rw[dP,R.bl]at h;intro w aM cE bg s2 gB;cases ff with
    |int j=>
     simp only[tJ]at h;simp only[At]at gB;cases d5:eF aA.length j with
     |none=>rw[d5]at h;exact h.elim
     |some n=>
      rw[d5]at h;simp only[AO]at h;obtain⟨v2,ax,ey,eI,fL⟩:=bg.tree bU;rw[aj]at ax;cases ax;simp only[cf]at ey;obtain⟨a2,e1,y1,ng,t6⟩:=ey;cases y1;have dW:aE aM (.lst aA) (.ref a)=a::cj aM aA e1:=gG ng;rw[dW]at eI fL;obtain⟨na,pk⟩:=List.nodup_cons.mp eI;have oQ:aM p=some (.lst ys):=s2.h _ _ hp;have zr:cE p=none:=by rw[s2.n p (by rw[hp];simp)];exact sy
      have zt:F.bL p=none:=r.aL.hh.gone aJ;have no:¬cP aM σ ρ p:=cP.fresh r (s1.trans s2).h aJ;have own:∀b∈a::cj aM aA e1,cP aM σ ρ b:=fun b hb=>⟨i,_,_,bU,aj,.ref a,rfl,by rw[dW];exact hb⟩;have Ap:p≠a:=fun z=>no (by rw[z];exact own a (by simp));obtain⟨aY,bA⟩:=Cq (H:=aM) (al.mono s2.g);have fn:aE aM (gr ds) (.ref p)=[p]:=by rw[gr,gG oQ,bA]
      have at2:cf F.K cE aM (gr ds) (.ref p):=by simp only[gr,cf];exact⟨p,ys,rfl,oQ,aY⟩
      obtain⟨a6,aW,gx⟩:=JD (k:=n) t6 at2;rw[fn]at aW gx;have np:p∉cj aM aA e1:=fun z=>no (own p (List.mem_cons_of_mem _ z));have tr:=gx pk (by simp) (fun b hb=>by rw[List.mem_singleton.mp hb];exact np);have nan:a∉cj aM (aA.set n (gr ds)) (e1.set n (.ref p)):=fun z=>by
       rcases aW a z with z|z
       ·exact na z
       ·exact Ap (List.mem_singleton.mp z).symm
      obtain⟨dQ,b7⟩:=a6.keep (H':=upd aM a (.lst (e1.set n (.ref p)))) fun b hb=>dr fun z=>nan (by rw[←z];exact hb);have kI:aE (upd aM a (.lst (e1.set n (.ref p)))) (.lst (aA.set n (gr ds))) (.ref a)=a::cj aM (aA.set n (gr ds)) (e1.set n (.ref p)):=by rw[gG dA,b7]
      refine⟨a,e1,j,n,rfl,gB,ng,by rw[←t6.length];exact d5,h _ cE _ (bg.wm bU aj (a:=a) ⟨.ref a,rfl,by rw[dW];simp⟩ ⟨.ref a,rfl,⟨?_,?_,?_⟩⟩ fun b jH=>?_) (s1.trans s2).g⟩
      ·simp only[cf];exact⟨a,_,rfl,dA,dQ⟩
      ·rw[kI];exact List.nodup_cons.mpr ⟨nan,tr⟩
      ·rw[kI];intro b hb;rcases List.mem_cons.mp hb with rfl|hb
       ·exact fL b (by simp)
       ·rcases aW b hb with hb|hb
        ·exact fL b (List.mem_cons_of_mem _ hb)
        ·rw[List.mem_singleton.mp hb];exact⟨zr,zt⟩
      ·obtain⟨u,iw,hb⟩:=jH;cases iw;rw[kI]at hb;rcases List.mem_cons.mp hb with rfl|hb
       ·exact .inl ⟨.ref b,rfl,by rw[dW];simp⟩
       ·rcases aW b hb with hb|hb
        ·exact .inl ⟨.ref a,rfl,by rw[dW];exact List.mem_cons_of_mem _ hb⟩
        ·rw[List.mem_singleton.mp hb];exact .inr no
    |_=>exact h.elim
end
noncomputable def Iz(f:Str→Str→Int):V→List V→ah→cI→Prop:=fun x vs H Q=>∃a b,x=.str a∧vs=[.str b]∧Q (.int (f a b)) H
section
variable{X:aK}
theorem RL:r3 X "str.count" (Iz Txt.count):=by intro pins s σ H x vs v us Q I bt b0 h;obtain⟨a,b,rfl,rfl,q⟩:=h;obtain⟨t,rfl⟩:=bt;obtain⟨u,rfl,ef⟩:=vals1 b0;obtain⟨t',rfl⟩:=ef;exact SC.count ⟨.int _,H,I.tok _,⟨_,rfl⟩,q⟩
end
def Cu(f:Str→Str→Int)(a:Str):D→R D
 |.str b=>.ok (.int (f a b))
 |_=>.bad
def xb(f:Str→Str→Int)(n:aC)(ρ:ak):D→R D
 |.str a=>(n ρ).bind (Cu f a)
 |_=>.bad
def s8(f:Str→Str→Int)(m n:aC):aC:=fun ρ=>(m ρ).bind (xb f n ρ)
section
variable{X:aK}{F:aZ}{o e:Expr}{m n:aC}
theorem X2 {name:Str} {id:String} {f:Str→Str→Int} {apos bC:Pos} (slot:Slot "str" name id) (sO:typeOf (.builtin id)=pure (.type "method_descriptor")) (hm:r3 X id (Iz f)) (ho:aX X F o m) (he:aX X F e n)(hbase:attributeBase o name X.env (eval o X.env)=eval o X.env:=by rfl) (hline:(apos.endLine==bC.line)=true:=by rfl)(hfew:((backTo bC (starEach [e] X.env)).all (fun x=>!x.1)&&(backToKw bC (keywordEach [] X.env)).all (fun x=>x.1.isSome)
    &&decide (([e]:List Expr).length+([]:List Keyword).length+(if([]:List Keyword).isEmpty then 0 else 1)<30))=true:=by rfl)
  (hs:starEach [e] X.env=(false,eval e X.env)::starEach [] X.env:=by rfl) (hplain:(backTo bC (starEach [] X.env)).any (·.1)=false:=by rfl) :
  aX X F (.Call (.Attribute o name apos) [e] [] bC) (s8 f m n):=by
 refine⟨a3.imp (pw PySem.F.plainAttrs_str slot sO hm ho.1 (gb he.1 i3 hs) hbase hfew hline hs hplain) ?_⟩;rintro σ H Q ⟨G,ρ,r,h⟩;unfold s8 at h;refine⟨G,ρ,r,?_⟩;cases ar:m ρ with
 |bad=>rw[ar]at h;exact h.elim
 |exc c=>rw[ar]at h;exact h
 |ok d=>
  rw[ar,R.bl]at h;intro v H1 aN av s1 bf;cases d with
  |str a=>
   simp only[xb]at h;simp only[At]at bf;subst bf;refine⟨rfl,aN,ρ,av,?_⟩;cases bq:n ρ with
   |bad=>rw[bq]at h;exact h.elim
   |exc c=>rw[bq]at h;exact h
   |ok cC=>
    rw[bq,R.bl]at h;intro v2 aM cE bg s2 DF;cases cC with
    |str b=>simp only[At]at DF;subst DF;exact⟨a,b,rfl,rfl,h _ aM cE bg (s1.trans s2) (by simp only[At])⟩
    |_=>exact h.elim
  |_=>exact h.elim
theorem XR {apos bC:Pos} (ho:aX X F o m) (he:aX X F e n)(hbase:attributeBase o "count" X.env (eval o X.env)=eval o X.env:=by rfl) (hline:(apos.endLine==bC.line)=true:=by rfl)(hfew:((backTo bC (starEach [e] X.env)).all (fun x=>!x.1)&&(backToKw bC (keywordEach [] X.env)).all (fun x=>x.1.isSome)
    &&decide (([e]:List Expr).length+([]:List Keyword).length+(if([]:List Keyword).isEmpty then 0 else 1)<30))=true:=by rfl)
  (hs:starEach [e] X.env=(false,eval e X.env)::starEach [] X.env:=by rfl) (hplain:(backTo bC (starEach [] X.env)).any (·.1)=false:=by rfl) :
  aX X F (.Call (.Attribute o "count" apos) [e] [] bC) (s8 Txt.count m n):=X2 PySem.F.slot_str_count PySem.F.type_str_count RL ho he hbase hline hfew hs hplain
end
noncomputable def vP(i:Nat)(ma:aP):a8:=fun ρ=>(il i ρ).bind fun aA=>(ma ρ).bind fun ds=>if aA.length<1000000 then .ok (.bj (ρ.set i (.bG (.lst (aA++[gr ds])))))else .bad
section
variable{X:aK}{F:aZ}{e:Expr}{ma:aP}
theorem Yd (i:Nat) {x:Str} {aH:Pos} {apos bC rB:Pos} (he:j2 X F e ma) (hN:X.N[i]?=some x:=by rfl) (hv:eC X.env.scope x:=by first|exact Or.inl rfl|exact Or.inr (Or.inl rfl)|exact Or.inr (Or.inr rfl)) (hd:(x==("__debug__" :Str))=false:=by decide) (hcd:(x==("__classdict__" :Str))=false:=by decide)(hbase:attributeBase (.Name x aH) "append" X.env (eval (.Name x aH) X.env)=eval (.Name x aH) X.env:=by rfl) (hline:(apos.endLine==bC.line)=true:=by rfl)(hfew:((backTo bC (starEach [e] X.env)).all (fun x=>!x.1)&&(backToKw bC (keywordEach [] X.env)).all (fun x=>x.1.isSome)
    &&decide (([e]:List Expr).length+([]:List Keyword).length+(if([]:List Keyword).isEmpty then 0 else 1)<30))=true:=by rfl)
  (hs:starEach [e] X.env=(false,eval e X.env)::starEach [] X.env:=by rfl) (hplain:(backTo bC (starEach [] X.env)).any (·.1)=false:=by rfl) :
  eL X F (.Expr (.Call (.Attribute (.Name x aH) "append" apos) [e] [] bC) rB) (vP i ma):=by
 refine⟨cU.imp (ro (pw PySem.F.plainAttrs_list PySem.F.slot_list_append PySem.F.type_list_append tn (hI hN hv hd hcd) (gb he.1 i3 hs) hbase hfew hline hs hplain) (jt _ _ _ _ rfl)) ?_⟩;rintro bO σ H ⟨G,ρ,r,h⟩;unfold vP at h;cases cq:il i ρ with
 |bad=>rw[cq]at h;exact h.elim
 |exc c=>exact(w9 cq).elim
 |ok aA=>
  rw[cq,R.bl]at h;have bU:=w_ cq;obtain⟨a,xs,aj,ha,wl,aQ⟩:=r.root bU;refine⟨.ref a,aj,.inl ⟨rfl,xs,bS.of ha⟩,G,ρ,r,?_⟩;cases ar:ma ρ with
  |bad=>rw[ar]at h;exact h.elim
  |exc c=>rw[ar]at h;exact h
  |ok ds=>
   rw[ar,R.bl]at h;intro p ys aM cE bg s2 aJ oQ zr al;by_cases hl:aA.length<1000000
   ·rw[if_pos hl]at h;obtain⟨v2,ax,ey,eI,fL⟩:=bg.tree bU;rw[aj]at ax;cases ax;simp only[cf]at ey;obtain⟨a2,e1,y1,ng,t6⟩:=ey;cases y1;have dW:aE aM (.lst aA) (.ref a)=a::cj aM aA e1:=gG ng;rw[dW]at eI fL;obtain⟨na,pk⟩:=List.nodup_cons.mp eI;have zt:F.bL p=none:=r.aL.hh.gone aJ;have no:¬cP aM σ ρ p:=cP.fresh r s2.h aJ;have own:∀b∈a::cj aM aA e1,cP aM σ ρ b:=fun b hb=>⟨i,_,_,bU,aj,.ref a,rfl,by rw[dW];exact hb⟩;have Ap:p≠a:=fun z=>no (by rw[z];exact own a (by simp));obtain⟨aY,bA⟩:=Cq (H:=aM) al;have fn:aE aM (gr ds) (.ref p)=[p]:=by rw[gr,gG oQ,bA]
    have at2:cf F.K cE aM (gr ds) (.ref p):=by simp only[gr,cf];exact⟨p,ys,rfl,oQ,aY⟩
    have np:p∉cj aM aA e1:=fun z=>no (own p (List.mem_cons_of_mem _ z));obtain⟨a6,aW⟩:=t6.append (us:=[gr ds]) (ws:=[.ref p]) (.cons at2 .nil);have va:cj aM (aA++[gr ds]) (e1++[.ref p])=cj aM aA e1++[p]:=by rw[aW,fP,lu,fn,List.append_nil]
    have nan:a∉cj aM (aA++[gr ds]) (e1++[.ref p]):=fun z=>by
     rw[va]at z;rcases List.mem_append.mp z with z|z
     ·exact na z
     ·exact Ap (List.mem_singleton.mp z).symm
    obtain⟨dQ,b7⟩:=a6.keep (H':=upd aM a (.lst (e1++[.ref p]))) fun b hb=>dr fun z=>nan (by rw[←z];exact hb);have kI:aE (upd aM a (.lst (e1++[.ref p]))) (.lst (aA++[gr ds])) (.ref a)=a::(cj aM aA e1++[p]):=by rw[gG dA,b7,va]
    refine⟨a,e1,.ref p,rfl,rfl,ng,by rw[←t6.length];exact Nat.lt_trans hl (by decide),h _ cE _ (bg.wm bU aj (a:=a) ⟨.ref a,rfl,by rw[dW];simp⟩ ⟨.ref a,rfl,⟨?_,?_,?_⟩⟩ fun b jH=>?_) s2.g⟩
    ·simp only[cf];exact⟨a,_,rfl,dA,dQ⟩
    ·rw[kI,←va];refine List.nodup_cons.mpr ⟨nan,?_⟩;rw[va];exact List.nodup_append.mpr ⟨pk,by simp,fun b hb c hc z=>np (by rw[←List.mem_singleton.mp hc,←z];exact hb)⟩
    ·rw[kI];intro b hb;rcases List.mem_cons.mp hb with rfl|hb
     ·exact fL b (by simp)
     ·rcases List.mem_append.mp hb with hb|hb
      ·exact fL b (List.mem_cons_of_mem _ hb)
      ·rw[List.mem_singleton.mp hb];exact⟨zr,zt⟩
    ·obtain⟨u,iw,hb⟩:=jH;cases iw;rw[kI]at hb;rcases List.mem_cons.mp hb with rfl|hb
     ·exact .inl ⟨.ref b,rfl,by rw[dW];simp⟩
     ·rcases List.mem_append.mp hb with hb|hb
      ·exact .inl ⟨.ref a,rfl,by rw[dW];exact List.mem_cons_of_mem _ hb⟩
      ·rw[List.mem_singleton.mp hb];exact .inr no
   ·rw[if_neg hl]at h;exact h.elim
end
@[simp] theorem dH{α β:Type}(a:α)(k:α→R β):(R.ok a).bind k=k a:=(rfl)
@[simp] theorem abo{α β:Type}(k:α→R β):(R.bad:R α).bind k=.bad:=(rfl)
@[simp] theorem abp{α β:Type}(c:Str)(k:α→R β):(R.exc c:R α).bind k=.exc c:=(rfl)
def lO(b:a8):fl→R fl
 |.bj ρ=>b ρ
 |f=>.ok f
@[simp] theorem CE(a b:a8)(ρ:ak):a4 a b ρ=(a ρ).bind (lO b):=by unfold a4;congr 1
@[simp] theorem B8(b:a8)(ρ:ak):lO b (.bj ρ)=b ρ:=(rfl)
@[simp] theorem aab(b:a8)(d:D):lO b (.dh d)=.ok (.dh d):=(rfl)
@[simp] theorem aaa(b:a8)(d:List D):lO b (.i6 d)=.ok (.i6 d):=(rfl)
def wG:Option cp→R D
 |some (.aq d)=>.ok d
 |_=>.bad
@[simp] theorem v_var(i:Nat)(ρ:ak):J i ρ=wG ρ[i]?:=by unfold J wG;rfl
@[simp] theorem Ux(d:D):wG (some (.aq d))=.ok d:=(rfl)
@[simp] theorem CB(d:D)(ρ:ak):au d ρ=.ok d:=(rfl)
@[simp] theorem Xf(f:D→D→R D)(a b:aC)(ρ:ak):ai f a b ρ=(a ρ).bind fun x=>(b ρ).bind fun y=>f x y:=(rfl)
@[simp] theorem abk(f:D→R D)(a:aC)(ρ:ak):eX f a ρ=(a ρ).bind f:=(rfl)
@[simp] theorem xh(ρ:ak):aw ρ=.ok []:=(rfl)
@[simp] theorem CC(a:aC)(r:aP)(ρ:ak):af a r ρ=(a ρ).bind fun x=>(r ρ).bind fun xs=>.ok (x::xs):=(rfl)
def rK(xs:List D):R D:=if xs.length≤1000000 then .ok (.tup xs)else .bad
@[simp] theorem JM(m:aP)(ρ:ak):dJ m ρ=(m ρ).bind rK:=(rfl)
@[simp] theorem aai{xs:List D}(h:xs.length≤1000000):rK xs=.ok (.tup xs):=if_pos h
@[simp] theorem aaK(m:aP)(ρ:ak):c4 m ρ=(m ρ).bind fun xs=>.ok (.lst xs):=(rfl)
@[simp] theorem Xk(m:aP)(ρ:ak):eV m ρ=(m ρ).bind lim:=(rfl)
@[simp] theorem aan(m:aC)(ρ:ak):bc m ρ=(m ρ).bind je:=(rfl)
@[simp] theorem YM(b:Bool):je (.aD b)=.ok b:=(rfl)
@[simp] theorem v_and(a b:b4)(ρ:ak):iE a b ρ=(a ρ).bind fun c=>if c=true then b ρ else .ok false:=(rfl)
@[simp] theorem v_or(a b:b4)(ρ:ak):fg a b ρ=(a ρ).bind fun c=>if c=true then .ok true else b ρ:=(rfl)
@[simp] theorem v_not(a:b4)(ρ:ak):eO a ρ=(a ρ).bind fun c=>.ok (!c):=(rfl)
@[simp] theorem aao(a b:aC)(ρ:ak):lE a b ρ=(a ρ).bind fun x=>(je x).bind fun c=>if c=true then b ρ else .ok (.aD false):=(rfl)
@[simp] theorem Xj(c:b4)(a b:a8)(ρ:ak):c9 c a b ρ=(c ρ).bind fun k=>if k=true then a ρ else b ρ:=(rfl)
@[simp] theorem aa1(ρ:ak):dg ρ=.ok (.bj ρ):=(rfl)
@[simp] theorem abb(a:aC)(ρ:ak):cw a ρ=(a ρ).bind fun d=>.ok (.dh d):=(rfl)
@[simp] theorem abd(a:aP)(ρ:ak):g5 a ρ=(a ρ).bind fun d=>.ok (.i6 d):=(rfl)
@[simp] theorem Xp(i:Nat)(d:D)(ρ:ak):bB i d ρ=if i<ρ.length then .ok (ρ.set i (.aq d))else .bad:=(rfl)
@[simp] theorem abe(i:Nat)(a:aC)(ρ:ak):cR i a ρ=(a ρ).bind fun d=>(bB i d ρ).bind fun bh=>.ok (.bj bh):=(rfl)
@[simp] theorem Xo(i:Nat)(a:aP)(ρ:ak):fH i a ρ=(a ρ).bind fun ds=>if i<ρ.length then .ok (.bj (ρ.set i (.c_ ds)))else .bad:=(rfl)
@[simp] theorem abf(i:Nat)(a:eQ)(ρ:ak):q5 i a ρ=(a ρ).bind fun x=>(bB i x.1 x.2).bind fun bh=>.ok (.bj bh):=(rfl)
@[simp] theorem aaI(a:eQ)(ρ:ak):o3 a ρ=(a ρ).bind fun x=>.ok (.bj x.2):=(rfl)
@[simp] theorem aaC(f:List D→R D)(m:aP)(ρ:ak):ct f m ρ=(m ρ).bind f:=(rfl)
@[simp] theorem aav(n:Nat)(mf:List D→R b1)(m:aP)(ρ:ak):b8 n mf m ρ=(m ρ).bind fun ds=>if ds.length=n then(mf ds).bind kV else .bad:=(rfl)
@[simp] theorem aaw(n:Nat)(mf:List D→R b1)(m:aP)(ρ:ak):fV n mf m ρ=(m ρ).bind fun ds=>if ds.length=n then(mf ds).bind A1 else .bad:=(rfl)
theorem JL(mi:aP)(set:D→ak→R ak)(body:a8)(ρ:ak):d7 mi set body ρ=(mi ρ).bind fun ds=>gX set body ds ρ:=(rfl)
@[simp] theorem aa_(m:aP)(ρ:ak):eW m ρ=(m ρ).bind lJ:=(rfl)
@[simp] theorem aaM(m:aC)(ρ:ak):g4 m ρ=(m ρ).bind wR:=(rfl)
@[simp] theorem v_bor(m:aC)(ρ:ak):nz m ρ=(m (dF ρ)).bind tA:=(rfl)
@[simp] theorem aau(m:b4)(ρ:ak):gH m ρ=m (dF ρ):=(rfl)
theorem JK(nl:Nat)(caps:List Nat)(mi:aP)(set:D→ak→R ak)(tst:b4)(elt:aC)(ρ:ak):d6 nl caps mi set tst elt ρ=(mi ρ).bind fun ds=>iG (fN set tst elt ds (lj nl caps ρ) []):=(rfl)
@[simp] theorem YJ(i j:Int):d9 (.int i) (.int j)=.ok (.int (i+j)):=(rfl)
@[simp] theorem aad(i j:Int):mC (.int i) (.int j)=.ok (.int (i-j)):=(rfl)
@[simp] theorem ZM{i j:Int}(h1: -18446744073709551616<i)(h2:i<18446744073709551616):mx (.int i) (.int j)=.ok (.int (i*j)):=if_pos (Or.inl ⟨h1,h2⟩)
@[simp] theorem mul_r{i j:Int}(h1: -18446744073709551616<j)(h2:j<18446744073709551616):mx (.int i) (.int j)=.ok (.int (i*j)):=if_pos (Or.inr ⟨h1,h2⟩)
@[simp] theorem Nw{i j:Int}(h1:0<j)(h2:j<1073741824):eU (.int i) (.int j)=.ok (.int (i/j)):=if_pos ⟨h1,h2⟩
@[simp] theorem Hp{i j:Int}(h:0<j):dN (.int i) (.int j)=.ok (.int (i%j)):=if_pos h
@[simp] theorem ZY{i:Int}{j:Nat}(h:j≤1000000)(h1: -1000000<i)(h2:i<1000000):nP (.int i) (.int (j:Int))=.ok (.int (i^j)):=by have:rW i (j:Int):=⟨by omega,by omega,by omega⟩;simp only[nP,hB,if_pos this,Int.toNat_natCast]
@[simp] theorem ZF(i j:Int):lD (.int i) (.int j)=.ok (.aD (decide (i<j))):=(rfl)
@[simp] theorem Zx(i j:Int):kP (.int i) (.int j)=.ok (.aD (decide (i≤j))):=(rfl)
@[simp] theorem Zd(i j:Int):qs (.int i) (.int j)=.ok (.aD (decide (j<i))):=(rfl)
@[simp] theorem Y1(i j:Int):bR true (.int i) (.int j)=.ok (.aD (i==j)):=(rfl)
@[simp] theorem ZN(i j:Int):bR false (.int i) (.int j)=.ok (.aD (!(i==j))):=(rfl)
@[simp] theorem Zy(xs:List D):df [.lst xs]=.ok (.int xs.length):=(rfl)
@[simp] theorem ZA(xs:List D):df [.tup xs]=.ok (.int xs.length):=(rfl)
@[simp] theorem Zz(xs:List D):df [.bY xs]=.ok (.int xs.length):=(rfl)
@[simp] theorem UJ(d:D):kV (.v d)=.ok d:=(rfl)
@[simp] theorem Z3(ds:List D):kV (.o ds)=.ok (.lst ds):=(rfl)
@[simp] theorem Z1(ds:List D):A1 (.o ds)=.ok ds:=(rfl)
@[simp] theorem ZV(d:D):outD (.dh d)=.ok (.v d):=(rfl)
@[simp] theorem ZU(d:List D):outD (.i6 d)=.ok (.o d):=(rfl)
@[simp] theorem Xg(N:Nat)(m:a8)(ds:List D):cZ N m ds=(m (jO N ds)).bind outD:=(rfl)
def Az:Option cp→R (List D)
 |some (.c_ ds)=>.ok ds
 |_=>.bad
@[simp] theorem aa5(i:Nat)(ρ:ak):ownAt i ρ=Az ρ[i]?:=by unfold ownAt Az;rfl
@[simp] theorem ZW(ds:List D):Az (some (.c_ ds))=.ok ds:=(rfl)
@[simp] theorem Y4(set:D→ak→R ak)(body:a8)(ρ:ak):gX set body [] ρ=.ok (.bj ρ):=(rfl)
theorem FI{set:D→ak→R ak}{body:a8}(I:Nat→ak→Prop):∀(ds:List D)(i:Nat)(ρ:ak),(∀(j:Nat) d ρ,ds[j]?=some d→I (i+j) ρ→∃dn bh,set d ρ=.ok dn∧body dn=.ok (.bj bh)∧I (i+j+1) bh)→I i ρ→∃bh,gX set body ds ρ=.ok (.bj bh)∧I (i+ds.length) bh
 |[],i,ρ,_,h=>⟨ρ,rfl,h⟩
 |d::ds,i,ρ,st,h=>by
  obtain⟨dn,dR,aj,ax,h2⟩:=st 0 d ρ rfl h;obtain⟨bh,bE,h3⟩:=FI I ds (i+1) dR (fun j d ρ e hi=>by obtain⟨a,b,ck,eE,gT⟩:=st (j+1) d ρ (by simpa using e) (by rw[show i+(j+1)=i+1+j by omega];exact hi);exact⟨a,b,ck,eE,by rw[show i+1+j+1=i+(j+1)+1 by omega];exact gT⟩) (by simpa using h2)
  refine⟨bh,?_,by rw[List.length_cons,show i+(ds.length+1)=i+1+ds.length by omega];exact h3⟩;rw[gX,aj,dH,ax,dH];exact bE
theorem Nz{mi:aP}{set:D→ak→R ak}{body:a8}{ds:List D}{ρ:ak}(I:Nat→ak→Prop)(hi:mi ρ=.ok ds)(st:∀(j:Nat) d ρ,ds[j]?=some d→I j ρ→∃dn bh,set d ρ=.ok dn∧body dn=.ok (.bj bh)∧I (j+1) bh)(h:I 0 ρ):∃bh,d7 mi set body ρ=.ok (.bj bh)∧I ds.length bh:=by obtain⟨bh,e,h'⟩:=FI I ds 0 ρ (fun j d ρ e cF=>by rw[Nat.zero_add]at cF ⊢;exact st j d ρ e cF) h;rw[Nat.zero_add]at h';exact⟨bh,by rw[JL,hi,dH,e],h'⟩
@[simp] theorem YQ(d:D):gC (.aq d)=.aq d:=(rfl)
noncomputable def xY(i:Nat)(ρ:ak)(ds:List D)(d:D):R fl:=if ds.length<1000000 then .ok (.bj (ρ.set i (.c_ (ds++[d]))))else .bad
@[simp] theorem YL{i:Nat}{ρ:ak}{ds:List D}{d:D}(h:ds.length<1000000):xY i ρ ds d=.ok (.bj (ρ.set i (.c_ (ds++[d])))):=if_pos h
@[simp] theorem aap(i:Nat)(m:aC)(ρ:ak):jn i m ρ=(ownAt i ρ).bind fun ds=>(m ρ).bind fun d=>xY i ρ ds d:=(rfl)
@[simp] theorem aar(i:Nat)(m:eQ)(ρ:ak):sX i m ρ=(ownAt i ρ).bind fun _=>(m ρ).bind fun x=>(ownAt i x.2).bind fun ds=>xY i x.2 ds x.1:=(rfl)
@[simp] theorem aaS(m:aC)(ρ:ak):lf m ρ=(m ρ).bind fun d=>.ok (d,ρ):=(rfl)
@[simp] theorem aaT(m:aP)(ρ:ak):qL m ρ=(m ρ).bind fun d=>.ok (d,ρ):=(rfl)
@[simp] theorem aaE(a:eQ)(r:iN)(ρ:ak):o2 a r ρ=(a ρ).bind fun x=>(r x.2).bind fun y=>.ok (x.1::y.1,y.2):=(rfl)
@[simp] theorem abj(m:iN)(ρ:ak):pa m ρ=(m ρ).bind fun x=>(rK x.1).bind fun d=>.ok (d,x.2):=by
  unfold pa rK
  congr 1;funext x
  split<;>rfl
noncomputable def EG(i:Nat)(ds:List D)(ρ:ak):D→R (D×ak)
 |.lst ag=>if ds.length+ag.length≤1000000 then .ok (.non,ρ.set i (.c_ (ds++ag)))else .bad
 |_=>.bad
@[simp] theorem aaJ(i:Nat)(m:aC)(ρ:ak):Hj i m ρ=(ownAt i ρ).bind fun ds=>(m ρ).bind fun d=>EG i ds ρ d:=by unfold Hj;congr 1
@[simp] theorem Y3{i:Nat}{ds ag:List D}{ρ:ak}(h:ds.length+ag.length≤1000000):EG i ds ρ (.lst ag)=.ok (.non,ρ.set i (.c_ (ds++ag))):=if_pos h
noncomputable def wC(i:Nat)(ds:List D)(ρ:ak):D→R (D×ak)
 |.int k=>if-(2^63)≤k∧k<2^63 then match seqIndex? k ds.length with
  |some j=>match ds[j]? with
   |some y=>.ok (y,ρ.set i (.c_ (ds.eraseIdx j)))
   |none=>.bad
  |none=>.bad
  else .bad
 |_=>.bad
@[simp] theorem aa6(i:Nat)(m:aC)(ρ:ak):o7 i m ρ=(ownAt i ρ).bind fun ds=>(m ρ).bind fun d=>wC i ds ρ d:=by unfold o7;congr 1
theorem TS{i:Nat}{ds:List D}{ρ:ak}{k:Nat}(h:k<ds.length)(hl:ds.length<1000000):wC i ds ρ (.int (k:Int))=.ok (ds[k],ρ.set i (.c_ (ds.eraseIdx k))):=by
 have eD: -(2^63)≤(k:Int):=Int.le_trans (by decide) (Int.natCast_nonneg k);have d0:(k:Int)<2^63:=Int.lt_trans (b:=1000000) (by omega) (by decide);have s:seqIndex? (k:Int) ds.length=some k:=by rw[PySem.seqIndex_of (by omega) (by omega)];simp
 simp only[wC,if_pos (And.intro eD d0),s,List.getElem?_eq_getElem h]
noncomputable def PM(i:Nat)(ds:List D)(ρ:ak)(y:D):D→R (D×ak)
 |.int k=>if 0≤k∧k<2^63∧ds.length<1000000 then .ok (.non,ρ.set i (.c_ (ds.take (min k.toNat ds.length)++y::ds.drop (min k.toNat ds.length))))else .bad
 |_=>.bad
@[simp] theorem aaO(i:Nat)(m n:aC)(ρ:ak):Hk i m n ρ=(ownAt i ρ).bind fun ds=>(m ρ).bind fun d=>(n ρ).bind fun y=>PM i ds ρ y d:=by unfold Hk;congr 1
@[simp] theorem aaU(m:aP)(ρ:ak):Rt m ρ=(m ρ).bind vM:=(rfl)
@[simp] theorem Xl(m:aP)(ρ:ak):iZ m ρ=(m ρ).bind nv:=(rfl)
@[simp] theorem aaP(m:aC)(ρ:ak):o6 m ρ=(m ρ).bind Cw:=(rfl)
@[simp] theorem Xs(set:D→ak→R ak)(m:aC)(ρ:ak):mn set m ρ=(m ρ).bind fun d=>(set d ρ).bind fun bh=>.ok (.bj bh):=(rfl)
@[simp] theorem CD(m:aC)(ρ:ak):ig m ρ=(m (dF ρ)).bind fun d=>.ok (.dh d):=(rfl)
@[simp] theorem aa3(a:aC)(ρ:ak):q0 a ρ=(a ρ).bind fun x=>(je x).bind fun c=>.ok (.aD (!c)):=(rfl)
@[simp] theorem VD(ds:List D):wR (.lst ds)=.ok ds:=(rfl)
@[simp] theorem aaj(ds:List D):Cw (.tup ds)=.ok ds:=(rfl)
@[simp] theorem ZD(ds:List D):nv [.lst ds]=.ok ds:=(rfl)
@[simp] theorem ZC{xs:List D}(h:xs.length≤1000000):lim xs=.ok xs:=if_pos h
@[simp] theorem Zb:dF []=[]:=(rfl)
@[simp] theorem Za(s:cp)(ρ:ak):dF (s::ρ)=l_ s::dF ρ:=(rfl)
@[simp] theorem Y7(d:D):l_ (.aq d)=.aq d:=(rfl)
@[simp] theorem Y_:l_ .un=.un:=(rfl)
@[simp] theorem Y8(ds:List D):l_ (.aR (.lst ds))=.aq (.lst ds):=(rfl)
@[simp] theorem ZS(i:Int):tA (.int i)=.ok (.int i):=(rfl)
@[simp] theorem ZR(i:Bool):tA (.aD i)=.ok (.aD i):=(rfl)
@[simp] theorem ZP{α:Type}(a:α):iG (R.ok a)=.ok a:=(rfl)
def CJ:Option cp→R (List D)
 |some (.aR (.lst ds))=>.ok ds
 |_=>.bad
@[simp] theorem abl(i:Nat)(ρ:ak):mq i ρ=CJ ρ[i]?:=by unfold mq CJ;rfl
@[simp] theorem abq(ds:List D):CJ (some (.c_ ds))=.ok ds:=(rfl)
@[simp] theorem aaD(f g:D→D→R D)(a b c:aC)(ρ:ak):iY f g a b c ρ=(a ρ).bind fun x=>(b ρ).bind fun y=>(f x y).bind fun z=>(je z).bind fun k=>if k=true then(c ρ).bind fun w=>g y w else .ok (.aD false):=(rfl)
@[simp] theorem Zp(N:Nat)(ds:List D):jO N ds=ds.map .aq++List.replicate (N-ds.length) .un:=(rfl)
theorem iC{xs:List D}{k:Nat}{d:D}(h:xs[k]?=some d):az (.lst xs) (.int (k:Int))=.ok d:=by
 have hk:=(List.getElem?_eq_some_iff.mp h).1;have e:eM xs (k:Int)=some d:=by unfold eM eF;rw[if_pos (by omega),if_pos (by omega)];simpa using h
 simp only[az,e]
theorem P8{xs:List D}{k:Nat}{d:D}(h:xs[k]?=some d):az (.bY xs) (.int (k:Int))=.ok d:=by
 have hk:=(List.getElem?_eq_some_iff.mp h).1;have e:eM xs (k:Int)=some d:=by unfold eM eF;rw[if_pos (by omega),if_pos (by omega)];simpa using h
 simp only[az,e]
theorem P9{xs:List D}{k:Nat}{d:D}(h:xs[k]?=some d):az (.tup xs) (.int (k:Int))=.ok d:=by
 have hk:=(List.getElem?_eq_some_iff.mp h).1;have e:eM xs (k:Int)=some d:=by unfold eM eF;rw[if_pos (by omega),if_pos (by omega)];simpa using h
 simp only[az,e]
theorem kO{ys:List Int}{k:Nat}(h:k<ys.length):az (.lst (ys.map D.int)) (.int (k:Int))=.ok (.int ys[k]):=iC (by simp[h])
theorem jq(x:Int){n:Nat}(h:0<n):∃k:Nat,k<n∧x%(n:Int)=(k:Int):=by have h0:0≤x%(n:Int):=Int.emod_nonneg _ (by omega);have h1:x%(n:Int)<(n:Int):=Int.emod_lt_of_pos _ (by omega);obtain⟨k,e⟩:=Int.eq_ofNat_of_zero_le h0;exact⟨k,by omega,e⟩
@[simp] theorem Z0(n:Nat)(h:n<1000000):lJ [.int (n:Int)]=.ok (fI 0 n):=by have: -(2^62)≤(n:Int)∧(n:Int)<2^62:=⟨by omega,by omega⟩;simp only[lJ,if_pos this,Int.toNat_natCast]
theorem Ut{n j:Nat}{d:D}(h:(fI 0 n)[j]?=some d):j<n∧d=.int (j:Int):=by
 unfold fI at h;rw[List.getElem?_map]at h;cases e:(List.range n)[j]? with
 |none=>rw[e]at h;cases h
 |some k=>
  rw[e]at h;have cF:j<n:=by have:=(List.getElem?_eq_some_iff.mp e).1;simpa using this
  rw[List.getElem?_range cF]at e;cases e;simp at h;exact⟨cF,h.symm⟩
@[simp] theorem Uu(a:Int)(n:Nat):(fI a n).length=n:=by simp[fI]
@[simp] theorem abn{α β YE:Type}(r:R α)(f:α→R β)(g:β→R YE):(r.bind f).bind g=r.bind fun x=>(f x).bind g:=by cases r<;>rfl
def Ends{β:Type}(r:R β)(T:β→Prop):Prop:=∃b,r=.ok b∧T b
@[simp] theorem YZ{β:Type}(b:β)(T:β→Prop):Ends (.ok b) T=T b:=propext ⟨fun⟨c,e,h⟩=>by cases e;exact h,fun h=>⟨b,rfl,h⟩⟩
@[simp] theorem YY{β:Type}(T:β→Prop):Ends (.bad) T=False:=propext ⟨fun⟨c,e,h⟩=>(by cases e),False.elim⟩
theorem Ends.bind{α β:Type}{r:R α}{k:α→R β}{S:α→Prop}{T:β→Prop}(h:Ends r S)(f:∀b,S b→Ends (k b) T):Ends (r.bind k) T:=by obtain⟨b,rfl,hb⟩:=h;exact f b hb
def oe(I:ak→Prop)(f:fl):Prop:=∃ρ,f=.bj ρ∧I ρ
@[simp] theorem YG(I:ak→Prop)(ρ:ak):oe I (.bj ρ)=I ρ:=propext ⟨fun⟨r,e,h⟩=>by cases e;exact h,fun h=>⟨ρ,rfl,h⟩⟩
theorem Ey{β:Type}{mi:aP}{set:D→ak→R ak}{body:a8}{ds:List D}{ρ:ak}{k:fl→R β}{T:β→Prop}(I:Nat→ak→Prop)(hi:mi ρ=.ok ds)(h0:I 0 ρ)(st:∀(j:Nat) d ρ,ds[j]?=some d→I j ρ→Ends ((set d ρ).bind body) (oe (I (j+1))))(fin:∀bh,I ds.length bh→Ends (k (.bj bh)) T):Ends ((d7 mi set body ρ).bind k) T:=by
 obtain⟨bh,e,h⟩:=Nz (body:=body) (set:=set) (mi:=mi) I hi (fun j d ρ hd kK=>by
  obtain⟨b,e,bh,rfl,h⟩:=st j d ρ hd kK;cases ag:set d ρ with
  |bad=>rw[ag]at e;cases e
  |exc c=>rw[ag]at e;cases e
  |ok dn=>rw[ag,dH]at e;exact⟨dn,bh,rfl,e,h⟩) h0
 rw[e,dH];exact fin bh h
def I8(i:Nat):fl→R fl
 |.bj bh=>.ok (.bj (ji i bh))
 |f=>.ok f
@[simp] theorem abg(i:Nat)(a:aP)(ρ:ak):nE i a ρ=(fH i a ρ).bind (I8 i):=by unfold nE;congr 1
@[simp] theorem aac(i:Nat)(ρ:ak):I8 i (.bj ρ)=.ok (.bj (ji i ρ)):=(rfl)
noncomputable def yO(ds:List D):D→R (List D)
 |.lst ag=>if ds.length+ag.length≤1000000 then .ok (ds++ag)else .bad
 |_=>.bad
@[simp] theorem YP{ds ag:List D}(h:ds.length+ag.length≤1000000):yO ds (.lst ag)=.ok (ds++ag):=if_pos h
noncomputable def D2:D→D→R (List D)
 |.lst ds,.lst ag=>if ds.length+ag.length≤1000000 then .ok (ds++ag)else .bad
 |_,_=>.bad
@[simp] theorem YO{ds ag:List D}(h:ds.length+ag.length≤1000000):D2 (.lst ds) (.lst ag)=.ok (ds++ag):=if_pos h
@[simp] theorem aaz(m n:aC)(ρ:ak):Hh m n ρ=(m ρ).bind fun c=>(n ρ).bind fun d=>D2 c d:=by unfold Hh;congr 1
@[simp] theorem aaB(i:Nat)(m:aC)(ρ:ak):qT i m ρ=(ownAt i ρ).bind fun ds=>(m ρ).bind fun d=>yO ds d:=by unfold qT;congr 1
@[simp] theorem aaA(ma:aP)(m:aC)(ρ:ak):Hi ma m ρ=(ma ρ).bind fun ds=>(m ρ).bind fun d=>yO ds d:=by unfold Hi;congr 1
@[simp] theorem Xq(f:D→Option Int→Option Int→R D)(m:aC)(lo hi:jc)(ρ:ak):jS f m lo hi ρ=(m ρ).bind fun d=>(lo ρ).bind fun l=>(hi ρ).bind fun h=>f d l h:=(rfl)
def zl(i:Nat)(ρ:ak):Option cp→ak
 |some (.aR o)=>ρ.set i (.aq (lG o))
 |_=>ρ
@[simp] theorem Y6(i:Nat)(ρ:ak):ji i ρ=zl i ρ ρ[i]?:=by unfold ji zl;rfl
@[simp] theorem Y5(i:Nat)(ρ:ak)(ds:List D):zl i ρ (some (.c_ ds))=ρ.set i (.aq (.lst ds)):=(rfl)
@[simp] theorem Xm(ρ:ak):qZ ρ=.ok none:=(rfl)
@[simp] theorem Xn(m:aC)(ρ:ak):mm m ρ=(m ρ).bind intD:=(rfl)
@[simp] theorem Zs(i:Int):intD (.int i)=.ok (some i):=(rfl)
theorem qp{β α:Type}{mi:aP}{elt:aC}{tst:b4}{caps:List Nat}{ρ:ak}{k:List D→R β}{T:β→Prop}(g:α→D)(xs:List α)(p:α→Bool)(f:α→D)(hi:mi ρ=.ok (xs.map g))(hl:xs.length≤1000)(ht:∀a∈xs,tst (.aq (g a)::caps.map fun j=>gC (ρ.getD j .un))=.ok (p a))(h:∀a∈xs,p a=true→elt (.aq (g a)::caps.map fun j=>gC (ρ.getD j .un))=.ok (f a))(fin:Ends (k ((xs.filter p).map f)) T):Ends ((d6 1 caps mi (bB 0) tst elt ρ).bind k) T:=by
 have go:∀(xs:List α)(ws:List D)(s0:cp),ws.length+xs.length≤1000000→(∀a∈xs,tst (.aq (g a)::caps.map fun j=>gC (ρ.getD j .un))=.ok (p a))→(∀a∈xs,p a=true→elt (.aq (g a)::caps.map fun j=>gC (ρ.getD j .un))=.ok (f a))→fN (bB 0) tst elt (xs.map g) (s0::caps.map fun j=>gC (ρ.getD j .un)) ws=.ok (ws++(xs.filter p).map f):=by
  intro xs;induction xs with
  |nil=>intro ws s0 _ _ _;simp[fN]
  |cons a xs b6=>
   intro ws s0 hl ht h;simp only[List.length_cons]at hl;have bU:bB 0 (g a) (s0::caps.map fun j=>gC (ρ.getD j .un))=.ok (.aq (g a)::caps.map fun j=>gC (ρ.getD j .un)):=by simp
   rw[List.map_cons,fN,bU,dH,ht a (by simp),dH];cases e:p a with
   |true=>simp only[if_true,h a (by simp) e,dH,if_pos (show ws.length<1000000 by omega)];rw[b6 (ws++[f a]) _ (by simp;omega) (fun x hx=>ht x (by simp[hx])) fun x hx=>h x (by simp[hx])];simp[e]
   |false=>simp only[Bool.false_eq_true,if_false];rw[b6 ws _ (by omega) (fun x hx=>ht x (by simp[hx])) fun x hx=>h x (by simp[hx])];simp[e]
 rw[JK,hi,dH];have e:=go xs [] .un (by simp;omega) ht h;have:iG (fN (bB 0) tst elt (xs.map g) (lj 1 caps ρ) [])=.ok ((xs.filter p).map f):=by show iG (fN (bB 0) tst elt (xs.map g) (.un::caps.map fun j=>gC (ρ.getD j .un)) [])=_;rw[e];rfl
 rw[this,dH];exact fin
theorem oH{β α:Type}{mi:aP}{elt:aC}{caps:List Nat}{ρ:ak}{k:List D→R β}{T:β→Prop}(g:α→D)(xs:List α)(f:α→D)(hi:mi ρ=.ok (xs.map g))(hl:xs.length≤1000)(h:∀a∈xs,elt (.aq (g a)::caps.map fun j=>gC (ρ.getD j .un))=.ok (f a))(fin:Ends (k (xs.map f)) T):Ends ((d6 1 caps mi (bB 0) fh elt ρ).bind k) T:=
 qp g xs (fun _=>true) f hi hl (fun _ _=>rfl) (fun a ha _=>h a ha) (by rw[List.filter_eq_self.mpr fun _ _=>rfl];exact fin)
theorem nT(n:Nat):fI 0 n=(List.range n).map fun(i:Nat)=>.int (i:Int):=by simp[fI]
theorem u4{β:Type}{mi:aP}{elt:aC}{caps:List Nat}{ρ:ak}{k:List D→R β}{T:β→Prop}(n:Nat)(f:Nat→D)(hi:mi ρ=.ok (fI 0 n))(hl:n≤1000)(h:∀a,a<n→elt (.aq (.int (a:Int))::caps.map fun j=>gC (ρ.getD j .un))=.ok (f a))(fin:Ends (k ((List.range n).map f)) T):Ends ((d6 1 caps mi (bB 0) fh elt ρ).bind k) T:=
 oH (fun(i:Nat)=>.int (i:Int)) (List.range n) f (by rw[hi,nT]) (by simpa using hl) (fun a ha=>h a (by simpa using ha)) fin
theorem u5{β α:Type}{mi:aP}{set:D→ak→R ak}{body:a8}{ρ:ak}{k:fl→R β}{T:β→Prop}(g:α→D)(xs:List α)(I:Nat→ak→Prop)(hi:mi ρ=.ok (xs.map g))(h0:I 0 ρ)(st:∀(j:Nat) a ρ,xs[j]?=some a→I j ρ→Ends ((set (g a) ρ).bind body) (oe (I (j+1))))(fin:∀bh,I xs.length bh→Ends (k (.bj bh)) T):Ends ((d7 mi set body ρ).bind k) T:=
 Ey I hi h0 (fun j d ρ hd kK=>by
  rw[List.getElem?_map]at hd;cases e:xs[j]? with
  |none=>rw[e]at hd;cases hd
  |some a=>rw[e]at hd;cases hd;exact st j a ρ e kK) (by rw[List.length_map];exact fin)
theorem kJ{β:Type}{mi:aP}{set:D→ak→R ak}{body:a8}{ρ:ak}{k:fl→R β}{T:β→Prop}(n:Nat)(I:Nat→ak→Prop)(hi:mi ρ=.ok (fI 0 n))(h0:I 0 ρ)(st:∀(j:Nat) ρ,j<n→I j ρ→Ends ((set (.int (j:Int)) ρ).bind body) (oe (I (j+1))))(fin:∀bh,I n bh→Ends (k (.bj bh)) T):Ends ((d7 mi set body ρ).bind k) T:=
 Ey I hi h0 (fun j d ρ hd kK=>by obtain⟨cF,rfl⟩:=Ut hd;exact st j ρ cF kK) (by rw[Uu];exact fin)
theorem Hm{α β:Type}(f:α→β):∀(l:List α)(i:Nat),(l.map f).eraseIdx i=(l.eraseIdx i).map f
 |[],_=>rfl
 |x::l,0=>rfl
 |x::l,i+1=>by simp only[List.eraseIdx_cons_succ,List.map_cons,Hm f l i]
theorem Ic{α:Type}(g:α→D){l:List α}{i:Nat}{k:Nat}(h:k<l.length)(hl:l.length<1000000)(ρ:ak):wC i (l.map g) ρ (.int (k:Int))=.ok (g l[k],ρ.set i (.c_ ((l.eraseIdx k).map g))):=by rw[TS (by simpa using h) (by simpa using hl),Hm];simp
theorem UH{v:Int}(h1: -1000000≤v)(h2:v≤1000000):lJ [.int v]=.ok (fI 0 v.toNat):=by have: -(2^62)≤v∧v<2^62:=⟨by omega,by omega⟩;simp only[lJ,if_pos this]
@[simp] theorem ZE(n:Nat)(h:n≤1000000):vM [.int (n:Int)]=.ok (fI 0 n):=by have: -(2^62)≤(n:Int)∧(n:Int)≤1000000:=⟨by omega,by omega⟩;simp only[vM,if_pos this,Int.toNat_natCast]
@[simp] theorem ZI(i j:Int):RD [.int i,.int j]=.ok (.int (if j>i then j else i)):=(rfl)
@[simp] theorem KR{xs ys:List D}(h:xs.length+ys.length≤1000000):d9 (.lst xs) (.lst ys)=.ok (.lst (xs++ys)):=if_pos h
@[simp] theorem VN(xs:List D)(l h:Option Int):nX (.lst xs) l h=.ok (.lst (jg xs l h)):=(rfl)
@[simp] theorem Z7(xs:List D)(l h:Option Int):nX (.bY xs) l h=.ok (.lst (jg xs l h)):=(rfl)
theorem LL{α:Type}(xs:List α)(k:Nat):jg xs none (some (k:Int))=xs.take k:=by
 unfold jg;rw[dD.UQ,dD.A8,List.drop_zero,Nat.sub_zero];by_cases h:k≤xs.length
 ·rw[Nat.min_eq_left h]
 ·rw[Nat.min_eq_right (by omega),List.take_length,List.take_of_length_le (by omega)]
@[simp] theorem VH(aV:List (D→ak→R ak))(ds:List D)(ρ:ak):fX aV (.tup ds) ρ=hL aV ds ρ:=(rfl)
@[simp] theorem VF(ρ:ak):hL [] [] ρ=.ok ρ:=(rfl)
@[simp] theorem VE(f:D→ak→R ak)(aV:List (D→ak→R ak))(d:D)(ds:List D)(ρ:ak):hL (f::aV) (d::ds) ρ=(f d ρ).bind fun bh=>hL aV ds bh:=(rfl)
@[simp] theorem aaY(bD:Str)(n:Nat)(mf:List D→R (List Str×List D))(ma:aP)(ρ:ak):qX bD n mf ma ρ=(ma ρ).bind fun ds=>if ds.length=n then(iG (mf ds)).bind fun x=>.ok (.ins bD x.1 x.2)else .bad:=(rfl)
@[simp] theorem aak(xs:List D):mF [.lst xs]=.ok (.tup xs):=(rfl)
@[simp] theorem aaH(k:Str)(i:Int)(ρ:ak):Rr k i ρ=.ok (.cW [.inr k] [.int i]):=(rfl)
@[simp] theorem ZO(i:Int):R1 (.int i)=.ok (.int (-i)):=(rfl)
@[simp] theorem ZZ{x:D}{k:Int}(h0:0≤k)(h:k≤1000):ru (.lst [x]) (.int k)=.ok (.lst (List.replicate k.toNat x)):=by
  have b:0≤k∧k≤1000∧[x].length≤100:=⟨h0,h,by simp⟩;simp only[ru,if_pos b]
  congr 2
  generalize k.toNat=n;induction n with
  |zero=>rfl
  |succ n b6=>simp[List.replicate_succ,b6]
@[simp] theorem Xi(m:aP)(ρ:ak):o5 m ρ=(m ρ).bind qr:=(rfl)
@[simp] theorem v_is(m:aC)(ρ:ak):qU m ρ=(m ρ).bind B3:=(rfl)
@[simp] theorem abh(m:aP)(ρ:ak):Rw m ρ=(m ρ).bind I3:=(rfl)
@[simp] theorem aa0(i:Nat)(m:a8)(ρ:ak):o4 i m ρ=m (ji i ρ):=(rfl)
@[simp] theorem aaL(c:b4)(a b:aC)(ρ:ak):nC c a b ρ=(c ρ).bind fun k=>if k=true then a ρ else b ρ:=(rfl)
@[simp] theorem aa4(a b:aC)(ρ:ak):Ru a b ρ=(a ρ).bind fun x=>(je x).bind fun c=>if c=true then .ok (.aD true)else b ρ:=(rfl)
@[simp] theorem aaZ(bD mt:Str)(n:Nat)(mf:List D→R b1)(o:aC)(ma:aP)(ρ:ak):qY bD mt n mf o ma ρ=(o ρ).bind fun d=>(wQ bD mt d).bind fun d=>(ma ρ).bind fun ds=>if ds.length=n then(mf (d::ds)).bind kV else .bad:=(rfl)
@[simp] theorem aaG(ρ:ak):Rq ρ=.ok (.cW [] []):=(rfl)
@[simp] theorem aaX(i:Nat)(a:kz)(ρ:ak):o_ i a ρ=(a ρ).bind fun t=>if i<ρ.length then .ok (.bj (ρ.set i (.bG t)))else .bad:=(rfl)
@[simp] theorem aaW(a:kz)(ρ:ak):s7 a ρ=(a ρ).bind fun t=>.ok (.i5 t):=(rfl)
def CK:Option cp→R T
 |some (.bG t)=>.ok t
 |_=>.bad
@[simp] theorem abm(i:Nat)(ρ:ak):q7 i ρ=CK ρ[i]?:=by unfold q7 CK;rfl
@[simp] theorem abr(t:T):CK (some (.bG t))=.ok t:=(rfl)
def Ct:Option cp→R (List T)
 |some (.bG (.lst aA))=>.ok aA
 |_=>.bad
@[simp] theorem Xr(i:Nat)(ρ:ak):il i ρ=Ct ρ[i]?:=by unfold il Ct;rfl
@[simp] theorem WZ(aA:List T):Ct (some (.bG (.lst aA)))=.ok aA:=(rfl)
@[simp] theorem Z_(b:a8)(t:T):lO b (.i5 t)=.ok (.i5 t):=(rfl)
@[simp] theorem ZT(t:T):outD (.i5 t)=.ok (.t t):=(rfl)
@[simp] theorem Z4(t:T):kV (.t t)=.ok (toD t):=(rfl)
@[simp] theorem Y9(t:T):l_ (.bG t)=.aq (toD t):=(rfl)
@[simp] theorem aaq(i:Nat)(mk m:aC)(ρ:ak):qO i mk m ρ=(il i ρ).bind fun aA=>(mk ρ).bind fun k=>r9 i ρ aA m k:=(rfl)
theorem K5{i:Nat}{ρ:ak}{aA:List T}{m:aC}{k:Nat}{us:List T}{d:D}(h:aA[k]?=some (.lst us))(hm:m ρ=.ok d)(hu:us.length<1000000):r9 i ρ aA m (.int (k:Int))=.ok (.bj (ρ.set i (.bG (.lst (aA.set k (.lst (us++[.aq d]))))))):=by
 have hk:=(List.getElem?_eq_some_iff.mp h).1;have e:eF aA.length (k:Int)=some k:=by unfold eF;rw[if_pos (by omega),if_pos (by omega)];simp
 simp only[r9,e,xZ,h,hm,dH,if_pos hu]
@[simp] theorem aa8(i:Nat)(mk mv:aC)(ρ:ak):Rv i mk mv ρ=(mv ρ).bind fun v=>(ownAt i ρ).bind fun ds=>(mk ρ).bind fun k=>putK i ρ ds v k:=(rfl)
def P5(ds:List D):D→R D
 |.int j=>match eM ds j with
  |some d=>.ok d
  |none=>.bad
 |_=>.bad
@[simp] theorem aaQ(i:Nat)(n:aC)(ρ:ak):Hl i n ρ=(ownAt i ρ).bind fun ds=>(n ρ).bind (P5 ds):=by unfold Hl;congr 1
@[simp] theorem aae(k:Bool):rI [.aD k]=.ok (.int (if k then 1 else 0)):=(rfl)
@[simp] theorem Zt(x:D):fG true x .non=.ok (.aD (hC x)):=(rfl)
theorem Lz{xs ys:List D}(h:xs.length+ys.length≤1000000):lq (.tup xs) (.tup ys)=.ok (.tup (xs++ys)):=if_pos h
@[simp] theorem Z6(x:Str):B3 (.str x)=.ok (x.cps.toList.map eH):=(rfl)
theorem EA{α:Type}(g:α→D)(xs:List α):qr [.lst (xs.map g)]=.ok (xs.zipIdx.map fun p=>.tup [.int (p.2:Int),g p.1]):=by
 simp only[qr,m_]
 congr 1
 rw[List.zipIdx_map,List.map_map];rfl
theorem YC{α:Type}{xs:List α}{j:Nat}{p:α×Nat}(h:xs.zipIdx[j]?=some p):p.2=j∧xs[j]?=some p.1:=by
 rw[List.getElem?_zipIdx]at h;cases e:xs[j]? with
 |none=>rw[e]at h;cases h
 |some a=>rw[e]at h;simp at h;subst h;exact⟨rfl,rfl⟩
theorem Ko{α:Type}{xs:List α}{p:α×Nat}(h:p∈xs.zipIdx):xs[p.2]?=some p.1:=by obtain⟨j,e⟩:=List.mem_iff_getElem?.mp h;obtain⟨h1,h2⟩:=YC e;rw[h1];exact h2
theorem y5{β α:Type}{mi:aP}{elt:aC}{caps:List Nat}{ρ:ak}{k:List D→R β}{Dq:β→Prop}(g1 g2:α→D)(xs:List α)(f:α→D)(hi:mi ρ=.ok (xs.map fun a=>.tup [g1 a,g2 a]))(hl:xs.length≤1000)(h:∀a∈xs,elt (.aq (g1 a)::.aq (g2 a)::caps.map fun j=>gC (ρ.getD j .un))=.ok (f a))(fin:Ends (k (xs.map f)) Dq):Ends ((d6 2 caps mi (fX [bB 0,bB 1]) fh elt ρ).bind k) Dq:=by
 have go:∀(xs:List α)(ws:List D)(s0 s1:cp),ws.length+xs.length≤1000000→(∀a∈xs,elt (.aq (g1 a)::.aq (g2 a)::caps.map fun j=>gC (ρ.getD j .un))=.ok (f a))→fN (fX [bB 0,bB 1]) fh elt (xs.map fun a=>.tup [g1 a,g2 a]) (s0::s1::caps.map fun j=>gC (ρ.getD j .un)) ws=.ok (ws++xs.map f):=by
  intro xs;induction xs with
  |nil=>intro ws s0 s1 _ _;simp[fN]
  |cons a xs b6=>
   intro ws s0 s1 hl h;simp only[List.length_cons]at hl;have bU:fX [bB 0,bB 1] (.tup [g1 a,g2 a]) (s0::s1::caps.map fun j=>gC (ρ.getD j .un))=.ok (.aq (g1 a)::.aq (g2 a)::caps.map fun j=>gC (ρ.getD j .un)):=by simp
   rw[List.map_cons,fN,bU,dH];simp only[fh,dH,if_true,h a (by simp),if_pos (show ws.length<1000000 by omega)];rw[b6 (ws++[f a]) _ _ (by simp;omega) fun x hx=>h x (by simp[hx])];simp
 rw[JK,hi,dH];have e:=go xs [] .un .un (by simp;omega) h;have:iG (fN (fX [bB 0,bB 1]) fh elt (xs.map fun a=>.tup [g1 a,g2 a]) (lj 2 caps ρ) [])=.ok (xs.map f):=by show iG (fN (fX [bB 0,bB 1]) fh elt (xs.map fun a=>.tup [g1 a,g2 a]) (.un::.un::caps.map fun j=>gC (ρ.getD j .un)) [])=_;rw[e];rfl
 rw[this,dH];exact fin
theorem Ends.done{β:Type}{r:R β}{b:β}(h:Ends r (· =b)):r=.ok b:=by obtain⟨c,e,rfl⟩:=h;exact e
end ay
namespace bP
open PySem PySem.Spec aS ay
def top(i:Nat):Stmt:=PySem.Challenge.pw_nohalfway_k14_safe_sets.main.body.getD i (.Pass ⟨0,0,0,0⟩)
abbrev BN:Stmt:=top 41
abbrev BE:Stmt:=top 42
abbrev BI:Stmt:=top 45
abbrev BK:Stmt:=top 46
abbrev Bs:Stmt:=top 47
abbrev Bw:Stmt:=top 40
abbrev Bt:Stmt:=top 48
abbrev Br:Stmt:=top 43
abbrev BL:Stmt:=top 54
abbrev A_:Stmt:=inClass (top 38) 1
abbrev BD:Stmt:=top 57
abbrev BA:Stmt:=top 49
abbrev BF:Stmt:=top 50
abbrev BJ:Stmt:=top 51
abbrev BB:Stmt:=top 52
abbrev Bu:Stmt:=top 53
abbrev BM:Stmt:=top 59
abbrev Bz:Stmt:=top 58
abbrev BG:Stmt:=top 44
abbrev Bv:Stmt:=top 60
abbrev Bi:Stmt:=top 34
abbrev Bn:Stmt:=top 5
abbrev Bo:Stmt:=top 6
abbrev Bh:Stmt:=top 35
abbrev Bp:Stmt:=top 36
abbrev Be:Stmt:=top 37
abbrev Bc:Stmt:=top 33
abbrev Ba:Stmt:=inClass (top 38) 0
abbrev Bd:Stmt:=top 27
abbrev BH:Stmt:=top 63
abbrev By:Stmt:=top 62
abbrev Bx:Stmt:=top 56
abbrev BP:Stmt:=top 24
abbrev Bj:Stmt:=top 12
abbrev Bg:Stmt:=top 11
abbrev Bf:Stmt:=top 13
abbrev Bb:Stmt:=top 14
abbrev BR:Stmt:=top 16
abbrev A9:Stmt:=inClass (top 38) 3
abbrev BQ:Stmt:=top 18
abbrev BU:Stmt:=top 19
abbrev Bm:Stmt:=top 21
abbrev Bl:Stmt:=top 22
abbrev BO:Stmt:=top 23
abbrev BS:Stmt:=top 28
abbrev Bk:Stmt:=top 29
abbrev Bq:Stmt:=top 61
abbrev BC:Stmt:=top 55
abbrev nU:Stmt:=top 64
def l7:D:=.int 15
def qj:D:=.int 4
def ox:D:=.int 6
def kG:D:=.de [.str (PySem.Str.ofString "safe")]
noncomputable def qk:D:=.de [.str (PySem.Str.ofString "0"),.str (PySem.Str.ofString "1"),.str (PySem.Str.ofString "x")]
def m6:D:=.de [.int 8,.int 4,.int 2,.int 1]
structure xR(K:PySem.W.Frag)(mg:Str→Option Value):Prop where
 Fu:c7 K mg "_law_stream" BN ["_law_cell","_law_salt","_law_many"]
 Fj:c7 K mg "_law_net" BE ["_law_cell","_law_most"]
 Fo:c7 K mg "_law_pattern" BI ["_law_number"]
 Fq:c7 K mg "_law_row" BK ["_law_number","_law_count"]
 E7:c7 K mg "_law_book" Bs ["_law_cell","_law_salt","_law_count","_law_most"]
 Fb:c7 K mg "_law_cell_at" Bw ["_law_script","_law_k"]
 E8:c7 K mg "_law_books" Bt ["_law_script","_law_start","_law_counts","_law_most"]
 E6:c7 K mg "_law_beyond" Br ["_law_wires"]
 Fs:c7 K mg "_law_saying" BL ["_law_number","_law_counts","_law_outer_here"]
 EN:uo K "Net" "count" "Net.count" A_ ["self","house"]
 Fi:c7 K mg "_law_narrow" BD ["_law_number"]
 Ff:c7 K mg "_law_fits" BA ["_law_pattern_here","_law_address"]
 Fl:c7 K mg "_law_next" BF ["_law_beyond_here","_law_books_here","_law_door","_law_address"]
 Fp:c7 K mg "_law_road" BJ ["_law_beyond_here","_law_books_here","_law_door","_law_address"]
 Fg:c7 K mg "_law_is_so" BB ["_law_beyond_here","_law_books_here","_law_saying_here","_law_address"]
 E9:c7 K mg "_law_broken" Bu ["_law_beyond_here","_law_books_here","_law_saying_here"]
 Ft:c7 K mg "_law_says" BM ["_law_script","_law_beyond_here","_law_counts","_law_outer_here","_law_both","_law_many"]
 Fe:c7 K mg "_law_exchanged" Bz ["_law_old","_law_new","_law_counts","_law_cell","_law_salt"]
 Fm:c7 K mg "_law_outer" BG ["_law_counts","_law_wires"]
 E_:c7 K mg "_law_case" Bv ["_law_script","_law_most","_law_says_most"]
 EX:c7 K mg "is_pair" Bi ["thing"]
 E2:c7 K mg "is_whole" Bn ["thing"]
 E3:c7 K mg "is_whole_within" Bo ["thing","least","greatest"]
 EW:c7 K mg "is_door_among" Bh ["counts","thing"]
 E4:c7 K mg "is_wire_among" Bp ["counts","thing"]
 ET:c7 K mg "far_doors" Be ["counts","wires"]
 ER:c7 K mg "are_counts" Bc ["thing"]
 EO:InK K mg "Net" "Net.__init__" Ba ["self","counts","wires"]
 ES:c7 K mg "changers" Bd ["old","new"]
 Fn:c7 K mg "_law_padded" BH ["_law_says_here","_law_door","_law_number"]
 Fd:c7 K mg "_law_copied" By ["_law_books_here"]
 Fc:c7 K mg "_law_changers" Bx ["_law_old","_law_new"]
 Fx:c7 K mg "mixed" BP ["old","new","houses"]
 EY:c7 K mg "is_pattern" Bj ["thing"]
 EV:c7 K mg "is_address" Bg ["thing"]
 EU:c7 K mg "fits" Bf ["pattern","address"]
 EP:c7 K mg "addresses" Bb ["pattern"]
 Fz:c7 K mg "taken" BR ["book","door","address"]
 EM:uo K "Net" "beyond" "Net.beyond" A9 ["self","door"]
 Fy:c7 K mg "onward" BQ ["net","book","door","address"]
 FC:c7 K mg "walked" BU ["net","books","door","address"]
 E1:c7 K mg "is_so_of" Bm ["saying","doors","end"]
 E0:c7 K mg "is_so" Bl ["net","books","saying","address"]
 Fv:c7 K mg "least_broken" BO ["net","books","saying"]
 FA:c7 K mg "verdict" BS ["net","old","new","sayings","houses"]
 EZ:c7 K mg "is_safe" Bk ["net","old","new","sayings","houses"]
 E5:c7 K mg "_law_bad" Bq ["_law_beyond_here","_law_books_here","_law_says_here"]
 Fh:c7 K mg "_law_mixed" BC ["_law_old","_law_new","_law_houses"]
 Np:c7 K mg "law" nU ["_law_script"]
 lC:rX K "Net" ["many","counts","joined","far"]
 r_:mg "all"=none
 x7:mg "bool"=none
 x9:mg "enumerate"=none
 ya:mg "int"=none
 l3:mg "isinstance"=none
 et:mg "len"=none
 jC:mg "list"=none
 yF:mg "min"=none
 fq:mg "range"=none
 yH:mg "str"=none
 uO:mg "tuple"=none
 DQ:mg "zip"=none
 l7:n8 K mg "GREATEST_ADDRESS" l7
 qj:n8 K mg "MOST_DOORS" qj
 ox:n8 K mg "MOST_HOUSES" ox
 kG:n8 K mg "SAFE" kG
 qk:n8 K mg "SIGNS" qk
 m6:n8 K mg "WORTHS" m6
theorem nV:cN ["_law_cell","_law_salt","_law_many","_law_found","_law_number","_law_k"] ["_law_cell","_law_salt","_law_many"] (bQ BN):=⟨rfl,rfl,rfl,by decide+kernel,rfl,by decide+kernel,by decide+kernel⟩
noncomputable def uN:a8:=
    a4 (fH 3 (eV (aw)))
    (a4 (cR 4 (ai eU (J 0) (au (.int 2))))
    (a4 (c9 (bc (ai (bR true) (ai dN (J 0) (au (.int 2))) (au (.int 1)))) (a4 (d7 (eW (af (J 2) (aw))) (bB 5) (a4 (jn 3 (ai dN (J 4) (au (.int 720720))))
    (cR 4 (ai eU (J 4) (au (.int 720720))))))
    (g5 (mq 3))) (dg))
    (a4 (cR 4 (ai dN (ai d9 (ai d9 (ai mx (J 4) (au (.int 48271))) (ai mx (J 1) (au (.int 69621)))) (au (.int 12345))) (au (.int 2147483647))))
    (a4 (d7 (eW (af (J 2) (aw))) (bB 5) (a4 (cR 4 (ai dN (ai d9 (ai d9 (ai mx (J 4) (au (.int 69621))) (ai mx (au (.int 48271)) (J 5))) (J 1)) (au (.int 2147483629))))
    (jn 3 (ai eU (J 4) (au (.int 7))))))
    (g5 (mq 3))))))
def g6:List D→R b1:=cZ 6 uN
theorem lN:cN ["_law_cell","_law_most","_law_xs","_law_many","_law_counts","_law_doors","_law_house","_law_wires","_law_k","_law_one"] ["_law_cell","_law_most"] (bQ BE):=⟨rfl,rfl,rfl,by decide+kernel,rfl,by decide+kernel,by decide+kernel⟩
noncomputable def yx:a8:=
    a4 (cR 2 (c4 (fV 3 g6 (af (J 0) (af (au (.int 1)) (af (au (.int 24)) (aw)))))))
    (a4 (cR 3 (ai d9 (au (.int 1)) (ai dN (ai az (J 2) (au (.int 0))) (J 1))))
    (a4 (nE 4 (d6 1 [2,3] (eW (af (J 3) (aw))) (bB 0) (fh) (ai d9 (au (.int 1)) (ai dN (ai az (J 1) (ai d9 (au (.int 1)) (J 0))) (ai az (c4 (eV (af (au (.int 4)) (af (au (.int 4)) (af (au (.int 4)) (af (au (.int 3)) (af (au (.int 2)) (af (au (.int 2)) (aw))))))))) (ai mC (J 2) (au (.int 1))))))))
    (a4 (fH 5 (eV (aw)))
    (a4 (d7 (eW (af (ct df (af (J 4) (aw))) (aw))) (bB 6) (fH 5 (qT 5 (c4 (d6 1 [6] (eW (af (ai az (J 4) (J 6)) (aw))) (bB 0) (fh) (dJ (af (J 1) (af (J 0) (aw)))))))))
    (a4 (fH 7 (eV (aw)))
    (a4 (d7 (eW (af (nz (ct pf (af (au (.int 12)) (af (ai d9 (ai eU (ct df (af (J 5) (aw))) (au (.int 2))) (ai dN (ai az (J 2) (au (.int 7))) (au (.int 2)))) (aw))))) (aw))) (bB 8) (c9 (gH (fg (bc (ai qs (ct df (af (J 5) (aw))) (au (.int 2)))) (iE (bc (ai qs (ct df (af (J 5) (aw))) (au (.int 1)))) (iE (bc (ai (bR true) (J 7) (c4 (eV (aw))))) (bc (ai (bR true) (ai dN (ai az (J 2) (au (.int 8))) (au (.int 2))) (au (.int 0)))))))) (a4 (q5 9 (o7 5 (nz (ai dN (ai az (J 2) (ai d9 (au (.int 9)) (J 8))) (ct df (af (J 5) (aw)))))))
    (sX 7 (pa (o2 (lf (J 9)) (o2 (o7 5 (nz (ai dN (ai eU (ai az (J 2) (ai mC (au (.int 23)) (J 8))) (au (.int 5))) (ct df (af (J 5) (aw)))))) (qL aw)))))) (dg)))
    (a4 (c9 (gH (iE (bc (ai qs (ct df (af (J 7) (aw))) (au (.int 0)))) (bc (ai (bR true) (J 5) (c4 (eV (aw))))))) (o3 (q2 7)) (dg))
    (ig (dJ (af (J 4) (af (J 7) (aw))))))))))))
def tj:List D→R b1:=cZ 10 yx
theorem tP:cN ["_law_number","_law_signs","_law_k"] ["_law_number"] (bQ BI):=⟨rfl,rfl,rfl,by decide+kernel,rfl,by decide+kernel,by decide+kernel⟩
noncomputable def yB:a8:=
    a4 (cR 1 (au (.str (PySem.Str.ofString ""))))
    (a4 (d7 (eW (af (au (.int 4)) (aw))) (bB 2) (a4 (cR 1 (ai d9 (J 1) (ai az (au (.str (PySem.Str.ofString "01xxx"))) (ai dN (J 0) (au (.int 5))))))
    (cR 0 (ai eU (J 0) (au (.int 5))))))
    (cw (J 1)))
def rg:List D→R b1:=cZ 3 yB
theorem BZ:cN ["_law_number","_law_count","_law_come","_law_out"] ["_law_number","_law_count"] (bQ BK):=⟨rfl,rfl,rfl,by decide+kernel,rfl,by decide+kernel,by decide+kernel⟩
noncomputable def yC:a8:=
    a4 (cR 2 (ai az (c4 (eV (af (au .non) (af (au .non) (af (ai dN (ai eU (J 0) (au (.int 11))) (J 1)) (aw)))))) (ai dN (J 0) (au (.int 3)))))
    (a4 (cR 3 (ai az (c4 (eV (af (au .non) (af (ai dN (ai eU (J 0) (au (.int 47))) (J 1)) (af (ai dN (ai eU (J 0) (au (.int 53))) (J 1)) (af (ai dN (ai eU (J 0) (au (.int 59))) (J 1)) (aw))))))) (ai dN (ai eU (J 0) (au (.int 3))) (au (.int 4)))))
    (cw (dJ (af (b8 1 rg (af (ai eU (J 0) (au (.int 61))) (aw))) (af (J 2) (af (J 3) (aw)))))))
def rh:List D→R b1:=cZ 4 yC
theorem II:cN ["_law_cell","_law_salt","_law_count","_law_most","_law_xs"] ["_law_cell","_law_salt","_law_count","_law_most"] (bQ Bs):=⟨rfl,rfl,rfl,by decide+kernel,rfl,by decide+kernel,by decide+kernel⟩
noncomputable def ym:a8:=
    a4 (cR 4 (c4 (fV 3 g6 (af (J 0) (af (J 1) (af (ai d9 (J 3) (au (.int 1))) (aw)))))))
    (g5 (d6 1 [2] (g4 (jS nX (J 4) (mm (au (.int 1))) (mm (ai d9 (au (.int 1)) (ai dN (ai az (J 4) (au (.int 0))) (ai d9 (J 3) (au (.int 1)))))))) (bB 0) (fh) (b8 2 rh (af (J 0) (af (J 1) (aw))))))
def tf:List D→R b1:=cZ 5 ym
theorem Vw:cN ["_law_script","_law_k"] ["_law_script","_law_k"] (bQ Bw):=⟨rfl,rfl,rfl,by decide+kernel,rfl,by decide+kernel,by decide+kernel⟩
noncomputable def uM:a8:=
    a4 (c9 (bc (ai lD (J 1) (ct df (af (J 0) (aw))))) (cw (ai dN (ai az (J 0) (J 1)) (ai nI (ai nI (ai nP (au (.int 10)) (au (.int 60))) (ai nP (au (.int 10)) (au (.int 60)))) (ai nP (au (.int 10)) (au (.int 60)))))) (dg))
    (cw (ai d9 (ai mx (au (.int 14)) (J 1)) (au (.int 2))))
def ih:List D→R b1:=cZ 2 uM
theorem BY:cN ["_law_script","_law_start","_law_counts","_law_most","_law_found","_law_house"] ["_law_script","_law_start","_law_counts","_law_most"] (bQ Bt):=⟨rfl,rfl,rfl,by decide+kernel,rfl,by decide+kernel,by decide+kernel⟩
noncomputable def yn:a8:=
    a4 (o_ 4 (s6 (vR)))
    (a4 (d7 (eW (af (ct df (af (J 2) (aw))) (aw))) (bB 5) (vP 4 (fV 4 tf (af (b8 2 ih (af (J 0) (af (ai d9 (J 1) (J 5)) (aw)))) (af (ai d9 (au (.int 3)) (J 5)) (af (ai az (J 2) (J 5)) (af (J 3) (aw))))))))
    (s7 (q7 4)))
def nG:List D→R b1:=cZ 6 yn
theorem wI:cN ["_law_wires","_law_beyond_here","_law_one","_law_other"] ["_law_wires"] (bQ Br):=⟨rfl,rfl,rfl,by decide+kernel,rfl,by decide+kernel,by decide+kernel⟩
noncomputable def yl:a8:=
    a4 (o9 1)
    (a4 (d7 (g4 (J 0)) (fX [bB 2,bB 3]) (a4 (kQ 1 (J 2) (J 3))
    (kQ 1 (J 3) (J 2))))
    (ig (J 1)))
def ra:List D→R b1:=cZ 4 yl
theorem wL:cN ["_law_number","_law_counts","_law_outer_here","_law_word","_law_door","_law_pattern_here"] ["_law_number","_law_counts","_law_outer_here"] (bQ BL):=⟨rfl,rfl,rfl,by decide+kernel,rfl,by decide+kernel,by decide+kernel⟩
noncomputable def ow:a8:=
    a4 (cR 3 (ai az (c4 (eV (af (au (.str (PySem.Str.ofString "comes"))) (af (au (.str (PySem.Str.ofString "leaves"))) (af (au (.str (PySem.Str.ofString "noring"))) (af (au (.str (PySem.Str.ofString "by"))) (af (au (.str (PySem.Str.ofString "never"))) (aw)))))))) (ai dN (J 0) (au (.int 5)))))
    (a4 (cR 4 (ai az (J 2) (ai dN (ai eU (J 0) (au (.int 5))) (ct df (af (J 2) (aw))))))
    (a4 (cR 5 (b8 1 rg (af (ai eU (J 0) (au (.int 35))) (aw))))
    (a4 (c9 (bc (ai (bR true) (J 3) (au (.str (PySem.Str.ofString "comes"))))) (cw (dJ (af (J 3) (af (J 5) (af (J 4) (af (ai az (J 2) (ai dN (ai eU (J 0) (au (.int 7))) (ct df (af (J 2) (aw))))) (aw))))))) (dg))
    (a4 (c9 (fg (bc (ai (bR true) (J 3) (au (.str (PySem.Str.ofString "by"))))) (bc (ai (bR true) (J 3) (au (.str (PySem.Str.ofString "never")))))) (cw (dJ (af (J 3) (af (J 5) (af (J 4) (af (ai dN (ai eU (J 0) (au (.int 11))) (ct df (af (J 1) (aw)))) (aw))))))) (dg))
    (cw (dJ (af (J 3) (af (J 5) (af (J 4) (aw))))))))))
def nH:List D→R b1:=cZ 6 ow
theorem Vj:cN ["self","house"] ["self","house"] (bQ A_):=⟨rfl,rfl,rfl,by decide+kernel,rfl,by decide+kernel,by decide+kernel⟩
noncomputable def DJ:a8:=
    cw (nC (bc (iY kP lD (au (.int 0)) (J 1) (eX (iW "Net" "many") (J 0)))) (ai az (eX (iW "Net" "counts") (J 0)) (J 1)) (au (.int 0)))
def Rx:List D→R b1:=cZ 2 DJ
theorem pD:cN ["_law_number","_law_signs","_law_k","_law_sign"] ["_law_number"] (bQ BD):=⟨rfl,rfl,rfl,by decide+kernel,rfl,by decide+kernel,by decide+kernel⟩
noncomputable def yw:a8:=
    a4 (cR 1 (au (.str (PySem.Str.ofString ""))))
    (a4 (d7 (eW (af (au (.int 4)) (aw))) (bB 2) (a4 (cR 3 (ai az (au (.str (PySem.Str.ofString "01xx"))) (ai dN (J 0) (au (.int 4)))))
    (a4 (c9 (iE (bc (ai (bR true) (s8 Txt.count (J 1) (au (.str (PySem.Str.ofString "x")))) (au (.int 2)))) (bc (ai (bR true) (J 3) (au (.str (PySem.Str.ofString "x")))))) (cR 3 (ai az (au (.str (PySem.Str.ofString "01"))) (ai dN (ai eU (J 0) (au (.int 4))) (au (.int 2))))) (dg))
    (a4 (cR 1 (ai d9 (J 1) (J 3)))
    (cR 0 (ai eU (J 0) (au (.int 5))))))))
    (cw (J 1)))
def ti:List D→R b1:=cZ 4 yw
theorem IK:cN ["_law_pattern_here","_law_address","_law_k"] ["_law_pattern_here","_law_address"] (bQ BA):=⟨rfl,rfl,rfl,by decide+kernel,rfl,by decide+kernel,by decide+kernel⟩
noncomputable def yt:a8:=
    a4 (d7 (eW (af (au (.int 4)) (aw))) (bB 2) (c9 (iE (bc (ai (bR false) (ai az (J 0) (J 2)) (au (.str (PySem.Str.ofString "x"))))) (bc (ai (bR false) (ai az (J 0) (J 2)) (ai az (au (.str (PySem.Str.ofString "01"))) (ai uG (ai wV (J 1) (ai mC (au (.int 3)) (J 2))) (au (.int 1))))))) (cw (au (.aD false))) (dg)))
    (cw (au (.aD true)))
def rf:List D→R b1:=cZ 3 yt
theorem rv:cN ["_law_beyond_here","_law_books_here","_law_door","_law_address","_law_house","_law_number","_law_pattern_here","_law_come","_law_out"] ["_law_beyond_here","_law_books_here","_law_door","_law_address"] (bQ BF):=⟨rfl,rfl,rfl,by decide+kernel,rfl,by decide+kernel,by decide+kernel⟩
noncomputable def yy:a8:=
    a4 (mn (fX [bB 4,bB 5]) (J 2))
    (a4 (d7 (g4 (ai az (J 1) (J 4))) (fX [bB 6,bB 7,bB 8]) (c9 (iE (fg (bc (ai (fG true) (J 7) (au .non))) (bc (ai (bR true) (J 7) (J 5)))) (bc (b8 2 rf (af (J 6) (af (J 3) (aw)))))) (a4 (c9 (bc (ai (fG true) (J 8) (au .non))) (cw (dJ (af (au (.str (PySem.Str.ofString "drop"))) (af (J 4) (aw))))) (dg))
    (a4 (c9 (bc (ai (fD true) (dJ (af (J 4) (af (J 8) (aw)))) (J 0))) (cw (dJ (af (au (.str (PySem.Str.ofString "at"))) (af (ai qm (J 0) (dJ (af (J 4) (af (J 8) (aw))))) (aw))))) (dg))
    (cw (dJ (af (au (.str (PySem.Str.ofString "out"))) (af (J 4) (af (J 8) (aw)))))))) (dg)))
    (cw (dJ (af (au (.str (PySem.Str.ofString "drop"))) (af (J 4) (aw))))))
def tk:List D→R b1:=cZ 9 yy
theorem wK:cN ["_law_beyond_here","_law_books_here","_law_door","_law_address","_law_road_here","_law_told"] ["_law_beyond_here","_law_books_here","_law_door","_law_address"] (bQ BJ):=⟨rfl,rfl,rfl,by decide+kernel,rfl,by decide+kernel,by decide+kernel⟩
noncomputable def DN:a8:=
    a4 (fH 4 (eV (aw)))
    (a4 (q8 (gH (bc (ai (inD false) (J 2) (J 4)))) (a4 (jn 4 (J 2))
    (a4 (cR 5 (b8 4 tk (af (J 0) (af (J 1) (af (J 2) (af (J 3) (aw)))))))
    (a4 (c9 (bc (ai (bR false) (ai az (J 5) (au (.int 0))) (au (.str (PySem.Str.ofString "at"))))) (ig (dJ (af (J 4) (af (J 5) (aw))))) (dg))
    (cR 2 (ai az (J 5) (au (.int 1))))))))
    (ig (dJ (af (J 4) (af (dJ (af (au (.str (PySem.Str.ofString "ring"))) (af (nD (J 4) (af (J 2) (aw))) (aw)))) (aw))))))
def v_:List D→R b1:=cZ 6 DN
theorem wJ:cN ["_law_beyond_here","_law_books_here","_law_saying_here","_law_address","_law_road_here","_law_end","_law_houses"] ["_law_beyond_here","_law_books_here","_law_saying_here","_law_address"] (bQ BB):=⟨rfl,rfl,rfl,by decide+kernel,rfl,by decide+kernel,by decide+kernel⟩
noncomputable def yu:a8:=
    a4 (mn (fX [bB 4,bB 5]) (b8 4 v_ (af (J 0) (af (J 1) (af (ai az (J 2) (au (.int 2))) (af (J 3) (aw)))))))
    (a4 (c9 (bc (ai (bR true) (ai az (J 2) (au (.int 0))) (au (.str (PySem.Str.ofString "comes"))))) (cw (ai (bR true) (J 5) (ai lq (dJ (af (au (.str (PySem.Str.ofString "out"))) (aw))) (ai az (J 2) (au (.int 3)))))) (dg))
    (a4 (c9 (bc (ai (bR true) (ai az (J 2) (au (.int 0))) (au (.str (PySem.Str.ofString "leaves"))))) (cw (ai (bR true) (ai az (J 5) (au (.int 0))) (au (.str (PySem.Str.ofString "out"))))) (dg))
    (a4 (c9 (bc (ai (bR true) (ai az (J 2) (au (.int 0))) (au (.str (PySem.Str.ofString "noring"))))) (cw (ai (bR false) (ai az (J 5) (au (.int 0))) (au (.str (PySem.Str.ofString "ring"))))) (dg))
    (a4 (nE 6 (d6 2 [] (g4 (J 4)) (fX [bB 0,bB 1]) (fh) (J 0)))
    (cw (ai (bR true) (ai (inD true) (ai az (J 2) (au (.int 3))) (J 6)) (ai (bR true) (ai az (J 2) (au (.int 0))) (au (.str (PySem.Str.ofString "by"))))))))))
def v7:List D→R b1:=cZ 7 yu
theorem IJ:cN ["_law_beyond_here","_law_books_here","_law_saying_here","_law_address"] ["_law_beyond_here","_law_books_here","_law_saying_here"] (bQ Bu):=⟨rfl,rfl,rfl,by decide+kernel,rfl,by decide+kernel,by decide+kernel⟩
noncomputable def yo:a8:=
    a4 (d7 (eW (af (au (.int 16)) (aw))) (bB 3) (c9 (iE (bc (b8 2 rf (af (ai az (J 2) (au (.int 1))) (af (J 3) (aw))))) (eO (bc (b8 4 v7 (af (J 0) (af (J 1) (af (J 2) (af (J 3) (aw))))))))) (cw (J 3)) (dg)))
    (cw (au .non))
def tg:List D→R b1:=cZ 4 yo
theorem pE:cN ["_law_script","_law_beyond_here","_law_counts","_law_outer_here","_law_both","_law_many","_law_says_here","_law_j","_law_drawn","_law_x","_law_saying_here","_law_kept"] ["_law_script","_law_beyond_here","_law_counts","_law_outer_here","_law_both","_law_many"] (bQ BM):=⟨rfl,rfl,rfl,by decide+kernel,rfl,by decide+kernel,by decide+kernel⟩
noncomputable def yD:a8:=
    a4 (fH 6 (eV (aw)))
    (a4 (d7 (eW (af (J 5) (aw))) (bB 7) (a4 (fH 8 (eV (aw)))
    (a4 (d7 (g4 (c4 (fV 3 g6 (af (b8 2 ih (af (J 0) (af (ai d9 (au (.int 14)) (J 7)) (aw)))) (af (ai d9 (au (.int 80)) (J 7)) (af (au (.int 9)) (aw))))))) (bB 9) (a4 (cR 10 (b8 3 nH (af (J 9) (af (J 2) (af (J 3) (aw))))))
    (jn 8 (ai lq (dJ (af (ai az (J 10) (au (.int 0))) (af (b8 1 ti (af (ai eU (J 9) (au (.int 13))) (aw))) (aw)))) (jS rA (J 10) (mm (au (.int 2))) (qZ))))))
    (a4 (o4 8 (nE 11 (d6 1 [4,1] (g4 (J 8)) (bB 0) (bc (ct dx (af (c4 (d6 1 [2,0] (g4 (J 1)) (bB 0) (fh) (ai (fG true) (b8 3 tg (af (J 1) (af (J 0) (af (J 2) (aw))))) (au .non)))) (aw)))) (J 0))))
    (jn 6 (ai az (ai d9 (J 11) (J 8)) (au (.int 0))))))))
    (g5 (mq 6)))
def tm:List D→R b1:=cZ 12 yD
theorem tN:cN ["_law_old","_law_new","_law_counts","_law_cell","_law_salt","_law_xs","_law_house","_law_row_here","_law_books_here"] ["_law_old","_law_new","_law_counts","_law_cell","_law_salt"] (bQ Bz):=⟨rfl,rfl,rfl,by decide+kernel,rfl,by decide+kernel,by decide+kernel⟩
noncomputable def yr:iO:=
    o8 (q6 5 (c4 (fV 3 g6 (af (J 3) (af (J 4) (af (au (.int 3)) (aw)))))))
    (o8 (q6 6 (ai dN (ai az (J 5) (au (.int 0))) (ct df (af (J 2) (aw)))))
    (o8 (q6 7 (b8 2 rh (af (ai az (J 5) (au (.int 1))) (af (ai az (J 2) (J 6)) (aw)))))
    (o8 (vO 0 1 8 (ai dN (ai az (J 5) (au (.int 2))) (au (.int 4))) (qW (gH (bc (ai lD (ct df (af (ai az (J 8) (J 6)) (aw))) (au (.int 4))))) (q1 (qO 8 (J 6) (J 7))) (q3 8 (J 6) (ai dN (ai eU (ai az (J 5) (au (.int 2))) (au (.int 4))) (au (.int 4))) (J 7))))
    (vT (J 6)))))
def v5:T→T→List D→R (D×T×T):=sZ 9 yr
theorem tO:cN ["_law_counts","_law_wires","_law_beyond_here","_law_found","_law_house"] ["_law_counts","_law_wires"] (bQ BG):=⟨rfl,rfl,rfl,by decide+kernel,rfl,by decide+kernel,by decide+kernel⟩
noncomputable def yz:a8:=
    a4 (cR 2 (b8 1 ra (af (J 1) (aw))))
    (a4 (cR 3 (c4 (eV (aw))))
    (a4 (d7 (eW (af (ct df (af (J 0) (aw))) (aw))) (bB 4) (cR 3 (ai d9 (J 3) (c4 (d6 1 [4,2] (eW (af (ai az (J 0) (J 4)) (aw))) (bB 0) (bc (ai (fD false) (dJ (af (J 1) (af (J 0) (aw)))) (J 2))) (dJ (af (J 1) (af (J 0) (aw)))))))))
    (cw (J 3))))
def tl:List D→R b1:=cZ 5 yz
theorem lM:cN ["_law_script","_law_most","_law_says_most","_law_counts","_law_wires","_law_old","_law_new","_law_xs","_law_house","_law_k","_law_beyond_here","_law_says_here"] ["_law_script","_law_most","_law_says_most"] (bQ Bv):=⟨rfl,rfl,rfl,by decide+kernel,rfl,by decide+kernel,by decide+kernel⟩
noncomputable def yp:a8:=
    a4 (mn (fX [bB 3,bB 4]) (b8 2 tj (af (b8 2 ih (af (J 0) (af (au (.int 0)) (aw)))) (af (J 1) (aw)))))
    (a4 (o_ 5 (qS 4 nG (af (J 0) (af (au (.int 1)) (af (J 3) (af (au (.int 4)) (aw)))))))
    (a4 (o_ 6 (qS 4 nG (af (J 0) (af (au (.int 7)) (af (J 3) (af (au (.int 4)) (aw)))))))
    (a4 (cR 7 (c4 (fV 3 g6 (af (b8 2 ih (af (J 0) (af (au (.int 13)) (aw)))) (af (au (.int 9)) (af (au (.int 8)) (aw)))))))
    (a4 (d7 (eW (af (ct df (af (J 3) (aw))) (aw))) (bB 8) (c9 (bc (ai (bR true) (ai dN (ai az (J 7) (J 8)) (au (.int 4))) (au (.int 0)))) (vS 6 (J 8) (qR (iZ (af (ai az (J 5) (J 8)) (aw))))) (dg)))
    (a4 (d7 (q4 (af (au (.int 18)) (af (ct pf (af (au (.int 63)) (af (ct df (af (J 0) (aw))) (aw)))) (aw)))) (bB 9) (vQ 5 6 3 v5 (af (J 3) (af (b8 2 ih (af (J 0) (af (J 9) (aw)))) (af (ai d9 (au (.int 100)) (J 9)) (aw))))))
    (a4 (cR 10 (b8 1 ra (af (J 4) (aw))))
    (a4 (cR 11 (c4 (qR (fV 6 tm (af (J 0) (af (J 10) (af (J 3) (af (b8 2 tl (af (J 3) (af (J 4) (aw)))) (af (c4 (eV (af (J 5) (af (J 6) (aw))))) (af (ai dN (ai az (J 7) (au (.int 6))) (ai d9 (J 2) (au (.int 1)))) (aw)))))))))))
    (ig (dJ (af (J 3) (af (J 4) (af (J 5) (af (J 6) (af (J 11) (aw)))))))))))))))
def rd:List D→R b1:=cZ 12 yp
theorem Vr:cN ["thing"] ["thing"] (bQ Bi):=⟨rfl,rfl,rfl,by decide+kernel,rfl,by decide+kernel,by decide+kernel⟩
noncomputable def DK:a8:=
    cw (lE (eX (iB "tuple") (J 0)) (ai (bR true) (ct df (af (J 0) (aw))) (au (.int 2))))
def td:List D→R b1:=cZ 1 DK
theorem Vu:cN ["thing"] ["thing"] (bQ Bn):=⟨rfl,rfl,rfl,by decide+kernel,rfl,by decide+kernel,by decide+kernel⟩
def DL:a8:=
    cw (lE (eX (iB "int") (J 0)) (q0 (eX (iB "bool") (J 0))))
def Ai:List D→R b1:=cZ 1 DL
theorem Vv:cN ["thing","least","greatest"] ["thing","least","greatest"] (bQ Bo):=⟨rfl,rfl,rfl,by decide+kernel,rfl,by decide+kernel,by decide+kernel⟩
def yh:a8:=
    cw (lE (b8 1 Ai (af (J 0) (aw))) (iY kP kP (J 1) (J 0) (J 2)))
def nF:List D→R b1:=cZ 3 yh
theorem Vq:cN ["counts","thing"] ["counts","thing"] (bQ Bh):=⟨rfl,rfl,rfl,by decide+kernel,rfl,by decide+kernel,by decide+kernel⟩
noncomputable def yc:a8:=
    a4 (c9 (fg (eO (bc (b8 1 td (af (J 1) (aw))))) (eO (bc (b8 3 nF (af (ai az (J 1) (au (.int 0))) (af (au (.int 0)) (af (ai mC (ct df (af (J 0) (aw))) (au (.int 1))) (aw)))))))) (cw (au (.aD false))) (dg))
    (cw (b8 3 nF (af (ai az (J 1) (au (.int 1))) (af (au (.int 0)) (af (ai mC (ai az (J 0) (ai az (J 1) (au (.int 0)))) (au (.int 1))) (aw))))))
def tc:List D→R b1:=cZ 2 yc
theorem IH:cN ["counts","thing","both"] ["counts","thing"] (bQ Bp):=⟨rfl,rfl,rfl,by decide+kernel,rfl,by decide+kernel,by decide+kernel⟩
noncomputable def yi:a8:=
    a4 (c9 (eO (bc (b8 1 td (af (J 1) (aw))))) (cw (au (.aD false))) (dg))
    (a4 (cR 2 (lE (b8 2 tc (af (J 0) (af (ai az (J 1) (au (.int 0))) (aw)))) (b8 2 tc (af (J 0) (af (ai az (J 1) (au (.int 1))) (aw))))))
    (cw (lE (J 2) (ai (bR false) (ai az (J 1) (au (.int 0))) (ai az (J 1) (au (.int 1)))))))
def q_:List D→R b1:=cZ 3 yi
theorem BV:cN ["counts","wires","far","wire"] ["counts","wires"] (bQ Be):=⟨rfl,rfl,rfl,by decide+kernel,rfl,by decide+kernel,by decide+kernel⟩
noncomputable def uL:a8:=
    a4 (o9 2)
    (a4 (d7 (o6 (J 1)) (bB 3) (a4 (c9 (eO (bc (b8 2 q_ (af (J 0) (af (J 3) (aw)))))) (qQ) (dg))
    (a4 (c9 (gH (fg (bc (ai (fD true) (ai az (J 3) (au (.int 0))) (J 2))) (bc (ai (fD true) (ai az (J 3) (au (.int 1))) (J 2))))) (qQ) (dg))
    (a4 (kQ 2 (ai az (J 3) (au (.int 0))) (ai az (J 3) (au (.int 1))))
    (kQ 2 (ai az (J 3) (au (.int 1))) (ai az (J 3) (au (.int 0))))))))
    (ig (J 2)))
def q9:List D→R b1:=cZ 4 uL
theorem Vm:cN ["thing"] ["thing"] (bQ Bc):=⟨rfl,rfl,rfl,by decide+kernel,rfl,by decide+kernel,by decide+kernel⟩
noncomputable def uK:a8:=
    a4 (c9 (fg (eO (bc (eX (iB "list") (J 0)))) (eO (bc (iY kP kP (au (.int 1)) (ct df (af (J 0) (aw))) (au ox))))) (cw (au (.aD false))) (dg))
    (cw (ct dx (af (c4 (d6 1 [] (g4 (J 0)) (bB 0) (fh) (b8 3 nF (af (J 0) (af (au (.int 1)) (af (au qj) (aw))))))) (aw))))
def s_:List D→R b1:=cZ 1 uK
theorem Vk:cN ["self","counts","wires"] ["self","counts","wires"] (bQ Ba):=⟨rfl,rfl,rfl,by decide+kernel,rfl,by decide+kernel,by decide+kernel⟩
noncomputable def uJ:er:=
    lF (nB (eO (bc (b8 1 s_ (af (J 1) (aw))))))
    (lF (nB (eO (bc (eX (iB "list") (J 2)))))
    (lF (jR "Net" "many" (ct df (af (J 1) (aw))))
    (lF (jR "Net" "counts" (ct mF (af (J 1) (aw))))
    (lF (jR "Net" "joined" (ct mF (af (J 2) (aw))))
    (jR "Net" "far" (nA (b8 2 q9 (af (eX (iW "Net" "counts") (J 0)) (af (eX (iW "Net" "joined") (J 0)) (aw))))))))))
def Ah:List D→R (List Str×List D):=fun ag=>outI "Net" (uJ (jP "Net" ag))
theorem Vn:cN ["old","new"] ["old","new"] (bQ Bd):=⟨rfl,rfl,rfl,by decide+kernel,rfl,by decide+kernel,by decide+kernel⟩
noncomputable def x8:a8:=
    g5 (d6 1 [0,1] (eW (af (ct df (af (J 0) (aw))) (aw))) (bB 0) (bc (ai (bR false) (ai az (J 1) (J 0)) (ai az (J 2) (J 0)))) (J 0))
def ta:List D→R b1:=cZ 2 x8
theorem IL:cN ["_law_says_here","_law_door","_law_number","_law_pads"] ["_law_says_here","_law_door","_law_number"] (bQ BH):=⟨rfl,rfl,rfl,by decide+kernel,rfl,by decide+kernel,by decide+kernel⟩
noncomputable def yA:a8:=
    a4 (cR 3 (ai ru (c4 (eV (af (dJ (af (au (.str (PySem.Str.ofString "by"))) (af (ai az (c4 (eV (af (au (.str (PySem.Str.ofString "10x1"))) (af (au (.str (PySem.Str.ofString "0x00"))) (af (au (.str (PySem.Str.ofString "11x0"))) (aw)))))) (ai dN (J 2) (au (.int 3)))) (af (J 1) (af (ai az (J 1) (au (.int 0))) (aw)))))) (aw)))) (ai d9 (au (.int 5)) (ai dN (ai eU (J 2) (au (.int 3))) (au (.int 3))))))
    (cw (ai d9 (jS nX (J 3) (qZ) (mm (ai mC (au (.int 8)) (ct df (af (J 0) (aw)))))) (J 0)))
def v9:List D→R b1:=cZ 4 yA
theorem Vy:cN ["_law_books_here"] ["_law_books_here"] (bQ By):=⟨rfl,rfl,rfl,by decide+kernel,rfl,by decide+kernel,by decide+kernel⟩
def yq:a8:=
    g5 (d6 1 [] (g4 (J 0)) (bB 0) (fh) (c4 (iZ (af (J 0) (aw)))))
def th:List D→R b1:=cZ 1 yq
theorem Vx:cN ["_law_old","_law_new"] ["_law_old","_law_new"] (bQ Bx):=⟨rfl,rfl,rfl,by decide+kernel,rfl,by decide+kernel,by decide+kernel⟩
noncomputable def DM:a8:=
    g5 (d6 1 [0,1] (eW (af (ct df (af (J 0) (aw))) (aw))) (bB 0) (bc (ai (bR false) (ai az (J 1) (J 0)) (ai az (J 2) (J 0)))) (J 0))
def v3:List D→R b1:=cZ 2 DM
theorem VA:cN ["old","new","houses"] ["old","new","houses"] (bQ BP):=⟨rfl,rfl,rfl,by decide+kernel,rfl,by decide+kernel,by decide+kernel⟩
noncomputable def yG:a8:=
    g5 (d6 1 [2,1,0] (eW (af (ct df (af (J 0) (aw))) (aw))) (bB 0) (fh) (c4 (iZ (af (nC (bc (ai (inD true) (J 0) (J 1))) (ai az (J 2) (J 0)) (ai az (J 3) (J 0))) (aw)))))
def wb:List D→R b1:=cZ 3 yG
theorem Vs:cN ["thing"] ["thing"] (bQ Bj):=⟨rfl,rfl,rfl,by decide+kernel,rfl,by decide+kernel,by decide+kernel⟩
noncomputable def yd:a8:=
    a4 (c9 (fg (eO (bc (eX (iB "str") (J 0)))) (bc (ai (bR false) (ct df (af (J 0) (aw))) (ct df (af (au m6) (aw)))))) (cw (au (.aD false))) (dg))
    (cw (ct dx (af (c4 (d6 1 [] (qU (J 0)) (bB 0) (fh) (ai (inD true) (J 0) (au qk)))) (aw))))
def vW:List D→R b1:=cZ 1 yd
theorem Vp:cN ["thing"] ["thing"] (bQ Bg):=⟨rfl,rfl,rfl,by decide+kernel,rfl,by decide+kernel,by decide+kernel⟩
def yb:a8:=
    cw (b8 3 nF (af (J 0) (af (au (.int 0)) (af (au l7) (aw)))))
def vV:List D→R b1:=cZ 1 yb
theorem Vo:cN ["pattern","address"] ["pattern","address"] (bQ Bf):=⟨rfl,rfl,rfl,by decide+kernel,rfl,by decide+kernel,by decide+kernel⟩
noncomputable def x_:a8:=
    a4 (c9 (fg (eO (bc (b8 1 vW (af (J 0) (aw))))) (eO (bc (b8 1 vV (af (J 1) (aw)))))) (cw (au (.aD false))) (dg))
    (cw (ct dx (af (c4 (d6 2 [1] (qV (af (J 0) (af (au m6) (aw)))) (fX [bB 0,bB 1]) (fh) (ai (inD true) (J 0) (dJ (af (au (.str (PySem.Str.ofString "x"))) (af (ct pH (af (ai dN (ai eU (J 2) (J 1)) (au (.int 2))) (aw))) (aw))))))) (aw))))
def pb:List D→R b1:=cZ 2 x_
theorem Vl:cN ["pattern"] ["pattern"] (bQ Bb):=⟨rfl,rfl,rfl,by decide+kernel,rfl,by decide+kernel,by decide+kernel⟩
noncomputable def x6:a8:=
    g5 (d6 1 [0] (eW (af (ai d9 (au l7) (au (.int 1))) (aw))) (bB 0) (bc (b8 2 pb (af (J 1) (af (J 0) (aw))))) (J 0))
def vU:List D→R b1:=cZ 1 x6
theorem B0:cN ["book","door","address","number","row"] ["book","door","address"] (bQ BR):=⟨rfl,rfl,rfl,by decide+kernel,rfl,by decide+kernel,by decide+kernel⟩
noncomputable def yI:a8:=
    a4 (d7 (o5 (af (J 0) (aw))) (fX [bB 3,bB 4]) (c9 (iE (fg (bc (ai (fG true) (ai az (J 4) (au (.int 1))) (au .non))) (bc (ai (bR true) (ai az (J 4) (au (.int 1))) (J 1)))) (bc (b8 2 pb (af (ai az (J 4) (au (.int 0))) (af (J 2) (aw)))))) (cw (J 3)) (dg)))
    (cw (au .non))
def wc:List D→R b1:=cZ 5 yI
theorem Vi:cN ["self","door"] ["self","door"] (bQ A9):=⟨rfl,rfl,rfl,by decide+kernel,rfl,by decide+kernel,by decide+kernel⟩
def x5:a8:=
    cw (sY (eX (iW "Net" "far") (J 0)) (J 1))
def s9:List D→R b1:=cZ 2 x5
theorem wM:cN ["net","book","door","address","number","out","far"] ["net","book","door","address"] (bQ BQ):=⟨rfl,rfl,rfl,by decide+kernel,rfl,by decide+kernel,by decide+kernel⟩
noncomputable def qi:a8:=
    a4 (cR 4 (b8 3 wc (af (J 1) (af (ai az (J 2) (au (.int 1))) (af (J 3) (aw))))))
    (a4 (cR 5 (nC (bc (ai (fG true) (J 4) (au .non))) (au .non) (ai az (ai az (J 1) (J 4)) (au (.int 2)))))
    (a4 (c9 (bc (ai (fG true) (J 5) (au .non))) (cw (dJ (af (au (.str (PySem.Str.ofString "drop"))) (af (ai az (J 2) (au (.int 0))) (aw))))) (dg))
    (a4 (cR 6 (qY "Net" "beyond" 1 s9 (J 0) (af (dJ (af (ai az (J 2) (au (.int 0))) (af (J 5) (aw)))) (aw))))
    (a4 (c9 (bc (ai (fG true) (J 6) (au .non))) (cw (dJ (af (au (.str (PySem.Str.ofString "out"))) (af (ai az (J 2) (au (.int 0))) (af (J 5) (aw)))))) (dg))
    (cw (dJ (af (au (.str (PySem.Str.ofString "at"))) (af (ai az (J 6) (au (.int 0))) (af (ai az (J 6) (au (.int 1))) (aw))))))))))
def mr:List D→R b1:=cZ 7 qi
theorem wN:cN ["net","books","door","address","doors","told"] ["net","books","door","address"] (bQ BU):=⟨rfl,rfl,rfl,by decide+kernel,rfl,by decide+kernel,by decide+kernel⟩
noncomputable def DP:a8:=
    a4 (fH 4 (eV (aw)))
    (a4 (q8 (gH (bc (ai (inD false) (J 2) (J 4)))) (a4 (jn 4 (J 2))
    (a4 (cR 5 (b8 4 mr (af (J 0) (af (ai az (J 1) (ai az (J 2) (au (.int 0)))) (af (J 2) (af (J 3) (aw)))))))
    (a4 (c9 (bc (ai (bR false) (ai az (J 5) (au (.int 0))) (au (.str (PySem.Str.ofString "at"))))) (ig (dJ (af (J 4) (af (J 5) (aw))))) (dg))
    (cR 2 (dJ (af (ai az (J 5) (au (.int 1))) (af (ai az (J 5) (au (.int 2))) (aw)))))))))
    (ig (dJ (af (J 4) (af (dJ (af (au (.str (PySem.Str.ofString "ring"))) (af (nD (J 4) (af (J 2) (aw))) (aw)))) (aw))))))
def wg:List D→R b1:=cZ 6 DP
theorem BW:cN ["saying","doors","end","word","comes_by"] ["saying","doors","end"] (bQ Bm):=⟨rfl,rfl,rfl,by decide+kernel,rfl,by decide+kernel,by decide+kernel⟩
noncomputable def yg:a8:=
    a4 (cR 3 (ai az (J 0) (au (.int 0))))
    (a4 (c9 (bc (ai (bR true) (J 3) (au (.str (PySem.Str.ofString "comes"))))) (cw (ai (bR true) (J 2) (dJ (af (au (.str (PySem.Str.ofString "out"))) (af (ai az (ai az (J 0) (au (.int 3))) (au (.int 0))) (af (ai az (ai az (J 0) (au (.int 3))) (au (.int 1))) (aw))))))) (dg))
    (a4 (c9 (bc (ai (bR true) (J 3) (au (.str (PySem.Str.ofString "leaves"))))) (cw (ai (bR true) (ai az (J 2) (au (.int 0))) (au (.str (PySem.Str.ofString "out"))))) (dg))
    (a4 (c9 (bc (ai (bR true) (J 3) (au (.str (PySem.Str.ofString "noring"))))) (cw (ai (bR false) (ai az (J 2) (au (.int 0))) (au (.str (PySem.Str.ofString "ring"))))) (dg))
    (a4 (cR 4 (ai (inD true) (ai az (J 0) (au (.int 3))) (c4 (d6 1 [] (g4 (J 1)) (bB 0) (fh) (ai az (J 0) (au (.int 0)))))))
    (cw (ai (bR true) (J 4) (ai (bR true) (J 3) (au (.str (PySem.Str.ofString "by"))))))))))
def vZ:List D→R b1:=cZ 5 yg
theorem IG:cN ["net","books","saying","address","told"] ["net","books","saying","address"] (bQ Bl):=⟨rfl,rfl,rfl,by decide+kernel,rfl,by decide+kernel,by decide+kernel⟩
noncomputable def yf:a8:=
    a4 (cR 4 (b8 4 wg (af (J 0) (af (J 1) (af (ai az (J 2) (au (.int 2))) (af (J 3) (aw)))))))
    (cw (b8 3 vZ (af (J 2) (af (ai az (J 4) (au (.int 0))) (af (ai az (J 4) (au (.int 1))) (aw))))))
def vY:List D→R b1:=cZ 5 yf
theorem IM:cN ["net","books","saying","address"] ["net","books","saying"] (bQ BO):=⟨rfl,rfl,rfl,by decide+kernel,rfl,by decide+kernel,by decide+kernel⟩
noncomputable def yE:a8:=
    a4 (d7 (g4 (c4 (fV 1 vU (af (ai az (J 2) (au (.int 1))) (aw))))) (bB 3) (c9 (eO (bc (b8 4 vY (af (J 0) (af (J 1) (af (J 2) (af (J 3) (aw)))))))) (cw (J 3)) (dg)))
    (cw (au .non))
def wa:List D→R b1:=cZ 4 yE
theorem tQ:cN ["net","old","new","sayings","houses","books","number","saying","address"] ["net","old","new","sayings","houses"] (bQ BS):=⟨rfl,rfl,rfl,by decide+kernel,rfl,by decide+kernel,by decide+kernel⟩
noncomputable def yJ:a8:=
    a4 (cR 5 (c4 (fV 3 wb (af (J 1) (af (J 2) (af (J 4) (aw)))))))
    (a4 (d7 (o5 (af (J 3) (aw))) (fX [bB 6,bB 7]) (a4 (cR 8 (b8 3 wa (af (J 0) (af (J 5) (af (J 7) (aw))))))
    (c9 (bc (ai (fG false) (J 8) (au .non))) (cw (dJ (af (au (.str (PySem.Str.ofString "bad"))) (af (J 6) (af (J 8) (aw)))))) (dg))))
    (cw (au kG)))
def wd:List D→R b1:=cZ 9 yJ
theorem Vt:cN ["net","old","new","sayings","houses"] ["net","old","new","sayings","houses"] (bQ Bk):=⟨rfl,rfl,rfl,by decide+kernel,rfl,by decide+kernel,by decide+kernel⟩
noncomputable def ye:a8:=
    cw (ai (bR true) (b8 5 wd (af (J 0) (af (J 1) (af (J 2) (af (J 3) (af (J 4) (aw))))))) (au kG))
def vX:List D→R b1:=cZ 5 ye
theorem BX:cN ["_law_beyond_here","_law_books_here","_law_says_here","_law_number","_law_address"] ["_law_beyond_here","_law_books_here","_law_says_here"] (bQ Bq):=⟨rfl,rfl,rfl,by decide+kernel,rfl,by decide+kernel,by decide+kernel⟩
noncomputable def yk:a8:=
    a4 (d7 (eW (af (ct df (af (J 2) (aw))) (aw))) (bB 3) (a4 (cR 4 (b8 3 tg (af (J 0) (af (J 1) (af (ai az (J 2) (J 3)) (aw))))))
    (c9 (bc (ai (fG false) (J 4) (au .non))) (cw (dJ (af (J 3) (af (J 4) (aw))))) (dg))))
    (cw (au .non))
def te:List D→R b1:=cZ 5 yk
theorem Vz:cN ["_law_old","_law_new","_law_houses"] ["_law_old","_law_new","_law_houses"] (bQ BC):=⟨rfl,rfl,rfl,by decide+kernel,rfl,by decide+kernel,by decide+kernel⟩
noncomputable def yv:a8:=
    g5 (d6 1 [0,1,2] (eW (af (ct df (af (J 0) (aw))) (aw))) (bB 0) (fh) (c4 (iZ (af (ai az (ai az (c4 (eV (af (J 1) (af (J 2) (aw))))) (ct rI (af (ai (inD true) (J 0) (J 3)) (aw)))) (J 0)) (aw)))))
def v8:List D→R b1:=cZ 3 yv
theorem hJ:cN ["_law_script","_law_counts","_law_wires","_law_old","_law_new","_law_says_here","_law_net_here","_law_x","_law_handed","_law_some","_law_sets","_law_k","_law_beyond_here","_law_houses","_law_found","_law_due"] ["_law_script"] (bQ nU):=⟨rfl,rfl,rfl,by decide+kernel,rfl,by decide+kernel,by decide+kernel⟩
noncomputable def yj:a8:=
    a4 (mn (fX [bB 1,bB 2,bB 3,bB 4,bB 5]) (b8 3 rd (af (J 0) (af (au (.int 6)) (af (au (.int 3)) (aw))))))
    (a4 (cR 6 (qX "Net" 2 Ah (af (c4 (iZ (af (J 1) (aw)))) (af (c4 (iZ (af (J 2) (aw)))) (aw)))))
    (a4 (cR 7 (ai az (c4 (fV 3 g6 (af (b8 2 ih (af (J 0) (af (au (.int 26)) (aw)))) (af (au (.int 210)) (af (au (.int 1)) (aw)))))) (au (.int 0))))
    (a4 (c9 (bc (ai (bR true) (ai dN (J 7) (au (.int 2))) (au (.int 1)))) (cR 5 (b8 3 v9 (af (J 5) (af (ai az (b8 2 tl (af (J 1) (af (J 2) (aw)))) (au (.int 0))) (af (ai eU (J 7) (au (.int 2))) (aw)))))) (dg))
    (a4 (cR 8 (c4 (eV (af (c4 (fV 1 th (af (J 3) (aw)))) (af (c4 (fV 1 th (af (J 4) (aw)))) (af (c4 (iZ (af (J 5) (aw)))) (aw)))))))
    (a4 (fH 9 (fV 2 ta (af (ai az (J 8) (au (.int 0))) (af (ai az (J 8) (au (.int 1))) (aw)))))
    (a4 (c9 (gH (fg (eO (bc (eX (iB "list") (J 9)))) (bc (ai (bR false) (J 9) (c4 (fV 2 v3 (af (J 3) (af (J 4) (aw))))))))) (cw (au (.aD false))) (dg))
    (a4 (jn 9 (au (.int 7)))
    (a4 (c9 (bc (ai (bR false) (c4 (fV 2 ta (af (ai az (J 8) (au (.int 0))) (af (ai az (J 8) (au (.int 1))) (aw))))) (c4 (fV 2 v3 (af (J 3) (af (J 4) (aw))))))) (cw (au (.aD false))) (dg))
    (a4 (o3 (q2 9))
    (a4 (o4 9 (fH 10 (eV (af (c4 (eV (aw))) (af (c4 (iZ (af (J 9) (aw)))) (aw))))))
    (a4 (d7 (eW (af (au (.int 6)) (aw))) (bB 11) (a4 (cR 7 (ai az (c4 (fV 3 g6 (af (b8 2 ih (af (J 0) (af (ai d9 (au (.int 20)) (J 11)) (aw)))) (af (ai d9 (au (.int 200)) (J 11)) (af (au (.int 1)) (aw)))))) (au (.int 0))))
    (jn 10 (c4 (d6 1 [9,7] (eW (af (ct df (af (J 9) (aw))) (aw))) (bB 0) (bc (ai (bR true) (ai uG (ai wV (J 2) (J 0)) (au (.int 1))) (au (.int 1)))) (ai az (J 1) (J 0)))))))
    (a4 (o4 10 (cR 12 (b8 1 ra (af (J 2) (aw)))))
    (a4 (d7 (g4 (J 10)) (bB 13) (a4 (cR 14 (b8 5 vX (af (J 6) (af (ai az (J 8) (au (.int 0))) (af (ai az (J 8) (au (.int 1))) (af (ai az (J 8) (au (.int 2))) (af (c4 (iZ (af (J 13) (aw)))) (aw))))))))
    (a4 (cR 15 (ai (fG true) (b8 3 te (af (J 12) (af (c4 (fV 3 v8 (af (J 3) (af (J 4) (af (J 13) (aw)))))) (af (J 5) (aw))))) (au .non)))
    (c9 (fg (eO (bc (eX (iB "bool") (J 14)))) (fg (bc (ai (bR false) (J 14) (J 15))) (bc (ai (bR false) (J 8) (c4 (eV (af (J 3) (af (J 4) (af (J 5) (aw)))))))))) (cw (au (.aD false))) (dg)))))
    (cw (au (.aD true))))))))))))))))
def pd:List D→R b1:=cZ 16 yj
section
variable{P:Program}{w:World}{K:PySem.W.Frag}{mg:Str→Option Value}{base:Heap}(T:xR K mg)
include T
set_option maxHeartbeats 4000000
theorem oZ:c8 P w K mg base "_law_stream" 3 1 g6:=by
 have h:=dI (P:=P) (w:=w) (mg:=mg) (base:=base) (k:=0) (m:=uN) T.Fu nV;exact h fun _ _ _ _ _ _ _ hr _ _=>
 bo (lU 3 nV.aQ (gg (aF)))
  (bo (di 4 nV.aQ (f3 (ae 0) (aG)))
  (bo (d2 (gP hr.units (eh (ae 0) (aG)) (aG)) (bo (f5 PassesOwn.never (f6 T.fq (ao (ae 2) (aF))) (dZ 5 nV.aQ) (bo (n4 3 (eh (ae 4) (aG)))
  (bz (di 4 nV.aQ (f3 (ae 4) (aG))))))
  (bz (C2 3))) (d3))
  (bo (di 4 nV.aQ (eh (e0 (e0 (ue (ae 4) (aG)) (ue (ae 1) (aG))) (aG)) (aG)))
  (bo (f5 PassesOwn.never (f6 T.fq (ao (ae 2) (aF))) (dZ 5 nV.aQ) (bo (di 4 nV.aQ (eh (e0 (e0 (ue (ae 4) (aG)) (ue (aG) (ae 5))) (ae 1)) (aG)))
  (bz (n4 3 (f3 (ae 4) (aG))))))
  (bz (C2 3))))))
theorem QV:c8 P w K mg base "_law_net" 2 2 tj:=by
 have h:=dI (P:=P) (w:=w) (mg:=mg) (base:=base) (k:=1) (m:=yx) T.Fj lN;exact h fun _ _ _ _ _ _ _ hr _ _=>
 bo (di 2 lN.aQ (dB (hO (oZ T) (hr.mono (by decide)) (ao (ae 0) (ao (aG) (ao (aG) (aF)))))))
  (bo (di 3 lN.aQ (e0 (aG) (eh (bw (ae 2) (aG) aH) (ae 1))))
  (bo (C3 (C0 (N:=["_law_house","_law_xs","_law_many"]) 4 1 [2,3] lN.aQ (by rfl) (f6 T.fq (ao (ae 3) (aF))) (iS 0) (j3) (fun _ _ _ _ _ _ _=>e0 (aG) (eh (bw (ae 1) (e0 (aG) (ae 0)) aH) (bw (dB (gg (ao (aG) (ao (aG) (ao (aG) (ao (aG) (ao (aG) (ao (aG) (aF))))))))) (rP (ae 2) (aG)) aH)))))
  (bo (lU 5 lN.aQ (gg (aF)))
  (bo (f5 PassesOwn.never (f6 T.fq (ao (eJ T.et (ao (ae 4) (aF))) (aF))) (dZ 6 lN.aQ) (bz (lU 5 lN.aQ (Yc 5 (dB (i9 (N:=["_law_number","_law_house"]) 1 [6] (by rfl) (f6 T.fq (ao (bw (ae 4) (ae 6) aH) (aF))) (iS 0) (j3) (fun _ _ _ _ _ _ _=>ei (ao (ae 1) (ao (ae 0) (aF))))))))))
  (bo (lU 7 lN.aQ (gg (aF)))
  (bo (f5 PassesOwn.never (f6 T.fq (ao (CT (J1 T.yF (ao (aG) (ao (e0 (f3 (eJ T.et (ao (ae 5) (aF))) (aG)) (eh (bw (ae 2) (aG) aH) (aG))) (aF))))) (aF))) (dZ 8 lN.aQ) (bz (d2 (pS (hP (kq (C6 (eJ T.et (ao (ae 5) (aF))) (aG)) (k3 (hP (n6 (C6 (eJ T.et (ao (ae 5) (aF))) (aG)) (n6 (gP hr.units (ae 7) (dB (gg (aF)))) (pT (gP hr.units (eh (bw (ae 2) (aG) aH) (aG)) (aG)))))))))) (bo (Yi 9 lN.aQ (J4 5 (CT (eh (bw (ae 2) (e0 (aG) (ae 8)) aH) (eJ T.et (ao (ae 5) (aF)))))))
  (bz (Ye 7 (X6 (J8 (X3 (ae 9)) (J8 (J4 5 (CT (eh (f3 (bw (ae 2) (rP (aG) (ae 8)) aH) (aG)) (eJ T.et (ao (ae 5) (aF)))))) (X4))))))) (d3))))
  (bo (d2 (pS (hP (n6 (C6 (eJ T.et (ao (ae 7) (aF))) (aG)) (pT (gP hr.units (ae 5) (dB (gg (aF)))))))) (bz (Ke (J3 7))) (d3))
  (bz (n5 (ei (ao (ae 4) (ao (ae 7) (aF)))))))))))))
theorem G1:c8 P w K mg base "_law_pattern" 1 1 rg:=by
 have h:=dI (P:=P) (w:=w) (mg:=mg) (base:=base) (k:=0) (m:=yB) T.Fo tP;exact h fun _ _ _ _ _ _ _ hr _ _=>
 bo (di 1 tP.aQ (dt))
  (bo (f5 PassesOwn.never (f6 T.fq (ao (aG) (aF))) (dZ 2 tP.aQ) (bo (di 1 tP.aQ (e0 (ae 1) (bw (dt) (eh (ae 0) (aG)) aH)))
  (bz (di 0 tP.aQ (f3 (ae 0) (aG))))))
  (bz (cS (ae 1))))
theorem G2:c8 P w K mg base "_law_row" 2 2 rh:=by
 have h:=dI (P:=P) (w:=w) (mg:=mg) (base:=base) (k:=1) (m:=yC) T.Fq BZ;exact h fun _ _ _ _ _ _ _ hr _ _=>
 bo (di 2 BZ.aQ (bw (dB (gg (ao (hM) (ao (hM) (ao (eh (f3 (ae 0) (aG)) (ae 1)) (aF)))))) (eh (ae 0) (aG)) aH))
  (bo (di 3 BZ.aQ (bw (dB (gg (ao (hM) (ao (eh (f3 (ae 0) (aG)) (ae 1)) (ao (eh (f3 (ae 0) (aG)) (ae 1)) (ao (eh (f3 (ae 0) (aG)) (ae 1)) (aF))))))) (eh (f3 (ae 0) (aG)) (aG)) aH))
  (bz (cS (ei (ao (c6 (G1 T) (hr.mono (by decide)) (ao (f3 (ae 0) (aG)) (aF))) (ao (ae 2) (ao (ae 3) (aF))))))))
theorem QP:c8 P w K mg base "_law_book" 4 3 tf:=by
 have h:=dI (P:=P) (w:=w) (mg:=mg) (base:=base) (k:=2) (m:=ym) T.E7 II;exact h fun _ _ _ _ _ _ _ hr _ _=>
 bo (di 4 II.aQ (dB (hO (oZ T) (hr.mono (by decide)) (ao (ae 0) (ao (ae 1) (ao (e0 (ae 3) (aG)) (aF)))))))
  (bz (pR (i9 (N:=["_law_x","_law_count"]) 1 [2] (by rfl) (kp (J6 (ae 4) (xm (aG)) (xm (e0 (aG) (eh (bw (ae 4) (aG) aH) (e0 (ae 3) (aG))))))) (iS 0) (j3) (fun _ _ _ _ _ _ _=>c6 (G2 T) (hr.mono (by decide)) (ao (ae 0) (ao (ae 1) (aF)))))))
theorem oY:c8 P w K mg base "_law_cell_at" 2 1 ih:=by
 have h:=dI (P:=P) (w:=w) (mg:=mg) (base:=base) (k:=0) (m:=uM) T.Fb Vw;exact h fun _ _ _ _ _ _ _ hr _ _=>
 bo (d2 (Ki (ae 1) (eJ T.et (ao (ae 0) (aF)))) (bz (cS (eh (bw (ae 0) (ae 1) aH) (J2 (J2 (CW (aG) (aG)) (CW (aG) (aG))) (CW (aG) (aG)))))) (d3))
  (bz (cS (e0 (ue (aG) (ae 1)) (aG))))
theorem GV:c8 P w K mg base "_law_books" 4 4 nG:=by
 have h:=dI (P:=P) (w:=w) (mg:=mg) (base:=base) (k:=3) (m:=yn) T.E8 BY;exact h fun _ _ _ _ _ _ _ hr _ _=>
 bo (C4 4 BY.aQ (Ya (XO)))
  (bo (f5 PassesOwn.never (f6 T.fq (ao (eJ T.et (ao (ae 2) (aF))) (aF))) (dZ 5 BY.aQ) (bz (Yd 4 (hO (QP T) (hr.mono (by decide)) (ao (c6 (oY T) (hr.mono (by decide)) (ao (ae 0) (ao (e0 (ae 1) (ae 5)) (aF)))) (ao (e0 (aG) (ae 5)) (ao (bw (ae 2) (ae 5) aH) (ao (ae 3) (aF)))))))))
  (bz (Yh 4)))
theorem z9:c8 P w K mg base "_law_beyond" 1 1 ra:=by
 have h:=dI (P:=P) (w:=w) (mg:=mg) (base:=base) (k:=0) (m:=yl) T.E6 wI;exact h fun _ _ _ _ _ _ _ hr _ _=>
 bo (Kf 1 wI.aQ)
  (bo (f5 PassesOwn.never (kp (ae 0)) (nK rfl (gI (dZ 2 wI.aQ) (gI (dZ 3 wI.aQ) (nJ)))) (bo (xn 1 hr.units (ae 2) (ae 3))
  (bz (xn 1 hr.units (ae 3) (ae 2)))))
  (bz (n5 (ae 1))))
theorem QZ:c8 P w K mg base "_law_saying" 3 2 nH:=by
 have h:=dI (P:=P) (w:=w) (mg:=mg) (base:=base) (k:=1) (m:=ow) T.Fs wL;exact h fun _ _ _ _ _ _ _ hr _ _=>
 bo (di 3 wL.aQ (bw (dB (gg (ao (dt) (ao (dt) (ao (dt) (ao (dt) (ao (dt) (aF)))))))) (eh (ae 0) (aG)) aH))
  (bo (di 4 wL.aQ (bw (ae 2) (eh (f3 (ae 0) (aG)) (eJ T.et (ao (ae 2) (aF)))) aH))
  (bo (di 5 wL.aQ (c6 (G1 T) (hr.mono (by decide)) (ao (f3 (ae 0) (aG)) (aF))))
  (bo (d2 (gP hr.units (ae 3) (dt)) (bz (cS (ei (ao (ae 3) (ao (ae 5) (ao (ae 4) (ao (bw (ae 2) (eh (f3 (ae 0) (aG)) (eJ T.et (ao (ae 2) (aF)))) aH) (aF)))))))) (d3))
  (bo (d2 (hP (kq (gP hr.units (ae 3) (dt)) (k3 (gP hr.units (ae 3) (dt))))) (bz (cS (ei (ao (ae 3) (ao (ae 5) (ao (ae 4) (ao (eh (f3 (ae 0) (aG)) (eJ T.et (ao (ae 1) (aF)))) (aF)))))))) (d3))
  (bz (cS (ei (ao (ae 3) (ao (ae 5) (ao (ae 4) (aF)))))))))))
theorem Zu:p6 P w K mg base "Net" "count" 1 1 Rx:=by
 have h:=J9 (P:=P) (w:=w) (mg:=mg) (base:=base) (k:=0) (m:=DJ) T.EN Vj;exact h fun _ _ _ _ _ _ _ hr _ _=>
 bz (cS (CU (Kh tB HN tw Ss (aG) (ae 1) (uc T.lC (ae 0))) (bw (uc T.lC (ae 0)) (ae 1) aH) (aG)))
theorem QU:c8 P w K mg base "_law_narrow" 1 1 ti:=by
 have h:=dI (P:=P) (w:=w) (mg:=mg) (base:=base) (k:=0) (m:=yw) T.Fi pD;exact h fun _ _ _ _ _ _ _ hr _ _=>
 bo (di 1 pD.aQ (dt))
  (bo (f5 PassesOwn.never (f6 T.fq (ao (aG) (aF))) (dZ 2 pD.aQ) (bo (di 3 pD.aQ (bw (dt) (eh (ae 0) (aG)) aH))
  (bo (d2 (hP (n6 (gP hr.units (XR (ae 1) (dt)) (aG)) (pT (gP hr.units (ae 3) (dt))))) (bz (di 3 pD.aQ (bw (dt) (eh (f3 (ae 0) (aG)) (aG)) aH))) (d3))
  (bo (di 1 pD.aQ (e0 (ae 1) (ae 3)))
  (bz (di 0 pD.aQ (f3 (ae 0) (aG))))))))
  (bz (cS (ae 1))))
theorem GZ:c8 P w K mg base "_law_fits" 2 1 rf:=by
 have h:=dI (P:=P) (w:=w) (mg:=mg) (base:=base) (k:=0) (m:=yt) T.Ff IK;exact h fun _ _ _ _ _ _ _ hr _ _=>
 bo (f5 PassesOwn.never (f6 T.fq (ao (aG) (aF))) (dZ 2 IK.aQ) (bz (d2 (hP (n6 (k2 hr.units (bw (ae 0) (ae 2) aH) (dt)) (pT (k2 hr.units (bw (ae 0) (ae 2) aH) (bw (dt) (JX (J5 (ae 1) (rP (aG) (ae 2))) (aG)) aH))))) (bz (cS (k1))) (d3))))
  (bz (cS (k1)))
theorem QW:c8 P w K mg base "_law_next" 4 2 tk:=by
 have h:=dI (P:=P) (w:=w) (mg:=mg) (base:=base) (k:=1) (m:=yy) T.Fl rv;exact h fun _ _ _ _ _ _ _ hr _ _=>
 bo (xo (ae 2) (nK rfl (gI (dZ 4 rv.aQ) (gI (dZ 5 rv.aQ) (nJ)))))
  (bo (f5 PassesOwn.never (kp (bw (ae 1) (ae 4) aH)) (nK rfl (gI (dZ 6 rv.aQ) (gI (dZ 7 rv.aQ) (gI (dZ 8 rv.aQ) (nJ))))) (bz (d2 (hP (n6 (hP (kq (rQ (ae 7) (hM)) (k3 (gP hr.units (ae 7) (ae 5))))) (pT (hj (c6 (GZ T) (hr.mono (by decide)) (ao (ae 6) (ao (ae 3) (aF)))))))) (bo (d2 (rQ (ae 8) (hM)) (bz (cS (ei (ao (dt) (ao (ae 4) (aF)))))) (d3))
  (bo (d2 (C5 hr.units (ei (ao (ae 4) (ao (ae 8) (aF)))) (ae 0)) (bz (cS (ei (ao (dt) (ao (XT hr.units (ae 0) (ei (ao (ae 4) (ao (ae 8) (aF)))) (by intro _ _;rfl)) (aF)))))) (d3))
  (bz (cS (ei (ao (dt) (ao (ae 4) (ao (ae 8) (aF))))))))) (d3))))
  (bz (cS (ei (ao (dt) (ao (ae 4) (aF)))))))
theorem QY:c8 P w K mg base "_law_road" 4 3 v_:=by
 have h:=dI (P:=P) (w:=w) (mg:=mg) (base:=base) (k:=2) (m:=DN) T.Fp wK;exact h fun _ _ _ _ _ _ _ hr _ _=>
 bo (lU 4 wK.aQ (gg (aF)))
  (bo (Kg PassesOwn.never (pS (Kj hr.units (ae 2) (ae 4))) (bo (n4 4 (ae 2))
  (bo (di 5 wK.aQ (c6 (QW T) (hr.mono (by decide)) (ao (ae 0) (ao (ae 1) (ao (ae 2) (ao (ae 3) (aF)))))))
  (bo (d2 (k2 hr.units (bw (ae 5) (aG) aH) (dt)) (bz (n5 (ei (ao (ae 4) (ao (ae 5) (aF)))))) (d3))
  (bz (di 2 wK.aQ (bw (ae 5) (aG) aH)))))))
  (bz (n5 (ei (ao (ae 4) (ao (ei (ao (dt) (ao (JZ hr.units (ae 4) (ao (ae 2) (aF))) (aF)))) (aF)))))))
theorem QS:c8 P w K mg base "_law_is_so" 4 4 v7:=by
 have h:=dI (P:=P) (w:=w) (mg:=mg) (base:=base) (k:=3) (m:=yu) T.Fg wJ;exact h fun _ _ _ _ _ _ _ hr _ _=>
 bo (xo (c6 (QY T) (hr.mono (by decide)) (ao (ae 0) (ao (ae 1) (ao (bw (ae 2) (aG) aH) (ao (ae 3) (aF)))))) (nK rfl (gI (dZ 4 wJ.aQ) (gI (dZ 5 wJ.aQ) (nJ)))))
  (bo (d2 (gP hr.units (bw (ae 2) (aG) aH) (dt)) (bz (cS (lT hr.units (ae 5) (JY (ei (ao (dt) (aF))) (bw (ae 2) (aG) aH))))) (d3))
  (bo (d2 (gP hr.units (bw (ae 2) (aG) aH) (dt)) (bz (cS (lT hr.units (bw (ae 5) (aG) aH) (dt)))) (d3))
  (bo (d2 (gP hr.units (bw (ae 2) (aG) aH) (dt)) (bz (cS (CV hr.units (bw (ae 5) (aG) aH) (dt)))) (d3))
  (bo (C3 (C0 (N:=["_law_house","_law_number"]) 6 2 [] wJ.aQ (by rfl) (kp (ae 4)) (DO 0 1) (j3) (fun _ _ _ _ _ _ _=>ae 0)))
  (bz (cS (lT hr.units (ud hr.units (bw (ae 2) (aG) aH) (ae 6)) (lT hr.units (bw (ae 2) (aG) aH) (dt)))))))))
theorem GW:c8 P w K mg base "_law_broken" 3 5 tg:=by
 have h:=dI (P:=P) (w:=w) (mg:=mg) (base:=base) (k:=4) (m:=yo) T.E9 IJ;exact h fun _ _ _ _ _ _ _ hr _ _=>
 bo (f5 PassesOwn.never (f6 T.fq (ao (aG) (aF))) (dZ 3 IJ.aQ) (bz (d2 (hP (n6 (hj (c6 (GZ T) (hr.mono (by decide)) (ao (bw (ae 2) (aG) aH) (ao (ae 3) (aF))))) (pT (i_ (hj (c6 (QS T) (hr.mono (by decide)) (ao (ae 0) (ao (ae 1) (ao (ae 2) (ao (ae 3) (aF))))))))))) (bz (cS (ae 3))) (d3))))
  (bz (cS (hM)))
theorem Q0:c8 P w K mg base "_law_says" 6 6 tm:=by
 have h:=dI (P:=P) (w:=w) (mg:=mg) (base:=base) (k:=5) (m:=yD) T.Ft pE;exact h fun _ _ _ _ _ _ _ hr _ _=>
 bo (lU 6 pE.aQ (gg (aF)))
  (bo (f5 PassesOwn.never (f6 T.fq (ao (ae 5) (aF))) (dZ 7 pE.aQ) (bo (lU 8 pE.aQ (gg (aF)))
  (bo (f5 PassesOwn.never (kp (dB (hO (oZ T) (hr.mono (by decide)) (ao (c6 (oY T) (hr.mono (by decide)) (ao (ae 0) (ao (e0 (aG) (ae 7)) (aF)))) (ao (e0 (aG) (ae 7)) (ao (aG) (aF))))))) (dZ 9 pE.aQ) (bo (di 10 pE.aQ (c6 (QZ T) (hr.mono (by decide)) (ao (ae 9) (ao (ae 2) (ao (ae 3) (aF))))))
  (bz (n4 8 (JY (ei (ao (bw (ae 10) (aG) aH) (ao (c6 (QU T) (hr.mono (by decide)) (ao (f3 (ae 9) (aG)) (aF))) (aF)))) (XZ (ae 10) (xm (aG)) (Kc)))))))
  (bo (C1 8 (C3 (C0 (N:=["_law_one","_law_both","_law_beyond_here"]) 11 1 [4,1] pE.aQ (by rfl) (kp (ae 8)) (Lb 0) (rO (fun _ _ _ _ _ _ _=>hj (xk hr T.r_ (ao (dB (i9 (N:=["_law_books_here","_law_beyond_here","_law_one"]) 1 [2,0] (by rfl) (kp (ae 1)) (iS 0) (j3) (fun _ _ _ _ _ _ _=>J0 (c6 (GW T) (hr.mono (by decide)) (ao (ae 1) (ao (ae 0) (ao (ae 2) (aF))))) (hM)))) (aF))))) (fun _ _ _ _ _ _ _=>ae 0))))
  (bz (n4 6 (bw (e0 (ae 11) (ae 8)) (aG) aH)))))))
  (bz (C2 6)))
theorem QR:xM P w K mg base "_law_exchanged" 3 3 v5:=by
 have h:=LS (P:=P) (w:=w) (mg:=mg) (base:=base) (k:=2) (m:=yr) T.Fe tN;exact h fun _ _ _ _ _ _ _ hr _ _=>
 xp (C7 5 tN.aQ (dB (hO (oZ T) (hr.mono (by decide)) (ao (ae 3) (ao (ae 4) (ao (aG) (aF)))))))
  (xp (C7 6 tN.aQ (eh (bw (ae 5) (aG) aH) (eJ T.et (ao (ae 2) (aF)))))
  (xp (C7 7 tN.aQ (c6 (G2 T) (hr.mono (by decide)) (ao (bw (ae 5) (aG) aH) (ao (bw (ae 2) (ae 6) aH) (aF)))))
  (xp (Yp 0 1 8 PassesOwn.never (eh (bw (ae 5) (aG) aH) (aG)) aH (CY (X9 (pS (Ki (eJ T.et (ao (bw (ae 8) (ae 6) aH) (aF))) (aG))) (CY (X8 8 (ae 6) aH (ae 7))) (CY (X_ 8 (ae 6) aH (eh (f3 (bw (ae 5) (aG) aH) (aG)) (aG)) (ae 7))))) tN.aQ (by decide) (by decide) (by decide))
  (Yq (Yr (ae 6))))))
theorem G0:c8 P w K mg base "_law_outer" 2 2 tl:=by
 have h:=dI (P:=P) (w:=w) (mg:=mg) (base:=base) (k:=1) (m:=yz) T.Fm tO;exact h fun _ _ _ _ _ _ _ hr _ _=>
 bo (di 2 tO.aQ (c6 (z9 T) (hr.mono (by decide)) (ao (ae 1) (aF))))
  (bo (di 3 tO.aQ (dB (gg (aF))))
  (bo (f5 PassesOwn.never (f6 T.fq (ao (eJ T.et (ao (ae 0) (aF))) (aF))) (dZ 4 tO.aQ) (bz (di 3 tO.aQ (e0 (ae 3) (dB (i9 (N:=["_law_k","_law_house","_law_beyond_here"]) 1 [4,2] (by rfl) (f6 T.fq (ao (bw (ae 0) (ae 4) aH) (aF))) (iS 0) (rO (fun _ _ _ _ _ _ _=>Yj hr.units (ei (ao (ae 1) (ao (ae 0) (aF)))) (ae 2))) (fun _ _ _ _ _ _ _=>ei (ao (ae 1) (ao (ae 0) (aF))))))))))
  (bz (cS (ae 3)))))
theorem QQ:c8 P w K mg base "_law_case" 3 7 rd:=by
 have h:=dI (P:=P) (w:=w) (mg:=mg) (base:=base) (k:=6) (m:=yp) T.E_ lM;exact h fun _ _ _ _ _ _ _ hr _ _=>
 bo (xo (c6 (QV T) (hr.mono (by decide)) (ao (c6 (oY T) (hr.mono (by decide)) (ao (ae 0) (ao (aG) (aF)))) (ao (ae 1) (aF)))) (nK rfl (gI (dZ 3 lM.aQ) (gI (dZ 4 lM.aQ) (nJ)))))
  (bo (C4 5 lM.aQ (J_ (GV T) (hr.mono (by decide)) (ao (ae 0) (ao (aG) (ao (ae 3) (ao (aG) (aF)))))))
  (bo (C4 6 lM.aQ (J_ (GV T) (hr.mono (by decide)) (ao (ae 0) (ao (aG) (ao (ae 3) (ao (aG) (aF)))))))
  (bo (di 7 lM.aQ (dB (hO (oZ T) (hr.mono (by decide)) (ao (c6 (oY T) (hr.mono (by decide)) (ao (ae 0) (ao (aG) (aF)))) (ao (aG) (ao (aG) (aF)))))))
  (bo (f5 PassesOwn.never (f6 T.fq (ao (eJ T.et (ao (ae 3) (aF))) (aF))) (dZ 8 lM.aQ) (bz (d2 (gP hr.units (eh (bw (ae 7) (ae 8) aH) (aG)) (aG)) (bz (Yg 6 (ae 8) (Kb (mK T.jC (ao (bw (ae 5) (ae 8) aH) (aF)))))) (d3))))
  (bo (f5 PassesOwn.never (Yl T.fq (ao (aG) (ao (J1 T.yF (ao (aG) (ao (eJ T.et (ao (ae 0) (aF))) (aF)))) (aF)))) (dZ 9 lM.aQ) (bz (Yf 5 6 (QR T) (hr.mono (by decide)) (ao (ae 3) (ao (c6 (oY T) (hr.mono (by decide)) (ao (ae 0) (ao (ae 9) (aF)))) (ao (e0 (aG) (ae 9)) (aF)))))))
  (bo (di 10 lM.aQ (c6 (z9 T) (hr.mono (by decide)) (ao (ae 4) (aF))))
  (bo (di 11 lM.aQ (dB (Kb (hO (Q0 T) (hr.mono (by decide)) (ao (ae 0) (ao (ae 10) (ao (ae 3) (ao (c6 (G0 T) (hr.mono (by decide)) (ao (ae 3) (ao (ae 4) (aF)))) (ao (dB (gg (ao (ae 5) (ao (ae 6) (aF))))) (ao (eh (bw (ae 7) (aG) aH) (e0 (ae 2) (aG))) (aF)))))))))))
  (bz (n5 (ei (ao (ae 3) (ao (ae 4) (ao (ae 5) (ao (ae 6) (ao (ae 11) (aF))))))))))))))))
theorem GU:c8 P w K mg base "is_pair" 1 1 td:=by
 have h:=dI (P:=P) (w:=w) (mg:=mg) (base:=base) (k:=0) (m:=DK) T.EX Vr;exact h fun _ _ _ _ _ _ _ hr _ _=>
 bz (cS (ub (n2 (W3 _) T.l3 T.uO (by kernel_rfl) (ae 0)) (uf (lT hr.units (eJ T.et (ao (ae 0) (aF))) (aG)))))
theorem QM:c8 P w K mg base "is_whole" 1 1 Ai:=by
 have h:=dI (P:=P) (w:=w) (mg:=mg) (base:=base) (k:=0) (m:=DL) T.E2 Vu;exact h fun _ _ _ _ _ _ _ hr _ _=>
 bz (cS (ub (n2 (W0 _) T.l3 T.ya (by kernel_rfl) (ae 0)) (uf (XX (n2 (JE _) T.l3 T.x7 (by kernel_rfl) (ae 0))))))
theorem vL:c8 P w K mg base "is_whole_within" 3 2 nF:=by
 have h:=dI (P:=P) (w:=w) (mg:=mg) (base:=base) (k:=1) (m:=yh) T.E3 Vv;exact h fun _ _ _ _ _ _ _ hr _ _=>
 bz (cS (ub (c6 (QM T) (hr.mono (by decide)) (ao (ae 0) (aF))) (uf (XQ tB tB tw tw (ae 1) (ae 0) (ae 2)))))
theorem GS:c8 P w K mg base "is_door_among" 2 3 tc:=by
 have h:=dI (P:=P) (w:=w) (mg:=mg) (base:=base) (k:=2) (m:=yc) T.EW Vq;exact h fun _ _ _ _ _ _ _ hr _ _=>
 bo (d2 (hP (kq (i_ (hj (c6 (GU T) (hr.mono (by decide)) (ao (ae 1) (aF))))) (k3 (i_ (hj (c6 (vL T) (hr.mono (by decide)) (ao (bw (ae 1) (aG) aH) (ao (aG) (ao (rP (eJ T.et (ao (ae 0) (aF))) (aG)) (aF)))))))))) (bz (cS (k1))) (d3))
  (bz (cS (c6 (vL T) (hr.mono (by decide)) (ao (bw (ae 1) (aG) aH) (ao (aG) (ao (rP (bw (ae 0) (bw (ae 1) (aG) aH) aH) (aG)) (aF)))))))
theorem QN:c8 P w K mg base "is_wire_among" 2 4 q_:=by
 have h:=dI (P:=P) (w:=w) (mg:=mg) (base:=base) (k:=3) (m:=yi) T.E4 IH;exact h fun _ _ _ _ _ _ _ hr _ _=>
 bo (d2 (i_ (hj (c6 (GU T) (hr.mono (by decide)) (ao (ae 1) (aF))))) (bz (cS (k1))) (d3))
  (bo (di 2 IH.aQ (ub (c6 (GS T) (hr.mono (by decide)) (ao (ae 0) (ao (bw (ae 1) (aG) aH) (aF)))) (uf (c6 (GS T) (hr.mono (by decide)) (ao (ae 0) (ao (bw (ae 1) (aG) aH) (aF)))))))
  (bz (cS (ub (ae 2) (uf (CV hr.units (bw (ae 1) (aG) aH) (bw (ae 1) (aG) aH)))))))
theorem QG:c8 P w K mg base "far_doors" 2 5 q9:=by
 have h:=dI (P:=P) (w:=w) (mg:=mg) (base:=base) (k:=4) (m:=uL) T.ET BV;exact h fun _ _ _ _ _ _ _ hr _ _=>
 bo (Kf 2 BV.aQ)
  (bo (f5 PassesOwn.never (Yn (ae 1)) (dZ 3 BV.aQ) (bo (d2 (i_ (hj (c6 (QN T) (hr.mono (by decide)) (ao (ae 0) (ao (ae 3) (aF)))))) (bz (Kd)) (d3))
  (bo (d2 (pS (hP (kq (C5 hr.units (bw (ae 3) (aG) aH) (ae 2)) (k3 (C5 hr.units (bw (ae 3) (aG) aH) (ae 2)))))) (bz (Kd)) (d3))
  (bo (xn 2 hr.units (bw (ae 3) (aG) aH) (bw (ae 3) (aG) aH))
  (bz (xn 2 hr.units (bw (ae 3) (aG) aH) (bw (ae 3) (aG) aH)))))))
  (bz (n5 (ae 2))))
theorem QF:c8 P w K mg base "are_counts" 1 3 s_:=by
 have h:=dI (P:=P) (w:=w) (mg:=mg) (base:=base) (k:=2) (m:=uK) T.ER Vm;exact h fun _ _ _ _ _ _ _ hr _ _=>
 bo (d2 (hP (kq (i_ (hj (n2 (Cv _) T.l3 T.jC (by kernel_rfl) (ae 0)))) (k3 (i_ (Kh tB tB tw tw (aG) (eJ T.et (ao (ae 0) (aF))) (mJ T.ox)))))) (bz (cS (k1))) (d3))
  (bz (cS (xk hr T.r_ (ao (dB (i9 (N:=["doors"]) 1 [] (by rfl) (kp (ae 0)) (iS 0) (j3) (fun _ _ _ _ _ _ _=>c6 (vL T) (hr.mono (by decide)) (ao (ae 0) (ao (aG) (ao (mJ T.qj) (aF))))))) (aF)))))
theorem QD:um P w K mg base "Net" 2 6 Ah:=by
 have h:=X7 (P:=P) (w:=w) (mg:=mg) (base:=base) (k:=5) (m:=uJ) T.EO Vk;exact h fun _ _ _ _ _ _ _ hr _ _=>
 ug (Ka (i_ (hj (c6 (QF T) (hr.mono (by decide)) (ao (ae 1) (aF))))))
  (ug (Ka (i_ (hj (n2 (Cv _) T.l3 T.jC (by kernel_rfl) (ae 2)))))
  (ug (xl T.lC (eJ T.et (ao (ae 1) (aF))))
  (ug (xl T.lC (J7 T.uO (ao (ae 1) (aF))))
  (ug (xl T.lC (J7 T.uO (ao (ae 2) (aF))))
  (Yb (xl T.lC (XP (c6 (QG T) (hr.mono (by decide)) (ao (uc T.lC (ae 0)) (ao (uc T.lC (ae 0)) (aF)))))))))))
theorem GQ:c8 P w K mg base "changers" 2 1 ta:=by
 have h:=dI (P:=P) (w:=w) (mg:=mg) (base:=base) (k:=0) (m:=x8) T.ES Vn;exact h fun _ _ _ _ _ _ _ hr _ _=>
 bz (pR (i9 (N:=["house","old","new"]) 1 [0,1] (by rfl) (f6 T.fq (ao (eJ T.et (ao (ae 0) (aF))) (aF))) (iS 0) (rO (fun _ _ _ _ _ _ _=>k2 hr.units (bw (ae 1) (ae 0) aH) (bw (ae 2) (ae 0) aH))) (fun _ _ _ _ _ _ _=>ae 0)))
theorem QX:c8 P w K mg base "_law_padded" 3 1 v9:=by
 have h:=dI (P:=P) (w:=w) (mg:=mg) (base:=base) (k:=0) (m:=yA) T.Fn IL;exact h fun _ _ _ _ _ _ _ hr _ _=>
 bo (di 3 IL.aQ (XY (dB (gg (ao (ei (ao (dt) (ao (bw (dB (gg (ao (dt) (ao (dt) (ao (dt) (aF)))))) (eh (ae 2) (aG)) aH) (ao (ae 1) (ao (bw (ae 1) (aG) aH) (aF)))))) (aF)))) (e0 (aG) (eh (f3 (ae 2) (aG)) (aG)))))
  (bz (cS (e0 (J6 (ae 3) (Kc) (xm (rP (aG) (eJ T.et (ao (ae 0) (aF)))))) (ae 0))))
theorem GY:c8 P w K mg base "_law_copied" 1 1 th:=by
 have h:=dI (P:=P) (w:=w) (mg:=mg) (base:=base) (k:=0) (m:=yq) T.Fd Vy;exact h fun _ _ _ _ _ _ _ hr _ _=>
 bz (pR (i9 (N:=["_law_book_here"]) 1 [] (by rfl) (kp (ae 0)) (iS 0) (j3) (fun _ _ _ _ _ _ _=>dB (mK T.jC (ao (ae 0) (aF))))))
theorem GX:c8 P w K mg base "_law_changers" 2 1 v3:=by
 have h:=dI (P:=P) (w:=w) (mg:=mg) (base:=base) (k:=0) (m:=DM) T.Fc Vx;exact h fun _ _ _ _ _ _ _ hr _ _=>
 bz (pR (i9 (N:=["_law_house","_law_old","_law_new"]) 1 [0,1] (by rfl) (f6 T.fq (ao (eJ T.et (ao (ae 0) (aF))) (aF))) (iS 0) (rO (fun _ _ _ _ _ _ _=>k2 hr.units (bw (ae 1) (ae 0) aH) (bw (ae 2) (ae 0) aH))) (fun _ _ _ _ _ _ _=>ae 0)))
theorem Q2:c8 P w K mg base "mixed" 3 1 wb:=by
 have h:=dI (P:=P) (w:=w) (mg:=mg) (base:=base) (k:=0) (m:=yG) T.Fx VA;exact h fun _ _ _ _ _ _ _ hr _ _=>
 bz (pR (i9 (N:=["house","houses","new","old"]) 1 [2,1,0] (by rfl) (f6 T.fq (ao (eJ T.et (ao (ae 0) (aF))) (aF))) (iS 0) (j3) (fun _ _ _ _ _ _ _=>dB (mK T.jC (ao (CU (Yk hr.units (ae 0) (ae 1)) (bw (ae 2) (ae 0) aH) (bw (ae 3) (ae 0) aH)) (aF))))))
theorem QI:c8 P w K mg base "is_pattern" 1 1 vW:=by
 have h:=dI (P:=P) (w:=w) (mg:=mg) (base:=base) (k:=0) (m:=yd) T.EY Vs;exact h fun _ _ _ _ _ _ _ hr _ _=>
 bo (d2 (hP (kq (i_ (hj (n2 (W2 _) T.l3 T.yH (by kernel_rfl) (ae 0)))) (k3 (k2 hr.units (eJ T.et (ao (ae 0) (aF))) (eJ T.et (ao (mJ T.m6) (aF))))))) (bz (cS (k1))) (d3))
  (bz (cS (xk hr T.r_ (ao (dB (i9 (N:=["sign"]) 1 [] (by rfl) (Ym (ae 0)) (iS 0) (j3) (fun _ _ _ _ _ _ _=>ud hr.units (ae 0) (mJ T.qk)))) (aF)))))
theorem QH:c8 P w K mg base "is_address" 1 3 vV:=by
 have h:=dI (P:=P) (w:=w) (mg:=mg) (base:=base) (k:=2) (m:=yb) T.EV Vp;exact h fun _ _ _ _ _ _ _ hr _ _=>
 bz (cS (c6 (vL T) (hr.mono (by decide)) (ao (ae 0) (ao (aG) (ao (mJ T.l7) (aF))))))
theorem GR:c8 P w K mg base "fits" 2 4 pb:=by
 have h:=dI (P:=P) (w:=w) (mg:=mg) (base:=base) (k:=3) (m:=x_) T.EU Vo;exact h fun _ _ _ _ _ _ _ hr _ _=>
 bo (d2 (hP (kq (i_ (hj (c6 (QI T) (hr.mono (by decide)) (ao (ae 0) (aF))))) (k3 (i_ (hj (c6 (QH T) (hr.mono (by decide)) (ao (ae 1) (aF)))))))) (bz (cS (k1))) (d3))
  (bz (cS (xk hr T.r_ (ao (dB (i9 (N:=["sign","worth","address"]) 2 [1] (by rfl) (Yo T.DQ (ao (ae 0) (ao (mJ T.m6) (aF)))) (DO 0 1) (j3) (fun _ _ _ _ _ _ _=>ud hr.units (ae 0) (ei (ao (dt) (ao (X0 T.yH (ao (eh (f3 (ae 2) (ae 1)) (aG)) (aF))) (aF))))))) (aF)))))
theorem QE:c8 P w K mg base "addresses" 1 5 vU:=by
 have h:=dI (P:=P) (w:=w) (mg:=mg) (base:=base) (k:=4) (m:=x6) T.EP Vl;exact h fun _ _ _ _ _ _ _ hr _ _=>
 bz (pR (i9 (N:=["address","pattern"]) 1 [0] (by rfl) (f6 T.fq (ao (e0 (mJ T.l7) (aG)) (aF))) (iS 0) (rO (fun _ _ _ _ _ _ _=>hj (c6 (GR T) (hr.mono (by decide)) (ao (ae 1) (ao (ae 0) (aF)))))) (fun _ _ _ _ _ _ _=>ae 0)))
theorem Q4:c8 P w K mg base "taken" 3 5 wc:=by
 have h:=dI (P:=P) (w:=w) (mg:=mg) (base:=base) (k:=4) (m:=yI) T.Fz B0;exact h fun _ _ _ _ _ _ _ hr _ _=>
 bo (f5 PassesOwn.never (Kl T.x9 (ao (ae 0) (aF))) (nK rfl (gI (dZ 3 B0.aQ) (gI (dZ 4 B0.aQ) (nJ)))) (bz (d2 (hP (n6 (hP (kq (rQ (bw (ae 4) (aG) aH) (hM)) (k3 (gP hr.units (bw (ae 4) (aG) aH) (ae 1))))) (pT (hj (c6 (GR T) (hr.mono (by decide)) (ao (bw (ae 4) (aG) aH) (ao (ae 2) (aF)))))))) (bz (cS (ae 3))) (d3))))
  (bz (cS (hM)))
theorem QC:p6 P w K mg base "Net" "beyond" 1 1 s9:=by
 have h:=J9 (P:=P) (w:=w) (mg:=mg) (base:=base) (k:=0) (m:=x5) T.EM Vi;exact h fun _ _ _ _ _ _ _ hr _ _=>
 bz (cS (XS hr.units (uc T.lC (ae 0)) (ae 1)))
theorem Q3:c8 P w K mg base "onward" 4 6 mr:=by
 have h:=dI (P:=P) (w:=w) (mg:=mg) (base:=base) (k:=5) (m:=qi) T.Fy wM;exact h fun _ _ _ _ _ _ _ hr _ _=>
 bo (di 4 wM.aQ (c6 (Q4 T) (hr.mono (by decide)) (ao (ae 1) (ao (bw (ae 2) (aG) aH) (ao (ae 3) (aF))))))
  (bo (di 5 wM.aQ (CU (rQ (ae 4) (hM)) (hM) (bw (bw (ae 1) (ae 4) aH) (aG) aH)))
  (bo (d2 (rQ (ae 5) (hM)) (bz (cS (ei (ao (dt) (ao (bw (ae 2) (aG) aH) (aF)))))) (d3))
  (bo (di 6 wM.aQ (XW (QC T) (hr.mono (by decide)) (ae 0) (ao (ei (ao (bw (ae 2) (aG) aH) (ao (ae 5) (aF)))) (aF))))
  (bo (d2 (rQ (ae 6) (hM)) (bz (cS (ei (ao (dt) (ao (bw (ae 2) (aG) aH) (ao (ae 5) (aF))))))) (d3))
  (bz (cS (ei (ao (dt) (ao (bw (ae 6) (aG) aH) (ao (bw (ae 6) (aG) aH) (aF)))))))))))
theorem Q6:c8 P w K mg base "walked" 4 7 wg:=by
 have h:=dI (P:=P) (w:=w) (mg:=mg) (base:=base) (k:=6) (m:=DP) T.FC wN;exact h fun _ _ _ _ _ _ _ hr _ _=>
 bo (lU 4 wN.aQ (gg (aF)))
  (bo (Kg PassesOwn.never (pS (Kj hr.units (ae 2) (ae 4))) (bo (n4 4 (ae 2))
  (bo (di 5 wN.aQ (c6 (Q3 T) (hr.mono (by decide)) (ao (ae 0) (ao (bw (ae 1) (bw (ae 2) (aG) aH) aH) (ao (ae 2) (ao (ae 3) (aF)))))))
  (bo (d2 (k2 hr.units (bw (ae 5) (aG) aH) (dt)) (bz (n5 (ei (ao (ae 4) (ao (ae 5) (aF)))))) (d3))
  (bz (di 2 wN.aQ (ei (ao (bw (ae 5) (aG) aH) (ao (bw (ae 5) (aG) aH) (aF))))))))))
  (bz (n5 (ei (ao (ae 4) (ao (ei (ao (dt) (ao (JZ hr.units (ae 4) (ao (ae 2) (aF))) (aF)))) (aF)))))))
theorem QL:c8 P w K mg base "is_so_of" 3 1 vZ:=by
 have h:=dI (P:=P) (w:=w) (mg:=mg) (base:=base) (k:=0) (m:=yg) T.E1 BW;exact h fun _ _ _ _ _ _ _ hr _ _=>
 bo (di 3 BW.aQ (bw (ae 0) (aG) aH))
  (bo (d2 (gP hr.units (ae 3) (dt)) (bz (cS (lT hr.units (ae 2) (ei (ao (dt) (ao (bw (bw (ae 0) (aG) aH) (aG) aH) (ao (bw (bw (ae 0) (aG) aH) (aG) aH) (aF)))))))) (d3))
  (bo (d2 (gP hr.units (ae 3) (dt)) (bz (cS (lT hr.units (bw (ae 2) (aG) aH) (dt)))) (d3))
  (bo (d2 (gP hr.units (ae 3) (dt)) (bz (cS (CV hr.units (bw (ae 2) (aG) aH) (dt)))) (d3))
  (bo (di 4 BW.aQ (ud hr.units (bw (ae 0) (aG) aH) (dB (i9 (N:=["door"]) 1 [] (by rfl) (kp (ae 1)) (iS 0) (j3) (fun _ _ _ _ _ _ _=>bw (ae 0) (aG) aH)))))
  (bz (cS (lT hr.units (ae 4) (lT hr.units (ae 3) (dt)))))))))
theorem QK:c8 P w K mg base "is_so" 4 8 vY:=by
 have h:=dI (P:=P) (w:=w) (mg:=mg) (base:=base) (k:=7) (m:=yf) T.E0 IG;exact h fun _ _ _ _ _ _ _ hr _ _=>
 bo (di 4 IG.aQ (c6 (Q6 T) (hr.mono (by decide)) (ao (ae 0) (ao (ae 1) (ao (bw (ae 2) (aG) aH) (ao (ae 3) (aF)))))))
  (bz (cS (c6 (QL T) (hr.mono (by decide)) (ao (ae 2) (ao (bw (ae 4) (aG) aH) (ao (bw (ae 4) (aG) aH) (aF)))))))
theorem Q1:c8 P w K mg base "least_broken" 3 9 wa:=by
 have h:=dI (P:=P) (w:=w) (mg:=mg) (base:=base) (k:=8) (m:=yE) T.Fv IM;exact h fun _ _ _ _ _ _ _ hr _ _=>
 bo (f5 PassesOwn.never (kp (dB (hO (QE T) (hr.mono (by decide)) (ao (bw (ae 2) (aG) aH) (aF))))) (dZ 3 IM.aQ) (bz (d2 (i_ (hj (c6 (QK T) (hr.mono (by decide)) (ao (ae 0) (ao (ae 1) (ao (ae 2) (ao (ae 3) (aF)))))))) (bz (cS (ae 3))) (d3))))
  (bz (cS (hM)))
theorem Q5:c8 P w K mg base "verdict" 5 10 wd:=by
 have h:=dI (P:=P) (w:=w) (mg:=mg) (base:=base) (k:=9) (m:=yJ) T.FA tQ;exact h fun _ _ _ _ _ _ _ hr _ _=>
 bo (di 5 tQ.aQ (dB (hO (Q2 T) (hr.mono (by decide)) (ao (ae 1) (ao (ae 2) (ao (ae 4) (aF)))))))
  (bo (f5 PassesOwn.never (Kl T.x9 (ao (ae 3) (aF))) (nK rfl (gI (dZ 6 tQ.aQ) (gI (dZ 7 tQ.aQ) (nJ)))) (bo (di 8 tQ.aQ (c6 (Q1 T) (hr.mono (by decide)) (ao (ae 0) (ao (ae 5) (ao (ae 7) (aF))))))
  (bz (d2 (Kk (ae 8) (hM)) (bz (cS (ei (ao (dt) (ao (ae 6) (ao (ae 8) (aF))))))) (d3)))))
  (bz (cS (mJ T.kG))))
theorem QJ:c8 P w K mg base "is_safe" 5 11 vX:=by
 have h:=dI (P:=P) (w:=w) (mg:=mg) (base:=base) (k:=10) (m:=ye) T.EZ Vt;exact h fun _ _ _ _ _ _ _ hr _ _=>
 bz (cS (lT hr.units (c6 (Q5 T) (hr.mono (by decide)) (ao (ae 0) (ao (ae 1) (ao (ae 2) (ao (ae 3) (ao (ae 4) (aF))))))) (mJ T.kG)))
theorem QO:c8 P w K mg base "_law_bad" 3 6 te:=by
 have h:=dI (P:=P) (w:=w) (mg:=mg) (base:=base) (k:=5) (m:=yk) T.E5 BX;exact h fun _ _ _ _ _ _ _ hr _ _=>
 bo (f5 PassesOwn.never (f6 T.fq (ao (eJ T.et (ao (ae 2) (aF))) (aF))) (dZ 3 BX.aQ) (bo (di 4 BX.aQ (c6 (GW T) (hr.mono (by decide)) (ao (ae 0) (ao (ae 1) (ao (bw (ae 2) (ae 3) aH) (aF))))))
  (bz (d2 (Kk (ae 4) (hM)) (bz (cS (ei (ao (ae 3) (ao (ae 4) (aF)))))) (d3)))))
  (bz (cS (hM)))
theorem QT:c8 P w K mg base "_law_mixed" 3 1 v8:=by
 have h:=dI (P:=P) (w:=w) (mg:=mg) (base:=base) (k:=0) (m:=yv) T.Fh Vz;exact h fun _ _ _ _ _ _ _ hr _ _=>
 bz (pR (i9 (N:=["_law_house","_law_old","_law_new","_law_houses"]) 1 [0,1,2] (by rfl) (f6 T.fq (ao (eJ T.et (ao (ae 0) (aF))) (aF))) (iS 0) (j3) (fun _ _ _ _ _ _ _=>dB (mK T.jC (ao (bw (bw (dB (gg (ao (ae 1) (ao (ae 2) (aF))))) (X1 T.ya (ao (ud hr.units (ae 0) (ae 3)) (aF))) aH) (ae 0) aH) (aF))))))
theorem Le(f:Addr)(b9:Value)(A:Around)(outer:List Env)(s:Shared)(H:ah)(E:dc)(hr:dE 11 (A.deeper (PyProof.Rows.envOfC "law" (bQ nU) s.heap.objs.size f b9)))(cu bL:ah):jB (iT gk P w K mg base ["_law_script","_law_counts","_law_wires","_law_old","_law_new","_law_says_here","_law_net_here","_law_x","_law_handed","_law_some","_law_sets","_law_k","_law_beyond_here","_law_houses","_law_found","_law_due"] "law" (bQ nU) f b9 A outer s H E).jU (fF K cu bL) (fO nU) yj:=
 bo (xo (c6 (QQ T) (hr.mono (by decide)) (ao (ae 0) (ao (aG) (ao (aG) (aF))))) (nK rfl (gI (dZ 1 hJ.aQ) (gI (dZ 2 hJ.aQ) (gI (dZ 3 hJ.aQ) (gI (dZ 4 hJ.aQ) (gI (dZ 5 hJ.aQ) (nJ))))))))
  (bo (di 6 hJ.aQ (XU (QD T) (hr.mono (by decide)) (ao (dB (mK T.jC (ao (ae 1) (aF)))) (ao (dB (mK T.jC (ao (ae 2) (aF)))) (aF)))))
  (bo (di 7 hJ.aQ (bw (dB (hO (oZ T) (hr.mono (by decide)) (ao (c6 (oY T) (hr.mono (by decide)) (ao (ae 0) (ao (aG) (aF)))) (ao (aG) (ao (aG) (aF)))))) (aG) aH))
  (bo (d2 (gP hr.units (eh (ae 7) (aG)) (aG)) (bz (di 5 hJ.aQ (c6 (QX T) (hr.mono (by decide)) (ao (ae 5) (ao (bw (c6 (G0 T) (hr.mono (by decide)) (ao (ae 1) (ao (ae 2) (aF)))) (aG) aH) (ao (f3 (ae 7) (aG)) (aF))))))) (d3))
  (bo (di 8 hJ.aQ (dB (gg (ao (dB (hO (GY T) (hr.mono (by decide)) (ao (ae 3) (aF)))) (ao (dB (hO (GY T) (hr.mono (by decide)) (ao (ae 4) (aF)))) (ao (dB (mK T.jC (ao (ae 5) (aF)))) (aF)))))))
  (bo (lU 9 hJ.aQ (hO (GQ T) (hr.mono (by decide)) (ao (bw (ae 8) (aG) aH) (ao (bw (ae 8) (aG) aH) (aF)))))
  (bo (d2 (pS (hP (kq (i_ (hj (n2 (Cv _) T.l3 T.jC (by kernel_rfl) (ae 9)))) (k3 (k2 hr.units (ae 9) (dB (hO (GX T) (hr.mono (by decide)) (ao (ae 3) (ao (ae 4) (aF)))))))))) (bz (cS (k1))) (d3))
  (bo (n4 9 (aG))
  (bo (d2 (k2 hr.units (dB (hO (GQ T) (hr.mono (by decide)) (ao (bw (ae 8) (aG) aH) (ao (bw (ae 8) (aG) aH) (aF))))) (dB (hO (GX T) (hr.mono (by decide)) (ao (ae 3) (ao (ae 4) (aF)))))) (bz (cS (k1))) (d3))
  (bo (Ke (J3 9))
  (bo (C1 9 (lU 10 hJ.aQ (gg (ao (dB (gg (aF))) (ao (dB (mK T.jC (ao (ae 9) (aF)))) (aF))))))
  (bo (f5 PassesOwn.never (f6 T.fq (ao (aG) (aF))) (dZ 11 hJ.aQ) (bo (di 7 hJ.aQ (bw (dB (hO (oZ T) (hr.mono (by decide)) (ao (c6 (oY T) (hr.mono (by decide)) (ao (ae 0) (ao (e0 (aG) (ae 11)) (aF)))) (ao (e0 (aG) (ae 11)) (ao (aG) (aF)))))) (aG) aH))
  (bz (n4 10 (dB (i9 (N:=["_law_j","_law_some","_law_x"]) 1 [9,7] (by rfl) (f6 T.fq (ao (eJ T.et (ao (ae 9) (aF))) (aF))) (iS 0) (rO (fun _ _ _ _ _ _ _=>gP hr.units (JX (J5 (ae 2) (ae 0)) (aG)) (aG))) (fun _ _ _ _ _ _ _=>bw (ae 1) (ae 0) aH)))))))
  (bo (C1 10 (di 12 hJ.aQ (c6 (z9 T) (hr.mono (by decide)) (ao (ae 2) (aF)))))
  (bo (f5 PassesOwn.never (kp (ae 10)) (dZ 13 hJ.aQ) (bo (di 14 hJ.aQ (c6 (QJ T) (hr.mono (by decide)) (ao (ae 6) (ao (bw (ae 8) (aG) aH) (ao (bw (ae 8) (aG) aH) (ao (bw (ae 8) (aG) aH) (ao (dB (mK T.jC (ao (ae 13) (aF)))) (aF))))))))
  (bo (di 15 hJ.aQ (J0 (c6 (QO T) (hr.mono (by decide)) (ao (ae 12) (ao (dB (hO (QT T) (hr.mono (by decide)) (ao (ae 3) (ao (ae 4) (ao (ae 13) (aF)))))) (ao (ae 5) (aF))))) (hM)))
  (bz (d2 (hP (kq (i_ (hj (n2 (JE _) T.l3 T.x7 (by kernel_rfl) (ae 14)))) (kq (k2 hr.units (ae 14) (ae 15)) (k3 (k2 hr.units (ae 8) (dB (gg (ao (ae 3) (ao (ae 4) (ao (ae 5) (aF))))))))))) (bz (cS (k1))) (d3))))))
  (bz (cS (k1))))))))))))))))
end
end bP
namespace bP
open PySem PySem.Spec aS ay
theorem fs{α β:Type}(a:α)(k:α→R β):(R.ok a).bind k=k a:=rfl
theorem B2{a b:a8}{ρ bh:ak}(h:a ρ=.ok (.bj bh)):a4 a b ρ=b bh:=by simp only[a4,h,fs]
theorem Lk{f:List D→R b1}{a:aC}{ρ:ak}{x y:D}(ha:a ρ=.ok x)(h:f [x]=.ok (.v y)):b8 1 f (af a aw) ρ=.ok y:=by simp only[b8,af,aw,ha,fs,List.length_cons,List.length_nil,if_true,h,kV]
theorem call2{f:List D→R b1}{a b:aC}{ρ:ak}{x z y:D}(ha:a ρ=.ok x)(hb:b ρ=.ok z)(h:f [x,z]=.ok (.v y)):b8 2 f (af a (af b aw)) ρ=.ok y:=by simp only[b8,af,aw,ha,hb,fs,List.length_cons,List.length_nil,if_true,h,kV]
theorem Ll{f:List D→R b1}{a b c:aC}{ρ:ak}{x z w y:D}(ha:a ρ=.ok x)(hb:b ρ=.ok z)(hc:c ρ=.ok w)(h:f [x,z,w]=.ok (.v y)):b8 3 f (af a (af b (af c aw))) ρ=.ok y:=by simp only[b8,af,aw,ha,hb,hc,fs,List.length_cons,List.length_nil,if_true,h,kV]
theorem uP{f:D→D→R D}{a b:aC}{ρ:ak}{x y z:D}(ha:a ρ=.ok x)(hb:b ρ=.ok y)(h:f x y=.ok z):ai f a b ρ=.ok z:=by simp only[ai,ha,hb,fs,h]
theorem qP{a:aC}{ρ:ak}{c:Bool}(ha:a ρ=.ok (.aD c)):bc a ρ=.ok c:=by simp only[bc,ha,fs,je]
theorem Ag{a:b4}{ρ:ak}{c:Bool}(ha:a ρ=.ok c):eO a ρ=.ok (!c):=by simp only[eO,ha,fs]
theorem HP{a b:b4}{ρ:ak}{c d:Bool}(ha:a ρ=.ok c)(hb:c=false→b ρ=.ok d):fg a b ρ=.ok (c||d):=by
 cases c
 ·simp only[fg,ha,fs,hb rfl,Bool.false_eq_true,if_false,Bool.false_or]
 ·simp only[fg,ha,fs,if_true,Bool.true_or]
theorem LD{f g:D→D→R D}{a b c:aC}{ρ:ak}{x y w:D}{k l:Bool}(ha:a ρ=.ok x)(hb:b ρ=.ok y)(hc:c ρ=.ok w)(hf:f x y=.ok (.aD k))(hg:g y w=.ok (.aD l)):iY f g a b c ρ=.ok (.aD (k&&l)):=by
 cases k
 ·simp only[iY,ha,hb,hf,fs,je,Bool.false_eq_true,if_false,Bool.false_and]
 ·simp only[iY,ha,hb,hc,hf,hg,fs,je,if_true,Bool.true_and]
theorem B1{c:b4}{a b:a8}{ρ:ak}(hc:c ρ=.ok false):a4 (c9 c a dg) b ρ=b ρ:=by simp only[a4,c9,hc,fs,dg];rfl
theorem UC{e:aC}{ρ:ak}{d:D}(he:e ρ=.ok d):cw e ρ=.ok (.dh d):=by simp only[cw,he,fs]
theorem NA{mi:aP}{set:D→ak→R ak}{body:a8}{ds:List D}{ρ:ak}(hi:mi ρ=.ok ds):d7 mi set body ρ=gX set body ds ρ:=by rw[d7,hi];rfl
theorem NB{mi:aP}{set:D→ak→R ak}{body:a8}{ds:List D}{ρ bh:ak}(hi:mi ρ=.ok ds)(h:gX set body ds ρ=.ok (.bj bh)):d7 mi set body ρ=.ok (.bj bh):=by rw[NA hi];exact h
theorem G8{a:aC}{ρ:ak}{xs:List D}(ha:a ρ=.ok (.lst xs)):ct df (af a aw) ρ=.ok (.int (xs.length:Nat)):=by simp only[ct,af,aw,ha,fs,df]
def bH(cs:List Nat):List D:=cs.map fun(c:Nat)=>D.int (c:Int)
abbrev aB:=Nat×Nat
def bb(d:aB):D:=.tup [.int (d.1:Nat),.int (d.2:Nat)]
def c5(w:aB×aB):D:=.tup [bb w.1,bb w.2]
def ends(ws:List (aB×aB)):List aB:=(ws.map fun w=>[w.1,w.2]).flatten
structure Lay(all left:List aB)(ws:List (aB×aB)):Prop where
 aQ:(left++ends ws).Nodup
 sub:∀d∈left++ends ws,d∈all
theorem zb{α:Type}:∀(l:List α)(i:Nat)(h:i<l.length),List.Perm (l[i]::l.eraseIdx i) l
 |x::l,0,_=>List.Perm.refl _
 |x::l,i+1,h=>by have b6:=zb l i (by simpa using h);simp only[List.getElem_cons_succ,List.eraseIdx_cons_succ];exact(List.Perm.swap x _ _).trans (b6.cons x)
theorem Lay.take{all left:List aB}{ws:List (aB×aB)}(h:Lay all left ws){i j:Nat}(hi:i<left.length)(cF:j<(left.eraseIdx i).length) :
  Lay all ((left.eraseIdx i).eraseIdx j) (ws++[(left[i],(left.eraseIdx i)[j])]):=by
 have dG:List.Perm left (left[i]::left.eraseIdx i):=(zb left i hi).symm;have bW:List.Perm (left.eraseIdx i) ((left.eraseIdx i)[j]::(left.eraseIdx i).eraseIdx j):=(zb (left.eraseIdx i) j cF).symm;have tG:ends (ws++[(left[i],(left.eraseIdx i)[j])])=ends ws++[left[i],(left.eraseIdx i)[j]]:=by simp[ends]
 have pp:List.Perm (left++ends ws) ((left.eraseIdx i).eraseIdx j++ends (ws++[(left[i],(left.eraseIdx i)[j])])):=by rw[tG];refine(List.Perm.append_right _ (dG.trans (List.Perm.cons _ bW))).trans ?_;refine(List.perm_append_comm (l₁:=[left[i],(left.eraseIdx i)[j]]) (l₂:=(left.eraseIdx i).eraseIdx j++ends ws)).trans ?_;rw[List.append_assoc]
 exact⟨pp.nodup_iff.mp h.aQ,fun d hd=>h.sub d (pp.mem_iff.mpr hd)⟩
def jG(cs:List Nat)(h:Nat):List aB:=(List.range (cs.getD h 0)).map fun k=>(h,k)
def dx(cs:List Nat)(n:Nat):List aB:=(List.range n).flatMap (jG cs)
theorem uF(cs:List Nat)(n:Nat):dx cs (n+1)=dx cs n++jG cs n:=by unfold dx;rw[List.range_succ,List.flatMap_append];simp
theorem Ak{cs:List Nat}{h:Nat}{d:aB}:d∈jG cs h↔d.1=h∧d.2<cs.getD h 0:=by
 unfold jG;rw[List.mem_map];constructor
 ·rintro⟨k,hk,rfl⟩;exact⟨rfl,List.mem_range.mp hk⟩
 ·rintro⟨rfl,h2⟩;exact⟨d.2,List.mem_range.mpr h2,rfl⟩
theorem pe{cs:List Nat}{n:Nat}{d:aB}:d∈dx cs n↔d.1<n∧d.2<cs.getD d.1 0:=by
 unfold dx;rw[List.mem_flatMap];constructor
 ·rintro⟨h,hh,hd⟩;obtain⟨rfl,h2⟩:=Ak.mp hd;exact⟨List.mem_range.mp hh,h2⟩
 ·rintro⟨h1,h2⟩;exact⟨d.1,List.mem_range.mpr h1,Ak.mpr ⟨rfl,h2⟩⟩
theorem L8(cs:List Nat)(h:Nat):(jG cs h).Nodup:=by unfold jG;rw[List.nodup_iff_pairwise_ne,List.pairwise_map];exact List.nodup_range.imp fun NO z=>NO (Prod.mk.inj z).2
theorem Dw(cs:List Nat):∀n,(dx cs n).Nodup
 |0=>List.nodup_nil
 |n+1=>by rw[uF];refine List.nodup_append.mpr ⟨Dw cs n,L8 cs n,fun a ha b hb z=>?_⟩;subst z;have h1:=(pe.mp ha).1;have h2:=(Ak.mp hb).1;omega
theorem zq{cs:List Nat}(h:∀c∈cs,c≤4)(k:Nat):cs.getD k 0≤4:=by
 rw[List.getD_eq_getElem?_getD];cases e:cs[k]? with
 |none=>simp
 |some c=>simpa using h c (List.mem_of_getElem? e)
theorem En{cs:List Nat}(h:∀c∈cs,1≤c∧c≤4)(k:Nat):(jG cs k).length≤4:=by unfold jG;rw[List.length_map,List.length_range];exact zq (fun c hc=>(h c hc).2) k
theorem r8{cs:List Nat}(h:∀c∈cs,1≤c∧c≤4):∀n,(dx cs n).length≤4*n
 |0=>by simp[dx]
 |n+1=>by rw[uF,List.length_append];have:=r8 h n;have:=En h n;omega
theorem sd{cs:List Nat}{h:Nat}(hh:h<cs.length):(bH cs)[h]?=some (.int (cs.getD h 0:Nat)):=by simp[bH,List.getElem?_eq_getElem hh,List.getD_eq_getElem?_getD]
structure gn(cs:List Nat)(ws:List (aB×aB)):Prop where
 h1:1≤cs.length
 h6:cs.length≤6
 c:∀c∈cs,1≤c∧c≤4
 aQ:(ends ws).Nodup
 sub:∀d∈ends ws,d∈dx cs cs.length
 out:∃d,d∈dx cs cs.length∧d∉ends ws
 few:ws.length<100
theorem head_mem{cs:List Nat}(h1:1≤cs.length)(c:∀c∈cs,1≤c∧c≤4):((0,0):aB)∈dx cs cs.length:=by
 refine pe.mpr ⟨h1,?_⟩;cases cs with
 |nil=>simp at h1
 |cons x r=>exact(c x (List.mem_cons_self ..)).1
def fU(d:aB):List Key:=[.inl (d.1:Nat),.inl (d.2:Nat)]
theorem sV{a b:aB}(h:fU a=fU b):a=b:=by
 obtain⟨a1,a2⟩:=a;obtain⟨eD,d0⟩:=b;simp only[fU,List.cons.injEq,Sum.inl.injEq,and_true]at h;have h1:a1=eD:=by omega
 have h2:a2=d0:=by omega
 rw[h1,h2]
theorem ml(d:aB):mj (bb d)=some (fU d):=rfl
def b3(ws:List (aB×aB)):List (List Key):=(ends ws).map fU
def cn(ws:List (aB×aB)):List D:=(ws.map fun w=>[bb w.2,bb w.1]).flatten
theorem ks_any(ws:List (aB×aB))(d:aB):(b3 ws).any (fun x=>decide (x=fU d))=decide (d∈ends ws):=by
 unfold b3;rw[List.any_map];by_cases h:d∈ends ws
 ·rw[decide_eq_true h,List.any_eq_true];exact⟨d,h,by simp⟩
 ·rw[decide_eq_false h,List.any_eq_false];intro x hx;simp only[Function.comp,decide_eq_true_eq];exact fun z=>h (sV z▸hx)
theorem Ez(ws:List (aB×aB)):(ends ws).length=2*ws.length:=by
 induction ws with
 |nil=>rfl
 |cons w r b6=>simp only[ends,List.map_cons,List.flatten_cons,List.length_append,List.length_cons,List.length_nil]at b6 ⊢;omega
theorem u1{i:Nat}{mk mv:aC}{ρ:ak}{bV:List (List Key)}{ds:List D}{k v:D}{cJ:List Key}(hs:ρ[i]?=some (.aR (.a_ bV ds)))(hk:mk ρ=.ok k)(hv:mv ρ=.ok v)(dP:mj k=some cJ)(aJ:bV.any (fun x=>decide (x=cJ))=false)(hl:bV.length<1000000) :
  kQ i mk mv ρ=.ok (.bj (ρ.set i (.aR (.a_ (bV++[cJ]) (ds++[v]))))):=by
 simp only[kQ,hv,hs,hk,fs,dP,putD,if_pos (And.intro aJ hl)]
theorem DC{bV:List (List Key)}{a b:List Key}(h:bV.any (fun x=>decide (x=b))=false)(ne:a≠b):(bV++[a]).any (fun x=>decide (x=b))=false:=by rw[List.any_append,h];simp[ne]
theorem G3(ws:List (aB×aB))(w:aB×aB):b3 (ws++[w])=b3 ws++[fU w.1]++[fU w.2]:=by simp[b3,ends]
theorem JQ(ws:List (aB×aB))(w:aB×aB):cn (ws++[w])=cn ws++[bb w.2]++[bb w.1]:=by simp[cn]
theorem Hv{P:List (aB×aB)}{w:aB×aB}{r:List (aB×aB)}(aQ:(ends (P++w::r)).Nodup):w.1∉ends P∧w.2∉ends P∧w.1≠w.2:=by
 have e:ends (P++w::r)=ends P++(w.1::w.2::ends r):=by simp[ends]
 rw[e]at aQ;obtain⟨_,cD,gs⟩:=List.nodup_append.mp aQ;refine⟨fun z=>gs _ z w.1 (by simp) rfl,fun z=>gs _ z w.2 (by simp) rfl,fun z=>?_⟩;rw[List.nodup_cons]at cD;exact cD.1 (by rw[z];simp)
theorem CN(i lo hi:Int):nF [.int i,.int lo,.int hi]=.ok (.v (.aD (decide (lo≤i)&&decide (i≤hi)))):=by have w:Ai [.int i]=.ok (.v (.aD true)):=rfl;simp[nF,yh,w];by_cases h:lo≤i<;>simp[h]
theorem Eg{cs:List Nat}{d:aB}(h:d∈dx cs cs.length):tc [.tup (bH cs),bb d]=.ok (.v (.aD true)):=by
 obtain⟨h1,h2⟩:=pe.mp h;have p:td [bb d]=.ok (.v (.aD true)):=rfl;have bU:az (bb d) (.int 0)=.ok (.int d.1):=rfl;have aj:az (bb d) (.int 1)=.ok (.int d.2):=rfl;have ax:az (.tup (bH cs)) (.int (d.1:Nat))=.ok (.int (cs.getD d.1 0:Nat)):=P9 (sd h1);have l:(bH cs).length=cs.length:=by simp[bH]
 simp only[List.getD_eq_getElem?_getD]at h2 ax;simp[tc,yc,p,bU,aj,ax,l,CN,show¬((cs.length:Int)-1<(d.1:Nat))by omega];omega
theorem L6{a b:aB}(h:a≠b):bR false (bb a) (bb b)=.ok (.aD true):=by
 show R.ok (D.aD (!(((a.1:Nat):Int)==((b.1:Nat):Int)&&(((a.2:Nat):Int)==((b.2:Nat):Int)&&true))))=_;by_cases h1:a.1=b.1
 ·by_cases h2:a.2=b.2
  ·exact absurd (Prod.ext h1 h2) h
  ·rw[beq_eq_false_iff_ne.mpr (show((a.2:Nat):Int)≠((b.2:Nat):Int)by omega)];simp
 ·rw[beq_eq_false_iff_ne.mpr (show((a.1:Nat):Int)≠((b.1:Nat):Int)by omega)];simp
theorem XI{cs:List Nat}{w:aB×aB}(h1:w.1∈dx cs cs.length)(h2:w.2∈dx cs cs.length)(ne:w.1≠w.2):q_ [.tup (bH cs),c5 w]=.ok (.v (.aD true)):=by have p:td [c5 w]=.ok (.v (.aD true)):=rfl;have bU:az (c5 w) (.int 0)=.ok (bb w.1):=rfl;have aj:az (c5 w) (.int 1)=.ok (bb w.2):=rfl;simp[q_,yi,p,bU,aj,Eg h1,Eg h2,L6 ne]
noncomputable def fBody:a8:=(a4 (c9 (eO (bc (b8 2 q_ (af (J 0) (af (J 3) (aw)))))) (qQ) (dg))
    (a4 (c9 (gH (fg (bc (ai (fD true) (ai az (J 3) (au (.int 0))) (J 2))) (bc (ai (fD true) (ai az (J 3) (au (.int 1))) (J 2))))) (qQ) (dg))
    (a4 (kQ 2 (ai az (J 3) (au (.int 0))) (ai az (J 3) (au (.int 1))))
    (kQ 2 (ai az (J 3) (au (.int 1))) (ai az (J 3) (au (.int 0)))))))
theorem Fw(cs:List Nat)(W:D):∀(r P:List (aB×aB)),(ends (P++r)).Nodup→(∀d∈ends r,d∈dx cs cs.length)→(P++r).length<1000→∀s3:cp,∃t3,gX (bB 3) fBody (r.map c5) [.aq (.tup (bH cs)),.aq W,.aR (.a_ (b3 P) (cn P)),s3]=.ok (.bj [.aq (.tup (bH cs)),.aq W,.aR (.a_ (b3 (P++r)) (cn (P++r))),t3])
 |[],P,_,_,_,s3=>⟨s3,by rw[List.append_nil];rfl⟩
 |w::r,P,aQ,sub,hl,s3=>by
  obtain⟨cG,cD,gs⟩:=Hv aQ;have lk:(b3 P).length<10000:=by unfold b3;rw[List.length_map,Ez];rw[List.length_append]at hl;omega
  have bU:bB 3 (c5 w) [.aq (.tup (bH cs)),.aq W,.aR (.a_ (b3 P) (cn P)),s3]=.ok [.aq (.tup (bH cs)),.aq W,.aR (.a_ (b3 P) (cn P)),.aq (c5 w)]:=rfl;have ck:eO (bc (b8 2 q_ (af (J 0) (af (J 3) (aw))))) [.aq (.tup (bH cs)),.aq W,.aR (.a_ (b3 P) (cn P)),.aq (c5 w)]=.ok false:=Ag (c:=true) (qP (call2 rfl rfl (XI (sub _ (by simp[ends])) (sub _ (by simp[ends])) gs)));have dQ:fD true (bb w.1) (.a_ (b3 P) (cn P))=.ok (.aD false):=by simp only[fD,ml,ks_any,decide_eq_false cG,if_true]
  have b7:fD true (bb w.2) (.a_ (b3 P) (cn P))=.ok (.aD false):=by simp only[fD,ml,ks_any,decide_eq_false cD,if_true]
  have eE:gH (fg (bc (ai (fD true) (ai az (J 3) (au (.int 0))) (J 2))) (bc (ai (fD true) (ai az (J 3) (au (.int 1))) (J 2)))) [.aq (.tup (bH cs)),.aq W,.aR (.a_ (b3 P) (cn P)),.aq (c5 w)]=.ok (false||false):=by unfold gH;exact HP (qP (uP (x:=bb w.1) (y:=.a_ (b3 P) (cn P)) rfl rfl dQ)) fun _=>qP (uP (x:=bb w.2) (y:=.a_ (b3 P) (cn P)) rfl rfl b7)
  have a1:=u1 (i:=2) (mk:=ai az (J 3) (au (.int 0))) (mv:=ai az (J 3) (au (.int 1))) (ρ:=[.aq (.tup (bH cs)),.aq W,.aR (.a_ (b3 P) (cn P)),.aq (c5 w)]) rfl rfl rfl (ml w.1) (by rw[ks_any];exact decide_eq_false cG) (by omega);have a2:=u1 (i:=2) (mk:=ai az (J 3) (au (.int 1))) (mv:=ai az (J 3) (au (.int 0))) (ρ:=[.aq (.tup (bH cs)),.aq W,.aR (.a_ (b3 P++[fU w.1]) (cn P++[bb w.2])),.aq (c5 w)]) rfl rfl rfl (ml w.2) (DC (by rw[ks_any];exact decide_eq_false cD) (fun z=>gs (sV z))) (by rw[List.length_append,List.length_singleton];omega);have aj:fBody [.aq (.tup (bH cs)),.aq W,.aR (.a_ (b3 P) (cn P)),.aq (c5 w)]=.ok (.bj [.aq (.tup (bH cs)),.aq W,.aR (.a_ (b3 (P++[w])) (cn (P++[w]))),.aq (c5 w)]):=by unfold fBody;rw[B1 ck,B1 eE,B2 a1,G3,JQ];exact a2
  rw[List.map_cons,gX,bU,fs,aj,fs];have q:P++w::r=(P++[w])++r:=by simp
  rw[q]at aQ hl ⊢;exact Fw cs W r (P++[w]) aQ (fun d hd=>sub d (by simp only[ends,List.map_cons,List.flatten_cons,List.mem_append]at hd ⊢;exact .inr hd)) hl _
theorem Nu(cs:List Nat)(ws:List (aB×aB))(h:gn cs ws):q9 [.tup (bH cs),.tup (ws.map c5)]=.ok (.v (.a_ (b3 ws) (cn ws))):=by show(uL [.aq (.tup (bH cs)),.aq (.tup (ws.map c5)),.un,.un]).bind outD=_;have s1:o9 2 [.aq (.tup (bH cs)),.aq (.tup (ws.map c5)),.un,.un]=.ok (.bj [.aq (.tup (bH cs)),.aq (.tup (ws.map c5)),.aR (.a_ (b3 []) (cn [])),.un]):=rfl;obtain⟨t3,e⟩:=Fw cs (.tup (ws.map c5)) ws [] (by simpa using h.aQ) h.sub (by have:=h.few;simp;omega) .un;have f:=NB (mi:=o6 (J 1)) (ρ:=[.aq (.tup (bH cs)),.aq (.tup (ws.map c5)),.aR (.a_ (b3 []) (cn [])),.un]) rfl e;unfold fBody at f;unfold uL;rw[B2 s1,B2 f];rfl
def oG:aC:=(b8 3 nF (af (J 0) (af (au (.int 1)) (af (au qj) (aw)))))
theorem Ea:∀(cs:List Nat),(∀c∈cs,1≤c∧c≤4)→∀(ws:List D)(s0:cp),ws.length+cs.length<1000→fN (bB 0) fh oG (bH cs) [s0] ws=.ok (ws++cs.map fun _=>D.aD true)
 |[],_,ws,s0,_=>by simp[fN,bH]
 |c::cs,h,ws,s0,hl=>by
  simp only[List.length_cons]at hl;obtain⟨ck,l6⟩:=h c (List.mem_cons_self ..);have bU:bB 0 (.int (c:Nat)) [s0]=.ok [.aq (.int (c:Nat))]:=rfl;have aj:oG [.aq (.int (c:Nat))]=.ok (.aD true):=by have z:=CN (c:Nat) 1 4;rw[decide_eq_true (by omega),decide_eq_true (by omega)]at z;exact Ll rfl rfl rfl z
  show fN (bB 0) fh oG (.int (c:Nat)::bH cs) [s0] ws=_;rw[fN,bU,fs];simp only[fh,fs,aj,if_true,if_pos (show ws.length<1000000 by omega)];rw[Ea cs (fun c h'=>h c (List.mem_cons_of_mem _ h')) _ _ (by rw[List.length_append,List.length_singleton];omega),List.append_assoc];rfl
theorem D0:∀cs:List Nat,l5 (cs.map fun _=>D.aD true)=some (cs.map fun _=>true)
 |[]=>rfl
 |c::cs=>by simp only[List.map_cons,l5,D0 cs,Option.map_some]
theorem LI(cs:List Nat)(h1:1≤cs.length)(h6:cs.length≤6)(h:∀c∈cs,1≤c∧c≤4):s_ [.lst (bH cs)]=.ok (.v (.aD true)):=by
 show(uK [.aq (.lst (bH cs))]).bind outD=_;have nx:ct df (af (J 0) aw) [.aq (.lst (bH cs))]=.ok (.int (cs.length:Nat)):=by rw[G8 (xs:=bH cs) rfl];simp[bH]
 have ck:fg (eO (bc (eX (iB "list") (J 0)))) (eO (bc (iY kP kP (au (.int 1)) (ct df (af (J 0) (aw))) (au ox)))) [.aq (.lst (bH cs))]=.ok (false||false):=by refine HP rfl fun _=>?_;have z:=LD (f:=kP) (g:=kP) (a:=au (.int 1)) (c:=au ox) (ρ:=[.aq (.lst (bH cs))]) rfl nx rfl (k:=true) (l:=true) (by show R.ok (D.aD (decide ((1:Int)≤(cs.length:Nat))))=_;rw[decide_eq_true (by omega)]) (by show R.ok (D.aD (decide (((cs.length:Nat):Int)≤6)))=_;rw[decide_eq_true (by omega)]);exact Ag (c:=true) (qP z)
 have j4:d6 1 [] (g4 (J 0)) (bB 0) (fh) oG [.aq (.lst (bH cs))]=.ok (cs.map fun _=>D.aD true):=by show iG (fN (bB 0) fh oG (bH cs) [.un] [])=_;rw[Ea cs h _ _ (by simp;omega)];rfl
 have e:ct ay.dx (af (c4 (d6 1 [] (g4 (J 0)) (bB 0) (fh) oG)) (aw)) [.aq (.lst (bH cs))]=.ok (.aD true):=by
  simp only[ct,af,aw,c4,j4,fs,ay.dx,D0]
  congr 2
  rw[List.all_map];simp
 unfold oG at e;unfold uK;rw[B1 ck,UC e];rfl
theorem tX{a b:er}{ρ dn:ak}(h:a ρ=.ok dn):lF a b ρ=b dn:=by simp only[lF,h,fs]
theorem JP:∀ws:List (aB×aB),kh (cn ws)=true
 |[]=>rfl
 |w::ws=>by show kh (bb w.2::bb w.1::cn ws)=true;simp only[kh,JP ws];rfl
theorem PN(cs:List Nat)(ws:List (aB×aB))(h:gn cs ws):Ah [.lst (bH cs),.lst (ws.map c5)]=.ok (["many","counts","joined","far"],[.int (cs.length:Nat),.tup (bH cs),.tup (ws.map c5),.a_ (b3 ws) (cn ws)]):=by
 let r (ns:List Str) (ds:List D):ak:=[.aR (.ins "Net" ns ds),.aq (.lst (bH cs)),.aq (.lst (ws.map c5))]
 have g1:nB (eO (bc (b8 1 s_ (af (J 1) (aw))))) (r [] [])=.ok (r [] []):=by have z:eO (bc (b8 1 s_ (af (J 1) (aw)))) (r [] [])=.ok false:=Ag (c:=true) (qP (Lk rfl (LI cs h.h1 h.h6 h.c)));simp only[nB,z,fs,Bool.false_eq_true,if_false]
 have g2:nB (eO (bc (eX (iB "list") (J 2)))) (r [] [])=.ok (r [] []):=rfl;have f1:jR "Net" "many" (ct df (af (J 1) (aw))) (r [] [])=.ok (r ["many"] [.int (cs.length:Nat)]):=by
  have nx:ct df (af (J 1) aw) (r [] [])=.ok (.int (cs.length:Nat)):=by rw[G8 (xs:=bH cs) rfl];simp[bH]
  rw[jR,nx];rfl
 have f2:jR "Net" "counts" (ct mF (af (J 1) (aw))) (r ["many"] [.int (cs.length:Nat)])=.ok (r ["many","counts"] [.int (cs.length:Nat),.tup (bH cs)]):=rfl;have fE:jR "Net" "joined" (ct mF (af (J 2) (aw))) (r ["many","counts"] [.int (cs.length:Nat),.tup (bH cs)])=.ok (r ["many","counts","joined"] [.int (cs.length:Nat),.tup (bH cs),.tup (ws.map c5)]):=rfl;have f4:jR "Net" "far" (nA (b8 2 q9 (af (eX (iW "Net" "counts") (J 0)) (af (eX (iW "Net" "joined") (J 0)) (aw))))) (r ["many","counts","joined"] [.int (cs.length:Nat),.tup (bH cs),.tup (ws.map c5)])=.ok (r ["many","counts","joined","far"] [.int (cs.length:Nat),.tup (bH cs),.tup (ws.map c5),.a_ (b3 ws) (cn ws)]):=by
  have z:nA (b8 2 q9 (af (eX (iW "Net" "counts") (J 0)) (af (eX (iW "Net" "joined") (J 0)) (aw)))) (r ["many","counts","joined"] [.int (cs.length:Nat),.tup (bH cs),.tup (ws.map c5)])=.ok (.a_ (b3 ws) (cn ws)):=by have y:b8 2 q9 (af (eX (iW "Net" "counts") (J 0)) (af (eX (iW "Net" "joined") (J 0)) (aw))) (dF (r ["many","counts","joined"] [.int (cs.length:Nat),.tup (bH cs),.tup (ws.map c5)]))=.ok (.a_ (b3 ws) (cn ws)):=call2 (x:=.tup (bH cs)) (z:=.tup (ws.map c5)) rfl rfl (Nu cs ws h);have n:jT (.a_ (b3 ws) (cn ws))=true∧Aw (r ["many","counts","joined"] [.int (cs.length:Nat),.tup (bH cs),.tup (ws.map c5)])=true:=⟨by simp only[jT];exact JP ws,rfl⟩;simp only[nA,y,fs,if_pos n]
  rw[jR,z];rfl
 show outI "Net" (uJ (r [] []))=_;unfold uJ;rw[tX g1,tX g2,tX f1,tX f2,tX fE,f4];rfl
theorem TY:nP (.int 10) (.int 60)=.ok (.int 1000000000000000000000000000000000000000000000000000000000000):=(rfl)
theorem RP:nI (.int 1000000000000000000000000000000000000000000000000000000000000) (.int 1000000000000000000000000000000000000000000000000000000000000)=.ok (.int (10^120)):=by
 have dQ:IntMulOk 1000000000000000000000000000000000000000000000000000000000000 1000000000000000000000000000000000000000000000000000000000000:=by decide+kernel
 simp only[nI,hB,if_pos dQ];rfl
theorem RQ:nI (.int (10^120)) (.int 1000000000000000000000000000000000000000000000000000000000000)=.ok (.int (10^180)):=by
 have dQ:IntMulOk (10^120) 1000000000000000000000000000000000000000000000000000000000000:=by decide+kernel
 simp only[nI,hB,if_pos dQ];rfl
theorem RJ(x:Int):dN (.int x) (.int (10^180))=.ok (.int (x%10^180)):=Hp (by decide+kernel)
theorem oy(ns:List Int)(k:Nat):∃c:Int,ih [.bY (ns.map D.int),.int k]=.ok (.v (.int c)):=by
 by_cases h:k<ns.length
 ·refine⟨ns[k]%10^180,?_⟩;have e:az (.bY (ns.map D.int)) (.int (k:Int))=.ok (.int ns[k]):=P8 (by simp[h]);simp(disch:=first|omega|(simp;done)|(simp;omega)) [ih,uM,h,e,TY,RP,RQ,RJ,-Int.reducePow]
 ·exact⟨_,by simp(disch:=first|omega|(simp;done)|(simp;omega)) [ih,uM,h];rfl⟩
theorem pI(c s:Int)(n:Nat)(aJ:n<1000):∃ys:List Int,ys.length=n∧g6 [.int c,.int s,.int n]=.ok (.o (ys.map D.int)):=by
 suffices h:Ends (g6 [.int c,.int s,.int n]) fun b=>∃ys:List Int,ys.length=n∧b=.o (ys.map D.int)by
  obtain⟨b,e,ys,h,rfl⟩:=h;exact⟨ys,h,e⟩
 by_cases hc:c%2=1
 ·simp(disch:=first|omega|(simp;done)|(simp;omega)) [g6,uN,hc];refine kJ n (fun j ρ=>∃(ys:List Int)(r:Int)(s5:cp),ys.length=j∧ρ=[.aq (.int c),.aq (.int s),.aq (.int n),.c_ (ys.map D.int),.aq (.int r),s5]) (by simp[show n<1000000 by omega]) ⟨[],_,.un,rfl,rfl⟩ ?_ ?_
  ·rintro j _ cF ⟨ys,r,s5,hl,rfl⟩;simp(disch:=first|omega|(simp;done)|(simp;omega));exact⟨ys++[r%720720],by simp[hl],by simp⟩
  ·rintro _ ⟨ys,r,s5,hl,rfl⟩;simp;exact⟨ys,hl,rfl⟩
 ·simp(disch:=first|omega|(simp;done)|(simp;omega)) [g6,uN,hc];refine kJ n (fun j ρ=>∃(ys:List Int)(r:Int)(s5:cp),ys.length=j∧ρ=[.aq (.int c),.aq (.int s),.aq (.int n),.c_ (ys.map D.int),.aq (.int r),s5]) (by simp[show n<1000000 by omega]) ⟨[],_,.un,rfl,rfl⟩ ?_ ?_
  ·rintro j _ cF ⟨ys,r,s5,hl,rfl⟩;simp(disch:=first|omega|(simp;done)|(simp;omega));exact⟨ys++[_],by simp[hl],by simp;rfl⟩
  ·rintro _ ⟨ys,r,s5,hl,rfl⟩;simp;exact⟨ys,hl,rfl⟩
theorem WU(mw:Nat)(h1:1≤mw)(h6:mw≤6):∃t:Nat,1≤t∧t≤4∧az (.lst [.int 4,.int 4,.int 4,.int 3,.int 2,.int 2]) (.int ((mw:Int)-1))=.ok (.int (t:Nat)):=by
 have:mw=1∨mw=2∨mw=3∨mw=4∨mw=5∨mw=6:=by omega
 rcases this with h|h|h|h|h|h<;>subst h
 ·exact⟨4,by decide,by decide,rfl⟩
 ·exact⟨4,by decide,by decide,rfl⟩
 ·exact⟨4,by decide,by decide,rfl⟩
 ·exact⟨3,by decide,by decide,rfl⟩
 ·exact⟨2,by decide,by decide,rfl⟩
 ·exact⟨2,by decide,by decide,rfl⟩
theorem HG(n:Nat)(a:aB):okN (n+1) (bb a)=true:=by simp[bb,okN]
theorem SE(n:Nat)(w:aB×aB):okN (n+2) (c5 w)=true:=by simp[c5,okN,HG]
theorem rk{α:Type}(g:α→D)(n:Nat)(l:List α)(h:∀a∈l,okN n (g a)=true):okN (n+1) (.lst (l.map g))=true:=by simp only[okN,List.all_map,List.all_eq_true];exact fun a ha=>h a ha
theorem eq_nil{α:Type}(g:α→D)(l:List α)(h:∀a∈l,okN 7 (g a)=true):bR true (.lst (l.map g)) (.lst [])=.ok (.aD l.isEmpty):=by have:=rk g 7 l h;cases l<;>simp[bR,this,okN,bk,dX]at*<;>simp_all
noncomputable def eY(cs:List Nat)(ws:List (aB×aB)):D:=.ins "Net" ["many","counts","joined","far"] [.int (cs.length:Nat),.tup (bH cs),.tup (ws.map c5),.a_ (b3 ws) (cn ws)]
theorem DZ{α:Type}(f:α→Bool):∀l:List α,l5 (l.map fun a=>D.aD (f a))=some (l.map f)
 |[]=>rfl
 |a::l=>by simp[l5,DZ f l]
theorem xV{α:Type}(f:α→Bool)(l:List α):ay.dx [.lst (l.map fun a=>D.aD (f a))]=.ok (.aD (l.all f)):=by simp[ay.dx,DZ,Function.comp_def]
theorem PZ(l:List D):iB "list" (.lst l)=.ok (.aD true):=rfl
def om(c:Nat):Prop:=c=48∨c=49∨c=120
structure hy(x:Str):Prop where
 l:x.cps.toList.length=4
 s:∀c∈x.cps.toList,om c
theorem VL{c:Nat}(h:om c):inD true (eH c) qk=.ok (.aD true):=by rcases h with h|h|h<;>subst h<;>rfl
theorem len_str(x:Str)(h:x.cps.toList.length≤1000):df [.str x]=.ok (.int (x.cps.toList.length:Int)):=by
 have e:x.length=x.cps.toList.length:=rfl;have ax:x.length≤1000000:=by omega
 rw[←e];simp only[df,if_pos ax]
theorem P0(x:Str):iB "str" (.str x)=.ok (.aD true):=rfl
theorem XK:df [m6]=.ok (.int 4):=rfl
theorem S8{x:Str}(h:hy x):vW [.str x]=.ok (.v (.aD true)):=by apply Ends.done;have l:=h.l;simp[vW,yd,P0,len_str x (by omega),XK,l];refine oH eH x.cps.toList (fun _=>.aD true) (by simp) (by omega) (fun c hc=>by simp[VL (h.s c hc)]) ?_;have a:=xV (fun _:Nat=>true) x.cps.toList;simp only[a];simp
theorem KS{x y:Str}(h:x.length+y.length≤1000000):d9 (.str x) (.str y)=.ok (.str (x++y)):=if_pos h
theorem Ec(x:Str)(c:Nat):(x++(⟨#[c]⟩:Str)).cps.toList=x.cps.toList++[c]:=by show(x.cps++ #[c]).toList=_;simp
structure cH where
 p:Str
 a:Option Nat
 b:Option Nat
def d8:Option Nat→D
 |none=>.non
 |some k=>.int (k:Int)
def dM(r:cH):D:=.tup [.str r.p,d8 r.a,d8 r.b]
structure uv(c:Nat)(r:cH):Prop where
 p:hy r.p
 a:∀k,r.a=some k→k<c
 b:∀k,r.b=some k→k<c
def bp(b:List cH):D:=.lst (b.map dM)
@[simp] theorem ZK(i j:Int):pf [.int i,.int j]=.ok (.int (if j<i then j else i)):=(rfl)
@[simp] theorem aa7(i:Nat)(ρ:ak):q2 i ρ=(ownAt i ρ).bind fun ds=>match ds[ds.length-1]? with
  |some y=>.ok (y,ρ.set i (.c_ ds.dropLast))
  |none=>.bad:=(rfl)
@[simp] theorem CD(e:aC)(ρ:ak):ig e ρ=(e (dF ρ)).bind fun d=>.ok (.dh d):=by unfold ig;rfl
theorem Lay.left{all left:List aB}{ws:List (aB×aB)}(h:Lay all left ws)(hl:1≤left.length):∃d,d∈all∧d∉ends ws:=by
 cases left with
 |nil=>simp at hl
 |cons d r=>exact⟨d,h.sub d (by simp),fun z=>(List.nodup_append.mp h.aQ).2.2 d (by simp) d z rfl⟩
theorem Lay.drop{all left:List aB}{ws:List (aB×aB)}(h:Lay all left ws)(hw:1≤ws.length):(ends ws.dropLast).Nodup∧(∀d∈ends ws.dropLast,d∈all)∧∃d,d∈all∧d∉ends ws.dropLast:=by
 have ne:ws≠[]:=fun e=>by simp[e]at hw
 have e:=List.dropLast_concat_getLast ne;have qo:ends ws=ends ws.dropLast++[(ws.getLast ne).1,(ws.getLast ne).2]:=by
  conv=>lhs;rw[←e]
  simp[ends]
 have aQ:=(List.nodup_append.mp h.aQ).2.1;rw[qo]at aQ;obtain⟨cG,cD,gs⟩:=List.nodup_append.mp aQ;have sub:∀d∈ends ws,d∈all:=fun d hd=>h.sub d (List.mem_append_right _ hd);rw[qo]at sub;exact⟨cG,fun d hd=>sub d (List.mem_append_left _ hd),(ws.getLast ne).1,sub _ (by simp),fun z=>gs _ z _ (by simp) rfl⟩
theorem R2(cell:Int)(mo:Nat)(cy:1≤mo)(HF:mo≤6):∃(cs:List Nat)(ws:List (aB×aB)),gn cs ws∧cs.length≤mo∧tj [.int cell,.int (mo:Int)]=.ok (.v (.tup [.lst (bH cs),.lst (ws.map c5)])):=by
 suffices h:Ends (tj [.int cell,.int (mo:Int)]) fun b=>∃cs ws,gn cs ws∧cs.length≤mo∧b=.v (.tup [.lst (bH cs),.lst (ws.map c5)])by
  obtain⟨b,e,cs,ws,h,h',rfl⟩:=h;exact⟨cs,ws,h,h',e⟩
 obtain⟨xs,hx,ex⟩:=pI cell 1 24 (by decide);have j5:g6 [.int cell,.int 1,.int 24]=.ok (.o (xs.map D.int)):=ex;have at':∀k:Nat,k<24→∃x,az (.lst (xs.map D.int)) (.int (k:Int))=.ok (.int x):=fun k hk=>⟨_,kO (by omega)⟩;obtain⟨x0,bU⟩:=at' 0 (by decide);obtain⟨t_,oF⟩:=at' 7 (by decide);obtain⟨ua,sf⟩:=at' 8 (by decide);obtain⟨m,hm,em⟩:=jq x0 (n:=mo) (by omega);have yW:az (.lst (xs.map D.int)) (.int 0)=.ok (.int x0):=bU;have Mh:az (.lst (xs.map D.int)) (.int 7)=.ok (.int t_):=oF;have Mi:az (.lst (xs.map D.int)) (.int 8)=.ok (.int ua):=sf;have u3:(1:Int)+x0%(mo:Int)=((m+1:Nat):Int):=by omega
 simp(disch:=first|omega|(simp;done)|(simp;omega)) [tj,yx,j5,yW,u3,-Int.natCast_add];obtain⟨t,t1,pK,gq⟩:=WU (m+1) (by omega) (by omega)
 let oz:Nat→Nat:=fun k=>(1+xs.getD (1+k) 0%(t:Int)).toNat
 have uU:∀k,1≤oz k∧oz k≤4∧1+xs.getD (1+k) 0%(t:Int)=(oz k:Int):=fun k=>by have a:=Int.emod_nonneg (xs.getD (1+k) 0) (b:=(t:Int)) (by omega);have b:=Int.emod_lt_of_pos (xs.getD (1+k) 0) (b:=(t:Int)) (by omega);show 1≤(1+xs.getD (1+k) 0%(t:Int)).toNat∧(1+xs.getD (1+k) 0%(t:Int)).toNat≤4∧_=((1+xs.getD (1+k) 0%(t:Int)).toNat:Int);omega
 have eg:∀k:Nat,k<10→az (.lst (xs.map D.int)) (.int (1+(k:Int)))=.ok (.int (xs.getD (1+k) 0)):=fun k hk=>by
  have h:1+k<xs.length:=by omega
  have:=kO h;rw[List.getD_eq_getElem?_getD,List.getElem?_eq_getElem h];exact this
 refine u4 (m+1) (fun k=>.int (oz k:Int)) (by simp[show m+1<1000000 by omega,-Int.natCast_add]) (by omega) (fun k hk=>?_) ?_
 ·simp only[List.getD_eq_getElem?_getD]at eg uU;simp[eg k (by omega),gq,show 0<t by omega,(uU k).2.2,-Int.natCast_add]
 have M4:(List.range (m+1)).map (fun k=>D.int (oz k:Int))=bH ((List.range (m+1)).map oz):=by simp[bH]
 rw[M4];generalize sE:(List.range (m+1)).map oz=cs;have ck:cs.length=m+1:=by rw[←sE];simp
 have j4:∀c∈cs,1≤c∧c≤4:=fun c hc=>by rw[←sE]at hc;obtain⟨k,_,rfl⟩:=List.mem_map.mp hc;exact⟨(uU k).1,(uU k).2.1⟩
 have lcs:(bH cs).length=cs.length:=by simp[bH]
 simp;refine kJ cs.length (fun j ρ=>∃gK,ρ=[.aq (.int cell),.aq (.int (mo:Int)),.aq (.lst (xs.map D.int)),.aq (.int (m+1:Nat)),.aq (.lst (bH cs)),.c_ ((dx cs j).map bb),gK,.un,.un,.un]) (by simp[lcs,show cs.length<1000000 by omega]) ⟨.un,by simp[dx]⟩ ?_ ?_
 ·rintro j _ cF ⟨s5,rfl⟩;have bE:az (.lst (bH cs)) (.int (j:Int))=.ok (.int (cs.getD j 0:Nat)):=iC (sd cF);have qI:=zq (fun c h=>(j4 c h).2) j;simp;refine u4 (cs.getD j 0) (fun k=>bb (j,k)) (by simp only[List.getD_eq_getElem?_getD]at bE qI;simp[bE,show cs[j]?.getD 0<1000000 by omega]) (by omega) (fun k hk=>by simp[bb]) ?_;have nx:=r8 j4 j;simp only[List.getD_eq_getElem?_getD]at qI ⊢;simp[show(dx cs j).length+cs[j]?.getD 0≤1000000 by omega];rw[uF];simp[jG]
  done
 ·rintro _ ⟨s5,rfl⟩;have KA:1≤(dx cs cs.length).length:=List.length_pos_of_mem (head_mem (by omega) j4);have KC:=r8 j4 cs.length;generalize fQ:(dx cs cs.length).length=L at KA KC;simp[dF];generalize hv:(if(L:Int)/2+t_%2<12 then(L:Int)/2+t_%2 else 12)=v;have Zn:0≤v∧v≤12:=by rw[←hv];split<;>omega
  refine kJ v.toNat (fun j ρ=>∃left ws fJ gL,Lay (dx cs cs.length) left ws∧left.length+2*ws.length=L∧ws.length≤j∧ρ=[.aq (.int cell),.aq (.int (mo:Int)),.aq (.lst (xs.map D.int)),.aq (.int (m+1:Nat)),.aq (.lst (bH cs)),.c_ (left.map bb),s5,.c_ (ws.map c5),fJ,gL]) ?_ ⟨dx cs cs.length,[],.un,.un,⟨by simpa[ends]using Dw cs cs.length,fun d hd=>by simpa[ends]using hd⟩,by simpa using fQ,by simp,rfl⟩ ?_ ?_
  ·simp(disch:=first|omega|(simp;done)|(simp;omega)) [Mh,fQ,hv,UH (v:=v) (by omega) (by omega)]
  ·rintro j _ cF ⟨left,ws,fJ,gL,lay,h1,h2,rfl⟩;simp[dF,Mi,eq_nil c5 ws fun w _=>SE 5 w];by_cases hb:2<left.length∨(1<left.length∧ws=[]∧ua%2=0)
   ·have Zf:1<left.length:=by omega
    have ec:(if(2:Int)<(left.length:Int)then(R.ok true:R Bool)else if(1:Int)<(left.length:Int)then if ws=[]then R.ok (ua%2==0)else R.ok false else R.ok false)=.ok true:=by
     rcases hb with h|⟨h,h',h8⟩
     ·rw[if_pos (by omega)]
     ·split
      ·rfl
      ·simp[h',h8];omega
    obtain⟨gh,f1⟩:=at' (9+j) (by omega);obtain⟨jv,f2⟩:=at' (23-j) (by omega);obtain⟨dQ,sH,y3⟩:=jq gh (n:=left.length) (by omega);have le:(left.eraseIdx dQ).length=left.length-1:=by simp[List.length_eraseIdx,sH]
    obtain⟨b7,nj,y4⟩:=jq (jv/5) (n:=(left.eraseIdx dQ).length) (by omega);have Nk:az (.lst (xs.map D.int)) (.int (9+(j:Int)))=.ok (.int gh):=by rw[←f1];simp
    have Nm:az (.lst (xs.map D.int)) (.int (23-(j:Int)))=.ok (.int jv):=by rw[←f2];congr 2;omega
    have kB:=Ic bb (i:=5) sH (by omega);have kC:=Ic bb (i:=5) nj (by omega);rw[ec];simp(disch:=first|omega|(simp;done)|(simp;omega)) [dF,Nk,Nm,y3,kB,y4,kC];refine⟨_,_,lay.take sH nj,by rw[List.length_eraseIdx,if_pos nj,le];simp;omega,by simp;omega,rfl,by simp[c5]⟩
   ·have ec:(if(2:Int)<(left.length:Int)then(R.ok true:R Bool)else if(1:Int)<(left.length:Int)then if ws=[]then R.ok (ua%2==0)else R.ok false else R.ok false)=.ok false:=by
      rw[if_neg (by omega)]
      split
      ·split
       ·rename_i a b;have:¬ua%2=0:=fun z=>hb (.inr ⟨by omega,b,z⟩);simp[this]
       ·rfl
      ·rfl
    rw[ec];simp;exact⟨left,ws,lay,h1,by omega,rfl,rfl⟩
  ·rintro _ ⟨left,ws,fJ,gL,lay,h1,h2,rfl⟩;simp[dF,eq_nil bb left fun w _=>HG 6 w];by_cases hl:left=[]
   ·subst hl;have hw:1≤ws.length:=by simp at h1;omega
    obtain⟨cG,cD,gs⟩:=lay.drop hw;have gl:ws[ws.length-1]?=some (ws[ws.length-1]):=List.getElem?_eq_getElem (by omega);simp[show 0<ws.length by omega,gl,dF];exact⟨cs,ws.dropLast,⟨by omega,by omega,j4,cG,cD,gs,by simp;omega⟩,by omega,rfl,by simp⟩
   ·have nl:1≤left.length:=List.length_pos_iff.mpr hl;have ec:(if 0<ws.length then(R.ok left.isEmpty:R Bool)else R.ok false)=.ok false:=by
     rw[show left.isEmpty=false by simp[hl]];split<;>rfl
    rw[ec];simp[dF];exact⟨cs,ws,⟨by omega,by omega,j4,(List.nodup_append.mp lay.aQ).2.1,fun d hd=>lay.sub d (List.mem_append_right _ hd),lay.left nl,by omega⟩,by omega,rfl,rfl⟩
theorem TP(y:Int):∃c,om c∧az (.str (PySem.Str.ofString "01xxx")) (.int (y%5))=.ok (eH c):=by
 have h:y%5=0∨y%5=1∨y%5=2∨y%5=3∨y%5=4:=by omega
 rcases h with h|h|h|h|h<;>rw[h]
 ·exact⟨48,.inl rfl,rfl⟩
 ·exact⟨49,.inr (.inl rfl),rfl⟩
 ·exact⟨120,.inr (.inr rfl),rfl⟩
 ·exact⟨120,.inr (.inr rfl),rfl⟩
 ·exact⟨120,.inr (.inr rfl),rfl⟩
theorem TO(y:Int):∃c,om c∧az (.str (PySem.Str.ofString "01xx")) (.int (y%4))=.ok (eH c):=by
 have h:y%4=0∨y%4=1∨y%4=2∨y%4=3:=by omega
 rcases h with h|h|h|h<;>rw[h]
 ·exact⟨48,.inl rfl,rfl⟩
 ·exact⟨49,.inr (.inl rfl),rfl⟩
 ·exact⟨120,.inr (.inr rfl),rfl⟩
 ·exact⟨120,.inr (.inr rfl),rfl⟩
theorem TN(y:Int):∃c,om c∧az (.str (PySem.Str.ofString "01")) (.int (y%2))=.ok (eH c):=by
 have h:y%2=0∨y%2=1:=by omega
 rcases h with h|h<;>rw[h]
 ·exact⟨48,.inl rfl,rfl⟩
 ·exact⟨49,.inr (.inl rfl),rfl⟩
theorem Du{x:Str}{c:Nat}(h:x.cps.toList.length≤1000):d9 (.str x) (eH c)=.ok (.str (x++⟨#[c]⟩)):=by refine KS ?_;have:x.length=x.cps.toList.length:=rfl;have:(⟨#[c]⟩:Str).length=1:=rfl;omega
structure oo(j:Nat)(x:Str):Prop where
 l:x.cps.toList.length=j
 s:∀c∈x.cps.toList,om c
theorem oo.nil:oo 0 (PySem.Str.ofString ""):=⟨by decide,fun c hc=>by simp[show(PySem.Str.ofString "").cps.toList=[]from rfl]at hc⟩
theorem oo.snoc{j:Nat}{x:Str}{c:Nat}(h:oo j x)(hc:om c):oo (j+1) (x++⟨#[c]⟩):=by
 refine⟨by rw[Ec];simp[h.l],fun d hd=>?_⟩;rw[Ec]at hd;rcases List.mem_append.mp hd with z|z
 ·exact h.s d z
 ·rw[List.mem_singleton.mp z];exact hc
theorem AZ:lJ [.int 4]=.ok (fI 0 4):=rfl
theorem HX(n:Int):∃p,hy p∧rg [.int n]=.ok (.v (.str p)):=by
 suffices h:Ends (rg [.int n]) fun b=>∃p,hy p∧b=.v (.str p)by
  obtain⟨b,e,p,h,rfl⟩:=h;exact⟨p,h,e⟩
 simp[rg,yB];refine kJ 4 (fun j ρ=>∃(r:Int)(x:Str)(s2:cp),oo j x∧ρ=[.aq (.int r),.aq (.str x),s2]) (by simp[AZ]) ⟨n,_,.un,.nil,rfl⟩ ?_ ?_
 ·rintro j _ cF ⟨r,x,s2,h,rfl⟩;obtain⟨c,hc,ec⟩:=TP r;have:=h.l;simp(disch:=first|omega|(simp;done)|(simp;omega)) [ec,Du (x:=x) (c:=c) (by omega)];exact h.snoc hc
 ·rintro _ ⟨r,x,s2,h,rfl⟩;simp;exact⟨h.l,h.s⟩
@[simp] theorem abi(f:Str→Str→Int)(m n:aC)(ρ:ak):s8 f m n ρ=(m ρ).bind (xb f n ρ):=(rfl)
@[simp] theorem aah(f:Str→Str→Int)(n:aC)(ρ:ak)(a:Str):xb f n ρ (.str a)=(n ρ).bind (Cu f a):=(rfl)
@[simp] theorem aag(f:Str→Str→Int)(a b:Str):Cu f a (.str b)=.ok (.int (f a b)):=(rfl)
theorem za(b:Bool)(x y:Str):bR b (.str x) (.str y)=.ok (.aD (if b then x==y else !(x==y))):=by simp[bR,okN,bk]
theorem RX(n:Int):∃p,hy p∧ti [.int n]=.ok (.v (.str p)):=by
 suffices h:Ends (ti [.int n]) fun b=>∃p,hy p∧b=.v (.str p)by
  obtain⟨b,e,p,h,rfl⟩:=h;exact⟨p,h,e⟩
 simp[ti,yw];refine kJ 4 (fun j ρ=>∃(r:Int)(x:Str)(s2 s3:cp),oo j x∧ρ=[.aq (.int r),.aq (.str x),s2,s3]) (by simp[AZ]) ⟨n,_,.un,.un,.nil,rfl⟩ ?_ ?_
 ·rintro j _ cF ⟨r,x,s2,s3,h,rfl⟩;obtain⟨c,hc,ec⟩:=TO r;obtain⟨eE,jk,Ep⟩:=TN (r/4);have:=h.l;have A:=fun c=>Du (x:=x) (c:=c) (by omega);simp(disch:=first|omega|(simp;done)|(simp;omega)) [ec,Ep,A];have:∃bA,bR true (eH c) (.str (PySem.Str.ofString "x"))=.ok (.aD bA):=⟨_,za true _ _⟩;obtain⟨bA,ax⟩:=this;by_cases aY:Txt.count x (PySem.Str.ofString "x")=2<;>cases bA<;>simp[aY,ax,ec,Ep,A]
  ·exact h.snoc hc
  ·exact h.snoc jk
  ·exact h.snoc hc
  ·exact h.snoc hc
 ·rintro _ ⟨r,x,s2,s3,h,rfl⟩;simp;exact⟨h.l,h.s⟩
theorem TK(c:Nat)(hc:1≤c)(x y:Int):∃o:Option Nat,(∀k,o=some k→k<c)∧az (.lst [.non,.non,.int (x%(c:Int))]) (.int (y%3))=.ok (d8 o):=by
 obtain⟨k,hk,dP⟩:=jq x (n:=c) (by omega);rw[dP];have h:y%3=0∨y%3=1∨y%3=2:=by omega
 rcases h with h|h|h<;>rw[h]
 ·exact⟨none,by simp,rfl⟩
 ·exact⟨none,by simp,rfl⟩
 ·exact⟨some k,fun _ e=>by cases e;exact hk,rfl⟩
theorem TM(c:Nat)(hc:1≤c)(ip eP mI y:Int):∃o:Option Nat,(∀k,o=some k→k<c)∧az (.lst [.non,.int (ip%(c:Int)),.int (eP%(c:Int)),.int (mI%(c:Int))]) (.int (y%4))=.ok (d8 o):=by
 obtain⟨dQ,sH,y3⟩:=jq ip (n:=c) (by omega);obtain⟨b7,nj,y4⟩:=jq eP (n:=c) (by omega);obtain⟨hD,Ob,M6⟩:=jq mI (n:=c) (by omega);rw[y3,y4,M6];have h:y%4=0∨y%4=1∨y%4=2∨y%4=3:=by omega
 rcases h with h|h|h|h<;>rw[h]
 ·exact⟨none,by simp,rfl⟩
 ·exact⟨some dQ,fun _ e=>by cases e;exact sH,rfl⟩
 ·exact⟨some b7,fun _ e=>by cases e;exact nj,rfl⟩
 ·exact⟨some hD,fun _ e=>by cases e;exact Ob,rfl⟩
theorem A0(n:Int)(c:Nat)(hc:1≤c):∃r,uv c r∧rh [.int n,.int (c:Int)]=.ok (.v (dM r)):=by obtain⟨p,hp,du⟩:=HX (n/61);obtain⟨a,ha,ar⟩:=TK c hc (n/11) n;obtain⟨b,hb,bq⟩:=TM c hc (n/47) (n/53) (n/59) (n/3);refine⟨⟨p,a,b⟩,⟨hp,ha,hb⟩,?_⟩;simp(disch:=first|omega|(simp;done)|(simp;omega)) [rh,yC,du,ar,bq,dM]
structure pY(c:Nat)(b:List cH):Prop where
 r:∀r∈b,uv c r
 l:b.length≤4
@[simp] theorem Xq(f:D→Option Int→Option Int→R D)(m:aC)(lo hi:jc)(ρ:ak):jS f m lo hi ρ=(m ρ).bind fun d=>(lo ρ).bind fun l=>(hi ρ).bind fun h=>f d l h:=(rfl)
@[simp] theorem Xn(m:aC)(ρ:ak):mm m ρ=(m ρ).bind intD:=(rfl)
@[simp] theorem Xm(ρ:ak):qZ ρ=.ok none:=(rfl)
@[simp] theorem Zr(i:Int):intD (.int i)=.ok (some i):=(rfl)
@[simp] theorem VN(xs:List D)(l h:Option Int):nX (.lst xs) l h=.ok (.lst (jg xs l h)):=(rfl)
@[simp] theorem VD(xs:List D):wR (.lst xs)=.ok xs:=(rfl)
theorem LJ{α:Type}(xs:List α)(a b:Nat):jg xs (some (a:Int)) (some (b:Int))=(xs.drop (min a xs.length)).take (min b xs.length-min a xs.length):=by unfold jg;rw[dD.A8,dD.A8]
theorem Lg(cell s:Int)(c:Nat)(hc:1≤c):∃b,pY c b∧tf [.int cell,.int s,.int (c:Int),.int 4]=.ok (.o (b.map dM)):=by
 suffices h:Ends (tf [.int cell,.int s,.int (c:Int),.int 4]) fun d=>∃b,pY c b∧d=.o (b.map dM)by
  obtain⟨d,e,b,h,rfl⟩:=h;exact⟨b,h,e⟩
 obtain⟨xs,hx,ex⟩:=pI cell s 5 (by decide);have j5:g6 [.int cell,.int s,.int 5]=.ok (.o (xs.map D.int)):=ex;obtain⟨x0,bU⟩:∃x0,az (.lst (xs.map D.int)) (.int 0)=.ok (.int x0):=⟨_,kO (k:=0) (by omega)⟩;obtain⟨m,hm,em⟩:=jq x0 (n:=5) (by decide);have u3:(1:Int)+x0%5=((m+1:Nat):Int):=by omega
 simp(disch:=first|omega|(simp;done)|(simp;omega)) [tf,ym,j5,bU,u3,-Int.natCast_add];have cm:=LJ (xs.map D.int) 1 (m+1);rw[←List.map_drop,←List.map_take]at cm;generalize bx:(xs.drop (min 1 (xs.map D.int).length)).take (min (m+1) (xs.map D.int).length-min 1 (xs.map D.int).length)=zs at cm;have Ro:zs.length≤4:=by rw[←bx];simp;omega
 obtain⟨f,hf⟩:∃f:Int→cH,∀x,uv c (f x)∧rh [.int x,.int (c:Int)]=.ok (.v (dM (f x))):=⟨fun x=>(A0 x c hc).choose,fun x=>(A0 x c hc).choose_spec⟩;refine oH D.int zs (fun x=>dM (f x)) (by simp[bU,u3,-Int.natCast_add];exact cm) (by omega) (fun x _=>by simp[(hf x).2]) ?_;simp;exact⟨zs.map f,⟨fun r hr=>by obtain⟨x,_,rfl⟩:=List.mem_map.mp hr;exact(hf x).1,by simpa using Ro⟩,by simp⟩
def kY(b:List cH):T:=.lst (b.map fun r=>T.aq (dM r))
def dw(bs:List (List cH)):List T:=bs.map kY
theorem Cr:∀aA:List T,kZ aA=aA.map toD
 |[]=>by simp[kZ]
 |t::aA=>by simp[kZ,Cr aA]
theorem WY(b:List cH):toD (kY b)=bp b:=by
 unfold kY bp;rw[toD,Cr,List.map_map]
 congr 1
theorem Cs(bs:List (List cH)):toD (.lst (dw bs))=.lst (bs.map bp):=by
 unfold dw;rw[toD,Cr,List.map_map]
 congr 1
 exact List.map_congr_left fun r _=>WY r
theorem Hf(b:List cH):gr (b.map dM)=kY b:=by simp[gr,kY]
structure fk(cs:List Nat)(bs:List (List cH)):Prop where
 l:bs.length=cs.length
 b:∀i b,bs[i]?=some b→pY (cs.getD i 0) b
theorem fk.put{cs:List Nat}{bs:List (List cH)}(h:fk cs bs){k:Nat}{b:List cH}(hb:pY (cs.getD k 0) b):fk cs (bs.set k b):=by
 refine⟨by simpa using h.l,fun i x ex=>?_⟩;rw[List.getElem?_set]at ex;by_cases q:k=i
 ·rw[if_pos q]at ex
  split at ex
  ·cases ex;subst q;exact hb
  ·cases ex
 ·rw[if_neg q]at ex;exact h.b _ _ ex
theorem FR{cs:List Nat}(h:∀c∈cs,1≤c∧c≤4){k:Nat}(hk:k<cs.length):1≤cs.getD k 0∧cs.getD k 0≤4:=by have:=h (cs[k]) (List.getElem_mem _);simpa[hk]using this
@[simp] theorem aas(i:Nat)(ma:aP)(ρ:ak):vP i ma ρ=(il i ρ).bind fun aA=>(ma ρ).bind fun ds=>if aA.length<1000000 then .ok (.bj (ρ.set i (.bG (.lst (aA++[gr ds])))))else .bad:=(rfl)
@[simp] theorem aaV(m:ob)(ρ:ak):s6 m ρ=(m ρ).bind fun aA=>if aA.length≤1000000 then .ok (.lst aA)else .bad:=(rfl)
@[simp] theorem aa2(ρ:ak):vR ρ=.ok []:=(rfl)
theorem DX(ns:List Int)(st:Nat)(cs:List Nat)(h6:cs.length≤6)(j4:∀c∈cs,1≤c∧c≤4):∃bs,fk cs bs∧nG [.bY (ns.map D.int),.int (st:Int),.lst (bH cs),.int 4]=.ok (.t (.lst (dw bs))):=by
 suffices h:Ends (nG [.bY (ns.map D.int),.int (st:Int),.lst (bH cs),.int 4]) fun b=>∃bs,fk cs bs∧b=.t (.lst (dw bs))by
  obtain⟨b,e,bs,h,rfl⟩:=h;exact⟨bs,h,e⟩
 have lcs:(bH cs).length=cs.length:=by simp[bH]
 simp[nG,yn];refine kJ cs.length (fun j ρ=>∃(bs:List (List cH))(s5:cp),bs.length=j∧(∀i b,bs[i]?=some b→pY (cs.getD i 0) b)∧ρ=[.aq (.bY (ns.map D.int)),.aq (.int (st:Int)),.aq (.lst (bH cs)),.aq (.int 4),.bG (.lst (dw bs)),s5]) (by simp[lcs,show cs.length<1000000 by omega]) ⟨[],.un,rfl,by simp,by simp[dw]⟩ ?_ ?_
 ·rintro j _ cF ⟨bs,s5,hl,hb,rfl⟩;have bE:az (.lst (bH cs)) (.int (j:Int))=.ok (.int (cs.getD j 0:Nat)):=iC (sd cF);obtain⟨c,ec⟩:=oy ns (st+j);have m9:ih [.bY (ns.map D.int),.int ((st:Int)+j)]=.ok (.v (.int c)):=by rw[←ec];simp
  obtain⟨b,NT,bq⟩:=Lg c (3+j) (cs.getD j 0) (FR j4 cF).1;simp only[List.getD_eq_getElem?_getD]at bE bq;simp[m9,bE,bq,dw,show bs.length<1000000 by omega,Hf];refine⟨bs++[b],by simp[hl],fun i x hx=>?_,by simp⟩;rw[List.getElem?_append]at hx
  split at hx
  ·simpa using hb _ _ hx
  ·have:i=j:=by
     have:=(List.getElem?_eq_some_iff.mp hx).1;simp at this;omega
   subst this;simp[hl]at hx;subst hx;simpa using NT
 ·rintro _ ⟨bs,s5,hl,hb,rfl⟩;simp;exact⟨bs,⟨hl,hb⟩,rfl⟩
noncomputable def u9:er:=(qW (gH (bc (ai lD (ct df (af (ai az (J 8) (J 6)) (aw))) (au (.int 4))))) (q1 (qO 8 (J 6) (J 7))) (q3 8 (J 6) (ai dN (ai eU (ai az (J 5) (au (.int 2))) (au (.int 4))) (au (.int 4))) (J 7)))
theorem vD{l k:Nat}(h:k<l):eF l (k:Int)=some k:=by unfold eF;rw[if_pos (by omega),if_pos (by omega)];simp
theorem Nd{cs:List Nat}{bs:List (List cH)}(hb:fk cs bs){h:Nat}(hh:h<cs.length){r:cH}(hr:uv (cs.getD h 0) r)(s0 s1:cp)(a b c:D)(xs:List Int)(hx:xs.length=3) :
  ∃D1,fk cs D1∧u9 [s0,s1,.aq a,.aq b,.aq c,.aq (.lst (xs.map D.int)),.aq (.int (h:Int)),.aq (dM r),.bG (.lst (dw bs))]=.ok [s0,s1,.aq a,.aq b,.aq c,.aq (.lst (xs.map D.int)),.aq (.int (h:Int)),.aq (dM r),.bG (.lst (dw D1))]:=by
 have hk:h<bs.length:=by rw[hb.l];exact hh
 have aj:bs[h]?=some bs[h]:=List.getElem?_eq_getElem hk;have ax:(dw bs)[h]?=some (kY bs[h]):=by simp[dw,aj]
 have bE:az (.lst (bs.map bp)) (.int (h:Int))=.ok (bp bs[h]):=iC (by simp[aj]);obtain⟨eP,ex⟩:∃x,az (.lst (xs.map D.int)) (.int 2)=.ok (.int x):=⟨_,kO (k:=2) (by omega)⟩;have ft:=hb.b _ _ aj;have z_:df [bp bs[h]]=.ok (.int (bs[h].length:Int)):=by simp[bp]
 have jD:gH (bc (ai lD (ct df (af (ai az (J 8) (J 6)) (aw))) (au (.int 4)))) [s0,s1,.aq a,.aq b,.aq c,.aq (.lst (xs.map D.int)),.aq (.int (h:Int)),.aq (dM r),.bG (.lst (dw bs))]=.ok (decide ((bs[h].length:Int)<4)):=by simp[dF,Cs,bE,z_]
 unfold u9 qW;rw[jD,dH];by_cases q:bs[h].length<4
 ·rw[if_pos (by simp;omega)];refine⟨bs.set h (bs[h]++[r]),hb.put ⟨fun x hx=>?_,by simp;omega⟩,?_⟩
  ·rcases List.mem_append.mp hx with hx|hx
   ·exact ft.r x hx
   ·rw[List.mem_singleton.mp hx];exact hr
  ·have dk:=K5 (i:=8) (ρ:=[s0,s1,.aq a,.aq b,.aq c,.aq (.lst (xs.map D.int)),.aq (.int (h:Int)),.aq (dM r),.bG (.lst (dw bs))]) (m:=J 7) (d:=dM r) ax (by simp) (by simp;omega);have eT:(dw bs).set h (.lst (bs[h].map (fun r=>T.aq (dM r))++[.aq (dM r)]))=dw (bs.set h (bs[h]++[r])):=by simp[dw,kY,List.map_set]
   simp[q1,dk,HD,eT]
 ·rw[if_neg (by simp;omega)];have qI:bs[h].length=4:=by have:=ft.l;omega
  obtain⟨j,cF,jh⟩:=jq (eP/4) (n:=4) (by decide);have M5:eP/4%4=(j:Int):=jh;refine⟨bs.set h (bs[h].set j r),hb.put ⟨fun x hx=>?_,by simp;omega⟩,?_⟩
  ·rcases List.mem_or_eq_of_mem_set hx with hx|hx
   ·exact ft.r x hx
   ·rw[hx];exact hr
  ·have eT:(dw bs).set h (.lst ((bs[h].map (fun r=>T.aq (dM r))).set j (.aq (dM r))))=dw (bs.set h (bs[h].set j r)):=by simp[dw,kY,List.map_set]
   have iU:(bs[h].map (fun r=>T.aq (dM r))).all ie=true:=by simp[ie]
   have oF:(dw bs).length=bs.length:=by simp[dw]
   have sf:kY bs[h]=.lst (bs[h].map fun r=>T.aq (dM r)):=rfl;rw[sf]at ax;have Mj:eF (bs[h].map fun r=>T.aq (dM r)).length (j:Int)=some j:=by rw[List.length_map,qI];exact vD cF
   simp(disch:=first|omega|(simp;done)|(simp;omega)) only[q3,v_var,List.getElem?_cons_succ,List.getElem?_cons_zero,Ux,dH,Xr,WZ,AG,oF,vD hk,AI,ax,Xf,CB,ex,Nw,Hp,M5,AH,Mj,iU,if_true,eT,List.set_cons_succ,List.set_cons_zero]
theorem Ng{cs:List Nat}{o n:List (List cH)}(h1:1≤cs.length)(h6:cs.length≤6)(j4:∀c∈cs,1≤c∧c≤4)(ho:fk cs o)(aJ:fk cs n)(cell s:Int):∃d cg i0,fk cs cg∧fk cs i0∧v5 (.lst (dw o)) (.lst (dw n)) [.lst (bH cs),.int cell,.int s]=.ok (d,.lst (dw cg),.lst (dw i0)):=by
 obtain⟨xs,hx,ex⟩:=pI cell s 3 (by decide);have j5:g6 [.int cell,.int s,.int 3]=.ok (.o (xs.map D.int)):=ex;obtain⟨x0,bU⟩:∃x,az (.lst (xs.map D.int)) (.int 0)=.ok (.int x):=⟨_,kO (k:=0) (by omega)⟩;obtain⟨ip,aj⟩:∃x,az (.lst (xs.map D.int)) (.int 1)=.ok (.int x):=⟨_,kO (k:=1) (by omega)⟩;obtain⟨eP,ax⟩:∃x,az (.lst (xs.map D.int)) (.int 2)=.ok (.int x):=⟨_,kO (k:=2) (by omega)⟩;have lcs:(bH cs).length=cs.length:=by simp[bH]
 obtain⟨h,hh,hZ⟩:=jq x0 (n:=cs.length) (by omega);have bE:az (.lst (bH cs)) (.int (h:Int))=.ok (.int (cs.getD h 0:Nat)):=iC (sd hh);obtain⟨r,hr,cq⟩:=A0 ip (cs.getD h 0) (FR j4 hh).1;have B:=fun{bs}(hb:fk cs bs) s0 s1=>Nd hb hh hr s0 s1 (.lst (bH cs)) (.int cell) (.int s) xs hx;have fin:∃cg i0,fk cs cg∧fk cs i0∧l0 0 1 8 u9 [.bG (.lst (dw o)),.bG (.lst (dw n)),.aq (.lst (bH cs)),.aq (.int cell),.aq (.int s),.aq (.lst (xs.map D.int)),.aq (.int (h:Int)),.aq (dM r),.un] (.int (eP%4))=.ok (.bj [.bG (.lst (dw cg)),.bG (.lst (dw i0)),.aq (.lst (bH cs)),.aq (.int cell),.aq (.int s),.aq (.lst (xs.map D.int)),.aq (.int (h:Int)),.aq (dM r),.un]):=by
  obtain⟨cg,ho',gW⟩:=B ho .un (.bG (.lst (dw n)));obtain⟨cG,Ol,M9⟩:=B aJ (.bG (.lst (dw o))) .un;obtain⟨cD,oM,Eu⟩:=B aJ (.bG (.lst (dw cg))) .un;have aO:eP%4=0∨eP%4=1∨eP%4=2∨eP%4=3:=by omega
  rcases aO with q|q|q|q<;>rw[q]
  ·exact⟨cg,n,ho',aJ,by simp[l0,show eF 4 0=some 0 from rfl,qf,lb,kE,gW]⟩
  ·exact⟨o,cG,ho,Ol,by simp[l0,show eF 4 1=some 1 from rfl,qf,lb,kE,M9]⟩
  ·exact⟨cg,cD,ho',oM,by simp[l0,show eF 4 2=some 2 from rfl,qf,lb,kE,gW,Eu]⟩
  ·exact⟨cg,cD,ho',oM,by simp[l0,show eF 4 3=some 3 from rfl,qf,lb,kE,gW,Eu]⟩
 obtain⟨cg,i0,ho',sL,dW⟩:=fin;refine⟨.int (h:Int),cg,i0,ho',sL,?_⟩;generalize cs.getD h 0=c at bE cq;have fS:oU 9 (.lst (dw o)) (.lst (dw n)) [.lst (bH cs),.int cell,.int s]=[.bG (.lst (dw o)),.bG (.lst (dw n)),.aq (.lst (bH cs)),.aq (.int cell),.aq (.int s),.un,.un,.un,.un]:=rfl;have qd:∀ρ,vO 0 1 8 (ai dN (ai az (J 5) (au (.int 2))) (au (.int 4))) (qW (gH (bc (ai lD (ct df (af (ai az (J 8) (J 6)) (aw))) (au (.int 4))))) (q1 (qO 8 (J 6) (J 7))) (q3 8 (J 6) (ai dN (ai eU (ai az (J 5) (au (.int 2))) (au (.int 4))) (au (.int 4))) (J 7))) ρ=(iG ((ai dN (ai az (J 5) (au (.int 2))) (au (.int 4))) ρ)).bind fun k=>l0 0 1 8 u9 ρ k:=fun _=>rfl;simp(disch:=first|omega|(simp;done)|(simp;omega)) [v5,sZ,fS,yr,o8,q6,j5,bU,aj,ax,lcs,hZ,bE,cq,qd,EL,dW,vT,HR,tD]
@[simp] theorem aaR(m:aP)(ρ:ak):qV m ρ=(m ρ).bind C9:=(rfl)
@[simp] theorem aaF(m n:aC)(ρ:ak):sY m n ρ=(m ρ).bind fun d=>match d with
  |.a_ bV ds=>(n ρ).bind fun k=>match mj k with
   |some cJ=>.ok ((findD bV ds cJ).getD .non)
   |none=>.bad
  |_=>.bad:=(rfl)
@[simp] theorem aaN(m:aC)(ma:aP)(ρ:ak):nD m ma ρ=(m ρ).bind fun d=>match d with
  |.lst ds=>(ma ρ).bind fun ag=>vz (.lst ds) ag
  |_=>.bad:=(rfl)
theorem KU(i:Int):vV [.int i]=.ok (.v (.aD (decide (0≤i)&&decide (i≤15)))):=by simp[vV,yb,CN,l7]
def l4(a w:Nat):Nat:=48+a/w%2
def ix(p:Str)(a:Nat):Bool:=(p.cps.toList.zip [8,4,2,1]).all fun q=>decide (q.1=120∨q.1=l4 a q.2)
theorem Wc(b:Nat)(h:b=0∨b=1):pH [.int (b:Int)]=.ok (.str ⟨#[48+b]⟩):=by rcases h with rfl|rfl<;>rfl
theorem sign_eq(c d:Nat):bk (.str ⟨#[d]⟩) (eH c)=decide (c=d):=by show bk (.str ⟨#[d]⟩) (.str ⟨#[c]⟩)=_;simp only[bk];rw[Bool.eq_iff_iff,beq_iff_eq,decide_eq_true_iff];simp;exact eq_comm
theorem Wd:PySem.Str.ofString "x"=⟨#[120]⟩:=by decide
theorem PL(c d:Nat):inD true (eH c) (.tup [.str (PySem.Str.ofString "x"),.str ⟨#[d]⟩])=.ok (.aD (decide (c=120∨c=d))):=by have o:okN 7 (eH c)=true:=rfl;have cy:okN 7 (.str (PySem.Str.ofString "x"))=true:=rfl;have b_:okN 7 (.str ⟨#[d]⟩)=true:=rfl;have s:rx (.tup [.str (PySem.Str.ofString "x"),.str ⟨#[d]⟩])=some [.str (PySem.Str.ofString "x"),.str ⟨#[d]⟩]:=rfl;simp only[inD,s,o,cy,b_,List.all_cons,List.all_nil,Bool.and_true,and_self,if_true,List.any_cons,List.any_nil,Bool.or_false];rw[Wd,sign_eq,sign_eq];simp
theorem FG{p:Str}(hp:hy p){a:Nat}(ha:a<16):pb [.str p,.int (a:Int)]=.ok (.v (.aD (ix p a))):=by
 apply Ends.done;have l:=hp.l;simp[pb,x_,S8 hp,KU,show(a:Int)≤15 by omega];refine y5 (fun q:Nat×Nat=>eH q.1) (fun q=>.int (q.2:Int)) (p.cps.toList.zip [8,4,2,1]) (fun q=>.aD (decide (q.1=120∨q.1=l4 a q.2))) ?_ (by simp;omega) (fun q aO=>?_) ?_
 ·show R.ok (pW p.cps.toList [.int 8,.int 4,.int 2,.int 1])=_;unfold pW;rw[show([.int 8,.int 4,.int 2,.int 1]:List D)=([8,4,2,1]:List Nat).map fun(n:Nat)=>D.int (n:Int)from rfl,List.zip_map_right,List.map_map];rfl
 ·have hw:q.2=8∨q.2=4∨q.2=2∨q.2=1:=by
    have:=(List.of_mem_zip (show(q.1,q.2)∈_ from aO)).2;simpa using this
  have kW:pH [.int ((a:Int)/(q.2:Int)%2)]=.ok (.str ⟨#[48+a/q.2%2]⟩):=by have:=Wc (a/q.2%2) (by omega);rw[←this];simp
  simp(disch:=first|omega|(simp;done)|(simp;omega)) [kW,PL,l4];rw[Bool.eq_iff_iff];simp;exact decide_eq_true_iff.symm
 ·have al:=xV (fun q:Nat×Nat=>decide (q.1=120∨q.1=l4 a q.2)) (p.cps.toList.zip [8,4,2,1]);simp only[al];simp[ix]
def mt(d a:Nat)(r:cH):Bool:=(r.a.isNone||r.a==some d)&&ix r.p a
theorem qz(o:Option Nat):hC (d8 o)=o.isNone:=by cases o<;>rfl
theorem EF(o:Option Nat)(d:Nat):bR true (d8 o) (.int (d:Int))=.ok (.aD (o==some d)):=by
 cases o with
 |none=>rfl
 |some k=>
  show R.ok (D.aD ((k:Int)==(d:Int)))=_
  congr 2
  rw[Bool.eq_iff_iff];simp;omega
theorem Xh(mi:aP)(set:D→ak→R ak)(body:a8)(ρ:ak):d7 mi set body ρ=(mi ρ).bind fun ds=>gX set body ds ρ:=(rfl)
noncomputable def i8(d a:Nat):Nat→List cH→Option Nat
 |_,[]=>none
 |i,r::rs=>if mt d a r=true then some i else i8 d a (i+1) rs
theorem Jz{d a:Nat}(ha:a<16):∀(rs:List cH)(i:Nat)(s0 s3 s4:cp),(∀r∈rs,hy r.p)→
  Ends ((gX (fX [bB 3,bB 4]) (c9 (iE (fg (bc (ai (fG true) (ai az (J 4) (au (.int 1))) (au .non))) (bc (ai (bR true) (ai az (J 4) (au (.int 1))) (J 1)))) (bc (b8 2 pb (af (ai az (J 4) (au (.int 0))) (af (J 2) (aw)))))) (cw (J 3)) (dg)) ((rs.zipIdx i).map fun p=>.tup [.int (p.2:Int),dM p.1]) [s0,.aq (.int (d:Int)),.aq (.int (a:Int)),s3,s4]).bind (lO (cw (au .non)))) (· =.dh (d8 (i8 d a i rs)))
 |[],i,s0,s3,s4,_=>by simp[i8,d8]
 |r::rs,i,s0,s3,s4,h=>by
  have fS:az (dM r) (.int 0)=.ok (.str r.p):=rfl;have bJ:az (dM r) (.int 1)=.ok (d8 r.a):=rfl;have b6:=Jz (d:=d) ha rs (i+1) s0 (.aq (.int (i:Int))) (.aq (dM r)) fun x hx=>h x (List.mem_cons_of_mem _ hx);have f:=FG (h r List.mem_cons_self) ha;have bd:(c9 (iE (fg (bc (ai (fG true) (ai az (J 4) (au (.int 1))) (au .non))) (bc (ai (bR true) (ai az (J 4) (au (.int 1))) (J 1)))) (bc (b8 2 pb (af (ai az (J 4) (au (.int 0))) (af (J 2) (aw)))))) (cw (J 3)) (dg)) [s0,.aq (.int (d:Int)),.aq (.int (a:Int)),.aq (.int (i:Int)),.aq (dM r)]=if mt d a r=true then .ok (.dh (.int (i:Int)))else .ok (.bj [s0,.aq (.int (d:Int)),.aq (.int (a:Int)),.aq (.int (i:Int)),.aq (dM r)]):=by unfold mt;have aY:=qz r.a;have bA:=EF r.a d;generalize r.a.isNone=eD at aY ⊢;generalize(r.a==some d)=d0 at bA ⊢;generalize ix r.p a=m4 at f ⊢;cases eD<;>cases d0<;>cases m4<;>simp[fS,bJ,aY,bA,f]
  rw[List.zipIdx_cons,List.map_cons,gX];simp only[VH,VE,VF,Xp,List.length_cons,List.length_nil,dH];simp only[show(3:Nat)<0+1+1+1+1+1 by decide,if_true,dH,List.set_cons_succ,List.set_cons_zero,List.length_cons,List.length_nil,show(4:Nat)<0+1+1+1+1+1 by decide,bd];cases hm:mt d a r with
  |true=>simp[i8,hm,d8]
  |false=>simp only[Bool.false_eq_true,if_false,dH,i8,hm];exact b6
theorem WV{b:List cH}(hb:∀r∈b,hy r.p)(d a:Nat)(ha:a<16):wc [bp b,.int (d:Int),.int (a:Int)]=.ok (.v (d8 (i8 d a 0 b))):=by apply Ends.done;have e:qr [bp b]=.ok (b.zipIdx.map fun p=>.tup [.int (p.2:Int),dM p.1]):=EA dM b;have k:=Jz (d:=d) ha b 0 (.aq (bp b)) .un .un hb;obtain⟨f,hf,rfl⟩:=k;simp only[wc,Xg,yI,CE,Xh,Xi,CC,v_var,xh];have z:wG (jO 5 [bp b,.int (d:Int),.int (a:Int)])[0]?=.ok (bp b):=rfl;simp only[z,dH,e];have aW:jO 5 [bp b,.int (d:Int),.int (a:Int)]=[.aq (bp b),.aq (.int (d:Int)),.aq (.int (a:Int)),.un,.un]:=rfl;rw[aW,hf];simp
def st(s:String):D:=.str (PySem.Str.ofString s)
inductive On where
 |drop|out (o:Nat)|to (e:aB)
def pairsOf(ws:List (aB×aB)):List (aB×aB):=ws.flatMap fun w=>[(w.1,w.2),(w.2,w.1)]
def jf(ws:List (aB×aB))(d:aB):Option aB:=((pairsOf ws).find? fun p=>decide (p.1=d)).map (·.2)
theorem xq:∀ws:List (aB×aB),(b3 ws).zip (cn ws)=(pairsOf ws).map fun p=>(fU p.1,bb p.2)
 |[]=>rfl
 |w::ws=>by
  have b6:=xq ws;have aj:b3 (w::ws)=fU w.1::fU w.2::b3 ws:=by simp[b3,ends]
  have ax:cn (w::ws)=bb w.2::bb w.1::cn ws:=by simp[cn]
  have bE:pairsOf (w::ws)=(w.1,w.2)::(w.2,w.1)::pairsOf ws:=by simp[pairsOf]
  rw[aj,ax,bE,List.zip_cons_cons,List.zip_cons_cons,b6];rfl
theorem Nx(aU:List (aB×aB))(d:aB):((aU.map fun p=>(fU p.1,bb p.2)).find? fun p=>decide (p.1=fU d))=(aU.find? fun p=>decide (p.1=d)).map fun p=>(fU p.1,bb p.2):=by
 induction aU with
 |nil=>rfl
 |cons p aU b6=>
  rw[List.map_cons,List.find?_cons,List.find?_cons];by_cases h:p.1=d
  ·simp[h]
  ·have:fU p.1≠fU d:=fun z=>h (sV z);simp[h,this,b6]
theorem FE(ws:List (aB×aB))(d:aB):findD (b3 ws) (cn ws) (fU d)=(jf ws d).map bb:=by unfold findD jf;rw[xq,Nx,Option.map_map,Option.map_map];rfl
theorem DS{ws:List (aB×aB)}{d e:aB}(h:jf ws d=some e):e∈ends ws:=by
 unfold jf at h;obtain⟨p,hp,rfl⟩:=Option.map_eq_some_iff.mp h;have hm:=List.mem_of_find?_eq_some hp;unfold pairsOf at hm;obtain⟨w,hw,bx⟩:=List.mem_flatMap.mp hm;have F3:∀x,x=w.1∨x=w.2→x∈ends ws:=fun x hx=>List.mem_flatten.mpr ⟨[w.1,w.2],List.mem_map.mpr ⟨w,hw,rfl⟩,by simpa using hx⟩;simp only[List.mem_cons,List.not_mem_nil,or_false]at bx;rcases bx with rfl|rfl
 ·exact F3 _ (.inr rfl)
 ·exact F3 _ (.inl rfl)
theorem L1(ws:List (aB×aB))(d:aB):fD true (bb d) (.a_ (b3 ws) (cn ws))=.ok (.aD (jf ws d).isSome):=by
 have h:(b3 ws).any (fun x=>decide (x=fU d))=(jf ws d).isSome:=by
  have bx:(b3 ws)=((b3 ws).zip (cn ws)).map (·.1):=by
   rw[xq,List.map_map];induction ws with
   |nil=>rfl
   |cons w ws b6=>simp[b3,ends,pairsOf]at b6 ⊢;exact b6
  rw[bx,xq];unfold jf;induction pairsOf ws with
  |nil=>rfl
  |cons p aU b6=>
   simp only[List.map_cons,List.any_cons,List.find?_cons]at b6 ⊢;by_cases hh:p.1=d
   ·simp[hh]
   ·have:fU p.1≠fU d:=fun z=>hh (sV z);simp only[hh,this,decide_false,Bool.false_or];exact b6
 show R.ok (D.aD ((b3 ws).any fun x=>decide (x=fU d)))=_;rw[h]
noncomputable def i2(h:Nat):On→D
 |.drop=>.tup [st "drop",.int (h:Int)]
 |.out o=>.tup [st "out",.int (h:Int),.int (o:Int)]
 |.to e=>.tup [st "at",.int (e.1:Int),.int (e.2:Int)]
noncomputable def bj(ws:List (aB×aB))(b:List cH)(h d a:Nat):On:=match i8 d a 0 b with
 |none=>.drop
 |some i=>match(b[i]?).bind (·.b)with
  |none=>.drop
  |some o=>match jf ws (h,o)with
   |none=>.out o
   |some e=>.to e
theorem Jx{d a:Nat}:∀(rs:List cH)(i k:Nat),i8 d a i rs=some k→i≤k∧k<i+rs.length
 |[],_,_,h=>by simp[i8]at h
 |r::rs,i,k,h=>by
  simp only[i8]at h
  split at h
  ·cases h;simp
  ·have:=Jx rs (i+1) k h;simp;omega
theorem Nt(cs:List Nat)(ws:List (aB×aB)):iW "Net" "far" (eY cs ws)=.ok (.a_ (b3 ws) (cn ws)):=rfl
theorem IV(cs:List Nat)(ws:List (aB×aB)):wQ "Net" "beyond" (eY cs ws)=.ok (eY cs ws):=rfl
theorem Lc(cs:List Nat)(ws:List (aB×aB))(d:aB):s9 [eY cs ws,bb d]=.ok (.v (((jf ws d).map bb).getD .non)):=by simp[s9,x5,Nt,ml,FE]
theorem SH{cs:List Nat}{ws:List (aB×aB)}{b:List cH}(hb:∀r∈b,hy r.p)(h d a:Nat)(ha:a<16):mr [eY cs ws,bp b,bb (h,d),.int (a:Int)]=.ok (.v (i2 h (bj ws b h d a))):=by
 have fS:az (bb (h,d)) (.int 0)=.ok (.int (h:Int)):=rfl;have bJ:az (bb (h,d)) (.int 1)=.ok (.int (d:Int)):=rfl;have dv:=WV hb d a ha;have uQ:∀o:Nat,s9 [eY cs ws,.tup [.int (h:Int),.int (o:Int)]]=.ok (.v (((jf ws (h,o)).map bb).getD .non)):=fun o=>Lc cs ws (h,o);have ph:hC .non=true:=rfl;have cG:∀i,hC (.int i)=false:=fun _=>rfl;unfold bj;cases e:i8 d a 0 b with
 |none=>simp[mr,qi,fS,bJ,dv,e,d8,ph,cG,i2,st]
 |some i=>
  have hi:=Jx b 0 i e;have vq:i<b.length:=by omega
  have jN:az (bp b) (.int (i:Int))=.ok (dM b[i]):=iC (by simp[vq]);have bN:az (dM b[i]) (.int 2)=.ok (d8 b[i].b):=rfl;simp only[List.getElem?_eq_getElem vq,Option.bind_some];cases bq:b[i].b with
  |none=>simp[mr,qi,fS,bJ,dv,e,d8,ph,cG,i2,st,jN,bN,bq]
  |some o=>
   have uR:=uQ o;cases cX:jf ws (h,o)with
   |none=>rw[cX]at uR;simp[mr,qi,fS,bJ,dv,e,d8,ph,cG,i2,st,jN,bN,bq,IV,uR,cX]
   |some f=>rw[cX]at uR;have f0:az (bb f) (.int 0)=.ok (.int (f.1:Int)):=rfl;have f1:az (bb f) (.int 1)=.ok (.int (f.2:Int)):=rfl;have nL:hC (bb f)=false:=rfl;simp[mr,qi,fS,bJ,dv,e,d8,ph,cG,i2,st,jN,bN,bq,IV,uR,cX,f0,f1,nL]
inductive iL where
 |drop (h:Nat)|out (h o:Nat)|ring (d:aB)
noncomputable def walk(N:aB→On):Nat→List aB→aB→Option (List aB×iL)
 |0,_,_=>none
 |n+1,ds,d=>if d∈ds then some (ds,.ring d)else match N d with
  |.to e=>walk N n (ds++[d]) e
  |.drop=>some (ds++[d],.drop d.1)
  |.out o=>some (ds++[d],.out d.1 o)
theorem JR{N:aB→On}{A:List aB}(nf:A.length<100)(cl:∀d∈A,∀e,N d=.to e→e∈A):∀(n:Nat)(ds:List aB)(d:aB),ds.Nodup→(∀x∈ds,x∈A)→d∈A→101≤n+ds.length→∃r,walk N n ds d=some r
 |0,ds,d,aQ,kW,_,h=>by have:=List.Nodup.length_le_of_subset aQ kW;omega
 |n+1,ds,d,aQ,kW,hd,h=>by
  simp only[walk];by_cases hm:d∈ds
  ·rw[if_pos hm];exact⟨_,rfl⟩
  ·rw[if_neg hm];cases e:N d with
   |drop=>exact⟨_,rfl⟩
   |out o=>exact⟨_,rfl⟩
   |to f=>
    have An:(ds++[d]).Nodup:=List.nodup_append.mpr ⟨aQ,by simp,fun x hx y cK z=>hm (by rw[←List.mem_singleton.mp cK,←z];exact hx)⟩;have Vh:∀x∈ds++[d],x∈A:=fun x hx=>by
     rcases List.mem_append.mp hx with h|h
     ·exact kW x h
     ·rw[List.mem_singleton.mp h];exact hd
    exact JR nf cl n (ds++[d]) f An Vh (cl d hd f e) (by simp;omega)
theorem yU(a b:aB):bk (bb a) (bb b)=decide (a=b):=by
 show(((a.1:Int)==(b.1:Int))&&(((a.2:Int)==(b.2:Int))&&true))=_;rw[Bool.and_true,Bool.eq_iff_iff,Bool.and_eq_true,beq_iff_eq,beq_iff_eq,decide_eq_true_iff];constructor
 ·intro⟨h1,h2⟩;exact Prod.ext (by omega) (by omega)
 ·rintro rfl;exact⟨rfl,rfl⟩
theorem Ej(ds:List aB):(ds.map bb).all (okN 7)=true:=by rw[List.all_map,List.all_eq_true];intro d _;rfl
theorem K4(ds:List aB)(d:aB):((ds.map bb).any fun y=>bk y (bb d))=decide (d∈ds):=by
 rw[List.any_map,Bool.eq_iff_iff,List.any_eq_true,decide_eq_true_iff];constructor
 ·rintro⟨x,hx,h⟩;have:=(yU x d).symm.trans h;rw[decide_eq_true_iff]at this;rw[←this];exact hx
 ·intro h;exact⟨d,h,by show bk (bb d) (bb d)=true;rw[yU];simp⟩
theorem R_{m1 m2:aC}{ρ:ak}{ds:List aB}{d:aB}(h1:m1 ρ=.ok (bb d))(h2:m2 ρ=.ok (.lst (ds.map bb))):bc (ai (inD false) m1 m2) ρ=.ok (!decide (d∈ds)):=by refine qP (uP h1 h2 ?_);have s:rx (.lst (ds.map bb))=some (ds.map bb):=rfl;have o:okN 7 (bb d)=true:=rfl;simp only[inD,s,Ej,o,and_self,if_true,K4];rfl
def idx(ds:List aB)(d:aB):Nat:=(ds.findIdx? fun x=>decide (x=d)).getD 0
theorem GA{m1 m2:aC}{ρ:ak}{ds:List aB}{d:aB}(h2:m2 ρ=.ok (.lst (ds.map bb)))(h1:m1 ρ=.ok (bb d))(hm:d∈ds)(hl:ds.length<1000):nD m2 (af m1 aw) ρ=.ok (.int (idx ds d:Nat)):=by
 have f:(ds.map bb).findIdx? (fun z=>bk z (bb d))=ds.findIdx? (fun x=>decide (x=d)):=by
  rw[List.findIdx?_map]
  congr 1
  funext x
  exact yU x d
 have g:∃j,ds.findIdx? (fun x=>decide (x=d))=some j:=by
  cases e:ds.findIdx? (fun x=>decide (x=d))with
  |some j=>exact⟨j,rfl⟩
  |none=>exact absurd (List.findIdx?_eq_none_iff.mp e d hm) (by simp)
 obtain⟨j,g⟩:=g;have o:okN 7 (bb d)=true:=rfl;have l:(ds.map bb).length<1000000:=by rw[List.length_map];omega
 rw[nD,h2,fs];simp only[show af m1 aw ρ=.ok [bb d]by simp[h1],fs,vz,o,Ej,l,and_self,if_true,f,g,idx,Option.getD_some]
noncomputable def iV(ds:List aB):iL→D
 |.drop h=>.tup [st "drop",.int (h:Nat)]
 |.out h o=>.tup [st "out",.int (h:Nat),.int (o:Nat)]
 |.ring d=>.tup [st "ring",.int (idx ds d:Nat)]
def ju(r:List aB×iL):D:=.tup [.lst (r.1.map bb),iV r.1 r.2]
def xj:b4:=gH (bc (ai (inD false) (J 2) (J 4)))
noncomputable def t4:a8:=(a4 (jn 4 (J 2))
    (a4 (cR 5 (b8 4 mr (af (J 0) (af (ai az (J 1) (ai az (J 2) (au (.int 0)))) (af (J 2) (af (J 3) (aw)))))))
    (a4 (c9 (bc (ai (bR false) (ai az (J 5) (au (.int 0))) (au (.str (PySem.Str.ofString "at"))))) (ig (dJ (af (J 4) (af (J 5) (aw))))) (dg))
    (cR 2 (dJ (af (ai az (J 5) (au (.int 1))) (af (ai az (J 5) (au (.int 2))) (aw))))))))
noncomputable def pQ:a8:=(ig (dJ (af (J 4) (af (dJ (af (au (.str (PySem.Str.ofString "ring"))) (af (nD (J 4) (af (J 2) (aw))) (aw)))) (aw)))))
noncomputable def hW(X Y:D)(d:aB)(a:Nat)(ds:List aB)(s5:cp):ak:=[.aq X,.aq Y,.aq (bb d),.aq (.int (a:Int)),.c_ (ds.map bb),s5]
theorem CO(X Y:D)(d:aB)(a:Nat)(ds:List aB)(s5:cp):xj (hW X Y d a ds s5)=.ok (!decide (d∈ds)):=R_ rfl rfl
structure hQ(cs:List Nat)(bs:List (List cH)):Prop where
 l:bs.length=cs.length
 p:∀b∈bs,∀r∈b,hy r.p
def hH(ws:List (aB×aB))(bs:List (List cH))(a:Nat)(d:aB):On:=bj ws (bs.getD d.1 []) d.1 d.2 a
theorem wt(s:String)(h:(PySem.Str.ofString s==PySem.Str.ofString "at")=false):bR false (st s) (.str (PySem.Str.ofString "at"))=.ok (.aD true):=by show R.ok (D.aD (!(PySem.Str.ofString s==PySem.Str.ofString "at")))=_;rw[h];rfl
theorem XJ{cs:List Nat}{ws:List (aB×aB)}{bs:List (List cH)}(hb:hQ cs bs){d:aB}(hd:d.1<cs.length){a:Nat}(ha:a<16)(ds:List aB)(hl:ds.length<1000)(s5:cp) :
  t4 (hW (eY cs ws) (.lst (bs.map bp)) d a ds s5)=match hH ws bs a d with
   |.to e=>.ok (.bj (hW (eY cs ws) (.lst (bs.map bp)) e a (ds++[d]) (.aq (i2 d.1 (.to e)))))
   |o=>.ok (.dh (.tup [.lst ((ds++[d]).map bb),i2 d.1 o])):=by
 have fS:az (bb d) (.int 0)=.ok (.int (d.1:Int)):=rfl;have jK:d.1<bs.length:=by rw[hb.l];exact hd
 have eg:bs.getD d.1 []=bs[d.1]:=by simp[jK]
 have jN:az (.lst (bs.map bp)) (.int (d.1:Int))=.ok (bp (bs.getD d.1 [])):=by rw[eg];exact iC (by simp[jK])
 have on:=SH (cs:=cs) (ws:=ws) (b:=bs.getD d.1 []) (fun r hr=>hb.p bs[d.1] (List.getElem_mem _) r (by rw[←eg];exact hr)) d.1 d.2 a ha;have Av:mr [eY cs ws,bp (bs.getD d.1 []),bb d,.int (a:Int)]=.ok (.v (i2 d.1 (hH ws bs a d))):=on;have nx:(ds.map bb).length<1000000:=by simp;omega
 generalize bs.getD d.1 []=sa at*;generalize hH ws bs a d=o at*;simp only[t4,hW];cases o with
 |drop=>have bU:az (i2 d.1 .drop) (.int 0)=.ok (st "drop"):=rfl;have n:=wt "drop" (by decide);simp(disch:=first|omega|(simp;done)|(simp;omega)) [fS,jN,Av,bU,n]
 |out o=>have bU:az (i2 d.1 (.out o)) (.int 0)=.ok (st "out"):=rfl;have n:=wt "out" (by decide);simp(disch:=first|omega|(simp;done)|(simp;omega)) [fS,jN,Av,bU,n]
 |to e=>have bU:az (i2 d.1 (.to e)) (.int 0)=.ok (st "at"):=rfl;have aj:az (i2 d.1 (.to e)) (.int 1)=.ok (.int (e.1:Int)):=rfl;have ax:az (i2 d.1 (.to e)) (.int 2)=.ok (.int (e.2:Int)):=rfl;have n:bR false (st "at") (.str (PySem.Str.ofString "at"))=.ok (.aD false):=rfl;simp(disch:=first|omega|(simp;done)|(simp;omega)) [fS,jN,Av,bU,aj,ax,n];rfl
theorem JV{cs:List Nat}{ws:List (aB×aB)}{bs:List (List cH)}(cx:gn cs ws)(hb:hQ cs bs){a:Nat}(ha:a<16):∀(n:Nat)(ds:List aB)(d:aB)(s5:cp)(r:List aB×iL),d.1<cs.length→ds.length+n<1001→walk (hH ws bs a) n ds d=some r→
  (jZ xj t4 n (hW (eY cs ws) (.lst (bs.map bp)) d a ds s5)).bind (lO pQ)=.ok (.dh (ju r))
 |0,ds,d,s5,r,_,_,h=>by simp[walk]at h
 |n+1,ds,d,s5,r,hd,hl,h=>by
  simp only[walk]at h;by_cases hm:d∈ds
  ·rw[if_pos hm]at h;obtain rfl:=Option.some.inj h;rw[jZ,CO,dH,decide_eq_true hm];have i:=GA (m1:=J 2) (m2:=J 4) (ρ:=dF (hW (eY cs ws) (.lst (bs.map bp)) d a ds s5)) (ds:=ds) (d:=d) rfl rfl hm (by omega);have v4:J 4 (dF (hW (eY cs ws) (.lst (bs.map bp)) d a ds s5))=.ok (.lst (ds.map bb)):=rfl;simp only[Bool.not_true,Bool.false_eq_true,if_false,dH,B8];simp only[pQ,CD,JM,CC,xh,CB,i,v4,dH,rK,List.length_cons,List.length_nil];simp[ju,iV,st]
  ·rw[if_neg hm]at h;rw[jZ,CO,dH,decide_eq_false hm];have b:=XJ (ws:=ws) hb hd ha ds (by omega) s5;simp only[Bool.not_false,if_true,b];cases e:hH ws bs a d with
   |drop=>rw[e]at h;obtain rfl:=Option.some.inj h;simp[ju,iV,i2]
   |out o=>rw[e]at h;obtain rfl:=Option.some.inj h;simp[ju,iV,i2]
   |to f=>
    rw[e]at h;simp only[dH];have hf:f∈ends ws:=by
     unfold hH bj at e
     split at e
     ·cases e
     ·split at e
      ·cases e
      ·split at e
       ·cases e
       ·rename_i cX;cases e;exact DS cX
    exact JV cx hb ha n (ds++[d]) f _ r (pe.mp (cx.sub f hf)).1 (by simp;omega) h
theorem HE{cs:List Nat}{ws:List (aB×aB)}{bs:List (List cH)}{a:Nat}(cx:gn cs ws){d f:aB}(e:hH ws bs a d=.to f):f∈dx cs cs.length:=by
 unfold hH bj at e
 split at e
 ·cases e
 ·split at e
  ·cases e
  ·split at e
   ·cases e
   ·rename_i cX;cases e;exact cx.sub _ (DS cX)
theorem JT{cs:List Nat}{ws:List (aB×aB)}{bs:List (List cH)}(cx:gn cs ws)(hb:hQ cs bs){a:Nat}(ha:a<16){d:aB}(hd:d∈dx cs cs.length):∃r,walk (hH ws bs a) 1000 [] d=some r∧wg [eY cs ws,.lst (bs.map bp),bb d,.int (a:Int)]=.ok (.v (ju r)):=by have nf:=r8 cx.c cs.length;have h6:=cx.h6;obtain⟨r,hr⟩:=JR (N:=hH ws bs a) (A:=dx cs cs.length) (by omega) (fun d _ e he=>HE cx he) 1000 [] d List.nodup_nil (by simp) hd (by simp);refine⟨r,hr,?_⟩;have k:=JV cx hb ha 1000 [] d .un r (pe.mp hd).1 (by simp) hr;have z:wg [eY cs ws,.lst (bs.map bp),bb d,.int (a:Int)]=(a4 (fH 4 (eV aw)) (a4 (q8 xj t4) pQ) [.aq (eY cs ws),.aq (.lst (bs.map bp)),.aq (bb d),.aq (.int (a:Int)),.un,.un]).bind outD:=rfl;rw[z];simp only[CE,Xo,Xk,xh,dH];have Q7:lim []=.ok []:=rfl;simp only[Q7,dH];have aW:(q8 xj t4 (hW (eY cs ws) (.lst (bs.map bp)) d a [] .un)).bind (lO pQ)=.ok (.dh (ju r)):=k;have gx:([.aq (eY cs ws),.aq (.lst (bs.map bp)),.aq (bb d),.aq (.int (a:Int)),.un,.un]:ak).set 4 (.c_ [])=hW (eY cs ws) (.lst (bs.map bp)) d a [] .un:=rfl;simp only[show(4:Nat)<([.aq (eY cs ws),.aq (.lst (bs.map bp)),.aq (bb d),.aq (.int (a:Int)),.un,.un]:ak).length from(by simp),if_true,dH,B8,CE,gx,aW];rfl
def p_(I:ak→Prop)(o:Option D)(f:fl):Prop:=match o with
 |some d=>f=.dh d
 |none=>oe I f
@[simp] theorem YH(I:ak→Prop):p_ I none=oe I:=(rfl)
@[simp] theorem YI(I:ak→Prop)(d:D):p_ I (some d)=(· =.dh d):=(rfl)
theorem IU{α:Type}{set:D→ak→R ak}{body:a8}(g:α→D)(I:ak→Prop)(f:α→Option D):∀(xs:List α)(ρ:ak),(∀a ρ,a∈xs→I ρ→Ends ((set (g a) ρ).bind body) (p_ I (f a)))→I ρ→Ends (gX set body (xs.map g) ρ) (p_ I (xs.findSome? f))
 |[],ρ,_,h=>by simpa[p_,oe]using h
 |a::xs,ρ,st,h=>by
  obtain⟨j6,e,hf⟩:=st a ρ (by simp) h;rw[List.map_cons,gX];cases ag:set (g a) ρ with
  |bad=>rw[ag]at e;cases e
  |exc c=>rw[ag]at e;cases e
  |ok dn=>
   rw[ag,dH]at e;rw[dH,e,dH,List.findSome?_cons];cases dW:f a with
   |some d=>rw[dW]at hf;have hf:j6=.dh d:=hf;subst hf;exact⟨_,rfl,rfl⟩
   |none=>rw[dW]at hf;obtain⟨dR,rfl,h2⟩:=hf;exact IU g I f xs dR (fun b ρ hb=>st b ρ (by simp[hb])) h2
theorem qq{β α:Type}{mi:aP}{set:D→ak→R ak}{body:a8}{ρ:ak}{k:fl→R β}{T:β→Prop}(g:α→D)(xs:List α)(I:ak→Prop)(f:α→Option D)(hi:mi ρ=.ok (xs.map g))(h0:I ρ)(st:∀a ρ,a∈xs→I ρ→Ends ((set (g a) ρ).bind body) (p_ I (f a)))(f1:∀d,xs.findSome? f=some d→Ends (k (.dh d)) T)(f2:∀bh,xs.findSome? f=none→I bh→Ends (k (.bj bh)) T):Ends ((d7 mi set body ρ).bind k) T:=by
 obtain⟨j6,e,h⟩:=IU (set:=set) (body:=body) g I f xs ρ st h0;rw[JL,hi,dH,e,dH];cases dW:xs.findSome? f with
 |some d=>rw[dW]at h;have h:j6=.dh d:=h;rw[h];exact f1 d dW
 |none=>rw[dW]at h;obtain⟨dR,rfl,h2⟩:=h;exact f2 dR dW h2
theorem Aa{ws:List (aB×aB)}(aQ:(ends ws).Nodup)(few:ws.length<100):ra [.lst (ws.map c5)]=.ok (.v (.a_ (b3 ws) (cn ws))):=by
 apply Ends.done;simp[ra,yl,o9];refine u5 c5 ws (fun j ρ=>∃s2 s3,ρ=[.aq (.lst (ws.map c5)),.aR (.a_ (b3 (ws.take j)) (cn (ws.take j))),s2,s3]) (by simp) ⟨.un,.un,by simp[b3,cn,ends]⟩ ?_ ?_
 ·rintro j w _ hw ⟨s2,s3,rfl⟩;obtain⟨cF,eu⟩:=List.getElem?_eq_some_iff.mp hw;have V3:ws=ws.take j++w::ws.drop (j+1):=by rw[←eu];simp
  have nn:=Hv (P:=ws.take j) (w:=w) (r:=ws.drop (j+1)) (by rw[←V3];exact aQ);have dv:ws.take (j+1)=ws.take j++[w]:=by rw[List.take_succ,hw];rfl
  have nx:(b3 (ws.take j)).length<1000:=by simp[b3,Ez];omega
  have dG:=u1 (i:=1) (mk:=J 2) (mv:=J 3) (ρ:=[.aq (.lst (ws.map c5)),.aR (.a_ (b3 (ws.take j)) (cn (ws.take j))),.aq (bb w.1),.aq (bb w.2)]) rfl rfl rfl (ml w.1) (by rw[ks_any];simp[nn.1]) (by omega);have bW:=u1 (i:=1) (mk:=J 3) (mv:=J 2) (ρ:=[.aq (.lst (ws.map c5)),.aR (.a_ (b3 (ws.take j)++[fU w.1]) (cn (ws.take j)++[bb w.2])),.aq (bb w.1),.aq (bb w.2)]) rfl rfl rfl (ml w.2) (DC (by rw[ks_any];simp[nn.2.1]) fun z=>nn.2.2 (sV z)) (by simp;omega);simp at dG bW;simp[c5,dG,bW,dv,G3,JQ]
 ·rintro _ ⟨s2,s3,rfl⟩;have iy:l_ (.aR (.a_ (b3 ws) (cn ws)))=.aq (.a_ (b3 ws) (cn ws)):=rfl;simp[dF,iy]
def outs(cs:List Nat)(ws:List (aB×aB))(n:Nat):List aB:=(dx cs n).filter fun d=>!decide (d∈ends ws)
theorem S2(cs:List Nat)(ws:List (aB×aB))(n:Nat):outs cs ws (n+1)=outs cs ws n++(jG cs n).filter (fun d=>!decide (d∈ends ws)):=by unfold outs;rw[uF,List.filter_append]
theorem HT{cs:List Nat}(ws:List (aB×aB))(h:∀c∈cs,1≤c∧c≤4)(n:Nat):(outs cs ws n).length≤4*n:=Nat.le_trans (List.length_filter_le _ _) (r8 h n)
theorem HS{cs:List Nat}{ws:List (aB×aB)}{n:Nat}{d:aB}(h:d∈outs cs ws n):d∈dx cs n:=(List.mem_filter.mp h).1
theorem HU{cs:List Nat}{ws:List (aB×aB)}(cx:gn cs ws):1≤(outs cs ws cs.length).length:=by obtain⟨d,h1,h2⟩:=cx.out;exact List.length_pos_of_mem (List.mem_filter.mpr ⟨h1,by simp[h2]⟩)
theorem L2(ws:List (aB×aB))(d:aB):fD false (bb d) (.a_ (b3 ws) (cn ws))=.ok (.aD (!decide (d∈ends ws))):=by simp only[fD,ml,ks_any];rfl
theorem He{cs:List Nat}{ws:List (aB×aB)}(cx:gn cs ws):tl [.lst (bH cs),.lst (ws.map c5)]=.ok (.v (.lst ((outs cs ws cs.length).map bb))):=by
 apply Ends.done;have h6:=cx.h6;have lcs:(bH cs).length=cs.length:=by simp[bH]
 simp[tl,yz,Aa cx.aQ cx.few];refine kJ cs.length (fun j ρ=>∃s4,ρ=[.aq (.lst (bH cs)),.aq (.lst (ws.map c5)),.aq (.a_ (b3 ws) (cn ws)),.aq (.lst ((outs cs ws j).map bb)),s4]) (by simp(disch:=first|omega|(simp;done)|(simp;omega)) [lcs]) ⟨.un,by simp[outs,dx]⟩ ?_ ?_
 ·rintro j _ cF ⟨s4,rfl⟩;have qI:=zq (fun c h=>(cx.c c h).2) j;have bE:az (.lst (bH cs)) (.int (j:Int))=.ok (.int (cs.getD j 0:Nat)):=iC (sd cF);have lo:=HT ws cx.c j;simp only[List.getD_eq_getElem?_getD]at bE qI;simp;refine qp (fun k:Nat=>D.int (k:Int)) (List.range (cs[j]?.getD 0)) (fun k=>!decide ((j,k)∈ends ws)) (fun k=>bb (j,k)) (by simp[bE,show cs[j]?.getD 0<1000000 by omega,nT]) (by simp;omega) (fun k _=>?_) (fun k _ _=>by simp[bb]) ?_
  ·have:=L2 ws (j,k);simp only[bb]at this;simp[this]
  ·have el:((List.range (cs[j]?.getD 0)).filter (fun k=>!decide ((j,k)∈ends ws))).map (fun k=>bb (j,k))=((jG cs j).filter (fun d=>!decide (d∈ends ws))).map bb:=by
     unfold jG;rw[List.filter_map,List.map_map,List.getD_eq_getElem?_getD];rfl
   have nx:((jG cs j).filter (fun d=>!decide (d∈ends ws))).length≤4:=Nat.le_trans (List.length_filter_le _ _) (En cx.c j);rw[el];simp(disch:=first|omega|(simp;done)|(simp;omega)) [S2]
 ·rintro _ ⟨s3,rfl⟩;simp
@[simp] theorem Z5{i j:Int}(h:0≤j):wV (.int i) (.int j)=.ok (.int (i/2^j.toNat)):=if_pos h
@[simp] theorem YK(i j:Int):uG (.int i) (.int j)=.ok (.int (Builtin.bitAnd i j)):=(rfl)
theorem bits:∀a:Nat,a<16→∀k:Nat,k<4→Builtin.bitAnd ((a:Int)/2^(3-k)) 1=((a/2^(3-k)%2:Nat):Int):=by decide+kernel
theorem TJ(b:Nat)(h:b<2):az (.str (PySem.Str.ofString "01")) (.int (b:Int))=.ok (eH (48+b)):=by
 have:b=0∨b=1:=by omega
 rcases this with h|h<;>subst h<;>rfl
theorem Hu(c d:Nat):bR false (eH c) (eH d)=.ok (.aD (!decide (c=d))):=by
 have:=sign_eq d c;have e:(.str ⟨#[d]⟩:D)=eH d:=rfl;have o:∀c,okN 8 (eH c)=true:=fun _=>rfl;have q:bk (eH c) (eH d)=decide (c=d):=by rw[show(eH c)=.str ⟨#[c]⟩from rfl,sign_eq d c];exact decide_eq_decide.mpr ⟨Eq.symm,Eq.symm⟩
 simp[bR,o,q]
theorem S7{p:Str}(h:hy p):∃jD ck eE gT,p.cps.toList=[jD,ck,eE,gT]:=by
 have l:=h.l
 match e:p.cps.toList,l with
 |[a,b,c,d],_=>exact⟨a,b,c,d,rfl⟩
theorem z2{p:Str}(hp:hy p){k:Nat}{c:Nat}(h:p.cps.toList[k]?=some c):az (.str p) (.int (k:Int))=.ok (eH c):=by
 have hk:=(List.getElem?_eq_some_iff.mp h).1;have l:p.length≤1000000:=by have:p.length=p.cps.toList.length:=rfl;have:=hp.l;omega
 have e:eM p.cps.toList (k:Int)=some c:=by unfold eM;rw[vD hk];exact h
 simp only[az,if_pos l,e];rfl
theorem Ha{p:Str}(hp:hy p){a:Nat}(ha:a<16):rf [.str p,.int (a:Int)]=.ok (.v (.aD (ix p a))):=by
 apply Ends.done;have f:ix p a=decide (∀k,k<4→∀c,p.cps.toList[k]?=some c→c=120∨c=l4 a (2^(3-k))):=by
  obtain⟨jD,ck,eE,gT,e⟩:=S7 hp;unfold ix;rw[e,Bool.eq_iff_iff];simp only[List.zip_cons_cons,List.zip_nil_right,List.all_cons,List.all_nil,Bool.and_true,Bool.and_eq_true,decide_eq_true_iff];constructor
  ·rintro⟨h0,h1,h2,h3⟩ k hk c hc;have:k=0∨k=1∨k=2∨k=3:=by omega
   rcases this with q|q|q|q<;>subst q<;>cases hc
   ·exact h0
   ·exact h1
   ·exact h2
   ·exact h3
  ·intro h;exact⟨h 0 (by decide) jD rfl,h 1 (by decide) ck rfl,h 2 (by decide) eE rfl,h 3 (by decide) gT rfl⟩
 simp[rf,yt];refine qq (fun k:Nat=>D.int (k:Int)) (List.range 4) (fun ρ=>∃s2,ρ=[.aq (.str p),.aq (.int (a:Int)),s2]) (fun k=>match p.cps.toList[k]? with
  |some c=>if c=120∨c=l4 a (2^(3-k))then none else some (.aD false)
  |none=>none) (by simp[AZ,nT]) ⟨.un,rfl⟩ ?_ ?_ ?_
 ·rintro k _ hk ⟨s2,rfl⟩;have hk:k<4:=by simpa using hk
  have hl:k<p.cps.toList.length:=by rw[hp.l];exact hk
  obtain⟨c,ec⟩:∃c,p.cps.toList[k]?=some c:=⟨_,List.getElem?_eq_getElem hl⟩;have aj:=z2 hp ec;have ax:=Hu c 120;have se:bR false (eH c) (.str (PySem.Str.ofString "x"))=.ok (.aD (!decide (c=120))):=ax;have bE:=bits a ha k hk;have dk:=TJ (a/2^(3-k)%2) (by omega);have eT:=Hu c (l4 a (2^(3-k)));unfold l4 at eT;simp only[ec];unfold l4;generalize a/2^(3-k)%2=b at bE dk eT ⊢;by_cases aY:c=120
  ·rw[decide_eq_true aY]at se;rw[if_pos (.inl aY)];simp(disch:=first|omega|(simp;done)|(simp;omega)) [aj,se]
  ·rw[decide_eq_false aY]at se;by_cases bA:c=48+b
   ·rw[decide_eq_true bA]at eT;rw[if_pos (.inr bA)];simp(disch:=first|omega|(simp;done)|(simp;omega)) [aj,se,bE,dk,eT]
   ·rw[decide_eq_false bA]at eT;rw[if_neg fun z=>z.elim aY bA];simp(disch:=first|omega|(simp;done)|(simp;omega)) [aj,se,bE,dk,eT]
 ·intro d hd;obtain⟨k,hk,e⟩:=List.exists_of_findSome?_eq_some hd;simp at hk;cases ec:p.cps.toList[k]? with
  |none=>rw[ec]at e;cases e
  |some c=>
   rw[ec]at e;simp only at e
   split at e
   ·cases e
   ·rename_i q;cases e;have:ix p a=false:=by
     rw[f];exact decide_eq_false fun z=>q (z k hk c ec)
    simp[this]
 ·rintro _ aJ ⟨s2,rfl⟩;have:ix p a=true:=by
   rw[f];refine decide_eq_true fun k hk c ec=>?_;have:=List.findSome?_eq_none_iff.mp aJ k (by simpa using hk);rw[ec]at this;simp only at this
   split at this
   ·assumption
   ·cases this
  simp[this]
def tC(b:List cH)(d a:Nat):Option Nat:=(b.find? (mt d a)).bind (·.b)
theorem Jy{d a:Nat}:∀(rs:List cH)(i:Nat),match i8 d a i rs with
  |some k=>∃r,rs[k-i]?=some r∧i≤k∧rs.find? (mt d a)=some r
  |none=>rs.find? (mt d a)=none
 |[],i=>rfl
 |r::rs,i=>by
  have b6:=Jy (d:=d) (a:=a) rs (i+1);simp only[i8];rw[List.find?_cons];cases hm:mt d a r with
  |true=>simp
  |false=>
   simp only[Bool.false_eq_true,if_false];cases e:i8 d a (i+1) rs with
   |none=>rw[e]at b6;exact b6
   |some k=>rw[e]at b6;obtain⟨x,h1,h2,h3⟩:=b6;refine⟨x,?_,by omega,h3⟩;rw[show k-i=(k-(i+1))+1 by omega];simpa using h1
noncomputable def lead(ws:List (aB×aB))(h:Nat):Option Nat→On
 |none=>.drop
 |some o=>match jf ws (h,o)with
  |none=>.out o
  |some e=>.to e
theorem Sb(ws:List (aB×aB))(b:List cH)(h d a:Nat):bj ws b h d a=lead ws h (tC b d a):=by
 have k:=Jy (d:=d) (a:=a) b 0;unfold bj tC;cases e:i8 d a 0 b with
 |none=>rw[e]at k;simp only at k;rw[k];rfl
 |some i=>rw[e]at k;obtain⟨r,h1,_,h3⟩:=k;rw[h3];simp only[Nat.sub_zero]at h1;simp only[h1,Option.bind_some];cases r.b<;>rfl
noncomputable def jm(h:Nat):On→D
 |.drop=>.tup [st "drop",.int (h:Int)]
 |.out o=>.tup [st "out",.int (h:Int),.int (o:Int)]
 |.to e=>.tup [st "at",bb e]
theorem find_some{α β:Type}(p:α→Bool)(g:α→β):∀xs:List α,xs.findSome? (fun a=>if p a=true then some (g a)else none)=(xs.find? p).map g
 |[]=>rfl
 |a::xs=>by
  rw[List.findSome?_cons,List.find?_cons];cases e:p a with
  |true=>simp
  |false=>simpa using find_some p g xs
theorem L3{ws:List (aB×aB)}{d e:aB}(h:jf ws d=some e):qm (.a_ (b3 ws) (cn ws)) (bb d)=.ok (bb e):=by simp only[qm,ml,FE,h,Option.map_some]
theorem Rk{cs:List Nat}{ws:List (aB×aB)}{bs:List (List cH)}(hb:hQ cs bs){d:aB}(hd:d.1<cs.length){a:Nat}(ha:a<16):tk [.a_ (b3 ws) (cn ws),.lst (bs.map bp),bb d,.int (a:Int)]=.ok (.v (jm d.1 (hH ws bs a d))):=by
 apply Ends.done;have jK:d.1<bs.length:=by rw[hb.l];exact hd
 have eg:bs.getD d.1 []=bs[d.1]:=by simp[jK]
 have jN:az (.lst (bs.map bp)) (.int (d.1:Int))=.ok (bp (bs.getD d.1 [])):=by rw[eg];exact iC (by simp[jK])
 have wz:∀r∈bs.getD d.1 [],hy r.p:=fun r hr=>hb.p bs[d.1] (List.getElem_mem _) r (by rw[←eg];exact hr);have nl:hH ws bs a d=lead ws d.1 (tC (bs.getD d.1 []) d.2 a):=Sb _ _ _ _ _;rw[nl];generalize bs.getD d.1 []=sa at jN wz;simp[tk,yy,bb];have ph:hC .non=true:=rfl;have cG:∀i,hC (.int i)=false:=fun _=>rfl;refine qq dM sa (fun ρ=>∃gK dV fJ,ρ=[.aq (.a_ (b3 ws) (cn ws)),.aq (.lst (bs.map bp)),.aq (.tup [.int (d.1:Int),.int (d.2:Int)]),.aq (.int (a:Int)),.aq (.int (d.1:Int)),.aq (.int (d.2:Int)),gK,dV,fJ]) (fun r=>if mt d.2 a r=true then some (jm d.1 (lead ws d.1 r.b))else none) (by simp[jN,bp]) ⟨.un,.un,.un,rfl⟩ ?_ ?_ ?_
 ·rintro r _ hr ⟨gK,dV,fJ,rfl⟩;have iy:=Ha (wz r hr) ha;have q:∀ρ:ak,iE (fg (bc (ai (fG true) (J 7) (au .non))) (bc (ai (bR true) (J 7) (J 5)))) (bc (b8 2 rf (af (J 6) (af (J 3) (aw))))) [.aq (.a_ (b3 ws) (cn ws)),.aq (.lst (bs.map bp)),.aq (.tup [.int (d.1:Int),.int (d.2:Int)]),.aq (.int (a:Int)),.aq (.int (d.1:Int)),.aq (.int (d.2:Int)),.aq (.str r.p),.aq (d8 r.a),.aq (d8 r.b)]=.ok (mt d.2 a r):=fun _=>by
   cases IA:r.a with
   |none=>simp[d8,ph,iy,mt,IA]
   |some k=>have iv:=qz (some k);have gW:=EF (some k) d.2;generalize d8 (some k)=x at iv gW;unfold mt;rw[IA];generalize(some k==some d.2)=c at gW ⊢;cases c<;>simp[iv,gW,iy]
  have q:=q [];have s0:fX [bB 6,bB 7,bB 8] (dM r) [.aq (.a_ (b3 ws) (cn ws)),.aq (.lst (bs.map bp)),.aq (.tup [.int (d.1:Int),.int (d.2:Int)]),.aq (.int (a:Int)),.aq (.int (d.1:Int)),.aq (.int (d.2:Int)),gK,dV,fJ]=.ok [.aq (.a_ (b3 ws) (cn ws)),.aq (.lst (bs.map bp)),.aq (.tup [.int (d.1:Int),.int (d.2:Int)]),.aq (.int (a:Int)),.aq (.int (d.1:Int)),.aq (.int (d.2:Int)),.aq (.str r.p),.aq (d8 r.a),.aq (d8 r.b)]:=by simp[dM]
  rw[s0,dH,Xj,q,dH];cases mt d.2 a r with
  |false=>simp
  |true=>
   cases bq:r.b with
   |none=>simp[d8,ph,jm,lead,st]
   |some o=>
    have db:=L1 ws (d.1,o);simp only[bb]at db;cases cX:jf ws (d.1,o)with
    |none=>simp[d8,cG,db,cX,jm,lead,st]
    |some e=>have a0:=L3 cX;simp only[bb]at a0;simp[d8,cG,db,cX,jm,lead,st,a0,bb]
 ·intro x hx;rw[find_some]at hx;unfold tC;cases dW:sa.find? (mt d.2 a)with
  |none=>rw[dW]at hx;cases hx
  |some r=>rw[dW]at hx;cases hx;simp
 ·rintro _ aJ ⟨gK,dV,fJ,rfl⟩;rw[find_some]at aJ;have:sa.find? (mt d.2 a)=none:=by simpa using aJ
  simp[tC,this,lead,jm,st]
def AU:b4:=gH (bc (ai (inD false) (J 2) (J 4)))
noncomputable def wF:a8:=(a4 (jn 4 (J 2))
    (a4 (cR 5 (b8 4 tk (af (J 0) (af (J 1) (af (J 2) (af (J 3) (aw)))))))
    (a4 (c9 (bc (ai (bR false) (ai az (J 5) (au (.int 0))) (au (.str (PySem.Str.ofString "at"))))) (ig (dJ (af (J 4) (af (J 5) (aw))))) (dg))
    (cR 2 (ai az (J 5) (au (.int 1)))))))
theorem Uw{cs:List Nat}{ws:List (aB×aB)}{bs:List (List cH)}(hb:hQ cs bs){d:aB}(hd:d.1<cs.length){a:Nat}(ha:a<16)(ds:List aB)(hl:ds.length<1000)(s5:cp) :
  wF (hW (.a_ (b3 ws) (cn ws)) (.lst (bs.map bp)) d a ds s5)=match hH ws bs a d with
   |.to e=>.ok (.bj (hW (.a_ (b3 ws) (cn ws)) (.lst (bs.map bp)) e a (ds++[d]) (.aq (jm d.1 (.to e)))))
   |o=>.ok (.dh (.tup [.lst ((ds++[d]).map bb),jm d.1 o])):=by
 have ln:=Rk (ws:=ws) hb hd ha;have nx:(ds.map bb).length<1000000:=by simp;omega
 generalize hH ws bs a d=o at*;simp only[wF,hW];cases o with
 |drop=>have bU:az (jm d.1 .drop) (.int 0)=.ok (st "drop"):=rfl;have n:=wt "drop" (by decide);simp(disch:=first|omega|(simp;done)|(simp;omega)) [ln,bU,n]
 |out o=>have bU:az (jm d.1 (.out o)) (.int 0)=.ok (st "out"):=rfl;have n:=wt "out" (by decide);simp(disch:=first|omega|(simp;done)|(simp;omega)) [ln,bU,n]
 |to e=>have bU:az (jm d.1 (.to e)) (.int 0)=.ok (st "at"):=rfl;have aj:az (jm d.1 (.to e)) (.int 1)=.ok (bb e):=rfl;have n:bR false (st "at") (.str (PySem.Str.ofString "at"))=.ok (.aD false):=rfl;simp(disch:=first|omega|(simp;done)|(simp;omega)) [ln,bU,aj,n]
theorem IC{cs:List Nat}{ws:List (aB×aB)}{bs:List (List cH)}(cx:gn cs ws)(hb:hQ cs bs){a:Nat}(ha:a<16):∀(n:Nat)(ds:List aB)(d:aB)(s5:cp)(r:List aB×iL),d.1<cs.length→ds.length+n<1001→walk (hH ws bs a) n ds d=some r→
  (jZ AU wF n (hW (.a_ (b3 ws) (cn ws)) (.lst (bs.map bp)) d a ds s5)).bind (lO pQ)=.ok (.dh (ju r))
 |0,ds,d,s5,r,_,_,h=>by simp[walk]at h
 |n+1,ds,d,s5,r,hd,hl,h=>by
  simp only[walk]at h;have jD:AU (hW (.a_ (b3 ws) (cn ws)) (.lst (bs.map bp)) d a ds s5)=.ok (!decide (d∈ds)):=CO _ _ _ _ _ _;by_cases hm:d∈ds
  ·rw[if_pos hm]at h;obtain rfl:=Option.some.inj h;rw[jZ,jD,dH,decide_eq_true hm];have i:=GA (m1:=J 2) (m2:=J 4) (ρ:=dF (hW (.a_ (b3 ws) (cn ws)) (.lst (bs.map bp)) d a ds s5)) (ds:=ds) (d:=d) rfl rfl hm (by omega);have v4:J 4 (dF (hW (.a_ (b3 ws) (cn ws)) (.lst (bs.map bp)) d a ds s5))=.ok (.lst (ds.map bb)):=rfl;simp only[Bool.not_true,Bool.false_eq_true,if_false,dH,B8];simp only[pQ,CD,JM,CC,xh,CB,i,v4,dH,rK,List.length_cons,List.length_nil];simp[ju,iV,st]
  ·rw[if_neg hm]at h;rw[jZ,jD,dH,decide_eq_false hm];have b:=Uw (ws:=ws) hb hd ha ds (by omega) s5;simp only[Bool.not_false,if_true,b];cases e:hH ws bs a d with
   |drop=>rw[e]at h;obtain rfl:=Option.some.inj h;simp[ju,iV,jm]
   |out o=>rw[e]at h;obtain rfl:=Option.some.inj h;simp[ju,iV,jm]
   |to f=>rw[e]at h;simp only[dH];exact IC cx hb ha n (ds++[d]) f _ r (pe.mp (HE cx e)).1 (by simp;omega) h
theorem UI{cs:List Nat}{ws:List (aB×aB)}{bs:List (List cH)}(cx:gn cs ws)(hb:hQ cs bs){a:Nat}(ha:a<16){d:aB}(hd:d∈dx cs cs.length){r:List aB×iL}(hr:walk (hH ws bs a) 1000 [] d=some r):v_ [.a_ (b3 ws) (cn ws),.lst (bs.map bp),bb d,.int (a:Int)]=.ok (.v (ju r)):=by have k:=IC cx hb ha 1000 [] d .un r (pe.mp hd).1 (by simp) hr;have z:v_ [.a_ (b3 ws) (cn ws),.lst (bs.map bp),bb d,.int (a:Int)]=((jZ AU wF 1000 (hW (.a_ (b3 ws) (cn ws)) (.lst (bs.map bp)) d a [] .un)).bind (lO pQ)).bind outD:=rfl;rw[z,k];rfl
inductive uw where
 |comes (e:aB)|leaves|tu|by' (h:Nat)|never (h:Nat)
structure eA where
 p:Str
 d:aB
 w:uw
noncomputable def gO:uw→D
 |.comes _=>st "comes"
 |.leaves=>st "leaves"
 |.tu=>st "noring"
 |.by' _=>st "by"
 |.never _=>st "never"
def jY:uw→List D
 |.comes e=>[bb e]
 |.by' h=>[.int (h:Int)]
 |.never h=>[.int (h:Int)]
 |_=>[]
def cM(s:eA):D:=.tup (gO s.w::.str s.p::bb s.d::jY s.w)
structure hX(cs:List Nat)(s:eA):Prop where
 p:hy s.p
 d:s.d∈dx cs cs.length
def GC:iL→Bool
 |.out _ _=>true
 |_=>false
def isRing:iL→Bool
 |.ring _=>true
 |_=>false
def isAt(e:aB):iL→Bool
 |.out h o=>decide (h=e.1)&&decide (o=e.2)
 |_=>false
noncomputable def g9(r:List aB×iL):uw→Bool
 |.comes e=>isAt e r.2
 |.leaves=>GC r.2
 |.tu=>!isRing r.2
 |.by' h=>decide (h∈r.1.map (·.1))
 |.never h=>!decide (h∈r.1.map (·.1))
theorem wZ(s:eA):az (cM s) (.int 0)=.ok (gO s.w):=by unfold cM;cases s.w<;>rfl
theorem Jd(s:eA):az (cM s) (.int 1)=.ok (.str s.p):=by unfold cM;cases s.w<;>rfl
theorem Je(s:eA):az (cM s) (.int 2)=.ok (bb s.d):=by unfold cM;cases s.w<;>rfl
theorem rE(s:eA)(x:D)(h:jY s.w=[x]):az (cM s) (.int 3)=.ok x:=by unfold cM;rw[h];rfl
theorem lr(b:Bool)(x y:String):bR b (st x) (.str (PySem.Str.ofString y))=.ok (.aD (if b then PySem.Str.ofString x==PySem.Str.ofString y else !(PySem.Str.ofString x==PySem.Str.ofString y))):=by simp[bR,okN,bk,st]
theorem Ew(ds:List aB)(r:iL):∃x,az (iV ds r) (.int 0)=.ok (st x)∧(PySem.Str.ofString x==PySem.Str.ofString "out")=GC r∧(PySem.Str.ofString x==PySem.Str.ofString "ring")=isRing r:=by
 cases r with
 |drop h=>exact⟨"drop",rfl,by show _=false;decide,by show _=false;decide⟩
 |out h o=>exact⟨"out",rfl,by show _=true;decide,by show _=false;decide⟩
 |ring d=>exact⟨"ring",rfl,by show _=false;decide,by show _=true;decide⟩
theorem Ex(ds:List aB)(r:iL)(e:aB):bR true (iV ds r) (.tup [st "out",.int (e.1:Int),.int (e.2:Int)])=.ok (.aD (isAt e r)):=by
 have cy:okN 8 (iV ds r)=true:=by cases r<;>rfl
 have b_:okN 8 (.tup [st "out",.int (e.1:Int),.int (e.2:Int)])=true:=rfl;simp only[bR,cy,b_,and_self,if_true]
 congr 2
 cases r with
 |drop h=>simp[iV,bk,dX,isAt,st]
 |ring d=>simp[iV,bk,dX,isAt,st]
 |out h o=>
  simp only[iV,bk,dX,isAt,st,beq_self_eq_true,Bool.true_and,Bool.and_true];have q:∀a b:Nat,((a:Int)==(b:Int))=decide (a=b):=fun a b=>by rw[Bool.eq_iff_iff];simp;omega
  rw[q,q]
theorem qy(h:Nat)(hs:List Nat):inD true (.int (h:Int)) (.lst (hs.map fun x:Nat=>.int (x:Int)))=.ok (.aD (decide (h∈hs))):=by
 have o:(hs.map fun x:Nat=>D.int (x:Int)).all (okN 7)=true:=by simp[okN]
 have a:((hs.map fun x:Nat=>D.int (x:Int)).any fun y=>bk y (.int (h:Int)))=decide (h∈hs):=by
  rw[List.any_map,Bool.eq_iff_iff];simp[bk];constructor
  ·rintro⟨x,hx,e⟩;have:x=h:=by omega
   exact this▸hx
  ·exact fun z=>⟨h,z,rfl⟩
 simp only[inD,rx,o,okN,and_self,if_true,a]
theorem u6(a b:Bool):bR true (.aD a) (.aD b)=.ok (.aD (a==b)):=by simp[bR,okN,bk]
theorem V0(s:eA)(r:List aB×iL)(hl:r.1.length≤1000):vZ [cM s,.lst (r.1.map bb),iV r.1 r.2]=.ok (.v (.aD (g9 r s.w))):=by
 apply Ends.done;obtain⟨x,bU,gW,cq⟩:=Ew r.1 r.2;simp[vZ,yg,wZ];cases eu:s.w with
 |comes e=>have bE:=rE s (bb e) (by rw[eu];rfl);have fS:az (bb e) (.int 0)=.ok (.int (e.1:Int)):=rfl;have bJ:az (bb e) (.int 1)=.ok (.int (e.2:Int)):=rfl;have d5:=Ex r.1 r.2 e;simp only[st]at d5;simp[gO,lr,bE,fS,bJ,d5,g9]
 |leaves=>
  have z:(PySem.Str.ofString "leaves"==PySem.Str.ofString "comes")=false:=by decide
  simp[gO,lr,z,bU,gW,g9]
 |tu=>
  have z:(PySem.Str.ofString "noring"==PySem.Str.ofString "comes")=false:=by decide
  have aW:(PySem.Str.ofString "noring"==PySem.Str.ofString "leaves")=false:=by decide
  simp[gO,lr,z,aW,bU,cq,g9]
 |by' h=>
  have z:(PySem.Str.ofString "by"==PySem.Str.ofString "comes")=false:=by decide
  have aW:(PySem.Str.ofString "by"==PySem.Str.ofString "leaves")=false:=by decide
  have gx:(PySem.Str.ofString "by"==PySem.Str.ofString "noring")=false:=by decide
  have bE:=rE s (.int (h:Int)) (by rw[eu];rfl);simp[gO,lr,z,aW,gx,bE];refine oH bb r.1 (fun d=>.int (d.1:Int)) (by simp) hl (fun d _=>by simp;rfl) ?_;have ii:=qy h (r.1.map (·.1));rw[List.map_map]at ii;simp only[Function.comp_def]at ii;simp[ii,u6,g9]
 |never h=>
  have z:(PySem.Str.ofString "never"==PySem.Str.ofString "comes")=false:=by decide
  have aW:(PySem.Str.ofString "never"==PySem.Str.ofString "leaves")=false:=by decide
  have gx:(PySem.Str.ofString "never"==PySem.Str.ofString "noring")=false:=by decide
  have k4:(PySem.Str.ofString "never"==PySem.Str.ofString "by")=false:=by decide
  have bE:=rE s (.int (h:Int)) (by rw[eu];rfl);simp[gO,lr,z,aW,gx,k4,bE];refine oH bb r.1 (fun d=>.int (d.1:Int)) (by simp) hl (fun d _=>by simp;rfl) ?_;have ii:=qy h (r.1.map (·.1));rw[List.map_map]at ii;simp only[Function.comp_def]at ii;simp[ii,u6,g9]
noncomputable def k0(ws:List (aB×aB))(bs:List (List cH))(a:Nat)(d:aB):List aB×iL:=(walk (hH ws bs a) 1000 [] d).getD ([],.drop 0)
theorem CM{N:aB→On}:∀(n:Nat)(ds:List aB)(d:aB)(r:List aB×iL),walk N n ds d=some r→r.1.length≤ds.length+n
 |0,ds,d,r,h=>by simp[walk]at h
 |n+1,ds,d,r,h=>by
  simp only[walk]at h
  split at h
  ·obtain rfl:=Option.some.inj h;simp
  ·split at h
   ·have:=CM n _ _ _ h;simp at this;omega
   ·obtain rfl:=Option.some.inj h;simp
   ·obtain rfl:=Option.some.inj h;simp
@[simp] theorem Xs(set:D→ak→R ak)(m:aC)(ρ:ak):mn set m ρ=(m ρ).bind fun d=>(set d ρ).bind fun bh=>.ok (.bj bh):=(rfl)
section
variable{cs:List Nat}{ws:List (aB×aB)}{bs:List (List cH)}{s:eA}{a:Nat}
theorem PW(cx:gn cs ws)(hb:hQ cs bs)(hs:hX cs s)(ha:a<16):vY [eY cs ws,.lst (bs.map bp),cM s,.int (a:Int)]=.ok (.v (.aD (g9 (k0 ws bs a s.d) s.w))):=by obtain⟨r,hr,cq⟩:=JT cx hb ha hs.d;have l:=CM _ _ _ _ hr;have so:=V0 s r (by simpa using l);have bU:az (ju r) (.int 0)=.ok (.lst (r.1.map bb)):=rfl;have aj:az (ju r) (.int 1)=.ok (iV r.1 r.2):=rfl;simp[vY,yf,Je,cq,bU,aj,so,k0,hr]
theorem LA(e:aB):lq (.tup [.str (PySem.Str.ofString "out")]) (bb e)=.ok (.tup [st "out",.int (e.1:Int),.int (e.2:Int)]):=by simp[bb,lq,st]
theorem Ri(cx:gn cs ws)(hb:hQ cs bs)(hs:hX cs s)(ha:a<16):v7 [.a_ (b3 ws) (cn ws),.lst (bs.map bp),cM s,.int (a:Int)]=.ok (.v (.aD (g9 (k0 ws bs a s.d) s.w))):=by
 apply Ends.done;obtain⟨r,hr,_⟩:=JT cx hb ha hs.d;have cq:=UI cx hb ha hs.d hr;have l:=CM _ _ _ _ hr;have eu:k0 ws bs a s.d=r:=by simp[k0,hr]
 rw[eu];obtain⟨x,bU,gW,eg⟩:=Ew r.1 r.2;simp[v7,yu,Je,cq,ju,wZ];have s0:=wZ s;cases eu:s.w with
 |comes e=>rw[eu]at s0;have bE:=rE s (bb e) (by rw[eu];rfl);have d5:=Ex r.1 r.2 e;simp[s0,gO,lr,bE,LA,d5,g9]
 |leaves=>
  rw[eu]at s0;have z:(PySem.Str.ofString "leaves"==PySem.Str.ofString "comes")=false:=by decide
  simp[s0,gO,lr,z,bU,gW,g9]
 |tu=>
  rw[eu]at s0;have z:(PySem.Str.ofString "noring"==PySem.Str.ofString "comes")=false:=by decide
  have aW:(PySem.Str.ofString "noring"==PySem.Str.ofString "leaves")=false:=by decide
  simp[s0,gO,lr,z,aW,bU,eg,g9]
 |by' h=>
  rw[eu]at s0;have z:(PySem.Str.ofString "by"==PySem.Str.ofString "comes")=false:=by decide
  have aW:(PySem.Str.ofString "by"==PySem.Str.ofString "leaves")=false:=by decide
  have gx:(PySem.Str.ofString "by"==PySem.Str.ofString "noring")=false:=by decide
  have bE:=rE s (.int (h:Int)) (by rw[eu];rfl);simp[s0,gO,lr,z,aW,gx,bE];refine y5 (fun d:aB=>.int (d.1:Int)) (fun d=>.int (d.2:Int)) r.1 (fun d=>.int (d.1:Int)) (by simp;intros;rfl) (by simpa using l) (fun d _=>by simp) ?_;have ii:=qy h (r.1.map (·.1));rw[List.map_map]at ii;simp only[Function.comp_def]at ii;simp[ii,u6,g9]
 |never h=>
  rw[eu]at s0;have z:(PySem.Str.ofString "never"==PySem.Str.ofString "comes")=false:=by decide
  have aW:(PySem.Str.ofString "never"==PySem.Str.ofString "leaves")=false:=by decide
  have gx:(PySem.Str.ofString "never"==PySem.Str.ofString "noring")=false:=by decide
  have k4:(PySem.Str.ofString "never"==PySem.Str.ofString "by")=false:=by decide
  have bE:=rE s (.int (h:Int)) (by rw[eu];rfl);simp[s0,gO,lr,z,aW,gx,k4,bE];refine y5 (fun d:aB=>.int (d.1:Int)) (fun d=>.int (d.2:Int)) r.1 (fun d=>.int (d.1:Int)) (by simp;intros;rfl) (by simpa using l) (fun d _=>by simp) ?_;have ii:=qy h (r.1.map (·.1));rw[List.map_map]at ii;simp only[Function.comp_def]at ii;simp[ii,u6,g9]
noncomputable def brk(ws:List (aB×aB))(bs:List (List cH))(s:eA):Option Nat:=(List.range 16).find? fun a=>ix s.p a&&!g9 (k0 ws bs a s.d) s.w
theorem IE:lJ [.int 16]=.ok (fI 0 16):=rfl
theorem KV{p:Str}(hp:hy p):vU [.str p]=.ok (.o (((List.range 16).filter (ix p)).map fun(a:Nat)=>D.int (a:Int))):=by apply Ends.done;simp[vU,x6,l7];refine qp (fun(a:Nat)=>D.int (a:Int)) (List.range 16) (ix p) (fun(a:Nat)=>D.int (a:Int)) (by simp[IE,nT]) (by simp) (fun a ha=>by simp[FG hp (by simpa using ha)]) (fun a _ _=>by simp) ?_;simp
theorem wy(o:Option Nat):d8 o=(o.map fun(a:Nat)=>D.int (a:Int)).getD .non:=by cases o<;>rfl
theorem Rg(cx:gn cs ws)(hb:hQ cs bs)(hs:hX cs s):wa [eY cs ws,.lst (bs.map bp),cM s]=.ok (.v (d8 (brk ws bs s))):=by
 apply Ends.done;have bq:((List.range 16).filter (ix s.p)).find? (fun a=>!g9 (k0 ws bs a s.d) s.w)=brk ws bs s:=by
  rw[List.find?_filter];unfold brk
  congr 1
  funext a
  simp
 simp[wa,yE];refine qq (fun(a:Nat)=>D.int (a:Int)) ((List.range 16).filter (ix s.p)) (fun ρ=>∃s3,ρ=[.aq (eY cs ws),.aq (.lst (bs.map bp)),.aq (cM s),s3]) (fun a=>if(!g9 (k0 ws bs a s.d) s.w)=true then some (.int (a:Int))else none) (by simp[Jd,KV hs.p]) ⟨.un,rfl⟩ ?_ ?_ ?_
 ·rintro a _ ha ⟨s3,rfl⟩;have ha:a<16:=by simpa using(List.mem_filter.mp ha).1
  have e:=PW cx hb hs ha;cases aO:g9 (k0 ws bs a s.d) s.w<;>simp[e,aO]
 ·intro x hx;rw[find_some,bq]at hx;rw[wy,hx];simp
 ·rintro _ aJ ⟨s3,rfl⟩;rw[find_some,bq]at aJ;rw[wy,aJ];simp
theorem Ab(cx:gn cs ws)(hb:hQ cs bs)(hs:hX cs s):tg [.a_ (b3 ws) (cn ws),.lst (bs.map bp),cM s]=.ok (.v (d8 (brk ws bs s))):=by
 apply Ends.done;simp[tg,yo];refine qq (fun(a:Nat)=>D.int (a:Int)) (List.range 16) (fun ρ=>∃s3,ρ=[.aq (.a_ (b3 ws) (cn ws)),.aq (.lst (bs.map bp)),.aq (cM s),s3]) (fun a=>if(ix s.p a&&!g9 (k0 ws bs a s.d) s.w)=true then some (.int (a:Int))else none) (by simp[IE,nT]) ⟨.un,rfl⟩ ?_ ?_ ?_
 ·rintro a _ ha ⟨s3,rfl⟩;have ha:a<16:=by simpa using ha
  have e:=Ri cx hb hs ha;have f:=Ha hs.p ha;cases hf:ix s.p a<;>cases aO:g9 (k0 ws bs a s.d) s.w<;>simp[e,f,Jd,aO,hf]
 ·intro x hx;rw[find_some]at hx;rw[wy,brk,hx];simp
 ·rintro _ aJ ⟨s3,rfl⟩;rw[find_some]at aJ;rw[wy,brk,aJ];simp
end
def gJ(hs:List Nat):D:=.lst (hs.map fun x:Nat=>.int (x:Int))
noncomputable def hF(o n:List (List cH))(hs:List Nat):List (List cH):=(List.range o.length).map fun h=>if h∈hs then n.getD h []else o.getD h []
@[simp] theorem Xl(m:aP)(ρ:ak):iZ m ρ=(m ρ).bind nv:=(rfl)
theorem qN(b:List cH):nv [bp b]=.ok (b.map dM):=rfl
theorem oV{bs:List (List cH)}{h:Nat}(hh:h<bs.length):az (.lst (bs.map bp)) (.int (h:Int))=.ok (bp (bs.getD h [])):=by rw[show bs.getD h []=bs[h]by simp[hh]];exact iC (by simp[hh])
section
variable{o n:List (List cH)}
theorem RI(hl:o.length=n.length)(h6:o.length≤6)(hs:List Nat):wb [.lst (o.map bp),.lst (n.map bp),gJ hs]=.ok (.o ((hF o n hs).map bp)):=by
 apply Ends.done;simp[wb,yG];refine u4 o.length (fun h=>bp (if h∈hs then n.getD h []else o.getD h [])) (by simp[show o.length<1000000 by omega]) (by omega) (fun h hh=>?_) (by simp[hF]);have ii:=qy h hs;have bJ:=oV (bs:=o) hh;have bN:=oV (bs:=n) (by omega:h<n.length);simp only[List.getD_eq_getElem?_getD]at bJ bN;by_cases q:h∈hs
 ·simp[gJ,ii,q,bN,qN];rfl
 ·simp[gJ,ii,q,bJ,qN];rfl
theorem Rj(hl:o.length=n.length)(h6:o.length≤6)(hs:List Nat):v8 [.lst (o.map bp),.lst (n.map bp),gJ hs]=.ok (.o ((hF o n hs).map bp)):=by
 apply Ends.done;simp[v8,yv];refine u4 o.length (fun h=>bp (if h∈hs then n.getD h []else o.getD h [])) (by simp[show o.length<1000000 by omega]) (by omega) (fun h hh=>?_) (by simp[hF]);have ii:=qy h hs;have bJ:=oV (bs:=o) hh;have bN:=oV (bs:=n) (by omega:h<n.length);have fj:∀x y:D,az (.lst [x,y]) (.int 0)=.ok x:=fun _ _=>rfl;have dG:∀x y:D,az (.lst [x,y]) (.int 1)=.ok y:=fun _ _=>rfl;simp only[List.getD_eq_getElem?_getD]at bJ bN;by_cases q:h∈hs
 ·simp[gJ,ii,q,bN,qN,dG];rfl
 ·simp[gJ,ii,q,bJ,qN,fj];rfl
noncomputable def chg(o n:List (List cH)):List Nat:=(List.range o.length).filter fun h=>!bk (bp (o.getD h [])) (bp (n.getD h []))
theorem HH(k:Nat)(x:Option Nat):okN k (d8 x)=true:=by cases x<;>cases k<;>rfl
theorem Sx(k:Nat)(r:cH):okN (k+1) (dM r)=true:=by
 have:okN k (.str r.p)=true:=by cases k<;>rfl
 simp[dM,okN,HH,this]
theorem As(k:Nat)(b:List cH):okN (k+2) (bp b)=true:=rk dM (k+1) b fun r _=>Sx k r
theorem RZ(a b:List cH):bR false (bp a) (bp b)=.ok (.aD (!bk (bp a) (bp b))):=by simp[bR,As 6]
theorem D4(hl:o.length=n.length)(h6:o.length≤6):ta [.lst (o.map bp),.lst (n.map bp)]=.ok (.o ((chg o n).map fun x:Nat=>.int (x:Int))):=by
 apply Ends.done;simp[ta,x8];refine qp (fun x:Nat=>D.int (x:Int)) (List.range o.length) (fun h=>!bk (bp (o.getD h [])) (bp (n.getD h []))) (fun x:Nat=>D.int (x:Int)) (by simp[show o.length<1000000 by omega,nT]) (by simp;omega) (fun h hh=>?_) (fun h _ _=>by simp) (by simp[chg]);have hh:h<o.length:=by simpa using hh
 have bJ:=oV (bs:=o) hh;have bN:=oV (bs:=n) (by omega:h<n.length);simp only[List.getD_eq_getElem?_getD]at bJ bN ⊢;simp[bJ,bN,RZ]
theorem Rd(hl:o.length=n.length)(h6:o.length≤6):v3 [.lst (o.map bp),.lst (n.map bp)]=.ok (.o ((chg o n).map fun x:Nat=>.int (x:Int))):=D4 hl h6
theorem LF(h6:o.length≤6):(chg o n).length≤6:=Nat.le_trans (List.length_filter_le _ _) (by simpa using h6)
end
section
variable{cs:List Nat}{ws:List (aB×aB)}{bs:List (List cH)}{ss:List eA}
def allB(ws:List (aB×aB))(bs:List (List cH))(ss:List eA):Bool:=ss.all fun s=>(brk ws bs s).isNone
theorem vB(x:D):fG false x .non=.ok (.aD (!hC x)):=rfl
theorem FF{α:Type}{p:α→Bool}{g:α→D}{xs:List α}:(∀d,xs.findSome? (fun a=>if p a=true then some (g a)else none)=some d→∃a,d=g a∧(xs.all fun a=>!p a)=false)∧(xs.findSome? (fun a=>if p a=true then some (g a)else none)=none→(xs.all fun a=>!p a)=true):=by
 rw[find_some];constructor
 ·intro d hd;obtain⟨a,ha,rfl⟩:=Option.map_eq_some_iff.mp hd;refine⟨a,rfl,?_⟩;rw[Bool.eq_false_iff];intro z;have:=List.all_eq_true.mp z a (List.mem_of_find?_eq_some ha);have h2:=List.find?_some ha;simp[h2]at this
 ·intro aJ;have:xs.find? p=none:=by simpa using aJ
  rw[List.find?_eq_none]at this;exact List.all_eq_true.mpr fun a ha=>by simpa using this a ha
theorem I5(ws:List (aB×aB))(bs:List (List cH))(ss:List eA):(ss.zipIdx.all fun q=>!(brk ws bs q.1).isSome)=allB ws bs ss:=by unfold allB;rw[show(fun q:eA×Nat=>!(brk ws bs q.1).isSome)=(fun s=>(brk ws bs s).isNone)∘Prod.fst from funext fun q=>by simp,←List.all_map];simp
theorem Xt(cx:gn cs ws){o n:List (List cH)}(hl:o.length=n.length)(h6:o.length≤6)(hs:List Nat)(hb:hQ cs (hF o n hs))(e7:∀s∈ss,hX cs s)(h8:ss.length≤1000) :
  vX [eY cs ws,.lst (o.map bp),.lst (n.map bp),.lst (ss.map cM),gJ hs]=.ok (.v (.aD (allB ws (hF o n hs) ss))):=by
 have v:Ends (wd [eY cs ws,.lst (o.map bp),.lst (n.map bp),.lst (ss.map cM),gJ hs]) fun r=>∃d,r=.v d∧bR true d kG=.ok (.aD (allB ws (hF o n hs) ss)):=by
  simp[wd,yJ,RI hl h6];obtain⟨rS,rT⟩:=FF (p:=fun q:eA×Nat=>(brk ws (hF o n hs) q.1).isSome) (g:=fun q=>.tup [st "bad",.int (q.2:Int),d8 (brk ws (hF o n hs) q.1)]) (xs:=ss.zipIdx);rw[I5]at rS rT;refine qq (fun q:eA×Nat=>.tup [.int (q.2:Int),cM q.1]) ss.zipIdx (fun ρ=>∃gK dV fJ,ρ=[.aq (eY cs ws),.aq (.lst (o.map bp)),.aq (.lst (n.map bp)),.aq (.lst (ss.map cM)),.aq (gJ hs),.aq (.lst ((hF o n hs).map bp)),gK,dV,fJ]) (fun q=>if(brk ws (hF o n hs) q.1).isSome=true then some (.tup [st "bad",.int (q.2:Int),d8 (brk ws (hF o n hs) q.1)])else none) (by simp[EA]) ⟨.un,.un,.un,rfl⟩ ?_ (fun d hd=>?_) ?_
  ·rintro⟨s,i⟩ _ aO ⟨gK,dV,fJ,rfl⟩;have ms:s∈ss:=(List.mem_iff_getElem?.mpr ⟨_,Ko aO⟩);have e:=Rg cx hb (e7 s ms);have d5:=qz (brk ws (hF o n hs) s);cases bq:brk ws (hF o n hs) s with
   |none=>rw[bq]at e d5;simp[e,vB,d5]
   |some a=>rw[bq]at e d5;simp[e,vB,d5,st]
  ·obtain⟨q,rfl,hf⟩:=rS d hd;have ps:okN 8 (.tup [st "bad",.int (q.2:Int),d8 (brk ws (hF o n hs) q.1)])=true:=by simp[okN,st,HH]
   have tv:okN 8 kG=true:=rfl;have ne:bk (.tup [st "bad",.int (q.2:Int),d8 (brk ws (hF o n hs) q.1)]) kG=false:=by simp[kG,bk,dX]
   simp[bR,ps,tv,ne,hf]
  ·rintro _ aJ ⟨gK,dV,fJ,rfl⟩;have hf:=rT aJ;simp[hf];rfl
 obtain⟨_,ev,d,rfl,ek⟩:=v;simp[vX,ye,ev,ek]
theorem Rc(cx:gn cs ws)(hb:hQ cs bs)(e7:∀s∈ss,hX cs s)(h8:ss.length≤1000):∃d,te [.a_ (b3 ws) (cn ws),.lst (bs.map bp),.lst (ss.map cM)]=.ok (.v d)∧hC d=allB ws bs ss:=by
 suffices v:Ends (te [.a_ (b3 ws) (cn ws),.lst (bs.map bp),.lst (ss.map cM)]) fun r=>∃d,r=.v d∧hC d=allB ws bs ss by
  obtain⟨_,ev,d,rfl,ek⟩:=v;exact⟨d,ev,ek⟩
 simp[te,yk];obtain⟨rS,rT⟩:=FF (p:=fun q:eA×Nat=>(brk ws bs q.1).isSome) (g:=fun q=>.tup [.int (q.2:Int),d8 (brk ws bs q.1)]) (xs:=ss.zipIdx);rw[I5]at rS rT;refine qq (fun q:eA×Nat=>.int (q.2:Int)) ss.zipIdx (fun ρ=>∃s3 s4,ρ=[.aq (.a_ (b3 ws) (cn ws)),.aq (.lst (bs.map bp)),.aq (.lst (ss.map cM)),s3,s4]) (fun q=>if(brk ws bs q.1).isSome=true then some (.tup [.int (q.2:Int),d8 (brk ws bs q.1)])else none) ?_ ⟨.un,.un,rfl⟩ ?_ (fun d hd=>?_) ?_
 ·simp[show ss.length<1000000 by omega,nT];apply List.ext_getElem
  ·simp
  ·intro i h1 h2;simp
 ·rintro⟨s,i⟩ _ aO ⟨s3,s4,rfl⟩;have Kn:=Ko aO;have ms:s∈ss:=(List.mem_iff_getElem?.mpr ⟨_,Kn⟩);have iv:az (.lst (ss.map cM)) (.int (i:Int))=.ok (cM s):=iC (by simp[Kn]);have e:=Ab cx hb (e7 s ms);have d5:=qz (brk ws bs s);cases bq:brk ws bs s with
  |none=>rw[bq]at e d5;simp[e,iv,vB,d5]
  |some a=>rw[bq]at e d5;simp[e,iv,vB,d5]
 ·obtain⟨q,rfl,hf⟩:=rS d hd;simp[hf,hC]
 ·rintro _ aJ ⟨s3,s4,rfl⟩;have hf:=rT aJ;simp[hf,hC]
theorem Eb(h6:bs.length≤6):th [.lst (bs.map bp)]=.ok (.o (bs.map bp)):=by apply Ends.done;simp[th,yq];refine oH bp bs bp (by simp) (by omega) (fun b _=>by simp[qN];rfl) (by simp)
end
theorem GJ{os:List aB}(h:1≤os.length)(x:Int):∃d∈os,az (.lst (os.map bb)) (.int (x%(os.length:Int)))=.ok (bb d):=by obtain⟨k,hk,dP⟩:=jq x (n:=os.length) (by omega);rw[dP];exact⟨os[k],List.getElem_mem _,iC (by simp[hk])⟩
section
variable{cs:List Nat}{ws:List (aB×aB)}
theorem Vf(cx:gn cs ws)(n:Int):∃s,hX cs s∧nH [.int n,.lst (bH cs),.lst ((outs cs ws cs.length).map bb)]=.ok (.v (cM s)):=by
 have op:=HU cx;have sub:∀d∈outs cs ws cs.length,d∈dx cs cs.length:=fun d hd=>HS hd;have ol:=HT ws cx.c cs.length;have h6:=cx.h6;have h1:=cx.h1;generalize outs cs ws cs.length=os at op sub ol ⊢;have lcs:(bH cs).length=cs.length:=by simp[bH]
 obtain⟨d,hd,ek⟩:=GJ op (n/5);obtain⟨e,he,qo⟩:=GJ op (n/7);obtain⟨p,hp,du⟩:=HX (n/35);obtain⟨h,hh,hZ⟩:=jq (n/11) (n:=cs.length) (by omega);have h5:n%5=0∨n%5=1∨n%5=2∨n%5=3∨n%5=4:=by omega
 have t:∀k:Nat,k<5→az (.lst [st "comes",st "leaves",st "noring",st "by",st "never"]) (.int (k:Int))=.ok (([st "comes",st "leaves",st "noring",st "by",st "never"])[k]?.getD .non):=fun k hk=>by
  have:k=0∨k=1∨k=2∨k=3∨k=4:=by omega
  rcases this with q|q|q|q|q<;>subst q<;>rfl
 have t0:=t 0 (by decide);have t1:=t 1 (by decide);have d_:=t 2 (by decide);have t3:=t 3 (by decide);have pK:=t 4 (by decide);simp[st]at t0 t1 d_ t3 pK;have z:∀x y:String,(PySem.Str.ofString x==PySem.Str.ofString y)=false→bR true (.str (PySem.Str.ofString x)) (.str (PySem.Str.ofString y))=.ok (.aD false):=fun x y h=>by rw[za];simp[h]
 have y:∀x:Str,bR true (.str x) (.str x)=.ok (.aD true):=fun x=>by rw[za];simp
 have a6:=z "leaves" "comes" (by decide);have aW:=z "leaves" "by" (by decide);have gx:=z "leaves" "never" (by decide);have k4:=z "noring" "comes" (by decide);have pV:=z "noring" "by" (by decide);have Yw:=z "noring" "never" (by decide);have Yx:=z "by" "comes" (by decide);have Yy:=z "never" "comes" (by decide);have Yz:=z "never" "by" (by decide);rcases h5 with q|q|q|q|q
 ·exact⟨⟨p,d,.comes e⟩,⟨hp,sub d hd⟩,by simp(disch:=first|omega|(simp;done)|(simp;omega)) [nH,ow,q,t0,ek,qo,du,y,cM,gO,jY,st]⟩
 ·exact⟨⟨p,d,.leaves⟩,⟨hp,sub d hd⟩,by simp(disch:=first|omega|(simp;done)|(simp;omega)) [nH,ow,q,t1,ek,du,a6,aW,gx,cM,gO,jY,st]⟩
 ·exact⟨⟨p,d,.tu⟩,⟨hp,sub d hd⟩,by simp(disch:=first|omega|(simp;done)|(simp;omega)) [nH,ow,q,d_,ek,du,k4,pV,Yw,cM,gO,jY,st]⟩
 ·exact⟨⟨p,d,.by' h⟩,⟨hp,sub d hd⟩,by simp(disch:=first|omega|(simp;done)|(simp;omega)) [nH,ow,q,t3,ek,du,Yx,y,lcs,hZ,cM,gO,jY,st]⟩
 ·exact⟨⟨p,d,.never h⟩,⟨hp,sub d hd⟩,by simp(disch:=first|omega|(simp;done)|(simp;omega)) [nH,ow,q,pK,ek,du,Yy,Yz,y,lcs,hZ,cM,gO,jY,st]⟩
theorem Wi(s:eA)(p:Str):rA (cM s) (some 2) none=.ok (.tup (bb s.d::jY s.w)):=by unfold cM;cases s.w<;>rfl
theorem Wh(s:eA)(p:Str):lq (.tup [gO s.w,.str p]) (.tup (bb s.d::jY s.w))=.ok (cM ⟨p,s.d,s.w⟩):=by
 have:(jY s.w).length≤1:=by cases s.w<;>simp[jY]
 rw[Lz (by simp;omega)];rfl
theorem P6{α:Type}(g:α→D)(a b:List α)(h:1≤b.length):∃x,(x∈a∨x∈b)∧az (.lst (a.map g++b.map g)) (.int 0)=.ok (g x):=by
 cases a with
 |nil=>
  cases b with
  |nil=>simp at h
  |cons x b=>exact⟨x,.inr (by simp),iC (k:=0) rfl⟩
 |cons x a=>exact⟨x,.inl (by simp),iC (k:=0) rfl⟩
theorem Vg(cx:gn cs ws){o n:List (List cH)}(ho:hQ cs o)(aJ:hQ cs n)(ns:List Int)(m:Nat)(hm:m≤10):∃ss:List eA,ss.length=m∧(∀s∈ss,hX cs s)∧
  tm [.bY (ns.map D.int),.a_ (b3 ws) (cn ws),.lst (bH cs),.lst ((outs cs ws cs.length).map bb),.lst [.lst (o.map bp),.lst (n.map bp)],.int (m:Int)]=.ok (.o (ss.map cM)):=by
 suffices v:Ends (tm [.bY (ns.map D.int),.a_ (b3 ws) (cn ws),.lst (bH cs),.lst ((outs cs ws cs.length).map bb),.lst [.lst (o.map bp),.lst (n.map bp)],.int (m:Int)]) fun r=>∃ss:List eA,ss.length=m∧(∀s∈ss,hX cs s)∧r=.o (ss.map cM)by
  obtain⟨_,ev,ss,h1,h2,rfl⟩:=v;exact⟨ss,h1,h2,ev⟩
 simp[tm,yD];refine kJ m (fun j ρ=>∃(ss:List eA)(dV fJ gL lK lL:cp),ss.length=j∧(∀s∈ss,hX cs s)∧ρ=[.aq (.bY (ns.map D.int)),.aq (.a_ (b3 ws) (cn ws)),.aq (.lst (bH cs)),.aq (.lst ((outs cs ws cs.length).map bb)),.aq (.lst [.lst (o.map bp),.lst (n.map bp)]),.aq (.int (m:Int)),.c_ (ss.map cM),dV,fJ,gL,lK,lL]) (by simp[show m<1000000 by omega]) ⟨[],.un,.un,.un,.un,.un,rfl,by simp,rfl⟩ ?_ ?_
 ·rintro j _ cF ⟨ss,dV,fJ,gL,lK,lL,hl,e7,rfl⟩;obtain⟨c,ec⟩:=oy ns (14+j);have m9:ih [.bY (ns.map D.int),.int (14+(j:Int))]=.ok (.v (.int c)):=by rw[←ec];simp
  obtain⟨xs,hx,ex⟩:=pI c (80+(j:Int)) 9 (by decide);have j5:g6 [.int c,.int (80+(j:Int)),.int 9]=.ok (.o (xs.map D.int)):=ex;simp;refine u5 D.int xs (fun i ρ=>∃(ds:List eA)(gL lK:cp),ds.length=i∧(∀s∈ds,hX cs s)∧ρ=[.aq (.bY (ns.map D.int)),.aq (.a_ (b3 ws) (cn ws)),.aq (.lst (bH cs)),.aq (.lst ((outs cs ws cs.length).map bb)),.aq (.lst [.lst (o.map bp),.lst (n.map bp)]),.aq (.int (m:Int)),.c_ (ss.map cM),.aq (.int (j:Int)),.c_ (ds.map cM),gL,lK,lL]) (by simp[m9,j5]) ⟨[],gL,lK,rfl,by simp,rfl⟩ ?_ ?_
  ·rintro i x _ OG ⟨ds,gL,lK,qt,sF,rfl⟩;have hi:i<9:=by rw[←hx];exact(List.getElem?_eq_some_iff.mp OG).1
   obtain⟨s,hs,ag⟩:=Vf cx x;obtain⟨p,hp,du⟩:=RX (x/13);simp(disch:=first|omega|(simp;done)|(simp;omega)) [ag,du,wZ,Wi s p,Wh s p];refine⟨ds++[⟨p,s.d,s.w⟩],by simp[qt],?_,by simp⟩;intro s' fR;rcases List.mem_append.mp fR with h|h
   ·exact sF s' h
   ·rw[List.mem_singleton.mp h];exact⟨hp,hs.d⟩
  ·rintro _ ⟨ds,gL,lK,qt,sF,rfl⟩;simp;refine qp cM ds (fun s=>[o,n].all fun b=>(brk ws b s).isNone) cM (by simp) (by omega) (fun s hs=>?_) (fun s _ _=>by simp) ?_
   ·have gW:=Ab cx ho (sF s hs);have d5:=Ab cx aJ (sF s hs);apply Ends.done;simp;refine oH (fun(b : List (List cH))=>D.lst (b.map bp)) [o,n] (fun b=>D.aD ((brk ws b s).isNone)) (by simp) (by simp) (fun b hb=>?_) ?_
    ·have:b=o∨b=n:=by simpa using hb
     rcases this with q|q<;>subst q
     ·simp[gW,qz]
     ·simp[d5,qz]
    ·rw[xV];simp
   ·obtain⟨x,OD,Nc⟩:=P6 cM (ds.filter fun s=>[o,n].all fun b=>(brk ws b s).isNone) ds (by omega);have OE:hX cs x:=sF x (OD.elim (fun h=>(List.mem_filter.mp h).1) id);have j6:(ds.filter fun s=>[o,n].all fun b=>(brk ws b s).isNone).length≤ds.length:=List.length_filter_le _ _;generalize(ds.filter fun s=>[o,n].all fun b=>(brk ws b s).isNone)=aV at*;simp(disch:=first|omega|(simp;done)|(simp;omega)) [Nc];refine⟨ss++[x],by simp[hl],?_,by simp⟩;intro s' fR;rcases List.mem_append.mp fR with h|h
    ·exact e7 s' h
    ·rw[List.mem_singleton.mp h];exact OE
 ·rintro _ ⟨ss,dV,fJ,gL,lK,lL,hl,e7,rfl⟩;simp;exact⟨ss,hl,e7,rfl⟩
end
theorem fk.uS{cs:List Nat}{bs:List (List cH)}(h:fk cs bs):hQ cs bs:=⟨h.l,fun b hb r hr=>by obtain⟨i,e⟩:=List.mem_iff_getElem?.mp hb;exact((h.b i b e).r r hr).p⟩
theorem Hw:∀b:List cH,hG (b.map dM)=true
 |[]=>by simp[hG]
 |r::b=>by
  have o:∀x:Option Nat,js (d8 x)=true:=fun x=>by cases x<;>simp[d8,js]
  simp[hG,js,dM,o,Hw b]
theorem Hx:∀ss:List eA,hG (ss.map cM)=true
 |[]=>by simp[hG]
 |s::ss=>by
  have o:js (cM s)=true:=by unfold cM;cases s.w<;>simp[js,hG,gO,jY,bb,st]
  simp[hG,o,Hx ss]
theorem Dz:∀b:List cH,lh (b.map fun r=>T.aq (dM r))=true
 |[]=>by simp[lh]
 |r::b=>by simp[lh,lg,Dz b]
theorem DA(bs:List (List cH)):pF (.bG (.lst (dw bs)))=true:=by
 have:∀bs:List (List cH),lh (bs.map kY)=true:=fun bs=>by
  induction bs with
  |nil=>simp[lh]
  |cons b bs b6=>simp[lh,b6,kY,lg,Dz]
 simp[pF,lg,dw,this]
@[simp] theorem Z8(d:D):pF (.aq d)=true:=(rfl)
@[simp] theorem Z9:pF .un=true:=(rfl)
@[simp] theorem aat(m:aP)(ρ:ak):qR m ρ=(m (dF ρ)).bind fun ds=>if hG ds=true∧tx ρ=true then .ok ds else .bad:=(rfl)
@[simp] theorem aa9(i:Nat)(mk:aC)(mv:aP)(ρ:ak):vS i mk mv ρ=(mv ρ).bind fun ds=>(il i ρ).bind fun aA=>(mk ρ).bind fun k=>tJ i ρ aA ds k:=(rfl)
@[simp] theorem aax(n:Nat)(mf:List D→R b1)(m:aP)(ρ:ak):qS n mf m ρ=(m ρ).bind fun ds=>if ds.length=n then(mf ds).bind A2 else .bad:=(rfl)
@[simp] theorem Z2(t:T):A2 (.t t)=.ok t:=(rfl)
@[simp] theorem aba(m:aP)(ρ:ak):q4 m ρ=(m ρ).bind tK:=(rfl)
@[simp] theorem aay(x y n:Nat)(mf:T→T→List D→R (D×T×T))(ma:aP)(ρ:ak):vQ x y n mf ma ρ=(iG (ma ρ)).bind fun ag=>tZ x y n mf ρ ag ρ[x]? ρ[y]?:=(rfl)
theorem T5{i:Nat}{ρ:ak}{aA:List T}{ds:List D}{k:Nat}(h:k<aA.length):tJ i ρ aA ds (.int (k:Int))=.ok (.bj (ρ.set i (.bG (.lst (aA.set k (gr ds)))))):=by simp only[tJ,vD h,AO]
theorem UG(n:Nat):∃m:Nat,tK [.int 18,.int (if(n:Int)<63 then(n:Int)else 63)]=.ok ((List.range m).map fun k:Nat=>.int ((18+k:Nat):Int)):=by
 generalize hv:(if(n:Int)<63 then(n:Int)else 63)=v;have h:0≤v∧v≤63:=by rw[←hv];split<;>omega
 refine⟨(v-18).toNat,?_⟩;have: -(2^62)≤(18:Int)∧(18:Int)<2^62∧-(2^62)≤v∧v<2^62:=⟨by omega,by omega,by omega,by omega⟩;simp only[tK,if_pos this,fI]
 congr 1
theorem Ly(ns:List Int)(mo mA:Nat)(cy:1≤mo)(HF:mo≤6)(s3:mA≤3):∃(cs:List Nat)(ws:List (aB×aB))(o n:List (List cH))(ss:List eA),gn cs ws∧cs.length≤mo∧fk cs o∧fk cs n∧(∀s∈ss,hX cs s)∧ss.length≤mA∧
  rd [.bY (ns.map D.int),.int (mo:Int),.int (mA:Int)]=.ok (.v (.tup [.lst (bH cs),.lst (ws.map c5),.lst (o.map bp),.lst (n.map bp),.lst (ss.map cM)])):=by
 suffices v:Ends (rd [.bY (ns.map D.int),.int (mo:Int),.int (mA:Int)]) fun r=>∃(cs:List Nat)(ws:List (aB×aB))(o n:List (List cH))(ss:List eA),gn cs ws∧cs.length≤mo∧fk cs o∧fk cs n∧(∀s∈ss,hX cs s)∧ss.length≤mA∧r=.v (.tup [.lst (bH cs),.lst (ws.map c5),.lst (o.map bp),.lst (n.map bp),.lst (ss.map cM)])by
  obtain⟨_,ev,cs,ws,o,n,ss,h1,h2,h3,h4,h5,h6,rfl⟩:=v;exact⟨cs,ws,o,n,ss,h1,h2,h3,h4,h5,h6,ev⟩
 obtain⟨jD,bU⟩:=oy ns 0;have yW:ih [.bY (ns.map D.int),.int 0]=.ok (.v (.int jD)):=bU;obtain⟨yN,Md⟩:=oy ns 13;have Me:ih [.bY (ns.map D.int),.int 13]=.ok (.v (.int yN)):=Md;obtain⟨cs,ws,cx,Oj,d5⟩:=R2 jD mo cy HF;have h6:=cx.h6;have h1:=cx.h1;obtain⟨o,ho,gW⟩:=DX ns 1 cs cx.h6 cx.c;obtain⟨n,aJ,M7⟩:=DX ns 7 cs cx.h6 cx.c;have Na:nG [.bY (ns.map D.int),.int 1,.lst (bH cs),.int 4]=.ok (.t (.lst (dw o))):=gW;have M8:nG [.bY (ns.map D.int),.int 7,.lst (bH cs),.int 4]=.ok (.t (.lst (dw n))):=M7;obtain⟨xs,hx,ex⟩:=pI yN 9 8 (by decide);have j5:g6 [.int yN,.int 9,.int 8]=.ok (.o (xs.map D.int)):=ex;have lcs:(bH cs).length=cs.length:=by simp[bH]
 simp[rd,yp,yW,d5,Na,M8,Me,j5];refine kJ cs.length (fun _ ρ=>∃n fJ,fk cs n∧pF fJ=true∧ρ=[.aq (.bY (ns.map D.int)),.aq (.int (mo:Int)),.aq (.int (mA:Int)),.aq (.lst (bH cs)),.aq (.lst (ws.map c5)),.bG (.lst (dw o)),.bG (.lst (dw n)),.aq (.lst (xs.map D.int)),fJ,.un,.un,.un]) (by simp[lcs,show cs.length<1000000 by omega]) ⟨n,.un,aJ,rfl,rfl⟩ ?_ ?_
 ·rintro j _ cF ⟨n,fJ,aJ,Ga,rfl⟩;obtain⟨x,EI⟩:∃x,az (.lst (xs.map D.int)) (.int (j:Int))=.ok (.int x):=⟨_,kO (k:=j) (by omega)⟩;have jN:=oV (bs:=o) (h:=j) (by rw[ho.l];exact cF);have Qc:j<o.length:=by rw[ho.l];exact cF
  have Qb:j<(dw n).length:=by simp[dw,aJ.l];exact cF
  have uQ:pY (cs.getD j 0) (o.getD j []):=ho.b j _ (by simp[Qc]);generalize o.getD j []=b at jN uQ;by_cases q:x%4=0
  ·simp(disch:=first|omega|(simp;done)|(simp;omega)) [EI,q,dF,Cs,jN,qN,Hw,tx,DA,T5 Qb,Hf];exact⟨n.set j b,aJ.put uQ,by simp[dw,List.map_set]⟩
  ·simp(disch:=first|omega|(simp;done)|(simp;omega)) [EI,q];exact⟨n,aJ,rfl⟩
 ·rintro _ ⟨n,fJ,aJ,Ga,rfl⟩;obtain⟨m,em⟩:=UG ns.length;simp;refine u5 (fun k:Nat=>D.int ((18+k:Nat):Int)) (List.range m) (fun _ ρ=>∃o n gL,fk cs o∧fk cs n∧pF gL=true∧ρ=[.aq (.bY (ns.map D.int)),.aq (.int (mo:Int)),.aq (.int (mA:Int)),.aq (.lst (bH cs)),.aq (.lst (ws.map c5)),.bG (.lst (dw o)),.bG (.lst (dw n)),.aq (.lst (xs.map D.int)),fJ,gL,.un,.un]) (by simp[em,-Int.natCast_add]) ⟨o,n,.un,ho,aJ,rfl,rfl⟩ ?_ ?_
  ·rintro _ k _ _ ⟨o,n,gL,ho,aJ,Gb,rfl⟩;obtain⟨c,ec⟩:=oy ns (18+k);obtain⟨d,cg,i0,ho',sL,qo⟩:=Ng cx.h1 cx.h6 cx.c ho aJ c (100+((18+k:Nat):Int));simp[-Int.natCast_add,ec,tZ,qo];exact⟨cg,ho',i0,sL,by simp⟩
  ·rintro _ ⟨o,n,gL,ho,aJ,Gb,rfl⟩;obtain⟨JW,iU⟩:∃x,az (.lst (xs.map D.int)) (.int 6)=.ok (.int x):=⟨_,kO (k:=6) (by omega)⟩;obtain⟨k,hk,dP⟩:=jq JW (n:=mA+1) (by omega);have y2:JW%((mA:Int)+1)=(k:Int):=by rw[←dP];simp
   obtain⟨ss,Zl,e7,ag⟩:=Vg cx ho.uS aJ.uS ns k (by omega);simp(disch:=first|omega|(simp;done)|(simp;omega)) [Aa cx.aQ cx.few,dF,Cs,He cx,iU,y2,ag,Hx,tx,DA,Ga,Gb];exact⟨cs,ws,cx,Oj,o,ho,n,aJ,ss,e7,by omega,rfl,rfl,rfl,rfl,rfl⟩
theorem sk:∀{xs:List D},(∀x∈xs,bk x x=true)→dX xs xs=true
 |[],_=>by simp[dX]
 |x::xs,h=>by simp[dX,h x (by simp),sk (xs:=xs) fun y cK=>h y (by simp[cK])]
theorem sj:∀(n:Nat)(d:D),okN n d=true→bk d d=true
 |_,.non,_=>by simp[bk]
 |_,.aD _,_=>by simp[bk]
 |_,.int _,_=>by simp[bk]
 |_,.str _,_=>by simp[bk]
 |n+1,.tup xs,h=>by simp only[bk];exact sk fun x hx=>sj n x (List.all_eq_true.mp (by simpa[okN]using h) x hx)
 |n+1,.de xs,h=>by simp only[bk];exact sk fun x hx=>sj n x (List.all_eq_true.mp (by simpa[okN]using h) x hx)
 |n+1,.lst xs,h=>by simp only[bk];exact sk fun x hx=>sj n x (List.all_eq_true.mp (by simpa[okN]using h) x hx)
 |n+1,.bY xs,h=>by simp only[bk];exact sk fun x hx=>sj n x (List.all_eq_true.mp (by simpa[okN]using h) x hx)
 |0,.tup _,h=>by simp[okN]at h
 |0,.de _,h=>by simp[okN]at h
 |0,.lst _,h=>by simp[okN]at h
 |0,.bY _,h=>by simp[okN]at h
 |0,.cW _ _,h=>by simp[okN]at h
 |0,.a_ _ _,h=>by simp[okN]at h
 |0,.ins _ _ _,h=>by simp[okN]at h
 |0,.l9 _,h=>by simp[okN]at h
 |n+1,.cW _ _,h=>by simp[okN]at h
 |n+1,.a_ _ _,h=>by simp[okN]at h
 |n+1,.ins _ _ _,h=>by simp[okN]at h
 |n+1,.l9 _,h=>by simp[okN]at h
theorem y_{d:D}(h:okN 8 d=true):bR false d d=.ok (.aD false):=by simp[bR,h,sj 8 d h]
theorem Sz(k:Nat)(s:eA):okN (k+2) (cM s)=true:=by
 have a:∀x,okN (k+1) (.str x)=true:=fun _=>by cases k<;>rfl
 unfold cM;cases s.w<;>simp[okN,gO,jY,bb,st]
theorem Sv(k:Nat)(hs:List Nat):okN (k+1) (gJ hs)=true:=rk _ k hs fun a _=>by cases k<;>rfl
theorem S6(v:Int):∃p,hy p∧az (.lst [.str (PySem.Str.ofString "10x1"),.str (PySem.Str.ofString "0x00"),.str (PySem.Str.ofString "11x0")]) (.int (v%3))=.ok (.str p):=by
 have h:v%3=0∨v%3=1∨v%3=2:=by omega
 rcases h with h|h|h<;>rw[h]
 ·exact⟨_,⟨by decide,show ∀c∈_,c=48∨c=49∨c=120 by decide⟩,rfl⟩
 ·exact⟨_,⟨by decide,show ∀c∈_,c=48∨c=49∨c=120 by decide⟩,rfl⟩
 ·exact⟨_,⟨by decide,show ∀c∈_,c=48∨c=49∨c=120 by decide⟩,rfl⟩
theorem S5{cs:List Nat}{ss:List eA}(e7:∀s∈ss,hX cs s)(hl:ss.length≤3){d:aB}(hd:d∈dx cs cs.length)(v:Int):∃ik:List eA,(∀s∈ik,hX cs s)∧ik.length≤20∧v9 [.lst (ss.map cM),bb d,.int v]=.ok (.v (.lst (ik.map cM))):=by
 obtain⟨p,hp,du⟩:=S6 v;obtain⟨k,hk,dP⟩:=jq (v/3) (n:=3) (by decide);have y2:v/3%3=(k:Int):=dP;have fS:az (bb d) (.int 0)=.ok (.int (d.1:Int)):=rfl;have sf:(8:Int)-(ss.length:Int)=((8-ss.length:Nat):Int):=by omega
 refine⟨(List.replicate (5+k) ⟨p,d,.by' d.1⟩).take (8-ss.length)++ss,?_,by simp;omega,?_⟩
 ·intro s hs;rcases List.mem_append.mp hs with h|h
  ·rw[(List.mem_replicate.mp (List.mem_of_mem_take h)).2];exact⟨hp,hd⟩
  ·exact e7 s h
 ·have c:=LL (List.replicate (5+k) (cM ⟨p,d,.by' d.1⟩)) (8-ss.length);have r:((5:Int)+(k:Int)).toNat=5+k:=by omega
  simp(disch:=first|omega|(simp;done)|(simp;omega)) [v9,yA,du,y2,fS,r];have VC:D.tup [.str (PySem.Str.ofString "by"),.str p,bb d,.int (d.1:Int)]=cM ⟨p,d,.by' d.1⟩:=rfl;rw[VC,sf,c,KR (by simp;omega)];simp
theorem PX(b:Bool):iB "bool" (.aD b)=.ok (.aD true):=rfl
theorem RR{cs:List Nat}{o n:List (List cH)}(ho:fk cs o)(aJ:fk cs n)(hs:List Nat):hQ cs (hF o n hs):=by
 refine⟨by simp[hF,ho.l],fun b hb r hr=>?_⟩;obtain⟨h,hh,rfl⟩:=List.mem_map.mp hb;have hh:h<o.length:=by simpa using hh
 have N8:h<n.length:=by rw[aJ.l,←ho.l];exact hh
 split at hr
 ·exact aJ.uS.p n[h] (List.getElem_mem _) r (by simpa[N8]using hr)
 ·exact ho.uS.p o[h] (List.getElem_mem _) r (by simpa[hh]using hr)
theorem Ra(ns:List Int):pd [.bY (ns.map D.int)]=.ok (.v (.aD true)):=by
 apply Ends.done;obtain⟨cs,ws,o,n,ss,cx,_,ho,aJ,e7,hl,ec⟩:=Ly ns 6 3 (by decide) (by decide) (by decide);have m9:rd [.bY (ns.map D.int),.int 6,.int 3]=.ok (.v (.tup [.lst (bH cs),.lst (ws.map c5),.lst (o.map bp),.lst (n.map bp),.lst (ss.map cM)])):=ec;obtain⟨c,Mf⟩:=oy ns 26;have Mg:ih [.bY (ns.map D.int),.int 26]=.ok (.v (.int c)):=Mf;obtain⟨xs,hx,ex⟩:=pI c 210 1 (by decide);have j5:g6 [.int c,.int 210,.int 1]=.ok (.o (xs.map D.int)):=ex;obtain⟨x,bU⟩:∃x,az (.lst (xs.map D.int)) (.int 0)=.ok (.int x):=⟨_,kO (k:=0) (by omega)⟩;have eG:∀l:List D,nv [.lst l]=.ok l:=fun _=>rfl;have jO:=PN cs ws cx;have h6:=cx.h6;have lo:o.length=n.length:=by rw[ho.l,aJ.l]
 have qJ:o.length≤6:=by rw[ho.l];exact h6
 have RS:n.length≤6:=by omega
 simp[pd,yj,m9,eG,jO,Mg,j5,bU,-List.length_eq_zero_iff];refine Ends.bind (S:=fun f=>∃ik:List eA,(∀s∈ik,hX cs s)∧ik.length≤20∧f=.bj [.aq (.bY (ns.map D.int)),.aq (.lst (bH cs)),.aq (.lst (ws.map c5)),.aq (.lst (o.map bp)),.aq (.lst (n.map bp)),.aq (.lst (ik.map cM)),.aq (eY cs ws),.aq (.int x),.un,.un,.un,.un,.un,.un,.un,.un]) ?_ ?_
 ·by_cases q:x%2=1
  ·have op:=HU cx;have Hg:=He cx;have sub:∀d∈outs cs ws cs.length,d∈dx cs cs.length:=fun d hd=>HS hd;generalize outs cs ws cs.length=os at op Hg sub;have ek:az (.lst (os.map bb)) (.int 0)=.ok (bb (os[0]'(by omega))):=iC (k:=0) (by rw[List.getElem?_map,List.getElem?_eq_getElem (by omega)];rfl);obtain⟨ik,vk,F6,du⟩:=S5 e7 hl (sub _ (List.getElem_mem (by omega:0<os.length))) (x/2);rw[if_pos q,Hg,dH,UJ,dH,ek,dH,du];exact⟨_,rfl,ik,vk,F6,rfl⟩
  ·rw[if_neg q];exact⟨_,rfl,ss,e7,by omega,rfl⟩
 rintro _ ⟨ik,vk,F6,rfl⟩;clear e7 hl ec m9;have fj:∀a b c:D,az (.lst [a,b,c]) (.int 0)=.ok a:=fun _ _ _=>rfl;have dG:∀a b c:D,az (.lst [a,b,c]) (.int 1)=.ok b:=fun _ _ _=>rfl;have bW:∀a b c:D,az (.lst [a,b,c]) (.int 2)=.ok c:=fun _ _ _=>rfl;have ch:=D4 lo qJ;have G6:=Rd lo qJ;have cl:=LF (n:=n) qJ;generalize chg o n=hs at ch G6 cl;have d5:bR false (.lst (hs.map fun x:Nat=>D.int (x:Int))) (.lst (hs.map fun x:Nat=>D.int (x:Int)))=.ok (.aD false):=y_ (Sv 7 hs);have aR:∀l,lG (.lst l)=.lst l:=fun _=>rfl;simp(disch:=first|omega|(simp;done)|(simp;omega)) [Eb qJ,Eb RS,eG,fj,dG,ch,G6,d5,PZ,dF,ji,aR];refine kJ 6 (fun j ρ=>∃(oS:List (List Nat))(dV lL:cp),oS.length=2+j∧ρ=[.aq (.bY (ns.map D.int)),.aq (.lst (bH cs)),.aq (.lst (ws.map c5)),.aq (.lst (o.map bp)),.aq (.lst (n.map bp)),.aq (.lst (ik.map cM)),.aq (eY cs ws),dV,.aq (.lst [.lst (o.map bp),.lst (n.map bp),.lst (ik.map cM)]),.aq (gJ hs),.c_ (oS.map gJ),lL,.un,.un,.un,.un]) (by simp[show lJ [.int 6]=.ok (fI 0 6)from rfl]) ⟨[[],hs],.aq (.int x),.un,rfl,rfl⟩ ?_ ?_
 ·rintro j _ cF ⟨oS,dV,lL,F5,rfl⟩;obtain⟨c,ec⟩:=oy ns (20+j);have m9:ih [.bY (ns.map D.int),.int (20+(j:Int))]=.ok (.v (.int c)):=by rw[←ec];simp
  obtain⟨ys,cK,cX⟩:=pI c (200+(j:Int)) 1 (by decide);have Ni:g6 [.int c,.int (200+(j:Int)),.int 1]=.ok (.o (ys.map D.int)):=cX;obtain⟨y,aj⟩:∃y,az (.lst (ys.map D.int)) (.int 0)=.ok (.int y):=⟨_,kO (k:=0) (by omega)⟩;simp[m9,Ni,aj];refine qp (fun k:Nat=>D.int (k:Int)) (List.range hs.length) (fun k=>Builtin.bitAnd (y/2^k) 1==1) (fun k=>.int ((hs.getD k 0:Nat):Int)) (by simp[gJ,show hs.length<1000000 by omega,nT]) (by simp;omega) (fun k _=>by simp) (fun k hk _=>?_) ?_
  ·have hk:k<hs.length:=by simpa using hk
   have:az (gJ hs) (.int (k:Int))=.ok (.int ((hs.getD k 0:Nat):Int)):=iC (by simp[hk]);simp only[List.getD_eq_getElem?_getD]at this ⊢;simp[this]
  ·simp(disch:=first|omega|(simp;done)|(simp;omega));refine⟨oS++[((List.range hs.length).filter fun k=>Builtin.bitAnd (y/2^k) 1==1).map fun k=>hs.getD k 0],by simp[F5];omega,by simp[gJ]⟩
 ·rintro _ ⟨oS,dV,lL,F5,rfl⟩;simp[ji,aR,Aa cx.aQ cx.few];refine u5 gJ oS (fun j ρ=>∃(A3 A4 A5:cp),ρ=[.aq (.bY (ns.map D.int)),.aq (.lst (bH cs)),.aq (.lst (ws.map c5)),.aq (.lst (o.map bp)),.aq (.lst (n.map bp)),.aq (.lst (ik.map cM)),.aq (eY cs ws),dV,.aq (.lst [.lst (o.map bp),.lst (n.map bp),.lst (ik.map cM)]),.aq (gJ hs),.aq (.lst (oS.map gJ)),lL,.aq (.a_ (b3 ws) (cn ws)),A3,A4,A5]) (by simp) ⟨.un,.un,.un,rfl⟩ ?_ ?_
  ·rintro j fR _ _ ⟨A3,A4,A5,rfl⟩;have dq:=RR ho aJ fR;have v:=Xt cx lo qJ fR dq vk (by omega);have mi:=Rj lo qJ fR;obtain⟨d,ek,hd⟩:=Rc cx dq vk (by omega);have ln:nv [gJ fR]=.ok (fR.map fun x:Nat=>.int (x:Int)):=rfl;have nn:D.lst (fR.map fun x:Nat=>.int (x:Int))=gJ fR:=rfl;have bq:∀b:Bool,bR false (.aD b) (.aD b)=.ok (.aD false):=fun b=>y_ rfl;have hZ:bR false (.lst [.lst (o.map bp),.lst (n.map bp),.lst (ik.map cM)]) (.lst [.lst (o.map bp),.lst (n.map bp),.lst (ik.map cM)])=.ok (.aD false):=by
    refine y_ ?_;have a1:=rk bp 6 o fun b _=>As 4 b;have a2:=rk bp 6 n fun b _=>As 4 b;have e6:=rk cM 6 ik fun b _=>Sz 4 b;rw[okN];simp only[List.all_cons,List.all_nil,a1,a2,e6,Bool.and_true]
   simp[fj,dG,bW,ln,nn,v,mi,ek,hd,PX,bq,hZ]
  ·rintro _ ⟨A3,A4,A5,rfl⟩;simp
theorem X5{P:Program}{w:World}{K:PySem.W.Frag}{mg:Str→Option Value}{base:Heap}{x:Str}{st:Stmt}{N aU:List Str}{k:Nat}{m:a8}{f:Addr}{fd:FuncData}(fn:kv K x x st f fd)(S:cN N aU (bQ st))(h:∀(f:Addr)(b9:Value)(A:Around)(outer:List PySem.Env)(s:Shared)(H:ah)(E:dc),dE k (A.deeper (PyProof.Rows.envOfC x (bQ st) s.heap.objs.size f b9))→∀cu bL,jB (iT gk P w K mg base N x (bQ st) f b9 A outer s H E).jU (fF K cu bL) (fO st) m) :
  hT P w K mg base gk (k+1) f fd aU (mB K aU.length (cZ N.length m)):=fn.ok S B6 fun b9 A outer s H vs Q E hr hs=>by
 obtain⟨G,ht⟩:=yM hs;exact⟨_,(h f b9 A outer s H E hr G H).1,ht⟩
structure dj(K:PySem.W.Frag)(x:Str)(st:Stmt):Prop where
 ex:∃(f:Addr)(dT an:Option Addr)(bZ:Array (Option Value))(e8 cT jE pm cd c3:Value),PySem.W.nsIn K mainGlobals x=some (some (.ref f))∧K.lookup f=some ⟨e8,dT,.func (PySem.W.fnOf x x (jF st) (fO st) (bQ st) .none cT jE pm an cd c3),bZ⟩∧PySem.W.codeIn K cd x=true∧PySem.W.keepIn K (.ref f)=true
theorem dz{K:PySem.W.Frag}{x:Str}{st:Stmt}{f:Addr}{dT an:Option Addr}{bZ:Array (Option Value)}{e8 cT jE pm cd c3:Value}(a:PySem.W.nsIn K mainGlobals x=some (some (.ref f)))(l:K.lookup f=some ⟨e8,dT,.func (PySem.W.fnOf x x (jF st) (fO st) (bQ st) .none cT jE pm an cd c3),bZ⟩)(c:PySem.W.codeIn K cd x=true)(k:PySem.W.keepIn K (.ref f)=true):dj K x st:=⟨f,dT,an,bZ,e8,cT,jE,pm,cd,c3,a,l,c,k⟩
theorem dy{K:PySem.W.Frag}{h:Heap}{mg:Str→Option Value}{x:Str}{st:Stmt}{aU:List Str}(X:K.In h)(G:h.Ns mainGlobals mg)(F:dj K x st)(b:∀(cT doc pm:Value)(an:Option Addr)(b9 c3:Value)(us:List Value),us.length=aU.length→bindArgs (PySem.W.fnOf x x (jF st) (fO st) (bQ st) .none cT doc pm an b9 c3) ⟨us,[]⟩=pure (aU.zip us)):c7 K mg x st aU:=by obtain⟨f,dT,an,bZ,e8,cT,jE,pm,cd,c3,a,l,c,k⟩:=F.ex;exact Nv (st:=st) X G a l c k b
structure p7(K:PySem.W.Frag)(C:Addr)(x qual:Str)(st:Stmt):Prop where
 ex:∃(f:Addr)(dT an:Option Addr)(bZ:Array (Option Value))(e8 cT jE pm cd c3:Value),PySem.W.findIn K (.ref C) x=some (some (.ref f))∧K.lookup f=some ⟨e8,dT,.func (PySem.W.fnOf x qual (jF st) (fO st) (bQ st) .none cT jE pm an cd c3),bZ⟩∧PySem.W.codeIn K cd qual=true∧PySem.W.keepIn K (.ref f)=true∧PySem.W.isFn K (.ref f)=true
theorem Al{K:PySem.W.Frag}{C:Addr}{x qual:Str}{st:Stmt}{f:Addr}{dT an:Option Addr}{bZ:Array (Option Value)}{e8 cT jE pm cd c3:Value}(a:PySem.W.findIn K (.ref C) x=some (some (.ref f)))(l:K.lookup f=some ⟨e8,dT,.func (PySem.W.fnOf x qual (jF st) (fO st) (bQ st) .none cT jE pm an cd c3),bZ⟩)(c:PySem.W.codeIn K cd qual=true)(k:PySem.W.keepIn K (.ref f)=true)(i:PySem.W.isFn K (.ref f)=true):p7 K C x qual st:=⟨f,dT,an,bZ,e8,cT,jE,pm,cd,c3,a,l,c,k,i⟩
theorem Ho{K:PySem.W.Frag}{bD x qual:Str}{C:Addr}{st:Stmt}{aU:List Str}(n:PySem.W.nsIn K mainGlobals bD=some (some (.ref C)))(g1:PySem.W.plainGet K C Str.empty=true)(g2:PySem.W.hasDictIn K C=true)(g3:PySem.W.plainOver K C=true)(ly:PySem.W.findIn K (.ref C) "__setattr__"=some (some (.builtin "object.__setattr__")))(F:p7 K C x qual st)(b:∀(cT doc pm:Value)(an:Option Addr)(b9 c3:Value)(us:List Value),us.length=aU.length→bindArgs (PySem.W.fnOf x qual (jF st) (fO st) (bQ st) .none cT doc pm an b9 c3) ⟨us,[]⟩=pure (aU.zip us)):uo K bD x qual st aU:=by obtain⟨f,dT,an,bZ,e8,cT,jE,pm,cd,c3,a,l,c,k,i⟩:=F.ex;exact⟨⟨C,f,_,n,⟨g1,g2,g3,ly⟩,⟨a,i,k⟩,oJ (st:=st) l c k,(oJ (st:=st) l c k).binds b⟩⟩
theorem RF{K:PySem.W.Frag}{h:Heap}{mg:Str→Option Value}{bD qual:Str}{C:Addr}{st:Stmt}{aU:List Str}(X:K.In h)(G:h.Ns mainGlobals mg)(n:PySem.W.nsIn K mainGlobals bD=some (some (.ref C)))(mk:PySem.W.makesIn K C=true)(vH:PySem.W.keepIn K (.ref C)=true)(F:p7 K C "__init__" qual st)(b:∀(cT doc pm:Value)(an:Option Addr)(b9 c3:Value)(us:List Value),us.length=aU.length→bindArgs (PySem.W.fnOf "__init__" qual (jF st) (fO st) (bQ st) .none cT doc pm an b9 c3) ⟨us,[]⟩=pure (aU.zip us)):InK K mg bD qual st aU:=by obtain⟨f,dT,an,bZ,e8,cT,jE,pm,cd,c3,a,l,c,k,i⟩:=F.ex;exact⟨⟨C,f,_,n,⟨mk,a,i,vH⟩,oJ (st:=st) l c k,PySem.W.mg_of X G n,(oJ (st:=st) l c k).binds b⟩⟩
set_option maxHeartbeats 4000000 in
theorem Xb{K:PySem.W.Frag}{h:Heap}{mg:Str→Option Value}{iK:Addr}{Ws:Tok}{Wt:Tok}{Wu:Tok}{xx:Addr}{LV:Option Addr}{RU:Nat}{VP:Array (Option Value)}{Wv:Tok}{xy:Addr}{LW:Option Addr}{RV:Nat}{VQ:Array (Option Value)}{Ww Wx Wy:Tok}{xA:Addr}{LX:Option Addr}{RW:Nat}{VR:Array (Option Value)}{Wz WA WB WC:Tok}(X:K.In h)(G:h.Ns mainGlobals mg)(n_Net:PySem.W.nsIn K mainGlobals "Net"=some (some (.ref iK)))(g1_Net:PySem.W.plainGet K iK Str.empty=true)(g2_Net:PySem.W.hasDictIn K iK=true)(g3_Net:PySem.W.plainOver K iK=true)(g4_Net:PySem.W.findIn K (.ref iK) "__setattr__"=some (some (.builtin "object.__setattr__")))(u_Net_many:PySem.W.findIn K (.ref iK) "many"=some none)(u_Net_counts:PySem.W.findIn K (.ref iK) "counts"=some none)(u_Net_joined:PySem.W.findIn K (.ref iK) "joined"=some none)(u_Net_far:PySem.W.findIn K (.ref iK) "far"=some none)(mk_Net:PySem.W.makesIn K iK=true)(kc_Net:PySem.W.keepIn K (.ref iK)=true)(spc0:PySem.W.specialIn K (.builtin "object.__class__") "__get__"=some (some (.builtin "getset_descriptor.__get__")))(tkc0:PySem.W.takesIn K (.builtin "object.__class__")=some true)(h0:dj K "_law_stream" BN)(h1:dj K "_law_net" BE)(h2:dj K "_law_pattern" BI)(h3:dj K "_law_row" BK)(h4:dj K "_law_book" Bs)(h5:dj K "_law_cell_at" Bw)(h6:dj K "_law_books" Bt)(h7:dj K "_law_beyond" Br)(h8:dj K "_law_saying" BL)(h9:p7 K iK "count" "Net.count" A_)(h10:dj K "_law_narrow" BD)(h11:dj K "_law_fits" BA)(h12:dj K "_law_next" BF)(h13:dj K "_law_road" BJ)(h14:dj K "_law_is_so" BB)(h15:dj K "_law_broken" Bu)(h16:dj K "_law_says" BM)(h17:dj K "_law_exchanged" Bz)(h18:dj K "_law_outer" BG)(h19:dj K "_law_case" Bv)(h20:dj K "is_pair" Bi)(h21:dj K "is_whole" Bn)(h22:dj K "is_whole_within" Bo)(h23:dj K "is_door_among" Bh)(h24:dj K "is_wire_among" Bp)(h25:dj K "far_doors" Be)(h26:dj K "are_counts" Bc)(h27:p7 K iK "__init__" "Net.__init__" Ba)(h28:dj K "changers" Bd)(h29:dj K "_law_padded" BH)(h30:dj K "_law_copied" By)(h31:dj K "_law_changers" Bx)(h32:dj K "mixed" BP)(h33:dj K "is_pattern" Bj)(h34:dj K "is_address" Bg)(h35:dj K "fits" Bf)(h36:dj K "addresses" Bb)(h37:dj K "taken" BR)(h38:p7 K iK "beyond" "Net.beyond" A9)(h39:dj K "onward" BQ)(h40:dj K "walked" BU)(h41:dj K "is_so_of" Bm)(h42:dj K "is_so" Bl)(h43:dj K "least_broken" BO)(h44:dj K "verdict" BS)(h45:dj K "is_safe" Bk)(h46:dj K "_law_bad" Bq)(h47:dj K "_law_mixed" BC)(h48:dj K "law" nU)(z_all:PySem.W.nsIn K mainGlobals "all"=some none)(z_bool:PySem.W.nsIn K mainGlobals "bool"=some none)(z_enumerate:PySem.W.nsIn K mainGlobals "enumerate"=some none)(z_int:PySem.W.nsIn K mainGlobals "int"=some none)(z_isinstance:PySem.W.nsIn K mainGlobals "isinstance"=some none)(z_len:PySem.W.nsIn K mainGlobals "len"=some none)(z_list:PySem.W.nsIn K mainGlobals "list"=some none)(z_min:PySem.W.nsIn K mainGlobals "min"=some none)(z_range:PySem.W.nsIn K mainGlobals "range"=some none)(z_str:PySem.W.nsIn K mainGlobals "str"=some none)(z_tuple:PySem.W.nsIn K mainGlobals "tuple"=some none)(z_zip:PySem.W.nsIn K mainGlobals "zip"=some none)(z_GREATEST_ADDRESS:PySem.W.nsIn K mainGlobals "GREATEST_ADDRESS"=some (some (.int 15 Ws)))(z_MOST_DOORS:PySem.W.nsIn K mainGlobals "MOST_DOORS"=some (some (.int 4 Wt)))(z_MOST_HOUSES:PySem.W.nsIn K mainGlobals "MOST_HOUSES"=some (some (.int 6 Wu)))(z_SAFE:PySem.W.nsIn K mainGlobals "SAFE"=some (some (.ref xx)))(y_SAFE:K.lookup xx=some ⟨.type "tuple",LV,.seq #[.str (PySem.Str.ofString "safe") Wv] RU,VP⟩)(z_SIGNS:PySem.W.nsIn K mainGlobals "SIGNS"=some (some (.ref xy)))(y_SIGNS:K.lookup xy=some ⟨.type "tuple",LW,.seq #[.str (PySem.Str.ofString "0") Ww,.str (PySem.Str.ofString "1") Wx,.str (PySem.Str.ofString "x") Wy] RV,VQ⟩)(z_WORTHS:PySem.W.nsIn K mainGlobals "WORTHS"=some (some (.ref xA)))(y_WORTHS:K.lookup xA=some ⟨.type "tuple",LX,.seq #[.int 8 Wz,.int 4 WA,.int 2 WB,.int 1 WC] RW,VR⟩):xR K mg where
 lC:=⟨iK,n_Net,⟨g1_Net,g2_Net,g3_Net,g4_Net⟩,(List.forall_mem_cons.2 ⟨u_Net_many,(List.forall_mem_cons.2 ⟨u_Net_counts,(List.forall_mem_cons.2 ⟨u_Net_joined,(List.forall_mem_cons.2 ⟨u_Net_far,(fun _ h=>absurd h List.not_mem_nil)⟩)⟩)⟩)⟩)⟩
 Fu:=dy X G h0 fun _ _ _ _ _ _ us hl=>match us,hl with|[_,_,_],_=>rfl
 Fj:=dy X G h1 fun _ _ _ _ _ _ us hl=>match us,hl with|[_,_],_=>rfl
 Fo:=dy X G h2 fun _ _ _ _ _ _ us hl=>match us,hl with|[_],_=>rfl
 Fq:=dy X G h3 fun _ _ _ _ _ _ us hl=>match us,hl with|[_,_],_=>rfl
 E7:=dy X G h4 fun _ _ _ _ _ _ us hl=>match us,hl with|[_,_,_,_],_=>rfl
 Fb:=dy X G h5 fun _ _ _ _ _ _ us hl=>match us,hl with|[_,_],_=>rfl
 E8:=dy X G h6 fun _ _ _ _ _ _ us hl=>match us,hl with|[_,_,_,_],_=>rfl
 E6:=dy X G h7 fun _ _ _ _ _ _ us hl=>match us,hl with|[_],_=>rfl
 Fs:=dy X G h8 fun _ _ _ _ _ _ us hl=>match us,hl with|[_,_,_],_=>rfl
 EN:=Ho n_Net g1_Net g2_Net g3_Net g4_Net h9 fun _ _ _ _ _ _ us hl=>match us,hl with|[_,_],_=>rfl
 Fi:=dy X G h10 fun _ _ _ _ _ _ us hl=>match us,hl with|[_],_=>rfl
 Ff:=dy X G h11 fun _ _ _ _ _ _ us hl=>match us,hl with|[_,_],_=>rfl
 Fl:=dy X G h12 fun _ _ _ _ _ _ us hl=>match us,hl with|[_,_,_,_],_=>rfl
 Fp:=dy X G h13 fun _ _ _ _ _ _ us hl=>match us,hl with|[_,_,_,_],_=>rfl
 Fg:=dy X G h14 fun _ _ _ _ _ _ us hl=>match us,hl with|[_,_,_,_],_=>rfl
 E9:=dy X G h15 fun _ _ _ _ _ _ us hl=>match us,hl with|[_,_,_],_=>rfl
 Ft:=dy X G h16 fun _ _ _ _ _ _ us hl=>match us,hl with|[_,_,_,_,_,_],_=>rfl
 Fe:=dy X G h17 fun _ _ _ _ _ _ us hl=>match us,hl with|[_,_,_,_,_],_=>rfl
 Fm:=dy X G h18 fun _ _ _ _ _ _ us hl=>match us,hl with|[_,_],_=>rfl
 E_:=dy X G h19 fun _ _ _ _ _ _ us hl=>match us,hl with|[_,_,_],_=>rfl
 EX:=dy X G h20 fun _ _ _ _ _ _ us hl=>match us,hl with|[_],_=>rfl
 E2:=dy X G h21 fun _ _ _ _ _ _ us hl=>match us,hl with|[_],_=>rfl
 E3:=dy X G h22 fun _ _ _ _ _ _ us hl=>match us,hl with|[_,_,_],_=>rfl
 EW:=dy X G h23 fun _ _ _ _ _ _ us hl=>match us,hl with|[_,_],_=>rfl
 E4:=dy X G h24 fun _ _ _ _ _ _ us hl=>match us,hl with|[_,_],_=>rfl
 ET:=dy X G h25 fun _ _ _ _ _ _ us hl=>match us,hl with|[_,_],_=>rfl
 ER:=dy X G h26 fun _ _ _ _ _ _ us hl=>match us,hl with|[_],_=>rfl
 EO:=RF X G n_Net mk_Net kc_Net h27 fun _ _ _ _ _ _ us hl=>match us,hl with|[_,_,_],_=>rfl
 ES:=dy X G h28 fun _ _ _ _ _ _ us hl=>match us,hl with|[_,_],_=>rfl
 Fn:=dy X G h29 fun _ _ _ _ _ _ us hl=>match us,hl with|[_,_,_],_=>rfl
 Fd:=dy X G h30 fun _ _ _ _ _ _ us hl=>match us,hl with|[_],_=>rfl
 Fc:=dy X G h31 fun _ _ _ _ _ _ us hl=>match us,hl with|[_,_],_=>rfl
 Fx:=dy X G h32 fun _ _ _ _ _ _ us hl=>match us,hl with|[_,_,_],_=>rfl
 EY:=dy X G h33 fun _ _ _ _ _ _ us hl=>match us,hl with|[_],_=>rfl
 EV:=dy X G h34 fun _ _ _ _ _ _ us hl=>match us,hl with|[_],_=>rfl
 EU:=dy X G h35 fun _ _ _ _ _ _ us hl=>match us,hl with|[_,_],_=>rfl
 EP:=dy X G h36 fun _ _ _ _ _ _ us hl=>match us,hl with|[_],_=>rfl
 Fz:=dy X G h37 fun _ _ _ _ _ _ us hl=>match us,hl with|[_,_,_],_=>rfl
 EM:=Ho n_Net g1_Net g2_Net g3_Net g4_Net h38 fun _ _ _ _ _ _ us hl=>match us,hl with|[_,_],_=>rfl
 Fy:=dy X G h39 fun _ _ _ _ _ _ us hl=>match us,hl with|[_,_,_,_],_=>rfl
 FC:=dy X G h40 fun _ _ _ _ _ _ us hl=>match us,hl with|[_,_,_,_],_=>rfl
 E1:=dy X G h41 fun _ _ _ _ _ _ us hl=>match us,hl with|[_,_,_],_=>rfl
 E0:=dy X G h42 fun _ _ _ _ _ _ us hl=>match us,hl with|[_,_,_,_],_=>rfl
 Fv:=dy X G h43 fun _ _ _ _ _ _ us hl=>match us,hl with|[_,_,_],_=>rfl
 FA:=dy X G h44 fun _ _ _ _ _ _ us hl=>match us,hl with|[_,_,_,_,_],_=>rfl
 EZ:=dy X G h45 fun _ _ _ _ _ _ us hl=>match us,hl with|[_,_,_,_,_],_=>rfl
 E5:=dy X G h46 fun _ _ _ _ _ _ us hl=>match us,hl with|[_,_,_],_=>rfl
 Fh:=dy X G h47 fun _ _ _ _ _ _ us hl=>match us,hl with|[_,_,_],_=>rfl
 Np:=dy X G h48 fun _ _ _ _ _ _ us hl=>match us,hl with|[_],_=>rfl
 r_:=PySem.W.mg_none_of X G z_all
 x7:=PySem.W.mg_none_of X G z_bool
 x9:=PySem.W.mg_none_of X G z_enumerate
 ya:=PySem.W.mg_none_of X G z_int
 l3:=PySem.W.mg_none_of X G z_isinstance
 et:=PySem.W.mg_none_of X G z_len
 jC:=PySem.W.mg_none_of X G z_list
 yF:=PySem.W.mg_none_of X G z_min
 fq:=PySem.W.mg_none_of X G z_range
 yH:=PySem.W.mg_none_of X G z_str
 uO:=PySem.W.mg_none_of X G z_tuple
 DQ:=PySem.W.mg_none_of X G z_zip
 l7:=⟨⟨_,_,PySem.W.mg_of X G z_GREATEST_ADDRESS,(pC _ _),fun _=>(ou _)⟩⟩
 qj:=⟨⟨_,_,PySem.W.mg_of X G z_MOST_DOORS,(pC _ _),fun _=>(ou _)⟩⟩
 ox:=⟨⟨_,_,PySem.W.mg_of X G z_MOST_HOUSES,(pC _ _),fun _=>(ou _)⟩⟩
 kG:=⟨⟨.ref xx,_,PySem.W.mg_of X G z_SAFE,rfl,Cx y_SAFE (Nat.le_of_ble_eq_true rfl) (.cons (wH _ _) .nil) fun _=>(.cons (uE _) .nil)⟩⟩
 qk:=⟨⟨.ref xy,_,PySem.W.mg_of X G z_SIGNS,rfl,Cx y_SIGNS (Nat.le_of_ble_eq_true rfl) (.cons (wH _ _) (.cons (wH _ _) (.cons (wH _ _) .nil))) fun _=>(.cons (uE _) (.cons (uE _) (.cons (uE _) .nil)))⟩⟩
 m6:=⟨⟨.ref xA,_,PySem.W.mg_of X G z_WORTHS,rfl,Cx y_WORTHS (Nat.le_of_ble_eq_true rfl) (.cons (pC _ _) (.cons (pC _ _) (.cons (pC _ _) (.cons (pC _ _) .nil)))) fun _=>(.cons (ou _) (.cons (ou _) (.cons (ou _) (.cons (ou _) .nil))))⟩⟩
set_option maxHeartbeats 4000000 in
theorem all_mk{l:PySem.W.OpenLaw}{w:World}{K:PySem.W.Frag}{h:Heap}{mg:Str→Option Value}{fv:Addr}(X:K.In h)(G:h.Ns mainGlobals mg)(N5:mg "law"=some (.ref fv))(F:dj K "law" nU)(T:xR K mg) :
  ∃fd:FuncData,(∀(s:Shared)(v:Value),BindsTo s fd ⟨[v],[]⟩ [("_law_script",v)])∧∀base:Heap,K.In base→base.Ns mainGlobals mg→hT l.prog w K mg base gk 12 fv fd ["_law_script"] (mB K 1 pd):=by
 obtain⟨f,dT,an,bZ,e8,cT,jE,pm,cd,c3,a,lk,c,k⟩:=F.ex;have e:=N5.symm.trans (PySem.W.mg_of X G a);cases e;exact⟨_,fun s v=>.of_eq rfl,fun base _ _=>X5 (oJ (st:=nU) lk c k) hJ (Le T)⟩
theorem Rb(K:PySem.W.Frag)(H:ah)(a:Addr)(ns:List Int)(e7:bS K H a (ns.map V.int)):mB K 1 pd [.ref a] H (fun v _=>v=.aD true) (fun _ _ _=>False):=
 Q_ (K:=K) (mf:=pd) (H:=H) (a:=a) (ns:=ns) e7 (Ra ns) (fun _ _ _=>False)
theorem XG {l:PySem.W.OpenLaw} {q:Program} {loose:List Str} {qa:(Str→Option Value)→Heap→Prop} {mZ:World→Heap→Prop} {d:DefRec} {K:Params→PySem.W.Frag} (aJ:l.most=some 63) (sG:d.params.defaults=[])(zy:∀(w:World)(h:Heap),mZ w h→(K w.params).In h)(F:∀(w:World)(mg:Str→Option Value)(fv:Addr)(h:Heap),(K w.params).In h→h.Ns mainGlobals mg→mg d.name=some (.ref fv)→
    ∃fd:FuncData,(∀(s:Shared)(u:Value),BindsTo s fd ⟨[u],[]⟩ [("_law_script",u)])∧∀base:Heap,(K w.params).In base→base.Ns mainGlobals mg→hT l.prog w (K w.params) mg base gk 12 fv fd ["_law_script"] (mB (K w.params) 1 pd)) :
  PySem.W.WalkO q loose qa mZ l.row.toRowW d [] (fun f vs=>PySem.call f vs):=
 aS.XH (n:=63) (k:=12) (x:="_law_script") (CX:=fun _=>gk) (sp:=fun w=>mB (K w.params) 1 pd) aJ (by decide) sG ⟨rfl,by decide,by decide⟩ zy F (fun w H a ns _ _ e7=>Rb (K w.params) H a ns e7) fun _ _ _ _ _ z=>z
end bP
end
namespace PySem.W.Fast
theorem tw6141864980859792905 : True := trivial
theorem tw68509570472707085 : True := trivial
theorem tw6212899300615422412 : True := trivial
theorem tw15458768543857316552 : True := trivial
theorem tw11833025461753046997 : True := trivial
theorem tw83866830942735694 : True := trivial
theorem tw6134569529660515379 : True := trivial
theorem tw12277267651517457678 : True := trivial
theorem tw3642884056761905932 : True := trivial
theorem tw11424767717232456814 : True := trivial
theorem tw1382765763689240754 : True := trivial
theorem tw12258058340217660422 : True := trivial
theorem tw17737794157639750857 : True := trivial
theorem tw3318471739307683439 : True := trivial
theorem tw8897876082426425526 : True := trivial
theorem tw12060088588090710420 : True := trivial
theorem tw9096195064097258040 : True := trivial
theorem tw1703711495109968972 : True := trivial
theorem tw12057675195186616561 : True := trivial
theorem tw5853220297783213282 : True := trivial
theorem tw3801734066873609484 : True := trivial
theorem tw7245890134908545631 : True := trivial
theorem tw1671716731632355365 : True := trivial
theorem tw8643938844318647277 : True := trivial
theorem tw15898860820662800270 : True := trivial
theorem tw9452322942552043666 : True := trivial
theorem tw10612915238017079672 : True := trivial
theorem tw722311849504712113 : True := trivial
theorem tw9412379188225022676 : True := trivial
theorem tw15732470739024159755 : True := trivial
theorem tw11319637553967538979 : True := trivial
theorem tw16085689796670939658 : True := trivial
theorem tw15218382175657763439 : True := trivial
theorem tw16424849228919572967 : True := trivial
theorem tw17086042199159801349 : True := trivial
theorem tw550273639083172661 : True := trivial
theorem tw13311110590761241793 : True := trivial
theorem tw4920820997971535838 : True := trivial
theorem tw15084085350513603721 : True := trivial
theorem tw8852350386872355068 : True := trivial
theorem tw11190165322602675311 : True := trivial
theorem tw4630000149871954520 : True := trivial
theorem tw15262924019534064761 : True := trivial
theorem tw9244128054292057116 : True := trivial
theorem tw15994988507724779208 : True := trivial
theorem tw7779850464592813525 : True := trivial
theorem tw17359693167009920933 : True := trivial
theorem tw11034316191208526961 : True := trivial
theorem tw14029652684666913656 : True := trivial
theorem tw12975226857203024849 : True := trivial
theorem tw475033461492312606 : True := trivial
theorem tw9831058239488043313 : True := trivial
theorem tw6711712258814294871 : True := trivial
theorem tw18083999448398622090 : True := trivial
theorem tw13806856586024449676 : True := trivial
theorem tw3145971008782116843 : True := trivial
theorem tw17961241074752329697 : True := trivial
theorem tw815057663106288238 : True := trivial
theorem tw4700703880182337227 : True := trivial
theorem tw16441551780961125269 : True := trivial
theorem tw18174965361359870101 : True := trivial
theorem tw3127295352939445770 : True := trivial
theorem tw5652875960531859393 : True := trivial
theorem tw13650443593895146755 : True := trivial
theorem tw2639849074205444032 : True := trivial
theorem tw4149362776429130098 : True := trivial
theorem tw10821026514856202280 : True := trivial
theorem tw8249655158531981567 : True := trivial
theorem tw2462963346638673375 : True := trivial
theorem tw9356657929391554049 : True := trivial
theorem tw6995863507017923681 : True := trivial
theorem tw13087072825286841544 : True := trivial
theorem tw8386644514872794284 : True := trivial
theorem tw5906122500047419526 : True := trivial
theorem tw9066383932419396523 : True := trivial
theorem tw7558679907213346516 : True := trivial
theorem tw6483337562411473075 : True := trivial
theorem tw15404880746216036327 : True := trivial
theorem tw18095691394177689039 : True := trivial
theorem tw4867592067160218421 : True := trivial
theorem tw10785025935297585653 : True := trivial
theorem tw591076297089842415 : True := trivial
theorem tw16392639024769486269 : True := trivial
theorem tw12824501810656609698 : True := trivial
theorem tw8654904469675239230 : True := trivial
theorem tw5221049675583191627 : True := trivial
end PySem.W.Fast
open PySem PySem.W PyProof.Rows
set_option maxRecDepth 100000 in
set_option maxHeartbeats 0 in
theorem PySem.Challenge.cw_nohalfway_k14_safe_sets_holds : PySem.Challenge.rw_nohalfway_k14_safe_sets.Holds := by
 w_on;o_law;k_head;(case hw=>w_witness2)
 k_fill
 refine bP.XG (l:=PySem.Challenge.rw_nohalfway_k14_safe_sets) rfl rfl (fun w h Y=>PySem.W.kIn_of Y) ?F
 case F=>
  intro w mg fv h ky G sJ
  refine' bP.all_mk ky G sJ ?h48 (bP.Xb ky G ?n_Net ?g1_Net ?g2_Net ?g3_Net ?g4_Net ?u_Net_many ?u_Net_counts ?u_Net_joined ?u_Net_far ?mk_Net ?kc_Net ?spc0 ?tkc0 ?h0 ?h1 ?h2 ?h3 ?h4 ?h5 ?h6 ?h7 ?h8 ?h9 ?h10 ?h11 ?h12 ?h13 ?h14 ?h15 ?h16 ?h17 ?h18 ?h19 ?h20 ?h21 ?h22 ?h23 ?h24 ?h25 ?h26 ?h27 ?h28 ?h29 ?h30 ?h31 ?h32 ?h33 ?h34 ?h35 ?h36 ?h37 ?h38 ?h39 ?h40 ?h41 ?h42 ?h43 ?h44 ?h45 ?h46 ?h47 ?h48 ?z_all ?z_bool ?z_enumerate ?z_int ?z_isinstance ?z_len ?z_list ?z_min ?z_range ?z_str ?z_tuple ?z_zip ?z_GREATEST_ADDRESS ?z_MOST_DOORS ?z_MOST_HOUSES ?z_SAFE ?y_SAFE ?z_SIGNS ?y_SIGNS ?z_WORTHS ?y_WORTHS)
  (case n_Net=>k_is)
  (case g1_Net=>k_is)
  (case g2_Net=>k_is)
  (case g3_Net=>k_is)
  (case g4_Net=>k_is)
  (case u_Net_many=>k_is)
  (case u_Net_counts=>k_is)
  (case u_Net_joined=>k_is)
  (case u_Net_far=>k_is)
  (case mk_Net=>k_is)
  (case kc_Net=>k_is)
  (case spc0=>k_is)
  (case tkc0=>k_is)
  (case z_all=>k_is)
  (case z_bool=>k_is)
  (case z_enumerate=>k_is)
  (case z_int=>k_is)
  (case z_isinstance=>k_is)
  (case z_len=>k_is)
  (case z_list=>k_is)
  (case z_min=>k_is)
  (case z_range=>k_is)
  (case z_str=>k_is)
  (case z_tuple=>k_is)
  (case z_zip=>k_is)
  (case z_GREATEST_ADDRESS=>k_is)
  (case z_MOST_DOORS=>k_is)
  (case z_MOST_HOUSES=>k_is)
  (case z_SAFE=>k_is)
  (case y_SAFE=>k_is)
  (case z_SIGNS=>k_is)
  (case y_SIGNS=>k_is)
  (case z_WORTHS=>k_is)
  (case y_WORTHS=>k_is)
  (case h0=>(refine' bP.dz ?a ?l ?c ?k;(case a=>k_is);(case l=>k_is);(case c=>k_is);(case k=>k_is)))
  (case h1=>(refine' bP.dz ?a ?l ?c ?k;(case a=>k_is);(case l=>k_is);(case c=>k_is);(case k=>k_is)))
  (case h2=>(refine' bP.dz ?a ?l ?c ?k;(case a=>k_is);(case l=>k_is);(case c=>k_is);(case k=>k_is)))
  (case h3=>(refine' bP.dz ?a ?l ?c ?k;(case a=>k_is);(case l=>k_is);(case c=>k_is);(case k=>k_is)))
  (case h4=>(refine' bP.dz ?a ?l ?c ?k;(case a=>k_is);(case l=>k_is);(case c=>k_is);(case k=>k_is)))
  (case h5=>(refine' bP.dz ?a ?l ?c ?k;(case a=>k_is);(case l=>k_is);(case c=>k_is);(case k=>k_is)))
  (case h6=>(refine' bP.dz ?a ?l ?c ?k;(case a=>k_is);(case l=>k_is);(case c=>k_is);(case k=>k_is)))
  (case h7=>(refine' bP.dz ?a ?l ?c ?k;(case a=>k_is);(case l=>k_is);(case c=>k_is);(case k=>k_is)))
  (case h8=>(refine' bP.dz ?a ?l ?c ?k;(case a=>k_is);(case l=>k_is);(case c=>k_is);(case k=>k_is)))
  (case h9=>(refine' bP.Al ?a ?l ?c ?k ?i;(case a=>k_is);(case l=>k_is);(case c=>k_is);(case k=>k_is);(case i=>k_is)))
  (case h10=>(refine' bP.dz ?a ?l ?c ?k;(case a=>k_is);(case l=>k_is);(case c=>k_is);(case k=>k_is)))
  (case h11=>(refine' bP.dz ?a ?l ?c ?k;(case a=>k_is);(case l=>k_is);(case c=>k_is);(case k=>k_is)))
  (case h12=>(refine' bP.dz ?a ?l ?c ?k;(case a=>k_is);(case l=>k_is);(case c=>k_is);(case k=>k_is)))
  (case h13=>(refine' bP.dz ?a ?l ?c ?k;(case a=>k_is);(case l=>k_is);(case c=>k_is);(case k=>k_is)))
  (case h14=>(refine' bP.dz ?a ?l ?c ?k;(case a=>k_is);(case l=>k_is);(case c=>k_is);(case k=>k_is)))
  (case h15=>(refine' bP.dz ?a ?l ?c ?k;(case a=>k_is);(case l=>k_is);(case c=>k_is);(case k=>k_is)))
  (case h16=>(refine' bP.dz ?a ?l ?c ?k;(case a=>k_is);(case l=>k_is);(case c=>k_is);(case k=>k_is)))
  (case h17=>(refine' bP.dz ?a ?l ?c ?k;(case a=>k_is);(case l=>k_is);(case c=>k_is);(case k=>k_is)))
  (case h18=>(refine' bP.dz ?a ?l ?c ?k;(case a=>k_is);(case l=>k_is);(case c=>k_is);(case k=>k_is)))
  (case h19=>(refine' bP.dz ?a ?l ?c ?k;(case a=>k_is);(case l=>k_is);(case c=>k_is);(case k=>k_is)))
  (case h20=>(refine' bP.dz ?a ?l ?c ?k;(case a=>k_is);(case l=>k_is);(case c=>k_is);(case k=>k_is)))
  (case h21=>(refine' bP.dz ?a ?l ?c ?k;(case a=>k_is);(case l=>k_is);(case c=>k_is);(case k=>k_is)))
  (case h22=>(refine' bP.dz ?a ?l ?c ?k;(case a=>k_is);(case l=>k_is);(case c=>k_is);(case k=>k_is)))
  (case h23=>(refine' bP.dz ?a ?l ?c ?k;(case a=>k_is);(case l=>k_is);(case c=>k_is);(case k=>k_is)))
  (case h24=>(refine' bP.dz ?a ?l ?c ?k;(case a=>k_is);(case l=>k_is);(case c=>k_is);(case k=>k_is)))
  (case h25=>(refine' bP.dz ?a ?l ?c ?k;(case a=>k_is);(case l=>k_is);(case c=>k_is);(case k=>k_is)))
  (case h26=>(refine' bP.dz ?a ?l ?c ?k;(case a=>k_is);(case l=>k_is);(case c=>k_is);(case k=>k_is)))
  (case h27=>(refine' bP.Al ?a ?l ?c ?k ?i;(case a=>k_is);(case l=>k_is);(case c=>k_is);(case k=>k_is);(case i=>k_is)))
  (case h28=>(refine' bP.dz ?a ?l ?c ?k;(case a=>k_is);(case l=>k_is);(case c=>k_is);(case k=>k_is)))
  (case h29=>(refine' bP.dz ?a ?l ?c ?k;(case a=>k_is);(case l=>k_is);(case c=>k_is);(case k=>k_is)))
  (case h30=>(refine' bP.dz ?a ?l ?c ?k;(case a=>k_is);(case l=>k_is);(case c=>k_is);(case k=>k_is)))
  (case h31=>(refine' bP.dz ?a ?l ?c ?k;(case a=>k_is);(case l=>k_is);(case c=>k_is);(case k=>k_is)))
  (case h32=>(refine' bP.dz ?a ?l ?c ?k;(case a=>k_is);(case l=>k_is);(case c=>k_is);(case k=>k_is)))
  (case h33=>(refine' bP.dz ?a ?l ?c ?k;(case a=>k_is);(case l=>k_is);(case c=>k_is);(case k=>k_is)))
  (case h34=>(refine' bP.dz ?a ?l ?c ?k;(case a=>k_is);(case l=>k_is);(case c=>k_is);(case k=>k_is)))
  (case h35=>(refine' bP.dz ?a ?l ?c ?k;(case a=>k_is);(case l=>k_is);(case c=>k_is);(case k=>k_is)))
  (case h36=>(refine' bP.dz ?a ?l ?c ?k;(case a=>k_is);(case l=>k_is);(case c=>k_is);(case k=>k_is)))
  (case h37=>(refine' bP.dz ?a ?l ?c ?k;(case a=>k_is);(case l=>k_is);(case c=>k_is);(case k=>k_is)))
  (case h38=>(refine' bP.Al ?a ?l ?c ?k ?i;(case a=>k_is);(case l=>k_is);(case c=>k_is);(case k=>k_is);(case i=>k_is)))
  (case h39=>(refine' bP.dz ?a ?l ?c ?k;(case a=>k_is);(case l=>k_is);(case c=>k_is);(case k=>k_is)))
  (case h40=>(refine' bP.dz ?a ?l ?c ?k;(case a=>k_is);(case l=>k_is);(case c=>k_is);(case k=>k_is)))
  (case h41=>(refine' bP.dz ?a ?l ?c ?k;(case a=>k_is);(case l=>k_is);(case c=>k_is);(case k=>k_is)))
  (case h42=>(refine' bP.dz ?a ?l ?c ?k;(case a=>k_is);(case l=>k_is);(case c=>k_is);(case k=>k_is)))
  (case h43=>(refine' bP.dz ?a ?l ?c ?k;(case a=>k_is);(case l=>k_is);(case c=>k_is);(case k=>k_is)))
  (case h44=>(refine' bP.dz ?a ?l ?c ?k;(case a=>k_is);(case l=>k_is);(case c=>k_is);(case k=>k_is)))
  (case h45=>(refine' bP.dz ?a ?l ?c ?k;(case a=>k_is);(case l=>k_is);(case c=>k_is);(case k=>k_is)))
  (case h46=>(refine' bP.dz ?a ?l ?c ?k;(case a=>k_is);(case l=>k_is);(case c=>k_is);(case k=>k_is)))
  (case h47=>(refine' bP.dz ?a ?l ?c ?k;(case a=>k_is);(case l=>k_is);(case c=>k_is);(case k=>k_is)))
  (case h48=>(refine' bP.dz ?a ?l ?c ?k;(case a=>k_is);(case l=>k_is);(case c=>k_is);(case k=>k_is)))
