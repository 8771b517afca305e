import PyProof.Rows.All
import Wide.All
import OpenK.AllK
import Wide.FinOn
import Lean
import PyProof.EqAt
import PyProof.EqKinds
import PyProof.TupleCall
import PyProof.NeKinds
import KE.KIsAll
import PyProof.ExcArgsOwn
import KE.RegKIsAll
import KE.RegKTryMore
import PySem.Challenge.RW_nohalfway_k12_sayings_broken
set_option Elab.async false
set_option linter.all false
set_option maxRecDepth 100000
namespace bb
open PySem PySem.Spec PyProof.Rows
noncomputable abbrev Key:=Sum Int Str
noncomputable def qJ:Key→Value→Bool
 | .inl k,v=>Value.isInt k v
 | .inr x,v=>Value.isStrOf x v
noncomputable def O9 (w:World):Key→Int
 | .inl k=>hashInt k
 | .inr x=>hashStr w x
theorem mG:∀{k:Key} {v:Value},qJ k v=true→(∃i t,k=Sum.inl i∧v=Value.int i t)∨(∃x t,k=Sum.inr x∧v=Value.str x t)
 | .inl i,v,h=>by
   obtain ⟨t,e⟩:=Value.isInt_shape (k:=i) (v:=v) h
   exact .inl ⟨i,t,rfl,e⟩
 | .inr x,v,h=>by
   obtain ⟨t,e⟩:=Value.isStrOf_shape (x:=x) (v:=v) h
   exact .inr ⟨x,t,rfl,e⟩
theorem O_ (i:Int) (t:Tok):qJ (.inl i) (.int i t)=true:=by simp [qJ,Value.isInt]
theorem Pa (x:Str) (t:Tok):qJ (.inr x) (.str x t)=true:=by simp [qJ,Value.isStrOf]
theorem Pc (a b:Int):decide ((Sum.inl a:Key)=Sum.inl b)=(a == b):=by
 by_cases e:a=b
 · subst e; simp
 · have h:¬ (Sum.inl a:Key)=Sum.inl b:=fun q=>e (Sum.inl.inj q)
   rw [decide_eq_false h]
   exact (beq_eq_false_iff_ne.mpr e).symm
theorem Pf (a b:Str):decide ((Sum.inr a:Key)=Sum.inr b)=decide (a=b):=by
 by_cases e:a=b
 · subst e; simp
 · have h:¬ (Sum.inr a:Key)=Sum.inr b:=fun q=>e (Sum.inr.inj q)
   rw [decide_eq_false h,decide_eq_false e]
theorem Pd (a:Int) (b:Str):decide ((Sum.inl a:Key)=Sum.inr b)=false:=decide_eq_false (fun q=>nomatch q)
theorem Pe (a:Str) (b:Int):decide ((Sum.inr a:Key)=Sum.inl b)=false:=decide_eq_false (fun q=>nomatch q)
noncomputable def ia (prog:Program) (w:World):PySem.KeyKind prog w Key where
 is:=qJ
 hash:=O9 w
 inj:=fun v a b ha hb=>by
  rcases mG ha with ⟨i,t,rfl,rfl⟩ | ⟨x,t,rfl,rfl⟩
  · rcases mG hb with ⟨j,u,rfl,e⟩ | ⟨y,u,rfl,e⟩
    · injection e with ar _; rw [ar]
    · exact nomatch e
  · rcases mG hb with ⟨j,u,rfl,e⟩ | ⟨y,u,rfl,e⟩
    · exact nomatch e
    · injection e with ar _; rw [ar]
 byValue:=fun k v h=>by
  rcases mG h with ⟨i,t,rfl,rfl⟩ | ⟨x,t,rfl,rfl⟩ <;> rfl
 pyHash:=fun hv h=>by
  rcases mG hv with ⟨i,t,rfl,rfl⟩ | ⟨x,t,rfl,rfl⟩
  · exact wpAny_pyHash_int h
  · exact wpAny_pyHash_str h
 eqBool:=fun hu hv h=>by
  rcases mG hu with ⟨i,t,rfl,rfl⟩ | ⟨x,t,rfl,rfl⟩
  · rcases mG hv with ⟨j,u,rfl,rfl⟩ | ⟨y,u,rfl,rfl⟩
    · rw [Pc] at h; exact wpAny_eqBool_int h
    · rw [Pd] at h; exact SeqAt.EqAt.int_str i t y u _ _ _ _ h
  · rcases mG hv with ⟨j,u,rfl,rfl⟩ | ⟨y,u,rfl,rfl⟩
    · rw [Pe] at h; exact SeqAt.EqAt.str_int x t j u _ _ _ _ h
    · rw [Pf] at h; exact wpAny_eqBool_str h
 «strs» :=fun k x t v h=>by
  rcases mG h with ⟨i,u,rfl,e⟩ | ⟨y,u,rfl,e⟩
  · exact nomatch e
  · injection e with ar _
    subst ar
    cases v <;> rfl
theorem Qj (prog:Program) (w:World) (i:Int) (t:Tok):(ia prog w).is (.inl i) (.int i t)=true:=O_ i t
theorem Qk (prog:Program) (w:World) (x:Str) (t:Tok):(ia prog w).is (.inr x) (.str x t)=true:=Pa x t
end bb
namespace bb
open PySem PySem.Spec PyProof.Rows
inductive V where
 | non | aw (b:Bool) | int (i:Int) | str (x:Str) | lz (b:Array UInt8) | vt (b:UInt64) | ref (a:Addr) | ty (n:String)
 deriving DecidableEq
noncomputable def RelV:V→Value→Prop
 | .non,u=>u=Value.none
 | .aw b,u=>u=Value.bool b
 | .int i,u=>∃t,u=Value.int i t
 | .str x,u=>∃t,u=Value.str x t
 | .lz b,u=>∃t,u=Value.bytes b t
 | .vt b,u=>∃t,u=Value.float b t
 | .ref a,u=>u=Value.ref a
 | .ty n,u=>u=Value.type n
noncomputable abbrev Vals:List V→List Value→Prop:=Paired RelV
theorem Vals.length {xs:List V} {us:List Value} (r:Vals xs us):xs.length=us.length:=Paired.length r
theorem Vals.get:∀{xs:List V} {us:List Value} {i:Nat} {x:V},Vals xs us→xs[i]? =some x→∃u,us[i]? =some u∧RelV x u
 | _,_,_,_,.nil,e=>by simp at e
 | _,_,0,_,.cons r _,e=>by simp at e; subst e; exact ⟨_,rfl,r⟩
 | _,_,i + 1,x,.cons _ t,e=>by
   obtain ⟨u,h1,h2⟩:=Vals.get (i:=i) (x:=x) t (by simpa using e)
   exact ⟨u,by simpa using h1,h2⟩
theorem Vals.set {x:V} {u:Value} (r:RelV x u):∀{xs:List V} {us:List Value} (i:Nat),Vals xs us→Vals (xs.set i x) (us.set i u)
 | _,_,_,.nil=> .nil
 | _,_,0,.cons _ t=> .cons r t
 | _,_,i + 1,.cons q t=> .cons q (Vals.set r i t)
theorem Vals.append:∀{xs ys:List V} {us ws:List Value},Vals xs us→Vals ys ws→Vals (xs ++ ys) (us ++ ws)
 | _,_,_,_,.nil,s=>s
 | _,_,_,_,.cons r t,s=> .cons r (Vals.append t s)
theorem Vals.take:∀{xs:List V} {us:List Value} (n:Nat),Vals xs us→Vals (xs.take n) (us.take n)
 | _,_,0,_=> .nil
 | _,_,_ + 1,.nil=> .nil
 | _,_,n + 1,.cons r t=> .cons r (Vals.take n t)
theorem Vals.drop:∀{xs:List V} {us:List Value} (n:Nat),Vals xs us→Vals (xs.drop n) (us.drop n)
 | _,_,0,r=>r
 | _,_,_ + 1,.nil=> .nil
 | _,_,n + 1,.cons _ t=>Vals.drop n t
noncomputable def g9:Option V→Option Value→Prop
 | some v,some u=>RelV v u
 | none,none=>True
 | _,_=>False
noncomputable def gf {dB:Type}:List (dB×V)→List (dB×Value)→Prop:=Paired fun (p:dB×V) (q:dB×Value)=>p.1=q.1∧RelV p.2 q.2
noncomputable def cX:Key→V
 | .inl i=> .int i
 | .inr x=> .str x
inductive dJ where
 | lst (xs:List V)
 | tup (xs:List V)
 | dg (aX:List (Key×V)) | a0 (aX:List (List Key×V))
 | set (S:Int→Bool) (n:Nat)
 | ins (C a4:Addr) (aW:List (Str×V))
 | own (x:Addr)
 | xw (aW:List (Str×V))
 | met (f x:Addr)
 | wW (lo hi:Int)
 | jA (o:Obj) (u:dJ)
 | oo (aM:Array Value)
 | ext (pW:Heap→Prop)
noncomputable abbrev ao:=Addr→Option dJ
noncomputable def upd (H:ao) (a:Addr) (o:dJ):ao:=fun b=>if b=a then some o else H b
theorem en {H:ao} {a:Addr} {o:dJ}:upd H a o a=some o:=by unfold upd; rw [if_pos rfl]
theorem de {H:ao} {a b:Addr} {o:dJ} (h:b≠a):upd H a o b=H b:=by unfold upd; rw [if_neg h]
theorem Qt {H:ao} {a b:Addr} {o u:dJ} (h:H a=some o) (h':H b=some u) (d:o≠u):a≠b:=by
 intro e; subst e; rw [h] at h'; exact d (Option.some.inj h')
theorem iU {H:ao} {a b:Addr} {o:dJ} (h:H a=some o) (h':H b=none):a≠b:=by
 intro e; subst e; rw [h] at h'; cases h'
section
variable (P:Program) (w:World)
noncomputable def e5 (H:ao) (h:Heap) (a:Addr):dJ→Prop
 | .lst xs=>xs.length≤sizeLine∧∃(its:List Value) (n:Nat),Vals xs its∧h.get? a=some { cls:= .type "list",data:= .seq its.toArray n }
 | .tup xs=>xs.length≤sizeLine∧∃its:List Value,Vals xs its∧IsTup h a its.toArray
 | .dg aX=>aX.length≤sizeLine∧(a == sysModules)=false∧∃vs,gf aX vs∧h.DictOf (ia P w) a vs
 | .a0 aX=>aX.length≤sizeLine∧(a == sysModules)=false∧∃xs:List (List Key×Addr×Value),
     Paired (fun (p:List Key×V) (q:List Key×Addr×Value)=>p.1=q.1∧H q.2.1=some (.tup (p.1.map cX))∧RelV p.2 q.2.2) aX xs∧
     ∃o aq dW,h.get? a=some o∧o.ExactDict∧o.data= .dict aq dW∧aq.toList=xs.map (entryOfKey (tupleKind (ia P w)))∧(xs.map (·.1)).Nodup
 | .set S n=>h.SetOf (intKind P w) a S n
 | .ins C a4 aW=>H a4=some (.own a)∧aW.length≤1000∧a4≠a∧h.get? a=some (PySem.W.instObj C a4)∧
     ∃dR,h.Ns1 a4 dR∧(∀f,g9 (aW.lookup f) (dR f))∧PySem.Within dR (aW.map (·.1))
 | .own _=>∃o,h.get? a=some o
 | .xw aW=>∃dR,h.Ns1 a dR∧∀f,g9 (aW.lookup f) (dR f)
 | .wW lo hi=>∃t u v,h.get? a=some { cls:= .type "range",data:= .fields #[.int lo t,.int hi u,.int 1 v] }
 | .jA o u=>h.get? a=some o∧e5 H h a u
 | .oo aM=>h.get? a=some { cls:= .none,data:= .fields aM }
 | .met f x=>h.get? a=some (PySem.W.methodObj (.ref f) (.ref x))
 | .ext pW=>pW h∧(∃o,h.get? a=some o)∧∀h1 h2:Heap,pW h1→(∀o,h1.get? a=some o→h2.get? a=some o)→pW h2
noncomputable def d2 (H:ao) (h:Heap):Prop:=∀a o,H a=some o→e5 P w H h a o
end
section
variable {P:Program} {w:World} {H H':ao} {h h':Heap} {a:Addr} {o:dJ}
theorem e5.lt (x:e5 P w H h a o):a < h.objs.size:=by
 cases o with
 | lst xs=>obtain ⟨_,_,_,_,e⟩:=x; exact Heap.lt_size e
 | tup xs=>obtain ⟨_,_,_,p⟩:=x; exact p.lt
 | dg aX=>obtain ⟨_,_,_,_,o,_,_,e,_⟩:=x; exact Heap.lt_size e
 | a0 aX=>obtain ⟨_,_,_,_,o,_,_,e,_⟩:=x; exact Heap.lt_size e
 | set S n=>obtain ⟨o,_,_,_,e,_⟩:=x; exact Heap.lt_size e
 | ins C a4 aW=>obtain ⟨_,_,_,e,_⟩:=x; exact Heap.lt_size e
 | own y=>obtain ⟨_,e⟩:=x; exact Heap.lt_size e
 | xw aW=>obtain ⟨_,⟨_,_,_,e,_⟩,_⟩:=x; exact Heap.lt_size e
 | wW lo hi=>obtain ⟨_,_,_,e⟩:=x; exact Heap.lt_size e
 | jA a3 u=>obtain ⟨e,_⟩:=x; exact Heap.lt_size e
 | oo aM=>exact Heap.lt_size (show h.get? a=some _ from x)
 | met f y=>exact Heap.lt_size (show h.get? a=some _ from x)
 | ext pW=>obtain ⟨_,⟨_,e⟩,_⟩:=x; exact Heap.lt_size e
theorem Paired.zR {α β:Type} {F G:α→β→Prop}:∀{l₁:List α} {l₂:List β},Paired F l₁ l₂→(∀a b,F a b→G a b)→Paired G l₁ l₂
 | _,_,.nil,_=> .nil
 | _,_,.cons r t,f=> .cons (f _ _ r) (Paired.zR t f)
theorem e5.k4 (x:e5 P w H h a o) (k:∀b u,(b=a∨H b=some (.own a))→h.get? b=some u→h'.get? b=some u)
  (ho:∀b,H b=some (.own a)→H' b=some (.own a)) (ht:∀b xs,H b=some (.tup xs)→H' b=some (.tup xs)):e5 P w H' h' a o:=by
 induction o with
 | lst xs=>obtain ⟨z,its,n,r,e⟩:=x; exact ⟨z,its,n,r,k _ _ (.inl rfl) e⟩
 | tup xs=>obtain ⟨z,its,r,a3,e,c⟩:=x; exact ⟨z,its,r,a3,k _ _ (.inl rfl) e,c⟩
 | dg aX=>obtain ⟨z,y,vs,r,a3,aq,dW,e,c⟩:=x; exact ⟨z,y,vs,r,a3,aq,dW,k _ _ (.inl rfl) e,c⟩
 | a0 aX=>
   obtain ⟨z,y,xs,r,a3,aq,dW,e,c⟩:=x
   exact ⟨z,y,xs,Paired.zR r fun p q z=>⟨z.1,ht _ _ z.2.1,z.2.2⟩,a3,aq,dW,k _ _ (.inl rfl) e,c⟩
 | set S n=>obtain ⟨a3,aq,dW,t,e,c⟩:=x; exact ⟨a3,aq,dW,t,k _ _ (.inl rfl) e,c⟩
 | ins C a4 aW=>
   obtain ⟨d,z,ne,e,dR,⟨dM,aq,dW,aG,c⟩,r⟩:=x
   exact ⟨ho _ d,z,ne,k _ _ (.inl rfl) e,dR,⟨dM,aq,dW,k _ _ (.inr d) aG,c⟩,r⟩
 | own y=>obtain ⟨a3,e⟩:=x; exact ⟨a3,k _ _ (.inl rfl) e⟩
 | xw aW=>obtain ⟨dR,⟨dM,aq,dW,e,c⟩,r⟩:=x; exact ⟨dR,⟨dM,aq,dW,k _ _ (.inl rfl) e,c⟩,r⟩
 | wW lo hi=>obtain ⟨t,u,v,e⟩:=x; exact ⟨t,u,v,k _ _ (.inl rfl) e⟩
 | jA a3 u c0=>obtain ⟨e,q⟩:=x; exact ⟨k _ _ (.inl rfl) e,c0 q⟩
 | oo aM=>
   have e:h.get? a=some { cls:= .none,data:= .fields aM }:=x
   show h'.get? a=some { cls:= .none,data:= .fields aM }
   exact k a _ (.inl rfl) e
 | met f y=>
   have e:h.get? a=some (PySem.W.methodObj (.ref f) (.ref y)):=x
   show h'.get? a=some (PySem.W.methodObj (.ref f) (.ref y))
   exact k a _ (.inl rfl) e
 | ext pW=>obtain ⟨p,⟨o,e⟩,st⟩:=x; exact ⟨st _ _ p fun o q=>k _ _ (.inl rfl) q,⟨o,k _ _ (.inl rfl) e⟩,st⟩
theorem d2.lt (x:d2 P w H h) (e:H a=some o):a < h.objs.size:=(x a o e).lt
theorem d2.fresh (x:d2 P w H h) (e:h.objs.size≤a):H a=none:=by
 cases q:H a with
 | none=>rfl
 | some u=>exact absurd (Nat.lt_of_lt_of_le (x.lt q) e) (Nat.lt_irrefl _)
theorem d2.kept (x:d2 P w H h) (k:∀b u,h.get? b=some u→h'.get? b=some u):d2 P w H h':=fun a o e=>
 (x a o e).k4 (fun b u _ q=>k b u q) (fun _ q=>q) fun _ _ q=>q
theorem d2.laid (x:d2 P w H h) (k:∀b u,h.get? b=some u→h'.get? b=some u) (hp:h.objs.size≤a) (new:e5 P w (upd H a o) h' a o):d2 P w (upd H a o) h':=fun b u e=>by
 have aC:=x.fresh hp
 by_cases hb:b=a
 · subst hb; rw [en] at e; cases e; exact new
 · rw [de hb] at e
   exact (x b u e).k4 (fun c v _ q=>k c v q) (fun c q=>by rw [de (iU q aC)]; exact q) fun c xs q=>by rw [de (iU q aC)]; exact q
end
noncomputable def gg (H:ao) (a:Addr) (u:dJ):Prop:=H a=some u∨∃o,H a=some (.jA o u)
theorem gg.ok {P:Program} {w:World} {H:ao} {h:Heap} {a:Addr} {u:dJ} (r:gg H a u) (x:d2 P w H h):e5 P w H h a u:=by
 rcases r with r | ⟨o,r⟩
 · exact x a u r
 · obtain ⟨_,q⟩:=x a _ r
   exact q
noncomputable def rI:Option dJ→Prop
 | some (.lst _)=>True
 | some (.dg _)=>True
 | some (.a0 _)=>True
 | some (.set _ _)=>True
 | some (.ins _ _ _)=>True
 | some (.ext _)=>True
 | _=>False
section
variable {P:Program} {w:World} {H:ao} {h h':Heap} {x e:Addr} {b_:dJ}
theorem d2.write (ok:d2 P w H h) (ji:rI (H x)) (he:e=x∨H e=some (.own x)) (k:∀b u,b≠e→h.get? b=some u→h'.get? b=some u) (qB:∃u,h'.get? e=some u)
  (new:e5 P w (upd H x b_) h' x b_):d2 P w (upd H x b_) h':=fun b u q=>by
 have Gb:∀c y,H c=some (.own y)→c≠x:=fun c y r z=>by subst z; rw [r] at ji; exact ji
 have QE:∀c xs,H c=some (.tup xs)→c≠x:=fun c xs r z=>by subst z; rw [r] at ji; exact ji
 by_cases hb:b=x
 · subst hb; rw [en] at q; cases q; exact new
 · rw [de hb] at q
   by_cases o7:b=e
   · have df:H b=some (.own x):=by
      rcases he with z | z
      · exact absurd (o7.trans z) hb
      · rw [o7]; exact z
     rw [q] at df; cases df
     obtain ⟨v,hv⟩:=qB
     exact ⟨v,by rw [o7]; exact hv⟩
   · refine (ok b u q).k4 (fun c v hc r=>k c v ?_ r) (fun c r=>by rw [de (Gb c b r)]; exact r) fun c xs r=>by rw [de (QE c xs r)]; exact r
     rcases hc with rfl | hc
     · exact o7
     · rintro rfl
       rcases he with z | z
       · exact Gb c b hc z
       · rw [hc] at z; cases z; exact hb rfl
end
structure fv (aW ex:List Addr) (H H':ao) (h h':Heap):Prop where
 keep:∀b o,h.get? b=some o→H b=none→b∉aW→b∉ex→h'.get? b=some o
 slot:∀b o,h.get? b=some o→H b=none→b∈aW→b∉ex→∃cB,h'.get? b=some { o with slots:=cB }
 free:∀b o,h.get? b=some o→H b=none→b∉ex→H' b=none
 there:∀b o,h.get? b=some o→b∉ex→∃b_,h'.get? b=some b_
 i6:∀b xs,H b=some (.tup xs)→H' b=some (.tup xs)
 hW:∀b o u,H b=some (.jA o u)→H' b=some (.jA o u)
 i5:∀b aM,H b=some (.oo aM)→∃more,H' b=some (.oo (aM ++ more))
section
variable {aW Ex ex qx:List Addr} {H H1 aT:ao} {h h1 h2 h':Heap} {a x e:Addr} {o:dJ}
theorem fv.any (u:fv aW ex H H1 h h1) {b:Addr} {a3:Obj} (q:h.get? b=some a3) (n:H b=none) (hx:b∉ex):∃cB,h1.get? b=some { a3 with slots:=cB }:=by
 by_cases hb:b∈aW
 · exact u.slot b a3 q n hb hx
 · exact ⟨a3.slots,u.keep b a3 q n hb hx⟩
theorem fv.kept (k:∀b u,h.get? b=some u→h'.get? b=some u):fv aW ex H H h h':=
 ⟨fun b a3 q _ _ _=>k b a3 q,fun b a3 q _ _ _=>⟨a3.slots,k b a3 q⟩,fun _ _ _ n _=>n,fun b a3 q _=>⟨a3,k b a3 q⟩,fun _ _ q=>q,fun _ _ _ q=>q,fun _ aM q=>⟨#[],by rw [q]; simp⟩⟩
theorem fv.refl:fv aW ex H H h h:=fv.kept fun _ _ q=>q
theorem fv.laid (k:∀b u,h.get? b=some u→h'.get? b=some u) (hp:h.objs.size≤a) (aC:H a=none):fv aW ex H (upd H a o) h h' where
 keep:=fun b u q _ _ _=>k b u q
 slot:=fun b u q _ _ _=>⟨u.slots,k b u q⟩
 free:=fun b u q n _=>by rw [de (Nat.ne_of_lt (Nat.lt_of_lt_of_le (Heap.lt_size q) hp))]; exact n
 there:=fun b u q _=>⟨u,k b u q⟩
 i6:=fun b xs q=>by rw [de (iU q aC)]; exact q
 hW:=fun b u xs q=>by rw [de (iU q aC)]; exact q
 i5:=fun b aM q=>⟨#[],by rw [de (iU q aC),q]; simp⟩
theorem fv.write (ji:rI (H x)) (he:e=x∨H e=some (.own x)) (k:∀b u,b≠e→h.get? b=some u→h'.get? b=some u) (qB:∃u,h'.get? e=some u):fv aW ex H (upd H x o) h h':=by
 have hx:∀b,H b=none→b≠x:=fun b n z=>by subst z; rw [n] at ji; exact ji
 have hb:∀b,H b=none→b≠e:=fun b n z=>by
  subst z
  rcases he with r | r
  · exact hx b n r
  · rw [n] at r; cases r
 have hm:∀b u,H b=some u→¬ rI (some u)→b≠x:=fun b u q nm z=>by subst z; rw [q] at ji; exact nm ji
 refine ⟨fun b u q n _ _=>k b u (hb b n) q,fun b u q n _ _=>⟨u.slots,k b u (hb b n) q⟩,fun b u q n _=>by rw [de (hx b n)]; exact n,fun b u q _=>?_,
  fun b xs q=>by rw [de (hm b _ q fun z=>z)]; exact q,fun b u xs q=>by rw [de (hm b _ q fun z=>z)]; exact q,fun b aM q=>⟨#[],by rw [de (hm b _ q fun z=>z),q]; simp⟩⟩
 by_cases o7:b=e
 · subst o7; exact qB
 · exact ⟨u,k b u o7 q⟩
end
noncomputable def xn (h:Heap) (H:ao):List Addr:=(List.range h.objs.size).filter fun a=>(H a).isSome
noncomputable def mD (h:Heap) (H:ao):Heap:=PySem.W.hideAll h (xn h H)
theorem MQ (h:Heap) (H:ao):(mD h H).objs.size=h.objs.size:=PySem.W.hideAll_size _ _
theorem MP {h:Heap} {H:ao} {b:Addr} {o:Obj} (e:h.get? b=some o) (n:H b=none):(mD h H).get? b=some o:=
 PySem.W.hideAll_get _ e fun hm=>by
  have q:(H b).isSome=true:=(List.mem_filter.mp hm).2
  rw [n] at q; simp at q
theorem QR {h:Heap} {H:ao} {b:Addr} {o:Obj} (e:(mD h H).get? b=some o):h.get? b=some o∧H b=none:=by
 have cU:h.get? b=some o:=PySem.W.of_hideAll (xn h H) e
 refine ⟨cU,?_⟩
 cases q:H b with
 | none=>rfl
 | some x=>
   have hm:b∈xn h H:=List.mem_filter.mpr ⟨List.mem_range.mpr (Heap.lt_size cU),by simp [q]⟩
   have z:(mD h H).get? b=none:=PySem.W.hideAll_none (xn h H) hm
   rw [z] at e; cases e
noncomputable def JN (g h:Heap) (L:Addr):List (Addr×Obj):=(List.range h.objs.size).filterMap fun a=>if a=L∨(g.get? a).isSome=true then none else (h.get? a).map fun o=>(a,o)
noncomputable def rest (g h:Heap) (L d:Addr):List (Addr×Obj):=(JN g h L).filter fun p=>decide (p.1≠d)
end bb
namespace bb
open PySem PySem.Spec PyProof.Rows
structure Mod (K:PySem.W.Frag) (mg:Str→Option Value) (base:Heap):Prop where
 mH:K.In base
 glob:base.Ns mainGlobals mg
 blt:∃fm,base.Ns builtinsNs fm∧∀x:Str,x≠"__name__"→fm x=bootBuiltins x
 nolimit:base.NoLimit
structure aL where
 prog:Program
 w:World
 K:PySem.W.Frag
 mg:Str→Option Value
 base:Heap
 A:Around
 N:List Str
 eR:Shared
 oF:ao
 env:Env
 outer:List Env
 stack:List Env
 ex:List Addr
 fn:Str→Bool
 calm:Bool
 n8:List (Addr×Obj)
 xe:Value→Shared→Prop
noncomputable def d4 (l:List Env):List Addr:=l.filterMap (·.frame)
noncomputable abbrev aL.aW (X:aL):List Addr:=d4 X.outer
noncomputable def fE (sc:Scope) (x:Str):Prop:=sc.names.lookup x=some .local∨sc.names.lookup x=some .cell∨sc.names.lookup x=some .free
noncomputable def Loc (sc:Scope) (x:Str):Prop:=sc.names.lookup x=some .local∨sc.names.lookup x=some .cell
noncomputable def Look (env:Env) (h:Heap) (m:Str→Option Value) (x:Str) (u:Value):Prop:=
 (env.kindOf x=some .local∧m x=some u)∨((env.kindOf x=some .cell∨env.kindOf x=some .free)∧∃c,env.cells.lookup x=some c∧h.IsCell c (some u))
structure aL.Ok (X:aL):Prop where
 mod:Mod X.K X.mg X.base
 kind:X.env.scope.kind= .function
 glob:X.env.globals=mainGlobals
 blt:X.env.builtins=builtinsNs
 above:X.eR.heap.objs.size≤X.env.locals
 inj:∀x y c,X.env.cells.lookup x=some c→X.env.cells.lookup y=some c→x=y
 has:∀x,(X.env.kindOf x=some .cell∨X.env.kindOf x=some .free)→∃c,X.env.cells.lookup x=some c
 qo:∀x c,X.fn x=true→X.env.cells.lookup x=some c→X.eR.heap.objs.size≤c
 hd:X.calm=true→X.A.handled=none
 frames:X.A.frames=some X.stack
 tx:X.stack=X.outer∨(X.stack=X.env::X.outer∧X.env.frame=some X.env.locals)
 yM:∀b∈X.ex,b≠X.env.locals∧∀x c,X.env.cells.lookup x=some c→c≠b
 bs:∀b o,X.base.get? b=some o→X.eR.heap.get? b=some o∧X.oF b=none
 mu:X.base.objs.size≤X.eR.heap.objs.size
 n4:∀b o,X.base.get? b=some o→b∉X.ex
 r3:∀b∈X.ex,b∉X.aW
 iI:X.eR.heap.FunFrames X.base X.outer
 nH:∀b∈X.aW,X.oF b=none
structure Inv (X:aL) (pins:List (Addr×Obj)) (σ :List (Option V)) (H:ao) (s:Shared):Prop where
 ok:X.Ok
 os:s.os=X.eR.os
 bare:AllBare s.gens
 base:fv X.aW X.ex X.oF H X.eR.heap s.heap
 loc:∃m,s.heap.Ns X.env.locals m∧∀(i:Nat) (x:Str) (v:V),X.N[i]? =some x→ σ[i]? =some (some v)→fE X.env.scope x→∃u,RelV v u∧Look X.env s.heap m x u
 cell:∀x c,X.env.cells.lookup x=some c→∃v,s.heap.IsCell c v
 free:H X.env.locals=none
 jc:∀x c,X.env.cells.lookup x=some c→H c=none
 pin:∀p∈X.n8 ++ pins,s.heap.get? p.1=some p.2∧H p.1=none∧p.1≠X.env.locals∧p.1∉X.aW∧∀v,p.2.data≠ .cell v
 bB:d2 X.prog X.w H s.heap
 len: σ.length=X.N.length
section
variable {X:aL} {pins:List (Addr×Obj)} {σ :List (Option V)} {H H':ao} {s:Shared} {h':Heap}
theorem aL.Ok.Qz (ok:X.Ok) {b:Addr} {o:Obj} (e:X.base.get? b=some o):b∉X.aW:=fun hb=>by
 have:=(ok.iI.mem hb).1
 rw [e] at this; cases this
theorem Inv.bs (ae:Inv X pins σ H s):∀b o,X.base.get? b=some o→s.heap.get? b=some o∧H b=none:=fun b o e=>
 ⟨ae.base.keep b o (ae.ok.bs b o e).1 (ae.ok.bs b o e).2 (ae.ok.Qz e) (ae.ok.n4 b o e),ae.base.free b o (ae.ok.bs b o e).1 (ae.ok.bs b o e).2 (ae.ok.n4 b o e)⟩
theorem Inv.ee (ae:Inv X pins σ H s):∀b o,X.base.get? b=some o→s.heap.get? b=some o:=fun b o e=>(ae.bs b o e).1
theorem Inv.mod (ae:Inv X pins σ H s):Mod X.K X.mg X.base:=ae.ok.mod
theorem Inv.e_ (ae:Inv X pins σ H s):X.K.In s.heap:=ae.ok.mod.mH.keeps ae.ee
theorem Inv.lt (ae:Inv X pins σ H s):X.env.locals < s.heap.objs.size:=let ⟨_,aC,_⟩:=ae.loc; aC.lt
theorem Inv.xg (ae:Inv X pins σ H s):X.eR.heap.objs.size≤s.heap.objs.size:=Nat.le_trans ae.ok.above (Nat.le_of_lt ae.lt)
theorem Inv.QB (ae:Inv X pins σ H s) {a:Addr} (h:s.heap.objs.size≤a):a∉X.aW:=fun hb=>by
 obtain ⟨_,o,ho,_⟩:=ae.ok.iI.mem hb
 exact absurd (Nat.lt_of_lt_of_le (Heap.lt_size ho) (Nat.le_trans ae.xg h)) (Nat.lt_irrefl _)
theorem Inv.lA (ae:Inv X pins σ H s):∀x c,X.env.cells.lookup x=some c→c≠X.env.locals:=fun x c e z=>by
 obtain ⟨v,o,ho,hd⟩:=ae.cell x c e
 obtain ⟨m,⟨b_,aq,dW,ho',y5,_⟩,_⟩:=ae.loc
 rw [z,ho'] at ho; cases ho; rw [y5] at hd; cases hd
theorem Inv.iI (ae:Inv X pins σ H s):s.heap.FunFrames X.base X.outer:=by
 have all:∀(l:List Env),(∀b∈d4 l,b∈X.aW)→X.eR.heap.FunFrames X.base l→s.heap.FunFrames X.base l:=by
  intro l
  induction l with
  | nil=>intro _ _; trivial
  | cons env r c0=>
    intro hs hl
    obtain ⟨hk,⟨L,o,hf,aC,ho,hd⟩,hr⟩:=hl
    have fk:L∈X.aW:=hs L (by unfold d4; rw [List.filterMap_cons,hf]; exact List.mem_cons_self)
    obtain ⟨cB,e⟩:=ae.base.slot L o ho (ae.ok.nH L fk) fk fun z=>ae.ok.r3 L z fk
    exact ⟨hk,⟨L,_,hf,aC,e,hd⟩,c0 (fun b hb=>hs b (by unfold d4; rw [List.filterMap_cons,hf]; exact List.mem_cons_of_mem _ hb)) hr⟩
 exact all X.outer (fun _ hb=>hb) ae.ok.iI
theorem Inv.stack (ae:Inv X pins σ H s):s.heap.FunFrames X.base X.stack:=by
 rcases ae.ok.tx with e | ⟨e,hf⟩
 · rw [e]; exact ae.iI
 · rw [e]
   obtain ⟨m,aC,_⟩:=ae.loc
   refine .cons (by rw [ae.ok.kind]; decide) hf aC ?_ ae.iI
   exact Heap.get?_none_of_le (Nat.le_trans ae.ok.mu ae.ok.above)
theorem Inv.xc (ae:Inv X pins σ H s):∀b∈d4 X.stack,b∈X.env.locals::X.aW:=fun b hb=>by
 rcases ae.ok.tx with e | ⟨e,hf⟩
 · rw [e] at hb; exact List.mem_cons_of_mem _ hb
 · rw [e] at hb
   unfold d4 at hb
   rw [List.filterMap_cons,hf] at hb
   exact hb
theorem Inv.Bg (ae:Inv X pins σ H s):∀b∈d4 X.stack,H b=none:=fun b hb=>by
 rcases List.mem_cons.mp (ae.xc b hb) with e | hb
 · rw [e]; exact ae.free
 · obtain ⟨_,o,ho,_⟩:=ae.ok.iI.mem hb
   exact ae.base.free b o ho (ae.ok.nH b hb) fun z=>ae.ok.r3 b z hb
theorem Inv.step {g':Array GenState} {t':Nat} {d':Drawn} {ch:List Addr} (ae:Inv X pins σ H s)
  (lH:∀b∈ch,(b∈X.ex∨X.eR.heap.objs.size≤b)∧b≠X.env.locals∧(∀x c,X.env.cells.lookup x=some c→c≠b)∧∀p∈X.n8 ++ pins,p.1≠b)
  (keep:∀b o,b≠X.env.locals→b∉X.aW→b∉ch→s.heap.get? b=some o→H b=none→h'.get? b=some o)
  (slot:∀b o,b≠X.env.locals→b∈X.aW→b∉ch→s.heap.get? b=some o→H b=none→∃cB,h'.get? b=some { o with slots:=cB }) (free:∀b o,b∉ch→s.heap.get? b=some o→H b=none→H' b=none)
  (there:∀b o,b∉ch→s.heap.get? b=some o→∃b_,h'.get? b=some b_)
  (i6:∀b xs,H b=some (.tup xs)→H' b=some (.tup xs)) (hW:∀b o u,H b=some (.jA o u)→H' b=some (.jA o u)) (i5:∀b aM,H b=some (.oo aM)→∃more,H' b=some (.oo (aM ++ more)))
  (ns:∀m,s.heap.Ns X.env.locals m→h'.Ns X.env.locals m) (bB:d2 X.prog X.w H' h') (hg:AllBare g') :
  Inv X pins σ H' { s with heap:=h',gens:=g',drawn:=d',toks:=t' }:=by
 have F6:∀b o,X.eR.heap.get? b=some o→b≠X.env.locals:=fun b o e=>Nat.ne_of_lt (Nat.lt_of_lt_of_le (Heap.lt_size e) ae.ok.above)
 have wx:∀b o,X.eR.heap.get? b=some o→b∉X.ex→b∉ch:=fun b o e hx hb=>by
  rcases (lH b hb).1 with z | z
  · exact hx z
  · exact absurd (Nat.lt_of_lt_of_le (Heap.lt_size e) z) (Nat.lt_irrefl _)
 have cellK:∀x c,X.env.cells.lookup x=some c→∀v,s.heap.IsCell c v→h'.IsCell c v:=fun x c e v ⟨o,ho,hd⟩=>by
  have td:c∉ch:=fun z=>(lH c z).2.2.1 x c e rfl
  by_cases hc:c∈X.aW
  · obtain ⟨cB,q⟩:=slot c o (ae.lA x c e) hc td ho (ae.jc x c e)
    exact ⟨_,q,hd⟩
  · exact ⟨o,keep c o (ae.lA x c e) hc td ho (ae.jc x c e),hd⟩
 refine ⟨ae.ok,ae.os,hg,⟨fun b o e n hb hx=>?_,fun b o e n hb hx=>?_,fun b o e n hx=>?_,fun b o e hx=>?_,fun b xs e=>i6 b xs (ae.base.i6 b xs e),fun b o xs e=>hW b o xs (ae.base.hW b o xs e),fun b aM e=>?_⟩,?_,fun x c e=>?_,?_,fun x c e=>?_,fun p hp=>?_,bB,ae.len⟩
 · exact keep b o (F6 b o e) hb (wx b o e hx) (ae.base.keep b o e n hb hx) (ae.base.free b o e n hx)
 · obtain ⟨cB,ar⟩:=ae.base.slot b o e n hb hx
   obtain ⟨Ui,aG⟩:=slot b _ (F6 b o e) hb (wx b o e hx) ar (ae.base.free b o e n hx)
   exact ⟨Ui,aG⟩
 · obtain ⟨b_,ar⟩:=ae.base.there b o e hx
   exact free b b_ (wx b o e hx) ar (ae.base.free b o e n hx)
 · obtain ⟨b_,ar⟩:=ae.base.there b o e hx
   exact there b b_ (wx b o e hx) ar
 · obtain ⟨m1,ar⟩:=ae.base.i5 b aM e
   obtain ⟨m2,aG⟩:=i5 b _ ar
   exact ⟨m1 ++ m2,by rw [aG,Array.append_assoc]⟩
 · obtain ⟨m,aC,hl⟩:=ae.loc
   refine ⟨m,ns m aC,fun i x v ar aG cM=>?_⟩
   obtain ⟨u,r,l⟩:=hl i x v ar aG cM
   refine ⟨u,r,?_⟩
   rcases l with l | ⟨k,c,e,z⟩
   · exact .inl l
   · exact .inr ⟨k,c,e,cellK x c e _ z⟩
 · obtain ⟨v,z⟩:=ae.cell x c e
   exact ⟨v,cellK x c e v z⟩
 · obtain ⟨m,⟨o,_,_,ho,_⟩,_⟩:=ae.loc
   exact free _ o (fun z=>(lH _ z).2.1 rfl) ho ae.free
 · obtain ⟨v,o,ho,hd⟩:=ae.cell x c e
   exact free c o (fun z=>(lH c z).2.2.1 x c e rfl) ho (ae.jc x c e)
 · obtain ⟨e,n,ne,ic,d⟩:=ae.pin p hp
   have td:p.1∉ch:=fun z=>(lH p.1 z).2.2.2 p hp rfl
   exact ⟨keep p.1 p.2 ne ic td e n,free p.1 p.2 td e n,ne,ic,d⟩
theorem Inv.un {t':Nat} (ae:Inv X pins σ H s) (u:fv X.aW [] H H' s.heap h') (bB:d2 X.prog X.w H' h'):Inv X pins σ H' { s with heap:=h',toks:=t' }:=by
 obtain ⟨m,⟨o,aq,dW,ho,r⟩,_⟩:=id ae.loc
 obtain ⟨cB,fk⟩:=u.any ho ae.free (by simp)
 exact ae.step (g':=s.gens) (d':=s.drawn) (ch:=[]) (fun _ z=>nomatch z) (fun b o _ hb _ e n=>u.keep b o e n hb (by simp)) (fun b o _ hb _ e n=>u.slot b o e n hb (by simp)) (fun b o _ e n=>u.free b o e n (by simp)) (fun b o _ e=>u.there b o e (by simp)) u.i6 u.hW u.i5 (fun eK hm=>by
  obtain ⟨b_,mz,yF,ho',bf⟩:=hm
  rw [ho] at ho'; cases ho'
  exact ⟨_,mz,yF,fk,bf⟩) bB ae.bare
theorem Inv.call {g':Array GenState} {t':Nat} {d':Drawn} {ch:List Addr} (ae:Inv X pins σ H s) (u:fv (d4 X.stack) ch H H' s.heap h') (bB:d2 X.prog X.w H' h') (hg:AllBare g')
  (lH:∀b∈ch,(b∈X.ex∨X.eR.heap.objs.size≤b)∧b≠X.env.locals∧(∀x c,X.env.cells.lookup x=some c→c≠b)∧∀p∈X.n8 ++ pins,p.1≠b) :
  Inv X pins σ H' { s with heap:=h',gens:=g',drawn:=d',toks:=t' }:=by
 obtain ⟨m,⟨o,aq,dW,ho,r⟩,_⟩:=id ae.loc
 obtain ⟨cB,fk⟩:=u.any ho ae.free fun z=>(lH _ z).2.1 rfl
 exact ae.step (ch:=ch) lH (fun b o fk hb hc e n=>u.keep b o e n (fun z=>(List.mem_cons.mp (ae.xc b z)).elim fk hb) hc) (fun b o _ _ hc e n=>u.any e n hc) (fun b o hc e n=>u.free b o e n hc) (fun b o hc e=>u.there b o e hc) u.i6 u.hW u.i5 (fun eK hm=>by
  obtain ⟨b_,mz,yF,ho',bf⟩:=hm
  rw [ho] at ho'; cases ho'
  exact ⟨_,mz,yF,fk,bf⟩) bB hg
theorem Inv.turned {t':Nat} {it:Addr} (ae:Inv X pins σ H s) (k:∀b o,b≠it→s.heap.get? b=some o→h'.get? b=some o) (aC:H it=none) (fk:it≠X.env.locals)
  (h1:it∈X.ex∨X.eR.heap.objs.size≤it) (h2:∀x c,X.env.cells.lookup x=some c→c≠it) (h3:∀p∈X.n8 ++ pins,p.1≠it):Inv X pins σ H { s with heap:=h',toks:=t' }:=by
 have n3:∀b u,H b=some u→b≠it:=fun b u e z=>by rw [z,aC] at e; cases e
 refine ae.step (g':=s.gens) (d':=s.drawn) (ch:=[it]) (fun b hb=>?_) (fun b o _ _ hc e _=>k b o (fun z=>hc (by simp [z])) e) (fun b o _ _ hc e _=>⟨o.slots,k b o (fun z=>hc (by simp [z])) e⟩) (fun _ _ _ _ n=>n)
  (fun b o hc e=>⟨o,k b o (fun z=>hc (by simp [z])) e⟩) (fun _ _ e=>e) (fun _ _ _ e=>e) (fun b aM e=>⟨#[],by rw [e]; simp⟩) (fun m hm=>?_) (fun b u e=>?_) ae.bare
 · have e:b=it:=by simpa using hb
   subst e
   exact ⟨h1,fk,h2,h3⟩
 · obtain ⟨o,aq,dW,ho,r⟩:=hm
   exact ⟨o,aq,dW,k _ o (Ne.symm fk) ho,r⟩
 · refine (ae.bB b u e).k4 (fun c v hc q=>k c v ?_ q) (fun _ q=>q) fun _ _ q=>q
   rcases hc with z | z
   · rw [z]; exact n3 b u e
   · exact n3 c _ z
theorem Inv.tok (ae:Inv X pins σ H s) (t:Nat):Inv X pins σ H { s with toks:=t }:=ae.un (h':=s.heap) (t':=t) fv.refl ae.bB
theorem Inv.kept {t':Nat} (ae:Inv X pins σ H s) (k:∀b u,s.heap.get? b=some u→h'.get? b=some u):Inv X pins σ H { s with heap:=h',toks:=t' }:=ae.un (fv.kept k) (ae.bB.kept k)
theorem Inv.laid {a:Addr} {o:dJ} {t':Nat} (ae:Inv X pins σ H s) (k:∀b u,s.heap.get? b=some u→h'.get? b=some u) (hp:s.heap.objs.size≤a) (new:e5 X.prog X.w (upd H a o) h' a o) :
  Inv X pins σ (upd H a o) { s with heap:=h',toks:=t' }:=ae.un (fv.laid k hp (ae.bB.fresh hp)) (ae.bB.laid k hp new)
theorem Inv.write {x e:Addr} {o:dJ} {t':Nat} (ae:Inv X pins σ H s) (ji:rI (H x)) (he:e=x∨H e=some (.own x)) (k:∀b u,b≠e→s.heap.get? b=some u→h'.get? b=some u) (qB:∃u,h'.get? e=some u)
  (new:e5 X.prog X.w (upd H x o) h' x o):Inv X pins σ (upd H x o) { s with heap:=h',toks:=t' }:=ae.un (fv.write ji he k qB) (ae.bB.write ji he k qB new)
theorem Inv.GQ {GP:List (Addr×Obj)} (ae:Inv X pins σ H s) (h:∀p∈GP,s.heap.get? p.1=some p.2∧H p.1=none∧p.1≠X.env.locals∧p.1∉X.aW∧∀v,p.2.data≠ .cell v):Inv X GP σ H s:=
 ⟨ae.ok,ae.os,ae.bare,ae.base,ae.loc,ae.cell,ae.free,ae.jc,fun p hp=>(List.mem_append.mp hp).elim (fun z=>ae.pin p (List.mem_append_left _ z)) (h p),ae.bB,ae.len⟩
theorem z0 {N:List Str} (hN:N.Nodup) {i j:Nat} {x:Str} (a:N[i]? =some x) (b:N[j]? =some x):i=j:=by
 obtain ⟨h1,ar⟩:=List.getElem?_eq_some_iff.mp a
 obtain ⟨h2,aG⟩:=List.getElem?_eq_some_iff.mp b
 exact (List.getElem_inj hN).mp (ar.trans aG.symm)
theorem HM {M:Model} {A:Around} {E:Value→Shared→Prop} {i:Nat} {x:Str} {v:V} {u:Value} {Q:Unit→Shared→Prop} (ae:Inv X pins σ H s) (hN:X.N.Nodup) (hi:X.N[i]? =some x) (hx:Loc X.env.scope x) (r:RelV v u)
  (h:∀s',Inv X pins (σ.set i (some v)) H s'→(∃a,Heap.SameBut a s.heap s'.heap∧(a=X.env.locals∨X.env.cells.lookup x=some a))→Q () s') (hf:X.fn x=true∨X.env.scope.names.lookup x=some .local:=by first | exact .inl rfl | exact .inr rfl | assumption):wpAny M A (storeName X.env x u) Q E s:=by
 obtain ⟨m,aC,hl⟩:=id ae.loc
 have MF:(X.env.scope.kind == .class || (X.env.scope.kind == .module && X.env.locals != X.env.globals))=false:=by rw [ae.ok.kind]; rfl
 have hiσ :i < σ.length:=by rw [ae.len]; exact (List.getElem?_eq_some_iff.mp hi).1
 have lA:=ae.lA
 have tracked:∀{a:Addr} {h':Heap},(∃o,s.heap.get? a=some o∧H a=none)→Heap.SameBut a s.heap h'→d2 X.prog X.w H h':=fun {a h'} ha hs b a3 e=>by
  obtain ⟨_,_,vI⟩:=ha
  refine (ae.bB b a3 e).k4 (fun c ey hc q=>(hs.2 c ?_).trans q) (fun _ q=>q) fun _ _ q=>q
  rintro rfl
  rcases hc with rfl | hc
  · rw [vI] at e; cases e
  · rw [vI] at hc; cases hc
 rcases hx with hk | hk
 · refine wpAny_storeName_local hk aC (fun h' sr hs=>?_) MF
   obtain ⟨QI,_,_,M3,_⟩:=id aC
   refine h _ ⟨ae.ok,ae.os,ae.bare,⟨fun b o e n hb hx=>?_,fun b o e n hb hx=>?_,ae.base.free,fun b o e hx=>?_,ae.base.i6,ae.base.hW,ae.base.i5⟩,⟨_,sr,fun j y m5 ar aG cM=>?_⟩,fun y c e=>?_,ae.free,ae.jc,fun p hp=>?_,tracked ⟨QI,M3,ae.free⟩ hs,by simpa using ae.len⟩ ⟨_,hs,.inl rfl⟩
   · exact (hs.2 b (Nat.ne_of_lt (Nat.lt_of_lt_of_le (Heap.lt_size e) ae.ok.above))).trans (ae.base.keep b o e n hb hx)
   · obtain ⟨cB,ar⟩:=ae.base.slot b o e n hb hx
     exact ⟨cB,(hs.2 b (Nat.ne_of_lt (Nat.lt_of_lt_of_le (Heap.lt_size e) ae.ok.above))).trans ar⟩
   · obtain ⟨b_,ar⟩:=ae.base.there b o e hx
     exact ⟨b_,(hs.2 b (Nat.ne_of_lt (Nat.lt_of_lt_of_le (Heap.lt_size e) ae.ok.above))).trans ar⟩
   · by_cases dx:j=i
     · subst dx
       rw [hi] at ar; cases ar
       rw [List.getElem?_set_self hiσ] at aG
       cases aG
       exact ⟨u,r,.inl ⟨hk,by simp⟩⟩
     · rw [List.getElem?_set_ne (Ne.symm dx)] at aG
       obtain ⟨ih,bf,q⟩:=hl j y m5 ar aG cM
       refine ⟨ih,bf,?_⟩
       rcases q with ⟨k,e⟩ | ⟨k,c,e,z⟩
       · refine .inl ⟨k,?_⟩
         have:y≠x:=fun e=>dx (z0 hN ar (e ▸ hi))
         simp [this,e]
       · exact .inr ⟨k,c,e,z.sameBut hs (lA y c e)⟩
   · obtain ⟨ey,z⟩:=ae.cell y c e
     exact ⟨ey,z.sameBut hs (lA y c e)⟩
   · obtain ⟨e,n,ne,ic,d⟩:=ae.pin p hp
     exact ⟨(hs.2 p.1 ne).trans e,n,ne,ic,d⟩
 · have y_:X.fn x=true:=by
    rcases hf with z | z
    · exact z
    · rw [z] at hk; cases hk
   obtain ⟨c,hc⟩:=ae.ok.has x (.inl hk)
   obtain ⟨ey,z⟩:=ae.cell x c hc
   refine wpAny_storeName_cell ae.ok.kind hk hc z (fun h' vG hs=>?_)
   obtain ⟨eT,EW,M6⟩:=id z
   refine h { s with heap:=h' } ⟨ae.ok,ae.os,ae.bare,⟨fun b o e n hb hx=>?_,fun b o e n hb hx=>?_,ae.base.free,fun b o e hx=>?_,ae.base.i6,ae.base.hW,ae.base.i5⟩,⟨m,aC.sameBut hs (Ne.symm (lA x c hc)),fun j y m5 ar aG cM=>?_⟩,fun y fZ e=>?_,ae.free,ae.jc,fun p hp=>?_,tracked ⟨eT,EW,ae.jc x c hc⟩ hs,by simpa using ae.len⟩ ⟨c,hs,.inr hc⟩
   · exact (hs.2 b (Nat.ne_of_lt (Nat.lt_of_lt_of_le (Heap.lt_size e) (ae.ok.qo x c y_ hc)))).trans (ae.base.keep b o e n hb hx)
   · obtain ⟨cB,ar⟩:=ae.base.slot b o e n hb hx
     exact ⟨cB,(hs.2 b (Nat.ne_of_lt (Nat.lt_of_lt_of_le (Heap.lt_size e) (ae.ok.qo x c y_ hc)))).trans ar⟩
   · obtain ⟨b_,ar⟩:=ae.base.there b o e hx
     exact ⟨b_,(hs.2 b (Nat.ne_of_lt (Nat.lt_of_lt_of_le (Heap.lt_size e) (ae.ok.qo x c y_ hc)))).trans ar⟩
   · by_cases dx:j=i
     · subst dx
       rw [hi] at ar; cases ar
       rw [List.getElem?_set_self hiσ] at aG
       cases aG
       exact ⟨u,r,.inr ⟨.inl hk,c,hc,vG⟩⟩
     · rw [List.getElem?_set_ne (Ne.symm dx)] at aG
       obtain ⟨ih,bf,q⟩:=hl j y m5 ar aG cM
       refine ⟨ih,bf,?_⟩
       rcases q with q | ⟨k,fZ,e,gz⟩
       · exact .inl q
       · refine .inr ⟨k,fZ,e,gz.sameBut hs ?_⟩
         rintro rfl
         exact dx (z0 hN ar (ae.ok.inj _ _ _ e hc ▸ hi))
   · by_cases vH:fZ=c
     · subst vH; exact ⟨_,vG⟩
     · obtain ⟨m6,bz⟩:=ae.cell y fZ e
       exact ⟨m6,bz.sameBut hs vH⟩
   · obtain ⟨e,n,ne,ic,d⟩:=ae.pin p hp
     refine ⟨(hs.2 p.1 ?_).trans e,n,ne,ic,d⟩
     intro q
     rw [q,EW] at e
     have df:eT=p.2:=Option.some.inj e
     exact d ey (by rw [←df]; exact M6)
theorem Bh {M:Model} {A:Around} {E:Value→Shared→Prop} {i:Nat} {x:Str} {v:V} {u:Value} {Q:Unit→Shared→Prop} (ae:Inv X pins σ H s) (hN:X.N.Nodup) (hi:X.N[i]? =some x) (hx:Loc X.env.scope x) (r:RelV v u)
  (h:∀s',Inv X pins (σ.set i (some v)) H s'→Q () s') (hf:X.fn x=true∨X.env.scope.names.lookup x=some .local:=by first | exact .inl rfl | exact .inr rfl | assumption):wpAny M A (storeName X.env x u) Q E s:=
 HM ae hN hi hx r (fun s' oG _=>h s' oG) hf
theorem Inv.CS {s':Shared} {ch:List Addr} (ae:Inv X pins σ H s) (ho:s'.os=s.os) (u:fv (d4 X.stack) ch H H' s.heap s'.heap) (bB:d2 X.prog X.w H' s'.heap) (hg:AllBare s'.gens)
  (lH:∀b∈ch,(b∈X.ex∨X.eR.heap.objs.size≤b)∧b≠X.env.locals∧(∀x c,X.env.cells.lookup x=some c→c≠b)∧∀p∈X.n8 ++ pins,p.1≠b):Inv X pins σ H' s':=by
 obtain ⟨h',g',d',t',b_⟩:=s'
 have e:b_=s.os:=ho
 subst e
 exact ae.call (g':=g') (t':=t') (d':=d') u bB hg lH
end
noncomputable abbrev c8:=Value→Option Addr→ao→Prop
noncomputable abbrev St:=List (Option V)
noncomputable abbrev cW:=V→ao→Prop
noncomputable abbrev TE:=St→ao→cW→Prop
noncomputable abbrev TT:=St→ao→(Bool→ao→Prop)→Prop
noncomputable abbrev eA:=St→ao→(List V→ao→Prop)→Prop
structure Ends where
 aV:St→ao→Prop
 dN:cW
 ee:St→ao→Prop:=fun _ _=>False
 cL:St→ao→Prop:=fun _ _=>False
noncomputable abbrev eB:=Ends→St→ao→Prop
noncomputable def fS (X:aL) (pins:List (Addr×Obj)) (σ :St) (Q:cW) (u:Value) (s':Shared):Prop:=∃v H',Inv X pins σ H' s'∧RelV v u∧Q v H'
noncomputable def uh (X:aL) (pins:List (Addr×Obj)) (σ :St) (Q:Bool→ao→Prop) (b:Bool) (s':Shared):Prop:=∃H',Inv X pins σ H' s'∧Q b H'
noncomputable def Jj (X:aL) (pins:List (Addr×Obj)) (σ :St) (Q:List V→ao→Prop) (us:List Value) (s':Shared):Prop:=∃vs H',Inv X pins σ H' s'∧Vals vs us∧Q vs H'
noncomputable def oM (X:aL) (pins:List (Addr×Obj)) (D:Ends) (f:Flow) (s':Shared):Prop:=
 match f with
 | .next=>∃ σ' H',Inv X pins σ' H' s'∧D.aV σ' H'
 | .brk=>∃ σ' H',Inv X pins σ' H' s'∧D.ee σ' H'
 | .cont=>∃ σ' H',Inv X pins σ' H' s'∧D.cL σ' H'
 | .ret u=>∃v σ' H',Inv X pins σ' H' s'∧RelV v u∧D.dN v H'
noncomputable def aZ (X:aL) (e:Expr) (t:TE):Prop:=
 ∀(pins:List (Addr×Obj)) (s:Shared) (σ :St) (H:ao) (Q:cW),Inv X pins σ H s→t σ H Q→wpAny (model X.prog X.w) X.A (eval e X.env) (fS X pins σ Q) X.xe s
noncomputable def eO (X:aL) (e:Expr) (t:TT):Prop:=
 ∀(pins:List (Addr×Obj)) (s:Shared) (σ :St) (H:ao) (Q:Bool→ao→Prop),Inv X pins σ H s→t σ H Q→wpAny (model X.prog X.w) X.A (isTrue e X.env (eval e X.env)) (uh X pins σ Q) X.xe s
noncomputable def hR (X:aL) (e:Expr) (t:TT):Prop:=
 ∀(whole:Sem Value) (pins:List (Addr×Obj)) (s:Shared) (σ :St) (H:ao) (Q:Bool→ao→Prop),Inv X pins σ H s→t σ H Q→wpAny (model X.prog X.w) X.A (isTrue e X.env whole) (uh X pins σ Q) X.xe s
theorem hR.pt {X:aL} {e:Expr} {t:TT} (h:hR X e t):eO X e t:=h _
noncomputable def eN (X:aL) (aq:List Expr) (t:eA):Prop:=
 ∀(pos:Pos) (pins:List (Addr×Obj)) (s:Shared) (σ :St) (H:ao) (Q:List V→ao→Prop),Inv X pins σ H s→t σ H Q→wpAny (model X.prog X.w) X.A (spliced (backTo pos (starEach aq X.env))) (Jj X pins σ Q) X.xe s
noncomputable def dj (X:aL) (st:Stmt) (t:eB):Prop:=
 ∀(pins:List (Addr×Obj)) (s:Shared) (σ :St) (H:ao) (D:Ends),Inv X pins σ H s→t D σ H→wpAny (model X.prog X.w) X.A (exec st X.env) (oM X pins D) X.xe s
noncomputable def fu (X:aL) (st:List Stmt) (t:eB):Prop:=
 ∀(pins:List (Addr×Obj)) (s:Shared) (σ :St) (H:ao) (D:Ends),Inv X pins σ H s→t D σ H→wpAny (model X.prog X.w) X.A (execs st X.env) (oM X pins D) X.xe s
theorem bL {α:Type} {t:Sem α} {Q mm:α→Shared→Prop} {M:Model} {A:Around} {E:Value→Shared→Prop} {s:Shared} (h:wpAny M A t Q E s) (gX:∀a s,Q a s→mm a s):wpAny M A t mm E s:=wpAny_mono h gX fun _ _ x=>x
end bb
namespace bb
open PySem PySem.Spec PyProof.Rows
section
variable {X:aL}
theorem bin {a b:Expr} {cb tb:TE} (ha:aZ X a cb) (hb:aZ X b tb) {pins:List (Addr×Obj)} {s:Shared} {σ :St} {H:ao} {R:V→V→ao→Prop} (ae:Inv X pins σ H s) (h:cb σ H fun x H1=>tb σ H1 fun y aT=>R x y aT)
  {α:Type} {Q:α→Shared→Prop} {f:Value→Value→Sem α}
  (hf:∀v u s2 x y aT,Inv X pins σ aT s2→RelV x v→RelV y u→R x y aT→wpAny (model X.prog X.w) X.A (f v u) Q X.xe s2) :
  wpAny (model X.prog X.w) X.A (eval a X.env) (fun v c7=>wpAny (model X.prog X.w) X.A (eval b X.env) (fun u jR=>wpAny (model X.prog X.w) X.A (f v u) Q X.xe jR) X.xe c7) X.xe s:=by
 refine bL (ha pins s σ H _ ae h) fun v s1 ⟨x,H1,aR,av,a7⟩=>?_
 refine bL (hb pins s1 σ H1 _ aR a7) fun u s2 ⟨y,aT,cv,bl,bX⟩=>?_
 exact hf v u s2 x y aT cv av bl bX
noncomputable def Bs (i:Nat):TE:=fun σ H Q=>∃v,σ[i]? =some (some v)∧Q v H
noncomputable def om (v:V):TE:=fun _ H Q=>Q v H
theorem lR {i:Nat} {x:Str} {pos:Pos} (hN:X.N[i]? =some x) (hv:fE X.env.scope x) (hd:(x == ("__debug__" :Str))=false:=by decide) (hcd:(x == ("__classdict__" :Str))=false:=by decide):aZ X (.Name x pos) (Bs i):=by
 intro pins s σ H Q ae h
 obtain ⟨v,e,h⟩:=h
 obtain ⟨m,aC,hl⟩:=ae.loc
 obtain ⟨u,r,l⟩:=hl i x v hN e hv
 have fin:fS X pins σ Q u s:=⟨v,H,ae,r,h⟩
 rcases l with ⟨hk,hm⟩ | ⟨hk,c,hc,EM⟩
 · exact wpAny_Name (wpAny_loadName_local ae.ok.kind hk aC hm fin) hd
 · rcases hk with hk | hk
   · exact wpAny_Name (wpAny_loadName_cell ae.ok.kind hk hc EM fin) hd
   · exact wpAny_Name (wpAny_loadName_free ae.ok.kind hk hc EM fin hcd) hd
theorem RO {i j pos}:aZ X (.Constant (.int i) j pos) (om (.int i)):=fun _ _ _ H _ ae h=>wpAny_Constant_int ⟨.int i,H,ae.tok _,⟨_,rfl⟩,h⟩
theorem RE {b j pos}:aZ X (.Constant (.bool b) j pos) (om (.aw b)):=fun _ _ _ H _ ae h=>Constant_bool ⟨.aw b,H,ae,rfl,h⟩
theorem RS {j pos}:aZ X (.Constant .none j pos) (om .non):=fun _ _ _ H _ ae h=>Constant_none ⟨.non,H,ae,rfl,h⟩
theorem GJ {x j pos}:aZ X (.Constant (.str x) j pos) (om (.str x)):=fun _ _ _ H _ ae h=>Calls.Constant_str ⟨.str x,H,ae.tok _,⟨_,rfl⟩,h⟩
noncomputable def cN (X:aL) (x:Str):Prop:=X.env.kindOf x=some .globalImplicit
theorem qM {E:Value→Shared→Prop} {pins:List (Addr×Obj)} {s:Shared} {σ :St} {H:ao} {x:Str} {u:Value} {pos:Pos} {Q:Value→Shared→Prop} (ae:Inv X pins σ H s) (hg:cN X x) (hm:X.mg x=some u) (h:Q u s)
  (hd:(x == ("__debug__" :Str))=false:=by decide):wpAny (model X.prog X.w) X.A (eval (.Name x pos) X.env) Q E s:=
 Calls.Name_function_global ae.ok.kind hg (Calls.loadGlobal_global (by rw [ae.ok.glob]; exact ae.mod.glob.keeps ae.ee) hm h) hd
theorem pe {E:Value→Shared→Prop} {pins:List (Addr×Obj)} {s:Shared} {σ :St} {H:ao} {x:Str} {u:Value} {pos:Pos} {Q:Value→Shared→Prop} (ae:Inv X pins σ H s) (hg:cN X x) (hm:X.mg x=none) (hv:bootBuiltins x=some u) (h:Q u s)
  (aC:x≠"__name__":=by decide) (hd:(x == ("__debug__" :Str))=false:=by decide):wpAny (model X.prog X.w) X.A (eval (.Name x pos) X.env) Q E s:=by
 obtain ⟨fm,h1,h2⟩:=ae.mod.blt
 exact Calls.Name_function_global ae.ok.kind hg (Calls.loadGlobal_builtin (by rw [ae.ok.glob]; exact ae.mod.glob.keeps ae.ee) hm (by rw [ae.ok.blt]; exact h1.keeps ae.ee) ((h2 x aC).trans hv) h) hd
theorem GG {x:Str} {v:V} {u:Value} {pos:Pos} (hg:cN X x) (hm:X.mg x=some u) (r:RelV v u) (hd:(x == ("__debug__" :Str))=false:=by decide):aZ X (.Name x pos) (om v):=
 fun _ _ _ H _ ae h=>qM ae hg hm ⟨v,H,ae,r,h⟩ hd
theorem GC {x:Str} {v:V} {u:Value} {pos:Pos} (hg:cN X x) (hm:X.mg x=none) (hv:bootBuiltins x=some u) (r:RelV v u) (aC:x≠"__name__":=by decide) (hd:(x == ("__debug__" :Str))=false:=by decide):aZ X (.Name x pos) (om v):=
 fun _ _ _ H _ ae h=>pe ae hg hm hv ⟨v,H,ae,r,h⟩ aC hd
variable {a b:Expr} {cb tb:TE} {pos:Pos}
noncomputable def ue (X:aL) (op:CmpOp) (a b:Expr) (t:TE):Prop:=
 ∀(pins:List (Addr×Obj)) (s:Shared) (σ :St) (H:ao) (Q:cW),Inv X pins σ H s→t σ H Q→
  wpAny (model X.prog X.w) X.A (eval a X.env) (fun v c7=>wpAny (model X.prog X.w) X.A (eval b X.env) (fun u jR=>wpAny (model X.prog X.w) X.A (compareOp op v u) (fS X pins σ Q) X.xe jR) X.xe c7) X.xe s
theorem F9 (b:Expr) {op:CmpOp} (h:op≠ .In) (h2:op≠ .NotIn):behindInMarks op b=false:=by
 have ar:(op == CmpOp.In)=false:=by cases op <;> first | rfl | exact absurd rfl h
 have aG:(op == CmpOp.NotIn)=false:=by cases op <;> first | rfl | exact absurd rfl h2
 cases b <;> simp [behindInMarks,ar,aG]
noncomputable def Bj (t:TE):TT:=fun σ H Q=>t σ H fun x H1=>∃c,x= .aw c∧Q c H1
theorem GF {op:CmpOp} {t:TE} (h:ue X op a b t) (h1:behindInMarks op b=false:=by first | exact F9 _ (by decide) (by decide) | rfl):aZ X (.Compare a [op] [b] pos) t:=fun pins s σ H Q ae hw=>wpAny_Compare1 (h pins s σ H Q ae hw) h1
theorem GZ {op:CmpOp} {t:TE} (h:ue X op a b t) (h1:behindInMarks op b=false:=by first | exact F9 _ (by decide) (by decide) | rfl):eO X (.Compare a [op] [b] pos) (Bj t):=by
 intro pins s σ H Q ae hw
 refine wpAny_isTrue_Compare1 (bL (h pins s σ H _ ae hw) fun v s1 h1=>bL h1 fun u s2 h2=>bL h2 fun c s3 ⟨x,H1,aR,av,a7⟩=>?_) h1
 obtain ⟨d,rfl,q⟩:=a7
 cases av
 exact wpAny_truthy_bool ⟨H1,aR,q⟩
theorem So {e:Expr} {t:TE} (h:aZ X e t) (he:∀whole,isTrue e X.env whole=(do let v ←whole; standAt e.pos; holding [v] (truthy v)):=by intro _; rfl):eO X e (Bj t):=by
 intro pins s σ H Q ae hw
 refine isTrue_plain (bL (h pins s σ H _ ae hw) fun v s1 ⟨x,H1,aR,av,a7⟩=>?_) (he _)
 obtain ⟨d,rfl,q⟩:=a7
 cases av
 exact wpAny_truthy_bool ⟨H1,aR,q⟩
variable {d8 xi:TT} {rest:List Expr}
noncomputable def HS (t u:TT):TT:=fun σ H Q=>t σ H fun c H1=>if c=true then u σ H1 Q else Q false H1
noncomputable def H7 (t u:TT):TT:=fun σ H Q=>t σ H fun c H1=>if c=true then Q true H1 else u σ H1 Q
noncomputable def H5 (t:TT):TT:=fun σ H Q=>t σ H fun c H1=>Q (!c) H1
theorem Su (ha:eO X a d8):hR X (.BoolOp .And [a] pos) d8:=by
 intro l0 pins s σ H Q ae h
 refine isTrue_and (bL (ha pins s σ H Q ae h) fun c s1 e=>?_)
 cases c with
 | true=>exact isTrue_and_nil e
 | false=>exact e
theorem Sw (ha:eO X a d8):hR X (.BoolOp .Or [a] pos) d8:=by
 intro l0 pins s σ H Q ae h
 refine isTrue_or (bL (ha pins s σ H Q ae h) fun c s1 e=>?_)
 cases c with
 | false=>exact isTrue_or_nil e
 | true=>exact e
theorem Ss (ha:eO X a d8) (hb:hR X (.BoolOp .And (b::rest) pos) xi):hR X (.BoolOp .And (a::b::rest) pos) (HS d8 xi):=by
 intro l0 pins s σ H Q ae h
 refine isTrue_and (bL (ha pins s σ H _ ae h) fun c s1 ⟨H1,aR,a7⟩=>?_)
 cases c with
 | true=>exact hb l0 pins s1 σ H1 Q aR a7
 | false=>exact ⟨H1,aR,a7⟩
theorem Sv (ha:eO X a d8) (hb:hR X (.BoolOp .Or (b::rest) pos) xi):hR X (.BoolOp .Or (a::b::rest) pos) (H7 d8 xi):=by
 intro l0 pins s σ H Q ae h
 refine isTrue_or (bL (ha pins s σ H _ ae h) fun c s1 ⟨H1,aR,a7⟩=>?_)
 cases c with
 | true=>exact ⟨H1,aR,a7⟩
 | false=>exact hb l0 pins s1 σ H1 Q aR a7
theorem Sn (ha:eO X a d8):eO X (.UnaryOp .Not a pos) (H5 d8):=by
 intro pins s σ H Q ae h
 exact isTrue_not (ha pins s σ H (fun c H1=>Q (!c) H1) ae h)
noncomputable def HT (cb tb:TE):TE:=fun σ H Q=>cb σ H fun x H1=>∃c,x= .aw c∧if c=true then tb σ H1 Q else Q (.aw false) H1
noncomputable def H8 (cb tb:TE):TE:=fun σ H Q=>cb σ H fun x H1=>∃c,x= .aw c∧if c=true then Q (.aw true) H1 else tb σ H1 Q
noncomputable def H6 (cb:TE):TE:=fun σ H Q=>cb σ H fun x H1=>∃c,x= .aw c∧Q (.aw (!c)) H1
theorem RU {op} {t:TE} (h:aZ X a t):aZ X (.BoolOp op [a] pos) t:=fun pins s σ H Q ae hw=>BoolOp_one (h pins s σ H Q ae hw)
theorem RD (ha:aZ X a cb) (hb:aZ X (.BoolOp .And (b::rest) pos) tb):aZ X (.BoolOp .And (a::b::rest) pos) (HT cb tb):=by
 intro pins s σ H Q ae h
 refine BoolOp_and (bL (ha pins s σ H _ ae h) fun v s1 ⟨x,H1,aR,av,a7⟩=>?_)
 obtain ⟨c,rfl,a7⟩:=a7
 cases av
 refine wpAny_truthy_bool ?_
 cases c with
 | true=>exact hb pins s1 σ H1 Q aR a7
 | false=>exact ⟨.aw false,H1,aR,rfl,a7⟩
theorem RV (ha:aZ X a cb) (hb:aZ X (.BoolOp .Or (b::rest) pos) tb):aZ X (.BoolOp .Or (a::b::rest) pos) (H8 cb tb):=by
 intro pins s σ H Q ae h
 refine BoolOp_or (bL (ha pins s σ H _ ae h) fun v s1 ⟨x,H1,aR,av,a7⟩=>?_)
 obtain ⟨c,rfl,a7⟩:=a7
 cases av
 refine wpAny_truthy_bool ?_
 cases c with
 | false=>exact hb pins s1 σ H1 Q aR a7
 | true=>exact ⟨.aw true,H1,aR,rfl,a7⟩
theorem RT (ha:aZ X a cb):aZ X (.UnaryOp .Not a pos) (H6 cb):=by
 intro pins s σ H Q ae h
 refine UnaryOp_ (bL (ha pins s σ H _ ae h) fun v s1 ⟨x,H1,aR,av,a7⟩=>?_)
 obtain ⟨c,rfl,a7⟩:=a7
 cases av
 exact not_of (wpAny_truthy_bool ⟨.aw (!c),H1,aR,rfl,a7⟩)
noncomputable def HZ (t:TT) (cb tb:TE):TE:=fun σ H Q=>t σ H fun c H1=>if c=true then cb σ H1 Q else tb σ H1 Q
theorem RN {c:Expr} (hc:eO X c d8) (ha:aZ X a cb) (hb:aZ X b tb):aZ X (.IfExp c a b pos) (HZ d8 cb tb):=by
 intro pins s σ H Q ae h
 refine wpAny_IfExp (bL (hc pins s σ H _ ae h) fun d s1 ⟨H1,aR,a7⟩=>?_)
 cases d with
 | true=>exact ha pins s1 σ H1 Q aR a7
 | false=>exact hb pins s1 σ H1 Q aR a7
end
end bb
namespace bb
open PySem PySem.Spec PyProof.Rows
noncomputable def b4 (K:PySem.W.Frag) (H:ao) (a:Addr) (xs:List V):Prop:=
 gg H a (.lst xs)∨
  ∃(o:Obj) (its:Array Value) (n:Nat),K.lookup a=some o∧o.cls= .type "list"∧o.dict=none∧o.data= .seq its n∧its.size≤sizeLine∧Vals xs its.toList
noncomputable def cK (K:PySem.W.Frag) (H:ao) (a:Addr) (xs:List V):Prop:=
 gg H a (.tup xs)∨
  ∃(o:Obj) (its:Array Value) (n:Nat),K.lookup a=some o∧o.cls= .type "tuple"∧o.data= .seq its n∧its.size≤sizeLine∧Vals xs its.toList
noncomputable def JJ:Value→Option V
 | .none=>some .non
 | .bool b=>some (.aw b)
 | .int i _=>some (.int i)
 | .str x _=>some (.str x)
 | .bytes b _=>some (.lz b)
 | .float b _=>some (.vt b)
 | .ref a=>some (.ref a)
 | .type n=>some (.ty n)
 | _=>none
theorem RelV.abs {x:V} {u:Value} (r:RelV x u):JJ u=some x:=by
 cases x with
 | non=>cases r; rfl
 | aw _=>cases r; rfl
 | int _=>obtain ⟨t,rfl⟩:=r; rfl
 | str _=>obtain ⟨t,rfl⟩:=r; rfl
 | lz _=>obtain ⟨t,rfl⟩:=r; rfl
 | vt _=>obtain ⟨t,rfl⟩:=r; rfl
 | ref _=>cases r; rfl
 | ty _=>cases r; rfl
theorem RelV.inj {x y:V} {u:Value} (r:RelV x u) (q:RelV y u):x=y:=Option.some.inj (r.abs.symm.trans q.abs)
theorem Vals.inj:∀{xs ys:List V} {us:List Value},Vals xs us→Vals ys us→xs=ys
 | _,_,_,.nil,.nil=>rfl
 | _,_,_,.cons r t,.cons bf t'=>by rw [r.inj bf,Vals.inj t t']
section
variable {X:aL} {pins:List (Addr×Obj)} {σ :St} {H:ao} {s:Shared} {a:Addr} {xs ys:List V}
theorem b4.of {K:PySem.W.Frag} (h:H a=some (.lst xs)):b4 K H a xs:= .inl (.inl h)
theorem cK.of {K:PySem.W.Frag} (h:H a=some (.tup xs)):cK K H a xs:= .inl (.inl h)
theorem Inv.list (ae:Inv X pins σ H s) (h:b4 X.K H a xs):∃its:List Value,Vals xs its∧PlainL s.heap a its.toArray∧xs.length≤sizeLine:=by
 rcases h with h | ⟨o,its,n,hk,hc,hd,hs,br,r⟩
 · obtain ⟨z,its,n,r,e⟩:=h.ok ae.bB
   exact ⟨its,r,⟨_,n,e,rfl,rfl,rfl⟩,z⟩
 · refine ⟨its.toList,r,⟨o,n,ae.e_ a o hk,hc,hd,by simpa using hs⟩,?_⟩
   have e:=r.length
   simp only [Array.length_toList] at e
   omega
theorem Inv.tuple (ae:Inv X pins σ H s) (h:cK X.K H a xs):∃its:List Value,Vals xs its∧IsTup s.heap a its.toArray∧xs.length≤sizeLine:=by
 rcases h with h | ⟨o,its,n,hk,hc,hs,br,r⟩
 · obtain ⟨z,its,r,p⟩:=h.ok ae.bB
   exact ⟨its,r,p,z⟩
 · refine ⟨its.toList,r,⟨o,ae.e_ a o hk,hc,n,by simpa using hs⟩,?_⟩
   have e:=r.length
   simp only [Array.length_toList] at e
   omega
theorem Inv.zH (ae:Inv X pins σ H s) (h:b4 X.K H a xs) (h':b4 X.K H a ys):xs=ys:=by
 obtain ⟨its,r,⟨o,n,e,_,_,d⟩,_⟩:=ae.list h
 obtain ⟨its',bf,⟨b_,kR,cU,_,_,d'⟩,_⟩:=ae.list h'
 rw [e] at cU; cases cU
 rw [d] at d'
 injection d' with d1 _
 have:its=its':=by simpa using congrArg Array.toList d1
 subst this
 exact r.inj bf
theorem Inv.Bw (ae:Inv X pins σ H s) (h:cK X.K H a xs) (h':cK X.K H a ys):xs=ys:=by
 obtain ⟨its,r,⟨o,e,_,n,d⟩,_⟩:=ae.tuple h
 obtain ⟨its',bf,⟨b_,cU,_,kR,d'⟩,_⟩:=ae.tuple h'
 rw [e] at cU; cases cU
 rw [d] at d'
 injection d' with d1 _
 have:its=its':=by simpa using congrArg Array.toList d1
 subst this
 exact r.inj bf
end
noncomputable abbrev aL.jl (X:aL) (E:Value→Shared→Prop):aL:={ X with xe:=E }
noncomputable abbrev aL.gL (X:aL):aL:=X.jl fun _ _=>False
theorem aL.Ok.jl {X:aL} (ok:X.Ok) (E:Value→Shared→Prop):(X.jl E).Ok:=
 ⟨ok.mod,ok.kind,ok.glob,ok.blt,ok.above,ok.inj,ok.has,ok.qo,ok.hd,ok.frames,ok.tx,ok.yM,ok.bs,ok.mu,ok.n4,ok.r3,ok.iI,ok.nH⟩
theorem aL.Ok.ij {X:aL} {E:Value→Shared→Prop} (ok:(X.jl E).Ok):X.Ok:=
 ⟨ok.mod,ok.kind,ok.glob,ok.blt,ok.above,ok.inj,ok.has,ok.qo,ok.hd,ok.frames,ok.tx,ok.yM,ok.bs,ok.mu,ok.n4,ok.r3,ok.iI,ok.nH⟩
section
variable {X:aL} {pins:List (Addr×Obj)} {σ :St} {H:ao} {s:Shared} {E:Value→Shared→Prop}
theorem Inv.jl (ae:Inv X pins σ H s) (E:Value→Shared→Prop):Inv (X.jl E) pins σ H s:=⟨ae.ok.jl E,ae.os,ae.bare,ae.base,ae.loc,ae.cell,ae.free,ae.jc,ae.pin,ae.bB,ae.len⟩
theorem Inv.ij (ae:Inv (X.jl E) pins σ H s):Inv X pins σ H s:=⟨ae.ok.ij,ae.os,ae.bare,ae.base,ae.loc,ae.cell,ae.free,ae.jc,ae.pin,ae.bB,ae.len⟩
theorem oM.ij {D:Ends} {f:Flow} {s':Shared} (h:oM (X.jl E) pins D f s'):oM X pins D f s':=by
 cases f with
 | next=>obtain ⟨σ',H',ae,q⟩:=h; exact ⟨σ',H',ae.ij,q⟩
 | brk=>obtain ⟨σ',H',ae,q⟩:=h; exact ⟨σ',H',ae.ij,q⟩
 | cont=>obtain ⟨σ',H',ae,q⟩:=h; exact ⟨σ',H',ae.ij,q⟩
 | ret u=>obtain ⟨v,σ',H',ae,r,q⟩:=h; exact ⟨v,σ',H',ae.ij,r,q⟩
theorem fu.gL {st:List Stmt} {t:eB} (h:fu X.gL st t):fu X st t:=fun pins s σ H D ae hw=>
 wpAny_mono (h pins s σ H D (ae.jl _) hw) (fun _ _ q=>q.ij) fun _ _ z=>False.elim z
end
section
variable {X:aL} {st:Stmt} {rest:List Stmt} {t u:eB} {e:Expr} {te:TE} {pos:Pos}
noncomputable def Bn:eB:=fun D σ H=>D.aV σ H
noncomputable def Bp (t u:eB):eB:=fun D σ H=>t { D with aV:=u D } σ H
theorem GY:fu X [] Bn:=fun _ _ σ H _ ae h=>wpAny_execs_nil ⟨σ,H,ae,h⟩
theorem GX (h1:dj X st t) (h2:fu X rest u):fu X (st::rest) (Bp t u):=by
 intro pins s σ H D ae h
 refine wpAny_execs_cons (bL (h1 pins s σ H { D with aV:=u D } ae h) fun f s1 q=>?_)
 cases f with
 | next=>
   obtain ⟨σ',H',oG,q⟩:=q
   exact h2 pins s1 σ' H' D oG q
 | ret v=>exact q
 | brk=>exact q
 | cont=>exact q
theorem z_ (h1:dj X st t):fu X [st] t:=by
 intro pins s σ H D ae h
 refine wpAny_execs_cons (bL (h1 pins s σ H D ae h) fun f s1 q=>?_)
 cases f with
 | next=>exact wpAny_execs_nil q
 | ret v=>exact q
 | brk=>exact q
 | cont=>exact q
theorem Inv.quiet {pins:List (Addr×Obj)} {σ :St} {H:ao} {s:Shared} (ae:Inv X pins σ H s):interactive X.env=false:=by simp [interactive,ae.ok.kind]
noncomputable def Bl (te:TE):eB:=fun D σ H=>te σ H fun _ H1=>D.aV σ H1
theorem wR (he:aZ X e te) (hs:swapsWith e none pos.line X.env=pure false:=by rfl):dj X (.Expr e pos) (Bl te):=by
 intro pins s σ H D ae h
 exact wpAny_Expr_any (bL (he pins s σ H _ ae h) fun v s1 ⟨x,H1,aR,av,a7⟩=>⟨σ,H1,aR,a7⟩) ae.quiet hs
noncomputable def xl (te:TE):eB:=fun D σ H=>te σ H D.dN
theorem wU (he:aZ X e te):dj X (.Return (some e) pos) (xl te):=by
 intro pins s σ H D ae h
 exact wpAny_Return_some (bL (he pins s σ H _ ae h) fun v s1 ⟨x,H1,aR,av,a7⟩=>⟨x,σ,H1,aR,av,a7⟩)
noncomputable def Bm (c:TT) (t u:eB):eB:=fun D σ H=>c σ H fun b H1=>if b=true then t D σ H1 else u D σ H1
theorem GV {c:Expr} {a b:List Stmt} {fM:TT} (hc:eO X c fM) (ha:fu X a t) (hb:fu X b u):dj X (.If c a b pos) (Bm fM t u):=by
 intro pins s σ H D ae h
 refine wpAny_If (bL (hc pins s σ H _ ae h) fun d s1 ⟨H1,aR,a7⟩=>?_)
 cases d with
 | true=>exact ha pins s1 σ H1 D aR a7
 | false=>exact hb pins s1 σ H1 D aR a7
noncomputable def H4:eB:=fun _ _ _=>False
theorem GW:dj X st H4:=fun _ _ _ _ _ _ h=>h.elim
end
noncomputable abbrev hS:=V→St→ao→(St→ao→Prop)→Prop
noncomputable abbrev lp:=List V→St→ao→(St→ao→Prop)→Prop
noncomputable def jt (X:aL) (target:Expr) (t:hS):Prop:=
 ∀(pins:List (Addr×Obj)) (s:Shared) (σ :St) (H:ao) (v:V) (u:Value) (Q:St→ao→Prop),Inv X pins σ H s→RelV v u→t v σ H Q→
  wpAny (model X.prog X.w) X.A (assign target X.env u) (fun _ s'=>∃ σ' H',Inv X pins σ' H' s'∧Q σ' H') X.xe s
noncomputable def rK (X:aL) (ts:List Expr) (t:lp):Prop:=
 ∀(pins:List (Addr×Obj)) (s:Shared) (σ :St) (H:ao) (vs:List V) (us:List Value) (Q:St→ao→Prop),Inv X pins σ H s→Vals vs us→t vs σ H Q→
  wpAny (model X.prog X.w) X.A (assignInOrder ((assignEach ts X.env).map (·.2)) us) (fun _ s'=>∃ σ' H',Inv X pins σ' H' s'∧Q σ' H') X.xe s
section
variable {X:aL} {pos:Pos}
noncomputable def jB (i:Nat):hS:=fun v σ H Q=>Q (σ.set i (some v)) H
theorem wO {i:Nat} {x:Str} (hN:X.N.Nodup) (hi:X.N[i]? =some x) (hx:Loc X.env.scope x) (hf:X.fn x=true∨X.env.scope.names.lookup x=some .local:=by first | exact .inl rfl | exact .inr rfl | assumption):jt X (.Name x pos) (jB i):=by
 intro pins s σ H v u Q ae r h
 exact wpAny_assign_Name (Bh ae hN hi hx r (fun s' oG=>⟨_,H,oG,h⟩) hf)
noncomputable def vw:lp:=fun vs σ H Q=>vs=[]∧Q σ H
noncomputable def sd (t:hS) (u:lp):lp:=fun vs σ H Q=>∃v r,vs=v::r∧t v σ H fun σ' H'=>u r σ' H' Q
theorem GN:rK X [] vw:=by
 intro pins s σ H vs us Q ae r h
 obtain ⟨e,h⟩:=h
 subst e
 cases r
 exact assignInOrder_nil ⟨σ,H,ae,h⟩
theorem z8 {e:Expr} {aq:List Expr} {t:hS} {u:lp} (h1:jt X e t) (h2:rK X aq u)
  (hs:(assignEach (e::aq) X.env).map (·.2)=assign e X.env::(assignEach aq X.env).map (·.2):=by rfl):rK X (e::aq) (sd t u):=by
 intro pins s σ H vs us Q ae r h
 obtain ⟨v,xv,ar,h⟩:=h
 subst ar
 cases r with
 | cons r pJ=>
   rw [hs]
   refine assignInOrder_cons (bL (h1 pins s σ H _ _ _ ae r h) fun _ s1 ⟨σ1,H1,aR,a7⟩=>?_)
   exact h2 pins s1 σ1 H1 _ _ Q aR pJ a7
noncomputable def vx (K:PySem.W.Frag) (n:Nat) (t:lp):hS:=fun v σ H Q=>∃a xs,v= .ref a∧cK K H a xs∧xs.length=n∧t xs σ H Q
theorem GL {aq:List Expr} {k:Nat} {t:lp} {n:Nat} (hc:X.calm=true) (h:rK X aq t)
  (aC:(assignEach aq X.env).length=n:=by rfl) (hst:(assignEach aq X.env).findIdx? (·.1)=none:=by rfl):jt X (.Tuple aq k pos) (vx X.K n t):=by
 intro pins s σ H v u Q ae r hw
 obtain ⟨a,xs,ar,aO,hl,hw⟩:=hw
 subst ar
 cases r
 obtain ⟨its,cq,ht,br⟩:=ae.tuple aO
 refine assign_Tuple_tuple (ae.ok.hd hc) ht (by simp [aC,←hl,cq.length]) hst fun h' hx=>?_
 have aR:Inv X pins σ H { s with heap:=h' }:=ae.kept (t':=s.toks) fun b o e=>hx b o (Nat.ne_of_lt (Heap.lt_size e)) e
 exact h pins _ σ H xs _ Q aR (by simpa using cq) hw
noncomputable def oj (te:TE) (g:hS):eB:=fun D σ H=>te σ H fun x H1=>g x σ H1 D.aV
theorem Sd {bq e:Expr} {te:TE} {g:hS} (he:aZ X e te) (hg:jt X bq g) (hs:swapsWithSole [bq] e pos.line X.env=pure false:=by rfl) (hw:swappedStores [bq] e X.env=pure none:=by rfl)
  (h1:(assignEach [bq] X.env).map (·.2)=[assign bq X.env]:=by rfl):dj X (.Assign [bq] e pos) (oj te g):=by
 intro pins s σ H D ae h
 refine wpAny_Assign_stores (bL (he pins s σ H _ ae h) fun v s1 ⟨x,H1,aR,av,a7⟩=>?_) hs hw
 rw [h1]
 exact bL (hg pins s1 σ H1 x v _ aR av a7) fun _ s2 q=>q
theorem wV {i:Nat} {x:Str} {e:Expr} {te:TE} {pos':Pos} (hN:X.N.Nodup) (hi:X.N[i]? =some x) (hx:Loc X.env.scope x) (he:aZ X e te) (hs:swapsWith e (some (.Name x pos')) pos.line X.env=pure false:=by rfl) (hf:X.fn x=true∨X.env.scope.names.lookup x=some .local:=by first | exact .inl rfl | exact .inr rfl | assumption) :
  dj X (.Assign [.Name x pos'] e pos) (oj te (jB i)):=by
 intro pins s σ H D ae h
 refine wpAny_Assign_Name (bL (he pins s σ H _ ae h) fun v s1 ⟨y,H1,aR,av,a7⟩=>?_) hs
 exact Bh aR hN hi hx av (fun s2 cv=>⟨_,H1,cv,a7⟩) hf
end
section
variable {X:aL} {pos:Pos}
noncomputable def Ia (c:TT) (tb:eB):eB:=fun D σ H=>∃W:Nat→St→ao→Prop,(∃m,W m σ H)∧∀m σ H,W m σ H→
 c σ H fun b H1=>if b=true then ∃N:St→ao→Prop,(∀ σ' H',N σ' H'→∃eK,eK < m∧W eK σ' H')∧tb { D with aV:=N,cL:=N,ee:=D.aV } σ H1 else D.aV σ H1
theorem Sk {c:Expr} {body:List Stmt} {fM:TT} {tb:eB} (hp:PassesOwn (model X.prog X.w) X.A X.env X.xe) (hc:eO X c fM) (hb:fu X body tb):dj X (.While c body [] pos) (Ia fM tb):=by
 intro pins s σ H D ae h
 obtain ⟨W,⟨m0,k7⟩,turn⟩:=h
 refine wpAny_While (codeAny_whileLoop (fun n s'=>∃ σ' H',Inv X pins σ' H' s'∧W n σ' H') ?_ m0 ⟨σ,H,ae,k7⟩)
 rintro n s1 ⟨σ1,H1,aR,pO⟩
 refine wpAny_passesOwn hp (bL (hc pins s1 σ1 H1 _ aR (turn n σ1 H1 pO)) fun b s2 ⟨aT,cv,bX⟩=>?_)
 cases b with
 | true=>
   obtain ⟨N,hN,bX⟩:=bX
   rw [if_pos rfl]
   refine wpAny_passesOwn hp (bL (hb pins s2 σ1 aT _ cv bX) fun f s3 eU=>?_)
   cases f with
   | next=>
     obtain ⟨σ3,di,d0,kS⟩:=eU
     obtain ⟨eK,hm,pP⟩:=hN σ3 di kS
     exact ⟨eK,hm,σ3,di,d0,pP⟩
   | cont=>
     obtain ⟨σ3,di,d0,kS⟩:=eU
     obtain ⟨eK,hm,pP⟩:=hN σ3 di kS
     exact ⟨eK,hm,σ3,di,d0,pP⟩
   | brk=>exact eU
   | ret v=>exact eU
 | false=>
   rw [if_neg Bool.false_ne_true]
   exact wpAny_execs_nil ⟨σ1,aT,cv,bX⟩
end
structure It where
 go:Nat→ao→Prop
 jn:Nat→ao→V→ao→Prop
 stop:Nat→ao→Prop
noncomputable def i7 (X:aL) (pins:List (Addr×Obj)) (H:ao) (b:Addr):Prop:=
 H b=none∧b≠X.env.locals∧b∉X.aW∧(b∈X.ex∨X.eR.heap.objs.size≤b)∧(∀x c,X.env.cells.lookup x=some c→c≠b)∧∀p∈X.n8 ++ pins,p.1≠b
theorem Inv.nG {X:aL} {pins:List (Addr×Obj)} {σ :St} {H H':ao} {s:Shared} {b:Addr} (ae:Inv X pins σ H s) (hb:s.heap.objs.size≤b) (aC:H' b=none):i7 X pins H' b:=by
 refine ⟨aC,Nat.ne_of_gt (Nat.lt_of_lt_of_le ae.lt hb),ae.QB hb,.inr (Nat.le_trans ae.xg hb),fun x c e z=>?_,fun p hp z=>?_⟩
 · obtain ⟨v,q⟩:=ae.cell x c e
   exact absurd (Nat.lt_of_lt_of_le q.lt (by rw [z]; exact hb)) (Nat.lt_irrefl _)
 · exact absurd (Nat.lt_of_lt_of_le (Heap.lt_size (ae.pin p hp).1) (by rw [z]; exact hb)) (Nat.lt_irrefl _)
structure Turn (P:Program) (w:World) (K:PySem.W.Frag) (bq:Expr) (bJ:It) (a6:List Addr) (it:Addr) (gw:Nat→Heap→Prop):Prop where
 mem:it∈a6
 obj:∀i h,gw i h→∀b∈a6,∃o,h.get? b=some o∧∀v,o.data≠ .cell v
 keep:∀i h h',gw i h→(∀b∈a6,∀o,h.get? b=some o→h'.get? b=some o)→gw i h'
 item:∀(X:aL),X.prog=P→X.w=w→X.K=K→X.calm=true→∀(i:Nat) (pins:List (Addr×Obj)) (s:Shared) (σ :St) (H:ao) (E:Value→Shared→Prop),Inv X pins σ H s→(∀b∈a6,i7 X pins H b)→gw i s.heap→bJ.go i H→
  wpAny (model P w) X.A (pyNext (.ref it)) (fun r s1=>∃u,r=some u∧
   wpAny (model P w) X.A (letOwnedTupleGo bq (.ref it) u) (fun _ s2=>∃x H',Inv X pins σ H' s2∧RelV x u∧bJ.jn i H x H'∧gw (i + 1) s2.heap∧∀b∈a6,H' b=none) E s1) E s
 done:∀(X:aL),X.prog=P→X.w=w→X.K=K→X.calm=true→∀(i:Nat) (pins:List (Addr×Obj)) (s:Shared) (σ :St) (H:ao) (E:Value→Shared→Prop),Inv X pins σ H s→(∀b∈a6,i7 X pins H b)→gw i s.heap→bJ.stop i H→
  wpAny (model P w) X.A (pyNext (.ref it)) (fun r s1=>r=none∧Inv X pins σ H s1) E s
 self:∀(A:Around) (i:Nat) (s:Shared) (Q:Value→Shared→Prop) (E:Value→Shared→Prop),gw i s.heap→Q (.ref it) s→wpAny (model P w) A (pyIter (.ref it)) Q E s
noncomputable abbrev TI:=St→ao→(It→ao→Prop)→Prop
noncomputable def B8 (X:aL) (pins:List (Addr×Obj)) (σ :St) (bq:Expr) (R:It→ao→Prop) (vV:Value) (s2:Shared):Prop:=
 ∃(it:Addr) (a6:List Addr) (gw:Nat→Heap→Prop) (bJ:It) (H':ao),vV= .ref it∧Inv X pins σ H' s2∧Turn X.prog X.w X.K bq bJ a6 it gw∧gw 0 s2.heap∧(∀b∈a6,i7 X pins H' b)∧R bJ H'
noncomputable def fW (X:aL) (bq iter:Expr) (ik:TI):Prop:=
 ∀(pins:List (Addr×Obj)) (s:Shared) (σ :St) (H:ao) (R:It→ao→Prop),Inv X pins σ H s→ik σ H R→
  wpAny (model X.prog X.w) X.A (eval iter X.env) (fun v s1=>wpAny (model X.prog X.w) X.A (pyIter v) (B8 X pins σ bq R) X.xe s1) X.xe s
theorem vA {M:Model} {A:Around} {E:Value→Shared→Prop} {s:Shared} {bq:Expr} {it:Addr} {u:Value} {o:Obj} {n:String} {vs:Array Value} {Q:Unit→Shared→Prop} (ho:s.heap.get? it=some o) (hc:o.cls= .type n) (hd:o.data= .fields vs)
  (aC:["enumerate","zip","dict_itemiterator","dict_reverseitemiterator","odict_iterator","itertools.zip_longest","itertools.pairwise"].contains n=false) (gX:Q () s):wpAny M A (letOwnedTupleGo bq (.ref it) u) Q E s:=by
 unfold letOwnedTupleGo
 cases bq <;> first
  | exact wpAny_pure gX
  | (cases u <;> first
      | exact wpAny_pure gX
      | (refine wpAny_bind (wpAny_load ho ?_)
         rw [hc,hd]
         show wpAny M A (if (["enumerate","zip","dict_itemiterator","dict_reverseitemiterator","odict_iterator","itertools.zip_longest","itertools.pairwise"].contains n && vs[0]? == some (rawInt _))=true then _ else _) Q E s
         rw [if_neg (by intro h; rw [aC,Bool.false_and] at h; cases h)]
         exact wpAny_pure gX))
noncomputable def xV (K:PySem.W.Frag) (a:Addr):It:=
 ⟨fun i H=>∃xs x,b4 K H a xs∧xs[i]? =some x,fun i H x H'=>H'=H∧∀xs,b4 K H a xs→xs[i]? =some x,fun i H=>∃xs,b4 K H a xs∧xs.length≤i⟩
noncomputable def xX (K:PySem.W.Frag) (a:Addr):It:=
 ⟨fun i H=>∃xs x,cK K H a xs∧xs[i]? =some x,fun i H x H'=>H'=H∧∀xs,cK K H a xs→xs[i]? =some x,fun i H=>∃xs,cK K H a xs∧xs.length≤i⟩
noncomputable def rG (lo:Int) (n:Nat):It:=⟨fun i _=>i < n,fun i H x H'=>H'=H∧x= .int (lo + i),fun i _=>n≤i⟩
theorem Vk {P:Program} {w:World} {K:PySem.W.Frag} {bq:Expr} (a it:Addr):Turn P w K bq (xV K a) [it] it (fun i h=>h.IsListIter it a i) where
 mem:=by simp
 obj:=fun i h st b hb=>by
  have e:b=it:=by simpa using hb
  subst e
  obtain ⟨o,e,c,d⟩:=st
  exact ⟨o,e,fun v z=>by rw [d] at z; cases z⟩
 keep:=fun i h h' st k=>st.at fun o e=>k it (by simp) o e
 item:=by
  intro X eh hw hK hc i pins s σ H E ae hf st hg
  subst eh hw hK
  obtain ⟨xs,x,aO,hx⟩:=hg
  obtain ⟨its,cq,p,br⟩:=ae.list aO
  obtain ⟨u,hu,ej⟩:=cq.get hx
  obtain ⟨f0,f1,f2,eY,f4,gI⟩:=hf it (by simp)
  refine wpAny_pyNext_list_item st p.isList (x:=u) (by simpa using hu) fun h' kZ kX=>?_
  have aR:Inv X pins σ H { s with heap:=h' }:=ae.turned (t':=s.toks) (fun b o hb e=>(kX.2 b hb).trans e) f0 f1 eY f4 gI
  obtain ⟨o,e,c,d⟩:=id kZ
  exact ⟨u,rfl,vA (s:={ s with heap:=h' }) e c d (by decide) ⟨x,H,aR,ej,⟨rfl,fun ys b5=>by rw [ae.zH b5 aO]; exact hx⟩,kZ,fun b hb=>(hf b hb).1⟩⟩
 done:=by
  intro X eh hw hK hc i pins s σ H E ae hf st hg
  subst eh hw hK
  obtain ⟨xs,aO,hx⟩:=hg
  obtain ⟨its,cq,p,br⟩:=ae.list aO
  obtain ⟨f0,f1,f2,eY,f4,gI⟩:=hf it (by simp)
  have hl:=cq.length
  exact wpAny_pyNext_list_end (ae.ok.hd hc) st p.isList (by simp; omega) fun h' bE=>⟨rfl,ae.turned (t':=s.toks) (fun b o hb e=>bE b o hb e) f0 f1 eY f4 gI⟩
 self:=fun _ _ _ _ _ st h=>wpAny_pyIter_listiter st h
theorem Vn {P:Program} {w:World} {K:PySem.W.Frag} {bq:Expr} (a it:Addr):Turn P w K bq (xX K a) [it] it (fun i h=>h.IsTupleIter it a i) where
 mem:=by simp
 obj:=fun i h st b hb=>by
  have e:b=it:=by simpa using hb
  subst e
  obtain ⟨o,e,c,d⟩:=st
  exact ⟨o,e,fun v z=>by rw [d] at z; cases z⟩
 keep:=fun i h h' st k=>st.at fun o e=>k it (by simp) o e
 item:=by
  intro X eh hw hK hc i pins s σ H E ae hf st hg
  subst eh hw hK
  obtain ⟨xs,x,aO,hx⟩:=hg
  obtain ⟨its,cq,p,br⟩:=ae.tuple aO
  obtain ⟨u,hu,ej⟩:=cq.get hx
  obtain ⟨f0,f1,f2,eY,f4,gI⟩:=hf it (by simp)
  refine wpAny_pyNext_tuple_item st (show s.heap.IsTuple a its.toArray from p) (x:=u) (by simpa using hu) fun h' kZ kX=>?_
  have aR:Inv X pins σ H { s with heap:=h' }:=ae.turned (t':=s.toks) (fun b o hb e=>(kX.2 b hb).trans e) f0 f1 eY f4 gI
  obtain ⟨o,e,c,d⟩:=id kZ
  exact ⟨u,rfl,vA (s:={ s with heap:=h' }) e c d (by decide) ⟨x,H,aR,ej,⟨rfl,fun ys b5=>by rw [ae.Bw b5 aO]; exact hx⟩,kZ,fun b hb=>(hf b hb).1⟩⟩
 done:=by
  intro X eh hw hK hc i pins s σ H E ae hf st hg
  subst eh hw hK
  obtain ⟨xs,aO,hx⟩:=hg
  obtain ⟨its,cq,p,br⟩:=ae.tuple aO
  obtain ⟨f0,f1,f2,eY,f4,gI⟩:=hf it (by simp)
  have hl:=cq.length
  exact wpAny_pyNext_tuple_end (ae.ok.hd hc) st (show s.heap.IsTuple a its.toArray from p) (by simp; omega) fun h' bE=>⟨rfl,ae.turned (t':=s.toks) (fun b o hb e=>bE b o hb e) f0 f1 eY f4 gI⟩
 self:=fun _ _ _ _ _ st h=>wpAny_pyIter_tupleiter st h
theorem Vl {P:Program} {w:World} {K:PySem.W.Frag} {bq:Expr} (it:Addr) (lo:Int) (n:Nat):Turn P w K bq (rG lo n) [it] it (fun i h=>IsRangeIter h it (lo + (i:Nat) * 1) ((n:Int) - (i:Nat)) 1) where
 mem:=by simp
 obj:=fun i h st b hb=>by
  have e:b=it:=by simpa using hb
  subst e
  exact ⟨_,st,fun v z=>by
   have gz:Data.fields _=Data.cell v:=z
   cases gz⟩
 keep:=fun i h h' st k=>k it (by simp) _ st
 item:=by
  intro X eh hw hK hc i pins s σ H E ae hf st hg
  subst eh hw hK
  obtain ⟨f0,f1,f2,eY,f4,gI⟩:=hf it (by simp)
  have W:=Walks.range (prog:=X.prog) (w:=X.w) (ae.ok.hd hc) it lo 1 n
  refine W.item i s _ _ hg st fun v h' du hv kZ cp=>?_
  obtain ⟨t,rfl⟩:=hv
  have aR:Inv X pins σ H { s with heap:=h',toks:=du }:=ae.turned (fun b o hb e=>cp b o (by simpa using hb) e) f0 f1 eY f4 gI
  refine ⟨_,rfl,vA (s:={ s with heap:=h',toks:=du }) (n:="range_iterator") kZ rfl rfl (by decide) ⟨.int (lo + i),H,aR,⟨t,?_⟩,⟨rfl,rfl⟩,kZ,fun b hb=>(hf b hb).1⟩⟩
  rw [Int.mul_one]
 done:=by
  intro X eh hw hK hc i pins s σ H E ae hf st hg
  subst eh hw hK
  obtain ⟨f0,f1,f2,eY,f4,gI⟩:=hf it (by simp)
  exact wpAny_pyNext_range_end (ae.ok.hd hc) st (by have:n≤i:=hg; omega) fun h' bE=>⟨rfl,ae.turned (t':=s.toks) (fun b o hb e=>bE b o hb e) f0 f1 eY f4 gI⟩
 self:=fun _ _ _ _ _ st h=>wpAny_pyIter_rangeiter st h
end bb
namespace bb
open PySem PySem.Spec PyProof.Rows
section
variable {X:aL} {bq:Expr}
noncomputable def E4 (K:PySem.W.Frag) (gM:TE):TI:=fun σ H R=>gM σ H fun x H1=>∃a,x= .ref a∧(∃xs,b4 K H1 a xs)∧R (xV K a) H1
noncomputable def E8 (K:PySem.W.Frag) (gM:TE):TI:=fun σ H R=>gM σ H fun x H1=>∃a,x= .ref a∧(∃xs,cK K H1 a xs)∧R (xX K a) H1
theorem R0 {l:Expr} {gM:TE} (hl:aZ X l gM):fW X bq l (E4 X.K gM):=by
 intro pins s σ H R ae h
 refine bL (hl pins s σ H _ ae h) fun v s1 ⟨x,H1,aR,av,a7⟩=>?_
 obtain ⟨a,e,⟨xs,aO⟩,q⟩:=a7
 subst e
 cases av
 obtain ⟨its,cq,p,br⟩:=aR.list aO
 refine wpAny_pyIter_list p.isList ?_
 refine ⟨s1.heap.objs.size,[s1.heap.objs.size],_,_,H1,rfl,aR.kept (t':=s1.toks) fun b o e=>Heap.get?_push_of_some _ e,Vk a _,⟨_,Heap.get?_push_size _ rfl,rfl,rfl⟩,fun b hb=>?_,q⟩
 have e:b=s1.heap.objs.size:=by simpa using hb
 subst e
 exact aR.nG (Nat.le_refl _) (aR.bB.fresh (Nat.le_refl _))
theorem R4 {l:Expr} {gM:TE} (hl:aZ X l gM):fW X bq l (E8 X.K gM):=by
 intro pins s σ H R ae h
 refine bL (hl pins s σ H _ ae h) fun v s1 ⟨x,H1,aR,av,a7⟩=>?_
 obtain ⟨a,e,⟨xs,aO⟩,q⟩:=a7
 subst e
 cases av
 obtain ⟨its,cq,p,br⟩:=aR.tuple aO
 refine wpAny_pyIter_tuple (show s1.heap.IsTuple a its.toArray from p) ?_
 refine ⟨s1.heap.objs.size,[s1.heap.objs.size],_,_,H1,rfl,aR.kept (t':=s1.toks) fun b o e=>Heap.get?_push_of_some _ e,Vn a _,⟨_,Heap.get?_push_size _ rfl,rfl,rfl⟩,fun b hb=>?_,q⟩
 have e:b=s1.heap.objs.size:=by simpa using hb
 subst e
 exact aR.nG (Nat.le_refl _) (aR.bB.fresh (Nat.le_refl _))
theorem Hc {pins:List (Addr×Obj)} {σ :St} {H:ao} {s:Shared} {R:It→ao→Prop} {E:Value→Shared→Prop} {lo hi:Int} {t u v:Tok} {du:Nat} (ae:Inv X pins σ H s) (h1: -(2 ^ 62)≤lo) (h2:lo < 2 ^ 62) (h3: -(2 ^ 62)≤hi) (h4:hi < 2 ^ 62)
  (q:R (rG lo (hi - lo).toNat) H):wpAny (model X.prog X.w) X.A (pyIter (.ref s.heap.objs.size)) (B8 X pins σ bq R) E { s with heap:=s.heap.push { cls:= .type "range",data:= .fields #[.int lo t,.int hi u,.int 1 v] },toks:=du }:=by
 refine wpAny_pyIter_range (IsRange.new ..) (small_one h1 h2 h3 h4) ?_
 have aR:Inv X pins σ H { s with heap:=s.heap.push { cls:= .type "range",data:= .fields #[.int lo t,.int hi u,.int 1 v] },toks:=du }:=ae.kept fun b o e=>Heap.get?_push_of_some _ e
 refine ⟨(s.heap.push { cls:= .type "range",data:= .fields #[.int lo t,.int hi u,.int 1 v] }).objs.size,[(s.heap.push { cls:= .type "range",data:= .fields #[.int lo t,.int hi u,.int 1 v] }).objs.size],_,_,H,rfl,
  aR.kept (t':=du) fun b o e=>Heap.get?_push_of_some _ e,Vl _ lo (hi - lo).toNat,?_,fun b hb=>?_,q⟩
 · have ar:lo + ((0:Nat):Int) * 1=lo:=by simp
   have aG:(((hi - lo).toNat:Nat):Int) - ((0:Nat):Int)=Builtin.Range.rangeSize lo hi 1:=by rw [rangeSize_one]; split <;> omega
   show IsRangeIter _ _ (lo + ((0:Nat):Int) * 1) ((((hi - lo).toNat:Nat):Int) - ((0:Nat):Int)) 1
   rw [ar,aG]
   exact Heap.get?_push_size _ rfl
 · have e:b=(s.heap.push { cls:= .type "range",data:= .fields #[.int lo t,.int hi u,.int 1 v] }).objs.size:=by simpa using hb
   subst e
   exact aR.nG (Nat.le_refl _) (aR.bB.fresh (Nat.le_refl _))
noncomputable def E5 (cb:eA):TI:=fun σ H R=>cb σ H fun vs H1=>∃j:Int,vs=[.int j]∧ -(2 ^ 62)≤j∧j < 2 ^ 62∧R (rG 0 j.toNat) H1
noncomputable def E6 (cb:eA):TI:=fun σ H R=>cb σ H fun vs H1=>∃i j:Int,vs=[.int i,.int j]∧(-(2 ^ 62)≤i∧i < 2 ^ 62∧ -(2 ^ 62)≤j∧j < 2 ^ 62)∧R (rG i (j - i).toNat) H1
theorem R1 {a:Expr} {cb:eA} {p pos:Pos} (hg:cN X "range") (hm:X.mg "range"=none) (ha:eN X [a] cb) (hs:starEach [a] X.env=[(false,eval a X.env)]:=by rfl):fW X bq (.Call (.Name "range" p) [a] [] pos) (E5 cb):=by
 intro pins s σ H R ae h
 refine Call_ (pe ae hg hm boot_range (PyProof.Rows.callWith_type1 (bL (ha pos pins s σ H _ ae h) fun us s1 ⟨vs,H1,aR,av,a7⟩=>?_) hs rfl))
 obtain ⟨j,e,a7,bX,q⟩:=a7
 subst e
 cases av with
 | cons r pJ=>
   cases pJ
   obtain ⟨t,rfl⟩:=r
   exact call_range_1 (Hc aR (by omega) (by omega) a7 bX (by simpa using q))
theorem R2 {a b:Expr} {cb:eA} {p pos:Pos} (hg:cN X "range") (hm:X.mg "range"=none) (ha:eN X [a,b] cb) (hs:starEach [a,b] X.env=[(false,eval a X.env),(false,eval b X.env)]:=by rfl) (hs2:starEach [b] X.env=[(false,eval b X.env)]:=by rfl) :
  fW X bq (.Call (.Name "range" p) [a,b] [] pos) (E6 cb):=by
 intro pins s σ H R ae h
 refine Call_ (pe ae hg hm boot_range (PyProof.Rows.callWith_type1 (bL (ha pos pins s σ H _ ae h) fun us s1 ⟨vs,H1,aR,av,a7⟩=>?_) (by rw [hs,hs2]) (by rw [hs2]; rfl)))
 obtain ⟨i,j,e,⟨a7,bX,eU,tm⟩,q⟩:=a7
 subst e
 cases av with
 | cons r pJ=>
   cases pJ with
   | cons bf pJ=>
     cases pJ
     obtain ⟨t,rfl⟩:=r
     obtain ⟨t',rfl⟩:=bf
     exact call_range_2 (Hc aR a7 bX eU tm q)
noncomputable def HY (ik:TI) (g:hS) (tb:eB):eB:=fun D σ H=>ik σ H fun bJ H1=>∃W:Nat→Nat→St→ao→Prop,(∃m,W 0 m σ H1)∧∀i m σ H,W i m σ H→
 (bJ.stop i H∧D.aV σ H)∨(bJ.go i H∧∃N:St→ao→Prop,(∀ σ' H',N σ' H'→∃eK,eK < m∧W (i + 1) eK σ' H')∧∀x H',bJ.jn i H x H'→g x σ H' fun σ2 aT=>tb { D with aV:=N,cL:=N,ee:=D.aV } σ2 aT)
noncomputable def tl (a6:List Addr) (h:Heap):List (Addr×Obj):=a6.filterMap fun b=>(h.get? b).map fun o=>(b,o)
theorem wq {a6:List Addr} {h:Heap} {b:Addr} {o:Obj} (hb:b∈a6) (e:h.get? b=some o):(b,o)∈tl a6 h:=List.mem_filterMap.mpr ⟨b,hb,by rw [e]; rfl⟩
theorem QT {a6:List Addr} {h:Heap} {p:Addr×Obj} (hp:p∈tl a6 h):p.1∈a6∧h.get? p.1=some p.2:=by
 obtain ⟨b,hb,e⟩:=List.mem_filterMap.mp hp
 cases q:h.get? b with
 | none=>rw [q] at e; cases e
 | some o=>
   rw [q] at e
   have cU:(b,o)=p:=Option.some.inj e
   subst cU
   exact ⟨hb,q⟩
theorem Inv.pinned {pins:List (Addr×Obj)} {σ :St} {H:ao} {s:Shared} {a6:List Addr} (ae:Inv X pins σ H s) (hf:∀b∈a6,i7 X pins H b) (ho:∀b∈a6,∃o,s.heap.get? b=some o∧∀v,o.data≠ .cell v):Inv X (pins ++ tl a6 s.heap) σ H s:=
 ae.GQ fun p hp=>(List.mem_append.mp hp).elim (fun z=>ae.pin p (List.mem_append_right _ z)) fun z=>by
    obtain ⟨hb,e⟩:=QT z
    obtain ⟨f0,f1,f2,_⟩:=hf p.1 hb
    obtain ⟨o,cU,d⟩:=ho p.1 hb
    rw [e] at cU; cases cU
    exact ⟨e,f0,f1,f2,d⟩
theorem Inv.xr {pins pl:List (Addr×Obj)} {σ :St} {H:ao} {s:Shared} (ae:Inv X (pins ++ pl) σ H s):Inv X pins σ H s:=ae.GQ fun p hp=>ae.pin p (List.mem_append_right _ (List.mem_append_left _ hp))
theorem Sh {iter:Expr} {body:List Stmt} {ik:TI} {g:hS} {tb:eB} {pos:Pos} (hp:PassesOwn (model X.prog X.w) X.A X.env X.xe) (hc:X.calm=true) (hi:fW X bq iter ik) (hg:jt X bq g) (hb:fu X body tb)
  (hs:∀x,foldedSetIterable iter X.env x=pure x:=by intro _; rfl):dj X (.For bq iter body [] pos) (HY ik g tb):=by
 intro pins s σ H D ae h
 refine wpAny_For (bL (hi pins s σ H _ ae h) fun v s1 h1=>bL h1 fun vV s2 h2=>?_) hs
 obtain ⟨it,a6,gw,bJ,aT,e,cv,T,km,f2,W,⟨m0,k7⟩,turn⟩:=h2
 subst e
 have stat:∀{H':ao},(∀b∈a6,H' b=none)→∀b∈a6,i7 X pins H' b:=fun aC b hb=>⟨aC b hb,(f2 b hb).2⟩
 refine codeAny_forLoop_any (fun n s'=>∃i σ' H',Inv X pins σ' H' s'∧gw i s'.heap∧(∀b∈a6,H' b=none)∧W i n σ' H') ?_ m0 ⟨0,σ,aT,cv,km,fun b hb=>(f2 b hb).1,k7⟩
 rintro n s3 ⟨i,σ3,di,d0,HK,Eu,pP⟩
 rcases turn i n σ3 di pP with ⟨stop,qn⟩ | ⟨go,N,hN,step⟩
 · refine wpAny_passesOwn hp (bL (T.done X rfl rfl rfl hc i pins s3 σ3 di X.xe d0 (stat Eu) HK stop) fun r s4 ⟨hr,jV⟩=>?_)
   subst hr
   exact wpAny_execs_nil ⟨σ3,di,jV,qn⟩
 · refine wpAny_passesOwn hp (bL (T.item X rfl rfl rfl hc i pins s3 σ3 di X.xe d0 (stat Eu) HK go) fun r s4 ⟨u,hr,h4⟩=>?_)
   subst hr
   refine wpAny_passesOwn hp (bL h4 fun _ s5 ⟨x,ix,l_,pH,WA,rg,vv⟩=>?_)
   have Jq:=l_.pinned (stat vv) (T.obj _ _ rg)
   refine wpAny_passesOwn hp (bL (hg _ s5 σ3 ix x u _ Jq pH (step x ix WA)) fun _ cj ⟨σ6,p0,oH,SD⟩=>?_)
   refine wpAny_passesOwn hp (bL (hb _ cj σ6 p0 _ oH SD) fun f dz n9=>?_)
   have again:∀{σ7:St} {fU:ao},Inv X (pins ++ tl a6 s5.heap) σ7 fU dz→N σ7 fU→∃m,m < n∧∃i σ' H',Inv X pins σ' H' dz∧gw i dz.heap∧(∀b∈a6,H' b=none)∧W i m σ' H':=fun {σ7 fU} iy tc=>by
    obtain ⟨eK,hm,Vy⟩:=hN σ7 fU tc
    refine ⟨eK,hm,i + 1,σ7,fU,iy.xr,T.keep _ _ _ rg fun b hb o e=>(iy.pin (b,o) (List.mem_append_right _ (List.mem_append_right _ (wq hb e)))).1,fun b hb=>?_,Vy⟩
    obtain ⟨o,e,d⟩:=T.obj _ _ rg b hb
    exact (iy.pin (b,o) (List.mem_append_right _ (List.mem_append_right _ (wq hb e)))).2.1
   cases f with
   | next=>obtain ⟨σ7,fU,iy,tc⟩:=n9; exact again iy tc
   | cont=>obtain ⟨σ7,fU,iy,tc⟩:=n9; exact again iy tc
   | brk=>obtain ⟨σ7,fU,iy,n9⟩:=n9; exact ⟨σ7,fU,iy.xr,n9⟩
   | ret v=>obtain ⟨rl,σ7,fU,iy,i0,n9⟩:=n9; exact ⟨rl,σ7,fU,iy.xr,i0,n9⟩
end
end bb
namespace bb
open PySem PySem.Spec PyProof.Rows
noncomputable abbrev ed:=V→V→ao→cW→Prop
noncomputable def dr (X:aL) (f:Value→Value→Sem Value) (r:ed):Prop:=
 ∀(pins:List (Addr×Obj)) (s:Shared) (σ :St) (H:ao) (x y:V) (v u:Value) (Q:cW),Inv X pins σ H s→RelV x v→RelV y u→r x y H Q→
  wpAny (model X.prog X.w) X.A (f v u) (fS X pins σ Q) X.xe s
noncomputable def jq (X:aL) (f:Value) (r:List V→ao→cW→Prop):Prop:=
 ∀(pins:List (Addr×Obj)) (s:Shared) (σ :St) (H:ao) (xs:List V) (us:List Value) (Q:cW),Inv X pins σ H s→Vals xs us→r xs H Q→
  wpAny (model X.prog X.w) X.A (call f us) (fS X pins σ Q) X.xe s
noncomputable def JA (X:aL) (r:V→ao→(Bool→ao→Prop)→Prop):Prop:=
 ∀(pins:List (Addr×Obj)) (s:Shared) (σ :St) (H:ao) (x:V) (v:Value) (Q:Bool→ao→Prop),Inv X pins σ H s→RelV x v→r x H Q→
  wpAny (model X.prog X.w) X.A (truthy v) (uh X pins σ Q) X.xe s
noncomputable def tE (r:ed) (cb tb:TE):TE:=fun σ H Q=>cb σ H fun x H1=>tb σ H1 fun y aT=>r x y aT Q
noncomputable def n_ (C:Int→Int→Prop) (g:Int→Int→V):ed:=fun x y H Q=>∃i j,x= .int i∧y= .int j∧C i j∧Q (g i j) H
noncomputable def kk (g:Int→Int→V):ed:=fun x y H Q=>∃i j,x= .int i∧y= .int j∧Q (g i j) H
section
variable {X:aL} {a b c:Expr} {cb tb fM:TE} {pos:Pos}
theorem yi (ha:aZ X a cb) (hb:aZ X b tb) {pins:List (Addr×Obj)} {s:Shared} {σ :St} {H:ao} {R:V→V→ao→Prop} (ae:Inv X pins σ H s)
  (h:cb σ H fun x H1=>tb σ H1 fun y aT=>R x y aT) {Q:Value→Shared→Prop} {f:Value→Value→Sem Value}
  (hf:∀v u s2 x y aT,Inv X pins σ aT s2→RelV x v→RelV y u→R x y aT→wpAny (model X.prog X.w) X.A (f v u) Q X.xe s2) :
  wpAny (model X.prog X.w) X.A (eval a X.env) (fun v c7=>wpAny (model X.prog X.w) X.A (eval b X.env) (fun u jR=>wpAny (model X.prog X.w) X.A (f v u) Q X.xe jR) X.xe c7) X.xe s:=by
 refine bL (ha pins s σ H _ ae h) fun v s1 ⟨x,H1,aR,av,a7⟩=>?_
 refine bL (hb pins s1 σ H1 _ aR a7) fun u s2 ⟨y,aT,cv,bl,bX⟩=>?_
 exact hf v u s2 x y aT cv av bl bX
theorem GI {op:Operator} {r:ed} (ho:dr X (binaryOp op) r) (ha:aZ X a cb) (hb:aZ X b tb):aZ X (.BinOp a op b pos) (tE r cb tb):=by
 intro pins s σ H Q ae h
 exact wpAny_BinOp (yi ha hb ae h fun v u s2 x y aT cv bt b0 q=>ho pins s2 σ aT x y v u Q cv bt b0 q)
theorem q5 {f:Value→Value→Sem Value} {C:Int→Int→Prop} {g:Int→Int→Int}
  (rule:∀(i j:Int) (t u:Tok) (s:Shared) (Q:Value→Shared→Prop) (E:Value→Shared→Prop),C i j→Q (.int (g i j) s.toks) { s with toks:=s.toks + 1 }→wpAny (model X.prog X.w) X.A (f (.int i t) (.int j u)) Q E s) :
  dr X f (n_ C fun i j=> .int (g i j)):=by
 intro pins s σ H x y v u Q ae bt b0 h
 obtain ⟨i,j,rfl,rfl,hc,q⟩:=h
 obtain ⟨t,rfl⟩:=bt
 obtain ⟨t',rfl⟩:=b0
 exact rule i j t t' s _ _ hc ⟨.int (g i j),H,ae.tok _,⟨_,rfl⟩,q⟩
theorem z5 {f:Value→Value→Sem Value} {g:Int→Int→Int}
  (rule:∀(i j:Int) (t u:Tok) (s:Shared) (Q:Value→Shared→Prop) (E:Value→Shared→Prop),Q (.int (g i j) s.toks) { s with toks:=s.toks + 1 }→wpAny (model X.prog X.w) X.A (f (.int i t) (.int j u)) Q E s) :
  dr X f (kk fun i j=> .int (g i j)):=by
 intro pins s σ H x y v u Q ae bt b0 h
 obtain ⟨i,j,rfl,rfl,q⟩:=h
 obtain ⟨t,rfl⟩:=bt
 obtain ⟨t',rfl⟩:=b0
 exact rule i j t t' s _ _ ⟨.int (g i j),H,ae.tok _,⟨_,rfl⟩,q⟩
theorem z4 {f:Value→Value→Sem Value} {g:Int→Int→Bool}
  (rule:∀(i j:Int) (t u:Tok) (s:Shared) (Q:Value→Shared→Prop) (E:Value→Shared→Prop),Q (.bool (g i j)) s→wpAny (model X.prog X.w) X.A (f (.int i t) (.int j u)) Q E s) :
  dr X f (kk fun i j=> .aw (g i j)):=by
 intro pins s σ H x y v u Q ae bt b0 h
 obtain ⟨i,j,rfl,rfl,q⟩:=h
 obtain ⟨t,rfl⟩:=bt
 obtain ⟨t',rfl⟩:=b0
 exact rule i j t t' s _ _ ⟨.aw (g i j),H,ae,rfl,q⟩
noncomputable def rz (i j:Int):Prop:=0 < j∧j < 1073741824
noncomputable def rA (i j:Int):Prop:=0≤j∧j≤1000000∧i.natAbs < 2 ^ 64
noncomputable def oB (i j:Int):Prop:=(-(2 ^ 64) < i∧i < 2 ^ 64)∨(-(2 ^ 64) < j∧j < 2 ^ 64)
theorem oB.ok {i j:Int} (h:oB i j):IntMulOk i j:=by
 rcases h with ⟨h1,h2⟩ | ⟨h1,h2⟩
 · exact .of_left (intBits_le_64 h1 h2)
 · exact .of_right (intBits_le_64 h1 h2)
theorem Vp (k:Nat):(0:Int)≤2 ^ k:=by
 rw [two_pow_cast]
 exact Int.natCast_nonneg _
theorem Q6:dr X (binaryOp .Add) (kk fun i j=> .int (i + j)):=z5 fun _ _ _ _ _ _ _ q=>add_int q
theorem Rl:dr X (binaryOp .Sub) (kk fun i j=> .int (i - j)):=z5 fun _ _ _ _ _ _ _ q=>sub_int q
theorem Rf:dr X (binaryOp .Mult) (n_ oB fun i j=> .int (i * j)):=q5 fun _ _ _ _ _ _ _ hc q=>mul_int q hc.ok
theorem Ra:dr X (binaryOp .FloorDiv) (n_ rz fun i j=> .int (i / j)):=q5 fun i j _ _ _ _ _ hc q=>by
 have h1:(0:Int) < j:=hc.1
 have h2:j < 1073741824:=hc.2
 exact floordiv_int (by omega) (by rw [Int.fdiv_eq_ediv_of_nonneg i (by omega)]; exact q) (.inl (PyProof.noPylong_small (by omega)))
theorem Rd:dr X (binaryOp .Mod) (n_ (fun _ j=>0 < j) fun i j=> .int (i % j)):=q5 fun i j _ _ _ _ _ hc q=>by
 have h1:(0:Int) < j:=hc
 exact mod_int' (by omega) (by rw [Int.fmod_eq_emod_of_nonneg i (by omega)]; exact q)
theorem Ri:dr X (binaryOp .Pow) (n_ rA fun i j=> .int (i ^ j.toNat)):=q5 fun _ _ _ _ _ _ _ hc q=>pow_int_small hc.1 hc.2.1 hc.2.2 q
theorem Rk:dr X (binaryOp .RShift) (n_ (fun _ j=>0≤j) fun i j=> .int (i / 2 ^ j.toNat)):=q5 fun i j _ _ _ _ _ hc q=>
 rshift_int hc (by rw [Int.fdiv_eq_ediv_of_nonneg i (Vp _)]; exact q)
theorem Q8:dr X (binaryOp .BitAnd) (kk fun i j=> .int (Builtin.bitAnd i j)):=z5 fun _ _ _ _ _ _ _ q=>and_int q
end
noncomputable def Hu:V→V→Bool
 | .non,.non=>true | .non,.int _=>true | .int _,.non=>true | .non,.aw _=>true | .aw _,.non=>true | .non,.str _=>true | .str _,.non=>true
 | .int _,.int _=>true | .aw _,.aw _=>true | .str _,.str _=>true | .lz _,.lz _=>true
 | .int _,.str _=>true | .str _,.int _=>true | .aw _,.str _=>true | .str _,.aw _=>true
 | _,_=>false
section
variable {X:aL} {a b c:Expr} {cb tb fM:TE} {pos:Pos}
theorem Mg {pins:List (Addr×Obj)} {σ :St} {H:ao} {s:Shared} {Q:cW} {k k':Bool} (ae:Inv X pins σ H s) (q:Q (.aw k) H) (e:k=k'):fS X pins σ Q (.bool k') s:=by
 subst e
 exact ⟨.aw k,H,ae,rfl,q⟩
theorem Gq:dr X (compareOp .Lt) (kk fun i j=> .aw (decide (i < j))):=z4 fun _ _ _ _ _ _ _ q=>lt_int q
theorem ti:dr X (compareOp .LtE) (kk fun i j=> .aw (decide (i≤j))):=z4 fun _ _ _ _ _ _ _ q=>le_int q
theorem Rb:dr X (compareOp .Gt) (kk fun i j=> .aw (decide (j < i))):=z4 fun _ _ _ _ _ _ _ q=>gt_int q
theorem Gp:dr X (compareOp .Is) (fun x y H Q=>y= .non∧Q (.aw (decide (x= .non))) H):=by
 intro pins s σ H x y v u Q ae bt b0 h
 obtain ⟨rfl,q⟩:=h
 cases b0
 refine is_none_gen (Mg ae q ?_)
 cases x <;> first
  | (cases bt; rfl)
  | (obtain ⟨t,rfl⟩:=bt; rfl)
theorem dr.or {f:Value→Value→Sem Value} {r bf:ed} (h:dr X f r) (h':dr X f bf):dr X f (fun x y H Q=>r x y H Q∨bf x y H Q):=by
 intro pins s σ H x y v u Q ae bt b0 q
 rcases q with q | q
 · exact h pins s σ H x y v u Q ae bt b0 q
 · exact h' pins s σ H x y v u Q ae bt b0 q
theorem n5 (b:Expr) {op:CmpOp} (h:op≠ .In:=by decide) (h2:op≠ .NotIn:=by decide):behindInMarks op b=false:=by
 have ar:(op == CmpOp.In)=false:=by cases op <;> first | rfl | exact absurd rfl h
 have aG:(op == CmpOp.NotIn)=false:=by cases op <;> first | rfl | exact absurd rfl h2
 cases b <;> simp [behindInMarks,ar,aG]
theorem RH {op:CmpOp} {r:ed} (ho:dr X (compareOp op) r) (ha:aZ X a cb) (hb:aZ X b tb) (hm:behindInMarks op b=false):aZ X (.Compare a [op] [b] pos) (tE r cb tb):=by
 intro pins s σ H Q ae h
 exact wpAny_Compare1 (yi ha hb ae h fun v u s2 x y aT cv bt b0 q=>ho pins s2 σ aT x y v u Q cv bt b0 q) hm
noncomputable def Bq (t:TE):TT:=fun σ H Q=>t σ H fun x H'=>∃k,x= .aw k∧Q k H'
theorem Sm {op:CmpOp} {r:ed} (ho:dr X (compareOp op) r) (ha:aZ X a cb) (hb:aZ X b tb) (hm:behindInMarks op b=false):eO X (.Compare a [op] [b] pos) (Bq (tE r cb tb)):=by
 intro pins s σ H Q ae h
 refine wpAny_isTrue_Compare1 (bL (ha pins s σ H _ ae h) fun v s1 ⟨x,H1,aR,av,a7⟩=>bL (hb pins s1 σ H1 _ aR a7) fun u s2 ⟨y,aT,cv,bl,bX⟩=>
  bL (ho pins s2 σ aT x y v u _ cv av bl bX) fun c s3 ⟨z,di,d0,ei,k,e,eU⟩=>?_) hm
 subst e
 cases ei
 exact wpAny_truthy_bool ⟨di,d0,eU⟩
noncomputable def Bk (r bf:ed) (cb tb fM:TE):TE:=fun σ H Q=>cb σ H fun x H1=>tb σ H1 fun y aT=>r x y aT fun z di=>∃k,z= .aw k∧
 (if k=true then fM σ di fun ey gB=>bf y ey gB Q else Q (.aw false) di)
theorem RG {op fK:CmpOp} {r bf:ed} (ho:dr X (compareOp op) r) (ho':dr X (compareOp fK) bf) (ha:aZ X a cb) (hb:aZ X b tb) (hc:aZ X c fM)
  (hm:lastMarks [op,fK] [b,c]=false:=by with_unfolding_all rfl):aZ X (.Compare a [op,fK] [b,c] pos) (Bk r bf cb tb fM):=by
 intro pins s σ H Q ae h
 refine Compare_chain (bL (ha pins s σ H _ ae h) fun v s1 ⟨x,H1,aR,av,a7⟩=>chain_link (bL (hb pins s1 σ H1 _ aR a7) fun u s2 ⟨y,aT,cv,bl,bX⟩=>
  bL (ho pins s2 σ aT x y v u _ cv av bl bX) fun d s3 ⟨z,di,d0,ei,k,e,eU⟩=>?_)) hm
 subst e
 cases ei
 refine wpAny_truthy_bool ?_
 cases k with
 | false=>exact ite_ff ⟨.aw false,di,d0,rfl,eU⟩
 | true=>exact ite_tt (chain_last (bL (hc pins s3 σ di _ d0 eU) fun ey s4 ⟨gz,gB,jV,pG,tm⟩=>ho' pins s4 σ gB y gz u ey Q jV bl pG tm))
theorem Sl {op fK:CmpOp} {r bf:ed} (ho:dr X (compareOp op) r) (ho':dr X (compareOp fK) bf) (ha:aZ X a cb) (hb:aZ X b tb) (hc:aZ X c fM)
  (hm:lastMarks [op,fK] [b,c]=false:=by with_unfolding_all rfl):eO X (.Compare a [op,fK] [b,c] pos) (Bq (Bk r bf cb tb fM)):=by
 intro pins s σ H Q ae h
 refine isTrue_chain (bL (ha pins s σ H _ ae h) fun v s1 ⟨x,H1,aR,av,a7⟩=>test_link (bL (hb pins s1 σ H1 _ aR a7) fun u s2 ⟨y,aT,cv,bl,bX⟩=>
  bL (ho pins s2 σ aT x y v u _ cv av bl bX) fun d s3 ⟨z,di,d0,ei,k,e,eU⟩=>?_)) hm
 subst e
 cases ei
 refine wpAny_truthy_bool ?_
 cases k with
 | false=>
   obtain ⟨k',cU,df⟩:=eU
   cases cU
   exact ite_ff ⟨di,d0,df⟩
 | true=>
   refine ite_tt (test_last (bL (hc pins s3 σ di _ d0 eU) fun ey s4 ⟨gz,gB,jV,pG,tm⟩=>bL (ho' pins s4 σ gB y gz u ey _ jV bl pG tm) fun d' s5 ⟨bz,ix,l_,pH,k2,aG,SA⟩=>?_))
   subst aG
   cases pH
   exact wpAny_truthy_bool ⟨ix,l_,SA⟩
noncomputable def JB (K:PySem.W.Frag) (x:V) (H:ao) (k:Bool):Prop:=
 match x with
 | .non=>k=false
 | .aw b=>k=b
 | .int i=>k=(i != 0)
 | .str y=>y.length≤sizeLine∧k=((y.length:Int) != 0)
 | .lz y=>y.size≤sizeLine∧k=((y.size:Int) != 0)
 | .ref p=>(∃xs,b4 K H p xs∧k= !xs.isEmpty)∨(∃xs,cK K H p xs∧k= !xs.isEmpty)∨∃aX,H p=some (.dg aX)∧k= !aX.isEmpty
 | _=>False
theorem OE {dB:Type} {aX:List (dB×V)} {vs:List (dB×Value)} (r:gf aX vs):(!vs.isEmpty)= !aX.isEmpty:=by
 cases r <;> rfl
theorem Fp {xs:List V} {its:List Value} (r:Vals xs its):(!its.toArray.isEmpty)= !xs.isEmpty:=by
 cases r <;> simp
theorem sL:(sizeLine:Nat) < 2 ^ 63:=by rw [sizeLine_eq]; decide
theorem W9:JA X (fun x H Q=>∃k,JB X.K x H k∧Q k H):=by
 intro pins s σ H x v Q ae bt h
 obtain ⟨k,e,q⟩:=h
 have hl:=sL
 have hs:sizeLine=16777216:=sizeLine_eq
 cases x with
 | non=>
   cases bt
   have cU:k=false:=e
   subst cU
   exact truthy_none ⟨H,ae,q⟩
 | aw b=>
   cases bt
   have cU:k=b:=e
   subst cU
   exact wpAny_truthy_bool ⟨H,ae,q⟩
 | int i=>
   obtain ⟨t,rfl⟩:=bt
   have cU:k=(i != 0):=e
   subst cU
   exact PySem.P.truthy_int ⟨H,ae,q⟩
 | str y=>
   obtain ⟨t,rfl⟩:=bt
   obtain ⟨b5,cU⟩:y.length≤sizeLine∧k=((y.length:Int) != 0):=e
   subst cU
   exact PySem.P.truthy_str (by omega) ⟨H,ae.tok _,q⟩
 | lz y=>
   obtain ⟨t,rfl⟩:=bt
   obtain ⟨b5,cU⟩:y.size≤sizeLine∧k=((y.size:Int) != 0):=e
   subst cU
   exact PySem.W.truthy_bytes (by omega) ⟨H,ae.tok _,q⟩
 | ref p=>
   cases bt
   have cU:(∃xs,b4 X.K H p xs∧k= !xs.isEmpty)∨(∃xs,cK X.K H p xs∧k= !xs.isEmpty)∨∃aX,H p=some (.dg aX)∧k= !aX.isEmpty:=e
   rcases cU with ⟨xs,hx,cU⟩ | ⟨xs,hx,cU⟩ | ⟨aX,hx,cU⟩
   · subst cU
     obtain ⟨its,r,pl,br⟩:=ae.list hx
     have hlen:=r.length
     exact wpAny_truthy_list pl.isList (by simp only [List.size_toArray]; omega) ⟨H,ae.tok _,by rw [Fp r]; exact q⟩
   · subst cU
     obtain ⟨its,r,pl,br⟩:=ae.tuple hx
     have hlen:=r.length
     exact truthy_tuple pl (by simp only [List.size_toArray]; omega) ⟨H,ae.tok _,by rw [Fp r]; exact q⟩
   · subst cU
     obtain ⟨br,kH,vs,r,m⟩:aX.length≤sizeLine∧(p == sysModules)=false∧∃vs,gf aX vs∧s.heap.DictOf (ia X.prog X.w) p vs:=ae.bB p _ hx
     have hlen:aX.length=vs.length:=Paired.length r
     exact wpAny_truthy_dict kH m (by omega) ⟨H,ae.tok _,by rw [OE r]; exact q⟩
 | _=>exact (show False from e).elim
theorem Q7:dr X (binaryOp .Add) (fun x y H Q=>∃i j,x= .str i∧y= .str j∧i.length + j.length≤sizeLine∧Q (.str (i ++ j)) H):=by
 intro pins s σ H x y v u Q ae bt b0 h
 obtain ⟨i,j,rfl,rfl,br,q⟩:=h
 obtain ⟨t,rfl⟩:=bt
 obtain ⟨t',rfl⟩:=b0
 exact add_str (fun t' du=>⟨.str (i ++ j),H,ae.tok _,⟨_,rfl⟩,q⟩) br
theorem vals1 {x:V} {us:List Value} (r:Vals [x] us):∃u,us=[u]∧RelV x u:=by
 cases r with
 | cons av bl=>cases bl; exact ⟨_,rfl,av⟩
theorem vals2 {x y:V} {us:List Value} (r:Vals [x,y] us):∃u ey,us=[u,ey]∧RelV x u∧RelV y ey:=by
 cases r with
 | cons av bl=>
   cases bl with
   | cons ei pG=>cases pG; exact ⟨_,_,rfl,av,ei⟩
theorem Kh (hc:X.calm=true):jq X (.builtin "max") (fun xs H Q=>∃i j,xs=[.int i,.int j]∧Q (.int (if j > i then j else i)) H):=by
 intro pins s σ H xs us Q ae r h
 obtain ⟨i,j,rfl,q⟩:=h
 obtain ⟨u,ey,rfl,⟨t,rfl⟩,⟨t',rfl⟩⟩:=vals2 r
 refine max_two_ints (ae.ok.hd hc) fun h' du k=>⟨_,H,ae.kept k,?_,q⟩
 by_cases dx:j > i
 · rw [if_pos dx,if_pos dx]; exact ⟨_,rfl⟩
 · rw [if_neg dx,if_neg dx]; exact ⟨_,rfl⟩
theorem Ki (hc:X.calm=true):jq X (.builtin "min") (fun xs H Q=>∃i j,xs=[.int i,.int j]∧Q (.int (if j < i then j else i)) H):=by
 intro pins s σ H xs us Q ae r h
 obtain ⟨i,j,rfl,q⟩:=h
 obtain ⟨u,ey,rfl,⟨t,rfl⟩,⟨t',rfl⟩⟩:=vals2 r
 refine min_two_ints (ae.ok.hd hc) fun h' du k=>⟨_,H,ae.kept k,?_,q⟩
 by_cases dx:j < i
 · rw [if_pos dx,if_pos dx]; exact ⟨_,rfl⟩
 · rw [if_neg dx,if_neg dx]; exact ⟨_,rfl⟩
theorem Kj:jq X (.type "str") (fun xs H Q=>∃i,xs=[.int i]∧i.natAbs.log2 < 1920∧Q (.str (toString i)) H):=by
 intro pins s σ H xs us Q ae r h
 obtain ⟨i,rfl,br,q⟩:=h
 obtain ⟨u,rfl,t,rfl⟩:=vals1 r
 exact PySem.P.str_of_int br ⟨.str _,H,ae.tok _,⟨_,rfl⟩,q⟩
noncomputable def B5 (K:PySem.W.Frag) (x:V) (H:ao) (n:Nat):Prop:=
 match x with
 | .str y=>y.length≤sizeLine∧n=y.length
 | .lz y=>y.size≤sizeLine∧n=y.size
 | .ref p=>(∃xs,b4 K H p xs∧n=xs.length)∨∃xs,cK K H p xs∧n=xs.length
 | _=>False
theorem Kf:jq X (.builtin "len") (fun xs H Q=>∃x n,xs=[x]∧B5 X.K x H n∧Q (.int n) H):=by
 intro pins s σ H xs us Q ae r h
 obtain ⟨x,n,rfl,e,q⟩:=h
 obtain ⟨u,rfl,bt⟩:=vals1 r
 have hl:=sL
 have hs:sizeLine=16777216:=sizeLine_eq
 cases x with
 | str y=>
   obtain ⟨t,rfl⟩:=bt
   obtain ⟨b5,cU⟩:y.length≤sizeLine∧n=y.length:=e
   subst cU
   exact len_str (by omega) ⟨.int _,H,ae.tok _,⟨_,rfl⟩,q⟩
 | lz y=>
   obtain ⟨t,rfl⟩:=bt
   obtain ⟨b5,cU⟩:y.size≤sizeLine∧n=y.size:=e
   subst cU
   exact PySem.W.len_bytes (by omega) ⟨.int _,H,ae.tok _,⟨_,rfl⟩,q⟩
 | ref p=>
   cases bt
   have cU:(∃xs,b4 X.K H p xs∧n=xs.length)∨∃xs,cK X.K H p xs∧n=xs.length:=e
   rcases cU with ⟨xs,hx,cU⟩ | ⟨xs,hx,cU⟩
   · subst cU
     obtain ⟨its,bf,pl,br⟩:=ae.list hx
     have hlen:=bf.length
     exact Calls.call_len_list pl.isList (by simp only [List.size_toArray]; omega) ⟨.int xs.length,H,ae.tok _,⟨_,by simp only [List.size_toArray]; rw [hlen]⟩,q⟩
   · subst cU
     obtain ⟨its,bf,pl,br⟩:=ae.tuple hx
     have hlen:=bf.length
     exact len_tuple pl (by simp only [List.size_toArray]; omega) ⟨.int xs.length,H,ae.tok _,⟨_,by simp only [List.size_toArray]; rw [hlen]⟩,q⟩
 | _=>exact (show False from e).elim
end
end bb
namespace bb
open PySem PySem.Spec PyProof.Rows
structure oL (h:Heap) (x a4 C:Addr) (dR:Str→Option Value):Prop where
 obj:h.get? x=some (PySem.W.instObj C a4)
 ns:h.Ns1 a4 dR
 ne:a4≠x
theorem Qa {h:Heap} {a4:Addr} {dR:Str→Option Value} (n:h.Ns1 a4 dR):∃dM,h.get? a4=some dM∧∀name,PySem.W.lookIn name dM=some (dR name):=by
 obtain ⟨o,aq,dW,ho,hd,hk,_,hm⟩:=n
 refine ⟨o,ho,fun name=>?_⟩
 have e:=hm name
 unfold nsFind findBy at e
 rw [←Array.find?_toList] at e
 unfold PySem.W.lookIn
 rw [hd]
 dsimp only
 split
 · rename_i y q
   rw [q] at e
   exact congrArg some e
 · rename_i q
   rw [q] at e
   have a:aq.toList.any (·.refKey)=false:=by
    rw [List.any_eq_false]
    intro y b5
    obtain ⟨z,t,MT⟩:=hk y (Array.mem_toList_iff.mp b5)
    simp [DictEntry.refKey,MT]
   have x5:¬ aq.toList.any (·.refKey)=true:=by rw [a]; exact Bool.false_ne_true
   rw [if_neg x5]
   exact congrArg some e
theorem oL.look {h:Heap} {x a4 C:Addr} {dR:Str→Option Value} (ae:oL h x a4 C dR):∃dM,PySem.W.InstAt h x (PySem.W.instObj C a4) C (some dM)∧∀name,PySem.W.lookIn name dM=some (dR name):=
 let ⟨dM,ho,hl⟩:=Qa ae.ns
 ⟨dM,⟨ae.obj,rfl,rfl,ho⟩,hl⟩
section
variable {prog:Program} {w:World} {A:Around} {E:Value→Shared→Prop} {s:Shared} {K:PySem.W.Frag} {x a4 C f:Addr} {dR:Str→Option Value} {name:Str} {v:Value}
theorem get_map {expr:Bool} {Q:Value→Shared→Prop} (X:K.In s.heap) (ae:oL s.heap x a4 C dR) (hg:PySem.W.plainGet K C name=true) (hh:PySem.W.hasDictIn K C=true)
  (ha:PySem.W.findIn K (.ref C) name=some none) (hv:dR name=some v) (Nm:PySem.W.handedIn v=true) (h:Q v { s with toks:=s.toks + 1 }) :
  wpAny (model prog w) A (getAttr (.ref x) name expr) Q E s:=by
 obtain ⟨dM,bJ,hl⟩:=ae.look
 exact PySem.W.get_value X bJ (PySem.W.plainGet_of hg).1 (PySem.W.findObj_own hh ha rfl (by rw [hl,hv])) Nm h
theorem Mq {pl:Sem Bool} {Q:Value×List Value→Shared→Prop} (X:K.In s.heap) (ae:oL s.heap x a4 C dR) (hg:PySem.W.plainGet K C name=true)
  (hf:PySem.W.findIn K (.ref C) name=some (some (.ref f))) (ht:PySem.W.isFn K (.ref f)=true) (hv:dR name=none) (h:Q (.ref f,[.ref x]) s) :
  wpAny (model prog w) A (getMethod (.ref x) name pl) Q E s:=by
 obtain ⟨dM,bJ,hl⟩:=ae.look
 exact PySem.W.method_fn X bJ (PySem.W.plainGet_of hg).1 (PySem.W.plainGet_of hg).2 hf (beq_iff_eq.mp ht) (by show (PySem.W.lookIn name dM).map (·.isSome)=some false; rw [hl,hv]; rfl) h
theorem Uc {ns:List Str} {Q:Unit→Shared→Prop} (X:K.In s.heap) (ae:oL s.heap x a4 C dR)
  (hs:PySem.W.findIn K (.ref C) "__setattr__"=some (some (.builtin "object.__setattr__"))) (hp:PySem.W.plainOver K C=true) (ht:PySem.W.takerIn K C name=some none) (hh:PySem.W.hasDictIn K C=true)
  (hw:PySem.Within dR ns) (hsz:ns.length≤sizeLine)
  (h:∀h',oL h' x a4 C (fun y=>if y=name then some v else dR y)→Heap.SameBut a4 s.heap h'→Q () { s with heap:=h',toks:=s.toks + 2 }) :
  wpAny (model prog w) A (setAttr (.ref x) name v) Q E s:=by
 obtain ⟨dM,bJ,hl⟩:=ae.look
 refine PySem.W.set_plain X bJ hs (PySem.W.osa_open (s:={ s with toks:=s.toks + 1 }) (r:=none) X bJ hp ht fun b=>?_)
 obtain ⟨cd,hc,y5⟩:=PySem.W.any_some hh
 have hx:s.heap.get? x=some ⟨.ref C,some a4,.plain,#[]⟩:=ae.obj
 refine wpAny_bind (wpAny_pure (wpAny_bind (wpAny_bind (wpAny_loadPart hx (wpAny_bind (PySem.W.Looks.here (s:={ s with toks:=s.toks + 1 }) (PySem.W.looks_clsIn X hc) ?_))))))
 rw [y5]
 refine wpAny_pure (a:=some a4) (wpAny_bind (wpAny_pure (wpAny_bind ?_)))
 refine wpAny_nsSet1 (s:={ s with toks:=s.toks + 1 }) ae.ns fun h' vK hs2=>?_
 obtain ⟨cg,WQ,WO,M1,MH,MD⟩:=vK.count (PySem.Within.cons name v hw)
 refine wpAny_bind (wpAny_lookBehind M1 (by rw [MH]; exact pastItsLine_dict (Nat.le_trans MD (by rw [List.length_cons]; omega))) ?_)
 exact wpAny_pure (h _ ⟨(hs2.2 _ (Ne.symm ae.ne)).trans ae.obj,vK,ae.ne⟩ hs2)
theorem Qe {R:Result→Shared→Prop} {vs:List Value} {kw:List (Str×Value)} (X:K.In s.heap) (hm:PySem.W.makesIn K C=true)
  (hi:PySem.W.findIn K (.ref C) "__init__"=some (some (.ref f))) (hf:PySem.W.typeIn K (.ref f)=some (.type "function"))
  (h:codeAny (model prog w) (A.under (.builtin "type.__call__" ⟨.ref C::vs,kw⟩)) (.call (.ref f) ⟨.ref (s.heap.objs.size + 1)::vs,kw⟩) (PySem.W.InitBack (s.heap.objs.size + 1) R)
    { s with heap:=(s.heap.push PySem.W.emptyDict).push (PySem.W.instObj C s.heap.objs.size) }) :
  codeAny (model prog w) A (.call (.ref C) ⟨vs,kw⟩) R s:=by
 obtain ⟨hh,g,d,t,os⟩:=s
 exact PySem.W.make_core (PySem.W.makes_of X hm) (PySem.W.looks_findIn X hi) (fun self=>PySem.W.bind_fn X self hf) (.inl rfl) h
end
noncomputable def g0 (f:Str) (v:V):List (Str×V)→List (Str×V)
 | []=>[(f,v)]
 | (g,x)::r=>if g=f then (g,v)::r else (g,x)::g0 f v r
theorem FZ (f g:Str) (v:V):∀aW:List (Str×V),(g0 f v aW).lookup g=if g=f then some v else aW.lookup g
 | []=>by
   show List.lookup g [(f,v)]=_
   by_cases h:g=f
   · have hb:(g == f)=true:=beq_iff_eq.mpr h
     simp only [List.lookup,hb,if_pos h]
   · have hb:(g == f)=false:=beq_eq_false_iff_ne.mpr h
     simp only [List.lookup,hb,if_neg h]
 | (k,x)::r=>by
   have c0:=FZ f g v r
   rw [show g0 f v ((k,x)::r)=(if k=f then (k,v)::r else (k,x)::g0 f v r) from rfl]
   by_cases hk:k=f
   · rw [if_pos hk]
     by_cases h:g=k
     · have hb:(g == k)=true:=beq_iff_eq.mpr h
       simp only [List.lookup,hb,if_pos (h.trans hk)]
     · have hb:(g == k)=false:=beq_eq_false_iff_ne.mpr h
       simp only [List.lookup,hb,if_neg (fun e:g=f=>h (e.trans hk.symm))]
   · rw [if_neg hk]
     by_cases h:g=k
     · have hb:(g == k)=true:=beq_iff_eq.mpr h
       simp only [List.lookup,hb,if_neg (fun e:g=f=>hk (h.symm.trans e))]
     · have hb:(g == k)=false:=beq_eq_false_iff_ne.mpr h
       simp only [List.lookup,hb]
       exact c0
theorem zD (f:Str) (v:V):∀aW:List (Str×V),f∈(g0 f v aW).map (·.1)∧∀g,g∈aW.map (·.1)→g∈(g0 f v aW).map (·.1)
 | []=>⟨by simp [g0],fun g h=>by simp at h⟩
 | (k,x)::r=>by
   obtain ⟨cA,cc⟩:=zD f v r
   rw [show g0 f v ((k,x)::r)=(if k=f then (k,v)::r else (k,x)::g0 f v r) from rfl]
   by_cases hk:k=f
   · rw [if_pos hk]
     subst hk
     exact ⟨by simp,fun g h=>by simpa using h⟩
   · rw [if_neg hk]
     refine ⟨?_,fun g h=>?_⟩
     · rw [List.map_cons]
       exact List.mem_cons_of_mem _ cA
     · rw [List.map_cons] at h ⊢
       rcases List.mem_cons.mp h with e | e
       · exact List.mem_cons.mpr (.inl e)
       · exact List.mem_cons_of_mem _ (cc g e)
theorem FT (f:Str) (v:V):∀aW:List (Str×V),(g0 f v aW).length≤aW.length + 1
 | []=>by simp [g0]
 | (k,x)::r=>by
   have c0:=FT f v r
   rw [show g0 f v ((k,x)::r)=(if k=f then (k,v)::r else (k,x)::g0 f v r) from rfl]
   by_cases hk:k=f
   · rw [if_pos hk,List.length_cons,List.length_cons]; omega
   · rw [if_neg hk,List.length_cons,List.length_cons]; omega
theorem g9.some_of {v:V} {o:Option Value} (r:g9 (some v) o):∃u,o=some u∧RelV v u:=by
 cases o with
 | none=>exact (show False from r).elim
 | some u=>exact ⟨u,rfl,r⟩
theorem g9.none_of {o:Option Value} (r:g9 none o):o=none:=by
 cases o with
 | none=>rfl
 | some u=>exact (show False from r).elim
theorem MA {v:V} {u:Value} (r:RelV v u):PySem.W.handedIn u=true:=by
 cases v with
 | non=>cases (show u=Value.none from r); rfl
 | aw b=>cases (show u=Value.bool b from r); rfl
 | int i=>obtain ⟨t,e⟩:=(show ∃t,u=Value.int i t from r); cases e; rfl
 | str x=>obtain ⟨t,e⟩:=(show ∃t,u=Value.str x t from r); cases e; rfl
 | lz b=>obtain ⟨t,e⟩:=(show ∃t,u=Value.bytes b t from r); cases e; rfl
 | vt b=>obtain ⟨t,e⟩:=(show ∃t,u=Value.float b t from r); cases e; rfl
 | ref a=>cases (show u=Value.ref a from r); rfl
 | ty n=>cases (show u=Value.type n from r); rfl
section
variable {P:Program} {w:World} {H H':ao} {h h':Heap} {a C a4:Addr} {aW Ex:List (Str×V)}
theorem zu (bB:d2 P w H h) (e:H a=some (.ins C a4 aW)):∃dR,oL h a a4 C dR∧(∀f,g9 (aW.lookup f) (dR f))∧PySem.Within dR (aW.map (·.1))∧aW.length≤1000∧H a4=some (.own a):=by
 obtain ⟨d,z,ne,a3,dR,n,r,q⟩:=(show e5 P w H h a (.ins C a4 aW) from bB a _ e)
 exact ⟨dR,⟨a3,n,ne⟩,r,q,z,d⟩
end
structure jr (K:PySem.W.Frag) (C:Addr):Prop where
 RY:PySem.W.plainGet K C Str.empty=true
 hd:PySem.W.hasDictIn K C=true
 po:PySem.W.plainOver K C=true
 mS:PySem.W.findIn K (.ref C) "__setattr__"=some (some (.builtin "object.__setattr__"))
theorem jr.get {K:PySem.W.Frag} {C:Addr} (c:jr K C) (f:Str):PySem.W.plainGet K C f=true:=c.RY
noncomputable def oJ (K:PySem.W.Frag) (C:Addr) (f:Str):Prop:=PySem.W.findIn K (.ref C) f=some none
theorem oJ.Ve {K:PySem.W.Frag} {C:Addr} {f:Str} (n:oJ K C f):PySem.W.takerIn K C f=some none:=by
 unfold PySem.W.takerIn
 rw [show PySem.W.findIn K (.ref C) f=some none from n]
 rfl
structure Meth (K:PySem.W.Frag) (C:Addr) (m:Str) (f:Addr):Prop where
 at_:PySem.W.findIn K (.ref C) m=some (some (.ref f))
 fn:PySem.W.isFn K (.ref f)=true
 aI:PySem.W.keepIn K (.ref f)=true
section
variable {X:aL} {pins:List (Addr×Obj)} {σ :St} {H:ao} {s:Shared} {a C a4:Addr} {aW:List (Str×V)} {f:Str} {v:V} {A:Around} {E:Value→Shared→Prop}
theorem Mr {b:Bool} {Q:Value→Shared→Prop} (ae:Inv X pins σ H s) (e:H a=some (.ins C a4 aW)) (c:jr X.K C) (n:oJ X.K C f) (l:aW.lookup f=some v)
  (h:∀u s',Inv X pins σ H s'→RelV v u→Q u s'):wpAny (model X.prog X.w) A (getAttr (.ref a) f b) Q E s:=by
 obtain ⟨dR,O,r,_,_,_⟩:=zu ae.bB e
 obtain ⟨u,hu,ej⟩:=g9.some_of (v:=v) (o:=dR f) (by rw [←l]; exact r f)
 exact get_map ae.e_ O (c.get f) c.hd n hu (MA ej) (h u _ (ae.tok _) ej)
theorem ED {m:Str} {g:Addr} {pl:Sem Bool} {Q:Value×List Value→Shared→Prop} (ae:Inv X pins σ H s) (e:H a=some (.ins C a4 aW)) (c:jr X.K C) (k:Meth X.K C m g) (l:aW.lookup m=none)
  (h:Q (.ref g,[.ref a]) s):wpAny (model X.prog X.w) A (getMethod (.ref a) m pl) Q E s:=by
 obtain ⟨dR,O,r,_,_,_⟩:=zu ae.bB e
 have aC:dR m=none:=g9.none_of (by rw [←l]; exact r m)
 exact Mq ae.e_ O (c.get m) k.at_ k.fn aC h
theorem Ud {y:V} {u:Value} {Q:Unit→Shared→Prop} (ae:Inv X pins σ H s) (e:H a=some (.ins C a4 aW)) (c:jr X.K C) (n:oJ X.K C f) (hl:aW.length < 1000) (b0:RelV y u)
  (h:∀s',Inv X pins σ (upd H a (.ins C a4 (g0 f y aW))) s'→Q () s'):wpAny (model X.prog X.w) A (setAttr (.ref a) f u) Q E s:=by
 obtain ⟨dR,O,r,ik,_,ho⟩:=zu ae.bB e
 have br:(aW.map (·.1)).length≤sizeLine:=by rw [List.length_map,sizeLine_eq]; omega
 refine Uc ae.e_ O c.mS c.po n.Ve c.hd ik br fun h' x2 kX=>h _ ?_
 have hd:∃o,h'.get? a4=some o:=let ⟨o,_,_,cU,_⟩:=x2.ns; ⟨o,cU⟩
 refine ae.write (x:=a) (e:=a4) (by rw [e]; exact True.intro) (.inr ho) (fun b q hb z=>(kX.2 b hb).trans z) hd ?_
 refine ⟨by rw [de O.ne]; exact ho,?_,O.ne,x2.obj,_,x2.ns,fun g=>?_,fun g hg=>?_⟩
 · have:=FT f y aW; omega
 · show g9 ((g0 f y aW).lookup g) (if g=f then some u else dR g)
   rw [FZ]
   by_cases q:g=f
   · rw [if_pos q,if_pos q]; exact b0
   · rw [if_neg q,if_neg q]; exact r g
 · by_cases q:g=f
   · rw [q]; exact (zD f y aW).1
   · refine (zD f y aW).2 g (ik g fun z=>hg ?_)
     show (if g=f then some u else dR g)=none
     rw [if_neg q]; exact z
theorem Inv.made (ae:Inv X pins σ H s):Inv X pins σ (upd (upd H s.heap.objs.size (.own (s.heap.objs.size + 1))) (s.heap.objs.size + 1) (.ins C s.heap.objs.size []))
  { s with heap:=(s.heap.push PySem.W.emptyDict).push (PySem.W.instObj C s.heap.objs.size) }:=by
 have ar:(s.heap.push PySem.W.emptyDict).get? s.heap.objs.size=some PySem.W.emptyDict:=Heap.get?_push_size s.heap rfl
 have aG:((s.heap.push PySem.W.emptyDict).push (PySem.W.instObj C s.heap.objs.size)).get? (s.heap.objs.size + 1)=some (PySem.W.instObj C s.heap.objs.size):=by
  have:=Heap.get?_push_size (s.heap.push PySem.W.emptyDict) (o:=PySem.W.instObj C s.heap.objs.size) rfl
  rwa [Heap.size_push] at this
 have cM:(s.heap.push PySem.W.emptyDict).Ns s.heap.objs.size (fun _=>none):=⟨PySem.W.emptyDict,#[],_,ar,rfl,(fun e he=>absurd he (by simp)),fun _=>rfl⟩
 have aR:=ae.laid (a:=s.heap.objs.size) (o:= .own (s.heap.objs.size + 1)) (h':=s.heap.push PySem.W.emptyDict) (t':=s.toks) (fun b u q=>Heap.get?_push_of_some _ q) (Nat.le_refl _) ⟨_,ar⟩
 refine aR.laid (a:=s.heap.objs.size + 1) (o:= .ins C s.heap.objs.size []) (t':=s.toks) (fun b u q=>Heap.get?_push_of_some _ q) (Nat.le_of_eq (Heap.size_push _ _)) ?_
 have ne:s.heap.objs.size≠s.heap.objs.size + 1:=Nat.ne_of_lt (Nat.lt_succ_self _)
 refine ⟨by rw [de ne,en],Nat.zero_le _,ne,aG,fun _=>none,(Heap.Ns1.of_empty cM).at fun o q=>Heap.get?_push_of_some _ q,fun _=>True.intro,fun y b5=>absurd rfl b5⟩
theorem JV {prog:Program} {w:World} {env:Env} {e:Expr} {f:Str} {pos:Pos} {s:Shared} {Q:Value→Shared→Prop} (hb:attributeBase e f env (eval e env)=eval e env)
  (h:wpAny (model prog w) A (eval e env) (fun o c7=>wpAny (model prog w) A (getAttr o f true) Q E c7) E s):wpAny (model prog w) A (eval (.Attribute e f pos) env) Q E s:=
 Attribute_any_ h (by rw [arm_eval_Attribute,hb])
end
noncomputable def UJ (K:PySem.W.Frag) (cb:TE) (f:Str):TE:=fun σ H Q=>cb σ H fun x H1=>∃a C a4 aW v,x= .ref a∧H1 a=some (.ins C a4 aW)∧jr K C∧oJ K C f∧aW.lookup f=some v∧Q v H1
noncomputable def S9 (K:PySem.W.Frag) (cb m4:TE) (f:Str):eB:=fun D σ H=>m4 σ H fun y H1=>cb σ H1 fun x aT=>∃a C a4 aW,x= .ref a∧aT a=some (.ins C a4 aW)∧jr K C∧oJ K C f∧aW.length < 1000∧
 D.aV σ (upd aT a (.ins C a4 (g0 f y aW)))
section
variable {X:aL} {o e value:Expr} {f:Str} {pos pos' tI:Pos} {cb m4:TE}
theorem RM (he:aZ X e cb) (hb:attributeBase e f X.env (eval e X.env)=eval e X.env):aZ X (.Attribute e f pos) (UJ X.K cb f):=by
 intro pins s σ H Q ae h
 refine JV hb (bL (he pins s σ H _ ae h) fun u s1 ⟨x,H1,aR,bt,a,C,a4,aW,v,ex,au,c,n,l,q⟩=>?_)
 subst ex
 obtain rfl:u=Value.ref a:=bt
 exact Mr aR au c n l fun ih s2 cv ej=>⟨v,H1,cv,ej,q⟩
theorem Sg (ha:aZ X o cb) (hv:aZ X value m4) (hs:swapsWith value (some (.Attribute o f pos')) pos.line X.env=pure false):dj X (.Assign [.Attribute o f pos'] value pos) (S9 X.K cb m4 f):=by
 intro pins s σ H D ae h
 refine plainObj_wpAny_Assign_Attribute (bL (hv pins s σ H _ ae h) fun u s1 ⟨y,H1,aR,b0,q⟩=>bL (ha pins s1 σ H1 _ aR q) fun f6 s2 ⟨x,aT,cv,bt,a,C,a4,aW,ex,au,c,n,l,bX⟩=>?_) hs
 subst ex
 obtain rfl:f6=Value.ref a:=bt
 exact Ud cv au c n l b0 fun s3 d0=>⟨σ,_,d0,bX⟩
theorem W3 {pl:Sem Bool} {m:Str} {apos:Pos} {args:List Expr} {pins:List (Addr×Obj)} {s:Shared} {σ :St} {H:ao} {Q:Value→Shared→Prop} {te:TE} (he:aZ X e te) (ae:Inv X pins σ H s)
  (h:te σ H fun x H1=>∃a C a4 aW g,x= .ref a∧H1 a=some (.ins C a4 aW)∧jr X.K C∧Meth X.K C m g∧aW.lookup m=none∧
    ∀s1,Inv X pins σ H1 s1→wpAny (model X.prog X.w) X.A (callWith pos (.ref g) [.ref a] (backTo pos (starEach args X.env)) (backToKw pos (keywordEach [] X.env))) Q X.xe s1)
  (ht:eval (.Call (.Attribute e m apos) args [] pos) X.env=(do
    let f6 ←eval e X.env
    standAt apos.atName
    let (f,first) ←holding [f6] (getMethod f6 m pl)
    callWith pos f first (backTo pos (starEach args X.env)) (backToKw pos (keywordEach [] X.env)))) :
  wpAny (model X.prog X.w) X.A (eval (.Call (.Attribute e m apos) args [] pos) X.env) Q X.xe s:=by
 refine PySem.W.methodCall_KW (pl:=pl) (bL (he pins s σ H _ ae h) fun u s1 ⟨x,H1,aR,bt,a,C,a4,aW,g,ex,au,c,k,l,q⟩=>?_) ht
 subst ex
 obtain rfl:u=Value.ref a:=bt
 exact ED aR au c k l (q s1 aR)
end
section
variable {X:aL} {pins:List (Addr×Obj)} {σ :St} {H:ao} {s:Shared} {A:Around} {E:Value→Shared→Prop} {Q:Value→Shared→Prop} {c:Value} {b:Bool}
end
end bb
namespace bb
open PySem PySem.Spec PyProof.Rows
structure dv (k:Nat) (A:Around):Prop where
 hd:A.handled=none
 vk:A.depth + 3 * k + 5 < recursionLimit
 un:A.units + 16 * k + 200 < cLine
theorem dv.mono {j k:Nat} {A:Around} (r:dv k A) (h:j≤k):dv j A:=⟨r.hd,by have:=r.vk; omega,by have:=r.un; omega⟩
theorem dv.deeper {k:Nat} {A:Around} (r:dv (k + 1) A) (env:Env):dv k (A.deeper env):=
 ⟨r.hd,by have:=r.vk; show A.depth + 1 + 3 * k + 5 < _; omega,by have:=r.un; show A.units + 3 + 16 * k + 200 < _; omega⟩
theorem Qd {A:Around} {C:Addr} {us:List Value} {kw:List (Str×Value)}:(A.under (.builtin "type.__call__" ⟨.ref C::us,kw⟩)).depth=A.depth + 1:=by
 first | rfl | simp [Around.under,Code.weight,Code.isCreation,Code.isGuard,Code.isCaller,Code.frames,Code.isFrame,guardIds]
theorem Qf {A:Around} {C:Addr} {us:List Value} {kw:List (Str×Value)}:(A.under (.builtin "type.__call__" ⟨.ref C::us,kw⟩)).units=A.units + 1:=by
 first | rfl | simp [Around.under,Code.cUnits,Code.frames,Code.isFrame]
theorem dv.make {k:Nat} {A:Around} (r:dv (k + 1) A) (C:Addr) (us:List Value) (kw:List (Str×Value)):dv k (A.under (.builtin "type.__call__" ⟨.ref C::us,kw⟩)):=
 ⟨r.hd,by have:=r.vk; rw [Qd]; omega,by have:=r.un; rw [Qf]; omega⟩
theorem dv.depth {k:Nat} {A:Around} (r:dv k A):A.depth < recursionLimit:=by have:=r.vk; omega
theorem dv.units {k:Nat} {A:Around} (r:dv k A):A.units + 64 < cLine:=by have:=r.un; omega
noncomputable def Bo:eA:=fun _ H Q=>Q [] H
noncomputable def tD (cb:TE) (fN:eA):eA:=fun σ H Q=>cb σ H fun x H1=>fN σ H1 fun xs aT=>Q (x::xs) aT
section
variable {X:aL} {e:Expr} {aq:List Expr} {te:TE} {t:eA} {pos:Pos}
theorem n7:eN X [] Bo:=fun _ _ _ _ H Q ae h=>Calls.spliced_nil ⟨[],H,ae,.nil,h⟩
theorem kU (ha:aZ X e te) (hr:eN X aq t) (hs:starEach (e::aq) X.env=(false,eval e X.env)::starEach aq X.env:=by rfl):eN X (e::aq) (tD te t):=by
 intro pos pins s σ H Q ae h
 rw [hs]
 show wpAny _ _ (spliced ((false,eval e X.env)::backTo pos (starEach aq X.env))) _ _ s
 refine Calls.spliced_cons (bL (ha pins s σ H _ ae h) fun u s1 ⟨x,H1,aR,av,a7⟩=>?_)
 exact bL (hr pos pins s1 σ H1 _ aR a7) fun us s2 ⟨xs,aT,cv,bl,bX⟩=>⟨x::xs,aT,cv,.cons av bl,bX⟩
noncomputable def Br (t:eA):TE:=fun σ H Q=>t σ H fun xs H1=>xs.length≤sizeLine∧∀p,H1 p=none→Q (.ref p) (upd H1 p (.tup xs))
noncomputable def H0 (t:eA):TE:=fun σ H Q=>t σ H fun xs H1=>xs.length≤sizeLine∧∀p,H1 p=none→Q (.ref p) (upd H1 p (.lst xs))
theorem GK {gO} (h:eN X aq t):aZ X (.Tuple aq gO pos) (Br t):=by
 intro pins s σ H Q ae aO
 refine wpAny_Tuple_spliced (bL (h pos pins s σ H _ ae aO) fun us s1 ⟨xs,H1,aR,r,z,q⟩=>⟨by rw [←r.length]; exact z,?_⟩)
 have hf:H1 s1.heap.objs.size=none:=aR.bB.fresh (Nat.le_refl _)
 refine ⟨.ref s1.heap.objs.size,upd H1 s1.heap.objs.size (.tup xs),aR.laid (t':=s1.toks) (fun b u e=>Heap.get?_push_of_some _ e) (Nat.le_refl _) ?_,rfl,q _ hf⟩
 exact ⟨z,us,r,⟨_,Heap.get?_push_size _ rfl,rfl,_,rfl⟩⟩
theorem RP (h:eN X aq t):aZ X (.List aq pos) (H0 t):=by
 intro pins s σ H Q ae aO
 refine wpAny_List_spliced (bL (h pos pins s σ H _ ae aO) fun us s1 ⟨xs,H1,aR,r,z,q⟩=>⟨by rw [←r.length]; exact z,?_⟩)
 have hf:H1 s1.heap.objs.size=none:=aR.bB.fresh (Nat.le_refl _)
 refine ⟨.ref s1.heap.objs.size,upd H1 s1.heap.objs.size (.lst xs),aR.laid (t':=s1.toks) (fun b u e=>Heap.get?_push_of_some _ e) (Nat.le_refl _) ?_,rfl,q _ hf⟩
 exact ⟨z,us,0,r,Heap.get?_push_size _ rfl⟩
end
noncomputable abbrev i9:=List V→ao→cW→c8→Prop
noncomputable abbrev jU:=List Env→ao→Shared→c8→Value→Shared→Prop
structure oE (P:Program) (w:World) (K:PySem.W.Frag) (mg:Str→Option Value) (base:Heap) (A:Around) (outer:List Env) (s:Shared) (H:ao):Prop where
 frames:A.frames=some outer
 mod:Mod K mg base
 bs:∀b o,base.get? b=some o→s.heap.get? b=some o∧H b=none
 mu:base.objs.size≤s.heap.objs.size
 iI:s.heap.FunFrames base outer
 nH:∀b∈d4 outer,H b=none
 bB:d2 P w H s.heap
 bare:AllBare s.gens
noncomputable def xN (outer:List Env) (P:Program) (w:World) (H:ao) (s:Shared) (Q:cW) (u:Value) (s':Shared):Prop:=
 ∃v H',s'.os=s.os∧AllBare s'.gens∧fv (d4 outer) [] H H' s.heap s'.heap∧d2 P w H' s'.heap∧RelV v u∧Q v H'
noncomputable def Jk (CX:jU) (outer:List Env) (P:Program) (w:World) (H:ao) (s:Shared) (Q:cW) (E:c8) (r:Result) (s':Shared):Prop:=
 match r with
 | .ok (.ret u)=>xN outer P w H s Q u s'
 | .ok _=>False
 | .error e=>CX outer H s E e s'
structure g7 (P:Program) (w:World) (K:PySem.W.Frag) (mg:Str→Option Value) (base:Heap) (CX:jU) (k:Nat) (f:Addr) (fd:FuncData) (aM:List Str) (sp:i9):Prop where
 len:∀vs H Q E,sp vs H Q E→vs.length=aM.length
 run:∀(A:Around) (outer:List Env) (s:Shared) (H:ao) (args:Args) (us:List Value) (vs:List V) (Q:cW) (E:c8),dv k A→oE P w K mg base A outer s H→BindsTo s fd args (aM.zip us)→Vals vs us→sp vs H Q E→
  codeAny (model P w) A (.call (.ref f) args) (Jk CX outer P w H s Q E) s
theorem oE.make {P:Program} {w:World} {K:PySem.W.Frag} {mg:Str→Option Value} {base:Heap} {A:Around} {outer:List Env} {s:Shared} {H:ao} (e:oE P w K mg base A outer s H) (C:Addr) (us:List Value) (kw:List (Str×Value)) :
  oE P w K mg base (A.under (.builtin "type.__call__" ⟨.ref C::us,kw⟩)) outer s H:=⟨by first | exact e.frames | (simpa [Around.under,Code.envs,Code.isFrame,pushEnvs] using e.frames),e.mod,e.bs,e.mu,e.iI,e.nH,e.bB,e.bare⟩
section
variable {X:aL} {pins:List (Addr×Obj)} {σ :St} {H:ao} {s s':Shared}
theorem Inv.yE (ae:Inv X pins σ H s):oE X.prog X.w X.K X.mg X.base X.A X.stack s H:=
 ⟨ae.ok.frames,ae.ok.mod,ae.bs,Nat.le_trans ae.ok.mu ae.xg,ae.stack,ae.Bg,ae.bB,ae.bare⟩
theorem Inv.after {Q:cW} {u:Value} (ae:Inv X pins σ H s) (h:xN X.stack X.prog X.w H s Q u s'):fS X pins σ Q u s':=by
 obtain ⟨v,H',os,bare,un,bB,r,q⟩:=h
 obtain ⟨hh,g,d,t,Rn⟩:=s'
 obtain rfl:Rn=s.os:=os
 exact ⟨v,H',ae.call (h':=hh) (g':=g) (d':=d) (t':=t) (ch:=[]) un bB bare (fun b z=>absurd z (by simp)),r,q⟩
end
noncomputable def ri (sp:i9) (gU:List V) (E:c8) (t:eA):TE:=fun σ H Q=>t σ H fun vs H1=>sp (vs ++ gU) H1 Q E
noncomputable def H3 (C:Addr) (m:Str) (sp:i9) (gU:List V) (E:c8) (cb:TE) (t:eA):TE:=fun σ H Q=>cb σ H fun x H1=>∃a a4 aW,x= .ref a∧H1 a=some (.ins C a4 aW)∧aW.lookup m=none∧
 t σ H1 fun vs aT=>sp (x::(vs ++ gU)) aT Q E
noncomputable def H2 (C:Addr) (sp:i9) (gU:List V) (E:c8) (t:eA):TE:=fun σ H Q=>t σ H fun vs H1=>∀x a4,H1 x=none→H1 a4=none→a4≠x→
 sp (.ref x::(vs ++ gU)) (upd (upd H1 a4 (.own x)) x (.ins C a4 [])) (fun v aT=>v= .non∧Q (.ref x) aT) E
noncomputable def Binds (K:PySem.W.Frag) (fd:FuncData) (aM:List Str) (ds:List Value):Prop:=
 ∀(s:Shared) (us:List Value),K.In s.heap→(us ++ ds).length=aM.length→BindsTo s fd ⟨us,[]⟩ (aM.zip (us ++ ds))
theorem Binds.all {K:PySem.W.Frag} {fd:FuncData} {aM:List Str} (h:∀us:List Value,us.length=aM.length→bindArgs fd ⟨us,[]⟩=pure (aM.zip us)):Binds K fd aM []:=fun s us _ hl=>by
 rw [List.append_nil] at hl ⊢
 exact .of_eq (h us hl)
noncomputable def Passes (CX:jU) (X:aL) (E:c8):Prop:=∀(pins:List (Addr×Obj)) (σ :St) (H:ao) (s:Shared) (e:Value) (s':Shared),Inv X pins σ H s→CX X.stack H s E e s'→X.xe e s'
section
variable {X:aL} {CX:jU} {k:Nat} {f C:Addr} {fd:FuncData} {aM:List Str} {sp:i9} {gU:List V} {ds:List Value} {E:c8} {x m:Str} {p pos apos:Pos} {e o:Expr} {aq:List Expr} {cb:TE} {t:eA}
theorem Hi {pins:List (Addr×Obj)} {σ :St} {H:ao} {s:Shared} {Q:cW} {us:List Value} {vs:List V} (F:g7 X.prog X.w X.K X.mg X.base CX k f fd aM sp) (hr:dv k X.A) (hb:Binds X.K fd aM ds) (hd:Vals gU ds) (hx:Passes CX X E)
  (ae:Inv X pins σ H s) (r:Vals vs us) (h:sp (vs ++ gU) H Q E):wpAny (model X.prog X.w) X.A (call (.ref f) us) (fS X pins σ Q) X.xe s:=by
 have bl:Vals (vs ++ gU) (us ++ ds):=r.append hd
 have hl:(us ++ ds).length=aM.length:=by rw [←bl.length]; exact F.len _ _ _ _ h
 refine wpAny_call (codeAny_mono (F.run X.A X.stack s H ⟨us,[]⟩ (us ++ ds) (vs ++ gU) Q E hr ae.yE (hb s us ae.e_ hl) bl h) fun r s' aO=>?_)
 cases r with
 | error e=>exact hx pins σ H s e s' ae aO
 | ok gm=>
   cases gm with
   | ret u=>exact ae.after aO
   | next=>exact False.elim aO
   | brk=>exact False.elim aO
   | cont=>exact False.elim aO
theorem wM (F:g7 X.prog X.w X.K X.mg X.base CX k f fd aM sp) (hr:dv k X.A) (hg:cN X x) (hm:X.mg x=some (.ref f)) (hk:PySem.W.keepIn X.K (.ref f)=true) (hb:Binds X.K fd aM ds) (hd:Vals gU ds) (hx:Passes CX X E)
  (ha:eN X (e::aq) t) (hdb:(x == ("__debug__" :Str))=false:=by decide) (he:starEach (e::aq) X.env=(false,eval e X.env)::starEach aq X.env:=by rfl) (hpl:(backTo pos (starEach aq X.env)).any (·.1)=false:=by rfl) :
  aZ X (.Call (.Name x p) (e::aq) [] pos) (ri sp gU E t):=by
 intro pins s σ H Q ae h
 refine wpAny_Call_Name_kw (qM ae hg hm ?_ hdb)
 refine PySem.W.callWith_K (h₀:=X.base) ae.ok.mod.mH hk (bL (ha pos pins s σ H _ ae h) fun us s1 ⟨vs,H1,aR,r,q⟩=>⟨aR.e_,?_⟩) he hpl
 exact Hi F hr hb hd hx aR r q
theorem RR {pl:Sem Bool} (he:aZ X o cb) (c:jr X.K C) (hm:Meth X.K C m f) (F:g7 X.prog X.w X.K X.mg X.base CX k f fd aM sp) (hr:dv k X.A) (hb:Binds X.K fd aM ds) (hd:Vals gU ds) (hx:Passes CX X E) (ha:eN X (e::aq) t)
  (hst:starEach (e::aq) X.env=(false,eval e X.env)::starEach aq X.env:=by rfl) (hpl:(backTo pos (starEach aq X.env)).any (·.1)=false:=by rfl)
  (ht:eval (.Call (.Attribute o m apos) (e::aq) [] pos) X.env=(do
    let f6 ←eval o X.env
    standAt apos.atName
    let (f,first) ←holding [f6] (getMethod f6 m pl)
    callWith pos f first (backTo pos (starEach (e::aq) X.env)) (backToKw pos (keywordEach [] X.env))):=by rfl) :
  aZ X (.Call (.Attribute o m apos) (e::aq) [] pos) (H3 C m sp gU E cb t):=by
 intro pins s σ H Q ae h
 refine PySem.W.methodCall_KW (pl:=pl) (bL (he pins s σ H _ ae h) fun u s1 ⟨x,H1,aR,bt,a,a4,aW,ex,au,l,q⟩=>?_) ht
 subst ex
 obtain rfl:u=Value.ref a:=bt
 refine ED aR au c hm l ?_
 refine PySem.W.callWith_K (first:=[.ref a]) (h₀:=X.base) ae.ok.mod.mH hm.aI (bL (ha pos pins s1 σ H1 _ aR q) fun us s2 ⟨vs,aT,cv,r,bX⟩=>⟨cv.e_,?_⟩) hst hpl
 exact Hi (us:= .ref a::us) (vs:= .ref a::vs) F hr hb hd hx cv (.cons rfl r) bX
structure uc (K:PySem.W.Frag) (C f:Addr):Prop where
 makes:PySem.W.makesIn K C=true
 init:PySem.W.findIn K (.ref C) "__init__"=some (some (.ref f))
 fn:PySem.W.isFn K (.ref f)=true
 aI:PySem.W.keepIn K (.ref C)=true
theorem S1 {pins:List (Addr×Obj)} {σ :St} {H:ao} {s:Shared} {Q:cW} {us:List Value} {vs:List V} (M:uc X.K C f) (F:g7 X.prog X.w X.K X.mg X.base CX k f fd aM sp) (hr:dv (k + 1) X.A) (hb:Binds X.K fd aM ds) (hd:Vals gU ds)
  (hx:Passes CX X E) (ae:Inv X pins σ H s) (r:Vals vs us)
  (h:∀x a4,H x=none→H a4=none→a4≠x→sp (.ref x::(vs ++ gU)) (upd (upd H a4 (.own x)) x (.ins C a4 [])) (fun v aT=>v= .non∧Q (.ref x) aT) E) :
  wpAny (model X.prog X.w) X.A (call (.ref C) us) (fS X pins σ Q) X.xe s:=by
 have aO:=h (s.heap.objs.size + 1) s.heap.objs.size (ae.bB.fresh (Nat.le_succ _)) (ae.bB.fresh (Nat.le_refl _)) (Nat.ne_of_lt (Nat.lt_succ_self _))
 have cv:=Inv.made (C:=C) ae
 have bl:Vals (V.ref (s.heap.objs.size + 1)::(vs ++ gU)) (Value.ref (s.heap.objs.size + 1)::(us ++ ds)):= .cons rfl (r.append hd)
 have hl:(Value.ref (s.heap.objs.size + 1)::us ++ ds).length=aM.length:=by
  have e:=bl.length
  rw [F.len _ _ _ _ aO] at e
  exact e.symm
 refine wpAny_call (Qe (f:=f) ae.e_ M.makes M.init (beq_iff_eq.mp M.fn) (codeAny_mono (F.run _ X.stack _ _ ⟨Value.ref (s.heap.objs.size + 1)::us,[]⟩ (Value.ref (s.heap.objs.size + 1)::(us ++ ds)) _ _ E (hr.make C us [])
  (cv.yE.make C us []) (hb _ (Value.ref (s.heap.objs.size + 1)::us) cv.e_ hl) bl aO) fun r s' nI=>?_))
 cases r with
 | error e=>exact hx pins σ _ _ e s' cv nI
 | ok gm=>
   cases gm with
   | ret u=>
     obtain ⟨v,H',d0,cq,ev,eU⟩:=cv.after nI
     subst ev
     exact ⟨cq,⟨V.ref (s.heap.objs.size + 1),H',d0,rfl,eU⟩⟩
   | next=>exact False.elim nI
   | brk=>exact False.elim nI
   | cont=>exact False.elim nI
theorem RQ (M:uc X.K C f) (F:g7 X.prog X.w X.K X.mg X.base CX k f fd aM sp) (hr:dv (k + 1) X.A) (hg:cN X x) (hm:X.mg x=some (.ref C)) (hb:Binds X.K fd aM ds) (hd:Vals gU ds) (hx:Passes CX X E)
  (ha:eN X (e::aq) t) (hdb:(x == ("__debug__" :Str))=false:=by decide) (he:starEach (e::aq) X.env=(false,eval e X.env)::starEach aq X.env:=by rfl) (hpl:(backTo pos (starEach aq X.env)).any (·.1)=false:=by rfl) :
  aZ X (.Call (.Name x p) (e::aq) [] pos) (H2 C sp gU E t):=by
 intro pins s σ H Q ae h
 refine wpAny_Call_Name_kw (qM ae hg hm ?_ hdb)
 refine PySem.W.callWith_K (h₀:=X.base) ae.ok.mod.mH M.aI (bL (ha pos pins s σ H _ ae h) fun us s1 ⟨vs,H1,aR,r,q⟩=>⟨aR.e_,?_⟩) he hpl
 exact S1 M F hr hb hd hx aR r q
end
section
variable {X:aL} {CX:jU} {k:Nat} {f C:Addr} {fd:FuncData} {aM a_:List Str} {sp:i9} {E:c8} {x m:Str} {p pos apos W0:Pos} {e o:Expr} {aq:List Expr} {W2:List Keyword} {te cb:TE} {t du:eA} {nm:Option Str}
variable {g:List Value→List Value→List Value} {WR:List V→List V→List V}
end
structure cV (N P:List Str) (sc:Scope):Prop where
 kind:sc.kind= .function
 co:sc.isCoroutine=false
 gen:sc.isGenerator=false
 bg:N.Nodup
 pre:N.take P.length=P
 par:∀x∈P,sc.names.lookup x=some .local∨sc.names.lookup x=some .cell
 QA:∀y∈sc.names,y.2≠ .free
theorem CJ {kindOf:Str→Option NameKind} {x:Str}:∀{binds:List (Str×Value)} {m:Str→Option Value},(∀v,(x,v)∉binds)→bindL kindOf binds m x=m x
 | [],_,_=>rfl
 | (n,v)::r,m,h=>by
   unfold bindL
   rw [CJ fun w hw=>h w (List.mem_cons_of_mem _ hw)]
   split
   · have:x≠n:=by rintro rfl; exact h v List.mem_cons_self
     simp [this]
   · rfl
theorem CH {kindOf:Str→Option NameKind} {x:Str}:∀{binds:List (Str×Value)} {m:Str→Option Value},(∀v,(x,v)∉binds)→bindC kindOf binds m x=m x
 | [],_,_=>rfl
 | (n,v)::r,m,h=>by
   unfold bindC
   rw [CH fun w hw=>h w (List.mem_cons_of_mem _ hw)]
   split
   · rfl
   · have:x≠n:=by rintro rfl; exact h v List.mem_cons_self
     simp [this]
theorem CI {kindOf:Str→Option NameKind} {x:Str} {v:Value}:∀{P:List Str} {vs:List Value} {i:Nat} {m:Str→Option Value},P.Nodup→P[i]? =some x→vs[i]? =some v→kindOf x=some .local→
  bindL kindOf (P.zip vs) m x=some v
 | [],_,_,_,_,h,_,_=>by simp at h
 | _::_,[],_,_,_,_,h,_=>by simp at h
 | p::P,w::vs,0,m,bg,h1,h2,hk=>by
   simp at h1 h2; subst h1; subst h2
   show bindL kindOf ((p,w)::P.zip vs) m p=_
   unfold bindL
   rw [CJ fun v hv=>(List.nodup_cons.mp bg).1 (List.of_mem_zip hv).1,if_pos hk]
   simp
 | p::P,w::vs,i + 1,m,bg,h1,h2,hk=>by
   show bindL kindOf ((p,w)::P.zip vs) m x=_
   unfold bindL
   exact CI (i:=i) (List.nodup_cons.mp bg).2 (by simpa using h1) (by simpa using h2) hk
theorem CG {kindOf:Str→Option NameKind} {x:Str} {v:Value}:∀{P:List Str} {vs:List Value} {i:Nat} {m:Str→Option Value},P.Nodup→P[i]? =some x→vs[i]? =some v→kindOf x≠some .local→
  bindC kindOf (P.zip vs) m x=some v
 | [],_,_,_,_,h,_,_=>by simp at h
 | _::_,[],_,_,_,_,h,_=>by simp at h
 | p::P,w::vs,0,m,bg,h1,h2,hk=>by
   simp at h1 h2; subst h1; subst h2
   show bindC kindOf ((p,w)::P.zip vs) m p=_
   unfold bindC
   rw [CH fun v hv=>(List.nodup_cons.mp bg).1 (List.of_mem_zip hv).1,if_neg hk]
   simp
 | p::P,w::vs,i + 1,m,bg,h1,h2,hk=>by
   show bindC kindOf ((p,w)::P.zip vs) m x=_
   unfold bindC
   exact CG (i:=i) (List.nodup_cons.mp bg).2 (by simpa using h1) (by simpa using h2) hk
noncomputable def start (N:List Str) (vs:List V):St:=vs.map some ++ List.replicate (N.length - vs.length) none
noncomputable def eE (CX:jU) (P:Program) (w:World) (K:PySem.W.Frag) (mg:Str→Option Value) (base:Heap) (N:List Str) (qual:Str) (scope:Scope) (f:Addr) (cd:Value) (A:Around) (outer:List Env) (s:Shared) (H:ao) (E:c8):aL where
 prog:=P
 w:=w
 K:=K
 mg:=mg
 base:=base
 A:=A.deeper (envOfC qual scope s.heap.objs.size f cd)
 N:=N
 eR:=s
 oF:=H
 env:=envOfC qual scope s.heap.objs.size f cd
 outer:=outer
 stack:=envOfC qual scope s.heap.objs.size f cd::outer
 ex:=[]
 calm:=true
 fn:=fun _=>true
 n8:=[]
 xe:=fun e s'=>wpAny (model P w) (A.deeper (envOfC qual scope s.heap.objs.size f cd)) (leaving (envOfC qual scope s.heap.objs.size f cd) e) (fun _ jP=>CX outer H s E e jP) (fun cU jP=>CX outer H s E cU jP) s'
theorem CV {sc:Scope} {n:Nat} {x:Str} (h:sc.names.lookup x=some .cell):∃c,(cellsFrom n sc.names []).lookup x=some c:=by
 have q:=PySem.W.cellsFrom_some sc.names n [] (.inl h)
 exact Option.isSome_iff_exists.mp q
theorem Oz {CX:jU} {P:Program} {w:World} {K:PySem.W.Frag} {mg:Str→Option Value} {base:Heap} {N aM:List Str} {qual:Str} {scope:Scope} {f:Addr} {cd:Value} {A:Around} {outer:List Env} {s s1:Shared} {H:ao} {E:c8} {us:List Value} {vs:List V}
  (S:cV N aM scope) (hd:A.handled=none) (cw:oE P w K mg base A outer s H) (hl:vs.length=aM.length) (r:Vals vs us)
  (x:InCallC s s.heap.objs.size (bindL (envOfC qual scope s.heap.objs.size f cd).kindOf (aM.zip us) fun _=>none) (cellsFrom (s.heap.objs.size + 1) scope.names []) (bindC (envOfC qual scope s.heap.objs.size f cd).kindOf (aM.zip us) fun _=>none) s1) :
  Inv (eE CX P w K mg base N qual scope f cd A outer s H E) [] (start N vs) H s1:=by
 have hpl:aM.length≤N.length:=by have:=congrArg List.length S.pre; rw [List.length_take] at this; omega
 obtain ⟨h1,du,rfl,hk⟩:=x.done
 have tf:∀b:Addr,b∉(eE CX P w K mg base N qual scope f cd A outer s H E).ex:=fun b z=>absurd (show b∈([]:List Addr) from z) (by simp)
 refine ⟨⟨cw.mod,S.kind,rfl,rfl,Nat.le_refl _,fun y z c h1 h2=>?_,fun y b5=>?_,fun y c _ h=>?_,fun _=>hd,Around.frames_deeper cw.frames,.inr ⟨rfl,rfl⟩,fun b z=>absurd z (tf b),cw.bs,cw.mu,fun b _ _=>tf b,fun b z=>absurd z (tf b),cw.iI,cw.nH⟩,
  rfl,cw.bare,fv.kept hk,⟨_,x.toInCall.ns,fun i y v h1 h2 h3=>?_⟩,fun y c h=>⟨_,x.cell y c h⟩,cw.bB.fresh (Nat.le_refl _),fun y c h=>?_,fun p hp=>absurd (show p∈([]:List (Addr×Obj)) from hp) (by simp),cw.bB.kept hk,?_⟩
 · exact name_of_addr x.apart (PySem.mem_of_lookup h1) (PySem.mem_of_lookup h2)
 · have b5:scope.names.lookup y=some .cell∨scope.names.lookup y=some .free:=b5
   rcases b5 with b5 | b5
   · exact CV b5
   · exact absurd rfl (S.QA _ (PySem.mem_of_lookup b5))
 · exact Nat.le_of_lt (x.above y c (PySem.mem_of_lookup h))
 · have hi:i < vs.length:=by
    unfold start at h2
    by_cases hi:i < vs.length
    · exact hi
    · rw [List.getElem?_append_right (by simpa using hi)] at h2
      rw [List.getElem?_replicate] at h2
      split at h2 <;> cases h2
   have ha:vs[i]? =some v:=by
    unfold start at h2
    rw [List.getElem?_append_left (by simpa using hi),List.getElem?_map] at h2
    cases e:vs[i]? with
    | none=>rw [e] at h2; cases h2
    | some a=>rw [e] at h2; cases h2; rfl
   obtain ⟨u,hu,cq⟩:=r.get ha
   have hp:aM[i]? =some y:=by
    rw [←S.pre,List.getElem?_take_of_lt (by omega)]; exact h1
   have F5:aM.Nodup:=by rw [←S.pre]; exact S.bg.sublist (List.take_sublist _ _)
   refine ⟨u,cq,?_⟩
   rcases S.par y (List.mem_of_getElem? hp) with k | k
   · exact .inl ⟨k,CI F5 hp hu k⟩
   · obtain ⟨c,e⟩:=CV (n:=s.heap.objs.size + 1) k
     refine .inr ⟨.inl k,c,e,?_⟩
     have q:=x.cell y c e
     rw [CG F5 hp hu (by show scope.names.lookup y≠_; rw [k]; decide)] at q
     exact q
 · exact cw.bB.fresh (Nat.le_of_lt (x.above y c (PySem.mem_of_lookup h)))
 · unfold start
   show _=N.length
   rw [List.length_append,List.length_map,List.length_replicate]
   omega
theorem Et {CX:jU} {P:Program} {w:World} {K:PySem.W.Frag} {mg:Str→Option Value} {base:Heap} {k:Nat} {f:Addr} {name qual:Str} {params:Arguments} {body:List Stmt} {scope:Scope} {vh cX doc pm cn cL eT:Value} {an dM:Option Addr}
  {kT:Array (Option Value)} {N aM:List Str} {sp:i9} (lk:K.lookup f=some ⟨eT,dM,.func (PySem.W.fnOf name qual params body scope vh cX doc pm an cn cL),kT⟩) (hcd:PySem.W.codeIn K cn qual=true) (S:cV N aM scope)
  (len:∀vs H Q E,sp vs H Q E→vs.length=aM.length)
  (y3:∀(A:Around) (outer:List Env) (s:Shared) (H:ao) (vs:List V) (Q:cW) (E:c8),dv k (A.deeper (envOfC qual scope s.heap.objs.size f cn))→sp vs H Q E→
    ∃t,fu (eE CX P w K mg base N qual scope f cn A outer s H E) body t∧t { aV:=fun _ H'=>Q .non H',dN:=Q } (start N vs) H) :
  g7 P w K mg base CX (k + 1) f (PySem.W.fnOf name qual params body scope vh cX doc pm an cn cL) aM sp:=by
 refine ⟨len,fun A outer s H args us vs Q E hr cw hb r nK=>?_⟩
 have hl:=len _ _ _ _ nK
 have kx:K.In s.heap:=cw.mod.mH.keeps fun b o e=>(cw.bs b o e).1
 have lim:s.heap.NoLimit:=cw.mod.nolimit.keeps fun b o e=>(cw.bs b o e).1
 have MU:∀y∈aM.zip us,scope.names.lookup y.1=some .local∨(scope.names.lookup y.1=some .cell∧((cellsFrom (s.heap.objs.size + 1) scope.names []).lookup y.1).isSome=true):=fun ⟨n,v⟩ b5=>by
  rcases S.par n (List.of_mem_zip b5).1 with q | q
  · exact .inl q
  · exact .inr ⟨q,PySem.W.cellsFrom_some _ _ _ (.inl q)⟩
 refine codeAny_call_function hr.depth (kx _ _ lk) rfl S.co S.gen rfl (PySem.W.codeRec_of kx hcd) (hb _ _ _ _ ?_)
 refine wpAny_newFunctionEnv_cells S.kind MU fun env he s1 x=>?_
 subst he
 refine ⟨lim.keeps x.toInCall.keep,codeAny_func ?_⟩
 obtain ⟨t,ht,aO⟩:=y3 A outer s H vs Q E (hr.deeper _) nK
 have ae:Inv (eE CX P w K mg base N qual scope f cn A outer s H E) [] (start N vs) H s1:=Oz S hr.hd cw hl r x
 refine wpAny_mono (ht [] s1 (start N vs) H _ ae aO) (fun gm s' hs=>?_) fun e s' hs=>hs
 have fin:∀{σ' :St} {H':ao} {v:V} {u:Value},Inv (eE CX P w K mg base N qual scope f cn A outer s H E) [] σ' H' s'→RelV v u→Q v H'→xN outer P w H s Q u s':=
  fun {σ' H' v u} bJ cq q=>⟨v,H',bJ.os,bJ.bare,bJ.base,bJ.bB,cq,q⟩
 cases gm with
 | ret u=>
   obtain ⟨v,σ',H',bJ,cq,q⟩:=hs
   exact fin bJ cq q
 | next=>
   obtain ⟨σ',H',bJ,q⟩:=hs
   exact fin (v:=V.non) (u:=Value.none) bJ rfl q
 | brk=>
   obtain ⟨_,_,_,q⟩:=hs
   exact False.elim q
 | cont=>
   obtain ⟨_,_,_,q⟩:=hs
   exact False.elim q
end bb
namespace bb
open PySem PySem.Spec PyProof.Rows
section
variable {X:aL} {x:Str} {p pos:Pos} {e:Expr} {aq:List Expr} {t:eA} {id T:String} {r:List V→ao→cW→Prop}
noncomputable def tC (r:List V→ao→cW→Prop) (t:eA):TE:=fun σ H Q=>t σ H fun vs H1=>r vs H1 Q
theorem wN (hc:jq X (.builtin id) r) (hg:cN X x) (hm:X.mg x=none) (hv:bootBuiltins x=some (.builtin id)) (ha:eN X (e::aq) t) (aC:x≠"__name__":=by decide) (hdb:(x == ("__debug__" :Str))=false:=by decide)
  (he:starEach (e::aq) X.env=(false,eval e X.env)::starEach aq X.env:=by rfl) (hpl:(backTo pos (starEach aq X.env)).any (·.1)=false:=by rfl):aZ X (.Call (.Name x p) (e::aq) [] pos) (tC r t):=by
 intro pins s σ H Q ae h
 refine wpAny_Call_Name_kw (pe ae hg hm hv ?_ aC hdb)
 exact PyProof.Rows.callWith_builtin1 (bL (ha pos pins s σ H _ ae h) fun us s1 ⟨vs,H1,aR,av,a7⟩=>hc pins s1 σ H1 vs us Q aR av a7) he hpl
theorem GD (hc:jq X (.type T) r) (hg:cN X x) (hm:X.mg x=none) (hv:bootBuiltins x=some (.type T)) (ha:eN X (e::aq) t) (aC:x≠"__name__":=by decide) (hdb:(x == ("__debug__" :Str))=false:=by decide)
  (he:starEach (e::aq) X.env=(false,eval e X.env)::starEach aq X.env:=by rfl) (hpl:(backTo pos (starEach aq X.env)).any (·.1)=false:=by rfl):aZ X (.Call (.Name x p) (e::aq) [] pos) (tC r t):=by
 intro pins s σ H Q ae h
 refine wpAny_Call_Name_kw (pe ae hg hm hv ?_ aC hdb)
 exact PyProof.Rows.callWith_type1 (bL (ha pos pins s σ H _ ae h) fun us s1 ⟨vs,H1,aR,av,a7⟩=>hc pins s1 σ H1 vs us Q aR av a7) he hpl
end
end bb
namespace dZ
open PySem PyProof.Rows
section
open PySem.SeqAt
open PySem.AutoSeq1 (wpAny_loadPart')
open PySem.MeetsSeq PySem.MeetsSeq2 PySem.MeetsSeq3
end
section
variable {prog:Program} {w:World} {A:Around} {E:Value→Shared→Prop} {s:Shared}
theorem Kn {t b:Addr} {vs ws:List Value} {Q:Value→Shared→Prop} (ht:IsTup s.heap t vs.toArray) (hb:IsTup s.heap b ws.toArray) (hv:vs≠[])
  (h1:ws=[]→Q (.ref t) s) (h2:ws≠[]→Q (.ref s.heap.objs.size) { s with heap:=s.heap.push { cls:= .type "tuple",data:= .seq (vs ++ ws).toArray } })
  (hsz:vs.length + ws.length≤sizeLine):wpAny (model prog w) A (binaryOp .Add (.ref t) (.ref b)) Q E s:=by
 obtain ⟨⟨cls,dd,data,cB⟩,ho,hc,n,hd⟩:=id ht
 obtain ⟨⟨Kp,vj,data2,lX⟩,o9,j8,dc,hd2⟩:=id hb
 simp only at hc hd j8 hd2
 subst hc hd j8 hd2
 have e:vs.toArray ++ ws.toArray=(vs ++ ws).toArray:=by simp
 by_cases hw:ws=[]
 · exact concat_meets ⟨_,ho,rfl⟩ ⟨_,o9,rfl⟩ noFill_tuple_add seq_tuple_add PySem.F.slot_tuple_add PySem.F.entry_tuple_add (PySem.F.args_tuple_add_2 _ _)
    (tuple_addW1 t b vs.toArray ws.toArray n dc dd vj cB lX (by simpa using hv) (by simp [hw])) ⟨ho,o9,h1 hw⟩
 · refine concat_meets ⟨_,ho,rfl⟩ ⟨_,o9,rfl⟩ noFill_tuple_add seq_tuple_add PySem.F.slot_tuple_add PySem.F.entry_tuple_add (PySem.F.args_tuple_add_2 _ _)
    (tuple_addW2 t b vs.toArray ws.toArray n dc dd vj cB lX (by simpa using hv) (by simpa using hw) (by rw [List.size_toArray,List.size_toArray]; exact hsz)) ⟨ho,o9,?_⟩
   rw [e]
   exact h2 hw
noncomputable def ew (n d:Nat):Option Int→Nat
 | none=>d
 | some v=>if v < 0 then (v + (n:Int)).toNat else min v.toNat n
theorem Hl (n d:Nat) (hd:d≤n) (o:Option Int):ew n d o≤n:=by
 cases o with
 | none=>exact hd
 | some v=>
   show (if v < 0 then (v + (n:Int)).toNat else min v.toNat n)≤n
   by_cases hv:v < 0
   · rw [if_pos hv]; omega
   · rw [if_neg hv]; exact Nat.min_le_right _ _
end
end dZ
namespace bb
open PySem PySem.Spec PyProof.Rows
noncomputable abbrev b9:=St→ao→(Option Int→ao→Prop)→Prop
noncomputable def p4 (X:aL) (e:Option Expr) (t:b9):Prop:=
 ∀(pins:List (Addr×Obj)) (s:Shared) (σ :St) (H:ao) (Q:Option Int→ao→Prop),Inv X pins σ H s→t σ H Q→
  wpAny (model X.prog X.w) X.A (evalPart e X.env) (fun u s'=>∃o H',Inv X pins σ H' s'∧IsPart u o∧Q o H') X.xe s
noncomputable def UK:b9:=fun _ H Q=>Q none H
noncomputable def UL (t:TE):b9:=fun σ H Q=>t σ H fun x H1=>∃i,x= .int i∧Q (some i) H1
section
variable {X:aL} {e:Expr} {te:TE} {lo hi:Option Expr} {gM xm:b9} {pos b7:Pos}
theorem R8:p4 X none UK:=by
 intro pins s σ H Q ae h
 rw [evalPart_none]
 exact wpAny_pure ⟨none,H,ae,.none,h⟩
theorem R9 (h:aZ X e te):p4 X (some e) (UL te):=by
 intro pins s σ H Q ae hw
 rw [evalPart_some]
 refine bL (h pins s σ H _ ae hw) fun u s1 ⟨x,H1,aR,av,a7⟩=>?_
 obtain ⟨i,rfl,q⟩:=a7
 obtain ⟨t,rfl⟩:=av
 exact ⟨some i,H1,aR,.int i t,q⟩
noncomputable def oN (X:aL) (r:V→Option Int→Option Int→ao→cW→Prop):Prop:=
 ∀(pins:List (Addr×Obj)) (s:Shared) (σ :St) (H:ao) (x:V) (v kp kq:Value) (lo hi:Option Int) (cB:Addr) (Q:cW),Inv X pins σ H s→RelV x v→s.heap.IsSliceOf cB kp kq .none→IsPart kp lo→IsPart kq hi→r x lo hi H Q→
  ∃T id,typeLookup (.type T) "__getitem__"=pure (some (.builtin id))∧s.TypeIs v T∧wpAny (model X.prog X.w) X.A (getItem v (.ref cB)) (fS X pins σ Q) X.xe s
theorem oN.or {r bf:V→Option Int→Option Int→ao→cW→Prop} (h:oN X r) (h':oN X bf):oN X (fun x lo hi H Q=>r x lo hi H Q∨bf x lo hi H Q):=by
 intro pins s σ H x v kp kq lo hi cB Q ae bt hs pl pu q
 rcases q with q | q
 · exact h pins s σ H x v kp kq lo hi cB Q ae bt hs pl pu q
 · exact h' pins s σ H x v kp kq lo hi cB Q ae bt hs pl pu q
noncomputable def H_ (r:V→Option Int→Option Int→ao→cW→Prop) (te:TE) (gM xm:b9):TE:=fun σ H Q=>te σ H fun x H1=>gM σ H1 fun l aT=>xm σ aT fun u di=>r x l u di Q
theorem RW {r:V→Option Int→Option Int→ao→cW→Prop} (hr:oN X r) (he:aZ X e te) (hl:p4 X lo gM) (hu:p4 X hi xm):aZ X (.Subscript e (.Slice lo hi none b7) pos) (H_ r te gM xm):=by
 intro pins s σ H Q ae h
 refine Subscript_ (bL (he pins s σ H _ ae h) fun v s1 ⟨x,H1,aR,av,a7⟩=>?_)
 refine wpAny_Slice (bL (hl pins s1 σ H1 _ aR a7) fun kp s2 ⟨l,aT,cv,pl,bX⟩=>bL (hu pins s2 σ aT _ cv bX) fun kq s3 ⟨u,di,d0,pu,eU⟩=>?_)
 rw [evalPart_none]
 refine wpAny_pure ?_
 have jV:Inv X pins σ di { s3 with heap:=s3.heap.push { cls:= .type "slice",data:= .fields #[kp,kq,.none] } }:=d0.kept (t':=s3.toks) fun b a3 q=>Heap.get?_push_of_some _ q
 obtain ⟨T,id,hy,ht,hg⟩:=hr pins { s3 with heap:=s3.heap.push { cls:= .type "slice",data:= .fields #[kp,kq,.none] } } σ di x v kp kq l u s3.heap.objs.size Q jV av (Heap.IsSliceOf.new ..) pl pu eU
 show wpAny (model X.prog X.w) X.A (subscriptTail e (.Slice lo hi none b7) v (.ref s3.heap.objs.size)) (fS X pins σ Q) X.xe { s3 with heap:=s3.heap.push { cls:= .type "slice",data:= .fields #[kp,kq,.none] } }
 exact tail_any (ops:=[.ref s3.heap.objs.size,v]) ht hy hg (by with_unfolding_all rfl)
noncomputable def qr (xs:List V) (lo hi:Option Int):List V:=(xs.drop (dZ.ew xs.length 0 lo)).take (dZ.ew xs.length xs.length hi - dZ.ew xs.length 0 lo)
theorem Kw (xs:List V) (lo hi:Option Int):(qr xs lo hi).length≤xs.length:=by
 unfold qr
 rw [List.length_take,List.length_drop]
 omega
noncomputable def G3 (K:PySem.W.Frag):ed:=fun x y H Q=>∃a b xs ys,x= .ref a∧y= .ref b∧cK K H a xs∧cK K H b ys∧xs≠[]∧xs.length + ys.length≤sizeLine∧
 (ys=[]→Q (.ref a) H)∧(ys≠[]→∀p,H p=none→Q (.ref p) (upd H p (.tup (xs ++ ys))))
theorem Vals.zZ {xs:List V} {us:List Value} (r:Vals xs us):us=[]↔xs=[]:=by
 cases r with
 | nil=>simp
 | cons _ _=>simp
theorem Q9:dr X (binaryOp .Add) (G3 X.K):=by
 intro pins s σ H x y v u Q ae bt b0 h
 obtain ⟨a,b,xs,ys,rfl,rfl,ha,hb,hx,br,a7,bX⟩:=h
 cases bt
 cases b0
 obtain ⟨its,av,fp,_⟩:=ae.tuple ha
 obtain ⟨eH,bl,b7,_⟩:=ae.tuple hb
 refine dZ.Kn fp b7 (fun z=>hx (av.zZ.mp z)) (fun z=>⟨.ref a,H,ae,rfl,a7 (bl.zZ.mp z)⟩) (fun z=>?_) (by rw [←av.length,←bl.length]; exact br)
 refine ⟨.ref s.heap.objs.size,_,ae.laid (t':=s.toks) (o:= .tup (xs ++ ys)) (fun b a3 q=>Heap.get?_push_of_some _ q) (Nat.le_refl _) ?_,rfl,bX (fun w=>z (bl.zZ.mpr w)) _ (ae.bB.fresh (Nat.le_refl _))⟩
 exact ⟨by rw [List.length_append]; exact br,_,av.append bl,IsTup.new _ _⟩
end
end bb
namespace bb
open PySem PySem.Spec PyProof.Rows
noncomputable def pb (n:Nat) (i:Int):Option Nat:=if 0≤i then (if i < n then some i.toNat else none) else if -(n:Int)≤i then some (i + n).toNat else none
noncomputable def iE {α:Type} (xs:List α) (i:Int):Option α:=(pb xs.length i).bind fun j=>xs[j]?
theorem OR {n:Nat} {i:Int} {j:Nat} (h:pb n i=some j):seqIndex? i n=some j∧j < n∧ -(n:Int)≤i∧i < n:=by
 unfold pb at h
 by_cases h0:0≤i
 · rw [if_pos h0] at h
   by_cases h1:i < n
   · rw [if_pos h1] at h
     have e:i.toNat=j:=Option.some.inj h
     exact ⟨by rw [seqIndex_of h0 h1,e],by omega,by omega,h1⟩
   · rw [if_neg h1] at h; cases h
 · rw [if_neg h0] at h
   by_cases h1: -(n:Int)≤i
   · rw [if_pos h1] at h
     have e:(i + n).toNat=j:=Option.some.inj h
     exact ⟨by rw [seqIndex_neg (by omega) h1,e],by omega,h1,by omega⟩
   · rw [if_neg h1] at h; cases h
theorem yc {α:Type} {xs:List α} {i:Int} {v:α} (h:iE xs i=some v):∃j,seqIndex? i xs.length=some j∧xs[j]? =some v∧j < xs.length∧ -(xs.length:Int)≤i∧i < xs.length:=by
 unfold iE at h
 cases e:pb xs.length i with
 | none=>rw [e] at h; cases h
 | some j=>
   rw [e] at h
   obtain ⟨h1,h2,h3,h4⟩:=OR e
   exact ⟨j,h1,h,h2,h3,h4⟩
theorem uw {α:Type} {xs:List α} {j:Nat} {v:α} (h:xs[j]? =some v):iE xs (j:Int)=some v:=by
 have dx:j < xs.length:=(List.getElem?_eq_some_iff.mp h).1
 have e:pb xs.length (j:Int)=some j:=by
  unfold pb
  rw [if_pos (by omega),if_pos (by omega)]; simp
 unfold iE; rw [e]; exact h
noncomputable def rL (b:Expr):Prop:=∀o i,subscripted b false o i=operate [o,i] (getItem o i)
noncomputable def mc (X:aL) (r:ed):Prop:=
 ∀(value slice:Expr) (pins:List (Addr×Obj)) (s:Shared) (σ :St) (H:ao) (x y:V) (v u:Value) (Q:cW),Inv X pins σ H s→RelV x v→RelV y u→r x y H Q→
  subscripted slice false v u=operate [v,u] (getItem v u)→wpAny (model X.prog X.w) X.A (subscriptTail value slice v u) (fS X pins σ Q) X.xe s
noncomputable def xZ (X:aL) (id:String) (r:V→List V→ao→cW→Prop):Prop:=
 ∀(pins:List (Addr×Obj)) (s:Shared) (σ :St) (H:ao) (x:V) (xs:List V) (v:Value) (us:List Value) (Q:cW),Inv X pins σ H s→RelV x v→Vals xs us→r x xs H Q→
  wpAny (model X.prog X.w) X.A (call (.builtin id) (v::us)) (fS X pins σ Q) X.xe s
section
variable {X:aL} {a b:Expr} {cb tb:TE} {pos:Pos}
theorem mc.or {r bf:ed} (h:mc X r) (h':mc X bf):mc X (fun x y H Q=>r x y H Q∨bf x y H Q):=by
 intro value slice pins s σ H x y v u Q ae bt b0 q hs
 rcases q with q | q
 · exact h value slice pins s σ H x y v u Q ae bt b0 q hs
 · exact h' value slice pins s σ H x y v u Q ae bt b0 q hs
theorem GH {r:ed} (hr:mc X r) (ha:aZ X a cb) (hb:aZ X b tb) (hs:rL b):aZ X (.Subscript a b pos) (tE r cb tb):=by
 intro pins s σ H Q ae h
 exact Subscript_ (yi ha hb ae h fun v u s2 x y aT cv bt b0 q=>hr a b pins s2 σ aT x y v u Q cv bt b0 q (hs _ _))
noncomputable def G7 (K:PySem.W.Frag):ed:=fun x y H Q=>∃p xs i v,x= .ref p∧y= .int i∧b4 K H p xs∧iE xs i=some v∧Q v H
noncomputable def G9 (K:PySem.W.Frag):ed:=fun x y H Q=>∃p xs i v,x= .ref p∧y= .int i∧cK K H p xs∧iE xs i=some v∧Q v H
noncomputable def G8:ed:=fun x y H Q=>∃z i c,x= .str z∧y= .int i∧z.length≤sizeLine∧iE z.cps.toList i=some c∧Q (.str ⟨#[c]⟩) H
theorem OS:mc X (G7 X.K):=by
 intro value slice pins s σ H x y v u Q ae bt b0 h hs
 obtain ⟨p,xs,i,z,rfl,rfl,aO,he,q⟩:=h
 cases bt
 obtain ⟨t,rfl⟩:=b0
 obtain ⟨its,r,pl,br⟩:=ae.list aO
 obtain ⟨j,h1,h2,h3,h4,h5⟩:=yc he
 obtain ⟨w,gH,jO⟩:=r.get h2
 have hl:=r.length
 have aC:=sL
 have fin:fS X pins σ Q w s:=⟨z,H,ae,jO,q⟩
 by_cases h0:0≤i
 · have dx:i.toNat=j:=by
    rw [seqIndex_of h0 h5] at h1
    exact Option.some.inj h1
   exact item_listR pl.isList h0 (by omega) (by rw [dx]; simpa using gH) fin hs
 · have dx:(i + (its.toArray.size:Int)).toNat=j:=by
    rw [seqIndex_neg (by omega) h4] at h1
    rw [List.size_toArray,←hl]
    exact Option.some.inj h1
   exact subscriptTail_builtinR (x:=w) pl.isList.typeIs slot_list_getitem.lookup
    (wpAny_getItem_list_neg (Q:=fun r s'=>r=w∧fS X pins σ Q r s') pl.isList (by omega) (by rw [List.size_toArray] <;> omega) (by omega) (by rw [dx]; simpa using gH) ⟨rfl,fin⟩) hs
theorem nQ:mc X (G9 X.K):=by
 intro value slice pins s σ H x y v u Q ae bt b0 h hs
 obtain ⟨p,xs,i,z,rfl,rfl,aO,he,q⟩:=h
 cases bt
 obtain ⟨t,rfl⟩:=b0
 obtain ⟨its,r,pl,br⟩:=ae.tuple aO
 obtain ⟨j,h1,h2,h3,h4,h5⟩:=yc he
 obtain ⟨w,gH,jO⟩:=r.get h2
 have hl:=r.length
 have aC:=sL
 have fin:fS X pins σ Q w s:=⟨z,H,ae,jO,q⟩
 exact subscriptTail_builtinR (x:=w) pl.typeIs slot_tuple_getitem.lookup
  (getItem_tuple (j:=j) (Q:=fun r s'=>r=w∧fS X pins σ Q r s') pl (by omega) (by omega) (by rw [List.size_toArray,←hl]; exact h1) (by simpa using gH) ⟨rfl,fin⟩) hs
theorem OU:mc X G8:=by
 intro value slice pins s σ H x y v u Q ae bt b0 h hs
 obtain ⟨z,i,c,rfl,rfl,br,he,q⟩:=h
 obtain ⟨t,rfl⟩:=bt
 obtain ⟨t',rfl⟩:=b0
 obtain ⟨j,h1,h2,h3,h4,h5⟩:=yc he
 have hl:z.cps.toList.length=z.length:=by simp [Str.length]
 rw [hl] at h1 h4 h5
 have aC:=sL
 exact tail_any (typeIs_str s z t) slot_str_getitem.lookup (getItem_str (c:=c) (by
  have ar:decide (i < -(2 ^ 63:Int))=false:=decide_eq_false (by omega)
  have aG:decide (i≥2 ^ 63)=false:=decide_eq_false (by omega)
  rw [ar,aG,Bool.or_false]) (by rw [h1]; simpa using h2) ⟨.str ⟨#[c]⟩,H,ae.tok _,⟨_,rfl⟩,q⟩) hs
noncomputable def G6 (K:PySem.W.Frag):ed:=fun x y H Q=>G7 K x y H Q∨G9 K x y H Q∨G8 x y H Q
theorem Fy:mc X (G6 X.K):=OS.or (nQ.or OU)
theorem Inv.lst {pins:List (Addr×Obj)} {σ :St} {H:ao} {s:Shared} {p:Addr} {xs:List V} (ae:Inv X pins σ H s) (h:H p=some (.lst xs)) :
  ∃(its:List Value) (n:Nat),Vals xs its∧s.heap.get? p=some { cls:= .type "list",data:= .seq its.toArray n }∧xs.length≤sizeLine:=by
 obtain ⟨z,its,n,r,e⟩:=ae.bB p _ h
 exact ⟨its,n,r,e,z⟩
theorem Up (lo hi:Option Int) (n:Nat):(sliceBounds lo hi none n).1=((dZ.ew n 0 lo:Nat):Int)∧(sliceBounds lo hi none n).2.1=((dZ.ew n n hi:Nat):Int)∧(sliceBounds lo hi none n).2.2=1:=by
 refine ⟨?_,?_,rfl⟩
 · cases lo with
   | none=>simp [sliceBounds,dZ.ew]
   | some i=>
     simp only [sliceBounds,dZ.ew,Option.getD_none,show (1:Int) > 0 by decide,if_true]
     by_cases h:i < 0
     · simp only [h,if_true] <;> omega
     · simp only [h,if_false] <;> omega
 · cases hi with
   | none=>simp [sliceBounds,dZ.ew]
   | some i=>
     simp only [sliceBounds,dZ.ew,Option.getD_none,show (1:Int) > 0 by decide,if_true]
     by_cases h:i < 0
     · simp only [h,if_true] <;> omega
     · simp only [h,if_false] <;> omega
theorem Uo (its:List Value) (lo hi:Option Int):slicePick its.toArray lo hi none=((its.drop (dZ.ew its.length 0 lo)).take (dZ.ew its.length its.length hi - dZ.ew its.length 0 lo)).toArray:=by
 obtain ⟨h1,h2,h3⟩:=Up lo hi its.toArray.size
 unfold slicePick
 rw [h1,h2,h3]
 simp only [sliceRange_one,pick_run,List.size_toArray] <;> rfl
noncomputable def Ha (K:PySem.W.Frag):V→Option Int→Option Int→ao→cW→Prop:=fun x lo hi H Q=>∃a xs,x= .ref a∧b4 K H a xs∧∀p,H p=none→Q (.ref p) (upd H p (.lst (qr xs lo hi)))
theorem Um:oN X (Ha X.K):=by
 intro pins s σ H x v kp kq lo hi cB Q ae bt hs pl pu h
 obtain ⟨a,xs,rfl,hx,q⟩:=h
 cases bt
 obtain ⟨its,r,ht,br⟩:=ae.list hx
 have hlen:=r.length
 refine ⟨"list",_,slot_list_getitem.lookup,ht.isList.typeIs,?_⟩
 refine wpAny_getItem_list_slice ht.isList hs pl pu .none (by simp) ?_ (by rw [List.size_toArray] <;> omega)
 rw [Uo,←hlen]
 refine ⟨.ref s.heap.objs.size,_,ae.laid (t':=s.toks) (o:= .lst (qr xs lo hi)) (fun b a3 q=>Heap.get?_push_of_some _ q) (Nat.le_refl _) ?_,rfl,q _ (ae.bB.fresh (Nat.le_refl _))⟩
 exact ⟨Nat.le_trans (Kw xs lo hi) br,_,0,(r.drop (dZ.ew xs.length 0 lo)).take (dZ.ew xs.length xs.length hi - dZ.ew xs.length 0 lo),Heap.get?_push_size _ rfl⟩
theorem Kg:jq X (.type "list") (fun xs H Q=>∃p ys,xs=[.ref p]∧(b4 X.K H p ys∨cK X.K H p ys)∧∀l,H l=none→Q (.ref l) (upd H l (.lst ys))):=by
 intro pins s σ H xs us Q ae r h
 obtain ⟨p,ys,rfl,aO,q⟩:=h
 obtain ⟨u,rfl,bt⟩:=vals1 r
 cases bt
 have fin:∀(its:List Value),Vals ys its→ys.length≤sizeLine→∀(h':Heap) (fZ:Nat),(∀b b_,s.heap.get? b=some b_→h'.get? b=some b_)→
   h'.get? s.heap.objs.size=some { cls:= .type "list",dict:=none,data:= .seq its.toArray fZ,slots:= #[] }→fS X pins σ Q (.ref s.heap.objs.size) { s with heap:=h' }:=fun its bf br h' fZ aI e=>
  ⟨.ref s.heap.objs.size,_,ae.laid (t':=s.toks) aI (Nat.le_refl _) (show e5 X.prog X.w _ h' _ (.lst ys) from ⟨br,its,fZ,bf,e⟩),rfl,q _ (ae.bB.fresh (Nat.le_refl _))⟩
 rcases aO with aO | aO
 · obtain ⟨its,bf,pl,br⟩:=ae.list aO
   have hlen:=bf.length
   obtain ⟨o,ho,hc,n,hd⟩:=pl.isList
   exact call_list_seq p (.inl rfl) ho hc hd (fun h' fZ aI e=>fin its bf br h' fZ aI e) (by simp only [List.size_toArray] <;> omega)
 · obtain ⟨its,bf,pl,br⟩:=ae.tuple aO
   have hlen:=bf.length
   obtain ⟨o,ho,hc,n,hd⟩:=pl
   exact call_list_seq p (.inr rfl) ho hc hd (fun h' fZ aI e=>fin its bf br h' fZ aI e) (by simp only [List.size_toArray] <;> omega)
theorem Kk:jq X (.type "tuple") (fun xs H Q=>∃p ys,xs=[.ref p]∧((b4 X.K H p ys∧∀l,H l=none→Q (.ref l) (upd H l (.tup ys)))∨(cK X.K H p ys∧Q (.ref p) H))):=by
 intro pins s σ H xs us Q ae r h
 obtain ⟨p,ys,rfl,h⟩:=h
 obtain ⟨u,rfl,bt⟩:=vals1 r
 cases bt
 rcases h with ⟨aO,q⟩ | ⟨aO,q⟩
 · obtain ⟨its,bf,pl,br⟩:=ae.list aO
   have hlen:=bf.length
   refine call_tuple_list pl.isList (fun h' aI=>?_) (by simp only [List.size_toArray] <;> omega)
   have aR:Inv X pins σ H { s with heap:=h' }:=ae.kept (t':=s.toks) aI
   have cv:Inv X pins σ (upd H h'.objs.size (.tup ys)) { s with heap:=h'.push { cls:= .type "tuple",data:= .seq its.toArray } }:=
    aR.laid (t':=s.toks) (fun b o e=>Heap.get?_push_of_some _ e) (Nat.le_refl _) (show e5 X.prog X.w _ _ _ (.tup ys) from ⟨br,its,bf,IsTup.new _ _⟩)
   exact ⟨.ref h'.objs.size,_,cv,rfl,q _ (aR.bB.fresh (Nat.le_refl _))⟩
 · obtain ⟨its,bf,pl,br⟩:=ae.tuple aO
   exact call_tuple_same pl ⟨.ref p,H,ae,rfl,q⟩
noncomputable def Bx (K:PySem.W.Frag) (T:String) (x:V) (H:ao):Prop:=match x with
 | .str _=>T="str"
 | .int _=>T="int"
 | .ref p=>(T="list"∧∃xs,b4 K H p xs)∨(T="tuple"∧∃o,K.lookup p=some o∧o.cls= .type "tuple"∧o.dict=none)∨
     (T="dict"∧((∃aX,H p=some (.dg aX))∨∃aX,H p=some (.a0 aX)))∨(T="set"∧∃S n,H p=some (.set S n))
 | _=>False
theorem Il {pins:List (Addr×Obj)} {σ :St} {H:ao} {s:Shared} {T:String} {x:V} {v:Value} (ae:Inv X pins σ H s) (r:RelV x v) (ty:Bx X.K T x H) :
  s.TypeIs v T∧∀a,v= .ref a→∃a3,s.heap.get? a=some a3∧a3.dict=none:=by
 cases x with
 | str z=>
   obtain ⟨t,rfl⟩:=r
   cases (show T="str" from ty)
   exact ⟨typeIs_str s z t,fun _ e=>nomatch e⟩
 | int i=>
   obtain ⟨t,rfl⟩:=r
   cases (show T="int" from ty)
   exact ⟨typeIs_int s i t,fun _ e=>nomatch e⟩
 | ref p=>
   cases r
   rcases ty with ⟨rfl,xs,aO⟩ | ⟨rfl,o,hk,hc,hd⟩ | ⟨rfl,hk⟩ | ⟨rfl,S,n,hk⟩
   · obtain ⟨its,_,pl,_⟩:=ae.list aO
     refine ⟨pl.isList.typeIs,fun a e=>?_⟩
     cases e
     obtain ⟨o,n,e,c,hd,_⟩:=pl
     exact ⟨o,e,hd⟩
   · refine ⟨⟨o,ae.e_ p o hk,hc⟩,fun a e=>?_⟩
     cases e
     exact ⟨o,ae.e_ _ o hk,hd⟩
   · have z:∃o,s.heap.get? p=some o∧o.ExactDict:=by
      rcases hk with ⟨aX,hk⟩ | ⟨aX,hk⟩
      · obtain ⟨_,_,_,_,o,_,_,e,ex,_⟩:=ae.bB p _ hk
        exact ⟨o,e,ex⟩
      · obtain ⟨_,_,_,_,o,_,_,e,ex,_⟩:=ae.bB p _ hk
        exact ⟨o,e,ex⟩
     obtain ⟨o,e,ex⟩:=z
     refine ⟨⟨o,e,ex.1⟩,fun a aG=>?_⟩
     cases aG
     exact ⟨o,e,ex.2.1⟩
   · obtain ⟨o,_,_,_,e,ex,_⟩:=ae.bB p _ hk
     refine ⟨⟨o,e,ex.1⟩,fun a aG=>?_⟩
     cases aG
     exact ⟨o,e,ex.2.1⟩
 | _=>exact False.elim ty
noncomputable def UH (K:PySem.W.Frag) (T:String) (r:V→List V→ao→cW→Prop) (to:TE):TE:=fun σ H Q=>to σ H fun x H1=>Bx K T x H1∧r x [] H1 Q
noncomputable def UG (K:PySem.W.Frag) (T:String) (r:V→List V→ao→cW→Prop) (to:TE) (t:eA):TE:=fun σ H Q=>to σ H fun x H1=>Bx K T x H1∧t σ H1 fun xs aT=>r x xs aT Q
variable {o e:Expr} {aq:List Expr} {to:TE} {t:eA} {name:Str} {apos bV:Pos} {T id:String} {r:V→List V→ao→cW→Prop}
theorem RF (z6:PlainAttrs T) (slot:Slot T name id) (zo:typeOf (.builtin id)=pure (.type "method_descriptor")) (hm:xZ X id r) (ho:aZ X o to)
  (hbase:attributeBase o name X.env (eval o X.env)=eval o X.env:=by rfl) (hline:(apos.endLine == bV.line)=true:=by rfl):aZ X (.Call (.Attribute o name apos) [] [] bV) (UH X.K T r to):=by
 intro pins s σ H Q ae h
 refine wpAny_Call_method0_late hbase hline (bL (ho pins s σ H _ ae h) fun v s1 ⟨x,H1,aR,av,ty,a7⟩=>?_)
 obtain ⟨h1,h2⟩:=Il aR av ty
 exact ⟨T,id,z6,slot,zo,h1,h2,Calls.callWith_builtin rfl (PySem.evalArgs_none (hm pins s1 σ H1 x [] v [] Q aR av .nil a7))⟩
theorem wL (z6:PlainAttrs T) (slot:Slot T name id) (zo:typeOf (.builtin id)=pure (.type "method_descriptor")) (hm:xZ X id r) (ho:aZ X o to) (ha:eN X (e::aq) t)
  (hbase:attributeBase o name X.env (eval o X.env)=eval o X.env:=by rfl)
  (hfew:((backTo bV (starEach (e::aq) X.env)).all (fun x=> !x.1) && (backToKw bV (keywordEach [] X.env)).all (fun x=>x.1.isSome)
    && decide ((e::aq).length + ([]:List Keyword).length + (if ([]:List Keyword).isEmpty then 0 else 1) < 30))=true:=by rfl)
  (hline:(apos.endLine == bV.line)=true:=by rfl) (hs:starEach (e::aq) X.env=(false,eval e X.env)::starEach aq X.env:=by rfl) (hplain:(backTo bV (starEach aq X.env)).any (·.1)=false:=by rfl) :
  aZ X (.Call (.Attribute o name apos) (e::aq) [] bV) (UG X.K T r to t):=by
 intro pins s σ H Q ae h
 refine wpAny_Call_method_late hbase hfew hline rfl (bL (ho pins s σ H _ ae h) fun v s1 ⟨x,H1,aR,av,ty,a7⟩=>?_)
 obtain ⟨h1,h2⟩:=Il aR av ty
 refine ⟨T,id,z6,slot,zo,h1,h2,?_⟩
 have iJ:=ha bV pins s1 σ H1 _ aR a7
 rw [hs] at iJ ⊢
 refine Calls.callWith_builtin (by show (false || (backTo bV (starEach aq X.env)).any (·.1))=false; rw [hplain] <;> rfl) (Calls.evalArgs_plain ?_)
 exact bL iJ fun us s2 ⟨vs,aT,cv,bl,bX⟩=>hm pins s2 σ aT x vs v us Q cv av bl bX
end
end bb
namespace bb
open PySem PySem.Spec PyProof.Rows
noncomputable def ud (X:aL) (id:String) (r:V→List V→ao→cW→Prop):Prop:=
 ∀(pins:List (Addr×Obj)) (s:Shared) (σ :St) (H:ao) (x:V) (xs:List V) (v:Value) (us:List Value) (Q:cW),Inv X pins σ H s→RelV x v→Vals xs us→r x xs H Q→
  wpAny (model X.prog X.w) X.A (call (.builtin id) (v::us)) (fS X pins σ Q) X.xe s
theorem Vals.one:∀{x:V} {us:List Value},Vals [x] us→∃u,us=[u]∧RelV x u
 | _,_,.cons r .nil=>⟨_,rfl,r⟩
theorem Vals.zero:∀{us:List Value},Vals [] us→us=[]
 | _,.nil=>rfl
theorem Vals.dropLast {xs:List V} {us:List Value} (h:Vals xs us):Vals xs.dropLast us.dropLast:=by
 induction h with
 | nil=>exact .nil
 | cons r t c0=>
   cases t with
   | nil=>exact .nil
   | cons q t'=>exact .cons r c0
theorem Vals.eraseIdx:∀{xs:List V} {us:List Value} (i:Nat),Vals xs us→Vals (xs.eraseIdx i) (us.eraseIdx i)
 | _,_,_,.nil=> .nil
 | _,_,0,.cons _ t=>t
 | _,_,i + 1,.cons r t=> .cons r (Vals.eraseIdx i t)
theorem Vals.rep {xs:List V} {us:List Value} (h:Vals xs us):∀k:Nat,Vals (List.replicate k xs).flatten (List.replicate k us).flatten
 | 0=> .nil
 | k + 1=>by
   rw [List.replicate_succ,List.replicate_succ,List.flatten_cons,List.flatten_cons]
   exact Vals.append h (Vals.rep h k)
theorem L3 {α:Type} (l:List α):l.eraseIdx (l.length - 1)=l.dropLast:=by
 induction l with
 | nil=>rfl
 | cons a r c0=>
   cases r with
   | nil=>rfl
   | cons b r=>
     have e:(a::b::r).length - 1=((b::r).length - 1) + 1:=by
      have h1:(a::b::r).length=r.length + 2:=rfl
      have h2:(b::r).length=r.length + 1:=rfl
      omega
     rw [e,List.eraseIdx_cons_succ,c0]
     all_goals rfl
theorem FR {α:Type}:∀(l:List α) (i:Nat),(l.eraseIdx i).length≤l.length
 | [],_=>Nat.le_refl _
 | _::_,0=>Nat.le_succ _
 | _::r,i + 1=>Nat.succ_le_succ (FR r i)
theorem foldl_rep (its:List Value):∀(k:Nat) (acc:List Value),
  List.foldl (fun gO il=>gO ++ il) acc.toArray (List.replicate k its.toArray)=(acc ++ (List.replicate k its).flatten).toArray
 | 0,acc=>by simp
 | k + 1,acc=>by
   have e:acc.toArray ++ its.toArray=(acc ++ its).toArray:=by simp
   have aG:(acc ++ its) ++ (List.replicate k its).flatten=acc ++ (List.replicate (k + 1) its).flatten:=by
    rw [List.replicate_succ,List.flatten_cons,List.append_assoc]
   rw [←aG,←foldl_rep its k (acc ++ its),←e,List.replicate_succ,List.foldl_cons]
section
variable {X:aL} {pins:List (Addr×Obj)} {σ :St} {H:ao} {s:Shared} {l b:Addr} {xs ys zs:List V}
theorem Inv.v8 {its its':List Value} {n:Nat} {f:Array Value→Array Value} {t':Nat} (ae:Inv X pins σ H s) (gW:H l=some (.lst xs))
  (e:s.heap.get? l=some { cls:= .type "list",data:= .seq its.toArray n }) (hf:f its.toArray=its'.toArray) (hv:Vals ys its') (br:ys.length≤sizeLine) :
  Inv X pins σ (upd H l (.lst ys)) { s with heap:=s.heap.update l (Obj.mapSeq f),toks:=t' }:=by
 have q:=PySem.IsL.update e f
 rw [hf] at q
 refine ae.write (x:=l) (e:=l) (by rw [gW]; exact trivial) (.inl rfl) (fun qe u hb hu=>(Heap.get?_update_other s.heap (Obj.mapSeq f) (Ne.symm hb)).trans hu) ⟨_,q⟩ ?_
 exact ⟨br,its',_,hv,q⟩
theorem Inv.zI {its:List Value} {t':Nat} (ae:Inv X pins σ H s) (hv:Vals ys its) (br:ys.length≤sizeLine) :
  Inv X pins σ (upd H s.heap.objs.size (.lst ys)) { s with heap:=s.heap.push { cls:= .type "list",data:= .seq its.toArray },toks:=t' }:=
 ae.laid (fun _ _ q=>Heap.get?_push_of_some _ q) (Nat.le_refl _) ⟨br,its,0,hv,Heap.get?_push_size _ rfl⟩
theorem Inv.fresh (ae:Inv X pins σ H s):H s.heap.objs.size=none:=ae.bB.fresh (Nat.le_refl _)
theorem Inv.nS (ae:Inv X pins σ H s) (gW:H l=some (.lst xs)):xs.length≤sizeLine∧∃(its:List Value) (n:Nat),Vals xs its∧xs.length=its.length∧s.heap.get? l=some { cls:= .type "list",data:= .seq its.toArray n }:=by
 obtain ⟨z,its,n,r,e⟩:=ae.bB l _ gW
 exact ⟨z,its,n,r,r.length,e⟩
theorem Ga {n:Nat} (h:n≤sizeLine):Builtin.List.listTooLong n=false:=by
 unfold Builtin.List.listTooLong
 exact decide_eq_false (by omega)
end
section
variable {X:aL}
noncomputable def SG:V→List V→ao→cW→Prop:=fun x vs H Q=>∃l xs y,x= .ref l∧vs=[y]∧H l=some (.lst xs)∧xs.length < sizeLine∧Q .non (upd H l (.lst (xs ++ [y])))
theorem zV:ud X "list.append" SG:=by
 intro pins s σ H x vs v us Q ae bt cq h
 obtain ⟨l,xs,y,rfl,rfl,gW,br,q⟩:=h
 cases bt
 obtain ⟨u,rfl,ej⟩:=cq.one
 obtain ⟨z,its,n,r,hl,e⟩:=ae.nS gW
 refine call_meets F.slot_list_append ⟨_,e,rfl⟩ F.entry_list_append (F.args_list_append_2 _ _) (PySem.list_append l its.toArray n u (by rw [List.size_toArray]; omega)) ⟨e,?_⟩
 refine ⟨.non,_,ae.v8 (its':=its ++ [u]) gW e (by simp) (r.append (.cons ej .nil)) ?_,rfl,q⟩
 rw [List.length_append,List.length_singleton]
 omega
noncomputable def SH:V→List V→ao→cW→Prop:=fun x vs H Q=>∃l b xs zs,x= .ref l∧vs=[.ref b]∧H l=some (.lst xs)∧H b=some (.lst zs)∧xs.length + zs.length≤sizeLine∧Q .non (upd H l (.lst (xs ++ zs)))
theorem W4:ud X "list.extend" SH:=by
 intro pins s σ H x vs v us Q ae bt cq h
 obtain ⟨l,b,xs,zs,rfl,rfl,gW,mB,br,q⟩:=h
 cases bt
 obtain ⟨u,rfl,ej⟩:=cq.one
 cases ej
 obtain ⟨z,its,n,r,hl,e⟩:=ae.nS gW
 obtain ⟨bz,eH,dc,bl,o8,aG⟩:=ae.nS mB
 have hsz:its.toArray.size + eH.toArray.size≤sizeLine:=by rw [List.size_toArray,List.size_toArray]; omega
 have zc:¬ (!its.toArray.isEmpty && Builtin.List.listTooLong (its.toArray.size + eH.toArray.size))=true:=by
  rw [Ga hsz,Bool.and_false]
  exact Bool.false_ne_true
 refine call_meets F.slot_list_extend ⟨_,e,rfl⟩ F.entry_list_extend (F.args_list_extend_2 _ _)
  (AutoSeq1.list_extend_list_list_0 l its.toArray n b eH.toArray dc zc (by rw [List.size_toArray]; omega) (by omega)) ⟨e,aG,?_⟩
 refine ⟨.non,_,ae.v8 (its':=its ++ eH) gW e (by simp) (r.append bl) ?_,rfl,q⟩
 rw [List.length_append]
 omega
noncomputable def SK:V→List V→ao→cW→Prop:=fun x vs H Q=>∃l xs y,x= .ref l∧vs=[]∧H l=some (.lst xs)∧xs[xs.length - 1]? =some y∧Q y (upd H l (.lst xs.dropLast))
theorem Qm:ud X "list.pop" SK:=by
 intro pins s σ H x vs v us Q ae bt cq h
 obtain ⟨l,xs,y,rfl,rfl,gW,b5,q⟩:=h
 cases bt
 have Nl:=cq.zero
 subst Nl
 obtain ⟨z,its,n,r,hl,e⟩:=ae.nS gW
 obtain ⟨u,hu,ej⟩:=r.get b5
 have Nn:its.toArray[its.toArray.size - 1]? =some u:=by
  show its.toArray[its.length - 1]? =some u
  rw [←Array.getElem?_toList,←hl]
  exact hu
 refine call_meets F.slot_list_pop ⟨_,e,rfl⟩ F.entry_list_pop (F.args_list_pop_1 _) (MeetsSeq.list_pop_last l its.toArray n u Nn (by rw [List.size_toArray]; omega)) ⟨e,?_⟩
 refine ⟨y,_,ae.v8 (its':=its.dropLast) gW e ?_ r.dropLast ?_,ej,q⟩
 · show its.toArray.eraseIdxIfInBounds (its.toArray.size - 1)=its.dropLast.toArray
   rw [List.size_toArray,List.eraseIdxIfInBounds_toArray,L3]
 · rw [List.length_dropLast]
   omega
noncomputable def SM:V→List V→ao→cW→Prop:=fun x vs H Q=>∃l xs i k y,x= .ref l∧vs=[.int i]∧H l=some (.lst xs)∧ -(2 ^ 63)≤i∧i < 2 ^ 63∧seqIndex? i xs.length=some k∧xs[k]? =some y∧Q y (upd H l (.lst (xs.eraseIdx k)))
theorem Qn:ud X "list.pop" SM:=by
 intro pins s σ H x vs v us Q ae bt cq h
 obtain ⟨l,xs,i,k,y,rfl,rfl,gW,h1,h2,hk,b5,q⟩:=h
 cases bt
 obtain ⟨u,rfl,ej⟩:=cq.one
 obtain ⟨t,rfl⟩:=ej
 obtain ⟨z,its,n,r,hl,e⟩:=ae.nS gW
 obtain ⟨w,hw,jO⟩:=r.get b5
 refine call_meets F.slot_list_pop ⟨_,e,rfl⟩ F.entry_list_pop (F.args_list_pop_2 _ _)
  (MeetsSeq.list_pop_at l its.toArray n i t k w (fitsIndex_both h1 h2) (by rw [List.size_toArray,←hl]; exact hk) (by rw [←Array.getElem?_toList]; exact hw) (by rw [List.size_toArray]; omega)) ⟨e,?_⟩
 refine ⟨y,_,ae.v8 (its':=its.eraseIdx k) gW e ?_ (r.eraseIdx k) ?_,jO,q⟩
 · show its.toArray.eraseIdxIfInBounds k=(its.eraseIdx k).toArray
   rw [List.eraseIdxIfInBounds_toArray]
 · have:=FR xs k
   omega
noncomputable def G2:ed:=fun x y H Q=>∃l b xs zs,x= .ref l∧y= .ref b∧H l=some (.lst xs)∧H b=some (.lst zs)∧xs.length + zs.length≤sizeLine∧∀p,H p=none→Q (.ref p) (upd H p (.lst (xs ++ zs)))
theorem Gm:dr X (binaryOp .Add) G2:=by
 intro pins s σ H x y v u Q ae bt b0 h
 obtain ⟨l,b,xs,zs,rfl,rfl,gW,mB,br,q⟩:=h
 cases bt
 cases b0
 obtain ⟨z,its,n,r,hl,e⟩:=ae.nS gW
 obtain ⟨bz,eH,dc,bl,o8,aG⟩:=ae.nS mB
 refine PySem.P.add_list e aG ?_ (by rw [List.size_toArray,List.size_toArray]; omega)
 have au:its.toArray ++ eH.toArray=(its ++ eH).toArray:=by simp
 rw [au]
 exact ⟨.ref _,_,ae.zI (t':=s.toks) (r.append bl) (by rw [List.length_append]; omega),rfl,q _ ae.fresh⟩
noncomputable def G_:ed:=fun x y H Q=>∃l k xs,x= .ref l∧y= .int k∧H l=some (.lst xs)∧ -(2 ^ 63)≤k∧k < 2 ^ 63∧xs.length * k.toNat≤sizeLine∧
 ∀p,H p=none→Q (.ref p) (upd H p (.lst (List.replicate k.toNat xs).flatten))
theorem len_rep {α:Type} (xs:List α) (k:Nat):(List.replicate k xs).flatten.length=k * xs.length:=by
 induction k with
 | zero=>simp
 | succ k c0=>rw [List.replicate_succ,List.flatten_cons,List.length_append,c0,Nat.succ_mul,Nat.add_comm]
theorem Rj:dr X (binaryOp .Mult) G_:=by
 intro pins s σ H x y v u Q ae bt b0 h
 obtain ⟨l,k,xs,rfl,rfl,gW,h1,h2,br,q⟩:=h
 cases bt
 obtain ⟨t,rfl⟩:=b0
 obtain ⟨z,its,n,r,hl,e⟩:=ae.nS gW
 have hlen:its.toArray.size * k.toNat≤sizeLine:=by rw [List.size_toArray,←hl]; exact br
 have ME:¬ its.toArray.size * k.toNat > (2 ^ 63 - 1) / 8:=by
  have:(sizeLine:Nat)≤(2 ^ 63 - 1) / 8:=by decide
  omega
 have ML:¬ (!Builtin.List.listFitsIndex k)=true:=by
  rw [fitsIndex_both h1 h2]
  exact Bool.false_ne_true
 have zc:¬ Builtin.List.listTooLong (its.toArray.size * k.toNat)=true:=by
  rw [Ga hlen]
  exact Bool.false_ne_true
 have M0:List.foldl (fun gO il=>gO ++ il) #[] (List.replicate (if its.toArray.isEmpty=true then 0 else k.toNat) its.toArray)=(List.replicate k.toNat its).flatten.toArray:=by
  have f0:∀m:Nat,List.foldl (fun gO il=>gO ++ il) #[] (List.replicate m its.toArray)=(List.replicate m its).flatten.toArray:=fun m=>by
   have:=foldl_rep its m []
   rw [List.nil_append] at this
   exact this
  rw [f0]
  cases its with
  | nil=>simp
  | cons a bf=>rw [if_neg (by simp)]
 refine wpAny_binaryOp_repeat_ref (T:="list") (U:="int") (by decide) ⟨_,e,rfl⟩ (fun s'=>typeIs_int s' k t) noFill_list_mul F.fills_int_mul F.slot_int_rmul repeat_list F.slot_int_index.lookup
  (call_meets F.slot_int_rmul (typeIs_int s k t) F.entry_int_rmul (F.args_int_rmul_2 _ _) (int___rmul___int_list k t l its.toArray n)
    ⟨e,rfl,⟨_,e,rfl⟩,call_meets F.slot_list_mul ⟨_,e,rfl⟩ F.entry_list_mul (F.args_list_mul_2 _ _) (AutoListH.list___mul___list_int_3 l its.toArray n k t ML ME zc) ⟨e,?_⟩⟩)
 rw [M0]
 exact ⟨.ref _,_,ae.zI (t':=s.toks) (r.rep k.toNat) (by rw [len_rep,Nat.mul_comm]; exact br),rfl,q _ ae.fresh⟩
end
section
variable {prog:Program} {w:World} {A:Around} {E:Value→Shared→Prop} {s:Shared}
end
section
variable {X:aL}
end
end bb
namespace bb
open PySem PySem.Spec PyProof.Rows
section
variable {dB:Type} [DecidableEq dB]
noncomputable def gy (aX:List (dB×V)) (k:dB):Option V:=(aX.find? fun eQ=>decide (eQ.1=k)).map (·.2)
noncomputable def putK (aX:List (dB×V)) (k:dB) (v:V):List (dB×V):=
 if (aX.any fun eQ=>decide (eQ.1=k))=true then aX.map (fun eQ=>if eQ.1=k then (eQ.1,v) else eQ) else aX ++ [(k,v)]
theorem BD {p:dB×V} {r:List (dB×V)} {k:dB} (e:p.1=k):gy (p::r) k=some p.2:=by simp [gy,List.find?_cons,e]
theorem BC {p:dB×V} {r:List (dB×V)} {k:dB} (e:¬ p.1=k):gy (p::r) k=gy r k:=by simp [gy,List.find?_cons,e]
theorem BB (k:dB):∀aX:List (dB×V),(aX.any fun eQ=>decide (eQ.1=k))=(gy aX k).isSome
 | []=>rfl
 | p::r=>by
   rw [List.any_cons]
   by_cases e:p.1=k
   · simp only [BD e,decide_eq_true e,Bool.true_or,Option.isSome_some]
   · rw [BC e,decide_eq_false e,Bool.false_or]; exact BB k r
theorem FU (aX:List (dB×V)) (k:dB) (v:V):(putK aX k v).length≤aX.length + 1:=by
 unfold putK
 split
 · rw [List.length_map]; omega
 · rw [List.length_append,List.length_cons,List.length_nil]; omega
theorem Sr {aX:List (dB×V)} {k:dB} (v:V) (h:gy aX k=none):putK aX k v=aX ++ [(k,v)]:=by
 unfold putK
 rw [BB,h]
 exact if_neg (by decide)
theorem g9.sD {o:Option V} {u:Option Value} (r:g9 o u):o.isSome=u.isSome:=by
 cases o with
 | none=>cases u with
   | none=>rfl
   | some _=>exact (show False from r).elim
 | some _=>cases u with
   | none=>exact (show False from r).elim
   | some _=>rfl
theorem g9.getD {o:Option V} {u:Option Value} {d:V} {d':Value} (r:g9 o u) (SN:RelV d d'):RelV (o.getD d) (u.getD d'):=by
 cases o with
 | none=>cases u with
   | none=>exact SN
   | some _=>exact (show False from r).elim
 | some _=>cases u with
   | none=>exact (show False from r).elim
   | some _=>exact r
theorem gf.val {aX:List (dB×V)} {vs:List (dB×Value)} (r:gf aX vs) (k:dB):g9 (gy aX k) (valueAt vs k):=by
 unfold gf at r
 induction r with
 | nil=>exact True.intro
 | @cons p q aM lS h t c0=>
   obtain ⟨h1,h2⟩:=h
   by_cases e:p.1=k
   · have cU:q.1=k:=h1.symm.trans e
     have b:valueAt (q::lS) k=some q.2:=by simp [valueAt,List.find?_cons,cU]
     rw [BD e,b]; exact h2
   · have cU:¬ q.1=k:=fun z=>e (h1.trans z)
     have b:valueAt (q::lS) k=valueAt lS k:=by simp [valueAt,List.find?_cons,cU]
     rw [BC e,b]; exact c0
theorem gf.any {aX:List (dB×V)} {vs:List (dB×Value)} (r:gf aX vs) (k:dB):(aX.any fun eQ=>decide (eQ.1=k))=vs.any fun eQ=>decide (eQ.1=k):=by
 unfold gf at r
 induction r with
 | nil=>rfl
 | cons h t c0=>rw [List.any_cons,List.any_cons,c0,h.1]
theorem gf.Ag {aX:List (dB×V)} {vs:List (dB×Value)} (r:gf aX vs) (k:dB) {y:V} {u:Value} (b0:RelV y u) :
  gf (aX.map fun eQ=>if eQ.1=k then (eQ.1,y) else eQ) (vs.map fun eQ=>if eQ.1=k then (eQ.1,u) else eQ):=by
 unfold gf at r ⊢
 induction r with
 | nil=>exact .nil
 | @cons p q aM lS h t c0=>
   rw [List.map_cons,List.map_cons]
   refine .cons ?_ c0
   obtain ⟨h1,h2⟩:=h
   by_cases e:p.1=k
   · rw [if_pos e,if_pos (h1.symm.trans e)]; exact ⟨h1,b0⟩
   · rw [if_neg e,if_neg (fun z=>e (h1.trans z))]; exact ⟨h1,h2⟩
theorem gf.put {aX:List (dB×V)} {vs:List (dB×Value)} (r:gf aX vs) (k:dB) {y:V} {u:Value} (b0:RelV y u):gf (putK aX k y) (stored vs k u):=by
 unfold putK stored
 rw [r.any k]
 by_cases e:(vs.any fun eQ=>decide (eQ.1=k))=true
 · rw [if_pos e,if_pos e]; exact r.Ag k b0
 · rw [if_neg e,if_neg e]; exact Paired.snoc r ⟨rfl,b0⟩
theorem gf.length {aX:List (dB×V)} {vs:List (dB×Value)} (r:gf aX vs):aX.length=vs.length:=Paired.length r
end
theorem qI {P:Program} {w:World} {k:Key} {u:Value} (r:RelV (cX k) u):(ia P w).is k u=true:=by
 cases k with
 | inl i=>obtain ⟨t,e⟩:=(show ∃t,u=Value.int i t from r); subst e; exact Qj P w i t
 | inr x=>obtain ⟨t,e⟩:=(show ∃t,u=Value.str x t from r); subst e; exact Qk P w x t
theorem Fx {P:Program} {w:World}:∀{a_:List Key} {us:List Value},Vals (a_.map cX) us→ItemsAre (ia P w) a_ us
 | [],_,r=>by rw [List.map_nil] at r; cases r; exact .nil
 | k::a_,_,r=>by
   rw [List.map_cons] at r
   cases r with
   | cons h t=>exact .cons (qI h) (Fx t)
noncomputable abbrev KT (H:ao):List (List Key×V)→List (List Key×Addr×Value)→Prop:=Paired fun p q=>p.1=q.1∧H q.2.1=some (.tup (p.1.map cX))∧RelV p.2 q.2.2
theorem KT.val {H:ao} {aX:List (List Key×V)} {xs:List (List Key×Addr×Value)} (r:KT H aX xs) (k:List Key):g9 (gy aX k) ((atKey xs k).map (·.2)):=by
 induction r with
 | nil=>exact True.intro
 | @cons p q aM lS h t c0=>
   obtain ⟨h1,_,h2⟩:=h
   by_cases e:p.1=k
   · have cU:q.1=k:=h1.symm.trans e
     have b:atKey (q::lS) k=some q.2:=by simp [atKey,List.find?_cons,cU]
     rw [BD e,b]; exact h2
   · have cU:¬ q.1=k:=fun z=>e (h1.trans z)
     have b:atKey (q::lS) k=atKey lS k:=by simp [atKey,List.find?_cons,cU]
     rw [BC e,b]; exact c0
theorem KT.Ag {H:ao} {aX:List (List Key×V)} {xs:List (List Key×Addr×Value)} (r:KT H aX xs) (k:List Key) {y:V} {u:Value} (b0:RelV y u) :
  KT H (aX.map fun eQ=>if eQ.1=k then (eQ.1,y) else eQ) (xs.map (putAt k u)):=by
 induction r with
 | nil=>exact .nil
 | @cons p q aM lS h t c0=>
   rw [List.map_cons,List.map_cons]
   refine .cons ?_ c0
   obtain ⟨h1,h2,h3⟩:=h
   unfold putAt
   by_cases e:p.1=k
   · rw [if_pos e,if_pos (h1.symm.trans e)]; exact ⟨h1,h2,b0⟩
   · rw [if_neg e,if_neg (fun z=>e (h1.trans z))]; exact ⟨h1,h2,h3⟩
theorem KT.put {H:ao} {aX:List (List Key×V)} {xs:List (List Key×Addr×Value)} (r:KT H aX xs) (k:List Key) {b:Addr} {y:V} {u:Value} (hb:H b=some (.tup (k.map cX))) (b0:RelV y u) :
  KT H (putK aX k y) (storedH xs k b u):=by
 have e:(aX.any fun eQ=>decide (eQ.1=k))=(atKey xs k).isSome:=by
  rw [BB,(r.val k).sD,Option.isSome_map]
 unfold putK storedH
 rw [e]
 by_cases q:(atKey xs k).isSome=true
 · rw [if_pos q,if_pos q]; exact r.Ag k b0
 · rw [if_neg q,if_neg q]; exact Paired.snoc r ⟨rfl,hb,b0⟩
theorem KT.keeps {H H':ao} {aX:List (List Key×V)} {xs:List (List Key×Addr×Value)} (r:KT H aX xs) (ht:∀b ys,H b=some (.tup ys)→H' b=some (.tup ys)):KT H' aX xs:=
 Paired.zR r fun _ _ z=>⟨z.1,ht _ _ z.2.1,z.2.2⟩
section
variable {P:Program} {w:World} {H:ao} {h:Heap} {a:Addr}
theorem Hd {u:dJ} (ok:d2 P w H h) (e:gg H a u):e5 P w H h a u:=e.ok ok
theorem oZ {aX:List (Key×V)} (ok:d2 P w H h) (e:gg H a (.dg aX)):aX.length≤sizeLine∧(a == sysModules)=false∧∃vs,gf aX vs∧h.DictOf (ia P w) a vs:=
 show e5 P w H h a (.dg aX) from Hd ok e
theorem KS {aX:List (Key×V)} (ok:d2 P w H h) (e:H a=some (.dg aX)):aX.length≤sizeLine∧(a == sysModules)=false∧∃vs,gf aX vs∧h.DictOf (ia P w) a vs:=oZ ok (.inl e)
theorem qK {a_:List Key} (ok:d2 P w H h) (e:H a=some (.tup (a_.map cX))):(tupleKind (ia P w)).is h a_ a:=by
 obtain ⟨_,its,r,o,h1,h2,n,h3⟩:=(show e5 P w H h a (.tup (a_.map cX)) from ok a _ e)
 exact ⟨o,its.toArray,n,h1,h2,h3,by simpa using Fx r⟩
theorem o2 {aX:List (List Key×V)} (ok:d2 P w H h) (e:gg H a (.a0 aX)):aX.length≤sizeLine∧(a == sysModules)=false∧
  ∃xs,KT H aX xs∧h.DictOfH (tupleKind (ia P w)) a xs:=by
 obtain ⟨z,y,xs,r,o,aq,dW,h1,h2,h3,h4,h5⟩:=(show e5 P w H h a (.a0 aX) from Hd ok e)
 refine ⟨z,y,xs,r,o,aq,dW,h1,h2,h3,h4,fun x hx=>?_,h5⟩
 have all:∀{l:List (List Key×V)} {m:List (List Key×Addr×Value)},KT H l m→∀x∈m,(tupleKind (ia P w)).is h x.1 x.2.1:=by
  intro l m q
  induction q with
  | nil=>intro x hx; exact nomatch hx
  | @cons p q aM lS aO t c0=>
    intro x hx
    rcases List.mem_cons.mp hx with e | hx
    · subst e
      exact qK ok (by rw [←aO.1]; exact aO.2.1)
    · exact c0 x hx
 exact all r x hx
theorem KZ {aX:List (List Key×V)} (ok:d2 P w H h) (e:H a=some (.a0 aX)):aX.length≤sizeLine∧(a == sysModules)=false∧
  ∃xs,KT H aX xs∧h.DictOfH (tupleKind (ia P w)) a xs:=o2 ok (.inl e)
end
noncomputable def iw (H:ao) (a:Addr) (y:V) (r:Option V):Prop:=
 (∃aX k,gg H a (.dg aX)∧y=cX k∧r=gy aX k)∨∃aX k b,gg H a (.a0 aX)∧y= .ref b∧H b=some (.tup (k.map cX))∧r=gy aX k
noncomputable def rC (H:ao) (a:Addr) (y v:V) (H':ao):Prop:=
 (∃aX k,H a=some (.dg aX)∧y=cX k∧aX.length < sizeLine∧H'=upd H a (.dg (putK aX k v)))∨
 ∃aX k b,H a=some (.a0 aX)∧y= .ref b∧H b=some (.tup (k.map cX))∧aX.length < sizeLine∧H'=upd H a (.a0 (putK aX k v))
theorem iw.t {H:ao} {a b:Addr} {aX:List (List Key×V)} {k:List Key} (e:H a=some (.a0 aX)) (bE:H b=some (.tup (k.map cX))):iw H a (.ref b) (gy aX k):= .inr ⟨aX,k,b,.inl e,rfl,bE,rfl⟩
theorem rC.t {H:ao} {a b:Addr} {aX:List (List Key×V)} {k:List Key} {v:V} (e:H a=some (.a0 aX)) (bE:H b=some (.tup (k.map cX))) (hl:aX.length < sizeLine) :
  rC H a (.ref b) v (upd H a (.a0 (putK aX k v))):= .inr ⟨aX,k,b,e,rfl,bE,hl,rfl⟩
section
variable {X:aL} {pins:List (Addr×Obj)} {σ :St} {H:ao} {s:Shared} {a:Addr} {y v:V} {u r:Value} {o:Option V} {A:Around} {E:Value→Shared→Prop}
theorem Inv.big (ae:Inv X pins σ H s):sysModules < s.heap.objs.size:=by
 have h:mainGlobals < s.heap.objs.size:=(ae.mod.glob.keeps ae.ee).lt
 exact Nat.lt_trans (by decide) h
theorem KA {Q:Value→Shared→Prop} (hu:A.units + 1 < cLine) (ae:Inv X pins σ H s) (g:iw H a y (some v)) (b0:RelV y u) (h:∀ey s',Inv X pins σ H s'→RelV v ey→Q ey s') :
  wpAny (model X.prog X.w) A (getItem (.ref a) u) Q E s:=by
 rcases g with ⟨aX,k,e,d3,l⟩ | ⟨aX,k,b,e,d3,bE,l⟩
 · subst d3
   obtain ⟨z,hd,vs,rel,dd⟩:=oZ ae.bB e
   obtain ⟨ey,hw,jO⟩:=g9.some_of (v:=v) (o:=valueAt vs k) (by rw [l]; exact rel.val k)
   exact wpAny_getItem_of (qI b0) dd.mapOf hw (h ey _ (ae.tok _) jO)
 · subst d3
   cases (show u=Value.ref b from b0)
   obtain ⟨z,hd,xs,rel,dd⟩:=o2 ae.bB e
   obtain ⟨ey,hw,jO⟩:=g9.some_of (v:=v) (o:=(atKey xs k).map (·.2)) (by rw [l]; exact rel.val k)
   obtain ⟨p,hp,Na⟩:=Option.map_eq_some_iff.mp hw
   refine wpAny_getItem_heap (tupleKind_room_in1 hu) (qK ae.bB bE) dd hp ?_
   rw [Na]
   exact h ey _ (ae.tok _) jO
theorem KC {Q:Value→Shared→Prop} (hu:A.units + 1 < cLine) (ae:Inv X pins σ H s) (g:iw H a y o) (b0:RelV y u) (h:∀s',Inv X pins σ H s'→Q (.bool o.isSome) s') :
  wpAny (model X.prog X.w) A (compareOp .In u (.ref a)) Q E s:=by
 rcases g with ⟨aX,k,e,d3,l⟩ | ⟨aX,k,b,e,d3,bE,l⟩
 · subst d3
   obtain ⟨z,hd,vs,rel,dd⟩:=oZ ae.bB e
   refine wpAny_in_of (qI b0) hd dd.mapOf ?_
   rw [←(rel.val k).sD,←l]
   exact h _ (ae.tok _)
 · subst d3
   cases (show u=Value.ref b from b0)
   obtain ⟨z,hd,xs,rel,dd⟩:=o2 ae.bB e
   refine wpAny_in_heap (tupleKind_room_in1 hu) (qK ae.bB bE) hd dd ?_
   have q:=(rel.val k).sD
   rw [Option.isSome_map] at q
   rw [←q,←l]
   exact h _ (ae.tok _)
theorem KD {Q:Value→Shared→Prop} (hu:A.units + 1 < cLine) (ae:Inv X pins σ H s) (g:iw H a y o) (b0:RelV y u) (h:∀s',Inv X pins σ H s'→Q (.bool (!o.isSome)) s') :
  wpAny (model X.prog X.w) A (compareOp .NotIn u (.ref a)) Q E s:=by
 rcases g with ⟨aX,k,e,d3,l⟩ | ⟨aX,k,b,e,d3,bE,l⟩
 · subst d3
   obtain ⟨z,hd,vs,rel,dd⟩:=oZ ae.bB e
   refine wpAny_notIn_of (qI b0) hd dd.mapOf ?_
   rw [←(rel.val k).sD,←l]
   exact h _ (ae.tok _)
 · subst d3
   cases (show u=Value.ref b from b0)
   obtain ⟨z,hd,xs,rel,dd⟩:=o2 ae.bB e
   refine wpAny_notIn_heap (tupleKind_room_in1 hu) (qK ae.bB bE) hd dd ?_
   have q:=(rel.val k).sD
   rw [Option.isSome_map] at q
   rw [←q,←l]
   exact h _ (ae.tok _)
theorem Dg {h':Heap} {t':Nat} {a3:dJ} (ae:Inv X pins σ H s) (ji:rI (H a)) (hs:Heap.SameBut a s.heap h') (he:∃q,h'.get? a=some q) (new:e5 X.prog X.w (upd H a a3) h' a a3) :
  Inv X pins σ (upd H a a3) { s with heap:=h',toks:=t' }:=
 ae.write (x:=a) (e:=a) ji (.inl rfl) (fun b q hb z=>(hs.2 b hb).trans z) he new
theorem KR {P:Program} {w:World} {H':ao} {h':Heap} {aX:List (Key×V)} {vs:List (Key×Value)} (z:aX.length≤sizeLine) (hd:(a == sysModules)=false) (rel:gf aX vs) (dd:h'.DictOf (ia P w) a vs) :
  e5 P w H' h' a (.dg aX):=⟨z,hd,vs,rel,dd⟩
theorem KH {H':ao} {Q:Unit→Shared→Prop} (hu:A.units + 1 < cLine) (ae:Inv X pins σ H s) (g:rC H a y v H') (b0:RelV y u) (cq:RelV v r) (h:∀s',Inv X pins σ H' s'→Q () s') :
  wpAny (model X.prog X.w) A (setItem (.ref a) u r) Q E s:=by
 rcases g with ⟨aX,k,e,d3,l,yB⟩ | ⟨aX,k,b,e,d3,bE,l,yB⟩
 · subst d3 yB
   obtain ⟨z,hd,vs,rel,dd⟩:=KS ae.bB e
   have br:vs.length≤sizeLine:=by rw [←rel.length]; exact z
   have hl:(putK aX k v).length≤sizeLine:=by have:=FU aX k v; omega
   refine wpAny_setItem_pairs (hsz:=br) (qI b0) dd fun h' vi hs=>h _ ?_
   have he:∃q,h'.get? a=some q:=let ⟨q,_,_,aO,_⟩:=vi; ⟨q,aO⟩
   exact Dg ae (by rw [e]; exact True.intro) hs he (KR hl hd (rel.put k cq) vi)
 · subst d3 yB
   cases (show u=Value.ref b from b0)
   obtain ⟨z,hd,xs,rel,dd⟩:=KZ ae.bB e
   have br:xs.length≤sizeLine:=by rw [←Paired.length rel]; exact z
   have hl:(putK aX k v).length≤sizeLine:=by have:=FU aX k v; omega
   refine wpAny_setItem_heap (hsz:=br) (tupleKind_room_in1 hu) (qK ae.bB bE) dd fun h' vi hs=>h _ ?_
   obtain ⟨q,aq,dW,aO,h2,h3,h4,_,h5⟩:=vi
   refine Dg ae (by rw [e]; exact True.intro) hs ⟨q,aO⟩ ⟨hl,hd,_,(rel.put k bE cq).keeps fun c ys ec=>?_,q,aq,dW,aO,h2,h3,h4,h5⟩
   rw [de (Qt ec e (fun z=>nomatch z))]
   exact ec
end
section
variable {X:aL} {pins:List (Addr×Obj)} {σ :St} {H:ao} {s:Shared} {a:Addr} {aX:List (Key×V)} {k:Key} {u:Value} {A:Around} {E:Value→Shared→Prop}
end
noncomputable def x1 (i:Expr):Prop:=∀f6 nP,subscripted i false f6 nP=operate [f6,nP] (getItem f6 nP)
theorem UD {prog:Program} {w:World} {A:Around} {E:Value→Shared→Prop} {s:Shared} {env:Env} {value slice:Expr} {pos:Pos} {T id:String} {Q:Value→Shared→Prop}
  (hl:typeLookup (.type T) "__getitem__"=pure (some (.builtin id))) (hs:x1 slice)
  (h:wpAny (model prog w) A (eval value env) (fun o c7=>wpAny (model prog w) A (eval slice env) (fun i jR=>jR.TypeIs o T∧wpAny (model prog w) A (getItem o i) Q E jR) E c7) E s) :
  wpAny (model prog w) A (eval (.Subscript value slice pos) env) Q E s:=by
 refine Subscript_ (wpAny_mono h (fun o c7 kb=>wpAny_mono kb (fun i jR kK=>?_) fun _ _ x=>x) fun _ _ x=>x)
 obtain ⟨hy,kK⟩:=kK
 unfold subscriptTail
 refine wpAny_bind ?_
 rw [getitemInPython_of_ne hy.not_modules]
 refine wpAny_bind (wpAny_specialOf hy hl ?_)
 have fin:wpAny (model prog w) A (subscripted slice false o i) (fun r oi=>wpAny (model prog w) A (letTemporaryGo value o r >>= fun _=>pure r) Q E oi) E jR:=by
  rw [hs o i]
  exact wpAny_operating (wpAny_mono kK (fun r oi lJ=>wpAny_bind (wpAny_letTemporaryGo (wpAny_pure lJ))) fun _ _ x=>x)
 first
  | exact wpAny_pure (wpAny_bind fin)
  | exact wpAny_bind (wpAny_pure (wpAny_bind fin))
  | exact wpAny_bind fin
theorem KP {X:aL} {pins:List (Addr×Obj)} {σ :St} {H:ao} {s:Shared} {a:Addr} {y:V} {o:Option V} (ae:Inv X pins σ H s) (g:iw H a y o):s.TypeIs (.ref a) "dict":=by
 rcases g with ⟨aX,k,e,_,_⟩ | ⟨aX,k,b,e,_,_,_⟩
 · obtain ⟨_,_,vs,_,dd⟩:=oZ ae.bB e
   exact dd.typeIs
 · obtain ⟨_,_,xs,_,dd⟩:=o2 ae.bB e
   exact dd.typeIs
noncomputable def HU (gv ty:TE):TE:=fun σ H Q=>gv σ H fun x H1=>ty σ H1 fun y aT=>∃a v,x= .ref a∧iw aT a y (some v)∧Q v aT
noncomputable def HW (ty gv:TE):TE:=fun σ H Q=>ty σ H fun y H1=>gv σ H1 fun x aT=>∃a o,x= .ref a∧iw aT a y o∧Q (.aw o.isSome) aT
noncomputable def HX (ty gv:TE):TE:=fun σ H Q=>ty σ H fun y H1=>gv σ H1 fun x aT=>∃a o,x= .ref a∧iw aT a y o∧Q (.aw (!o.isSome)) aT
noncomputable def S8 (gv ty m4:TE):eB:=fun D σ H=>m4 σ H fun v H1=>gv σ H1 fun x aT=>ty σ aT fun y di=>∃a gB,x= .ref a∧rC di a y v gB∧D.aV σ gB
section
variable {X:aL} {o i e value:Expr} {pos pos' tI:Pos} {gv ty m4:TE}
theorem RJ (hu:X.A.units + 1 < cLine) (ho:aZ X o gv) (hi:aZ X i ty) (hs:x1 i):aZ X (.Subscript o i pos) (HU gv ty):=by
 intro pins s σ H Q ae h
 refine UD PySem.F.slot_dict_getitem.lookup hs (bL (ho pins s σ H _ ae h) fun u s1 ⟨x,H1,aR,bt,a7⟩=>bL (hi pins s1 σ H1 _ aR a7) fun nP s2 ⟨y,aT,cv,b0,a,v,ex,g,bX⟩=>?_)
 subst ex
 obtain rfl:u=Value.ref a:=bt
 exact ⟨KP cv g,KA hu cv g b0 fun ey s3 d0 jO=>⟨v,aT,d0,jO,bX⟩⟩
theorem GA (hu:X.A.units + 1 < cLine) (hi:aZ X i ty) (ho:aZ X o gv):ue X .In i o (HW ty gv):=by
 intro pins s σ H Q ae h
 refine bL (hi pins s σ H _ ae h) fun nP s1 ⟨y,H1,aR,b0,a7⟩=>bL (ho pins s1 σ H1 _ aR a7) fun u s2 ⟨x,aT,cv,bt,a,f6,ex,g,bX⟩=>?_
 subst ex
 obtain rfl:u=Value.ref a:=bt
 exact KC hu cv g b0 fun s3 d0=>⟨.aw f6.isSome,aT,d0,rfl,bX⟩
theorem GB (hu:X.A.units + 1 < cLine) (hi:aZ X i ty) (ho:aZ X o gv):ue X .NotIn i o (HX ty gv):=by
 intro pins s σ H Q ae h
 refine bL (hi pins s σ H _ ae h) fun nP s1 ⟨y,H1,aR,b0,a7⟩=>bL (ho pins s1 σ H1 _ aR a7) fun u s2 ⟨x,aT,cv,bt,a,f6,ex,g,bX⟩=>?_
 subst ex
 obtain rfl:u=Value.ref a:=bt
 exact KD hu cv g b0 fun s3 d0=>⟨.aw (!f6.isSome),aT,d0,rfl,bX⟩
theorem Sf (hu:X.A.units + 1 < cLine) (ho:aZ X o gv) (hi:aZ X i ty) (hv:aZ X value m4) (hs:swapsWith value (some (.Subscript o i pos')) pos.line X.env=pure false) :
  dj X (.Assign [.Subscript o i pos'] value pos) (S8 gv ty m4):=by
 intro pins s σ H D ae h
 refine wpAny_Assign_Subscript (bL (hv pins s σ H _ ae h) fun r s1 ⟨v,H1,aR,cq,a7⟩=>bL (ho pins s1 σ H1 _ aR a7) fun u s2 ⟨x,aT,cv,bt,bX⟩=>bL (hi pins s2 σ aT _ cv bX) fun nP s3 ⟨y,di,d0,b0,a,gB,ex,g,eU⟩=>?_) hs
 subst ex
 obtain rfl:u=Value.ref a:=bt
 exact KH hu d0 g b0 cq fun s4 jV=>⟨σ,gB,jV,eU⟩
end
theorem KY {P:Program} {w:World} {H:ao} (h:Heap) (hb:sysModules < h.objs.size):e5 P w H (h.push { cls:= .type "dict",data:= .dict #[] }) h.objs.size (.a0 []):=
 ⟨Nat.zero_le _,beq_eq_false_iff_ne.mpr (Ne.symm (Nat.ne_of_lt hb)),[],.nil,_,#[],0,Heap.get?_push_size _ rfl,⟨rfl,rfl,rfl⟩,rfl,rfl,List.nodup_nil⟩
noncomputable def UI:TE:=fun _ H Q=>∀p,H p=none→Q (.ref p) (upd H p (.a0 []))
section
variable {X:aL} {pos:Pos}
theorem RL:aZ X (.Dict [] [] pos) UI:=fun pins s σ H Q ae h=>
 wpAny_Dict_empty ⟨.ref s.heap.objs.size,_,ae.laid (a:=s.heap.objs.size) (o:= .a0 []) (t':=s.toks) (fun _ _ q=>Heap.get?_push_of_some _ q) (Nat.le_refl _) (KY s.heap ae.big),rfl,h _ (ae.bB.fresh (Nat.le_refl _))⟩
end
structure Jx (X:aL) (o:Expr) (m:Str) (apos:Pos) (e:Expr) (bV:Pos):Prop where
 base:attributeBase o m X.env (eval o X.env)=eval o X.env
 few:((backTo bV (starEach [e] X.env)).all (fun x=> !x.1) && (backToKw bV (keywordEach [] X.env)).all (fun x=>x.1.isSome)
  && decide (([e]:List Expr).length + ([]:List Keyword).length + (if ([]:List Keyword).isEmpty then 0 else 1) < 30))=true
 line:(apos.endLine == bV.line)=true
 trees:backTo bV (starEach [e] X.env)=[(false,eval e X.env)]
noncomputable def B4 (H:ao) (a:Addr):Prop:=(∃aX,gg H a (.dg aX))∨∃aX,gg H a (.a0 aX)
theorem OD {X:aL} {pins:List (Addr×Obj)} {σ :St} {H:ao} {s:Shared} {a:Addr} (ae:Inv X pins σ H s) (d:B4 H a) :
  s.TypeIs (.ref a) "dict"∧(∀b,Value.ref a= .ref b→∃a3,s.heap.get? b=some a3∧a3.dict=none)∧(a == sysModules)=false:=by
 rcases d with ⟨aX,e⟩ | ⟨aX,e⟩
 · obtain ⟨_,hd,vs,_,dd⟩:=oZ ae.bB e
   refine ⟨dd.typeIs,fun b q=>?_,hd⟩
   cases q
   obtain ⟨a3,_,_,h1,h2,_⟩:=dd
   exact ⟨a3,h1,h2.2.1⟩
 · obtain ⟨_,hd,xs,_,dd⟩:=o2 ae.bB e
   refine ⟨dd.typeIs,fun b q=>?_,hd⟩
   cases q
   obtain ⟨a3,_,_,h1,h2,_⟩:=dd
   exact ⟨a3,h1,h2.2.1⟩
section
variable {X:aL} {pins:List (Addr×Obj)} {σ :St} {H:ao} {s:Shared} {a:Addr} {y d:V} {u r:Value} {o:Option V} {A:Around} {E:Value→Shared→Prop}
theorem Kz {Q:Value→Shared→Prop} (hu:A.units + 1 < cLine) (ae:Inv X pins σ H s) (g:iw H a y o) (b0:RelV y u) (h:∀ey s',Inv X pins σ H s'→RelV (o.getD .non) ey→Q ey s') :
  wpAny (model X.prog X.w) A (call (.builtin "dict.get") [.ref a,u]) Q E s:=by
 rcases g with ⟨aX,k,e,d3,l⟩ | ⟨aX,k,b,e,d3,bE,l⟩
 · subst d3
   obtain ⟨z,hd,vs,rel,dd⟩:=oZ ae.bB e
   refine call_meetsIn PySem.F.slot_dict_get dd.typeIs PySem.F.entry_dict_get (PySem.F.args_dict_get_2 _ _) (meets_dict_get (ia X.prog X.w) a (qI b0) hd) ⟨_,dd.mapOf,h _ _ (ae.tok _) ?_⟩
   rw [l]
   exact (rel.val k).getD rfl
 · subst d3
   cases (show u=Value.ref b from b0)
   obtain ⟨z,hd,xs,rel,dd⟩:=o2 ae.bB e
   refine call_meetsIn PySem.F.slot_dict_get dd.typeIs PySem.F.entry_dict_get (PySem.F.args_dict_get_2 _ _) (meetsH_dict_get (tupleKind (ia X.prog X.w)) a b hd) ⟨tupleKind_room_in1 hu,k,xs,qK ae.bB bE,dd,h _ _ (ae.tok _) ?_⟩
   rw [l]
   exact (rel.val k).getD rfl
end
noncomputable def HV (gv ty:TE):TE:=fun σ H Q=>gv σ H fun x H1=>∃a,x= .ref a∧B4 H1 a∧ty σ H1 fun y aT=>∃o,iw aT a y o∧Q (o.getD .non) aT
section
variable {X:aL} {o e f:Expr} {apos bV:Pos} {gv ty W_:TE}
theorem RK (hu:X.A.units + 1 < cLine) (ho:aZ X o gv) (he:aZ X e ty) (m:Jx X o "get" apos e bV):aZ X (.Call (.Attribute o "get" apos) [e] [] bV) (HV gv ty):=by
 intro pins s σ H Q ae h
 refine wpAny_Call_method m.base m.few m.line PySem.F.plainAttrs_dict PySem.F.slot_dict_get PySem.F.type_dict_get (bL (ho pins s σ H _ ae h) fun u s1 ⟨x,H1,aR,bt,a,ex,d,a7⟩=>?_)
 subst ex
 obtain rfl:u=Value.ref a:=bt
 obtain ⟨t1,d7,_⟩:=OD aR d
 refine ⟨t1,d7,?_⟩
 rw [m.trees]
 refine Calls.callWith_builtin rfl (Calls.evalArgs_plain (Calls.spliced_cons (bL (he pins s1 σ H1 _ aR a7) fun nP s2 ⟨y,aT,cv,b0,f6,g,bX⟩=>Calls.spliced_nil ?_)))
 exact Kz hu cv g b0 fun ey s3 d0 jO=>⟨_,aT,d0,jO,bX⟩
end
section
variable {X:aL} {pins:List (Addr×Obj)} {σ :St} {H:ao} {s:Shared} {a:Addr} {aX:List (Key×V)} {A:Around} {E:Value→Shared→Prop}
end
section
variable {X:aL} {pins:List (Addr×Obj)} {σ :St} {H:ao} {s:Shared} {a:Addr} {y:V} {u:Value} {A:Around} {E:Value→Shared→Prop}
end
end bb
namespace BX
open PySem PySem.W PySem.Calls PyProof.Rows
theorem Ox {P:Params} {h:Heap}:∀(ns:List Int) (vs:List Value),WellAll P h vs (ns.map WData.int)→IntsAre vs ns:=by
 intro ns
 induction ns with
 | nil=>
   intro vs w
   rw [List.map_nil] at w
   cases w
   exact .nil
 | cons n ns c0=>
   intro vs w
   rw [List.map_cons] at w
   cases w with
   | cons a b=>
     cases a
     exact .cons _ _ (c0 _ b)
theorem T_ {l:OpenLaw} {n:Nat} (aC:l.most=some n) {P:Params} {h:Heap} {args:List WData} {vals:List Value}
  (vM:l.row.toRowW.claim.pre args=true) (sv:WellAll P h vals args) :
  ∃a vs ns,vals=[Value.ref a]∧args=[WData.list (ns.map WData.int)]∧h.get? a=some { cls:= .type "list",data:= .seq vs.toArray }∧IntsAre vs ns∧ns.length≤n:=by
 have Nf:WShape.hasAll [] args [.list .int]=true:=(pre_splitW vM).1
 have hc:l.pre.holds [] { args:=args }=true:=(pre_splitW vM).2
 obtain ⟨d,r,rfl,h1,h2⟩:=hasAllW_cons Nf
 obtain rfl:=hasAllW_nil h2
 obtain ⟨xs,rfl,h3⟩:=hasW_list h1
 obtain ⟨ns,rfl⟩:=items_int h3
 have hlen:ns.length≤n:=by
  unfold OpenLaw.pre at hc
  have h4:(WTm.not (.lt (.lit (.int (n:Int))) (.len (.arg 0)))).holds [] { args:=[.list (ns.map .int)] }=true:=by
   have h4:=(holds_andW hc).1
   rw [aC] at h4
   exact h4
  have h5:=condW_of h4 (w_not (w_lt w_lit (w_len_list (w_arg rfl))))
  rw [List.length_map] at h5
  refine Nat.le_of_not_lt fun q=>?_
  have df:(n:Int) < ((ns.length:Nat):Int):=by omega
  first
   | (rw [decide_eq_true df] at h5; exact absurd h5 (by decide))
   | (simp at h5; omega)
 cases sv with
 | cons pO m6=>
   cases m6
   cases pO with
   | list ho y1=>exact ⟨_,_,ns,rfl,rfl,ho,Ox ns _ y1,hlen⟩
theorem Sb (l:OpenLaw) (args:List WData):l.row.toRowW.claim.post args (.bool true) args=true:=
 postW_of (r:=l.row.toRowW) (X:=(true == true))
  (show WShape.has [] (.bool true) .bool=true by first | rfl | decide | simp [WShape.has,WShape.arms,WShape.armsAll])
  (show (WTm.eq .res (.lit (.bool true))).value [] { args:=args,res:=some (.bool true),after:=args }=some (.bool (true == true)) from w_eq_bool (w_res rfl) w_lit) rfl
theorem JU {l:OpenLaw} {n:Nat} {q:Program} {loose:List Str} {p7:(Str→Option Value)→Heap→Prop} {nz:World→Heap→Prop} {d:DefRec}
  (aC:l.most=some n) (sm:d.params.defaults=[])
  (call:∀(w:World) (eR c7:Shared) (mg fm:Str→Option Value) (fA:Addr) (o:Obj) (pm cd doc:Value) (a:Addr) (vs:List Value) (ns:List Int),
    Ground q loose [] p7 w eR mg fm c7.heap→nz w c7.heap→
    c7.heap.get? fA=some o→o.data= .func (docDef d.name d.params d.body d.scope pm cd doc)→c7.heap.CodeRec cd d.name→mg d.name=some (.ref fA)→
    c7.heap.get? a=some { cls:= .type "list",data:= .seq vs.toArray }→IntsAre vs ns→ns.length≤n→c7.gens= #[]→
    codeAny (model l.prog w) callerA (.call (.ref fA) ⟨[.ref a],[]⟩) (fun r s'=>r= .ok (.ret (.bool true))∧OldK c7.heap s'.heap∧s'.os=c7.os∧AllBare s'.gens) c7) :
  WalkO q loose p7 nz l.row.toRowW d [] (fun f vs=>PySem.call f vs):=by
 intro w eR c7 mg fm G Y fA o pm cd doc vh cX ho hd hcd EH sq hg args vals as vM WV WY sv WW
 obtain rfl:vh= .none:=Dflts.none EH sm
 obtain rfl:cX= .none:=Dflts.noKw EH
 obtain ⟨a,vs,ns,rfl,rfl,zg,hints,hlen⟩:=T_ aC vM sv
 refine enter_call (codeAny_mono (call w eR c7 mg fm fA o pm cd doc a vs ns G Y ho (fd_plain hd) hcd sq zg hints hlen hg) fun r s' aO=>?_)
 obtain ⟨rfl,h2,h3,h4⟩:=aO
 exact ⟨.inl ⟨.bool true,.bool true,[],rfl,fun _=>rfl,.bool true,Sb l _,fun _=>⟨List.Pairwise.nil,fun _ hm=>(nomatch hm)⟩⟩,h2,h3,h4⟩
section
variable {prog:Program} {w:World} {A:Around} {E:Value→Shared→Prop} {s:Shared} {K:Frag}
end
end BX
namespace bb
open PySem PySem.Spec PyProof.Rows
theorem IG:∀{vs:List Value} {ns:List Int},IntsAre vs ns→Vals (ns.map V.int) vs
 | _,_,.nil=> .nil
 | _,_,.cons n t h=> .cons ⟨t,rfl⟩ (IG h)
noncomputable def x3 (H:ao):Prop:=∀b,H b=none∨∃o xs,H b=some (.jA o (.lst xs))
theorem PX {P:Program} {w:World} {K:PySem.W.Frag} {mg fm:Str→Option Value} {CX:jU} {k:Nat} {fA a:Addr} {fd:FuncData} {x:Str} {sp:i9} {c7:Shared} {vs:List Value} {ns:List Int}
  (kx:K.In c7.heap) (EV:c7.heap.Ns mainGlobals mg) (hb:c7.heap.Ns builtinsNs fm) (y2:∀x:Str,x≠"__name__"→fm x=bootBuiltins x) (MY:c7.heap.NoLimit) (hg:c7.gens= #[])
  (ha:c7.heap.get? a=some { cls:= .type "list",data:= .seq vs.toArray }) (hi:IntsAre vs ns) (hl:ns.length≤sizeLine) (hr:dv k callerA)
  (F:∀base:Heap,K.In base→base.Ns mainGlobals mg→g7 P w K mg base CX k fA fd [x] sp) (MB:∀(s:Shared) (u:Value),BindsTo s fd ⟨[u],[]⟩ [(x,u)])
  (nK:∀H:ao,x3 H→b4 K H a (ns.map V.int)→sp [.ref a] H (fun v _=>v= .aw true) fun _ _ _=>False)
  (yY:∀H e s',CX [] H c7 (fun _ _ _=>False) e s'→False) :
  codeAny (model P w) callerA (.call (.ref fA) ⟨[.ref a],[]⟩) (fun r s'=>r= .ok (.ret (.bool true))∧OldK c7.heap s'.heap∧s'.os=c7.os∧AllBare s'.gens) c7:=by
 have cq:=IG hi
 have P8:=hi.length
 have core:∀H:ao,x3 H→b4 K H a (ns.map V.int)→d2 P w H c7.heap→(∀b,H b≠none→b=a)→(H a≠none→K.lookup a=none)→
   codeAny (model P w) callerA (.call (.ref fA) ⟨[.ref a],[]⟩) (fun r s'=>r= .ok (.ret (.bool true))∧OldK c7.heap s'.heap∧s'.os=c7.os∧AllBare s'.gens) c7:=by
  intro H vD kH bB iJ hK
  have CE:∀{b:Addr} {o:Obj},c7.heap.get? b=some o→H b=none→(mD c7.heap H).get? b=some o:=fun e n=>MP e n
  have tf:∀{b:Addr} {o:Obj} {aq:Array DictEntry} {dW:Nat},c7.heap.get? b=some o→o.data= .dict aq dW→H b=none:=fun {b o aq dW} e d=>by
   cases q:H b with
   | none=>rfl
   | some u=>
     have cU:b=a:=iJ b (by rw [q]; simp)
     subst cU
     rw [ha] at e; cases e
     have d':Data.seq vs.toArray _=Data.dict aq dW:=d
     cases d'
  have wA:∀{b:Addr} {m:Str→Option Value},c7.heap.Ns b m→(mD c7.heap H).Ns b m:=fun {b m} ⟨o,aq,dW,e,d,r⟩=>⟨o,aq,dW,CE e (tf e d),d,r⟩
  have EI:K.In (mD c7.heap H):=fun b o e=>CE (kx b o e) (by
   cases q:H b with
   | none=>rfl
   | some u=>
     have cU:b=a:=iJ b (by rw [q]; simp)
     subst cU
     rw [hK (by rw [q]; simp)] at e; cases e)
  have vC:Mod K mg (mD c7.heap H):=⟨EI,wA EV,⟨fm,wA hb,y2⟩,let ⟨qZ,h1,h2⟩:=MY; ⟨qZ,wA h1,h2⟩⟩
  have cw:oE P w K mg (mD c7.heap H) callerA [] c7 H:=⟨rfl,vC,fun b o e=>QR e,Nat.le_of_eq (MQ _ _),trivial,fun b hb=>absurd (show b∈([]:List Addr) from hb) (by simp),bB,.of_eq hg⟩
  refine codeAny_mono ((F _ EI (wA EV)).run callerA [] c7 H ⟨[.ref a],[]⟩ [.ref a] [.ref a] _ _ hr cw (MB c7 (.ref a)) (.cons rfl .nil) (nK H vD kH)) fun r s' h=>?_
  cases r with
  | error e=>exact (yY H e s' h).elim
  | ok gm=>
    cases gm with
    | next=>exact False.elim h
    | brk=>exact False.elim h
    | cont=>exact False.elim h
    | ret u=>
      obtain ⟨v,H',os,bare,un,M7,bf,q⟩:=h
      have df:v= .aw true:=q
      subst df
      obtain rfl:u=Value.bool true:=bf
      refine ⟨rfl,OldK.of_keep fun b o e=>?_,os,bare⟩
      cases q:H b with
      | none=>exact un.keep b o e q (by intro z; exact absurd (show b∈([]:List Addr) from z) (by simp)) (by simp)
      | some u=>
        rcases vD b with z | ⟨a3,xs,z⟩
        · rw [q] at z; cases z
        · have bz:=un.hW b a3 _ z
          obtain ⟨ar,_⟩:=bB b _ z
          obtain ⟨aG,_⟩:=M7 b _ bz
          rw [e] at ar; cases ar
          exact aG
 cases hk:K.lookup a with
 | some o=>
   have e:=kx a o hk
   rw [ha] at e
   cases e
   refine core (fun _=>none) (fun _=> .inl rfl) (.inr ⟨_,vs.toArray,_,hk,rfl,rfl,rfl,by rw [List.size_toArray,P8]; exact hl,by simpa using cq⟩) (fun b u z=>by have gz:(none:Option dJ)=some u:=z; cases gz) (fun b z=>absurd rfl z) fun z=>absurd rfl z
 | none=>
   refine core (fun b=>if b=a then some (.jA { cls:= .type "list",data:= .seq vs.toArray } (.lst (ns.map V.int))) else none) (fun b=>?_) (.inl (.inr ⟨{ cls:= .type "list",data:= .seq vs.toArray },if_pos rfl⟩)) (fun b u z=>?_) (fun b z=>?_) fun _=>hk
   · by_cases hb:b=a
     · exact .inr ⟨_,_,if_pos hb⟩
     · exact .inl (if_neg hb)
   · by_cases hb:b=a
     · have gz:=(if_pos hb).symm.trans z
       cases gz
       subst hb
       exact ⟨ha,by rw [List.length_map]; exact hl,vs,_,cq,ha⟩
     · have gz:=(if_neg hb).symm.trans z
       cases gz
   · by_cases hb:b=a
     · exact hb
     · exact absurd (if_neg hb) z
end bb
namespace bb
open PySem PySem.Spec PyProof.Rows
theorem VK {l:PySem.W.OpenLaw} {n k:Nat} {q:Program} {loose:List Str} {p7:(Str→Option Value)→Heap→Prop} {nz:World→Heap→Prop} {d:DefRec} {K:Params→PySem.W.Frag} {CX:World→jU} {sp:World→i9} {x:Str}
  (aC:l.most=some n) (vK:n≤sizeLine) (sm:d.params.defaults=[]) (hr:dv k callerA)
  (y0:∀(w:World) (h:Heap),nz w h→(K w.params).In h)
  (F:∀(w:World) (mg:Str→Option Value) (fA:Addr) (h:Heap),(K w.params).In h→h.Ns mainGlobals mg→mg d.name=some (.ref fA)→
    ∃fd:FuncData,(∀(s:Shared) (u:Value),BindsTo s fd ⟨[u],[]⟩ [(x,u)])∧
     ∀base:Heap,(K w.params).In base→base.Ns mainGlobals mg→g7 l.prog w (K w.params) mg base (CX w) k fA fd [x] (sp w))
  (nK:∀(w:World) (H:ao) (a:Addr) (ns:List Int),ns.length≤n→x3 H→b4 (K w.params) H a (ns.map V.int)→sp w [.ref a] H (fun v _=>v= .aw true) fun _ _ _=>False)
  (yY:∀(w:World) (H:ao) (s:Shared) (e:Value) (s':Shared),CX w [] H s (fun _ _ _=>False) e s'→False) :
  PySem.W.WalkO q loose p7 nz l.row.toRowW d [] (fun f vs=>PySem.call f vs):=by
 refine BX.JU aC sm fun w eR c7 mg fm fA o pm cd doc a vs ns G Y ho hd hcd sq zg hints hlen hg=>?_
 have kx:=y0 w _ Y
 obtain ⟨fd,hb,lG⟩:=F w mg fA _ kx G.T.g sq
 exact PX kx G.T.g G.T.b G.T.builtins G.T.nolimit hg zg hints (Nat.le_trans hlen vK) hr lG hb (fun H vD kH=>nK w H a ns hlen vD kH) fun H e s'=>yY w H c7 e s'
end bb
namespace bb
open PySem PySem.Spec PyProof.Rows
noncomputable def inClass (s:Stmt) (j:Nat):Stmt:=match s with
 | .ClassDef _ _ _ body _ _ _ _ _ _ _=>body.getD j (.Pass ⟨0,0,0,0⟩)
 | _=> .Pass ⟨0,0,0,0⟩
noncomputable def jw (s:Stmt):Arguments:=match s with
 | .FunctionDef _ a _ _ _ _ _ _ _ _=>a
 | _=>{ posonlyargs:=[],args:=[],vararg:=none,kwonlyargs:=[],kw_defaults:=[],kwarg:=none,defaults:=[] }
noncomputable def fI (s:Stmt):List Stmt:=match s with
 | .FunctionDef _ _ b _ _ _ _ _ _ _=>b
 | _=>[]
noncomputable def bW (s:Stmt):Scope:=match s with
 | .FunctionDef _ _ _ _ _ _ sc _ _ _=>sc
 | _=>{ kind:= .function,names:=[],isGenerator:=false,isCoroutine:=false }
noncomputable abbrev gP:jU:=fun _ _ _ _ _ _=>False
noncomputable abbrev xO:c8:=fun _ _ _=>False
theorem wJ {X:aL}:Passes gP X xO:=fun _ _ _ _ _ _ _ h=>h.elim
structure ku (K:PySem.W.Frag) (x qual:Str) (st:Stmt) (f:Addr) (fd:FuncData):Prop where
 ex:∃(eT:Value) (dM:Option Addr) (cX doc pm:Value) (an:Option Addr) (cn cL:Value) (kT:Array (Option Value)),
  fd=PySem.W.fnOf x qual (jw st) (fI st) (bW st) .none cX doc pm an cn cL∧K.lookup f=some ⟨eT,dM,.func fd,kT⟩∧PySem.W.codeIn K cn qual=true
 aI:PySem.W.keepIn K (.ref f)=true
section
variable {P:Program} {w:World} {K:PySem.W.Frag} {mg:Str→Option Value} {base:Heap}
theorem ku.ok {x qual:Str} {st:Stmt} {f:Addr} {fd:FuncData} {N aM:List Str} {k:Nat} {sp:i9} (F:ku K x qual st f fd) (S:cV N aM (bW st)) (len:∀vs H Q E,sp vs H Q E→vs.length=aM.length)
  (y3:∀(cn:Value) (A:Around) (outer:List Env) (s:Shared) (H:ao) (vs:List V) (Q:cW) (E:c8),dv k (A.deeper (envOfC qual (bW st) s.heap.objs.size f cn))→sp vs H Q E→
    ∃t,fu (eE gP P w K mg base N qual (bW st) f cn A outer s H E).gL (fI st) t∧t { aV:=fun _ H'=>Q .non H',dN:=Q } (start N vs) H):g7 P w K mg base gP (k + 1) f fd aM sp:=by
 obtain ⟨eT,dM,cX,doc,pm,an,cn,cL,kT,rfl,lk,hcd⟩:=F.ex
 refine Et lk hcd S len fun A outer s H vs Q E hr nK=>?_
 obtain ⟨t,h,q⟩:=y3 cn A outer s H vs Q E hr nK
 exact ⟨t,h.gL,q⟩
theorem ku.binds {x qual:Str} {st:Stmt} {f:Addr} {fd:FuncData} {aM:List Str} (F:ku K x qual st f fd)
  (h:∀(cX doc pm:Value) (an:Option Addr) (cn cL:Value) (us:List Value),us.length=aM.length→bindArgs (PySem.W.fnOf x qual (jw st) (fI st) (bW st) .none cX doc pm an cn cL) ⟨us,[]⟩=pure (aM.zip us)):Binds K fd aM []:=by
 obtain ⟨eT,dM,cX,doc,pm,an,cn,cL,kT,rfl,lk,hcd⟩:=F.ex
 exact .all (h cX doc pm an cn cL)
theorem o6 {x qual:Str} {st:Stmt} {f:Addr} {eT:Value} {dM an:Option Addr} {kT:Array (Option Value)} {cX doc pm cn cL:Value} (l:K.lookup f=some ⟨eT,dM,.func (PySem.W.fnOf x qual (jw st) (fI st) (bW st) .none cX doc pm an cn cL),kT⟩)
  (c:PySem.W.codeIn K cn qual=true) (k:PySem.W.keepIn K (.ref f)=true):ku K x qual st f (PySem.W.fnOf x qual (jw st) (fI st) (bW st) .none cX doc pm an cn cL):=⟨⟨eT,dM,cX,doc,pm,an,cn,cL,kT,rfl,l,c⟩,k⟩
end
section
variable {X:aL}
end
noncomputable def B_ (H H':ao):Prop:=∀b o,H b=some o→H' b=some o
theorem B_.seq {K:PySem.W.Frag} {H H':ao} {a:Addr} {xs:List V} (e:B_ H H') (h:b4 K H a xs):b4 K H' a xs:=by
 rcases h with (h | ⟨o,h⟩) | h
 · exact .inl (.inl (e _ _ h))
 · exact .inl (.inr ⟨o,e _ _ h⟩)
 · exact .inr h
end bb
namespace bb
open PySem PySem.Spec PyProof.Rows
section
variable {X:aL}
end
section
variable {dB:Type} [DecidableEq dB]
end
end bb
set_option Elab.async false
set_option linter.all false
set_option maxRecDepth 100000
set_option autoImplicit false
namespace bb
open PySem PySem.Spec PyProof.Rows
structure lb (P:Program) (w:World) (outer:List Env) (H H':ao) (s:Shared) (a:Addr) (C gE:Value) (B:Heap) (s':Shared):Prop where
 os:s'.os=s.os
 bare:AllBare s'.gens
 un:fv (d4 outer) [] H H' s.heap s'.heap
 lD:Heap.FlyingW B outer a C gE s'.heap
 old:∀b o,s.heap.get? b=some o→H b=none→b∉d4 outer→B.get? b=some o
 tG:∀b o,s.heap.get? b=some o→b∉d4 outer→∃b_,B.get? b=some b_
 bB:d2 P w H' B
 ha:H' a=none
noncomputable def gb (P:Program) (w:World):jU:=fun outer H s E e s'=>∃(a:Addr) (C gE:Value) (B:Heap) (H':ao),e= .ref a∧lb P w outer H H' s a C gE B s'∧E C (some a) H'
section
variable {X:aL} {pins:List (Addr×Obj)} {σ :St} {H H':ao} {s s':Shared} {a:Addr} {C gE:Value} {B:Heap}
theorem d2.part (x:d2 X.prog X.w H s.heap) (k:∀b u,(H b).isSome=true→s.heap.get? b=some u→B.get? b=some u):d2 X.prog X.w H B:=fun b o e=>
 (x b o e).k4 (fun c u hc q=>k c u (by rcases hc with rfl | hc <;> simp [*]) q) (fun _ q=>q) fun _ _ q=>q
theorem Ew {env:Env} {outer:List Env} {L:Addr} (h:env.frame=some L) {b:Addr} (hb:b∈d4 (env::outer)):b=L∨b∈d4 outer:=by
 unfold d4 at hb
 rw [List.filterMap_cons,h] at hb
 exact List.mem_cons.mp hb
theorem Inv.P6 {M:Model} {A:Around} {E:Value→Shared→Prop} {h':Heap} {vs:List Value} {Q:Unit→Shared→Prop} (ae:Inv X pins σ H s) (hst:X.stack=X.env::X.outer) (lI:X.env.frame=some X.env.locals) (hex:X.ex=[])
  (iJ:A.frames=some X.stack) (hx:Heap.MadeExcOf s.heap h' a C vs)
  (gX:∀gE B jP,lb X.prog X.w X.outer X.oF H X.eR a C gE B jP→Q () jP):wpAny M A (leaving X.env (.ref a)) Q E { s with heap:=h' }:=by
 have MR:∀env∈X.stack,∀b,env.frame=some b→b∈d4 X.stack:=fun env he b hb=>List.mem_filterMap.mpr ⟨env,he,hb⟩
 have mB:∀b o,s.heap.get? b=some o→b∉d4 X.stack→(PySem.W.hideAll s.heap (d4 X.stack)).get? b=some o:=fun b o q n=>PySem.W.hideAll_get _ q n
 have mE:∀b o,X.eR.heap.get? b=some o→b∉d4 X.outer→b∉d4 X.stack:=fun b o q n z=>by
  rw [hst] at z
  rcases Ew lI z with r | r
  · subst r
    exact absurd (Nat.lt_of_lt_of_le (Heap.lt_size q) ae.ok.above) (Nat.lt_irrefl _)
  · exact n r
 have gY:∀b,b∉X.ex:=fun b z=>by rw [hex] at z; cases z
 refine PySem.wpAny_leaves_madeW (base:=PySem.W.hideAll s.heap (d4 X.stack)) (h:=s.heap) (by rw [iJ,hst]) lI (fun b o q=>PySem.W.of_hideAll _ q) (by have:=PySem.W.funFrames_hide (as:=d4 X.stack) ae.stack MR; rw [hst] at this ⊢; exact this) hx fun j6 t gO il tL ov=>?_
 refine gX (.ref t) (PySem.W.hideAll s.heap (d4 X.stack)) _ ⟨ae.os,ae.bare,⟨?_,?_,?_,?_,ae.base.i6,ae.base.hW,ae.base.i5⟩,gO,?_,?_,?_,?_⟩
 · exact fun b o q n hb _=>gO.1 b o (mB b o (ae.base.keep b o q n hb (gY b)) (mE b o q hb))
 · intro b o q n hb _
   obtain ⟨cB,a7⟩:=ae.base.slot b o q n hb (gY b)
   obtain ⟨_,b_,df,ic⟩:=ae.ok.iI.mem hb
   rw [q] at df; cases df
   obtain ⟨lX,bX⟩:=ov b _ (hx.keeps b _ a7) ic
   exact ⟨lX,bX⟩
 · exact fun b o q n _=>ae.base.free b o q n (gY b)
 · intro b o q _
   by_cases hb:b∈d4 X.outer
   · obtain ⟨_,b_,df,_⟩:=gO.2.2.1.mem hb
     exact ⟨b_,df⟩
   · obtain ⟨b_,df⟩:=ae.base.there b o q (gY b)
     exact ⟨b_,gO.1 b b_ (mB b b_ df (mE b o q hb))⟩
 · exact fun b o q n hb=>mB b o (ae.base.keep b o q n hb (gY b)) (mE b o q hb)
 · intro b o q hb
   obtain ⟨b_,df⟩:=ae.base.there b o q (gY b)
   exact ⟨b_,mB b b_ df (mE b o q hb)⟩
 · exact d2.part (X:=X) (s:=s) ae.bB fun b u hs q=>mB b u q fun z=>by rw [ae.Bg b z] at hs; cases hs
 · cases q:H a with
   | none=>rfl
   | some o=>
     have k:∀o:dJ,e5 X.prog X.w H s.heap a o→∃u,s.heap.get? a=some u:=fun o x=>by
      induction o with
      | lst xs=>obtain ⟨_,_,_,_,e⟩:=x; exact ⟨_,e⟩
      | tup xs=>obtain ⟨_,_,_,_,e,_⟩:=x; exact ⟨_,e⟩
      | dg aX=>obtain ⟨_,_,_,_,o,_,_,e,_⟩:=x; exact ⟨_,e⟩
      | a0 aX=>obtain ⟨_,_,_,_,o,_,_,e,_⟩:=x; exact ⟨_,e⟩
      | set S n=>obtain ⟨o,_,_,_,e,_⟩:=x; exact ⟨_,e⟩
      | ins C a4 aW=>obtain ⟨_,_,_,e,_⟩:=x; exact ⟨_,e⟩
      | own y=>obtain ⟨_,e⟩:=x; exact ⟨_,e⟩
      | xw aW=>obtain ⟨_,⟨_,_,_,e,_⟩,_⟩:=x; exact ⟨_,e⟩
      | wW lo hi=>obtain ⟨_,_,_,e⟩:=x; exact ⟨_,e⟩
      | jA a3 u=>obtain ⟨e,_⟩:=x; exact ⟨_,e⟩
      | oo aM=>exact ⟨_,(show s.heap.get? a=some _ from x)⟩
      | met f y=>exact ⟨_,(show s.heap.get? a=some _ from x)⟩
      | ext pW=>obtain ⟨_,⟨_,e⟩,_⟩:=x; exact ⟨_,e⟩
     obtain ⟨u,e⟩:=k o (ae.bB a o q)
     rw [hx.new] at e; cases e
theorem Inv.P7 {M:Model} {A:Around} {E:Value→Shared→Prop} {Q:Unit→Shared→Prop} (ae:Inv X pins σ H s) (hst:X.stack=X.env::X.outer) (lI:X.env.frame=some X.env.locals) (hex:X.ex=[])
  (iJ:A.frames=some X.stack) (f:lb X.prog X.w X.stack H H' s a C gE B s')
  (gX:∀jP,lb X.prog X.w X.outer X.oF H' X.eR a C gE B jP→Q () jP):wpAny M A (leaving X.env (.ref a)) Q E s':=by
 have mE:∀b o,X.eR.heap.get? b=some o→b∉d4 X.outer→b∉d4 X.stack:=fun b o q n z=>by
  rw [hst] at z
  rcases Ew lI z with r | r
  · subst r
    exact absurd (Nat.lt_of_lt_of_le (Heap.lt_size q) ae.ok.above) (Nat.lt_irrefl _)
  · exact n r
 have M9:∀b,b∈d4 X.outer→b∈d4 X.stack:=fun b z=>by
  rw [hst]; unfold d4; rw [List.filterMap_cons,lI]; exact List.mem_cons_of_mem _ z
 have gY:∀b,b∉X.ex:=fun b z=>by rw [hex] at z; cases z
 have no:∀b:Addr,b∉([]:List Addr):=fun b z=>by cases z
 obtain ⟨os,bare,un,lD,old,tG,bB,ha⟩:=f
 rw [hst] at lD
 refine PySem.wpAny_leaves_onW (by rw [iJ,hst]) lI lD fun j6 gO il=>?_
 refine gX _ ⟨os.trans ae.os,bare,⟨?_,?_,?_,?_,fun b xs q=>un.i6 b xs (ae.base.i6 b xs q),fun b o u q=>un.hW b o u (ae.base.hW b o u q),?_⟩,gO,?_,?_,bB,ha⟩
 · exact fun b o q n hb _=>gO.1 b o (old b o (ae.base.keep b o q n hb (gY b)) (ae.base.free b o q n (gY b)) (mE b o q hb))
 · intro b o q n hb _
   obtain ⟨cB,a7⟩:=ae.base.slot b o q n hb (gY b)
   obtain ⟨_,b_,df,ic⟩:=ae.ok.iI.mem hb
   rw [q] at df; cases df
   obtain ⟨W8,bX⟩:=un.slot b _ a7 (ae.base.free b o q n (gY b)) (M9 b hb) (no b)
   obtain ⟨lX,eU⟩:=il b _ bX ic
   exact ⟨lX,eU⟩
 · intro b o q n _
   obtain ⟨b_,df⟩:=ae.base.there b o q (gY b)
   exact un.free b b_ df (ae.base.free b o q n (gY b)) (no b)
 · intro b o q _
   by_cases hb:b∈d4 X.outer
   · obtain ⟨_,b_,df,_⟩:=gO.2.2.1.mem hb
     exact ⟨b_,df⟩
   · obtain ⟨b_,df⟩:=ae.base.there b o q (gY b)
     obtain ⟨cQ,bX⟩:=tG b b_ df (mE b o q hb)
     exact ⟨cQ,gO.1 b cQ bX⟩
 · intro b aM q
   obtain ⟨m1,ar⟩:=ae.base.i5 b aM q
   obtain ⟨m2,aG⟩:=un.i5 b _ ar
   exact ⟨m1 ++ m2,by rw [aG,Array.append_assoc]⟩
 · exact fun b o q n hb=>old b o (ae.base.keep b o q n hb (gY b)) (ae.base.free b o q n (gY b)) (mE b o q hb)
 · intro b o q hb
   obtain ⟨b_,df⟩:=ae.base.there b o q (gY b)
   exact tG b b_ df (mE b o q hb)
end
end bb
set_option Elab.async false
set_option linter.all false
set_option maxRecDepth 100000
set_option autoImplicit false
namespace bb
open PySem PySem.Spec PyProof.Rows
theorem L5 {K:PySem.W.Frag} {h:Heap} {C:Addr} {rU:List Value} {newId:String} (X:K.In h) (q:PySem.W.excIn K C rU newId=true) :
  ∃bm N nm q bs hdct sn sub ab col dd k0 k1 k2 k3 k5 mN,h.get? C=some (excClassObj nm q C N bs bm hdct sn sub ab col dd k0 k1 k2 k3 k5 newId)∧h.Ns N mN∧mN "__init__"=none∧OwnTail h rU bm:=by
 unfold PySem.W.excIn at q
 split at q
 · rename_i dd cd cB ho
   split at q
   · rename_i jo bm k0 k1 k2 k3 n k5 hm hs
     simp only [Bool.and_eq_true,beq_iff_eq,Bool.not_eq_true'] at q
     obtain ⟨⟨⟨⟨⟨rfl,rfl⟩,EO⟩,ht⟩,bB⟩,vL⟩:=q
     obtain ⟨nm,bs,mro,ns,qn,hd,sn,sub,ab,col,del⟩:=cd
     dsimp only at hm EO bB vL
     subst hm EO
     have Ng:cB= #[k0,k1,k2,k3,some (.builtin n),k5]:=by
      obtain ⟨l⟩:=cB
      simp only at hs
      rw [hs]
     subst Ng
     exact ⟨bm,ns,nm,qn,bs,hd,sn,sub,ab,col,dd,k0,k1,k2,k3,k5,_,X _ _ ho,.of_isNs (PySem.W.isNs_of_in X bB),PySem.W.nsMap_none_of_in X bB vL,PySem.W.tail_of_in X ht⟩
   · cases q
 · cases q
noncomputable def H9 (X:aL) (C:Addr):eB:=fun _ σ H=>∀pins s h' a vs,Inv X pins σ H s→Heap.MadeExcOf s.heap h' a (.ref C) vs→X.xe (.ref a) { s with heap:=h' }
section
variable {X:aL} {x:Str} {np bV pos my:Pos} {C:Addr} {rU:List Value} {B newId Ou:String} {m:Str} {j:Nat}
theorem Si (FB:ExcBaseFacts B newId Ou rU) (q:PySem.W.excIn X.K C rU newId=true) (hm:X.mg x=some (.ref C)) (hc:X.calm=true:=by rfl) (hg:cN X x:=by rfl) (hd:(x == ("__debug__" :Str))=false:=by decide) :
  dj X (.Raise (some (.Call (.Name x np) [.Constant (.str m) j my] [] bV)) none pos) (H9 X C):=by
 intro pins s σ H D ae h
 obtain ⟨bm,N,nm,qn,bs,hdct,sn,sub,ab,col,dd,k0,k1,k2,k3,k5,mN,iK,hN,vL,Ca⟩:=L5 ae.mod.mH q
 refine wpAny_Raise_call_subT (mN:=mN) (C:=C) (nm:=nm) (q:=qn) (N:=N) (bs:=bs) (bm:=bm) (hdct:=hdct) (sn:=sn) (sub:=sub) (ab:=ab) (col:=col) (dd:=dd) (k0:=k0) (k1:=k1) (k2:=k2) (k3:=k3) (k5:=k5) FB (Ca.hasType FB.hasBase) (ae.ok.hd hc) rfl vL (qM ae hg hm ⟨rfl,?_⟩ hd)
 refine Calls.evalArgs_plain (Calls.spliced_cons (bL (GJ (X:=X) (x:=m) (j:=j) (pos:=my) pins s σ H (fun _ H1=>H1=H) ae rfl) fun u s1 ⟨v,H1,aR,av,ar⟩=>?_))
 subst ar
 refine Calls.spliced_nil ⟨rfl,Nat.le_of_ble_eq_true rfl,aR.ee _ _ iK,hN.keeps aR.ee,Ca.keeps aR.ee,fun h' a hx=>h pins s1 h' a _ aR hx⟩
theorem V_ {P:Program} {w:World} {K:PySem.W.Frag} {mg:Str→Option Value} {base:Heap} {N:List Str} {qual:Str} {scope:Scope} {f:Addr} {cd:Value} {A:Around} {outer:List Env} {s0:Shared} {bw:ao} {E:c8} {σ :St} {H:ao} {cJ:Ends}
  (h:∀a,H a=none→E (.ref C) (some a) H):H9 (eE (gb P w) P w K mg base N qual scope f cd A outer s0 bw E) C cJ σ H:=fun pins s h' a vs ae hx=>
 ae.P6 (C:= .ref C) rfl rfl rfl ae.ok.frames hx fun gE B jP gm=>⟨a,.ref C,gE,B,H,rfl,gm,h a gm.ha⟩
theorem RB {P:Program} {w:World} {K:PySem.W.Frag} {mg:Str→Option Value} {base:Heap} {N:List Str} {qual:Str} {scope:Scope} {f:Addr} {cd:Value} {A:Around} {outer:List Env} {s0:Shared} {bw:ao} {E:c8} :
  Passes (gb P w) (eE (gb P w) P w K mg base N qual scope f cd A outer s0 bw E) E:=fun pins σ H s e s' ae hx=>by
 obtain ⟨a,C,gE,B,H',rfl,gm,hE⟩:=hx
 exact ae.P7 (X:=eE (gb P w) P w K mg base N qual scope f cd A outer s0 bw E) rfl rfl rfl ae.ok.frames gm fun jP Mk=>⟨a,C,gE,B,H',rfl,Mk,hE⟩
end
end bb
set_option Elab.async false
set_option linter.all false
set_option maxRecDepth 100000
set_option autoImplicit false
namespace bb
open PySem PySem.Spec PyProof.Rows
noncomputable abbrev o5 (a:Addr) (C:Value):dJ:= .ext fun h=>∃a3,h.get? a=some a3∧a3.cls=C
section
variable {X:aL} {pins:List (Addr×Obj)} {σ :St} {H H':ao} {s s':Shared} {a:Addr} {C gE:Value} {B:Heap} {j6:Heap}
theorem lb.inv (f:lb X.prog X.w X.stack H H' s a C gE B s') (ae:Inv X pins σ H s) (st:B.StaysIn j6) (yQ:j6.FunFrames B X.stack) (up:s'.heap.UpToSlots j6):Inv X pins σ H' { s' with heap:=j6 }:=by
 have no:∀b:Addr,b∉([]:List Addr):=fun b z=>by cases z
 refine ae.CS (s':={ s' with heap:=j6 }) (ch:=[]) f.os ⟨fun b o q n hb _=>st b o (f.old b o q n hb),fun b o q n hb _=>?_,f.un.free,fun b o q _=>?_,f.un.i6,f.un.hW,f.un.i5⟩ (f.bB.kept fun b u q=>st b u q) f.bare (fun b hb=>nomatch hb)
 · obtain ⟨cB,a7⟩:=f.un.slot b o q n hb (no b)
   obtain ⟨_,b_,df,ic⟩:=ae.stack.mem hb
   rw [q] at df; cases df
   obtain ⟨lX,bX⟩:=up b _ a7 ic
   exact ⟨lX,bX⟩
 · by_cases hb:b∈d4 X.stack
   · obtain ⟨_,b_,df,_⟩:=yQ.mem hb
     exact ⟨b_,df⟩
   · obtain ⟨b_,df⟩:=f.tG b o q hb
     exact ⟨b_,st b b_ df⟩
theorem lb.wz (f:lb X.prog X.w X.stack H H' s a C gE B s') {b:Addr} {o:Obj} (q:s.heap.get? b=some o):b≠a:=by
 rintro rfl
 by_cases hb:b∈d4 X.stack
 · obtain ⟨_,b_,df,ic⟩:=f.lD.2.2.1.mem hb
   obtain ⟨wD,vs,T,W5,ts,he,hc,hd,_⟩:=f.lD.2.2.2
   rw [df] at he; cases he
   exact ic vs hd
 · obtain ⟨b_,df⟩:=f.tG b o q hb
   rw [f.lD.2.1] at df; cases df
theorem lb.Vg (f:lb X.prog X.w X.stack H H' s a C gE B s') (ae:Inv X pins σ H s) (hex:X.ex=[]) (st:B.StaysIn j6) (yQ:j6.FunFrames B X.stack) (up:s'.heap.UpToSlots j6) (a3:∃o,j6.get? a=some o∧o.cls=C) :
  Inv X pins σ (upd H' a (o5 a C)) { s' with heap:=j6 }:=by
 have bJ:=f.inv ae st yQ up
 have gY:∀b,b∉X.ex:=fun b z=>by rw [hex] at z; cases z
 have na:∀{b:Addr} {u:dJ},H' b=some u→b≠a:=fun {b u} q=>iU q f.ha
 have old:∀{b:Addr} {o:Obj},X.eR.heap.get? b=some o→b≠a:=fun {b o} q=>by
  obtain ⟨b_,df⟩:=ae.base.there b o q (gY b)
  exact f.wz df
 refine ⟨bJ.ok,bJ.os,bJ.bare,⟨bJ.base.keep,bJ.base.slot,fun b o q n hx=>?_,bJ.base.there,fun b xs q=>?_,fun b o u q=>?_,fun b aM q=>?_⟩,bJ.loc,bJ.cell,?_,fun x c e=>?_,fun p hp=>?_,fun b o q=>?_,bJ.len⟩
 · rw [de (old q)]; exact bJ.base.free b o q n hx
 · have:=bJ.base.i6 b xs q
   rw [de (na this)]; exact this
 · have:=bJ.base.hW b o u q
   rw [de (na this)]; exact this
 · obtain ⟨m,e⟩:=bJ.base.i5 b aM q
   exact ⟨m,by rw [de (na e)]; exact e⟩
 · obtain ⟨m,⟨o,_,_,ho,_⟩,_⟩:=ae.loc
   rw [de (f.wz ho)]; exact bJ.free
 · obtain ⟨v,o,ho,_⟩:=ae.cell x c e
   rw [de (f.wz ho)]; exact bJ.jc x c e
 · obtain ⟨e,n,r⟩:=bJ.pin p hp
   obtain ⟨cw,_⟩:=ae.pin p hp
   exact ⟨e,by rw [de (f.wz cw)]; exact n,r⟩
 · by_cases hb:b=a
   · subst hb
     rw [en] at q; cases q
     obtain ⟨o,e,c⟩:=a3
     exact ⟨⟨o,e,c⟩,⟨o,e⟩,fun h1 h2 ⟨c1,ar,bD⟩ k=>⟨c1,k c1 ar,bD⟩⟩
   · rw [de hb] at q
     exact (bJ.bB b o q).k4 (fun c v _ r=>r) (fun c r=>by rw [de (na r)]; exact r) fun c xs r=>by rw [de (na r)]; exact r
end
noncomputable def B7 (X:aL) (e:Expr) (t:TE) (E:c8):Prop:=∀(pins:List (Addr×Obj)) (s:Shared) (σ :St) (H:ao) (Q:cW),Inv X pins σ H s→t σ H Q→
 wpAny (model X.prog X.w) X.A (eval e X.env) (fS X pins σ Q) (fun x s'=>∃H1 s1,Inv X pins σ H1 s1∧gb X.prog X.w X.stack H1 s1 E x s') s
section
variable {X:aL} {k:Nat} {f C:Addr} {fd:FuncData} {aM:List Str} {sp:i9} {E:c8} {x:Str} {p pos:Pos} {e:Expr} {aq:List Expr} {t:eA}
theorem RX (F:g7 X.prog X.w X.K X.mg X.base (gb X.prog X.w) k f fd aM sp) (hr:dv k X.A) (hg:cN X x) (hm:X.mg x=some (.ref f)) (hk:PySem.W.keepIn X.K (.ref f)=true) (hb:Binds X.K fd aM [])
  (ha:eN X.gL (e::aq) t) (hdb:(x == ("__debug__" :Str))=false:=by decide) (he:starEach (e::aq) X.env=(false,eval e X.env)::starEach aq X.env:=by rfl) (hpl:(backTo pos (starEach aq X.env)).any (·.1)=false:=by rfl) :
  B7 X (.Call (.Name x p) (e::aq) [] pos) (ri sp [] E t) E:=by
 intro pins s σ H Q ae h
 refine wpAny_Call_Name_kw (qM ae hg hm ?_ hdb)
 refine PySem.W.callWith_K (h₀:=X.base) ae.ok.mod.mH hk (wpAny_mono (ha pos pins s σ H _ (ae.jl _) h) (fun us s1 ⟨vs,H1,aR,r,q⟩=>⟨aR.ij.e_,?_⟩) fun _ _ z=>z.elim) he hpl
 have bJ:=aR.ij
 replace q:sp (vs ++ []) H1 Q E:=q
 rw [List.append_nil] at q
 have hl:us.length=aM.length:=by rw [←r.length]; exact F.len _ _ _ _ q
 refine wpAny_call (codeAny_mono (F.run X.A X.stack s1 H1 ⟨us,[]⟩ us vs Q E hr bJ.yE (by have:=hb s1 us bJ.e_ (by rw [List.append_nil]; exact hl); rw [List.append_nil] at this; exact this) r q) fun r s' aO=>?_)
 cases r with
 | error e=>exact ⟨H1,s1,bJ,aO⟩
 | ok gm=>
   cases gm with
   | ret u=>exact bJ.after aO
   | next=>exact False.elim aO
   | brk=>exact False.elim aO
   | cont=>exact False.elim aO
end
end bb
set_option Elab.async false
set_option linter.all false
set_option maxRecDepth 100000
set_option autoImplicit false
namespace bb
open PySem PySem.Spec PyProof.Rows
noncomputable abbrev aL.marked (X:aL) (a:Addr):aL:={ X with A:=X.A.mark (some (.ref a)),calm:=false,xe:=fun _ _=>False }
section
variable {X:aL} {pins:List (Addr×Obj)} {σ :St} {H H':ao} {s s':Shared} {a:Addr}
theorem aL.Ok.marked (ok:X.Ok) (a:Addr):(X.marked a).Ok:=
 ⟨ok.mod,ok.kind,ok.glob,ok.blt,ok.above,ok.inj,ok.has,ok.qo,(fun z=>Bool.noConfusion z),ok.frames,ok.tx,ok.yM,ok.bs,ok.mu,ok.n4,ok.r3,ok.iI,ok.nH⟩
theorem Inv.marked (ae:Inv X pins σ H s) (a:Addr):Inv (X.marked a) pins σ H s:=⟨ae.ok.marked a,ae.os,ae.bare,ae.base,ae.loc,ae.cell,ae.free,ae.jc,ae.pin,ae.bB,ae.len⟩
theorem Inv.unmarked (ok:X.Ok) (ae:Inv (X.marked a) pins σ H s):Inv X pins σ H s:=⟨ok,ae.os,ae.bare,ae.base,ae.loc,ae.cell,ae.free,ae.jc,ae.pin,ae.bB,ae.len⟩
theorem Inv.unset {i:Nat} {n:Str} {m:Str→Option Value} {v:Option Value} {h':Heap} {du:Nat} (ae:Inv X pins σ H s) (hN:X.N.Nodup) (hi:X.N[i]? =some n)
  (hl:∀(i:Nat) (x:Str) (v:V),X.N[i]? =some x→ σ[i]? =some (some v)→fE X.env.scope x→∃u,RelV v u∧Look X.env s.heap m x u) (aC:s.heap.Ns X.env.locals m)
  (sr:h'.Ns X.env.locals (fun y=>if y=n then v else m y)) (hs:Heap.SameBut X.env.locals s.heap h'):Inv X pins (σ.set i none) H { s with heap:=h',toks:=du }:=by
 have ne:∀{b:Addr} {o:Obj},X.eR.heap.get? b=some o→b≠X.env.locals:=fun {b o} e=>Nat.ne_of_lt (Nat.lt_of_lt_of_le (Heap.lt_size e) ae.ok.above)
 have cell:∀x c v,X.env.cells.lookup x=some c→s.heap.IsCell c v→h'.IsCell c v:=fun x c v e ⟨o,ho,hd⟩=>⟨o,(hs.2 c (ae.lA x c e)).trans ho,hd⟩
 refine ⟨ae.ok,ae.os,ae.bare,⟨fun b o e n hb hx=>(hs.2 b (ne e)).trans (ae.base.keep b o e n hb hx),fun b o e n hb hx=>?_,ae.base.free,fun b o e hx=>?_,ae.base.i6,ae.base.hW,ae.base.i5⟩,⟨_,sr,fun j y m5 ar aG cM=>?_⟩,fun y c e=>?_,ae.free,ae.jc,fun p hp=>?_,fun b a3 e=>?_,by simpa using ae.len⟩
 · obtain ⟨cB,ar⟩:=ae.base.slot b o e n hb hx
   exact ⟨cB,(hs.2 b (ne e)).trans ar⟩
 · obtain ⟨b_,ar⟩:=ae.base.there b o e hx
   exact ⟨b_,(hs.2 b (ne e)).trans ar⟩
 · have dx:j≠i:=by
    rintro rfl
    rw [List.getElem?_set] at aG
    split at aG
    · split at aG <;> cases aG
    · exact absurd rfl ‹_›
   rw [List.getElem?_set_ne (Ne.symm dx)] at aG
   obtain ⟨u,r,l⟩:=hl j y m5 ar aG cM
   refine ⟨u,r,?_⟩
   rcases l with ⟨k,q⟩ | ⟨k,c,q,z⟩
   · refine .inl ⟨k,?_⟩
     show (if y=n then v else m y)=some u
     rw [if_neg (fun z:y=n=>dx (z0 hN ar (by rw [z]; exact hi)))]
     exact q
   · exact .inr ⟨k,c,q,cell _ _ _ q z⟩
 · obtain ⟨v,z⟩:=ae.cell y c e
   exact ⟨v,cell y c v e z⟩
 · obtain ⟨e,n,ne',ic,d⟩:=ae.pin p hp
   exact ⟨(hs.2 _ ne').trans e,n,ne',ic,d⟩
 · have fk:H X.env.locals=none:=ae.free
   refine (ae.bB b a3 e).k4 (fun c ey hc q=>(hs.2 c ?_).trans q) (fun _ q=>q) fun _ _ q=>q
   rintro rfl
   rcases hc with rfl | hc
   · rw [fk] at e; cases e
   · rw [fk] at hc; cases hc
theorem xt {M:Model} {A:Around} {E:Value→Shared→Prop} {i:Nat} {n:Str} {pos:Pos} {Q:Unit→Shared→Prop} (ae:Inv X pins σ H s) (hN:X.N.Nodup) (hi:X.N[i]? =some n) (hl:X.env.scope.names.lookup n=some .local)
  (h:∀s',Inv X pins (σ.set i none) H s'→Q () s'):wpAny M A (do bindName X.env n .none; unbindBehindTheSuite X.env n pos) Q E s:=by
 obtain ⟨m,aC,MX⟩:=id ae.loc
 exact wpAny_nameGoes_keeps hl aC (by rw [ae.ok.kind]; rfl) fun h' v sr hs=>h _ (ae.unset hN hi MX aC sr hs)
end
noncomputable def UM (i:Nat) (te:TE) (E:c8) (ts:eB):eB:=fun D σ H=>te σ H (fun _ H1=>D.aV σ H1)∧∀(C:Value) (a:Addr) (H':ao),E C (some a) H'→H' a=none→
 ts { aV:=fun σ2 aT=>D.aV (σ2.set i none) aT,dN:=D.dN,ee:=fun σ2 aT=>D.ee (σ2.set i none) aT,cL:=fun σ2 aT=>D.cL (σ2.set i none) aT } (σ.set i (some (.ref a))) (upd H' a (o5 a C))
section
variable {X:aL} {i:Nat} {x n:Str} {W:Addr} {e:Expr} {te:TE} {E:c8} {rW:Stmt} {tB:List Stmt} {ts:eB} {pF np hp pos:Pos}
theorem Sj (hN:X.N.Nodup) (he:B7 X e te E) (hm:X.mg x=some (.ref W)) (zd:∀C a H,E C a H→PySem.W.exmOne X.K C (.ref W)=some true) (hs:∀a,fu (X.marked a) (rW::tB) ts)
  (hi:X.N[i]? =some n:=by rfl) (hl:X.env.scope.names.lookup n=some .local:=by rfl) (hst:X.stack=X.env::X.outer:=by rfl) (lI:X.env.frame=some X.env.locals:=by rfl) (hex:X.ex=[]:=by rfl)
  (hg:cN X x:=by rfl) (hd:(x == ("__debug__" :Str))=false:=by decide) (kI:swapsWith e none pF.line X.env=pure false:=by rfl) :
  dj X (.Try [.Expr e pF] [.ExceptHandler (some (.Name x np)) (some n) (rW::tB) hp] [] [] pos) (UM i te E ts):=by
 intro pins s σ H D ae h
 obtain ⟨h1,h2⟩:=h
 refine wpAny_Try_except (wpAny_execs_cons (wpAny_Expr_any (wpAny_mono (he pins s σ H _ ae h1) (fun v s1 hv=>?_) (fun y s' b5=>?_)) ae.quiet kI))
 · obtain ⟨y,H1,aR,av,a7⟩:=hv
   exact wpAny_execs_nil (wpAny_execs_nil ⟨σ,H1,aR,a7⟩)
 · obtain ⟨H1,s1,aR,a,C,gE,B,H',rfl,gm,hE⟩:=b5
   have lD:=gm.lD
   rw [hst] at lD
   have iJ:X.A.frames=some (X.env::X.outer):=by rw [←hst]; exact aR.ok.frames
   refine wpAny_looks_onW iJ lI lD fun qD MJ IC=>?_
   refine wpAny_landsW MJ fun f3 vu ID=>?_
   have l_:Inv X pins σ H' { s' with heap:=f3 }:=gm.inv aR vu.1 (by rw [hst]; exact vu.2.2.1) (IC.trans ID)
   refine wpAny_handleBy_cons (codeAny_handlers_test (qM (X:=X.marked a) (l_.marked a) hg hm ?_ hd)) (by intro q; cases q)
   obtain ⟨a3,M4,M5⟩:=vu.there
   have LT:PySem.W.Looks (model X.prog X.w) f3 (typeOf (.ref a)) C:=by
    rw [←M5]
    exact (PySem.W.Looks.ld M4).andThen .now
   refine (PySem.W.exm_one (K:=X.K) l_.e_ LT (zd C _ H' hE)).here ?_
   refine codeAny_handlers_suite_as ?_
   refine lands_againW vu fun Nv yT Vw=>?_
   have oH:Inv X pins σ (upd H' a (o5 a C)) { s' with heap:=Nv }:=gm.Vg aR hex yT.1 (by rw [hst]; exact yT.2.2.1) ((IC.trans ID).trans Vw) (by obtain ⟨o,q,c⟩:=yT.there; exact ⟨o,q,c⟩)
   refine Bh (X:=X) (v:= .ref a) oH hN hi (.inl hl) rfl (fun dz iy=>?_) (.inr hl)
   refine wpAny_mono (hs a pins dz _ _ _ (iy.marked a) (h2 C a H' hE gm.ha)) (fun Ml cZ q8=>?_) fun _ _ z=>z.elim
   cases Ml with
   | next=>
     obtain ⟨σ',xR,bJ,q⟩:=q8
     exact xt (bJ.unmarked ae.ok) hN hi hl fun cy oI=>⟨_,_,oI,q⟩
   | brk=>
     obtain ⟨σ',xR,bJ,q⟩:=q8
     exact xt (bJ.unmarked ae.ok) hN hi hl fun cy oI=>⟨_,_,oI,q⟩
   | cont=>
     obtain ⟨σ',xR,bJ,q⟩:=q8
     exact xt (bJ.unmarked ae.ok) hN hi hl fun cy oI=>⟨_,_,oI,q⟩
   | ret u=>
     obtain ⟨v,σ',xR,bJ,r,q⟩:=q8
     exact xt (bJ.unmarked ae.ok) hN hi hl fun cy oI=>⟨v,_,_,oI,r,q⟩
end
end bb
set_option Elab.async false
set_option linter.all false
set_option maxRecDepth 100000
namespace bb
open PySem PySem.Spec PyProof.Rows
noncomputable def iF (env:Env):List (Str×NameKind)→List (Str×Addr)→List (Str×Addr)
 | [],cs=>cs
 | (x,k)::r,cs=>iF env r (if k == .free then (x,(env.cells.lookup x).getD 0)::cs else cs)
theorem C0 {env:Env}:∀(names:List (Str×NameKind)) (cs:List (Str×Addr)),(∀p∈names,p.2= .free→∃c,env.cells.lookup p.1=some c)→
 (forIn (m:=Sem) names cs fun (x:Str×NameKind) cs=>if (x.2 == NameKind.free)=true then do
   let a ←cellOf env x.1
   pure (ForInStep.yield ((x.1,a)::cs)) else pure (ForInStep.yield cs))=pure (iF env names cs)
 | [],cs,_=>rfl
 | (x,k)::r,cs,h=>by
   rw [List.forIn_cons]
   have c0:=C0 (env:=env) r
   by_cases hk:k= .free
   · subst hk
     obtain ⟨c,hc⟩:=h (x,.free) List.mem_cons_self rfl
     have ar:cellOf env x=pure c:=by unfold cellOf; rw [hc]
     simp only [beq_self_eq_true,if_true,iF,ar,hc,Option.getD_some,pure_bind]
     exact c0 _ fun p hp=>h p (List.mem_cons_of_mem _ hp)
   · have hb:(k == NameKind.free)=false:=by simpa using hk
     simp only [hb,Bool.false_eq_true,if_false,iF,pure_bind]
     exact c0 _ fun p hp=>h p (List.mem_cons_of_mem _ hp)
theorem CZ {env:Env} {scope:Scope} (h:∀p∈scope.names,p.2= .free→∃c,env.cells.lookup p.1=some c):closureFor scope env=pure (iF env scope.names []):=by
 have e:=C0 (env:=env) scope.names [] h
 unfold closureFor
 refine Eq.trans (b:=(forIn (m:=Sem) scope.names [] fun (x:Str×NameKind) cs=>if (x.2 == NameKind.free)=true then do
   let a ←cellOf env x.1
   pure (ForInStep.yield ((x.1,a)::cs)) else pure (ForInStep.yield cs)) >>= pure) rfl ?_
 rw [e]
 rfl
theorem CY {env:Env} {x:Str}:∀(names:List (Str×NameKind)) (cs:List (Str×Addr)),(∀p∈names,p.2= .free→∃c,env.cells.lookup p.1=some c)→
  (iF env names cs).lookup x=if (x,NameKind.free)∈names then env.cells.lookup x else cs.lookup x
 | [],cs,_=>by simp [iF]
 | (y,k)::r,cs,h=>by
   rw [iF,CY r _ fun p hp=>h p (List.mem_cons_of_mem _ hp)]
   by_cases hm:(x,NameKind.free)∈r
   · rw [if_pos hm,if_pos (List.mem_cons_of_mem _ hm)]
   · rw [if_neg hm]
     by_cases hk:k= .free
     · subst hk
       obtain ⟨c,hc⟩:=h (y,.free) List.mem_cons_self rfl
       by_cases hx:x=y
       · subst hx
         rw [if_pos List.mem_cons_self]
         simp [List.lookup_cons,hc]
       · have nm:¬ (x,NameKind.free)∈(y,NameKind.free)::r:=fun z=>by
          rcases List.mem_cons.mp z with e | e
          · exact hx (by injection e)
          · exact hm e
         rw [if_neg nm]
         have hb:(x == y)=false:=by simpa using hx
         simp [List.lookup_cons,hb]
     · have hb:(k == NameKind.free)=false:=by simpa using hk
       have nm:¬ (x,NameKind.free)∈(y,k)::r:=fun z=>by
        rcases List.mem_cons.mp z with e | e
        · exact hk (by injection e with _ aG; exact aG.symm)
        · exact hm e
       rw [if_neg nm]
       simp [hb]
theorem Kr {prog:Program} {w:World} {A:Around} {R:Result→Shared→Prop} {s:Shared} {elt target iter:Expr} {ifs:List Expr} {scope:Scope} {pos:Pos} {it acc:Value} {env:Env} (ae:Nat→Shared→Prop)
  (turn:∀n s,ae n s→wpAny (model prog w) A (pyNext it) (fun r c7=>match r with
    | none=>R (.ok .next) c7
    | some v=>wpAny (model prog w) A (letOwnedTupleGo target it v) (fun _ HQ=>wpAny (model prog w) A (assign target env v) (fun _ jR=>
       wpAny (model prog w) A (forIn ifs true fun c r=>if r=true then do let ok ←isTrue c env (eval c env); pure (ForInStep.yield ok) else pure (ForInStep.yield r)) (fun ok oi=>
        if ok=true then wpAny (model prog w) A (eval elt env) (fun x xh=>
         wpAny (model prog w) A (call (.builtin "list.append") [acc,x]) (fun _ HR=>∃m,m < n∧ae m HR) (notedBy (model prog w) A env fun e s'=>R (.error e) s') xh) (notedBy (model prog w) A env fun e s'=>R (.error e) s') oi
        else ∃m,m < n∧ae m oi) (notedBy (model prog w) A env fun e s'=>R (.error e) s') jR) (notedBy (model prog w) A env fun e s'=>R (.error e) s') HQ) (notedBy (model prog w) A env fun e s'=>R (.error e) s') c7) (notedBy (model prog w) A env fun e s'=>R (.error e) s') s)
  (n:Nat) (h:ae n s):codeAny (model prog w) A (.compLoop (.ListComp elt [⟨target,iter,ifs,0⟩] scope pos) 0 it acc env) R s:=by
 refine codeAny_loop rfl ae (fun n s sg=>?_) n h
 show wpAny _ A ((compTurn (.ListComp elt [⟨target,iter,ifs,0⟩] scope pos) 0 it acc env).onRaise (fun x=>do noteFrame x env; theTreesLotGoes x)) _ _ s
 refine wpAny_noted ?_
 rw [compTurn_list]
 refine wpAny_bind (wpAny_standAt (wpAny_bind (wpAny_mono (turn n s sg) (fun r c7 kb=>?_) fun _ _ h'=>h')))
 cases r with
 | none=>exact wpAny_pure kb
 | some v=>
   refine wpAny_bind (wpAny_mono kb (fun _ HQ Nu=>?_) fun _ _ h'=>h')
   refine wpAny_bind (wpAny_mono Nu (fun _ jR kK=>wpAny_bind (wpAny_mono kK (fun ok oi lJ=>?_) fun _ _ h'=>h')) fun _ _ h'=>h')
   cases ok with
   | false=>exact wpAny_pure ⟨rfl,lJ⟩
   | true=>
     exact wpAny_bind (wpAny_bind (wpAny_mono lJ (fun x xh qD=>wpAny_bind (wpAny_mono qD (fun _ HR f3=>wpAny_pure (wpAny_pure ⟨rfl,f3⟩)) fun _ _ h'=>h')) fun _ _ h'=>h'))
noncomputable abbrev eX (X:aL) (scope:Scope) (N:List Str) (cl:List (Str×Addr)) (C:Addr) (s:Shared) (H:ao) (a6:List Addr):aL where
 prog:=X.prog
 w:=X.w
 K:=X.K
 mg:=X.mg
 base:=X.base
 A:=X.A
 N:=N
 eR:=s
 oF:=H
 env:=compEnvC scope cl C X.env
 outer:=X.stack
 stack:=X.stack
 ex:=a6
 calm:=X.calm
 fn:=fun _=>false
 n8:=[]
 xe:=fun _ _=>False
noncomputable def lx (nl:Nat) (caps:List Nat) (σ :St):St:=List.replicate nl none ++ caps.map fun j=> σ.getD j none
noncomputable def vR:Option NameKind→Bool
 | some .cell=>true
 | some .free=>true
 | _=>false
structure l7 (sc:Scope) (p6:List Str) (scope:Scope) (N:List Str) (nl:Nat) (caps:List Nat):Prop where
 kind:scope.kind= .function
 F_:∀x∈scope.names,x.2≠ .cell
 locs:∀x∈scope.names,x.2= .local→scope.names.lookup x.1=some .local
 free:∀x∈scope.names,x.2= .free→vR (sc.names.lookup x.1)=true
 len:N.length=nl + caps.length
 Km:∀k j,caps[k]? =some j→∃x,p6[j]? =some x∧N[nl + k]? =some x∧scope.names.lookup x=some .free∧vR (sc.names.lookup x)=true
noncomputable def qq (sc:Scope) (p6:List Str) (scope:Scope) (N:List Str) (nl:Nat) (caps:List Nat):Bool:=
 (scope.kind == .function) && scope.names.all (fun x=>x.2 != .cell && (x.2 != .local || scope.names.lookup x.1 == some .local) && (x.2 != .free || vR (sc.names.lookup x.1))) &&
 (N.length == nl + caps.length) && (caps.zipIdx.all fun Fz=>match p6[Fz.1]? with
   | none=>false
   | some x=>N[nl + Fz.2]? == some x && scope.names.lookup x == some .free && vR (sc.names.lookup x))
theorem l7.of {sc:Scope} {p6:List Str} {scope:Scope} {N:List Str} {nl:Nat} {caps:List Nat} (h:qq sc p6 scope N nl caps=true):l7 sc p6 scope N nl caps:=by
 unfold qq at h
 rw [Bool.and_eq_true,Bool.and_eq_true,Bool.and_eq_true] at h
 obtain ⟨⟨⟨h1,h2⟩,h3⟩,h4⟩:=h
 rw [List.all_eq_true] at h2 h4
 refine ⟨eq_of_beq h1,fun x hx=>?_,fun x hx e=>?_,fun x hx e=>?_,eq_of_beq h3,fun k j e=>?_⟩
 · have:=h2 x hx
   rw [Bool.and_eq_true,Bool.and_eq_true] at this
   simpa using this.1.1
 · have:=h2 x hx
   rw [Bool.and_eq_true,Bool.and_eq_true] at this
   have q:=this.1.2
   rw [e] at q
   simpa using q
 · have:=h2 x hx
   rw [Bool.and_eq_true,Bool.and_eq_true] at this
   have q:=this.2
   rw [e] at q
   simpa using q
 · have m:(j,k)∈caps.zipIdx:=by
    rw [List.mem_zipIdx_iff_getElem?]
    exact e
   have q:=h4 _ m
   dsimp only at q
   split at q
   · cases q
   · rename_i x ex
     rw [Bool.and_eq_true,Bool.and_eq_true] at q
     exact ⟨x,ex,eq_of_beq q.1.1,eq_of_beq q.1.2,q.2⟩
theorem Af {scope:Scope} {env:Env} {x:Str} {k:NameKind} (h:(relabel scope env).names.lookup x=some k):(x,k)∈scope.names∨(k= .cell∧(x,NameKind.free)∈scope.names):=by
 have m:=PySem.mem_of_lookup h
 obtain ⟨⟨y,q⟩,b5,e⟩:=List.mem_map.mp m
 dsimp only at e
 split at e
 · rename_i hc
   injection e with ar aG
   subst ar
   have hf:q= .free:=by
    rw [Bool.and_eq_true,Bool.and_eq_true] at hc
    exact eq_of_beq hc.1.1
   subst hf
   exact .inr ⟨aG.symm,b5⟩
 · injection e with ar aG
   subst ar; subst aG
   exact .inl b5
noncomputable def xj (ik:TI) (g:hS) (fM:TT) (te:TE) (nl:Nat) (caps:List Nat):TE:=fun σ H Q=>
 ik σ H fun bJ H1=>∀acc,H1 acc=none→∃W:Nat→Nat→St→ao→Prop,(∃m,W 0 m (lx nl caps σ) (upd H1 acc (.lst [])))∧
  ∀i m σ' H',W i m σ' H'→(bJ.stop i H'∧Q (.ref acc) H')∨
   (bJ.go i H'∧∀x aT,bJ.jn i H' x aT→g x σ' aT fun σ2 di=>fM σ2 di fun b gB=>
      if b=true then te σ2 gB fun y ix=>∃ys,ix acc=some (.lst ys)∧ys.length < sizeLine∧∃eK,eK < m∧W (i + 1) eK σ2 (upd ix acc (.lst (ys ++ [y])))
      else ∃eK,eK < m∧W (i + 1) eK σ2 gB)
section
variable {X:aL} {elt target iter:Expr} {ifs:List Expr} {scope:Scope} {pos:Pos} {N:List Str} {nl:Nat} {caps:List Nat} {ik:TI} {g:hS} {fM:TT} {te:TE}
noncomputable def nu (X:aL) (ifs:List Expr) (t:TT):Prop:=
 ∀(pins:List (Addr×Obj)) (s:Shared) (σ :St) (H:ao) (Q:Bool→ao→Prop),Inv X pins σ H s→t σ H Q→
  wpAny (model X.prog X.w) X.A (forIn ifs true fun c r=>if r=true then do let ok ←isTrue c X.env (eval c X.env); pure (ForInStep.yield ok) else pure (ForInStep.yield r)) (uh X pins σ Q) X.xe s
noncomputable def UN:TT:=fun _ H Q=>Q true H
theorem Sp:nu X [] UN:=fun _ _ _ H _ ae h=>wpAny_tests_nil ⟨H,ae,h⟩
theorem Sq {c:Expr} {t:TT} (h:eO X c t):nu X [c] t:=fun pins s σ H Q ae hw=>wpAny_tests_one (h pins s σ H Q ae hw)
theorem Oy {pins:List (Addr×Obj)} {σ :St} {H:ao} {s s4:Shared} {cl:List (Str×Addr)} {a6:List Addr} (S:l7 X.env.scope X.N scope N nl caps) (ae:Inv X pins σ H s)
  (j9:∀x,cl.lookup x=if (x,NameKind.free)∈scope.names then X.env.cells.lookup x else none)
  (hf:∀b∈a6,i7 X pins H b) (hY:∀b∈a6,b < s.heap.objs.size) (M8:s4.os=s.os) (hg:s4.gens=s.gens) (aC:∃m,s4.heap.Ns s.heap.objs.size m) (hk:∀b o,s.heap.get? b=some o→s4.heap.get? b=some o) :
  Inv (eX X scope N cl s.heap.objs.size s H a6) [] (lx nl caps σ) H s4:=by
 have rZ:∀x c,cl.lookup x=some c→X.env.cells.lookup x=some c:=fun x c e=>by
  rw [j9] at e
  split at e
  · exact e
  · cases e
 refine ⟨⟨ae.ok.mod,?_,ae.ok.glob,ae.ok.blt,Nat.le_refl _,fun x y c h1 h2=>ae.ok.inj x y c (rZ x c h1) (rZ y c h2),fun x hx=>?_,fun x c z=>?_,ae.ok.hd,ae.ok.frames,.inl rfl,fun b hb=>⟨Nat.ne_of_lt (hY b hb),fun x c e=>(hf b hb).2.2.2.2.1 x c (rZ x c e)⟩,ae.bs,Nat.le_trans ae.ok.mu ae.xg,fun b o e hb=>?_,fun b hb hs=>?_,ae.stack,ae.Bg⟩,
  M8,?_,fv.kept hk,?_,fun x c e=>?_,ae.bB.fresh (Nat.le_refl _),fun x c e=>ae.jc x c (rZ x c e),fun p hp=>absurd (show p∈([]:List (Addr×Obj)) from hp) (by simp),ae.bB.kept hk,?_⟩
 · show (relabel scope X.env).kind= .function
   exact S.kind
 · have hx:(relabel scope X.env).names.lookup x=some .cell∨(relabel scope X.env).names.lookup x=some .free:=hx
   have hm:(x,NameKind.free)∈scope.names:=by
    rcases hx with h | h
    · rcases Af h with m | ⟨_,m⟩
      · exact absurd rfl (S.F_ _ m)
      · exact m
    · rcases Af h with m | ⟨e,_⟩
      · exact m
      · cases e
   have aO:=S.free _ hm rfl
   have hc:∃c,X.env.cells.lookup x=some c:=by
    apply ae.ok.has x
    show X.env.scope.names.lookup x=some .cell∨X.env.scope.names.lookup x=some .free
    cases e:X.env.scope.names.lookup x with
    | none=>rw [e] at aO; cases aO
    | some k=>
      rw [e] at aO
      cases k <;> first
       | exact .inl rfl
       | exact .inr rfl
       | cases aO
   obtain ⟨c,e⟩:=hc
   exact ⟨c,by show cl.lookup x=some c; rw [j9,if_pos hm]; exact e⟩
 · cases z
 · rcases (hf b hb).2.2.2.1 with z | z
   · exact ae.ok.n4 b o e z
   · exact absurd (Nat.lt_of_lt_of_le (Heap.lt_size (ae.ok.bs b o e).1) z) (Nat.lt_irrefl _)
 · rcases List.mem_cons.mp (ae.xc b hs) with z | z
   · exact (hf b hb).2.1 z
   · exact (hf b hb).2.2.1 z
 · rw [hg]; exact ae.bare
 · obtain ⟨m,aC⟩:=aC
   refine ⟨m,aC,fun i x v h1 h2 h3=>?_⟩
   have hN:N[i]? =some x:=h1
   unfold lx at h2
   by_cases hi:i < nl
   · rw [List.getElem?_append_left (by simpa using hi),List.getElem?_replicate,if_pos hi] at h2
     cases h2
   · rw [List.getElem?_append_right (by simpa using hi),List.length_replicate,List.getElem?_map] at h2
     cases e:caps[i - nl]? with
     | none=>rw [e] at h2; cases h2
     | some j=>
       rw [e] at h2
       have h2: σ.getD j none=some v:=Option.some.inj h2
       obtain ⟨y,ar,aG,yy,gi⟩:=S.Km _ _ e
       have cM:(y,NameKind.free)∈scope.names:=PySem.mem_of_lookup yy
       have eF:fE X.env.scope y:=by
        cases q:X.env.scope.names.lookup y with
        | none=>rw [q] at gi; cases gi
        | some k=>
          rw [q] at gi
          cases k <;> first
           | exact .inr (.inl q)
           | exact .inr (.inr q)
           | cases gi
       have hq:nl + (i - nl)=i:=by omega
       rw [hq,hN] at aG
       cases aG
       have hs: σ[j]? =some (some v):=by
        rw [List.getD_eq_getElem?_getD] at h2
        cases q: σ[j]? with
        | none=>rw [q] at h2; cases h2
        | some o=>rw [q] at h2; exact congrArg some h2
       obtain ⟨m0,_,hl⟩:=ae.loc
       obtain ⟨u,r,l⟩:=hl j x v ar hs eF
       refine ⟨u,r,.inr ⟨?_,?_⟩⟩
       · show (relabel scope X.env).names.lookup x=some .cell∨(relabel scope X.env).names.lookup x=some .free
         rcases h3 with h3 | h3 | h3
         · have h3:(relabel scope X.env).names.lookup x=some .local:=h3
           rcases Af h3 with z | ⟨z,_⟩
           · have bz:scope.names.lookup x=some .local:=S.locs _ z rfl
             rw [bz] at yy; cases yy
           · cases z
         · exact .inl h3
         · exact .inr h3
       · have aO:X.env.scope.names.lookup x≠some .local:=fun z=>by rw [z] at gi; cases gi
         rcases l with ⟨z,_⟩ | ⟨_,c,bO,bz⟩
         · exact absurd z aO
         · refine ⟨c,?_,bz.keeps hk⟩
           show cl.lookup x=some c
           rw [j9,if_pos cM]; exact bO
 · obtain ⟨v,z⟩:=ae.cell x c (rZ x c e)
   exact ⟨v,z.keeps hk⟩
 · show (lx nl caps σ).length=N.length
   unfold lx
   rw [List.length_append,List.length_replicate,List.length_map,S.len]
theorem OA {pins:List (Addr×Obj)} {σ σ' :St} {H H':ao} {s s':Shared} {cl:List (Str×Addr)} {a6:List Addr} {h':Heap} (ae:Inv X pins σ H s) (hf:∀b∈a6,i7 X pins H b)
  (bJ:Inv (eX X scope N cl s.heap.objs.size s H a6) [] σ' H' s') (hs:Heap.SameBut s.heap.objs.size s'.heap h'):Inv X pins σ H' { s' with heap:=h' }:=by
 have ne:∀b o,s.heap.get? b=some o→b≠s.heap.objs.size:=fun b o e=>Nat.ne_of_lt (Heap.lt_size e)
 have u:fv (d4 X.stack) a6 H H' s.heap s'.heap:=bJ.base
 have fr:H' s.heap.objs.size=none:=bJ.free
 refine ae.CS (ch:=a6) (s':={ s' with heap:=h' }) bJ.os ⟨fun b o e n hb hx=>(hs.2 b (ne b o e)).trans (u.keep b o e n hb hx),fun b o e n hb hx=>?_,u.free,fun b o e hx=>?_,u.i6,u.hW,u.i5⟩ (fun b o e=>?_) bJ.bare fun b hb=>?_
 · obtain ⟨cB,q⟩:=u.slot b o e n hb hx
   exact ⟨cB,(hs.2 b (ne b o e)).trans q⟩
 · obtain ⟨b_,q⟩:=u.there b o e hx
   exact ⟨b_,(hs.2 b (ne b o e)).trans q⟩
 · refine (bJ.bB b o e).k4 (fun c v hc q=>(hs.2 c ?_).trans q) (fun _ q=>q) fun _ _ q=>q
   rintro rfl
   rcases hc with z | z
   · rw [←z,fr] at e; cases e
   · rw [fr] at z; cases z
 · obtain ⟨_,f1,_,eY,f4,gI⟩:=hf b hb
   exact ⟨eY,f1,f4,gI⟩
theorem C3 {pins:List (Addr×Obj)} {σ :St} {s2:Shared} {aT:ao} {it:Addr} {a6:List Addr} {gw:Nat→Heap→Prop} {bJ:It} {E:Value→Shared→Prop} {Q:ao→Prop} {W:Nat→Nat→St→ao→Prop} {m0:Nat}
  (S:l7 X.env.scope X.N scope N nl caps) (hc:X.calm=true) (cv:Inv X pins σ aT s2) (T:Turn X.prog X.w X.K target bJ a6 it gw) (km:gw 0 s2.heap) (f2:∀b∈a6,i7 X pins aT b)
  (hg:∀cl C s H a6,jt (eX X scope N cl C s H a6) target g) (ht:∀cl C s H a6,nu (eX X scope N cl C s H a6) ifs fM) (he:∀cl C s H a6,aZ (eX X scope N cl C s H a6) elt te)
  (k7:W 0 m0 (lx nl caps σ) (upd aT s2.heap.objs.size (.lst [])))
  (turn:∀i m σ' H',W i m σ' H'→(bJ.stop i H'∧Q H')∨
    (bJ.go i H'∧∀x di,bJ.jn i H' x di→g x σ' di fun σ2 gB=>fM σ2 gB fun b ix=>
       if b=true then te σ2 ix fun y p0=>∃ys,p0 s2.heap.objs.size=some (.lst ys)∧ys.length < sizeLine∧∃eK,eK < m∧W (i + 1) eK σ2 (upd p0 s2.heap.objs.size (.lst (ys ++ [y])))
       else ∃eK,eK < m∧W (i + 1) eK σ2 ix))
  (rM:Value→Addr→Result→Shared→Prop)
  (Mv:∀(C:Addr) s' H',(∃m,s'.heap.Ns C m)→i7 X pins H' C→(∀h',Heap.SameBut C s'.heap h'→Inv X pins σ H' { s' with heap:=h' })→Q H'→rM (.ref s2.heap.objs.size) C (.ok .next) s') :
  wpAny (model X.prog X.w) X.A (newList []) (fun acc oi=>wpAny (model X.prog X.w) X.A (newFunctionEnv scope X.env.globals (iF X.env scope.names []) [] X.env.qual none .none (some X.env)) (fun CW xh=>
   codeAny (model X.prog X.w) X.A (.compStart (.ListComp elt [⟨target,iter,ifs,0⟩] scope pos) 0 (.ref it) acc { CW with scope:=relabel scope X.env }) (rM acc CW.locals) xh) E oi) E s2:=by
 have vI:∀p∈scope.names,p.2= .free→∃c,X.env.cells.lookup p.1=some c:=fun p hp e=>by
  have q:=S.free p hp e
  apply cv.ok.has p.1
  show X.env.scope.names.lookup p.1=some .cell∨X.env.scope.names.lookup p.1=some .free
  cases aG:X.env.scope.names.lookup p.1 with
  | none=>rw [aG] at q; cases q
  | some k=>
    rw [aG] at q
    cases k <;> first
     | exact .inl rfl
     | exact .inr rfl
     | cases q
 have j9:∀x,(iF X.env scope.names []).lookup x=if (x,NameKind.free)∈scope.names then X.env.cells.lookup x else none:=fun x=>CY scope.names [] vI
 have WS:aT s2.heap.objs.size=none:=cv.bB.fresh (Nat.le_refl _)
 refine wpAny_newObj_type (wpAny_newFunctionEnv S.F_ (by intro y b5; simp at b5) (fun kb zf zj=>?_) S.kind)
 dsimp only at zf zj ⊢
 have d0:Inv X pins σ (upd aT s2.heap.objs.size (.lst [])) { s2 with heap:=s2.heap.push { cls:= .type "list",dict:=none,data:= .seq ([]:List Value).toArray } }:=cv.zI (its:=[]) (ys:=[]) (t':=s2.toks) .nil (Nat.zero_le _)
 generalize zi:({ s2 with heap:=s2.heap.push { cls:= .type "list",dict:=none,data:= .seq ([]:List Value).toArray } }:Shared)=s3 at d0
 have za:s2.heap.push { cls:= .type "list",dict:=none,data:= .seq ([]:List Value).toArray }=s3.heap:=by rw [←zi]
 rw [za] at zf zj ⊢
 have Gk:∀b o,s2.heap.get? b=some o→s3.heap.get? b=some o:=fun b o e=>by rw [←za]; exact Heap.get?_push_of_some _ e
 have Uh:s3.heap.objs.size=s2.heap.objs.size + 1:=by rw [←za,Heap.size_push]
 have zC:∀b o,s3.heap.get? b=some o→kb.get? b=some o:=fun b o e=>zj.extBut b o (Nat.ne_of_lt (Heap.lt_size e)) (Heap.get?_push_of_some _ e)
 have ET:∀b∈a6,b < s2.heap.objs.size:=fun b hb=>by
  obtain ⟨o,e,_⟩:=T.obj 0 _ km b hb
  exact Heap.lt_size e
 have eY:∀b∈a6,i7 X pins (upd aT s2.heap.objs.size (.lst [])) b:=fun b hb=>by
  obtain ⟨gE,a1⟩:=f2 b hb
  exact ⟨by rw [de (Nat.ne_of_lt (ET b hb))]; exact gE,a1⟩
 have EU:∀b∈a6,b < s3.heap.objs.size:=fun b hb=>by rw [Uh]; exact Nat.lt_succ_of_lt (ET b hb)
 have loop:∀s4:Shared,s4={ s3 with heap:=kb,toks:=s2.toks + ([]:List (Str×Value)).length }→
   codeAny (model X.prog X.w) X.A (.compLoop (.ListComp elt [⟨target,iter,ifs,0⟩] scope pos) 0 (.ref it) (.ref s2.heap.objs.size) (compEnvC scope (iF X.env scope.names []) s3.heap.objs.size X.env))
    (rM (.ref s2.heap.objs.size) s3.heap.objs.size) s4:=by
  intro s4 su
  have jV:Inv (eX X scope N (iF X.env scope.names []) s3.heap.objs.size s3 (upd aT s2.heap.objs.size (.lst [])) a6) [] (lx nl caps σ) (upd aT s2.heap.objs.size (.lst [])) s4:=
   Oy S d0 j9 eY EU (by rw [su]) (by rw [su]) ⟨_,by rw [su]; exact zf⟩ (by rw [su]; exact zC)
  have Ux:gw 0 s4.heap:=T.keep 0 _ _ km fun b hb o e=>by rw [su]; exact zC b o (Gk b o e)
  generalize j7:eX X scope N (iF X.env scope.names []) s3.heap.objs.size s3 (upd aT s2.heap.objs.size (.lst [])) a6=B at jV
  have stat:∀{H':ao},(∀b∈a6,H' b=none)→∀b∈a6,i7 B [] H' b:=fun {H'} aC b hb=>by
   subst j7
   obtain ⟨gE,a1,a2,fY,mq,p9⟩:=eY b hb
   refine ⟨aC b hb,Nat.ne_of_lt (EU b hb),fun z=>?_,.inl hb,fun x c e=>?_,fun p hp=>absurd (show p∈([]:List (Addr×Obj)) from hp) (by simp)⟩
   · rcases List.mem_cons.mp (d0.xc b z) with q | q
     · exact a1 q
     · exact a2 q
   · have e:(iF X.env scope.names []).lookup x=some c:=e
     rw [j9] at e
     split at e
     · exact mq x c e
     · cases e
  have MN:jt B target g:=by subst j7; exact hg _ _ _ _ _
  have Nj:nu B ifs fM:=by subst j7; exact ht _ _ _ _ _
  have MI:aZ B elt te:=by subst j7; exact he _ _ _ _ _
  have r1:B.prog=X.prog:=by subst j7; rfl
  have gH:B.w=X.w:=by subst j7; rfl
  have Dq:B.K=X.K:=by subst j7; rfl
  have K5:B.A=X.A:=by subst j7; rfl
  have yA:B.env=compEnvC scope (iF X.env scope.names []) s3.heap.objs.size X.env:=by subst j7; rfl
  have Ds:B.calm=true:=by subst j7; exact hc
  have L8:B.xe=fun _ _=>False:=by subst j7; rfl
  rw [←r1,←gH,←K5,←yA]
  refine Kr (fun n s'=>∃i σ' H',Inv B [] σ' H' s'∧gw i s'.heap∧(∀b∈a6,H' b=none)∧W i n σ' H') ?_ m0 ⟨0,_,_,jV,Ux,fun b hb=>(eY b hb).1,k7⟩
  rintro n s5 ⟨i,σ5,ix,l_,rg,vv,Vx⟩
  have away:∀{α:Type} {t:Sem α} {B9:α→Shared→Prop} {Jl:Value→Shared→Prop} {mS:Shared},wpAny (model B.prog B.w) B.A t B9 B.xe mS→wpAny (model B.prog B.w) B.A t B9 Jl mS:=fun h=>wpAny_mono h (fun _ _ q=>q) fun e s' z=>by rw [L8] at z; exact z.elim
  rcases turn i n σ5 ix Vx with ⟨stop,q⟩ | ⟨go,step⟩
  · have d:=T.done B r1 gH Dq Ds i [] s5 σ5 ix (notedBy (model B.prog B.w) B.A B.env fun e s'=>rM (.ref s2.heap.objs.size) s3.heap.objs.size (.error e) s') l_ (stat vv) rg stop
    rw [←r1,←gH] at d
    refine bL d fun r cj ⟨hr,oH⟩=>?_
    subst hr
    refine Mv _ cj ix ?_ (d0.nG (Nat.le_refl _) ?_) (fun h' nJ=>?_) q
    · obtain ⟨m,aC,_⟩:=oH.loc
      rw [yA] at aC
      exact ⟨m,aC⟩
    · have z:=oH.free
      rw [yA] at z
      exact z
    · subst j7
      exact OA d0 eY oH nJ
  · have d:=T.item B r1 gH Dq Ds i [] s5 σ5 ix (notedBy (model B.prog B.w) B.A B.env fun e s'=>rM (.ref s2.heap.objs.size) s3.heap.objs.size (.error e) s') l_ (stat vv) rg go
    rw [←r1,←gH] at d
    refine bL d fun r cj ⟨u,hr,h6⟩=>?_
    subst hr
    refine bL h6 fun _ dz ⟨x,fU,iy,i0,WB,Bf,Mm⟩=>?_
    have Jr:=iy.pinned (stat Mm) (T.obj _ _ Bf)
    refine away (bL (MN _ dz σ5 fU x u _ Jr i0 (step x fU WB)) fun _ cZ ⟨σ8,xS,Js,q8⟩=>?_)
    refine away (bL (Nj _ cZ σ8 xS _ Js q8) fun b cy ⟨Jm,B3,G0⟩=>?_)
    have again:∀{σa:St} {hD:ao} {mS:Shared},Inv B ([] ++ tl a6 dz.heap) σa hD mS→(∃eK,eK < n∧W (i + 1) eK σa hD)→∃m,m < n∧∃i σ' H',Inv B [] σ' H' mS∧gw i mS.heap∧(∀b∈a6,H' b=none)∧W i m σ' H':=fun {σa hD mS} xT ⟨eK,hm,VI⟩=>by
     refine ⟨eK,hm,i + 1,σa,hD,xT.xr,T.keep _ _ _ Bf fun b hb o e=>(xT.pin (b,o) (List.mem_append_right _ (List.mem_append_right _ (wq hb e)))).1,fun b hb=>?_,VI⟩
     obtain ⟨o,e,d⟩:=T.obj _ _ Bf b hb
     exact (xT.pin (b,o) (List.mem_append_right _ (List.mem_append_right _ (wq hb e)))).2.1
    cases b with
    | false=>exact again B3 G0
    | true=>
      show wpAny _ _ (eval elt B.env) _ _ cy
      refine away (bL (MI _ cy σ8 Jm _ B3 G0) fun BW ie ⟨y,B1,Jo,b0,ys,ha,br,Sz⟩=>?_)
      refine away (bL (zV _ ie σ8 B1 (.ref s2.heap.objs.size) [y] (.ref s2.heap.objs.size) [BW] (fun _ B2=>B2=upd B1 s2.heap.objs.size (.lst (ys ++ [y]))) Jo rfl (.cons b0 .nil) ⟨_,ys,y,rfl,rfl,ha,br,rfl⟩) fun _ hP ⟨z,B2,Jp,_,K3⟩=>?_)
      subst K3
      exact again Jp Sz
 exact codeAny_compStart_list (loop _ (by rw [←zi])) (T.self X.A 0 _ _ _ (T.keep 0 _ _ km fun b hb o e=>zC b o (Gk b o e)) (loop _ (by rw [←zi])))
theorem ER {pins:List (Addr×Obj)} {σ :St} {s:Shared} {H:ao} (S:l7 X.env.scope X.N scope N nl caps) (ae:Inv X pins σ H s):∀p∈scope.names,p.2= .free→∃c,X.env.cells.lookup p.1=some c:=fun p hp e=>by
 have q:=S.free p hp e
 apply ae.ok.has p.1
 show X.env.scope.names.lookup p.1=some .cell∨X.env.scope.names.lookup p.1=some .free
 cases aG:X.env.scope.names.lookup p.1 with
 | none=>rw [aG] at q; cases q
 | some k=>
   rw [aG] at q
   cases k <;> first
    | exact .inl rfl
    | exact .inr rfl
    | cases q
theorem RI (S:l7 X.env.scope X.N scope N nl caps) (hc:X.calm=true) (hi:fW X target iter ik)
  (hg:∀cl C s H a6,jt (eX X scope N cl C s H a6) target g) (ht:∀cl C s H a6,nu (eX X scope N cl C s H a6) ifs fM) (he:∀cl C s H a6,aZ (eX X scope N cl C s H a6) elt te)
  (hs:∀x,foldedSetIterable iter X.env x=pure x:=by intro _; rfl):aZ X (.ListComp elt [⟨target,iter,ifs,0⟩] scope pos) (xj ik g fM te nl caps):=by
 intro pins s σ H Q ae h
 rw [eval_ListComp]
 refine wpAny_comprehension_free (use:=none) rfl hs (CZ (ER S ae)) S.kind S.locs ?_
 refine bL (hi pins s σ H _ ae h) fun v s1 h1=>bL h1 fun vV s2 h2=>?_
 obtain ⟨it,a6,gw,bJ,aT,e,cv,T,km,f2,k⟩:=h2
 subst e
 obtain ⟨W,⟨m0,k7⟩,turn⟩:=k s2.heap.objs.size (cv.bB.fresh (Nat.le_refl _))
 refine C3 (Q:=fun H'=>Q (.ref s2.heap.objs.size) H') S hc cv T km f2 hg ht he k7 turn (fun acc C=>compPost (model X.prog X.w) X.A X.xe none (fS X pins σ Q) acc C) ?_
 intro C s' H' aC _ sg q
 obtain ⟨m,aC⟩:=aC
 exact ⟨m,aC,fun h' nJ=>⟨.ref s2.heap.objs.size,H',sg h' nJ,rfl,q⟩⟩
theorem Se {i:Nat} {y:Str} {py HI:Pos} (S:l7 X.env.scope X.N scope N nl caps) (hc:X.calm=true) (hN:X.N.Nodup) (b5:X.N[i]? =some y) (hl:X.env.kindOf y=some .local) (hi:fW X target iter ik)
  (hg:∀cl C s H a6,jt (eX X scope N cl C s H a6) target g) (ht:∀cl C s H a6,nu (eX X scope N cl C s H a6) ifs fM) (he:∀cl C s H a6,aZ (eX X scope N cl C s H a6) elt te)
  (kI:swapsWith (.ListComp elt [⟨target,iter,ifs,0⟩] scope pos) (some (.Name y py)) HI.line X.env=pure true:=by rfl)
  (hs:∀x,foldedSetIterable iter X.env x=pure x:=by intro _; rfl):dj X (.Assign [.Name y py] (.ListComp elt [⟨target,iter,ifs,0⟩] scope pos) HI) (oj (xj ik g fM te nl caps) (jB i)):=by
 intro pins s σ H cJ ae h
 rw [exec_Assign_Name_used _ _ _ _ kI]
 refine wpAny_bind (wpAny_standAt (wpAny_bind ?_))
 show wpAny _ X.A (do let _ ←comprehension (.ListComp elt [⟨target,iter,ifs,0⟩] scope pos) scope X.env _ (newList []) false (eval iter X.env) (some (assign (.Name y py) X.env))) _ _ s
 refine wpAny_bind (wpAny_mono (wpAny_comprehension_free (use:=some (assign (.Name y py) X.env)) (Q:=fun _ s'=>oM X pins cJ .next s') rfl hs (CZ (ER S ae)) S.kind S.locs ?_) (fun _ s' aO=>wpAny_pure (wpAny_pure aO)) fun _ _ e=>e)
 refine bL (hi pins s σ H _ ae h) fun v s1 h1=>bL h1 fun vV s2 h2=>?_
 obtain ⟨it,a6,gw,bJ,aT,e,cv,T,km,f2,k⟩:=h2
 subst e
 obtain ⟨W,⟨m0,k7⟩,turn⟩:=k s2.heap.objs.size (cv.bB.fresh (Nat.le_refl _))
 refine C3 (Q:=fun H'=>cJ.aV (σ.set i (some (.ref s2.heap.objs.size))) H') S hc cv T km f2 hg ht he k7 turn (fun acc C=>compPost (model X.prog X.w) X.A X.xe (some (assign (.Name y py) X.env)) (fun _ s'=>oM X pins cJ .next s') acc C) ?_
 intro C s' H' aC iK sg q
 obtain ⟨m,aC⟩:=aC
 show wpAny _ X.A (assign (.Name y py) X.env (.ref s2.heap.objs.size)) _ _ s'
 have oG:Inv X pins σ H' s':=sg s'.heap (Heap.SameBut.refl _ _)
 refine wpAny_assign_Name (HM (v:= .ref s2.heap.objs.size) oG hN b5 (.inl hl) (show RelV (V.ref _) _ from rfl) (fun jP Jn Nd=>?_) (.inr hl))
 obtain ⟨a,Nc,ha⟩:=Nd
 obtain ⟨mw,bD,c_,fx,hj,ym⟩:=iK
 have Qp:C≠a:=by
  rcases ha with z | z
  · rw [z]; exact bD
  · exact fun w=>hj y a z w.symm
 refine ⟨m,aC.sameBut Nc Qp,fun h' nJ=>?_⟩
 exact ⟨_,H',Jn.turned (t':=jP.toks) (it:=C) (fun b o hb e=>(nJ.2 b hb).trans e) mw bD fx hj ym,q⟩
end
end bb
set_option Elab.async false
set_option linter.all false
namespace aD
open PySem bb
inductive D where
 | non | aw (b:Bool) | int (i:Int) | str (x:Str)
 | tup (xs:List D) | lst (xs:List D) | b8 (xs:List D)
 | dg (a_:List Key) (xs:List D) | a0 (a_:List (List Key)) (xs:List D)
 | ins (c:Str) (ns:List Str) (xs:List D)
 | gj (c:Str)
 | eI (xs:List D)
noncomputable def Sub (G H:ao):Prop:=∀b o,G b=some o→H b=some o
theorem Sub.refl (G:ao):Sub G G:=fun _ _ e=>e
theorem Sub.trans {G H ae:ao} (a:Sub G H) (b:Sub H ae):Sub G ae:=fun c o e=>b c o (a c o e)
theorem Sub.gone {G H:ao} (a:Sub G H) {b:Addr} (h:H b=none):G b=none:=by
 cases e:G b with
 | none=>rfl
 | some o=>rw [a b o e] at h; cases h
theorem Sub.upd {G:ao} {a:Addr} {o:dJ} (h:G a=none):Sub G (upd G a o):=fun b u e=>by
 rw [de (iU e h)]; exact e
theorem Sub.xu {G H:ao} {a:Addr} {o:dJ} (s:Sub G H) (h:G a=none):Sub G (bb.upd H a o):=fun b u e=>by
 rw [de (iU e h)]; exact s b u e
theorem Sub.both {G H:ao} {a:Addr} {o:dJ} (s:Sub G H):Sub (bb.upd G a o) (bb.upd H a o):=fun b u e=>by
 by_cases hb:b=a
 · subst hb; rw [en] at e ⊢; exact e
 · rw [de hb] at e ⊢; exact s b u e
theorem Sub.at {G H:ao} {a:Addr} {o:dJ} (s:Sub G H) (h:H a=some o):Sub (bb.upd G a o) H:=fun b u e=>by
 by_cases hb:b=a
 · subst hb; rw [en] at e; rw [h]; exact e
 · rw [de hb] at e; exact s b u e
structure cz (G H G' H':ao):Prop where
 g:Sub G G'
 h:Sub H H'
 n:∀b,H b≠none→G' b=G b
theorem Sub.some {G H:ao} (s:Sub G H) {b:Addr} (h:G b≠none):H b≠none:=fun z=>h (s.gone z)
theorem cz.refl (G H:ao):cz G H G H:=⟨Sub.refl _,Sub.refl _,fun _ _=>rfl⟩
theorem cz.trans {G H aQ H1 c4 aT:ao} (a:cz G H aQ H1) (b:cz aQ H1 c4 aT):cz G H c4 aT:=⟨a.g.trans b.g,a.h.trans b.h,fun c hc=>(b.n c (a.h.some hc)).trans (a.n c hc)⟩
theorem cz.lay {G H:ao} {p:Addr} {o:dJ} (s:Sub G H) (hp:H p=none):cz G H (bb.upd G p o) (bb.upd H p o):=⟨Sub.upd (s.gone hp),Sub.upd hp,fun b hb=>by
 rw [de]
 intro e; subst e; exact hb hp⟩
theorem cz.lay0 {G H:ao} {p:Addr} {o:dJ} (hp:H p=none):cz G H G (bb.upd H p o):=⟨Sub.refl _,Sub.upd hp,fun _ _=>rfl⟩
theorem cz.put {G H G' H':ao} {p:Addr} {o:dJ} (u:cz G H G' H') (hp:H p=none) (hg:G' p=none):cz G H (bb.upd G' p o) H':=⟨u.g.trans (Sub.upd hg),u.h,fun b hb=>by
 rw [de]
 · exact u.n b hb
 · intro e; subst e; exact hb hp⟩
theorem gg.mono {G H:ao} (s:Sub G H) {a:Addr} {u:dJ} (r:gg G a u):gg H a u:=by
 rcases r with r | ⟨o,r⟩
 · exact .inl (s _ _ r)
 · exact .inr ⟨o,s _ _ r⟩
theorem b4.mono {K:PySem.W.Frag} {G H:ao} (s:Sub G H) {a:Addr} {xs:List V} (r:b4 K G a xs):b4 K H a xs:=by
 rcases r with r | r
 · exact .inl (gg.mono s r)
 · exact .inr r
theorem cK.mono {K:PySem.W.Frag} {G H:ao} (s:Sub G H) {a:Addr} {xs:List V} (r:cK K G a xs):cK K H a xs:=by
 rcases r with r | r
 · exact .inl (gg.mono s r)
 · exact .inr r
noncomputable def e4 (K:PySem.W.Frag) (c:Str) (C:Addr):Prop:=PySem.W.nsIn K mainGlobals c=some (some (.ref C))
mutual
noncomputable def At (K:PySem.W.Frag) (G:ao):D→V→Prop
 | .non,v=>v= .non
 | .aw b,v=>v= .aw b
 | .int i,v=>v= .int i
 | .str x,v=>v= .str x
 | .tup ds,v=>∃a xs,v= .ref a∧G a=some (.tup xs)∧aN K G ds xs
 | .eI ds,v=>∃a xs,v= .ref a∧cK K G a xs∧aN K G ds xs
 | .lst ds,v=>∃a xs,v= .ref a∧G a=some (.lst xs)∧aN K G ds xs
 | .b8 ds,v=>∃a xs,v= .ref a∧b4 K G a xs∧aN K G ds xs
 | .dg a_ ds,v=>∃a xs,v= .ref a∧G a=some (.dg xs)∧xs.map (·.1)=a_∧aN K G ds (xs.map (·.2))
 | .a0 a_ ds,v=>∃a xs,v= .ref a∧G a=some (.a0 xs)∧xs.map (·.1)=a_∧aN K G ds (xs.map (·.2))
 | .ins c ns ds,v=>∃a a4 xs,v= .ref a∧(∃C,e4 K c C∧G a=some (.ins C a4 xs))∧xs.map (·.1)=ns∧aN K G ds (xs.map (·.2))
 | .gj c,v=>∃(a:Addr) (xs:List V),v= .ref a∧(∃C,e4 K c C∧G a=some (o5 a (.ref C)))∧xs=[]
noncomputable def aN (K:PySem.W.Frag) (G:ao):List D→List V→Prop
 | [],vs=>vs=[]
 | d::ds,vs=>∃v r,vs=v::r∧At K G d v∧aN K G ds r
end
mutual
theorem At.mono {K:PySem.W.Frag} {G H:ao} (s:Sub G H):∀{d:D} {v:V},At K G d v→At K H d v
 | .non,_,h=>by simpa only [At] using h
 | .aw _,_,h=>by simpa only [At] using h
 | .int _,_,h=>by simpa only [At] using h
 | .str _,_,h=>by simpa only [At] using h
 | .tup _,_,h=>by
   simp only [At] at h ⊢
   obtain ⟨a,xs,e,q,r⟩:=h
   exact ⟨a,xs,e,s _ _ q,aN.mono s r⟩
 | .eI _,_,h=>by
   simp only [At] at h ⊢
   obtain ⟨a,xs,e,q,r⟩:=h
   exact ⟨a,xs,e,cK.mono s q,aN.mono s r⟩
 | .lst _,_,h=>by
   simp only [At] at h ⊢
   obtain ⟨a,xs,e,q,r⟩:=h
   exact ⟨a,xs,e,s _ _ q,aN.mono s r⟩
 | .b8 _,_,h=>by
   simp only [At] at h ⊢
   obtain ⟨a,xs,e,q,r⟩:=h
   exact ⟨a,xs,e,b4.mono s q,aN.mono s r⟩
 | .dg _ _,_,h=>by
   simp only [At] at h ⊢
   obtain ⟨a,xs,e,q,k,r⟩:=h
   exact ⟨a,xs,e,s _ _ q,k,aN.mono s r⟩
 | .a0 _ _,_,h=>by
   simp only [At] at h ⊢
   obtain ⟨a,xs,e,q,k,r⟩:=h
   exact ⟨a,xs,e,s _ _ q,k,aN.mono s r⟩
 | .ins _ _ _,_,h=>by
   simp only [At] at h ⊢
   obtain ⟨a,a4,xs,e,⟨C,bD,q⟩,k,r⟩:=h
   exact ⟨a,a4,xs,e,⟨C,bD,s _ _ q⟩,k,aN.mono s r⟩
 | .gj _,_,h=>by
   simp only [At] at h ⊢
   obtain ⟨a,xs,e,⟨C,bD,q⟩,r⟩:=h
   exact ⟨a,xs,e,⟨C,bD,s _ _ q⟩,r⟩
theorem aN.mono {K:PySem.W.Frag} {G H:ao} (s:Sub G H):∀{ds:List D} {vs:List V},aN K G ds vs→aN K H ds vs
 | [],_,h=>by simpa only [aN] using h
 | _::_,_,h=>by
   simp only [aN] at h ⊢
   obtain ⟨v,r,e,q,t⟩:=h
   exact ⟨v,r,e,At.mono s q,aN.mono s t⟩
end
section
variable {K:PySem.W.Frag} {G:ao}
theorem aN.nil:aN K G [] []:=by simp only [aN]
theorem aN.cons {d:D} {ds:List D} {v:V} {vs:List V} (h:At K G d v) (t:aN K G ds vs):aN K G (d::ds) (v::vs):=by
 simp only [aN]; exact ⟨v,vs,rfl,h,t⟩
theorem aN.length:∀{ds:List D} {vs:List V},aN K G ds vs→ds.length=vs.length
 | [],_,h=>by simp only [aN] at h; subst h; rfl
 | _::_,_,h=>by
   simp only [aN] at h
   obtain ⟨v,r,rfl,_,t⟩:=h
   simp [aN.length t]
theorem aN.get:∀{ds:List D} {vs:List V} {i:Nat} {d:D},aN K G ds vs→ds[i]? =some d→∃v,vs[i]? =some v∧At K G d v
 | [],_,_,_,_,e=>by simp at e
 | _::_,_,0,_,h,e=>by
   simp only [aN] at h
   obtain ⟨v,r,rfl,q,t⟩:=h
   simp at e; subst e
   exact ⟨v,by simp,q⟩
 | _::_,_,i + 1,d,h,e=>by
   simp only [aN] at h
   obtain ⟨v,r,rfl,q,t⟩:=h
   obtain ⟨u,h1,h2⟩:=aN.get (i:=i) (d:=d) t (by simpa using e)
   exact ⟨u,by simpa using h1,h2⟩
theorem aN.vz {ds:List D} {vs:List V} {i:Nat} {v:V} (h:aN K G ds vs) (e:vs[i]? =some v):∃d,ds[i]? =some d∧At K G d v:=by
 have hi:i < ds.length:=by rw [h.length]; exact (List.getElem?_eq_some_iff.mp e).1
 obtain ⟨u,h1,h2⟩:=h.get (List.getElem?_eq_getElem hi)
 rw [e] at h1; cases h1
 exact ⟨_,List.getElem?_eq_getElem hi,h2⟩
theorem aN.append:∀{ds aq:List D} {vs ws:List V},aN K G ds vs→aN K G aq ws→aN K G (ds ++ aq) (vs ++ ws)
 | [],_,_,_,h,t=>by simp only [aN] at h; subst h; exact t
 | _::_,_,_,_,h,t=>by
   simp only [aN] at h
   obtain ⟨v,r,rfl,q,s⟩:=h
   exact .cons q (aN.append s t)
theorem aN.take:∀(n:Nat) {ds:List D} {vs:List V},aN K G ds vs→aN K G (ds.take n) (vs.take n)
 | 0,_,_,_=>by simpa using aN.nil
 | _ + 1,[],_,h=>by simp only [aN] at h; subst h; simpa using aN.nil
 | n + 1,_::_,_,h=>by
   simp only [aN] at h
   obtain ⟨v,r,rfl,q,t⟩:=h
   exact .cons q (aN.take n t)
theorem aN.drop:∀(n:Nat) {ds:List D} {vs:List V},aN K G ds vs→aN K G (ds.drop n) (vs.drop n)
 | 0,_,_,h=>by simpa using h
 | _ + 1,[],_,h=>by simp only [aN] at h; subst h; simpa using aN.nil
 | n + 1,_::_,_,h=>by
   simp only [aN] at h
   obtain ⟨v,r,rfl,q,t⟩:=h
   simpa using aN.drop n t
theorem aN.snoc {ds:List D} {vs:List V} {d:D} {v:V} (h:aN K G ds vs) (q:At K G d v):aN K G (ds ++ [d]) (vs ++ [v]):=h.append (.cons q .nil)
end
inductive R (α:Type) where
 | ok (a:α) | exc (c:Str) | bad
namespace R
noncomputable def bind {α β:Type}:R α→(α→R β)→R β
 | .ok a,k=>k a
 | .exc c,_=> .exc c
 | .bad,_=> .bad
noncomputable def map {α β:Type} (f:α→β) (r:R α):R β:=r.bind fun a=> .ok (f a)
theorem bH {α β:Type} (a:α) (k:α→R β):(R.ok a).bind k=k a:=rfl
end R
inductive T where
 | J (d:D) | lst (ts:List T) | dg (a_:List Key) (ts:List T) | a0 (a_:List (List Key)) (ts:List T) | ins (c:Str) (ns:List Str) (ts:List T)
mutual
noncomputable def toD:T→D
 | .J d=>d
 | .lst ts=> .lst (oq ts)
 | .dg a_ ts=> .dg a_ (oq ts)
 | .a0 a_ ts=> .a0 a_ (oq ts)
 | .ins c ns ts=> .ins c ns (oq ts)
noncomputable def oq:List T→List D
 | []=>[]
 | t::ts=>toD t::oq ts
end
mutual
noncomputable def a6 (H:ao):T→V→List Addr
 | .J _,_=>[]
 | .lst ts,v=>match v with
   | .ref a=>match H a with
     | some (.lst xs)=>a::gV H ts xs
     | _=>[]
   | _=>[]
 | .dg _ ts,v=>match v with
   | .ref a=>match H a with
     | some (.dg xs)=>a::gV H ts (xs.map (·.2))
     | _=>[]
   | _=>[]
 | .a0 _ ts,v=>match v with
   | .ref a=>match H a with
     | some (.a0 xs)=>a::gV H ts (xs.map (·.2))
     | _=>[]
   | _=>[]
 | .ins _ _ ts,v=>match v with
   | .ref a=>match H a with
     | some (.ins _ _ xs)=>a::gV H ts (xs.map (·.2))
     | _=>[]
   | _=>[]
noncomputable def gV (H:ao):List T→List V→List Addr
 | [],_=>[]
 | t::ts,vs=>match vs with
   | v::r=>a6 H t v ++ gV H ts r
   | []=>[]
end
mutual
noncomputable def dP (K:PySem.W.Frag) (G H:ao):T→V→Prop
 | .J d,v=>At K G d v
 | .lst ts,v=>∃a xs,v= .ref a∧H a=some (.lst xs)∧dk K G H ts xs
 | .dg a_ ts,v=>∃a xs,v= .ref a∧H a=some (.dg xs)∧xs.map (·.1)=a_∧dk K G H ts (xs.map (·.2))
 | .a0 a_ ts,v=>∃a xs,v= .ref a∧H a=some (.a0 xs)∧xs.map (·.1)=a_∧dk K G H ts (xs.map (·.2))
 | .ins c ns ts,v=>∃a a4 xs,v= .ref a∧(∃C,e4 K c C∧H a=some (.ins C a4 xs))∧xs.map (·.1)=ns∧dk K G H ts (xs.map (·.2))
noncomputable def dk (K:PySem.W.Frag) (G H:ao):List T→List V→Prop
 | [],vs=>vs=[]
 | t::ts,vs=>∃v r,vs=v::r∧dP K G H t v∧dk K G H ts r
end
section
variable {K:PySem.W.Frag} {G G' H H' P:ao}
theorem r_ {a:Addr} {xs:List V} {ts:List T} (q:H a=some (.lst xs)):a6 H (.lst ts) (.ref a)=a::gV H ts xs:=by simp only [a6,q]
theorem r7 {a:Addr} {xs:List (Key×V)} {a_:List Key} {ts:List T} (q:H a=some (.dg xs)):a6 H (.dg a_ ts) (.ref a)=a::gV H ts (xs.map (·.2)):=by simp only [a6,q]
theorem r8 {a:Addr} {xs:List (List Key×V)} {a_:List (List Key)} {ts:List T} (q:H a=some (.a0 xs)):a6 H (.a0 a_ ts) (.ref a)=a::gV H ts (xs.map (·.2)):=by simp only [a6,q]
theorem r9 {a C:Addr} {a4} {xs:List (Str×V)} {c:Str} {ns:List Str} {ts:List T} (q:H a=some (.ins C a4 xs)):a6 H (.ins c ns ts) (.ref a)=a::gV H ts (xs.map (·.2)):=by simp only [a6,q]
theorem r6 {t:T} {ts:List T} {v:V} {r:List V}:gV H (t::ts) (v::r)=a6 H t v ++ gV H ts r:=by simp only [gV]
mutual
theorem dP.mono (a5:Sub G G'):∀{t:T} {v:V},dP K G H t v→dP K G' H t v
 | .J _,_,h=>by simp only [dP] at h ⊢; exact h.mono a5
 | .lst _,_,h=>by
   simp only [dP] at h ⊢
   obtain ⟨a,xs,e,q,r⟩:=h
   exact ⟨a,xs,e,q,dk.mono a5 r⟩
 | .dg _ _,_,h=>by
   simp only [dP] at h ⊢
   obtain ⟨a,xs,e,q,n,r⟩:=h
   exact ⟨a,xs,e,q,n,dk.mono a5 r⟩
 | .a0 _ _,_,h=>by
   simp only [dP] at h ⊢
   obtain ⟨a,xs,e,q,n,r⟩:=h
   exact ⟨a,xs,e,q,n,dk.mono a5 r⟩
 | .ins _ _ _,_,h=>by
   simp only [dP] at h ⊢
   obtain ⟨a,a4,xs,e,q,n,r⟩:=h
   exact ⟨a,a4,xs,e,q,n,dk.mono a5 r⟩
theorem dk.mono (a5:Sub G G'):∀{ts:List T} {vs:List V},dk K G H ts vs→dk K G' H ts vs
 | [],_,h=>by simpa only [dk] using h
 | _::_,_,h=>by
   simp only [dk] at h ⊢
   obtain ⟨v,r,e,q,t⟩:=h
   exact ⟨v,r,e,dP.mono a5 q,dk.mono a5 t⟩
end
mutual
theorem dP.keep:∀{t:T} {v:V},(∀b∈a6 H t v,H' b=H b)→dP K G H t v→dP K G H' t v∧a6 H' t v=a6 H t v
 | .J _,_,_,h=>by
   simp only [dP] at h
   exact ⟨by simp only [dP]; exact h,by simp only [a6]⟩
 | .lst _,_,k,h=>by
   simp only [dP] at h
   obtain ⟨a,xs,rfl,q,r⟩:=h
   rw [r_ q] at k
   have kV:H' a=some (.lst xs):=(k a (by simp)).trans q
   obtain ⟨av,bl⟩:=dk.keep (fun b hb=>k b (List.mem_cons_of_mem _ hb)) r
   exact ⟨by simp only [dP]; exact ⟨a,xs,rfl,kV,av⟩,by rw [r_ kV,r_ q,bl]⟩
 | .dg _ _,_,k,h=>by
   simp only [dP] at h
   obtain ⟨a,xs,rfl,q,n,r⟩:=h
   rw [r7 q] at k
   have kV:H' a=some (.dg xs):=(k a (by simp)).trans q
   obtain ⟨av,bl⟩:=dk.keep (fun b hb=>k b (List.mem_cons_of_mem _ hb)) r
   exact ⟨by simp only [dP]; exact ⟨a,xs,rfl,kV,n,av⟩,by rw [r7 kV,r7 q,bl]⟩
 | .a0 _ _,_,k,h=>by
   simp only [dP] at h
   obtain ⟨a,xs,rfl,q,n,r⟩:=h
   rw [r8 q] at k
   have kV:H' a=some (.a0 xs):=(k a (by simp)).trans q
   obtain ⟨av,bl⟩:=dk.keep (fun b hb=>k b (List.mem_cons_of_mem _ hb)) r
   exact ⟨by simp only [dP]; exact ⟨a,xs,rfl,kV,n,av⟩,by rw [r8 kV,r8 q,bl]⟩
 | .ins _ _ _,_,k,h=>by
   simp only [dP] at h
   obtain ⟨a,a4,xs,rfl,⟨C,bD,q⟩,n,r⟩:=h
   rw [r9 q] at k
   have kV:H' a=some (.ins C a4 xs):=(k a (by simp)).trans q
   obtain ⟨av,bl⟩:=dk.keep (fun b hb=>k b (List.mem_cons_of_mem _ hb)) r
   exact ⟨by simp only [dP]; exact ⟨a,a4,xs,rfl,⟨C,bD,kV⟩,n,av⟩,by rw [r9 kV,r9 q,bl]⟩
theorem dk.keep:∀{ts:List T} {vs:List V},(∀b∈gV H ts vs,H' b=H b)→dk K G H ts vs→dk K G H' ts vs∧gV H' ts vs=gV H ts vs
 | [],_,_,h=>⟨by simpa only [dk] using h,by simp only [gV]⟩
 | _::_,_,k,h=>by
   simp only [dk] at h
   obtain ⟨v,r,rfl,q,t⟩:=h
   rw [r6] at k
   obtain ⟨a7,bX⟩:=dP.keep (fun b hb=>k b (List.mem_append_left _ hb)) q
   obtain ⟨t1,d7⟩:=dk.keep (fun b hb=>k b (List.mem_append_right _ hb)) t
   exact ⟨by simp only [dk]; exact ⟨v,r,rfl,a7,t1⟩,by rw [r6,r6,bX,d7]⟩
end
mutual
theorem dP.some:∀{t:T} {v:V},dP K G H t v→∀b∈a6 H t v,H b≠none
 | .J _,_,_=>by intro b hb; simp [a6] at hb
 | .lst _,_,h=>by
   simp only [dP] at h
   obtain ⟨a,xs,rfl,q,r⟩:=h
   rw [r_ q]
   intro b hb
   rcases List.mem_cons.mp hb with rfl | hb
   · rw [q]; exact fun z=>nomatch z
   · exact dk.some r b hb
 | .dg _ _,_,h=>by
   simp only [dP] at h
   obtain ⟨a,xs,rfl,q,n,r⟩:=h
   rw [r7 q]
   intro b hb
   rcases List.mem_cons.mp hb with rfl | hb
   · rw [q]; exact fun z=>nomatch z
   · exact dk.some r b hb
 | .a0 _ _,_,h=>by
   simp only [dP] at h
   obtain ⟨a,xs,rfl,q,n,r⟩:=h
   rw [r8 q]
   intro b hb
   rcases List.mem_cons.mp hb with rfl | hb
   · rw [q]; exact fun z=>nomatch z
   · exact dk.some r b hb
 | .ins _ _ _,_,h=>by
   simp only [dP] at h
   obtain ⟨a,a4,xs,rfl,⟨C,bD,q⟩,n,r⟩:=h
   rw [r9 q]
   intro b hb
   rcases List.mem_cons.mp hb with rfl | hb
   · rw [q]; exact fun z=>nomatch z
   · exact dk.some r b hb
theorem dk.some:∀{ts:List T} {vs:List V},dk K G H ts vs→∀b∈gV H ts vs,H b≠none
 | [],_,_=>by intro b hb; simp [gV] at hb
 | _::_,_,h=>by
   simp only [dk] at h
   obtain ⟨v,r,rfl,q,t⟩:=h
   rw [r6]
   intro b hb
   rcases List.mem_append.mp hb with hb | hb
   · exact dP.some q b hb
   · exact dk.some t b hb
end
mutual
theorem dP.view (a5:Sub G P):∀{t:T} {v:V},(∀a∈a6 H t v,P a=H a)→dP K G H t v→At K P (toD t) v
 | .J _,_,_,h=>by
   simp only [dP,toD] at h ⊢
   exact h.mono a5
 | .lst _,_,k,h=>by
   simp only [dP] at h
   obtain ⟨a,xs,rfl,q,r⟩:=h
   rw [r_ q] at k
   simp only [toD,At]
   exact ⟨a,xs,rfl,by rw [k a (by simp)]; exact q,dk.view a5 (fun b hb=>k b (List.mem_cons_of_mem _ hb)) r⟩
 | .dg _ _,_,k,h=>by
   simp only [dP] at h
   obtain ⟨a,xs,rfl,q,n,r⟩:=h
   rw [r7 q] at k
   simp only [toD,At]
   exact ⟨a,xs,rfl,by rw [k a (by simp)]; exact q,n,dk.view a5 (fun b hb=>k b (List.mem_cons_of_mem _ hb)) r⟩
 | .a0 _ _,_,k,h=>by
   simp only [dP] at h
   obtain ⟨a,xs,rfl,q,n,r⟩:=h
   rw [r8 q] at k
   simp only [toD,At]
   exact ⟨a,xs,rfl,by rw [k a (by simp)]; exact q,n,dk.view a5 (fun b hb=>k b (List.mem_cons_of_mem _ hb)) r⟩
 | .ins _ _ _,_,k,h=>by
   simp only [dP] at h
   obtain ⟨a,a4,xs,rfl,⟨C,bD,q⟩,n,r⟩:=h
   rw [r9 q] at k
   simp only [toD,At]
   exact ⟨a,a4,xs,rfl,⟨C,bD,by rw [k a (by simp)]; exact q⟩,n,dk.view a5 (fun b hb=>k b (List.mem_cons_of_mem _ hb)) r⟩
theorem dk.view (a5:Sub G P):∀{ts:List T} {vs:List V},(∀a∈gV H ts vs,P a=H a)→dk K G H ts vs→aN K P (oq ts) vs
 | [],_,_,h=>by simp only [dk,oq,aN] at h ⊢; exact h
 | _::_,_,k,h=>by
   simp only [dk] at h
   obtain ⟨v,r,rfl,q,t⟩:=h
   rw [r6] at k
   simp only [oq,aN]
   exact ⟨v,r,rfl,dP.view a5 (fun b hb=>k b (List.mem_append_left _ hb)) q,dk.view a5 (fun b hb=>k b (List.mem_append_right _ hb)) t⟩
end
end
inductive ky where
 | lst (ds:List D) | a0 (a_:List (List Key)) (ds:List D) | ins (c:Str) (ns:List Str) (ds:List D)
noncomputable def mh (K:PySem.W.Frag) (G:ao):ky→dJ→Prop
 | .lst ds,ho=>∃xs,ho= .lst xs∧aN K G ds xs
 | .a0 a_ ds,ho=>∃xs,ho= .a0 xs∧xs.map (·.1)=a_∧aN K G ds (xs.map (·.2))
 | .ins c ns ds,ho=>∃C a4 xs,e4 K c C∧ho= .ins C a4 xs∧xs.map (·.1)=ns∧aN K G ds (xs.map (·.2))
theorem mh.mono {K:PySem.W.Frag} {G H:ao} (s:Sub G H):∀{o:ky} {ho:dJ},mh K G o ho→mh K H o ho
 | .lst _,_,⟨xs,e,q⟩=>⟨xs,e,q.mono s⟩
 | .a0 _ _,_,⟨xs,e,k,q⟩=>⟨xs,e,k,q.mono s⟩
 | .ins _ _ _,_,⟨C,a4,xs,c,e,k,q⟩=>⟨C,a4,xs,c,e,k,q.mono s⟩
noncomputable def n6:ky→D
 | .lst ds=> .lst ds
 | .a0 a_ ds=> .a0 a_ ds
 | .ins c ns ds=> .ins c ns ds
theorem mh.at {K:PySem.W.Frag} {G:ao} {o:ky} {ho:dJ} {a:Addr} (h:mh K G o ho) (e:G a=some ho):At K G (n6 o) (.ref a):=by
 cases o with
 | lst ds=>obtain ⟨xs,rfl,q⟩:=h; simp only [n6,At]; exact ⟨a,xs,rfl,e,q⟩
 | a0 a_ ds=>obtain ⟨xs,rfl,k,q⟩:=h; simp only [n6,At]; exact ⟨a,xs,rfl,e,k,q⟩
 | ins c ns ds=>obtain ⟨C,a4,xs,bD,rfl,k,q⟩:=h; simp only [n6,At]; exact ⟨a,a4,xs,rfl,⟨C,bD,e⟩,k,q⟩
inductive bM where
 | un | J (d:D) | a3 (o:ky) | fN (t:T)
noncomputable abbrev bM.cD (ds:List D):bM:= .a3 (.lst ds)
noncomputable abbrev az:=List bM
structure bx where
 K:PySem.W.Frag
 b2:ao
 bw:ao
 g6:Str→ao→Prop
structure eb (F:bx) (G H:ao):Prop where
 sub:Sub G H
 eC:Sub F.b2 G
 hh:Sub F.bw H
 new:∀b,F.bw b≠none→G b=F.b2 b
structure ui (F:bx) (G H:ao) (t:T) (v:V):Prop where
 at_:dP F.K G H t v
 bg:(a6 H t v).Nodup
 own:∀b∈a6 H t v,G b=none∧F.bw b=none
noncomputable def ll (F:bx) (G H:ao) (o:Option V):bM→Prop
 | .un=>True
 | .J d=>∃v,o=some v∧At F.K G d v
 | .a3 a3=>∃a ho,o=some (.ref a)∧H a=some ho∧G a=none∧F.bw a=none∧mh F.K G a3 ho
 | .fN t=>∃v,o=some v∧ui F G H t v
noncomputable def fT (H:ao):bM→Option V→Addr→Prop
 | .un,_,_=>False
 | .J _,_,_=>False
 | .a3 _,o,a=>o=some (.ref a)
 | .fN t,o,a=>∃v,o=some v∧a∈a6 H t v
structure Rel (F:bx) (G H:ao) (σ :St) (ρ:az):Prop where
 aI:eb F G H
 len: σ.length=ρ.length
 cB:∀(i:Nat) (s:bM),ρ[i]? =some s→∃o,σ[i]? =some o∧ll F G H o s
 oY:∀(i j:Nat) (a:Addr) (s s':bM) (o b_:Option V),ρ[i]? =some s→ρ[j]? =some s'→ σ[i]? =some o→ σ[j]? =some b_→fT H s o a→fT H s' b_ a→i=j
noncomputable def dK (H:ao) (σ :St) (ρ:az) (a:Addr):Prop:=∃(i:Nat) (s:bM) (o:Option V),ρ[i]? =some s∧ σ[i]? =some o∧fT H s o a
theorem HE {α:Type} {l:List α} {i:Nat} {x:α} (e:l[i]? =some x):l.set i x=l:=by
 apply List.ext_getElem?
 intro j
 rw [List.getElem?_set]
 by_cases h:i=j
 · subst h
   rw [if_pos rfl,if_pos (List.getElem?_eq_some_iff.mp e).1]; exact e.symm
 · simp [h]
section
variable {F:bx} {G G' H H':ao} {σ :St} {ρ:az}
theorem dK.a3 {a:Addr} {i:Nat} {o:ky} (ar:ρ[i]? =some (.a3 o)) (aG: σ[i]? =some (some (.ref a))):dK H σ ρ a:=⟨i,_,_,ar,aG,rfl⟩
theorem ll.keep {o:Option V} {s:bM} (h:ll F G H o s) (a5:Sub G G') (k:∀a,fT H s o a→H' a=H a∧G' a=none):ll F G' H' o s∧(∀a,fT H' s o a→fT H s o a):=by
 cases s with
 | un=>exact ⟨trivial,fun _ z=>z⟩
 | J d=>obtain ⟨v,aG,a⟩:=h; exact ⟨⟨v,aG,a.mono a5⟩,fun _ z=>z⟩
 | a3 ds=>
   obtain ⟨a,xs,aG,h1,h2,h3,h4⟩:=h
   exact ⟨⟨a,xs,aG,by rw [(k a aG).1]; exact h1,(k a aG).2,h3,h4.mono a5⟩,fun _ z=>z⟩
 | fN t=>
   obtain ⟨v,aG,a7,bX,eU⟩:=h
   obtain ⟨pO,m6⟩:=a7.keep fun b hb=>(k b ⟨v,aG,hb⟩).1
   refine ⟨⟨v,aG,⟨pO.mono a5,by rw [m6]; exact bX,fun b hb=>?_⟩⟩,fun a z=>?_⟩
   · rw [m6] at hb; exact ⟨(k b ⟨v,aG,hb⟩).2,(eU b hb).2⟩
   · obtain ⟨u,cM,hb⟩:=z
     rw [aG] at cM; cases cM
     rw [m6] at hb; exact ⟨v,aG,hb⟩
theorem ll.foot {o:Option V} {s:bM} (h:ll F G H o s) {a:Addr} (f:fT H s o a):H a≠none∧G a=none∧F.bw a=none:=by
 cases s with
 | un=>exact f.elim
 | J d=>exact f.elim
 | a3 ds=>
   obtain ⟨b,xs,aG,h1,h2,h3,h4⟩:=h
   have f:o=some (.ref a):=f
   rw [aG] at f; cases f
   exact ⟨by rw [h1]; exact (fun z=>nomatch z),h2,h3⟩
 | fN t=>
   obtain ⟨v,aG,a7,bX,eU⟩:=h
   obtain ⟨u,cM,hb⟩:=f
   rw [aG] at cM; cases cM
   exact ⟨a7.some a hb,eU a hb⟩
theorem Rel.foot (r:Rel F G H σ ρ) {a:Addr} (h:dK H σ ρ a):H a≠none∧G a=none∧F.bw a=none:=by
 obtain ⟨i,s,o,ar,aG,f⟩:=h
 obtain ⟨b_,cM,q⟩:=r.cB i s ar
 rw [aG] at cM; cases cM
 exact q.foot f
theorem Rel.over {F':bx} (r:Rel F G H σ ρ) (hK:F'.K=F.K) (aI:eb F' G' H') (a5:Sub G G') (k:∀a,dK H σ ρ a→H' a=H a∧G' a=none∧F'.bw a=none):Rel F' G' H' σ ρ:=by
 have one:∀(i:Nat) (s:bM),ρ[i]? =some s→∃o,σ[i]? =some o∧ll F' G' H' o s∧(∀a,fT H' s o a→fT H s o a):=fun i s e=>by
  obtain ⟨o,ar,q⟩:=r.cB i s e
  obtain ⟨a7,bX⟩:=q.keep a5 fun a f=>⟨(k a ⟨i,s,o,e,ar,f⟩).1,(k a ⟨i,s,o,e,ar,f⟩).2.1⟩
  refine ⟨o,ar,?_,bX⟩
  cases s with
  | un=>trivial
  | J d=>obtain ⟨v,aG,a⟩:=a7; exact ⟨v,aG,by rw [hK]; exact a⟩
  | a3 ds=>
    obtain ⟨a,xs,aG,h1,h2,h3,h4⟩:=a7
    exact ⟨a,xs,aG,h1,h2,(k a ⟨i,_,o,e,ar,aG⟩).2.2,by rw [hK]; exact h4⟩
  | fN t=>
    obtain ⟨v,aG,pO,m6,pP⟩:=a7
    exact ⟨v,aG,by rw [hK]; exact pO,m6,fun b hb=>⟨(pP b hb).1,(k b ⟨i,_,o,e,ar,bX b ⟨v,aG,hb⟩⟩).2.2⟩⟩
 refine ⟨aI,r.len,fun i s e=>let ⟨o,ar,q,_⟩:=one i s e; ⟨o,ar,q⟩,fun i j a s s' o b_ ar aG cM eF f1 f2=>?_⟩
 obtain ⟨u,bO,_,bz⟩:=one i s ar
 rw [cM] at bO; cases bO
 obtain ⟨u,ru,_,tS⟩:=one j s' aG
 rw [eF] at ru; cases ru
 exact r.oY i j a s s' o b_ ar aG cM eF (bz a f1) (tS a f2)
theorem Rel.grow (r:Rel F G H σ ρ) (a5:Sub G G') (Ue:Sub G' H') (hh:Sub H H') (nw:∀b,H b≠none→G' b=G b):Rel F G' H' σ ρ:=by
 refine r.over rfl ⟨Ue,r.aI.eC.trans a5,r.aI.hh.trans hh,fun b hb=>?_⟩ a5 fun a ha=>?_
 · rw [nw b (r.aI.hh.some hb)]; exact r.aI.new b hb
 · obtain ⟨h1,h2,h3⟩:=r.foot ha
   refine ⟨?_,(nw a h1).trans h2,h3⟩
   cases e:H a with
   | none=>exact absurd e h1
   | some o=>exact hh a o e
theorem Rel.lay (r:Rel F G H σ ρ) {p:Addr} {o:dJ} (hp:H p=none):Rel F (upd G p o) (upd H p o) σ ρ:=by
 have Mt:G p=none:=r.aI.sub.gone hp
 refine r.grow (Sub.upd Mt) (Sub.both r.aI.sub) (Sub.upd hp) fun b hb=>?_
 rw [de]
 intro e; subst e; exact hb hp
theorem Rel.lay0 (r:Rel F G H σ ρ) {p:Addr} {o:dJ} (hp:H p=none):Rel F G (upd H p o) σ ρ:=
 r.grow (Sub.refl _) (Sub.xu r.aI.sub (r.aI.sub.gone hp)) (Sub.upd hp) fun _ _=>rfl
theorem Rel.take (r:Rel F G H σ ρ) {p:Addr} {o:dJ} (hp:H p=some o) (hg:G p=none) (h0:F.bw p=none) (no:¬ dK H σ ρ p):Rel F (upd G p o) H σ ρ:=by
 refine r.over rfl ⟨Sub.at r.aI.sub hp,r.aI.eC.trans (Sub.upd hg),r.aI.hh,fun b hb=>?_⟩ (Sub.upd hg) fun a ha=>?_
 · rw [de]
   · exact r.aI.new b hb
   · intro e; subst e; exact hb h0
 · obtain ⟨h1,h2,h3⟩:=r.foot ha
   exact ⟨rfl,by rw [de (fun z=>no (by rw [←z]; exact ha))]; exact h2,h3⟩
theorem Rel.J (r:Rel F G H σ ρ) {i:Nat} {d:D} (e:ρ[i]? =some (.J d)):∃v,σ[i]? =some (some v)∧At F.K G d v:=by
 obtain ⟨o,ar,v,rfl,a⟩:=r.cB i _ e
 exact ⟨v,ar,a⟩
theorem Rel.obj (r:Rel F G H σ ρ) {i:Nat} {o:ky} (e:ρ[i]? =some (.a3 o)):∃a ho,σ[i]? =some (some (.ref a))∧H a=some ho∧G a=none∧F.bw a=none∧mh F.K G o ho:=by
 obtain ⟨v,ar,a,ho,rfl,h1,h2,h3,h4⟩:=r.cB i _ e
 exact ⟨a,ho,ar,h1,h2,h3,h4⟩
theorem Rel.own {G H:ao} {σ :St} {ρ:az} (r:Rel F G H σ ρ) {i:Nat} {ds:List D} (e:ρ[i]? =some (.cD ds)):∃a xs,σ[i]? =some (some (.ref a))∧H a=some (.lst xs)∧G a=none∧F.bw a=none∧aN F.K G ds xs:=by
 obtain ⟨a,ho,ar,h1,h2,h3,xs,rfl,h4⟩:=r.obj e
 exact ⟨a,xs,ar,h1,h2,h3,h4⟩
theorem get_set {α:Type} {l:List α} {i j:Nat} {x y:α} (e:(l.set i x)[j]? =some y):(i=j∧y=x)∨(i≠j∧l[j]? =some y):=by
 rw [List.getElem?_set] at e
 by_cases h:i=j
 · rw [if_pos h] at e
   split at e
   · cases e; exact .inl ⟨h,rfl⟩
   · cases e
 · rw [if_neg h] at e; exact .inr ⟨h,e⟩
theorem Rel.tv (r:Rel F G H σ ρ) {i:Nat} {s:bM} {o:Option V} (hi:i < ρ.length) (q:ll F G H o s) (no:∀a,fT H s o a→∀(j:Nat) (s':bM) (b_:Option V),j≠i→ρ[j]? =some s'→ σ[j]? =some b_→¬ fT H s' b_ a):Rel F G H (σ.set i o) (ρ.set i s):=by
 have hs:i < σ.length:=by rw [r.len]; exact hi
 refine ⟨r.aI,by simp [r.len],fun j s e=>?_,fun j k b s1 s2 c1 cQ ar aG cM eF f1 f2=>?_⟩
 · rcases get_set e with ⟨rfl,rfl⟩ | ⟨ne,e⟩
   · exact ⟨o,by simp [hs],q⟩
   · rw [List.getElem?_set_ne ne]; exact r.cB j s e
 · rcases get_set ar with ⟨cA,bO⟩ | ⟨ff,iu⟩
   · subst cA bO
     rw [List.getElem?_set_self hs] at cM
     cases cM
     rcases get_set aG with ⟨cc,bz⟩ | ⟨dc,k9⟩
     · exact cc
     · rw [List.getElem?_set_ne dc] at eF
       exact absurd f2 (no b f1 k s2 cQ (Ne.symm dc) k9 eF)
   · rw [List.getElem?_set_ne ff] at cM
     rcases get_set aG with ⟨cc,bz⟩ | ⟨dc,k9⟩
     · subst cc bz
       rw [List.getElem?_set_self hs] at eF
       cases eF
       exact absurd f1 (no b f2 j s1 c1 (Ne.symm ff) iu cM)
     · rw [List.getElem?_set_ne dc] at eF
       exact r.oY j k b s1 s2 c1 cQ iu k9 cM eF f1 f2
theorem Rel.set (r:Rel F G H σ ρ) {i:Nat} {d:D} {v:V} (hi:i < ρ.length) (a:At F.K G d v):Rel F G H (σ.set i (some v)) (ρ.set i (.J d)):=
 r.tv hi ⟨v,rfl,a⟩ fun _ f=>f.elim
theorem Rel.setB (r:Rel F G H σ ρ) {i:Nat} {a3:ky} {a:Addr} {ho:dJ} (hi:i < ρ.length) (ha:H a=some ho) (hg:G a=none) (h0:F.bw a=none) (q:mh F.K G a3 ho)
  (no:∀(j:Nat) (s:bM) (o:Option V),j≠i→ρ[j]? =some s→ σ[j]? =some o→¬ fT H s o a):Rel F G H (σ.set i (some (.ref a))) (ρ.set i (.a3 a3)):=
 r.tv hi ⟨a,ho,rfl,ha,hg,h0,q⟩ fun b f=>by
   have f:some (V.ref a)=some (.ref b):=f
   cases f; exact no
theorem Rel.Ub (r:Rel F G H σ ρ) {i:Nat} {ds:List D} {a:Addr} {xs:List V} (hi:i < ρ.length) (ha:H a=some (.lst xs)) (hg:G a=none) (h0:F.bw a=none) (q:aN F.K G ds xs)
  (no:∀(j:Nat) (s:bM) (o:Option V),j≠i→ρ[j]? =some s→ σ[j]? =some o→¬ fT H s o a):Rel F G H (σ.set i (some (.ref a))) (ρ.set i (.cD ds)):=r.setB hi ha hg h0 ⟨xs,rfl,q⟩ no
theorem Rel.Qo (r:Rel F G H σ ρ) {i:Nat} {s s':bM} {o:Option V} {a:Addr} {ho:dJ} (e:ρ[i]? =some s) (au: σ[i]? =some o) (fA:fT H s o a) (q:ll F G (upd H a ho) o s') (f:∀b,fT (upd H a ho) s' o b→fT H s o b∨¬ dK H σ ρ b) :
  Rel F G (upd H a ho) σ (ρ.set i s'):=by
 have hi:i < ρ.length:=(List.getElem?_eq_some_iff.mp e).1
 obtain ⟨h1,h2,h3⟩:=r.foot ⟨i,s,o,e,au,fA⟩
 have wH:∀(j:Nat) (t:bM),i≠j→ρ[j]? =some t→∃u,σ[j]? =some u∧ll F G (upd H a ho) u t∧(∀b,fT (upd H a ho) t u b→fT H t u b):=fun j t ne z=>by
  obtain ⟨u,bO,bz⟩:=r.cB j t z
  have na:¬ fT H t u a:=fun w=>ne (r.oY i j a s t o u e z au bO fA w)
  obtain ⟨a7,bX⟩:=bz.keep (H':=upd H a ho) (Sub.refl G) fun b r4=>⟨de fun w=>na (w ▸ r4),(bz.foot r4).2.1⟩
  exact ⟨u,bO,a7,bX⟩
 refine ⟨⟨Sub.xu r.aI.sub h2,r.aI.eC,fun c u z=>?_,r.aI.new⟩,by simp [r.len],fun j t z=>?_,fun j k c s1 s2 c1 cQ cM eF gi jx f1 f2=>?_⟩
 · rw [de (iU z h3)]; exact r.aI.hh c u z
 · rcases get_set z with ⟨rfl,rfl⟩ | ⟨ne,z⟩
   · exact ⟨o,au,q⟩
   · obtain ⟨u,bO,bz,_⟩:=wH j t ne z
     exact ⟨u,bO,bz⟩
 · rcases get_set cM with ⟨cA,bO⟩ | ⟨ff,tL⟩
   · subst cA bO
     rw [au] at gi; cases gi
     rcases get_set eF with ⟨cc,bz⟩ | ⟨dc,ov⟩
     · exact cc
     · obtain ⟨u,iu,_,k9⟩:=wH k s2 dc ov
       rw [jx] at iu; cases iu
       have g2:=k9 c f2
       rcases f c f1 with g1 | g1
       · exact r.oY i k c s s2 o cQ e ov au jx g1 g2
       · exact absurd ⟨k,s2,cQ,ov,jx,g2⟩ g1
   · obtain ⟨u,iu,_,k9⟩:=wH j s1 ff tL
     rw [gi] at iu; cases iu
     have g1:=k9 c f1
     rcases get_set eF with ⟨cc,bz⟩ | ⟨dc,ov⟩
     · subst cc bz
       rw [au] at jx; cases jx
       rcases f c f2 with g2 | g2
       · exact r.oY j i c s1 s c1 o tL e gi au g1 g2
       · exact absurd ⟨j,s1,c1,tL,gi,g1⟩ g2
     · obtain ⟨u,tR,_,Wz⟩:=wH k s2 dc ov
       rw [jx] at tR; cases tR
       exact r.oY j k c s1 s2 c1 cQ tL ov gi jx g1 (Wz c f2)
theorem Rel.zW (r:Rel F G H σ ρ) {i:Nat} {o b_:ky} {a:Addr} {ho:dJ} (e:ρ[i]? =some (.a3 o)) (au: σ[i]? =some (some (.ref a))) (q:mh F.K G b_ ho) :
  Rel F G (upd H a ho) σ (ρ.set i (.a3 b_)):=by
 obtain ⟨b,WX,ar,h1,h2,h3,h4⟩:=r.obj e
 rw [au] at ar
 have bE:b=a:=by cases ar; rfl
 subst bE
 exact r.Qo e au rfl ⟨b,ho,rfl,en,h2,h3,q⟩ fun c f=> .inl f
theorem Rel.mut (r:Rel F G H σ ρ) {i:Nat} {ds o1:List D} {a:Addr} {ys:List V} (e:ρ[i]? =some (.cD ds)) (au: σ[i]? =some (some (.ref a))) (q:aN F.K G o1 ys) :
  Rel F G (upd H a (.lst ys)) σ (ρ.set i (.cD o1)):=r.zW e au ⟨ys,rfl,q⟩
theorem Rel.jA (r:Rel F G H σ ρ) {i:Nat} {o:ky} (e:ρ[i]? =some (.a3 o)):∃G',Rel F G' H σ (ρ.set i (.J (n6 o)))∧Sub G G':=by
 have hi:i < ρ.length:=(List.getElem?_eq_some_iff.mp e).1
 obtain ⟨a,ho,ar,h1,h2,h3,h4⟩:=r.obj e
 have un:Rel F G H σ (ρ.set i .un):=by
  have z:=r.tv (s:= .un) (o:=some (.ref a)) hi trivial fun _ f=>f.elim
  rw [aD.HE ar] at z; exact z
 have no:¬ dK H σ (ρ.set i .un) a:=fun ⟨j,s,u,iu,k9,tR⟩=>by
  rcases get_set iu with ⟨_,z⟩ | ⟨ne,iu⟩
  · subst z; exact tR
  · exact ne (r.oY i j a _ s _ u e iu ar k9 rfl tR)
 have bl:=un.take h1 h2 h3 no
 have ei:=bl.tv (i:=i) (s:= .J (n6 o)) (o:=some (.ref a)) (by simpa using hi) ⟨.ref a,rfl,(h4.mono (Sub.upd h2)).at en⟩ fun _ f=>f.elim
 rw [aD.HE ar,List.set_set] at ei
 exact ⟨upd G a ho,ei,Sub.upd h2⟩
end
end aD
set_option Elab.async false
set_option linter.all false
namespace aD
open PySem bb
noncomputable abbrev aE:=az→R D
noncomputable abbrev ck:=az→R Bool
noncomputable abbrev bh:=az→R (List D)
inductive l9 where
 | aV (ρ:az) | dN (d:D) | kl (ds:List D) | ee (ρ:az) | cL (ρ:az) | lV (t:T)
noncomputable abbrev aY:=az→R l9
noncomputable def ke (F:bx) (c:Str):Prop:=∀G' H',eb F G' H'→F.g6 c H'
noncomputable def iO (F:bx) (G H:ao) (σ :St) (ρ:az) (Q:cW):R D→Prop
 | .ok d=>∀v H' G',Rel F G' H' σ ρ→cz G H G' H'→At F.K G' d v→Q v H'
 | .exc c=>ke F c
 | .bad=>False
noncomputable def qH (F:bx) (G H:ao) (σ :St) (ρ:az) (Q:Bool→ao→Prop):R Bool→Prop
 | .ok b=>∀H' G',Rel F G' H' σ ρ→cz G H G' H'→Q b H'
 | .exc c=>ke F c
 | .bad=>False
noncomputable def OZ (F:bx) (G H:ao) (σ :St) (ρ:az) (Q:List V→ao→Prop):R (List D)→Prop
 | .ok ds=>∀vs H' G',Rel F G' H' σ ρ→cz G H G' H'→aN F.K G' ds vs→Q vs H'
 | .exc c=>ke F c
 | .bad=>False
noncomputable def O5 (F:bx) (G H:ao) (σ :St) (ρ:az) (Q:cW):R (List D)→Prop
 | .ok ds=>∀a xs H' G',Rel F G' H' σ ρ→cz G H G' H'→H a=none→H' a=some (.lst xs)→G' a=none→aN F.K G' ds xs→Q (.ref a) H'
 | .exc c=>ke F c
 | .bad=>False
noncomputable def gZ (F:bx) (G:ao) (cJ:Ends):R l9→Prop
 | .ok (.aV ρ')=>∀ σ' G' H',Rel F G' H' σ' ρ'→Sub G G'→cJ.aV σ' H'
 | .ok (.ee ρ')=>∀ σ' G' H',Rel F G' H' σ' ρ'→Sub G G'→cJ.ee σ' H'
 | .ok (.cL ρ')=>∀ σ' G' H',Rel F G' H' σ' ρ'→Sub G G'→cJ.cL σ' H'
 | .ok (.dN d)=>∀v G' H',eb F G' H'→At F.K G' d v→cJ.dN v H'
 | .ok (.kl ds)=>∀a xs G' H',eb F G' H'→G' a=none→F.bw a=none→H' a=some (.lst xs)→aN F.K G' ds xs→cJ.dN (.ref a) H'
 | .ok (.lV t)=>∀v G' H',eb F G' H'→ui F G' H' t v→cJ.dN v H'
 | .exc c=>ke F c
 | .bad=>False
noncomputable def cR (F:bx) (m:aE):TE:=fun σ H Q=>∃G ρ,Rel F G H σ ρ∧iO F G H σ ρ Q (m ρ)
noncomputable def fB (F:bx) (m:ck):TT:=fun σ H Q=>∃G ρ,Rel F G H σ ρ∧qH F G H σ ρ Q (m ρ)
noncomputable def d8 (F:bx) (m:bh):eA:=fun σ H Q=>∃G ρ,Rel F G H σ ρ∧OZ F G H σ ρ Q (m ρ)
noncomputable def jS (F:bx) (m:bh):TE:=fun σ H Q=>∃G ρ,Rel F G H σ ρ∧O5 F G H σ ρ Q (m ρ)
noncomputable def e1 (F:bx) (m:aY):eB:=fun cJ σ H=>∃G ρ,Rel F G H σ ρ∧gZ F G cJ (m ρ)
section
variable {F:bx} {G aQ H H1:ao} {σ :St} {ρ:az}
theorem iO.mono {Q:cW} (s:cz G H aQ H1):∀{r:R D},iO F G H σ ρ Q r→iO F aQ H1 σ ρ Q r
 | .ok _,h=>fun v H' G' r a5 a=>h v H' G' r (s.trans a5) a
 | .exc _,h=>h
 | .bad,h=>h
theorem qH.mono {Q:Bool→ao→Prop} (s:cz G H aQ H1):∀{r:R Bool},qH F G H σ ρ Q r→qH F aQ H1 σ ρ Q r
 | .ok _,h=>fun H' G' r a5=>h H' G' r (s.trans a5)
 | .exc _,h=>h
 | .bad,h=>h
theorem gZ.mono {cJ:Ends} (s:Sub G aQ):∀{r:R l9},gZ F G cJ r→gZ F aQ cJ r
 | .ok (.aV _),h=>fun σ' G' H' r a5=>h σ' G' H' r (s.trans a5)
 | .ok (.ee _),h=>fun σ' G' H' r a5=>h σ' G' H' r (s.trans a5)
 | .ok (.cL _),h=>fun σ' G' H' r a5=>h σ' G' H' r (s.trans a5)
 | .ok (.dN _),h=>h
 | .ok (.kl _),h=>h
 | .ok (.lV _),h=>h
 | .exc _,h=>h
 | .bad,h=>h
end
noncomputable abbrev ez (t' t:TE):Prop:=∀ σ H Q,t' σ H Q→t σ H Q
noncomputable abbrev mb (t' t:TT):Prop:=∀ σ H Q,t' σ H Q→t σ H Q
noncomputable abbrev p1 (t' t:eA):Prop:=∀ σ H Q,t' σ H Q→t σ H Q
noncomputable abbrev g8 (t' t:eB):Prop:=∀cJ σ H,t' cJ σ H→t cJ σ H
noncomputable def I (i:Nat):aE:=fun ρ=>match ρ[i]? with
 | some (.J d)=> .ok d
 | _=> .bad
noncomputable def ag (d:D):aE:=fun _=> .ok d
section
variable {F:bx}
theorem Oj (i:Nat):ez (cR F (I i)) (Bs i):=by
 rintro σ H Q ⟨G,ρ,r,h⟩
 unfold I at h
 cases e:ρ[i]? with
 | none=>rw [e] at h; exact h.elim
 | some s=>
   rw [e] at h
   cases s with
   | un=>exact h.elim
   | a3 _=>exact h.elim
   | fN _=>exact h.elim
   | J d=>
     obtain ⟨v,ar,a⟩:=r.J e
     exact ⟨v,ar,h v H G r (cz.refl _ _) a⟩
theorem sy {d:D} {v:V} (a:∀G,At F.K G d v):ez (cR F (ag d)) (om v):=by
 rintro σ H Q ⟨G,ρ,r,h⟩
 exact h v H G r (cz.refl _ _) (a G)
noncomputable def ah (f:D→D→R D) (a b:aE):aE:=fun ρ=>(a ρ).bind fun x=>(b ρ).bind fun y=>f x y
noncomputable def ft (F:bx) (r:ed) (f:D→D→R D):Prop:=∀ σ ρ G H x y a4 fz Q,Rel F G H σ ρ→At F.K G a4 x→At F.K G fz y→iO F G H σ ρ Q (f a4 fz)→r x y H Q
theorem vQ {r:ed} {f:D→D→R D} {ma fm:aE} (ho:ft F r f):ez (cR F (ah f ma fm)) (tE r (cR F ma) (cR F fm)):=by
 rintro σ H Q ⟨G,ρ,r,h⟩
 unfold ah at h
 refine ⟨G,ρ,r,?_⟩
 cases au:ma ρ with
 | bad=>rw [au] at h; exact h.elim
 | exc c=>rw [au] at h; exact h
 | ok a4=>
   rw [au,R.bH] at h
   intro x H1 aQ av s1 bY
   refine ⟨aQ,ρ,av,?_⟩
   cases bE:fm ρ with
   | bad=>rw [bE] at h; exact h.elim
   | exc c=>rw [bE] at h; exact h
   | ok fz=>
     rw [bE,R.bH] at h
     intro y aT c4 bl s2 cP
     exact ho σ ρ c4 aT x y a4 fz Q bl (bY.mono s2.g) cP (h.mono (s1.trans s2))
noncomputable def ct (f:D→R D) (a:aE):aE:=fun ρ=>(a ρ).bind f
noncomputable def ai:bh:=fun _=> .ok []
noncomputable def af (a:aE) (r:bh):bh:=fun ρ=>(a ρ).bind fun x=>(r ρ).bind fun xs=> .ok (x::xs)
theorem Fh:p1 (d8 F ai) Bo:=by
 rintro σ H Q ⟨G,ρ,r,h⟩
 exact h [] H G r (cz.refl _ _) .nil
theorem NH {ma:aE} {pB:bh}:p1 (d8 F (af ma pB)) (tD (cR F ma) (d8 F pB)):=by
 rintro σ H Q ⟨G,ρ,r,h⟩
 unfold af at h
 refine ⟨G,ρ,r,?_⟩
 cases au:ma ρ with
 | bad=>rw [au] at h; exact h.elim
 | exc c=>rw [au] at h; exact h
 | ok a4=>
   rw [au,R.bH] at h
   intro x H1 aQ av s1 bY
   refine ⟨aQ,ρ,av,?_⟩
   cases bE:pB ρ with
   | bad=>rw [bE] at h; exact h.elim
   | exc c=>rw [bE] at h; exact h
   | ok fz=>
     rw [bE,R.bH] at h
     intro y aT c4 bl s2 cP
     exact h (x::y) aT c4 bl (s1.trans s2) (.cons (bY.mono s2.g) cP)
noncomputable def bG (m:bh):aE:=fun ρ=>(m ρ).bind fun xs=>if xs.length≤1000000 then .ok (.tup xs) else .bad
theorem Og {m:bh}:ez (cR F (bG m)) (Br (d8 F m)):=by
 rintro σ H Q ⟨G,ρ,r,h⟩
 unfold bG at h
 refine ⟨G,ρ,r,?_⟩
 cases au:m ρ with
 | bad=>rw [au] at h; exact h.elim
 | exc c=>rw [au] at h; exact h
 | ok ds=>
   rw [au,R.bH] at h
   intro vs H1 aQ av s1 a
   by_cases hl:ds.length≤1000000
   · rw [if_pos hl] at h
     refine ⟨by rw [←a.length]; exact Nat.le_trans hl (by decide),fun p hp=>?_⟩
     refine h (.ref p) _ _ (av.lay hp) (s1.trans (cz.lay av.aI.sub hp)) ?_
     simp only [At]
     exact ⟨p,vs,rfl,en,a.mono (Sub.upd (av.aI.sub.gone hp))⟩
   · rw [if_neg hl] at h; exact h.elim
theorem dK.back {G H H':ao} {σ :St} {ρ:az} (r:Rel F G H σ ρ) (s:Sub H H') {a:Addr} (h:dK H' σ ρ a):dK H σ ρ a:=by
 obtain ⟨i,cB,o,ar,aG,f⟩:=h
 refine ⟨i,cB,o,ar,aG,?_⟩
 obtain ⟨b_,cM,q⟩:=r.cB i cB ar
 rw [aG] at cM; cases cM
 exact (q.keep (G':=G) (H':=H') (Sub.refl _) fun b r4=>⟨by
  cases e:H b with
  | none=>exact absurd e (q.foot r4).1
  | some u=>exact s b u e,(q.foot r4).2.1⟩).2 a f
theorem dK.fresh {G H H':ao} {σ :St} {ρ:az} (r:Rel F G H σ ρ) (s:Sub H H') {a:Addr} (n:H a=none):¬ dK H' σ ρ a:=fun h=>(r.foot (h.back r s)).1 n
noncomputable def lim (xs:List D):R (List D):=if xs.length≤1000000 then .ok xs else .bad
noncomputable def bK (m:bh):bh:=fun ρ=>(m ρ).bind lim
theorem NX {m:bh}:ez (jS F (bK m)) (H0 (d8 F m)):=by
 rintro σ H Q ⟨G,ρ,r,h⟩
 unfold bK lim at h
 refine ⟨G,ρ,r,?_⟩
 cases au:m ρ with
 | bad=>rw [au] at h; exact h.elim
 | exc c=>rw [au] at h; exact h
 | ok ds=>
   rw [au,R.bH] at h
   intro vs H1 aQ av s1 a
   by_cases hl:ds.length≤1000000
   · rw [if_pos hl] at h
     refine ⟨by rw [←a.length]; exact Nat.le_trans hl (by decide),fun p hp=>?_⟩
     exact h p vs _ aQ (av.lay0 hp) (s1.trans (cz.lay0 hp)) (s1.h.gone hp) en (av.aI.sub.gone hp) a
   · rw [if_neg hl] at h; exact h.elim
noncomputable def a9 (m:bh):aE:=fun ρ=>(m ρ).bind fun xs=> .ok (.lst xs)
theorem NP {m:bh}:ez (cR F (a9 m)) (jS F m):=by
 rintro σ H Q ⟨G,ρ,r,h⟩
 unfold a9 at h
 refine ⟨G,ρ,r,?_⟩
 cases au:m ρ with
 | bad=>rw [au] at h; exact h.elim
 | exc c=>rw [au] at h; exact h
 | ok ds=>
   rw [au,R.bH] at h
   intro a xs H' G' bf s' aC ha hg q
   refine h (.ref a) H' _ (bf.take ha hg (r.aI.hh.gone aC) (dK.fresh r s'.h aC)) (s'.put aC hg) ?_
   simp only [At]
   exact ⟨a,xs,rfl,en,q.mono (Sub.upd hg)⟩
noncomputable def jZ:D→R Bool
 | .aw b=> .ok b
 | _=> .bad
noncomputable def aH (m:aE):ck:=fun ρ=>(m ρ).bind jZ
theorem vP {m:aE}:mb (fB F (aH m)) (Bj (cR F m)):=by
 rintro σ H Q ⟨G,ρ,r,h⟩
 unfold aH at h
 refine ⟨G,ρ,r,?_⟩
 cases au:m ρ with
 | bad=>rw [au] at h; exact h.elim
 | exc c=>rw [au] at h; exact h
 | ok d=>
   rw [au,R.bH] at h
   intro x H1 aQ av s1 bY
   cases d <;> first
    | (exact h.elim)
    | (simp only [At] at bY; exact ⟨_,bY,h H1 aQ av s1⟩)
theorem E_ {m:aE}:mb (fB F (aH m)) (Bq (cR F m)):=vP
noncomputable def gp (a b:ck):ck:=fun ρ=>(a ρ).bind fun c=>if c=true then b ρ else .ok false
noncomputable def dY (a b:ck):ck:=fun ρ=>(a ρ).bind fun c=>if c=true then .ok true else b ρ
noncomputable def c6 (a:ck):ck:=fun ρ=>(a ρ).bind fun c=> .ok (!c)
theorem Ny {a b:ck}:mb (fB F (gp a b)) (HS (fB F a) (fB F b)):=by
 rintro σ H Q ⟨G,ρ,r,h⟩
 unfold gp at h
 refine ⟨G,ρ,r,?_⟩
 cases au:a ρ with
 | bad=>rw [au] at h; exact h.elim
 | exc c=>rw [au] at h; exact h
 | ok c=>
   rw [au,R.bH] at h
   intro H1 aQ av s1
   cases c with
   | true=>exact ⟨aQ,ρ,av,qH.mono s1 h⟩
   | false=>exact h H1 aQ av s1
theorem N4 {a b:ck}:mb (fB F (dY a b)) (H7 (fB F a) (fB F b)):=by
 rintro σ H Q ⟨G,ρ,r,h⟩
 unfold dY at h
 refine ⟨G,ρ,r,?_⟩
 cases au:a ρ with
 | bad=>rw [au] at h; exact h.elim
 | exc c=>rw [au] at h; exact h
 | ok c=>
   rw [au,R.bH] at h
   intro H1 aQ av s1
   cases c with
   | true=>exact h H1 aQ av s1
   | false=>exact ⟨aQ,ρ,av,qH.mono s1 h⟩
theorem N1 {a:ck}:mb (fB F (c6 a)) (H5 (fB F a)):=by
 rintro σ H Q ⟨G,ρ,r,h⟩
 unfold c6 at h
 refine ⟨G,ρ,r,?_⟩
 cases au:a ρ with
 | bad=>rw [au] at h; exact h.elim
 | exc c=>rw [au] at h; exact h
 | ok c=>rw [au,R.bH] at h; exact h
noncomputable def hI (a b:aE):aE:=fun ρ=>(a ρ).bind fun x=>(jZ x).bind fun c=>if c=true then b ρ else .ok (.aw false)
noncomputable def nY (a b:aE):aE:=fun ρ=>(a ρ).bind fun x=>(jZ x).bind fun c=>if c=true then .ok (.aw true) else b ρ
noncomputable def sS (a:aE):aE:=fun ρ=>(a ρ).bind fun x=>(jZ x).bind fun c=> .ok (.aw (!c))
theorem Nz {a b:aE}:ez (cR F (hI a b)) (HT (cR F a) (cR F b)):=by
 rintro σ H Q ⟨G,ρ,r,h⟩
 unfold hI at h
 refine ⟨G,ρ,r,?_⟩
 cases au:a ρ with
 | bad=>rw [au] at h; exact h.elim
 | exc c=>rw [au] at h; exact h
 | ok d=>
   rw [au,R.bH] at h
   intro x H1 aQ av s1 bY
   cases d with
   | aw c=>
     simp only [At] at bY
     refine ⟨c,bY,?_⟩
     cases c with
     | true=>exact ⟨aQ,ρ,av,iO.mono s1 h⟩
     | false=>exact h _ H1 aQ av s1 (by simp only [At])
   | _=>exact h.elim
theorem N5 {a b:aE}:ez (cR F (nY a b)) (H8 (cR F a) (cR F b)):=by
 rintro σ H Q ⟨G,ρ,r,h⟩
 unfold nY at h
 refine ⟨G,ρ,r,?_⟩
 cases au:a ρ with
 | bad=>rw [au] at h; exact h.elim
 | exc c=>rw [au] at h; exact h
 | ok d=>
   rw [au,R.bH] at h
   intro x H1 aQ av s1 bY
   cases d with
   | aw c=>
     simp only [At] at bY
     refine ⟨c,bY,?_⟩
     cases c with
     | false=>exact ⟨aQ,ρ,av,iO.mono s1 h⟩
     | true=>exact h _ H1 aQ av s1 (by simp only [At])
   | _=>exact h.elim
theorem N2 {a:aE}:ez (cR F (sS a)) (H6 (cR F a)):=by
 rintro σ H Q ⟨G,ρ,r,h⟩
 unfold sS at h
 refine ⟨G,ρ,r,?_⟩
 cases au:a ρ with
 | bad=>rw [au] at h; exact h.elim
 | exc c=>rw [au] at h; exact h
 | ok d=>
   rw [au,R.bH] at h
   intro x H1 aQ av s1 bY
   cases d with
   | aw c=>
     simp only [At] at bY
     exact ⟨c,bY,h _ H1 aQ av s1 (by simp only [At])⟩
   | _=>exact h.elim
noncomputable def lO (c:ck) (a b:aE):aE:=fun ρ=>(c ρ).bind fun k=>if k=true then a ρ else b ρ
theorem NR {c:ck} {a b:aE}:ez (cR F (lO c a b)) (HZ (fB F c) (cR F a) (cR F b)):=by
 rintro σ H Q ⟨G,ρ,r,h⟩
 unfold lO at h
 refine ⟨G,ρ,r,?_⟩
 cases au:c ρ with
 | bad=>rw [au] at h; exact h.elim
 | exc c=>rw [au] at h; exact h
 | ok k=>
   rw [au,R.bH] at h
   intro H1 aQ av s1
   cases k with
   | true=>exact ⟨aQ,ρ,av,iO.mono s1 h⟩
   | false=>exact ⟨aQ,ρ,av,iO.mono s1 h⟩
noncomputable def cF:aY:=fun ρ=> .ok (.aV ρ)
noncomputable def aK (a b:aY):aY:=fun ρ=>(a ρ).bind fun f=>match f with
 | .aV ρ'=>b ρ'
 | f=> .ok f
theorem N0:g8 (e1 F cF) Bn:=by
 rintro cJ σ H ⟨G,ρ,r,h⟩
 exact h σ G H r (Sub.refl _)
theorem Oa {a b:aY}:g8 (e1 F (aK a b)) (Bp (e1 F a) (e1 F b)):=by
 rintro cJ σ H ⟨G,ρ,r,h⟩
 unfold aK at h
 refine ⟨G,ρ,r,?_⟩
 cases au:a ρ with
 | bad=>rw [au] at h; exact h.elim
 | exc c=>rw [au] at h; exact h
 | ok f=>
   rw [au,R.bH] at h
   cases f with
   | aV ρ'=>exact fun σ' G' H' bf s'=>⟨G',ρ',bf,gZ.mono s' h⟩
   | dN d=>exact h
   | kl d=>exact h
   | ee d=>exact h
   | cL d=>exact h
   | lV d=>exact h
noncomputable def nV (a:aE):aY:=fun ρ=>(a ρ).bind fun _=> .ok (.aV ρ)
theorem NL {a:aE}:g8 (e1 F (nV a)) (Bl (cR F a)):=by
 rintro cJ σ H ⟨G,ρ,r,h⟩
 unfold nV at h
 refine ⟨G,ρ,r,?_⟩
 cases au:a ρ with
 | bad=>rw [au] at h; exact h.elim
 | exc c=>rw [au] at h; exact h
 | ok d=>rw [au,R.bH] at h; exact fun v H' G' bf s' _=>h σ G' H' bf s'.g
noncomputable def bS (a:aE):aY:=fun ρ=>(a ρ).bind fun d=> .ok (.dN d)
theorem N8 {a:aE}:g8 (e1 F (bS a)) (xl (cR F a)):=by
 rintro cJ σ H ⟨G,ρ,r,h⟩
 unfold bS at h
 refine ⟨G,ρ,r,?_⟩
 cases au:a ρ with
 | bad=>rw [au] at h; exact h.elim
 | exc c=>rw [au] at h; exact h
 | ok d=>rw [au,R.bH] at h; exact fun v H' G' bf s' a=>h v G' H' bf.aI a
noncomputable def iS (a:bh):aY:=fun ρ=>(a ρ).bind fun d=> .ok (.kl d)
theorem N9 {a:bh}:g8 (e1 F (iS a)) (xl (jS F a)):=by
 rintro cJ σ H ⟨G,ρ,r,h⟩
 unfold iS at h
 refine ⟨G,ρ,r,?_⟩
 cases au:a ρ with
 | bad=>rw [au] at h; exact h.elim
 | exc c=>rw [au] at h; exact h
 | ok d=>rw [au,R.bH] at h; exact fun a xs H' G' bf s' h1 h2 h3 h4=>h a xs G' H' bf.aI h3 (r.aI.hh.gone h1) h2 h4
noncomputable def pq (i:Nat):bh:=fun ρ=>match ρ[i]? with
 | some (.a3 (.lst d))=> .ok d
 | _=> .bad
theorem N_ (i:Nat):g8 (e1 F (iS (pq i))) (xl (Bs i)):=by
 rintro cJ σ H ⟨G,ρ,r,h⟩
 unfold iS pq at h
 cases e:ρ[i]? with
 | none=>rw [e] at h; exact h.elim
 | some s=>
   rw [e] at h
   cases s with
   | un=>exact h.elim
   | J _=>exact h.elim
   | fN _=>exact h.elim
   | a3 o=>
     cases o with
     | lst ds=>
       obtain ⟨a,xs,ar,h1,h2,h3,h4⟩:=r.own e
       exact ⟨.ref a,ar,h a xs G H r.aI h2 h3 h1 h4⟩
     | a0 _ _=>exact h.elim
     | ins _ _ _=>exact h.elim
noncomputable def cx (c:ck) (a b:aY):aY:=fun ρ=>(c ρ).bind fun k=>if k=true then a ρ else b ρ
theorem NS {c:ck} {a b:aY}:g8 (e1 F (cx c a b)) (Bm (fB F c) (e1 F a) (e1 F b)):=by
 rintro cJ σ H ⟨G,ρ,r,h⟩
 unfold cx at h
 refine ⟨G,ρ,r,?_⟩
 cases au:c ρ with
 | bad=>rw [au] at h; exact h.elim
 | exc c=>rw [au] at h; exact h
 | ok k=>
   rw [au,R.bH] at h
   intro H1 aQ av s1
   cases k with
   | true=>exact ⟨aQ,ρ,av,gZ.mono s1.g h⟩
   | false=>exact ⟨aQ,ρ,av,gZ.mono s1.g h⟩
noncomputable def aJ (i:Nat) (d:D) (ρ:az):R az:=if i < ρ.length then .ok (ρ.set i (.J d)) else .bad
noncomputable def b6 (i:Nat) (a:aE):aY:=fun ρ=>(a ρ).bind fun d=>(aJ i d ρ).bind fun ρ'=> .ok (.aV ρ')
theorem Ob {i:Nat} {a:aE}:g8 (e1 F (b6 i a)) (oj (cR F a) (jB i)):=by
 rintro cJ σ H ⟨G,ρ,r,h⟩
 unfold b6 aJ at h
 refine ⟨G,ρ,r,?_⟩
 cases au:a ρ with
 | bad=>rw [au] at h; exact h.elim
 | exc c=>rw [au] at h; exact h
 | ok d=>
   rw [au,R.bH] at h
   intro v H1 aQ av s1 bo
   by_cases hi:i < ρ.length
   · rw [if_pos hi] at h
     exact h _ aQ H1 (av.set hi bo) s1.g
   · rw [if_neg hi] at h; exact h.elim
noncomputable def d5 (i:Nat) (a:bh):aY:=fun ρ=>(a ρ).bind fun ds=>if i < ρ.length then .ok (.aV (ρ.set i (.cD ds))) else .bad
theorem Fi {i:Nat} {a:bh}:g8 (e1 F (d5 i a)) (oj (jS F a) (jB i)):=by
 rintro cJ σ H ⟨G,ρ,r,h⟩
 unfold d5 at h
 refine ⟨G,ρ,r,?_⟩
 cases au:a ρ with
 | bad=>rw [au] at h; exact h.elim
 | exc c=>rw [au] at h; exact h
 | ok ds=>
   rw [au,R.bH] at h
   intro b xs H1 aQ av s1 h1 h2 h3 h4
   by_cases hi:i < ρ.length
   · rw [if_pos hi] at h
     exact h _ aQ H1 (av.Ub hi h2 h3 (r.aI.hh.gone h1) h4 fun j aq o _ ar aG f=>dK.fresh r s1.h h1 ⟨j,aq,o,ar,aG,f⟩) s1.g
   · rw [if_neg hi] at h; exact h.elim
noncomputable def sa (i:Nat) (ρ:az):az:=match ρ[i]? with
 | some (.a3 o)=>ρ.set i (.J (n6 o))
 | _=>ρ
theorem Rel.sa {G H:ao} {σ :St} {ρ:az} (r:Rel F G H σ ρ) (i:Nat):∃G',Rel F G' H σ (aD.sa i ρ)∧Sub G G':=by
 unfold aD.sa
 cases e:ρ[i]? with
 | none=>exact ⟨G,r,Sub.refl _⟩
 | some s=>
   cases s with
   | un=>exact ⟨G,r,Sub.refl _⟩
   | J _=>exact ⟨G,r,Sub.refl _⟩
   | fN _=>exact ⟨G,r,Sub.refl _⟩
   | a3 o=>exact r.jA e
noncomputable def gr:D→Bool
 | .non=>true | .aw _=>true | .int _=>true | .str _=>true
 | _=>false
theorem At.Hu {K:PySem.W.Frag} {G G':ao} {d:D} {v:V} (h:gr d=true) (a:At K G d v):At K G' d v:=by
 cases d <;> first
  | (simp only [At] at a ⊢; exact a)
  | (cases h)
noncomputable def yU:bM→bM
 | .a3 o=> .J (n6 o)
 | .fN t=> .J (toD t)
 | s=>s
noncomputable def et (ρ:az):az:=ρ.map yU
open Classical in
noncomputable def j3 (σ :St) (ρ:az) (G H:ao):ao:=fun b=>if dK H σ ρ b then H b else G b
theorem yV {G H:ao} {σ :St} {ρ:az} (r:Rel F G H σ ρ):Sub G (j3 σ ρ G H):=fun b o e=>by
 unfold j3
 split
 · exact r.aI.sub b o e
 · exact e
theorem se {G H:ao} {σ :St} {ρ:az} {b:Addr} (h:dK H σ ρ b):j3 σ ρ G H b=H b:=by
 unfold j3
 rw [if_pos h]
theorem Mn {H:ao} {ρ:az} {i:Nat} {s:bM} (e:(et ρ)[i]? =some s) (o:Option V) (a:Addr):¬ fT H s o a:=by
 unfold et at e
 rw [List.getElem?_map] at e
 cases aG:ρ[i]? with
 | none=>rw [aG] at e; cases e
 | some t=>
   rw [aG] at e
   have aq:yU t=s:=Option.some.inj e
   subst aq
   cases t <;> exact fun z=>z
theorem Rel.plus {G H:ao} {σ :St} {ρ:az} (r:Rel F G H σ ρ):Rel F (j3 σ ρ G H) H σ (et ρ):=by
 have a5:=yV r
 refine ⟨⟨fun b o e=>?_,r.aI.eC.trans a5,r.aI.hh,fun b hb=>?_⟩,by simp [et,r.len],fun i s e=>?_,fun i j a s s' o b_ ar _ _ _ f _=>absurd f (Mn ar o a)⟩
 · unfold j3 at e
   split at e
   · exact e
   · exact r.aI.sub b o e
 · unfold j3
   split
   · rename_i z
     exact absurd (r.foot z).2.2 hb
   · exact r.aI.new b hb
 · unfold et at e
   rw [List.getElem?_map] at e
   cases ar:ρ[i]? with
   | none=>rw [ar] at e; cases e
   | some t=>
     rw [ar] at e
     have aq:yU t=s:=Option.some.inj e
     obtain ⟨o,aG,q⟩:=r.cB i t ar
     refine ⟨o,aG,?_⟩
     subst aq
     cases t with
     | un=>trivial
     | J d=>obtain ⟨v,cM,a⟩:=q; exact ⟨v,cM,a.mono a5⟩
     | a3 ds=>
       obtain ⟨a,ho,cM,h1,h2,h3,h4⟩:=q
       subst cM
       exact ⟨.ref a,rfl,(h4.mono a5).at (by rw [se (.a3 ar aG)]; exact h1)⟩
     | fN t=>
       obtain ⟨v,cM,q⟩:=q
       exact ⟨v,cM,q.at_.view a5 fun a ha=>se ⟨i,_,o,ar,aG,v,cM,ha⟩⟩
theorem Rel.back {G H G' H':ao} {σ :St} {ρ:az} (r:Rel F G H σ ρ) (bf:Rel F G' H' σ (et ρ)) (s:Sub (j3 σ ρ G H) G'):Rel F G H' σ ρ:=
 r.over rfl ⟨(yV r).trans (s.trans bf.aI.sub),r.aI.eC,bf.aI.hh,r.aI.new⟩ (Sub.refl _) fun a ha=>by
   obtain ⟨h1,h2,h3⟩:=r.foot ha
   refine ⟨?_,h2,h3⟩
   cases e:H a with
   | none=>exact absurd e h1
   | some o=>exact bf.aI.sub _ _ (s _ _ (by rw [se ha]; exact e))
noncomputable def Gl (d:D):R D:=if gr d=true then .ok d else .bad
noncomputable def jG (m:aE):aE:=fun ρ=>(m (et ρ)).bind Gl
theorem NA {m:aE}:ez (cR F (jG m)) (cR F m):=by
 rintro σ H Q ⟨G,ρ,r,h⟩
 refine ⟨j3 σ ρ G H,et ρ,r.plus,?_⟩
 unfold jG Gl at h
 cases au:m (et ρ) with
 | bad=>rw [au] at h; exact h.elim
 | exc c=>rw [au] at h; exact h
 | ok d=>
   rw [au,R.bH] at h
   intro v H' G' bf s' a
   by_cases hd:gr d=true
   · rw [if_pos hd] at h
     exact h v H' G (r.back bf s'.g) ⟨Sub.refl _,s'.h,fun _ _=>rfl⟩ (a.Hu hd)
   · rw [if_neg hd] at h; exact h.elim
noncomputable def hJ (m:ck):ck:=fun ρ=>m (et ρ)
theorem NC {m:ck}:mb (fB F (hJ m)) (fB F m):=by
 rintro σ H Q ⟨G,ρ,r,h⟩
 refine ⟨j3 σ ρ G H,et ρ,r.plus,?_⟩
 unfold hJ at h
 cases au:m (et ρ) with
 | bad=>rw [au] at h; exact h.elim
 | exc c=>rw [au] at h; exact h
 | ok d=>
   rw [au] at h
   exact fun H' G' bf s'=>h H' G (r.back bf s'.g) ⟨Sub.refl _,s'.h,fun _ _=>rfl⟩
end
end aD
set_option Elab.async false
set_option linter.all false
namespace aD
open PySem bb
section
variable {F:bx}
structure lh (K:PySem.W.Frag) (bJ:It) (ds:List D) (G:ao):Prop where
 go:∀(i:Nat) (H:ao),Sub G H→i < ds.length→bJ.go i H
 jn:∀(i:Nat) (H:ao) (x:V) (H':ao),Sub G H→i < ds.length→bJ.jn i H x H'→∃d,ds[i]? =some d∧
  ((H'=H∧At K G d x)∨∃p xs aq,H p=none∧H'=upd H p (.tup xs)∧x= .ref p∧d= .tup aq∧aN K G aq xs)
 stop:∀(H:ao),Sub G H→bJ.stop ds.length H
noncomputable def O3 (F:bx) (G H:ao) (σ :St) (ρ:az) (Q:It→ao→Prop):R (List D)→Prop
 | .ok ds=>∀bJ H' G',Rel F G' H' σ ρ→cz G H G' H'→lh F.K bJ ds G'→Q bJ H'
 | .exc c=>ke F c
 | .bad=>False
noncomputable def ko (F:bx) (m:bh):TI:=fun σ H Q=>∃G ρ,Rel F G H σ ρ∧O3 F G H σ ρ Q (m ρ)
noncomputable abbrev nq (t' t:TI):Prop:=∀ σ H Q,t' σ H Q→t σ H Q
theorem lh.turn {bJ:It} {ds:List D} {G aQ H H':ao} {σ :St} {ρ:az} {i:Nat} {x:V} (t:lh F.K bJ ds G) (r:Rel F aQ H σ ρ) (s:Sub G aQ) (hi:i < ds.length) (y:bJ.jn i H x H') :
  ∃d G',ds[i]? =some d∧Rel F G' H' σ ρ∧cz aQ H G' H'∧At F.K G' d x:=by
 obtain ⟨d,e,h⟩:=t.jn i H x H' (s.trans r.aI.sub) hi y
 rcases h with ⟨rfl,a⟩ | ⟨p,xs,aq,hp,rfl,rfl,rfl,a⟩
 · exact ⟨d,aQ,e,r,cz.refl _ _,a.mono s⟩
 · refine ⟨_,_,e,r.lay hp,cz.lay r.aI.sub hp,?_⟩
   simp only [At]
   exact ⟨p,xs,rfl,en,(a.mono s).mono (Sub.upd (r.aI.sub.gone hp))⟩
noncomputable def nk (F:bx) (g:hS) (set:D→az→R az):Prop:=∀ σ ρ G H v d Q ρ',Rel F G H σ ρ→At F.K G d v→set d ρ= .ok ρ'→(∀ σ',Rel F G H σ' ρ'→Q σ' H)→g v σ H Q
theorem vy (i:Nat):nk F (jB i) (aJ i):=by
 intro σ ρ G H v d Q ρ' r a e h
 unfold aJ at e
 by_cases hi:i < ρ.length
 · rw [if_pos hi] at e
   cases e
   exact h _ (r.set hi a)
 · rw [if_neg hi] at e; cases e
noncomputable def jk:List (D→az→R az)→List D→az→R az
 | [],[],ρ=> .ok ρ
 | f::aW,d::ds,ρ=>(f d ρ).bind fun ρ'=>jk aW ds ρ'
 | _,_,_=> .bad
noncomputable def rE (F:bx) (g:lp) (set:List D→az→R az):Prop:=∀ σ ρ G H vs ds Q ρ',Rel F G H σ ρ→aN F.K G ds vs→set ds ρ= .ok ρ'→(∀ σ',Rel F G H σ' ρ'→Q σ' H)→g vs σ H Q
theorem EB:rE F vw (jk []):=by
 intro σ ρ G H vs ds Q ρ' r a e h
 cases ds with
 | nil=>
   simp only [aN] at a
   cases e
   exact ⟨a,h σ r⟩
 | cons d ds=>cases e
theorem yW {g:hS} {mA:lp} {f:D→az→R az} {aW:List (D→az→R az)} (h1:nk F g f) (h2:rE F mA (jk aW)):rE F (sd g mA) (jk (f::aW)):=by
 intro σ ρ G H vs ds Q ρ' r a e h
 cases ds with
 | nil=>cases e
 | cons d ds=>
   simp only [aN] at a
   obtain ⟨v,xv,rfl,bo,kA⟩:=a
   simp only [jk] at e
   cases ar:f d ρ with
   | bad=>rw [ar] at e; cases e
   | exc c=>rw [ar] at e; cases e
   | ok d9=>
     rw [ar,R.bH] at e
     refine ⟨v,xv,rfl,h1 σ ρ G H v d _ d9 r bo ar fun σ1 av=>?_⟩
     exact h2 σ1 d9 G H xv ds Q ρ' av kA e h
noncomputable def d6 (aW:List (D→az→R az)):D→az→R az
 | .tup ds,ρ=>jk aW ds ρ
 | _,_=> .bad
theorem HA:∀{aW:List (D→az→R az)} {ds:List D} {ρ ρ':az},jk aW ds ρ= .ok ρ'→ds.length=aW.length
 | [],[],_,_,_=>rfl
 | [],_::_,_,_,e=>by cases e
 | _::_,[],_,_,e=>by cases e
 | f::aW,d::ds,ρ,ρ',e=>by
   simp only [jk] at e
   cases ar:f d ρ with
   | bad=>rw [ar] at e; cases e
   | exc c=>rw [ar] at e; cases e
   | ok d9=>
     rw [ar,R.bH] at e
     simp [HA e]
theorem EC {mA:lp} {aW:List (D→az→R az)} {n:Nat} (aC:n=aW.length) (h:rE F mA (jk aW)):nk F (vx F.K n mA) (d6 aW):=by
 intro σ ρ G H v d Q ρ' r a e k
 cases d with
 | tup ds=>
   simp only [At] at a
   obtain ⟨p,xs,rfl,aO,al⟩:=a
   refine ⟨p,xs,rfl,cK.of (r.aI.sub _ _ aO),?_,h σ ρ G H xs ds Q ρ' r al e k⟩
   rw [←al.length,aC]; exact HA e
 | _=>cases e
noncomputable def dQ (set:D→az→R az) (body:aY):List D→az→R l9
 | [],ρ=> .ok (.aV ρ)
 | d::ds,ρ=>(set d ρ).bind fun d9=>(body d9).bind fun f=>match f with
   | .aV ep=>dQ set body ds ep
   | .cL ep=>dQ set body ds ep
   | .ee ep=> .ok (.aV ep)
   | f=> .ok f
noncomputable def fc (mi:bh) (set:D→az→R az) (body:aY):aY:=fun ρ=>(mi ρ).bind fun ds=>dQ set body ds ρ
theorem NO {mi:bh} {set:D→az→R az} {body:aY} {g:hS} (hg:nk F g set) (hx:∀d ρ c,set d ρ≠ .exc c):g8 (e1 F (fc mi set body)) (HY (ko F mi) g (e1 F body)):=by
 rintro cJ σ H ⟨G,ρ,r,h⟩
 unfold fc at h
 refine ⟨G,ρ,r,?_⟩
 cases au:mi ρ with
 | bad=>rw [au] at h; exact h.elim
 | exc c=>rw [au] at h; exact h
 | ok ds=>
   rw [au,R.bH] at h
   intro bJ H1 aQ av s1 it
   refine ⟨fun i m σ2 aT=>m=ds.length - i∧i≤ds.length∧∃c4 ep,Rel F c4 aT σ2 ep∧Sub aQ c4∧gZ F c4 cJ (dQ set body (ds.drop i) ep),⟨ds.length,by simp,Nat.zero_le _,aQ,ρ,av,Sub.refl _,gZ.mono s1.g (by simpa using h)⟩,?_⟩
   rintro i m σ2 aT ⟨rfl,hi,c4,ep,bl,s2,k2⟩
   by_cases hY:i < ds.length
   · refine .inr ⟨it.go i aT (s2.trans bl.aI.sub) hY,fun σ3 di=>∃gd xI,Rel F gd di σ3 xI∧Sub aQ gd∧gZ F gd cJ (dQ set body (ds.drop (i + 1)) xI),fun σ3 di ⟨gd,xI,ei,s3,k3⟩=>⟨ds.length - (i + 1),by omega,rfl,hY,gd,xI,ei,s3,k3⟩,fun x di y=>?_⟩
     obtain ⟨d,gd,cM,ei,s3,fY⟩:=it.turn bl s2 hY y
     have hn:ds.drop i=d::ds.drop (i + 1):=by
      rw [List.drop_eq_getElem_cons hY]
      have:=List.getElem?_eq_getElem hY
      rw [cM] at this
      rw [Option.some.inj this]
     rw [hn] at k2
     simp only [dQ] at k2
     cases eF:set d ep with
     | bad=>rw [eF] at k2; exact k2.elim
     | exc c=>exact absurd eF (hx d ep c)
     | ok iv=>
       rw [eF,R.bH] at k2
       refine hg σ2 ep gd di x d _ iv ei fY eF fun σ5 pH=>⟨gd,iv,pH,?_⟩
       have tp:Sub c4 gd:=s3.g
       cases jx:body iv with
       | bad=>rw [jx] at k2; exact k2.elim
       | exc c=>rw [jx] at k2; exact k2
       | ok f=>
         rw [jx,R.bH] at k2
         cases f with
         | aV nf=>exact fun σ7 kv fU i0 dz=>⟨kv,nf,i0,s2.trans (tp.trans dz),gZ.mono (tp.trans dz) k2⟩
         | cL nf=>exact fun σ7 kv fU i0 dz=>⟨kv,nf,i0,s2.trans (tp.trans dz),gZ.mono (tp.trans dz) k2⟩
         | ee nf=>exact fun σ7 kv fU i0 dz=>k2 σ7 kv fU i0 (tp.trans dz)
         | dN d=>exact k2
         | kl ds=>exact k2
         | lV t=>exact k2
   · have e:ds.drop i=[]:=List.drop_eq_nil_of_le (by omega)
     rw [e] at k2
     have hq:i=ds.length:=by omega
     subst hq
     exact .inl ⟨it.stop aT (s2.trans bl.aI.sub),k2 σ2 c4 aT bl (Sub.refl _)⟩
theorem w_ (i:Nat):∀d ρ c,aJ i d ρ≠ .exc c:=fun d ρ c=>by
 unfold aJ
 split <;> exact fun z=>nomatch z
theorem HB:∀{aW:List (D→az→R az)},(∀f∈aW,∀d ρ c,f d ρ≠ .exc c)→∀ds ρ c,jk aW ds ρ≠ .exc c
 | [],_,[],_,_,e=>nomatch e
 | [],_,_::_,_,_,e=>nomatch e
 | _::_,_,[],_,_,e=>nomatch e
 | f::aW,h,d::ds,ρ,c,e=>by
   simp only [jk] at e
   cases ar:f d ρ with
   | bad=>rw [ar] at e; cases e
   | exc c=>exact h f (by simp) d ρ c ar
   | ok d9=>rw [ar,R.bH] at e; exact HB (fun g hg=>h g (by simp [hg])) ds d9 c e
theorem HD {aW:List (D→az→R az)} (h:∀f∈aW,∀d ρ c,f d ρ≠ .exc c):∀d ρ c,d6 aW d ρ≠ .exc c:=fun d ρ c e=>by
 cases d <;> first
  | (exact HB h _ _ _ e)
  | (cases e)
theorem Fu {K:PySem.W.Frag} {G:ao} {a:Addr} {xs:List V} {ds:List D} (h:b4 K G a xs) (q:aN K G ds xs):lh K (xV K a) ds G where
 go:=fun i H s hi=>by
  obtain ⟨v,e,_⟩:=q.get (List.getElem?_eq_getElem hi)
  exact ⟨xs,v,b4.mono s h,e⟩
 jn:=fun i H x H' s hi y=>by
  obtain ⟨rfl,y⟩:=y
  obtain ⟨d,e,a⟩:=q.vz (y xs (b4.mono s h))
  exact ⟨d,e,.inl ⟨rfl,a⟩⟩
 stop:=fun H s=>⟨xs,b4.mono s h,by rw [←q.length]; exact Nat.le_refl _⟩
theorem Fw {K:PySem.W.Frag} {G:ao} {a:Addr} {xs:List V} {ds:List D} (h:cK K G a xs) (q:aN K G ds xs):lh K (xX K a) ds G where
 go:=fun i H s hi=>by
  obtain ⟨v,e,_⟩:=q.get (List.getElem?_eq_getElem hi)
  exact ⟨xs,v,cK.mono s h,e⟩
 jn:=fun i H x H' s hi y=>by
  obtain ⟨rfl,y⟩:=y
  obtain ⟨d,e,a⟩:=q.vz (y xs (cK.mono s h))
  exact ⟨d,e,.inl ⟨rfl,a⟩⟩
 stop:=fun H s=>⟨xs,cK.mono s h,by rw [←q.length]; exact Nat.le_refl _⟩
noncomputable def lU (lo:Int) (n:Nat):List D:=(List.range n).map fun (i:Nat)=> .int (lo + (i:Int))
theorem Fv {K:PySem.W.Frag} {G:ao} (lo:Int) (n:Nat):lh K (rG lo n) (lU lo n) G where
 go:=fun i H s hi=>by
  have h:i < n:=by simpa [lU] using hi
  exact h
 jn:=fun i H x H' s hi y=>by
  have h:i < n:=by simpa [lU] using hi
  obtain ⟨ar,aG⟩:=y
  refine ⟨.int (lo + (i:Int)),?_,.inl ⟨ar,?_⟩⟩
  · unfold lU
    rw [List.getElem?_map,List.getElem?_range h]
    rfl
  · simp only [At]; exact aG
 stop:=fun H s=>by
  have h:n≤(lU lo n).length:=by simp [lU]
  exact h
noncomputable def Hy:D→R (List D)
 | .lst ds=> .ok ds
 | .b8 ds=> .ok ds
 | _=> .bad
noncomputable def Vi:D→R (List D)
 | .tup ds=> .ok ds
 | .eI ds=> .ok ds
 | _=> .bad
noncomputable def dX (m:aE):bh:=fun ρ=>(m ρ).bind Hy
theorem NV {m:aE}:nq (ko F (dX m)) (E4 F.K (cR F m)):=by
 rintro σ H Q ⟨G,ρ,r,h⟩
 unfold dX at h
 refine ⟨G,ρ,r,?_⟩
 cases au:m ρ with
 | bad=>rw [au] at h; exact h.elim
 | exc c=>rw [au] at h; exact h
 | ok d=>
   rw [au,R.bH] at h
   intro v H1 aQ av s1 a
   cases d with
   | lst ds=>
     simp only [At] at a
     obtain ⟨p,xs,e,aO,al⟩:=a
     exact ⟨p,e,⟨xs,b4.of (av.aI.sub _ _ aO)⟩,h _ H1 aQ av s1 (Fu (b4.of aO) al)⟩
   | b8 ds=>
     simp only [At] at a
     obtain ⟨p,xs,e,aO,al⟩:=a
     exact ⟨p,e,⟨xs,b4.mono av.aI.sub aO⟩,h _ H1 aQ av s1 (Fu aO al)⟩
   | _=>exact h.elim
noncomputable def qP (m:aE):bh:=fun ρ=>(m ρ).bind Vi
theorem Oi {m:aE}:nq (ko F (qP m)) (E8 F.K (cR F m)):=by
 rintro σ H Q ⟨G,ρ,r,h⟩
 unfold qP at h
 refine ⟨G,ρ,r,?_⟩
 cases au:m ρ with
 | bad=>rw [au] at h; exact h.elim
 | exc c=>rw [au] at h; exact h
 | ok d=>
   rw [au,R.bH] at h
   intro v H1 aQ av s1 a
   cases d with
   | tup ds=>
     simp only [At] at a
     obtain ⟨p,xs,e,aO,al⟩:=a
     exact ⟨p,e,⟨xs,cK.of (av.aI.sub _ _ aO)⟩,h _ H1 aQ av s1 (Fw (cK.of aO) al)⟩
   | eI ds=>
     simp only [At] at a
     obtain ⟨p,xs,e,aO,al⟩:=a
     exact ⟨p,e,⟨xs,cK.mono av.aI.sub aO⟩,h _ H1 aQ av s1 (Fw aO al)⟩
   | _=>exact h.elim
noncomputable def wX:List D→R (List D)
 | [.int j]=>if -(2 ^ 62)≤j∧j < 2 ^ 62 then .ok (lU 0 j.toNat) else .bad
 | _=> .bad
noncomputable def wY:List D→R (List D)
 | [.int i,.int j]=>if -(2 ^ 62)≤i∧i < 2 ^ 62∧ -(2 ^ 62)≤j∧j < 2 ^ 62 then .ok (lU i (j - i).toNat) else .bad
 | _=> .bad
theorem aN.ints1 {K:PySem.W.Frag} {G:ao} {j:Int} {vs:List V} (a:aN K G [.int j] vs):vs=[.int j]:=by
 simp only [aN,At] at a
 obtain ⟨v,r,rfl,rfl,rfl⟩:=a
 rfl
theorem aN.ints2 {K:PySem.W.Frag} {G:ao} {i j:Int} {vs:List V} (a:aN K G [.int i,.int j] vs):vs=[.int i,.int j]:=by
 simp only [aN,At] at a
 obtain ⟨v,r,rfl,rfl,v,r,rfl,rfl,rfl⟩:=a
 rfl
noncomputable def dU (m:bh):bh:=fun ρ=>(m ρ).bind wX
noncomputable def pk (m:bh):bh:=fun ρ=>(m ρ).bind wY
theorem N6 {m:bh}:nq (ko F (dU m)) (E5 (d8 F m)):=by
 rintro σ H Q ⟨G,ρ,r,h⟩
 unfold dU at h
 refine ⟨G,ρ,r,?_⟩
 cases au:m ρ with
 | bad=>rw [au] at h; exact h.elim
 | exc c=>rw [au] at h; exact h
 | ok ds=>
   rw [au,R.bH] at h
   intro vs H1 aQ av s1 a
   unfold wX at h
   split at h
   · rename_i j
     split at h
     · rename_i dx
       exact ⟨j,a.ints1,dx.1,dx.2,h _ H1 aQ av s1 (Fv 0 j.toNat)⟩
     · exact h.elim
   · exact h.elim
theorem N7 {m:bh}:nq (ko F (pk m)) (E6 (d8 F m)):=by
 rintro σ H Q ⟨G,ρ,r,h⟩
 unfold pk at h
 refine ⟨G,ρ,r,?_⟩
 cases au:m ρ with
 | bad=>rw [au] at h; exact h.elim
 | exc c=>rw [au] at h; exact h
 | ok ds=>
   rw [au,R.bH] at h
   intro vs H1 aQ av s1 a
   unfold wY at h
   split at h
   · rename_i i j
     split at h
     · rename_i dx
       exact ⟨i,j,a.ints2,dx,h _ H1 aQ av s1 (Fv i (j - i).toNat)⟩
     · exact h.elim
   · exact h.elim
inductive bR where
 | v (d:D) | o (ds:List D) | t (t:T)
noncomputable def O1 (F:bx) (Q:cW):R bR→Prop
 | .ok (.v d)=>∀v G' H',eb F G' H'→At F.K G' d v→Q v H'
 | .ok (.o ds)=>∀a xs G' H',eb F G' H'→G' a=none→F.bw a=none→H' a=some (.lst xs)→aN F.K G' ds xs→Q (.ref a) H'
 | .ok (.t t)=>∀v G' H',eb F G' H'→ui F G' H' t v→Q v H'
 | .exc c=>ke F c
 | .bad=>False
noncomputable def mU (K:PySem.W.Frag) (n:Nat) (xe:c8→Str→ao→Prop) (mf:List D→R bR):i9:=fun vs H Q E=>∃G ds,Sub G H∧aN K G ds vs∧ds.length=n∧O1 ⟨K,G,H,xe E⟩ Q (mf ds)
theorem xa {K:PySem.W.Frag} {n:Nat} {xe:c8→Str→ao→Prop} {mf:List D→R bR}:∀vs H Q E,mU K n xe mf vs H Q E→vs.length=n:=fun vs H Q E h=>by
 obtain ⟨G,ds,_,a,l,_⟩:=h
 rw [←a.length]; exact l
noncomputable def outD:l9→R bR
 | .aV _=> .ok (.v .non)
 | .dN d=> .ok (.v d)
 | .kl ds=> .ok (.o ds)
 | .lV t=> .ok (.t t)
 | _=> .bad
noncomputable def pa (N:Nat) (ds:List D):az:=ds.map .J ++ List.replicate (N - ds.length) .un
noncomputable def c5 (N:Nat) (m:aY) (ds:List D):R bR:=(m (pa N ds)).bind outD
noncomputable def xb (N:Nat) (vs:List V):St:=vs.map some ++ List.replicate (N - vs.length) none
theorem SS {K:PySem.W.Frag} {G H:ao} {g6:Str→ao→Prop} {N:Nat} {ds:List D} {vs:List V} (s:Sub G H) (a:aN K G ds vs):Rel ⟨K,G,H,g6⟩ G H (xb N vs) (pa N ds):=by
 have hl:=a.length
 refine ⟨⟨s,Sub.refl _,Sub.refl _,fun _ _=>rfl⟩,by simp [xb,pa,hl],fun i t e=>?_,fun i j b aq mz o b_ ar aG _ _ f _=>?_⟩
 · unfold pa at e
   unfold xb
   by_cases hi:i < ds.length
   · rw [List.getElem?_append_left (by simpa using hi),List.getElem?_map,List.getElem?_eq_getElem hi] at e
     obtain ⟨v,ar,bo⟩:=a.get (List.getElem?_eq_getElem hi)
     rw [List.getElem?_append_left (by rw [List.length_map,←hl]; exact hi),List.getElem?_map,ar]
     have yK:bM.J ds[i]=t:=Option.some.inj e
     subst yK
     exact ⟨some v,rfl,v,rfl,bo⟩
   · rw [List.getElem?_append_right (by simpa using hi),List.getElem?_replicate] at e
     rw [List.getElem?_append_right (by rw [List.length_map,←hl]; omega),List.getElem?_replicate,List.length_map,←hl]
     rw [List.length_map] at e
     split at e
     · rename_i hh
       rw [if_pos hh]
       cases e
       exact ⟨none,rfl,trivial⟩
     · cases e
 · exfalso
   unfold pa at ar
   by_cases hi:i < ds.length
   · rw [List.getElem?_append_left (by simpa using hi),List.getElem?_map,List.getElem?_eq_getElem hi] at ar
     cases ar; exact f
   · rw [List.getElem?_append_right (by simpa using hi),List.getElem?_replicate] at ar
     split at ar
     · cases ar; exact f
     · cases ar
theorem u_ {K:PySem.W.Frag} {xe:c8→Str→ao→Prop} {n N:Nat} {m:aY} {vs:List V} {H:ao} {Q:cW} {E:c8} (h:mU K n xe (c5 N m) vs H Q E) :
  ∃G,e1 ⟨K,G,H,xe E⟩ m { aV:=fun _ H'=>Q .non H',dN:=Q } (xb N vs) H:=by
 obtain ⟨G,ds,s,a,l,k⟩:=h
 refine ⟨G,G,pa N ds,SS s a,?_⟩
 unfold c5 at k
 cases e:m (pa N ds) with
 | bad=>rw [e] at k; exact k.elim
 | exc c=>rw [e] at k; exact k
 | ok f=>
   rw [e,R.bH] at k
   cases f with
   | aV ρ=>exact fun σ' G' H' r _=>k .non G' H' r.aI (by simp only [At])
   | dN d=>exact k
   | kl ds=>exact k
   | lV t=>exact k
   | ee ρ=>exact k.elim
   | cL ρ=>exact k.elim
theorem eb.of {G H G' H':ao} {σ :St} {ρ:az} {g6:Str→ao→Prop} (r:Rel F G H σ ρ) (k:eb ⟨F.K,G,H,g6⟩ G' H'):Rel F G' H' σ ρ:=r.grow k.eC k.sub k.hh fun b hb=>k.new b hb
noncomputable def kW:bR→R D
 | .v d=> .ok d
 | .o ds=> .ok (.lst ds)
 | .t t=> .ok (toD t)
noncomputable def tn:bR→R (List D)
 | .o ds=> .ok ds
 | _=> .bad
noncomputable def lF (A:List Addr) (G H:ao):ao:=fun b=>if b∈A then H b else G b
theorem Rel.Bt {G H b2 bw:ao} {σ :St} {ρ:az} (r:Rel F G H σ ρ) {F':bx} {t:T} {v:V} (hK:F'.K=F.K) (q:ui F' G H t v) (u:cz b2 bw G H) (n:∀b∈a6 H t v,bw b=none∧F.bw b=none∧¬ dK H σ ρ b) :
  Rel F (lF (a6 H t v) G H) H σ ρ∧cz b2 bw (lF (a6 H t v) G H) H∧At F.K (lF (a6 H t v) G H) (toD t) v:=by
 have a5:Sub G (lF (a6 H t v) G H):=fun b o e=>by
  unfold lF
  by_cases hb:b∈a6 H t v
  · rw [(q.own b hb).1] at e; cases e
  · rw [if_neg hb]; exact e
 refine ⟨r.over rfl ⟨fun b o e=>?_,r.aI.eC.trans a5,r.aI.hh,fun b hb=>?_⟩ a5 fun a ha=>?_,⟨u.g.trans a5,u.h,fun b hb=>?_⟩,?_⟩
 · unfold lF at e
   split at e
   · exact e
   · exact r.aI.sub b o e
 · unfold lF
   rw [if_neg (fun z=>hb (n b z).2.1)]
   exact r.aI.new b hb
 · obtain ⟨h1,h2,h3⟩:=r.foot ha
   refine ⟨rfl,?_,h3⟩
   unfold lF
   rw [if_neg (fun z=>(n a z).2.2 ha)]; exact h2
 · unfold lF
   rw [if_neg (fun z=>hb (n b z).1)]
   exact u.n b hb
 · rw [←hK]
   exact q.at_.view a5 fun a ha=>by unfold lF; rw [if_pos ha]
noncomputable def bc (n:Nat) (mf:List D→R bR) (m:bh):aE:=fun ρ=>(m ρ).bind fun ds=>if ds.length=n then (mf ds).bind kW else .bad
noncomputable def fb (n:Nat) (mf:List D→R bR) (m:bh):bh:=fun ρ=>(m ρ).bind fun ds=>if ds.length=n then (mf ds).bind tn else .bad
theorem Fb {n:Nat} {mf:List D→R bR} {m:bh} {xe:c8→Str→ao→Prop} {E:c8} (hx:F.g6=xe E):ez (cR F (bc n mf m)) (ri (mU F.K n xe mf) [] E (d8 F m)):=by
 rintro σ H Q ⟨G,ρ,r,h⟩
 unfold bc at h
 refine ⟨G,ρ,r,?_⟩
 cases au:m ρ with
 | bad=>rw [au] at h; exact h.elim
 | exc c=>rw [au] at h; exact h
 | ok ds=>
   rw [au,R.bH] at h
   intro vs H1 aQ av s1 a
   by_cases aC:ds.length=n
   · rw [if_pos aC] at h
     rw [List.append_nil]
     refine ⟨aQ,ds,av.aI.sub,a,aC,?_⟩
     cases e:mf ds with
     | bad=>rw [e] at h; exact h.elim
     | exc c=>
       rw [e] at h
       intro G' H' k
       have z:=h G' H' (eb.of av k).aI
       rw [hx] at z
       exact z
     | ok t=>
       rw [e,R.bH] at h
       cases t with
       | v d=>exact fun v G' H' k bo=>h v H' G' (eb.of av k) (s1.trans ⟨k.eC,k.hh,k.new⟩) bo
       | o aq=>
         intro p xs G' H' k h1 h2 h3 h4
         have h2:H1 p=none:=h2
         have bf:=eb.of av k
         have no:¬ dK H' σ ρ p:=dK.fresh av k.hh h2
         refine h (.ref p) H' _ (bf.take h3 h1 (av.aI.hh.gone h2) no) ((s1.trans ⟨k.eC,k.hh,k.new⟩).put (s1.h.gone h2) h1) ?_
         simp only [At]
         exact ⟨p,xs,rfl,en,h4.mono (Sub.upd h1)⟩
       | t t=>
         intro v G' H' k q
         obtain ⟨a1,a2,fY⟩:=(eb.of av k).Bt (F':=⟨F.K,aQ,H1,xe E⟩) rfl q (s1.trans ⟨k.eC,k.hh,k.new⟩) fun b hb=>⟨s1.h.gone (q.own b hb).2,av.aI.hh.gone (q.own b hb).2,dK.fresh av k.hh (q.own b hb).2⟩
         exact h v H' _ a1 a2 fY
   · rw [if_neg aC] at h; exact h.elim
theorem NF {n:Nat} {mf:List D→R bR} {m:bh} {xe:c8→Str→ao→Prop} {E:c8} (hx:F.g6=xe E):ez (jS F (fb n mf m)) (ri (mU F.K n xe mf) [] E (d8 F m)):=by
 rintro σ H Q ⟨G,ρ,r,h⟩
 unfold fb at h
 refine ⟨G,ρ,r,?_⟩
 cases au:m ρ with
 | bad=>rw [au] at h; exact h.elim
 | exc c=>rw [au] at h; exact h
 | ok ds=>
   rw [au,R.bH] at h
   intro vs H1 aQ av s1 a
   by_cases aC:ds.length=n
   · rw [if_pos aC] at h
     rw [List.append_nil]
     refine ⟨aQ,ds,av.aI.sub,a,aC,?_⟩
     cases e:mf ds with
     | bad=>rw [e] at h; exact h.elim
     | exc c=>
       rw [e] at h
       intro G' H' k
       have z:=h G' H' (eb.of av k).aI
       rw [hx] at z
       exact z
     | ok t=>
       rw [e,R.bH] at h
       cases t with
       | v d=>exact h.elim
       | t t=>exact h.elim
       | o aq=>
         intro p xs G' H' k h1 h2 h3 h4
         have h2:H1 p=none:=h2
         have bf:=eb.of av k
         exact h p xs H' G' bf (s1.trans ⟨k.eC,k.hh,k.new⟩) (s1.h.gone h2) h3 h1 h4
   · rw [if_neg aC] at h; exact h.elim
end
end aD
set_option Elab.async false
set_option linter.all false
set_option maxRecDepth 100000
namespace aD
open PySem PySem.Spec bb
noncomputable def yo:bM→bM
 | .J d=> .J d
 | _=> .un
noncomputable def oS (nl:Nat) (caps:List Nat) (ρ:az):az:=List.replicate nl .un ++ caps.map fun j=>yo (ρ.getD j .un)
noncomputable def dm (set:D→az→R az) (tst:ck) (elt:aE):List D→az→List D→R (List D)
 | [],_,ws=> .ok ws
 | d::ds,ρ,ws=>(set d ρ).bind fun d9=>(tst d9).bind fun b=>if b=true then (elt d9).bind fun y=>if ws.length < 1000000 then dm set tst elt ds d9 (ws ++ [y]) else .bad else dm set tst elt ds d9 ws
noncomputable def fo {α:Type}:R α→R α
 | .exc _=> .bad
 | r=>r
noncomputable def cY (nl:Nat) (caps:List Nat) (mi:bh) (set:D→az→R az) (tst:ck) (elt:aE):bh:=fun ρ=>(mi ρ).bind fun ds=>fo (dm set tst elt ds (oS nl caps ρ) [])
noncomputable def eP (K:PySem.W.Frag) (G H:ao):bx:=⟨K,G,H,fun _ _=>False⟩
noncomputable def BH (K:PySem.W.Frag) (m:ck):TT:=fun σ H Q=>∃b2 bw,fB (eP K b2 bw) m σ H Q
noncomputable def BG (K:PySem.W.Frag) (m:aE):TE:=fun σ H Q=>∃b2 bw,cR (eP K b2 bw) m σ H Q
noncomputable def GR:bM→Bool
 | .un=>true | .J _=>true
 | _=>false
theorem GS {H:ao} {s:bM} (h:GR s=true) (o:Option V) (a:Addr):¬ fT H s o a:=by
 cases s <;> first
  | exact fun z=>z
  | cases h
noncomputable def oK (ρ:az):Prop:=∀(i:Nat) (s:bM),ρ[i]? =some s→GR s=true
theorem F8 (nl:Nat) (caps:List Nat) (ρ:az):oK (oS nl caps ρ):=fun i s ar=>by
 unfold oS at ar
 by_cases hi:i < nl
 · rw [List.getElem?_append_left (by simpa using hi),List.getElem?_replicate,if_pos hi] at ar
   cases ar; rfl
 · rw [List.getElem?_append_right (by simpa using hi),List.length_replicate,List.getElem?_map] at ar
   cases hV:caps[i - nl]? with
   | none=>rw [hV] at ar; cases ar
   | some j=>
     rw [hV] at ar
     have aq:yo (ρ.getD j .un)=s:=Option.some.inj ar
     subst aq
     cases hs:ρ.getD j .un <;> rfl
noncomputable def Keeps (set:D→az→R az):Prop:=∀d ρ ρ',set d ρ= .ok ρ'→oK ρ→oK ρ'
theorem w9 (i:Nat):Keeps (aJ i):=fun d ρ ρ' e n j ds z=>by
 unfold aJ at e
 split at e
 · cases e
   rcases get_set z with ⟨_,z⟩ | ⟨_,z⟩
   · subst z; rfl
   · exact n j ds z
 · cases e
theorem Hz:∀{aW:List (D→az→R az)},(∀f∈aW,Keeps f)→∀ds ρ ρ',jk aW ds ρ= .ok ρ'→oK ρ→oK ρ'
 | [],_,[],_,_,e,n=>by cases e; exact n
 | [],_,_::_,_,_,e,_=>by cases e
 | _::_,_,[],_,_,e,_=>by cases e
 | f::aW,h,d::ds,ρ,ρ',e,n=>by
   simp only [jk] at e
   cases ar:f d ρ with
   | bad=>rw [ar] at e; cases e
   | exc c=>rw [ar] at e; cases e
   | ok d9=>rw [ar,R.bH] at e; exact Hz (fun g hg=>h g (by simp [hg])) ds d9 ρ' e (h f (by simp) d ρ d9 ar n)
theorem HC {aW:List (D→az→R az)} (h:∀f∈aW,Keeps f):Keeps (d6 aW):=fun d ρ ρ' e n=>by
 cases d <;> first
  | (exact Hz h _ _ _ e n)
  | (cases e)
section
variable {F:bx}
theorem SR {G H:ao} {σ :St} {ρ:az} (r:Rel F G H σ ρ) {acc:Addr} (ha:H acc=none) (nl:Nat) (caps:List Nat) :
  Rel (eP F.K G H) G (upd H acc (.lst [])) (lx nl caps σ) (oS nl caps ρ):=by
 refine ⟨⟨Sub.xu r.aI.sub (r.aI.sub.gone ha),Sub.refl _,Sub.upd ha,fun _ _=>rfl⟩,by simp [lx,oS],fun i s e=>?_,fun i j b s s' o b_ ar _ _ _ f _=>?_⟩
 · unfold oS at e
   unfold lx
   by_cases hi:i < nl
   · rw [List.getElem?_append_left (by simpa using hi),List.getElem?_replicate,if_pos hi] at e
     rw [List.getElem?_append_left (by simpa using hi),List.getElem?_replicate,if_pos hi]
     cases e
     exact ⟨none,rfl,trivial⟩
   · rw [List.getElem?_append_right (by simpa using hi),List.length_replicate,List.getElem?_map] at e
     rw [List.getElem?_append_right (by simpa using hi),List.length_replicate,List.getElem?_map]
     cases hV:caps[i - nl]? with
     | none=>rw [hV] at e; cases e
     | some j=>
       rw [hV] at e
       refine ⟨σ.getD j none,rfl,?_⟩
       have aq:yo (ρ.getD j .un)=s:=Option.some.inj e
       subst aq
       cases dn:ρ[j]? with
       | none=>
         have eg:ρ.getD j .un= .un:=by rw [List.getD_eq_getElem?_getD,dn]; rfl
         rw [eg]; exact trivial
       | some t=>
         have eg:ρ.getD j .un=t:=by rw [List.getD_eq_getElem?_getD,dn]; rfl
         rw [eg]
         obtain ⟨o,ar,q⟩:=r.cB j t dn
         cases t with
         | un=>exact trivial
         | a3 ds=>exact trivial
         | fN t=>exact trivial
         | J d=>
           obtain ⟨v,aG,a⟩:=q
           refine ⟨v,?_,a⟩
           rw [List.getD_eq_getElem?_getD,ar,aG]
           rfl
 · exact absurd f (GS (F8 nl caps ρ i s ar) o b)
theorem NG {nl:Nat} {caps:List Nat} {mi:bh} {set:D→az→R az} {tst:ck} {elt:aE} {g:hS} (hg:∀G H,nk (eP F.K G H) g set) (hx:∀d ρ c,set d ρ≠ .exc c) (hk:Keeps set) :
  ez (jS F (cY nl caps mi set tst elt)) (xj (ko F mi) g (BH F.K tst) (BG F.K elt) nl caps):=by
 rintro σ H Q ⟨G,ρ,r,h⟩
 unfold cY at h
 refine ⟨G,ρ,r,?_⟩
 cases au:mi ρ with
 | bad=>rw [au] at h; exact h.elim
 | exc c=>rw [au] at h; exact h
 | ok ds=>
   rw [au,R.bH] at h
   intro bJ H1 aQ av By it acc ha
   cases dn:dm set tst elt ds (oS nl caps ρ) [] with
   | bad=>rw [dn] at h; exact h.elim
   | exc c=>rw [dn] at h; exact h.elim
   | ok res=>
     rw [dn] at h
     refine ⟨fun i m σ2 aT=>m=ds.length - i∧i≤ds.length∧∃c4 ep ys ws,Rel (eP F.K aQ H1) c4 aT σ2 ep∧oK ep∧aT acc=some (.lst ys)∧c4 acc=none∧aN F.K c4 ws ys∧dm set tst elt (ds.drop i) ep ws= .ok res,
      ⟨ds.length,by simp,Nat.zero_le _,aQ,_,[],[],SR av ha nl caps,F8 _ _ _,en,av.aI.sub.gone ha,.nil,by simpa using dn⟩,?_⟩
     rintro i m σ2 aT ⟨rfl,hi,c4,ep,ys,ws,bl,dc,h1,h2,h3,h4⟩
     have a5:Sub aQ c4:=bl.aI.eC
     by_cases hY:i < ds.length
     · refine .inr ⟨it.go i aT (a5.trans bl.aI.sub) hY,fun x di y=>?_⟩
       obtain ⟨d,gd,cM,ei,lZ,fY⟩:=lh.turn (F:=eP F.K aQ H1) it bl a5 hY y
       have hn:ds.drop i=d::ds.drop (i + 1):=by
        rw [List.drop_eq_getElem_cons hY]
        have:=List.getElem?_eq_getElem hY
        rw [cM] at this
        rw [Option.some.inj this]
       rw [hn] at h4
       simp only [dm] at h4
       cases eF:set d ep with
       | bad=>rw [eF] at h4; cases h4
       | exc c=>exact absurd eF (hx d ep c)
       | ok iv=>
         rw [eF,R.bH] at h4
         refine hg aQ H1 σ2 ep gd di x d _ iv ei fY eF fun σ5 pH=>⟨aQ,H1,gd,iv,pH,?_⟩
         have ta:oK iv:=hk d ep iv eF dc
         have Ce:di acc=some (.lst ys):=lZ.h _ _ h1
         have g3:gd acc=none:=by rw [lZ.n acc (by rw [h1]; exact fun z=>nomatch z)]; exact h2
         cases gi:tst iv with
         | bad=>rw [gi] at h4; cases h4
         | exc c=>rw [gi] at h4; cases h4
         | ok b=>
           rw [gi,R.bH] at h4
           intro p0 t9 G1 Bz
           have x9:p0 acc=some (.lst ys):=Bz.h _ _ Ce
           have sb:t9 acc=none:=by rw [Bz.n acc (by rw [Ce]; exact fun z=>nomatch z)]; exact g3
           have p_:aN F.K t9 ws ys:=(h3.mono lZ.g).mono Bz.g
           cases b with
           | false=>
             rw [if_neg Bool.false_ne_true] at h4
             rw [if_neg Bool.false_ne_true]
             exact ⟨_,by omega,rfl,hY,t9,iv,ys,ws,G1,ta,x9,sb,p_,h4⟩
           | true=>
             rw [if_pos rfl] at h4
             rw [if_pos rfl]
             refine ⟨aQ,H1,t9,iv,G1,?_⟩
             cases yz:elt iv with
             | bad=>rw [yz] at h4; cases h4
             | exc c=>rw [yz] at h4; cases h4
             | ok y=>
               rw [yz,R.bH] at h4
               intro BW xS xQ q9 u8 x6
               have JK:xS acc=some (.lst ys):=u8.h _ _ x9
               have EA:xQ acc=none:=by rw [u8.n acc (by rw [x9]; exact fun z=>nomatch z)]; exact sb
               by_cases hl:ws.length < 1000000
               · rw [if_pos hl] at h4
                 have Cg:aN F.K xQ ws ys:=p_.mono u8.g
                 refine ⟨ys,JK,by rw [←Cg.length]; exact Nat.lt_trans hl (by decide),_,by omega,rfl,hY,xQ,iv,ys ++ [BW],ws ++ [y],?_,ta,en,EA,Cg.snoc x6,h4⟩
                 have k0:(eP F.K aQ H1).bw acc=none:=ha
                 refine ⟨⟨Sub.xu q9.aI.sub EA,q9.aI.eC,fun c o z=>?_,q9.aI.new⟩,q9.len,fun j t z=>?_,fun j k b s s' o b_ iu _ _ _ f _=>absurd f (GS (ta j s iu) o b)⟩
                 · rw [de (iU z k0)]; exact q9.aI.hh c o z
                 · obtain ⟨o,bO,bz⟩:=q9.cB j t z
                   refine ⟨o,bO,?_⟩
                   cases t with
                   | un=>exact trivial
                   | J d=>exact bz
                   | a3 aq=>exact absurd (ta j _ z) (fun w=>nomatch w)
                   | fN aq=>exact absurd (ta j _ z) (fun w=>nomatch w)
               · rw [if_neg hl] at h4; cases h4
     · have e:ds.drop i=[]:=List.drop_eq_nil_of_le (by omega)
       rw [e] at h4
       simp only [dm] at h4
       cases h4
       have hq:i=ds.length:=by omega
       subst hq
       refine .inl ⟨it.stop aT (a5.trans bl.aI.sub),?_⟩
       have k:eb ⟨F.K,aQ,H1,fun _ _=>False⟩ c4 aT:=bl.aI
       exact h acc ys aT c4 (eb.of av k) (By.trans ⟨k.eC,k.hh,k.new⟩) (By.h.gone ha) h1 h2 h3
end
end aD
set_option Elab.async false
set_option linter.all false
set_option maxRecDepth 100000
namespace aD
open PySem PySem.Spec bb
mutual
noncomputable def bA:D→D→Bool
 | .non,.non=>true
 | .aw a,.aw b=>a == b
 | .aw a,.int b=>(if a then 1 else 0) == b
 | .int a,.aw b=>a == (if b then 1 else 0)
 | .int a,.int b=>a == b
 | .str a,.str b=>a == b
 | .tup xs,.tup ys=>ef xs ys
 | .tup xs,.eI ys=>ef xs ys
 | .eI xs,.tup ys=>ef xs ys
 | .eI xs,.eI ys=>ef xs ys
 | .lst xs,.lst ys=>ef xs ys
 | .lst xs,.b8 ys=>ef xs ys
 | .b8 xs,.lst ys=>ef xs ys
 | .b8 xs,.b8 ys=>ef xs ys
 | _,_=>false
noncomputable def ef:List D→List D→Bool
 | [],[]=>true
 | x::xs,y::ys=>bA x y && ef xs ys
 | _,_=>false
end
noncomputable def okN:Nat→D→Bool
 | _,.non=>true
 | _,.aw _=>true
 | _,.int _=>true
 | _,.str _=>true
 | n + 1,.tup xs=>xs.all (okN n)
 | n + 1,.lst xs=>xs.all (okN n)
 | n + 1,.b8 xs=>xs.all (okN n)
 | _,_=>false
inductive jY (s:Shared) (P:D→Value→Prop):D→Value→Prop where
 | non:jY s P .non .none
 | aw (b:Bool):jY s P (.aw b) (.bool b)
 | int (i:Int) (t:Tok):jY s P (.int i) (.int i t)
 | str (x:Str) (t:Tok):jY s P (.str x) (.str x t)
 | tup (a:Addr) (ds:List D) (its:List Value) (h:s.heap.IsTuple a its.toArray) (l:ds.length=its.length) (p:∀(i:Nat) d u,ds[i]? =some d→its[i]? =some u→P d u):jY s P (.tup ds) (.ref a)
 | lst (a:Addr) (ds:List D) (its:List Value) (h:s.heap.IsList a its.toArray) (l:ds.length=its.length) (p:∀(i:Nat) d u,ds[i]? =some d→its[i]? =some u→P d u):jY s P (.lst ds) (.ref a)
 | b8 (a:Addr) (ds:List D) (its:List Value) (h:s.heap.IsList a its.toArray) (l:ds.length=its.length) (p:∀(i:Nat) d u,ds[i]? =some d→its[i]? =some u→P d u):jY s P (.b8 ds) (.ref a)
noncomputable def k_ (K:PySem.W.Frag) (G:ao) (d:D) (u:Value):Prop:=∃x,At K G d x∧RelV x u
section
variable {X:aL} {pins:List (Addr×Obj)} {σ :St} {H G:ao} {s:Shared}
theorem sE {K:PySem.W.Frag} {ds:List D} {xs:List V} {its:List Value} (q:aN K G ds xs) (r:Vals xs its):∀(i:Nat) d u,ds[i]? =some d→its[i]? =some u→k_ K G d u:=fun i d u ar aG=>by
 obtain ⟨v,cM,a⟩:=q.get ar
 obtain ⟨ih,eF,cq⟩:=r.get cM
 rw [aG] at eF; cases eF
 exact ⟨v,a,cq⟩
theorem og (ae:Inv X pins σ H s) (a5:Sub G H) {d:D} {u:Value} {n:Nat} (ok:okN n d=true) (h:k_ X.K G d u):jY s (k_ X.K G) d u:=by
 obtain ⟨x,a,r⟩:=h
 cases d with
 | non=>simp only [At] at a; subst a; cases r; exact .non
 | aw b=>simp only [At] at a; subst a; cases r; exact .aw b
 | int i=>simp only [At] at a; subst a; obtain ⟨t,rfl⟩:=r; exact .int i t
 | str i=>simp only [At] at a; subst a; obtain ⟨t,rfl⟩:=r; exact .str i t
 | tup ds=>
   simp only [At] at a
   obtain ⟨p,xs,rfl,aO,al⟩:=a
   cases r
   obtain ⟨its,cq,ht,_⟩:=ae.tuple (cK.of (a5 _ _ aO))
   exact .tup p ds its ht (al.length.trans cq.length) (sE al cq)
 | lst ds=>
   simp only [At] at a
   obtain ⟨p,xs,rfl,aO,al⟩:=a
   cases r
   obtain ⟨its,cq,ht,_⟩:=ae.list (b4.of (a5 _ _ aO))
   exact .lst p ds its ht.isList (al.length.trans cq.length) (sE al cq)
 | b8 ds=>
   simp only [At] at a
   obtain ⟨p,xs,rfl,aO,al⟩:=a
   cases r
   obtain ⟨its,cq,ht,_⟩:=ae.list (b4.mono a5 aO)
   exact .b8 p ds its ht.isList (al.length.trans cq.length) (sE al cq)
 | dg a_ xs=>cases n <;> cases ok
 | a0 a_ xs=>cases n <;> cases ok
 | ins C ns xs=>cases n <;> cases ok
 | gj C=>cases n <;> cases ok
 | eI xs=>cases n <;> cases ok
theorem yH:∀{xs ys:List D},xs.length≠ys.length→ef xs ys=false
 | [],[],h=>absurd rfl h
 | [],_::_,_=>by simp only [ef]
 | _::_,[],_=>by simp only [ef]
 | x::xs,y::ys,h=>by
   simp only [ef]
   rw [yH (fun e=>h (by simp [e])),Bool.and_false]
noncomputable def kM (xs ys:List D) (j:Nat):Bool:=match xs[j]?,ys[j]? with
 | some x,some y=>bA x y
 | _,_=>true
theorem JO (f:Nat→Bool) (n:Nat):(List.range (n + 1)).all f=(f 0 && (List.range n).all fun j=>f (j + 1)):=by
 rw [List.range_succ_eq_map,List.all_cons,List.all_map]
 rfl
theorem yI:∀{xs ys:List D},xs.length=ys.length→(List.range xs.length).all (kM xs ys)=ef xs ys
 | [],[],_=>by simp [ef]
 | [],_::_,h=>by simp at h
 | _::_,[],h=>by simp at h
 | x::xs,y::ys,h=>by
   rw [List.length_cons,JO]
   have e:(fun j=>kM (x::xs) (y::ys) (j + 1))=kM xs ys:=by
    funext j
    simp [kM]
   rw [e,yI (by simpa using h)]
   simp only [ef]
   rfl
theorem in1_units (A:Around):A.in1.units=A.units + 1:=rfl
theorem Hv {A:Around} {P:D→Value→Prop} {d1 cC:D} {u v:Value} (h1:jY s P d1 u) (h2:jY s P cC v) (c1:gr d1=true) (cQ:gr cC=true) :
  SeqAt.EqAt A s u v (bA d1 cC)∧SeqAt.RcAt A s u v (bA d1 cC)∧SeqAt.RcNeAt A s u v (!bA d1 cC):=by
 cases h1 with
 | non=>
   cases h2 with
   | non=>simp only [bA]; exact ⟨SeqAt.EqAt.same _,SeqAt.RcAt.none_none,SeqAt.RcNeAt.none_none⟩
   | aw fG=>simp only [bA]; exact ⟨SeqAt.EqAt.none_bool _,SeqAt.RcAt.none_bool _,SeqAt.RcNeAt.none_bool _⟩
   | int cc d7=>simp only [bA]; exact ⟨SeqAt.EqAt.none_int _ _,SeqAt.RcAt.none_int _ _,SeqAt.RcNeAt.none_int _ _⟩
   | str il d7=>simp only [bA]; exact ⟨SeqAt.EqAt.none_str _ _,SeqAt.RcAt.none_str _ _,SeqAt.RcNeAt.none_str _ _⟩
   | tup=>cases cQ
   | lst=>cases cQ
   | b8=>cases cQ
 | aw gh=>
   cases h2 with
   | non=>simp only [bA]; exact ⟨SeqAt.EqAt.bool_none _,SeqAt.RcAt.bool_none _,SeqAt.RcNeAt.bool_none _⟩
   | aw fG=>simp only [bA]; exact ⟨SeqAt.EqAt.bool_bool _ _,SeqAt.RcAt.bool_bool _ _,SeqAt.RcNeAt.bool_bool _ _⟩
   | int cc d7=>simp only [bA]; exact ⟨SeqAt.EqAt.bool_int _ _ _,SeqAt.RcAt.bool_int _ _ _,SeqAt.RcNeAt.bool_int _ _ _⟩
   | str il d7=>simp only [bA]; exact ⟨SeqAt.EqAt.bool_str _ _ _,SeqAt.RcAt.bool_str _ _ _,SeqAt.RcNeAt.bool_str _ _ _⟩
   | tup=>cases cQ
   | lst=>cases cQ
   | b8=>cases cQ
 | int cA t1=>
   cases h2 with
   | non=>simp only [bA]; exact ⟨SeqAt.EqAt.int_none _ _,SeqAt.RcAt.int_none _ _,SeqAt.RcNeAt.int_none _ _⟩
   | aw fG=>simp only [bA]; exact ⟨SeqAt.EqAt.int_bool _ _ _,SeqAt.RcAt.int_bool _ _ _,SeqAt.RcNeAt.int_bool _ _ _⟩
   | int cc d7=>simp only [bA]; exact ⟨SeqAt.EqAt.int_int _ _ _ _,SeqAt.RcAt.int_int _ _ _ _,SeqAt.RcNeAt.int_int _ _ _ _⟩
   | str il d7=>simp only [bA]; exact ⟨SeqAt.EqAt.int_str _ _ _ _,SeqAt.RcAt.int_str _ _ _ _,SeqAt.RcNeAt.int_str _ _ _ _⟩
   | tup=>cases cQ
   | lst=>cases cQ
   | b8=>cases cQ
 | str gO t1=>
   cases h2 with
   | non=>simp only [bA]; exact ⟨SeqAt.EqAt.str_none _ _,SeqAt.RcAt.str_none _ _,SeqAt.RcNeAt.str_none _ _⟩
   | aw fG=>simp only [bA]; exact ⟨SeqAt.EqAt.str_bool _ _ _,SeqAt.RcAt.str_bool _ _ _,SeqAt.RcNeAt.str_bool _ _ _⟩
   | int cc d7=>simp only [bA]; exact ⟨SeqAt.EqAt.str_int _ _ _ _,SeqAt.RcAt.str_int _ _ _ _,SeqAt.RcNeAt.str_int _ _ _ _⟩
   | str il d7=>simp only [bA]; exact ⟨SeqAt.EqAt.str_str _ _ _ _,SeqAt.RcAt.str_str _ _ _ _,SeqAt.RcNeAt.str_str _ _ _ _⟩
   | tup=>cases cQ
   | lst=>cases cQ
   | b8=>cases cQ
 | tup=>cases c1
 | lst=>cases c1
 | b8=>cases c1
theorem F3 {A:Around} {P:D→Value→Prop} {d1 cC:D} {u v:Value} (hu:A.units < cLine) (h1:jY s P d1 u) (h2:jY s P cC v) (o:gr d1=true∧gr cC=false∨gr d1=false∧gr cC=true) :
  SeqAt.EqAt A s u v (bA d1 cC)∧SeqAt.RcAt A s u v (bA d1 cC)∧SeqAt.RcNeAt A s u v (!bA d1 cC):=by
 cases h1 with
 | non=>
   cases h2 with
   | non=>rcases o with ⟨bO,bz⟩ | ⟨bO,bz⟩ <;> first | (cases bO; done) | (cases bz; done)
   | aw=>rcases o with ⟨bO,bz⟩ | ⟨bO,bz⟩ <;> first | (cases bO; done) | (cases bz; done)
   | int=>rcases o with ⟨bO,bz⟩ | ⟨bO,bz⟩ <;> first | (cases bO; done) | (cases bz; done)
   | str=>rcases o with ⟨bO,bz⟩ | ⟨bO,bz⟩ <;> first | (cases bO; done) | (cases bz; done)
   | tup a2 eo eH c9 cO b7=>simp only [bA,Bool.not_false]; exact ⟨SeqAt.EqAt.none_tuple c9 hu,SeqAt.RcAt.none_tuple c9 hu,SeqAt.RcNeAt.none_tuple c9 hu⟩
   | lst a2 eo eH c9 cO b7=>simp only [bA,Bool.not_false]; exact ⟨SeqAt.EqAt.none_list c9 hu,SeqAt.RcAt.none_list c9 hu,SeqAt.RcNeAt.none_list c9 hu⟩
   | b8 a2 eo eH c9 cO b7=>simp only [bA,Bool.not_false]; exact ⟨SeqAt.EqAt.none_list c9 hu,SeqAt.RcAt.none_list c9 hu,SeqAt.RcNeAt.none_list c9 hu⟩
 | aw gh=>
   cases h2 with
   | non=>rcases o with ⟨bO,bz⟩ | ⟨bO,bz⟩ <;> first | (cases bO; done) | (cases bz; done)
   | aw=>rcases o with ⟨bO,bz⟩ | ⟨bO,bz⟩ <;> first | (cases bO; done) | (cases bz; done)
   | int=>rcases o with ⟨bO,bz⟩ | ⟨bO,bz⟩ <;> first | (cases bO; done) | (cases bz; done)
   | str=>rcases o with ⟨bO,bz⟩ | ⟨bO,bz⟩ <;> first | (cases bO; done) | (cases bz; done)
   | tup a2 eo eH c9 cO b7=>simp only [bA,Bool.not_false]; exact ⟨SeqAt.EqAt.bool_tuple _ c9 hu,SeqAt.RcAt.bool_tuple _ c9 hu,SeqAt.RcNeAt.bool_tuple _ c9 hu⟩
   | lst a2 eo eH c9 cO b7=>simp only [bA,Bool.not_false]; exact ⟨SeqAt.EqAt.bool_list _ c9 hu,SeqAt.RcAt.bool_list _ c9 hu,SeqAt.RcNeAt.bool_list _ c9 hu⟩
   | b8 a2 eo eH c9 cO b7=>simp only [bA,Bool.not_false]; exact ⟨SeqAt.EqAt.bool_list _ c9 hu,SeqAt.RcAt.bool_list _ c9 hu,SeqAt.RcNeAt.bool_list _ c9 hu⟩
 | int cA t1=>
   cases h2 with
   | non=>rcases o with ⟨bO,bz⟩ | ⟨bO,bz⟩ <;> first | (cases bO; done) | (cases bz; done)
   | aw=>rcases o with ⟨bO,bz⟩ | ⟨bO,bz⟩ <;> first | (cases bO; done) | (cases bz; done)
   | int=>rcases o with ⟨bO,bz⟩ | ⟨bO,bz⟩ <;> first | (cases bO; done) | (cases bz; done)
   | str=>rcases o with ⟨bO,bz⟩ | ⟨bO,bz⟩ <;> first | (cases bO; done) | (cases bz; done)
   | tup a2 eo eH c9 cO b7=>simp only [bA,Bool.not_false]; exact ⟨SeqAt.EqAt.int_tuple _ _ c9 hu,SeqAt.RcAt.int_tuple _ _ c9 hu,SeqAt.RcNeAt.int_tuple _ _ c9 hu⟩
   | lst a2 eo eH c9 cO b7=>simp only [bA,Bool.not_false]; exact ⟨SeqAt.EqAt.int_list _ _ c9 hu,SeqAt.RcAt.int_list _ _ c9 hu,SeqAt.RcNeAt.int_list _ _ c9 hu⟩
   | b8 a2 eo eH c9 cO b7=>simp only [bA,Bool.not_false]; exact ⟨SeqAt.EqAt.int_list _ _ c9 hu,SeqAt.RcAt.int_list _ _ c9 hu,SeqAt.RcNeAt.int_list _ _ c9 hu⟩
 | str gO t1=>
   cases h2 with
   | non=>rcases o with ⟨bO,bz⟩ | ⟨bO,bz⟩ <;> first | (cases bO; done) | (cases bz; done)
   | aw=>rcases o with ⟨bO,bz⟩ | ⟨bO,bz⟩ <;> first | (cases bO; done) | (cases bz; done)
   | int=>rcases o with ⟨bO,bz⟩ | ⟨bO,bz⟩ <;> first | (cases bO; done) | (cases bz; done)
   | str=>rcases o with ⟨bO,bz⟩ | ⟨bO,bz⟩ <;> first | (cases bO; done) | (cases bz; done)
   | tup a2 eo eH c9 cO b7=>simp only [bA,Bool.not_false]; exact ⟨SeqAt.EqAt.str_tuple _ _ c9 hu,SeqAt.RcAt.str_tuple _ _ c9 hu,SeqAt.RcNeAt.str_tuple _ _ c9 hu⟩
   | lst a2 eo eH c9 cO b7=>simp only [bA,Bool.not_false]; exact ⟨SeqAt.EqAt.str_list _ _ c9 hu,SeqAt.RcAt.str_list _ _ c9 hu,SeqAt.RcNeAt.str_list _ _ c9 hu⟩
   | b8 a2 eo eH c9 cO b7=>simp only [bA,Bool.not_false]; exact ⟨SeqAt.EqAt.str_list _ _ c9 hu,SeqAt.RcAt.str_list _ _ c9 hu,SeqAt.RcNeAt.str_list _ _ c9 hu⟩
 | tup a1 fy kL dp eJ fp=>
   cases h2 with
   | non=>simp only [bA,Bool.not_false]; exact ⟨SeqAt.EqAt.tuple_none dp hu,SeqAt.RcAt.tuple_none dp hu,SeqAt.RcNeAt.tuple_none dp hu⟩
   | aw fG=>simp only [bA,Bool.not_false]; exact ⟨SeqAt.EqAt.tuple_bool _ dp hu,SeqAt.RcAt.tuple_bool _ dp hu,SeqAt.RcNeAt.tuple_bool _ dp hu⟩
   | int cc d7=>simp only [bA,Bool.not_false]; exact ⟨SeqAt.EqAt.tuple_int _ _ dp hu,SeqAt.RcAt.tuple_int _ _ dp hu,SeqAt.RcNeAt.tuple_int _ _ dp hu⟩
   | str il d7=>simp only [bA,Bool.not_false]; exact ⟨SeqAt.EqAt.tuple_str _ _ dp hu,SeqAt.RcAt.tuple_str _ _ dp hu,SeqAt.RcNeAt.tuple_str _ _ dp hu⟩
   | tup=>rcases o with ⟨bO,bz⟩ | ⟨bO,bz⟩ <;> first | (cases bO; done) | (cases bz; done)
   | lst=>rcases o with ⟨bO,bz⟩ | ⟨bO,bz⟩ <;> first | (cases bO; done) | (cases bz; done)
   | b8=>rcases o with ⟨bO,bz⟩ | ⟨bO,bz⟩ <;> first | (cases bO; done) | (cases bz; done)
 | lst a1 fy kL dp eJ fp=>
   cases h2 with
   | non=>simp only [bA,Bool.not_false]; exact ⟨SeqAt.EqAt.list_none dp hu,SeqAt.RcAt.list_none dp hu,SeqAt.RcNeAt.list_none dp hu⟩
   | aw fG=>simp only [bA,Bool.not_false]; exact ⟨SeqAt.EqAt.list_bool _ dp hu,SeqAt.RcAt.list_bool _ dp hu,SeqAt.RcNeAt.list_bool _ dp hu⟩
   | int cc d7=>simp only [bA,Bool.not_false]; exact ⟨SeqAt.EqAt.list_int _ _ dp hu,SeqAt.RcAt.list_int _ _ dp hu,SeqAt.RcNeAt.list_int _ _ dp hu⟩
   | str il d7=>simp only [bA,Bool.not_false]; exact ⟨SeqAt.EqAt.list_str _ _ dp hu,SeqAt.RcAt.list_str _ _ dp hu,SeqAt.RcNeAt.list_str _ _ dp hu⟩
   | tup=>rcases o with ⟨bO,bz⟩ | ⟨bO,bz⟩ <;> first | (cases bO; done) | (cases bz; done)
   | lst=>rcases o with ⟨bO,bz⟩ | ⟨bO,bz⟩ <;> first | (cases bO; done) | (cases bz; done)
   | b8=>rcases o with ⟨bO,bz⟩ | ⟨bO,bz⟩ <;> first | (cases bO; done) | (cases bz; done)
 | b8 a1 fy kL dp eJ fp=>
   cases h2 with
   | non=>simp only [bA,Bool.not_false]; exact ⟨SeqAt.EqAt.list_none dp hu,SeqAt.RcAt.list_none dp hu,SeqAt.RcNeAt.list_none dp hu⟩
   | aw fG=>simp only [bA,Bool.not_false]; exact ⟨SeqAt.EqAt.list_bool _ dp hu,SeqAt.RcAt.list_bool _ dp hu,SeqAt.RcNeAt.list_bool _ dp hu⟩
   | int cc d7=>simp only [bA,Bool.not_false]; exact ⟨SeqAt.EqAt.list_int _ _ dp hu,SeqAt.RcAt.list_int _ _ dp hu,SeqAt.RcNeAt.list_int _ _ dp hu⟩
   | str il d7=>simp only [bA,Bool.not_false]; exact ⟨SeqAt.EqAt.list_str _ _ dp hu,SeqAt.RcAt.list_str _ _ dp hu,SeqAt.RcNeAt.list_str _ _ dp hu⟩
   | tup=>rcases o with ⟨bO,bz⟩ | ⟨bO,bz⟩ <;> first | (cases bO; done) | (cases bz; done)
   | lst=>rcases o with ⟨bO,bz⟩ | ⟨bO,bz⟩ <;> first | (cases bO; done) | (cases bz; done)
   | b8=>rcases o with ⟨bO,bz⟩ | ⟨bO,bz⟩ <;> first | (cases bO; done) | (cases bz; done)
theorem Dz:∀{xs ys:List D},xs.length=ys.length→(∀(i:Nat) x y,xs[i]? =some x→ys[i]? =some y→bA x y=true)→ef xs ys=true
 | [],[],_,_=>by simp only [ef]
 | [],_::_,h,_=>by simp at h
 | _::_,[],h,_=>by simp at h
 | x::xs,y::ys,h,k=>by
   simp only [ef]
   rw [k 0 x y rfl rfl,Dz (by simpa using h) fun i a b ar aG=>k (i + 1) a b (by simpa using ar) (by simpa using aG)]
   rfl
theorem Hx {K:PySem.W.Frag} {d1 cC:D} {x:V} (c1:gr d1=true) (a1:At K G d1 x) (a2:At K G cC x):bA d1 cC=true:=by
 cases d1 with
 | non=>
   simp only [At] at a1; subst a1
   cases cC <;> simp only [At] at a2 <;> first | (simp only [bA]; done) | (cases a2; done) | (obtain ⟨a,xs,e,_⟩:=a2; cases e; done) | (obtain ⟨a,a4,xs,e,_⟩:=a2; cases e; done)
 | aw b=>
   simp only [At] at a1; subst a1
   cases cC <;> simp only [At] at a2 <;> first | (cases a2; simp only [bA,beq_self_eq_true]; done) | (cases a2; done) | (obtain ⟨a,xs,e,_⟩:=a2; cases e; done) | (obtain ⟨a,a4,xs,e,_⟩:=a2; cases e; done)
 | int b=>
   simp only [At] at a1; subst a1
   cases cC <;> simp only [At] at a2 <;> first | (cases a2; simp only [bA,beq_self_eq_true]; done) | (cases a2; done) | (obtain ⟨a,xs,e,_⟩:=a2; cases e; done) | (obtain ⟨a,a4,xs,e,_⟩:=a2; cases e; done)
 | str b=>
   simp only [At] at a1; subst a1
   cases cC <;> simp only [At] at a2 <;> first | (cases a2; simp only [bA,beq_self_eq_true]; done) | (cases a2; done) | (obtain ⟨a,xs,e,_⟩:=a2; cases e; done) | (obtain ⟨a,a4,xs,e,_⟩:=a2; cases e; done)
 | _=>cases c1
theorem Dy {d1 cC:D} (cQ:gr cC=true) (c1:gr d1=false) {K:PySem.W.Frag} {x:V} (a1:At K G d1 x) (a2:At K G cC x):False:=by
 cases cC <;> first
  | (cases cQ; done)
  | (simp only [At] at a2; subst a2
     cases d1 <;> first
      | (cases c1; done)
      | (simp only [At] at a1; obtain ⟨a,xs,e,_⟩:=a1; cases e; done)
      | (simp only [At] at a1; obtain ⟨a,a4,xs,e,_⟩:=a1; cases e; done))
inductive gD (K:PySem.W.Frag) (G:ao):D→Addr→Bool→List D→List V→Prop where
 | tup {a ds xs} (h:cK K G a xs) (q:aN K G ds xs):gD K G (.tup ds) a true ds xs
 | eI {a ds xs} (h:cK K G a xs) (q:aN K G ds xs):gD K G (.eI ds) a true ds xs
 | lst {a ds xs} (h:G a=some (.lst xs)) (q:aN K G ds xs):gD K G (.lst ds) a false ds xs
 | b8 {a ds xs} (h:b4 K G a xs) (q:aN K G ds xs):gD K G (.b8 ds) a false ds xs
theorem rf {K:PySem.W.Frag} {n:Nat} {d:D} {x:V} (o:okN n d=true) (ns:gr d=false) (a:At K G d x):∃p b ds xs,x= .ref p∧gD K G d p b ds xs∧∃m,n=m + 1∧ds.all (okN m)=true:=by
 cases d with
 | tup ds=>
   simp only [At] at a
   obtain ⟨p,xs,e,h,q⟩:=a
   cases n with
   | zero=>cases o
   | succ m=>exact ⟨p,_,ds,xs,e,.tup (cK.of h) q,m,rfl,o⟩
 | lst ds=>
   simp only [At] at a
   obtain ⟨p,xs,e,h,q⟩:=a
   cases n with
   | zero=>cases o
   | succ m=>exact ⟨p,_,ds,xs,e,.lst h q,m,rfl,o⟩
 | b8 ds=>
   simp only [At] at a
   obtain ⟨p,xs,e,h,q⟩:=a
   cases n with
   | zero=>cases o
   | succ m=>exact ⟨p,_,ds,xs,e,.b8 h q,m,rfl,o⟩
 | dg _ _=>cases n <;> cases o
 | a0 _ _=>cases n <;> cases o
 | ins _ _ _=>cases n <;> cases o
 | gj _=>cases n <;> cases o
 | eI _=>cases n <;> cases o
 | _=>cases ns
theorem gD.gR {K:PySem.W.Frag} {d:D} {p:Addr} {b:Bool} {ds:List D} {xs:List V} (h:gD K G d p b ds xs):aN K G ds xs:=by cases h <;> assumption
theorem gD.eq {K:PySem.W.Frag} {d1 cC:D} {fp b7:Addr} {gh fG:Bool} {fy eo:List D} {oz oA:List V} (h1:gD K G d1 fp gh fy oz) (h2:gD K G cC b7 fG eo oA):bA d1 cC=(gh == fG && ef fy eo):=by
 cases h1 <;> cases h2 <;> simp [bA]
theorem gD.heap (ae:Inv X pins σ H s) (a5:Sub G H) {d:D} {p:Addr} {b:Bool} {ds:List D} {xs:List V} (h:gD X.K G d p b ds xs) :
  ∃its:List Value,Vals xs its∧(b=true→s.heap.IsTuple p its.toArray)∧(b=false→s.heap.IsList p its.toArray):=by
 cases h with
 | tup h q=>obtain ⟨its,cq,ht,_⟩:=ae.tuple (cK.mono a5 h); exact ⟨its,cq,fun _=>ht,fun z=>by cases z⟩
 | eI h q=>obtain ⟨its,cq,ht,_⟩:=ae.tuple (cK.mono a5 h); exact ⟨its,cq,fun _=>ht,fun z=>by cases z⟩
 | lst h q=>obtain ⟨its,cq,ht,_⟩:=ae.list (b4.of (a5 _ _ h)); exact ⟨its,cq,(fun z=>by cases z),fun _=>ht.isList⟩
 | b8 h q=>obtain ⟨its,cq,ht,_⟩:=ae.list (b4.mono a5 h); exact ⟨its,cq,(fun z=>by cases z),fun _=>ht.isList⟩
theorem gD.same (ae:Inv X pins σ H s) (a5:Sub G H) {d1 cC:D} {p:Addr} {gh fG:Bool} {fy eo:List D} {oz oA:List V} (h1:gD X.K G d1 p gh fy oz) (h2:gD X.K G cC p fG eo oA):gh=fG∧oz=oA:=by
 obtain ⟨kL,av,t1,eJ⟩:=h1.heap ae a5
 obtain ⟨eH,bl,d7,cO⟩:=h2.heap ae a5
 cases gh with
 | true=>
   cases fG with
   | false=>exact absurd rfl (SeqAt.ne_of_list_tuple (cO rfl) (t1 rfl))
   | true=>
     refine ⟨rfl,?_⟩
     cases h1 <;> cases h2 <;>
     exact ae.Bw (cK.mono a5 (by assumption)) (cK.mono a5 (by assumption))
 | false=>
   cases fG with
   | true=>exact absurd rfl (SeqAt.ne_of_list_tuple (eJ rfl) (d7 rfl))
   | false=>
     refine ⟨rfl,?_⟩
     have g1:b4 X.K H p oz:=by
      cases h1 with
      | lst h q=>exact b4.of (a5 _ _ h)
      | b8 h q=>exact b4.mono a5 h
     have g2:b4 X.K H p oA:=by
      cases h2 with
      | lst h q=>exact b4.of (a5 _ _ h)
      | b8 h q=>exact b4.mono a5 h
     exact ae.zH g1 g2
theorem qa {f:D→Bool} {ds:List D} (h:ds.all f=true) {i:Nat} {d:D} (e:ds[i]? =some d):f d=true:=List.all_eq_true.mp h d (List.mem_of_getElem? e)
theorem JT (ae:Inv X pins σ H s) (a5:Sub G H):∀(n:Nat) {d1 cC:D} {x:V},okN n d1=true→okN n cC=true→At X.K G d1 x→At X.K G cC x→bA d1 cC=true:=by
 intro n
 induction n with
 | zero=>
   intro d1 cC x c1 cQ a1 a2
   exact Hx (by cases d1 <;> first | rfl | (cases c1)) a1 a2
 | succ n c0=>
   intro d1 cC x c1 cQ a1 a2
   cases s1:gr d1 with
   | true=>exact Hx s1 a1 a2
   | false=>
     cases s2:gr cC with
     | true=>exact (Dy s2 s1 a1 a2).elim
     | false=>
       obtain ⟨fp,gh,fy,oz,ar,a7,m1,Dt,k1⟩:=rf c1 s1 a1
       obtain ⟨b7,fG,eo,oA,aG,bX,m2,Du,k2⟩:=rf cQ s2 a2
       subst ar
       cases aG
       have:n=m1:=by omega
       subst this
       have:n=m2:=by omega
       subst this
       obtain ⟨bE,ex⟩:=a7.same ae a5 bX
       subst bE; subst ex
       rw [a7.eq bX,beq_self_eq_true,Bool.true_and]
       refine Dz (a7.gR.length.trans bX.gR.length.symm) fun i a b au bE=>?_
       obtain ⟨v,ev,bo⟩:=a7.gR.get au
       obtain ⟨m5,r2,bv⟩:=bX.gR.get bE
       rw [ev] at r2; cases r2
       exact c0 (qa k1 au) (qa k2 bE) bo bv
theorem yG (ae:Inv X pins σ H s) (a5:Sub G H):∀(n:Nat) {d1 cC:D} {u v:Value} {A:Around},okN n d1=true→okN n cC=true→k_ X.K G d1 u→k_ X.K G cC v→A.units + n < cLine→
  SeqAt.EqAt A s u v (bA d1 cC)∧SeqAt.RcAt A s u v (bA d1 cC)∧SeqAt.RcNeAt A s u v (!bA d1 cC):=by
 intro n
 induction n with
 | zero=>
   intro d1 cC u v A c1 cQ a1 a2 hu
   refine Hv (og ae a5 c1 a1) (og ae a5 cQ a2) ?_ ?_
   · cases d1 <;> first | rfl | (cases c1)
   · cases cC <;> first | rfl | (cases cQ)
 | succ n c0=>
   intro d1 cC u v A c1 cQ a1 a2 hu
   have ka:A.units < cLine:=by omega
   cases s1:gr d1 with
   | true=>
     cases s2:gr cC with
     | true=>exact Hv (og ae a5 c1 a1) (og ae a5 cQ a2) s1 s2
     | false=>exact F3 ka (og ae a5 c1 a1) (og ae a5 cQ a2) (.inl ⟨s1,s2⟩)
   | false=>
     cases s2:gr cC with
     | true=>exact F3 ka (og ae a5 c1 a1) (og ae a5 cQ a2) (.inr ⟨s1,s2⟩)
     | false=>
       obtain ⟨gO,Co,S2⟩:=a1
       obtain ⟨il,at2,S3⟩:=a2
       obtain ⟨fp,gh,fy,oz,ar,a7,m1,Dt,k1⟩:=rf c1 s1 Co
       obtain ⟨b7,fG,eo,oA,aG,bX,m2,Du,k2⟩:=rf cQ s2 at2
       subst ar; subst aG
       cases S2
       cases S3
       have:n=m1:=by omega
       subst this
       have:n=m2:=by omega
       subst this
       obtain ⟨kL,av,t1,eJ⟩:=a7.heap ae a5
       obtain ⟨eH,bl,d7,cO⟩:=bX.heap ae a5
       have qN:fy.length=kL.length:=a7.gR.length.trans av.length
       have sJ:eo.length=eH.length:=bX.gR.length.trans bl.length
       have item:∀j (h1:j < kL.toArray.size) (h2:j < eH.toArray.size),SeqAt.EqAt A.in1 s kL.toArray[j] eH.toArray[j] (kM fy eo j):=fun j h1 h2=>by
        have zy:j < fy.length:=by rw [qN]; simpa using h1
        have zz:j < eo.length:=by rw [sJ]; simpa using h2
        have g1:k_ X.K G fy[j] kL.toArray[j]:=sE a7.gR av j _ _ (List.getElem?_eq_getElem zy) (by simp at h1; simp [h1])
        have g2:k_ X.K G eo[j] eH.toArray[j]:=sE bX.gR bl j _ _ (List.getElem?_eq_getElem zz) (by simp at h2; simp [h2])
        have:=(c0 (A:=A.in1) (qa k1 (List.getElem?_eq_getElem zy)) (qa k2 (List.getElem?_eq_getElem zz)) g1 g2 (by rw [in1_units]; omega)).1
        unfold kM
        rw [List.getElem?_eq_getElem zy,List.getElem?_eq_getElem zz]
        exact this
       have whole:SeqAt.RcAt A s (.ref fp) (.ref b7) (bA d1 cC)∧SeqAt.RcNeAt A s (.ref fp) (.ref b7) (!bA d1 cC):=by
        rw [a7.eq bX]
        cases gh with
        | true=>
          cases fG with
          | false=>exact ⟨SeqAt.RcAt.tuple_list (t1 rfl) (cO rfl) ka,SeqAt.RcNeAt.tuple_list (t1 rfl) (cO rfl) ka⟩
          | true=>
            have bD:=SeqAt.RcAt.tuples (e:=kM fy eo) (t1 rfl) (d7 rfl) ka item
            have c_:=SeqAt.RcNeAt.tuples (e:=kM fy eo) (t1 rfl) (d7 rfl) ka item
            have eq:((List.range (min kL.toArray.size eH.toArray.size)).all (kM fy eo) && kL.toArray.size == eH.toArray.size)=(true == true && ef fy eo):=by
             rw [List.size_toArray,List.size_toArray,←qN,←sJ,beq_self_eq_true,Bool.true_and]
             by_cases hl:fy.length=eo.length
             · rw [←hl,Nat.min_self,yI hl,beq_self_eq_true,Bool.and_true]
             · rw [yH hl]
               have:(fy.length == eo.length)=false:=by simpa using hl
               rw [this,Bool.and_false]
            rw [eq] at bD
            refine ⟨bD,?_⟩
            first
             | (rw [eq] at c_; exact c_)
             | exact c_
        | false=>
          cases fG with
          | true=>exact ⟨SeqAt.RcAt.list_tuple (eJ rfl) (d7 rfl) ka,SeqAt.RcNeAt.list_tuple (eJ rfl) (d7 rfl) ka⟩
          | false=>
            rw [beq_self_eq_true,Bool.true_and]
            by_cases hl:fy.length=eo.length
            · have bD:=SeqAt.RcAt.lists (e:=kM fy eo) (eJ rfl) (cO rfl) (by rw [List.size_toArray,List.size_toArray,←qN,←sJ]; exact hl) ka item
              have c_:=SeqAt.RcNeAt.lists (e:=kM fy eo) (eJ rfl) (cO rfl) (by rw [List.size_toArray,List.size_toArray,←qN,←sJ]; exact hl) ka item
              rw [List.size_toArray,←qN,yI hl] at bD c_
              exact ⟨bD,c_⟩
            · have br:(kL.toArray.size != eH.toArray.size)=true:=by
               rw [List.size_toArray,List.size_toArray,←qN,←sJ]; simpa using hl
              rw [yH hl]
              exact ⟨SeqAt.RcAt.lists_lengths (eJ rfl) (cO rfl) br ka,SeqAt.RcNeAt.lists_lengths (eJ rfl) (cO rfl) br ka⟩
       refine ⟨?_,whole⟩
       by_cases hp:fp=b7
       · subst hp
         rw [JT ae a5 (n + 1) c1 cQ Co at2]
         exact SeqAt.EqAt.same _
       · exact SeqAt.EqAt.of_refs hp whole.1
end
end aD
set_option Elab.async false
set_option linter.all false
set_option maxRecDepth 100000
namespace aD
open PySem PySem.Spec bb
noncomputable def notStar:Expr→Bool
 | .Starred .. =>false
 | _=>true
theorem HL (e:Expr) (aq:List Expr) (env:Env) (h:notStar e=true):starEach (e::aq) env=(false,eval e env)::starEach aq env:=by
 cases e <;> first | rfl | (cases h)
noncomputable def iV:Expr→Bool
 | .ListComp .. =>false
 | .SetComp .. =>false
 | .DictComp .. =>false
 | _=>true
theorem lY (e:Expr) (t:Option Expr) (l:Nat) (env:Env) (h:iV e=true):swapsWith e t l env=pure false:=by
 cases e <;> first | rfl | (cases h)
noncomputable def QC:Expr→Bool
 | .Slice .. =>false
 | _=>true
theorem aP {b:Expr} (h:QC b=true:=by rfl):rL b:=fun o i=>by
 cases b <;> first | rfl | (cases h)
section
variable {X:aL} {F:bx} {e a b c:Expr} {aq:List Expr} {pos:Pos}
theorem aZ.imp {t t':TE} (h:aZ X e t) (i:ez t' t):aZ X e t':=fun pins s σ H Q ae hw=>h pins s σ H Q ae (i σ H Q hw)
theorem eO.imp {t t':TT} (h:eO X e t) (i:mb t' t):eO X e t':=fun pins s σ H Q ae hw=>h pins s σ H Q ae (i σ H Q hw)
theorem hR.imp {t t':TT} (h:hR X e t) (i:mb t' t):hR X e t':=fun l0 pins s σ H Q ae hw=>h l0 pins s σ H Q ae (i σ H Q hw)
theorem eN.imp {t t':eA} (h:eN X aq t) (i:p1 t' t):eN X aq t':=fun p pins s σ H Q ae hw=>h p pins s σ H Q ae (i σ H Q hw)
theorem dj.imp {st:Stmt} {t t':eB} (h:dj X st t) (i:g8 t' t):dj X st t':=fun pins s σ H cJ ae hw=>h pins s σ H cJ ae (i cJ σ H hw)
theorem fu.imp {st:List Stmt} {t t':eB} (h:fu X st t) (i:g8 t' t):fu X st t':=fun pins s σ H cJ ae hw=>h pins s σ H cJ ae (i cJ σ H hw)
theorem fW.imp {bq:Expr} {t t':TI} (h:fW X bq e t) (i:nq t' t):fW X bq e t':=fun pins s σ H Q ae hw=>h pins s σ H Q ae (i σ H Q hw)
noncomputable abbrev a8 (X:aL) (F:bx) (e:Expr) (m:aE):Prop:=aZ X e (cR F m)
noncomputable abbrev l8 (X:aL) (F:bx) (e:Expr) (m:bh):Prop:=aZ X e (jS F m)
noncomputable abbrev fD (X:aL) (F:bx) (e:Expr) (m:ck):Prop:=eO X e (fB F m)
noncomputable abbrev oO (X:aL) (F:bx) (e:Expr) (m:ck):Prop:=hR X e (fB F m)
noncomputable abbrev fR (X:aL) (F:bx) (aq:List Expr) (m:bh):Prop:=eN X aq (d8 F m)
noncomputable abbrev fC (X:aL) (F:bx) (st:Stmt) (m:aY):Prop:=dj X st (e1 F m)
noncomputable abbrev ng (X:aL) (F:bx) (st:List Stmt) (m:aY):Prop:=fu X st (e1 F m)
noncomputable abbrev js (X:aL) (F:bx) (bq e:Expr) (m:bh):Prop:=fW X bq e (ko F m)
theorem LO (i:Nat) {x:Str} (hN:X.N[i]? =some x:=by rfl) (hv:fE X.env.scope x:=by first | exact Or.inl rfl | exact Or.inr (Or.inl rfl) | exact Or.inr (Or.inr rfl))
  (hd:(x == ("__debug__" :Str))=false:=by decide) (hcd:(x == ("__classdict__" :Str))=false:=by decide):a8 X F (.Name x pos) (I i):=aZ.imp (lR hN hv hd hcd) (Oj i)
theorem Lm {i:Int} {j}:a8 X F (.Constant (.int i) j pos) (ag (.int i)):=aZ.imp RO (sy fun _=>by simp only [At])
theorem K9 {i:Bool} {j}:a8 X F (.Constant (.bool i) j pos) (ag (.aw i)):=aZ.imp RE (sy fun _=>by simp only [At])
theorem LJ {i:Str} {j}:a8 X F (.Constant (.str i) j pos) (ag (.str i)):=aZ.imp GJ (sy fun _=>by simp only [At])
theorem LA {j}:a8 X F (.Constant .none j pos) (ag .non):=aZ.imp RS (sy fun _=>by simp only [At])
theorem Lj {x:Str} {v:V} {u:Value} {d:D} (hm:X.mg x=some u) (r:RelV v u) (at':∀G,At F.K G d v) (hg:cN X x:=by rfl) (hd:(x == ("__debug__" :Str))=false:=by decide):a8 X F (.Name x pos) (ag d):=
 aZ.imp (GG hg hm r hd) (sy at')
theorem JI:fR X F [] ai:=eN.imp n7 Fh
theorem JH {m:aE} {r:bh} (h:a8 X F e m) (t:fR X F aq r) (hs:notStar e=true:=by rfl):fR X F (e::aq) (af m r):=eN.imp (kU h t (HL e aq X.env hs)) NH
theorem LM {k} {m:bh} (h:fR X F aq m):a8 X F (.Tuple aq k pos) (bG m):=aZ.imp (GK h) Og
theorem QO {m:bh} (h:fR X F aq m):l8 X F (.List aq pos) (bK m):=aZ.imp (RP h) NX
theorem Li {m:bh} (h:l8 X F e m):a8 X F e (a9 m):=aZ.imp h NP
theorem K_ {m:aE} (h:a8 X F e m):a8 X F e (jG m):=aZ.imp h NA
theorem U0 {m:ck} (h:fD X F e m):fD X F e (hJ m):=eO.imp h NC
theorem Va {m:aE} (h:a8 X F e m) (he:∀whole,isTrue e X.env whole=(do let v ←whole; standAt e.pos; holding [v] (truthy v)):=by intro _; rfl):fD X F e (aH m):=eO.imp (So h he) vP
theorem Vz {m:ck} (h:fD X F a m):oO X F (.BoolOp .And [a] pos) m:=Su h
theorem VC {m:ck} (h:fD X F a m):oO X F (.BoolOp .Or [a] pos) m:=Sw h
theorem w_and {m n:ck} (h:fD X F a m) (k:oO X F (.BoolOp .And (b::aq) pos) n):oO X F (.BoolOp .And (a::b::aq) pos) (gp m n):=hR.imp (Ss h k) Ny
theorem w_or {m n:ck} (h:fD X F a m) (k:oO X F (.BoolOp .Or (b::aq) pos) n):oO X F (.BoolOp .Or (a::b::aq) pos) (dY m n):=hR.imp (Sv h k) N4
theorem Vb {m:ck} (h:oO X F e m):fD X F e m:=hR.pt h
theorem U9 {m:ck} (h:fD X F a m):fD X F (.UnaryOp .Not a pos) (c6 m):=eO.imp (Sn h) N1
theorem LC {op} {m:aE} (h:a8 X F a m):a8 X F (.BoolOp op [a] pos) m:=RU h
theorem K8 {m n:aE} (h:a8 X F a m) (k:a8 X F (.BoolOp .And (b::aq) pos) n):a8 X F (.BoolOp .And (a::b::aq) pos) (hI m n):=aZ.imp (RD h k) Nz
theorem LD {m n:aE} (h:a8 X F a m) (k:a8 X F (.BoolOp .Or (b::aq) pos) n):a8 X F (.BoolOp .Or (a::b::aq) pos) (nY m n):=aZ.imp (RV h k) N5
theorem LB {m:aE} (h:a8 X F a m):a8 X F (.UnaryOp .Not a pos) (sS m):=aZ.imp (RT h) N2
theorem Lk {k:ck} {m n:aE} (h:fD X F c k) (ha:a8 X F a m) (hb:a8 X F b n):a8 X F (.IfExp c a b pos) (lO k m n):=aZ.imp (RN h ha hb) NR
variable {st:Stmt} {mV:List Stmt}
theorem Ts:ng X F [] cF:=fu.imp GY N0
theorem Th {m n:aY} (h:fC X F st m) (k:ng X F mV n):ng X F (st::mV) (aK m n):=fu.imp (GX h k) Oa
theorem Tt {m:aY} (h:fC X F st m):ng X F [st] m:=z_ h
theorem Tj {m:aE} (h:a8 X F e m) (hs:iV e=true:=by rfl):fC X F (.Expr e pos) (nV m):=dj.imp (wR h (lY _ _ _ _ hs)) NL
theorem Tu {m:aE} (h:a8 X F e m):fC X F (.Return (some e) pos) (bS m):=dj.imp (wU h) N8
theorem Tv {m:bh} (h:l8 X F e m):fC X F (.Return (some e) pos) (iS m):=dj.imp (wU h) N9
theorem Tw (i:Nat) {x:Str} {p:Pos} (hN:X.N[i]? =some x:=by rfl) (hv:fE X.env.scope x:=by first | exact Or.inl rfl | exact Or.inr (Or.inl rfl) | exact Or.inr (Or.inr rfl)) (hd:(x == ("__debug__" :Str))=false:=by decide) (hcd:(x == ("__classdict__" :Str))=false:=by decide) :
  fC X F (.Return (some (.Name x p)) pos) (iS (pq i)):=dj.imp (wU (lR hN hv hd hcd)) (N_ i)
theorem Tr {k:ck} {m n:aY} {xs ys:List Stmt} (h:fD X F c k) (ha:ng X F xs m) (hb:ng X F ys n):fC X F (.If c xs ys pos) (cx k m n):=dj.imp (GV h ha hb) NS
theorem Tz (i:Nat) {x:Str} {p:Pos} {m:aE} (hN:X.N.Nodup) (he:a8 X F e m) (hi:X.N[i]? =some x:=by rfl) (hx:Loc X.env.scope x:=by first | exact Or.inl rfl | exact Or.inr rfl) (hs:iV e=true:=by rfl)
  (hf:X.fn x=true∨X.env.scope.names.lookup x=some .local:=by first | exact .inl rfl | exact .inr rfl):fC X F (.Assign [.Name x p] e pos) (b6 i m):=dj.imp (wV hN hi hx he (lY _ _ _ _ hs) hf) Ob
theorem TF (i:Nat) {x:Str} {p:Pos} {m:bh} (hN:X.N.Nodup) (he:l8 X F e m) (hi:X.N[i]? =some x:=by rfl) (hx:Loc X.env.scope x:=by first | exact Or.inl rfl | exact Or.inr rfl) (hs:iV e=true:=by rfl)
  (hf:X.fn x=true∨X.env.scope.names.lookup x=some .local:=by first | exact .inl rfl | exact .inr rfl):fC X F (.Assign [.Name x p] e pos) (d5 i m):=dj.imp (wV hN hi hx he (lY _ _ _ _ hs) hf) Fi
theorem kE {op:Operator} {r:ed} {f:D→D→R D} {m n:aE} (ho:dr X (binaryOp op) r) (hf:ft F r f) (ha:a8 X F a m) (hb:a8 X F b n):a8 X F (.BinOp a op b pos) (ah f m n):=aZ.imp (GI ho ha hb) (vQ hf)
theorem vn {op:CmpOp} {r:ed} {f:D→D→R D} {m n:aE} (ho:dr X (compareOp op) r) (hf:ft F r f) (ha:a8 X F a m) (hb:a8 X F b n) (hm:behindInMarks op b=false):a8 X F (.Compare a [op] [b] pos) (ah f m n):=aZ.imp (RH ho ha hb hm) (vQ hf)
theorem rj {op:CmpOp} {r:ed} {f:D→D→R D} {m n:aE} (ho:dr X (compareOp op) r) (hf:ft F r f) (ha:a8 X F a m) (hb:a8 X F b n) (hm:behindInMarks op b=false):fD X F (.Compare a [op] [b] pos) (aH (ah f m n)):=
 eO.imp (Sm ho ha hb hm) fun σ H Q h=>by
   obtain ⟨G,ρ,r,k⟩:=E_ (F:=F) (m:=ah f m n) σ H Q h
   exact vQ hf σ H _ ⟨G,ρ,r,k⟩
noncomputable def gn (f:Int→Int→R D):D→D→R D
 | .int i,.int j=>f i j
 | _,_=> .bad
theorem q4 {g:Int→Int→V} {f:Int→Int→D} (h:∀i j G,At F.K G (f i j) (g i j)):ft F (kk g) (gn fun i j=> .ok (f i j)):=by
 intro σ ρ G H x y a4 fz Q r bY cP k
 unfold gn at k
 split at k
 · rename_i i j
   simp only [At] at bY cP
   exact ⟨i,j,bY,cP,k _ H G r (cz.refl _ _) (h i j G)⟩
 · exact k.elim
theorem q3 {C:Int→Int→Prop} [∀i j,Decidable (C i j)] {g:Int→Int→V} {f:Int→Int→D} (h:∀i j G,At F.K G (f i j) (g i j)):ft F (n_ C g) (gn fun i j=>if C i j then .ok (f i j) else .bad):=by
 intro σ ρ G H x y a4 fz Q r bY cP k
 unfold gn at k
 split at k
 · rename_i i j
   simp only [At] at bY cP
   dsimp only at k
   split at k
   · rename_i hc
     exact ⟨i,j,bY,cP,hc,k _ H G r (cz.refl _ _) (h i j G)⟩
   · exact k.elim
 · exact k.elim
instance (i j:Int):Decidable (rz i j):=by unfold rz; infer_instance
instance (i j:Int):Decidable (rA i j):=by unfold rA; infer_instance
instance (i j:Int):Decidable (oB i j):=by unfold oB; infer_instance
noncomputable def ig:=gn fun i j=> .ok (.int (i - j))
noncomputable def ib:=gn fun i j=>if oB i j then .ok (.int (i * j)) else .bad
noncomputable def da:=gn fun i j=>if rz i j then .ok (.int (i / j)) else .bad
noncomputable def cG:=gn fun i j=>if 0 < j then .ok (.int (i % j)) else .bad
noncomputable def iZ:=gn fun i j=>if rA i j then .ok (.int (i ^ j.toNat)) else .bad
noncomputable def nT:=gn fun i j=> .ok (.aw (decide (i < j)))
noncomputable def jf:=gn fun i j=> .ok (.aw (decide (i≤j)))
noncomputable def j5:=gn fun i j=> .ok (.aw (decide (j < i)))
variable {m n:aE}
theorem LL (ha:a8 X F a m) (hb:a8 X F b n):a8 X F (.BinOp a .Sub b pos) (ah ig m n):=kE Rl (q4 fun _ _ _=>by simp only [At]) ha hb
theorem Lx (ha:a8 X F a m) (hb:a8 X F b n):a8 X F (.BinOp a .Mult b pos) (ah ib m n):=kE Rf (q3 fun _ _ _=>by simp only [At]) ha hb
theorem Lg (ha:a8 X F a m) (hb:a8 X F b n):a8 X F (.BinOp a .FloorDiv b pos) (ah da m n):=kE Ra (q3 fun _ _ _=>by simp only [At]) ha hb
theorem Lw (ha:a8 X F a m) (hb:a8 X F b n):a8 X F (.BinOp a .Mod b pos) (ah cG m n):=kE Rd (q3 fun _ _ _=>by simp only [At]) ha hb
theorem LH (ha:a8 X F a m) (hb:a8 X F b n):a8 X F (.BinOp a .Pow b pos) (ah iZ m n):=kE Ri (q3 fun _ _ _=>by simp only [At]) ha hb
theorem U7 (ha:a8 X F a m) (hb:a8 X F b n):fD X F (.Compare a [.Lt] [b] pos) (aH (ah nT m n)):=rj Gq (q4 fun _ _ _=>by simp only [At]) ha hb (n5 _)
theorem U5 (ha:a8 X F a m) (hb:a8 X F b n):fD X F (.Compare a [.Gt] [b] pos) (aH (ah j5 m n)):=rj Rb (q4 fun _ _ _=>by simp only [At]) ha hb (n5 _)
noncomputable def b1:D→D→R D
 | .int i,.int j=> .ok (.int (i + j))
 | .str x,.str y=>if x.length + y.length≤1000000 then .ok (.str (x ++ y)) else .bad
 | .lst xs,.lst ys=>if xs.length + ys.length≤1000000 then .ok (.lst (xs ++ ys)) else .bad
 | _,_=> .bad
theorem QU:ft F (fun x y H Q=>kk (fun i j=> .int (i + j)) x y H Q∨(∃i j,x= .str i∧y= .str j∧i.length + j.length≤sizeLine∧Q (.str (i ++ j)) H)∨G2 x y H Q) b1:=by
 intro σ ρ G H x y a4 fz Q r bY cP k
 unfold b1 at k
 split at k
 · rename_i i j
   simp only [At] at bY cP
   exact .inl ⟨i,j,bY,cP,k _ H G r (cz.refl _ _) (by simp only [At])⟩
 · rename_i i j
   simp only [At] at bY cP
   split at k
   · rename_i hl
     exact .inr (.inl ⟨i,j,bY,cP,Nat.le_trans hl (by decide),k _ H G r (cz.refl _ _) (by simp only [At])⟩)
   · exact k.elim
 · rename_i ds aq
   simp only [At] at bY cP
   split at k
   · rename_i hl
     obtain ⟨p,xs,ar,h1,a7⟩:=bY
     obtain ⟨b7,ys,aG,h2,bX⟩:=cP
     refine .inr (.inr ⟨p,b7,xs,ys,ar,aG,r.aI.sub _ _ h1,r.aI.sub _ _ h2,by rw [←a7.length,←bX.length]; exact Nat.le_trans hl (by decide),fun l aC=>?_⟩)
     refine k (.ref l) _ _ (r.lay aC) (cz.lay r.aI.sub aC) ?_
     simp only [At]
     exact ⟨l,xs ++ ys,rfl,en,(a7.append bX).mono (Sub.upd (r.aI.sub.gone aC))⟩
   · exact k.elim
 · exact k.elim
theorem K6 (ha:a8 X F a m) (hb:a8 X F b n):a8 X F (.BinOp a .Add b pos) (ah b1 m n):=kE (Q6.or (Q7.or Gm)) QU ha hb
noncomputable def bT (b:Bool) (x y:D):R D:=if okN 8 x=true∧okN 8 y=true then .ok (.aw (if b then bA x y else !bA x y)) else .bad
noncomputable def Ad (F:bx) (b:Bool):ed:=fun x y H Q=>∃G d1 cC,Sub G H∧At F.K G d1 x∧At F.K G cC y∧okN 8 d1=true∧okN 8 cC=true∧Q (.aw (if b then bA d1 cC else !bA d1 cC)) H
theorem Gn (hK:F.K=X.K) (hu:X.A.units + 64 < cLine):dr X (compareOp .Eq) (Ad F true):=by
 intro pins s σ H x y v u Q ae bt b0 h
 obtain ⟨G,d1,cC,a5,a1,a2,c1,cQ,q⟩:=h
 rw [hK] at a1 a2
 exact (yG ae a5 8 (A:=X.A) c1 cQ ⟨x,a1,bt⟩ ⟨y,a2,b0⟩ (by omega)).2.1 X.prog X.w X.xe _ ⟨.aw _,H,ae,rfl,q⟩
theorem Gr (hK:F.K=X.K) (hu:X.A.units + 64 < cLine):dr X (compareOp .NotEq) (Ad F false):=by
 intro pins s σ H x y v u Q ae bt b0 h
 obtain ⟨G,d1,cC,a5,a1,a2,c1,cQ,q⟩:=h
 rw [hK] at a1 a2
 exact (yG ae a5 8 (A:=X.A) c1 cQ ⟨x,a1,bt⟩ ⟨y,a2,b0⟩ (by omega)).2.2 X.prog X.w X.xe _ ⟨.aw _,H,ae,rfl,q⟩
theorem wF (b:Bool):ft F (Ad F b) (bT b):=by
 intro σ ρ G H x y a4 fz Q r bY cP k
 unfold bT at k
 split at k
 · rename_i ho
   exact ⟨G,a4,fz,r.aI.sub,bY,cP,ho.1,ho.2,k _ H G r (cz.refl _ _) (by simp only [At])⟩
 · exact k.elim
theorem U4 (hu:X.A.units + 64 < cLine) (ha:a8 X F a m) (hb:a8 X F b n) (hK:F.K=X.K:=by rfl):fD X F (.Compare a [.Eq] [b] pos) (aH (ah (bT true) m n)):=rj (Gn hK hu) (wF true) ha hb (n5 _)
theorem U8 (hu:X.A.units + 64 < cLine) (ha:a8 X F a m) (hb:a8 X F b n) (hK:F.K=X.K:=by rfl):fD X F (.Compare a [.NotEq] [b] pos) (aH (ah (bT false) m n)):=rj (Gr hK hu) (wF false) ha hb (n5 _)
theorem Lf (hu:X.A.units + 64 < cLine) (ha:a8 X F a m) (hb:a8 X F b n) (hK:F.K=X.K:=by rfl):a8 X F (.Compare a [.Eq] [b] pos) (ah (bT true) m n):=vn (Gn hK hu) (wF true) ha hb (n5 _)
theorem Lz (hu:X.A.units + 64 < cLine) (ha:a8 X F a m) (hb:a8 X F b n) (hK:F.K=X.K:=by rfl):a8 X F (.Compare a [.NotEq] [b] pos) (ah (bT false) m n):=vn (Gr hK hu) (wF false) ha hb (n5 _)
end
end aD
set_option Elab.async false
set_option linter.all false
set_option maxRecDepth 100000
namespace aD
open PySem PySem.Spec bb
section
variable {X:aL} {F:bx} {e a b c:Expr} {aq:List Expr} {pos:Pos} {m n:aE}
theorem DA:∀{ds o1:List D},ds.length=o1.length→(∀(i:Nat) x y,ds[i]? =some x→o1[i]? =some y→∀z,bA x z=bA y z)→∀aq,ef ds aq=ef o1 aq
 | [],[],_,_,_=>rfl
 | [],_::_,h,_,_=>by simp at h
 | _::_,[],h,_,_=>by simp at h
 | x::xs,y::ys,h,k,[]=>by simp only [ef]
 | x::xs,y::ys,h,k,e::aq=>by
   simp only [ef]
   rw [k 0 x y rfl rfl e,DA (by simpa using h) (fun i a b ar aG=>k (i + 1) a b (by simpa using ar) (by simpa using aG)) aq]
theorem Hw {K:PySem.W.Frag} {G:ao} {d d':D} {x:V} (o:gr d=true) (a1:At K G d x) (a2:At K G d' x):d=d':=by
 cases d with
 | non=>
   simp only [At] at a1; subst a1
   cases d' <;> simp only [At] at a2 <;> first | rfl | (cases a2; done) | (obtain ⟨a,xs,e,_⟩:=a2; cases e; done) | (obtain ⟨a,a4,xs,e,_⟩:=a2; cases e; done)
 | aw b=>
   simp only [At] at a1; subst a1
   cases d' <;> simp only [At] at a2 <;> first | (cases a2; rfl) | (cases a2; done) | (obtain ⟨a,xs,e,_⟩:=a2; cases e; done) | (obtain ⟨a,a4,xs,e,_⟩:=a2; cases e; done)
 | int b=>
   simp only [At] at a1; subst a1
   cases d' <;> simp only [At] at a2 <;> first | (cases a2; rfl) | (cases a2; done) | (obtain ⟨a,xs,e,_⟩:=a2; cases e; done) | (obtain ⟨a,a4,xs,e,_⟩:=a2; cases e; done)
 | str b=>
   simp only [At] at a1; subst a1
   cases d' <;> simp only [At] at a2 <;> first | (cases a2; rfl) | (cases a2; done) | (obtain ⟨a,xs,e,_⟩:=a2; cases e; done) | (obtain ⟨a,a4,xs,e,_⟩:=a2; cases e; done)
 | _=>cases o
theorem gD.val {K:PySem.W.Frag} {G:ao} {d:D} {p:Addr} {b:Bool} {ds:List D} {xs:List V} (h:gD K G d p b ds xs) (e:D):bA d e=match e with
  | .tup aq=>b && ef ds aq
  | .eI aq=>b && ef ds aq
  | .lst aq=> !b && ef ds aq
  | .b8 aq=> !b && ef ds aq
  | _=>false:=by
 cases h <;> cases e <;> simp [bA]
section
variable {pins:List (Addr×Obj)} {σ :St} {H G:ao} {s:Shared}
theorem JR (ae:Inv X pins σ H s) (a5:Sub G H):∀(n:Nat) {d d':D} {x:V},okN n d=true→okN n d'=true→At X.K G d x→At X.K G d' x→∀e,bA d e=bA d' e:=by
 intro n
 induction n with
 | zero=>
   intro d d' x c1 cQ a1 a2 e
   rw [Hw (by cases d <;> first | rfl | (cases c1)) a1 a2]
 | succ n c0=>
   intro d d' x c1 cQ a1 a2 e
   cases s1:gr d with
   | true=>rw [Hw s1 a1 a2]
   | false=>
     cases s2:gr d' with
     | true=>exact (Dy s2 s1 a1 a2).elim
     | false=>
       obtain ⟨fp,gh,fy,oz,ar,a7,m1,Dt,k1⟩:=rf c1 s1 a1
       obtain ⟨b7,fG,eo,oA,aG,bX,m2,Du,k2⟩:=rf cQ s2 a2
       subst ar
       cases aG
       have:n=m1:=by omega
       subst this
       have:n=m2:=by omega
       subst this
       obtain ⟨bE,ex⟩:=a7.same ae a5 bX
       subst bE; subst ex
       have el:∀aq,ef fy aq=ef eo aq:=DA (a7.gR.length.trans bX.gR.length.symm) fun i a b au bE z=>by
        obtain ⟨v,ev,bo⟩:=a7.gR.get au
        obtain ⟨m5,r2,bv⟩:=bX.gR.get bE
        rw [ev] at r2; cases r2
        exact c0 (qa k1 au) (qa k2 bE) bo bv z
       rw [a7.val,bX.val]
       cases e <;> first | rfl | (simp only [el])
open Classical in
noncomputable def kz (K:PySem.W.Frag) (G:ao) (d:D) (u:Value):Bool:=if h:∃d',okN 7 d'=true∧k_ K G d' u then bA (Classical.choose h) d else false
theorem x_ (ae:Inv X pins σ H s) (a5:Sub G H) {d d1:D} {u:Value} (o:okN 7 d=true) (h:k_ X.K G d u):kz X.K G d1 u=bA d d1:=by
 have hx:∃d',okN 7 d'=true∧k_ X.K G d' u:=⟨d,o,h⟩
 unfold kz
 rw [dif_pos hx]
 obtain ⟨b_,h'⟩:=Classical.choose_spec hx
 obtain ⟨x,a,r⟩:=h
 obtain ⟨VU,x5,bf⟩:=h'
 have:VU=x:=bf.inj r
 subst this
 exact JR ae a5 7 b_ o x5 a d1
theorem ya (ae:Inv X pins σ H s) (a5:Sub G H) {d1:D}:∀{ds:List D} {xs:List V} {its:List Value},aN X.K G ds xs→Vals xs its→ds.all (okN 7)=true→its.any (kz X.K G d1)=ds.any fun y=>bA y d1
 | [],_,_,q,r,_=>by simp only [aN] at q; subst q; cases r; rfl
 | d::ds,_,_,q,r,o=>by
   simp only [aN] at q
   obtain ⟨v,xv,rfl,bo,kA⟩:=q
   cases r with
   | cons av bl=>
     rw [List.all_cons,Bool.and_eq_true] at o
     rw [List.any_cons,List.any_cons,x_ ae a5 o.1 ⟨v,bo,av⟩,ya ae a5 kA bl o.2]
theorem wo (ae:Inv X pins σ H s) (a5:Sub G H) {d1:D} {x:V} {v:Value} {A:Around} (hu:A.units + 8 < cLine) (c1:okN 7 d1=true) (a1:At X.K G d1 x) (bt:RelV x v):∀{ds:List D} {xs:List V} {its:List Value},aN X.K G ds xs→Vals xs its→ds.all (okN 7)=true→
  ∀u∈its,SeqAt.EqAt A s u v (kz X.K G d1 u)
 | [],_,_,q,r,_=>by simp only [aN] at q; subst q; cases r; exact fun u hu=>nomatch hu
 | d::ds,_,_,q,r,o=>by
   simp only [aN] at q
   obtain ⟨w,wr,rfl,bo,kA⟩:=q
   cases r with
   | cons av bl=>
     rw [List.all_cons,Bool.and_eq_true] at o
     intro ih hm
     rcases List.mem_cons.mp hm with e | hm
     · subst e
       rw [x_ ae a5 o.1 ⟨w,bo,av⟩]
       exact (yG ae a5 7 (A:=A) o.1 c1 ⟨w,bo,av⟩ ⟨x,a1,bt⟩ (by omega)).1
     · exact wo ae a5 hu c1 a1 bt kA bl o.2 ih hm
end
noncomputable def tu:D→Option (List D)
 | .tup ys=>some ys
 | .eI ys=>some ys
 | .lst ys=>some ys
 | .b8 ys=>some ys
 | _=>none
noncomputable def inD (b:Bool) (x y:D):R D:=match tu y with
 | some ys=>if okN 7 x=true∧ys.all (okN 7)=true then .ok (.aw (if b then ys.any (fun y=>bA y x) else !ys.any fun y=>bA y x)) else .bad
 | none=> .bad
noncomputable def Ae (F:bx) (b:Bool):ed:=fun x y H Q=>∃G d1 cC p ds xs k,Sub G H∧At F.K G d1 x∧y= .ref p∧gD F.K G cC p k ds xs∧okN 7 d1=true∧ds.all (okN 7)=true∧Q (.aw (if b then ds.any (fun y=>bA y d1) else !ds.any fun y=>bA y d1)) H
theorem Rc (hK:F.K=X.K) (hu:X.A.units + 64 < cLine):dr X (compareOp .In) (Ae F true):=by
 intro pins s σ H x y v u Q ae bt b0 h
 obtain ⟨G,d1,cC,p,ds,xs,k,a5,a1,rfl,gu,c1,cQ,q⟩:=h
 rw [hK] at a1 gu
 cases b0
 obtain ⟨its,av,t1,eJ⟩:=gu.heap ae a5
 have q:Q (.aw (ds.any fun y=>bA y d1)) H:=q
 rw [←ya ae a5 gu.gR av cQ] at q
 have hm:=wo ae a5 (A:=X.A.in1) (d1:=d1) (by rw [in1_units]; omega) c1 a1 bt gu.gR av cQ
 cases k with
 | true=>exact SeqAt.in_tupleAt (kz X.K G d1) (t1 rfl) (fun w hw=>hm w (by simpa using hw)) ⟨.aw _,H,ae,rfl,by simpa using q⟩
 | false=>exact SeqAt.in_listAt (kz X.K G d1) (eJ rfl) (fun w hw=>hm w (by simpa using hw)) ⟨.aw _,H,ae,rfl,by simpa using q⟩
theorem Rh (hK:F.K=X.K) (hu:X.A.units + 64 < cLine):dr X (compareOp .NotIn) (Ae F false):=by
 intro pins s σ H x y v u Q ae bt b0 h
 obtain ⟨G,d1,cC,p,ds,xs,k,a5,a1,rfl,gu,c1,cQ,q⟩:=h
 rw [hK] at a1 gu
 cases b0
 obtain ⟨its,av,t1,eJ⟩:=gu.heap ae a5
 have q:Q (.aw (!ds.any fun y=>bA y d1)) H:=q
 rw [←ya ae a5 gu.gR av cQ] at q
 have hm:=wo ae a5 (A:=X.A.in1) (d1:=d1) (by rw [in1_units]; omega) c1 a1 bt gu.gR av cQ
 cases k with
 | true=>exact SeqAt.notIn_tupleAt (kz X.K G d1) (t1 rfl) (fun w hw=>hm w (by simpa using hw)) ⟨.aw _,H,ae,rfl,by simpa using q⟩
 | false=>exact SeqAt.notIn_listAt (kz X.K G d1) (eJ rfl) (fun w hw=>hm w (by simpa using hw)) ⟨.aw _,H,ae,rfl,by simpa using q⟩
theorem Ut {K:PySem.W.Frag} {G:ao} {d:D} {x:V} {ds:List D} (e:tu d=some ds) (a:At K G d x):∃p xs k,x= .ref p∧gD K G d p k ds xs:=by
 cases d <;> first
  | (cases e; done)
  | (cases e
     simp only [At] at a
     obtain ⟨p,xs,e,h,q⟩:=a
     first
      | exact ⟨p,xs,_,e,.tup (cK.of h) q⟩
      | exact ⟨p,xs,_,e,.eI h q⟩
      | exact ⟨p,xs,_,e,.lst h q⟩
      | exact ⟨p,xs,_,e,.b8 h q⟩)
theorem Gj (b:Bool):ft F (Ae F b) (inD b):=by
 intro σ ρ G H x y a4 fz Q r bY cP k
 unfold inD at k
 cases e:tu fz with
 | none=>rw [e] at k; exact k.elim
 | some ys=>
   rw [e] at k
   dsimp only at k
   split at k
   · rename_i ho
     obtain ⟨p,xs,cp,d3,gu⟩:=Ut e cP
     exact ⟨G,a4,fz,p,ys,xs,cp,r.aI.sub,bY,d3,gu,ho.1,ho.2,k _ H G r (cz.refl _ _) (by simp only [At])⟩
   · exact k.elim
theorem U_ (hu:X.A.units + 64 < cLine) (ha:a8 X F a m) (hb:a8 X F b n) (hK:F.K=X.K:=by rfl) (hm:behindInMarks .NotIn b=false:=by with_unfolding_all rfl):fD X F (.Compare a [.NotIn] [b] pos) (aH (ah (inD false) m n)):=rj (Rh hK hu) (Gj false) ha hb hm
theorem Ll (hu:X.A.units + 64 < cLine) (ha:a8 X F a m) (hb:a8 X F b n) (hK:F.K=X.K:=by rfl) (hm:behindInMarks .In b=false:=by with_unfolding_all rfl):a8 X F (.Compare a [.In] [b] pos) (ah (inD true) m n):=vn (Rc hK hu) (Gj true) ha hb hm
noncomputable def nO:D→Bool
 | .non=>true
 | _=>false
noncomputable def eZ (b:Bool):D→D→R D
 | x,.non=> .ok (.aw (if b then nO x else !nO x))
 | _,_=> .bad
theorem Fq {K:PySem.W.Frag} {G:ao} {d:D} {x:V} (a:At K G d x):nO d=decide (x= .non):=by
 cases d <;> simp only [At] at a <;> first
  | (subst a; simp [nO]; done)
  | (obtain ⟨p,xs,e,_⟩:=a; subst e; simp [nO]; done)
  | (obtain ⟨p,a4,xs,e,_⟩:=a; subst e; simp [nO]; done)
theorem U6 (ha:a8 X F a m) (hb:a8 X F b n):fD X F (.Compare a [.Is] [b] pos) (aH (ah (eZ true) m n)):=rj Gp (fun σ ρ G H x y a4 fz Q r bY cP k=>by
 unfold eZ at k
 split at k
 · simp only [At] at cP
   rw [Fq bY] at k
   exact ⟨cP,k _ H G r (cz.refl _ _) (by simp only [At]; rfl)⟩
 · exact k.elim) ha hb (n5 _)
theorem Ln (ha:a8 X F a m) (hb:a8 X F b n):a8 X F (.Compare a [.Is] [b] pos) (ah (eZ true) m n):=vn Gp (fun σ ρ G H x y a4 fz Q r bY cP k=>by
 unfold eZ at k
 split at k
 · simp only [At] at cP
   rw [Fq bY] at k
   exact ⟨cP,k _ H G r (cz.refl _ _) (by simp only [At]; rfl)⟩
 · exact k.elim) ha hb (n5 _)
noncomputable def hL (f g:D→D→R D) (a b c:aE):aE:=fun ρ=>(a ρ).bind fun x=>(b ρ).bind fun y=>(f x y).bind fun z=>(jZ z).bind fun k=>if k=true then (c ρ).bind fun w=>g y w else .ok (.aw false)
theorem Fd {r bf:ed} {f g:D→D→R D} {l:aE} (hf:ft F r f) (hg:ft F bf g):ez (cR F (hL f g m n l)) (Bk r bf (cR F m) (cR F n) (cR F l)):=by
 rintro σ H Q ⟨G,ρ,Ah,h⟩
 unfold hL at h
 refine ⟨G,ρ,Ah,?_⟩
 cases au:m ρ with
 | bad=>rw [au] at h; exact h.elim
 | exc c=>rw [au] at h; exact h
 | ok a4=>
   rw [au,R.bH] at h
   intro x H1 aQ av s1 bY
   refine ⟨aQ,ρ,av,?_⟩
   cases bE:n ρ with
   | bad=>rw [bE] at h; exact h.elim
   | exc c=>rw [bE] at h; exact h
   | ok fz=>
     rw [bE,R.bH] at h
     intro y aT c4 bl s2 cP
     refine hf σ ρ c4 aT x y a4 fz _ bl (bY.mono s2.g) cP ?_
     cases lB:f a4 fz with
     | bad=>rw [lB] at h; exact h.elim
     | exc c=>rw [lB] at h; exact h
     | ok K1=>
       rw [lB,R.bH] at h
       intro z di gd ei s3 qd
       cases K1 with
       | aw k=>
         simp only [At] at qd
         refine ⟨k,qd,?_⟩
         have h:iO F G H σ ρ Q (if k=true then (l ρ).bind fun w=>g fz w else .ok (.aw false)):=h
         cases k with
         | false=>
           rw [if_neg Bool.false_ne_true] at h ⊢
           exact h _ di gd ei (s1.trans (s2.trans s3)) (by simp only [At])
         | true=>
           rw [if_pos rfl] at h ⊢
           refine ⟨gd,ρ,ei,?_⟩
           cases ec:l ρ with
           | bad=>rw [ec] at h; exact h.elim
           | exc c=>rw [ec] at h; exact h
           | ok K0=>
             rw [ec,R.bH] at h
             intro w gB rD pG s4 lr
             exact hg σ ρ rD gB y w fz K0 Q pG ((cP.mono s3.g).mono s4.g) lr (h.mono (s1.trans (s2.trans (s3.trans s4))))
       | _=>exact h.elim
theorem Ld {op fK:CmpOp} {r bf:ed} {f g:D→D→R D} {l:aE} (ho:dr X (compareOp op) r) (ho':dr X (compareOp fK) bf) (hf:ft F r f) (hg:ft F bf g) (ha:a8 X F a m) (hb:a8 X F b n) (hc:a8 X F c l) (hm:lastMarks [op,fK] [b,c]=false:=by with_unfolding_all rfl) :
  a8 X F (.Compare a [op,fK] [b,c] pos) (hL f g m n l):=aZ.imp (RG ho ho' ha hb hc hm) (Fd hf hg)
theorem U1 {op fK:CmpOp} {r bf:ed} {f g:D→D→R D} {l:aE} (ho:dr X (compareOp op) r) (ho':dr X (compareOp fK) bf) (hf:ft F r f) (hg:ft F bf g) (ha:a8 X F a m) (hb:a8 X F b n) (hc:a8 X F c l) (hm:lastMarks [op,fK] [b,c]=false:=by with_unfolding_all rfl) :
  fD X F (.Compare a [op,fK] [b,c] pos) (aH (hL f g m n l)):=eO.imp (Sl ho ho' ha hb hc hm) fun σ H Q h=>by
  obtain ⟨G,ρ,r,k⟩:=E_ (F:=F) (m:=hL f g m n l) σ H Q h
  exact Fd hf hg σ H _ ⟨G,ρ,r,k⟩
theorem QZ:ft F (kk fun i j=> .aw (decide (i < j))) nT:=q4 fun _ _ _=>by simp only [At]
theorem th:ft F (kk fun i j=> .aw (decide (i≤j))) jf:=q4 fun _ _ _=>by simp only [At]
end
end aD
set_option Elab.async false
set_option linter.all false
set_option maxRecDepth 100000
namespace aD
open PySem PySem.Spec bb
section
variable {X:aL} {F:bx} {e a b c:Expr} {aq:List Expr} {pos p:Pos} {m n:aE} {ma:bh}
noncomputable def bk (f:List D→R D) (m:bh):aE:=fun ρ=>(m ρ).bind f
noncomputable def l6 (F:bx) (r:List V→ao→cW→Prop) (f:List D→R D):Prop:=∀ σ ρ G H xs ds Q,Rel F G H σ ρ→aN F.K G ds xs→iO F G H σ ρ Q (f ds)→r xs H Q
theorem Fc {r:List V→ao→cW→Prop} {f:List D→R D} (hf:l6 F r f):ez (cR F (bk f ma)) (tC r (d8 F ma)):=by
 rintro σ H Q ⟨G,ρ,Ah,h⟩
 unfold bk at h
 refine ⟨G,ρ,Ah,?_⟩
 cases au:ma ρ with
 | bad=>rw [au] at h; exact h.elim
 | exc c=>rw [au] at h; exact h
 | ok ds=>
   rw [au,R.bH] at h
   intro vs H1 aQ av s1 a
   exact hf σ ρ aQ H1 vs ds Q av a (h.mono s1)
theorem vm {x:Str} {id:String} {r:List V→ao→cW→Prop} {f:List D→R D} (hc:jq X (.builtin id) r) (hf:l6 F r f) (hm:X.mg x=none) (hv:bootBuiltins x=some (.builtin id)) (ha:fR X F (e::aq) ma) (hg:cN X x:=by rfl) (aC:x≠"__name__":=by decide) (hdb:(x == ("__debug__" :Str))=false:=by decide)
  (he:starEach (e::aq) X.env=(false,eval e X.env)::starEach aq X.env:=by rfl) (hpl:(backTo pos (starEach aq X.env)).any (·.1)=false:=by rfl):a8 X F (.Call (.Name x p) (e::aq) [] pos) (bk f ma):=
 aZ.imp (wN hc hg hm hv ha aC hdb he hpl) (Fc hf)
theorem Dr {x:Str} {T:String} {r:List V→ao→cW→Prop} {f:List D→R D} (hc:jq X (.type T) r) (hf:l6 F r f) (hm:X.mg x=none) (hv:bootBuiltins x=some (.type T)) (ha:fR X F (e::aq) ma) (hg:cN X x:=by rfl) (aC:x≠"__name__":=by decide) (hdb:(x == ("__debug__" :Str))=false:=by decide)
  (he:starEach (e::aq) X.env=(false,eval e X.env)::starEach aq X.env:=by rfl) (hpl:(backTo pos (starEach aq X.env)).any (·.1)=false:=by rfl):a8 X F (.Call (.Name x p) (e::aq) [] pos) (bk f ma):=
 aZ.imp (GD hc hg hm hv ha aC hdb he hpl) (Fc hf)
noncomputable def cf:List D→R D
 | [.str x]=>if x.length≤1000000 then .ok (.int x.length) else .bad
 | [.lst xs]=> .ok (.int xs.length)
 | [.b8 xs]=> .ok (.int xs.length)
 | [.tup xs]=> .ok (.int xs.length)
 | [.eI xs]=> .ok (.int xs.length)
 | _=> .bad
theorem aN.one {K:PySem.W.Frag} {G:ao} {d:D} {vs:List V} (a:aN K G [d] vs):∃v,vs=[v]∧At K G d v:=by
 simp only [aN] at a
 obtain ⟨v,r,rfl,h,rfl⟩:=a
 exact ⟨v,rfl,h⟩
theorem aN.two {K:PySem.W.Frag} {G:ao} {d e:D} {vs:List V} (a:aN K G [d,e] vs):∃v w,vs=[v,w]∧At K G d v∧At K G e w:=by
 simp only [aN] at a
 obtain ⟨v,r,rfl,h,w,bf,rfl,h',rfl⟩:=a
 exact ⟨v,w,rfl,h,h'⟩
theorem QY (hK:F.K=X.K):l6 F (fun xs H Q=>∃x n,xs=[x]∧B5 X.K x H n∧Q (.int n) H) cf:=by
 intro σ ρ G H xs ds Q r al k
 unfold cf at k
 split at k
 · rename_i x
   obtain ⟨v,rfl,bo⟩:=al.one
   simp only [At] at bo; subst bo
   split at k
   · rename_i hl
     exact ⟨_,x.length,rfl,⟨Nat.le_trans hl (by decide),rfl⟩,k _ H G r (cz.refl _ _) (by simp only [At])⟩
   · exact k.elim
 · rename_i ys
   obtain ⟨v,rfl,bo⟩:=al.one
   simp only [At] at bo
   obtain ⟨q,xs,rfl,h,al⟩:=bo
   rw [al.length] at k
   exact ⟨_,xs.length,rfl,.inl ⟨xs,b4.of (r.aI.sub _ _ h),rfl⟩,k _ H G r (cz.refl _ _) (by simp only [At])⟩
 · rename_i ys
   obtain ⟨v,rfl,bo⟩:=al.one
   simp only [At] at bo
   obtain ⟨q,xs,rfl,h,al⟩:=bo
   rw [al.length] at k
   rw [hK] at h
   exact ⟨_,xs.length,rfl,.inl ⟨xs,b4.mono r.aI.sub h,rfl⟩,k _ H G r (cz.refl _ _) (by simp only [At])⟩
 · rename_i ys
   obtain ⟨v,rfl,bo⟩:=al.one
   simp only [At] at bo
   obtain ⟨q,xs,rfl,h,al⟩:=bo
   rw [al.length] at k
   exact ⟨_,xs.length,rfl,.inr ⟨xs,cK.of (r.aI.sub _ _ h),rfl⟩,k _ H G r (cz.refl _ _) (by simp only [At])⟩
 · rename_i ys
   obtain ⟨v,rfl,bo⟩:=al.one
   simp only [At] at bo
   obtain ⟨q,xs,rfl,h,al⟩:=bo
   rw [al.length] at k
   rw [hK] at h
   exact ⟨_,xs.length,rfl,.inr ⟨xs,cK.mono r.aI.sub h,rfl⟩,k _ H G r (cz.refl _ _) (by simp only [At])⟩
 · exact k.elim
theorem Lq (hm:X.mg "len"=none) (ha:fR X F [e] ma) (hK:F.K=X.K:=by rfl) (hg:cN X "len":=by rfl) (he:starEach [e] X.env=(false,eval e X.env)::starEach [] X.env:=by rfl) (hpl:(backTo pos (starEach [] X.env)).any (·.1)=false:=by rfl) :
  a8 X F (.Call (.Name "len" p) [e] [] pos) (bk cf ma):=vm Kf (QY hK) hm PySem.boot_len ha hg (by decide) (by decide) he hpl
noncomputable def gN:D→Option String
 | .non=>some "NoneType"
 | .aw _=>some "bool"
 | .int _=>some "int"
 | .str _=>some "str"
 | .lst _=>some "list"
 | .b8 _=>some "list"
 | .tup _=>some "tuple"
 | .dg _ _=>some "dict"
 | .a0 _ _=>some "dict"
 | _=>none
noncomputable def xf (T U:String):Bool:=T == U || (T == "bool" && U == "int")
noncomputable def eS (U:String) (d:D):R D:=match gN d with
 | some T=> .ok (.aw (xf T U))
 | none=> .bad
noncomputable def nv (K:PySem.W.Frag) (U:String):Prop:=∀T,T="NoneType"∨T="bool"∨T="int"∨T="str"∨T="list"∨T="tuple"∨T="dict"→PySem.W.kitOne K (.type T) (.type U)=some (xf T U)
theorem Vh (K:PySem.W.Frag):nv K "int":=fun T h=>by rcases h with rfl | rfl | rfl | rfl | rfl | rfl | rfl <;> kernel_rfl
theorem Ih (K:PySem.W.Frag):nv K "bool":=fun T h=>by rcases h with rfl | rfl | rfl | rfl | rfl | rfl | rfl <;> kernel_rfl
theorem Ii (K:PySem.W.Frag):nv K "str":=fun T h=>by rcases h with rfl | rfl | rfl | rfl | rfl | rfl | rfl <;> kernel_rfl
theorem xp (K:PySem.W.Frag):nv K "list":=fun T h=>by rcases h with rfl | rfl | rfl | rfl | rfl | rfl | rfl <;> kernel_rfl
theorem Bv (K:PySem.W.Frag):nv K "tuple":=fun T h=>by rcases h with rfl | rfl | rfl | rfl | rfl | rfl | rfl <;> kernel_rfl
theorem OL {pins:List (Addr×Obj)} {σ :St} {H G:ao} {s:Shared} {Q:Value→Shared→Prop} {E:Value→Shared→Prop} {d:D} {x:V} {u:Value} {T U:String} {k:Bool} (ae:Inv X pins σ H s) (a5:Sub G H) (at':At X.K G d x) (bt:RelV x u) (e:gN d=some T)
  (tt:PySem.W.kitOne X.K (.type T) (.type U)=some k) (h:∀du,Q (.bool k) { s with toks:=du }):wpAny (model X.prog X.w) X.A (call (.builtin "isinstance") [u,.type U]) Q E s:=by
 cases d with
 | non=>
   cases e; simp only [At] at at'; subst at'; cases bt
   exact PySem.W.kia_one PySem.W.kitx_none ae.e_ True.intro tt (fun z=>nomatch z) h
 | aw b=>
   cases e; simp only [At] at at'; subst at'; cases bt
   exact PySem.W.kia_one PySem.W.kitx_bool ae.e_ True.intro tt (fun z=>nomatch z) h
 | int b=>
   cases e; simp only [At] at at'; subst at'; obtain ⟨t,rfl⟩:=bt
   exact PySem.W.kia_one PySem.W.kitx_int ae.e_ True.intro tt (fun z=>nomatch z) h
 | str b=>
   cases e; simp only [At] at at'; subst at'; obtain ⟨t,rfl⟩:=bt
   exact PySem.W.kia_one PySem.W.kitx_str ae.e_ True.intro tt (fun z=>nomatch z) h
 | lst ds=>
   cases e; simp only [At] at at'
   obtain ⟨q,xs,rfl,aO,_⟩:=at'
   cases bt
   obtain ⟨its,_,⟨o,n,ar,aG,_⟩,_⟩:=ae.list (b4.of (a5 _ _ aO))
   exact PySem.W.kia_one PySem.W.kitx_list ae.e_ ⟨o,ar,aG⟩ tt (fun z=>nomatch z) h
 | b8 ds=>
   cases e; simp only [At] at at'
   obtain ⟨q,xs,rfl,aO,_⟩:=at'
   cases bt
   obtain ⟨its,_,⟨o,n,ar,aG,_⟩,_⟩:=ae.list (b4.mono a5 aO)
   exact PySem.W.kia_one PySem.W.kitx_list ae.e_ ⟨o,ar,aG⟩ tt (fun z=>nomatch z) h
 | tup ds=>
   cases e; simp only [At] at at'
   obtain ⟨q,xs,rfl,aO,_⟩:=at'
   cases bt
   obtain ⟨its,_,⟨o,ar,aG,_⟩,_⟩:=ae.tuple (cK.of (a5 _ _ aO))
   exact PySem.W.kia_one PySem.W.kitx_tuple ae.e_ ⟨o,ar,aG⟩ tt (fun z=>nomatch z) h
 | dg a_ ds=>
   cases e; simp only [At] at at'
   obtain ⟨q,xs,rfl,aO,_⟩:=at'
   cases bt
   obtain ⟨_,_,vs,_,o,aq,dW,h1,h2,_⟩:=(show e5 X.prog X.w H s.heap q (.dg xs) from ae.bB q _ (a5 _ _ aO))
   exact PySem.W.kia_one PySem.W.kitx_dict ae.e_ ⟨o,h1,h2.1⟩ tt (fun z=>nomatch z) h
 | a0 a_ ds=>
   cases e; simp only [At] at at'
   obtain ⟨q,xs,rfl,aO,_⟩:=at'
   cases bt
   obtain ⟨_,_,zs,_,o,aq,dW,h1,h2,_⟩:=(show e5 X.prog X.w H s.heap q (.a0 xs) from ae.bB q _ (a5 _ _ aO))
   exact PySem.W.kia_one PySem.W.kitx_dict ae.e_ ⟨o,h1,h2.1⟩ tt (fun z=>nomatch z) h
 | ins C ns ds=>cases e
 | gj C=>cases e
 | eI ds=>cases e
theorem Vs {d:D} {T:String} (e:gN d=some T):T="NoneType"∨T="bool"∨T="int"∨T="str"∨T="list"∨T="tuple"∨T="dict":=by
 cases d <;> cases e <;> simp
noncomputable def SJ (F:bx) (U:String):List V→ao→cW→Prop:=fun xs H Q=>∃G d x T,Sub G H∧xs=[x,.ty U]∧At F.K G d x∧gN d=some T∧Q (.aw (xf T U)) H
theorem Ke {U:String} (hK:F.K=X.K) (tt:nv X.K U):jq X (.builtin "isinstance") (SJ F U):=by
 intro pins s σ H xs us Q ae r h
 obtain ⟨G,d,x,T,a5,rfl,a,e,q⟩:=h
 obtain ⟨u,ey,rfl,bt,ej⟩:=vals2 r
 obtain rfl:ey=Value.type U:=ej
 rw [hK] at a
 exact OL ae a5 a bt e (tt T (Vs e)) fun du=>⟨.aw _,H,ae.tok du,rfl,q⟩
theorem Lo {U:Str} {T:String} {b7:Pos} (tt:nv X.K T) (hm:X.mg "isinstance"=none) (hmU:X.mg U=none) (hU:bootBuiltins U=some (.type T)) (ha:a8 X F a m) (hK:F.K=X.K:=by rfl) (hg:cN X "isinstance":=by rfl) (hgU:cN X U:=by rfl)
  (hnU:U≠"__name__":=by decide) (hdU:(U == ("__debug__" :Str))=false:=by decide)
  (hs2:starEach [.Name U b7] X.env=(false,eval (.Name U b7) X.env)::starEach [] X.env:=by rfl)
  (he:starEach [a,.Name U b7] X.env=(false,eval a X.env)::starEach [.Name U b7] X.env:=by rfl) (hpl:(backTo pos (starEach [.Name U b7] X.env)).any (·.1)=false:=by rfl) :
  a8 X F (.Call (.Name "isinstance" p) [a,.Name U b7] [] pos) (ct (eS T) m):=by
 have hb:bootBuiltins "isinstance"=some (.builtin "isinstance"):=by kernel_rfl
 refine aZ.imp (wN (Ke hK tt) hg hm hb (kU ha (kU (GC hgU hmU hU (v:= .ty T) rfl hnU hdU) n7 hs2) he) (by decide) (by decide) he hpl) ?_
 rintro σ H Q ⟨G,ρ,r,h⟩
 unfold ct at h
 refine ⟨G,ρ,r,?_⟩
 cases au:m ρ with
 | bad=>rw [au] at h; exact h.elim
 | exc c=>rw [au] at h; exact h
 | ok d=>
   rw [au,R.bH] at h
   intro x H1 aQ av s1 bY
   unfold eS at h
   cases e:gN d with
   | none=>rw [e] at h; exact h.elim
   | some Jz=>
     rw [e] at h
     exact ⟨aQ,d,x,Jz,av.aI.sub,rfl,bY,e,h _ H1 aQ av s1 (by simp only [At])⟩
noncomputable def ay:D→D→R D
 | .lst xs,.int i=>match iE xs i with | some d=> .ok d | none=> .bad
 | .b8 xs,.int i=>match iE xs i with | some d=> .ok d | none=> .bad
 | .tup xs,.int i=>match iE xs i with | some d=> .ok d | none=> .bad
 | .str x,.int i=>if x.length≤1000000 then match iE x.cps.toList i with | some c=> .ok (.str ⟨#[c]⟩) | none=> .bad else .bad
 | _,_=> .bad
theorem uv {K:PySem.W.Frag} {G:ao} {ds:List D} {xs:List V} {i:Int} {d:D} (q:aN K G ds xs) (e:iE ds i=some d):∃v,iE xs i=some v∧At K G d v:=by
 unfold iE at e ⊢
 rw [q.length] at e
 cases hV:pb xs.length i with
 | none=>rw [hV] at e; cases e
 | some j=>
   rw [hV] at e
   obtain ⟨v,ar,a⟩:=q.get e
   exact ⟨v,ar,a⟩
theorem QX (hK:F.K=X.K):ft F (G6 X.K) ay:=by
 intro σ ρ G H x y a4 fz Q r bY cP k
 unfold ay at k
 split at k
 · rename_i ds i
   simp only [At] at bY cP
   obtain ⟨p,xs,e,h,q⟩:=bY
   split at k
   · rename_i d hn
     obtain ⟨v,ev,bo⟩:=uv q hn
     exact .inl ⟨p,xs,i,v,e,cP,b4.of (r.aI.sub _ _ h),ev,k _ H G r (cz.refl _ _) bo⟩
   · exact k.elim
 · rename_i ds i
   simp only [At] at bY cP
   obtain ⟨p,xs,e,h,q⟩:=bY
   split at k
   · rename_i d hn
     obtain ⟨v,ev,bo⟩:=uv q hn
     have h':=h
     rw [hK] at h'
     exact .inl ⟨p,xs,i,v,e,cP,b4.mono r.aI.sub h',ev,k _ H G r (cz.refl _ _) bo⟩
   · exact k.elim
 · rename_i ds i
   simp only [At] at bY cP
   obtain ⟨p,xs,e,h,q⟩:=bY
   split at k
   · rename_i d hn
     obtain ⟨v,ev,bo⟩:=uv q hn
     exact .inr (.inl ⟨p,xs,i,v,e,cP,cK.of (r.aI.sub _ _ h),ev,k _ H G r (cz.refl _ _) bo⟩)
   · exact k.elim
 · rename_i z i
   simp only [At] at bY cP
   split at k
   · rename_i hl
     split at k
     · rename_i c ec
       exact .inr (.inr ⟨z,i,c,bY,cP,Nat.le_trans hl (by decide),ec,k _ H G r (cz.refl _ _) (by simp only [At])⟩)
     · exact k.elim
   · exact k.elim
 · exact k.elim
theorem Lp (ha:a8 X F a m) (hb:a8 X F b n) (hs:rL b) (hK:F.K=X.K:=by rfl):a8 X F (.Subscript a b pos) (ah ay m n):=aZ.imp (GH Fy ha hb hs) (vQ (QX hK))
end
end aD
set_option Elab.async false
set_option linter.all false
set_option maxRecDepth 100000
namespace aD
open PySem PySem.Spec bb
section
variable {X:aL} {F:bx} {e a b c:Expr} {aq:List Expr} {pos p:Pos} {m n:aE} {ma:bh}
noncomputable def iG {α:Type} (xs:List α) (lo hi:Option Int):List α:=(xs.drop (dZ.ew xs.length 0 lo)).take (dZ.ew xs.length xs.length hi - dZ.ew xs.length 0 lo)
noncomputable def oX (x:Str) (lo hi:Option Int):Str:=⟨(iG x.cps.toList lo hi).toArray⟩
theorem UA (lo hi:Option Int) (n:Nat):Builtin.Str.strSliceIndices lo hi 1 n=(List.range (dZ.ew n n hi - dZ.ew n 0 lo)).map (dZ.ew n 0 lo + ·):=by
 rw [←sliceRange_one]
 unfold Builtin.Str.strSliceIndices
 simp only [show (1:Int) > 0 by decide,if_true]
 congr 1
 · cases lo with
   | none=>rfl
   | some i=>
     show max 0 (min (if i < 0 then i + (n:Int) else i) (n:Int))=((if i < 0 then (i + (n:Int)).toNat else min i.toNat n:Nat):Int)
     split <;> omega
 · cases hi with
   | none=>rfl
   | some i=>
     show max 0 (min (if i < 0 then i + (n:Int) else i) (n:Int))=((if i < 0 then (i + (n:Int)).toNat else min i.toNat n:Nat):Int)
     split <;> omega
theorem Hl (n:Nat) (v:Option Int) {d:Nat} (hd:d≤n):dZ.ew n d v≤n:=by
 cases v with
 | none=>exact hd
 | some i=>
   show (if i < 0 then (i + (n:Int)).toNat else min i.toNat n)≤n
   split <;> omega
theorem Uq (x:Str) (lo hi:Option Int):Txt.slice x lo hi=oX x lo hi:=by
 have hl:x.cps.toList.length=x.length:=by simp [Str.length]
 unfold Txt.slice oX iG
 rw [UA,hl]
 split
 · rename_i h
   have h:dZ.ew x.length x.length hi - dZ.ew x.length 0 lo=x.length:=by simpa using h
   have h1:=Hl x.length hi (Nat.le_refl _)
   have h2:dZ.ew x.length 0 lo=0∨x.length=0:=by omega
   have e:(x.cps.toList.drop (dZ.ew x.length 0 lo)).take (dZ.ew x.length x.length hi - dZ.ew x.length 0 lo)=x.cps.toList:=by
    rw [h]
    rcases h2 with z | z
    · rw [z,List.drop_zero,List.take_of_length_le (by omega)]
    · have cw:x.cps.toList=[]:=List.length_eq_zero_iff.mp (by omega)
      rw [cw]; simp
   rw [e]
 · rw [pick_run]
noncomputable def Hb:V→Option Int→Option Int→ao→cW→Prop:=fun x lo hi H Q=>∃z,x= .str z∧z.length≤sizeLine∧Q (.str (oX z lo hi)) H
theorem Gx {v:Value} {o:Option Int} (h:IsPart v o):∃l:Option (Int×Tok),v=partValue l∧l.map (·.1)=o:=by
 cases h with
 | none=>exact ⟨none,rfl,rfl⟩
 | int i t=>exact ⟨some (i,t),rfl,rfl⟩
theorem Un:oN X Hb:=by
 intro pins s σ H x v kp kq lo hi cB Q ae bt hs pl pu h
 obtain ⟨z,rfl,br,q⟩:=h
 obtain ⟨t,rfl⟩:=bt
 obtain ⟨l,rfl,el⟩:=Gx pl
 obtain ⟨u,rfl,nF⟩:=Gx pu
 refine ⟨"str",_,F.slot_str_getitem.lookup,typeIs_str s z t,wpAny_getItem_str_slice (l:=l) (u:=u) (st:=none) ?_ rfl ?_⟩
 · obtain ⟨o,h1,h2,h3⟩:=hs
   exact ⟨o,h1,h2,h3⟩
 · have e:Txt.slice z lo hi=oX z lo hi:=Uq z lo hi
   have fin:∀t' k,fS X pins σ Q (.str (Txt.slice z lo hi) t') { s with toks:=k }:=fun t' k=>⟨.str (oX z lo hi),H,ae.tok k,⟨t',by rw [e]⟩,q⟩
   unfold Txt.slice at fin
   subst el nF
   exact post_val_or_str ⟨Nat.le_trans (Txt.slice_le z _ _) br,fin⟩
noncomputable abbrev me:=az→R (Option Int)
noncomputable def iR:me:=fun _=> .ok none
noncomputable def intD:D→R (Option Int)
 | .int i=> .ok (some i)
 | _=> .bad
noncomputable def fl (m:aE):me:=fun ρ=>(m ρ).bind intD
noncomputable def O6 (F:bx) (G H:ao) (σ :St) (ρ:az) (Q:Option Int→ao→Prop):R (Option Int)→Prop
 | .ok o=>∀H' G',Rel F G' H' σ ρ→cz G H G' H'→Q o H'
 | .exc c=>ke F c
 | .bad=>False
noncomputable def xk (F:bx) (m:me):b9:=fun σ H Q=>∃G ρ,Rel F G H σ ρ∧O6 F G H σ ρ Q (m ρ)
noncomputable abbrev uf (X:aL) (F:bx) (e:Option Expr) (m:me):Prop:=p4 X e (xk F m)
theorem Rx:uf X F none iR:=fun pins s σ H Q ae h=>by
 obtain ⟨G,ρ,r,k⟩:=h
 exact R8 pins s σ H Q ae (k H G r (cz.refl _ _))
theorem Ry (h:a8 X F e m):uf X F (some e) (fl m):=fun pins s σ H Q ae hw=>by
 obtain ⟨G,ρ,r,k⟩:=hw
 refine R9 h pins s σ H Q ae ⟨G,ρ,r,?_⟩
 unfold fl at k
 cases au:m ρ with
 | bad=>rw [au] at k; exact k.elim
 | exc c=>rw [au] at k; exact k
 | ok d=>
   rw [au,R.bH] at k
   intro x H1 aQ av s1 bY
   cases d with
   | int i=>simp only [At] at bY; exact ⟨i,bY,k H1 aQ av s1⟩
   | _=>exact k.elim
noncomputable def f5 (f:D→Option Int→Option Int→R D) (m:aE) (lo hi:me):aE:=fun ρ=>(m ρ).bind fun d=>(lo ρ).bind fun l=>(hi ρ).bind fun h=>f d l h
noncomputable def gs (d:D) (l h:Option Int):R D:=match d with
 | .lst xs=> .ok (.lst (iG xs l h))
 | .b8 xs=> .ok (.lst (iG xs l h))
 | .str x=>if x.length≤1000000 then .ok (.str (oX x l h)) else .bad
 | _=> .bad
theorem aN.cut {K:PySem.W.Frag} {G:ao} {ds:List D} {xs:List V} (q:aN K G ds xs) (l h:Option Int):aN K G (iG ds l h) (qr xs l h):=by
 unfold iG qr
 rw [q.length]
 exact (q.drop _).take _
theorem Od (hK:F.K=X.K) {lo hi:me}:ez (cR F (f5 gs m lo hi)) (H_ (fun x lo hi H Q=>Ha X.K x lo hi H Q∨Hb x lo hi H Q) (cR F m) (xk F lo) (xk F hi)):=by
 rintro σ H Q ⟨G,ρ,r,h⟩
 unfold f5 at h
 refine ⟨G,ρ,r,?_⟩
 cases au:m ρ with
 | bad=>rw [au] at h; exact h.elim
 | exc c=>rw [au] at h; exact h
 | ok d=>
   rw [au,R.bH] at h
   intro x H1 aQ av s1 bY
   refine ⟨aQ,ρ,av,?_⟩
   cases el:lo ρ with
   | bad=>rw [el] at h; exact h.elim
   | exc c=>rw [el] at h; exact h
   | ok l=>
     rw [el,R.bH] at h
     intro aT c4 bl s2
     refine ⟨c4,ρ,bl,?_⟩
     cases yC:hi ρ with
     | bad=>rw [yC] at h; exact h.elim
     | exc c=>rw [yC] at h; exact h
     | ok u=>
       rw [yC,R.bH] at h
       intro di gd ei s3
       have up:=s1.trans (s2.trans s3)
       have qc:=(bY.mono s2.g).mono s3.g
       cases d with
       | lst ds=>
         simp only [At] at qc
         obtain ⟨q,xs,rfl,aO,al⟩:=qc
         refine .inl ⟨q,xs,rfl,b4.of (ei.aI.sub _ _ aO),fun cO aC=>?_⟩
         refine h (.ref cO) _ _ (ei.lay aC) (up.trans (cz.lay ei.aI.sub aC)) ?_
         simp only [At]
         exact ⟨cO,_,rfl,en,(al.cut l u).mono (Sub.upd (ei.aI.sub.gone aC))⟩
       | b8 ds=>
         simp only [At] at qc
         obtain ⟨q,xs,rfl,aO,al⟩:=qc
         have nI:=aO
         rw [hK] at nI
         refine .inl ⟨q,xs,rfl,b4.mono ei.aI.sub nI,fun cO aC=>?_⟩
         refine h (.ref cO) _ _ (ei.lay aC) (up.trans (cz.lay ei.aI.sub aC)) ?_
         simp only [At]
         exact ⟨cO,_,rfl,en,(al.cut l u).mono (Sub.upd (ei.aI.sub.gone aC))⟩
       | str z=>
         simp only [At] at qc
         have h:iO F G H σ ρ Q (if z.length≤1000000 then .ok (.str (oX z l u)) else .bad):=h
         split at h
         · rename_i br
           exact .inr ⟨z,qc,Nat.le_trans br (by decide),h _ di gd ei up (by simp only [At])⟩
         · exact h.elim
       | _=>exact h.elim
theorem LI {lo hi:Option Expr} {b7:Pos} {s9 s7:me} (ha:a8 X F a m) (hl:uf X F lo s9) (hh:uf X F hi s7) (hK:F.K=X.K:=by rfl):a8 X F (.Subscript a (.Slice lo hi none b7) pos) (f5 gs m s9 s7):=aZ.imp (RW (Um.or Un) ha hl hh) (Od hK)
noncomputable def tA:List D→R D
 | [.int i]=>if i.natAbs.log2 < 1920 then .ok (.str (toString i)) else .bad
 | _=> .bad
theorem Q3:l6 F (fun xs H Q=>∃i,xs=[.int i]∧i.natAbs.log2 < 1920∧Q (.str (toString i)) H) tA:=by
 intro σ ρ G H xs ds Q r al k
 unfold tA at k
 split at k
 · rename_i i
   split at k
   · rename_i hl
     exact ⟨i,al.ints1,hl,k _ H G r (cz.refl _ _) (by simp only [At])⟩
   · exact k.elim
 · exact k.elim
theorem LK (hm:X.mg "str"=none) (ha:fR X F [e] ma) (hg:cN X "str":=by rfl) (he:starEach [e] X.env=(false,eval e X.env)::starEach [] X.env:=by rfl) (hpl:(backTo pos (starEach [] X.env)).any (·.1)=false:=by rfl) :
  a8 X F (.Call (.Name "str" p) [e] [] pos) (bk tA ma):=Dr Kj Q3 hm (by kernel_rfl) ha hg (by decide) (by decide) he hpl
end
end aD
set_option Elab.async false
set_option linter.all false
set_option maxRecDepth 100000
namespace bb
open PySem PySem.Spec
section
variable {prog:Program} {w:World} {A:Around} {E:Value→Shared→Prop} {s:Shared}
theorem Qw {it t:Addr} {i:Nat} {items:Array Value} {x:Value} {Q:Value→Shared→Prop} (hit:s.heap.IsTupleIter it t i) (ht:s.heap.IsTuple t items) (hx:items[i]? =some x)
  (gX:∀h',h'.IsTupleIter it t (i + 1)→Heap.SameBut it s.heap h'→Q x { s with heap:=h' }):wpAny (model prog w) A (Builtin.SmallTypes.nextOf (.ref it)) Q E s:=by
 obtain ⟨o,ho,hc,hd⟩:=id hit
 obtain ⟨ol,zh,_,nl,y6⟩:=ht
 unfold Builtin.SmallTypes.nextOf
 refine wpAny_bind (wpAny_callSpecial?_slot (name:=Str.ofString "__next__") hit.typeIs F.slot_tuple_iterator_next
  (wpAny_call_entry F.slot_tuple_iterator_next hit.typeIs F.entry_tuple_iterator_next ?_ (F.args_tuple_iterator_next_1 _)))
 show wpAny _ _ (field (.ref it) 0 >>= _) _ _ s
 refine wpAny_bind (wpAny_field ho hd (x:= .ref t) rfl ?_)
 show wpAny _ _ (if (Value.ref t == Value.none)=true then _ else _) _ _ s
 rw [if_neg (show ¬ ((Value.ref t == Value.none)=true) from Bool.false_ne_true)]
 show wpAny _ _ (field (.ref it) 1 >>= _) _ _ s
 refine wpAny_bind (wpAny_field ho hd (x:= .int i 0) rfl ?_)
 show wpAny _ _ (seqItems? (.ref t) >>= _) _ _ s
 refine wpAny_bind (wpAny_seqItems zh y6 ?_)
 simp only [Int.toNat_natCast,hx]
 refine wpAny_bind (wpAny_setField ho hd (by simp) (wpAny_pure ⟨x,rfl,wpAny_pure (gX _ ?_ (Heap.SameBut.update ..))⟩))
 exact ⟨_,Heap.get?_update_self _ ho (Obj.isFreed_of_fields (Obj.data_mapFields hd _)),(Obj.cls_mapFields ..).trans hc,by
  rw [Obj.data_mapFields hd]; simp [rawInt]⟩
theorem Qv {it t:Addr} {i:Nat} {items:Array Value} {Q:Value→Shared→Prop} (hh:A.handled=none) (hit:s.heap.IsTupleIter it t i) (ht:s.heap.IsTuple t items) (hx:items[i]? =none)
  (hE:∀h' e,Heap.ExtBut it s.heap h'→(∃o,h'.get? e=some o∧o.cls= .type "StopIteration")→E (.ref e) { s with heap:=h' }):wpAny (model prog w) A (Builtin.SmallTypes.nextOf (.ref it)) Q E s:=by
 obtain ⟨o,ho,hc,hd⟩:=id hit
 obtain ⟨ol,zh,_,nl,y6⟩:=ht
 unfold Builtin.SmallTypes.nextOf
 refine wpAny_bind (wpAny_callSpecial?_slot (name:=Str.ofString "__next__") hit.typeIs F.slot_tuple_iterator_next
  (wpAny_call_entry F.slot_tuple_iterator_next hit.typeIs F.entry_tuple_iterator_next ?_ (F.args_tuple_iterator_next_1 _)))
 show wpAny _ _ (field (.ref it) 0 >>= _) _ _ s
 refine wpAny_bind (wpAny_field ho hd (x:= .ref t) rfl ?_)
 show wpAny _ _ (if (Value.ref t == Value.none)=true then _ else _) _ _ s
 rw [if_neg (show ¬ ((Value.ref t == Value.none)=true) from Bool.false_ne_true)]
 show wpAny _ _ (field (.ref it) 1 >>= _) _ _ s
 refine wpAny_bind (wpAny_field ho hd (x:= .int i 0) rfl ?_)
 show wpAny _ _ (seqItems? (.ref t) >>= _) _ _ s
 refine wpAny_bind (wpAny_seqItems zh y6 ?_)
 simp only [Int.toNat_natCast,hx]
 refine wpAny_bind (wpAny_rule (wpAny_bind (wpAny_setField ho hd (by simp) ?_)))
 show wpAny _ _ (newExc (.type "StopIteration") [] >>= _) _ _ _
 refine wpAny_bind ?_
 simp only [newExc,newTuple]
 refine wpAny_bind (wpAny_newObj_type ?_ (by size_fits))
 refine wpAny_bind (m:=firstArgMember _ _) (wpAny_of_eq (a:=Value.none) (by first | rfl | (simp only [firstArgMember]; rfl)) ?_)
 refine wpAny_newObj_type ?_ (by size_fits)
 simp only [raiseNew]
 refine wpAny_bind (wpAny_handled ?_)
 first | rw [show A.in1.handled=none from hh] | rw [hh]
 refine wpAny_bind (wpAny_pure (wpAny_throw ?_))
 exact hE _ _ (((Heap.SameBut.update ..).extBut.push _).push _) ⟨_,Heap.get?_push_size _ rfl,rfl⟩
theorem Dp (hh:A.handled=none) (it l:Addr) (ze:l≠it) (items:Array Value) :
  Draws prog w A it [it,l] items.size (fun i v=>items[i]? =some v) (fun i h=>h.IsTupleIter it l i∧h.IsTuple l items) where
 live:=fun _ _ st=>let ⟨o,ho,_⟩:=st.1; ⟨o,ho⟩
 frame:=fun _ _ _ st hk=>⟨st.1.at fun o e=>hk it (by simp) o e,st.2.at fun o e=>hk l (by simp) o e⟩
 item:=fun i s Q E hi st gX=>by
  refine Qw st.1 st.2 (x:=items[i]) (by simp [hi]) fun h' MS nJ=>?_
  exact gX _ h' s.toks (by simp [hi]) ⟨MS,st.2.extBut nJ.extBut ze⟩ nJ
 done:=fun s Q E st hE=>Qv hh st.1 st.2 (by simp) hE
structure p8 (z TI b9 cA cc:Addr) (f1 f2:List Addr):Prop where
 TIz:TI≠z
 TOz:b9≠z
 TITO:TI≠b9
 TIi1:TI≠cA
 TIi2:TI≠cc
 TOi1:b9≠cA
 TOi2:b9≠cc
 i1z:cA≠z
 i2z:cc≠z
 i12:cA≠cc
 yN:z∉f1
 DC:b9∉f1
 L_:cc∉f1
 yP:z∉f2
 yO:b9∉f2
 DE:cA∉f2
theorem j1 {a6:List Addr} {n:Nat} {P:Nat→Value→Prop} {St:Nat→Heap→Prop} {it b:Addr} {h h':Heap} {i:Nat} (D:Draws prog w A it a6 n P St) (st:St i h) (hs:Heap.SameBut b h h') (hb:b∉a6):St i h':=
 D.frame i h h' st fun c hc o e=>hs.extBut c o (fun z=>hb (z ▸ hc)) e
theorem WH {z TI b9 cA cc:Addr} {f1 f2:List Addr} {ff dc i:Nat} {mj ml:Nat→Value→Prop} {iB iC:Nat→Heap→Prop} {a b:Value} {Q:Value→Shared→Prop} (g5:Draws prog w A cA f1 ff mj iB) (gQ:Draws prog w A cc f2 dc ml iC) (ap:p8 z TI b9 cA cc f1 f2)
  (br:IsZip s.heap z TI b9 .none) (hH:IsPair s.heap TI (.ref cA) (.ref cc)) (hX:IsPair s.heap b9 a b) (h1:iB i s.heap) (h2:iC i s.heap) (eJ:i < ff) (cO:i < dc)
  (gX:∀x y h' du,mj i x→ml i y→IsZip h' z TI b9 (rawInt s.heap.objs.size)→IsPair h' b9 x y→iB (i + 1) h'→iC (i + 1) h'→IsPair h' s.heap.objs.size x y→h'.objs.size=s.heap.objs.size + 1→
    (∀c o,c≠z→c≠b9→c≠cA→c≠cc→s.heap.get? c=some o→h'.get? c=some o)→Q (.ref s.heap.objs.size) { s with heap:=h',toks:=du }) :
  wpAny (model prog w) A (Builtin.«zip.__next__» ⟨[.ref z],[]⟩) (fun fin s'=>∃v,fin= .done (.ret v)∧Q v s') E s:=by
 show wpAny _ _ (field (.ref z) 2 >>= _) _ _ _
 refine wpAny_bind (wpAny_field br rfl (x:= .bool false) rfl ?_)
 show wpAny _ _ (field (.ref z) 3 >>= _) _ _ _
 refine wpAny_bind (wpAny_field br rfl (x:= .ref TI) rfl ?_)
 refine wpAny_bind (wpAny_seqItems hH rfl ?_)
 show wpAny _ _ (Builtin.SmallTypes.ownedTupleIsFree (.ref z) >>= _) _ _ _
 refine wpAny_bind ?_
 unfold Builtin.SmallTypes.ownedTupleIsFree
 refine wpAny_bind (wpAny_field br rfl (x:= .none) rfl (wpAny_pure ?_))
 simp only [if_true]
 refine wpAny_bind (wpAny_rule ?_)
 refine wpAny_bind (wpAny_field br rfl (x:= .ref b9) rfl ?_)
 refine wpAny_bind (wpAny_setField_rec br (by simp) fun kb nN kJ=>?_)
 replace nN:IsZip kb z TI b9 .ellipsis:=nN
 refine wpAny_bind ?_
 simp only [List.zipIdx_cons,List.zipIdx_nil,List.forIn_cons,List.forIn_nil]
 refine wpAny_bind (wpAny_bind (wpAny_onRaise ?_))
 show wpAny _ _ (Builtin.SmallTypes.nextOf (.ref cA) >>= _) _ _ _
 refine wpAny_bind (g5.item i _ _ _ eJ (j1 g5 h1 kJ ap.yN) fun x kK Im hx HN jC=>wpAny_pure ?_)
 have sh:IsPair kK b9 a b:=jC.extBut _ _ ap.TOi1 (kJ.extBut _ _ ap.TOz hX)
 refine wpAny_bind (wpAny_seqItems sh rfl ?_)
 refine wpAny_bind (wpAny_updateSeq_pair sh fun lJ vE j_=>?_)
 replace vE:IsPair lJ b9 x b:=vE
 refine wpAny_bind (wpAny_letGo (wpAny_pure ?_))
 refine wpAny_bind (wpAny_bind (wpAny_onRaise ?_))
 show wpAny _ _ (Builtin.SmallTypes.nextOf (.ref cc) >>= _) _ _ _
 have Uv:iC i lJ:=j1 gQ (j1 gQ (j1 gQ h2 kJ ap.yP) jC ap.DE) j_ ap.yO
 refine wpAny_bind (gQ.item i _ _ _ cO Uv fun y qD Xa b5 UB nL=>wpAny_pure ?_)
 have EJ:IsPair qD b9 x b:=nL.extBut _ _ ap.TOi2 vE
 refine wpAny_bind (wpAny_seqItems EJ rfl ?_)
 refine wpAny_bind (wpAny_updateSeq_pair EJ fun f3 vF nM=>?_)
 replace vF:IsPair f3 b9 x y:=vF
 refine wpAny_bind (wpAny_letGo (wpAny_pure (wpAny_pure ?_)))
 refine wpAny_bind (wpAny_seqItems vF rfl ?_)
 refine wpAny_bind (wpAny_newTuple ?_)
 have hsz:f3.objs.size=s.heap.objs.size:=by rw [nM.1,nL.1,j_.1,jC.1,kJ.1]
 have E2:IsZip f3 z TI b9 .ellipsis:=nM.extBut _ _ ap.TOz.symm (nL.extBut _ _ ap.i2z.symm (j_.extBut _ _ ap.TOz.symm (jC.extBut _ _ ap.i1z.symm nN)))
 have MW:∀c o,c≠z→c≠b9→c≠cA→c≠cc→s.heap.get? c=some o→f3.get? c=some o:=fun c o bD c_ fx hj e=>
  nM.extBut _ _ c_ (nL.extBut _ _ hj (j_.extBut _ _ c_ (jC.extBut _ _ fx (kJ.extBut _ _ bD e))))
 have Uu:iB (i + 1) f3:=j1 g5 (j1 g5 (j1 g5 HN j_ ap.DC) nL ap.L_) nM ap.DC
 have Uw:iC (i + 1) f3:=j1 gQ UB nM ap.yO
 have EZ:z < f3.objs.size:=Heap.lt_size E2
 show wpAny _ _ (Builtin.SmallTypes.ownedTupleHandOut (.ref z) (.ref f3.objs.size) >>= _) _ _ _
 refine wpAny_bind ?_
 unfold Builtin.SmallTypes.ownedTupleHandOut
 have Nt:IsZip (f3.push { cls:= .type "tuple",data:= .seq #[x,y] }) z TI b9 .ellipsis:=Heap.get?_push_of_some _ E2
 refine wpAny_bind (wpAny_setField_rec Nt (by simp) fun Nw zr zk=>?_)
 replace zr:IsZip Nw z TI b9 (rawInt f3.objs.size):=zr
 refine wpAny_setField_rec zr (by simp) fun sx vO zl=>?_
 replace vO:IsZip sx z TI b9 (rawInt f3.objs.size):=vO
 have up:∀c o,c≠z→f3.get? c=some o→sx.get? c=some o:=fun c o bD e=>zl.extBut _ _ bD (zk.extBut _ _ bD (Heap.get?_push_of_some _ e))
 have EL:IsPair sx f3.objs.size x y:=zl.extBut _ _ (Nat.ne_of_gt EZ) (zk.extBut _ _ (Nat.ne_of_gt EZ) (Heap.get?_push_size _ rfl))
 have EY:sx.objs.size=f3.objs.size + 1:=by rw [zl.1,zk.1,Heap.size_push]
 rw [hsz] at vO EL EY
 refine wpAny_pure ⟨_,rfl,?_⟩
 show Q (.ref f3.objs.size) _
 rw [hsz]
 exact gX x y sx _ hx b5 vO (up _ _ ap.TOz vF) (g5.frame _ _ _ Uu fun c hc o e=>up c o (fun q=>ap.yN (q ▸ hc)) e) (gQ.frame _ _ _ Uw fun c hc o e=>up c o (fun q=>ap.yP (q ▸ hc)) e) EL EY fun c o bD c_ fx hj e=>up c o bD (MW c o bD c_ fx hj e)
theorem WG {z TI b9 cA cc:Addr} {f1 f2:List Addr} {ff dc i:Nat} {mj ml:Nat→Value→Prop} {iB iC:Nat→Heap→Prop} {a b:Value} {Q:Fin→Shared→Prop} (g5:Draws prog w A cA f1 ff mj iB) (gQ:Draws prog w A cc f2 dc ml iC) (ap:p8 z TI b9 cA cc f1 f2)
  (br:IsZip s.heap z TI b9 .none) (hH:IsPair s.heap TI (.ref cA) (.ref cc)) (hX:IsPair s.heap b9 a b) (h1:iB i s.heap) (h2:iC i s.heap) (y8:i=ff∨(i < ff∧i=dc))
  (hE:∀h' e du,(∀c o,c≠z→c≠b9→c≠cA→c≠cc→s.heap.get? c=some o→h'.get? c=some o)→(∃o,h'.get? e=some o∧o.cls= .type "StopIteration")→E (.ref e) { s with heap:=h',toks:=du }) :
  wpAny (model prog w) A (Builtin.«zip.__next__» ⟨[.ref z],[]⟩) Q E s:=by
 show wpAny _ _ (field (.ref z) 2 >>= _) _ _ _
 refine wpAny_bind (wpAny_field br rfl (x:= .bool false) rfl ?_)
 show wpAny _ _ (field (.ref z) 3 >>= _) _ _ _
 refine wpAny_bind (wpAny_field br rfl (x:= .ref TI) rfl ?_)
 refine wpAny_bind (wpAny_seqItems hH rfl ?_)
 show wpAny _ _ (Builtin.SmallTypes.ownedTupleIsFree (.ref z) >>= _) _ _ _
 refine wpAny_bind ?_
 unfold Builtin.SmallTypes.ownedTupleIsFree
 refine wpAny_bind (wpAny_field br rfl (x:= .none) rfl (wpAny_pure ?_))
 simp only [if_true]
 refine wpAny_bind (wpAny_rule ?_)
 refine wpAny_bind (wpAny_field br rfl (x:= .ref b9) rfl ?_)
 refine wpAny_bind (wpAny_setField_rec br (by simp) fun kb nN kJ=>?_)
 replace nN:IsZip kb z TI b9 .ellipsis:=nN
 refine wpAny_bind ?_
 simp only [List.zipIdx_cons,List.zipIdx_nil,List.forIn_cons,List.forIn_nil]
 refine wpAny_bind (wpAny_bind (wpAny_onRaise ?_))
 show wpAny _ _ (Builtin.SmallTypes.nextOf (.ref cA) >>= _) _ _ _
 have HJ:iB i kb:=j1 g5 h1 kJ ap.yN
 rcases y8 with ar | ⟨eJ,aG⟩
 · subst ar
   refine wpAny_bind (g5.done _ _ _ HJ fun kK e jC he=>?_)
   obtain ⟨wD,o_,sj⟩:=he
   have E0:IsZip kK z TI b9 .ellipsis:=jC _ _ ap.i1z.symm nN
   have y9:e≠z:=fun x=>by subst x; rw [E0] at o_; cases o_; simp at sj
   refine wpAny_setField_rec E0 (by simp) fun lJ _ j_=>hE lJ e s.toks (fun c o bD _ fx _ x=>j_.extBut _ _ bD (jC _ _ fx (kJ.extBut _ _ bD x))) ⟨wD,j_.extBut _ _ y9 o_,sj⟩
 · subst aG
   refine wpAny_bind (g5.item _ _ _ _ eJ HJ fun x kK Im hx HN jC=>wpAny_pure ?_)
   have sh:IsPair kK b9 a b:=jC.extBut _ _ ap.TOi1 (kJ.extBut _ _ ap.TOz hX)
   refine wpAny_bind (wpAny_seqItems sh rfl ?_)
   refine wpAny_bind (wpAny_updateSeq_pair sh fun lJ vE j_=>?_)
   refine wpAny_bind (wpAny_letGo (wpAny_pure ?_))
   refine wpAny_bind (wpAny_bind (wpAny_onRaise ?_))
   show wpAny _ _ (Builtin.SmallTypes.nextOf (.ref cc) >>= _) _ _ _
   refine wpAny_bind (gQ.done _ _ _ (j1 gQ (j1 gQ (j1 gQ h2 kJ ap.yP) jC ap.DE) j_ ap.yO) fun qD e nL he=>?_)
   obtain ⟨wD,o_,sj⟩:=he
   have E1:IsZip qD z TI b9 .ellipsis:=nL _ _ ap.i2z.symm (j_.extBut _ _ ap.TOz.symm (jC.extBut _ _ ap.i1z.symm nN))
   have y9:e≠z:=fun x=>by subst x; rw [E1] at o_; cases o_; simp at sj
   refine wpAny_setField_rec E1 (by simp) fun f3 _ nM=>hE f3 e Im (fun c o bD c_ fx hj x=>nM.extBut _ _ bD (nL _ _ hj (j_.extBut _ _ c_ (jC.extBut _ _ fx (kJ.extBut _ _ bD x))))) ⟨wD,nM.extBut _ _ y9 o_,sj⟩
theorem Sy {z TI b9 cA cc:Addr} {f1 f2:List Addr} {ff dc i:Nat} {mj ml:Nat→Value→Prop} {iB iC:Nat→Heap→Prop} {a b:Value} {Q:Option Value→Shared→Prop} (g5:Draws prog w A.in1 cA f1 ff mj iB) (gQ:Draws prog w A.in1 cc f2 dc ml iC) (ap:p8 z TI b9 cA cc f1 f2)
  (br:IsZip s.heap z TI b9 .none) (hH:IsPair s.heap TI (.ref cA) (.ref cc)) (hX:IsPair s.heap b9 a b) (h1:iB i s.heap) (h2:iC i s.heap) (eJ:i < ff) (cO:i < dc)
  (gX:∀x y h' du,mj i x→ml i y→IsZip h' z TI b9 (rawInt s.heap.objs.size)→IsPair h' b9 x y→iB (i + 1) h'→iC (i + 1) h'→IsPair h' s.heap.objs.size x y→h'.objs.size=s.heap.objs.size + 1→
    (∀c o,c≠z→c≠b9→c≠cA→c≠cc→s.heap.get? c=some o→h'.get? c=some o)→Q (some (.ref s.heap.objs.size)) { s with heap:=h',toks:=du }) :
  wpAny (model prog w) A (pyNext (.ref z)) Q E s:=by
 have hy:s.TypeIs (.ref z) "zip":=⟨_,br,rfl⟩
 unfold pyNext
 exact wpAny_bind (wpAny_attempt (wpAny_callSpecial?_slot (name:=Str.ofString "__next__") hy F.slot_zip_next
  (wpAny_call_entry F.slot_zip_next hy F.entry_zip_next
    (WH g5 gQ ap br hH hX h1 h2 eJ cO fun x y h' du a1 a2 fY mq p9 p_ JG x6 x7=>wpAny_pure (gX x y h' du a1 a2 fY mq p9 p_ JG x6 x7)) (F.args_zip_next_1 _))))
theorem Sx {z TI b9 cA cc:Addr} {f1 f2:List Addr} {ff dc i:Nat} {mj ml:Nat→Value→Prop} {iB iC:Nat→Heap→Prop} {a b:Value} {Q:Option Value→Shared→Prop} (g5:Draws prog w A.in1 cA f1 ff mj iB) (gQ:Draws prog w A.in1 cc f2 dc ml iC) (ap:p8 z TI b9 cA cc f1 f2)
  (br:IsZip s.heap z TI b9 .none) (hH:IsPair s.heap TI (.ref cA) (.ref cc)) (hX:IsPair s.heap b9 a b) (h1:iB i s.heap) (h2:iC i s.heap) (y8:i=ff∨(i < ff∧i=dc))
  (gX:∀h' du,(∀c o,c≠z→c≠b9→c≠cA→c≠cc→s.heap.get? c=some o→h'.get? c=some o)→Q none { s with heap:=h',toks:=du }):wpAny (model prog w) A (pyNext (.ref z)) Q E s:=by
 have hy:s.TypeIs (.ref z) "zip":=⟨_,br,rfl⟩
 unfold pyNext
 refine wpAny_bind (wpAny_attempt (wpAny_callSpecial?_slot (name:=Str.ofString "__next__") hy F.slot_zip_next
  (wpAny_call_entry F.slot_zip_next hy F.entry_zip_next (WG g5 gQ ap br hH hX h1 h2 y8 fun h' e du hk he=>?_) (F.args_zip_next_1 _))))
 obtain ⟨o,ho,hc⟩:=he
 refine wpAny_bind (wpAny_isInstance (T:="StopIteration") (b:=true) ⟨o,ho,hc⟩ isSubtype_stop ?_)
 exact wpAny_pure (gX _ _ hk)
end
end bb
set_option Elab.async false
set_option linter.all false
set_option maxRecDepth 100000
namespace bb
open PySem PySem.Spec
theorem Inv.xq {X:aL} {pins:List (Addr×Obj)} {σ :St} {H:ao} {s:Shared} {h':Heap} {t':Nat} {ch:List Addr} (ae:Inv X pins σ H s) (k:∀b o,b∉ch→s.heap.get? b=some o→h'.get? b=some o)
  (hf:∀b∈ch,i7 X pins H b):Inv X pins σ H { s with heap:=h',toks:=t' }:=by
 have n3:∀b u,H b=some u→b∉ch:=fun b u e z=>by rw [(hf b z).1] at e; cases e
 refine ae.step (g':=s.gens) (d':=s.drawn) (ch:=ch) (fun b hb=>?_) (fun b o _ _ hc e _=>k b o hc e) (fun b o _ _ hc e _=>⟨o.slots,k b o hc e⟩) (fun _ _ _ _ n=>n)
  (fun b o hc e=>⟨o,k b o hc e⟩) (fun _ _ e=>e) (fun _ _ _ e=>e) (fun b aM e=>⟨#[],by rw [e]; simp⟩) (fun m hm=>?_) (fun b u e=>?_) ae.bare
 · obtain ⟨_,f1,_,eY,f4,gI⟩:=hf b hb
   exact ⟨eY,f1,f4,gI⟩
 · obtain ⟨o,aq,dW,ho,r⟩:=hm
   exact ⟨o,aq,dW,k _ o (fun z=>(hf _ z).2.1 rfl) ho,r⟩
 · refine (ae.bB b u e).k4 (fun c v hc q=>k c v ?_ q) (fun _ q=>q) fun _ _ q=>q
   rcases hc with z | z
   · rw [z]; exact n3 b u e
   · exact n3 c _ z
theorem Inv.Ik {X:aL} {pins:List (Addr×Obj)} {σ :St} {H:ao} {s:Shared} {h':Heap} {t':Nat} {ch:List Addr} {T:Addr} {xs:List V} {its:List Value} (ae:Inv X pins σ H s) (k:∀b o,b∉ch→s.heap.get? b=some o→h'.get? b=some o)
  (hf:∀b∈ch,i7 X pins H b) (hy:s.heap.objs.size≤T) (ht:PyProof.Rows.IsTup h' T its.toArray) (cq:Vals xs its) (br:xs.length≤sizeLine):Inv X pins σ (upd H T (.tup xs)) { s with heap:=h',toks:=t' }:=by
 have n3:∀b u,H b=some u→b∉ch:=fun b u e z=>by rw [(hf b z).1] at e; cases e
 have aC:H T=none:=ae.bB.fresh hy
 have neT:∀b o,s.heap.get? b=some o→b≠T:=fun b o e=>Nat.ne_of_lt (Nat.lt_of_lt_of_le (Heap.lt_size e) hy)
 refine ae.step (g':=s.gens) (d':=s.drawn) (ch:=ch) (fun b hb=>?_) (fun b o _ _ hc e _=>k b o hc e) (fun b o _ _ hc e _=>⟨o.slots,k b o hc e⟩) (fun b o _ e n=>by rw [de (neT b o e)]; exact n)
  (fun b o hc e=>⟨o,k b o hc e⟩) (fun b ys e=>by rw [de (iU e aC)]; exact e) (fun b _ _ e=>by rw [de (iU e aC)]; exact e) (fun b aM e=>⟨#[],by rw [de (iU e aC),e]; simp⟩) (fun m hm=>?_) (fun b u e=>?_) ae.bare
 · obtain ⟨_,f1,_,eY,f4,gI⟩:=hf b hb
   exact ⟨eY,f1,f4,gI⟩
 · obtain ⟨o,aq,dW,ho,r⟩:=hm
   exact ⟨o,aq,dW,k _ o (fun z=>(hf _ z).2.1 rfl) ho,r⟩
 · by_cases hb:b=T
   · subst hb
     rw [en] at e; cases e
     exact ⟨br,its,cq,ht⟩
   · rw [de hb] at e
     refine (ae.bB b u e).k4 (fun c v hc q=>k c v ?_ q) (fun c q=>by rw [de (iU q aC)]; exact q) fun c ys q=>by rw [de (iU q aC)]; exact q
     rcases hc with z | z
     · rw [z]; exact n3 b u e
     · exact n3 c _ z
noncomputable def xW (x:Str):It:=⟨fun i _=>i < x.cps.size,fun i H v H'=>H'=H∧∃c,x.cps[i]? =some c∧v= .str ⟨#[c]⟩,fun i _=>i=x.cps.size⟩
theorem IK {prog:Program} {w:World} {A:Around} (hh:A.handled=none) (ae:Addr) (x:Str) (t:Tok):Walks prog w A ae [ae] [ae] x.cps.size (SignAt x) (fun i h=>h.IsStrIter ae (strIterType x) x t i):=by
 unfold strIterType
 cases ha:x.cps.all (· < 128)
 · rw [if_neg Bool.false_ne_true]; exact Walks.strWide hh ae x t
 · rw [if_pos rfl]; exact Walks.strAscii hh ae x t
theorem Dn {prog:Program} {w:World} {A:Around} (hh:A.handled=none) (ae:Addr) (x:Str) (t:Tok):Draws prog w A ae [ae] x.cps.size (fun i v=>∃c u,x.cps[i]? =some c∧v= .str ⟨#[c]⟩ u) (fun i h=>h.IsStrIter ae (strIterType x) x t i):=by
 unfold strIterType
 cases ha:x.cps.all (· < 128)
 · rw [if_neg Bool.false_ne_true]; exact Draws.strWide hh ae x t
 · rw [if_pos rfl]; exact Draws.strAscii hh ae x t
theorem Uz (x:Str):["enumerate","zip","dict_itemiterator","dict_reverseitemiterator","odict_iterator","itertools.zip_longest","itertools.pairwise"].contains (strIterType x)=false:=by
 unfold strIterType
 split <;> decide
theorem Vm {P:Program} {w:World} {K:PySem.W.Frag} {bq:Expr} (it:Addr) (x:Str) (t:Tok):Turn P w K bq (xW x) [it] it (fun i h=>h.IsStrIter it (strIterType x) x t i) where
 mem:=by simp
 obj:=fun i h st b hb=>by
  have e:b=it:=by simpa using hb
  subst e
  obtain ⟨o,e,c,d⟩:=st
  exact ⟨o,e,fun v z=>by rw [d] at z; cases z⟩
 keep:=fun i h h' st k=>by
  obtain ⟨o,e,r⟩:=st
  exact ⟨o,k it (by simp) o e,r⟩
 item:=by
  intro X eh hw hK hc i pins s σ H E ae hf st hg
  subst eh hw hK
  have W:=IK (prog:=X.prog) (w:=X.w) (A:=X.A) (ae.ok.hd hc) it x t
  refine W.item i s _ _ hg st fun v h' du hv kZ cp=>?_
  obtain ⟨c,u,vG,rfl⟩:=hv
  have aR:Inv X pins σ H { s with heap:=h',toks:=du }:=ae.xq (ch:=[it]) cp hf
  obtain ⟨o,e,bD,d1⟩:=id kZ
  exact ⟨_,rfl,vA (s:={ s with heap:=h',toks:=du }) e bD d1 (Uz x) ⟨.str ⟨#[c]⟩,H,aR,⟨u,rfl⟩,⟨rfl,c,vG,rfl⟩,kZ,fun b hb=>(hf b hb).1⟩⟩
 done:=by
  intro X eh hw hK hc i pins s σ H E ae hf st hg
  subst eh hw hK
  have W:=IK (prog:=X.prog) (w:=X.w) (A:=X.A) (ae.ok.hd hc) it x t
  have hi:i=x.cps.size:=hg
  subst hi
  exact W.done s _ _ st fun h' du cp=>⟨rfl,ae.xq (ch:=[it]) cp hf⟩
 self:=fun A i s Q E st h=>by
  unfold strIterType at st
  cases ha:x.cps.all (· < 128)
  · rw [ha,if_neg Bool.false_ne_true] at st; exact wpAny_pyIter_striter_wide st h
  · rw [ha,if_pos rfl] at st; exact wpAny_pyIter_striter_ascii st h
section
variable {X:aL} {bq:Expr}
noncomputable def E7 (gM:TE):TI:=fun σ H R=>gM σ H fun v H1=>∃x,v= .str x∧R (xW x) H1
theorem R3 {l:Expr} {gM:TE} (hl:aZ X l gM):fW X bq l (E7 gM):=by
 intro pins s σ H R ae h
 refine bL (hl pins s σ H _ ae h) fun v s1 ⟨y,H1,aR,av,a7⟩=>?_
 obtain ⟨x,e,q⟩:=a7
 subst e
 obtain ⟨t,rfl⟩:=av
 refine wpAny_pyIter_strU ?_
 refine ⟨s1.heap.objs.size,[s1.heap.objs.size],_,_,H1,rfl,aR.kept (t':=s1.toks) fun b o e=>Heap.get?_push_of_some _ e,Vm _ x t,⟨_,Heap.get?_push_size _ rfl,rfl,rfl⟩,fun b hb=>?_,q⟩
 have e:b=s1.heap.objs.size:=by simpa using hb
 subst e
 exact aR.nG (Nat.le_refl _) (aR.bB.fresh (Nat.le_refl _))
end
noncomputable def xU (K:PySem.W.Frag) (l:Addr):It:=⟨fun i H=>∃xs x,b4 K H l xs∧xs[i]? =some x,fun i H v H'=>∃p x,H p=none∧H'=upd H p (.tup [.int (i:Int),x])∧v= .ref p∧∀xs,b4 K H l xs→xs[i]? =some x,fun i H=>∃xs,b4 K H l xs∧xs.length=i⟩
theorem Vj {P:Program} {w:World} {K:PySem.W.Frag} {elts:List Expr} {cp:Nat} {pos:Pos} (e it l:Addr) (EP:e≠it) :
  Turn P w K (.Tuple elts cp pos) (xU K l) [e,it] e (fun i h=>(∃old,IsEnum h e it i old)∧h.IsListIter it l i) where
 mem:=by simp
 obj:=fun i h st b hb=>by
  obtain ⟨⟨old,he⟩,o,ar,c,d⟩:=st
  rcases List.mem_cons.mp hb with z | z
  · subst z
    exact ⟨_,he,fun v z=>by
     have gz:Data.fields _=Data.cell v:=z
     cases gz⟩
  · have z:b=it:=by simpa using z
    subst z
    exact ⟨o,ar,fun v z=>by rw [d] at z; cases z⟩
 keep:=fun i h h' st k=>by
  obtain ⟨⟨old,he⟩,hit⟩:=st
  exact ⟨⟨old,k e (by simp) _ he⟩,hit.at fun o x=>k it (by simp) o x⟩
 item:=by
  intro X eh hw hK hc i pins s σ H E ae hf st hg
  subst eh hw hK
  obtain ⟨xs,x,aO,hx⟩:=hg
  obtain ⟨its,cq,pl,br⟩:=ae.list aO
  obtain ⟨⟨old,he⟩,hit⟩:=st
  have fk:=pl.isList
  have hle:l≠e:=fun z=>by
   subst z
   obtain ⟨o,ho,iL,_⟩:=fk
   rw [he] at ho; cases ho
   have iL:Value.type "enumerate"=Value.type "list":=iL
   injection iL with iL
   exact absurd iL (by decide)
  have vJ:l≠it:=fun z=>by
   subst z
   obtain ⟨o,ho,iL,_⟩:=fk
   obtain ⟨b_,ho',mC,_⟩:=hit
   rw [ho'] at ho; cases ho
   rw [iL] at mC
   injection mC with mC
   exact absurd mC (by decide)
  have W:=WalksT.enumerate (prog:=X.prog) (w:=X.w) (A:=X.A) (ae.ok.hd hc) e it l EP hle vJ its.toArray
  have hlen:=cq.length
  have zb:i < xs.length:=(List.getElem?_eq_some_iff.mp hx).1
  refine W.item i s _ _ (by rw [List.size_toArray,←hlen]; exact zb) ⟨⟨old,he⟩,hit,fk⟩ fun T vals h' du eh hy Mw vC hk=>?_
  obtain ⟨t,u,hu,rfl⟩:=eh
  obtain ⟨ih,zp,ej⟩:=cq.get hx
  have nF:ih=u:=by
   rw [List.getElem?_toArray] at hu
   rw [zp] at hu; exact Option.some.inj hu
  subst nF
  refine ⟨_,rfl,?_⟩
  refine W.go elts cp pos i T { s with heap:=h',toks:=du } _ _ vC fun h2 km ES=>?_
  have EK:T∉[e,it]:=W.apart i T h' vC
  have keep:∀b o,b∉[e,it]→s.heap.get? b=some o→h2.get? b=some o:=fun b o hb q=>ES b o hb (hk b o hb q)
  have zm:PyProof.Rows.IsTup h2 T (#[.int i t,ih]:Array Value):=by
   obtain ⟨o,ho,r⟩:=Mw
   exact ⟨o,ES T o EK ho,r⟩
  have aC:H T=none:=ae.bB.fresh hy
  have cv:Inv X pins σ (upd H T (.tup [.int (i:Int),x])) { s with heap:=h2,toks:=du }:=ae.Ik (its:=[.int i t,ih]) (ch:=[e,it]) keep hf hy zm (.cons ⟨t,rfl⟩ (.cons ej .nil)) (by show 2≤sizeLine; decide)
  refine ⟨.ref T,upd H T (.tup [.int (i:Int),x]),cv,rfl,⟨T,x,aC,rfl,rfl,fun ys b5=>by rw [ae.zH b5 aO]; exact hx⟩,⟨km.1,km.2.1⟩,fun b hb=>?_⟩
  have nb:b≠T:=fun z=>EK (z ▸ hb)
  rw [de nb]
  exact (hf b hb).1
 done:=by
  intro X eh hw hK hc i pins s σ H E ae hf st hg
  subst eh hw hK
  obtain ⟨xs,aO,hx⟩:=hg
  obtain ⟨its,cq,pl,br⟩:=ae.list aO
  obtain ⟨⟨old,he⟩,hit⟩:=st
  have fk:=pl.isList
  have hle:l≠e:=fun z=>by
   subst z
   obtain ⟨o,ho,iL,_⟩:=fk
   rw [he] at ho; cases ho
   have iL:Value.type "enumerate"=Value.type "list":=iL
   injection iL with iL
   exact absurd iL (by decide)
  have vJ:l≠it:=fun z=>by
   subst z
   obtain ⟨o,ho,iL,_⟩:=fk
   obtain ⟨b_,ho',mC,_⟩:=hit
   rw [ho'] at ho; cases ho
   rw [iL] at mC
   injection mC with mC
   exact absurd mC (by decide)
  have W:=WalksT.enumerate (prog:=X.prog) (w:=X.w) (A:=X.A) (ae.ok.hd hc) e it l EP hle vJ its.toArray
  have hq:i=its.toArray.size:=by rw [List.size_toArray,←cq.length]; exact hx.symm
  subst hq
  exact W.done s _ _ ⟨⟨old,he⟩,hit,fk⟩ fun h' du cp=>⟨rfl,ae.xq (ch:=[e,it]) cp hf⟩
 self:=fun A i s Q E st h=>by
  obtain ⟨⟨old,he⟩,_⟩:=st
  exact wpAny_pyIter_enum he h
section
variable {X:aL} {elts:List Expr} {cp:Nat} {tI:Pos}
noncomputable def E3 (K:PySem.W.Frag) (cb:eA):TI:=fun σ H R=>cb σ H fun vs H1=>∃l,vs=[.ref l]∧(∃xs,b4 K H1 l xs)∧R (xU K l) H1
theorem RZ {a:Expr} {cb:eA} {p pos:Pos} (hg:cN X "enumerate") (hm:X.mg "enumerate"=none) (ha:eN X [a] cb) (hs:starEach [a] X.env=[(false,eval a X.env)]:=by rfl):fW X (.Tuple elts cp tI) (.Call (.Name "enumerate" p) [a] [] pos) (E3 X.K cb):=by
 have hb:bootBuiltins "enumerate"=some (.type "enumerate"):=by kernel_rfl
 intro pins s σ H R ae h
 refine PyProof.Rows.Call_ (pe ae hg hm hb (PyProof.Rows.callWith_type1 (bL (ha pos pins s σ H _ ae h) fun us s1 ⟨vs,H1,aR,av,a7⟩=>?_) hs rfl))
 obtain ⟨l,e,⟨xs,aO⟩,q⟩:=a7
 subst e
 obtain ⟨u,rfl,ej⟩:=vals1 av
 cases ej
 obtain ⟨its,cq,pl,br⟩:=aR.list aO
 refine call_enumerate_list pl.isList fun h' he hit hsz hk=>?_
 have cv:Inv X pins σ H1 { s1 with heap:=h' }:=aR.kept (t':=s1.toks) hk
 refine wpAny_pyIter_enum he ?_
 refine ⟨s1.heap.objs.size + 1,[s1.heap.objs.size + 1,s1.heap.objs.size],_,_,H1,rfl,cv,Vj _ _ l (Nat.succ_ne_self _),⟨⟨_,he⟩,hit⟩,fun b hb=>?_,q⟩
 have hb:b=s1.heap.objs.size + 1∨b=s1.heap.objs.size:=by simpa using hb
 rcases hb with z | z
 · subst z; exact aR.nG (Nat.le_succ _) (aR.bB.fresh (Nat.le_succ _))
 · subst z; exact aR.nG (Nat.le_refl _) (aR.bB.fresh (Nat.le_refl _))
end
noncomputable abbrev xE (h:Heap) (x:Str) (t:Tok):Heap:=h.push { cls:= .type (strIterType x),data:= .fields #[.str x t,.int 0 0] }
noncomputable abbrev xF (h:Heap) (x:Str) (t:Tok) (l:Addr):Heap:=(xE h x t).push { cls:= .type "tuple_iterator",data:= .fields #[.ref l,.int 0 0] }
noncomputable abbrev xG (h:Heap) (x:Str) (t:Tok) (l:Addr):Heap:=(xF h x t l).push { cls:= .type "tuple",data:= .seq #[.ref h.objs.size,.ref (xE h x t).objs.size] }
noncomputable abbrev xH (h:Heap) (x:Str) (t:Tok) (l:Addr):Heap:=(xG h x t l).push { cls:= .type "tuple",data:= .seq #[.none,.none] }
noncomputable abbrev pV (h:Heap) (x:Str) (t:Tok) (l:Addr):Heap:=(xH h x t l).push { cls:= .type "zip",data:= .fields #[.none,.bool false,.bool false,.ref (xF h x t l).objs.size,.ref (xG h x t l).objs.size] }
set_option maxHeartbeats 4000000 in
theorem Qh (x:Str) (t:Tok) (cO:Addr) (ys:Array Value) :
  Meets (Builtin.«zip.__new__» ⟨[.type "zip",.str x t,.ref cO],[]⟩) (fun _ R s=>s.heap.IsTuple cO ys∧R (.ok (.ret (.ref (xH s.heap x t cO).objs.size))) { s with heap:=pV s.heap x t cO }):=
 .of_wp fun prog w A R s h=>by
   obtain ⟨hp,g,d,du,os⟩:=s; obtain ⟨o8,h⟩:=h
   have WZ:=sub_zip
   have Mu:Heap.IsTuple (Shared.heap ⟨hp.push { cls:= .type (strIterType x),data:= .fields #[.str x t,.int 0 0] },g,d,du,os⟩) cO ys:=Heap.IsTuple.push o8 _
   wp_walk using wpAny_pyIter_strU,wpAny_pyIter_tuple Mu
   exact ⟨_,rfl,h⟩
theorem Kl {prog:Program} {w:World} {A:Around} {E:Value→Shared→Prop} {s:Shared} {x:Str} {t:Tok} {cO:Addr} {ys:Array Value} {Q:Value→Shared→Prop} (o8:s.heap.IsTuple cO ys)
  (h:∀h',IsZip h' (s.heap.objs.size + 4) (s.heap.objs.size + 2) (s.heap.objs.size + 3) .none→IsPair h' (s.heap.objs.size + 2) (.ref s.heap.objs.size) (.ref (s.heap.objs.size + 1))→
    IsPair h' (s.heap.objs.size + 3) .none .none→h'.IsStrIter s.heap.objs.size (strIterType x) x t 0→h'.IsTupleIter (s.heap.objs.size + 1) cO 0→h'.objs.size=s.heap.objs.size + 5→
    (∀c o,s.heap.get? c=some o→h'.get? c=some o)→Q (.ref (s.heap.objs.size + 4)) { s with heap:=h' }) :
  wpAny (model prog w) A (call (.type "zip") [.str x t,.ref cO]) Q E s:=by
 refine callType_new F.called_zip (by decide) (F.typeCall_zip_2 _ _) (F.newCall_zip_2 _ _) (fun obj=>F.args_object_init_3 obj _ _) F.entry_zip_new (Qh x t cO ys) ⟨o8,?_⟩
 have bO:(xE s.heap x t).objs.size=s.heap.objs.size + 1:=Heap.size_push ..
 have bz:(xF s.heap x t cO).objs.size=s.heap.objs.size + 2:=by rw [Heap.size_push,bO]
 have ru:(xG s.heap x t cO).objs.size=s.heap.objs.size + 3:=by rw [Heap.size_push,bz]
 have tS:(xH s.heap x t cO).objs.size=s.heap.objs.size + 4:=by rw [Heap.size_push,ru]
 have WE:(pV s.heap x t cO).objs.size=s.heap.objs.size + 5:=by rw [Heap.size_push,tS]
 have qz:(pV s.heap x t cO).get? (xH s.heap x t cO).objs.size=some _:=Heap.get?_push_size _ rfl
 have kG:(pV s.heap x t cO).get? (xG s.heap x t cO).objs.size=some _:=Heap.get?_push_of_some _ (Heap.get?_push_size _ rfl)
 have g3:(pV s.heap x t cO).get? (xF s.heap x t cO).objs.size=some _:=Heap.get?_push_of_some _ (Heap.get?_push_of_some _ (Heap.get?_push_size _ rfl))
 have g2:(pV s.heap x t cO).get? (xE s.heap x t).objs.size=some _:=Heap.get?_push_of_some _ (Heap.get?_push_of_some _ (Heap.get?_push_of_some _ (Heap.get?_push_size _ rfl)))
 have g1:(pV s.heap x t cO).get? s.heap.objs.size=some _:=Heap.get?_push_of_some _ (Heap.get?_push_of_some _ (Heap.get?_push_of_some _ (Heap.get?_push_of_some _ (Heap.get?_push_size _ rfl))))
 show _∧_
 rw [bz,ru,tS] at qz
 rw [bO,bz] at g3
 rw [ru] at kG
 rw [bO] at g2
 rw [tS]
 exact ⟨⟨_,qz,rfl⟩,h _ qz g3 kG ⟨_,g1,rfl,rfl⟩ ⟨_,g2,rfl,rfl⟩ WE fun c o x=>
  Heap.get?_push_of_some _ (Heap.get?_push_of_some _ (Heap.get?_push_of_some _ (Heap.get?_push_of_some _ (Heap.get?_push_of_some _ x))))⟩
noncomputable def xY (K:PySem.W.Frag) (x:Str) (l:Addr):It:=⟨fun i H=>i < x.cps.size∧∃ys y,cK K H l ys∧ys[i]? =some y,
 fun i H v H'=>∃p c y,x.cps[i]? =some c∧H p=none∧H'=upd H p (.tup [.str ⟨#[c]⟩,y])∧v= .ref p∧∀ys,cK K H l ys→ys[i]? =some y,
 fun i H=>∃ys,cK K H l ys∧i=min x.cps.size ys.length⟩
structure Cd (z TI b9 cA cc:Addr):Prop where
 TIz:TI≠z
 TOz:b9≠z
 TITO:TI≠b9
 TIi1:TI≠cA
 TIi2:TI≠cc
 TOi1:b9≠cA
 TOi2:b9≠cc
 i1z:cA≠z
 i2z:cc≠z
 i12:cA≠cc
theorem Vo {P:Program} {w:World} {K:PySem.W.Frag} {elts:List Expr} {cp:Nat} {pos:Pos} (x:Str) (t:Tok) (l z TI b9 cA cc:Addr) (ap:Cd z TI b9 cA cc) :
  Turn P w K (.Tuple elts cp pos) (xY K x l) [z,TI,b9,cA,cc] z (fun i h=>IsZip h z TI b9 .none∧IsPair h TI (.ref cA) (.ref cc)∧(∃a b,IsPair h b9 a b)∧h.IsStrIter cA (strIterType x) x t i∧h.IsTupleIter cc l i) where
 mem:=by simp
 obj:=fun i h st b hb=>by
  obtain ⟨br,hH,⟨a,qe,hX⟩,⟨c1,ar,bD,d1⟩,cQ,aG,c_,cC⟩:=st
  have hb:b=z∨b=TI∨b=b9∨b=cA∨b=cc:=by simpa using hb
  rcases hb with q | q | q | q | q <;> subst q
  · exact ⟨_,br,fun v z=>by have gz:Data.fields _=Data.cell v:=z; cases gz⟩
  · exact ⟨_,hH,fun v z=>by have gz:Data.seq _ _=Data.cell v:=z; cases gz⟩
  · exact ⟨_,hX,fun v z=>by have gz:Data.seq _ _=Data.cell v:=z; cases gz⟩
  · exact ⟨c1,ar,fun v z=>by rw [d1] at z; cases z⟩
  · exact ⟨cQ,aG,fun v z=>by rw [cC] at z; cases z⟩
 keep:=fun i h h' st k=>by
  obtain ⟨br,hH,⟨a,qe,hX⟩,⟨c1,ar,av⟩,cQ,aG,bl⟩:=st
  exact ⟨k z (by simp) _ br,k TI (by simp) _ hH,⟨a,qe,k b9 (by simp) _ hX⟩,⟨c1,k cA (by simp) _ ar,av⟩,cQ,k cc (by simp) _ aG,bl⟩
 item:=by
  intro X eh hw hK hc i pins s σ H E ae hf st hg
  subst eh hw hK
  obtain ⟨hi,ys,y,aO,b5⟩:=hg
  obtain ⟨its,cq,ht,Np⟩:=ae.tuple aO
  obtain ⟨br,hH,⟨a,qe,hX⟩,vN,hs2⟩:=st
  have nl:∀b∈[z,TI,b9,cA,cc],l≠b:=fun b hb q=>by
   subst q
   rcases aO with (h | ⟨o,h⟩) | ⟨o,OO,n,h,_⟩
   · rw [(hf l hb).1] at h; cases h
   · rw [(hf l hb).1] at h; cases h
   · have h1:=ae.ok.mod.mH l o h
     rcases (hf l hb).2.2.2.1 with q | q
     · exact ae.ok.n4 l o h1 q
     · exact absurd (Nat.lt_of_lt_of_le (Heap.lt_size (ae.ok.bs l o h1).1) q) (Nat.lt_irrefl _)
  have hh:X.A.in1.handled=none:=ae.ok.hd hc
  have g5:=Dn (prog:=X.prog) (w:=X.w) (A:=X.A.in1) hh cA x t
  have gQ:=Dp (prog:=X.prog) (w:=X.w) (A:=X.A.in1) hh cc l (nl cc (by simp)) its.toArray
  have hlen:=cq.length
  have zb:i < ys.length:=(List.getElem?_eq_some_iff.mp b5).1
  have qd:p8 z TI b9 cA cc [cA] [cc,l]:=⟨ap.TIz,ap.TOz,ap.TITO,ap.TIi1,ap.TIi2,ap.TOi1,ap.TOi2,ap.i1z,ap.i2z,ap.i12,by simpa using ap.i1z.symm,by simpa using ap.TOi1,by simpa using ap.i12.symm,
   by simp only [List.mem_cons,List.not_mem_nil,or_false,not_or]; exact ⟨ap.i2z.symm,(nl z (by simp)).symm⟩,by simp only [List.mem_cons,List.not_mem_nil,or_false,not_or]; exact ⟨ap.TOi2,(nl b9 (by simp)).symm⟩,by simp only [List.mem_cons,List.not_mem_nil,or_false,not_or]; exact ⟨ap.i12,(nl cA (by simp)).symm⟩⟩
  refine Sy g5 gQ qd br hH hX vN ⟨hs2,ht⟩ hi (by rw [List.size_toArray,←hlen]; exact zb) fun By Io h' du fp b7 a1 a2 fY mq p9 p_ hk=>?_
  obtain ⟨c,t1,MG,rfl⟩:=fp
  obtain ⟨ih,zp,ej⟩:=cq.get b5
  have nF:ih=Io:=by
   rw [List.getElem?_toArray] at b7
   rw [zp] at b7; exact Option.some.inj b7
  subst nF
  refine ⟨_,rfl,?_⟩
  refine wpAny_letOwnedTupleGo_zip a1 fun h2 Nq qC=>?_
  have UE:∀b∈[z,TI,b9,cA,cc],b < s.heap.objs.size:=fun b hb=>by
   have hb:b=z∨b=TI∨b=b9∨b=cA∨b=cc:=by simpa using hb
   obtain ⟨c1,ar,_⟩:=vN
   obtain ⟨cQ,aG,_⟩:=hs2
   rcases hb with q | q | q | q | q <;> subst q
   · exact Heap.lt_size br
   · exact Heap.lt_size hH
   · exact Heap.lt_size hX
   · exact Heap.lt_size ar
   · exact Heap.lt_size aG
  have F4:∀b∈[z,TI,b9,cA,cc],b≠s.heap.objs.size:=fun b hb=>Nat.ne_of_lt (UE b hb)
  have keep:∀b o,b∉[z,b9,cA,cc]→s.heap.get? b=some o→h2.get? b=some o:=fun b o hb q=>by
   have hb:¬ (b=z∨b=b9∨b=cA∨b=cc):=fun w=>hb (by simpa using w)
   exact qC.extBut b o (fun w=>hb (.inl w)) (hk b o (fun w=>hb (.inl w)) (fun w=>hb (.inr (.inl w))) (fun w=>hb (.inr (.inr (.inl w)))) (fun w=>hb (.inr (.inr (.inr w)))) q)
  have zm:PyProof.Rows.IsTup h2 s.heap.objs.size ([.str ⟨#[c]⟩ t1,ih]:List Value).toArray:=⟨_,qC.extBut _ _ (F4 z (by simp)).symm p9,rfl,_,rfl⟩
  have aC:H s.heap.objs.size=none:=ae.bB.fresh (Nat.le_refl _)
  have cv:Inv X pins σ (upd H s.heap.objs.size (.tup [.str ⟨#[c]⟩,y])) { s with heap:=h2,toks:=du }:=ae.Ik (its:=[.str ⟨#[c]⟩ t1,ih]) (ch:=[z,b9,cA,cc]) keep (fun b hb=>hf b (by
   have hb:b=z∨b=b9∨b=cA∨b=cc:=by simpa using hb
   rcases hb with q | q | q | q <;> simp [q])) (Nat.le_refl _) zm (.cons ⟨t1,rfl⟩ (.cons ej .nil)) (by show 2≤sizeLine; decide)
  refine ⟨.ref s.heap.objs.size,_,cv,rfl,⟨s.heap.objs.size,c,y,MG,aC,rfl,rfl,fun zs Nr=>by rw [ae.Bw Nr aO]; exact b5⟩,?_,fun b hb=>?_⟩
  · refine ⟨Nq,qC.extBut _ _ ap.TIz (hk _ _ ap.TIz ap.TITO ap.TIi1 ap.TIi2 hH),⟨_,_,qC.extBut _ _ ap.TOz a2⟩,?_,?_⟩
    · obtain ⟨c1,ar,av⟩:=fY
      exact ⟨c1,qC.extBut _ _ ap.i1z ar,av⟩
    · obtain ⟨⟨cQ,aG,bl⟩,_⟩:=mq
      exact ⟨cQ,qC.extBut _ _ ap.i2z aG,bl⟩
  · rw [de (F4 b hb)]; exact (hf b hb).1
 done:=by
  intro X eh hw hK hc i pins s σ H E ae hf st hg
  subst eh hw hK
  obtain ⟨ys,aO,hi⟩:=hg
  obtain ⟨its,cq,ht,Np⟩:=ae.tuple aO
  obtain ⟨br,hH,⟨a,qe,hX⟩,vN,hs2⟩:=st
  have nl:∀b∈[z,TI,b9,cA,cc],l≠b:=fun b hb q=>by
   subst q
   rcases aO with (h | ⟨o,h⟩) | ⟨o,OO,n,h,_⟩
   · rw [(hf l hb).1] at h; cases h
   · rw [(hf l hb).1] at h; cases h
   · have h1:=ae.ok.mod.mH l o h
     rcases (hf l hb).2.2.2.1 with q | q
     · exact ae.ok.n4 l o h1 q
     · exact absurd (Nat.lt_of_lt_of_le (Heap.lt_size (ae.ok.bs l o h1).1) q) (Nat.lt_irrefl _)
  have hh:X.A.in1.handled=none:=ae.ok.hd hc
  have g5:=Dn (prog:=X.prog) (w:=X.w) (A:=X.A.in1) hh cA x t
  have gQ:=Dp (prog:=X.prog) (w:=X.w) (A:=X.A.in1) hh cc l (nl cc (by simp)) its.toArray
  have hlen:=cq.length
  have qd:p8 z TI b9 cA cc [cA] [cc,l]:=⟨ap.TIz,ap.TOz,ap.TITO,ap.TIi1,ap.TIi2,ap.TOi1,ap.TOi2,ap.i1z,ap.i2z,ap.i12,by simpa using ap.i1z.symm,by simpa using ap.TOi1,by simpa using ap.i12.symm,
   by simp only [List.mem_cons,List.not_mem_nil,or_false,not_or]; exact ⟨ap.i2z.symm,(nl z (by simp)).symm⟩,by simp only [List.mem_cons,List.not_mem_nil,or_false,not_or]; exact ⟨ap.TOi2,(nl b9 (by simp)).symm⟩,by simp only [List.mem_cons,List.not_mem_nil,or_false,not_or]; exact ⟨ap.i12,(nl cA (by simp)).symm⟩⟩
  refine Sx g5 gQ qd br hH hX vN ⟨hs2,ht⟩ ?_ fun h' du cp=>⟨rfl,ae.xq (ch:=[z,b9,cA,cc]) (fun b o hb q=>?_) fun b hb=>hf b ?_⟩
  · have aq:its.toArray.size=its.length:=by simp
    rw [aq,←hlen]; omega
  · have hb:¬ (b=z∨b=b9∨b=cA∨b=cc):=fun w=>hb (by simpa using w)
    exact cp b o (fun w=>hb (.inl w)) (fun w=>hb (.inr (.inl w))) (fun w=>hb (.inr (.inr (.inl w)))) (fun w=>hb (.inr (.inr (.inr w)))) q
  · have hb:b=z∨b=b9∨b=cA∨b=cc:=by simpa using hb
    rcases hb with q | q | q | q <;> simp [q]
 self:=fun A i s Q E st h=>wpAny_pyIter_zip st.1 h
section
variable {X:aL} {elts:List Expr} {cp:Nat} {tI:Pos}
theorem WI (n:Nat):Cd (n + 4) (n + 2) (n + 3) n (n + 1):=
 ⟨(show n + 2≠n + 4 from Nat.ne_of_lt (show (n + 2:Nat) < n + 4 by omega)),
  (show n + 3≠n + 4 from Nat.ne_of_lt (show (n + 3:Nat) < n + 4 by omega)),
  (show n + 2≠n + 3 from Nat.ne_of_lt (show (n + 2:Nat) < n + 3 by omega)),
  (show n + 2≠n from Nat.ne_of_gt (show (n:Nat) < n + 2 by omega)),
  (show n + 2≠n + 1 from Nat.ne_of_gt (show (n + 1:Nat) < n + 2 by omega)),
  (show n + 3≠n from Nat.ne_of_gt (show (n:Nat) < n + 3 by omega)),
  (show n + 3≠n + 1 from Nat.ne_of_gt (show (n + 1:Nat) < n + 3 by omega)),
  (show n≠n + 4 from Nat.ne_of_lt (show (n:Nat) < n + 4 by omega)),
  (show n + 1≠n + 4 from Nat.ne_of_lt (show (n + 1:Nat) < n + 4 by omega)),
  (show n≠n + 1 from Nat.ne_of_lt (show (n:Nat) < n + 1 by omega))⟩
noncomputable def E9 (K:PySem.W.Frag) (cb:eA):TI:=fun σ H R=>cb σ H fun vs H1=>∃x l,vs=[.str x,.ref l]∧(∃ys,cK K H1 l ys)∧R (xY K x l) H1
theorem R5 {a b:Expr} {cb:eA} {p pos:Pos} (hg:cN X "zip") (hm:X.mg "zip"=none) (ha:eN X [a,b] cb) (hs:starEach [a,b] X.env=[(false,eval a X.env),(false,eval b X.env)]:=by rfl) (hs2:starEach [b] X.env=[(false,eval b X.env)]:=by rfl) :
  fW X (.Tuple elts cp tI) (.Call (.Name "zip" p) [a,b] [] pos) (E9 X.K cb):=by
 have hb:bootBuiltins "zip"=some (.type "zip"):=by kernel_rfl
 intro pins s σ H R ae h
 refine PyProof.Rows.Call_ (pe ae hg hm hb (PyProof.Rows.callWith_type1 (bL (ha pos pins s σ H _ ae h) fun us s1 ⟨vs,H1,aR,av,a7⟩=>?_) (by rw [hs,hs2]) (by rw [hs2]; rfl)))
 obtain ⟨x,l,e,⟨ys,aO⟩,q⟩:=a7
 subst e
 obtain ⟨u,Io,rfl,⟨t,rfl⟩,ej⟩:=vals2 av
 cases ej
 obtain ⟨its,cq,ht,br⟩:=aR.tuple aO
 refine Kl (show s1.heap.IsTuple l its.toArray from ht) fun h' a1 a2 fY mq p9 p_ hk=>?_
 have cv:Inv X pins σ H1 { s1 with heap:=h' }:=aR.kept (t':=s1.toks) hk
 refine wpAny_pyIter_zip a1 ?_
 refine ⟨s1.heap.objs.size + 4,[s1.heap.objs.size + 4,s1.heap.objs.size + 2,s1.heap.objs.size + 3,s1.heap.objs.size,s1.heap.objs.size + 1],_,_,H1,rfl,cv,Vo x t l _ _ _ _ _ (WI s1.heap.objs.size),⟨a1,a2,⟨_,_,fY⟩,mq,p9⟩,fun b hb=>?_,q⟩
 have hb:s1.heap.objs.size≤b:=by
  have hb:b=s1.heap.objs.size + 4∨b=s1.heap.objs.size + 2∨b=s1.heap.objs.size + 3∨b=s1.heap.objs.size∨b=s1.heap.objs.size + 1:=by simpa using hb
  rcases hb with q | q | q | q | q
  · rw [q]; exact Nat.le_add_right _ _
  · rw [q]; exact Nat.le_add_right _ _
  · rw [q]; exact Nat.le_add_right _ _
  · rw [q]; exact Nat.le_refl _
  · rw [q]; exact Nat.le_add_right _ _
 exact aR.nG hb (aR.bB.fresh hb)
end
end bb
set_option Elab.async false
set_option linter.all false
set_option maxRecDepth 100000
namespace aD
open PySem PySem.Spec bb
section
variable {X:aL} {F:bx} {e a b c bq iter elt:Expr} {aq:List Expr} {pos p:Pos} {m n:aE} {ma:bh}
noncomputable def oh (c:Nat):D:= .str ⟨#[c]⟩
noncomputable def Ug:D→R (List D)
 | .str x=> .ok (x.cps.toList.map oh)
 | _=> .bad
theorem OP {K:PySem.W.Frag} {G:ao} (x:Str):lh K (xW x) (x.cps.toList.map oh) G where
 go:=fun i H s hi=>by
  have h:i < x.cps.size:=by simpa using hi
  exact h
 jn:=fun i H v H' s hi y=>by
  obtain ⟨e,c,hc,rfl⟩:=y
  refine ⟨oh c,?_,.inl ⟨e,by unfold oh; simp only [At]⟩⟩
  rw [List.getElem?_map,Array.getElem?_toList,hc]
  rfl
 stop:=fun H s=>by
  have h:(x.cps.toList.map oh).length=x.cps.size:=by simp
  exact h
noncomputable def sP (m:aE):bh:=fun ρ=>(m ρ).bind Ug
theorem Oe:nq (ko F (sP m)) (E7 (cR F m)):=by
 rintro σ H Q ⟨G,ρ,r,h⟩
 unfold sP at h
 refine ⟨G,ρ,r,?_⟩
 cases au:m ρ with
 | bad=>rw [au] at h; exact h.elim
 | exc c=>rw [au] at h; exact h
 | ok d=>
   rw [au,R.bH] at h
   intro v H1 aQ av s1 a
   cases d with
   | str x=>simp only [At] at a; exact ⟨x,a,h _ H1 aQ av s1 (OP x)⟩
   | _=>exact h.elim
noncomputable def lC (ds:List D):List D:=ds.zipIdx.map fun p=> .tup [.int (p.2:Int),p.1]
theorem LZ {ds:List D} {i:Nat} {d:D} (e:ds[i]? =some d):(lC ds)[i]? =some (.tup [.int (i:Int),d]):=by
 unfold lC
 rw [List.getElem?_map,List.getElem?_zipIdx,e]
 simp
noncomputable def Dw:List D→R (List D)
 | [.lst ds]=> .ok (lC ds)
 | [.b8 ds]=> .ok (lC ds)
 | _=> .bad
theorem Ft {K:PySem.W.Frag} {G:ao} {l:Addr} {ds:List D} {xs:List V} (h:b4 K G l xs) (q:aN K G ds xs):lh K (xU K l) (lC ds) G where
 go:=fun i H s hi=>by
  have hi:i < ds.length:=by simpa [lC] using hi
  obtain ⟨v,e,_⟩:=q.get (List.getElem?_eq_getElem hi)
  exact ⟨xs,v,b4.mono s h,e⟩
 jn:=fun i H v H' s hi y=>by
  obtain ⟨p,x,hp,rfl,rfl,y⟩:=y
  have ex:=y xs (b4.mono s h)
  obtain ⟨d,e,a⟩:=q.vz ex
  exact ⟨_,LZ e,.inr ⟨p,_,_,hp,rfl,rfl,rfl,.cons (by simp only [At]) (.cons a .nil)⟩⟩
 stop:=fun H s=>⟨xs,b4.mono s h,by simp [lC,q.length]⟩
noncomputable def kO (m:bh):bh:=fun ρ=>(m ρ).bind Dw
theorem NN (hK:F.K=X.K):nq (ko F (kO ma)) (E3 X.K (d8 F ma)):=by
 rintro σ H Q ⟨G,ρ,r,h⟩
 unfold kO at h
 refine ⟨G,ρ,r,?_⟩
 cases au:ma ρ with
 | bad=>rw [au] at h; exact h.elim
 | exc c=>rw [au] at h; exact h
 | ok ds=>
   rw [au,R.bH] at h
   intro vs H1 aQ av s1 al
   unfold Dw at h
   split at h
   · rename_i ds
     obtain ⟨v,rfl,a⟩:=al.one
     simp only [At] at a
     obtain ⟨q,xs,rfl,aO,g_⟩:=a
     have gu:b4 X.K aQ q xs:=b4.of aO
     rw [←hK] at gu
     refine ⟨q,rfl,⟨xs,by rw [←hK]; exact b4.mono av.aI.sub gu⟩,?_⟩
     rw [←hK]
     exact h _ H1 aQ av s1 (Ft gu g_)
   · rename_i ds
     obtain ⟨v,rfl,a⟩:=al.one
     simp only [At] at a
     obtain ⟨q,xs,rfl,aO,g_⟩:=a
     refine ⟨q,rfl,⟨xs,by rw [←hK]; exact b4.mono av.aI.sub aO⟩,?_⟩
     rw [←hK]
     exact h _ H1 aQ av s1 (Ft aO g_)
   · exact h.elim
noncomputable def tT (xs:List Nat) (ys:List D):List D:=(xs.zip ys).map fun p=> .tup [oh p.1,p.2]
noncomputable def Jh:List D→R (List D)
 | [.str x,.eI ys]=> .ok (tT x.cps.toList ys)
 | _=> .bad
theorem OQ {K:PySem.W.Frag} {G:ao} {x:Str} {l:Addr} {ds:List D} {xs:List V} (h:cK K G l xs) (q:aN K G ds xs):lh K (xY K x l) (tT x.cps.toList ds) G where
 go:=fun i H s hi=>by
  have hi:i < min x.cps.size ds.length:=by simpa [tT] using hi
  have h1:i < ds.length:=by omega
  obtain ⟨v,e,_⟩:=q.get (List.getElem?_eq_getElem h1)
  exact ⟨by omega,xs,v,cK.mono s h,e⟩
 jn:=fun i H v H' s hi y=>by
  obtain ⟨p,c,Xb,hc,hp,rfl,rfl,y⟩:=y
  have ex:=y xs (cK.mono s h)
  obtain ⟨d,e,a⟩:=q.vz ex
  refine ⟨.tup [oh c,d],?_,.inr ⟨p,_,_,hp,rfl,rfl,rfl,.cons (by unfold oh; simp only [At]) (.cons a .nil)⟩⟩
  unfold tT
  rw [List.getElem?_map]
  have L9:(x.cps.toList.zip ds)[i]? =some (c,d):=by
   rw [List.getElem?_zip_eq_some]
   exact ⟨by rw [Array.getElem?_toList]; exact hc,e⟩
  rw [L9]
  rfl
 stop:=fun H s=>⟨xs,cK.mono s h,by simp [tT,q.length]⟩
noncomputable def sQ (m:bh):bh:=fun ρ=>(m ρ).bind Jh
theorem Om (hK:F.K=X.K):nq (ko F (sQ ma)) (E9 X.K (d8 F ma)):=by
 rintro σ H Q ⟨G,ρ,r,h⟩
 unfold sQ at h
 refine ⟨G,ρ,r,?_⟩
 cases au:ma ρ with
 | bad=>rw [au] at h; exact h.elim
 | exc c=>rw [au] at h; exact h
 | ok ds=>
   rw [au,R.bH] at h
   intro vs H1 aQ av s1 al
   unfold Jh at h
   split at h
   · rename_i x ys
     obtain ⟨v,w,rfl,bo,lr⟩:=al.two
     simp only [At] at bo lr
     subst bo
     obtain ⟨q,xs,rfl,aO,g_⟩:=lr
     refine ⟨x,q,rfl,⟨xs,by rw [←hK]; exact cK.mono av.aI.sub aO⟩,?_⟩
     rw [←hK]
     exact h _ H1 aQ av s1 (OQ aO g_)
   · exact h.elim
theorem VB (h:a8 X F e m) (hK:F.K=X.K:=by rfl):js X F bq e (dX m):=fW.imp (R0 h) (by rw [←hK]; exact NV)
theorem VG (h:a8 X F e m) (hK:F.K=X.K:=by rfl):js X F bq e (qP m):=fW.imp (R4 h) (by rw [←hK]; exact Oi)
theorem VF (h:a8 X F e m):js X F bq e (sP m):=fW.imp (R3 h) Oe
theorem VD (hm:X.mg "range"=none) (ha:fR X F [a] ma) (hg:cN X "range":=by rfl) (hs:starEach [a] X.env=[(false,eval a X.env)]:=by rfl):js X F bq (.Call (.Name "range" p) [a] [] pos) (dU ma):=fW.imp (R1 hg hm ha hs) N6
theorem VE (hm:X.mg "range"=none) (ha:fR X F [a,b] ma) (hg:cN X "range":=by rfl) (hs:starEach [a,b] X.env=[(false,eval a X.env),(false,eval b X.env)]:=by rfl) (hs2:starEach [b] X.env=[(false,eval b X.env)]:=by rfl):js X F bq (.Call (.Name "range" p) [a,b] [] pos) (pk ma):=fW.imp (R2 hg hm ha hs hs2) N7
theorem VA {elts:List Expr} {k:Nat} {m3:Pos} (hm:X.mg "enumerate"=none) (ha:fR X F [a] ma) (hK:F.K=X.K:=by rfl) (hg:cN X "enumerate":=by rfl) (hs:starEach [a] X.env=[(false,eval a X.env)]:=by rfl):js X F (.Tuple elts k m3) (.Call (.Name "enumerate" p) [a] [] pos) (kO ma):=fW.imp (RZ hg hm ha hs) (NN hK)
theorem VH {elts:List Expr} {k:Nat} {m3:Pos} (hm:X.mg "zip"=none) (ha:fR X F [a,b] ma) (hK:F.K=X.K:=by rfl) (hg:cN X "zip":=by rfl) (hs:starEach [a,b] X.env=[(false,eval a X.env),(false,eval b X.env)]:=by rfl) (hs2:starEach [b] X.env=[(false,eval b X.env)]:=by rfl) :
  js X F (.Tuple elts k m3) (.Call (.Name "zip" p) [a,b] [] pos) (sQ ma):=fW.imp (R5 hg hm ha hs hs2) (Om hK)
structure GM (X:aL) (bq:Expr) (set:D→az→R az):Prop where
 ex:∃g,jt X bq g∧∀F:bx,F.K=X.K→nk F g set
 fo:∀d ρ c,set d ρ≠ .exc c
 keeps:Keeps set
theorem fg (i:Nat) {x:Str} (hN:X.N.Nodup) (hi:X.N[i]? =some x:=by rfl) (hx:Loc X.env.scope x:=by first | exact Or.inl rfl | exact Or.inr rfl) (hf:X.fn x=true∨X.env.scope.names.lookup x=some .local:=by first | exact .inl rfl | exact .inr rfl):GM X (.Name x pos) (aJ i):=
 ⟨⟨jB i,wO hN hi hx hf,fun _ _=>vy i⟩,w_ i,w9 i⟩
structure t_ (X:aL) (Vf:List Expr) (aW:List (D→az→R az)):Prop where
 ex:∃g,rK X Vf g∧∀F:bx,F.K=X.K→rE F g (jk aW)
 fo:∀f∈aW,∀d ρ c,f d ρ≠ .exc c
 keeps:∀f∈aW,Keeps f
theorem q1:t_ X [] []:=⟨⟨vw,GN,fun _ _=>EB⟩,(fun _ h=>nomatch h),(fun _ h=>nomatch h)⟩
theorem jL {f:D→az→R az} {aW:List (D→az→R az)} (h:GM X e f) (t:t_ X aq aW) (hs:(assignEach (e::aq) X.env).map (·.2)=assign e X.env::(assignEach aq X.env).map (·.2):=by rfl):t_ X (e::aq) (f::aW):=by
 obtain ⟨⟨g,h1,h2⟩,h3,h4⟩:=h
 obtain ⟨⟨mA,t1,d7⟩,t3,kn⟩:=t
 exact ⟨⟨sd g mA,z8 h1 t1 hs,fun F lG=>yW (h2 F lG) (d7 F lG)⟩,fun k hk=>by rcases List.mem_cons.mp hk with rfl | hk; exact h3; exact t3 k hk,fun k hk=>by rcases List.mem_cons.mp hk with rfl | hk; exact h4; exact kn k hk⟩
theorem q2 {k:Nat} {aW:List (D→az→R az)} (hc:X.calm=true) (h:t_ X aq aW) (aC:(assignEach aq X.env).length=aW.length:=by rfl) (hst:(assignEach aq X.env).findIdx? (·.1)=none:=by rfl):GM X (.Tuple aq k pos) (d6 aW):=by
 obtain ⟨⟨mA,t1,d7⟩,t3,kn⟩:=h
 exact ⟨⟨vx X.K aW.length mA,GL hc t1 aC hst,fun F lG=>by rw [←lG]; exact EC rfl (d7 F lG)⟩,HD t3,HC kn⟩
theorem Tq {body:List Stmt} {mi:bh} {set:D→az→R az} {fm:aY} (hp:PassesOwn (model X.prog X.w) X.A X.env X.xe) (hi:js X F bq iter mi) (hg:GM X bq set) (hb:ng X F body fm) (hc:X.calm=true:=by rfl) (hK:F.K=X.K:=by rfl) (hs:∀x,foldedSetIterable iter X.env x=pure x:=by intro _; rfl) :
  fC X F (.For bq iter body [] pos) (fc mi set fm):=by
 obtain ⟨⟨g,h1,h2⟩,h3,_⟩:=hg
 exact dj.imp (Sh hp hc hi h1 hb hs) (NO (h2 F hK) h3)
noncomputable abbrev rx (X:aL) (scope:Scope) (N:List Str) (e:Expr) (m:aE):Prop:=∀cl C s H a6 b2 bw,a8 (eX X scope N cl C s H a6) (eP X.K b2 bw) e m
noncomputable abbrev la (X:aL) (scope:Scope) (N:List Str) (ifs:List Expr) (m:ck):Prop:=∀cl C s H a6 b2 bw,nu (eX X scope N cl C s H a6) ifs (fB (eP X.K b2 bw) m)
noncomputable abbrev ry (X:aL) (scope:Scope) (N:List Str) (bq:Expr) (set:D→az→R az):Prop:=∃g,(∀cl C s H a6,jt (eX X scope N cl C s H a6) bq g)∧(∀b2 bw,nk (eP X.K b2 bw) g set)
theorem CM {scope:Scope} {N:List Str} {g:hS} {set:D→az→R az} (h:∀cl C s H a6,jt (eX X scope N cl C s H a6) bq g) (k:∀F:bx,F.K=X.K→nk F g set):ry X scope N bq set:=⟨g,h,fun b2 bw=>k (eP X.K b2 bw) rfl⟩
noncomputable def cT:ck:=fun _=> .ok true
theorem kB {scope:Scope} {N:List Str}:la X scope N [] cT:=fun cl C s H a6 b2 bw pins s' σ H' Q ae h=>by
 obtain ⟨G,ρ,r,k⟩:=h
 exact Sp pins s' σ H' Q ae (k H' G r (cz.refl _ _))
theorem J3 {scope:Scope} {N:List Str} {mt:ck} (h:∀cl C s H a6 b2 bw,fD (eX X scope N cl C s H a6) (eP X.K b2 bw) c mt):la X scope N [c] mt:=fun cl C s H a6 b2 bw=>Sq (h cl C s H a6 b2 bw)
theorem C8 {scope:Scope} {N:List Str} {ifs:List Expr} {nl:Nat} {caps:List Nat} {mi:bh} {set:D→az→R az} {mt:ck} {fe:aE} (hK:F.K=X.K) (hi:js X F bq iter mi) (hg:ry X scope N bq set) (ht:la X scope N ifs mt) (he:rx X scope N elt fe) (hx:∀d ρ c,set d ρ≠ .exc c) (hk:Keeps set)
  {Q:TE→Prop} (k:∀g,(∀cl C s H a6,jt (eX X scope N cl C s H a6) bq g)→(∀cl C s H a6,nu (eX X scope N cl C s H a6) ifs (BH X.K mt))→(∀cl C s H a6,aZ (eX X scope N cl C s H a6) elt (BG X.K fe))→ez (jS F (cY nl caps mi set mt fe)) (xj (ko F mi) g (BH X.K mt) (BG X.K fe) nl caps)→Q (jS F (cY nl caps mi set mt fe))):Q (jS F (cY nl caps mi set mt fe)):=by
 obtain ⟨g,g1,g2⟩:=hg
 refine k g g1 (fun cl C s H a6 pins s' σ H' mm ae h=>?_) (fun cl C s H a6 pins s' σ H' mm ae h=>?_) ?_
 · obtain ⟨b2,bw,h⟩:=h
   exact ht cl C s H a6 b2 bw pins s' σ H' mm ae h
 · obtain ⟨b2,bw,h⟩:=h
   exact he cl C s H a6 b2 bw pins s' σ H' mm ae h
 · have z:=NG (F:=F) (nl:=nl) (caps:=caps) (mi:=mi) (tst:=mt) (elt:=fe) (g:=g) (set:=set) (fun b2 bw=>by rw [hK]; exact g2 b2 bw) hx hk
   rw [hK] at z
   exact z
theorem QL {scope:Scope} {N:List Str} {ifs:List Expr} {nl:Nat} {caps:List Nat} {mi:bh} {set:D→az→R az} {mt:ck} {fe:aE} (S:l7 X.env.scope X.N scope N nl caps) (hi:js X F bq iter mi) (hg:ry X scope N bq set) (hx:∀d ρ c,set d ρ≠ .exc c) (hk:Keeps set) (ht:la X scope N ifs mt) (he:rx X scope N elt fe)
  (hc:X.calm=true:=by rfl) (hK:F.K=X.K:=by rfl) (hs:∀x,foldedSetIterable iter X.env x=pure x:=by intro _; rfl):l8 X F (.ListComp elt [⟨bq,iter,ifs,0⟩] scope pos) (cY nl caps mi set mt fe):=
 C8 (nl:=nl) (caps:=caps) (Q:=fun t=>aZ X (.ListComp elt [⟨bq,iter,ifs,0⟩] scope pos) t) hK hi hg ht he hx hk fun g g1 t1 ar imp=>aZ.imp (RI S hc hi g1 t1 ar hs) imp
theorem Tf (i:Nat) {y:Str} {py:Pos} {scope:Scope} {N:List Str} {ifs:List Expr} {nl:Nat} {caps:List Nat} {mi:bh} {set:D→az→R az} {mt:ck} {fe:aE} {bV:Pos} (hN:X.N.Nodup) (S:l7 X.env.scope X.N scope N nl caps) (hi:js X F bq iter mi) (hg:ry X scope N bq set) (hx:∀d ρ c,set d ρ≠ .exc c) (hk:Keeps set) (ht:la X scope N ifs mt) (he:rx X scope N elt fe)
  (b5:X.N[i]? =some y:=by rfl) (hl:X.env.kindOf y=some .local:=by rfl) (kI:swapsWith (.ListComp elt [⟨bq,iter,ifs,0⟩] scope bV) (some (.Name y py)) pos.line X.env=pure true:=by rfl) (hc:X.calm=true:=by rfl) (hK:F.K=X.K:=by rfl) (hs:∀x,foldedSetIterable iter X.env x=pure x:=by intro _; rfl) :
  fC X F (.Assign [.Name y py] (.ListComp elt [⟨bq,iter,ifs,0⟩] scope bV) pos) (d5 i (cY nl caps mi set mt fe)):=by
 refine dj.imp (t:=oj (jS F (cY nl caps mi set mt fe)) (jB i)) ?_ Fi
 refine C8 (nl:=nl) (caps:=caps) (Q:=fun t=>dj X (.Assign [.Name y py] (.ListComp elt [⟨bq,iter,ifs,0⟩] scope bV) pos) (oj t (jB i))) hK hi hg ht he hx hk fun g g1 t1 ar imp=>?_
 exact dj.imp (Se S hc hN b5 hl hi g1 t1 ar kI hs) fun cJ σ H h=>imp σ H _ h
end
end aD
set_option Elab.async false
set_option linter.all false
set_option maxRecDepth 100000
namespace aD
open PySem PySem.Spec bb
section
variable {X:aL} {F:bx} {e a b c:Expr} {aq:List Expr} {pos p:Pos} {m n:aE} {ma:bh}
noncomputable def mr:List D→Option (List Bool)
 | []=>some []
 | .aw b::r=>(mr r).map (b:: ·)
 | _::_=>none
theorem CN {K:PySem.W.Frag} {G:ao}:∀{ds:List D} {xs:List V} {bs:List Bool},aN K G ds xs→mr ds=some bs→xs=bs.map V.aw
 | [],_,_,q,e=>by simp only [aN] at q; subst q; cases e; rfl
 | d::ds,_,bs,q,e=>by
   simp only [aN] at q
   obtain ⟨v,r,rfl,a,kA⟩:=q
   cases d with
   | aw b=>
     simp only [At] at a; subst a
     simp only [mr] at e
     cases ar:mr ds with
     | none=>rw [ar] at e; cases e
     | some cs=>
       rw [ar] at e
       have bE:b::cs=bs:=Option.some.inj e
       subst bE
       rw [CN kA ar]; rfl
   | _=>cases e
theorem IF:∀{bs:List Bool} {us:List Value},Vals (bs.map V.aw) us→us=bs.map Value.bool
 | [],_,r=>by cases r; rfl
 | b::bs,_,r=>by
   cases r with
   | cons av bl=>cases av; rw [IF bl]; rfl
theorem Kd (hc:X.calm=true) (j9:X.A.handled=none):jq X (.builtin "all") (fun xs H Q=>∃(p:Addr) (bs:List Bool),xs=[.ref p]∧b4 X.K H p (bs.map V.aw)∧Q (.aw (bs.all id)) H):=by
 intro pins s σ H xs us Q ae r h
 obtain ⟨p,bs,rfl,aO,q⟩:=h
 obtain ⟨u,rfl,ej⟩:=vals1 r
 cases ej
 obtain ⟨its,cq,pl,br⟩:=ae.list aO
 have hq:=IF cq
 refine call_all_walk (wpAny_pyIter_list pl.isList ?_)
 have ze:p≠s.heap.objs.size:=by obtain ⟨o,ho,_⟩:=pl.isList; exact Nat.ne_of_lt (Heap.lt_size ho)
 refine ⟨s.heap.objs.size,_,_,_,_,_,fun i=>(bs[i]?).getD true,rfl,Walks.list (prog:=X.prog) (w:=X.w) (A:=X.A.in1) j9 s.heap.objs.size p ze its.toArray,⟨⟨_,Heap.get?_push_size _ rfl,rfl,rfl⟩,pl.isList.push _⟩,?_,fun h' du cp=>?_⟩
 · intro i v s' mm B0 eh yZ
   rw [hq] at eh
   have eh:(bs.map Value.bool)[i]? =some v:=by simpa using eh
   rw [List.getElem?_map] at eh
   cases bE:bs[i]? with
   | none=>rw [bE] at eh; cases eh
   | some b=>
     rw [bE] at eh
     have ev:Value.bool b=v:=Option.some.inj eh
     subst ev
     dsimp only at yZ
     rw [bE] at yZ
     exact wpAny_truthy_bool yZ
 · have y1:(List.range its.toArray.size).all (fun i=>(bs[i]?).getD true)=bs.all id:=by
    have hl:its.toArray.size=bs.length:=by rw [hq]; simp
    rw [hl,Bool.eq_iff_iff,List.all_eq_true,List.all_eq_true]
    constructor
    · intro hh x hx
      obtain ⟨i,hi,rfl⟩:=List.mem_iff_getElem.mp hx
      have:=hh i (List.mem_range.mpr hi)
      rw [List.getElem?_eq_getElem hi] at this
      exact this
    · intro hh i hi
      have hi:=List.mem_range.mp hi
      rw [List.getElem?_eq_getElem hi]
      exact hh _ (List.getElem_mem hi)
   rw [y1]
   exact ⟨.aw _,H,ae.kept (t':=du) fun b o aG=>cp b o (by
    intro z
    have z:b=s.heap.objs.size:=by simpa using z
    exact absurd (Heap.lt_size aG) (by rw [z]; exact Nat.lt_irrefl _)) (Heap.get?_push_of_some _ aG),rfl,q⟩
noncomputable def cI:List D→R D
 | [.lst ds]=>match mr ds with | some bs=> .ok (.aw (bs.all id)) | none=> .bad
 | _=> .bad
theorem QV:l6 F (fun xs H Q=>∃(p:Addr) (bs:List Bool),xs=[.ref p]∧b4 X.K H p (bs.map V.aw)∧Q (.aw (bs.all id)) H) cI:=by
 intro σ ρ G H xs ds Q r al k
 unfold cI at k
 split at k
 · rename_i ds
   split at k
   · rename_i bs bE
     obtain ⟨v,rfl,bo⟩:=al.one
     simp only [At] at bo
     obtain ⟨q,xs,rfl,aO,g_⟩:=bo
     have:=CN g_ bE
     subst this
     exact ⟨q,bs,rfl,b4.of (r.aI.sub _ _ aO),k _ H G r (cz.refl _ _) (by simp only [At])⟩
   · exact k.elim
 · exact k.elim
theorem K7 {k:Nat} (hr:dv k X.A) (hm:X.mg "all"=none) (ha:fR X F [e] ma) (hc:X.calm=true:=by rfl) (hg:cN X "all":=by rfl) (he:starEach [e] X.env=(false,eval e X.env)::starEach [] X.env:=by rfl) (hpl:(backTo pos (starEach [] X.env)).any (·.1)=false:=by rfl) :
  a8 X F (.Call (.Name "all" p) [e] [] pos) (bk cI ma):=vm (Kd hc hr.hd) QV hm (by kernel_rfl) ha hg (by decide) (by decide) he hpl
end
end aD
set_option Elab.async false
set_option linter.all false
set_option maxRecDepth 100000
namespace aD
open PySem PySem.Spec bb
section
variable {X:aL} {F:bx} {e a b c:Expr} {aq:List Expr} {pos p:Pos} {m n:aE} {ma:bh}
noncomputable def ownAt (i:Nat) (ρ:az):R (List D):=match ρ[i]? with
 | some (.a3 (.lst ds))=> .ok ds
 | _=> .bad
noncomputable def hz (i:Nat) (m:aE):aY:=fun ρ=>(ownAt i ρ).bind fun ds=>(m ρ).bind fun d=>if ds.length < 1000000 then .ok (.aV (ρ.set i (.cD (ds ++ [d])))) else .bad
theorem Tc (i:Nat) {x:Str} {aP:Pos} {apos:Pos} {bV:Pos} (he:a8 X F e m) (hN:X.N[i]? =some x:=by rfl) (hv:fE X.env.scope x:=by first | exact Or.inl rfl | exact Or.inr (Or.inl rfl) | exact Or.inr (Or.inr rfl)) (hd:(x == ("__debug__" :Str))=false:=by decide) (hcd:(x == ("__classdict__" :Str))=false:=by decide)
  (hbase:attributeBase (.Name x aP) "append" X.env (eval (.Name x aP) X.env)=eval (.Name x aP) X.env:=by rfl) (hline:(apos.endLine == bV.line)=true:=by rfl)
  (hfew:((backTo bV (starEach [e] X.env)).all (fun x=> !x.1) && (backToKw bV (keywordEach [] X.env)).all (fun x=>x.1.isSome)
    && decide (([e]:List Expr).length + ([]:List Keyword).length + (if ([]:List Keyword).isEmpty then 0 else 1) < 30))=true:=by rfl)
  (hs:starEach [e] X.env=(false,eval e X.env)::starEach [] X.env:=by rfl) (hplain:(backTo bV (starEach [] X.env)).any (·.1)=false:=by rfl)
  (hK:F.K=X.K:=by rfl) :
  fC X F (.Expr (.Call (.Attribute (.Name x aP) "append" apos) [e] [] bV) pos) (hz i m):=by
 refine dj.imp (wR (wL PySem.F.plainAttrs_list PySem.F.slot_list_append PySem.F.type_list_append zV (lR hN hv hd hcd) (kU he n7 hs) hbase hfew hline hs hplain) (lY _ _ _ _ rfl)) ?_
 rintro cJ σ H ⟨G,ρ,r,h⟩
 unfold hz ownAt at h
 cases dn:ρ[i]? with
 | none=>rw [dn] at h; exact h.elim
 | some s=>
   rw [dn] at h
   cases s with
   | un=>exact h.elim
   | J _=>exact h.elim
   | fN _=>exact h.elim
   | a3 a3=>
    cases a3 with
    | a0 _ _=>exact h.elim
    | ins _ _ _=>exact h.elim
    | lst ds=>
     obtain ⟨q,xs,ar,h1,h2,h3,h4⟩:=r.own dn
     have h:gZ F G cJ ((m ρ).bind fun d=>if ds.length < 1000000 then .ok (.aV (ρ.set i (.cD (ds ++ [d])))) else .bad):=h
     refine ⟨.ref q,ar,.inl ⟨rfl,xs,b4.of h1⟩,G,ρ,r,?_⟩
     cases au:m ρ with
     | bad=>rw [au] at h; exact h.elim
     | exc c=>rw [au] at h; exact h
     | ok d=>
       rw [au,R.bH] at h
       intro v H1 aQ av s1 bo
       obtain ⟨df,l4,hG,dp,c9,vB,jd⟩:=av.own dn
       rw [ar] at hG
       cases hG
       by_cases hl:ds.length < 1000000
       · rw [if_pos hl] at h
         refine ⟨q,l4,v,rfl,rfl,dp,by rw [←jd.length]; exact Nat.lt_trans hl (by decide),?_⟩
         exact h σ aQ _ (av.mut dn ar (jd.snoc bo)) s1.g
       · rw [if_neg hl] at h; exact h.elim
end
end aD
set_option Elab.async false
set_option linter.all false
set_option maxRecDepth 100000
set_option autoImplicit false
namespace aD
open PySem PySem.Spec bb
noncomputable abbrev mT (K:PySem.W.Frag) (n:Nat) (mf:List D→R bR):i9:=mU K n (fun _ _ _=>False) mf
structure dD (P:Program) (w:World) (K:PySem.W.Frag) (mg:Str→Option Value) (base:Heap) (x:Str) (n k:Nat) (mf:List D→R bR):Prop where
 ex:∃(f:Addr) (fd:FuncData) (aM:List Str),aM.length=n∧g7 P w K mg base gP k f fd aM (mT K n mf)∧mg x=some (.ref f)∧PySem.W.keepIn K (.ref f)=true∧Binds K fd aM []
section
variable {X:aL} {F:bx} {e:Expr} {aq:List Expr} {pos p:Pos} {ma:bh} {x:Str} {n k:Nat} {mf:List D→R bR}
theorem Lb (c:dD X.prog X.w X.K X.mg X.base x n k mf) (hr:dv k X.A) (ha:fR X F (e::aq) ma) (hE:F.g6=fun _ _=>False:=by rfl) (hK:F.K=X.K:=by rfl) (hg:cN X x:=by rfl) (hdb:(x == ("__debug__" :Str))=false:=by decide)
  (he:starEach (e::aq) X.env=(false,eval e X.env)::starEach aq X.env:=by rfl) (hpl:(backTo pos (starEach aq X.env)).any (·.1)=false:=by rfl):a8 X F (.Call (.Name x p) (e::aq) [] pos) (bc n mf ma):=by
 obtain ⟨f,fd,aM,aC,jz,hm,hk,hb⟩:=c.ex
 refine aZ.imp (wM jz hr hg hm hk hb .nil wJ ha hdb he hpl) ?_
 rw [←hK]
 exact Fb (xe:=fun _ _ _=>False) (E:=xO) hE
theorem QJ (c:dD X.prog X.w X.K X.mg X.base x n k mf) (hr:dv k X.A) (ha:fR X F (e::aq) ma) (hE:F.g6=fun _ _=>False:=by rfl) (hK:F.K=X.K:=by rfl) (hg:cN X x:=by rfl) (hdb:(x == ("__debug__" :Str))=false:=by decide)
  (he:starEach (e::aq) X.env=(false,eval e X.env)::starEach aq X.env:=by rfl) (hpl:(backTo pos (starEach aq X.env)).any (·.1)=false:=by rfl):l8 X F (.Call (.Name x p) (e::aq) [] pos) (fb n mf ma):=by
 obtain ⟨f,fd,aM,aC,jz,hm,hk,hb⟩:=c.ex
 refine aZ.imp (wM jz hr hg hm hk hb .nil wJ ha hdb he hpl) ?_
 rw [←hK]
 exact NF (xe:=fun _ _ _=>False) (E:=xO) hE
end
structure dq (K:PySem.W.Frag) (mg:Str→Option Value) (x:Str) (st:Stmt) (aM:List Str):Prop where
 ex:∃(f:Addr) (fd:FuncData),ku K x x st f fd∧mg x=some (.ref f)∧Binds K fd aM []
theorem KG {P:Program} {w:World} {K:PySem.W.Frag} {mg:Str→Option Value} {base:Heap} {x:Str} {st:Stmt} {N aM:List Str} {k:Nat} {m:aY} (d:dq K mg x st aM) (S:cV N aM (bW st))
  (h:∀(f:Addr) (cn:Value) (A:Around) (outer:List Env) (s:Shared) (H:ao) (E:c8),dv k (A.deeper (PyProof.Rows.envOfC x (bW st) s.heap.objs.size f cn))→∀b2 bw,ng (eE gP P w K mg base N x (bW st) f cn A outer s H E).gL (eP K b2 bw) (fI st) m) :
  dD P w K mg base x aM.length (k + 1) (c5 N.length m):=by
 obtain ⟨f,fd,fn,hm,hb⟩:=d.ex
 refine ⟨f,fd,aM,rfl,fn.ok S xa fun cn A outer s H vs Q E hr hs=>?_,hm,fn.aI,hb⟩
 obtain ⟨G,ht⟩:=u_ hs
 exact ⟨_,h f cn A outer s H E hr G H,ht⟩
theorem Mf {K:PySem.W.Frag} {h:Heap} {mg:Str→Option Value} {x:Str} {st:Stmt} {aM:List Str} {f:Addr} {eT:Value} {dM an:Option Addr} {kT:Array (Option Value)} {cX doc pm cn cL:Value} (X:K.In h) (G:h.Ns mainGlobals mg)
  (a:PySem.W.nsIn K mainGlobals x=some (some (.ref f))) (l:K.lookup f=some ⟨eT,dM,.func (PySem.W.fnOf x x (jw st) (fI st) (bW st) .none cX doc pm an cn cL),kT⟩)
  (c:PySem.W.codeIn K cn x=true) (k:PySem.W.keepIn K (.ref f)=true)
  (b:∀(cX doc pm:Value) (an:Option Addr) (cn cL:Value) (us:List Value),us.length=aM.length→bindArgs (PySem.W.fnOf x x (jw st) (fI st) (bW st) .none cX doc pm an cn cL) ⟨us,[]⟩=pure (aM.zip us)):dq K mg x st aM:=
 ⟨f,_,o6 (st:=st) l c k,PySem.W.mg_of X G a,(o6 (st:=st) l c k).binds b⟩
theorem PY {K:PySem.W.Frag} {mf:List D→R bR} {H:ao} {a:Addr} {ns:List Int} (kH:b4 K H a (ns.map V.int)) (h:mf [.b8 (ns.map .int)]= .ok (.v (.aw true))) (E:c8):mT K 1 mf [.ref a] H (fun v _=>v= .aw true) E:=by
 refine ⟨H,[.b8 (ns.map .int)],Sub.refl _,.cons ?_ .nil,rfl,?_⟩
 · simp only [At]
   refine ⟨a,_,rfl,kH,?_⟩
   induction ns with
   | nil=>exact .nil
   | cons n r c0=>exact .cons (by simp only [At]) (Fj r)
 · rw [h]
   intro v G' H' _ bo
   simp only [At] at bo
   exact bo
where
 Fj {K:PySem.W.Frag} {H:ao}:∀r:List Int,aN K H (r.map .int) (r.map V.int)
  | []=> .nil
  | n::r=> .cons (by simp only [At]) (Fj r)
end aD
set_option Elab.async false
set_option linter.all false
set_option maxRecDepth 100000
set_option autoImplicit false
namespace aD
open PySem PySem.Spec bb
section
variable {X:aL} {F:bx} {e a b c bq iter elt:Expr} {aq:List Expr} {pos p:Pos} {m n:aE} {ma:bh} {scope:Scope} {N:List Str}
structure pX (X:aL) (scope:Scope) (N:List Str) (bq:Expr) (set:D→az→R az):Prop where
 g:ry X scope N bq set
 aV:∀d ρ c,set d ρ≠ .exc c
 aI:Keeps set
theorem lu (i:Nat) {x:Str} (hN:N.Nodup:=by decide +kernel) (hi:N[i]? =some x:=by rfl) (hl:(relabel scope X.env).names.lookup x=some .local:=by rfl):pX X scope N (.Name x pos) (aJ i):=
 ⟨CM (g:=jB i) (fun cl C s H a6=>wO (X:=eX X scope N cl C s H a6) hN hi (.inl hl) (.inr hl)) fun F _=>vy i,w_ i,w9 i⟩
theorem yh (i j:Nat) {x y:Str} {aP py:Pos} {k:Nat} (hc:X.calm=true:=by rfl) (hN:N.Nodup:=by decide +kernel) (hi:N[i]? =some x:=by rfl) (dx:N[j]? =some y:=by rfl) (hl:(relabel scope X.env).names.lookup x=some .local:=by rfl) (hm:(relabel scope X.env).names.lookup y=some .local:=by rfl) :
  pX X scope N (.Tuple [.Name x aP,.Name y py] k pos) (d6 [aJ i,aJ j]):=by
 refine ⟨CM (g:=vx X.K 2 (sd (jB i) (sd (jB j) vw))) (fun cl C s H a6=>?_) (fun F lG=>?_),HD ?_,HC ?_⟩
 · exact GL (X:=eX X scope N cl C s H a6) hc (z8 (wO (X:=eX X scope N cl C s H a6) hN hi (.inl hl) (.inr hl)) (z8 (wO (X:=eX X scope N cl C s H a6) hN dx (.inl hm) (.inr hm)) GN rfl) rfl) rfl rfl
 · rw [←lG]
   exact EC rfl (yW (vy i) (yW (vy j) EB))
 · intro f hf
   rcases List.mem_cons.mp hf with rfl | hf
   · exact w_ i
   · rw [List.mem_singleton.mp hf]; exact w_ j
 · intro f hf
   rcases List.mem_cons.mp hf with rfl | hf
   · exact w9 i
   · rw [List.mem_singleton.mp hf]; exact w9 j
theorem QM (nl:Nat) (caps:List Nat) {ifs:List Expr} {mi:bh} {set:D→az→R az} {mt:ck} {fe:aE} (S:qq X.env.scope X.N scope N nl caps=true) (hi:js X F bq iter mi) (hg:pX X scope N bq set) (ht:la X scope N ifs mt) (he:rx X scope N elt fe)
  (hc:X.calm=true:=by rfl) (hK:F.K=X.K:=by rfl) (hs:∀x,foldedSetIterable iter X.env x=pure x:=by intro _; rfl):l8 X F (.ListComp elt [⟨bq,iter,ifs,0⟩] scope pos) (cY nl caps mi set mt fe):=
 QL (.of S) hi hg.g hg.aV hg.aI ht he hc hK hs
theorem Tg (i:Nat) (nl:Nat) (caps:List Nat) {y:Str} {py:Pos} {ifs:List Expr} {mi:bh} {set:D→az→R az} {mt:ck} {fe:aE} {bV:Pos} (hN:X.N.Nodup) (S:qq X.env.scope X.N scope N nl caps=true) (hi:js X F bq iter mi) (hg:pX X scope N bq set) (ht:la X scope N ifs mt) (he:rx X scope N elt fe)
  (b5:X.N[i]? =some y:=by rfl) (hl:X.env.kindOf y=some .local:=by rfl) (kI:swapsWith (.ListComp elt [⟨bq,iter,ifs,0⟩] scope bV) (some (.Name y py)) pos.line X.env=pure true:=by rfl) (hc:X.calm=true:=by rfl) (hK:F.K=X.K:=by rfl) (hs:∀x,foldedSetIterable iter X.env x=pure x:=by intro _; rfl) :
  fC X F (.Assign [.Name y py] (.ListComp elt [⟨bq,iter,ifs,0⟩] scope bV) pos) (d5 i (cY nl caps mi set mt fe)):=
 Tf i hN (.of S) hi hg.g hg.aV hg.aI ht he b5 hl kI hc hK hs
noncomputable def kg (i:Nat) (a:bh):aY:=fun ρ=>((d5 i a) ρ).bind fun f=>match f with
 | .aV ρ'=> .ok (.aV (sa i ρ'))
 | f=> .ok f
theorem TC {st:Stmt} {i:Nat} {a:bh} (h:fC X F st (d5 i a)):fC X F st (kg i a):=dj.imp h fun cJ σ H ⟨G,ρ,r,k⟩=>by
 refine ⟨G,ρ,r,?_⟩
 unfold kg at k
 cases e:d5 i a ρ with
 | bad=>rw [e] at k; exact k.elim
 | exc c=>rw [e] at k; exact k
 | ok f=>
   rw [e,R.bH] at k
   cases f with
   | aV ρ'=>
     intro σ' G' H' bf s'
     obtain ⟨c4,bl,s2⟩:=bf.sa i
     exact k σ' c4 H' bl (s'.trans s2)
   | dN d=>exact k
   | kl d=>exact k
   | lV d=>exact k
   | ee d=>exact k
   | cL d=>exact k
end
theorem Ij {K:PySem.W.Frag} {c:Addr} {dd:Option Addr} {its:Array Value} {n:Nat} {cB:Array (Option Value)} {xs:List V} {ds:List D} (l:K.lookup c=some ⟨.type "tuple",dd,.seq its n,cB⟩) (br:its.size≤sizeLine) (v:Vals xs its.toList) (a:∀G,aN K G ds xs) :
  ∀G,At K G (.eI ds) (.ref c):=fun G=>by
 simp only [At]
 exact ⟨c,xs,rfl,.inr ⟨_,its,n,l,rfl,rfl,br,v⟩,a G⟩
theorem ob (i:Int) (t:Tok):RelV (.int i) (.int i t):=⟨t,rfl⟩
theorem Aj (x:Str) (t:Tok):RelV (.str x) (.str x t):=⟨t,rfl⟩
theorem nA {K:PySem.W.Frag} {G:ao} (i:Int):At K G (.int i) (.int i):=by simp only [At]
theorem x8 {K:PySem.W.Frag} {G:ao} (i:Str):At K G (.str i) (.str i):=by simp only [At]
end aD
set_option Elab.async false
set_option linter.all false
set_option maxRecDepth 100000
set_option autoImplicit false
namespace aD
open PySem PySem.Spec bb
structure aS (X:aL) (F:bx) (e:Expr) (m:aE):Prop where
 o:aZ X e (cR F m)
structure ny (X:aL) (F:bx) (e:Expr) (m:bh):Prop where
 o:aZ X e (jS F m)
structure e8 (X:aL) (F:bx) (e:Expr) (m:ck):Prop where
 o:eO X e (fB F m)
structure oQ (X:aL) (F:bx) (e:Expr) (m:ck):Prop where
 o:hR X e (fB F m)
structure e7 (X:aL) (F:bx) (aq:List Expr) (m:bh):Prop where
 o:eN X aq (d8 F m)
structure eV (X:aL) (F:bx) (st:Stmt) (m:aY):Prop where
 o:dj X st (e1 F m)
structure iD (X:aL) (F:bx) (st:List Stmt) (m:aY):Prop where
 o:fu X st (e1 F m)
structure lq (X:aL) (F:bx) (bq e:Expr) (m:bh):Prop where
 o:fW X bq e (ko F m)
structure uq (X:aL) (F:bx) (e:Option Expr) (m:me):Prop where
 o:p4 X e (xk F m)
section
variable {X:aL} {F:bx} {e a b c bq iter elt:Expr} {aq:List Expr} {pos p:Pos} {m n:aE} {ma:bh} {st:Stmt} {mV:List Stmt}
theorem aj (i:Nat) {x:Str} (hN:X.N[i]? =some x:=by rfl) (hv:fE X.env.scope x:=by first | exact Or.inl rfl | exact Or.inr (Or.inl rfl) | exact Or.inr (Or.inr rfl)) (hd:(x == ("__debug__" :Str))=false:=by decide) (hcd:(x == ("__classdict__" :Str))=false:=by decide):aS X F (.Name x pos) (I i):=⟨aD.LO (i:=i) (hN:=hN) (hv:=hv) (hd:=hd) (hcd:=hcd)⟩
theorem aF {i:Int} {j}:aS X F (.Constant (.int i) j pos) (ag (.int i)):=⟨aD.Lm ⟩
theorem f9 {i:Bool} {j}:aS X F (.Constant (.bool i) j pos) (ag (.aw i)):=⟨aD.K9 ⟩
theorem cS {i:Str} {j}:aS X F (.Constant (.str i) j pos) (ag (.str i)):=⟨aD.LJ ⟩
theorem fP {j}:aS X F (.Constant .none j pos) (ag .non):=⟨aD.LA ⟩
theorem aA:e7 X F [] ai:=⟨aD.JI ⟩
theorem ak {m:aE} {r:bh} (h:aS X F e m) (t:e7 X F aq r) (hs:notStar e=true:=by rfl):e7 X F (e::aq) (af m r):=⟨aD.JH (h:=h.1) (t:=t.1) (hs:=hs)⟩
theorem dO {k} {m:bh} (h:e7 X F aq m):aS X F (.Tuple aq k pos) (bG m):=⟨aD.LM (h:=h.1)⟩
theorem dV {m:bh} (h:e7 X F aq m):ny X F (.List aq pos) (bK m):=⟨aD.QO (h:=h.1)⟩
theorem dh {m:bh} (h:ny X F e m):aS X F e (a9 m):=⟨aD.Li (h:=h.1)⟩
theorem BI {m:aE} (h:aS X F e m):aS X F e (jG m):=⟨aD.K_ (h:=h.1)⟩
theorem tQ {m:ck} (h:e8 X F e m):e8 X F e (hJ m):=⟨aD.U0 (h:=h.1)⟩
theorem e3 {m:aE} (h:aS X F e m) (he:∀whole,isTrue e X.env whole=(do let v ←whole; standAt e.pos; holding [v] (truthy v)):=by intro _; rfl):e8 X F e (aH m):=⟨aD.Va (h:=h.1) (he:=he)⟩
theorem rr {m:ck} (h:e8 X F a m):oQ X F (.BoolOp .And [a] pos) m:=⟨aD.Vz (h:=h.1)⟩
theorem iq {m:ck} (h:e8 X F a m):oQ X F (.BoolOp .Or [a] pos) m:=⟨aD.VC (h:=h.1)⟩
theorem pU {m n:ck} (h:e8 X F a m) (k:oQ X F (.BoolOp .And (b::aq) pos) n):oQ X F (.BoolOp .And (a::b::aq) pos) (gp m n):=⟨aD.w_and (h:=h.1) (k:=k.1)⟩
theorem hB {m n:ck} (h:e8 X F a m) (k:oQ X F (.BoolOp .Or (b::aq) pos) n):oQ X F (.BoolOp .Or (a::b::aq) pos) (dY m n):=⟨aD.w_or (h:=h.1) (k:=k.1)⟩
theorem f_ {m:ck} (h:oQ X F e m):e8 X F e m:=⟨aD.Vb (h:=h.1)⟩
theorem fQ {m:ck} (h:e8 X F a m):e8 X F (.UnaryOp .Not a pos) (c6 m):=⟨aD.U9 (h:=h.1)⟩
theorem m_ {op} {m:aE} (h:aS X F a m):aS X F (.BoolOp op [a] pos) m:=⟨aD.LC (h:=h.1)⟩
theorem ow {m n:aE} (h:aS X F a m) (k:aS X F (.BoolOp .And (b::aq) pos) n):aS X F (.BoolOp .And (a::b::aq) pos) (hI m n):=⟨aD.K8 (h:=h.1) (k:=k.1)⟩
theorem Wb {m n:aE} (h:aS X F a m) (k:aS X F (.BoolOp .Or (b::aq) pos) n):aS X F (.BoolOp .Or (a::b::aq) pos) (nY m n):=⟨aD.LD (h:=h.1) (k:=k.1)⟩
theorem Wa {m:aE} (h:aS X F a m):aS X F (.UnaryOp .Not a pos) (sS m):=⟨aD.LB (h:=h.1)⟩
theorem IX {k:ck} {m n:aE} (h:e8 X F c k) (ha:aS X F a m) (hb:aS X F b n):aS X F (.IfExp c a b pos) (lO k m n):=⟨aD.Lk (h:=h.1) (ha:=ha.1) (hb:=hb.1)⟩
theorem dI:iD X F [] cF:=⟨aD.Ts ⟩
theorem bp {m n:aY} (h:eV X F st m) (k:iD X F mV n):iD X F (st::mV) (aK m n):=⟨aD.Th (h:=h.1) (k:=k.1)⟩
theorem bC {m:aY} (h:eV X F st m):iD X F [st] m:=⟨aD.Tt (h:=h.1)⟩
theorem Wo {m:aE} (h:aS X F e m) (hs:iV e=true:=by rfl):eV X F (.Expr e pos) (nV m):=⟨aD.Tj (h:=h.1) (hs:=hs)⟩
theorem cE {m:aE} (h:aS X F e m):eV X F (.Return (some e) pos) (bS m):=⟨aD.Tu (h:=h.1)⟩
theorem I_ {m:bh} (h:ny X F e m):eV X F (.Return (some e) pos) (iS m):=⟨aD.Tv (h:=h.1)⟩
theorem BN (i:Nat) {x:Str} {p:Pos} (hN:X.N[i]? =some x:=by rfl) (hv:fE X.env.scope x:=by first | exact Or.inl rfl | exact Or.inr (Or.inl rfl) | exact Or.inr (Or.inr rfl)) (hd:(x == ("__debug__" :Str))=false:=by decide) (hcd:(x == ("__classdict__" :Str))=false:=by decide):eV X F (.Return (some (.Name x p)) pos) (iS (pq i)):=⟨aD.Tw (i:=i) (hN:=hN) (hv:=hv) (hd:=hd) (hcd:=hcd)⟩
theorem dH {k:ck} {m n:aY} {xs ys:List Stmt} (h:e8 X F c k) (ha:iD X F xs m) (hb:iD X F ys n):eV X F (.If c xs ys pos) (cx k m n):=⟨aD.Tr (h:=h.1) (ha:=ha.1) (hb:=hb.1)⟩
theorem dA (i:Nat) {x:Str} {p:Pos} {m:aE} (hN:X.N.Nodup) (he:aS X F e m) (hi:X.N[i]? =some x:=by rfl) (hx:Loc X.env.scope x:=by first | exact Or.inl rfl | exact Or.inr rfl) (hs:iV e=true:=by rfl) (hf:X.fn x=true∨X.env.scope.names.lookup x=some .local:=by first | exact .inl rfl | exact .inr rfl):eV X F (.Assign [.Name x p] e pos) (b6 i m):=⟨aD.Tz (i:=i) (hN:=hN) (he:=he.1) (hi:=hi) (hx:=hx) (hs:=hs) (hf:=hf)⟩
theorem nc (i:Nat) {x:Str} {p:Pos} {m:bh} (hN:X.N.Nodup) (he:ny X F e m) (hi:X.N[i]? =some x:=by rfl) (hx:Loc X.env.scope x:=by first | exact Or.inl rfl | exact Or.inr rfl) (hs:iV e=true:=by rfl) (hf:X.fn x=true∨X.env.scope.names.lookup x=some .local:=by first | exact .inl rfl | exact .inr rfl):eV X F (.Assign [.Name x p] e pos) (d5 i m):=⟨aD.TF (i:=i) (hN:=hN) (he:=he.1) (hi:=hi) (hx:=hx) (hs:=hs) (hf:=hf)⟩
theorem pR (ha:aS X F a m) (hb:aS X F b n):aS X F (.BinOp a .Sub b pos) (ah ig m n):=⟨aD.LL (ha:=ha.1) (hb:=hb.1)⟩
theorem tO (ha:aS X F a m) (hb:aS X F b n):aS X F (.BinOp a .Mult b pos) (ah ib m n):=⟨aD.Lx (ha:=ha.1) (hb:=hb.1)⟩
theorem g4 (ha:aS X F a m) (hb:aS X F b n):aS X F (.BinOp a .FloorDiv b pos) (ah da m n):=⟨aD.Lg (ha:=ha.1) (hb:=hb.1)⟩
theorem e2 (ha:aS X F a m) (hb:aS X F b n):aS X F (.BinOp a .Mod b pos) (ah cG m n):=⟨aD.Lw (ha:=ha.1) (hb:=hb.1)⟩
theorem BK (ha:aS X F a m) (hb:aS X F b n):aS X F (.BinOp a .Pow b pos) (ah iZ m n):=⟨aD.LH (ha:=ha.1) (hb:=hb.1)⟩
theorem Wu (ha:aS X F a m) (hb:aS X F b n):e8 X F (.Compare a [.Lt] [b] pos) (aH (ah nT m n)):=⟨aD.U7 (ha:=ha.1) (hb:=hb.1)⟩
theorem xC (ha:aS X F a m) (hb:aS X F b n):e8 X F (.Compare a [.Gt] [b] pos) (aH (ah j5 m n)):=⟨aD.U5 (ha:=ha.1) (hb:=hb.1)⟩
theorem eL (ha:aS X F a m) (hb:aS X F b n):aS X F (.BinOp a .Add b pos) (ah b1 m n):=⟨aD.K6 (ha:=ha.1) (hb:=hb.1)⟩
theorem hQ (hu:X.A.units + 64 < cLine) (ha:aS X F a m) (hb:aS X F b n) (hK:F.K=X.K:=by rfl):e8 X F (.Compare a [.Eq] [b] pos) (aH (ah (bT true) m n)):=⟨aD.U4 (hu:=hu) (ha:=ha.1) (hb:=hb.1) (hK:=hK)⟩
theorem k8 (hu:X.A.units + 64 < cLine) (ha:aS X F a m) (hb:aS X F b n) (hK:F.K=X.K:=by rfl):e8 X F (.Compare a [.NotEq] [b] pos) (aH (ah (bT false) m n)):=⟨aD.U8 (hu:=hu) (ha:=ha.1) (hb:=hb.1) (hK:=hK)⟩
theorem l2 (hu:X.A.units + 64 < cLine) (ha:aS X F a m) (hb:aS X F b n) (hK:F.K=X.K:=by rfl):aS X F (.Compare a [.Eq] [b] pos) (ah (bT true) m n):=⟨aD.Lf (hu:=hu) (ha:=ha.1) (hb:=hb.1) (hK:=hK)⟩
theorem BJ (hu:X.A.units + 64 < cLine) (ha:aS X F a m) (hb:aS X F b n) (hK:F.K=X.K:=by rfl):aS X F (.Compare a [.NotEq] [b] pos) (ah (bT false) m n):=⟨aD.Lz (hu:=hu) (ha:=ha.1) (hb:=hb.1) (hK:=hK)⟩
theorem BR (hu:X.A.units + 64 < cLine) (ha:aS X F a m) (hb:aS X F b n) (hK:F.K=X.K:=by rfl) (hm:behindInMarks .NotIn b=false:=by with_unfolding_all rfl):e8 X F (.Compare a [.NotIn] [b] pos) (aH (ah (inD false) m n)):=⟨aD.U_ (hu:=hu) (ha:=ha.1) (hb:=hb.1) (hK:=hK) (hm:=hm)⟩
theorem rm (hu:X.A.units + 64 < cLine) (ha:aS X F a m) (hb:aS X F b n) (hK:F.K=X.K:=by rfl) (hm:behindInMarks .In b=false:=by with_unfolding_all rfl):aS X F (.Compare a [.In] [b] pos) (ah (inD true) m n):=⟨aD.Ll (hu:=hu) (ha:=ha.1) (hb:=hb.1) (hK:=hK) (hm:=hm)⟩
theorem rq (ha:aS X F a m) (hb:aS X F b n):e8 X F (.Compare a [.Is] [b] pos) (aH (ah (eZ true) m n)):=⟨aD.U6 (ha:=ha.1) (hb:=hb.1)⟩
theorem V4 (ha:aS X F a m) (hb:aS X F b n):aS X F (.Compare a [.Is] [b] pos) (ah (eZ true) m n):=⟨aD.Ln (ha:=ha.1) (hb:=hb.1)⟩
theorem V0 {op fK:CmpOp} {r bf:ed} {f g:D→D→R D} {l:aE} (ho:dr X (compareOp op) r) (ho':dr X (compareOp fK) bf) (hf:ft F r f) (hg:ft F bf g) (ha:aS X F a m) (hb:aS X F b n) (hc:aS X F c l) (hm:lastMarks [op,fK] [b,c]=false:=by with_unfolding_all rfl):aS X F (.Compare a [op,fK] [b,c] pos) (hL f g m n l):=⟨aD.Ld (ho:=ho) (ho':=ho') (hf:=hf) (hg:=hg) (ha:=ha.1) (hb:=hb.1) (hc:=hc.1) (hm:=hm)⟩
theorem Jc {op fK:CmpOp} {r bf:ed} {f g:D→D→R D} {l:aE} (ho:dr X (compareOp op) r) (ho':dr X (compareOp fK) bf) (hf:ft F r f) (hg:ft F bf g) (ha:aS X F a m) (hb:aS X F b n) (hc:aS X F c l) (hm:lastMarks [op,fK] [b,c]=false:=by with_unfolding_all rfl):e8 X F (.Compare a [op,fK] [b,c] pos) (aH (hL f g m n l)):=⟨aD.U1 (ho:=ho) (ho':=ho') (hf:=hf) (hg:=hg) (ha:=ha.1) (hb:=hb.1) (hc:=hc.1) (hm:=hm)⟩
theorem fi (hm:X.mg "len"=none) (ha:e7 X F [e] ma) (hK:F.K=X.K:=by rfl) (hg:cN X "len":=by rfl) (he:starEach [e] X.env=(false,eval e X.env)::starEach [] X.env:=by rfl) (hpl:(backTo pos (starEach [] X.env)).any (·.1)=false:=by rfl):aS X F (.Call (.Name "len" p) [e] [] pos) (bk cf ma):=⟨aD.Lq (hm:=hm) (ha:=ha.1) (hK:=hK) (hg:=hg) (he:=he) (hpl:=hpl)⟩
theorem ks {U:Str} {T:String} {b7:Pos} (tt:nv X.K T) (hm:X.mg "isinstance"=none) (hmU:X.mg U=none) (hU:bootBuiltins U=some (.type T)) (ha:aS X F a m) (hK:F.K=X.K:=by rfl) (hg:cN X "isinstance":=by rfl) (hgU:cN X U:=by rfl) (hnU:U≠"__name__":=by decide) (hdU:(U == ("__debug__" :Str))=false:=by decide) (hs2:starEach [.Name U b7] X.env=(false,eval (.Name U b7) X.env)::starEach [] X.env:=by rfl) (he:starEach [a,.Name U b7] X.env=(false,eval a X.env)::starEach [.Name U b7] X.env:=by rfl) (hpl:(backTo pos (starEach [.Name U b7] X.env)).any (·.1)=false:=by rfl):aS X F (.Call (.Name "isinstance" p) [a,.Name U b7] [] pos) (ct (eS T) m):=⟨aD.Lo (tt:=tt) (hm:=hm) (hmU:=hmU) (hU:=hU) (ha:=ha.1) (hK:=hK) (hg:=hg) (hgU:=hgU) (hnU:=hnU) (hdU:=hdU) (hs2:=hs2) (he:=he) (hpl:=hpl)⟩
theorem bI (ha:aS X F a m) (hb:aS X F b n) (hs:rL b) (hK:F.K=X.K:=by rfl):aS X F (.Subscript a b pos) (ah ay m n):=⟨aD.Lp (ha:=ha.1) (hb:=hb.1) (hs:=hs) (hK:=hK)⟩
theorem rn:uq X F none iR:=⟨aD.Rx ⟩
theorem oy (h:aS X F e m):uq X F (some e) (fl m):=⟨aD.Ry (h:=h.1)⟩
theorem pQ {lo hi:Option Expr} {b7:Pos} {s9 s7:me} (ha:aS X F a m) (hl:uq X F lo s9) (hh:uq X F hi s7) (hK:F.K=X.K:=by rfl):aS X F (.Subscript a (.Slice lo hi none b7) pos) (f5 gs m s9 s7):=⟨aD.LI (ha:=ha.1) (hl:=hl.1) (hh:=hh.1) (hK:=hK)⟩
theorem We (hm:X.mg "str"=none) (ha:e7 X F [e] ma) (hg:cN X "str":=by rfl) (he:starEach [e] X.env=(false,eval e X.env)::starEach [] X.env:=by rfl) (hpl:(backTo pos (starEach [] X.env)).any (·.1)=false:=by rfl):aS X F (.Call (.Name "str" p) [e] [] pos) (bk tA ma):=⟨aD.LK (hm:=hm) (ha:=ha.1) (hg:=hg) (he:=he) (hpl:=hpl)⟩
theorem nd (h:aS X F e m) (hK:F.K=X.K:=by rfl):lq X F bq e (dX m):=⟨aD.VB (h:=h.1) (hK:=hK)⟩
theorem Wx (h:aS X F e m) (hK:F.K=X.K:=by rfl):lq X F bq e (qP m):=⟨aD.VG (h:=h.1) (hK:=hK)⟩
theorem Ww (h:aS X F e m):lq X F bq e (sP m):=⟨aD.VF (h:=h.1)⟩
theorem jm (hm:X.mg "range"=none) (ha:e7 X F [a] ma) (hg:cN X "range":=by rfl) (hs:starEach [a] X.env=[(false,eval a X.env)]:=by rfl):lq X F bq (.Call (.Name "range" p) [a] [] pos) (dU ma):=⟨aD.VD (hm:=hm) (ha:=ha.1) (hg:=hg) (hs:=hs)⟩
theorem Wv (hm:X.mg "range"=none) (ha:e7 X F [a,b] ma) (hg:cN X "range":=by rfl) (hs:starEach [a,b] X.env=[(false,eval a X.env),(false,eval b X.env)]:=by rfl) (hs2:starEach [b] X.env=[(false,eval b X.env)]:=by rfl):lq X F bq (.Call (.Name "range" p) [a,b] [] pos) (pk ma):=⟨aD.VE (hm:=hm) (ha:=ha.1) (hg:=hg) (hs:=hs) (hs2:=hs2)⟩
theorem Jd {elts:List Expr} {k:Nat} {m3:Pos} (hm:X.mg "enumerate"=none) (ha:e7 X F [a] ma) (hK:F.K=X.K:=by rfl) (hg:cN X "enumerate":=by rfl) (hs:starEach [a] X.env=[(false,eval a X.env)]:=by rfl):lq X F (.Tuple elts k m3) (.Call (.Name "enumerate" p) [a] [] pos) (kO ma):=⟨aD.VA (hm:=hm) (ha:=ha.1) (hK:=hK) (hg:=hg) (hs:=hs)⟩
theorem Wy {elts:List Expr} {k:Nat} {m3:Pos} (hm:X.mg "zip"=none) (ha:e7 X F [a,b] ma) (hK:F.K=X.K:=by rfl) (hg:cN X "zip":=by rfl) (hs:starEach [a,b] X.env=[(false,eval a X.env),(false,eval b X.env)]:=by rfl) (hs2:starEach [b] X.env=[(false,eval b X.env)]:=by rfl):lq X F (.Tuple elts k m3) (.Call (.Name "zip" p) [a,b] [] pos) (sQ ma):=⟨aD.VH (hm:=hm) (ha:=ha.1) (hK:=hK) (hg:=hg) (hs:=hs) (hs2:=hs2)⟩
theorem ip {body:List Stmt} {mi:bh} {set:D→az→R az} {fm:aY} (hp:PassesOwn (model X.prog X.w) X.A X.env X.xe) (hi:lq X F bq iter mi) (hg:GM X bq set) (hb:iD X F body fm) (hc:X.calm=true:=by rfl) (hK:F.K=X.K:=by rfl) (hs:∀x,foldedSetIterable iter X.env x=pure x:=by intro _; rfl):eV X F (.For bq iter body [] pos) (fc mi set fm):=⟨aD.Tq (hp:=hp) (hi:=hi.1) (hg:=hg) (hb:=hb.1) (hc:=hc) (hK:=hK) (hs:=hs)⟩
theorem BO {st:Stmt} {i:Nat} {a:bh} (h:eV X F st (d5 i a)):eV X F st (kg i a):=⟨aD.TC (h:=h.1)⟩
theorem tM {k:Nat} (hr:dv k X.A) (hm:X.mg "all"=none) (ha:e7 X F [e] ma) (hc:X.calm=true:=by rfl) (hg:cN X "all":=by rfl) (he:starEach [e] X.env=(false,eval e X.env)::starEach [] X.env:=by rfl) (hpl:(backTo pos (starEach [] X.env)).any (·.1)=false:=by rfl):aS X F (.Call (.Name "all" p) [e] [] pos) (bk cI ma):=⟨aD.K7 (hr:=hr) (hm:=hm) (ha:=ha.1) (hc:=hc) (hg:=hg) (he:=he) (hpl:=hpl)⟩
theorem ro (i:Nat) {x:Str} {aP:Pos} {apos:Pos} {bV:Pos} (he:aS X F e m) (hN:X.N[i]? =some x:=by rfl) (hv:fE X.env.scope x:=by first | exact Or.inl rfl | exact Or.inr (Or.inl rfl) | exact Or.inr (Or.inr rfl)) (hd:(x == ("__debug__" :Str))=false:=by decide) (hcd:(x == ("__classdict__" :Str))=false:=by decide) (hbase:attributeBase (.Name x aP) "append" X.env (eval (.Name x aP) X.env)=eval (.Name x aP) X.env:=by rfl) (hline:(apos.endLine == bV.line)=true:=by rfl) (hfew:((backTo bV (starEach [e] X.env)).all (fun x=> !x.1) && (backToKw bV (keywordEach [] X.env)).all (fun x=>x.1.isSome)
   && decide (([e]:List Expr).length + ([]:List Keyword).length + (if ([]:List Keyword).isEmpty then 0 else 1) < 30))=true:=by rfl) (hs:starEach [e] X.env=(false,eval e X.env)::starEach [] X.env:=by rfl) (hplain:(backTo bV (starEach [] X.env)).any (·.1)=false:=by rfl) (hK:F.K=X.K:=by rfl):eV X F (.Expr (.Call (.Attribute (.Name x aP) "append" apos) [e] [] bV) pos) (hz i m):=⟨aD.Tc (i:=i) (he:=he.1) (hN:=hN) (hv:=hv) (hd:=hd) (hcd:=hcd) (hbase:=hbase) (hline:=hline) (hfew:=hfew) (hs:=hs) (hplain:=hplain) (hK:=hK)⟩
theorem c3 {x:Str} {n k:Nat} {mf:List D→R bR} (c:dD X.prog X.w X.K X.mg X.base x n k mf) (hr:dv k X.A) (ha:e7 X F (e::aq) ma) (hE:F.g6=fun _ _=>False:=by rfl) (hK:F.K=X.K:=by rfl) (hg:cN X x:=by rfl) (hdb:(x == ("__debug__" :Str))=false:=by decide) (he:starEach (e::aq) X.env=(false,eval e X.env)::starEach aq X.env:=by rfl) (hpl:(backTo pos (starEach aq X.env)).any (·.1)=false:=by rfl):aS X F (.Call (.Name x p) (e::aq) [] pos) (bc n mf ma):=⟨aD.Lb (c:=c) (hr:=hr) (ha:=ha.1) (hE:=hE) (hK:=hK) (hg:=hg) (hdb:=hdb) (he:=he) (hpl:=hpl)⟩
theorem pS {x:Str} {n k:Nat} {mf:List D→R bR} (c:dD X.prog X.w X.K X.mg X.base x n k mf) (hr:dv k X.A) (ha:e7 X F (e::aq) ma) (hE:F.g6=fun _ _=>False:=by rfl) (hK:F.K=X.K:=by rfl) (hg:cN X x:=by rfl) (hdb:(x == ("__debug__" :Str))=false:=by decide) (he:starEach (e::aq) X.env=(false,eval e X.env)::starEach aq X.env:=by rfl) (hpl:(backTo pos (starEach aq X.env)).any (·.1)=false:=by rfl):ny X F (.Call (.Name x p) (e::aq) [] pos) (fb n mf ma):=⟨aD.QJ (c:=c) (hr:=hr) (ha:=ha.1) (hE:=hE) (hK:=hK) (hg:=hg) (hdb:=hdb) (he:=he) (hpl:=hpl)⟩
variable {scope:Scope} {N:List Str}
noncomputable abbrev BY (X:aL) (scope:Scope) (N:List Str) (e:Expr) (m:aE):Prop:=∀cl C s H a6 b2 bw,aS (eX X scope N cl C s H a6) (eP X.K b2 bw) e m
theorem IV {mt:ck} (h:∀cl C s H a6 b2 bw,e8 (eX X scope N cl C s H a6) (eP X.K b2 bw) c mt):la X scope N [c] mt:=aD.J3 fun cl C s H a6 b2 bw=>(h cl C s H a6 b2 bw).1
theorem l3 (nl:Nat) (caps:List Nat) {ifs:List Expr} {mi:bh} {set:D→az→R az} {mt:ck} {fe:aE} (S:qq X.env.scope X.N scope N nl caps=true) (hi:lq X F bq iter mi) (hg:pX X scope N bq set) (ht:la X scope N ifs mt) (he:BY X scope N elt fe)
  (hc:X.calm=true:=by rfl) (hK:F.K=X.K:=by rfl) (hs:∀x,foldedSetIterable iter X.env x=pure x:=by intro _; rfl):ny X F (.ListComp elt [⟨bq,iter,ifs,0⟩] scope pos) (cY nl caps mi set mt fe):=
 ⟨aD.QM nl caps S hi.1 hg ht (fun cl C s H a6 b2 bw=>(he cl C s H a6 b2 bw).1) hc hK hs⟩
theorem BM (i:Nat) (nl:Nat) (caps:List Nat) {y:Str} {py:Pos} {ifs:List Expr} {mi:bh} {set:D→az→R az} {mt:ck} {fe:aE} {bV:Pos} (hN:X.N.Nodup) (S:qq X.env.scope X.N scope N nl caps=true) (hi:lq X F bq iter mi) (hg:pX X scope N bq set) (ht:la X scope N ifs mt) (he:BY X scope N elt fe)
  (b5:X.N[i]? =some y:=by rfl) (hl:X.env.kindOf y=some .local:=by rfl) (kI:swapsWith (.ListComp elt [⟨bq,iter,ifs,0⟩] scope bV) (some (.Name y py)) pos.line X.env=pure true:=by rfl) (hc:X.calm=true:=by rfl) (hK:F.K=X.K:=by rfl) (hs:∀x,foldedSetIterable iter X.env x=pure x:=by intro _; rfl) :
  eV X F (.Assign [.Name y py] (.ListComp elt [⟨bq,iter,ifs,0⟩] scope bV) pos) (d5 i (cY nl caps mi set mt fe)):=
 ⟨aD.Tg i nl caps hN S hi.1 hg ht (fun cl C s H a6 b2 bw=>(he cl C s H a6 b2 bw).1) b5 hl kI hc hK hs⟩
end
theorem dT {P:Program} {w:World} {K:PySem.W.Frag} {mg:Str→Option Value} {base:Heap} {x:Str} {st:Stmt} {N aM:List Str} {k:Nat} {m:aY} (d:dq K mg x st aM) (S:cV N aM (bW st))
  (h:∀(f:Addr) (cn:Value) (A:Around) (outer:List Env) (s:Shared) (H:ao) (E:c8),dv k (A.deeper (PyProof.Rows.envOfC x (bW st) s.heap.objs.size f cn))→∀b2 bw,iD (eE gP P w K mg base N x (bW st) f cn A outer s H E).gL (eP K b2 bw) (fI st) m) :
  dD P w K mg base x aM.length (k + 1) (c5 N.length m):=aD.KG d S fun f cn A outer s H E hr b2 bw=>(h f cn A outer s H E hr b2 bw).1
structure oC (K:PySem.W.Frag) (mg:Str→Option Value) (x:Str) (d:D):Prop where
 ex:∃(v:V) (u:Value),mg x=some u∧RelV v u∧∀G,At K G d v
theorem ox {X:aL} {F:bx} {x:Str} {d:D} {pos:Pos} (c:oC X.K X.mg x d) (hK:F.K=X.K:=by rfl) (hg:cN X x:=by rfl) (hd:(x == ("__debug__" :Str))=false:=by decide):aS X F (.Name x pos) (ag d):=by
 obtain ⟨v,u,h1,h2,h3⟩:=c.ex
 exact ⟨aD.Lj h1 h2 (by rw [hK]; exact h3) hg hd⟩
end aD
set_option Elab.async false
set_option linter.all false
set_option maxRecDepth 100000
namespace bb
open PySem PySem.Spec PyProof.Rows
section
variable {X:aL} {bq:Expr}
noncomputable def BZ (a b c:Int):Prop:=c≠0∧Builtin.Range.small a b c=true∧0≤Builtin.Range.rangeSize a b c∧Builtin.divisionGoesByPylong (b - a) c=false
instance (a b c:Int):Decidable (BZ a b c):=by unfold BZ; infer_instance
end
section
variable {X:aL} {a e:Expr} {cb:eA} {pos p pos' W7:Pos}
end
end bb
set_option Elab.async false
set_option linter.all false
set_option maxRecDepth 100000
namespace aD
open PySem PySem.Spec bb
noncomputable abbrev fs:=az→R (D×az)
noncomputable abbrev i8:=az→R (List D×az)
noncomputable def O2 (F:bx) (G:ao) (σ :St) (Q:cW):R (D×az)→Prop
 | .ok (d,ρ')=>∀v H' G',Rel F G' H' σ ρ'→Sub G G'→At F.K G' d v→Q v H'
 | .exc c=>ke F c
 | .bad=>False
noncomputable def O0 (F:bx) (G:ao) (σ :St) (Q:List V→ao→Prop):R (List D×az)→Prop
 | .ok (d,ρ')=>∀v H' G',Rel F G' H' σ ρ'→Sub G G'→aN F.K G' d v→Q v H'
 | .exc c=>ke F c
 | .bad=>False
noncomputable def pL (F:bx) (m:fs):TE:=fun σ H Q=>∃G ρ,Rel F G H σ ρ∧O2 F G σ Q (m ρ)
noncomputable def rh (F:bx) (m:i8):eA:=fun σ H Q=>∃G ρ,Rel F G H σ ρ∧O0 F G σ Q (m ρ)
noncomputable def lf (m:aE):fs:=fun ρ=>(m ρ).bind fun d=> .ok (d,ρ)
noncomputable def mI (m:bh):i8:=fun ρ=>(m ρ).bind fun d=> .ok (d,ρ)
section
variable {F:bx}
theorem NT {m:aE}:ez (pL F (lf m)) (cR F m):=by
 rintro σ H Q ⟨G,ρ,r,h⟩
 refine ⟨G,ρ,r,?_⟩
 unfold lf at h
 cases au:m ρ with
 | bad=>rw [au] at h; exact h.elim
 | exc c=>rw [au] at h; exact h
 | ok d=>rw [au] at h; exact fun v H' G' bf u a=>h v H' G' bf u.g a
theorem NU {m:bh}:p1 (rh F (mI m)) (d8 F m):=by
 rintro σ H Q ⟨G,ρ,r,h⟩
 refine ⟨G,ρ,r,?_⟩
 unfold mI at h
 cases au:m ρ with
 | bad=>rw [au] at h; exact h.elim
 | exc c=>rw [au] at h; exact h
 | ok d=>rw [au] at h; exact fun v H' G' bf u a=>h v H' G' bf u.g a
noncomputable def jg (a:fs) (r:i8):i8:=fun ρ=>(a ρ).bind fun x=>(r x.2).bind fun y=> .ok (x.1::y.1,y.2)
theorem NI {ma:fs} {pB:i8}:p1 (rh F (jg ma pB)) (tD (pL F ma) (rh F pB)):=by
 rintro σ H Q ⟨G,ρ,r,h⟩
 unfold jg at h
 refine ⟨G,ρ,r,?_⟩
 cases au:ma ρ with
 | bad=>rw [au] at h; exact h.elim
 | exc c=>rw [au] at h; exact h
 | ok x=>
   obtain ⟨a4,d9⟩:=x
   rw [au,R.bH] at h
   intro x H1 aQ av s1 bY
   refine ⟨aQ,d9,av,?_⟩
   cases bE:pB d9 with
   | bad=>simp only [bE] at h; exact h.elim
   | exc c=>simp only [bE] at h; exact h
   | ok y=>
     obtain ⟨fz,ep⟩:=y
     simp only [bE,R.bH] at h
     intro y aT c4 bl s2 cP
     exact h (x::y) aT c4 bl (s1.trans s2) (.cons (bY.mono s2) cP)
noncomputable def mJ (m:i8):fs:=fun ρ=>(m ρ).bind fun x=>if x.1.length≤1000000 then .ok (.tup x.1,x.2) else .bad
theorem Oh {m:i8}:ez (pL F (mJ m)) (Br (rh F m)):=by
 rintro σ H Q ⟨G,ρ,r,h⟩
 unfold mJ at h
 refine ⟨G,ρ,r,?_⟩
 cases au:m ρ with
 | bad=>rw [au] at h; exact h.elim
 | exc c=>rw [au] at h; exact h
 | ok x=>
   obtain ⟨ds,d9⟩:=x
   rw [au,R.bH] at h
   intro vs H1 aQ av s1 a
   by_cases hl:ds.length≤1000000
   · simp only [if_pos hl] at h
     refine ⟨by rw [←a.length]; exact Nat.le_trans hl (by decide),fun p hp=>?_⟩
     refine h (.ref p) _ _ (av.lay hp) (s1.trans (Sub.upd (av.aI.sub.gone hp))) ?_
     simp only [At]
     exact ⟨p,vs,rfl,en,a.mono (Sub.upd (av.aI.sub.gone hp))⟩
   · simp only [if_neg hl] at h; exact h.elim
noncomputable def nZ (i:Nat) (a:fs):aY:=fun ρ=>(a ρ).bind fun x=>(aJ i x.1 x.2).bind fun ρ'=> .ok (.aV ρ')
theorem Oc {i:Nat} {a:fs}:g8 (e1 F (nZ i a)) (oj (pL F a) (jB i)):=by
 rintro cJ σ H ⟨G,ρ,r,h⟩
 unfold nZ aJ at h
 refine ⟨G,ρ,r,?_⟩
 cases au:a ρ with
 | bad=>rw [au] at h; exact h.elim
 | exc c=>rw [au] at h; exact h
 | ok x=>
   obtain ⟨d,d9⟩:=x
   rw [au,R.bH] at h
   intro v H1 aQ av s1 bo
   by_cases hi:i < d9.length
   · simp only [if_pos hi] at h
     exact h _ aQ H1 (av.set hi bo) s1
   · simp only [if_neg hi] at h; exact h.elim
noncomputable def ph (a:fs):aY:=fun ρ=>(a ρ).bind fun x=> .ok (.aV x.2)
theorem NM {a:fs}:g8 (e1 F (ph a)) (Bl (pL F a)):=by
 rintro cJ σ H ⟨G,ρ,r,h⟩
 unfold ph at h
 refine ⟨G,ρ,r,?_⟩
 cases au:a ρ with
 | bad=>rw [au] at h; exact h.elim
 | exc c=>rw [au] at h; exact h
 | ok x=>obtain ⟨d,d9⟩:=x; rw [au] at h; exact fun v H' G' bf s' _=>h σ G' H' bf s'
end
end aD
set_option Elab.async false
set_option linter.all false
set_option maxRecDepth 100000
namespace aD
open PySem PySem.Spec bb
section
variable {F:bx}
noncomputable def del (H:ao) (a:Addr):ao:=fun b=>if b=a then none else H b
theorem KO {H:ao} {a:Addr}:del H a a=none:=by simp [del]
theorem KN {H:ao} {a b:Addr} (h:b≠a):del H a b=H b:=by simp [del,h]
theorem Dh (H:ao) (a:Addr):Sub (del H a) H:=fun b o e=>by
 unfold del at e
 split at e
 · cases e
 · exact e
end
end aD
set_option Elab.async false
set_option linter.all false
set_option maxRecDepth 100000
namespace aD
open PySem PySem.Spec bb
section
variable {F:bx}
end
end aD
set_option Elab.async false
set_option linter.all false
set_option maxRecDepth 100000
namespace aD
open PySem PySem.Spec bb PyProof.Rows
noncomputable abbrev nj (X:aL) (F:bx) (e:Expr) (m:fs):Prop:=aZ X e (pL F m)
noncomputable abbrev tU (X:aL) (F:bx) (aq:List Expr) (m:i8):Prop:=eN X aq (rh F m)
theorem aN.erase {K:PySem.W.Frag} {G:ao} {ds:List D} {xs:List V} (n:Nat) (q:aN K G ds xs):aN K G (ds.eraseIdx n) (xs.eraseIdx n):=by
 rw [List.eraseIdx_eq_take_drop_succ,List.eraseIdx_eq_take_drop_succ]
 exact (q.take n).append (q.drop (n + 1))
theorem aN.KW {K:PySem.W.Frag} {G:ao} {ds:List D} {xs:List V} (q:aN K G ds xs):aN K G ds.dropLast xs.dropLast:=by
 rw [List.dropLast_eq_take,List.dropLast_eq_take,q.length]
 exact q.take _
section
variable {X:aL} {F:bx} {e a b c:Expr} {aq:List Expr} {pos p:Pos} {m n:aE} {ma:bh}
noncomputable def jJ (i:Nat) (m:aE):fs:=fun ρ=>(ownAt i ρ).bind fun ds=>(m ρ).bind fun d=>match d with
 | .int k=>if -(2 ^ 63)≤k∧k < 2 ^ 63 then match seqIndex? k ds.length with
   | some j=>match ds[j]? with
     | some y=> .ok (y,ρ.set i (.cD (ds.eraseIdx j)))
     | none=> .bad
   | none=> .bad
   else .bad
 | _=> .bad
theorem LG (i:Nat) {x:Str} {aP:Pos} {apos:Pos} {bV:Pos} (he:a8 X F e m) (hN:X.N[i]? =some x:=by rfl) (hv:fE X.env.scope x:=by first | exact Or.inl rfl | exact Or.inr (Or.inl rfl) | exact Or.inr (Or.inr rfl)) (hd:(x == ("__debug__" :Str))=false:=by decide) (hcd:(x == ("__classdict__" :Str))=false:=by decide)
  (hbase:attributeBase (.Name x aP) "pop" X.env (eval (.Name x aP) X.env)=eval (.Name x aP) X.env:=by rfl) (hline:(apos.endLine == bV.line)=true:=by rfl)
  (hfew:((backTo bV (starEach [e] X.env)).all (fun x=> !x.1) && (backToKw bV (keywordEach [] X.env)).all (fun x=>x.1.isSome)
    && decide (([e]:List Expr).length + ([]:List Keyword).length + (if ([]:List Keyword).isEmpty then 0 else 1) < 30))=true:=by rfl)
  (hs:starEach [e] X.env=(false,eval e X.env)::starEach [] X.env:=by rfl) (hplain:(backTo bV (starEach [] X.env)).any (·.1)=false:=by rfl) :
  nj X F (.Call (.Attribute (.Name x aP) "pop" apos) [e] [] bV) (jJ i m):=by
 refine aZ.imp (wL PySem.F.plainAttrs_list PySem.F.slot_list_pop PySem.F.type_list_pop Qn (lR hN hv hd hcd) (kU he n7 hs) hbase hfew hline hs hplain) ?_
 rintro σ H Q ⟨G,ρ,r,h⟩
 unfold jJ ownAt at h
 cases dn:ρ[i]? with
 | none=>rw [dn] at h; exact h.elim
 | some s=>
   rw [dn] at h
   cases s with
   | un=>exact h.elim
   | J _=>exact h.elim
   | fN _=>exact h.elim
   | a3 a3=>
    cases a3 with
    | a0 _ _=>exact h.elim
    | ins _ _ _=>exact h.elim
    | lst ds=>
     obtain ⟨q,xs,ar,h1,h2,h3,h4⟩:=r.own dn
     rw [R.bH] at h
     refine ⟨.ref q,ar,.inl ⟨rfl,xs,b4.of h1⟩,G,ρ,r,?_⟩
     cases au:m ρ with
     | bad=>rw [au] at h; exact h.elim
     | exc c=>rw [au] at h; exact h
     | ok d=>
       rw [au,R.bH] at h
       intro v H1 aQ av s1 bo
       obtain ⟨df,l4,hG,dp,c9,vB,jd⟩:=av.own dn
       rw [ar] at hG
       cases hG
       cases d with
       | int k=>
         simp only [At] at bo
         subst bo
         simp only at h
         split at h
         · rename_i hk
           split at h
           · rename_i j hV
             split at h
             · rename_i y d3
               obtain ⟨w,gH,lr⟩:=jd.get d3
               refine ⟨q,l4,k,j,w,rfl,rfl,dp,hk.1,hk.2,by rw [←jd.length]; exact hV,gH,?_⟩
               exact h w _ aQ (av.mut dn ar (jd.erase j)) s1.g lr
             · exact h.elim
           · exact h.elim
         · exact h.elim
       | _=>exact h.elim
noncomputable def qQ (i:Nat):fs:=fun ρ=>(ownAt i ρ).bind fun ds=>match ds[ds.length - 1]? with
 | some y=> .ok (y,ρ.set i (.cD ds.dropLast))
 | none=> .bad
theorem LF (i:Nat) {x:Str} {aP:Pos} {apos:Pos} {bV:Pos} (hN:X.N[i]? =some x:=by rfl) (hv:fE X.env.scope x:=by first | exact Or.inl rfl | exact Or.inr (Or.inl rfl) | exact Or.inr (Or.inr rfl)) (hd:(x == ("__debug__" :Str))=false:=by decide) (hcd:(x == ("__classdict__" :Str))=false:=by decide)
  (hbase:attributeBase (.Name x aP) "pop" X.env (eval (.Name x aP) X.env)=eval (.Name x aP) X.env:=by rfl) (hline:(apos.endLine == bV.line)=true:=by rfl) :
  nj X F (.Call (.Attribute (.Name x aP) "pop" apos) [] [] bV) (qQ i):=by
 refine aZ.imp (RF PySem.F.plainAttrs_list PySem.F.slot_list_pop PySem.F.type_list_pop Qm (lR hN hv hd hcd) hbase hline) ?_
 rintro σ H Q ⟨G,ρ,r,h⟩
 unfold qQ ownAt at h
 cases dn:ρ[i]? with
 | none=>rw [dn] at h; exact h.elim
 | some s=>
   rw [dn] at h
   cases s with
   | un=>exact h.elim
   | J _=>exact h.elim
   | fN _=>exact h.elim
   | a3 a3=>
    cases a3 with
    | a0 _ _=>exact h.elim
    | ins _ _ _=>exact h.elim
    | lst ds=>
     obtain ⟨q,xs,ar,h1,h2,h3,h4⟩:=r.own dn
     rw [R.bH] at h
     refine ⟨.ref q,ar,.inl ⟨rfl,xs,b4.of h1⟩,?_⟩
     split at h
     · rename_i y d3
       obtain ⟨w,gH,lr⟩:=h4.get d3
       exact ⟨q,xs,w,rfl,rfl,h1,by rw [←h4.length]; exact gH,h w _ G (r.mut dn ar h4.KW) (Sub.refl _) lr⟩
     · exact h.elim
noncomputable def pf (i:Nat) (m:fs):aY:=fun ρ=>(ownAt i ρ).bind fun _=>(m ρ).bind fun x=>(ownAt i x.2).bind fun ds=>if ds.length < 1000000 then .ok (.aV (x.2.set i (.cD (ds ++ [x.1])))) else .bad
theorem Td (i:Nat) {x:Str} {aP:Pos} {apos:Pos} {bV:Pos} {m:fs} (he:nj X F e m) (hN:X.N[i]? =some x:=by rfl) (hv:fE X.env.scope x:=by first | exact Or.inl rfl | exact Or.inr (Or.inl rfl) | exact Or.inr (Or.inr rfl)) (hd:(x == ("__debug__" :Str))=false:=by decide) (hcd:(x == ("__classdict__" :Str))=false:=by decide)
  (hbase:attributeBase (.Name x aP) "append" X.env (eval (.Name x aP) X.env)=eval (.Name x aP) X.env:=by rfl) (hline:(apos.endLine == bV.line)=true:=by rfl)
  (hfew:((backTo bV (starEach [e] X.env)).all (fun x=> !x.1) && (backToKw bV (keywordEach [] X.env)).all (fun x=>x.1.isSome)
    && decide (([e]:List Expr).length + ([]:List Keyword).length + (if ([]:List Keyword).isEmpty then 0 else 1) < 30))=true:=by rfl)
  (hs:starEach [e] X.env=(false,eval e X.env)::starEach [] X.env:=by rfl) (hplain:(backTo bV (starEach [] X.env)).any (·.1)=false:=by rfl) :
  fC X F (.Expr (.Call (.Attribute (.Name x aP) "append" apos) [e] [] bV) pos) (pf i m):=by
 refine dj.imp (wR (wL PySem.F.plainAttrs_list PySem.F.slot_list_append PySem.F.type_list_append zV (lR hN hv hd hcd) (kU he n7 hs) hbase hfew hline hs hplain) (lY _ _ _ _ rfl)) ?_
 rintro cJ σ H ⟨G,ρ,r,h⟩
 unfold pf ownAt at h
 cases dn:ρ[i]? with
 | none=>rw [dn] at h; exact h.elim
 | some s=>
   rw [dn] at h
   cases s with
   | un=>exact h.elim
   | J _=>exact h.elim
   | fN _=>exact h.elim
   | a3 a3=>
    cases a3 with
    | a0 _ _=>exact h.elim
    | ins _ _ _=>exact h.elim
    | lst WL=>
     obtain ⟨q,xs,ar,h1,h2,h3,h4⟩:=r.own dn
     rw [R.bH] at h
     refine ⟨.ref q,ar,.inl ⟨rfl,xs,b4.of h1⟩,G,ρ,r,?_⟩
     cases au:m ρ with
     | bad=>rw [au] at h; exact h.elim
     | exc c=>rw [au] at h; exact h
     | ok y=>
       obtain ⟨d,d9⟩:=y
       rw [au,R.bH] at h
       intro v H1 aQ av s1 bo
       simp only at h
       cases vr:d9[i]? with
       | none=>rw [vr] at h; exact h.elim
       | some s=>
         rw [vr] at h
         cases s with
         | un=>exact h.elim
         | J _=>exact h.elim
         | fN _=>exact h.elim
         | a3 a3=>
          cases a3 with
          | a0 _ _=>exact h.elim
          | ins _ _ _=>exact h.elim
          | lst ds=>
           rw [R.bH] at h
           obtain ⟨df,l4,hG,dp,c9,vB,jd⟩:=av.own vr
           rw [ar] at hG
           cases hG
           by_cases hl:ds.length < 1000000
           · rw [if_pos hl] at h
             refine ⟨q,l4,v,rfl,rfl,dp,by rw [←jd.length]; exact Nat.lt_trans hl (by decide),?_⟩
             exact h σ aQ _ (av.mut vr ar (jd.snoc bo)) s1
           · rw [if_neg hl] at h; exact h.elim
noncomputable def FV:List D→R (List D)
 | [.lst xs]=> .ok xs
 | [.b8 xs]=> .ok xs
 | [.tup xs]=> .ok xs
 | _=> .bad
noncomputable def kf (m:bh):bh:=fun ρ=>(m ρ).bind FV
theorem NW (hK:F.K=X.K):ez (jS F (kf ma)) (tC (fun xs H Q=>∃p ys,xs=[.ref p]∧(b4 X.K H p ys∨cK X.K H p ys)∧∀l,H l=none→Q (.ref l) (upd H l (.lst ys))) (d8 F ma)):=by
 rintro σ H Q ⟨G,ρ,r,h⟩
 unfold kf at h
 refine ⟨G,ρ,r,?_⟩
 cases au:ma ρ with
 | bad=>rw [au] at h; exact h.elim
 | exc c=>rw [au] at h; exact h
 | ok ds=>
   rw [au,R.bH] at h
   intro vs H1 aQ av s1 a
   unfold FV at h
   split at h
   · obtain ⟨v,rfl,bo⟩:=a.one
     simp only [At] at bo
     obtain ⟨q,xs,rfl,aO,g_⟩:=bo
     refine ⟨q,xs,rfl,.inl (b4.of (av.aI.sub _ _ aO)),fun l hl=>?_⟩
     exact h l xs _ aQ (av.lay0 hl) (s1.trans (cz.lay0 hl)) (s1.h.gone hl) en (av.aI.sub.gone hl) g_
   · obtain ⟨v,rfl,bo⟩:=a.one
     simp only [At] at bo
     obtain ⟨q,xs,rfl,aO,g_⟩:=bo
     refine ⟨q,xs,rfl,.inl (by rw [←hK]; exact b4.mono av.aI.sub aO),fun l hl=>?_⟩
     exact h l xs _ aQ (av.lay0 hl) (s1.trans (cz.lay0 hl)) (s1.h.gone hl) en (av.aI.sub.gone hl) g_
   · obtain ⟨v,rfl,bo⟩:=a.one
     simp only [At] at bo
     obtain ⟨q,xs,rfl,aO,g_⟩:=bo
     refine ⟨q,xs,rfl,.inr (cK.of (av.aI.sub _ _ aO)),fun l hl=>?_⟩
     exact h l xs _ aQ (av.lay0 hl) (s1.trans (cz.lay0 hl)) (s1.h.gone hl) en (av.aI.sub.gone hl) g_
   · exact h.elim
theorem QN (hm:X.mg "list"=none) (ha:fR X F [e] ma) (hK:F.K=X.K:=by rfl) (hg:cN X "list":=by rfl) (he:starEach [e] X.env=(false,eval e X.env)::starEach [] X.env:=by rfl) (hpl:(backTo pos (starEach [] X.env)).any (·.1)=false:=by rfl) :
  l8 X F (.Call (.Name "list" p) [e] [] pos) (kf ma):=aZ.imp (GD Kg hg hm (by kernel_rfl) ha (by decide) (by decide) he hpl) (NW hK)
noncomputable def jK:List D→R D
 | [.int i,.int j]=> .ok (.int (if j < i then j else i))
 | _=> .bad
noncomputable def pz:List D→R D
 | [.int i,.int j]=> .ok (.int (if j > i then j else i))
 | _=> .bad
theorem Q1:l6 F (fun xs H Q=>∃i j,xs=[.int i,.int j]∧Q (.int (if j < i then j else i)) H) jK:=by
 intro σ ρ G H xs ds Q r al k
 unfold jK at k
 split at k
 · exact ⟨_,_,al.ints2,k _ H G r (cz.refl _ _) (by simp only [At])⟩
 · exact k.elim
theorem Q0:l6 F (fun xs H Q=>∃i j,xs=[.int i,.int j]∧Q (.int (if j > i then j else i)) H) pz:=by
 intro σ ρ G H xs ds Q r al k
 unfold pz at k
 split at k
 · exact ⟨_,_,al.ints2,k _ H G r (cz.refl _ _) (by simp only [At])⟩
 · exact k.elim
theorem Lv (hm:X.mg "min"=none) (ha:fR X F [a,b] ma) (hc:X.calm=true:=by rfl) (hg:cN X "min":=by rfl) (he:starEach [a,b] X.env=(false,eval a X.env)::starEach [b] X.env:=by rfl) (hpl:(backTo pos (starEach [b] X.env)).any (·.1)=false:=by rfl) :
  a8 X F (.Call (.Name "min" p) [a,b] [] pos) (bk jK ma):=vm (Ki hc) Q1 hm (by kernel_rfl) ha hg (by decide) (by decide) he hpl
theorem Ls (hm:X.mg "max"=none) (ha:fR X F [a,b] ma) (hc:X.calm=true:=by rfl) (hg:cN X "max":=by rfl) (he:starEach [a,b] X.env=(false,eval a X.env)::starEach [b] X.env:=by rfl) (hpl:(backTo pos (starEach [b] X.env)).any (·.1)=false:=by rfl) :
  a8 X F (.Call (.Name "max" p) [a,b] [] pos) (bk pz ma):=vm (Kh hc) Q0 hm (by kernel_rfl) ha hg (by decide) (by decide) he hpl
noncomputable def kP (set:D→az→R az) (m:aE):aY:=fun ρ=>(m ρ).bind fun d=>(set d ρ).bind fun ρ'=> .ok (.aV ρ')
theorem TG {bq:Expr} {set:D→az→R az} (he:a8 X F e m) (hg:GM X bq set) (hK:F.K=X.K:=by rfl) (hs:swapsWithSole [bq] e pos.line X.env=pure false:=by rfl) (hw:swappedStores [bq] e X.env=pure none:=by rfl)
  (h1:(assignEach [bq] X.env).map (·.2)=[assign bq X.env]:=by rfl):fC X F (.Assign [bq] e pos) (kP set m):=by
 obtain ⟨⟨g,g1,g2⟩,g3,_⟩:=hg
 refine dj.imp (Sd he g1 hs hw h1) ?_
 rintro cJ σ H ⟨G,ρ,r,h⟩
 unfold kP at h
 refine ⟨G,ρ,r,?_⟩
 cases au:m ρ with
 | bad=>rw [au] at h; exact h.elim
 | exc c=>rw [au] at h; exact h
 | ok d=>
   rw [au,R.bH] at h
   intro v H1 aQ av s1 bo
   cases aq:set d ρ with
   | bad=>rw [aq] at h; exact h.elim
   | exc c=>exact absurd aq (g3 d ρ c)
   | ok ρ'=>
     rw [aq] at h
     exact g2 F hK σ ρ aQ H1 v d _ ρ' av bo aq fun σ' bf=>h σ' aQ H1 bf s1.g
theorem Mc (h:a8 X F e m):nj X F e (lf m):=aZ.imp h NT
theorem Md:tU X F [] (mI ai):=eN.imp n7 (fun σ H Q h=>Fh σ H Q (NU σ H Q h))
theorem Ma {m:fs} {r:i8} (h:nj X F e m) (t:tU X F aq r) (hs:notStar e=true:=by rfl):tU X F (e::aq) (jg m r):=eN.imp (kU h t (HL e aq X.env hs)) NI
theorem f_tup {k} {m:i8} (h:tU X F aq m):nj X F (.Tuple aq k pos) (mJ m):=aZ.imp (GK h) Oh
theorem TB (i:Nat) {x:Str} {p:Pos} {m:fs} (hN:X.N.Nodup) (he:nj X F e m) (hi:X.N[i]? =some x:=by rfl) (hx:Loc X.env.scope x:=by first | exact Or.inl rfl | exact Or.inr rfl) (hs:iV e=true:=by rfl) (hf:X.fn x=true∨X.env.scope.names.lookup x=some .local:=by first | exact .inl rfl | exact .inr rfl):fC X F (.Assign [.Name x p] e pos) (nZ i m):=
 dj.imp (wV hN hi hx he (lY _ _ _ _ hs) hf) Oc
theorem Tn {m:fs} (h:nj X F e m) (hs:iV e=true:=by rfl):fC X F (.Expr e pos) (ph m):=dj.imp (wR h (lY _ _ _ _ hs)) NM
theorem Us {n:Nat} {mf:List D→R bR} {xe:c8→Str→ao→Prop} {E:c8} {aQ H1:ao} {σ :bb.St} {ρ:az} {ds:List D} {vs:List V} {Q:cW} (hx:F.g6=xe E) (av:Rel F aQ H1 σ ρ) (a:aN F.K aQ ds vs) (aC:ds.length=n) (h:iO F aQ H1 σ ρ Q ((mf ds).bind kW)):mU F.K n xe mf vs H1 Q E:=by
 refine ⟨aQ,ds,av.aI.sub,a,aC,?_⟩
 cases e:mf ds with
 | bad=>rw [e] at h; exact h.elim
 | exc c=>
   rw [e] at h
   intro G' H' k
   have z:=h G' H' (eb.of av k).aI
   rw [hx] at z
   exact z
 | ok t=>
   rw [e,R.bH] at h
   cases t with
   | v d=>exact fun v G' H' k bo=>h v H' G' (eb.of av k) ⟨k.eC,k.hh,k.new⟩ bo
   | o aq=>
     intro p xs G' H' k h1 h2 h3 h4
     have h2:H1 p=none:=h2
     have bf:=eb.of av k
     have no:¬ dK H' σ ρ p:=dK.fresh av k.hh h2
     refine h (.ref p) H' _ (bf.take h3 h1 (av.aI.hh.gone h2) no) (cz.put ⟨k.eC,k.hh,k.new⟩ h2 h1) ?_
     simp only [At]
     exact ⟨p,xs,rfl,en,h4.mono (Sub.upd h1)⟩
   | t t=>
     intro v G' H' k q
     obtain ⟨a1,a2,fY⟩:=(eb.of av k).Bt (F':=⟨F.K,aQ,H1,xe E⟩) rfl q ⟨k.eC,k.hh,k.new⟩ fun b hb=>⟨(q.own b hb).2,av.aI.hh.gone (q.own b hb).2,dK.fresh av k.hh (q.own b hb).2⟩
     exact h v H' _ a1 a2 fY
end
end aD
set_option Elab.async false
set_option linter.all false
set_option maxRecDepth 100000
namespace aD
open PySem PySem.Spec bb PyProof.Rows
section
variable {X:aL} {F:bx} {e a b c:Expr} {aq:List Expr} {pos p:Pos} {m n:aE} {ma:bh}
end
end aD
set_option Elab.async false
set_option linter.all false
set_option maxRecDepth 100000
namespace aD
open PySem PySem.Spec bb
structure nx (X:aL) (F:bx) (e:Expr) (m:fs):Prop where
 o:aZ X e (pL F m)
structure uk (X:aL) (F:bx) (aq:List Expr) (m:i8):Prop where
 o:eN X aq (rh F m)
section
variable {X:aL} {F:bx} {e a b c bq iter elt:Expr} {aq:List Expr} {pos p:Pos} {m n:aE} {ma:bh} {st:Stmt} {mV:List Stmt}
theorem I1 (i:Nat) {x:Str} {aP:Pos} {apos:Pos} {bV:Pos} (he:aS X F e m) (hN:X.N[i]? =some x:=by rfl) (hv:fE X.env.scope x:=by first | exact Or.inl rfl | exact Or.inr (Or.inl rfl) | exact Or.inr (Or.inr rfl)) (hd:(x == ("__debug__" :Str))=false:=by decide) (hcd:(x == ("__classdict__" :Str))=false:=by decide) (hbase:attributeBase (.Name x aP) "pop" X.env (eval (.Name x aP) X.env)=eval (.Name x aP) X.env:=by rfl) (hline:(apos.endLine == bV.line)=true:=by rfl) (hfew:((backTo bV (starEach [e] X.env)).all (fun x=> !x.1) && (backToKw bV (keywordEach [] X.env)).all (fun x=>x.1.isSome)
   && decide (([e]:List Expr).length + ([]:List Keyword).length + (if ([]:List Keyword).isEmpty then 0 else 1) < 30))=true:=by rfl) (hs:starEach [e] X.env=(false,eval e X.env)::starEach [] X.env:=by rfl) (hplain:(backTo bV (starEach [] X.env)).any (·.1)=false:=by rfl):nx X F (.Call (.Attribute (.Name x aP) "pop" apos) [e] [] bV) (jJ i m):=⟨aD.LG (i:=i) (he:=he.1) (hN:=hN) (hv:=hv) (hd:=hd) (hcd:=hcd) (hbase:=hbase) (hline:=hline) (hfew:=hfew) (hs:=hs) (hplain:=hplain)⟩
theorem Wc (i:Nat) {x:Str} {aP:Pos} {apos:Pos} {bV:Pos} (hN:X.N[i]? =some x:=by rfl) (hv:fE X.env.scope x:=by first | exact Or.inl rfl | exact Or.inr (Or.inl rfl) | exact Or.inr (Or.inr rfl)) (hd:(x == ("__debug__" :Str))=false:=by decide) (hcd:(x == ("__classdict__" :Str))=false:=by decide) (hbase:attributeBase (.Name x aP) "pop" X.env (eval (.Name x aP) X.env)=eval (.Name x aP) X.env:=by rfl) (hline:(apos.endLine == bV.line)=true:=by rfl):nx X F (.Call (.Attribute (.Name x aP) "pop" apos) [] [] bV) (qQ i):=⟨aD.LF (i:=i) (hN:=hN) (hv:=hv) (hd:=hd) (hcd:=hcd) (hbase:=hbase) (hline:=hline)⟩
theorem Wn (i:Nat) {x:Str} {aP:Pos} {apos:Pos} {bV:Pos} {m:fs} (he:nx X F e m) (hN:X.N[i]? =some x:=by rfl) (hv:fE X.env.scope x:=by first | exact Or.inl rfl | exact Or.inr (Or.inl rfl) | exact Or.inr (Or.inr rfl)) (hd:(x == ("__debug__" :Str))=false:=by decide) (hcd:(x == ("__classdict__" :Str))=false:=by decide) (hbase:attributeBase (.Name x aP) "append" X.env (eval (.Name x aP) X.env)=eval (.Name x aP) X.env:=by rfl) (hline:(apos.endLine == bV.line)=true:=by rfl) (hfew:((backTo bV (starEach [e] X.env)).all (fun x=> !x.1) && (backToKw bV (keywordEach [] X.env)).all (fun x=>x.1.isSome)
   && decide (([e]:List Expr).length + ([]:List Keyword).length + (if ([]:List Keyword).isEmpty then 0 else 1) < 30))=true:=by rfl) (hs:starEach [e] X.env=(false,eval e X.env)::starEach [] X.env:=by rfl) (hplain:(backTo bV (starEach [] X.env)).any (·.1)=false:=by rfl):eV X F (.Expr (.Call (.Attribute (.Name x aP) "append" apos) [e] [] bV) pos) (pf i m):=⟨aD.Td (i:=i) (he:=he.1) (hN:=hN) (hv:=hv) (hd:=hd) (hcd:=hcd) (hbase:=hbase) (hline:=hline) (hfew:=hfew) (hs:=hs) (hplain:=hplain)⟩
theorem BL (hm:X.mg "list"=none) (ha:e7 X F [e] ma) (hK:F.K=X.K:=by rfl) (hg:cN X "list":=by rfl) (he:starEach [e] X.env=(false,eval e X.env)::starEach [] X.env:=by rfl) (hpl:(backTo pos (starEach [] X.env)).any (·.1)=false:=by rfl):ny X F (.Call (.Name "list" p) [e] [] pos) (kf ma):=⟨aD.QN (hm:=hm) (ha:=ha.1) (hK:=hK) (hg:=hg) (he:=he) (hpl:=hpl)⟩
theorem IZ (hm:X.mg "min"=none) (ha:e7 X F [a,b] ma) (hc:X.calm=true:=by rfl) (hg:cN X "min":=by rfl) (he:starEach [a,b] X.env=(false,eval a X.env)::starEach [b] X.env:=by rfl) (hpl:(backTo pos (starEach [b] X.env)).any (·.1)=false:=by rfl):aS X F (.Call (.Name "min" p) [a,b] [] pos) (bk jK ma):=⟨aD.Lv (hm:=hm) (ha:=ha.1) (hc:=hc) (hg:=hg) (he:=he) (hpl:=hpl)⟩
theorem V9 (hm:X.mg "max"=none) (ha:e7 X F [a,b] ma) (hc:X.calm=true:=by rfl) (hg:cN X "max":=by rfl) (he:starEach [a,b] X.env=(false,eval a X.env)::starEach [b] X.env:=by rfl) (hpl:(backTo pos (starEach [b] X.env)).any (·.1)=false:=by rfl):aS X F (.Call (.Name "max" p) [a,b] [] pos) (bk pz ma):=⟨aD.Ls (hm:=hm) (ha:=ha.1) (hc:=hc) (hg:=hg) (he:=he) (hpl:=hpl)⟩
theorem BP {bq:Expr} {set:D→az→R az} (he:aS X F e m) (hg:GM X bq set) (hK:F.K=X.K:=by rfl) (hs:swapsWithSole [bq] e pos.line X.env=pure false:=by rfl) (hw:swappedStores [bq] e X.env=pure none:=by rfl) (h1:(assignEach [bq] X.env).map (·.2)=[assign bq X.env]:=by rfl):eV X F (.Assign [bq] e pos) (kP set m):=⟨aD.TG (he:=he.1) (hg:=hg) (hK:=hK) (hs:=hs) (hw:=hw) (h1:=h1)⟩
theorem Wf (h:aS X F e m):nx X F e (lf m):=⟨aD.Mc (h:=h.1)⟩
theorem Wg:uk X F [] (mI ai):=⟨aD.Md ⟩
theorem I4 {m:fs} {r:i8} (h:nx X F e m) (t:uk X F aq r) (hs:notStar e=true:=by rfl):uk X F (e::aq) (jg m r):=⟨aD.Ma (h:=h.1) (t:=t.1) (hs:=hs)⟩
theorem Wi {k} {m:i8} (h:uk X F aq m):nx X F (.Tuple aq k pos) (mJ m):=⟨aD.f_tup (h:=h.1)⟩
theorem Wr (i:Nat) {x:Str} {p:Pos} {m:fs} (hN:X.N.Nodup) (he:nx X F e m) (hi:X.N[i]? =some x:=by rfl) (hx:Loc X.env.scope x:=by first | exact Or.inl rfl | exact Or.inr rfl) (hs:iV e=true:=by rfl) (hf:X.fn x=true∨X.env.scope.names.lookup x=some .local:=by first | exact .inl rfl | exact .inr rfl):eV X F (.Assign [.Name x p] e pos) (nZ i m):=⟨aD.TB (i:=i) (hN:=hN) (he:=he.1) (hi:=hi) (hx:=hx) (hs:=hs) (hf:=hf)⟩
theorem Wq {m:fs} (h:nx X F e m) (hs:iV e=true:=by rfl):eV X F (.Expr e pos) (ph m):=⟨aD.Tn (h:=h.1) (hs:=hs)⟩
end
end aD
set_option Elab.async false
set_option linter.all false
set_option maxRecDepth 100000
namespace aD
open PySem PySem.Spec bb
theorem e4.inj {K:PySem.W.Frag} {c:Str} {C jo:Addr} (h:e4 K c C) (h':e4 K c jo):C=jo:=by
 unfold e4 at h h'
 rw [h] at h'
 cases h'; rfl
theorem FW {K:PySem.W.Frag} {G:ao} {f:Str} {d:D}:∀{xs:List (Str×V)} {ds:List D},aN K G ds (xs.map (·.2))→((xs.map (·.1)).zip ds).lookup f=some d→∃v,xs.lookup f=some v∧At K G d v
 | [],_,_,e=>by simp at e
 | (k,v)::xs,[],h,_=>by
   have:=h.length
   simp at this
 | (k,v)::xs,e::ds,h,l=>by
   simp only [List.map_cons,aN] at h
   obtain ⟨m5,r,ar,a,t⟩:=h
   cases ar
   simp only [List.map_cons,List.zip_cons_cons,List.lookup_cons] at l ⊢
   cases hk:f == k with
   | true=>rw [hk] at l; cases l; exact ⟨v,rfl,a⟩
   | false=>rw [hk] at l; exact FW t l
theorem FX {f:Str}:∀{xs:List (Str×V)},(xs.map (·.1)).all (fun k=> !(f == k))=true→xs.lookup f=none
 | [],_=>rfl
 | (k,v)::xs,h=>by
   simp only [List.map_cons,List.all_cons,Bool.and_eq_true,Bool.not_eq_true'] at h
   rw [List.lookup_cons,h.1]
   exact FX (by simpa using h.2)
structure rB (K:PySem.W.Frag) (c:Str) (aW:List Str):Prop where
 ex:∃C,e4 K c C∧jr K C∧∀f∈aW,oJ K C f
noncomputable def eG (c f:Str):D→R D
 | .ins fZ ns ds=>if fZ=c then match (ns.zip ds).lookup f with
   | some d=> .ok d
   | none=> .bad
   else .bad
 | _=> .bad
section
variable {X:aL} {F:bx} {e a b c o:Expr} {aq:List Expr} {pos p:Pos} {m n:aE} {ma:bh}
theorem Lh {bu f:Str} {aW:List Str} (k:rB X.K bu aW) (he:a8 X F o m) (hf:f∈aW:=by decide +kernel) (hK:F.K=X.K:=by rfl) (hb:attributeBase o f X.env (eval o X.env)=eval o X.env:=by rfl):a8 X F (.Attribute o f pos) (ct (eG bu f) m):=by
 refine aZ.imp (RM he hb) ?_
 rintro σ H Q ⟨G,ρ,r,h⟩
 unfold ct at h
 refine ⟨G,ρ,r,?_⟩
 cases au:m ρ with
 | bad=>rw [au] at h; exact h.elim
 | exc c=>rw [au] at h; exact h
 | ok d=>
   rw [au,R.bH] at h
   intro x H1 aQ av s1 bY
   cases d with
   | ins fZ ns ds=>
     simp only [eG] at h
     split at h
     · rename_i hc
       subst hc
       split at h
       · rename_i d' hl
         simp only [At] at bY
         obtain ⟨q,a4,xs,rfl,⟨C,bD,g1⟩,rfl,al⟩:=bY
         obtain ⟨v,hv,bo⟩:=FW al hl
         obtain ⟨jo,k1,k2,k3⟩:=k.ex
         rw [hK] at bD
         have:=bD.inj k1
         subst this
         exact ⟨q,C,a4,xs,v,rfl,av.aI.sub _ _ g1,k2,k3 f hf,hv,h v H1 aQ av s1 bo⟩
       · exact h.elim
     · exact h.elim
   | _=>exact h.elim
structure nr (P:Program) (w:World) (K:PySem.W.Frag) (mg:Str→Option Value) (base:Heap) (bu mt:Str) (n k:Nat) (mf:List D→R bR):Prop where
 ex:∃(C f:Addr) (fd:FuncData) (aM:List Str),e4 K bu C∧jr K C∧Meth K C mt f∧g7 P w K mg base gP k f fd aM (mT K (n + 1) mf)∧Binds K fd aM []
noncomputable def w8 (bu mt:Str):D→R D
 | .ins fZ ns ds=>if fZ=bu∧ns.all (fun k=> !(mt == k))=true then .ok (.ins fZ ns ds) else .bad
 | _=> .bad
noncomputable def hZ (bu mt:Str) (n:Nat) (mf:List D→R bR) (o:aE) (ma:bh):aE:=fun ρ=>(o ρ).bind fun d=>(w8 bu mt d).bind fun d=>(ma ρ).bind fun ds=>if ds.length=n then (mf (d::ds)).bind kW else .bad
theorem NZ {bu mt:Str} {n:Nat} {mf:List D→R bR} {C:Addr} {E:c8} (hx:F.g6=fun _ _=>False) (iK:e4 F.K bu C):ez (cR F (hZ bu mt n mf m ma)) (H3 C mt (mT F.K (n + 1) mf) [] E (cR F m) (d8 F ma)):=by
 rintro σ H Q ⟨G,ρ,r,h⟩
 unfold hZ at h
 refine ⟨G,ρ,r,?_⟩
 cases au:m ρ with
 | bad=>rw [au] at h; exact h.elim
 | exc c=>rw [au] at h; exact h
 | ok d=>
   rw [au,R.bH] at h
   intro x H1 aQ av s1 bY
   cases d with
   | ins fZ ns ds=>
     simp only [w8] at h
     split at h
     · rename_i hc
       obtain ⟨y4,j8⟩:=hc
       subst y4
       have yd:=bY
       simp only [At] at bY
       obtain ⟨q,a4,xs,rfl,⟨jo,bD,g1⟩,rfl,al⟩:=bY
       have:=bD.inj iK
       subst this
       refine ⟨q,a4,xs,rfl,av.aI.sub _ _ g1,FX j8,aQ,ρ,av,?_⟩
       rw [R.bH] at h
       cases bE:ma ρ with
       | bad=>rw [bE] at h; exact h.elim
       | exc c=>rw [bE] at h; exact h
       | ok aq=>
         rw [bE,R.bH] at h
         intro vs aT c4 bl s2 bo
         by_cases aC:aq.length=n
         · rw [if_pos aC] at h
           rw [List.append_nil]
           exact Us (xe:=fun _ _ _=>False) hx bl (.cons (yd.mono s2.g) bo) (by simp [aC]) (h.mono (s1.trans s2))
         · rw [if_neg aC] at h; exact h.elim
     · exact h.elim
   | _=>exact h.elim
theorem Lu {bu mt:Str} {n k:Nat} {mf:List D→R bR} {pl:Sem Bool} {apos:Pos} (c:nr X.prog X.w X.K X.mg X.base bu mt n k mf) (hr:dv k X.A) (he:a8 X F o m) (ha:fR X F (e::aq) ma) (hE:F.g6=fun _ _=>False:=by rfl) (hK:F.K=X.K:=by rfl)
  (hst:starEach (e::aq) X.env=(false,eval e X.env)::starEach aq X.env:=by rfl) (hpl:(backTo pos (starEach aq X.env)).any (·.1)=false:=by rfl)
  (ht:eval (.Call (.Attribute o mt apos) (e::aq) [] pos) X.env=(do
    let f6 ←eval o X.env
    standAt apos.atName
    let (f,first) ←holding [f6] (getMethod f6 mt pl)
    callWith pos f first (backTo pos (starEach (e::aq) X.env)) (backToKw pos (keywordEach [] X.env))):=by rfl) :
  a8 X F (.Call (.Attribute o mt apos) (e::aq) [] pos) (hZ bu mt n mf m ma):=by
 obtain ⟨C,f,fd,aM,bD,c_,fx,jz,hb⟩:=c.ex
 refine aZ.imp (RR (pl:=pl) he c_ fx jz hr hb .nil wJ ha hst hpl ht) ?_
 rw [←hK]
 exact NZ hE (by rw [hK]; exact bD)
noncomputable def FE:D→Option Key
 | .int i=>some (.inl i)
 | .str x=>some (.inr x)
 | _=>none
noncomputable def vY:List D→Option (List Key)
 | []=>some []
 | d::ds=>match FE d,vY ds with
   | some k,some a_=>some (k::a_)
   | _,_=>none
noncomputable def lL:D→Option (List Key)
 | .tup ds=>vY ds
 | _=>none
theorem Pb {K:PySem.W.Frag} {G:ao} {d:D} {v:V} {k:Key} (e:FE d=some k) (a:At K G d v):v=cX k:=by
 cases d <;> first
  | (cases e; done)
  | (cases e; simp only [At] at a; exact a)
theorem FF {K:PySem.W.Frag} {G:ao}:∀{ds:List D} {vs:List V} {a_:List Key},vY ds=some a_→aN K G ds vs→vs=a_.map cX
 | [],_,_,e,a=>by simp only [aN] at a; subst a; cases e; rfl
 | d::ds,_,_,e,a=>by
   simp only [aN] at a
   obtain ⟨v,r,rfl,bo,kA⟩:=a
   unfold vY at e
   split at e
   · rename_i k a_ ar aG
     cases e
     rw [Pb ar bo,FF aG kA]; rfl
   · cases e
theorem vX {K:PySem.W.Frag} {G:ao} {d:D} {v:V} {a_:List Key} (e:lL d=some a_) (a:At K G d v):∃b,v= .ref b∧G b=some (.tup (a_.map cX)):=by
 cases d with
 | tup ds=>
   simp only [At] at a
   obtain ⟨b,xs,rfl,hb,al⟩:=a
   exact ⟨b,rfl,by rw [hb,FF e al]⟩
 | _=>cases e
theorem BE {dB:Type} [DecidableEq dB] (k:dB):∀aX:List (dB×V),(gy aX k).isSome=(aX.map (·.1)).any (fun x=>decide (x=k))
 | []=>rfl
 | (x,v)::aX=>by
   have c0:=BE k aX
   unfold gy at c0 ⊢
   rw [List.find?_cons,List.map_cons,List.any_cons]
   by_cases h:x=k
   · simp [h]
   · simp only [h,decide_false,Bool.false_or]; exact c0
noncomputable def es (b:Bool) (k d:D):R D:=match d with
 | .a0 a_ _=>match lL k with
   | some cp=> .ok (.aw (if b then a_.any (fun x=>decide (x=cp)) else !a_.any (fun x=>decide (x=cp))))
   | none=> .bad
 | _=> .bad
theorem Di {b:Bool} {σ :St} {ρ:az} {G H:ao} {y x:V} {nE dd:D} {Q:cW} (r:Rel F G H σ ρ) (cP:At F.K G nE y) (bY:At F.K G dd x) (h:iO F G H σ ρ Q (es b nE dd)) :
  ∃a o,x= .ref a∧iw H a y o∧Q (.aw (if b then o.isSome else !o.isSome)) H:=by
 unfold es at h
 split at h
 · rename_i a_ ds
   split at h
   · rename_i cp fJ
     simp only [At] at bY
     obtain ⟨a,xs,rfl,hg,rfl,al⟩:=bY
     obtain ⟨q,rfl,aO⟩:=vX fJ cP
     refine ⟨a,gy xs cp,rfl,iw.t (r.aI.sub _ _ hg) (r.aI.sub _ _ aO),?_⟩
     rw [BE]
     exact h _ H G r (cz.refl _ _) (by simp only [At])
   · exact h.elim
 · exact h.elim
theorem Fe:ez (cR F (ah (es true) m n)) (HW (cR F m) (cR F n)):=by
 rintro σ H Q ⟨G,ρ,r,h⟩
 unfold ah at h
 refine ⟨G,ρ,r,?_⟩
 cases au:m ρ with
 | bad=>rw [au] at h; exact h.elim
 | exc c=>rw [au] at h; exact h
 | ok nE=>
   rw [au,R.bH] at h
   intro y H1 aQ av s1 cP
   refine ⟨aQ,ρ,av,?_⟩
   cases bE:n ρ with
   | bad=>rw [bE] at h; exact h.elim
   | exc c=>rw [bE] at h; exact h
   | ok dd=>
     rw [bE,R.bH] at h
     intro x aT c4 bl s2 bY
     exact Di (b:=true) bl (cP.mono s2.g) bY (h.mono (s1.trans s2))
theorem Ff:ez (cR F (ah (es false) m n)) (HX (cR F m) (cR F n)):=by
 rintro σ H Q ⟨G,ρ,r,h⟩
 unfold ah at h
 refine ⟨G,ρ,r,?_⟩
 cases au:m ρ with
 | bad=>rw [au] at h; exact h.elim
 | exc c=>rw [au] at h; exact h
 | ok nE=>
   rw [au,R.bH] at h
   intro y H1 aQ av s1 cP
   refine ⟨aQ,ρ,av,?_⟩
   cases bE:n ρ with
   | bad=>rw [bE] at h; exact h.elim
   | exc c=>rw [bE] at h; exact h
   | ok dd=>
     rw [bE,R.bH] at h
     intro x aT c4 bl s2 bY
     exact Di (b:=false) bl (cP.mono s2.g) bY (h.mono (s1.trans s2))
theorem WN (hu:X.A.units + 64 < cLine) (ha:a8 X F a m) (hb:a8 X F b n) (h1:behindInMarks .In b=false:=by with_unfolding_all rfl):a8 X F (.Compare a [.In] [b] pos) (ah (es true) m n):=aZ.imp (GF (GA (by omega) ha hb) h1) Fe
theorem Le (hu:X.A.units + 64 < cLine) (ha:a8 X F a m) (hb:a8 X F b n) (h1:behindInMarks .NotIn b=false:=by with_unfolding_all rfl):a8 X F (.Compare a [.NotIn] [b] pos) (ah (es false) m n):=aZ.imp (GF (GB (by omega) ha hb) h1) Ff
theorem U2 (hu:X.A.units + 64 < cLine) (ha:a8 X F a m) (hb:a8 X F b n) (h1:behindInMarks .In b=false:=by with_unfolding_all rfl):fD X F (.Compare a [.In] [b] pos) (aH (ah (es true) m n)):=by
 refine eO.imp (GZ (GA (by omega) ha hb) h1) fun σ H Q h=>?_
 obtain ⟨G,ρ,r,k⟩:=vP σ H Q h
 exact Fe σ H _ ⟨G,ρ,r,k⟩
theorem U3 (hu:X.A.units + 64 < cLine) (ha:a8 X F a m) (hb:a8 X F b n) (h1:behindInMarks .NotIn b=false:=by with_unfolding_all rfl):fD X F (.Compare a [.NotIn] [b] pos) (aH (ah (es false) m n)):=by
 refine eO.imp (GZ (GB (by omega) ha hb) h1) fun σ H Q h=>?_
 obtain ⟨G,ρ,r,k⟩:=vP σ H Q h
 exact Ff σ H _ ⟨G,ρ,r,k⟩
noncomputable def pn (i:Nat):aY:=fun ρ=>if i < ρ.length then .ok (.aV (ρ.set i (.a3 (.a0 [] [])))) else .bad
theorem TA (i:Nat) {x:Str} {p q:Pos} (hN:X.N.Nodup) (hi:X.N[i]? =some x:=by rfl) (hx:Loc X.env.scope x:=by first | exact Or.inl rfl | exact Or.inr rfl) (hf:X.fn x=true∨X.env.scope.names.lookup x=some .local:=by first | exact .inl rfl | exact .inr rfl):fC X F (.Assign [.Name x p] (.Dict [] [] q) pos) (pn i):=by
 refine dj.imp (wV hN hi hx RL (lY _ _ _ _ rfl) hf) ?_
 rintro cJ σ H ⟨G,ρ,r,h⟩
 unfold pn at h
 intro a ha
 split at h
 · rename_i hl
   refine h _ G _ ((r.lay0 ha).setB hl en (r.aI.sub.gone ha) (r.aI.hh.gone ha) ⟨[],rfl,rfl,.nil⟩ fun j aq o _ ar aG f=>dK.fresh r (Sub.upd ha) ha ⟨j,aq,o,ar,aG,f⟩) (Sub.refl _)
 · exact h.elim
noncomputable def putD (a_:List (List Key)) (ds:List D) (cp:List Key) (d:D):R ky:=if a_.any (fun x=>decide (x=cp))=false∧a_.length < 1000000 then .ok (.a0 (a_ ++ [cp]) (ds ++ [d])) else .bad
noncomputable def jH (i:Nat) (mk mv:aE):aY:=fun ρ=>(mv ρ).bind fun v=>match ρ[i]? with
 | some (.a3 (.a0 a_ ds))=>(mk ρ).bind fun k=>match lL k with
   | some cp=>(putD a_ ds cp v).bind fun o=> .ok (.aV (ρ.set i (.a3 o)))
   | none=> .bad
 | _=> .bad
theorem Ti (i:Nat) {x:Str} {aP pos':Pos} {k v:Expr} {mk mv:aE} (hu:X.A.units + 64 < cLine) (hk:a8 X F k mk) (hv:a8 X F v mv) (hN:X.N[i]? =some x:=by rfl) (hvs:fE X.env.scope x:=by first | exact Or.inl rfl | exact Or.inr (Or.inl rfl) | exact Or.inr (Or.inr rfl)) (hd:(x == ("__debug__" :Str))=false:=by decide) (hcd:(x == ("__classdict__" :Str))=false:=by decide) (hs:iV v=true:=by rfl) :
  fC X F (.Assign [.Subscript (.Name x aP) k pos'] v pos) (jH i mk mv):=by
 refine dj.imp (Sf (by omega) (lR hN hvs hd hcd) hk hv (lY _ _ _ _ hs)) ?_
 rintro cJ σ H ⟨G,ρ,r,h⟩
 unfold jH at h
 refine ⟨G,ρ,r,?_⟩
 cases au:mv ρ with
 | bad=>rw [au] at h; exact h.elim
 | exc c=>rw [au] at h; exact h
 | ok WM=>
   rw [au,R.bH] at h
   intro v H1 aQ av s1 bo
   split at h
   · rename_i a_ ds dn
     obtain ⟨q,ho,ar,_⟩:=av.obj dn
     refine ⟨.ref q,ar,aQ,ρ,av,?_⟩
     cases bE:mk ρ with
     | bad=>rw [bE] at h; exact h.elim
     | exc c=>rw [bE] at h; exact h
     | ok nE=>
       rw [bE,R.bH] at h
       intro y aT c4 bl s2 cP
       obtain ⟨df,ho',hG,h1,h2,h3,xs,rfl,rfl,al⟩:=bl.obj dn
       rw [ar] at hG; cases hG
       split at h
       · rename_i cp fJ
         unfold putD at h
         split at h
         · rename_i hc
           obtain ⟨y4,j8⟩:=hc
           obtain ⟨WJ,rfl,y2⟩:=vX fJ cP
           have aC:gy xs cp=none:=by
            have:=BE cp xs
            rw [y4] at this
            exact Option.not_isSome_iff_eq_none.mp (by rw [this]; exact Bool.false_ne_true)
           refine ⟨q,_,rfl,rC.t h1 (bl.aI.sub _ _ y2) (Nat.lt_trans (by simpa using j8) (by decide)),?_⟩
           rw [Sr _ aC]
           refine h σ c4 _ (bl.zW dn ar ⟨xs ++ [(cp,v)],rfl,by simp,?_⟩) (s1.g.trans s2.g)
           rw [List.map_append]
           exact al.snoc (bo.mono s2.g)
         · exact h.elim
       · exact h.elim
   · exact h.elim
noncomputable def gK (m:aE):aY:=fun ρ=>(m (et ρ)).bind fun d=> .ok (.dN d)
theorem Tx (h:a8 X F e m):fC X F (.Return (some e) pos) (gK m):=by
 refine dj.imp (wU h) ?_
 rintro cJ σ H ⟨G,ρ,r,h⟩
 unfold gK at h
 refine ⟨_,_,r.plus,?_⟩
 cases au:m (et ρ) with
 | bad=>rw [au] at h; exact h.elim
 | exc c=>rw [au] at h; exact h
 | ok d=>rw [au,R.bH] at h; exact fun v H' G' bf s' a=>h v G' H' bf.aI a
noncomputable def qO:aY:=fun _=> .bad
theorem Te {st:Stmt}:fC X F st qO:=dj.imp GW fun cJ σ H ⟨G,ρ,r,h⟩=>h.elim
end
end aD
set_option Elab.async false
set_option linter.all false
set_option maxRecDepth 100000
namespace aD
open PySem PySem.Spec bb
mutual
noncomputable def jM:D→Bool
 | .ins _ _ _=>false
 | .tup ds=>kj ds
 | .lst ds=>kj ds
 | .b8 ds=>kj ds
 | .dg _ ds=>kj ds
 | .a0 _ ds=>kj ds
 | .eI ds=>kj ds
 | _=>true
noncomputable def kj:List D→Bool
 | []=>true
 | d::ds=>jM d && kj ds
end
noncomputable def sC:dJ→Bool
 | .ins _ _ _=>true
 | _=>false
section
variable {K:PySem.W.Frag} {G G':ao}
theorem gg.off (h:∀b o,G b=some o→sC o=false→G' b=some o) {a:Addr} {u:dJ} (hu:sC u=false) (r:gg G a u):gg G' a u:=by
 rcases r with r | ⟨o,r⟩
 · exact .inl (h _ _ r hu)
 · exact .inr ⟨o,h _ _ r rfl⟩
mutual
theorem At.off (h:∀b o,G b=some o→sC o=false→G' b=some o):∀{d:D} {v:V},jM d=true→At K G d v→At K G' d v
 | .non,_,_,q=>by simpa only [At] using q
 | .aw _,_,_,q=>by simpa only [At] using q
 | .int _,_,_,q=>by simpa only [At] using q
 | .str _,_,_,q=>by simpa only [At] using q
 | .tup _,_,n,q=>by
   simp only [At,jM] at q n ⊢
   obtain ⟨a,xs,e,g,r⟩:=q
   exact ⟨a,xs,e,h _ _ g rfl,aN.off h n r⟩
 | .lst _,_,n,q=>by
   simp only [At,jM] at q n ⊢
   obtain ⟨a,xs,e,g,r⟩:=q
   exact ⟨a,xs,e,h _ _ g rfl,aN.off h n r⟩
 | .b8 _,_,n,q=>by
   simp only [At,jM] at q n ⊢
   obtain ⟨a,xs,e,g,r⟩:=q
   refine ⟨a,xs,e,?_,aN.off h n r⟩
   rcases g with g | g
   · exact .inl (gg.off h rfl g)
   · exact .inr g
 | .eI _,_,n,q=>by
   simp only [At,jM] at q n ⊢
   obtain ⟨a,xs,e,g,r⟩:=q
   refine ⟨a,xs,e,?_,aN.off h n r⟩
   rcases g with g | g
   · exact .inl (gg.off h rfl g)
   · exact .inr g
 | .dg _ _,_,n,q=>by
   simp only [At,jM] at q n ⊢
   obtain ⟨a,xs,e,g,k,r⟩:=q
   exact ⟨a,xs,e,h _ _ g rfl,k,aN.off h n r⟩
 | .a0 _ _,_,n,q=>by
   simp only [At,jM] at q n ⊢
   obtain ⟨a,xs,e,g,k,r⟩:=q
   exact ⟨a,xs,e,h _ _ g rfl,k,aN.off h n r⟩
 | .ins _ _ _,_,n,_=>by simp only [jM] at n; cases n
 | .gj _,_,n,q=>by
   simp only [At] at q ⊢
   obtain ⟨a,xs,e,⟨C,bD,g⟩,r⟩:=q
   exact ⟨a,xs,e,⟨C,bD,h _ _ g rfl⟩,r⟩
theorem aN.off (h:∀b o,G b=some o→sC o=false→G' b=some o):∀{ds:List D} {vs:List V},kj ds=true→aN K G ds vs→aN K G' ds vs
 | [],_,_,q=>by simpa only [aN] using q
 | _::_,_,n,q=>by
   simp only [aN,kj,Bool.and_eq_true] at q n ⊢
   obtain ⟨v,r,e,a,t⟩:=q
   exact ⟨v,r,e,At.off h n.1 a,aN.off h n.2 t⟩
end
end
noncomputable def Uj:bM→Bool
 | .a3 (.ins _ _ _)=>true
 | .a3 _=>false
 | .fN _=>false
 | _=>true
noncomputable def z3 (ρ:az):Bool:=ρ.all Uj
noncomputable def nU (m:aE):aE:=fun ρ=>(m (et ρ)).bind fun d=>if jM d=true∧z3 ρ=true then .ok d else .bad
section
variable {F:bx}
open Classical in
noncomputable def qA (H:ao) (σ :St) (ρ:az) (G:ao):ao:=fun b=>if dK H σ ρ b then none else G b
theorem NB {m:aE}:ez (cR F (nU m)) (cR F m):=by
 rintro σ H Q ⟨G,ρ,r,h⟩
 refine ⟨j3 σ ρ G H,et ρ,r.plus,?_⟩
 unfold nU at h
 cases au:m (et ρ) with
 | bad=>rw [au] at h; exact h.elim
 | exc c=>rw [au] at h; exact h
 | ok d=>
   rw [au,R.bH] at h
   intro v H' G' bf s' a
   by_cases hd:jM d=true∧z3 ρ=true
   · rw [if_pos hd] at h
     have Gw:∀b,dK H σ ρ b→G b=none:=fun b z=>(r.foot z).2.1
     have Gv:∀b,dK H σ ρ b→F.bw b=none:=fun b z=>(r.foot z).2.2
     have Rv:∀b,dK H σ ρ b→∃ho,H b=some ho∧sC ho=true:=fun b ⟨i,s,o,ar,aG,f⟩=>by
      have hi:=List.all_eq_true.mp hd.2 _ (List.mem_of_getElem? ar)
      cases s with
      | un=>exact f.elim
      | J _=>exact f.elim
      | fN _=>cases hi
      | a3 a3=>
        have f:o=some (.ref b):=f
        obtain ⟨c,ho,cM,h1,_,_,h4⟩:=r.obj ar
        rw [aG,f] at cM; cases cM
        cases a3 with
        | lst _=>cases hi
        | a0 _ _=>cases hi
        | ins _ _ _=>obtain ⟨C,a4,xs,_,rfl,_⟩:=h4; exact ⟨_,h1,rfl⟩
     have off:∀b,¬ dK H σ ρ b→qA H σ ρ G' b=G' b:=fun b n=>by unfold qA; rw [if_neg n]
     have on:∀b,dK H σ ρ b→qA H σ ρ G' b=none:=fun b n=>by unfold qA; rw [if_pos n]
     have a5:Sub G (qA H σ ρ G'):=fun b o e=>by
      have n:¬ dK H σ ρ b:=fun z=>by rw [Gw b z] at e; cases e
      rw [off b n]; exact s'.g b o (yV r b o e)
     have O8:∀b,dK H σ ρ b→∀o,H b=some o→H' b=some o:=fun b z o e=>bf.aI.sub _ _ (s'.g _ _ (by rw [se z]; exact e))
     have rel:Rel F (qA H σ ρ G') H' σ ρ:=by
      refine r.over rfl ⟨fun b o e=>?_,r.aI.eC.trans a5,bf.aI.hh,fun b hb=>?_⟩ a5 fun b cD=>?_
      · by_cases n:dK H σ ρ b
        · rw [on b n] at e; cases e
        · rw [off b n] at e; exact bf.aI.sub b o e
      · have n:¬ dK H σ ρ b:=fun z=>hb (Gv b z)
        rw [off b n]; exact bf.aI.new b hb
      · refine ⟨?_,on b cD,Gv b cD⟩
        cases bE:H b with
        | none=>exact absurd bE (r.foot cD).1
        | some o=>exact O8 b cD o bE
     refine h v H' _ rel ⟨a5,s'.h,fun b hb=>?_⟩ (At.off (fun b o e hi=>?_) hd.1 a)
     · by_cases n:dK H σ ρ b
       · rw [on b n,Gw b n]
       · rw [off b n,s'.n b hb]
         unfold j3
         rw [if_neg n]
     · have n:¬ dK H σ ρ b:=fun z=>by
        obtain ⟨ho,ar,aG⟩:=Rv b z
        have:=s'.g b ho (by rw [se z]; exact ar)
        rw [e] at this; cases this
        rw [hi] at aG; cases aG
       rw [off b n]; exact e
   · rw [if_neg hd] at h; exact h.elim
noncomputable abbrev iz:=az→R az
noncomputable def O4 (F:bx) (σ :St) (cJ:Ends):R az→Prop
 | .ok ρ'=>∀G' H',Rel F G' H' σ ρ'→cJ.aV σ H'
 | .exc c=>ke F c
 | .bad=>False
noncomputable def mY (F:bx) (m:iz):eB:=fun cJ σ H=>∃G ρ,Rel F G H σ ρ∧O4 F σ cJ (m ρ)
noncomputable def lP (a b:iz):iz:=fun ρ=>(a ρ).bind b
theorem Of {a b:iz}:g8 (mY F (lP a b)) (Bp (mY F a) (mY F b)):=by
 rintro cJ σ H ⟨G,ρ,r,h⟩
 unfold lP at h
 refine ⟨G,ρ,r,?_⟩
 cases au:a ρ with
 | bad=>rw [au] at h; exact h.elim
 | exc c=>rw [au] at h; exact h
 | ok d9=>rw [au,R.bH] at h; exact fun G' H' bf=>⟨G',d9,bf,h⟩
noncomputable def nW (c:ck):iz:=fun ρ=>(c ρ).bind fun k=>if k=true then .bad else .ok ρ
theorem NQ {c:ck}:g8 (mY F (nW c)) (Bm (fB F c) H4 Bn):=by
 rintro cJ σ H ⟨G,ρ,r,h⟩
 unfold nW at h
 refine ⟨G,ρ,r,?_⟩
 cases au:c ρ with
 | bad=>rw [au] at h; exact h.elim
 | exc c=>rw [au] at h; exact h
 | ok k=>
   rw [au,R.bH] at h
   intro H1 aQ av s1
   cases k with
   | true=>exact h.elim
   | false=>exact h aQ H1 av
theorem Aa {f:Str} {v:V}:∀{aW:List (Str×V)},(aW.map (·.1)).all (fun k=> !(f == k))=true→g0 f v aW=aW ++ [(f,v)]
 | [],_=>rfl
 | (g,x)::aW,h=>by
   simp only [List.map_cons,List.all_cons,Bool.and_eq_true,Bool.not_eq_true'] at h
   have ne:g≠f:=fun z=>by subst z; simp at h
   rw [g0,if_neg ne,Aa (by simpa using h.2)]; rfl
noncomputable def jI (bu f:Str) (m:aE):iz:=fun ρ=>(m ρ).bind fun d=>match (ρ[0]? :Option bM) with
 | some (.a3 (.ins fZ ns ds))=>if fZ=bu∧ns.all (fun k=> !(f == k))=true∧ns.length < 1000 then .ok (ρ.set 0 (.a3 (.ins bu (ns ++ [f]) (ds ++ [d])))) else .bad
 | _=> .bad
end
section
variable {X:aL} {F:bx} {e o:Expr} {pos:Pos} {m:aE}
theorem La (h:a8 X F e m):a8 X F e (nU m):=aZ.imp h NB
theorem Tp {bu f x:Str} {aW:List Str} {aP pos':Pos} (k:rB X.K bu aW) (he:a8 X F e m) (hf:f∈aW:=by decide +kernel) (hN:X.N[0]? =some x:=by rfl) (hv:fE X.env.scope x:=by first | exact Or.inl rfl | exact Or.inr (Or.inl rfl) | exact Or.inr (Or.inr rfl)) (hd:(x == ("__debug__" :Str))=false:=by decide) (hcd:(x == ("__classdict__" :Str))=false:=by decide) (hs:iV e=true:=by rfl) (hK:F.K=X.K:=by rfl) :
  dj X (.Assign [.Attribute (.Name x aP) f pos'] e pos) (mY F (jI bu f m)):=by
 refine dj.imp (Sg (lR hN hv hd hcd) he (lY _ _ _ _ hs)) ?_
 rintro cJ σ H ⟨G,ρ,r,h⟩
 unfold jI at h
 refine ⟨G,ρ,r,?_⟩
 cases au:m ρ with
 | bad=>rw [au] at h; exact h.elim
 | exc c=>rw [au] at h; exact h
 | ok d=>
   rw [au,R.bH] at h
   intro v H1 aQ av s1 bo
   split at h
   · rename_i fZ ns ds dn
     split at h
     · rename_i hc
       obtain ⟨rfl,j8,MC⟩:=hc
       obtain ⟨q,ho,ar,h1,h2,h3,C,a4,xs,bD,rfl,rfl,al⟩:=av.obj dn
       obtain ⟨jo,k1,k2,k3⟩:=k.ex
       rw [hK] at bD
       have:=bD.inj k1
       subst this
       refine ⟨.ref q,ar,q,C,a4,xs,rfl,h1,k2,k3 f hf,by simpa using MC,?_⟩
       refine h aQ _ (av.zW dn ar ⟨C,a4,g0 f v xs,by rw [hK]; exact bD,rfl,?_,?_⟩)
       · rw [Aa j8]; simp
       · rw [Aa j8,List.map_append]; exact al.snoc bo
     · exact h.elim
   · exact h.elim
end
noncomputable def FD (F:bx) (x C:Addr) (Q:cW):R (List Str×List D)→Prop
 | .ok (ns,ds)=>∀a4 xs G' H',eb F G' H'→G' x=none→H' x=some (.ins C a4 xs)→xs.map (·.1)=ns→aN F.K G' ds (xs.map (·.2))→Q .non H'
 | .exc _=>False
 | .bad=>False
noncomputable def tw (K:PySem.W.Frag) (bu:Str) (n:Nat) (mf:List D→R (List Str×List D)):i9:=fun vs H Q E=>∃G x C a4 aq ws,vs= .ref x::ws∧e4 K bu C∧H x=some (.ins C a4 [])∧G x=none∧Sub G H∧aN K G aq ws∧aq.length=n∧FD ⟨K,G,del H x,fun _ _=>False⟩ x C Q (mf aq)
noncomputable def pj (bu:Str) (n:Nat) (mf:List D→R (List Str×List D)) (ma:bh):aE:=fun ρ=>(ma ρ).bind fun ds=>if ds.length=n then (fo (mf ds)).bind fun x=> .ok (.ins bu x.1 x.2) else .bad
section
variable {X:aL} {F:bx} {e:Expr} {aq:List Expr} {pos p:Pos} {ma:bh}
theorem NY {bu:Str} {n:Nat} {mf:List D→R (List Str×List D)} {C:Addr} {E:c8} (iK:e4 F.K bu C):ez (cR F (pj bu n mf ma)) (H2 C (tw F.K bu n mf) [] E (d8 F ma)):=by
 rintro σ H Q ⟨G,ρ,r,h⟩
 unfold pj at h
 refine ⟨G,ρ,r,?_⟩
 cases au:ma ρ with
 | bad=>rw [au] at h; exact h.elim
 | exc c=>rw [au] at h; exact h
 | ok ds=>
   rw [au,R.bH] at h
   intro vs H1 aQ av s1 bo x a4 hx y7 ne
   by_cases aC:ds.length=n
   · rw [if_pos aC] at h
     rw [List.append_nil]
     have Al:Sub H1 (del (upd (upd H1 a4 (.own x)) x (.ins C a4 [])) x):=fun b o e=>by
      have ff:b≠x:=fun z=>by rw [z,hx] at e; cases e
      have dc:b≠a4:=fun z=>by rw [z,y7] at e; cases e
      rw [KN ff,de ff,de dc]; exact e
     have S_:Sub aQ (upd (upd H1 a4 (.own x)) x (.ins C a4 [])):=av.aI.sub.trans (Al.trans (Dh _ _))
     refine ⟨aQ,x,C,a4,ds,vs,rfl,iK,en,av.aI.sub.gone hx,S_,bo,aC,?_⟩
     cases em:mf ds with
     | bad=>rw [em] at h; exact h.elim
     | exc c=>rw [em] at h; exact h.elim
     | ok y=>
       obtain ⟨ns,mz⟩:=y
       rw [em] at h
       intro yx xs G' H' k g1 g2 g3 kG
       refine ⟨rfl,?_⟩
       have hh:Sub H1 H':=Al.trans k.hh
       have nw:∀b,H1 b≠none→G' b=aQ b:=fun b hb=>k.new b (Al.some hb)
       have bl:Rel F G' H' σ ρ:=av.grow k.eC k.sub hh nw
       have no:¬ dK H' σ ρ x:=dK.fresh av hh hx
       refine h (.ref x) H' _ (bl.take g2 g1 (av.aI.hh.gone hx) no) ((s1.trans ⟨k.eC,hh,nw⟩).put (s1.h.gone hx) g1) ?_
       simp only [At]
       exact ⟨x,yx,xs,rfl,⟨C,iK,en⟩,g3,kG.mono (Sub.upd g1)⟩
   · rw [if_neg aC] at h; exact h.elim
structure ua (P:Program) (w:World) (K:PySem.W.Frag) (mg:Str→Option Value) (base:Heap) (bu:Str) (n k:Nat) (mf:List D→R (List Str×List D)):Prop where
 ex:∃(C f:Addr) (fd:FuncData) (aM:List Str),e4 K bu C∧uc K C f∧g7 P w K mg base gP k f fd aM (tw K bu n mf)∧mg bu=some (.ref C)∧Binds K fd aM []
theorem Lr {bu:Str} {n k:Nat} {mf:List D→R (List Str×List D)} (c:ua X.prog X.w X.K X.mg X.base bu n k mf) (hr:dv (k + 1) X.A) (ha:fR X F (e::aq) ma) (hK:F.K=X.K:=by rfl) (hg:cN X bu:=by rfl) (hdb:(bu == ("__debug__" :Str))=false:=by decide)
  (he:starEach (e::aq) X.env=(false,eval e X.env)::starEach aq X.env:=by rfl) (hpl:(backTo pos (starEach aq X.env)).any (·.1)=false:=by rfl):a8 X F (.Call (.Name bu p) (e::aq) [] pos) (pj bu n mf ma):=by
 obtain ⟨C,f,fd,aM,bD,c_,jz,hm,hb⟩:=c.ex
 refine aZ.imp (RQ c_ jz hr hg hm hb .nil wJ ha hdb he hpl) ?_
 rw [←hK]
 exact NY (by rw [hK]; exact bD)
end
noncomputable def jE (bu:Str) (aq:List D):az:= .a3 (.ins bu [] [])::aq.map .J
noncomputable def outI (bu:Str):R az→R (List Str×List D)
 | .ok (.a3 (.ins c ns ds)::_)=>if c=bu then .ok (ns,ds) else .bad
 | _=> .bad
theorem SU {K:PySem.W.Frag} {G H:ao} {g6:Str→ao→Prop} {bu:Str} {C a4 x:Addr} {aq:List D} {ws:List V} (iK:e4 K bu C) (h1:H x=some (.ins C a4 [])) (h2:G x=none) (s:Sub G H) (bo:aN K G aq ws) :
  Rel ⟨K,G,del H x,g6⟩ G H (some (.ref x)::ws.map some) (jE bu aq):=by
 refine ⟨⟨s,Sub.refl _,Dh H x,fun _ _=>rfl⟩,by simp [jE,bo.length],fun i t e=>?_,fun i j b aW Ex o b_ bO bz _ _ f DB=>?_⟩
 · cases i with
   | zero=>
     simp [jE] at e; subst e
     exact ⟨some (.ref x),by simp,x,_,rfl,h1,h2,KO,C,a4,[],iK,rfl,rfl,.nil⟩
   | succ i=>
     simp only [jE,List.getElem?_cons_succ] at e ⊢
     rw [List.getElem?_map] at e
     cases hn:aq[i]? with
     | none=>rw [hn] at e; cases e
     | some d=>
       rw [hn] at e; cases e
       obtain ⟨v,ar,a⟩:=bo.get hn
       exact ⟨some v,by rw [List.getElem?_map,ar]; rfl,v,rfl,a⟩
 · have one:∀{i:Nat} {aW:bM} {o:Option V},(jE bu aq)[i]? =some aW→fT H aW o b→i=0:=fun {i aW o} e f=>by
    cases i with
    | zero=>rfl
    | succ i=>
      simp only [jE,List.getElem?_cons_succ,List.getElem?_map] at e
      cases hn:aq[i]? with
      | none=>rw [hn] at e; cases e
      | some d=>rw [hn] at e; cases e; exact f.elim
   rw [one bO f,one bz DB]
theorem Ow {K:PySem.W.Frag} {bu:Str} {n:Nat} {m:iz} {vs:List V} {H:ao} {Q:cW} {E:c8} (h:tw K bu n (fun aq=>outI bu (m (jE bu aq))) vs H Q E) :
  ∃G bw,mY (eP K G bw) m { aV:=fun _ H'=>Q .non H',dN:=Q } (vs.map some) H:=by
 obtain ⟨G,x,C,a4,aq,ws,rfl,iK,h1,h2,s,bo,l,k⟩:=h
 refine ⟨G,del H x,G,jE bu aq,SU iK h1 h2 s bo,?_⟩
 replace k:FD ⟨K,G,del H x,fun _ _=>False⟩ x C Q (outI bu (m (jE bu aq))):=k
 cases em:m (jE bu aq) with
 | bad=>rw [em] at k; exact k.elim
 | exc c=>rw [em] at k; exact k.elim
 | ok ρ'=>
   rw [em] at k
   intro G' H' r
   unfold outI at k
   split at k
   · rename_i WK ns ds gM heq
     cases heq
     obtain ⟨a,ho,ar,g1,g2,g3,jo,yx,xs,bD,rfl,aG,al⟩:=r.obj (i:=0) rfl
     have ar:some (some (V.ref x))=some (some (V.ref a)):=ar
     cases ar
     split at k
     · rename_i hc
       subst hc
       have:=bD.inj iK
       subst this
       exact k yx xs G' H' r.aI g2 g1 aG al
     · exact k.elim
   · exact k.elim
end aD
set_option Elab.async false
set_option linter.all false
set_option maxRecDepth 100000
namespace aD
open PySem PySem.Spec bb PyProof.Rows
theorem HH {K:PySem.W.Frag} {bu:Str} {n:Nat} {mf:List D→R (List Str×List D)}:∀vs H Q E,tw K bu n mf vs H Q E→vs.length=n + 1:=fun vs H Q E h=>by
 obtain ⟨G,x,C,a4,aq,ws,rfl,_,_,_,_,q,l,_⟩:=h
 rw [List.length_cons,←q.length,l]
theorem Uy {N:List Str} {vs:List V} (h:vs.length=N.length):bb.start N vs=vs.map some:=by
 unfold bb.start
 simp [h]
theorem N3 {P:Program} {w:World} {K:PySem.W.Frag} {mg:Str→Option Value} {base:Heap} {x qual bu hO:Str} {st:Stmt} {aM:List Str} {k:Nat} {m:iz} {f:Addr} {fd:FuncData} (fn:ku K x qual st f fd) (S:cV (hO::aM) (hO::aM) (bW st))
  (h:∀(f:Addr) (cn:Value) (A:Around) (outer:List Env) (s:Shared) (H:ao) (E:c8),dv k (A.deeper (PyProof.Rows.envOfC qual (bW st) s.heap.objs.size f cn))→∀b2 bw,fu (eE gP P w K mg base (hO::aM) qual (bW st) f cn A outer s H E).gL (fI st) (mY (eP K b2 bw) m)) :
  g7 P w K mg base gP (k + 1) f fd (hO::aM) (tw K bu aM.length fun aq=>outI bu (m (jE bu aq))):=fn.ok S HH fun cn A outer s H vs Q E hr hs=>by
 have hl:=HH vs H Q E hs
 obtain ⟨G,bw,ht⟩:=Ow hs
 refine ⟨_,h f cn A outer s H E hr G bw,?_⟩
 rw [Uy (by simpa using hl)]
 exact ht
theorem Qc {P:Program} {w:World} {K:PySem.W.Frag} {mg:Str→Option Value} {base:Heap} {x qual bu hO:Str} {st:Stmt} {N aM:List Str} {k:Nat} {m:aY} {C f:Addr} {fd:FuncData} (fn:ku K x qual st f fd) (iK:e4 K bu C) (hc:jr K C) (hm:Meth K C x f) (hb:Binds K fd (hO::aM) []) (S:cV N (hO::aM) (bW st))
  (h:∀(f:Addr) (cn:Value) (A:Around) (outer:List Env) (s:Shared) (H:ao) (E:c8),dv k (A.deeper (PyProof.Rows.envOfC qual (bW st) s.heap.objs.size f cn))→∀b2 bw,iD (eE gP P w K mg base N qual (bW st) f cn A outer s H E).gL (eP K b2 bw) (fI st) m) :
  nr P w K mg base bu x aM.length (k + 1) (c5 N.length m):=by
 refine ⟨C,f,fd,hO::aM,iK,hc,hm,fn.ok S xa fun cn A outer s H vs Q E hr hs=>?_,hb⟩
 obtain ⟨G,ht⟩:=u_ hs
 exact ⟨_,(h f cn A outer s H E hr G H).1,ht⟩
section
variable {X:aL} {F:bx} {e a b c:Expr} {aq:List Expr} {pos p:Pos} {m n:aE} {ma:bh}
noncomputable def ou:List D→R D
 | [.lst xs]=> .ok (.tup xs)
 | [.b8 xs]=> .ok (.tup xs)
 | [.tup xs]=> .ok (.tup xs)
 | _=> .bad
theorem Q4 (hK:F.K=X.K):l6 F (fun xs H Q=>∃p ys,xs=[.ref p]∧((b4 X.K H p ys∧∀l,H l=none→Q (.ref l) (upd H l (.tup ys)))∨(cK X.K H p ys∧Q (.ref p) H))) ou:=by
 intro σ ρ G H xs ds Q r al k
 unfold ou at k
 split at k
 · obtain ⟨v,rfl,bo⟩:=al.one
   simp only [At] at bo
   obtain ⟨q,ys,rfl,aO,g_⟩:=bo
   refine ⟨q,ys,rfl,.inl ⟨b4.of (r.aI.sub _ _ aO),fun l hl=>?_⟩⟩
   refine k (.ref l) _ _ (r.lay hl) (cz.lay r.aI.sub hl) ?_
   simp only [At]
   exact ⟨l,ys,rfl,en,g_.mono (Sub.upd (r.aI.sub.gone hl))⟩
 · obtain ⟨v,rfl,bo⟩:=al.one
   simp only [At] at bo
   obtain ⟨q,ys,rfl,aO,g_⟩:=bo
   refine ⟨q,ys,rfl,.inl ⟨by rw [←hK]; exact b4.mono r.aI.sub aO,fun l hl=>?_⟩⟩
   refine k (.ref l) _ _ (r.lay hl) (cz.lay r.aI.sub hl) ?_
   simp only [At]
   exact ⟨l,ys,rfl,en,g_.mono (Sub.upd (r.aI.sub.gone hl))⟩
 · obtain ⟨v,rfl,bo⟩:=al.one
   have JW:=bo
   simp only [At] at bo
   obtain ⟨q,ys,rfl,aO,g_⟩:=bo
   exact ⟨q,ys,rfl,.inr ⟨cK.of (r.aI.sub _ _ aO),k _ H G r (cz.refl _ _) JW⟩⟩
 · exact k.elim
theorem LN (hm:X.mg "tuple"=none) (ha:fR X F [e] ma) (hK:F.K=X.K:=by rfl) (hg:cN X "tuple":=by rfl) (he:starEach [e] X.env=(false,eval e X.env)::starEach [] X.env:=by rfl) (hpl:(backTo pos (starEach [] X.env)).any (·.1)=false:=by rfl) :
  a8 X F (.Call (.Name "tuple" p) [e] [] pos) (bk ou ma):=Dr Kk (Q4 hK) hm (by kernel_rfl) ha hg (by decide) (by decide) he hpl
end
end aD
set_option Elab.async false
set_option linter.all false
set_option maxRecDepth 100000
namespace dZ
open PySem PyProof.Rows
section
variable {prog:Program} {w:World} {A:Around} {E:Value→Shared→Prop} {s:Shared}
theorem Ko {t b:Addr} {ws:List Value} {Q:Value→Shared→Prop} (ht:IsTup s.heap t ([]:List Value).toArray) (hb:IsTup s.heap b ws.toArray) (h:Q (.ref b) s):wpAny (model prog w) A (binaryOp .Add (.ref t) (.ref b)) Q E s:=by
 obtain ⟨⟨cls,dd,data,cB⟩,ho,hc,n,hd⟩:=id ht
 obtain ⟨⟨Kp,vj,data2,lX⟩,o9,j8,dc,hd2⟩:=id hb
 simp only at hc hd j8 hd2
 subst hc hd j8 hd2
 exact concat_meets ⟨_,ho,rfl⟩ ⟨_,o9,rfl⟩ noFill_tuple_add seq_tuple_add PySem.F.slot_tuple_add PySem.F.entry_tuple_add (PySem.F.args_tuple_add_2 _ _)
  (tuple_addW0 t b ([]:List Value).toArray ws.toArray n dc dd vj cB lX (by simp)) ⟨ho,o9,h⟩
end
end dZ
namespace bb
open PySem PySem.Spec PyProof.Rows
variable {X:aL}
noncomputable def G4 (K:PySem.W.Frag):ed:=fun x y H Q=>∃a b ys,x= .ref a∧y= .ref b∧cK K H a []∧cK K H b ys∧Q (.ref b) H
theorem Q_:dr X (binaryOp .Add) (G4 X.K):=by
 intro pins s σ H x y v u Q ae bt b0 h
 obtain ⟨a,b,ys,rfl,rfl,ha,hb,q⟩:=h
 cases bt
 cases b0
 obtain ⟨its,av,fp,_⟩:=ae.tuple ha
 cases av
 obtain ⟨eH,bl,b7,_⟩:=ae.tuple hb
 exact dZ.Ko fp b7 ⟨.ref b,H,ae,rfl,q⟩
end bb
namespace aD
open PySem PySem.Spec bb PyProof.Rows
section
variable {X:aL} {F:bx} {e a b c:Expr} {aq:List Expr} {pos p:Pos} {m n:aE} {ma:bh}
noncomputable def rY:D→D→R D
 | .tup xs,.tup ys=>if xs.length + ys.length≤1000000 then .ok (.tup (xs ++ ys)) else .bad
 | _,_=> .bad
theorem QW (hK:F.K=X.K):ft F (fun x y H Q=>G3 X.K x y H Q∨G4 X.K x y H Q) rY:=by
 intro σ ρ G H x y a4 fz Q r bY cP k
 unfold rY at k
 split at k
 · rename_i ds aq
   have yd:=bY
   have JX:=cP
   simp only [At] at bY cP
   split at k
   · rename_i hl
     obtain ⟨p,xs,rfl,h1,a7⟩:=bY
     obtain ⟨b7,ys,rfl,h2,bX⟩:=cP
     by_cases hx:xs=[]
     · subst hx
       refine .inr ⟨p,b7,ys,rfl,rfl,cK.of (r.aI.sub _ _ h1),cK.of (r.aI.sub _ _ h2),?_⟩
       have e:ds=[]:=List.eq_nil_of_length_eq_zero (by rw [a7.length]; rfl)
       subst e
       exact k _ H G r (cz.refl _ _) JX
     · refine .inl ⟨p,b7,xs,ys,rfl,rfl,cK.of (r.aI.sub _ _ h1),cK.of (r.aI.sub _ _ h2),hx,by rw [←a7.length,←bX.length]; exact Nat.le_trans hl (by decide),fun b5=>?_,fun _ l aC=>?_⟩
       · subst b5
         have e:aq=[]:=List.eq_nil_of_length_eq_zero (by rw [bX.length]; rfl)
         subst e
         rw [List.append_nil] at k
         exact k _ H G r (cz.refl _ _) yd
       · refine k (.ref l) _ _ (r.lay aC) (cz.lay r.aI.sub aC) ?_
         simp only [At]
         exact ⟨l,xs ++ ys,rfl,en,(a7.append bX).mono (Sub.upd (r.aI.sub.gone aC))⟩
   · exact k.elim
 · exact k.elim
theorem Lc (ha:a8 X F a m) (hb:a8 X F b n) (hK:F.K=X.K:=by rfl):a8 X F (.BinOp a .Add b pos) (ah rY m n):=kE (Q9.or Q_) (QW hK) ha hb
instance (i j:Int):Decidable (IntMulOk i j):=by unfold IntMulOk; infer_instance
theorem Rg:dr X (binaryOp .Mult) (n_ IntMulOk fun i j=> .int (i * j)):=q5 fun _ _ _ _ _ _ _ hc q=>mul_int q hc
noncomputable def kQ:=gn fun i j=>if IntMulOk i j then .ok (.int (i * j)) else .bad
theorem Ly (ha:a8 X F a m) (hb:a8 X F b n):a8 X F (.BinOp a .Mult b pos) (ah kQ m n):=kE Rg (q3 fun _ _ _=>by simp only [At]) ha hb
end
end aD
set_option Elab.async false
set_option linter.all false
set_option maxRecDepth 100000
namespace aD
open PySem PySem.Spec bb PyProof.Rows
section
variable {X:aL} {F:bx} {e a b c:Expr} {aq:List Expr} {pos p:Pos} {m n:aE} {ma:bh}
noncomputable def lN (i:Nat) (m:aE):bh:=fun ρ=>(ownAt i ρ).bind fun ds=>(m ρ).bind fun d=>match d with
 | .lst aq=>if ds.length + aq.length≤1000000 then .ok (ds ++ aq) else .bad
 | _=> .bad
theorem QK (i:Nat) {x:Str} {aP:Pos} (hb:a8 X F b m) (hN:X.N[i]? =some x:=by rfl) (hv:fE X.env.scope x:=by first | exact Or.inl rfl | exact Or.inr (Or.inl rfl) | exact Or.inr (Or.inr rfl)) (hd:(x == ("__debug__" :Str))=false:=by decide) (hcd:(x == ("__classdict__" :Str))=false:=by decide) :
  l8 X F (.BinOp (.Name x aP) .Add b pos) (lN i m):=by
 refine aZ.imp (GI Gm (lR hN hv hd hcd) hb) ?_
 rintro σ H Q ⟨G,ρ,r,h⟩
 unfold lN ownAt at h
 cases dn:ρ[i]? with
 | none=>rw [dn] at h; exact h.elim
 | some s=>
   rw [dn] at h
   cases s with
   | un=>exact h.elim
   | J _=>exact h.elim
   | fN _=>exact h.elim
   | a3 a3=>
    cases a3 with
    | a0 _ _=>exact h.elim
    | ins _ _ _=>exact h.elim
    | lst ds=>
     obtain ⟨q,xs,ar,h1,h2,h3,h4⟩:=r.own dn
     rw [R.bH] at h
     refine ⟨.ref q,ar,G,ρ,r,?_⟩
     cases au:m ρ with
     | bad=>rw [au] at h; exact h.elim
     | exc c=>rw [au] at h; exact h
     | ok d=>
       rw [au,R.bH] at h
       intro v H1 aQ av s1 bo
       obtain ⟨df,l4,hG,dp,c9,vB,jd⟩:=av.own dn
       rw [ar] at hG
       cases hG
       cases d with
       | lst aq=>
         simp only at h
         split at h
         · rename_i hl
           simp only [At] at bo
           obtain ⟨b7,ys,rfl,g2,bX⟩:=bo
           refine ⟨q,b7,l4,ys,rfl,rfl,dp,av.aI.sub _ _ g2,by rw [←jd.length,←bX.length]; exact Nat.le_trans hl (by decide),fun l aC=>?_⟩
           exact h l (l4 ++ ys) _ aQ (av.lay0 aC) (s1.trans (cz.lay0 aC)) (s1.h.gone aC) en (av.aI.sub.gone aC) (jd.append bX)
         · exact h.elim
       | _=>exact h.elim
end
end aD
set_option Elab.async false
set_option linter.all false
set_option maxRecDepth 100000
namespace aD
open PySem PySem.Spec bb
section
variable {X:aL} {F:bx} {e a b c o bq iter elt:Expr} {aq:List Expr} {pos p:Pos} {m n:aE} {ma:bh} {st:Stmt} {mV:List Stmt}
theorem m8 {bu f:Str} {aW:List Str} (k:rB X.K bu aW) (he:aS X F o m) (hf:f∈aW:=by decide +kernel) (hK:F.K=X.K:=by rfl) (hb:attributeBase o f X.env (eval o X.env)=eval o X.env:=by rfl):aS X F (.Attribute o f pos) (ct (eG bu f) m):=⟨aD.Lh (k:=k) (he:=he.1) (hf:=hf) (hK:=hK) (hb:=hb)⟩
theorem tN {bu mt:Str} {n k:Nat} {mf:List D→R bR} {pl:Sem Bool} {apos:Pos} (c:nr X.prog X.w X.K X.mg X.base bu mt n k mf) (hr:dv k X.A) (he:aS X F o m) (ha:e7 X F (e::aq) ma) (hE:F.g6=fun _ _=>False:=by rfl) (hK:F.K=X.K:=by rfl) (hst:starEach (e::aq) X.env=(false,eval e X.env)::starEach aq X.env:=by rfl) (hpl:(backTo pos (starEach aq X.env)).any (·.1)=false:=by rfl) (ht:eval (.Call (.Attribute o mt apos) (e::aq) [] pos) X.env=(do
   let f6 ←eval o X.env
   standAt apos.atName
   let (f,first) ←holding [f6] (getMethod f6 mt pl)
   callWith pos f first (backTo pos (starEach (e::aq) X.env)) (backToKw pos (keywordEach [] X.env))):=by rfl):aS X F (.Call (.Attribute o mt apos) (e::aq) [] pos) (hZ bu mt n mf m ma):=⟨aD.Lu (c:=c) (hr:=hr) (he:=he.1) (ha:=ha.1) (hE:=hE) (hK:=hK) (hst:=hst) (hpl:=hpl) (ht:=ht)⟩
theorem V3 (hu:X.A.units + 64 < cLine) (ha:aS X F a m) (hb:aS X F b n) (h1:behindInMarks .NotIn b=false:=by with_unfolding_all rfl):aS X F (.Compare a [.NotIn] [b] pos) (ah (es false) m n):=⟨aD.Le (hu:=hu) (ha:=ha.1) (hb:=hb.1) (h1:=h1)⟩
theorem BQ (hu:X.A.units + 64 < cLine) (ha:aS X F a m) (hb:aS X F b n) (h1:behindInMarks .In b=false:=by with_unfolding_all rfl):e8 X F (.Compare a [.In] [b] pos) (aH (ah (es true) m n)):=⟨aD.U2 (hu:=hu) (ha:=ha.1) (hb:=hb.1) (h1:=h1)⟩
theorem Wt (hu:X.A.units + 64 < cLine) (ha:aS X F a m) (hb:aS X F b n) (h1:behindInMarks .NotIn b=false:=by with_unfolding_all rfl):e8 X F (.Compare a [.NotIn] [b] pos) (aH (ah (es false) m n)):=⟨aD.U3 (hu:=hu) (ha:=ha.1) (hb:=hb.1) (h1:=h1)⟩
theorem Ja (i:Nat) {x:Str} {p q:Pos} (hN:X.N.Nodup) (hi:X.N[i]? =some x:=by rfl) (hx:Loc X.env.scope x:=by first | exact Or.inl rfl | exact Or.inr rfl) (hf:X.fn x=true∨X.env.scope.names.lookup x=some .local:=by first | exact .inl rfl | exact .inr rfl):eV X F (.Assign [.Name x p] (.Dict [] [] q) pos) (pn i):=⟨aD.TA (i:=i) (hN:=hN) (hi:=hi) (hx:=hx) (hf:=hf)⟩
theorem xB (i:Nat) {x:Str} {aP pos':Pos} {k v:Expr} {mk mv:aE} (hu:X.A.units + 64 < cLine) (hk:aS X F k mk) (hv:aS X F v mv) (hN:X.N[i]? =some x:=by rfl) (hvs:fE X.env.scope x:=by first | exact Or.inl rfl | exact Or.inr (Or.inl rfl) | exact Or.inr (Or.inr rfl)) (hd:(x == ("__debug__" :Str))=false:=by decide) (hcd:(x == ("__classdict__" :Str))=false:=by decide) (hs:iV v=true:=by rfl):eV X F (.Assign [.Subscript (.Name x aP) k pos'] v pos) (jH i mk mv):=⟨aD.Ti (i:=i) (hu:=hu) (hk:=hk.1) (hv:=hv.1) (hN:=hN) (hvs:=hvs) (hd:=hd) (hcd:=hcd) (hs:=hs)⟩
theorem pT (h:aS X F e m):eV X F (.Return (some e) pos) (gK m):=⟨aD.Tx (h:=h.1)⟩
theorem I8 {st:Stmt}:eV X F st qO:=⟨aD.Te ⟩
theorem VW (h:aS X F e m):aS X F e (nU m):=⟨aD.La (h:=h.1)⟩
theorem V8 {bu:Str} {n k:Nat} {mf:List D→R (List Str×List D)} (c:ua X.prog X.w X.K X.mg X.base bu n k mf) (hr:dv (k + 1) X.A) (ha:e7 X F (e::aq) ma) (hK:F.K=X.K:=by rfl) (hg:cN X bu:=by rfl) (hdb:(bu == ("__debug__" :Str))=false:=by decide) (he:starEach (e::aq) X.env=(false,eval e X.env)::starEach aq X.env:=by rfl) (hpl:(backTo pos (starEach aq X.env)).any (·.1)=false:=by rfl):aS X F (.Call (.Name bu p) (e::aq) [] pos) (pj bu n mf ma):=⟨aD.Lr (c:=c) (hr:=hr) (ha:=ha.1) (hK:=hK) (hg:=hg) (hdb:=hdb) (he:=he) (hpl:=hpl)⟩
theorem I3 (hm:X.mg "tuple"=none) (ha:e7 X F [e] ma) (hK:F.K=X.K:=by rfl) (hg:cN X "tuple":=by rfl) (he:starEach [e] X.env=(false,eval e X.env)::starEach [] X.env:=by rfl) (hpl:(backTo pos (starEach [] X.env)).any (·.1)=false:=by rfl):aS X F (.Call (.Name "tuple" p) [e] [] pos) (bk ou ma):=⟨aD.LN (hm:=hm) (ha:=ha.1) (hK:=hK) (hg:=hg) (he:=he) (hpl:=hpl)⟩
theorem VZ (ha:aS X F a m) (hb:aS X F b n) (hK:F.K=X.K:=by rfl):aS X F (.BinOp a .Add b pos) (ah rY m n):=⟨aD.Lc (ha:=ha.1) (hb:=hb.1) (hK:=hK)⟩
theorem I0 (ha:aS X F a m) (hb:aS X F b n):aS X F (.BinOp a .Mult b pos) (ah kQ m n):=⟨aD.Ly (ha:=ha.1) (hb:=hb.1)⟩
theorem I7 (i:Nat) {x:Str} {aP:Pos} (hb:aS X F b m) (hN:X.N[i]? =some x:=by rfl) (hv:fE X.env.scope x:=by first | exact Or.inl rfl | exact Or.inr (Or.inl rfl) | exact Or.inr (Or.inr rfl)) (hd:(x == ("__debug__" :Str))=false:=by decide) (hcd:(x == ("__classdict__" :Str))=false:=by decide):ny X F (.BinOp (.Name x aP) .Add b pos) (lN i m):=⟨aD.QK (i:=i) (hb:=hb.1) (hN:=hN) (hv:=hv) (hd:=hd) (hcd:=hcd)⟩
structure uo (X:aL) (F:bx) (st:Stmt) (m:iz):Prop where
 o:dj X st (mY F m)
structure um (X:aL) (F:bx) (st:List Stmt) (m:iz):Prop where
 o:fu X st (mY F m)
theorem Wm {m:iz} (h:uo X F st m):um X F [st] m:=⟨z_ h.1⟩
theorem tP {a b:iz} (h:uo X F st a) (k:um X F mV b):um X F (st::mV) (lP a b):=⟨fu.imp (GX h.1 k.1) Of⟩
theorem I6 {c:Expr} {r:Stmt} {k:ck} (h:e8 X F c k):uo X F (.If c [r] [] pos) (nW k):=⟨dj.imp (GV h.1 (z_ GW) GY) NQ⟩
theorem xA {bu f x:Str} {aW:List Str} {aP pos':Pos} (k:rB X.K bu aW) (he:aS X F e m) (hf:f∈aW:=by decide +kernel) (hN:X.N[0]? =some x:=by rfl) (hv:fE X.env.scope x:=by first | exact Or.inl rfl | exact Or.inr (Or.inl rfl) | exact Or.inr (Or.inr rfl)) (hd:(x == ("__debug__" :Str))=false:=by decide) (hcd:(x == ("__classdict__" :Str))=false:=by decide) (hs:iV e=true:=by rfl) (hK:F.K=X.K:=by rfl) :
  uo X F (.Assign [.Attribute (.Name x aP) f pos'] e pos) (jI bu f m):=⟨aD.Tp k he.1 hf hN hv hd hcd hs hK⟩
end
structure p3 (K:PySem.W.Frag) (bu x qual:Str) (st:Stmt) (aM:List Str):Prop where
 ex:∃(C f:Addr) (fd:FuncData),e4 K bu C∧jr K C∧Meth K C x f∧ku K x qual st f fd∧Binds K fd aM []
structure InK (K:PySem.W.Frag) (mg:Str→Option Value) (bu qual:Str) (st:Stmt) (aM:List Str):Prop where
 ex:∃(C f:Addr) (fd:FuncData),e4 K bu C∧uc K C f∧ku K "__init__" qual st f fd∧mg bu=some (.ref C)∧Binds K fd aM []
theorem xy {P:Program} {w:World} {K:PySem.W.Frag} {mg:Str→Option Value} {base:Heap} {x qual bu hO:Str} {st:Stmt} {N aM:List Str} {k:Nat} {m:aY} (d:p3 K bu x qual st (hO::aM)) (S:cV N (hO::aM) (bW st))
  (h:∀(f:Addr) (cn:Value) (A:Around) (outer:List Env) (s:Shared) (H:ao) (E:c8),dv k (A.deeper (PyProof.Rows.envOfC qual (bW st) s.heap.objs.size f cn))→∀b2 bw,iD (eE gP P w K mg base N qual (bW st) f cn A outer s H E).gL (eP K b2 bw) (fI st) m) :
  nr P w K mg base bu x aM.length (k + 1) (c5 N.length m):=by
 obtain ⟨C,f,fd,h1,h2,h3,h4,h5⟩:=d.ex
 exact Qc h4 h1 h2 h3 h5 S h
theorem Wj {P:Program} {w:World} {K:PySem.W.Frag} {mg:Str→Option Value} {base:Heap} {qual bu hO:Str} {st:Stmt} {aM:List Str} {k:Nat} {m:iz} (d:InK K mg bu qual st (hO::aM)) (S:cV (hO::aM) (hO::aM) (bW st))
  (h:∀(f:Addr) (cn:Value) (A:Around) (outer:List Env) (s:Shared) (H:ao) (E:c8),dv k (A.deeper (PyProof.Rows.envOfC qual (bW st) s.heap.objs.size f cn))→∀b2 bw,um (eE gP P w K mg base (hO::aM) qual (bW st) f cn A outer s H E).gL (eP K b2 bw) (fI st) m) :
  ua P w K mg base bu aM.length (k + 1) (fun aq=>outI bu (m (jE bu aq))):=by
 obtain ⟨C,f,fd,h1,h2,h3,h4,h5⟩:=d.ex
 exact ⟨C,f,fd,hO::aM,h1,h2,N3 h3 S fun f cn A outer s H E hr b2 bw=>(h f cn A outer s H E hr b2 bw).1,h4,h5⟩
end aD
set_option Elab.async false
set_option linter.all false
set_option maxRecDepth 100000
namespace aD
open PySem PySem.Spec bb PyProof.Rows
section
variable {K:PySem.W.Frag} {G G' H H':ao}
theorem dk.length:∀{ts:List T} {vs:List V},dk K G H ts vs→ts.length=vs.length
 | [],_,h=>by simp only [dk] at h; subst h; rfl
 | _::_,_,h=>by
   simp only [dk] at h
   obtain ⟨v,r,rfl,_,t⟩:=h
   simp [dk.length t]
end
section
variable {F:bx} {G H:ao} {σ :bb.St} {ρ:az}
end
section
variable {X:aL} {F:bx} {e a b c bq iter elt:Expr} {aq:List Expr} {pos p:Pos} {m n:aE} {ma:bh}
end
end aD
set_option Elab.async false
set_option linter.all false
set_option maxRecDepth 100000
namespace aD
open PySem PySem.Spec bb
section
variable {F:bx}
end
section
variable {X:aL} {F:bx} {e a b c bq iter elt:Expr} {aq:List Expr} {pos p:Pos} {m n:aE} {ma:bh} {scope:Scope} {N:List Str}
end
end aD
set_option Elab.async false
set_option linter.all false
set_option maxRecDepth 100000
namespace aD
open PySem PySem.Spec bb
noncomputable def jT (c:ck) (b:aY):Nat→az→R l9
 | 0,_=> .bad
 | n + 1,ρ=>(c ρ).bind fun k=>if k=true then (b ρ).bind fun f=>match f with
   | .aV ρ'=>jT c b n ρ'
   | .cL ρ'=>jT c b n ρ'
   | .ee ρ'=> .ok (.aV ρ')
   | f=> .ok f
   else .ok (.aV ρ)
noncomputable def ps (c:ck) (b:aY):aY:=jT c b 1000
section
variable {F:bx}
theorem Ol {c:ck} {b:aY}:g8 (e1 F (ps c b)) (Ia (fB F c) (e1 F b)):=by
 rintro cJ σ H ⟨G,ρ,r,h⟩
 refine ⟨fun m σ2 aT=>∃c4 ep,Rel F c4 aT σ2 ep∧Sub G c4∧gZ F c4 cJ (jT c b m ep),⟨1000,G,ρ,r,Sub.refl _,h⟩,?_⟩
 rintro m σ2 aT ⟨c4,ep,bl,s2,k2⟩
 refine ⟨c4,ep,bl,?_⟩
 cases m with
 | zero=>exact k2.elim
 | succ n=>
   simp only [jT] at k2
   cases ec:c ep with
   | bad=>rw [ec] at k2; exact k2.elim
   | exc x=>rw [ec] at k2; exact k2
   | ok k=>
     rw [ec,R.bH] at k2
     intro di gd ei lZ
     cases k with
     | false=>
       rw [if_neg Bool.false_ne_true] at k2 ⊢
       exact k2 σ2 gd di ei lZ.g
     | true=>
       rw [if_pos rfl] at k2 ⊢
       refine ⟨fun σ4 gB=>∃rD iv,Rel F rD gB σ4 iv∧Sub G rD∧gZ F rD cJ (jT c b n iv),fun σ4 gB q=>⟨n,Nat.lt_succ_self _,q⟩,gd,ep,ei,?_⟩
       cases bE:b ep with
       | bad=>rw [bE] at k2; exact k2.elim
       | exc x=>rw [bE] at k2; exact k2
       | ok f=>
         rw [bE,R.bH] at k2
         cases f with
         | aV nf=>exact fun σ7 kv fU i0 dz=>⟨kv,nf,i0,s2.trans (lZ.g.trans dz),gZ.mono (lZ.g.trans dz) k2⟩
         | cL nf=>exact fun σ7 kv fU i0 dz=>⟨kv,nf,i0,s2.trans (lZ.g.trans dz),gZ.mono (lZ.g.trans dz) k2⟩
         | ee nf=>exact fun σ7 kv fU i0 dz=>k2 σ7 kv fU i0 (lZ.g.trans dz)
         | dN d=>exact k2
         | kl ds=>exact k2
         | lV t=>exact k2
end
section
variable {X:aL} {F:bx} {e a b c o:Expr} {aq:List Expr} {pos p:Pos} {m n:aE} {ma:bh}
theorem Jb {body:List Stmt} {qZ:ck} {fm:aY} (hp:PassesOwn (model X.prog X.w) X.A X.env X.xe) (hc:e8 X F c qZ) (hb:iD X F body fm):eV X F (.While c body [] pos) (ps qZ fm):=⟨dj.imp (Sk hp hc.1 hb.1) Ol⟩
noncomputable def HF:=gn fun i j=>if 0≤j then .ok (.int (i / 2 ^ j.toNat)) else .bad
noncomputable def Ck:=gn fun i j=> .ok (.int (Builtin.bitAnd i j))
theorem Wd (ha:aS X F a m) (hb:aS X F b n):aS X F (.BinOp a .RShift b pos) (ah HF m n):=⟨kE Rk (q3 fun _ _ _=>by simp only [At]) ha.1 hb.1⟩
theorem VV (ha:aS X F a m) (hb:aS X F b n):aS X F (.BinOp a .BitAnd b pos) (ah Ck m n):=⟨kE Q8 (q4 fun _ _ _=>by simp only [At]) ha.1 hb.1⟩
noncomputable def findD (a_:List (List Key)) (ds:List D) (cp:List Key):Option D:=((a_.zip ds).find? fun p=>decide (p.1=cp)).map (·.2)
theorem yR {K:PySem.W.Frag} {G:ao} (cp:List Key):∀{ds:List D} {xs:List (List Key×V)},aN K G ds (xs.map (·.2))→match findD (xs.map (·.1)) ds cp with
  | some d=>∃v,gy xs cp=some v∧At K G d v
  | none=>gy xs cp=none
 | [],xs,h=>by
   simp only [aN] at h
   have:xs=[]:=by simpa using h
   subst this; rfl
 | d::ds,[],h=>by simp only [aN,List.map_nil] at h; obtain ⟨v,r,e,_⟩:=h; cases e
 | d::ds,(k,v)::xs,h=>by
   simp only [aN,List.map_cons] at h
   obtain ⟨m5,r,e,a,t⟩:=h
   cases e
   have c0:=yR (K:=K) (G:=G) cp (ds:=ds) (xs:=xs) t
   unfold findD gy at c0 ⊢
   simp only [List.map_cons,List.zip_cons_cons,List.find?_cons]
   by_cases hk:k=cp
   · simp only [hk,decide_true,Option.map_some]
     exact ⟨v,rfl,a⟩
   · simp only [hk,decide_false]
     exact c0
noncomputable def sO (m n:aE):aE:=fun ρ=>(m ρ).bind fun d=>match d with
 | .a0 a_ ds=>(n ρ).bind fun k=>match lL k with
   | some cp=> .ok ((findD a_ ds cp).getD .non)
   | none=> .bad
 | _=> .bad
theorem NJ:ez (cR F (sO m n)) (HV (cR F m) (cR F n)):=by
 rintro σ H Q ⟨G,ρ,r,h⟩
 unfold sO at h
 refine ⟨G,ρ,r,?_⟩
 cases au:m ρ with
 | bad=>rw [au] at h; exact h.elim
 | exc c=>rw [au] at h; exact h
 | ok dd=>
   rw [au,R.bH] at h
   intro x H1 aQ av s1 bY
   cases dd with
   | a0 a_ ds=>
     simp only at h
     simp only [At] at bY
     obtain ⟨a,xs,rfl,hg,rfl,al⟩:=bY
     refine ⟨a,rfl,.inr ⟨xs,.inl (av.aI.sub _ _ hg)⟩,aQ,ρ,av,?_⟩
     cases bE:n ρ with
     | bad=>rw [bE] at h; exact h.elim
     | exc c=>rw [bE] at h; exact h
     | ok nE=>
       rw [bE,R.bH] at h
       intro y aT c4 bl s2 cP
       cases fJ:lL nE with
       | none=>rw [fJ] at h; exact h.elim
       | some cp=>
         rw [fJ] at h
         simp only at h
         obtain ⟨q,rfl,aO⟩:=vX fJ cP
         refine ⟨gy xs cp,iw.t (bl.aI.sub _ _ (s2.g _ _ hg)) (bl.aI.sub _ _ aO),?_⟩
         have f:=yR (K:=F.K) (G:=aQ) cp al
         cases lB:findD (xs.map (·.1)) ds cp with
         | none=>
           rw [lB] at f h
           rw [show gy xs cp=none from f]
           exact h .non aT c4 bl (s1.trans s2) (by simp only [Option.getD_none,At])
         | some d=>
           rw [lB] at f h
           obtain ⟨v,ev,bo⟩:=f
           rw [ev]
           exact h v aT c4 bl (s1.trans s2) (bo.mono s2.g)
   | _=>exact h.elim
theorem V1 {apos bV:Pos} (hu:X.A.units + 64 < cLine) (ho:aS X F o m) (he:aS X F e n) (h1:attributeBase o "get" X.env (eval o X.env)=eval o X.env:=by rfl)
  (h2:((backTo bV (starEach [e] X.env)).all (fun x=> !x.1) && (backToKw bV (keywordEach [] X.env)).all (fun x=>x.1.isSome)
  && decide (([e]:List Expr).length + ([]:List Keyword).length + (if ([]:List Keyword).isEmpty then 0 else 1) < 30))=true:=by rfl) (h3:(apos.endLine == bV.line)=true:=by rfl) (h4:backTo bV (starEach [e] X.env)=[(false,eval e X.env)]:=by rfl) :
  aS X F (.Call (.Attribute o "get" apos) [e] [] bV) (sO m n):=⟨aZ.imp (RK (by omega) ho.1 he.1 ⟨h1,h2,h3,h4⟩) NJ⟩
noncomputable def nD (d k:D):R D:=match d with
 | .a0 a_ ds=>match lL k with
   | some cp=>match findD a_ ds cp with
     | some v=> .ok v
     | none=> .bad
   | none=> .bad
 | _=> .bad
theorem NK:ez (cR F (ah nD m n)) (HU (cR F m) (cR F n)):=by
 rintro σ H Q ⟨G,ρ,r,h⟩
 unfold ah at h
 refine ⟨G,ρ,r,?_⟩
 cases au:m ρ with
 | bad=>rw [au] at h; exact h.elim
 | exc c=>rw [au] at h; exact h
 | ok dd=>
   rw [au,R.bH] at h
   intro x H1 aQ av s1 bY
   refine ⟨aQ,ρ,av,?_⟩
   cases bE:n ρ with
   | bad=>rw [bE] at h; exact h.elim
   | exc c=>rw [bE] at h; exact h
   | ok nE=>
     rw [bE,R.bH] at h
     intro y aT c4 bl s2 cP
     unfold nD at h
     split at h
     · rename_i a_ ds
       split at h
       · rename_i cp fJ
         simp only [At] at bY
         obtain ⟨a,xs,rfl,hg,rfl,al⟩:=bY
         obtain ⟨q,rfl,aO⟩:=vX fJ cP
         have f:=yR (K:=F.K) (G:=aQ) cp al
         split at h
         · rename_i d lB
           rw [lB] at f
           obtain ⟨v,ev,bo⟩:=f
           refine ⟨a,v,rfl,?_,h v aT c4 bl (s1.trans s2) (bo.mono s2.g)⟩
           rw [←ev]
           exact iw.t (bl.aI.sub _ _ (s2.g _ _ hg)) (bl.aI.sub _ _ aO)
         · exact h.elim
       · exact h.elim
     · exact h.elim
theorem V2 (hu:X.A.units + 64 < cLine) (ho:aS X F o m) (he:aS X F e n) (hs:x1 e):aS X F (.Subscript o e pos) (ah nD m n):=⟨aZ.imp (RJ (by omega) ho.1 he.1 hs) NK⟩
noncomputable def SI (F:bx):V→List V→ao→cW→Prop:=fun x vs H Q=>∃G d1 cC p y ds xs j,Sub G H∧x= .ref p∧vs=[y]∧At F.K G d1 y∧gD F.K G cC p false ds xs∧okN 7 d1=true∧ds.all (okN 7)=true∧ds.length < 1000000∧ds.findIdx? (fun z=>bA z d1)=some j∧Q (.int (j:Nat)) H
theorem JP {pins:List (Addr×Obj)} {σ :bb.St} {G H:ao} {s:Shared} (ae:Inv X pins σ H s) (a5:Sub G H) {d1:D} {ds:List D} {xs:List V} {its:List Value} (q:aN X.K G ds xs) (r:Vals xs its) (o:ds.all (okN 7)=true) {i:Nat} {d:D} {u:Value} (ar:ds[i]? =some d) (aG:its[i]? =some u):kz X.K G d1 u=bA d d1:=by
 obtain ⟨v,ev,bo⟩:=q.get ar
 have ho:okN 7 d=true:=List.all_eq_true.mp o d (List.mem_of_getElem? ar)
 have cq:RelV v u:=by
  obtain ⟨ih,nF,ej⟩:=r.get ev
  rw [aG] at nF; cases nF; exact ej
 exact x_ ae a5 ho ⟨v,bo,cq⟩
theorem Ql (hK:F.K=X.K) (hu:X.A.units + 64 < cLine):xZ X "list.index" (SI F):=by
 intro pins s σ H x vs v us Q ae bt cq h
 obtain ⟨G,d1,cC,p,y,ds,xs,j,a5,rfl,rfl,a1,gu,c1,cQ,hl,dx,q⟩:=h
 rw [hK] at a1 gu
 cases bt
 obtain ⟨u,rfl,ej⟩:=vals1 cq
 obtain ⟨its,av,t1,eJ⟩:=gu.heap ae a5
 have hm:=wo ae a5 (A:=X.A.in1) (d1:=d1) (by simp only [in1_units]; omega) c1 a1 ej gu.gR av cQ
 obtain ⟨⟨cls,dict,data,slots⟩,g1,g2,nn,g3⟩:=eJ rfl
 simp only at g2 g3
 subst g2 g3
 obtain ⟨hY,ar,aG⟩:=List.findIdx?_eq_some_iff_getElem.mp dx
 have vJ:its.length=ds.length:=by rw [←av.length,←gu.gR.length]
 have MZ:j < its.length:=by omega
 have Cm:∀(i:Nat) (h:i < ds.length),kz X.K G d1 (its[i]'(by omega))=bA ds[i] d1:=fun i h=>JP ae a5 gu.gR av cQ (List.getElem?_eq_getElem h) (List.getElem?_eq_getElem (by omega))
 have hy:s.TypeIs (.ref p) "list":=⟨_,g1,rfl⟩
 have Nh:(j:Int) < 2 ^ 63 - 1:=by
  have:(j:Int) < 1000000:=by omega
  omega
 refine call_meets PySem.F.slot_list_index hy PySem.F.entry_list_index (PySem.F.args_list_index_2 _ _) (SeqAt.list_indexAt p its.toArray nn dict slots u (kz X.K G d1) j (by simpa using MZ) Nh ?_ ?_) ⟨g1,fun w hw=>hm w (by simpa using hw),?_⟩
 · have:=Cm j hY
   rw [ar] at this
   simpa using this
 · intro k hk MV
   have z:=Cm k (by omega)
   have cM:=aG k MV
   rw [Bool.not_eq_true] at cM
   rw [cM] at z
   simpa using z
 · exact ⟨.int (j:Nat),H,ae.tok _,⟨_,rfl⟩,q⟩
noncomputable def zt:D→List D→R D
 | .lst ds,[d]=>if okN 7 d=true∧ds.all (okN 7)=true∧ds.length < 1000000 then match ds.findIdx? (fun z=>bA z d) with
   | some j=> .ok (.int (j:Nat))
   | none=> .bad
   else .bad
 | _,_=> .bad
noncomputable def nX (m:aE) (ma:bh):aE:=fun ρ=>(m ρ).bind fun d=>match d with
 | .lst ds=>(ma ρ).bind fun aq=>zt (.lst ds) aq
 | _=> .bad
theorem IY {apos bV:Pos} (hu:X.A.units + 64 < cLine) (ho:aS X F o m) (ha:e7 X F [e] ma) (hK:F.K=X.K:=by rfl)
  (hbase:attributeBase o "index" X.env (eval o X.env)=eval o X.env:=by rfl)
  (hfew:((backTo bV (starEach [e] X.env)).all (fun x=> !x.1) && (backToKw bV (keywordEach [] X.env)).all (fun x=>x.1.isSome)
    && decide (([e]:List Expr).length + ([]:List Keyword).length + (if ([]:List Keyword).isEmpty then 0 else 1) < 30))=true:=by rfl)
  (hline:(apos.endLine == bV.line)=true:=by rfl) (hs:starEach [e] X.env=(false,eval e X.env)::starEach [] X.env:=by rfl) (hplain:(backTo bV (starEach [] X.env)).any (·.1)=false:=by rfl) :
  aS X F (.Call (.Attribute o "index" apos) [e] [] bV) (nX m ma):=by
 refine ⟨aZ.imp (wL PySem.F.plainAttrs_list PySem.F.slot_list_index PySem.F.type_list_index (Ql (F:=F) hK hu) ho.1 ha.1 hbase hfew hline hs hplain) ?_⟩
 rintro σ H Q ⟨G,ρ,r,h⟩
 unfold nX at h
 refine ⟨G,ρ,r,?_⟩
 cases au:m ρ with
 | bad=>rw [au] at h; exact h.elim
 | exc c=>rw [au] at h; exact h
 | ok dd=>
   rw [au,R.bH] at h
   intro x H1 aQ av s1 bY
   cases dd with
   | lst ds=>
     simp only at h
     simp only [At] at bY
     obtain ⟨p,xs,rfl,hg,al⟩:=bY
     refine ⟨.inl ⟨rfl,xs,b4.of (av.aI.sub _ _ hg)⟩,aQ,ρ,av,?_⟩
     cases bE:ma ρ with
     | bad=>rw [bE] at h; exact h.elim
     | exc c=>rw [bE] at h; exact h
     | ok aq=>
       rw [bE,R.bH] at h
       intro vs aT c4 bl s2 cP
       unfold zt at h
       split at h
       · rename_i o1 d ar
         cases ar
         split at h
         · rename_i hc
           split at h
           · rename_i j hV
             obtain ⟨y,rfl,bo⟩:=cP.one
             exact ⟨c4,d,.lst ds,p,y,ds,xs,j,bl.aI.sub,rfl,rfl,bo,.lst (s2.g _ _ hg) (al.mono s2.g),hc.1,hc.2.1,hc.2.2,hV,h _ aT c4 bl (s1.trans s2) (by simp only [At])⟩
           · exact h.elim
         · exact h.elim
       · exact h.elim
   | _=>exact h.elim
end
end aD
set_option Elab.async false
set_option linter.all false
set_option maxRecDepth 100000
namespace aD
open PySem PySem.Spec bb
noncomputable def xx (K:PySem.W.Frag):c8→Str→ao→Prop:=fun E c H=>∃C,e4 K c C∧∀a,H a=none→E (.ref C) (some a) H
noncomputable def j2 (K:PySem.W.Frag) (G H:ao) (E:c8):bx:=⟨K,G,H,xx K E⟩
theorem Rel.j0 {F F':bx} {G H:ao} {σ :bb.St} {ρ:az} (r:Rel F G H σ ρ) (hK:F'.K=F.K) (h0:F'.b2=F.b2) (h1:F'.bw=F.bw):Rel F' G H σ ρ:=
 r.over hK ⟨r.aI.sub,by rw [h0]; exact r.aI.eC,by rw [h1]; exact r.aI.hh,fun b hb=>by rw [h1] at hb; rw [h0]; exact r.aI.new b hb⟩ (Sub.refl _) fun a ha=>⟨rfl,(r.foot ha).2.1,by rw [h1]; exact (r.foot ha).2.2⟩
noncomputable def mQ (m:ck):ck:=fun ρ=>fo (m ρ)
noncomputable def tg (m:aY):aY:=fun ρ=>fo (m ρ)
noncomputable def pC (m:bh):bh:=fun ρ=>fo (m ρ)
section
variable {K:PySem.W.Frag} {b2 bw:ao} {E:c8}
theorem PW {m:ck}:mb (fB (j2 K b2 bw E) (mQ m)) (fB (eP K b2 bw) m):=by
 rintro σ H Q ⟨G,ρ,r,h⟩
 unfold mQ at h
 refine ⟨G,ρ,r.j0 rfl rfl rfl,?_⟩
 cases e:m ρ with
 | bad=>rw [e] at h; exact h.elim
 | exc c=>rw [e] at h; exact h.elim
 | ok b=>rw [e] at h; exact fun H' G' bf u=>h H' G' (bf.j0 rfl rfl rfl) u
theorem PU {m:bh}:p1 (d8 (j2 K b2 bw E) (pC m)) (d8 (eP K b2 bw) m):=by
 rintro σ H Q ⟨G,ρ,r,h⟩
 unfold pC at h
 refine ⟨G,ρ,r.j0 rfl rfl rfl,?_⟩
 cases e:m ρ with
 | bad=>rw [e] at h; exact h.elim
 | exc c=>rw [e] at h; exact h.elim
 | ok b=>rw [e] at h; exact fun vs H' G' bf u a=>h vs H' G' (bf.j0 rfl rfl rfl) u a
theorem eb.j0 {F F':bx} {G H:ao} (k:eb F G H) (h0:F'.b2=F.b2) (h1:F'.bw=F.bw):eb F' G H:=⟨k.sub,by rw [h0]; exact k.eC,by rw [h1]; exact k.hh,fun b hb=>by rw [h1] at hb; rw [h0]; exact k.new b hb⟩
theorem PV {m:aY}:g8 (e1 (j2 K b2 bw E) (tg m)) (e1 (eP K b2 bw) m):=by
 rintro cJ σ H ⟨G,ρ,r,h⟩
 unfold tg at h
 refine ⟨G,ρ,r.j0 rfl rfl rfl,?_⟩
 cases e:m ρ with
 | bad=>rw [e] at h; exact h.elim
 | exc c=>rw [e] at h; exact h.elim
 | ok f=>
   rw [e] at h
   cases f with
   | aV ρ'=>exact fun σ' G' H' bf s=>h σ' G' H' (bf.j0 rfl rfl rfl) s
   | ee ρ'=>exact fun σ' G' H' bf s=>h σ' G' H' (bf.j0 rfl rfl rfl) s
   | cL ρ'=>exact fun σ' G' H' bf s=>h σ' G' H' (bf.j0 rfl rfl rfl) s
   | dN d=>exact fun v G' H' k a=>h v G' H' (k.j0 rfl rfl) a
   | kl ds=>exact fun a xs G' H' k h1 h2 h3 h4=>h a xs G' H' (k.j0 rfl rfl) h1 h2 h3 h4
   | lV t=>exact fun v G' H' k q=>h v G' H' (k.j0 rfl rfl) ⟨q.at_,q.bg,q.own⟩
end
section
variable {X:aL} {e c:Expr} {aq:List Expr} {st:Stmt} {pos p:Pos} {K:PySem.W.Frag} {b2 bw:ao} {E:c8} {mt:ck} {ms:aY} {ma:bh}
theorem Vv {t:TT} (h:eO X.gL e t):eO X e t:=fun pins s σ H Q ae q=>wpAny_mono (h pins s σ H Q (ae.jl _) q) (fun _ s' ⟨H',bJ,z⟩=>⟨H',bJ.ij,z⟩) fun _ _ z=>z.elim
theorem Vt {t:eA} (h:eN X.gL aq t):eN X aq t:=fun pos pins s σ H Q ae q=>wpAny_mono (h pos pins s σ H Q (ae.jl _) q) (fun _ s' ⟨vs,H',bJ,r,z⟩=>⟨vs,H',bJ.ij,r,z⟩) fun _ _ z=>z.elim
theorem Vu {t:eB} (h:dj X.gL st t):dj X st t:=fun pins s σ H D ae q=>wpAny_mono (h pins s σ H D (ae.jl _) q) (fun f s' z=>by
 cases f with
 | next=>obtain ⟨σ',H',bJ,z⟩:=z; exact ⟨σ',H',bJ.ij,z⟩
 | brk=>obtain ⟨σ',H',bJ,z⟩:=z; exact ⟨σ',H',bJ.ij,z⟩
 | cont=>obtain ⟨σ',H',bJ,z⟩:=z; exact ⟨σ',H',bJ.ij,z⟩
 | ret v=>obtain ⟨x,σ',H',bJ,z⟩:=z; exact ⟨x,σ',H',bJ.ij,z⟩) fun _ _ z=>z.elim
theorem I5 (h:e8 X.gL (eP K b2 bw) e mt):e8 X (j2 K b2 bw E) e (mQ mt):=⟨fun pins s σ H Q ae q=>Vv h.1 pins s σ H Q ae (PW σ H Q q)⟩
theorem Wk (h:e7 X.gL (eP K b2 bw) aq ma):e7 X (j2 K b2 bw E) aq (pC ma):=⟨fun pos pins s σ H Q ae q=>Vt h.1 pos pins s σ H Q ae (PU σ H Q q)⟩
theorem Wl (h:eV X.gL (eP K b2 bw) st ms):eV X (j2 K b2 bw E) st (tg ms):=⟨fun pins s σ H D ae q=>Vu h.1 pins s σ H D ae (PV D σ H q)⟩
end
structure p2 (P:Program) (w:World) (K:PySem.W.Frag) (mg:Str→Option Value) (base:Heap) (x:Str) (n k:Nat) (mf:List D→R bR):Prop where
 ex:∃(f:Addr) (fd:FuncData) (aM:List Str),aM.length=n∧g7 P w K mg base (gb P w) k f fd aM (mU K n (xx K) mf)∧mg x=some (.ref f)∧PySem.W.keepIn K (.ref f)=true∧Binds K fd aM []
structure xP (K:PySem.W.Frag) (mg:Str→Option Value) (c:Str):Prop where
 ex:∃C,e4 K c C∧mg c=some (.ref C)∧PySem.W.excIn K C [.type "ValueError",.type "Exception",.type "BaseException",.type "object"] "ValueError.__new__"=true
noncomputable def zK (c:Str):aY:=fun _=> .exc c
section
variable {P:Program} {w:World} {K:PySem.W.Frag} {mg:Str→Option Value} {base:Heap} {N:List Str} {qual:Str} {scope:Scope} {f:Addr} {cd:Value} {A:Around} {outer:List Env} {s0:Shared} {hD:ao} {E:c8} {b2 bw:ao}
theorem I9 {x:Str} {np bV pos my:Pos} {m:Str} {j:Nat} (k:xP K mg x) (hg:cN (eE (gb P w) P w K mg base N qual scope f cd A outer s0 hD E) x:=by rfl) (hd:(x == ("__debug__" :Str))=false:=by decide) :
  eV (eE (gb P w) P w K mg base N qual scope f cd A outer s0 hD E) (j2 K b2 bw E) (.Raise (some (.Call (.Name x np) [.Constant (.str m) j my] [] bV)) none pos) (zK x):=by
 obtain ⟨C,h1,h2,h3⟩:=k.ex
 refine ⟨fun pins s σ H D ae q=>Si (X:=eE (gb P w) P w K mg base N qual scope f cd A outer s0 hD E) PySem.F.excBase_ValueError h3 h2 rfl hg hd pins s σ H D ae ?_⟩
 obtain ⟨G,ρ,r,h⟩:=q
 obtain ⟨jo,bD,c_⟩:=(show ke (j2 K b2 bw E) x from h) G H r.aI
 have:jo=C:=by
  unfold e4 at bD h1
  rw [h1] at bD
  cases bD; rfl
 subst this
 exact V_ c_
theorem VY {x:Str} {n k:Nat} {mf:List D→R bR} {e:Expr} {aq:List Expr} {ma:bh} {pos p:Pos} (c:p2 P w K mg base x n k mf) (hr:dv k (eE (gb P w) P w K mg base N qual scope f cd A outer s0 hD E).A) (ha:e7 (eE (gb P w) P w K mg base N qual scope f cd A outer s0 hD E) (j2 K b2 bw E) (e::aq) ma)
  (hg:cN (eE (gb P w) P w K mg base N qual scope f cd A outer s0 hD E) x:=by rfl) (hdb:(x == ("__debug__" :Str))=false:=by decide)
  (he:starEach (e::aq) (eE (gb P w) P w K mg base N qual scope f cd A outer s0 hD E).env=(false,eval e (eE (gb P w) P w K mg base N qual scope f cd A outer s0 hD E).env)::starEach aq (eE (gb P w) P w K mg base N qual scope f cd A outer s0 hD E).env:=by rfl)
  (hpl:(backTo pos (starEach aq (eE (gb P w) P w K mg base N qual scope f cd A outer s0 hD E).env)).any (·.1)=false:=by rfl) :
  aS (eE (gb P w) P w K mg base N qual scope f cd A outer s0 hD E) (j2 K b2 bw E) (.Call (.Name x p) (e::aq) [] pos) (bc n mf ma):=by
 obtain ⟨DB,fd,aM,aC,jz,hm,hk,hb⟩:=c.ex
 exact ⟨aZ.imp (wM (X:=eE (gb P w) P w K mg base N qual scope f cd A outer s0 hD E) jz hr hg hm hk hb .nil RB ha.1 hdb he hpl) (Fb (F:=j2 K b2 bw E) (xe:=xx K) (E:=E) rfl)⟩
end
theorem IW {P:Program} {w:World} {K:PySem.W.Frag} {mg:Str→Option Value} {base:Heap} {x:Str} {st:Stmt} {N aM:List Str} {k:Nat} {m:aY} (d:dq K mg x st aM) (S:cV N aM (bW st))
  (h:∀(f:Addr) (cn:Value) (A:Around) (outer:List Env) (s:Shared) (H:ao) (E:c8),dv k (A.deeper (PyProof.Rows.envOfC x (bW st) s.heap.objs.size f cn))→∀b2 bw,iD (eE (gb P w) P w K mg base N x (bW st) f cn A outer s H E) (j2 K b2 bw E) (fI st) m) :
  p2 P w K mg base x aM.length (k + 1) (c5 N.length m):=by
 obtain ⟨f,fd,fn,hm,hb⟩:=d.ex
 refine ⟨f,fd,aM,rfl,?_,hm,fn.aI,hb⟩
 obtain ⟨eT,dM,cX,doc,pm,an,cn,cL,kT,rfl,lk,hcd⟩:=fn.ex
 refine Et lk hcd S xa fun A outer s H vs Q E hr hs=>?_
 obtain ⟨G,ht⟩:=u_ hs
 exact ⟨_,(h f cn A outer s H E hr G H).1,ht⟩
noncomputable def pg (n:Nat) (mf:List D→R bR) (m:bh):aE:=fun ρ=>(m ρ).bind fun ds=>if ds.length=n then (fo (mf ds)).bind kW else .bad
section
variable {X:aL} {F:bx} {e:Expr} {aq:List Expr} {pos p:Pos} {ma:bh}
theorem RC {P:Program} {w:World}:Passes (gb P w) X (fun _ _ _=>False):=fun _ _ _ _ _ _ _ h=>by
 obtain ⟨_,_,_,_,_,_,_,z⟩:=h
 exact z.elim
theorem ND {n:Nat} {mf:List D→R bR} {m:bh} {xe:c8→Str→ao→Prop} {E:c8}:ez (cR F (pg n mf m)) (ri (mU F.K n xe mf) [] E (d8 F m)):=by
 rintro σ H Q ⟨G,ρ,r,h⟩
 unfold pg at h
 refine ⟨G,ρ,r,?_⟩
 cases au:m ρ with
 | bad=>rw [au] at h; exact h.elim
 | exc c=>rw [au] at h; exact h
 | ok ds=>
   rw [au,R.bH] at h
   intro vs H1 aQ av s1 a
   by_cases aC:ds.length=n
   · rw [if_pos aC] at h
     rw [List.append_nil]
     refine ⟨aQ,ds,av.aI.sub,a,aC,?_⟩
     cases e:mf ds with
     | bad=>rw [e] at h; exact h.elim
     | exc c=>rw [e] at h; exact h.elim
     | ok t=>
       rw [e] at h
       have h:iO F G H σ ρ Q (kW t):=h
       cases t with
       | v d=>exact fun v G' H' k bo=>h v H' G' (eb.of av k) (s1.trans ⟨k.eC,k.hh,k.new⟩) bo
       | o aq=>
         intro p xs G' H' k h1 h2 h3 h4
         have h2:H1 p=none:=h2
         have bf:=eb.of av k
         have no:¬ dK H' σ ρ p:=dK.fresh av k.hh h2
         refine h (.ref p) H' _ (bf.take h3 h1 (av.aI.hh.gone h2) no) ((s1.trans ⟨k.eC,k.hh,k.new⟩).put (s1.h.gone h2) h1) ?_
         simp only [At]
         exact ⟨p,xs,rfl,en,h4.mono (Sub.upd h1)⟩
       | t t=>
         intro v G' H' k q
         obtain ⟨a1,a2,fY⟩:=(eb.of av k).Bt (F':=⟨F.K,aQ,H1,xe E⟩) rfl q (s1.trans ⟨k.eC,k.hh,k.new⟩) fun b hb=>⟨s1.h.gone (q.own b hb).2,av.aI.hh.gone (q.own b hb).2,dK.fresh av k.hh (q.own b hb).2⟩
         exact h v H' _ a1 a2 fY
   · rw [if_neg aC] at h; exact h.elim
theorem VX {x:Str} {n k:Nat} {mf:List D→R bR} (c:p2 X.prog X.w X.K X.mg X.base x n k mf) (hr:dv k X.A) (ha:e7 X F (e::aq) ma) (hK:F.K=X.K:=by rfl) (hg:cN X x:=by rfl) (hdb:(x == ("__debug__" :Str))=false:=by decide)
  (he:starEach (e::aq) X.env=(false,eval e X.env)::starEach aq X.env:=by rfl) (hpl:(backTo pos (starEach aq X.env)).any (·.1)=false:=by rfl):aS X F (.Call (.Name x p) (e::aq) [] pos) (pg n mf ma):=by
 obtain ⟨f,fd,aM,aC,jz,hm,hk,hb⟩:=c.ex
 refine ⟨aZ.imp (wM jz hr hg hm hk hb .nil RC ha.1 hdb he hpl) ?_⟩
 rw [←hK]
 exact ND
end
end aD
set_option Elab.async false
set_option linter.all false
set_option maxRecDepth 100000
namespace bb
open PySem PySem.Spec PySem.Calls PyProof.Rows PySem.W PySem.Builtin PySem.Builtin.ObjectAttr PySem.Builtin.Getset_descriptor
noncomputable def ExcAt (a D:Addr) (h:Heap):Prop:=∃o,h.get? a=some o∧o.cls= .ref D
theorem ExcAt.ty {M:Model} {a D:Addr} {h:Heap} (p:ExcAt a D h):Looks M h (typeOf (.ref a)) (.ref D):=by
 obtain ⟨o,h1,h2⟩:=p
 rw [←h2]
 exact (Looks.ld h1).andThen .now
structure t8 (K:Frag) (D:Addr):Prop where
 ga:findIn K (.ref D) "__getattribute__"=some (some (.builtin "BaseException.__getattribute__"))
 Ms:findIn K (.ref D) "__getattr__"=some none
 cl:findIn K (.ref D) "__class__"=some (some (.builtin "object.__class__"))
 kX:subIn K (.ref D) (.type "BaseException")=some true
 mo:mroIn K D (.type "object")=some true
 cL:(clsIn K D).isSome=true
section
variable {prog:Program} {w:World} {A:Around} {E:Value→Shared→Prop} {s:Shared} {K:Frag} {a D:Addr}
theorem L7 {R:Result→Shared→Prop} (X:K.In s.heap) (p:ExcAt a D s.heap) (f:t8 K D) (h:R (.ok (.ret (.ref D))) s) :
  codeAny (model prog w) A (.call (.builtin "getset_descriptor.__get__") ⟨[.builtin "object.__class__",.ref a,.ref D],[]⟩) R s:=by
 obtain ⟨hh,g,Dl,t,os⟩:=s
 have ub:=p.ty (M:=model prog w)
 have rH:=looks_mroIn (M:=model prog w) X f.mo
 refine codeAny_call_builtin KF.slot_gs.plain KF.entry_gs
  (KF.slot_gs.check _ _ _ _ _ _ _ _ KF.type_class
    (KF.args_gs _ _ _) ?_)
 unfold Builtin.«getset_descriptor.__get__» descrGet
 rw [dga_obj]
 refine wpAny_bind (wpAny_pure ?_)
 unfold descrGetter descrCheckInstance descrNameAndClass isInstance
 simp only [KF.owner_class]
 repeat lk
 refine ⟨Code.quiet_builtin _ (by decide +kernel),codeAny_builtin KF.entry_class ?_⟩
 unfold Builtin.«object.__class__» shownTypeOf
 repeat lk
 exact h
theorem L6 {Q:Option Value→Shared→Prop} (X:K.In s.heap) (p:ExcAt a D s.heap) (f:t8 K D) (hs:specialIn K (.builtin "object.__class__") "__get__"=some (some (.builtin "getset_descriptor.__get__"))) (ht:takesIn K (.builtin "object.__class__")=some true)
  (h:Q (some (.ref D)) { s with toks:=s.toks + 1 }):wpAny (model prog w) A (getAttr? (.ref a) "__class__") Q E s:=by
 obtain ⟨hh,g,Dl,t,os⟩:=s
 have ub:=p.ty (M:=model prog w)
 have rH:=looks_findIn (M:=model prog w) X f.ga
 have bb:=looks_findIn (M:=model prog w) X f.Ms
 have aD:=looks_findIn (M:=model prog w) X f.cl
 have Jt:=looks_subIn (M:=model prog w) X f.kX
 have Ju:=looks_specialIn (M:=model prog w) X hs
 have Jw:Looks (model prog w) hh (isInstance (.ref a) (.type "BaseException")) true:=ub.andThen Jt
 have Jv:Looks (model prog w) hh (find (.ref a) (.ref D) "__class__") (.bind (.builtin "getset_descriptor.__get__") (.builtin "object.__class__")):=by
  have LT:=looks_takesIn (M:=model prog w) X ht
  intro Ji mm B0 s' k q
  unfold find getOf dataDescriptor?
  refine wpAny_bind (aD _ _ _ _ k (wpAny_bind (Ju _ _ _ _ k ?_)))
  refine wpAny_bind (wpAny_bind (LT _ _ _ _ k ?_))
  exact wpAny_pure (wpAny_bind (wpAny_rule (wpAny_pure q)))
 unfold getAttr? getAttrBy? getAttrBy
 refine wpAny_bind (wpAny_mkText (wpAny_bind (wpAny_attempt (wpAny_holding (wpAny_bind (ub.at (wpAny_bind (rH.at ?_))))))))
 show wpAny _ _ (getAttrByItsOwn _ _ _ _ _ _) _ _ _
 unfold getAttrByItsOwn hookBefore
 refine wpAny_bind (bb.at ?_)
 refine wpAny_bind (wpAny_attempt (wpAny_holding ?_))
 show wpAny _ _ (boundAndCalled _ _ _) _ _ _
 unfold boundAndCalled
 rw [PySem.F.excAttr_ValueError.ga.bind (.ref a)]
 refine wpAny_bind (wpAny_pure ?_)
 refine wpAny_call (codeAny_call_builtin PySem.F.excAttr_ValueError.ga.plain PySem.F.entry_bexc_ga ?_)
 have hk:builtinKind "BaseException.__getattribute__"=some .slot:=by decide +kernel
 have hp:splitId "BaseException.__getattribute__"=some ("BaseException","__getattribute__"):=by decide +kernel
 have ha:=PySem.F.args_bexc_ga (.ref a) (.str "__class__" t)
 show wpAny _ _ (checkBuiltinCall "BaseException.__getattribute__" ⟨[.ref a,.str "__class__" t],[]⟩) _ _ _
 simp only [checkBuiltinCall,hk,hp]
 refine wpAny_bind (Jw.at ?_)
 simp only [Bool.not_true,Bool.false_eq_true,if_false]
 cases EX:Manifest.signature? "BaseException.__getattribute__" with
 | none=>exact absurd EX (by decide +kernel)
 | some a5=>
   simp only [argsOk,EX] at ha
   have h2:Bind.checkArgs "BaseException.__getattribute__" a5 ⟨[.ref a,.str "__class__" t],[]⟩=pure ():=ha
   show wpAny _ _ (Bind.checkArgs "BaseException.__getattribute__" a5 ⟨[.ref a,.str "__class__" t],[]⟩) _ _ _
   rw [h2]
   refine wpAny_pure ?_
   unfold Builtin.«object.__getattribute__»
   refine wpAny_bind (wpAny_pure ?_)
   refine wpAny_bind (wpAny_pure ?_)
   refine wpAny_bind (ub.at (wpAny_bind (Jv.at ?_)))
   show wpAny _ _ (do ret (←holding [Value.builtin "object.__class__"] (call (.builtin "getset_descriptor.__get__") [.builtin "object.__class__",.ref a,.ref D]))) _ _ _
   refine wpAny_bind (wpAny_holding (wpAny_call (L7 (s:=⟨hh,g,Dl,t + 1,os⟩) X p f ?_)))
   refine wpAny_pure ?_
   exact wpAny_pure (wpAny_pure h)
theorem Pg (f:t8 K D) (hs:specialIn K (.builtin "object.__class__") "__get__"=some (some (.builtin "getset_descriptor.__get__"))) (ht:takesIn K (.builtin "object.__class__")=some true):KitX K (.ref a) (.ref D) (ExcAt a D) where
 ty:=fun _ _ _ p=>p.ty
 it:=fun _ _ X _=>by
  have hc:=f.cL
  unfold clsIn at hc
  split at hc
  · rename_i c1 cQ QF QG ho
    intro Ji mm B0 s' k q
    unfold isType loadHead
    refine wpAny_bind ?_
    exact wpAny_loadPart (k _ _ (X _ _ ho)) (wpAny_pure q)
  · cases hc
 ne:=fun h m3 dd its n cB X Nk=>by
  refine Bool.eq_false_iff.mpr fun q=>?_
  have e:D=m3:=by
   have:=beq_iff_eq.mp q
   cases this; rfl
  subst e
  have hc:=f.cL
  unfold clsIn at hc
  split at hc
  · rename_i c1 cQ QF QG ho
    have z:=(X _ _ ho).symm.trans Nk
    cases z
  · cases hc
 ca:=fun X p h=>L6 X p f hs ht h
end
end bb
namespace aD
open PySem PySem.Spec bb
structure rF (K:PySem.W.Frag) (vc:Value) (tab:List (Str×Bool)):Prop where
 sp:PySem.W.specialIn K (.builtin "object.__class__") "__get__"=some (some (.builtin "getset_descriptor.__get__"))
 du:PySem.W.takesIn K (.builtin "object.__class__")=some true
 ex:∀c b,tab.lookup c=some b→∃C,e4 K c C∧t8 K C∧PySem.W.kitOne K (.ref C) vc=some b
noncomputable def iN (tab:List (Str×Bool)):D→R D
 | .gj c=>match tab.lookup c with
   | some b=> .ok (.aw b)
   | none=> .bad
 | _=> .bad
section
variable {X:aL} {F:bx} {a:Expr} {pos p:Pos} {m:aE}
noncomputable def G5 (F:bx) (tab:List (Str×Bool)) (vU:V):List V→ao→cW→Prop:=fun xs H Q=>∃G x c b,Sub G H∧xs=[x,vU]∧At F.K G (.gj c) x∧tab.lookup c=some b∧Q (.aw b) H
theorem CU {tab:List (Str×Bool)} {vU:V} {vc:Value} (hK:F.K=X.K) (hv:∀u,RelV vU u→u=vc) (t:rF X.K vc tab):jq X (.builtin "isinstance") (G5 F tab vU):=by
 intro pins s σ H xs us Q ae r h
 obtain ⟨G,x,c,b,a5,rfl,bo,hb,q⟩:=h
 obtain ⟨u,ey,rfl,bt,ej⟩:=vals2 r
 have:=hv ey ej
 subst this
 rw [hK] at bo
 simp only [At] at bo
 obtain ⟨a,xs,rfl,⟨C,bD,ga⟩,_⟩:=bo
 cases bt
 obtain ⟨jo,c_,f,k⟩:=t.ex c b hb
 have e:jo=C:=by
  unfold e4 at bD c_
  rw [bD] at c_; cases c_; rfl
 subst e
 have ok:ExcAt a jo s.heap:=by
  obtain ⟨⟨o,h1,h2⟩,_⟩:=(show e5 X.prog X.w H s.heap a (o5 a (.ref jo)) from ae.bB a _ (a5 _ _ ga))
  exact ⟨o,h1,h2⟩
 exact PySem.W.kia_one (Pg f t.sp t.du) ae.e_ ok k (fun z=>nomatch z) fun du=>⟨.aw _,H,ae.tok du,rfl,q⟩
theorem Fg {tab:List (Str×Bool)} {vU:V}:ez (cR F (ct (iN tab) m)) (tC (G5 F tab vU) (tD (cR F m) (tD (om vU) Bo))):=by
 rintro σ H Q ⟨G,ρ,r,h⟩
 unfold ct at h
 refine ⟨G,ρ,r,?_⟩
 cases au:m ρ with
 | bad=>rw [au] at h; exact h.elim
 | exc c=>rw [au] at h; exact h
 | ok d=>
   rw [au,R.bH] at h
   intro x H1 aQ av s1 bY
   cases d with
   | gj c=>
     simp only [iN] at h
     split at h
     · rename_i b hb
       exact ⟨aQ,x,c,b,av.aI.sub,rfl,bY,hb,h _ H1 aQ av s1 (by simp only [At])⟩
     · exact h.elim
   | _=>exact h.elim
theorem V6 {U:Str} {ni:Addr} {tab:List (Str×Bool)} {b7:Pos} (t:rF X.K (.ref ni) tab) (hm:X.mg "isinstance"=none) (hmU:X.mg U=some (.ref ni)) (ha:aS X F a m) (hK:F.K=X.K:=by rfl) (hg:cN X "isinstance":=by rfl) (hgU:cN X U:=by rfl) (hdU:(U == ("__debug__" :Str))=false:=by decide)
  (hs2:starEach [.Name U b7] X.env=(false,eval (.Name U b7) X.env)::starEach [] X.env:=by rfl)
  (he:starEach [a,.Name U b7] X.env=(false,eval a X.env)::starEach [.Name U b7] X.env:=by rfl) (hpl:(backTo pos (starEach [.Name U b7] X.env)).any (·.1)=false:=by rfl) :
  aS X F (.Call (.Name "isinstance" p) [a,.Name U b7] [] pos) (ct (iN tab) m):=by
 have hb:bootBuiltins "isinstance"=some (.builtin "isinstance"):=by kernel_rfl
 exact ⟨aZ.imp (wN (CU (F:=F) (vU:= .ref ni) hK (fun u r=>by cases r; rfl) t) hg hm hb (kU ha.1 (kU (GG hgU hmU (v:= .ref ni) rfl hdU) n7 hs2) he) (by decide) (by decide) he hpl) Fg⟩
theorem V5 {tab:List (Str×Bool)} {b7:Pos} (t:rF X.K (.type "ValueError") tab) (hm:X.mg "isinstance"=none) (hmU:X.mg "ValueError"=none) (ha:aS X F a m) (hK:F.K=X.K:=by rfl) (hg:cN X "isinstance":=by rfl) (hgU:cN X "ValueError":=by rfl)
  (hs2:starEach [.Name "ValueError" b7] X.env=(false,eval (.Name "ValueError" b7) X.env)::starEach [] X.env:=by rfl)
  (he:starEach [a,.Name "ValueError" b7] X.env=(false,eval a X.env)::starEach [.Name "ValueError" b7] X.env:=by rfl) (hpl:(backTo pos (starEach [.Name "ValueError" b7] X.env)).any (·.1)=false:=by rfl) :
  aS X F (.Call (.Name "isinstance" p) [a,.Name "ValueError" b7] [] pos) (ct (iN tab) m):=by
 have hb:bootBuiltins "isinstance"=some (.builtin "isinstance"):=by kernel_rfl
 exact ⟨aZ.imp (wN (CU (F:=F) (vU:= .ty "ValueError") hK (fun u r=>r) t) hg hm hb (kU ha.1 (kU (GC hgU hmU (by kernel_rfl) (v:= .ty "ValueError") rfl) n7 hs2) he) (by decide) (by decide) he hpl) Fg⟩
noncomputable def xo (i:Nat):l9→R l9
 | .aV ρ=> .ok (.aV (ρ.set i .un))
 | .ee ρ=> .ok (.ee (ρ.set i .un))
 | .cL ρ=> .ok (.cL (ρ.set i .un))
 | f=> .ok f
noncomputable def qR (i:Nat) (cs:List Str) (n:Nat) (mf:List D→R bR) (ma:bh) (ms:aY):aY:=fun ρ=>(fo (ma ρ)).bind fun ds=>if ds.length=n∧i < ρ.length then match mf ds with
  | .ok _=> .ok (.aV ρ)
  | .exc c=>if cs.contains c=true then (fo (ms (ρ.set i (.J (.gj c))))).bind (xo i) else .bad
  | .bad=> .bad
 else .bad
structure Cb (K:PySem.W.Frag) (mg:Str→Option Value) (W:Str) (cs:List Str):Prop where
 ex:∃tW,mg W=some (.ref tW)∧∀c,cs.contains c=true→∃C,e4 K c C∧PySem.W.exmOne K (.ref C) (.ref tW)=some true
theorem Rel.yl {G H:ao} {σ :bb.St} {ρ:az} (r:Rel F G H σ ρ) (i:Nat):Rel F G H (σ.set i none) (ρ.set i .un):=by
 by_cases hi:i < ρ.length
 · exact r.tv hi trivial fun _ f=>f.elim
 · rw [List.set_eq_of_length_le (by rw [r.len]; omega),List.set_eq_of_length_le (by omega)]; exact r
theorem Ws (i:Nat) {x W nm:Str} {n k:Nat} {cs:List Str} {mf:List D→R bR} {ma:bh} {ms:aY} {e rW:_} {aq:List Expr} {tB:List Stmt} {p bV pF np M_:Pos} (hN:X.N.Nodup) (c:p2 X.prog X.w X.K X.mg X.base x n k mf) (hr:dv k X.A) (t:Cb X.K X.mg W cs)
  (ha:e7 X.gL F (e::aq) ma) (hs:∀a,iD (X.marked a) F (rW::tB) ms) (hK:F.K=X.K:=by rfl) (lG:F.g6=fun _ _=>False:=by rfl)
  (hi:X.N[i]? =some nm:=by rfl) (hl:X.env.scope.names.lookup nm=some .local:=by rfl) (hst:X.stack=X.env::X.outer:=by rfl) (lI:X.env.frame=some X.env.locals:=by rfl) (hex:X.ex=[]:=by rfl)
  (hg:cN X x:=by rfl) (MO:cN X W:=by rfl) (y7:(x == ("__debug__" :Str))=false:=by decide) (hd:(W == ("__debug__" :Str))=false:=by decide) (kI:swapsWith (.Call (.Name x p) (e::aq) [] bV) none pF.line X.env=pure false:=by rfl)
  (he:starEach (e::aq) X.env=(false,eval e X.env)::starEach aq X.env:=by rfl) (hpl:(backTo bV (starEach aq X.env)).any (·.1)=false:=by rfl) :
  eV X F (.Try [.Expr (.Call (.Name x p) (e::aq) [] bV) pF] [.ExceptHandler (some (.Name W np)) (some nm) (rW::tB) M_] [] [] pos) (qR i cs n mf ma ms):=by
 obtain ⟨f,fd,aM,aC,jz,hm,hk,hb⟩:=c.ex
 obtain ⟨tW,si,EN⟩:=t.ex
 refine ⟨fun pins s σ H cJ ae q=>?_⟩
 obtain ⟨G,ρ,r,h⟩:=q
 let E:c8:=fun C W6 H'=>∃(bu:Str) (nh:Addr) (G':ao) (ds:List D),C= .ref nh∧e4 X.K bu nh∧cs.contains bu=true∧ma ρ= .ok ds∧mf ds= .exc bu∧Rel F G' H' σ ρ∧Sub G G'
 have zd:∀C a H,E C a H→PySem.W.exmOne X.K C (.ref tW)=some true:=fun C a H' ⟨bu,nh,G',ds,ar,aG,cM,_⟩=>by
  obtain ⟨tV,bD,c_⟩:=EN bu cM
  have:tV=nh:=by
   unfold e4 at bD aG
   rw [aG] at bD; cases bD; rfl
  subst ar this
  exact c_
 refine Sj (E:=E) (te:=ri (mU F.K n (xx F.K) mf) [] E (d8 F ma)) (ts:=e1 F ms) hN (RX (by rw [hK]; exact jz) hr hg hm hk hb ha.1 y7 he hpl) si zd (fun a=>(hs a).1) hi hl hst lI hex MO hd kI pins s σ H cJ ae ⟨?_,?_⟩
 · refine ⟨G,ρ,r,?_⟩
   unfold qR at h
   cases au:ma ρ with
   | bad=>rw [au] at h; exact h.elim
   | exc c=>rw [au] at h; exact h.elim
   | ok ds=>
     rw [au] at h
     have h:gZ F G cJ (if ds.length=n∧i < ρ.length then match mf ds with
      | .ok _=> .ok (.aV ρ)
      | .exc c=>if cs.contains c=true then (fo (ms (ρ.set i (.J (.gj c))))).bind (xo i) else .bad
      | .bad=> .bad else .bad):=h
     intro vs H1 aQ av s1 bo
     by_cases hd:ds.length=n∧i < ρ.length
     · rw [if_pos hd] at h
       rw [List.append_nil]
       refine ⟨aQ,ds,av.aI.sub,bo,hd.1,?_⟩
       cases em:mf ds with
       | bad=>rw [em] at h; exact h.elim
       | exc bu=>
         rw [em] at h
         simp only at h
         by_cases hc:cs.contains bu=true
         · intro G' H' cp
           obtain ⟨tV,bD,c_⟩:=EN bu hc
           rw [hK]
           exact ⟨tV,bD,fun a _=>⟨bu,tV,G',ds,rfl,bD,hc,au,em,eb.of av cp,s1.g.trans cp.eC⟩⟩
         · rw [if_neg hc] at h; exact h.elim
       | ok tt=>
         rw [em] at h
         cases tt with
         | v d=>exact fun v G' H' cp _=>h σ G' H' (eb.of av cp) (s1.g.trans cp.eC)
         | o aq=>exact fun a xs G' H' cp _ _ _ _=>h σ G' H' (eb.of av cp) (s1.g.trans cp.eC)
         | t fN=>exact fun v G' H' cp _=>h σ G' H' (eb.of av cp) (s1.g.trans cp.eC)
     · rw [if_neg hd] at h; exact h.elim
 · rintro C a H' ⟨bu,nh,G',ds,rfl,bD,hc,au,em,bf,s'⟩ hp
   unfold qR at h
   rw [au] at h
   have h:gZ F G cJ (if ds.length=n∧i < ρ.length then match mf ds with
     | .ok _=> .ok (.aV ρ)
     | .exc c=>if cs.contains c=true then (fo (ms (ρ.set i (.J (.gj c))))).bind (xo i) else .bad
     | .bad=> .bad else .bad):=h
   by_cases hd:ds.length=n∧i < ρ.length
   · rw [if_pos hd,em] at h
     simp only at h
     rw [if_pos hc] at h
     have b0:=(bf.lay (o:=o5 a (.ref nh)) hp).set (d:= .gj bu) (v:= .ref a) hd.2 (by
      simp only [At]
      exact ⟨a,[],rfl,⟨nh,by rw [hK]; exact bD,en⟩,rfl⟩)
     have Bi:Sub G (upd G' a (o5 a (.ref nh))):=s'.trans (Sub.upd (bf.aI.sub.gone hp))
     refine ⟨_,_,b0,?_⟩
     cases yD:ms (ρ.set i (.J (.gj bu))) with
     | bad=>rw [yD] at h; exact h.elim
     | exc c=>rw [yD] at h; exact h.elim
     | ok gm=>
       rw [yD] at h
       cases gm with
       | aV ρ'=>exact fun σ2 c4 aT bl s2=>h (σ2.set i none) c4 aT (bl.yl i) (Bi.trans s2)
       | ee ρ'=>exact fun σ2 c4 aT bl s2=>h (σ2.set i none) c4 aT (bl.yl i) (Bi.trans s2)
       | cL ρ'=>exact fun σ2 c4 aT bl s2=>h (σ2.set i none) c4 aT (bl.yl i) (Bi.trans s2)
       | dN d=>exact h
       | kl d=>exact h
       | lV d=>exact h
   · rw [if_neg hd] at h; exact h.elim
end
end aD
set_option Elab.async false
set_option linter.all false
set_option maxRecDepth 100000
namespace aD
open PySem PySem.Spec bb
noncomputable def pI:D→D→R D
 | .lst xs,.int k=>if 0≤k∧k≤1000∧xs.length≤100 then .ok (.lst (List.replicate k.toNat xs).flatten) else .bad
 | _,_=> .bad
theorem aN.rep {K:PySem.W.Frag} {G:ao} {ds:List D} {xs:List V} (q:aN K G ds xs):∀n:Nat,aN K G (List.replicate n ds).flatten (List.replicate n xs).flatten
 | 0=>by simpa using aN.nil
 | n + 1=>by
   rw [List.replicate_succ,List.replicate_succ,List.flatten_cons,List.flatten_cons]
   exact q.append (aN.rep q n)
section
variable {X:aL} {F:bx} {a b:Expr} {pos p:Pos} {m n:aE}
theorem Q2:ft F G_ pI:=by
 intro σ ρ G H x y a4 fz Q r bY cP k
 unfold pI at k
 split at k
 · rename_i xs j
   split at k
   · rename_i hc
     simp only [At] at bY cP
     obtain ⟨l,vs,rfl,hl,al⟩:=bY
     refine ⟨l,j,vs,rfl,cP,r.aI.sub _ _ hl,by omega,by omega,?_,fun q aO=>?_⟩
     · rw [←al.length]
       have h1:j.toNat≤1000:=by omega
       exact Nat.le_trans (Nat.mul_le_mul hc.2.2 h1) (by decide)
     · refine k (.ref q) _ _ (r.lay aO) (cz.lay r.aI.sub aO) ?_
       simp only [At]
       exact ⟨q,_,rfl,en,(al.mono (Sub.upd (r.aI.sub.gone aO))).rep j.toNat⟩
   · exact k.elim
 · exact k.elim
theorem I2 (ha:aS X F a m) (hb:aS X F b n):aS X F (.BinOp a .Mult b pos) (ah pI m n):=⟨kE Rj Q2 ha.1 hb.1⟩
structure lg (K:PySem.W.Frag) (mg:Str→Option Value) (U:Str) (tab:List (Str×Bool)):Prop where
 ex:∃ni,mg U=some (.ref ni)∧rF K (.ref ni) tab
theorem m9 {U:Str} {tab:List (Str×Bool)} {b7:Pos} (t:lg X.K X.mg U tab) (hm:X.mg "isinstance"=none) (ha:aS X F a m) (hK:F.K=X.K:=by rfl) (hg:cN X "isinstance":=by rfl) (hgU:cN X U:=by rfl) (hdU:(U == ("__debug__" :Str))=false:=by decide)
  (hs2:starEach [.Name U b7] X.env=(false,eval (.Name U b7) X.env)::starEach [] X.env:=by rfl)
  (he:starEach [a,.Name U b7] X.env=(false,eval a X.env)::starEach [.Name U b7] X.env:=by rfl) (hpl:(backTo pos (starEach [.Name U b7] X.env)).any (·.1)=false:=by rfl) :
  aS X F (.Call (.Name "isinstance" p) [a,.Name U b7] [] pos) (ct (iN tab) m):=by
 obtain ⟨ni,h1,h2⟩:=t.ex
 exact V6 h2 hm h1 ha hK hg hgU hdU hs2 he hpl
noncomputable def sR (i:Nat) (n:aE):aE:=fun ρ=>(ownAt i ρ).bind fun ds=>(n ρ).bind fun k=>match k with
 | .int j=>match iE ds j with
   | some d=> .ok d
   | none=> .bad
 | _=> .bad
theorem Ru {i:Nat} {ρ:az} {ds:List D} (h:ownAt i ρ= .ok ds):ρ[i]? =some (.cD ds):=by
 unfold ownAt at h
 split at h
 · rename_i e; cases h; exact e
 · cases h
theorem Rt {i:Nat} {ρ:az} {c:Str} (h:ownAt i ρ= .exc c):False:=by
 unfold ownAt at h
 split at h <;> cases h
theorem V7 (i:Nat) {x:Str} {aP:Pos} (hb:aS X F b n) (hs:rL b) (hN:X.N[i]? =some x:=by rfl) (hv:fE X.env.scope x:=by first | exact Or.inl rfl | exact Or.inr (Or.inl rfl) | exact Or.inr (Or.inr rfl)) (hd:(x == ("__debug__" :Str))=false:=by decide) (hcd:(x == ("__classdict__" :Str))=false:=by decide) :
  aS X F (.Subscript (.Name x aP) b pos) (sR i n):=by
 refine ⟨aZ.imp (GH Fy (lR hN hv hd hcd) hb.1 hs) ?_⟩
 rintro σ H Q ⟨G,ρ,r,h⟩
 unfold sR at h
 cases dn:ownAt i ρ with
 | bad=>rw [dn] at h; exact h.elim
 | exc c=>exact (Rt dn).elim
 | ok ds=>
   rw [dn,R.bH] at h
   have cw:=Ru dn
   obtain ⟨q,xs,ar,h1,h2,h3,h4⟩:=r.own cw
   refine ⟨.ref q,ar,G,ρ,r,?_⟩
   cases au:n ρ with
   | bad=>rw [au] at h; exact h.elim
   | exc c=>rw [au] at h; exact h
   | ok d=>
     rw [au,R.bH] at h
     intro v H1 aQ av s1 bo
     obtain ⟨df,l4,hG,dp,c9,vB,jd⟩:=av.own cw
     rw [ar] at hG
     cases hG
     cases d with
     | int j=>
       simp only at h
       simp only [At] at bo
       split at h
       · rename_i d hn
         obtain ⟨w,gH,lr⟩:=uv jd hn
         exact .inl ⟨q,l4,j,w,rfl,bo,b4.of dp,gH,h w H1 aQ av s1 lr⟩
       · exact h.elim
     | _=>exact h.elim
end
end aD
set_option Elab.async false
set_option linter.all false
set_option maxRecDepth 100000
set_option autoImplicit false
namespace bU
open PySem PySem.Spec bb aD
noncomputable def top (i:Nat):Stmt:=PySem.Challenge.pw_nohalfway_k12_sayings_broken.main.body.getD i (.Pass ⟨0,0,0,0⟩)
noncomputable abbrev A4:Stmt:=top 50
noncomputable abbrev AV:Stmt:=top 51
noncomputable abbrev AM:Stmt:=top 52
noncomputable abbrev AX:Stmt:=top 53
noncomputable abbrev AY:Stmt:=top 54
noncomputable abbrev A2:Stmt:=top 55
noncomputable abbrev AO:Stmt:=top 56
noncomputable abbrev AR:Stmt:=top 49
noncomputable abbrev AP:Stmt:=top 57
noncomputable abbrev AD:Stmt:=top 43
noncomputable abbrev AJ:Stmt:=top 12
noncomputable abbrev AK:Stmt:=top 13
noncomputable abbrev AA:Stmt:=top 44
noncomputable abbrev AL:Stmt:=top 45
noncomputable abbrev Av:Stmt:=top 46
noncomputable abbrev As:Stmt:=top 42
noncomputable abbrev Ao:Stmt:=inClass (top 47) 0
noncomputable abbrev AE:Stmt:=top 19
noncomputable abbrev AB:Stmt:=top 24
noncomputable abbrev AF:Stmt:=top 25
noncomputable abbrev Ay:Stmt:=top 26
noncomputable abbrev An:Stmt:=inClass (top 47) 1
noncomputable abbrev Az:Stmt:=top 27
noncomputable abbrev A7:Stmt:=top 28
noncomputable abbrev Ax:Stmt:=top 18
noncomputable abbrev Aw:Stmt:=top 20
noncomputable abbrev Ar:Stmt:=top 21
noncomputable abbrev A8:Stmt:=top 29
noncomputable abbrev Am:Stmt:=inClass (top 47) 3
noncomputable abbrev A6:Stmt:=top 31
noncomputable abbrev A9:Stmt:=top 32
noncomputable abbrev AI:Stmt:=top 35
noncomputable abbrev AH:Stmt:=top 36
noncomputable abbrev A5:Stmt:=top 37
noncomputable abbrev Ap:Stmt:=inClass (top 47) 5
noncomputable abbrev Aq:Stmt:=inClass (top 47) 6
noncomputable abbrev AG:Stmt:=top 34
noncomputable abbrev Au:Stmt:=top 38
noncomputable abbrev AZ:Stmt:=top 64
noncomputable abbrev A0:Stmt:=top 65
noncomputable abbrev A3:Stmt:=top 63
noncomputable abbrev AS:Stmt:=top 58
noncomputable abbrev AW:Stmt:=top 59
noncomputable abbrev A1:Stmt:=top 60
noncomputable abbrev AU:Stmt:=top 61
noncomputable abbrev AQ:Stmt:=top 62
noncomputable abbrev oc:Stmt:=top 66
noncomputable def oT:D:= .int 15
noncomputable def ql:D:= .int 4
noncomputable def oU:D:= .int 6
noncomputable def qm:D:= .int 12
noncomputable def rX:D:= .eI [.str (PySem.Str.ofString "0"),.str (PySem.Str.ofString "1"),.str (PySem.Str.ofString "x")]
noncomputable def oV:D:= .eI [.int 8,.int 4,.int 2,.int 1]
structure x4 (K:PySem.W.Frag) (mg:Str→Option Value):Prop where
 Ej:dq K mg "_law_stream" A4 ["_law_cell","_law_salt","_law_many"]
 Ea:dq K mg "_law_net" AV ["_law_cell","_law_most"]
 D4:dq K mg "_law_beyond" AM ["_law_wires"]
 Ec:dq K mg "_law_outer" AX ["_law_counts","_law_wires"]
 Ed:dq K mg "_law_pattern" AY ["_law_number"]
 Eh:dq K mg "_law_row" A2 ["_law_number","_law_count"]
 D5:dq K mg "_law_book" AO ["_law_cell","_law_salt","_law_count","_law_most"]
 D8:dq K mg "_law_cell_at" AR ["_law_script","_law_k"]
 D6:dq K mg "_law_books" AP ["_law_script","_law_start","_law_counts","_law_most"]
 DV:dq K mg "is_pair" AD ["thing"]
 D1:dq K mg "is_whole" AJ ["thing"]
 D2:dq K mg "is_whole_within" AK ["thing","least","greatest"]
 DT:dq K mg "is_door_among" AA ["counts","thing"]
 D3:dq K mg "is_wire_among" AL ["counts","thing"]
 DO:dq K mg "far_doors" Av ["counts","wires"]
 DM:dq K mg "are_counts" As ["thing"]
 DI:InK K mg "Net" "Net.__init__" Ao ["self","counts","wires"]
 DW:dq K mg "is_pattern" AE ["thing"]
 DU:dq K mg "is_number_or_none" AB ["thing","doors"]
 DX:dq K mg "is_row" AF ["thing","doors"]
 DR:dq K mg "is_book" Ay ["thing","doors"]
 DH:p3 K "Net" "count" "Net.count" An ["self","house"]
 DS:dq K mg "is_books" Az ["thing","net"]
 En:dq K mg "refuse_unless_books" A7 ["thing","net"]
 DQ:dq K mg "is_address" Ax ["thing"]
 DP:dq K mg "fits" Aw ["pattern","address"]
 DL:dq K mg "addresses" Ar ["pattern"]
 Eo:dq K mg "taken" A8 ["book","door","address"]
 DG:p3 K "Net" "beyond" "Net.beyond" Am ["self","door"]
 Em:dq K mg "onward" A6 ["net","book","door","address"]
 Ep:dq K mg "walked" A9 ["net","books","door","address"]
 D0:dq K mg "is_so_of" AI ["saying","doors","end"]
 DZ:dq K mg "is_so" AH ["net","books","saying","address"]
 Ek:dq K mg "least_broken" A5 ["net","books","saying"]
 DJ:p3 K "Net" "is_door" "Net.is_door" Ap ["self","thing"]
 DK:p3 K "Net" "is_outer" "Net.is_outer" Aq ["self","thing"]
 DY:dq K mg "is_saying" AG ["thing","net"]
 DN:dq K mg "broken" Au ["net","books","saying"]
 Ee:dq K mg "_law_refusal" AZ ["_law_net_here","_law_books_here","_law_saying_here"]
 Ef:dq K mg "_law_refused" A0 ["_law_net_here","_law_books_here","_law_counts","_law_outer_here","_law_number"]
 Ei:dq K mg "_law_saying" A3 ["_law_number","_law_counts","_law_outer_here"]
 D9:dq K mg "_law_fits" AS ["_law_pattern_here","_law_address"]
 Eb:dq K mg "_law_next" AW ["_law_beyond_here","_law_books_here","_law_door","_law_address"]
 Eg:dq K mg "_law_road" A1 ["_law_beyond_here","_law_books_here","_law_door","_law_address"]
 D_:dq K mg "_law_is_so" AU ["_law_beyond_here","_law_books_here","_law_saying_here","_law_address"]
 D7:dq K mg "_law_broken" AQ ["_law_beyond_here","_law_books_here","_law_saying_here"]
 Mb:dq K mg "law" oc ["_law_script"]
 IT:xP K mg "NoBooks"
 IU:xP K mg "NoSaying"
 Ip:lg K mg "NoAddress" [("NoBooks",false),("NoSaying",false)]
 Iq:lg K mg "NoBooks" [("NoBooks",true),("NoSaying",false)]
 Ir:lg K mg "NoDoor" [("NoBooks",false),("NoSaying",false)]
 Iu:lg K mg "NoMove" [("NoBooks",false),("NoSaying",false)]
 Iv:lg K mg "NoNet" [("NoBooks",false),("NoSaying",false)]
 Iw:lg K mg "NoPlan" [("NoBooks",false),("NoSaying",false)]
 Iy:lg K mg "NoRow" [("NoBooks",false),("NoSaying",false)]
 Iz:lg K mg "NoSaying" [("NoBooks",false),("NoSaying",true)]
 IA:lg K mg "NoText" [("NoBooks",false),("NoSaying",false)]
 IB:rF K (.type "ValueError") [("NoBooks",true),("NoSaying",true)]
 Ib:Cb K mg "WayError" ["NoBooks","NoSaying"]
 je:rB K "Net" ["many","counts","joined","far"]
 Cq:mg "ValueError"=none
 qg:mg "all"=none
 ye:mg "bool"=none
 yf:mg "enumerate"=none
 Ct:mg "int"=none
 fH:mg "isinstance"=none
 eW:mg "len"=none
 nC:mg "list"=none
 CA:mg "max"=none
 yg:mg "min"=none
 hT:mg "range"=none
 u6:mg "str"=none
 qi:mg "tuple"=none
 CC:mg "zip"=none
 oT:oC K mg "GREATEST_ADDRESS" oT
 ql:oC K mg "MOST_DOORS" ql
 oU:oC K mg "MOST_HOUSES" oU
 qm:oC K mg "MOST_ROWS" qm
 rX:oC K mg "SIGNS" rX
 oV:oC K mg "WORTHS" oV
theorem oe:cV ["_law_cell","_law_salt","_law_many","_law_found","_law_number","_law_k"] ["_law_cell","_law_salt","_law_many"] (bW A4):=⟨rfl,rfl,rfl,by decide +kernel,rfl,by decide +kernel,by decide +kernel⟩
noncomputable def u2:aY:=
  aK (d5 3 (bK (ai)))
  (aK (b6 4 (ah da (I 0) (ag (.int 2))))
  (aK (cx (aH (ah (bT true) (ah cG (I 0) (ag (.int 2))) (ag (.int 1)))) (aK (fc (dU (af (I 2) (ai))) (aJ 5) (aK (hz 3 (ah cG (I 4) (ag (.int 720720))))
  (b6 4 (ah da (I 4) (ag (.int 720720))))))
  (iS (pq 3))) (cF))
  (aK (b6 4 (ah cG (ah b1 (ah b1 (ah ib (I 4) (ag (.int 48271))) (ah ib (I 1) (ag (.int 69621)))) (ag (.int 12345))) (ag (.int 2147483647))))
  (aK (fc (dU (af (I 2) (ai))) (aJ 5) (aK (b6 4 (ah cG (ah b1 (ah b1 (ah ib (I 4) (ag (.int 69621))) (ah ib (ag (.int 48271)) (I 5))) (I 1)) (ag (.int 2147483629))))
  (hz 3 (ah da (I 4) (ag (.int 7))))))
  (iS (pq 3))))))
noncomputable def jh:List D→R bR:=c5 6 u2
theorem lW:cV ["_law_cell","_law_most","_law_xs","_law_many","_law_counts","_law_doors","_law_house","_law_wires","_law_k","_law_one"] ["_law_cell","_law_most"] (bW AV):=⟨rfl,rfl,rfl,by decide +kernel,rfl,by decide +kernel,by decide +kernel⟩
noncomputable def rS:aY:=
  aK (b6 2 (a9 (fb 3 jh (af (I 0) (af (ag (.int 1)) (af (ag (.int 24)) (ai)))))))
  (aK (b6 3 (ah b1 (ag (.int 1)) (ah cG (ah ay (I 2) (ag (.int 0))) (I 1))))
  (aK (kg 4 (cY 1 [2,3] (dU (af (I 3) (ai))) (aJ 0) (cT) (ah b1 (ag (.int 1)) (ah cG (ah ay (I 1) (ah b1 (ag (.int 1)) (I 0))) (ah ay (a9 (bK (af (ag (.int 4)) (af (ag (.int 4)) (af (ag (.int 4)) (af (ag (.int 3)) (af (ag (.int 2)) (af (ag (.int 2)) (ai))))))))) (ah ig (I 2) (ag (.int 1))))))))
  (aK (d5 5 (bK (ai)))
  (aK (fc (dU (af (bk cf (af (I 4) (ai))) (ai))) (aJ 6) (d5 5 (lN 5 (a9 (cY 1 [6] (dU (af (ah ay (I 4) (I 6)) (ai))) (aJ 0) (cT) (bG (af (I 1) (af (I 0) (ai)))))))))
  (aK (d5 7 (bK (ai)))
  (aK (fc (dU (af (jG (bk jK (af (ag (.int 12)) (af (ah b1 (ah da (bk cf (af (I 5) (ai))) (ag (.int 2))) (ah cG (ah ay (I 2) (ag (.int 7))) (ag (.int 2)))) (ai))))) (ai))) (aJ 8) (cx (hJ (dY (aH (ah j5 (bk cf (af (I 5) (ai))) (ag (.int 2)))) (gp (aH (ah j5 (bk cf (af (I 5) (ai))) (ag (.int 1)))) (gp (aH (ah (bT true) (I 7) (a9 (bK (ai))))) (aH (ah (bT true) (ah cG (ah ay (I 2) (ag (.int 8))) (ag (.int 2))) (ag (.int 0)))))))) (aK (nZ 9 (jJ 5 (jG (ah cG (ah ay (I 2) (ah b1 (ag (.int 9)) (I 8))) (bk cf (af (I 5) (ai)))))))
  (pf 7 (mJ (jg (lf (I 9)) (jg (jJ 5 (jG (ah cG (ah da (ah ay (I 2) (ah ig (ag (.int 23)) (I 8))) (ag (.int 5))) (bk cf (af (I 5) (ai)))))) (mI ai)))))) (cF)))
  (aK (cx (hJ (gp (aH (ah j5 (bk cf (af (I 7) (ai))) (ag (.int 0)))) (aH (ah (bT true) (I 5) (a9 (bK (ai))))))) (ph (qQ 7)) (cF))
  (gK (bG (af (I 4) (af (I 7) (ai))))))))))))
noncomputable def sY:List D→R bR:=c5 10 rS
theorem w2:cV ["_law_wires","_law_beyond_here","_law_one","_law_other"] ["_law_wires"] (bW AM):=⟨rfl,rfl,rfl,by decide +kernel,rfl,by decide +kernel,by decide +kernel⟩
noncomputable def uQ:aY:=
  aK (pn 1)
  (aK (fc (dX (I 0)) (d6 [aJ 2,aJ 3]) (aK (jH 1 (I 2) (I 3))
  (jH 1 (I 3) (I 2))))
  (gK (I 1)))
noncomputable def wb:List D→R bR:=c5 4 uQ
theorem tq:cV ["_law_counts","_law_wires","_law_beyond_here","_law_found","_law_house"] ["_law_counts","_law_wires"] (bW AX):=⟨rfl,rfl,rfl,by decide +kernel,rfl,by decide +kernel,by decide +kernel⟩
noncomputable def uX:aY:=
  aK (b6 2 (bc 1 wb (af (I 1) (ai))))
  (aK (b6 3 (a9 (bK (ai))))
  (aK (fc (dU (af (bk cf (af (I 0) (ai))) (ai))) (aJ 4) (b6 3 (ah b1 (I 3) (a9 (cY 1 [4,2] (dU (af (ah ay (I 0) (I 4)) (ai))) (aJ 0) (aH (ah (es false) (bG (af (I 1) (af (I 0) (ai)))) (I 2))) (bG (af (I 1) (af (I 0) (ai)))))))))
  (bS (I 3))))
noncomputable def zO:List D→R bR:=c5 5 uX
theorem tr:cV ["_law_number","_law_signs","_law_k"] ["_law_number"] (bW AY):=⟨rfl,rfl,rfl,by decide +kernel,rfl,by decide +kernel,by decide +kernel⟩
noncomputable def uY:aY:=
  aK (b6 1 (ag (.str (PySem.Str.ofString ""))))
  (aK (fc (dU (af (ag (.int 4)) (ai))) (aJ 2) (aK (b6 1 (ah b1 (I 1) (ah ay (ag (.str (PySem.Str.ofString "01xxx"))) (ah cG (I 0) (ag (.int 5))))))
  (b6 0 (ah da (I 0) (ag (.int 5))))))
  (bS (I 1)))
noncomputable def px:List D→R bR:=c5 3 uY
theorem Bd:cV ["_law_number","_law_count","_law_come","_law_out"] ["_law_number","_law_count"] (bW A2):=⟨rfl,rfl,rfl,by decide +kernel,rfl,by decide +kernel,by decide +kernel⟩
noncomputable def u0:aY:=
  aK (b6 2 (ah ay (a9 (bK (af (ag .non) (af (ag .non) (af (ah cG (ah da (I 0) (ag (.int 11))) (I 1)) (ai)))))) (ah cG (I 0) (ag (.int 3)))))
  (aK (b6 3 (ah ay (a9 (bK (af (ag .non) (af (ah cG (ah da (I 0) (ag (.int 47))) (I 1)) (af (ah cG (ah da (I 0) (ag (.int 53))) (I 1)) (af (ah cG (ah da (I 0) (ag (.int 59))) (I 1)) (ai))))))) (ah cG (ah da (I 0) (ag (.int 3))) (ag (.int 4)))))
  (bS (bG (af (bc 1 px (af (ah da (I 0) (ag (.int 61))) (ai))) (af (I 2) (af (I 3) (ai)))))))
noncomputable def qX:List D→R bR:=c5 4 u0
theorem Hq:cV ["_law_cell","_law_salt","_law_count","_law_most","_law_xs"] ["_law_cell","_law_salt","_law_count","_law_most"] (bW AO):=⟨rfl,rfl,rfl,by decide +kernel,rfl,by decide +kernel,by decide +kernel⟩
noncomputable def uR:aY:=
  aK (b6 4 (a9 (fb 3 jh (af (I 0) (af (I 1) (af (ah b1 (I 3) (ag (.int 1))) (ai)))))))
  (iS (cY 1 [2] (dX (f5 gs (I 4) (fl (ag (.int 1))) (fl (ah b1 (ag (.int 1)) (ah cG (ah ay (I 4) (ag (.int 0))) (ah b1 (I 3) (ag (.int 1)))))))) (aJ 0) (cT) (bc 2 qX (af (I 0) (af (I 1) (ai))))))
noncomputable def wc:List D→R bR:=c5 5 uR
theorem T8:cV ["_law_script","_law_k"] ["_law_script","_law_k"] (bW AR):=⟨rfl,rfl,rfl,by decide +kernel,rfl,by decide +kernel,by decide +kernel⟩
noncomputable def uU:aY:=
  aK (cx (aH (ah nT (I 1) (bk cf (af (I 0) (ai))))) (bS (ah cG (ah ay (I 0) (I 1)) (ah kQ (ah kQ (ah iZ (ag (.int 10)) (ag (.int 60))) (ah iZ (ag (.int 10)) (ag (.int 60)))) (ah iZ (ag (.int 10)) (ag (.int 60)))))) (cF))
  (bS (ah b1 (ah ib (ag (.int 14)) (I 1)) (ag (.int 2))))
noncomputable def iT:List D→R bR:=c5 2 uU
theorem Bc:cV ["_law_script","_law_start","_law_counts","_law_most","_law_found","_law_house"] ["_law_script","_law_start","_law_counts","_law_most"] (bW AP):=⟨rfl,rfl,rfl,by decide +kernel,rfl,by decide +kernel,by decide +kernel⟩
noncomputable def uS:aY:=
  aK (d5 4 (bK (ai)))
  (aK (fc (dU (af (bk cf (af (I 2) (ai))) (ai))) (aJ 5) (hz 4 (a9 (fb 4 wc (af (bc 2 iT (af (I 0) (af (ah b1 (I 1) (I 5)) (ai)))) (af (ah b1 (ag (.int 3)) (I 5)) (af (ah ay (I 2) (I 5)) (af (I 3) (ai)))))))))
  (iS (pq 4)))
noncomputable def wd:List D→R bR:=c5 6 uS
theorem T2:cV ["thing"] ["thing"] (bW AD):=⟨rfl,rfl,rfl,by decide +kernel,rfl,by decide +kernel,by decide +kernel⟩
noncomputable def uJ:aY:=
  bS (hI (ct (eS "tuple") (I 0)) (ah (bT true) (bk cf (af (I 0) (ai))) (ag (.int 2))))
noncomputable def qV:List D→R bR:=c5 1 uJ
theorem T6:cV ["thing"] ["thing"] (bW AJ):=⟨rfl,rfl,rfl,by decide +kernel,rfl,by decide +kernel,by decide +kernel⟩
noncomputable def Cw:aY:=
  bS (hI (ct (eS "int") (I 0)) (sS (ct (eS "bool") (I 0))))
noncomputable def zN:List D→R bR:=c5 1 Cw
theorem T7:cV ["thing","least","greatest"] ["thing","least","greatest"] (bW AK):=⟨rfl,rfl,rfl,by decide +kernel,rfl,by decide +kernel,by decide +kernel⟩
noncomputable def uN:aY:=
  bS (hI (bc 1 zN (af (I 0) (ai))) (hL jf jf (I 1) (I 0) (I 2)))
noncomputable def kh:List D→R bR:=c5 3 uN
theorem TZ:cV ["counts","thing"] ["counts","thing"] (bW AA):=⟨rfl,rfl,rfl,by decide +kernel,rfl,by decide +kernel,by decide +kernel⟩
noncomputable def rR:aY:=
  aK (cx (dY (c6 (aH (bc 1 qV (af (I 1) (ai))))) (c6 (aH (bc 3 kh (af (ah ay (I 1) (ag (.int 0))) (af (ag (.int 0)) (af (ah ig (bk cf (af (I 0) (ai))) (ag (.int 1))) (ai)))))))) (bS (ag (.aw false))) (cF))
  (bS (bc 3 kh (af (ah ay (I 1) (ag (.int 1))) (af (ag (.int 0)) (af (ah ig (ah ay (I 0) (ah ay (I 1) (ag (.int 0)))) (ag (.int 1))) (ai))))))
noncomputable def pw:List D→R bR:=c5 2 rR
theorem Hp:cV ["counts","thing","both"] ["counts","thing"] (bW AL):=⟨rfl,rfl,rfl,by decide +kernel,rfl,by decide +kernel,by decide +kernel⟩
noncomputable def uO:aY:=
  aK (cx (c6 (aH (bc 1 qV (af (I 1) (ai))))) (bS (ag (.aw false))) (cF))
  (aK (b6 2 (hI (bc 2 pw (af (I 0) (af (ah ay (I 1) (ag (.int 0))) (ai)))) (bc 2 pw (af (I 0) (af (ah ay (I 1) (ag (.int 1))) (ai))))))
  (bS (hI (I 2) (ah (bT false) (ah ay (I 1) (ag (.int 0))) (ah ay (I 1) (ag (.int 1)))))))
noncomputable def sX:List D→R bR:=c5 3 uO
theorem Ba:cV ["counts","wires","far","wire"] ["counts","wires"] (bW Av):=⟨rfl,rfl,rfl,by decide +kernel,rfl,by decide +kernel,by decide +kernel⟩
noncomputable def uF:aY:=
  aK (pn 2)
  (aK (fc (qP (I 1)) (aJ 3) (aK (cx (c6 (aH (bc 2 sX (af (I 0) (af (I 3) (ai)))))) (qO) (cF))
  (aK (cx (hJ (dY (aH (ah (es true) (ah ay (I 3) (ag (.int 0))) (I 2))) (aH (ah (es true) (ah ay (I 3) (ag (.int 1))) (I 2))))) (qO) (cF))
  (aK (jH 2 (ah ay (I 3) (ag (.int 0))) (ah ay (I 3) (ag (.int 1))))
  (jH 2 (ah ay (I 3) (ag (.int 1))) (ah ay (I 3) (ag (.int 0))))))))
  (gK (I 2)))
noncomputable def qT:List D→R bR:=c5 4 uF
theorem TR:cV ["thing"] ["thing"] (bW As):=⟨rfl,rfl,rfl,by decide +kernel,rfl,by decide +kernel,by decide +kernel⟩
noncomputable def uD:aY:=
  aK (cx (dY (c6 (aH (ct (eS "list") (I 0)))) (c6 (aH (hL jf jf (ag (.int 1)) (bk cf (af (I 0) (ai))) (ag oU))))) (bS (ag (.aw false))) (cF))
  (bS (bk cI (af (a9 (cY 1 [] (dX (I 0)) (aJ 0) (cT) (bc 3 kh (af (I 0) (af (ag (.int 1)) (af (ag ql) (ai))))))) (ai))))
noncomputable def sU:List D→R bR:=c5 1 uD
theorem TN:cV ["self","counts","wires"] ["self","counts","wires"] (bW Ao):=⟨rfl,rfl,rfl,by decide +kernel,rfl,by decide +kernel,by decide +kernel⟩
noncomputable def uA:iz:=
  lP (nW (c6 (aH (bc 1 sU (af (I 1) (ai))))))
  (lP (nW (c6 (aH (ct (eS "list") (I 2)))))
  (lP (jI "Net" "many" (bk cf (af (I 1) (ai))))
  (lP (jI "Net" "counts" (bk ou (af (I 1) (ai))))
  (lP (jI "Net" "joined" (bk ou (af (I 2) (ai))))
  (jI "Net" "far" (nU (bc 2 qT (af (ct (eG "Net" "counts") (I 0)) (af (ct (eG "Net" "joined") (I 0)) (ai))))))))))
noncomputable def v9:List D→R (List Str×List D):=fun aq=>outI "Net" (uA (jE "Net" aq))
theorem T3:cV ["thing"] ["thing"] (bW AE):=⟨rfl,rfl,rfl,by decide +kernel,rfl,by decide +kernel,by decide +kernel⟩
noncomputable def Cv:aY:=
  aK (cx (dY (c6 (aH (ct (eS "str") (I 0)))) (aH (ah (bT false) (bk cf (af (I 0) (ai))) (bk cf (af (ag oV) (ai)))))) (bS (ag (.aw false))) (cF))
  (bS (bk cI (af (a9 (cY 1 [] (sP (I 0)) (aJ 0) (cT) (ah (inD true) (I 0) (ag rX)))) (ai))))
noncomputable def mL:List D→R bR:=c5 1 Cv
theorem T1:cV ["thing","doors"] ["thing","doors"] (bW AB):=⟨rfl,rfl,rfl,by decide +kernel,rfl,by decide +kernel,by decide +kernel⟩
noncomputable def uI:aY:=
  bS (nY (ah (eZ true) (I 0) (ag .non)) (bc 3 kh (af (I 0) (af (ag (.int 0)) (af (ah ig (I 1) (ag (.int 1))) (ai))))))
noncomputable def qU:List D→R bR:=c5 2 uI
theorem T4:cV ["thing","doors"] ["thing","doors"] (bW AF):=⟨rfl,rfl,rfl,by decide +kernel,rfl,by decide +kernel,by decide +kernel⟩
noncomputable def uK:aY:=
  aK (cx (dY (c6 (aH (ct (eS "tuple") (I 0)))) (aH (ah (bT false) (bk cf (af (I 0) (ai))) (ag (.int 3))))) (bS (ag (.aw false))) (cF))
  (aK (cx (c6 (aH (bc 1 mL (af (ah ay (I 0) (ag (.int 0))) (ai))))) (bS (ag (.aw false))) (cF))
  (bS (hI (bc 2 qU (af (ah ay (I 0) (ag (.int 1))) (af (I 1) (ai)))) (bc 2 qU (af (ah ay (I 0) (ag (.int 2))) (af (I 1) (ai)))))))
noncomputable def n1:List D→R bR:=c5 2 uK
theorem TX:cV ["thing","doors"] ["thing","doors"] (bW Ay):=⟨rfl,rfl,rfl,by decide +kernel,rfl,by decide +kernel,by decide +kernel⟩
noncomputable def uG:aY:=
  aK (cx (dY (c6 (aH (ct (eS "list") (I 0)))) (aH (ah j5 (bk cf (af (I 0) (ai))) (ag qm)))) (bS (ag (.aw false))) (cF))
  (bS (bk cI (af (a9 (cY 1 [1] (dX (I 0)) (aJ 0) (cT) (bc 2 n1 (af (I 0) (af (I 1) (ai)))))) (ai))))
noncomputable def sV:List D→R bR:=c5 2 uG
theorem TM:cV ["self","house"] ["self","house"] (bW An):=⟨rfl,rfl,rfl,by decide +kernel,rfl,by decide +kernel,by decide +kernel⟩
noncomputable def uz:aY:=
  bS (lO (aH (hL jf nT (ag (.int 0)) (I 1) (ct (eG "Net" "many") (I 0)))) (ah ay (ct (eG "Net" "counts") (I 0)) (I 1)) (ag (.int 0)))
noncomputable def sT:List D→R bR:=c5 2 uz
theorem TY:cV ["thing","net"] ["thing","net"] (bW Az):=⟨rfl,rfl,rfl,by decide +kernel,rfl,by decide +kernel,by decide +kernel⟩
noncomputable def uH:aY:=
  aK (cx (dY (c6 (aH (ct (eS "list") (I 0)))) (aH (ah (bT false) (bk cf (af (I 0) (ai))) (ct (eG "Net" "many") (I 1))))) (bS (ag (.aw false))) (cF))
  (bS (bk cI (af (a9 (cY 2 [1] (kO (af (I 0) (ai))) (d6 [aJ 0,aJ 1]) (cT) (bc 2 sV (af (I 1) (af (hZ "Net" "count" 1 sT (I 2) (af (I 0) (ai))) (ai)))))) (ai))))
noncomputable def sW:List D→R bR:=c5 2 uH
theorem T9:cV ["thing","net"] ["thing","net"] (bW A7):=⟨rfl,rfl,rfl,by decide +kernel,rfl,by decide +kernel,by decide +kernel⟩
noncomputable def u5:aY:=
  cx (mQ (c6 (aH (bc 2 sW (af (I 0) (af (I 1) (ai))))))) (zK "NoBooks") (cF)
noncomputable def s6:List D→R bR:=c5 2 u5
theorem TV:cV ["thing"] ["thing"] (bW Ax):=⟨rfl,rfl,rfl,by decide +kernel,rfl,by decide +kernel,by decide +kernel⟩
noncomputable def Cu:aY:=
  bS (bc 3 kh (af (I 0) (af (ag (.int 0)) (af (ag oT) (ai)))))
noncomputable def F2:List D→R bR:=c5 1 Cu
theorem TU:cV ["pattern","address"] ["pattern","address"] (bW Aw):=⟨rfl,rfl,rfl,by decide +kernel,rfl,by decide +kernel,by decide +kernel⟩
noncomputable def Cs:aY:=
  aK (cx (dY (c6 (aH (bc 1 mL (af (I 0) (ai))))) (c6 (aH (bc 1 F2 (af (I 1) (ai)))))) (bS (ag (.aw false))) (cF))
  (bS (bk cI (af (a9 (cY 2 [1] (sQ (af (I 0) (af (ag oV) (ai)))) (d6 [aJ 0,aJ 1]) (cT) (ah (inD true) (I 0) (bG (af (ag (.str (PySem.Str.ofString "x"))) (af (bk tA (af (ah cG (ah da (I 2) (I 1)) (ag (.int 2))) (ai))) (ai))))))) (ai))))
noncomputable def n0:List D→R bR:=c5 2 Cs
theorem TQ:cV ["pattern"] ["pattern"] (bW Ar):=⟨rfl,rfl,rfl,by decide +kernel,rfl,by decide +kernel,by decide +kernel⟩
noncomputable def Cr:aY:=
  iS (cY 1 [0] (dU (af (ah b1 (ag oT) (ag (.int 1))) (ai))) (aJ 0) (aH (bc 2 n0 (af (I 1) (af (I 0) (ai))))) (I 0))
noncomputable def qS:List D→R bR:=c5 1 Cr
theorem Be:cV ["book","door","address","number","row"] ["book","door","address"] (bW A8):=⟨rfl,rfl,rfl,by decide +kernel,rfl,by decide +kernel,by decide +kernel⟩
noncomputable def u7:aY:=
  aK (fc (kO (af (I 0) (ai))) (d6 [aJ 3,aJ 4]) (cx (gp (dY (aH (ah (eZ true) (ah ay (I 4) (ag (.int 1))) (ag .non))) (aH (ah (bT true) (ah ay (I 4) (ag (.int 1))) (I 1)))) (aH (bc 2 n0 (af (ah ay (I 4) (ag (.int 0))) (af (I 2) (ai)))))) (bS (I 3)) (cF)))
  (bS (ag .non))
noncomputable def zP:List D→R bR:=c5 5 u7
theorem TL:cV ["self","door"] ["self","door"] (bW Am):=⟨rfl,rfl,rfl,by decide +kernel,rfl,by decide +kernel,by decide +kernel⟩
noncomputable def uy:aY:=
  bS (sO (ct (eG "Net" "far") (I 0)) (I 1))
noncomputable def zL:List D→R bR:=c5 2 uy
theorem w6:cV ["net","book","door","address","number","out","far"] ["net","book","door","address"] (bW A6):=⟨rfl,rfl,rfl,by decide +kernel,rfl,by decide +kernel,by decide +kernel⟩
noncomputable def u4:aY:=
  aK (b6 4 (bc 3 zP (af (I 1) (af (ah ay (I 2) (ag (.int 1))) (af (I 3) (ai))))))
  (aK (b6 5 (lO (aH (ah (eZ true) (I 4) (ag .non))) (ag .non) (ah ay (ah ay (I 1) (I 4)) (ag (.int 2)))))
  (aK (cx (aH (ah (eZ true) (I 5) (ag .non))) (bS (bG (af (ag (.str (PySem.Str.ofString "drop"))) (af (ah ay (I 2) (ag (.int 0))) (ai))))) (cF))
  (aK (b6 6 (hZ "Net" "beyond" 1 zL (I 0) (af (bG (af (ah ay (I 2) (ag (.int 0))) (af (I 5) (ai)))) (ai))))
  (aK (cx (aH (ah (eZ true) (I 6) (ag .non))) (bS (bG (af (ag (.str (PySem.Str.ofString "out"))) (af (ah ay (I 2) (ag (.int 0))) (af (I 5) (ai)))))) (cF))
  (bS (bG (af (ag (.str (PySem.Str.ofString "at"))) (af (ah ay (I 6) (ag (.int 0))) (af (ah ay (I 6) (ag (.int 1))) (ai))))))))))
noncomputable def wm:List D→R bR:=c5 7 u4
theorem w7:cV ["net","books","door","address","doors","told"] ["net","books","door","address"] (bW A9):=⟨rfl,rfl,rfl,by decide +kernel,rfl,by decide +kernel,by decide +kernel⟩
noncomputable def CB:aY:=
  aK (d5 4 (bK (ai)))
  (aK (ps (hJ (aH (ah (inD false) (I 2) (I 4)))) (aK (hz 4 (I 2))
  (aK (b6 5 (bc 4 wm (af (I 0) (af (ah ay (I 1) (ah ay (I 2) (ag (.int 0)))) (af (I 2) (af (I 3) (ai)))))))
  (aK (cx (aH (ah (bT false) (ah ay (I 5) (ag (.int 0))) (ag (.str (PySem.Str.ofString "at"))))) (gK (bG (af (I 4) (af (I 5) (ai))))) (cF))
  (b6 2 (bG (af (ah ay (I 5) (ag (.int 1))) (af (ah ay (I 5) (ag (.int 2))) (ai)))))))))
  (gK (bG (af (I 4) (af (bG (af (ag (.str (PySem.Str.ofString "ring"))) (af (nX (I 4) (af (I 2) (ai))) (ai)))) (ai))))))
noncomputable def zQ:List D→R bR:=c5 6 CB
theorem Bb:cV ["saying","doors","end","word","comes_by"] ["saying","doors","end"] (bW AI):=⟨rfl,rfl,rfl,by decide +kernel,rfl,by decide +kernel,by decide +kernel⟩
noncomputable def uM:aY:=
  aK (b6 3 (ah ay (I 0) (ag (.int 0))))
  (aK (cx (aH (ah (bT true) (I 3) (ag (.str (PySem.Str.ofString "comes"))))) (bS (ah (bT true) (I 2) (bG (af (ag (.str (PySem.Str.ofString "out"))) (af (ah ay (ah ay (I 0) (ag (.int 3))) (ag (.int 0))) (af (ah ay (ah ay (I 0) (ag (.int 3))) (ag (.int 1))) (ai))))))) (cF))
  (aK (cx (aH (ah (bT true) (I 3) (ag (.str (PySem.Str.ofString "leaves"))))) (bS (ah (bT true) (ah ay (I 2) (ag (.int 0))) (ag (.str (PySem.Str.ofString "out"))))) (cF))
  (aK (cx (aH (ah (bT true) (I 3) (ag (.str (PySem.Str.ofString "noring"))))) (bS (ah (bT false) (ah ay (I 2) (ag (.int 0))) (ag (.str (PySem.Str.ofString "ring"))))) (cF))
  (aK (b6 4 (ah (inD true) (ah ay (I 0) (ag (.int 3))) (a9 (cY 1 [] (dX (I 1)) (aJ 0) (cT) (ah ay (I 0) (ag (.int 0)))))))
  (bS (ah (bT true) (I 4) (ah (bT true) (I 3) (ag (.str (PySem.Str.ofString "by"))))))))))
noncomputable def zM:List D→R bR:=c5 5 uM
theorem Ho:cV ["net","books","saying","address","told"] ["net","books","saying","address"] (bW AH):=⟨rfl,rfl,rfl,by decide +kernel,rfl,by decide +kernel,by decide +kernel⟩
noncomputable def uL:aY:=
  aK (b6 4 (bc 4 zQ (af (I 0) (af (I 1) (af (ah ay (I 2) (ag (.int 2))) (af (I 3) (ai)))))))
  (bS (bc 3 zM (af (I 2) (af (ah ay (I 4) (ag (.int 0))) (af (ah ay (I 4) (ag (.int 1))) (ai))))))
noncomputable def wa:List D→R bR:=c5 5 uL
theorem Ht:cV ["net","books","saying","address"] ["net","books","saying"] (bW A5):=⟨rfl,rfl,rfl,by decide +kernel,rfl,by decide +kernel,by decide +kernel⟩
noncomputable def u3:aY:=
  aK (fc (dX (a9 (fb 1 qS (af (ah ay (I 2) (ag (.int 1))) (ai))))) (aJ 3) (cx (c6 (aH (bc 4 wa (af (I 0) (af (I 1) (af (I 2) (af (I 3) (ai)))))))) (bS (I 3)) (cF)))
  (bS (ag .non))
noncomputable def qY:List D→R bR:=c5 4 u3
theorem TO:cV ["self","thing"] ["self","thing"] (bW Ap):=⟨rfl,rfl,rfl,by decide +kernel,rfl,by decide +kernel,by decide +kernel⟩
noncomputable def uB:aY:=
  bS (bc 2 pw (af (ct (eG "Net" "counts") (I 0)) (af (I 1) (ai))))
noncomputable def v_:List D→R bR:=c5 2 uB
theorem TP:cV ["self","thing"] ["self","thing"] (bW Aq):=⟨rfl,rfl,rfl,by decide +kernel,rfl,by decide +kernel,by decide +kernel⟩
noncomputable def uC:aY:=
  bS (hI (hZ "Net" "is_door" 1 v_ (I 0) (af (I 1) (ai))) (ah (es false) (I 1) (ct (eG "Net" "far") (I 0))))
noncomputable def pv:List D→R bR:=c5 2 uC
theorem T5:cV ["thing","net"] ["thing","net"] (bW AG):=⟨rfl,rfl,rfl,by decide +kernel,rfl,by decide +kernel,by decide +kernel⟩
noncomputable def nB:aY:=
  aK (cx (dY (c6 (aH (ct (eS "tuple") (I 0)))) (aH (ah (inD false) (bk cf (af (I 0) (ai))) (bG (af (ag (.int 3)) (af (ag (.int 4)) (ai))))))) (bS (ag (.aw false))) (cF))
  (aK (cx (dY (c6 (aH (ct (eS "str") (ah ay (I 0) (ag (.int 0)))))) (dY (c6 (aH (bc 1 mL (af (ah ay (I 0) (ag (.int 1))) (ai))))) (c6 (aH (hZ "Net" "is_outer" 1 pv (I 1) (af (ah ay (I 0) (ag (.int 2))) (ai))))))) (bS (ag (.aw false))) (cF))
  (aK (cx (aH (ah (bT true) (bk cf (af (I 0) (ai))) (ag (.int 3)))) (bS (ah (inD true) (ah ay (I 0) (ag (.int 0))) (bG (af (ag (.str (PySem.Str.ofString "leaves"))) (af (ag (.str (PySem.Str.ofString "noring"))) (ai)))))) (cF))
  (aK (cx (aH (ah (bT true) (ah ay (I 0) (ag (.int 0))) (ag (.str (PySem.Str.ofString "comes"))))) (bS (hZ "Net" "is_outer" 1 pv (I 1) (af (ah ay (I 0) (ag (.int 3))) (ai)))) (cF))
  (bS (hI (ah (inD true) (ah ay (I 0) (ag (.int 0))) (bG (af (ag (.str (PySem.Str.ofString "by"))) (af (ag (.str (PySem.Str.ofString "never"))) (ai))))) (bc 3 kh (af (ah ay (I 0) (ag (.int 3))) (af (ag (.int 0)) (af (ah ig (ct (eG "Net" "many") (I 1)) (ag (.int 1))) (ai))))))))))
noncomputable def n2:List D→R bR:=c5 2 nB
theorem TS:cV ["net","books","saying"] ["net","books","saying"] (bW Au):=⟨rfl,rfl,rfl,by decide +kernel,rfl,by decide +kernel,by decide +kernel⟩
noncomputable def uE:aY:=
  aK (nV (bc 2 s6 (pC (af (I 1) (af (I 0) (ai))))))
  (aK (cx (mQ (c6 (aH (bc 2 n2 (af (I 2) (af (I 0) (ai))))))) (zK "NoSaying") (cF))
  (tg (bS (bc 3 qY (af (I 0) (af (I 1) (af (I 2) (ai))))))))
noncomputable def mK:List D→R bR:=c5 3 uE
theorem ra:cV ["_law_net_here","_law_books_here","_law_saying_here","_law_kinds","e"] ["_law_net_here","_law_books_here","_law_saying_here"] (bW AZ):=⟨rfl,rfl,rfl,by decide +kernel,rfl,by decide +kernel,by decide +kernel⟩
noncomputable def qh:aY:=
  aK (b6 3 (a9 (bK (ai))))
  (aK (qR 4 ["NoBooks","NoSaying"] 3 mK (af (I 0) (af (I 1) (af (I 2) (ai)))) (aK (b6 3 (a9 (bK (af (ct (iN [("NoBooks",true),("NoSaying",true)]) (I 4)) (af (ct (iN [("NoBooks",true),("NoSaying",false)]) (I 4)) (af (ct (iN [("NoBooks",false),("NoSaying",true)]) (I 4)) (af (ct (iN [("NoBooks",false),("NoSaying",false)]) (I 4)) (ai))))))))
  (aK (b6 3 (ah b1 (I 3) (a9 (bK (af (ct (iN [("NoBooks",false),("NoSaying",false)]) (I 4)) (af (ct (iN [("NoBooks",false),("NoSaying",false)]) (I 4)) (af (ct (iN [("NoBooks",false),("NoSaying",false)]) (I 4)) (ai))))))))
  (b6 3 (ah b1 (I 3) (a9 (bK (af (ct (iN [("NoBooks",false),("NoSaying",false)]) (I 4)) (af (ct (iN [("NoBooks",false),("NoSaying",false)]) (I 4)) (af (ct (iN [("NoBooks",false),("NoSaying",false)]) (I 4)) (ai)))))))))))
  (bS (I 3)))
noncomputable def ki:List D→R bR:=c5 5 qh
theorem od:cV ["_law_net_here","_law_books_here","_law_counts","_law_outer_here","_law_number","_law_bad","_law_odd","_law_good","_law_books_bad","_law_first"] ["_law_net_here","_law_books_here","_law_counts","_law_outer_here","_law_number"] (bW A0):=⟨rfl,rfl,rfl,by decide +kernel,rfl,by decide +kernel,by decide +kernel⟩
noncomputable def uZ:aY:=
  aK (d5 5 (bK (af (f5 gs (I 1) (fl (ag (.int 1))) (iR)) (af (ah b1 (I 1) (a9 (bK (af (a9 (bK (ai))) (ai))))) (af (ag .non) (af (ah b1 (a9 (bK (af (a9 (bK (af (bG (af (ag (.str (PySem.Str.ofString "xxx"))) (af (ag .non) (af (ag .non) (ai))))) (ai)))) (ai)))) (f5 gs (I 1) (fl (ag (.int 1))) (iR))) (ai)))))))
  (aK (hz 5 (ah b1 (a9 (bK (af (a9 (bK (af (bG (af (ag (.str (PySem.Str.ofString "xxxx"))) (af (ah ay (I 2) (ag (.int 0))) (af (ag .non) (ai))))) (ai)))) (ai)))) (f5 gs (I 1) (fl (ag (.int 1))) (iR))))
  (aK (d5 5 (lN 5 (a9 (bK (af (ah b1 (a9 (bK (af (a9 (bK (af (bG (af (ag (.str (PySem.Str.ofString "xxxx"))) (af (ag .non) (af (ah ay (I 2) (ag (.int 0))) (ai))))) (ai)))) (ai)))) (f5 gs (I 1) (fl (ag (.int 1))) (iR))) (af (ah b1 (a9 (bK (af (a9 (bK (af (a9 (bK (af (ag (.str (PySem.Str.ofString "xxxx"))) (af (ag .non) (af (ag .non) (ai)))))) (ai)))) (ai)))) (f5 gs (I 1) (fl (ag (.int 1))) (iR))) (af (ah b1 (a9 (bK (af (ag .non) (ai)))) (f5 gs (I 1) (fl (ag (.int 1))) (iR))) (ai))))))))
  (aK (b6 6 (a9 (bK (af (ag .non) (af (bG (af (ag (.str (PySem.Str.ofString "comes"))) (af (ag (.str (PySem.Str.ofString "xxxx"))) (af (ah ay (I 3) (ag (.int 0))) (ai))))) (af (bG (af (ag (.str (PySem.Str.ofString "by"))) (af (ag (.str (PySem.Str.ofString "xxxx"))) (af (ah ay (I 3) (ag (.int 0))) (af (bk cf (af (I 2) (ai))) (ai)))))) (af (bG (af (ag (.str (PySem.Str.ofString "leaves"))) (af (ag (.str (PySem.Str.ofString "xxx"))) (af (ah ay (I 3) (ag (.int 0))) (ai))))) (ai))))))))
  (aK (b6 6 (ah b1 (I 6) (a9 (bK (af (bG (af (ag (.str (PySem.Str.ofString "never"))) (af (ag (.str (PySem.Str.ofString "xxxx"))) (af (bG (af (ag (.int 6)) (af (ag (.int 0)) (ai)))) (af (ag (.int 0)) (ai)))))) (af (bG (af (ag (.str (PySem.Str.ofString "noring"))) (af (ag (.str (PySem.Str.ofString "xxxx"))) (af (ah ay (I 3) (ag (.int 0))) (af (ag (.int 0)) (ai)))))) (af (a9 (bK (af (ag (.str (PySem.Str.ofString "leaves"))) (af (ag (.str (PySem.Str.ofString "xxxx"))) (af (ah ay (I 3) (ag (.int 0))) (ai)))))) (ai))))))))
  (aK (b6 7 (bG (af (ag (.str (PySem.Str.ofString "leaves"))) (af (ag (.str (PySem.Str.ofString "xxxx"))) (af (ah ay (I 3) (ag (.int 0))) (ai))))))
  (aK (b6 8 (sR 5 (ah cG (I 4) (ag (.int 8)))))
  (aK (b6 9 (ah b1 (a9 (bK (af (ag (.aw true)) (af (ag (.aw true)) (ai))))) (ah pI (a9 (bK (af (ag (.aw false)) (ai)))) (ag (.int 8)))))
  (aK (cx (dY (aH (ah (bT false) (bc 3 ki (af (I 0) (af (I 8) (af (I 7) (ai))))) (I 9))) (aH (ah (bT false) (bc 3 ki (af (I 0) (af (I 8) (af (ah ay (I 6) (ah cG (ah da (I 4) (ag (.int 8))) (ag (.int 7)))) (ai))))) (I 9)))) (bS (ag (.aw false))) (cF))
  (bS (ah (bT true) (bc 3 ki (af (I 0) (af (I 1) (af (ah ay (I 6) (ah cG (ah da (I 4) (ag (.int 8))) (ag (.int 7)))) (ai))))) (ah b1 (a9 (bK (af (ag (.aw true)) (af (ag (.aw false)) (af (ag (.aw true)) (ai)))))) (ah pI (a9 (bK (af (ag (.aw false)) (ai)))) (ag (.int 7))))))))))))))
noncomputable def wj:List D→R bR:=c5 10 uZ
theorem w5:cV ["_law_number","_law_counts","_law_outer_here","_law_word","_law_door","_law_pattern_here"] ["_law_number","_law_counts","_law_outer_here"] (bW A3):=⟨rfl,rfl,rfl,by decide +kernel,rfl,by decide +kernel,by decide +kernel⟩
noncomputable def u1:aY:=
  aK (b6 3 (ah ay (a9 (bK (af (ag (.str (PySem.Str.ofString "comes"))) (af (ag (.str (PySem.Str.ofString "leaves"))) (af (ag (.str (PySem.Str.ofString "noring"))) (af (ag (.str (PySem.Str.ofString "by"))) (af (ag (.str (PySem.Str.ofString "never"))) (ai)))))))) (ah cG (I 0) (ag (.int 5)))))
  (aK (b6 4 (ah ay (I 2) (ah cG (ah da (I 0) (ag (.int 5))) (bk cf (af (I 2) (ai))))))
  (aK (b6 5 (bc 1 px (af (ah da (I 0) (ag (.int 35))) (ai))))
  (aK (cx (aH (ah (bT true) (I 3) (ag (.str (PySem.Str.ofString "comes"))))) (bS (bG (af (I 3) (af (I 5) (af (I 4) (af (ah ay (I 2) (ah cG (ah da (I 0) (ag (.int 7))) (bk cf (af (I 2) (ai))))) (ai))))))) (cF))
  (aK (cx (dY (aH (ah (bT true) (I 3) (ag (.str (PySem.Str.ofString "by"))))) (aH (ah (bT true) (I 3) (ag (.str (PySem.Str.ofString "never")))))) (bS (bG (af (I 3) (af (I 5) (af (I 4) (af (ah cG (ah da (I 0) (ag (.int 11))) (bk cf (af (I 1) (ai)))) (ai))))))) (cF))
  (bS (bG (af (I 3) (af (I 5) (af (I 4) (ai))))))))))
noncomputable def wk:List D→R bR:=c5 6 u1
theorem Hs:cV ["_law_pattern_here","_law_address","_law_k"] ["_law_pattern_here","_law_address"] (bW AS):=⟨rfl,rfl,rfl,by decide +kernel,rfl,by decide +kernel,by decide +kernel⟩
noncomputable def Cx:aY:=
  aK (fc (dU (af (ag (.int 4)) (ai))) (aJ 2) (cx (gp (aH (ah (bT false) (ah ay (I 0) (I 2)) (ag (.str (PySem.Str.ofString "x"))))) (aH (ah (bT false) (ah ay (I 0) (I 2)) (ah ay (ag (.str (PySem.Str.ofString "01"))) (ah Ck (ah HF (I 1) (ah ig (ag (.int 3)) (I 2))) (ag (.int 1))))))) (bS (ag (.aw false))) (cF)))
  (bS (ag (.aw true)))
noncomputable def mM:List D→R bR:=c5 3 Cx
theorem q_:cV ["_law_beyond_here","_law_books_here","_law_door","_law_address","_law_house","_law_number","_law_pattern_here","_law_come","_law_out"] ["_law_beyond_here","_law_books_here","_law_door","_law_address"] (bW AW):=⟨rfl,rfl,rfl,by decide +kernel,rfl,by decide +kernel,by decide +kernel⟩
noncomputable def uW:aY:=
  aK (kP (d6 [aJ 4,aJ 5]) (I 2))
  (aK (fc (dX (ah ay (I 1) (I 4))) (d6 [aJ 6,aJ 7,aJ 8]) (cx (gp (dY (aH (ah (eZ true) (I 7) (ag .non))) (aH (ah (bT true) (I 7) (I 5)))) (aH (bc 2 mM (af (I 6) (af (I 3) (ai)))))) (aK (cx (aH (ah (eZ true) (I 8) (ag .non))) (bS (bG (af (ag (.str (PySem.Str.ofString "drop"))) (af (I 4) (ai))))) (cF))
  (aK (cx (aH (ah (es true) (bG (af (I 4) (af (I 8) (ai)))) (I 0))) (bS (bG (af (ag (.str (PySem.Str.ofString "at"))) (af (ah nD (I 0) (bG (af (I 4) (af (I 8) (ai))))) (ai))))) (cF))
  (bS (bG (af (ag (.str (PySem.Str.ofString "out"))) (af (I 4) (af (I 8) (ai)))))))) (cF)))
  (bS (bG (af (ag (.str (PySem.Str.ofString "drop"))) (af (I 4) (ai))))))
noncomputable def wi:List D→R bR:=c5 9 uW
theorem w4:cV ["_law_beyond_here","_law_books_here","_law_door","_law_address","_law_road_here","_law_told"] ["_law_beyond_here","_law_books_here","_law_door","_law_address"] (bW A1):=⟨rfl,rfl,rfl,by decide +kernel,rfl,by decide +kernel,by decide +kernel⟩
noncomputable def Cy:aY:=
  aK (d5 4 (bK (ai)))
  (aK (ps (hJ (aH (ah (inD false) (I 2) (I 4)))) (aK (hz 4 (I 2))
  (aK (b6 5 (bc 4 wi (af (I 0) (af (I 1) (af (I 2) (af (I 3) (ai)))))))
  (aK (cx (aH (ah (bT false) (ah ay (I 5) (ag (.int 0))) (ag (.str (PySem.Str.ofString "at"))))) (gK (bG (af (I 4) (af (I 5) (ai))))) (cF))
  (b6 2 (ah ay (I 5) (ag (.int 1))))))))
  (gK (bG (af (I 4) (af (bG (af (ag (.str (PySem.Str.ofString "ring"))) (af (nX (I 4) (af (I 2) (ai))) (ai)))) (ai))))))
noncomputable def sZ:List D→R bR:=c5 6 Cy
theorem w3:cV ["_law_beyond_here","_law_books_here","_law_saying_here","_law_address","_law_road_here","_law_end","_law_houses"] ["_law_beyond_here","_law_books_here","_law_saying_here","_law_address"] (bW AU):=⟨rfl,rfl,rfl,by decide +kernel,rfl,by decide +kernel,by decide +kernel⟩
noncomputable def uV:aY:=
  aK (kP (d6 [aJ 4,aJ 5]) (bc 4 sZ (af (I 0) (af (I 1) (af (ah ay (I 2) (ag (.int 2))) (af (I 3) (ai)))))))
  (aK (cx (aH (ah (bT true) (ah ay (I 2) (ag (.int 0))) (ag (.str (PySem.Str.ofString "comes"))))) (bS (ah (bT true) (I 5) (ah rY (bG (af (ag (.str (PySem.Str.ofString "out"))) (ai))) (ah ay (I 2) (ag (.int 3)))))) (cF))
  (aK (cx (aH (ah (bT true) (ah ay (I 2) (ag (.int 0))) (ag (.str (PySem.Str.ofString "leaves"))))) (bS (ah (bT true) (ah ay (I 5) (ag (.int 0))) (ag (.str (PySem.Str.ofString "out"))))) (cF))
  (aK (cx (aH (ah (bT true) (ah ay (I 2) (ag (.int 0))) (ag (.str (PySem.Str.ofString "noring"))))) (bS (ah (bT false) (ah ay (I 5) (ag (.int 0))) (ag (.str (PySem.Str.ofString "ring"))))) (cF))
  (aK (kg 6 (cY 2 [] (dX (I 4)) (d6 [aJ 0,aJ 1]) (cT) (I 0)))
  (bS (ah (bT true) (ah (inD true) (ah ay (I 2) (ag (.int 3))) (I 6)) (ah (bT true) (ah ay (I 2) (ag (.int 0))) (ag (.str (PySem.Str.ofString "by"))))))))))
noncomputable def wh:List D→R bR:=c5 7 uV
theorem Hr:cV ["_law_beyond_here","_law_books_here","_law_saying_here","_law_address"] ["_law_beyond_here","_law_books_here","_law_saying_here"] (bW AQ):=⟨rfl,rfl,rfl,by decide +kernel,rfl,by decide +kernel,by decide +kernel⟩
noncomputable def uT:aY:=
  aK (fc (dU (af (ag (.int 16)) (ai))) (aJ 3) (cx (gp (aH (bc 2 mM (af (ah ay (I 2) (ag (.int 1))) (af (I 3) (ai))))) (c6 (aH (bc 4 wh (af (I 0) (af (I 1) (af (I 2) (af (I 3) (ai))))))))) (bS (I 3)) (cF)))
  (bS (ag .non))
noncomputable def wg:List D→R bR:=c5 4 uT
theorem jj:cV ["_law_script","_law_counts","_law_wires","_law_outer_here","_law_beyond_here","_law_books_here","_law_net_here","_law_handed","_law_k","_law_x","_law_saying_here","_law_due","_law_turn","_law_found"] ["_law_script"] (bW oc):=⟨rfl,rfl,rfl,by decide +kernel,rfl,by decide +kernel,by decide +kernel⟩
noncomputable def uP:aY:=
  aK (kP (d6 [aJ 1,aJ 2]) (bc 2 sY (af (bc 2 iT (af (I 0) (af (ag (.int 0)) (ai)))) (af (ag (.int 6)) (ai)))))
  (aK (b6 3 (bc 2 zO (af (I 1) (af (I 2) (ai)))))
  (aK (b6 4 (bc 1 wb (af (I 2) (ai))))
  (aK (b6 5 (a9 (fb 4 wd (af (I 0) (af (ag (.int 1)) (af (I 1) (af (ag (.int 6)) (ai))))))))
  (aK (b6 6 (pj "Net" 2 v9 (af (a9 (kf (af (I 1) (ai)))) (af (a9 (kf (af (I 2) (ai)))) (ai)))))
  (aK (kg 7 (cY 1 [] (dX (I 5)) (aJ 0) (cT) (a9 (kf (af (I 0) (ai))))))
  (aK (fc (pk (af (ag (.int 8)) (af (bk pz (af (ag (.int 12)) (af (bk jK (af (ag (.int 33)) (af (bk cf (af (I 0) (ai))) (ai)))) (ai)))) (ai)))) (aJ 8) (aK (b6 9 (ah ay (a9 (fb 3 jh (af (bc 2 iT (af (I 0) (af (I 8) (ai)))) (af (ah b1 (ag (.int 50)) (I 8)) (af (ag (.int 1)) (ai)))))) (ag (.int 0))))
  (aK (b6 10 (bc 3 wk (af (I 9) (af (I 1) (af (I 3) (ai))))))
  (aK (b6 11 (bc 3 wg (af (I 4) (af (I 5) (af (I 10) (ai))))))
  (fc (dU (af (ag (.int 2)) (ai))) (aJ 12) (aK (b6 13 (pg 3 mK (af (I 6) (af (I 7) (af (I 10) (ai))))))
  (cx (dY (aH (ah (bT false) (I 13) (I 11))) (dY (aH (ct (eS "bool") (I 13))) (aH (ah (bT false) (I 7) (I 5))))) (bS (ag (.aw false))) (cF))))))))
  (bS (bc 5 wj (af (I 6) (af (I 7) (af (I 1) (af (I 3) (af (ah ay (a9 (fb 3 jh (af (bc 2 iT (af (I 0) (af (ag (.int 7)) (ai)))) (af (ag (.int 5)) (af (ag (.int 1)) (ai)))))) (ag (.int 0))) (ai))))))))))))))
noncomputable def qW:List D→R bR:=c5 14 uP
end bU
set_option Elab.async false
set_option linter.all false
set_option maxRecDepth 100000
set_option autoImplicit false
namespace bU
open PySem PySem.Spec bb aD
section
variable {P:Program} {w:World} {K:PySem.W.Frag} {mg:Str→Option Value} {base:Heap} (T:x4 K mg)
include T
set_option maxHeartbeats 4000000
theorem v3:dD P w K mg base "_law_stream" 3 1 jh:=by
 have h:=dT (P:=P) (w:=w) (mg:=mg) (base:=base) (k:=0) (m:=u2) T.Ej oe
 exact h fun _ _ _ _ _ _ _ hr _ _=>
 bp (nc 3 oe.bg (dV (aA)))
  (bp (dA 4 oe.bg (g4 (aj 0) (aF)))
  (bp (dH (hQ hr.units (e2 (aj 0) (aF)) (aF)) (bp (ip PassesOwn.never (jm T.hT (ak (aj 2) (aA))) (fg 5 oe.bg) (bp (ro 3 (e2 (aj 4) (aF)))
  (bC (dA 4 oe.bg (g4 (aj 4) (aF))))))
  (bC (BN 3))) (dI))
  (bp (dA 4 oe.bg (e2 (eL (eL (tO (aj 4) (aF)) (tO (aj 1) (aF))) (aF)) (aF)))
  (bp (ip PassesOwn.never (jm T.hT (ak (aj 2) (aA))) (fg 5 oe.bg) (bp (dA 4 oe.bg (e2 (eL (eL (tO (aj 4) (aF)) (tO (aF) (aj 5))) (aj 1)) (aF)))
  (bC (ro 3 (g4 (aj 4) (aF))))))
  (bC (BN 3))))))
theorem PE:dD P w K mg base "_law_net" 2 2 sY:=by
 have h:=dT (P:=P) (w:=w) (mg:=mg) (base:=base) (k:=1) (m:=rS) T.Ea lW
 exact h fun _ _ _ _ _ _ _ hr _ _=>
 bp (dA 2 lW.bg (dh (pS (v3 T) (hr.mono (by decide)) (ak (aj 0) (ak (aF) (ak (aF) (aA)))))))
  (bp (dA 3 lW.bg (eL (aF) (e2 (bI (aj 2) (aF) aP) (aj 1))))
  (bp (BO (BM (N:=["_law_house","_law_xs","_law_many"]) 4 1 [2,3] lW.bg (by rfl) (jm T.hT (ak (aj 3) (aA))) (lu 0) (kB) (fun _ _ _ _ _ _ _=>eL (aF) (e2 (bI (aj 1) (eL (aF) (aj 0)) aP) (bI (dh (dV (ak (aF) (ak (aF) (ak (aF) (ak (aF) (ak (aF) (ak (aF) (aA))))))))) (pR (aj 2) (aF)) aP)))))
  (bp (nc 5 lW.bg (dV (aA)))
  (bp (ip PassesOwn.never (jm T.hT (ak (fi T.eW (ak (aj 4) (aA))) (aA))) (fg 6 lW.bg) (bC (nc 5 lW.bg (I7 5 (dh (l3 (N:=["_law_number","_law_house"]) 1 [6] (by rfl) (jm T.hT (ak (bI (aj 4) (aj 6) aP) (aA))) (lu 0) (kB) (fun _ _ _ _ _ _ _=>dO (ak (aj 1) (ak (aj 0) (aA))))))))))
  (bp (nc 7 lW.bg (dV (aA)))
  (bp (ip PassesOwn.never (jm T.hT (ak (BI (IZ T.yg (ak (aF) (ak (eL (g4 (fi T.eW (ak (aj 5) (aA))) (aF)) (e2 (bI (aj 2) (aF) aP) (aF))) (aA))))) (aA))) (fg 8 lW.bg) (bC (dH (tQ (f_ (hB (xC (fi T.eW (ak (aj 5) (aA))) (aF)) (iq (f_ (pU (xC (fi T.eW (ak (aj 5) (aA))) (aF)) (pU (hQ hr.units (aj 7) (dh (dV (aA)))) (rr (hQ hr.units (e2 (bI (aj 2) (aF) aP) (aF)) (aF)))))))))) (bp (Wr 9 lW.bg (I1 5 (BI (e2 (bI (aj 2) (eL (aF) (aj 8)) aP) (fi T.eW (ak (aj 5) (aA)))))))
  (bC (Wn 7 (Wi (I4 (Wf (aj 9)) (I4 (I1 5 (BI (e2 (g4 (bI (aj 2) (pR (aF) (aj 8)) aP) (aF)) (fi T.eW (ak (aj 5) (aA)))))) (Wg))))))) (dI))))
  (bp (dH (tQ (f_ (pU (xC (fi T.eW (ak (aj 7) (aA))) (aF)) (rr (hQ hr.units (aj 5) (dh (dV (aA)))))))) (bC (Wq (Wc 7))) (dI))
  (bC (pT (dO (ak (aj 4) (ak (aj 7) (aA)))))))))))))
theorem FL:dD P w K mg base "_law_beyond" 1 1 wb:=by
 have h:=dT (P:=P) (w:=w) (mg:=mg) (base:=base) (k:=0) (m:=uQ) T.D4 w2
 exact h fun _ _ _ _ _ _ _ hr _ _=>
 bp (Ja 1 w2.bg)
  (bp (ip PassesOwn.never (nd (aj 0)) (q2 rfl (jL (fg 2 w2.bg) (jL (fg 3 w2.bg) (q1)))) (bp (xB 1 hr.units (aj 2) (aj 3))
  (bC (xB 1 hr.units (aj 3) (aj 2)))))
  (bC (pT (aj 1))))
theorem PG:dD P w K mg base "_law_outer" 2 2 zO:=by
 have h:=dT (P:=P) (w:=w) (mg:=mg) (base:=base) (k:=1) (m:=uX) T.Ec tq
 exact h fun _ _ _ _ _ _ _ hr _ _=>
 bp (dA 2 tq.bg (c3 (FL T) (hr.mono (by decide)) (ak (aj 1) (aA))))
  (bp (dA 3 tq.bg (dh (dV (aA))))
  (bp (ip PassesOwn.never (jm T.hT (ak (fi T.eW (ak (aj 0) (aA))) (aA))) (fg 4 tq.bg) (bC (dA 3 tq.bg (eL (aj 3) (dh (l3 (N:=["_law_k","_law_house","_law_beyond_here"]) 1 [4,2] (by rfl) (jm T.hT (ak (bI (aj 0) (aj 4) aP) (aA))) (lu 0) (IV (fun _ _ _ _ _ _ _=>Wt hr.units (dO (ak (aj 1) (ak (aj 0) (aA)))) (aj 2))) (fun _ _ _ _ _ _ _=>dO (ak (aj 1) (ak (aj 0) (aA))))))))))
  (bC (cE (aj 3)))))
theorem FO:dD P w K mg base "_law_pattern" 1 1 px:=by
 have h:=dT (P:=P) (w:=w) (mg:=mg) (base:=base) (k:=0) (m:=uY) T.Ed tr
 exact h fun _ _ _ _ _ _ _ hr _ _=>
 bp (dA 1 tr.bg (cS))
  (bp (ip PassesOwn.never (jm T.hT (ak (aF) (aA))) (fg 2 tr.bg) (bp (dA 1 tr.bg (eL (aj 1) (bI (cS) (e2 (aj 0) (aF)) aP)))
  (bC (dA 0 tr.bg (g4 (aj 0) (aF))))))
  (bC (cE (aj 1))))
theorem PJ:dD P w K mg base "_law_row" 2 2 qX:=by
 have h:=dT (P:=P) (w:=w) (mg:=mg) (base:=base) (k:=1) (m:=u0) T.Eh Bd
 exact h fun _ _ _ _ _ _ _ hr _ _=>
 bp (dA 2 Bd.bg (bI (dh (dV (ak (fP) (ak (fP) (ak (e2 (g4 (aj 0) (aF)) (aj 1)) (aA)))))) (e2 (aj 0) (aF)) aP))
  (bp (dA 3 Bd.bg (bI (dh (dV (ak (fP) (ak (e2 (g4 (aj 0) (aF)) (aj 1)) (ak (e2 (g4 (aj 0) (aF)) (aj 1)) (ak (e2 (g4 (aj 0) (aF)) (aj 1)) (aA))))))) (e2 (g4 (aj 0) (aF)) (aF)) aP))
  (bC (cE (dO (ak (c3 (FO T) (hr.mono (by decide)) (ak (g4 (aj 0) (aF)) (aA))) (ak (aj 2) (ak (aj 3) (aA))))))))
theorem PA:dD P w K mg base "_law_book" 4 3 wc:=by
 have h:=dT (P:=P) (w:=w) (mg:=mg) (base:=base) (k:=2) (m:=uR) T.D5 Hq
 exact h fun _ _ _ _ _ _ _ hr _ _=>
 bp (dA 4 Hq.bg (dh (pS (v3 T) (hr.mono (by decide)) (ak (aj 0) (ak (aj 1) (ak (eL (aj 3) (aF)) (aA)))))))
  (bC (I_ (l3 (N:=["_law_x","_law_count"]) 1 [2] (by rfl) (nd (pQ (aj 4) (oy (aF)) (oy (eL (aF) (e2 (bI (aj 4) (aF) aP) (eL (aj 3) (aF))))))) (lu 0) (kB) (fun _ _ _ _ _ _ _=>c3 (PJ T) (hr.mono (by decide)) (ak (aj 0) (ak (aj 1) (aA)))))))
theorem vZ:dD P w K mg base "_law_cell_at" 2 1 iT:=by
 have h:=dT (P:=P) (w:=w) (mg:=mg) (base:=base) (k:=0) (m:=uU) T.D8 T8
 exact h fun _ _ _ _ _ _ _ hr _ _=>
 bp (dH (Wu (aj 1) (fi T.eW (ak (aj 0) (aA)))) (bC (cE (e2 (bI (aj 0) (aj 1) aP) (I0 (I0 (BK (aF) (aF)) (BK (aF) (aF))) (BK (aF) (aF)))))) (dI))
  (bC (cE (eL (tO (aF) (aj 1)) (aF))))
theorem PB:dD P w K mg base "_law_books" 4 4 wd:=by
 have h:=dT (P:=P) (w:=w) (mg:=mg) (base:=base) (k:=3) (m:=uS) T.D6 Bc
 exact h fun _ _ _ _ _ _ _ hr _ _=>
 bp (nc 4 Bc.bg (dV (aA)))
  (bp (ip PassesOwn.never (jm T.hT (ak (fi T.eW (ak (aj 2) (aA))) (aA))) (fg 5 Bc.bg) (bC (ro 4 (dh (pS (PA T) (hr.mono (by decide)) (ak (c3 (vZ T) (hr.mono (by decide)) (ak (aj 0) (ak (eL (aj 1) (aj 5)) (aA)))) (ak (eL (aF) (aj 5)) (ak (bI (aj 2) (aj 5) aP) (ak (aj 3) (aA))))))))))
  (bC (BN 4)))
theorem FK:dD P w K mg base "is_pair" 1 1 qV:=by
 have h:=dT (P:=P) (w:=w) (mg:=mg) (base:=base) (k:=0) (m:=uJ) T.DV T2
 exact h fun _ _ _ _ _ _ _ hr _ _=>
 bC (cE (ow (ks (Bv _) T.fH T.qi (by kernel_rfl) (aj 0)) (m_ (l2 hr.units (fi T.eW (ak (aj 0) (aA))) (aF)))))
theorem Py:dD P w K mg base "is_whole" 1 1 zN:=by
 have h:=dT (P:=P) (w:=w) (mg:=mg) (base:=base) (k:=0) (m:=Cw) T.D1 T6
 exact h fun _ _ _ _ _ _ _ hr _ _=>
 bC (cE (ow (ks (Vh _) T.fH T.Ct (by kernel_rfl) (aj 0)) (m_ (Wa (ks (Ih _) T.fH T.ye (by kernel_rfl) (aj 0))))))
theorem qL:dD P w K mg base "is_whole_within" 3 2 kh:=by
 have h:=dT (P:=P) (w:=w) (mg:=mg) (base:=base) (k:=1) (m:=uN) T.D2 T7
 exact h fun _ _ _ _ _ _ _ hr _ _=>
 bC (cE (ow (c3 (Py T) (hr.mono (by decide)) (ak (aj 0) (aA))) (m_ (V0 ti ti th th (aj 1) (aj 0) (aj 2)))))
theorem zE:dD P w K mg base "is_door_among" 2 3 pw:=by
 have h:=dT (P:=P) (w:=w) (mg:=mg) (base:=base) (k:=2) (m:=rR) T.DT TZ
 exact h fun _ _ _ _ _ _ _ hr _ _=>
 bp (dH (f_ (hB (fQ (e3 (c3 (FK T) (hr.mono (by decide)) (ak (aj 1) (aA))))) (iq (fQ (e3 (c3 (qL T) (hr.mono (by decide)) (ak (bI (aj 1) (aF) aP) (ak (aF) (ak (pR (fi T.eW (ak (aj 0) (aA))) (aF)) (aA)))))))))) (bC (cE (f9))) (dI))
  (bC (cE (c3 (qL T) (hr.mono (by decide)) (ak (bI (aj 1) (aF) aP) (ak (aF) (ak (pR (bI (aj 0) (bI (aj 1) (aF) aP) aP) (aF)) (aA)))))))
theorem Pz:dD P w K mg base "is_wire_among" 2 4 sX:=by
 have h:=dT (P:=P) (w:=w) (mg:=mg) (base:=base) (k:=3) (m:=uO) T.D3 Hp
 exact h fun _ _ _ _ _ _ _ hr _ _=>
 bp (dH (fQ (e3 (c3 (FK T) (hr.mono (by decide)) (ak (aj 1) (aA))))) (bC (cE (f9))) (dI))
  (bp (dA 2 Hp.bg (ow (c3 (zE T) (hr.mono (by decide)) (ak (aj 0) (ak (bI (aj 1) (aF) aP) (aA)))) (m_ (c3 (zE T) (hr.mono (by decide)) (ak (aj 0) (ak (bI (aj 1) (aF) aP) (aA)))))))
  (bC (cE (ow (aj 2) (m_ (BJ hr.units (bI (aj 1) (aF) aP) (bI (aj 1) (aF) aP)))))))
theorem Po:dD P w K mg base "far_doors" 2 5 qT:=by
 have h:=dT (P:=P) (w:=w) (mg:=mg) (base:=base) (k:=4) (m:=uF) T.DO Ba
 exact h fun _ _ _ _ _ _ _ hr _ _=>
 bp (Ja 2 Ba.bg)
  (bp (ip PassesOwn.never (Wx (aj 1)) (fg 3 Ba.bg) (bp (dH (fQ (e3 (c3 (Pz T) (hr.mono (by decide)) (ak (aj 0) (ak (aj 3) (aA)))))) (bC (I8)) (dI))
  (bp (dH (tQ (f_ (hB (BQ hr.units (bI (aj 3) (aF) aP) (aj 2)) (iq (BQ hr.units (bI (aj 3) (aF) aP) (aj 2)))))) (bC (I8)) (dI))
  (bp (xB 2 hr.units (bI (aj 3) (aF) aP) (bI (aj 3) (aF) aP))
  (bC (xB 2 hr.units (bI (aj 3) (aF) aP) (bI (aj 3) (aF) aP)))))))
  (bC (pT (aj 2))))
theorem Pn:dD P w K mg base "are_counts" 1 3 sU:=by
 have h:=dT (P:=P) (w:=w) (mg:=mg) (base:=base) (k:=2) (m:=uD) T.DM TR
 exact h fun _ _ _ _ _ _ _ hr _ _=>
 bp (dH (f_ (hB (fQ (e3 (ks (xp _) T.fH T.nC (by kernel_rfl) (aj 0)))) (iq (fQ (Jc ti ti th th (aF) (fi T.eW (ak (aj 0) (aA))) (ox T.oU)))))) (bC (cE (f9))) (dI))
  (bC (cE (tM hr T.qg (ak (dh (l3 (N:=["doors"]) 1 [] (by rfl) (nd (aj 0)) (lu 0) (kB) (fun _ _ _ _ _ _ _=>c3 (qL T) (hr.mono (by decide)) (ak (aj 0) (ak (aF) (ak (ox T.ql) (aA))))))) (aA)))))
theorem Pk:ua P w K mg base "Net" 2 6 v9:=by
 have h:=Wj (P:=P) (w:=w) (mg:=mg) (base:=base) (k:=5) (m:=uA) T.DI TN
 exact h fun _ _ _ _ _ _ _ hr _ _=>
 tP (I6 (fQ (e3 (c3 (Pn T) (hr.mono (by decide)) (ak (aj 1) (aA))))))
  (tP (I6 (fQ (e3 (ks (xp _) T.fH T.nC (by kernel_rfl) (aj 2)))))
  (tP (xA T.je (fi T.eW (ak (aj 1) (aA))))
  (tP (xA T.je (I3 T.qi (ak (aj 1) (aA))))
  (tP (xA T.je (I3 T.qi (ak (aj 2) (aA))))
  (Wm (xA T.je (VW (c3 (Po T) (hr.mono (by decide)) (ak (m8 T.je (aj 0)) (ak (m8 T.je (aj 0)) (aA)))))))))))
theorem zF:dD P w K mg base "is_pattern" 1 1 mL:=by
 have h:=dT (P:=P) (w:=w) (mg:=mg) (base:=base) (k:=0) (m:=Cv) T.DW T3
 exact h fun _ _ _ _ _ _ _ hr _ _=>
 bp (dH (f_ (hB (fQ (e3 (ks (Ii _) T.fH T.u6 (by kernel_rfl) (aj 0)))) (iq (k8 hr.units (fi T.eW (ak (aj 0) (aA))) (fi T.eW (ak (ox T.oV) (aA))))))) (bC (cE (f9))) (dI))
  (bC (cE (tM hr T.qg (ak (dh (l3 (N:=["sign"]) 1 [] (by rfl) (Ww (aj 0)) (lu 0) (kB) (fun _ _ _ _ _ _ _=>rm hr.units (aj 0) (ox T.rX)))) (aA)))))
theorem FJ:dD P w K mg base "is_number_or_none" 2 3 qU:=by
 have h:=dT (P:=P) (w:=w) (mg:=mg) (base:=base) (k:=2) (m:=uI) T.DU T1
 exact h fun _ _ _ _ _ _ _ hr _ _=>
 bC (cE (Wb (V4 (aj 0) (fP)) (m_ (c3 (qL T) (hr.mono (by decide)) (ak (aj 0) (ak (aF) (ak (pR (aj 1) (aF)) (aA))))))))
theorem Pt:dD P w K mg base "is_row" 2 4 n1:=by
 have h:=dT (P:=P) (w:=w) (mg:=mg) (base:=base) (k:=3) (m:=uK) T.DX T4
 exact h fun _ _ _ _ _ _ _ hr _ _=>
 bp (dH (f_ (hB (fQ (e3 (ks (Bv _) T.fH T.qi (by kernel_rfl) (aj 0)))) (iq (k8 hr.units (fi T.eW (ak (aj 0) (aA))) (aF))))) (bC (cE (f9))) (dI))
  (bp (dH (fQ (e3 (c3 (zF T) (hr.mono (by decide)) (ak (bI (aj 0) (aF) aP) (aA))))) (bC (cE (f9))) (dI))
  (bC (cE (ow (c3 (FJ T) (hr.mono (by decide)) (ak (bI (aj 0) (aF) aP) (ak (aj 1) (aA)))) (m_ (c3 (FJ T) (hr.mono (by decide)) (ak (bI (aj 0) (aF) aP) (ak (aj 1) (aA)))))))))
theorem Pq:dD P w K mg base "is_book" 2 5 sV:=by
 have h:=dT (P:=P) (w:=w) (mg:=mg) (base:=base) (k:=4) (m:=uG) T.DR TX
 exact h fun _ _ _ _ _ _ _ hr _ _=>
 bp (dH (f_ (hB (fQ (e3 (ks (xp _) T.fH T.nC (by kernel_rfl) (aj 0)))) (iq (xC (fi T.eW (ak (aj 0) (aA))) (ox T.qm))))) (bC (cE (f9))) (dI))
  (bC (cE (tM hr T.qg (ak (dh (l3 (N:=["row","doors"]) 1 [1] (by rfl) (nd (aj 0)) (lu 0) (kB) (fun _ _ _ _ _ _ _=>c3 (Pt T) (hr.mono (by decide)) (ak (aj 0) (ak (aj 1) (aA)))))) (aA)))))
theorem Pj:nr P w K mg base "Net" "count" 1 1 sT:=by
 have h:=xy (P:=P) (w:=w) (mg:=mg) (base:=base) (k:=0) (m:=uz) T.DH TM
 exact h fun _ _ _ _ _ _ _ hr _ _=>
 bC (cE (IX (Jc ti Gq th QZ (aF) (aj 1) (m8 T.je (aj 0))) (bI (m8 T.je (aj 0)) (aj 1) aP) (aF)))
theorem Pr:dD P w K mg base "is_books" 2 6 sW:=by
 have h:=dT (P:=P) (w:=w) (mg:=mg) (base:=base) (k:=5) (m:=uH) T.DS TY
 exact h fun _ _ _ _ _ _ _ hr _ _=>
 bp (dH (f_ (hB (fQ (e3 (ks (xp _) T.fH T.nC (by kernel_rfl) (aj 0)))) (iq (k8 hr.units (fi T.eW (ak (aj 0) (aA))) (m8 T.je (aj 1)))))) (bC (cE (f9))) (dI))
  (bC (cE (tM hr T.qg (ak (dh (l3 (N:=["house","book","net"]) 2 [1] (by rfl) (Jd T.yf (ak (aj 0) (aA))) (yh 0 1) (kB) (fun _ _ _ _ _ _ _=>c3 (Pq T) (hr.mono (by decide)) (ak (aj 1) (ak (tN (Pj T) (hr.mono (by decide)) (aj 2) (ak (aj 0) (aA))) (aA)))))) (aA)))))
theorem PN:p2 P w K mg base "refuse_unless_books" 2 7 s6:=by
 have h:=IW (P:=P) (w:=w) (mg:=mg) (base:=base) (k:=6) (m:=u5) T.En T9
 exact h fun _ _ _ _ _ _ _ hr _ _=>
 bC (dH (I5 (fQ (e3 (c3 (Pr T) (hr.mono (by decide)) (ak (aj 0) (ak (aj 1) (aA))))))) (bC (I9 T.IT)) (dI))
theorem Pp:dD P w K mg base "is_address" 1 3 F2:=by
 have h:=dT (P:=P) (w:=w) (mg:=mg) (base:=base) (k:=2) (m:=Cu) T.DQ TV
 exact h fun _ _ _ _ _ _ _ hr _ _=>
 bC (cE (c3 (qL T) (hr.mono (by decide)) (ak (aj 0) (ak (aF) (ak (ox T.oT) (aA))))))
theorem FI:dD P w K mg base "fits" 2 4 n0:=by
 have h:=dT (P:=P) (w:=w) (mg:=mg) (base:=base) (k:=3) (m:=Cs) T.DP TU
 exact h fun _ _ _ _ _ _ _ hr _ _=>
 bp (dH (f_ (hB (fQ (e3 (c3 (zF T) (hr.mono (by decide)) (ak (aj 0) (aA))))) (iq (fQ (e3 (c3 (Pp T) (hr.mono (by decide)) (ak (aj 1) (aA)))))))) (bC (cE (f9))) (dI))
  (bC (cE (tM hr T.qg (ak (dh (l3 (N:=["sign","worth","address"]) 2 [1] (by rfl) (Wy T.CC (ak (aj 0) (ak (ox T.oV) (aA)))) (yh 0 1) (kB) (fun _ _ _ _ _ _ _=>rm hr.units (aj 0) (dO (ak (cS) (ak (We T.u6 (ak (e2 (g4 (aj 2) (aj 1)) (aF)) (aA))) (aA))))))) (aA)))))
theorem Pm:dD P w K mg base "addresses" 1 5 qS:=by
 have h:=dT (P:=P) (w:=w) (mg:=mg) (base:=base) (k:=4) (m:=Cr) T.DL TQ
 exact h fun _ _ _ _ _ _ _ hr _ _=>
 bC (I_ (l3 (N:=["address","pattern"]) 1 [0] (by rfl) (jm T.hT (ak (eL (ox T.oT) (aF)) (aA))) (lu 0) (IV (fun _ _ _ _ _ _ _=>e3 (c3 (FI T) (hr.mono (by decide)) (ak (aj 1) (ak (aj 0) (aA)))))) (fun _ _ _ _ _ _ _=>aj 0)))
theorem PO:dD P w K mg base "taken" 3 5 zP:=by
 have h:=dT (P:=P) (w:=w) (mg:=mg) (base:=base) (k:=4) (m:=u7) T.Eo Be
 exact h fun _ _ _ _ _ _ _ hr _ _=>
 bp (ip PassesOwn.never (Jd T.yf (ak (aj 0) (aA))) (q2 rfl (jL (fg 3 Be.bg) (jL (fg 4 Be.bg) (q1)))) (bC (dH (f_ (pU (f_ (hB (rq (bI (aj 4) (aF) aP) (fP)) (iq (hQ hr.units (bI (aj 4) (aF) aP) (aj 1))))) (rr (e3 (c3 (FI T) (hr.mono (by decide)) (ak (bI (aj 4) (aF) aP) (ak (aj 2) (aA)))))))) (bC (cE (aj 3))) (dI))))
  (bC (cE (fP)))
theorem Ph:nr P w K mg base "Net" "beyond" 1 1 zL:=by
 have h:=xy (P:=P) (w:=w) (mg:=mg) (base:=base) (k:=0) (m:=uy) T.DG TL
 exact h fun _ _ _ _ _ _ _ hr _ _=>
 bC (cE (V1 hr.units (m8 T.je (aj 0)) (aj 1)))
theorem PM:dD P w K mg base "onward" 4 6 wm:=by
 have h:=dT (P:=P) (w:=w) (mg:=mg) (base:=base) (k:=5) (m:=u4) T.Em w6
 exact h fun _ _ _ _ _ _ _ hr _ _=>
 bp (dA 4 w6.bg (c3 (PO T) (hr.mono (by decide)) (ak (aj 1) (ak (bI (aj 2) (aF) aP) (ak (aj 3) (aA))))))
  (bp (dA 5 w6.bg (IX (rq (aj 4) (fP)) (fP) (bI (bI (aj 1) (aj 4) aP) (aF) aP)))
  (bp (dH (rq (aj 5) (fP)) (bC (cE (dO (ak (cS) (ak (bI (aj 2) (aF) aP) (aA)))))) (dI))
  (bp (dA 6 w6.bg (tN (Ph T) (hr.mono (by decide)) (aj 0) (ak (dO (ak (bI (aj 2) (aF) aP) (ak (aj 5) (aA)))) (aA))))
  (bp (dH (rq (aj 6) (fP)) (bC (cE (dO (ak (cS) (ak (bI (aj 2) (aF) aP) (ak (aj 5) (aA))))))) (dI))
  (bC (cE (dO (ak (cS) (ak (bI (aj 6) (aF) aP) (ak (bI (aj 6) (aF) aP) (aA)))))))))))
theorem PQ:dD P w K mg base "walked" 4 7 zQ:=by
 have h:=dT (P:=P) (w:=w) (mg:=mg) (base:=base) (k:=6) (m:=CB) T.Ep w7
 exact h fun _ _ _ _ _ _ _ hr _ _=>
 bp (nc 4 w7.bg (dV (aA)))
  (bp (Jb PassesOwn.never (tQ (BR hr.units (aj 2) (aj 4))) (bp (ro 4 (aj 2))
  (bp (dA 5 w7.bg (c3 (PM T) (hr.mono (by decide)) (ak (aj 0) (ak (bI (aj 1) (bI (aj 2) (aF) aP) aP) (ak (aj 2) (ak (aj 3) (aA)))))))
  (bp (dH (k8 hr.units (bI (aj 5) (aF) aP) (cS)) (bC (pT (dO (ak (aj 4) (ak (aj 5) (aA)))))) (dI))
  (bC (dA 2 w7.bg (dO (ak (bI (aj 5) (aF) aP) (ak (bI (aj 5) (aF) aP) (aA))))))))))
  (bC (pT (dO (ak (aj 4) (ak (dO (ak (cS) (ak (IY hr.units (aj 4) (ak (aj 2) (aA))) (aA)))) (aA)))))))
theorem Px:dD P w K mg base "is_so_of" 3 1 zM:=by
 have h:=dT (P:=P) (w:=w) (mg:=mg) (base:=base) (k:=0) (m:=uM) T.D0 Bb
 exact h fun _ _ _ _ _ _ _ hr _ _=>
 bp (dA 3 Bb.bg (bI (aj 0) (aF) aP))
  (bp (dH (hQ hr.units (aj 3) (cS)) (bC (cE (l2 hr.units (aj 2) (dO (ak (cS) (ak (bI (bI (aj 0) (aF) aP) (aF) aP) (ak (bI (bI (aj 0) (aF) aP) (aF) aP) (aA)))))))) (dI))
  (bp (dH (hQ hr.units (aj 3) (cS)) (bC (cE (l2 hr.units (bI (aj 2) (aF) aP) (cS)))) (dI))
  (bp (dH (hQ hr.units (aj 3) (cS)) (bC (cE (BJ hr.units (bI (aj 2) (aF) aP) (cS)))) (dI))
  (bp (dA 4 Bb.bg (rm hr.units (bI (aj 0) (aF) aP) (dh (l3 (N:=["door"]) 1 [] (by rfl) (nd (aj 1)) (lu 0) (kB) (fun _ _ _ _ _ _ _=>bI (aj 0) (aF) aP)))))
  (bC (cE (l2 hr.units (aj 4) (l2 hr.units (aj 3) (cS)))))))))
theorem Pw:dD P w K mg base "is_so" 4 8 wa:=by
 have h:=dT (P:=P) (w:=w) (mg:=mg) (base:=base) (k:=7) (m:=uL) T.DZ Ho
 exact h fun _ _ _ _ _ _ _ hr _ _=>
 bp (dA 4 Ho.bg (c3 (PQ T) (hr.mono (by decide)) (ak (aj 0) (ak (aj 1) (ak (bI (aj 2) (aF) aP) (ak (aj 3) (aA)))))))
  (bC (cE (c3 (Px T) (hr.mono (by decide)) (ak (aj 2) (ak (bI (aj 4) (aF) aP) (ak (bI (aj 4) (aF) aP) (aA)))))))
theorem PL:dD P w K mg base "least_broken" 3 9 qY:=by
 have h:=dT (P:=P) (w:=w) (mg:=mg) (base:=base) (k:=8) (m:=u3) T.Ek Ht
 exact h fun _ _ _ _ _ _ _ hr _ _=>
 bp (ip PassesOwn.never (nd (dh (pS (Pm T) (hr.mono (by decide)) (ak (bI (aj 2) (aF) aP) (aA))))) (fg 3 Ht.bg) (bC (dH (fQ (e3 (c3 (Pw T) (hr.mono (by decide)) (ak (aj 0) (ak (aj 1) (ak (aj 2) (ak (aj 3) (aA)))))))) (bC (cE (aj 3))) (dI))))
  (bC (cE (fP)))
theorem Pl:nr P w K mg base "Net" "is_door" 1 4 v_:=by
 have h:=xy (P:=P) (w:=w) (mg:=mg) (base:=base) (k:=3) (m:=uB) T.DJ TO
 exact h fun _ _ _ _ _ _ _ hr _ _=>
 bC (cE (c3 (zE T) (hr.mono (by decide)) (ak (m8 T.je (aj 0)) (ak (aj 1) (aA)))))
theorem FG:nr P w K mg base "Net" "is_outer" 1 5 pv:=by
 have h:=xy (P:=P) (w:=w) (mg:=mg) (base:=base) (k:=4) (m:=uC) T.DK TP
 exact h fun _ _ _ _ _ _ _ hr _ _=>
 bC (cE (ow (tN (Pl T) (hr.mono (by decide)) (aj 0) (ak (aj 1) (aA))) (m_ (V3 hr.units (aj 1) (m8 T.je (aj 0))))))
theorem Pu:dD P w K mg base "is_saying" 2 6 n2:=by
 have h:=dT (P:=P) (w:=w) (mg:=mg) (base:=base) (k:=5) (m:=nB) T.DY T5
 exact h fun _ _ _ _ _ _ _ hr _ _=>
 bp (dH (f_ (hB (fQ (e3 (ks (Bv _) T.fH T.qi (by kernel_rfl) (aj 0)))) (iq (BR hr.units (fi T.eW (ak (aj 0) (aA))) (dO (ak (aF) (ak (aF) (aA)))))))) (bC (cE (f9))) (dI))
  (bp (dH (f_ (hB (fQ (e3 (ks (Ii _) T.fH T.u6 (by kernel_rfl) (bI (aj 0) (aF) aP)))) (hB (fQ (e3 (c3 (zF T) (hr.mono (by decide)) (ak (bI (aj 0) (aF) aP) (aA))))) (iq (fQ (e3 (tN (FG T) (hr.mono (by decide)) (aj 1) (ak (bI (aj 0) (aF) aP) (aA))))))))) (bC (cE (f9))) (dI))
  (bp (dH (hQ hr.units (fi T.eW (ak (aj 0) (aA))) (aF)) (bC (cE (rm hr.units (bI (aj 0) (aF) aP) (dO (ak (cS) (ak (cS) (aA))))))) (dI))
  (bp (dH (hQ hr.units (bI (aj 0) (aF) aP) (cS)) (bC (cE (tN (FG T) (hr.mono (by decide)) (aj 1) (ak (bI (aj 0) (aF) aP) (aA))))) (dI))
  (bC (cE (ow (rm hr.units (bI (aj 0) (aF) aP) (dO (ak (cS) (ak (cS) (aA))))) (m_ (c3 (qL T) (hr.mono (by decide)) (ak (bI (aj 0) (aF) aP) (ak (aF) (ak (pR (m8 T.je (aj 1)) (aF)) (aA))))))))))))
theorem FH:p2 P w K mg base "broken" 3 10 mK:=by
 have h:=IW (P:=P) (w:=w) (mg:=mg) (base:=base) (k:=9) (m:=uE) T.DN TS
 exact h fun _ _ _ _ _ _ _ hr _ _=>
 bp (Wo (VY (PN T) (hr.mono (by decide)) (Wk (ak (aj 1) (ak (aj 0) (aA))))))
  (bp (dH (I5 (fQ (e3 (c3 (Pu T) (hr.mono (by decide)) (ak (aj 2) (ak (aj 0) (aA))))))) (bC (I9 T.IU)) (dI))
  (bC (Wl (cE (c3 (PL T) (hr.mono (by decide)) (ak (aj 0) (ak (aj 1) (ak (aj 2) (aA)))))))))
theorem zG:dD P w K mg base "_law_refusal" 3 11 ki:=by
 have h:=dT (P:=P) (w:=w) (mg:=mg) (base:=base) (k:=10) (m:=qh) T.Ee ra
 exact h fun _ _ _ _ _ _ _ hr _ _=>
 bp (dA 3 ra.bg (dh (dV (aA))))
  (bp (Ws 4 ra.bg (FH T) (hr.mono (by decide)) T.Ib (ak (aj 0) (ak (aj 1) (ak (aj 2) (aA)))) (fun _=>bp (dA 3 ra.bg (dh (dV (ak (V5 T.IB T.fH T.Cq (aj 4)) (ak (m9 T.Iq T.fH (aj 4)) (ak (m9 T.Iz T.fH (aj 4)) (ak (m9 T.Iv T.fH (aj 4)) (aA))))))))
  (bp (dA 3 ra.bg (eL (aj 3) (dh (dV (ak (m9 T.Ir T.fH (aj 4)) (ak (m9 T.Ip T.fH (aj 4)) (ak (m9 T.Iy T.fH (aj 4)) (aA))))))))
  (bC (dA 3 ra.bg (eL (aj 3) (dh (dV (ak (m9 T.Iw T.fH (aj 4)) (ak (m9 T.Iu T.fH (aj 4)) (ak (m9 T.IA T.fH (aj 4)) (aA))))))))))))
  (bC (cE (aj 3))))
theorem PH:dD P w K mg base "_law_refused" 5 12 wj:=by
 have h:=dT (P:=P) (w:=w) (mg:=mg) (base:=base) (k:=11) (m:=uZ) T.Ef od
 exact h fun _ _ _ _ _ _ _ hr _ _=>
 bp (nc 5 od.bg (dV (ak (pQ (aj 1) (oy (aF)) (rn)) (ak (eL (aj 1) (dh (dV (ak (dh (dV (aA))) (aA))))) (ak (fP) (ak (eL (dh (dV (ak (dh (dV (ak (dO (ak (cS) (ak (fP) (ak (fP) (aA))))) (aA)))) (aA)))) (pQ (aj 1) (oy (aF)) (rn))) (aA)))))))
  (bp (ro 5 (eL (dh (dV (ak (dh (dV (ak (dO (ak (cS) (ak (bI (aj 2) (aF) aP) (ak (fP) (aA))))) (aA)))) (aA)))) (pQ (aj 1) (oy (aF)) (rn))))
  (bp (nc 5 od.bg (I7 5 (dh (dV (ak (eL (dh (dV (ak (dh (dV (ak (dO (ak (cS) (ak (fP) (ak (bI (aj 2) (aF) aP) (aA))))) (aA)))) (aA)))) (pQ (aj 1) (oy (aF)) (rn))) (ak (eL (dh (dV (ak (dh (dV (ak (dh (dV (ak (cS) (ak (fP) (ak (fP) (aA)))))) (aA)))) (aA)))) (pQ (aj 1) (oy (aF)) (rn))) (ak (eL (dh (dV (ak (fP) (aA)))) (pQ (aj 1) (oy (aF)) (rn))) (aA))))))))
  (bp (dA 6 od.bg (dh (dV (ak (fP) (ak (dO (ak (cS) (ak (cS) (ak (bI (aj 3) (aF) aP) (aA))))) (ak (dO (ak (cS) (ak (cS) (ak (bI (aj 3) (aF) aP) (ak (fi T.eW (ak (aj 2) (aA))) (aA)))))) (ak (dO (ak (cS) (ak (cS) (ak (bI (aj 3) (aF) aP) (aA))))) (aA))))))))
  (bp (dA 6 od.bg (eL (aj 6) (dh (dV (ak (dO (ak (cS) (ak (cS) (ak (dO (ak (aF) (ak (aF) (aA)))) (ak (aF) (aA)))))) (ak (dO (ak (cS) (ak (cS) (ak (bI (aj 3) (aF) aP) (ak (aF) (aA)))))) (ak (dh (dV (ak (cS) (ak (cS) (ak (bI (aj 3) (aF) aP) (aA)))))) (aA))))))))
  (bp (dA 7 od.bg (dO (ak (cS) (ak (cS) (ak (bI (aj 3) (aF) aP) (aA))))))
  (bp (dA 8 od.bg (V7 5 (e2 (aj 4) (aF)) aP))
  (bp (dA 9 od.bg (eL (dh (dV (ak (f9) (ak (f9) (aA))))) (I2 (dh (dV (ak (f9) (aA)))) (aF))))
  (bp (dH (f_ (hB (k8 hr.units (c3 (zG T) (hr.mono (by decide)) (ak (aj 0) (ak (aj 8) (ak (aj 7) (aA))))) (aj 9)) (iq (k8 hr.units (c3 (zG T) (hr.mono (by decide)) (ak (aj 0) (ak (aj 8) (ak (bI (aj 6) (e2 (g4 (aj 4) (aF)) (aF)) aP) (aA))))) (aj 9))))) (bC (cE (f9))) (dI))
  (bC (cE (l2 hr.units (c3 (zG T) (hr.mono (by decide)) (ak (aj 0) (ak (aj 1) (ak (bI (aj 6) (e2 (g4 (aj 4) (aF)) (aF)) aP) (aA))))) (eL (dh (dV (ak (f9) (ak (f9) (ak (f9) (aA)))))) (I2 (dh (dV (ak (f9) (aA)))) (aF))))))))))))))
theorem PK:dD P w K mg base "_law_saying" 3 2 wk:=by
 have h:=dT (P:=P) (w:=w) (mg:=mg) (base:=base) (k:=1) (m:=u1) T.Ei w5
 exact h fun _ _ _ _ _ _ _ hr _ _=>
 bp (dA 3 w5.bg (bI (dh (dV (ak (cS) (ak (cS) (ak (cS) (ak (cS) (ak (cS) (aA)))))))) (e2 (aj 0) (aF)) aP))
  (bp (dA 4 w5.bg (bI (aj 2) (e2 (g4 (aj 0) (aF)) (fi T.eW (ak (aj 2) (aA)))) aP))
  (bp (dA 5 w5.bg (c3 (FO T) (hr.mono (by decide)) (ak (g4 (aj 0) (aF)) (aA))))
  (bp (dH (hQ hr.units (aj 3) (cS)) (bC (cE (dO (ak (aj 3) (ak (aj 5) (ak (aj 4) (ak (bI (aj 2) (e2 (g4 (aj 0) (aF)) (fi T.eW (ak (aj 2) (aA)))) aP) (aA)))))))) (dI))
  (bp (dH (f_ (hB (hQ hr.units (aj 3) (cS)) (iq (hQ hr.units (aj 3) (cS))))) (bC (cE (dO (ak (aj 3) (ak (aj 5) (ak (aj 4) (ak (e2 (g4 (aj 0) (aF)) (fi T.eW (ak (aj 1) (aA)))) (aA)))))))) (dI))
  (bC (cE (dO (ak (aj 3) (ak (aj 5) (ak (aj 4) (aA)))))))))))
theorem FN:dD P w K mg base "_law_fits" 2 1 mM:=by
 have h:=dT (P:=P) (w:=w) (mg:=mg) (base:=base) (k:=0) (m:=Cx) T.D9 Hs
 exact h fun _ _ _ _ _ _ _ hr _ _=>
 bp (ip PassesOwn.never (jm T.hT (ak (aF) (aA))) (fg 2 Hs.bg) (bC (dH (f_ (pU (k8 hr.units (bI (aj 0) (aj 2) aP) (cS)) (rr (k8 hr.units (bI (aj 0) (aj 2) aP) (bI (cS) (VV (Wd (aj 1) (pR (aF) (aj 2))) (aF)) aP))))) (bC (cE (f9))) (dI))))
  (bC (cE (f9)))
theorem PF:dD P w K mg base "_law_next" 4 2 wi:=by
 have h:=dT (P:=P) (w:=w) (mg:=mg) (base:=base) (k:=1) (m:=uW) T.Eb q_
 exact h fun _ _ _ _ _ _ _ hr _ _=>
 bp (BP (aj 2) (q2 rfl (jL (fg 4 q_.bg) (jL (fg 5 q_.bg) (q1)))))
  (bp (ip PassesOwn.never (nd (bI (aj 1) (aj 4) aP)) (q2 rfl (jL (fg 6 q_.bg) (jL (fg 7 q_.bg) (jL (fg 8 q_.bg) (q1))))) (bC (dH (f_ (pU (f_ (hB (rq (aj 7) (fP)) (iq (hQ hr.units (aj 7) (aj 5))))) (rr (e3 (c3 (FN T) (hr.mono (by decide)) (ak (aj 6) (ak (aj 3) (aA)))))))) (bp (dH (rq (aj 8) (fP)) (bC (cE (dO (ak (cS) (ak (aj 4) (aA)))))) (dI))
  (bp (dH (BQ hr.units (dO (ak (aj 4) (ak (aj 8) (aA)))) (aj 0)) (bC (cE (dO (ak (cS) (ak (V2 hr.units (aj 0) (dO (ak (aj 4) (ak (aj 8) (aA)))) (by intro _ _; rfl)) (aA)))))) (dI))
  (bC (cE (dO (ak (cS) (ak (aj 4) (ak (aj 8) (aA))))))))) (dI))))
  (bC (cE (dO (ak (cS) (ak (aj 4) (aA)))))))
theorem PI:dD P w K mg base "_law_road" 4 3 sZ:=by
 have h:=dT (P:=P) (w:=w) (mg:=mg) (base:=base) (k:=2) (m:=Cy) T.Eg w4
 exact h fun _ _ _ _ _ _ _ hr _ _=>
 bp (nc 4 w4.bg (dV (aA)))
  (bp (Jb PassesOwn.never (tQ (BR hr.units (aj 2) (aj 4))) (bp (ro 4 (aj 2))
  (bp (dA 5 w4.bg (c3 (PF T) (hr.mono (by decide)) (ak (aj 0) (ak (aj 1) (ak (aj 2) (ak (aj 3) (aA)))))))
  (bp (dH (k8 hr.units (bI (aj 5) (aF) aP) (cS)) (bC (pT (dO (ak (aj 4) (ak (aj 5) (aA)))))) (dI))
  (bC (dA 2 w4.bg (bI (aj 5) (aF) aP)))))))
  (bC (pT (dO (ak (aj 4) (ak (dO (ak (cS) (ak (IY hr.units (aj 4) (ak (aj 2) (aA))) (aA)))) (aA)))))))
theorem PD:dD P w K mg base "_law_is_so" 4 4 wh:=by
 have h:=dT (P:=P) (w:=w) (mg:=mg) (base:=base) (k:=3) (m:=uV) T.D_ w3
 exact h fun _ _ _ _ _ _ _ hr _ _=>
 bp (BP (c3 (PI T) (hr.mono (by decide)) (ak (aj 0) (ak (aj 1) (ak (bI (aj 2) (aF) aP) (ak (aj 3) (aA)))))) (q2 rfl (jL (fg 4 w3.bg) (jL (fg 5 w3.bg) (q1)))))
  (bp (dH (hQ hr.units (bI (aj 2) (aF) aP) (cS)) (bC (cE (l2 hr.units (aj 5) (VZ (dO (ak (cS) (aA))) (bI (aj 2) (aF) aP))))) (dI))
  (bp (dH (hQ hr.units (bI (aj 2) (aF) aP) (cS)) (bC (cE (l2 hr.units (bI (aj 5) (aF) aP) (cS)))) (dI))
  (bp (dH (hQ hr.units (bI (aj 2) (aF) aP) (cS)) (bC (cE (BJ hr.units (bI (aj 5) (aF) aP) (cS)))) (dI))
  (bp (BO (BM (N:=["_law_house","_law_number"]) 6 2 [] w3.bg (by rfl) (nd (aj 4)) (yh 0 1) (kB) (fun _ _ _ _ _ _ _=>aj 0)))
  (bC (cE (l2 hr.units (rm hr.units (bI (aj 2) (aF) aP) (aj 6)) (l2 hr.units (bI (aj 2) (aF) aP) (cS)))))))))
theorem PC:dD P w K mg base "_law_broken" 3 5 wg:=by
 have h:=dT (P:=P) (w:=w) (mg:=mg) (base:=base) (k:=4) (m:=uT) T.D7 Hr
 exact h fun _ _ _ _ _ _ _ hr _ _=>
 bp (ip PassesOwn.never (jm T.hT (ak (aF) (aA))) (fg 3 Hr.bg) (bC (dH (f_ (pU (e3 (c3 (FN T) (hr.mono (by decide)) (ak (bI (aj 2) (aF) aP) (ak (aj 3) (aA))))) (rr (fQ (e3 (c3 (PD T) (hr.mono (by decide)) (ak (aj 0) (ak (aj 1) (ak (aj 2) (ak (aj 3) (aA))))))))))) (bC (cE (aj 3))) (dI))))
  (bC (cE (fP)))
theorem J4 (f:Addr) (cn:Value) (A:Around) (outer:List Env) (s:Shared) (H:ao) (E:c8)
  (hr:dv 12 (A.deeper (PyProof.Rows.envOfC "law" (bW oc) s.heap.objs.size f cn))) (b2 bw:ao):iD (eE gP P w K mg base ["_law_script","_law_counts","_law_wires","_law_outer_here","_law_beyond_here","_law_books_here","_law_net_here","_law_handed","_law_k","_law_x","_law_saying_here","_law_due","_law_turn","_law_found"] "law" (bW oc) f cn A outer s H E).gL (eP K b2 bw) (fI oc) uP:=
 bp (BP (c3 (PE T) (hr.mono (by decide)) (ak (c3 (vZ T) (hr.mono (by decide)) (ak (aj 0) (ak (aF) (aA)))) (ak (aF) (aA)))) (q2 rfl (jL (fg 1 jj.bg) (jL (fg 2 jj.bg) (q1)))))
  (bp (dA 3 jj.bg (c3 (PG T) (hr.mono (by decide)) (ak (aj 1) (ak (aj 2) (aA)))))
  (bp (dA 4 jj.bg (c3 (FL T) (hr.mono (by decide)) (ak (aj 2) (aA))))
  (bp (dA 5 jj.bg (dh (pS (PB T) (hr.mono (by decide)) (ak (aj 0) (ak (aF) (ak (aj 1) (ak (aF) (aA))))))))
  (bp (dA 6 jj.bg (V8 (Pk T) (hr.mono (by decide)) (ak (dh (BL T.nC (ak (aj 1) (aA)))) (ak (dh (BL T.nC (ak (aj 2) (aA)))) (aA)))))
  (bp (BO (BM (N:=["_law_book_here"]) 7 1 [] jj.bg (by rfl) (nd (aj 5)) (lu 0) (kB) (fun _ _ _ _ _ _ _=>dh (BL T.nC (ak (aj 0) (aA))))))
  (bp (ip PassesOwn.never (Wv T.hT (ak (aF) (ak (V9 T.CA (ak (aF) (ak (IZ T.yg (ak (aF) (ak (fi T.eW (ak (aj 0) (aA))) (aA)))) (aA)))) (aA)))) (fg 8 jj.bg) (bp (dA 9 jj.bg (bI (dh (pS (v3 T) (hr.mono (by decide)) (ak (c3 (vZ T) (hr.mono (by decide)) (ak (aj 0) (ak (aj 8) (aA)))) (ak (eL (aF) (aj 8)) (ak (aF) (aA)))))) (aF) aP))
  (bp (dA 10 jj.bg (c3 (PK T) (hr.mono (by decide)) (ak (aj 9) (ak (aj 1) (ak (aj 3) (aA))))))
  (bp (dA 11 jj.bg (c3 (PC T) (hr.mono (by decide)) (ak (aj 4) (ak (aj 5) (ak (aj 10) (aA))))))
  (bC (ip PassesOwn.never (jm T.hT (ak (aF) (aA))) (fg 12 jj.bg) (bp (dA 13 jj.bg (VX (FH T) (hr.mono (by decide)) (ak (aj 6) (ak (aj 7) (ak (aj 10) (aA))))))
  (bC (dH (f_ (hB (k8 hr.units (aj 13) (aj 11)) (hB (e3 (ks (Ih _) T.fH T.ye (by kernel_rfl) (aj 13))) (iq (k8 hr.units (aj 7) (aj 5)))))) (bC (cE (f9))) (dI))))))))))
  (bC (cE (c3 (PH T) (hr.mono (by decide)) (ak (aj 6) (ak (aj 7) (ak (aj 1) (ak (aj 3) (ak (bI (dh (pS (v3 T) (hr.mono (by decide)) (ak (c3 (vZ T) (hr.mono (by decide)) (ak (aj 0) (ak (aF) (aA)))) (ak (aF) (ak (aF) (aA)))))) (aF) aP) (aA)))))))))))))))
end
end bU
set_option Elab.async false
set_option linter.all false
set_option maxRecDepth 100000
set_option autoImplicit false
namespace bU
open PySem PySem.Spec bb aD
theorem aU {α β:Type} (a:α) (k:α→R β):(R.ok a).bind k=k a:=rfl
theorem cu {a b:aY} {ρ ρ':az} (h:a ρ= .ok (.aV ρ')):aK a b ρ=b ρ':=by simp only [aK,h,aU]
theorem mx {f:List D→R bR} {a:aE} {ρ:az} {x y:D} (ha:a ρ= .ok x) (h:f [x]= .ok (.v y)):bc 1 f (af a ai) ρ= .ok y:=by
 simp only [bc,af,ai,ha,aU,List.length_cons,List.length_nil,if_true,h,kW]
theorem call2 {f:List D→R bR} {a b:aE} {ρ:az} {x z y:D} (ha:a ρ= .ok x) (hb:b ρ= .ok z) (h:f [x,z]= .ok (.v y)):bc 2 f (af a (af b ai)) ρ= .ok y:=by
 simp only [bc,af,ai,ha,hb,aU,List.length_cons,List.length_nil,if_true,h,kW]
theorem ju {f:List D→R bR} {a b c:aE} {ρ:az} {x z w y:D} (ha:a ρ= .ok x) (hb:b ρ= .ok z) (hc:c ρ= .ok w) (h:f [x,z,w]= .ok (.v y)):bc 3 f (af a (af b (af c ai))) ρ= .ok y:=by
 simp only [bc,af,ai,ha,hb,hc,aU,List.length_cons,List.length_nil,if_true,h,kW]
theorem qp {f:List D→R bR} {a b c d:aE} {ρ:az} {x z w v y:D} (ha:a ρ= .ok x) (hb:b ρ= .ok z) (hc:c ρ= .ok w) (hd:d ρ= .ok v) (h:f [x,z,w,v]= .ok (.v y)):bc 4 f (af a (af b (af c (af d ai)))) ρ= .ok y:=by
 simp only [bc,af,ai,ha,hb,hc,hd,aU,List.length_cons,List.length_nil,if_true,h,kW]
theorem bZ {f:D→D→R D} {a b:aE} {ρ:az} {x y z:D} (ha:a ρ= .ok x) (hb:b ρ= .ok y) (h:f x y= .ok z):ah f a b ρ= .ok z:=by simp only [ah,ha,hb,aU,h]
theorem pN {f:D→R D} {a:aE} {ρ:az} {x y:D} (ha:a ρ= .ok x) (h:f x= .ok y):ct f a ρ= .ok y:=by simp only [ct,ha,aU,h]
theorem dy {a:aE} {ρ:az} {c:Bool} (ha:a ρ= .ok (.aw c)):aH a ρ= .ok c:=by simp only [aH,ha,aU,jZ]
theorem h_ {a:ck} {ρ:az} {c:Bool} (ha:a ρ= .ok c):c6 a ρ= .ok (!c):=by simp only [c6,ha,aU]
theorem hM {a b:ck} {ρ:az} {c d:Bool} (ha:a ρ= .ok c) (hb:c=false→b ρ= .ok d):dY a b ρ= .ok (c || d):=by
 cases c
 · simp only [dY,ha,aU,hb rfl,Bool.false_eq_true,if_false,Bool.false_or]
 · simp only [dY,ha,aU,if_true,Bool.true_or]
theorem qb {a b:ck} {ρ:az} {c d:Bool} (ha:a ρ= .ok c) (hb:c=true→b ρ= .ok d):gp a b ρ= .ok (c && d):=by
 cases c
 · simp only [gp,ha,aU,Bool.false_eq_true,if_false,Bool.false_and]
 · simp only [gp,ha,aU,hb rfl,if_true,Bool.true_and]
theorem oR {a b:aE} {ρ:az} {c d:Bool} (ha:a ρ= .ok (.aw c)) (hb:c=true→b ρ= .ok (.aw d)):hI a b ρ= .ok (.aw (c && d)):=by
 cases c
 · simp only [hI,ha,aU,jZ,Bool.false_eq_true,if_false,Bool.false_and]
 · simp only [hI,ha,aU,jZ,hb rfl,if_true,Bool.true_and]
theorem yp {f g:D→D→R D} {a b c:aE} {ρ:az} {x y w:D} {k l:Bool} (ha:a ρ= .ok x) (hb:b ρ= .ok y) (hc:c ρ= .ok w) (hf:f x y= .ok (.aw k)) (hg:g y w= .ok (.aw l)):hL f g a b c ρ= .ok (.aw (k && l)):=by
 cases k
 · simp only [hL,ha,hb,hf,aU,jZ,Bool.false_eq_true,if_false,Bool.false_and]
 · simp only [hL,ha,hb,hc,hf,hg,aU,jZ,if_true,Bool.true_and]
theorem dS {i:Nat} {a:aE} {ρ ρ':az} {d:D} (ha:a ρ= .ok d) (hs:aJ i d ρ= .ok ρ'):b6 i a ρ= .ok (.aV ρ'):=by simp only [b6,ha,aU,hs]
theorem jD {c:ck} {a b:aY} {ρ:az} {k:Bool} (hc:c ρ= .ok k):cx c a b ρ=if k=true then a ρ else b ρ:=by simp only [cx,hc,aU]
theorem kY {c:ck} {e:aE} {b:aY} {ρ:az} {k:Bool} {d:D} (hc:c ρ= .ok k) (he:k=true→e ρ= .ok d):aK (cx c (bS e) cF) b ρ=if k=true then .ok (.dN d) else b ρ:=by
 cases k
 · simp only [aK,cx,hc,aU,cF]; rfl
 · simp only [aK,cx,hc,aU,bS,he rfl]; rfl
theorem e0 {c:ck} {a b:aY} {ρ:az} (hc:c ρ= .ok false):aK (cx c a cF) b ρ=b ρ:=by
 simp only [aK,cx,hc,aU,cF]; rfl
theorem rd {c:ck} {e:aE} {b:aY} {ρ:az} {d:D} (hc:c ρ= .ok true) (he:e ρ= .ok d):aK (cx c (bS e) cF) b ρ= .ok (.dN d):=by
 simp only [aK,cx,hc,aU,bS,he]; rfl
theorem fq {e:aE} {ρ:az} {d:D} (he:e ρ= .ok d):bS e ρ= .ok (.dN d):=by simp only [bS,he,aU]
theorem r5 {mi:bh} {set:D→az→R az} {body:aY} {ds:List D} {ρ:az} (hi:mi ρ= .ok ds):fc mi set body ρ=dQ set body ds ρ:=by rw [fc,hi]; rfl
theorem lE {mi:bh} {set:D→az→R az} {body:aY} {ds:List D} {ρ ρ':az} (hi:mi ρ= .ok ds) (h:dQ set body ds ρ= .ok (.aV ρ')):fc mi set body ρ= .ok (.aV ρ'):=by rw [r5 hi]; exact h
noncomputable def tyB (U:String) (d:D):Bool:=match gN d with
 | some T=>xf T U
 | none=>false
noncomputable def Ty (d:D):Prop:=(gN d).isSome=true
theorem Fs {U:String} {d:D} (h:Ty d):eS U d= .ok (.aw (tyB U d)):=by
 unfold Ty at h
 unfold eS tyB
 cases e:gN d with
 | none=>rw [e] at h; cases h
 | some T=>rfl
noncomputable def hA (d:D) (lo hi:Int):Bool:=match d with
 | .int i=>decide (lo≤i) && decide (i≤hi)
 | _=>false
theorem tK (d:D) (h:Ty d) (lo hi:Int):kh [d,.int lo,.int hi]= .ok (.v (.aw (hA d lo hi))):=by
 cases d with
 | int i=>
   show (uN [.J (.int i),.J (.int lo),.J (.int hi)]).bind outD=_
   have ar:bc 1 zN (af (I 0) ai) [.J (.int i),.J (.int lo),.J (.int hi)]= .ok (.aw true):=rfl
   have aG:hL jf jf (I 1) (I 0) (I 2) [.J (.int i),.J (.int lo),.J (.int hi)]= .ok (.aw (decide (lo≤i) && decide (i≤hi))):=yp rfl rfl rfl rfl rfl
   unfold uN
   rw [fq (oR ar fun _=>aG)]
   rfl
 | non=>rfl
 | aw b=>rfl
 | str x=>rfl
 | lst xs=>rfl
 | b8 xs=>rfl
 | tup xs=>rfl
 | dg a_ xs=>rfl
 | a0 a_ xs=>rfl
 | eI xs=>cases h
 | ins c ns xs=>cases h
 | gj c=>cases h
noncomputable def q6 (d:D):Bool:=match d with
 | .tup xs=>((xs.length:Nat):Int) == 2
 | _=>false
theorem Rz (d:D) (h:Ty d):qV [d]= .ok (.v (.aw (q6 d))):=by
 cases d with
 | tup xs=>
   show (uJ [.J (.tup xs)]).bind outD=_
   unfold uJ
   rw [fq (oR (c:=true) (d:=(((xs.length:Nat):Int) == 2)) rfl fun _=>rfl)]
   rfl
 | non=>rfl
 | aw b=>rfl
 | int i=>rfl
 | str x=>rfl
 | lst xs=>rfl
 | b8 xs=>rfl
 | dg a_ xs=>rfl
 | a0 a_ xs=>rfl
 | eI xs=>cases h
 | ins c ns xs=>cases h
 | gj c=>cases h
theorem RA {d:D} (h:q6 d=true):∃a b,d= .tup [a,b]:=by
 cases d with
 | tup xs=>
   simp only [q6,beq_iff_eq] at h
   match xs,h with
   | [a,b],_=>exact ⟨a,b,rfl⟩
   | [],h=>simp at h
   | [_],h=>simp at h
   | _::_::_::_,h=>simp at h; omega
 | _=>cases h
noncomputable def bF (cs:List Nat):List D:=cs.map fun (c:Nat)=>D.int (c:Int)
theorem nQ {B:List D} {k:Nat} {x:D} (h:B[k]? =some x):ay (.tup B) (.int (k:Int))= .ok x:=by simp only [ay,uw h]
theorem kN {B:List D} {k:Nat} {x:D} (h:B[k]? =some x):ay (.lst B) (.int (k:Int))= .ok x:=by simp only [ay,uw h]
theorem OT {B:List D} {k:Nat} {x:D} (h:B[k]? =some x):ay (.b8 B) (.int (k:Int))= .ok x:=by simp only [ay,uw h]
noncomputable def gG (cs:List Nat) (t:D):Bool:=match t with
 | .tup [.int h,b]=>(decide (0≤h) && decide (h≤(cs.length:Int) - 1)) && hA b 0 ((cs.getD h.toNat 0:Nat) - 1)
 | _=>false
structure mn (t:D):Prop where
 ty:Ty t
 it:∀xs,t= .tup xs→∀x∈xs,Ty x
theorem yt (cs:List Nat) (t:D) (ht:mn t):pw [.tup (bF cs),t]= .ok (.v (.aw (gG cs t))):=by
 show (rR [.J (.tup (bF cs)),.J t]).bind outD=_
 have fp:c6 (aH (bc 1 qV (af (I 1) (ai)))) [.J (.tup (bF cs)),.J t]= .ok (!q6 t):=h_ (dy (mx rfl (Rz t ht.ty)))
 cases hp:q6 t with
 | false=>
   have hd:gG cs t=false:=by
    unfold gG
    split
    · simp [q6] at hp
    · rfl
   rw [hp] at fp
   unfold rR
   rw [kY (k:=true) (d:= .aw false) (hM (c:=true) (d:=true) fp (fun z=>nomatch z)) fun _=>rfl,if_pos rfl,hd]
   rfl
 | true=>
   obtain ⟨a,b,rfl⟩:=RA hp
   rw [hp] at fp
   have cb:Ty a:=ht.it _ rfl a (by simp)
   have tb:Ty b:=ht.it _ rfl b (by simp)
   have ln:(bF cs).length=cs.length:=by simp [bF]
   have b7:c6 (aH (bc 3 kh (af (ah ay (I 1) (ag (.int 0))) (af (ag (.int 0)) (af (ah ig (bk cf (af (I 0) (ai))) (ag (.int 1))) (ai)))))) [.J (.tup (bF cs)),.J (.tup [a,b])]= .ok (!hA a 0 ((cs.length:Int) - 1)):=by
    have z:=tK a cb 0 (((bF cs).length:Nat) - 1)
    rw [ln] at z
    exact h_ (dy (ju rfl rfl (by rw [←ln]; rfl) z))
   have mw:=hM (d:= !hA a 0 ((cs.length:Int) - 1)) fp fun _=>b7
   unfold rR
   rw [kY (d:= .aw false) mw fun _=>rfl]
   cases hw:hA a 0 ((cs.length:Int) - 1) with
   | false=>
     have hd:gG cs (.tup [a,b])=false:=by
      unfold gG
      split
      · rename_i h qe heq
        cases heq
        simp only [hA] at hw
        rw [hw]; rfl
      · rfl
     rw [hd]; rfl
   | true=>
     cases a with
     | int h=>
       simp only [hA,Bool.and_eq_true,decide_eq_true_eq] at hw
       obtain ⟨k,rfl⟩:=Int.eq_ofNat_of_zero_le hw.1
       have hk:k < cs.length:=by omega
       have e:(bF cs)[k]? =some (.int (cs.getD k 0:Nat)):=by
        simp [bF,List.getElem?_eq_getElem hk,List.getD_eq_getElem?_getD]
       have ar:ah ig (ah ay (I 0) (ah ay (I 1) (ag (.int 0)))) (ag (.int 1)) [.J (.tup (bF cs)),.J (.tup [.int k,b])]= .ok (.int ((cs.getD k 0:Nat) - 1)):=bZ (bZ rfl rfl (nQ e)) rfl rfl
       have hd:gG cs (.tup [.int k,b])=hA b 0 ((cs.getD k 0:Nat) - 1):=by
        unfold gG
        simp only [Int.toNat_natCast]
        rw [decide_eq_true (by omega),decide_eq_true (by omega)]; rfl
       rw [fq (ju rfl rfl ar (tK b tb 0 _)),hd]
       rfl
     | _=>cases hw
structure fV where
 cs:List Nat
 ws:List D
 a_:List (List Key)
 ds:List D
noncomputable def bN (n:fV):D:= .ins "Net" ["many","counts","joined","far"] [.int (n.cs.length:Nat),.tup (bF n.cs),.tup n.ws,.a0 n.a_ n.ds]
noncomputable def iX (n:fV) (t:D):Bool:=gG n.cs t && (match lL t with
 | some cp=> !n.a_.any (fun x=>decide (x=cp))
 | none=>false)
theorem OK (n:fV) (t:D) (ht:mn t):v_ [bN n,t]= .ok (.v (.aw (gG n.cs t))):=by
 show (uB [.J (bN n),.J t]).bind outD=_
 have e:ct (eG "Net" "counts") (I 0) [.J (bN n),.J t]= .ok (.tup (bF n.cs)):=rfl
 unfold uB
 rw [fq (call2 e rfl (yt n.cs t ht))]
 rfl
theorem q0 {mt:Str} {mf:List D→R bR} {o a:aE} {ρ:az} {n:fV} {x y:D} (ho:o ρ= .ok (bN n)) (hm:(["many","counts","joined","far"]:List Str).all (fun k=> !(mt == k))=true) (ha:a ρ= .ok x) (h:mf [bN n,x]= .ok (.v y)):hZ "Net" mt 1 mf o (af a ai) ρ= .ok y:=by
 have e:w8 "Net" mt (bN n)= .ok (bN n):=by
  simp only [bN,w8]
  rw [if_pos ⟨trivial,hm⟩]
 simp only [hZ,af,ai,ho,ha,e,aU,List.length_cons,List.length_nil,if_true,h,kW]
theorem Dk {cs:List Nat} {t:D} (h:gG cs t=true):∃a b:Int,t= .tup [.int a,.int b]∧0≤a∧a≤(cs.length:Int) - 1∧0≤b∧b≤(cs.getD a.toNat 0:Nat) - 1:=by
 unfold gG at h
 split at h
 · rename_i a b
   simp only [Bool.and_eq_true,decide_eq_true_eq] at h
   cases b with
   | int b=>
     simp only [hA,Bool.and_eq_true,decide_eq_true_eq] at h
     exact ⟨a,b,rfl,h.1.1,h.1.2,h.2.1,h.2.2⟩
   | _=>exact absurd h.2 (by simp [hA])
 · cases h
theorem zx (n:fV) (t:D) (ht:mn t):pv [bN n,t]= .ok (.v (.aw (iX n t))):=by
 show (uC [.J (bN n),.J t]).bind outD=_
 have ar:hZ "Net" "is_door" 1 v_ (I 0) (af (I 1) (ai)) [.J (bN n),.J t]= .ok (.aw (gG n.cs t)):=q0 rfl (by decide +kernel) rfl (OK n t ht)
 have aG:gG n.cs t=true→ah (es false) (I 1) (ct (eG "Net" "far") (I 0)) [.J (bN n),.J t]= .ok (.aw (match lL t with
   | some cp=> !n.a_.any (fun x=>decide (x=cp))
   | none=>false)):=fun h=>by
  obtain ⟨a,b,rfl,_⟩:=Dk h
  have e:ct (eG "Net" "far") (I 0) [.J (bN n),.J (.tup [.int a,.int b])]= .ok (.a0 n.a_ n.ds):=rfl
  exact bZ rfl e rfl
 unfold uC
 rw [fq (oR ar aG)]
 rfl
theorem yX {cs:List Nat} (h:∀c∈cs,c≤4) (k:Nat):cs.getD k 0≤4:=by
 rw [List.getD_eq_getElem?_getD]
 cases e:cs[k]? with
 | none=>simp
 | some c=>simpa using h c (List.mem_of_getElem? e)
noncomputable def a5 (n:Nat):Nat:=if n=0 then 48 else if n=1 then 49 else 120
noncomputable def txt (a b c d:Nat):Str:=⟨#[a5 a,a5 b,a5 c,a5 d]⟩
noncomputable def t3:List Nat:=[0,1,2]
noncomputable def gx:List Str:=(List.range 81).map fun n=>txt (n % 3) (n / 3 % 3) (n / 9 % 3) (n / 27 % 3)
noncomputable def words:List Str:=["comes","leaves","noring","by","never","come","xxxx","xxx","01x01","012x","XXXX","","0"].map PySem.Str.ofString
noncomputable def mZ:List Str:=words ++ gx
theorem Vr:∀a∈t3,∀b∈t3,∀c∈t3,∀d∈t3,txt a b c d∈gx:=by decide +kernel
noncomputable def sA (b:Bool):R bR→Bool
 | .ok (.v (.aw c))=>b == c
 | _=>false
theorem z2 {b:Bool} {r:R bR} (h:sA b r=true):r= .ok (.v (.aw b)):=by
 unfold sA at h; split at h
 · rw [beq_iff_eq] at h; rw [h]
 · cases h
noncomputable def pE (x:Str):Bool:=match mL [.str x] with
 | .ok (.v (.aw b))=>b
 | _=>false
noncomputable def iY (d:D):Bool:=match d with
 | .str x=>pE x
 | _=>false
structure oP (d:D):Prop where
 ty:Ty d
 st:∀x,d= .str x→x∈mZ
theorem pats:(mZ.all fun x=>sA (pE x) (mL [.str x]))=true:=by decide +kernel
theorem z7 (d:D) (h:oP d):mL [d]= .ok (.v (.aw (iY d)))∧True:=by
 refine ⟨?_,trivial⟩
 cases d with
 | str x=>exact z2 (List.all_eq_true.mp pats x (h.st x rfl))
 | non=>rfl
 | aw b=>rfl
 | int i=>rfl
 | lst xs=>rfl
 | b8 xs=>rfl
 | tup xs=>rfl
 | dg a_ xs=>rfl
 | a0 a_ xs=>rfl
 | eI xs=>exact absurd h.ty (by simp [Ty,gN])
 | ins c ns xs=>exact absurd h.ty (by simp [Ty,gN])
 | gj c=>exact absurd h.ty (by simp [Ty,gN])
noncomputable def v7 (x:Str):Bool:=[D.str (PySem.Str.ofString "leaves"),.str (PySem.Str.ofString "noring")].any fun y=>bA y (.str x)
noncomputable def rV (x:Str):Bool:=[D.str (PySem.Str.ofString "by"),.str (PySem.Str.ofString "never")].any fun y=>bA y (.str x)
noncomputable def ve (x:Str):Bool:=x == PySem.Str.ofString "comes"
noncomputable def jQ (n:fV) (t:D):Bool:=match t with
 | .tup [.str x,p,d]=>iY p && iX n d && v7 x
 | .tup [.str x,p,d,e]=>iY p && iX n d && (if ve x=true then iX n e else rV x && hA e 0 ((n.cs.length:Int) - 1))
 | _=>false
structure pZ (t:D):Prop where
 ty:Ty t
 it:∀xs,t= .tup xs→∀x∈xs,oP x∧mn x
theorem UC {e:aE} {ρ:az} {n:fV} (h:e ρ= .ok (bN n)):ah ig (ct (eG "Net" "many") e) (ag (.int 1)) ρ= .ok (.int ((n.cs.length:Nat) - 1)):=by
 have z:ct (eG "Net" "many") e ρ= .ok (.int (n.cs.length:Nat)):=pN h rfl
 exact bZ z rfl rfl
theorem OB (n:fV) (w p d:D) (hw:oP w) (hp:oP p) (hd:mn d):n2 [.tup [w,p,d],bN n]= .ok (.v (.aw (jQ n (.tup [w,p,d])))):=by
 show (nB [.J (.tup [w,p,d]),.J (bN n)]).bind outD=_
 have bD:dY (c6 (aH (ct (eS "tuple") (I 0)))) (aH (ah (inD false) (bk cf (af (I 0) (ai))) (bG (af (ag (.int 3)) (af (ag (.int 4)) (ai)))))) [.J (.tup [w,p,d]),.J (bN n)]= .ok false:=rfl
 have a1:c6 (aH (ct (eS "str") (ah ay (I 0) (ag (.int 0))))) [.J (.tup [w,p,d]),.J (bN n)]= .ok (!tyB "str" w):=h_ (dy (pN (x:=w) rfl (Fs hw.ty)))
 have a2:c6 (aH (bc 1 mL (af (ah ay (I 0) (ag (.int 1))) (ai)))) [.J (.tup [w,p,d]),.J (bN n)]= .ok (!iY p):=h_ (dy (mx rfl (z7 p hp).1))
 have fY:c6 (aH (hZ "Net" "is_outer" 1 pv (I 1) (af (ah ay (I 0) (ag (.int 2))) (ai)))) [.J (.tup [w,p,d]),.J (bN n)]= .ok (!iX n d):=h_ (dy (q0 rfl (by decide +kernel) rfl (zx n d hd)))
 have c_:=hM a1 fun _=>hM a2 fun _=>fY
 unfold nB
 rw [e0 bD,kY (d:= .aw false) c_ fun _=>rfl]
 cases w with
 | str x=>
   have fx:aH (ah (bT true) (bk cf (af (I 0) (ai))) (ag (.int 3))) [.J (.tup [.str x,p,d]),.J (bN n)]= .ok true:=rfl
   have cM:ah (inD true) (ah ay (I 0) (ag (.int 0))) (bG (af (ag (.str (PySem.Str.ofString "leaves"))) (af (ag (.str (PySem.Str.ofString "noring"))) (ai)))) [.J (.tup [.str x,p,d]),.J (bN n)]= .ok (.aw (v7 x)):=rfl
   rw [rd fx cM]
   have ts:tyB "str" (.str x)=true:=rfl
   simp only [ts,jQ]
   cases iY p <;> cases iX n d <;> rfl
 | non=>rfl
 | aw b=>rfl
 | int i=>rfl
 | lst xs=>rfl
 | b8 xs=>rfl
 | tup xs=>rfl
 | dg a_ xs=>rfl
 | a0 a_ xs=>rfl
 | eI xs=>exact absurd hw.ty (by simp [Ty,gN])
 | ins c ns xs=>exact absurd hw.ty (by simp [Ty,gN])
 | gj c=>exact absurd hw.ty (by simp [Ty,gN])
theorem OC (n:fV) (w p d e:D) (hw:oP w) (hp:oP p) (hd:mn d) (he:mn e):n2 [.tup [w,p,d,e],bN n]= .ok (.v (.aw (jQ n (.tup [w,p,d,e])))):=by
 show (nB [.J (.tup [w,p,d,e]),.J (bN n)]).bind outD=_
 have bD:dY (c6 (aH (ct (eS "tuple") (I 0)))) (aH (ah (inD false) (bk cf (af (I 0) (ai))) (bG (af (ag (.int 3)) (af (ag (.int 4)) (ai)))))) [.J (.tup [w,p,d,e]),.J (bN n)]= .ok false:=rfl
 have a1:c6 (aH (ct (eS "str") (ah ay (I 0) (ag (.int 0))))) [.J (.tup [w,p,d,e]),.J (bN n)]= .ok (!tyB "str" w):=h_ (dy (pN (x:=w) rfl (Fs hw.ty)))
 have a2:c6 (aH (bc 1 mL (af (ah ay (I 0) (ag (.int 1))) (ai)))) [.J (.tup [w,p,d,e]),.J (bN n)]= .ok (!iY p):=h_ (dy (mx rfl (z7 p hp).1))
 have fY:c6 (aH (hZ "Net" "is_outer" 1 pv (I 1) (af (ah ay (I 0) (ag (.int 2))) (ai)))) [.J (.tup [w,p,d,e]),.J (bN n)]= .ok (!iX n d):=h_ (dy (q0 rfl (by decide +kernel) rfl (zx n d hd)))
 have c_:=hM a1 fun _=>hM a2 fun _=>fY
 unfold nB
 rw [e0 bD,kY (d:= .aw false) c_ fun _=>rfl]
 cases w with
 | str x=>
   have fx:aH (ah (bT true) (bk cf (af (I 0) (ai))) (ag (.int 3))) [.J (.tup [.str x,p,d,e]),.J (bN n)]= .ok false:=rfl
   have hj:aH (ah (bT true) (ah ay (I 0) (ag (.int 0))) (ag (.str (PySem.Str.ofString "comes")))) [.J (.tup [.str x,p,d,e]),.J (bN n)]= .ok (ve x):=rfl
   have eF:hZ "Net" "is_outer" 1 pv (I 1) (af (ah ay (I 0) (ag (.int 3))) (ai)) [.J (.tup [.str x,p,d,e]),.J (bN n)]= .ok (.aw (iX n e)):=q0 rfl (by decide +kernel) rfl (zx n e he)
   have gi:hI (ah (inD true) (ah ay (I 0) (ag (.int 0))) (bG (af (ag (.str (PySem.Str.ofString "by"))) (af (ag (.str (PySem.Str.ofString "never"))) (ai))))) (bc 3 kh (af (ah ay (I 0) (ag (.int 3))) (af (ag (.int 0)) (af (ah ig (ct (eG "Net" "many") (I 1)) (ag (.int 1))) (ai))))) [.J (.tup [.str x,p,d,e]),.J (bN n)]= .ok (.aw (rV x && hA e 0 ((n.cs.length:Int) - 1))):=
    oR (c:=rV x) rfl fun _=>ju rfl rfl (UC rfl) (tK e he.ty 0 _)
   rw [e0 fx,kY hj fun _=>eF,fq gi]
   have ts:tyB "str" (.str x)=true:=rfl
   simp only [ts,jQ]
   cases iY p <;> cases iX n d <;> cases ve x <;> rfl
 | non=>rfl
 | aw b=>rfl
 | int i=>rfl
 | lst xs=>rfl
 | b8 xs=>rfl
 | tup xs=>rfl
 | dg a_ xs=>rfl
 | a0 a_ xs=>rfl
 | eI xs=>exact absurd hw.ty (by simp [Ty,gN])
 | ins c ns xs=>exact absurd hw.ty (by simp [Ty,gN])
 | gj c=>exact absurd hw.ty (by simp [Ty,gN])
theorem vT (n:fV) (xs:List D) (h:xs.length < 3∨4 < xs.length):n2 [.tup xs,bN n]= .ok (.v (.aw false)):=by
 show (nB [.J (.tup xs),.J (bN n)]).bind outD=_
 have z:inD false (.int (xs.length:Nat)) (.tup [.int 3,.int 4])= .ok (.aw true):=by
  show R.ok (D.aw (!((3:Int) == (xs.length:Nat) || ((4:Int) == (xs.length:Nat) || false))))=_
  rw [beq_eq_false_iff_ne.mpr (by omega),beq_eq_false_iff_ne.mpr (by omega)]
  rfl
 have bD:dY (c6 (aH (ct (eS "tuple") (I 0)))) (aH (ah (inD false) (bk cf (af (I 0) (ai))) (bG (af (ag (.int 3)) (af (ag (.int 4)) (ai)))))) [.J (.tup xs),.J (bN n)]= .ok (false || true):=
  hM (c:=false) rfl fun _=>dy (bZ rfl rfl z)
 unfold nB
 rw [rd (d:= .aw false) bD rfl]
 rfl
theorem OH (n:fV) (t:D) (h:pZ t):n2 [t,bN n]= .ok (.v (.aw (jQ n t))):=by
 cases t with
 | tup xs=>
   have it:=h.it xs rfl
   match xs,it with
   | [w,p,d],it=>exact OB n w p d (it w (by simp)).1 (it p (by simp)).1 (it d (by simp)).2
   | [w,p,d,e],it=>exact OC n w p d e (it w (by simp)).1 (it p (by simp)).1 (it d (by simp)).2 (it e (by simp)).2
   | [],_=>exact vT n [] (by simp)
   | [a],_=>rw [vT n [a] (by simp)]; cases a <;> rfl
   | [a,b],_=>rw [vT n [a,b] (by simp)]; cases a <;> rfl
   | a::b::c::d::e::r,_=>rw [vT n (a::b::c::d::e::r) (by simp)]; cases a <;> rfl
 | non=>rfl
 | aw b=>rfl
 | int i=>rfl
 | str x=>rfl
 | lst xs=>rfl
 | b8 xs=>rfl
 | dg a_ xs=>rfl
 | a0 a_ xs=>rfl
 | eI xs=>exact absurd h.ty (by simp [Ty,gN])
 | ins c ns xs=>exact absurd h.ty (by simp [Ty,gN])
 | gj c=>exact absurd h.ty (by simp [Ty,gN])
theorem jb {a:aE} {ρ:az} {n m:Int} (ha:a ρ= .ok (.int n)) (h:rz n m):ah da a (ag (.int m)) ρ= .ok (.int (n / m)):=bZ ha rfl (by simp only [da,gn,if_pos h])
theorem gq {a b:aE} {ρ:az} {n m:Int} (ha:a ρ= .ok (.int n)) (hb:b ρ= .ok (.int m)) (h:0 < m):ah cG a b ρ= .ok (.int (n % m)):=bZ ha hb (by simp only [cG,gn,if_pos h])
theorem i_ {a b:aE} {ρ:az} {n m:Int} (ha:a ρ= .ok (.int n)) (hb:b ρ= .ok (.int m)):ah b1 a b ρ= .ok (.int (n + m)):=bZ ha hb rfl
theorem s_ {a b:aE} {ρ:az} {n m:Int} (ha:a ρ= .ok (.int n)) (hb:b ρ= .ok (.int m)) (h:oB n m):ah ib a b ρ= .ok (.int (n * m)):=bZ ha hb (by simp only [ib,gn,if_pos h])
theorem SV (j:Int) (h0:0≤j) (h1:j≤1000000):wX [.int j]= .ok ((List.range j.toNat).map fun i=> .int (0 + ((i:Nat):Int))):=by
 have h: -(2 ^ 62)≤j∧j < 2 ^ 62:=⟨by omega,by omega⟩
 simp only [wX,if_pos h,lU]
theorem lT {a:aE} {ρ:az} {j:Int} (ha:a ρ= .ok (.int j)) (h0:0≤j) (h1:j≤1000000):dU (af a ai) ρ= .ok ((List.range j.toNat).map fun i=> .int (0 + ((i:Nat):Int))):=by
 simp only [dU,af,ai,ha,aU,SV j h0 h1]
theorem J1 (ρ:az):∃m:Int,0 < m∧ah kQ (ah kQ (ah iZ (ag (.int 10)) (ag (.int 60))) (ah iZ (ag (.int 10)) (ag (.int 60)))) (ah iZ (ag (.int 10)) (ag (.int 60))) ρ= .ok (.int m):=by
 have ar:rA 10 60:=⟨by decide,by decide,by decide⟩
 have p:ah iZ (ag (.int 10)) (ag (.int 60)) ρ= .ok (.int (10 ^ 60)):=bZ rfl rfl (by simp only [iZ,gn,if_pos ar]; rfl)
 have k1:IntMulOk (10 ^ 60) (10 ^ 60):=by decide +kernel
 have k2:IntMulOk (10 ^ 60 * 10 ^ 60) (10 ^ 60):=by decide +kernel
 have q:ah kQ (ah iZ (ag (.int 10)) (ag (.int 60))) (ah iZ (ag (.int 10)) (ag (.int 60))) ρ= .ok (.int (10 ^ 60 * 10 ^ 60)):=bZ p p (by simp only [kQ,gn,if_pos k1])
 have bX:ah kQ (ah kQ (ah iZ (ag (.int 10)) (ag (.int 60))) (ah iZ (ag (.int 10)) (ag (.int 60)))) (ah iZ (ag (.int 10)) (ag (.int 60))) ρ= .ok (.int (10 ^ 60 * 10 ^ 60 * 10 ^ 60)):=bZ q p (by simp only [kQ,gn,if_pos k2])
 exact ⟨_,by decide,bX⟩
theorem vd (ns:List Int) (k:Nat):∃c:Int,iT [.b8 (ns.map D.int),.int k]= .ok (.v (.int c)):=by
 show ∃c:Int,(uU [.J (.b8 (ns.map D.int)),.J (.int k)]).bind outD=_
 have mw:aH (ah nT (I 1) (bk cf (af (I 0) (ai)))) [.J (.b8 (ns.map D.int)),.J (.int k)]= .ok (decide ((k:Int) < ((ns.map D.int).length:Nat))):=rfl
 unfold uU
 rw [aK,jD mw]
 by_cases h:k < ns.length
 · rw [if_pos (by rw [List.length_map]; exact decide_eq_true (by omega))]
   have e:(ns.map D.int)[k]? =some (.int ns[k]):=by rw [List.getElem?_map,List.getElem?_eq_getElem h]; rfl
   obtain ⟨m,hm,em⟩:=J1 [.J (.b8 (ns.map D.int)),.J (.int k)]
   have ar:=gq (bZ (a:=I 0) (b:=I 1) (ρ:=[.J (.b8 (ns.map D.int)),.J (.int k)]) rfl rfl (OT e)) em hm
   exact ⟨ns[k] % m,by rw [fq ar]; rfl⟩
 · rw [if_neg (by rw [List.length_map,decide_eq_true_iff]; omega)]
   have ar:ah b1 (ah ib (ag (.int 14)) (I 1)) (ag (.int 2)) [.J (.b8 (ns.map D.int)),.J (.int k)]= .ok (.int (14 * k + 2)):=i_ (s_ rfl rfl (.inl ⟨by decide,by decide⟩)) rfl
   exact ⟨14 * k + 2,by simp only [cF,aU]; rw [fq ar]; rfl⟩
theorem rQ {i:Nat} {e:aE} {ρ:az} {ds:List D} {d:D} (ho:ownAt i ρ= .ok ds) (he:e ρ= .ok d) (h:ds.length < 1000000):hz i e ρ= .ok (.aV (ρ.set i (.cD (ds ++ [d])))):=by
 simp only [hz,ho,he,aU,if_pos h]
noncomputable def wZ:aY:=(aK (hz 3 (ah cG (I 4) (ag (.int 720720))))
  (b6 4 (ah da (I 4) (ag (.int 720720)))))
noncomputable def w0:aY:=(aK (b6 4 (ah cG (ah b1 (ah b1 (ah ib (I 4) (ag (.int 69621))) (ah ib (ag (.int 48271)) (I 5))) (I 1)) (ag (.int 2147483629))))
  (hz 3 (ah da (I 4) (ag (.int 7)))))
theorem Hj (c s m:Int):∀(a_:List Nat) (xs:List Int) (n:Int) (k:bM),xs.length + a_.length < 1000→∃(ys:List Int) (kR:Int) (k':bM),ys.length=xs.length + a_.length∧dQ (aJ 5) wZ (a_.map fun i=> .int (0 + ((i:Nat):Int))) [.J (.int c),.J (.int s),.J (.int m),.cD (xs.map D.int),.J (.int n),k]= .ok (.aV [.J (.int c),.J (.int s),.J (.int m),.cD (ys.map D.int),.J (.int kR),k'])
 | [],xs,n,k,_=>⟨xs,n,k,rfl,rfl⟩
 | i::a_,xs,n,k,h=>by
   simp only [List.length_cons] at h
   have cw:aJ 5 (.int (0 + ((i:Nat):Int))) [.J (.int c),.J (.int s),.J (.int m),.cD (xs.map D.int),.J (.int n),k]= .ok [.J (.int c),.J (.int s),.J (.int m),.cD (xs.map D.int),.J (.int n),.J (.int (0 + ((i:Nat):Int)))]:=rfl
   have a1:=rQ (i:=3) (e:=ah cG (I 4) (ag (.int 720720))) (ρ:=[.J (.int c),.J (.int s),.J (.int m),.cD (xs.map D.int),.J (.int n),.J (.int (0 + ((i:Nat):Int)))]) (ds:=xs.map D.int) rfl (gq rfl rfl (by decide)) (by rw [List.length_map]; omega)
   have a2:b6 4 (ah da (I 4) (ag (.int 720720))) [.J (.int c),.J (.int s),.J (.int m),.cD (xs.map D.int ++ [.int (n % 720720)]),.J (.int n),.J (.int (0 + ((i:Nat):Int)))]= .ok (.aV [.J (.int c),.J (.int s),.J (.int m),.cD (xs.map D.int ++ [.int (n % 720720)]),.J (.int (n / 720720)),.J (.int (0 + ((i:Nat):Int)))]):=dS (jb rfl ⟨by decide,by decide⟩) rfl
   have ar:wZ [.J (.int c),.J (.int s),.J (.int m),.cD (xs.map D.int),.J (.int n),.J (.int (0 + ((i:Nat):Int)))]= .ok (.aV [.J (.int c),.J (.int s),.J (.int m),.cD ((xs ++ [n % 720720]).map D.int),.J (.int (n / 720720)),.J (.int (0 + ((i:Nat):Int)))]):=by
    unfold wZ
    rw [cu a1,List.map_append]
    exact a2
   rw [List.map_cons,dQ,cw,aU,ar,aU]
   obtain ⟨ys,kR,k',hl,e⟩:=Hj c s m a_ (xs ++ [n % 720720]) (n / 720720) (.J (.int (0 + ((i:Nat):Int)))) (by rw [List.length_append,List.length_singleton]; omega)
   exact ⟨ys,kR,k',by rw [hl,List.length_append,List.length_singleton,List.length_cons]; omega,e⟩
theorem Hk (c s m:Int):∀(a_:List Nat) (xs:List Int) (n:Int) (k:bM),xs.length + a_.length < 1000→∃(ys:List Int) (kR:Int) (k':bM),ys.length=xs.length + a_.length∧dQ (aJ 5) w0 (a_.map fun i=> .int (0 + ((i:Nat):Int))) [.J (.int c),.J (.int s),.J (.int m),.cD (xs.map D.int),.J (.int n),k]= .ok (.aV [.J (.int c),.J (.int s),.J (.int m),.cD (ys.map D.int),.J (.int kR),k'])
 | [],xs,n,k,_=>⟨xs,n,k,rfl,rfl⟩
 | i::a_,xs,n,k,h=>by
   simp only [List.length_cons] at h
   have cw:aJ 5 (.int (0 + ((i:Nat):Int))) [.J (.int c),.J (.int s),.J (.int m),.cD (xs.map D.int),.J (.int n),k]= .ok [.J (.int c),.J (.int s),.J (.int m),.cD (xs.map D.int),.J (.int n),.J (.int (0 + ((i:Nat):Int)))]:=rfl
   let dc:Int:=(n * 69621 + 48271 * (0 + ((i:Nat):Int)) + s) % 2147483629
   have a1:b6 4 (ah cG (ah b1 (ah b1 (ah ib (I 4) (ag (.int 69621))) (ah ib (ag (.int 48271)) (I 5))) (I 1)) (ag (.int 2147483629))) [.J (.int c),.J (.int s),.J (.int m),.cD (xs.map D.int),.J (.int n),.J (.int (0 + ((i:Nat):Int)))]= .ok (.aV [.J (.int c),.J (.int s),.J (.int m),.cD (xs.map D.int),.J (.int dc),.J (.int (0 + ((i:Nat):Int)))]):=
    dS (gq (i_ (i_ (s_ rfl rfl (.inr ⟨by decide,by decide⟩)) (s_ rfl rfl (.inl ⟨by decide,by decide⟩))) rfl) rfl (by decide)) rfl
   have a2:=rQ (i:=3) (e:=ah da (I 4) (ag (.int 7))) (ρ:=[.J (.int c),.J (.int s),.J (.int m),.cD (xs.map D.int),.J (.int dc),.J (.int (0 + ((i:Nat):Int)))]) (ds:=xs.map D.int) rfl (jb rfl ⟨by decide,by decide⟩) (by rw [List.length_map]; omega)
   have ar:w0 [.J (.int c),.J (.int s),.J (.int m),.cD (xs.map D.int),.J (.int n),.J (.int (0 + ((i:Nat):Int)))]= .ok (.aV [.J (.int c),.J (.int s),.J (.int m),.cD ((xs ++ [dc / 7]).map D.int),.J (.int dc),.J (.int (0 + ((i:Nat):Int)))]):=by
    unfold w0
    rw [cu a1,List.map_append]
    exact a2
   rw [List.map_cons,dQ,cw,aU,ar,aU]
   obtain ⟨ys,kR,k',hl,e⟩:=Hk c s m a_ (xs ++ [dc / 7]) dc (.J (.int (0 + ((i:Nat):Int)))) (by rw [List.length_append,List.length_singleton]; omega)
   exact ⟨ys,kR,k',by rw [hl,List.length_append,List.length_singleton,List.length_cons]; omega,e⟩
theorem xd (c s:Int) (m:Nat) (hm:m < 500):∃ys:List Int,ys.length=m∧jh [.int c,.int s,.int m]= .ok (.o (ys.map D.int)):=by
 show ∃ys:List Int,ys.length=m∧(u2 [.J (.int c),.J (.int s),.J (.int m),.un,.un,.un]).bind outD=_
 have a1:d5 3 (bK (ai)) [.J (.int c),.J (.int s),.J (.int m),.un,.un,.un]= .ok (.aV [.J (.int c),.J (.int s),.J (.int m),.cD [],.un,.un]):=rfl
 have a2:b6 4 (ah da (I 0) (ag (.int 2))) [.J (.int c),.J (.int s),.J (.int m),.cD [],.un,.un]= .ok (.aV [.J (.int c),.J (.int s),.J (.int m),.cD [],.J (.int (c / 2)),.un]):=dS (jb rfl ⟨by decide,by decide⟩) rfl
 have fx:aH (ah (bT true) (ah cG (I 0) (ag (.int 2))) (ag (.int 1))) [.J (.int c),.J (.int s),.J (.int m),.cD [],.J (.int (c / 2)),.un]= .ok (c % 2 == (1:Int)):=dy (bZ (gq rfl rfl (by decide)) rfl rfl)
 have Hh:∀x:bM,dU (af (I 2) (ai)) [.J (.int c),.J (.int s),.J (.int m),.cD [],x,.un]= .ok ((List.range m).map fun i=> .int (0 + ((i:Nat):Int))):=fun x=>lT (a:=I 2) (j:=(m:Int)) rfl (by omega) (by omega)
 unfold u2
 rw [cu a1,cu a2]
 cases hc:(c % 2 == (1:Int)) with
 | true=>
   rw [hc] at fx
   obtain ⟨ys,kR,k',hl,e⟩:=Hj c s m (List.range m) [] (c / 2) .un (by simp; omega)
   have f:=lE (Hh (.J (.int (c / 2)))) e
   unfold wZ at f
   refine ⟨ys,by simpa using hl,?_⟩
   rw [aK,jD fx,if_pos rfl,cu f]
   rfl
 | false=>
   rw [hc] at fx
   rw [aK,jD fx,if_neg Bool.false_ne_true]
   let dc:Int:=(c / 2 * 48271 + s * 69621 + 12345) % 2147483647
   have mq:b6 4 (ah cG (ah b1 (ah b1 (ah ib (I 4) (ag (.int 48271))) (ah ib (I 1) (ag (.int 69621)))) (ag (.int 12345))) (ag (.int 2147483647))) [.J (.int c),.J (.int s),.J (.int m),.cD [],.J (.int (c / 2)),.un]= .ok (.aV [.J (.int c),.J (.int s),.J (.int m),.cD [],.J (.int dc),.un]):=
    dS (gq (i_ (i_ (s_ rfl rfl (.inr ⟨by decide,by decide⟩)) (s_ rfl rfl (.inr ⟨by decide,by decide⟩))) rfl) rfl (by decide)) rfl
   obtain ⟨ys,kR,k',hl,e⟩:=Hk c s m (List.range m) [] dc .un (by simp; omega)
   have f:=lE (Hh (.J (.int dc))) e
   unfold w0 at f
   refine ⟨ys,by simpa using hl,?_⟩
   simp only [cF,aU]
   rw [cu mq,cu f]
   rfl
noncomputable def s5 (n:Int):Nat:=min (n % 5).toNat 2
theorem zU (n:Int):n % 5=0∨n % 5=1∨n % 5=2∨n % 5=3∨n % 5=4:=by omega
theorem w1 (n:Int):s5 n∈t3:=by
 unfold s5
 rcases zU n with h | h | h | h | h <;> rw [h] <;> decide
theorem R7 (n:Int):ay (.str (PySem.Str.ofString "01xxx")) (.int (n % 5))= .ok (.str ⟨#[a5 (s5 n)]⟩):=by
 unfold s5
 rcases zU n with h | h | h | h | h <;> rw [h] <;> rfl
noncomputable def tk:aY:=(aK (b6 1 (ah b1 (I 1) (ah ay (ag (.str (PySem.Str.ofString "01xxx"))) (ah cG (I 0) (ag (.int 5))))))
  (b6 0 (ah da (I 0) (ag (.int 5)))))
theorem wK (n k:Int) (s:Str) (hs:s.length≤10) (x:bM) (ds:List D) :
  dQ (aJ 2) tk (.int k::ds) [.J (.int n),.J (.str s),x]=dQ (aJ 2) tk ds [.J (.int (n / 5)),.J (.str (s ++ ⟨#[a5 (s5 n)]⟩)),.J (.int k)]:=by
 have h1:s.length + (⟨#[a5 (s5 n)]⟩:Str).length≤1000000:=by
  have:(⟨#[a5 (s5 n)]⟩:Str).length=1:=rfl
  omega
 have cw:aJ 2 (.int k) [.J (.int n),.J (.str s),x]= .ok [.J (.int n),.J (.str s),.J (.int k)]:=rfl
 have a1:b6 1 (ah b1 (I 1) (ah ay (ag (.str (PySem.Str.ofString "01xxx"))) (ah cG (I 0) (ag (.int 5))))) [.J (.int n),.J (.str s),.J (.int k)]= .ok (.aV [.J (.int n),.J (.str (s ++ ⟨#[a5 (s5 n)]⟩)),.J (.int k)]):=
  dS (bZ rfl (bZ rfl (gq rfl rfl (by decide)) (R7 n)) (by simp only [b1,if_pos h1])) rfl
 have a2:b6 0 (ah da (I 0) (ag (.int 5))) [.J (.int n),.J (.str (s ++ ⟨#[a5 (s5 n)]⟩)),.J (.int k)]= .ok (.aV [.J (.int (n / 5)),.J (.str (s ++ ⟨#[a5 (s5 n)]⟩)),.J (.int k)]):=
  dS (jb rfl ⟨by decide,by decide⟩) rfl
 have ar:tk [.J (.int n),.J (.str s),.J (.int k)]= .ok (.aV [.J (.int (n / 5)),.J (.str (s ++ ⟨#[a5 (s5 n)]⟩)),.J (.int k)]):=by
  unfold tk; rw [cu a1,a2]
 rw [dQ,cw,aU,ar,aU]
theorem Gz (n:Int):∃p,p∈gx∧px [.int n]= .ok (.v (.str p)):=by
 refine ⟨txt (s5 n) (s5 (n / 5)) (s5 (n / 5 / 5)) (s5 (n / 5 / 5 / 5)),Vr _ (w1 _) _ (w1 _) _ (w1 _) _ (w1 _),?_⟩
 show (uY [.J (.int n),.un,.un]).bind outD=_
 have e:uY [.J (.int n),.un,.un]=(dQ (aJ 2) tk [.int 0,.int 1,.int 2,.int 3] [.J (.int n),.J (.str (PySem.Str.ofString "")),.un]).bind fun f=>match f with
   | .aV ρ'=>bS (I 1) ρ'
   | f=> .ok f:=rfl
 rw [e,wK _ _ _ (by decide),wK _ _ _ (by exact Nat.le_of_ble_eq_true rfl),wK _ _ _ (by exact Nat.le_of_ble_eq_true rfl),wK _ _ _ (by exact Nat.le_of_ble_eq_true rfl)]
 rfl
structure eM (x:D):Prop where
 w:oP x
 t:mn x
 g:pZ x
theorem sF {x:D} (h:Ty x) (s:∀y,x≠ .str y) (n:∀xs,x≠ .tup xs):eM x:=⟨⟨h,fun y e=>absurd e (s y)⟩,⟨h,fun xs e=>absurd e (n xs)⟩,⟨h,fun xs e=>absurd e (n xs)⟩⟩
theorem FA:eM .non:=sF rfl (fun _ z=>nomatch z) (fun _ z=>nomatch z)
theorem e9 (i:Int):eM (.int i):=sF rfl (fun _ z=>nomatch z) (fun _ z=>nomatch z)
theorem zA (i:Bool):eM (.aw i):=sF rfl (fun _ z=>nomatch z) (fun _ z=>nomatch z)
theorem zB (i:List D):eM (.lst i):=sF rfl (fun _ z=>nomatch z) (fun _ z=>nomatch z)
theorem OW (k:List Key) (i:List D):eM (.dg k i):=sF rfl (fun _ z=>nomatch z) (fun _ z=>nomatch z)
theorem kd {x:Str} (h:x∈mZ):eM (.str x):=⟨⟨rfl,fun y e=>by cases e; exact h⟩,⟨rfl,fun _ z=>nomatch z⟩,⟨rfl,fun _ z=>nomatch z⟩⟩
theorem vW {xs:List D} (h:∀x∈xs,eM x):eM (.tup xs):=⟨⟨rfl,fun _ z=>nomatch z⟩,⟨rfl,fun ys e x hx=>by cases e; exact (h x hx).w.ty⟩,⟨rfl,fun ys e x hx=>by cases e; exact ⟨(h x hx).w,(h x hx).t⟩⟩⟩
theorem FC {a:D} (ha:eM a):eM (.tup [a]):=vW fun x h=>by rw [List.mem_singleton.mp h]; exact ha
theorem mF {a b:D} (ha:eM a) (hb:eM b):eM (.tup [a,b]):=vW fun x h=>by
 rcases List.mem_cons.mp h with rfl | h
 · exact ha
 · rw [List.mem_singleton.mp h]; exact hb
theorem sG {a b c:D} (ha:eM a) (hb:eM b) (hc:eM c):eM (.tup [a,b,c]):=vW fun x h=>by
 rcases List.mem_cons.mp h with rfl | h
 · exact ha
 · rcases List.mem_cons.mp h with rfl | h
   · exact hb
   · rw [List.mem_singleton.mp h]; exact hc
theorem qF {a b c d:D} (ha:eM a) (hb:eM b) (hc:eM c) (hd:eM d):eM (.tup [a,b,c,d]):=vW fun x h=>by
 rcases List.mem_cons.mp h with rfl | h
 · exact ha
 · rcases List.mem_cons.mp h with rfl | h
   · exact hb
   · rcases List.mem_cons.mp h with rfl | h
     · exact hc
     · rw [List.mem_singleton.mp h]; exact hd
theorem qG {s:String} (h:PySem.Str.ofString s∈mZ):eM (.str (PySem.Str.ofString s)):=kd h
theorem OX {p:Str} (h:p∈gx):eM (.str p):=kd (List.mem_append_right _ h)
theorem z9 (os:List D) (h:os≠[]) (x:Int):∃y∈os,ay (.lst os) (.int (x % (os.length:Nat)))= .ok y:=by
 have hl:0 < os.length:=List.length_pos_iff.mpr h
 have h0:0≤x % (os.length:Nat):=Int.emod_nonneg _ (by omega)
 have h1:x % (os.length:Nat) < (os.length:Nat):=Int.emod_lt_of_pos _ (by omega)
 obtain ⟨k,e⟩:=Int.eq_ofNat_of_zero_le h0
 rw [e] at h1 ⊢
 have hk:k < os.length:=by omega
 exact ⟨os[k],List.getElem_mem hk,kN (List.getElem?_eq_getElem hk)⟩
theorem iP {a:aE} {ρ:az} {xs:List D} (ha:a ρ= .ok (.lst xs)):bk cf (af a ai) ρ= .ok (.int (xs.length:Nat)):=by
 simp only [bk,af,ai,ha,aU,cf]
theorem GO {a:aE} {b:aE} {ρ:az} {os:List D} {x:Int} (ha:a ρ= .ok (.lst os)) (hb:b ρ= .ok (.int x)) (h:os≠[]):∃y∈os,ah ay a (ah cG b (bk cf (af a ai))) ρ= .ok y:=by
 obtain ⟨y,b5,e⟩:=z9 os h x
 have hl:0 < os.length:=List.length_pos_iff.mpr h
 exact ⟨y,b5,bZ ha (gq hb (iP ha) (by omega)) e⟩
noncomputable def AllK (l:List D):Prop:=∀y∈l,eM y
theorem Cf:AllK []:=fun _ h=>nomatch h
theorem fF {x:D} {l:List D} (h:eM x) (t:AllK l):AllK (x::l):=fun y b5=>by
 rcases List.mem_cons.mp b5 with rfl | b5
 · exact h
 · exact t y b5
theorem ur {a b:aE} {ρ:az} {xs ys:List D} (ha:a ρ= .ok (.lst xs)) (hb:b ρ= .ok (.lst ys)) (h:xs.length + ys.length≤1000):ah b1 a b ρ= .ok (.lst (xs ++ ys)):=bZ ha hb (by simp only [b1,if_pos (show xs.length + ys.length≤1000000 by omega)])
theorem bj {a:aE} {r:bh} {ρ:az} {x:D} {xs:List D} (ha:a ρ= .ok x) (hr:r ρ= .ok xs):af a r ρ= .ok (x::xs):=by simp only [af,ha,hr,aU]
theorem kF {m:bh} {ρ:az} {xs:List D} (h:m ρ= .ok xs) (hl:xs.length≤1000):a9 (bK m) ρ= .ok (.lst xs):=by
 simp only [a9,bK,lim,h,aU,if_pos (show xs.length≤1000000 by omega)]
theorem fO {m:bh} {ρ:az} {xs:List D} (h:m ρ= .ok xs) (hl:xs.length≤1000):bG m ρ= .ok (.tup xs):=by
 simp only [bG,h,aU,if_pos (show xs.length≤1000000 by omega)]
noncomputable def rH:List D:=[.non,.aw true,.int 5,.str (PySem.Str.ofString "xxxx"),.str (PySem.Str.ofString "xxx"),.str (PySem.Str.ofString "01x01"),.str (PySem.Str.ofString "012x"),.str (PySem.Str.ofString "XXXX"),.str (PySem.Str.ofString ""),.str (PySem.Str.ofString "come"),.str (PySem.Str.ofString "never"),.str (PySem.Str.ofString "by"),.tup [.str (PySem.Str.ofString "leaves")],.lst []]
noncomputable def bb (l c:Int):List D:=[.tup [.int l,.int 0],.tup [.int 0,.int c],.tup [.int 0],.tup [.int 0,.int 0,.int 0],.tup [.int (-1),.int 0],.lst [.int 0,.int 0],.tup [.aw true,.int 0],.tup [.int 0,.aw false],.dg [] []]
theorem k1:AllK rH:=by
 unfold rH
 refine fF FA (fF (zA _) (fF (e9 _) (fF (kd (by decide +kernel)) (fF (kd (by decide +kernel)) (fF (kd (by decide +kernel)) (fF (kd (by decide +kernel)) (fF (kd (by decide +kernel)) (fF (kd (by decide +kernel)) (fF (kd (by decide +kernel)) (fF (kd (by decide +kernel)) (fF (kd (by decide +kernel)) (fF (FC (kd (by decide +kernel))) (fF (zB _) Cf)))))))))))))
theorem k2 (l c:Int):AllK (bb l c):=by
 unfold bb
 exact fF (mF (e9 _) (e9 _)) (fF (mF (e9 _) (e9 _)) (fF (FC (e9 _)) (fF (sG (e9 _) (e9 _) (e9 _)) (fF (mF (e9 _) (e9 _)) (fF (zB _) (fF (mF (zA _) (e9 _)) (fF (mF (e9 _) (zA _)) (fF (OW _ _) Cf))))))))
noncomputable abbrev ax:=Nat×Nat
noncomputable def aB (d:ax):D:= .tup [.int (d.1:Nat),.int (d.2:Nat)]
noncomputable def cH (w:ax×ax):D:= .tup [aB w.1,aB w.2]
noncomputable def ends (ws:List (ax×ax)):List ax:=(ws.map fun w=>[w.1,w.2]).flatten
structure Lay (all left:List ax) (ws:List (ax×ax)):Prop where
 bg:(left ++ ends ws).Nodup
 sub:∀d∈left ++ ends ws,d∈all
theorem yJ {α:Type}:∀(l:List α) (i:Nat) (h:i < l.length),List.Perm (l[i]::l.eraseIdx i) l
 | x::l,0,_=>List.Perm.refl _
 | x::l,i + 1,h=>by
   have c0:=yJ l i (by simpa using h)
   simp only [List.getElem_cons_succ,List.eraseIdx_cons_succ]
   exact (List.Perm.swap x _ _).trans (c0.cons x)
theorem Lay.take {all left:List ax} {ws:List (ax×ax)} (h:Lay all left ws) {i j:Nat} (hi:i < left.length) (dx:j < (left.eraseIdx i).length) :
  Lay all ((left.eraseIdx i).eraseIdx j) (ws ++ [(left[i],(left.eraseIdx i)[j])]):=by
 have fp:List.Perm left (left[i]::left.eraseIdx i):=(yJ left i hi).symm
 have b7:List.Perm (left.eraseIdx i) ((left.eraseIdx i)[j]::(left.eraseIdx i).eraseIdx j):=(yJ (left.eraseIdx i) j dx).symm
 have pF:ends (ws ++ [(left[i],(left.eraseIdx i)[j])])=ends ws ++ [left[i],(left.eraseIdx i)[j]]:=by simp [ends]
 have pp:List.Perm (left ++ ends ws) ((left.eraseIdx i).eraseIdx j ++ ends (ws ++ [(left[i],(left.eraseIdx i)[j])])):=by
  rw [pF]
  refine (List.Perm.append_right _ (fp.trans (List.Perm.cons _ b7))).trans ?_
  refine (List.perm_append_comm (l₁:=[left[i],(left.eraseIdx i)[j]]) (l₂:=(left.eraseIdx i).eraseIdx j ++ ends ws)).trans ?_
  rw [List.append_assoc]
 exact ⟨pp.nodup_iff.mp h.bg,fun d hd=>h.sub d (pp.mem_iff.mpr hd)⟩
theorem zS {α β:Type} (f:α→β):∀(l:List α) (i:Nat),(l.eraseIdx i).map f=(l.map f).eraseIdx i
 | [],_=>rfl
 | x::l,0=>rfl
 | x::l,i + 1=>by simp only [List.eraseIdx_cons_succ,List.map_cons,zS f l i]
theorem GU {i:Nat} {e:aE} {ρ:az} {ds:List D} {k:Nat} (ho:ownAt i ρ= .ok ds) (he:e ρ= .ok (.int k)) (h:k < ds.length) (hl:ds.length < 1000):jJ i e ρ= .ok (ds[k],ρ.set i (.cD (ds.eraseIdx k))):=by
 have gh: -(2 ^ 63)≤(k:Int):=Int.le_trans (by decide) (Int.natCast_nonneg k)
 have fG:(k:Int) < 2 ^ 63:=Int.lt_trans (b:=1000) (by omega) (by decide)
 have s:seqIndex? (k:Int) ds.length=some k:=by
  rw [PySem.seqIndex_of (by omega) (by omega)]; simp
 unfold jJ
 rw [ho,aU,he,aU]
 show (if -(2 ^ 63)≤(k:Int)∧(k:Int) < 2 ^ 63 then _ else _)=_
 rw [if_pos ⟨gh,fG⟩,s]
 show (match ds[k]? with
  | some y=>_
  | none=>_)=_
 rw [List.getElem?_eq_getElem h]
theorem P9 {a:aE} {ρ:az} {x:D} (h:a ρ= .ok x):lf a ρ= .ok (x,ρ):=by simp only [lf,h,aU]
theorem Dd {a:fs} {r:i8} {ρ d9 ep:az} {x:D} {xs:List D} (ha:a ρ= .ok (x,d9)) (hb:r d9= .ok (xs,ep)):jg a r ρ= .ok (x::xs,ep):=by simp only [jg,ha,hb,aU]
theorem Qy (ρ:az):mI ai ρ= .ok ([],ρ):=rfl
theorem Ua {i:Nat} {a:fs} {ρ d9 ρ':az} {d:D} (ha:a ρ= .ok (d,d9)) (hs:aJ i d d9= .ok ρ'):nZ i a ρ= .ok (.aV ρ'):=by simp only [nZ,ha,aU,hs]
theorem yk {m:aE} {ρ:az} {i:Int} (h:m (et ρ)= .ok (.int i)):jG m ρ= .ok (.int i):=by
 simp only [jG,h,aU]; rfl
structure Env where
 c:D
 m:D
 xs:List Int
 y:D
 cs:D
noncomputable def Env.ρ (e:Env) (left:List ax) (cj:D) (ws:List (ax×ax)) (cZ cy:bM):az:=[.J e.c,.J e.m,.J (.lst (e.xs.map D.int)),.J e.y,.J e.cs,.cD (left.map aB),.J cj,.cD (ws.map cH),cZ,cy]
noncomputable def wQ:aE:=jG (ah cG (ah ay (I 2) (ah b1 (ag (.int 9)) (I 8))) (bk cf (af (I 5) (ai))))
noncomputable def q7:aE:=jG (ah cG (ah da (ah ay (I 2) (ah ig (ag (.int 23)) (I 8))) (ag (.int 5))) (bk cf (af (I 5) (ai))))
theorem rp {xs:List Int} (h:xs.length=24) {j:Nat} (dx:j < 24):∃x:Int,ay (.lst (xs.map D.int)) (.int (j:Int))= .ok (.int x):=by
 have e:(xs.map D.int)[j]? =some (.int (xs[j]'(by omega))):=by rw [List.getElem?_map,List.getElem?_eq_getElem (by omega)]; rfl
 exact ⟨_,kN e⟩
theorem mO (x:Int) (n:Nat) (h:0 < n):∃k:Nat,k < n∧x % (n:Nat)=(k:Int):=by
 have h0:0≤x % (n:Nat):=Int.emod_nonneg _ (by omega)
 have h1:x % (n:Nat) < (n:Nat):=Int.emod_lt_of_pos _ (by omega)
 obtain ⟨k,e⟩:=Int.eq_ofNat_of_zero_le h0
 exact ⟨k,by omega,e⟩
theorem R_ (e:Env) (hx:e.xs.length=24) (k:Nat) (hk:k < 12) (left:List ax) (hl:0 < left.length) (cj:D) (ws:List (ax×ax)) (cy:bM):∃i:Nat,i < left.length∧wQ (e.ρ left cj ws (.J (.int (k:Nat))) cy)= .ok (.int i):=by
 obtain ⟨x,ex⟩:=rp hx (j:=9 + k) (by omega)
 obtain ⟨i,hi,hq⟩:=mO x left.length hl
 refine ⟨i,hi,yk ?_⟩
 rw [←hq]
 have qx:ay (.lst (e.xs.map D.int)) (.int (9 + (k:Nat)))= .ok (.int x):=by rw [←ex]; rfl
 have iQ:bk cf (af (I 5) ai) (et (e.ρ left cj ws (.J (.int (k:Nat))) cy))= .ok (.int (left.length:Nat)):=by
  rw [iP (xs:=left.map aB) rfl,List.length_map]
 exact gq (bZ rfl (i_ rfl rfl) qx) iQ (by omega)
theorem Sa (e:Env) (hx:e.xs.length=24) (k:Nat) (hk:k < 12) (left:List ax) (hl:0 < left.length) (cj:D) (ws:List (ax×ax)) (cy:bM):∃i:Nat,i < left.length∧q7 (e.ρ left cj ws (.J (.int (k:Nat))) cy)= .ok (.int i):=by
 obtain ⟨x,ex⟩:=rp hx (j:=23 - k) (by omega)
 obtain ⟨i,hi,hq⟩:=mO (x / 5) left.length hl
 refine ⟨i,hi,yk ?_⟩
 rw [←hq]
 have qx:ay (.lst (e.xs.map D.int)) (.int (23 - (k:Nat)))= .ok (.int x):=by
  rw [←ex,show ((23 - k:Nat):Int)=23 - (k:Int) by omega]
 have iQ:bk cf (af (I 5) ai) (et (e.ρ left cj ws (.J (.int (k:Nat))) cy))= .ok (.int (left.length:Nat)):=by
  rw [iP (xs:=left.map aB) rfl,List.length_map]
 exact gq (jb (bZ rfl (bZ rfl rfl rfl) qx) ⟨by decide,by decide⟩) iQ (by omega)
noncomputable def v5:aY:=aK (nZ 9 (jJ 5 wQ)) (pf 7 (mJ (jg (lf (I 9)) (jg (jJ 5 q7) (mI ai)))))
theorem P4 (e:Env) (hx:e.xs.length=24) (k:Nat) (hk:k < 12) (all left:List ax) (ws:List (ax×ax)) (h:Lay all left ws) (hl:2≤left.length) (hs:left.length < 900) (hw:ws.length < 900) (cj:D) (cy:bM) :
  ∃(nR:List ax) (kr:List (ax×ax)) (f7:bM),Lay all nR kr∧nR.length + 2=left.length∧kr.length=ws.length + 1∧v5 (e.ρ left cj ws (.J (.int (k:Nat))) cy)= .ok (.aV (e.ρ nR cj kr (.J (.int (k:Nat))) f7)):=by
 obtain ⟨i,hi,hq⟩:=R_ e hx k hk left (by omega) cj ws cy
 have li:(left.eraseIdx i).length=left.length - 1:=by rw [List.length_eraseIdx,if_pos hi]
 have fp:jJ 5 wQ (e.ρ left cj ws (.J (.int (k:Nat))) cy)= .ok (aB left[i],e.ρ (left.eraseIdx i) cj ws (.J (.int (k:Nat))) cy):=by
  rw [GU (ds:=left.map aB) (k:=i) rfl hq (by simpa using hi) (by simpa using by omega)]
  rw [List.getElem_map,←zS]; rfl
 have a1:=Ua (i:=9) (ρ':=e.ρ (left.eraseIdx i) cj ws (.J (.int (k:Nat))) (.J (aB left[i]))) fp rfl
 obtain ⟨j,dx,hV⟩:=Sa e hx k hk (left.eraseIdx i) (by omega) cj ws (.J (aB left[i]))
 have b7:jJ 5 q7 (e.ρ (left.eraseIdx i) cj ws (.J (.int (k:Nat))) (.J (aB left[i])))= .ok (aB (left.eraseIdx i)[j],e.ρ ((left.eraseIdx i).eraseIdx j) cj ws (.J (.int (k:Nat))) (.J (aB left[i]))):=by
  rw [GU (ds:=(left.eraseIdx i).map aB) (k:=j) rfl hV (by simpa using dx) (by rw [List.length_map]; omega)]
  rw [List.getElem_map,←zS]; rfl
 have d7:mJ (jg (lf (I 9)) (jg (jJ 5 q7) (mI ai))) (e.ρ (left.eraseIdx i) cj ws (.J (.int (k:Nat))) (.J (aB left[i])))= .ok (cH (left[i],(left.eraseIdx i)[j]),e.ρ ((left.eraseIdx i).eraseIdx j) cj ws (.J (.int (k:Nat))) (.J (aB left[i]))):=by
  rw [mJ,Dd (x:=aB left[i]) (P9 rfl) (Dd b7 (Qy _))]; rfl
 have a2:pf 7 (mJ (jg (lf (I 9)) (jg (jJ 5 q7) (mI ai)))) (e.ρ (left.eraseIdx i) cj ws (.J (.int (k:Nat))) (.J (aB left[i])))= .ok (.aV (e.ρ ((left.eraseIdx i).eraseIdx j) cj (ws ++ [(left[i],(left.eraseIdx i)[j])]) (.J (.int (k:Nat))) (.J (aB left[i])))):=by
  have z:ownAt 7 (e.ρ (left.eraseIdx i) cj ws (.J (.int (k:Nat))) (.J (aB left[i])))= .ok (ws.map cH):=rfl
  have bz:ownAt 7 (e.ρ ((left.eraseIdx i).eraseIdx j) cj ws (.J (.int (k:Nat))) (.J (aB left[i])))= .ok (ws.map cH):=rfl
  rw [pf,z,aU,d7,aU]
  simp only [bz,aU,if_pos (show (ws.map cH).length < 1000000 by rw [List.length_map]; omega)]
  simp only [Env.ρ,List.map_append]
  rfl
 refine ⟨(left.eraseIdx i).eraseIdx j,ws ++ [(left[i],(left.eraseIdx i)[j])],.J (aB left[i]),h.take hi dx,?_,by simp,?_⟩
 · rw [List.length_eraseIdx,if_pos dx]; omega
 · unfold v5
   rw [cu a1,a2]
theorem VR (w:ax×ax):okN 7 (cH w)=true:=rfl
theorem VT (ws:List (ax×ax)):okN 8 (.lst (ws.map cH))=true:=by
 show (ws.map cH).all (okN 7)=true
 rw [List.all_map,List.all_eq_true]
 intro w _
 exact VR w
theorem KV (ws:List ax):okN 8 (.lst (ws.map aB))=true:=by
 show (ws.map aB).all (okN 7)=true
 rw [List.all_map,List.all_eq_true]
 intro w _
 rfl
theorem L1 (ws:List (ax×ax)):bT true (.lst (ws.map cH)) (.lst [])= .ok (.aw ws.isEmpty):=by
 unfold bT
 rw [if_pos ⟨VT ws,rfl⟩]
 cases ws <;> rfl
theorem L0 (ws:List ax):bT true (.lst (ws.map aB)) (.lst [])= .ok (.aw ws.isEmpty):=by
 unfold bT
 rw [if_pos ⟨KV ws,rfl⟩]
 cases ws <;> rfl
noncomputable def wy:ck:=(hJ (dY (aH (ah j5 (bk cf (af (I 5) (ai))) (ag (.int 2)))) (gp (aH (ah j5 (bk cf (af (I 5) (ai))) (ag (.int 1)))) (gp (aH (ah (bT true) (I 7) (a9 (bK (ai))))) (aH (ah (bT true) (ah cG (ah ay (I 2) (ag (.int 8))) (ag (.int 2))) (ag (.int 0))))))))
theorem Ks (e:Env) (hx:e.xs.length=24) (left:List ax) (cj:D) (ws:List (ax×ax)) (cZ cy:bM):∃c:Bool,wy (e.ρ left cj ws cZ cy)= .ok c∧(c=true→2≤left.length∧(2 < left.length∨ws=[])):=by
 obtain ⟨x,ex⟩:=rp hx (j:=8) (by omega)
 have iQ:bk cf (af (I 5) ai) (et (e.ρ left cj ws cZ cy))= .ok (.int (left.length:Nat)):=by
  rw [iP (xs:=left.map aB) rfl,List.length_map]
 have g:∀j:Int,aH (ah j5 (bk cf (af (I 5) (ai))) (ag (.int j))) (et (e.ρ left cj ws cZ cy))= .ok (decide (j < (left.length:Nat))):=fun j=>dy (bZ iQ rfl rfl)
 have a7:aH (ah (bT true) (I 7) (a9 (bK (ai)))) (et (e.ρ left cj ws cZ cy))= .ok ws.isEmpty:=dy (bZ (x:= .lst (ws.map cH)) rfl (y:= .lst []) rfl (L1 ws))
 have bX:aH (ah (bT true) (ah cG (ah ay (I 2) (ag (.int 8))) (ag (.int 2))) (ag (.int 0))) (et (e.ρ left cj ws cZ cy))= .ok (x % 2 == (0:Int)):=dy (bZ (gq (bZ (x:= .lst (e.xs.map D.int)) rfl rfl ex) rfl (by decide)) rfl rfl)
 refine ⟨decide ((2:Int) < (left.length:Nat)) || (decide ((1:Int) < (left.length:Nat)) && (ws.isEmpty && (x % 2 == (0:Int)))),?_,?_⟩
 · unfold wy hJ
   exact hM (g 2) fun _=>qb (g 1) fun _=>qb a7 fun _=>bX
 · intro h
   rw [Bool.or_eq_true,Bool.and_eq_true,Bool.and_eq_true,decide_eq_true_eq,decide_eq_true_eq,List.isEmpty_iff] at h
   rcases h with h | ⟨h1,h2,_⟩
   · exact ⟨by omega,.inl (by omega)⟩
   · exact ⟨by omega,.inr h2⟩
noncomputable def zX:aY:=cx wy v5 cF
structure B6 (all left:List ax) (ws:List (ax×ax)):Prop where
 lay:Lay all left ws
 some:left≠[]∨ws.length=1
theorem zY (e:Env) (hx:e.xs.length=24) (all:List ax) (cj:D):∀(a_:List Nat),(∀k∈a_,k < 12)→∀(left:List ax) (ws:List (ax×ax)) (cZ cy:bM),B6 all left ws→left.length < 100→ws.length + a_.length < 100→
  ∃(nR:List ax) (kr:List (ax×ax)) (fL f7:bM),B6 all nR kr∧kr.length < 100∧dQ (aJ 8) zX (a_.map fun i=> .int (0 + ((i:Nat):Int))) (e.ρ left cj ws cZ cy)= .ok (.aV (e.ρ nR cj kr fL f7))
 | [],_,left,ws,cZ,cy,h,_,hw=>⟨left,ws,cZ,cy,h,by simpa using hw,rfl⟩
 | k::a_,hk,left,ws,cZ,cy,h,hl,hw=>by
   simp only [List.length_cons] at hw
   have OV:=hk k (List.mem_cons_self ..)
   have cw:aJ 8 (.int (0 + ((k:Nat):Int))) (e.ρ left cj ws cZ cy)= .ok (e.ρ left cj ws (.J (.int (k:Nat))) cy):=by
    rw [Int.zero_add]; rfl
   obtain ⟨c,ec,hc⟩:=Ks e hx left cj ws (.J (.int (k:Nat))) cy
   rw [List.map_cons,dQ,cw,aU,zX,jD ec]
   cases c with
   | false=>
     rw [if_neg Bool.false_ne_true]
     exact zY e hx all cj a_ (fun k h'=>hk k (List.mem_cons_of_mem _ h')) left ws _ _ h hl (by omega)
   | true=>
     obtain ⟨h2,h3⟩:=hc rfl
     obtain ⟨nR,kr,f7,fk,eJ,cO,ar⟩:=P4 e hx k OV all left ws h.lay h2 (by omega) (by omega) cj cy
     rw [if_pos rfl,ar,aU]
     refine zY e hx all cj a_ (fun k h'=>hk k (List.mem_cons_of_mem _ h')) nR kr _ _ ⟨fk,?_⟩ (by omega) (by omega)
     rcases h3 with h3 | h3
     · exact .inl (fun z=>by rw [z] at eJ; simp at eJ; omega)
     · exact .inr (by rw [cO,h3]; rfl)
noncomputable def tab:aE:=(a9 (bK (af (ag (.int 4)) (af (ag (.int 4)) (af (ag (.int 4)) (af (ag (.int 3)) (af (ag (.int 2)) (af (ag (.int 2)) (ai)))))))))
noncomputable def o3:aE:=(ah b1 (ag (.int 1)) (ah cG (ah ay (I 1) (ah b1 (ag (.int 1)) (I 0))) (ah ay tab (ah ig (I 2) (ag (.int 1))))))
theorem Vc (dE:Nat) (h1:1≤dE) (h6:dE≤6):∃t:Nat,1≤t∧t≤4∧ay (.lst [.int 4,.int 4,.int 4,.int 3,.int 2,.int 2]) (.int ((dE:Int) - 1))= .ok (.int (t:Nat)):=by
 have:dE=1∨dE=2∨dE=3∨dE=4∨dE=5∨dE=6:=by omega
 rcases this with rfl | rfl | rfl | rfl | rfl | rfl
 · exact ⟨4,by decide,by decide,rfl⟩
 · exact ⟨4,by decide,by decide,rfl⟩
 · exact ⟨4,by decide,by decide,rfl⟩
 · exact ⟨3,by decide,by decide,rfl⟩
 · exact ⟨2,by decide,by decide,rfl⟩
 · exact ⟨2,by decide,by decide,rfl⟩
theorem LX (xs:List Int) (hx:xs.length=24) (dE:Nat) (h1:1≤dE) (h6:dE≤6) (h:Nat) (hh:h < 10):∃c:Nat,1≤c∧c≤4∧o3 [.J (.int (0 + ((h:Nat):Int))),.J (.lst (xs.map D.int)),.J (.int (dE:Nat))]= .ok (.int (c:Nat)):=by
 obtain ⟨t,t1,kn,yK⟩:=Vc dE h1 h6
 obtain ⟨x,ex⟩:=rp hx (j:=1 + h) (by omega)
 obtain ⟨i,hi,hq⟩:=mO x t (by omega)
 refine ⟨1 + i,by omega,by omega,?_⟩
 have qx:ay (.lst (xs.map D.int)) (.int (1 + (0 + ((h:Nat):Int))))= .ok (.int x):=by
  rw [←ex,show ((1 + h:Nat):Int)=1 + (0 + (h:Int)) by omega]
 have z:((1 + i:Nat):Int)=1 + x % (t:Nat):=by rw [hq]; omega
 rw [z]
 unfold o3 tab
 exact i_ rfl (gq (bZ rfl (i_ rfl rfl) qx) (bZ rfl (bZ rfl rfl rfl) yK) (by omega))
theorem C4 (xs:List Int) (hx:xs.length=24) (dE:Nat) (h1:1≤dE) (h6:dE≤6):∀(hs:List Nat),(∀h∈hs,h < 10)→∀(ws:List D) (s0:bM),ws.length + hs.length < 1000→
  ∃cs:List Nat,cs.length=hs.length∧(∀c∈cs,1≤c∧c≤4)∧dm (aJ 0) cT o3 (hs.map fun i=> .int (0 + ((i:Nat):Int))) [s0,.J (.lst (xs.map D.int)),.J (.int (dE:Nat))] ws= .ok (ws ++ bF cs)
 | [],_,ws,s0,_=>⟨[],rfl,(fun _ h=>nomatch h),by simp [dm,bF]⟩
 | h::hs,hh,ws,s0,hl=>by
   simp only [List.length_cons] at hl
   obtain ⟨c,bD,hj,ec⟩:=LX xs hx dE h1 h6 h (hh h (List.mem_cons_self ..))
   obtain ⟨cs,l,k,e⟩:=C4 xs hx dE h1 h6 hs (fun h h'=>hh h (List.mem_cons_of_mem _ h')) (ws ++ [.int (c:Nat)]) (.J (.int (0 + ((h:Nat):Int)))) (by rw [List.length_append,List.length_singleton]; omega)
   refine ⟨c::cs,by simp [l],fun x zq=>?_,?_⟩
   · rcases List.mem_cons.mp zq with rfl | zq
     · exact ⟨bD,hj⟩
     · exact k x zq
   have cw:aJ 0 (.int (0 + ((h:Nat):Int))) [s0,.J (.lst (xs.map D.int)),.J (.int (dE:Nat))]= .ok [.J (.int (0 + ((h:Nat):Int))),.J (.lst (xs.map D.int)),.J (.int (dE:Nat))]:=rfl
   rw [List.map_cons,dm,cw,aU]
   simp only [cT,aU,ec,if_true,if_pos (show ws.length < 1000000 by omega)]
   rw [e,List.append_assoc]
   rfl
noncomputable def iH:aE:=(bG (af (I 1) (af (I 0) (ai))))
theorem C5 (h:Nat):∀(a_:List Nat) (ws:List D) (s0:bM),ws.length + a_.length < 1000→dm (aJ 0) cT iH (a_.map fun i=> .int (0 + ((i:Nat):Int))) [s0,.J (.int (h:Nat))] ws= .ok (ws ++ a_.map fun k=>aB (h,k))
 | [],ws,s0,_=>by simp [dm]
 | k::a_,ws,s0,hl=>by
   simp only [List.length_cons] at hl
   have cw:aJ 0 (.int (0 + ((k:Nat):Int))) [s0,.J (.int (h:Nat))]= .ok [.J (.int (k:Nat)),.J (.int (h:Nat))]:=by rw [Int.zero_add]; rfl
   have ar:iH [.J (.int (k:Nat)),.J (.int (h:Nat))]= .ok (aB (h,k)):=rfl
   rw [List.map_cons,dm,cw,aU]
   simp only [cT,aU,ar,if_true,if_pos (show ws.length < 1000000 by omega)]
   rw [C5 h a_ _ _ (by rw [List.length_append,List.length_singleton]; omega),List.append_assoc]
   rfl
noncomputable def gT (cs:List Nat) (h:Nat):List ax:=(List.range (cs.getD h 0)).map fun k=>(h,k)
noncomputable def cI (cs:List Nat) (n:Nat):List ax:=(List.range n).flatMap (gT cs)
theorem uu (cs:List Nat) (n:Nat):cI cs (n + 1)=cI cs n ++ gT cs n:=by
 unfold cI
 rw [List.range_succ,List.flatMap_append]
 simp
theorem zT {cs:List Nat} {h:Nat} {d:ax}:d∈gT cs h↔d.1=h∧d.2 < cs.getD h 0:=by
 unfold gT
 rw [List.mem_map]
 constructor
 · rintro ⟨k,hk,rfl⟩
   exact ⟨rfl,List.mem_range.mp hk⟩
 · rintro ⟨rfl,h2⟩
   exact ⟨d.2,List.mem_range.mpr h2,rfl⟩
theorem pA {cs:List Nat} {n:Nat} {d:ax}:d∈cI cs n↔d.1 < n∧d.2 < cs.getD d.1 0:=by
 unfold cI
 rw [List.mem_flatMap]
 constructor
 · rintro ⟨h,hh,hd⟩
   obtain ⟨rfl,h2⟩:=zT.mp hd
   exact ⟨List.mem_range.mp hh,h2⟩
 · rintro ⟨h1,h2⟩
   exact ⟨d.1,List.mem_range.mpr h1,zT.mpr ⟨rfl,h2⟩⟩
theorem KX (cs:List Nat) (h:Nat):(gT cs h).Nodup:=by
 unfold gT
 rw [List.nodup_iff_pairwise_ne,List.pairwise_map]
 exact List.nodup_range.imp fun Mz z=>Mz (Prod.mk.inj z).2
theorem Ci (cs:List Nat):∀n,(cI cs n).Nodup
 | 0=>List.nodup_nil
 | n + 1=>by
   rw [uu]
   refine List.nodup_append.mpr ⟨Ci cs n,KX cs n,fun a ha b hb z=>?_⟩
   subst z
   have h1:=(pA.mp ha).1
   have h2:=(zT.mp hb).1
   omega
theorem yw {cs:List Nat} (h:∀c∈cs,1≤c∧c≤4) (k:Nat):(gT cs k).length≤4:=by
 unfold gT
 rw [List.length_map,List.length_range]
 exact yX (fun c hc=>(h c hc).2) k
theorem rP {cs:List Nat} (h:∀c∈cs,1≤c∧c≤4):∀n,(cI cs n).length≤4 * n
 | 0=>by simp [cI]
 | n + 1=>by
   rw [uu,List.length_append]
   have:=rP h n
   have:=yw h n
   omega
theorem r0 {cs:List Nat} {h:Nat} (hh:h < cs.length):(bF cs)[h]? =some (.int (cs.getD h 0:Nat)):=by
 simp [bF,List.getElem?_eq_getElem hh,List.getD_eq_getElem?_getD]
noncomputable def vg:aY:=(d5 5 (lN 5 (a9 (cY 1 [6] (dU (af (ah ay (I 4) (I 6)) (ai))) (aJ 0) (cT) iH))))
noncomputable def hF (c m xs y:D) (cs:List Nat) (left:List ax) (cj:bM):az:=[.J c,.J m,.J xs,.J y,.J (.lst (bF cs)),.cD (left.map aB),cj,.un,.un,.un]
theorem KI (c m xs y:D) (cs:List Nat) (hc:∀c∈cs,1≤c∧c≤4) (left:List ax) (hl:left.length < 200) (h:Nat) (hh:h < cs.length):vg (hF c m xs y cs left (.J (.int (h:Nat))))= .ok (.aV (hF c m xs y cs (left ++ gT cs h) (.J (.int (h:Nat))))):=by
 have kG:=yX (fun c h=>(hc c h).2) h
 have av:dU (af (ah ay (I 4) (I 6)) (ai)) (hF c m xs y cs left (.J (.int (h:Nat))))= .ok ((List.range (cs.getD h 0)).map fun i=> .int (0 + ((i:Nat):Int))):=by
  have z:=lT (a:=ah ay (I 4) (I 6)) (ρ:=hF c m xs y cs left (.J (.int (h:Nat)))) (j:=(cs.getD h 0:Nat)) (bZ rfl rfl (kN (r0 hh))) (by omega) (by omega)
  rw [Int.toNat_natCast] at z; exact z
 have oW:cY 1 [6] (dU (af (ah ay (I 4) (I 6)) (ai))) (aJ 0) (cT) iH (hF c m xs y cs left (.J (.int (h:Nat))))= .ok ((gT cs h).map aB):=by
  rw [cY,av,aU]
  show fo (dm (aJ 0) cT iH _ [.un,.J (.int (h:Nat))] [])=_
  rw [C5 h _ _ _ (by rw [List.length_nil,List.length_range]; omega)]
  unfold gT
  rw [List.map_map]; rfl
 have J:a9 (cY 1 [6] (dU (af (ah ay (I 4) (I 6)) (ai))) (aJ 0) (cT) iH) (hF c m xs y cs left (.J (.int (h:Nat))))= .ok (.lst ((gT cs h).map aB)):=by simp only [a9,oW,aU]
 have dl:=yw hc h
 have cat:lN 5 (a9 (cY 1 [6] (dU (af (ah ay (I 4) (I 6)) (ai))) (aJ 0) (cT) iH)) (hF c m xs y cs left (.J (.int (h:Nat))))= .ok (left.map aB ++ (gT cs h).map aB):=by
  have o:ownAt 5 (hF c m xs y cs left (.J (.int (h:Nat))))= .ok (left.map aB):=rfl
  simp only [lN,o,J,aU,if_pos (show (left.map aB).length + ((gT cs h).map aB).length≤1000000 by rw [List.length_map,List.length_map]; omega)]
 unfold vg
 rw [d5,cat,aU,←List.map_append]
 rfl
theorem Df (c m xs y:D) (cs:List Nat) (hc:∀c∈cs,1≤c∧c≤4) (h6:cs.length≤6):∀(n k:Nat) (cj:bM),k + n≤cs.length→∃i4,(n=0∧i4=cj∨∃d,i4= .J d)∧dQ (aJ 6) vg ((List.range' k n).map fun i=> .int (0 + ((i:Nat):Int))) (hF c m xs y cs (cI cs k) cj)= .ok (.aV (hF c m xs y cs (cI cs (k + n)) i4))
 | 0,k,cj,_=>⟨cj,.inl ⟨rfl,rfl⟩,rfl⟩
 | n + 1,k,cj,h=>by
   have cw:aJ 6 (.int (0 + ((k:Nat):Int))) (hF c m xs y cs (cI cs k) cj)= .ok (hF c m xs y cs (cI cs k) (.J (.int (k:Nat)))):=by rw [Int.zero_add]; rfl
   have l:=rP hc k
   have ar:=KI c m xs y cs hc (cI cs k) (by omega) k (by omega)
   rw [←uu] at ar
   rw [List.range'_succ,List.map_cons,dQ,cw,aU,ar,aU]
   obtain ⟨i4,ht,e⟩:=Df c m xs y cs hc h6 n (k + 1) (.J (.int (k:Nat))) (by omega)
   refine ⟨i4,.inr ?_,by rw [show k + (n + 1)=k + 1 + n by omega]; exact e⟩
   rcases ht with ⟨_,rfl⟩ | ht
   · exact ⟨_,rfl⟩
   · exact ht
structure fj (cs:List Nat) (ws:List (ax×ax)):Prop where
 h1:1≤cs.length
 h6:cs.length≤6
 c:∀c∈cs,1≤c∧c≤4
 bg:(ends ws).Nodup
 sub:∀d∈ends ws,d∈cI cs cs.length
 out:∃d,d∈cI cs cs.length∧d∉ends ws
 few:ws.length < 100
theorem head_mem {cs:List Nat} (h1:1≤cs.length) (c:∀c∈cs,1≤c∧c≤4):((0,0):ax)∈cI cs cs.length:=by
 refine pA.mpr ⟨h1,?_⟩
 cases cs with
 | nil=>simp at h1
 | cons x r=>exact (c x (List.mem_cons_self ..)).1
theorem Qu (cell:Int):∃(cs:List Nat) (ws:List (ax×ax)),fj cs ws∧sY [.int cell,.int 6]= .ok (.v (.tup [.lst (bF cs),.lst (ws.map cH)])):=by
 show ∃(cs:List Nat) (ws:List (ax×ax)),fj cs ws∧(rS [.J (.int cell),.J (.int 6),.un,.un,.un,.un,.un,.un,.un,.un]).bind outD=_
 obtain ⟨xs,hx,aq⟩:=xd cell 1 24 (by decide)
 have s2:b6 2 (a9 (fb 3 jh (af (I 0) (af (ag (.int 1)) (af (ag (.int 24)) (ai)))))) [.J (.int cell),.J (.int 6),.un,.un,.un,.un,.un,.un,.un,.un]= .ok (.aV [.J (.int cell),.J (.int 6),.J (.lst (xs.map D.int)),.un,.un,.un,.un,.un,.un,.un]):=by
  have z:fb 3 jh (af (I 0) (af (ag (.int 1)) (af (ag (.int 24)) (ai)))) [.J (.int cell),.J (.int 6),.un,.un,.un,.un,.un,.un,.un,.un]= .ok (xs.map D.int):=by
   have y:(af (I 0) (af (ag (.int 1)) (af (ag (.int 24)) (ai)))) [.J (.int cell),.J (.int 6),.un,.un,.un,.un,.un,.un,.un,.un]= .ok [.int cell,.int 1,.int 24]:=rfl
   have mz:jh [.int cell,.int 1,.int 24]= .ok (.o (xs.map D.int)):=aq
   simp only [fb,y,aU,List.length_cons,List.length_nil,if_true,mz,tn]
  exact dS (d:= .lst (xs.map D.int)) (by simp only [a9,z,aU]) rfl
 obtain ⟨x0,yL⟩:=rp hx (j:=0) (by omega)
 obtain ⟨kc,WT,LS⟩:=mO x0 6 (by decide)
 let dE:Nat:=1 + kc
 have s3:b6 3 (ah b1 (ag (.int 1)) (ah cG (ah ay (I 2) (ag (.int 0))) (I 1))) [.J (.int cell),.J (.int 6),.J (.lst (xs.map D.int)),.un,.un,.un,.un,.un,.un,.un]= .ok (.aV [.J (.int cell),.J (.int 6),.J (.lst (xs.map D.int)),.J (.int (dE:Nat)),.un,.un,.un,.un,.un,.un]):=by
  refine dS (d:= .int (dE:Nat)) ?_ rfl
  have z:((dE:Nat):Int)=1 + x0 % 6:=by
   have:x0 % 6=(kc:Int):=LS
   rw [this]; show ((1 + kc:Nat):Int)=_; omega
  rw [z]
  exact i_ rfl (gq (bZ rfl rfl yL) rfl (by decide))
 obtain ⟨cs,lc,hc,ec⟩:=C4 xs hx dE (by show 1≤1 + kc; omega) (by show 1 + kc≤6; omega) (List.range dE) (fun h hh=>by have:=List.mem_range.mp hh; show h < 10; have:dE=1 + kc:=rfl; omega) [] .un (by simp; show 1 + kc < 1000; omega)
 rw [List.length_range] at lc
 have h1:1≤cs.length:=by rw [lc]; show 1≤1 + kc; omega
 have h6:cs.length≤6:=by rw [lc]; show 1 + kc≤6; omega
 have s4:kg 4 (cY 1 [2,3] (dU (af (I 3) (ai))) (aJ 0) (cT) o3) [.J (.int cell),.J (.int 6),.J (.lst (xs.map D.int)),.J (.int (dE:Nat)),.un,.un,.un,.un,.un,.un]= .ok (.aV [.J (.int cell),.J (.int 6),.J (.lst (xs.map D.int)),.J (.int (dE:Nat)),.J (.lst (bF cs)),.un,.un,.un,.un,.un]):=by
  have r:dU (af (I 3) (ai)) [.J (.int cell),.J (.int 6),.J (.lst (xs.map D.int)),.J (.int (dE:Nat)),.un,.un,.un,.un,.un,.un]= .ok ((List.range dE).map fun i=> .int (0 + ((i:Nat):Int))):=by
   have z:=lT (a:=I 3) (ρ:=[.J (.int cell),.J (.int 6),.J (.lst (xs.map D.int)),.J (.int (dE:Nat)),.un,.un,.un,.un,.un,.un]) (j:=(dE:Nat)) rfl (by omega) (by show ((1 + kc:Nat):Int)≤1000000; omega)
   rw [Int.toNat_natCast] at z; exact z
  have z:cY 1 [2,3] (dU (af (I 3) (ai))) (aJ 0) (cT) o3 [.J (.int cell),.J (.int 6),.J (.lst (xs.map D.int)),.J (.int (dE:Nat)),.un,.un,.un,.un,.un,.un]= .ok (bF cs):=by
   rw [cY,r,aU]
   show fo (dm (aJ 0) cT o3 _ [.un,.J (.lst (xs.map D.int)),.J (.int (dE:Nat))] [])=_
   rw [ec]; rfl
  rw [kg,d5,z]; rfl
 have Ak:d5 5 (bK (ai)) [.J (.int cell),.J (.int 6),.J (.lst (xs.map D.int)),.J (.int (dE:Nat)),.J (.lst (bF cs)),.un,.un,.un,.un,.un]= .ok (.aV (hF (.int cell) (.int 6) (.lst (xs.map D.int)) (.int (dE:Nat)) cs (cI cs 0) .un)):=rfl
 obtain ⟨i4,Ni,jx⟩:=Df (.int cell) (.int 6) (.lst (xs.map D.int)) (.int (dE:Nat)) cs hc h6 cs.length 0 .un (by omega)
 have qy:=lE (mi:=dU (af (bk cf (af (I 4) (ai))) (ai))) (ρ:=hF (.int cell) (.int 6) (.lst (xs.map D.int)) (.int (dE:Nat)) cs (cI cs 0) .un) (by
  have z:=lT (a:=bk cf (af (I 4) (ai))) (ρ:=hF (.int cell) (.int 6) (.lst (xs.map D.int)) (.int (dE:Nat)) cs (cI cs 0) .un) (j:=(cs.length:Nat)) (by
   have:=iP (a:=I 4) (ρ:=hF (.int cell) (.int 6) (.lst (xs.map D.int)) (.int (dE:Nat)) cs (cI cs 0) .un) (xs:=bF cs) rfl
   rw [this]; simp [bF]) (by omega) (by omega)
  rw [Int.toNat_natCast,List.range_eq_range'] at z; exact z) jx
 rw [Nat.zero_add] at qy
 obtain ⟨ja,rfl⟩:∃d,i4= .J d:=by
  rcases Ni with ⟨h0,_⟩ | h
  · omega
  · exact h
 let E:Env:=⟨.int cell,.int 6,xs,.int (dE:Nat),.lst (bF cs)⟩
 have dz:d5 7 (bK (ai)) (hF (.int cell) (.int 6) (.lst (xs.map D.int)) (.int (dE:Nat)) cs (cI cs cs.length) (.J ja))= .ok (.aV (E.ρ (cI cs cs.length) ja [] .un .un)):=rfl
 have al:=rP hc cs.length
 have ne:cI cs cs.length≠[]:=fun z=>by have:=head_mem h1 hc; rw [z] at this; cases this
 obtain ⟨rl,L4⟩:=rp hx (j:=7) (by omega)
 obtain ⟨Nx,WU,LU⟩:=mO rl 2 (by decide)
 obtain ⟨q,aO,eq⟩:∃q:Nat,q≤12∧dU (af (jG (bk jK (af (ag (.int 12)) (af (ah b1 (ah da (bk cf (af (I 5) (ai))) (ag (.int 2))) (ah cG (ah ay (I 2) (ag (.int 7))) (ag (.int 2)))) (ai))))) (ai)) (E.ρ (cI cs cs.length) ja [] .un .un)= .ok ((List.range q).map fun i=> .int (0 + ((i:Nat):Int))):=by
  let v:Int:=((cI cs cs.length).length:Nat) / 2 + rl % 2
  let w:Int:=if v < 12 then v else 12
  have hv:0≤v:=by
   have:rl % 2=(Nx:Int):=LU
   show 0≤((cI cs cs.length).length:Int) / 2 + rl % 2
   omega
  have hw:0≤w∧w≤12:=by
   show 0≤(if v < 12 then v else 12)∧(if v < 12 then v else 12)≤12
   split <;> omega
  have ev:jG (bk jK (af (ag (.int 12)) (af (ah b1 (ah da (bk cf (af (I 5) (ai))) (ag (.int 2))) (ah cG (ah ay (I 2) (ag (.int 7))) (ag (.int 2)))) (ai)))) (E.ρ (cI cs cs.length) ja [] .un .un)= .ok (.int w):=by
   refine yk ?_
   have iQ:bk cf (af (I 5) ai) (et (E.ρ (cI cs cs.length) ja [] .un .un))= .ok (.int ((cI cs cs.length).length:Nat)):=by
    rw [iP (xs:=(cI cs cs.length).map aB) rfl,List.length_map]
   have ev:ah b1 (ah da (bk cf (af (I 5) (ai))) (ag (.int 2))) (ah cG (ah ay (I 2) (ag (.int 7))) (ag (.int 2))) (et (E.ρ (cI cs cs.length) ja [] .un .un))= .ok (.int v):=i_ (jb iQ ⟨by decide,by decide⟩) (gq (bZ (x:= .lst (xs.map D.int)) rfl rfl L4) rfl (by decide))
   simp only [bk,af,ai,ag,ev,aU,jK]
   rfl
  obtain ⟨q,aO⟩:=Int.eq_ofNat_of_zero_le hw.1
  refine ⟨q,by omega,?_⟩
  have z:=lT ev hw.1 (by omega)
  rw [aO,Int.toNat_natCast] at z
  exact z
 obtain ⟨left,ws,fL,f7,hm,sv,K4⟩:=zY E hx (cI cs cs.length) ja (List.range q) (fun k hk=>by have:=List.mem_range.mp hk; omega) (cI cs cs.length) [] .un .un ⟨⟨by simpa [ends] using Ci cs cs.length,fun d hd=>by simpa [ends] using hd⟩,.inl ne⟩ (by omega) (by simp; omega)
 have f8:=lE eq K4
 have vb:hJ (gp (aH (ah j5 (bk cf (af (I 7) (ai))) (ag (.int 0)))) (aH (ah (bT true) (I 5) (a9 (bK (ai)))))) (E.ρ left ja ws fL f7)= .ok (decide ((0:Int) < (ws.length:Nat)) && left.isEmpty):=by
  have iQ:bk cf (af (I 7) ai) (et (E.ρ left ja ws fL f7))= .ok (.int (ws.length:Nat)):=by
   rw [iP (xs:=ws.map cH) rfl,List.length_map]
  exact qb (dy (bZ iQ rfl rfl)) fun _=>dy (bZ (x:= .lst (left.map aB)) rfl (y:= .lst []) rfl (L0 left))
 have fin:∀kr:List (ax×ax),gK (bG (af (I 4) (af (I 7) (ai)))) (E.ρ left ja kr fL f7)= .ok (.dN (.tup [.lst (bF cs),.lst (kr.map cH)])):=fun _=>rfl
 have fold:rS [.J (.int cell),.J (.int 6),.un,.un,.un,.un,.un,.un,.un,.un]=aK (cx (hJ (gp (aH (ah j5 (bk cf (af (I 7) (ai))) (ag (.int 0)))) (aH (ah (bT true) (I 5) (a9 (bK (ai))))))) (ph (qQ 7)) (cF)) (gK (bG (af (I 4) (af (I 7) (ai))))) (E.ρ left ja ws fL f7):=by
  unfold rS
  unfold o3 tab at s4
  unfold vg iH at qy
  unfold zX wy v5 wQ q7 at f8
  rw [cu s2,cu s3,cu s4,cu Ak,cu qy,cu dz,cu f8]
 rw [fold]
 cases hb:(decide ((0:Int) < (ws.length:Nat)) && left.isEmpty) with
 | false=>
   rw [hb] at vb
   refine ⟨cs,ws,⟨h1,h6,hc,(List.nodup_append.mp hm.lay.bg).2.1,fun d hd=>hm.lay.sub d (List.mem_append_right _ hd),?_,sv⟩,by rw [e0 vb,fin]; rfl⟩
   cases left with
   | nil=>
     have k7:ws=[]:=by
      simp only [List.isEmpty_nil,Bool.and_true,decide_eq_false_iff_not] at hb
      exact List.eq_nil_of_length_eq_zero (by omega)
     exact ⟨(0,0),head_mem h1 hc,by rw [k7]; exact fun z=>nomatch z⟩
   | cons d r=>
     exact ⟨d,hm.lay.sub d (by simp),fun z=>(List.nodup_append.mp hm.lay.bg).2.2 d (by simp) d z rfl⟩
 | true=>
   rw [hb] at vb
   rw [Bool.and_eq_true,List.isEmpty_iff] at hb
   have eJ:ws.length=1:=hm.some.resolve_left (fun z=>z hb.2)
   obtain ⟨w,rfl⟩:=List.length_eq_one_iff.mp eJ
   have p:ph (qQ 7) (E.ρ left ja [w] fL f7)= .ok (.aV (E.ρ left ja [] fL f7)):=rfl
   refine ⟨cs,[],⟨h1,h6,hc,List.nodup_nil,(fun _ h=>nomatch h),⟨(0,0),head_mem h1 hc,fun z=>nomatch z⟩,by decide⟩,?_⟩
   rw [aK,jD vb,if_pos rfl,p,aU]
   show (gK (bG (af (I 4) (af (I 7) (ai)))) (E.ρ left ja [] fL f7)).bind outD=_
   rw [fin]
   rfl
noncomputable def fa (d:ax):List Key:=[.inl (d.1:Nat),.inl (d.2:Nat)]
theorem sH {a b:ax} (h:fa a=fa b):a=b:=by
 obtain ⟨a1,a2⟩:=a
 obtain ⟨gh,fG⟩:=b
 simp only [fa,List.cons.injEq,Sum.inl.injEq,and_true] at h
 have h1:a1=gh:=by omega
 have h2:a2=fG:=by omega
 rw [h1,h2]
theorem pd (d:ax):lL (aB d)=some (fa d):=rfl
noncomputable def bQ (ws:List (ax×ax)):List (List Key):=(ends ws).map fa
noncomputable def b3 (ws:List (ax×ax)):List D:=(ws.map fun w=>[aB w.2,aB w.1]).flatten
theorem ks_any (ws:List (ax×ax)) (d:ax):(bQ ws).any (fun x=>decide (x=fa d))=decide (d∈ends ws):=by
 unfold bQ
 rw [List.any_map]
 by_cases h:d∈ends ws
 · rw [decide_eq_true h,List.any_eq_true]
   exact ⟨d,h,by simp⟩
 · rw [decide_eq_false h,List.any_eq_false]
   intro x hx
   simp only [Function.comp,decide_eq_true_eq]
   exact fun z=>h (sH z ▸ hx)
theorem Dv (ws:List (ax×ax)):(ends ws).length=2 * ws.length:=by
 induction ws with
 | nil=>rfl
 | cons w r c0=>simp only [ends,List.map_cons,List.flatten_cons,List.length_append,List.length_cons,List.length_nil] at c0 ⊢; omega
theorem vl {i:Nat} {mk mv:aE} {ρ:az} {a_:List (List Key)} {ds:List D} {k v:D} {cp:List Key} (hs:ρ[i]? =some (.a3 (.a0 a_ ds))) (hk:mk ρ= .ok k) (hv:mv ρ= .ok v) (fJ:lL k=some cp) (aC:a_.any (fun x=>decide (x=cp))=false) (hl:a_.length < 1000000) :
  jH i mk mv ρ= .ok (.aV (ρ.set i (.a3 (.a0 (a_ ++ [cp]) (ds ++ [v]))))):=by
 simp only [jH,hv,hs,hk,aU,fJ,putD,if_pos (And.intro aC hl)]
theorem Cn {a_:List (List Key)} {a b:List Key} (h:a_.any (fun x=>decide (x=b))=false) (ne:a≠b):(a_ ++ [a]).any (fun x=>decide (x=b))=false:=by
 rw [List.any_append,h]; simp [ne]
theorem FP (ws:List (ax×ax)) (w:ax×ax):bQ (ws ++ [w])=bQ ws ++ [fa w.1] ++ [fa w.2]:=by simp [bQ,ends]
theorem II (ws:List (ax×ax)) (w:ax×ax):b3 (ws ++ [w])=b3 ws ++ [aB w.2] ++ [aB w.1]:=by simp [b3]
theorem F7 {P:List (ax×ax)} {w:ax×ax} {r:List (ax×ax)} (bg:(ends (P ++ w::r)).Nodup):w.1∉ends P∧w.2∉ends P∧w.1≠w.2:=by
 have e:ends (P ++ w::r)=ends P ++ (w.1::w.2::ends r):=by simp [ends]
 rw [e] at bg
 obtain ⟨_,dc,kS⟩:=List.nodup_append.mp bg
 refine ⟨fun z=>kS _ z w.1 (by simp) rfl,fun z=>kS _ z w.2 (by simp) rfl,fun z=>?_⟩
 rw [List.nodup_cons] at dc
 exact dc.1 (by rw [z]; simp)
noncomputable def ux:aY:=(aK (jH 1 (I 2) (I 3)) (jH 1 (I 3) (I 2)))
theorem Cz (W:D):∀(r P:List (ax×ax)),(ends (P ++ r)).Nodup→(P ++ r).length < 1000→∀s2 s3:bM,∃d7 t3,dQ (d6 [aJ 2,aJ 3]) ux (r.map cH) [.J W,.a3 (.a0 (bQ P) (b3 P)),s2,s3]= .ok (.aV [.J W,.a3 (.a0 (bQ (P ++ r)) (b3 (P ++ r))),d7,t3])
 | [],P,_,_,s2,s3=>⟨s2,s3,by rw [List.append_nil]; rfl⟩
 | w::r,P,bg,hl,s2,s3=>by
   obtain ⟨ff,dc,kS⟩:=F7 bg
   have lk:(bQ P).length < 10000:=by
    unfold bQ
    rw [List.length_map,Dv]
    rw [List.length_append] at hl; omega
   have cw:d6 [aJ 2,aJ 3] (cH w) [.J W,.a3 (.a0 (bQ P) (b3 P)),s2,s3]= .ok [.J W,.a3 (.a0 (bQ P) (b3 P)),.J (aB w.1),.J (aB w.2)]:=rfl
   have a1:=vl (i:=1) (mk:=I 2) (mv:=I 3) (ρ:=[.J W,.a3 (.a0 (bQ P) (b3 P)),.J (aB w.1),.J (aB w.2)]) rfl rfl rfl (pd w.1) (by rw [ks_any]; exact decide_eq_false ff) (by omega)
   have a2:=vl (i:=1) (mk:=I 3) (mv:=I 2) (ρ:=[.J W,.a3 (.a0 (bQ P ++ [fa w.1]) (b3 P ++ [aB w.2])),.J (aB w.1),.J (aB w.2)]) rfl rfl rfl (pd w.2) (Cn (by rw [ks_any]; exact decide_eq_false dc) (fun z=>kS (sH z))) (by rw [List.length_append,List.length_singleton]; omega)
   have ar:ux [.J W,.a3 (.a0 (bQ P) (b3 P)),.J (aB w.1),.J (aB w.2)]= .ok (.aV [.J W,.a3 (.a0 (bQ (P ++ [w])) (b3 (P ++ [w]))),.J (aB w.1),.J (aB w.2)]):=by
    unfold ux
    rw [cu a1,FP,II]
    exact a2
   rw [List.map_cons,dQ,cw,aU,ar,aU]
   have q:P ++ w::r=(P ++ [w]) ++ r:=by simp
   rw [q] at bg hl ⊢
   exact Cz W r (P ++ [w]) bg hl _ _
theorem CF (ws:List (ax×ax)) (bg:(ends ws).Nodup) (hl:ws.length < 1000):wb [.lst (ws.map cH)]= .ok (.v (.a0 (bQ ws) (b3 ws))):=by
 show (uQ [.J (.lst (ws.map cH)),.un,.un,.un]).bind outD=_
 have s1:pn 1 [.J (.lst (ws.map cH)),.un,.un,.un]= .ok (.aV [.J (.lst (ws.map cH)),.a3 (.a0 (bQ []) (b3 [])),.un,.un]):=rfl
 obtain ⟨d7,t3,e⟩:=Cz (.lst (ws.map cH)) ws [] (by simpa using bg) (by simpa using hl) .un .un
 have f:=lE (mi:=dX (I 0)) (ρ:=[.J (.lst (ws.map cH)),.a3 (.a0 (bQ []) (b3 [])),.un,.un]) rfl e
 unfold ux at f
 unfold uQ
 rw [cu s1,cu f]
 rfl
theorem Ic (d:ax):mn (aB d):=(mF (e9 _) (e9 _)).t
theorem yu {cs:List Nat} {d:ax} (h:d∈cI cs cs.length):gG cs (aB d)=true:=by
 obtain ⟨h1,h2⟩:=pA.mp h
 simp only [aB,gG,hA,Int.toNat_natCast]
 rw [decide_eq_true (by omega),decide_eq_true (by omega),decide_eq_true (by omega),decide_eq_true (by omega)]; rfl
theorem KU {a b:ax} (h:a≠b):bT false (aB a) (aB b)= .ok (.aw true):=by
 show R.ok (D.aw (!(((a.1:Nat):Int) == ((b.1:Nat):Int) && (((a.2:Nat):Int) == ((b.2:Nat):Int) && true))))=_
 by_cases h1:a.1=b.1
 · by_cases h2:a.2=b.2
   · exact absurd (Prod.ext h1 h2) h
   · rw [beq_eq_false_iff_ne.mpr (show ((a.2:Nat):Int)≠((b.2:Nat):Int) by omega)]; simp
 · rw [beq_eq_false_iff_ne.mpr (show ((a.1:Nat):Int)≠((b.1:Nat):Int) by omega)]; simp
theorem VM {cs:List Nat} {w:ax×ax} (h1:w.1∈cI cs cs.length) (h2:w.2∈cI cs cs.length) (ne:w.1≠w.2):sX [.tup (bF cs),cH w]= .ok (.v (.aw true)):=by
 show (uO [.J (.tup (bF cs)),.J (cH w),.un]).bind outD=_
 have bD:c6 (aH (bc 1 qV (af (I 1) (ai)))) [.J (.tup (bF cs)),.J (cH w),.un]= .ok false:=rfl
 have d1:=yt cs (aB w.1) (Ic w.1)
 have cC:=yt cs (aB w.2) (Ic w.2)
 rw [yu h1] at d1
 rw [yu h2] at cC
 have s2:=dS (i:=2) (ρ:=[.J (.tup (bF cs)),.J (cH w),.un]) (ρ':=[.J (.tup (bF cs)),.J (cH w),.J (.aw true)]) (oR (a:=bc 2 pw (af (I 0) (af (ah ay (I 1) (ag (.int 0))) (ai)))) (b:=bc 2 pw (af (I 0) (af (ah ay (I 1) (ag (.int 1))) (ai)))) (call2 rfl rfl d1) fun _=>call2 rfl rfl cC) rfl
 have cM:hI (I 2) (ah (bT false) (ah ay (I 1) (ag (.int 0))) (ah ay (I 1) (ag (.int 1)))) [.J (.tup (bF cs)),.J (cH w),.J (.aw true)]= .ok (.aw (true && true)):=oR rfl fun _=>bZ (x:=aB w.1) (y:=aB w.2) rfl rfl (KU ne)
 unfold uO
 rw [e0 bD,cu s2,fq cM]
 rfl
noncomputable def fBody:aY:=(aK (cx (c6 (aH (bc 2 sX (af (I 0) (af (I 3) (ai)))))) (qO) (cF))
  (aK (cx (hJ (dY (aH (ah (es true) (ah ay (I 3) (ag (.int 0))) (I 2))) (aH (ah (es true) (ah ay (I 3) (ag (.int 1))) (I 2))))) (qO) (cF))
  (aK (jH 2 (ah ay (I 3) (ag (.int 0))) (ah ay (I 3) (ag (.int 1))))
  (jH 2 (ah ay (I 3) (ag (.int 1))) (ah ay (I 3) (ag (.int 0)))))))
theorem El (cs:List Nat) (W:D):∀(r P:List (ax×ax)),(ends (P ++ r)).Nodup→(∀d∈ends r,d∈cI cs cs.length)→(P ++ r).length < 1000→∀s3:bM,∃t3,dQ (aJ 3) fBody (r.map cH) [.J (.tup (bF cs)),.J W,.a3 (.a0 (bQ P) (b3 P)),s3]= .ok (.aV [.J (.tup (bF cs)),.J W,.a3 (.a0 (bQ (P ++ r)) (b3 (P ++ r))),t3])
 | [],P,_,_,_,s3=>⟨s3,by rw [List.append_nil]; rfl⟩
 | w::r,P,bg,sub,hl,s3=>by
   obtain ⟨ff,dc,kS⟩:=F7 bg
   have lk:(bQ P).length < 10000:=by
    unfold bQ
    rw [List.length_map,Dv]
    rw [List.length_append] at hl; omega
   have cw:aJ 3 (cH w) [.J (.tup (bF cs)),.J W,.a3 (.a0 (bQ P) (b3 P)),s3]= .ok [.J (.tup (bF cs)),.J W,.a3 (.a0 (bQ P) (b3 P)),.J (cH w)]:=rfl
   have bD:c6 (aH (bc 2 sX (af (I 0) (af (I 3) (ai))))) [.J (.tup (bF cs)),.J W,.a3 (.a0 (bQ P) (b3 P)),.J (cH w)]= .ok false:=h_ (c:=true) (dy (call2 rfl rfl (VM (sub _ (by simp [ends])) (sub _ (by simp [ends])) kS)))
   have k1:es true (aB w.1) (.a0 (bQ P) (b3 P))= .ok (.aw false):=by
    simp only [es,pd,ks_any,decide_eq_false ff,if_true]
   have k2:es true (aB w.2) (.a0 (bQ P) (b3 P))= .ok (.aw false):=by
    simp only [es,pd,ks_any,decide_eq_false dc,if_true]
   have c_:hJ (dY (aH (ah (es true) (ah ay (I 3) (ag (.int 0))) (I 2))) (aH (ah (es true) (ah ay (I 3) (ag (.int 1))) (I 2)))) [.J (.tup (bF cs)),.J W,.a3 (.a0 (bQ P) (b3 P)),.J (cH w)]= .ok (false || false):=by
    unfold hJ
    exact hM (dy (bZ (x:=aB w.1) (y:= .a0 (bQ P) (b3 P)) rfl rfl k1)) fun _=>dy (bZ (x:=aB w.2) (y:= .a0 (bQ P) (b3 P)) rfl rfl k2)
   have a1:=vl (i:=2) (mk:=ah ay (I 3) (ag (.int 0))) (mv:=ah ay (I 3) (ag (.int 1))) (ρ:=[.J (.tup (bF cs)),.J W,.a3 (.a0 (bQ P) (b3 P)),.J (cH w)]) rfl rfl rfl (pd w.1) (by rw [ks_any]; exact decide_eq_false ff) (by omega)
   have a2:=vl (i:=2) (mk:=ah ay (I 3) (ag (.int 1))) (mv:=ah ay (I 3) (ag (.int 0))) (ρ:=[.J (.tup (bF cs)),.J W,.a3 (.a0 (bQ P ++ [fa w.1]) (b3 P ++ [aB w.2])),.J (cH w)]) rfl rfl rfl (pd w.2) (Cn (by rw [ks_any]; exact decide_eq_false dc) (fun z=>kS (sH z))) (by rw [List.length_append,List.length_singleton]; omega)
   have ar:fBody [.J (.tup (bF cs)),.J W,.a3 (.a0 (bQ P) (b3 P)),.J (cH w)]= .ok (.aV [.J (.tup (bF cs)),.J W,.a3 (.a0 (bQ (P ++ [w])) (b3 (P ++ [w]))),.J (cH w)]):=by
    unfold fBody
    rw [e0 bD,e0 c_,cu a1,FP,II]
    exact a2
   rw [List.map_cons,dQ,cw,aU,ar,aU]
   have q:P ++ w::r=(P ++ [w]) ++ r:=by simp
   rw [q] at bg hl ⊢
   exact El cs W r (P ++ [w]) bg (fun d hd=>sub d (by simp only [ends,List.map_cons,List.flatten_cons,List.mem_append] at hd ⊢; exact .inr hd)) hl _
theorem Me (cs:List Nat) (ws:List (ax×ax)) (h:fj cs ws):qT [.tup (bF cs),.tup (ws.map cH)]= .ok (.v (.a0 (bQ ws) (b3 ws))):=by
 show (uF [.J (.tup (bF cs)),.J (.tup (ws.map cH)),.un,.un]).bind outD=_
 have s1:pn 2 [.J (.tup (bF cs)),.J (.tup (ws.map cH)),.un,.un]= .ok (.aV [.J (.tup (bF cs)),.J (.tup (ws.map cH)),.a3 (.a0 (bQ []) (b3 [])),.un]):=rfl
 obtain ⟨t3,e⟩:=El cs (.tup (ws.map cH)) ws [] (by simpa using h.bg) h.sub (by have:=h.few; simp; omega) .un
 have f:=lE (mi:=qP (I 1)) (ρ:=[.J (.tup (bF cs)),.J (.tup (ws.map cH)),.a3 (.a0 (bQ []) (b3 [])),.un]) rfl e
 unfold fBody at f
 unfold uF
 rw [cu s1,cu f]
 rfl
noncomputable def o4:aE:=(bc 3 kh (af (I 0) (af (ag (.int 1)) (af (ag ql) (ai)))))
theorem Dc:∀(cs:List Nat),(∀c∈cs,1≤c∧c≤4)→∀(ws:List D) (s0:bM),ws.length + cs.length < 1000→dm (aJ 0) cT o4 (bF cs) [s0] ws= .ok (ws ++ cs.map fun _=>D.aw true)
 | [],_,ws,s0,_=>by simp [dm,bF]
 | c::cs,h,ws,s0,hl=>by
   simp only [List.length_cons] at hl
   obtain ⟨bD,hj⟩:=h c (List.mem_cons_self ..)
   have cw:aJ 0 (.int (c:Nat)) [s0]= .ok [.J (.int (c:Nat))]:=rfl
   have ar:o4 [.J (.int (c:Nat))]= .ok (.aw true):=by
    have z:=tK (.int (c:Nat)) rfl 1 4
    simp only [hA] at z
    rw [decide_eq_true (by omega),decide_eq_true (by omega)] at z
    exact ju rfl rfl rfl z
   show dm (aJ 0) cT o4 (.int (c:Nat)::bF cs) [s0] ws=_
   rw [dm,cw,aU]
   simp only [cT,aU,ar,if_true,if_pos (show ws.length < 1000000 by omega)]
   rw [Dc cs (fun c h'=>h c (List.mem_cons_of_mem _ h')) _ _ (by rw [List.length_append,List.length_singleton]; omega),List.append_assoc]
   rfl
theorem CP:∀cs:List Nat,mr (cs.map fun _=>D.aw true)=some (cs.map fun _=>true)
 | []=>rfl
 | c::cs=>by simp only [List.map_cons,mr,CP cs,Option.map_some]
theorem Ku (cs:List Nat) (h1:1≤cs.length) (h6:cs.length≤6) (h:∀c∈cs,1≤c∧c≤4):sU [.lst (bF cs)]= .ok (.v (.aw true)):=by
 show (uD [.J (.lst (bF cs))]).bind outD=_
 have iQ:bk cf (af (I 0) ai) [.J (.lst (bF cs))]= .ok (.int (cs.length:Nat)):=by
  rw [iP (xs:=bF cs) rfl]; simp [bF]
 have bD:dY (c6 (aH (ct (eS "list") (I 0)))) (c6 (aH (hL jf jf (ag (.int 1)) (bk cf (af (I 0) (ai))) (ag oU)))) [.J (.lst (bF cs))]= .ok (false || false):=by
  refine hM rfl fun _=>?_
  have z:=yp (f:=jf) (g:=jf) (a:=ag (.int 1)) (c:=ag oU) (ρ:=[.J (.lst (bF cs))]) rfl iQ rfl (k:=true) (l:=true) (by show R.ok (D.aw (decide ((1:Int)≤(cs.length:Nat))))=_; rw [decide_eq_true (by omega)]) (by show R.ok (D.aw (decide (((cs.length:Nat):Int)≤6)))=_; rw [decide_eq_true (by omega)])
  exact h_ (c:=true) (dy z)
 have oW:cY 1 [] (dX (I 0)) (aJ 0) (cT) o4 [.J (.lst (bF cs))]= .ok (cs.map fun _=>D.aw true):=by
  show fo (dm (aJ 0) cT o4 (bF cs) [.un] [])=_
  rw [Dc cs h _ _ (by simp; omega)]
  rfl
 have e:bk aD.cI (af (a9 (cY 1 [] (dX (I 0)) (aJ 0) (cT) o4)) (ai)) [.J (.lst (bF cs))]= .ok (.aw true):=by
  simp only [bk,af,ai,a9,oW,aU,aD.cI,CP]
  congr 2
  rw [List.all_map]
  simp
 unfold o4 at e
 unfold uD
 rw [e0 bD,fq e]
 rfl
theorem tF {a b:iz} {ρ d9:az} (h:a ρ= .ok d9):lP a b ρ=b d9:=by simp only [lP,h,aU]
theorem IH:∀ws:List (ax×ax),kj (b3 ws)=true
 | []=>rfl
 | w::ws=>by
   show kj (aB w.2::aB w.1::b3 ws)=true
   simp only [kj,IH ws]; rfl
noncomputable def dt (cs:List Nat) (ws:List (ax×ax)):fV:=⟨cs,ws.map cH,bQ ws,b3 ws⟩
theorem Ov (cs:List Nat) (ws:List (ax×ax)) (h:fj cs ws):v9 [.lst (bF cs),.lst (ws.map cH)]= .ok (["many","counts","joined","far"],[.int (cs.length:Nat),.tup (bF cs),.tup (ws.map cH),.a0 (bQ ws) (b3 ws)]):=by
 let r (ns:List Str) (ds:List D):az:=[.a3 (.ins "Net" ns ds),.J (.lst (bF cs)),.J (.lst (ws.map cH))]
 have g1:nW (c6 (aH (bc 1 sU (af (I 1) (ai))))) (r [] [])= .ok (r [] []):=by
  have z:c6 (aH (bc 1 sU (af (I 1) (ai)))) (r [] [])= .ok false:=h_ (c:=true) (dy (mx rfl (Ku cs h.h1 h.h6 h.c)))
  simp only [nW,z,aU,Bool.false_eq_true,if_false]
 have g2:nW (c6 (aH (ct (eS "list") (I 2)))) (r [] [])= .ok (r [] []):=rfl
 have f1:jI "Net" "many" (bk cf (af (I 1) (ai))) (r [] [])= .ok (r ["many"] [.int (cs.length:Nat)]):=by
  have iQ:bk cf (af (I 1) ai) (r [] [])= .ok (.int (cs.length:Nat)):=by
   rw [iP (xs:=bF cs) rfl]; simp [bF]
  rw [jI,iQ]; rfl
 have f2:jI "Net" "counts" (bk ou (af (I 1) (ai))) (r ["many"] [.int (cs.length:Nat)])= .ok (r ["many","counts"] [.int (cs.length:Nat),.tup (bF cs)]):=rfl
 have eY:jI "Net" "joined" (bk ou (af (I 2) (ai))) (r ["many","counts"] [.int (cs.length:Nat),.tup (bF cs)])= .ok (r ["many","counts","joined"] [.int (cs.length:Nat),.tup (bF cs),.tup (ws.map cH)]):=rfl
 have f4:jI "Net" "far" (nU (bc 2 qT (af (ct (eG "Net" "counts") (I 0)) (af (ct (eG "Net" "joined") (I 0)) (ai))))) (r ["many","counts","joined"] [.int (cs.length:Nat),.tup (bF cs),.tup (ws.map cH)])= .ok (r ["many","counts","joined","far"] [.int (cs.length:Nat),.tup (bF cs),.tup (ws.map cH),.a0 (bQ ws) (b3 ws)]):=by
  have z:nU (bc 2 qT (af (ct (eG "Net" "counts") (I 0)) (af (ct (eG "Net" "joined") (I 0)) (ai)))) (r ["many","counts","joined"] [.int (cs.length:Nat),.tup (bF cs),.tup (ws.map cH)])= .ok (.a0 (bQ ws) (b3 ws)):=by
   have y:bc 2 qT (af (ct (eG "Net" "counts") (I 0)) (af (ct (eG "Net" "joined") (I 0)) (ai))) (et (r ["many","counts","joined"] [.int (cs.length:Nat),.tup (bF cs),.tup (ws.map cH)]))= .ok (.a0 (bQ ws) (b3 ws)):=call2 (x:= .tup (bF cs)) (z:= .tup (ws.map cH)) rfl rfl (Me cs ws h)
   have n:jM (.a0 (bQ ws) (b3 ws))=true∧z3 (r ["many","counts","joined"] [.int (cs.length:Nat),.tup (bF cs),.tup (ws.map cH)])=true:=⟨by simp only [jM]; exact IH ws,rfl⟩
   simp only [nU,y,aU,if_pos n]
  rw [jI,z]; rfl
 show outI "Net" (uA (r [] []))=_
 unfold uA
 rw [tF g1,tF g2,tF f1,tF f2,tF eY,f4]
 rfl
noncomputable def free (ws:List (ax×ax)) (d:ax):Bool:= !decide (d∈ends ws)
noncomputable def pM:ck:=(aH (ah (es false) (bG (af (I 1) (af (I 0) (ai)))) (I 2)))
noncomputable def outs (cs:List Nat) (ws:List (ax×ax)) (n:Nat):List ax:=(cI cs n).filter (free ws)
theorem yq (ws:List (ax×ax)) (h:Nat):∀(a_:List Nat) (acc:List D) (s0:bM),acc.length + a_.length < 1000→dm (aJ 0) pM iH (a_.map fun i=> .int (0 + ((i:Nat):Int))) [s0,.J (.int (h:Nat)),.J (.a0 (bQ ws) (b3 ws))] acc= .ok (acc ++ ((a_.map fun k=>((h,k):ax)).filter (free ws)).map aB)
 | [],acc,s0,_=>by simp [dm]
 | k::a_,acc,s0,hl=>by
   simp only [List.length_cons] at hl
   have cw:aJ 0 (.int (0 + ((k:Nat):Int))) [s0,.J (.int (h:Nat)),.J (.a0 (bQ ws) (b3 ws))]= .ok [.J (.int (k:Nat)),.J (.int (h:Nat)),.J (.a0 (bQ ws) (b3 ws))]:=by rw [Int.zero_add]; rfl
   have ar:iH [.J (.int (k:Nat)),.J (.int (h:Nat)),.J (.a0 (bQ ws) (b3 ws))]= .ok (aB (h,k)):=rfl
   have jF:es false (aB (h,k)) (.a0 (bQ ws) (b3 ws))= .ok (.aw (free ws (h,k))):=by
    simp only [es,pd,ks_any,Bool.false_eq_true,if_false,free]
   have aG:pM [.J (.int (k:Nat)),.J (.int (h:Nat)),.J (.a0 (bQ ws) (b3 ws))]= .ok (free ws (h,k)):=dy (bZ (x:=aB (h,k)) rfl rfl jF)
   rw [List.map_cons,dm,cw,aU,aG,aU,List.map_cons]
   cases hf:free ws (h,k) with
   | true=>
     rw [List.filter_cons_of_pos hf]
     simp only [ar,aU,if_true,if_pos (show acc.length < 1000000 by omega)]
     rw [yq ws h a_ _ _ (by rw [List.length_append,List.length_singleton]; omega),List.append_assoc]
     rfl
   | false=>
     rw [List.filter_cons_of_neg (by rw [hf]; exact Bool.false_ne_true),if_neg Bool.false_ne_true]
     exact yq ws h a_ _ _ (by omega)
theorem Rr (cs:List Nat) (ws:List (ax×ax)) (n:Nat):outs cs ws (n + 1)=outs cs ws n ++ (gT cs n).filter (free ws):=by
 unfold outs
 rw [uu,List.filter_append]
theorem Rq {cs:List Nat} (hc:∀c∈cs,1≤c∧c≤4) (ws:List (ax×ax)) (n:Nat):(outs cs ws n).length≤4 * n:=Nat.le_trans (List.length_filter_le _ _) (rP hc n)
noncomputable def wB:aY:=(b6 3 (ah b1 (I 3) (a9 (cY 1 [4,2] (dU (af (ah ay (I 0) (I 4)) (ai))) (aJ 0) pM iH))))
noncomputable def iA (cs:List Nat) (W:D) (ws:List (ax×ax)) (os:List ax) (s4:bM):az:=[.J (.lst (bF cs)),.J W,.J (.a0 (bQ ws) (b3 ws)),.J (.lst (os.map aB)),s4]
theorem QP (cs:List Nat) (hc:∀c∈cs,1≤c∧c≤4) (W:D) (ws:List (ax×ax)) (os:List ax) (hl:os.length < 100) (h:Nat) (hh:h < cs.length):wB (iA cs W ws os (.J (.int (h:Nat))))= .ok (.aV (iA cs W ws (os ++ (gT cs h).filter (free ws)) (.J (.int (h:Nat))))):=by
 have kG:=yX (fun c h=>(hc c h).2) h
 have av:dU (af (ah ay (I 0) (I 4)) (ai)) (iA cs W ws os (.J (.int (h:Nat))))= .ok ((List.range (cs.getD h 0)).map fun i=> .int (0 + ((i:Nat):Int))):=by
  have z:=lT (a:=ah ay (I 0) (I 4)) (ρ:=iA cs W ws os (.J (.int (h:Nat)))) (j:=(cs.getD h 0:Nat)) (bZ rfl rfl (kN (r0 hh))) (by omega) (by omega)
  rw [Int.toNat_natCast] at z; exact z
 have oW:cY 1 [4,2] (dU (af (ah ay (I 0) (I 4)) (ai))) (aJ 0) pM iH (iA cs W ws os (.J (.int (h:Nat))))= .ok (((gT cs h).filter (free ws)).map aB):=by
  rw [cY,av,aU]
  show fo (dm (aJ 0) pM iH _ [.un,.J (.int (h:Nat)),.J (.a0 (bQ ws) (b3 ws))] [])=_
  rw [yq ws h _ _ _ (by rw [List.length_nil,List.length_range]; omega)]
  rfl
 have dl:((gT cs h).filter (free ws)).length≤4:=Nat.le_trans (List.length_filter_le _ _) (yw hc h)
 have J:a9 (cY 1 [4,2] (dU (af (ah ay (I 0) (I 4)) (ai))) (aJ 0) pM iH) (iA cs W ws os (.J (.int (h:Nat))))= .ok (.lst (((gT cs h).filter (free ws)).map aB)):=by simp only [a9,oW,aU]
 have ad:=ur (a:=I 3) (ρ:=iA cs W ws os (.J (.int (h:Nat)))) (xs:=os.map aB) rfl J (by rw [List.length_map,List.length_map]; omega)
 rw [←List.map_append] at ad
 unfold wB
 exact dS ad rfl
theorem Gh (cs:List Nat) (hc:∀c∈cs,1≤c∧c≤4) (h6:cs.length≤6) (W:D) (ws:List (ax×ax)):∀(n k:Nat) (s4:bM),k + n≤cs.length→∃kn,dQ (aJ 4) wB ((List.range' k n).map fun i=> .int (0 + ((i:Nat):Int))) (iA cs W ws (outs cs ws k) s4)= .ok (.aV (iA cs W ws (outs cs ws (k + n)) kn))
 | 0,k,s4,_=>⟨s4,rfl⟩
 | n + 1,k,s4,h=>by
   have cw:aJ 4 (.int (0 + ((k:Nat):Int))) (iA cs W ws (outs cs ws k) s4)= .ok (iA cs W ws (outs cs ws k) (.J (.int (k:Nat)))):=by rw [Int.zero_add]; rfl
   have l:=Rq hc ws k
   have ar:=QP cs hc W ws (outs cs ws k) (by omega) k (by omega)
   rw [←Rr] at ar
   rw [List.range'_succ,List.map_cons,dQ,cw,aU,ar,aU,show k + (n + 1)=k + 1 + n by omega]
   exact Gh cs hc h6 W ws n (k + 1) _ (by omega)
theorem Rp (cs:List Nat) (ws:List (ax×ax)) (h:fj cs ws):zO [.lst (bF cs),.lst (ws.map cH)]= .ok (.v (.lst ((outs cs ws cs.length).map aB))):=by
 show (uX [.J (.lst (bF cs)),.J (.lst (ws.map cH)),.un,.un,.un]).bind outD=_
 have s2:=dS (i:=2) (ρ:=[.J (.lst (bF cs)),.J (.lst (ws.map cH)),.un,.un,.un]) (ρ':=[.J (.lst (bF cs)),.J (.lst (ws.map cH)),.J (.a0 (bQ ws) (b3 ws)),.un,.un]) (mx (a:=I 1) rfl (CF ws h.bg (by have:=h.few; omega))) rfl
 have s3:b6 3 (a9 (bK (ai))) [.J (.lst (bF cs)),.J (.lst (ws.map cH)),.J (.a0 (bQ ws) (b3 ws)),.un,.un]= .ok (.aV (iA cs (.lst (ws.map cH)) ws (outs cs ws 0) .un)):=rfl
 obtain ⟨kn,e⟩:=Gh cs h.c h.h6 (.lst (ws.map cH)) ws cs.length 0 .un (by omega)
 have h6:=h.h6
 have f:=lE (mi:=dU (af (bk cf (af (I 0) (ai))) (ai))) (ρ:=iA cs (.lst (ws.map cH)) ws (outs cs ws 0) .un) (by
  have z:=lT (a:=bk cf (af (I 0) (ai))) (ρ:=iA cs (.lst (ws.map cH)) ws (outs cs ws 0) .un) (j:=(cs.length:Nat)) (by
   have:=iP (a:=I 0) (ρ:=iA cs (.lst (ws.map cH)) ws (outs cs ws 0) .un) (xs:=bF cs) rfl
   rw [this]; simp [bF]) (by omega) (by omega)
  rw [Int.toNat_natCast,List.range_eq_range'] at z; exact z) e
 rw [Nat.zero_add] at f
 unfold wB pM iH at f
 unfold uX
 rw [cu s2,cu s3,cu f]
 rfl
theorem Dj {cs:List Nat} (d:ax):gG cs (aB d)=decide (d∈cI cs cs.length):=by
 by_cases h:d∈cI cs cs.length
 · rw [yu h,decide_eq_true h]
 · rw [decide_eq_false h]
   cases hb:gG cs (aB d) with
   | false=>rfl
   | true=>
     obtain ⟨a,b,e,h1,h2,h3,h4⟩:=Dk hb
     simp only [aB,D.tup.injEq,List.cons.injEq,D.int.injEq,and_true] at e
     obtain ⟨rfl,rfl⟩:=e
     rw [Int.toNat_natCast] at h4
     exact absurd (pA.mpr ⟨by omega,by omega⟩) h
end bU
set_option Elab.async false
set_option linter.all false
set_option maxRecDepth 100000
set_option autoImplicit false
namespace bU
open PySem PySem.Spec bb aD
structure dw where
 p:Str
 a:Option Nat
 b:Option Nat
noncomputable def cg:Option Nat→D
 | none=> .non
 | some n=> .int (n:Nat)
noncomputable def eu (r:dw):D:= .tup [.str r.p,cg r.a,cg r.b]
structure rN (c:Nat) (r:dw):Prop where
 p:r.p∈gx
 a:∀x,r.a=some x→x < c
 b:∀x,r.b=some x→x < c
theorem wC {c:Nat} {x:Int} (hc:1≤c):∃n:Nat,n < c∧D.int (x % (c:Nat))=cg (some n):=by
 obtain ⟨n,h1,h2⟩:=mO x c (by omega)
 exact ⟨n,h1,by rw [h2]; rfl⟩
theorem SY (n:Int) (c:Nat) (hc:1≤c):∃r,rN c r∧qX [.int n,.int c]= .ok (.v (eu r)):=by
 show ∃r,_∧(u0 [.J (.int n),.J (.int c),.un,.un]).bind outD=_
 have md:∀(k:Int) (a b:bM),0 < k→k < 1073741824→ah cG (ah da (I 0) (ag (.int k))) (I 1) [.J (.int n),.J (.int c),a,b]= .ok (.int (n / k % (c:Nat))):=fun k a b h1 h2=>gq (jb rfl ⟨h1,h2⟩) rfl (by omega)
 obtain ⟨iu,h1,ar⟩:=z9 [.non,.non,.int (n / 11 % (c:Nat))] (by simp) n
 obtain ⟨k9,h2,aG⟩:=z9 [.non,.int (n / 47 % (c:Nat)),.int (n / 53 % (c:Nat)),.int (n / 59 % (c:Nat))] (by simp) (n / 3)
 have k1:∃a,(∀x,a=some x→x < c)∧iu=cg a:=by
  simp only [List.mem_cons,List.not_mem_nil,or_false] at h1
  rcases h1 with rfl | rfl | rfl
  · exact ⟨none,(fun _ z=>nomatch z),rfl⟩
  · exact ⟨none,(fun _ z=>nomatch z),rfl⟩
  · obtain ⟨k,hk,fJ⟩:=wC (x:=n / 11) hc
    exact ⟨some k,fun x z=>by cases z; exact hk,fJ⟩
 have k2:∃a,(∀x,a=some x→x < c)∧k9=cg a:=by
  simp only [List.mem_cons,List.not_mem_nil,or_false] at h2
  rcases h2 with rfl | rfl | rfl | rfl
  · exact ⟨none,(fun _ z=>nomatch z),rfl⟩
  · obtain ⟨k,hk,fJ⟩:=wC (x:=n / 47) hc
    exact ⟨some k,fun x z=>by cases z; exact hk,fJ⟩
  · obtain ⟨k,hk,fJ⟩:=wC (x:=n / 53) hc
    exact ⟨some k,fun x z=>by cases z; exact hk,fJ⟩
  · obtain ⟨k,hk,fJ⟩:=wC (x:=n / 59) hc
    exact ⟨some k,fun x z=>by cases z; exact hk,fJ⟩
 obtain ⟨a1,Mx,rfl⟩:=k1
 obtain ⟨a2,My,rfl⟩:=k2
 obtain ⟨p,hp,dW⟩:=Gz (n / 61)
 have eJ:a9 (bK (af (ag .non) (af (ag .non) (af (ah cG (ah da (I 0) (ag (.int 11))) (I 1)) (ai))))) [.J (.int n),.J (.int c),.un,.un]= .ok (.lst [.non,.non,.int (n / 11 % (c:Nat))]):=kF (bj rfl (bj rfl (bj (md 11 .un .un (by decide) (by decide)) rfl))) (by simp)
 have s2:=dS (i:=2) (ρ':=[.J (.int n),.J (.int c),.J (cg a1),.un]) (bZ eJ (gq (a:=I 0) (b:=ag (.int 3)) (n:=n) (m:=3) rfl rfl (by decide)) ar) rfl
 have cO:a9 (bK (af (ag .non) (af (ah cG (ah da (I 0) (ag (.int 47))) (I 1)) (af (ah cG (ah da (I 0) (ag (.int 53))) (I 1)) (af (ah cG (ah da (I 0) (ag (.int 59))) (I 1)) (ai)))))) [.J (.int n),.J (.int c),.J (cg a1),.un]= .ok (.lst [.non,.int (n / 47 % (c:Nat)),.int (n / 53 % (c:Nat)),.int (n / 59 % (c:Nat))]):=
  kF (bj rfl (bj (md 47 _ .un (by decide) (by decide)) (bj (md 53 _ .un (by decide) (by decide)) (bj (md 59 _ .un (by decide) (by decide)) rfl)))) (by simp)
 have s3:=dS (i:=3) (ρ':=[.J (.int n),.J (.int c),.J (cg a1),.J (cg a2)]) (bZ cO (gq (a:=ah da (I 0) (ag (.int 3))) (b:=ag (.int 4)) (n:=n / 3) (m:=4) (jb rfl ⟨by decide,by decide⟩) rfl (by decide)) aG) rfl
 have t:bG (af (bc 1 px (af (ah da (I 0) (ag (.int 61))) (ai))) (af (I 2) (af (I 3) (ai)))) [.J (.int n),.J (.int c),.J (cg a1),.J (cg a2)]= .ok (eu ⟨p,a1,a2⟩):=
  fO (bj (mx (jb rfl ⟨by decide,by decide⟩) dW) (bj rfl (bj rfl rfl))) (by simp)
 refine ⟨⟨p,a1,a2⟩,⟨hp,Mx,My⟩,?_⟩
 unfold u0
 rw [cu s2,cu s3,fq t]; rfl
noncomputable def vo:aE:=(bc 2 qX (af (I 0) (af (I 1) (ai))))
theorem Qg {xs:List Int} {y:D} (h:y∈xs.map D.int):∃i:Int,y= .int i:=by
 obtain ⟨i,_,e⟩:=List.mem_map.mp h; exact ⟨i,e.symm⟩
theorem C_ (c:Nat) (hc:1≤c):∀(ds:List D) (ws:List dw) (s0:bM),(∀d∈ds,∃i:Int,d= .int i)→ws.length + ds.length < 1000→(∀r∈ws,rN c r)→∃rs:List dw,rs.length=ws.length + ds.length∧(∀r∈rs,rN c r)∧dm (aJ 0) cT vo ds [s0,.J (.int (c:Nat))] (ws.map eu)= .ok (rs.map eu)
 | [],ws,_,_,_,hw=>⟨ws,by simp,hw,rfl⟩
 | d::ds,ws,s0,hd,hl,hw=>by
   obtain ⟨i,rfl⟩:=hd d (by simp)
   obtain ⟨r,hr,dn⟩:=SY i c hc
   have ar:aJ 0 (.int i) [s0,.J (.int (c:Nat))]= .ok [.J (.int i),.J (.int (c:Nat))]:=rfl
   have aG:vo [.J (.int i),.J (.int (c:Nat))]= .ok (eu r):=call2 rfl rfl dn
   have o8:(ws.map eu).length < 1000000:=by simp at hl ⊢; omega
   obtain ⟨rs,h1,h2,h3⟩:=C_ c hc ds (ws ++ [r]) (.J (.int i)) (fun x hx=>hd x (List.mem_cons_of_mem _ hx)) (by simp at hl ⊢; omega) (fun x hx=>by
    rcases List.mem_append.mp hx with h | h
    · exact hw x h
    · rw [List.mem_singleton.mp h]; exact hr)
   refine ⟨rs,by simp at h1 ⊢; omega,h2,?_⟩
   rw [dm,ar,aU]
   show (R.ok true).bind _=_
   rw [aU,if_pos rfl,aG,aU,if_pos o8]
   rw [List.map_append] at h3
   exact h3
theorem Kx {xs:List Int} (l h:Option Int):∀d∈iG (xs.map D.int) l h,∃i:Int,d= .int i:=fun d hd=>Qg (List.mem_of_mem_drop (List.mem_of_mem_take hd))
theorem Ky {xs:List D} (l h:Option Int):(iG xs l h).length≤xs.length:=by
 unfold iG
 rw [List.length_take,List.length_drop]; omega
theorem yn {f:List D→R bR} {m:bh} {ρ:az} {x y z:D} {t:List D} (hm:m ρ= .ok [x,y,z]) (h:f [x,y,z]= .ok (.o t)):a9 (fb 3 f m) ρ= .ok (.lst t):=by
 simp only [a9,fb,hm,aU,List.length_cons,List.length_nil,if_true,h,tn]
theorem CT {f:List D→R bR} {m:bh} {ρ:az} {x y z w:D} {t:List D} (hm:m ρ= .ok [x,y,z,w]) (h:f [x,y,z,w]= .ok (.o t)):a9 (fb 4 f m) ρ= .ok (.lst t):=by
 simp only [a9,fb,hm,aU,List.length_cons,List.length_nil,if_true,h,tn]
noncomputable def fw (b:List dw):D:= .lst (b.map eu)
structure pY (c:Nat) (b:List dw):Prop where
 few:b.length≤12
 row:∀r∈b,rN c r
theorem J5 (cell salt:Int) (c:Nat) (hc:1≤c):∃b:List dw,pY c b∧wc [.int cell,.int salt,.int c,.int 6]= .ok (.o (b.map eu)):=by
 show ∃b:List dw,_∧(uR [.J (.int cell),.J (.int salt),.J (.int c),.J (.int 6),.un]).bind outD=_
 obtain ⟨xs,hx,aq⟩:=xd cell salt 7 (by decide)
 have mz:jh [.int cell,.int salt,.int 7]= .ok (.o (xs.map D.int)):=aq
 have s4:=dS (i:=4) (ρ:=[.J (.int cell),.J (.int salt),.J (.int c),.J (.int 6),.un]) (ρ':=[.J (.int cell),.J (.int salt),.J (.int c),.J (.int 6),.J (.lst (xs.map D.int))]) (yn (m:=af (I 0) (af (I 1) (af (ah b1 (I 3) (ag (.int 1))) (ai)))) rfl mz) rfl
 obtain ⟨x0,yL⟩:∃x:Int,ay (.lst (xs.map D.int)) (.int 0)= .ok (.int x):=by
  match xs,hx with
  | x::_,_=>exact ⟨x,kN (k:=0) rfl⟩
 have hi:(ah b1 (ag (.int 1)) (ah cG (ah ay (I 4) (ag (.int 0))) (ah b1 (I 3) (ag (.int 1))))) [.J (.int cell),.J (.int salt),.J (.int c),.J (.int 6),.J (.lst (xs.map D.int))]= .ok (.int (1 + x0 % 7)):=i_ rfl (gq (bZ rfl rfl yL) (m:=7) rfl (by decide))
 have cB:dX (f5 gs (I 4) (fl (ag (.int 1))) (fl (ah b1 (ag (.int 1)) (ah cG (ah ay (I 4) (ag (.int 0))) (ah b1 (I 3) (ag (.int 1))))))) [.J (.int cell),.J (.int salt),.J (.int c),.J (.int 6),.J (.lst (xs.map D.int))]= .ok (iG (xs.map D.int) (some 1) (some (1 + x0 % 7))):=by
  have v4:I 4 [.J (.int cell),.J (.int salt),.J (.int c),.J (.int 6),.J (.lst (xs.map D.int))]= .ok (.lst (xs.map D.int)):=rfl
  have v1:ag (.int 1) [.J (.int cell),.J (.int salt),.J (.int c),.J (.int 6),.J (.lst (xs.map D.int))]= .ok (.int 1):=rfl
  simp only [dX,f5,fl,v4,v1,hi,aU,intD,gs,Hy]
 have j9:=Ky (xs:=xs.map D.int) (some 1) (some (1 + x0 % 7))
 rw [List.length_map,hx] at j9
 obtain ⟨rs,av,bl,ei⟩:=C_ c hc (iG (xs.map D.int) (some 1) (some (1 + x0 % 7))) [] .un (Kx _ _) (by simp; omega) (by simp)
 refine ⟨rs,⟨by rw [av]; simp; omega,bl⟩,?_⟩
 have oW:iS (cY 1 [2] (dX (f5 gs (I 4) (fl (ag (.int 1))) (fl (ah b1 (ag (.int 1)) (ah cG (ah ay (I 4) (ag (.int 0))) (ah b1 (I 3) (ag (.int 1)))))))) (aJ 0) (cT) (bc 2 qX (af (I 0) (af (I 1) (ai))))) [.J (.int cell),.J (.int salt),.J (.int c),.J (.int 6),.J (.lst (xs.map D.int))]= .ok (.kl (rs.map eu)):=by
  have z:cY 1 [2] (dX (f5 gs (I 4) (fl (ag (.int 1))) (fl (ah b1 (ag (.int 1)) (ah cG (ah ay (I 4) (ag (.int 0))) (ah b1 (I 3) (ag (.int 1)))))))) (aJ 0) (cT) (bc 2 qX (af (I 0) (af (I 1) (ai)))) [.J (.int cell),.J (.int salt),.J (.int c),.J (.int 6),.J (.lst (xs.map D.int))]= .ok (rs.map eu):=by
   rw [cY,cB,aU]
   show fo (dm (aJ 0) cT vo _ [.un,.J (.int c)] [])=_
   have SF:dm (aJ 0) cT vo (iG (xs.map D.int) (some 1) (some (1 + x0 % 7))) [.un,.J (.int c)] []= .ok (rs.map eu):=ei
   rw [SF]; rfl
  rw [iS,z]; rfl
 unfold uR
 rw [cu s4,oW]; rfl
noncomputable def bP (bs:List (List dw)):List D:=bs.map fw
noncomputable def jX (S:D) (st:Int) (cs:List Nat) (bs:List (List dw)) (s5:bM):az:=[.J S,.J (.int st),.J (.lst (bF cs)),.J (.int 6),.cD (bP bs),s5]
noncomputable def u9:aY:=(hz 4 (a9 (fb 4 wc (af (bc 2 iT (af (I 0) (af (ah b1 (I 1) (I 5)) (ai)))) (af (ah b1 (ag (.int 3)) (I 5)) (af (ah ay (I 2) (I 5)) (af (I 3) (ai))))))))
theorem Kq {cs:List Nat} (hc:∀c∈cs,1≤c∧c≤4) {h:Nat} (hh:h < cs.length):1≤cs.getD h 0:=by
 rw [List.getD_eq_getElem?_getD,List.getElem?_eq_getElem hh]
 exact (hc _ (List.getElem_mem hh)).1
theorem J2 (ns:List Int) (st:Nat) (cs:List Nat) (hc:∀c∈cs,1≤c∧c≤4) (bs:List (List dw)) (hl:bs.length < 100) (h:Nat) (hh:h < cs.length):∃b,pY (cs.getD h 0) b∧u9 (jX (.b8 (ns.map D.int)) st cs bs (.J (.int (h:Nat))))= .ok (.aV (jX (.b8 (ns.map D.int)) st cs (bs ++ [b]) (.J (.int (h:Nat))))):=by
 obtain ⟨cl,LQ⟩:=vd ns (st + h)
 have vH:=r0 hh
 obtain ⟨b,hb,bE⟩:=J5 cl (3 + (h:Int)) (cs.getD h 0) (Kq hc hh)
 refine ⟨b,hb,?_⟩
 have LR:iT [.b8 (ns.map D.int),.int ((st:Int) + (h:Int))]= .ok (.v (.int cl)):=by
  have:((st + h:Nat):Int)=(st:Int) + (h:Int):=by omega
  rw [←this]; exact LQ
 have y:(af (bc 2 iT (af (I 0) (af (ah b1 (I 1) (I 5)) (ai)))) (af (ah b1 (ag (.int 3)) (I 5)) (af (ah ay (I 2) (I 5)) (af (I 3) (ai))))) (jX (.b8 (ns.map D.int)) st cs bs (.J (.int (h:Nat))))= .ok [.int cl,.int (3 + (h:Int)),.int (cs.getD h 0:Nat),.int 6]:=
  bj (call2 rfl (i_ rfl rfl) LR) (bj (i_ rfl rfl) (bj (bZ rfl rfl (kN vH)) (bj rfl rfl)))
 have a:=rQ (i:=4) (ρ:=jX (.b8 (ns.map D.int)) st cs bs (.J (.int (h:Nat)))) (ds:=bP bs) (d:=fw b) rfl (CT y bE) (by simp [bP]; omega)
 unfold u9
 rw [a]
 simp only [jX,bP,List.map_append]
 rfl
structure gA (cs:List Nat) (bs:List (List dw)):Prop where
 len:bs.length=cs.length
 ee:∀h,h < cs.length→pY (cs.getD h 0) (bs.getD h [])
theorem CK (ns:List Int) (st:Nat) (cs:List Nat) (hc:∀c∈cs,1≤c∧c≤4):∀(n:Nat) (bs:List (List dw)) (s5:bM),bs.length + n≤cs.length→bs.length + n < 100→(∀h,h < bs.length→pY (cs.getD h 0) (bs.getD h []))→∃k6 qj,qj.length=bs.length + n∧(∀h,h < qj.length→pY (cs.getD h 0) (qj.getD h []))∧dQ (aJ 5) u9 ((List.range' bs.length n).map fun i=> .int (0 + ((i:Nat):Int))) (jX (.b8 (ns.map D.int)) st cs bs s5)= .ok (.aV (jX (.b8 (ns.map D.int)) st cs qj k6))
 | 0,bs,s5,_,_,hb=>⟨s5,bs,rfl,hb,rfl⟩
 | n + 1,bs,s5,h,hl,hb=>by
   have cw:aJ 5 (.int (0 + ((bs.length:Nat):Int))) (jX (.b8 (ns.map D.int)) st cs bs s5)= .ok (jX (.b8 (ns.map D.int)) st cs bs (.J (.int (bs.length:Nat)))):=by rw [Int.zero_add]; rfl
   obtain ⟨b,h1,ar⟩:=J2 ns st cs hc bs (by omega) bs.length (by omega)
   rw [List.range'_succ,List.map_cons,dQ,cw,aU,ar,aU]
   obtain ⟨k6,qj,PR,h',e⟩:=CK ns st cs hc n (bs ++ [b]) (.J (.int (bs.length:Nat))) (by simp; omega) (by simp; omega) (fun h hh=>by
    rw [List.length_append,List.length_singleton] at hh
    by_cases hx:h < bs.length
    · have aG:(bs ++ [b]).getD h []=bs.getD h []:=by
       rw [List.getD_eq_getElem?_getD,List.getD_eq_getElem?_getD,List.getElem?_append_left hx]
      rw [aG]; exact hb h hx
    · have:h=bs.length:=by omega
      subst this
      have aG:(bs ++ [b]).getD bs.length []=b:=by
       rw [List.getD_eq_getElem?_getD,List.getElem?_append_right (Nat.le_refl _),Nat.sub_self]; rfl
      rw [aG]; exact h1)
   rw [List.length_append,List.length_singleton] at e
   exact ⟨k6,qj,by simp at PR; omega,h',e⟩
theorem J6 (ns:List Int) (st:Nat) (cs:List Nat) (h6:cs.length≤6) (hc:∀c∈cs,1≤c∧c≤4):∃bs:List (List dw),gA cs bs∧wd [.b8 (ns.map D.int),.int st,.lst (bF cs),.int 6]= .ok (.o (bP bs)):=by
 show ∃bs:List (List dw),_∧(uS [.J (.b8 (ns.map D.int)),.J (.int st),.J (.lst (bF cs)),.J (.int 6),.un,.un]).bind outD=_
 have s4:d5 4 (bK (ai)) [.J (.b8 (ns.map D.int)),.J (.int st),.J (.lst (bF cs)),.J (.int 6),.un,.un]= .ok (.aV (jX (.b8 (ns.map D.int)) st cs [] .un)):=rfl
 obtain ⟨k6,bs,l,h,e⟩:=CK ns st cs hc cs.length [] .un (by simp) (by simp; omega) (by simp)
 have av:dU (af (bk cf (af (I 2) (ai))) (ai)) (jX (.b8 (ns.map D.int)) st cs [] .un)= .ok ((List.range' 0 cs.length).map fun i=> .int (0 + ((i:Nat):Int))):=by
  have z:=lT (a:=bk cf (af (I 2) (ai))) (ρ:=jX (.b8 (ns.map D.int)) st cs [] .un) (j:=((bF cs).length:Nat)) (iP rfl) (by omega) (by simp [bF]; omega)
  rw [Int.toNat_natCast] at z
  rw [z,List.range_eq_range']; simp [bF]
 have f:=lE av e
 unfold u9 at f
 have l:bs.length=cs.length:=by simpa using l
 refine ⟨bs,⟨l,fun k hk=>h k (by omega)⟩,?_⟩
 unfold uS
 rw [cu s4,cu f]; rfl
end bU
set_option Elab.async false
set_option linter.all false
set_option maxRecDepth 100000
set_option autoImplicit false
namespace bU
open PySem PySem.Spec bb aD
noncomputable def gk (p:Str) (a:Nat):Bool:=match n0 [.str p,.int (a:Nat)] with
 | .ok (.v (.aw b))=>b
 | _=>false
theorem Mj:(gx.all fun p=>(List.range 16).all fun a=>sA (gk p a) (n0 [.str p,.int (a:Nat)]) && sA (gk p a) (mM [.str p,.int (a:Nat)]))=true:=by decide +kernel
theorem yS {p:Str} {a:Nat} (hp:p∈gx) (ha:a < 16):n0 [.str p,.int (a:Nat)]= .ok (.v (.aw (gk p a)))∧mM [.str p,.int (a:Nat)]= .ok (.v (.aw (gk p a))):=by
 have h:=List.all_eq_true.mp (List.all_eq_true.mp Mj p hp) a (List.mem_range.mpr ha)
 rw [Bool.and_eq_true] at h
 exact ⟨z2 h.1,z2 h.2⟩
end bU
set_option Elab.async false
set_option linter.all false
set_option maxRecDepth 100000
set_option autoImplicit false
namespace bU
open PySem PySem.Spec bb aD
noncomputable def Fl (d:Nat):Option Nat→Bool
 | none=>true
 | some x=>x == d
noncomputable def mt (d a:Nat) (r:dw):Bool:=Fl d r.a && gk r.p a
theorem zv (o:Option Nat):eZ true (cg o) .non= .ok (.aw o.isNone):=by cases o <;> rfl
theorem L2 (x d:Nat):bT true (cg (some x)) (.int (d:Nat))= .ok (.aw (x == d)):=by
 show R.ok (D.aw ((x:Int) == (d:Int)))=_
 congr 2
 rw [Bool.eq_iff_iff,beq_iff_eq,beq_iff_eq]
 omega
theorem Fo {mi md:aE} {ρ:az} {o:Option Nat} {d:Nat} (hi:mi ρ= .ok (cg o)) (hd:md ρ= .ok (.int (d:Nat))):dY (aH (ah (eZ true) mi (ag .non))) (aH (ah (bT true) mi md)) ρ= .ok (Fl d o):=by
 have a:aH (ah (eZ true) mi (ag .non)) ρ= .ok o.isNone:=dy (bZ hi rfl (zv o))
 cases o with
 | none=>exact hM (d:=true) a fun z=>nomatch z
 | some x=>exact hM a fun _=>dy (bZ hi hd (L2 x d))
noncomputable def tH:aY:=(cx (gp (dY (aH (ah (eZ true) (ah ay (I 4) (ag (.int 1))) (ag .non))) (aH (ah (bT true) (ah ay (I 4) (ag (.int 1))) (I 1)))) (aH (bc 2 n0 (af (ah ay (I 4) (ag (.int 0))) (af (I 2) (ai)))))) (bS (I 3)) (cF))
noncomputable def qw (k:Nat) (rs:List dw):List D:=(rs.zipIdx k).map fun p=> .tup [.int (p.2:Int),eu p.1]
theorem LY (rs:List dw):lC (rs.map eu)=qw 0 rs:=by
 unfold lC qw
 rw [List.zipIdx_map,List.map_map]; rfl
theorem Ie (B:D) (d a:Nat) (ha:a < 16):∀(rs:List dw) (k:Nat) (s3 s4:bM),(∀r∈rs,r.p∈gx)→∃t3 kn,dQ (d6 [aJ 3,aJ 4]) tH (qw k rs) [.J B,.J (.int (d:Nat)),.J (.int (a:Nat)),s3,s4]=match rs.findIdx? (mt d a) with
  | some j=> .ok (.dN (.int ((k + j:Nat):Int)))
  | none=> .ok (.aV [.J B,.J (.int (d:Nat)),.J (.int (a:Nat)),t3,kn])
 | [],k,s3,s4,_=>⟨s3,s4,rfl⟩
 | r::rs,k,s3,s4,hp=>by
   have cw:qw k (r::rs)= .tup [.int (k:Int),eu r]::qw (k + 1) rs:=rfl
   have ar:d6 [aJ 3,aJ 4] (.tup [.int (k:Int),eu r]) [.J B,.J (.int (d:Nat)),.J (.int (a:Nat)),s3,s4]= .ok [.J B,.J (.int (d:Nat)),.J (.int (a:Nat)),.J (.int (k:Int)),.J (eu r)]:=rfl
   have bD:=Fo (mi:=ah ay (I 4) (ag (.int 1))) (md:=I 1) (ρ:=[.J B,.J (.int (d:Nat)),.J (.int (a:Nat)),.J (.int (k:Int)),.J (eu r)]) (o:=r.a) (d:=d) rfl rfl
   have c_:aH (bc 2 n0 (af (ah ay (I 4) (ag (.int 0))) (af (I 2) (ai)))) [.J B,.J (.int (d:Nat)),.J (.int (a:Nat)),.J (.int (k:Int)),.J (eu r)]= .ok (gk r.p a):=dy (call2 (x:= .str r.p) (z:= .int (a:Nat)) rfl rfl (yS (hp r (by simp)) ha).1)
   have c:=qb bD fun _=>c_
   have b:tH [.J B,.J (.int (d:Nat)),.J (.int (a:Nat)),.J (.int (k:Int)),.J (eu r)]=if mt d a r=true then .ok (.dN (.int (k:Int))) else .ok (.aV [.J B,.J (.int (d:Nat)),.J (.int (a:Nat)),.J (.int (k:Int)),.J (eu r)]):=by
    unfold tH
    rw [jD c]; rfl
   rw [cw,dQ,ar,aU,b,List.findIdx?_cons]
   cases hm:mt d a r with
   | true=>exact ⟨s3,s4,rfl⟩
   | false=>
     obtain ⟨t3,kn,e⟩:=Ie B d a ha rs (k + 1) (.J (.int (k:Int))) (.J (eu r)) (fun x hx=>hp x (List.mem_cons_of_mem _ hx))
     refine ⟨t3,kn,?_⟩
     simp only [Bool.false_eq_true,if_false,aU]
     rw [e]
     cases rs.findIdx? (mt d a) with
     | none=>rfl
     | some j=>simp only [Option.map_some]; congr 3; omega
theorem Vd (rs:List dw) (d a:Nat) (ha:a < 16) (hp:∀r∈rs,r.p∈gx):zP [fw rs,.int (d:Nat),.int (a:Nat)]= .ok (.v (cg (rs.findIdx? (mt d a)))):=by
 show (u7 [.J (fw rs),.J (.int (d:Nat)),.J (.int (a:Nat)),.un,.un]).bind outD=_
 obtain ⟨t3,kn,e⟩:=Ie (fw rs) d a ha rs 0 .un .un hp
 have mi:kO (af (I 0) (ai)) [.J (fw rs),.J (.int (d:Nat)),.J (.int (a:Nat)),.un,.un]= .ok (qw 0 rs):=by
  show R.ok (lC (rs.map eu))=_
  rw [LY]
 have f:fc (kO (af (I 0) (ai))) (d6 [aJ 3,aJ 4]) tH [.J (fw rs),.J (.int (d:Nat)),.J (.int (a:Nat)),.un,.un]=_:=(r5 mi).trans e
 unfold tH at f
 unfold u7
 rw [aK,f]
 cases rs.findIdx? (mt d a) with
 | none=>rfl
 | some j=>simp only [aU,Nat.zero_add]; rfl
noncomputable def pairsOf (ws:List (ax×ax)):List (ax×ax):=ws.flatMap fun w=>[(w.1,w.2),(w.2,w.1)]
noncomputable def gS (ws:List (ax×ax)) (d:ax):Option ax:=((pairsOf ws).find? fun p=>decide (p.1=d)).map (·.2)
theorem xD:∀ws:List (ax×ax),(bQ ws).zip (b3 ws)=(pairsOf ws).map fun p=>(fa p.1,aB p.2)
 | []=>rfl
 | w::ws=>by
   have c0:=xD ws
   have ar:bQ (w::ws)=fa w.1::fa w.2::bQ ws:=by simp [bQ,ends]
   have aG:b3 (w::ws)=aB w.2::aB w.1::b3 ws:=by simp [b3]
   have cM:pairsOf (w::ws)=(w.1,w.2)::(w.2,w.1)::pairsOf ws:=by simp [pairsOf]
   rw [ar,aG,cM,List.zip_cons_cons,List.zip_cons_cons,c0]; rfl
theorem Mi (aM:List (ax×ax)) (d:ax):((aM.map fun p=>(fa p.1,aB p.2)).find? fun p=>decide (p.1=fa d))=(aM.find? fun p=>decide (p.1=d)).map fun p=>(fa p.1,aB p.2):=by
 induction aM with
 | nil=>rfl
 | cons p aM c0=>
   rw [List.map_cons,List.find?_cons,List.find?_cons]
   by_cases h:p.1=d
   · simp [h]
   · have:fa p.1≠fa d:=fun z=>h (sH z)
     simp [h,this,c0]
theorem Es (ws:List (ax×ax)) (d:ax):findD (bQ ws) (b3 ws) (fa d)=(gS ws d).map aB:=by
 unfold findD gS
 rw [xD,Mi,Option.map_map,Option.map_map]; rfl
theorem KQ (ws:List (ax×ax)) (d:ax):es true (aB d) (.a0 (bQ ws) (b3 ws))= .ok (.aw (gS ws d).isSome):=by
 have h:(bQ ws).any (fun x=>decide (x=fa d))=(gS ws d).isSome:=by
  have br:(bQ ws)=((bQ ws).zip (b3 ws)).map (·.1):=by
   rw [xD,List.map_map]
   induction ws with
   | nil=>rfl
   | cons w ws c0=>simp [bQ,ends,pairsOf] at c0 ⊢; exact c0
  rw [br,xD]
  unfold gS
  induction pairsOf ws with
  | nil=>rfl
  | cons p aM c0=>
    simp only [List.map_cons,List.any_cons,List.find?_cons] at c0 ⊢
    by_cases hh:p.1=d
    · simp [hh]
    · have:fa p.1≠fa d:=fun z=>hh (sH z)
      simp only [hh,this,decide_false,Bool.false_or]
      exact c0
 show R.ok (D.aw ((bQ ws).any fun x=>decide (x=fa d)))=_
 rw [h]
inductive jW where
 | drop | out (o:Nat) | to (d:ax)
noncomputable def aV (ws:List (ax×ax)) (rs:List dw) (h d a:Nat):jW:=match rs.find? (mt d a) with
 | none=> .drop
 | some r=>match r.b with
   | none=> .drop
   | some o=>match gS ws (h,o) with
     | none=> .out o
     | some e=> .to e
noncomputable def str (s:String):D:= .str (PySem.Str.ofString s)
noncomputable def z1 (h:Nat):jW→D
 | .drop=> .tup [str "drop",.int (h:Nat)]
 | .out o=> .tup [str "out",.int (h:Nat),.int (o:Nat)]
 | .to e=> .tup [str "at",.int (e.1:Nat),.int (e.2:Nat)]
noncomputable def mP (h:Nat):jW→D
 | .drop=> .tup [str "drop",.int (h:Nat)]
 | .out o=> .tup [str "out",.int (h:Nat),.int (o:Nat)]
 | .to e=> .tup [str "at",aB e]
theorem J0 (cs:List Nat) (ws:List (ax×ax)) (d:ax):zL [bN (dt cs ws),aB d]= .ok (.v (((gS ws d).map aB).getD .non)):=by
 show (uy [.J (bN (dt cs ws)),.J (aB d)]).bind outD=_
 have e:sO (ct (eG "Net" "far") (I 0)) (I 1) [.J (bN (dt cs ws)),.J (aB d)]= .ok ((findD (bQ ws) (b3 ws) (fa d)).getD .non):=rfl
 unfold uy
 rw [bS,e,Es]; rfl
theorem OG (o:Option ax):eZ true ((o.map aB).getD .non) .non= .ok (.aw o.isNone):=by cases o <;> rfl
theorem Mh {rs:List dw} {f:dw→Bool}:(rs.findIdx? f=none∧rs.find? f=none)∨∃j r,rs.findIdx? f=some j∧rs[j]? =some r∧rs.find? f=some r:=by
 cases h:rs.findIdx? f with
 | none=>
   left
   refine ⟨rfl,?_⟩
   rw [List.find?_eq_none]
   intro x hx
   have:=List.findIdx?_eq_none_iff.mp h x hx
   simp [this]
 | some j=>
   right
   obtain ⟨dx,h1,h2⟩:=List.findIdx?_eq_some_iff_getElem.mp h
   refine ⟨j,rs[j],rfl,List.getElem?_eq_getElem dx,?_⟩
   rw [List.find?_eq_some_iff_getElem]
   exact ⟨h1,j,dx,rfl,fun i hi=>by simpa using h2 i hi⟩
theorem Q5 (cs:List Nat) (ws:List (ax×ax)) (rs:List dw) (h d a:Nat) (ha:a < 16) (hp:∀r∈rs,r.p∈gx):wm [bN (dt cs ws),fw rs,aB (h,d),.int (a:Nat)]= .ok (.v (z1 h (aV ws rs h d a))):=by
 show (u4 [.J (bN (dt cs ws)),.J (fw rs),.J (aB (h,d)),.J (.int (a:Nat)),.un,.un,.un]).bind outD=_
 let ρ (s4 s5 cj:bM):az:=[.J (bN (dt cs ws)),.J (fw rs),.J (aB (h,d)),.J (.int (a:Nat)),s4,s5,cj]
 have s4:=dS (i:=4) (ρ:=ρ .un .un .un) (ρ':=ρ (.J (cg (rs.findIdx? (mt d a)))) .un .un) (ju (a:=I 1) (b:=ah ay (I 2) (ag (.int 1))) (c:=I 3) rfl (x:=fw rs) (z:= .int (d:Nat)) (w:= .int (a:Nat)) rfl rfl (Vd rs d a ha hp)) rfl
 have QH:∃o:Option Nat,lO (aH (ah (eZ true) (I 4) (ag .non))) (ag .non) (ah ay (ah ay (I 1) (I 4)) (ag (.int 2))) (ρ (.J (cg (rs.findIdx? (mt d a)))) .un .un)= .ok (cg o)∧aV ws rs h d a=(match o with | none=> .drop | some o=>match gS ws (h,o) with | none=> .out o | some e=> .to e):=by
  rcases Mh (rs:=rs) (f:=mt d a) with ⟨ar,aG⟩ | ⟨j,r,ar,aG,cM⟩
  · refine ⟨none,?_,?_⟩
    · rw [ar]; rfl
    · unfold aV; rw [aG]
  · refine ⟨r.b,?_,?_⟩
    · have c:aH (ah (eZ true) (I 4) (ag .non)) (ρ (.J (cg (some j))) .un .un)= .ok false:=rfl
      have cA:ay (fw rs) (.int (j:Nat))= .ok (eu r):=kN (by rw [List.getElem?_map,aG]; rfl)
      have cc:ah ay (ah ay (I 1) (I 4)) (ag (.int 2)) (ρ (.J (cg (some j))) .un .un)= .ok (cg r.b):=bZ (bZ rfl rfl cA) rfl (nQ (k:=2) rfl)
      rw [ar,lO,c,aU,if_neg (by decide)]; exact cc
    · unfold aV; rw [cM]
 obtain ⟨o,gi,jy⟩:=QH
 have s5:=dS (i:=5) (ρ':=ρ (.J (cg (rs.findIdx? (mt d a)))) (.J (cg o)) .un) gi rfl
 have ym:aH (ah (eZ true) (I 5) (ag .non)) (ρ (.J (cg (rs.findIdx? (mt d a)))) (.J (cg o)) .un)= .ok o.isNone:=dy (bZ rfl rfl (zv o))
 have sk:ay (aB (h,d)) (.int 0)= .ok (.int (h:Nat)):=nQ (k:=0) rfl
 have k6:bG (af (ag (.str (PySem.Str.ofString "drop"))) (af (ah ay (I 2) (ag (.int 0))) (ai))) (ρ (.J (cg (rs.findIdx? (mt d a)))) (.J (cg o)) .un)= .ok (.tup [str "drop",.int (h:Nat)]):=fO (bj rfl (bj (bZ rfl rfl sk) rfl)) (by simp)
 unfold u4
 rw [cu s4,cu s5,kY ym fun _=>k6,jy]
 cases o with
 | none=>rfl
 | some o=>
   simp only [Option.isNone_some,Bool.false_eq_true,if_false]
   have kA:bG (af (ah ay (I 2) (ag (.int 0))) (af (I 5) (ai))) (ρ (.J (cg (rs.findIdx? (mt d a)))) (.J (cg (some o))) .un)= .ok (aB (h,o)):=fO (bj (bZ rfl rfl sk) (bj rfl rfl)) (by simp)
   have cj:=dS (i:=6) (ρ':=ρ (.J (cg (rs.findIdx? (mt d a)))) (.J (cg (some o))) (.J (((gS ws (h,o)).map aB).getD .non))) (q0 (mt:="beyond") (o:=I 0) (n:=dt cs ws) rfl rfl kA (J0 cs ws (h,o))) rfl
   have J9:aH (ah (eZ true) (I 6) (ag .non)) (ρ (.J (cg (rs.findIdx? (mt d a)))) (.J (cg (some o))) (.J (((gS ws (h,o)).map aB).getD .non)))= .ok (gS ws (h,o)).isNone:=dy (bZ rfl rfl (OG _))
   have i4:bG (af (ag (.str (PySem.Str.ofString "out"))) (af (ah ay (I 2) (ag (.int 0))) (af (I 5) (ai)))) (ρ (.J (cg (rs.findIdx? (mt d a)))) (.J (cg (some o))) (.J (((gS ws (h,o)).map aB).getD .non)))= .ok (.tup [str "out",.int (h:Nat),.int (o:Nat)]):=fO (bj rfl (bj (bZ rfl rfl sk) (bj rfl rfl))) (by simp)
   rw [cu cj,kY J9 fun _=>i4]
   cases bE:gS ws (h,o) with
   | none=>rfl
   | some e=>
     simp only [Option.isNone_some,Bool.false_eq_true,if_false]
     have pK:bG (af (ag (.str (PySem.Str.ofString "at"))) (af (ah ay (I 6) (ag (.int 0))) (af (ah ay (I 6) (ag (.int 1))) (ai)))) (ρ (.J (cg (rs.findIdx? (mt d a)))) (.J (cg (some o))) (.J (aB e)))= .ok (z1 h (.to e)):=fO (bj rfl (bj (bZ rfl rfl (nQ (k:=0) rfl)) (bj (bZ rfl rfl (nQ (k:=1) rfl)) rfl))) (by simp)
     show (bS _ (ρ (.J (cg (rs.findIdx? (mt d a)))) (.J (cg (some o))) (.J (aB e)))).bind outD=_
     rw [fq pK]; rfl
end bU
set_option Elab.async false
set_option linter.all false
set_option maxRecDepth 100000
set_option autoImplicit false
namespace bU
open PySem PySem.Spec bb aD
noncomputable def sM:aY:=(cx (gp (dY (aH (ah (eZ true) (I 7) (ag .non))) (aH (ah (bT true) (I 7) (I 5)))) (aH (bc 2 mM (af (I 6) (af (I 3) (ai)))))) (aK (cx (aH (ah (eZ true) (I 8) (ag .non))) (bS (bG (af (ag (.str (PySem.Str.ofString "drop"))) (af (I 4) (ai))))) (cF))
  (aK (cx (aH (ah (es true) (bG (af (I 4) (af (I 8) (ai)))) (I 0))) (bS (bG (af (ag (.str (PySem.Str.ofString "at"))) (af (ah nD (I 0) (bG (af (I 4) (af (I 8) (ai))))) (ai))))) (cF))
  (bS (bG (af (ag (.str (PySem.Str.ofString "out"))) (af (I 4) (af (I 8) (ai)))))))) (cF))
noncomputable def lj (ws:List (ax×ax)) (B:D) (h d a:Nat) (cj dz cZ:bM):az:=[.J (.a0 (bQ ws) (b3 ws)),.J B,.J (aB (h,d)),.J (.int (a:Nat)),.J (.int (h:Nat)),.J (.int (d:Nat)),cj,dz,cZ]
noncomputable def lead (ws:List (ax×ax)) (h:Nat):Option Nat→jW
 | none=> .drop
 | some o=>match gS ws (h,o) with
   | none=> .out o
   | some e=> .to e
theorem Gf (ws:List (ax×ax)) (rs:List dw) (h d a:Nat):aV ws rs h d a=match rs.find? (mt d a) with | none=> .drop | some r=>lead ws h r.b:=by
 unfold aV lead
 cases rs.find? (mt d a) with
 | none=>rfl
 | some r=>cases r.b <;> rfl
theorem FY (ws:List (ax×ax)) (B:D) (h d a:Nat) (ha:a < 16):∀(rs:List dw) (cj dz cZ:bM),(∀r∈rs,r.p∈gx)→∃i4 pK fL,dQ (d6 [aJ 6,aJ 7,aJ 8]) sM (rs.map eu) (lj ws B h d a cj dz cZ)=match rs.find? (mt d a) with
  | some r=> .ok (.dN (mP h (lead ws h r.b)))
  | none=> .ok (.aV (lj ws B h d a i4 pK fL))
 | [],cj,dz,cZ,_=>⟨cj,dz,cZ,rfl⟩
 | r::rs,cj,dz,cZ,hp=>by
   have ar:d6 [aJ 6,aJ 7,aJ 8] (eu r) (lj ws B h d a cj dz cZ)= .ok (lj ws B h d a (.J (.str r.p)) (.J (cg r.a)) (.J (cg r.b))):=rfl
   let ρ:=lj ws B h d a (.J (.str r.p)) (.J (cg r.a)) (.J (cg r.b))
   have bD:=Fo (mi:=I 7) (md:=I 5) (ρ:=ρ) (o:=r.a) (d:=d) rfl rfl
   have c_:aH (bc 2 mM (af (I 6) (af (I 3) (ai)))) ρ= .ok (gk r.p a):=dy (call2 (x:= .str r.p) (z:= .int (a:Nat)) rfl rfl (yS (hp r (by simp)) ha).2)
   have c:=qb bD fun _=>c_
   have inner:(aK (cx (aH (ah (eZ true) (I 8) (ag .non))) (bS (bG (af (ag (.str (PySem.Str.ofString "drop"))) (af (I 4) (ai))))) (cF))
    (aK (cx (aH (ah (es true) (bG (af (I 4) (af (I 8) (ai)))) (I 0))) (bS (bG (af (ag (.str (PySem.Str.ofString "at"))) (af (ah nD (I 0) (bG (af (I 4) (af (I 8) (ai))))) (ai))))) (cF))
    (bS (bG (af (ag (.str (PySem.Str.ofString "out"))) (af (I 4) (af (I 8) (ai)))))))) ρ= .ok (.dN (mP h (lead ws h r.b))):=by
    have t1:bG (af (ag (.str (PySem.Str.ofString "drop"))) (af (I 4) (ai))) ρ= .ok (mP h .drop):=fO (bj rfl (bj rfl rfl)) (by simp)
    have fx:aH (ah (eZ true) (I 8) (ag .non)) ρ= .ok r.b.isNone:=dy (bZ rfl rfl (zv r.b))
    rw [kY fx fun _=>t1]
    cases bE:r.b with
    | none=>rfl
    | some o=>
      simp only [Option.isNone_some,Bool.false_eq_true,if_false]
      have IE:I 8 ρ= .ok (.int (o:Nat)):=by show R.ok (cg r.b)=_; rw [bE]; rfl
      have k:bG (af (I 4) (af (I 8) (ai))) ρ= .ok (aB (h,o)):=fO (bj rfl (bj IE rfl)) (by simp)
      have hj:aH (ah (es true) (bG (af (I 4) (af (I 8) (ai)))) (I 0)) ρ= .ok (gS ws (h,o)).isSome:=dy (bZ k rfl (KQ ws (h,o)))
      have t3:bG (af (ag (.str (PySem.Str.ofString "out"))) (af (I 4) (af (I 8) (ai)))) ρ= .ok (mP h (.out o)):=fO (bj rfl (bj rfl (bj IE rfl))) (by simp)
      cases d3:gS ws (h,o) with
      | none=>
        rw [d3] at hj
        have el:lead ws h (some o)= .out o:=by unfold lead; simp only [d3]
        rw [e0 hj,fq t3,el]
      | some e=>
        rw [d3] at hj
        have a4:nD (.a0 (bQ ws) (b3 ws)) (aB (h,o))= .ok (aB e):=by
         show (match findD (bQ ws) (b3 ws) (fa (h,o)) with | some v=>R.ok v | none=> .bad)=_
         rw [Es,d3]; rfl
        have d7:bG (af (ag (.str (PySem.Str.ofString "at"))) (af (ah nD (I 0) (bG (af (I 4) (af (I 8) (ai))))) (ai))) ρ= .ok (mP h (.to e)):=fO (bj rfl (bj (bZ rfl k a4) rfl)) (by simp)
        have el:lead ws h (some o)= .to e:=by unfold lead; simp only [d3]
        rw [rd hj d7,el]
   have b:sM ρ=if mt d a r=true then .ok (.dN (mP h (lead ws h r.b))) else .ok (.aV ρ):=by
    unfold sM
    rw [jD c,inner]; rfl
   rw [List.map_cons,dQ,ar,aU,b,List.find?_cons]
   cases hm:mt d a r with
   | true=>exact ⟨cj,dz,cZ,rfl⟩
   | false=>
     obtain ⟨i4,pK,fL,e⟩:=FY ws B h d a ha rs (.J (.str r.p)) (.J (cg r.a)) (.J (cg r.b)) (fun x hx=>hp x (List.mem_cons_of_mem _ hx))
     refine ⟨i4,pK,fL,?_⟩
     simp only [Bool.false_eq_true,if_false,aU]
     exact e
theorem Cp {bs:List (List dw)} {h:Nat} (hh:h < bs.length):ay (.lst (bP bs)) (.int (h:Nat))= .ok (fw (bs.getD h [])):=by
 refine kN ?_
 rw [bP,List.getElem?_map,List.getElem?_eq_getElem hh,List.getD_eq_getElem?_getD,List.getElem?_eq_getElem hh]; rfl
theorem Qx (ws:List (ax×ax)) (bs:List (List dw)) (h d a:Nat) (ha:a < 16) (hh:h < bs.length) (hp:∀r∈bs.getD h [],r.p∈gx):wi [.a0 (bQ ws) (b3 ws),.lst (bP bs),aB (h,d),.int (a:Nat)]= .ok (.v (mP h (aV ws (bs.getD h []) h d a))):=by
 show (uW [.J (.a0 (bQ ws) (b3 ws)),.J (.lst (bP bs)),.J (aB (h,d)),.J (.int (a:Nat)),.un,.un,.un,.un,.un]).bind outD=_
 have u:kP (d6 [aJ 4,aJ 5]) (I 2) [.J (.a0 (bQ ws) (b3 ws)),.J (.lst (bP bs)),.J (aB (h,d)),.J (.int (a:Nat)),.un,.un,.un,.un,.un]= .ok (.aV (lj ws (.lst (bP bs)) h d a .un .un .un)):=rfl
 have mi:dX (ah ay (I 1) (I 4)) (lj ws (.lst (bP bs)) h d a .un .un .un)= .ok ((bs.getD h []).map eu):=by
  have z:ah ay (I 1) (I 4) (lj ws (.lst (bP bs)) h d a .un .un .un)= .ok (fw (bs.getD h [])):=bZ rfl rfl (Cp hh)
  rw [dX,z]; rfl
 obtain ⟨i4,pK,fL,e⟩:=FY ws (.lst (bP bs)) h d a ha (bs.getD h []) .un .un .un hp
 have f:fc (dX (ah ay (I 1) (I 4))) (d6 [aJ 6,aJ 7,aJ 8]) sM (lj ws (.lst (bP bs)) h d a .un .un .un)=_:=(r5 mi).trans e
 unfold sM at f
 unfold uW
 rw [cu u,aK,f,Gf]
 cases (bs.getD h []).find? (mt d a) with
 | some r=>rfl
 | none=>
   have t1:bG (af (ag (.str (PySem.Str.ofString "drop"))) (af (I 4) (ai))) (lj ws (.lst (bP bs)) h d a i4 pK fL)= .ok (mP h .drop):=fO (bj rfl (bj rfl rfl)) (by simp)
   simp only [aU]
   rw [fq t1]; rfl
inductive oD where
 | drop (h:Nat) | out (h o:Nat) | ring (d:ax)
noncomputable def walk (N:ax→jW):Nat→List ax→ax→Option (List ax×oD)
 | 0,_,_=>none
 | n + 1,ds,d=>if d∈ds then some (ds,.ring d) else match N d with
   | .to e=>walk N n (ds ++ [d]) e
   | .drop=>some (ds ++ [d],.drop d.1)
   | .out o=>some (ds ++ [d],.out d.1 o)
theorem IJ {N:ax→jW} {A:List ax} (iJ:A.length < 100) (cl:∀d∈A,∀e,N d= .to e→e∈A):∀(n:Nat) (ds:List ax) (d:ax),ds.Nodup→(∀x∈ds,x∈A)→d∈A→101≤n + ds.length→∃r,walk N n ds d=some r
 | 0,ds,d,bg,kX,_,h=>by
   have:=List.Nodup.length_le_of_subset bg kX
   omega
 | n + 1,ds,d,bg,kX,hd,h=>by
   simp only [walk]
   by_cases hm:d∈ds
   · rw [if_pos hm]; exact ⟨_,rfl⟩
   · rw [if_neg hm]
     cases e:N d with
     | drop=>exact ⟨_,rfl⟩
     | out o=>exact ⟨_,rfl⟩
     | to f=>
       have Qs:(ds ++ [d]).Nodup:=List.nodup_append.mpr ⟨bg,by simp,fun x hx y b5 z=>hm (by rw [←List.mem_singleton.mp b5,←z]; exact hx)⟩
       have TK:∀x∈ds ++ [d],x∈A:=fun x hx=>by
        rcases List.mem_append.mp hx with h | h
        · exact kX x h
        · rw [List.mem_singleton.mp h]; exact hd
       exact IJ iJ cl n (ds ++ [d]) f Qs TK (cl d hd f e) (by simp; omega)
theorem yv (a b:ax):bA (aB a) (aB b)=decide (a=b):=by
 show (((a.1:Int) == (b.1:Int)) && (((a.2:Int) == (b.2:Int)) && true))=_
 rw [Bool.and_true,Bool.eq_iff_iff,Bool.and_eq_true,beq_iff_eq,beq_iff_eq,decide_eq_true_iff]
 constructor
 · intro ⟨h1,h2⟩
   exact Prod.ext (by omega) (by omega)
 · rintro rfl; exact ⟨rfl,rfl⟩
theorem Dm (ds:List ax):(ds.map aB).all (okN 7)=true:=by
 rw [List.all_map,List.all_eq_true]; intro d _; rfl
theorem JQ (ds:List ax) (d:ax):((ds.map aB).any fun y=>bA y (aB d))=decide (d∈ds):=by
 rw [List.any_map,Bool.eq_iff_iff,List.any_eq_true,decide_eq_true_iff]
 constructor
 · rintro ⟨x,hx,h⟩
   have:=(yv x d).symm.trans h
   rw [decide_eq_true_iff] at this
   rw [←this]; exact hx
 · intro h
   exact ⟨d,h,by show bA (aB d) (aB d)=true; rw [yv]; simp⟩
theorem QD {m1 m2:aE} {ρ:az} {ds:List ax} {d:ax} (h1:m1 ρ= .ok (aB d)) (h2:m2 ρ= .ok (.lst (ds.map aB))):aH (ah (inD false) m1 m2) ρ= .ok (!decide (d∈ds)):=by
 refine dy (bZ h1 h2 ?_)
 have s:tu (.lst (ds.map aB))=some (ds.map aB):=rfl
 have o:okN 7 (aB d)=true:=rfl
 simp only [inD,s,Dm,o,and_self,if_true,JQ]
 rfl
noncomputable def idx (ds:List ax) (d:ax):Nat:=(ds.findIdx? fun x=>decide (x=d)).getD 0
theorem Ot {m1 m2:aE} {ρ:az} {ds:List ax} {d:ax} (h2:m2 ρ= .ok (.lst (ds.map aB))) (h1:m1 ρ= .ok (aB d)) (hm:d∈ds) (hl:ds.length < 1000):nX m2 (af m1 ai) ρ= .ok (.int (idx ds d:Nat)):=by
 have f:(ds.map aB).findIdx? (fun z=>bA z (aB d))=ds.findIdx? (fun x=>decide (x=d)):=by
  rw [List.findIdx?_map]
  congr 1
  funext x
  exact yv x d
 have g:∃j,ds.findIdx? (fun x=>decide (x=d))=some j:=by
  cases e:ds.findIdx? (fun x=>decide (x=d)) with
  | some j=>exact ⟨j,rfl⟩
  | none=>exact absurd (List.findIdx?_eq_none_iff.mp e d hm) (by simp)
 obtain ⟨j,g⟩:=g
 have o:okN 7 (aB d)=true:=rfl
 have l:(ds.map aB).length < 1000000:=by rw [List.length_map]; omega
 rw [nX,h2,aU]
 simp only [bj h1 (r:=ai) rfl,aU,zt,o,Dm,l,and_self,if_true,f,g,idx,Option.getD_some]
noncomputable def qv (ds:List ax):oD→D
 | .drop h=> .tup [str "drop",.int (h:Nat)]
 | .out h o=> .tup [str "out",.int (h:Nat),.int (o:Nat)]
 | .ring d=> .tup [str "ring",.int (idx ds d:Nat)]
noncomputable def ot (r:List ax×oD):D:= .tup [.lst (r.1.map aB),qv r.1 r.2]
end bU
set_option Elab.async false
set_option linter.all false
set_option maxRecDepth 100000
set_option autoImplicit false
namespace bU
open PySem PySem.Spec bb aD
noncomputable def er (X Y:D) (d:ax) (a:Nat) (ds:List ax) (s5:bM):az:=[.J X,.J Y,.J (aB d),.J (.int (a:Nat)),.cD (ds.map aB),s5]
noncomputable def m7:ck:=hJ (aH (ah (inD false) (I 2) (I 4)))
noncomputable def l1 (c s:aE):aY:=(aK (hz 4 (I 2))
  (aK (b6 5 c)
  (aK (cx (aH (ah (bT false) (ah ay (I 5) (ag (.int 0))) (ag (.str (PySem.Str.ofString "at"))))) (gK (bG (af (I 4) (af (I 5) (ai))))) (cF))
  (b6 2 s))))
noncomputable def IM:aY:=(gK (bG (af (I 4) (af (bG (af (ag (.str (PySem.Str.ofString "ring"))) (af (nX (I 4) (af (I 2) (ai))) (ai)))) (ai)))))
theorem Hf {e:aE} {ρ:az} {d:D} (he:e (et ρ)= .ok d):gK e ρ= .ok (.dN d):=by simp only [gK,he,aU]
theorem Mo (X Y:D) (d:ax) (a:Nat) (ds:List ax) (x:D):et (er X Y d a ds (.J x))=[.J X,.J Y,.J (aB d),.J (.int (a:Nat)),.J (.lst (ds.map aB)),.J x]:=rfl
theorem IL (X Y:D) (d:ax) (a:Nat) (ds:List ax) (s5:bM):m7 (er X Y d a ds s5)= .ok (!decide (d∈ds)):=QD rfl rfl
structure rO (X Y:D) (a:Nat) (c s:aE) (N:ax→jW) (T:Nat→jW→D) (A:List ax):Prop where
 call:∀d∈A,∀ds s5,c (er X Y d a ds s5)= .ok (T d.1 (N d))
 drop:∀h,T h .drop= .tup [str "drop",.int (h:Nat)]
 out:∀h o,T h (.out o)= .tup [str "out",.int (h:Nat),.int (o:Nat)]
 yb:∀h e,ay (T h (.to e)) (.int 0)= .ok (str "at")
 step:∀d ds h e,s (er X Y d a ds (.J (T h (.to e))))= .ok (aB e)
 cl:∀d∈A,∀e,N d= .to e→e∈A
section
variable {X Y:D} {a:Nat} {c s:aE} {N:ax→jW} {T:Nat→jW→D} {A:List ax}
theorem VP (w:rO X Y a c s N T A) {d:ax} (hd:d∈A) (ds:List ax) (s5:bM) (hl:ds.length < 1000) (m:aY):aK (hz 4 (I 2)) (aK (b6 5 c) m) (er X Y d a ds s5)=m (er X Y d a (ds ++ [d]) (.J (T d.1 (N d)))):=by
 have ar:hz 4 (I 2) (er X Y d a ds s5)= .ok (.aV (er X Y d a (ds ++ [d]) s5)):=by
  have z:=rQ (i:=4) (e:=I 2) (ρ:=er X Y d a ds s5) (ds:=ds.map aB) (d:=aB d) rfl rfl (by rw [List.length_map]; omega)
  rw [z]
  show R.ok (l9.aV [.J X,.J Y,.J (aB d),.J (.int (a:Nat)),.cD (ds.map aB ++ [aB d]),s5])=_
  rw [er,List.map_append]; rfl
 rw [cu ar,cu (dS (w.call d hd (ds ++ [d]) s5) (ρ':=er X Y d a (ds ++ [d]) (.J (T d.1 (N d)))) rfl)]
theorem IQ {d:ax} {ds:List ax} {x:D} {t:D} {m:aY} (hx:ay x (.int 0)= .ok t) (ht:bT false t (.str (PySem.Str.ofString "at"))= .ok (.aw true)):aK (cx (aH (ah (bT false) (ah ay (I 5) (ag (.int 0))) (ag (.str (PySem.Str.ofString "at"))))) (gK (bG (af (I 4) (af (I 5) (ai))))) (cF)) m (er X Y d a ds (.J x))= .ok (.dN (.tup [.lst (ds.map aB),x])):=by
 have mw:aH (ah (bT false) (ah ay (I 5) (ag (.int 0))) (ag (.str (PySem.Str.ofString "at")))) (er X Y d a ds (.J x))= .ok true:=by
  have y:ah ay (I 5) (ag (.int 0)) (er X Y d a ds (.J x))= .ok t:=bZ rfl rfl hx
  exact dy (bZ y rfl ht)
 have SE:gK (bG (af (I 4) (af (I 5) (ai)))) (er X Y d a ds (.J x))= .ok (.dN (.tup [.lst (ds.map aB),x])):=Hf (by rw [Mo]; exact fO (bj rfl (bj rfl rfl)) (by simp))
 rw [aK,jD mw,if_pos rfl,SE]; rfl
theorem VQ {d:ax} {ds:List ax} {x:D} {m:aY} (hx:ay x (.int 0)= .ok (str "at")):aK (cx (aH (ah (bT false) (ah ay (I 5) (ag (.int 0))) (ag (.str (PySem.Str.ofString "at"))))) (gK (bG (af (I 4) (af (I 5) (ai))))) (cF)) m (er X Y d a ds (.J x))=m (er X Y d a ds (.J x)):=by
 have mw:aH (ah (bT false) (ah ay (I 5) (ag (.int 0))) (ag (.str (PySem.Str.ofString "at")))) (er X Y d a ds (.J x))= .ok false:=by
  have y:ah ay (I 5) (ag (.int 0)) (er X Y d a ds (.J x))= .ok (str "at"):=bZ rfl rfl hx
  exact dy (bZ y rfl rfl)
 rw [e0 mw]
theorem IS (w:rO X Y a c s N T A):∀(n:Nat) (ds:List ax) (d:ax) (s5:bM) (r:List ax×oD),d∈A→ds.length + n < 1000 + 1→walk N n ds d=some r→(∃e k6,r.2= .ring e∧e∈r.1∧r.1.length < 1000∧jT m7 (l1 c s) n (er X Y d a ds s5)= .ok (.aV (er X Y e a r.1 k6)))∨((∀e,r.2≠ .ring e)∧jT m7 (l1 c s) n (er X Y d a ds s5)= .ok (.dN (ot r)))
 | 0,ds,d,s5,r,_,_,h=>by simp [walk] at h
 | n + 1,ds,d,s5,r,hd,hl,h=>by
   simp only [walk] at h
   by_cases hm:d∈ds
   · rw [if_pos hm] at h
     obtain rfl:=Option.some.inj h
     refine .inl ⟨d,s5,rfl,hm,by simp only; omega,?_⟩
     rw [jT,IL,aU,decide_eq_true hm]; rfl
   · rw [if_neg hm] at h
     have g:jT m7 (l1 c s) (n + 1) (er X Y d a ds s5)=(l1 c s (er X Y d a ds s5)).bind fun f=>match f with
       | .aV ρ'=>jT m7 (l1 c s) n ρ'
       | .cL ρ'=>jT m7 (l1 c s) n ρ'
       | .ee ρ'=> .ok (.aV ρ')
       | f=> .ok f:=by
      rw [jT,IL,aU,decide_eq_false hm]; rfl
     rw [g]
     have b:l1 c s (er X Y d a ds s5)=_:=VP w hd ds s5 (by omega) _
     cases e:N d with
     | drop=>
       rw [e] at h
       obtain rfl:=Option.some.inj h
       rw [e,w.drop,IQ (t:=str "drop") rfl rfl] at b
       exact .inr ⟨(fun _ z=>nomatch z),by rw [b]; rfl⟩
     | out o=>
       rw [e] at h
       obtain rfl:=Option.some.inj h
       rw [e,w.out,IQ (t:=str "out") rfl rfl] at b
       exact .inr ⟨(fun _ z=>nomatch z),by rw [b]; rfl⟩
     | to f=>
       rw [e] at h
       rw [e,VQ (w.yb _ _),dS (w.step d (ds ++ [d]) d.1 f) (ρ':=er X Y f a (ds ++ [d]) (.J (T d.1 (.to f)))) rfl] at b
       rw [b,aU]
       exact IS w n (ds ++ [d]) f _ r (w.cl d hd f e) (by simp; omega) h
theorem IP (w:rO X Y a c s N T A) (iJ:A.length < 100) {d:ax} (hd:d∈A):∃r,walk N 1000 [] d=some r∧(aK (d5 4 (bK (ai))) (aK (ps m7 (l1 c s)) IM) [.J X,.J Y,.J (aB d),.J (.int (a:Nat)),.un,.un]).bind outD= .ok (.v (ot r)):=by
 obtain ⟨r,hr⟩:=IJ iJ w.cl 1000 [] d List.nodup_nil (by simp) hd (by simp)
 refine ⟨r,hr,?_⟩
 have s4:d5 4 (bK (ai)) [.J X,.J Y,.J (aB d),.J (.int (a:Nat)),.un,.un]= .ok (.aV (er X Y d a [] .un)):=rfl
 rw [cu s4]
 rcases IS w 1000 [] d .un r hd (by simp) hr with ⟨e,k6,h1,h2,h3,h4⟩ | ⟨_,h4⟩
 · have h5:ps m7 (l1 c s) (er X Y d a [] .un)=_:=h4
   rw [cu h5]
   have k:bG (af (I 4) (af (bG (af (ag (.str (PySem.Str.ofString "ring"))) (af (nX (I 4) (af (I 2) (ai))) (ai)))) (ai))) (et (er X Y e a r.1 k6))= .ok (ot r):=by
    have i:=Ot (m1:=I 2) (m2:=I 4) (ρ:=et (er X Y e a r.1 k6)) (ds:=r.1) (d:=e) rfl rfl h2 h3
    rw [ot,h1]
    exact fO (bj rfl (bj (fO (bj rfl (bj i rfl)) (by simp)) rfl)) (by simp)
   rw [IM,Hf k]; rfl
 · have h5:ps m7 (l1 c s) (er X Y d a [] .un)=_:=h4
   rw [aK,h5]; rfl
end
end bU
set_option Elab.async false
set_option linter.all false
set_option maxRecDepth 100000
set_option autoImplicit false
namespace bU
open PySem PySem.Spec bb aD
noncomputable def rJ (ws:List (ax×ax)) (bs:List (List dw)) (a:Nat) (d:ax):jW:=aV ws (bs.getD d.1 []) d.1 d.2 a
theorem JZ {ws:List (ax×ax)} {d e:ax} (h:gS ws d=some e):e∈ends ws:=by
 unfold gS at h
 rw [Option.map_eq_some_iff] at h
 obtain ⟨p,hp,rfl⟩:=h
 have hm:=List.mem_of_find?_eq_some hp
 unfold pairsOf at hm
 obtain ⟨w,hw,hl⟩:=List.mem_flatMap.mp hm
 unfold ends
 refine List.mem_flatten.mpr ⟨[w.1,w.2],List.mem_map.mpr ⟨w,hw,rfl⟩,?_⟩
 simp only [List.mem_cons,List.not_mem_nil,or_false] at hl ⊢
 rcases hl with rfl | rfl <;> simp
theorem Gg {ws:List (ax×ax)} {rs:List dw} {h d a:Nat} {e:ax} (aC:aV ws rs h d a= .to e):e∈ends ws:=by
 rw [Gf] at aC
 cases hf:rs.find? (mt d a) with
 | none=>rw [hf] at aC; exact nomatch aC
 | some r=>
   rw [hf] at aC
   cases hb:r.b with
   | none=>simp only [lead,hb] at aC; exact nomatch aC
   | some o=>
     simp only [lead,hb] at aC
     cases b5:gS ws (h,o) with
     | none=>rw [b5] at aC; exact nomatch aC
     | some f=>rw [b5] at aC; cases aC; exact JZ b5
section
variable {cs:List Nat} {ws:List (ax×ax)} {bs:List (List dw)} {a:Nat}
theorem CL (hb:gA cs bs) {h:Nat} (hh:h < cs.length):∀r∈bs.getD h [],r.p∈gx:=fun r hr=>((hb.ee h hh).row r hr).p
noncomputable def Kb:aE:=(bc 4 wm (af (I 0) (af (ah ay (I 1) (ah ay (I 2) (ag (.int 0)))) (af (I 2) (af (I 3) (ai))))))
noncomputable def Tb:aE:=(bG (af (ah ay (I 5) (ag (.int 1))) (af (ah ay (I 5) (ag (.int 2))) (ai))))
noncomputable def Ka:aE:=(bc 4 wi (af (I 0) (af (I 1) (af (I 2) (af (I 3) (ai))))))
noncomputable def Ta:aE:=(ah ay (I 5) (ag (.int 1)))
theorem VO (h:fj cs ws) (hb:gA cs bs) (ha:a < 16):rO (bN (dt cs ws)) (.lst (bP bs)) a Kb Tb (rJ ws bs a) z1 (cI cs cs.length) where
 call:=fun d hd ds s5=>by
  have hh:=(pA.mp hd).1
  have kc:ah ay (I 1) (ah ay (I 2) (ag (.int 0))) (er (bN (dt cs ws)) (.lst (bP bs)) d a ds s5)= .ok (fw (bs.getD d.1 [])):=bZ rfl (y:= .int (d.1:Nat)) rfl (Cp (by rw [hb.len]; exact hh))
  exact qp (x:=bN (dt cs ws)) (z:=fw (bs.getD d.1 [])) (w:=aB d) (v:= .int (a:Nat)) rfl kc rfl rfl (Q5 cs ws (bs.getD d.1 []) d.1 d.2 a ha (CL hb hh))
 drop:=fun _=>rfl
 out:=fun _ _=>rfl
 yb:=fun _ _=>rfl
 step:=fun d ds h e=>fO (bj rfl (bj rfl rfl)) (by simp)
 cl:=fun d hd e he=>h.sub e (Gg he)
theorem VN (h:fj cs ws) (hb:gA cs bs) (ha:a < 16):rO (.a0 (bQ ws) (b3 ws)) (.lst (bP bs)) a Ka Ta (rJ ws bs a) mP (cI cs cs.length) where
 call:=fun d hd ds s5=>by
  have hh:=(pA.mp hd).1
  exact qp (x:= .a0 (bQ ws) (b3 ws)) (z:= .lst (bP bs)) (w:=aB d) (v:= .int (a:Nat)) rfl rfl rfl rfl (Qx ws bs d.1 d.2 a ha (by rw [hb.len]; exact hh) (CL hb hh))
 drop:=fun _=>rfl
 out:=fun _ _=>rfl
 yb:=fun _ _=>rfl
 step:=fun d ds h e=>rfl
 cl:=fun d hd e he=>h.sub e (Gg he)
theorem Er (h:fj cs ws):(cI cs cs.length).length < 100:=by
 have:=rP h.c cs.length
 have:=h.h6
 omega
theorem VL (h:fj cs ws) (hb:gA cs bs) (ha:a < 16) {d:ax} (hd:d∈cI cs cs.length):∃r,walk (rJ ws bs a) 1000 [] d=some r∧zQ [bN (dt cs ws),.lst (bP bs),aB d,.int (a:Nat)]= .ok (.v (ot r)):=IP (VO h hb ha) (Er h) hd
theorem SX (h:fj cs ws) (hb:gA cs bs) (ha:a < 16) {d:ax} (hd:d∈cI cs cs.length):∃r,walk (rJ ws bs a) 1000 [] d=some r∧sZ [.a0 (bQ ws) (b3 ws),.lst (bP bs),aB d,.int (a:Nat)]= .ok (.v (ot r)):=IP (VN h hb ha) (Er h) hd
end
end bU
set_option Elab.async false
set_option linter.all false
set_option maxRecDepth 100000
set_option autoImplicit false
namespace bU
open PySem PySem.Spec bb aD
inductive Cc where
 | comes (e:ax) | leaves | pD | ly (h:Nat) | never (h:Nat)
structure fX where
 w:Cc
 p:Str
 d:ax
noncomputable def c2 (s:fX):D:=match s.w with
 | .comes e=> .tup [str "comes",.str s.p,aB s.d,aB e]
 | .leaves=> .tup [str "leaves",.str s.p,aB s.d]
 | .pD=> .tup [str "noring",.str s.p,aB s.d]
 | .ly h=> .tup [str "by",.str s.p,aB s.d,.int (h:Nat)]
 | .never h=> .tup [str "never",.str s.p,aB s.d,.int (h:Nat)]
noncomputable def iM (ds:List ax):List D:=ds.map fun d=> .int (d.1:Nat)
noncomputable def lK (h:Nat) (ds:List ax):Bool:=(iM ds).any fun y=>bA y (.int (h:Nat))
noncomputable def HG (w:Cc) (r:List ax×oD):Bool:=match w with
 | .comes e=>bA (qv r.1 r.2) (.tup [str "out",.int (e.1:Nat),.int (e.2:Nat)])
 | .leaves=>match r.2 with | .out _ _=>true | _=>false
 | .pD=>match r.2 with | .ring _=>false | _=>true
 | .ly h=>bA (.aw (lK h r.1)) (.aw true)
 | .never h=>bA (.aw (lK h r.1)) (.aw false)
theorem HP (s:fX):ay (c2 s) (.int 2)= .ok (aB s.d):=by
 unfold c2; cases s.w <;> rfl
theorem HO (s:fX):ay (c2 s) (.int 1)= .ok (.str s.p):=by
 unfold c2; cases s.w <;> rfl
theorem C6:∀(ds:List ax) (acc:List D) (s0:bM),acc.length + ds.length < 10000→dm (aJ 0) cT (ah ay (I 0) (ag (.int 0))) (ds.map aB) [s0] acc= .ok (acc ++ iM ds)
 | [],acc,s0,_=>by simp [dm,iM]
 | d::ds,acc,s0,hl=>by
   simp only [List.length_cons] at hl
   have cw:aJ 0 (aB d) [s0]= .ok [.J (aB d)]:=rfl
   have ar:ah ay (I 0) (ag (.int 0)) [.J (aB d)]= .ok (.int (d.1:Nat)):=rfl
   rw [List.map_cons,dm,cw,aU]
   simp only [cT,aU,ar,if_true,if_pos (show acc.length < 1000000 by omega)]
   rw [C6 ds _ _ (by rw [List.length_append,List.length_singleton]; omega),List.append_assoc]
   rfl
theorem C7:∀(ds:List ax) (acc:List D) (s0 s1:bM),acc.length + ds.length < 10000→dm (d6 [aJ 0,aJ 1]) cT (I 0) (ds.map aB) [s0,s1] acc= .ok (acc ++ iM ds)
 | [],acc,s0,s1,_=>by simp [dm,iM]
 | d::ds,acc,s0,s1,hl=>by
   simp only [List.length_cons] at hl
   have cw:d6 [aJ 0,aJ 1] (aB d) [s0,s1]= .ok [.J (.int (d.1:Nat)),.J (.int (d.2:Nat))]:=rfl
   have ar:I 0 [.J (.int (d.1:Nat)),.J (.int (d.2:Nat))]= .ok (.int (d.1:Nat)):=rfl
   rw [List.map_cons,dm,cw,aU]
   simp only [cT,aU,ar,if_true,if_pos (show acc.length < 1000000 by omega)]
   rw [C7 ds _ _ _ (by rw [List.length_append,List.length_singleton]; omega),List.append_assoc]
   rfl
theorem Nb (ds:List ax):(iM ds).all (okN 7)=true:=by
 rw [iM,List.all_map,List.all_eq_true]; intro d _; rfl
theorem Fm (h:Nat) (ds:List ax):inD true (.int (h:Nat)) (.lst (iM ds))= .ok (.aw (lK h ds)):=by
 have s:tu (.lst (iM ds))=some (iM ds):=rfl
 have o:okN 7 (.int (h:Nat))=true:=rfl
 simp only [inD,s,Nb,o,and_self,if_true,lK]
theorem BF {N:ax→jW}:∀(n:Nat) (ds:List ax) (d:ax) (r:List ax×oD),walk N n ds d=some r→r.1.length≤ds.length + n
 | 0,ds,d,r,h=>by simp [walk] at h
 | n + 1,ds,d,r,h=>by
   simp only [walk] at h
   split at h
   · cases h; simp only; omega
   · split at h
     · have:=BF n _ _ r h
       rw [List.length_append,List.length_singleton] at this
       omega
     · cases h; rw [List.length_append,List.length_singleton]; omega
     · cases h; rw [List.length_append,List.length_singleton]; omega
noncomputable def vf:aE:=(a9 (cY 1 [] (dX (I 1)) (aJ 0) (cT) (ah ay (I 0) (ag (.int 0)))))
theorem Ur (s:fX) (r:List ax×oD) (hl:r.1.length < 9000):zM [c2 s,.lst (r.1.map aB),qv r.1 r.2]= .ok (.v (.aw (HG s.w r))):=by
 show (uM [.J (c2 s),.J (.lst (r.1.map aB)),.J (qv r.1 r.2),.un,.un]).bind outD=_
 obtain ⟨w,p,d⟩:=s
 obtain ⟨ds,jy⟩:=r
 let ρ (W:D) (s3 s4:bM):az:=[.J W,.J (.lst (ds.map aB)),.J (qv ds jy),s3,s4]
 have my (W:D) (s3 s4:bM):vf (ρ W s3 s4)= .ok (.lst (iM ds)):=by
  have z:cY 1 [] (dX (I 1)) (aJ 0) (cT) (ah ay (I 0) (ag (.int 0))) (ρ W s3 s4)= .ok (iM ds):=by
   have i:dX (I 1) (ρ W s3 s4)= .ok (ds.map aB):=rfl
   rw [cY,i,aU]
   show fo (dm (aJ 0) cT (ah ay (I 0) (ag (.int 0))) (ds.map aB) [.un] [])=_
   rw [C6 ds [] .un (by simp at hl ⊢; omega)]; rfl
  simp only [vf,a9,z,aU]
 have qE (W:D) (h:Nat) (s3 s4:bM) (si:ay W (.int 3)= .ok (.int (h:Nat))):ah (inD true) (ah ay (I 0) (ag (.int 3))) vf (ρ W s3 s4)= .ok (.aw (lK h ds)):=bZ (bZ rfl rfl si) (my W s3 s4) (Fm h ds)
 unfold vf at qE
 unfold uM
 cases w with
 | comes e=>
   cases jy <;> rfl
 | leaves=>cases jy <;> rfl
 | pD=>cases jy <;> rfl
 | ly h=>
   let W:=c2 ⟨.ly h,p,d⟩
   have s3:=dS (i:=3) (a:=ah ay (I 0) (ag (.int 0))) (ρ:=ρ W .un .un) (ρ':=ρ W (.J (str "by")) .un) rfl rfl
   have s4:=dS (i:=4) (qE W h (.J (str "by")) .un rfl) (ρ':=ρ W (.J (str "by")) (.J (.aw (lK h ds)))) rfl
   rw [cu s3,e0 rfl,e0 rfl,e0 rfl,cu s4]; rfl
 | never h=>
   let W:=c2 ⟨.never h,p,d⟩
   have s3:=dS (i:=3) (a:=ah ay (I 0) (ag (.int 0))) (ρ:=ρ W .un .un) (ρ':=ρ W (.J (str "never")) .un) rfl rfl
   have s4:=dS (i:=4) (qE W h (.J (str "never")) .un rfl) (ρ':=ρ W (.J (str "never")) (.J (.aw (lK h ds)))) rfl
   rw [cu s3,e0 rfl,e0 rfl,e0 rfl,cu s4]; rfl
section
variable {cs:List Nat} {ws:List (ax×ax)} {bs:List (List dw)} {a:Nat}
noncomputable def so (ws:List (ax×ax)) (bs:List (List dw)) (s:fX) (a:Nat):Bool:=match walk (rJ ws bs a) 1000 [] s.d with
 | some r=>HG s.w r
 | none=>true
theorem ON (h:fj cs ws) (hb:gA cs bs) (ha:a < 16) (s:fX) (hd:s.d∈cI cs cs.length):wa [bN (dt cs ws),.lst (bP bs),c2 s,.int (a:Nat)]= .ok (.v (.aw (so ws bs s a))):=by
 show (uL [.J (bN (dt cs ws)),.J (.lst (bP bs)),.J (c2 s),.J (.int (a:Nat)),.un]).bind outD=_
 obtain ⟨r,hr,e⟩:=VL h hb ha hd
 let ρ (s4:bM):az:=[.J (bN (dt cs ws)),.J (.lst (bP bs)),.J (c2 s),.J (.int (a:Nat)),s4]
 have s4:=dS (i:=4) (ρ:=ρ .un) (ρ':=ρ (.J (ot r))) (qp (a:=I 0) (b:=I 1) (c:=ah ay (I 2) (ag (.int 2))) (d:=I 3) rfl rfl (bZ rfl rfl (HP s)) rfl e) rfl
 have c:=ju (ρ:=ρ (.J (ot r))) (a:=I 2) (b:=ah ay (I 4) (ag (.int 0))) (c:=ah ay (I 4) (ag (.int 1))) rfl rfl rfl (Ur s r (by have:=BF _ _ _ _ hr; simp at this; omega))
 unfold uL
 rw [cu s4,fq c]
 simp only [so,hr]; rfl
theorem P1 (h:fj cs ws) (hb:gA cs bs) (ha:a < 16) (s:fX) (hd:s.d∈cI cs cs.length):wh [.a0 (bQ ws) (b3 ws),.lst (bP bs),c2 s,.int (a:Nat)]= .ok (.v (.aw (so ws bs s a))):=by
 show (uV [.J (.a0 (bQ ws) (b3 ws)),.J (.lst (bP bs)),.J (c2 s),.J (.int (a:Nat)),.un,.un,.un]).bind outD=_
 obtain ⟨r,hr,e⟩:=SX h hb ha hd
 have hl:=BF _ _ _ _ hr
 simp only [so,hr]
 obtain ⟨w,p,d⟩:=s
 obtain ⟨ds,jy⟩:=r
 let ρ (W:D) (cj:bM):az:=[.J (.a0 (bQ ws) (b3 ws)),.J (.lst (bP bs)),.J W,.J (.int (a:Nat)),.J (.lst (ds.map aB)),.J (qv ds jy),cj]
 have u:kP (d6 [aJ 4,aJ 5]) (bc 4 sZ (af (I 0) (af (I 1) (af (ah ay (I 2) (ag (.int 2))) (af (I 3) (ai)))))) [.J (.a0 (bQ ws) (b3 ws)),.J (.lst (bP bs)),.J (c2 ⟨w,p,d⟩),.J (.int (a:Nat)),.un,.un,.un]= .ok (.aV (ρ (c2 ⟨w,p,d⟩) .un)):=by
  have c:=qp (f:=sZ) (ρ:=[.J (.a0 (bQ ws) (b3 ws)),.J (.lst (bP bs)),.J (c2 ⟨w,p,d⟩),.J (.int (a:Nat)),.un,.un,.un]) (a:=I 0) (b:=I 1) (c:=ah ay (I 2) (ag (.int 2))) (d:=I 3) rfl rfl (bZ rfl rfl (HP ⟨w,p,d⟩)) rfl e
  rw [kP,c,aU]; rfl
 have my (W:D):kg 6 (cY 2 [] (dX (I 4)) (d6 [aJ 0,aJ 1]) (cT) (I 0)) (ρ W .un)= .ok (.aV (ρ W (.J (.lst (iM ds))))):=by
  have z:cY 2 [] (dX (I 4)) (d6 [aJ 0,aJ 1]) (cT) (I 0) (ρ W .un)= .ok (iM ds):=by
   have i:dX (I 4) (ρ W .un)= .ok (ds.map aB):=rfl
   rw [cY,i,aU]
   show fo (dm (d6 [aJ 0,aJ 1]) cT (I 0) (ds.map aB) [.un,.un] [])=_
   rw [C7 ds [] .un .un (by simp at hl ⊢; omega)]; rfl
  rw [kg,d5,z,aU]; rfl
 have qE (W:D) (h:Nat) (si:ay W (.int 3)= .ok (.int (h:Nat))):ah (inD true) (ah ay (I 2) (ag (.int 3))) (I 6) (ρ W (.J (.lst (iM ds))))= .ok (.aw (lK h ds)):=bZ (bZ rfl rfl si) rfl (Fm h ds)
 unfold uV
 rw [cu u]
 cases w with
 | comes e=>cases jy <;> rfl
 | leaves=>cases jy <;> rfl
 | pD=>cases jy <;> rfl
 | ly h=>
   have t:=bZ (f:=bT true) (b:=ah (bT true) (ah ay (I 2) (ag (.int 0))) (ag (.str (PySem.Str.ofString "by")))) (y:= .aw true) (z:= .aw (bA (.aw (lK h ds)) (.aw true))) (qE (c2 ⟨.ly h,p,d⟩) h rfl) rfl rfl
   rw [e0 rfl,e0 rfl,e0 rfl,cu (my _),fq t]; rfl
 | never h=>
   have t:=bZ (f:=bT true) (b:=ah (bT true) (ah ay (I 2) (ag (.int 0))) (ag (.str (PySem.Str.ofString "by")))) (y:= .aw false) (z:= .aw (bA (.aw (lK h ds)) (.aw false))) (qE (c2 ⟨.never h,p,d⟩) h rfl) rfl rfl
   rw [e0 rfl,e0 rfl,e0 rfl,cu (my _),fq t]; rfl
end
end bU
set_option Elab.async false
set_option linter.all false
set_option maxRecDepth 100000
set_option autoImplicit false
namespace bU
open PySem PySem.Spec bb aD
noncomputable def vS:List D→List Nat→Bool
 | [],[]=>true
 | .int i::ds,n::ns=>decide (i=(n:Nat)) && vS ds ns
 | _,_=>false
theorem Gi:∀{ds:List D} {ns:List Nat},vS ds ns=true→ds=ns.map fun (n:Nat)=>D.int (n:Nat)
 | [],[],_=>rfl
 | .int i::ds,n::ns,h=>by
   simp only [vS,Bool.and_eq_true,decide_eq_true_eq] at h
   rw [List.map_cons,←Gi h.2,h.1]
noncomputable def zw (ns:List Nat):R bR→Bool
 | .ok (.o ds)=>vS ds ns
 | _=>false
theorem QS {ns:List Nat} {r:R bR} (h:zw ns r=true):r= .ok (.o (ns.map fun (n:Nat)=>D.int (n:Nat))):=by
 unfold zw at h
 split at h
 · rw [Gi h]
 · exact nomatch h
theorem JL:(gx.all fun p=>zw ((List.range 16).filter (gk p)) (qS [.str p]))=true:=by decide +kernel
theorem JM {p:Str} (hp:p∈gx):qS [.str p]= .ok (.o (((List.range 16).filter (gk p)).map fun (n:Nat)=>D.int (n:Nat))):=QS (List.all_eq_true.mp JL p hp)
end bU
set_option Elab.async false
set_option linter.all false
set_option maxRecDepth 100000
set_option autoImplicit false
namespace bU
open PySem PySem.Spec bb aD
noncomputable def wu (ns:List Nat):List D:=ns.map fun (n:Nat)=>D.int (n:Nat)
noncomputable def brk (ws:List (ax×ax)) (bs:List (List dw)) (s:fX):Option Nat:=(List.range 16).find? fun a=>gk s.p a && !so ws bs s a
theorem Kc {f:List D→R bR} {m:bh} {ρ:az} {x:D} {t:List D} (hm:m ρ= .ok [x]) (h:f [x]= .ok (.o t)):a9 (fb 1 f m) ρ= .ok (.lst t):=by
 have e:[x].length=1:=rfl
 simp only [a9,fb,hm,aU,e,if_true,h,tn]
section
variable {cs:List Nat} {ws:List (ax×ax)} {bs:List (List dw)}
noncomputable def sI:aY:=(cx (c6 (aH (bc 4 wa (af (I 0) (af (I 1) (af (I 2) (af (I 3) (ai)))))))) (bS (I 3)) (cF))
noncomputable def gC (X Y:D) (s:fX) (s3:bM):az:=[.J X,.J Y,.J (c2 s),s3]
theorem FQ (h:fj cs ws) (hb:gA cs bs) (s:fX) (hd:s.d∈cI cs cs.length):∀(as:List Nat) (s3:bM),(∀a∈as,a < 16)→∃t3,dQ (aJ 3) sI (wu as) (gC (bN (dt cs ws)) (.lst (bP bs)) s s3)=match as.find? fun a=> !so ws bs s a with
  | some a=> .ok (.dN (.int (a:Nat)))
  | none=> .ok (.aV (gC (bN (dt cs ws)) (.lst (bP bs)) s t3))
 | [],s3,_=>⟨s3,rfl⟩
 | a::as,s3,ha=>by
   have cw:aJ 3 (.int (a:Nat)) (gC (bN (dt cs ws)) (.lst (bP bs)) s s3)= .ok (gC (bN (dt cs ws)) (.lst (bP bs)) s (.J (.int (a:Nat)))):=rfl
   have c:=h_ (dy (qp (ρ:=gC (bN (dt cs ws)) (.lst (bP bs)) s (.J (.int (a:Nat)))) (a:=I 0) (b:=I 1) (c:=I 2) (d:=I 3) rfl rfl rfl rfl (ON h hb (ha a (by simp)) s hd)))
   have b:sI (gC (bN (dt cs ws)) (.lst (bP bs)) s (.J (.int (a:Nat))))=if (!so ws bs s a)=true then .ok (.dN (.int (a:Nat))) else .ok (.aV (gC (bN (dt cs ws)) (.lst (bP bs)) s (.J (.int (a:Nat))))):=by
    unfold sI; rw [jD c]; rfl
   rw [show wu (a::as)= .int (a:Nat)::wu as from rfl,dQ,cw,aU,b,List.find?_cons]
   cases hm:so ws bs s a with
   | false=>exact ⟨s3,rfl⟩
   | true=>
     obtain ⟨t3,e⟩:=FQ h hb s hd as (.J (.int (a:Nat))) (fun x hx=>ha x (List.mem_cons_of_mem _ hx))
     refine ⟨t3,?_⟩
     simp only [Bool.not_true,Bool.false_eq_true,if_false,aU]
     exact e
theorem P5 (h:fj cs ws) (hb:gA cs bs) (s:fX) (hp:s.p∈gx) (hd:s.d∈cI cs cs.length):qY [bN (dt cs ws),.lst (bP bs),c2 s]= .ok (.v (cg (brk ws bs s))):=by
 show (u3 (gC (bN (dt cs ws)) (.lst (bP bs)) s .un)).bind outD=_
 have i:dX (a9 (fb 1 qS (af (ah ay (I 2) (ag (.int 1))) (ai)))) (gC (bN (dt cs ws)) (.lst (bP bs)) s .un)= .ok (wu ((List.range 16).filter (gk s.p))):=by
  have z:=Kc (f:=qS) (m:=af (ah ay (I 2) (ag (.int 1))) ai) (ρ:=gC (bN (dt cs ws)) (.lst (bP bs)) s .un) (bj (bZ rfl rfl (HO s)) rfl) (JM hp)
  rw [dX,z]; rfl
 obtain ⟨t3,e⟩:=FQ h hb s hd ((List.range 16).filter (gk s.p)) .un (fun a ha=>List.mem_range.mp (List.mem_filter.mp ha).1)
 have f:=(r5 (set:=aJ 3) (body:=sI) i).trans e
 unfold sI at f
 unfold u3
 have lB:((List.range 16).filter (gk s.p)).find? (fun a=> !so ws bs s a)=(List.range 16).find? fun a=>gk s.p a && !so ws bs s a:=by
  rw [List.find?_filter]
  congr 1
  funext a
  cases gk s.p a <;> cases so ws bs s a <;> rfl
 rw [lB] at f
 rw [aK,f,brk]
 cases (List.range 16).find? fun a=>gk s.p a && !so ws bs s a <;> rfl
noncomputable def sN:aY:=(cx (gp (aH (bc 2 mM (af (ah ay (I 2) (ag (.int 1))) (af (I 3) (ai))))) (c6 (aH (bc 4 wh (af (I 0) (af (I 1) (af (I 2) (af (I 3) (ai))))))))) (bS (I 3)) (cF))
theorem F0 (h:fj cs ws) (hb:gA cs bs) (s:fX) (hp:s.p∈gx) (hd:s.d∈cI cs cs.length):∀(as:List Nat) (s3:bM),(∀a∈as,a < 16)→∃t3,dQ (aJ 3) sN (as.map fun i=> .int (0 + ((i:Nat):Int))) (gC (.a0 (bQ ws) (b3 ws)) (.lst (bP bs)) s s3)=match as.find? fun a=>gk s.p a && !so ws bs s a with
  | some a=> .ok (.dN (.int (a:Nat)))
  | none=> .ok (.aV (gC (.a0 (bQ ws) (b3 ws)) (.lst (bP bs)) s t3))
 | [],s3,_=>⟨s3,rfl⟩
 | a::as,s3,ha=>by
   have cw:aJ 3 (.int (0 + ((a:Nat):Int))) (gC (.a0 (bQ ws) (b3 ws)) (.lst (bP bs)) s s3)= .ok (gC (.a0 (bQ ws) (b3 ws)) (.lst (bP bs)) s (.J (.int (a:Nat)))):=by rw [Int.zero_add]; rfl
   have c_:=h_ (dy (qp (ρ:=gC (.a0 (bQ ws) (b3 ws)) (.lst (bP bs)) s (.J (.int (a:Nat)))) (a:=I 0) (b:=I 1) (c:=I 2) (d:=I 3) rfl rfl rfl rfl (P1 h hb (ha a (by simp)) s hd)))
   have bD:aH (bc 2 mM (af (ah ay (I 2) (ag (.int 1))) (af (I 3) (ai)))) (gC (.a0 (bQ ws) (b3 ws)) (.lst (bP bs)) s (.J (.int (a:Nat))))= .ok (gk s.p a):=dy (call2 (x:= .str s.p) (z:= .int (a:Nat)) (bZ rfl rfl (HO s)) rfl (yS hp (ha a (by simp))).2)
   have c:=qb bD fun _=>c_
   have b:sN (gC (.a0 (bQ ws) (b3 ws)) (.lst (bP bs)) s (.J (.int (a:Nat))))=if (gk s.p a && !so ws bs s a)=true then .ok (.dN (.int (a:Nat))) else .ok (.aV (gC (.a0 (bQ ws) (b3 ws)) (.lst (bP bs)) s (.J (.int (a:Nat))))):=by
    unfold sN; rw [jD c]; rfl
   rw [List.map_cons,dQ,cw,aU,b,List.find?_cons]
   cases hm:(gk s.p a && !so ws bs s a) with
   | true=>exact ⟨s3,rfl⟩
   | false=>
     obtain ⟨t3,e⟩:=F0 h hb s hp hd as (.J (.int (a:Nat))) (fun x hx=>ha x (List.mem_cons_of_mem _ hx))
     refine ⟨t3,?_⟩
     simp only [Bool.false_eq_true,if_false,aU]
     exact e
theorem P0 (h:fj cs ws) (hb:gA cs bs) (s:fX) (hp:s.p∈gx) (hd:s.d∈cI cs cs.length):wg [.a0 (bQ ws) (b3 ws),.lst (bP bs),c2 s]= .ok (.v (cg (brk ws bs s))):=by
 show (uT (gC (.a0 (bQ ws) (b3 ws)) (.lst (bP bs)) s .un)).bind outD=_
 have i:=lT (a:=ag (.int 16)) (ρ:=gC (.a0 (bQ ws) (b3 ws)) (.lst (bP bs)) s .un) (j:=16) rfl (by decide) (by decide)
 obtain ⟨t3,e⟩:=F0 h hb s hp hd (List.range 16) .un (fun a ha=>List.mem_range.mp ha)
 have f:=(r5 (set:=aJ 3) (body:=sN) i).trans e
 unfold sN at f
 unfold uT
 rw [aK,f,brk]
 cases (List.range 16).find? fun a=>gk s.p a && !so ws bs s a <;> rfl
end
end bU
set_option Elab.async false
set_option linter.all false
set_option maxRecDepth 100000
set_option autoImplicit false
namespace bU
open PySem PySem.Spec bb aD
theorem Rm {a b:aE} {ρ:az} {c d:Bool} (ha:a ρ= .ok (.aw c)) (hb:c=false→b ρ= .ok (.aw d)):nY a b ρ= .ok (.aw (c || d)):=by
 cases c
 · simp only [nY,ha,aU,jZ,hb rfl,Bool.false_eq_true,if_false,Bool.false_or]
 · simp only [nY,ha,aU,jZ,if_true,Bool.true_or]
noncomputable def jN (x:D) (c:Nat):Bool:=nO x || hA x 0 ((c:Int) - 1)
theorem Ge (x:D) (h:Ty x) (c:Nat):qU [x,.int (c:Nat)]= .ok (.v (.aw (jN x c))):=by
 show (uI [.J x,.J (.int (c:Nat))]).bind outD=_
 have e:=Rm (a:=ah (eZ true) (I 0) (ag .non)) (ρ:=[.J x,.J (.int (c:Nat))]) (c:=nO x) (bZ rfl rfl rfl) fun _=>ju (f:=kh) (a:=I 0) (b:=ag (.int 0)) (c:=ah ig (I 1) (ag (.int 1))) rfl rfl rfl (tK x h 0 ((c:Int) - 1))
 unfold uI
 rw [fq e]; rfl
noncomputable def oa (c:Nat) (x:D):Bool:=match x with
 | .tup [p,a,b]=>iY p && (jN a c && jN b c)
 | _=>false
structure ug (x:D):Prop where
 ok:(∃l,x= .lst l)∨∃p a b,x= .tup [.str p,a,b]∧p∈mZ∧Ty a∧Ty b
theorem OM (c:Nat) (x:D) (h:ug x):n1 [x,.int (c:Nat)]= .ok (.v (.aw (oa c x))):=by
 rcases h.ok with ⟨l,rfl⟩ | ⟨p,a,b,rfl,hp,ha,hb⟩
 · rfl
 · show (uK [.J (.tup [.str p,a,b]),.J (.int (c:Nat))]).bind outD=_
   let ρ:az:=[.J (.tup [.str p,a,b]),.J (.int (c:Nat))]
   have c_:=h_ (dy (mx (a:=ah ay (I 0) (ag (.int 0))) (ρ:=ρ) rfl (z7 (.str p) ⟨rfl,fun y e=>by cases e; exact hp⟩).1))
   have e:=oR (ρ:=ρ) (call2 (f:=qU) (a:=ah ay (I 0) (ag (.int 1))) (b:=I 1) rfl rfl (Ge a ha c)) fun _=>call2 (f:=qU) (a:=ah ay (I 0) (ag (.int 2))) (b:=I 1) rfl rfl (Ge b hb c)
   unfold uK
   rw [e0 rfl,kY c_ fun _=>rfl,fq e]
   show _=R.ok (bR.v (.aw (iY (.str p) && (jN a c && jN b c))))
   cases iY (.str p) <;> rfl
theorem C9 (c:Nat):∀(xs:List D) (acc:List D) (s0:bM),(∀x∈xs,ug x)→acc.length + xs.length < 10000→dm (aJ 0) cT (bc 2 n1 (af (I 0) (af (I 1) (ai)))) xs [s0,.J (.int (c:Nat))] acc= .ok (acc ++ xs.map fun x=> .aw (oa c x))
 | [],acc,s0,_,_=>by simp [dm]
 | x::xs,acc,s0,hx,hl=>by
   simp only [List.length_cons] at hl
   have cw:aJ 0 x [s0,.J (.int (c:Nat))]= .ok [.J x,.J (.int (c:Nat))]:=rfl
   have ar:=call2 (f:=n1) (ρ:=[.J x,.J (.int (c:Nat))]) (a:=I 0) (b:=I 1) rfl rfl (OM c x (hx x (by simp)))
   rw [dm,cw,aU]
   simp only [cT,aU,ar,if_true,if_pos (show acc.length < 1000000 by omega)]
   rw [C9 c xs _ _ (fun y b5=>hx y (List.mem_cons_of_mem _ b5)) (by rw [List.length_append,List.length_singleton]; omega),List.append_assoc]
   rfl
theorem CO {α:Type} (f:α→Bool):∀xs:List α,mr (xs.map fun x=>D.aw (f x))=some (xs.map f)
 | []=>rfl
 | x::xs=>by
   simp only [List.map_cons,mr,CO f xs,Option.map_some]
theorem Cj {α:Type} {m:aE} {ρ:az} (f:α→Bool) (xs:List α) (h:m ρ= .ok (.lst (xs.map fun x=>D.aw (f x)))):bk aD.cI (af m ai) ρ= .ok (.aw (xs.all f)):=by
 simp only [bk,af,ai,h,aU,aD.cI,CO]
 congr 2
 rw [List.all_map]; rfl
noncomputable def kC (c:Nat) (x:D):Bool:=match x with
 | .lst xs=>decide (xs.length≤12) && xs.all (oa c)
 | _=>false
structure l5 (x:D):Prop where
 ok:x= .non∨∃l,x= .lst l∧l.length < 1000∧∀y∈l,ug y
theorem OI (c:Nat) (x:D) (h:l5 x):sV [x,.int (c:Nat)]= .ok (.v (.aw (kC c x))):=by
 rcases h.ok with rfl | ⟨l,rfl,hl,hr⟩
 · rfl
 · show (uG [.J (.lst l),.J (.int (c:Nat))]).bind outD=_
   let ρ:az:=[.J (.lst l),.J (.int (c:Nat))]
   have g:aH (ah j5 (bk cf (af (I 0) (ai))) (ag qm)) ρ= .ok (decide ((12:Int) < (l.length:Nat))):=dy (bZ (iP rfl) rfl rfl)
   have bD:=hM (a:=c6 (aH (ct (eS "list") (I 0)))) (c:=false) (ρ:=ρ) rfl fun _=>g
   have z:cY 1 [1] (dX (I 0)) (aJ 0) (cT) (bc 2 n1 (af (I 0) (af (I 1) (ai)))) ρ= .ok (l.map fun x=> .aw (oa c x)):=by
    have i:dX (I 0) ρ= .ok l:=rfl
    rw [cY,i,aU]
    show fo (dm (aJ 0) cT (bc 2 n1 (af (I 0) (af (I 1) (ai)))) l [.un,.J (.int (c:Nat))] [])=_
    rw [C9 c l [] .un hr (by simp; omega)]; rfl
   have a:=Cj (m:=a9 (cY 1 [1] (dX (I 0)) (aJ 0) (cT) (bc 2 n1 (af (I 0) (af (I 1) (ai)))))) (ρ:=ρ) (oa c) l (by simp only [a9,z,aU])
   unfold uG
   rw [kY bD fun _=>rfl,fq a,Bool.false_or]
   show _=R.ok (bR.v (.aw (decide (l.length≤12) && l.all (oa c))))
   by_cases h12:l.length≤12
   · rw [decide_eq_true h12,decide_eq_false (by omega)]; rfl
   · rw [decide_eq_false h12,decide_eq_true (by omega)]; rfl
theorem Kt (n:fV) (h:Nat) (hh:h < n.cs.length):sT [bN n,.int (h:Nat)]= .ok (.v (.int (n.cs.getD h 0:Nat))):=by
 show (uz [.J (bN n),.J (.int (h:Nat))]).bind outD=_
 have c:aH (hL jf nT (ag (.int 0)) (I 1) (ct (eG "Net" "many") (I 0))) [.J (bN n),.J (.int (h:Nat))]= .ok true:=by
  refine dy (yp (x:= .int 0) (y:= .int (h:Nat)) (w:= .int (n.cs.length:Nat)) rfl rfl (pN rfl rfl) (k:=true) (l:=true) ?_ ?_)
  · show R.ok (D.aw (decide ((0:Int)≤(h:Nat))))=_; rw [decide_eq_true (by omega)]
  · show R.ok (D.aw (decide (((h:Nat):Int) < (n.cs.length:Nat))))=_; rw [decide_eq_true (by omega)]
 have e:ah ay (ct (eG "Net" "counts") (I 0)) (I 1) [.J (bN n),.J (.int (h:Nat))]= .ok (.int (n.cs.getD h 0:Nat)):=bZ (pN rfl rfl) rfl (nQ (r0 hh))
 have i:lO (aH (hL jf nT (ag (.int 0)) (I 1) (ct (eG "Net" "many") (I 0)))) (ah ay (ct (eG "Net" "counts") (I 0)) (I 1)) (ag (.int 0)) [.J (bN n),.J (.int (h:Nat))]= .ok (.int (n.cs.getD h 0:Nat)):=by
  simp only [lO,c,aU,if_true,e]
 unfold uz
 rw [fq i]; rfl
noncomputable def qt:aE:=(bc 2 sV (af (I 1) (af (hZ "Net" "count" 1 sT (I 2) (af (I 0) (ai))) (ai))))
theorem C1 (n:fV):∀(xs:List D) (k:Nat) (acc:List D) (s0 s1:bM),(∀x∈xs,l5 x)→k + xs.length≤n.cs.length→acc.length + xs.length < 10000→dm (d6 [aJ 0,aJ 1]) cT qt ((xs.zipIdx k).map fun p=> .tup [.int (p.2:Nat),p.1]) [s0,s1,.J (bN n)] acc= .ok (acc ++ (xs.zipIdx k).map fun p=> .aw (kC (n.cs.getD p.2 0) p.1))
 | [],k,acc,s0,s1,_,_,_=>by simp [dm]
 | x::xs,k,acc,s0,s1,hx,hk,hl=>by
   simp only [List.length_cons] at hl hk
   have cw:d6 [aJ 0,aJ 1] (.tup [.int (k:Nat),x]) [s0,s1,.J (bN n)]= .ok [.J (.int (k:Nat)),.J x,.J (bN n)]:=rfl
   have qZ:=q0 (mt:="count") (mf:=sT) (o:=I 2) (a:=I 0) (ρ:=[.J (.int (k:Nat)),.J x,.J (bN n)]) (n:=n) (x:= .int (k:Nat)) rfl (by decide) rfl (Kt n k (by omega))
   have ar:qt [.J (.int (k:Nat)),.J x,.J (bN n)]=_:=call2 (f:=sV) (a:=I 1) rfl qZ (OI (n.cs.getD k 0) x (hx x (by simp)))
   rw [List.zipIdx_cons,List.map_cons,List.map_cons,dm,cw,aU]
   simp only [cT,aU,ar,if_true,if_pos (show acc.length < 1000000 by omega)]
   rw [C1 n xs (k + 1) _ _ _ (fun y b5=>hx y (List.mem_cons_of_mem _ b5)) (by omega) (by rw [List.length_append,List.length_singleton]; omega),List.append_assoc]
   rfl
end bU
set_option Elab.async false
set_option linter.all false
set_option maxRecDepth 100000
set_option autoImplicit false
namespace bU
open PySem PySem.Spec bb aD
noncomputable def kD (n:fV) (x:D):Bool:=match x with
 | .lst bs=>decide (bs.length=n.cs.length) && (bs.zipIdx.all fun p=>kC (n.cs.getD p.2 0) p.1)
 | _=>false
structure rv (x:D):Prop where
 ok:x= .non∨∃l,x= .lst l∧l.length < 1000∧∀y∈l,l5 y
theorem OJ (n:fV) (x:D) (h:rv x):sW [x,bN n]= .ok (.v (.aw (kD n x))):=by
 rcases h.ok with rfl | ⟨l,rfl,hl,hr⟩
 · rfl
 · show (uH [.J (.lst l),.J (bN n)]).bind outD=_
   let ρ:az:=[.J (.lst l),.J (bN n)]
   have g:aH (ah (bT false) (bk cf (af (I 0) (ai))) (ct (eG "Net" "many") (I 1))) ρ= .ok (!((l.length:Int) == (n.cs.length:Int))):=dy (bZ (iP rfl) (pN rfl rfl) rfl)
   have bD:=hM (a:=c6 (aH (ct (eS "list") (I 0)))) (c:=false) (ρ:=ρ) rfl fun _=>g
   unfold uH
   rw [kY bD fun _=>rfl,Bool.false_or]
   show _=R.ok (bR.v (.aw (decide (l.length=n.cs.length) && (l.zipIdx.all fun p=>kC (n.cs.getD p.2 0) p.1))))
   by_cases aC:l.length=n.cs.length
   · have z:cY 2 [1] (kO (af (I 0) (ai))) (d6 [aJ 0,aJ 1]) (cT) qt ρ= .ok (l.zipIdx.map fun p=> .aw (kC (n.cs.getD p.2 0) p.1)):=by
      have i:kO (af (I 0) (ai)) ρ= .ok (l.zipIdx.map fun p=> .tup [.int (p.2:Nat),p.1]):=rfl
      rw [cY,i,aU]
      show fo (dm (d6 [aJ 0,aJ 1]) cT qt _ [.un,.un,.J (bN n)] [])=_
      rw [C1 n l 0 [] .un .un hr (by omega) (by simp; omega)]; rfl
     have a:=Cj (m:=a9 (cY 2 [1] (kO (af (I 0) (ai))) (d6 [aJ 0,aJ 1]) (cT) qt)) (ρ:=ρ) (fun p:D×Nat=>kC (n.cs.getD p.2 0) p.1) l.zipIdx (by simp only [a9,z,aU])
     unfold qt at a
     rw [fq a,decide_eq_true aC,aC]
     simp only [beq_self_eq_true,Bool.not_true,Bool.false_eq_true,if_false,Bool.true_and]
     rfl
   · have:(!((l.length:Int) == (n.cs.length:Int)))=true:=by
      rw [Bool.not_eq_true',beq_eq_false_iff_ne]; omega
     rw [decide_eq_false aC,if_pos this]; rfl
theorem SP (n:fV) (x:D) (h:rv x):s6 [x,bN n]=if kD n x=true then .ok (.v .non) else .exc "NoBooks":=by
 show (u5 [.J x,.J (bN n)]).bind outD=_
 have c:mQ (c6 (aH (bc 2 sW (af (I 0) (af (I 1) (ai)))))) [.J x,.J (bN n)]= .ok (!kD n x):=by
  rw [mQ,h_ (dy (call2 (f:=sW) (a:=I 0) (b:=I 1) (ρ:=[.J x,.J (bN n)]) rfl rfl (OJ n x h)))]; rfl
 unfold u5
 rw [jD c]
 cases kD n x <;> rfl
theorem va (n:fV) (x t:D) (h:rv x) (ht:pZ t) (hb:kD n x=true→jQ n t=true→∃d,qY [bN n,x,t]= .ok (.v d)):mK [bN n,x,t]=if kD n x=true then (if jQ n t=true then qY [bN n,x,t] else .exc "NoSaying") else .exc "NoBooks":=by
 show (uE [.J (bN n),.J x,.J t]).bind outD=_
 let ρ:az:=[.J (bN n),.J x,.J t]
 unfold uE
 have bD:bc 2 s6 (pC (af (I 1) (af (I 0) (ai)))) ρ=if kD n x=true then .ok .non else .exc "NoBooks":=by
  have a:pC (af (I 1) (af (I 0) (ai))) ρ= .ok [x,bN n]:=rfl
  have cO:[x,bN n].length=2:=rfl
  rw [bc,a,aU,if_pos cO,SP n x h]
  cases kD n x <;> rfl
 have c_:mQ (c6 (aH (bc 2 n2 (af (I 2) (af (I 0) (ai)))))) ρ= .ok (!jQ n t):=by
  rw [mQ,h_ (dy (call2 (f:=n2) (a:=I 2) (b:=I 0) (ρ:=ρ) rfl rfl (OH n t ht)))]; rfl
 cases bE:kD n x with
 | false=>
   rw [bE] at bD
   rw [aK,nV,bD]; rfl
 | true=>
   rw [bE] at bD
   have d1:nV (bc 2 s6 (pC (af (I 1) (af (I 0) (ai))))) ρ= .ok (.aV ρ):=by rw [nV,bD]; rfl
   rw [cu d1]
   cases aq:jQ n t with
   | false=>
     rw [aq] at c_
     rw [aK,jD c_]; rfl
   | true=>
     rw [aq] at c_
     obtain ⟨d,hd⟩:=hb bE aq
     have r:=fq (ju (f:=qY) (ρ:=ρ) (a:=I 0) (b:=I 1) (c:=I 2) rfl rfl rfl hd)
     rw [e0 c_,tg,r,hd]; rfl
noncomputable def tJ:D:= .lst ([.aw true,.aw true] ++ List.replicate 8 (.aw false))
noncomputable def BA:D:= .lst ([.aw true,.aw false,.aw true] ++ List.replicate 7 (.aw false))
theorem Ig {i n:Nat} {cs:List Str} {mf:List D→R bR} {ma:bh} {ms:aY} {ρ:az} {ds:List D} {c:Str} (ha:ma ρ= .ok ds) (hl:ds.length=n∧i < ρ.length) (h:mf ds= .exc c):qR i cs n mf ma ms ρ=if cs.contains c=true then (fo (ms (ρ.set i (.J (.gj c))))).bind (xo i) else .bad:=by
 have e:fo (R.ok ds)= .ok ds:=rfl
 rw [qR,ha,e,aU,if_pos hl,h]
theorem He {N x t:D} (h:mK [N,x,t]= .exc "NoBooks"):ki [N,x,t]= .ok (.v tJ):=by
 show (qh [.J N,.J x,.J t,.un,.un]).bind outD=_
 have a:af (I 0) (af (I 1) (af (I 2) (ai))) [.J N,.J x,.J t,.J (.lst []),.un]= .ok [N,x,t]:=rfl
 have s3:b6 3 (a9 (bK (ai))) [.J N,.J x,.J t,.un,.un]= .ok (.aV [.J N,.J x,.J t,.J (.lst []),.un]):=rfl
 unfold qh
 rw [cu s3,aK,Ig (i:=4) (n:=3) a ⟨rfl,by simp⟩ h]; rfl
theorem SO {N x t:D} (h:mK [N,x,t]= .exc "NoSaying"):ki [N,x,t]= .ok (.v BA):=by
 show (qh [.J N,.J x,.J t,.un,.un]).bind outD=_
 have a:af (I 0) (af (I 1) (af (I 2) (ai))) [.J N,.J x,.J t,.J (.lst []),.un]= .ok [N,x,t]:=rfl
 have s3:b6 3 (a9 (bK (ai))) [.J N,.J x,.J t,.un,.un]= .ok (.aV [.J N,.J x,.J t,.J (.lst []),.un]):=rfl
 unfold qh
 rw [cu s3,aK,Ig (i:=4) (n:=3) a ⟨rfl,by simp⟩ h]; rfl
end bU
set_option Elab.async false
set_option linter.all false
set_option maxRecDepth 100000
set_option autoImplicit false
namespace bU
open PySem PySem.Spec bb aD
noncomputable def BS:aY:=(b6 3 (ah ay (a9 (bK (af (ag (.str (PySem.Str.ofString "comes"))) (af (ag (.str (PySem.Str.ofString "leaves"))) (af (ag (.str (PySem.Str.ofString "noring"))) (af (ag (.str (PySem.Str.ofString "by"))) (af (ag (.str (PySem.Str.ofString "never"))) (ai)))))))) (ah cG (I 0) (ag (.int 5)))))
noncomputable def BU:aY:=(b6 4 (ah ay (I 2) (ah cG (ah da (I 0) (ag (.int 5))) (bk cf (af (I 2) (ai))))))
noncomputable def BV:aY:=(b6 5 (bc 1 px (af (ah da (I 0) (ag (.int 35))) (ai))))
structure p5 (cs:List Nat) (os:List ax) (s:fX):Prop where
 p:s.p∈gx
 d:s.d∈os
 w:match s.w with | .comes e=>e∈os | .ly h=>h < cs.length | .never h=>h < cs.length | _=>True
theorem TH (n:Int) (cs:List Nat) (os:List ax) (hc:cs≠[]) (ho:os≠[]):∃s:fX,p5 cs os s∧wk [.int n,.lst (bF cs),.lst (os.map aB)]= .ok (.v (c2 s)):=by
 show ∃s:fX,_∧(u1 [.J (.int n),.J (.lst (bF cs)),.J (.lst (os.map aB)),.un,.un,.un]).bind outD=_
 have ho':os.map aB≠[]:=by simp [ho]
 have j9:0 < cs.length:=List.length_pos_iff.mpr hc
 have Oo:(bF cs).length=cs.length:=by simp [bF]
 let ρ (s3 s4 s5:bM):az:=[.J (.int n),.J (.lst (bF cs)),.J (.lst (os.map aB)),s3,s4,s5]
 obtain ⟨p,hp,dW⟩:=Gz (n / 35)
 obtain ⟨k,hk,fJ⟩:=mO (n / 11) cs.length j9
 have s3 (w:Str) (gH:ay (.lst [str "comes",str "leaves",str "noring",str "by",str "never"]) (.int (n % 5))= .ok (.str w)):=dS (i:=3) (ρ:=ρ .un .un .un) (ρ':=ρ (.J (.str w)) .un .un) (bZ (a:=a9 (bK (af (ag (.str (PySem.Str.ofString "comes"))) (af (ag (.str (PySem.Str.ofString "leaves"))) (af (ag (.str (PySem.Str.ofString "noring"))) (af (ag (.str (PySem.Str.ofString "by"))) (af (ag (.str (PySem.Str.ofString "never"))) (ai)))))))) (b:=ah cG (I 0) (ag (.int 5))) rfl (gq rfl rfl (by decide)) gH) rfl
 have pick (w:Str):=GO (a:=I 2) (b:=ah da (I 0) (ag (.int 5))) (ρ:=ρ (.J (.str w)) .un .un) rfl (jb rfl ⟨by decide,by decide⟩) ho'
 have R6 (w:Str) (d:ax):=GO (a:=I 2) (b:=ah da (I 0) (ag (.int 7))) (ρ:=ρ (.J (.str w)) (.J (aB d)) (.J (.str p))) rfl (jb rfl ⟨by decide,by decide⟩) ho'
 have Ak (w:Str) (d:ax):=dS (i:=5) (ρ:=ρ (.J (.str w)) (.J (aB d)) .un) (ρ':=ρ (.J (.str w)) (.J (aB d)) (.J (.str p))) (mx (f:=px) (a:=ah da (I 0) (ag (.int 35))) (jb rfl ⟨by decide,by decide⟩) dW) rfl
 have aG (w:Str) (d:ax):bG (af (I 3) (af (I 5) (af (I 4) (af (ah cG (ah da (I 0) (ag (.int 11))) (bk cf (af (I 1) (ai)))) (ai))))) (ρ (.J (.str w)) (.J (aB d)) (.J (.str p)))= .ok (.tup [.str w,.str p,aB d,.int (k:Nat)]):=by
  have Jg:ah cG (ah da (I 0) (ag (.int 11))) (bk cf (af (I 1) (ai))) (ρ (.J (.str w)) (.J (aB d)) (.J (.str p)))= .ok (.int (n / 11 % ((bF cs).length:Nat))):=gq (jb rfl ⟨by decide,by decide⟩) (iP rfl) (by omega)
  rw [Oo,fJ] at Jg
  exact fO (bj rfl (bj rfl (bj rfl (bj Jg rfl)))) (by simp)
 unfold u1
 have go (w:Str) (gH:ay (.lst [str "comes",str "leaves",str "noring",str "by",str "never"]) (.int (n % 5))= .ok (.str w)):∃d,d∈os∧∀m:aY,aK BS (aK BU (aK BV m)) (ρ .un .un .un)=m (ρ (.J (.str w)) (.J (aB d)) (.J (.str p))):=by
  obtain ⟨y,b5,d3⟩:=pick w
  obtain ⟨d,hd,rfl⟩:=List.mem_map.mp b5
  have a1:BS _=_:=s3 w gH
  have a2:BU _=_:=dS (i:=4) (ρ':=ρ (.J (.str w)) (.J (aB d)) .un) d3 rfl
  have fY:BV _=_:=Ak w d
  exact ⟨d,hd,fun m=>by rw [cu a1,cu a2,cu fY]⟩
 unfold BS BU BV at go
 rcases zU n with h | h | h | h | h <;> rw [h] at go
 · obtain ⟨d,hd,e⟩:=go (PySem.Str.ofString "comes") rfl
   obtain ⟨y,b5,d3⟩:=R6 (PySem.Str.ofString "comes") d
   obtain ⟨cC,hd2,rfl⟩:=List.mem_map.mp b5
   have t:=fO (bj (a:=I 3) rfl (bj (a:=I 5) rfl (bj (a:=I 4) rfl (bj d3 (r:=ai) rfl)))) (by simp)
   exact ⟨⟨.comes cC,p,d⟩,⟨hp,hd,hd2⟩,by rw [e,rd rfl t]; rfl⟩
 · obtain ⟨d,hd,e⟩:=go (PySem.Str.ofString "leaves") rfl
   exact ⟨⟨.leaves,p,d⟩,⟨hp,hd,trivial⟩,by rw [e]; rfl⟩
 · obtain ⟨d,hd,e⟩:=go (PySem.Str.ofString "noring") rfl
   exact ⟨⟨.pD,p,d⟩,⟨hp,hd,trivial⟩,by rw [e]; rfl⟩
 · obtain ⟨d,hd,e⟩:=go (PySem.Str.ofString "by") rfl
   exact ⟨⟨.ly k,p,d⟩,⟨hp,hd,hk⟩,by rw [e,e0 rfl,rd rfl (aG _ d)]; rfl⟩
 · obtain ⟨d,hd,e⟩:=go (PySem.Str.ofString "never") rfl
   exact ⟨⟨.never k,p,d⟩,⟨hp,hd,hk⟩,by rw [e,e0 rfl,rd rfl (aG _ d)]; rfl⟩
theorem tj {cs:List Nat} {ws:List (ax×ax)} {d:ax}:d∈outs cs ws cs.length↔d∈cI cs cs.length∧d∉ends ws:=by
 unfold outs
 rw [List.mem_filter]
 simp [free]
theorem Gu {cs:List Nat} {ws:List (ax×ax)} {d:ax} (h:d∈outs cs ws cs.length):iX (dt cs ws) (aB d)=true:=by
 obtain ⟨h1,h2⟩:=tj.mp h
 show (gG cs (aB d) && !(bQ ws).any (fun z=>decide (z=fa d)))=true
 rw [Dj,ks_any,decide_eq_true h1,decide_eq_false h2]; rfl
theorem Gy:(gx.all pE)=true:=by decide +kernel
theorem TJ {cs:List Nat} {ws:List (ax×ax)} {s:fX} (h:p5 cs (outs cs ws cs.length) s):jQ (dt cs ws) (c2 s)=true:=by
 obtain ⟨w,p,d⟩:=s
 have hp:iY (.str p)=true:=List.all_eq_true.mp Gy p h.p
 have hd:=Gu h.d
 have hw:=h.w
 have q (x:Bool):(iY (.str p) && iX (dt cs ws) (aB d) && x)=x:=by rw [hp,hd]; rfl
 have l0 (k:Nat) (hk:k < cs.length):hA (.int (k:Nat)) 0 (((dt cs ws).cs.length:Int) - 1)=true:=by
  show (decide ((0:Int)≤(k:Nat)) && decide (((k:Nat):Int)≤(cs.length:Int) - 1))=true
  rw [decide_eq_true (by omega),decide_eq_true (by omega)]; rfl
 cases w with
 | comes e=>exact (q _).trans (Gu hw)
 | leaves=>exact (q _).trans rfl
 | pD=>exact (q _).trans rfl
 | ly k=>exact (q _).trans (l0 k hw)
 | never k=>exact (q _).trans (l0 k hw)
theorem Hn {cs:List Nat} {os:List ax} {s:fX} (h:p5 cs os s):pZ (c2 s):=by
 obtain ⟨w,p,d⟩:=s
 have aI:=OX h.p
 have jF (d:ax):eM (aB d):=mF (e9 _) (e9 _)
 cases w with
 | comes e=>exact (qF (qG (by decide +kernel)) aI (jF d) (jF e)).g
 | leaves=>exact (sG (qG (by decide +kernel)) aI (jF d)).g
 | pD=>exact (sG (qG (by decide +kernel)) aI (jF d)).g
 | ly k=>exact (qF (qG (by decide +kernel)) aI (jF d) (e9 _)).g
 | never k=>exact (qF (qG (by decide +kernel)) aI (jF d) (e9 _)).g
theorem EG {c:Nat} {r:dw} (h:rN c r):ug (eu r)∧oa c (eu r)=true:=by
 have ty (o:Option Nat):Ty (cg o):=by cases o <;> rfl
 have nb (o:Option Nat) (ho:∀x,o=some x→x < c):jN (cg o) c=true:=by
  cases o with
  | none=>rfl
  | some x=>
    have:=ho x rfl
    show (false || (decide ((0:Int)≤(x:Nat)) && decide (((x:Nat):Int)≤(c:Int) - 1)))=true
    rw [decide_eq_true (by omega),decide_eq_true (by omega)]; rfl
 refine ⟨⟨.inr ⟨r.p,cg r.a,cg r.b,rfl,List.mem_append_right _ h.p,ty _,ty _⟩⟩,?_⟩
 show (pE r.p && (jN (cg r.a) c && jN (cg r.b) c))=true
 rw [List.all_eq_true.mp Gy r.p h.p,nb _ h.a,nb _ h.b]; rfl
theorem EE {c:Nat} {b:List dw} (h:pY c b):l5 (fw b)∧kC c (fw b)=true:=by
 have Mp:=h.few
 refine ⟨⟨.inr ⟨b.map eu,rfl,by rw [List.length_map]; omega,fun y b5=>?_⟩⟩,?_⟩
 · obtain ⟨r,hr,rfl⟩:=List.mem_map.mp b5
   exact (EG (h.row r hr)).1
 · show (decide ((b.map eu).length≤12) && (b.map eu).all (oa c))=true
   rw [List.length_map,decide_eq_true Mp,Bool.true_and,List.all_map,List.all_eq_true]
   exact fun r hr=>(EG (h.row r hr)).2
end bU
set_option Elab.async false
set_option linter.all false
set_option maxRecDepth 100000
set_option autoImplicit false
namespace bU
open PySem PySem.Spec bb aD
section
variable {cs:List Nat} {ws:List (ax×ax)} {bs:List (List dw)}
theorem yj (h:gA cs bs):∀y∈bP bs,l5 y:=fun y b5=>by
 unfold bP at b5
 obtain ⟨b,hb,rfl⟩:=List.mem_map.mp b5
 obtain ⟨i,hi,rfl⟩:=List.getElem_of_mem hb
 have g:=(EE (h.ee i (by rw [←h.len]; exact hi))).1
 rw [List.getD_eq_getElem?_getD,List.getElem?_eq_getElem hi] at g
 exact g
theorem EF (aC:fj cs ws) (h:gA cs bs):rv (.lst (bP bs))∧kD (dt cs ws) (.lst (bP bs))=true:=by
 have h6:=aC.h6
 have l:(bP bs).length=cs.length:=by rw [bP,List.length_map,h.len]
 refine ⟨⟨.inr ⟨_,rfl,by omega,yj h⟩⟩,?_⟩
 show (decide ((bP bs).length=cs.length) && ((bP bs).zipIdx.all fun p=>kC (cs.getD p.2 0) p.1))=true
 rw [decide_eq_true l,Bool.true_and,List.all_eq_true]
 rintro ⟨x,i⟩ hx
 have e:=List.mem_zipIdx_iff_getElem?.mp hx
 rw [bP,List.getElem?_map,Option.map_eq_some_iff] at e
 obtain ⟨b,bE,rfl⟩:=e
 have hi:i < bs.length:=(List.getElem?_eq_some_iff.mp bE).1
 have g:=(EE (h.ee i (by rw [←h.len]; exact hi))).2
 have aG:bs.getD i []=b:=by rw [List.getD_eq_getElem?_getD,bE]; rfl
 rw [aG] at g
 exact g
noncomputable def fh (bs:List (List dw)):List D:=iG (bP bs) (some 1) none
theorem Bu (aC:fj cs ws) (h:gA cs bs):∃x,bP bs=x::fh bs:=by
 have l:(bP bs).length=cs.length:=by rw [bP,List.length_map,h.len]
 have h1:=aC.h1
 cases e:bP bs with
 | nil=>rw [e] at l; simp at l; omega
 | cons x t=>
   refine ⟨x,?_⟩
   have:iG (x::t) (some 1) none=t:=by
    have s1:dZ.ew (x::t).length 0 (some 1)=1:=by simp [dZ.ew]
    have s2:dZ.ew (x::t).length (x::t).length none=(x::t).length:=rfl
    unfold iG
    rw [s1,s2]; simp
   rw [fh,e,this]
structure xM (n:fV) (x:D):Prop where
 t:rv x
 f:kD n x=false
theorem rT (aC:fj cs ws) (h:gA cs bs) {x:D} (hx:l5 x) (hb:kC (cs.getD 0 0) x=false):xM (dt cs ws) (.lst (x::fh bs)):=by
 obtain ⟨y,e⟩:=Bu aC h
 have l:(bP bs).length=cs.length:=by rw [bP,List.length_map,h.len]
 have h6:=aC.h6
 have cO:(fh bs).length + 1=cs.length:=by rw [←l,e]; rfl
 refine ⟨⟨.inr ⟨_,rfl,by rw [List.length_cons]; omega,fun z br=>?_⟩⟩,?_⟩
 · rcases List.mem_cons.mp br with rfl | br
   · exact hx
   · exact yj h z (by rw [e]; exact List.mem_cons_of_mem _ br)
 · show (decide _ && (((x,0)::(fh bs).zipIdx 1).all fun p=>kC (cs.getD p.2 0) p.1))=false
   rw [List.all_cons,hb,Bool.false_and,Bool.and_false]
theorem CD (aC:fj cs ws) (h:gA cs bs) {l:List D} (hl:l.length≠cs.length) (hs:l.length < 100) (ht:∀y∈l,l5 y):xM (dt cs ws) (.lst l):=by
 refine ⟨⟨.inr ⟨_,rfl,by omega,ht⟩⟩,?_⟩
 show (decide (l.length=cs.length) && _)=false
 rw [decide_eq_false hl]; rfl
noncomputable def mR (p:String) (a b:D):D:= .lst [.tup [.str (PySem.Str.ofString p),a,b]]
noncomputable def gF (cs:List Nat) (bs:List (List dw)):List D:=[.lst (fh bs),.lst (bP bs ++ [.lst []]),.non,.lst (mR "xxx" .non .non::fh bs),.lst (mR "xxxx" (.int (cs.getD 0 0:Nat)) .non::fh bs),.lst (mR "xxxx" .non (.int (cs.getD 0 0:Nat))::fh bs),.lst (.lst [.lst [.str (PySem.Str.ofString "xxxx"),.non,.non]]::fh bs),.lst (.non::fh bs)]
theorem Ai {p:String} {a b:D} (hp:PySem.Str.ofString p∈mZ) (ha:Ty a) (hb:Ty b):l5 (mR p a b):=⟨.inr ⟨_,rfl,by simp,fun y b5=>by rw [List.mem_singleton.mp b5]; exact ⟨.inr ⟨_,_,_,rfl,hp,ha,hb⟩⟩⟩⟩
theorem Gd (c:Nat):jN (.int (c:Nat)) c=false:=by
 show (false || (decide ((0:Int)≤(c:Nat)) && decide (((c:Nat):Int)≤(c:Int) - 1)))=false
 rw [decide_eq_false (p:=((c:Nat):Int)≤(c:Int) - 1) (by omega),Bool.and_false]; rfl
theorem Jf:pE (PySem.Str.ofString "xxx")=false:=by decide +kernel
theorem rt:PySem.Str.ofString "xxxx"∈mZ:=by decide +kernel
theorem Je:PySem.Str.ofString "xxx"∈mZ:=by decide +kernel
theorem JY (aC:fj cs ws) (h:gA cs bs):∀x∈gF cs bs,xM (dt cs ws) x:=by
 obtain ⟨y,e⟩:=Bu aC h
 have l:(bP bs).length=cs.length:=by rw [bP,List.length_map,h.len]
 have h6:=aC.h6
 have cO:(fh bs).length + 1=cs.length:=by rw [←l,e]; rfl
 have CQ:=yj h
 have tt:∀z∈fh bs,l5 z:=fun z br=>CQ z (by rw [e]; exact List.mem_cons_of_mem _ br)
 have one (c:Nat) (p:String) (a b:D) (hf:(pE (PySem.Str.ofString p) && (jN a c && jN b c))=false):kC c (mR p a b)=false:=by
  show (decide (1≤12) && ((pE (PySem.Str.ofString p) && (jN a c && jN b c)) && true))=false
  rw [hf]; rfl
 intro x hx
 unfold gF at hx
 simp only [List.mem_cons,List.not_mem_nil,or_false] at hx
 rcases hx with rfl | rfl | rfl | rfl | rfl | rfl | rfl | rfl
 · exact CD aC h (by omega) (by omega) tt
 · refine CD aC h (by rw [List.length_append,List.length_singleton]; omega) (by rw [List.length_append,List.length_singleton]; omega) fun z br=>?_
   rcases List.mem_append.mp br with br | br
   · exact CQ z br
   · rw [List.mem_singleton.mp br]; exact ⟨.inr ⟨[],rfl,by simp,fun _ z=>nomatch z⟩⟩
 · exact ⟨⟨.inl rfl⟩,rfl⟩
 · exact rT aC h (Ai Je rfl rfl) (one _ _ _ _ (by rw [Jf]; rfl))
 · exact rT aC h (Ai rt rfl rfl) (one _ _ _ _ (by rw [Gd,Bool.false_and,Bool.and_false]))
 · exact rT aC h (Ai rt rfl rfl) (one _ _ _ _ (by rw [Gd,Bool.and_false,Bool.and_false]))
 · exact rT aC h ⟨.inr ⟨_,rfl,by simp,fun y b5=>by rw [List.mem_singleton.mp b5]; exact ⟨.inl ⟨_,rfl⟩⟩⟩⟩ rfl
 · exact rT aC h ⟨.inl rfl⟩ rfl
noncomputable def i1 (w p:String) (r:List D):D:= .tup (.str (PySem.Str.ofString w):: .str (PySem.Str.ofString p)::r)
noncomputable def iW (cs:List Nat) (d:ax):List D:=[.non,i1 "comes" "xxxx" [aB d],i1 "by" "xxxx" [aB d,.int (cs.length:Nat)],i1 "leaves" "xxx" [aB d],i1 "never" "xxxx" [.tup [.int 6,.int 0],.int 0],i1 "noring" "xxxx" [aB d,.int 0],.lst [.str (PySem.Str.ofString "leaves"),.str (PySem.Str.ofString "xxxx"),aB d]]
structure Jy (n:fV) (x:D):Prop where
 t:pZ x
 f:jQ n x=false
theorem Hm (n:fV) (x:Str) (p d:D):jQ n (.tup [.str x,p,d])=(iY p && iX n d && v7 x):=rfl
theorem A_ (n:fV) (x:Str) (p d e:D):jQ n (.tup [.str x,p,d,e])=(iY p && iX n d && (if ve x=true then iX n e else rV x && hA e 0 ((n.cs.length:Int) - 1))):=rfl
theorem QQ (aC:fj cs ws) (d:ax):∀x∈iW cs d,Jy (dt cs ws) x:=by
 have jF:eM (aB d):=mF (e9 _) (e9 _)
 have kw {s:String} (h:PySem.Str.ofString s∈mZ):=qG h
 have h6:=aC.h6
 intro x hx
 unfold iW at hx
 simp only [List.mem_cons,List.not_mem_nil,or_false] at hx
 rcases hx with rfl | rfl | rfl | rfl | rfl | rfl | rfl
 · exact ⟨FA.g,rfl⟩
 · exact ⟨(sG (kw (by decide +kernel)) (kw rt) jF).g,by
    rw [i1,Hm,show v7 (PySem.Str.ofString "comes")=false by decide +kernel,Bool.and_false]⟩
 · exact ⟨(qF (kw (by decide +kernel)) (kw rt) jF (e9 _)).g,by
    have z:hA (.int (cs.length:Nat)) 0 (((dt cs ws).cs.length:Int) - 1)=false:=by
     show (decide ((0:Int)≤(cs.length:Nat)) && decide (((cs.length:Nat):Int)≤(cs.length:Int) - 1))=false
     rw [decide_eq_false (p:=((cs.length:Nat):Int)≤(cs.length:Int) - 1) (by omega),Bool.and_false]
    rw [i1,A_,z,Bool.and_false,if_neg (by decide +kernel),Bool.and_false]⟩
 · exact ⟨(sG (kw (by decide +kernel)) (kw Je) jF).g,by
    rw [i1,Hm,show iY (.str (PySem.Str.ofString "xxx"))=false from Jf]; rfl⟩
 · exact ⟨(qF (kw (by decide +kernel)) (kw rt) (mF (e9 _) (e9 _)) (e9 _)).g,by
    have z:iX (dt cs ws) (.tup [.int 6,.int 0])=false:=by
     have:gG cs (aB (6,0))=false:=by
      rw [Dj,decide_eq_false]
      intro hm
      have:=(pA.mp hm).1
      simp at this; omega
     show (gG cs (aB (6,0)) && _)=false
     rw [this]; rfl
    rw [i1,A_,z,Bool.and_false]; rfl⟩
 · exact ⟨(qF (kw (by decide +kernel)) (kw rt) jF (e9 _)).g,by
    rw [i1,A_,if_neg (by decide +kernel),show rV (PySem.Str.ofString "noring")=false by decide +kernel,Bool.false_and,Bool.and_false]⟩
 · exact ⟨(zB _).g,rfl⟩
end
end bU
set_option Elab.async false
set_option linter.all false
set_option maxRecDepth 100000
set_option autoImplicit false
namespace bU
open PySem PySem.Spec bb aD
noncomputable def f0:aY:=(d5 5 (bK (af (f5 gs (I 1) (fl (ag (.int 1))) (iR)) (af (ah b1 (I 1) (a9 (bK (af (a9 (bK (ai))) (ai))))) (af (ag .non) (af (ah b1 (a9 (bK (af (a9 (bK (af (bG (af (ag (.str (PySem.Str.ofString "xxx"))) (af (ag .non) (af (ag .non) (ai))))) (ai)))) (ai)))) (f5 gs (I 1) (fl (ag (.int 1))) (iR))) (ai)))))))
noncomputable def f1:aY:=(hz 5 (ah b1 (a9 (bK (af (a9 (bK (af (bG (af (ag (.str (PySem.Str.ofString "xxxx"))) (af (ah ay (I 2) (ag (.int 0))) (af (ag .non) (ai))))) (ai)))) (ai)))) (f5 gs (I 1) (fl (ag (.int 1))) (iR))))
noncomputable def f2:aY:=(d5 5 (lN 5 (a9 (bK (af (ah b1 (a9 (bK (af (a9 (bK (af (bG (af (ag (.str (PySem.Str.ofString "xxxx"))) (af (ag .non) (af (ah ay (I 2) (ag (.int 0))) (ai))))) (ai)))) (ai)))) (f5 gs (I 1) (fl (ag (.int 1))) (iR))) (af (ah b1 (a9 (bK (af (a9 (bK (af (a9 (bK (af (ag (.str (PySem.Str.ofString "xxxx"))) (af (ag .non) (af (ag .non) (ai)))))) (ai)))) (ai)))) (f5 gs (I 1) (fl (ag (.int 1))) (iR))) (af (ah b1 (a9 (bK (af (ag .non) (ai)))) (f5 gs (I 1) (fl (ag (.int 1))) (iR))) (ai))))))))
noncomputable def eY:aY:=(b6 6 (a9 (bK (af (ag .non) (af (bG (af (ag (.str (PySem.Str.ofString "comes"))) (af (ag (.str (PySem.Str.ofString "xxxx"))) (af (ah ay (I 3) (ag (.int 0))) (ai))))) (af (bG (af (ag (.str (PySem.Str.ofString "by"))) (af (ag (.str (PySem.Str.ofString "xxxx"))) (af (ah ay (I 3) (ag (.int 0))) (af (bk cf (af (I 2) (ai))) (ai)))))) (af (bG (af (ag (.str (PySem.Str.ofString "leaves"))) (af (ag (.str (PySem.Str.ofString "xxx"))) (af (ah ay (I 3) (ag (.int 0))) (ai))))) (ai))))))))
noncomputable def f4:aY:=(b6 6 (ah b1 (I 6) (a9 (bK (af (bG (af (ag (.str (PySem.Str.ofString "never"))) (af (ag (.str (PySem.Str.ofString "xxxx"))) (af (bG (af (ag (.int 6)) (af (ag (.int 0)) (ai)))) (af (ag (.int 0)) (ai)))))) (af (bG (af (ag (.str (PySem.Str.ofString "noring"))) (af (ag (.str (PySem.Str.ofString "xxxx"))) (af (ah ay (I 3) (ag (.int 0))) (af (ag (.int 0)) (ai)))))) (af (a9 (bK (af (ag (.str (PySem.Str.ofString "leaves"))) (af (ag (.str (PySem.Str.ofString "xxxx"))) (af (ah ay (I 3) (ag (.int 0))) (ai)))))) (ai))))))))
noncomputable def gI:aY:=(b6 7 (bG (af (ag (.str (PySem.Str.ofString "leaves"))) (af (ag (.str (PySem.Str.ofString "xxxx"))) (af (ah ay (I 3) (ag (.int 0))) (ai))))))
noncomputable def qy:aY:=(b6 8 (sR 5 (ah cG (I 4) (ag (.int 8)))))
noncomputable def DF:aY:=(b6 9 (ah b1 (a9 (bK (af (ag (.aw true)) (af (ag (.aw true)) (ai))))) (ah pI (a9 (bK (af (ag (.aw false)) (ai)))) (ag (.int 8)))))
theorem P_ {m:bh} {ρ:az} {xs:List D} (h:m ρ= .ok xs) (hl:xs.length≤1000):bK m ρ= .ok xs:=by
 simp only [bK,lim,h,aU,if_pos (show xs.length≤1000000 by omega)]
section
variable {cs:List Nat} {ws:List (ax×ax)} {bs:List (List dw)}
noncomputable def e6 (cs:List Nat) (ws:List (ax×ax)) (bs:List (List dw)) (os:List ax) (n:Int) (s5 cj dz cZ cy:bM):az:=[.J (bN (dt cs ws)),.J (.lst (bP bs)),.J (.lst (bF cs)),.J (.lst (os.map aB)),.J (.int n),s5,cj,dz,cZ,cy]
noncomputable def lQ:aE:=(f5 gs (I 1) (fl (ag (.int 1))) (iR))
theorem rk (os:List ax) (n:Int) (s5 cj dz cZ cy:bM):lQ (e6 cs ws bs os n s5 cj dz cZ cy)= .ok (.lst (fh bs)):=rfl
theorem sl {ρ:az} {X:aE} {x:D} (ht:lQ ρ= .ok (.lst (fh bs))) (hx:X ρ= .ok x) (hl:(fh bs).length < 100):ah b1 (a9 (bK (af X ai))) lQ ρ= .ok (.lst (x::fh bs)):=ur (xs:=[x]) (ys:=fh bs) (kF (bj hx rfl) (by simp)) ht (by rw [List.length_singleton]; omega)
theorem Ab {ρ:az} {p:String} {A B:aE} {a b:D} (ha:A ρ= .ok a) (hb:B ρ= .ok b):a9 (bK (af (bG (af (ag (.str (PySem.Str.ofString p))) (af A (af B ai)))) ai)) ρ= .ok (mR p a b):=kF (bj (fO (bj rfl (bj ha (bj hb rfl))) (by simp)) rfl) (by simp)
theorem CR (aC:fj cs ws) (os:List ax) (n:Int) (s5 cj dz cZ cy:bM):ah ay (I 2) (ag (.int 0)) (e6 cs ws bs os n s5 cj dz cZ cy)= .ok (.int (cs.getD 0 0:Nat)):=bZ rfl rfl (kN (k:=0) (r0 aC.h1))
theorem qs (d:ax) (os:List ax) (n:Int) (s5 cj dz cZ cy:bM):ah ay (I 3) (ag (.int 0)) (e6 cs ws bs (d::os) n s5 cj dz cZ cy)= .ok (aB d):=bZ rfl rfl (kN (k:=0) rfl)
theorem SQ (aC:fj cs ws) (h:gA cs bs) (d:ax) (os:List ax) (hd:d∈outs cs ws cs.length) (n:Int):wj [bN (dt cs ws),.lst (bP bs),.lst (bF cs),.lst ((d::os).map aB),.int n]= .ok (.v (.aw true)):=by
 show (uZ (e6 cs ws bs (d::os) n .un .un .un .un .un)).bind outD=_
 obtain ⟨y,e⟩:=Bu aC h
 have l:(bP bs).length=cs.length:=by rw [bP,List.length_map,h.len]
 have h6:=aC.h6
 have cO:(fh bs).length + 1=cs.length:=by rw [←l,e]; rfl
 have lt:(fh bs).length < 100:=by omega
 let qf:List D:=[.lst (fh bs),.lst (bP bs ++ [.lst []]),.non,.lst (mR "xxx" .non .non::fh bs)]
 let gh:List D:=qf ++ [.lst (mR "xxxx" (.int (cs.getD 0 0:Nat)) .non::fh bs)]
 have Ey:f0 (e6 cs ws bs (d::os) n .un .un .un .un .un)= .ok (.aV (e6 cs ws bs (d::os) n (.cD qf) .un .un .un .un)):=by
  have a:bK (af lQ (af (ah b1 (I 1) (a9 (bK (af (a9 (bK (ai))) (ai))))) (af (ag .non) (af (ah b1 (a9 (bK (af (a9 (bK (af (bG (af (ag (.str (PySem.Str.ofString "xxx"))) (af (ag .non) (af (ag .non) (ai))))) (ai)))) (ai)))) lQ) (ai))))) (e6 cs ws bs (d::os) n .un .un .un .un .un)= .ok qf:=P_ (bj (rk ..) (bj (ur rfl (kF (bj rfl rfl) (by simp)) (by simp; omega)) (bj rfl (bj (sl (rk ..) (Ab rfl rfl) lt) rfl)))) (by simp [qf])
  unfold lQ at a
  unfold f0
  rw [d5,a,aU]; rfl
 have g1:f1 (e6 cs ws bs (d::os) n (.cD qf) .un .un .un .un)= .ok (.aV (e6 cs ws bs (d::os) n (.cD gh) .un .un .un .un)):=rQ (i:=5) rfl (sl (bs:=bs) (rk ..) (Ab (CR aC ..) rfl) lt) (by simp [qf])
 have g2:f2 (e6 cs ws bs (d::os) n (.cD gh) .un .un .un .un)= .ok (.aV (e6 cs ws bs (d::os) n (.cD (gF cs bs)) .un .un .un .un)):=by
  let ρ:=e6 cs ws bs (d::os) n (.cD gh) .un .un .un .un
  have a:a9 (bK (af (ah b1 (a9 (bK (af (a9 (bK (af (bG (af (ag (.str (PySem.Str.ofString "xxxx"))) (af (ag .non) (af (ah ay (I 2) (ag (.int 0))) (ai))))) (ai)))) (ai)))) lQ) (af (ah b1 (a9 (bK (af (a9 (bK (af (a9 (bK (af (ag (.str (PySem.Str.ofString "xxxx"))) (af (ag .non) (af (ag .non) (ai)))))) (ai)))) (ai)))) lQ) (af (ah b1 (a9 (bK (af (ag .non) (ai)))) lQ) (ai))))) ρ= .ok (.lst [.lst (mR "xxxx" .non (.int (cs.getD 0 0:Nat))::fh bs),.lst (.lst [.lst [.str (PySem.Str.ofString "xxxx"),.non,.non]]::fh bs),.lst (.non::fh bs)]):=kF (bj (sl (rk ..) (Ab rfl (CR aC ..)) lt) (bj (sl (rk ..) (kF (bj (kF (bj rfl (bj rfl (bj rfl rfl))) (by simp)) rfl) (by simp)) lt) (bj (sl (rk ..) rfl lt) rfl))) (by simp)
  unfold lQ at a
  have o:ownAt 5 ρ= .ok gh:=rfl
  unfold f2
  rw [d5,lN,o,aU,a,aU]; rfl
 let o0:List D:=[.non,i1 "comes" "xxxx" [aB d],i1 "by" "xxxx" [aB d,.int (cs.length:Nat)],i1 "leaves" "xxx" [aB d]]
 have g3:eY (e6 cs ws bs (d::os) n (.cD (gF cs bs)) .un .un .un .un)= .ok (.aV (e6 cs ws bs (d::os) n (.cD (gF cs bs)) (.J (.lst o0)) .un .un .un)):=by
  have iQ:bk cf (af (I 2) ai) (e6 cs ws bs (d::os) n (.cD (gF cs bs)) .un .un .un .un)= .ok (.int (cs.length:Nat)):=by
   rw [iP (xs:=bF cs) rfl]; simp [bF]
  exact dS (i:=6) (d:= .lst o0) (kF (bj rfl (bj (fO (bj rfl (bj rfl (bj (qs ..) rfl))) (by simp)) (bj (fO (bj rfl (bj rfl (bj (qs ..) (bj iQ rfl)))) (by simp)) (bj (fO (bj rfl (bj rfl (bj (qs ..) rfl))) (by simp)) rfl)))) (by simp [o0])) rfl
 have kG:f4 (e6 cs ws bs (d::os) n (.cD (gF cs bs)) (.J (.lst o0)) .un .un .un)= .ok (.aV (e6 cs ws bs (d::os) n (.cD (gF cs bs)) (.J (.lst (iW cs d))) .un .un .un)):=
  dS (i:=6) (d:= .lst (iW cs d)) (ur (xs:=o0) (ys:=[i1 "never" "xxxx" [.tup [.int 6,.int 0],.int 0],i1 "noring" "xxxx" [aB d,.int 0],.lst [.str (PySem.Str.ofString "leaves"),.str (PySem.Str.ofString "xxxx"),aB d]]) rfl (kF (bj (fO (bj rfl (bj rfl (bj rfl (bj rfl rfl)))) (by simp)) (bj (fO (bj rfl (bj rfl (bj (qs ..) (bj rfl rfl)))) (by simp)) (bj (kF (bj rfl (bj rfl (bj (qs ..) rfl))) (by simp)) rfl))) (by simp)) (by simp [o0])) rfl
 let j4:fX:=⟨.leaves,PySem.Str.ofString "xxxx",d⟩
 have qz:gI (e6 cs ws bs (d::os) n (.cD (gF cs bs)) (.J (.lst (iW cs d))) .un .un .un)= .ok (.aV (e6 cs ws bs (d::os) n (.cD (gF cs bs)) (.J (.lst (iW cs d))) (.J (c2 j4)) .un .un)):=dS (i:=7) (d:=c2 j4) (fO (bj rfl (bj rfl (bj (qs ..) rfl))) (by simp)) rfl
 obtain ⟨k,hk,fJ⟩:=mO n 8 (by decide)
 have aw:(gF cs bs).length=8:=rfl
 obtain ⟨x,hx⟩:∃x,(gF cs bs)[k]? =some x:=⟨_,List.getElem?_eq_getElem (by rw [aw]; exact hk)⟩
 have qk:=JY aC h x (List.mem_of_getElem? hx)
 have sb:qy (e6 cs ws bs (d::os) n (.cD (gF cs bs)) (.J (.lst (iW cs d))) (.J (c2 j4)) .un .un)= .ok (.aV (e6 cs ws bs (d::os) n (.cD (gF cs bs)) (.J (.lst (iW cs d))) (.J (c2 j4)) (.J x) .un)):=by
  refine dS (i:=8) (d:=x) ?_ rfl
  have o:ownAt 5 (e6 cs ws bs (d::os) n (.cD (gF cs bs)) (.J (.lst (iW cs d))) (.J (c2 j4)) .un .un)= .ok (gF cs bs):=rfl
  have Qb:ah cG (I 4) (ag (.int 8)) (e6 cs ws bs (d::os) n (.cD (gF cs bs)) (.J (.lst (iW cs d))) (.J (c2 j4)) .un .un)= .ok (.int (n % 8)):=gq rfl rfl (by decide)
  have LW:n % 8=(k:Int):=fJ
  rw [sR,o,aU,Qb,aU,LW]
  simp only [uw hx]
 have Ez:DF (e6 cs ws bs (d::os) n (.cD (gF cs bs)) (.J (.lst (iW cs d))) (.J (c2 j4)) (.J x) .un)= .ok (.aV (e6 cs ws bs (d::os) n (.cD (gF cs bs)) (.J (.lst (iW cs d))) (.J (c2 j4)) (.J x) (.J tJ))):=rfl
 let ρ:=e6 cs ws bs (d::os) n (.cD (gF cs bs)) (.J (.lst (iW cs d))) (.J (c2 j4)) (.J x) (.J tJ)
 obtain ⟨j,dx,hV⟩:=mO (n / 8) 7 (by decide)
 have ol:(iW cs d).length=7:=rfl
 obtain ⟨t,ht⟩:∃t,(iW cs d)[j]? =some t:=⟨_,List.getElem?_eq_getElem (by rw [ol]; exact dx)⟩
 have wG:=QQ aC d t (List.mem_of_getElem? ht)
 have pt:ah ay (I 6) (ah cG (ah da (I 4) (ag (.int 8))) (ag (.int 7))) ρ= .ok t:=by
  have F1:ah cG (ah da (I 4) (ag (.int 8))) (ag (.int 7)) ρ= .ok (.int (n / 8 % 7)):=gq (jb rfl ⟨by decide,by decide⟩) rfl (by decide)
  have LV:n / 8 % 7=(j:Int):=hV
  rw [LV] at F1
  exact bZ rfl F1 (kN ht)
 have sf:=EF aC h
 have eC:pZ (c2 j4):=Hn (cs:=cs) (os:=[d]) ⟨show PySem.Str.ofString "xxxx"∈gx by decide +kernel,by simp [j4],trivial⟩
 have a7:ki [bN (dt cs ws),x,c2 j4]= .ok (.v tJ):=He (by rw [va _ x _ qk.t eC (fun z=>by rw [qk.f] at z; cases z),qk.f]; rfl)
 have bX:ki [bN (dt cs ws),x,t]= .ok (.v tJ):=He (by rw [va _ x _ qk.t wG.t (fun z=>by rw [qk.f] at z; cases z),qk.f]; rfl)
 have eU:ki [bN (dt cs ws),.lst (bP bs),t]= .ok (.v BA):=SO (by rw [va _ _ _ sf.1 wG.t (fun _ z=>by rw [wG.f] at z; cases z),sf.2,wG.f]; rfl)
 have bD:aH (ah (bT false) (bc 3 ki (af (I 0) (af (I 8) (af (I 7) (ai))))) (I 9)) ρ= .ok false:=dy (bZ (ju (a:=I 0) (b:=I 8) (c:=I 7) rfl rfl rfl a7) rfl rfl)
 have c_:aH (ah (bT false) (bc 3 ki (af (I 0) (af (I 8) (af (ah ay (I 6) (ah cG (ah da (I 4) (ag (.int 8))) (ag (.int 7)))) (ai))))) (I 9)) ρ= .ok false:=dy (bZ (ju (a:=I 0) (b:=I 8) rfl rfl pt bX) rfl rfl)
 have c:=hM bD fun _=>c_
 have r:=bZ (f:=bT true) (ρ:=ρ) (z:= .aw true) (ju (f:=ki) (a:=I 0) (b:=I 1) rfl rfl pt eU) (show ah b1 (a9 (bK (af (ag (.aw true)) (af (ag (.aw false)) (af (ag (.aw true)) (ai)))))) (ah pI (a9 (bK (af (ag (.aw false)) (ai)))) (ag (.int 7))) ρ= .ok BA from rfl) rfl
 unfold f0 at Ey
 unfold f1 at g1
 unfold f2 at g2
 unfold eY at g3
 unfold f4 at kG
 unfold gI at qz
 unfold qy at sb
 unfold DF at Ez
 unfold uZ
 rw [cu Ey,cu g1,cu g2,cu g3,cu kG,cu qz,cu sb,cu Ez,e0 c,fq r]; rfl
end
end bU
set_option Elab.async false
set_option linter.all false
set_option maxRecDepth 100000
set_option autoImplicit false
namespace bU
open PySem PySem.Spec bb aD
noncomputable def Ac:bh:=(pk (af (ag (.int 8)) (af (bk pz (af (ag (.int 12)) (af (bk jK (af (ag (.int 33)) (af (bk cf (af (I 0) (ai))) (ai)))) (ai)))) (ai))))
noncomputable def sz:aY:=(aK (b6 13 (pg 3 mK (af (I 6) (af (I 7) (af (I 10) (ai)))))) (cx (dY (aH (ah (bT false) (I 13) (I 11))) (dY (aH (ct (eS "bool") (I 13))) (aH (ah (bT false) (I 7) (I 5))))) (bS (ag (.aw false))) (cF)))
noncomputable def wI:aY:=(aK (b6 9 (ah ay (a9 (fb 3 jh (af (bc 2 iT (af (I 0) (af (I 8) (ai)))) (af (ah b1 (ag (.int 50)) (I 8)) (af (ag (.int 1)) (ai)))))) (ag (.int 0)))) (aK (b6 10 (bc 3 wk (af (I 9) (af (I 1) (af (I 3) (ai)))))) (aK (b6 11 (bc 3 wg (af (I 4) (af (I 5) (af (I 10) (ai)))))) (fc (dU (af (ag (.int 2)) (ai))) (aJ 12) sz))))
theorem vq:∀{xs:List D},(∀x∈xs,bA x x=true)→ef xs xs=true
 | [],_=>by simp only [ef]
 | x::xs,h=>by
   simp only [ef,Bool.and_eq_true]
   exact ⟨h x (by simp),vq fun y b5=>h y (by simp [b5])⟩
theorem vp:∀(n:Nat) (d:D),okN n d=true→bA d d=true
 | 0,d,h=>by cases d <;> first | (simp [bA]; done) | cases h
 | n + 1,d,h=>by
   cases d with
   | tup xs=>simp only [okN,List.all_eq_true] at h; simp only [bA]; exact vq fun x hx=>vp n x (h x hx)
   | lst xs=>simp only [okN,List.all_eq_true] at h; simp only [bA]; exact vq fun x hx=>vp n x (h x hx)
   | b8 xs=>simp only [okN,List.all_eq_true] at h; simp only [bA]; exact vq fun x hx=>vp n x (h x hx)
   | non=>simp [bA]
   | aw _=>simp [bA]
   | int _=>simp [bA]
   | str _=>simp [bA]
   | _=>cases h
theorem ne_self {d:D} (h:okN 8 d=true):bT false d d= .ok (.aw false):=by
 unfold bT
 rw [if_pos ⟨h,h⟩,vp 8 d h]; rfl
theorem S0 (r:dw):okN 6 (eu r)=true:=by
 obtain ⟨p,a,b⟩:=r
 cases a <;> cases b <;> rfl
theorem J7 (bs:List (List dw)):okN 8 (.lst (bP bs))=true:=by
 simp only [okN,List.all_eq_true,bP]
 intro y b5
 obtain ⟨b,_,rfl⟩:=List.mem_map.mp b5
 simp only [fw,okN,List.all_eq_true]
 intro z br
 obtain ⟨r,_,rfl⟩:=List.mem_map.mp br
 exact S0 r
noncomputable def qu:aE:=(a9 (kf (af (I 0) (ai))))
theorem C2:∀(bs:List (List dw)) (acc:List D) (s0:bM),acc.length + bs.length < 1000→dm (aJ 0) cT qu (bP bs) [s0] acc= .ok (acc ++ bP bs)
 | [],acc,s0,_=>by simp [dm,bP]
 | b::bs,acc,s0,hl=>by
   simp only [List.length_cons] at hl
   have cw:aJ 0 (fw b) [s0]= .ok [.J (fw b)]:=rfl
   have ar:qu [.J (fw b)]= .ok (fw b):=rfl
   rw [show bP (b::bs)=fw b::bP bs from rfl,dm,cw,aU]
   simp only [cT,aU,ar,if_true,if_pos (show acc.length < 1000000 by omega)]
   rw [C2 bs _ _ (by rw [List.length_append,List.length_singleton]; omega),List.append_assoc]
   rfl
structure uj where
 ns:List Int
 cs:List Nat
 ws:List (ax×ax)
 bs:List (List dw)
noncomputable def uj.ρ (W:uj) (cZ cy ie hP ek eD:bM):az:=[.J (.b8 (W.ns.map D.int)),.J (.lst (bF W.cs)),.J (.lst (W.ws.map cH)),.J (.lst ((outs W.cs W.ws W.cs.length).map aB)),.J (.a0 (bQ W.ws) (b3 W.ws)),.J (.lst (bP W.bs)),.J (bN (dt W.cs W.ws)),.J (.lst (bP W.bs)),cZ,cy,ie,hP,ek,eD]
section
variable {W:uj} (aC:fj W.cs W.ws) (hb:gA W.cs W.bs)
include aC hb
theorem J8 {s:fX} (hs:p5 W.cs (outs W.cs W.ws W.cs.length) s):mK [bN (dt W.cs W.ws),.lst (bP W.bs),c2 s]= .ok (.v (cg (brk W.ws W.bs s))):=by
 have l:=P5 aC hb s hs.p (tj.mp hs.d).1
 have sf:=EF aC hb
 rw [va _ _ _ sf.1 (Hn hs) (fun _ _=>⟨_,l⟩),sf.2,TJ hs,if_pos rfl,if_pos rfl,l]
theorem Oq {s:fX} (hs:p5 W.cs (outs W.cs W.ws W.cs.length) s) (cZ cy ek eD:bM):∃t,sz (W.ρ cZ cy (.J (c2 s)) (.J (cg (brk W.ws W.bs s))) ek eD)= .ok (.aV (W.ρ cZ cy (.J (c2 s)) (.J (cg (brk W.ws W.bs s))) ek t)):=by
 let o:=brk W.ws W.bs s
 have b:pg 3 mK (af (I 6) (af (I 7) (af (I 10) (ai)))) (W.ρ cZ cy (.J (c2 s)) (.J (cg o)) ek eD)= .ok (cg o):=by
  have a:af (I 6) (af (I 7) (af (I 10) (ai))) (W.ρ cZ cy (.J (c2 s)) (.J (cg o)) ek eD)= .ok [bN (dt W.cs W.ws),.lst (bP W.bs),c2 s]:=rfl
  have PS:[bN (dt W.cs W.ws),D.lst (bP W.bs),c2 s].length=3:=rfl
  rw [pg,a,aU,if_pos PS,J8 aC hb hs]; rfl
 have S6:=dS (i:=13) b (ρ':=W.ρ cZ cy (.J (c2 s)) (.J (cg o)) ek (.J (cg o))) rfl
 have OY:okN 8 (cg o)=true:=by cases o <;> rfl
 have bD:aH (ah (bT false) (I 13) (I 11)) (W.ρ cZ cy (.J (c2 s)) (.J (cg o)) ek (.J (cg o)))= .ok false:=dy (bZ rfl rfl (ne_self OY))
 have c_:aH (ct (eS "bool") (I 13)) (W.ρ cZ cy (.J (c2 s)) (.J (cg o)) ek (.J (cg o)))= .ok false:=dy (pN rfl (by cases o <;> rfl))
 have fx:aH (ah (bT false) (I 7) (I 5)) (W.ρ cZ cy (.J (c2 s)) (.J (cg o)) ek (.J (cg o)))= .ok false:=dy (bZ rfl rfl (ne_self (J7 W.bs)))
 have c:=hM bD fun _=>hM c_ fun _=>fx
 refine ⟨.J (cg o),?_⟩
 unfold sz
 rw [cu S6,jD c]; rfl
theorem Fn {s:fX} (hs:p5 W.cs (outs W.cs W.ws W.cs.length) s) (cZ cy:bM):∀(a_:List Nat) (ek eD:bM),∃i2 i3,dQ (aJ 12) sz (a_.map fun i=> .int (0 + ((i:Nat):Int))) (W.ρ cZ cy (.J (c2 s)) (.J (cg (brk W.ws W.bs s))) ek eD)= .ok (.aV (W.ρ cZ cy (.J (c2 s)) (.J (cg (brk W.ws W.bs s))) i2 i3))
 | [],ek,eD=>⟨ek,eD,rfl⟩
 | k::a_,ek,eD=>by
   have cw:aJ 12 (.int (0 + ((k:Nat):Int))) (W.ρ cZ cy (.J (c2 s)) (.J (cg (brk W.ws W.bs s))) ek eD)= .ok (W.ρ cZ cy (.J (c2 s)) (.J (cg (brk W.ws W.bs s))) (.J (.int (0 + ((k:Nat):Int)))) eD):=rfl
   obtain ⟨t,ar⟩:=Oq aC hb hs cZ cy (.J (.int (0 + ((k:Nat):Int)))) eD
   obtain ⟨i2,i3,e⟩:=Fn hs cZ cy a_ (.J (.int (0 + ((k:Nat):Int)))) t
   refine ⟨i2,i3,?_⟩
   rw [List.map_cons,dQ,cw,aU,ar,aU]
   exact e
theorem Ro (k:Nat) (cy ie hP ek eD:bM):∃f7 mW mX i2 i3,wI (W.ρ (.J (.int (k:Nat))) cy ie hP ek eD)= .ok (.aV (W.ρ (.J (.int (k:Nat))) f7 mW mX i2 i3)):=by
 obtain ⟨c,ec⟩:=vd W.ns k
 obtain ⟨ys,zJ,aq⟩:=xd c (50 + (k:Nat)) 1 (by decide)
 obtain ⟨y,rfl⟩:∃y,ys=[y]:=by
  match ys,zJ with
  | [y],_=>exact ⟨y,rfl⟩
 have Rw:ah ay (a9 (fb 3 jh (af (bc 2 iT (af (I 0) (af (I 8) (ai)))) (af (ah b1 (ag (.int 50)) (I 8)) (af (ag (.int 1)) (ai)))))) (ag (.int 0)) (W.ρ (.J (.int (k:Nat))) cy ie hP ek eD)= .ok (.int y):=bZ (yn (bj (call2 rfl rfl ec) (bj (i_ rfl rfl) (bj rfl rfl))) aq) rfl rfl
 have S7:=dS (i:=9) Rw (ρ':=W.ρ (.J (.int (k:Nat))) (.J (.int y)) ie hP ek eD) rfl
 have lA:W.cs≠[]:=by intro e; have:=aC.h1; rw [e] at this; simp at this
 have one:outs W.cs W.ws W.cs.length≠[]:=by
  obtain ⟨d,h1,h2⟩:=aC.out
  exact List.ne_nil_of_mem (tj.mpr ⟨h1,h2⟩)
 obtain ⟨s,hs,K2⟩:=TH y W.cs (outs W.cs W.ws W.cs.length) lA one
 have S4:=dS (i:=10) (ρ:=W.ρ (.J (.int (k:Nat))) (.J (.int y)) ie hP ek eD) (ju (a:=I 9) (b:=I 1) (c:=I 3) rfl rfl rfl K2) (ρ':=W.ρ (.J (.int (k:Nat))) (.J (.int y)) (.J (c2 s)) hP ek eD) rfl
 have S5:=dS (i:=11) (ρ:=W.ρ (.J (.int (k:Nat))) (.J (.int y)) (.J (c2 s)) hP ek eD) (ju (a:=I 4) (b:=I 5) (c:=I 10) rfl rfl rfl (P0 aC hb s hs.p (tj.mp hs.d).1)) (ρ':=W.ρ (.J (.int (k:Nat))) (.J (.int y)) (.J (c2 s)) (.J (cg (brk W.ws W.bs s))) ek eD) rfl
 have i:=lT (a:=ag (.int 2)) (ρ:=W.ρ (.J (.int (k:Nat))) (.J (.int y)) (.J (c2 s)) (.J (cg (brk W.ws W.bs s))) ek eD) (j:=2) rfl (by decide) (by decide)
 obtain ⟨i2,i3,e⟩:=Fn aC hb hs (.J (.int (k:Nat))) (.J (.int y)) (List.range (2:Int).toNat) ek eD
 refine ⟨.J (.int y),.J (c2 s),.J (cg (brk W.ws W.bs s)),i2,i3,?_⟩
 unfold wI
 rw [cu S7,cu S4,cu S5]
 exact lE i e
theorem Gs:∀(a_:List Nat) (cZ cy ie hP ek eD:bM),∃fL f7 mW mX i2 i3,dQ (aJ 8) wI (a_.map fun i=> .int (8 + ((i:Nat):Int))) (W.ρ cZ cy ie hP ek eD)= .ok (.aV (W.ρ fL f7 mW mX i2 i3))
 | [],cZ,cy,ie,hP,ek,eD=>⟨cZ,cy,ie,hP,ek,eD,rfl⟩
 | k::a_,cZ,cy,ie,hP,ek,eD=>by
   have cw:aJ 8 (.int (8 + ((k:Nat):Int))) (W.ρ cZ cy ie hP ek eD)= .ok (W.ρ (.J (.int ((8 + k:Nat):Nat))) cy ie hP ek eD):=by
    rw [show (8:Int) + ((k:Nat):Int)=((8 + k:Nat):Int) by omega]; rfl
   obtain ⟨x7,JC,JD,JE,JF,ar⟩:=Ro aC hb (8 + k) cy ie hP ek eD
   obtain ⟨fL,f7,mW,mX,i2,i3,e⟩:=Gs a_ (.J (.int ((8 + k:Nat):Nat))) x7 JC JD JE JF
   refine ⟨fL,f7,mW,mX,i2,i3,?_⟩
   rw [List.map_cons,dQ,cw,aU,ar,aU]
   exact e
end
theorem SW (v:Int) (h0:0≤v) (h1:v≤1000000):wY [.int 8,.int v]= .ok ((List.range (v - 8).toNat).map fun i=> .int (8 + ((i:Nat):Int))):=by
 have h: -(2 ^ 62)≤(8:Int)∧(8:Int) < 2 ^ 62∧ -(2 ^ 62)≤v∧v < 2 ^ 62:=⟨by omega,by omega,by omega,by omega⟩
 simp only [wY,if_pos h,lU]
end bU
set_option Elab.async false
set_option linter.all false
set_option maxRecDepth 100000
set_option autoImplicit false
namespace bU
open PySem PySem.Spec bb aD
theorem PZ (ns:List Int):qW [.b8 (ns.map D.int)]= .ok (.v (.aw true)):=by
 show (uP [.J (.b8 (ns.map D.int)),.un,.un,.un,.un,.un,.un,.un,.un,.un,.un,.un,.un,.un]).bind outD=_
 obtain ⟨c,ec⟩:=vd ns 0
 obtain ⟨cs,ws,h,jy⟩:=Qu c
 obtain ⟨bs,hb,bE⟩:=J6 ns 1 cs h.h6 h.c
 have h6:=h.h6
 let S:bM:= .J (.b8 (ns.map D.int))
 let C:bM:= .J (.lst (bF cs))
 let X:bM:= .J (.lst (ws.map cH))
 let O:bM:= .J (.lst ((outs cs ws cs.length).map aB))
 let Y:bM:= .J (.a0 (bQ ws) (b3 ws))
 let B:bM:= .J (.lst (bP bs))
 let N:bM:= .J (bN (dt cs ws))
 have u:kP (d6 [aJ 1,aJ 2]) (bc 2 sY (af (bc 2 iT (af (I 0) (af (ag (.int 0)) (ai)))) (af (ag (.int 6)) (ai)))) [S,.un,.un,.un,.un,.un,.un,.un,.un,.un,.un,.un,.un,.un]= .ok (.aV [S,C,X,.un,.un,.un,.un,.un,.un,.un,.un,.un,.un,.un]):=by
  have z:bc 2 sY (af (bc 2 iT (af (I 0) (af (ag (.int 0)) (ai)))) (af (ag (.int 6)) (ai))) [S,.un,.un,.un,.un,.un,.un,.un,.un,.un,.un,.un,.un,.un]= .ok (.tup [.lst (bF cs),.lst (ws.map cH)]):=call2 (call2 rfl rfl ec) rfl jy
  rw [kP,z]; rfl
 have s3:=dS (i:=3) (ρ:=[S,C,X,.un,.un,.un,.un,.un,.un,.un,.un,.un,.un,.un]) (ρ':=[S,C,X,O,.un,.un,.un,.un,.un,.un,.un,.un,.un,.un]) (call2 (a:=I 1) (b:=I 2) rfl rfl (Rp cs ws h)) rfl
 have s4:=dS (i:=4) (ρ:=[S,C,X,O,.un,.un,.un,.un,.un,.un,.un,.un,.un,.un]) (ρ':=[S,C,X,O,Y,.un,.un,.un,.un,.un,.un,.un,.un,.un]) (mx (a:=I 2) rfl (CF ws h.bg (by have:=h.few; omega))) rfl
 have s5:=dS (i:=5) (ρ:=[S,C,X,O,Y,.un,.un,.un,.un,.un,.un,.un,.un,.un]) (ρ':=[S,C,X,O,Y,B,.un,.un,.un,.un,.un,.un,.un,.un]) (CT (f:=wd) (m:=af (I 0) (af (ag (.int 1)) (af (I 1) (af (ag (.int 6)) ai)))) rfl bE) rfl
 have mk:pj "Net" 2 v9 (af (a9 (kf (af (I 1) (ai)))) (af (a9 (kf (af (I 2) (ai)))) (ai))) [S,C,X,O,Y,B,.un,.un,.un,.un,.un,.un,.un,.un]= .ok (bN (dt cs ws)):=by
  have y:(af (a9 (kf (af (I 1) (ai)))) (af (a9 (kf (af (I 2) (ai)))) (ai))) [S,C,X,O,Y,B,.un,.un,.un,.un,.un,.un,.un,.un]= .ok [.lst (bF cs),.lst (ws.map cH)]:=rfl
  simp only [pj,y,aU,List.length_cons,List.length_nil,if_true,Ov cs ws h,fo]
  rfl
 have cj:=dS (i:=6) (ρ':=[S,C,X,O,Y,B,N,.un,.un,.un,.un,.un,.un,.un]) mk rfl
 let W:uj:=⟨ns,cs,ws,bs⟩
 have dz:kg 7 (cY 1 [] (dX (I 5)) (aJ 0) (cT) qu) [S,C,X,O,Y,B,N,.un,.un,.un,.un,.un,.un,.un]= .ok (.aV (W.ρ .un .un .un .un .un .un)):=by
  have z:cY 1 [] (dX (I 5)) (aJ 0) (cT) qu [S,C,X,O,Y,B,N,.un,.un,.un,.un,.un,.un,.un]= .ok (bP bs):=by
   have i:dX (I 5) [S,C,X,O,Y,B,N,.un,.un,.un,.un,.un,.un,.un]= .ok (bP bs):=rfl
   rw [cY,i,aU]
   show fo (dm (aJ 0) cT qu (bP bs) [.un] [])=_
   rw [C2 bs [] .un (by have:=hb.len; simp; omega)]; rfl
  rw [kg,d5,z,aU]; rfl
 let w:Int:=if (ns.length:Int) < 33 then (ns.length:Int) else 33
 let v:Int:=if w > 12 then w else 12
 have hw:0≤w∧w≤33:=by show 0≤(if (ns.length:Int) < 33 then (ns.length:Int) else 33)∧(if (ns.length:Int) < 33 then (ns.length:Int) else 33)≤33; split <;> omega
 have hv:12≤v∧v≤33:=by show 12≤(if w > 12 then w else 12)∧(if w > 12 then w else 12)≤33; split <;> omega
 have bl:Ac (W.ρ .un .un .un .un .un .un)= .ok ((List.range (v - 8).toNat).map fun i=> .int (8 + ((i:Nat):Int))):=by
  have l:bk cf (af (I 0) (ai)) (W.ρ .un .un .un .un .un .un)= .ok (.int (ns.length:Nat)):=by
   show R.ok (D.int ((ns.map D.int).length:Nat))=_
   rw [List.length_map]
  have m1:bk jK (af (ag (.int 33)) (af (bk cf (af (I 0) (ai))) (ai))) (W.ρ .un .un .un .un .un .un)= .ok (.int w):=by
   have y:=bj (a:=ag (.int 33)) (r:=af (bk cf (af (I 0) (ai))) (ai)) (ρ:=W.ρ .un .un .un .un .un .un) rfl (bj l rfl)
   rw [bk,y]; rfl
  have m2:bk pz (af (ag (.int 12)) (af (bk jK (af (ag (.int 33)) (af (bk cf (af (I 0) (ai))) (ai)))) (ai))) (W.ρ .un .un .un .un .un .un)= .ok (.int v):=by
   have y:=bj (a:=ag (.int 12)) (r:=af (bk jK (af (ag (.int 33)) (af (bk cf (af (I 0) (ai))) (ai)))) (ai)) (ρ:=W.ρ .un .un .un .un .un .un) rfl (bj m1 rfl)
   rw [bk,y]; rfl
  have y:=bj (a:=ag (.int 8)) (ρ:=W.ρ .un .un .un .un .un .un) rfl (bj m2 (r:=ai) rfl)
  have z:=SW v (by omega) (by omega)
  rw [Ac,pk,y,aU,z]
 obtain ⟨fL,f7,mW,mX,i2,i3,e⟩:=Gs (W:=W) h hb (List.range (v - 8).toNat) .un .un .un .un .un .un
 have f:=lE bl e
 obtain ⟨J_,LP⟩:=vd ns 7
 obtain ⟨ys,zJ,aq⟩:=xd J_ 5 1 (by decide)
 obtain ⟨y,rfl⟩:∃y,ys=[y]:=by
  match ys,zJ with
  | [y],_=>exact ⟨y,rfl⟩
 obtain ⟨d,sk,hd2⟩:=h.out
 obtain ⟨yr,os,Dx⟩:∃yr os,outs cs ws cs.length=yr::os:=List.exists_cons_of_ne_nil (List.ne_nil_of_mem (tj.mpr ⟨sk,hd2⟩))
 have Hg:=SQ h hb yr os (by rw [Dx]; simp) y
 rw [←Dx] at Hg
 have p:ah ay (a9 (fb 3 jh (af (bc 2 iT (af (I 0) (af (ag (.int 7)) (ai)))) (af (ag (.int 5)) (af (ag (.int 1)) (ai)))))) (ag (.int 0)) (W.ρ fL f7 mW mX i2 i3)= .ok (.int y):=bZ (yn (bj (call2 rfl rfl LP) (bj rfl (bj rfl rfl))) aq) rfl rfl
 have last:bc 5 wj (af (I 6) (af (I 7) (af (I 1) (af (I 3) (af (ah ay (a9 (fb 3 jh (af (bc 2 iT (af (I 0) (af (ag (.int 7)) (ai)))) (af (ag (.int 5)) (af (ag (.int 1)) (ai)))))) (ag (.int 0))) (ai)))))) (W.ρ fL f7 mW mX i2 i3)= .ok (.aw true):=by
  have a:=bj (a:=I 6) (ρ:=W.ρ fL f7 mW mX i2 i3) rfl (bj (a:=I 7) rfl (bj (a:=I 1) rfl (bj (a:=I 3) rfl (bj p (r:=ai) rfl))))
  rw [bc,a,aU]
  have PT (a b c d e:D):[a,b,c,d,e].length=5:=rfl
  rw [if_pos (PT ..)]
  refine Eq.trans (congrArg (fun r=>R.bind r kW) Hg) rfl
 unfold qu at dz
 unfold Ac wI sz at f
 unfold uP
 rw [cu u,cu s3,cu s4,cu s5,cu cj,cu dz,cu f,fq last]
 rfl
end bU
set_option Elab.async false
set_option linter.all false
set_option maxRecDepth 100000
set_option autoImplicit false
namespace bU
open PySem PySem.Spec bb aD
theorem lM {P:Str→Bool→Prop}:∀c x,([]:List (Str×Bool)).lookup c=some x→P c x:=fun _ _ h=>nomatch h
theorem gJ {P:Str→Bool→Prop} {a:Str} {b:Bool} {l:List (Str×Bool)} (h:P a b) (t:∀c x,l.lookup c=some x→P c x):∀c x,((a,b)::l).lookup c=some x→P c x:=fun c x e=>by
 rw [List.lookup_cons] at e
 split at e
 · rename_i k
   rw [beq_iff_eq] at k
   cases e; rw [k]; exact h
 · exact t c x e
theorem Kv {P:Str→Prop}:∀c,([]:List Str).contains c=true→P c:=fun _ h=>nomatch h
theorem De {P:Str→Prop} {a:Str} {l:List Str} (h:P a) (t:∀c,l.contains c=true→P c):∀c,(a::l).contains c=true→P c:=fun c e=>by
 rw [List.contains_cons,Bool.or_eq_true] at e
 rcases e with k | k
 · rw [beq_iff_eq] at k; rw [k]; exact h
 · exact t c k
theorem Wh {P:Program} {w:World} {K:PySem.W.Frag} {mg:Str→Option Value} {base:Heap} {x:Str} {st:Stmt} {N aM:List Str} {k:Nat} {m:aY} {f:Addr} {fd:FuncData} (fn:ku K x x st f fd) (S:cV N aM (bW st))
  (h:∀(f:Addr) (cn:Value) (A:Around) (outer:List PySem.Env) (s:Shared) (H:ao) (E:c8),dv k (A.deeper (PyProof.Rows.envOfC x (bW st) s.heap.objs.size f cn))→∀b2 bw,iD (eE gP P w K mg base N x (bW st) f cn A outer s H E).gL (eP K b2 bw) (fI st) m) :
  g7 P w K mg base gP (k + 1) f fd aM (mT K aM.length (c5 N.length m)):=fn.ok S xa fun cn A outer s H vs Q E hr hs=>by
 obtain ⟨G,ht⟩:=u_ hs
 exact ⟨_,(h f cn A outer s H E hr G H).1,ht⟩
structure dC (K:PySem.W.Frag) (x:Str) (st:Stmt):Prop where
 ex:∃(f:Addr) (dM an:Option Addr) (cB:Array (Option Value)) (eT cX jv pm cd cL:Value),PySem.W.nsIn K mainGlobals x=some (some (.ref f))∧K.lookup f=some ⟨eT,dM,.func (PySem.W.fnOf x x (jw st) (fI st) (bW st) .none cX jv pm an cd cL),cB⟩∧PySem.W.codeIn K cd x=true∧PySem.W.keepIn K (.ref f)=true
theorem dG {K:PySem.W.Frag} {x:Str} {st:Stmt} {f:Addr} {dM an:Option Addr} {cB:Array (Option Value)} {eT cX jv pm cd cL:Value} (a:PySem.W.nsIn K mainGlobals x=some (some (.ref f))) (l:K.lookup f=some ⟨eT,dM,.func (PySem.W.fnOf x x (jw st) (fI st) (bW st) .none cX jv pm an cd cL),cB⟩) (c:PySem.W.codeIn K cd x=true) (k:PySem.W.keepIn K (.ref f)=true):dC K x st:=⟨f,dM,an,cB,eT,cX,jv,pm,cd,cL,a,l,c,k⟩
theorem dF {K:PySem.W.Frag} {h:Heap} {mg:Str→Option Value} {x:Str} {st:Stmt} {aM:List Str} (X:K.In h) (G:h.Ns mainGlobals mg) (F:dC K x st)
  (b:∀(cX doc pm:Value) (an:Option Addr) (cn cL:Value) (us:List Value),us.length=aM.length→bindArgs (PySem.W.fnOf x x (jw st) (fI st) (bW st) .none cX doc pm an cn cL) ⟨us,[]⟩=pure (aM.zip us)):dq K mg x st aM:=by
 obtain ⟨f,dM,an,cB,eT,cX,jv,pm,cd,cL,a,l,c,k⟩:=F.ex
 exact Mf (st:=st) X G a l c k b
structure nt (K:PySem.W.Frag) (C:Addr) (x qual:Str) (st:Stmt):Prop where
 ex:∃(f:Addr) (dM an:Option Addr) (cB:Array (Option Value)) (eT cX jv pm cd cL:Value),PySem.W.findIn K (.ref C) x=some (some (.ref f))∧K.lookup f=some ⟨eT,dM,.func (PySem.W.fnOf x qual (jw st) (fI st) (bW st) .none cX jv pm an cd cL),cB⟩∧PySem.W.codeIn K cd qual=true∧PySem.W.keepIn K (.ref f)=true∧PySem.W.isFn K (.ref f)=true
theorem s8 {K:PySem.W.Frag} {C:Addr} {x qual:Str} {st:Stmt} {f:Addr} {dM an:Option Addr} {cB:Array (Option Value)} {eT cX jv pm cd cL:Value} (a:PySem.W.findIn K (.ref C) x=some (some (.ref f))) (l:K.lookup f=some ⟨eT,dM,.func (PySem.W.fnOf x qual (jw st) (fI st) (bW st) .none cX jv pm an cd cL),cB⟩) (c:PySem.W.codeIn K cd qual=true) (k:PySem.W.keepIn K (.ref f)=true) (i:PySem.W.isFn K (.ref f)=true):nt K C x qual st:=⟨f,dM,an,cB,eT,cX,jv,pm,cd,cL,a,l,c,k,i⟩
theorem wt {K:PySem.W.Frag} {bu x qual:Str} {C:Addr} {st:Stmt} {aM:List Str} (n:PySem.W.nsIn K mainGlobals bu=some (some (.ref C))) (g1:PySem.W.plainGet K C Str.empty=true) (g2:PySem.W.hasDictIn K C=true) (g3:PySem.W.plainOver K C=true) (kG:PySem.W.findIn K (.ref C) "__setattr__"=some (some (.builtin "object.__setattr__"))) (F:nt K C x qual st)
  (b:∀(cX doc pm:Value) (an:Option Addr) (cn cL:Value) (us:List Value),us.length=aM.length→bindArgs (PySem.W.fnOf x qual (jw st) (fI st) (bW st) .none cX doc pm an cn cL) ⟨us,[]⟩=pure (aM.zip us)):p3 K bu x qual st aM:=by
 obtain ⟨f,dM,an,cB,eT,cX,jv,pm,cd,cL,a,l,c,k,i⟩:=F.ex
 exact ⟨⟨C,f,_,n,⟨g1,g2,g3,kG⟩,⟨a,i,k⟩,o6 (st:=st) l c k,(o6 (st:=st) l c k).binds b⟩⟩
theorem Qi {K:PySem.W.Frag} {h:Heap} {mg:Str→Option Value} {bu qual:Str} {C:Addr} {st:Stmt} {aM:List Str} (X:K.In h) (G:h.Ns mainGlobals mg) (n:PySem.W.nsIn K mainGlobals bu=some (some (.ref C))) (mk:PySem.W.makesIn K C=true) (O7:PySem.W.keepIn K (.ref C)=true) (F:nt K C "__init__" qual st)
  (b:∀(cX doc pm:Value) (an:Option Addr) (cn cL:Value) (us:List Value),us.length=aM.length→bindArgs (PySem.W.fnOf "__init__" qual (jw st) (fI st) (bW st) .none cX doc pm an cn cL) ⟨us,[]⟩=pure (aM.zip us)):InK K mg bu qual st aM:=by
 obtain ⟨f,dM,an,cB,eT,cX,jv,pm,cd,cL,a,l,c,k,i⟩:=F.ex
 exact ⟨⟨C,f,_,n,⟨mk,a,i,O7⟩,o6 (st:=st) l c k,PySem.W.mg_of X G n,(o6 (st:=st) l c k).binds b⟩⟩
set_option maxHeartbeats 4000000 in
theorem Vq {K:PySem.W.Frag} {h:Heap} {mg:Str→Option Value} {hC:Addr} {d_:Addr} {WC:ClassData} {ea:Addr} {WD:ClassData} {tX:Addr} {tY:Addr} {tZ:Addr} {t2:Addr} {t4:Addr} {t5:Addr} {t6:Addr} {t7:Addr} {UO:Tok} {UP:Tok} {UQ:Tok} {UR:Tok} {xJ:Addr} {KJ:Option Addr} {Qq:Nat} {Uk:Array (Option Value)} {US UT UU:Tok} {xK:Addr} {KL:Option Addr} {Qr:Nat} {Ul:Array (Option Value)} {UW UX UY UZ:Tok} (X:K.In h) (G:h.Ns mainGlobals mg)
  (n_Net:PySem.W.nsIn K mainGlobals "Net"=some (some (.ref hC))) (g1_Net:PySem.W.plainGet K hC Str.empty=true) (g2_Net:PySem.W.hasDictIn K hC=true) (g3_Net:PySem.W.plainOver K hC=true) (g4_Net:PySem.W.findIn K (.ref hC) "__setattr__"=some (some (.builtin "object.__setattr__"))) (u_Net_many:PySem.W.findIn K (.ref hC) "many"=some none) (u_Net_counts:PySem.W.findIn K (.ref hC) "counts"=some none) (u_Net_joined:PySem.W.findIn K (.ref hC) "joined"=some none) (u_Net_far:PySem.W.findIn K (.ref hC) "far"=some none) (mk_Net:PySem.W.makesIn K hC=true) (kc_Net:PySem.W.keepIn K (.ref hC)=true)
  (n_NoBooks:PySem.W.nsIn K mainGlobals "NoBooks"=some (some (.ref d_)))
  (ct_NoBooks:PySem.W.clsIn K d_=some WC)
  (e1_NoBooks:PySem.W.excIn K d_ [.type "ValueError",.type "Exception",.type "BaseException",.type "object"] "ValueError.__new__"=true)
  (ga_NoBooks:PySem.W.findIn K (.ref d_) "__getattribute__"=some (some (.builtin "BaseException.__getattribute__")))
  (gn_NoBooks:PySem.W.findIn K (.ref d_) "__getattr__"=some none)
  (cl_NoBooks:PySem.W.findIn K (.ref d_) "__class__"=some (some (.builtin "object.__class__")))
  (sb_NoBooks:PySem.W.subIn K (.ref d_) (.type "BaseException")=some true)
  (mo_NoBooks:PySem.W.mroIn K d_ (.type "object")=some true)
  (n_NoSaying:PySem.W.nsIn K mainGlobals "NoSaying"=some (some (.ref ea)))
  (ct_NoSaying:PySem.W.clsIn K ea=some WD)
  (e1_NoSaying:PySem.W.excIn K ea [.type "ValueError",.type "Exception",.type "BaseException",.type "object"] "ValueError.__new__"=true)
  (ga_NoSaying:PySem.W.findIn K (.ref ea) "__getattribute__"=some (some (.builtin "BaseException.__getattribute__")))
  (gn_NoSaying:PySem.W.findIn K (.ref ea) "__getattr__"=some none)
  (cl_NoSaying:PySem.W.findIn K (.ref ea) "__class__"=some (some (.builtin "object.__class__")))
  (sb_NoSaying:PySem.W.subIn K (.ref ea) (.type "BaseException")=some true)
  (mo_NoSaying:PySem.W.mroIn K ea (.type "object")=some true)
  (spc0:PySem.W.specialIn K (.builtin "object.__class__") "__get__"=some (some (.builtin "getset_descriptor.__get__"))) (tkc0:PySem.W.takesIn K (.builtin "object.__class__")=some true)
  (n_NoAddress:PySem.W.nsIn K mainGlobals "NoAddress"=some (some (.ref tX)))
  (ki_NoBooks_NoAddress:PySem.W.kitOne K (.ref d_) (.ref tX)=some false)
  (ki_NoSaying_NoAddress:PySem.W.kitOne K (.ref ea) (.ref tX)=some false)
  (ki_NoBooks_NoBooks:PySem.W.kitOne K (.ref d_) (.ref d_)=some true)
  (ki_NoSaying_NoBooks:PySem.W.kitOne K (.ref ea) (.ref d_)=some false)
  (n_NoDoor:PySem.W.nsIn K mainGlobals "NoDoor"=some (some (.ref tY)))
  (ki_NoBooks_NoDoor:PySem.W.kitOne K (.ref d_) (.ref tY)=some false)
  (ki_NoSaying_NoDoor:PySem.W.kitOne K (.ref ea) (.ref tY)=some false)
  (n_NoMove:PySem.W.nsIn K mainGlobals "NoMove"=some (some (.ref tZ)))
  (ki_NoBooks_NoMove:PySem.W.kitOne K (.ref d_) (.ref tZ)=some false)
  (ki_NoSaying_NoMove:PySem.W.kitOne K (.ref ea) (.ref tZ)=some false)
  (n_NoNet:PySem.W.nsIn K mainGlobals "NoNet"=some (some (.ref t2)))
  (ki_NoBooks_NoNet:PySem.W.kitOne K (.ref d_) (.ref t2)=some false)
  (ki_NoSaying_NoNet:PySem.W.kitOne K (.ref ea) (.ref t2)=some false)
  (n_NoPlan:PySem.W.nsIn K mainGlobals "NoPlan"=some (some (.ref t4)))
  (ki_NoBooks_NoPlan:PySem.W.kitOne K (.ref d_) (.ref t4)=some false)
  (ki_NoSaying_NoPlan:PySem.W.kitOne K (.ref ea) (.ref t4)=some false)
  (n_NoRow:PySem.W.nsIn K mainGlobals "NoRow"=some (some (.ref t5)))
  (ki_NoBooks_NoRow:PySem.W.kitOne K (.ref d_) (.ref t5)=some false)
  (ki_NoSaying_NoRow:PySem.W.kitOne K (.ref ea) (.ref t5)=some false)
  (ki_NoBooks_NoSaying:PySem.W.kitOne K (.ref d_) (.ref ea)=some false)
  (ki_NoSaying_NoSaying:PySem.W.kitOne K (.ref ea) (.ref ea)=some true)
  (n_NoText:PySem.W.nsIn K mainGlobals "NoText"=some (some (.ref t6)))
  (ki_NoBooks_NoText:PySem.W.kitOne K (.ref d_) (.ref t6)=some false)
  (ki_NoSaying_NoText:PySem.W.kitOne K (.ref ea) (.ref t6)=some false)
  (ki_NoBooks_ValueError:PySem.W.kitOne K (.ref d_) (.type "ValueError")=some true)
  (ki_NoSaying_ValueError:PySem.W.kitOne K (.ref ea) (.type "ValueError")=some true)
  (n_WayError:PySem.W.nsIn K mainGlobals "WayError"=some (some (.ref t7)))
  (em_NoBooks_WayError:PySem.W.exmOne K (.ref d_) (.ref t7)=some true)
  (em_NoSaying_WayError:PySem.W.exmOne K (.ref ea) (.ref t7)=some true)
  (h0:dC K "_law_stream" A4)
  (h1:dC K "_law_net" AV)
  (h2:dC K "_law_beyond" AM)
  (h3:dC K "_law_outer" AX)
  (h4:dC K "_law_pattern" AY)
  (h5:dC K "_law_row" A2)
  (h6:dC K "_law_book" AO)
  (h7:dC K "_law_cell_at" AR)
  (h8:dC K "_law_books" AP)
  (h9:dC K "is_pair" AD)
  (h10:dC K "is_whole" AJ)
  (h11:dC K "is_whole_within" AK)
  (h12:dC K "is_door_among" AA)
  (h13:dC K "is_wire_among" AL)
  (h14:dC K "far_doors" Av)
  (h15:dC K "are_counts" As)
  (h16:nt K hC "__init__" "Net.__init__" Ao)
  (h17:dC K "is_pattern" AE)
  (h18:dC K "is_number_or_none" AB)
  (h19:dC K "is_row" AF)
  (h20:dC K "is_book" Ay)
  (h21:nt K hC "count" "Net.count" An)
  (h22:dC K "is_books" Az)
  (h23:dC K "refuse_unless_books" A7)
  (h24:dC K "is_address" Ax)
  (h25:dC K "fits" Aw)
  (h26:dC K "addresses" Ar)
  (h27:dC K "taken" A8)
  (h28:nt K hC "beyond" "Net.beyond" Am)
  (h29:dC K "onward" A6)
  (h30:dC K "walked" A9)
  (h31:dC K "is_so_of" AI)
  (h32:dC K "is_so" AH)
  (h33:dC K "least_broken" A5)
  (h34:nt K hC "is_door" "Net.is_door" Ap)
  (h35:nt K hC "is_outer" "Net.is_outer" Aq)
  (h36:dC K "is_saying" AG)
  (h37:dC K "broken" Au)
  (h38:dC K "_law_refusal" AZ)
  (h39:dC K "_law_refused" A0)
  (h40:dC K "_law_saying" A3)
  (h41:dC K "_law_fits" AS)
  (h42:dC K "_law_next" AW)
  (h43:dC K "_law_road" A1)
  (h44:dC K "_law_is_so" AU)
  (h45:dC K "_law_broken" AQ)
  (h46:dC K "law" oc)
  (z_ValueError:PySem.W.nsIn K mainGlobals "ValueError"=some none)
  (z_all:PySem.W.nsIn K mainGlobals "all"=some none)
  (z_bool:PySem.W.nsIn K mainGlobals "bool"=some none)
  (z_enumerate:PySem.W.nsIn K mainGlobals "enumerate"=some none)
  (z_int:PySem.W.nsIn K mainGlobals "int"=some none)
  (z_isinstance:PySem.W.nsIn K mainGlobals "isinstance"=some none)
  (z_len:PySem.W.nsIn K mainGlobals "len"=some none)
  (z_list:PySem.W.nsIn K mainGlobals "list"=some none)
  (z_max:PySem.W.nsIn K mainGlobals "max"=some none)
  (z_min:PySem.W.nsIn K mainGlobals "min"=some none)
  (z_range:PySem.W.nsIn K mainGlobals "range"=some none)
  (z_str:PySem.W.nsIn K mainGlobals "str"=some none)
  (z_tuple:PySem.W.nsIn K mainGlobals "tuple"=some none)
  (z_zip:PySem.W.nsIn K mainGlobals "zip"=some none)
  (z_GREATEST_ADDRESS:PySem.W.nsIn K mainGlobals "GREATEST_ADDRESS"=some (some (.int 15 UO)))
  (z_MOST_DOORS:PySem.W.nsIn K mainGlobals "MOST_DOORS"=some (some (.int 4 UP)))
  (z_MOST_HOUSES:PySem.W.nsIn K mainGlobals "MOST_HOUSES"=some (some (.int 6 UQ)))
  (z_MOST_ROWS:PySem.W.nsIn K mainGlobals "MOST_ROWS"=some (some (.int 12 UR)))
  (z_SIGNS:PySem.W.nsIn K mainGlobals "SIGNS"=some (some (.ref xJ))) (y_SIGNS:K.lookup xJ=some ⟨.type "tuple",KJ,.seq #[.str (PySem.Str.ofString "0") US,.str (PySem.Str.ofString "1") UT,.str (PySem.Str.ofString "x") UU] Qq,Uk⟩)
  (z_WORTHS:PySem.W.nsIn K mainGlobals "WORTHS"=some (some (.ref xK))) (y_WORTHS:K.lookup xK=some ⟨.type "tuple",KL,.seq #[.int 8 UW,.int 4 UX,.int 2 UY,.int 1 UZ] Qr,Ul⟩):x4 K mg where
 je:=⟨hC,n_Net,⟨g1_Net,g2_Net,g3_Net,g4_Net⟩,(List.forall_mem_cons.2 ⟨u_Net_many,(List.forall_mem_cons.2 ⟨u_Net_counts,(List.forall_mem_cons.2 ⟨u_Net_joined,(List.forall_mem_cons.2 ⟨u_Net_far,(fun _ h=>absurd h List.not_mem_nil)⟩)⟩)⟩)⟩)⟩
 IT:=⟨⟨d_,n_NoBooks,PySem.W.mg_of X G n_NoBooks,e1_NoBooks⟩⟩
 IU:=⟨⟨ea,n_NoSaying,PySem.W.mg_of X G n_NoSaying,e1_NoSaying⟩⟩
 Ip:=⟨⟨tX,PySem.W.mg_of X G n_NoAddress,⟨spc0,tkc0,(gJ ⟨d_,n_NoBooks,⟨ga_NoBooks,gn_NoBooks,cl_NoBooks,sb_NoBooks,mo_NoBooks,(by rw [ct_NoBooks]; rfl)⟩,ki_NoBooks_NoAddress⟩ (gJ ⟨ea,n_NoSaying,⟨ga_NoSaying,gn_NoSaying,cl_NoSaying,sb_NoSaying,mo_NoSaying,(by rw [ct_NoSaying]; rfl)⟩,ki_NoSaying_NoAddress⟩ lM))⟩⟩⟩
 Iq:=⟨⟨d_,PySem.W.mg_of X G n_NoBooks,⟨spc0,tkc0,(gJ ⟨d_,n_NoBooks,⟨ga_NoBooks,gn_NoBooks,cl_NoBooks,sb_NoBooks,mo_NoBooks,(by rw [ct_NoBooks]; rfl)⟩,ki_NoBooks_NoBooks⟩ (gJ ⟨ea,n_NoSaying,⟨ga_NoSaying,gn_NoSaying,cl_NoSaying,sb_NoSaying,mo_NoSaying,(by rw [ct_NoSaying]; rfl)⟩,ki_NoSaying_NoBooks⟩ lM))⟩⟩⟩
 Ir:=⟨⟨tY,PySem.W.mg_of X G n_NoDoor,⟨spc0,tkc0,(gJ ⟨d_,n_NoBooks,⟨ga_NoBooks,gn_NoBooks,cl_NoBooks,sb_NoBooks,mo_NoBooks,(by rw [ct_NoBooks]; rfl)⟩,ki_NoBooks_NoDoor⟩ (gJ ⟨ea,n_NoSaying,⟨ga_NoSaying,gn_NoSaying,cl_NoSaying,sb_NoSaying,mo_NoSaying,(by rw [ct_NoSaying]; rfl)⟩,ki_NoSaying_NoDoor⟩ lM))⟩⟩⟩
 Iu:=⟨⟨tZ,PySem.W.mg_of X G n_NoMove,⟨spc0,tkc0,(gJ ⟨d_,n_NoBooks,⟨ga_NoBooks,gn_NoBooks,cl_NoBooks,sb_NoBooks,mo_NoBooks,(by rw [ct_NoBooks]; rfl)⟩,ki_NoBooks_NoMove⟩ (gJ ⟨ea,n_NoSaying,⟨ga_NoSaying,gn_NoSaying,cl_NoSaying,sb_NoSaying,mo_NoSaying,(by rw [ct_NoSaying]; rfl)⟩,ki_NoSaying_NoMove⟩ lM))⟩⟩⟩
 Iv:=⟨⟨t2,PySem.W.mg_of X G n_NoNet,⟨spc0,tkc0,(gJ ⟨d_,n_NoBooks,⟨ga_NoBooks,gn_NoBooks,cl_NoBooks,sb_NoBooks,mo_NoBooks,(by rw [ct_NoBooks]; rfl)⟩,ki_NoBooks_NoNet⟩ (gJ ⟨ea,n_NoSaying,⟨ga_NoSaying,gn_NoSaying,cl_NoSaying,sb_NoSaying,mo_NoSaying,(by rw [ct_NoSaying]; rfl)⟩,ki_NoSaying_NoNet⟩ lM))⟩⟩⟩
 Iw:=⟨⟨t4,PySem.W.mg_of X G n_NoPlan,⟨spc0,tkc0,(gJ ⟨d_,n_NoBooks,⟨ga_NoBooks,gn_NoBooks,cl_NoBooks,sb_NoBooks,mo_NoBooks,(by rw [ct_NoBooks]; rfl)⟩,ki_NoBooks_NoPlan⟩ (gJ ⟨ea,n_NoSaying,⟨ga_NoSaying,gn_NoSaying,cl_NoSaying,sb_NoSaying,mo_NoSaying,(by rw [ct_NoSaying]; rfl)⟩,ki_NoSaying_NoPlan⟩ lM))⟩⟩⟩
 Iy:=⟨⟨t5,PySem.W.mg_of X G n_NoRow,⟨spc0,tkc0,(gJ ⟨d_,n_NoBooks,⟨ga_NoBooks,gn_NoBooks,cl_NoBooks,sb_NoBooks,mo_NoBooks,(by rw [ct_NoBooks]; rfl)⟩,ki_NoBooks_NoRow⟩ (gJ ⟨ea,n_NoSaying,⟨ga_NoSaying,gn_NoSaying,cl_NoSaying,sb_NoSaying,mo_NoSaying,(by rw [ct_NoSaying]; rfl)⟩,ki_NoSaying_NoRow⟩ lM))⟩⟩⟩
 Iz:=⟨⟨ea,PySem.W.mg_of X G n_NoSaying,⟨spc0,tkc0,(gJ ⟨d_,n_NoBooks,⟨ga_NoBooks,gn_NoBooks,cl_NoBooks,sb_NoBooks,mo_NoBooks,(by rw [ct_NoBooks]; rfl)⟩,ki_NoBooks_NoSaying⟩ (gJ ⟨ea,n_NoSaying,⟨ga_NoSaying,gn_NoSaying,cl_NoSaying,sb_NoSaying,mo_NoSaying,(by rw [ct_NoSaying]; rfl)⟩,ki_NoSaying_NoSaying⟩ lM))⟩⟩⟩
 IA:=⟨⟨t6,PySem.W.mg_of X G n_NoText,⟨spc0,tkc0,(gJ ⟨d_,n_NoBooks,⟨ga_NoBooks,gn_NoBooks,cl_NoBooks,sb_NoBooks,mo_NoBooks,(by rw [ct_NoBooks]; rfl)⟩,ki_NoBooks_NoText⟩ (gJ ⟨ea,n_NoSaying,⟨ga_NoSaying,gn_NoSaying,cl_NoSaying,sb_NoSaying,mo_NoSaying,(by rw [ct_NoSaying]; rfl)⟩,ki_NoSaying_NoText⟩ lM))⟩⟩⟩
 IB:=⟨spc0,tkc0,(gJ ⟨d_,n_NoBooks,⟨ga_NoBooks,gn_NoBooks,cl_NoBooks,sb_NoBooks,mo_NoBooks,(by rw [ct_NoBooks]; rfl)⟩,ki_NoBooks_ValueError⟩ (gJ ⟨ea,n_NoSaying,⟨ga_NoSaying,gn_NoSaying,cl_NoSaying,sb_NoSaying,mo_NoSaying,(by rw [ct_NoSaying]; rfl)⟩,ki_NoSaying_ValueError⟩ lM))⟩
 Ib:=⟨⟨t7,PySem.W.mg_of X G n_WayError,(De ⟨d_,n_NoBooks,em_NoBooks_WayError⟩ (De ⟨ea,n_NoSaying,em_NoSaying_WayError⟩ Kv))⟩⟩
 Ej:=dF X G h0 fun _ _ _ _ _ _ us hl=>match us,hl with | [_,_,_],_=>rfl
 Ea:=dF X G h1 fun _ _ _ _ _ _ us hl=>match us,hl with | [_,_],_=>rfl
 D4:=dF X G h2 fun _ _ _ _ _ _ us hl=>match us,hl with | [_],_=>rfl
 Ec:=dF X G h3 fun _ _ _ _ _ _ us hl=>match us,hl with | [_,_],_=>rfl
 Ed:=dF X G h4 fun _ _ _ _ _ _ us hl=>match us,hl with | [_],_=>rfl
 Eh:=dF X G h5 fun _ _ _ _ _ _ us hl=>match us,hl with | [_,_],_=>rfl
 D5:=dF X G h6 fun _ _ _ _ _ _ us hl=>match us,hl with | [_,_,_,_],_=>rfl
 D8:=dF X G h7 fun _ _ _ _ _ _ us hl=>match us,hl with | [_,_],_=>rfl
 D6:=dF X G h8 fun _ _ _ _ _ _ us hl=>match us,hl with | [_,_,_,_],_=>rfl
 DV:=dF X G h9 fun _ _ _ _ _ _ us hl=>match us,hl with | [_],_=>rfl
 D1:=dF X G h10 fun _ _ _ _ _ _ us hl=>match us,hl with | [_],_=>rfl
 D2:=dF X G h11 fun _ _ _ _ _ _ us hl=>match us,hl with | [_,_,_],_=>rfl
 DT:=dF X G h12 fun _ _ _ _ _ _ us hl=>match us,hl with | [_,_],_=>rfl
 D3:=dF X G h13 fun _ _ _ _ _ _ us hl=>match us,hl with | [_,_],_=>rfl
 DO:=dF X G h14 fun _ _ _ _ _ _ us hl=>match us,hl with | [_,_],_=>rfl
 DM:=dF X G h15 fun _ _ _ _ _ _ us hl=>match us,hl with | [_],_=>rfl
 DI:=Qi X G n_Net mk_Net kc_Net h16 fun _ _ _ _ _ _ us hl=>match us,hl with | [_,_,_],_=>rfl
 DW:=dF X G h17 fun _ _ _ _ _ _ us hl=>match us,hl with | [_],_=>rfl
 DU:=dF X G h18 fun _ _ _ _ _ _ us hl=>match us,hl with | [_,_],_=>rfl
 DX:=dF X G h19 fun _ _ _ _ _ _ us hl=>match us,hl with | [_,_],_=>rfl
 DR:=dF X G h20 fun _ _ _ _ _ _ us hl=>match us,hl with | [_,_],_=>rfl
 DH:=wt n_Net g1_Net g2_Net g3_Net g4_Net h21 fun _ _ _ _ _ _ us hl=>match us,hl with | [_,_],_=>rfl
 DS:=dF X G h22 fun _ _ _ _ _ _ us hl=>match us,hl with | [_,_],_=>rfl
 En:=dF X G h23 fun _ _ _ _ _ _ us hl=>match us,hl with | [_,_],_=>rfl
 DQ:=dF X G h24 fun _ _ _ _ _ _ us hl=>match us,hl with | [_],_=>rfl
 DP:=dF X G h25 fun _ _ _ _ _ _ us hl=>match us,hl with | [_,_],_=>rfl
 DL:=dF X G h26 fun _ _ _ _ _ _ us hl=>match us,hl with | [_],_=>rfl
 Eo:=dF X G h27 fun _ _ _ _ _ _ us hl=>match us,hl with | [_,_,_],_=>rfl
 DG:=wt n_Net g1_Net g2_Net g3_Net g4_Net h28 fun _ _ _ _ _ _ us hl=>match us,hl with | [_,_],_=>rfl
 Em:=dF X G h29 fun _ _ _ _ _ _ us hl=>match us,hl with | [_,_,_,_],_=>rfl
 Ep:=dF X G h30 fun _ _ _ _ _ _ us hl=>match us,hl with | [_,_,_,_],_=>rfl
 D0:=dF X G h31 fun _ _ _ _ _ _ us hl=>match us,hl with | [_,_,_],_=>rfl
 DZ:=dF X G h32 fun _ _ _ _ _ _ us hl=>match us,hl with | [_,_,_,_],_=>rfl
 Ek:=dF X G h33 fun _ _ _ _ _ _ us hl=>match us,hl with | [_,_,_],_=>rfl
 DJ:=wt n_Net g1_Net g2_Net g3_Net g4_Net h34 fun _ _ _ _ _ _ us hl=>match us,hl with | [_,_],_=>rfl
 DK:=wt n_Net g1_Net g2_Net g3_Net g4_Net h35 fun _ _ _ _ _ _ us hl=>match us,hl with | [_,_],_=>rfl
 DY:=dF X G h36 fun _ _ _ _ _ _ us hl=>match us,hl with | [_,_],_=>rfl
 DN:=dF X G h37 fun _ _ _ _ _ _ us hl=>match us,hl with | [_,_,_],_=>rfl
 Ee:=dF X G h38 fun _ _ _ _ _ _ us hl=>match us,hl with | [_,_,_],_=>rfl
 Ef:=dF X G h39 fun _ _ _ _ _ _ us hl=>match us,hl with | [_,_,_,_,_],_=>rfl
 Ei:=dF X G h40 fun _ _ _ _ _ _ us hl=>match us,hl with | [_,_,_],_=>rfl
 D9:=dF X G h41 fun _ _ _ _ _ _ us hl=>match us,hl with | [_,_],_=>rfl
 Eb:=dF X G h42 fun _ _ _ _ _ _ us hl=>match us,hl with | [_,_,_,_],_=>rfl
 Eg:=dF X G h43 fun _ _ _ _ _ _ us hl=>match us,hl with | [_,_,_,_],_=>rfl
 D_:=dF X G h44 fun _ _ _ _ _ _ us hl=>match us,hl with | [_,_,_,_],_=>rfl
 D7:=dF X G h45 fun _ _ _ _ _ _ us hl=>match us,hl with | [_,_,_],_=>rfl
 Mb:=dF X G h46 fun _ _ _ _ _ _ us hl=>match us,hl with | [_],_=>rfl
 Cq:=PySem.W.mg_none_of X G z_ValueError
 qg:=PySem.W.mg_none_of X G z_all
 ye:=PySem.W.mg_none_of X G z_bool
 yf:=PySem.W.mg_none_of X G z_enumerate
 Ct:=PySem.W.mg_none_of X G z_int
 fH:=PySem.W.mg_none_of X G z_isinstance
 eW:=PySem.W.mg_none_of X G z_len
 nC:=PySem.W.mg_none_of X G z_list
 CA:=PySem.W.mg_none_of X G z_max
 yg:=PySem.W.mg_none_of X G z_min
 hT:=PySem.W.mg_none_of X G z_range
 u6:=PySem.W.mg_none_of X G z_str
 qi:=PySem.W.mg_none_of X G z_tuple
 CC:=PySem.W.mg_none_of X G z_zip
 oT:=⟨⟨_,_,PySem.W.mg_of X G z_GREATEST_ADDRESS,(ob _ _),fun _=>(nA _)⟩⟩
 ql:=⟨⟨_,_,PySem.W.mg_of X G z_MOST_DOORS,(ob _ _),fun _=>(nA _)⟩⟩
 oU:=⟨⟨_,_,PySem.W.mg_of X G z_MOST_HOUSES,(ob _ _),fun _=>(nA _)⟩⟩
 qm:=⟨⟨_,_,PySem.W.mg_of X G z_MOST_ROWS,(ob _ _),fun _=>(nA _)⟩⟩
 rX:=⟨⟨.ref xJ,_,PySem.W.mg_of X G z_SIGNS,rfl,Ij y_SIGNS (Nat.le_of_ble_eq_true rfl) (.cons (Aj _ _) (.cons (Aj _ _) (.cons (Aj _ _) .nil))) fun _=>(.cons (x8 _) (.cons (x8 _) (.cons (x8 _) .nil)))⟩⟩
 oV:=⟨⟨.ref xK,_,PySem.W.mg_of X G z_WORTHS,rfl,Ij y_WORTHS (Nat.le_of_ble_eq_true rfl) (.cons (ob _ _) (.cons (ob _ _) (.cons (ob _ _) (.cons (ob _ _) .nil)))) fun _=>(.cons (nA _) (.cons (nA _) (.cons (nA _) (.cons (nA _) .nil))))⟩⟩
set_option maxHeartbeats 4000000 in
theorem all_mk {l:PySem.W.OpenLaw} {w:World} {K:PySem.W.Frag} {h:Heap} {mg:Str→Option Value} {fA:Addr} (X:K.In h) (G:h.Ns mainGlobals mg) (MK:mg "law"=some (.ref fA)) (F:dC K "law" oc) (T:x4 K mg) :
  ∃fd:FuncData,(∀(s:Shared) (v:Value),BindsTo s fd ⟨[v],[]⟩ [("_law_script",v)])∧∀base:Heap,K.In base→base.Ns mainGlobals mg→g7 l.prog w K mg base gP 13 fA fd ["_law_script"] (mT K 1 qW):=by
 obtain ⟨f,dM,an,cB,eT,cX,jv,pm,cd,cL,a,lk,c,k⟩:=F.ex
 have e:=MK.symm.trans (PySem.W.mg_of X G a)
 cases e
 exact ⟨_,fun s v=> .of_eq rfl,fun base _ _=>Wh (o6 (st:=oc) lk c k) jj (J4 T)⟩
theorem P2 (K:PySem.W.Frag) (H:ao) (a:Addr) (ns:List Int) (kH:b4 K H a (ns.map V.int)):mT K 1 qW [.ref a] H (fun v _=>v= .aw true) (fun _ _ _=>False):=
 PY (K:=K) (mf:=qW) (H:=H) (a:=a) (ns:=ns) kH (PZ ns) (fun _ _ _=>False)
theorem VJ {l:PySem.W.OpenLaw} {q:Program} {loose:List Str} {p7:(Str→Option Value)→Heap→Prop} {nz:World→Heap→Prop} {d:DefRec} {K:Params→PySem.W.Frag} (aC:l.most=some 63) (sm:d.params.defaults=[])
  (y0:∀(w:World) (h:Heap),nz w h→(K w.params).In h)
  (F:∀(w:World) (mg:Str→Option Value) (fA:Addr) (h:Heap),(K w.params).In h→h.Ns mainGlobals mg→mg d.name=some (.ref fA)→
    ∃fd:FuncData,(∀(s:Shared) (u:Value),BindsTo s fd ⟨[u],[]⟩ [("_law_script",u)])∧∀base:Heap,(K w.params).In base→base.Ns mainGlobals mg→g7 l.prog w (K w.params) mg base gP 13 fA fd ["_law_script"] (mT (K w.params) 1 qW)) :
  PySem.W.WalkO q loose p7 nz l.row.toRowW d [] (fun f vs=>PySem.call f vs):=
 bb.VK (n:=63) (k:=13) (x:="_law_script") (CX:=fun _=>gP) (sp:=fun w=>mT (K w.params) 1 qW) aC (by decide) sm ⟨rfl,by decide,by decide⟩ y0 F (fun w H a ns _ _ kH=>P2 (K w.params) H a ns kH) fun _ _ _ _ _ z=>z
end bU
set_option Elab.async false
set_option linter.all false
set_option maxRecDepth 100000
namespace PySem.W.Fast
theorem tw12893916926932909038 : True := trivial
theorem tw10177557067754857749 : True := trivial
theorem tw9023909074189645046 : True := trivial
theorem tw8786603364568284062 : True := trivial
theorem tw11054685084531359971 : True := trivial
theorem tw14292095513124074177 : True := trivial
theorem tw16028991334696446064 : True := trivial
theorem tw6670358245368213899 : True := trivial
theorem tw12766047295584593788 : True := trivial
theorem tw4841085884858469266 : True := trivial
theorem tw9032600641309716007 : True := trivial
theorem tw16743025239197085979 : True := trivial
theorem tw2662683226739599149 : True := trivial
theorem tw10520298218534847686 : True := trivial
theorem tw6818162288469317891 : True := trivial
theorem tw17915379835218062015 : True := trivial
theorem tw8246792765702015888 : True := trivial
theorem tw18246220672960431219 : True := trivial
theorem tw9986344254235004619 : True := trivial
theorem tw15296517425895844836 : True := trivial
theorem tw7720058051246936259 : True := trivial
theorem tw5197742328423411668 : True := trivial
theorem tw3631732872023904973 : True := trivial
theorem tw8377771940028608126 : True := trivial
theorem tw485761391128012564 : True := trivial
theorem tw11695145235079640705 : True := trivial
theorem tw7308820119754760122 : True := trivial
theorem tw15680531272557048747 : True := trivial
theorem tw2356020183333157517 : True := trivial
theorem tw12330533590216414069 : True := trivial
theorem tw10319952711828101097 : True := trivial
theorem tw6262376887171380696 : True := trivial
theorem tw9582901487206223831 : True := trivial
theorem tw17715487334699914838 : True := trivial
end PySem.W.Fast
open PySem PySem.W PyProof.Rows
set_option maxRecDepth 100000 in
set_option maxHeartbeats 0 in
theorem PySem.Challenge.cw_nohalfway_k12_sayings_broken_holds : PySem.Challenge.rw_nohalfway_k12_sayings_broken.Holds := by
 w_on; o_law; k_head; (case hw=>w_witness2)
 k_fill
 refine bU.VJ (l:=PySem.Challenge.rw_nohalfway_k12_sayings_broken) rfl rfl (fun w h Y=>PySem.W.kIn_of Y) ?F
 case F=>
  intro w mg fA h kx G sq
  refine' bU.all_mk kx G sq ?h46 (bU.Vq kx G ?n_Net ?g1_Net ?g2_Net ?g3_Net ?g4_Net ?u_Net_many ?u_Net_counts ?u_Net_joined ?u_Net_far ?mk_Net ?kc_Net ?n_NoBooks ?ct_NoBooks ?e1_NoBooks ?ga_NoBooks ?gn_NoBooks ?cl_NoBooks ?sb_NoBooks ?mo_NoBooks ?n_NoSaying ?ct_NoSaying ?e1_NoSaying ?ga_NoSaying ?gn_NoSaying ?cl_NoSaying ?sb_NoSaying ?mo_NoSaying ?spc0 ?tkc0 ?n_NoAddress ?ki_NoBooks_NoAddress ?ki_NoSaying_NoAddress ?ki_NoBooks_NoBooks ?ki_NoSaying_NoBooks ?n_NoDoor ?ki_NoBooks_NoDoor ?ki_NoSaying_NoDoor ?n_NoMove ?ki_NoBooks_NoMove ?ki_NoSaying_NoMove ?n_NoNet ?ki_NoBooks_NoNet ?ki_NoSaying_NoNet ?n_NoPlan ?ki_NoBooks_NoPlan ?ki_NoSaying_NoPlan ?n_NoRow ?ki_NoBooks_NoRow ?ki_NoSaying_NoRow ?ki_NoBooks_NoSaying ?ki_NoSaying_NoSaying ?n_NoText ?ki_NoBooks_NoText ?ki_NoSaying_NoText ?ki_NoBooks_ValueError ?ki_NoSaying_ValueError ?n_WayError ?em_NoBooks_WayError ?em_NoSaying_WayError ?h0 ?h1 ?h2 ?h3 ?h4 ?h5 ?h6 ?h7 ?h8 ?h9 ?h10 ?h11 ?h12 ?h13 ?h14 ?h15 ?h16 ?h17 ?h18 ?h19 ?h20 ?h21 ?h22 ?h23 ?h24 ?h25 ?h26 ?h27 ?h28 ?h29 ?h30 ?h31 ?h32 ?h33 ?h34 ?h35 ?h36 ?h37 ?h38 ?h39 ?h40 ?h41 ?h42 ?h43 ?h44 ?h45 ?h46 ?z_ValueError ?z_all ?z_bool ?z_enumerate ?z_int ?z_isinstance ?z_len ?z_list ?z_max ?z_min ?z_range ?z_str ?z_tuple ?z_zip ?z_GREATEST_ADDRESS ?z_MOST_DOORS ?z_MOST_HOUSES ?z_MOST_ROWS ?z_SIGNS ?y_SIGNS ?z_WORTHS ?y_WORTHS)
  (case n_Net=>k_is)
  (case g1_Net=>k_is)
  (case g2_Net=>k_is)
  (case g3_Net=>k_is)
  (case g4_Net=>k_is)
  (case u_Net_many=>k_is)
  (case u_Net_counts=>k_is)
  (case u_Net_joined=>k_is)
  (case u_Net_far=>k_is)
  (case mk_Net=>k_is)
  (case kc_Net=>k_is)
  (case n_NoBooks=>k_is)
  (case ct_NoBooks=>k_is)
  (case e1_NoBooks=>k_exc)
  (case ga_NoBooks=>k_is)
  (case gn_NoBooks=>k_is)
  (case cl_NoBooks=>k_is)
  (case sb_NoBooks=>k_is)
  (case mo_NoBooks=>k_is)
  (case n_NoSaying=>k_is)
  (case ct_NoSaying=>k_is)
  (case e1_NoSaying=>k_exc)
  (case ga_NoSaying=>k_is)
  (case gn_NoSaying=>k_is)
  (case cl_NoSaying=>k_is)
  (case sb_NoSaying=>k_is)
  (case mo_NoSaying=>k_is)
  (case spc0=>k_is)
  (case tkc0=>k_is)
  (case n_NoAddress=>k_is)
  (case ki_NoBooks_NoAddress=>kit_is)
  (case ki_NoSaying_NoAddress=>kit_is)
  (case ki_NoBooks_NoBooks=>kit_is)
  (case ki_NoSaying_NoBooks=>kit_is)
  (case n_NoDoor=>k_is)
  (case ki_NoBooks_NoDoor=>kit_is)
  (case ki_NoSaying_NoDoor=>kit_is)
  (case n_NoMove=>k_is)
  (case ki_NoBooks_NoMove=>kit_is)
  (case ki_NoSaying_NoMove=>kit_is)
  (case n_NoNet=>k_is)
  (case ki_NoBooks_NoNet=>kit_is)
  (case ki_NoSaying_NoNet=>kit_is)
  (case n_NoPlan=>k_is)
  (case ki_NoBooks_NoPlan=>kit_is)
  (case ki_NoSaying_NoPlan=>kit_is)
  (case n_NoRow=>k_is)
  (case ki_NoBooks_NoRow=>kit_is)
  (case ki_NoSaying_NoRow=>kit_is)
  (case ki_NoBooks_NoSaying=>kit_is)
  (case ki_NoSaying_NoSaying=>kit_is)
  (case n_NoText=>k_is)
  (case ki_NoBooks_NoText=>kit_is)
  (case ki_NoSaying_NoText=>kit_is)
  (case ki_NoBooks_ValueError=>kit_is)
  (case ki_NoSaying_ValueError=>kit_is)
  (case n_WayError=>k_is)
  (case em_NoBooks_WayError=>kts_exm)
  (case em_NoSaying_WayError=>kts_exm)
  (case z_ValueError=>k_is)
  (case z_all=>k_is)
  (case z_bool=>k_is)
  (case z_enumerate=>k_is)
  (case z_int=>k_is)
  (case z_isinstance=>k_is)
  (case z_len=>k_is)
  (case z_list=>k_is)
  (case z_max=>k_is)
  (case z_min=>k_is)
  (case z_range=>k_is)
  (case z_str=>k_is)
  (case z_tuple=>k_is)
  (case z_zip=>k_is)
  (case z_GREATEST_ADDRESS=>k_is)
  (case z_MOST_DOORS=>k_is)
  (case z_MOST_HOUSES=>k_is)
  (case z_MOST_ROWS=>k_is)
  (case z_SIGNS=>k_is)
  (case y_SIGNS=>k_is)
  (case z_WORTHS=>k_is)
  (case y_WORTHS=>k_is)
  (case h0=>(refine' bU.dG ?a ?l ?c ?k; (case a=>k_is); (case l=>k_is); (case c=>k_is); (case k=>k_is)))
  (case h1=>(refine' bU.dG ?a ?l ?c ?k; (case a=>k_is); (case l=>k_is); (case c=>k_is); (case k=>k_is)))
  (case h2=>(refine' bU.dG ?a ?l ?c ?k; (case a=>k_is); (case l=>k_is); (case c=>k_is); (case k=>k_is)))
  (case h3=>(refine' bU.dG ?a ?l ?c ?k; (case a=>k_is); (case l=>k_is); (case c=>k_is); (case k=>k_is)))
  (case h4=>(refine' bU.dG ?a ?l ?c ?k; (case a=>k_is); (case l=>k_is); (case c=>k_is); (case k=>k_is)))
  (case h5=>(refine' bU.dG ?a ?l ?c ?k; (case a=>k_is); (case l=>k_is); (case c=>k_is); (case k=>k_is)))
  (case h6=>(refine' bU.dG ?a ?l ?c ?k; (case a=>k_is); (case l=>k_is); (case c=>k_is); (case k=>k_is)))
  (case h7=>(refine' bU.dG ?a ?l ?c ?k; (case a=>k_is); (case l=>k_is); (case c=>k_is); (case k=>k_is)))
  (case h8=>(refine' bU.dG ?a ?l ?c ?k; (case a=>k_is); (case l=>k_is); (case c=>k_is); (case k=>k_is)))
  (case h9=>(refine' bU.dG ?a ?l ?c ?k; (case a=>k_is); (case l=>k_is); (case c=>k_is); (case k=>k_is)))
  (case h10=>(refine' bU.dG ?a ?l ?c ?k; (case a=>k_is); (case l=>k_is); (case c=>k_is); (case k=>k_is)))
  (case h11=>(refine' bU.dG ?a ?l ?c ?k; (case a=>k_is); (case l=>k_is); (case c=>k_is); (case k=>k_is)))
  (case h12=>(refine' bU.dG ?a ?l ?c ?k; (case a=>k_is); (case l=>k_is); (case c=>k_is); (case k=>k_is)))
  (case h13=>(refine' bU.dG ?a ?l ?c ?k; (case a=>k_is); (case l=>k_is); (case c=>k_is); (case k=>k_is)))
  (case h14=>(refine' bU.dG ?a ?l ?c ?k; (case a=>k_is); (case l=>k_is); (case c=>k_is); (case k=>k_is)))
  (case h15=>(refine' bU.dG ?a ?l ?c ?k; (case a=>k_is); (case l=>k_is); (case c=>k_is); (case k=>k_is)))
  (case h16=>(refine' bU.s8 ?a ?l ?c ?k ?i; (case a=>k_is); (case l=>k_is); (case c=>k_is); (case k=>k_is); (case i=>k_is)))
  (case h17=>(refine' bU.dG ?a ?l ?c ?k; (case a=>k_is); (case l=>k_is); (case c=>k_is); (case k=>k_is)))
  (case h18=>(refine' bU.dG ?a ?l ?c ?k; (case a=>k_is); (case l=>k_is); (case c=>k_is); (case k=>k_is)))
  (case h19=>(refine' bU.dG ?a ?l ?c ?k; (case a=>k_is); (case l=>k_is); (case c=>k_is); (case k=>k_is)))
  (case h20=>(refine' bU.dG ?a ?l ?c ?k; (case a=>k_is); (case l=>k_is); (case c=>k_is); (case k=>k_is)))
  (case h21=>(refine' bU.s8 ?a ?l ?c ?k ?i; (case a=>k_is); (case l=>k_is); (case c=>k_is); (case k=>k_is); (case i=>k_is)))
  (case h22=>(refine' bU.dG ?a ?l ?c ?k; (case a=>k_is); (case l=>k_is); (case c=>k_is); (case k=>k_is)))
  (case h23=>(refine' bU.dG ?a ?l ?c ?k; (case a=>k_is); (case l=>k_is); (case c=>k_is); (case k=>k_is)))
  (case h24=>(refine' bU.dG ?a ?l ?c ?k; (case a=>k_is); (case l=>k_is); (case c=>k_is); (case k=>k_is)))
  (case h25=>(refine' bU.dG ?a ?l ?c ?k; (case a=>k_is); (case l=>k_is); (case c=>k_is); (case k=>k_is)))
  (case h26=>(refine' bU.dG ?a ?l ?c ?k; (case a=>k_is); (case l=>k_is); (case c=>k_is); (case k=>k_is)))
  (case h27=>(refine' bU.dG ?a ?l ?c ?k; (case a=>k_is); (case l=>k_is); (case c=>k_is); (case k=>k_is)))
  (case h28=>(refine' bU.s8 ?a ?l ?c ?k ?i; (case a=>k_is); (case l=>k_is); (case c=>k_is); (case k=>k_is); (case i=>k_is)))
  (case h29=>(refine' bU.dG ?a ?l ?c ?k; (case a=>k_is); (case l=>k_is); (case c=>k_is); (case k=>k_is)))
  (case h30=>(refine' bU.dG ?a ?l ?c ?k; (case a=>k_is); (case l=>k_is); (case c=>k_is); (case k=>k_is)))
  (case h31=>(refine' bU.dG ?a ?l ?c ?k; (case a=>k_is); (case l=>k_is); (case c=>k_is); (case k=>k_is)))
  (case h32=>(refine' bU.dG ?a ?l ?c ?k; (case a=>k_is); (case l=>k_is); (case c=>k_is); (case k=>k_is)))
  (case h33=>(refine' bU.dG ?a ?l ?c ?k; (case a=>k_is); (case l=>k_is); (case c=>k_is); (case k=>k_is)))
  (case h34=>(refine' bU.s8 ?a ?l ?c ?k ?i; (case a=>k_is); (case l=>k_is); (case c=>k_is); (case k=>k_is); (case i=>k_is)))
  (case h35=>(refine' bU.s8 ?a ?l ?c ?k ?i; (case a=>k_is); (case l=>k_is); (case c=>k_is); (case k=>k_is); (case i=>k_is)))
  (case h36=>(refine' bU.dG ?a ?l ?c ?k; (case a=>k_is); (case l=>k_is); (case c=>k_is); (case k=>k_is)))
  (case h37=>(refine' bU.dG ?a ?l ?c ?k; (case a=>k_is); (case l=>k_is); (case c=>k_is); (case k=>k_is)))
  (case h38=>(refine' bU.dG ?a ?l ?c ?k; (case a=>k_is); (case l=>k_is); (case c=>k_is); (case k=>k_is)))
  (case h39=>(refine' bU.dG ?a ?l ?c ?k; (case a=>k_is); (case l=>k_is); (case c=>k_is); (case k=>k_is)))
  (case h40=>(refine' bU.dG ?a ?l ?c ?k; (case a=>k_is); (case l=>k_is); (case c=>k_is); (case k=>k_is)))
  (case h41=>(refine' bU.dG ?a ?l ?c ?k; (case a=>k_is); (case l=>k_is); (case c=>k_is); (case k=>k_is)))
  (case h42=>(refine' bU.dG ?a ?l ?c ?k; (case a=>k_is); (case l=>k_is); (case c=>k_is); (case k=>k_is)))
  (case h43=>(refine' bU.dG ?a ?l ?c ?k; (case a=>k_is); (case l=>k_is); (case c=>k_is); (case k=>k_is)))
  (case h44=>(refine' bU.dG ?a ?l ?c ?k; (case a=>k_is); (case l=>k_is); (case c=>k_is); (case k=>k_is)))
  (case h45=>(refine' bU.dG ?a ?l ?c ?k; (case a=>k_is); (case l=>k_is); (case c=>k_is); (case k=>k_is)))
  (case h46=>(refine' bU.dG ?a ?l ?c ?k; (case a=>k_is); (case l=>k_is); (case c=>k_is); (case k=>k_is)))
