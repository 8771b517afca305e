import PyProof.Rows.All
import Wide.All
import OpenK.AllK
import Wide.FinOn
import Lean
import PyProof.EqAt
import PyProof.EqKinds
import PyProof.TupleCall
import PyProof.NeKinds
import KE.KIsAll
import PyProof.ExcArgsOwn
import PySem.SetOps
import PyProof.TupleKey
import PyProof.SetKind
import PyProof.IsRules
import PyProof.Rows.SetFrom
import PyProof.Rows.SortShellK
import PyProof.DictKinds
import PyProof.FactsAll.tuple_2
import PyProof.SetRoads
import PyProof.AutoListH
import KE.RegKIsAll
import KE.RegKTryMore
import PySem.Challenge.RW_nohalfway_k21_plans_or_not
set_option Elab.async false
set_option linter.all false
set_option maxRecDepth 100000
namespace L2
open PySem PySem.Spec PyProof.Rows
abbrev Key := Sum Int Str
def keyIs : Key → Value → Bool
  | .inl k, v => Value.isInt k v
  | .inr x, v => Value.isStrOf x v
def keyH (w : World) : Key → Int
  | .inl k => hashInt k
  | .inr x => hashStr w x
theorem keyIs_shape : ∀ {k : Key} {v : Value}, keyIs k v = true → (∃ i t, k = Sum.inl i ∧ v = Value.int i t) ∨ (∃ x t, k = Sum.inr x ∧ v = Value.str x t)
  | .inl i, v, h => by
    obtain ⟨t, e⟩ := Value.isInt_shape (k := i) (v := v) h
    exact .inl ⟨i, t, rfl, e⟩
  | .inr x, v, h => by
    obtain ⟨t, e⟩ := Value.isStrOf_shape (x := x) (v := v) h
    exact .inr ⟨x, t, rfl, e⟩
theorem keyIs_int (i : Int) (t : Tok) : keyIs (.inl i) (.int i t) = true := by simp [keyIs, Value.isInt]
theorem keyIs_str (x : Str) (t : Tok) : keyIs (.inr x) (.str x t) = true := by simp [keyIs, Value.isStrOf]
theorem key_ll (a b : Int) : decide ((Sum.inl a : Key) = Sum.inl b) = (a == b) := by
  by_cases e : a = b
  · subst e; simp
  · have h : ¬ (Sum.inl a : Key) = Sum.inl b := fun q => e (Sum.inl.inj q)
    rw [decide_eq_false h]
    exact (beq_eq_false_iff_ne.mpr e).symm
theorem key_rr (a b : Str) : decide ((Sum.inr a : Key) = Sum.inr b) = decide (a = b) := by
  by_cases e : a = b
  · subst e; simp
  · have h : ¬ (Sum.inr a : Key) = Sum.inr b := fun q => e (Sum.inr.inj q)
    rw [decide_eq_false h, decide_eq_false e]
theorem key_lr (a : Int) (b : Str) : decide ((Sum.inl a : Key) = Sum.inr b) = false := decide_eq_false (fun q => nomatch q)
theorem key_rl (a : Str) (b : Int) : decide ((Sum.inr a : Key) = Sum.inl b) = false := decide_eq_false (fun q => nomatch q)
def mixKind (prog : Program) (w : World) : PySem.KeyKind prog w Key where
  is := keyIs
  hash := keyH w
  inj := fun v a b ha hb => by
    rcases keyIs_shape ha with ⟨i, t, rfl, rfl⟩ | ⟨x, t, rfl, rfl⟩
    · rcases keyIs_shape hb with ⟨j, u, rfl, e⟩ | ⟨y, u, rfl, e⟩
      · injection e with e1 _; rw [e1]
      · exact nomatch e
    · rcases keyIs_shape hb with ⟨j, u, rfl, e⟩ | ⟨y, u, rfl, e⟩
      · exact nomatch e
      · injection e with e1 _; rw [e1]
  byValue := fun k v h => by
    rcases keyIs_shape h with ⟨i, t, rfl, rfl⟩ | ⟨x, t, rfl, rfl⟩ <;> rfl
  pyHash := fun hv h => by
    rcases keyIs_shape hv with ⟨i, t, rfl, rfl⟩ | ⟨x, t, rfl, rfl⟩
    · exact wpAny_pyHash_int h
    · exact wpAny_pyHash_str h
  eqBool := fun hu hv h => by
    rcases keyIs_shape hu with ⟨i, t, rfl, rfl⟩ | ⟨x, t, rfl, rfl⟩
    · rcases keyIs_shape hv with ⟨j, u, rfl, rfl⟩ | ⟨y, u, rfl, rfl⟩
      · rw [key_ll] at h; exact wpAny_eqBool_int h
      · rw [key_lr] at h; exact SeqAt.EqAt.int_str i t y u _ _ _ _ h
    · rcases keyIs_shape hv with ⟨j, u, rfl, rfl⟩ | ⟨y, u, rfl, rfl⟩
      · rw [key_rl] at h; exact SeqAt.EqAt.str_int x t j u _ _ _ _ h
      · rw [key_rr] at h; exact wpAny_eqBool_str h
  «strs» := fun k x t v h => by
    rcases keyIs_shape h with ⟨i, u, rfl, e⟩ | ⟨y, u, rfl, e⟩
    · exact nomatch e
    · injection e with e1 _
      subst e1
      cases v <;> rfl
theorem mixKind_int (prog : Program) (w : World) (i : Int) (t : Tok) : (mixKind prog w).is (.inl i) (.int i t) = true := keyIs_int i t
theorem mixKind_str (prog : Program) (w : World) (x : Str) (t : Tok) : (mixKind prog w).is (.inr x) (.str x t) = true := keyIs_str x t
end L2
namespace L2
open PySem PySem.Spec PyProof.Rows
inductive V where
  | non | bl (b : Bool) | int (i : Int) | str (x : Str) | byt (b : Array UInt8) | flt (b : UInt64) | ref (a : Addr) | ty (n : String)
  deriving DecidableEq
def RelV : V → Value → Prop
  | .non, u => u = Value.none
  | .bl b, u => u = Value.bool b
  | .int i, u => ∃ t, u = Value.int i t
  | .str x, u => ∃ t, u = Value.str x t
  | .byt b, u => ∃ t, u = Value.bytes b t
  | .flt b, u => ∃ t, u = Value.float b t
  | .ref a, u => u = Value.ref a
  | .ty n, u => u = Value.type n
abbrev Vals : List V → List Value → Prop := Paired RelV
theorem Vals.length {xs : List V} {us : List Value} (r : Vals xs us) : xs.length = us.length := Paired.length r
theorem Vals.get : ∀ {xs : List V} {us : List Value} {i : Nat} {x : V}, Vals xs us → xs[i]? = some x → ∃ u, us[i]? = some u ∧ RelV x u
  | _, _, _, _, .nil, e => by simp at e
  | _, _, 0, _, .cons r _, e => by simp at e; subst e; exact ⟨_, rfl, r⟩
  | _, _, i + 1, x, .cons _ t, e => by
    obtain ⟨u, h1, h2⟩ := Vals.get (i := i) (x := x) t (by simpa using e)
    exact ⟨u, by simpa using h1, h2⟩
theorem Vals.set {x : V} {u : Value} (r : RelV x u) : ∀ {xs : List V} {us : List Value} (i : Nat), Vals xs us → Vals (xs.set i x) (us.set i u)
  | _, _, _, .nil => .nil
  | _, _, 0, .cons _ t => .cons r t
  | _, _, i + 1, .cons q t => .cons q (Vals.set r i t)
theorem Vals.append : ∀ {xs ys : List V} {us ws : List Value}, Vals xs us → Vals ys ws → Vals (xs ++ ys) (us ++ ws)
  | _, _, _, _, .nil, s => s
  | _, _, _, _, .cons r t, s => .cons r (Vals.append t s)
theorem Vals.take : ∀ {xs : List V} {us : List Value} (n : Nat), Vals xs us → Vals (xs.take n) (us.take n)
  | _, _, 0, _ => .nil
  | _, _, _ + 1, .nil => .nil
  | _, _, n + 1, .cons r t => .cons r (Vals.take n t)
theorem Vals.drop : ∀ {xs : List V} {us : List Value} (n : Nat), Vals xs us → Vals (xs.drop n) (us.drop n)
  | _, _, 0, r => r
  | _, _, _ + 1, .nil => .nil
  | _, _, n + 1, .cons _ t => Vals.drop n t
def RelO : Option V → Option Value → Prop
  | some v, some u => RelV v u
  | none, none => True
  | _, _ => False
def KV {κ : Type} : List (κ × V) → List (κ × Value) → Prop := Paired fun (p : κ × V) (q : κ × Value) => p.1 = q.1 ∧ RelV p.2 q.2
def kV : Key → V
  | .inl i => .int i
  | .inr x => .str x
inductive HO where
  | lst (xs : List V)
  | tup (xs : List V)
  | dK (kvs : List (Key × V)) | dT (kvs : List (List Key × V))
  | set (S : Int → Bool) (n : Nat)
  | ins (C dx : Addr) (fs : List (Str × V))
  | own (x : Addr)
  | xd (fs : List (Str × V))
  | met (f x : Addr)
  | rng (lo hi : Int)
  | frz (o : Obj) (u : HO)
  | tbl (ps : Array Value)
  | ext (φ : Heap → Prop)
abbrev Hp := Addr → Option HO
def upd (H : Hp) (a : Addr) (o : HO) : Hp := fun b => if b = a then some o else H b
theorem upd_same {H : Hp} {a : Addr} {o : HO} : upd H a o a = some o := by unfold upd; rw [if_pos rfl]
theorem upd_ne {H : Hp} {a b : Addr} {o : HO} (h : b ≠ a) : upd H a o b = H b := by unfold upd; rw [if_neg h]
theorem upd_upd {H : Hp} {a : Addr} {o u : HO} : upd (upd H a o) a u = upd H a u := by
  funext b; unfold upd; split <;> rfl
theorem ne_of {H : Hp} {a b : Addr} {o u : HO} (h : H a = some o) (h' : H b = some u) (d : o ≠ u) : a ≠ b := by
  intro e; subst e; rw [h] at h'; exact d (Option.some.inj h')
theorem ne_of_none {H : Hp} {a b : Addr} {o : HO} (h : H a = some o) (h' : H b = none) : a ≠ b := by
  intro e; subst e; rw [h] at h'; cases h'
section
variable (P : Program) (w : World)
def ObjOk (H : Hp) (h : Heap) (a : Addr) : HO → Prop
  | .lst xs => xs.length ≤ sizeLine ∧ ∃ (its : List Value) (n : Nat), Vals xs its ∧ h.get? a = some { cls := .type "list", data := .seq its.toArray n }
  | .tup xs => xs.length ≤ sizeLine ∧ ∃ its : List Value, Vals xs its ∧ IsTup h a its.toArray
  | .dK kvs => kvs.length ≤ sizeLine ∧ (a == sysModules) = false ∧ ∃ vs, KV kvs vs ∧ h.DictOf (mixKind P w) a vs
  | .dT kvs => kvs.length ≤ sizeLine ∧ (a == sysModules) = false ∧ ∃ xs : List (List Key × Addr × Value),
      Paired (fun (p : List Key × V) (q : List Key × Addr × Value) => p.1 = q.1 ∧ H q.2.1 = some (.tup (p.1.map kV)) ∧ RelV p.2 q.2.2) kvs xs ∧
      ∃ o es ep, h.get? a = some o ∧ o.ExactDict ∧ o.data = .dict es ep ∧ es.toList = xs.map (entryOfKey (tupleKind (mixKind P w))) ∧ (xs.map (·.1)).Nodup
  | .set S n => h.SetOf (intKind P w) a S n
  | .ins C dx fs => H dx = some (.own a) ∧ fs.length ≤ 1000 ∧ dx ≠ a ∧ h.get? a = some (PySem.W.instObj C dx) ∧
      ∃ mA, h.Ns1 dx mA ∧ (∀ f, RelO (fs.lookup f) (mA f)) ∧ PySem.Within mA (fs.map (·.1))
  | .own _ => ∃ o, h.get? a = some o
  | .xd fs => ∃ mA, h.Ns1 a mA ∧ ∀ f, RelO (fs.lookup f) (mA f)
  | .rng lo hi => ∃ t u v, h.get? a = some { cls := .type "range", data := .fields #[.int lo t, .int hi u, .int 1 v] }
  | .frz o u => h.get? a = some o ∧ ObjOk H h a u
  | .tbl ps => h.get? a = some { cls := .none, data := .fields ps }
  | .met f x => h.get? a = some (PySem.W.methodObj (.ref f) (.ref x))
  | .ext φ => φ h ∧ (∃ o, h.get? a = some o) ∧ ∀ h1 h2 : Heap, φ h1 → (∀ o, h1.get? a = some o → h2.get? a = some o) → φ h2
def HOk (H : Hp) (h : Heap) : Prop := ∀ a o, H a = some o → ObjOk P w H h a o
end
section
variable {P : Program} {w : World} {H H' : Hp} {h h' : Heap} {a : Addr} {o : HO}
theorem ObjOk.lt (x : ObjOk P w H h a o) : a < h.objs.size := by
  cases o with
  | lst xs => obtain ⟨_, _, _, _, e⟩ := x; exact Heap.lt_size e
  | tup xs => obtain ⟨_, _, _, p⟩ := x; exact p.lt
  | dK kvs => obtain ⟨_, _, _, _, o, _, _, e, _⟩ := x; exact Heap.lt_size e
  | dT kvs => obtain ⟨_, _, _, _, o, _, _, e, _⟩ := x; exact Heap.lt_size e
  | set S n => obtain ⟨o, _, _, _, e, _⟩ := x; exact Heap.lt_size e
  | ins C dx fs => obtain ⟨_, _, _, e, _⟩ := x; exact Heap.lt_size e
  | own y => obtain ⟨_, e⟩ := x; exact Heap.lt_size e
  | xd fs => obtain ⟨_, ⟨_, _, _, e, _⟩, _⟩ := x; exact Heap.lt_size e
  | rng lo hi => obtain ⟨_, _, _, e⟩ := x; exact Heap.lt_size e
  | frz ob u => obtain ⟨e, _⟩ := x; exact Heap.lt_size e
  | tbl ps => exact Heap.lt_size (show h.get? a = some _ from x)
  | met f y => exact Heap.lt_size (show h.get? a = some _ from x)
  | ext φ => obtain ⟨_, ⟨_, e⟩, _⟩ := x; exact Heap.lt_size e
theorem Paired.mapP {α β : Type} {F G : α → β → Prop} : ∀ {l₁ : List α} {l₂ : List β}, Paired F l₁ l₂ → (∀ a b, F a b → G a b) → Paired G l₁ l₂
  | _, _, .nil, _ => .nil
  | _, _, .cons r t, f => .cons (f _ _ r) (Paired.mapP t f)
theorem ObjOk.stay (x : ObjOk P w H h a o) (k : ∀ b u, (b = a ∨ H b = some (.own a)) → h.get? b = some u → h'.get? b = some u)
    (ho : ∀ b, H b = some (.own a) → H' b = some (.own a)) (ht : ∀ b xs, H b = some (.tup xs) → H' b = some (.tup xs)) : ObjOk P w H' h' a o := by
  induction o with
  | lst xs => obtain ⟨z, its, n, r, e⟩ := x; exact ⟨z, its, n, r, k _ _ (.inl rfl) e⟩
  | tup xs => obtain ⟨z, its, r, ob, e, c⟩ := x; exact ⟨z, its, r, ob, k _ _ (.inl rfl) e, c⟩
  | dK kvs => obtain ⟨z, y, vs, r, ob, es, ep, e, c⟩ := x; exact ⟨z, y, vs, r, ob, es, ep, k _ _ (.inl rfl) e, c⟩
  | dT kvs =>
    obtain ⟨z, y, xs, r, ob, es, ep, e, c⟩ := x
    exact ⟨z, y, xs, Paired.mapP r fun p q z => ⟨z.1, ht _ _ z.2.1, z.2.2⟩, ob, es, ep, k _ _ (.inl rfl) e, c⟩
  | set S n => obtain ⟨ob, es, ep, t, e, c⟩ := x; exact ⟨ob, es, ep, t, k _ _ (.inl rfl) e, c⟩
  | ins C dx fs =>
    obtain ⟨d, z, ne, e, mA, ⟨od, es, ep, e2, c⟩, r⟩ := x
    exact ⟨ho _ d, z, ne, k _ _ (.inl rfl) e, mA, ⟨od, es, ep, k _ _ (.inr d) e2, c⟩, r⟩
  | own y => obtain ⟨ob, e⟩ := x; exact ⟨ob, k _ _ (.inl rfl) e⟩
  | xd fs => obtain ⟨mA, ⟨od, es, ep, e, c⟩, r⟩ := x; exact ⟨mA, ⟨od, es, ep, k _ _ (.inl rfl) e, c⟩, r⟩
  | rng lo hi => obtain ⟨t, u, v, e⟩ := x; exact ⟨t, u, v, k _ _ (.inl rfl) e⟩
  | frz ob u ih => obtain ⟨e, q⟩ := x; exact ⟨k _ _ (.inl rfl) e, ih q⟩
  | tbl ps =>
    have e : h.get? a = some { cls := .none, data := .fields ps } := x
    show h'.get? a = some { cls := .none, data := .fields ps }
    exact k a _ (.inl rfl) e
  | met f y =>
    have e : h.get? a = some (PySem.W.methodObj (.ref f) (.ref y)) := x
    show h'.get? a = some (PySem.W.methodObj (.ref f) (.ref y))
    exact k a _ (.inl rfl) e
  | ext φ => obtain ⟨p, ⟨o, e⟩, st⟩ := x; exact ⟨st _ _ p fun o q => k _ _ (.inl rfl) q, ⟨o, k _ _ (.inl rfl) e⟩, st⟩
theorem HOk.lt (x : HOk P w H h) (e : H a = some o) : a < h.objs.size := (x a o e).lt
theorem HOk.fresh (x : HOk P w H h) (e : h.objs.size ≤ a) : H a = none := by
  cases q : H a with
  | none => rfl
  | some u => exact absurd (Nat.lt_of_lt_of_le (x.lt q) e) (Nat.lt_irrefl _)
theorem HOk.kept (x : HOk P w H h) (k : ∀ b u, h.get? b = some u → h'.get? b = some u) : HOk P w H h' := fun a o e =>
  (x a o e).stay (fun b u _ q => k b u q) (fun _ q => q) fun _ _ q => q
theorem HOk.laid (x : HOk P w H h) (k : ∀ b u, h.get? b = some u → h'.get? b = some u) (hp : h.objs.size ≤ a) (new : ObjOk P w (upd H a o) h' a o) : HOk P w (upd H a o) h' := fun b u e => by
  have hn := x.fresh hp
  by_cases hb : b = a
  · subst hb; rw [upd_same] at e; cases e; exact new
  · rw [upd_ne hb] at e
    exact (x b u e).stay (fun c v _ q => k c v q) (fun c q => by rw [upd_ne (ne_of_none q hn)]; exact q) fun c xs q => by rw [upd_ne (ne_of_none q hn)]; exact q
end
def Rd (H : Hp) (a : Addr) (u : HO) : Prop := H a = some u ∨ ∃ o, H a = some (.frz o u)
theorem Rd.ok {P : Program} {w : World} {H : Hp} {h : Heap} {a : Addr} {u : HO} (r : Rd H a u) (x : HOk P w H h) : ObjOk P w H h a u := by
  rcases r with r | ⟨o, r⟩
  · exact x a u r
  · obtain ⟨_, q⟩ := x a _ r
    exact q
def Mut : Option HO → Prop
  | some (.lst _) => True
  | some (.dK _) => True
  | some (.dT _) => True
  | some (.set _ _) => True
  | some (.ins _ _ _) => True
  | some (.ext _) => True
  | _ => False
section
variable {P : Program} {w : World} {H : Hp} {h h' : Heap} {x e : Addr} {o' : HO}
theorem HOk.write (ok : HOk P w H h) (mu : Mut (H x)) (he : e = x ∨ H e = some (.own x)) (k : ∀ b u, b ≠ e → h.get? b = some u → h'.get? b = some u) (heo : ∃ u, h'.get? e = some u)
    (new : ObjOk P w (upd H x o') h' x o') : HOk P w (upd H x o') h' := fun b u q => by
  have nown : ∀ c y, H c = some (.own y) → c ≠ x := fun c y r z => by subst z; rw [r] at mu; exact mu
  have ntup : ∀ c xs, H c = some (.tup xs) → c ≠ x := fun c xs r z => by subst z; rw [r] at mu; exact mu
  by_cases hb : b = x
  · subst hb; rw [upd_same] at q; cases q; exact new
  · rw [upd_ne hb] at q
    by_cases hbe : b = e
    · have q' : H b = some (.own x) := by
        rcases he with z | z
        · exact absurd (hbe.trans z) hb
        · rw [hbe]; exact z
      rw [q] at q'; cases q'
      obtain ⟨v, hv⟩ := heo
      exact ⟨v, by rw [hbe]; exact hv⟩
    · refine (ok b u q).stay (fun c v hc r => k c v ?_ r) (fun c r => by rw [upd_ne (nown c b r)]; exact r) fun c xs r => by rw [upd_ne (ntup c xs r)]; exact r
      rcases hc with rfl | hc
      · exact hbe
      · rintro rfl
        rcases he with z | z
        · exact nown c b hc z
        · rw [hc] at z; cases z; exact hb rfl
end
structure Un (fs ex : List Addr) (H H' : Hp) (h h' : Heap) : Prop where
  keep : ∀ b o, h.get? b = some o → H b = none → b ∉ fs → b ∉ ex → h'.get? b = some o
  slot : ∀ b o, h.get? b = some o → H b = none → b ∈ fs → b ∉ ex → ∃ sl, h'.get? b = some { o with slots := sl }
  free : ∀ b o, h.get? b = some o → H b = none → b ∉ ex → H' b = none
  there : ∀ b o, h.get? b = some o → b ∉ ex → ∃ o', h'.get? b = some o'
  tups : ∀ b xs, H b = some (.tup xs) → H' b = some (.tup xs)
  frzs : ∀ b o u, H b = some (.frz o u) → H' b = some (.frz o u)
  tbls : ∀ b ps, H b = some (.tbl ps) → ∃ more, H' b = some (.tbl (ps ++ more))
section
variable {fs fs' ex ex' : List Addr} {H H1 H2 : Hp} {h h1 h2 h' : Heap} {a x e : Addr} {o : HO}
theorem Un.any (u : Un fs ex H H1 h h1) {b : Addr} {ob : Obj} (q : h.get? b = some ob) (n : H b = none) (hx : b ∉ ex) : ∃ sl, h1.get? b = some { ob with slots := sl } := by
  by_cases hb : b ∈ fs
  · exact u.slot b ob q n hb hx
  · exact ⟨ob.slots, u.keep b ob q n hb hx⟩
theorem Un.trans (a : Un fs ex H H1 h h1) (b : Un fs ex H1 H2 h1 h2) : Un fs ex H H2 h h2 where
  keep := fun c ob q n hc hx => b.keep c ob (a.keep c ob q n hc hx) (a.free c ob q n hx) hc hx
  slot := fun c ob q n hc hx => by
    obtain ⟨sl, e1⟩ := a.slot c ob q n hc hx
    obtain ⟨sl', e2⟩ := b.slot c _ e1 (a.free c ob q n hx) hc hx
    exact ⟨sl', e2⟩
  free := fun c ob q n hx => by
    obtain ⟨o', e1⟩ := a.there c ob q hx
    exact b.free c o' e1 (a.free c ob q n hx) hx
  there := fun c ob q hx => by
    obtain ⟨o', e1⟩ := a.there c ob q hx
    exact b.there c o' e1 hx
  tups := fun c xs q => b.tups c xs (a.tups c xs q)
  frzs := fun c ob xs q => b.frzs c ob xs (a.frzs c ob xs q)
  tbls := fun c ps q => by
    obtain ⟨m1, e1⟩ := a.tbls c ps q
    obtain ⟨m2, e2⟩ := b.tbls c _ e1
    exact ⟨m1 ++ m2, by rw [e2, Array.append_assoc]⟩
theorem Un.kept (k : ∀ b u, h.get? b = some u → h'.get? b = some u) : Un fs ex H H h h' :=
  ⟨fun b ob q _ _ _ => k b ob q, fun b ob q _ _ _ => ⟨ob.slots, k b ob q⟩, fun _ _ _ n _ => n, fun b ob q _ => ⟨ob, k b ob q⟩, fun _ _ q => q, fun _ _ _ q => q, fun _ ps q => ⟨#[], by rw [q]; simp⟩⟩
theorem Un.refl : Un fs ex H H h h := Un.kept fun _ _ q => q
theorem Un.laid (k : ∀ b u, h.get? b = some u → h'.get? b = some u) (hp : h.objs.size ≤ a) (hn : H a = none) : Un fs ex H (upd H a o) h h' where
  keep := fun b u q _ _ _ => k b u q
  slot := fun b u q _ _ _ => ⟨u.slots, k b u q⟩
  free := fun b u q n _ => by rw [upd_ne (Nat.ne_of_lt (Nat.lt_of_lt_of_le (Heap.lt_size q) hp))]; exact n
  there := fun b u q _ => ⟨u, k b u q⟩
  tups := fun b xs q => by rw [upd_ne (ne_of_none q hn)]; exact q
  frzs := fun b u xs q => by rw [upd_ne (ne_of_none q hn)]; exact q
  tbls := fun b ps q => ⟨#[], by rw [upd_ne (ne_of_none q hn), q]; simp⟩
theorem Un.write (mu : Mut (H x)) (he : e = x ∨ H e = some (.own x)) (k : ∀ b u, b ≠ e → h.get? b = some u → h'.get? b = some u) (heo : ∃ u, h'.get? e = some u) : Un fs ex H (upd H x o) h h' := by
  have hx : ∀ b, H b = none → b ≠ x := fun b n z => by subst z; rw [n] at mu; exact mu
  have hb : ∀ b, H b = none → b ≠ e := fun b n z => by
    subst z
    rcases he with r | r
    · exact hx b n r
    · rw [n] at r; cases r
  have hm : ∀ b u, H b = some u → ¬ Mut (some u) → b ≠ x := fun b u q nm z => by subst z; rw [q] at mu; exact nm mu
  refine ⟨fun b u q n _ _ => k b u (hb b n) q, fun b u q n _ _ => ⟨u.slots, k b u (hb b n) q⟩, fun b u q n _ => by rw [upd_ne (hx b n)]; exact n, fun b u q _ => ?_,
    fun b xs q => by rw [upd_ne (hm b _ q fun z => z)]; exact q, fun b u xs q => by rw [upd_ne (hm b _ q fun z => z)]; exact q, fun b ps q => ⟨#[], by rw [upd_ne (hm b _ q fun z => z), q]; simp⟩⟩
  by_cases hbe : b = e
  · subst hbe; exact heo
  · exact ⟨u, k b u hbe q⟩
end
def trk (h : Heap) (H : Hp) : List Addr := (List.range h.objs.size).filter fun a => (H a).isSome
def hidT (h : Heap) (H : Hp) : Heap := PySem.W.hideAll h (trk h H)
theorem hidT_size (h : Heap) (H : Hp) : (hidT h H).objs.size = h.objs.size := PySem.W.hideAll_size _ _
theorem hidT_get {h : Heap} {H : Hp} {b : Addr} {o : Obj} (e : h.get? b = some o) (n : H b = none) : (hidT h H).get? b = some o :=
  PySem.W.hideAll_get _ e fun hm => by
    have q : (H b).isSome = true := (List.mem_filter.mp hm).2
    rw [n] at q; simp at q
theorem of_hidT {h : Heap} {H : Hp} {b : Addr} {o : Obj} (e : (hidT h H).get? b = some o) : h.get? b = some o ∧ H b = none := by
  have e' : h.get? b = some o := PySem.W.of_hideAll (trk h H) e
  refine ⟨e', ?_⟩
  cases q : H b with
  | none => rfl
  | some x =>
    have hm : b ∈ trk h H := List.mem_filter.mpr ⟨List.mem_range.mpr (Heap.lt_size e'), by simp [q]⟩
    have z : (hidT h H).get? b = none := PySem.W.hideAll_none (trk h H) hm
    rw [z] at e; cases e
def allNews (g h : Heap) (L : Addr) : List (Addr × Obj) := (List.range h.objs.size).filterMap fun a => if a = L ∨ (g.get? a).isSome = true then none else (h.get? a).map fun o => (a, o)
def rest (g h : Heap) (L d : Addr) : List (Addr × Obj) := (allNews g h L).filter fun p => decide (p.1 ≠ d)
end L2
namespace L2
open PySem PySem.Spec PyProof.Rows
structure Mod (K : PySem.W.Frag) (mg : Str → Option Value) (base : Heap) : Prop where
  kin : K.In base
  glob : base.Ns mainGlobals mg
  blt : ∃ mb, base.Ns builtinsNs mb ∧ ∀ x : Str, x ≠ "__name__" → mb x = bootBuiltins x
  nolimit : base.NoLimit
structure Cx where
  prog : Program
  w : World
  K : PySem.W.Frag
  mg : Str → Option Value
  base : Heap
  A : Around
  N : List Str
  s₀ : Shared
  H₀ : Hp
  env : Env
  outer : List Env
  stack : List Env
  ex : List Addr
  fn : Str → Bool
  calm : Bool
  pn : List (Addr × Obj)
  xe : Value → Shared → Prop
def frs (l : List Env) : List Addr := l.filterMap (·.frame)
abbrev Cx.fs (X : Cx) : List Addr := frs X.outer
def Vis (sc : Scope) (x : Str) : Prop := sc.names.lookup x = some .local ∨ sc.names.lookup x = some .cell ∨ sc.names.lookup x = some .free
def Loc (sc : Scope) (x : Str) : Prop := sc.names.lookup x = some .local ∨ sc.names.lookup x = some .cell
def Look (env : Env) (h : Heap) (m : Str → Option Value) (x : Str) (u : Value) : Prop :=
  (env.kindOf x = some .local ∧ m x = some u) ∨ ((env.kindOf x = some .cell ∨ env.kindOf x = some .free) ∧ ∃ c, env.cells.lookup x = some c ∧ h.IsCell c (some u))
structure Cx.Ok (X : Cx) : Prop where
  mod : Mod X.K X.mg X.base
  kind : X.env.scope.kind = .function
  glob : X.env.globals = mainGlobals
  blt : X.env.builtins = builtinsNs
  above : X.s₀.heap.objs.size ≤ X.env.locals
  inj : ∀ x y c, X.env.cells.lookup x = some c → X.env.cells.lookup y = some c → x = y
  has : ∀ x, (X.env.kindOf x = some .cell ∨ X.env.kindOf x = some .free) → ∃ c, X.env.cells.lookup x = some c
  cab : ∀ x c, X.fn x = true → X.env.cells.lookup x = some c → X.s₀.heap.objs.size ≤ c
  hd : X.calm = true → X.A.handled = none
  frames : X.A.frames = some X.stack
  stk : X.stack = X.outer ∨ (X.stack = X.env :: X.outer ∧ X.env.frame = some X.env.locals)
  exf : ∀ b ∈ X.ex, b ≠ X.env.locals ∧ ∀ x c, X.env.cells.lookup x = some c → c ≠ b
  bs : ∀ b o, X.base.get? b = some o → X.s₀.heap.get? b = some o ∧ X.H₀ b = none
  bsz : X.base.objs.size ≤ X.s₀.heap.objs.size
  noex : ∀ b o, X.base.get? b = some o → b ∉ X.ex
  exfs : ∀ b ∈ X.ex, b ∉ X.fs
  funs : X.s₀.heap.FunFrames X.base X.outer
  frf : ∀ b ∈ X.fs, X.H₀ b = none
structure Inv (X : Cx) (pins : List (Addr × Obj)) (σ : List (Option V)) (H : Hp) (s : Shared) : Prop where
  ok : X.Ok
  os : s.os = X.s₀.os
  bare : AllBare s.gens
  base : Un X.fs X.ex X.H₀ H X.s₀.heap s.heap
  loc : ∃ m, s.heap.Ns X.env.locals m ∧ ∀ (i : Nat) (x : Str) (v : V), X.N[i]? = some x → σ[i]? = some (some v) → Vis X.env.scope x → ∃ u, RelV v u ∧ Look X.env s.heap m x u
  cell : ∀ x c, X.env.cells.lookup x = some c → ∃ v, s.heap.IsCell c v
  free : H X.env.locals = none
  freeC : ∀ x c, X.env.cells.lookup x = some c → H c = none
  pin : ∀ p ∈ X.pn ++ pins, s.heap.get? p.1 = some p.2 ∧ H p.1 = none ∧ p.1 ≠ X.env.locals ∧ p.1 ∉ X.fs ∧ ∀ v, p.2.data ≠ .cell v
  hok : HOk X.prog X.w H s.heap
  len : σ.length = X.N.length
section
variable {X : Cx} {pins : List (Addr × Obj)} {σ : List (Option V)} {H H' : Hp} {s : Shared} {h' : Heap}
theorem Cx.Ok.nofr (ok : X.Ok) {b : Addr} {o : Obj} (e : X.base.get? b = some o) : b ∉ X.fs := fun hb => by
  have := (ok.funs.mem hb).1
  rw [e] at this; cases this
theorem Inv.bs (I : Inv X pins σ H s) : ∀ b o, X.base.get? b = some o → s.heap.get? b = some o ∧ H b = none := fun b o e =>
  ⟨I.base.keep b o (I.ok.bs b o e).1 (I.ok.bs b o e).2 (I.ok.nofr e) (I.ok.noex b o e), I.base.free b o (I.ok.bs b o e).1 (I.ok.bs b o e).2 (I.ok.noex b o e)⟩
theorem Inv.bk (I : Inv X pins σ H s) : ∀ b o, X.base.get? b = some o → s.heap.get? b = some o := fun b o e => (I.bs b o e).1
theorem Inv.mod (I : Inv X pins σ H s) : Mod X.K X.mg X.base := I.ok.mod
theorem Inv.kIn (I : Inv X pins σ H s) : X.K.In s.heap := I.ok.mod.kin.keeps I.bk
theorem Inv.lt (I : Inv X pins σ H s) : X.env.locals < s.heap.objs.size := let ⟨_, hn, _⟩ := I.loc; hn.lt
theorem Inv.sz (I : Inv X pins σ H s) : X.s₀.heap.objs.size ≤ s.heap.objs.size := Nat.le_trans I.ok.above (Nat.le_of_lt I.lt)
theorem Inv.nofs (I : Inv X pins σ H s) {a : Addr} (h : s.heap.objs.size ≤ a) : a ∉ X.fs := fun hb => by
  obtain ⟨_, o, ho, _⟩ := I.ok.funs.mem hb
  exact absurd (Nat.lt_of_lt_of_le (Heap.lt_size ho) (Nat.le_trans I.sz h)) (Nat.lt_irrefl _)
theorem Inv.cne (I : Inv X pins σ H s) : ∀ x c, X.env.cells.lookup x = some c → c ≠ X.env.locals := fun x c e z => by
  obtain ⟨v, o, ho, hd⟩ := I.cell x c e
  obtain ⟨m, ⟨o', es, ep, ho', hd', _⟩, _⟩ := I.loc
  rw [z, ho'] at ho; cases ho; rw [hd'] at hd; cases hd
theorem Inv.funs (I : Inv X pins σ H s) : s.heap.FunFrames X.base X.outer := by
  have all : ∀ (l : List Env), (∀ b ∈ frs l, b ∈ X.fs) → X.s₀.heap.FunFrames X.base l → s.heap.FunFrames X.base l := by
    intro l
    induction l with
    | nil => intro _ _; trivial
    | cons env r ih =>
      intro hs hl
      obtain ⟨hk, ⟨L, o, hf, hn, ho, hd⟩, hr⟩ := hl
      have hL : L ∈ X.fs := hs L (by unfold frs; rw [List.filterMap_cons, hf]; exact List.mem_cons_self)
      obtain ⟨sl, e⟩ := I.base.slot L o ho (I.ok.frf L hL) hL fun z => I.ok.exfs L z hL
      exact ⟨hk, ⟨L, _, hf, hn, e, hd⟩, ih (fun b hb => hs b (by unfold frs; rw [List.filterMap_cons, hf]; exact List.mem_cons_of_mem _ hb)) hr⟩
  exact all X.outer (fun _ hb => hb) I.ok.funs
theorem Inv.stack (I : Inv X pins σ H s) : s.heap.FunFrames X.base X.stack := by
  rcases I.ok.stk with e | ⟨e, hf⟩
  · rw [e]; exact I.funs
  · rw [e]
    obtain ⟨m, hn, _⟩ := I.loc
    refine .cons (by rw [I.ok.kind]; decide) hf hn ?_ I.funs
    exact Heap.get?_none_of_le (Nat.le_trans I.ok.bsz I.ok.above)
theorem Inv.stkSub (I : Inv X pins σ H s) : ∀ b ∈ frs X.stack, b ∈ X.env.locals :: X.fs := fun b hb => by
  rcases I.ok.stk with e | ⟨e, hf⟩
  · rw [e] at hb; exact List.mem_cons_of_mem _ hb
  · rw [e] at hb
    unfold frs at hb
    rw [List.filterMap_cons, hf] at hb
    exact hb
theorem Inv.stkFree (I : Inv X pins σ H s) : ∀ b ∈ frs X.stack, H b = none := fun b hb => by
  rcases List.mem_cons.mp (I.stkSub b hb) with e | hb
  · rw [e]; exact I.free
  · obtain ⟨_, o, ho, _⟩ := I.ok.funs.mem hb
    exact I.base.free b o ho (I.ok.frf b hb) fun z => I.ok.exfs b z hb
theorem Inv.step {g' : Array GenState} {t' : Nat} {d' : Drawn} {ch : List Addr} (I : Inv X pins σ H s)
    (hch : ∀ b ∈ ch, (b ∈ X.ex ∨ X.s₀.heap.objs.size ≤ b) ∧ b ≠ X.env.locals ∧ (∀ x c, X.env.cells.lookup x = some c → c ≠ b) ∧ ∀ p ∈ X.pn ++ pins, p.1 ≠ b)
    (keep : ∀ b o, b ≠ X.env.locals → b ∉ X.fs → b ∉ ch → s.heap.get? b = some o → H b = none → h'.get? b = some o)
    (slot : ∀ b o, b ≠ X.env.locals → b ∈ X.fs → b ∉ ch → s.heap.get? b = some o → H b = none → ∃ sl, h'.get? b = some { o with slots := sl }) (free : ∀ b o, b ∉ ch → s.heap.get? b = some o → H b = none → H' b = none)
    (there : ∀ b o, b ∉ ch → s.heap.get? b = some o → ∃ o', h'.get? b = some o')
    (tups : ∀ b xs, H b = some (.tup xs) → H' b = some (.tup xs)) (frzs : ∀ b o u, H b = some (.frz o u) → H' b = some (.frz o u)) (tbls : ∀ b ps, H b = some (.tbl ps) → ∃ more, H' b = some (.tbl (ps ++ more)))
    (ns : ∀ m, s.heap.Ns X.env.locals m → h'.Ns X.env.locals m) (hok : HOk X.prog X.w H' h') (hg : AllBare g') :
    Inv X pins σ H' { s with heap := h', gens := g', drawn := d', toks := t' } := by
  have neL : ∀ b o, X.s₀.heap.get? b = some o → b ≠ X.env.locals := fun b o e => Nat.ne_of_lt (Nat.lt_of_lt_of_le (Heap.lt_size e) I.ok.above)
  have neC : ∀ b o, X.s₀.heap.get? b = some o → b ∉ X.ex → b ∉ ch := fun b o e hx hb => by
    rcases (hch b hb).1 with z | z
    · exact hx z
    · exact absurd (Nat.lt_of_lt_of_le (Heap.lt_size e) z) (Nat.lt_irrefl _)
  have cellK : ∀ x c, X.env.cells.lookup x = some c → ∀ v, s.heap.IsCell c v → h'.IsCell c v := fun x c e v ⟨o, ho, hd⟩ => by
    have nch : c ∉ ch := fun z => (hch c z).2.2.1 x c e rfl
    by_cases hc : c ∈ X.fs
    · obtain ⟨sl, q⟩ := slot c o (I.cne x c e) hc nch ho (I.freeC x c e)
      exact ⟨_, q, hd⟩
    · exact ⟨o, keep c o (I.cne x c e) hc nch ho (I.freeC x c e), hd⟩
  refine ⟨I.ok, I.os, hg, ⟨fun b o e n hb hx => ?_, fun b o e n hb hx => ?_, fun b o e n hx => ?_, fun b o e hx => ?_, fun b xs e => tups b xs (I.base.tups b xs e), fun b o xs e => frzs b o xs (I.base.frzs b o xs e), fun b ps e => ?_⟩, ?_, fun x c e => ?_, ?_, fun x c e => ?_, fun p hp => ?_, hok, I.len⟩
  · exact keep b o (neL b o e) hb (neC b o e hx) (I.base.keep b o e n hb hx) (I.base.free b o e n hx)
  · obtain ⟨sl, e1⟩ := I.base.slot b o e n hb hx
    obtain ⟨sl', e2⟩ := slot b _ (neL b o e) hb (neC b o e hx) e1 (I.base.free b o e n hx)
    exact ⟨sl', e2⟩
  · obtain ⟨o', e1⟩ := I.base.there b o e hx
    exact free b o' (neC b o e hx) e1 (I.base.free b o e n hx)
  · obtain ⟨o', e1⟩ := I.base.there b o e hx
    exact there b o' (neC b o e hx) e1
  · obtain ⟨m1, e1⟩ := I.base.tbls b ps e
    obtain ⟨m2, e2⟩ := tbls b _ e1
    exact ⟨m1 ++ m2, by rw [e2, Array.append_assoc]⟩
  · obtain ⟨m, hn, hl⟩ := I.loc
    refine ⟨m, ns m hn, fun i x v e1 e2 e3 => ?_⟩
    obtain ⟨u, r, l⟩ := hl i x v e1 e2 e3
    refine ⟨u, r, ?_⟩
    rcases l with l | ⟨k, c, e, z⟩
    · exact .inl l
    · exact .inr ⟨k, c, e, cellK x c e _ z⟩
  · obtain ⟨v, z⟩ := I.cell x c e
    exact ⟨v, cellK x c e v z⟩
  · obtain ⟨m, ⟨o, _, _, ho, _⟩, _⟩ := I.loc
    exact free _ o (fun z => (hch _ z).2.1 rfl) ho I.free
  · obtain ⟨v, o, ho, hd⟩ := I.cell x c e
    exact free c o (fun z => (hch c z).2.2.1 x c e rfl) ho (I.freeC x c e)
  · obtain ⟨e, n, ne, nf, d⟩ := I.pin p hp
    have nch : p.1 ∉ ch := fun z => (hch p.1 z).2.2.2 p hp rfl
    exact ⟨keep p.1 p.2 ne nf nch e n, free p.1 p.2 nch e n, ne, nf, d⟩
theorem Inv.un {t' : Nat} (I : Inv X pins σ H s) (u : Un X.fs [] H H' s.heap h') (hok : HOk X.prog X.w H' h') : Inv X pins σ H' { s with heap := h', toks := t' } := by
  obtain ⟨m, ⟨o, es, ep, ho, r⟩, _⟩ := id I.loc
  obtain ⟨sl, hL⟩ := u.any ho I.free (by simp)
  exact I.step (g' := s.gens) (d' := s.drawn) (ch := []) (fun _ z => nomatch z) (fun b o _ hb _ e n => u.keep b o e n hb (by simp)) (fun b o _ hb _ e n => u.slot b o e n hb (by simp)) (fun b o _ e n => u.free b o e n (by simp)) (fun b o _ e => u.there b o e (by simp)) u.tups u.frzs u.tbls (fun m' hm => by
    obtain ⟨o', es', ep', ho', r'⟩ := hm
    rw [ho] at ho'; cases ho'
    exact ⟨_, es', ep', hL, r'⟩) hok I.bare
theorem Inv.call {g' : Array GenState} {t' : Nat} {d' : Drawn} {ch : List Addr} (I : Inv X pins σ H s) (u : Un (frs X.stack) ch H H' s.heap h') (hok : HOk X.prog X.w H' h') (hg : AllBare g')
    (hch : ∀ b ∈ ch, (b ∈ X.ex ∨ X.s₀.heap.objs.size ≤ b) ∧ b ≠ X.env.locals ∧ (∀ x c, X.env.cells.lookup x = some c → c ≠ b) ∧ ∀ p ∈ X.pn ++ pins, p.1 ≠ b) :
    Inv X pins σ H' { s with heap := h', gens := g', drawn := d', toks := t' } := by
  obtain ⟨m, ⟨o, es, ep, ho, r⟩, _⟩ := id I.loc
  obtain ⟨sl, hL⟩ := u.any ho I.free fun z => (hch _ z).2.1 rfl
  exact I.step (ch := ch) hch (fun b o hL hb hc e n => u.keep b o e n (fun z => (List.mem_cons.mp (I.stkSub b z)).elim hL hb) hc) (fun b o _ _ hc e n => u.any e n hc) (fun b o hc e n => u.free b o e n hc) (fun b o hc e => u.there b o e hc) u.tups u.frzs u.tbls (fun m' hm => by
    obtain ⟨o', es', ep', ho', r'⟩ := hm
    rw [ho] at ho'; cases ho'
    exact ⟨_, es', ep', hL, r'⟩) hok hg
theorem Inv.turned {t' : Nat} {it : Addr} (I : Inv X pins σ H s) (k : ∀ b o, b ≠ it → s.heap.get? b = some o → h'.get? b = some o) (hn : H it = none) (hL : it ≠ X.env.locals)
    (h1 : it ∈ X.ex ∨ X.s₀.heap.objs.size ≤ it) (h2 : ∀ x c, X.env.cells.lookup x = some c → c ≠ it) (h3 : ∀ p ∈ X.pn ++ pins, p.1 ≠ it) : Inv X pins σ H { s with heap := h', toks := t' } := by
  have nit : ∀ b u, H b = some u → b ≠ it := fun b u e z => by rw [z, hn] at e; cases e
  refine I.step (g' := s.gens) (d' := s.drawn) (ch := [it]) (fun b hb => ?_) (fun b o _ _ hc e _ => k b o (fun z => hc (by simp [z])) e) (fun b o _ _ hc e _ => ⟨o.slots, k b o (fun z => hc (by simp [z])) e⟩) (fun _ _ _ _ n => n)
    (fun b o hc e => ⟨o, k b o (fun z => hc (by simp [z])) e⟩) (fun _ _ e => e) (fun _ _ _ e => e) (fun b ps e => ⟨#[], by rw [e]; simp⟩) (fun m hm => ?_) (fun b u e => ?_) I.bare
  · have e : b = it := by simpa using hb
    subst e
    exact ⟨h1, hL, h2, h3⟩
  · obtain ⟨o, es, ep, ho, r⟩ := hm
    exact ⟨o, es, ep, k _ o (Ne.symm hL) ho, r⟩
  · refine (I.hok b u e).stay (fun c v hc q => k c v ?_ q) (fun _ q => q) fun _ _ q => q
    rcases hc with z | z
    · rw [z]; exact nit b u e
    · exact nit c _ z
theorem Inv.tok (I : Inv X pins σ H s) (t : Nat) : Inv X pins σ H { s with toks := t } := I.un (h' := s.heap) (t' := t) Un.refl I.hok
theorem Inv.kept {t' : Nat} (I : Inv X pins σ H s) (k : ∀ b u, s.heap.get? b = some u → h'.get? b = some u) : Inv X pins σ H { s with heap := h', toks := t' } := I.un (Un.kept k) (I.hok.kept k)
theorem Inv.laid {a : Addr} {o : HO} {t' : Nat} (I : Inv X pins σ H s) (k : ∀ b u, s.heap.get? b = some u → h'.get? b = some u) (hp : s.heap.objs.size ≤ a) (new : ObjOk X.prog X.w (upd H a o) h' a o) :
    Inv X pins σ (upd H a o) { s with heap := h', toks := t' } := I.un (Un.laid k hp (I.hok.fresh hp)) (I.hok.laid k hp new)
theorem Inv.write {x e : Addr} {o : HO} {t' : Nat} (I : Inv X pins σ H s) (mu : Mut (H x)) (he : e = x ∨ H e = some (.own x)) (k : ∀ b u, b ≠ e → s.heap.get? b = some u → h'.get? b = some u) (heo : ∃ u, h'.get? e = some u)
    (new : ObjOk X.prog X.w (upd H x o) h' x o) : Inv X pins σ (upd H x o) { s with heap := h', toks := t' } := I.un (Un.write mu he k heo) (I.hok.write mu he k heo new)
theorem Inv.pins_of {pins' : List (Addr × Obj)} (I : Inv X pins σ H s) (h : ∀ p ∈ pins', s.heap.get? p.1 = some p.2 ∧ H p.1 = none ∧ p.1 ≠ X.env.locals ∧ p.1 ∉ X.fs ∧ ∀ v, p.2.data ≠ .cell v) : Inv X pins' σ H s :=
  ⟨I.ok, I.os, I.bare, I.base, I.loc, I.cell, I.free, I.freeC, fun p hp => (List.mem_append.mp hp).elim (fun z => I.pin p (List.mem_append_left _ z)) (h p), I.hok, I.len⟩
theorem nodup_ix {N : List Str} (hN : N.Nodup) {i j : Nat} {x : Str} (a : N[i]? = some x) (b : N[j]? = some x) : i = j := by
  obtain ⟨h1, e1⟩ := List.getElem?_eq_some_iff.mp a
  obtain ⟨h2, e2⟩ := List.getElem?_eq_some_iff.mp b
  exact (List.getElem_inj hN).mp (e1.trans e2.symm)
theorem store_ok2 {M : Model} {A : Around} {E : Value → Shared → Prop} {i : Nat} {x : Str} {v : V} {u : Value} {Q : Unit → Shared → Prop} (I : Inv X pins σ H s) (hN : X.N.Nodup) (hi : X.N[i]? = some x) (hx : Loc X.env.scope x) (r : RelV v u)
    (h : ∀ s', Inv X pins (σ.set i (some v)) H s' → (∃ a, Heap.SameBut a s.heap s'.heap ∧ (a = X.env.locals ∨ X.env.cells.lookup x = some a)) → Q () s') (hf : X.fn x = true ∨ X.env.scope.names.lookup x = some .local := by first | exact .inl rfl | exact .inr rfl | assumption) : wpAny M A (storeName X.env x u) Q E s := by
  obtain ⟨m, hn, hl⟩ := id I.loc
  have hcls : (X.env.scope.kind == .class || (X.env.scope.kind == .module && X.env.locals != X.env.globals)) = false := by rw [I.ok.kind]; rfl
  have hiσ : i < σ.length := by rw [I.len]; exact (List.getElem?_eq_some_iff.mp hi).1
  have cne := I.cne
  have tracked : ∀ {a : Addr} {h' : Heap}, (∃ o, s.heap.get? a = some o ∧ H a = none) → Heap.SameBut a s.heap h' → HOk X.prog X.w H h' := fun {a h'} ha hs b ob e => by
    obtain ⟨_, _, hfree⟩ := ha
    refine (I.hok b ob e).stay (fun c w' hc q => (hs.2 c ?_).trans q) (fun _ q => q) fun _ _ q => q
    rintro rfl
    rcases hc with rfl | hc
    · rw [hfree] at e; cases e
    · rw [hfree] at hc; cases hc
  rcases hx with hk | hk
  · refine wpAny_storeName_local hk hn (fun h' hn' hs => ?_) hcls
    obtain ⟨oL, _, _, hoL, _⟩ := id hn
    refine h _ ⟨I.ok, I.os, I.bare, ⟨fun b o e n hb hx => ?_, fun b o e n hb hx => ?_, I.base.free, fun b o e hx => ?_, I.base.tups, I.base.frzs, I.base.tbls⟩, ⟨_, hn', fun j y v' e1 e2 e3 => ?_⟩, fun y c e => ?_, I.free, I.freeC, fun p hp => ?_, tracked ⟨oL, hoL, I.free⟩ hs, by simpa using I.len⟩ ⟨_, hs, .inl rfl⟩
    · exact (hs.2 b (Nat.ne_of_lt (Nat.lt_of_lt_of_le (Heap.lt_size e) I.ok.above))).trans (I.base.keep b o e n hb hx)
    · obtain ⟨sl, e1⟩ := I.base.slot b o e n hb hx
      exact ⟨sl, (hs.2 b (Nat.ne_of_lt (Nat.lt_of_lt_of_le (Heap.lt_size e) I.ok.above))).trans e1⟩
    · obtain ⟨o', e1⟩ := I.base.there b o e hx
      exact ⟨o', (hs.2 b (Nat.ne_of_lt (Nat.lt_of_lt_of_le (Heap.lt_size e) I.ok.above))).trans e1⟩
    · by_cases hj : j = i
      · subst hj
        rw [hi] at e1; cases e1
        rw [List.getElem?_set_self hiσ] at e2
        cases e2
        exact ⟨u, r, .inl ⟨hk, by simp⟩⟩
      · rw [List.getElem?_set_ne (Ne.symm hj)] at e2
        obtain ⟨u', r', q⟩ := hl j y v' e1 e2 e3
        refine ⟨u', r', ?_⟩
        rcases q with ⟨k, e⟩ | ⟨k, c, e, z⟩
        · refine .inl ⟨k, ?_⟩
          have : y ≠ x := fun e => hj (nodup_ix hN e1 (e ▸ hi))
          simp [this, e]
        · exact .inr ⟨k, c, e, z.sameBut hs (cne y c e)⟩
    · obtain ⟨w', z⟩ := I.cell y c e
      exact ⟨w', z.sameBut hs (cne y c e)⟩
    · obtain ⟨e, n, ne, nf, d⟩ := I.pin p hp
      exact ⟨(hs.2 p.1 ne).trans e, n, ne, nf, d⟩
  · have hfn : X.fn x = true := by
      rcases hf with z | z
      · exact z
      · rw [z] at hk; cases hk
    obtain ⟨c, hc⟩ := I.ok.has x (.inl hk)
    obtain ⟨w', z⟩ := I.cell x c hc
    refine wpAny_storeName_cell I.ok.kind hk hc z (fun h' hc' hs => ?_)
    obtain ⟨oc, hoc, hocd⟩ := id z
    refine h { s with heap := h' } ⟨I.ok, I.os, I.bare, ⟨fun b o e n hb hx => ?_, fun b o e n hb hx => ?_, I.base.free, fun b o e hx => ?_, I.base.tups, I.base.frzs, I.base.tbls⟩, ⟨m, hn.sameBut hs (Ne.symm (cne x c hc)), fun j y v' e1 e2 e3 => ?_⟩, fun y c' e => ?_, I.free, I.freeC, fun p hp => ?_, tracked ⟨oc, hoc, I.freeC x c hc⟩ hs, by simpa using I.len⟩ ⟨c, hs, .inr hc⟩
    · exact (hs.2 b (Nat.ne_of_lt (Nat.lt_of_lt_of_le (Heap.lt_size e) (I.ok.cab x c hfn hc)))).trans (I.base.keep b o e n hb hx)
    · obtain ⟨sl, e1⟩ := I.base.slot b o e n hb hx
      exact ⟨sl, (hs.2 b (Nat.ne_of_lt (Nat.lt_of_lt_of_le (Heap.lt_size e) (I.ok.cab x c hfn hc)))).trans e1⟩
    · obtain ⟨o', e1⟩ := I.base.there b o e hx
      exact ⟨o', (hs.2 b (Nat.ne_of_lt (Nat.lt_of_lt_of_le (Heap.lt_size e) (I.ok.cab x c hfn hc)))).trans e1⟩
    · by_cases hj : j = i
      · subst hj
        rw [hi] at e1; cases e1
        rw [List.getElem?_set_self hiσ] at e2
        cases e2
        exact ⟨u, r, .inr ⟨.inl hk, c, hc, hc'⟩⟩
      · rw [List.getElem?_set_ne (Ne.symm hj)] at e2
        obtain ⟨u', r', q⟩ := hl j y v' e1 e2 e3
        refine ⟨u', r', ?_⟩
        rcases q with q | ⟨k, c', e, z'⟩
        · exact .inl q
        · refine .inr ⟨k, c', e, z'.sameBut hs ?_⟩
          rintro rfl
          exact hj (nodup_ix hN e1 (I.ok.inj _ _ _ e hc ▸ hi))
    · by_cases hcc : c' = c
      · subst hcc; exact ⟨_, hc'⟩
      · obtain ⟨w2, z2⟩ := I.cell y c' e
        exact ⟨w2, z2.sameBut hs hcc⟩
    · obtain ⟨e, n, ne, nf, d⟩ := I.pin p hp
      refine ⟨(hs.2 p.1 ?_).trans e, n, ne, nf, d⟩
      intro q
      rw [q, hoc] at e
      have q' : oc = p.2 := Option.some.inj e
      exact d w' (by rw [← q']; exact hocd)
theorem store_ok {M : Model} {A : Around} {E : Value → Shared → Prop} {i : Nat} {x : Str} {v : V} {u : Value} {Q : Unit → Shared → Prop} (I : Inv X pins σ H s) (hN : X.N.Nodup) (hi : X.N[i]? = some x) (hx : Loc X.env.scope x) (r : RelV v u)
    (h : ∀ s', Inv X pins (σ.set i (some v)) H s' → Q () s') (hf : X.fn x = true ∨ X.env.scope.names.lookup x = some .local := by first | exact .inl rfl | exact .inr rfl | assumption) : wpAny M A (storeName X.env x u) Q E s :=
  store_ok2 I hN hi hx r (fun s' I' _ => h s' I') hf
theorem Inv.call' {s' : Shared} {ch : List Addr} (I : Inv X pins σ H s) (ho : s'.os = s.os) (u : Un (frs X.stack) ch H H' s.heap s'.heap) (hok : HOk X.prog X.w H' s'.heap) (hg : AllBare s'.gens)
    (hch : ∀ b ∈ ch, (b ∈ X.ex ∨ X.s₀.heap.objs.size ≤ b) ∧ b ≠ X.env.locals ∧ (∀ x c, X.env.cells.lookup x = some c → c ≠ b) ∧ ∀ p ∈ X.pn ++ pins, p.1 ≠ b) : Inv X pins σ H' s' := by
  obtain ⟨h', g', d', t', o'⟩ := s'
  have e : o' = s.os := ho
  subst e
  exact I.call (g' := g') (t' := t') (d' := d') u hok hg hch
end
abbrev XK := Value → Option Addr → Hp → Prop
abbrev St := List (Option V)
abbrev VK := V → Hp → Prop
abbrev TE := St → Hp → VK → Prop
abbrev TT := St → Hp → (Bool → Hp → Prop) → Prop
abbrev TA := St → Hp → (List V → Hp → Prop) → Prop
structure Ends where
  nx : St → Hp → Prop
  rt : VK
  bk : St → Hp → Prop := fun _ _ => False
  ct : St → Hp → Prop := fun _ _ => False
abbrev TS := Ends → St → Hp → Prop
def EP (X : Cx) (pins : List (Addr × Obj)) (σ : St) (Q : VK) (u : Value) (s' : Shared) : Prop := ∃ v H', Inv X pins σ H' s' ∧ RelV v u ∧ Q v H'
def TP (X : Cx) (pins : List (Addr × Obj)) (σ : St) (Q : Bool → Hp → Prop) (b : Bool) (s' : Shared) : Prop := ∃ H', Inv X pins σ H' s' ∧ Q b H'
def AP (X : Cx) (pins : List (Addr × Obj)) (σ : St) (Q : List V → Hp → Prop) (us : List Value) (s' : Shared) : Prop := ∃ vs H', Inv X pins σ H' s' ∧ Vals vs us ∧ Q vs H'
def SP (X : Cx) (pins : List (Addr × Obj)) (D : Ends) (f : Flow) (s' : Shared) : Prop :=
  match f with
  | .next => ∃ σ' H', Inv X pins σ' H' s' ∧ D.nx σ' H'
  | .brk => ∃ σ' H', Inv X pins σ' H' s' ∧ D.bk σ' H'
  | .cont => ∃ σ' H', Inv X pins σ' H' s' ∧ D.ct σ' H'
  | .ret u => ∃ v σ' H', Inv X pins σ' H' s' ∧ RelV v u ∧ D.rt v H'
def PE (X : Cx) (e : Expr) (t : TE) : Prop :=
  ∀ (pins : List (Addr × Obj)) (s : Shared) (σ : St) (H : Hp) (Q : VK), Inv X pins σ H s → t σ H Q → wpAny (model X.prog X.w) X.A (eval e X.env) (EP X pins σ Q) X.xe s
def PT (X : Cx) (e : Expr) (t : TT) : Prop :=
  ∀ (pins : List (Addr × Obj)) (s : Shared) (σ : St) (H : Hp) (Q : Bool → Hp → Prop), Inv X pins σ H s → t σ H Q → wpAny (model X.prog X.w) X.A (isTrue e X.env (eval e X.env)) (TP X pins σ Q) X.xe s
def PW (X : Cx) (e : Expr) (t : TT) : Prop :=
  ∀ (whole : Sem Value) (pins : List (Addr × Obj)) (s : Shared) (σ : St) (H : Hp) (Q : Bool → Hp → Prop), Inv X pins σ H s → t σ H Q → wpAny (model X.prog X.w) X.A (isTrue e X.env whole) (TP X pins σ Q) X.xe s
theorem PW.pt {X : Cx} {e : Expr} {t : TT} (h : PW X e t) : PT X e t := h _
def PA (X : Cx) (es : List Expr) (t : TA) : Prop :=
  ∀ (pos : Pos) (pins : List (Addr × Obj)) (s : Shared) (σ : St) (H : Hp) (Q : List V → Hp → Prop), Inv X pins σ H s → t σ H Q → wpAny (model X.prog X.w) X.A (spliced (backTo pos (starEach es X.env))) (AP X pins σ Q) X.xe s
def PS (X : Cx) (st : Stmt) (t : TS) : Prop :=
  ∀ (pins : List (Addr × Obj)) (s : Shared) (σ : St) (H : Hp) (D : Ends), Inv X pins σ H s → t D σ H → wpAny (model X.prog X.w) X.A (exec st X.env) (SP X pins D) X.xe s
def PSs (X : Cx) (st : List Stmt) (t : TS) : Prop :=
  ∀ (pins : List (Addr × Obj)) (s : Shared) (σ : St) (H : Hp) (D : Ends), Inv X pins σ H s → t D σ H → wpAny (model X.prog X.w) X.A (execs st X.env) (SP X pins D) X.xe s
theorem thn {α : Type} {t : Sem α} {Q Q' : α → Shared → Prop} {M : Model} {A : Around} {E : Value → Shared → Prop} {s : Shared} (h : wpAny M A t Q E s) (hQ : ∀ a s, Q a s → Q' a s) : wpAny M A t Q' E s := wpAny_mono h hQ fun _ _ x => x
end L2
namespace L2
open PySem PySem.Spec PyProof.Rows
section
variable {X : Cx}
theorem bin {a b : Expr} {ta tb : TE} (ha : PE X a ta) (hb : PE X b tb) {pins : List (Addr × Obj)} {s : Shared} {σ : St} {H : Hp} {R : V → V → Hp → Prop} (I : Inv X pins σ H s) (h : ta σ H fun x H1 => tb σ H1 fun y H2 => R x y H2)
    {α : Type} {Q : α → Shared → Prop} {f : Value → Value → Sem α}
    (hf : ∀ v u s2 x y H2, Inv X pins σ H2 s2 → RelV x v → RelV y u → R x y H2 → wpAny (model X.prog X.w) X.A (f v u) Q X.xe s2) :
    wpAny (model X.prog X.w) X.A (eval a X.env) (fun v s₁ => wpAny (model X.prog X.w) X.A (eval b X.env) (fun u s₂ => wpAny (model X.prog X.w) X.A (f v u) Q X.xe s₂) X.xe s₁) X.xe s := by
  refine thn (ha pins s σ H _ I h) fun v s1 ⟨x, H1, I1, r1, q1⟩ => ?_
  refine thn (hb pins s1 σ H1 _ I1 q1) fun u s2 ⟨y, H2, I2, r2, q2⟩ => ?_
  exact hf v u s2 x y H2 I2 r1 r2 q2
def tVar (i : Nat) : TE := fun σ H Q => ∃ v, σ[i]? = some (some v) ∧ Q v H
def tC (v : V) : TE := fun _ H Q => Q v H
theorem pe_var {i : Nat} {x : Str} {pos : Pos} (hN : X.N[i]? = some x) (hv : Vis X.env.scope x) (hd : (x == ("__debug__" : Str)) = false := by decide) (hcd : (x == ("__classdict__" : Str)) = false := by decide) : PE X (.Name x pos) (tVar i) := by
  intro pins s σ H Q I h
  obtain ⟨v, e, h⟩ := h
  obtain ⟨m, hn, hl⟩ := I.loc
  obtain ⟨u, r, l⟩ := hl i x v hN e hv
  have fin : EP X pins σ Q u s := ⟨v, H, I, r, h⟩
  rcases l with ⟨hk, hm⟩ | ⟨hk, c, hc, hcell⟩
  · exact wpAny_Name (wpAny_loadName_local I.ok.kind hk hn hm fin) hd
  · rcases hk with hk | hk
    · exact wpAny_Name (wpAny_loadName_cell I.ok.kind hk hc hcell fin) hd
    · exact wpAny_Name (wpAny_loadName_free I.ok.kind hk hc hcell fin hcd) hd
theorem pe_int {i j pos} : PE X (.Constant (.int i) j pos) (tC (.int i)) := fun _ _ _ H _ I h => wpAny_Constant_int ⟨.int i, H, I.tok _, ⟨_, rfl⟩, h⟩
theorem pe_bl {b j pos} : PE X (.Constant (.bool b) j pos) (tC (.bl b)) := fun _ _ _ H _ I h => Constant_bool ⟨.bl b, H, I, rfl, h⟩
theorem pe_non {j pos} : PE X (.Constant .none j pos) (tC .non) := fun _ _ _ H _ I h => Constant_none ⟨.non, H, I, rfl, h⟩
theorem pe_str {x j pos} : PE X (.Constant (.str x) j pos) (tC (.str x)) := fun _ _ _ H _ I h => Calls.Constant_str ⟨.str x, H, I.tok _, ⟨_, rfl⟩, h⟩
def Gl (X : Cx) (x : Str) : Prop := X.env.kindOf x = some .globalImplicit
theorem ld_glob {E : Value → Shared → Prop} {pins : List (Addr × Obj)} {s : Shared} {σ : St} {H : Hp} {x : Str} {u : Value} {pos : Pos} {Q : Value → Shared → Prop} (I : Inv X pins σ H s) (hg : Gl X x) (hm : X.mg x = some u) (h : Q u s)
    (hd : (x == ("__debug__" : Str)) = false := by decide) : wpAny (model X.prog X.w) X.A (eval (.Name x pos) X.env) Q E s :=
  Calls.Name_function_global I.ok.kind hg (Calls.loadGlobal_global (by rw [I.ok.glob]; exact I.mod.glob.keeps I.bk) hm h) hd
theorem ld_blt {E : Value → Shared → Prop} {pins : List (Addr × Obj)} {s : Shared} {σ : St} {H : Hp} {x : Str} {u : Value} {pos : Pos} {Q : Value → Shared → Prop} (I : Inv X pins σ H s) (hg : Gl X x) (hm : X.mg x = none) (hv : bootBuiltins x = some u) (h : Q u s)
    (hn : x ≠ "__name__" := by decide) (hd : (x == ("__debug__" : Str)) = false := by decide) : wpAny (model X.prog X.w) X.A (eval (.Name x pos) X.env) Q E s := by
  obtain ⟨mb, h1, h2⟩ := I.mod.blt
  exact Calls.Name_function_global I.ok.kind hg (Calls.loadGlobal_builtin (by rw [I.ok.glob]; exact I.mod.glob.keeps I.bk) hm (by rw [I.ok.blt]; exact h1.keeps I.bk) ((h2 x hn).trans hv) h) hd
theorem pe_glob {x : Str} {v : V} {u : Value} {pos : Pos} (hg : Gl X x) (hm : X.mg x = some u) (r : RelV v u) (hd : (x == ("__debug__" : Str)) = false := by decide) : PE X (.Name x pos) (tC v) :=
  fun _ _ _ H _ I h => ld_glob I hg hm ⟨v, H, I, r, h⟩ hd
theorem pe_bltn {x : Str} {v : V} {u : Value} {pos : Pos} (hg : Gl X x) (hm : X.mg x = none) (hv : bootBuiltins x = some u) (r : RelV v u) (hn : x ≠ "__name__" := by decide) (hd : (x == ("__debug__" : Str)) = false := by decide) : PE X (.Name x pos) (tC v) :=
  fun _ _ _ H _ I h => ld_blt I hg hm hv ⟨v, H, I, r, h⟩ hn hd
variable {a b : Expr} {ta tb : TE} {pos : Pos}
def PC (X : Cx) (op : CmpOp) (a b : Expr) (t : TE) : Prop :=
  ∀ (pins : List (Addr × Obj)) (s : Shared) (σ : St) (H : Hp) (Q : VK), Inv X pins σ H s → t σ H Q →
    wpAny (model X.prog X.w) X.A (eval a X.env) (fun v s₁ => wpAny (model X.prog X.w) X.A (eval b X.env) (fun u s₂ => wpAny (model X.prog X.w) X.A (compareOp op v u) (EP X pins σ Q) X.xe s₂) X.xe s₁) X.xe s
theorem nobehind (b : Expr) {op : CmpOp} (h : op ≠ .In) (h2 : op ≠ .NotIn) : behindInMarks op b = false := by
  have e1 : (op == CmpOp.In) = false := by cases op <;> first | rfl | exact absurd rfl h
  have e2 : (op == CmpOp.NotIn) = false := by cases op <;> first | rfl | exact absurd rfl h2
  cases b <;> simp [behindInMarks, e1, e2]
def tB (t : TE) : TT := fun σ H Q => t σ H fun x H1 => ∃ c, x = .bl c ∧ Q c H1
theorem pe_cmp {op : CmpOp} {t : TE} (h : PC X op a b t) (h1 : behindInMarks op b = false := by first | exact nobehind _ (by decide) (by decide) | rfl) : PE X (.Compare a [op] [b] pos) t := fun pins s σ H Q I hw => wpAny_Compare1 (h pins s σ H Q I hw) h1
theorem pt_cmp {op : CmpOp} {t : TE} (h : PC X op a b t) (h1 : behindInMarks op b = false := by first | exact nobehind _ (by decide) (by decide) | rfl) : PT X (.Compare a [op] [b] pos) (tB t) := by
  intro pins s σ H Q I hw
  refine wpAny_isTrue_Compare1 (thn (h pins s σ H _ I hw) fun v s1 h1 => thn h1 fun u s2 h2 => thn h2 fun c s3 ⟨x, H1, I1, r1, q1⟩ => ?_) h1
  obtain ⟨d, rfl, q⟩ := q1
  cases r1
  exact wpAny_truthy_bool ⟨H1, I1, q⟩
theorem pt_val {e : Expr} {t : TE} (h : PE X e t) (he : ∀ whole, isTrue e X.env whole = (do let v ← whole; standAt e.pos; holding [v] (truthy v)) := by intro _; rfl) : PT X e (tB t) := by
  intro pins s σ H Q I hw
  refine isTrue_plain (thn (h pins s σ H _ I hw) fun v s1 ⟨x, H1, I1, r1, q1⟩ => ?_) (he _)
  obtain ⟨d, rfl, q⟩ := q1
  cases r1
  exact wpAny_truthy_bool ⟨H1, I1, q⟩
variable {tA tB' : TT} {rest : List Expr}
def tAnd (t u : TT) : TT := fun σ H Q => t σ H fun c H1 => if c = true then u σ H1 Q else Q false H1
def tOr (t u : TT) : TT := fun σ H Q => t σ H fun c H1 => if c = true then Q true H1 else u σ H1 Q
def tNot (t : TT) : TT := fun σ H Q => t σ H fun c H1 => Q (!c) H1
theorem pw_and1 (ha : PT X a tA) : PW X (.BoolOp .And [a] pos) tA := by
  intro wh pins s σ H Q I h
  refine isTrue_and (thn (ha pins s σ H Q I h) fun c s1 e => ?_)
  cases c with
  | true => exact isTrue_and_nil e
  | false => exact e
theorem pw_or1 (ha : PT X a tA) : PW X (.BoolOp .Or [a] pos) tA := by
  intro wh pins s σ H Q I h
  refine isTrue_or (thn (ha pins s σ H Q I h) fun c s1 e => ?_)
  cases c with
  | false => exact isTrue_or_nil e
  | true => exact e
theorem pw_and (ha : PT X a tA) (hb : PW X (.BoolOp .And (b :: rest) pos) tB') : PW X (.BoolOp .And (a :: b :: rest) pos) (tAnd tA tB') := by
  intro wh pins s σ H Q I h
  refine isTrue_and (thn (ha pins s σ H _ I h) fun c s1 ⟨H1, I1, q1⟩ => ?_)
  cases c with
  | true => exact hb wh pins s1 σ H1 Q I1 q1
  | false => exact ⟨H1, I1, q1⟩
theorem pw_or (ha : PT X a tA) (hb : PW X (.BoolOp .Or (b :: rest) pos) tB') : PW X (.BoolOp .Or (a :: b :: rest) pos) (tOr tA tB') := by
  intro wh pins s σ H Q I h
  refine isTrue_or (thn (ha pins s σ H _ I h) fun c s1 ⟨H1, I1, q1⟩ => ?_)
  cases c with
  | true => exact ⟨H1, I1, q1⟩
  | false => exact hb wh pins s1 σ H1 Q I1 q1
theorem pt_not (ha : PT X a tA) : PT X (.UnaryOp .Not a pos) (tNot tA) := by
  intro pins s σ H Q I h
  exact isTrue_not (ha pins s σ H (fun c H1 => Q (!c) H1) I h)
def tAndV (ta tb : TE) : TE := fun σ H Q => ta σ H fun x H1 => ∃ c, x = .bl c ∧ if c = true then tb σ H1 Q else Q (.bl false) H1
def tNotV (ta : TE) : TE := fun σ H Q => ta σ H fun x H1 => ∃ c, x = .bl c ∧ Q (.bl (!c)) H1
theorem pe_one {op} {t : TE} (h : PE X a t) : PE X (.BoolOp op [a] pos) t := fun pins s σ H Q I hw => BoolOp_one (h pins s σ H Q I hw)
theorem pe_and (ha : PE X a ta) (hb : PE X (.BoolOp .And (b :: rest) pos) tb) : PE X (.BoolOp .And (a :: b :: rest) pos) (tAndV ta tb) := by
  intro pins s σ H Q I h
  refine BoolOp_and (thn (ha pins s σ H _ I h) fun v s1 ⟨x, H1, I1, r1, q1⟩ => ?_)
  obtain ⟨c, rfl, q1⟩ := q1
  cases r1
  refine wpAny_truthy_bool ?_
  cases c with
  | true => exact hb pins s1 σ H1 Q I1 q1
  | false => exact ⟨.bl false, H1, I1, rfl, q1⟩
theorem pe_not (ha : PE X a ta) : PE X (.UnaryOp .Not a pos) (tNotV ta) := by
  intro pins s σ H Q I h
  refine UnaryOp_ (thn (ha pins s σ H _ I h) fun v s1 ⟨x, H1, I1, r1, q1⟩ => ?_)
  obtain ⟨c, rfl, q1⟩ := q1
  cases r1
  exact not_of (wpAny_truthy_bool ⟨.bl (!c), H1, I1, rfl, q1⟩)
end
end L2
namespace L2
open PySem PySem.Spec PyProof.Rows
def SqL (K : PySem.W.Frag) (H : Hp) (a : Addr) (xs : List V) : Prop :=
  Rd H a (.lst xs) ∨
    ∃ (o : Obj) (its : Array Value) (n : Nat), K.lookup a = some o ∧ o.cls = .type "list" ∧ o.dict = none ∧ o.data = .seq its n ∧ its.size ≤ sizeLine ∧ Vals xs its.toList
def SqT (K : PySem.W.Frag) (H : Hp) (a : Addr) (xs : List V) : Prop :=
  Rd H a (.tup xs) ∨
    ∃ (o : Obj) (its : Array Value) (n : Nat), K.lookup a = some o ∧ o.cls = .type "tuple" ∧ o.data = .seq its n ∧ its.size ≤ sizeLine ∧ Vals xs its.toList
def absV : Value → Option V
  | .none => some .non
  | .bool b => some (.bl b)
  | .int i _ => some (.int i)
  | .str x _ => some (.str x)
  | .bytes b _ => some (.byt b)
  | .float b _ => some (.flt b)
  | .ref a => some (.ref a)
  | .type n => some (.ty n)
  | _ => none
theorem RelV.abs {x : V} {u : Value} (r : RelV x u) : absV u = some x := by
  cases x with
  | non => cases r; rfl
  | bl _ => cases r; rfl
  | int _ => obtain ⟨t, rfl⟩ := r; rfl
  | str _ => obtain ⟨t, rfl⟩ := r; rfl
  | byt _ => obtain ⟨t, rfl⟩ := r; rfl
  | flt _ => obtain ⟨t, rfl⟩ := r; rfl
  | ref _ => cases r; rfl
  | ty _ => cases r; rfl
theorem RelV.inj {x y : V} {u : Value} (r : RelV x u) (q : RelV y u) : x = y := Option.some.inj (r.abs.symm.trans q.abs)
theorem Vals.inj : ∀ {xs ys : List V} {us : List Value}, Vals xs us → Vals ys us → xs = ys
  | _, _, _, .nil, .nil => rfl
  | _, _, _, .cons r t, .cons r' t' => by rw [r.inj r', Vals.inj t t']
section
variable {X : Cx} {pins : List (Addr × Obj)} {σ : St} {H : Hp} {s : Shared} {a : Addr} {xs ys : List V}
theorem SqL.of {K : PySem.W.Frag} (h : H a = some (.lst xs)) : SqL K H a xs := .inl (.inl h)
theorem SqT.of {K : PySem.W.Frag} (h : H a = some (.tup xs)) : SqT K H a xs := .inl (.inl h)
theorem Inv.list (I : Inv X pins σ H s) (h : SqL X.K H a xs) : ∃ its : List Value, Vals xs its ∧ PlainL s.heap a its.toArray ∧ xs.length ≤ sizeLine := by
  rcases h with h | ⟨o, its, n, hk, hc, hd, hs, hz, r⟩
  · obtain ⟨z, its, n, r, e⟩ := h.ok I.hok
    exact ⟨its, r, ⟨_, n, e, rfl, rfl, rfl⟩, z⟩
  · refine ⟨its.toList, r, ⟨o, n, I.kIn a o hk, hc, hd, by simpa using hs⟩, ?_⟩
    have e := r.length
    simp only [Array.length_toList] at e
    omega
theorem Inv.tuple (I : Inv X pins σ H s) (h : SqT X.K H a xs) : ∃ its : List Value, Vals xs its ∧ IsTup s.heap a its.toArray ∧ xs.length ≤ sizeLine := by
  rcases h with h | ⟨o, its, n, hk, hc, hs, hz, r⟩
  · obtain ⟨z, its, r, p⟩ := h.ok I.hok
    exact ⟨its, r, p, z⟩
  · refine ⟨its.toList, r, ⟨o, I.kIn a o hk, hc, n, by simpa using hs⟩, ?_⟩
    have e := r.length
    simp only [Array.length_toList] at e
    omega
theorem Inv.list_inj (I : Inv X pins σ H s) (h : SqL X.K H a xs) (h' : SqL X.K H a ys) : xs = ys := by
  obtain ⟨its, r, ⟨o, n, e, _, _, d⟩, _⟩ := I.list h
  obtain ⟨its', r', ⟨o', n', e', _, _, d'⟩, _⟩ := I.list h'
  rw [e] at e'; cases e'
  rw [d] at d'
  injection d' with d1 _
  have : its = its' := by simpa using congrArg Array.toList d1
  subst this
  exact r.inj r'
theorem Inv.tuple_inj (I : Inv X pins σ H s) (h : SqT X.K H a xs) (h' : SqT X.K H a ys) : xs = ys := by
  obtain ⟨its, r, ⟨o, e, _, n, d⟩, _⟩ := I.tuple h
  obtain ⟨its', r', ⟨o', e', _, n', d'⟩, _⟩ := I.tuple h'
  rw [e] at e'; cases e'
  rw [d] at d'
  injection d' with d1 _
  have : its = its' := by simpa using congrArg Array.toList d1
  subst this
  exact r.inj r'
end
abbrev Cx.wish (X : Cx) (E : Value → Shared → Prop) : Cx := { X with xe := E }
abbrev Cx.nox (X : Cx) : Cx := X.wish fun _ _ => False
theorem Cx.Ok.wish {X : Cx} (ok : X.Ok) (E : Value → Shared → Prop) : (X.wish E).Ok :=
  ⟨ok.mod, ok.kind, ok.glob, ok.blt, ok.above, ok.inj, ok.has, ok.cab, ok.hd, ok.frames, ok.stk, ok.exf, ok.bs, ok.bsz, ok.noex, ok.exfs, ok.funs, ok.frf⟩
theorem Cx.Ok.unwish {X : Cx} {E : Value → Shared → Prop} (ok : (X.wish E).Ok) : X.Ok :=
  ⟨ok.mod, ok.kind, ok.glob, ok.blt, ok.above, ok.inj, ok.has, ok.cab, ok.hd, ok.frames, ok.stk, ok.exf, ok.bs, ok.bsz, ok.noex, ok.exfs, ok.funs, ok.frf⟩
section
variable {X : Cx} {pins : List (Addr × Obj)} {σ : St} {H : Hp} {s : Shared} {E : Value → Shared → Prop}
theorem Inv.wish (I : Inv X pins σ H s) (E : Value → Shared → Prop) : Inv (X.wish E) pins σ H s := ⟨I.ok.wish E, I.os, I.bare, I.base, I.loc, I.cell, I.free, I.freeC, I.pin, I.hok, I.len⟩
theorem Inv.unwish (I : Inv (X.wish E) pins σ H s) : Inv X pins σ H s := ⟨I.ok.unwish, I.os, I.bare, I.base, I.loc, I.cell, I.free, I.freeC, I.pin, I.hok, I.len⟩
theorem SP.unwish {D : Ends} {f : Flow} {s' : Shared} (h : SP (X.wish E) pins D f s') : SP X pins D f s' := by
  cases f with
  | next => obtain ⟨σ', H', I, q⟩ := h; exact ⟨σ', H', I.unwish, q⟩
  | brk => obtain ⟨σ', H', I, q⟩ := h; exact ⟨σ', H', I.unwish, q⟩
  | cont => obtain ⟨σ', H', I, q⟩ := h; exact ⟨σ', H', I.unwish, q⟩
  | ret u => obtain ⟨v, σ', H', I, r, q⟩ := h; exact ⟨v, σ', H', I.unwish, r, q⟩
theorem PSs.nox {st : List Stmt} {t : TS} (h : PSs X.nox st t) : PSs X st t := fun pins s σ H D I hw =>
  wpAny_mono (h pins s σ H D (I.wish _) hw) (fun _ _ q => q.unwish) fun _ _ z => False.elim z
end
section
variable {X : Cx} {st : Stmt} {rest : List Stmt} {t u : TS} {e : Expr} {te : TE} {pos : Pos}
def tNext : TS := fun D σ H => D.nx σ H
def tSeq (t u : TS) : TS := fun D σ H => t { D with nx := u D } σ H
theorem pss_nil : PSs X [] tNext := fun _ _ σ H _ I h => wpAny_execs_nil ⟨σ, H, I, h⟩
theorem pss_cons (h1 : PS X st t) (h2 : PSs X rest u) : PSs X (st :: rest) (tSeq t u) := by
  intro pins s σ H D I h
  refine wpAny_execs_cons (thn (h1 pins s σ H { D with nx := u D } I h) fun f s1 q => ?_)
  cases f with
  | next =>
    obtain ⟨σ', H', I', q⟩ := q
    exact h2 pins s1 σ' H' D I' q
  | ret v => exact q
  | brk => exact q
  | cont => exact q
theorem pss_one (h1 : PS X st t) : PSs X [st] t := by
  intro pins s σ H D I h
  refine wpAny_execs_cons (thn (h1 pins s σ H D I h) fun f s1 q => ?_)
  cases f with
  | next => exact wpAny_execs_nil q
  | ret v => exact q
  | brk => exact q
  | cont => exact q
theorem Inv.quiet {pins : List (Addr × Obj)} {σ : St} {H : Hp} {s : Shared} (I : Inv X pins σ H s) : interactive X.env = false := by simp [interactive, I.ok.kind]
def tDrop (te : TE) : TS := fun D σ H => te σ H fun _ H1 => D.nx σ H1
theorem ps_expr (he : PE X e te) (hs : swapsWith e none pos.line X.env = pure false := by rfl) : PS X (.Expr e pos) (tDrop te) := by
  intro pins s σ H D I h
  exact wpAny_Expr_any (thn (he pins s σ H _ I h) fun v s1 ⟨x, H1, I1, r1, q1⟩ => ⟨σ, H1, I1, q1⟩) I.quiet hs
def tRet (te : TE) : TS := fun D σ H => te σ H D.rt
theorem ps_ret (he : PE X e te) : PS X (.Return (some e) pos) (tRet te) := by
  intro pins s σ H D I h
  exact wpAny_Return_some (thn (he pins s σ H _ I h) fun v s1 ⟨x, H1, I1, r1, q1⟩ => ⟨x, σ, H1, I1, r1, q1⟩)
def tIfS (c : TT) (t u : TS) : TS := fun D σ H => c σ H fun b H1 => if b = true then t D σ H1 else u D σ H1
theorem ps_if {c : Expr} {a b : List Stmt} {tc : TT} (hc : PT X c tc) (ha : PSs X a t) (hb : PSs X b u) : PS X (.If c a b pos) (tIfS tc t u) := by
  intro pins s σ H D I h
  refine wpAny_If (thn (hc pins s σ H _ I h) fun d s1 ⟨H1, I1, q1⟩ => ?_)
  cases d with
  | true => exact ha pins s1 σ H1 D I1 q1
  | false => exact hb pins s1 σ H1 D I1 q1
def tNever : TS := fun _ _ _ => False
theorem ps_never : PS X st tNever := fun _ _ _ _ _ _ h => h.elim
end
abbrev TG := V → St → Hp → (St → Hp → Prop) → Prop
abbrev TGs := List V → St → Hp → (St → Hp → Prop) → Prop
def PG (X : Cx) (target : Expr) (t : TG) : Prop :=
  ∀ (pins : List (Addr × Obj)) (s : Shared) (σ : St) (H : Hp) (v : V) (u : Value) (Q : St → Hp → Prop), Inv X pins σ H s → RelV v u → t v σ H Q →
    wpAny (model X.prog X.w) X.A (assign target X.env u) (fun _ s' => ∃ σ' H', Inv X pins σ' H' s' ∧ Q σ' H') X.xe s
def PGs (X : Cx) (ts : List Expr) (t : TGs) : Prop :=
  ∀ (pins : List (Addr × Obj)) (s : Shared) (σ : St) (H : Hp) (vs : List V) (us : List Value) (Q : St → Hp → Prop), Inv X pins σ H s → Vals vs us → t vs σ H Q →
    wpAny (model X.prog X.w) X.A (assignInOrder ((assignEach ts X.env).map (·.2)) us) (fun _ s' => ∃ σ' H', Inv X pins σ' H' s' ∧ Q σ' H') X.xe s
section
variable {X : Cx} {pos : Pos}
def gName (i : Nat) : TG := fun v σ H Q => Q (σ.set i (some v)) H
theorem pg_name {i : Nat} {x : Str} (hN : X.N.Nodup) (hi : X.N[i]? = some x) (hx : Loc X.env.scope x) (hf : X.fn x = true ∨ X.env.scope.names.lookup x = some .local := by first | exact .inl rfl | exact .inr rfl | assumption) : PG X (.Name x pos) (gName i) := by
  intro pins s σ H v u Q I r h
  exact wpAny_assign_Name (store_ok I hN hi hx r (fun s' I' => ⟨_, H, I', h⟩) hf)
def gNil : TGs := fun vs σ H Q => vs = [] ∧ Q σ H
def gCons (t : TG) (u : TGs) : TGs := fun vs σ H Q => ∃ v r, vs = v :: r ∧ t v σ H fun σ' H' => u r σ' H' Q
theorem pgs_nil : PGs X [] gNil := by
  intro pins s σ H vs us Q I r h
  obtain ⟨e, h⟩ := h
  subst e
  cases r
  exact assignInOrder_nil ⟨σ, H, I, h⟩
theorem pgs_cons {e : Expr} {es : List Expr} {t : TG} {u : TGs} (h1 : PG X e t) (h2 : PGs X es u)
    (hs : (assignEach (e :: es) X.env).map (·.2) = assign e X.env :: (assignEach es X.env).map (·.2) := by rfl) : PGs X (e :: es) (gCons t u) := by
  intro pins s σ H vs us Q I r h
  obtain ⟨v, vr, e1, h⟩ := h
  subst e1
  cases r with
  | cons r rr =>
    rw [hs]
    refine assignInOrder_cons (thn (h1 pins s σ H _ _ _ I r h) fun _ s1 ⟨σ1, H1, I1, q1⟩ => ?_)
    exact h2 pins s1 σ1 H1 _ _ Q I1 rr q1
def gTup (K : PySem.W.Frag) (n : Nat) (t : TGs) : TG := fun v σ H Q => ∃ a xs, v = .ref a ∧ SqT K H a xs ∧ xs.length = n ∧ t xs σ H Q
theorem pg_tup {es : List Expr} {k : Nat} {t : TGs} {n : Nat} (hc : X.calm = true) (h : PGs X es t)
    (hn : (assignEach es X.env).length = n := by rfl) (hst : (assignEach es X.env).findIdx? (·.1) = none := by rfl) : PG X (.Tuple es k pos) (gTup X.K n t) := by
  intro pins s σ H v u Q I r hw
  obtain ⟨a, xs, e1, hq, hl, hw⟩ := hw
  subst e1
  cases r
  obtain ⟨its, rv, ht, hz⟩ := I.tuple hq
  refine assign_Tuple_tuple (I.ok.hd hc) ht (by simp [hn, ← hl, rv.length]) hst fun h' hx => ?_
  have I1 : Inv X pins σ H { s with heap := h' } := I.kept (t' := s.toks) fun b o e => hx b o (Nat.ne_of_lt (Heap.lt_size e)) e
  exact h pins _ σ H xs _ Q I1 (by simpa using rv) hw
def tAsg (te : TE) (g : TG) : TS := fun D σ H => te σ H fun x H1 => g x σ H1 D.nx
theorem ps_asg {tg e : Expr} {te : TE} {g : TG} (he : PE X e te) (hg : PG X tg g) (hs : swapsWithSole [tg] e pos.line X.env = pure false := by rfl) (hw : swappedStores [tg] e X.env = pure none := by rfl)
    (h1 : (assignEach [tg] X.env).map (·.2) = [assign tg X.env] := by rfl) : PS X (.Assign [tg] e pos) (tAsg te g) := by
  intro pins s σ H D I h
  refine wpAny_Assign_stores (thn (he pins s σ H _ I h) fun v s1 ⟨x, H1, I1, r1, q1⟩ => ?_) hs hw
  rw [h1]
  exact thn (hg pins s1 σ H1 x v _ I1 r1 q1) fun _ s2 q => q
theorem ps_set {i : Nat} {x : Str} {e : Expr} {te : TE} {pos' : Pos} (hN : X.N.Nodup) (hi : X.N[i]? = some x) (hx : Loc X.env.scope x) (he : PE X e te) (hs : swapsWith e (some (.Name x pos')) pos.line X.env = pure false := by rfl) (hf : X.fn x = true ∨ X.env.scope.names.lookup x = some .local := by first | exact .inl rfl | exact .inr rfl | assumption) :
    PS X (.Assign [.Name x pos'] e pos) (tAsg te (gName i)) := by
  intro pins s σ H D I h
  refine wpAny_Assign_Name (thn (he pins s σ H _ I h) fun v s1 ⟨y, H1, I1, r1, q1⟩ => ?_) hs
  exact store_ok I1 hN hi hx r1 (fun s2 I2 => ⟨_, H1, I2, q1⟩) hf
end
section
variable {X : Cx} {pos : Pos}
end
structure It where
  go : Nat → Hp → Prop
  yld : Nat → Hp → V → Hp → Prop
  stop : Nat → Hp → Prop
def FpOk (X : Cx) (pins : List (Addr × Obj)) (H : Hp) (b : Addr) : Prop :=
  H b = none ∧ b ≠ X.env.locals ∧ b ∉ X.fs ∧ (b ∈ X.ex ∨ X.s₀.heap.objs.size ≤ b) ∧ (∀ x c, X.env.cells.lookup x = some c → c ≠ b) ∧ ∀ p ∈ X.pn ++ pins, p.1 ≠ b
theorem Inv.fpOk {X : Cx} {pins : List (Addr × Obj)} {σ : St} {H H' : Hp} {s : Shared} {b : Addr} (I : Inv X pins σ H s) (hb : s.heap.objs.size ≤ b) (hn : H' b = none) : FpOk X pins H' b := by
  refine ⟨hn, Nat.ne_of_gt (Nat.lt_of_lt_of_le I.lt hb), I.nofs hb, .inr (Nat.le_trans I.sz hb), fun x c e z => ?_, fun p hp z => ?_⟩
  · obtain ⟨v, q⟩ := I.cell x c e
    exact absurd (Nat.lt_of_lt_of_le q.lt (by rw [z]; exact hb)) (Nat.lt_irrefl _)
  · exact absurd (Nat.lt_of_lt_of_le (Heap.lt_size (I.pin p hp).1) (by rw [z]; exact hb)) (Nat.lt_irrefl _)
structure Turn (P : Program) (w : World) (K : PySem.W.Frag) (tg : Expr) (J : It) (fp : List Addr) (it : Addr) (tn : Nat → Heap → Prop) : Prop where
  mem : it ∈ fp
  obj : ∀ i h, tn i h → ∀ b ∈ fp, ∃ o, h.get? b = some o ∧ ∀ v, o.data ≠ .cell v
  keep : ∀ i h h', tn i h → (∀ b ∈ fp, ∀ o, h.get? b = some o → h'.get? b = some o) → tn i h'
  item : ∀ (X : Cx), X.prog = P → X.w = w → X.K = K → X.calm = true → ∀ (i : Nat) (pins : List (Addr × Obj)) (s : Shared) (σ : St) (H : Hp) (E : Value → Shared → Prop), Inv X pins σ H s → (∀ b ∈ fp, FpOk X pins H b) → tn i s.heap → J.go i H →
    wpAny (model P w) X.A (pyNext (.ref it)) (fun r s1 => ∃ u, r = some u ∧
      wpAny (model P w) X.A (letOwnedTupleGo tg (.ref it) u) (fun _ s2 => ∃ x H', Inv X pins σ H' s2 ∧ RelV x u ∧ J.yld i H x H' ∧ tn (i + 1) s2.heap ∧ ∀ b ∈ fp, H' b = none) E s1) E s
  done : ∀ (X : Cx), X.prog = P → X.w = w → X.K = K → X.calm = true → ∀ (i : Nat) (pins : List (Addr × Obj)) (s : Shared) (σ : St) (H : Hp) (E : Value → Shared → Prop), Inv X pins σ H s → (∀ b ∈ fp, FpOk X pins H b) → tn i s.heap → J.stop i H →
    wpAny (model P w) X.A (pyNext (.ref it)) (fun r s1 => r = none ∧ Inv X pins σ H s1) E s
  self : ∀ (A : Around) (i : Nat) (s : Shared) (Q : Value → Shared → Prop) (E : Value → Shared → Prop), tn i s.heap → Q (.ref it) s → wpAny (model P w) A (pyIter (.ref it)) Q E s
abbrev TI := St → Hp → (It → Hp → Prop) → Prop
def PIE (X : Cx) (pins : List (Addr × Obj)) (σ : St) (tg : Expr) (R : It → Hp → Prop) (itv : Value) (s2 : Shared) : Prop :=
  ∃ (it : Addr) (fp : List Addr) (tn : Nat → Heap → Prop) (J : It) (H' : Hp), itv = .ref it ∧ Inv X pins σ H' s2 ∧ Turn X.prog X.w X.K tg J fp it tn ∧ tn 0 s2.heap ∧ (∀ b ∈ fp, FpOk X pins H' b) ∧ R J H'
def PI (X : Cx) (tg iter : Expr) (wi : TI) : Prop :=
  ∀ (pins : List (Addr × Obj)) (s : Shared) (σ : St) (H : Hp) (R : It → Hp → Prop), Inv X pins σ H s → wi σ H R →
    wpAny (model X.prog X.w) X.A (eval iter X.env) (fun v s1 => wpAny (model X.prog X.w) X.A (pyIter v) (PIE X pins σ tg R) X.xe s1) X.xe s
theorem go_of {M : Model} {A : Around} {E : Value → Shared → Prop} {s : Shared} {tg : Expr} {it : Addr} {u : Value} {o : Obj} {n : String} {vs : Array Value} {Q : Unit → Shared → Prop} (ho : s.heap.get? it = some o) (hc : o.cls = .type n) (hd : o.data = .fields vs)
    (hn : ["enumerate", "zip", "dict_itemiterator", "dict_reverseitemiterator", "odict_iterator", "itertools.zip_longest", "itertools.pairwise"].contains n = false) (hQ : Q () s) : wpAny M A (letOwnedTupleGo tg (.ref it) u) Q E s := by
  unfold letOwnedTupleGo
  cases tg <;> first
    | exact wpAny_pure hQ
    | (cases u <;> first
        | exact wpAny_pure hQ
        | (refine wpAny_bind (wpAny_load ho ?_)
           rw [hc, hd]
           show wpAny M A (if (["enumerate", "zip", "dict_itemiterator", "dict_reverseitemiterator", "odict_iterator", "itertools.zip_longest", "itertools.pairwise"].contains n && vs[0]? == some (rawInt _)) = true then _ else _) Q E s
           rw [if_neg (by intro h; rw [hn, Bool.false_and] at h; cases h)]
           exact wpAny_pure hQ))
def Itl (K : PySem.W.Frag) (a : Addr) : It :=
  ⟨fun i H => ∃ xs x, SqL K H a xs ∧ xs[i]? = some x, fun i H x H' => H' = H ∧ ∀ xs, SqL K H a xs → xs[i]? = some x, fun i H => ∃ xs, SqL K H a xs ∧ xs.length ≤ i⟩
def Itt (K : PySem.W.Frag) (a : Addr) : It :=
  ⟨fun i H => ∃ xs x, SqT K H a xs ∧ xs[i]? = some x, fun i H x H' => H' = H ∧ ∀ xs, SqT K H a xs → xs[i]? = some x, fun i H => ∃ xs, SqT K H a xs ∧ xs.length ≤ i⟩
def Itr (lo : Int) (n : Nat) : It := ⟨fun i _ => i < n, fun i H x H' => H' = H ∧ x = .int (lo + i), fun i _ => n ≤ i⟩
theorem turn_list {P : Program} {w : World} {K : PySem.W.Frag} {tg : Expr} (a it : Addr) : Turn P w K tg (Itl K a) [it] it (fun i h => h.IsListIter it a i) where
  mem := by simp
  obj := fun i h st b hb => by
    have e : b = it := by simpa using hb
    subst e
    obtain ⟨o, e, c, d⟩ := st
    exact ⟨o, e, fun v z => by rw [d] at z; cases z⟩
  keep := fun i h h' st k => st.at fun o e => k it (by simp) o e
  item := by
    intro X hP hw hK hc i pins s σ H E I hf st hg
    subst hP hw hK
    obtain ⟨xs, x, hq, hx⟩ := hg
    obtain ⟨its, rv, p, hz⟩ := I.list hq
    obtain ⟨u, hu, ru⟩ := rv.get hx
    obtain ⟨f0, f1, f2, f3, f4, f5⟩ := hf it (by simp)
    refine wpAny_pyNext_list_item st p.isList (x := u) (by simpa using hu) fun h' st' sb => ?_
    have I1 : Inv X pins σ H { s with heap := h' } := I.turned (t' := s.toks) (fun b o hb e => (sb.2 b hb).trans e) f0 f1 f3 f4 f5
    obtain ⟨o, e, c, d⟩ := id st'
    exact ⟨u, rfl, go_of (s := { s with heap := h' }) e c d (by decide) ⟨x, H, I1, ru, ⟨rfl, fun ys hy => by rw [I.list_inj hy hq]; exact hx⟩, st', fun b hb => (hf b hb).1⟩⟩
  done := by
    intro X hP hw hK hc i pins s σ H E I hf st hg
    subst hP hw hK
    obtain ⟨xs, hq, hx⟩ := hg
    obtain ⟨its, rv, p, hz⟩ := I.list hq
    obtain ⟨f0, f1, f2, f3, f4, f5⟩ := hf it (by simp)
    have hl := rv.length
    exact wpAny_pyNext_list_end (I.ok.hd hc) st p.isList (by simp; omega) fun h' eb => ⟨rfl, I.turned (t' := s.toks) (fun b o hb e => eb b o hb e) f0 f1 f3 f4 f5⟩
  self := fun _ _ _ _ _ st h => wpAny_pyIter_listiter st h
theorem turn_tuple {P : Program} {w : World} {K : PySem.W.Frag} {tg : Expr} (a it : Addr) : Turn P w K tg (Itt K a) [it] it (fun i h => h.IsTupleIter it a i) where
  mem := by simp
  obj := fun i h st b hb => by
    have e : b = it := by simpa using hb
    subst e
    obtain ⟨o, e, c, d⟩ := st
    exact ⟨o, e, fun v z => by rw [d] at z; cases z⟩
  keep := fun i h h' st k => st.at fun o e => k it (by simp) o e
  item := by
    intro X hP hw hK hc i pins s σ H E I hf st hg
    subst hP hw hK
    obtain ⟨xs, x, hq, hx⟩ := hg
    obtain ⟨its, rv, p, hz⟩ := I.tuple hq
    obtain ⟨u, hu, ru⟩ := rv.get hx
    obtain ⟨f0, f1, f2, f3, f4, f5⟩ := hf it (by simp)
    refine wpAny_pyNext_tuple_item st (show s.heap.IsTuple a its.toArray from p) (x := u) (by simpa using hu) fun h' st' sb => ?_
    have I1 : Inv X pins σ H { s with heap := h' } := I.turned (t' := s.toks) (fun b o hb e => (sb.2 b hb).trans e) f0 f1 f3 f4 f5
    obtain ⟨o, e, c, d⟩ := id st'
    exact ⟨u, rfl, go_of (s := { s with heap := h' }) e c d (by decide) ⟨x, H, I1, ru, ⟨rfl, fun ys hy => by rw [I.tuple_inj hy hq]; exact hx⟩, st', fun b hb => (hf b hb).1⟩⟩
  done := by
    intro X hP hw hK hc i pins s σ H E I hf st hg
    subst hP hw hK
    obtain ⟨xs, hq, hx⟩ := hg
    obtain ⟨its, rv, p, hz⟩ := I.tuple hq
    obtain ⟨f0, f1, f2, f3, f4, f5⟩ := hf it (by simp)
    have hl := rv.length
    exact wpAny_pyNext_tuple_end (I.ok.hd hc) st (show s.heap.IsTuple a its.toArray from p) (by simp; omega) fun h' eb => ⟨rfl, I.turned (t' := s.toks) (fun b o hb e => eb b o hb e) f0 f1 f3 f4 f5⟩
  self := fun _ _ _ _ _ st h => wpAny_pyIter_tupleiter st h
theorem turn_range {P : Program} {w : World} {K : PySem.W.Frag} {tg : Expr} (it : Addr) (lo : Int) (n : Nat) : Turn P w K tg (Itr lo n) [it] it (fun i h => IsRangeIter h it (lo + (i : Nat) * 1) ((n : Int) - (i : Nat)) 1) where
  mem := by simp
  obj := fun i h st b hb => by
    have e : b = it := by simpa using hb
    subst e
    exact ⟨_, st, fun v z => by
      have z' : Data.fields _ = Data.cell v := z
      cases z'⟩
  keep := fun i h h' st k => k it (by simp) _ st
  item := by
    intro X hP hw hK hc i pins s σ H E I hf st hg
    subst hP hw hK
    obtain ⟨f0, f1, f2, f3, f4, f5⟩ := hf it (by simp)
    have W := Walks.range (prog := X.prog) (w := X.w) (I.ok.hd hc) it lo 1 n
    refine W.item i s _ _ hg st fun v h' tk hv st' kk => ?_
    obtain ⟨t, rfl⟩ := hv
    have I1 : Inv X pins σ H { s with heap := h', toks := tk } := I.turned (fun b o hb e => kk b o (by simpa using hb) e) f0 f1 f3 f4 f5
    refine ⟨_, rfl, go_of (s := { s with heap := h', toks := tk }) (n := "range_iterator") st' rfl rfl (by decide) ⟨.int (lo + i), H, I1, ⟨t, ?_⟩, ⟨rfl, rfl⟩, st', fun b hb => (hf b hb).1⟩⟩
    rw [Int.mul_one]
  done := by
    intro X hP hw hK hc i pins s σ H E I hf st hg
    subst hP hw hK
    obtain ⟨f0, f1, f2, f3, f4, f5⟩ := hf it (by simp)
    exact wpAny_pyNext_range_end (I.ok.hd hc) st (by have : n ≤ i := hg; omega) fun h' eb => ⟨rfl, I.turned (t' := s.toks) (fun b o hb e => eb b o hb e) f0 f1 f3 f4 f5⟩
  self := fun _ _ _ _ _ st h => wpAny_pyIter_rangeiter st h
end L2
namespace L2
open PySem PySem.Spec PyProof.Rows
section
variable {X : Cx} {tg : Expr}
def iList (K : PySem.W.Frag) (tl : TE) : TI := fun σ H R => tl σ H fun x H1 => ∃ a, x = .ref a ∧ (∃ xs, SqL K H1 a xs) ∧ R (Itl K a) H1
def iTup (K : PySem.W.Frag) (tl : TE) : TI := fun σ H R => tl σ H fun x H1 => ∃ a, x = .ref a ∧ (∃ xs, SqT K H1 a xs) ∧ R (Itt K a) H1
theorem pi_list {l : Expr} {tl : TE} (hl : PE X l tl) : PI X tg l (iList X.K tl) := by
  intro pins s σ H R I h
  refine thn (hl pins s σ H _ I h) fun v s1 ⟨x, H1, I1, r1, q1⟩ => ?_
  obtain ⟨a, e, ⟨xs, hq⟩, q⟩ := q1
  subst e
  cases r1
  obtain ⟨its, rv, p, hz⟩ := I1.list hq
  refine wpAny_pyIter_list p.isList ?_
  refine ⟨s1.heap.objs.size, [s1.heap.objs.size], _, _, H1, rfl, I1.kept (t' := s1.toks) fun b o e => Heap.get?_push_of_some _ e, turn_list a _, ⟨_, Heap.get?_push_size _ rfl, rfl, rfl⟩, fun b hb => ?_, q⟩
  have e : b = s1.heap.objs.size := by simpa using hb
  subst e
  exact I1.fpOk (Nat.le_refl _) (I1.hok.fresh (Nat.le_refl _))
theorem pi_tup {l : Expr} {tl : TE} (hl : PE X l tl) : PI X tg l (iTup X.K tl) := by
  intro pins s σ H R I h
  refine thn (hl pins s σ H _ I h) fun v s1 ⟨x, H1, I1, r1, q1⟩ => ?_
  obtain ⟨a, e, ⟨xs, hq⟩, q⟩ := q1
  subst e
  cases r1
  obtain ⟨its, rv, p, hz⟩ := I1.tuple hq
  refine wpAny_pyIter_tuple (show s1.heap.IsTuple a its.toArray from p) ?_
  refine ⟨s1.heap.objs.size, [s1.heap.objs.size], _, _, H1, rfl, I1.kept (t' := s1.toks) fun b o e => Heap.get?_push_of_some _ e, turn_tuple a _, ⟨_, Heap.get?_push_size _ rfl, rfl, rfl⟩, fun b hb => ?_, q⟩
  have e : b = s1.heap.objs.size := by simpa using hb
  subst e
  exact I1.fpOk (Nat.le_refl _) (I1.hok.fresh (Nat.le_refl _))
theorem range_it {pins : List (Addr × Obj)} {σ : St} {H : Hp} {s : Shared} {R : It → Hp → Prop} {E : Value → Shared → Prop} {lo hi : Int} {t u v : Tok} {tk : Nat} (I : Inv X pins σ H s) (h1 : -(2 ^ 62) ≤ lo) (h2 : lo < 2 ^ 62) (h3 : -(2 ^ 62) ≤ hi) (h4 : hi < 2 ^ 62)
    (q : R (Itr lo (hi - lo).toNat) H) : wpAny (model X.prog X.w) X.A (pyIter (.ref s.heap.objs.size)) (PIE X pins σ tg R) E { s with heap := s.heap.push { cls := .type "range", data := .fields #[.int lo t, .int hi u, .int 1 v] }, toks := tk } := by
  refine wpAny_pyIter_range (IsRange.new ..) (small_one h1 h2 h3 h4) ?_
  have I1 : Inv X pins σ H { s with heap := s.heap.push { cls := .type "range", data := .fields #[.int lo t, .int hi u, .int 1 v] }, toks := tk } := I.kept fun b o e => Heap.get?_push_of_some _ e
  refine ⟨(s.heap.push { cls := .type "range", data := .fields #[.int lo t, .int hi u, .int 1 v] }).objs.size, [(s.heap.push { cls := .type "range", data := .fields #[.int lo t, .int hi u, .int 1 v] }).objs.size], _, _, H, rfl,
    I1.kept (t' := tk) fun b o e => Heap.get?_push_of_some _ e, turn_range _ lo (hi - lo).toNat, ?_, fun b hb => ?_, q⟩
  · have e1 : lo + ((0 : Nat) : Int) * 1 = lo := by simp
    have e2 : (((hi - lo).toNat : Nat) : Int) - ((0 : Nat) : Int) = Builtin.Range.rangeSize lo hi 1 := by rw [rangeSize_one]; split <;> omega
    show IsRangeIter _ _ (lo + ((0 : Nat) : Int) * 1) ((((hi - lo).toNat : Nat) : Int) - ((0 : Nat) : Int)) 1
    rw [e1, e2]
    exact Heap.get?_push_size _ rfl
  · have e : b = (s.heap.push { cls := .type "range", data := .fields #[.int lo t, .int hi u, .int 1 v] }).objs.size := by simpa using hb
    subst e
    exact I1.fpOk (Nat.le_refl _) (I1.hok.fresh (Nat.le_refl _))
def iRng1 (ta : TA) : TI := fun σ H R => ta σ H fun vs H1 => ∃ j : Int, vs = [.int j] ∧ -(2 ^ 62) ≤ j ∧ j < 2 ^ 62 ∧ R (Itr 0 j.toNat) H1
theorem pi_range1 {a : Expr} {ta : TA} {p pos : Pos} (hg : Gl X "range") (hm : X.mg "range" = none) (ha : PA X [a] ta) (hs : starEach [a] X.env = [(false, eval a X.env)] := by rfl) : PI X tg (.Call (.Name "range" p) [a] [] pos) (iRng1 ta) := by
  intro pins s σ H R I h
  refine Call_ (ld_blt I hg hm boot_range (PyProof.Rows.callWith_type1 (thn (ha pos pins s σ H _ I h) fun us s1 ⟨vs, H1, I1, r1, q1⟩ => ?_) hs rfl))
  obtain ⟨j, e, q1, q2, q⟩ := q1
  subst e
  cases r1 with
  | cons r rr =>
    cases rr
    obtain ⟨t, rfl⟩ := r
    exact call_range_1 (range_it I1 (by omega) (by omega) q1 q2 (by simpa using q))
def tFor (wi : TI) (g : TG) (tb : TS) : TS := fun D σ H => wi σ H fun J H1 => ∃ W : Nat → Nat → St → Hp → Prop, (∃ m, W 0 m σ H1) ∧ ∀ i m σ H, W i m σ H →
  (J.stop i H ∧ D.nx σ H) ∨ (J.go i H ∧ ∃ N : St → Hp → Prop, (∀ σ' H', N σ' H' → ∃ m', m' < m ∧ W (i + 1) m' σ' H') ∧ ∀ x H', J.yld i H x H' → g x σ H' fun σ2 H2 => tb { D with nx := N, ct := N, bk := D.nx } σ2 H2)
def pinsAt (fp : List Addr) (h : Heap) : List (Addr × Obj) := fp.filterMap fun b => (h.get? b).map fun o => (b, o)
theorem mem_pinsAt {fp : List Addr} {h : Heap} {b : Addr} {o : Obj} (hb : b ∈ fp) (e : h.get? b = some o) : (b, o) ∈ pinsAt fp h := List.mem_filterMap.mpr ⟨b, hb, by rw [e]; rfl⟩
theorem of_pinsAt {fp : List Addr} {h : Heap} {p : Addr × Obj} (hp : p ∈ pinsAt fp h) : p.1 ∈ fp ∧ h.get? p.1 = some p.2 := by
  obtain ⟨b, hb, e⟩ := List.mem_filterMap.mp hp
  cases q : h.get? b with
  | none => rw [q] at e; cases e
  | some o =>
    rw [q] at e
    have e' : (b, o) = p := Option.some.inj e
    subst e'
    exact ⟨hb, q⟩
theorem Inv.pinned {pins : List (Addr × Obj)} {σ : St} {H : Hp} {s : Shared} {fp : List Addr} (I : Inv X pins σ H s) (hf : ∀ b ∈ fp, FpOk X pins H b) (ho : ∀ b ∈ fp, ∃ o, s.heap.get? b = some o ∧ ∀ v, o.data ≠ .cell v) : Inv X (pins ++ pinsAt fp s.heap) σ H s :=
  I.pins_of fun p hp => (List.mem_append.mp hp).elim (fun z => I.pin p (List.mem_append_right _ z)) fun z => by
    obtain ⟨hb, e⟩ := of_pinsAt z
    obtain ⟨f0, f1, f2, _⟩ := hf p.1 hb
    obtain ⟨o, e', d⟩ := ho p.1 hb
    rw [e] at e'; cases e'
    exact ⟨e, f0, f1, f2, d⟩
theorem Inv.unpinned {pins pl : List (Addr × Obj)} {σ : St} {H : Hp} {s : Shared} (I : Inv X (pins ++ pl) σ H s) : Inv X pins σ H s := I.pins_of fun p hp => I.pin p (List.mem_append_right _ (List.mem_append_left _ hp))
theorem ps_for {iter : Expr} {body : List Stmt} {wi : TI} {g : TG} {tb : TS} {pos : Pos} (hp : PassesOwn (model X.prog X.w) X.A X.env X.xe) (hc : X.calm = true) (hi : PI X tg iter wi) (hg : PG X tg g) (hb : PSs X body tb)
    (hs : ∀ x, foldedSetIterable iter X.env x = pure x := by intro _; rfl) : PS X (.For tg iter body [] pos) (tFor wi g tb) := by
  intro pins s σ H D I h
  refine wpAny_For (thn (hi pins s σ H _ I h) fun v s1 h1 => thn h1 fun itv s2 h2 => ?_) hs
  obtain ⟨it, fp, tn, J, H2, e, I2, T, st2, f2, W, ⟨m0, w0⟩, turn⟩ := h2
  subst e
  -- what stays true of the iterator's objects through the loop
  have stat : ∀ {H' : Hp}, (∀ b ∈ fp, H' b = none) → ∀ b ∈ fp, FpOk X pins H' b := fun hn b hb => ⟨hn b hb, (f2 b hb).2⟩
  refine codeAny_forLoop_any (fun n s' => ∃ i σ' H', Inv X pins σ' H' s' ∧ tn i s'.heap ∧ (∀ b ∈ fp, H' b = none) ∧ W i n σ' H') ?_ m0 ⟨0, σ, H2, I2, st2, fun b hb => (f2 b hb).1, w0⟩
  rintro n s3 ⟨i, σ3, H3, I3, st3, fr3, w3⟩
  rcases turn i n σ3 H3 w3 with ⟨stop, qn⟩ | ⟨go, N, hN, step⟩
  · refine wpAny_passesOwn hp (thn (T.done X rfl rfl rfl hc i pins s3 σ3 H3 X.xe I3 (stat fr3) st3 stop) fun r s4 ⟨hr, I4⟩ => ?_)
    subst hr
    exact wpAny_execs_nil ⟨σ3, H3, I4, qn⟩
  · refine wpAny_passesOwn hp (thn (T.item X rfl rfl rfl hc i pins s3 σ3 H3 X.xe I3 (stat fr3) st3 go) fun r s4 ⟨u, hr, h4⟩ => ?_)
    subst hr
    refine wpAny_passesOwn hp (thn h4 fun _ s5 ⟨x, H5, I5, r5, y5, st5, fr5⟩ => ?_)
    have I5' := I5.pinned (stat fr5) (T.obj _ _ st5)
    refine wpAny_passesOwn hp (thn (hg _ s5 σ3 H5 x u _ I5' r5 (step x H5 y5)) fun _ s6 ⟨σ6, H6, I6, q6⟩ => ?_)
    refine wpAny_passesOwn hp (thn (hb _ s6 σ6 H6 _ I6 q6) fun f s7 q7 => ?_)
    have again : ∀ {σ7 : St} {H7 : Hp}, Inv X (pins ++ pinsAt fp s5.heap) σ7 H7 s7 → N σ7 H7 → ∃ m, m < n ∧ ∃ i σ' H', Inv X pins σ' H' s7 ∧ tn i s7.heap ∧ (∀ b ∈ fp, H' b = none) ∧ W i m σ' H' := fun {σ7 H7} I7 n7 => by
      obtain ⟨m', hm, w7⟩ := hN σ7 H7 n7
      refine ⟨m', hm, i + 1, σ7, H7, I7.unpinned, T.keep _ _ _ st5 fun b hb o e => (I7.pin (b, o) (List.mem_append_right _ (List.mem_append_right _ (mem_pinsAt hb e)))).1, fun b hb => ?_, w7⟩
      obtain ⟨o, e, d⟩ := T.obj _ _ st5 b hb
      exact (I7.pin (b, o) (List.mem_append_right _ (List.mem_append_right _ (mem_pinsAt hb e)))).2.1
    cases f with
    | next => obtain ⟨σ7, H7, I7, n7⟩ := q7; exact again I7 n7
    | cont => obtain ⟨σ7, H7, I7, n7⟩ := q7; exact again I7 n7
    | brk => obtain ⟨σ7, H7, I7, q7⟩ := q7; exact ⟨σ7, H7, I7.unpinned, q7⟩
    | ret v => obtain ⟨x7, σ7, H7, I7, r7, q7⟩ := q7; exact ⟨x7, σ7, H7, I7.unpinned, r7, q7⟩
end
end L2
namespace L2
open PySem PySem.Spec PyProof.Rows
abbrev R2 := V → V → Hp → VK → Prop
def OpR (X : Cx) (f : Value → Value → Sem Value) (r : R2) : Prop :=
  ∀ (pins : List (Addr × Obj)) (s : Shared) (σ : St) (H : Hp) (x y : V) (v u : Value) (Q : VK), Inv X pins σ H s → RelV x v → RelV y u → r x y H Q →
    wpAny (model X.prog X.w) X.A (f v u) (EP X pins σ Q) X.xe s
def UnR (X : Cx) (f : Value → Sem Value) (r : V → Hp → VK → Prop) : Prop :=
  ∀ (pins : List (Addr × Obj)) (s : Shared) (σ : St) (H : Hp) (x : V) (v : Value) (Q : VK), Inv X pins σ H s → RelV x v → r x H Q →
    wpAny (model X.prog X.w) X.A (f v) (EP X pins σ Q) X.xe s
def CallR (X : Cx) (f : Value) (r : List V → Hp → VK → Prop) : Prop :=
  ∀ (pins : List (Addr × Obj)) (s : Shared) (σ : St) (H : Hp) (xs : List V) (us : List Value) (Q : VK), Inv X pins σ H s → Vals xs us → r xs H Q →
    wpAny (model X.prog X.w) X.A (call f us) (EP X pins σ Q) X.xe s
def TruR (X : Cx) (r : V → Hp → (Bool → Hp → Prop) → Prop) : Prop :=
  ∀ (pins : List (Addr × Obj)) (s : Shared) (σ : St) (H : Hp) (x : V) (v : Value) (Q : Bool → Hp → Prop), Inv X pins σ H s → RelV x v → r x H Q →
    wpAny (model X.prog X.w) X.A (truthy v) (TP X pins σ Q) X.xe s
def tOp (r : R2) (ta tb : TE) : TE := fun σ H Q => ta σ H fun x H1 => tb σ H1 fun y H2 => r x y H2 Q
def tUn (r : V → Hp → VK → Prop) (ta : TE) : TE := fun σ H Q => ta σ H fun x H1 => r x H1 Q
def rI (C : Int → Int → Prop) (g : Int → Int → V) : R2 := fun x y H Q => ∃ i j, x = .int i ∧ y = .int j ∧ C i j ∧ Q (g i j) H
def rI0 (g : Int → Int → V) : R2 := fun x y H Q => ∃ i j, x = .int i ∧ y = .int j ∧ Q (g i j) H
def rU (g : Int → V) : V → Hp → VK → Prop := fun x H Q => ∃ i, x = .int i ∧ Q (g i) H
section
variable {X : Cx} {a b c : Expr} {ta tb tc : TE} {pos : Pos}
theorem binT (ha : PE X a ta) (hb : PE X b tb) {pins : List (Addr × Obj)} {s : Shared} {σ : St} {H : Hp} {R : V → V → Hp → Prop} (I : Inv X pins σ H s)
    (h : ta σ H fun x H1 => tb σ H1 fun y H2 => R x y H2) {Q : Value → Shared → Prop} {f : Value → Value → Sem Value}
    (hf : ∀ v u s2 x y H2, Inv X pins σ H2 s2 → RelV x v → RelV y u → R x y H2 → wpAny (model X.prog X.w) X.A (f v u) Q X.xe s2) :
    wpAny (model X.prog X.w) X.A (eval a X.env) (fun v s₁ => wpAny (model X.prog X.w) X.A (eval b X.env) (fun u s₂ => wpAny (model X.prog X.w) X.A (f v u) Q X.xe s₂) X.xe s₁) X.xe s := by
  refine thn (ha pins s σ H _ I h) fun v s1 ⟨x, H1, I1, r1, q1⟩ => ?_
  refine thn (hb pins s1 σ H1 _ I1 q1) fun u s2 ⟨y, H2, I2, r2, q2⟩ => ?_
  exact hf v u s2 x y H2 I2 r1 r2 q2
theorem pe_op {op : Operator} {r : R2} (ho : OpR X (binaryOp op) r) (ha : PE X a ta) (hb : PE X b tb) : PE X (.BinOp a op b pos) (tOp r ta tb) := by
  intro pins s σ H Q I h
  exact wpAny_BinOp (binT ha hb I h fun v u s2 x y H2 I2 rx ry q => ho pins s2 σ H2 x y v u Q I2 rx ry q)
theorem pe_un {op : UnaryOp} {r : V → Hp → VK → Prop} (ho : UnR X (unaryOp op) r) (ha : PE X a ta) : PE X (.UnaryOp op a pos) (tUn r ta) := by
  intro pins s σ H Q I h
  exact UnaryOp_ (thn (ha pins s σ H _ I h) fun v s1 ⟨x, H1, I1, r1, q1⟩ => ho pins s1 σ H1 x v Q I1 r1 q1)
theorem opI {f : Value → Value → Sem Value} {C : Int → Int → Prop} {g : Int → Int → Int}
    (rule : ∀ (i j : Int) (t u : Tok) (s : Shared) (Q : Value → Shared → Prop) (E : Value → Shared → Prop), C i j → Q (.int (g i j) s.toks) { s with toks := s.toks + 1 } → wpAny (model X.prog X.w) X.A (f (.int i t) (.int j u)) Q E s) :
    OpR X f (rI C fun i j => .int (g i j)) := by
  intro pins s σ H x y v u Q I rx ry h
  obtain ⟨i, j, rfl, rfl, hc, q⟩ := h
  obtain ⟨t, rfl⟩ := rx
  obtain ⟨t', rfl⟩ := ry
  exact rule i j t t' s _ _ hc ⟨.int (g i j), H, I.tok _, ⟨_, rfl⟩, q⟩
theorem opI0 {f : Value → Value → Sem Value} {g : Int → Int → Int}
    (rule : ∀ (i j : Int) (t u : Tok) (s : Shared) (Q : Value → Shared → Prop) (E : Value → Shared → Prop), Q (.int (g i j) s.toks) { s with toks := s.toks + 1 } → wpAny (model X.prog X.w) X.A (f (.int i t) (.int j u)) Q E s) :
    OpR X f (rI0 fun i j => .int (g i j)) := by
  intro pins s σ H x y v u Q I rx ry h
  obtain ⟨i, j, rfl, rfl, q⟩ := h
  obtain ⟨t, rfl⟩ := rx
  obtain ⟨t', rfl⟩ := ry
  exact rule i j t t' s _ _ ⟨.int (g i j), H, I.tok _, ⟨_, rfl⟩, q⟩
theorem opB0 {f : Value → Value → Sem Value} {g : Int → Int → Bool}
    (rule : ∀ (i j : Int) (t u : Tok) (s : Shared) (Q : Value → Shared → Prop) (E : Value → Shared → Prop), Q (.bool (g i j)) s → wpAny (model X.prog X.w) X.A (f (.int i t) (.int j u)) Q E s) :
    OpR X f (rI0 fun i j => .bl (g i j)) := by
  intro pins s σ H x y v u Q I rx ry h
  obtain ⟨i, j, rfl, rfl, q⟩ := h
  obtain ⟨t, rfl⟩ := rx
  obtain ⟨t', rfl⟩ := ry
  exact rule i j t t' s _ _ ⟨.bl (g i j), H, I, rfl, q⟩
def CDiv (i j : Int) : Prop := 0 < j ∧ j < 1073741824
def CPow (i j : Int) : Prop := 0 ≤ j ∧ j ≤ 1000000 ∧ i.natAbs < 2 ^ 64
def CMul (i j : Int) : Prop := (-(2 ^ 64) < i ∧ i < 2 ^ 64) ∨ (-(2 ^ 64) < j ∧ j < 2 ^ 64)
theorem CMul.ok {i j : Int} (h : CMul i j) : IntMulOk i j := by
  rcases h with ⟨h1, h2⟩ | ⟨h1, h2⟩
  · exact .of_left (intBits_le_64 h1 h2)
  · exact .of_right (intBits_le_64 h1 h2)
theorem op_add : OpR X (binaryOp .Add) (rI0 fun i j => .int (i + j)) := opI0 fun _ _ _ _ _ _ _ q => add_int q
theorem op_sub : OpR X (binaryOp .Sub) (rI0 fun i j => .int (i - j)) := opI0 fun _ _ _ _ _ _ _ q => sub_int q
theorem op_mul : OpR X (binaryOp .Mult) (rI CMul fun i j => .int (i * j)) := opI fun _ _ _ _ _ _ _ hc q => mul_int q hc.ok
theorem op_fdiv : OpR X (binaryOp .FloorDiv) (rI CDiv fun i j => .int (i / j)) := opI fun i j _ _ _ _ _ hc q => by
  have h1 : (0 : Int) < j := hc.1
  have h2 : j < 1073741824 := hc.2
  exact floordiv_int (by omega) (by rw [Int.fdiv_eq_ediv_of_nonneg i (by omega)]; exact q) (.inl (PyProof.noPylong_small (by omega)))
theorem op_mod : OpR X (binaryOp .Mod) (rI (fun _ j => 0 < j) fun i j => .int (i % j)) := opI fun i j _ _ _ _ _ hc q => by
  have h1 : (0 : Int) < j := hc
  exact mod_int' (by omega) (by rw [Int.fmod_eq_emod_of_nonneg i (by omega)]; exact q)
theorem op_pow : OpR X (binaryOp .Pow) (rI CPow fun i j => .int (i ^ j.toNat)) := opI fun _ _ _ _ _ _ _ hc q => pow_int_small hc.1 hc.2.1 hc.2.2 q
theorem unI {f : Value → Sem Value} {g : Int → Int}
    (rule : ∀ (i : Int) (t : Tok) (s : Shared) (Q : Value → Shared → Prop) (E : Value → Shared → Prop), Q (.int (g i) s.toks) { s with toks := s.toks + 1 } → wpAny (model X.prog X.w) X.A (f (.int i t)) Q E s) :
    UnR X f (rU fun i => .int (g i)) := by
  intro pins s σ H x v Q I rx h
  obtain ⟨i, rfl, q⟩ := h
  obtain ⟨t, rfl⟩ := rx
  exact rule i t s _ _ ⟨.int (g i), H, I.tok _, ⟨_, rfl⟩, q⟩
theorem un_neg : UnR X (unaryOp .USub) (rU fun i => .int (-i)) := unI fun _ _ _ _ _ q => neg_int q
end
def scal : V → V → Bool
  | .non, .non => true | .non, .int _ => true | .int _, .non => true | .non, .bl _ => true | .bl _, .non => true | .non, .str _ => true | .str _, .non => true
  | .int _, .int _ => true | .bl _, .bl _ => true | .str _, .str _ => true | .byt _, .byt _ => true
  | .int _, .str _ => true | .str _, .int _ => true | .bl _, .str _ => true | .str _, .bl _ => true
  | _, _ => false
section
variable {X : Cx} {a b c : Expr} {ta tb tc : TE} {pos : Pos}
theorem op_lt : OpR X (compareOp .Lt) (rI0 fun i j => .bl (decide (i < j))) := opB0 fun _ _ _ _ _ _ _ q => lt_int q
theorem op_le : OpR X (compareOp .LtE) (rI0 fun i j => .bl (decide (i ≤ j))) := opB0 fun _ _ _ _ _ _ _ q => le_int q
theorem op_gt : OpR X (compareOp .Gt) (rI0 fun i j => .bl (decide (j < i))) := opB0 fun _ _ _ _ _ _ _ q => gt_int q
theorem OpR.or {f : Value → Value → Sem Value} {r r' : R2} (h : OpR X f r) (h' : OpR X f r') : OpR X f (fun x y H Q => r x y H Q ∨ r' x y H Q) := by
  intro pins s σ H x y v u Q I rx ry q
  rcases q with q | q
  · exact h pins s σ H x y v u Q I rx ry q
  · exact h' pins s σ H x y v u Q I rx ry q
theorem nomark (b : Expr) {op : CmpOp} (h : op ≠ .In := by decide) (h2 : op ≠ .NotIn := by decide) : behindInMarks op b = false := by
  have e1 : (op == CmpOp.In) = false := by cases op <;> first | rfl | exact absurd rfl h
  have e2 : (op == CmpOp.NotIn) = false := by cases op <;> first | rfl | exact absurd rfl h2
  cases b <;> simp [behindInMarks, e1, e2]
theorem pe_cmpR {op : CmpOp} {r : R2} (ho : OpR X (compareOp op) r) (ha : PE X a ta) (hb : PE X b tb) (hm : behindInMarks op b = false) : PE X (.Compare a [op] [b] pos) (tOp r ta tb) := by
  intro pins s σ H Q I h
  exact wpAny_Compare1 (binT ha hb I h fun v u s2 x y H2 I2 rx ry q => ho pins s2 σ H2 x y v u Q I2 rx ry q) hm
def tTest (t : TE) : TT := fun σ H Q => t σ H fun x H' => ∃ k, x = .bl k ∧ Q k H'
theorem pt_cmpR {op : CmpOp} {r : R2} (ho : OpR X (compareOp op) r) (ha : PE X a ta) (hb : PE X b tb) (hm : behindInMarks op b = false) : PT X (.Compare a [op] [b] pos) (tTest (tOp r ta tb)) := by
  intro pins s σ H Q I h
  refine wpAny_isTrue_Compare1 (thn (ha pins s σ H _ I h) fun v s1 ⟨x, H1, I1, r1, q1⟩ => thn (hb pins s1 σ H1 _ I1 q1) fun u s2 ⟨y, H2, I2, r2, q2⟩ =>
    thn (ho pins s2 σ H2 x y v u _ I2 r1 r2 q2) fun c s3 ⟨z, H3, I3, r3, k, e, q3⟩ => ?_) hm
  subst e
  cases r3
  exact wpAny_truthy_bool ⟨H3, I3, q3⟩
def tChain (r r' : R2) (ta tb tc : TE) : TE := fun σ H Q => ta σ H fun x H1 => tb σ H1 fun y H2 => r x y H2 fun z H3 => ∃ k, z = .bl k ∧
  (if k = true then tc σ H3 fun w' H4 => r' y w' H4 Q else Q (.bl false) H3)
theorem pe_chain {op op' : CmpOp} {r r' : R2} (ho : OpR X (compareOp op) r) (ho' : OpR X (compareOp op') r') (ha : PE X a ta) (hb : PE X b tb) (hc : PE X c tc)
    (hm : lastMarks [op, op'] [b, c] = false := by with_unfolding_all rfl) : PE X (.Compare a [op, op'] [b, c] pos) (tChain r r' ta tb tc) := by
  intro pins s σ H Q I h
  refine Compare_chain (thn (ha pins s σ H _ I h) fun v s1 ⟨x, H1, I1, r1, q1⟩ => chain_link (thn (hb pins s1 σ H1 _ I1 q1) fun u s2 ⟨y, H2, I2, r2, q2⟩ =>
    thn (ho pins s2 σ H2 x y v u _ I2 r1 r2 q2) fun d s3 ⟨z, H3, I3, r3, k, e, q3⟩ => ?_)) hm
  subst e
  cases r3
  refine wpAny_truthy_bool ?_
  cases k with
  | false => exact ite_ff ⟨.bl false, H3, I3, rfl, q3⟩
  | true => exact ite_tt (chain_last (thn (hc pins s3 σ H3 _ I3 q3) fun w' s4 ⟨z', H4, I4, r4, q4⟩ => ho' pins s4 σ H4 y z' u w' Q I4 r2 r4 q4))
theorem pt_chain {op op' : CmpOp} {r r' : R2} (ho : OpR X (compareOp op) r) (ho' : OpR X (compareOp op') r') (ha : PE X a ta) (hb : PE X b tb) (hc : PE X c tc)
    (hm : lastMarks [op, op'] [b, c] = false := by with_unfolding_all rfl) : PT X (.Compare a [op, op'] [b, c] pos) (tTest (tChain r r' ta tb tc)) := by
  intro pins s σ H Q I h
  refine isTrue_chain (thn (ha pins s σ H _ I h) fun v s1 ⟨x, H1, I1, r1, q1⟩ => test_link (thn (hb pins s1 σ H1 _ I1 q1) fun u s2 ⟨y, H2, I2, r2, q2⟩ =>
    thn (ho pins s2 σ H2 x y v u _ I2 r1 r2 q2) fun d s3 ⟨z, H3, I3, r3, k, e, q3⟩ => ?_)) hm
  subst e
  cases r3
  refine wpAny_truthy_bool ?_
  cases k with
  | false =>
    obtain ⟨k', e', q'⟩ := q3
    cases e'
    exact ite_ff ⟨H3, I3, q'⟩
  | true =>
    refine ite_tt (test_last (thn (hc pins s3 σ H3 _ I3 q3) fun w' s4 ⟨z', H4, I4, r4, q4⟩ => thn (ho' pins s4 σ H4 y z' u w' _ I4 r2 r4 q4) fun d' s5 ⟨z2, H5, I5, r5, k2, e2, q5⟩ => ?_))
    subst e2
    cases r5
    exact wpAny_truthy_bool ⟨H5, I5, q5⟩
def TruV (K : PySem.W.Frag) (x : V) (H : Hp) (k : Bool) : Prop :=
  match x with
  | .non => k = false
  | .bl b => k = b
  | .int i => k = (i != 0)
  | .str y => y.length ≤ sizeLine ∧ k = ((y.length : Int) != 0)
  | .byt y => y.size ≤ sizeLine ∧ k = ((y.size : Int) != 0)
  | .ref p => (∃ xs, SqL K H p xs ∧ k = !xs.isEmpty) ∨ (∃ xs, SqT K H p xs ∧ k = !xs.isEmpty) ∨ ∃ kvs, H p = some (.dK kvs) ∧ k = !kvs.isEmpty
  | _ => False
theorem isEmpty_kv {κ : Type} {kvs : List (κ × V)} {vs : List (κ × Value)} (r : KV kvs vs) : (!vs.isEmpty) = !kvs.isEmpty := by
  cases r <;> rfl
theorem isEmpty_of {xs : List V} {its : List Value} (r : Vals xs its) : (!its.toArray.isEmpty) = !xs.isEmpty := by
  cases r <;> simp
theorem line63 : (sizeLine : Nat) < 2 ^ 63 := by rw [sizeLine_eq]; decide
theorem tru_ok : TruR X (fun x H Q => ∃ k, TruV X.K x H k ∧ Q k H) := by
  intro pins s σ H x v Q I rx h
  obtain ⟨k, e, q⟩ := h
  have hl := line63
  have hs : sizeLine = 16777216 := sizeLine_eq
  cases x with
  | non =>
    cases rx
    have e' : k = false := e
    subst e'
    exact truthy_none ⟨H, I, q⟩
  | bl b =>
    cases rx
    have e' : k = b := e
    subst e'
    exact wpAny_truthy_bool ⟨H, I, q⟩
  | int i =>
    obtain ⟨t, rfl⟩ := rx
    have e' : k = (i != 0) := e
    subst e'
    exact PySem.P.truthy_int ⟨H, I, q⟩
  | str y =>
    obtain ⟨t, rfl⟩ := rx
    obtain ⟨hy, e'⟩ : y.length ≤ sizeLine ∧ k = ((y.length : Int) != 0) := e
    subst e'
    exact PySem.P.truthy_str (by omega) ⟨H, I.tok _, q⟩
  | byt y =>
    obtain ⟨t, rfl⟩ := rx
    obtain ⟨hy, e'⟩ : y.size ≤ sizeLine ∧ k = ((y.size : Int) != 0) := e
    subst e'
    exact PySem.W.truthy_bytes (by omega) ⟨H, I.tok _, q⟩
  | ref p =>
    cases rx
    have e' : (∃ xs, SqL X.K H p xs ∧ k = !xs.isEmpty) ∨ (∃ xs, SqT X.K H p xs ∧ k = !xs.isEmpty) ∨ ∃ kvs, H p = some (.dK kvs) ∧ k = !kvs.isEmpty := e
    rcases e' with ⟨xs, hx, e'⟩ | ⟨xs, hx, e'⟩ | ⟨kvs, hx, e'⟩
    · subst e'
      obtain ⟨its, r, pl, hz⟩ := I.list hx
      have hlen := r.length
      exact wpAny_truthy_list pl.isList (by simp only [List.size_toArray]; omega) ⟨H, I.tok _, by rw [isEmpty_of r]; exact q⟩
    · subst e'
      obtain ⟨its, r, pl, hz⟩ := I.tuple hx
      have hlen := r.length
      exact truthy_tuple pl (by simp only [List.size_toArray]; omega) ⟨H, I.tok _, by rw [isEmpty_of r]; exact q⟩
    · subst e'
      obtain ⟨hz, hS, vs, r, m⟩ : kvs.length ≤ sizeLine ∧ (p == sysModules) = false ∧ ∃ vs, KV kvs vs ∧ s.heap.DictOf (mixKind X.prog X.w) p vs := I.hok p _ hx
      have hlen : kvs.length = vs.length := Paired.length r
      exact wpAny_truthy_dict hS m (by omega) ⟨H, I.tok _, by rw [isEmpty_kv r]; exact q⟩
  | _ => exact (show False from e).elim
theorem op_add_str : OpR X (binaryOp .Add) (fun x y H Q => ∃ i j, x = .str i ∧ y = .str j ∧ i.length + j.length ≤ sizeLine ∧ Q (.str (i ++ j)) H) := by
  intro pins s σ H x y v u Q I rx ry h
  obtain ⟨i, j, rfl, rfl, hz, q⟩ := h
  obtain ⟨t, rfl⟩ := rx
  obtain ⟨t', rfl⟩ := ry
  exact add_str (fun t' tk => ⟨.str (i ++ j), H, I.tok _, ⟨_, rfl⟩, q⟩) hz
theorem vals1 {x : V} {us : List Value} (r : Vals [x] us) : ∃ u, us = [u] ∧ RelV x u := by
  cases r with
  | cons r1 r2 => cases r2; exact ⟨_, rfl, r1⟩
theorem vals2 {x y : V} {us : List Value} (r : Vals [x, y] us) : ∃ u w', us = [u, w'] ∧ RelV x u ∧ RelV y w' := by
  cases r with
  | cons r1 r2 =>
    cases r2 with
    | cons r3 r4 => cases r4; exact ⟨_, _, rfl, r1, r3⟩
theorem call_max2 (hc : X.calm = true) : CallR X (.builtin "max") (fun xs H Q => ∃ i j, xs = [.int i, .int j] ∧ Q (.int (if j > i then j else i)) H) := by
  intro pins s σ H xs us Q I r h
  obtain ⟨i, j, rfl, q⟩ := h
  obtain ⟨u, w', rfl, ⟨t, rfl⟩, ⟨t', rfl⟩⟩ := vals2 r
  refine max_two_ints (I.ok.hd hc) fun h' tk k => ⟨_, H, I.kept k, ?_, q⟩
  by_cases hj : j > i
  · rw [if_pos hj, if_pos hj]; exact ⟨_, rfl⟩
  · rw [if_neg hj, if_neg hj]; exact ⟨_, rfl⟩
def LenV (K : PySem.W.Frag) (x : V) (H : Hp) (n : Nat) : Prop :=
  match x with
  | .str y => y.length ≤ sizeLine ∧ n = y.length
  | .byt y => y.size ≤ sizeLine ∧ n = y.size
  | .ref p => (∃ xs, SqL K H p xs ∧ n = xs.length) ∨ ∃ xs, SqT K H p xs ∧ n = xs.length
  | _ => False
theorem call_len : CallR X (.builtin "len") (fun xs H Q => ∃ x n, xs = [x] ∧ LenV X.K x H n ∧ Q (.int n) H) := by
  intro pins s σ H xs us Q I r h
  obtain ⟨x, n, rfl, e, q⟩ := h
  obtain ⟨u, rfl, rx⟩ := vals1 r
  have hl := line63
  have hs : sizeLine = 16777216 := sizeLine_eq
  cases x with
  | str y =>
    obtain ⟨t, rfl⟩ := rx
    obtain ⟨hy, e'⟩ : y.length ≤ sizeLine ∧ n = y.length := e
    subst e'
    exact len_str (by omega) ⟨.int _, H, I.tok _, ⟨_, rfl⟩, q⟩
  | byt y =>
    obtain ⟨t, rfl⟩ := rx
    obtain ⟨hy, e'⟩ : y.size ≤ sizeLine ∧ n = y.size := e
    subst e'
    exact PySem.W.len_bytes (by omega) ⟨.int _, H, I.tok _, ⟨_, rfl⟩, q⟩
  | ref p =>
    cases rx
    have e' : (∃ xs, SqL X.K H p xs ∧ n = xs.length) ∨ ∃ xs, SqT X.K H p xs ∧ n = xs.length := e
    rcases e' with ⟨xs, hx, e'⟩ | ⟨xs, hx, e'⟩
    · subst e'
      obtain ⟨its, r', pl, hz⟩ := I.list hx
      have hlen := r'.length
      exact Calls.call_len_list pl.isList (by simp only [List.size_toArray]; omega) ⟨.int xs.length, H, I.tok _, ⟨_, by simp only [List.size_toArray]; rw [hlen]⟩, q⟩
    · subst e'
      obtain ⟨its, r', pl, hz⟩ := I.tuple hx
      have hlen := r'.length
      exact len_tuple pl (by simp only [List.size_toArray]; omega) ⟨.int xs.length, H, I.tok _, ⟨_, by simp only [List.size_toArray]; rw [hlen]⟩, q⟩
  | _ => exact (show False from e).elim
end
end L2
namespace L2
open PySem PySem.Spec PyProof.Rows
structure ObjM (h : Heap) (x dx C : Addr) (mA : Str → Option Value) : Prop where
  obj : h.get? x = some (PySem.W.instObj C dx)
  ns : h.Ns1 dx mA
  ne : dx ≠ x
theorem lookIn_ns {h : Heap} {dx : Addr} {mA : Str → Option Value} (n : h.Ns1 dx mA) : ∃ od, h.get? dx = some od ∧ ∀ name, PySem.W.lookIn name od = some (mA name) := by
  obtain ⟨o, es, ep, ho, hd, hk, _, hm⟩ := n
  refine ⟨o, ho, fun name => ?_⟩
  have e := hm name
  unfold nsFind findBy at e
  rw [← Array.find?_toList] at e
  unfold PySem.W.lookIn
  rw [hd]
  dsimp only
  split
  · rename_i y q
    rw [q] at e
    exact congrArg some e
  · rename_i q
    rw [q] at e
    have a : es.toList.any (·.refKey) = false := by
      rw [List.any_eq_false]
      intro y hy
      obtain ⟨z, t, hkey⟩ := hk y (Array.mem_toList_iff.mp hy)
      simp [DictEntry.refKey, hkey]
    have a' : ¬ es.toList.any (·.refKey) = true := by rw [a]; exact Bool.false_ne_true
    rw [if_neg a']
    exact congrArg some e
theorem ObjM.look {h : Heap} {x dx C : Addr} {mA : Str → Option Value} (I : ObjM h x dx C mA) : ∃ od, PySem.W.InstAt h x (PySem.W.instObj C dx) C (some od) ∧ ∀ name, PySem.W.lookIn name od = some (mA name) :=
  let ⟨od, ho, hl⟩ := lookIn_ns I.ns
  ⟨od, ⟨I.obj, rfl, rfl, ho⟩, hl⟩
section
variable {prog : Program} {w : World} {A : Around} {E : Value → Shared → Prop} {s : Shared} {K : PySem.W.Frag} {x dx C f : Addr} {mA : Str → Option Value} {name : Str} {v : Value}
theorem get_map {expr : Bool} {Q : Value → Shared → Prop} (X : K.In s.heap) (I : ObjM s.heap x dx C mA) (hg : PySem.W.plainGet K C name = true) (hh : PySem.W.hasDictIn K C = true)
    (ha : PySem.W.findIn K (.ref C) name = some none) (hv : mA name = some v) (hv' : PySem.W.handedIn v = true) (h : Q v { s with toks := s.toks + 1 }) :
    wpAny (model prog w) A (getAttr (.ref x) name expr) Q E s := by
  obtain ⟨od, J, hl⟩ := I.look
  exact PySem.W.get_value X J (PySem.W.plainGet_of hg).1 (PySem.W.findObj_own hh ha rfl (by rw [hl, hv])) hv' h
theorem set_map {ns : List Str} {Q : Unit → Shared → Prop} (X : K.In s.heap) (I : ObjM s.heap x dx C mA)
    (hs : PySem.W.findIn K (.ref C) "__setattr__" = some (some (.builtin "object.__setattr__"))) (hp : PySem.W.plainOver K C = true) (ht : PySem.W.takerIn K C name = some none) (hh : PySem.W.hasDictIn K C = true)
    (hw : PySem.Within mA ns) (hsz : ns.length ≤ sizeLine)
    (h : ∀ h', ObjM h' x dx C (fun y => if y = name then some v else mA y) → Heap.SameBut dx s.heap h' → Q () { s with heap := h', toks := s.toks + 2 }) :
    wpAny (model prog w) A (setAttr (.ref x) name v) Q E s := by
  obtain ⟨od, J, hl⟩ := I.look
  refine PySem.W.set_plain X J hs (PySem.W.osa_open (s := { s with toks := s.toks + 1 }) (r := none) X J hp ht fun b => ?_)
  obtain ⟨cd, hc, hd'⟩ := PySem.W.any_some hh
  have hx : s.heap.get? x = some ⟨.ref C, some dx, .plain, #[]⟩ := I.obj
  refine wpAny_bind (wpAny_pure (wpAny_bind (wpAny_bind (wpAny_loadPart hx (wpAny_bind (PySem.W.Looks.here (s := { s with toks := s.toks + 1 }) (PySem.W.looks_clsIn X hc) ?_))))))
  rw [hd']
  refine wpAny_pure (a := some dx) (wpAny_bind (wpAny_pure (wpAny_bind ?_)))
  refine wpAny_nsSet1 (s := { s with toks := s.toks + 1 }) I.ns fun h' hn2 hs2 => ?_
  obtain ⟨oD, esD, epD, hoD, hdD, hcD⟩ := hn2.count (PySem.Within.cons name v hw)
  refine wpAny_bind (wpAny_lookBehind hoD (by rw [hdD]; exact pastItsLine_dict (Nat.le_trans hcD (by rw [List.length_cons]; omega))) ?_)
  exact wpAny_pure (h _ ⟨(hs2.2 _ (Ne.symm I.ne)).trans I.obj, hn2, I.ne⟩ hs2)
theorem make_map {R : Result → Shared → Prop} {vs : List Value} {kw : List (Str × Value)} (X : K.In s.heap) (hm : PySem.W.makesIn K C = true)
    (hi : PySem.W.findIn K (.ref C) "__init__" = some (some (.ref f))) (hf : PySem.W.typeIn K (.ref f) = some (.type "function"))
    (h : codeAny (model prog w) (A.under (.builtin "type.__call__" ⟨.ref C :: vs, kw⟩)) (.call (.ref f) ⟨.ref (s.heap.objs.size + 1) :: vs, kw⟩) (PySem.W.InitBack (s.heap.objs.size + 1) R)
      { s with heap := (s.heap.push PySem.W.emptyDict).push (PySem.W.instObj C s.heap.objs.size) }) :
    codeAny (model prog w) A (.call (.ref C) ⟨vs, kw⟩) R s := by
  obtain ⟨hh, g, d, t, os⟩ := s
  exact PySem.W.make_core (PySem.W.makes_of X hm) (PySem.W.looks_findIn X hi) (fun self => PySem.W.bind_fn X self hf) (.inl rfl) h
end
def putF (f : Str) (v : V) : List (Str × V) → List (Str × V)
  | [] => [(f, v)]
  | (g, x) :: r => if g = f then (g, v) :: r else (g, x) :: putF f v r
theorem lookup_putF (f g : Str) (v : V) : ∀ fs : List (Str × V), (putF f v fs).lookup g = if g = f then some v else fs.lookup g
  | [] => by
    show List.lookup g [(f, v)] = _
    by_cases h : g = f
    · have hb : (g == f) = true := beq_iff_eq.mpr h
      simp only [List.lookup, hb, if_pos h]
    · have hb : (g == f) = false := beq_eq_false_iff_ne.mpr h
      simp only [List.lookup, hb, if_neg h]
  | (k, x) :: r => by
    have ih := lookup_putF f g v r
    rw [show putF f v ((k, x) :: r) = (if k = f then (k, v) :: r else (k, x) :: putF f v r) from rfl]
    by_cases hk : k = f
    · rw [if_pos hk]
      by_cases h : g = k
      · have hb : (g == k) = true := beq_iff_eq.mpr h
        simp only [List.lookup, hb, if_pos (h.trans hk)]
      · have hb : (g == k) = false := beq_eq_false_iff_ne.mpr h
        simp only [List.lookup, hb, if_neg (fun e : g = f => h (e.trans hk.symm))]
    · rw [if_neg hk]
      by_cases h : g = k
      · have hb : (g == k) = true := beq_iff_eq.mpr h
        simp only [List.lookup, hb, if_neg (fun e : g = f => hk (h.symm.trans e))]
      · have hb : (g == k) = false := beq_eq_false_iff_ne.mpr h
        simp only [List.lookup, hb]
        exact ih
theorem keys_putF (f : Str) (v : V) : ∀ fs : List (Str × V), f ∈ (putF f v fs).map (·.1) ∧ ∀ g, g ∈ fs.map (·.1) → g ∈ (putF f v fs).map (·.1)
  | [] => ⟨by simp [putF], fun g h => by simp at h⟩
  | (k, x) :: r => by
    obtain ⟨i1, i2⟩ := keys_putF f v r
    rw [show putF f v ((k, x) :: r) = (if k = f then (k, v) :: r else (k, x) :: putF f v r) from rfl]
    by_cases hk : k = f
    · rw [if_pos hk]
      subst hk
      exact ⟨by simp, fun g h => by simpa using h⟩
    · rw [if_neg hk]
      refine ⟨?_, fun g h => ?_⟩
      · rw [List.map_cons]
        exact List.mem_cons_of_mem _ i1
      · rw [List.map_cons] at h ⊢
        rcases List.mem_cons.mp h with e | e
        · exact List.mem_cons.mpr (.inl e)
        · exact List.mem_cons_of_mem _ (i2 g e)
theorem length_putF (f : Str) (v : V) : ∀ fs : List (Str × V), (putF f v fs).length ≤ fs.length + 1
  | [] => by simp [putF]
  | (k, x) :: r => by
    have ih := length_putF f v r
    rw [show putF f v ((k, x) :: r) = (if k = f then (k, v) :: r else (k, x) :: putF f v r) from rfl]
    by_cases hk : k = f
    · rw [if_pos hk, List.length_cons, List.length_cons]; omega
    · rw [if_neg hk, List.length_cons, List.length_cons]; omega
theorem RelO.some_of {v : V} {o : Option Value} (r : RelO (some v) o) : ∃ u, o = some u ∧ RelV v u := by
  cases o with
  | none => exact (show False from r).elim
  | some u => exact ⟨u, rfl, r⟩
theorem handed_of {v : V} {u : Value} (r : RelV v u) : PySem.W.handedIn u = true := by
  cases v with
  | non => cases (show u = Value.none from r); rfl
  | bl b => cases (show u = Value.bool b from r); rfl
  | int i => obtain ⟨t, e⟩ := (show ∃ t, u = Value.int i t from r); cases e; rfl
  | str x => obtain ⟨t, e⟩ := (show ∃ t, u = Value.str x t from r); cases e; rfl
  | byt b => obtain ⟨t, e⟩ := (show ∃ t, u = Value.bytes b t from r); cases e; rfl
  | flt b => obtain ⟨t, e⟩ := (show ∃ t, u = Value.float b t from r); cases e; rfl
  | ref a => cases (show u = Value.ref a from r); rfl
  | ty n => cases (show u = Value.type n from r); rfl
section
variable {P : Program} {w : World} {H H' : Hp} {h h' : Heap} {a C dx : Addr} {fs fs' : List (Str × V)}
theorem ins_get (hok : HOk P w H h) (e : H a = some (.ins C dx fs)) : ∃ mA, ObjM h a dx C mA ∧ (∀ f, RelO (fs.lookup f) (mA f)) ∧ PySem.Within mA (fs.map (·.1)) ∧ fs.length ≤ 1000 ∧ H dx = some (.own a) := by
  obtain ⟨d, z, ne, ob, mA, n, r, q⟩ := (show ObjOk P w H h a (.ins C dx fs) from hok a _ e)
  exact ⟨mA, ⟨ob, n, ne⟩, r, q, z, d⟩
end
structure Cls (K : PySem.W.Frag) (C : Addr) : Prop where
  pg : PySem.W.plainGet K C Str.empty = true
  hd : PySem.W.hasDictIn K C = true
  po : PySem.W.plainOver K C = true
  sa : PySem.W.findIn K (.ref C) "__setattr__" = some (some (.builtin "object.__setattr__"))
theorem Cls.get {K : PySem.W.Frag} {C : Addr} (c : Cls K C) (f : Str) : PySem.W.plainGet K C f = true := c.pg
def NoAttr (K : PySem.W.Frag) (C : Addr) (f : Str) : Prop := PySem.W.findIn K (.ref C) f = some none
theorem NoAttr.taker {K : PySem.W.Frag} {C : Addr} {f : Str} (n : NoAttr K C f) : PySem.W.takerIn K C f = some none := by
  unfold PySem.W.takerIn
  rw [show PySem.W.findIn K (.ref C) f = some none from n]
  rfl
section
variable {X : Cx} {pins : List (Addr × Obj)} {σ : St} {H : Hp} {s : Shared} {a C dx : Addr} {fs : List (Str × V)} {f : Str} {v : V} {A : Around} {E : Value → Shared → Prop}
theorem getattr_ok {b : Bool} {Q : Value → Shared → Prop} (I : Inv X pins σ H s) (e : H a = some (.ins C dx fs)) (c : Cls X.K C) (n : NoAttr X.K C f) (l : fs.lookup f = some v)
    (h : ∀ u s', Inv X pins σ H s' → RelV v u → Q u s') : wpAny (model X.prog X.w) A (getAttr (.ref a) f b) Q E s := by
  obtain ⟨mA, O, r, _, _, _⟩ := ins_get I.hok e
  obtain ⟨u, hu, ru⟩ := RelO.some_of (v := v) (o := mA f) (by rw [← l]; exact r f)
  exact get_map I.kIn O (c.get f) c.hd n hu (handed_of ru) (h u _ (I.tok _) ru)
theorem setattr_ok {y : V} {u : Value} {Q : Unit → Shared → Prop} (I : Inv X pins σ H s) (e : H a = some (.ins C dx fs)) (c : Cls X.K C) (n : NoAttr X.K C f) (hl : fs.length < 1000) (ry : RelV y u)
    (h : ∀ s', Inv X pins σ (upd H a (.ins C dx (putF f y fs))) s' → Q () s') : wpAny (model X.prog X.w) A (setAttr (.ref a) f u) Q E s := by
  obtain ⟨mA, O, r, wi, _, ho⟩ := ins_get I.hok e
  have hz : (fs.map (·.1)).length ≤ sizeLine := by rw [List.length_map, sizeLine_eq]; omega
  refine set_map I.kIn O c.sa c.po n.taker c.hd wi hz fun h' O' sb => h _ ?_
  have hd : ∃ o, h'.get? dx = some o := let ⟨o, _, _, e', _⟩ := O'.ns; ⟨o, e'⟩
  refine I.write (x := a) (e := dx) (by rw [e]; exact True.intro) (.inr ho) (fun b q hb z => (sb.2 b hb).trans z) hd ?_
  refine ⟨by rw [upd_ne O.ne]; exact ho, ?_, O.ne, O'.obj, _, O'.ns, fun g => ?_, fun g hg => ?_⟩
  · have := length_putF f y fs; omega
  · show RelO ((putF f y fs).lookup g) (if g = f then some u else mA g)
    rw [lookup_putF]
    by_cases q : g = f
    · rw [if_pos q, if_pos q]; exact ry
    · rw [if_neg q, if_neg q]; exact r g
  · by_cases q : g = f
    · rw [q]; exact (keys_putF f y fs).1
    · refine (keys_putF f y fs).2 g (wi g fun z => hg ?_)
      show (if g = f then some u else mA g) = none
      rw [if_neg q]; exact z
theorem Inv.made (I : Inv X pins σ H s) : Inv X pins σ (upd (upd H s.heap.objs.size (.own (s.heap.objs.size + 1))) (s.heap.objs.size + 1) (.ins C s.heap.objs.size []))
    { s with heap := (s.heap.push PySem.W.emptyDict).push (PySem.W.instObj C s.heap.objs.size) } := by
  have e1 : (s.heap.push PySem.W.emptyDict).get? s.heap.objs.size = some PySem.W.emptyDict := Heap.get?_push_size s.heap rfl
  have e2 : ((s.heap.push PySem.W.emptyDict).push (PySem.W.instObj C s.heap.objs.size)).get? (s.heap.objs.size + 1) = some (PySem.W.instObj C s.heap.objs.size) := by
    have := Heap.get?_push_size (s.heap.push PySem.W.emptyDict) (o := PySem.W.instObj C s.heap.objs.size) rfl
    rwa [Heap.size_push] at this
  have e3 : (s.heap.push PySem.W.emptyDict).Ns s.heap.objs.size (fun _ => none) := ⟨PySem.W.emptyDict, #[], _, e1, rfl, (fun e he => absurd he (by simp)), fun _ => rfl⟩
  have I1 := I.laid (a := s.heap.objs.size) (o := .own (s.heap.objs.size + 1)) (h' := s.heap.push PySem.W.emptyDict) (t' := s.toks) (fun b u q => Heap.get?_push_of_some _ q) (Nat.le_refl _) ⟨_, e1⟩
  refine I1.laid (a := s.heap.objs.size + 1) (o := .ins C s.heap.objs.size []) (t' := s.toks) (fun b u q => Heap.get?_push_of_some _ q) (Nat.le_of_eq (Heap.size_push _ _)) ?_
  have ne : s.heap.objs.size ≠ s.heap.objs.size + 1 := Nat.ne_of_lt (Nat.lt_succ_self _)
  refine ⟨by rw [upd_ne ne, upd_same], Nat.zero_le _, ne, e2, fun _ => none, (Heap.Ns1.of_empty e3).at fun o q => Heap.get?_push_of_some _ q, fun _ => True.intro, fun y hy => absurd rfl hy⟩
theorem attr_of {prog : Program} {w : World} {env : Env} {e : Expr} {f : Str} {pos : Pos} {s : Shared} {Q : Value → Shared → Prop} (hb : attributeBase e f env (eval e env) = eval e env)
    (h : wpAny (model prog w) A (eval e env) (fun o s₁ => wpAny (model prog w) A (getAttr o f true) Q E s₁) E s) : wpAny (model prog w) A (eval (.Attribute e f pos) env) Q E s :=
  Attribute_any_ h (by rw [arm_eval_Attribute, hb])
end
def tFld (K : PySem.W.Frag) (ta : TE) (f : Str) : TE := fun σ H Q => ta σ H fun x H1 => ∃ a C dx fs v, x = .ref a ∧ H1 a = some (.ins C dx fs) ∧ Cls K C ∧ NoAttr K C f ∧ fs.lookup f = some v ∧ Q v H1
def sFld (K : PySem.W.Frag) (ta tv : TE) (f : Str) : TS := fun D σ H => tv σ H fun y H1 => ta σ H1 fun x H2 => ∃ a C dx fs, x = .ref a ∧ H2 a = some (.ins C dx fs) ∧ Cls K C ∧ NoAttr K C f ∧ fs.length < 1000 ∧
  D.nx σ (upd H2 a (.ins C dx (putF f y fs)))
section
variable {X : Cx} {o e value : Expr} {f : Str} {pos pos' tpos : Pos} {ta tv : TE}
theorem pe_fld (he : PE X e ta) (hb : attributeBase e f X.env (eval e X.env) = eval e X.env) : PE X (.Attribute e f pos) (tFld X.K ta f) := by
  intro pins s σ H Q I h
  refine attr_of hb (thn (he pins s σ H _ I h) fun u s1 ⟨x, H1, I1, rx, a, C, dx, fs, v, ex, ea, c, n, l, q⟩ => ?_)
  subst ex
  obtain rfl : u = Value.ref a := rx
  exact getattr_ok I1 ea c n l fun u' s2 I2 ru => ⟨v, H1, I2, ru, q⟩
theorem ps_fld (ha : PE X o ta) (hv : PE X value tv) (hs : swapsWith value (some (.Attribute o f pos')) pos.line X.env = pure false) : PS X (.Assign [.Attribute o f pos'] value pos) (sFld X.K ta tv f) := by
  intro pins s σ H D I h
  refine plainObj_wpAny_Assign_Attribute (thn (hv pins s σ H _ I h) fun u s1 ⟨y, H1, I1, ry, q⟩ => thn (ha pins s1 σ H1 _ I1 q) fun ov s2 ⟨x, H2, I2, rx, a, C, dx, fs, ex, ea, c, n, l, q2⟩ => ?_) hs
  subst ex
  obtain rfl : ov = Value.ref a := rx
  exact setattr_ok I2 ea c n l ry fun s3 I3 => ⟨σ, _, I3, q2⟩
end
section
variable {X : Cx} {pins : List (Addr × Obj)} {σ : St} {H : Hp} {s : Shared} {A : Around} {E : Value → Shared → Prop} {Q : Value → Shared → Prop} {c : Value} {b : Bool}
end
end L2
namespace L2
open PySem PySem.Spec PyProof.Rows
structure Room (k : Nat) (A : Around) : Prop where
  hd : A.handled = none
  dp : A.depth + 3 * k + 5 < recursionLimit
  un : A.units + 16 * k + 200 < cLine
theorem Room.mono {j k : Nat} {A : Around} (r : Room k A) (h : j ≤ k) : Room j A := ⟨r.hd, by have := r.dp; omega, by have := r.un; omega⟩
theorem Room.deeper {k : Nat} {A : Around} (r : Room (k + 1) A) (env : Env) : Room k (A.deeper env) :=
  ⟨r.hd, by have := r.dp; show A.depth + 1 + 3 * k + 5 < _; omega, by have := r.un; show A.units + 3 + 16 * k + 200 < _; omega⟩
theorem make_depth {A : Around} {C : Addr} {us : List Value} {kw : List (Str × Value)} : (A.under (.builtin "type.__call__" ⟨.ref C :: us, kw⟩)).depth = A.depth + 1 := by
  first | rfl | simp [Around.under, Code.weight, Code.isCreation, Code.isGuard, Code.isCaller, Code.frames, Code.isFrame, guardIds]
theorem make_units {A : Around} {C : Addr} {us : List Value} {kw : List (Str × Value)} : (A.under (.builtin "type.__call__" ⟨.ref C :: us, kw⟩)).units = A.units + 1 := by
  first | rfl | simp [Around.under, Code.cUnits, Code.frames, Code.isFrame]
theorem Room.make {k : Nat} {A : Around} (r : Room (k + 1) A) (C : Addr) (us : List Value) (kw : List (Str × Value)) : Room k (A.under (.builtin "type.__call__" ⟨.ref C :: us, kw⟩)) :=
  ⟨r.hd, by have := r.dp; rw [make_depth]; omega, by have := r.un; rw [make_units]; omega⟩
theorem Room.depth {k : Nat} {A : Around} (r : Room k A) : A.depth < recursionLimit := by have := r.dp; omega
theorem Room.units {k : Nat} {A : Around} (r : Room k A) : A.units + 64 < cLine := by have := r.un; omega
def tNil : TA := fun _ H Q => Q [] H
def tCons (ta : TE) (tr : TA) : TA := fun σ H Q => ta σ H fun x H1 => tr σ H1 fun xs H2 => Q (x :: xs) H2
section
variable {X : Cx} {e : Expr} {es : List Expr} {te : TE} {t : TA} {pos : Pos}
theorem pa_nil : PA X [] tNil := fun _ _ _ _ H Q I h => Calls.spliced_nil ⟨[], H, I, .nil, h⟩
theorem pa_cons (ha : PE X e te) (hr : PA X es t) (hs : starEach (e :: es) X.env = (false, eval e X.env) :: starEach es X.env := by rfl) : PA X (e :: es) (tCons te t) := by
  intro pos pins s σ H Q I h
  rw [hs]
  show wpAny _ _ (spliced ((false, eval e X.env) :: backTo pos (starEach es X.env))) _ _ s
  refine Calls.spliced_cons (thn (ha pins s σ H _ I h) fun u s1 ⟨x, H1, I1, r1, q1⟩ => ?_)
  exact thn (hr pos pins s1 σ H1 _ I1 q1) fun us s2 ⟨xs, H2, I2, r2, q2⟩ => ⟨x :: xs, H2, I2, .cons r1 r2, q2⟩
def tTup (t : TA) : TE := fun σ H Q => t σ H fun xs H1 => xs.length ≤ sizeLine ∧ ∀ p, H1 p = none → Q (.ref p) (upd H1 p (.tup xs))
def tLst (t : TA) : TE := fun σ H Q => t σ H fun xs H1 => xs.length ≤ sizeLine ∧ ∀ p, H1 p = none → Q (.ref p) (upd H1 p (.lst xs))
theorem pe_tup {x1} (h : PA X es t) : PE X (.Tuple es x1 pos) (tTup t) := by
  intro pins s σ H Q I hq
  refine wpAny_Tuple_spliced (thn (h pos pins s σ H _ I hq) fun us s1 ⟨xs, H1, I1, r, z, q⟩ => ⟨by rw [← r.length]; exact z, ?_⟩)
  have hf : H1 s1.heap.objs.size = none := I1.hok.fresh (Nat.le_refl _)
  refine ⟨.ref s1.heap.objs.size, upd H1 s1.heap.objs.size (.tup xs), I1.laid (t' := s1.toks) (fun b u e => Heap.get?_push_of_some _ e) (Nat.le_refl _) ?_, rfl, q _ hf⟩
  exact ⟨z, us, r, ⟨_, Heap.get?_push_size _ rfl, rfl, _, rfl⟩⟩
theorem pe_lst (h : PA X es t) : PE X (.List es pos) (tLst t) := by
  intro pins s σ H Q I hq
  refine wpAny_List_spliced (thn (h pos pins s σ H _ I hq) fun us s1 ⟨xs, H1, I1, r, z, q⟩ => ⟨by rw [← r.length]; exact z, ?_⟩)
  have hf : H1 s1.heap.objs.size = none := I1.hok.fresh (Nat.le_refl _)
  refine ⟨.ref s1.heap.objs.size, upd H1 s1.heap.objs.size (.lst xs), I1.laid (t' := s1.toks) (fun b u e => Heap.get?_push_of_some _ e) (Nat.le_refl _) ?_, rfl, q _ hf⟩
  exact ⟨z, us, 0, r, Heap.get?_push_size _ rfl⟩
end
abbrev Sp := List V → Hp → VK → XK → Prop
abbrev CXT := List Env → Hp → Shared → XK → Value → Shared → Prop
structure Env0 (P : Program) (w : World) (K : PySem.W.Frag) (mg : Str → Option Value) (base : Heap) (A : Around) (outer : List Env) (s : Shared) (H : Hp) : Prop where
  frames : A.frames = some outer
  mod : Mod K mg base
  bs : ∀ b o, base.get? b = some o → s.heap.get? b = some o ∧ H b = none
  bsz : base.objs.size ≤ s.heap.objs.size
  funs : s.heap.FunFrames base outer
  frf : ∀ b ∈ frs outer, H b = none
  hok : HOk P w H s.heap
  bare : AllBare s.gens
def CE (outer : List Env) (P : Program) (w : World) (H : Hp) (s : Shared) (Q : VK) (u : Value) (s' : Shared) : Prop :=
  ∃ v H', s'.os = s.os ∧ AllBare s'.gens ∧ Un (frs outer) [] H H' s.heap s'.heap ∧ HOk P w H' s'.heap ∧ RelV v u ∧ Q v H'
def CR (CX : CXT) (outer : List Env) (P : Program) (w : World) (H : Hp) (s : Shared) (Q : VK) (E : XK) (r : Result) (s' : Shared) : Prop :=
  match r with
  | .ok (.ret u) => CE outer P w H s Q u s'
  | .ok _ => False
  | .error e => CX outer H s E e s'
structure FnOk (P : Program) (w : World) (K : PySem.W.Frag) (mg : Str → Option Value) (base : Heap) (CX : CXT) (k : Nat) (f : Addr) (fd : FuncData) (ps : List Str) (sp : Sp) : Prop where
  len : ∀ vs H Q E, sp vs H Q E → vs.length = ps.length
  run : ∀ (A : Around) (outer : List Env) (s : Shared) (H : Hp) (args : Args) (us : List Value) (vs : List V) (Q : VK) (E : XK), Room k A → Env0 P w K mg base A outer s H → BindsTo s fd args (ps.zip us) → Vals vs us → sp vs H Q E →
    codeAny (model P w) A (.call (.ref f) args) (CR CX outer P w H s Q E) s
theorem Env0.make {P : Program} {w : World} {K : PySem.W.Frag} {mg : Str → Option Value} {base : Heap} {A : Around} {outer : List Env} {s : Shared} {H : Hp} (e : Env0 P w K mg base A outer s H) (C : Addr) (us : List Value) (kw : List (Str × Value)) :
    Env0 P w K mg base (A.under (.builtin "type.__call__" ⟨.ref C :: us, kw⟩)) outer s H := ⟨by first | exact e.frames | (simpa [Around.under, Code.envs, Code.isFrame, pushEnvs] using e.frames), e.mod, e.bs, e.bsz, e.funs, e.frf, e.hok, e.bare⟩
section
variable {X : Cx} {pins : List (Addr × Obj)} {σ : St} {H : Hp} {s s' : Shared}
theorem Inv.env0 (I : Inv X pins σ H s) : Env0 X.prog X.w X.K X.mg X.base X.A X.stack s H :=
  ⟨I.ok.frames, I.ok.mod, I.bs, Nat.le_trans I.ok.bsz I.sz, I.stack, I.stkFree, I.hok, I.bare⟩
theorem Inv.after {Q : VK} {u : Value} (I : Inv X pins σ H s) (h : CE X.stack X.prog X.w H s Q u s') : EP X pins σ Q u s' := by
  obtain ⟨v, H', os, bare, un, hok, r, q⟩ := h
  obtain ⟨hh, g, d, t, os'⟩ := s'
  obtain rfl : os' = s.os := os
  exact ⟨v, H', I.call (h' := hh) (g' := g) (d' := d) (t' := t) (ch := []) un hok bare (fun b z => absurd z (by simp)), r, q⟩
end
def tCall (sp : Sp) (dvs : List V) (E : XK) (t : TA) : TE := fun σ H Q => t σ H fun vs H1 => sp (vs ++ dvs) H1 Q E
def tMake (C : Addr) (sp : Sp) (dvs : List V) (E : XK) (t : TA) : TE := fun σ H Q => t σ H fun vs H1 => ∀ x dx, H1 x = none → H1 dx = none → dx ≠ x →
  sp (.ref x :: (vs ++ dvs)) (upd (upd H1 dx (.own x)) x (.ins C dx [])) (fun v H2 => v = .non ∧ Q (.ref x) H2) E
def Binds (K : PySem.W.Frag) (fd : FuncData) (ps : List Str) (ds : List Value) : Prop :=
  ∀ (s : Shared) (us : List Value), K.In s.heap → (us ++ ds).length = ps.length → BindsTo s fd ⟨us, []⟩ (ps.zip (us ++ ds))
theorem Binds.all {K : PySem.W.Frag} {fd : FuncData} {ps : List Str} (h : ∀ us : List Value, us.length = ps.length → bindArgs fd ⟨us, []⟩ = pure (ps.zip us)) : Binds K fd ps [] := fun s us _ hl => by
  rw [List.append_nil] at hl ⊢
  exact .of_eq (h us hl)
def Passes (CX : CXT) (X : Cx) (E : XK) : Prop := ∀ (pins : List (Addr × Obj)) (σ : St) (H : Hp) (s : Shared) (e : Value) (s' : Shared), Inv X pins σ H s → CX X.stack H s E e s' → X.xe e s'
section
variable {X : Cx} {CX : CXT} {k : Nat} {f C : Addr} {fd : FuncData} {ps : List Str} {sp : Sp} {dvs : List V} {ds : List Value} {E : XK} {x m : Str} {p pos apos : Pos} {e o : Expr} {es : List Expr} {ta : TE} {t : TA}
theorem run_fn {pins : List (Addr × Obj)} {σ : St} {H : Hp} {s : Shared} {Q : VK} {us : List Value} {vs : List V} (F : FnOk X.prog X.w X.K X.mg X.base CX k f fd ps sp) (hr : Room k X.A) (hb : Binds X.K fd ps ds) (hd : Vals dvs ds) (hx : Passes CX X E)
    (I : Inv X pins σ H s) (r : Vals vs us) (h : sp (vs ++ dvs) H Q E) : wpAny (model X.prog X.w) X.A (call (.ref f) us) (EP X pins σ Q) X.xe s := by
  have r2 : Vals (vs ++ dvs) (us ++ ds) := r.append hd
  have hl : (us ++ ds).length = ps.length := by rw [← r2.length]; exact F.len _ _ _ _ h
  refine wpAny_call (codeAny_mono (F.run X.A X.stack s H ⟨us, []⟩ (us ++ ds) (vs ++ dvs) Q E hr I.env0 (hb s us I.kIn hl) r2 h) fun r s' hq => ?_)
  cases r with
  | error e => exact hx pins σ H s e s' I hq
  | ok fl =>
    cases fl with
    | ret u => exact I.after hq
    | next => exact False.elim hq
    | brk => exact False.elim hq
    | cont => exact False.elim hq
theorem pe_call (F : FnOk X.prog X.w X.K X.mg X.base CX k f fd ps sp) (hr : Room k X.A) (hg : Gl X x) (hm : X.mg x = some (.ref f)) (hk : PySem.W.keepIn X.K (.ref f) = true) (hb : Binds X.K fd ps ds) (hd : Vals dvs ds) (hx : Passes CX X E)
    (ha : PA X (e :: es) t) (hdb : (x == ("__debug__" : Str)) = false := by decide) (he : starEach (e :: es) X.env = (false, eval e X.env) :: starEach es X.env := by rfl) (hpl : (backTo pos (starEach es X.env)).any (·.1) = false := by rfl) :
    PE X (.Call (.Name x p) (e :: es) [] pos) (tCall sp dvs E t) := by
  intro pins s σ H Q I h
  refine wpAny_Call_Name_kw (ld_glob I hg hm ?_ hdb)
  refine PySem.W.callWith_K (h₀ := X.base) I.ok.mod.kin hk (thn (ha pos pins s σ H _ I h) fun us s1 ⟨vs, H1, I1, r, q⟩ => ⟨I1.kIn, ?_⟩) he hpl
  exact run_fn F hr hb hd hx I1 r q
structure Mk (K : PySem.W.Frag) (C f : Addr) : Prop where
  makes : PySem.W.makesIn K C = true
  init : PySem.W.findIn K (.ref C) "__init__" = some (some (.ref f))
  fn : PySem.W.isFn K (.ref f) = true
  kp : PySem.W.keepIn K (.ref C) = true
theorem run_make {pins : List (Addr × Obj)} {σ : St} {H : Hp} {s : Shared} {Q : VK} {us : List Value} {vs : List V} (M : Mk X.K C f) (F : FnOk X.prog X.w X.K X.mg X.base CX k f fd ps sp) (hr : Room (k + 1) X.A) (hb : Binds X.K fd ps ds) (hd : Vals dvs ds)
    (hx : Passes CX X E) (I : Inv X pins σ H s) (r : Vals vs us)
    (h : ∀ x dx, H x = none → H dx = none → dx ≠ x → sp (.ref x :: (vs ++ dvs)) (upd (upd H dx (.own x)) x (.ins C dx [])) (fun v H2 => v = .non ∧ Q (.ref x) H2) E) :
    wpAny (model X.prog X.w) X.A (call (.ref C) us) (EP X pins σ Q) X.xe s := by
  have hq := h (s.heap.objs.size + 1) s.heap.objs.size (I.hok.fresh (Nat.le_succ _)) (I.hok.fresh (Nat.le_refl _)) (Nat.ne_of_lt (Nat.lt_succ_self _))
  have I2 := Inv.made (C := C) I
  have r2 : Vals (V.ref (s.heap.objs.size + 1) :: (vs ++ dvs)) (Value.ref (s.heap.objs.size + 1) :: (us ++ ds)) := .cons rfl (r.append hd)
  have hl : (Value.ref (s.heap.objs.size + 1) :: us ++ ds).length = ps.length := by
    have e := r2.length
    rw [F.len _ _ _ _ hq] at e
    exact e.symm
  refine wpAny_call (make_map (f := f) I.kIn M.makes M.init (beq_iff_eq.mp M.fn) (codeAny_mono (F.run _ X.stack _ _ ⟨Value.ref (s.heap.objs.size + 1) :: us, []⟩ (Value.ref (s.heap.objs.size + 1) :: (us ++ ds)) _ _ E (hr.make C us [])
    (I2.env0.make C us []) (hb _ (Value.ref (s.heap.objs.size + 1) :: us) I2.kIn hl) r2 hq) fun r s' hq' => ?_))
  cases r with
  | error e => exact hx pins σ _ _ e s' I2 hq'
  | ok fl =>
    cases fl with
    | ret u =>
      obtain ⟨v, H', I3, rv, ev, q3⟩ := I2.after hq'
      subst ev
      exact ⟨rv, ⟨V.ref (s.heap.objs.size + 1), H', I3, rfl, q3⟩⟩
    | next => exact False.elim hq'
    | brk => exact False.elim hq'
    | cont => exact False.elim hq'
theorem pe_make (M : Mk X.K C f) (F : FnOk X.prog X.w X.K X.mg X.base CX k f fd ps sp) (hr : Room (k + 1) X.A) (hg : Gl X x) (hm : X.mg x = some (.ref C)) (hb : Binds X.K fd ps ds) (hd : Vals dvs ds) (hx : Passes CX X E)
    (ha : PA X (e :: es) t) (hdb : (x == ("__debug__" : Str)) = false := by decide) (he : starEach (e :: es) X.env = (false, eval e X.env) :: starEach es X.env := by rfl) (hpl : (backTo pos (starEach es X.env)).any (·.1) = false := by rfl) :
    PE X (.Call (.Name x p) (e :: es) [] pos) (tMake C sp dvs E t) := by
  intro pins s σ H Q I h
  refine wpAny_Call_Name_kw (ld_glob I hg hm ?_ hdb)
  refine PySem.W.callWith_K (h₀ := X.base) I.ok.mod.kin M.kp (thn (ha pos pins s σ H _ I h) fun us s1 ⟨vs, H1, I1, r, q⟩ => ⟨I1.kIn, ?_⟩) he hpl
  exact run_make M F hr hb hd hx I1 r q
end
section
variable {X : Cx} {CX : CXT} {k : Nat} {f C : Addr} {fd : FuncData} {ps ks : List Str} {sp : Sp} {E : XK} {x m : Str} {p pos apos kpos : Pos} {e o : Expr} {es : List Expr} {kws : List Keyword} {te ta : TE} {t tk : TA} {nm : Option Str}
variable {g : List Value → List Value → List Value} {gV : List V → List V → List V}
end
structure FnScope (N P : List Str) (sc : Scope) : Prop where
  kind : sc.kind = .function
  co : sc.isCoroutine = false
  gen : sc.isGenerator = false
  nd : N.Nodup
  pre : N.take P.length = P
  par : ∀ x ∈ P, sc.names.lookup x = some .local ∨ sc.names.lookup x = some .cell
  nofree : ∀ y ∈ sc.names, y.2 ≠ .free
theorem bindL_out {kindOf : Str → Option NameKind} {x : Str} : ∀ {binds : List (Str × Value)} {m : Str → Option Value}, (∀ v, (x, v) ∉ binds) → bindL kindOf binds m x = m x
  | [], _, _ => rfl
  | (n, v) :: r, m, h => by
    unfold bindL
    rw [bindL_out fun w hw => h w (List.mem_cons_of_mem _ hw)]
    split
    · have : x ≠ n := by rintro rfl; exact h v List.mem_cons_self
      simp [this]
    · rfl
theorem bindC_out {kindOf : Str → Option NameKind} {x : Str} : ∀ {binds : List (Str × Value)} {m : Str → Option Value}, (∀ v, (x, v) ∉ binds) → bindC kindOf binds m x = m x
  | [], _, _ => rfl
  | (n, v) :: r, m, h => by
    unfold bindC
    rw [bindC_out fun w hw => h w (List.mem_cons_of_mem _ hw)]
    split
    · rfl
    · have : x ≠ n := by rintro rfl; exact h v List.mem_cons_self
      simp [this]
theorem bindL_get {kindOf : Str → Option NameKind} {x : Str} {v : Value} : ∀ {P : List Str} {vs : List Value} {i : Nat} {m : Str → Option Value}, P.Nodup → P[i]? = some x → vs[i]? = some v → kindOf x = some .local →
    bindL kindOf (P.zip vs) m x = some v
  | [], _, _, _, _, h, _, _ => by simp at h
  | _ :: _, [], _, _, _, _, h, _ => by simp at h
  | p :: P, w :: vs, 0, m, nd, h1, h2, hk => by
    simp at h1 h2; subst h1; subst h2
    show bindL kindOf ((p, w) :: P.zip vs) m p = _
    unfold bindL
    rw [bindL_out fun v hv => (List.nodup_cons.mp nd).1 (List.of_mem_zip hv).1, if_pos hk]
    simp
  | p :: P, w :: vs, i + 1, m, nd, h1, h2, hk => by
    show bindL kindOf ((p, w) :: P.zip vs) m x = _
    unfold bindL
    exact bindL_get (i := i) (List.nodup_cons.mp nd).2 (by simpa using h1) (by simpa using h2) hk
theorem bindC_get {kindOf : Str → Option NameKind} {x : Str} {v : Value} : ∀ {P : List Str} {vs : List Value} {i : Nat} {m : Str → Option Value}, P.Nodup → P[i]? = some x → vs[i]? = some v → kindOf x ≠ some .local →
    bindC kindOf (P.zip vs) m x = some v
  | [], _, _, _, _, h, _, _ => by simp at h
  | _ :: _, [], _, _, _, _, h, _ => by simp at h
  | p :: P, w :: vs, 0, m, nd, h1, h2, hk => by
    simp at h1 h2; subst h1; subst h2
    show bindC kindOf ((p, w) :: P.zip vs) m p = _
    unfold bindC
    rw [bindC_out fun v hv => (List.nodup_cons.mp nd).1 (List.of_mem_zip hv).1, if_neg hk]
    simp
  | p :: P, w :: vs, i + 1, m, nd, h1, h2, hk => by
    show bindC kindOf ((p, w) :: P.zip vs) m x = _
    unfold bindC
    exact bindC_get (i := i) (List.nodup_cons.mp nd).2 (by simpa using h1) (by simpa using h2) hk
def start (N : List Str) (vs : List V) : St := vs.map some ++ List.replicate (N.length - vs.length) none
def cxOf (CX : CXT) (P : Program) (w : World) (K : PySem.W.Frag) (mg : Str → Option Value) (base : Heap) (N : List Str) (qual : Str) (scope : Scope) (f : Addr) (cd : Value) (A : Around) (outer : List Env) (s : Shared) (H : Hp) (E : XK) : Cx where
  prog := P
  w := w
  K := K
  mg := mg
  base := base
  A := A.deeper (envOfC qual scope s.heap.objs.size f cd)
  N := N
  s₀ := s
  H₀ := H
  env := envOfC qual scope s.heap.objs.size f cd
  outer := outer
  stack := envOfC qual scope s.heap.objs.size f cd :: outer
  ex := []
  calm := true
  fn := fun _ => true
  pn := []
  xe := fun e s' => wpAny (model P w) (A.deeper (envOfC qual scope s.heap.objs.size f cd)) (leaving (envOfC qual scope s.heap.objs.size f cd) e) (fun _ s'' => CX outer H s E e s'') (fun e' s'' => CX outer H s E e' s'') s'
theorem cell_has {sc : Scope} {n : Nat} {x : Str} (h : sc.names.lookup x = some .cell) : ∃ c, (cellsFrom n sc.names []).lookup x = some c := by
  have q := PySem.W.cellsFrom_some sc.names n [] (.inl h)
  exact Option.isSome_iff_exists.mp q
theorem inv_start {CX : CXT} {P : Program} {w : World} {K : PySem.W.Frag} {mg : Str → Option Value} {base : Heap} {N ps : List Str} {qual : Str} {scope : Scope} {f : Addr} {cd : Value} {A : Around} {outer : List Env} {s s1 : Shared} {H : Hp} {E : XK} {us : List Value} {vs : List V}
    (S : FnScope N ps scope) (hd : A.handled = none) (e0 : Env0 P w K mg base A outer s H) (hl : vs.length = ps.length) (r : Vals vs us)
    (x : InCallC s s.heap.objs.size (bindL (envOfC qual scope s.heap.objs.size f cd).kindOf (ps.zip us) fun _ => none) (cellsFrom (s.heap.objs.size + 1) scope.names []) (bindC (envOfC qual scope s.heap.objs.size f cd).kindOf (ps.zip us) fun _ => none) s1) :
    Inv (cxOf CX P w K mg base N qual scope f cd A outer s H E) [] (start N vs) H s1 := by
  have hpl : ps.length ≤ N.length := by have := congrArg List.length S.pre; rw [List.length_take] at this; omega
  obtain ⟨h1, tk, rfl, hk⟩ := x.done
  have noA : ∀ b : Addr, b ∉ (cxOf CX P w K mg base N qual scope f cd A outer s H E).ex := fun b z => absurd (show b ∈ ([] : List Addr) from z) (by simp)
  refine ⟨⟨e0.mod, S.kind, rfl, rfl, Nat.le_refl _, fun y z c h1 h2 => ?_, fun y hy => ?_, fun y c _ h => ?_, fun _ => hd, Around.frames_deeper e0.frames, .inr ⟨rfl, rfl⟩, fun b z => absurd z (noA b), e0.bs, e0.bsz, fun b _ _ => noA b, fun b z => absurd z (noA b), e0.funs, e0.frf⟩,
    rfl, e0.bare, Un.kept hk, ⟨_, x.toInCall.ns, fun i y v h1 h2 h3 => ?_⟩, fun y c h => ⟨_, x.cell y c h⟩, e0.hok.fresh (Nat.le_refl _), fun y c h => ?_, fun p hp => absurd (show p ∈ ([] : List (Addr × Obj)) from hp) (by simp), e0.hok.kept hk, ?_⟩
  · exact name_of_addr x.apart (PySem.mem_of_lookup h1) (PySem.mem_of_lookup h2)
  · have hy : scope.names.lookup y = some .cell ∨ scope.names.lookup y = some .free := hy
    rcases hy with hy | hy
    · exact cell_has hy
    · exact absurd rfl (S.nofree _ (PySem.mem_of_lookup hy))
  · exact Nat.le_of_lt (x.above y c (PySem.mem_of_lookup h))
  · have hi : i < vs.length := by
      unfold start at h2
      by_cases hi : i < vs.length
      · exact hi
      · rw [List.getElem?_append_right (by simpa using hi)] at h2
        rw [List.getElem?_replicate] at h2
        split at h2 <;> cases h2
    have ha : vs[i]? = some v := by
      unfold start at h2
      rw [List.getElem?_append_left (by simpa using hi), List.getElem?_map] at h2
      cases e : vs[i]? with
      | none => rw [e] at h2; cases h2
      | some a => rw [e] at h2; cases h2; rfl
    obtain ⟨u, hu, rv⟩ := r.get ha
    have hp : ps[i]? = some y := by
      rw [← S.pre, List.getElem?_take_of_lt (by omega)]; exact h1
    have ndP : ps.Nodup := by rw [← S.pre]; exact S.nd.sublist (List.take_sublist _ _)
    refine ⟨u, rv, ?_⟩
    rcases S.par y (List.mem_of_getElem? hp) with k | k
    · exact .inl ⟨k, bindL_get ndP hp hu k⟩
    · obtain ⟨c, e⟩ := cell_has (n := s.heap.objs.size + 1) k
      refine .inr ⟨.inl k, c, e, ?_⟩
      have q := x.cell y c e
      rw [bindC_get ndP hp hu (by show scope.names.lookup y ≠ _; rw [k]; decide)] at q
      exact q
  · exact e0.hok.fresh (Nat.le_of_lt (x.above y c (PySem.mem_of_lookup h)))
  · unfold start
    show _ = N.length
    rw [List.length_append, List.length_map, List.length_replicate]
    omega
theorem fn_of {CX : CXT} {P : Program} {w : World} {K : PySem.W.Frag} {mg : Str → Option Value} {base : Heap} {k : Nat} {f : Addr} {name qual : Str} {params : Arguments} {body : List Stmt} {scope : Scope} {dV kV doc pm cdv ct oc : Value} {an od : Option Addr}
    {osl : Array (Option Value)} {N ps : List Str} {sp : Sp} (lk : K.lookup f = some ⟨oc, od, .func (PySem.W.fnOf name qual params body scope dV kV doc pm an cdv ct), osl⟩) (hcd : PySem.W.codeIn K cdv qual = true) (S : FnScope N ps scope)
    (len : ∀ vs H Q E, sp vs H Q E → vs.length = ps.length)
    (hbody : ∀ (A : Around) (outer : List Env) (s : Shared) (H : Hp) (vs : List V) (Q : VK) (E : XK), Room k (A.deeper (envOfC qual scope s.heap.objs.size f cdv)) → sp vs H Q E →
      ∃ t, PSs (cxOf CX P w K mg base N qual scope f cdv A outer s H E) body t ∧ t { nx := fun _ H' => Q .non H', rt := Q } (start N vs) H) :
    FnOk P w K mg base CX (k + 1) f (PySem.W.fnOf name qual params body scope dV kV doc pm an cdv ct) ps sp := by
  refine ⟨len, fun A outer s H args us vs Q E hr e0 hb r hsp => ?_⟩
  have hl := len _ _ _ _ hsp
  have KX : K.In s.heap := e0.mod.kin.keeps fun b o e => (e0.bs b o e).1
  have lim : s.heap.NoLimit := e0.mod.nolimit.keeps fun b o e => (e0.bs b o e).1
  have hkind : ∀ y ∈ ps.zip us, scope.names.lookup y.1 = some .local ∨ (scope.names.lookup y.1 = some .cell ∧ ((cellsFrom (s.heap.objs.size + 1) scope.names []).lookup y.1).isSome = true) := fun ⟨n, v⟩ hy => by
    rcases S.par n (List.of_mem_zip hy).1 with q | q
    · exact .inl q
    · exact .inr ⟨q, PySem.W.cellsFrom_some _ _ _ (.inl q)⟩
  refine codeAny_call_function hr.depth (KX _ _ lk) rfl S.co S.gen rfl (PySem.W.codeRec_of KX hcd) (hb _ _ _ _ ?_)
  refine wpAny_newFunctionEnv_cells S.kind hkind fun env he s1 x => ?_
  subst he
  refine ⟨lim.keeps x.toInCall.keep, codeAny_func ?_⟩
  obtain ⟨t, ht, hq⟩ := hbody A outer s H vs Q E (hr.deeper _) hsp
  have I : Inv (cxOf CX P w K mg base N qual scope f cdv A outer s H E) [] (start N vs) H s1 := inv_start S hr.hd e0 hl r x
  refine wpAny_mono (ht [] s1 (start N vs) H _ I hq) (fun fl s' hs => ?_) fun e s' hs => hs
  have fin : ∀ {σ' : St} {H' : Hp} {v : V} {u : Value}, Inv (cxOf CX P w K mg base N qual scope f cdv A outer s H E) [] σ' H' s' → RelV v u → Q v H' → CE outer P w H s Q u s' :=
    fun {σ' H' v u} J rv q => ⟨v, H', J.os, J.bare, J.base, J.hok, rv, q⟩
  cases fl with
  | ret u =>
    obtain ⟨v, σ', H', J, rv, q⟩ := hs
    exact fin J rv q
  | next =>
    obtain ⟨σ', H', J, q⟩ := hs
    exact fin (v := V.non) (u := Value.none) J rfl q
  | brk =>
    obtain ⟨_, _, _, q⟩ := hs
    exact False.elim q
  | cont =>
    obtain ⟨_, _, _, q⟩ := hs
    exact False.elim q
end L2
namespace L2
open PySem PySem.Spec PyProof.Rows
section
variable {X : Cx} {x : Str} {p pos : Pos} {e : Expr} {es : List Expr} {t : TA} {id T : String} {r : List V → Hp → VK → Prop}
def tCB (r : List V → Hp → VK → Prop) (t : TA) : TE := fun σ H Q => t σ H fun vs H1 => r vs H1 Q
theorem pe_callB (hc : CallR X (.builtin id) r) (hg : Gl X x) (hm : X.mg x = none) (hv : bootBuiltins x = some (.builtin id)) (ha : PA X (e :: es) t) (hn : x ≠ "__name__" := by decide) (hdb : (x == ("__debug__" : Str)) = false := by decide)
    (he : starEach (e :: es) X.env = (false, eval e X.env) :: starEach es X.env := by rfl) (hpl : (backTo pos (starEach es X.env)).any (·.1) = false := by rfl) : PE X (.Call (.Name x p) (e :: es) [] pos) (tCB r t) := by
  intro pins s σ H Q I h
  refine wpAny_Call_Name_kw (ld_blt I hg hm hv ?_ hn hdb)
  exact PyProof.Rows.callWith_builtin1 (thn (ha pos pins s σ H _ I h) fun us s1 ⟨vs, H1, I1, r1, q1⟩ => hc pins s1 σ H1 vs us Q I1 r1 q1) he hpl
theorem pe_callTy (hc : CallR X (.type T) r) (hg : Gl X x) (hm : X.mg x = none) (hv : bootBuiltins x = some (.type T)) (ha : PA X (e :: es) t) (hn : x ≠ "__name__" := by decide) (hdb : (x == ("__debug__" : Str)) = false := by decide)
    (he : starEach (e :: es) X.env = (false, eval e X.env) :: starEach es X.env := by rfl) (hpl : (backTo pos (starEach es X.env)).any (·.1) = false := by rfl) : PE X (.Call (.Name x p) (e :: es) [] pos) (tCB r t) := by
  intro pins s σ H Q I h
  refine wpAny_Call_Name_kw (ld_blt I hg hm hv ?_ hn hdb)
  exact PyProof.Rows.callWith_type1 (thn (ha pos pins s σ H _ I h) fun us s1 ⟨vs, H1, I1, r1, q1⟩ => hc pins s1 σ H1 vs us Q I1 r1 q1) he hpl
end
end L2
namespace HT
open PySem PyProof.Rows
section
open PySem.SeqAt
open PySem.AutoSeq1 (wpAny_loadPart')
open PySem.MeetsSeq PySem.MeetsSeq2 PySem.MeetsSeq3
end
section
variable {prog : Program} {w : World} {A : Around} {E : Value → Shared → Prop} {s : Shared}
def sIx (n d : Nat) : Option Int → Nat
  | none => d
  | some v => if v < 0 then (v + (n : Int)).toNat else min v.toNat n
theorem sIx_none (n d : Nat) : sIx n d none = d := rfl
theorem sIx_nat (n d k : Nat) : sIx n d (some (k : Int)) = min k n := by
  show (if (k : Int) < 0 then ((k : Int) + (n : Int)).toNat else min (k : Int).toNat n) = min k n
  rw [if_neg (by omega), Int.toNat_natCast]
theorem sIx_le (n d : Nat) (hd : d ≤ n) (o : Option Int) : sIx n d o ≤ n := by
  cases o with
  | none => exact hd
  | some v =>
    show (if v < 0 then (v + (n : Int)).toNat else min v.toNat n) ≤ n
    by_cases hv : v < 0
    · rw [if_pos hv]; omega
    · rw [if_neg hv]; exact Nat.min_le_right _ _
end
end HT
namespace L2
open PySem PySem.Spec PyProof.Rows
abbrev TO := St → Hp → (Option Int → Hp → Prop) → Prop
def PO (X : Cx) (e : Option Expr) (t : TO) : Prop :=
  ∀ (pins : List (Addr × Obj)) (s : Shared) (σ : St) (H : Hp) (Q : Option Int → Hp → Prop), Inv X pins σ H s → t σ H Q →
    wpAny (model X.prog X.w) X.A (evalPart e X.env) (fun u s' => ∃ o H', Inv X pins σ H' s' ∧ IsPart u o ∧ Q o H') X.xe s
def tNoPart : TO := fun _ H Q => Q none H
def tPart (t : TE) : TO := fun σ H Q => t σ H fun x H1 => ∃ i, x = .int i ∧ Q (some i) H1
section
variable {X : Cx} {e : Expr} {te : TE} {lo hi : Option Expr} {tl th : TO} {pos p2 : Pos}
theorem po_none : PO X none tNoPart := by
  intro pins s σ H Q I h
  rw [evalPart_none]
  exact wpAny_pure ⟨none, H, I, .none, h⟩
theorem po_some (h : PE X e te) : PO X (some e) (tPart te) := by
  intro pins s σ H Q I hw
  rw [evalPart_some]
  refine thn (h pins s σ H _ I hw) fun u s1 ⟨x, H1, I1, r1, q1⟩ => ?_
  obtain ⟨i, rfl, q⟩ := q1
  obtain ⟨t, rfl⟩ := r1
  exact ⟨some i, H1, I1, .int i t, q⟩
def SlR (X : Cx) (r : V → Option Int → Option Int → Hp → VK → Prop) : Prop :=
  ∀ (pins : List (Addr × Obj)) (s : Shared) (σ : St) (H : Hp) (x : V) (v vl vu : Value) (lo hi : Option Int) (sl : Addr) (Q : VK), Inv X pins σ H s → RelV x v → s.heap.IsSliceOf sl vl vu .none → IsPart vl lo → IsPart vu hi → r x lo hi H Q →
    ∃ T id, typeLookup (.type T) "__getitem__" = pure (some (.builtin id)) ∧ s.TypeIs v T ∧ wpAny (model X.prog X.w) X.A (getItem v (.ref sl)) (EP X pins σ Q) X.xe s
theorem SlR.or {r r' : V → Option Int → Option Int → Hp → VK → Prop} (h : SlR X r) (h' : SlR X r') : SlR X (fun x lo hi H Q => r x lo hi H Q ∨ r' x lo hi H Q) := by
  intro pins s σ H x v vl vu lo hi sl Q I rx hs pl pu q
  rcases q with q | q
  · exact h pins s σ H x v vl vu lo hi sl Q I rx hs pl pu q
  · exact h' pins s σ H x v vl vu lo hi sl Q I rx hs pl pu q
def tSl (r : V → Option Int → Option Int → Hp → VK → Prop) (te : TE) (tl th : TO) : TE := fun σ H Q => te σ H fun x H1 => tl σ H1 fun l H2 => th σ H2 fun u H3 => r x l u H3 Q
theorem pe_slice {r : V → Option Int → Option Int → Hp → VK → Prop} (hr : SlR X r) (he : PE X e te) (hl : PO X lo tl) (hu : PO X hi th) : PE X (.Subscript e (.Slice lo hi none p2) pos) (tSl r te tl th) := by
  intro pins s σ H Q I h
  refine Subscript_ (thn (he pins s σ H _ I h) fun v s1 ⟨x, H1, I1, r1, q1⟩ => ?_)
  refine wpAny_Slice (thn (hl pins s1 σ H1 _ I1 q1) fun vl s2 ⟨l, H2, I2, pl, q2⟩ => thn (hu pins s2 σ H2 _ I2 q2) fun vu s3 ⟨u, H3, I3, pu, q3⟩ => ?_)
  rw [evalPart_none]
  refine wpAny_pure ?_
  have I4 : Inv X pins σ H3 { s3 with heap := s3.heap.push { cls := .type "slice", data := .fields #[vl, vu, .none] } } := I3.kept (t' := s3.toks) fun b ob q => Heap.get?_push_of_some _ q
  obtain ⟨T, id, hT, ht, hg⟩ := hr pins { s3 with heap := s3.heap.push { cls := .type "slice", data := .fields #[vl, vu, .none] } } σ H3 x v vl vu l u s3.heap.objs.size Q I4 r1 (Heap.IsSliceOf.new ..) pl pu q3
  show wpAny (model X.prog X.w) X.A (subscriptTail e (.Slice lo hi none p2) v (.ref s3.heap.objs.size)) (EP X pins σ Q) X.xe { s3 with heap := s3.heap.push { cls := .type "slice", data := .fields #[vl, vu, .none] } }
  exact tail_any (ops := [.ref s3.heap.objs.size, v]) ht hT hg (by with_unfolding_all rfl)
def cutV (xs : List V) (lo hi : Option Int) : List V := (xs.drop (HT.sIx xs.length 0 lo)).take (HT.sIx xs.length xs.length hi - HT.sIx xs.length 0 lo)
theorem cutV_length (xs : List V) (lo hi : Option Int) : (cutV xs lo hi).length ≤ xs.length := by
  unfold cutV
  rw [List.length_take, List.length_drop]
  omega
end
end L2
namespace L2
open PySem PySem.Spec PyProof.Rows
def ixN (n : Nat) (i : Int) : Option Nat := if 0 ≤ i then (if i < n then some i.toNat else none) else if -(n : Int) ≤ i then some (i + n).toNat else none
def atI {α : Type} (xs : List α) (i : Int) : Option α := (ixN xs.length i).bind fun j => xs[j]?
theorem ixN_seq {n : Nat} {i : Int} {j : Nat} (h : ixN n i = some j) : seqIndex? i n = some j ∧ j < n ∧ -(n : Int) ≤ i ∧ i < n := by
  unfold ixN at h
  by_cases h0 : 0 ≤ i
  · rw [if_pos h0] at h
    by_cases h1 : i < n
    · rw [if_pos h1] at h
      have e : i.toNat = j := Option.some.inj h
      exact ⟨by rw [seqIndex_of h0 h1, e], by omega, by omega, h1⟩
    · rw [if_neg h1] at h; cases h
  · rw [if_neg h0] at h
    by_cases h1 : -(n : Int) ≤ i
    · rw [if_pos h1] at h
      have e : (i + n).toNat = j := Option.some.inj h
      exact ⟨by rw [seqIndex_neg (by omega) h1, e], by omega, h1, by omega⟩
    · rw [if_neg h1] at h; cases h
theorem atI_get {α : Type} {xs : List α} {i : Int} {v : α} (h : atI xs i = some v) : ∃ j, seqIndex? i xs.length = some j ∧ xs[j]? = some v ∧ j < xs.length ∧ -(xs.length : Int) ≤ i ∧ i < xs.length := by
  unfold atI at h
  cases e : ixN xs.length i with
  | none => rw [e] at h; cases h
  | some j =>
    rw [e] at h
    obtain ⟨h1, h2, h3, h4⟩ := ixN_seq e
    exact ⟨j, h1, h, h2, h3, h4⟩
def PlainIx (b : Expr) : Prop := ∀ o i, subscripted b false o i = operate [o, i] (getItem o i)
def IxR (X : Cx) (r : R2) : Prop :=
  ∀ (value slice : Expr) (pins : List (Addr × Obj)) (s : Shared) (σ : St) (H : Hp) (x y : V) (v u : Value) (Q : VK), Inv X pins σ H s → RelV x v → RelV y u → r x y H Q →
    subscripted slice false v u = operate [v, u] (getItem v u) → wpAny (model X.prog X.w) X.A (subscriptTail value slice v u) (EP X pins σ Q) X.xe s
def MtR (X : Cx) (id : String) (r : V → List V → Hp → VK → Prop) : Prop :=
  ∀ (pins : List (Addr × Obj)) (s : Shared) (σ : St) (H : Hp) (x : V) (xs : List V) (v : Value) (us : List Value) (Q : VK), Inv X pins σ H s → RelV x v → Vals xs us → r x xs H Q →
    wpAny (model X.prog X.w) X.A (call (.builtin id) (v :: us)) (EP X pins σ Q) X.xe s
section
variable {X : Cx} {a b : Expr} {ta tb : TE} {pos : Pos}
theorem IxR.or {r r' : R2} (h : IxR X r) (h' : IxR X r') : IxR X (fun x y H Q => r x y H Q ∨ r' x y H Q) := by
  intro value slice pins s σ H x y v u Q I rx ry q hs
  rcases q with q | q
  · exact h value slice pins s σ H x y v u Q I rx ry q hs
  · exact h' value slice pins s σ H x y v u Q I rx ry q hs
theorem pe_ix {r : R2} (hr : IxR X r) (ha : PE X a ta) (hb : PE X b tb) (hs : PlainIx b) : PE X (.Subscript a b pos) (tOp r ta tb) := by
  intro pins s σ H Q I h
  exact Subscript_ (binT ha hb I h fun v u s2 x y H2 I2 rx ry q => hr a b pins s2 σ H2 x y v u Q I2 rx ry q (hs _ _))
def rIxL (K : PySem.W.Frag) : R2 := fun x y H Q => ∃ p xs i v, x = .ref p ∧ y = .int i ∧ SqL K H p xs ∧ atI xs i = some v ∧ Q v H
def rIxT (K : PySem.W.Frag) : R2 := fun x y H Q => ∃ p xs i v, x = .ref p ∧ y = .int i ∧ SqT K H p xs ∧ atI xs i = some v ∧ Q v H
def rIxS : R2 := fun x y H Q => ∃ z i c, x = .str z ∧ y = .int i ∧ z.length ≤ sizeLine ∧ atI z.cps.toList i = some c ∧ Q (.str ⟨#[c]⟩) H
theorem ix_list : IxR X (rIxL X.K) := by
  intro value slice pins s σ H x y v u Q I rx ry h hs
  obtain ⟨p, xs, i, z, rfl, rfl, hq, he, q⟩ := h
  cases rx
  obtain ⟨t, rfl⟩ := ry
  obtain ⟨its, r, pl, hz⟩ := I.list hq
  obtain ⟨j, h1, h2, h3, h4, h5⟩ := atI_get he
  obtain ⟨w, ew, rw'⟩ := r.get h2
  have hl := r.length
  have hn := line63
  have fin : EP X pins σ Q w s := ⟨z, H, I, rw', q⟩
  by_cases h0 : 0 ≤ i
  · have hj : i.toNat = j := by
      rw [seqIndex_of h0 h5] at h1
      exact Option.some.inj h1
    exact item_listR pl.isList h0 (by omega) (by rw [hj]; simpa using ew) fin hs
  · have hj : (i + (its.toArray.size : Int)).toNat = j := by
      rw [seqIndex_neg (by omega) h4] at h1
      rw [List.size_toArray, ← hl]
      exact Option.some.inj h1
    exact subscriptTail_builtinR (x := w) pl.isList.typeIs slot_list_getitem.lookup
      (wpAny_getItem_list_neg (Q := fun r s' => r = w ∧ EP X pins σ Q r s') pl.isList (by omega) (by rw [List.size_toArray] <;> omega) (by omega) (by rw [hj]; simpa using ew) ⟨rfl, fin⟩) hs
theorem ix_tup : IxR X (rIxT X.K) := by
  intro value slice pins s σ H x y v u Q I rx ry h hs
  obtain ⟨p, xs, i, z, rfl, rfl, hq, he, q⟩ := h
  cases rx
  obtain ⟨t, rfl⟩ := ry
  obtain ⟨its, r, pl, hz⟩ := I.tuple hq
  obtain ⟨j, h1, h2, h3, h4, h5⟩ := atI_get he
  obtain ⟨w, ew, rw'⟩ := r.get h2
  have hl := r.length
  have hn := line63
  have fin : EP X pins σ Q w s := ⟨z, H, I, rw', q⟩
  exact subscriptTail_builtinR (x := w) pl.typeIs slot_tuple_getitem.lookup
    (getItem_tuple (j := j) (Q := fun r s' => r = w ∧ EP X pins σ Q r s') pl (by omega) (by omega) (by rw [List.size_toArray, ← hl]; exact h1) (by simpa using ew) ⟨rfl, fin⟩) hs
theorem ix_str : IxR X rIxS := by
  intro value slice pins s σ H x y v u Q I rx ry h hs
  obtain ⟨z, i, c, rfl, rfl, hz, he, q⟩ := h
  obtain ⟨t, rfl⟩ := rx
  obtain ⟨t', rfl⟩ := ry
  obtain ⟨j, h1, h2, h3, h4, h5⟩ := atI_get he
  have hl : z.cps.toList.length = z.length := by simp [Str.length]
  rw [hl] at h1 h4 h5
  have hn := line63
  exact tail_any (typeIs_str s z t) slot_str_getitem.lookup (getItem_str (c := c) (by
    have e1 : decide (i < -(2 ^ 63 : Int)) = false := decide_eq_false (by omega)
    have e2 : decide (i ≥ 2 ^ 63) = false := decide_eq_false (by omega)
    rw [e1, e2, Bool.or_false]) (by rw [h1]; simpa using h2) ⟨.str ⟨#[c]⟩, H, I.tok _, ⟨_, rfl⟩, q⟩) hs
def rIx (K : PySem.W.Frag) : R2 := fun x y H Q => rIxL K x y H Q ∨ rIxT K x y H Q ∨ rIxS x y H Q
theorem ix_seq : IxR X (rIx X.K) := ix_list.or (ix_tup.or ix_str)
theorem Inv.lst {pins : List (Addr × Obj)} {σ : St} {H : Hp} {s : Shared} {p : Addr} {xs : List V} (I : Inv X pins σ H s) (h : H p = some (.lst xs)) :
    ∃ (its : List Value) (n : Nat), Vals xs its ∧ s.heap.get? p = some { cls := .type "list", data := .seq its.toArray n } ∧ xs.length ≤ sizeLine := by
  obtain ⟨z, its, n, r, e⟩ := I.hok p _ h
  exact ⟨its, n, r, e, z⟩
theorem slice_bounds (lo hi : Option Int) (n : Nat) : (sliceBounds lo hi none n).1 = ((HT.sIx n 0 lo : Nat) : Int) ∧ (sliceBounds lo hi none n).2.1 = ((HT.sIx n n hi : Nat) : Int) ∧ (sliceBounds lo hi none n).2.2 = 1 := by
  refine ⟨?_, ?_, rfl⟩
  · cases lo with
    | none => simp [sliceBounds, HT.sIx]
    | some i =>
      simp only [sliceBounds, HT.sIx, Option.getD_none, show (1 : Int) > 0 by decide, if_true]
      by_cases h : i < 0
      · simp only [h, if_true] <;> omega
      · simp only [h, if_false] <;> omega
  · cases hi with
    | none => simp [sliceBounds, HT.sIx]
    | some i =>
      simp only [sliceBounds, HT.sIx, Option.getD_none, show (1 : Int) > 0 by decide, if_true]
      by_cases h : i < 0
      · simp only [h, if_true] <;> omega
      · simp only [h, if_false] <;> omega
theorem slicePick_cut (its : List Value) (lo hi : Option Int) : slicePick its.toArray lo hi none = ((its.drop (HT.sIx its.length 0 lo)).take (HT.sIx its.length its.length hi - HT.sIx its.length 0 lo)).toArray := by
  obtain ⟨h1, h2, h3⟩ := slice_bounds lo hi its.toArray.size
  unfold slicePick
  rw [h1, h2, h3]
  simp only [sliceRange_one, pick_run, List.size_toArray] <;> rfl
def rSlL (K : PySem.W.Frag) : V → Option Int → Option Int → Hp → VK → Prop := fun x lo hi H Q => ∃ a xs, x = .ref a ∧ SqL K H a xs ∧ ∀ p, H p = none → Q (.ref p) (upd H p (.lst (cutV xs lo hi)))
theorem sl_list : SlR X (rSlL X.K) := by
  intro pins s σ H x v vl vu lo hi sl Q I rx hs pl pu h
  obtain ⟨a, xs, rfl, hx, q⟩ := h
  cases rx
  obtain ⟨its, r, ht, hz⟩ := I.list hx
  have hlen := r.length
  refine ⟨"list", _, slot_list_getitem.lookup, ht.isList.typeIs, ?_⟩
  refine wpAny_getItem_list_slice ht.isList hs pl pu .none (by simp) ?_ (by rw [List.size_toArray] <;> omega)
  rw [slicePick_cut, ← hlen]
  refine ⟨.ref s.heap.objs.size, _, I.laid (t' := s.toks) (o := .lst (cutV xs lo hi)) (fun b ob q => Heap.get?_push_of_some _ q) (Nat.le_refl _) ?_, rfl, q _ (I.hok.fresh (Nat.le_refl _))⟩
  exact ⟨Nat.le_trans (cutV_length xs lo hi) hz, _, 0, (r.drop (HT.sIx xs.length 0 lo)).take (HT.sIx xs.length xs.length hi - HT.sIx xs.length 0 lo), Heap.get?_push_size _ rfl⟩
theorem call_list_of : CallR X (.type "list") (fun xs H Q => ∃ p ys, xs = [.ref p] ∧ (SqL X.K H p ys ∨ SqT X.K H p ys) ∧ ∀ l, H l = none → Q (.ref l) (upd H l (.lst ys))) := by
  intro pins s σ H xs us Q I r h
  obtain ⟨p, ys, rfl, hq, q⟩ := h
  obtain ⟨u, rfl, rx⟩ := vals1 r
  cases rx
  have fin : ∀ (its : List Value), Vals ys its → ys.length ≤ sizeLine → ∀ (h' : Heap) (c' : Nat), (∀ b o', s.heap.get? b = some o' → h'.get? b = some o') →
      h'.get? s.heap.objs.size = some { cls := .type "list", dict := none, data := .seq its.toArray c', slots := #[] } → EP X pins σ Q (.ref s.heap.objs.size) { s with heap := h' } := fun its r' hz h' c' kp e =>
    ⟨.ref s.heap.objs.size, _, I.laid (t' := s.toks) kp (Nat.le_refl _) (show ObjOk X.prog X.w _ h' _ (.lst ys) from ⟨hz, its, c', r', e⟩), rfl, q _ (I.hok.fresh (Nat.le_refl _))⟩
  rcases hq with hq | hq
  · obtain ⟨its, r', pl, hz⟩ := I.list hq
    have hlen := r'.length
    obtain ⟨o, ho, hc, n, hd⟩ := pl.isList
    exact call_list_seq p (.inl rfl) ho hc hd (fun h' c' kp e => fin its r' hz h' c' kp e) (by simp only [List.size_toArray] <;> omega)
  · obtain ⟨its, r', pl, hz⟩ := I.tuple hq
    have hlen := r'.length
    obtain ⟨o, ho, hc, n, hd⟩ := pl
    exact call_list_seq p (.inr rfl) ho hc hd (fun h' c' kp e => fin its r' hz h' c' kp e) (by simp only [List.size_toArray] <;> omega)
theorem call_tuple_of : CallR X (.type "tuple") (fun xs H Q => ∃ p ys, xs = [.ref p] ∧ ((SqL X.K H p ys ∧ ∀ l, H l = none → Q (.ref l) (upd H l (.tup ys))) ∨ (SqT X.K H p ys ∧ Q (.ref p) H))) := by
  intro pins s σ H xs us Q I r h
  obtain ⟨p, ys, rfl, h⟩ := h
  obtain ⟨u, rfl, rx⟩ := vals1 r
  cases rx
  rcases h with ⟨hq, q⟩ | ⟨hq, q⟩
  · obtain ⟨its, r', pl, hz⟩ := I.list hq
    have hlen := r'.length
    refine call_tuple_list pl.isList (fun h' kp => ?_) (by simp only [List.size_toArray] <;> omega)
    have I1 : Inv X pins σ H { s with heap := h' } := I.kept (t' := s.toks) kp
    have I2 : Inv X pins σ (upd H h'.objs.size (.tup ys)) { s with heap := h'.push { cls := .type "tuple", data := .seq its.toArray } } :=
      I1.laid (t' := s.toks) (fun b o e => Heap.get?_push_of_some _ e) (Nat.le_refl _) (show ObjOk X.prog X.w _ _ _ (.tup ys) from ⟨hz, its, r', IsTup.new _ _⟩)
    exact ⟨.ref h'.objs.size, _, I2, rfl, q _ (I1.hok.fresh (Nat.le_refl _))⟩
  · obtain ⟨its, r', pl, hz⟩ := I.tuple hq
    exact call_tuple_same pl ⟨.ref p, H, I, rfl, q⟩
def tyV (K : PySem.W.Frag) (T : String) (x : V) (H : Hp) : Prop := match x with
  | .str _ => T = "str"
  | .int _ => T = "int"
  | .ref p => (T = "list" ∧ ∃ xs, SqL K H p xs) ∨ (T = "tuple" ∧ ∃ o, K.lookup p = some o ∧ o.cls = .type "tuple" ∧ o.dict = none) ∨
      (T = "dict" ∧ ((∃ kvs, H p = some (.dK kvs)) ∨ ∃ kvs, H p = some (.dT kvs))) ∨ (T = "set" ∧ ∃ S n, H p = some (.set S n))
  | _ => False
theorem tyV_is {pins : List (Addr × Obj)} {σ : St} {H : Hp} {s : Shared} {T : String} {x : V} {v : Value} (I : Inv X pins σ H s) (r : RelV x v) (ty : tyV X.K T x H) :
    s.TypeIs v T ∧ ∀ a, v = .ref a → ∃ ob, s.heap.get? a = some ob ∧ ob.dict = none := by
  cases x with
  | str z =>
    obtain ⟨t, rfl⟩ := r
    cases (show T = "str" from ty)
    exact ⟨typeIs_str s z t, fun _ e => nomatch e⟩
  | int i =>
    obtain ⟨t, rfl⟩ := r
    cases (show T = "int" from ty)
    exact ⟨typeIs_int s i t, fun _ e => nomatch e⟩
  | ref p =>
    cases r
    rcases ty with ⟨rfl, xs, hq⟩ | ⟨rfl, o, hk, hc, hd⟩ | ⟨rfl, hk⟩ | ⟨rfl, S, n, hk⟩
    · obtain ⟨its, _, pl, _⟩ := I.list hq
      refine ⟨pl.isList.typeIs, fun a e => ?_⟩
      cases e
      obtain ⟨o, n, e, c, hd, _⟩ := pl
      exact ⟨o, e, hd⟩
    · refine ⟨⟨o, I.kIn p o hk, hc⟩, fun a e => ?_⟩
      cases e
      exact ⟨o, I.kIn _ o hk, hd⟩
    · have z : ∃ o, s.heap.get? p = some o ∧ o.ExactDict := by
        rcases hk with ⟨kvs, hk⟩ | ⟨kvs, hk⟩
        · obtain ⟨_, _, _, _, o, _, _, e, ex, _⟩ := I.hok p _ hk
          exact ⟨o, e, ex⟩
        · obtain ⟨_, _, _, _, o, _, _, e, ex, _⟩ := I.hok p _ hk
          exact ⟨o, e, ex⟩
      obtain ⟨o, e, ex⟩ := z
      refine ⟨⟨o, e, ex.1⟩, fun a e2 => ?_⟩
      cases e2
      exact ⟨o, e, ex.2.1⟩
    · obtain ⟨o, _, _, _, e, ex, _⟩ := I.hok p _ hk
      refine ⟨⟨o, e, ex.1⟩, fun a e2 => ?_⟩
      cases e2
      exact ⟨o, e, ex.2.1⟩
  | _ => exact False.elim ty
def tBM (K : PySem.W.Frag) (T : String) (r : V → List V → Hp → VK → Prop) (to : TE) (t : TA) : TE := fun σ H Q => to σ H fun x H1 => tyV K T x H1 ∧ t σ H1 fun xs H2 => r x xs H2 Q
variable {o e : Expr} {es : List Expr} {to : TE} {t : TA} {name : Str} {apos cpos : Pos} {T id : String} {r : V → List V → Hp → VK → Prop}
theorem pe_bm (pa : PlainAttrs T) (slot : Slot T name id) (hty : typeOf (.builtin id) = pure (.type "method_descriptor")) (hm : MtR X id r) (ho : PE X o to) (ha : PA X (e :: es) t)
    (hbase : attributeBase o name X.env (eval o X.env) = eval o X.env := by rfl)
    (hfew : ((backTo cpos (starEach (e :: es) X.env)).all (fun x => !x.1) && (backToKw cpos (keywordEach [] X.env)).all (fun x => x.1.isSome)
      && decide ((e :: es).length + ([] : List Keyword).length + (if ([] : List Keyword).isEmpty then 0 else 1) < 30)) = true := by rfl)
    (hline : (apos.endLine == cpos.line) = true := by rfl) (hs : starEach (e :: es) X.env = (false, eval e X.env) :: starEach es X.env := by rfl) (hplain : (backTo cpos (starEach es X.env)).any (·.1) = false := by rfl) :
    PE X (.Call (.Attribute o name apos) (e :: es) [] cpos) (tBM X.K T r to t) := by
  intro pins s σ H Q I h
  refine wpAny_Call_method_late hbase hfew hline rfl (thn (ho pins s σ H _ I h) fun v s1 ⟨x, H1, I1, r1, ty, q1⟩ => ?_)
  obtain ⟨h1, h2⟩ := tyV_is I1 r1 ty
  refine ⟨T, id, pa, slot, hty, h1, h2, ?_⟩
  have hA := ha cpos pins s1 σ H1 _ I1 q1
  rw [hs] at hA ⊢
  refine Calls.callWith_builtin (by show (false || (backTo cpos (starEach es X.env)).any (·.1)) = false; rw [hplain] <;> rfl) (Calls.evalArgs_plain ?_)
  exact thn hA fun us s2 ⟨vs, H2, I2, r2, q2⟩ => hm pins s2 σ H2 x vs v us Q I2 r1 r2 q2
end
end L2
namespace L2
open PySem PySem.Spec PyProof.Rows
def MtM (X : Cx) (id : String) (r : V → List V → Hp → VK → Prop) : Prop :=
  ∀ (pins : List (Addr × Obj)) (s : Shared) (σ : St) (H : Hp) (x : V) (xs : List V) (v : Value) (us : List Value) (Q : VK), Inv X pins σ H s → RelV x v → Vals xs us → r x xs H Q →
    wpAny (model X.prog X.w) X.A (call (.builtin id) (v :: us)) (EP X pins σ Q) X.xe s
theorem Vals.one : ∀ {x : V} {us : List Value}, Vals [x] us → ∃ u, us = [u] ∧ RelV x u
  | _, _, .cons r .nil => ⟨_, rfl, r⟩
theorem Vals.eraseIdx : ∀ {xs : List V} {us : List Value} (i : Nat), Vals xs us → Vals (xs.eraseIdx i) (us.eraseIdx i)
  | _, _, _, .nil => .nil
  | _, _, 0, .cons _ t => t
  | _, _, i + 1, .cons r t => .cons r (Vals.eraseIdx i t)
theorem Vals.rep {xs : List V} {us : List Value} (h : Vals xs us) : ∀ k : Nat, Vals (List.replicate k xs).flatten (List.replicate k us).flatten
  | 0 => .nil
  | k + 1 => by
    rw [List.replicate_succ, List.replicate_succ, List.flatten_cons, List.flatten_cons]
    exact Vals.append h (Vals.rep h k)
theorem len_erase {α : Type} : ∀ (l : List α) (i : Nat), (l.eraseIdx i).length ≤ l.length
  | [], _ => Nat.le_refl _
  | _ :: _, 0 => Nat.le_succ _
  | _ :: r, i + 1 => Nat.succ_le_succ (len_erase r i)
theorem foldl_rep (its : List Value) : ∀ (k : Nat) (acc : List Value),
    List.foldl (fun x1 x2 => x1 ++ x2) acc.toArray (List.replicate k its.toArray) = (acc ++ (List.replicate k its).flatten).toArray
  | 0, acc => by simp
  | k + 1, acc => by
    have e : acc.toArray ++ its.toArray = (acc ++ its).toArray := by simp
    have e2 : (acc ++ its) ++ (List.replicate k its).flatten = acc ++ (List.replicate (k + 1) its).flatten := by
      rw [List.replicate_succ, List.flatten_cons, List.append_assoc]
    rw [← e2, ← foldl_rep its k (acc ++ its), ← e, List.replicate_succ, List.foldl_cons]
section
variable {X : Cx} {pins : List (Addr × Obj)} {σ : St} {H : Hp} {s : Shared} {l b : Addr} {xs ys zs : List V}
theorem Inv.lset {its its' : List Value} {n : Nat} {f : Array Value → Array Value} {t' : Nat} (I : Inv X pins σ H s) (hH : H l = some (.lst xs))
    (e : s.heap.get? l = some { cls := .type "list", data := .seq its.toArray n }) (hf : f its.toArray = its'.toArray) (hv : Vals ys its') (hz : ys.length ≤ sizeLine) :
    Inv X pins σ (upd H l (.lst ys)) { s with heap := s.heap.update l (Obj.mapSeq f), toks := t' } := by
  have q := PySem.IsL.update e f
  rw [hf] at q
  refine I.write (x := l) (e := l) (by rw [hH]; exact trivial) (.inl rfl) (fun b' u hb hu => (Heap.get?_update_other s.heap (Obj.mapSeq f) (Ne.symm hb)).trans hu) ⟨_, q⟩ ?_
  exact ⟨hz, its', _, hv, q⟩
theorem Inv.lnew {its : List Value} {t' : Nat} (I : Inv X pins σ H s) (hv : Vals ys its) (hz : ys.length ≤ sizeLine) :
    Inv X pins σ (upd H s.heap.objs.size (.lst ys)) { s with heap := s.heap.push { cls := .type "list", data := .seq its.toArray }, toks := t' } :=
  I.laid (fun _ _ q => Heap.get?_push_of_some _ q) (Nat.le_refl _) ⟨hz, its, 0, hv, Heap.get?_push_size _ rfl⟩
theorem Inv.fresh (I : Inv X pins σ H s) : H s.heap.objs.size = none := I.hok.fresh (Nat.le_refl _)
theorem Inv.lstM (I : Inv X pins σ H s) (hH : H l = some (.lst xs)) : xs.length ≤ sizeLine ∧ ∃ (its : List Value) (n : Nat), Vals xs its ∧ xs.length = its.length ∧ s.heap.get? l = some { cls := .type "list", data := .seq its.toArray n } := by
  obtain ⟨z, its, n, r, e⟩ := I.hok l _ hH
  exact ⟨z, its, n, r, r.length, e⟩
theorem notLongL {n : Nat} (h : n ≤ sizeLine) : Builtin.List.listTooLong n = false := by
  unfold Builtin.List.listTooLong
  exact decide_eq_false (by omega)
end
section
variable {X : Cx}
def rAppend : V → List V → Hp → VK → Prop := fun x vs H Q => ∃ l xs y, x = .ref l ∧ vs = [y] ∧ H l = some (.lst xs) ∧ xs.length < sizeLine ∧ Q .non (upd H l (.lst (xs ++ [y])))
theorem mt_append : MtM X "list.append" rAppend := by
  intro pins s σ H x vs v us Q I rx rv h
  obtain ⟨l, xs, y, rfl, rfl, hH, hz, q⟩ := h
  cases rx
  obtain ⟨u, rfl, ru⟩ := rv.one
  obtain ⟨z, its, n, r, hl, e⟩ := I.lstM hH
  refine call_meets F.slot_list_append ⟨_, e, rfl⟩ F.entry_list_append (F.args_list_append_2 _ _) (PySem.list_append l its.toArray n u (by rw [List.size_toArray]; omega)) ⟨e, ?_⟩
  refine ⟨.non, _, I.lset (its' := its ++ [u]) hH e (by simp) (r.append (.cons ru .nil)) ?_, rfl, q⟩
  rw [List.length_append, List.length_singleton]
  omega
def rExtend : V → List V → Hp → VK → Prop := fun x vs H Q => ∃ l b xs zs, x = .ref l ∧ vs = [.ref b] ∧ H l = some (.lst xs) ∧ H b = some (.lst zs) ∧ xs.length + zs.length ≤ sizeLine ∧ Q .non (upd H l (.lst (xs ++ zs)))
theorem mt_extend : MtM X "list.extend" rExtend := by
  intro pins s σ H x vs v us Q I rx rv h
  obtain ⟨l, b, xs, zs, rfl, rfl, hH, hB, hz, q⟩ := h
  cases rx
  obtain ⟨u, rfl, ru⟩ := rv.one
  cases ru
  obtain ⟨z, its, n, r, hl, e⟩ := I.lstM hH
  obtain ⟨z2, its2, n2, r2, hl2, e2⟩ := I.lstM hB
  have hsz : its.toArray.size + its2.toArray.size ≤ sizeLine := by rw [List.size_toArray, List.size_toArray]; omega
  have hlong : ¬ (!its.toArray.isEmpty && Builtin.List.listTooLong (its.toArray.size + its2.toArray.size)) = true := by
    rw [notLongL hsz, Bool.and_false]
    exact Bool.false_ne_true
  refine call_meets F.slot_list_extend ⟨_, e, rfl⟩ F.entry_list_extend (F.args_list_extend_2 _ _)
    (AutoSeq1.list_extend_list_list_0 l its.toArray n b its2.toArray n2 hlong (by rw [List.size_toArray]; omega) (by omega)) ⟨e, e2, ?_⟩
  refine ⟨.non, _, I.lset (its' := its ++ its2) hH e (by simp) (r.append r2) ?_, rfl, q⟩
  rw [List.length_append]
  omega
def rPopAt : V → List V → Hp → VK → Prop := fun x vs H Q => ∃ l xs i k y, x = .ref l ∧ vs = [.int i] ∧ H l = some (.lst xs) ∧ -(2 ^ 63) ≤ i ∧ i < 2 ^ 63 ∧ seqIndex? i xs.length = some k ∧ xs[k]? = some y ∧ Q y (upd H l (.lst (xs.eraseIdx k)))
theorem mt_popAt : MtM X "list.pop" rPopAt := by
  intro pins s σ H x vs v us Q I rx rv h
  obtain ⟨l, xs, i, k, y, rfl, rfl, hH, h1, h2, hk, hy, q⟩ := h
  cases rx
  obtain ⟨u, rfl, ru⟩ := rv.one
  obtain ⟨t, rfl⟩ := ru
  obtain ⟨z, its, n, r, hl, e⟩ := I.lstM hH
  obtain ⟨w, hw, rw'⟩ := r.get hy
  refine call_meets F.slot_list_pop ⟨_, e, rfl⟩ F.entry_list_pop (F.args_list_pop_2 _ _)
    (MeetsSeq.list_pop_at l its.toArray n i t k w (fitsIndex_both h1 h2) (by rw [List.size_toArray, ← hl]; exact hk) (by rw [← Array.getElem?_toList]; exact hw) (by rw [List.size_toArray]; omega)) ⟨e, ?_⟩
  refine ⟨y, _, I.lset (its' := its.eraseIdx k) hH e ?_ (r.eraseIdx k) ?_, rw', q⟩
  · show its.toArray.eraseIdxIfInBounds k = (its.eraseIdx k).toArray
    rw [List.eraseIdxIfInBounds_toArray]
  · have := len_erase xs k
    omega
def rCat : R2 := fun x y H Q => ∃ l b xs zs, x = .ref l ∧ y = .ref b ∧ H l = some (.lst xs) ∧ H b = some (.lst zs) ∧ xs.length + zs.length ≤ sizeLine ∧ ∀ p, H p = none → Q (.ref p) (upd H p (.lst (xs ++ zs)))
theorem op_cat : OpR X (binaryOp .Add) rCat := by
  intro pins s σ H x y v u Q I rx ry h
  obtain ⟨l, b, xs, zs, rfl, rfl, hH, hB, hz, q⟩ := h
  cases rx
  cases ry
  obtain ⟨z, its, n, r, hl, e⟩ := I.lstM hH
  obtain ⟨z2, its2, n2, r2, hl2, e2⟩ := I.lstM hB
  refine PySem.P.add_list e e2 ?_ (by rw [List.size_toArray, List.size_toArray]; omega)
  have ea : its.toArray ++ its2.toArray = (its ++ its2).toArray := by simp
  rw [ea]
  exact ⟨.ref _, _, I.lnew (t' := s.toks) (r.append r2) (by rw [List.length_append]; omega), rfl, q _ I.fresh⟩
def rRep : R2 := fun x y H Q => ∃ l k xs, x = .ref l ∧ y = .int k ∧ H l = some (.lst xs) ∧ -(2 ^ 63) ≤ k ∧ k < 2 ^ 63 ∧ xs.length * k.toNat ≤ sizeLine ∧
  ∀ p, H p = none → Q (.ref p) (upd H p (.lst (List.replicate k.toNat xs).flatten))
theorem len_rep {α : Type} (xs : List α) (k : Nat) : (List.replicate k xs).flatten.length = k * xs.length := by
  induction k with
  | zero => simp
  | succ k ih => rw [List.replicate_succ, List.flatten_cons, List.length_append, ih, Nat.succ_mul, Nat.add_comm]
theorem op_rep : OpR X (binaryOp .Mult) rRep := by
  intro pins s σ H x y v u Q I rx ry h
  obtain ⟨l, k, xs, rfl, rfl, hH, h1, h2, hz, q⟩ := h
  cases rx
  obtain ⟨t, rfl⟩ := ry
  obtain ⟨z, its, n, r, hl, e⟩ := I.lstM hH
  have hlen : its.toArray.size * k.toNat ≤ sizeLine := by rw [List.size_toArray, ← hl]; exact hz
  have hcap : ¬ its.toArray.size * k.toNat > (2 ^ 63 - 1) / 8 := by
    have : (sizeLine : Nat) ≤ (2 ^ 63 - 1) / 8 := by decide
    omega
  have hfit : ¬ (!Builtin.List.listFitsIndex k) = true := by
    rw [fitsIndex_both h1 h2]
    exact Bool.false_ne_true
  have hlong : ¬ Builtin.List.listTooLong (its.toArray.size * k.toNat) = true := by
    rw [notLongL hlen]
    exact Bool.false_ne_true
  have hnew : List.foldl (fun x1 x2 => x1 ++ x2) #[] (List.replicate (if its.toArray.isEmpty = true then 0 else k.toNat) its.toArray) = (List.replicate k.toNat its).flatten.toArray := by
    have f0 : ∀ m : Nat, List.foldl (fun x1 x2 => x1 ++ x2) #[] (List.replicate m its.toArray) = (List.replicate m its).flatten.toArray := fun m => by
      have := foldl_rep its m []
      rw [List.nil_append] at this
      exact this
    rw [f0]
    cases its with
    | nil => simp
    | cons a r' => rw [if_neg (by simp)]
  refine wpAny_binaryOp_repeat_ref (T := "list") (U := "int") (by decide) ⟨_, e, rfl⟩ (fun s' => typeIs_int s' k t) noFill_list_mul F.fills_int_mul F.slot_int_rmul repeat_list F.slot_int_index.lookup
    (call_meets F.slot_int_rmul (typeIs_int s k t) F.entry_int_rmul (F.args_int_rmul_2 _ _) (int___rmul___int_list k t l its.toArray n)
      ⟨e, rfl, ⟨_, e, rfl⟩, call_meets F.slot_list_mul ⟨_, e, rfl⟩ F.entry_list_mul (F.args_list_mul_2 _ _) (AutoListH.list___mul___list_int_3 l its.toArray n k t hfit hcap hlong) ⟨e, ?_⟩⟩)
  rw [hnew]
  exact ⟨.ref _, _, I.lnew (t' := s.toks) (r.rep k.toNat) (by rw [len_rep, Nat.mul_comm]; exact hz), rfl, q _ I.fresh⟩
end
section
variable {prog : Program} {w : World} {A : Around} {E : Value → Shared → Prop} {s : Shared}
end
section
variable {X : Cx}
end
end L2
namespace L2
open PySem PySem.Spec PyProof.Rows
section
variable {κ : Type} [DecidableEq κ]
def valV (kvs : List (κ × V)) (k : κ) : Option V := (kvs.find? fun kv => decide (kv.1 = k)).map (·.2)
def putK (kvs : List (κ × V)) (k : κ) (v : V) : List (κ × V) :=
  if (kvs.any fun kv => decide (kv.1 = k)) = true then kvs.map (fun kv => if kv.1 = k then (kv.1, v) else kv) else kvs ++ [(k, v)]
theorem valV_pos {p : κ × V} {r : List (κ × V)} {k : κ} (e : p.1 = k) : valV (p :: r) k = some p.2 := by simp [valV, List.find?_cons, e]
theorem valV_neg {p : κ × V} {r : List (κ × V)} {k : κ} (e : ¬ p.1 = k) : valV (p :: r) k = valV r k := by simp [valV, List.find?_cons, e]
theorem valV_any (k : κ) : ∀ kvs : List (κ × V), (kvs.any fun kv => decide (kv.1 = k)) = (valV kvs k).isSome
  | [] => rfl
  | p :: r => by
    rw [List.any_cons]
    by_cases e : p.1 = k
    · simp only [valV_pos e, decide_eq_true e, Bool.true_or, Option.isSome_some]
    · rw [valV_neg e, decide_eq_false e, Bool.false_or]; exact valV_any k r
theorem length_putK (kvs : List (κ × V)) (k : κ) (v : V) : (putK kvs k v).length ≤ kvs.length + 1 := by
  unfold putK
  split
  · rw [List.length_map]; omega
  · rw [List.length_append, List.length_cons, List.length_nil]; omega
theorem putK_new {kvs : List (κ × V)} {k : κ} (v : V) (h : valV kvs k = none) : putK kvs k v = kvs ++ [(k, v)] := by
  unfold putK
  rw [valV_any, h]
  exact if_neg (by decide)
theorem RelO.isSome_eq {o : Option V} {u : Option Value} (r : RelO o u) : o.isSome = u.isSome := by
  cases o with
  | none => cases u with
    | none => rfl
    | some _ => exact (show False from r).elim
  | some _ => cases u with
    | none => exact (show False from r).elim
    | some _ => rfl
theorem RelO.getD {o : Option V} {u : Option Value} {d : V} {d' : Value} (r : RelO o u) (rd : RelV d d') : RelV (o.getD d) (u.getD d') := by
  cases o with
  | none => cases u with
    | none => exact rd
    | some _ => exact (show False from r).elim
  | some _ => cases u with
    | none => exact (show False from r).elim
    | some _ => exact r
theorem KV.val {kvs : List (κ × V)} {vs : List (κ × Value)} (r : KV kvs vs) (k : κ) : RelO (valV kvs k) (valueAt vs k) := by
  unfold KV at r
  induction r with
  | nil => exact True.intro
  | @cons p q ps qs h t ih =>
    obtain ⟨h1, h2⟩ := h
    by_cases e : p.1 = k
    · have e' : q.1 = k := h1.symm.trans e
      have b : valueAt (q :: qs) k = some q.2 := by simp [valueAt, List.find?_cons, e']
      rw [valV_pos e, b]; exact h2
    · have e' : ¬ q.1 = k := fun z => e (h1.trans z)
      have b : valueAt (q :: qs) k = valueAt qs k := by simp [valueAt, List.find?_cons, e']
      rw [valV_neg e, b]; exact ih
theorem KV.any {kvs : List (κ × V)} {vs : List (κ × Value)} (r : KV kvs vs) (k : κ) : (kvs.any fun kv => decide (kv.1 = k)) = vs.any fun kv => decide (kv.1 = k) := by
  unfold KV at r
  induction r with
  | nil => rfl
  | cons h t ih => rw [List.any_cons, List.any_cons, ih, h.1]
theorem KV.repl {kvs : List (κ × V)} {vs : List (κ × Value)} (r : KV kvs vs) (k : κ) {y : V} {u : Value} (ry : RelV y u) :
    KV (kvs.map fun kv => if kv.1 = k then (kv.1, y) else kv) (vs.map fun kv => if kv.1 = k then (kv.1, u) else kv) := by
  unfold KV at r ⊢
  induction r with
  | nil => exact .nil
  | @cons p q ps qs h t ih =>
    rw [List.map_cons, List.map_cons]
    refine .cons ?_ ih
    obtain ⟨h1, h2⟩ := h
    by_cases e : p.1 = k
    · rw [if_pos e, if_pos (h1.symm.trans e)]; exact ⟨h1, ry⟩
    · rw [if_neg e, if_neg (fun z => e (h1.trans z))]; exact ⟨h1, h2⟩
theorem KV.put {kvs : List (κ × V)} {vs : List (κ × Value)} (r : KV kvs vs) (k : κ) {y : V} {u : Value} (ry : RelV y u) : KV (putK kvs k y) (stored vs k u) := by
  unfold putK stored
  rw [r.any k]
  by_cases e : (vs.any fun kv => decide (kv.1 = k)) = true
  · rw [if_pos e, if_pos e]; exact r.repl k ry
  · rw [if_neg e, if_neg e]; exact Paired.snoc r ⟨rfl, ry⟩
theorem KV.length {kvs : List (κ × V)} {vs : List (κ × Value)} (r : KV kvs vs) : kvs.length = vs.length := Paired.length r
end
theorem kV_is {P : Program} {w : World} {k : Key} {u : Value} (r : RelV (kV k) u) : (mixKind P w).is k u = true := by
  cases k with
  | inl i => obtain ⟨t, e⟩ := (show ∃ t, u = Value.int i t from r); subst e; exact mixKind_int P w i t
  | inr x => obtain ⟨t, e⟩ := (show ∃ t, u = Value.str x t from r); subst e; exact mixKind_str P w x t
theorem items_are {P : Program} {w : World} : ∀ {ks : List Key} {us : List Value}, Vals (ks.map kV) us → ItemsAre (mixKind P w) ks us
  | [], _, r => by rw [List.map_nil] at r; cases r; exact .nil
  | k :: ks, _, r => by
    rw [List.map_cons] at r
    cases r with
    | cons h t => exact .cons (kV_is h) (items_are t)
abbrev KT (H : Hp) : List (List Key × V) → List (List Key × Addr × Value) → Prop := Paired fun p q => p.1 = q.1 ∧ H q.2.1 = some (.tup (p.1.map kV)) ∧ RelV p.2 q.2.2
theorem KT.val {H : Hp} {kvs : List (List Key × V)} {xs : List (List Key × Addr × Value)} (r : KT H kvs xs) (k : List Key) : RelO (valV kvs k) ((atKey xs k).map (·.2)) := by
  induction r with
  | nil => exact True.intro
  | @cons p q ps qs h t ih =>
    obtain ⟨h1, _, h2⟩ := h
    by_cases e : p.1 = k
    · have e' : q.1 = k := h1.symm.trans e
      have b : atKey (q :: qs) k = some q.2 := by simp [atKey, List.find?_cons, e']
      rw [valV_pos e, b]; exact h2
    · have e' : ¬ q.1 = k := fun z => e (h1.trans z)
      have b : atKey (q :: qs) k = atKey qs k := by simp [atKey, List.find?_cons, e']
      rw [valV_neg e, b]; exact ih
theorem KT.repl {H : Hp} {kvs : List (List Key × V)} {xs : List (List Key × Addr × Value)} (r : KT H kvs xs) (k : List Key) {y : V} {u : Value} (ry : RelV y u) :
    KT H (kvs.map fun kv => if kv.1 = k then (kv.1, y) else kv) (xs.map (putAt k u)) := by
  induction r with
  | nil => exact .nil
  | @cons p q ps qs h t ih =>
    rw [List.map_cons, List.map_cons]
    refine .cons ?_ ih
    obtain ⟨h1, h2, h3⟩ := h
    unfold putAt
    by_cases e : p.1 = k
    · rw [if_pos e, if_pos (h1.symm.trans e)]; exact ⟨h1, h2, ry⟩
    · rw [if_neg e, if_neg (fun z => e (h1.trans z))]; exact ⟨h1, h2, h3⟩
theorem KT.put {H : Hp} {kvs : List (List Key × V)} {xs : List (List Key × Addr × Value)} (r : KT H kvs xs) (k : List Key) {b : Addr} {y : V} {u : Value} (hb : H b = some (.tup (k.map kV))) (ry : RelV y u) :
    KT H (putK kvs k y) (storedH xs k b u) := by
  have e : (kvs.any fun kv => decide (kv.1 = k)) = (atKey xs k).isSome := by
    rw [valV_any, (r.val k).isSome_eq, Option.isSome_map]
  unfold putK storedH
  rw [e]
  by_cases q : (atKey xs k).isSome = true
  · rw [if_pos q, if_pos q]; exact r.repl k ry
  · rw [if_neg q, if_neg q]; exact Paired.snoc r ⟨rfl, hb, ry⟩
theorem KT.keeps {H H' : Hp} {kvs : List (List Key × V)} {xs : List (List Key × Addr × Value)} (r : KT H kvs xs) (ht : ∀ b ys, H b = some (.tup ys) → H' b = some (.tup ys)) : KT H' kvs xs :=
  Paired.mapP r fun _ _ z => ⟨z.1, ht _ _ z.2.1, z.2.2⟩
section
variable {P : Program} {w : World} {H : Hp} {h : Heap} {a : Addr}
theorem rd_of {u : HO} (ok : HOk P w H h) (e : Rd H a u) : ObjOk P w H h a u := e.ok ok
theorem dk_rd {kvs : List (Key × V)} (ok : HOk P w H h) (e : Rd H a (.dK kvs)) : kvs.length ≤ sizeLine ∧ (a == sysModules) = false ∧ ∃ vs, KV kvs vs ∧ h.DictOf (mixKind P w) a vs :=
  show ObjOk P w H h a (.dK kvs) from rd_of ok e
theorem dk_of {kvs : List (Key × V)} (ok : HOk P w H h) (e : H a = some (.dK kvs)) : kvs.length ≤ sizeLine ∧ (a == sysModules) = false ∧ ∃ vs, KV kvs vs ∧ h.DictOf (mixKind P w) a vs := dk_rd ok (.inl e)
theorem key_of {ks : List Key} (ok : HOk P w H h) (e : H a = some (.tup (ks.map kV))) : (tupleKind (mixKind P w)).is h ks a := by
  obtain ⟨_, its, r, o, h1, h2, n, h3⟩ := (show ObjOk P w H h a (.tup (ks.map kV)) from ok a _ e)
  exact ⟨o, its.toArray, n, h1, h2, h3, by simpa using items_are r⟩
theorem dt_rd {kvs : List (List Key × V)} (ok : HOk P w H h) (e : Rd H a (.dT kvs)) : kvs.length ≤ sizeLine ∧ (a == sysModules) = false ∧
    ∃ xs, KT H kvs xs ∧ h.DictOfH (tupleKind (mixKind P w)) a xs := by
  obtain ⟨z, y, xs, r, o, es, ep, h1, h2, h3, h4, h5⟩ := (show ObjOk P w H h a (.dT kvs) from rd_of ok e)
  refine ⟨z, y, xs, r, o, es, ep, h1, h2, h3, h4, fun x hx => ?_, h5⟩
  have all : ∀ {l : List (List Key × V)} {m : List (List Key × Addr × Value)}, KT H l m → ∀ x ∈ m, (tupleKind (mixKind P w)).is h x.1 x.2.1 := by
    intro l m q
    induction q with
    | nil => intro x hx; exact nomatch hx
    | @cons p q ps qs hq t ih =>
      intro x hx
      rcases List.mem_cons.mp hx with e | hx
      · subst e
        exact key_of ok (by rw [← hq.1]; exact hq.2.1)
      · exact ih x hx
  exact all r x hx
theorem dt_of {kvs : List (List Key × V)} (ok : HOk P w H h) (e : H a = some (.dT kvs)) : kvs.length ≤ sizeLine ∧ (a == sysModules) = false ∧
    ∃ xs, KT H kvs xs ∧ h.DictOfH (tupleKind (mixKind P w)) a xs := dt_rd ok (.inl e)
end
def DGet (H : Hp) (a : Addr) (y : V) (r : Option V) : Prop :=
  (∃ kvs k, Rd H a (.dK kvs) ∧ y = kV k ∧ r = valV kvs k) ∨ ∃ kvs k b, Rd H a (.dT kvs) ∧ y = .ref b ∧ H b = some (.tup (k.map kV)) ∧ r = valV kvs k
def DPut (H : Hp) (a : Addr) (y v : V) (H' : Hp) : Prop :=
  (∃ kvs k, H a = some (.dK kvs) ∧ y = kV k ∧ kvs.length < sizeLine ∧ H' = upd H a (.dK (putK kvs k v))) ∨
  ∃ kvs k b, H a = some (.dT kvs) ∧ y = .ref b ∧ H b = some (.tup (k.map kV)) ∧ kvs.length < sizeLine ∧ H' = upd H a (.dT (putK kvs k v))
theorem DGet.k {H : Hp} {a : Addr} {kvs : List (Key × V)} {k : Key} (e : H a = some (.dK kvs)) : DGet H a (kV k) (valV kvs k) := .inl ⟨kvs, k, .inl e, rfl, rfl⟩
theorem DGet.t {H : Hp} {a b : Addr} {kvs : List (List Key × V)} {k : List Key} (e : H a = some (.dT kvs)) (eb : H b = some (.tup (k.map kV))) : DGet H a (.ref b) (valV kvs k) := .inr ⟨kvs, k, b, .inl e, rfl, eb, rfl⟩
theorem DPut.k {H : Hp} {a : Addr} {kvs : List (Key × V)} {k : Key} {v : V} (e : H a = some (.dK kvs)) (hl : kvs.length < sizeLine) : DPut H a (kV k) v (upd H a (.dK (putK kvs k v))) := .inl ⟨kvs, k, e, rfl, hl, rfl⟩
theorem DPut.t {H : Hp} {a b : Addr} {kvs : List (List Key × V)} {k : List Key} {v : V} (e : H a = some (.dT kvs)) (eb : H b = some (.tup (k.map kV))) (hl : kvs.length < sizeLine) :
    DPut H a (.ref b) v (upd H a (.dT (putK kvs k v))) := .inr ⟨kvs, k, b, e, rfl, eb, hl, rfl⟩
section
variable {X : Cx} {pins : List (Addr × Obj)} {σ : St} {H : Hp} {s : Shared} {a : Addr} {y v : V} {u r : Value} {o : Option V} {A : Around} {E : Value → Shared → Prop}
theorem Inv.big (I : Inv X pins σ H s) : sysModules < s.heap.objs.size := by
  have h : mainGlobals < s.heap.objs.size := (I.mod.glob.keeps I.bk).lt
  exact Nat.lt_trans (by decide) h
theorem d_in {Q : Value → Shared → Prop} (hu : A.units + 1 < cLine) (I : Inv X pins σ H s) (g : DGet H a y o) (ry : RelV y u) (h : ∀ s', Inv X pins σ H s' → Q (.bool o.isSome) s') :
    wpAny (model X.prog X.w) A (compareOp .In u (.ref a)) Q E s := by
  rcases g with ⟨kvs, k, e, ey, l⟩ | ⟨kvs, k, b, e, ey, eb, l⟩
  · subst ey
    obtain ⟨z, hd, vs, rel, dd⟩ := dk_rd I.hok e
    refine wpAny_in_of (kV_is ry) hd dd.mapOf ?_
    rw [← (rel.val k).isSome_eq, ← l]
    exact h _ (I.tok _)
  · subst ey
    cases (show u = Value.ref b from ry)
    obtain ⟨z, hd, xs, rel, dd⟩ := dt_rd I.hok e
    refine wpAny_in_heap (tupleKind_room_in1 hu) (key_of I.hok eb) hd dd ?_
    have q := (rel.val k).isSome_eq
    rw [Option.isSome_map] at q
    rw [← q, ← l]
    exact h _ (I.tok _)
theorem d_write {h' : Heap} {t' : Nat} {ob : HO} (I : Inv X pins σ H s) (mu : Mut (H a)) (hs : Heap.SameBut a s.heap h') (he : ∃ q, h'.get? a = some q) (new : ObjOk X.prog X.w (upd H a ob) h' a ob) :
    Inv X pins σ (upd H a ob) { s with heap := h', toks := t' } :=
  I.write (x := a) (e := a) mu (.inl rfl) (fun b q hb z => (hs.2 b hb).trans z) he new
theorem dk_new {P : Program} {w : World} {H' : Hp} {h' : Heap} {kvs : List (Key × V)} {vs : List (Key × Value)} (z : kvs.length ≤ sizeLine) (hd : (a == sysModules) = false) (rel : KV kvs vs) (dd : h'.DictOf (mixKind P w) a vs) :
    ObjOk P w H' h' a (.dK kvs) := ⟨z, hd, vs, rel, dd⟩
theorem d_setItem {H' : Hp} {Q : Unit → Shared → Prop} (hu : A.units + 1 < cLine) (I : Inv X pins σ H s) (g : DPut H a y v H') (ry : RelV y u) (rv : RelV v r) (h : ∀ s', Inv X pins σ H' s' → Q () s') :
    wpAny (model X.prog X.w) A (setItem (.ref a) u r) Q E s := by
  rcases g with ⟨kvs, k, e, ey, l, eH⟩ | ⟨kvs, k, b, e, ey, eb, l, eH⟩
  · subst ey eH
    obtain ⟨z, hd, vs, rel, dd⟩ := dk_of I.hok e
    have hz : vs.length ≤ sizeLine := by rw [← rel.length]; exact z
    have hl : (putK kvs k v).length ≤ sizeLine := by have := length_putK kvs k v; omega
    refine wpAny_setItem_pairs (hsz := hz) (kV_is ry) dd fun h' dd' hs => h _ ?_
    have he : ∃ q, h'.get? a = some q := let ⟨q, _, _, hq, _⟩ := dd'; ⟨q, hq⟩
    exact d_write I (by rw [e]; exact True.intro) hs he (dk_new hl hd (rel.put k rv) dd')
  · subst ey eH
    cases (show u = Value.ref b from ry)
    obtain ⟨z, hd, xs, rel, dd⟩ := dt_of I.hok e
    have hz : xs.length ≤ sizeLine := by rw [← Paired.length rel]; exact z
    have hl : (putK kvs k v).length ≤ sizeLine := by have := length_putK kvs k v; omega
    refine wpAny_setItem_heap (hsz := hz) (tupleKind_room_in1 hu) (key_of I.hok eb) dd fun h' dd' hs => h _ ?_
    obtain ⟨q, es, ep, hq, h2, h3, h4, _, h5⟩ := dd'
    refine d_write I (by rw [e]; exact True.intro) hs ⟨q, hq⟩ ⟨hl, hd, _, (rel.put k eb rv).keeps fun c ys ec => ?_, q, es, ep, hq, h2, h3, h4, h5⟩
    rw [upd_ne (ne_of ec e (fun z => nomatch z))]
    exact ec
end
section
variable {X : Cx} {pins : List (Addr × Obj)} {σ : St} {H : Hp} {s : Shared} {a : Addr} {kvs : List (Key × V)} {k : Key} {u : Value} {A : Around} {E : Value → Shared → Prop}
end
def tDIn (ty td : TE) : TE := fun σ H Q => ty σ H fun y H1 => td σ H1 fun x H2 => ∃ a o, x = .ref a ∧ DGet H2 a y o ∧ Q (.bl o.isSome) H2
def sDPut (td ty tv : TE) : TS := fun D σ H => tv σ H fun v H1 => td σ H1 fun x H2 => ty σ H2 fun y H3 => ∃ a H4, x = .ref a ∧ DPut H3 a y v H4 ∧ D.nx σ H4
section
variable {X : Cx} {o i e value : Expr} {pos pos' tpos : Pos} {td ty tv : TE}
theorem pc_din (hu : X.A.units + 1 < cLine) (hi : PE X i ty) (ho : PE X o td) : PC X .In i o (tDIn ty td) := by
  intro pins s σ H Q I h
  refine thn (hi pins s σ H _ I h) fun iv s1 ⟨y, H1, I1, ry, q1⟩ => thn (ho pins s1 σ H1 _ I1 q1) fun u s2 ⟨x, H2, I2, rx, a, ov, ex, g, q2⟩ => ?_
  subst ex
  obtain rfl : u = Value.ref a := rx
  exact d_in hu I2 g ry fun s3 I3 => ⟨.bl ov.isSome, H2, I3, rfl, q2⟩
theorem ps_dput (hu : X.A.units + 1 < cLine) (ho : PE X o td) (hi : PE X i ty) (hv : PE X value tv) (hs : swapsWith value (some (.Subscript o i pos')) pos.line X.env = pure false) :
    PS X (.Assign [.Subscript o i pos'] value pos) (sDPut td ty tv) := by
  intro pins s σ H D I h
  refine wpAny_Assign_Subscript (thn (hv pins s σ H _ I h) fun r s1 ⟨v, H1, I1, rv, q1⟩ => thn (ho pins s1 σ H1 _ I1 q1) fun u s2 ⟨x, H2, I2, rx, q2⟩ => thn (hi pins s2 σ H2 _ I2 q2) fun iv s3 ⟨y, H3, I3, ry, a, H4, ex, g, q3⟩ => ?_) hs
  subst ex
  obtain rfl : u = Value.ref a := rx
  exact d_setItem hu I3 g ry rv fun s4 I4 => ⟨σ, H4, I4, q3⟩
end
theorem dk_empty {P : Program} {w : World} {H : Hp} (h : Heap) (hb : sysModules < h.objs.size) : ObjOk P w H (h.push { cls := .type "dict", data := .dict #[] }) h.objs.size (.dK []) :=
  ⟨Nat.zero_le _, beq_eq_false_iff_ne.mpr (Ne.symm (Nat.ne_of_lt hb)), [], .nil, Heap.DictOf.new h⟩
theorem dt_empty {P : Program} {w : World} {H : Hp} (h : Heap) (hb : sysModules < h.objs.size) : ObjOk P w H (h.push { cls := .type "dict", data := .dict #[] }) h.objs.size (.dT []) :=
  ⟨Nat.zero_le _, beq_eq_false_iff_ne.mpr (Ne.symm (Nat.ne_of_lt hb)), [], .nil, _, #[], 0, Heap.get?_push_size _ rfl, ⟨rfl, rfl, rfl⟩, rfl, rfl, List.nodup_nil⟩
def tDNewT : TE := fun _ H Q => ∀ p, H p = none → Q (.ref p) (upd H p (.dT []))
section
variable {X : Cx} {pos : Pos}
theorem pe_dnewT : PE X (.Dict [] [] pos) tDNewT := fun pins s σ H Q I h =>
  wpAny_Dict_empty ⟨.ref s.heap.objs.size, _, I.laid (a := s.heap.objs.size) (o := .dT []) (t' := s.toks) (fun _ _ q => Heap.get?_push_of_some _ q) (Nat.le_refl _) (dt_empty s.heap I.big), rfl, h _ (I.hok.fresh (Nat.le_refl _))⟩
end
def tPairs : List (TE × TE) → St → Hp → (List (V × V) → Hp → Prop) → Prop
  | [], _, H, Q => Q [] H
  | (tk, tv) :: r, σ, H, Q => tk σ H fun x H1 => tv σ H1 fun y H2 => tPairs r σ H2 fun ps H3 => Q ((x, y) :: ps) H3
abbrev VV : List (V × V) → List (Value × Value) → Prop := Paired fun p q => RelV p.1 q.1 ∧ RelV p.2 q.2
def PPs (X : Cx) (pos : Pos) (keys : List (Option Expr)) (values : List Expr) (trs : List (TE × TE)) : Prop :=
  ∀ (pins : List (Addr × Obj)) (s : Shared) (σ : St) (H : Hp) (Q : List (V × V) → Hp → Prop), Inv X pins σ H s → tPairs trs σ H Q →
    wpAny (model X.prog X.w) X.A (evalPairs (pairTrees keys values X.env pos)) (fun vs s' => ∃ ps H', Inv X pins σ H' s' ∧ VV ps vs ∧ Q ps H') X.xe s
theorem pps_nil {X : Cx} {pos : Pos} : PPs X pos [] [] [] := fun pins s σ H Q I h => pairTrees_nil_walk ⟨[], H, I, .nil, h⟩
theorem pps_cons {X : Cx} {pos : Pos} {k v : Expr} {ks : List (Option Expr)} {vs : List Expr} {tk tv : TE} {trs : List (TE × TE)} (hk : PE X k tk) (hv : PE X v tv) (hr : PPs X pos ks vs trs) :
    PPs X pos (some k :: ks) (v :: vs) ((tk, tv) :: trs) := fun pins s σ H Q I h =>
  pairTrees_cons_walk (thn (hk pins s σ H _ I h) fun u s1 ⟨x, H1, I1, rx, q1⟩ => thn (hv pins s1 σ H1 _ I1 q1) fun w2 s2 ⟨y, H2, I2, ry, q2⟩ =>
    thn (hr pins s2 σ H2 _ I2 q2) fun ws s3 ⟨ps, H3, I3, rel, q3⟩ => ⟨(x, y) :: ps, H3, I3, .cons ⟨rx, ry⟩ rel, q3⟩)
def mergeK (kvs more : List (Key × V)) : List (Key × V) := more.foldl (fun acc kv => putK acc kv.1 kv.2) kvs
theorem KV.merge : ∀ {more : List (Key × V)} {rs : List (Key × Value)} {kvs : List (Key × V)} {vs : List (Key × Value)}, KV more rs → KV kvs vs → KV (mergeK kvs more) (merged vs rs) := by
  intro more rs kvs vs r
  unfold KV at r
  induction r generalizing kvs vs with
  | nil => intro q; exact q
  | @cons p q ps qs h t ih =>
    intro r0
    have e : KV (putK kvs p.1 p.2) (stored vs q.1 q.2) := by
      have := r0.put p.1 h.2
      rw [← h.1]; exact this
    exact ih e
theorem length_mergeK : ∀ (more kvs : List (Key × V)), (mergeK kvs more).length ≤ kvs.length + more.length
  | [], kvs => by show kvs.length ≤ kvs.length + 0; omega
  | p :: r, kvs => by
    have h1 := length_mergeK r (putK kvs p.1 p.2)
    have h2 := length_putK kvs p.1 p.2
    show (mergeK (putK kvs p.1 p.2) r).length ≤ _
    rw [List.length_cons]; omega
theorem carries_of {P : Program} {w : World} : ∀ {kvs : List (Key × V)} {ws : List (Value × Value)}, VV (kvs.map fun kv => (kV kv.1, kv.2)) ws → ∃ rs, Carries (mixKind P w) ws rs ∧ KV kvs rs
  | [], _, r => by rw [List.map_nil] at r; cases r; exact ⟨[], True.intro, .nil⟩
  | p :: kvs, _, r => by
    rw [List.map_cons] at r
    cases r with
    | @cons a b as bs h t =>
      obtain ⟨rs, c, q⟩ := carries_of (P := P) (w := w) t
      obtain ⟨b1, b2⟩ := b
      exact ⟨(p.1, b2) :: rs, ⟨kV_is h.1, rfl, c⟩, .cons ⟨rfl, h.2⟩ q⟩
def tDisp (trs : List (TE × TE)) : TE := fun σ H Q => ∀ p, H p = none → tPairs trs σ (upd H p (.dK [])) fun ps H2 => H2 p = some (.dK []) ∧ ∃ kvs : List (Key × V), ps = kvs.map (fun kv => (kV kv.1, kv.2)) ∧ kvs.length ≤ 15 ∧ Q (.ref p) (upd H2 p (.dK (mergeK [] kvs)))
theorem pe_disp {X : Cx} {pos : Pos} {keys : List (Option Expr)} {values : List Expr} {trs : List (TE × TE)} (h : PPs X pos keys values trs) (hall : keys.all (·.isSome) = true) (hl : keys.length = values.length) (h0 : keys ≠ [])
    (h15 : keys.length ≤ 15) : PE X (.Dict keys values pos) (tDisp trs) := by
  intro pins s σ H Q I q
  have hn := I.hok.fresh (Nat.le_refl s.heap.objs.size)
  have I1 := I.laid (a := s.heap.objs.size) (o := .dK []) (h' := s.heap.push { cls := .type "dict", data := .dict #[] }) (t' := s.toks) (fun _ _ q => Heap.get?_push_of_some _ q) (Nat.le_refl _) (dk_empty s.heap I.big)
  refine wpAny_Dict_walk (knd := mixKind X.prog X.w) hall hl h0 h15 (thn (h pins _ σ _ _ I1 (q _ hn)) fun ws s2 ⟨ps, H2, I2, rel, e, kvs, ep, lk, q2⟩ => ?_)
  subst ep
  obtain ⟨rs, c, rk⟩ := carries_of (P := X.prog) (w := X.w) rel
  obtain ⟨z, hd, vs0, r0, dd⟩ := dk_of I2.hok e
  cases r0
  refine ⟨rs, c, dd, fun h' dd' hs => ⟨.ref s.heap.objs.size, _, ?_, rfl, q2⟩⟩
  have hz : (mergeK [] kvs).length ≤ sizeLine := by
    have h1 := length_mergeK kvs []
    rw [List.length_nil] at h1
    rw [sizeLine_eq]; omega
  have he : ∃ q, h'.get? s.heap.objs.size = some q := let ⟨q, _, _, hq, _⟩ := dd'; ⟨q, hq⟩
  exact d_write I2 (by rw [e]; exact True.intro) hs he (dk_new hz hd (rk.merge .nil) dd')
section
variable {X : Cx} {pins : List (Addr × Obj)} {σ : St} {H : Hp} {s : Shared} {a : Addr} {y d : V} {u r : Value} {o : Option V} {A : Around} {E : Value → Shared → Prop}
end
section
variable {X : Cx} {o e f : Expr} {apos cpos : Pos} {td ty tx : TE}
end
section
variable {X : Cx} {pins : List (Addr × Obj)} {σ : St} {H : Hp} {s : Shared} {a : Addr} {kvs : List (Key × V)} {A : Around} {E : Value → Shared → Prop}
end
section
variable {X : Cx} {pins : List (Addr × Obj)} {σ : St} {H : Hp} {s : Shared} {a : Addr} {y : V} {u : Value} {A : Around} {E : Value → Shared → Prop}
end
end L2
namespace Att
open PySem PySem.W PySem.Calls PyProof.Rows
theorem ints_of_wellAll {P : Params} {h : Heap} : ∀ (ns : List Int) (vs : List Value), WellAll P h vs (ns.map WData.int) → IntsAre vs ns := by
  intro ns
  induction ns with
  | nil =>
    intro vs w
    rw [List.map_nil] at w
    cases w
    exact .nil
  | cons n ns ih =>
    intro vs w
    rw [List.map_cons] at w
    cases w with
    | cons a b =>
      cases a
      exact .cons _ _ (ih _ b)
theorem script_of {l : OpenLaw} {n : Nat} (hn : l.most = some n) {P : Params} {h : Heap} {args : List WData} {vals : List Value}
    (hpre : l.row.toRowW.claim.pre args = true) (hwl : WellAll P h vals args) :
    ∃ a vs ns, vals = [Value.ref a] ∧ args = [WData.list (ns.map WData.int)] ∧ h.get? a = some { cls := .type "list", data := .seq vs.toArray } ∧ IntsAre vs ns ∧ ns.length ≤ n := by
  have hsh : WShape.hasAll [] args [.list .int] = true := (pre_splitW hpre).1
  have hc : l.pre.holds [] { args := args } = true := (pre_splitW hpre).2
  obtain ⟨d, r, rfl, h1, h2⟩ := hasAllW_cons hsh
  obtain rfl := hasAllW_nil h2
  obtain ⟨xs, rfl, h3⟩ := hasW_list h1
  obtain ⟨ns, rfl⟩ := items_int h3
  have hlen : ns.length ≤ n := by
    unfold OpenLaw.pre at hc
    have h4 : (WTm.not (.lt (.lit (.int (n : Int))) (.len (.arg 0)))).holds [] { args := [.list (ns.map .int)] } = true := by
      have h4 := (holds_andW hc).1
      rw [hn] at h4
      exact h4
    have h5 := condW_of h4 (w_not (w_lt w_lit (w_len_list (w_arg rfl))))
    rw [List.length_map] at h5
    refine Nat.le_of_not_lt fun q => ?_
    have q' : (n : Int) < ((ns.length : Nat) : Int) := by omega
    first
      | (rw [decide_eq_true q'] at h5; exact absurd h5 (by decide))
      | (simp at h5; omega)
  cases hwl with
  | cons w1 w2 =>
    cases w2
    cases w1 with
    | list ho hall => exact ⟨_, _, ns, rfl, rfl, ho, ints_of_wellAll ns _ hall, hlen⟩
theorem post_true (l : OpenLaw) (args : List WData) : l.row.toRowW.claim.post args (.bool true) args = true :=
  postW_of (r := l.row.toRowW) (X := (true == true))
    (show WShape.has [] (.bool true) .bool = true by first | rfl | decide | simp [WShape.has, WShape.arms, WShape.armsAll])
    (show (WTm.eq .res (.lit (.bool true))).value [] { args := args, res := some (.bool true), after := args } = some (.bool (true == true)) from w_eq_bool (w_res rfl) w_lit) rfl
theorem attach_call {l : OpenLaw} {n : Nat} {q : Program} {loose : List Str} {XP : (Str → Option Value) → Heap → Prop} {YP : World → Heap → Prop} {d : DefRec}
    (hn : l.most = some n) (hdf : d.params.defaults = [])
    (call : ∀ (w : World) (s₀ s₁ : Shared) (mg mb : Str → Option Value) (fa : Addr) (o : Obj) (pm cd doc : Value) (a : Addr) (vs : List Value) (ns : List Int),
      Ground q loose [] XP w s₀ mg mb s₁.heap → YP w s₁.heap →
      s₁.heap.get? fa = some o → o.data = .func (docDef d.name d.params d.body d.scope pm cd doc) → s₁.heap.CodeRec cd d.name → mg d.name = some (.ref fa) →
      s₁.heap.get? a = some { cls := .type "list", data := .seq vs.toArray } → IntsAre vs ns → ns.length ≤ n → s₁.gens = #[] →
      codeAny (model l.prog w) callerA (.call (.ref fa) ⟨[.ref a], []⟩) (fun r s' => r = .ok (.ret (.bool true)) ∧ OldK s₁.heap s'.heap ∧ s'.os = s₁.os ∧ AllBare s'.gens) s₁) :
    WalkO q loose XP YP l.row.toRowW d [] (fun f vs => PySem.call f vs) := by
  intro w s₀ s₁ mg mb G Y fa o pm cd doc dV kV ho hd hcd hD hmg hg args vals as hpre hlay hrd hwl hlo
  obtain rfl : dV = .none := Dflts.none hD hdf
  obtain rfl : kV = .none := Dflts.noKw hD
  obtain ⟨a, vs, ns, rfl, rfl, hobj, hints, hlen⟩ := script_of hn hpre hwl
  refine enter_call (codeAny_mono (call w s₀ s₁ mg mb fa o pm cd doc a vs ns G Y ho (fd_plain hd) hcd hmg hobj hints hlen hg) fun r s' hq => ?_)
  obtain ⟨rfl, h2, h3, h4⟩ := hq
  exact ⟨.inl ⟨.bool true, .bool true, [], rfl, fun _ => rfl, .bool true, post_true l _, fun _ => ⟨List.Pairwise.nil, fun _ hm => (nomatch hm)⟩⟩, h2, h3, h4⟩
section
variable {prog : Program} {w : World} {A : Around} {E : Value → Shared → Prop} {s : Shared} {K : Frag}
end
end Att
namespace L2
open PySem PySem.Spec PyProof.Rows
theorem vals_ints : ∀ {vs : List Value} {ns : List Int}, IntsAre vs ns → Vals (ns.map V.int) vs
  | _, _, .nil => .nil
  | _, _, .cons n t h => .cons ⟨t, rfl⟩ (vals_ints h)
def Only (H : Hp) : Prop := ∀ b, H b = none ∨ ∃ o xs, H b = some (.frz o (.lst xs))
theorem law_call {P : Program} {w : World} {K : PySem.W.Frag} {mg mb : Str → Option Value} {CX : CXT} {k : Nat} {fa a : Addr} {fd : FuncData} {x : Str} {sp : Sp} {s₁ : Shared} {vs : List Value} {ns : List Int}
    (KX : K.In s₁.heap) (hns : s₁.heap.Ns mainGlobals mg) (hb : s₁.heap.Ns builtinsNs mb) (hbb : ∀ x : Str, x ≠ "__name__" → mb x = bootBuiltins x) (hlim : s₁.heap.NoLimit) (hg : s₁.gens = #[])
    (ha : s₁.heap.get? a = some { cls := .type "list", data := .seq vs.toArray }) (hi : IntsAre vs ns) (hl : ns.length ≤ sizeLine) (hr : Room k callerA)
    (F : ∀ base : Heap, K.In base → base.Ns mainGlobals mg → FnOk P w K mg base CX k fa fd [x] sp) (hbind : ∀ (s : Shared) (u : Value), BindsTo s fd ⟨[u], []⟩ [(x, u)])
    (hsp : ∀ H : Hp, Only H → SqL K H a (ns.map V.int) → sp [.ref a] H (fun v _ => v = .bl true) fun _ _ _ => False)
    (hCX : ∀ H e s', CX [] H s₁ (fun _ _ _ => False) e s' → False) :
    codeAny (model P w) callerA (.call (.ref fa) ⟨[.ref a], []⟩) (fun r s' => r = .ok (.ret (.bool true)) ∧ OldK s₁.heap s'.heap ∧ s'.os = s₁.os ∧ AllBare s'.gens) s₁ := by
  have rv := vals_ints hi
  have lenV := hi.length
  -- from an abstract heap in which nothing but the script may be tracked
  have core : ∀ H : Hp, Only H → SqL K H a (ns.map V.int) → HOk P w H s₁.heap → (∀ b, H b ≠ none → b = a) → (H a ≠ none → K.lookup a = none) →
      codeAny (model P w) callerA (.call (.ref fa) ⟨[.ref a], []⟩) (fun r s' => r = .ok (.ret (.bool true)) ∧ OldK s₁.heap s'.heap ∧ s'.os = s₁.os ∧ AllBare s'.gens) s₁ := by
    intro H hO hS hok hA hK
    have base_of : ∀ {b : Addr} {o : Obj}, s₁.heap.get? b = some o → H b = none → (hidT s₁.heap H).get? b = some o := fun e n => hidT_get e n
    have noA : ∀ {b : Addr} {o : Obj} {es : Array DictEntry} {ep : Nat}, s₁.heap.get? b = some o → o.data = .dict es ep → H b = none := fun {b o es ep} e d => by
      cases q : H b with
      | none => rfl
      | some u =>
        have e' : b = a := hA b (by rw [q]; simp)
        subst e'
        rw [ha] at e; cases e
        have d' : Data.seq vs.toArray _ = Data.dict es ep := d
        cases d'
    have nsK : ∀ {b : Addr} {m : Str → Option Value}, s₁.heap.Ns b m → (hidT s₁.heap H).Ns b m := fun {b m} ⟨o, es, ep, e, d, r⟩ => ⟨o, es, ep, base_of e (noA e d), d, r⟩
    have hKb : K.In (hidT s₁.heap H) := fun b o e => base_of (KX b o e) (by
      cases q : H b with
      | none => rfl
      | some u =>
        have e' : b = a := hA b (by rw [q]; simp)
        subst e'
        rw [hK (by rw [q]; simp)] at e; cases e)
    have hM : Mod K mg (hidT s₁.heap H) := ⟨hKb, nsK hns, ⟨mb, nsK hb, hbb⟩, let ⟨mc, h1, h2⟩ := hlim; ⟨mc, nsK h1, h2⟩⟩
    have e0 : Env0 P w K mg (hidT s₁.heap H) callerA [] s₁ H := ⟨rfl, hM, fun b o e => of_hidT e, Nat.le_of_eq (hidT_size _ _), trivial, fun b hb => absurd (show b ∈ ([] : List Addr) from hb) (by simp), hok, .of_eq hg⟩
    refine codeAny_mono ((F _ hKb (nsK hns)).run callerA [] s₁ H ⟨[.ref a], []⟩ [.ref a] [.ref a] _ _ hr e0 (hbind s₁ (.ref a)) (.cons rfl .nil) (hsp H hO hS)) fun r s' h => ?_
    cases r with
    | error e => exact (hCX H e s' h).elim
    | ok fl =>
      cases fl with
      | next => exact False.elim h
      | brk => exact False.elim h
      | cont => exact False.elim h
      | ret u =>
        obtain ⟨v, H', os, bare, un, hok', r', q⟩ := h
        have q' : v = .bl true := q
        subst q'
        obtain rfl : u = Value.bool true := r'
        refine ⟨rfl, OldK.of_keep fun b o e => ?_, os, bare⟩
        cases q : H b with
        | none => exact un.keep b o e q (by intro z; exact absurd (show b ∈ ([] : List Addr) from z) (by simp)) (by simp)
        | some u =>
          rcases hO b with z | ⟨ob, xs, z⟩
          · rw [q] at z; cases z
          · have z2 := un.frzs b ob _ z
            obtain ⟨e1, _⟩ := hok b _ z
            obtain ⟨e2, _⟩ := hok' b _ z2
            rw [e] at e1; cases e1
            exact e2
  cases hk : K.lookup a with
  | some o =>
    -- the script is one of the module's own objects
    have e := KX a o hk
    rw [ha] at e
    cases e
    refine core (fun _ => none) (fun _ => .inl rfl) (.inr ⟨_, vs.toArray, _, hk, rfl, rfl, rfl, by rw [List.size_toArray, lenV]; exact hl, by simpa using rv⟩) (fun b u z => by have z' : (none : Option HO) = some u := z; cases z') (fun b z => absurd rfl z) fun z => absurd rfl z
  | none =>
    refine core (fun b => if b = a then some (.frz { cls := .type "list", data := .seq vs.toArray } (.lst (ns.map V.int))) else none) (fun b => ?_) (.inl (.inr ⟨{ cls := .type "list", data := .seq vs.toArray }, if_pos rfl⟩)) (fun b u z => ?_) (fun b z => ?_) fun _ => hk
    · by_cases hb : b = a
      · exact .inr ⟨_, _, if_pos hb⟩
      · exact .inl (if_neg hb)
    · by_cases hb : b = a
      · have z' := (if_pos hb).symm.trans z
        cases z'
        subst hb
        exact ⟨ha, by rw [List.length_map]; exact hl, vs, _, rv, ha⟩
      · have z' := (if_neg hb).symm.trans z
        cases z'
    · by_cases hb : b = a
      · exact hb
      · exact absurd (if_neg hb) z
end L2
namespace L2
open PySem PySem.Spec PyProof.Rows
theorem walk_of {l : PySem.W.OpenLaw} {n k : Nat} {q : Program} {loose : List Str} {XP : (Str → Option Value) → Heap → Prop} {YP : World → Heap → Prop} {d : DefRec} {K : Params → PySem.W.Frag} {CX : World → CXT} {sp : World → Sp} {x : Str}
    (hn : l.most = some n) (hn2 : n ≤ sizeLine) (hdf : d.params.defaults = []) (hr : Room k callerA)
    (hY : ∀ (w : World) (h : Heap), YP w h → (K w.params).In h)
    (F : ∀ (w : World) (mg : Str → Option Value) (fa : Addr) (h : Heap), (K w.params).In h → h.Ns mainGlobals mg → mg d.name = some (.ref fa) →
      ∃ fd : FuncData, (∀ (s : Shared) (u : Value), BindsTo s fd ⟨[u], []⟩ [(x, u)]) ∧
        ∀ base : Heap, (K w.params).In base → base.Ns mainGlobals mg → FnOk l.prog w (K w.params) mg base (CX w) k fa fd [x] (sp w))
    (hsp : ∀ (w : World) (H : Hp) (a : Addr) (ns : List Int), ns.length ≤ n → Only H → SqL (K w.params) H a (ns.map V.int) → sp w [.ref a] H (fun v _ => v = .bl true) fun _ _ _ => False)
    (hCX : ∀ (w : World) (H : Hp) (s : Shared) (e : Value) (s' : Shared), CX w [] H s (fun _ _ _ => False) e s' → False) :
    PySem.W.WalkO q loose XP YP l.row.toRowW d [] (fun f vs => PySem.call f vs) := by
  refine Att.attach_call hn hdf fun w s₀ s₁ mg mb fa o pm cd doc a vs ns G Y ho hd hcd hmg hobj hints hlen hg => ?_
  have KX := hY w _ Y
  obtain ⟨fd, hb, hF⟩ := F w mg fa _ KX G.T.g hmg
  exact law_call KX G.T.g G.T.b G.T.builtins G.T.nolimit hg hobj hints (Nat.le_trans hlen hn2) hr hF hb (fun H hO hS => hsp w H a ns hlen hO hS) fun H e s' => hCX w H s₁ e s'
end L2
namespace L2
open PySem PySem.Spec PyProof.Rows
def inClass (s : Stmt) (j : Nat) : Stmt := match s with
  | .ClassDef _ _ _ body _ _ _ _ _ _ _ => body.getD j (.Pass ⟨0, 0, 0, 0⟩)
  | _ => .Pass ⟨0, 0, 0, 0⟩
def defArgs (s : Stmt) : Arguments := match s with
  | .FunctionDef _ a _ _ _ _ _ _ _ _ => a
  | _ => { posonlyargs := [], args := [], vararg := none, kwonlyargs := [], kw_defaults := [], kwarg := none, defaults := [] }
def defBody (s : Stmt) : List Stmt := match s with
  | .FunctionDef _ _ b _ _ _ _ _ _ _ => b
  | _ => []
def defScope (s : Stmt) : Scope := match s with
  | .FunctionDef _ _ _ _ _ _ sc _ _ _ => sc
  | _ => { kind := .function, names := [], isGenerator := false, isCoroutine := false }
abbrev CX0 : CXT := fun _ _ _ _ _ _ => False
abbrev E0 : XK := fun _ _ _ => False
theorem pass0 {X : Cx} : Passes CX0 X E0 := fun _ _ _ _ _ _ _ h => h.elim
structure Fun (K : PySem.W.Frag) (x qual : Str) (st : Stmt) (f : Addr) (fd : FuncData) : Prop where
  ex : ∃ (oc : Value) (od : Option Addr) (kV doc pm : Value) (an : Option Addr) (cdv ct : Value) (osl : Array (Option Value)),
    fd = PySem.W.fnOf x qual (defArgs st) (defBody st) (defScope st) .none kV doc pm an cdv ct ∧ K.lookup f = some ⟨oc, od, .func fd, osl⟩ ∧ PySem.W.codeIn K cdv qual = true
  kp : PySem.W.keepIn K (.ref f) = true
section
variable {P : Program} {w : World} {K : PySem.W.Frag} {mg : Str → Option Value} {base : Heap}
theorem Fun.ok {x qual : Str} {st : Stmt} {f : Addr} {fd : FuncData} {N ps : List Str} {k : Nat} {sp : Sp} (F : Fun K x qual st f fd) (S : FnScope N ps (defScope st)) (len : ∀ vs H Q E, sp vs H Q E → vs.length = ps.length)
    (hbody : ∀ (cdv : Value) (A : Around) (outer : List Env) (s : Shared) (H : Hp) (vs : List V) (Q : VK) (E : XK), Room k (A.deeper (envOfC qual (defScope st) s.heap.objs.size f cdv)) → sp vs H Q E →
      ∃ t, PSs (cxOf CX0 P w K mg base N qual (defScope st) f cdv A outer s H E).nox (defBody st) t ∧ t { nx := fun _ H' => Q .non H', rt := Q } (start N vs) H) : FnOk P w K mg base CX0 (k + 1) f fd ps sp := by
  obtain ⟨oc, od, kV, doc, pm, an, cdv, ct, osl, rfl, lk, hcd⟩ := F.ex
  refine fn_of lk hcd S len fun A outer s H vs Q E hr hsp => ?_
  obtain ⟨t, h, q⟩ := hbody cdv A outer s H vs Q E hr hsp
  exact ⟨t, h.nox, q⟩
theorem Fun.binds {x qual : Str} {st : Stmt} {f : Addr} {fd : FuncData} {ps : List Str} (F : Fun K x qual st f fd)
    (h : ∀ (kV doc pm : Value) (an : Option Addr) (cdv ct : Value) (us : List Value), us.length = ps.length → bindArgs (PySem.W.fnOf x qual (defArgs st) (defBody st) (defScope st) .none kV doc pm an cdv ct) ⟨us, []⟩ = pure (ps.zip us)) : Binds K fd ps [] := by
  obtain ⟨oc, od, kV, doc, pm, an, cdv, ct, osl, rfl, lk, hcd⟩ := F.ex
  exact .all (h kV doc pm an cdv ct)
theorem fun_mk {x qual : Str} {st : Stmt} {f : Addr} {oc : Value} {od an : Option Addr} {osl : Array (Option Value)} {kV doc pm cdv ct : Value} (l : K.lookup f = some ⟨oc, od, .func (PySem.W.fnOf x qual (defArgs st) (defBody st) (defScope st) .none kV doc pm an cdv ct), osl⟩)
    (c : PySem.W.codeIn K cdv qual = true) (k : PySem.W.keepIn K (.ref f) = true) : Fun K x qual st f (PySem.W.fnOf x qual (defArgs st) (defBody st) (defScope st) .none kV doc pm an cdv ct) := ⟨⟨oc, od, kV, doc, pm, an, cdv, ct, osl, rfl, l, c⟩, k⟩
end
section
variable {X : Cx}
end
def Same (H H' : Hp) : Prop := ∀ b o, H b = some o → H' b = some o
theorem Same.trans {H H1 H2 : Hp} (a : Same H H1) (b : Same H1 H2) : Same H H2 := fun c o h => b c o (a c o h)
theorem Same.free {H H' : Hp} (e : Same H H') {l : Addr} (h : H' l = Option.none) : H l = Option.none := by
  cases q : H l with
  | none => rfl
  | some o =>
    rw [e l o q] at h
    cases h
theorem Same.seq {K : PySem.W.Frag} {H H' : Hp} {a : Addr} {xs : List V} (e : Same H H') (h : SqL K H a xs) : SqL K H' a xs := by
  rcases h with (h | ⟨o, h⟩) | h
  · exact .inl (.inl (e _ _ h))
  · exact .inl (.inr ⟨o, e _ _ h⟩)
  · exact .inr h
end L2
namespace L2
open PySem PySem.Spec PyProof.Rows
section
variable {X : Cx}
end
section
variable {κ : Type} [DecidableEq κ]
end
end L2
set_option Elab.async false
set_option linter.all false
set_option maxRecDepth 100000
namespace L2
open PySem PySem.Spec PyProof.Rows
end L2
set_option Elab.async false
set_option linter.all false
set_option maxRecDepth 100000
set_option autoImplicit false
namespace L2
open PySem PySem.Spec PyProof.Rows
section
variable {X : Cx} {pins : List (Addr × Obj)} {σ : St} {H H' : Hp} {s s' : Shared} {a : Addr} {C a0 : Value} {B : Heap}
end
end L2
set_option Elab.async false
set_option linter.all false
set_option maxRecDepth 100000
set_option autoImplicit false
namespace L2
open PySem PySem.Spec PyProof.Rows
section
variable {X : Cx} {x : Str} {np cpos pos cp : Pos} {C : Addr} {bmB : List Value} {B newId initId : String} {m : Str} {j : Nat}
end
end L2
set_option Elab.async false
set_option linter.all false
set_option maxRecDepth 100000
set_option autoImplicit false
namespace L2
open PySem PySem.Spec PyProof.Rows
abbrev excO (a : Addr) (C : Value) : HO := .ext fun h => ∃ ob, h.get? a = some ob ∧ ob.cls = C
section
variable {X : Cx} {pins : List (Addr × Obj)} {σ : St} {H H' : Hp} {s s' : Shared} {a : Addr} {C a0 : Value} {B : Heap} {h'' : Heap}
end
section
variable {X : Cx} {k : Nat} {f C : Addr} {fd : FuncData} {ps : List Str} {sp : Sp} {E : XK} {x : Str} {p pos : Pos} {e : Expr} {es : List Expr} {t : TA}
end
end L2
set_option Elab.async false
set_option linter.all false
set_option maxRecDepth 100000
set_option autoImplicit false
namespace L2
open PySem PySem.Spec PyProof.Rows
section
variable {X : Cx} {pins : List (Addr × Obj)} {σ : St} {H H' : Hp} {s s' : Shared} {a : Addr}
end
section
variable {X : Cx} {i : Nat} {x n : Str} {W : Addr} {e : Expr} {te : TE} {E : XK} {b₀ : Stmt} {suite : List Stmt} {ts : TS} {pe np hp pos : Pos}
end
end L2
set_option Elab.async false
set_option linter.all false
set_option maxRecDepth 100000
namespace L2
open PySem PySem.Spec PyProof.Rows
def closeGo (env : Env) : List (Str × NameKind) → List (Str × Addr) → List (Str × Addr)
  | [], cs => cs
  | (x, k) :: r, cs => closeGo env r (if k == .free then (x, (env.cells.lookup x).getD 0) :: cs else cs)
theorem closureFor_go {env : Env} : ∀ (names : List (Str × NameKind)) (cs : List (Str × Addr)), (∀ p ∈ names, p.2 = .free → ∃ c, env.cells.lookup p.1 = some c) →
   (forIn (m := Sem) names cs fun (x : Str × NameKind) cs => if (x.2 == NameKind.free) = true then do
      let a ← cellOf env x.1
      pure (ForInStep.yield ((x.1, a) :: cs)) else pure (ForInStep.yield cs)) = pure (closeGo env names cs)
  | [], cs, _ => rfl
  | (x, k) :: r, cs, h => by
    rw [List.forIn_cons]
    have ih := closureFor_go (env := env) r
    by_cases hk : k = .free
    · subst hk
      obtain ⟨c, hc⟩ := h (x, .free) List.mem_cons_self rfl
      have e1 : cellOf env x = pure c := by unfold cellOf; rw [hc]
      simp only [beq_self_eq_true, if_true, closeGo, e1, hc, Option.getD_some, pure_bind]
      exact ih _ fun p hp => h p (List.mem_cons_of_mem _ hp)
    · have hb : (k == NameKind.free) = false := by simpa using hk
      simp only [hb, Bool.false_eq_true, if_false, closeGo, pure_bind]
      exact ih _ fun p hp => h p (List.mem_cons_of_mem _ hp)
theorem closureFor_eq {env : Env} {scope : Scope} (h : ∀ p ∈ scope.names, p.2 = .free → ∃ c, env.cells.lookup p.1 = some c) : closureFor scope env = pure (closeGo env scope.names []) := by
  have e := closureFor_go (env := env) scope.names [] h
  unfold closureFor
  refine Eq.trans (b := (forIn (m := Sem) scope.names [] fun (x : Str × NameKind) cs => if (x.2 == NameKind.free) = true then do
      let a ← cellOf env x.1
      pure (ForInStep.yield ((x.1, a) :: cs)) else pure (ForInStep.yield cs)) >>= pure) rfl ?_
  rw [e]
  rfl
theorem closeGo_lookup {env : Env} {x : Str} : ∀ (names : List (Str × NameKind)) (cs : List (Str × Addr)), (∀ p ∈ names, p.2 = .free → ∃ c, env.cells.lookup p.1 = some c) →
    (closeGo env names cs).lookup x = if (x, NameKind.free) ∈ names then env.cells.lookup x else cs.lookup x
  | [], cs, _ => by simp [closeGo]
  | (y, k) :: r, cs, h => by
    rw [closeGo, closeGo_lookup r _ fun p hp => h p (List.mem_cons_of_mem _ hp)]
    by_cases hm : (x, NameKind.free) ∈ r
    · rw [if_pos hm, if_pos (List.mem_cons_of_mem _ hm)]
    · rw [if_neg hm]
      by_cases hk : k = .free
      · subst hk
        obtain ⟨c, hc⟩ := h (y, .free) List.mem_cons_self rfl
        by_cases hx : x = y
        · subst hx
          rw [if_pos List.mem_cons_self]
          simp [List.lookup_cons, hc]
        · have nm : ¬ (x, NameKind.free) ∈ (y, NameKind.free) :: r := fun z => by
            rcases List.mem_cons.mp z with e | e
            · exact hx (by injection e)
            · exact hm e
          rw [if_neg nm]
          have hb : (x == y) = false := by simpa using hx
          simp [List.lookup_cons, hb]
      · have hb : (k == NameKind.free) = false := by simpa using hk
        have nm : ¬ (x, NameKind.free) ∈ (y, k) :: r := fun z => by
          rcases List.mem_cons.mp z with e | e
          · exact hk (by injection e with _ e2; exact e2.symm)
          · exact hm e
        rw [if_neg nm]
        simp [hb]
theorem codeAny_compLoop_go {prog : Program} {w : World} {A : Around} {R : Result → Shared → Prop} {s : Shared} {elt target iter : Expr} {ifs : List Expr} {scope : Scope} {pos : Pos} {it acc : Value} {env : Env} (I : Nat → Shared → Prop)
    (turn : ∀ n s, I n s → wpAny (model prog w) A (pyNext it) (fun r s₁ => match r with
      | none => R (.ok .next) s₁
      | some v => wpAny (model prog w) A (letOwnedTupleGo target it v) (fun _ s₁' => wpAny (model prog w) A (assign target env v) (fun _ s₂ =>
          wpAny (model prog w) A (forIn ifs true fun c r => if r = true then do let ok ← isTrue c env (eval c env); pure (ForInStep.yield ok) else pure (ForInStep.yield r)) (fun ok s₃ =>
            if ok = true then wpAny (model prog w) A (eval elt env) (fun x s₄ =>
              wpAny (model prog w) A (call (.builtin "list.append") [acc, x]) (fun _ s₅ => ∃ m, m < n ∧ I m s₅) (notedBy (model prog w) A env fun e s' => R (.error e) s') s₄) (notedBy (model prog w) A env fun e s' => R (.error e) s') s₃
            else ∃ m, m < n ∧ I m s₃) (notedBy (model prog w) A env fun e s' => R (.error e) s') s₂) (notedBy (model prog w) A env fun e s' => R (.error e) s') s₁') (notedBy (model prog w) A env fun e s' => R (.error e) s') s₁) (notedBy (model prog w) A env fun e s' => R (.error e) s') s)
    (n : Nat) (h : I n s) : codeAny (model prog w) A (.compLoop (.ListComp elt [⟨target, iter, ifs, 0⟩] scope pos) 0 it acc env) R s := by
  refine codeAny_loop rfl I (fun n s hI => ?_) n h
  show wpAny _ A ((compTurn (.ListComp elt [⟨target, iter, ifs, 0⟩] scope pos) 0 it acc env).onRaise (fun x => do noteFrame x env; theTreesLotGoes x)) _ _ s
  refine wpAny_noted ?_
  rw [compTurn_list]
  refine wpAny_bind (wpAny_standAt (wpAny_bind (wpAny_mono (turn n s hI) (fun r s₁ h₁ => ?_) fun _ _ h' => h')))
  cases r with
  | none => exact wpAny_pure h₁
  | some v =>
    refine wpAny_bind (wpAny_mono h₁ (fun _ s₁' h₁' => ?_) fun _ _ h' => h')
    refine wpAny_bind (wpAny_mono h₁' (fun _ s₂ h₂ => wpAny_bind (wpAny_mono h₂ (fun ok s₃ h₃ => ?_) fun _ _ h' => h')) fun _ _ h' => h')
    cases ok with
    | false => exact wpAny_pure ⟨rfl, h₃⟩
    | true =>
      exact wpAny_bind (wpAny_bind (wpAny_mono h₃ (fun x s₄ h₄ => wpAny_bind (wpAny_mono h₄ (fun _ s₅ h₅ => wpAny_pure (wpAny_pure ⟨rfl, h₅⟩)) fun _ _ h' => h')) fun _ _ h' => h'))
abbrev cxB (X : Cx) (scope : Scope) (N : List Str) (cl : List (Str × Addr)) (C : Addr) (s : Shared) (H : Hp) (fp : List Addr) : Cx where
  prog := X.prog
  w := X.w
  K := X.K
  mg := X.mg
  base := X.base
  A := X.A
  N := N
  s₀ := s
  H₀ := H
  env := compEnvC scope cl C X.env
  outer := X.stack
  stack := X.stack
  ex := fp
  calm := X.calm
  fn := fun _ => false
  pn := []
  xe := fun _ _ => False
def blkS (nl : Nat) (caps : List Nat) (σ : St) : St := List.replicate nl none ++ caps.map fun j => σ.getD j none
def isCF : Option NameKind → Bool
  | some .cell => true
  | some .free => true
  | _ => false
structure CompSc (sc : Scope) (XN : List Str) (scope : Scope) (N : List Str) (nl : Nat) (caps : List Nat) : Prop where
  kind : scope.kind = .function
  nocell : ∀ x ∈ scope.names, x.2 ≠ .cell
  locs : ∀ x ∈ scope.names, x.2 = .local → scope.names.lookup x.1 = some .local
  free : ∀ x ∈ scope.names, x.2 = .free → isCF (sc.names.lookup x.1) = true
  len : N.length = nl + caps.length
  cap : ∀ k j, caps[k]? = some j → ∃ x, XN[j]? = some x ∧ N[nl + k]? = some x ∧ scope.names.lookup x = some .free ∧ isCF (sc.names.lookup x) = true
def compScB (sc : Scope) (XN : List Str) (scope : Scope) (N : List Str) (nl : Nat) (caps : List Nat) : Bool :=
  (scope.kind == .function) && scope.names.all (fun x => x.2 != .cell && (x.2 != .local || scope.names.lookup x.1 == some .local) && (x.2 != .free || isCF (sc.names.lookup x.1))) &&
  (N.length == nl + caps.length) && (caps.zipIdx.all fun jk => match XN[jk.1]? with
    | none => false
    | some x => N[nl + jk.2]? == some x && scope.names.lookup x == some .free && isCF (sc.names.lookup x))
theorem CompSc.of {sc : Scope} {XN : List Str} {scope : Scope} {N : List Str} {nl : Nat} {caps : List Nat} (h : compScB sc XN scope N nl caps = true) : CompSc sc XN scope N nl caps := by
  unfold compScB at h
  rw [Bool.and_eq_true, Bool.and_eq_true, Bool.and_eq_true] at h
  obtain ⟨⟨⟨h1, h2⟩, h3⟩, h4⟩ := h
  rw [List.all_eq_true] at h2 h4
  refine ⟨eq_of_beq h1, fun x hx => ?_, fun x hx e => ?_, fun x hx e => ?_, eq_of_beq h3, fun k j e => ?_⟩
  · have := h2 x hx
    rw [Bool.and_eq_true, Bool.and_eq_true] at this
    simpa using this.1.1
  · have := h2 x hx
    rw [Bool.and_eq_true, Bool.and_eq_true] at this
    have q := this.1.2
    rw [e] at q
    simpa using q
  · have := h2 x hx
    rw [Bool.and_eq_true, Bool.and_eq_true] at this
    have q := this.2
    rw [e] at q
    simpa using q
  · have m : (j, k) ∈ caps.zipIdx := by
      rw [List.mem_zipIdx_iff_getElem?]
      exact e
    have q := h4 _ m
    dsimp only at q
    split at q
    · cases q
    · rename_i x ex
      rw [Bool.and_eq_true, Bool.and_eq_true] at q
      exact ⟨x, ex, eq_of_beq q.1.1, eq_of_beq q.1.2, q.2⟩
theorem relabel_mem {scope : Scope} {env : Env} {x : Str} {k : NameKind} (h : (relabel scope env).names.lookup x = some k) : (x, k) ∈ scope.names ∨ (k = .cell ∧ (x, NameKind.free) ∈ scope.names) := by
  have m := PySem.mem_of_lookup h
  obtain ⟨⟨y, q⟩, hy, e⟩ := List.mem_map.mp m
  dsimp only at e
  split at e
  · rename_i hc
    injection e with e1 e2
    subst e1
    have hf : q = .free := by
      rw [Bool.and_eq_true, Bool.and_eq_true] at hc
      exact eq_of_beq hc.1.1
    subst hf
    exact .inr ⟨e2.symm, hy⟩
  · injection e with e1 e2
    subst e1; subst e2
    exact .inl hy
def tComp (wi : TI) (g : TG) (tc : TT) (te : TE) (nl : Nat) (caps : List Nat) : TE := fun σ H Q =>
  wi σ H fun J H1 => ∀ acc, H1 acc = none → ∃ W : Nat → Nat → St → Hp → Prop, (∃ m, W 0 m (blkS nl caps σ) (upd H1 acc (.lst []))) ∧
    ∀ i m σ' H', W i m σ' H' → (J.stop i H' ∧ Q (.ref acc) H') ∨
      (J.go i H' ∧ ∀ x H2, J.yld i H' x H2 → g x σ' H2 fun σ2 H3 => tc σ2 H3 fun b H4 =>
        if b = true then te σ2 H4 fun y H5 => ∃ ys, H5 acc = some (.lst ys) ∧ ys.length < sizeLine ∧ ∃ m', m' < m ∧ W (i + 1) m' σ2 (upd H5 acc (.lst (ys ++ [y])))
        else ∃ m', m' < m ∧ W (i + 1) m' σ2 H4)
section
variable {X : Cx} {elt target iter : Expr} {ifs : List Expr} {scope : Scope} {pos : Pos} {N : List Str} {nl : Nat} {caps : List Nat} {wi : TI} {g : TG} {tc : TT} {te : TE}
def PTs (X : Cx) (ifs : List Expr) (t : TT) : Prop :=
  ∀ (pins : List (Addr × Obj)) (s : Shared) (σ : St) (H : Hp) (Q : Bool → Hp → Prop), Inv X pins σ H s → t σ H Q →
    wpAny (model X.prog X.w) X.A (forIn ifs true fun c r => if r = true then do let ok ← isTrue c X.env (eval c X.env); pure (ForInStep.yield ok) else pure (ForInStep.yield r)) (TP X pins σ Q) X.xe s
def tYes : TT := fun _ H Q => Q true H
theorem pts_nil : PTs X [] tYes := fun _ _ _ H _ I h => wpAny_tests_nil ⟨H, I, h⟩
theorem pts_one {c : Expr} {t : TT} (h : PT X c t) : PTs X [c] t := fun pins s σ H Q I hw => wpAny_tests_one (h pins s σ H Q I hw)
theorem inv_block {pins : List (Addr × Obj)} {σ : St} {H : Hp} {s s4 : Shared} {cl : List (Str × Addr)} {fp : List Addr} (S : CompSc X.env.scope X.N scope N nl caps) (I : Inv X pins σ H s)
    (hcl : ∀ x, cl.lookup x = if (x, NameKind.free) ∈ scope.names then X.env.cells.lookup x else none)
    (hf : ∀ b ∈ fp, FpOk X pins H b) (hlt : ∀ b ∈ fp, b < s.heap.objs.size) (hos : s4.os = s.os) (hg : s4.gens = s.gens) (hn : ∃ m, s4.heap.Ns s.heap.objs.size m) (hk : ∀ b o, s.heap.get? b = some o → s4.heap.get? b = some o) :
    Inv (cxB X scope N cl s.heap.objs.size s H fp) [] (blkS nl caps σ) H s4 := by
  have clX : ∀ x c, cl.lookup x = some c → X.env.cells.lookup x = some c := fun x c e => by
    rw [hcl] at e
    split at e
    · exact e
    · cases e
  refine ⟨⟨I.ok.mod, ?_, I.ok.glob, I.ok.blt, Nat.le_refl _, fun x y c h1 h2 => I.ok.inj x y c (clX x c h1) (clX y c h2), fun x hx => ?_, fun x c z => ?_, I.ok.hd, I.ok.frames, .inl rfl, fun b hb => ⟨Nat.ne_of_lt (hlt b hb), fun x c e => (hf b hb).2.2.2.2.1 x c (clX x c e)⟩, I.bs, Nat.le_trans I.ok.bsz I.sz, fun b o e hb => ?_, fun b hb hs => ?_, I.stack, I.stkFree⟩,
    hos, ?_, Un.kept hk, ?_, fun x c e => ?_, I.hok.fresh (Nat.le_refl _), fun x c e => I.freeC x c (clX x c e), fun p hp => absurd (show p ∈ ([] : List (Addr × Obj)) from hp) (by simp), I.hok.kept hk, ?_⟩
  · show (relabel scope X.env).kind = .function
    exact S.kind
  · have hx : (relabel scope X.env).names.lookup x = some .cell ∨ (relabel scope X.env).names.lookup x = some .free := hx
    have hm : (x, NameKind.free) ∈ scope.names := by
      rcases hx with h | h
      · rcases relabel_mem h with m | ⟨_, m⟩
        · exact absurd rfl (S.nocell _ m)
        · exact m
      · rcases relabel_mem h with m | ⟨e, _⟩
        · exact m
        · cases e
    have hq := S.free _ hm rfl
    have hc : ∃ c, X.env.cells.lookup x = some c := by
      apply I.ok.has x
      show X.env.scope.names.lookup x = some .cell ∨ X.env.scope.names.lookup x = some .free
      cases e : X.env.scope.names.lookup x with
      | none => rw [e] at hq; cases hq
      | some k =>
        rw [e] at hq
        cases k <;> first
          | exact .inl rfl
          | exact .inr rfl
          | cases hq
    obtain ⟨c, e⟩ := hc
    exact ⟨c, by show cl.lookup x = some c; rw [hcl, if_pos hm]; exact e⟩
  · cases z
  · rcases (hf b hb).2.2.2.1 with z | z
    · exact I.ok.noex b o e z
    · exact absurd (Nat.lt_of_lt_of_le (Heap.lt_size (I.ok.bs b o e).1) z) (Nat.lt_irrefl _)
  · rcases List.mem_cons.mp (I.stkSub b hs) with z | z
    · exact (hf b hb).2.1 z
    · exact (hf b hb).2.2.1 z
  · rw [hg]; exact I.bare
  · obtain ⟨m, hn⟩ := hn
    refine ⟨m, hn, fun i x v h1 h2 h3 => ?_⟩
    have hN : N[i]? = some x := h1
    unfold blkS at h2
    by_cases hi : i < nl
    · rw [List.getElem?_append_left (by simpa using hi), List.getElem?_replicate, if_pos hi] at h2
      cases h2
    · rw [List.getElem?_append_right (by simpa using hi), List.length_replicate, List.getElem?_map] at h2
      cases e : caps[i - nl]? with
      | none => rw [e] at h2; cases h2
      | some j =>
        rw [e] at h2
        have h2 : σ.getD j none = some v := Option.some.inj h2
        obtain ⟨y, e1, e2, e3', e5⟩ := S.cap _ _ e
        have e3 : (y, NameKind.free) ∈ scope.names := PySem.mem_of_lookup e3'
        have e4 : Vis X.env.scope y := by
          cases q : X.env.scope.names.lookup y with
          | none => rw [q] at e5; cases e5
          | some k =>
            rw [q] at e5
            cases k <;> first
              | exact .inr (.inl q)
              | exact .inr (.inr q)
              | cases e5
        have ei : nl + (i - nl) = i := by omega
        rw [ei, hN] at e2
        cases e2
        have hs : σ[j]? = some (some v) := by
          rw [List.getD_eq_getElem?_getD] at h2
          cases q : σ[j]? with
          | none => rw [q] at h2; cases h2
          | some o => rw [q] at h2; exact congrArg some h2
        obtain ⟨m0, _, hl⟩ := I.loc
        obtain ⟨u, r, l⟩ := hl j x v e1 hs e4
        refine ⟨u, r, .inr ⟨?_, ?_⟩⟩
        · show (relabel scope X.env).names.lookup x = some .cell ∨ (relabel scope X.env).names.lookup x = some .free
          rcases h3 with h3 | h3 | h3
          · have h3 : (relabel scope X.env).names.lookup x = some .local := h3
            rcases relabel_mem h3 with z | ⟨z, _⟩
            · have z2 : scope.names.lookup x = some .local := S.locs _ z rfl
              rw [z2] at e3'; cases e3'
            · cases z
          · exact .inl h3
          · exact .inr h3
        · have hq : X.env.scope.names.lookup x ≠ some .local := fun z => by rw [z] at e5; cases e5
          rcases l with ⟨z, _⟩ | ⟨_, c, z1, z2⟩
          · exact absurd z hq
          · refine ⟨c, ?_, z2.keeps hk⟩
            show cl.lookup x = some c
            rw [hcl, if_pos e3]; exact z1
  · obtain ⟨v, z⟩ := I.cell x c (clX x c e)
    exact ⟨v, z.keeps hk⟩
  · show (blkS nl caps σ).length = N.length
    unfold blkS
    rw [List.length_append, List.length_replicate, List.length_map, S.len]
theorem inv_unblock {pins : List (Addr × Obj)} {σ σ' : St} {H H' : Hp} {s s' : Shared} {cl : List (Str × Addr)} {fp : List Addr} {h' : Heap} (I : Inv X pins σ H s) (hf : ∀ b ∈ fp, FpOk X pins H b)
    (J : Inv (cxB X scope N cl s.heap.objs.size s H fp) [] σ' H' s') (hs : Heap.SameBut s.heap.objs.size s'.heap h') : Inv X pins σ H' { s' with heap := h' } := by
  have ne : ∀ b o, s.heap.get? b = some o → b ≠ s.heap.objs.size := fun b o e => Nat.ne_of_lt (Heap.lt_size e)
  have u : Un (frs X.stack) fp H H' s.heap s'.heap := J.base
  have fr : H' s.heap.objs.size = none := J.free
  refine I.call' (ch := fp) (s' := { s' with heap := h' }) J.os ⟨fun b o e n hb hx => (hs.2 b (ne b o e)).trans (u.keep b o e n hb hx), fun b o e n hb hx => ?_, u.free, fun b o e hx => ?_, u.tups, u.frzs, u.tbls⟩ (fun b o e => ?_) J.bare fun b hb => ?_
  · obtain ⟨sl, q⟩ := u.slot b o e n hb hx
    exact ⟨sl, (hs.2 b (ne b o e)).trans q⟩
  · obtain ⟨o', q⟩ := u.there b o e hx
    exact ⟨o', (hs.2 b (ne b o e)).trans q⟩
  · refine (J.hok b o e).stay (fun c v hc q => (hs.2 c ?_).trans q) (fun _ q => q) fun _ _ q => q
    rintro rfl
    rcases hc with z | z
    · rw [← z, fr] at e; cases e
    · rw [fr] at z; cases z
  · obtain ⟨_, f1, _, f3, f4, f5⟩ := hf b hb
    exact ⟨f3, f1, f4, f5⟩
theorem comp_core {pins : List (Addr × Obj)} {σ : St} {s2 : Shared} {H2 : Hp} {it : Addr} {fp : List Addr} {tn : Nat → Heap → Prop} {J : It} {E : Value → Shared → Prop} {Q : Hp → Prop} {W : Nat → Nat → St → Hp → Prop} {m0 : Nat}
    (S : CompSc X.env.scope X.N scope N nl caps) (hc : X.calm = true) (I2 : Inv X pins σ H2 s2) (T : Turn X.prog X.w X.K target J fp it tn) (st2 : tn 0 s2.heap) (f2 : ∀ b ∈ fp, FpOk X pins H2 b)
    (hg : ∀ cl C s H fp, PG (cxB X scope N cl C s H fp) target g) (ht : ∀ cl C s H fp, PTs (cxB X scope N cl C s H fp) ifs tc) (he : ∀ cl C s H fp, PE (cxB X scope N cl C s H fp) elt te)
    (w0 : W 0 m0 (blkS nl caps σ) (upd H2 s2.heap.objs.size (.lst [])))
    (turn : ∀ i m σ' H', W i m σ' H' → (J.stop i H' ∧ Q H') ∨
      (J.go i H' ∧ ∀ x H3, J.yld i H' x H3 → g x σ' H3 fun σ2 H4 => tc σ2 H4 fun b H5 =>
        if b = true then te σ2 H5 fun y H6 => ∃ ys, H6 s2.heap.objs.size = some (.lst ys) ∧ ys.length < sizeLine ∧ ∃ m', m' < m ∧ W (i + 1) m' σ2 (upd H6 s2.heap.objs.size (.lst (ys ++ [y])))
        else ∃ m', m' < m ∧ W (i + 1) m' σ2 H5))
    (RR : Value → Addr → Result → Shared → Prop)
    (hRR : ∀ (C : Addr) s' H', (∃ m, s'.heap.Ns C m) → FpOk X pins H' C → (∀ h', Heap.SameBut C s'.heap h' → Inv X pins σ H' { s' with heap := h' }) → Q H' → RR (.ref s2.heap.objs.size) C (.ok .next) s') :
    wpAny (model X.prog X.w) X.A (newList []) (fun acc s₃ => wpAny (model X.prog X.w) X.A (newFunctionEnv scope X.env.globals (closeGo X.env scope.names []) [] X.env.qual none .none (some X.env)) (fun cenv s₄ =>
      codeAny (model X.prog X.w) X.A (.compStart (.ListComp elt [⟨target, iter, ifs, 0⟩] scope pos) 0 (.ref it) acc { cenv with scope := relabel scope X.env }) (RR acc cenv.locals) s₄) E s₃) E s2 := by
  have hfree : ∀ p ∈ scope.names, p.2 = .free → ∃ c, X.env.cells.lookup p.1 = some c := fun p hp e => by
    have q := S.free p hp e
    apply I2.ok.has p.1
    show X.env.scope.names.lookup p.1 = some .cell ∨ X.env.scope.names.lookup p.1 = some .free
    cases e2 : X.env.scope.names.lookup p.1 with
    | none => rw [e2] at q; cases q
    | some k =>
      rw [e2] at q
      cases k <;> first
        | exact .inl rfl
        | exact .inr rfl
        | cases q
  have hcl : ∀ x, (closeGo X.env scope.names []).lookup x = if (x, NameKind.free) ∈ scope.names then X.env.cells.lookup x else none := fun x => closeGo_lookup scope.names [] hfree
  have hacc : H2 s2.heap.objs.size = none := I2.hok.fresh (Nat.le_refl _)
  refine wpAny_newObj_type (wpAny_newFunctionEnv S.nocell (by intro y hy; simp at hy) (fun h₁ hns₁ hsb₁ => ?_) S.kind)
  dsimp only at hns₁ hsb₁ ⊢
  have I3 : Inv X pins σ (upd H2 s2.heap.objs.size (.lst [])) { s2 with heap := s2.heap.push { cls := .type "list", dict := none, data := .seq ([] : List Value).toArray } } := I2.lnew (its := []) (ys := []) (t' := s2.toks) .nil (Nat.zero_le _)
  generalize hs3 : ({ s2 with heap := s2.heap.push { cls := .type "list", dict := none, data := .seq ([] : List Value).toArray } } : Shared) = s3 at I3
  have hh3 : s2.heap.push { cls := .type "list", dict := none, data := .seq ([] : List Value).toArray } = s3.heap := by rw [← hs3]
  rw [hh3] at hns₁ hsb₁ ⊢
  have old3 : ∀ b o, s2.heap.get? b = some o → s3.heap.get? b = some o := fun b o e => by rw [← hh3]; exact Heap.get?_push_of_some _ e
  have size3 : s3.heap.objs.size = s2.heap.objs.size + 1 := by rw [← hh3, Heap.size_push]
  have keep4 : ∀ b o, s3.heap.get? b = some o → h₁.get? b = some o := fun b o e => hsb₁.extBut b o (Nat.ne_of_lt (Heap.lt_size e)) (Heap.get?_push_of_some _ e)
  have hlt2 : ∀ b ∈ fp, b < s2.heap.objs.size := fun b hb => by
    obtain ⟨o, e, _⟩ := T.obj 0 _ st2 b hb
    exact Heap.lt_size e
  have f3 : ∀ b ∈ fp, FpOk X pins (upd H2 s2.heap.objs.size (.lst [])) b := fun b hb => by
    obtain ⟨a0, a1⟩ := f2 b hb
    exact ⟨by rw [upd_ne (Nat.ne_of_lt (hlt2 b hb))]; exact a0, a1⟩
  have hlt3 : ∀ b ∈ fp, b < s3.heap.objs.size := fun b hb => by rw [size3]; exact Nat.lt_succ_of_lt (hlt2 b hb)
  have loop : ∀ s4 : Shared, s4 = { s3 with heap := h₁, toks := s2.toks + ([] : List (Str × Value)).length } →
      codeAny (model X.prog X.w) X.A (.compLoop (.ListComp elt [⟨target, iter, ifs, 0⟩] scope pos) 0 (.ref it) (.ref s2.heap.objs.size) (compEnvC scope (closeGo X.env scope.names []) s3.heap.objs.size X.env))
        (RR (.ref s2.heap.objs.size) s3.heap.objs.size) s4 := by
    intro s4 hs4
    have I4 : Inv (cxB X scope N (closeGo X.env scope.names []) s3.heap.objs.size s3 (upd H2 s2.heap.objs.size (.lst [])) fp) [] (blkS nl caps σ) (upd H2 s2.heap.objs.size (.lst [])) s4 :=
      inv_block S I3 hcl f3 hlt3 (by rw [hs4]) (by rw [hs4]) ⟨_, by rw [hs4]; exact hns₁⟩ (by rw [hs4]; exact keep4)
    have st4 : tn 0 s4.heap := T.keep 0 _ _ st2 fun b hb o e => by rw [hs4]; exact keep4 b o (old3 b o e)
    generalize hX : cxB X scope N (closeGo X.env scope.names []) s3.heap.objs.size s3 (upd H2 s2.heap.objs.size (.lst [])) fp = B at I4
    have stat : ∀ {H' : Hp}, (∀ b ∈ fp, H' b = none) → ∀ b ∈ fp, FpOk B [] H' b := fun {H'} hn b hb => by
      subst hX
      obtain ⟨a0, a1, a2, a3, a4, a5⟩ := f3 b hb
      refine ⟨hn b hb, Nat.ne_of_lt (hlt3 b hb), fun z => ?_, .inl hb, fun x c e => ?_, fun p hp => absurd (show p ∈ ([] : List (Addr × Obj)) from hp) (by simp)⟩
      · rcases List.mem_cons.mp (I3.stkSub b z) with q | q
        · exact a1 q
        · exact a2 q
      · have e : (closeGo X.env scope.names []).lookup x = some c := e
        rw [hcl] at e
        split at e
        · exact a4 x c e
        · cases e
    have hgB : PG B target g := by subst hX; exact hg _ _ _ _ _
    have htB : PTs B ifs tc := by subst hX; exact ht _ _ _ _ _
    have heB : PE B elt te := by subst hX; exact he _ _ _ _ _
    have eP : B.prog = X.prog := by subst hX; rfl
    have ew : B.w = X.w := by subst hX; rfl
    have eK : B.K = X.K := by subst hX; rfl
    have eA : B.A = X.A := by subst hX; rfl
    have eE : B.env = compEnvC scope (closeGo X.env scope.names []) s3.heap.objs.size X.env := by subst hX; rfl
    have ecalm : B.calm = true := by subst hX; exact hc
    have exe : B.xe = fun _ _ => False := by subst hX; rfl
    rw [← eP, ← ew, ← eA, ← eE]
    refine codeAny_compLoop_go (fun n s' => ∃ i σ' H', Inv B [] σ' H' s' ∧ tn i s'.heap ∧ (∀ b ∈ fp, H' b = none) ∧ W i n σ' H') ?_ m0 ⟨0, _, _, I4, st4, fun b hb => (f3 b hb).1, w0⟩
    rintro n s5 ⟨i, σ5, H5, I5, st5, fr5, w5⟩
    have away : ∀ {α : Type} {t : Sem α} {Qa : α → Shared → Prop} {Ea : Value → Shared → Prop} {sa : Shared}, wpAny (model B.prog B.w) B.A t Qa B.xe sa → wpAny (model B.prog B.w) B.A t Qa Ea sa := fun h => wpAny_mono h (fun _ _ q => q) fun e s' z => by rw [exe] at z; exact z.elim
    rcases turn i n σ5 H5 w5 with ⟨stop, q⟩ | ⟨go, step⟩
    · have d := T.done B eP ew eK ecalm i [] s5 σ5 H5 (notedBy (model B.prog B.w) B.A B.env fun e s' => RR (.ref s2.heap.objs.size) s3.heap.objs.size (.error e) s') I5 (stat fr5) st5 stop
      rw [← eP, ← ew] at d
      refine thn d fun r s6 ⟨hr, I6⟩ => ?_
      subst hr
      refine hRR _ s6 H5 ?_ (I3.fpOk (Nat.le_refl _) ?_) (fun h' hs' => ?_) q
      · obtain ⟨m, hn, _⟩ := I6.loc
        rw [eE] at hn
        exact ⟨m, hn⟩
      · have z := I6.free
        rw [eE] at z
        exact z
      · subst hX
        exact inv_unblock I3 f3 I6 hs'
    · have d := T.item B eP ew eK ecalm i [] s5 σ5 H5 (notedBy (model B.prog B.w) B.A B.env fun e s' => RR (.ref s2.heap.objs.size) s3.heap.objs.size (.error e) s') I5 (stat fr5) st5 go
      rw [← eP, ← ew] at d
      refine thn d fun r s6 ⟨u, hr, h6⟩ => ?_
      subst hr
      refine thn h6 fun _ s7 ⟨x, H7, I7, r7, y7, st7, fr7⟩ => ?_
      have I7' := I7.pinned (stat fr7) (T.obj _ _ st7)
      refine away (thn (hgB _ s7 σ5 H7 x u _ I7' r7 (step x H7 y7)) fun _ s8 ⟨σ8, H8, I8, q8⟩ => ?_)
      refine away (thn (htB _ s8 σ8 H8 _ I8 q8) fun b s9 ⟨H9, I9, q9⟩ => ?_)
      have again : ∀ {σa : St} {Ha : Hp} {sa : Shared}, Inv B ([] ++ pinsAt fp s7.heap) σa Ha sa → (∃ m', m' < n ∧ W (i + 1) m' σa Ha) → ∃ m, m < n ∧ ∃ i σ' H', Inv B [] σ' H' sa ∧ tn i sa.heap ∧ (∀ b ∈ fp, H' b = none) ∧ W i m σ' H' := fun {σa Ha sa} Ia ⟨m', hm, wa⟩ => by
        refine ⟨m', hm, i + 1, σa, Ha, Ia.unpinned, T.keep _ _ _ st7 fun b hb o e => (Ia.pin (b, o) (List.mem_append_right _ (List.mem_append_right _ (mem_pinsAt hb e)))).1, fun b hb => ?_, wa⟩
        obtain ⟨o, e, d⟩ := T.obj _ _ st7 b hb
        exact (Ia.pin (b, o) (List.mem_append_right _ (List.mem_append_right _ (mem_pinsAt hb e)))).2.1
      cases b with
      | false => exact again I9 q9
      | true =>
        show wpAny _ _ (eval elt B.env) _ _ s9
        refine away (thn (heB _ s9 σ8 H9 _ I9 q9) fun yv s10 ⟨y, H10, I10, ry, ys, ha, hz, q10⟩ => ?_)
        refine away (thn (mt_append _ s10 σ8 H10 (.ref s2.heap.objs.size) [y] (.ref s2.heap.objs.size) [yv] (fun _ H11 => H11 = upd H10 s2.heap.objs.size (.lst (ys ++ [y]))) I10 rfl (.cons ry .nil) ⟨_, ys, y, rfl, rfl, ha, hz, rfl⟩) fun _ s11 ⟨z, H11, I11, _, e11⟩ => ?_)
        subst e11
        exact again I11 q10
  exact codeAny_compStart_list (loop _ (by rw [← hs3])) (T.self X.A 0 _ _ _ (T.keep 0 _ _ st2 fun b hb o e => keep4 b o (old3 b o e)) (loop _ (by rw [← hs3])))
theorem hfree_of {pins : List (Addr × Obj)} {σ : St} {s : Shared} {H : Hp} (S : CompSc X.env.scope X.N scope N nl caps) (I : Inv X pins σ H s) : ∀ p ∈ scope.names, p.2 = .free → ∃ c, X.env.cells.lookup p.1 = some c := fun p hp e => by
  have q := S.free p hp e
  apply I.ok.has p.1
  show X.env.scope.names.lookup p.1 = some .cell ∨ X.env.scope.names.lookup p.1 = some .free
  cases e2 : X.env.scope.names.lookup p.1 with
  | none => rw [e2] at q; cases q
  | some k =>
    rw [e2] at q
    cases k <;> first
      | exact .inl rfl
      | exact .inr rfl
      | cases q
theorem pe_comp (S : CompSc X.env.scope X.N scope N nl caps) (hc : X.calm = true) (hi : PI X target iter wi)
    (hg : ∀ cl C s H fp, PG (cxB X scope N cl C s H fp) target g) (ht : ∀ cl C s H fp, PTs (cxB X scope N cl C s H fp) ifs tc) (he : ∀ cl C s H fp, PE (cxB X scope N cl C s H fp) elt te)
    (hs : ∀ x, foldedSetIterable iter X.env x = pure x := by intro _; rfl) : PE X (.ListComp elt [⟨target, iter, ifs, 0⟩] scope pos) (tComp wi g tc te nl caps) := by
  intro pins s σ H Q I h
  rw [eval_ListComp]
  refine wpAny_comprehension_free (use := none) rfl hs (closureFor_eq (hfree_of S I)) S.kind S.locs ?_
  refine thn (hi pins s σ H _ I h) fun v s1 h1 => thn h1 fun itv s2 h2 => ?_
  obtain ⟨it, fp, tn, J, H2, e, I2, T, st2, f2, k⟩ := h2
  subst e
  obtain ⟨W, ⟨m0, w0⟩, turn⟩ := k s2.heap.objs.size (I2.hok.fresh (Nat.le_refl _))
  refine comp_core (Q := fun H' => Q (.ref s2.heap.objs.size) H') S hc I2 T st2 f2 hg ht he w0 turn (fun acc C => compPost (model X.prog X.w) X.A X.xe none (EP X pins σ Q) acc C) ?_
  intro C s' H' hn _ hI q
  obtain ⟨m, hn⟩ := hn
  exact ⟨m, hn, fun h' hs' => ⟨.ref s2.heap.objs.size, H', hI h' hs', rfl, q⟩⟩
theorem ps_comp {i : Nat} {y : Str} {py spos : Pos} (S : CompSc X.env.scope X.N scope N nl caps) (hc : X.calm = true) (hN : X.N.Nodup) (hy : X.N[i]? = some y) (hl : X.env.kindOf y = some .local) (hi : PI X target iter wi)
    (hg : ∀ cl C s H fp, PG (cxB X scope N cl C s H fp) target g) (ht : ∀ cl C s H fp, PTs (cxB X scope N cl C s H fp) ifs tc) (he : ∀ cl C s H fp, PE (cxB X scope N cl C s H fp) elt te)
    (hsw : swapsWith (.ListComp elt [⟨target, iter, ifs, 0⟩] scope pos) (some (.Name y py)) spos.line X.env = pure true := by rfl)
    (hs : ∀ x, foldedSetIterable iter X.env x = pure x := by intro _; rfl) : PS X (.Assign [.Name y py] (.ListComp elt [⟨target, iter, ifs, 0⟩] scope pos) spos) (tAsg (tComp wi g tc te nl caps) (gName i)) := by
  intro pins s σ H De I h
  rw [exec_Assign_Name_used _ _ _ _ hsw]
  refine wpAny_bind (wpAny_standAt (wpAny_bind ?_))
  show wpAny _ X.A (do let _ ← comprehension (.ListComp elt [⟨target, iter, ifs, 0⟩] scope pos) scope X.env _ (newList []) false (eval iter X.env) (some (assign (.Name y py) X.env))) _ _ s
  refine wpAny_bind (wpAny_mono (wpAny_comprehension_free (use := some (assign (.Name y py) X.env)) (Q := fun _ s' => SP X pins De .next s') rfl hs (closureFor_eq (hfree_of S I)) S.kind S.locs ?_) (fun _ s' hq => wpAny_pure (wpAny_pure hq)) fun _ _ e => e)
  refine thn (hi pins s σ H _ I h) fun v s1 h1 => thn h1 fun itv s2 h2 => ?_
  obtain ⟨it, fp, tn, J, H2, e, I2, T, st2, f2, k⟩ := h2
  subst e
  obtain ⟨W, ⟨m0, w0⟩, turn⟩ := k s2.heap.objs.size (I2.hok.fresh (Nat.le_refl _))
  refine comp_core (Q := fun H' => De.nx (σ.set i (some (.ref s2.heap.objs.size))) H') S hc I2 T st2 f2 hg ht he w0 turn (fun acc C => compPost (model X.prog X.w) X.A X.xe (some (assign (.Name y py) X.env)) (fun _ s' => SP X pins De .next s') acc C) ?_
  intro C s' H' hn hC hI q
  obtain ⟨m, hn⟩ := hn
  show wpAny _ X.A (assign (.Name y py) X.env (.ref s2.heap.objs.size)) _ _ s'
  have I' : Inv X pins σ H' s' := hI s'.heap (Heap.SameBut.refl _ _)
  refine wpAny_assign_Name (store_ok2 (v := .ref s2.heap.objs.size) I' hN hy (.inl hl) (show RelV (V.ref _) _ from rfl) (fun s'' I'' hsb => ?_) (.inr hl))
  obtain ⟨a, hsa, ha⟩ := hsb
  obtain ⟨c0, c1, c2, c3, c4, c5⟩ := hC
  have nCa : C ≠ a := by
    rcases ha with z | z
    · rw [z]; exact c1
    · exact fun w => c4 y a z w.symm
  refine ⟨m, hn.sameBut hsa nCa, fun h' hs' => ?_⟩
  exact ⟨_, H', I''.turned (t' := s''.toks) (it := C) (fun b o hb e => (hs'.2 b hb).trans e) c0 c1 c3 c4 c5, q⟩
end
end L2
set_option Elab.async false
set_option linter.all false
namespace L3
open PySem L2
inductive D where
  | non | bl (b : Bool) | int (i : Int) | str (x : Str)
  | tup (xs : List D) | lst (xs : List D) | scr (xs : List D)
  | dK (ks : List Key) (xs : List D) | dT (ks : List (List Key)) (xs : List D)
  | ins (c : Str) (ns : List Str) (xs : List D)
  | exo (c : Str)
  | ktp (xs : List D)
def Sub (G H : Hp) : Prop := ∀ b o, G b = some o → H b = some o
theorem Sub.refl (G : Hp) : Sub G G := fun _ _ e => e
theorem Sub.trans {G H I : Hp} (a : Sub G H) (b : Sub H I) : Sub G I := fun c o e => b c o (a c o e)
theorem Sub.gone {G H : Hp} (a : Sub G H) {b : Addr} (h : H b = none) : G b = none := by
  cases e : G b with
  | none => rfl
  | some o => rw [a b o e] at h; cases h
theorem Sub.upd {G : Hp} {a : Addr} {o : HO} (h : G a = none) : Sub G (upd G a o) := fun b u e => by
  rw [upd_ne (ne_of_none e h)]; exact e
theorem Sub.upd2 {G H : Hp} {a : Addr} {o : HO} (s : Sub G H) (h : G a = none) : Sub G (L2.upd H a o) := fun b u e => by
  rw [upd_ne (ne_of_none e h)]; exact s b u e
theorem Sub.both {G H : Hp} {a : Addr} {o : HO} (s : Sub G H) : Sub (L2.upd G a o) (L2.upd H a o) := fun b u e => by
  by_cases hb : b = a
  · subst hb; rw [upd_same] at e ⊢; exact e
  · rw [upd_ne hb] at e ⊢; exact s b u e
theorem Sub.at {G H : Hp} {a : Addr} {o : HO} (s : Sub G H) (h : H a = some o) : Sub (L2.upd G a o) H := fun b u e => by
  by_cases hb : b = a
  · subst hb; rw [upd_same] at e; rw [h]; exact e
  · rw [upd_ne hb] at e; exact s b u e
structure Up (G H G' H' : Hp) : Prop where
  g : Sub G G'
  h : Sub H H'
  n : ∀ b, H b ≠ none → G' b = G b
theorem Sub.some {G H : Hp} (s : Sub G H) {b : Addr} (h : G b ≠ none) : H b ≠ none := fun z => h (s.gone z)
theorem Up.refl (G H : Hp) : Up G H G H := ⟨Sub.refl _, Sub.refl _, fun _ _ => rfl⟩
theorem Up.trans {G H G1 H1 G2 H2 : Hp} (a : Up G H G1 H1) (b : Up G1 H1 G2 H2) : Up G H G2 H2 := ⟨a.g.trans b.g, a.h.trans b.h, fun c hc => (b.n c (a.h.some hc)).trans (a.n c hc)⟩
theorem Up.lay {G H : Hp} {p : Addr} {o : HO} (s : Sub G H) (hp : H p = none) : Up G H (L2.upd G p o) (L2.upd H p o) := ⟨Sub.upd (s.gone hp), Sub.upd hp, fun b hb => by
  rw [upd_ne]
  intro e; subst e; exact hb hp⟩
theorem Up.lay0 {G H : Hp} {p : Addr} {o : HO} (hp : H p = none) : Up G H G (L2.upd H p o) := ⟨Sub.refl _, Sub.upd hp, fun _ _ => rfl⟩
theorem Up.put {G H G' H' : Hp} {p : Addr} {o : HO} (u : Up G H G' H') (hp : H p = none) (hg : G' p = none) : Up G H (L2.upd G' p o) H' := ⟨u.g.trans (Sub.upd hg), u.h, fun b hb => by
  rw [upd_ne]
  · exact u.n b hb
  · intro e; subst e; exact hb hp⟩
theorem Rd.mono {G H : Hp} (s : Sub G H) {a : Addr} {u : HO} (r : Rd G a u) : Rd H a u := by
  rcases r with r | ⟨o, r⟩
  · exact .inl (s _ _ r)
  · exact .inr ⟨o, s _ _ r⟩
theorem SqL.mono {K : PySem.W.Frag} {G H : Hp} (s : Sub G H) {a : Addr} {xs : List V} (r : SqL K G a xs) : SqL K H a xs := by
  rcases r with r | r
  · exact .inl (Rd.mono s r)
  · exact .inr r
theorem SqT.mono {K : PySem.W.Frag} {G H : Hp} (s : Sub G H) {a : Addr} {xs : List V} (r : SqT K G a xs) : SqT K H a xs := by
  rcases r with r | r
  · exact .inl (Rd.mono s r)
  · exact .inr r
def ClsN (K : PySem.W.Frag) (c : Str) (C : Addr) : Prop := PySem.W.nsIn K mainGlobals c = some (some (.ref C))
mutual
def At (K : PySem.W.Frag) (G : Hp) : D → V → Prop
  | .non, v => v = .non
  | .bl b, v => v = .bl b
  | .int i, v => v = .int i
  | .str x, v => v = .str x
  | .tup ds, v => ∃ a xs, v = .ref a ∧ G a = some (.tup xs) ∧ AtL K G ds xs
  | .ktp ds, v => ∃ a xs, v = .ref a ∧ SqT K G a xs ∧ AtL K G ds xs
  | .lst ds, v => ∃ a xs, v = .ref a ∧ G a = some (.lst xs) ∧ AtL K G ds xs
  | .scr ds, v => ∃ a xs, v = .ref a ∧ SqL K G a xs ∧ AtL K G ds xs
  | .dK ks ds, v => ∃ a xs, v = .ref a ∧ G a = some (.dK xs) ∧ xs.map (·.1) = ks ∧ AtL K G ds (xs.map (·.2))
  | .dT ks ds, v => ∃ a xs, v = .ref a ∧ G a = some (.dT xs) ∧ xs.map (·.1) = ks ∧ AtL K G ds (xs.map (·.2))
  | .ins c ns ds, v => ∃ a dx xs, v = .ref a ∧ (∃ C, ClsN K c C ∧ G a = some (.ins C dx xs)) ∧ xs.map (·.1) = ns ∧ AtL K G ds (xs.map (·.2))
  | .exo c, v => ∃ (a : Addr) (xs : List V), v = .ref a ∧ (∃ C, ClsN K c C ∧ G a = some (excO a (.ref C))) ∧ xs = []
def AtL (K : PySem.W.Frag) (G : Hp) : List D → List V → Prop
  | [], vs => vs = []
  | d :: ds, vs => ∃ v r, vs = v :: r ∧ At K G d v ∧ AtL K G ds r
end
mutual
theorem At.mono {K : PySem.W.Frag} {G H : Hp} (s : Sub G H) : ∀ {d : D} {v : V}, At K G d v → At K H d v
  | .non, _, h => by simpa only [At] using h
  | .bl _, _, h => by simpa only [At] using h
  | .int _, _, h => by simpa only [At] using h
  | .str _, _, h => by simpa only [At] using h
  | .tup _, _, h => by
    simp only [At] at h ⊢
    obtain ⟨a, xs, e, q, r⟩ := h
    exact ⟨a, xs, e, s _ _ q, AtL.mono s r⟩
  | .ktp _, _, h => by
    simp only [At] at h ⊢
    obtain ⟨a, xs, e, q, r⟩ := h
    exact ⟨a, xs, e, SqT.mono s q, AtL.mono s r⟩
  | .lst _, _, h => by
    simp only [At] at h ⊢
    obtain ⟨a, xs, e, q, r⟩ := h
    exact ⟨a, xs, e, s _ _ q, AtL.mono s r⟩
  | .scr _, _, h => by
    simp only [At] at h ⊢
    obtain ⟨a, xs, e, q, r⟩ := h
    exact ⟨a, xs, e, SqL.mono s q, AtL.mono s r⟩
  | .dK _ _, _, h => by
    simp only [At] at h ⊢
    obtain ⟨a, xs, e, q, k, r⟩ := h
    exact ⟨a, xs, e, s _ _ q, k, AtL.mono s r⟩
  | .dT _ _, _, h => by
    simp only [At] at h ⊢
    obtain ⟨a, xs, e, q, k, r⟩ := h
    exact ⟨a, xs, e, s _ _ q, k, AtL.mono s r⟩
  | .ins _ _ _, _, h => by
    simp only [At] at h ⊢
    obtain ⟨a, dx, xs, e, ⟨C, c1, q⟩, k, r⟩ := h
    exact ⟨a, dx, xs, e, ⟨C, c1, s _ _ q⟩, k, AtL.mono s r⟩
  | .exo _, _, h => by
    simp only [At] at h ⊢
    obtain ⟨a, xs, e, ⟨C, c1, q⟩, r⟩ := h
    exact ⟨a, xs, e, ⟨C, c1, s _ _ q⟩, r⟩
theorem AtL.mono {K : PySem.W.Frag} {G H : Hp} (s : Sub G H) : ∀ {ds : List D} {vs : List V}, AtL K G ds vs → AtL K H ds vs
  | [], _, h => by simpa only [AtL] using h
  | _ :: _, _, h => by
    simp only [AtL] at h ⊢
    obtain ⟨v, r, e, q, t⟩ := h
    exact ⟨v, r, e, At.mono s q, AtL.mono s t⟩
end
section
variable {K : PySem.W.Frag} {G : Hp}
theorem AtL.nil : AtL K G [] [] := by simp only [AtL]
theorem AtL.cons {d : D} {ds : List D} {v : V} {vs : List V} (h : At K G d v) (t : AtL K G ds vs) : AtL K G (d :: ds) (v :: vs) := by
  simp only [AtL]; exact ⟨v, vs, rfl, h, t⟩
theorem AtL.length : ∀ {ds : List D} {vs : List V}, AtL K G ds vs → ds.length = vs.length
  | [], _, h => by simp only [AtL] at h; subst h; rfl
  | _ :: _, _, h => by
    simp only [AtL] at h
    obtain ⟨v, r, rfl, _, t⟩ := h
    simp [AtL.length t]
theorem AtL.get : ∀ {ds : List D} {vs : List V} {i : Nat} {d : D}, AtL K G ds vs → ds[i]? = some d → ∃ v, vs[i]? = some v ∧ At K G d v
  | [], _, _, _, _, e => by simp at e
  | _ :: _, _, 0, _, h, e => by
    simp only [AtL] at h
    obtain ⟨v, r, rfl, q, t⟩ := h
    simp at e; subst e
    exact ⟨v, by simp, q⟩
  | _ :: _, _, i + 1, d, h, e => by
    simp only [AtL] at h
    obtain ⟨v, r, rfl, q, t⟩ := h
    obtain ⟨u, h1, h2⟩ := AtL.get (i := i) (d := d) t (by simpa using e)
    exact ⟨u, by simpa using h1, h2⟩
theorem AtL.getV {ds : List D} {vs : List V} {i : Nat} {v : V} (h : AtL K G ds vs) (e : vs[i]? = some v) : ∃ d, ds[i]? = some d ∧ At K G d v := by
  have hi : i < ds.length := by rw [h.length]; exact (List.getElem?_eq_some_iff.mp e).1
  obtain ⟨u, h1, h2⟩ := h.get (List.getElem?_eq_getElem hi)
  rw [e] at h1; cases h1
  exact ⟨_, List.getElem?_eq_getElem hi, h2⟩
theorem AtL.append : ∀ {ds es : List D} {vs ws : List V}, AtL K G ds vs → AtL K G es ws → AtL K G (ds ++ es) (vs ++ ws)
  | [], _, _, _, h, t => by simp only [AtL] at h; subst h; exact t
  | _ :: _, _, _, _, h, t => by
    simp only [AtL] at h
    obtain ⟨v, r, rfl, q, s⟩ := h
    exact .cons q (AtL.append s t)
theorem AtL.take : ∀ (n : Nat) {ds : List D} {vs : List V}, AtL K G ds vs → AtL K G (ds.take n) (vs.take n)
  | 0, _, _, _ => by simpa using AtL.nil
  | _ + 1, [], _, h => by simp only [AtL] at h; subst h; simpa using AtL.nil
  | n + 1, _ :: _, _, h => by
    simp only [AtL] at h
    obtain ⟨v, r, rfl, q, t⟩ := h
    exact .cons q (AtL.take n t)
theorem AtL.drop : ∀ (n : Nat) {ds : List D} {vs : List V}, AtL K G ds vs → AtL K G (ds.drop n) (vs.drop n)
  | 0, _, _, h => by simpa using h
  | _ + 1, [], _, h => by simp only [AtL] at h; subst h; simpa using AtL.nil
  | n + 1, _ :: _, _, h => by
    simp only [AtL] at h
    obtain ⟨v, r, rfl, q, t⟩ := h
    simpa using AtL.drop n t
theorem AtL.snoc {ds : List D} {vs : List V} {d : D} {v : V} (h : AtL K G ds vs) (q : At K G d v) : AtL K G (ds ++ [d]) (vs ++ [v]) := h.append (.cons q .nil)
end
inductive R (α : Type) where
  | ok (a : α) | exc (c : Str) | bad
namespace R
def bind {α β : Type} : R α → (α → R β) → R β
  | .ok a, k => k a
  | .exc c, _ => .exc c
  | .bad, _ => .bad
def map {α β : Type} (f : α → β) (r : R α) : R β := r.bind fun a => .ok (f a)
theorem bind_ok {α β : Type} (a : α) (k : α → R β) : (R.ok a).bind k = k a := rfl
end R
inductive T where
  | fz (d : D) | lst (ts : List T) | dK (ks : List Key) (ts : List T) | dT (ks : List (List Key)) (ts : List T) | ins (c : Str) (ns : List Str) (ts : List T)
mutual
def toD : T → D
  | .fz d => d
  | .lst ts => .lst (toDL ts)
  | .dK ks ts => .dK ks (toDL ts)
  | .dT ks ts => .dT ks (toDL ts)
  | .ins c ns ts => .ins c ns (toDL ts)
def toDL : List T → List D
  | [] => []
  | t :: ts => toD t :: toDL ts
end
mutual
def fp (H : Hp) : T → V → List Addr
  | .fz _, _ => []
  | .lst ts, v => match v with
    | .ref a => match H a with
      | some (.lst xs) => a :: fpL H ts xs
      | _ => []
    | _ => []
  | .dK _ ts, v => match v with
    | .ref a => match H a with
      | some (.dK xs) => a :: fpL H ts (xs.map (·.2))
      | _ => []
    | _ => []
  | .dT _ ts, v => match v with
    | .ref a => match H a with
      | some (.dT xs) => a :: fpL H ts (xs.map (·.2))
      | _ => []
    | _ => []
  | .ins _ _ ts, v => match v with
    | .ref a => match H a with
      | some (.ins _ _ xs) => a :: fpL H ts (xs.map (·.2))
      | _ => []
    | _ => []
def fpL (H : Hp) : List T → List V → List Addr
  | [], _ => []
  | t :: ts, vs => match vs with
    | v :: r => fp H t v ++ fpL H ts r
    | [] => []
end
mutual
def TAt (K : PySem.W.Frag) (G H : Hp) : T → V → Prop
  | .fz d, v => At K G d v
  | .lst ts, v => ∃ a xs, v = .ref a ∧ H a = some (.lst xs) ∧ TAtL K G H ts xs
  | .dK ks ts, v => ∃ a xs, v = .ref a ∧ H a = some (.dK xs) ∧ xs.map (·.1) = ks ∧ TAtL K G H ts (xs.map (·.2))
  | .dT ks ts, v => ∃ a xs, v = .ref a ∧ H a = some (.dT xs) ∧ xs.map (·.1) = ks ∧ TAtL K G H ts (xs.map (·.2))
  | .ins c ns ts, v => ∃ a dx xs, v = .ref a ∧ (∃ C, ClsN K c C ∧ H a = some (.ins C dx xs)) ∧ xs.map (·.1) = ns ∧ TAtL K G H ts (xs.map (·.2))
def TAtL (K : PySem.W.Frag) (G H : Hp) : List T → List V → Prop
  | [], vs => vs = []
  | t :: ts, vs => ∃ v r, vs = v :: r ∧ TAt K G H t v ∧ TAtL K G H ts r
end
section
variable {K : PySem.W.Frag} {G G' H H' P : Hp}
theorem fp_lst {a : Addr} {xs : List V} {ts : List T} (q : H a = some (.lst xs)) : fp H (.lst ts) (.ref a) = a :: fpL H ts xs := by simp only [fp, q]
theorem fp_dK {a : Addr} {xs : List (Key × V)} {ks : List Key} {ts : List T} (q : H a = some (.dK xs)) : fp H (.dK ks ts) (.ref a) = a :: fpL H ts (xs.map (·.2)) := by simp only [fp, q]
theorem fp_dT {a : Addr} {xs : List (List Key × V)} {ks : List (List Key)} {ts : List T} (q : H a = some (.dT xs)) : fp H (.dT ks ts) (.ref a) = a :: fpL H ts (xs.map (·.2)) := by simp only [fp, q]
theorem fp_ins {a C : Addr} {dx} {xs : List (Str × V)} {c : Str} {ns : List Str} {ts : List T} (q : H a = some (.ins C dx xs)) : fp H (.ins c ns ts) (.ref a) = a :: fpL H ts (xs.map (·.2)) := by simp only [fp, q]
theorem fpL_cons {t : T} {ts : List T} {v : V} {r : List V} : fpL H (t :: ts) (v :: r) = fp H t v ++ fpL H ts r := by simp only [fpL]
mutual
theorem TAt.mono (sg : Sub G G') : ∀ {t : T} {v : V}, TAt K G H t v → TAt K G' H t v
  | .fz _, _, h => by simp only [TAt] at h ⊢; exact h.mono sg
  | .lst _, _, h => by
    simp only [TAt] at h ⊢
    obtain ⟨a, xs, e, q, r⟩ := h
    exact ⟨a, xs, e, q, TAtL.mono sg r⟩
  | .dK _ _, _, h => by
    simp only [TAt] at h ⊢
    obtain ⟨a, xs, e, q, n, r⟩ := h
    exact ⟨a, xs, e, q, n, TAtL.mono sg r⟩
  | .dT _ _, _, h => by
    simp only [TAt] at h ⊢
    obtain ⟨a, xs, e, q, n, r⟩ := h
    exact ⟨a, xs, e, q, n, TAtL.mono sg r⟩
  | .ins _ _ _, _, h => by
    simp only [TAt] at h ⊢
    obtain ⟨a, dx, xs, e, q, n, r⟩ := h
    exact ⟨a, dx, xs, e, q, n, TAtL.mono sg r⟩
theorem TAtL.mono (sg : Sub G G') : ∀ {ts : List T} {vs : List V}, TAtL K G H ts vs → TAtL K G' H ts vs
  | [], _, h => by simpa only [TAtL] using h
  | _ :: _, _, h => by
    simp only [TAtL] at h ⊢
    obtain ⟨v, r, e, q, t⟩ := h
    exact ⟨v, r, e, TAt.mono sg q, TAtL.mono sg t⟩
end
mutual
theorem TAt.keep : ∀ {t : T} {v : V}, (∀ b ∈ fp H t v, H' b = H b) → TAt K G H t v → TAt K G H' t v ∧ fp H' t v = fp H t v
  | .fz _, _, _, h => by
    simp only [TAt] at h
    exact ⟨by simp only [TAt]; exact h, by simp only [fp]⟩
  | .lst _, _, k, h => by
    simp only [TAt] at h
    obtain ⟨a, xs, rfl, q, r⟩ := h
    rw [fp_lst q] at k
    have qa : H' a = some (.lst xs) := (k a (by simp)).trans q
    obtain ⟨r1, r2⟩ := TAtL.keep (fun b hb => k b (List.mem_cons_of_mem _ hb)) r
    exact ⟨by simp only [TAt]; exact ⟨a, xs, rfl, qa, r1⟩, by rw [fp_lst qa, fp_lst q, r2]⟩
  | .dK _ _, _, k, h => by
    simp only [TAt] at h
    obtain ⟨a, xs, rfl, q, n, r⟩ := h
    rw [fp_dK q] at k
    have qa : H' a = some (.dK xs) := (k a (by simp)).trans q
    obtain ⟨r1, r2⟩ := TAtL.keep (fun b hb => k b (List.mem_cons_of_mem _ hb)) r
    exact ⟨by simp only [TAt]; exact ⟨a, xs, rfl, qa, n, r1⟩, by rw [fp_dK qa, fp_dK q, r2]⟩
  | .dT _ _, _, k, h => by
    simp only [TAt] at h
    obtain ⟨a, xs, rfl, q, n, r⟩ := h
    rw [fp_dT q] at k
    have qa : H' a = some (.dT xs) := (k a (by simp)).trans q
    obtain ⟨r1, r2⟩ := TAtL.keep (fun b hb => k b (List.mem_cons_of_mem _ hb)) r
    exact ⟨by simp only [TAt]; exact ⟨a, xs, rfl, qa, n, r1⟩, by rw [fp_dT qa, fp_dT q, r2]⟩
  | .ins _ _ _, _, k, h => by
    simp only [TAt] at h
    obtain ⟨a, dx, xs, rfl, ⟨C, c1, q⟩, n, r⟩ := h
    rw [fp_ins q] at k
    have qa : H' a = some (.ins C dx xs) := (k a (by simp)).trans q
    obtain ⟨r1, r2⟩ := TAtL.keep (fun b hb => k b (List.mem_cons_of_mem _ hb)) r
    exact ⟨by simp only [TAt]; exact ⟨a, dx, xs, rfl, ⟨C, c1, qa⟩, n, r1⟩, by rw [fp_ins qa, fp_ins q, r2]⟩
theorem TAtL.keep : ∀ {ts : List T} {vs : List V}, (∀ b ∈ fpL H ts vs, H' b = H b) → TAtL K G H ts vs → TAtL K G H' ts vs ∧ fpL H' ts vs = fpL H ts vs
  | [], _, _, h => ⟨by simpa only [TAtL] using h, by simp only [fpL]⟩
  | _ :: _, _, k, h => by
    simp only [TAtL] at h
    obtain ⟨v, r, rfl, q, t⟩ := h
    rw [fpL_cons] at k
    obtain ⟨q1, q2⟩ := TAt.keep (fun b hb => k b (List.mem_append_left _ hb)) q
    obtain ⟨t1, t2⟩ := TAtL.keep (fun b hb => k b (List.mem_append_right _ hb)) t
    exact ⟨by simp only [TAtL]; exact ⟨v, r, rfl, q1, t1⟩, by rw [fpL_cons, fpL_cons, q2, t2]⟩
end
mutual
theorem TAt.some : ∀ {t : T} {v : V}, TAt K G H t v → ∀ b ∈ fp H t v, H b ≠ none
  | .fz _, _, _ => by intro b hb; simp [fp] at hb
  | .lst _, _, h => by
    simp only [TAt] at h
    obtain ⟨a, xs, rfl, q, r⟩ := h
    rw [fp_lst q]
    intro b hb
    rcases List.mem_cons.mp hb with rfl | hb
    · rw [q]; exact fun z => nomatch z
    · exact TAtL.some r b hb
  | .dK _ _, _, h => by
    simp only [TAt] at h
    obtain ⟨a, xs, rfl, q, n, r⟩ := h
    rw [fp_dK q]
    intro b hb
    rcases List.mem_cons.mp hb with rfl | hb
    · rw [q]; exact fun z => nomatch z
    · exact TAtL.some r b hb
  | .dT _ _, _, h => by
    simp only [TAt] at h
    obtain ⟨a, xs, rfl, q, n, r⟩ := h
    rw [fp_dT q]
    intro b hb
    rcases List.mem_cons.mp hb with rfl | hb
    · rw [q]; exact fun z => nomatch z
    · exact TAtL.some r b hb
  | .ins _ _ _, _, h => by
    simp only [TAt] at h
    obtain ⟨a, dx, xs, rfl, ⟨C, c1, q⟩, n, r⟩ := h
    rw [fp_ins q]
    intro b hb
    rcases List.mem_cons.mp hb with rfl | hb
    · rw [q]; exact fun z => nomatch z
    · exact TAtL.some r b hb
theorem TAtL.some : ∀ {ts : List T} {vs : List V}, TAtL K G H ts vs → ∀ b ∈ fpL H ts vs, H b ≠ none
  | [], _, _ => by intro b hb; simp [fpL] at hb
  | _ :: _, _, h => by
    simp only [TAtL] at h
    obtain ⟨v, r, rfl, q, t⟩ := h
    rw [fpL_cons]
    intro b hb
    rcases List.mem_append.mp hb with hb | hb
    · exact TAt.some q b hb
    · exact TAtL.some t b hb
end
mutual
theorem TAt.view (sg : Sub G P) : ∀ {t : T} {v : V}, (∀ a ∈ fp H t v, P a = H a) → TAt K G H t v → At K P (toD t) v
  | .fz _, _, _, h => by
    simp only [TAt, toD] at h ⊢
    exact h.mono sg
  | .lst _, _, k, h => by
    simp only [TAt] at h
    obtain ⟨a, xs, rfl, q, r⟩ := h
    rw [fp_lst q] at k
    simp only [toD, At]
    exact ⟨a, xs, rfl, by rw [k a (by simp)]; exact q, TAtL.view sg (fun b hb => k b (List.mem_cons_of_mem _ hb)) r⟩
  | .dK _ _, _, k, h => by
    simp only [TAt] at h
    obtain ⟨a, xs, rfl, q, n, r⟩ := h
    rw [fp_dK q] at k
    simp only [toD, At]
    exact ⟨a, xs, rfl, by rw [k a (by simp)]; exact q, n, TAtL.view sg (fun b hb => k b (List.mem_cons_of_mem _ hb)) r⟩
  | .dT _ _, _, k, h => by
    simp only [TAt] at h
    obtain ⟨a, xs, rfl, q, n, r⟩ := h
    rw [fp_dT q] at k
    simp only [toD, At]
    exact ⟨a, xs, rfl, by rw [k a (by simp)]; exact q, n, TAtL.view sg (fun b hb => k b (List.mem_cons_of_mem _ hb)) r⟩
  | .ins _ _ _, _, k, h => by
    simp only [TAt] at h
    obtain ⟨a, dx, xs, rfl, ⟨C, c1, q⟩, n, r⟩ := h
    rw [fp_ins q] at k
    simp only [toD, At]
    exact ⟨a, dx, xs, rfl, ⟨C, c1, by rw [k a (by simp)]; exact q⟩, n, TAtL.view sg (fun b hb => k b (List.mem_cons_of_mem _ hb)) r⟩
theorem TAtL.view (sg : Sub G P) : ∀ {ts : List T} {vs : List V}, (∀ a ∈ fpL H ts vs, P a = H a) → TAtL K G H ts vs → AtL K P (toDL ts) vs
  | [], _, _, h => by simp only [TAtL, toDL, AtL] at h ⊢; exact h
  | _ :: _, _, k, h => by
    simp only [TAtL] at h
    obtain ⟨v, r, rfl, q, t⟩ := h
    rw [fpL_cons] at k
    simp only [toDL, AtL]
    exact ⟨v, r, rfl, TAt.view sg (fun b hb => k b (List.mem_append_left _ hb)) q, TAtL.view sg (fun b hb => k b (List.mem_append_right _ hb)) t⟩
end
end
inductive Ob where
  | lst (ds : List D) | dT (ks : List (List Key)) (ds : List D) | ins (c : Str) (ns : List Str) (ds : List D)
def ObAt (K : PySem.W.Frag) (G : Hp) : Ob → HO → Prop
  | .lst ds, ho => ∃ xs, ho = .lst xs ∧ AtL K G ds xs
  | .dT ks ds, ho => ∃ xs, ho = .dT xs ∧ xs.map (·.1) = ks ∧ AtL K G ds (xs.map (·.2))
  | .ins c ns ds, ho => ∃ C dx xs, ClsN K c C ∧ ho = .ins C dx xs ∧ xs.map (·.1) = ns ∧ AtL K G ds (xs.map (·.2))
theorem ObAt.mono {K : PySem.W.Frag} {G H : Hp} (s : Sub G H) : ∀ {o : Ob} {ho : HO}, ObAt K G o ho → ObAt K H o ho
  | .lst _, _, ⟨xs, e, q⟩ => ⟨xs, e, q.mono s⟩
  | .dT _ _, _, ⟨xs, e, k, q⟩ => ⟨xs, e, k, q.mono s⟩
  | .ins _ _ _, _, ⟨C, dx, xs, c, e, k, q⟩ => ⟨C, dx, xs, c, e, k, q.mono s⟩
def obD : Ob → D
  | .lst ds => .lst ds
  | .dT ks ds => .dT ks ds
  | .ins c ns ds => .ins c ns ds
theorem ObAt.at {K : PySem.W.Frag} {G : Hp} {o : Ob} {ho : HO} {a : Addr} (h : ObAt K G o ho) (e : G a = some ho) : At K G (obD o) (.ref a) := by
  cases o with
  | lst ds => obtain ⟨xs, rfl, q⟩ := h; simp only [obD, At]; exact ⟨a, xs, rfl, e, q⟩
  | dT ks ds => obtain ⟨xs, rfl, k, q⟩ := h; simp only [obD, At]; exact ⟨a, xs, rfl, e, k, q⟩
  | ins c ns ds => obtain ⟨C, dx, xs, c1, rfl, k, q⟩ := h; simp only [obD, At]; exact ⟨a, dx, xs, rfl, ⟨C, c1, e⟩, k, q⟩
inductive Sl where
  | un | fz (d : D) | ob (o : Ob) | tr (t : T)
abbrev Sl.ow (ds : List D) : Sl := .ob (.lst ds)
abbrev Rho := List Sl
structure Fx where
  K : PySem.W.Frag
  G0 : Hp
  H0 : Hp
  EX : Str → Hp → Prop
structure Kp (F : Fx) (G H : Hp) : Prop where
  sub : Sub G H
  gg : Sub F.G0 G
  hh : Sub F.H0 H
  new : ∀ b, F.H0 b ≠ none → G b = F.G0 b
structure TrOk (F : Fx) (G H : Hp) (t : T) (v : V) : Prop where
  at_ : TAt F.K G H t v
  nd : (fp H t v).Nodup
  own : ∀ b ∈ fp H t v, G b = none ∧ F.H0 b = none
def SlOk (F : Fx) (G H : Hp) (o : Option V) : Sl → Prop
  | .un => True
  | .fz d => ∃ v, o = some v ∧ At F.K G d v
  | .ob ob => ∃ a ho, o = some (.ref a) ∧ H a = some ho ∧ G a = none ∧ F.H0 a = none ∧ ObAt F.K G ob ho
  | .tr t => ∃ v, o = some v ∧ TrOk F G H t v
def Foot (H : Hp) : Sl → Option V → Addr → Prop
  | .un, _, _ => False
  | .fz _, _, _ => False
  | .ob _, o, a => o = some (.ref a)
  | .tr t, o, a => ∃ v, o = some v ∧ a ∈ fp H t v
structure Rel (F : Fx) (G H : Hp) (σ : St) (ρ : Rho) : Prop where
  kp : Kp F G H
  len : σ.length = ρ.length
  sl : ∀ (i : Nat) (s : Sl), ρ[i]? = some s → ∃ o, σ[i]? = some o ∧ SlOk F G H o s
  dj : ∀ (i j : Nat) (a : Addr) (s s' : Sl) (o o' : Option V), ρ[i]? = some s → ρ[j]? = some s' → σ[i]? = some o → σ[j]? = some o' → Foot H s o a → Foot H s' o' a → i = j
def OwnAt (H : Hp) (σ : St) (ρ : Rho) (a : Addr) : Prop := ∃ (i : Nat) (s : Sl) (o : Option V), ρ[i]? = some s ∧ σ[i]? = some o ∧ Foot H s o a
theorem set_self {α : Type} {l : List α} {i : Nat} {x : α} (e : l[i]? = some x) : l.set i x = l := by
  apply List.ext_getElem?
  intro j
  rw [List.getElem?_set]
  by_cases h : i = j
  · subst h
    rw [if_pos rfl, if_pos (List.getElem?_eq_some_iff.mp e).1]; exact e.symm
  · simp [h]
section
variable {F : Fx} {G G' H H' : Hp} {σ : St} {ρ : Rho}
theorem OwnAt.ob {a : Addr} {i : Nat} {o : Ob} (e1 : ρ[i]? = some (.ob o)) (e2 : σ[i]? = some (some (.ref a))) : OwnAt H σ ρ a := ⟨i, _, _, e1, e2, rfl⟩
theorem SlOk.keep {o : Option V} {s : Sl} (h : SlOk F G H o s) (sg : Sub G G') (k : ∀ a, Foot H s o a → H' a = H a ∧ G' a = none) : SlOk F G' H' o s ∧ (∀ a, Foot H' s o a → Foot H s o a) := by
  cases s with
  | un => exact ⟨trivial, fun _ z => z⟩
  | fz d => obtain ⟨v, e2, a⟩ := h; exact ⟨⟨v, e2, a.mono sg⟩, fun _ z => z⟩
  | ob ds =>
    obtain ⟨a, xs, e2, h1, h2, h3, h4⟩ := h
    exact ⟨⟨a, xs, e2, by rw [(k a e2).1]; exact h1, (k a e2).2, h3, h4.mono sg⟩, fun _ z => z⟩
  | tr t =>
    obtain ⟨v, e2, q1, q2, q3⟩ := h
    obtain ⟨w1, w2⟩ := q1.keep fun b hb => (k b ⟨v, e2, hb⟩).1
    refine ⟨⟨v, e2, ⟨w1.mono sg, by rw [w2]; exact q2, fun b hb => ?_⟩⟩, fun a z => ?_⟩
    · rw [w2] at hb; exact ⟨(k b ⟨v, e2, hb⟩).2, (q3 b hb).2⟩
    · obtain ⟨u, e3, hb⟩ := z
      rw [e2] at e3; cases e3
      rw [w2] at hb; exact ⟨v, e2, hb⟩
theorem SlOk.foot {o : Option V} {s : Sl} (h : SlOk F G H o s) {a : Addr} (f : Foot H s o a) : H a ≠ none ∧ G a = none ∧ F.H0 a = none := by
  cases s with
  | un => exact f.elim
  | fz d => exact f.elim
  | ob ds =>
    obtain ⟨b, xs, e2, h1, h2, h3, h4⟩ := h
    have f : o = some (.ref a) := f
    rw [e2] at f; cases f
    exact ⟨by rw [h1]; exact (fun z => nomatch z), h2, h3⟩
  | tr t =>
    obtain ⟨v, e2, q1, q2, q3⟩ := h
    obtain ⟨u, e3, hb⟩ := f
    rw [e2] at e3; cases e3
    exact ⟨q1.some a hb, q3 a hb⟩
theorem Rel.foot (r : Rel F G H σ ρ) {a : Addr} (h : OwnAt H σ ρ a) : H a ≠ none ∧ G a = none ∧ F.H0 a = none := by
  obtain ⟨i, s, o, e1, e2, f⟩ := h
  obtain ⟨o', e3, q⟩ := r.sl i s e1
  rw [e2] at e3; cases e3
  exact q.foot f
theorem Rel.over {F' : Fx} (r : Rel F G H σ ρ) (hK : F'.K = F.K) (kp : Kp F' G' H') (sg : Sub G G') (k : ∀ a, OwnAt H σ ρ a → H' a = H a ∧ G' a = none ∧ F'.H0 a = none) : Rel F' G' H' σ ρ := by
  have one : ∀ (i : Nat) (s : Sl), ρ[i]? = some s → ∃ o, σ[i]? = some o ∧ SlOk F' G' H' o s ∧ (∀ a, Foot H' s o a → Foot H s o a) := fun i s e => by
    obtain ⟨o, e1, q⟩ := r.sl i s e
    obtain ⟨q1, q2⟩ := q.keep sg fun a f => ⟨(k a ⟨i, s, o, e, e1, f⟩).1, (k a ⟨i, s, o, e, e1, f⟩).2.1⟩
    refine ⟨o, e1, ?_, q2⟩
    cases s with
    | un => trivial
    | fz d => obtain ⟨v, e2, a⟩ := q1; exact ⟨v, e2, by rw [hK]; exact a⟩
    | ob ds =>
      obtain ⟨a, xs, e2, h1, h2, h3, h4⟩ := q1
      exact ⟨a, xs, e2, h1, h2, (k a ⟨i, _, o, e, e1, e2⟩).2.2, by rw [hK]; exact h4⟩
    | tr t =>
      obtain ⟨v, e2, w1, w2, w3⟩ := q1
      exact ⟨v, e2, by rw [hK]; exact w1, w2, fun b hb => ⟨(w3 b hb).1, (k b ⟨i, _, o, e, e1, q2 b ⟨v, e2, hb⟩⟩).2.2⟩⟩
  refine ⟨kp, r.len, fun i s e => let ⟨o, e1, q, _⟩ := one i s e; ⟨o, e1, q⟩, fun i j a s s' o o' e1 e2 e3 e4 f1 f2 => ?_⟩
  obtain ⟨u, z1, _, z2⟩ := one i s e1
  rw [e3] at z1; cases z1
  obtain ⟨u, z3, _, z4⟩ := one j s' e2
  rw [e4] at z3; cases z3
  exact r.dj i j a s s' o o' e1 e2 e3 e4 (z2 a f1) (z4 a f2)
theorem Rel.grow (r : Rel F G H σ ρ) (sg : Sub G G') (sh : Sub G' H') (hh : Sub H H') (nw : ∀ b, H b ≠ none → G' b = G b) : Rel F G' H' σ ρ := by
  refine r.over rfl ⟨sh, r.kp.gg.trans sg, r.kp.hh.trans hh, fun b hb => ?_⟩ sg fun a ha => ?_
  · rw [nw b (r.kp.hh.some hb)]; exact r.kp.new b hb
  · obtain ⟨h1, h2, h3⟩ := r.foot ha
    refine ⟨?_, (nw a h1).trans h2, h3⟩
    cases e : H a with
    | none => exact absurd e h1
    | some o => exact hh a o e
theorem Rel.lay (r : Rel F G H σ ρ) {p : Addr} {o : HO} (hp : H p = none) : Rel F (upd G p o) (upd H p o) σ ρ := by
  have gp : G p = none := r.kp.sub.gone hp
  refine r.grow (Sub.upd gp) (Sub.both r.kp.sub) (Sub.upd hp) fun b hb => ?_
  rw [upd_ne]
  intro e; subst e; exact hb hp
theorem Rel.lay0 (r : Rel F G H σ ρ) {p : Addr} {o : HO} (hp : H p = none) : Rel F G (upd H p o) σ ρ :=
  r.grow (Sub.refl _) (Sub.upd2 r.kp.sub (r.kp.sub.gone hp)) (Sub.upd hp) fun _ _ => rfl
theorem Rel.take (r : Rel F G H σ ρ) {p : Addr} {o : HO} (hp : H p = some o) (hg : G p = none) (h0 : F.H0 p = none) (no : ¬ OwnAt H σ ρ p) : Rel F (upd G p o) H σ ρ := by
  refine r.over rfl ⟨Sub.at r.kp.sub hp, r.kp.gg.trans (Sub.upd hg), r.kp.hh, fun b hb => ?_⟩ (Sub.upd hg) fun a ha => ?_
  · rw [upd_ne]
    · exact r.kp.new b hb
    · intro e; subst e; exact hb h0
  · obtain ⟨h1, h2, h3⟩ := r.foot ha
    exact ⟨rfl, by rw [upd_ne (fun z => no (by rw [← z]; exact ha))]; exact h2, h3⟩
theorem Rel.fz (r : Rel F G H σ ρ) {i : Nat} {d : D} (e : ρ[i]? = some (.fz d)) : ∃ v, σ[i]? = some (some v) ∧ At F.K G d v := by
  obtain ⟨o, e1, v, rfl, a⟩ := r.sl i _ e
  exact ⟨v, e1, a⟩
theorem Rel.obj (r : Rel F G H σ ρ) {i : Nat} {o : Ob} (e : ρ[i]? = some (.ob o)) : ∃ a ho, σ[i]? = some (some (.ref a)) ∧ H a = some ho ∧ G a = none ∧ F.H0 a = none ∧ ObAt F.K G o ho := by
  obtain ⟨v, e1, a, ho, rfl, h1, h2, h3, h4⟩ := r.sl i _ e
  exact ⟨a, ho, e1, h1, h2, h3, h4⟩
theorem Rel.own {G H : Hp} {σ : St} {ρ : Rho} (r : Rel F G H σ ρ) {i : Nat} {ds : List D} (e : ρ[i]? = some (.ow ds)) : ∃ a xs, σ[i]? = some (some (.ref a)) ∧ H a = some (.lst xs) ∧ G a = none ∧ F.H0 a = none ∧ AtL F.K G ds xs := by
  obtain ⟨a, ho, e1, h1, h2, h3, xs, rfl, h4⟩ := r.obj e
  exact ⟨a, xs, e1, h1, h2, h3, h4⟩
theorem get_set {α : Type} {l : List α} {i j : Nat} {x y : α} (e : (l.set i x)[j]? = some y) : (i = j ∧ y = x) ∨ (i ≠ j ∧ l[j]? = some y) := by
  rw [List.getElem?_set] at e
  by_cases h : i = j
  · rw [if_pos h] at e
    split at e
    · cases e; exact .inl ⟨h, rfl⟩
    · cases e
  · rw [if_neg h] at e; exact .inr ⟨h, e⟩
theorem Rel.setS (r : Rel F G H σ ρ) {i : Nat} {s : Sl} {o : Option V} (hi : i < ρ.length) (q : SlOk F G H o s) (no : ∀ a, Foot H s o a → ∀ (j : Nat) (s' : Sl) (o' : Option V), j ≠ i → ρ[j]? = some s' → σ[j]? = some o' → ¬ Foot H s' o' a) : Rel F G H (σ.set i o) (ρ.set i s) := by
  have hs : i < σ.length := by rw [r.len]; exact hi
  refine ⟨r.kp, by simp [r.len], fun j s e => ?_, fun j k b s1 s2 o1 o2 e1 e2 e3 e4 f1 f2 => ?_⟩
  · rcases get_set e with ⟨rfl, rfl⟩ | ⟨ne, e⟩
    · exact ⟨o, by simp [hs], q⟩
    · rw [List.getElem?_set_ne ne]; exact r.sl j s e
  · rcases get_set e1 with ⟨i1, z1⟩ | ⟨n1, y1⟩
    · subst i1 z1
      rw [List.getElem?_set_self hs] at e3
      cases e3
      rcases get_set e2 with ⟨i2, z2⟩ | ⟨n2, y2⟩
      · exact i2
      · rw [List.getElem?_set_ne n2] at e4
        exact absurd f2 (no b f1 k s2 o2 (Ne.symm n2) y2 e4)
    · rw [List.getElem?_set_ne n1] at e3
      rcases get_set e2 with ⟨i2, z2⟩ | ⟨n2, y2⟩
      · subst i2 z2
        rw [List.getElem?_set_self hs] at e4
        cases e4
        exact absurd f1 (no b f2 j s1 o1 (Ne.symm n1) y1 e3)
      · rw [List.getElem?_set_ne n2] at e4
        exact r.dj j k b s1 s2 o1 o2 y1 y2 e3 e4 f1 f2
theorem Rel.set (r : Rel F G H σ ρ) {i : Nat} {d : D} {v : V} (hi : i < ρ.length) (a : At F.K G d v) : Rel F G H (σ.set i (some v)) (ρ.set i (.fz d)) :=
  r.setS hi ⟨v, rfl, a⟩ fun _ f => f.elim
theorem Rel.setB (r : Rel F G H σ ρ) {i : Nat} {ob : Ob} {a : Addr} {ho : HO} (hi : i < ρ.length) (ha : H a = some ho) (hg : G a = none) (h0 : F.H0 a = none) (q : ObAt F.K G ob ho)
    (no : ∀ (j : Nat) (s : Sl) (o : Option V), j ≠ i → ρ[j]? = some s → σ[j]? = some o → ¬ Foot H s o a) : Rel F G H (σ.set i (some (.ref a))) (ρ.set i (.ob ob)) :=
  r.setS hi ⟨a, ho, rfl, ha, hg, h0, q⟩ fun b f => by
    have f : some (V.ref a) = some (.ref b) := f
    cases f; exact no
theorem Rel.setO (r : Rel F G H σ ρ) {i : Nat} {ds : List D} {a : Addr} {xs : List V} (hi : i < ρ.length) (ha : H a = some (.lst xs)) (hg : G a = none) (h0 : F.H0 a = none) (q : AtL F.K G ds xs)
    (no : ∀ (j : Nat) (s : Sl) (o : Option V), j ≠ i → ρ[j]? = some s → σ[j]? = some o → ¬ Foot H s o a) : Rel F G H (σ.set i (some (.ref a))) (ρ.set i (.ow ds)) := r.setB hi ha hg h0 ⟨xs, rfl, q⟩ no
theorem Rel.mutS (r : Rel F G H σ ρ) {i : Nat} {s s' : Sl} {o : Option V} {a : Addr} {ho : HO} (e : ρ[i]? = some s) (ea : σ[i]? = some o) (fa : Foot H s o a) (q : SlOk F G (upd H a ho) o s') (f : ∀ b, Foot (upd H a ho) s' o b → Foot H s o b ∨ ¬ OwnAt H σ ρ b) :
    Rel F G (upd H a ho) σ (ρ.set i s') := by
  have hi : i < ρ.length := (List.getElem?_eq_some_iff.mp e).1
  obtain ⟨h1, h2, h3⟩ := r.foot ⟨i, s, o, e, ea, fa⟩
  have oth : ∀ (j : Nat) (t : Sl), i ≠ j → ρ[j]? = some t → ∃ u, σ[j]? = some u ∧ SlOk F G (upd H a ho) u t ∧ (∀ b, Foot (upd H a ho) t u b → Foot H t u b) := fun j t ne z => by
    obtain ⟨u, z1, z2⟩ := r.sl j t z
    have na : ¬ Foot H t u a := fun w => ne (r.dj i j a s t o u e z ea z1 fa w)
    obtain ⟨q1, q2⟩ := z2.keep (H' := upd H a ho) (Sub.refl G) fun b fb => ⟨upd_ne fun w => na (w ▸ fb), (z2.foot fb).2.1⟩
    exact ⟨u, z1, q1, q2⟩
  refine ⟨⟨Sub.upd2 r.kp.sub h2, r.kp.gg, fun c u z => ?_, r.kp.new⟩, by simp [r.len], fun j t z => ?_, fun j k c s1 s2 o1 o2 e3 e4 e5 e6 f1 f2 => ?_⟩
  · rw [upd_ne (ne_of_none z h3)]; exact r.kp.hh c u z
  · rcases get_set z with ⟨rfl, rfl⟩ | ⟨ne, z⟩
    · exact ⟨o, ea, q⟩
    · obtain ⟨u, z1, z2, _⟩ := oth j t ne z
      exact ⟨u, z1, z2⟩
  · rcases get_set e3 with ⟨i1, z1⟩ | ⟨n1, x3⟩
    · subst i1 z1
      rw [ea] at e5; cases e5
      rcases get_set e4 with ⟨i2, z2⟩ | ⟨n2, x4⟩
      · exact i2
      · obtain ⟨u, y1, _, y2⟩ := oth k s2 n2 x4
        rw [e6] at y1; cases y1
        have g2 := y2 c f2
        rcases f c f1 with g1 | g1
        · exact r.dj i k c s s2 o o2 e x4 ea e6 g1 g2
        · exact absurd ⟨k, s2, o2, x4, e6, g2⟩ g1
    · obtain ⟨u, y1, _, y2⟩ := oth j s1 n1 x3
      rw [e5] at y1; cases y1
      have g1 := y2 c f1
      rcases get_set e4 with ⟨i2, z2⟩ | ⟨n2, x4⟩
      · subst i2 z2
        rw [ea] at e6; cases e6
        rcases f c f2 with g2 | g2
        · exact r.dj j i c s1 s o1 o x3 e e5 ea g1 g2
        · exact absurd ⟨j, s1, o1, x3, e5, g1⟩ g2
      · obtain ⟨u, y3, _, y4⟩ := oth k s2 n2 x4
        rw [e6] at y3; cases y3
        exact r.dj j k c s1 s2 o1 o2 x3 x4 e5 e6 g1 (y4 c f2)
theorem Rel.mutB (r : Rel F G H σ ρ) {i : Nat} {o o' : Ob} {a : Addr} {ho : HO} (e : ρ[i]? = some (.ob o)) (ea : σ[i]? = some (some (.ref a))) (q : ObAt F.K G o' ho) :
    Rel F G (upd H a ho) σ (ρ.set i (.ob o')) := by
  obtain ⟨b, ho1, e1, h1, h2, h3, h4⟩ := r.obj e
  rw [ea] at e1
  have eb : b = a := by cases e1; rfl
  subst eb
  exact r.mutS e ea rfl ⟨b, ho, rfl, upd_same, h2, h3, q⟩ fun c f => .inl f
theorem Rel.mut (r : Rel F G H σ ρ) {i : Nat} {ds ds' : List D} {a : Addr} {ys : List V} (e : ρ[i]? = some (.ow ds)) (ea : σ[i]? = some (some (.ref a))) (q : AtL F.K G ds' ys) :
    Rel F G (upd H a (.lst ys)) σ (ρ.set i (.ow ds')) := r.mutB e ea ⟨ys, rfl, q⟩
theorem Rel.frz (r : Rel F G H σ ρ) {i : Nat} {o : Ob} (e : ρ[i]? = some (.ob o)) : ∃ G', Rel F G' H σ (ρ.set i (.fz (obD o))) ∧ Sub G G' := by
  have hi : i < ρ.length := (List.getElem?_eq_some_iff.mp e).1
  obtain ⟨a, ho, e1, h1, h2, h3, h4⟩ := r.obj e
  have un : Rel F G H σ (ρ.set i .un) := by
    have z := r.setS (s := .un) (o := some (.ref a)) hi trivial fun _ f => f.elim
    rw [L3.set_self e1] at z; exact z
  have no : ¬ OwnAt H σ (ρ.set i .un) a := fun ⟨j, s, u, y1, y2, y3⟩ => by
    rcases get_set y1 with ⟨_, z⟩ | ⟨ne, y1⟩
    · subst z; exact y3
    · exact ne (r.dj i j a _ s _ u e y1 e1 y2 rfl y3)
  have r2 := un.take h1 h2 h3 no
  have r3 := r2.setS (i := i) (s := .fz (obD o)) (o := some (.ref a)) (by simpa using hi) ⟨.ref a, rfl, (h4.mono (Sub.upd h2)).at upd_same⟩ fun _ f => f.elim
  rw [L3.set_self e1, List.set_set] at r3
  exact ⟨upd G a ho, r3, Sub.upd h2⟩
end
end L3
set_option Elab.async false
set_option linter.all false
namespace L3
open PySem L2
abbrev ME := Rho → R D
abbrev MT := Rho → R Bool
abbrev MA := Rho → R (List D)
inductive Fl where
  | nx (ρ : Rho) | rt (d : D) | ro (ds : List D) | bk (ρ : Rho) | ct (ρ : Rho) | rn (t : T)
abbrev MS := Rho → R Fl
def kX (F : Fx) (c : Str) : Prop := ∀ G' H', Kp F G' H' → F.EX c H'
def kE (F : Fx) (G H : Hp) (σ : St) (ρ : Rho) (Q : VK) : R D → Prop
  | .ok d => ∀ v H' G', Rel F G' H' σ ρ → Up G H G' H' → At F.K G' d v → Q v H'
  | .exc c => kX F c
  | .bad => False
def kT (F : Fx) (G H : Hp) (σ : St) (ρ : Rho) (Q : Bool → Hp → Prop) : R Bool → Prop
  | .ok b => ∀ H' G', Rel F G' H' σ ρ → Up G H G' H' → Q b H'
  | .exc c => kX F c
  | .bad => False
def kA (F : Fx) (G H : Hp) (σ : St) (ρ : Rho) (Q : List V → Hp → Prop) : R (List D) → Prop
  | .ok ds => ∀ vs H' G', Rel F G' H' σ ρ → Up G H G' H' → AtL F.K G' ds vs → Q vs H'
  | .exc c => kX F c
  | .bad => False
def kO (F : Fx) (G H : Hp) (σ : St) (ρ : Rho) (Q : VK) : R (List D) → Prop
  | .ok ds => ∀ a xs H' G', Rel F G' H' σ ρ → Up G H G' H' → H a = none → H' a = some (.lst xs) → G' a = none → AtL F.K G' ds xs → Q (.ref a) H'
  | .exc c => kX F c
  | .bad => False
def kS (F : Fx) (G : Hp) (De : Ends) : R Fl → Prop
  | .ok (.nx ρ') => ∀ σ' G' H', Rel F G' H' σ' ρ' → Sub G G' → De.nx σ' H'
  | .ok (.bk ρ') => ∀ σ' G' H', Rel F G' H' σ' ρ' → Sub G G' → De.bk σ' H'
  | .ok (.ct ρ') => ∀ σ' G' H', Rel F G' H' σ' ρ' → Sub G G' → De.ct σ' H'
  | .ok (.rt d) => ∀ v G' H', Kp F G' H' → At F.K G' d v → De.rt v H'
  | .ok (.ro ds) => ∀ a xs G' H', Kp F G' H' → G' a = none → F.H0 a = none → H' a = some (.lst xs) → AtL F.K G' ds xs → De.rt (.ref a) H'
  | .ok (.rn t) => ∀ v G' H', Kp F G' H' → TrOk F G' H' t v → De.rt v H'
  | .exc c => kX F c
  | .bad => False
def tE (F : Fx) (m : ME) : TE := fun σ H Q => ∃ G ρ, Rel F G H σ ρ ∧ kE F G H σ ρ Q (m ρ)
def tT (F : Fx) (m : MT) : TT := fun σ H Q => ∃ G ρ, Rel F G H σ ρ ∧ kT F G H σ ρ Q (m ρ)
def tA (F : Fx) (m : MA) : TA := fun σ H Q => ∃ G ρ, Rel F G H σ ρ ∧ kA F G H σ ρ Q (m ρ)
def tO (F : Fx) (m : MA) : TE := fun σ H Q => ∃ G ρ, Rel F G H σ ρ ∧ kO F G H σ ρ Q (m ρ)
def tS (F : Fx) (m : MS) : TS := fun De σ H => ∃ G ρ, Rel F G H σ ρ ∧ kS F G De (m ρ)
section
variable {F : Fx} {G G1 H H1 : Hp} {σ : St} {ρ : Rho}
theorem kE.mono {Q : VK} (s : Up G H G1 H1) : ∀ {r : R D}, kE F G H σ ρ Q r → kE F G1 H1 σ ρ Q r
  | .ok _, h => fun v H' G' r sg a => h v H' G' r (s.trans sg) a
  | .exc _, h => h
  | .bad, h => h
theorem kT.mono {Q : Bool → Hp → Prop} (s : Up G H G1 H1) : ∀ {r : R Bool}, kT F G H σ ρ Q r → kT F G1 H1 σ ρ Q r
  | .ok _, h => fun H' G' r sg => h H' G' r (s.trans sg)
  | .exc _, h => h
  | .bad, h => h
theorem kS.mono {De : Ends} (s : Sub G G1) : ∀ {r : R Fl}, kS F G De r → kS F G1 De r
  | .ok (.nx _), h => fun σ' G' H' r sg => h σ' G' H' r (s.trans sg)
  | .ok (.bk _), h => fun σ' G' H' r sg => h σ' G' H' r (s.trans sg)
  | .ok (.ct _), h => fun σ' G' H' r sg => h σ' G' H' r (s.trans sg)
  | .ok (.rt _), h => h
  | .ok (.ro _), h => h
  | .ok (.rn _), h => h
  | .exc _, h => h
  | .bad, h => h
end
abbrev ImpE (t' t : TE) : Prop := ∀ σ H Q, t' σ H Q → t σ H Q
abbrev ImpT (t' t : TT) : Prop := ∀ σ H Q, t' σ H Q → t σ H Q
abbrev ImpA (t' t : TA) : Prop := ∀ σ H Q, t' σ H Q → t σ H Q
abbrev ImpS (t' t : TS) : Prop := ∀ De σ H, t' De σ H → t De σ H
def mVar (i : Nat) : ME := fun ρ => match ρ[i]? with
  | some (.fz d) => .ok d
  | _ => .bad
def mC (d : D) : ME := fun _ => .ok d
section
variable {F : Fx}
theorem i_var (i : Nat) : ImpE (tE F (mVar i)) (tVar i) := by
  rintro σ H Q ⟨G, ρ, r, h⟩
  unfold mVar at h
  cases e : ρ[i]? with
  | none => rw [e] at h; exact h.elim
  | some s =>
    rw [e] at h
    cases s with
    | un => exact h.elim
    | ob _ => exact h.elim
    | tr _ => exact h.elim
    | fz d =>
      obtain ⟨v, e1, a⟩ := r.fz e
      exact ⟨v, e1, h v H G r (Up.refl _ _) a⟩
theorem i_C {d : D} {v : V} (a : ∀ G, At F.K G d v) : ImpE (tE F (mC d)) (tC v) := by
  rintro σ H Q ⟨G, ρ, r, h⟩
  exact h v H G r (Up.refl _ _) (a G)
def mBin (f : D → D → R D) (a b : ME) : ME := fun ρ => (a ρ).bind fun x => (b ρ).bind fun y => f x y
def OpOk (F : Fx) (r : R2) (f : D → D → R D) : Prop := ∀ σ ρ G H x y dx dy Q, Rel F G H σ ρ → At F.K G dx x → At F.K G dy y → kE F G H σ ρ Q (f dx dy) → r x y H Q
theorem i_bin {r : R2} {f : D → D → R D} {ma mb : ME} (ho : OpOk F r f) : ImpE (tE F (mBin f ma mb)) (tOp r (tE F ma) (tE F mb)) := by
  rintro σ H Q ⟨G, ρ, r, h⟩
  unfold mBin at h
  refine ⟨G, ρ, r, ?_⟩
  cases ea : ma ρ with
  | bad => rw [ea] at h; exact h.elim
  | exc c => rw [ea] at h; exact h
  | ok dx =>
    rw [ea, R.bind_ok] at h
    intro x H1 G1 r1 s1 ax
    refine ⟨G1, ρ, r1, ?_⟩
    cases eb : mb ρ with
    | bad => rw [eb] at h; exact h.elim
    | exc c => rw [eb] at h; exact h
    | ok dy =>
      rw [eb, R.bind_ok] at h
      intro y H2 G2 r2 s2 ay
      exact ho σ ρ G2 H2 x y dx dy Q r2 (ax.mono s2.g) ay (h.mono (s1.trans s2))
def mUn (f : D → R D) (a : ME) : ME := fun ρ => (a ρ).bind f
def UnOk (F : Fx) (r : V → Hp → VK → Prop) (f : D → R D) : Prop := ∀ σ ρ G H x dx Q, Rel F G H σ ρ → At F.K G dx x → kE F G H σ ρ Q (f dx) → r x H Q
theorem i_un {r : V → Hp → VK → Prop} {f : D → R D} {ma : ME} (ho : UnOk F r f) : ImpE (tE F (mUn f ma)) (tUn r (tE F ma)) := by
  rintro σ H Q ⟨G, ρ, r, h⟩
  unfold mUn at h
  refine ⟨G, ρ, r, ?_⟩
  cases ea : ma ρ with
  | bad => rw [ea] at h; exact h.elim
  | exc c => rw [ea] at h; exact h
  | ok dx =>
    rw [ea, R.bind_ok] at h
    intro x H1 G1 r1 s1 ax
    exact ho σ ρ G1 H1 x dx Q r1 ax (h.mono s1)
def mNil : MA := fun _ => .ok []
def mCons (a : ME) (r : MA) : MA := fun ρ => (a ρ).bind fun x => (r ρ).bind fun xs => .ok (x :: xs)
theorem i_nil : ImpA (tA F mNil) tNil := by
  rintro σ H Q ⟨G, ρ, r, h⟩
  exact h [] H G r (Up.refl _ _) .nil
theorem i_cons {ma : ME} {mr : MA} : ImpA (tA F (mCons ma mr)) (tCons (tE F ma) (tA F mr)) := by
  rintro σ H Q ⟨G, ρ, r, h⟩
  unfold mCons at h
  refine ⟨G, ρ, r, ?_⟩
  cases ea : ma ρ with
  | bad => rw [ea] at h; exact h.elim
  | exc c => rw [ea] at h; exact h
  | ok dx =>
    rw [ea, R.bind_ok] at h
    intro x H1 G1 r1 s1 ax
    refine ⟨G1, ρ, r1, ?_⟩
    cases eb : mr ρ with
    | bad => rw [eb] at h; exact h.elim
    | exc c => rw [eb] at h; exact h
    | ok dy =>
      rw [eb, R.bind_ok] at h
      intro y H2 G2 r2 s2 ay
      exact h (x :: y) H2 G2 r2 (s1.trans s2) (.cons (ax.mono s2.g) ay)
def mTup (m : MA) : ME := fun ρ => (m ρ).bind fun xs => if xs.length ≤ 1000000 then .ok (.tup xs) else .bad
theorem i_tup {m : MA} : ImpE (tE F (mTup m)) (tTup (tA F m)) := by
  rintro σ H Q ⟨G, ρ, r, h⟩
  unfold mTup at h
  refine ⟨G, ρ, r, ?_⟩
  cases ea : m ρ with
  | bad => rw [ea] at h; exact h.elim
  | exc c => rw [ea] at h; exact h
  | ok ds =>
    rw [ea, R.bind_ok] at h
    intro vs H1 G1 r1 s1 a
    by_cases hl : ds.length ≤ 1000000
    · rw [if_pos hl] at h
      refine ⟨by rw [← a.length]; exact Nat.le_trans hl (by decide), fun p hp => ?_⟩
      refine h (.ref p) _ _ (r1.lay hp) (s1.trans (Up.lay r1.kp.sub hp)) ?_
      simp only [At]
      exact ⟨p, vs, rfl, upd_same, a.mono (Sub.upd (r1.kp.sub.gone hp))⟩
    · rw [if_neg hl] at h; exact h.elim
theorem OwnAt.back {G H H' : Hp} {σ : St} {ρ : Rho} (r : Rel F G H σ ρ) (s : Sub H H') {a : Addr} (h : OwnAt H' σ ρ a) : OwnAt H σ ρ a := by
  obtain ⟨i, sl, o, e1, e2, f⟩ := h
  refine ⟨i, sl, o, e1, e2, ?_⟩
  obtain ⟨o', e3, q⟩ := r.sl i sl e1
  rw [e2] at e3; cases e3
  exact (q.keep (G' := G) (H' := H') (Sub.refl _) fun b fb => ⟨by
    cases e : H b with
    | none => exact absurd e (q.foot fb).1
    | some u => exact s b u e, (q.foot fb).2.1⟩).2 a f
theorem OwnAt.fresh {G H H' : Hp} {σ : St} {ρ : Rho} (r : Rel F G H σ ρ) (s : Sub H H') {a : Addr} (n : H a = none) : ¬ OwnAt H' σ ρ a := fun h => (r.foot (h.back r s)).1 n
def lim (xs : List D) : R (List D) := if xs.length ≤ 1000000 then .ok xs else .bad
def mLim (m : MA) : MA := fun ρ => (m ρ).bind lim
theorem i_lst {m : MA} : ImpE (tO F (mLim m)) (tLst (tA F m)) := by
  rintro σ H Q ⟨G, ρ, r, h⟩
  unfold mLim lim at h
  refine ⟨G, ρ, r, ?_⟩
  cases ea : m ρ with
  | bad => rw [ea] at h; exact h.elim
  | exc c => rw [ea] at h; exact h
  | ok ds =>
    rw [ea, R.bind_ok] at h
    intro vs H1 G1 r1 s1 a
    by_cases hl : ds.length ≤ 1000000
    · rw [if_pos hl] at h
      refine ⟨by rw [← a.length]; exact Nat.le_trans hl (by decide), fun p hp => ?_⟩
      exact h p vs _ G1 (r1.lay0 hp) (s1.trans (Up.lay0 hp)) (s1.h.gone hp) upd_same (r1.kp.sub.gone hp) a
    · rw [if_neg hl] at h; exact h.elim
def mFz (m : MA) : ME := fun ρ => (m ρ).bind fun xs => .ok (.lst xs)
theorem i_fz {m : MA} : ImpE (tE F (mFz m)) (tO F m) := by
  rintro σ H Q ⟨G, ρ, r, h⟩
  unfold mFz at h
  refine ⟨G, ρ, r, ?_⟩
  cases ea : m ρ with
  | bad => rw [ea] at h; exact h.elim
  | exc c => rw [ea] at h; exact h
  | ok ds =>
    rw [ea, R.bind_ok] at h
    intro a xs H' G' r' s' hn ha hg q
    refine h (.ref a) H' _ (r'.take ha hg (r.kp.hh.gone hn) (OwnAt.fresh r s'.h hn)) (s'.put hn hg) ?_
    simp only [At]
    exact ⟨a, xs, rfl, upd_same, q.mono (Sub.upd hg)⟩
def asB : D → R Bool
  | .bl b => .ok b
  | _ => .bad
def mB (m : ME) : MT := fun ρ => (m ρ).bind asB
theorem i_B {m : ME} : ImpT (tT F (mB m)) (tB (tE F m)) := by
  rintro σ H Q ⟨G, ρ, r, h⟩
  unfold mB at h
  refine ⟨G, ρ, r, ?_⟩
  cases ea : m ρ with
  | bad => rw [ea] at h; exact h.elim
  | exc c => rw [ea] at h; exact h
  | ok d =>
    rw [ea, R.bind_ok] at h
    intro x H1 G1 r1 s1 ax
    cases d <;> first
      | (exact h.elim)
      | (simp only [At] at ax; exact ⟨_, ax, h H1 G1 r1 s1⟩)
theorem i_Test {m : ME} : ImpT (tT F (mB m)) (tTest (tE F m)) := i_B
def mAnd (a b : MT) : MT := fun ρ => (a ρ).bind fun c => if c = true then b ρ else .ok false
def mOr (a b : MT) : MT := fun ρ => (a ρ).bind fun c => if c = true then .ok true else b ρ
def mNot (a : MT) : MT := fun ρ => (a ρ).bind fun c => .ok (!c)
theorem i_and {a b : MT} : ImpT (tT F (mAnd a b)) (tAnd (tT F a) (tT F b)) := by
  rintro σ H Q ⟨G, ρ, r, h⟩
  unfold mAnd at h
  refine ⟨G, ρ, r, ?_⟩
  cases ea : a ρ with
  | bad => rw [ea] at h; exact h.elim
  | exc c => rw [ea] at h; exact h
  | ok c =>
    rw [ea, R.bind_ok] at h
    intro H1 G1 r1 s1
    cases c with
    | true => exact ⟨G1, ρ, r1, kT.mono s1 h⟩
    | false => exact h H1 G1 r1 s1
theorem i_or {a b : MT} : ImpT (tT F (mOr a b)) (tOr (tT F a) (tT F b)) := by
  rintro σ H Q ⟨G, ρ, r, h⟩
  unfold mOr at h
  refine ⟨G, ρ, r, ?_⟩
  cases ea : a ρ with
  | bad => rw [ea] at h; exact h.elim
  | exc c => rw [ea] at h; exact h
  | ok c =>
    rw [ea, R.bind_ok] at h
    intro H1 G1 r1 s1
    cases c with
    | true => exact h H1 G1 r1 s1
    | false => exact ⟨G1, ρ, r1, kT.mono s1 h⟩
theorem i_not {a : MT} : ImpT (tT F (mNot a)) (tNot (tT F a)) := by
  rintro σ H Q ⟨G, ρ, r, h⟩
  unfold mNot at h
  refine ⟨G, ρ, r, ?_⟩
  cases ea : a ρ with
  | bad => rw [ea] at h; exact h.elim
  | exc c => rw [ea] at h; exact h
  | ok c => rw [ea, R.bind_ok] at h; exact h
def mAndV (a b : ME) : ME := fun ρ => (a ρ).bind fun x => (asB x).bind fun c => if c = true then b ρ else .ok (.bl false)
def mNotV (a : ME) : ME := fun ρ => (a ρ).bind fun x => (asB x).bind fun c => .ok (.bl (!c))
theorem i_andV {a b : ME} : ImpE (tE F (mAndV a b)) (tAndV (tE F a) (tE F b)) := by
  rintro σ H Q ⟨G, ρ, r, h⟩
  unfold mAndV at h
  refine ⟨G, ρ, r, ?_⟩
  cases ea : a ρ with
  | bad => rw [ea] at h; exact h.elim
  | exc c => rw [ea] at h; exact h
  | ok d =>
    rw [ea, R.bind_ok] at h
    intro x H1 G1 r1 s1 ax
    cases d with
    | bl c =>
      simp only [At] at ax
      refine ⟨c, ax, ?_⟩
      cases c with
      | true => exact ⟨G1, ρ, r1, kE.mono s1 h⟩
      | false => exact h _ H1 G1 r1 s1 (by simp only [At])
    | _ => exact h.elim
theorem i_notV {a : ME} : ImpE (tE F (mNotV a)) (tNotV (tE F a)) := by
  rintro σ H Q ⟨G, ρ, r, h⟩
  unfold mNotV at h
  refine ⟨G, ρ, r, ?_⟩
  cases ea : a ρ with
  | bad => rw [ea] at h; exact h.elim
  | exc c => rw [ea] at h; exact h
  | ok d =>
    rw [ea, R.bind_ok] at h
    intro x H1 G1 r1 s1 ax
    cases d with
    | bl c =>
      simp only [At] at ax
      exact ⟨c, ax, h _ H1 G1 r1 s1 (by simp only [At])⟩
    | _ => exact h.elim
def mNext : MS := fun ρ => .ok (.nx ρ)
def mSeq (a b : MS) : MS := fun ρ => (a ρ).bind fun f => match f with
  | .nx ρ' => b ρ'
  | f => .ok f
theorem i_next : ImpS (tS F mNext) tNext := by
  rintro De σ H ⟨G, ρ, r, h⟩
  exact h σ G H r (Sub.refl _)
theorem i_seq {a b : MS} : ImpS (tS F (mSeq a b)) (tSeq (tS F a) (tS F b)) := by
  rintro De σ H ⟨G, ρ, r, h⟩
  unfold mSeq at h
  refine ⟨G, ρ, r, ?_⟩
  cases ea : a ρ with
  | bad => rw [ea] at h; exact h.elim
  | exc c => rw [ea] at h; exact h
  | ok f =>
    rw [ea, R.bind_ok] at h
    cases f with
    | nx ρ' => exact fun σ' G' H' r' s' => ⟨G', ρ', r', kS.mono s' h⟩
    | rt d => exact h
    | ro d => exact h
    | bk d => exact h
    | ct d => exact h
    | rn d => exact h
def mRet (a : ME) : MS := fun ρ => (a ρ).bind fun d => .ok (.rt d)
theorem i_ret {a : ME} : ImpS (tS F (mRet a)) (tRet (tE F a)) := by
  rintro De σ H ⟨G, ρ, r, h⟩
  unfold mRet at h
  refine ⟨G, ρ, r, ?_⟩
  cases ea : a ρ with
  | bad => rw [ea] at h; exact h.elim
  | exc c => rw [ea] at h; exact h
  | ok d => rw [ea, R.bind_ok] at h; exact fun v H' G' r' s' a => h v G' H' r'.kp a
def mRetO (a : MA) : MS := fun ρ => (a ρ).bind fun d => .ok (.ro d)
theorem i_retO {a : MA} : ImpS (tS F (mRetO a)) (tRet (tO F a)) := by
  rintro De σ H ⟨G, ρ, r, h⟩
  unfold mRetO at h
  refine ⟨G, ρ, r, ?_⟩
  cases ea : a ρ with
  | bad => rw [ea] at h; exact h.elim
  | exc c => rw [ea] at h; exact h
  | ok d => rw [ea, R.bind_ok] at h; exact fun a xs H' G' r' s' h1 h2 h3 h4 => h a xs G' H' r'.kp h3 (r.kp.hh.gone h1) h2 h4
def mVarO (i : Nat) : MA := fun ρ => match ρ[i]? with
  | some (.ob (.lst d)) => .ok d
  | _ => .bad
theorem i_retV (i : Nat) : ImpS (tS F (mRetO (mVarO i))) (tRet (tVar i)) := by
  rintro De σ H ⟨G, ρ, r, h⟩
  unfold mRetO mVarO at h
  cases e : ρ[i]? with
  | none => rw [e] at h; exact h.elim
  | some s =>
    rw [e] at h
    cases s with
    | un => exact h.elim
    | fz _ => exact h.elim
    | tr _ => exact h.elim
    | ob o =>
      cases o with
      | lst ds =>
        obtain ⟨a, xs, e1, h1, h2, h3, h4⟩ := r.own e
        exact ⟨.ref a, e1, h a xs G H r.kp h2 h3 h1 h4⟩
      | dT _ _ => exact h.elim
      | ins _ _ _ => exact h.elim
def mIfS (c : MT) (a b : MS) : MS := fun ρ => (c ρ).bind fun k => if k = true then a ρ else b ρ
theorem i_ifS {c : MT} {a b : MS} : ImpS (tS F (mIfS c a b)) (tIfS (tT F c) (tS F a) (tS F b)) := by
  rintro De σ H ⟨G, ρ, r, h⟩
  unfold mIfS at h
  refine ⟨G, ρ, r, ?_⟩
  cases ea : c ρ with
  | bad => rw [ea] at h; exact h.elim
  | exc c => rw [ea] at h; exact h
  | ok k =>
    rw [ea, R.bind_ok] at h
    intro H1 G1 r1 s1
    cases k with
    | true => exact ⟨G1, ρ, r1, kS.mono s1.g h⟩
    | false => exact ⟨G1, ρ, r1, kS.mono s1.g h⟩
def setV (i : Nat) (d : D) (ρ : Rho) : R Rho := if i < ρ.length then .ok (ρ.set i (.fz d)) else .bad
def mSet (i : Nat) (a : ME) : MS := fun ρ => (a ρ).bind fun d => (setV i d ρ).bind fun ρ' => .ok (.nx ρ')
theorem i_set {i : Nat} {a : ME} : ImpS (tS F (mSet i a)) (tAsg (tE F a) (gName i)) := by
  rintro De σ H ⟨G, ρ, r, h⟩
  unfold mSet setV at h
  refine ⟨G, ρ, r, ?_⟩
  cases ea : a ρ with
  | bad => rw [ea] at h; exact h.elim
  | exc c => rw [ea] at h; exact h
  | ok d =>
    rw [ea, R.bind_ok] at h
    intro v H1 G1 r1 s1 av
    by_cases hi : i < ρ.length
    · rw [if_pos hi] at h
      exact h _ G1 H1 (r1.set hi av) s1.g
    · rw [if_neg hi] at h; exact h.elim
def mSetO (i : Nat) (a : MA) : MS := fun ρ => (a ρ).bind fun ds => if i < ρ.length then .ok (.nx (ρ.set i (.ow ds))) else .bad
theorem i_setO {i : Nat} {a : MA} : ImpS (tS F (mSetO i a)) (tAsg (tO F a) (gName i)) := by
  rintro De σ H ⟨G, ρ, r, h⟩
  unfold mSetO at h
  refine ⟨G, ρ, r, ?_⟩
  cases ea : a ρ with
  | bad => rw [ea] at h; exact h.elim
  | exc c => rw [ea] at h; exact h
  | ok ds =>
    rw [ea, R.bind_ok] at h
    intro b xs H1 G1 r1 s1 h1 h2 h3 h4
    by_cases hi : i < ρ.length
    · rw [if_pos hi] at h
      exact h _ G1 H1 (r1.setO hi h2 h3 (r.kp.hh.gone h1) h4 fun j es o _ e1 e2 f => OwnAt.fresh r s1.h h1 ⟨j, es, o, e1, e2, f⟩) s1.g
    · rw [if_neg hi] at h; exact h.elim
def frz1 (i : Nat) (ρ : Rho) : Rho := match ρ[i]? with
  | some (.ob o) => ρ.set i (.fz (obD o))
  | _ => ρ
theorem Rel.frz1 {G H : Hp} {σ : St} {ρ : Rho} (r : Rel F G H σ ρ) (i : Nat) : ∃ G', Rel F G' H σ (L3.frz1 i ρ) ∧ Sub G G' := by
  unfold L3.frz1
  cases e : ρ[i]? with
  | none => exact ⟨G, r, Sub.refl _⟩
  | some s =>
    cases s with
    | un => exact ⟨G, r, Sub.refl _⟩
    | fz _ => exact ⟨G, r, Sub.refl _⟩
    | tr _ => exact ⟨G, r, Sub.refl _⟩
    | ob o => exact r.frz e
def scalD : D → Bool
  | .non => true | .bl _ => true | .int _ => true | .str _ => true
  | _ => false
theorem At.scal {K : PySem.W.Frag} {G G' : Hp} {d : D} {v : V} (h : scalD d = true) (a : At K G d v) : At K G' d v := by
  cases d <;> first
    | (simp only [At] at a ⊢; exact a)
    | (cases h)
def frzS : Sl → Sl
  | .ob o => .fz (obD o)
  | .tr t => .fz (toD t)
  | s => s
def frzA (ρ : Rho) : Rho := ρ.map frzS
open Classical in
noncomputable def gPlus (σ : St) (ρ : Rho) (G H : Hp) : Hp := fun b => if OwnAt H σ ρ b then H b else G b
theorem gPlus_sub {G H : Hp} {σ : St} {ρ : Rho} (r : Rel F G H σ ρ) : Sub G (gPlus σ ρ G H) := fun b o e => by
  unfold gPlus
  split
  · exact r.kp.sub b o e
  · exact e
theorem gPlus_own {G H : Hp} {σ : St} {ρ : Rho} {b : Addr} (h : OwnAt H σ ρ b) : gPlus σ ρ G H b = H b := by
  unfold gPlus
  rw [if_pos h]
theorem frzA_foot {H : Hp} {ρ : Rho} {i : Nat} {s : Sl} (e : (frzA ρ)[i]? = some s) (o : Option V) (a : Addr) : ¬ Foot H s o a := by
  unfold frzA at e
  rw [List.getElem?_map] at e
  cases e2 : ρ[i]? with
  | none => rw [e2] at e; cases e
  | some t =>
    rw [e2] at e
    have es : frzS t = s := Option.some.inj e
    subst es
    cases t <;> exact fun z => z
theorem Rel.plus {G H : Hp} {σ : St} {ρ : Rho} (r : Rel F G H σ ρ) : Rel F (gPlus σ ρ G H) H σ (frzA ρ) := by
  have sg := gPlus_sub r
  refine ⟨⟨fun b o e => ?_, r.kp.gg.trans sg, r.kp.hh, fun b hb => ?_⟩, by simp [frzA, r.len], fun i s e => ?_, fun i j a s s' o o' e1 _ _ _ f _ => absurd f (frzA_foot e1 o a)⟩
  · unfold gPlus at e
    split at e
    · exact e
    · exact r.kp.sub b o e
  · unfold gPlus
    split
    · rename_i z
      exact absurd (r.foot z).2.2 hb
    · exact r.kp.new b hb
  · unfold frzA at e
    rw [List.getElem?_map] at e
    cases e1 : ρ[i]? with
    | none => rw [e1] at e; cases e
    | some t =>
      rw [e1] at e
      have es : frzS t = s := Option.some.inj e
      obtain ⟨o, e2, q⟩ := r.sl i t e1
      refine ⟨o, e2, ?_⟩
      subst es
      cases t with
      | un => trivial
      | fz d => obtain ⟨v, e3, a⟩ := q; exact ⟨v, e3, a.mono sg⟩
      | ob ds =>
        obtain ⟨a, ho, e3, h1, h2, h3, h4⟩ := q
        subst e3
        exact ⟨.ref a, rfl, (h4.mono sg).at (by rw [gPlus_own (.ob e1 e2)]; exact h1)⟩
      | tr t =>
        obtain ⟨v, e3, q⟩ := q
        exact ⟨v, e3, q.at_.view sg fun a ha => gPlus_own ⟨i, _, o, e1, e2, v, e3, ha⟩⟩
theorem Rel.back {G H G' H' : Hp} {σ : St} {ρ : Rho} (r : Rel F G H σ ρ) (r' : Rel F G' H' σ (frzA ρ)) (s : Sub (gPlus σ ρ G H) G') : Rel F G H' σ ρ :=
  r.over rfl ⟨(gPlus_sub r).trans (s.trans r'.kp.sub), r.kp.gg, r'.kp.hh, r.kp.new⟩ (Sub.refl _) fun a ha => by
    obtain ⟨h1, h2, h3⟩ := r.foot ha
    refine ⟨?_, h2, h3⟩
    cases e : H a with
    | none => exact absurd e h1
    | some o => exact r'.kp.sub _ _ (s _ _ (by rw [gPlus_own ha]; exact e))
def onlyS (d : D) : R D := if scalD d = true then .ok d else .bad
def mBor (m : ME) : ME := fun ρ => (m (frzA ρ)).bind onlyS
theorem i_bor {m : ME} : ImpE (tE F (mBor m)) (tE F m) := by
  rintro σ H Q ⟨G, ρ, r, h⟩
  refine ⟨gPlus σ ρ G H, frzA ρ, r.plus, ?_⟩
  unfold mBor onlyS at h
  cases ea : m (frzA ρ) with
  | bad => rw [ea] at h; exact h.elim
  | exc c => rw [ea] at h; exact h
  | ok d =>
    rw [ea, R.bind_ok] at h
    intro v H' G' r' s' a
    by_cases hd : scalD d = true
    · rw [if_pos hd] at h
      exact h v H' G (r.back r' s'.g) ⟨Sub.refl _, s'.h, fun _ _ => rfl⟩ (a.scal hd)
    · rw [if_neg hd] at h; exact h.elim
def mBorT (m : MT) : MT := fun ρ => m (frzA ρ)
theorem i_borT {m : MT} : ImpT (tT F (mBorT m)) (tT F m) := by
  rintro σ H Q ⟨G, ρ, r, h⟩
  refine ⟨gPlus σ ρ G H, frzA ρ, r.plus, ?_⟩
  unfold mBorT at h
  cases ea : m (frzA ρ) with
  | bad => rw [ea] at h; exact h.elim
  | exc c => rw [ea] at h; exact h
  | ok d =>
    rw [ea] at h
    exact fun H' G' r' s' => h H' G (r.back r' s'.g) ⟨Sub.refl _, s'.h, fun _ _ => rfl⟩
end
end L3
set_option Elab.async false
set_option linter.all false
namespace L3
open PySem L2
section
variable {F : Fx}
structure ItOk (K : PySem.W.Frag) (J : It) (ds : List D) (G : Hp) : Prop where
  go : ∀ (i : Nat) (H : Hp), Sub G H → i < ds.length → J.go i H
  yld : ∀ (i : Nat) (H : Hp) (x : V) (H' : Hp), Sub G H → i < ds.length → J.yld i H x H' → ∃ d, ds[i]? = some d ∧
    ((H' = H ∧ At K G d x) ∨ ∃ p xs es, H p = none ∧ H' = upd H p (.tup xs) ∧ x = .ref p ∧ d = .tup es ∧ AtL K G es xs)
  stop : ∀ (H : Hp), Sub G H → J.stop ds.length H
def kI (F : Fx) (G H : Hp) (σ : St) (ρ : Rho) (Q : It → Hp → Prop) : R (List D) → Prop
  | .ok ds => ∀ J H' G', Rel F G' H' σ ρ → Up G H G' H' → ItOk F.K J ds G' → Q J H'
  | .exc c => kX F c
  | .bad => False
def tI (F : Fx) (m : MA) : TI := fun σ H Q => ∃ G ρ, Rel F G H σ ρ ∧ kI F G H σ ρ Q (m ρ)
abbrev ImpI (t' t : TI) : Prop := ∀ σ H Q, t' σ H Q → t σ H Q
theorem ItOk.turn {J : It} {ds : List D} {G G1 H H' : Hp} {σ : St} {ρ : Rho} {i : Nat} {x : V} (t : ItOk F.K J ds G) (r : Rel F G1 H σ ρ) (s : Sub G G1) (hi : i < ds.length) (y : J.yld i H x H') :
    ∃ d G', ds[i]? = some d ∧ Rel F G' H' σ ρ ∧ Up G1 H G' H' ∧ At F.K G' d x := by
  obtain ⟨d, e, h⟩ := t.yld i H x H' (s.trans r.kp.sub) hi y
  rcases h with ⟨rfl, a⟩ | ⟨p, xs, es, hp, rfl, rfl, rfl, a⟩
  · exact ⟨d, G1, e, r, Up.refl _ _, a.mono s⟩
  · refine ⟨_, _, e, r.lay hp, Up.lay r.kp.sub hp, ?_⟩
    simp only [At]
    exact ⟨p, xs, rfl, upd_same, (a.mono s).mono (Sub.upd (r.kp.sub.gone hp))⟩
def GOk (F : Fx) (g : TG) (set : D → Rho → R Rho) : Prop := ∀ σ ρ G H v d Q ρ', Rel F G H σ ρ → At F.K G d v → set d ρ = .ok ρ' → (∀ σ', Rel F G H σ' ρ' → Q σ' H) → g v σ H Q
theorem g_name (i : Nat) : GOk F (gName i) (setV i) := by
  intro σ ρ G H v d Q ρ' r a e h
  unfold setV at e
  by_cases hi : i < ρ.length
  · rw [if_pos hi] at e
    cases e
    exact h _ (r.set hi a)
  · rw [if_neg hi] at e; cases e
def setL : List (D → Rho → R Rho) → List D → Rho → R Rho
  | [], [], ρ => .ok ρ
  | f :: fs, d :: ds, ρ => (f d ρ).bind fun ρ' => setL fs ds ρ'
  | _, _, _ => .bad
def GsOk (F : Fx) (g : TGs) (set : List D → Rho → R Rho) : Prop := ∀ σ ρ G H vs ds Q ρ', Rel F G H σ ρ → AtL F.K G ds vs → set ds ρ = .ok ρ' → (∀ σ', Rel F G H σ' ρ' → Q σ' H) → g vs σ H Q
theorem g_nil : GsOk F gNil (setL []) := by
  intro σ ρ G H vs ds Q ρ' r a e h
  cases ds with
  | nil =>
    simp only [AtL] at a
    cases e
    exact ⟨a, h σ r⟩
  | cons d ds => cases e
theorem g_cons {g : TG} {gs : TGs} {f : D → Rho → R Rho} {fs : List (D → Rho → R Rho)} (h1 : GOk F g f) (h2 : GsOk F gs (setL fs)) : GsOk F (gCons g gs) (setL (f :: fs)) := by
  intro σ ρ G H vs ds Q ρ' r a e h
  cases ds with
  | nil => cases e
  | cons d ds =>
    simp only [AtL] at a
    obtain ⟨v, vr, rfl, av, ar⟩ := a
    simp only [setL] at e
    cases e1 : f d ρ with
    | bad => rw [e1] at e; cases e
    | exc c => rw [e1] at e; cases e
    | ok ρ1 =>
      rw [e1, R.bind_ok] at e
      refine ⟨v, vr, rfl, h1 σ ρ G H v d _ ρ1 r av e1 fun σ1 r1 => ?_⟩
      exact h2 σ1 ρ1 G H vr ds Q ρ' r1 ar e h
def setT (fs : List (D → Rho → R Rho)) : D → Rho → R Rho
  | .tup ds, ρ => setL fs ds ρ
  | _, _ => .bad
theorem setL_len : ∀ {fs : List (D → Rho → R Rho)} {ds : List D} {ρ ρ' : Rho}, setL fs ds ρ = .ok ρ' → ds.length = fs.length
  | [], [], _, _, _ => rfl
  | [], _ :: _, _, _, e => by cases e
  | _ :: _, [], _, _, e => by cases e
  | f :: fs, d :: ds, ρ, ρ', e => by
    simp only [setL] at e
    cases e1 : f d ρ with
    | bad => rw [e1] at e; cases e
    | exc c => rw [e1] at e; cases e
    | ok ρ1 =>
      rw [e1, R.bind_ok] at e
      simp [setL_len e]
theorem g_tup {gs : TGs} {fs : List (D → Rho → R Rho)} {n : Nat} (hn : n = fs.length) (h : GsOk F gs (setL fs)) : GOk F (gTup F.K n gs) (setT fs) := by
  intro σ ρ G H v d Q ρ' r a e k
  cases d with
  | tup ds =>
    simp only [At] at a
    obtain ⟨p, xs, rfl, hq, al⟩ := a
    refine ⟨p, xs, rfl, SqT.of (r.kp.sub _ _ hq), ?_, h σ ρ G H xs ds Q ρ' r al e k⟩
    rw [← al.length, hn]; exact setL_len e
  | _ => cases e
def forGo (set : D → Rho → R Rho) (body : MS) : List D → Rho → R Fl
  | [], ρ => .ok (.nx ρ)
  | d :: ds, ρ => (set d ρ).bind fun ρ1 => (body ρ1).bind fun f => match f with
    | .nx ρ2 => forGo set body ds ρ2
    | .ct ρ2 => forGo set body ds ρ2
    | .bk ρ2 => .ok (.nx ρ2)
    | f => .ok f
def mFor (mi : MA) (set : D → Rho → R Rho) (body : MS) : MS := fun ρ => (mi ρ).bind fun ds => forGo set body ds ρ
theorem i_for {mi : MA} {set : D → Rho → R Rho} {body : MS} {g : TG} (hg : GOk F g set) (hx : ∀ d ρ c, set d ρ ≠ .exc c) : ImpS (tS F (mFor mi set body)) (tFor (tI F mi) g (tS F body)) := by
  rintro De σ H ⟨G, ρ, r, h⟩
  unfold mFor at h
  refine ⟨G, ρ, r, ?_⟩
  cases ea : mi ρ with
  | bad => rw [ea] at h; exact h.elim
  | exc c => rw [ea] at h; exact h
  | ok ds =>
    rw [ea, R.bind_ok] at h
    intro J H1 G1 r1 s1 it
    refine ⟨fun i m σ2 H2 => m = ds.length - i ∧ i ≤ ds.length ∧ ∃ G2 ρ2, Rel F G2 H2 σ2 ρ2 ∧ Sub G1 G2 ∧ kS F G2 De (forGo set body (ds.drop i) ρ2), ⟨ds.length, by simp, Nat.zero_le _, G1, ρ, r1, Sub.refl _, kS.mono s1.g (by simpa using h)⟩, ?_⟩
    rintro i m σ2 H2 ⟨rfl, hi, G2, ρ2, r2, s2, k2⟩
    by_cases hlt : i < ds.length
    · refine .inr ⟨it.go i H2 (s2.trans r2.kp.sub) hlt, fun σ3 H3 => ∃ G3 ρ3, Rel F G3 H3 σ3 ρ3 ∧ Sub G1 G3 ∧ kS F G3 De (forGo set body (ds.drop (i + 1)) ρ3), fun σ3 H3 ⟨G3, ρ3, r3, s3, k3⟩ => ⟨ds.length - (i + 1), by omega, rfl, hlt, G3, ρ3, r3, s3, k3⟩, fun x H3 y => ?_⟩
      obtain ⟨d, G3, e3, r3, s3, a3⟩ := it.turn r2 s2 hlt y
      have ed : ds.drop i = d :: ds.drop (i + 1) := by
        rw [List.drop_eq_getElem_cons hlt]
        have := List.getElem?_eq_getElem hlt
        rw [e3] at this
        rw [Option.some.inj this]
      rw [ed] at k2
      simp only [forGo] at k2
      cases e4 : set d ρ2 with
      | bad => rw [e4] at k2; exact k2.elim
      | exc c => exact absurd e4 (hx d ρ2 c)
      | ok ρ4 =>
        rw [e4, R.bind_ok] at k2
        refine hg σ2 ρ2 G3 H3 x d _ ρ4 r3 a3 e4 fun σ5 r5 => ⟨G3, ρ4, r5, ?_⟩
        have s25 : Sub G2 G3 := s3.g
        cases e6 : body ρ4 with
        | bad => rw [e6] at k2; exact k2.elim
        | exc c => rw [e6] at k2; exact k2
        | ok f =>
          rw [e6, R.bind_ok] at k2
          cases f with
          | nx ρ6 => exact fun σ7 G7 H7 r7 s7 => ⟨G7, ρ6, r7, s2.trans (s25.trans s7), kS.mono (s25.trans s7) k2⟩
          | ct ρ6 => exact fun σ7 G7 H7 r7 s7 => ⟨G7, ρ6, r7, s2.trans (s25.trans s7), kS.mono (s25.trans s7) k2⟩
          | bk ρ6 => exact fun σ7 G7 H7 r7 s7 => k2 σ7 G7 H7 r7 (s25.trans s7)
          | rt d => exact k2
          | ro ds => exact k2
          | rn t => exact k2
    · have e : ds.drop i = [] := List.drop_eq_nil_of_le (by omega)
      rw [e] at k2
      have ei : i = ds.length := by omega
      subst ei
      exact .inl ⟨it.stop H2 (s2.trans r2.kp.sub), k2 σ2 G2 H2 r2 (Sub.refl _)⟩
theorem setV_noexc (i : Nat) : ∀ d ρ c, setV i d ρ ≠ .exc c := fun d ρ c => by
  unfold setV
  split <;> exact fun z => nomatch z
theorem setL_noexc : ∀ {fs : List (D → Rho → R Rho)}, (∀ f ∈ fs, ∀ d ρ c, f d ρ ≠ .exc c) → ∀ ds ρ c, setL fs ds ρ ≠ .exc c
  | [], _, [], _, _, e => nomatch e
  | [], _, _ :: _, _, _, e => nomatch e
  | _ :: _, _, [], _, _, e => nomatch e
  | f :: fs, h, d :: ds, ρ, c, e => by
    simp only [setL] at e
    cases e1 : f d ρ with
    | bad => rw [e1] at e; cases e
    | exc c => exact h f (by simp) d ρ c e1
    | ok ρ1 => rw [e1, R.bind_ok] at e; exact setL_noexc (fun g hg => h g (by simp [hg])) ds ρ1 c e
theorem setT_noexc {fs : List (D → Rho → R Rho)} (h : ∀ f ∈ fs, ∀ d ρ c, f d ρ ≠ .exc c) : ∀ d ρ c, setT fs d ρ ≠ .exc c := fun d ρ c e => by
  cases d <;> first
    | (exact setL_noexc h _ _ _ e)
    | (cases e)
theorem it_list {K : PySem.W.Frag} {G : Hp} {a : Addr} {xs : List V} {ds : List D} (h : SqL K G a xs) (q : AtL K G ds xs) : ItOk K (Itl K a) ds G where
  go := fun i H s hi => by
    obtain ⟨v, e, _⟩ := q.get (List.getElem?_eq_getElem hi)
    exact ⟨xs, v, SqL.mono s h, e⟩
  yld := fun i H x H' s hi y => by
    obtain ⟨rfl, y⟩ := y
    obtain ⟨d, e, a⟩ := q.getV (y xs (SqL.mono s h))
    exact ⟨d, e, .inl ⟨rfl, a⟩⟩
  stop := fun H s => ⟨xs, SqL.mono s h, by rw [← q.length]; exact Nat.le_refl _⟩
theorem it_tup {K : PySem.W.Frag} {G : Hp} {a : Addr} {xs : List V} {ds : List D} (h : SqT K G a xs) (q : AtL K G ds xs) : ItOk K (Itt K a) ds G where
  go := fun i H s hi => by
    obtain ⟨v, e, _⟩ := q.get (List.getElem?_eq_getElem hi)
    exact ⟨xs, v, SqT.mono s h, e⟩
  yld := fun i H x H' s hi y => by
    obtain ⟨rfl, y⟩ := y
    obtain ⟨d, e, a⟩ := q.getV (y xs (SqT.mono s h))
    exact ⟨d, e, .inl ⟨rfl, a⟩⟩
  stop := fun H s => ⟨xs, SqT.mono s h, by rw [← q.length]; exact Nat.le_refl _⟩
def rangeD (lo : Int) (n : Nat) : List D := (List.range n).map fun (i : Nat) => .int (lo + (i : Int))
theorem it_rng {K : PySem.W.Frag} {G : Hp} (lo : Int) (n : Nat) : ItOk K (Itr lo n) (rangeD lo n) G where
  go := fun i H s hi => by
    have h : i < n := by simpa [rangeD] using hi
    exact h
  yld := fun i H x H' s hi y => by
    have h : i < n := by simpa [rangeD] using hi
    obtain ⟨e1, e2⟩ := y
    refine ⟨.int (lo + (i : Int)), ?_, .inl ⟨e1, ?_⟩⟩
    · unfold rangeD
      rw [List.getElem?_map, List.getElem?_range h]
      rfl
    · simp only [At]; exact e2
  stop := fun H s => by
    have h : n ≤ (rangeD lo n).length := by simp [rangeD]
    exact h
def seqD : D → R (List D)
  | .lst ds => .ok ds
  | .scr ds => .ok ds
  | _ => .bad
def tupD : D → R (List D)
  | .tup ds => .ok ds
  | .ktp ds => .ok ds
  | _ => .bad
def mIL (m : ME) : MA := fun ρ => (m ρ).bind seqD
theorem i_list {m : ME} : ImpI (tI F (mIL m)) (iList F.K (tE F m)) := by
  rintro σ H Q ⟨G, ρ, r, h⟩
  unfold mIL at h
  refine ⟨G, ρ, r, ?_⟩
  cases ea : m ρ with
  | bad => rw [ea] at h; exact h.elim
  | exc c => rw [ea] at h; exact h
  | ok d =>
    rw [ea, R.bind_ok] at h
    intro v H1 G1 r1 s1 a
    cases d with
    | lst ds =>
      simp only [At] at a
      obtain ⟨p, xs, e, hq, al⟩ := a
      exact ⟨p, e, ⟨xs, SqL.of (r1.kp.sub _ _ hq)⟩, h _ H1 G1 r1 s1 (it_list (SqL.of hq) al)⟩
    | scr ds =>
      simp only [At] at a
      obtain ⟨p, xs, e, hq, al⟩ := a
      exact ⟨p, e, ⟨xs, SqL.mono r1.kp.sub hq⟩, h _ H1 G1 r1 s1 (it_list hq al)⟩
    | _ => exact h.elim
def mIT (m : ME) : MA := fun ρ => (m ρ).bind tupD
theorem i_tupI {m : ME} : ImpI (tI F (mIT m)) (iTup F.K (tE F m)) := by
  rintro σ H Q ⟨G, ρ, r, h⟩
  unfold mIT at h
  refine ⟨G, ρ, r, ?_⟩
  cases ea : m ρ with
  | bad => rw [ea] at h; exact h.elim
  | exc c => rw [ea] at h; exact h
  | ok d =>
    rw [ea, R.bind_ok] at h
    intro v H1 G1 r1 s1 a
    cases d with
    | tup ds =>
      simp only [At] at a
      obtain ⟨p, xs, e, hq, al⟩ := a
      exact ⟨p, e, ⟨xs, SqT.of (r1.kp.sub _ _ hq)⟩, h _ H1 G1 r1 s1 (it_tup (SqT.of hq) al)⟩
    | ktp ds =>
      simp only [At] at a
      obtain ⟨p, xs, e, hq, al⟩ := a
      exact ⟨p, e, ⟨xs, SqT.mono r1.kp.sub hq⟩, h _ H1 G1 r1 s1 (it_tup hq al)⟩
    | _ => exact h.elim
def rng1 : List D → R (List D)
  | [.int j] => if -(2 ^ 62) ≤ j ∧ j < 2 ^ 62 then .ok (rangeD 0 j.toNat) else .bad
  | _ => .bad
theorem AtL.ints1 {K : PySem.W.Frag} {G : Hp} {j : Int} {vs : List V} (a : AtL K G [.int j] vs) : vs = [.int j] := by
  simp only [AtL, At] at a
  obtain ⟨v, r, rfl, rfl, rfl⟩ := a
  rfl
theorem AtL.ints2 {K : PySem.W.Frag} {G : Hp} {i j : Int} {vs : List V} (a : AtL K G [.int i, .int j] vs) : vs = [.int i, .int j] := by
  simp only [AtL, At] at a
  obtain ⟨v, r, rfl, rfl, v, r, rfl, rfl, rfl⟩ := a
  rfl
def mR1 (m : MA) : MA := fun ρ => (m ρ).bind rng1
theorem i_r1 {m : MA} : ImpI (tI F (mR1 m)) (iRng1 (tA F m)) := by
  rintro σ H Q ⟨G, ρ, r, h⟩
  unfold mR1 at h
  refine ⟨G, ρ, r, ?_⟩
  cases ea : m ρ with
  | bad => rw [ea] at h; exact h.elim
  | exc c => rw [ea] at h; exact h
  | ok ds =>
    rw [ea, R.bind_ok] at h
    intro vs H1 G1 r1 s1 a
    unfold rng1 at h
    split at h
    · rename_i j
      split at h
      · rename_i hj
        exact ⟨j, a.ints1, hj.1, hj.2, h _ H1 G1 r1 s1 (it_rng 0 j.toNat)⟩
      · exact h.elim
    · exact h.elim
inductive Rt where
  | v (d : D) | o (ds : List D) | t (t : T)
def kC (F : Fx) (Q : VK) : R Rt → Prop
  | .ok (.v d) => ∀ v G' H', Kp F G' H' → At F.K G' d v → Q v H'
  | .ok (.o ds) => ∀ a xs G' H', Kp F G' H' → G' a = none → F.H0 a = none → H' a = some (.lst xs) → AtL F.K G' ds xs → Q (.ref a) H'
  | .ok (.t t) => ∀ v G' H', Kp F G' H' → TrOk F G' H' t v → Q v H'
  | .exc c => kX F c
  | .bad => False
def spM (K : PySem.W.Frag) (n : Nat) (xe : XK → Str → Hp → Prop) (mf : List D → R Rt) : Sp := fun vs H Q E => ∃ G ds, Sub G H ∧ AtL K G ds vs ∧ ds.length = n ∧ kC ⟨K, G, H, xe E⟩ Q (mf ds)
theorem spM_len {K : PySem.W.Frag} {n : Nat} {xe : XK → Str → Hp → Prop} {mf : List D → R Rt} : ∀ vs H Q E, spM K n xe mf vs H Q E → vs.length = n := fun vs H Q E h => by
  obtain ⟨G, ds, _, a, l, _⟩ := h
  rw [← a.length]; exact l
def outD : Fl → R Rt
  | .nx _ => .ok (.v .non)
  | .rt d => .ok (.v d)
  | .ro ds => .ok (.o ds)
  | .rn t => .ok (.t t)
  | _ => .bad
def ini (N : Nat) (ds : List D) : Rho := ds.map .fz ++ List.replicate (N - ds.length) .un
def mDef (N : Nat) (m : MS) (ds : List D) : R Rt := (m (ini N ds)).bind outD
def startN (N : Nat) (vs : List V) : St := vs.map some ++ List.replicate (N - vs.length) none
theorem rel_start {K : PySem.W.Frag} {G H : Hp} {EX : Str → Hp → Prop} {N : Nat} {ds : List D} {vs : List V} (s : Sub G H) (a : AtL K G ds vs) : Rel ⟨K, G, H, EX⟩ G H (startN N vs) (ini N ds) := by
  have hl := a.length
  refine ⟨⟨s, Sub.refl _, Sub.refl _, fun _ _ => rfl⟩, by simp [startN, ini, hl], fun i t e => ?_, fun i j b es es' o o' e1 e2 _ _ f _ => ?_⟩
  · unfold ini at e
    unfold startN
    by_cases hi : i < ds.length
    · rw [List.getElem?_append_left (by simpa using hi), List.getElem?_map, List.getElem?_eq_getElem hi] at e
      obtain ⟨v, e1, av⟩ := a.get (List.getElem?_eq_getElem hi)
      rw [List.getElem?_append_left (by rw [List.length_map, ← hl]; exact hi), List.getElem?_map, e1]
      have et : Sl.fz ds[i] = t := Option.some.inj e
      subst et
      exact ⟨some v, rfl, v, rfl, av⟩
    · rw [List.getElem?_append_right (by simpa using hi), List.getElem?_replicate] at e
      rw [List.getElem?_append_right (by rw [List.length_map, ← hl]; omega), List.getElem?_replicate, List.length_map, ← hl]
      rw [List.length_map] at e
      split at e
      · rename_i hh
        rw [if_pos hh]
        cases e
        exact ⟨none, rfl, trivial⟩
      · cases e
  · exfalso
    unfold ini at e1
    by_cases hi : i < ds.length
    · rw [List.getElem?_append_left (by simpa using hi), List.getElem?_map, List.getElem?_eq_getElem hi] at e1
      cases e1; exact f
    · rw [List.getElem?_append_right (by simpa using hi), List.getElem?_replicate] at e1
      split at e1
      · cases e1; exact f
      · cases e1
theorem body_of {K : PySem.W.Frag} {xe : XK → Str → Hp → Prop} {n N : Nat} {m : MS} {vs : List V} {H : Hp} {Q : VK} {E : XK} (h : spM K n xe (mDef N m) vs H Q E) :
    ∃ G, tS ⟨K, G, H, xe E⟩ m { nx := fun _ H' => Q .non H', rt := Q } (startN N vs) H := by
  obtain ⟨G, ds, s, a, l, k⟩ := h
  refine ⟨G, G, ini N ds, rel_start s a, ?_⟩
  unfold mDef at k
  cases e : m (ini N ds) with
  | bad => rw [e] at k; exact k.elim
  | exc c => rw [e] at k; exact k
  | ok f =>
    rw [e, R.bind_ok] at k
    cases f with
    | nx ρ => exact fun σ' G' H' r _ => k .non G' H' r.kp (by simp only [At])
    | rt d => exact k
    | ro ds => exact k
    | rn t => exact k
    | bk ρ => exact k.elim
    | ct ρ => exact k.elim
theorem Kp.of {G H G' H' : Hp} {σ : St} {ρ : Rho} {EX : Str → Hp → Prop} (r : Rel F G H σ ρ) (k : Kp ⟨F.K, G, H, EX⟩ G' H') : Rel F G' H' σ ρ := r.grow k.gg k.sub k.hh fun b hb => k.new b hb
def rtD : Rt → R D
  | .v d => .ok d
  | .o ds => .ok (.lst ds)
  | .t t => .ok (toD t)
def rtO : Rt → R (List D)
  | .o ds => .ok ds
  | _ => .bad
def gAdd (A : List Addr) (G H : Hp) : Hp := fun b => if b ∈ A then H b else G b
theorem Rel.takeT {G H G0 H0 : Hp} {σ : St} {ρ : Rho} (r : Rel F G H σ ρ) {F' : Fx} {t : T} {v : V} (hK : F'.K = F.K) (q : TrOk F' G H t v) (u : Up G0 H0 G H) (n : ∀ b ∈ fp H t v, H0 b = none ∧ F.H0 b = none ∧ ¬ OwnAt H σ ρ b) :
    Rel F (gAdd (fp H t v) G H) H σ ρ ∧ Up G0 H0 (gAdd (fp H t v) G H) H ∧ At F.K (gAdd (fp H t v) G H) (toD t) v := by
  have sg : Sub G (gAdd (fp H t v) G H) := fun b o e => by
    unfold gAdd
    by_cases hb : b ∈ fp H t v
    · rw [(q.own b hb).1] at e; cases e
    · rw [if_neg hb]; exact e
  refine ⟨r.over rfl ⟨fun b o e => ?_, r.kp.gg.trans sg, r.kp.hh, fun b hb => ?_⟩ sg fun a ha => ?_, ⟨u.g.trans sg, u.h, fun b hb => ?_⟩, ?_⟩
  · unfold gAdd at e
    split at e
    · exact e
    · exact r.kp.sub b o e
  · unfold gAdd
    rw [if_neg (fun z => hb (n b z).2.1)]
    exact r.kp.new b hb
  · obtain ⟨h1, h2, h3⟩ := r.foot ha
    refine ⟨rfl, ?_, h3⟩
    unfold gAdd
    rw [if_neg (fun z => (n a z).2.2 ha)]; exact h2
  · unfold gAdd
    rw [if_neg (fun z => hb (n b z).1)]
    exact u.n b hb
  · rw [← hK]
    exact q.at_.view sg fun a ha => by unfold gAdd; rw [if_pos ha]
def mCall (n : Nat) (mf : List D → R Rt) (m : MA) : ME := fun ρ => (m ρ).bind fun ds => if ds.length = n then (mf ds).bind rtD else .bad
def mCallO (n : Nat) (mf : List D → R Rt) (m : MA) : MA := fun ρ => (m ρ).bind fun ds => if ds.length = n then (mf ds).bind rtO else .bad
theorem i_call {n : Nat} {mf : List D → R Rt} {m : MA} {xe : XK → Str → Hp → Prop} {E : XK} (hx : F.EX = xe E) : ImpE (tE F (mCall n mf m)) (tCall (spM F.K n xe mf) [] E (tA F m)) := by
  rintro σ H Q ⟨G, ρ, r, h⟩
  unfold mCall at h
  refine ⟨G, ρ, r, ?_⟩
  cases ea : m ρ with
  | bad => rw [ea] at h; exact h.elim
  | exc c => rw [ea] at h; exact h
  | ok ds =>
    rw [ea, R.bind_ok] at h
    intro vs H1 G1 r1 s1 a
    by_cases hn : ds.length = n
    · rw [if_pos hn] at h
      rw [List.append_nil]
      refine ⟨G1, ds, r1.kp.sub, a, hn, ?_⟩
      cases e : mf ds with
      | bad => rw [e] at h; exact h.elim
      | exc c =>
        rw [e] at h
        intro G' H' k
        have z := h G' H' (Kp.of r1 k).kp
        rw [hx] at z
        exact z
      | ok t =>
        rw [e, R.bind_ok] at h
        cases t with
        | v d => exact fun v G' H' k av => h v H' G' (Kp.of r1 k) (s1.trans ⟨k.gg, k.hh, k.new⟩) av
        | o es =>
          intro p xs G' H' k h1 h2 h3 h4
          have h2 : H1 p = none := h2
          have r' := Kp.of r1 k
          have no : ¬ OwnAt H' σ ρ p := OwnAt.fresh r1 k.hh h2
          refine h (.ref p) H' _ (r'.take h3 h1 (r1.kp.hh.gone h2) no) ((s1.trans ⟨k.gg, k.hh, k.new⟩).put (s1.h.gone h2) h1) ?_
          simp only [At]
          exact ⟨p, xs, rfl, upd_same, h4.mono (Sub.upd h1)⟩
        | t t =>
          intro v G' H' k q
          obtain ⟨a1, a2, a3⟩ := (Kp.of r1 k).takeT (F' := ⟨F.K, G1, H1, xe E⟩) rfl q (s1.trans ⟨k.gg, k.hh, k.new⟩) fun b hb => ⟨s1.h.gone (q.own b hb).2, r1.kp.hh.gone (q.own b hb).2, OwnAt.fresh r1 k.hh (q.own b hb).2⟩
          exact h v H' _ a1 a2 a3
    · rw [if_neg hn] at h; exact h.elim
theorem i_callO {n : Nat} {mf : List D → R Rt} {m : MA} {xe : XK → Str → Hp → Prop} {E : XK} (hx : F.EX = xe E) : ImpE (tO F (mCallO n mf m)) (tCall (spM F.K n xe mf) [] E (tA F m)) := by
  rintro σ H Q ⟨G, ρ, r, h⟩
  unfold mCallO at h
  refine ⟨G, ρ, r, ?_⟩
  cases ea : m ρ with
  | bad => rw [ea] at h; exact h.elim
  | exc c => rw [ea] at h; exact h
  | ok ds =>
    rw [ea, R.bind_ok] at h
    intro vs H1 G1 r1 s1 a
    by_cases hn : ds.length = n
    · rw [if_pos hn] at h
      rw [List.append_nil]
      refine ⟨G1, ds, r1.kp.sub, a, hn, ?_⟩
      cases e : mf ds with
      | bad => rw [e] at h; exact h.elim
      | exc c =>
        rw [e] at h
        intro G' H' k
        have z := h G' H' (Kp.of r1 k).kp
        rw [hx] at z
        exact z
      | ok t =>
        rw [e, R.bind_ok] at h
        cases t with
        | v d => exact h.elim
        | t t => exact h.elim
        | o es =>
          intro p xs G' H' k h1 h2 h3 h4
          have h2 : H1 p = none := h2
          have r' := Kp.of r1 k
          exact h p xs H' G' r' (s1.trans ⟨k.gg, k.hh, k.new⟩) (s1.h.gone h2) h3 h1 h4
    · rw [if_neg hn] at h; exact h.elim
end
end L3
set_option Elab.async false
set_option linter.all false
set_option maxRecDepth 100000
namespace L3
open PySem PySem.Spec L2
def capS : Sl → Sl
  | .fz d => .fz d
  | _ => .un
def blkR (nl : Nat) (caps : List Nat) (ρ : Rho) : Rho := List.replicate nl .un ++ caps.map fun j => capS (ρ.getD j .un)
def compGo (set : D → Rho → R Rho) (tst : MT) (elt : ME) : List D → Rho → List D → R (List D)
  | [], _, ws => .ok ws
  | d :: ds, ρ, ws => (set d ρ).bind fun ρ1 => (tst ρ1).bind fun b => if b = true then (elt ρ1).bind fun y => if ws.length < 1000000 then compGo set tst elt ds ρ1 (ws ++ [y]) else .bad else compGo set tst elt ds ρ1 ws
def noX {α : Type} : R α → R α
  | .exc _ => .bad
  | r => r
def mComp (nl : Nat) (caps : List Nat) (mi : MA) (set : D → Rho → R Rho) (tst : MT) (elt : ME) : MA := fun ρ => (mi ρ).bind fun ds => noX (compGo set tst elt ds (blkR nl caps ρ) [])
def fxB (K : PySem.W.Frag) (G H : Hp) : Fx := ⟨K, G, H, fun _ _ => False⟩
def xT (K : PySem.W.Frag) (m : MT) : TT := fun σ H Q => ∃ G0 H0, tT (fxB K G0 H0) m σ H Q
def xE (K : PySem.W.Frag) (m : ME) : TE := fun σ H Q => ∃ G0 H0, tE (fxB K G0 H0) m σ H Q
def plS : Sl → Bool
  | .un => true | .fz _ => true
  | _ => false
theorem plS_foot {H : Hp} {s : Sl} (h : plS s = true) (o : Option V) (a : Addr) : ¬ Foot H s o a := by
  cases s <;> first
    | exact fun z => z
    | cases h
def NoOw (ρ : Rho) : Prop := ∀ (i : Nat) (s : Sl), ρ[i]? = some s → plS s = true
theorem noOw_blk (nl : Nat) (caps : List Nat) (ρ : Rho) : NoOw (blkR nl caps ρ) := fun i s e1 => by
  unfold blkR at e1
  by_cases hi : i < nl
  · rw [List.getElem?_append_left (by simpa using hi), List.getElem?_replicate, if_pos hi] at e1
    cases e1; rfl
  · rw [List.getElem?_append_right (by simpa using hi), List.length_replicate, List.getElem?_map] at e1
    cases ej : caps[i - nl]? with
    | none => rw [ej] at e1; cases e1
    | some j =>
      rw [ej] at e1
      have es : capS (ρ.getD j .un) = s := Option.some.inj e1
      subst es
      cases hs : ρ.getD j .un <;> rfl
def Keeps (set : D → Rho → R Rho) : Prop := ∀ d ρ ρ', set d ρ = .ok ρ' → NoOw ρ → NoOw ρ'
theorem setV_keeps (i : Nat) : Keeps (setV i) := fun d ρ ρ' e n j ds z => by
  unfold setV at e
  split at e
  · cases e
    rcases get_set z with ⟨_, z⟩ | ⟨_, z⟩
    · subst z; rfl
    · exact n j ds z
  · cases e
theorem setL_keeps : ∀ {fs : List (D → Rho → R Rho)}, (∀ f ∈ fs, Keeps f) → ∀ ds ρ ρ', setL fs ds ρ = .ok ρ' → NoOw ρ → NoOw ρ'
  | [], _, [], _, _, e, n => by cases e; exact n
  | [], _, _ :: _, _, _, e, _ => by cases e
  | _ :: _, _, [], _, _, e, _ => by cases e
  | f :: fs, h, d :: ds, ρ, ρ', e, n => by
    simp only [setL] at e
    cases e1 : f d ρ with
    | bad => rw [e1] at e; cases e
    | exc c => rw [e1] at e; cases e
    | ok ρ1 => rw [e1, R.bind_ok] at e; exact setL_keeps (fun g hg => h g (by simp [hg])) ds ρ1 ρ' e (h f (by simp) d ρ ρ1 e1 n)
theorem setT_keeps {fs : List (D → Rho → R Rho)} (h : ∀ f ∈ fs, Keeps f) : Keeps (setT fs) := fun d ρ ρ' e n => by
  cases d <;> first
    | (exact setL_keeps h _ _ _ e n)
    | (cases e)
section
variable {F : Fx}
theorem rel_block {G H : Hp} {σ : St} {ρ : Rho} (r : Rel F G H σ ρ) {acc : Addr} (ha : H acc = none) (nl : Nat) (caps : List Nat) :
    Rel (fxB F.K G H) G (upd H acc (.lst [])) (blkS nl caps σ) (blkR nl caps ρ) := by
  refine ⟨⟨Sub.upd2 r.kp.sub (r.kp.sub.gone ha), Sub.refl _, Sub.upd ha, fun _ _ => rfl⟩, by simp [blkS, blkR], fun i s e => ?_, fun i j b s s' o o' e1 _ _ _ f _ => ?_⟩
  · unfold blkR at e
    unfold blkS
    by_cases hi : i < nl
    · rw [List.getElem?_append_left (by simpa using hi), List.getElem?_replicate, if_pos hi] at e
      rw [List.getElem?_append_left (by simpa using hi), List.getElem?_replicate, if_pos hi]
      cases e
      exact ⟨none, rfl, trivial⟩
    · rw [List.getElem?_append_right (by simpa using hi), List.length_replicate, List.getElem?_map] at e
      rw [List.getElem?_append_right (by simpa using hi), List.length_replicate, List.getElem?_map]
      cases ej : caps[i - nl]? with
      | none => rw [ej] at e; cases e
      | some j =>
        rw [ej] at e
        refine ⟨σ.getD j none, rfl, ?_⟩
        have es : capS (ρ.getD j .un) = s := Option.some.inj e
        subst es
        cases er : ρ[j]? with
        | none =>
          have eg : ρ.getD j .un = .un := by rw [List.getD_eq_getElem?_getD, er]; rfl
          rw [eg]; exact trivial
        | some t =>
          have eg : ρ.getD j .un = t := by rw [List.getD_eq_getElem?_getD, er]; rfl
          rw [eg]
          obtain ⟨o, e1, q⟩ := r.sl j t er
          cases t with
          | un => exact trivial
          | ob ds => exact trivial
          | tr t => exact trivial
          | fz d =>
            obtain ⟨v, e2, a⟩ := q
            refine ⟨v, ?_, a⟩
            rw [List.getD_eq_getElem?_getD, e1, e2]
            rfl
  · exact absurd f (plS_foot (noOw_blk nl caps ρ i s e1) o b)
theorem i_comp {nl : Nat} {caps : List Nat} {mi : MA} {set : D → Rho → R Rho} {tst : MT} {elt : ME} {g : TG} (hg : ∀ G H, GOk (fxB F.K G H) g set) (hx : ∀ d ρ c, set d ρ ≠ .exc c) (hk : Keeps set) :
    ImpE (tO F (mComp nl caps mi set tst elt)) (tComp (tI F mi) g (xT F.K tst) (xE F.K elt) nl caps) := by
  rintro σ H Q ⟨G, ρ, r, h⟩
  unfold mComp at h
  refine ⟨G, ρ, r, ?_⟩
  cases ea : mi ρ with
  | bad => rw [ea] at h; exact h.elim
  | exc c => rw [ea] at h; exact h
  | ok ds =>
    rw [ea, R.bind_ok] at h
    intro J H1 G1 r1 u1 it acc ha
    cases er : compGo set tst elt ds (blkR nl caps ρ) [] with
    | bad => rw [er] at h; exact h.elim
    | exc c => rw [er] at h; exact h.elim
    | ok res =>
      rw [er] at h
      refine ⟨fun i m σ2 H2 => m = ds.length - i ∧ i ≤ ds.length ∧ ∃ G2 ρ2 ys ws, Rel (fxB F.K G1 H1) G2 H2 σ2 ρ2 ∧ NoOw ρ2 ∧ H2 acc = some (.lst ys) ∧ G2 acc = none ∧ AtL F.K G2 ws ys ∧ compGo set tst elt (ds.drop i) ρ2 ws = .ok res,
        ⟨ds.length, by simp, Nat.zero_le _, G1, _, [], [], rel_block r1 ha nl caps, noOw_blk _ _ _, upd_same, r1.kp.sub.gone ha, .nil, by simpa using er⟩, ?_⟩
      rintro i m σ2 H2 ⟨rfl, hi, G2, ρ2, ys, ws, r2, n2, h1, h2, h3, h4⟩
      have sg : Sub G1 G2 := r2.kp.gg
      by_cases hlt : i < ds.length
      · refine .inr ⟨it.go i H2 (sg.trans r2.kp.sub) hlt, fun x H3 y => ?_⟩
        obtain ⟨d, G3, e3, r3, u3, a3⟩ := ItOk.turn (F := fxB F.K G1 H1) it r2 sg hlt y
        have ed : ds.drop i = d :: ds.drop (i + 1) := by
          rw [List.drop_eq_getElem_cons hlt]
          have := List.getElem?_eq_getElem hlt
          rw [e3] at this
          rw [Option.some.inj this]
        rw [ed] at h4
        simp only [compGo] at h4
        cases e4 : set d ρ2 with
        | bad => rw [e4] at h4; cases h4
        | exc c => exact absurd e4 (hx d ρ2 c)
        | ok ρ4 =>
          rw [e4, R.bind_ok] at h4
          refine hg G1 H1 σ2 ρ2 G3 H3 x d _ ρ4 r3 a3 e4 fun σ5 r5 => ⟨G1, H1, G3, ρ4, r5, ?_⟩
          have n4 : NoOw ρ4 := hk d ρ2 ρ4 e4 n2
          have acc3 : H3 acc = some (.lst ys) := u3.h _ _ h1
          have g3 : G3 acc = none := by rw [u3.n acc (by rw [h1]; exact fun z => nomatch z)]; exact h2
          cases e5 : tst ρ4 with
          | bad => rw [e5] at h4; cases h4
          | exc c => rw [e5] at h4; cases h4
          | ok b =>
            rw [e5, R.bind_ok] at h4
            intro H6 G6 r6 u6
            have acc6 : H6 acc = some (.lst ys) := u6.h _ _ acc3
            have g6 : G6 acc = none := by rw [u6.n acc (by rw [acc3]; exact fun z => nomatch z)]; exact g3
            have a6 : AtL F.K G6 ws ys := (h3.mono u3.g).mono u6.g
            cases b with
            | false =>
              rw [if_neg Bool.false_ne_true] at h4
              rw [if_neg Bool.false_ne_true]
              exact ⟨_, by omega, rfl, hlt, G6, ρ4, ys, ws, r6, n4, acc6, g6, a6, h4⟩
            | true =>
              rw [if_pos rfl] at h4
              rw [if_pos rfl]
              refine ⟨G1, H1, G6, ρ4, r6, ?_⟩
              cases e7 : elt ρ4 with
              | bad => rw [e7] at h4; cases h4
              | exc c => rw [e7] at h4; cases h4
              | ok y =>
                rw [e7, R.bind_ok] at h4
                intro yv H8 G8 r8 u8 a8
                have acc8 : H8 acc = some (.lst ys) := u8.h _ _ acc6
                have g8 : G8 acc = none := by rw [u8.n acc (by rw [acc6]; exact fun z => nomatch z)]; exact g6
                by_cases hl : ws.length < 1000000
                · rw [if_pos hl] at h4
                  have al8 : AtL F.K G8 ws ys := a6.mono u8.g
                  refine ⟨ys, acc8, by rw [← al8.length]; exact Nat.lt_trans hl (by decide), _, by omega, rfl, hlt, G8, ρ4, ys ++ [yv], ws ++ [y], ?_, n4, upd_same, g8, al8.snoc a8, h4⟩
                  -- the heap with the longer list
                  have k0 : (fxB F.K G1 H1).H0 acc = none := ha
                  refine ⟨⟨Sub.upd2 r8.kp.sub g8, r8.kp.gg, fun c o z => ?_, r8.kp.new⟩, r8.len, fun j t z => ?_, fun j k b s s' o o' y1 _ _ _ f _ => absurd f (plS_foot (n4 j s y1) o b)⟩
                  · rw [upd_ne (ne_of_none z k0)]; exact r8.kp.hh c o z
                  · obtain ⟨o, z1, z2⟩ := r8.sl j t z
                    refine ⟨o, z1, ?_⟩
                    cases t with
                    | un => exact trivial
                    | fz d => exact z2
                    | ob es => exact absurd (n4 j _ z) (fun w => nomatch w)
                    | tr es => exact absurd (n4 j _ z) (fun w => nomatch w)
                · rw [if_neg hl] at h4; cases h4
      · have e : ds.drop i = [] := List.drop_eq_nil_of_le (by omega)
        rw [e] at h4
        simp only [compGo] at h4
        cases h4
        have ei : i = ds.length := by omega
        subst ei
        refine .inl ⟨it.stop H2 (sg.trans r2.kp.sub), ?_⟩
        have k : Kp ⟨F.K, G1, H1, fun _ _ => False⟩ G2 H2 := r2.kp
        exact h acc ys H2 G2 (Kp.of r1 k) (u1.trans ⟨k.gg, k.hh, k.new⟩) (u1.h.gone ha) h1 h2 h3
end
end L3
set_option Elab.async false
set_option linter.all false
set_option maxRecDepth 100000
namespace L3
open PySem PySem.Spec L2
mutual
def eqD : D → D → Bool
  | .non, .non => true
  | .bl a, .bl b => a == b
  | .bl a, .int b => (if a then 1 else 0) == b
  | .int a, .bl b => a == (if b then 1 else 0)
  | .int a, .int b => a == b
  | .str a, .str b => a == b
  | .tup xs, .tup ys => eqL xs ys
  | .tup xs, .ktp ys => eqL xs ys
  | .ktp xs, .tup ys => eqL xs ys
  | .ktp xs, .ktp ys => eqL xs ys
  | .lst xs, .lst ys => eqL xs ys
  | .lst xs, .scr ys => eqL xs ys
  | .scr xs, .lst ys => eqL xs ys
  | .scr xs, .scr ys => eqL xs ys
  | _, _ => false
def eqL : List D → List D → Bool
  | [], [] => true
  | x :: xs, y :: ys => eqD x y && eqL xs ys
  | _, _ => false
end
def okN : Nat → D → Bool
  | _, .non => true
  | _, .bl _ => true
  | _, .int _ => true
  | _, .str _ => true
  | n + 1, .tup xs => xs.all (okN n)
  | n + 1, .ktp xs => xs.all (okN n)
  | n + 1, .lst xs => xs.all (okN n)
  | n + 1, .scr xs => xs.all (okN n)
  | _, _ => false
inductive Sh (s : Shared) (P : D → Value → Prop) : D → Value → Prop where
  | non : Sh s P .non .none
  | bl (b : Bool) : Sh s P (.bl b) (.bool b)
  | int (i : Int) (t : Tok) : Sh s P (.int i) (.int i t)
  | str (x : Str) (t : Tok) : Sh s P (.str x) (.str x t)
  | tup (a : Addr) (ds : List D) (its : List Value) (h : s.heap.IsTuple a its.toArray) (l : ds.length = its.length) (p : ∀ (i : Nat) d u, ds[i]? = some d → its[i]? = some u → P d u) : Sh s P (.tup ds) (.ref a)
  | ktp (a : Addr) (ds : List D) (its : List Value) (h : s.heap.IsTuple a its.toArray) (l : ds.length = its.length) (p : ∀ (i : Nat) d u, ds[i]? = some d → its[i]? = some u → P d u) : Sh s P (.ktp ds) (.ref a)
  | lst (a : Addr) (ds : List D) (its : List Value) (h : s.heap.IsList a its.toArray) (l : ds.length = its.length) (p : ∀ (i : Nat) d u, ds[i]? = some d → its[i]? = some u → P d u) : Sh s P (.lst ds) (.ref a)
  | scr (a : Addr) (ds : List D) (its : List Value) (h : s.heap.IsList a its.toArray) (l : ds.length = its.length) (p : ∀ (i : Nat) d u, ds[i]? = some d → its[i]? = some u → P d u) : Sh s P (.scr ds) (.ref a)
def AtU (K : PySem.W.Frag) (G : Hp) (d : D) (u : Value) : Prop := ∃ x, At K G d x ∧ RelV x u
section
variable {X : Cx} {pins : List (Addr × Obj)} {σ : St} {H G : Hp} {s : Shared}
theorem items_at {K : PySem.W.Frag} {ds : List D} {xs : List V} {its : List Value} (q : AtL K G ds xs) (r : Vals xs its) : ∀ (i : Nat) d u, ds[i]? = some d → its[i]? = some u → AtU K G d u := fun i d u e1 e2 => by
  obtain ⟨v, e3, a⟩ := q.get e1
  obtain ⟨u', e4, rv⟩ := r.get e3
  rw [e2] at e4; cases e4
  exact ⟨v, a, rv⟩
theorem sh_of (I : Inv X pins σ H s) (sg : Sub G H) {d : D} {u : Value} {n : Nat} (ok : okN n d = true) (h : AtU X.K G d u) : Sh s (AtU X.K G) d u := by
  obtain ⟨x, a, r⟩ := h
  cases d with
  | non => simp only [At] at a; subst a; cases r; exact .non
  | bl b => simp only [At] at a; subst a; cases r; exact .bl b
  | int i => simp only [At] at a; subst a; obtain ⟨t, rfl⟩ := r; exact .int i t
  | str i => simp only [At] at a; subst a; obtain ⟨t, rfl⟩ := r; exact .str i t
  | tup ds =>
    simp only [At] at a
    obtain ⟨p, xs, rfl, hq, al⟩ := a
    cases r
    obtain ⟨its, rv, ht, _⟩ := I.tuple (SqT.of (sg _ _ hq))
    exact .tup p ds its ht (al.length.trans rv.length) (items_at al rv)
  | lst ds =>
    simp only [At] at a
    obtain ⟨p, xs, rfl, hq, al⟩ := a
    cases r
    obtain ⟨its, rv, ht, _⟩ := I.list (SqL.of (sg _ _ hq))
    exact .lst p ds its ht.isList (al.length.trans rv.length) (items_at al rv)
  | scr ds =>
    simp only [At] at a
    obtain ⟨p, xs, rfl, hq, al⟩ := a
    cases r
    obtain ⟨its, rv, ht, _⟩ := I.list (SqL.mono sg hq)
    exact .scr p ds its ht.isList (al.length.trans rv.length) (items_at al rv)
  | dK ks xs => cases n <;> cases ok
  | dT ks xs => cases n <;> cases ok
  | ins C ns xs => cases n <;> cases ok
  | exo C => cases n <;> cases ok
  | ktp ds =>
    simp only [At] at a
    obtain ⟨p, xs, rfl, hq, al⟩ := a
    cases r
    obtain ⟨its, rv, ht, _⟩ := I.tuple (SqT.mono sg hq)
    exact .ktp p ds its ht (al.length.trans rv.length) (items_at al rv)
theorem eqL_len : ∀ {xs ys : List D}, xs.length ≠ ys.length → eqL xs ys = false
  | [], [], h => absurd rfl h
  | [], _ :: _, _ => by simp only [eqL]
  | _ :: _, [], _ => by simp only [eqL]
  | x :: xs, y :: ys, h => by
    simp only [eqL]
    rw [eqL_len (fun e => h (by simp [e])), Bool.and_false]
def ixE (xs ys : List D) (j : Nat) : Bool := match xs[j]?, ys[j]? with
  | some x, some y => eqD x y
  | _, _ => true
theorem all_shift (f : Nat → Bool) (n : Nat) : (List.range (n + 1)).all f = (f 0 && (List.range n).all fun j => f (j + 1)) := by
  rw [List.range_succ_eq_map, List.all_cons, List.all_map]
  rfl
theorem eqL_range : ∀ {xs ys : List D}, xs.length = ys.length → (List.range xs.length).all (ixE xs ys) = eqL xs ys
  | [], [], _ => by simp [eqL]
  | [], _ :: _, h => by simp at h
  | _ :: _, [], h => by simp at h
  | x :: xs, y :: ys, h => by
    rw [List.length_cons, all_shift]
    have e : (fun j => ixE (x :: xs) (y :: ys) (j + 1)) = ixE xs ys := by
      funext j
      simp [ixE]
    rw [e, eqL_range (by simpa using h)]
    simp only [eqL]
    rfl
theorem in1_units (A : Around) : A.in1.units = A.units + 1 := rfl
theorem scal_eq {A : Around} {P : D → Value → Prop} {d1 d2 : D} {u v : Value} (h1 : Sh s P d1 u) (h2 : Sh s P d2 v) (o1 : scalD d1 = true) (o2 : scalD d2 = true) :
    SeqAt.EqAt A s u v (eqD d1 d2) ∧ SeqAt.RcAt A s u v (eqD d1 d2) ∧ SeqAt.RcNeAt A s u v (!eqD d1 d2) := by
  cases h1 with
  | non =>
    cases h2 with
    | non => simp only [eqD]; exact ⟨SeqAt.EqAt.same _, SeqAt.RcAt.none_none, SeqAt.RcNeAt.none_none⟩
    | bl b2 => simp only [eqD]; exact ⟨SeqAt.EqAt.none_bool _, SeqAt.RcAt.none_bool _, SeqAt.RcNeAt.none_bool _⟩
    | int i2 t2 => simp only [eqD]; exact ⟨SeqAt.EqAt.none_int _ _, SeqAt.RcAt.none_int _ _, SeqAt.RcNeAt.none_int _ _⟩
    | str x2 t2 => simp only [eqD]; exact ⟨SeqAt.EqAt.none_str _ _, SeqAt.RcAt.none_str _ _, SeqAt.RcNeAt.none_str _ _⟩
    | tup => cases o2
    | ktp => cases o2
    | lst => cases o2
    | scr => cases o2
  | bl b1 =>
    cases h2 with
    | non => simp only [eqD]; exact ⟨SeqAt.EqAt.bool_none _, SeqAt.RcAt.bool_none _, SeqAt.RcNeAt.bool_none _⟩
    | bl b2 => simp only [eqD]; exact ⟨SeqAt.EqAt.bool_bool _ _, SeqAt.RcAt.bool_bool _ _, SeqAt.RcNeAt.bool_bool _ _⟩
    | int i2 t2 => simp only [eqD]; exact ⟨SeqAt.EqAt.bool_int _ _ _, SeqAt.RcAt.bool_int _ _ _, SeqAt.RcNeAt.bool_int _ _ _⟩
    | str x2 t2 => simp only [eqD]; exact ⟨SeqAt.EqAt.bool_str _ _ _, SeqAt.RcAt.bool_str _ _ _, SeqAt.RcNeAt.bool_str _ _ _⟩
    | tup => cases o2
    | ktp => cases o2
    | lst => cases o2
    | scr => cases o2
  | int i1 t1 =>
    cases h2 with
    | non => simp only [eqD]; exact ⟨SeqAt.EqAt.int_none _ _, SeqAt.RcAt.int_none _ _, SeqAt.RcNeAt.int_none _ _⟩
    | bl b2 => simp only [eqD]; exact ⟨SeqAt.EqAt.int_bool _ _ _, SeqAt.RcAt.int_bool _ _ _, SeqAt.RcNeAt.int_bool _ _ _⟩
    | int i2 t2 => simp only [eqD]; exact ⟨SeqAt.EqAt.int_int _ _ _ _, SeqAt.RcAt.int_int _ _ _ _, SeqAt.RcNeAt.int_int _ _ _ _⟩
    | str x2 t2 => simp only [eqD]; exact ⟨SeqAt.EqAt.int_str _ _ _ _, SeqAt.RcAt.int_str _ _ _ _, SeqAt.RcNeAt.int_str _ _ _ _⟩
    | tup => cases o2
    | ktp => cases o2
    | lst => cases o2
    | scr => cases o2
  | str x1 t1 =>
    cases h2 with
    | non => simp only [eqD]; exact ⟨SeqAt.EqAt.str_none _ _, SeqAt.RcAt.str_none _ _, SeqAt.RcNeAt.str_none _ _⟩
    | bl b2 => simp only [eqD]; exact ⟨SeqAt.EqAt.str_bool _ _ _, SeqAt.RcAt.str_bool _ _ _, SeqAt.RcNeAt.str_bool _ _ _⟩
    | int i2 t2 => simp only [eqD]; exact ⟨SeqAt.EqAt.str_int _ _ _ _, SeqAt.RcAt.str_int _ _ _ _, SeqAt.RcNeAt.str_int _ _ _ _⟩
    | str x2 t2 => simp only [eqD]; exact ⟨SeqAt.EqAt.str_str _ _ _ _, SeqAt.RcAt.str_str _ _ _ _, SeqAt.RcNeAt.str_str _ _ _ _⟩
    | tup => cases o2
    | ktp => cases o2
    | lst => cases o2
    | scr => cases o2
  | tup => cases o1
  | ktp => cases o1
  | lst => cases o1
  | scr => cases o1
theorem mix_eq {A : Around} {P : D → Value → Prop} {d1 d2 : D} {u v : Value} (hu : A.units < cLine) (h1 : Sh s P d1 u) (h2 : Sh s P d2 v) (o : scalD d1 = true ∧ scalD d2 = false ∨ scalD d1 = false ∧ scalD d2 = true) :
    SeqAt.EqAt A s u v (eqD d1 d2) ∧ SeqAt.RcAt A s u v (eqD d1 d2) ∧ SeqAt.RcNeAt A s u v (!eqD d1 d2) := by
  cases h1 with
  | non =>
    cases h2 with
    | non => rcases o with ⟨z1, z2⟩ | ⟨z1, z2⟩ <;> first | (cases z1; done) | (cases z2; done)
    | bl => rcases o with ⟨z1, z2⟩ | ⟨z1, z2⟩ <;> first | (cases z1; done) | (cases z2; done)
    | int => rcases o with ⟨z1, z2⟩ | ⟨z1, z2⟩ <;> first | (cases z1; done) | (cases z2; done)
    | str => rcases o with ⟨z1, z2⟩ | ⟨z1, z2⟩ <;> first | (cases z1; done) | (cases z2; done)
    | tup a2 ds2 its2 h2' l2 p2 => simp only [eqD, Bool.not_false]; exact ⟨SeqAt.EqAt.none_tuple h2' hu, SeqAt.RcAt.none_tuple h2' hu, SeqAt.RcNeAt.none_tuple h2' hu⟩
    | ktp a2 ds2 its2 h2' l2 p2 => simp only [eqD, Bool.not_false]; exact ⟨SeqAt.EqAt.none_tuple h2' hu, SeqAt.RcAt.none_tuple h2' hu, SeqAt.RcNeAt.none_tuple h2' hu⟩
    | lst a2 ds2 its2 h2' l2 p2 => simp only [eqD, Bool.not_false]; exact ⟨SeqAt.EqAt.none_list h2' hu, SeqAt.RcAt.none_list h2' hu, SeqAt.RcNeAt.none_list h2' hu⟩
    | scr a2 ds2 its2 h2' l2 p2 => simp only [eqD, Bool.not_false]; exact ⟨SeqAt.EqAt.none_list h2' hu, SeqAt.RcAt.none_list h2' hu, SeqAt.RcNeAt.none_list h2' hu⟩
  | bl b1 =>
    cases h2 with
    | non => rcases o with ⟨z1, z2⟩ | ⟨z1, z2⟩ <;> first | (cases z1; done) | (cases z2; done)
    | bl => rcases o with ⟨z1, z2⟩ | ⟨z1, z2⟩ <;> first | (cases z1; done) | (cases z2; done)
    | int => rcases o with ⟨z1, z2⟩ | ⟨z1, z2⟩ <;> first | (cases z1; done) | (cases z2; done)
    | str => rcases o with ⟨z1, z2⟩ | ⟨z1, z2⟩ <;> first | (cases z1; done) | (cases z2; done)
    | tup a2 ds2 its2 h2' l2 p2 => simp only [eqD, Bool.not_false]; exact ⟨SeqAt.EqAt.bool_tuple _ h2' hu, SeqAt.RcAt.bool_tuple _ h2' hu, SeqAt.RcNeAt.bool_tuple _ h2' hu⟩
    | ktp a2 ds2 its2 h2' l2 p2 => simp only [eqD, Bool.not_false]; exact ⟨SeqAt.EqAt.bool_tuple _ h2' hu, SeqAt.RcAt.bool_tuple _ h2' hu, SeqAt.RcNeAt.bool_tuple _ h2' hu⟩
    | lst a2 ds2 its2 h2' l2 p2 => simp only [eqD, Bool.not_false]; exact ⟨SeqAt.EqAt.bool_list _ h2' hu, SeqAt.RcAt.bool_list _ h2' hu, SeqAt.RcNeAt.bool_list _ h2' hu⟩
    | scr a2 ds2 its2 h2' l2 p2 => simp only [eqD, Bool.not_false]; exact ⟨SeqAt.EqAt.bool_list _ h2' hu, SeqAt.RcAt.bool_list _ h2' hu, SeqAt.RcNeAt.bool_list _ h2' hu⟩
  | int i1 t1 =>
    cases h2 with
    | non => rcases o with ⟨z1, z2⟩ | ⟨z1, z2⟩ <;> first | (cases z1; done) | (cases z2; done)
    | bl => rcases o with ⟨z1, z2⟩ | ⟨z1, z2⟩ <;> first | (cases z1; done) | (cases z2; done)
    | int => rcases o with ⟨z1, z2⟩ | ⟨z1, z2⟩ <;> first | (cases z1; done) | (cases z2; done)
    | str => rcases o with ⟨z1, z2⟩ | ⟨z1, z2⟩ <;> first | (cases z1; done) | (cases z2; done)
    | tup a2 ds2 its2 h2' l2 p2 => simp only [eqD, Bool.not_false]; exact ⟨SeqAt.EqAt.int_tuple _ _ h2' hu, SeqAt.RcAt.int_tuple _ _ h2' hu, SeqAt.RcNeAt.int_tuple _ _ h2' hu⟩
    | ktp a2 ds2 its2 h2' l2 p2 => simp only [eqD, Bool.not_false]; exact ⟨SeqAt.EqAt.int_tuple _ _ h2' hu, SeqAt.RcAt.int_tuple _ _ h2' hu, SeqAt.RcNeAt.int_tuple _ _ h2' hu⟩
    | lst a2 ds2 its2 h2' l2 p2 => simp only [eqD, Bool.not_false]; exact ⟨SeqAt.EqAt.int_list _ _ h2' hu, SeqAt.RcAt.int_list _ _ h2' hu, SeqAt.RcNeAt.int_list _ _ h2' hu⟩
    | scr a2 ds2 its2 h2' l2 p2 => simp only [eqD, Bool.not_false]; exact ⟨SeqAt.EqAt.int_list _ _ h2' hu, SeqAt.RcAt.int_list _ _ h2' hu, SeqAt.RcNeAt.int_list _ _ h2' hu⟩
  | str x1 t1 =>
    cases h2 with
    | non => rcases o with ⟨z1, z2⟩ | ⟨z1, z2⟩ <;> first | (cases z1; done) | (cases z2; done)
    | bl => rcases o with ⟨z1, z2⟩ | ⟨z1, z2⟩ <;> first | (cases z1; done) | (cases z2; done)
    | int => rcases o with ⟨z1, z2⟩ | ⟨z1, z2⟩ <;> first | (cases z1; done) | (cases z2; done)
    | str => rcases o with ⟨z1, z2⟩ | ⟨z1, z2⟩ <;> first | (cases z1; done) | (cases z2; done)
    | tup a2 ds2 its2 h2' l2 p2 => simp only [eqD, Bool.not_false]; exact ⟨SeqAt.EqAt.str_tuple _ _ h2' hu, SeqAt.RcAt.str_tuple _ _ h2' hu, SeqAt.RcNeAt.str_tuple _ _ h2' hu⟩
    | ktp a2 ds2 its2 h2' l2 p2 => simp only [eqD, Bool.not_false]; exact ⟨SeqAt.EqAt.str_tuple _ _ h2' hu, SeqAt.RcAt.str_tuple _ _ h2' hu, SeqAt.RcNeAt.str_tuple _ _ h2' hu⟩
    | lst a2 ds2 its2 h2' l2 p2 => simp only [eqD, Bool.not_false]; exact ⟨SeqAt.EqAt.str_list _ _ h2' hu, SeqAt.RcAt.str_list _ _ h2' hu, SeqAt.RcNeAt.str_list _ _ h2' hu⟩
    | scr a2 ds2 its2 h2' l2 p2 => simp only [eqD, Bool.not_false]; exact ⟨SeqAt.EqAt.str_list _ _ h2' hu, SeqAt.RcAt.str_list _ _ h2' hu, SeqAt.RcNeAt.str_list _ _ h2' hu⟩
  | tup a1 ds1 its1 h1' l1 p1 =>
    cases h2 with
    | non => simp only [eqD, Bool.not_false]; exact ⟨SeqAt.EqAt.tuple_none h1' hu, SeqAt.RcAt.tuple_none h1' hu, SeqAt.RcNeAt.tuple_none h1' hu⟩
    | bl b2 => simp only [eqD, Bool.not_false]; exact ⟨SeqAt.EqAt.tuple_bool _ h1' hu, SeqAt.RcAt.tuple_bool _ h1' hu, SeqAt.RcNeAt.tuple_bool _ h1' hu⟩
    | int i2 t2 => simp only [eqD, Bool.not_false]; exact ⟨SeqAt.EqAt.tuple_int _ _ h1' hu, SeqAt.RcAt.tuple_int _ _ h1' hu, SeqAt.RcNeAt.tuple_int _ _ h1' hu⟩
    | str x2 t2 => simp only [eqD, Bool.not_false]; exact ⟨SeqAt.EqAt.tuple_str _ _ h1' hu, SeqAt.RcAt.tuple_str _ _ h1' hu, SeqAt.RcNeAt.tuple_str _ _ h1' hu⟩
    | tup => rcases o with ⟨z1, z2⟩ | ⟨z1, z2⟩ <;> first | (cases z1; done) | (cases z2; done)
    | ktp => rcases o with ⟨z1, z2⟩ | ⟨z1, z2⟩ <;> first | (cases z1; done) | (cases z2; done)
    | lst => rcases o with ⟨z1, z2⟩ | ⟨z1, z2⟩ <;> first | (cases z1; done) | (cases z2; done)
    | scr => rcases o with ⟨z1, z2⟩ | ⟨z1, z2⟩ <;> first | (cases z1; done) | (cases z2; done)
  | ktp a1 ds1 its1 h1' l1 p1 =>
    cases h2 with
    | non => simp only [eqD, Bool.not_false]; exact ⟨SeqAt.EqAt.tuple_none h1' hu, SeqAt.RcAt.tuple_none h1' hu, SeqAt.RcNeAt.tuple_none h1' hu⟩
    | bl b2 => simp only [eqD, Bool.not_false]; exact ⟨SeqAt.EqAt.tuple_bool _ h1' hu, SeqAt.RcAt.tuple_bool _ h1' hu, SeqAt.RcNeAt.tuple_bool _ h1' hu⟩
    | int i2 t2 => simp only [eqD, Bool.not_false]; exact ⟨SeqAt.EqAt.tuple_int _ _ h1' hu, SeqAt.RcAt.tuple_int _ _ h1' hu, SeqAt.RcNeAt.tuple_int _ _ h1' hu⟩
    | str x2 t2 => simp only [eqD, Bool.not_false]; exact ⟨SeqAt.EqAt.tuple_str _ _ h1' hu, SeqAt.RcAt.tuple_str _ _ h1' hu, SeqAt.RcNeAt.tuple_str _ _ h1' hu⟩
    | tup => rcases o with ⟨z1, z2⟩ | ⟨z1, z2⟩ <;> first | (cases z1; done) | (cases z2; done)
    | ktp => rcases o with ⟨z1, z2⟩ | ⟨z1, z2⟩ <;> first | (cases z1; done) | (cases z2; done)
    | lst => rcases o with ⟨z1, z2⟩ | ⟨z1, z2⟩ <;> first | (cases z1; done) | (cases z2; done)
    | scr => rcases o with ⟨z1, z2⟩ | ⟨z1, z2⟩ <;> first | (cases z1; done) | (cases z2; done)
  | lst a1 ds1 its1 h1' l1 p1 =>
    cases h2 with
    | non => simp only [eqD, Bool.not_false]; exact ⟨SeqAt.EqAt.list_none h1' hu, SeqAt.RcAt.list_none h1' hu, SeqAt.RcNeAt.list_none h1' hu⟩
    | bl b2 => simp only [eqD, Bool.not_false]; exact ⟨SeqAt.EqAt.list_bool _ h1' hu, SeqAt.RcAt.list_bool _ h1' hu, SeqAt.RcNeAt.list_bool _ h1' hu⟩
    | int i2 t2 => simp only [eqD, Bool.not_false]; exact ⟨SeqAt.EqAt.list_int _ _ h1' hu, SeqAt.RcAt.list_int _ _ h1' hu, SeqAt.RcNeAt.list_int _ _ h1' hu⟩
    | str x2 t2 => simp only [eqD, Bool.not_false]; exact ⟨SeqAt.EqAt.list_str _ _ h1' hu, SeqAt.RcAt.list_str _ _ h1' hu, SeqAt.RcNeAt.list_str _ _ h1' hu⟩
    | tup => rcases o with ⟨z1, z2⟩ | ⟨z1, z2⟩ <;> first | (cases z1; done) | (cases z2; done)
    | ktp => rcases o with ⟨z1, z2⟩ | ⟨z1, z2⟩ <;> first | (cases z1; done) | (cases z2; done)
    | lst => rcases o with ⟨z1, z2⟩ | ⟨z1, z2⟩ <;> first | (cases z1; done) | (cases z2; done)
    | scr => rcases o with ⟨z1, z2⟩ | ⟨z1, z2⟩ <;> first | (cases z1; done) | (cases z2; done)
  | scr a1 ds1 its1 h1' l1 p1 =>
    cases h2 with
    | non => simp only [eqD, Bool.not_false]; exact ⟨SeqAt.EqAt.list_none h1' hu, SeqAt.RcAt.list_none h1' hu, SeqAt.RcNeAt.list_none h1' hu⟩
    | bl b2 => simp only [eqD, Bool.not_false]; exact ⟨SeqAt.EqAt.list_bool _ h1' hu, SeqAt.RcAt.list_bool _ h1' hu, SeqAt.RcNeAt.list_bool _ h1' hu⟩
    | int i2 t2 => simp only [eqD, Bool.not_false]; exact ⟨SeqAt.EqAt.list_int _ _ h1' hu, SeqAt.RcAt.list_int _ _ h1' hu, SeqAt.RcNeAt.list_int _ _ h1' hu⟩
    | str x2 t2 => simp only [eqD, Bool.not_false]; exact ⟨SeqAt.EqAt.list_str _ _ h1' hu, SeqAt.RcAt.list_str _ _ h1' hu, SeqAt.RcNeAt.list_str _ _ h1' hu⟩
    | tup => rcases o with ⟨z1, z2⟩ | ⟨z1, z2⟩ <;> first | (cases z1; done) | (cases z2; done)
    | ktp => rcases o with ⟨z1, z2⟩ | ⟨z1, z2⟩ <;> first | (cases z1; done) | (cases z2; done)
    | lst => rcases o with ⟨z1, z2⟩ | ⟨z1, z2⟩ <;> first | (cases z1; done) | (cases z2; done)
    | scr => rcases o with ⟨z1, z2⟩ | ⟨z1, z2⟩ <;> first | (cases z1; done) | (cases z2; done)
theorem eqL_all : ∀ {xs ys : List D}, xs.length = ys.length → (∀ (i : Nat) x y, xs[i]? = some x → ys[i]? = some y → eqD x y = true) → eqL xs ys = true
  | [], [], _, _ => by simp only [eqL]
  | [], _ :: _, h, _ => by simp at h
  | _ :: _, [], h, _ => by simp at h
  | x :: xs, y :: ys, h, k => by
    simp only [eqL]
    rw [k 0 x y rfl rfl, eqL_all (by simpa using h) fun i a b e1 e2 => k (i + 1) a b (by simpa using e1) (by simpa using e2)]
    rfl
theorem scal_uniq {K : PySem.W.Frag} {d1 d2 : D} {x : V} (o1 : scalD d1 = true) (a1 : At K G d1 x) (a2 : At K G d2 x) : eqD d1 d2 = true := by
  cases d1 with
  | non =>
    simp only [At] at a1; subst a1
    cases d2 <;> simp only [At] at a2 <;> first | (simp only [eqD]; done) | (cases a2; done) | (obtain ⟨a, xs, e, _⟩ := a2; cases e; done) | (obtain ⟨a, dx, xs, e, _⟩ := a2; cases e; done)
  | bl b =>
    simp only [At] at a1; subst a1
    cases d2 <;> simp only [At] at a2 <;> first | (cases a2; simp only [eqD, beq_self_eq_true]; done) | (cases a2; done) | (obtain ⟨a, xs, e, _⟩ := a2; cases e; done) | (obtain ⟨a, dx, xs, e, _⟩ := a2; cases e; done)
  | int b =>
    simp only [At] at a1; subst a1
    cases d2 <;> simp only [At] at a2 <;> first | (cases a2; simp only [eqD, beq_self_eq_true]; done) | (cases a2; done) | (obtain ⟨a, xs, e, _⟩ := a2; cases e; done) | (obtain ⟨a, dx, xs, e, _⟩ := a2; cases e; done)
  | str b =>
    simp only [At] at a1; subst a1
    cases d2 <;> simp only [At] at a2 <;> first | (cases a2; simp only [eqD, beq_self_eq_true]; done) | (cases a2; done) | (obtain ⟨a, xs, e, _⟩ := a2; cases e; done) | (obtain ⟨a, dx, xs, e, _⟩ := a2; cases e; done)
  | _ => cases o1
theorem eqD_comm_scal {d1 d2 : D} (o2 : scalD d2 = true) (o1 : scalD d1 = false) {K : PySem.W.Frag} {x : V} (a1 : At K G d1 x) (a2 : At K G d2 x) : False := by
  cases d2 <;> first
    | (cases o2; done)
    | (simp only [At] at a2; subst a2
       cases d1 <;> first
        | (cases o1; done)
        | (simp only [At] at a1; obtain ⟨a, xs, e, _⟩ := a1; cases e; done)
        | (simp only [At] at a1; obtain ⟨a, dx, xs, e, _⟩ := a1; cases e; done))
inductive Sq (K : PySem.W.Frag) (G : Hp) : D → Addr → Bool → List D → List V → Prop where
  | tup {a ds xs} (h : SqT K G a xs) (q : AtL K G ds xs) : Sq K G (.tup ds) a true ds xs
  | ktp {a ds xs} (h : SqT K G a xs) (q : AtL K G ds xs) : Sq K G (.ktp ds) a true ds xs
  | lst {a ds xs} (h : G a = some (.lst xs)) (q : AtL K G ds xs) : Sq K G (.lst ds) a false ds xs
  | scr {a ds xs} (h : SqL K G a xs) (q : AtL K G ds xs) : Sq K G (.scr ds) a false ds xs
theorem sq_of {K : PySem.W.Frag} {n : Nat} {d : D} {x : V} (o : okN n d = true) (ns : scalD d = false) (a : At K G d x) : ∃ p b ds xs, x = .ref p ∧ Sq K G d p b ds xs ∧ ∃ m, n = m + 1 ∧ ds.all (okN m) = true := by
  cases d with
  | tup ds =>
    simp only [At] at a
    obtain ⟨p, xs, e, h, q⟩ := a
    cases n with
    | zero => cases o
    | succ m => exact ⟨p, _, ds, xs, e, .tup (SqT.of h) q, m, rfl, o⟩
  | lst ds =>
    simp only [At] at a
    obtain ⟨p, xs, e, h, q⟩ := a
    cases n with
    | zero => cases o
    | succ m => exact ⟨p, _, ds, xs, e, .lst h q, m, rfl, o⟩
  | scr ds =>
    simp only [At] at a
    obtain ⟨p, xs, e, h, q⟩ := a
    cases n with
    | zero => cases o
    | succ m => exact ⟨p, _, ds, xs, e, .scr h q, m, rfl, o⟩
  | dK _ _ => cases n <;> cases o
  | dT _ _ => cases n <;> cases o
  | ins _ _ _ => cases n <;> cases o
  | exo _ => cases n <;> cases o
  | ktp ds =>
    simp only [At] at a
    obtain ⟨p, xs, e, h, q⟩ := a
    cases n with
    | zero => cases o
    | succ m => exact ⟨p, _, ds, xs, e, .ktp h q, m, rfl, o⟩
  | _ => cases ns
theorem Sq.atl {K : PySem.W.Frag} {d : D} {p : Addr} {b : Bool} {ds : List D} {xs : List V} (h : Sq K G d p b ds xs) : AtL K G ds xs := by cases h <;> assumption
theorem Sq.eq {K : PySem.W.Frag} {d1 d2 : D} {p1 p2 : Addr} {b1 b2 : Bool} {ds1 ds2 : List D} {xs1 xs2 : List V} (h1 : Sq K G d1 p1 b1 ds1 xs1) (h2 : Sq K G d2 p2 b2 ds2 xs2) : eqD d1 d2 = (b1 == b2 && eqL ds1 ds2) := by
  cases h1 <;> cases h2 <;> simp [eqD]
theorem Sq.heap (I : Inv X pins σ H s) (sg : Sub G H) {d : D} {p : Addr} {b : Bool} {ds : List D} {xs : List V} (h : Sq X.K G d p b ds xs) :
    ∃ its : List Value, Vals xs its ∧ (b = true → s.heap.IsTuple p its.toArray) ∧ (b = false → s.heap.IsList p its.toArray) := by
  cases h with
  | tup h q => obtain ⟨its, rv, ht, _⟩ := I.tuple (SqT.mono sg h); exact ⟨its, rv, fun _ => ht, fun z => by cases z⟩
  | ktp h q => obtain ⟨its, rv, ht, _⟩ := I.tuple (SqT.mono sg h); exact ⟨its, rv, fun _ => ht, fun z => by cases z⟩
  | lst h q => obtain ⟨its, rv, ht, _⟩ := I.list (SqL.of (sg _ _ h)); exact ⟨its, rv, (fun z => by cases z), fun _ => ht.isList⟩
  | scr h q => obtain ⟨its, rv, ht, _⟩ := I.list (SqL.mono sg h); exact ⟨its, rv, (fun z => by cases z), fun _ => ht.isList⟩
theorem Sq.same (I : Inv X pins σ H s) (sg : Sub G H) {d1 d2 : D} {p : Addr} {b1 b2 : Bool} {ds1 ds2 : List D} {xs1 xs2 : List V} (h1 : Sq X.K G d1 p b1 ds1 xs1) (h2 : Sq X.K G d2 p b2 ds2 xs2) : b1 = b2 ∧ xs1 = xs2 := by
  obtain ⟨its1, r1, t1, l1⟩ := h1.heap I sg
  obtain ⟨its2, r2, t2, l2⟩ := h2.heap I sg
  cases b1 with
  | true =>
    cases b2 with
    | false => exact absurd rfl (SeqAt.ne_of_list_tuple (l2 rfl) (t1 rfl))
    | true =>
      refine ⟨rfl, ?_⟩
      cases h1 <;> cases h2 <;>
      exact I.tuple_inj (SqT.mono sg (by assumption)) (SqT.mono sg (by assumption))
  | false =>
    cases b2 with
    | true => exact absurd rfl (SeqAt.ne_of_list_tuple (l1 rfl) (t2 rfl))
    | false =>
      refine ⟨rfl, ?_⟩
      have g1 : SqL X.K H p xs1 := by
        cases h1 with
        | lst h q => exact SqL.of (sg _ _ h)
        | scr h q => exact SqL.mono sg h
      have g2 : SqL X.K H p xs2 := by
        cases h2 with
        | lst h q => exact SqL.of (sg _ _ h)
        | scr h q => exact SqL.mono sg h
      exact I.list_inj g1 g2
theorem all_get {f : D → Bool} {ds : List D} (h : ds.all f = true) {i : Nat} {d : D} (e : ds[i]? = some d) : f d = true := List.all_eq_true.mp h d (List.mem_of_getElem? e)
theorem at_uniq (I : Inv X pins σ H s) (sg : Sub G H) : ∀ (n : Nat) {d1 d2 : D} {x : V}, okN n d1 = true → okN n d2 = true → At X.K G d1 x → At X.K G d2 x → eqD d1 d2 = true := by
  intro n
  induction n with
  | zero =>
    intro d1 d2 x o1 o2 a1 a2
    exact scal_uniq (by cases d1 <;> first | rfl | (cases o1)) a1 a2
  | succ n ih =>
    intro d1 d2 x o1 o2 a1 a2
    cases s1 : scalD d1 with
    | true => exact scal_uniq s1 a1 a2
    | false =>
      cases s2 : scalD d2 with
      | true => exact (eqD_comm_scal s2 s1 a1 a2).elim
      | false =>
        obtain ⟨p1, b1, ds1, xs1, e1, q1, m1, em1, k1⟩ := sq_of o1 s1 a1
        obtain ⟨p2, b2, ds2, xs2, e2, q2, m2, em2, k2⟩ := sq_of o2 s2 a2
        subst e1
        cases e2
        have : n = m1 := by omega
        subst this
        have : n = m2 := by omega
        subst this
        obtain ⟨eb, ex⟩ := q1.same I sg q2
        subst eb; subst ex
        rw [q1.eq q2, beq_self_eq_true, Bool.true_and]
        refine eqL_all (q1.atl.length.trans q2.atl.length.symm) fun i a b ea eb => ?_
        obtain ⟨v, ev, av⟩ := q1.atl.get ea
        obtain ⟨v', ev', bv⟩ := q2.atl.get eb
        rw [ev] at ev'; cases ev'
        exact ih (all_get k1 ea) (all_get k2 eb) av bv
theorem eqAt_of (I : Inv X pins σ H s) (sg : Sub G H) : ∀ (n : Nat) {d1 d2 : D} {u v : Value} {A : Around}, okN n d1 = true → okN n d2 = true → AtU X.K G d1 u → AtU X.K G d2 v → A.units + n < cLine →
    SeqAt.EqAt A s u v (eqD d1 d2) ∧ SeqAt.RcAt A s u v (eqD d1 d2) ∧ SeqAt.RcNeAt A s u v (!eqD d1 d2) := by
  intro n
  induction n with
  | zero =>
    intro d1 d2 u v A o1 o2 a1 a2 hu
    refine scal_eq (sh_of I sg o1 a1) (sh_of I sg o2 a2) ?_ ?_
    · cases d1 <;> first | rfl | (cases o1)
    · cases d2 <;> first | rfl | (cases o2)
  | succ n ih =>
    intro d1 d2 u v A o1 o2 a1 a2 hu
    have hu0 : A.units < cLine := by omega
    cases s1 : scalD d1 with
    | true =>
      cases s2 : scalD d2 with
      | true => exact scal_eq (sh_of I sg o1 a1) (sh_of I sg o2 a2) s1 s2
      | false => exact mix_eq hu0 (sh_of I sg o1 a1) (sh_of I sg o2 a2) (.inl ⟨s1, s2⟩)
    | false =>
      cases s2 : scalD d2 with
      | true => exact mix_eq hu0 (sh_of I sg o1 a1) (sh_of I sg o2 a2) (.inr ⟨s1, s2⟩)
      | false =>
        obtain ⟨x1, at1, rx1⟩ := a1
        obtain ⟨x2, at2, rx2⟩ := a2
        obtain ⟨p1, b1, ds1, xs1, e1, q1, m1, em1, k1⟩ := sq_of o1 s1 at1
        obtain ⟨p2, b2, ds2, xs2, e2, q2, m2, em2, k2⟩ := sq_of o2 s2 at2
        subst e1; subst e2
        cases rx1
        cases rx2
        have : n = m1 := by omega
        subst this
        have : n = m2 := by omega
        subst this
        obtain ⟨its1, r1, t1, l1⟩ := q1.heap I sg
        obtain ⟨its2, r2, t2, l2⟩ := q2.heap I sg
        have len1 : ds1.length = its1.length := q1.atl.length.trans r1.length
        have len2 : ds2.length = its2.length := q2.atl.length.trans r2.length
        have item : ∀ j (h1 : j < its1.toArray.size) (h2 : j < its2.toArray.size), SeqAt.EqAt A.in1 s its1.toArray[j] its2.toArray[j] (ixE ds1 ds2 j) := fun j h1 h2 => by
          have j1 : j < ds1.length := by rw [len1]; simpa using h1
          have j2 : j < ds2.length := by rw [len2]; simpa using h2
          have g1 : AtU X.K G ds1[j] its1.toArray[j] := items_at q1.atl r1 j _ _ (List.getElem?_eq_getElem j1) (by simp at h1; simp [h1])
          have g2 : AtU X.K G ds2[j] its2.toArray[j] := items_at q2.atl r2 j _ _ (List.getElem?_eq_getElem j2) (by simp at h2; simp [h2])
          have := (ih (A := A.in1) (all_get k1 (List.getElem?_eq_getElem j1)) (all_get k2 (List.getElem?_eq_getElem j2)) g1 g2 (by rw [in1_units]; omega)).1
          unfold ixE
          rw [List.getElem?_eq_getElem j1, List.getElem?_eq_getElem j2]
          exact this
        have whole : SeqAt.RcAt A s (.ref p1) (.ref p2) (eqD d1 d2) ∧ SeqAt.RcNeAt A s (.ref p1) (.ref p2) (!eqD d1 d2) := by
          rw [q1.eq q2]
          cases b1 with
          | true =>
            cases b2 with
            | false => exact ⟨SeqAt.RcAt.tuple_list (t1 rfl) (l2 rfl) hu0, SeqAt.RcNeAt.tuple_list (t1 rfl) (l2 rfl) hu0⟩
            | true =>
              have c1 := SeqAt.RcAt.tuples (e := ixE ds1 ds2) (t1 rfl) (t2 rfl) hu0 item
              have c2 := SeqAt.RcNeAt.tuples (e := ixE ds1 ds2) (t1 rfl) (t2 rfl) hu0 item
              have eq : ((List.range (min its1.toArray.size its2.toArray.size)).all (ixE ds1 ds2) && its1.toArray.size == its2.toArray.size) = (true == true && eqL ds1 ds2) := by
                rw [List.size_toArray, List.size_toArray, ← len1, ← len2, beq_self_eq_true, Bool.true_and]
                by_cases hl : ds1.length = ds2.length
                · rw [← hl, Nat.min_self, eqL_range hl, beq_self_eq_true, Bool.and_true]
                · rw [eqL_len hl]
                  have : (ds1.length == ds2.length) = false := by simpa using hl
                  rw [this, Bool.and_false]
              rw [eq] at c1
              refine ⟨c1, ?_⟩
              first
                | (rw [eq] at c2; exact c2)
                | exact c2
          | false =>
            cases b2 with
            | true => exact ⟨SeqAt.RcAt.list_tuple (l1 rfl) (t2 rfl) hu0, SeqAt.RcNeAt.list_tuple (l1 rfl) (t2 rfl) hu0⟩
            | false =>
              rw [beq_self_eq_true, Bool.true_and]
              by_cases hl : ds1.length = ds2.length
              · have c1 := SeqAt.RcAt.lists (e := ixE ds1 ds2) (l1 rfl) (l2 rfl) (by rw [List.size_toArray, List.size_toArray, ← len1, ← len2]; exact hl) hu0 item
                have c2 := SeqAt.RcNeAt.lists (e := ixE ds1 ds2) (l1 rfl) (l2 rfl) (by rw [List.size_toArray, List.size_toArray, ← len1, ← len2]; exact hl) hu0 item
                rw [List.size_toArray, ← len1, eqL_range hl] at c1 c2
                exact ⟨c1, c2⟩
              · have hz : (its1.toArray.size != its2.toArray.size) = true := by
                  rw [List.size_toArray, List.size_toArray, ← len1, ← len2]; simpa using hl
                rw [eqL_len hl]
                exact ⟨SeqAt.RcAt.lists_lengths (l1 rfl) (l2 rfl) hz hu0, SeqAt.RcNeAt.lists_lengths (l1 rfl) (l2 rfl) hz hu0⟩
        refine ⟨?_, whole⟩
        by_cases hp : p1 = p2
        · subst hp
          rw [at_uniq I sg (n + 1) o1 o2 at1 at2]
          exact SeqAt.EqAt.same _
        · exact SeqAt.EqAt.of_refs hp whole.1
end
end L3
set_option Elab.async false
set_option linter.all false
set_option maxRecDepth 100000
namespace L3
open PySem PySem.Spec L2
def notStar : Expr → Bool
  | .Starred .. => false
  | _ => true
theorem starEach_cons' (e : Expr) (es : List Expr) (env : Env) (h : notStar e = true) : starEach (e :: es) env = (false, eval e env) :: starEach es env := by
  cases e <;> first | rfl | (cases h)
def notComp : Expr → Bool
  | .ListComp .. => false
  | .SetComp .. => false
  | .DictComp .. => false
  | _ => true
theorem swaps_no (e : Expr) (t : Option Expr) (l : Nat) (env : Env) (h : notComp e = true) : swapsWith e t l env = pure false := by
  cases e <;> first | rfl | (cases h)
def notSl : Expr → Bool
  | .Slice .. => false
  | _ => true
theorem px {b : Expr} (h : notSl b = true := by rfl) : PlainIx b := fun o i => by
  cases b <;> first | rfl | (cases h)
section
variable {X : Cx} {F : Fx} {e a b c : Expr} {es : List Expr} {pos : Pos}
theorem PE.imp {t t' : TE} (h : PE X e t) (i : ImpE t' t) : PE X e t' := fun pins s σ H Q I hw => h pins s σ H Q I (i σ H Q hw)
theorem PT.imp {t t' : TT} (h : PT X e t) (i : ImpT t' t) : PT X e t' := fun pins s σ H Q I hw => h pins s σ H Q I (i σ H Q hw)
theorem PW.imp {t t' : TT} (h : PW X e t) (i : ImpT t' t) : PW X e t' := fun wh pins s σ H Q I hw => h wh pins s σ H Q I (i σ H Q hw)
theorem PA.imp {t t' : TA} (h : PA X es t) (i : ImpA t' t) : PA X es t' := fun p pins s σ H Q I hw => h p pins s σ H Q I (i σ H Q hw)
theorem PS.imp {st : Stmt} {t t' : TS} (h : PS X st t) (i : ImpS t' t) : PS X st t' := fun pins s σ H De I hw => h pins s σ H De I (i De σ H hw)
theorem PSs.imp {st : List Stmt} {t t' : TS} (h : PSs X st t) (i : ImpS t' t) : PSs X st t' := fun pins s σ H De I hw => h pins s σ H De I (i De σ H hw)
theorem PI.imp {tg : Expr} {t t' : TI} (h : PI X tg e t) (i : ImpI t' t) : PI X tg e t' := fun pins s σ H Q I hw => h pins s σ H Q I (i σ H Q hw)
abbrev EM (X : Cx) (F : Fx) (e : Expr) (m : ME) : Prop := PE X e (tE F m)
abbrev EO (X : Cx) (F : Fx) (e : Expr) (m : MA) : Prop := PE X e (tO F m)
abbrev TM (X : Cx) (F : Fx) (e : Expr) (m : MT) : Prop := PT X e (tT F m)
abbrev WM (X : Cx) (F : Fx) (e : Expr) (m : MT) : Prop := PW X e (tT F m)
abbrev AM (X : Cx) (F : Fx) (es : List Expr) (m : MA) : Prop := PA X es (tA F m)
abbrev SM (X : Cx) (F : Fx) (st : Stmt) (m : MS) : Prop := PS X st (tS F m)
abbrev BM (X : Cx) (F : Fx) (st : List Stmt) (m : MS) : Prop := PSs X st (tS F m)
abbrev IM (X : Cx) (F : Fx) (tg e : Expr) (m : MA) : Prop := PI X tg e (tI F m)
theorem e_var (i : Nat) {x : Str} (hN : X.N[i]? = some x := by rfl) (hv : Vis X.env.scope x := by first | exact Or.inl rfl | exact Or.inr (Or.inl rfl) | exact Or.inr (Or.inr rfl))
    (hd : (x == ("__debug__" : Str)) = false := by decide) (hcd : (x == ("__classdict__" : Str)) = false := by decide) : EM X F (.Name x pos) (mVar i) := PE.imp (pe_var hN hv hd hcd) (i_var i)
theorem e_int {i : Int} {j} : EM X F (.Constant (.int i) j pos) (mC (.int i)) := PE.imp pe_int (i_C fun _ => by simp only [At])
theorem e_bl {i : Bool} {j} : EM X F (.Constant (.bool i) j pos) (mC (.bl i)) := PE.imp pe_bl (i_C fun _ => by simp only [At])
theorem e_str {i : Str} {j} : EM X F (.Constant (.str i) j pos) (mC (.str i)) := PE.imp pe_str (i_C fun _ => by simp only [At])
theorem e_non {j} : EM X F (.Constant .none j pos) (mC .non) := PE.imp pe_non (i_C fun _ => by simp only [At])
theorem e_glob {x : Str} {v : V} {u : Value} {d : D} (hm : X.mg x = some u) (r : RelV v u) (at' : ∀ G, At F.K G d v) (hg : Gl X x := by rfl) (hd : (x == ("__debug__" : Str)) = false := by decide) : EM X F (.Name x pos) (mC d) :=
  PE.imp (pe_glob hg hm r hd) (i_C at')
theorem a_nil : AM X F [] mNil := PA.imp pa_nil i_nil
theorem a_cons {m : ME} {r : MA} (h : EM X F e m) (t : AM X F es r) (hs : notStar e = true := by rfl) : AM X F (e :: es) (mCons m r) := PA.imp (pa_cons h t (starEach_cons' e es X.env hs)) i_cons
theorem e_tup {k} {m : MA} (h : AM X F es m) : EM X F (.Tuple es k pos) (mTup m) := PE.imp (pe_tup h) i_tup
theorem o_lst {m : MA} (h : AM X F es m) : EO X F (.List es pos) (mLim m) := PE.imp (pe_lst h) i_lst
theorem e_fz {m : MA} (h : EO X F e m) : EM X F e (mFz m) := PE.imp h i_fz
theorem e_bor {m : ME} (h : EM X F e m) : EM X F e (mBor m) := PE.imp h i_bor
theorem t_bor {m : MT} (h : TM X F e m) : TM X F e (mBorT m) := PT.imp h i_borT
theorem t_val {m : ME} (h : EM X F e m) (he : ∀ whole, isTrue e X.env whole = (do let v ← whole; standAt e.pos; holding [v] (truthy v)) := by intro _; rfl) : TM X F e (mB m) := PT.imp (pt_val h he) i_B
theorem w_and1 {m : MT} (h : TM X F a m) : WM X F (.BoolOp .And [a] pos) m := pw_and1 h
theorem w_or1 {m : MT} (h : TM X F a m) : WM X F (.BoolOp .Or [a] pos) m := pw_or1 h
theorem w_and {m n : MT} (h : TM X F a m) (k : WM X F (.BoolOp .And (b :: es) pos) n) : WM X F (.BoolOp .And (a :: b :: es) pos) (mAnd m n) := PW.imp (pw_and h k) i_and
theorem w_or {m n : MT} (h : TM X F a m) (k : WM X F (.BoolOp .Or (b :: es) pos) n) : WM X F (.BoolOp .Or (a :: b :: es) pos) (mOr m n) := PW.imp (pw_or h k) i_or
theorem t_w {m : MT} (h : WM X F e m) : TM X F e m := PW.pt h
theorem t_not {m : MT} (h : TM X F a m) : TM X F (.UnaryOp .Not a pos) (mNot m) := PT.imp (pt_not h) i_not
theorem e_one {op} {m : ME} (h : EM X F a m) : EM X F (.BoolOp op [a] pos) m := pe_one h
theorem e_and {m n : ME} (h : EM X F a m) (k : EM X F (.BoolOp .And (b :: es) pos) n) : EM X F (.BoolOp .And (a :: b :: es) pos) (mAndV m n) := PE.imp (pe_and h k) i_andV
theorem e_not {m : ME} (h : EM X F a m) : EM X F (.UnaryOp .Not a pos) (mNotV m) := PE.imp (pe_not h) i_notV
variable {st : Stmt} {sts : List Stmt}
theorem s_nil : BM X F [] mNext := PSs.imp pss_nil i_next
theorem s_cons {m n : MS} (h : SM X F st m) (k : BM X F sts n) : BM X F (st :: sts) (mSeq m n) := PSs.imp (pss_cons h k) i_seq
theorem s_one {m : MS} (h : SM X F st m) : BM X F [st] m := pss_one h
theorem s_ret {m : ME} (h : EM X F e m) : SM X F (.Return (some e) pos) (mRet m) := PS.imp (ps_ret h) i_ret
theorem s_retO {m : MA} (h : EO X F e m) : SM X F (.Return (some e) pos) (mRetO m) := PS.imp (ps_ret h) i_retO
theorem s_retV (i : Nat) {x : Str} {p : Pos} (hN : X.N[i]? = some x := by rfl) (hv : Vis X.env.scope x := by first | exact Or.inl rfl | exact Or.inr (Or.inl rfl) | exact Or.inr (Or.inr rfl)) (hd : (x == ("__debug__" : Str)) = false := by decide) (hcd : (x == ("__classdict__" : Str)) = false := by decide) :
    SM X F (.Return (some (.Name x p)) pos) (mRetO (mVarO i)) := PS.imp (ps_ret (pe_var hN hv hd hcd)) (i_retV i)
theorem s_if {k : MT} {m n : MS} {xs ys : List Stmt} (h : TM X F c k) (ha : BM X F xs m) (hb : BM X F ys n) : SM X F (.If c xs ys pos) (mIfS k m n) := PS.imp (ps_if h ha hb) i_ifS
theorem s_set (i : Nat) {x : Str} {p : Pos} {m : ME} (hN : X.N.Nodup) (he : EM X F e m) (hi : X.N[i]? = some x := by rfl) (hx : Loc X.env.scope x := by first | exact Or.inl rfl | exact Or.inr rfl) (hs : notComp e = true := by rfl)
    (hf : X.fn x = true ∨ X.env.scope.names.lookup x = some .local := by first | exact .inl rfl | exact .inr rfl) : SM X F (.Assign [.Name x p] e pos) (mSet i m) := PS.imp (ps_set hN hi hx he (swaps_no _ _ _ _ hs) hf) i_set
theorem s_setO (i : Nat) {x : Str} {p : Pos} {m : MA} (hN : X.N.Nodup) (he : EO X F e m) (hi : X.N[i]? = some x := by rfl) (hx : Loc X.env.scope x := by first | exact Or.inl rfl | exact Or.inr rfl) (hs : notComp e = true := by rfl)
    (hf : X.fn x = true ∨ X.env.scope.names.lookup x = some .local := by first | exact .inl rfl | exact .inr rfl) : SM X F (.Assign [.Name x p] e pos) (mSetO i m) := PS.imp (ps_set hN hi hx he (swaps_no _ _ _ _ hs) hf) i_setO
theorem e_bin {op : Operator} {r : R2} {f : D → D → R D} {m n : ME} (ho : OpR X (binaryOp op) r) (hf : OpOk F r f) (ha : EM X F a m) (hb : EM X F b n) : EM X F (.BinOp a op b pos) (mBin f m n) := PE.imp (pe_op ho ha hb) (i_bin hf)
theorem e_cmpR {op : CmpOp} {r : R2} {f : D → D → R D} {m n : ME} (ho : OpR X (compareOp op) r) (hf : OpOk F r f) (ha : EM X F a m) (hb : EM X F b n) (hm : behindInMarks op b = false) : EM X F (.Compare a [op] [b] pos) (mBin f m n) := PE.imp (pe_cmpR ho ha hb hm) (i_bin hf)
theorem t_cmpR {op : CmpOp} {r : R2} {f : D → D → R D} {m n : ME} (ho : OpR X (compareOp op) r) (hf : OpOk F r f) (ha : EM X F a m) (hb : EM X F b n) (hm : behindInMarks op b = false) : TM X F (.Compare a [op] [b] pos) (mB (mBin f m n)) :=
  PT.imp (pt_cmpR ho ha hb hm) fun σ H Q h => by
    obtain ⟨G, ρ, r, k⟩ := i_Test (F := F) (m := mBin f m n) σ H Q h
    exact i_bin hf σ H _ ⟨G, ρ, r, k⟩
theorem e_un {op : UnaryOp} {r : V → Hp → VK → Prop} {f : D → R D} {m : ME} (ho : UnR X (unaryOp op) r) (hf : UnOk F r f) (ha : EM X F a m) : EM X F (.UnaryOp op a pos) (mUn f m) := PE.imp (pe_un ho ha) (i_un hf)
def intsD (f : Int → Int → R D) : D → D → R D
  | .int i, .int j => f i j
  | _, _ => .bad
theorem ok_ints0 {g : Int → Int → V} {f : Int → Int → D} (h : ∀ i j G, At F.K G (f i j) (g i j)) : OpOk F (rI0 g) (intsD fun i j => .ok (f i j)) := by
  intro σ ρ G H x y dx dy Q r ax ay k
  unfold intsD at k
  split at k
  · rename_i i j
    simp only [At] at ax ay
    exact ⟨i, j, ax, ay, k _ H G r (Up.refl _ _) (h i j G)⟩
  · exact k.elim
theorem ok_ints {C : Int → Int → Prop} [∀ i j, Decidable (C i j)] {g : Int → Int → V} {f : Int → Int → D} (h : ∀ i j G, At F.K G (f i j) (g i j)) : OpOk F (rI C g) (intsD fun i j => if C i j then .ok (f i j) else .bad) := by
  intro σ ρ G H x y dx dy Q r ax ay k
  unfold intsD at k
  split at k
  · rename_i i j
    simp only [At] at ax ay
    dsimp only at k
    split at k
    · rename_i hc
      exact ⟨i, j, ax, ay, hc, k _ H G r (Up.refl _ _) (h i j G)⟩
    · exact k.elim
  · exact k.elim
instance (i j : Int) : Decidable (CDiv i j) := by unfold CDiv; infer_instance
instance (i j : Int) : Decidable (CPow i j) := by unfold CPow; infer_instance
instance (i j : Int) : Decidable (CMul i j) := by unfold CMul; infer_instance
def subD := intsD fun i j => .ok (.int (i - j))
def mulD := intsD fun i j => if CMul i j then .ok (.int (i * j)) else .bad
def fdivD := intsD fun i j => if CDiv i j then .ok (.int (i / j)) else .bad
def modD := intsD fun i j => if 0 < j then .ok (.int (i % j)) else .bad
def powD := intsD fun i j => if CPow i j then .ok (.int (i ^ j.toNat)) else .bad
def ltD := intsD fun i j => .ok (.bl (decide (i < j)))
def leD := intsD fun i j => .ok (.bl (decide (i ≤ j)))
def gtD := intsD fun i j => .ok (.bl (decide (j < i)))
variable {m n : ME}
theorem e_sub (ha : EM X F a m) (hb : EM X F b n) : EM X F (.BinOp a .Sub b pos) (mBin subD m n) := e_bin op_sub (ok_ints0 fun _ _ _ => by simp only [At]) ha hb
theorem e_mul (ha : EM X F a m) (hb : EM X F b n) : EM X F (.BinOp a .Mult b pos) (mBin mulD m n) := e_bin op_mul (ok_ints fun _ _ _ => by simp only [At]) ha hb
theorem e_fdiv (ha : EM X F a m) (hb : EM X F b n) : EM X F (.BinOp a .FloorDiv b pos) (mBin fdivD m n) := e_bin op_fdiv (ok_ints fun _ _ _ => by simp only [At]) ha hb
theorem e_mod (ha : EM X F a m) (hb : EM X F b n) : EM X F (.BinOp a .Mod b pos) (mBin modD m n) := e_bin op_mod (ok_ints fun _ _ _ => by simp only [At]) ha hb
theorem e_pow (ha : EM X F a m) (hb : EM X F b n) : EM X F (.BinOp a .Pow b pos) (mBin powD m n) := e_bin op_pow (ok_ints fun _ _ _ => by simp only [At]) ha hb
theorem t_lt (ha : EM X F a m) (hb : EM X F b n) : TM X F (.Compare a [.Lt] [b] pos) (mB (mBin ltD m n)) := t_cmpR op_lt (ok_ints0 fun _ _ _ => by simp only [At]) ha hb (nomark _)
theorem t_gt (ha : EM X F a m) (hb : EM X F b n) : TM X F (.Compare a [.Gt] [b] pos) (mB (mBin gtD m n)) := t_cmpR op_gt (ok_ints0 fun _ _ _ => by simp only [At]) ha hb (nomark _)
def negD : D → R D
  | .int i => .ok (.int (-i))
  | _ => .bad
theorem e_neg (ha : EM X F a m) : EM X F (.UnaryOp .USub a pos) (mUn negD m) := e_un un_neg (fun σ ρ G H x dx Q r ax k => by
  unfold negD at k
  split at k
  · rename_i i
    simp only [At] at ax
    exact ⟨i, ax, k _ H G r (Up.refl _ _) (by simp only [At])⟩
  · exact k.elim) ha
def addD : D → D → R D
  | .int i, .int j => .ok (.int (i + j))
  | .str x, .str y => if x.length + y.length ≤ 1000000 then .ok (.str (x ++ y)) else .bad
  | .lst xs, .lst ys => if xs.length + ys.length ≤ 1000000 then .ok (.lst (xs ++ ys)) else .bad
  | _, _ => .bad
theorem ok_add : OpOk F (fun x y H Q => rI0 (fun i j => .int (i + j)) x y H Q ∨ (∃ i j, x = .str i ∧ y = .str j ∧ i.length + j.length ≤ sizeLine ∧ Q (.str (i ++ j)) H) ∨ rCat x y H Q) addD := by
  intro σ ρ G H x y dx dy Q r ax ay k
  unfold addD at k
  split at k
  · rename_i i j
    simp only [At] at ax ay
    exact .inl ⟨i, j, ax, ay, k _ H G r (Up.refl _ _) (by simp only [At])⟩
  · rename_i i j
    simp only [At] at ax ay
    split at k
    · rename_i hl
      exact .inr (.inl ⟨i, j, ax, ay, Nat.le_trans hl (by decide), k _ H G r (Up.refl _ _) (by simp only [At])⟩)
    · exact k.elim
  · rename_i ds es
    simp only [At] at ax ay
    split at k
    · rename_i hl
      obtain ⟨p, xs, e1, h1, q1⟩ := ax
      obtain ⟨p2, ys, e2, h2, q2⟩ := ay
      refine .inr (.inr ⟨p, p2, xs, ys, e1, e2, r.kp.sub _ _ h1, r.kp.sub _ _ h2, by rw [← q1.length, ← q2.length]; exact Nat.le_trans hl (by decide), fun l hn => ?_⟩)
      refine k (.ref l) _ _ (r.lay hn) (Up.lay r.kp.sub hn) ?_
      simp only [At]
      exact ⟨l, xs ++ ys, rfl, upd_same, (q1.append q2).mono (Sub.upd (r.kp.sub.gone hn))⟩
    · exact k.elim
  · exact k.elim
theorem e_add (ha : EM X F a m) (hb : EM X F b n) : EM X F (.BinOp a .Add b pos) (mBin addD m n) := e_bin (op_add.or (op_add_str.or op_cat)) ok_add ha hb
def eqR (b : Bool) (x y : D) : R D := if okN 8 x = true ∧ okN 8 y = true then .ok (.bl (if b then eqD x y else !eqD x y)) else .bad
def rEqW (F : Fx) (b : Bool) : R2 := fun x y H Q => ∃ G d1 d2, Sub G H ∧ At F.K G d1 x ∧ At F.K G d2 y ∧ okN 8 d1 = true ∧ okN 8 d2 = true ∧ Q (.bl (if b then eqD d1 d2 else !eqD d1 d2)) H
theorem op_eqW (hK : F.K = X.K) (hu : X.A.units + 64 < cLine) : OpR X (compareOp .Eq) (rEqW F true) := by
  intro pins s σ H x y v u Q I rx ry h
  obtain ⟨G, d1, d2, sg, a1, a2, o1, o2, q⟩ := h
  rw [hK] at a1 a2
  exact (eqAt_of I sg 8 (A := X.A) o1 o2 ⟨x, a1, rx⟩ ⟨y, a2, ry⟩ (by omega)).2.1 X.prog X.w X.xe _ ⟨.bl _, H, I, rfl, q⟩
theorem op_neW (hK : F.K = X.K) (hu : X.A.units + 64 < cLine) : OpR X (compareOp .NotEq) (rEqW F false) := by
  intro pins s σ H x y v u Q I rx ry h
  obtain ⟨G, d1, d2, sg, a1, a2, o1, o2, q⟩ := h
  rw [hK] at a1 a2
  exact (eqAt_of I sg 8 (A := X.A) o1 o2 ⟨x, a1, rx⟩ ⟨y, a2, ry⟩ (by omega)).2.2 X.prog X.w X.xe _ ⟨.bl _, H, I, rfl, q⟩
theorem ok_eqW (b : Bool) : OpOk F (rEqW F b) (eqR b) := by
  intro σ ρ G H x y dx dy Q r ax ay k
  unfold eqR at k
  split at k
  · rename_i ho
    exact ⟨G, dx, dy, r.kp.sub, ax, ay, ho.1, ho.2, k _ H G r (Up.refl _ _) (by simp only [At])⟩
  · exact k.elim
theorem t_eq (hu : X.A.units + 64 < cLine) (ha : EM X F a m) (hb : EM X F b n) (hK : F.K = X.K := by rfl) : TM X F (.Compare a [.Eq] [b] pos) (mB (mBin (eqR true) m n)) := t_cmpR (op_eqW hK hu) (ok_eqW true) ha hb (nomark _)
theorem t_ne (hu : X.A.units + 64 < cLine) (ha : EM X F a m) (hb : EM X F b n) (hK : F.K = X.K := by rfl) : TM X F (.Compare a [.NotEq] [b] pos) (mB (mBin (eqR false) m n)) := t_cmpR (op_neW hK hu) (ok_eqW false) ha hb (nomark _)
theorem e_eq (hu : X.A.units + 64 < cLine) (ha : EM X F a m) (hb : EM X F b n) (hK : F.K = X.K := by rfl) : EM X F (.Compare a [.Eq] [b] pos) (mBin (eqR true) m n) := e_cmpR (op_eqW hK hu) (ok_eqW true) ha hb (nomark _)
theorem e_ne (hu : X.A.units + 64 < cLine) (ha : EM X F a m) (hb : EM X F b n) (hK : F.K = X.K := by rfl) : EM X F (.Compare a [.NotEq] [b] pos) (mBin (eqR false) m n) := e_cmpR (op_neW hK hu) (ok_eqW false) ha hb (nomark _)
end
end L3
set_option Elab.async false
set_option linter.all false
set_option maxRecDepth 100000
namespace L3
open PySem PySem.Spec L2
section
variable {X : Cx} {F : Fx} {e a b c : Expr} {es : List Expr} {pos : Pos} {m n : ME}
theorem eqL_congr : ∀ {ds ds' : List D}, ds.length = ds'.length → (∀ (i : Nat) x y, ds[i]? = some x → ds'[i]? = some y → ∀ z, eqD x z = eqD y z) → ∀ es, eqL ds es = eqL ds' es
  | [], [], _, _, _ => rfl
  | [], _ :: _, h, _, _ => by simp at h
  | _ :: _, [], h, _, _ => by simp at h
  | x :: xs, y :: ys, h, k, [] => by simp only [eqL]
  | x :: xs, y :: ys, h, k, e :: es => by
    simp only [eqL]
    rw [k 0 x y rfl rfl e, eqL_congr (by simpa using h) (fun i a b e1 e2 => k (i + 1) a b (by simpa using e1) (by simpa using e2)) es]
theorem scal_same {K : PySem.W.Frag} {G : Hp} {d d' : D} {x : V} (o : scalD d = true) (a1 : At K G d x) (a2 : At K G d' x) : d = d' := by
  cases d with
  | non =>
    simp only [At] at a1; subst a1
    cases d' <;> simp only [At] at a2 <;> first | rfl | (cases a2; done) | (obtain ⟨a, xs, e, _⟩ := a2; cases e; done) | (obtain ⟨a, dx, xs, e, _⟩ := a2; cases e; done)
  | bl b =>
    simp only [At] at a1; subst a1
    cases d' <;> simp only [At] at a2 <;> first | (cases a2; rfl) | (cases a2; done) | (obtain ⟨a, xs, e, _⟩ := a2; cases e; done) | (obtain ⟨a, dx, xs, e, _⟩ := a2; cases e; done)
  | int b =>
    simp only [At] at a1; subst a1
    cases d' <;> simp only [At] at a2 <;> first | (cases a2; rfl) | (cases a2; done) | (obtain ⟨a, xs, e, _⟩ := a2; cases e; done) | (obtain ⟨a, dx, xs, e, _⟩ := a2; cases e; done)
  | str b =>
    simp only [At] at a1; subst a1
    cases d' <;> simp only [At] at a2 <;> first | (cases a2; rfl) | (cases a2; done) | (obtain ⟨a, xs, e, _⟩ := a2; cases e; done) | (obtain ⟨a, dx, xs, e, _⟩ := a2; cases e; done)
  | _ => cases o
theorem Sq.val {K : PySem.W.Frag} {G : Hp} {d : D} {p : Addr} {b : Bool} {ds : List D} {xs : List V} (h : Sq K G d p b ds xs) (e : D) : eqD d e = match e with
    | .tup es => b && eqL ds es
    | .ktp es => b && eqL ds es
    | .lst es => !b && eqL ds es
    | .scr es => !b && eqL ds es
    | _ => false := by
  cases h <;> cases e <;> simp [eqD]
section
variable {pins : List (Addr × Obj)} {σ : St} {H G : Hp} {s : Shared}
theorem at_same (I : Inv X pins σ H s) (sg : Sub G H) : ∀ (n : Nat) {d d' : D} {x : V}, okN n d = true → okN n d' = true → At X.K G d x → At X.K G d' x → ∀ e, eqD d e = eqD d' e := by
  intro n
  induction n with
  | zero =>
    intro d d' x o1 o2 a1 a2 e
    rw [scal_same (by cases d <;> first | rfl | (cases o1)) a1 a2]
  | succ n ih =>
    intro d d' x o1 o2 a1 a2 e
    cases s1 : scalD d with
    | true => rw [scal_same s1 a1 a2]
    | false =>
      cases s2 : scalD d' with
      | true => exact (eqD_comm_scal s2 s1 a1 a2).elim
      | false =>
        obtain ⟨p1, b1, ds1, xs1, e1, q1, m1, em1, k1⟩ := sq_of o1 s1 a1
        obtain ⟨p2, b2, ds2, xs2, e2, q2, m2, em2, k2⟩ := sq_of o2 s2 a2
        subst e1
        cases e2
        have : n = m1 := by omega
        subst this
        have : n = m2 := by omega
        subst this
        obtain ⟨eb, ex⟩ := q1.same I sg q2
        subst eb; subst ex
        have el : ∀ es, eqL ds1 es = eqL ds2 es := eqL_congr (q1.atl.length.trans q2.atl.length.symm) fun i a b ea eb z => by
          obtain ⟨v, ev, av⟩ := q1.atl.get ea
          obtain ⟨v', ev', bv⟩ := q2.atl.get eb
          rw [ev] at ev'; cases ev'
          exact ih (all_get k1 ea) (all_get k2 eb) av bv z
        rw [q1.val, q2.val]
        cases e <;> first | rfl | (simp only [el])
open Classical in
noncomputable def ansU (K : PySem.W.Frag) (G : Hp) (d : D) (u : Value) : Bool := if h : ∃ d', okN 7 d' = true ∧ AtU K G d' u then eqD (Classical.choose h) d else false
theorem ansU_of (I : Inv X pins σ H s) (sg : Sub G H) {d d1 : D} {u : Value} (o : okN 7 d = true) (h : AtU X.K G d u) : ansU X.K G d1 u = eqD d d1 := by
  have hx : ∃ d', okN 7 d' = true ∧ AtU X.K G d' u := ⟨d, o, h⟩
  unfold ansU
  rw [dif_pos hx]
  obtain ⟨o', h'⟩ := Classical.choose_spec hx
  obtain ⟨x, a, r⟩ := h
  obtain ⟨x', a', r'⟩ := h'
  have : x' = x := r'.inj r
  subst this
  exact at_same I sg 7 o' o a' a d1
theorem any_ans (I : Inv X pins σ H s) (sg : Sub G H) {d1 : D} : ∀ {ds : List D} {xs : List V} {its : List Value}, AtL X.K G ds xs → Vals xs its → ds.all (okN 7) = true → its.any (ansU X.K G d1) = ds.any fun y => eqD y d1
  | [], _, _, q, r, _ => by simp only [AtL] at q; subst q; cases r; rfl
  | d :: ds, _, _, q, r, o => by
    simp only [AtL] at q
    obtain ⟨v, vr, rfl, av, ar⟩ := q
    cases r with
    | cons r1 r2 =>
      rw [List.all_cons, Bool.and_eq_true] at o
      rw [List.any_cons, List.any_cons, ansU_of I sg o.1 ⟨v, av, r1⟩, any_ans I sg ar r2 o.2]
theorem mem_ans (I : Inv X pins σ H s) (sg : Sub G H) {d1 : D} {x : V} {v : Value} {A : Around} (hu : A.units + 8 < cLine) (o1 : okN 7 d1 = true) (a1 : At X.K G d1 x) (rx : RelV x v) : ∀ {ds : List D} {xs : List V} {its : List Value}, AtL X.K G ds xs → Vals xs its → ds.all (okN 7) = true →
    ∀ u ∈ its, SeqAt.EqAt A s u v (ansU X.K G d1 u)
  | [], _, _, q, r, _ => by simp only [AtL] at q; subst q; cases r; exact fun u hu => nomatch hu
  | d :: ds, _, _, q, r, o => by
    simp only [AtL] at q
    obtain ⟨w, wr, rfl, av, ar⟩ := q
    cases r with
    | cons r1 r2 =>
      rw [List.all_cons, Bool.and_eq_true] at o
      intro u' hm
      rcases List.mem_cons.mp hm with e | hm
      · subst e
        rw [ansU_of I sg o.1 ⟨w, av, r1⟩]
        exact (eqAt_of I sg 7 (A := A) o.1 o1 ⟨w, av, r1⟩ ⟨x, a1, rx⟩ (by omega)).1
      · exact mem_ans I sg hu o1 a1 rx ar r2 o.2 u' hm
end
def seqI : D → Option (List D)
  | .tup ys => some ys
  | .ktp ys => some ys
  | .lst ys => some ys
  | .scr ys => some ys
  | _ => none
def inD (b : Bool) (x y : D) : R D := match seqI y with
  | some ys => if okN 7 x = true ∧ ys.all (okN 7) = true then .ok (.bl (if b then ys.any (fun y => eqD y x) else !ys.any fun y => eqD y x)) else .bad
  | none => .bad
def rInW (F : Fx) (b : Bool) : R2 := fun x y H Q => ∃ G d1 d2 p ds xs k, Sub G H ∧ At F.K G d1 x ∧ y = .ref p ∧ Sq F.K G d2 p k ds xs ∧ okN 7 d1 = true ∧ ds.all (okN 7) = true ∧ Q (.bl (if b then ds.any (fun y => eqD y d1) else !ds.any fun y => eqD y d1)) H
theorem op_inW (hK : F.K = X.K) (hu : X.A.units + 64 < cLine) : OpR X (compareOp .In) (rInW F true) := by
  intro pins s σ H x y v u Q I rx ry h
  obtain ⟨G, d1, d2, p, ds, xs, k, sg, a1, rfl, sq, o1, o2, q⟩ := h
  rw [hK] at a1 sq
  cases ry
  obtain ⟨its, r1, t1, l1⟩ := sq.heap I sg
  have q : Q (.bl (ds.any fun y => eqD y d1)) H := q
  rw [← any_ans I sg sq.atl r1 o2] at q
  have hm := mem_ans I sg (A := X.A.in1) (d1 := d1) (by rw [in1_units]; omega) o1 a1 rx sq.atl r1 o2
  cases k with
  | true => exact SeqAt.in_tupleAt (ansU X.K G d1) (t1 rfl) (fun w hw => hm w (by simpa using hw)) ⟨.bl _, H, I, rfl, by simpa using q⟩
  | false => exact SeqAt.in_listAt (ansU X.K G d1) (l1 rfl) (fun w hw => hm w (by simpa using hw)) ⟨.bl _, H, I, rfl, by simpa using q⟩
theorem op_notInW (hK : F.K = X.K) (hu : X.A.units + 64 < cLine) : OpR X (compareOp .NotIn) (rInW F false) := by
  intro pins s σ H x y v u Q I rx ry h
  obtain ⟨G, d1, d2, p, ds, xs, k, sg, a1, rfl, sq, o1, o2, q⟩ := h
  rw [hK] at a1 sq
  cases ry
  obtain ⟨its, r1, t1, l1⟩ := sq.heap I sg
  have q : Q (.bl (!ds.any fun y => eqD y d1)) H := q
  rw [← any_ans I sg sq.atl r1 o2] at q
  have hm := mem_ans I sg (A := X.A.in1) (d1 := d1) (by rw [in1_units]; omega) o1 a1 rx sq.atl r1 o2
  cases k with
  | true => exact SeqAt.notIn_tupleAt (ansU X.K G d1) (t1 rfl) (fun w hw => hm w (by simpa using hw)) ⟨.bl _, H, I, rfl, by simpa using q⟩
  | false => exact SeqAt.notIn_listAt (ansU X.K G d1) (l1 rfl) (fun w hw => hm w (by simpa using hw)) ⟨.bl _, H, I, rfl, by simpa using q⟩
theorem sq_at {K : PySem.W.Frag} {G : Hp} {d : D} {x : V} {ds : List D} (e : seqI d = some ds) (a : At K G d x) : ∃ p xs k, x = .ref p ∧ Sq K G d p k ds xs := by
  cases d <;> first
    | (cases e; done)
    | (cases e
       simp only [At] at a
       obtain ⟨p, xs, e, h, q⟩ := a
       first
        | exact ⟨p, xs, _, e, .tup (SqT.of h) q⟩
        | exact ⟨p, xs, _, e, .ktp h q⟩
        | exact ⟨p, xs, _, e, .lst h q⟩
        | exact ⟨p, xs, _, e, .scr h q⟩)
theorem ok_inW (b : Bool) : OpOk F (rInW F b) (inD b) := by
  intro σ ρ G H x y dx dy Q r ax ay k
  unfold inD at k
  cases e : seqI dy with
  | none => rw [e] at k; exact k.elim
  | some ys =>
    rw [e] at k
    dsimp only at k
    split at k
    · rename_i ho
      obtain ⟨p, xs, kk, ey, sq⟩ := sq_at e ay
      exact ⟨G, dx, dy, p, ys, xs, kk, r.kp.sub, ax, ey, sq, ho.1, ho.2, k _ H G r (Up.refl _ _) (by simp only [At])⟩
    · exact k.elim
theorem t_notIn (hu : X.A.units + 64 < cLine) (ha : EM X F a m) (hb : EM X F b n) (hK : F.K = X.K := by rfl) (hm : behindInMarks .NotIn b = false := by with_unfolding_all rfl) : TM X F (.Compare a [.NotIn] [b] pos) (mB (mBin (inD false) m n)) := t_cmpR (op_notInW hK hu) (ok_inW false) ha hb hm
theorem e_in (hu : X.A.units + 64 < cLine) (ha : EM X F a m) (hb : EM X F b n) (hK : F.K = X.K := by rfl) (hm : behindInMarks .In b = false := by with_unfolding_all rfl) : EM X F (.Compare a [.In] [b] pos) (mBin (inD true) m n) := e_cmpR (op_inW hK hu) (ok_inW true) ha hb hm
def mChain (f g : D → D → R D) (a b c : ME) : ME := fun ρ => (a ρ).bind fun x => (b ρ).bind fun y => (f x y).bind fun z => (asB z).bind fun k => if k = true then (c ρ).bind fun w => g y w else .ok (.bl false)
theorem i_chain {r r' : R2} {f g : D → D → R D} {l : ME} (hf : OpOk F r f) (hg : OpOk F r' g) : ImpE (tE F (mChain f g m n l)) (tChain r r' (tE F m) (tE F n) (tE F l)) := by
  rintro σ H Q ⟨G, ρ, rl, h⟩
  unfold mChain at h
  refine ⟨G, ρ, rl, ?_⟩
  cases ea : m ρ with
  | bad => rw [ea] at h; exact h.elim
  | exc c => rw [ea] at h; exact h
  | ok dx =>
    rw [ea, R.bind_ok] at h
    intro x H1 G1 r1 s1 ax
    refine ⟨G1, ρ, r1, ?_⟩
    cases eb : n ρ with
    | bad => rw [eb] at h; exact h.elim
    | exc c => rw [eb] at h; exact h
    | ok dy =>
      rw [eb, R.bind_ok] at h
      intro y H2 G2 r2 s2 ay
      refine hf σ ρ G2 H2 x y dx dy _ r2 (ax.mono s2.g) ay ?_
      cases ef : f dx dy with
      | bad => rw [ef] at h; exact h.elim
      | exc c => rw [ef] at h; exact h
      | ok dz =>
        rw [ef, R.bind_ok] at h
        intro z H3 G3 r3 s3 az
        cases dz with
        | bl k =>
          simp only [At] at az
          refine ⟨k, az, ?_⟩
          have h : kE F G H σ ρ Q (if k = true then (l ρ).bind fun w => g dy w else .ok (.bl false)) := h
          cases k with
          | false =>
            rw [if_neg Bool.false_ne_true] at h ⊢
            exact h _ H3 G3 r3 (s1.trans (s2.trans s3)) (by simp only [At])
          | true =>
            rw [if_pos rfl] at h ⊢
            refine ⟨G3, ρ, r3, ?_⟩
            cases ec : l ρ with
            | bad => rw [ec] at h; exact h.elim
            | exc c => rw [ec] at h; exact h
            | ok dw =>
              rw [ec, R.bind_ok] at h
              intro w H4 G4 r4 s4 aw
              exact hg σ ρ G4 H4 y w dy dw Q r4 ((ay.mono s3.g).mono s4.g) aw (h.mono (s1.trans (s2.trans (s3.trans s4))))
        | _ => exact h.elim
theorem e_chain {op op' : CmpOp} {r r' : R2} {f g : D → D → R D} {l : ME} (ho : OpR X (compareOp op) r) (ho' : OpR X (compareOp op') r') (hf : OpOk F r f) (hg : OpOk F r' g) (ha : EM X F a m) (hb : EM X F b n) (hc : EM X F c l) (hm : lastMarks [op, op'] [b, c] = false := by with_unfolding_all rfl) :
    EM X F (.Compare a [op, op'] [b, c] pos) (mChain f g m n l) := PE.imp (pe_chain ho ho' ha hb hc hm) (i_chain hf hg)
theorem t_chain {op op' : CmpOp} {r r' : R2} {f g : D → D → R D} {l : ME} (ho : OpR X (compareOp op) r) (ho' : OpR X (compareOp op') r') (hf : OpOk F r f) (hg : OpOk F r' g) (ha : EM X F a m) (hb : EM X F b n) (hc : EM X F c l) (hm : lastMarks [op, op'] [b, c] = false := by with_unfolding_all rfl) :
    TM X F (.Compare a [op, op'] [b, c] pos) (mB (mChain f g m n l)) := PT.imp (pt_chain ho ho' ha hb hc hm) fun σ H Q h => by
    obtain ⟨G, ρ, r, k⟩ := i_Test (F := F) (m := mChain f g m n l) σ H Q h
    exact i_chain hf hg σ H _ ⟨G, ρ, r, k⟩
theorem ok_le : OpOk F (rI0 fun i j => .bl (decide (i ≤ j))) leD := ok_ints0 fun _ _ _ => by simp only [At]
end
end L3
set_option Elab.async false
set_option linter.all false
set_option maxRecDepth 100000
namespace L3
open PySem PySem.Spec L2
section
variable {X : Cx} {F : Fx} {e a b c : Expr} {es : List Expr} {pos p : Pos} {m n : ME} {ma : MA}
def mCB (f : List D → R D) (m : MA) : ME := fun ρ => (m ρ).bind f
def CallOk (F : Fx) (r : List V → Hp → VK → Prop) (f : List D → R D) : Prop := ∀ σ ρ G H xs ds Q, Rel F G H σ ρ → AtL F.K G ds xs → kE F G H σ ρ Q (f ds) → r xs H Q
theorem i_cb {r : List V → Hp → VK → Prop} {f : List D → R D} (hf : CallOk F r f) : ImpE (tE F (mCB f ma)) (tCB r (tA F ma)) := by
  rintro σ H Q ⟨G, ρ, rl, h⟩
  unfold mCB at h
  refine ⟨G, ρ, rl, ?_⟩
  cases ea : ma ρ with
  | bad => rw [ea] at h; exact h.elim
  | exc c => rw [ea] at h; exact h
  | ok ds =>
    rw [ea, R.bind_ok] at h
    intro vs H1 G1 r1 s1 a
    exact hf σ ρ G1 H1 vs ds Q r1 a (h.mono s1)
theorem e_callB {x : Str} {id : String} {r : List V → Hp → VK → Prop} {f : List D → R D} (hc : CallR X (.builtin id) r) (hf : CallOk F r f) (hm : X.mg x = none) (hv : bootBuiltins x = some (.builtin id)) (ha : AM X F (e :: es) ma) (hg : Gl X x := by rfl) (hn : x ≠ "__name__" := by decide) (hdb : (x == ("__debug__" : Str)) = false := by decide)
    (he : starEach (e :: es) X.env = (false, eval e X.env) :: starEach es X.env := by rfl) (hpl : (backTo pos (starEach es X.env)).any (·.1) = false := by rfl) : EM X F (.Call (.Name x p) (e :: es) [] pos) (mCB f ma) :=
  PE.imp (pe_callB hc hg hm hv ha hn hdb he hpl) (i_cb hf)
theorem e_callT {x : Str} {T : String} {r : List V → Hp → VK → Prop} {f : List D → R D} (hc : CallR X (.type T) r) (hf : CallOk F r f) (hm : X.mg x = none) (hv : bootBuiltins x = some (.type T)) (ha : AM X F (e :: es) ma) (hg : Gl X x := by rfl) (hn : x ≠ "__name__" := by decide) (hdb : (x == ("__debug__" : Str)) = false := by decide)
    (he : starEach (e :: es) X.env = (false, eval e X.env) :: starEach es X.env := by rfl) (hpl : (backTo pos (starEach es X.env)).any (·.1) = false := by rfl) : EM X F (.Call (.Name x p) (e :: es) [] pos) (mCB f ma) :=
  PE.imp (pe_callTy hc hg hm hv ha hn hdb he hpl) (i_cb hf)
def lenD : List D → R D
  | [.str x] => if x.length ≤ 1000000 then .ok (.int x.length) else .bad
  | [.lst xs] => .ok (.int xs.length)
  | [.scr xs] => .ok (.int xs.length)
  | [.tup xs] => .ok (.int xs.length)
  | [.ktp xs] => .ok (.int xs.length)
  | _ => .bad
theorem AtL.one {K : PySem.W.Frag} {G : Hp} {d : D} {vs : List V} (a : AtL K G [d] vs) : ∃ v, vs = [v] ∧ At K G d v := by
  simp only [AtL] at a
  obtain ⟨v, r, rfl, h, rfl⟩ := a
  exact ⟨v, rfl, h⟩
theorem ok_len (hK : F.K = X.K) : CallOk F (fun xs H Q => ∃ x n, xs = [x] ∧ LenV X.K x H n ∧ Q (.int n) H) lenD := by
  intro σ ρ G H xs ds Q r al k
  unfold lenD at k
  split at k
  · rename_i x
    obtain ⟨v, rfl, av⟩ := al.one
    simp only [At] at av; subst av
    split at k
    · rename_i hl
      exact ⟨_, x.length, rfl, ⟨Nat.le_trans hl (by decide), rfl⟩, k _ H G r (Up.refl _ _) (by simp only [At])⟩
    · exact k.elim
  · rename_i ys
    obtain ⟨v, rfl, av⟩ := al.one
    simp only [At] at av
    obtain ⟨q, xs, rfl, h, al⟩ := av
    rw [al.length] at k
    exact ⟨_, xs.length, rfl, .inl ⟨xs, SqL.of (r.kp.sub _ _ h), rfl⟩, k _ H G r (Up.refl _ _) (by simp only [At])⟩
  · rename_i ys
    obtain ⟨v, rfl, av⟩ := al.one
    simp only [At] at av
    obtain ⟨q, xs, rfl, h, al⟩ := av
    rw [al.length] at k
    rw [hK] at h
    exact ⟨_, xs.length, rfl, .inl ⟨xs, SqL.mono r.kp.sub h, rfl⟩, k _ H G r (Up.refl _ _) (by simp only [At])⟩
  · rename_i ys
    obtain ⟨v, rfl, av⟩ := al.one
    simp only [At] at av
    obtain ⟨q, xs, rfl, h, al⟩ := av
    rw [al.length] at k
    exact ⟨_, xs.length, rfl, .inr ⟨xs, SqT.of (r.kp.sub _ _ h), rfl⟩, k _ H G r (Up.refl _ _) (by simp only [At])⟩
  · rename_i ys
    obtain ⟨v, rfl, av⟩ := al.one
    simp only [At] at av
    obtain ⟨q, xs, rfl, h, al⟩ := av
    rw [al.length] at k
    rw [hK] at h
    exact ⟨_, xs.length, rfl, .inr ⟨xs, SqT.mono r.kp.sub h, rfl⟩, k _ H G r (Up.refl _ _) (by simp only [At])⟩
  · exact k.elim
theorem e_len (hm : X.mg "len" = none) (ha : AM X F [e] ma) (hK : F.K = X.K := by rfl) (hg : Gl X "len" := by rfl) (he : starEach [e] X.env = (false, eval e X.env) :: starEach [] X.env := by rfl) (hpl : (backTo pos (starEach [] X.env)).any (·.1) = false := by rfl) :
    EM X F (.Call (.Name "len" p) [e] [] pos) (mCB lenD ma) := e_callB call_len (ok_len hK) hm PySem.boot_len ha hg (by decide) (by decide) he hpl
def tyD : D → Option String
  | .non => some "NoneType"
  | .bl _ => some "bool"
  | .int _ => some "int"
  | .str _ => some "str"
  | .lst _ => some "list"
  | .scr _ => some "list"
  | .tup _ => some "tuple"
  | .ktp _ => some "tuple"
  | .dK _ _ => some "dict"
  | .dT _ _ => some "dict"
  | _ => none
def subTy (T U : String) : Bool := T == U || (T == "bool" && U == "int")
def isiD (U : String) (d : D) : R D := match tyD d with
  | some T => .ok (.bl (subTy T U))
  | none => .bad
def TyTab (K : PySem.W.Frag) (U : String) : Prop := ∀ T, T = "NoneType" ∨ T = "bool" ∨ T = "int" ∨ T = "str" ∨ T = "list" ∨ T = "tuple" ∨ T = "dict" → PySem.W.kitOne K (.type T) (.type U) = some (subTy T U)
theorem tt_int (K : PySem.W.Frag) : TyTab K "int" := fun T h => by rcases h with rfl | rfl | rfl | rfl | rfl | rfl | rfl <;> kernel_rfl
theorem tt_bool (K : PySem.W.Frag) : TyTab K "bool" := fun T h => by rcases h with rfl | rfl | rfl | rfl | rfl | rfl | rfl <;> kernel_rfl
theorem tt_str (K : PySem.W.Frag) : TyTab K "str" := fun T h => by rcases h with rfl | rfl | rfl | rfl | rfl | rfl | rfl <;> kernel_rfl
theorem tt_list (K : PySem.W.Frag) : TyTab K "list" := fun T h => by rcases h with rfl | rfl | rfl | rfl | rfl | rfl | rfl <;> kernel_rfl
theorem tt_tuple (K : PySem.W.Frag) : TyTab K "tuple" := fun T h => by rcases h with rfl | rfl | rfl | rfl | rfl | rfl | rfl <;> kernel_rfl
theorem isi_core {pins : List (Addr × Obj)} {σ : St} {H G : Hp} {s : Shared} {Q : Value → Shared → Prop} {E : Value → Shared → Prop} {d : D} {x : V} {u : Value} {T U : String} {k : Bool} (I : Inv X pins σ H s) (sg : Sub G H) (at' : At X.K G d x) (rx : RelV x u) (e : tyD d = some T)
    (tt : PySem.W.kitOne X.K (.type T) (.type U) = some k) (h : ∀ tk, Q (.bool k) { s with toks := tk }) : wpAny (model X.prog X.w) X.A (call (.builtin "isinstance") [u, .type U]) Q E s := by
  cases d with
  | non =>
    cases e; simp only [At] at at'; subst at'; cases rx
    exact PySem.W.kia_one PySem.W.kitx_none I.kIn True.intro tt (fun z => nomatch z) h
  | bl b =>
    cases e; simp only [At] at at'; subst at'; cases rx
    exact PySem.W.kia_one PySem.W.kitx_bool I.kIn True.intro tt (fun z => nomatch z) h
  | int b =>
    cases e; simp only [At] at at'; subst at'; obtain ⟨t, rfl⟩ := rx
    exact PySem.W.kia_one PySem.W.kitx_int I.kIn True.intro tt (fun z => nomatch z) h
  | str b =>
    cases e; simp only [At] at at'; subst at'; obtain ⟨t, rfl⟩ := rx
    exact PySem.W.kia_one PySem.W.kitx_str I.kIn True.intro tt (fun z => nomatch z) h
  | lst ds =>
    cases e; simp only [At] at at'
    obtain ⟨q, xs, rfl, hq, _⟩ := at'
    cases rx
    obtain ⟨its, _, ⟨o, n, e1, e2, _⟩, _⟩ := I.list (SqL.of (sg _ _ hq))
    exact PySem.W.kia_one PySem.W.kitx_list I.kIn ⟨o, e1, e2⟩ tt (fun z => nomatch z) h
  | scr ds =>
    cases e; simp only [At] at at'
    obtain ⟨q, xs, rfl, hq, _⟩ := at'
    cases rx
    obtain ⟨its, _, ⟨o, n, e1, e2, _⟩, _⟩ := I.list (SqL.mono sg hq)
    exact PySem.W.kia_one PySem.W.kitx_list I.kIn ⟨o, e1, e2⟩ tt (fun z => nomatch z) h
  | tup ds =>
    cases e; simp only [At] at at'
    obtain ⟨q, xs, rfl, hq, _⟩ := at'
    cases rx
    obtain ⟨its, _, ⟨o, e1, e2, _⟩, _⟩ := I.tuple (SqT.of (sg _ _ hq))
    exact PySem.W.kia_one PySem.W.kitx_tuple I.kIn ⟨o, e1, e2⟩ tt (fun z => nomatch z) h
  | ktp ds =>
    cases e; simp only [At] at at'
    obtain ⟨q, xs, rfl, hq, _⟩ := at'
    cases rx
    obtain ⟨its, _, ⟨o, e1, e2, _⟩, _⟩ := I.tuple (SqT.mono sg hq)
    exact PySem.W.kia_one PySem.W.kitx_tuple I.kIn ⟨o, e1, e2⟩ tt (fun z => nomatch z) h
  | dK ks ds =>
    cases e; simp only [At] at at'
    obtain ⟨q, xs, rfl, hq, _⟩ := at'
    cases rx
    obtain ⟨_, _, vs, _, o, es, ep, h1, h2, _⟩ := (show ObjOk X.prog X.w H s.heap q (.dK xs) from I.hok q _ (sg _ _ hq))
    exact PySem.W.kia_one PySem.W.kitx_dict I.kIn ⟨o, h1, h2.1⟩ tt (fun z => nomatch z) h
  | dT ks ds =>
    cases e; simp only [At] at at'
    obtain ⟨q, xs, rfl, hq, _⟩ := at'
    cases rx
    obtain ⟨_, _, zs, _, o, es, ep, h1, h2, _⟩ := (show ObjOk X.prog X.w H s.heap q (.dT xs) from I.hok q _ (sg _ _ hq))
    exact PySem.W.kia_one PySem.W.kitx_dict I.kIn ⟨o, h1, h2.1⟩ tt (fun z => nomatch z) h
  | ins C ns ds => cases e
  | exo C => cases e
theorem tyD_of {d : D} {T : String} (e : tyD d = some T) : T = "NoneType" ∨ T = "bool" ∨ T = "int" ∨ T = "str" ∨ T = "list" ∨ T = "tuple" ∨ T = "dict" := by
  cases d <;> cases e <;> simp
def rIsi (F : Fx) (U : String) : List V → Hp → VK → Prop := fun xs H Q => ∃ G d x T, Sub G H ∧ xs = [x, .ty U] ∧ At F.K G d x ∧ tyD d = some T ∧ Q (.bl (subTy T U)) H
theorem call_isi {U : String} (hK : F.K = X.K) (tt : TyTab X.K U) : CallR X (.builtin "isinstance") (rIsi F U) := by
  intro pins s σ H xs us Q I r h
  obtain ⟨G, d, x, T, sg, rfl, a, e, q⟩ := h
  obtain ⟨u, w', rfl, rx, ru⟩ := vals2 r
  obtain rfl : w' = Value.type U := ru
  rw [hK] at a
  exact isi_core I sg a rx e (tt T (tyD_of e)) fun tk => ⟨.bl _, H, I.tok tk, rfl, q⟩
theorem e_isi {U : Str} {T : String} {p2 : Pos} (tt : TyTab X.K T) (hm : X.mg "isinstance" = none) (hmU : X.mg U = none) (hU : bootBuiltins U = some (.type T)) (ha : EM X F a m) (hK : F.K = X.K := by rfl) (hg : Gl X "isinstance" := by rfl) (hgU : Gl X U := by rfl)
    (hnU : U ≠ "__name__" := by decide) (hdU : (U == ("__debug__" : Str)) = false := by decide)
    (hs2 : starEach [.Name U p2] X.env = (false, eval (.Name U p2) X.env) :: starEach [] X.env := by rfl)
    (he : starEach [a, .Name U p2] X.env = (false, eval a X.env) :: starEach [.Name U p2] X.env := by rfl) (hpl : (backTo pos (starEach [.Name U p2] X.env)).any (·.1) = false := by rfl) :
    EM X F (.Call (.Name "isinstance" p) [a, .Name U p2] [] pos) (mUn (isiD T) m) := by
  have hb : bootBuiltins "isinstance" = some (.builtin "isinstance") := by kernel_rfl
  refine PE.imp (pe_callB (call_isi hK tt) hg hm hb (pa_cons ha (pa_cons (pe_bltn hgU hmU hU (v := .ty T) rfl hnU hdU) pa_nil hs2) he) (by decide) (by decide) he hpl) ?_
  rintro σ H Q ⟨G, ρ, r, h⟩
  unfold mUn at h
  refine ⟨G, ρ, r, ?_⟩
  cases ea : m ρ with
  | bad => rw [ea] at h; exact h.elim
  | exc c => rw [ea] at h; exact h
  | ok d =>
    rw [ea, R.bind_ok] at h
    intro x H1 G1 r1 s1 ax
    unfold isiD at h
    cases e : tyD d with
    | none => rw [e] at h; exact h.elim
    | some T' =>
      rw [e] at h
      exact ⟨G1, d, x, T', r1.kp.sub, rfl, ax, e, h _ H1 G1 r1 s1 (by simp only [At])⟩
def ixD : D → D → R D
  | .lst xs, .int i => match atI xs i with | some d => .ok d | none => .bad
  | .scr xs, .int i => match atI xs i with | some d => .ok d | none => .bad
  | .tup xs, .int i => match atI xs i with | some d => .ok d | none => .bad
  | .ktp xs, .int i => match atI xs i with | some d => .ok d | none => .bad
  | .str x, .int i => if x.length ≤ 1000000 then match atI x.cps.toList i with | some c => .ok (.str ⟨#[c]⟩) | none => .bad else .bad
  | _, _ => .bad
theorem atI_at {K : PySem.W.Frag} {G : Hp} {ds : List D} {xs : List V} {i : Int} {d : D} (q : AtL K G ds xs) (e : atI ds i = some d) : ∃ v, atI xs i = some v ∧ At K G d v := by
  unfold atI at e ⊢
  rw [q.length] at e
  cases ej : ixN xs.length i with
  | none => rw [ej] at e; cases e
  | some j =>
    rw [ej] at e
    obtain ⟨v, e1, a⟩ := q.get e
    exact ⟨v, e1, a⟩
theorem ok_ix (hK : F.K = X.K) : OpOk F (rIx X.K) ixD := by
  intro σ ρ G H x y dx dy Q r ax ay k
  unfold ixD at k
  split at k
  · rename_i ds i
    simp only [At] at ax ay
    obtain ⟨p, xs, e, h, q⟩ := ax
    split at k
    · rename_i d ed
      obtain ⟨v, ev, av⟩ := atI_at q ed
      exact .inl ⟨p, xs, i, v, e, ay, SqL.of (r.kp.sub _ _ h), ev, k _ H G r (Up.refl _ _) av⟩
    · exact k.elim
  · rename_i ds i
    simp only [At] at ax ay
    obtain ⟨p, xs, e, h, q⟩ := ax
    split at k
    · rename_i d ed
      obtain ⟨v, ev, av⟩ := atI_at q ed
      have h' := h
      rw [hK] at h'
      exact .inl ⟨p, xs, i, v, e, ay, SqL.mono r.kp.sub h', ev, k _ H G r (Up.refl _ _) av⟩
    · exact k.elim
  · rename_i ds i
    simp only [At] at ax ay
    obtain ⟨p, xs, e, h, q⟩ := ax
    split at k
    · rename_i d ed
      obtain ⟨v, ev, av⟩ := atI_at q ed
      exact .inr (.inl ⟨p, xs, i, v, e, ay, SqT.of (r.kp.sub _ _ h), ev, k _ H G r (Up.refl _ _) av⟩)
    · exact k.elim
  · rename_i ds i
    simp only [At] at ax ay
    obtain ⟨p, xs, e, h, q⟩ := ax
    split at k
    · rename_i d ed
      obtain ⟨v, ev, av⟩ := atI_at q ed
      have h' := h
      rw [hK] at h'
      exact .inr (.inl ⟨p, xs, i, v, e, ay, SqT.mono r.kp.sub h', ev, k _ H G r (Up.refl _ _) av⟩)
    · exact k.elim
  · rename_i z i
    simp only [At] at ax ay
    split at k
    · rename_i hl
      split at k
      · rename_i c ec
        exact .inr (.inr ⟨z, i, c, ax, ay, Nat.le_trans hl (by decide), ec, k _ H G r (Up.refl _ _) (by simp only [At])⟩)
      · exact k.elim
    · exact k.elim
  · exact k.elim
theorem e_ix (ha : EM X F a m) (hb : EM X F b n) (hs : PlainIx b) (hK : F.K = X.K := by rfl) : EM X F (.Subscript a b pos) (mBin ixD m n) := PE.imp (pe_ix ix_seq ha hb hs) (i_bin (ok_ix hK))
end
end L3
set_option Elab.async false
set_option linter.all false
set_option maxRecDepth 100000
namespace L3
open PySem PySem.Spec L2
section
variable {X : Cx} {F : Fx} {e a b c : Expr} {es : List Expr} {pos p : Pos} {m n : ME} {ma : MA}
def cutL {α : Type} (xs : List α) (lo hi : Option Int) : List α := (xs.drop (HT.sIx xs.length 0 lo)).take (HT.sIx xs.length xs.length hi - HT.sIx xs.length 0 lo)
def cutS (x : Str) (lo hi : Option Int) : Str := ⟨(cutL x.cps.toList lo hi).toArray⟩
theorem strIx (lo hi : Option Int) (n : Nat) : Builtin.Str.strSliceIndices lo hi 1 n = (List.range (HT.sIx n n hi - HT.sIx n 0 lo)).map (HT.sIx n 0 lo + ·) := by
  rw [← sliceRange_one]
  unfold Builtin.Str.strSliceIndices
  simp only [show (1 : Int) > 0 by decide, if_true]
  congr 1
  · cases lo with
    | none => rfl
    | some i =>
      show max 0 (min (if i < 0 then i + (n : Int) else i) (n : Int)) = ((if i < 0 then (i + (n : Int)).toNat else min i.toNat n : Nat) : Int)
      split <;> omega
  · cases hi with
    | none => rfl
    | some i =>
      show max 0 (min (if i < 0 then i + (n : Int) else i) (n : Int)) = ((if i < 0 then (i + (n : Int)).toNat else min i.toNat n : Nat) : Int)
      split <;> omega
theorem sIx_le (n : Nat) (v : Option Int) {d : Nat} (hd : d ≤ n) : HT.sIx n d v ≤ n := by
  cases v with
  | none => exact hd
  | some i =>
    show (if i < 0 then (i + (n : Int)).toNat else min i.toNat n) ≤ n
    split <;> omega
theorem slice_cut (x : Str) (lo hi : Option Int) : Txt.slice x lo hi = cutS x lo hi := by
  have hl : x.cps.toList.length = x.length := by simp [Str.length]
  unfold Txt.slice cutS cutL
  rw [strIx, hl]
  split
  · rename_i h
    have h : HT.sIx x.length x.length hi - HT.sIx x.length 0 lo = x.length := by simpa using h
    have h1 := sIx_le x.length hi (Nat.le_refl _)
    have h2 : HT.sIx x.length 0 lo = 0 ∨ x.length = 0 := by omega
    have e : (x.cps.toList.drop (HT.sIx x.length 0 lo)).take (HT.sIx x.length x.length hi - HT.sIx x.length 0 lo) = x.cps.toList := by
      rw [h]
      rcases h2 with z | z
      · rw [z, List.drop_zero, List.take_of_length_le (by omega)]
      · have e0 : x.cps.toList = [] := List.length_eq_zero_iff.mp (by omega)
        rw [e0]; simp
    rw [e]
  · rw [pick_run]
def rSlS : V → Option Int → Option Int → Hp → VK → Prop := fun x lo hi H Q => ∃ z, x = .str z ∧ z.length ≤ sizeLine ∧ Q (.str (cutS z lo hi)) H
theorem part_is {v : Value} {o : Option Int} (h : IsPart v o) : ∃ l : Option (Int × Tok), v = partValue l ∧ l.map (·.1) = o := by
  cases h with
  | none => exact ⟨none, rfl, rfl⟩
  | int i t => exact ⟨some (i, t), rfl, rfl⟩
theorem sl_str : SlR X rSlS := by
  intro pins s σ H x v vl vu lo hi sl Q I rx hs pl pu h
  obtain ⟨z, rfl, hz, q⟩ := h
  obtain ⟨t, rfl⟩ := rx
  obtain ⟨l, rfl, el⟩ := part_is pl
  obtain ⟨u, rfl, eu⟩ := part_is pu
  refine ⟨"str", _, F.slot_str_getitem.lookup, typeIs_str s z t, wpAny_getItem_str_slice (l := l) (u := u) (st := none) ?_ rfl ?_⟩
  · obtain ⟨o, h1, h2, h3⟩ := hs
    exact ⟨o, h1, h2, h3⟩
  · have e : Txt.slice z lo hi = cutS z lo hi := slice_cut z lo hi
    have fin : ∀ t' k, EP X pins σ Q (.str (Txt.slice z lo hi) t') { s with toks := k } := fun t' k => ⟨.str (cutS z lo hi), H, I.tok k, ⟨t', by rw [e]⟩, q⟩
    unfold Txt.slice at fin
    subst el eu
    exact post_val_or_str ⟨Nat.le_trans (Txt.slice_le z _ _) hz, fin⟩
abbrev MP := Rho → R (Option Int)
def mNoP : MP := fun _ => .ok none
def intD : D → R (Option Int)
  | .int i => .ok (some i)
  | _ => .bad
def mPart (m : ME) : MP := fun ρ => (m ρ).bind intD
def kP (F : Fx) (G H : Hp) (σ : St) (ρ : Rho) (Q : Option Int → Hp → Prop) : R (Option Int) → Prop
  | .ok o => ∀ H' G', Rel F G' H' σ ρ → Up G H G' H' → Q o H'
  | .exc c => kX F c
  | .bad => False
def tP (F : Fx) (m : MP) : TO := fun σ H Q => ∃ G ρ, Rel F G H σ ρ ∧ kP F G H σ ρ Q (m ρ)
abbrev PM (X : Cx) (F : Fx) (e : Option Expr) (m : MP) : Prop := PO X e (tP F m)
theorem p_no : PM X F none mNoP := fun pins s σ H Q I h => by
  obtain ⟨G, ρ, r, k⟩ := h
  exact po_none pins s σ H Q I (k H G r (Up.refl _ _))
theorem p_some (h : EM X F e m) : PM X F (some e) (mPart m) := fun pins s σ H Q I hw => by
  obtain ⟨G, ρ, r, k⟩ := hw
  refine po_some h pins s σ H Q I ⟨G, ρ, r, ?_⟩
  unfold mPart at k
  cases ea : m ρ with
  | bad => rw [ea] at k; exact k.elim
  | exc c => rw [ea] at k; exact k
  | ok d =>
    rw [ea, R.bind_ok] at k
    intro x H1 G1 r1 s1 ax
    cases d with
    | int i => simp only [At] at ax; exact ⟨i, ax, k H1 G1 r1 s1⟩
    | _ => exact k.elim
def mSl (f : D → Option Int → Option Int → R D) (m : ME) (lo hi : MP) : ME := fun ρ => (m ρ).bind fun d => (lo ρ).bind fun l => (hi ρ).bind fun h => f d l h
def slD (d : D) (l h : Option Int) : R D := match d with
  | .lst xs => .ok (.lst (cutL xs l h))
  | .scr xs => .ok (.lst (cutL xs l h))
  | .str x => if x.length ≤ 1000000 then .ok (.str (cutS x l h)) else .bad
  | _ => .bad
theorem AtL.cut {K : PySem.W.Frag} {G : Hp} {ds : List D} {xs : List V} (q : AtL K G ds xs) (l h : Option Int) : AtL K G (cutL ds l h) (cutV xs l h) := by
  unfold cutL cutV
  rw [q.length]
  exact (q.drop _).take _
theorem i_sl (hK : F.K = X.K) {lo hi : MP} : ImpE (tE F (mSl slD m lo hi)) (tSl (fun x lo hi H Q => rSlL X.K x lo hi H Q ∨ rSlS x lo hi H Q) (tE F m) (tP F lo) (tP F hi)) := by
  rintro σ H Q ⟨G, ρ, r, h⟩
  unfold mSl at h
  refine ⟨G, ρ, r, ?_⟩
  cases ea : m ρ with
  | bad => rw [ea] at h; exact h.elim
  | exc c => rw [ea] at h; exact h
  | ok d =>
    rw [ea, R.bind_ok] at h
    intro x H1 G1 r1 s1 ax
    refine ⟨G1, ρ, r1, ?_⟩
    cases el : lo ρ with
    | bad => rw [el] at h; exact h.elim
    | exc c => rw [el] at h; exact h
    | ok l =>
      rw [el, R.bind_ok] at h
      intro H2 G2 r2 s2
      refine ⟨G2, ρ, r2, ?_⟩
      cases eh : hi ρ with
      | bad => rw [eh] at h; exact h.elim
      | exc c => rw [eh] at h; exact h
      | ok u =>
        rw [eh, R.bind_ok] at h
        intro H3 G3 r3 s3
        have up := s1.trans (s2.trans s3)
        have ax3 := (ax.mono s2.g).mono s3.g
        cases d with
        | lst ds =>
          simp only [At] at ax3
          obtain ⟨q, xs, rfl, hq, al⟩ := ax3
          refine .inl ⟨q, xs, rfl, SqL.of (r3.kp.sub _ _ hq), fun l2 hn => ?_⟩
          refine h (.ref l2) _ _ (r3.lay hn) (up.trans (Up.lay r3.kp.sub hn)) ?_
          simp only [At]
          exact ⟨l2, _, rfl, upd_same, (al.cut l u).mono (Sub.upd (r3.kp.sub.gone hn))⟩
        | scr ds =>
          simp only [At] at ax3
          obtain ⟨q, xs, rfl, hq, al⟩ := ax3
          have hq' := hq
          rw [hK] at hq'
          refine .inl ⟨q, xs, rfl, SqL.mono r3.kp.sub hq', fun l2 hn => ?_⟩
          refine h (.ref l2) _ _ (r3.lay hn) (up.trans (Up.lay r3.kp.sub hn)) ?_
          simp only [At]
          exact ⟨l2, _, rfl, upd_same, (al.cut l u).mono (Sub.upd (r3.kp.sub.gone hn))⟩
        | str z =>
          simp only [At] at ax3
          have h : kE F G H σ ρ Q (if z.length ≤ 1000000 then .ok (.str (cutS z l u)) else .bad) := h
          split at h
          · rename_i hz
            exact .inr ⟨z, ax3, Nat.le_trans hz (by decide), h _ H3 G3 r3 up (by simp only [At])⟩
          · exact h.elim
        | _ => exact h.elim
theorem e_sl {lo hi : Option Expr} {p2 : Pos} {ml mh : MP} (ha : EM X F a m) (hl : PM X F lo ml) (hh : PM X F hi mh) (hK : F.K = X.K := by rfl) : EM X F (.Subscript a (.Slice lo hi none p2) pos) (mSl slD m ml mh) := PE.imp (pe_slice (sl_list.or sl_str) ha hl hh) (i_sl hK)
end
end L3
set_option Elab.async false
set_option linter.all false
set_option maxRecDepth 100000
namespace L2
open PySem PySem.Spec
section
variable {prog : Program} {w : World} {A : Around} {E : Value → Shared → Prop} {s : Shared}
end
end L2
set_option Elab.async false
set_option linter.all false
set_option maxRecDepth 100000
namespace L2
open PySem PySem.Spec
section
variable {X : Cx} {tg : Expr}
end
section
variable {X : Cx} {elts : List Expr} {kk : Nat} {tpos : Pos}
end
section
variable {X : Cx} {elts : List Expr} {kk : Nat} {tpos : Pos}
end
end L2
set_option Elab.async false
set_option linter.all false
set_option maxRecDepth 100000
namespace L3
open PySem PySem.Spec L2
section
variable {X : Cx} {F : Fx} {e a b c tg iter elt : Expr} {es : List Expr} {pos p : Pos} {m n : ME} {ma : MA}
theorem w_list (h : EM X F e m) (hK : F.K = X.K := by rfl) : IM X F tg e (mIL m) := PI.imp (pi_list h) (by rw [← hK]; exact i_list)
theorem w_tup (h : EM X F e m) (hK : F.K = X.K := by rfl) : IM X F tg e (mIT m) := PI.imp (pi_tup h) (by rw [← hK]; exact i_tupI)
theorem w_range1 (hm : X.mg "range" = none) (ha : AM X F [a] ma) (hg : Gl X "range" := by rfl) (hs : starEach [a] X.env = [(false, eval a X.env)] := by rfl) : IM X F tg (.Call (.Name "range" p) [a] [] pos) (mR1 ma) := PI.imp (pi_range1 hg hm ha hs) i_r1
structure GM (X : Cx) (tg : Expr) (set : D → Rho → R Rho) : Prop where
  ex : ∃ g, PG X tg g ∧ ∀ F : Fx, F.K = X.K → GOk F g set
  noX : ∀ d ρ c, set d ρ ≠ .exc c
  keeps : Keeps set
theorem n_name (i : Nat) {x : Str} (hN : X.N.Nodup) (hi : X.N[i]? = some x := by rfl) (hx : Loc X.env.scope x := by first | exact Or.inl rfl | exact Or.inr rfl) (hf : X.fn x = true ∨ X.env.scope.names.lookup x = some .local := by first | exact .inl rfl | exact .inr rfl) : GM X (.Name x pos) (setV i) :=
  ⟨⟨gName i, pg_name hN hi hx hf, fun _ _ => g_name i⟩, setV_noexc i, setV_keeps i⟩
structure GsM (X : Cx) (tgs : List Expr) (fs : List (D → Rho → R Rho)) : Prop where
  ex : ∃ g, PGs X tgs g ∧ ∀ F : Fx, F.K = X.K → GsOk F g (setL fs)
  noX : ∀ f ∈ fs, ∀ d ρ c, f d ρ ≠ .exc c
  keeps : ∀ f ∈ fs, Keeps f
theorem n_nil : GsM X [] [] := ⟨⟨gNil, pgs_nil, fun _ _ => g_nil⟩, (fun _ h => nomatch h), (fun _ h => nomatch h)⟩
theorem n_cons {f : D → Rho → R Rho} {fs : List (D → Rho → R Rho)} (h : GM X e f) (t : GsM X es fs) (hs : (assignEach (e :: es) X.env).map (·.2) = assign e X.env :: (assignEach es X.env).map (·.2) := by rfl) : GsM X (e :: es) (f :: fs) := by
  obtain ⟨⟨g, h1, h2⟩, h3, h4⟩ := h
  obtain ⟨⟨gs, t1, t2⟩, t3, t4⟩ := t
  exact ⟨⟨gCons g gs, pgs_cons h1 t1 hs, fun F hF => g_cons (h2 F hF) (t2 F hF)⟩, fun k hk => by rcases List.mem_cons.mp hk with rfl | hk; exact h3; exact t3 k hk, fun k hk => by rcases List.mem_cons.mp hk with rfl | hk; exact h4; exact t4 k hk⟩
theorem n_tup {k : Nat} {fs : List (D → Rho → R Rho)} (hc : X.calm = true) (h : GsM X es fs) (hn : (assignEach es X.env).length = fs.length := by rfl) (hst : (assignEach es X.env).findIdx? (·.1) = none := by rfl) : GM X (.Tuple es k pos) (setT fs) := by
  obtain ⟨⟨gs, t1, t2⟩, t3, t4⟩ := h
  exact ⟨⟨gTup X.K fs.length gs, pg_tup hc t1 hn hst, fun F hF => by rw [← hF]; exact g_tup rfl (t2 F hF)⟩, setT_noexc t3, setT_keeps t4⟩
theorem s_for {body : List Stmt} {mi : MA} {set : D → Rho → R Rho} {mb : MS} (hp : PassesOwn (model X.prog X.w) X.A X.env X.xe) (hi : IM X F tg iter mi) (hg : GM X tg set) (hb : BM X F body mb) (hc : X.calm = true := by rfl) (hK : F.K = X.K := by rfl) (hs : ∀ x, foldedSetIterable iter X.env x = pure x := by intro _; rfl) :
    SM X F (.For tg iter body [] pos) (mFor mi set mb) := by
  obtain ⟨⟨g, h1, h2⟩, h3, _⟩ := hg
  exact PS.imp (ps_for hp hc hi h1 hb hs) (i_for (h2 F hK) h3)
abbrev BlkE (X : Cx) (scope : Scope) (N : List Str) (e : Expr) (m : ME) : Prop := ∀ cl C s H fp G0 H0, EM (cxB X scope N cl C s H fp) (fxB X.K G0 H0) e m
abbrev BlkT (X : Cx) (scope : Scope) (N : List Str) (ifs : List Expr) (m : MT) : Prop := ∀ cl C s H fp G0 H0, PTs (cxB X scope N cl C s H fp) ifs (tT (fxB X.K G0 H0) m)
abbrev BlkG (X : Cx) (scope : Scope) (N : List Str) (tg : Expr) (set : D → Rho → R Rho) : Prop := ∃ g, (∀ cl C s H fp, PG (cxB X scope N cl C s H fp) tg g) ∧ (∀ G0 H0, GOk (fxB X.K G0 H0) g set)
theorem blk_g {scope : Scope} {N : List Str} {g : TG} {set : D → Rho → R Rho} (h : ∀ cl C s H fp, PG (cxB X scope N cl C s H fp) tg g) (k : ∀ F : Fx, F.K = X.K → GOk F g set) : BlkG X scope N tg set := ⟨g, h, fun G0 H0 => k (fxB X.K G0 H0) rfl⟩
def mYes : MT := fun _ => .ok true
theorem blk_yes {scope : Scope} {N : List Str} : BlkT X scope N [] mYes := fun cl C s H fp G0 H0 pins s' σ H' Q I h => by
  obtain ⟨G, ρ, r, k⟩ := h
  exact pts_nil pins s' σ H' Q I (k H' G r (Up.refl _ _))
theorem blk_one {scope : Scope} {N : List Str} {mt : MT} (h : ∀ cl C s H fp G0 H0, TM (cxB X scope N cl C s H fp) (fxB X.K G0 H0) c mt) : BlkT X scope N [c] mt := fun cl C s H fp G0 H0 => pts_one (h cl C s H fp G0 H0)
theorem comp_imp {scope : Scope} {N : List Str} {ifs : List Expr} {nl : Nat} {caps : List Nat} {mi : MA} {set : D → Rho → R Rho} {mt : MT} {me : ME} (hK : F.K = X.K) (hi : IM X F tg iter mi) (hg : BlkG X scope N tg set) (ht : BlkT X scope N ifs mt) (he : BlkE X scope N elt me) (hx : ∀ d ρ c, set d ρ ≠ .exc c) (hk : Keeps set)
    {Q : TE → Prop} (k : ∀ g, (∀ cl C s H fp, PG (cxB X scope N cl C s H fp) tg g) → (∀ cl C s H fp, PTs (cxB X scope N cl C s H fp) ifs (xT X.K mt)) → (∀ cl C s H fp, PE (cxB X scope N cl C s H fp) elt (xE X.K me)) → ImpE (tO F (mComp nl caps mi set mt me)) (tComp (tI F mi) g (xT X.K mt) (xE X.K me) nl caps) → Q (tO F (mComp nl caps mi set mt me))) : Q (tO F (mComp nl caps mi set mt me)) := by
  obtain ⟨g, g1, g2⟩ := hg
  refine k g g1 (fun cl C s H fp pins s' σ H' Q' I h => ?_) (fun cl C s H fp pins s' σ H' Q' I h => ?_) ?_
  · obtain ⟨G0, H0, h⟩ := h
    exact ht cl C s H fp G0 H0 pins s' σ H' Q' I h
  · obtain ⟨G0, H0, h⟩ := h
    exact he cl C s H fp G0 H0 pins s' σ H' Q' I h
  · have z := i_comp (F := F) (nl := nl) (caps := caps) (mi := mi) (tst := mt) (elt := me) (g := g) (set := set) (fun G0 H0 => by rw [hK]; exact g2 G0 H0) hx hk
    rw [hK] at z
    exact z
theorem o_comp {scope : Scope} {N : List Str} {ifs : List Expr} {nl : Nat} {caps : List Nat} {mi : MA} {set : D → Rho → R Rho} {mt : MT} {me : ME} (S : CompSc X.env.scope X.N scope N nl caps) (hi : IM X F tg iter mi) (hg : BlkG X scope N tg set) (hx : ∀ d ρ c, set d ρ ≠ .exc c) (hk : Keeps set) (ht : BlkT X scope N ifs mt) (he : BlkE X scope N elt me)
    (hc : X.calm = true := by rfl) (hK : F.K = X.K := by rfl) (hs : ∀ x, foldedSetIterable iter X.env x = pure x := by intro _; rfl) : EO X F (.ListComp elt [⟨tg, iter, ifs, 0⟩] scope pos) (mComp nl caps mi set mt me) :=
  comp_imp (nl := nl) (caps := caps) (Q := fun t => PE X (.ListComp elt [⟨tg, iter, ifs, 0⟩] scope pos) t) hK hi hg ht he hx hk fun g g1 t1 e1 imp => PE.imp (pe_comp S hc hi g1 t1 e1 hs) imp
theorem s_comp (i : Nat) {y : Str} {py : Pos} {scope : Scope} {N : List Str} {ifs : List Expr} {nl : Nat} {caps : List Nat} {mi : MA} {set : D → Rho → R Rho} {mt : MT} {me : ME} {cpos : Pos} (hN : X.N.Nodup) (S : CompSc X.env.scope X.N scope N nl caps) (hi : IM X F tg iter mi) (hg : BlkG X scope N tg set) (hx : ∀ d ρ c, set d ρ ≠ .exc c) (hk : Keeps set) (ht : BlkT X scope N ifs mt) (he : BlkE X scope N elt me)
    (hy : X.N[i]? = some y := by rfl) (hl : X.env.kindOf y = some .local := by rfl) (hsw : swapsWith (.ListComp elt [⟨tg, iter, ifs, 0⟩] scope cpos) (some (.Name y py)) pos.line X.env = pure true := by rfl) (hc : X.calm = true := by rfl) (hK : F.K = X.K := by rfl) (hs : ∀ x, foldedSetIterable iter X.env x = pure x := by intro _; rfl) :
    SM X F (.Assign [.Name y py] (.ListComp elt [⟨tg, iter, ifs, 0⟩] scope cpos) pos) (mSetO i (mComp nl caps mi set mt me)) := by
  refine PS.imp (t := tAsg (tO F (mComp nl caps mi set mt me)) (gName i)) ?_ i_setO
  refine comp_imp (nl := nl) (caps := caps) (Q := fun t => PS X (.Assign [.Name y py] (.ListComp elt [⟨tg, iter, ifs, 0⟩] scope cpos) pos) (tAsg t (gName i))) hK hi hg ht he hx hk fun g g1 t1 e1 imp => ?_
  exact PS.imp (ps_comp S hc hN hy hl hi g1 t1 e1 hsw hs) fun De σ H h => imp σ H _ h
end
end L3
set_option Elab.async false
set_option linter.all false
set_option maxRecDepth 100000
namespace L3
open PySem PySem.Spec L2
section
variable {X : Cx} {F : Fx} {e a b c : Expr} {es : List Expr} {pos p : Pos} {m n : ME} {ma : MA}
def boolsD : List D → Option (List Bool)
  | [] => some []
  | .bl b :: r => (boolsD r).map (b :: ·)
  | _ :: _ => none
theorem bools_at {K : PySem.W.Frag} {G : Hp} : ∀ {ds : List D} {xs : List V} {bs : List Bool}, AtL K G ds xs → boolsD ds = some bs → xs = bs.map V.bl
  | [], _, _, q, e => by simp only [AtL] at q; subst q; cases e; rfl
  | d :: ds, _, bs, q, e => by
    simp only [AtL] at q
    obtain ⟨v, r, rfl, a, ar⟩ := q
    cases d with
    | bl b =>
      simp only [At] at a; subst a
      simp only [boolsD] at e
      cases e1 : boolsD ds with
      | none => rw [e1] at e; cases e
      | some cs =>
        rw [e1] at e
        have eb : b :: cs = bs := Option.some.inj e
        subst eb
        rw [bools_at ar e1]; rfl
    | _ => cases e
theorem vals_bools : ∀ {bs : List Bool} {us : List Value}, Vals (bs.map V.bl) us → us = bs.map Value.bool
  | [], _, r => by cases r; rfl
  | b :: bs, _, r => by
    cases r with
    | cons r1 r2 => cases r1; rw [vals_bools r2]; rfl
theorem call_allL (hc : X.calm = true) (hcl : X.A.handled = none) : CallR X (.builtin "all") (fun xs H Q => ∃ (p : Addr) (bs : List Bool), xs = [.ref p] ∧ SqL X.K H p (bs.map V.bl) ∧ Q (.bl (bs.all id)) H) := by
  intro pins s σ H xs us Q I r h
  obtain ⟨p, bs, rfl, hq, q⟩ := h
  obtain ⟨u, rfl, ru⟩ := vals1 r
  cases ru
  obtain ⟨its, rv, pl, hz⟩ := I.list hq
  have ei := vals_bools rv
  refine call_all_walk (wpAny_pyIter_list pl.isList ?_)
  have hne : p ≠ s.heap.objs.size := by obtain ⟨o, ho, _⟩ := pl.isList; exact Nat.ne_of_lt (Heap.lt_size ho)
  refine ⟨s.heap.objs.size, _, _, _, _, _, fun i => (bs[i]?).getD true, rfl, Walks.list (prog := X.prog) (w := X.w) (A := X.A.in1) hcl s.heap.objs.size p hne its.toArray, ⟨⟨_, Heap.get?_push_size _ rfl, rfl, rfl⟩, pl.isList.push _⟩, ?_, fun h' tk kk => ?_⟩
  · intro i v s' Q' E' hP hQ'
    rw [ei] at hP
    have hP : (bs.map Value.bool)[i]? = some v := by simpa using hP
    rw [List.getElem?_map] at hP
    cases eb : bs[i]? with
    | none => rw [eb] at hP; cases hP
    | some b =>
      rw [eb] at hP
      have ev : Value.bool b = v := Option.some.inj hP
      subst ev
      dsimp only at hQ'
      rw [eb] at hQ'
      exact wpAny_truthy_bool hQ'
  · have hall : (List.range its.toArray.size).all (fun i => (bs[i]?).getD true) = bs.all id := by
      have hl : its.toArray.size = bs.length := by rw [ei]; simp
      rw [hl, Bool.eq_iff_iff, List.all_eq_true, List.all_eq_true]
      constructor
      · intro hh x hx
        obtain ⟨i, hi, rfl⟩ := List.mem_iff_getElem.mp hx
        have := hh i (List.mem_range.mpr hi)
        rw [List.getElem?_eq_getElem hi] at this
        exact this
      · intro hh i hi
        have hi := List.mem_range.mp hi
        rw [List.getElem?_eq_getElem hi]
        exact hh _ (List.getElem_mem hi)
    rw [hall]
    exact ⟨.bl _, H, I.kept (t' := tk) fun b o e2 => kk b o (by
      intro z
      have z : b = s.heap.objs.size := by simpa using z
      exact absurd (Heap.lt_size e2) (by rw [z]; exact Nat.lt_irrefl _)) (Heap.get?_push_of_some _ e2), rfl, q⟩
def allD : List D → R D
  | [.lst ds] => match boolsD ds with | some bs => .ok (.bl (bs.all id)) | none => .bad
  | _ => .bad
theorem ok_all : CallOk F (fun xs H Q => ∃ (p : Addr) (bs : List Bool), xs = [.ref p] ∧ SqL X.K H p (bs.map V.bl) ∧ Q (.bl (bs.all id)) H) allD := by
  intro σ ρ G H xs ds Q r al k
  unfold allD at k
  split at k
  · rename_i ds
    split at k
    · rename_i bs eb
      obtain ⟨v, rfl, av⟩ := al.one
      simp only [At] at av
      obtain ⟨q, xs, rfl, hq, aq⟩ := av
      have := bools_at aq eb
      subst this
      exact ⟨q, bs, rfl, SqL.of (r.kp.sub _ _ hq), k _ H G r (Up.refl _ _) (by simp only [At])⟩
    · exact k.elim
  · exact k.elim
theorem e_all {k : Nat} (hr : Room k X.A) (hm : X.mg "all" = none) (ha : AM X F [e] ma) (hc : X.calm = true := by rfl) (hg : Gl X "all" := by rfl) (he : starEach [e] X.env = (false, eval e X.env) :: starEach [] X.env := by rfl) (hpl : (backTo pos (starEach [] X.env)).any (·.1) = false := by rfl) :
    EM X F (.Call (.Name "all" p) [e] [] pos) (mCB allD ma) := e_callB (call_allL hc hr.hd) ok_all hm (by kernel_rfl) ha hg (by decide) (by decide) he hpl
end
end L3
set_option Elab.async false
set_option linter.all false
set_option maxRecDepth 100000
namespace L3
open PySem PySem.Spec L2
section
variable {X : Cx} {F : Fx} {e a b c : Expr} {es : List Expr} {pos p : Pos} {m n : ME} {ma : MA}
def ownAt (i : Nat) (ρ : Rho) : R (List D) := match ρ[i]? with
  | some (.ob (.lst ds)) => .ok ds
  | _ => .bad
def mApp (i : Nat) (m : ME) : MS := fun ρ => (ownAt i ρ).bind fun ds => (m ρ).bind fun d => if ds.length < 1000000 then .ok (.nx (ρ.set i (.ow (ds ++ [d])))) else .bad
theorem s_append (i : Nat) {x : Str} {px : Pos} {apos : Pos} {cpos : Pos} (he : EM X F e m) (hN : X.N[i]? = some x := by rfl) (hv : Vis X.env.scope x := by first | exact Or.inl rfl | exact Or.inr (Or.inl rfl) | exact Or.inr (Or.inr rfl)) (hd : (x == ("__debug__" : Str)) = false := by decide) (hcd : (x == ("__classdict__" : Str)) = false := by decide)
    (hbase : attributeBase (.Name x px) "append" X.env (eval (.Name x px) X.env) = eval (.Name x px) X.env := by rfl) (hline : (apos.endLine == cpos.line) = true := by rfl)
    (hfew : ((backTo cpos (starEach [e] X.env)).all (fun x => !x.1) && (backToKw cpos (keywordEach [] X.env)).all (fun x => x.1.isSome)
      && decide (([e] : List Expr).length + ([] : List Keyword).length + (if ([] : List Keyword).isEmpty then 0 else 1) < 30)) = true := by rfl)
    (hs : starEach [e] X.env = (false, eval e X.env) :: starEach [] X.env := by rfl) (hplain : (backTo cpos (starEach [] X.env)).any (·.1) = false := by rfl)
    (hK : F.K = X.K := by rfl) :
    SM X F (.Expr (.Call (.Attribute (.Name x px) "append" apos) [e] [] cpos) pos) (mApp i m) := by
  refine PS.imp (ps_expr (pe_bm PySem.F.plainAttrs_list PySem.F.slot_list_append PySem.F.type_list_append mt_append (pe_var hN hv hd hcd) (pa_cons he pa_nil hs) hbase hfew hline hs hplain) (swaps_no _ _ _ _ rfl)) ?_
  rintro De σ H ⟨G, ρ, r, h⟩
  unfold mApp ownAt at h
  cases er : ρ[i]? with
  | none => rw [er] at h; exact h.elim
  | some s =>
    rw [er] at h
    cases s with
    | un => exact h.elim
    | fz _ => exact h.elim
    | tr _ => exact h.elim
    | ob ob =>
     cases ob with
     | dT _ _ => exact h.elim
     | ins _ _ _ => exact h.elim
     | lst ds =>
      obtain ⟨q, xs, e1, h1, h2, h3, h4⟩ := r.own er
      have h : kS F G De ((m ρ).bind fun d => if ds.length < 1000000 then .ok (.nx (ρ.set i (.ow (ds ++ [d])))) else .bad) := h
      refine ⟨.ref q, e1, .inl ⟨rfl, xs, SqL.of h1⟩, G, ρ, r, ?_⟩
      cases ea : m ρ with
      | bad => rw [ea] at h; exact h.elim
      | exc c => rw [ea] at h; exact h
      | ok d =>
        rw [ea, R.bind_ok] at h
        intro v H1 G1 r1 s1 av
        obtain ⟨q', xs', e1', h1', h2', h3', h4'⟩ := r1.own er
        rw [e1] at e1'
        cases e1'
        by_cases hl : ds.length < 1000000
        · rw [if_pos hl] at h
          refine ⟨q, xs', v, rfl, rfl, h1', by rw [← h4'.length]; exact Nat.lt_trans hl (by decide), ?_⟩
          exact h σ G1 _ (r1.mut er e1 (h4'.snoc av)) s1.g
        · rw [if_neg hl] at h; exact h.elim
end
end L3
set_option Elab.async false
set_option linter.all false
set_option maxRecDepth 100000
set_option autoImplicit false
namespace L3
open PySem PySem.Spec L2
abbrev sp0 (K : PySem.W.Frag) (n : Nat) (mf : List D → R Rt) : Sp := spM K n (fun _ _ _ => False) mf
structure Kn (P : Program) (w : World) (K : PySem.W.Frag) (mg : Str → Option Value) (base : Heap) (x : Str) (n k : Nat) (mf : List D → R Rt) : Prop where
  ex : ∃ (f : Addr) (fd : FuncData) (ps : List Str), ps.length = n ∧ FnOk P w K mg base CX0 k f fd ps (sp0 K n mf) ∧ mg x = some (.ref f) ∧ PySem.W.keepIn K (.ref f) = true ∧ Binds K fd ps []
section
variable {X : Cx} {F : Fx} {e : Expr} {es : List Expr} {pos p : Pos} {ma : MA} {x : Str} {n k : Nat} {mf : List D → R Rt}
theorem e_call (c : Kn X.prog X.w X.K X.mg X.base x n k mf) (hr : Room k X.A) (ha : AM X F (e :: es) ma) (hE : F.EX = fun _ _ => False := by rfl) (hK : F.K = X.K := by rfl) (hg : Gl X x := by rfl) (hdb : (x == ("__debug__" : Str)) = false := by decide)
    (he : starEach (e :: es) X.env = (false, eval e X.env) :: starEach es X.env := by rfl) (hpl : (backTo pos (starEach es X.env)).any (·.1) = false := by rfl) : EM X F (.Call (.Name x p) (e :: es) [] pos) (mCall n mf ma) := by
  obtain ⟨f, fd, ps, hn, fo, hm, hk, hb⟩ := c.ex
  refine PE.imp (pe_call fo hr hg hm hk hb .nil pass0 ha hdb he hpl) ?_
  rw [← hK]
  exact i_call (xe := fun _ _ _ => False) (E := E0) hE
theorem o_call (c : Kn X.prog X.w X.K X.mg X.base x n k mf) (hr : Room k X.A) (ha : AM X F (e :: es) ma) (hE : F.EX = fun _ _ => False := by rfl) (hK : F.K = X.K := by rfl) (hg : Gl X x := by rfl) (hdb : (x == ("__debug__" : Str)) = false := by decide)
    (he : starEach (e :: es) X.env = (false, eval e X.env) :: starEach es X.env := by rfl) (hpl : (backTo pos (starEach es X.env)).any (·.1) = false := by rfl) : EO X F (.Call (.Name x p) (e :: es) [] pos) (mCallO n mf ma) := by
  obtain ⟨f, fd, ps, hn, fo, hm, hk, hb⟩ := c.ex
  refine PE.imp (pe_call fo hr hg hm hk hb .nil pass0 ha hdb he hpl) ?_
  rw [← hK]
  exact i_callO (xe := fun _ _ _ => False) (E := E0) hE
end
structure Fd (K : PySem.W.Frag) (mg : Str → Option Value) (x : Str) (st : Stmt) (ps : List Str) : Prop where
  ex : ∃ (f : Addr) (fd : FuncData), Fun K x x st f fd ∧ mg x = some (.ref f) ∧ Binds K fd ps []
theorem d_ok {P : Program} {w : World} {K : PySem.W.Frag} {mg : Str → Option Value} {base : Heap} {x : Str} {st : Stmt} {N ps : List Str} {k : Nat} {m : MS} (d : Fd K mg x st ps) (S : FnScope N ps (defScope st))
    (h : ∀ (f : Addr) (cdv : Value) (A : Around) (outer : List Env) (s : Shared) (H : Hp) (E : XK), Room k (A.deeper (PyProof.Rows.envOfC x (defScope st) s.heap.objs.size f cdv)) → ∀ G0 H0, BM (cxOf CX0 P w K mg base N x (defScope st) f cdv A outer s H E).nox (fxB K G0 H0) (defBody st) m) :
    Kn P w K mg base x ps.length (k + 1) (mDef N.length m) := by
  obtain ⟨f, fd, fn, hm, hb⟩ := d.ex
  refine ⟨f, fd, ps, rfl, fn.ok S spM_len fun cdv A outer s H vs Q E hr hs => ?_, hm, fn.kp, hb⟩
  obtain ⟨G, ht⟩ := body_of hs
  exact ⟨_, h f cdv A outer s H E hr G H, ht⟩
theorem fd_mk {K : PySem.W.Frag} {h : Heap} {mg : Str → Option Value} {x : Str} {st : Stmt} {ps : List Str} {f : Addr} {oc : Value} {od an : Option Addr} {osl : Array (Option Value)} {kV doc pm cdv ct : Value} (X : K.In h) (G : h.Ns mainGlobals mg)
    (a : PySem.W.nsIn K mainGlobals x = some (some (.ref f))) (l : K.lookup f = some ⟨oc, od, .func (PySem.W.fnOf x x (defArgs st) (defBody st) (defScope st) .none kV doc pm an cdv ct), osl⟩)
    (c : PySem.W.codeIn K cdv x = true) (k : PySem.W.keepIn K (.ref f) = true)
    (b : ∀ (kV doc pm : Value) (an : Option Addr) (cdv ct : Value) (us : List Value), us.length = ps.length → bindArgs (PySem.W.fnOf x x (defArgs st) (defBody st) (defScope st) .none kV doc pm an cdv ct) ⟨us, []⟩ = pure (ps.zip us)) : Fd K mg x st ps :=
  ⟨f, _, fun_mk (st := st) l c k, PySem.W.mg_of X G a, (fun_mk (st := st) l c k).binds b⟩
theorem law_sp {K : PySem.W.Frag} {mf : List D → R Rt} {H : Hp} {a : Addr} {ns : List Int} (hS : SqL K H a (ns.map V.int)) (h : mf [.scr (ns.map .int)] = .ok (.v (.bl true))) (E : XK) : sp0 K 1 mf [.ref a] H (fun v _ => v = .bl true) E := by
  refine ⟨H, [.scr (ns.map .int)], Sub.refl _, .cons ?_ .nil, rfl, ?_⟩
  · simp only [At]
    refine ⟨a, _, rfl, hS, ?_⟩
    induction ns with
    | nil => exact .nil
    | cons n r ih => exact .cons (by simp only [At]) (ih' r)
  · rw [h]
    intro v G' H' _ av
    simp only [At] at av
    exact av
where
  ih' {K : PySem.W.Frag} {H : Hp} : ∀ r : List Int, AtL K H (r.map .int) (r.map V.int)
    | [] => .nil
    | n :: r => .cons (by simp only [At]) (ih' r)
end L3
set_option Elab.async false
set_option linter.all false
set_option maxRecDepth 100000
set_option autoImplicit false
namespace L3
open PySem PySem.Spec L2
section
variable {X : Cx} {F : Fx} {e a b c tg iter elt : Expr} {es : List Expr} {pos p : Pos} {m n : ME} {ma : MA} {scope : Scope} {N : List Str}
structure BG (X : Cx) (scope : Scope) (N : List Str) (tg : Expr) (set : D → Rho → R Rho) : Prop where
  g : BlkG X scope N tg set
  nx : ∀ d ρ c, set d ρ ≠ .exc c
  kp : Keeps set
theorem b_name (i : Nat) {x : Str} (hN : N.Nodup := by decide +kernel) (hi : N[i]? = some x := by rfl) (hl : (relabel scope X.env).names.lookup x = some .local := by rfl) : BG X scope N (.Name x pos) (setV i) :=
  ⟨blk_g (g := gName i) (fun cl C s H fp => pg_name (X := cxB X scope N cl C s H fp) hN hi (.inl hl) (.inr hl)) fun F _ => g_name i, setV_noexc i, setV_keeps i⟩
theorem o_comp' (nl : Nat) (caps : List Nat) {ifs : List Expr} {mi : MA} {set : D → Rho → R Rho} {mt : MT} {me : ME} (S : compScB X.env.scope X.N scope N nl caps = true) (hi : IM X F tg iter mi) (hg : BG X scope N tg set) (ht : BlkT X scope N ifs mt) (he : BlkE X scope N elt me)
    (hc : X.calm = true := by rfl) (hK : F.K = X.K := by rfl) (hs : ∀ x, foldedSetIterable iter X.env x = pure x := by intro _; rfl) : EO X F (.ListComp elt [⟨tg, iter, ifs, 0⟩] scope pos) (mComp nl caps mi set mt me) :=
  o_comp (.of S) hi hg.g hg.nx hg.kp ht he hc hK hs
theorem s_comp' (i : Nat) (nl : Nat) (caps : List Nat) {y : Str} {py : Pos} {ifs : List Expr} {mi : MA} {set : D → Rho → R Rho} {mt : MT} {me : ME} {cpos : Pos} (hN : X.N.Nodup) (S : compScB X.env.scope X.N scope N nl caps = true) (hi : IM X F tg iter mi) (hg : BG X scope N tg set) (ht : BlkT X scope N ifs mt) (he : BlkE X scope N elt me)
    (hy : X.N[i]? = some y := by rfl) (hl : X.env.kindOf y = some .local := by rfl) (hsw : swapsWith (.ListComp elt [⟨tg, iter, ifs, 0⟩] scope cpos) (some (.Name y py)) pos.line X.env = pure true := by rfl) (hc : X.calm = true := by rfl) (hK : F.K = X.K := by rfl) (hs : ∀ x, foldedSetIterable iter X.env x = pure x := by intro _; rfl) :
    SM X F (.Assign [.Name y py] (.ListComp elt [⟨tg, iter, ifs, 0⟩] scope cpos) pos) (mSetO i (mComp nl caps mi set mt me)) :=
  s_comp i hN (.of S) hi hg.g hg.nx hg.kp ht he hy hl hsw hc hK hs
def mSetF (i : Nat) (a : MA) : MS := fun ρ => ((mSetO i a) ρ).bind fun f => match f with
  | .nx ρ' => .ok (.nx (frz1 i ρ'))
  | f => .ok f
theorem s_setF {st : Stmt} {i : Nat} {a : MA} (h : SM X F st (mSetO i a)) : SM X F st (mSetF i a) := PS.imp h fun De σ H ⟨G, ρ, r, k⟩ => by
  refine ⟨G, ρ, r, ?_⟩
  unfold mSetF at k
  cases e : mSetO i a ρ with
  | bad => rw [e] at k; exact k.elim
  | exc c => rw [e] at k; exact k
  | ok f =>
    rw [e, R.bind_ok] at k
    cases f with
    | nx ρ' =>
      intro σ' G' H' r' s'
      obtain ⟨G2, r2, s2⟩ := r'.frz1 i
      exact k σ' G2 H' r2 (s'.trans s2)
    | rt d => exact k
    | ro d => exact k
    | rn d => exact k
    | bk d => exact k
    | ct d => exact k
end
theorem tup_at {K : PySem.W.Frag} {c : Addr} {dd : Option Addr} {its : Array Value} {n : Nat} {sl : Array (Option Value)} {xs : List V} {ds : List D} (l : K.lookup c = some ⟨.type "tuple", dd, .seq its n, sl⟩) (hz : its.size ≤ sizeLine) (v : Vals xs its.toList) (a : ∀ G, AtL K G ds xs) :
    ∀ G, At K G (.ktp ds) (.ref c) := fun G => by
  simp only [At]
  exact ⟨c, xs, rfl, .inr ⟨_, its, n, l, rfl, rfl, hz, v⟩, a G⟩
theorem rv_int (i : Int) (t : Tok) : RelV (.int i) (.int i t) := ⟨t, rfl⟩
theorem rv_str (x : Str) (t : Tok) : RelV (.str x) (.str x t) := ⟨t, rfl⟩
theorem a_int {K : PySem.W.Frag} {G : Hp} (i : Int) : At K G (.int i) (.int i) := by simp only [At]
theorem a_str {K : PySem.W.Frag} {G : Hp} (i : Str) : At K G (.str i) (.str i) := by simp only [At]
end L3
set_option Elab.async false
set_option linter.all false
set_option maxRecDepth 100000
set_option autoImplicit false
namespace L3
open PySem PySem.Spec L2
structure XEM (X : Cx) (F : Fx) (e : Expr) (m : ME) : Prop where
  o : PE X e (tE F m)
structure XEO (X : Cx) (F : Fx) (e : Expr) (m : MA) : Prop where
  o : PE X e (tO F m)
structure XTM (X : Cx) (F : Fx) (e : Expr) (m : MT) : Prop where
  o : PT X e (tT F m)
structure XWM (X : Cx) (F : Fx) (e : Expr) (m : MT) : Prop where
  o : PW X e (tT F m)
structure XAM (X : Cx) (F : Fx) (es : List Expr) (m : MA) : Prop where
  o : PA X es (tA F m)
structure XSM (X : Cx) (F : Fx) (st : Stmt) (m : MS) : Prop where
  o : PS X st (tS F m)
structure XBM (X : Cx) (F : Fx) (st : List Stmt) (m : MS) : Prop where
  o : PSs X st (tS F m)
structure XIM (X : Cx) (F : Fx) (tg e : Expr) (m : MA) : Prop where
  o : PI X tg e (tI F m)
structure XPM (X : Cx) (F : Fx) (e : Option Expr) (m : MP) : Prop where
  o : PO X e (tP F m)
section
variable {X : Cx} {F : Fx} {e a b c tg iter elt : Expr} {es : List Expr} {pos p : Pos} {m n : ME} {ma : MA} {st : Stmt} {sts : List Stmt}
theorem xe_var (i : Nat) {x : Str} (hN : X.N[i]? = some x := by rfl) (hv : Vis X.env.scope x := by first | exact Or.inl rfl | exact Or.inr (Or.inl rfl) | exact Or.inr (Or.inr rfl)) (hd : (x == ("__debug__" : Str)) = false := by decide) (hcd : (x == ("__classdict__" : Str)) = false := by decide) : XEM X F (.Name x pos) (mVar i) := ⟨L3.e_var (i := i) (hN := hN) (hv := hv) (hd := hd) (hcd := hcd)⟩
theorem xe_int {i : Int} {j} : XEM X F (.Constant (.int i) j pos) (mC (.int i)) := ⟨L3.e_int ⟩
theorem xe_bl {i : Bool} {j} : XEM X F (.Constant (.bool i) j pos) (mC (.bl i)) := ⟨L3.e_bl ⟩
theorem xe_str {i : Str} {j} : XEM X F (.Constant (.str i) j pos) (mC (.str i)) := ⟨L3.e_str ⟩
theorem xe_non {j} : XEM X F (.Constant .none j pos) (mC .non) := ⟨L3.e_non ⟩
theorem xa_nil  : XAM X F [] mNil := ⟨L3.a_nil ⟩
theorem xa_cons {m : ME} {r : MA} (h : XEM X F e m) (t : XAM X F es r) (hs : notStar e = true := by rfl) : XAM X F (e :: es) (mCons m r) := ⟨L3.a_cons (h := h.1) (t := t.1) (hs := hs)⟩
theorem xe_tup {k} {m : MA} (h : XAM X F es m) : XEM X F (.Tuple es k pos) (mTup m) := ⟨L3.e_tup (h := h.1)⟩
theorem xo_lst {m : MA} (h : XAM X F es m) : XEO X F (.List es pos) (mLim m) := ⟨L3.o_lst (h := h.1)⟩
theorem xe_fz {m : MA} (h : XEO X F e m) : XEM X F e (mFz m) := ⟨L3.e_fz (h := h.1)⟩
theorem xe_bor {m : ME} (h : XEM X F e m) : XEM X F e (mBor m) := ⟨L3.e_bor (h := h.1)⟩
theorem xt_bor {m : MT} (h : XTM X F e m) : XTM X F e (mBorT m) := ⟨L3.t_bor (h := h.1)⟩
theorem xt_val {m : ME} (h : XEM X F e m) (he : ∀ whole, isTrue e X.env whole = (do let v ← whole; standAt e.pos; holding [v] (truthy v)) := by intro _; rfl) : XTM X F e (mB m) := ⟨L3.t_val (h := h.1) (he := he)⟩
theorem xw_and1 {m : MT} (h : XTM X F a m) : XWM X F (.BoolOp .And [a] pos) m := ⟨L3.w_and1 (h := h.1)⟩
theorem xw_or1 {m : MT} (h : XTM X F a m) : XWM X F (.BoolOp .Or [a] pos) m := ⟨L3.w_or1 (h := h.1)⟩
theorem xw_and {m n : MT} (h : XTM X F a m) (k : XWM X F (.BoolOp .And (b :: es) pos) n) : XWM X F (.BoolOp .And (a :: b :: es) pos) (mAnd m n) := ⟨L3.w_and (h := h.1) (k := k.1)⟩
theorem xw_or {m n : MT} (h : XTM X F a m) (k : XWM X F (.BoolOp .Or (b :: es) pos) n) : XWM X F (.BoolOp .Or (a :: b :: es) pos) (mOr m n) := ⟨L3.w_or (h := h.1) (k := k.1)⟩
theorem xt_w {m : MT} (h : XWM X F e m) : XTM X F e m := ⟨L3.t_w (h := h.1)⟩
theorem xt_not {m : MT} (h : XTM X F a m) : XTM X F (.UnaryOp .Not a pos) (mNot m) := ⟨L3.t_not (h := h.1)⟩
theorem xe_one {op} {m : ME} (h : XEM X F a m) : XEM X F (.BoolOp op [a] pos) m := ⟨L3.e_one (h := h.1)⟩
theorem xe_and {m n : ME} (h : XEM X F a m) (k : XEM X F (.BoolOp .And (b :: es) pos) n) : XEM X F (.BoolOp .And (a :: b :: es) pos) (mAndV m n) := ⟨L3.e_and (h := h.1) (k := k.1)⟩
theorem xe_not {m : ME} (h : XEM X F a m) : XEM X F (.UnaryOp .Not a pos) (mNotV m) := ⟨L3.e_not (h := h.1)⟩
theorem xs_nil  : XBM X F [] mNext := ⟨L3.s_nil ⟩
theorem xs_cons {m n : MS} (h : XSM X F st m) (k : XBM X F sts n) : XBM X F (st :: sts) (mSeq m n) := ⟨L3.s_cons (h := h.1) (k := k.1)⟩
theorem xs_one {m : MS} (h : XSM X F st m) : XBM X F [st] m := ⟨L3.s_one (h := h.1)⟩
theorem xs_ret {m : ME} (h : XEM X F e m) : XSM X F (.Return (some e) pos) (mRet m) := ⟨L3.s_ret (h := h.1)⟩
theorem xs_retO {m : MA} (h : XEO X F e m) : XSM X F (.Return (some e) pos) (mRetO m) := ⟨L3.s_retO (h := h.1)⟩
theorem xs_retV (i : Nat) {x : Str} {p : Pos} (hN : X.N[i]? = some x := by rfl) (hv : Vis X.env.scope x := by first | exact Or.inl rfl | exact Or.inr (Or.inl rfl) | exact Or.inr (Or.inr rfl)) (hd : (x == ("__debug__" : Str)) = false := by decide) (hcd : (x == ("__classdict__" : Str)) = false := by decide) : XSM X F (.Return (some (.Name x p)) pos) (mRetO (mVarO i)) := ⟨L3.s_retV (i := i) (hN := hN) (hv := hv) (hd := hd) (hcd := hcd)⟩
theorem xs_if {k : MT} {m n : MS} {xs ys : List Stmt} (h : XTM X F c k) (ha : XBM X F xs m) (hb : XBM X F ys n) : XSM X F (.If c xs ys pos) (mIfS k m n) := ⟨L3.s_if (h := h.1) (ha := ha.1) (hb := hb.1)⟩
theorem xs_set (i : Nat) {x : Str} {p : Pos} {m : ME} (hN : X.N.Nodup) (he : XEM X F e m) (hi : X.N[i]? = some x := by rfl) (hx : Loc X.env.scope x := by first | exact Or.inl rfl | exact Or.inr rfl) (hs : notComp e = true := by rfl) (hf : X.fn x = true ∨ X.env.scope.names.lookup x = some .local := by first | exact .inl rfl | exact .inr rfl) : XSM X F (.Assign [.Name x p] e pos) (mSet i m) := ⟨L3.s_set (i := i) (hN := hN) (he := he.1) (hi := hi) (hx := hx) (hs := hs) (hf := hf)⟩
theorem xs_setO (i : Nat) {x : Str} {p : Pos} {m : MA} (hN : X.N.Nodup) (he : XEO X F e m) (hi : X.N[i]? = some x := by rfl) (hx : Loc X.env.scope x := by first | exact Or.inl rfl | exact Or.inr rfl) (hs : notComp e = true := by rfl) (hf : X.fn x = true ∨ X.env.scope.names.lookup x = some .local := by first | exact .inl rfl | exact .inr rfl) : XSM X F (.Assign [.Name x p] e pos) (mSetO i m) := ⟨L3.s_setO (i := i) (hN := hN) (he := he.1) (hi := hi) (hx := hx) (hs := hs) (hf := hf)⟩
theorem xe_sub (ha : XEM X F a m) (hb : XEM X F b n) : XEM X F (.BinOp a .Sub b pos) (mBin subD m n) := ⟨L3.e_sub (ha := ha.1) (hb := hb.1)⟩
theorem xe_mul (ha : XEM X F a m) (hb : XEM X F b n) : XEM X F (.BinOp a .Mult b pos) (mBin mulD m n) := ⟨L3.e_mul (ha := ha.1) (hb := hb.1)⟩
theorem xe_fdiv (ha : XEM X F a m) (hb : XEM X F b n) : XEM X F (.BinOp a .FloorDiv b pos) (mBin fdivD m n) := ⟨L3.e_fdiv (ha := ha.1) (hb := hb.1)⟩
theorem xe_mod (ha : XEM X F a m) (hb : XEM X F b n) : XEM X F (.BinOp a .Mod b pos) (mBin modD m n) := ⟨L3.e_mod (ha := ha.1) (hb := hb.1)⟩
theorem xe_pow (ha : XEM X F a m) (hb : XEM X F b n) : XEM X F (.BinOp a .Pow b pos) (mBin powD m n) := ⟨L3.e_pow (ha := ha.1) (hb := hb.1)⟩
theorem xt_lt (ha : XEM X F a m) (hb : XEM X F b n) : XTM X F (.Compare a [.Lt] [b] pos) (mB (mBin ltD m n)) := ⟨L3.t_lt (ha := ha.1) (hb := hb.1)⟩
theorem xt_gt (ha : XEM X F a m) (hb : XEM X F b n) : XTM X F (.Compare a [.Gt] [b] pos) (mB (mBin gtD m n)) := ⟨L3.t_gt (ha := ha.1) (hb := hb.1)⟩
theorem xe_neg (ha : XEM X F a m) : XEM X F (.UnaryOp .USub a pos) (mUn negD m) := ⟨L3.e_neg (ha := ha.1)⟩
theorem xe_add (ha : XEM X F a m) (hb : XEM X F b n) : XEM X F (.BinOp a .Add b pos) (mBin addD m n) := ⟨L3.e_add (ha := ha.1) (hb := hb.1)⟩
theorem xt_eq (hu : X.A.units + 64 < cLine) (ha : XEM X F a m) (hb : XEM X F b n) (hK : F.K = X.K := by rfl) : XTM X F (.Compare a [.Eq] [b] pos) (mB (mBin (eqR true) m n)) := ⟨L3.t_eq (hu := hu) (ha := ha.1) (hb := hb.1) (hK := hK)⟩
theorem xt_ne (hu : X.A.units + 64 < cLine) (ha : XEM X F a m) (hb : XEM X F b n) (hK : F.K = X.K := by rfl) : XTM X F (.Compare a [.NotEq] [b] pos) (mB (mBin (eqR false) m n)) := ⟨L3.t_ne (hu := hu) (ha := ha.1) (hb := hb.1) (hK := hK)⟩
theorem xe_eq (hu : X.A.units + 64 < cLine) (ha : XEM X F a m) (hb : XEM X F b n) (hK : F.K = X.K := by rfl) : XEM X F (.Compare a [.Eq] [b] pos) (mBin (eqR true) m n) := ⟨L3.e_eq (hu := hu) (ha := ha.1) (hb := hb.1) (hK := hK)⟩
theorem xe_ne (hu : X.A.units + 64 < cLine) (ha : XEM X F a m) (hb : XEM X F b n) (hK : F.K = X.K := by rfl) : XEM X F (.Compare a [.NotEq] [b] pos) (mBin (eqR false) m n) := ⟨L3.e_ne (hu := hu) (ha := ha.1) (hb := hb.1) (hK := hK)⟩
theorem xt_notIn (hu : X.A.units + 64 < cLine) (ha : XEM X F a m) (hb : XEM X F b n) (hK : F.K = X.K := by rfl) (hm : behindInMarks .NotIn b = false := by with_unfolding_all rfl) : XTM X F (.Compare a [.NotIn] [b] pos) (mB (mBin (inD false) m n)) := ⟨L3.t_notIn (hu := hu) (ha := ha.1) (hb := hb.1) (hK := hK) (hm := hm)⟩
theorem xe_in (hu : X.A.units + 64 < cLine) (ha : XEM X F a m) (hb : XEM X F b n) (hK : F.K = X.K := by rfl) (hm : behindInMarks .In b = false := by with_unfolding_all rfl) : XEM X F (.Compare a [.In] [b] pos) (mBin (inD true) m n) := ⟨L3.e_in (hu := hu) (ha := ha.1) (hb := hb.1) (hK := hK) (hm := hm)⟩
theorem xe_chain {op op' : CmpOp} {r r' : R2} {f g : D → D → R D} {l : ME} (ho : OpR X (compareOp op) r) (ho' : OpR X (compareOp op') r') (hf : OpOk F r f) (hg : OpOk F r' g) (ha : XEM X F a m) (hb : XEM X F b n) (hc : XEM X F c l) (hm : lastMarks [op, op'] [b, c] = false := by with_unfolding_all rfl) : XEM X F (.Compare a [op, op'] [b, c] pos) (mChain f g m n l) := ⟨L3.e_chain (ho := ho) (ho' := ho') (hf := hf) (hg := hg) (ha := ha.1) (hb := hb.1) (hc := hc.1) (hm := hm)⟩
theorem xt_chain {op op' : CmpOp} {r r' : R2} {f g : D → D → R D} {l : ME} (ho : OpR X (compareOp op) r) (ho' : OpR X (compareOp op') r') (hf : OpOk F r f) (hg : OpOk F r' g) (ha : XEM X F a m) (hb : XEM X F b n) (hc : XEM X F c l) (hm : lastMarks [op, op'] [b, c] = false := by with_unfolding_all rfl) : XTM X F (.Compare a [op, op'] [b, c] pos) (mB (mChain f g m n l)) := ⟨L3.t_chain (ho := ho) (ho' := ho') (hf := hf) (hg := hg) (ha := ha.1) (hb := hb.1) (hc := hc.1) (hm := hm)⟩
theorem xe_len (hm : X.mg "len" = none) (ha : XAM X F [e] ma) (hK : F.K = X.K := by rfl) (hg : Gl X "len" := by rfl) (he : starEach [e] X.env = (false, eval e X.env) :: starEach [] X.env := by rfl) (hpl : (backTo pos (starEach [] X.env)).any (·.1) = false := by rfl) : XEM X F (.Call (.Name "len" p) [e] [] pos) (mCB lenD ma) := ⟨L3.e_len (hm := hm) (ha := ha.1) (hK := hK) (hg := hg) (he := he) (hpl := hpl)⟩
theorem xe_isi {U : Str} {T : String} {p2 : Pos} (tt : TyTab X.K T) (hm : X.mg "isinstance" = none) (hmU : X.mg U = none) (hU : bootBuiltins U = some (.type T)) (ha : XEM X F a m) (hK : F.K = X.K := by rfl) (hg : Gl X "isinstance" := by rfl) (hgU : Gl X U := by rfl) (hnU : U ≠ "__name__" := by decide) (hdU : (U == ("__debug__" : Str)) = false := by decide) (hs2 : starEach [.Name U p2] X.env = (false, eval (.Name U p2) X.env) :: starEach [] X.env := by rfl) (he : starEach [a, .Name U p2] X.env = (false, eval a X.env) :: starEach [.Name U p2] X.env := by rfl) (hpl : (backTo pos (starEach [.Name U p2] X.env)).any (·.1) = false := by rfl) : XEM X F (.Call (.Name "isinstance" p) [a, .Name U p2] [] pos) (mUn (isiD T) m) := ⟨L3.e_isi (tt := tt) (hm := hm) (hmU := hmU) (hU := hU) (ha := ha.1) (hK := hK) (hg := hg) (hgU := hgU) (hnU := hnU) (hdU := hdU) (hs2 := hs2) (he := he) (hpl := hpl)⟩
theorem xe_ix (ha : XEM X F a m) (hb : XEM X F b n) (hs : PlainIx b) (hK : F.K = X.K := by rfl) : XEM X F (.Subscript a b pos) (mBin ixD m n) := ⟨L3.e_ix (ha := ha.1) (hb := hb.1) (hs := hs) (hK := hK)⟩
theorem xp_no  : XPM X F none mNoP := ⟨L3.p_no ⟩
theorem xp_some (h : XEM X F e m) : XPM X F (some e) (mPart m) := ⟨L3.p_some (h := h.1)⟩
theorem xe_sl {lo hi : Option Expr} {p2 : Pos} {ml mh : MP} (ha : XEM X F a m) (hl : XPM X F lo ml) (hh : XPM X F hi mh) (hK : F.K = X.K := by rfl) : XEM X F (.Subscript a (.Slice lo hi none p2) pos) (mSl slD m ml mh) := ⟨L3.e_sl (ha := ha.1) (hl := hl.1) (hh := hh.1) (hK := hK)⟩
theorem xw_list (h : XEM X F e m) (hK : F.K = X.K := by rfl) : XIM X F tg e (mIL m) := ⟨L3.w_list (h := h.1) (hK := hK)⟩
theorem xw_tup (h : XEM X F e m) (hK : F.K = X.K := by rfl) : XIM X F tg e (mIT m) := ⟨L3.w_tup (h := h.1) (hK := hK)⟩
theorem xw_range1 (hm : X.mg "range" = none) (ha : XAM X F [a] ma) (hg : Gl X "range" := by rfl) (hs : starEach [a] X.env = [(false, eval a X.env)] := by rfl) : XIM X F tg (.Call (.Name "range" p) [a] [] pos) (mR1 ma) := ⟨L3.w_range1 (hm := hm) (ha := ha.1) (hg := hg) (hs := hs)⟩
theorem xs_for {body : List Stmt} {mi : MA} {set : D → Rho → R Rho} {mb : MS} (hp : PassesOwn (model X.prog X.w) X.A X.env X.xe) (hi : XIM X F tg iter mi) (hg : GM X tg set) (hb : XBM X F body mb) (hc : X.calm = true := by rfl) (hK : F.K = X.K := by rfl) (hs : ∀ x, foldedSetIterable iter X.env x = pure x := by intro _; rfl) : XSM X F (.For tg iter body [] pos) (mFor mi set mb) := ⟨L3.s_for (hp := hp) (hi := hi.1) (hg := hg) (hb := hb.1) (hc := hc) (hK := hK) (hs := hs)⟩
theorem xs_setF {st : Stmt} {i : Nat} {a : MA} (h : XSM X F st (mSetO i a)) : XSM X F st (mSetF i a) := ⟨L3.s_setF (h := h.1)⟩
theorem xe_all {k : Nat} (hr : Room k X.A) (hm : X.mg "all" = none) (ha : XAM X F [e] ma) (hc : X.calm = true := by rfl) (hg : Gl X "all" := by rfl) (he : starEach [e] X.env = (false, eval e X.env) :: starEach [] X.env := by rfl) (hpl : (backTo pos (starEach [] X.env)).any (·.1) = false := by rfl) : XEM X F (.Call (.Name "all" p) [e] [] pos) (mCB allD ma) := ⟨L3.e_all (hr := hr) (hm := hm) (ha := ha.1) (hc := hc) (hg := hg) (he := he) (hpl := hpl)⟩
theorem xs_append (i : Nat) {x : Str} {px : Pos} {apos : Pos} {cpos : Pos} (he : XEM X F e m) (hN : X.N[i]? = some x := by rfl) (hv : Vis X.env.scope x := by first | exact Or.inl rfl | exact Or.inr (Or.inl rfl) | exact Or.inr (Or.inr rfl)) (hd : (x == ("__debug__" : Str)) = false := by decide) (hcd : (x == ("__classdict__" : Str)) = false := by decide) (hbase : attributeBase (.Name x px) "append" X.env (eval (.Name x px) X.env) = eval (.Name x px) X.env := by rfl) (hline : (apos.endLine == cpos.line) = true := by rfl) (hfew : ((backTo cpos (starEach [e] X.env)).all (fun x => !x.1) && (backToKw cpos (keywordEach [] X.env)).all (fun x => x.1.isSome)
      && decide (([e] : List Expr).length + ([] : List Keyword).length + (if ([] : List Keyword).isEmpty then 0 else 1) < 30)) = true := by rfl) (hs : starEach [e] X.env = (false, eval e X.env) :: starEach [] X.env := by rfl) (hplain : (backTo cpos (starEach [] X.env)).any (·.1) = false := by rfl) (hK : F.K = X.K := by rfl) : XSM X F (.Expr (.Call (.Attribute (.Name x px) "append" apos) [e] [] cpos) pos) (mApp i m) := ⟨L3.s_append (i := i) (he := he.1) (hN := hN) (hv := hv) (hd := hd) (hcd := hcd) (hbase := hbase) (hline := hline) (hfew := hfew) (hs := hs) (hplain := hplain) (hK := hK)⟩
theorem xe_call {x : Str} {n k : Nat} {mf : List D → R Rt} (c : Kn X.prog X.w X.K X.mg X.base x n k mf) (hr : Room k X.A) (ha : XAM X F (e :: es) ma) (hE : F.EX = fun _ _ => False := by rfl) (hK : F.K = X.K := by rfl) (hg : Gl X x := by rfl) (hdb : (x == ("__debug__" : Str)) = false := by decide) (he : starEach (e :: es) X.env = (false, eval e X.env) :: starEach es X.env := by rfl) (hpl : (backTo pos (starEach es X.env)).any (·.1) = false := by rfl) : XEM X F (.Call (.Name x p) (e :: es) [] pos) (mCall n mf ma) := ⟨L3.e_call (c := c) (hr := hr) (ha := ha.1) (hE := hE) (hK := hK) (hg := hg) (hdb := hdb) (he := he) (hpl := hpl)⟩
theorem xo_call {x : Str} {n k : Nat} {mf : List D → R Rt} (c : Kn X.prog X.w X.K X.mg X.base x n k mf) (hr : Room k X.A) (ha : XAM X F (e :: es) ma) (hE : F.EX = fun _ _ => False := by rfl) (hK : F.K = X.K := by rfl) (hg : Gl X x := by rfl) (hdb : (x == ("__debug__" : Str)) = false := by decide) (he : starEach (e :: es) X.env = (false, eval e X.env) :: starEach es X.env := by rfl) (hpl : (backTo pos (starEach es X.env)).any (·.1) = false := by rfl) : XEO X F (.Call (.Name x p) (e :: es) [] pos) (mCallO n mf ma) := ⟨L3.o_call (c := c) (hr := hr) (ha := ha.1) (hE := hE) (hK := hK) (hg := hg) (hdb := hdb) (he := he) (hpl := hpl)⟩
variable {scope : Scope} {N : List Str}
abbrev BE (X : Cx) (scope : Scope) (N : List Str) (e : Expr) (m : ME) : Prop := ∀ cl C s H fp G0 H0, XEM (cxB X scope N cl C s H fp) (fxB X.K G0 H0) e m
theorem xblk_one {mt : MT} (h : ∀ cl C s H fp G0 H0, XTM (cxB X scope N cl C s H fp) (fxB X.K G0 H0) c mt) : BlkT X scope N [c] mt := L3.blk_one fun cl C s H fp G0 H0 => (h cl C s H fp G0 H0).1
theorem xo_comp (nl : Nat) (caps : List Nat) {ifs : List Expr} {mi : MA} {set : D → Rho → R Rho} {mt : MT} {me : ME} (S : compScB X.env.scope X.N scope N nl caps = true) (hi : XIM X F tg iter mi) (hg : BG X scope N tg set) (ht : BlkT X scope N ifs mt) (he : BE X scope N elt me)
    (hc : X.calm = true := by rfl) (hK : F.K = X.K := by rfl) (hs : ∀ x, foldedSetIterable iter X.env x = pure x := by intro _; rfl) : XEO X F (.ListComp elt [⟨tg, iter, ifs, 0⟩] scope pos) (mComp nl caps mi set mt me) :=
  ⟨L3.o_comp' nl caps S hi.1 hg ht (fun cl C s H fp G0 H0 => (he cl C s H fp G0 H0).1) hc hK hs⟩
theorem xs_comp (i : Nat) (nl : Nat) (caps : List Nat) {y : Str} {py : Pos} {ifs : List Expr} {mi : MA} {set : D → Rho → R Rho} {mt : MT} {me : ME} {cpos : Pos} (hN : X.N.Nodup) (S : compScB X.env.scope X.N scope N nl caps = true) (hi : XIM X F tg iter mi) (hg : BG X scope N tg set) (ht : BlkT X scope N ifs mt) (he : BE X scope N elt me)
    (hy : X.N[i]? = some y := by rfl) (hl : X.env.kindOf y = some .local := by rfl) (hsw : swapsWith (.ListComp elt [⟨tg, iter, ifs, 0⟩] scope cpos) (some (.Name y py)) pos.line X.env = pure true := by rfl) (hc : X.calm = true := by rfl) (hK : F.K = X.K := by rfl) (hs : ∀ x, foldedSetIterable iter X.env x = pure x := by intro _; rfl) :
    XSM X F (.Assign [.Name y py] (.ListComp elt [⟨tg, iter, ifs, 0⟩] scope cpos) pos) (mSetO i (mComp nl caps mi set mt me)) :=
  ⟨L3.s_comp' i nl caps hN S hi.1 hg ht (fun cl C s H fp G0 H0 => (he cl C s H fp G0 H0).1) hy hl hsw hc hK hs⟩
end
theorem xd_ok {P : Program} {w : World} {K : PySem.W.Frag} {mg : Str → Option Value} {base : Heap} {x : Str} {st : Stmt} {N ps : List Str} {k : Nat} {m : MS} (d : Fd K mg x st ps) (S : FnScope N ps (defScope st))
    (h : ∀ (f : Addr) (cdv : Value) (A : Around) (outer : List Env) (s : Shared) (H : Hp) (E : XK), Room k (A.deeper (PyProof.Rows.envOfC x (defScope st) s.heap.objs.size f cdv)) → ∀ G0 H0, XBM (cxOf CX0 P w K mg base N x (defScope st) f cdv A outer s H E).nox (fxB K G0 H0) (defBody st) m) :
    Kn P w K mg base x ps.length (k + 1) (mDef N.length m) := L3.d_ok d S fun f cdv A outer s H E hr G0 H0 => (h f cdv A outer s H E hr G0 H0).1
structure Cst (K : PySem.W.Frag) (mg : Str → Option Value) (x : Str) (d : D) : Prop where
  ex : ∃ (v : V) (u : Value), mg x = some u ∧ RelV v u ∧ ∀ G, At K G d v
theorem xe_cst {X : Cx} {F : Fx} {x : Str} {d : D} {pos : Pos} (c : Cst X.K X.mg x d) (hK : F.K = X.K := by rfl) (hg : Gl X x := by rfl) (hd : (x == ("__debug__" : Str)) = false := by decide) : XEM X F (.Name x pos) (mC d) := by
  obtain ⟨v, u, h1, h2, h3⟩ := c.ex
  exact ⟨L3.e_glob h1 h2 (by rw [hK]; exact h3) hg hd⟩
end L3
set_option Elab.async false
set_option linter.all false
set_option maxRecDepth 100000
namespace L2
open PySem PySem.Spec PyProof.Rows
section
variable {X : Cx} {tg : Expr}
def C3 (a b c : Int) : Prop := c ≠ 0 ∧ Builtin.Range.small a b c = true ∧ 0 ≤ Builtin.Range.rangeSize a b c ∧ Builtin.divisionGoesByPylong (b - a) c = false
instance (a b c : Int) : Decidable (C3 a b c) := by unfold C3; infer_instance
end
section
variable {X : Cx} {a e : Expr} {ta : TA} {pos p pos' p' : Pos}
theorem vals_of_get : ∀ {xs : List V} {us : List Value}, xs.length = us.length → (∀ (i : Nat) x y, xs[i]? = some x → us[i]? = some y → RelV x y) → Vals xs us
  | [], [], _, _ => .nil
  | [], _ :: _, h, _ => by simp at h
  | _ :: _, [], h, _ => by simp at h
  | x :: xs, u :: us, h, f => .cons (f 0 x u (by simp) (by simp)) (vals_of_get (by simpa using h) fun i a b e1 e2 => f (i + 1) a b (by simpa using e1) (by simpa using e2))
theorem list_of_range {pins : List (Addr × Obj)} {σ : St} {H1 : Hp} {s2 : Shared} {Q : VK} {r : Addr} {j : Int} {t u v : Tok} (I2 : Inv X pins σ H1 s2) (hc : X.calm = true) (hr : IsRange s2.heap r 0 j 1 t u v) (q1 : -(2 ^ 62) ≤ j) (q2 : j ≤ 1000000)
    (q : ∀ l, H1 l = none → Q (.ref l) (upd H1 l (.lst ((List.range j.toNat).map fun i => .int (i : Nat))))) : wpAny (model X.prog X.w) X.A (call (.type "list") [.ref r]) (EP X pins σ Q) X.xe s2 := by
  have hn : Builtin.Range.rangeSize 0 j 1 = (j.toNat : Nat) := by rw [rangeSize_one]; split <;> omega
  refine call_list_range (I2.ok.hd hc) hr (small_one (by omega) (by omega) (by omega) (by omega)) hn (by omega) fun h' tk acc' c' kp e it => ?_
  obtain ⟨acc, rfl⟩ : ∃ l : List Value, acc' = l.toArray := ⟨acc'.toList, by simp⟩
  have hv : Vals ((List.range j.toNat).map fun i => V.int ((i : Nat) : Int)) acc := by
    have hl : acc.length = j.toNat := by simpa using it.1
    refine vals_of_get ?_ ?_
    · simp [hl]
    · intro i x y e1 e2
      rw [List.getElem?_map] at e1
      have hi : i < j.toNat := by rw [← hl]; exact (List.getElem?_eq_some_iff.mp e2).1
      rw [List.getElem?_range hi] at e1
      cases e1
      obtain ⟨tt, rfl⟩ := it.2 i y (by simpa using e2)
      exact ⟨tt, by simp⟩
  exact ⟨.ref _, _, I2.laid (t' := tk) kp (Nat.le_refl _) (show ObjOk X.prog X.w _ h' _ (.lst _) from ⟨Nat.le_trans (m := 1000000) (by simp; omega) (by decide), acc, c', hv, e⟩), rfl, q _ (I2.hok.fresh (Nat.le_refl _))⟩
def tLR1 (ta : TA) : TE := fun σ H Q => ta σ H fun vs H1 => ∃ j : Int, vs = [.int j] ∧ -(2 ^ 62) ≤ j ∧ j ≤ 1000000 ∧ ∀ l, H1 l = none → Q (.ref l) (upd H1 l (.lst ((List.range j.toNat).map fun i => .int (i : Nat))))
theorem pe_listRange (hg : Gl X "list") (hm : X.mg "list" = none) (hg2 : Gl X "range") (hm2 : X.mg "range" = none) (hc : X.calm = true) (ha : PA X [a] ta) (hs : starEach [a] X.env = [(false, eval a X.env)] := by rfl)
    (hs2 : starEach [.Call (.Name "range" p') [a] [] pos'] X.env = [(false, eval (.Call (.Name "range" p') [a] [] pos') X.env)] := by rfl) :
    PE X (.Call (.Name "list" p) [.Call (.Name "range" p') [a] [] pos'] [] pos) (tLR1 ta) := by
  intro pins s σ H Q I h
  refine wpAny_Call_Name_kw (ld_blt (u := .type "list") I hg hm (by kernel_rfl) ?_)
  refine PyProof.Rows.callWith_type1 ?_ hs2 rfl
  rw [hs2]
  refine Calls.spliced_cons ?_
  refine Call_ (ld_blt I hg2 hm2 boot_range (PyProof.Rows.callWith_type1 (thn (ha pos' pins s σ H _ I h) fun us s1 ⟨vs, H1, I1, r1, q1⟩ => ?_) hs rfl))
  obtain ⟨j, e, q1, q2, q⟩ := q1
  subst e
  cases r1 with
  | cons r rr =>
    cases rr
    obtain ⟨t, rfl⟩ := r
    refine call_range_1 (Calls.spliced_nil ?_)
    exact list_of_range (I1.kept fun b o e => Heap.get?_push_of_some _ e) hc (IsRange.new ..) q1 q2 q
end
end L2
set_option Elab.async false
set_option linter.all false
set_option maxRecDepth 100000
namespace L3
open PySem PySem.Spec L2
abbrev MEf := Rho → R (D × Rho)
abbrev MAf := Rho → R (List D × Rho)
def kEf (F : Fx) (G : Hp) (σ : St) (Q : VK) : R (D × Rho) → Prop
  | .ok (d, ρ') => ∀ v H' G', Rel F G' H' σ ρ' → Sub G G' → At F.K G' d v → Q v H'
  | .exc c => kX F c
  | .bad => False
def kAf (F : Fx) (G : Hp) (σ : St) (Q : List V → Hp → Prop) : R (List D × Rho) → Prop
  | .ok (d, ρ') => ∀ v H' G', Rel F G' H' σ ρ' → Sub G G' → AtL F.K G' d v → Q v H'
  | .exc c => kX F c
  | .bad => False
def tEf (F : Fx) (m : MEf) : TE := fun σ H Q => ∃ G ρ, Rel F G H σ ρ ∧ kEf F G σ Q (m ρ)
def tAf (F : Fx) (m : MAf) : TA := fun σ H Q => ∃ G ρ, Rel F G H σ ρ ∧ kAf F G σ Q (m ρ)
def lf (m : ME) : MEf := fun ρ => (m ρ).bind fun d => .ok (d, ρ)
def lfA (m : MA) : MAf := fun ρ => (m ρ).bind fun d => .ok (d, ρ)
section
variable {F : Fx}
theorem i_lf {m : ME} : ImpE (tEf F (lf m)) (tE F m) := by
  rintro σ H Q ⟨G, ρ, r, h⟩
  refine ⟨G, ρ, r, ?_⟩
  unfold lf at h
  cases ea : m ρ with
  | bad => rw [ea] at h; exact h.elim
  | exc c => rw [ea] at h; exact h
  | ok d => rw [ea] at h; exact fun v H' G' r' u a => h v H' G' r' u.g a
theorem i_lfA {m : MA} : ImpA (tAf F (lfA m)) (tA F m) := by
  rintro σ H Q ⟨G, ρ, r, h⟩
  refine ⟨G, ρ, r, ?_⟩
  unfold lfA at h
  cases ea : m ρ with
  | bad => rw [ea] at h; exact h.elim
  | exc c => rw [ea] at h; exact h
  | ok d => rw [ea] at h; exact fun v H' G' r' u a => h v H' G' r' u.g a
def mConsE (a : MEf) (r : MAf) : MAf := fun ρ => (a ρ).bind fun x => (r x.2).bind fun y => .ok (x.1 :: y.1, y.2)
theorem i_consE {ma : MEf} {mr : MAf} : ImpA (tAf F (mConsE ma mr)) (tCons (tEf F ma) (tAf F mr)) := by
  rintro σ H Q ⟨G, ρ, r, h⟩
  unfold mConsE at h
  refine ⟨G, ρ, r, ?_⟩
  cases ea : ma ρ with
  | bad => rw [ea] at h; exact h.elim
  | exc c => rw [ea] at h; exact h
  | ok x =>
    obtain ⟨dx, ρ1⟩ := x
    rw [ea, R.bind_ok] at h
    intro x H1 G1 r1 s1 ax
    refine ⟨G1, ρ1, r1, ?_⟩
    cases eb : mr ρ1 with
    | bad => simp only [eb] at h; exact h.elim
    | exc c => simp only [eb] at h; exact h
    | ok y =>
      obtain ⟨dy, ρ2⟩ := y
      simp only [eb, R.bind_ok] at h
      intro y H2 G2 r2 s2 ay
      exact h (x :: y) H2 G2 r2 (s1.trans s2) (.cons (ax.mono s2) ay)
def mTupE (m : MAf) : MEf := fun ρ => (m ρ).bind fun x => if x.1.length ≤ 1000000 then .ok (.tup x.1, x.2) else .bad
theorem i_tupE {m : MAf} : ImpE (tEf F (mTupE m)) (tTup (tAf F m)) := by
  rintro σ H Q ⟨G, ρ, r, h⟩
  unfold mTupE at h
  refine ⟨G, ρ, r, ?_⟩
  cases ea : m ρ with
  | bad => rw [ea] at h; exact h.elim
  | exc c => rw [ea] at h; exact h
  | ok x =>
    obtain ⟨ds, ρ1⟩ := x
    rw [ea, R.bind_ok] at h
    intro vs H1 G1 r1 s1 a
    by_cases hl : ds.length ≤ 1000000
    · simp only [if_pos hl] at h
      refine ⟨by rw [← a.length]; exact Nat.le_trans hl (by decide), fun p hp => ?_⟩
      refine h (.ref p) _ _ (r1.lay hp) (s1.trans (Sub.upd (r1.kp.sub.gone hp))) ?_
      simp only [At]
      exact ⟨p, vs, rfl, upd_same, a.mono (Sub.upd (r1.kp.sub.gone hp))⟩
    · simp only [if_neg hl] at h; exact h.elim
def mSetE (i : Nat) (a : MEf) : MS := fun ρ => (a ρ).bind fun x => (setV i x.1 x.2).bind fun ρ' => .ok (.nx ρ')
theorem i_setE {i : Nat} {a : MEf} : ImpS (tS F (mSetE i a)) (tAsg (tEf F a) (gName i)) := by
  rintro De σ H ⟨G, ρ, r, h⟩
  unfold mSetE setV at h
  refine ⟨G, ρ, r, ?_⟩
  cases ea : a ρ with
  | bad => rw [ea] at h; exact h.elim
  | exc c => rw [ea] at h; exact h
  | ok x =>
    obtain ⟨d, ρ1⟩ := x
    rw [ea, R.bind_ok] at h
    intro v H1 G1 r1 s1 av
    by_cases hi : i < ρ1.length
    · simp only [if_pos hi] at h
      exact h _ G1 H1 (r1.set hi av) s1
    · simp only [if_neg hi] at h; exact h.elim
def mDropE (a : MEf) : MS := fun ρ => (a ρ).bind fun x => .ok (.nx x.2)
theorem i_dropE {a : MEf} : ImpS (tS F (mDropE a)) (tDrop (tEf F a)) := by
  rintro De σ H ⟨G, ρ, r, h⟩
  unfold mDropE at h
  refine ⟨G, ρ, r, ?_⟩
  cases ea : a ρ with
  | bad => rw [ea] at h; exact h.elim
  | exc c => rw [ea] at h; exact h
  | ok x => obtain ⟨d, ρ1⟩ := x; rw [ea] at h; exact fun v H' G' r' s' _ => h σ G' H' r' s'
end
end L3
set_option Elab.async false
set_option linter.all false
set_option maxRecDepth 100000
namespace L3
open PySem PySem.Spec L2
section
variable {F : Fx}
def del (H : Hp) (a : Addr) : Hp := fun b => if b = a then none else H b
theorem del_same {H : Hp} {a : Addr} : del H a a = none := by simp [del]
theorem del_ne {H : Hp} {a b : Addr} (h : b ≠ a) : del H a b = H b := by simp [del, h]
theorem del_sub (H : Hp) (a : Addr) : Sub (del H a) H := fun b o e => by
  unfold del at e
  split at e
  · cases e
  · exact e
end
end L3
set_option Elab.async false
set_option linter.all false
set_option maxRecDepth 100000
namespace L3
open PySem PySem.Spec L2
section
variable {F : Fx}
end
end L3
set_option Elab.async false
set_option linter.all false
set_option maxRecDepth 100000
namespace L3
open PySem PySem.Spec L2 PyProof.Rows
abbrev EMf (X : Cx) (F : Fx) (e : Expr) (m : MEf) : Prop := PE X e (tEf F m)
abbrev AMf (X : Cx) (F : Fx) (es : List Expr) (m : MAf) : Prop := PA X es (tAf F m)
theorem AtL.erase {K : PySem.W.Frag} {G : Hp} {ds : List D} {xs : List V} (n : Nat) (q : AtL K G ds xs) : AtL K G (ds.eraseIdx n) (xs.eraseIdx n) := by
  rw [List.eraseIdx_eq_take_drop_succ, List.eraseIdx_eq_take_drop_succ]
  exact (q.take n).append (q.drop (n + 1))
section
variable {X : Cx} {F : Fx} {e a b c : Expr} {es : List Expr} {pos p : Pos} {m n : ME} {ma : MA}
def mPopAt (i : Nat) (m : ME) : MEf := fun ρ => (ownAt i ρ).bind fun ds => (m ρ).bind fun d => match d with
  | .int k => if -(2 ^ 63) ≤ k ∧ k < 2 ^ 63 then match seqIndex? k ds.length with
    | some j => match ds[j]? with
      | some y => .ok (y, ρ.set i (.ow (ds.eraseIdx j)))
      | none => .bad
    | none => .bad
    else .bad
  | _ => .bad
theorem e_popAt (i : Nat) {x : Str} {px : Pos} {apos : Pos} {cpos : Pos} (he : EM X F e m) (hN : X.N[i]? = some x := by rfl) (hv : Vis X.env.scope x := by first | exact Or.inl rfl | exact Or.inr (Or.inl rfl) | exact Or.inr (Or.inr rfl)) (hd : (x == ("__debug__" : Str)) = false := by decide) (hcd : (x == ("__classdict__" : Str)) = false := by decide)
    (hbase : attributeBase (.Name x px) "pop" X.env (eval (.Name x px) X.env) = eval (.Name x px) X.env := by rfl) (hline : (apos.endLine == cpos.line) = true := by rfl)
    (hfew : ((backTo cpos (starEach [e] X.env)).all (fun x => !x.1) && (backToKw cpos (keywordEach [] X.env)).all (fun x => x.1.isSome)
      && decide (([e] : List Expr).length + ([] : List Keyword).length + (if ([] : List Keyword).isEmpty then 0 else 1) < 30)) = true := by rfl)
    (hs : starEach [e] X.env = (false, eval e X.env) :: starEach [] X.env := by rfl) (hplain : (backTo cpos (starEach [] X.env)).any (·.1) = false := by rfl) :
    EMf X F (.Call (.Attribute (.Name x px) "pop" apos) [e] [] cpos) (mPopAt i m) := by
  refine PE.imp (pe_bm PySem.F.plainAttrs_list PySem.F.slot_list_pop PySem.F.type_list_pop mt_popAt (pe_var hN hv hd hcd) (pa_cons he pa_nil hs) hbase hfew hline hs hplain) ?_
  rintro σ H Q ⟨G, ρ, r, h⟩
  unfold mPopAt ownAt at h
  cases er : ρ[i]? with
  | none => rw [er] at h; exact h.elim
  | some s =>
    rw [er] at h
    cases s with
    | un => exact h.elim
    | fz _ => exact h.elim
    | tr _ => exact h.elim
    | ob ob =>
     cases ob with
     | dT _ _ => exact h.elim
     | ins _ _ _ => exact h.elim
     | lst ds =>
      obtain ⟨q, xs, e1, h1, h2, h3, h4⟩ := r.own er
      rw [R.bind_ok] at h
      refine ⟨.ref q, e1, .inl ⟨rfl, xs, SqL.of h1⟩, G, ρ, r, ?_⟩
      cases ea : m ρ with
      | bad => rw [ea] at h; exact h.elim
      | exc c => rw [ea] at h; exact h
      | ok d =>
        rw [ea, R.bind_ok] at h
        intro v H1 G1 r1 s1 av
        obtain ⟨q', xs', e1', h1', h2', h3', h4'⟩ := r1.own er
        rw [e1] at e1'
        cases e1'
        cases d with
        | int k =>
          simp only [At] at av
          subst av
          simp only at h
          split at h
          · rename_i hk
            split at h
            · rename_i j ej
              split at h
              · rename_i y ey
                obtain ⟨w, ew, aw⟩ := h4'.get ey
                refine ⟨q, xs', k, j, w, rfl, rfl, h1', hk.1, hk.2, by rw [← h4'.length]; exact ej, ew, ?_⟩
                exact h w _ G1 (r1.mut er e1 (h4'.erase j)) s1.g aw
              · exact h.elim
            · exact h.elim
          · exact h.elim
        | _ => exact h.elim
def mAppE (i : Nat) (m : MEf) : MS := fun ρ => (ownAt i ρ).bind fun _ => (m ρ).bind fun x => (ownAt i x.2).bind fun ds => if ds.length < 1000000 then .ok (.nx (x.2.set i (.ow (ds ++ [x.1])))) else .bad
theorem s_appendE (i : Nat) {x : Str} {px : Pos} {apos : Pos} {cpos : Pos} {m : MEf} (he : EMf X F e m) (hN : X.N[i]? = some x := by rfl) (hv : Vis X.env.scope x := by first | exact Or.inl rfl | exact Or.inr (Or.inl rfl) | exact Or.inr (Or.inr rfl)) (hd : (x == ("__debug__" : Str)) = false := by decide) (hcd : (x == ("__classdict__" : Str)) = false := by decide)
    (hbase : attributeBase (.Name x px) "append" X.env (eval (.Name x px) X.env) = eval (.Name x px) X.env := by rfl) (hline : (apos.endLine == cpos.line) = true := by rfl)
    (hfew : ((backTo cpos (starEach [e] X.env)).all (fun x => !x.1) && (backToKw cpos (keywordEach [] X.env)).all (fun x => x.1.isSome)
      && decide (([e] : List Expr).length + ([] : List Keyword).length + (if ([] : List Keyword).isEmpty then 0 else 1) < 30)) = true := by rfl)
    (hs : starEach [e] X.env = (false, eval e X.env) :: starEach [] X.env := by rfl) (hplain : (backTo cpos (starEach [] X.env)).any (·.1) = false := by rfl) :
    SM X F (.Expr (.Call (.Attribute (.Name x px) "append" apos) [e] [] cpos) pos) (mAppE i m) := by
  refine PS.imp (ps_expr (pe_bm PySem.F.plainAttrs_list PySem.F.slot_list_append PySem.F.type_list_append mt_append (pe_var hN hv hd hcd) (pa_cons he pa_nil hs) hbase hfew hline hs hplain) (swaps_no _ _ _ _ rfl)) ?_
  rintro De σ H ⟨G, ρ, r, h⟩
  unfold mAppE ownAt at h
  cases er : ρ[i]? with
  | none => rw [er] at h; exact h.elim
  | some s =>
    rw [er] at h
    cases s with
    | un => exact h.elim
    | fz _ => exact h.elim
    | tr _ => exact h.elim
    | ob ob =>
     cases ob with
     | dT _ _ => exact h.elim
     | ins _ _ _ => exact h.elim
     | lst ds0 =>
      obtain ⟨q, xs, e1, h1, h2, h3, h4⟩ := r.own er
      rw [R.bind_ok] at h
      refine ⟨.ref q, e1, .inl ⟨rfl, xs, SqL.of h1⟩, G, ρ, r, ?_⟩
      cases ea : m ρ with
      | bad => rw [ea] at h; exact h.elim
      | exc c => rw [ea] at h; exact h
      | ok y =>
        obtain ⟨d, ρ1⟩ := y
        rw [ea, R.bind_ok] at h
        intro v H1 G1 r1 s1 av
        simp only at h
        cases er1 : ρ1[i]? with
        | none => rw [er1] at h; exact h.elim
        | some s =>
          rw [er1] at h
          cases s with
          | un => exact h.elim
          | fz _ => exact h.elim
          | tr _ => exact h.elim
          | ob ob =>
           cases ob with
           | dT _ _ => exact h.elim
           | ins _ _ _ => exact h.elim
           | lst ds =>
            rw [R.bind_ok] at h
            obtain ⟨q', xs', e1', h1', h2', h3', h4'⟩ := r1.own er1
            rw [e1] at e1'
            cases e1'
            by_cases hl : ds.length < 1000000
            · rw [if_pos hl] at h
              refine ⟨q, xs', v, rfl, rfl, h1', by rw [← h4'.length]; exact Nat.lt_trans hl (by decide), ?_⟩
              exact h σ G1 _ (r1.mut er1 e1 (h4'.snoc av)) s1
            · rw [if_neg hl] at h; exact h.elim
def listD : List D → R (List D)
  | [.lst xs] => .ok xs
  | [.scr xs] => .ok xs
  | [.tup xs] => .ok xs
  | _ => .bad
def mListO (m : MA) : MA := fun ρ => (m ρ).bind listD
theorem i_listO (hK : F.K = X.K) : ImpE (tO F (mListO ma)) (tCB (fun xs H Q => ∃ p ys, xs = [.ref p] ∧ (SqL X.K H p ys ∨ SqT X.K H p ys) ∧ ∀ l, H l = none → Q (.ref l) (upd H l (.lst ys))) (tA F ma)) := by
  rintro σ H Q ⟨G, ρ, r, h⟩
  unfold mListO at h
  refine ⟨G, ρ, r, ?_⟩
  cases ea : ma ρ with
  | bad => rw [ea] at h; exact h.elim
  | exc c => rw [ea] at h; exact h
  | ok ds =>
    rw [ea, R.bind_ok] at h
    intro vs H1 G1 r1 s1 a
    unfold listD at h
    split at h
    · obtain ⟨v, rfl, av⟩ := a.one
      simp only [At] at av
      obtain ⟨q, xs, rfl, hq, aq⟩ := av
      refine ⟨q, xs, rfl, .inl (SqL.of (r1.kp.sub _ _ hq)), fun l hl => ?_⟩
      exact h l xs _ G1 (r1.lay0 hl) (s1.trans (Up.lay0 hl)) (s1.h.gone hl) upd_same (r1.kp.sub.gone hl) aq
    · obtain ⟨v, rfl, av⟩ := a.one
      simp only [At] at av
      obtain ⟨q, xs, rfl, hq, aq⟩ := av
      refine ⟨q, xs, rfl, .inl (by rw [← hK]; exact SqL.mono r1.kp.sub hq), fun l hl => ?_⟩
      exact h l xs _ G1 (r1.lay0 hl) (s1.trans (Up.lay0 hl)) (s1.h.gone hl) upd_same (r1.kp.sub.gone hl) aq
    · obtain ⟨v, rfl, av⟩ := a.one
      simp only [At] at av
      obtain ⟨q, xs, rfl, hq, aq⟩ := av
      refine ⟨q, xs, rfl, .inr (SqT.of (r1.kp.sub _ _ hq)), fun l hl => ?_⟩
      exact h l xs _ G1 (r1.lay0 hl) (s1.trans (Up.lay0 hl)) (s1.h.gone hl) upd_same (r1.kp.sub.gone hl) aq
    · exact h.elim
theorem o_list (hm : X.mg "list" = none) (ha : AM X F [e] ma) (hK : F.K = X.K := by rfl) (hg : Gl X "list" := by rfl) (he : starEach [e] X.env = (false, eval e X.env) :: starEach [] X.env := by rfl) (hpl : (backTo pos (starEach [] X.env)).any (·.1) = false := by rfl) :
    EO X F (.Call (.Name "list" p) [e] [] pos) (mListO ma) := PE.imp (pe_callTy call_list_of hg hm (by kernel_rfl) ha (by decide) (by decide) he hpl) (i_listO hK)
def lrD : List D → R (List D)
  | [.int j] => if -(2 ^ 62) ≤ j ∧ j ≤ 1000000 then .ok (rangeD 0 j.toNat) else .bad
  | _ => .bad
def mLR (m : MA) : MA := fun ρ => (m ρ).bind lrD
theorem at_range {K : PySem.W.Frag} {G : Hp} : ∀ (l : List Nat), AtL K G (l.map fun i => .int (0 + ((i : Nat) : Int))) (l.map fun i => V.int ((i : Nat) : Int))
  | [] => .nil
  | i :: l => .cons (by simp [At]) (at_range l)
theorem o_listRange {p' pos' : Pos} (hm : X.mg "list" = none) (hm2 : X.mg "range" = none) (ha : AM X F [a] ma) (hc : X.calm = true := by rfl) (hg : Gl X "list" := by rfl) (hg2 : Gl X "range" := by rfl) (hs : starEach [a] X.env = [(false, eval a X.env)] := by rfl)
    (hs2 : starEach [.Call (.Name "range" p') [a] [] pos'] X.env = [(false, eval (.Call (.Name "range" p') [a] [] pos') X.env)] := by rfl) :
    EO X F (.Call (.Name "list" p) [.Call (.Name "range" p') [a] [] pos'] [] pos) (mLR ma) := by
  refine PE.imp (pe_listRange hg hm hg2 hm2 hc ha hs hs2) ?_
  rintro σ H Q ⟨G, ρ, r, h⟩
  unfold mLR at h
  refine ⟨G, ρ, r, ?_⟩
  cases ea : ma ρ with
  | bad => rw [ea] at h; exact h.elim
  | exc c => rw [ea] at h; exact h
  | ok ds =>
    rw [ea, R.bind_ok] at h
    intro vs H1 G1 r1 s1 a
    unfold lrD at h
    split at h
    · rename_i j
      split at h
      · rename_i hj
        refine ⟨j, a.ints1, hj.1, hj.2, fun l hl => ?_⟩
        exact h l _ _ G1 (r1.lay0 hl) (s1.trans (Up.lay0 hl)) (s1.h.gone hl) upd_same (r1.kp.sub.gone hl) (at_range _)
      · exact h.elim
    · exact h.elim
def min2D : List D → R D
  | [.int i, .int j] => .ok (.int (if j < i then j else i))
  | _ => .bad
def max2D : List D → R D
  | [.int i, .int j] => .ok (.int (if j > i then j else i))
  | _ => .bad
theorem ok_max2 : CallOk F (fun xs H Q => ∃ i j, xs = [.int i, .int j] ∧ Q (.int (if j > i then j else i)) H) max2D := by
  intro σ ρ G H xs ds Q r al k
  unfold max2D at k
  split at k
  · exact ⟨_, _, al.ints2, k _ H G r (Up.refl _ _) (by simp only [At])⟩
  · exact k.elim
theorem e_max2 (hm : X.mg "max" = none) (ha : AM X F [a, b] ma) (hc : X.calm = true := by rfl) (hg : Gl X "max" := by rfl) (he : starEach [a, b] X.env = (false, eval a X.env) :: starEach [b] X.env := by rfl) (hpl : (backTo pos (starEach [b] X.env)).any (·.1) = false := by rfl) :
    EM X F (.Call (.Name "max" p) [a, b] [] pos) (mCB max2D ma) := e_callB (call_max2 hc) ok_max2 hm (by kernel_rfl) ha hg (by decide) (by decide) he hpl
def mUnp (set : D → Rho → R Rho) (m : ME) : MS := fun ρ => (m ρ).bind fun d => (set d ρ).bind fun ρ' => .ok (.nx ρ')
theorem s_unp {tg : Expr} {set : D → Rho → R Rho} (he : EM X F e m) (hg : GM X tg set) (hK : F.K = X.K := by rfl) (hs : swapsWithSole [tg] e pos.line X.env = pure false := by rfl) (hw : swappedStores [tg] e X.env = pure none := by rfl)
    (h1 : (assignEach [tg] X.env).map (·.2) = [assign tg X.env] := by rfl) : SM X F (.Assign [tg] e pos) (mUnp set m) := by
  obtain ⟨⟨g, g1, g2⟩, g3, _⟩ := hg
  refine PS.imp (ps_asg he g1 hs hw h1) ?_
  rintro De σ H ⟨G, ρ, r, h⟩
  unfold mUnp at h
  refine ⟨G, ρ, r, ?_⟩
  cases ea : m ρ with
  | bad => rw [ea] at h; exact h.elim
  | exc c => rw [ea] at h; exact h
  | ok d =>
    rw [ea, R.bind_ok] at h
    intro v H1 G1 r1 s1 av
    cases es : set d ρ with
    | bad => rw [es] at h; exact h.elim
    | exc c => exact absurd es (g3 d ρ c)
    | ok ρ' =>
      rw [es] at h
      exact g2 F hK σ ρ G1 H1 v d _ ρ' r1 av es fun σ' r' => h σ' G1 H1 r' s1.g
theorem f_lf (h : EM X F e m) : EMf X F e (lf m) := PE.imp h i_lf
theorem f_nil : AMf X F [] (lfA mNil) := PA.imp pa_nil (fun σ H Q h => i_nil σ H Q (i_lfA σ H Q h))
theorem f_cons {m : MEf} {r : MAf} (h : EMf X F e m) (t : AMf X F es r) (hs : notStar e = true := by rfl) : AMf X F (e :: es) (mConsE m r) := PA.imp (pa_cons h t (starEach_cons' e es X.env hs)) i_consE
theorem f_tup {k} {m : MAf} (h : AMf X F es m) : EMf X F (.Tuple es k pos) (mTupE m) := PE.imp (pe_tup h) i_tupE
theorem s_setE (i : Nat) {x : Str} {p : Pos} {m : MEf} (hN : X.N.Nodup) (he : EMf X F e m) (hi : X.N[i]? = some x := by rfl) (hx : Loc X.env.scope x := by first | exact Or.inl rfl | exact Or.inr rfl) (hs : notComp e = true := by rfl) (hf : X.fn x = true ∨ X.env.scope.names.lookup x = some .local := by first | exact .inl rfl | exact .inr rfl) : SM X F (.Assign [.Name x p] e pos) (mSetE i m) :=
  PS.imp (ps_set hN hi hx he (swaps_no _ _ _ _ hs) hf) i_setE
theorem s_exprE {m : MEf} (h : EMf X F e m) (hs : notComp e = true := by rfl) : SM X F (.Expr e pos) (mDropE m) := PS.imp (ps_expr h (swaps_no _ _ _ _ hs)) i_dropE
end
end L3
set_option Elab.async false
set_option linter.all false
set_option maxRecDepth 100000
namespace L3
open PySem PySem.Spec L2 PyProof.Rows
section
variable {X : Cx} {F : Fx} {e a b c : Expr} {es : List Expr} {pos p : Pos} {m n : ME} {ma : MA}
end
end L3
set_option Elab.async false
set_option linter.all false
set_option maxRecDepth 100000
namespace L3
open PySem PySem.Spec L2
structure XEMf (X : Cx) (F : Fx) (e : Expr) (m : MEf) : Prop where
  o : PE X e (tEf F m)
structure XAMf (X : Cx) (F : Fx) (es : List Expr) (m : MAf) : Prop where
  o : PA X es (tAf F m)
section
variable {X : Cx} {F : Fx} {e a b c tg iter elt : Expr} {es : List Expr} {pos p : Pos} {m n : ME} {ma : MA} {st : Stmt} {sts : List Stmt}
theorem xe_popAt (i : Nat) {x : Str} {px : Pos} {apos : Pos} {cpos : Pos} (he : XEM X F e m) (hN : X.N[i]? = some x := by rfl) (hv : Vis X.env.scope x := by first | exact Or.inl rfl | exact Or.inr (Or.inl rfl) | exact Or.inr (Or.inr rfl)) (hd : (x == ("__debug__" : Str)) = false := by decide) (hcd : (x == ("__classdict__" : Str)) = false := by decide) (hbase : attributeBase (.Name x px) "pop" X.env (eval (.Name x px) X.env) = eval (.Name x px) X.env := by rfl) (hline : (apos.endLine == cpos.line) = true := by rfl) (hfew : ((backTo cpos (starEach [e] X.env)).all (fun x => !x.1) && (backToKw cpos (keywordEach [] X.env)).all (fun x => x.1.isSome)
      && decide (([e] : List Expr).length + ([] : List Keyword).length + (if ([] : List Keyword).isEmpty then 0 else 1) < 30)) = true := by rfl) (hs : starEach [e] X.env = (false, eval e X.env) :: starEach [] X.env := by rfl) (hplain : (backTo cpos (starEach [] X.env)).any (·.1) = false := by rfl) : XEMf X F (.Call (.Attribute (.Name x px) "pop" apos) [e] [] cpos) (mPopAt i m) := ⟨L3.e_popAt (i := i) (he := he.1) (hN := hN) (hv := hv) (hd := hd) (hcd := hcd) (hbase := hbase) (hline := hline) (hfew := hfew) (hs := hs) (hplain := hplain)⟩
theorem xs_appendE (i : Nat) {x : Str} {px : Pos} {apos : Pos} {cpos : Pos} {m : MEf} (he : XEMf X F e m) (hN : X.N[i]? = some x := by rfl) (hv : Vis X.env.scope x := by first | exact Or.inl rfl | exact Or.inr (Or.inl rfl) | exact Or.inr (Or.inr rfl)) (hd : (x == ("__debug__" : Str)) = false := by decide) (hcd : (x == ("__classdict__" : Str)) = false := by decide) (hbase : attributeBase (.Name x px) "append" X.env (eval (.Name x px) X.env) = eval (.Name x px) X.env := by rfl) (hline : (apos.endLine == cpos.line) = true := by rfl) (hfew : ((backTo cpos (starEach [e] X.env)).all (fun x => !x.1) && (backToKw cpos (keywordEach [] X.env)).all (fun x => x.1.isSome)
      && decide (([e] : List Expr).length + ([] : List Keyword).length + (if ([] : List Keyword).isEmpty then 0 else 1) < 30)) = true := by rfl) (hs : starEach [e] X.env = (false, eval e X.env) :: starEach [] X.env := by rfl) (hplain : (backTo cpos (starEach [] X.env)).any (·.1) = false := by rfl) : XSM X F (.Expr (.Call (.Attribute (.Name x px) "append" apos) [e] [] cpos) pos) (mAppE i m) := ⟨L3.s_appendE (i := i) (he := he.1) (hN := hN) (hv := hv) (hd := hd) (hcd := hcd) (hbase := hbase) (hline := hline) (hfew := hfew) (hs := hs) (hplain := hplain)⟩
theorem xo_list (hm : X.mg "list" = none) (ha : XAM X F [e] ma) (hK : F.K = X.K := by rfl) (hg : Gl X "list" := by rfl) (he : starEach [e] X.env = (false, eval e X.env) :: starEach [] X.env := by rfl) (hpl : (backTo pos (starEach [] X.env)).any (·.1) = false := by rfl) : XEO X F (.Call (.Name "list" p) [e] [] pos) (mListO ma) := ⟨L3.o_list (hm := hm) (ha := ha.1) (hK := hK) (hg := hg) (he := he) (hpl := hpl)⟩
theorem xo_listRange {p' pos' : Pos} (hm : X.mg "list" = none) (hm2 : X.mg "range" = none) (ha : XAM X F [a] ma) (hc : X.calm = true := by rfl) (hg : Gl X "list" := by rfl) (hg2 : Gl X "range" := by rfl) (hs : starEach [a] X.env = [(false, eval a X.env)] := by rfl) (hs2 : starEach [.Call (.Name "range" p') [a] [] pos'] X.env = [(false, eval (.Call (.Name "range" p') [a] [] pos') X.env)] := by rfl) : XEO X F (.Call (.Name "list" p) [.Call (.Name "range" p') [a] [] pos'] [] pos) (mLR ma) := ⟨L3.o_listRange (hm := hm) (hm2 := hm2) (ha := ha.1) (hc := hc) (hg := hg) (hg2 := hg2) (hs := hs) (hs2 := hs2)⟩
theorem xe_max2 (hm : X.mg "max" = none) (ha : XAM X F [a, b] ma) (hc : X.calm = true := by rfl) (hg : Gl X "max" := by rfl) (he : starEach [a, b] X.env = (false, eval a X.env) :: starEach [b] X.env := by rfl) (hpl : (backTo pos (starEach [b] X.env)).any (·.1) = false := by rfl) : XEM X F (.Call (.Name "max" p) [a, b] [] pos) (mCB max2D ma) := ⟨L3.e_max2 (hm := hm) (ha := ha.1) (hc := hc) (hg := hg) (he := he) (hpl := hpl)⟩
theorem xs_unp {tg : Expr} {set : D → Rho → R Rho} (he : XEM X F e m) (hg : GM X tg set) (hK : F.K = X.K := by rfl) (hs : swapsWithSole [tg] e pos.line X.env = pure false := by rfl) (hw : swappedStores [tg] e X.env = pure none := by rfl) (h1 : (assignEach [tg] X.env).map (·.2) = [assign tg X.env] := by rfl) : XSM X F (.Assign [tg] e pos) (mUnp set m) := ⟨L3.s_unp (he := he.1) (hg := hg) (hK := hK) (hs := hs) (hw := hw) (h1 := h1)⟩
theorem xf_lf (h : XEM X F e m) : XEMf X F e (lf m) := ⟨L3.f_lf (h := h.1)⟩
theorem xf_nil  : XAMf X F [] (lfA mNil) := ⟨L3.f_nil ⟩
theorem xf_cons {m : MEf} {r : MAf} (h : XEMf X F e m) (t : XAMf X F es r) (hs : notStar e = true := by rfl) : XAMf X F (e :: es) (mConsE m r) := ⟨L3.f_cons (h := h.1) (t := t.1) (hs := hs)⟩
theorem xf_tup {k} {m : MAf} (h : XAMf X F es m) : XEMf X F (.Tuple es k pos) (mTupE m) := ⟨L3.f_tup (h := h.1)⟩
theorem xs_setE (i : Nat) {x : Str} {p : Pos} {m : MEf} (hN : X.N.Nodup) (he : XEMf X F e m) (hi : X.N[i]? = some x := by rfl) (hx : Loc X.env.scope x := by first | exact Or.inl rfl | exact Or.inr rfl) (hs : notComp e = true := by rfl) (hf : X.fn x = true ∨ X.env.scope.names.lookup x = some .local := by first | exact .inl rfl | exact .inr rfl) : XSM X F (.Assign [.Name x p] e pos) (mSetE i m) := ⟨L3.s_setE (i := i) (hN := hN) (he := he.1) (hi := hi) (hx := hx) (hs := hs) (hf := hf)⟩
theorem xs_exprE {m : MEf} (h : XEMf X F e m) (hs : notComp e = true := by rfl) : XSM X F (.Expr e pos) (mDropE m) := ⟨L3.s_exprE (h := h.1) (hs := hs)⟩
end
end L3
set_option Elab.async false
set_option linter.all false
set_option maxRecDepth 100000
namespace L3
open PySem PySem.Spec L2
theorem ClsN.inj {K : PySem.W.Frag} {c : Str} {C C' : Addr} (h : ClsN K c C) (h' : ClsN K c C') : C = C' := by
  unfold ClsN at h h'
  rw [h] at h'
  cases h'; rfl
theorem lk_at {K : PySem.W.Frag} {G : Hp} {f : Str} {d : D} : ∀ {xs : List (Str × V)} {ds : List D}, AtL K G ds (xs.map (·.2)) → ((xs.map (·.1)).zip ds).lookup f = some d → ∃ v, xs.lookup f = some v ∧ At K G d v
  | [], _, _, e => by simp at e
  | (k, v) :: xs, [], h, _ => by
    have := h.length
    simp at this
  | (k, v) :: xs, e :: ds, h, l => by
    simp only [List.map_cons, AtL] at h
    obtain ⟨v', r, e1, a, t⟩ := h
    cases e1
    simp only [List.map_cons, List.zip_cons_cons, List.lookup_cons] at l ⊢
    cases hk : f == k with
    | true => rw [hk] at l; cases l; exact ⟨v, rfl, a⟩
    | false => rw [hk] at l; exact lk_at t l
structure ClF (K : PySem.W.Frag) (c : Str) (fs : List Str) : Prop where
  ex : ∃ C, ClsN K c C ∧ Cls K C ∧ ∀ f ∈ fs, NoAttr K C f
def fldD (c f : Str) : D → R D
  | .ins c' ns ds => if c' = c then match (ns.zip ds).lookup f with
    | some d => .ok d
    | none => .bad
    else .bad
  | _ => .bad
section
variable {X : Cx} {F : Fx} {e a b c o : Expr} {es : List Expr} {pos p : Pos} {m n : ME} {ma : MA}
theorem e_fld {cn f : Str} {fs : List Str} (k : ClF X.K cn fs) (he : EM X F o m) (hf : f ∈ fs := by decide +kernel) (hK : F.K = X.K := by rfl) (hb : attributeBase o f X.env (eval o X.env) = eval o X.env := by rfl) : EM X F (.Attribute o f pos) (mUn (fldD cn f) m) := by
  refine PE.imp (pe_fld he hb) ?_
  rintro σ H Q ⟨G, ρ, r, h⟩
  unfold mUn at h
  refine ⟨G, ρ, r, ?_⟩
  cases ea : m ρ with
  | bad => rw [ea] at h; exact h.elim
  | exc c => rw [ea] at h; exact h
  | ok d =>
    rw [ea, R.bind_ok] at h
    intro x H1 G1 r1 s1 ax
    cases d with
    | ins c' ns ds =>
      simp only [fldD] at h
      split at h
      · rename_i hc
        subst hc
        split at h
        · rename_i d' hl
          simp only [At] at ax
          obtain ⟨q, dx, xs, rfl, ⟨C, c1, g1⟩, rfl, al⟩ := ax
          obtain ⟨v, hv, av⟩ := lk_at al hl
          obtain ⟨C', k1, k2, k3⟩ := k.ex
          rw [hK] at c1
          have := c1.inj k1
          subst this
          exact ⟨q, C, dx, xs, v, rfl, r1.kp.sub _ _ g1, k2, k3 f hf, hv, h v H1 G1 r1 s1 av⟩
        · exact h.elim
      · exact h.elim
    | _ => exact h.elim
def keyS : D → Option Key
  | .int i => some (.inl i)
  | .str x => some (.inr x)
  | _ => none
def keysL : List D → Option (List Key)
  | [] => some []
  | d :: ds => match keyS d, keysL ds with
    | some k, some ks => some (k :: ks)
    | _, _ => none
def keyT : D → Option (List Key)
  | .tup ds => keysL ds
  | _ => none
theorem keyS_at {K : PySem.W.Frag} {G : Hp} {d : D} {v : V} {k : Key} (e : keyS d = some k) (a : At K G d v) : v = kV k := by
  cases d <;> first
    | (cases e; done)
    | (cases e; simp only [At] at a; exact a)
theorem keysL_at {K : PySem.W.Frag} {G : Hp} : ∀ {ds : List D} {vs : List V} {ks : List Key}, keysL ds = some ks → AtL K G ds vs → vs = ks.map kV
  | [], _, _, e, a => by simp only [AtL] at a; subst a; cases e; rfl
  | d :: ds, _, _, e, a => by
    simp only [AtL] at a
    obtain ⟨v, r, rfl, av, ar⟩ := a
    unfold keysL at e
    split at e
    · rename_i k ks e1 e2
      cases e
      rw [keyS_at e1 av, keysL_at e2 ar]; rfl
    · cases e
theorem keyT_at {K : PySem.W.Frag} {G : Hp} {d : D} {v : V} {ks : List Key} (e : keyT d = some ks) (a : At K G d v) : ∃ b, v = .ref b ∧ G b = some (.tup (ks.map kV)) := by
  cases d with
  | tup ds =>
    simp only [At] at a
    obtain ⟨b, xs, rfl, hb, al⟩ := a
    exact ⟨b, rfl, by rw [hb, keysL_at e al]⟩
  | _ => cases e
theorem valV_some {κ : Type} [DecidableEq κ] (k : κ) : ∀ kvs : List (κ × V), (valV kvs k).isSome = (kvs.map (·.1)).any (fun x => decide (x = k))
  | [] => rfl
  | (x, v) :: kvs => by
    have ih := valV_some k kvs
    unfold valV at ih ⊢
    rw [List.find?_cons, List.map_cons, List.any_cons]
    by_cases h : x = k
    · simp [h]
    · simp only [h, decide_false, Bool.false_or]; exact ih
def dinD (b : Bool) (k d : D) : R D := match d with
  | .dT ks _ => match keyT k with
    | some kk => .ok (.bl (if b then ks.any (fun x => decide (x = kk)) else !ks.any (fun x => decide (x = kk))))
    | none => .bad
  | _ => .bad
theorem din_core {b : Bool} {σ : St} {ρ : Rho} {G H : Hp} {y x : V} {dk dd : D} {Q : VK} (r : Rel F G H σ ρ) (ay : At F.K G dk y) (ax : At F.K G dd x) (h : kE F G H σ ρ Q (dinD b dk dd)) :
    ∃ a o, x = .ref a ∧ DGet H a y o ∧ Q (.bl (if b then o.isSome else !o.isSome)) H := by
  unfold dinD at h
  split at h
  · rename_i ks ds
    split at h
    · rename_i kk ek
      simp only [At] at ax
      obtain ⟨a, xs, rfl, hg, rfl, al⟩ := ax
      obtain ⟨q, rfl, hq⟩ := keyT_at ek ay
      refine ⟨a, valV xs kk, rfl, DGet.t (r.kp.sub _ _ hg) (r.kp.sub _ _ hq), ?_⟩
      rw [valV_some]
      exact h _ H G r (Up.refl _ _) (by simp only [At])
    · exact h.elim
  · exact h.elim
theorem i_din : ImpE (tE F (mBin (dinD true) m n)) (tDIn (tE F m) (tE F n)) := by
  rintro σ H Q ⟨G, ρ, r, h⟩
  unfold mBin at h
  refine ⟨G, ρ, r, ?_⟩
  cases ea : m ρ with
  | bad => rw [ea] at h; exact h.elim
  | exc c => rw [ea] at h; exact h
  | ok dk =>
    rw [ea, R.bind_ok] at h
    intro y H1 G1 r1 s1 ay
    refine ⟨G1, ρ, r1, ?_⟩
    cases eb : n ρ with
    | bad => rw [eb] at h; exact h.elim
    | exc c => rw [eb] at h; exact h
    | ok dd =>
      rw [eb, R.bind_ok] at h
      intro x H2 G2 r2 s2 ax
      exact din_core (b := true) r2 (ay.mono s2.g) ax (h.mono (s1.trans s2))
theorem e_din (hu : X.A.units + 64 < cLine) (ha : EM X F a m) (hb : EM X F b n) (h1 : behindInMarks .In b = false := by with_unfolding_all rfl) : EM X F (.Compare a [.In] [b] pos) (mBin (dinD true) m n) := PE.imp (pe_cmp (pc_din (by omega) ha hb) h1) i_din
theorem t_din (hu : X.A.units + 64 < cLine) (ha : EM X F a m) (hb : EM X F b n) (h1 : behindInMarks .In b = false := by with_unfolding_all rfl) : TM X F (.Compare a [.In] [b] pos) (mB (mBin (dinD true) m n)) := by
  refine PT.imp (pt_cmp (pc_din (by omega) ha hb) h1) fun σ H Q h => ?_
  obtain ⟨G, ρ, r, k⟩ := i_B σ H Q h
  exact i_din σ H _ ⟨G, ρ, r, k⟩
def mSetD (i : Nat) : MS := fun ρ => if i < ρ.length then .ok (.nx (ρ.set i (.ob (.dT [] [])))) else .bad
theorem s_setD (i : Nat) {x : Str} {p q : Pos} (hN : X.N.Nodup) (hi : X.N[i]? = some x := by rfl) (hx : Loc X.env.scope x := by first | exact Or.inl rfl | exact Or.inr rfl) (hf : X.fn x = true ∨ X.env.scope.names.lookup x = some .local := by first | exact .inl rfl | exact .inr rfl) : SM X F (.Assign [.Name x p] (.Dict [] [] q) pos) (mSetD i) := by
  refine PS.imp (ps_set hN hi hx pe_dnewT (swaps_no _ _ _ _ rfl) hf) ?_
  rintro De σ H ⟨G, ρ, r, h⟩
  unfold mSetD at h
  intro a ha
  split at h
  · rename_i hl
    refine h _ G _ ((r.lay0 ha).setB hl upd_same (r.kp.sub.gone ha) (r.kp.hh.gone ha) ⟨[], rfl, rfl, .nil⟩ fun j es o _ e1 e2 f => OwnAt.fresh r (Sub.upd ha) ha ⟨j, es, o, e1, e2, f⟩) (Sub.refl _)
  · exact h.elim
def putD (ks : List (List Key)) (ds : List D) (kk : List Key) (d : D) : R Ob := if ks.any (fun x => decide (x = kk)) = false ∧ ks.length < 1000000 then .ok (.dT (ks ++ [kk]) (ds ++ [d])) else .bad
def mDPut (i : Nat) (mk mv : ME) : MS := fun ρ => (mv ρ).bind fun v => match ρ[i]? with
  | some (.ob (.dT ks ds)) => (mk ρ).bind fun k => match keyT k with
    | some kk => (putD ks ds kk v).bind fun o => .ok (.nx (ρ.set i (.ob o)))
    | none => .bad
  | _ => .bad
theorem s_dput (i : Nat) {x : Str} {px pos' : Pos} {k v : Expr} {mk mv : ME} (hu : X.A.units + 64 < cLine) (hk : EM X F k mk) (hv : EM X F v mv) (hN : X.N[i]? = some x := by rfl) (hvs : Vis X.env.scope x := by first | exact Or.inl rfl | exact Or.inr (Or.inl rfl) | exact Or.inr (Or.inr rfl)) (hd : (x == ("__debug__" : Str)) = false := by decide) (hcd : (x == ("__classdict__" : Str)) = false := by decide) (hs : notComp v = true := by rfl) :
    SM X F (.Assign [.Subscript (.Name x px) k pos'] v pos) (mDPut i mk mv) := by
  refine PS.imp (ps_dput (by omega) (pe_var hN hvs hd hcd) hk hv (swaps_no _ _ _ _ hs)) ?_
  rintro De σ H ⟨G, ρ, r, h⟩
  unfold mDPut at h
  refine ⟨G, ρ, r, ?_⟩
  cases ea : mv ρ with
  | bad => rw [ea] at h; exact h.elim
  | exc c => rw [ea] at h; exact h
  | ok dv =>
    rw [ea, R.bind_ok] at h
    intro v H1 G1 r1 s1 av
    split at h
    · rename_i ks ds er
      obtain ⟨q, ho, e1, _⟩ := r1.obj er
      refine ⟨.ref q, e1, G1, ρ, r1, ?_⟩
      cases eb : mk ρ with
      | bad => rw [eb] at h; exact h.elim
      | exc c => rw [eb] at h; exact h
      | ok dk =>
        rw [eb, R.bind_ok] at h
        intro y H2 G2 r2 s2 ay
        obtain ⟨q', ho', e1', h1, h2, h3, xs, rfl, rfl, al⟩ := r2.obj er
        rw [e1] at e1'; cases e1'
        split at h
        · rename_i kk ek
          unfold putD at h
          split at h
          · rename_i hc
            obtain ⟨hc1, hc2⟩ := hc
            obtain ⟨bb, rfl, hbb⟩ := keyT_at ek ay
            have hn : valV xs kk = none := by
              have := valV_some kk xs
              rw [hc1] at this
              exact Option.not_isSome_iff_eq_none.mp (by rw [this]; exact Bool.false_ne_true)
            refine ⟨q, _, rfl, DPut.t h1 (r2.kp.sub _ _ hbb) (Nat.lt_trans (by simpa using hc2) (by decide)), ?_⟩
            rw [putK_new _ hn]
            refine h σ G2 _ (r2.mutB er e1 ⟨xs ++ [(kk, v)], rfl, by simp, ?_⟩) (s1.g.trans s2.g)
            rw [List.map_append]
            exact al.snoc (av.mono s2.g)
          · exact h.elim
        · exact h.elim
    · exact h.elim
def mRetZ (m : ME) : MS := fun ρ => (m (frzA ρ)).bind fun d => .ok (.rt d)
theorem s_retZ (h : EM X F e m) : SM X F (.Return (some e) pos) (mRetZ m) := by
  refine PS.imp (ps_ret h) ?_
  rintro De σ H ⟨G, ρ, r, h⟩
  unfold mRetZ at h
  refine ⟨_, _, r.plus, ?_⟩
  cases ea : m (frzA ρ) with
  | bad => rw [ea] at h; exact h.elim
  | exc c => rw [ea] at h; exact h
  | ok d => rw [ea, R.bind_ok] at h; exact fun v H' G' r' s' a => h v G' H' r'.kp a
def mBad : MS := fun _ => .bad
theorem s_bad {st : Stmt} : SM X F st mBad := PS.imp ps_never fun De σ H ⟨G, ρ, r, h⟩ => h.elim
end
end L3
set_option Elab.async false
set_option linter.all false
set_option maxRecDepth 100000
namespace L3
open PySem PySem.Spec L2
mutual
def noIns : D → Bool
  | .ins _ _ _ => false
  | .tup ds => noInsL ds
  | .lst ds => noInsL ds
  | .scr ds => noInsL ds
  | .dK _ ds => noInsL ds
  | .dT _ ds => noInsL ds
  | .ktp ds => noInsL ds
  | _ => true
def noInsL : List D → Bool
  | [] => true
  | d :: ds => noIns d && noInsL ds
end
def isIns : HO → Bool
  | .ins _ _ _ => true
  | _ => false
section
variable {K : PySem.W.Frag} {G G' : Hp}
theorem Rd.off (h : ∀ b o, G b = some o → isIns o = false → G' b = some o) {a : Addr} {u : HO} (hu : isIns u = false) (r : Rd G a u) : Rd G' a u := by
  rcases r with r | ⟨o, r⟩
  · exact .inl (h _ _ r hu)
  · exact .inr ⟨o, h _ _ r rfl⟩
mutual
theorem At.off (h : ∀ b o, G b = some o → isIns o = false → G' b = some o) : ∀ {d : D} {v : V}, noIns d = true → At K G d v → At K G' d v
  | .non, _, _, q => by simpa only [At] using q
  | .bl _, _, _, q => by simpa only [At] using q
  | .int _, _, _, q => by simpa only [At] using q
  | .str _, _, _, q => by simpa only [At] using q
  | .tup _, _, n, q => by
    simp only [At, noIns] at q n ⊢
    obtain ⟨a, xs, e, g, r⟩ := q
    exact ⟨a, xs, e, h _ _ g rfl, AtL.off h n r⟩
  | .lst _, _, n, q => by
    simp only [At, noIns] at q n ⊢
    obtain ⟨a, xs, e, g, r⟩ := q
    exact ⟨a, xs, e, h _ _ g rfl, AtL.off h n r⟩
  | .scr _, _, n, q => by
    simp only [At, noIns] at q n ⊢
    obtain ⟨a, xs, e, g, r⟩ := q
    refine ⟨a, xs, e, ?_, AtL.off h n r⟩
    rcases g with g | g
    · exact .inl (Rd.off h rfl g)
    · exact .inr g
  | .ktp _, _, n, q => by
    simp only [At, noIns] at q n ⊢
    obtain ⟨a, xs, e, g, r⟩ := q
    refine ⟨a, xs, e, ?_, AtL.off h n r⟩
    rcases g with g | g
    · exact .inl (Rd.off h rfl g)
    · exact .inr g
  | .dK _ _, _, n, q => by
    simp only [At, noIns] at q n ⊢
    obtain ⟨a, xs, e, g, k, r⟩ := q
    exact ⟨a, xs, e, h _ _ g rfl, k, AtL.off h n r⟩
  | .dT _ _, _, n, q => by
    simp only [At, noIns] at q n ⊢
    obtain ⟨a, xs, e, g, k, r⟩ := q
    exact ⟨a, xs, e, h _ _ g rfl, k, AtL.off h n r⟩
  | .ins _ _ _, _, n, _ => by simp only [noIns] at n; cases n
  | .exo _, _, n, q => by
    simp only [At] at q ⊢
    obtain ⟨a, xs, e, ⟨C, c1, g⟩, r⟩ := q
    exact ⟨a, xs, e, ⟨C, c1, h _ _ g rfl⟩, r⟩
theorem AtL.off (h : ∀ b o, G b = some o → isIns o = false → G' b = some o) : ∀ {ds : List D} {vs : List V}, noInsL ds = true → AtL K G ds vs → AtL K G' ds vs
  | [], _, _, q => by simpa only [AtL] using q
  | _ :: _, _, n, q => by
    simp only [AtL, noInsL, Bool.and_eq_true] at q n ⊢
    obtain ⟨v, r, e, a, t⟩ := q
    exact ⟨v, r, e, At.off h n.1 a, AtL.off h n.2 t⟩
end
end
def slIns : Sl → Bool
  | .ob (.ins _ _ _) => true
  | .ob _ => false
  | .tr _ => false
  | _ => true
def onlyIns (ρ : Rho) : Bool := ρ.all slIns
def mBorI (m : ME) : ME := fun ρ => (m (frzA ρ)).bind fun d => if noIns d = true ∧ onlyIns ρ = true then .ok d else .bad
section
variable {F : Fx}
open Classical in
noncomputable def gOff (H : Hp) (σ : St) (ρ : Rho) (G : Hp) : Hp := fun b => if OwnAt H σ ρ b then none else G b
theorem i_borI {m : ME} : ImpE (tE F (mBorI m)) (tE F m) := by
  rintro σ H Q ⟨G, ρ, r, h⟩
  refine ⟨gPlus σ ρ G H, frzA ρ, r.plus, ?_⟩
  unfold mBorI at h
  cases ea : m (frzA ρ) with
  | bad => rw [ea] at h; exact h.elim
  | exc c => rw [ea] at h; exact h
  | ok d =>
    rw [ea, R.bind_ok] at h
    intro v H' G' r' s' a
    by_cases hd : noIns d = true ∧ onlyIns ρ = true
    · rw [if_pos hd] at h
      have ownG : ∀ b, OwnAt H σ ρ b → G b = none := fun b z => (r.foot z).2.1
      have own0 : ∀ b, OwnAt H σ ρ b → F.H0 b = none := fun b z => (r.foot z).2.2
      have ownI : ∀ b, OwnAt H σ ρ b → ∃ ho, H b = some ho ∧ isIns ho = true := fun b ⟨i, s, o, e1, e2, f⟩ => by
        have hi := List.all_eq_true.mp hd.2 _ (List.mem_of_getElem? e1)
        cases s with
        | un => exact f.elim
        | fz _ => exact f.elim
        | tr _ => cases hi
        | ob ob =>
          have f : o = some (.ref b) := f
          obtain ⟨c, ho, e3, h1, _, _, h4⟩ := r.obj e1
          rw [e2, f] at e3; cases e3
          cases ob with
          | lst _ => cases hi
          | dT _ _ => cases hi
          | ins _ _ _ => obtain ⟨C, dx, xs, _, rfl, _⟩ := h4; exact ⟨_, h1, rfl⟩
      have off : ∀ b, ¬ OwnAt H σ ρ b → gOff H σ ρ G' b = G' b := fun b n => by unfold gOff; rw [if_neg n]
      have on : ∀ b, OwnAt H σ ρ b → gOff H σ ρ G' b = none := fun b n => by unfold gOff; rw [if_pos n]
      have sg : Sub G (gOff H σ ρ G') := fun b o e => by
        have n : ¬ OwnAt H σ ρ b := fun z => by rw [ownG b z] at e; cases e
        rw [off b n]; exact s'.g b o (gPlus_sub r b o e)
      have keepH : ∀ b, OwnAt H σ ρ b → ∀ o, H b = some o → H' b = some o := fun b z o e => r'.kp.sub _ _ (s'.g _ _ (by rw [gPlus_own z]; exact e))
      have rel : Rel F (gOff H σ ρ G') H' σ ρ := by
        refine r.over rfl ⟨fun b o e => ?_, r.kp.gg.trans sg, r'.kp.hh, fun b hb => ?_⟩ sg fun b ow => ?_
        · by_cases n : OwnAt H σ ρ b
          · rw [on b n] at e; cases e
          · rw [off b n] at e; exact r'.kp.sub b o e
        · have n : ¬ OwnAt H σ ρ b := fun z => hb (own0 b z)
          rw [off b n]; exact r'.kp.new b hb
        · refine ⟨?_, on b ow, own0 b ow⟩
          cases eb : H b with
          | none => exact absurd eb (r.foot ow).1
          | some o => exact keepH b ow o eb
      refine h v H' _ rel ⟨sg, s'.h, fun b hb => ?_⟩ (At.off (fun b o e hi => ?_) hd.1 a)
      · by_cases n : OwnAt H σ ρ b
        · rw [on b n, ownG b n]
        · rw [off b n, s'.n b hb]
          unfold gPlus
          rw [if_neg n]
      · have n : ¬ OwnAt H σ ρ b := fun z => by
          obtain ⟨ho, e1, e2⟩ := ownI b z
          have := s'.g b ho (by rw [gPlus_own z]; exact e1)
          rw [e] at this; cases this
          rw [hi] at e2; cases e2
        rw [off b n]; exact e
    · rw [if_neg hd] at h; exact h.elim
abbrev MN := Rho → R Rho
def kN (F : Fx) (σ : St) (De : Ends) : R Rho → Prop
  | .ok ρ' => ∀ G' H', Rel F G' H' σ ρ' → De.nx σ H'
  | .exc c => kX F c
  | .bad => False
def tN (F : Fx) (m : MN) : TS := fun De σ H => ∃ G ρ, Rel F G H σ ρ ∧ kN F σ De (m ρ)
def mThen (a b : MN) : MN := fun ρ => (a ρ).bind b
theorem i_then {a b : MN} : ImpS (tN F (mThen a b)) (tSeq (tN F a) (tN F b)) := by
  rintro De σ H ⟨G, ρ, r, h⟩
  unfold mThen at h
  refine ⟨G, ρ, r, ?_⟩
  cases ea : a ρ with
  | bad => rw [ea] at h; exact h.elim
  | exc c => rw [ea] at h; exact h
  | ok ρ1 => rw [ea, R.bind_ok] at h; exact fun G' H' r' => ⟨G', ρ1, r', h⟩
def mGuard (c : MT) : MN := fun ρ => (c ρ).bind fun k => if k = true then .bad else .ok ρ
theorem i_guard {c : MT} : ImpS (tN F (mGuard c)) (tIfS (tT F c) tNever tNext) := by
  rintro De σ H ⟨G, ρ, r, h⟩
  unfold mGuard at h
  refine ⟨G, ρ, r, ?_⟩
  cases ea : c ρ with
  | bad => rw [ea] at h; exact h.elim
  | exc c => rw [ea] at h; exact h
  | ok k =>
    rw [ea, R.bind_ok] at h
    intro H1 G1 r1 s1
    cases k with
    | true => exact h.elim
    | false => exact h G1 H1 r1
theorem putF_new {f : Str} {v : V} : ∀ {fs : List (Str × V)}, (fs.map (·.1)).all (fun k => !(f == k)) = true → putF f v fs = fs ++ [(f, v)]
  | [], _ => rfl
  | (g, x) :: fs, h => by
    simp only [List.map_cons, List.all_cons, Bool.and_eq_true, Bool.not_eq_true'] at h
    have ne : g ≠ f := fun z => by subst z; simp at h
    rw [putF, if_neg ne, putF_new (by simpa using h.2)]; rfl
def mFldSet (cn f : Str) (m : ME) : MN := fun ρ => (m ρ).bind fun d => match (ρ[0]? : Option Sl) with
  | some (.ob (.ins c' ns ds)) => if c' = cn ∧ ns.all (fun k => !(f == k)) = true ∧ ns.length < 1000 then .ok (ρ.set 0 (.ob (.ins cn (ns ++ [f]) (ds ++ [d])))) else .bad
  | _ => .bad
end
section
variable {X : Cx} {F : Fx} {e o : Expr} {pos : Pos} {m : ME}
theorem e_borI (h : EM X F e m) : EM X F e (mBorI m) := PE.imp h i_borI
theorem s_fldset {cn f x : Str} {fs : List Str} {px pos' : Pos} (k : ClF X.K cn fs) (he : EM X F e m) (hf : f ∈ fs := by decide +kernel) (hN : X.N[0]? = some x := by rfl) (hv : Vis X.env.scope x := by first | exact Or.inl rfl | exact Or.inr (Or.inl rfl) | exact Or.inr (Or.inr rfl)) (hd : (x == ("__debug__" : Str)) = false := by decide) (hcd : (x == ("__classdict__" : Str)) = false := by decide) (hs : notComp e = true := by rfl) (hK : F.K = X.K := by rfl) :
    PS X (.Assign [.Attribute (.Name x px) f pos'] e pos) (tN F (mFldSet cn f m)) := by
  refine PS.imp (ps_fld (pe_var hN hv hd hcd) he (swaps_no _ _ _ _ hs)) ?_
  rintro De σ H ⟨G, ρ, r, h⟩
  unfold mFldSet at h
  refine ⟨G, ρ, r, ?_⟩
  cases ea : m ρ with
  | bad => rw [ea] at h; exact h.elim
  | exc c => rw [ea] at h; exact h
  | ok d =>
    rw [ea, R.bind_ok] at h
    intro v H1 G1 r1 s1 av
    split at h
    · rename_i c' ns ds er
      split at h
      · rename_i hc
        obtain ⟨rfl, hc2, hc3⟩ := hc
        obtain ⟨q, ho, e1, h1, h2, h3, C, dx, xs, c1, rfl, rfl, al⟩ := r1.obj er
        obtain ⟨C', k1, k2, k3⟩ := k.ex
        rw [hK] at c1
        have := c1.inj k1
        subst this
        refine ⟨.ref q, e1, q, C, dx, xs, rfl, h1, k2, k3 f hf, by simpa using hc3, ?_⟩
        refine h G1 _ (r1.mutB er e1 ⟨C, dx, putF f v xs, by rw [hK]; exact c1, rfl, ?_, ?_⟩)
        · rw [putF_new hc2]; simp
        · rw [putF_new hc2, List.map_append]; exact al.snoc av
      · exact h.elim
    · exact h.elim
end
def kCI (F : Fx) (x C : Addr) (Q : VK) : R (List Str × List D) → Prop
  | .ok (ns, ds) => ∀ dx xs G' H', Kp F G' H' → G' x = none → H' x = some (.ins C dx xs) → xs.map (·.1) = ns → AtL F.K G' ds (xs.map (·.2)) → Q .non H'
  | .exc _ => False
  | .bad => False
def spI (K : PySem.W.Frag) (cn : Str) (n : Nat) (mf : List D → R (List Str × List D)) : Sp := fun vs H Q E => ∃ G x C dx es ws, vs = .ref x :: ws ∧ ClsN K cn C ∧ H x = some (.ins C dx []) ∧ G x = none ∧ Sub G H ∧ AtL K G es ws ∧ es.length = n ∧ kCI ⟨K, G, del H x, fun _ _ => False⟩ x C Q (mf es)
def mMake (cn : Str) (n : Nat) (mf : List D → R (List Str × List D)) (ma : MA) : ME := fun ρ => (ma ρ).bind fun ds => if ds.length = n then (noX (mf ds)).bind fun x => .ok (.ins cn x.1 x.2) else .bad
section
variable {X : Cx} {F : Fx} {e : Expr} {es : List Expr} {pos p : Pos} {ma : MA}
theorem i_make {cn : Str} {n : Nat} {mf : List D → R (List Str × List D)} {C : Addr} {E : XK} (hC : ClsN F.K cn C) : ImpE (tE F (mMake cn n mf ma)) (tMake C (spI F.K cn n mf) [] E (tA F ma)) := by
  rintro σ H Q ⟨G, ρ, r, h⟩
  unfold mMake at h
  refine ⟨G, ρ, r, ?_⟩
  cases ea : ma ρ with
  | bad => rw [ea] at h; exact h.elim
  | exc c => rw [ea] at h; exact h
  | ok ds =>
    rw [ea, R.bind_ok] at h
    intro vs H1 G1 r1 s1 av x dx hx hdx ne
    by_cases hn : ds.length = n
    · rw [if_pos hn] at h
      rw [List.append_nil]
      have sH : Sub H1 (del (upd (upd H1 dx (.own x)) x (.ins C dx [])) x) := fun b o e => by
        have n1 : b ≠ x := fun z => by rw [z, hx] at e; cases e
        have n2 : b ≠ dx := fun z => by rw [z, hdx] at e; cases e
        rw [del_ne n1, upd_ne n1, upd_ne n2]; exact e
      have sG : Sub G1 (upd (upd H1 dx (.own x)) x (.ins C dx [])) := r1.kp.sub.trans (sH.trans (del_sub _ _))
      refine ⟨G1, x, C, dx, ds, vs, rfl, hC, upd_same, r1.kp.sub.gone hx, sG, av, hn, ?_⟩
      cases em : mf ds with
      | bad => rw [em] at h; exact h.elim
      | exc c => rw [em] at h; exact h.elim
      | ok y =>
        obtain ⟨ns, es'⟩ := y
        rw [em] at h
        intro dx' xs G' H' k g1 g2 g3 g4
        refine ⟨rfl, ?_⟩
        have hh : Sub H1 H' := sH.trans k.hh
        have nw : ∀ b, H1 b ≠ none → G' b = G1 b := fun b hb => k.new b (sH.some hb)
        have r2 : Rel F G' H' σ ρ := r1.grow k.gg k.sub hh nw
        have no : ¬ OwnAt H' σ ρ x := OwnAt.fresh r1 hh hx
        refine h (.ref x) H' _ (r2.take g2 g1 (r1.kp.hh.gone hx) no) ((s1.trans ⟨k.gg, hh, nw⟩).put (s1.h.gone hx) g1) ?_
        simp only [At]
        exact ⟨x, dx', xs, rfl, ⟨C, hC, upd_same⟩, g3, g4.mono (Sub.upd g1)⟩
    · rw [if_neg hn] at h; exact h.elim
structure KnI (P : Program) (w : World) (K : PySem.W.Frag) (mg : Str → Option Value) (base : Heap) (cn : Str) (n k : Nat) (mf : List D → R (List Str × List D)) : Prop where
  ex : ∃ (C f : Addr) (fd : FuncData) (ps : List Str), ClsN K cn C ∧ Mk K C f ∧ FnOk P w K mg base CX0 k f fd ps (spI K cn n mf) ∧ mg cn = some (.ref C) ∧ Binds K fd ps []
theorem e_make {cn : Str} {n k : Nat} {mf : List D → R (List Str × List D)} (c : KnI X.prog X.w X.K X.mg X.base cn n k mf) (hr : Room (k + 1) X.A) (ha : AM X F (e :: es) ma) (hK : F.K = X.K := by rfl) (hg : Gl X cn := by rfl) (hdb : (cn == ("__debug__" : Str)) = false := by decide)
    (he : starEach (e :: es) X.env = (false, eval e X.env) :: starEach es X.env := by rfl) (hpl : (backTo pos (starEach es X.env)).any (·.1) = false := by rfl) : EM X F (.Call (.Name cn p) (e :: es) [] pos) (mMake cn n mf ma) := by
  obtain ⟨C, f, fd, ps, c1, c2, fo, hm, hb⟩ := c.ex
  refine PE.imp (pe_make c2 fo hr hg hm hb .nil pass0 ha hdb he hpl) ?_
  rw [← hK]
  exact i_make (by rw [hK]; exact c1)
end
def iniI (cn : Str) (es : List D) : Rho := .ob (.ins cn [] []) :: es.map .fz
def outI (cn : Str) : R Rho → R (List Str × List D)
  | .ok (.ob (.ins c ns ds) :: _) => if c = cn then .ok (ns, ds) else .bad
  | _ => .bad
theorem rel_startI {K : PySem.W.Frag} {G H : Hp} {EX : Str → Hp → Prop} {cn : Str} {C dx x : Addr} {es : List D} {ws : List V} (hC : ClsN K cn C) (h1 : H x = some (.ins C dx [])) (h2 : G x = none) (s : Sub G H) (av : AtL K G es ws) :
    Rel ⟨K, G, del H x, EX⟩ G H (some (.ref x) :: ws.map some) (iniI cn es) := by
  refine ⟨⟨s, Sub.refl _, del_sub H x, fun _ _ => rfl⟩, by simp [iniI, av.length], fun i t e => ?_, fun i j b fs fs' o o' z1 z2 _ _ f f' => ?_⟩
  · cases i with
    | zero =>
      simp [iniI] at e; subst e
      exact ⟨some (.ref x), by simp, x, _, rfl, h1, h2, del_same, C, dx, [], hC, rfl, rfl, .nil⟩
    | succ i =>
      simp only [iniI, List.getElem?_cons_succ] at e ⊢
      rw [List.getElem?_map] at e
      cases ed : es[i]? with
      | none => rw [ed] at e; cases e
      | some d =>
        rw [ed] at e; cases e
        obtain ⟨v, e1, a⟩ := av.get ed
        exact ⟨some v, by rw [List.getElem?_map, e1]; rfl, v, rfl, a⟩
  · have one : ∀ {i : Nat} {fs : Sl} {o : Option V}, (iniI cn es)[i]? = some fs → Foot H fs o b → i = 0 := fun {i fs o} e f => by
      cases i with
      | zero => rfl
      | succ i =>
        simp only [iniI, List.getElem?_cons_succ, List.getElem?_map] at e
        cases ed : es[i]? with
        | none => rw [ed] at e; cases e
        | some d => rw [ed] at e; cases e; exact f.elim
    rw [one z1 f, one z2 f']
theorem init_run {K : PySem.W.Frag} {cn : Str} {n : Nat} {m : MN} {vs : List V} {H : Hp} {Q : VK} {E : XK} (h : spI K cn n (fun es => outI cn (m (iniI cn es))) vs H Q E) :
    ∃ G H0, tN (fxB K G H0) m { nx := fun _ H' => Q .non H', rt := Q } (vs.map some) H := by
  obtain ⟨G, x, C, dx, es, ws, rfl, hC, h1, h2, s, av, l, k⟩ := h
  refine ⟨G, del H x, G, iniI cn es, rel_startI hC h1 h2 s av, ?_⟩
  replace k : kCI ⟨K, G, del H x, fun _ _ => False⟩ x C Q (outI cn (m (iniI cn es))) := k
  cases em : m (iniI cn es) with
  | bad => rw [em] at k; exact k.elim
  | exc c => rw [em] at k; exact k.elim
  | ok ρ' =>
    rw [em] at k
    intro G' H' r
    unfold outI at k
    split at k
    · rename_i cn' ns ds tl heq
      cases heq
      obtain ⟨a, ho, e1, g1, g2, g3, C', dx', xs, c1, rfl, e2, al⟩ := r.obj (i := 0) rfl
      have e1 : some (some (V.ref x)) = some (some (V.ref a)) := e1
      cases e1
      split at k
      · rename_i hc
        subst hc
        have := c1.inj hC
        subst this
        exact k dx' xs G' H' r.kp g2 g1 e2 al
      · exact k.elim
    · exact k.elim
end L3
set_option Elab.async false
set_option linter.all false
set_option maxRecDepth 100000
namespace L3
open PySem PySem.Spec L2 PyProof.Rows
theorem spI_len {K : PySem.W.Frag} {cn : Str} {n : Nat} {mf : List D → R (List Str × List D)} : ∀ vs H Q E, spI K cn n mf vs H Q E → vs.length = n + 1 := fun vs H Q E h => by
  obtain ⟨G, x, C, dx, es, ws, rfl, _, _, _, _, q, l, _⟩ := h
  rw [List.length_cons, ← q.length, l]
theorem start_full {N : List Str} {vs : List V} (h : vs.length = N.length) : L2.start N vs = vs.map some := by
  unfold L2.start
  simp [h]
theorem i_okI {P : Program} {w : World} {K : PySem.W.Frag} {mg : Str → Option Value} {base : Heap} {x qual cn p0 : Str} {st : Stmt} {ps : List Str} {k : Nat} {m : MN} {f : Addr} {fd : FuncData} (fn : Fun K x qual st f fd) (S : FnScope (p0 :: ps) (p0 :: ps) (defScope st))
    (h : ∀ (f : Addr) (cdv : Value) (A : Around) (outer : List Env) (s : Shared) (H : Hp) (E : XK), Room k (A.deeper (PyProof.Rows.envOfC qual (defScope st) s.heap.objs.size f cdv)) → ∀ G0 H0, PSs (cxOf CX0 P w K mg base (p0 :: ps) qual (defScope st) f cdv A outer s H E).nox (defBody st) (tN (fxB K G0 H0) m)) :
    FnOk P w K mg base CX0 (k + 1) f fd (p0 :: ps) (spI K cn ps.length fun es => outI cn (m (iniI cn es))) := fn.ok S spI_len fun cdv A outer s H vs Q E hr hs => by
  have hl := spI_len vs H Q E hs
  obtain ⟨G, H0, ht⟩ := init_run hs
  refine ⟨_, h f cdv A outer s H E hr G H0, ?_⟩
  rw [start_full (by simpa using hl)]
  exact ht
section
variable {X : Cx} {F : Fx} {e a b c : Expr} {es : List Expr} {pos p : Pos} {m n : ME} {ma : MA}
def tupleD : List D → R D
  | [.lst xs] => .ok (.tup xs)
  | [.scr xs] => .ok (.tup xs)
  | [.tup xs] => .ok (.tup xs)
  | _ => .bad
theorem ok_tuple (hK : F.K = X.K) : CallOk F (fun xs H Q => ∃ p ys, xs = [.ref p] ∧ ((SqL X.K H p ys ∧ ∀ l, H l = none → Q (.ref l) (upd H l (.tup ys))) ∨ (SqT X.K H p ys ∧ Q (.ref p) H))) tupleD := by
  intro σ ρ G H xs ds Q r al k
  unfold tupleD at k
  split at k
  · obtain ⟨v, rfl, av⟩ := al.one
    simp only [At] at av
    obtain ⟨q, ys, rfl, hq, aq⟩ := av
    refine ⟨q, ys, rfl, .inl ⟨SqL.of (r.kp.sub _ _ hq), fun l hl => ?_⟩⟩
    refine k (.ref l) _ _ (r.lay hl) (Up.lay r.kp.sub hl) ?_
    simp only [At]
    exact ⟨l, ys, rfl, upd_same, aq.mono (Sub.upd (r.kp.sub.gone hl))⟩
  · obtain ⟨v, rfl, av⟩ := al.one
    simp only [At] at av
    obtain ⟨q, ys, rfl, hq, aq⟩ := av
    refine ⟨q, ys, rfl, .inl ⟨by rw [← hK]; exact SqL.mono r.kp.sub hq, fun l hl => ?_⟩⟩
    refine k (.ref l) _ _ (r.lay hl) (Up.lay r.kp.sub hl) ?_
    simp only [At]
    exact ⟨l, ys, rfl, upd_same, aq.mono (Sub.upd (r.kp.sub.gone hl))⟩
  · obtain ⟨v, rfl, av⟩ := al.one
    have av' := av
    simp only [At] at av
    obtain ⟨q, ys, rfl, hq, aq⟩ := av
    exact ⟨q, ys, rfl, .inr ⟨SqT.of (r.kp.sub _ _ hq), k _ H G r (Up.refl _ _) av'⟩⟩
  · exact k.elim
theorem e_tuple (hm : X.mg "tuple" = none) (ha : AM X F [e] ma) (hK : F.K = X.K := by rfl) (hg : Gl X "tuple" := by rfl) (he : starEach [e] X.env = (false, eval e X.env) :: starEach [] X.env := by rfl) (hpl : (backTo pos (starEach [] X.env)).any (·.1) = false := by rfl) :
    EM X F (.Call (.Name "tuple" p) [e] [] pos) (mCB tupleD ma) := e_callT call_tuple_of (ok_tuple hK) hm (by kernel_rfl) ha hg (by decide) (by decide) he hpl
end
end L3
set_option Elab.async false
set_option linter.all false
set_option maxRecDepth 100000
namespace HT
open PySem PyProof.Rows
section
variable {prog : Program} {w : World} {A : Around} {E : Value → Shared → Prop} {s : Shared}
end
end HT
namespace L2
open PySem PySem.Spec PyProof.Rows
variable {X : Cx}
end L2
namespace L3
open PySem PySem.Spec L2 PyProof.Rows
section
variable {X : Cx} {F : Fx} {e a b c : Expr} {es : List Expr} {pos p : Pos} {m n : ME} {ma : MA}
instance (i j : Int) : Decidable (IntMulOk i j) := by unfold IntMulOk; infer_instance
end
end L3
set_option Elab.async false
set_option linter.all false
set_option maxRecDepth 100000
namespace L3
open PySem PySem.Spec L2 PyProof.Rows
section
variable {X : Cx} {F : Fx} {e a b c : Expr} {es : List Expr} {pos p : Pos} {m n : ME} {ma : MA}
def mCatV (i : Nat) (m : ME) : MA := fun ρ => (ownAt i ρ).bind fun ds => (m ρ).bind fun d => match d with
  | .lst es => if ds.length + es.length ≤ 1000000 then .ok (ds ++ es) else .bad
  | _ => .bad
theorem o_catV (i : Nat) {x : Str} {px : Pos} (hb : EM X F b m) (hN : X.N[i]? = some x := by rfl) (hv : Vis X.env.scope x := by first | exact Or.inl rfl | exact Or.inr (Or.inl rfl) | exact Or.inr (Or.inr rfl)) (hd : (x == ("__debug__" : Str)) = false := by decide) (hcd : (x == ("__classdict__" : Str)) = false := by decide) :
    EO X F (.BinOp (.Name x px) .Add b pos) (mCatV i m) := by
  refine PE.imp (pe_op op_cat (pe_var hN hv hd hcd) hb) ?_
  rintro σ H Q ⟨G, ρ, r, h⟩
  unfold mCatV ownAt at h
  cases er : ρ[i]? with
  | none => rw [er] at h; exact h.elim
  | some s =>
    rw [er] at h
    cases s with
    | un => exact h.elim
    | fz _ => exact h.elim
    | tr _ => exact h.elim
    | ob ob =>
     cases ob with
     | dT _ _ => exact h.elim
     | ins _ _ _ => exact h.elim
     | lst ds =>
      obtain ⟨q, xs, e1, h1, h2, h3, h4⟩ := r.own er
      rw [R.bind_ok] at h
      refine ⟨.ref q, e1, G, ρ, r, ?_⟩
      cases ea : m ρ with
      | bad => rw [ea] at h; exact h.elim
      | exc c => rw [ea] at h; exact h
      | ok d =>
        rw [ea, R.bind_ok] at h
        intro v H1 G1 r1 s1 av
        obtain ⟨q', xs', e1', h1', h2', h3', h4'⟩ := r1.own er
        rw [e1] at e1'
        cases e1'
        cases d with
        | lst es =>
          simp only at h
          split at h
          · rename_i hl
            simp only [At] at av
            obtain ⟨p2, ys, rfl, g2, q2⟩ := av
            refine ⟨q, p2, xs', ys, rfl, rfl, h1', r1.kp.sub _ _ g2, by rw [← h4'.length, ← q2.length]; exact Nat.le_trans hl (by decide), fun l hn => ?_⟩
            exact h l (xs' ++ ys) _ G1 (r1.lay0 hn) (s1.trans (Up.lay0 hn)) (s1.h.gone hn) upd_same (r1.kp.sub.gone hn) (h4'.append q2)
          · exact h.elim
        | _ => exact h.elim
end
end L3
set_option Elab.async false
set_option linter.all false
set_option maxRecDepth 100000
namespace L3
open PySem PySem.Spec L2
section
variable {X : Cx} {F : Fx} {e a b c o tg iter elt : Expr} {es : List Expr} {pos p : Pos} {m n : ME} {ma : MA} {st : Stmt} {sts : List Stmt}
theorem xe_fld {cn f : Str} {fs : List Str} (k : ClF X.K cn fs) (he : XEM X F o m) (hf : f ∈ fs := by decide +kernel) (hK : F.K = X.K := by rfl) (hb : attributeBase o f X.env (eval o X.env) = eval o X.env := by rfl) : XEM X F (.Attribute o f pos) (mUn (fldD cn f) m) := ⟨L3.e_fld (k := k) (he := he.1) (hf := hf) (hK := hK) (hb := hb)⟩
theorem xt_din (hu : X.A.units + 64 < cLine) (ha : XEM X F a m) (hb : XEM X F b n) (h1 : behindInMarks .In b = false := by with_unfolding_all rfl) : XTM X F (.Compare a [.In] [b] pos) (mB (mBin (dinD true) m n)) := ⟨L3.t_din (hu := hu) (ha := ha.1) (hb := hb.1) (h1 := h1)⟩
theorem xs_setD (i : Nat) {x : Str} {p q : Pos} (hN : X.N.Nodup) (hi : X.N[i]? = some x := by rfl) (hx : Loc X.env.scope x := by first | exact Or.inl rfl | exact Or.inr rfl) (hf : X.fn x = true ∨ X.env.scope.names.lookup x = some .local := by first | exact .inl rfl | exact .inr rfl) : XSM X F (.Assign [.Name x p] (.Dict [] [] q) pos) (mSetD i) := ⟨L3.s_setD (i := i) (hN := hN) (hi := hi) (hx := hx) (hf := hf)⟩
theorem xs_dput (i : Nat) {x : Str} {px pos' : Pos} {k v : Expr} {mk mv : ME} (hu : X.A.units + 64 < cLine) (hk : XEM X F k mk) (hv : XEM X F v mv) (hN : X.N[i]? = some x := by rfl) (hvs : Vis X.env.scope x := by first | exact Or.inl rfl | exact Or.inr (Or.inl rfl) | exact Or.inr (Or.inr rfl)) (hd : (x == ("__debug__" : Str)) = false := by decide) (hcd : (x == ("__classdict__" : Str)) = false := by decide) (hs : notComp v = true := by rfl) : XSM X F (.Assign [.Subscript (.Name x px) k pos'] v pos) (mDPut i mk mv) := ⟨L3.s_dput (i := i) (hu := hu) (hk := hk.1) (hv := hv.1) (hN := hN) (hvs := hvs) (hd := hd) (hcd := hcd) (hs := hs)⟩
theorem xs_retZ (h : XEM X F e m) : XSM X F (.Return (some e) pos) (mRetZ m) := ⟨L3.s_retZ (h := h.1)⟩
theorem xs_bad {st : Stmt} : XSM X F st mBad := ⟨L3.s_bad ⟩
theorem xe_borI (h : XEM X F e m) : XEM X F e (mBorI m) := ⟨L3.e_borI (h := h.1)⟩
theorem xe_make {cn : Str} {n k : Nat} {mf : List D → R (List Str × List D)} (c : KnI X.prog X.w X.K X.mg X.base cn n k mf) (hr : Room (k + 1) X.A) (ha : XAM X F (e :: es) ma) (hK : F.K = X.K := by rfl) (hg : Gl X cn := by rfl) (hdb : (cn == ("__debug__" : Str)) = false := by decide) (he : starEach (e :: es) X.env = (false, eval e X.env) :: starEach es X.env := by rfl) (hpl : (backTo pos (starEach es X.env)).any (·.1) = false := by rfl) : XEM X F (.Call (.Name cn p) (e :: es) [] pos) (mMake cn n mf ma) := ⟨L3.e_make (c := c) (hr := hr) (ha := ha.1) (hK := hK) (hg := hg) (hdb := hdb) (he := he) (hpl := hpl)⟩
theorem xe_tuple (hm : X.mg "tuple" = none) (ha : XAM X F [e] ma) (hK : F.K = X.K := by rfl) (hg : Gl X "tuple" := by rfl) (he : starEach [e] X.env = (false, eval e X.env) :: starEach [] X.env := by rfl) (hpl : (backTo pos (starEach [] X.env)).any (·.1) = false := by rfl) : XEM X F (.Call (.Name "tuple" p) [e] [] pos) (mCB tupleD ma) := ⟨L3.e_tuple (hm := hm) (ha := ha.1) (hK := hK) (hg := hg) (he := he) (hpl := hpl)⟩
theorem xo_catV (i : Nat) {x : Str} {px : Pos} (hb : XEM X F b m) (hN : X.N[i]? = some x := by rfl) (hv : Vis X.env.scope x := by first | exact Or.inl rfl | exact Or.inr (Or.inl rfl) | exact Or.inr (Or.inr rfl)) (hd : (x == ("__debug__" : Str)) = false := by decide) (hcd : (x == ("__classdict__" : Str)) = false := by decide) : XEO X F (.BinOp (.Name x px) .Add b pos) (mCatV i m) := ⟨L3.o_catV (i := i) (hb := hb.1) (hN := hN) (hv := hv) (hd := hd) (hcd := hcd)⟩
structure XNM (X : Cx) (F : Fx) (st : Stmt) (m : MN) : Prop where
  o : PS X st (tN F m)
structure XNB (X : Cx) (F : Fx) (st : List Stmt) (m : MN) : Prop where
  o : PSs X st (tN F m)
theorem xn_one {m : MN} (h : XNM X F st m) : XNB X F [st] m := ⟨pss_one h.1⟩
theorem xn_cons {a b : MN} (h : XNM X F st a) (k : XNB X F sts b) : XNB X F (st :: sts) (mThen a b) := ⟨PSs.imp (pss_cons h.1 k.1) i_then⟩
theorem xn_guard {c : Expr} {r : Stmt} {k : MT} (h : XTM X F c k) : XNM X F (.If c [r] [] pos) (mGuard k) := ⟨PS.imp (ps_if h.1 (pss_one ps_never) pss_nil) i_guard⟩
theorem xn_fld {cn f x : Str} {fs : List Str} {px pos' : Pos} (k : ClF X.K cn fs) (he : XEM X F e m) (hf : f ∈ fs := by decide +kernel) (hN : X.N[0]? = some x := by rfl) (hv : Vis X.env.scope x := by first | exact Or.inl rfl | exact Or.inr (Or.inl rfl) | exact Or.inr (Or.inr rfl)) (hd : (x == ("__debug__" : Str)) = false := by decide) (hcd : (x == ("__classdict__" : Str)) = false := by decide) (hs : notComp e = true := by rfl) (hK : F.K = X.K := by rfl) :
    XNM X F (.Assign [.Attribute (.Name x px) f pos'] e pos) (mFldSet cn f m) := ⟨L3.s_fldset k he.1 hf hN hv hd hcd hs hK⟩
end
structure InK (K : PySem.W.Frag) (mg : Str → Option Value) (cn qual : Str) (st : Stmt) (ps : List Str) : Prop where
  ex : ∃ (C f : Addr) (fd : FuncData), ClsN K cn C ∧ Mk K C f ∧ Fun K "__init__" qual st f fd ∧ mg cn = some (.ref C) ∧ Binds K fd ps []
theorem xi_ok {P : Program} {w : World} {K : PySem.W.Frag} {mg : Str → Option Value} {base : Heap} {qual cn p0 : Str} {st : Stmt} {ps : List Str} {k : Nat} {m : MN} (d : InK K mg cn qual st (p0 :: ps)) (S : FnScope (p0 :: ps) (p0 :: ps) (defScope st))
    (h : ∀ (f : Addr) (cdv : Value) (A : Around) (outer : List Env) (s : Shared) (H : Hp) (E : XK), Room k (A.deeper (PyProof.Rows.envOfC qual (defScope st) s.heap.objs.size f cdv)) → ∀ G0 H0, XNB (cxOf CX0 P w K mg base (p0 :: ps) qual (defScope st) f cdv A outer s H E).nox (fxB K G0 H0) (defBody st) m) :
    KnI P w K mg base cn ps.length (k + 1) (fun es => outI cn (m (iniI cn es))) := by
  obtain ⟨C, f, fd, h1, h2, h3, h4, h5⟩ := d.ex
  exact ⟨C, f, fd, p0 :: ps, h1, h2, i_okI h3 S fun f cdv A outer s H E hr G0 H0 => (h f cdv A outer s H E hr G0 H0).1, h4, h5⟩
end L3
set_option Elab.async false
set_option linter.all false
set_option maxRecDepth 100000
namespace L3
open PySem PySem.Spec L2 PyProof.Rows
section
variable {K : PySem.W.Frag} {G G' H H' : Hp}
theorem TAtL.length : ∀ {ts : List T} {vs : List V}, TAtL K G H ts vs → ts.length = vs.length
  | [], _, h => by simp only [TAtL] at h; subst h; rfl
  | _ :: _, _, h => by
    simp only [TAtL] at h
    obtain ⟨v, r, rfl, _, t⟩ := h
    simp [TAtL.length t]
end
section
variable {F : Fx} {G H : Hp} {σ : L2.St} {ρ : Rho}
end
section
variable {X : Cx} {F : Fx} {e a b c tg iter elt : Expr} {es : List Expr} {pos p : Pos} {m n : ME} {ma : MA}
end
end L3
set_option Elab.async false
set_option linter.all false
set_option maxRecDepth 100000
namespace L3
open PySem PySem.Spec L2
section
variable {F : Fx}
end
section
variable {X : Cx} {F : Fx} {e a b c tg iter elt : Expr} {es : List Expr} {pos p : Pos} {m n : ME} {ma : MA} {scope : Scope} {N : List Str}
end
end L3
set_option Elab.async false
set_option linter.all false
set_option maxRecDepth 100000
namespace L3
open PySem PySem.Spec L2
section
variable {F : Fx}
end
section
variable {X : Cx} {F : Fx} {e a b c o : Expr} {es : List Expr} {pos p : Pos} {m n : ME} {ma : MA}
end
end L3
set_option Elab.async false
set_option linter.all false
set_option maxRecDepth 100000
namespace L3
open PySem PySem.Spec L2
section
variable {K : PySem.W.Frag} {G0 H0 : Hp} {E : XK}
end
section
variable {X : Cx} {e c : Expr} {es : List Expr} {st : Stmt} {pos p : Pos} {K : PySem.W.Frag} {G0 H0 : Hp} {E : XK} {mt : MT} {ms : MS} {ma : MA}
end
section
variable {P : Program} {w : World} {K : PySem.W.Frag} {mg : Str → Option Value} {base : Heap} {N : List Str} {qual : Str} {scope : Scope} {f : Addr} {cd : Value} {A : Around} {outer : List Env} {s0 : Shared} {Ha : Hp} {E : XK} {G0 H0 : Hp}
end
section
variable {X : Cx} {F : Fx} {e : Expr} {es : List Expr} {pos p : Pos} {ma : MA}
end
end L3
set_option Elab.async false
set_option linter.all false
set_option maxRecDepth 100000
namespace L2
open PySem PySem.Spec PySem.Calls PyProof.Rows PySem.W PySem.Builtin PySem.Builtin.ObjectAttr PySem.Builtin.Getset_descriptor
section
variable {prog : Program} {w : World} {A : Around} {E : Value → Shared → Prop} {s : Shared} {K : Frag} {a D : Addr}
end
end L2
namespace L3
open PySem PySem.Spec L2
section
variable {X : Cx} {F : Fx} {a : Expr} {pos p : Pos} {m : ME}
end
end L3
set_option Elab.async false
set_option linter.all false
set_option maxRecDepth 100000
namespace L3
open PySem PySem.Spec L2
def repD : D → D → R D
  | .lst xs, .int k => if 0 ≤ k ∧ k ≤ 1000 ∧ xs.length ≤ 100 then .ok (.lst (List.replicate k.toNat xs).flatten) else .bad
  | _, _ => .bad
theorem AtL.rep {K : PySem.W.Frag} {G : Hp} {ds : List D} {xs : List V} (q : AtL K G ds xs) : ∀ n : Nat, AtL K G (List.replicate n ds).flatten (List.replicate n xs).flatten
  | 0 => by simpa using AtL.nil
  | n + 1 => by
    rw [List.replicate_succ, List.replicate_succ, List.flatten_cons, List.flatten_cons]
    exact q.append (AtL.rep q n)
section
variable {X : Cx} {F : Fx} {a b : Expr} {pos p : Pos} {m n : ME}
theorem ok_rep : OpOk F rRep repD := by
  intro σ ρ G H x y dx dy Q r ax ay k
  unfold repD at k
  split at k
  · rename_i xs j
    split at k
    · rename_i hc
      simp only [At] at ax ay
      obtain ⟨l, vs, rfl, hl, al⟩ := ax
      refine ⟨l, j, vs, rfl, ay, r.kp.sub _ _ hl, by omega, by omega, ?_, fun q hq => ?_⟩
      · rw [← al.length]
        have h1 : j.toNat ≤ 1000 := by omega
        exact Nat.le_trans (Nat.mul_le_mul hc.2.2 h1) (by decide)
      · refine k (.ref q) _ _ (r.lay hq) (Up.lay r.kp.sub hq) ?_
        simp only [At]
        exact ⟨q, _, rfl, upd_same, (al.mono (Sub.upd (r.kp.sub.gone hq))).rep j.toNat⟩
    · exact k.elim
  · exact k.elim
theorem xe_rep (ha : XEM X F a m) (hb : XEM X F b n) : XEM X F (.BinOp a .Mult b pos) (mBin repD m n) := ⟨e_bin op_rep ok_rep ha.1 hb.1⟩
end
end L3
set_option linter.all false
set_option autoImplicit false
namespace LS
open PySem PySem.SetTable
theorem below_go (xs : Array Nat) (j : Nat) (hs : xs.toList.Pairwise (· < ·)) : ∀ fuel lo hi, hi ≤ lo + fuel → lo ≤ hi → hi ≤ xs.size → (∀ k, k < lo → xs.getD k j < j) → (∀ k, hi ≤ k → k < xs.size → j ≤ xs.getD k j) →
    below.go xs j fuel lo hi ≤ xs.size ∧ (∀ k, k < below.go xs j fuel lo hi → xs.getD k j < j) ∧ (∀ k, below.go xs j fuel lo hi ≤ k → k < xs.size → j ≤ xs.getD k j)
  | 0, lo, hi, h1, h2, h3, h4, h5 => by
    have e : lo = hi := by omega
    subst e
    exact ⟨h3, h4, h5⟩
  | fuel + 1, lo, hi, h1, h2, h3, h4, h5 => by
    have mono : ∀ a b, a ≤ b → b < xs.size → xs.getD a j ≤ xs.getD b j := by
      intro a b hab hb
      rcases Nat.eq_or_lt_of_le hab with rfl | hab
      · exact Nat.le_refl _
      have := List.pairwise_iff_getElem.mp hs a b (by simp; omega) (by simpa using hb) hab
      simp only [Array.getElem_toList] at this
      rw [Array.getD_eq_getD_getElem?, Array.getD_eq_getD_getElem?, Array.getElem?_eq_getElem (by omega), Array.getElem?_eq_getElem hb]
      exact Nat.le_of_lt this
    unfold below.go
    by_cases h : lo < hi
    · rw [if_pos h]
      dsimp only
      by_cases q : xs.getD ((lo + hi) / 2) j < j
      · rw [if_pos q]
        refine below_go xs j hs fuel _ hi (by omega) (by omega) h3 (fun k hk => ?_) h5
        exact Nat.lt_of_le_of_lt (mono k ((lo + hi) / 2) (by omega) (by omega)) q
      · rw [if_neg q]
        refine below_go xs j hs fuel lo _ (by omega) (by omega) (by omega) h4 fun k hk hs' => ?_
        exact Nat.le_trans (Nat.not_lt.mp q) (mono _ k hk hs')
    · rw [if_neg h]
      have e : lo = hi := by omega
      subst e
      exact ⟨h3, h4, h5⟩
theorem below_spec {xs : Array Nat} (hs : xs.toList.Pairwise (· < ·)) (j : Nat) : below xs j ≤ xs.size ∧ (∀ y ∈ xs.toList.take (below xs j), y < j) ∧ (∀ y ∈ xs.toList.drop (below xs j), j ≤ y) := by
  obtain ⟨a, b, c⟩ := below_go xs j hs xs.size 0 xs.size (by omega) (by omega) (Nat.le_refl _) (fun k hk => absurd hk (Nat.not_lt_zero _)) (fun k h1 h2 => absurd h2 (by omega))
  refine ⟨a, fun y hy => ?_, fun y hy => ?_⟩
  · obtain ⟨k, hk, rfl⟩ := List.getElem_of_mem hy
    have hk' : k < below xs j ∧ k < xs.size := by simpa [List.length_take, Nat.lt_min] using hk
    have := b k hk'.1
    rw [Array.getD_eq_getD_getElem?, Array.getElem?_eq_getElem hk'.2] at this
    simpa using this
  · obtain ⟨k, hk, rfl⟩ := List.getElem_of_mem hy
    have hk' : below xs j + k < xs.size := by simp at hk; omega
    have := c (below xs j + k) (Nat.le_add_right _ _) hk'
    rw [Array.getD_eq_getD_getElem?, Array.getElem?_eq_getElem hk'] at this
    simpa using this
theorem insertAt_list {α : Type} (xs : Array α) (p : Nat) (x : α) : (insertAt xs p x).toList = xs.toList.take p ++ x :: xs.toList.drop p := by
  unfold insertAt
  simp [Array.toList_extract, List.extract_eq_take_drop]
  exact List.take_of_length_le (by simp)
structure Tab (t : SetTable) (n : Nat) : Prop where
  dum : t.dummies = #[]
  siz : t.place.size = n
  ris : t.place.toList.Pairwise (· < ·)
  le : ∀ j ∈ t.place.toList, j ≤ t.mask
theorem slot_of {t : SetTable} {n : Nat} (T : Tab t n) (j : Nat) : (∃ i, t.slot j = .live i ∧ t.place.toList[i]? = some j) ∨ (t.slot j = .empty ∧ j ∉ t.place.toList) := by
  obtain ⟨a, b, c⟩ := below_spec T.ris j
  unfold slot
  dsimp only
  by_cases h : t.place[below t.place j]? = some j
  · left
    refine ⟨below t.place j, ?_, by simpa using h⟩
    rw [h]; simp
  · right
    constructor
    · have : (t.place[below t.place j]? == some j) = false := by simpa using h
      rw [this, T.dum]
      simp [has]
    · intro m
      have m' := m
      rw [← List.take_append_drop (below t.place j) t.place.toList] at m'
      rcases List.mem_append.mp m' with m' | m'
      · exact absurd (b j m') (Nat.lt_irrefl _)
      · cases hd : t.place.toList.drop (below t.place j) with
        | nil => rw [hd] at m'; cases m'
        | cons y r =>
          have hy : t.place[below t.place j]? = some y := by
            have : (t.place.toList.drop (below t.place j))[0]? = some y := by rw [hd]; rfl
            rw [List.getElem?_drop] at this
            simpa using this
          have hr := T.ris
          rw [← List.take_append_drop (below t.place j) t.place.toList, hd] at hr
          have hr := (List.pairwise_append.mp hr).2.1
          rw [hd] at m'
          rcases List.mem_cons.mp m' with rfl | m'
          · exact h hy
          · have h1 := (List.pairwise_cons.mp hr).1 j m'
            have h2 := c y (by rw [hd]; simp)
            omega
theorem slot_live {t : SetTable} {n : Nat} (T : Tab t n) {j : Nat} (m : j ∈ t.place.toList) : ∃ i, t.slot j = .live i ∧ t.place.toList[i]? = some j := by
  rcases slot_of T j with h | h
  · exact h
  · exact absurd m h.2
theorem slot_empty {t : SetTable} {n : Nat} (T : Tab t n) {j : Nat} (m : j ∉ t.place.toList) : t.slot j = .empty := by
  rcases slot_of T j with ⟨i, h, e⟩ | h
  · exact absurd (List.mem_of_getElem? e) m
  · exact h.1
theorem put_spec {t : SetTable} {n : Nat} (T : Tab t n) {j : Nat} (m : j ∉ t.place.toList) (hj : j ≤ t.mask) : ∃ p, (t.put j).2 = p ∧ p ≤ n ∧ Tab (t.put j).1 (n + 1) ∧ (t.put j).1.place.toList = t.place.toList.take p ++ j :: t.place.toList.drop p ∧ (t.put j).1 = { t with place := (t.put j).1.place } := by
  obtain ⟨a, b, c⟩ := below_spec T.ris j
  have e : (t.put j).1.place.toList = t.place.toList.take (below t.place j) ++ j :: t.place.toList.drop (below t.place j) := by
    unfold put; exact insertAt_list _ _ _
  have ed : (t.put j).1.dummies = #[] := by unfold put; simp [has, T.dum]
  have em : (t.put j).1.mask = t.mask := rfl
  refine ⟨below t.place j, rfl, T.siz ▸ a, ⟨ed, ?_, ?_, ?_⟩, e, ?_⟩
  · have : (t.put j).1.place.toList.length = n + 1 := by
      rw [e, List.length_append, List.length_cons, List.length_take, List.length_drop]
      have := T.siz
      simp only [Array.length_toList]
      omega
    simpa using this
  · rw [e]
    have hr := T.ris
    rw [← List.take_append_drop (below t.place j) t.place.toList] at hr
    obtain ⟨r1, r2, r3⟩ := List.pairwise_append.mp hr
    refine List.pairwise_append.mpr ⟨r1, List.pairwise_cons.mpr ⟨fun y hy => ?_, r2⟩, fun x hx y hy => ?_⟩
    · rcases Nat.eq_or_lt_of_le (c y hy) with q | q
      · exact absurd (q ▸ List.mem_of_mem_drop hy) m
      · exact q
    · rcases List.mem_cons.mp hy with rfl | hy
      · exact b x hx
      · exact r3 x hx y hy
  · intro y hy
    rw [em]
    rw [e] at hy
    rcases List.mem_append.mp hy with hy | hy
    · exact T.le y (List.mem_of_mem_take hy)
    · rcases List.mem_cons.mp hy with rfl | hy
      · exact hj
      · exact T.le y (List.mem_of_mem_drop hy)
  · have ed' : (t.put j).1.dummies = t.dummies := ed.trans T.dum.symm
    show (t.put j).1 = _
    have : (t.put j).1 = { t with place := (t.put j).1.place, dummies := (t.put j).1.dummies } := rfl
    rw [this, ed']
end LS
set_option linter.all false
set_option autoImplicit false
namespace LS
open PySem PySem.SetTable
def adv (mask : Nat) (p : Probe) : Probe :=
  if p.more > 0 then { p with j := p.j + 1, more := p.more - 1 } else
  { p with j := (leap mask p.i p.perturb).1, more := runEnd mask (leap mask p.i p.perturb).1 - (leap mask p.i p.perturb).1, i := (leap mask p.i p.perturb).1, perturb := (leap mask p.i p.perturb).2 }
theorem advance_eq (t : SetTable) (p : Probe) : t.advance p = adv t.mask p := rfl
def pst (mask : Nat) (i q : Nat) : Probe := { j := i, more := runEnd mask i - i, i, perturb := q, dummy := none }
def pth (mask : Nat) (h : Int) : Nat → Probe
  | 0 => pst mask (bits h % (mask + 1)) (bits h)
  | n + 1 => adv mask (pth mask h n)
def lp (mask : Nat) (h : Int) : Nat → Nat × Nat
  | 0 => (bits h % (mask + 1), bits h)
  | n + 1 => leap mask (lp mask h n).1 (lp mask h n).2
def rn (mask i : Nat) : Nat := runEnd mask i - i
def sg (mask : Nat) (h : Int) : Nat → Nat
  | 0 => 0
  | n + 1 => sg mask h n + rn mask (lp mask h n).1 + 1
theorem rn_le (mask i : Nat) : rn mask i ≤ 9 := by unfold rn runEnd; split <;> omega
theorem runEnd_ge (mask i : Nat) : i ≤ runEnd mask i := by unfold runEnd; split <;> omega
theorem sg_le (mask : Nat) (h : Int) : ∀ n, sg mask h n ≤ 10 * n
  | 0 => Nat.le_refl _
  | n + 1 => by
    have := sg_le mask h n
    have := rn_le mask (lp mask h n).1
    unfold sg; omega
theorem adv_in {mask i q r : Nat} (hr : r < rn mask i) : adv mask { j := i + r, more := rn mask i - r, i := i, perturb := q, dummy := none } = { j := i + (r + 1), more := rn mask i - (r + 1), i := i, perturb := q, dummy := none } := by
  unfold adv
  rw [if_pos (by show rn mask i - r > 0; omega)]
  simp only [Probe.mk.injEq]
  refine ⟨by omega, by omega, trivial, trivial, trivial⟩
theorem adv_out {mask i q : Nat} : adv mask { j := i + rn mask i, more := rn mask i - rn mask i, i := i, perturb := q, dummy := none } = pst mask (leap mask i q).1 (leap mask i q).2 := by
  unfold adv
  rw [if_neg (by show ¬ (rn mask i - rn mask i > 0); omega)]
  rfl
theorem pth_in (mask : Nat) (h : Int) : ∀ L r, r ≤ rn mask (lp mask h L).1 → pth mask h (sg mask h L + r) = { j := (lp mask h L).1 + r, more := rn mask (lp mask h L).1 - r, i := (lp mask h L).1, perturb := (lp mask h L).2, dummy := none }
  | 0, 0, _ => rfl
  | L, r + 1, hr => by
    have := pth_in mask h L r (by omega)
    show adv mask (pth mask h (sg mask h L + r)) = _
    rw [this]; exact adv_in (by omega)
  | L + 1, 0, _ => by
    have := pth_in mask h L (rn mask (lp mask h L).1) (Nat.le_refl _)
    show adv mask (pth mask h (sg mask h L + rn mask (lp mask h L).1)) = _
    rw [this, adv_out]; rfl
theorem bits_lt (h : Int) : bits h < 2 ^ 64 := by
  unfold bits
  have := Int.emod_lt_of_pos h (b := 2 ^ 64) (by decide)
  have := Int.emod_nonneg h (b := 2 ^ 64) (by decide)
  omega
theorem lp_snd (mask : Nat) (h : Int) : ∀ n, (lp mask h n).2 = bits h / 32 ^ n
  | 0 => by simp [lp]
  | n + 1 => by
    show (lp mask h n).2 / 32 = _
    rw [lp_snd mask h n, Nat.div_div_eq_div_mul, Nat.pow_succ]
theorem lp_far (mask : Nat) (h : Int) (n : Nat) (hn : 13 ≤ n) : (lp mask h n).2 = 0 := by
  rw [lp_snd]
  apply Nat.div_eq_of_lt
  have h1 := bits_lt h
  have h2 : 32 ^ 13 ≤ 32 ^ n := Nat.pow_le_pow_right (by decide) hn
  have h3 : (2 : Nat) ^ 64 < 32 ^ 13 := by decide
  omega
def lcg (mask : Nat) : Nat → Nat → Nat
  | 0, i => i
  | n + 1, i => (lcg mask n i * 5 + 1) % (mask + 1)
theorem lp_lcg (mask : Nat) (h : Int) : ∀ m, (lp mask h (13 + m)).1 = lcg mask m (lp mask h 13).1
  | 0 => rfl
  | m + 1 => by
    have e : (lp mask h (13 + (m + 1))).2 = 0 := lp_far mask h _ (by omega)
    have e2 : (lp mask h (13 + m)).2 / 32 = 0 := e
    show ((lp mask h (13 + m)).1 * 5 + 1 + (lp mask h (13 + m)).2 / 32) % (mask + 1) = _
    rw [e2, lp_lcg mask h m]; rfl
theorem lcg_add (mask : Nat) (a : Nat) : ∀ b i, lcg mask (a + b) i = lcg mask b (lcg mask a i)
  | 0, _ => rfl
  | b + 1, i => by show (lcg mask (a + b) i * 5 + 1) % (mask + 1) = _; rw [lcg_add mask a b i]; rfl
def orb (mask : Nat) : Nat → Nat → List Nat
  | 0, _ => []
  | n + 1, i => i :: orb mask n ((i * 5 + 1) % (mask + 1))
theorem lcg_one (mask i : Nat) : ∀ n, lcg mask n ((i * 5 + 1) % (mask + 1)) = lcg mask (n + 1) i
  | 0 => rfl
  | n + 1 => by show (lcg mask n _ * 5 + 1) % _ = _; rw [lcg_one mask i n]; rfl
theorem mem_orb (mask : Nat) : ∀ n i j, j ∈ orb mask n i → ∃ m, m < n ∧ lcg mask m i = j
  | 0, _, _, h => by cases h
  | n + 1, i, j, h => by
    rcases List.mem_cons.mp h with rfl | h
    · exact ⟨0, by omega, rfl⟩
    · obtain ⟨m, h1, h2⟩ := mem_orb mask n _ j h
      exact ⟨m + 1, by omega, by rw [← lcg_one]; exact h2⟩
structure Cyc (mask : Nat) : Prop where
  all : ∀ j, j ≤ mask → j ∈ orb mask (mask + 1) 0
  back : lcg mask (mask + 1) 0 = 0
theorem Cyc.reach {mask : Nat} (C : Cyc mask) {i j : Nat} (hi : i ≤ mask) (hj : j ≤ mask) : ∃ m, m ≤ mask ∧ lcg mask m i = j := by
  obtain ⟨a, a1, a2⟩ := mem_orb _ _ _ _ (C.all i hi)
  obtain ⟨b, b1, b2⟩ := mem_orb _ _ _ _ (C.all j hj)
  by_cases h : a ≤ b
  · refine ⟨b - a, by omega, ?_⟩
    rw [← a2, ← lcg_add, show a + (b - a) = b by omega, b2]
  · refine ⟨mask + 1 - a + b, by omega, ?_⟩
    rw [← a2, ← lcg_add, show a + (mask + 1 - a + b) = (mask + 1) + b by omega, lcg_add, C.back, b2]
theorem cyc_of {mask : Nat} (h : (List.range (mask + 1)).all (fun j => (orb mask (mask + 1) 0).contains j) = true) (b : lcg mask (mask + 1) 0 = 0) : Cyc mask :=
  ⟨fun j hj => by
    have := List.all_eq_true.mp h j (List.mem_range.mpr (by omega))
    exact List.contains_iff_mem.mp this, b⟩
theorem cyc7 : Cyc 7 := cyc_of (by decide +kernel) (by decide +kernel)
theorem cyc31 : Cyc 31 := cyc_of (by decide +kernel) (by decide +kernel)
theorem cyc127 : Cyc 127 := cyc_of (by decide +kernel) (by decide +kernel)
theorem lp_le (mask : Nat) (h : Int) : ∀ n, (lp mask h n).1 ≤ mask
  | 0 => Nat.le_of_lt_succ (Nat.mod_lt _ (by omega))
  | n + 1 => Nat.le_of_lt_succ (Nat.mod_lt _ (by omega))
theorem Cyc.leap {mask : Nat} (C : Cyc mask) (h : Int) {j : Nat} (hj : j ≤ mask) : ∃ L, L < mask + 15 ∧ (lp mask h L).1 = j := by
  obtain ⟨m, h1, h2⟩ := C.reach (lp_le mask h 13) hj
  exact ⟨13 + m, by omega, by rw [lp_lcg]; exact h2⟩
theorem Cyc.cover {mask : Nat} (C : Cyc mask) (h : Int) {j : Nat} (hj : j ≤ mask) : ∃ n, n < 10 * turns mask ∧ (pth mask h n).j = j := by
  obtain ⟨L, h1, h2⟩ := C.leap h hj
  refine ⟨sg mask h L, ?_, ?_⟩
  · have := sg_le mask h L
    unfold turns; omega
  · have := pth_in mask h L 0 (Nat.zero_le _)
    simp only [Nat.add_zero] at this
    rw [this]; exact h2
theorem free_slot {P : List Nat} {mask : Nat} (hs : P.Pairwise (· < ·)) (hn : P.length ≤ mask) : ∃ j, j ≤ mask ∧ j ∉ P := by
  apply Classical.byContradiction
  intro no
  have all : ∀ j, j ≤ mask → j ∈ P := fun j hj => Classical.byContradiction fun z => no ⟨j, hj, z⟩
  have nd : (List.range (mask + 1)).Nodup := List.nodup_range
  have sub : ∀ x ∈ List.range (mask + 1), x ∈ P := fun x hx => all x (by have := List.mem_range.mp hx; omega)
  have key : ∀ (l : List Nat), l.Nodup → ∀ (P : List Nat), (∀ x ∈ l, x ∈ P) → l.length ≤ P.length := by
    intro l
    induction l with
    | nil => intro _ P _; simp
    | cons a r ih =>
      intro nd P sub
      obtain ⟨n1, n2⟩ := List.nodup_cons.mp nd
      have ha := sub a (by simp)
      have := ih n2 (P.erase a) (fun x hx => (List.mem_erase_of_ne (by intro e; subst e; exact n1 hx)).mpr (sub x (by simp [hx])))
      rw [List.length_erase_of_mem ha] at this
      have : 0 < P.length := List.length_pos_of_mem ha
      simp; omega
  have := key _ nd P sub
  simp at this
  omega
theorem least (p : Nat → Prop) : (∃ n, p n) → ∃ n, p n ∧ ∀ m, m < n → ¬ p m := by
  rintro ⟨n, h⟩
  induction n using Nat.strongRecOn with
  | _ n ih =>
    by_cases q : ∃ m, m < n ∧ p m
    · obtain ⟨m, m1, m2⟩ := q; exact ih m m1 m2
    · exact ⟨n, h, fun m hm hp => q ⟨m, hm, hp⟩⟩
theorem Cyc.first {mask : Nat} (C : Cyc mask) {P : List Nat} (hs : P.Pairwise (· < ·)) (hn : P.length ≤ mask) (h : Int) : ∃ N, N < 10 * turns mask ∧ (pth mask h N).j ∉ P ∧ ∀ m, m < N → (pth mask h m).j ∈ P := by
  obtain ⟨j, j1, j2⟩ := free_slot hs hn
  obtain ⟨n, n1, n2⟩ := C.cover h j1
  obtain ⟨N, N1, N2⟩ := least (fun n => (pth mask h n).j ∉ P) ⟨n, by rw [n2]; exact j2⟩
  refine ⟨N, ?_, N1, fun m hm => Classical.byContradiction (N2 m hm)⟩
  have : ¬ n < N := fun z => N2 n z (by rw [n2]; exact j2)
  omega
theorem lp_dummy (mask : Nat) (h : Int) : ∀ n, (pth mask h n).dummy = none
  | 0 => rfl
  | n + 1 => by
    show (adv mask (pth mask h n)).dummy = none
    unfold adv
    split <;> exact lp_dummy mask h n
theorem runEnd_le {mask i : Nat} (hi : i ≤ mask) : runEnd mask i ≤ mask := by unfold runEnd; split <;> omega
structure POk (mask : Nat) (p : Probe) : Prop where
  i : p.i ≤ mask
  j : p.j + p.more ≤ mask
theorem pth_ok (mask : Nat) (h : Int) : ∀ n, POk mask (pth mask h n)
  | 0 => by
    have := lp_le mask h 0
    have h2 := runEnd_le this
    have h3 := runEnd_ge mask (lp mask h 0).1
    exact ⟨this, by show (lp mask h 0).1 + (runEnd mask (lp mask h 0).1 - (lp mask h 0).1) ≤ mask; omega⟩
  | n + 1 => by
    obtain ⟨a, b⟩ := pth_ok mask h n
    show POk mask (adv mask (pth mask h n))
    unfold adv
    split
    · rename_i q
      refine ⟨a, ?_⟩
      show (pth mask h n).j + 1 + ((pth mask h n).more - 1) ≤ mask
      omega
    · have h1 : (SetTable.leap mask (pth mask h n).i (pth mask h n).perturb).1 ≤ mask := Nat.le_of_lt_succ (Nat.mod_lt _ (by omega))
      have h2 := runEnd_le h1
      have h3 := runEnd_ge mask (SetTable.leap mask (pth mask h n).i (pth mask h n).perturb).1
      refine ⟨h1, ?_⟩
      show (SetTable.leap mask (pth mask h n).i (pth mask h n).perturb).1 + (runEnd mask _ - _) ≤ mask
      omega
theorem pth_le (mask : Nat) (h : Int) (n : Nat) : (pth mask h n).j ≤ mask := by have := (pth_ok mask h n).j; omega
end LS
set_option linter.all false
set_option autoImplicit false
namespace LS
open PySem PySem.SetTable
section
variable {α : Type}
def EntAt (t : SetTable) (es : Array (Int × α)) (j : Nat) (e : Int × α) : Prop := ∃ i : Nat, t.place.toList[i]? = some j ∧ es.toList[i]? = some e
structure SI (t : SetTable) (es : Array (Int × α)) : Prop where
  tab : Tab t es.size
  cyc : Cyc t.mask
  room : es.size ≤ t.mask
  find : ∀ j e, EntAt t es j e → ∃ n, (pth t.mask e.1 n).j = j ∧ ∀ m, m < n → (pth t.mask e.1 m).j ∈ t.place.toList
theorem SI.len {t : SetTable} {es : Array (Int × α)} (I : SI t es) : t.place.toList.length = es.size := by simpa using I.tab.siz
theorem SI.first {t : SetTable} {es : Array (Int × α)} (I : SI t es) (h : Int) : ∃ N, N < 10 * turns t.mask ∧ (pth t.mask h N).j ∉ t.place.toList ∧ ∀ m, m < N → (pth t.mask h m).j ∈ t.place.toList :=
  I.cyc.first I.tab.ris (by rw [I.len]; exact I.room) h
theorem SI.ent {t : SetTable} {es : Array (Int × α)} (I : SI t es) {j i : Nat} (e : t.place.toList[i]? = some j) : ∃ x, es.toList[i]? = some x := by
  have : i < t.place.toList.length := (List.getElem?_eq_some_iff.mp e).1
  rw [I.len] at this
  exact ⟨_, List.getElem?_eq_getElem (by simpa using this)⟩
theorem place_inj {t : SetTable} {n : Nat} (T : Tab t n) {i k j : Nat} (a : t.place.toList[i]? = some j) (b : t.place.toList[k]? = some j) : i = k := by
  obtain ⟨a1, a2⟩ := List.getElem?_eq_some_iff.mp a
  obtain ⟨b1, b2⟩ := List.getElem?_eq_some_iff.mp b
  have r := List.pairwise_iff_getElem.mp T.ris
  rcases Nat.lt_trichotomy i k with h | h | h
  · have := r i k a1 b1 h; omega
  · exact h
  · have := r k i b1 a1 h; omega
theorem EntAt.inj {t : SetTable} {es : Array (Int × α)} {n : Nat} (T : Tab t n) {j : Nat} {e e' : Int × α} (a : EntAt t es j e) (b : EntAt t es j e') : e = e' := by
  obtain ⟨i, a1, a2⟩ := a
  obtain ⟨k, b1, b2⟩ := b
  have := place_inj T a1 b1; subst this
  rw [a2] at b2; exact Option.some.inj b2
theorem probe_go {t : SetTable} {es : Array (Int × α)} (I : SI t es) {f : Nat → Int} (hf : ∀ (i : Nat) e, es.toList[i]? = some e → f i = e.1) (h : Int) {N : Nat} (h1 : (pth t.mask h N).j ∉ t.place.toList) (h2 : ∀ m, m < N → (pth t.mask h m).j ∈ t.place.toList) :
    ∀ fuel n, n ≤ N → N - n < fuel →
    (probe.go t f h fuel (pth t.mask h n) = some (.empty (pth t.mask h N).j none) ∧ ∀ m, n ≤ m → m < N → ∀ e, EntAt t es (pth t.mask h m).j e → e.1 ≠ h) ∨
    (∃ m i e, n ≤ m ∧ m < N ∧ t.place.toList[i]? = some (pth t.mask h m).j ∧ es.toList[i]? = some e ∧ e.1 = h ∧ probe.go t f h fuel (pth t.mask h n) = some (.candidate (pth t.mask h m).j i (pth t.mask h (m + 1))) ∧ ∀ m', n ≤ m' → m' < m → ∀ e, EntAt t es (pth t.mask h m').j e → e.1 ≠ h)
  | 0, n, _, hf' => by omega
  | fuel + 1, n, hn, hF => by
    unfold probe.go
    by_cases q : n = N
    · subst q
      left
      rw [slot_empty I.tab h1]
      dsimp only
      rw [lp_dummy]
      exact ⟨rfl, fun m a b => by omega⟩
    · obtain ⟨i, s1, s2⟩ := slot_live I.tab (h2 n (by omega))
      obtain ⟨x, hx⟩ := I.ent s2
      rw [s1]
      dsimp only
      by_cases w : x.1 = h
      · right
        refine ⟨n, i, x, Nat.le_refl _, by omega, s2, hx, w, ?_, fun m' a b => by omega⟩
        rw [if_pos (by rw [hf i x hx, w]; simp), advance_eq]; rfl
      · rw [if_neg (by rw [hf i x hx]; simpa using w), advance_eq]
        have no : ∀ e, EntAt t es (pth t.mask h n).j e → e.1 ≠ h := fun e he => by
          rw [EntAt.inj I.tab he ⟨i, s2, hx⟩]; exact w
        rcases probe_go I hf h h1 h2 fuel (n + 1) (by omega) (by omega) with ⟨a, b⟩ | ⟨m, i', e, a1, a2, a3, a4, a5, a6, a7⟩
        · refine .inl ⟨a, fun m c d => ?_⟩
          rcases Nat.eq_or_lt_of_le c with rfl | c
          · exact no
          · exact b m c d
        · refine .inr ⟨m, i', e, by omega, a2, a3, a4, a5, a6, fun m' c d => ?_⟩
          rcases Nat.eq_or_lt_of_le c with rfl | c
          · exact no
          · exact a7 m' c d
theorem entAt_insert {t t' : SetTable} {es : Array (Int × α)} (hl : t.place.toList.length = es.size) {j p : Nat} {e : Int × α} (hp : p ≤ es.size) (hP : t'.place.toList = t.place.toList.take p ++ j :: t.place.toList.drop p) {j' : Nat} {e' : Int × α}
    (h : EntAt t' (insertAt es p e) j' e') : (j' = j ∧ e' = e) ∨ EntAt t es j' e' := by
  obtain ⟨i, a, b⟩ := h
  rw [hP] at a
  rw [insertAt_list] at b
  have l1 : (t.place.toList.take p).length = p := by rw [List.length_take, hl]; omega
  have l2 : (es.toList.take p).length = p := by rw [List.length_take, Array.length_toList]; omega
  rcases Nat.lt_trichotomy i p with q | q | q
  · right
    rw [List.getElem?_append_left (by omega), List.getElem?_take_of_lt q] at a
    rw [List.getElem?_append_left (by omega), List.getElem?_take_of_lt q] at b
    exact ⟨i, a, b⟩
  · left
    subst q
    rw [List.getElem?_append_right (by omega), l1, Nat.sub_self] at a
    rw [List.getElem?_append_right (by omega), l2, Nat.sub_self] at b
    simp at a b
    exact ⟨a.symm, b.symm⟩
  · right
    obtain ⟨k, rfl⟩ : ∃ k, i = p + 1 + k := ⟨i - p - 1, by omega⟩
    rw [List.getElem?_append_right (by omega), l1, show p + 1 + k - p = k + 1 by omega, List.getElem?_cons_succ, List.getElem?_drop] at a
    rw [List.getElem?_append_right (by omega), l2, show p + 1 + k - p = k + 1 by omega, List.getElem?_cons_succ, List.getElem?_drop] at b
    exact ⟨p + k, a, b⟩
theorem SI.put {t : SetTable} {es : Array (Int × α)} (I : SI t es) {h : Int} {x : α} {N : Nat} (h1 : (pth t.mask h N).j ∉ t.place.toList) (h2 : ∀ m, m < N → (pth t.mask h m).j ∈ t.place.toList) (hr : es.size + 1 ≤ t.mask) :
    SI (t.put (pth t.mask h N).j).1 (insertAt es (t.put (pth t.mask h N).j).2 (h, x)) ∧ (t.put (pth t.mask h N).j).2 ≤ es.size ∧ (insertAt es (t.put (pth t.mask h N).j).2 (h, x)).size = es.size + 1 := by
  obtain ⟨p, p1, p2, T', hP, _⟩ := put_spec I.tab h1 (pth_le _ _ _)
  have hsz : (insertAt es p (h, x)).size = es.size + 1 := by
    have : (insertAt es p (h, x)).toList.length = es.size + 1 := by
      rw [insertAt_list, List.length_append, List.length_cons, List.length_take, List.length_drop, Array.length_toList]; omega
    simpa using this
  rw [p1]
  have hsub : ∀ y ∈ t.place.toList, y ∈ (t.put (pth t.mask h N).j).1.place.toList := fun y hy => by
    rw [hP]
    rw [← List.take_append_drop p t.place.toList] at hy
    rcases List.mem_append.mp hy with hy | hy
    · exact List.mem_append_left _ hy
    · exact List.mem_append_right _ (List.mem_cons_of_mem _ hy)
  refine ⟨⟨by rw [hsz]; exact T', I.cyc, by rw [hsz]; exact hr, fun j e he => ?_⟩, p2, hsz⟩
  rcases entAt_insert I.len p2 hP he with ⟨rfl, rfl⟩ | he
  · exact ⟨N, rfl, fun m hm => hsub _ (h2 m hm)⟩
  · obtain ⟨n, n1, n2⟩ := I.find j e he
    exact ⟨n, n1, fun m hm => hsub _ (n2 m hm)⟩
end
theorem seg_dec (mask : Nat) (h : Int) : ∀ L m, m < sg mask h L → ∃ L' r, L' < L ∧ r ≤ rn mask (lp mask h L').1 ∧ m = sg mask h L' + r
  | 0, m, hm => by simp [sg] at hm
  | L + 1, m, hm => by
    by_cases q : m < sg mask h L
    · obtain ⟨L', r, a, b, c⟩ := seg_dec mask h L m q
      exact ⟨L', r, by omega, b, c⟩
    · unfold sg at hm
      exact ⟨L, m - sg mask h L, by omega, by omega, by omega⟩
structure Own (M : Nat) (owner : Array (Option Nat)) (a : List Nat) : Prop where
  siz : owner.size = M + 1
  nd : a.Nodup
  le : ∀ j ∈ a, j ≤ M
  of : ∀ j k : Nat, owner[j]? = some (some k) ↔ a[k]? = some j
theorem Own.free {M : Nat} {owner : Array (Option Nat)} {a : List Nat} (O : Own M owner a) {j : Nat} (hj : j ≤ M) : (owner.getD j (some 0)).isNone = true ↔ j ∉ a := by
  have hs : j < owner.size := by have := O.siz; omega
  rw [Array.getD_eq_getD_getElem?, Array.getElem?_eq_getElem hs]
  constructor
  · intro h m
    obtain ⟨k, hk, rfl⟩ := List.getElem_of_mem m
    have := (O.of _ k).mpr (List.getElem?_eq_getElem hk)
    rw [Array.getElem?_eq_getElem hs] at this
    simp only [Option.getD_some] at h
    rw [Option.some.inj this] at h
    cases h
  · intro h
    simp only [Option.getD_some]
    cases e : owner[j] with
    | none => rfl
    | some k =>
      exfalso
      have := (O.of j k).mp (by rw [Array.getElem?_eq_getElem hs, e])
      exact h (List.mem_of_getElem? this)
theorem free_go {M : Nat} {owner : Array (Option Nat)} {a : List Nat} (O : Own M owner a) (h : Int) : ∀ fuel L, (∃ L0, L ≤ L0 ∧ L0 < L + fuel ∧ (lp M h L0).1 ∉ a) →
    ∃ L' k, layClean.free M owner fuel (lp M h L).1 (lp M h L).2 = some ((lp M h L').1 + k) ∧ k ≤ rn M (lp M h L').1 ∧ (lp M h L').1 + k ∉ a ∧ L ≤ L' ∧ (∀ L'', L ≤ L'' → L'' < L' → ∀ r, r ≤ rn M (lp M h L'').1 → (lp M h L'').1 + r ∈ a) ∧ ∀ r, r < k → (lp M h L').1 + r ∈ a
  | 0, L, ⟨L0, h1, h2, _⟩ => by omega
  | fuel + 1, L, ⟨L0, h1, h2, h3⟩ => by
    unfold layClean.free
    have hle := lp_le M h L
    have hre := runEnd_le hle
    have hge := runEnd_ge M (lp M h L).1
    cases hf : (List.range (runEnd M (lp M h L).1 + 1 - (lp M h L).1)).find? fun k => (owner.getD ((lp M h L).1 + k) (some 0)).isNone with
    | some k =>
      dsimp only
      obtain ⟨q1, as, bs, q2, q3⟩ := List.find?_eq_some_iff_append.mp hf
      have hk : k ∈ List.range (runEnd M (lp M h L).1 + 1 - (lp M h L).1) := by rw [q2]; simp
      have hk := List.mem_range.mp hk
      refine ⟨L, k, rfl, by unfold rn; omega, (O.free (by omega)).mp q1, Nat.le_refl _, fun L'' c d => by omega, fun r hr => ?_⟩
      have : r ∈ as := by
        have ek : as.length = k := by
          have := congrArg (·[as.length]?) q2
          simp only [List.getElem?_append_right (Nat.le_refl _), Nat.sub_self, List.getElem?_cons_zero] at this
          have l : as.length < runEnd M (lp M h L).1 + 1 - (lp M h L).1 := by
            have := congrArg List.length q2
            simp at this; omega
          rw [List.getElem?_range l] at this
          exact Option.some.inj this
        have := congrArg (·[r]?) q2
        rw [List.getElem?_append_left (by omega), List.getElem?_range (by omega)] at this
        exact List.mem_of_getElem? this.symm
      have no := q3 r this
      apply Classical.byContradiction
      intro z
      rw [(O.free (by omega)).mpr z] at no
      simp at no
    | none =>
      dsimp only
      have all : ∀ r, r ≤ rn M (lp M h L).1 → (lp M h L).1 + r ∈ a := fun r hr => by
        have := List.find?_eq_none.mp hf r (List.mem_range.mpr (by unfold rn at hr; omega))
        apply Classical.byContradiction
        intro z
        exact this ((O.free (by unfold rn at hr; omega)).mpr z)
      have ne : L ≠ L0 := by
        rintro rfl
        exact h3 (by simpa using all 0 (Nat.zero_le _))
      obtain ⟨L', k, a1, a2, a3, a4, a5, a6⟩ := free_go O h fuel (L + 1) ⟨L0, by omega, by omega, h3⟩
      refine ⟨L', k, a1, a2, a3, by omega, fun L'' c d => ?_, a6⟩
      rcases Nat.eq_or_lt_of_le c with rfl | c
      · exact all
      · exact a5 L'' c d
theorem free_spec {M : Nat} (C : Cyc M) {owner : Array (Option Nat)} {a : List Nat} (O : Own M owner a) (hl : a.length ≤ M) (h : Int) : ∃ N, layClean.free M owner (turns M) (bits h % (M + 1)) (bits h) = some (pth M h N).j ∧ (pth M h N).j ∉ a ∧ ∀ m, m < N → (pth M h m).j ∈ a := by
  have : ∃ j, j ≤ M ∧ j ∉ a := by
    apply Classical.byContradiction
    intro no
    have all : ∀ j, j ≤ M → j ∈ a := fun j hj => Classical.byContradiction fun z => no ⟨j, hj, z⟩
    have key : ∀ (l : List Nat), l.Nodup → ∀ (P : List Nat), (∀ x ∈ l, x ∈ P) → l.length ≤ P.length := by
      intro l
      induction l with
      | nil => intro _ P _; simp
      | cons a r ih =>
        intro nd P sub
        obtain ⟨n1, n2⟩ := List.nodup_cons.mp nd
        have ha := sub a (by simp)
        have := ih n2 (P.erase a) (fun x hx => (List.mem_erase_of_ne (by intro e; subst e; exact n1 hx)).mpr (sub x (by simp [hx])))
        rw [List.length_erase_of_mem ha] at this
        have : 0 < P.length := List.length_pos_of_mem ha
        simp; omega
    have := key (List.range (M + 1)) List.nodup_range a (fun x hx => all x (by have := List.mem_range.mp hx; omega))
    simp at this; omega
  obtain ⟨j, j1, j2⟩ := this
  obtain ⟨L0, l1, l2⟩ := C.leap h j1
  obtain ⟨L', k, a1, a2, a3, a4, a5, a6⟩ := free_go O h (turns M) 0 ⟨L0, Nat.zero_le _, by unfold turns; omega, by rw [l2]; exact j2⟩
  have e := pth_in M h L' k a2
  refine ⟨sg M h L' + k, by rw [e]; exact a1, by rw [e]; exact a3, fun m hm => ?_⟩
  by_cases q : m < sg M h L'
  · obtain ⟨L'', r, b1, b2, b3⟩ := seg_dec M h L' m q
    rw [b3, pth_in M h L'' r b2]
    exact a5 L'' (Nat.zero_le _) b1 r b2
  · obtain ⟨r, rfl⟩ : ∃ r, m = sg M h L' + r := ⟨m - sg M h L', by omega⟩
    rw [pth_in M h L' r (by omega)]
    exact a6 r (by omega)
end LS
set_option linter.all false
set_option autoImplicit false
namespace LS
open PySem PySem.SetTable
def stepL (M : Nat) (acc : Option (Array (Option Nat) × Nat)) (h : Int) : Option (Array (Option Nat) × Nat) := do
  let (owner, k) ← acc
  let j ← layClean.free M owner (turns M) (bits h % (M + 1)) (bits h)
  pure (owner.setIfInBounds j (some k), k + 1)
theorem layClean_eq (M : Nat) (hs : Array Int) : layClean M hs = (hs.toList.foldl (stepL M) (some (Array.replicate (M + 1) none, 0))).map (·.1) := by
  unfold layClean
  rw [← Array.foldl_toList]
  rfl
structure Laid (M : Nat) (hs : List Int) (a : List Nat) : Prop where
  len : a.length = hs.length
  find : ∀ (k : Nat) j h, a[k]? = some j → hs[k]? = some h → ∃ n, (pth M h n).j = j ∧ ∀ m, m < n → (pth M h m).j ∈ a
theorem Own.add {M : Nat} {owner : Array (Option Nat)} {a : List Nat} (O : Own M owner a) {j : Nat} (hj : j ≤ M) (hn : j ∉ a) : Own M (owner.setIfInBounds j (some a.length)) (a ++ [j]) := by
  have hs : j < owner.size := by have := O.siz; omega
  refine ⟨by simp [O.siz], ?_, ?_, fun i k => ?_⟩
  · refine List.nodup_append.mpr ⟨O.nd, by simp, fun x hx y hy => ?_⟩
    simp at hy; subst hy
    intro e; subst e; exact hn hx
  · intro i hi
    rcases List.mem_append.mp hi with hi | hi
    · exact O.le i hi
    · simp at hi; omega
  · rw [Array.getElem?_setIfInBounds]
    by_cases q : j = i
    · subst q
      rw [if_pos rfl, if_pos hs]
      constructor
      · intro e
        have e := Option.some.inj (Option.some.inj e)
        subst e
        rw [List.getElem?_append_right (Nat.le_refl _)]; simp
      · intro e
        rcases Nat.lt_trichotomy k a.length with w | w | w
        · rw [List.getElem?_append_left w] at e
          exact absurd (List.mem_of_getElem? e) hn
        · rw [w]
        · rw [List.getElem?_eq_none (by simp; omega)] at e; cases e
    · rw [if_neg q, O.of i k]
      rcases Nat.lt_trichotomy k a.length with w | w | w
      · rw [List.getElem?_append_left w]
      · subst w
        rw [List.getElem?_append_right (Nat.le_refl _), List.getElem?_eq_none (Nat.le_refl _)]
        simp
        exact q
      · rw [List.getElem?_eq_none (by omega), List.getElem?_eq_none (by simp; omega)]
theorem fold_laid {M : Nat} (C : Cyc M) : ∀ (hs done : List Int) (owner : Array (Option Nat)) (a : List Nat), Own M owner a → Laid M done a → done.length + hs.length ≤ M →
    ∃ owner' a', hs.foldl (stepL M) (some (owner, a.length)) = some (owner', a'.length) ∧ Own M owner' a' ∧ Laid M (done ++ hs) a'
  | [], done, owner, a, O, L, _ => ⟨owner, a, rfl, O, by simpa using L⟩
  | h :: hs, done, owner, a, O, L, hl => by
    simp only [List.length_cons] at hl
    obtain ⟨N, f1, f2, f3⟩ := free_spec C O (by rw [L.len]; omega) h
    have O' := O.add (pth_le M h N) f2
    have L' : Laid M (done ++ [h]) (a ++ [(pth M h N).j]) := by
      refine ⟨by simp [L.len], fun k j g h1 h2 => ?_⟩
      rcases Nat.lt_trichotomy k a.length with w | w | w
      · rw [List.getElem?_append_left w] at h1
        rw [List.getElem?_append_left (by rw [← L.len]; exact w)] at h2
        obtain ⟨n, n1, n2⟩ := L.find k j g h1 h2
        exact ⟨n, n1, fun m hm => List.mem_append_left _ (n2 m hm)⟩
      · subst w
        rw [List.getElem?_append_right (Nat.le_refl _)] at h1
        rw [L.len, List.getElem?_append_right (Nat.le_refl _)] at h2
        simp at h1 h2
        subst h1; subst h2
        exact ⟨N, rfl, fun m hm => List.mem_append_left _ (f3 m hm)⟩
      · rw [List.getElem?_eq_none (by simp; omega)] at h1; cases h1
    have step : stepL M (some (owner, a.length)) h = some (owner.setIfInBounds (pth M h N).j (some a.length), (a ++ [(pth M h N).j]).length) := by
      unfold stepL
      simp only [Option.bind_eq_bind, Option.bind_some, f1]
      simp
    obtain ⟨owner', a', r1, r2, r3⟩ := fold_laid C hs (done ++ [h]) _ _ O' L' (by simp; omega)
    refine ⟨owner', a', ?_, r2, by simpa using r3⟩
    rw [List.foldl_cons, step]; exact r1
theorem layClean_spec {M : Nat} (C : Cyc M) {hs : Array Int} (hl : hs.size ≤ M) : ∃ owner a, layClean M hs = some owner ∧ Own M owner a ∧ Laid M hs.toList a := by
  have O : Own M (Array.replicate (M + 1) none) [] := ⟨by simp, by simp, by simp, fun j k => by
    rw [Array.getElem?_replicate]
    split <;> simp⟩
  obtain ⟨owner, a, r1, r2, r3⟩ := fold_laid C hs.toList [] _ [] O ⟨rfl, by simp⟩ (by simpa using hl)
  refine ⟨owner, a, ?_, r2, by simpa using r3⟩
  rw [layClean_eq]
  have : (List.length ([] : List Nat)) = 0 := rfl
  rw [this] at r1
  rw [r1]; rfl
theorem nodup_len {l P : List Nat} (nd : l.Nodup) (sub : ∀ x ∈ l, x ∈ P) : l.length ≤ P.length := by
  induction l generalizing P with
  | nil => simp
  | cons a r ih =>
    obtain ⟨n1, n2⟩ := List.nodup_cons.mp nd
    have ha := sub a (by simp)
    have := ih n2 (P := P.erase a) (fun x hx => (List.mem_erase_of_ne (by intro e; subst e; exact n1 hx)).mpr (sub x (by simp [hx])))
    rw [List.length_erase_of_mem ha] at this
    have : 0 < P.length := List.length_pos_of_mem ha
    simp; omega
section
variable {α : Type}
theorem filterMap_get {es : List α} : ∀ {l : List Nat}, (∀ k ∈ l, k < es.length) → (l.filterMap (es[·]?)).length = l.length ∧ ∀ (i : Nat) e, (l.filterMap (es[·]?))[i]? = some e → ∃ k, l[i]? = some k ∧ es[k]? = some e
  | [], _ => ⟨rfl, fun i e h => by simp at h⟩
  | k :: l, hk => by
    have hk0 : k < es.length := hk k (by simp)
    have h0 : es[k]? = some es[k] := List.getElem?_eq_getElem hk0
    obtain ⟨a, b⟩ := filterMap_get (es := es) (l := l) fun x hx => hk x (by simp [hx])
    rw [List.filterMap_cons, h0]
    refine ⟨by simp [a], fun i e h => ?_⟩
    cases i with
    | zero => simp at h; exact ⟨k, rfl, by rw [h0, h]⟩
    | succ i => simpa using b i e (by simpa using h)
theorem laid_spec {M : Nat} (C : Cyc M) {es : Array (Int × α)} (hl : es.size ≤ M) (finger moves : Nat) (led plain : Bool) :
    ∃ t' order, laid M finger moves led plain (es.map (·.1)) = some (t', order) ∧ t'.mask = M ∧ t'.led = led ∧ t'.plain = plain ∧ t'.moves = moves ∧ t'.dummies = #[] ∧
      (order.filterMap (es[·]?)).size = es.size ∧ SI t' (order.filterMap (es[·]?)) ∧ ∀ e, e ∈ (order.filterMap (es[·]?)).toList ↔ e ∈ es.toList := by
  obtain ⟨owner, a, c1, O, L⟩ := layClean_spec C (hs := es.map (·.1)) (by simpa using hl)
  have llen : a.length = es.size := by rw [L.len]; simp
  have oj : ∀ j, j ≤ M → ∃ x, owner[j]? = some x := fun j hj => ⟨_, Array.getElem?_eq_getElem (by have := O.siz; omega)⟩
  obtain ⟨live, elive⟩ : ∃ live, live = (List.range (M + 1)).filterMap fun j => (owner.getD j none).map (j, ·) := ⟨_, rfl⟩
  have mem : ∀ j k, (j, k) ∈ live ↔ a[k]? = some j := by
    intro j k
    rw [elive, List.mem_filterMap]
    constructor
    · rintro ⟨i, hi, e⟩
      obtain ⟨x, hx⟩ := oj i (by have := List.mem_range.mp hi; omega)
      rw [Array.getD_eq_getD_getElem?, hx, Option.getD_some] at e
      cases x with
      | none => cases e
      | some y =>
        simp at e
        obtain ⟨rfl, rfl⟩ := e
        exact (O.of _ _).mp hx
    · intro e
      have hj := O.le j (List.mem_of_getElem? e)
      refine ⟨j, List.mem_range.mpr (by omega), ?_⟩
      rw [Array.getD_eq_getD_getElem?, (O.of j k).mpr e]
      rfl
  have rise : (live.map (·.1)).Pairwise (· < ·) := by
    rw [elive, List.pairwise_map]
    refine List.Pairwise.filterMap _ (R := (· < ·)) ?_ (by simpa using List.pairwise_lt_range)
    intro i i' hii b hb b' hb'
    cases q : owner.getD i none with
    | none => rw [q] at hb; simp at hb
    | some y =>
      cases q' : owner.getD i' none with
      | none => rw [q'] at hb'; simp at hb'
      | some y' =>
        rw [q] at hb; rw [q'] at hb'
        simp at hb hb'
        subst hb; subst hb'
        exact hii
  have nd1 : (live.map (·.1)).Nodup := rise.imp (fun h => Nat.ne_of_lt h)
  have len1 : live.length = es.size := by
    apply Nat.le_antisymm
    · have := nodup_len nd1 (P := a) (fun x hx => by
        obtain ⟨p, p1, rfl⟩ := List.mem_map.mp hx
        exact List.mem_of_getElem? ((mem p.1 p.2).mp p1))
      simp at this; omega
    · have := nodup_len O.nd (P := live.map (·.1)) (fun x hx => by
        obtain ⟨k, hk, rfl⟩ := List.getElem_of_mem hx
        exact List.mem_map.mpr ⟨(a[k], k), (mem _ _).mpr (List.getElem?_eq_getElem hk), rfl⟩)
      simp at this; omega
  have ordlt : ∀ k ∈ live.map (·.2), k < es.toList.length := fun k hk => by
    obtain ⟨p, p1, rfl⟩ := List.mem_map.mp hk
    have := (List.getElem?_eq_some_iff.mp ((mem p.1 p.2).mp p1)).1
    simp; omega
  have fm : ((live.map (·.2)).toArray.filterMap (es[·]?)).toList = (live.map (·.2)).filterMap (es.toList[·]?) := by
    rw [Array.toList_filterMap]
    simp
  obtain ⟨g1, g2⟩ := filterMap_get ordlt
  have hsz : ((live.map (·.2)).toArray.filterMap (es[·]?)).size = es.size := by
    have : ((live.map (·.2)).toArray.filterMap (es[·]?)).toList.length = es.size := by rw [fm, g1]; simp [len1]
    simpa using this
  refine ⟨_, _, by
    unfold laid
    rw [c1]
    show some _ = _
    rw [← elive], rfl, rfl, rfl, rfl, rfl, hsz, ⟨⟨rfl, ?_, ?_, ?_⟩, C, by rw [hsz]; exact hl, ?_⟩, fun e => ?_⟩
  · rw [hsz]; simp [len1]
  · simpa using rise
  · intro j hj
    have hj : j ∈ live.map (·.1) := by simpa using hj
    obtain ⟨p, p1, rfl⟩ := List.mem_map.mp hj
    exact O.le _ (List.mem_of_getElem? ((mem p.1 p.2).mp p1))
  · rintro j e ⟨i, h1, h2⟩
    have h1 : (live.map (·.1))[i]? = some j := by simpa using h1
    rw [fm] at h2
    obtain ⟨k, k1, k2⟩ := g2 i e h2
    have hk : live[i]? = some (j, k) := by
      rw [List.getElem?_map] at h1 k1
      cases q : live[i]? with
      | none => rw [q] at h1; cases h1
      | some p => rw [q] at h1 k1; simp at h1 k1; rw [← h1, ← k1]
    have hk := (mem j k).mp (List.mem_of_getElem? hk)
    obtain ⟨n, n1, n2⟩ := L.find k j e.1 hk (by simp at k2 ⊢; exact ⟨_, k2⟩)
    refine ⟨n, n1, fun m hm => ?_⟩
    have := n2 m hm
    obtain ⟨k', hk', e'⟩ := List.getElem_of_mem this
    have : (pth M e.1 m).j ∈ live.map (·.1) := List.mem_map.mpr ⟨((pth M e.1 m).j, k'), (mem _ _).mpr (by rw [← e']; exact List.getElem?_eq_getElem hk'), rfl⟩
    simpa using this
  · rw [fm, List.mem_filterMap]
    constructor
    · rintro ⟨k, _, q⟩; exact List.mem_of_getElem? q
    · intro q
      obtain ⟨k, hk, rfl⟩ := List.getElem_of_mem q
      refine ⟨k, ?_, List.getElem?_eq_getElem hk⟩
      have hka : k < a.length := by rw [llen]; simpa using hk
      exact List.mem_map.mpr ⟨(a[k], k), (mem _ _).mpr (List.getElem?_eq_getElem hka), rfl⟩
end
end LS
set_option linter.all false
set_option autoImplicit false
namespace LS
open PySem PySem.SetTable
section
variable {prog : Program} {w : World} {A : Around} {E : Value → Shared → Prop} {s : Shared} {K : Type} [DecidableEq K] {knd : KeyKind prog w K}
theorem notClass {ks : List K} {a : Addr} {n : Nat} {Q : Bool → Shared → Prop} (hk : IsTupleKey knd s.heap ks a) (h : Q false s) : wpAny (model prog w) A (ofAClassStatement (n + 1) (.ref a)) Q E s := by
  have hT := hk.typeIs
  obtain ⟨o, items, m, ho, _, hd, hi⟩ := hk
  unfold ofAClassStatement
  refine wpAny_bind (wpAny_typeOf hT ?_)
  dsimp only
  rw [if_pos (by rfl)]
  refine wpAny_bind (wpAny_pure ?_)
  simp only [Bool.not_true, Bool.false_eq_true, if_false]
  refine wpAny_bind (wpAny_seqItems ho hd ?_)
  dsimp only
  refine wpAny_bind ?_
  rw [← Array.forIn_toList]
  refine wpAny_forIn_list _ (fun rest r s' => r.1 = none ∧ s' = s ∧ ∀ v ∈ rest, carriedByValue v = true) _ ?_ ?_ _ _ ⟨rfl, rfl, hi.byValue⟩
  · rintro v rest r s' ⟨hr, rfl, al⟩
    have e : ofAClassStatement n v = pure false := by
      have := al v List.mem_cons_self
      cases v <;> first | (simp [carriedByValue] at this; done) | (unfold ofAClassStatement; rfl)
    rw [e]
    refine wpAny_bind (wpAny_pure ?_)
    simp only [Bool.false_eq_true, if_false]
    exact wpAny_pure ⟨rfl, rfl, fun u hu => al u (List.mem_cons_of_mem _ hu)⟩
  · rintro ⟨r1, r2⟩ s' ⟨hr, rfl, _⟩
    simp only at hr
    subst hr
    exact wpAny_pure h
theorem byVal {ks : List K} {a : Addr} {Q : Bool → Shared → Prop} (hk : IsTupleKey knd s.heap ks a) (h : ∀ b, Q b s) : wpAny (model prog w) A (hashByValue 8 (.ref a)) Q E s := by
  have hT := hk.typeIs
  obtain ⟨o, items, m, ho, _, hd, hi⟩ := hk
  unfold hashByValue
  refine wpAny_bind (wpAny_specialOf hT F.slot_tuple_hash.lookup ?_)
  dsimp only
  refine wpAny_bind (wpAny_seqItems ho hd ?_)
  simp only [Option.getD_some]
  refine wpAny_bind ?_
  rw [← Array.forIn_toList]
  refine wpAny_forIn_list _ (fun rest r s' => r.1 = none ∧ s' = s ∧ ∀ v ∈ rest, carriedByValue v = true) _ ?_ ?_ _ _ ⟨rfl, rfl, hi.byValue⟩
  · rintro v rest r s' ⟨hr, rfl, al⟩
    have e : ∃ b, hashByValue 7 v = pure b := by
      have := al v List.mem_cons_self
      cases v <;> first | (simp [carriedByValue] at this; done) | (unfold hashByValue; exact ⟨_, rfl⟩)
    obtain ⟨b, e⟩ := e
    rw [e]
    refine wpAny_bind (wpAny_pure ?_)
    cases b with
    | true => exact wpAny_pure ⟨rfl, rfl, fun u hu => al u (List.mem_cons_of_mem _ hu)⟩
    | false => exact wpAny_pure (wpAny_pure (h _))
  · rintro ⟨r1, r2⟩ s' ⟨hr, rfl, _⟩
    simp only at hr
    subst hr
    exact wpAny_pure (h _)
structure EOf (knd : KeyKind prog w K) (h : Heap) (es : List (Int × Value)) : Prop where
  el : ∀ e ∈ es, ∃ ks b, e.2 = .ref b ∧ IsTupleKey knd h ks b ∧ e.1 = tupleKeyHash knd ks
def Has (knd : KeyKind prog w K) (h : Heap) (es : List (Int × Value)) (ks : List K) : Prop := ∃ e ∈ es, ∃ b, e.2 = .ref b ∧ IsTupleKey knd h ks b
theorem notSeen {ks : List K} {x : Addr} (hx : IsTupleKey knd s.heap ks x) : ∀ (l : List Value), (∀ y ∈ l, ∃ ks' b, y = .ref b ∧ IsTupleKey knd s.heap ks' b) → ∀ {Q : Bool → Shared → Prop}, Q false s → wpAny (model prog w) A (searchCouldBeSeen (.ref x) l) Q E s := by
  intro l hl Q h
  unfold searchCouldBeSeen
  refine wpAny_bind ?_
  refine wpAny_forIn_list _ (fun rest r s' => r.1 = none ∧ s' = s ∧ ∀ y ∈ rest, ∃ ks' b, y = .ref b ∧ IsTupleKey knd s.heap ks' b) _ ?_ ?_ _ _ ⟨rfl, rfl, hl⟩
  · rintro v rest r s' ⟨hr, rfl, al⟩
    obtain ⟨ks', b, rfl, hb⟩ := al v List.mem_cons_self
    have al' := fun u (hu : u ∈ rest) => al u (List.mem_cons_of_mem _ hu)
    dsimp only
    by_cases q : (x == b) = true
    · rw [if_pos (by simp [q])]
      exact wpAny_pure ⟨rfl, rfl, al'⟩
    · rw [if_neg (by simp [carriedByValue]; simpa using q)]
      refine wpAny_bind (wpAny_eqIsQuiet_tuple hx ?_)
      simp only [Bool.not_true, Bool.false_eq_true, if_false]
      refine wpAny_bind (wpAny_eqIsQuiet_tuple hb ?_)
      simp only [Bool.not_true, Bool.false_eq_true, if_false]
      refine wpAny_bind (notClass hx ?_)
      simp only [Bool.false_eq_true, if_false]
      refine wpAny_bind (notClass hb ?_)
      simp only [Bool.false_eq_true, if_false]
      exact wpAny_pure ⟨rfl, rfl, al'⟩
  · rintro ⟨r1, r2⟩ s' ⟨hr, rfl, _⟩
    simp only at hr
    subst hr
    exact wpAny_pure h
end
end LS
set_option linter.all false
set_option autoImplicit false
namespace LS
open PySem PySem.SetTable
section
variable {prog : Program} {w : World} {A : Around} {E : Value → Shared → Prop} {s : Shared} {K : Type} [DecidableEq K] {knd : KeyKind prog w K}
theorem EOf.at {h : Heap} {t : SetTable} {es : Array (Int × Value)} (X : EOf knd h es.toList) {j : Nat} {e : Int × Value} (q : EntAt t es j e) : ∃ ks b, e.2 = .ref b ∧ IsTupleKey knd h ks b ∧ e.1 = tupleKeyHash knd ks := by
  obtain ⟨i, _, q⟩ := q
  exact X.el e (List.mem_of_getElem? q)
theorem SI.fits {t : SetTable} {es : Array (Int × Value)} (I : SI t es) : t.fits es.size = true := by
  unfold SetTable.fits SetTable.fill
  rw [I.tab.dum, I.tab.siz]
  have := I.room
  simp; omega
theorem SI.mem {t : SetTable} {es : Array (Int × Value)} (I : SI t es) {e : Int × Value} (m : e ∈ es.toList) : ∃ j, EntAt t es j e := by
  obtain ⟨i, hi, rfl⟩ := List.getElem_of_mem m
  have : i < t.place.toList.length := by rw [I.len]; simpa using hi
  exact ⟨_, i, List.getElem?_eq_getElem this, List.getElem?_eq_getElem hi⟩
theorem EntAt.place {t : SetTable} {es : Array (Int × Value)} {j : Nat} {e : Int × Value} (q : EntAt t es j e) : j ∈ t.place.toList := by
  obtain ⟨i, q, _⟩ := q; exact List.mem_of_getElem? q
theorem SI.onway {t : SetTable} {es : Array (Int × Value)} (I : SI t es) (X : EOf knd s.heap es.toList) {ks : List K} {N : Nat} (h1 : (pth t.mask (tupleKeyHash knd ks) N).j ∉ t.place.toList) (hh : Has knd s.heap es.toList ks) :
    ∃ m e b, m < N ∧ EntAt t es (pth t.mask (tupleKeyHash knd ks) m).j e ∧ e.1 = tupleKeyHash knd ks ∧ e.2 = .ref b ∧ IsTupleKey knd s.heap ks b := by
  obtain ⟨e, me, b, eb, kb⟩ := hh
  obtain ⟨j, q⟩ := I.mem me
  obtain ⟨ks', b', e1, k1, e2⟩ := X.el e me
  rw [eb] at e1; cases e1
  have := kb.inj k1; subst this
  obtain ⟨n, n1, n2⟩ := I.find j e q
  rw [e2] at n1 n2
  refine ⟨n, e, b, ?_, by rw [n1]; exact q, e2, eb, kb⟩
  rcases Nat.lt_trichotomy n N with z | z | z
  · exact z
  · subst z; exact absurd (by rw [n1]; exact q.place) h1
  · exact absurd (n2 N z) h1
theorem search_ok {a x : Addr} {o : Obj} {ep : Nat} {t : SetTable} {es : Array (Int × Value)} {ks : List K} (hu : A.units < cLine) (ho : s.heap.get? a = some o) (hd : o.data = .set es ep t) (I : SI t es) (X : EOf knd s.heap es.toList) (hx : IsTupleKey knd s.heap ks x) (om : t.mask % 2 = 1)
    {N : Nat} (hN : N < 10 * turns t.mask) (h1 : (pth t.mask (tupleKeyHash knd ks) N).j ∉ t.place.toList) (h2 : ∀ m, m < N → (pth t.mask (tupleKeyHash knd ks) m).j ∈ t.place.toList) {Q : SetFound → Shared → Prop}
    (yes : Has knd s.heap es.toList ks → Q (.there none) s) (no : ¬ Has knd s.heap es.toList ks → Q (.free (pth t.mask (tupleKeyHash knd ks) N).j false) s) :
    ∀ (fuel n : Nat) (st : Option Probe), n ≤ N → N - n < fuel → st.getD (t.probeStart (tupleKeyHash knd ks)) = pth t.mask (tupleKeyHash knd ks) n →
      (∀ m, m < n → ∀ e, EntAt t es (pth t.mask (tupleKeyHash knd ks) m).j e → ∀ b, e.2 = .ref b → ¬ IsTupleKey knd s.heap ks b) →
      wpAny (model prog w) A (setSearchFrom a (.ref x) (tupleKeyHash knd ks) true fuel st) Q E s
  | 0, n, _, _, z, _, _ => by omega
  | fuel + 1, n, st, hn, hf, hst, hbe => by
    unfold setSearchFrom
    refine wpAny_bind (wpAny_setState_of ho hd I.fits ?_)
    dsimp only
    rw [if_neg (by unfold SetTable.gaveWay; simp [om])]
    rw [hst]
    unfold SetTable.probe
    have G := probe_go I (f := fun i => (es[i]?.map (·.1)).getD 0) (fun i e q => by simp at q; simp [q]) (tupleKeyHash knd ks) h1 h2 (10 * turns t.mask) n hn (by omega)
    generalize hz : probe.go t _ (tupleKeyHash knd ks) (10 * turns t.mask) (pth t.mask (tupleKeyHash knd ks) n) = z
    rcases G with ⟨g, g2⟩ | ⟨m, i, e, m1, m2, m3, m4, m5, g, g2⟩
    · have g := hz.symm.trans g
      subst g
      dsimp only
      refine wpAny_pure (no fun hh => ?_)
      obtain ⟨m, e, b, m1, q, q2, q3, q4⟩ := I.onway X h1 hh
      by_cases z : m < n
      · exact hbe m z e q b q3 q4
      · exact g2 m (by omega) m1 e q q2
    · have g := hz.symm.trans g
      subst g
      dsimp only
      have ee : EntAt t es (pth t.mask (tupleKeyHash knd ks) m).j e := ⟨i, m3, m4⟩
      obtain ⟨ks', b, eb, kb, _⟩ := X.at ee
      have ei : es[i]? = some (e.1, .ref b) := by
        have : es[i]? = some e := by simpa using m4
        rw [this, ← eb]
      have sl : t.slot (pth t.mask (tupleKeyHash knd ks) m).j = .live i := by
        obtain ⟨i', s1, s2⟩ := slot_live I.tab (List.mem_of_getElem? m3)
        rw [s1, place_inj I.tab s2 m3]
      have seen : ∀ y ∈ (Array.filter (fun z : Int × Value => z.1 == tupleKeyHash knd ks) es).toList.map (·.2), ∃ ks' b, y = .ref b ∧ IsTupleKey knd s.heap ks' b := fun y hy => by
        obtain ⟨e, he, rfl⟩ := List.mem_map.mp hy
        have he : e ∈ es.toList := by
          simp at he
          simpa using he.1
        obtain ⟨k2, b2, c1, c2, c3⟩ := X.el e he
        exact ⟨k2, b2, c1, c2⟩
      cases hl : t.led
      all_goals first
        | rw [if_neg (show ¬ ((!true) = true) by simp)]
        | (rw [if_pos (show (!false) = true from rfl)]; refine wpAny_bind (notSeen hx _ seen ?_); rw [if_neg (show ¬ (false = true) by simp)])
      all_goals
        rw [ei]
        dsimp only
        refine wpAny_bind (wpAny_holding (wpAny_eqBool_tuple hu kb hx ?_))
        refine wpAny_bind (wpAny_setState_of ho hd I.fits ?_)
        dsimp only
        by_cases q : ks' = ks
        · subst q
          rw [if_pos (by simp)]
          exact wpAny_pure (yes ⟨e, List.mem_of_getElem? m4, b, eb, kb⟩)
        · rw [if_neg (by simp [q])]
          have esm : t.sameMemory t.moves t.mask = some true := by unfold SetTable.sameMemory; simp
          rw [esm]
          dsimp only
          rw [if_pos rfl, sl]
          dsimp only
          rw [ei]
          dsimp only
          refine wpAny_bind (wpAny_isSame_ref_self ?_)
          rw [if_pos rfl]
          refine wpAny_bind (wpAny_pure ?_)
          dsimp only
          rw [if_neg (by simp [q])]
          refine search_ok hu ho hd I X hx om hN h1 h2 yes no fuel (m + 1) _ (by omega) (by omega) rfl fun m' hm e' he b' eb' kb' => ?_
          have key : ∀ e : Int × Value, EntAt t es (pth t.mask (tupleKeyHash knd ks) m').j e → e.2 = .ref b' → e.1 = tupleKeyHash knd ks := fun e he eb => by
            obtain ⟨k2, b2, c1, c2, c3⟩ := X.at he
            rw [eb] at c1; cases c1
            rw [c3, c2.inj kb']
          by_cases z : m' < n
          · exact hbe m' z e' he b' eb' kb'
          · by_cases z2 : m' < m
            · exact g2 m' (by omega) z2 e' he (key e' he eb')
            · have : m' = m := by omega
              subst this
              have := EntAt.inj I.tab he ee; subst this
              rw [eb] at eb'; cases eb'
              exact q (kb.inj kb')
end
end LS
set_option linter.all false
set_option autoImplicit false
namespace LS
open PySem PySem.SetTable
section
variable {prog : Program} {w : World} {A : Around} {E : Value → Shared → Prop} {s : Shared} {K : Type} [DecidableEq K] {knd : KeyKind prog w K}
def RoomIn (mask n : Nat) : Prop := (mask = 7 ∧ n < 5) ∨ (mask = 31 ∧ n < 19) ∨ (mask = 127 ∧ n < 77)
theorem cyc_room {mask n : Nat} (h : RoomIn mask n) : Cyc mask ∧ mask % 2 = 1 := by
  rcases h with ⟨rfl, _⟩ | ⟨rfl, _⟩ | ⟨rfl, _⟩
  · exact ⟨cyc7, rfl⟩
  · exact ⟨cyc31, rfl⟩
  · exact ⟨cyc127, rfl⟩
structure SetT (knd : KeyKind prog w K) (ok : Addr → Prop) (h : Heap) (a : Addr) (S : List (List K)) : Prop where
  ex : ∃ o es ep t, h.get? a = some o ∧ o.ExactSet ∧ o.data = .set es ep t ∧ SI t es ∧ EOf knd h es.toList ∧ (∀ ks, Has knd h es.toList ks ↔ ks ∈ S) ∧ es.size = S.length ∧ RoomIn t.mask es.size ∧ ∀ e ∈ es.toList, ∀ b, e.2 = .ref b → ok b
theorem key_but {h h' : Heap} {a b : Addr} {o : Obj} {ks : List K} {es : Array (Int × Value)} {ep : Nat} {t : SetTable} (ho : h.get? a = some o) (hd : o.data = .set es ep t) (sb : Heap.SameBut a h h') (x : IsTupleKey knd h ks b) : IsTupleKey knd h' ks b := by
  obtain ⟨o', items, n, ho', hc, hd', hi⟩ := x
  have hne : b ≠ a := by
    rintro rfl
    rw [ho] at ho'; cases ho'
    rw [hd] at hd'; cases hd'
  exact ⟨o', items, n, (sb.2 b hne).trans ho', hc, hd', hi⟩
theorem key_back {h h' : Heap} {a b : Addr} {o : Obj} {ks : List K} {es : Array (Int × Value)} {ep : Nat} {t : SetTable} (ho : h'.get? a = some o) (hd : o.data = .set es ep t) (sb : Heap.SameBut a h h') (x : IsTupleKey knd h' ks b) : IsTupleKey knd h ks b := by
  obtain ⟨o', items, n, ho', hc, hd', hi⟩ := x
  have hne : b ≠ a := by
    rintro rfl
    rw [ho] at ho'; cases ho'
    rw [hd] at hd'; cases hd'
  exact ⟨o', items, n, (sb.2 b hne).symm.trans ho', hc, hd', hi⟩
theorem get_put {h : Heap} {a : Addr} {o : Obj} {es es' : Array (Int × Value)} {ep : Nat} {t t' : SetTable} (ho : h.get? a = some o) (hx : o.ExactSet) (hd : o.data = .set es ep t) : ∃ o', (h.update a (Obj.putSet es' t')).get? a = some o' ∧ o'.ExactSet ∧ o'.data = .set es' (ep + 1) t' := by
  refine ⟨_, Heap.get?_update_self _ ho (by rw [putSet_of es' t' hd]; rfl), ?_, ?_⟩
  · rw [putSet_of es' t' hd]; exact hx
  · rw [putSet_of es' t' hd]
theorem mem_insertAt {α : Type} {es : Array α} {p : Nat} {x e : α} : e ∈ (insertAt es p x).toList ↔ e = x ∨ e ∈ es.toList := by
  rw [insertAt_list]
  constructor
  · intro h
    rcases List.mem_append.mp h with h | h
    · exact .inr (List.mem_of_mem_take h)
    · rcases List.mem_cons.mp h with h | h
      · exact .inl h
      · exact .inr (List.mem_of_mem_drop h)
  · rintro (rfl | h)
    · simp
    · rw [← List.take_append_drop p es.toList] at h
      rcases List.mem_append.mp h with h | h
      · exact List.mem_append_left _ h
      · exact List.mem_append_right _ (List.mem_cons_of_mem _ h)
theorem relay_ok {a : Addr} {o : Obj} {ep : Nat} {t : SetTable} {es : Array (Int × Value)} {M wanted : Nat} {Q : Unit → Shared → Prop} (ho : s.heap.get? a = some o) (hx : o.ExactSet) (hd : o.data = .set es ep t) (I : SI t es) (C : Cyc M) (hl : es.size ≤ M) (hM : SetTable.sizeAbove wanted = M + 1) (hm : M ≤ 127)
    (h : ∀ es' t' o' h', Heap.SameBut a s.heap h' → h'.get? a = some o' → o'.ExactSet → o'.data = .set es' (ep + 1) t' → t'.mask = M → SI t' es' → es'.size = es.size → (∀ e, e ∈ es'.toList ↔ e ∈ es.toList) → Q () { s with heap := h' }) :
    wpAny (model prog w) A (setRelay a wanted) Q E s := by
  unfold setRelay
  refine wpAny_bind (wpAny_setState_of ho hd I.fits ?_)
  dsimp only
  rw [if_neg (by rw [hM]; show ¬ (M + 1 > sizeLine); rw [sizeLine_eq]; omega)]
  obtain ⟨t', order, r1, r2, r3, r4, r5, r6, r7, r8, r9⟩ := laid_spec C hl t.finger (t.movedTo M) t.led t.plain
  have e : t.relaid (es.map (·.1)) wanted = some (t', order) := by
    unfold SetTable.relaid
    rw [hM]; exact r1
  rw [e]
  have step : wpAny (model prog w) A (if ((order.filterMap (es[·]?)).size != es.size) = true then (do unsupported "internal:set-table-lost-an-element"; pure (order.filterMap (es[·]?), t')) else pure (order.filterMap (es[·]?), t')) (fun r s' => wpAny (model prog w) A (storeSet a r.1 r.2) Q E s') E s := by
    rw [if_neg (by rw [r7]; simp)]
    refine wpAny_pure ?_
    obtain ⟨o', g1, g2, g3⟩ := get_put (es' := order.filterMap (es[·]?)) (t' := t') ho hx hd
    exact wpAny_storeSet_of ho hd (h _ t' o' _ (Heap.SameBut.update _ _ _) g1 g2 g3 r2 r8 r7 r9) (by rw [r7, sizeLine_eq]; omega)
  exact wpAny_bind step
theorem add_ok {ok : Addr → Prop} {a x : Addr} {S : List (List K)} {ks : List K} {Q : Bool → Shared → Prop} (hu : A.units < cLine) (T : SetT knd ok s.heap a S) (hx : IsTupleKey knd s.heap ks x) (hok : ok x) (hS : S.length < 76)
    (h : ∀ b h', Heap.SameBut a s.heap h' → SetT knd ok h' a (if ks ∈ S then S else S ++ [ks]) → Q b { s with heap := h' }) :
    wpAny (model prog w) A (setAddHashed a (.ref x) (tupleKeyHash knd ks)) Q E s := by
  obtain ⟨o, es, ep, t, ho, hex, hd, I, X, hm, hn, hr, hk⟩ := T.ex
  obtain ⟨C, om⟩ := cyc_room hr
  obtain ⟨N, N0, N1, N2⟩ := I.first (tupleKeyHash knd ks)
  unfold setAddHashed setAddHashedIn
  refine wpAny_holding (wpAny_bind (wpAny_setState_of ho hd I.fits ?_))
  dsimp only
  rw [if_neg (by simp [byScan, Value.scannable])]
  unfold setSearch
  refine wpAny_bind (search_ok hu ho hd I X hx om N0 N1 N2 (fun yes => ?_) (fun no => ?_) 100000 0 none (Nat.zero_le _) ?_ rfl fun m hm => absurd hm (Nat.not_lt_zero _))
  · dsimp only
    refine wpAny_pure ?_
    have := h false s.heap (Heap.SameBut.refl _ _) (by rw [if_pos ((hm ks).mp yes)]; exact T)
    exact this
  · dsimp only
    refine wpAny_bind (wpAny_setState_of ho hd I.fits ?_)
    dsimp only
    have hz : es.size + 1 ≤ t.mask := by
      rcases hr with ⟨e, _⟩ | ⟨e, _⟩ | ⟨e, _⟩ <;> omega
    obtain ⟨I', p1, p2⟩ := I.put (x := Value.ref x) N1 N2 hz
    have no' : ks ∉ S := fun z => no ((hm ks).mpr z)
    have fin : ∀ (t1 : SetTable), t1.mask = t.mask → t1.place = (t.put (pth t.mask (tupleKeyHash knd ks) N).j).1.place → t1.dummies = #[] →
        wpAny (model prog w) A (do
          storeSet a (SetTable.insertAt es (t.put (pth t.mask (tupleKeyHash knd ks) N).j).2 (tupleKeyHash knd ks, Value.ref x)) t1
          if (!false && t1.tooFull) = true then do
              setRelay a (SetTable.grown (es.size + 1))
              pure true
            else pure true) Q E s := by
      intro t1 e1 e2 e3
      have I1 : SI t1 (SetTable.insertAt es (t.put (pth t.mask (tupleKeyHash knd ks) N).j).2 (tupleKeyHash knd ks, Value.ref x)) := by
        obtain ⟨⟨a1, a2, a3, a4⟩, b, c, d⟩ := I'
        have em : (t.put (pth t.mask (tupleKeyHash knd ks) N).j).1.mask = t.mask := rfl
        rw [em] at a4 b c d
        refine ⟨⟨e3, by rw [e2]; exact a2, by rw [e2]; exact a3, by rw [e2, e1]; exact a4⟩, by rw [e1]; exact b, by rw [e1]; exact c, fun j e he => ?_⟩
        rw [e1, e2]
        exact d j e (by obtain ⟨i, i1, i2⟩ := he; exact ⟨i, by rw [← e2]; exact i1, i2⟩)
      obtain ⟨o1, g1, g2, g3⟩ := get_put (es' := SetTable.insertAt es (t.put (pth t.mask (tupleKeyHash knd ks) N).j).2 (tupleKeyHash knd ks, Value.ref x)) (t' := t1) ho hex hd
      have sb1 := Heap.SameBut.update s.heap a (Obj.putSet (SetTable.insertAt es (t.put (pth t.mask (tupleKeyHash knd ks) N).j).2 (tupleKeyHash knd ks, Value.ref x)) t1)
      have done : ∀ (h' : Heap) (es' : Array (Int × Value)) (t' : SetTable) (o' : Obj) (ep' : Nat), Heap.SameBut a s.heap h' → h'.get? a = some o' → o'.ExactSet → o'.data = .set es' ep' t' → SI t' es' → es'.size = es.size + 1 → (∀ e, e ∈ es'.toList ↔ e = (tupleKeyHash knd ks, Value.ref x) ∨ e ∈ es.toList) → RoomIn t'.mask es'.size → Q true { s with heap := h' } := by
        intro h' es' t' o' ep' sb q1 q2 q3 q4 q5 q6 q7
        refine h true h' sb ⟨o', es', ep', t', q1, q2, q3, q4, ⟨fun e he => ?_⟩, fun k2 => ?_, ?_, q7, fun e he b eb => ?_⟩
        · rcases (q6 e).mp he with rfl | he
          · exact ⟨ks, x, rfl, key_but ho hd sb hx, rfl⟩
          · obtain ⟨k3, b3, c1, c2, c3⟩ := X.el e he
            exact ⟨k3, b3, c1, key_but ho hd sb c2, c3⟩
        · rw [if_neg no', List.mem_append, ← hm k2]
          constructor
          · rintro ⟨e, he, b, eb, kb⟩
            have kb := key_back q1 q3 sb kb
            rcases (q6 e).mp he with rfl | he
            · cases eb
              exact .inr (by rw [kb.inj hx]; simp)
            · exact .inl ⟨e, he, b, eb, kb⟩
          · rintro (⟨e, he, b, eb, kb⟩ | z)
            · exact ⟨e, (q6 e).mpr (.inr he), b, eb, key_but ho hd sb kb⟩
            · simp at z; subst z
              exact ⟨_, (q6 _).mpr (.inl rfl), x, rfl, key_but ho hd sb hx⟩
        · rw [if_neg no', q5, hn]; simp
        · rcases (q6 e).mp he with rfl | he
          · cases eb; exact hok
          · exact hk e he b eb
      refine wpAny_bind (wpAny_storeSet_of ho hd ?_ (by rw [p2, sizeLine_eq]; omega))
      have tf : t1.tooFull = decide ((es.size + 1) * 5 ≥ t.mask * 3) := by
        unfold SetTable.tooFull SetTable.fill
        have : t1.place.size = es.size + 1 := by have := I1.tab.siz; rw [p2] at this; exact this
        rw [this, e1, e3]; simp
      by_cases full : (es.size + 1) * 5 ≥ t.mask * 3
      · rw [if_pos (by rw [tf]; simpa using full)]
        have big : ∃ M, Cyc M ∧ SetTable.sizeAbove (SetTable.grown (es.size + 1)) = M + 1 ∧ M ≤ 127 ∧ es.size + 1 ≤ M ∧ RoomIn M (es.size + 1) := by
          rcases hr with ⟨e, l⟩ | ⟨e, l⟩ | ⟨e, l⟩
          · have : es.size = 4 := by omega
            rw [this]
            exact ⟨31, cyc31, by decide +kernel, by omega, by omega, .inr (.inl ⟨rfl, by omega⟩)⟩
          · have : es.size = 18 := by omega
            rw [this]
            exact ⟨127, cyc127, by decide +kernel, by omega, by omega, .inr (.inr ⟨rfl, by omega⟩)⟩
          · omega
        obtain ⟨M, c1, c2, c3, c4, c5⟩ := big
        refine wpAny_bind (relay_ok g1 g2 g3 I1 c1 (by rw [p2]; exact c4) c2 c3 fun es' t' o' h' sb q1 q2 q3 q4 q5 q6 q7 => wpAny_pure ?_)
        exact done h' es' t' o' _ (sb1.trans sb) q1 q2 q3 q5 (by rw [q6, p2]) (fun e => by rw [q7 e, mem_insertAt]) (by rw [q4, q6, p2]; exact c5)
      · rw [if_neg (by rw [tf]; simpa using full)]
        refine wpAny_pure (done _ _ t1 o1 _ sb1 g1 g2 g3 I1 p2 (fun e => mem_insertAt) ?_)
        rw [e1, p2]
        rcases hr with ⟨e, l⟩ | ⟨e, l⟩ | ⟨e, l⟩
        · exact .inl ⟨e, by omega⟩
        · exact .inr (.inl ⟨e, by omega⟩)
        · exact .inr (.inr ⟨e, by omega⟩)
    have ed : (t.put (pth t.mask (tupleKeyHash knd ks) N).j).1.dummies = #[] := I'.tab.dum
    split
    · refine wpAny_bind (byVal hx fun b => ?_)
      cases b
      · exact fin _ rfl rfl ed
      · exact fin _ rfl rfl ed
    · refine wpAny_bind (wpAny_pure ?_)
      exact fin _ rfl rfl ed
  · have : 10 * turns t.mask ≤ 1420 := by
      rcases hr with ⟨e, _⟩ | ⟨e, _⟩ | ⟨e, _⟩ <;> rw [e] <;> decide
    omega
end
end LS
set_option linter.all false
set_option autoImplicit false
set_option maxRecDepth 100000
namespace LS
open PySem PySem.Spec PyProof.Rows
section
variable {prog : Program} {w : World} {K : Type} [DecidableEq K] {knd : PySem.KeyKind prog w K}
def ddK (S : List (List K)) (ks : List K) : List (List K) := if ks ∈ S then S else S ++ [ks]
def dds (keys : List (List K)) : List (List K) := keys.foldl ddK []
theorem dds_len (keys : List (List K)) : (dds keys).length ≤ keys.length := by
  have : ∀ (l S : List (List K)), (l.foldl ddK S).length ≤ S.length + l.length := by
    intro l
    induction l with
    | nil => intro S; simp
    | cons k l ih =>
      intro S
      have := ih (ddK S k)
      have h2 : (ddK S k).length ≤ S.length + 1 := by unfold ddK; split <;> simp
      simp only [List.foldl_cons, List.length_cons]; omega
  have := this keys []
  simpa [dds] using this
theorem dds_succ {keys : List (List K)} {i : Nat} {ks : List K} (h : keys[i]? = some ks) : dds (keys.take (i + 1)) = ddK (dds (keys.take i)) ks := by
  unfold dds
  rw [List.take_add_one, h]
  simp [List.foldl_append]
section
variable {A : Around} {R : Result → Shared → Prop} {I : Addr} {fp wr : List Addr} {G : Array GenState → Array GenState → Prop} {n : Nat} {P : Nat → Value → Prop} {St : Nat → Shared → Prop}
def Keyed' (knd : PySem.KeyKind prog w K) (keys : List (List K)) (P : Nat → Value → Prop) (no : List Addr) (h : Heap) : Prop := ∀ i v, P i v → ∃ b ks, v = .ref b ∧ b ∉ no ∧ keys[i]? = some ks ∧ IsTupleKey knd h ks b
theorem Keyed'.but {keys : List (List K)} {no : List Addr} {h h' : Heap} (k : Keyed' knd keys P no h) (m : ∀ b o, b ∉ no → h.get? b = some o → h'.get? b = some o) : Keyed' knd keys P no h' := fun i v p => by
  obtain ⟨b, ks, e, nb, q, o, it, c, ho, r⟩ := k i v p
  exact ⟨b, ks, e, nb, q, o, it, c, m b o nb ho, r⟩
theorem SetT.moved {ok : Addr → Prop} {h h' : Heap} {S : Addr} {L : List (List K)} (T : SetT knd ok h S L) (mS : ∀ o, h.get? S = some o → h'.get? S = some o) (m : ∀ b o, ok b → h.get? b = some o → h'.get? b = some o) : SetT knd ok h' S L := by
  obtain ⟨o, es, ep, t, ho, hex, hd, SI', X, hm, hn, hr, hb⟩ := T.ex
  have kp : ∀ e ∈ es.toList, ∀ b ks, e.2 = .ref b → (IsTupleKey knd h ks b ↔ IsTupleKey knd h' ks b) := fun e he b ks eb => by
    have nb := hb e he b eb
    obtain ⟨k2, b2, c1, ⟨o2, it, c, g1, g2⟩, c3⟩ := X.el e he
    rw [eb] at c1; cases c1
    have g1' := m b o2 nb g1
    constructor
    · rintro ⟨o', it', c', q1, q2⟩
      rw [g1] at q1; cases q1
      exact ⟨o2, it', c', g1', q2⟩
    · rintro ⟨o', it', c', q1, q2⟩
      rw [g1'] at q1; cases q1
      exact ⟨o2, it', c', g1, q2⟩
  refine ⟨o, es, ep, t, mS o ho, hex, hd, SI', ⟨fun e he => ?_⟩, fun ks => ?_, hn, hr, hb⟩
  · obtain ⟨k2, b2, c1, c2, c3⟩ := X.el e he
    exact ⟨k2, b2, c1, (kp e he b2 k2 c1).mp c2, c3⟩
  · rw [← hm ks]
    constructor
    · rintro ⟨e, he, b, eb, kb⟩; exact ⟨e, he, b, eb, (kp e he b ks eb).mpr kb⟩
    · rintro ⟨e, he, b, eb, kb⟩; exact ⟨e, he, b, eb, (kp e he b ks eb).mp kb⟩
theorem loop_ok (W : WalksS prog w A.in1 I fp wr G n P St) (S : Addr) (hSf : S ∉ fp) (keys : List (List K)) (hn : keys.length = n) (hb : n < 77) (hu : A.in1.units < cLine) :
    ∀ (k i : Nat) (s : Shared), n - i = k → i ≤ n → St i s → Keyed' knd keys P (S :: wr) s.heap → SetT knd (fun b => b ∉ S :: wr) s.heap S (dds (keys.take i)) →
      (∀ s', Moved (S :: wr) G s s' → SetT knd (fun b => b ∉ S :: wr) s'.heap S (dds keys) → R (.ok (.ret .none)) s') →
      codeAny (model prog w) A (.builtin "set.update.loop" ⟨[.ref S, .ref I], []⟩) R s := by
  have hSw : S ∉ wr := fun h => hSf (W.sub _ h)
  have hsub : ∀ b ∈ wr, b ∈ S :: wr := fun b hb => List.mem_cons_of_mem _ hb
  have keep : ∀ {s s' : Shared} {L : List (List K)}, Moved wr G s s' → SetT knd (fun b => b ∉ S :: wr) s.heap S L → SetT knd (fun b => b ∉ S :: wr) s'.heap S L := fun m T =>
    T.moved (fun o e => m.heap S o hSw e) fun b o nb e => m.heap b o (fun z => nb (hsub b z)) e
  intro k
  induction k with
  | zero =>
    intro i s hk hi hst ky T hR
    have e : i = n := by omega
    subst e
    refine codeAny_builtin F.entry_set_update_loop ?_
    rw [Around.under_plainId F.plain_set_update_loop _]
    show wpAny _ A.in1 (pyNext (.ref I) >>= _) _ _ s
    refine wpAny_bind (W.done s _ _ hst fun s' hm => ?_)
    show wpAny _ A.in1 (ret Value.none) _ _ s'
    rw [← hn, List.take_length] at T
    exact wpAny_pure (hR s' (hm.mono hsub) (keep hm T))
  | succ k ih =>
    intro i s hk hi hst ky T hR
    have hlt : i < n := by omega
    refine codeAny_builtin F.entry_set_update_loop ?_
    rw [Around.under_plainId F.plain_set_update_loop _]
    show wpAny _ A.in1 (pyNext (.ref I) >>= _) _ _ s
    refine wpAny_bind (W.item i s _ _ hlt hst fun v s' hP hst' hm => ?_)
    have ky' : Keyed' knd keys P (S :: wr) s'.heap := ky.but fun b o nb e => hm.heap b o (fun z => nb (hsub b z)) e
    have T' := keep hm T
    obtain ⟨b, ks, rfl, nb, ek, kb⟩ := ky' i v hP
    show wpAny _ A.in1 (holding [Value.ref b] (setAdd S (.ref b)) >>= _) _ _ s'
    refine wpAny_bind (wpAny_holding ?_)
    unfold setAdd
    refine wpAny_holding (wpAny_bind (wpAny_pyHash_tuple hu kb ?_))
    have room : (dds (keys.take i)).length < 76 := by
      have := dds_len (keys.take i)
      rw [List.length_take] at this; omega
    refine add_ok (s := { s' with toks := s'.toks + (ks.length + 1) }) hu T' kb nb room fun c h' sb T2 => ?_
    have T3 : SetT knd (fun b => b ∉ S :: wr) h' S (dds (keys.take (i + 1))) := by rw [dds_succ ek]; exact T2
    have far : ∀ b' o, b' ∉ S :: wr → s'.heap.get? b' = some o → h'.get? b' = some o := fun b' o nb' e => by
      rw [sb.2 b' (fun z => nb' (by rw [z]; exact List.mem_cons_self))]; exact e
    refine wpAny_pure ⟨plainId_quiet F.plain_set_update_loop _, ih (i + 1) _ (by omega) hlt (W.frame _ s' _ _ hst' (Nat.le_add_right _ _) fun b' hb' o e => ?_) (ky'.but far) T3 fun s'' hm'' hS'' => ?_⟩
    · rw [sb.2 b' (fun h : b' = S => hSf (by rw [← h]; exact hb'))]; exact e
    · refine hR s'' (Moved.trans W.gtrans ((hm.mono hsub).then_heap (Nat.le_add_right _ _) fun b' o hb' e => ?_) hm'') hS''
      rw [sb.2 b' (fun h : b' = S => hb' (by rw [h]; exact List.mem_cons_self))]; exact e
end
end
end LS
set_option linter.all false
set_option autoImplicit false
set_option maxRecDepth 100000
namespace LS
open PySem PySem.Spec PyProof.Rows
section
variable {prog : Program} {w : World} {A : Around} {E : Value → Shared → Prop} {s : Shared} {K : Type} [DecidableEq K] {knd : PySem.KeyKind prog w K}
def setObj (led : Bool) : Obj := { cls := .type "set", dict := none, data := .set #[] 0 (.fresh 0 0 led) }
theorem SetT.new {ok : Addr → Prop} {h : Heap} {S : Addr} {led : Bool} (e : h.get? S = some (setObj led)) : SetT knd ok h S [] :=
  ⟨_, #[], 0, _, e, ⟨rfl, rfl, rfl⟩, rfl, ⟨⟨rfl, rfl, by simp [SetTable.fresh], by simp [SetTable.fresh]⟩, cyc7, Nat.zero_le _, fun j e he => by obtain ⟨i, _, q⟩ := he; simp at q⟩, ⟨fun e he => by simp at he⟩, fun ks => ⟨fun ⟨e, he, _⟩ => by simp at he, fun z => by simp at z⟩, rfl, .inl ⟨rfl, by show 0 < 5; omega⟩, fun e he => by simp at he⟩
set_option maxHeartbeats 3200000 in
theorem call_set_ok {l : Addr} {items : Array Value} {keys : List (List K)} {Q : Value → Shared → Prop} (hh : A.handled = none) (hu : A.units + 64 < cLine) (hl : s.heap.IsList l items) (hk : keys.length = items.size) (hb : items.size < 77)
    (hi : ∀ (i : Nat) v, items[i]? = some v → ∃ b ks, v = .ref b ∧ keys[i]? = some ks ∧ IsTupleKey knd s.heap ks b)
    (h : ∀ (h' : Heap) (tk : Nat), SetT knd (fun _ => True) h' s.heap.objs.size (dds keys) → (∀ b o, s.heap.get? b = some o → h'.get? b = some o) → Q (.ref s.heap.objs.size) { s with heap := h', toks := tk }) :
    wpAny (model prog w) A (call (.type "set") [.ref l]) Q E s := by
  obtain ⟨c, tl, hmro⟩ := F.called_set.mro
  have hmade := F.called_set.made
  have hsub := F.called_set.sub
  refine wpAny_call (codeAny_of_tree ?_)
  show wpAny _ _ (callAny (.type "set") _) _ _ _
  refine wpAny_pure ⟨Code.quiet_builtin _ (by decide +kernel), codeAny_builtin F.entry_type_call ?_⟩
  rw [Around.under_plain (weight_type_call_type "set" [.ref l] []) rfl]
  have h1 := F.called_set.notType
  have h2 := F.called_set.canCreate
  have hct := F.typeCall_set_1 (.ref l)
  repeat (any_goals (first | assumption | wp_step))
  refine codeAny_mono (code_set_new_1 (.ref l) (E := E) (Q₁ := fun obj s₁ => ∃ led : Bool, obj = .ref s.heap.objs.size ∧ s₁ = { s with heap := s.heap.push (setObj led) }) fun led => ⟨led, rfl, rfl⟩) fun r s₁ hr => ?_
  rcases r with e | fl
  · exact hr
  · cases fl with
    | ret obj =>
      obtain ⟨led, rfl, rfl⟩ := hr
      have hS : (s.heap.push (setObj led)).get? s.heap.objs.size = some (setObj led) := Heap.get?_push_size _ rfl
      have hT : Shared.TypeIs { s with heap := s.heap.push (setObj led) } (.ref s.heap.objs.size) "set" := ⟨_, hS, rfl⟩
      have hli := F.called_set.init.lookup
      have hbi := F.called_set.init.bind (.ref s.heap.objs.size)
      repeat (any_goals (first | assumption | wp_step))
      refine codeAny_mono (codeAny_call_builtin (R := wants (fun r s₂ => r = .none ∧ ∃ h' tk, s₂ = { s with heap := h', toks := tk } ∧ SetT knd (fun _ => True) h' s.heap.objs.size (dds keys) ∧ (∀ b o, s.heap.get? b = some o → h'.get? b = some o)) E) F.called_set.init.plain F.entry_set_init (check_set_init_1 hT ?_)) fun r₂ s₂ hr₂ => ?_
      · obtain ⟨ol, hol, hcl, nl, hdl⟩ := hl
        obtain ⟨ocls, odict, odata, oslots⟩ := ol
        simp only at hcl hdl
        subst hcl; subst hdl
        have hol' : (s.heap.push (setObj led)).get? l = some { cls := .type "list", dict := odict, data := .seq items nl, slots := oslots } := Heap.get?_push_of_some _ hol
        have hsls := F.sub_list_set
        have hslf := F.sub_list_frozenset
        have hne : (Value.type "list" == Value.type "dict") = false := by decide
        have hl1 : (s.heap.push (setObj led)).IsList l items := ⟨_, hol', rfl, nl, rfl⟩
        unfold Builtin.«set.__init__» noKeywords Builtin.Frozenset.updateFrom
        generalize hPI : pyIter = PI
        wp_walk
        subst hPI
        refine wpAny_pyIter_list hl1 ?_
        refine wpAny_bind (wpAny_runValue ?_)
        have hlS : l < s.heap.objs.size := Heap.lt_size hol
        have esz : (s.heap.push (setObj led)).objs.size = s.heap.objs.size + 1 := Heap.size_push _ _
        have hneI : l ≠ (s.heap.push (setObj led)).objs.size := by rw [esz]; exact Nat.ne_of_lt (Nat.lt_succ_of_lt hlS)
        have hSf : s.heap.objs.size ∉ [(s.heap.push (setObj led)).objs.size, l] := by
          rw [esz]; simp only [List.mem_cons, List.mem_singleton, List.not_mem_nil, or_false, not_or]; exact ⟨Nat.ne_of_lt (Nat.lt_succ_self _), Nat.ne_of_gt hlS⟩
        have get0 : ∀ b o, s.heap.get? b = some o → ((s.heap.push (setObj led)).push { cls := .type "list_iterator", data := .fields #[.ref l, .int 0 0] }).get? b = some o := fun b o e => Heap.get?_push_of_some _ (Heap.get?_push_of_some _ e)
        have far : ∀ b o, s.heap.get? b = some o → b ∉ s.heap.objs.size :: [(s.heap.push (setObj led)).objs.size] := fun b o e => by
          have := Heap.lt_size e
          rw [esz]; simp only [List.mem_cons, List.mem_singleton, List.not_mem_nil, or_false, not_or]; exact ⟨Nat.ne_of_lt this, Nat.ne_of_lt (Nat.lt_succ_of_lt this)⟩
        refine loop_ok (knd := knd) ((Walks.list (by simp [hh]) _ l hneI items).toS) s.heap.objs.size hSf keys hk hb (by simp only [Around.in1_units]; omega) (items.size - 0) 0 _ (by omega) (Nat.zero_le _)
          ⟨⟨_, Heap.get?_push_size _ rfl, rfl, rfl⟩, (hl1.push _)⟩ (fun i v p => ?_) (SetT.new (led := led) (Heap.get?_push_of_some _ hS)) ?hR
        · obtain ⟨b, ks, rfl, q, o, it, c, ho, r⟩ := hi i v p
          exact ⟨b, ks, rfl, far b o ho, q, o, it, c, get0 b o ho, r⟩
        case hR =>
          intro s' hm hS'
          obtain ⟨h', g', d', tk', os'⟩ := s'
          have eg : g' = s.gens := hm.gens
          have ed : d' = s.drawn := hm.drawn
          have eo : os' = s.os := hm.os
          subst eg; subst ed; subst eo
          show wpAny _ _ _ _ _ _
          refine wpAny_pure ?_
          show wpAny _ _ (ret Value.none) _ _ _
          obtain ⟨o, es, ep, t, q1, q2, q3, q4, q5, q6, q7, q8, q9⟩ := hS'.ex
          exact wpAny_pure ⟨rfl, h', tk', rfl, ⟨o, es, ep, t, q1, q2, q3, q4, q5, q6, q7, q8, fun _ _ _ _ => trivial⟩, fun b o e => hm.heap b o (far b o e) (get0 b o e)⟩
      · rcases r₂ with e | fl₂
        · exact hr₂
        · cases fl₂ with
          | ret r =>
            obtain ⟨rfl, h', tk, rfl, hS', hk'⟩ := hr₂
            repeat (any_goals (first | assumption | wp_step))
            exact h _ _ hS' hk'
          | _ => exact hr₂.elim
    | _ => exact hr.elim
end
end LS
set_option linter.all false
set_option autoImplicit false
namespace LT
open PySem PyProof.Rows
structure Bs (kd : SortKind) (a₀ : Array Keyed) (st : SortSt) : Prop where
  k : kindOf st = kd
  p : (arrOf st).Perm a₀
  n : pendingOf st = #[]
  f : failedOf st = none
theorem Bs.sz {kd : SortKind} {a₀ : Array Keyed} {st : SortSt} (b : Bs kd a₀ st) : (arrOf st).size = a₀.size := b.p.size_eq
theorem Bs.to {kd : SortKind} {a₀ : Array Keyed} {st : SortSt} (b : Bs kd a₀ st) {xs : Array Keyed} (q : xs.Perm (arrOf st)) : Bs kd a₀ (setArr st xs) := ⟨b.k, q.trans b.p, b.n, b.f⟩
structure Cm (prog : Program) (w : World) (A : Around) (s : Shared) (kd : SortKind) (κ : KeyKind) (a₀ : Array Keyed) : Prop where
  lt : ∀ (E : Value → Shared → Prop) (x y : Keyed) {Q : Bool → Shared → Prop}, x ∈ a₀.toList → y ∈ a₀.toList → Q (κ.blt ((κ.keyOf x.1).getD κ.dflt) ((κ.keyOf y.1).getD κ.dflt)) s → wpAny (model prog w) A (keyLt' kd x.1 y.1) Q E s
section
variable {prog : Program} {w : World} {A : Around} {E : Value → Shared → Prop} {s : Shared} {a₀ : Array Keyed} {κ : KeyKind} {kd : SortKind}
theorem Bs.at {st : SortSt} (b : Bs kd a₀ st) {i : Nat} (hi : i < a₀.size) : ∃ x, (arrOf st)[i]? = some x ∧ x ∈ a₀.toList ∧ KK κ (arrOf st) i = (κ.keyOf x.1).getD κ.dflt := by
  have g : i < (arrOf st).size := by rw [b.sz]; exact hi
  have e := getElem?_pos (arrOf st) i g
  refine ⟨_, e, (Array.perm_iff_toList_perm.mp b.p).mem_iff.mp (by simp), ?_⟩
  unfold KK; rw [e]
theorem lt_at (C : Cm prog w A s kd κ a₀) {st : SortSt} (b : Bs kd a₀ st) {i j : Nat} {Q : Option Bool → SortSt → Prop} (hi : i < a₀.size) (hj : j < a₀.size) (h : Q (some (κ.blt (KK κ (arrOf st) i) (KK κ (arrOf st) j))) st) : wpS (model prog w) A E s (ltAt' i j) Q st := by
  obtain ⟨x, x1, x2, x3⟩ := b.at (κ := κ) hi
  obtain ⟨y, y1, y2, y3⟩ := b.at (κ := κ) hj
  rw [x3, y3] at h
  rw [ltAt'_eq]
  refine wpS_bind (wpS_get ?_)
  show wpS _ _ _ _ (elem' (arrOf st) i >>= fun x => elem' (arrOf st) j >>= fun y => lt' x y) Q st
  rw [elem'_eq, x1, elem'_eq, y1]
  refine wpS_bind (wpS_pure (wpS_bind (wpS_pure ?_)))
  rw [lt'_eq]
  refine wpS_bind (wpS_get (wpS_bind (wpS_lift (wpAny_attempt ?_))))
  rw [b.k]
  exact C.lt _ x y x2 y2 ⟨rfl, wpS_pure h⟩
theorem up_one {xs : Array Keyed} : SortedToK κ xs 1 := fun i j a c => by
  have : i = j := by omega
  subst this; exact KeyOrd.kle_refl _
theorem bin_ok (C : Cm prog w A s kd κ a₀) {st : SortSt} {n ok : Nat} {Q : Bool → SortSt → Prop} (hn : n ≤ a₀.size) (hk : ok ≤ n) (b : Bs kd a₀ st) (hs : SortedToK κ (arrOf st) ok)
    (h : ∀ t, Bs kd a₀ t → SortedToK κ (arrOf t) n → Q true t) : wpS (model prog w) A E s (binarySort' 0 n ok) Q st := by
  rw [binarySort'_eq]
  simp only [Nat.zero_add]
  refine wpS_bind (wpS_mono (wpS_forRange (I := fun k c t => c = (none, ()) ∧ Bs kd a₀ t ∧ SortedToK κ (arrOf t) (min k n)) (Q := fun c t => c = (none, ()) ∧ Bs kd a₀ t ∧ SortedToK κ (arrOf t) n) ?_ ?_ ?_) ?_)
  · rintro k c t k1 k2 ⟨rfl, b, g⟩
    have ek : min k n = k := by omega
    rw [ek] at g
    have hz : k < (arrOf t).size := by rw [b.sz]; omega
    refine wpS_bind (wpS_mono (wpS_forRange (I := fun x c u => u = t ∧ ∃ l r, c = (none, l, r) ∧ l ≤ r ∧ r ≤ k ∧ r - l ≤ k - x ∧ (∀ i, i < l → κ.kle (KK κ (arrOf t) i) (KK κ (arrOf t) k)) ∧ ∀ i, r ≤ i → i < k → κ.klt (KK κ (arrOf t) k) (KK κ (arrOf t) i))
      (Q := fun c u => u = t ∧ ∃ l r, c = (none, l, r) ∧ l ≤ k ∧ (∀ i, i < l → κ.kle (KK κ (arrOf t) i) (KK κ (arrOf t) k)) ∧ ∀ i, l ≤ i → i < k → κ.klt (KK κ (arrOf t) k) (KK κ (arrOf t) i)) ?_ ?_ ⟨rfl, 0, k, rfl, by omega, by omega, by omega, fun i z => by omega, fun i z z' => by omega⟩) ?_)
    · rintro x c u _ x2 ⟨rfl, l, r, rfl, l1, l2, l3, lo, hi⟩
      dsimp only
      by_cases z : l ≥ r
      · rw [if_pos z]
        have e : l = r := by omega
        subst e
        exact wpS_pure ⟨rfl, l, l, rfl, l2, lo, hi⟩
      rw [if_neg z]
      refine wpS_bind (lt_at C b (by omega) (by omega) ?_)
      cases e : κ.blt (KK κ (arrOf u) k) (KK κ (arrOf u) ((l + r) / 2)) with
      | true => exact wpS_pure ⟨rfl, l, (l + r) / 2, rfl, by omega, by omega, by omega, lo, fun i a c => KeyOrd.klt_of_klt_of_kle e (g _ _ a c)⟩
      | false => exact wpS_pure ⟨rfl, (l + r) / 2 + 1, r, rfl, by omega, by omega, by omega, fun i a => KeyOrd.kle_trans (g i ((l + r) / 2) (by omega) (by omega)) (show κ.kle _ _ from e), hi⟩
    · rintro c u ⟨rfl, l, r, rfl, l1, l2, l3, lo, hi⟩
      have e : l = r := by omega
      subst e
      exact ⟨rfl, l, l, rfl, l2, lo, hi⟩
    · rintro c u ⟨rfl, l, r, rfl, l1, lo, hi⟩
      show wpS _ _ _ _ (moveDown' k l >>= fun _ => pure (ForInStep.yield (none, ()))) _ _
      rw [moveDown'_eq]
      refine wpS_bind (wpS_modify (wpS_pure ⟨rfl, b.to (bubble_perm _ _ _), ?_⟩))
      rw [show min (k + 1) n = k + 1 by omega]
      intro i j ij jk
      show κ.kle (KK κ (bubble (arrOf u) k (k - l)) i) (KK κ (bubble (arrOf u) k (k - l)) j)
      rw [KK_bubble hz (by omega), KK_bubble hz (by omega), show k - (k - l) = l by omega]
      repeat' split
      all_goals first | omega | exact KeyOrd.kle_refl _ | exact lo _ (by omega) | exact KeyOrd.kle_of_klt (hi _ (by omega) (by omega)) | exact g _ _ (by omega) (by omega)
  · rintro c t ⟨rfl, b, g⟩
    rw [show min (max (max ok 1) n) n = n by omega] at g
    exact ⟨rfl, b, g⟩
  · refine ⟨rfl, b, ?_⟩
    by_cases z : ok = 0
    · subst z
      intro i j a c
      exact up_one i j a (by omega)
    · rw [show min (max ok 1) n = ok by omega]; exact hs
  · rintro c t ⟨rfl, b, g⟩
    exact wpS_pure (h t b g)
end
end LT
set_option linter.all false
set_option autoImplicit false
namespace LT
open PySem PyProof.Rows
section
variable {prog : Program} {w : World} {A : Around} {E : Value → Shared → Prop} {s : Shared}
end
end LT
set_option linter.all false
set_option autoImplicit false
namespace LT
open PySem PyProof.Rows
section
variable {prog : Program} {w : World} {A : Around} {E : Value → Shared → Prop} {s : Shared}
end
end LT
set_option linter.all false
set_option autoImplicit false
namespace LT
open PySem PyProof.Rows
section
variable {prog : Program} {w : World} {A : Around} {E : Value → Shared → Prop} {s : Shared}
end
end LT
set_option Elab.async false
set_option linter.all false
set_option maxRecDepth 100000
set_option autoImplicit false
namespace L2
open PySem PySem.Spec PyProof.Rows
section
variable {X : Cx}
def SzAt (a : Addr) (n : Nat) (h : Heap) : Prop := ∃ o es ep t, h.get? a = some o ∧ o.ExactSet ∧ o.data = .set es ep t ∧ t.fits es.size = true ∧ es.size = n
def szO (a : Addr) (n : Nat) : HO := .ext (SzAt a n)
theorem szO_ok {P : Program} {w : World} {H : Hp} {h : Heap} {a : Addr} {n : Nat} (x : SzAt a n h) : ObjOk P w H h a (szO a n) :=
  ⟨x, by obtain ⟨o, _, _, _, e, _⟩ := x; exact ⟨o, e⟩, fun h1 h2 y k => by obtain ⟨o, es, ep, t, e, r⟩ := y; exact ⟨o, es, ep, t, k o e, r⟩⟩
def KTs (H : Hp) (ys : List V) (keys : List (List Key)) : Prop := keys.length = ys.length ∧ ∀ (i : Nat) y k, ys[i]? = some y → keys[i]? = some k → ∃ b, y = .ref b ∧ H b = some (.tup (k.map kV))
def rSet (K : PySem.W.Frag) : List V → Hp → VK → Prop := fun xs H Q => ∃ p ys keys, xs = [.ref p] ∧ SqL K H p ys ∧ ys.length < 77 ∧ KTs H ys keys ∧ ∀ l, H l = none → Q (.ref l) (upd H l (szO l (LS.dds keys).length))
theorem call_setT (hh : X.A.handled = none) (hu : X.A.units + 64 < cLine) : CallR X (.type "set") (rSet X.K) := by
  intro pins s σ H xs us Q I r h
  obtain ⟨p, ys, keys, rfl, hq, hn, ⟨hl, hk⟩, q⟩ := h
  obtain ⟨u, rfl, rx⟩ := vals1 r
  cases rx
  obtain ⟨its, r', pl, hz⟩ := I.list hq
  have hlen := r'.length
  refine LS.call_set_ok (knd := mixKind X.prog X.w) (items := its.toArray) (keys := keys) hh hu pl.isList (by rw [List.size_toArray]; omega) (by rw [List.size_toArray]; omega) (fun i v hv => ?_) fun h' tk T kp => ?_
  · have hv : its[i]? = some v := by simpa using hv
    have hi := (List.getElem?_eq_some_iff.mp hv).1
    have ey : ys[i]? = some ys[i] := List.getElem?_eq_getElem (by omega)
    have ek : keys[i]? = some keys[i] := List.getElem?_eq_getElem (by omega)
    obtain ⟨b, e1, e2⟩ := hk i _ _ ey ek
    obtain ⟨v', hv', rv⟩ := r'.get ey
    rw [hv] at hv'; cases hv'
    rw [e1] at rv
    cases rv
    exact ⟨b, _, rfl, ek, key_of I.hok e2⟩
  · obtain ⟨o, es, ep, t, g1, g2, g3, g4, g5, g6, g7, g8⟩ := T.ex
    exact ⟨.ref s.heap.objs.size, _, I.laid (t' := tk) kp (Nat.le_refl _) (szO_ok ⟨o, es, ep, t, g1, g2, g3, g4.fits, g7⟩), rfl, q _ (I.hok.fresh (Nat.le_refl _))⟩
def rLenSz : List V → Hp → VK → Prop := fun xs H Q => ∃ a n, xs = [.ref a] ∧ H a = some (szO a n) ∧ n < 1000 ∧ Q (.int n) H
theorem call_lenSz : CallR X (.builtin "len") rLenSz := by
  intro pins s σ H xs us Q I r h
  obtain ⟨a, n, rfl, ha, hn, q⟩ := h
  obtain ⟨u, rfl, rx⟩ := vals1 r
  cases rx
  obtain ⟨⟨o, es, ep, t, g1, g2, g3, g4, g5⟩, _⟩ := (show ObjOk X.prog X.w H s.heap a (szO a n) from I.hok a _ ha)
  subst g5
  exact call_len_set g1 g2 g3 g4 (by omega) ⟨.int es.size, H, I.tok _, ⟨_, rfl⟩, q⟩
def rInsert : V → List V → Hp → VK → Prop := fun x vs H Q => ∃ l xs i y, x = .ref l ∧ vs = [.int i, y] ∧ H l = some (.lst xs) ∧ 0 ≤ i ∧ i < 2 ^ 63 ∧ xs.length < sizeLine ∧ Q .non (upd H l (.lst (xs.take (min i.toNat xs.length) ++ y :: xs.drop (min i.toNat xs.length))))
theorem mt_insert : MtM X "list.insert" rInsert := by
  intro pins s σ H x vs v us Q I rx rv h
  obtain ⟨l, xs, i, y, rfl, rfl, hH, h1, h2, hz, q⟩ := h
  cases rx
  obtain ⟨u, u2, rfl, ⟨t, rfl⟩, ru⟩ : ∃ u u2, us = [u, u2] ∧ RelV (.int i) u ∧ RelV y u2 := by
    cases rv with
    | cons a1 b1 => cases b1 with
      | cons a2 b2 => cases b2; exact ⟨_, _, rfl, a1, a2⟩
  obtain ⟨z, its, n, r, hl, e⟩ := I.lstM hH
  refine call_meets F.slot_list_insert ⟨_, e, rfl⟩ F.entry_list_insert (F.args_list_insert_3 _ _ _) (AutoListH.list_insert_list_int_val_1 l its.toArray n i t u2 (by rw [fitsIndex_both (by omega) h2]; simp) (by rw [List.size_toArray]; omega)) ⟨e, ?_⟩
  refine ⟨.non, _, I.lset (its' := its.take (min i.toNat xs.length) ++ u2 :: its.drop (min i.toNat xs.length)) hH e ?_ ((r.take _).append (.cons ru (r.drop _))) ?_, rfl, q⟩
  · dsimp only
    rw [if_neg (by omega), List.size_toArray, ← hl]
    apply Array.ext'
    simp [List.extract_eq_take_drop]
    exact List.take_of_length_le (by rw [List.length_drop]; omega)
  · rw [List.length_append, List.length_cons, List.length_take, List.length_drop]; omega
end
end L2
namespace L3
open PySem PySem.Spec L2 PyProof.Rows
section
variable {X : Cx} {F : Fx} {e a b c : Expr} {es : List Expr} {pos p : Pos} {m n : ME} {ma : MA}
def keyOf1 : D → Option Key
  | .int i => some (.inl i)
  | .str x => some (.inr x)
  | _ => none
def keysOf : List D → Option (List Key)
  | [] => some []
  | d :: ds => match keyOf1 d, keysOf ds with
    | some k, some ks => some (k :: ks)
    | _, _ => none
def tupKey : D → Option (List Key)
  | .tup ds => keysOf ds
  | _ => none
def tupKeys : List D → Option (List (List Key))
  | [] => some []
  | d :: ds => match tupKey d, tupKeys ds with
    | some k, some ks => some (k :: ks)
    | _, _ => none
def lenSetD : List D → R D
  | [.lst ds] => if ds.length < 77 then match tupKeys ds with
    | some ks => .ok (.int (LS.dds ks).length)
    | none => .bad
    else .bad
  | _ => .bad
theorem keysOf_at {K : PySem.W.Frag} {G : Hp} : ∀ {ds : List D} {ks : List Key} {xs : List V}, keysOf ds = some ks → AtL K G ds xs → xs = ks.map kV
  | [], ks, xs, e, h => by
    simp only [keysOf] at e; cases e
    simp only [AtL] at h; subst h; rfl
  | d :: ds, ks, xs, e, h => by
    simp only [keysOf] at e
    split at e
    · rename_i k ks' e1 e2
      cases e
      simp only [AtL] at h
      obtain ⟨v, r, rfl, a1, a2⟩ := h
      rw [keysOf_at e2 a2, List.map_cons]
      cases d <;> simp only [keyOf1] at e1 <;> first | (cases e1; done) | (cases e1; simp only [At] at a1; subst a1; rfl)
    · cases e
theorem tupKeys_at {K : PySem.W.Frag} {G : Hp} : ∀ {ds : List D} {ks : List (List Key)} {xs : List V}, tupKeys ds = some ks → AtL K G ds xs → KTs G xs ks
  | [], ks, xs, e, h => by
    simp only [tupKeys] at e; cases e
    simp only [AtL] at h; subst h
    exact ⟨rfl, fun i y k e1 => by simp at e1⟩
  | d :: ds, ks, xs, e, h => by
    simp only [tupKeys] at e
    split at e
    · rename_i k ks' e1 e2
      cases e
      simp only [AtL] at h
      obtain ⟨v, r, rfl, a1, a2⟩ := h
      obtain ⟨l1, l2⟩ := tupKeys_at e2 a2
      refine ⟨by simp [l1], fun i y k' q1 q2 => ?_⟩
      cases i with
      | succ i => exact l2 i y k' (by simpa using q1) (by simpa using q2)
      | zero =>
        simp at q1 q2
        subst q1 q2
        cases d <;> simp only [tupKey] at e1 <;> first | (cases e1; done) | skip
        simp only [At] at a1
        obtain ⟨b, ys, rfl, g, q⟩ := a1
        exact ⟨b, rfl, by rw [g, keysOf_at e1 q]⟩
    · cases e
theorem xe_lenset {p' pos' : Pos} (hh : X.A.handled = none) (hu : X.A.units + 64 < cLine) (hm : X.mg "len" = none) (hm2 : X.mg "set" = none) (ha : XAM X F [e] ma) (hK : F.K = X.K := by rfl) (hg : Gl X "len" := by rfl) (hg2 : Gl X "set" := by rfl)
    (hs : starEach [.Call (.Name "set" p') [e] [] pos'] X.env = (false, eval (.Call (.Name "set" p') [e] [] pos') X.env) :: starEach [] X.env := by rfl) (he : starEach [e] X.env = (false, eval e X.env) :: starEach [] X.env := by rfl) (hpl : (backTo pos (starEach [] X.env)).any (·.1) = false := by rfl) (hpl2 : (backTo pos' (starEach [] X.env)).any (·.1) = false := by rfl) :
    XEM X F (.Call (.Name "len" p) [.Call (.Name "set" p') [e] [] pos'] [] pos) (mCB lenSetD ma) := by
  refine ⟨PE.imp (pe_callB call_lenSz hg hm PySem.boot_len (pa_cons (pe_callTy (call_setT hh hu) hg2 hm2 (by kernel_rfl) ha.1 (by decide) (by decide) he hpl2) pa_nil hs) (by decide) (by decide) hs hpl) ?_⟩
  rintro σ H Q ⟨G, ρ, r, h⟩
  unfold mCB at h
  refine ⟨G, ρ, r, ?_⟩
  cases ea : ma ρ with
  | bad => rw [ea] at h; exact h.elim
  | exc c => rw [ea] at h; exact h
  | ok ds =>
    rw [ea, R.bind_ok] at h
    intro vs H1 G1 r1 s1 a
    unfold lenSetD at h
    split at h
    · split at h
      · split at h
        · rename_i ks ek
          obtain ⟨v, rfl, av⟩ := a.one
          simp only [At] at av
          obtain ⟨q, xs, rfl, hq, aq⟩ := av
          have kt := tupKeys_at ek aq
          have hl := aq.length
          refine ⟨q, xs, ks, rfl, SqL.of (r1.kp.sub _ _ hq), by omega, ⟨kt.1, fun i y k e1 e2 => ?_⟩, fun l hl' => ?_⟩
          · obtain ⟨b, eb, gb⟩ := kt.2 i y k e1 e2
            exact ⟨b, eb, r1.kp.sub _ _ gb⟩
          · have := LS.dds_len ks
            have := kt.1
            refine ⟨l, _, rfl, upd_same, by omega, ?_⟩
            exact h _ _ G1 (r1.lay0 hl') (s1.trans (Up.lay0 hl')) (by simp only [At])
        · exact h.elim
      · exact h.elim
    · exact h.elim
def mExtend (i : Nat) (m : ME) : MEf := fun ρ => (ownAt i ρ).bind fun ds => (m ρ).bind fun d => match d with
  | .lst es => if ds.length + es.length ≤ 1000000 then .ok (.non, ρ.set i (.ow (ds ++ es))) else .bad
  | _ => .bad
theorem xe_extend (i : Nat) {x : Str} {px : Pos} {apos : Pos} {cpos : Pos} (he : XEM X F e m) (hN : X.N[i]? = some x := by rfl) (hv : Vis X.env.scope x := by first | exact Or.inl rfl | exact Or.inr (Or.inl rfl) | exact Or.inr (Or.inr rfl)) (hd : (x == ("__debug__" : Str)) = false := by decide) (hcd : (x == ("__classdict__" : Str)) = false := by decide)
    (hbase : attributeBase (.Name x px) "extend" X.env (eval (.Name x px) X.env) = eval (.Name x px) X.env := by rfl) (hline : (apos.endLine == cpos.line) = true := by rfl)
    (hfew : ((backTo cpos (starEach [e] X.env)).all (fun x => !x.1) && (backToKw cpos (keywordEach [] X.env)).all (fun x => x.1.isSome)
      && decide (([e] : List Expr).length + ([] : List Keyword).length + (if ([] : List Keyword).isEmpty then 0 else 1) < 30)) = true := by rfl)
    (hs : starEach [e] X.env = (false, eval e X.env) :: starEach [] X.env := by rfl) (hplain : (backTo cpos (starEach [] X.env)).any (·.1) = false := by rfl) :
    XEMf X F (.Call (.Attribute (.Name x px) "extend" apos) [e] [] cpos) (mExtend i m) := by
  refine ⟨PE.imp (pe_bm PySem.F.plainAttrs_list PySem.F.slot_list_extend PySem.F.type_list_extend mt_extend (pe_var hN hv hd hcd) (pa_cons he.1 pa_nil hs) hbase hfew hline hs hplain) ?_⟩
  rintro σ H Q ⟨G, ρ, r, h⟩
  unfold mExtend ownAt at h
  cases er : ρ[i]? with
  | none => rw [er] at h; exact h.elim
  | some s =>
    rw [er] at h
    cases s with
    | un => exact h.elim
    | fz _ => exact h.elim
    | tr _ => exact h.elim
    | ob ob =>
     cases ob with
     | dT _ _ => exact h.elim
     | ins _ _ _ => exact h.elim
     | lst ds =>
      obtain ⟨q, xs, e1, h1, h2, h3, h4⟩ := r.own er
      rw [R.bind_ok] at h
      refine ⟨.ref q, e1, .inl ⟨rfl, xs, SqL.of h1⟩, G, ρ, r, ?_⟩
      cases ea : m ρ with
      | bad => rw [ea] at h; exact h.elim
      | exc c => rw [ea] at h; exact h
      | ok d =>
        rw [ea, R.bind_ok] at h
        intro v H1 G1 r1 s1 av
        obtain ⟨q', xs', e1', h1', h2', h3', h4'⟩ := r1.own er
        rw [e1] at e1'
        cases e1'
        cases d with
        | lst es =>
          simp only at h
          split at h
          · rename_i hl
            simp only [At] at av
            obtain ⟨p2, ys, rfl, g2, q2⟩ := av
            refine ⟨q, p2, xs', ys, rfl, rfl, h1', r1.kp.sub _ _ g2, by rw [← h4'.length, ← q2.length, sizeLine_eq]; omega, ?_⟩
            exact h .non _ G1 (r1.mut er e1 (h4'.append q2)) s1.g (by simp only [At])
          · exact h.elim
        | _ => exact h.elim
def mInsert (i : Nat) (m n : ME) : MEf := fun ρ => (ownAt i ρ).bind fun ds => (m ρ).bind fun d => (n ρ).bind fun y => match d with
  | .int k => if 0 ≤ k ∧ k < 2 ^ 63 ∧ ds.length < 1000000 then .ok (.non, ρ.set i (.ow (ds.take (min k.toNat ds.length) ++ y :: ds.drop (min k.toNat ds.length)))) else .bad
  | _ => .bad
theorem xe_insert (i : Nat) {x : Str} {px : Pos} {apos : Pos} {cpos : Pos} (ha : XEM X F a m) (hb : XEM X F b n) (hN : X.N[i]? = some x := by rfl) (hv : Vis X.env.scope x := by first | exact Or.inl rfl | exact Or.inr (Or.inl rfl) | exact Or.inr (Or.inr rfl)) (hd : (x == ("__debug__" : Str)) = false := by decide) (hcd : (x == ("__classdict__" : Str)) = false := by decide)
    (hbase : attributeBase (.Name x px) "insert" X.env (eval (.Name x px) X.env) = eval (.Name x px) X.env := by rfl) (hline : (apos.endLine == cpos.line) = true := by rfl)
    (hfew : ((backTo cpos (starEach [a, b] X.env)).all (fun x => !x.1) && (backToKw cpos (keywordEach [] X.env)).all (fun x => x.1.isSome)
      && decide (([a, b] : List Expr).length + ([] : List Keyword).length + (if ([] : List Keyword).isEmpty then 0 else 1) < 30)) = true := by rfl)
    (hs : starEach [a, b] X.env = (false, eval a X.env) :: starEach [b] X.env := by rfl) (hs2 : starEach [b] X.env = (false, eval b X.env) :: starEach [] X.env := by rfl) (hplain : (backTo cpos (starEach [b] X.env)).any (·.1) = false := by rfl) :
    XEMf X F (.Call (.Attribute (.Name x px) "insert" apos) [a, b] [] cpos) (mInsert i m n) := by
  refine ⟨PE.imp (pe_bm PySem.F.plainAttrs_list PySem.F.slot_list_insert PySem.F.type_list_insert mt_insert (pe_var hN hv hd hcd) (pa_cons ha.1 (pa_cons hb.1 pa_nil hs2) hs) hbase hfew hline hs hplain) ?_⟩
  rintro σ H Q ⟨G, ρ, r, h⟩
  unfold mInsert ownAt at h
  cases er : ρ[i]? with
  | none => rw [er] at h; exact h.elim
  | some s =>
    rw [er] at h
    cases s with
    | un => exact h.elim
    | fz _ => exact h.elim
    | tr _ => exact h.elim
    | ob ob =>
     cases ob with
     | dT _ _ => exact h.elim
     | ins _ _ _ => exact h.elim
     | lst ds =>
      obtain ⟨q, xs, e1, h1, h2, h3, h4⟩ := r.own er
      rw [R.bind_ok] at h
      refine ⟨.ref q, e1, .inl ⟨rfl, xs, SqL.of h1⟩, G, ρ, r, ?_⟩
      cases ea : m ρ with
      | bad => rw [ea] at h; exact h.elim
      | exc c => rw [ea] at h; exact h
      | ok d =>
        rw [ea, R.bind_ok] at h
        intro v H1 G1 r1 s1 av
        refine ⟨G1, ρ, r1, ?_⟩
        cases eb : n ρ with
        | bad => rw [eb] at h; exact h.elim
        | exc c => rw [eb] at h; exact h
        | ok y =>
          rw [eb, R.bind_ok] at h
          intro v2 H2 G2 r2 s2 av2
          obtain ⟨q', xs', e1', h1', h2', h3', h4'⟩ := r2.own er
          rw [e1] at e1'
          cases e1'
          cases d with
          | int k =>
            simp only [At] at av
            subst av
            simp only at h
            split at h
            · rename_i hk
              have hl := h4'.length
              refine ⟨q, xs', k, v2, rfl, rfl, h1', hk.1, hk.2.1, by rw [sizeLine_eq]; omega, ?_⟩
              rw [← hl]
              exact h .non _ G2 (r2.mut er e1 ((h4'.take _).append (.cons av2 (h4'.drop _)))) (s1.trans s2).g (by simp only [At])
            · exact h.elim
          | _ => exact h.elim
def mCatO (ma : MA) (m : ME) : MA := fun ρ => (ma ρ).bind fun ds => (m ρ).bind fun d => match d with
  | .lst es => if ds.length + es.length ≤ 1000000 then .ok (ds ++ es) else .bad
  | _ => .bad
theorem xo_cat (ha : XEO X F a ma) (hb : XEM X F b m) : XEO X F (.BinOp a .Add b pos) (mCatO ma m) := by
  refine ⟨PE.imp (pe_op op_cat ha.1 hb.1) ?_⟩
  rintro σ H Q ⟨G, ρ, r, h⟩
  unfold mCatO at h
  refine ⟨G, ρ, r, ?_⟩
  cases ea : ma ρ with
  | bad => rw [ea] at h; exact h.elim
  | exc c => rw [ea] at h; exact h
  | ok ds =>
    rw [ea, R.bind_ok] at h
    intro l xs H1 G1 r1 s1 hl h1 g1 q1
    refine ⟨G1, ρ, r1, ?_⟩
    cases eb : m ρ with
    | bad => rw [eb] at h; exact h.elim
    | exc c => rw [eb] at h; exact h
    | ok d =>
      rw [eb, R.bind_ok] at h
      intro v H2 G2 r2 s2 av
      cases d with
      | lst es =>
        simp only at h
        split at h
        · rename_i hl
          simp only [At] at av
          obtain ⟨p2, ys, rfl, g2, q2⟩ := av
          refine ⟨l, p2, xs, ys, rfl, rfl, s2.h _ _ h1, r2.kp.sub _ _ g2, by rw [← q1.length, ← q2.length, sizeLine_eq]; omega, fun l' hn => ?_⟩
          exact h l' (xs ++ ys) _ G2 (r2.lay0 hn) ((s1.trans s2).trans (Up.lay0 hn)) ((s1.trans s2).h.gone hn) upd_same (r2.kp.sub.gone hn) ((q1.mono s2.g).append q2)
        · exact h.elim
      | _ => exact h.elim
def mCat2 (m n : ME) : MA := fun ρ => (m ρ).bind fun c => (n ρ).bind fun d => match c, d with
  | .lst ds, .lst es => if ds.length + es.length ≤ 1000000 then .ok (ds ++ es) else .bad
  | _, _ => .bad
theorem xo_cat2 (ha : XEM X F a m) (hb : XEM X F b n) : XEO X F (.BinOp a .Add b pos) (mCat2 m n) := by
  refine ⟨PE.imp (pe_op op_cat ha.1 hb.1) ?_⟩
  rintro σ H Q ⟨G, ρ, r, h⟩
  unfold mCat2 at h
  refine ⟨G, ρ, r, ?_⟩
  cases ea : m ρ with
  | bad => rw [ea] at h; exact h.elim
  | exc c => rw [ea] at h; exact h
  | ok c =>
    rw [ea, R.bind_ok] at h
    intro u H1 G1 r1 s1 au
    refine ⟨G1, ρ, r1, ?_⟩
    cases eb : n ρ with
    | bad => rw [eb] at h; exact h.elim
    | exc c => rw [eb] at h; exact h
    | ok d =>
      rw [eb, R.bind_ok] at h
      intro v H2 G2 r2 s2 av
      split at h
      · split at h
        · rename_i hl
          simp only [At] at au av
          obtain ⟨p1, xs, rfl, g1, q1⟩ := au
          obtain ⟨p2, ys, rfl, g2, q2⟩ := av
          refine ⟨p1, p2, xs, ys, rfl, rfl, s2.h _ _ (r1.kp.sub _ _ g1), r2.kp.sub _ _ g2, by rw [← q1.length, ← q2.length, sizeLine_eq]; omega, fun l' hn => ?_⟩
          exact h l' (xs ++ ys) _ G2 (r2.lay0 hn) ((s1.trans s2).trans (Up.lay0 hn)) ((s1.trans s2).h.gone hn) upd_same (r2.kp.sub.gone hn) ((q1.mono s2.g).append q2)
        · exact h.elim
      · exact h.elim
def mDict1 (k : Str) (i : Int) : ME := fun _ => .ok (.dK [.inr k] [.int i])
theorem xe_dict1 {k : Str} {i : Int} {t1 t2 : Nat} {p1 p2 : Pos} : XEM X F (.Dict [some (.Constant (.str k) t1 p1)] [.Constant (.int i) t2 p2] pos) (mDict1 k i) := by
  refine ⟨PE.imp (pe_disp (pps_cons pe_str pe_int pps_nil) rfl rfl (by simp) (by simp)) ?_⟩
  rintro σ H Q ⟨G, ρ, r, h⟩ d hd
  refine ⟨upd_same, [(.inr k, .int i)], rfl, by simp, ?_⟩
  rw [upd_upd]
  refine h (.ref d) _ _ (r.lay hd) (Up.lay r.kp.sub hd) ?_
  simp only [At]
  exact ⟨d, _, rfl, upd_same, rfl, .cons (by simp only [At]) .nil⟩
end
end L3
set_option Elab.async false
set_option linter.all false
set_option maxRecDepth 100000
set_option autoImplicit false
namespace L3
open PySem PySem.Spec L2
@[simp] theorem vb_ok {α β : Type} (a : α) (k : α → R β) : (R.ok a).bind k = k a := (rfl)
@[simp] theorem vb_bad {α β : Type} (k : α → R β) : (R.bad : R α).bind k = .bad := (rfl)
@[simp] theorem vb_exc {α β : Type} (c : Str) (k : α → R β) : (R.exc c : R α).bind k = .exc c := (rfl)
def sqK (b : MS) : Fl → R Fl
  | .nx ρ => b ρ
  | f => .ok f
@[simp] theorem v_seq (a b : MS) (ρ : Rho) : mSeq a b ρ = (a ρ).bind (sqK b) := by
  unfold mSeq; congr 1
@[simp] theorem sqK_nx (b : MS) (ρ : Rho) : sqK b (.nx ρ) = b ρ := (rfl)
@[simp] theorem sqK_rt (b : MS) (d : D) : sqK b (.rt d) = .ok (.rt d) := (rfl)
@[simp] theorem sqK_ro (b : MS) (d : List D) : sqK b (.ro d) = .ok (.ro d) := (rfl)
def rdS : Option Sl → R D
  | some (.fz d) => .ok d
  | _ => .bad
@[simp] theorem v_var (i : Nat) (ρ : Rho) : mVar i ρ = rdS ρ[i]? := by
  unfold mVar rdS; rfl
@[simp] theorem rdS_fz (d : D) : rdS (some (.fz d)) = .ok d := (rfl)
@[simp] theorem v_C (d : D) (ρ : Rho) : mC d ρ = .ok d := (rfl)
@[simp] theorem v_bin (f : D → D → R D) (a b : ME) (ρ : Rho) : mBin f a b ρ = (a ρ).bind fun x => (b ρ).bind fun y => f x y := (rfl)
@[simp] theorem v_un (f : D → R D) (a : ME) (ρ : Rho) : mUn f a ρ = (a ρ).bind f := (rfl)
@[simp] theorem v_nil (ρ : Rho) : mNil ρ = .ok [] := (rfl)
@[simp] theorem v_cons (a : ME) (r : MA) (ρ : Rho) : mCons a r ρ = (a ρ).bind fun x => (r ρ).bind fun xs => .ok (x :: xs) := (rfl)
def tuK (xs : List D) : R D := if xs.length ≤ 1000000 then .ok (.tup xs) else .bad
@[simp] theorem v_tup (m : MA) (ρ : Rho) : mTup m ρ = (m ρ).bind tuK := (rfl)
@[simp] theorem tuK_ok {xs : List D} (h : xs.length ≤ 1000000) : tuK xs = .ok (.tup xs) := if_pos h
@[simp] theorem v_fz (m : MA) (ρ : Rho) : mFz m ρ = (m ρ).bind fun xs => .ok (.lst xs) := (rfl)
@[simp] theorem v_lim (m : MA) (ρ : Rho) : mLim m ρ = (m ρ).bind lim := (rfl)
@[simp] theorem v_B (m : ME) (ρ : Rho) : mB m ρ = (m ρ).bind asB := (rfl)
@[simp] theorem asB_bl (b : Bool) : asB (.bl b) = .ok b := (rfl)
@[simp] theorem v_and (a b : MT) (ρ : Rho) : mAnd a b ρ = (a ρ).bind fun c => if c = true then b ρ else .ok false := (rfl)
@[simp] theorem v_or (a b : MT) (ρ : Rho) : mOr a b ρ = (a ρ).bind fun c => if c = true then .ok true else b ρ := (rfl)
@[simp] theorem v_not (a : MT) (ρ : Rho) : mNot a ρ = (a ρ).bind fun c => .ok (!c) := (rfl)
@[simp] theorem v_andV (a b : ME) (ρ : Rho) : mAndV a b ρ = (a ρ).bind fun x => (asB x).bind fun c => if c = true then b ρ else .ok (.bl false) := (rfl)
@[simp] theorem v_if (c : MT) (a b : MS) (ρ : Rho) : mIfS c a b ρ = (c ρ).bind fun k => if k = true then a ρ else b ρ := (rfl)
@[simp] theorem v_next (ρ : Rho) : mNext ρ = .ok (.nx ρ) := (rfl)
@[simp] theorem v_ret (a : ME) (ρ : Rho) : mRet a ρ = (a ρ).bind fun d => .ok (.rt d) := (rfl)
@[simp] theorem v_retO (a : MA) (ρ : Rho) : mRetO a ρ = (a ρ).bind fun d => .ok (.ro d) := (rfl)
@[simp] theorem v_setV (i : Nat) (d : D) (ρ : Rho) : setV i d ρ = if i < ρ.length then .ok (ρ.set i (.fz d)) else .bad := (rfl)
@[simp] theorem v_set (i : Nat) (a : ME) (ρ : Rho) : mSet i a ρ = (a ρ).bind fun d => (setV i d ρ).bind fun ρ' => .ok (.nx ρ') := (rfl)
@[simp] theorem v_setO (i : Nat) (a : MA) (ρ : Rho) : mSetO i a ρ = (a ρ).bind fun ds => if i < ρ.length then .ok (.nx (ρ.set i (.ow ds))) else .bad := (rfl)
@[simp] theorem v_setE (i : Nat) (a : MEf) (ρ : Rho) : mSetE i a ρ = (a ρ).bind fun x => (setV i x.1 x.2).bind fun ρ' => .ok (.nx ρ') := (rfl)
@[simp] theorem v_dropE (a : MEf) (ρ : Rho) : mDropE a ρ = (a ρ).bind fun x => .ok (.nx x.2) := (rfl)
@[simp] theorem v_cb (f : List D → R D) (m : MA) (ρ : Rho) : mCB f m ρ = (m ρ).bind f := (rfl)
@[simp] theorem v_call (n : Nat) (mf : List D → R Rt) (m : MA) (ρ : Rho) : mCall n mf m ρ = (m ρ).bind fun ds => if ds.length = n then (mf ds).bind rtD else .bad := (rfl)
@[simp] theorem v_callO (n : Nat) (mf : List D → R Rt) (m : MA) (ρ : Rho) : mCallO n mf m ρ = (m ρ).bind fun ds => if ds.length = n then (mf ds).bind rtO else .bad := (rfl)
theorem v_for (mi : MA) (set : D → Rho → R Rho) (body : MS) (ρ : Rho) : mFor mi set body ρ = (mi ρ).bind fun ds => forGo set body ds ρ := (rfl)
@[simp] theorem v_r1 (m : MA) (ρ : Rho) : mR1 m ρ = (m ρ).bind rng1 := (rfl)
@[simp] theorem v_il (m : ME) (ρ : Rho) : mIL m ρ = (m ρ).bind seqD := (rfl)
@[simp] theorem v_bor (m : ME) (ρ : Rho) : mBor m ρ = (m (frzA ρ)).bind onlyS := (rfl)
@[simp] theorem v_borT (m : MT) (ρ : Rho) : mBorT m ρ = m (frzA ρ) := (rfl)
theorem v_comp (nl : Nat) (caps : List Nat) (mi : MA) (set : D → Rho → R Rho) (tst : MT) (elt : ME) (ρ : Rho) : mComp nl caps mi set tst elt ρ = (mi ρ).bind fun ds => noX (compGo set tst elt ds (blkR nl caps ρ) []) := (rfl)
@[simp] theorem add_ii (i j : Int) : addD (.int i) (.int j) = .ok (.int (i + j)) := (rfl)
@[simp] theorem sub_ii (i j : Int) : subD (.int i) (.int j) = .ok (.int (i - j)) := (rfl)
@[simp] theorem mul_l {i j : Int} (h1 : -18446744073709551616 < i) (h2 : i < 18446744073709551616) : mulD (.int i) (.int j) = .ok (.int (i * j)) := if_pos (Or.inl ⟨h1, h2⟩)
@[simp] theorem mul_r {i j : Int} (h1 : -18446744073709551616 < j) (h2 : j < 18446744073709551616) : mulD (.int i) (.int j) = .ok (.int (i * j)) := if_pos (Or.inr ⟨h1, h2⟩)
@[simp] theorem fdiv_ii {i j : Int} (h1 : 0 < j) (h2 : j < 1073741824) : fdivD (.int i) (.int j) = .ok (.int (i / j)) := if_pos ⟨h1, h2⟩
@[simp] theorem mod_ii {i j : Int} (h : 0 < j) : modD (.int i) (.int j) = .ok (.int (i % j)) := if_pos h
@[simp] theorem pow_ii {i : Int} {j : Nat} (h : j ≤ 1000000) (h1 : -1000000 < i) (h2 : i < 1000000) : powD (.int i) (.int (j : Int)) = .ok (.int (i ^ j)) := by
  have : CPow i (j : Int) := ⟨by omega, by omega, by omega⟩
  simp only [powD, intsD, if_pos this, Int.toNat_natCast]
theorem pow_10_6 : powD (.int 10) (.int 6) = .ok (.int 1000000) := (rfl)
theorem pow_10_30 : powD (.int 10) (.int 30) = .ok (.int 1000000000000000000000000000000) := (rfl)
@[simp] theorem lt_ii (i j : Int) : ltD (.int i) (.int j) = .ok (.bl (decide (i < j))) := (rfl)
@[simp] theorem le_ii (i j : Int) : leD (.int i) (.int j) = .ok (.bl (decide (i ≤ j))) := (rfl)
@[simp] theorem gt_ii (i j : Int) : gtD (.int i) (.int j) = .ok (.bl (decide (j < i))) := (rfl)
@[simp] theorem eq_ii (i j : Int) : eqR true (.int i) (.int j) = .ok (.bl (i == j)) := (rfl)
@[simp] theorem ne_ii (i j : Int) : eqR false (.int i) (.int j) = .ok (.bl (!(i == j))) := (rfl)
@[simp] theorem len_l (xs : List D) : lenD [.lst xs] = .ok (.int xs.length) := (rfl)
@[simp] theorem len_t (xs : List D) : lenD [.tup xs] = .ok (.int xs.length) := (rfl)
@[simp] theorem len_s (xs : List D) : lenD [.scr xs] = .ok (.int xs.length) := (rfl)
@[simp] theorem rt_v (d : D) : rtD (.v d) = .ok d := (rfl)
@[simp] theorem rt_o (ds : List D) : rtD (.o ds) = .ok (.lst ds) := (rfl)
@[simp] theorem ro_o (ds : List D) : rtO (.o ds) = .ok ds := (rfl)
@[simp] theorem out_rt (d : D) : outD (.rt d) = .ok (.v d) := (rfl)
@[simp] theorem out_ro (d : List D) : outD (.ro d) = .ok (.o d) := (rfl)
@[simp] theorem v_def (N : Nat) (m : MS) (ds : List D) : mDef N m ds = (m (ini N ds)).bind outD := (rfl)
def owS : Option Sl → R (List D)
  | some (.ow ds) => .ok ds
  | _ => .bad
@[simp] theorem v_own (i : Nat) (ρ : Rho) : ownAt i ρ = owS ρ[i]? := by
  unfold ownAt owS; rfl
@[simp] theorem owS_ow (ds : List D) : owS (some (.ow ds)) = .ok ds := (rfl)
@[simp] theorem forGo_nil (set : D → Rho → R Rho) (body : MS) (ρ : Rho) : forGo set body [] ρ = .ok (.nx ρ) := (rfl)
theorem for_inv {set : D → Rho → R Rho} {body : MS} (I : Nat → Rho → Prop) : ∀ (ds : List D) (i : Nat) (ρ : Rho), (∀ (j : Nat) d ρ, ds[j]? = some d → I (i + j) ρ → ∃ ρ1 ρ', set d ρ = .ok ρ1 ∧ body ρ1 = .ok (.nx ρ') ∧ I (i + j + 1) ρ') → I i ρ → ∃ ρ', forGo set body ds ρ = .ok (.nx ρ') ∧ I (i + ds.length) ρ'
  | [], i, ρ, _, h => ⟨ρ, rfl, h⟩
  | d :: ds, i, ρ, st, h => by
    obtain ⟨ρ1, ρ2, e1, e2, h2⟩ := st 0 d ρ rfl h
    obtain ⟨ρ', e3, h3⟩ := for_inv I ds (i + 1) ρ2 (fun j d ρ e hi => by
      obtain ⟨a, b, c1, c2, c3⟩ := st (j + 1) d ρ (by simpa using e) (by rw [show i + (j + 1) = i + 1 + j by omega]; exact hi)
      exact ⟨a, b, c1, c2, by rw [show i + 1 + j + 1 = i + (j + 1) + 1 by omega]; exact c3⟩) (by simpa using h2)
    refine ⟨ρ', ?_, by rw [List.length_cons, show i + (ds.length + 1) = i + 1 + ds.length by omega]; exact h3⟩
    rw [forGo, e1, vb_ok, e2, vb_ok]; exact e3
theorem forI {mi : MA} {set : D → Rho → R Rho} {body : MS} {ds : List D} {ρ : Rho} (I : Nat → Rho → Prop) (hi : mi ρ = .ok ds) (st : ∀ (j : Nat) d ρ, ds[j]? = some d → I j ρ → ∃ ρ1 ρ', set d ρ = .ok ρ1 ∧ body ρ1 = .ok (.nx ρ') ∧ I (j + 1) ρ') (h : I 0 ρ) : ∃ ρ', mFor mi set body ρ = .ok (.nx ρ') ∧ I ds.length ρ' := by
  obtain ⟨ρ', e, h'⟩ := for_inv I ds 0 ρ (fun j d ρ e hj => by rw [Nat.zero_add] at hj ⊢; exact st j d ρ e hj) h
  rw [Nat.zero_add] at h'
  exact ⟨ρ', by rw [v_for, hi, vb_ok, e], h'⟩
@[simp] theorem capS_fz (d : D) : capS (.fz d) = .fz d := (rfl)
def apK (i : Nat) (ρ : Rho) (ds : List D) (d : D) : R Fl := if ds.length < 1000000 then .ok (.nx (ρ.set i (.ow (ds ++ [d])))) else .bad
@[simp] theorem apK_ok {i : Nat} {ρ : Rho} {ds : List D} {d : D} (h : ds.length < 1000000) : apK i ρ ds d = .ok (.nx (ρ.set i (.ow (ds ++ [d])))) := if_pos h
@[simp] theorem v_app (i : Nat) (m : ME) (ρ : Rho) : mApp i m ρ = (ownAt i ρ).bind fun ds => (m ρ).bind fun d => apK i ρ ds d := (rfl)
@[simp] theorem v_appE (i : Nat) (m : MEf) (ρ : Rho) : mAppE i m ρ = (ownAt i ρ).bind fun _ => (m ρ).bind fun x => (ownAt i x.2).bind fun ds => apK i x.2 ds x.1 := (rfl)
@[simp] theorem v_lf (m : ME) (ρ : Rho) : lf m ρ = (m ρ).bind fun d => .ok (d, ρ) := (rfl)
@[simp] theorem v_lfA (m : MA) (ρ : Rho) : lfA m ρ = (m ρ).bind fun d => .ok (d, ρ) := (rfl)
@[simp] theorem v_consE (a : MEf) (r : MAf) (ρ : Rho) : mConsE a r ρ = (a ρ).bind fun x => (r x.2).bind fun y => .ok (x.1 :: y.1, y.2) := (rfl)
@[simp] theorem v_tupE (m : MAf) (ρ : Rho) : mTupE m ρ = (m ρ).bind fun x => (tuK x.1).bind fun d => .ok (d, x.2) := by
  unfold mTupE tuK
  congr 1; funext x
  split <;> rfl
def exK (i : Nat) (ds : List D) (ρ : Rho) : D → R (D × Rho)
  | .lst es => if ds.length + es.length ≤ 1000000 then .ok (.non, ρ.set i (.ow (ds ++ es))) else .bad
  | _ => .bad
@[simp] theorem v_ext (i : Nat) (m : ME) (ρ : Rho) : mExtend i m ρ = (ownAt i ρ).bind fun ds => (m ρ).bind fun d => exK i ds ρ d := by
  unfold mExtend; congr 1
@[simp] theorem exK_l {i : Nat} {ds es : List D} {ρ : Rho} (h : ds.length + es.length ≤ 1000000) : exK i ds ρ (.lst es) = .ok (.non, ρ.set i (.ow (ds ++ es))) := if_pos h
def poK (i : Nat) (ds : List D) (ρ : Rho) : D → R (D × Rho)
  | .int k => if -(2 ^ 63) ≤ k ∧ k < 2 ^ 63 then match seqIndex? k ds.length with
    | some j => match ds[j]? with
      | some y => .ok (y, ρ.set i (.ow (ds.eraseIdx j)))
      | none => .bad
    | none => .bad
    else .bad
  | _ => .bad
@[simp] theorem v_pop (i : Nat) (m : ME) (ρ : Rho) : mPopAt i m ρ = (ownAt i ρ).bind fun ds => (m ρ).bind fun d => poK i ds ρ d := by
  unfold mPopAt; congr 1
theorem poK_n {i : Nat} {ds : List D} {ρ : Rho} {k : Nat} (h : k < ds.length) (hl : ds.length < 1000000) : poK i ds ρ (.int (k : Int)) = .ok (ds[k], ρ.set i (.ow (ds.eraseIdx k))) := by
  have b1 : -(2 ^ 63) ≤ (k : Int) := Int.le_trans (by decide) (Int.natCast_nonneg k)
  have b2 : (k : Int) < 2 ^ 63 := Int.lt_trans (b := 1000000) (by omega) (by decide)
  have s : seqIndex? (k : Int) ds.length = some k := by rw [PySem.seqIndex_of (by omega) (by omega)]; simp
  simp only [poK, if_pos (And.intro b1 b2), s, List.getElem?_eq_getElem h]
def inK (i : Nat) (ds : List D) (ρ : Rho) (y : D) : D → R (D × Rho)
  | .int k => if 0 ≤ k ∧ k < 2 ^ 63 ∧ ds.length < 1000000 then .ok (.non, ρ.set i (.ow (ds.take (min k.toNat ds.length) ++ y :: ds.drop (min k.toNat ds.length)))) else .bad
  | _ => .bad
@[simp] theorem v_ins (i : Nat) (m n : ME) (ρ : Rho) : mInsert i m n ρ = (ownAt i ρ).bind fun ds => (m ρ).bind fun d => (n ρ).bind fun y => inK i ds ρ y d := by
  unfold mInsert; congr 1
@[simp] theorem v_lr (m : MA) (ρ : Rho) : mLR m ρ = (m ρ).bind lrD := (rfl)
@[simp] theorem v_listO (m : MA) (ρ : Rho) : mListO m ρ = (m ρ).bind listD := (rfl)
@[simp] theorem v_it (m : ME) (ρ : Rho) : mIT m ρ = (m ρ).bind tupD := (rfl)
@[simp] theorem v_unp (set : D → Rho → R Rho) (m : ME) (ρ : Rho) : mUnp set m ρ = (m ρ).bind fun d => (set d ρ).bind fun ρ' => .ok (.nx ρ') := (rfl)
@[simp] theorem v_retZ (m : ME) (ρ : Rho) : mRetZ m ρ = (m (frzA ρ)).bind fun d => .ok (.rt d) := (rfl)
@[simp] theorem v_notV (a : ME) (ρ : Rho) : mNotV a ρ = (a ρ).bind fun x => (asB x).bind fun c => .ok (.bl (!c)) := (rfl)
@[simp] theorem seqD_l (ds : List D) : seqD (.lst ds) = .ok ds := (rfl)
@[simp] theorem tupD_t (ds : List D) : tupD (.tup ds) = .ok ds := (rfl)
@[simp] theorem listD_l (ds : List D) : listD [.lst ds] = .ok ds := (rfl)
@[simp] theorem lim_ok {xs : List D} (h : xs.length ≤ 1000000) : lim xs = .ok xs := if_pos h
@[simp] theorem frz_nil : frzA [] = [] := (rfl)
@[simp] theorem frz_cons (s : Sl) (ρ : Rho) : frzA (s :: ρ) = frzS s :: frzA ρ := (rfl)
@[simp] theorem frzS_fz (d : D) : frzS (.fz d) = .fz d := (rfl)
@[simp] theorem frzS_un : frzS .un = .un := (rfl)
@[simp] theorem frzS_ow (ds : List D) : frzS (.ob (.lst ds)) = .fz (.lst ds) := (rfl)
@[simp] theorem only_int (i : Int) : onlyS (.int i) = .ok (.int i) := (rfl)
@[simp] theorem only_bl (i : Bool) : onlyS (.bl i) = .ok (.bl i) := (rfl)
@[simp] theorem noX_ok {α : Type} (a : α) : noX (R.ok a) = .ok a := (rfl)
def voS : Option Sl → R (List D)
  | some (.ob (.lst ds)) => .ok ds
  | _ => .bad
@[simp] theorem v_varO (i : Nat) (ρ : Rho) : mVarO i ρ = voS ρ[i]? := by unfold mVarO voS; rfl
@[simp] theorem voS_ow (ds : List D) : voS (some (.ow ds)) = .ok ds := (rfl)
@[simp] theorem v_chain (f g : D → D → R D) (a b c : ME) (ρ : Rho) : mChain f g a b c ρ = (a ρ).bind fun x => (b ρ).bind fun y => (f x y).bind fun z => (asB z).bind fun k => if k = true then (c ρ).bind fun w => g y w else .ok (.bl false) := (rfl)
@[simp] theorem ini_def (N : Nat) (ds : List D) : ini N ds = ds.map .fz ++ List.replicate (N - ds.length) .un := (rfl)
theorem ix_l {xs : List D} {k : Nat} {d : D} (h : xs[k]? = some d) : ixD (.lst xs) (.int (k : Int)) = .ok d := by
  have hk := (List.getElem?_eq_some_iff.mp h).1
  have e : atI xs (k : Int) = some d := by
    unfold atI ixN
    rw [if_pos (by omega), if_pos (by omega)]
    simpa using h
  simp only [ixD, e]
theorem ix_s {xs : List D} {k : Nat} {d : D} (h : xs[k]? = some d) : ixD (.scr xs) (.int (k : Int)) = .ok d := by
  have hk := (List.getElem?_eq_some_iff.mp h).1
  have e : atI xs (k : Int) = some d := by
    unfold atI ixN
    rw [if_pos (by omega), if_pos (by omega)]
    simpa using h
  simp only [ixD, e]
theorem ix_t {xs : List D} {k : Nat} {d : D} (h : xs[k]? = some d) : ixD (.tup xs) (.int (k : Int)) = .ok d := by
  have hk := (List.getElem?_eq_some_iff.mp h).1
  have e : atI xs (k : Int) = some d := by
    unfold atI ixN
    rw [if_pos (by omega), if_pos (by omega)]
    simpa using h
  simp only [ixD, e]
theorem ix_ints {ys : List Int} {k : Nat} (h : k < ys.length) : ixD (.lst (ys.map D.int)) (.int (k : Int)) = .ok (.int ys[k]) := ix_l (by simp [h])
theorem nat_mod (x : Int) {n : Nat} (h : 0 < n) : ∃ k : Nat, k < n ∧ x % (n : Int) = (k : Int) := by
  have h0 : 0 ≤ x % (n : Int) := Int.emod_nonneg _ (by omega)
  have h1 : x % (n : Int) < (n : Int) := Int.emod_lt_of_pos _ (by omega)
  obtain ⟨k, e⟩ := Int.eq_ofNat_of_zero_le h0
  exact ⟨k, by omega, e⟩
@[simp] theorem rng1_nat (n : Nat) (h : n < 1000000) : rng1 [.int (n : Int)] = .ok (rangeD 0 n) := by
  have : -(2 ^ 62) ≤ (n : Int) ∧ (n : Int) < 2 ^ 62 := ⟨by omega, by omega⟩
  simp only [rng1, if_pos this, Int.toNat_natCast]
theorem range_at {n j : Nat} {d : D} (h : (rangeD 0 n)[j]? = some d) : j < n ∧ d = .int (j : Int) := by
  unfold rangeD at h
  rw [List.getElem?_map] at h
  cases e : (List.range n)[j]? with
  | none => rw [e] at h; cases h
  | some k =>
    rw [e] at h
    have hj : j < n := by
      have := (List.getElem?_eq_some_iff.mp e).1
      simpa using this
    rw [List.getElem?_range hj] at e
    cases e
    simp at h
    exact ⟨hj, h.symm⟩
@[simp] theorem range_len (a : Int) (n : Nat) : (rangeD a n).length = n := by simp [rangeD]
@[simp] theorem vb_assoc {α β γ : Type} (r : R α) (f : α → R β) (g : β → R γ) : (r.bind f).bind g = r.bind fun x => (f x).bind g := by cases r <;> rfl
def Ends {β : Type} (r : R β) (T : β → Prop) : Prop := ∃ b, r = .ok b ∧ T b
@[simp] theorem ends_ok {β : Type} (b : β) (T : β → Prop) : Ends (.ok b) T = T b := propext ⟨fun ⟨c, e, h⟩ => by cases e; exact h, fun h => ⟨b, rfl, h⟩⟩
@[simp] theorem ends_bad {β : Type} (T : β → Prop) : Ends (.bad) T = False := propext ⟨fun ⟨c, e, h⟩ => (by cases e), False.elim⟩
theorem Ends.bind {α β : Type} {r : R α} {k : α → R β} {S : α → Prop} {T : β → Prop} (h : Ends r S) (f : ∀ b, S b → Ends (k b) T) : Ends (r.bind k) T := by
  obtain ⟨b, rfl, hb⟩ := h
  exact f b hb
def Nx (I : Rho → Prop) (f : Fl) : Prop := ∃ ρ, f = .nx ρ ∧ I ρ
@[simp] theorem Nx_nx (I : Rho → Prop) (ρ : Rho) : Nx I (.nx ρ) = I ρ := propext ⟨fun ⟨r, e, h⟩ => by cases e; exact h, fun h => ⟨ρ, rfl, h⟩⟩
theorem ends_for {β : Type} {mi : MA} {set : D → Rho → R Rho} {body : MS} {ds : List D} {ρ : Rho} {k : Fl → R β} {T : β → Prop} (I : Nat → Rho → Prop) (hi : mi ρ = .ok ds) (h0 : I 0 ρ) (st : ∀ (j : Nat) d ρ, ds[j]? = some d → I j ρ → Ends ((set d ρ).bind body) (Nx (I (j + 1)))) (fin : ∀ ρ', I ds.length ρ' → Ends (k (.nx ρ')) T) : Ends ((mFor mi set body ρ).bind k) T := by
  obtain ⟨ρ', e, h⟩ := forI (body := body) (set := set) (mi := mi) I hi (fun j d ρ hd hI => by
    obtain ⟨b, e, ρ', rfl, h⟩ := st j d ρ hd hI
    cases es : set d ρ with
    | bad => rw [es] at e; cases e
    | exc c => rw [es] at e; cases e
    | ok ρ1 => rw [es, vb_ok] at e; exact ⟨ρ1, ρ', rfl, e, h⟩) h0
  rw [e, vb_ok]
  exact fin ρ' h
def stF (i : Nat) : Fl → R Fl
  | .nx ρ' => .ok (.nx (frz1 i ρ'))
  | f => .ok f
@[simp] theorem v_setF (i : Nat) (a : MA) (ρ : Rho) : mSetF i a ρ = (mSetO i a ρ).bind (stF i) := by unfold mSetF; congr 1
@[simp] theorem stF_nx (i : Nat) (ρ : Rho) : stF i (.nx ρ) = .ok (.nx (frz1 i ρ)) := (rfl)
def caD (ds : List D) : D → R (List D)
  | .lst es => if ds.length + es.length ≤ 1000000 then .ok (ds ++ es) else .bad
  | _ => .bad
@[simp] theorem caD_l {ds es : List D} (h : ds.length + es.length ≤ 1000000) : caD ds (.lst es) = .ok (ds ++ es) := if_pos h
def ca2 : D → D → R (List D)
  | .lst ds, .lst es => if ds.length + es.length ≤ 1000000 then .ok (ds ++ es) else .bad
  | _, _ => .bad
@[simp] theorem ca2_l {ds es : List D} (h : ds.length + es.length ≤ 1000000) : ca2 (.lst ds) (.lst es) = .ok (ds ++ es) := if_pos h
@[simp] theorem v_cat2 (m n : ME) (ρ : Rho) : mCat2 m n ρ = (m ρ).bind fun c => (n ρ).bind fun d => ca2 c d := by unfold mCat2; congr 1
@[simp] theorem v_catV (i : Nat) (m : ME) (ρ : Rho) : mCatV i m ρ = (ownAt i ρ).bind fun ds => (m ρ).bind fun d => caD ds d := by unfold mCatV; congr 1
@[simp] theorem v_catO (ma : MA) (m : ME) (ρ : Rho) : mCatO ma m ρ = (ma ρ).bind fun ds => (m ρ).bind fun d => caD ds d := by unfold mCatO; congr 1
@[simp] theorem v_sl (f : D → Option Int → Option Int → R D) (m : ME) (lo hi : MP) (ρ : Rho) : mSl f m lo hi ρ = (m ρ).bind fun d => (lo ρ).bind fun l => (hi ρ).bind fun h => f d l h := (rfl)
def fr1 (i : Nat) (ρ : Rho) : Option Sl → Rho
  | some (.ob o) => ρ.set i (.fz (obD o))
  | _ => ρ
@[simp] theorem frz1_def (i : Nat) (ρ : Rho) : frz1 i ρ = fr1 i ρ ρ[i]? := by unfold frz1 fr1; rfl
@[simp] theorem fr1_ow (i : Nat) (ρ : Rho) (ds : List D) : fr1 i ρ (some (.ow ds)) = ρ.set i (.fz (.lst ds)) := (rfl)
@[simp] theorem v_noP (ρ : Rho) : mNoP ρ = .ok none := (rfl)
@[simp] theorem v_part (m : ME) (ρ : Rho) : mPart m ρ = (m ρ).bind intD := (rfl)
@[simp] theorem intD_int (i : Int) : intD (.int i) = .ok (some i) := (rfl)
theorem ends_compF' {β α : Type} {mi : MA} {elt : ME} {tst : MT} {caps : List Nat} {ρ : Rho} {k : List D → R β} {T : β → Prop} (g : α → D) (xs : List α) (p : α → Bool) (f : α → D) (hi : mi ρ = .ok (xs.map g)) (hl : xs.length ≤ 1000) (ht : ∀ a ∈ xs, tst (.fz (g a) :: caps.map fun j => capS (ρ.getD j .un)) = .ok (p a)) (h : ∀ a ∈ xs, p a = true → elt (.fz (g a) :: caps.map fun j => capS (ρ.getD j .un)) = .ok (f a)) (fin : Ends (k ((xs.filter p).map f)) T) : Ends ((mComp 1 caps mi (setV 0) tst elt ρ).bind k) T := by
  have go : ∀ (xs : List α) (ws : List D) (s0 : Sl), ws.length + xs.length ≤ 1000000 → (∀ a ∈ xs, tst (.fz (g a) :: caps.map fun j => capS (ρ.getD j .un)) = .ok (p a)) → (∀ a ∈ xs, p a = true → elt (.fz (g a) :: caps.map fun j => capS (ρ.getD j .un)) = .ok (f a)) → compGo (setV 0) tst elt (xs.map g) (s0 :: caps.map fun j => capS (ρ.getD j .un)) ws = .ok (ws ++ (xs.filter p).map f) := by
    intro xs
    induction xs with
    | nil => intro ws s0 _ _ _; simp [compGo]
    | cons a xs ih =>
      intro ws s0 hl ht h
      simp only [List.length_cons] at hl
      have e0 : setV 0 (g a) (s0 :: caps.map fun j => capS (ρ.getD j .un)) = .ok (.fz (g a) :: caps.map fun j => capS (ρ.getD j .un)) := by simp
      rw [List.map_cons, compGo, e0, vb_ok, ht a (by simp), vb_ok]
      cases e : p a with
      | true =>
        simp only [if_true, h a (by simp) e, vb_ok, if_pos (show ws.length < 1000000 by omega)]
        rw [ih (ws ++ [f a]) _ (by simp; omega) (fun x hx => ht x (by simp [hx])) fun x hx => h x (by simp [hx])]
        simp [e]
      | false =>
        simp only [Bool.false_eq_true, if_false]
        rw [ih ws _ (by omega) (fun x hx => ht x (by simp [hx])) fun x hx => h x (by simp [hx])]
        simp [e]
  rw [v_comp, hi, vb_ok]
  have e := go xs [] .un (by simp; omega) ht h
  have : noX (compGo (setV 0) tst elt (xs.map g) (blkR 1 caps ρ) []) = .ok ((xs.filter p).map f) := by
    show noX (compGo (setV 0) tst elt (xs.map g) (.un :: caps.map fun j => capS (ρ.getD j .un)) []) = _
    rw [e]; rfl
  rw [this, vb_ok]; exact fin
theorem ends_comp' {β α : Type} {mi : MA} {elt : ME} {caps : List Nat} {ρ : Rho} {k : List D → R β} {T : β → Prop} (g : α → D) (xs : List α) (f : α → D) (hi : mi ρ = .ok (xs.map g)) (hl : xs.length ≤ 1000) (h : ∀ a ∈ xs, elt (.fz (g a) :: caps.map fun j => capS (ρ.getD j .un)) = .ok (f a)) (fin : Ends (k (xs.map f)) T) : Ends ((mComp 1 caps mi (setV 0) mYes elt ρ).bind k) T :=
  ends_compF' g xs (fun _ => true) f hi hl (fun _ _ => rfl) (fun a ha _ => h a ha) (by rw [List.filter_eq_self.mpr fun _ _ => rfl]; exact fin)
theorem rangeD_eq (n : Nat) : rangeD 0 n = (List.range n).map fun (i : Nat) => .int (i : Int) := by simp [rangeD]
theorem ends_compR {β : Type} {mi : MA} {elt : ME} {caps : List Nat} {ρ : Rho} {k : List D → R β} {T : β → Prop} (n : Nat) (f : Nat → D) (hi : mi ρ = .ok (rangeD 0 n)) (hl : n ≤ 1000) (h : ∀ a, a < n → elt (.fz (.int (a : Int)) :: caps.map fun j => capS (ρ.getD j .un)) = .ok (f a)) (fin : Ends (k ((List.range n).map f)) T) : Ends ((mComp 1 caps mi (setV 0) mYes elt ρ).bind k) T :=
  ends_comp' (fun (i : Nat) => .int (i : Int)) (List.range n) f (by rw [hi, rangeD_eq]) (by simpa using hl) (fun a ha => h a (by simpa using ha)) fin
theorem ends_for' {β α : Type} {mi : MA} {set : D → Rho → R Rho} {body : MS} {ρ : Rho} {k : Fl → R β} {T : β → Prop} (g : α → D) (xs : List α) (I : Nat → Rho → Prop) (hi : mi ρ = .ok (xs.map g)) (h0 : I 0 ρ) (st : ∀ (j : Nat) a ρ, xs[j]? = some a → I j ρ → Ends ((set (g a) ρ).bind body) (Nx (I (j + 1)))) (fin : ∀ ρ', I xs.length ρ' → Ends (k (.nx ρ')) T) : Ends ((mFor mi set body ρ).bind k) T :=
  ends_for I hi h0 (fun j d ρ hd hI => by
    rw [List.getElem?_map] at hd
    cases e : xs[j]? with
    | none => rw [e] at hd; cases hd
    | some a => rw [e] at hd; cases hd; exact st j a ρ e hI) (by rw [List.length_map]; exact fin)
theorem ends_forR {β : Type} {mi : MA} {set : D → Rho → R Rho} {body : MS} {ρ : Rho} {k : Fl → R β} {T : β → Prop} (n : Nat) (I : Nat → Rho → Prop) (hi : mi ρ = .ok (rangeD 0 n)) (h0 : I 0 ρ) (st : ∀ (j : Nat) ρ, j < n → I j ρ → Ends ((set (.int (j : Int)) ρ).bind body) (Nx (I (j + 1)))) (fin : ∀ ρ', I n ρ' → Ends (k (.nx ρ')) T) : Ends ((mFor mi set body ρ).bind k) T :=
  ends_for I hi h0 (fun j d ρ hd hI => by
    obtain ⟨hj, rfl⟩ := range_at hd
    exact st j ρ hj hI) (by rw [range_len]; exact fin)
theorem map_eraseIdx' {α β : Type} (f : α → β) : ∀ (l : List α) (i : Nat), (l.map f).eraseIdx i = (l.eraseIdx i).map f
  | [], _ => rfl
  | x :: l, 0 => rfl
  | x :: l, i + 1 => by simp only [List.eraseIdx_cons_succ, List.map_cons, map_eraseIdx' f l i]
theorem po_map {α : Type} (g : α → D) {l : List α} {i : Nat} {k : Nat} (h : k < l.length) (hl : l.length < 1000000) (ρ : Rho) : poK i (l.map g) ρ (.int (k : Int)) = .ok (g l[k], ρ.set i (.ow ((l.eraseIdx k).map g))) := by
  rw [poK_n (by simpa using h) (by simpa using hl), map_eraseIdx']
  simp
theorem rng1_int {v : Int} (h1 : -1000000 ≤ v) (h2 : v ≤ 1000000) : rng1 [.int v] = .ok (rangeD 0 v.toNat) := by
  have : -(2 ^ 62) ≤ v ∧ v < 2 ^ 62 := ⟨by omega, by omega⟩
  simp only [rng1, if_pos this]
def insA {α : Type} (l : List α) (n : Nat) (y : α) : List α := l.take (min n l.length) ++ y :: l.drop (min n l.length)
theorem insA_perm {α : Type} (l : List α) (n : Nat) (y : α) : List.Perm (insA l n y) (y :: l) := by
  unfold insA
  refine List.perm_middle.trans ?_
  rw [List.take_append_drop]
theorem insA_len {α : Type} (l : List α) (n : Nat) (y : α) : (insA l n y).length = l.length + 1 := by
  rw [(insA_perm l n y).length_eq, List.length_cons]
theorem in_map {α : Type} (g : α → D) {l : List α} {i : Nat} {v : Int} (h : 0 ≤ v) (h2 : v ≤ 1000000) (hl : l.length < 1000000) (y : α) (d : D) (e : d = g y) (ρ : Rho) : inK i (l.map g) ρ d (.int v) = .ok (.non, ρ.set i (.ow ((insA l v.toNat y).map g))) := by
  subst e
  have b : 0 ≤ v ∧ v < 2 ^ 63 ∧ (l.map g).length < 1000000 := ⟨h, by omega, by simpa using hl⟩
  simp only [inK, if_pos b, insA]
  simp [List.map_take, List.map_drop]
@[simp] theorem lrD_nat (n : Nat) (h : n ≤ 1000000) : lrD [.int (n : Int)] = .ok (rangeD 0 n) := by
  have : -(2 ^ 62) ≤ (n : Int) ∧ (n : Int) ≤ 1000000 := ⟨by omega, by omega⟩
  simp only [lrD, if_pos this, Int.toNat_natCast]
@[simp] theorem max2_ii (i j : Int) : max2D [.int i, .int j] = .ok (.int (if j > i then j else i)) := (rfl)
@[simp] theorem add_ll {xs ys : List D} (h : xs.length + ys.length ≤ 1000000) : addD (.lst xs) (.lst ys) = .ok (.lst (xs ++ ys)) := if_pos h
@[simp] theorem slD_l (xs : List D) (l h : Option Int) : slD (.lst xs) l h = .ok (.lst (cutL xs l h)) := (rfl)
@[simp] theorem slD_s (xs : List D) (l h : Option Int) : slD (.scr xs) l h = .ok (.lst (cutL xs l h)) := (rfl)
theorem cut_to {α : Type} (xs : List α) (k : Nat) : cutL xs none (some (k : Int)) = xs.take k := by
  unfold cutL
  rw [HT.sIx_none, HT.sIx_nat, List.drop_zero, Nat.sub_zero]
  by_cases h : k ≤ xs.length
  · rw [Nat.min_eq_left h]
  · rw [Nat.min_eq_right (by omega), List.take_length, List.take_of_length_le (by omega)]
theorem cut_from {α : Type} (xs : List α) (k : Nat) : cutL xs (some (k : Int)) none = xs.drop k := by
  unfold cutL
  rw [HT.sIx_none, HT.sIx_nat]
  by_cases h : k ≤ xs.length
  · rw [Nat.min_eq_left h, ← List.length_drop, List.take_length]
  · rw [Nat.min_eq_right (by omega), List.drop_length, List.drop_of_length_le (by omega)]; simp
theorem cut_map {α β : Type} (g : α → β) (xs : List α) (l h : Option Int) : cutL (xs.map g) l h = (cutL xs l h).map g := by
  unfold cutL
  simp [List.map_take, List.map_drop]
@[simp] theorem setT_t (fs : List (D → Rho → R Rho)) (ds : List D) (ρ : Rho) : setT fs (.tup ds) ρ = setL fs ds ρ := (rfl)
@[simp] theorem setL_nil (ρ : Rho) : setL [] [] ρ = .ok ρ := (rfl)
@[simp] theorem setL_cons (f : D → Rho → R Rho) (fs : List (D → Rho → R Rho)) (d : D) (ds : List D) (ρ : Rho) : setL (f :: fs) (d :: ds) ρ = (f d ρ).bind fun ρ' => setL fs ds ρ' := (rfl)
@[simp] theorem v_make (cn : Str) (n : Nat) (mf : List D → R (List Str × List D)) (ma : MA) (ρ : Rho) : mMake cn n mf ma ρ = (ma ρ).bind fun ds => if ds.length = n then (noX (mf ds)).bind fun x => .ok (.ins cn x.1 x.2) else .bad := (rfl)
@[simp] theorem tupleD_l (xs : List D) : tupleD [.lst xs] = .ok (.tup xs) := (rfl)
@[simp] theorem v_dict1 (k : Str) (i : Int) (ρ : Rho) : mDict1 k i ρ = .ok (.dK [.inr k] [.int i]) := (rfl)
@[simp] theorem neg_i (i : Int) : negD (.int i) = .ok (.int (-i)) := (rfl)
@[simp] theorem rep_1 {x : D} {k : Int} (h0 : 0 ≤ k) (h : k ≤ 1000) : repD (.lst [x]) (.int k) = .ok (.lst (List.replicate k.toNat x)) := by
  have b : 0 ≤ k ∧ k ≤ 1000 ∧ [x].length ≤ 100 := ⟨h0, h, by simp⟩
  simp only [repD, if_pos b]
  congr 2
  generalize k.toNat = n
  induction n with
  | zero => rfl
  | succ n ih => simp [List.replicate_succ, ih]
end L3
set_option Elab.async false
set_option linter.all false
set_option maxRecDepth 100000
set_option autoImplicit false
namespace N21
open PySem PySem.Spec L2 L3
def top (i : Nat) : Stmt := PySem.Challenge.pw_nohalfway_k21_plans_or_not.main.body.getD i (.Pass ⟨0, 0, 0, 0⟩)
abbrev s_law_draws : Stmt := top 24
abbrev s_law_net : Stmt := top 26
abbrev s_is_pair : Stmt := top 17
abbrev s_is_whole : Stmt := top 5
abbrev s_is_whole_within : Stmt := top 6
abbrev s_is_door_among : Stmt := top 18
abbrev s_is_wire_among : Stmt := top 19
abbrev s_far_doors : Stmt := top 20
abbrev s_are_counts : Stmt := top 16
abbrev s_Net_init : Stmt := inClass (top 21) 0
abbrev s_law_mixed : Stmt := top 25
abbrev s_law_plan : Stmt := top 27
abbrev s_is_step : Stmt := top 10
abbrev s_is_plan : Stmt := top 11
abbrev s_law_not_told : Stmt := top 29
abbrev s_law_cell_at : Stmt := top 23
abbrev s_law_told : Stmt := top 28
abbrev s_plain_plan : Stmt := top 12
abbrev s_law_plain_right : Stmt := top 31
abbrev s_law_odd : Stmt := top 30
abbrev s_law : Stmt := top 32
def c_MOST_DOORS : D := .int 4
def c_MOST_HOUSES : D := .int 6
def c_MOST_STEPS : D := .int 40
def c_WAIT : D := .ktp [.str (PySem.Str.ofString "wait")]
structure Tx (K : PySem.W.Frag) (mg : Str → Option Value) : Prop where
  f_law_draws : Fd K mg "_law_draws" s_law_draws ["_law_cell", "_law_many"]
  f_law_net : Fd K mg "_law_net" s_law_net ["_law_cell"]
  f_is_pair : Fd K mg "is_pair" s_is_pair ["thing"]
  f_is_whole : Fd K mg "is_whole" s_is_whole ["thing"]
  f_is_whole_within : Fd K mg "is_whole_within" s_is_whole_within ["thing", "least", "greatest"]
  f_is_door_among : Fd K mg "is_door_among" s_is_door_among ["counts", "thing"]
  f_is_wire_among : Fd K mg "is_wire_among" s_is_wire_among ["counts", "thing"]
  f_far_doors : Fd K mg "far_doors" s_far_doors ["counts", "wires"]
  f_are_counts : Fd K mg "are_counts" s_are_counts ["thing"]
  f_Net_init : InK K mg "Net" "Net.__init__" s_Net_init ["self", "counts", "wires"]
  f_law_mixed : Fd K mg "_law_mixed" s_law_mixed ["_law_cell", "_law_k"]
  f_law_plan : Fd K mg "_law_plan" s_law_plan ["_law_cells", "_law_many"]
  f_is_step : Fd K mg "is_step" s_is_step ["thing", "net"]
  f_is_plan : Fd K mg "is_plan" s_is_plan ["thing", "net"]
  f_law_not_told : Fd K mg "_law_not_told" s_law_not_told ["_law_thing", "_law_net_here"]
  f_law_cell_at : Fd K mg "_law_cell_at" s_law_cell_at ["_law_script", "_law_k"]
  f_law_told : Fd K mg "_law_told" s_law_told ["_law_thing", "_law_net_here"]
  f_plain_plan : Fd K mg "plain_plan" s_plain_plan ["net"]
  f_law_plain_right : Fd K mg "_law_plain_right" s_law_plain_right ["_law_net_here", "_law_many"]
  f_law_odd : Fd K mg "_law_odd" s_law_odd ["_law_number", "_law_many"]
  f_law : Fd K mg "law" s_law ["_law_script"]
  k_Net : ClF K "Net" ["many", "counts", "joined", "far"]
  b_all : mg "all" = none
  b_bool : mg "bool" = none
  b_int : mg "int" = none
  b_isinstance : mg "isinstance" = none
  b_len : mg "len" = none
  b_list : mg "list" = none
  b_max : mg "max" = none
  b_range : mg "range" = none
  b_set : mg "set" = none
  b_str : mg "str" = none
  b_tuple : mg "tuple" = none
  c_MOST_DOORS : Cst K mg "MOST_DOORS" c_MOST_DOORS
  c_MOST_HOUSES : Cst K mg "MOST_HOUSES" c_MOST_HOUSES
  c_MOST_STEPS : Cst K mg "MOST_STEPS" c_MOST_STEPS
  c_WAIT : Cst K mg "WAIT" c_WAIT
theorem sc_law_draws : FnScope ["_law_cell", "_law_many", "_law_draws_here", "_law_rest", "_law_k", "_law_prime", "_law_factor"] ["_law_cell", "_law_many"] (defScope s_law_draws) := ⟨rfl, rfl, rfl, by decide +kernel, rfl, by decide +kernel, by decide +kernel⟩
def b_law_draws : MS :=
    mSeq (mSetO 2 (mLim (mNil)))
    (mSeq (mSet 3 (mBin fdivD (mVar 0) (mC (.int 2))))
    (mSeq (mFor (mR1 (mCons (mVar 1) (mNil))) (setV 4) (mIfS (mB (mBin (eqR true) (mBin modD (mVar 0) (mC (.int 2))) (mC (.int 1)))) (mSeq (mSet 5 (mBin ixD (mFz (mLim (mCons (mC (.int 2147483647)) (mCons (mC (.int 2147483629)) (mCons (mC (.int 2147483587)) (mCons (mC (.int 2147483579)) (mNil))))))) (mBin modD (mBin fdivD (mVar 4) (mC (.int 4))) (mC (.int 4)))))
    (mSeq (mSet 6 (mBin ixD (mFz (mLim (mCons (mC (.int 48271)) (mCons (mC (.int 69621)) (mCons (mC (.int 16807)) (mCons (mC (.int 39373)) (mNil))))))) (mBin modD (mVar 4) (mC (.int 4)))))
    (mApp 2 (mBin fdivD (mBin modD (mBin mulD (mBin addD (mBin addD (mBin modD (mVar 3) (mBin powD (mC (.int 10)) (mC (.int 30)))) (mBin mulD (mC (.int 7919)) (mVar 4))) (mC (.int 1))) (mVar 6)) (mVar 5)) (mC (.int 7)))))) (mSeq (mApp 2 (mBin modD (mVar 3) (mBin powD (mC (.int 10)) (mC (.int 6)))))
    (mSet 3 (mBin fdivD (mVar 3) (mBin powD (mC (.int 10)) (mC (.int 6))))))))
    (mRetO (mVarO 2))))
def m_law_draws : List D → R Rt := mDef 7 b_law_draws
theorem sc_law_net : FnScope ["_law_cell", "_law_draws_here", "_law_many", "_law_counts", "_law_free", "_law_house", "_law_wires", "_law_k", "_law_one"] ["_law_cell"] (defScope s_law_net) := ⟨rfl, rfl, rfl, by decide +kernel, rfl, by decide +kernel, by decide +kernel⟩
def b_law_net : MS :=
    mSeq (mSet 1 (mFz (mCallO 2 m_law_draws (mCons (mVar 0) (mCons (mC (.int 40)) (mNil))))))
    (mSeq (mSet 2 (mBin addD (mC (.int 1)) (mBin modD (mBin ixD (mVar 1) (mC (.int 0))) (mC (.int 6)))))
    (mSeq (mSetF 3 (mComp 1 [1, 2] (mR1 (mCons (mVar 2) (mNil))) (setV 0) (mYes) (mBin addD (mC (.int 1)) (mBin modD (mBin ixD (mVar 1) (mBin addD (mC (.int 1)) (mVar 0))) (mBin ixD (mFz (mLim (mCons (mC (.int 4)) (mCons (mC (.int 4)) (mCons (mC (.int 4)) (mCons (mC (.int 3)) (mCons (mC (.int 2)) (mCons (mC (.int 2)) (mNil))))))))) (mBin subD (mVar 2) (mC (.int 1))))))))
    (mSeq (mSetO 4 (mLim (mNil)))
    (mSeq (mFor (mR1 (mCons (mCB lenD (mCons (mVar 3) (mNil))) (mNil))) (setV 5) (mDropE (mExtend 4 (mFz (mComp 1 [5] (mR1 (mCons (mBin ixD (mVar 3) (mVar 5)) (mNil))) (setV 0) (mYes) (mTup (mCons (mVar 1) (mCons (mVar 0) (mNil)))))))))
    (mSeq (mSetO 6 (mLim (mNil)))
    (mSeq (mFor (mR1 (mCons (mBor (mBin subD (mBin fdivD (mBin subD (mCB lenD (mCons (mVar 4) (mNil))) (mC (.int 1))) (mC (.int 2))) (mBin modD (mBin ixD (mVar 1) (mC (.int 7))) (mC (.int 2))))) (mNil))) (setV 7) (mSeq (mSetE 8 (mPopAt 4 (mBor (mBin modD (mBin ixD (mVar 1) (mBin addD (mC (.int 8)) (mBin mulD (mC (.int 2)) (mVar 7)))) (mCB lenD (mCons (mVar 4) (mNil)))))))
    (mAppE 6 (mTupE (mConsE (lf (mVar 8)) (mConsE (mPopAt 4 (mBor (mBin modD (mBin ixD (mVar 1) (mBin addD (mC (.int 9)) (mBin mulD (mC (.int 2)) (mVar 7)))) (mCB lenD (mCons (mVar 4) (mNil)))))) (lfA mNil)))))))
    (mRetZ (mTup (mCons (mVar 3) (mCons (mVar 6) (mNil)))))))))))
def m_law_net : List D → R Rt := mDef 9 b_law_net
theorem sc_is_pair : FnScope ["thing"] ["thing"] (defScope s_is_pair) := ⟨rfl, rfl, rfl, by decide +kernel, rfl, by decide +kernel, by decide +kernel⟩
def b_is_pair : MS :=
    mRet (mAndV (mUn (isiD "tuple") (mVar 0)) (mBin (eqR true) (mCB lenD (mCons (mVar 0) (mNil))) (mC (.int 2))))
def m_is_pair : List D → R Rt := mDef 1 b_is_pair
theorem sc_is_whole : FnScope ["thing"] ["thing"] (defScope s_is_whole) := ⟨rfl, rfl, rfl, by decide +kernel, rfl, by decide +kernel, by decide +kernel⟩
def b_is_whole : MS :=
    mRet (mAndV (mUn (isiD "int") (mVar 0)) (mNotV (mUn (isiD "bool") (mVar 0))))
def m_is_whole : List D → R Rt := mDef 1 b_is_whole
theorem sc_is_whole_within : FnScope ["thing", "least", "greatest"] ["thing", "least", "greatest"] (defScope s_is_whole_within) := ⟨rfl, rfl, rfl, by decide +kernel, rfl, by decide +kernel, by decide +kernel⟩
def b_is_whole_within : MS :=
    mRet (mAndV (mCall 1 m_is_whole (mCons (mVar 0) (mNil))) (mChain leD leD (mVar 1) (mVar 0) (mVar 2)))
def m_is_whole_within : List D → R Rt := mDef 3 b_is_whole_within
theorem sc_is_door_among : FnScope ["counts", "thing"] ["counts", "thing"] (defScope s_is_door_among) := ⟨rfl, rfl, rfl, by decide +kernel, rfl, by decide +kernel, by decide +kernel⟩
def b_is_door_among : MS :=
    mSeq (mIfS (mOr (mNot (mB (mCall 1 m_is_pair (mCons (mVar 1) (mNil))))) (mNot (mB (mCall 3 m_is_whole_within (mCons (mBin ixD (mVar 1) (mC (.int 0))) (mCons (mC (.int 0)) (mCons (mBin subD (mCB lenD (mCons (mVar 0) (mNil))) (mC (.int 1))) (mNil)))))))) (mRet (mC (.bl false))) (mNext))
    (mRet (mCall 3 m_is_whole_within (mCons (mBin ixD (mVar 1) (mC (.int 1))) (mCons (mC (.int 0)) (mCons (mBin subD (mBin ixD (mVar 0) (mBin ixD (mVar 1) (mC (.int 0)))) (mC (.int 1))) (mNil))))))
def m_is_door_among : List D → R Rt := mDef 2 b_is_door_among
theorem sc_is_wire_among : FnScope ["counts", "thing", "both"] ["counts", "thing"] (defScope s_is_wire_among) := ⟨rfl, rfl, rfl, by decide +kernel, rfl, by decide +kernel, by decide +kernel⟩
def b_is_wire_among : MS :=
    mSeq (mIfS (mNot (mB (mCall 1 m_is_pair (mCons (mVar 1) (mNil))))) (mRet (mC (.bl false))) (mNext))
    (mSeq (mSet 2 (mAndV (mCall 2 m_is_door_among (mCons (mVar 0) (mCons (mBin ixD (mVar 1) (mC (.int 0))) (mNil)))) (mCall 2 m_is_door_among (mCons (mVar 0) (mCons (mBin ixD (mVar 1) (mC (.int 1))) (mNil))))))
    (mRet (mAndV (mVar 2) (mBin (eqR false) (mBin ixD (mVar 1) (mC (.int 0))) (mBin ixD (mVar 1) (mC (.int 1)))))))
def m_is_wire_among : List D → R Rt := mDef 3 b_is_wire_among
theorem sc_far_doors : FnScope ["counts", "wires", "far", "wire"] ["counts", "wires"] (defScope s_far_doors) := ⟨rfl, rfl, rfl, by decide +kernel, rfl, by decide +kernel, by decide +kernel⟩
def b_far_doors : MS :=
    mSeq (mSetD 2)
    (mSeq (mFor (mIT (mVar 1)) (setV 3) (mSeq (mIfS (mNot (mB (mCall 2 m_is_wire_among (mCons (mVar 0) (mCons (mVar 3) (mNil)))))) (mBad) (mNext))
    (mSeq (mIfS (mBorT (mOr (mB (mBin (dinD true) (mBin ixD (mVar 3) (mC (.int 0))) (mVar 2))) (mB (mBin (dinD true) (mBin ixD (mVar 3) (mC (.int 1))) (mVar 2))))) (mBad) (mNext))
    (mSeq (mDPut 2 (mBin ixD (mVar 3) (mC (.int 0))) (mBin ixD (mVar 3) (mC (.int 1))))
    (mDPut 2 (mBin ixD (mVar 3) (mC (.int 1))) (mBin ixD (mVar 3) (mC (.int 0))))))))
    (mRetZ (mVar 2)))
def m_far_doors : List D → R Rt := mDef 4 b_far_doors
theorem sc_are_counts : FnScope ["thing"] ["thing"] (defScope s_are_counts) := ⟨rfl, rfl, rfl, by decide +kernel, rfl, by decide +kernel, by decide +kernel⟩
def b_are_counts : MS :=
    mSeq (mIfS (mOr (mNot (mB (mUn (isiD "list") (mVar 0)))) (mNot (mB (mChain leD leD (mC (.int 1)) (mCB lenD (mCons (mVar 0) (mNil))) (mC c_MOST_HOUSES))))) (mRet (mC (.bl false))) (mNext))
    (mRet (mCB allD (mCons (mFz (mComp 1 [] (mIL (mVar 0)) (setV 0) (mYes) (mCall 3 m_is_whole_within (mCons (mVar 0) (mCons (mC (.int 1)) (mCons (mC c_MOST_DOORS) (mNil))))))) (mNil))))
def m_are_counts : List D → R Rt := mDef 1 b_are_counts
theorem sc_Net_init : FnScope ["self", "counts", "wires"] ["self", "counts", "wires"] (defScope s_Net_init) := ⟨rfl, rfl, rfl, by decide +kernel, rfl, by decide +kernel, by decide +kernel⟩
def b_Net_init : MN :=
    mThen (mGuard (mNot (mB (mCall 1 m_are_counts (mCons (mVar 1) (mNil))))))
    (mThen (mGuard (mNot (mB (mUn (isiD "list") (mVar 2)))))
    (mThen (mFldSet "Net" "many" (mCB lenD (mCons (mVar 1) (mNil))))
    (mThen (mFldSet "Net" "counts" (mCB tupleD (mCons (mVar 1) (mNil))))
    (mThen (mFldSet "Net" "joined" (mCB tupleD (mCons (mVar 2) (mNil))))
    (mFldSet "Net" "far" (mBorI (mCall 2 m_far_doors (mCons (mUn (fldD "Net" "counts") (mVar 0)) (mCons (mUn (fldD "Net" "joined") (mVar 0)) (mNil))))))))))
def m_Net_init : List D → R (List Str × List D) := fun es => outI "Net" (b_Net_init (iniI "Net" es))
theorem sc_law_mixed : FnScope ["_law_cell", "_law_k"] ["_law_cell", "_law_k"] (defScope s_law_mixed) := ⟨rfl, rfl, rfl, by decide +kernel, rfl, by decide +kernel, by decide +kernel⟩
def b_law_mixed : MS :=
    mRet (mBin ixD (mFz (mCallO 2 m_law_draws (mCons (mVar 0) (mCons (mBin addD (mVar 1) (mC (.int 1))) (mNil))))) (mVar 1))
def m_law_mixed : List D → R Rt := mDef 2 b_law_mixed
theorem sc_law_plan : FnScope ["_law_cells", "_law_many", "_law_houses", "_law_plan_here", "_law_cell", "_law_at", "_law_kind", "_law_step", "_law_near"] ["_law_cells", "_law_many"] (defScope s_law_plan) := ⟨rfl, rfl, rfl, by decide +kernel, rfl, by decide +kernel, by decide +kernel⟩
def b_law_plan : MS :=
    mSeq (mSet 2 (mFz (mLR (mCons (mVar 1) (mNil)))))
    (mSeq (mSetO 3 (mCat2 (mFz (mComp 1 [] (mIL (mVar 2)) (setV 0) (mYes) (mTup (mCons (mC (.str (PySem.Str.ofString "teach"))) (mCons (mVar 0) (mNil)))))) (mFz (mComp 1 [] (mIL (mVar 2)) (setV 0) (mYes) (mTup (mCons (mC (.str (PySem.Str.ofString "turn"))) (mCons (mVar 0) (mNil))))))))
    (mSeq (mSetO 3 (mCatO (mCatV 3 (mFz (mLim (mCons (mTup (mCons (mC (.str (PySem.Str.ofString "wait"))) (mNil))) (mNil))))) (mFz (mComp 1 [] (mIL (mVar 2)) (setV 0) (mYes) (mTup (mCons (mC (.str (PySem.Str.ofString "forget"))) (mCons (mVar 0) (mNil))))))))
    (mSeq (mFor (mIL (mVar 0)) (setV 4) (mSeq (mSet 5 (mBor (mBin modD (mCall 2 m_law_mixed (mCons (mVar 4) (mCons (mC (.int 0)) (mNil)))) (mCB lenD (mCons (mVar 3) (mNil))))))
    (mSeq (mSet 6 (mBin modD (mCall 2 m_law_mixed (mCons (mVar 4) (mCons (mC (.int 1)) (mNil)))) (mC (.int 6))))
    (mIfS (mBorT (mAnd (mB (mBin (eqR true) (mVar 6) (mC (.int 0)))) (mB (mBin gtD (mCB lenD (mCons (mVar 3) (mNil))) (mC (.int 1)))))) (mDropE (mPopAt 3 (mVar 5))) (mIfS (mBorT (mAnd (mB (mBin (eqR true) (mVar 6) (mC (.int 1)))) (mB (mBin ltD (mCB lenD (mCons (mVar 3) (mNil))) (mC (.int 39)))))) (mDropE (mInsert 3 (mVar 5) (mTup (mCons (mC (.str (PySem.Str.ofString "wait"))) (mNil))))) (mIfS (mB (mBin ltD (mVar 6) (mC (.int 5)))) (mSeq (mSetE 7 (mPopAt 3 (mVar 5)))
    (mSeq (mSet 8 (mBor (mBin ixD (mFz (mLim (mCons (mBin addD (mVar 5) (mC (.int 1))) (mCons (mCB max2D (mCons (mC (.int 0)) (mCons (mBin subD (mVar 5) (mC (.int 1))) (mNil)))) (mCons (mBin modD (mCall 2 m_law_mixed (mCons (mVar 4) (mCons (mC (.int 2)) (mNil)))) (mBin addD (mCB lenD (mCons (mVar 3) (mNil))) (mC (.int 1)))) (mNil)))))) (mBin subD (mVar 6) (mC (.int 2))))))
    (mDropE (mInsert 3 (mVar 8) (mVar 7))))) (mNext)))))))
    (mRetO (mVarO 3)))))
def m_law_plan : List D → R Rt := mDef 9 b_law_plan
theorem sc_is_step : FnScope ["thing", "net"] ["thing", "net"] (defScope s_is_step) := ⟨rfl, rfl, rfl, by decide +kernel, rfl, by decide +kernel, by decide +kernel⟩
def b_is_step : MS :=
    mSeq (mIfS (mOr (mNot (mB (mUn (isiD "tuple") (mVar 0)))) (mOr (mB (mBin (inD false) (mCB lenD (mCons (mVar 0) (mNil))) (mTup (mCons (mC (.int 1)) (mCons (mC (.int 2)) (mNil)))))) (mNot (mB (mUn (isiD "str") (mBin ixD (mVar 0) (mC (.int 0)))))))) (mRet (mC (.bl false))) (mNext))
    (mSeq (mIfS (mB (mBin (eqR true) (mCB lenD (mCons (mVar 0) (mNil))) (mC (.int 1)))) (mRet (mBin (eqR true) (mBin ixD (mVar 0) (mC (.int 0))) (mC (.str (PySem.Str.ofString "wait"))))) (mNext))
    (mRet (mAndV (mBin (inD true) (mBin ixD (mVar 0) (mC (.int 0))) (mTup (mCons (mC (.str (PySem.Str.ofString "teach"))) (mCons (mC (.str (PySem.Str.ofString "turn"))) (mCons (mC (.str (PySem.Str.ofString "forget"))) (mNil)))))) (mCall 3 m_is_whole_within (mCons (mBin ixD (mVar 0) (mC (.int 1))) (mCons (mC (.int 0)) (mCons (mBin subD (mUn (fldD "Net" "many") (mVar 1)) (mC (.int 1))) (mNil))))))))
def m_is_step : List D → R Rt := mDef 2 b_is_step
theorem sc_is_plan : FnScope ["thing", "net", "once"] ["thing", "net"] (defScope s_is_plan) := ⟨rfl, rfl, rfl, by decide +kernel, rfl, by decide +kernel, by decide +kernel⟩
def b_is_plan : MS :=
    mSeq (mIfS (mOr (mNot (mB (mUn (isiD "list") (mVar 0)))) (mB (mBin gtD (mCB lenD (mCons (mVar 0) (mNil))) (mC c_MOST_STEPS)))) (mRet (mC (.bl false))) (mNext))
    (mSeq (mIfS (mNot (mB (mCB allD (mCons (mFz (mComp 1 [1] (mIL (mVar 0)) (setV 0) (mYes) (mCall 2 m_is_step (mCons (mVar 0) (mCons (mVar 1) (mNil)))))) (mNil))))) (mRet (mC (.bl false))) (mNext))
    (mSeq (mSetF 2 (mComp 1 [] (mIL (mVar 0)) (setV 0) (mB (mBin (eqR false) (mVar 0) (mC c_WAIT))) (mVar 0)))
    (mRet (mBin (eqR true) (mCB lenSetD (mCons (mVar 2) (mNil))) (mCB lenD (mCons (mVar 2) (mNil)))))))
def m_is_plan : List D → R Rt := mDef 3 b_is_plan
theorem sc_law_not_told : FnScope ["_law_thing", "_law_net_here", "_law_found"] ["_law_thing", "_law_net_here"] (defScope s_law_not_told) := ⟨rfl, rfl, rfl, by decide +kernel, rfl, by decide +kernel, by decide +kernel⟩
def b_law_not_told : MS :=
    mSeq (mSet 2 (mCall 2 m_is_plan (mCons (mVar 0) (mCons (mVar 1) (mNil)))))
    (mRet (mAndV (mUn (isiD "bool") (mVar 2)) (mNotV (mVar 2))))
def m_law_not_told : List D → R Rt := mDef 3 b_law_not_told
theorem sc_law_cell_at : FnScope ["_law_script", "_law_k"] ["_law_script", "_law_k"] (defScope s_law_cell_at) := ⟨rfl, rfl, rfl, by decide +kernel, rfl, by decide +kernel, by decide +kernel⟩
def b_law_cell_at : MS :=
    mSeq (mIfS (mB (mBin ltD (mVar 1) (mCB lenD (mCons (mVar 0) (mNil))))) (mRet (mBin ixD (mVar 0) (mVar 1))) (mNext))
    (mRet (mC (.int 0)))
def m_law_cell_at : List D → R Rt := mDef 2 b_law_cell_at
theorem sc_law_told : FnScope ["_law_thing", "_law_net_here", "_law_found"] ["_law_thing", "_law_net_here"] (defScope s_law_told) := ⟨rfl, rfl, rfl, by decide +kernel, rfl, by decide +kernel, by decide +kernel⟩
def b_law_told : MS :=
    mSeq (mSet 2 (mCall 2 m_is_plan (mCons (mVar 0) (mCons (mVar 1) (mNil)))))
    (mRet (mAndV (mUn (isiD "bool") (mVar 2)) (mVar 2)))
def m_law_told : List D → R Rt := mDef 3 b_law_told
theorem sc_plain_plan : FnScope ["net", "houses", "taught", "turned"] ["net"] (defScope s_plain_plan) := ⟨rfl, rfl, rfl, by decide +kernel, rfl, by decide +kernel, by decide +kernel⟩
def b_plain_plan : MS :=
    mSeq (mSet 1 (mFz (mLR (mCons (mUn (fldD "Net" "many") (mVar 0)) (mNil)))))
    (mSeq (mSetF 2 (mComp 1 [] (mIL (mVar 1)) (setV 0) (mYes) (mTup (mCons (mC (.str (PySem.Str.ofString "teach"))) (mCons (mVar 0) (mNil))))))
    (mSeq (mSetF 3 (mComp 1 [] (mIL (mVar 1)) (setV 0) (mYes) (mTup (mCons (mC (.str (PySem.Str.ofString "turn"))) (mCons (mVar 0) (mNil))))))
    (mRetO (mCat2 (mFz (mCat2 (mFz (mCat2 (mVar 2) (mVar 3))) (mFz (mLim (mCons (mC c_WAIT) (mNil)))))) (mFz (mComp 1 [] (mIL (mVar 1)) (setV 0) (mYes) (mTup (mCons (mC (.str (PySem.Str.ofString "forget"))) (mCons (mVar 0) (mNil))))))))))
def m_plain_plan : List D → R Rt := mDef 4 b_plain_plan
theorem sc_law_plain_right : FnScope ["_law_net_here", "_law_many", "_law_houses", "_law_due", "_law_found"] ["_law_net_here", "_law_many"] (defScope s_law_plain_right) := ⟨rfl, rfl, rfl, by decide +kernel, rfl, by decide +kernel, by decide +kernel⟩
def b_law_plain_right : MS :=
    mSeq (mSet 2 (mFz (mLR (mCons (mVar 1) (mNil)))))
    (mSeq (mSet 3 (mBin addD (mFz (mComp 1 [] (mIL (mVar 2)) (setV 0) (mYes) (mTup (mCons (mC (.str (PySem.Str.ofString "teach"))) (mCons (mVar 0) (mNil)))))) (mFz (mComp 1 [] (mIL (mVar 2)) (setV 0) (mYes) (mTup (mCons (mC (.str (PySem.Str.ofString "turn"))) (mCons (mVar 0) (mNil))))))))
    (mSeq (mSet 3 (mBin addD (mBin addD (mVar 3) (mFz (mLim (mCons (mTup (mCons (mC (.str (PySem.Str.ofString "wait"))) (mNil))) (mNil))))) (mFz (mComp 1 [] (mIL (mVar 2)) (setV 0) (mYes) (mTup (mCons (mC (.str (PySem.Str.ofString "forget"))) (mCons (mVar 0) (mNil))))))))
    (mSeq (mSetO 4 (mCallO 1 m_plain_plan (mCons (mVar 0) (mNil))))
    (mSeq (mIfS (mBorT (mOr (mNot (mB (mUn (isiD "list") (mVar 4)))) (mOr (mB (mBin (eqR false) (mVar 4) (mVar 3))) (mNot (mB (mCall 2 m_law_told (mCons (mVar 4) (mCons (mVar 0) (mNil))))))))) (mRet (mC (.bl false))) (mNext))
    (mSeq (mApp 4 (mTup (mCons (mC (.str (PySem.Str.ofString "wait"))) (mNil))))
    (mSeq (mDropE (mPopAt 4 (mC (.int 0))))
    (mRet (mBin (eqR true) (mFz (mCallO 1 m_plain_plan (mCons (mVar 0) (mNil)))) (mVar 3)))))))))
def m_law_plain_right : List D → R Rt := mDef 5 b_law_plain_right
theorem sc_law_odd : FnScope ["_law_number", "_law_many", "_law_some"] ["_law_number", "_law_many"] (defScope s_law_odd) := ⟨rfl, rfl, rfl, by decide +kernel, rfl, by decide +kernel, by decide +kernel⟩
def b_law_odd : MS :=
    mSeq (mSet 2 (mFz (mLim (mCons (mTup (mCons (mC (.str (PySem.Str.ofString "teach"))) (mCons (mVar 1) (mNil)))) (mCons (mTup (mCons (mC (.str (PySem.Str.ofString "turn"))) (mCons (mUn negD (mC (.int 1))) (mNil)))) (mCons (mTup (mCons (mC (.str (PySem.Str.ofString "forget"))) (mCons (mC (.bl true)) (mNil)))) (mCons (mTup (mCons (mC (.str (PySem.Str.ofString "teach"))) (mCons (mC (.str (PySem.Str.ofString "0"))) (mNil)))) (mCons (mTup (mCons (mC (.str (PySem.Str.ofString "wait"))) (mCons (mC (.int 0)) (mNil)))) (mCons (mTup (mCons (mC (.str (PySem.Str.ofString "teach"))) (mNil))) (mNil))))))))))
    (mSeq (mSet 2 (mBin addD (mVar 2) (mFz (mLim (mCons (mTup (mCons (mC (.str (PySem.Str.ofString "turn"))) (mCons (mC (.int 0)) (mCons (mC (.int 0)) (mNil))))) (mCons (mTup (mCons (mC (.str (PySem.Str.ofString "Wait"))) (mNil))) (mCons (mTup (mCons (mC (.str (PySem.Str.ofString "tell"))) (mCons (mC (.int 0)) (mNil)))) (mCons (mFz (mLim (mCons (mC (.str (PySem.Str.ofString "teach"))) (mCons (mC (.int 0)) (mNil))))) (mCons (mC (.str (PySem.Str.ofString "wait"))) (mCons (mTup (mNil)) (mCons (mC .non) (mCons (mC (.int 3)) (mNil)))))))))))))
    (mRet (mBin ixD (mBin addD (mVar 2) (mFz (mLim (mCons (mTup (mCons (mC (.str (PySem.Str.ofString "forget"))) (mCons (mC .non) (mNil)))) (mCons (mTup (mCons (mFz (mLim (mCons (mC (.str (PySem.Str.ofString "wait"))) (mNil)))) (mNil))) (mNil)))))) (mBin modD (mVar 0) (mC (.int 16))))))
def m_law_odd : List D → R Rt := mDef 3 b_law_odd
theorem sc_law : FnScope ["_law_script", "_law_counts", "_law_wires", "_law_net_here", "_law_plan_here", "_law_handed", "_law_number", "_law_at", "_law_steps", "_law_step", "_law_full", "_law_other"] ["_law_script"] (defScope s_law) := ⟨rfl, rfl, rfl, by decide +kernel, rfl, by decide +kernel, by decide +kernel⟩
def b_law : MS :=
    mSeq (mUnp (setT [setV 1, setV 2]) (mCall 1 m_law_net (mCons (mCall 2 m_law_cell_at (mCons (mVar 0) (mCons (mC (.int 0)) (mNil)))) (mNil))))
    (mSeq (mSet 3 (mMake "Net" 2 m_Net_init (mCons (mFz (mListO (mCons (mVar 1) (mNil)))) (mCons (mFz (mListO (mCons (mVar 2) (mNil)))) (mNil)))))
    (mSeq (mSet 4 (mFz (mCallO 2 m_law_plan (mCons (mSl slD (mVar 0) (mPart (mC (.int 13))) (mNoP)) (mCons (mCB lenD (mCons (mVar 1) (mNil))) (mNil))))))
    (mSeq (mSet 5 (mFz (mListO (mCons (mVar 4) (mNil)))))
    (mSeq (mIfS (mOr (mNot (mB (mCall 2 m_law_told (mCons (mVar 5) (mCons (mVar 3) (mNil)))))) (mOr (mB (mBin (eqR false) (mVar 5) (mVar 4))) (mNot (mB (mCall 2 m_law_plain_right (mCons (mVar 3) (mCons (mCB lenD (mCons (mVar 1) (mNil))) (mNil)))))))) (mRet (mC (.bl false))) (mNext))
    (mSeq (mSet 6 (mCall 2 m_law_mixed (mCons (mCall 2 m_law_cell_at (mCons (mVar 0) (mCons (mC (.int 1)) (mNil)))) (mCons (mC (.int 60)) (mNil)))))
    (mSeq (mSet 7 (mBin modD (mVar 6) (mBin addD (mCB lenD (mCons (mVar 4) (mNil))) (mC (.int 1)))))
    (mSeq (mIfS (mNot (mB (mCall 2 m_law_not_told (mCons (mBin addD (mBin addD (mSl slD (mVar 4) (mNoP) (mPart (mVar 7))) (mFz (mLim (mCons (mCall 2 m_law_odd (mCons (mBin fdivD (mVar 6) (mC (.int 50))) (mCons (mCB lenD (mCons (mVar 1) (mNil))) (mNil)))) (mNil))))) (mSl slD (mVar 4) (mPart (mVar 7)) (mNoP))) (mCons (mVar 3) (mNil)))))) (mRet (mC (.bl false))) (mNext))
    (mSeq (mSetF 8 (mComp 1 [] (mIL (mVar 4)) (setV 0) (mB (mBin (eqR false) (mVar 0) (mTup (mCons (mC (.str (PySem.Str.ofString "wait"))) (mNil))))) (mVar 0)))
    (mSeq (mFor (mIL (mSl slD (mSl slD (mVar 8) (mPart (mBin modD (mBin fdivD (mVar 6) (mC (.int 7))) (mC (.int 7)))) (mNoP)) (mNoP) (mPart (mC (.int 1))))) (setV 9) (mIfS (mNot (mB (mCall 2 m_law_not_told (mCons (mBin addD (mBin addD (mSl slD (mVar 4) (mNoP) (mPart (mVar 7))) (mFz (mLim (mCons (mVar 9) (mNil))))) (mSl slD (mVar 4) (mPart (mVar 7)) (mNoP))) (mCons (mVar 3) (mNil)))))) (mRet (mC (.bl false))) (mNext)))
    (mSeq (mSet 10 (mBin addD (mVar 4) (mBin repD (mFz (mLim (mCons (mTup (mCons (mC (.str (PySem.Str.ofString "wait"))) (mNil))) (mNil)))) (mBin subD (mC (.int 40)) (mCB lenD (mCons (mVar 4) (mNil)))))))
    (mSeq (mIfS (mOr (mNot (mB (mCall 2 m_law_told (mCons (mVar 10) (mCons (mVar 3) (mNil)))))) (mOr (mNot (mB (mCall 2 m_law_not_told (mCons (mBin addD (mVar 10) (mFz (mLim (mCons (mTup (mCons (mC (.str (PySem.Str.ofString "wait"))) (mNil))) (mNil))))) (mCons (mVar 3) (mNil)))))) (mNot (mB (mCall 2 m_law_told (mCons (mFz (mLim (mNil))) (mCons (mVar 3) (mNil)))))))) (mRet (mC (.bl false))) (mNext))
    (mSeq (mSet 11 (mBin ixD (mFz (mLim (mCons (mCB tupleD (mCons (mVar 4) (mNil))) (mCons (mC .non) (mCons (mC (.str (PySem.Str.ofString "wait"))) (mCons (mDict1 (PySem.Str.ofString "wait") 1) (mCons (mC (.int 0)) (mCons (mC (.bl true)) (mNil))))))))) (mBin modD (mBin fdivD (mVar 6) (mC (.int 11))) (mC (.int 6)))))
    (mRet (mCall 2 m_law_not_told (mCons (mVar 11) (mCons (mVar 3) (mNil)))))))))))))))))
def m_law : List D → R Rt := mDef 12 b_law
end N21
set_option Elab.async false
set_option linter.all false
set_option maxRecDepth 100000
set_option autoImplicit false
namespace N21
open PySem PySem.Spec L2 L3
section
variable {P : Program} {w : World} {K : PySem.W.Frag} {mg : Str → Option Value} {base : Heap} (T : Tx K mg)
include T
set_option maxHeartbeats 4000000
theorem kn_law_draws : Kn P w K mg base "_law_draws" 2 1 m_law_draws := by
  have h := xd_ok (P := P) (w := w) (mg := mg) (base := base) (k := 0) (m := b_law_draws) T.f_law_draws sc_law_draws
  exact h fun _ _ _ _ _ _ _ hr _ _ =>
  xs_cons (xs_setO 2 sc_law_draws.nd (xo_lst (xa_nil)))
    (xs_cons (xs_set 3 sc_law_draws.nd (xe_fdiv (xe_var 0) (xe_int)))
    (xs_cons (xs_for PassesOwn.never (xw_range1 T.b_range (xa_cons (xe_var 1) (xa_nil))) (n_name 4 sc_law_draws.nd) (xs_one (xs_if (xt_eq hr.units (xe_mod (xe_var 0) (xe_int)) (xe_int)) (xs_cons (xs_set 5 sc_law_draws.nd (xe_ix (xe_fz (xo_lst (xa_cons (xe_int) (xa_cons (xe_int) (xa_cons (xe_int) (xa_cons (xe_int) (xa_nil))))))) (xe_mod (xe_fdiv (xe_var 4) (xe_int)) (xe_int)) px))
    (xs_cons (xs_set 6 sc_law_draws.nd (xe_ix (xe_fz (xo_lst (xa_cons (xe_int) (xa_cons (xe_int) (xa_cons (xe_int) (xa_cons (xe_int) (xa_nil))))))) (xe_mod (xe_var 4) (xe_int)) px))
    (xs_one (xs_append 2 (xe_fdiv (xe_mod (xe_mul (xe_add (xe_add (xe_mod (xe_var 3) (xe_pow (xe_int) (xe_int))) (xe_mul (xe_int) (xe_var 4))) (xe_int)) (xe_var 6)) (xe_var 5)) (xe_int)))))) (xs_cons (xs_append 2 (xe_mod (xe_var 3) (xe_pow (xe_int) (xe_int))))
    (xs_one (xs_set 3 sc_law_draws.nd (xe_fdiv (xe_var 3) (xe_pow (xe_int) (xe_int)))))))))
    (xs_one (xs_retV 2))))
theorem kn_law_net : Kn P w K mg base "_law_net" 1 2 m_law_net := by
  have h := xd_ok (P := P) (w := w) (mg := mg) (base := base) (k := 1) (m := b_law_net) T.f_law_net sc_law_net
  exact h fun _ _ _ _ _ _ _ hr _ _ =>
  xs_cons (xs_set 1 sc_law_net.nd (xe_fz (xo_call (kn_law_draws T) (hr.mono (by decide)) (xa_cons (xe_var 0) (xa_cons (xe_int) (xa_nil))))))
    (xs_cons (xs_set 2 sc_law_net.nd (xe_add (xe_int) (xe_mod (xe_ix (xe_var 1) (xe_int) px) (xe_int))))
    (xs_cons (xs_setF (xs_comp (N := ["_law_k", "_law_draws_here", "_law_many"]) 3 1 [1, 2] sc_law_net.nd (by rfl) (xw_range1 T.b_range (xa_cons (xe_var 2) (xa_nil))) (b_name 0) (blk_yes) (fun _ _ _ _ _ _ _ => xe_add (xe_int) (xe_mod (xe_ix (xe_var 1) (xe_add (xe_int) (xe_var 0)) px) (xe_ix (xe_fz (xo_lst (xa_cons (xe_int) (xa_cons (xe_int) (xa_cons (xe_int) (xa_cons (xe_int) (xa_cons (xe_int) (xa_cons (xe_int) (xa_nil))))))))) (xe_sub (xe_var 2) (xe_int)) px)))))
    (xs_cons (xs_setO 4 sc_law_net.nd (xo_lst (xa_nil)))
    (xs_cons (xs_for PassesOwn.never (xw_range1 T.b_range (xa_cons (xe_len T.b_len (xa_cons (xe_var 3) (xa_nil))) (xa_nil))) (n_name 5 sc_law_net.nd) (xs_one (xs_exprE (xe_extend 4 (xe_fz (xo_comp (N := ["_law_door", "_law_house"]) 1 [5] (by rfl) (xw_range1 T.b_range (xa_cons (xe_ix (xe_var 3) (xe_var 5) px) (xa_nil))) (b_name 0) (blk_yes) (fun _ _ _ _ _ _ _ => xe_tup (xa_cons (xe_var 1) (xa_cons (xe_var 0) (xa_nil))))))))))
    (xs_cons (xs_setO 6 sc_law_net.nd (xo_lst (xa_nil)))
    (xs_cons (xs_for PassesOwn.never (xw_range1 T.b_range (xa_cons (xe_bor (xe_sub (xe_fdiv (xe_sub (xe_len T.b_len (xa_cons (xe_var 4) (xa_nil))) (xe_int)) (xe_int)) (xe_mod (xe_ix (xe_var 1) (xe_int) px) (xe_int)))) (xa_nil))) (n_name 7 sc_law_net.nd) (xs_cons (xs_setE 8 sc_law_net.nd (xe_popAt 4 (xe_bor (xe_mod (xe_ix (xe_var 1) (xe_add (xe_int) (xe_mul (xe_int) (xe_var 7))) px) (xe_len T.b_len (xa_cons (xe_var 4) (xa_nil)))))))
    (xs_one (xs_appendE 6 (xf_tup (xf_cons (xf_lf (xe_var 8)) (xf_cons (xe_popAt 4 (xe_bor (xe_mod (xe_ix (xe_var 1) (xe_add (xe_int) (xe_mul (xe_int) (xe_var 7))) px) (xe_len T.b_len (xa_cons (xe_var 4) (xa_nil)))))) (xf_nil))))))))
    (xs_one (xs_retZ (xe_tup (xa_cons (xe_var 3) (xa_cons (xe_var 6) (xa_nil))))))))))))
theorem kn_is_pair : Kn P w K mg base "is_pair" 1 1 m_is_pair := by
  have h := xd_ok (P := P) (w := w) (mg := mg) (base := base) (k := 0) (m := b_is_pair) T.f_is_pair sc_is_pair
  exact h fun _ _ _ _ _ _ _ hr _ _ =>
  xs_one (xs_ret (xe_and (xe_isi (tt_tuple _) T.b_isinstance T.b_tuple (by kernel_rfl) (xe_var 0)) (xe_one (xe_eq hr.units (xe_len T.b_len (xa_cons (xe_var 0) (xa_nil))) (xe_int)))))
theorem kn_is_whole : Kn P w K mg base "is_whole" 1 1 m_is_whole := by
  have h := xd_ok (P := P) (w := w) (mg := mg) (base := base) (k := 0) (m := b_is_whole) T.f_is_whole sc_is_whole
  exact h fun _ _ _ _ _ _ _ hr _ _ =>
  xs_one (xs_ret (xe_and (xe_isi (tt_int _) T.b_isinstance T.b_int (by kernel_rfl) (xe_var 0)) (xe_one (xe_not (xe_isi (tt_bool _) T.b_isinstance T.b_bool (by kernel_rfl) (xe_var 0))))))
theorem kn_is_whole_within : Kn P w K mg base "is_whole_within" 3 2 m_is_whole_within := by
  have h := xd_ok (P := P) (w := w) (mg := mg) (base := base) (k := 1) (m := b_is_whole_within) T.f_is_whole_within sc_is_whole_within
  exact h fun _ _ _ _ _ _ _ hr _ _ =>
  xs_one (xs_ret (xe_and (xe_call (kn_is_whole T) (hr.mono (by decide)) (xa_cons (xe_var 0) (xa_nil))) (xe_one (xe_chain op_le op_le ok_le ok_le (xe_var 1) (xe_var 0) (xe_var 2)))))
theorem kn_is_door_among : Kn P w K mg base "is_door_among" 2 3 m_is_door_among := by
  have h := xd_ok (P := P) (w := w) (mg := mg) (base := base) (k := 2) (m := b_is_door_among) T.f_is_door_among sc_is_door_among
  exact h fun _ _ _ _ _ _ _ hr _ _ =>
  xs_cons (xs_if (xt_w (xw_or (xt_not (xt_val (xe_call (kn_is_pair T) (hr.mono (by decide)) (xa_cons (xe_var 1) (xa_nil))))) (xw_or1 (xt_not (xt_val (xe_call (kn_is_whole_within T) (hr.mono (by decide)) (xa_cons (xe_ix (xe_var 1) (xe_int) px) (xa_cons (xe_int) (xa_cons (xe_sub (xe_len T.b_len (xa_cons (xe_var 0) (xa_nil))) (xe_int)) (xa_nil)))))))))) (xs_one (xs_ret (xe_bl))) (xs_nil))
    (xs_one (xs_ret (xe_call (kn_is_whole_within T) (hr.mono (by decide)) (xa_cons (xe_ix (xe_var 1) (xe_int) px) (xa_cons (xe_int) (xa_cons (xe_sub (xe_ix (xe_var 0) (xe_ix (xe_var 1) (xe_int) px) px) (xe_int)) (xa_nil)))))))
theorem kn_is_wire_among : Kn P w K mg base "is_wire_among" 2 4 m_is_wire_among := by
  have h := xd_ok (P := P) (w := w) (mg := mg) (base := base) (k := 3) (m := b_is_wire_among) T.f_is_wire_among sc_is_wire_among
  exact h fun _ _ _ _ _ _ _ hr _ _ =>
  xs_cons (xs_if (xt_not (xt_val (xe_call (kn_is_pair T) (hr.mono (by decide)) (xa_cons (xe_var 1) (xa_nil))))) (xs_one (xs_ret (xe_bl))) (xs_nil))
    (xs_cons (xs_set 2 sc_is_wire_among.nd (xe_and (xe_call (kn_is_door_among T) (hr.mono (by decide)) (xa_cons (xe_var 0) (xa_cons (xe_ix (xe_var 1) (xe_int) px) (xa_nil)))) (xe_one (xe_call (kn_is_door_among T) (hr.mono (by decide)) (xa_cons (xe_var 0) (xa_cons (xe_ix (xe_var 1) (xe_int) px) (xa_nil)))))))
    (xs_one (xs_ret (xe_and (xe_var 2) (xe_one (xe_ne hr.units (xe_ix (xe_var 1) (xe_int) px) (xe_ix (xe_var 1) (xe_int) px)))))))
theorem kn_far_doors : Kn P w K mg base "far_doors" 2 5 m_far_doors := by
  have h := xd_ok (P := P) (w := w) (mg := mg) (base := base) (k := 4) (m := b_far_doors) T.f_far_doors sc_far_doors
  exact h fun _ _ _ _ _ _ _ hr _ _ =>
  xs_cons (xs_setD 2 sc_far_doors.nd)
    (xs_cons (xs_for PassesOwn.never (xw_tup (xe_var 1)) (n_name 3 sc_far_doors.nd) (xs_cons (xs_if (xt_not (xt_val (xe_call (kn_is_wire_among T) (hr.mono (by decide)) (xa_cons (xe_var 0) (xa_cons (xe_var 3) (xa_nil)))))) (xs_one (xs_bad)) (xs_nil))
    (xs_cons (xs_if (xt_bor (xt_w (xw_or (xt_din hr.units (xe_ix (xe_var 3) (xe_int) px) (xe_var 2)) (xw_or1 (xt_din hr.units (xe_ix (xe_var 3) (xe_int) px) (xe_var 2)))))) (xs_one (xs_bad)) (xs_nil))
    (xs_cons (xs_dput 2 hr.units (xe_ix (xe_var 3) (xe_int) px) (xe_ix (xe_var 3) (xe_int) px))
    (xs_one (xs_dput 2 hr.units (xe_ix (xe_var 3) (xe_int) px) (xe_ix (xe_var 3) (xe_int) px)))))))
    (xs_one (xs_retZ (xe_var 2))))
theorem kn_are_counts : Kn P w K mg base "are_counts" 1 3 m_are_counts := by
  have h := xd_ok (P := P) (w := w) (mg := mg) (base := base) (k := 2) (m := b_are_counts) T.f_are_counts sc_are_counts
  exact h fun _ _ _ _ _ _ _ hr _ _ =>
  xs_cons (xs_if (xt_w (xw_or (xt_not (xt_val (xe_isi (tt_list _) T.b_isinstance T.b_list (by kernel_rfl) (xe_var 0)))) (xw_or1 (xt_not (xt_chain op_le op_le ok_le ok_le (xe_int) (xe_len T.b_len (xa_cons (xe_var 0) (xa_nil))) (xe_cst T.c_MOST_HOUSES)))))) (xs_one (xs_ret (xe_bl))) (xs_nil))
    (xs_one (xs_ret (xe_all hr T.b_all (xa_cons (xe_fz (xo_comp (N := ["doors"]) 1 [] (by rfl) (xw_list (xe_var 0)) (b_name 0) (blk_yes) (fun _ _ _ _ _ _ _ => xe_call (kn_is_whole_within T) (hr.mono (by decide)) (xa_cons (xe_var 0) (xa_cons (xe_int) (xa_cons (xe_cst T.c_MOST_DOORS) (xa_nil))))))) (xa_nil)))))
theorem kn_Net_init : KnI P w K mg base "Net" 2 6 m_Net_init := by
  have h := xi_ok (P := P) (w := w) (mg := mg) (base := base) (k := 5) (m := b_Net_init) T.f_Net_init sc_Net_init
  exact h fun _ _ _ _ _ _ _ hr _ _ =>
  xn_cons (xn_guard (xt_not (xt_val (xe_call (kn_are_counts T) (hr.mono (by decide)) (xa_cons (xe_var 1) (xa_nil))))))
    (xn_cons (xn_guard (xt_not (xt_val (xe_isi (tt_list _) T.b_isinstance T.b_list (by kernel_rfl) (xe_var 2)))))
    (xn_cons (xn_fld T.k_Net (xe_len T.b_len (xa_cons (xe_var 1) (xa_nil))))
    (xn_cons (xn_fld T.k_Net (xe_tuple T.b_tuple (xa_cons (xe_var 1) (xa_nil))))
    (xn_cons (xn_fld T.k_Net (xe_tuple T.b_tuple (xa_cons (xe_var 2) (xa_nil))))
    (xn_one (xn_fld T.k_Net (xe_borI (xe_call (kn_far_doors T) (hr.mono (by decide)) (xa_cons (xe_fld T.k_Net (xe_var 0)) (xa_cons (xe_fld T.k_Net (xe_var 0)) (xa_nil)))))))))))
theorem kn_law_mixed : Kn P w K mg base "_law_mixed" 2 2 m_law_mixed := by
  have h := xd_ok (P := P) (w := w) (mg := mg) (base := base) (k := 1) (m := b_law_mixed) T.f_law_mixed sc_law_mixed
  exact h fun _ _ _ _ _ _ _ hr _ _ =>
  xs_one (xs_ret (xe_ix (xe_fz (xo_call (kn_law_draws T) (hr.mono (by decide)) (xa_cons (xe_var 0) (xa_cons (xe_add (xe_var 1) (xe_int)) (xa_nil))))) (xe_var 1) px))
theorem kn_law_plan : Kn P w K mg base "_law_plan" 2 3 m_law_plan := by
  have h := xd_ok (P := P) (w := w) (mg := mg) (base := base) (k := 2) (m := b_law_plan) T.f_law_plan sc_law_plan
  exact h fun _ _ _ _ _ _ _ hr _ _ =>
  xs_cons (xs_set 2 sc_law_plan.nd (xe_fz (xo_listRange T.b_list T.b_range (xa_cons (xe_var 1) (xa_nil)))))
    (xs_cons (xs_setO 3 sc_law_plan.nd (xo_cat2 (xe_fz (xo_comp (N := ["_law_house"]) 1 [] (by rfl) (xw_list (xe_var 2)) (b_name 0) (blk_yes) (fun _ _ _ _ _ _ _ => xe_tup (xa_cons (xe_str) (xa_cons (xe_var 0) (xa_nil)))))) (xe_fz (xo_comp (N := ["_law_house"]) 1 [] (by rfl) (xw_list (xe_var 2)) (b_name 0) (blk_yes) (fun _ _ _ _ _ _ _ => xe_tup (xa_cons (xe_str) (xa_cons (xe_var 0) (xa_nil))))))))
    (xs_cons (xs_setO 3 sc_law_plan.nd (xo_cat (xo_catV 3 (xe_fz (xo_lst (xa_cons (xe_tup (xa_cons (xe_str) (xa_nil))) (xa_nil))))) (xe_fz (xo_comp (N := ["_law_house"]) 1 [] (by rfl) (xw_list (xe_var 2)) (b_name 0) (blk_yes) (fun _ _ _ _ _ _ _ => xe_tup (xa_cons (xe_str) (xa_cons (xe_var 0) (xa_nil))))))))
    (xs_cons (xs_for PassesOwn.never (xw_list (xe_var 0)) (n_name 4 sc_law_plan.nd) (xs_cons (xs_set 5 sc_law_plan.nd (xe_bor (xe_mod (xe_call (kn_law_mixed T) (hr.mono (by decide)) (xa_cons (xe_var 4) (xa_cons (xe_int) (xa_nil)))) (xe_len T.b_len (xa_cons (xe_var 3) (xa_nil))))))
    (xs_cons (xs_set 6 sc_law_plan.nd (xe_mod (xe_call (kn_law_mixed T) (hr.mono (by decide)) (xa_cons (xe_var 4) (xa_cons (xe_int) (xa_nil)))) (xe_int)))
    (xs_one (xs_if (xt_bor (xt_w (xw_and (xt_eq hr.units (xe_var 6) (xe_int)) (xw_and1 (xt_gt (xe_len T.b_len (xa_cons (xe_var 3) (xa_nil))) (xe_int)))))) (xs_one (xs_exprE (xe_popAt 3 (xe_var 5)))) (xs_one (xs_if (xt_bor (xt_w (xw_and (xt_eq hr.units (xe_var 6) (xe_int)) (xw_and1 (xt_lt (xe_len T.b_len (xa_cons (xe_var 3) (xa_nil))) (xe_int)))))) (xs_one (xs_exprE (xe_insert 3 (xe_var 5) (xe_tup (xa_cons (xe_str) (xa_nil)))))) (xs_one (xs_if (xt_lt (xe_var 6) (xe_int)) (xs_cons (xs_setE 7 sc_law_plan.nd (xe_popAt 3 (xe_var 5)))
    (xs_cons (xs_set 8 sc_law_plan.nd (xe_bor (xe_ix (xe_fz (xo_lst (xa_cons (xe_add (xe_var 5) (xe_int)) (xa_cons (xe_max2 T.b_max (xa_cons (xe_int) (xa_cons (xe_sub (xe_var 5) (xe_int)) (xa_nil)))) (xa_cons (xe_mod (xe_call (kn_law_mixed T) (hr.mono (by decide)) (xa_cons (xe_var 4) (xa_cons (xe_int) (xa_nil)))) (xe_add (xe_len T.b_len (xa_cons (xe_var 3) (xa_nil))) (xe_int))) (xa_nil)))))) (xe_sub (xe_var 6) (xe_int)) px)))
    (xs_one (xs_exprE (xe_insert 3 (xe_var 8) (xe_var 7)))))) (xs_nil))))))))))
    (xs_one (xs_retV 3)))))
theorem kn_is_step : Kn P w K mg base "is_step" 2 3 m_is_step := by
  have h := xd_ok (P := P) (w := w) (mg := mg) (base := base) (k := 2) (m := b_is_step) T.f_is_step sc_is_step
  exact h fun _ _ _ _ _ _ _ hr _ _ =>
  xs_cons (xs_if (xt_w (xw_or (xt_not (xt_val (xe_isi (tt_tuple _) T.b_isinstance T.b_tuple (by kernel_rfl) (xe_var 0)))) (xw_or (xt_notIn hr.units (xe_len T.b_len (xa_cons (xe_var 0) (xa_nil))) (xe_tup (xa_cons (xe_int) (xa_cons (xe_int) (xa_nil))))) (xw_or1 (xt_not (xt_val (xe_isi (tt_str _) T.b_isinstance T.b_str (by kernel_rfl) (xe_ix (xe_var 0) (xe_int) px)))))))) (xs_one (xs_ret (xe_bl))) (xs_nil))
    (xs_cons (xs_if (xt_eq hr.units (xe_len T.b_len (xa_cons (xe_var 0) (xa_nil))) (xe_int)) (xs_one (xs_ret (xe_eq hr.units (xe_ix (xe_var 0) (xe_int) px) (xe_str)))) (xs_nil))
    (xs_one (xs_ret (xe_and (xe_in hr.units (xe_ix (xe_var 0) (xe_int) px) (xe_tup (xa_cons (xe_str) (xa_cons (xe_str) (xa_cons (xe_str) (xa_nil)))))) (xe_one (xe_call (kn_is_whole_within T) (hr.mono (by decide)) (xa_cons (xe_ix (xe_var 0) (xe_int) px) (xa_cons (xe_int) (xa_cons (xe_sub (xe_fld T.k_Net (xe_var 1)) (xe_int)) (xa_nil))))))))))
theorem kn_is_plan : Kn P w K mg base "is_plan" 2 4 m_is_plan := by
  have h := xd_ok (P := P) (w := w) (mg := mg) (base := base) (k := 3) (m := b_is_plan) T.f_is_plan sc_is_plan
  exact h fun _ _ _ _ _ _ _ hr _ _ =>
  xs_cons (xs_if (xt_w (xw_or (xt_not (xt_val (xe_isi (tt_list _) T.b_isinstance T.b_list (by kernel_rfl) (xe_var 0)))) (xw_or1 (xt_gt (xe_len T.b_len (xa_cons (xe_var 0) (xa_nil))) (xe_cst T.c_MOST_STEPS))))) (xs_one (xs_ret (xe_bl))) (xs_nil))
    (xs_cons (xs_if (xt_not (xt_val (xe_all hr T.b_all (xa_cons (xe_fz (xo_comp (N := ["step", "net"]) 1 [1] (by rfl) (xw_list (xe_var 0)) (b_name 0) (blk_yes) (fun _ _ _ _ _ _ _ => xe_call (kn_is_step T) (hr.mono (by decide)) (xa_cons (xe_var 0) (xa_cons (xe_var 1) (xa_nil)))))) (xa_nil))))) (xs_one (xs_ret (xe_bl))) (xs_nil))
    (xs_cons (xs_setF (xs_comp (N := ["step"]) 2 1 [] sc_is_plan.nd (by rfl) (xw_list (xe_var 0)) (b_name 0) (xblk_one (fun _ _ _ _ _ _ _ => xt_ne hr.units (xe_var 0) (xe_cst T.c_WAIT))) (fun _ _ _ _ _ _ _ => xe_var 0)))
    (xs_one (xs_ret (xe_eq hr.units (xe_lenset hr.hd hr.units T.b_len T.b_set (xa_cons (xe_var 2) (xa_nil))) (xe_len T.b_len (xa_cons (xe_var 2) (xa_nil))))))))
theorem kn_law_not_told : Kn P w K mg base "_law_not_told" 2 5 m_law_not_told := by
  have h := xd_ok (P := P) (w := w) (mg := mg) (base := base) (k := 4) (m := b_law_not_told) T.f_law_not_told sc_law_not_told
  exact h fun _ _ _ _ _ _ _ hr _ _ =>
  xs_cons (xs_set 2 sc_law_not_told.nd (xe_call (kn_is_plan T) (hr.mono (by decide)) (xa_cons (xe_var 0) (xa_cons (xe_var 1) (xa_nil)))))
    (xs_one (xs_ret (xe_and (xe_isi (tt_bool _) T.b_isinstance T.b_bool (by kernel_rfl) (xe_var 2)) (xe_one (xe_not (xe_var 2))))))
theorem kn_law_cell_at : Kn P w K mg base "_law_cell_at" 2 1 m_law_cell_at := by
  have h := xd_ok (P := P) (w := w) (mg := mg) (base := base) (k := 0) (m := b_law_cell_at) T.f_law_cell_at sc_law_cell_at
  exact h fun _ _ _ _ _ _ _ hr _ _ =>
  xs_cons (xs_if (xt_lt (xe_var 1) (xe_len T.b_len (xa_cons (xe_var 0) (xa_nil)))) (xs_one (xs_ret (xe_ix (xe_var 0) (xe_var 1) px))) (xs_nil))
    (xs_one (xs_ret (xe_int)))
theorem kn_law_told : Kn P w K mg base "_law_told" 2 5 m_law_told := by
  have h := xd_ok (P := P) (w := w) (mg := mg) (base := base) (k := 4) (m := b_law_told) T.f_law_told sc_law_told
  exact h fun _ _ _ _ _ _ _ hr _ _ =>
  xs_cons (xs_set 2 sc_law_told.nd (xe_call (kn_is_plan T) (hr.mono (by decide)) (xa_cons (xe_var 0) (xa_cons (xe_var 1) (xa_nil)))))
    (xs_one (xs_ret (xe_and (xe_isi (tt_bool _) T.b_isinstance T.b_bool (by kernel_rfl) (xe_var 2)) (xe_one (xe_var 2)))))
theorem kn_plain_plan : Kn P w K mg base "plain_plan" 1 1 m_plain_plan := by
  have h := xd_ok (P := P) (w := w) (mg := mg) (base := base) (k := 0) (m := b_plain_plan) T.f_plain_plan sc_plain_plan
  exact h fun _ _ _ _ _ _ _ hr _ _ =>
  xs_cons (xs_set 1 sc_plain_plan.nd (xe_fz (xo_listRange T.b_list T.b_range (xa_cons (xe_fld T.k_Net (xe_var 0)) (xa_nil)))))
    (xs_cons (xs_setF (xs_comp (N := ["house"]) 2 1 [] sc_plain_plan.nd (by rfl) (xw_list (xe_var 1)) (b_name 0) (blk_yes) (fun _ _ _ _ _ _ _ => xe_tup (xa_cons (xe_str) (xa_cons (xe_var 0) (xa_nil))))))
    (xs_cons (xs_setF (xs_comp (N := ["house"]) 3 1 [] sc_plain_plan.nd (by rfl) (xw_list (xe_var 1)) (b_name 0) (blk_yes) (fun _ _ _ _ _ _ _ => xe_tup (xa_cons (xe_str) (xa_cons (xe_var 0) (xa_nil))))))
    (xs_one (xs_retO (xo_cat2 (xe_fz (xo_cat2 (xe_fz (xo_cat2 (xe_var 2) (xe_var 3))) (xe_fz (xo_lst (xa_cons (xe_cst T.c_WAIT) (xa_nil)))))) (xe_fz (xo_comp (N := ["house"]) 1 [] (by rfl) (xw_list (xe_var 1)) (b_name 0) (blk_yes) (fun _ _ _ _ _ _ _ => xe_tup (xa_cons (xe_str) (xa_cons (xe_var 0) (xa_nil)))))))))))
theorem kn_law_plain_right : Kn P w K mg base "_law_plain_right" 2 6 m_law_plain_right := by
  have h := xd_ok (P := P) (w := w) (mg := mg) (base := base) (k := 5) (m := b_law_plain_right) T.f_law_plain_right sc_law_plain_right
  exact h fun _ _ _ _ _ _ _ hr _ _ =>
  xs_cons (xs_set 2 sc_law_plain_right.nd (xe_fz (xo_listRange T.b_list T.b_range (xa_cons (xe_var 1) (xa_nil)))))
    (xs_cons (xs_set 3 sc_law_plain_right.nd (xe_add (xe_fz (xo_comp (N := ["_law_house"]) 1 [] (by rfl) (xw_list (xe_var 2)) (b_name 0) (blk_yes) (fun _ _ _ _ _ _ _ => xe_tup (xa_cons (xe_str) (xa_cons (xe_var 0) (xa_nil)))))) (xe_fz (xo_comp (N := ["_law_house"]) 1 [] (by rfl) (xw_list (xe_var 2)) (b_name 0) (blk_yes) (fun _ _ _ _ _ _ _ => xe_tup (xa_cons (xe_str) (xa_cons (xe_var 0) (xa_nil))))))))
    (xs_cons (xs_set 3 sc_law_plain_right.nd (xe_add (xe_add (xe_var 3) (xe_fz (xo_lst (xa_cons (xe_tup (xa_cons (xe_str) (xa_nil))) (xa_nil))))) (xe_fz (xo_comp (N := ["_law_house"]) 1 [] (by rfl) (xw_list (xe_var 2)) (b_name 0) (blk_yes) (fun _ _ _ _ _ _ _ => xe_tup (xa_cons (xe_str) (xa_cons (xe_var 0) (xa_nil))))))))
    (xs_cons (xs_setO 4 sc_law_plain_right.nd (xo_call (kn_plain_plan T) (hr.mono (by decide)) (xa_cons (xe_var 0) (xa_nil))))
    (xs_cons (xs_if (xt_bor (xt_w (xw_or (xt_not (xt_val (xe_isi (tt_list _) T.b_isinstance T.b_list (by kernel_rfl) (xe_var 4)))) (xw_or (xt_ne hr.units (xe_var 4) (xe_var 3)) (xw_or1 (xt_not (xt_val (xe_call (kn_law_told T) (hr.mono (by decide)) (xa_cons (xe_var 4) (xa_cons (xe_var 0) (xa_nil))))))))))) (xs_one (xs_ret (xe_bl))) (xs_nil))
    (xs_cons (xs_append 4 (xe_tup (xa_cons (xe_str) (xa_nil))))
    (xs_cons (xs_exprE (xe_popAt 4 (xe_int)))
    (xs_one (xs_ret (xe_eq hr.units (xe_fz (xo_call (kn_plain_plan T) (hr.mono (by decide)) (xa_cons (xe_var 0) (xa_nil)))) (xe_var 3))))))))))
theorem kn_law_odd : Kn P w K mg base "_law_odd" 2 1 m_law_odd := by
  have h := xd_ok (P := P) (w := w) (mg := mg) (base := base) (k := 0) (m := b_law_odd) T.f_law_odd sc_law_odd
  exact h fun _ _ _ _ _ _ _ hr _ _ =>
  xs_cons (xs_set 2 sc_law_odd.nd (xe_fz (xo_lst (xa_cons (xe_tup (xa_cons (xe_str) (xa_cons (xe_var 1) (xa_nil)))) (xa_cons (xe_tup (xa_cons (xe_str) (xa_cons (xe_neg (xe_int)) (xa_nil)))) (xa_cons (xe_tup (xa_cons (xe_str) (xa_cons (xe_bl) (xa_nil)))) (xa_cons (xe_tup (xa_cons (xe_str) (xa_cons (xe_str) (xa_nil)))) (xa_cons (xe_tup (xa_cons (xe_str) (xa_cons (xe_int) (xa_nil)))) (xa_cons (xe_tup (xa_cons (xe_str) (xa_nil))) (xa_nil))))))))))
    (xs_cons (xs_set 2 sc_law_odd.nd (xe_add (xe_var 2) (xe_fz (xo_lst (xa_cons (xe_tup (xa_cons (xe_str) (xa_cons (xe_int) (xa_cons (xe_int) (xa_nil))))) (xa_cons (xe_tup (xa_cons (xe_str) (xa_nil))) (xa_cons (xe_tup (xa_cons (xe_str) (xa_cons (xe_int) (xa_nil)))) (xa_cons (xe_fz (xo_lst (xa_cons (xe_str) (xa_cons (xe_int) (xa_nil))))) (xa_cons (xe_str) (xa_cons (xe_tup (xa_nil)) (xa_cons (xe_non) (xa_cons (xe_int) (xa_nil)))))))))))))
    (xs_one (xs_ret (xe_ix (xe_add (xe_var 2) (xe_fz (xo_lst (xa_cons (xe_tup (xa_cons (xe_str) (xa_cons (xe_non) (xa_nil)))) (xa_cons (xe_tup (xa_cons (xe_fz (xo_lst (xa_cons (xe_str) (xa_nil)))) (xa_nil))) (xa_nil)))))) (xe_mod (xe_var 0) (xe_int)) px))))
theorem bm_law (f : Addr) (cdv : Value) (A : Around) (outer : List Env) (s : Shared) (H : Hp) (E : XK)
    (hr : Room 7 (A.deeper (PyProof.Rows.envOfC "law" (defScope s_law) s.heap.objs.size f cdv))) (G0 H0 : Hp) : XBM (cxOf CX0 P w K mg base ["_law_script", "_law_counts", "_law_wires", "_law_net_here", "_law_plan_here", "_law_handed", "_law_number", "_law_at", "_law_steps", "_law_step", "_law_full", "_law_other"] "law" (defScope s_law) f cdv A outer s H E).nox (fxB K G0 H0) (defBody s_law) b_law :=
  xs_cons (xs_unp (xe_call (kn_law_net T) (hr.mono (by decide)) (xa_cons (xe_call (kn_law_cell_at T) (hr.mono (by decide)) (xa_cons (xe_var 0) (xa_cons (xe_int) (xa_nil)))) (xa_nil))) (n_tup rfl (n_cons (n_name 1 sc_law.nd) (n_cons (n_name 2 sc_law.nd) (n_nil)))))
    (xs_cons (xs_set 3 sc_law.nd (xe_make (kn_Net_init T) (hr.mono (by decide)) (xa_cons (xe_fz (xo_list T.b_list (xa_cons (xe_var 1) (xa_nil)))) (xa_cons (xe_fz (xo_list T.b_list (xa_cons (xe_var 2) (xa_nil)))) (xa_nil)))))
    (xs_cons (xs_set 4 sc_law.nd (xe_fz (xo_call (kn_law_plan T) (hr.mono (by decide)) (xa_cons (xe_sl (xe_var 0) (xp_some (xe_int)) (xp_no)) (xa_cons (xe_len T.b_len (xa_cons (xe_var 1) (xa_nil))) (xa_nil))))))
    (xs_cons (xs_set 5 sc_law.nd (xe_fz (xo_list T.b_list (xa_cons (xe_var 4) (xa_nil)))))
    (xs_cons (xs_if (xt_w (xw_or (xt_not (xt_val (xe_call (kn_law_told T) (hr.mono (by decide)) (xa_cons (xe_var 5) (xa_cons (xe_var 3) (xa_nil)))))) (xw_or (xt_ne hr.units (xe_var 5) (xe_var 4)) (xw_or1 (xt_not (xt_val (xe_call (kn_law_plain_right T) (hr.mono (by decide)) (xa_cons (xe_var 3) (xa_cons (xe_len T.b_len (xa_cons (xe_var 1) (xa_nil))) (xa_nil)))))))))) (xs_one (xs_ret (xe_bl))) (xs_nil))
    (xs_cons (xs_set 6 sc_law.nd (xe_call (kn_law_mixed T) (hr.mono (by decide)) (xa_cons (xe_call (kn_law_cell_at T) (hr.mono (by decide)) (xa_cons (xe_var 0) (xa_cons (xe_int) (xa_nil)))) (xa_cons (xe_int) (xa_nil)))))
    (xs_cons (xs_set 7 sc_law.nd (xe_mod (xe_var 6) (xe_add (xe_len T.b_len (xa_cons (xe_var 4) (xa_nil))) (xe_int))))
    (xs_cons (xs_if (xt_not (xt_val (xe_call (kn_law_not_told T) (hr.mono (by decide)) (xa_cons (xe_add (xe_add (xe_sl (xe_var 4) (xp_no) (xp_some (xe_var 7))) (xe_fz (xo_lst (xa_cons (xe_call (kn_law_odd T) (hr.mono (by decide)) (xa_cons (xe_fdiv (xe_var 6) (xe_int)) (xa_cons (xe_len T.b_len (xa_cons (xe_var 1) (xa_nil))) (xa_nil)))) (xa_nil))))) (xe_sl (xe_var 4) (xp_some (xe_var 7)) (xp_no))) (xa_cons (xe_var 3) (xa_nil)))))) (xs_one (xs_ret (xe_bl))) (xs_nil))
    (xs_cons (xs_setF (xs_comp (N := ["_law_step"]) 8 1 [] sc_law.nd (by rfl) (xw_list (xe_var 4)) (b_name 0) (xblk_one (fun _ _ _ _ _ _ _ => xt_ne hr.units (xe_var 0) (xe_tup (xa_cons (xe_str) (xa_nil))))) (fun _ _ _ _ _ _ _ => xe_var 0)))
    (xs_cons (xs_for PassesOwn.never (xw_list (xe_sl (xe_sl (xe_var 8) (xp_some (xe_mod (xe_fdiv (xe_var 6) (xe_int)) (xe_int))) (xp_no)) (xp_no) (xp_some (xe_int)))) (n_name 9 sc_law.nd) (xs_one (xs_if (xt_not (xt_val (xe_call (kn_law_not_told T) (hr.mono (by decide)) (xa_cons (xe_add (xe_add (xe_sl (xe_var 4) (xp_no) (xp_some (xe_var 7))) (xe_fz (xo_lst (xa_cons (xe_var 9) (xa_nil))))) (xe_sl (xe_var 4) (xp_some (xe_var 7)) (xp_no))) (xa_cons (xe_var 3) (xa_nil)))))) (xs_one (xs_ret (xe_bl))) (xs_nil))))
    (xs_cons (xs_set 10 sc_law.nd (xe_add (xe_var 4) (xe_rep (xe_fz (xo_lst (xa_cons (xe_tup (xa_cons (xe_str) (xa_nil))) (xa_nil)))) (xe_sub (xe_int) (xe_len T.b_len (xa_cons (xe_var 4) (xa_nil)))))))
    (xs_cons (xs_if (xt_w (xw_or (xt_not (xt_val (xe_call (kn_law_told T) (hr.mono (by decide)) (xa_cons (xe_var 10) (xa_cons (xe_var 3) (xa_nil)))))) (xw_or (xt_not (xt_val (xe_call (kn_law_not_told T) (hr.mono (by decide)) (xa_cons (xe_add (xe_var 10) (xe_fz (xo_lst (xa_cons (xe_tup (xa_cons (xe_str) (xa_nil))) (xa_nil))))) (xa_cons (xe_var 3) (xa_nil)))))) (xw_or1 (xt_not (xt_val (xe_call (kn_law_told T) (hr.mono (by decide)) (xa_cons (xe_fz (xo_lst (xa_nil))) (xa_cons (xe_var 3) (xa_nil)))))))))) (xs_one (xs_ret (xe_bl))) (xs_nil))
    (xs_cons (xs_set 11 sc_law.nd (xe_ix (xe_fz (xo_lst (xa_cons (xe_tuple T.b_tuple (xa_cons (xe_var 4) (xa_nil))) (xa_cons (xe_non) (xa_cons (xe_str) (xa_cons (xe_dict1) (xa_cons (xe_int) (xa_cons (xe_bl) (xa_nil))))))))) (xe_mod (xe_fdiv (xe_var 6) (xe_int)) (xe_int)) px))
    (xs_one (xs_ret (xe_call (kn_law_not_told T) (hr.mono (by decide)) (xa_cons (xe_var 11) (xa_cons (xe_var 3) (xa_nil))))))))))))))))))
end
end N21
set_option Elab.async false
set_option linter.all false
set_option maxRecDepth 100000
set_option autoImplicit false
namespace N21
open PySem PySem.Spec L2 L3
theorem bind_ok' {α β : Type} (a : α) (k : α → R β) : (R.ok a).bind k = k a := rfl
theorem seq_nx {a b : MS} {ρ ρ' : Rho} (h : a ρ = .ok (.nx ρ')) : mSeq a b ρ = b ρ' := by simp only [mSeq, h, bind_ok']
theorem call1 {f : List D → R Rt} {a : ME} {ρ : Rho} {x y : D} (ha : a ρ = .ok x) (h : f [x] = .ok (.v y)) : mCall 1 f (mCons a mNil) ρ = .ok y := by
  simp only [mCall, mCons, mNil, ha, bind_ok', List.length_cons, List.length_nil, if_true, h, rtD]
theorem call2 {f : List D → R Rt} {a b : ME} {ρ : Rho} {x z y : D} (ha : a ρ = .ok x) (hb : b ρ = .ok z) (h : f [x, z] = .ok (.v y)) : mCall 2 f (mCons a (mCons b mNil)) ρ = .ok y := by
  simp only [mCall, mCons, mNil, ha, hb, bind_ok', List.length_cons, List.length_nil, if_true, h, rtD]
theorem call3 {f : List D → R Rt} {a b c : ME} {ρ : Rho} {x z w y : D} (ha : a ρ = .ok x) (hb : b ρ = .ok z) (hc : c ρ = .ok w) (h : f [x, z, w] = .ok (.v y)) : mCall 3 f (mCons a (mCons b (mCons c mNil))) ρ = .ok y := by
  simp only [mCall, mCons, mNil, ha, hb, hc, bind_ok', List.length_cons, List.length_nil, if_true, h, rtD]
theorem bin_ok {f : D → D → R D} {a b : ME} {ρ : Rho} {x y z : D} (ha : a ρ = .ok x) (hb : b ρ = .ok y) (h : f x y = .ok z) : mBin f a b ρ = .ok z := by simp only [mBin, ha, hb, bind_ok', h]
theorem mB_ok {a : ME} {ρ : Rho} {c : Bool} (ha : a ρ = .ok (.bl c)) : mB a ρ = .ok c := by simp only [mB, ha, bind_ok', asB]
theorem mNot_ok {a : MT} {ρ : Rho} {c : Bool} (ha : a ρ = .ok c) : mNot a ρ = .ok (!c) := by simp only [mNot, ha, bind_ok']
theorem or_ok {a b : MT} {ρ : Rho} {c d : Bool} (ha : a ρ = .ok c) (hb : c = false → b ρ = .ok d) : mOr a b ρ = .ok (c || d) := by
  cases c
  · simp only [mOr, ha, bind_ok', hb rfl, Bool.false_eq_true, if_false, Bool.false_or]
  · simp only [mOr, ha, bind_ok', if_true, Bool.true_or]
theorem chain_ok {f g : D → D → R D} {a b c : ME} {ρ : Rho} {x y w : D} {k l : Bool} (ha : a ρ = .ok x) (hb : b ρ = .ok y) (hc : c ρ = .ok w) (hf : f x y = .ok (.bl k)) (hg : g y w = .ok (.bl l)) : mChain f g a b c ρ = .ok (.bl (k && l)) := by
  cases k
  · simp only [mChain, ha, hb, hf, bind_ok', asB, Bool.false_eq_true, if_false, Bool.false_and]
  · simp only [mChain, ha, hb, hc, hf, hg, bind_ok', asB, if_true, Bool.true_and]
theorem seq_no {c : MT} {a b : MS} {ρ : Rho} (hc : c ρ = .ok false) : mSeq (mIfS c a mNext) b ρ = b ρ := by
  simp only [mSeq, mIfS, hc, bind_ok', mNext]; rfl
theorem ret_ok {e : ME} {ρ : Rho} {d : D} (he : e ρ = .ok d) : mRet e ρ = .ok (.rt d) := by simp only [mRet, he, bind_ok']
theorem for_eq {mi : MA} {set : D → Rho → R Rho} {body : MS} {ds : List D} {ρ : Rho} (hi : mi ρ = .ok ds) : mFor mi set body ρ = forGo set body ds ρ := by rw [mFor, hi]; rfl
theorem for_nx {mi : MA} {set : D → Rho → R Rho} {body : MS} {ds : List D} {ρ ρ' : Rho} (hi : mi ρ = .ok ds) (h : forGo set body ds ρ = .ok (.nx ρ')) : mFor mi set body ρ = .ok (.nx ρ') := by rw [for_eq hi]; exact h
theorem len_ok {a : ME} {ρ : Rho} {xs : List D} (ha : a ρ = .ok (.lst xs)) : mCB lenD (mCons a mNil) ρ = .ok (.int (xs.length : Nat)) := by
  simp only [mCB, mCons, mNil, ha, bind_ok', lenD]
def intsD' (cs : List Nat) : List D := cs.map fun (c : Nat) => D.int (c : Int)
abbrev Dr := Nat × Nat
def drD (d : Dr) : D := .tup [.int (d.1 : Nat), .int (d.2 : Nat)]
def wrD (w : Dr × Dr) : D := .tup [drD w.1, drD w.2]
def ends (ws : List (Dr × Dr)) : List Dr := (ws.map fun w => [w.1, w.2]).flatten
structure Lay (all left : List Dr) (ws : List (Dr × Dr)) : Prop where
  nd : (left ++ ends ws).Nodup
  sub : ∀ d ∈ left ++ ends ws, d ∈ all
theorem erase_perm {α : Type} : ∀ (l : List α) (i : Nat) (h : i < l.length), List.Perm (l[i] :: l.eraseIdx i) l
  | x :: l, 0, _ => List.Perm.refl _
  | x :: l, i + 1, h => by
    have ih := erase_perm l i (by simpa using h)
    simp only [List.getElem_cons_succ, List.eraseIdx_cons_succ]
    exact (List.Perm.swap x _ _).trans (ih.cons x)
theorem Lay.take {all left : List Dr} {ws : List (Dr × Dr)} (h : Lay all left ws) {i j : Nat} (hi : i < left.length) (hj : j < (left.eraseIdx i).length) :
    Lay all ((left.eraseIdx i).eraseIdx j) (ws ++ [(left[i], (left.eraseIdx i)[j])]) := by
  have p1 : List.Perm left (left[i] :: left.eraseIdx i) := (erase_perm left i hi).symm
  have p2 : List.Perm (left.eraseIdx i) ((left.eraseIdx i)[j] :: (left.eraseIdx i).eraseIdx j) := (erase_perm (left.eraseIdx i) j hj).symm
  have pe : ends (ws ++ [(left[i], (left.eraseIdx i)[j])]) = ends ws ++ [left[i], (left.eraseIdx i)[j]] := by simp [ends]
  have pp : List.Perm (left ++ ends ws) ((left.eraseIdx i).eraseIdx j ++ ends (ws ++ [(left[i], (left.eraseIdx i)[j])])) := by
    rw [pe]
    refine (List.Perm.append_right _ (p1.trans (List.Perm.cons _ p2))).trans ?_
    refine (List.perm_append_comm (l₁ := [left[i], (left.eraseIdx i)[j]]) (l₂ := (left.eraseIdx i).eraseIdx j ++ ends ws)).trans ?_
    rw [List.append_assoc]
  exact ⟨pp.nodup_iff.mp h.nd, fun d hd => h.sub d (pp.mem_iff.mpr hd)⟩
def drs (cs : List Nat) (h : Nat) : List Dr := (List.range (cs.getD h 0)).map fun k => (h, k)
def allD (cs : List Nat) (n : Nat) : List Dr := (List.range n).flatMap (drs cs)
theorem allD_succ (cs : List Nat) (n : Nat) : allD cs (n + 1) = allD cs n ++ drs cs n := by
  unfold allD
  rw [List.range_succ, List.flatMap_append]
  simp
theorem mem_drs {cs : List Nat} {h : Nat} {d : Dr} : d ∈ drs cs h ↔ d.1 = h ∧ d.2 < cs.getD h 0 := by
  unfold drs
  rw [List.mem_map]
  constructor
  · rintro ⟨k, hk, rfl⟩
    exact ⟨rfl, List.mem_range.mp hk⟩
  · rintro ⟨rfl, h2⟩
    exact ⟨d.2, List.mem_range.mpr h2, rfl⟩
theorem mem_allD {cs : List Nat} {n : Nat} {d : Dr} : d ∈ allD cs n ↔ d.1 < n ∧ d.2 < cs.getD d.1 0 := by
  unfold allD
  rw [List.mem_flatMap]
  constructor
  · rintro ⟨h, hh, hd⟩
    obtain ⟨rfl, h2⟩ := mem_drs.mp hd
    exact ⟨List.mem_range.mp hh, h2⟩
  · rintro ⟨h1, h2⟩
    exact ⟨d.1, List.mem_range.mpr h1, mem_drs.mpr ⟨rfl, h2⟩⟩
theorem drs_nodup (cs : List Nat) (h : Nat) : (drs cs h).Nodup := by
  unfold drs
  rw [List.nodup_iff_pairwise_ne, List.pairwise_map]
  exact List.nodup_range.imp fun hab z => hab (Prod.mk.inj z).2
theorem allD_nodup (cs : List Nat) : ∀ n, (allD cs n).Nodup
  | 0 => List.nodup_nil
  | n + 1 => by
    rw [allD_succ]
    refine List.nodup_append.mpr ⟨allD_nodup cs n, drs_nodup cs n, fun a ha b hb z => ?_⟩
    subst z
    have h1 := (mem_allD.mp ha).1
    have h2 := (mem_drs.mp hb).1
    omega
theorem getD_le {cs : List Nat} (h : ∀ c ∈ cs, c ≤ 4) (k : Nat) : cs.getD k 0 ≤ 4 := by
  rw [List.getD_eq_getElem?_getD]
  cases e : cs[k]? with
  | none => simp
  | some c => simpa using h c (List.mem_of_getElem? e)
theorem drs_len {cs : List Nat} (h : ∀ c ∈ cs, 1 ≤ c ∧ c ≤ 4) (k : Nat) : (drs cs k).length ≤ 4 := by
  unfold drs
  rw [List.length_map, List.length_range]
  exact getD_le (fun c hc => (h c hc).2) k
theorem allD_len {cs : List Nat} (h : ∀ c ∈ cs, 1 ≤ c ∧ c ≤ 4) : ∀ n, (allD cs n).length ≤ 4 * n
  | 0 => by simp [allD]
  | n + 1 => by
    rw [allD_succ, List.length_append]
    have := allD_len h n
    have := drs_len h n
    omega
theorem cs_at {cs : List Nat} {h : Nat} (hh : h < cs.length) : (intsD' cs)[h]? = some (.int (cs.getD h 0 : Nat)) := by
  simp [intsD', List.getElem?_eq_getElem hh, List.getD_eq_getElem?_getD]
structure NetOk (cs : List Nat) (ws : List (Dr × Dr)) : Prop where
  h1 : 1 ≤ cs.length
  h6 : cs.length ≤ 6
  c : ∀ c ∈ cs, 1 ≤ c ∧ c ≤ 4
  nd : (ends ws).Nodup
  sub : ∀ d ∈ ends ws, d ∈ allD cs cs.length
  out : ∃ d, d ∈ allD cs cs.length ∧ d ∉ ends ws
  few : ws.length < 100
theorem head_mem {cs : List Nat} (h1 : 1 ≤ cs.length) (c : ∀ c ∈ cs, 1 ≤ c ∧ c ≤ 4) : ((0, 0) : Dr) ∈ allD cs cs.length := by
  refine mem_allD.mpr ⟨h1, ?_⟩
  cases cs with
  | nil => simp at h1
  | cons x r => exact (c x (List.mem_cons_self ..)).1
def keyK (d : Dr) : List Key := [.inl (d.1 : Nat), .inl (d.2 : Nat)]
theorem keyK_inj {a b : Dr} (h : keyK a = keyK b) : a = b := by
  obtain ⟨a1, a2⟩ := a
  obtain ⟨b1, b2⟩ := b
  simp only [keyK, List.cons.injEq, Sum.inl.injEq, and_true] at h
  have h1 : a1 = b1 := by omega
  have h2 : a2 = b2 := by omega
  rw [h1, h2]
theorem key_of_dr (d : Dr) : keyT (drD d) = some (keyK d) := rfl
def ksOf (ws : List (Dr × Dr)) : List (List Key) := (ends ws).map keyK
def vsOf (ws : List (Dr × Dr)) : List D := (ws.map fun w => [drD w.2, drD w.1]).flatten
theorem ks_any (ws : List (Dr × Dr)) (d : Dr) : (ksOf ws).any (fun x => decide (x = keyK d)) = decide (d ∈ ends ws) := by
  unfold ksOf
  rw [List.any_map]
  by_cases h : d ∈ ends ws
  · rw [decide_eq_true h, List.any_eq_true]
    exact ⟨d, h, by simp⟩
  · rw [decide_eq_false h, List.any_eq_false]
    intro x hx
    simp only [Function.comp, decide_eq_true_eq]
    exact fun z => h (keyK_inj z ▸ hx)
theorem ends_len (ws : List (Dr × Dr)) : (ends ws).length = 2 * ws.length := by
  induction ws with
  | nil => rfl
  | cons w r ih => simp only [ends, List.map_cons, List.flatten_cons, List.length_append, List.length_cons, List.length_nil] at ih ⊢; omega
theorem dput_ok {i : Nat} {mk mv : ME} {ρ : Rho} {ks : List (List Key)} {ds : List D} {k v : D} {kk : List Key} (hs : ρ[i]? = some (.ob (.dT ks ds))) (hk : mk ρ = .ok k) (hv : mv ρ = .ok v) (ek : keyT k = some kk) (hn : ks.any (fun x => decide (x = kk)) = false) (hl : ks.length < 1000000) :
    mDPut i mk mv ρ = .ok (.nx (ρ.set i (.ob (.dT (ks ++ [kk]) (ds ++ [v]))))) := by
  simp only [mDPut, hv, hs, hk, bind_ok', ek, putD, if_pos (And.intro hn hl)]
theorem any_snoc {ks : List (List Key)} {a b : List Key} (h : ks.any (fun x => decide (x = b)) = false) (ne : a ≠ b) : (ks ++ [a]).any (fun x => decide (x = b)) = false := by
  rw [List.any_append, h]; simp [ne]
theorem ks_snoc (ws : List (Dr × Dr)) (w : Dr × Dr) : ksOf (ws ++ [w]) = ksOf ws ++ [keyK w.1] ++ [keyK w.2] := by simp [ksOf, ends]
theorem vs_snoc (ws : List (Dr × Dr)) (w : Dr × Dr) : vsOf (ws ++ [w]) = vsOf ws ++ [drD w.2] ++ [drD w.1] := by simp [vsOf]
theorem next_new {P : List (Dr × Dr)} {w : Dr × Dr} {r : List (Dr × Dr)} (nd : (ends (P ++ w :: r)).Nodup) : w.1 ∉ ends P ∧ w.2 ∉ ends P ∧ w.1 ≠ w.2 := by
  have e : ends (P ++ w :: r) = ends P ++ (w.1 :: w.2 :: ends r) := by simp [ends]
  rw [e] at nd
  obtain ⟨_, n2, n3⟩ := List.nodup_append.mp nd
  refine ⟨fun z => n3 _ z w.1 (by simp) rfl, fun z => n3 _ z w.2 (by simp) rfl, fun z => ?_⟩
  rw [List.nodup_cons] at n2
  exact n2.1 (by rw [z]; simp)
theorem within_ok (i lo hi : Int) : m_is_whole_within [.int i, .int lo, .int hi] = .ok (.v (.bl (decide (lo ≤ i) && decide (i ≤ hi)))) := by
  have w : m_is_whole [.int i] = .ok (.v (.bl true)) := rfl
  simp [m_is_whole_within, b_is_whole_within, w]
  by_cases h : lo ≤ i <;> simp [h]
theorem dam_in {cs : List Nat} {d : Dr} (h : d ∈ allD cs cs.length) : m_is_door_among [.tup (intsD' cs), drD d] = .ok (.v (.bl true)) := by
  obtain ⟨h1, h2⟩ := mem_allD.mp h
  have p : m_is_pair [drD d] = .ok (.v (.bl true)) := rfl
  have e0 : ixD (drD d) (.int 0) = .ok (.int d.1) := rfl
  have e1 : ixD (drD d) (.int 1) = .ok (.int d.2) := rfl
  have e2 : ixD (.tup (intsD' cs)) (.int (d.1 : Nat)) = .ok (.int (cs.getD d.1 0 : Nat)) := ix_t (cs_at h1)
  have l : (intsD' cs).length = cs.length := by simp [intsD']
  simp only [List.getD_eq_getElem?_getD] at h2 e2
  simp [m_is_door_among, b_is_door_among, p, e0, e1, e2, l, within_ok, show ¬ ((cs.length : Int) - 1 < (d.1 : Nat)) by omega]
  omega
theorem dr_ne {a b : Dr} (h : a ≠ b) : eqR false (drD a) (drD b) = .ok (.bl true) := by
  show R.ok (D.bl (!(((a.1 : Nat) : Int) == ((b.1 : Nat) : Int) && (((a.2 : Nat) : Int) == ((b.2 : Nat) : Int) && true)))) = _
  by_cases h1 : a.1 = b.1
  · by_cases h2 : a.2 = b.2
    · exact absurd (Prod.ext h1 h2) h
    · rw [beq_eq_false_iff_ne.mpr (show ((a.2 : Nat) : Int) ≠ ((b.2 : Nat) : Int) by omega)]; simp
  · rw [beq_eq_false_iff_ne.mpr (show ((a.1 : Nat) : Int) ≠ ((b.1 : Nat) : Int) by omega)]; simp
theorem wire_ok {cs : List Nat} {w : Dr × Dr} (h1 : w.1 ∈ allD cs cs.length) (h2 : w.2 ∈ allD cs cs.length) (ne : w.1 ≠ w.2) : m_is_wire_among [.tup (intsD' cs), wrD w] = .ok (.v (.bl true)) := by
  have p : m_is_pair [wrD w] = .ok (.v (.bl true)) := rfl
  have e0 : ixD (wrD w) (.int 0) = .ok (drD w.1) := rfl
  have e1 : ixD (wrD w) (.int 1) = .ok (drD w.2) := rfl
  simp [m_is_wire_among, b_is_wire_among, p, e0, e1, dam_in h1, dam_in h2, dr_ne ne]
def fBody : MS := (mSeq (mIfS (mNot (mB (mCall 2 m_is_wire_among (mCons (mVar 0) (mCons (mVar 3) (mNil)))))) (mBad) (mNext))
    (mSeq (mIfS (mBorT (mOr (mB (mBin (dinD true) (mBin ixD (mVar 3) (mC (.int 0))) (mVar 2))) (mB (mBin (dinD true) (mBin ixD (mVar 3) (mC (.int 1))) (mVar 2))))) (mBad) (mNext))
    (mSeq (mDPut 2 (mBin ixD (mVar 3) (mC (.int 0))) (mBin ixD (mVar 3) (mC (.int 1))))
    (mDPut 2 (mBin ixD (mVar 3) (mC (.int 1))) (mBin ixD (mVar 3) (mC (.int 0)))))))
theorem f_loop (cs : List Nat) (W : D) : ∀ (r P : List (Dr × Dr)), (ends (P ++ r)).Nodup → (∀ d ∈ ends r, d ∈ allD cs cs.length) → (P ++ r).length < 1000 → ∀ s3 : Sl, ∃ t3, forGo (setV 3) fBody (r.map wrD) [.fz (.tup (intsD' cs)), .fz W, .ob (.dT (ksOf P) (vsOf P)), s3] = .ok (.nx [.fz (.tup (intsD' cs)), .fz W, .ob (.dT (ksOf (P ++ r)) (vsOf (P ++ r))), t3])
  | [], P, _, _, _, s3 => ⟨s3, by rw [List.append_nil]; rfl⟩
  | w :: r, P, nd, sub, hl, s3 => by
    obtain ⟨n1, n2, n3⟩ := next_new nd
    have lk : (ksOf P).length < 10000 := by
      unfold ksOf
      rw [List.length_map, ends_len]
      rw [List.length_append] at hl; omega
    have e0 : setV 3 (wrD w) [.fz (.tup (intsD' cs)), .fz W, .ob (.dT (ksOf P) (vsOf P)), s3] = .ok [.fz (.tup (intsD' cs)), .fz W, .ob (.dT (ksOf P) (vsOf P)), .fz (wrD w)] := rfl
    have c1 : mNot (mB (mCall 2 m_is_wire_among (mCons (mVar 0) (mCons (mVar 3) (mNil))))) [.fz (.tup (intsD' cs)), .fz W, .ob (.dT (ksOf P) (vsOf P)), .fz (wrD w)] = .ok false := mNot_ok (c := true) (mB_ok (call2 rfl rfl (wire_ok (sub _ (by simp [ends])) (sub _ (by simp [ends])) n3)))
    have k1 : dinD true (drD w.1) (.dT (ksOf P) (vsOf P)) = .ok (.bl false) := by
      simp only [dinD, key_of_dr, ks_any, decide_eq_false n1, if_true]
    have k2 : dinD true (drD w.2) (.dT (ksOf P) (vsOf P)) = .ok (.bl false) := by
      simp only [dinD, key_of_dr, ks_any, decide_eq_false n2, if_true]
    have c2 : mBorT (mOr (mB (mBin (dinD true) (mBin ixD (mVar 3) (mC (.int 0))) (mVar 2))) (mB (mBin (dinD true) (mBin ixD (mVar 3) (mC (.int 1))) (mVar 2)))) [.fz (.tup (intsD' cs)), .fz W, .ob (.dT (ksOf P) (vsOf P)), .fz (wrD w)] = .ok (false || false) := by
      unfold mBorT
      exact or_ok (mB_ok (bin_ok (x := drD w.1) (y := .dT (ksOf P) (vsOf P)) rfl rfl k1)) fun _ => mB_ok (bin_ok (x := drD w.2) (y := .dT (ksOf P) (vsOf P)) rfl rfl k2)
    have a1 := dput_ok (i := 2) (mk := mBin ixD (mVar 3) (mC (.int 0))) (mv := mBin ixD (mVar 3) (mC (.int 1))) (ρ := [.fz (.tup (intsD' cs)), .fz W, .ob (.dT (ksOf P) (vsOf P)), .fz (wrD w)]) rfl rfl rfl (key_of_dr w.1) (by rw [ks_any]; exact decide_eq_false n1) (by omega)
    have a2 := dput_ok (i := 2) (mk := mBin ixD (mVar 3) (mC (.int 1))) (mv := mBin ixD (mVar 3) (mC (.int 0))) (ρ := [.fz (.tup (intsD' cs)), .fz W, .ob (.dT (ksOf P ++ [keyK w.1]) (vsOf P ++ [drD w.2])), .fz (wrD w)]) rfl rfl rfl (key_of_dr w.2) (any_snoc (by rw [ks_any]; exact decide_eq_false n2) (fun z => n3 (keyK_inj z))) (by rw [List.length_append, List.length_singleton]; omega)
    have e1 : fBody [.fz (.tup (intsD' cs)), .fz W, .ob (.dT (ksOf P) (vsOf P)), .fz (wrD w)] = .ok (.nx [.fz (.tup (intsD' cs)), .fz W, .ob (.dT (ksOf (P ++ [w])) (vsOf (P ++ [w]))), .fz (wrD w)]) := by
      unfold fBody
      rw [seq_no c1, seq_no c2, seq_nx a1, ks_snoc, vs_snoc]
      exact a2
    rw [List.map_cons, forGo, e0, bind_ok', e1, bind_ok']
    have q : P ++ w :: r = (P ++ [w]) ++ r := by simp
    rw [q] at nd hl ⊢
    exact f_loop cs W r (P ++ [w]) nd (fun d hd => sub d (by simp only [ends, List.map_cons, List.flatten_cons, List.mem_append] at hd ⊢; exact .inr hd)) hl _
theorem far_ok (cs : List Nat) (ws : List (Dr × Dr)) (h : NetOk cs ws) : m_far_doors [.tup (intsD' cs), .tup (ws.map wrD)] = .ok (.v (.dT (ksOf ws) (vsOf ws))) := by
  show (b_far_doors [.fz (.tup (intsD' cs)), .fz (.tup (ws.map wrD)), .un, .un]).bind outD = _
  have s1 : mSetD 2 [.fz (.tup (intsD' cs)), .fz (.tup (ws.map wrD)), .un, .un] = .ok (.nx [.fz (.tup (intsD' cs)), .fz (.tup (ws.map wrD)), .ob (.dT (ksOf []) (vsOf [])), .un]) := rfl
  obtain ⟨t3, e⟩ := f_loop cs (.tup (ws.map wrD)) ws [] (by simpa using h.nd) h.sub (by have := h.few; simp; omega) .un
  have f := for_nx (mi := mIT (mVar 1)) (ρ := [.fz (.tup (intsD' cs)), .fz (.tup (ws.map wrD)), .ob (.dT (ksOf []) (vsOf [])), .un]) rfl e
  unfold fBody at f
  unfold b_far_doors
  rw [seq_nx s1, seq_nx f]
  rfl
def eltW : ME := (mCall 3 m_is_whole_within (mCons (mVar 0) (mCons (mC (.int 1)) (mCons (mC c_MOST_DOORS) (mNil)))))
theorem comp_true : ∀ (cs : List Nat), (∀ c ∈ cs, 1 ≤ c ∧ c ≤ 4) → ∀ (ws : List D) (s0 : Sl), ws.length + cs.length < 1000 → compGo (setV 0) mYes eltW (intsD' cs) [s0] ws = .ok (ws ++ cs.map fun _ => D.bl true)
  | [], _, ws, s0, _ => by simp [compGo, intsD']
  | c :: cs, h, ws, s0, hl => by
    simp only [List.length_cons] at hl
    obtain ⟨c1, c4⟩ := h c (List.mem_cons_self ..)
    have e0 : setV 0 (.int (c : Nat)) [s0] = .ok [.fz (.int (c : Nat))] := rfl
    have e1 : eltW [.fz (.int (c : Nat))] = .ok (.bl true) := by
      have z := within_ok (c : Nat) 1 4
      rw [decide_eq_true (by omega), decide_eq_true (by omega)] at z
      exact call3 rfl rfl rfl z
    show compGo (setV 0) mYes eltW (.int (c : Nat) :: intsD' cs) [s0] ws = _
    rw [compGo, e0, bind_ok']
    simp only [mYes, bind_ok', e1, if_true, if_pos (show ws.length < 1000000 by omega)]
    rw [comp_true cs (fun c h' => h c (List.mem_cons_of_mem _ h')) _ _ (by rw [List.length_append, List.length_singleton]; omega), List.append_assoc]
    rfl
theorem bools_true : ∀ cs : List Nat, boolsD (cs.map fun _ => D.bl true) = some (cs.map fun _ => true)
  | [] => rfl
  | c :: cs => by simp only [List.map_cons, boolsD, bools_true cs, Option.map_some]
theorem counts_ok (cs : List Nat) (h1 : 1 ≤ cs.length) (h6 : cs.length ≤ 6) (h : ∀ c ∈ cs, 1 ≤ c ∧ c ≤ 4) : m_are_counts [.lst (intsD' cs)] = .ok (.v (.bl true)) := by
  show (b_are_counts [.fz (.lst (intsD' cs))]).bind outD = _
  have ll : mCB lenD (mCons (mVar 0) mNil) [.fz (.lst (intsD' cs))] = .ok (.int (cs.length : Nat)) := by
    rw [len_ok (xs := intsD' cs) rfl]; simp [intsD']
  have c1 : mOr (mNot (mB (mUn (isiD "list") (mVar 0)))) (mNot (mB (mChain leD leD (mC (.int 1)) (mCB lenD (mCons (mVar 0) (mNil))) (mC c_MOST_HOUSES)))) [.fz (.lst (intsD' cs))] = .ok (false || false) := by
    refine or_ok rfl fun _ => ?_
    have z := chain_ok (f := leD) (g := leD) (a := mC (.int 1)) (c := mC c_MOST_HOUSES) (ρ := [.fz (.lst (intsD' cs))]) rfl ll rfl (k := true) (l := true) (by show R.ok (D.bl (decide ((1 : Int) ≤ (cs.length : Nat)))) = _; rw [decide_eq_true (by omega)]) (by show R.ok (D.bl (decide (((cs.length : Nat) : Int) ≤ 6))) = _; rw [decide_eq_true (by omega)])
    exact mNot_ok (c := true) (mB_ok z)
  have cc : mComp 1 [] (mIL (mVar 0)) (setV 0) (mYes) eltW [.fz (.lst (intsD' cs))] = .ok (cs.map fun _ => D.bl true) := by
    show noX (compGo (setV 0) mYes eltW (intsD' cs) [.un] []) = _
    rw [comp_true cs h _ _ (by simp; omega)]
    rfl
  have e : mCB L3.allD (mCons (mFz (mComp 1 [] (mIL (mVar 0)) (setV 0) (mYes) eltW)) (mNil)) [.fz (.lst (intsD' cs))] = .ok (.bl true) := by
    simp only [mCB, mCons, mNil, mFz, cc, bind_ok', L3.allD, bools_true]
    congr 2
    rw [List.all_map]
    simp
  unfold eltW at e
  unfold b_are_counts
  rw [seq_no c1, ret_ok e]
  rfl
theorem then_ok {a b : MN} {ρ ρ1 : Rho} (h : a ρ = .ok ρ1) : mThen a b ρ = b ρ1 := by simp only [mThen, h, bind_ok']
theorem vs_noIns : ∀ ws : List (Dr × Dr), noInsL (vsOf ws) = true
  | [] => rfl
  | w :: ws => by
    show noInsL (drD w.2 :: drD w.1 :: vsOf ws) = true
    simp only [noInsL, vs_noIns ws]; rfl
theorem init_ok (cs : List Nat) (ws : List (Dr × Dr)) (h : NetOk cs ws) : m_Net_init [.lst (intsD' cs), .lst (ws.map wrD)] = .ok (["many", "counts", "joined", "far"], [.int (cs.length : Nat), .tup (intsD' cs), .tup (ws.map wrD), .dT (ksOf ws) (vsOf ws)]) := by
  let r (ns : List Str) (ds : List D) : Rho := [.ob (.ins "Net" ns ds), .fz (.lst (intsD' cs)), .fz (.lst (ws.map wrD))]
  have g1 : mGuard (mNot (mB (mCall 1 m_are_counts (mCons (mVar 1) (mNil))))) (r [] []) = .ok (r [] []) := by
    have z : mNot (mB (mCall 1 m_are_counts (mCons (mVar 1) (mNil)))) (r [] []) = .ok false := mNot_ok (c := true) (mB_ok (call1 rfl (counts_ok cs h.h1 h.h6 h.c)))
    simp only [mGuard, z, bind_ok', Bool.false_eq_true, if_false]
  have g2 : mGuard (mNot (mB (mUn (isiD "list") (mVar 2)))) (r [] []) = .ok (r [] []) := rfl
  have f1 : mFldSet "Net" "many" (mCB lenD (mCons (mVar 1) (mNil))) (r [] []) = .ok (r ["many"] [.int (cs.length : Nat)]) := by
    have ll : mCB lenD (mCons (mVar 1) mNil) (r [] []) = .ok (.int (cs.length : Nat)) := by
      rw [len_ok (xs := intsD' cs) rfl]; simp [intsD']
    rw [mFldSet, ll]; rfl
  have f2 : mFldSet "Net" "counts" (mCB tupleD (mCons (mVar 1) (mNil))) (r ["many"] [.int (cs.length : Nat)]) = .ok (r ["many", "counts"] [.int (cs.length : Nat), .tup (intsD' cs)]) := rfl
  have f3 : mFldSet "Net" "joined" (mCB tupleD (mCons (mVar 2) (mNil))) (r ["many", "counts"] [.int (cs.length : Nat), .tup (intsD' cs)]) = .ok (r ["many", "counts", "joined"] [.int (cs.length : Nat), .tup (intsD' cs), .tup (ws.map wrD)]) := rfl
  have f4 : mFldSet "Net" "far" (mBorI (mCall 2 m_far_doors (mCons (mUn (fldD "Net" "counts") (mVar 0)) (mCons (mUn (fldD "Net" "joined") (mVar 0)) (mNil))))) (r ["many", "counts", "joined"] [.int (cs.length : Nat), .tup (intsD' cs), .tup (ws.map wrD)]) = .ok (r ["many", "counts", "joined", "far"] [.int (cs.length : Nat), .tup (intsD' cs), .tup (ws.map wrD), .dT (ksOf ws) (vsOf ws)]) := by
    have z : mBorI (mCall 2 m_far_doors (mCons (mUn (fldD "Net" "counts") (mVar 0)) (mCons (mUn (fldD "Net" "joined") (mVar 0)) (mNil)))) (r ["many", "counts", "joined"] [.int (cs.length : Nat), .tup (intsD' cs), .tup (ws.map wrD)]) = .ok (.dT (ksOf ws) (vsOf ws)) := by
      have y : mCall 2 m_far_doors (mCons (mUn (fldD "Net" "counts") (mVar 0)) (mCons (mUn (fldD "Net" "joined") (mVar 0)) (mNil))) (frzA (r ["many", "counts", "joined"] [.int (cs.length : Nat), .tup (intsD' cs), .tup (ws.map wrD)])) = .ok (.dT (ksOf ws) (vsOf ws)) := call2 (x := .tup (intsD' cs)) (z := .tup (ws.map wrD)) rfl rfl (far_ok cs ws h)
      have n : noIns (.dT (ksOf ws) (vsOf ws)) = true ∧ onlyIns (r ["many", "counts", "joined"] [.int (cs.length : Nat), .tup (intsD' cs), .tup (ws.map wrD)]) = true := ⟨by simp only [noIns]; exact vs_noIns ws, rfl⟩
      simp only [mBorI, y, bind_ok', if_pos n]
    rw [mFldSet, z]; rfl
  show outI "Net" (b_Net_init (r [] [])) = _
  unfold b_Net_init
  rw [then_ok g1, then_ok g2, then_ok f1, then_ok f2, then_ok f3, f4]
  rfl
end N21
set_option Elab.async false
set_option linter.all false
set_option maxRecDepth 100000
set_option autoImplicit false
namespace N21
open PySem PySem.Spec L2 L3
theorem cell_ok (ns : List Int) (k : Nat) : ∃ c : Int, m_law_cell_at [.scr (ns.map D.int), .int k] = .ok (.v (.int c)) := by
  by_cases h : k < ns.length
  · refine ⟨ns[k], ?_⟩
    have e : ixD (.scr (ns.map D.int)) (.int (k : Int)) = .ok (.int ns[k]) := ix_s (by simp [h])
    simp (disch := first | omega | (simp; done) | (simp; omega)) [m_law_cell_at, b_law_cell_at, h, e]
  · exact ⟨0, by simp (disch := first | omega | (simp; done) | (simp; omega)) [m_law_cell_at, b_law_cell_at, h]⟩
theorem pick4 (P : Int → Prop) {a b c d : Int} (ha : P a) (hb : P b) (hc : P c) (hd : P d) (x : Int) : ∃ y, P y ∧ ixD (.lst [.int a, .int b, .int c, .int d]) (.int (x % 4)) = .ok (.int y) := by
  have h : x % 4 = 0 ∨ x % 4 = 1 ∨ x % 4 = 2 ∨ x % 4 = 3 := by omega
  rcases h with h | h | h | h <;> rw [h]
  · exact ⟨a, ha, rfl⟩
  · exact ⟨b, hb, rfl⟩
  · exact ⟨c, hc, rfl⟩
  · exact ⟨d, hd, rfl⟩
theorem draws_ok (c : Int) (n : Nat) (hn : n < 1000) : ∃ ys : List Int, ys.length = n ∧ m_law_draws [.int c, .int n] = .ok (.o (ys.map D.int)) := by
  let I : Nat → Rho → Prop := fun j ρ => ∃ (ys : List Int) (r : Int) (s4 s5 s6 : Sl), ys.length = j ∧ ρ = [.fz (.int c), .fz (.int n), .ow (ys.map D.int), .fz (.int r), s4, s5, s6]
  have L := forI (mi := mR1 (mCons (mVar 1) (mNil))) (set := setV 4) (ρ := [.fz (.int c), .fz (.int n), .ow [], .fz (.int (c / 2)), .un, .un, .un]) (ds := rangeD 0 n) I (body := (mIfS (mB (mBin (eqR true) (mBin modD (mVar 0) (mC (.int 2))) (mC (.int 1)))) (mSeq (mSet 5 (mBin ixD (mFz (mLim (mCons (mC (.int 2147483647)) (mCons (mC (.int 2147483629)) (mCons (mC (.int 2147483587)) (mCons (mC (.int 2147483579)) (mNil))))))) (mBin modD (mBin fdivD (mVar 4) (mC (.int 4))) (mC (.int 4)))))
    (mSeq (mSet 6 (mBin ixD (mFz (mLim (mCons (mC (.int 48271)) (mCons (mC (.int 69621)) (mCons (mC (.int 16807)) (mCons (mC (.int 39373)) (mNil))))))) (mBin modD (mVar 4) (mC (.int 4)))))
    (mApp 2 (mBin fdivD (mBin modD (mBin mulD (mBin addD (mBin addD (mBin modD (mVar 3) (mBin powD (mC (.int 10)) (mC (.int 30)))) (mBin mulD (mC (.int 7919)) (mVar 4))) (mC (.int 1))) (mVar 6)) (mVar 5)) (mC (.int 7)))))) (mSeq (mApp 2 (mBin modD (mVar 3) (mBin powD (mC (.int 10)) (mC (.int 6)))))
    (mSet 3 (mBin fdivD (mVar 3) (mBin powD (mC (.int 10)) (mC (.int 6)))))))) (by simp [show n < 1000000 by omega]) (fun j d ρ hd hI => ?_) ⟨[], c / 2, .un, .un, .un, rfl, rfl⟩
  · obtain ⟨ρ', e, ys, r, s4, s5, s6, hl, rfl⟩ := L
    refine ⟨ys, by simpa using hl, ?_⟩
    simp (disch := first | omega | (simp; done) | (simp; omega)) [m_law_draws, b_law_draws, e]
  · obtain ⟨hj, rfl⟩ := range_at hd
    obtain ⟨ys, r, s4, s5, s6, hl, rfl⟩ := hI
    obtain ⟨p, hp, ep⟩ := pick4 (fun y => 0 < y) (a := 2147483647) (b := 2147483629) (c := 2147483587) (d := 2147483579) (by decide) (by decide) (by decide) (by decide) ((j : Int) / 4)
    obtain ⟨f, hf, ef⟩ := pick4 (fun y => 0 < y ∧ y < 2 ^ 64) (a := 48271) (b := 69621) (c := 16807) (d := 39373) (by decide) (by decide) (by decide) (by decide) (j : Int)
    have hf2 : f < 18446744073709551616 := hf.2
    have hf0 := hf.1
    by_cases hc : c % 2 = 1
    · exact ⟨_, _, by simp; rfl, by simp (disch := first | omega | (simp; done) | (simp; omega)) [hc, ep, ef, pow_10_30]; rfl, ys ++ [_], r, _, _, _, by simp [hl], by simp; exact ⟨rfl, rfl, rfl, rfl⟩⟩
    · exact ⟨_, _, by simp; rfl, by simp (disch := first | omega | (simp; done) | (simp; omega)) [hc, pow_10_6]; rfl, ys ++ [_], _, _, _, _, by simp [hl], by simp; exact ⟨rfl, rfl, rfl, rfl, rfl⟩⟩
theorem mixed_ok (c : Int) (k : Nat) (hk : k < 900) : ∃ y : Int, m_law_mixed [.int c, .int k] = .ok (.v (.int y)) := by
  obtain ⟨ys, hl, e⟩ := draws_ok c (k + 1) (by omega)
  have h : k < ys.length := by omega
  refine ⟨ys[k], ?_⟩
  have e' : m_law_draws [.int c, .int ((k : Int) + 1)] = .ok (.o (ys.map D.int)) := by rw [← e]; rfl
  simp (disch := first | omega | (simp; done) | (simp; omega)) [m_law_mixed, b_law_mixed, e', ix_ints h]
end N21
set_option Elab.async false
set_option linter.all false
set_option maxRecDepth 100000
set_option autoImplicit false
namespace N21
open PySem PySem.Spec L2 L3
theorem tab6 (mm : Nat) (h1 : 1 ≤ mm) (h6 : mm ≤ 6) : ∃ t : Nat, 1 ≤ t ∧ t ≤ 4 ∧ ixD (.lst [.int 4, .int 4, .int 4, .int 3, .int 2, .int 2]) (.int ((mm : Int) - 1)) = .ok (.int (t : Nat)) := by
  have : mm = 1 ∨ mm = 2 ∨ mm = 3 ∨ mm = 4 ∨ mm = 5 ∨ mm = 6 := by omega
  rcases this with h | h | h | h | h | h <;> subst h
  · exact ⟨4, by decide, by decide, rfl⟩
  · exact ⟨4, by decide, by decide, rfl⟩
  · exact ⟨4, by decide, by decide, rfl⟩
  · exact ⟨3, by decide, by decide, rfl⟩
  · exact ⟨2, by decide, by decide, rfl⟩
  · exact ⟨2, by decide, by decide, rfl⟩
theorem net_ok (cell : Int) : ∃ (cs : List Nat) (ws : List (Dr × Dr)), NetOk cs ws ∧ m_law_net [.int cell] = .ok (.v (.tup [.lst (intsD' cs), .lst (ws.map wrD)])) := by
  suffices h : Ends (m_law_net [.int cell]) fun b => ∃ cs ws, NetOk cs ws ∧ b = .v (.tup [.lst (intsD' cs), .lst (ws.map wrD)]) by
    obtain ⟨b, e, cs, ws, h, rfl⟩ := h
    exact ⟨cs, ws, h, e⟩
  obtain ⟨xs, hx, ex⟩ := draws_ok cell 40 (by decide)
  have ex' : m_law_draws [.int cell, .int 40] = .ok (.o (xs.map D.int)) := ex
  have at' : ∀ k : Nat, k < 40 → ∃ x, ixD (.lst (xs.map D.int)) (.int (k : Int)) = .ok (.int x) := fun k hk => ⟨_, ix_ints (by omega)⟩
  obtain ⟨x0, e0⟩ := at' 0 (by decide)
  obtain ⟨x7, e7⟩ := at' 7 (by decide)
  obtain ⟨m, hm, em⟩ := nat_mod x0 (n := 6) (by decide)
  have e0' : ixD (.lst (xs.map D.int)) (.int 0) = .ok (.int x0) := e0
  have e7' : ixD (.lst (xs.map D.int)) (.int 7) = .ok (.int x7) := e7
  have em' : (1 : Int) + x0 % 6 = ((m + 1 : Nat) : Int) := by have : x0 % 6 = (m : Int) := em; omega
  simp (disch := first | omega | (simp; done) | (simp; omega)) [m_law_net, b_law_net, ex', e0', em', -Int.natCast_add]
  obtain ⟨t, t1, t4, et⟩ := tab6 (m + 1) (by omega) (by omega)
  let cf : Nat → Nat := fun k => (1 + xs.getD (1 + k) 0 % (t : Int)).toNat
  have cf1 : ∀ k, 1 ≤ cf k ∧ cf k ≤ 4 ∧ 1 + xs.getD (1 + k) 0 % (t : Int) = (cf k : Int) := fun k => by
    have a := Int.emod_nonneg (xs.getD (1 + k) 0) (b := (t : Int)) (by omega)
    have b := Int.emod_lt_of_pos (xs.getD (1 + k) 0) (b := (t : Int)) (by omega)
    show 1 ≤ (1 + xs.getD (1 + k) 0 % (t : Int)).toNat ∧ (1 + xs.getD (1 + k) 0 % (t : Int)).toNat ≤ 4 ∧ _ = ((1 + xs.getD (1 + k) 0 % (t : Int)).toNat : Int)
    omega
  have eg : ∀ k : Nat, k < 10 → ixD (.lst (xs.map D.int)) (.int (1 + (k : Int))) = .ok (.int (xs.getD (1 + k) 0)) := fun k hk => by
    have h : 1 + k < xs.length := by omega
    have := ix_ints h
    rw [List.getD_eq_getElem?_getD, List.getElem?_eq_getElem h]
    exact this
  refine ends_compR (m + 1) (fun k => .int (cf k : Int)) (by simp [show m + 1 < 1000000 by omega, -Int.natCast_add]) (by omega) (fun k hk => ?_) ?_
  · simp only [List.getD_eq_getElem?_getD] at eg cf1
    simp [eg k (by omega), et, show 0 < t by omega, (cf1 k).2.2, -Int.natCast_add]
  have ecs : (List.range (m + 1)).map (fun k => D.int (cf k : Int)) = intsD' ((List.range (m + 1)).map cf) := by simp [intsD']
  rw [ecs]
  generalize hcs : (List.range (m + 1)).map cf = cs
  have c1 : cs.length = m + 1 := by rw [← hcs]; simp
  have cc : ∀ c ∈ cs, 1 ≤ c ∧ c ≤ 4 := fun c hc => by
    rw [← hcs] at hc
    obtain ⟨k, _, rfl⟩ := List.mem_map.mp hc
    exact ⟨(cf1 k).1, (cf1 k).2.1⟩
  have lcs : (intsD' cs).length = cs.length := by simp [intsD']
  refine ends_forR cs.length (fun j ρ => ∃ s5, ρ = [.fz (.int cell), .fz (.lst (xs.map D.int)), .fz (.int (m + 1 : Nat)), .fz (.lst (intsD' cs)), .ow ((allD cs j).map drD), s5, .un, .un, .un]) (by simp [lcs, show cs.length < 1000000 by omega]) ⟨.un, by simp [allD]⟩ ?_ ?_
  · rintro j _ hj ⟨s5, rfl⟩
    have e3 : ixD (.lst (intsD' cs)) (.int (j : Int)) = .ok (.int (cs.getD j 0 : Nat)) := ix_l (cs_at hj)
    have l4 := getD_le (fun c h => (cc c h).2) j
    simp
    refine ends_compR (cs.getD j 0) (fun k => drD (j, k)) (by simp only [List.getD_eq_getElem?_getD] at e3 l4; simp [e3, show cs[j]?.getD 0 < 1000000 by omega]) (by omega) (fun k hk => by simp [drD]) ?_
    have ll := allD_len cc j
    simp only [List.getD_eq_getElem?_getD] at l4 ⊢
    simp [show (allD cs j).length + cs[j]?.getD 0 ≤ 1000000 by omega]
    rw [allD_succ]
    simp [drs]
    done
  · rintro _ ⟨s5, rfl⟩
    have L1 : 1 ≤ (allD cs cs.length).length := List.length_pos_of_mem (head_mem (by omega) cc)
    have L24 := allD_len cc cs.length
    generalize hL : (allD cs cs.length).length = L at L1 L24
    obtain ⟨q7, hq7, eq7⟩ := nat_mod x7 (n := 2) (by decide)
    generalize hv : ((L : Int) - 1) / 2 - x7 % 2 = v
    have hv1 : -1 ≤ v ∧ 2 * v + 1 ≤ L := by have : x7 % 2 = (q7 : Int) := eq7; omega
    simp [frzA]
    refine ends_forR v.toNat (fun j ρ => ∃ left ws s7 s8, Lay (allD cs cs.length) left ws ∧ left.length + 2 * j = L ∧ ws.length = j ∧ ρ = [.fz (.int cell), .fz (.lst (xs.map D.int)), .fz (.int (m + 1 : Nat)), .fz (.lst (intsD' cs)), .ow (left.map drD), s5, .ow (ws.map wrD), s7, s8]) ?_ ⟨allD cs cs.length, [], .un, .un, ⟨by simpa [ends] using allD_nodup cs cs.length, fun d hd => by simpa [ends] using hd⟩, by omega, rfl, rfl⟩ ?_ ?_
    · simp (disch := first | omega | (simp; done) | (simp; omega)) [e7', hL, hv, rng1_int (v := v) (by omega) (by omega)]
    · rintro j _ hj ⟨left, ws, s7, s8, lay, h1, h2, rfl⟩
      obtain ⟨x8, e8⟩ := at' (8 + 2 * j) (by omega)
      obtain ⟨x9, e9⟩ := at' (9 + 2 * j) (by omega)
      obtain ⟨k1, hk1, ek1⟩ := nat_mod x8 (n := left.length) (by omega)
      have le : (left.eraseIdx k1).length = left.length - 1 := by simp [List.length_eraseIdx, hk1]
      obtain ⟨k2, hk2, ek2⟩ := nat_mod x9 (n := (left.eraseIdx k1).length) (by omega)
      have e8' : ixD (.lst (xs.map D.int)) (.int (8 + 2 * (j : Int))) = .ok (.int x8) := by rw [← e8]; simp
      have e9' : ixD (.lst (xs.map D.int)) (.int (9 + 2 * (j : Int))) = .ok (.int x9) := by rw [← e9]; simp
      have P1 := po_map drD (i := 4) hk1 (by omega)
      have P2 := po_map drD (i := 4) hk2 (by omega)
      simp (disch := first | omega | (simp; done) | (simp; omega)) [e8', e9', ek1, P1, ek2, P2]
      refine ⟨_, _, lay.take hk1 hk2, by rw [List.length_eraseIdx, if_pos hk2, le]; omega, by simp [h2], rfl, by simp [wrD]⟩
    · rintro _ ⟨left, ws, s7, s8, lay, h1, h2, rfl⟩
      have nl : 1 ≤ left.length := by omega
      simp
      refine ⟨cs, ws, ⟨by omega, by omega, cc, (List.nodup_append.mp lay.nd).2.1, fun d hd => lay.sub d (List.mem_append_right _ hd), ?_, by omega⟩, rfl, rfl⟩
      cases left with
      | nil => simp at nl
      | cons d r => exact ⟨d, lay.sub d (by simp), fun z => (List.nodup_append.mp lay.nd).2.2 d (by simp) d z rfl⟩
end N21
set_option Elab.async false
set_option linter.all false
set_option maxRecDepth 100000
set_option autoImplicit false
namespace N21
open PySem PySem.Spec L2 L3
inductive Stp where
  | wt (k : Bool)
  | ac (w h : Nat)
def wS : Str := PySem.Str.ofString "wait"
def wd (w : Nat) : Str := if w = 0 then PySem.Str.ofString "teach" else if w = 1 then PySem.Str.ofString "turn" else PySem.Str.ofString "forget"
def stD : Stp → D
  | .wt true => c_WAIT
  | .wt false => .tup [.str wS]
  | .ac w h => .tup [.str (wd w), .int (h : Int)]
def Stp.act : Stp → Bool
  | .wt _ => false
  | .ac _ _ => true
def Stp.ok (n : Nat) : Stp → Prop
  | .wt _ => True
  | .ac w h => w < 3 ∧ h < n
def keyS : Stp → List Key
  | .wt _ => []
  | .ac w h => [.inr (wd w), .inl (h : Int)]
def net (cs : List Nat) (ws : List (Dr × Dr)) : D := .ins "Net" ["many", "counts", "joined", "far"] [.int (cs.length : Nat), .tup (intsD' cs), .tup (ws.map wrD), .dT (ksOf ws) (vsOf ws)]
theorem many_ok (cs : List Nat) (ws : List (Dr × Dr)) : fldD "Net" "many" (net cs ws) = .ok (.int (cs.length : Int)) := rfl
theorem wd_lt (w : Nat) (h : w < 3) : w = 0 ∨ w = 1 ∨ w = 2 := by omega
theorem step_ok {cs : List Nat} {ws : List (Dr × Dr)} {s : Stp} (h : s.ok cs.length) : m_is_step [stD s, net cs ws] = .ok (.v (.bl true)) := by
  cases s with
  | wt k => cases k <;> rfl
  | ac w k =>
    obtain ⟨hw, hk⟩ := h
    have e0 : ixD (stD (.ac w k)) (.int 0) = .ok (.str (wd w)) := rfl
    have e1 : ixD (stD (.ac w k)) (.int 1) = .ok (.int k) := rfl
    have l : lenD [stD (.ac w k)] = .ok (.int 2) := rfl
    have t1 : isiD "tuple" (stD (.ac w k)) = .ok (.bl true) := rfl
    have t2 : isiD "str" (.str (wd w)) = .ok (.bl true) := rfl
    have i1 : inD false (.int 2) (.tup [.int 1, .int 2]) = .ok (.bl false) := rfl
    have i2 : inD true (.str (wd w)) (.tup [.str (PySem.Str.ofString "teach"), .str (PySem.Str.ofString "turn"), .str (PySem.Str.ofString "forget")]) = .ok (.bl true) := by
      rcases wd_lt w hw with h | h | h <;> subst h <;> rfl
    simp [m_is_step, b_is_step, e0, e1, l, t1, t2, i1, i2, many_ok, within_ok]
    omega
theorem ne_wait (s : Stp) : eqR false (stD s) c_WAIT = .ok (.bl s.act) ∧ eqR false (stD s) (.tup [.str wS]) = .ok (.bl s.act) := by
  cases s with
  | wt k => cases k <;> exact ⟨rfl, rfl⟩
  | ac w k =>
    have e : eqL [.str (wd w), .int (k : Int)] [.str wS] = false := by simp [eqL]
    exact ⟨by show R.ok (D.bl (!eqL [.str (wd w), .int (k : Int)] [.str wS])) = _; rw [e]; rfl, by show R.ok (D.bl (!eqL [.str (wd w), .int (k : Int)] [.str wS])) = _; rw [e]; rfl⟩
theorem wd_inj {a b : Nat} (ha : a < 3) (hb : b < 3) (h : wd a = wd b) : a = b := by
  rcases wd_lt a ha with h1 | h1 | h1 <;> rcases wd_lt b hb with h2 | h2 | h2 <;> subst h1 <;> subst h2 <;> first | rfl | (exact absurd h (by decide))
theorem keyS_inj {n : Nat} {s t : Stp} (hs : s.ok n) (ht : t.ok n) (as : s.act = true) (at' : t.act = true) (h : keyS s = keyS t) : s = t := by
  cases s with
  | wt k => cases as
  | ac w k =>
    cases t with
    | wt k => cases at'
    | ac w' k' =>
      simp only [keyS, List.cons.injEq, Sum.inr.injEq, Sum.inl.injEq, and_true] at h
      have := wd_inj hs.1 ht.1 h.1
      have : k = k' := by omega
      subst_vars; rfl
theorem keys_ok : ∀ {ss : List Stp}, (∀ s ∈ ss, s.act = true) → tupKeys (ss.map stD) = some (ss.map keyS)
  | [], _ => rfl
  | s :: ss, h => by
    have ih := keys_ok (ss := ss) fun x hx => h x (by simp [hx])
    have e : tupKey (stD s) = some (keyS s) := by
      cases s with
      | wt k => exact nomatch h (.wt k) (by simp)
      | ac w k => rfl
    simp only [List.map_cons, tupKeys, e, ih]
theorem dds_mem {α : Type} [DecidableEq α] (l : List (List α)) : ∀ S : List (List α), S.Nodup → ((l.foldl LS.ddK S).length = S.length + l.length ↔ (S ++ l).Nodup) ∧ (l.foldl LS.ddK S).length ≤ S.length + l.length := by
  induction l with
  | nil => intro S h; simp [h]
  | cons a l ih =>
    intro S h
    simp only [List.foldl_cons, List.length_cons]
    by_cases ha : a ∈ S
    · have e : LS.ddK S a = S := by simp [LS.ddK, ha]
      rw [e]
      have := (ih S h).2
      refine ⟨⟨fun z => by omega, fun z => ?_⟩, by omega⟩
      exact absurd ha fun q => (List.nodup_append.mp z).2.2 a q a (by simp) rfl
    · have e : LS.ddK S a = S ++ [a] := by simp [LS.ddK, ha]
      rw [e]
      have hn : (S ++ [a]).Nodup := by
        rw [List.nodup_append]
        refine ⟨h, by simp, fun x hx y hy z => ?_⟩
        rw [List.mem_singleton.mp hy] at z
        exact ha (z ▸ hx)
      have := ih (S ++ [a]) hn
      simp only [List.length_append, List.length_singleton, List.append_assoc, List.singleton_append] at this
      rw [show S.length + (l.length + 1) = S.length + 1 + l.length by omega]
      exact this
theorem dds_iff {α : Type} [DecidableEq α] (l : List (List α)) : (LS.dds l).length = l.length ↔ l.Nodup := by
  have := (dds_mem l [] List.nodup_nil).1
  simpa [LS.dds] using this
structure PlanOk (n : Nat) (ps : List Stp) : Prop where
  ok : ∀ s ∈ ps, s.ok n
  nd : (ps.filter Stp.act).Nodup
theorem nodup_map_on {α β : Type} {f : α → β} : ∀ {l : List α}, (∀ a ∈ l, ∀ b ∈ l, f a = f b → a = b) → l.Nodup → (l.map f).Nodup
  | [], _, _ => List.nodup_nil
  | a :: l, h, hn => by
    rw [List.nodup_cons] at hn
    rw [List.map_cons, List.nodup_cons]
    refine ⟨fun z => ?_, nodup_map_on (fun x hx y hy => h x (by simp [hx]) y (by simp [hy])) hn.2⟩
    obtain ⟨b, hb, e⟩ := List.mem_map.mp z
    exact hn.1 (h b (by simp [hb]) a (by simp) e ▸ hb)
theorem nodup_of_map {α β : Type} {f : α → β} : ∀ {l : List α}, (l.map f).Nodup → l.Nodup
  | [], _ => List.nodup_nil
  | a :: l, h => by
    rw [List.map_cons, List.nodup_cons] at h
    rw [List.nodup_cons]
    exact ⟨fun z => h.1 (List.mem_map.mpr ⟨a, z, rfl⟩), nodup_of_map h.2⟩
theorem bools_map {α : Type} (f : α → Bool) : ∀ l : List α, boolsD (l.map fun a => D.bl (f a)) = some (l.map f)
  | [] => rfl
  | a :: l => by simp [boolsD, bools_map f l]
theorem all_bl {α : Type} (f : α → Bool) (l : List α) : L3.allD [.lst (l.map fun a => D.bl (f a))] = .ok (.bl (l.all f)) := by
  simp [L3.allD, bools_map, Function.comp_def]
theorem isi_list (l : List D) : isiD "list" (.lst l) = .ok (.bl true) := rfl
theorem plan_all {cs : List Nat} {ws : List (Dr × Dr)} {ps : List Stp} (h : ∀ s ∈ ps, s.ok cs.length) (hl : ps.length ≤ 40) {c : Bool} (hc : c = true ↔ (ps.filter Stp.act).Nodup) : m_is_plan [.lst (ps.map stD), net cs ws] = .ok (.v (.bl c)) := by
  suffices h : Ends (m_is_plan [.lst (ps.map stD), net cs ws]) (· = .v (.bl c)) by
    obtain ⟨b, e, rfl⟩ := h
    exact e
  simp [m_is_plan, b_is_plan, isi_list, c_MOST_STEPS, show ¬ ((40 : Int) < ps.length) by omega]
  refine ends_comp' stD ps (fun _ => .bl true) (by simp) (by omega) (fun s hs => by simp [step_ok (ws := ws) (h s hs)]) ?_
  have a := all_bl (fun _ => true) ps
  simp [a]
  refine ends_compF' stD ps Stp.act stD (by simp) (by omega) (fun s hs => by simp [ne_wait]) (fun s _ _ => by simp) ?_
  have k := keys_ok (ss := ps.filter Stp.act) fun s hs => (List.mem_filter.mp hs).2
  have fl := List.length_filter_le Stp.act ps
  have ls : lenSetD [.lst ((ps.filter Stp.act).map stD)] = .ok (.int (LS.dds ((ps.filter Stp.act).map keyS)).length) := by
    simp [lenSetD, k, show (ps.filter Stp.act).length < 77 by omega]
  simp [ls]
  have q := dds_iff ((ps.filter Stp.act).map keyS)
  rw [List.length_map] at q
  have r : ((ps.filter Stp.act).map keyS).Nodup ↔ (ps.filter Stp.act).Nodup := ⟨nodup_of_map, nodup_map_on fun a ha b hb => keyS_inj (h a (List.mem_filter.mp ha).1) (h b (List.mem_filter.mp hb).1) (List.mem_filter.mp ha).2 (List.mem_filter.mp hb).2⟩
  rw [r] at q
  by_cases hn : (ps.filter Stp.act).Nodup
  · rw [hc.mpr hn, q.mpr hn]; simp
  · have : c = false := by
      cases c with
      | true => exact absurd (hc.mp rfl) hn
      | false => rfl
    rw [this, beq_eq_false_iff_ne]
    exact fun z => hn (q.mp (by omega))
theorem plan_yes {cs : List Nat} {ws : List (Dr × Dr)} {ps : List Stp} (h : PlanOk cs.length ps) (hl : ps.length ≤ 40) : m_is_plan [.lst (ps.map stD), net cs ws] = .ok (.v (.bl true)) := by
  rw [plan_all h.ok hl (c := true) ⟨fun _ => h.nd, fun _ => rfl⟩]
theorem plan_long {d : D} {l : List D} (h : 40 < l.length) : m_is_plan [.lst l, d] = .ok (.v (.bl false)) := by
  simp [m_is_plan, b_is_plan, isi_list, c_MOST_STEPS, show ((40 : Int) < l.length) by omega]
theorem plan_kind {d e : D} (h : isiD "list" d = .ok (.bl false)) : m_is_plan [d, e] = .ok (.v (.bl false)) := by
  simp [m_is_plan, b_is_plan, h]
theorem plan_odd {cs : List Nat} {ws : List (Dr × Dr)} {ps qs : List Stp} {d : D} (h1 : ∀ s ∈ ps, s.ok cs.length) (h2 : ∀ s ∈ qs, s.ok cs.length) (hl : ps.length + qs.length < 40) (hd : m_is_step [d, net cs ws] = .ok (.v (.bl false))) : m_is_plan [.lst (ps.map stD ++ [d] ++ qs.map stD), net cs ws] = .ok (.v (.bl false)) := by
  suffices h : Ends (m_is_plan [.lst (ps.map stD ++ [d] ++ qs.map stD), net cs ws]) (· = .v (.bl false)) by
    obtain ⟨b, e, rfl⟩ := h
    exact e
  let g : Option Stp → D := fun o => match o with
    | none => d
    | some s => stD s
  let xs : List (Option Stp) := ps.map some ++ [none] ++ qs.map some
  have e : ps.map stD ++ [d] ++ qs.map stD = xs.map g := by simp [xs, g, Function.comp_def]
  have lx : xs.length = ps.length + qs.length + 1 := by simp [xs]; omega
  rw [e]
  simp [m_is_plan, b_is_plan, isi_list, c_MOST_STEPS, show ¬ ((40 : Int) < xs.length) by omega]
  refine ends_comp' g xs (fun o => .bl o.isSome) (by simp) (by omega) (fun o ho => ?_) ?_
  · cases o with
    | none => simp [g, hd]
    | some s =>
      have : s.ok cs.length := by
        simp [xs] at ho
        exact ho.elim (h1 s) (h2 s)
      simp [g, step_ok (ws := ws) this]
  · have a := all_bl (fun o : Option Stp => o.isSome) xs
    have b : xs.all (fun o => o.isSome) = false := by simp [xs]
    rw [b] at a
    simp [a]
end N21
set_option Elab.async false
set_option linter.all false
set_option maxRecDepth 100000
set_option autoImplicit false
namespace N21
open PySem PySem.Spec L2 L3
theorem PlanOk.perm {n : Nat} {ps qs : List Stp} (h : PlanOk n ps) (p : List.Perm ps qs) : PlanOk n qs := ⟨fun s hs => h.ok s (p.mem_iff.mpr hs), (p.filter _).nodup_iff.mp h.nd⟩
theorem PlanOk.wt {n : Nat} {ps : List Stp} {k : Bool} (h : PlanOk n ps) : PlanOk n (.wt k :: ps) := ⟨fun s hs => (List.mem_cons.mp hs).elim (fun e => by rw [e]; trivial) (h.ok s), by simpa [Stp.act] using h.nd⟩
theorem PlanOk.erase {n : Nat} {ps : List Stp} {k : Nat} (h : PlanOk n ps) : PlanOk n (ps.eraseIdx k) := ⟨fun s hs => h.ok s (List.eraseIdx_subset hs), h.nd.sublist ((List.eraseIdx_sublist ps k).filter _)⟩
def plain (n : Nat) (k : Bool) : List Stp := ((List.range n).map (Stp.ac 0) ++ (List.range n).map (Stp.ac 1)) ++ [.wt k] ++ (List.range n).map (Stp.ac 2)
theorem plain_len (n : Nat) (k : Bool) : (plain n k).length = 3 * n + 1 := by simp [plain]; omega
theorem plain_ok (n : Nat) (k : Bool) : PlanOk n (plain n k) := by
  constructor
  · intro s hs
    simp [plain] at hs
    rcases hs with ⟨a, h, rfl⟩ | ⟨a, h, rfl⟩ | rfl | ⟨a, h, rfl⟩
    · exact ⟨by decide, h⟩
    · exact ⟨by decide, h⟩
    · trivial
    · exact ⟨by decide, h⟩
  · have f : ∀ w : Nat, ((List.range n).map (Stp.ac w)).filter Stp.act = (List.range n).map (Stp.ac w) := fun w => List.filter_eq_self.mpr fun s hs => by
      obtain ⟨a, _, rfl⟩ := List.mem_map.mp hs
      rfl
    have nd : ∀ w : Nat, ((List.range n).map (Stp.ac w)).Nodup := fun w => nodup_map_on (fun a _ b _ e => by cases e; rfl) List.nodup_range
    simp only [plain, List.filter_append, f]
    simp only [Stp.act, List.filter_cons, List.filter_nil, Bool.false_eq_true, if_false, List.append_nil]
    rw [List.nodup_append, List.nodup_append]
    refine ⟨⟨nd 0, nd 1, fun a ha b hb e => ?_⟩, nd 2, fun a ha b hb e => ?_⟩
    · obtain ⟨x, _, rfl⟩ := List.mem_map.mp ha
      obtain ⟨y, _, rfl⟩ := List.mem_map.mp hb
      cases e
    · obtain ⟨y, _, rfl⟩ := List.mem_map.mp hb
      rcases List.mem_append.mp ha with ha | ha
      · obtain ⟨x, _, rfl⟩ := List.mem_map.mp ha
        cases e
      · obtain ⟨x, _, rfl⟩ := List.mem_map.mp ha
        cases e
theorem near_ok {a b c : Int} {N : Int} (ha : 0 ≤ a ∧ a ≤ N) (hb : 0 ≤ b ∧ b ≤ N) (hc : 0 ≤ c ∧ c ≤ N) (t : Int) (h0 : 0 ≤ t) (h : t ≤ 4) : ∃ v, (0 ≤ v ∧ v ≤ N) ∧ ixD (.lst [.int a, .int b, .int c]) (.int (t - 2)) = .ok (.int v) := by
  have : t = 0 ∨ t = 1 ∨ t = 2 ∨ t = 3 ∨ t = 4 := by omega
  rcases this with h | h | h | h | h <;> subst h
  · exact ⟨b, hb, rfl⟩
  · exact ⟨c, hc, rfl⟩
  · exact ⟨a, ha, rfl⟩
  · exact ⟨b, hb, rfl⟩
  · exact ⟨c, hc, rfl⟩
theorem plan_made (zs : List Int) (n : Nat) (h1 : 1 ≤ n) (h6 : n ≤ 6) : ∃ ps, PlanOk n ps ∧ 1 ≤ ps.length ∧ ps.length ≤ 39 ∧ m_law_plan [.lst (zs.map D.int), .int n] = .ok (.o (ps.map stD)) := by
  suffices h : Ends (m_law_plan [.lst (zs.map D.int), .int n]) fun b => ∃ ps, PlanOk n ps ∧ 1 ≤ ps.length ∧ ps.length ≤ 39 ∧ b = .o (ps.map stD) by
    obtain ⟨b, e, ps, a, b, c, rfl⟩ := h
    exact ⟨ps, a, b, c, e⟩
  simp (disch := first | omega | (simp; done) | (simp; omega)) [m_law_plan, b_law_plan]
  refine ends_compR n (fun i => stD (.ac 0 i)) (by simp) (by omega) (fun k hk => by simp [stD, wd]) ?_
  refine ends_compR n (fun i => stD (.ac 1 i)) (by simp) (by omega) (fun k hk => by simp [stD, wd]) ?_
  simp (disch := first | omega | (simp; done) | (simp; omega))
  refine ends_compR n (fun i => stD (.ac 2 i)) (by simp) (by omega) (fun k hk => by simp [stD, wd]) ?_
  simp (disch := first | omega | (simp; done) | (simp; omega))
  refine ends_for' D.int zs (fun j ρ => ∃ ps s4 s5 s6 s7 s8, PlanOk n ps ∧ 1 ≤ ps.length ∧ ps.length ≤ 39 ∧ ρ = [.fz (.lst (zs.map D.int)), .fz (.int n), .fz (.lst (rangeD 0 n)), .ow (ps.map stD), s4, s5, s6, s7, s8]) (by simp) ⟨plain n false, .un, .un, .un, .un, .un, plain_ok n false, by rw [plain_len]; omega, by rw [plain_len]; omega, by simp [plain, stD, wS, Function.comp_def]⟩ ?_ ?_
  · rintro j z _ hz ⟨ps, s4, s5, s6, s7, s8, ok, l1, l39, rfl⟩
    obtain ⟨y0, e0⟩ := mixed_ok z 0 (by decide)
    obtain ⟨y1, e1⟩ := mixed_ok z 1 (by decide)
    obtain ⟨y2, e2⟩ := mixed_ok z 2 (by decide)
    have e0' : m_law_mixed [.int z, .int 0] = .ok (.v (.int y0)) := e0
    have e1' : m_law_mixed [.int z, .int 1] = .ok (.v (.int y1)) := e1
    have e2' : m_law_mixed [.int z, .int 2] = .ok (.v (.int y2)) := e2
    obtain ⟨k, hk, ek⟩ := nat_mod y0 (n := ps.length) (by omega)
    obtain ⟨t, ht, et⟩ := nat_mod y1 (n := 6) (by decide)
    have et' : y1 % 6 = (t : Int) := et
    simp (disch := first | omega | (simp; done) | (simp; omega)) [e0', e1', ek, et']
    have c1 : (if t = 0 then R.ok (decide ((1 : Int) < (ps.length : Int))) else R.ok false) = R.ok (decide (t = 0 ∧ 1 < ps.length)) := by
      by_cases h : t = 0 <;> simp [h] <;> omega
    have c2 : (if (t : Int) = 1 then R.ok (decide ((ps.length : Int) < 39)) else R.ok false) = R.ok (decide (t = 1 ∧ ps.length < 39)) := by
      by_cases h : t = 1
      · simp [h]; omega
      · simp [h, show ¬ (t : Int) = 1 by omega]
    have P := po_map stD (i := 3) hk (by omega)
    have le : (ps.eraseIdx k).length = ps.length - 1 := by simp [List.length_eraseIdx, hk]
    rw [c1]
    by_cases A : t = 0 ∧ 1 < ps.length
    · simp [A, P]
      exact ⟨ps.eraseIdx k, ok.erase, by omega, by omega, rfl⟩
    · rw [decide_eq_false A, vb_ok, c2]
      simp
      by_cases B : t = 1 ∧ ps.length < 39
      · have Q := in_map stD (i := 3) (l := ps) (v := (k : Int)) (by omega) (by omega) (by omega) (.wt false) (.tup [.str (PySem.Str.ofString "wait")]) rfl
        simp [B, Q]
        exact ⟨insA ps k (.wt false), ok.wt.perm (insA_perm _ _ _).symm, by rw [insA_len]; omega, by rw [insA_len]; omega, rfl⟩
      · rw [if_neg B]
        by_cases C : (t : Int) < 5
        · simp only [C, if_true, P, vb_ok]
          have Y2 := Int.emod_nonneg y2 (b := ((ps.length - 1 : Nat) : Int) + 1) (by omega)
          have Y3 := Int.emod_lt_of_pos y2 (b := ((ps.length - 1 : Nat) : Int) + 1) (by omega)
          obtain ⟨v, hv, ev⟩ := near_ok (a := (k : Int) + 1) (b := if (1 : Int) < (k : Int) then (k : Int) - 1 else 0) (c := y2 % (((ps.length - 1 : Nat) : Int) + 1)) (N := 100) (by omega) (by split <;> omega) (by omega) (t : Int) (by omega) (by omega)
          have Q := in_map stD (i := 3) (l := ps.eraseIdx k) (v := v) hv.1 (by omega) (by omega) ps[k] (stD ps[k]) rfl
          simp (disch := first | omega | (simp; done) | (simp; omega)) [e2', le, ev, Q]
          refine ⟨insA (ps.eraseIdx k) v.toNat ps[k], ok.perm ((insA_perm _ _ _).trans (erase_perm ps k hk)).symm, by rw [insA_len]; omega, by rw [insA_len]; omega, rfl⟩
        · simp only [C, if_false]
          simp
          exact ⟨ps, ok, l1, l39, rfl⟩
  · rintro _ ⟨ps, s4, s5, s6, s7, s8, ok, l1, l39, rfl⟩
    simp
    exact ⟨ps, ok, l1, l39, rfl⟩
end N21
set_option Elab.async false
set_option linter.all false
set_option maxRecDepth 100000
set_option autoImplicit false
namespace N21
open PySem PySem.Spec L2 L3
theorem isi_bool (b : Bool) : isiD "bool" (.bl b) = .ok (.bl true) := rfl
theorem told_ok {x d : D} {b : Bool} (h : m_is_plan [x, d] = .ok (.v (.bl b))) : m_law_told [x, d] = .ok (.v (.bl b)) := by
  simp [m_law_told, b_law_told, h, isi_bool]
theorem not_told_ok {x d : D} {b : Bool} (h : m_is_plan [x, d] = .ok (.v (.bl b))) : m_law_not_told [x, d] = .ok (.v (.bl (!b))) := by
  simp [m_law_not_told, b_law_not_told, h, isi_bool]
def Stp.er : Stp → Stp
  | .wt _ => .wt false
  | s => s
theorem eq_step : ∀ {s t : Stp}, s.er = t.er → eqD (stD s) (stD t) = true
  | .wt a, .wt b, _ => by cases a <;> cases b <;> rfl
  | .wt a, .ac _ _, e => nomatch e
  | .ac _ _, .wt b, e => nomatch e
  | .ac w h, .ac w' h', e => by cases e; simp [stD, eqD, eqL]
theorem eq_steps : ∀ {ps qs : List Stp}, ps.map Stp.er = qs.map Stp.er → eqL (ps.map stD) (qs.map stD) = true
  | [], [], _ => by simp [eqL]
  | [], _ :: _, e => by simp at e
  | _ :: _, [], e => by simp at e
  | s :: ps, t :: qs, e => by
    simp only [List.map_cons, List.cons.injEq] at e
    simp [eqL, eq_step e.1, eq_steps e.2]
theorem okN_steps (ps : List Stp) : okN 8 (.lst (ps.map stD)) = true := by
  simp only [okN, List.all_map, List.all_eq_true]
  intro s _
  cases s with
  | wt k => cases k <;> rfl
  | ac w h => rfl
theorem eq_plan {ps qs : List Stp} (e : ps.map Stp.er = qs.map Stp.er) (b : Bool) : eqR b (.lst (ps.map stD)) (.lst (qs.map stD)) = .ok (.bl b) := by
  have q : eqD (.lst (ps.map stD)) (.lst (qs.map stD)) = true := by rw [eqD]; exact eq_steps e
  simp only [eqR, okN_steps, and_self, if_true, q]
  cases b <;> rfl
theorem plain_er (n : Nat) (a b : Bool) : (plain n a).map Stp.er = (plain n b).map Stp.er := by
  simp [plain, Stp.er]
theorem plain_made (cs : List Nat) (ws : List (Dr × Dr)) (h6 : cs.length ≤ 6) : m_plain_plan [net cs ws] = .ok (.o ((plain cs.length true).map stD)) := by
  suffices h : Ends (m_plain_plan [net cs ws]) (· = .o ((plain cs.length true).map stD)) by
    obtain ⟨b, e, rfl⟩ := h
    exact e
  simp (disch := first | omega | (simp; done) | (simp; omega)) [m_plain_plan, b_plain_plan, many_ok]
  refine ends_compR cs.length (fun i => stD (.ac 0 i)) (by simp) (by omega) (fun k hk => by simp [stD, wd]) ?_
  refine ends_compR cs.length (fun i => stD (.ac 1 i)) (by simp) (by omega) (fun k hk => by simp [stD, wd]) ?_
  simp (disch := first | omega | (simp; done) | (simp; omega))
  refine ends_compR cs.length (fun i => stD (.ac 2 i)) (by simp) (by omega) (fun k hk => by simp [stD, wd]) ?_
  simp (disch := first | omega | (simp; done) | (simp; omega))
  simp [plain, stD, Function.comp_def]
theorem plain_right (cs : List Nat) (ws : List (Dr × Dr)) (h1 : 1 ≤ cs.length) (h6 : cs.length ≤ 6) : m_law_plain_right [net cs ws, .int (cs.length : Int)] = .ok (.v (.bl true)) := by
  suffices h : Ends (m_law_plain_right [net cs ws, .int (cs.length : Int)]) (· = .v (.bl true)) by
    obtain ⟨b, e, rfl⟩ := h
    exact e
  simp (disch := first | omega | (simp; done) | (simp; omega)) [m_law_plain_right, b_law_plain_right]
  refine ends_compR cs.length (fun i => stD (.ac 0 i)) (by simp) (by omega) (fun k hk => by simp [stD, wd]) ?_
  refine ends_compR cs.length (fun i => stD (.ac 1 i)) (by simp) (by omega) (fun k hk => by simp [stD, wd]) ?_
  simp (disch := first | omega | (simp; done) | (simp; omega))
  refine ends_compR cs.length (fun i => stD (.ac 2 i)) (by simp) (by omega) (fun k hk => by simp [stD, wd]) ?_
  have pl := plain_len cs.length true
  have e1 : (List.range cs.length).map (fun i => stD (.ac 0 i)) ++ ((List.range cs.length).map (fun i => stD (.ac 1 i)) ++ .tup [.str (PySem.Str.ofString "wait")] :: (List.range cs.length).map (fun i => stD (.ac 2 i))) = (plain cs.length false).map stD := by
    simp [plain, stD, wS, Function.comp_def]
  have y := plan_yes (ws := ws) (plain_ok cs.length true) (by omega)
  obtain ⟨s, r, er⟩ : ∃ s r, plain cs.length true = s :: r := by
    cases h : plain cs.length true with
    | nil => rw [h] at pl; simp at pl
    | cons s r => exact ⟨s, r, rfl⟩
  have P : ∀ ρ, poK 4 ((plain cs.length true).map stD ++ [.tup [.str (PySem.Str.ofString "wait")]]) ρ (.int 0) = .ok (stD s, ρ.set 4 (.ow (r.map stD ++ [.tup [.str (PySem.Str.ofString "wait")]]))) := fun ρ => by
    have := poK_n (i := 4) (ds := (plain cs.length true).map stD ++ [.tup [.str (PySem.Str.ofString "wait")]]) (ρ := ρ) (k := 0) (by simp) (by simp; omega)
    rw [er] at this ⊢
    exact this
  simp (disch := first | omega | (simp; done) | (simp; omega)) [e1, plain_made cs ws h6, isi_list, eq_plan (plain_er cs.length true false), told_ok y, P]
end N21
set_option Elab.async false
set_option linter.all false
set_option maxRecDepth 100000
set_option autoImplicit false
namespace N21
open PySem PySem.Spec L2 L3
def oddL (n : Nat) : List D := [.tup [.str (PySem.Str.ofString "teach"), .int (n : Int)], .tup [.str (PySem.Str.ofString "turn"), .int (-1)], .tup [.str (PySem.Str.ofString "forget"), .bl true], .tup [.str (PySem.Str.ofString "teach"), .str (PySem.Str.ofString "0")], .tup [.str (PySem.Str.ofString "wait"), .int 0], .tup [.str (PySem.Str.ofString "teach")],
  .tup [.str (PySem.Str.ofString "turn"), .int 0, .int 0], .tup [.str (PySem.Str.ofString "Wait")], .tup [.str (PySem.Str.ofString "tell"), .int 0], .lst [.str (PySem.Str.ofString "teach"), .int 0], .str (PySem.Str.ofString "wait"), .tup [], .non, .int 3, .tup [.str (PySem.Str.ofString "forget"), .non], .tup [.lst [.str (PySem.Str.ofString "wait")]]]
theorem odd_made (x : Int) (n : Nat) : ∃ d ∈ oddL n, m_law_odd [.int x, .int (n : Int)] = .ok (.v d) := by
  obtain ⟨k, hk, ek⟩ := nat_mod x (n := 16) (by decide)
  have ek' : x % 16 = (k : Int) := ek
  have hk' : k < (oddL n).length := hk
  refine ⟨(oddL n)[k], List.getElem_mem _, ?_⟩
  have e := ix_l (xs := oddL n) (k := k) (List.getElem?_eq_getElem hk')
  unfold oddL at e
  simp [m_law_odd, b_law_odd, ek', e]
  rfl
theorem odd_no {cs : List Nat} {ws : List (Dr × Dr)} {d : D} (h : d ∈ oddL cs.length) : m_is_step [d, net cs ws] = .ok (.v (.bl false)) := by
  unfold oddL at h
  simp only [List.mem_cons, List.not_mem_nil, or_false] at h
  rcases h with h | h | h | h | h | h | h | h | h | h | h | h | h | h | h | h <;> subst h
  · have e0 : ixD (.tup [.str (PySem.Str.ofString "teach"), .int (cs.length : Int)]) (.int 0) = .ok (.str (PySem.Str.ofString "teach")) := rfl
    have e1 : ixD (.tup [.str (PySem.Str.ofString "teach"), .int (cs.length : Int)]) (.int 1) = .ok (.int (cs.length : Int)) := rfl
    have t1 : isiD "tuple" (.tup [.str (PySem.Str.ofString "teach"), .int (cs.length : Int)]) = .ok (.bl true) := rfl
    have t2 : isiD "str" (.str (PySem.Str.ofString "teach")) = .ok (.bl true) := rfl
    have i1 : inD false (.int 2) (.tup [.int 1, .int 2]) = .ok (.bl false) := rfl
    have i2 : inD true (.str (PySem.Str.ofString "teach")) (.tup [.str (PySem.Str.ofString "teach"), .str (PySem.Str.ofString "turn"), .str (PySem.Str.ofString "forget")]) = .ok (.bl true) := rfl
    simp [m_is_step, b_is_step, e0, e1, t1, t2, i1, i2, many_ok, within_ok]
    omega
  all_goals rfl
theorem tails (ps : List Stp) (k : Nat) : cutL (ps.map stD) none (some (k : Int)) = (ps.take k).map stD ∧ cutL (ps.map stD) (some (k : Int)) none = (ps.drop k).map stD := ⟨by rw [cut_map, cut_to], by rw [cut_map, cut_from]⟩
theorem law_true (ns : List Int) : m_law [.scr (ns.map D.int)] = .ok (.v (.bl true)) := by
  suffices h : Ends (m_law [.scr (ns.map D.int)]) (· = .v (.bl true)) by
    obtain ⟨b, e, rfl⟩ := h
    exact e
  obtain ⟨c0, e0⟩ := cell_ok ns 0
  obtain ⟨c1, e1⟩ := cell_ok ns 1
  have e0' : m_law_cell_at [.scr (ns.map D.int), .int 0] = .ok (.v (.int c0)) := e0
  have e1' : m_law_cell_at [.scr (ns.map D.int), .int 1] = .ok (.v (.int c1)) := e1
  obtain ⟨cs, ws, nok, en⟩ := net_ok c0
  have h1 := nok.h1
  have h6 := nok.h6
  have lcs : (intsD' cs).length = cs.length := by simp [intsD']
  have ei := init_ok cs ws nok
  have fold : D.ins "Net" ["many", "counts", "joined", "far"] [.int (cs.length : Int), .tup (intsD' cs), .tup (ws.map wrD), .dT (ksOf ws) (vsOf ws)] = net cs ws := rfl
  obtain ⟨ps, pok, l1, l39, ep⟩ := plan_made (ns.drop 13) cs.length h1 h6
  have ec : cutL (ns.map D.int) (some 13) none = (ns.drop 13).map D.int := by rw [cut_map, show (13 : Int) = ((13 : Nat) : Int) from rfl, cut_from]
  obtain ⟨y, ey⟩ := mixed_ok c1 60 (by decide)
  have ey' : m_law_mixed [.int c1, .int 60] = .ok (.v (.int y)) := ey
  obtain ⟨k, hk, ek⟩ := nat_mod y (n := ps.length + 1) (by omega)
  have ek' : y % ((ps.length : Int) + 1) = (k : Int) := ek
  obtain ⟨T1, T2⟩ := tails ps k
  obtain ⟨d, hd, ed⟩ := odd_made (y / 50) cs.length
  have okT : ∀ s ∈ ps.take k, s.ok cs.length := fun s hs => pok.ok s (List.mem_of_mem_take hs)
  have okD : ∀ s ∈ ps.drop k, s.ok cs.length := fun s hs => pok.ok s (List.mem_of_mem_drop hs)
  have lTD : (ps.take k).length + (ps.drop k).length = ps.length := by rw [← List.length_append, List.take_append_drop]
  have no := plan_odd (ws := ws) okT okD (by omega) (odd_no (ws := ws) hd)
  have no' := not_told_ok no
  simp only [List.append_assoc, List.singleton_append] at no'
  have yes := told_ok (plan_yes (ws := ws) pok (by omega))
  have pr := plain_right cs ws h1 h6
  have el : ((ps.take k).map stD).length + 1 ≤ 1000000 := by simp; omega
  have el2 : ((ps.take k).map stD).length + 1 + ((ps.drop k).map stD).length ≤ 1000000 := by simp; omega
  simp (disch := first | omega | (simp; done) | (simp; omega)) [m_law, b_law, e0', en, ei, fold, ec, lcs, ep, yes, eq_plan (ps := ps) (qs := ps) rfl, pr, e1', ey', ek', T1, T2, ed, no', -List.map_take, -List.map_drop]
  refine ends_compF' stD ps Stp.act stD (by simp) (by omega) (fun s hs => by have := (ne_wait s).2; unfold wS at this; simp [this]) (fun s _ _ => by simp) ?_
  obtain ⟨j, hj, ej⟩ := nat_mod (y / 7) (n := 7) (by decide)
  have ej' : y / 7 % 7 = (j : Int) := ej
  have C1 : cutL ((ps.filter Stp.act).map stD) (some (j : Int)) none = ((ps.filter Stp.act).drop j).map stD := by rw [cut_map, cut_from]
  have C2 : cutL (((ps.filter Stp.act).drop j).map stD) none (some 1) = (((ps.filter Stp.act).drop j).take 1).map stD := by rw [cut_map, show (1 : Int) = ((1 : Nat) : Int) from rfl, cut_to]
  refine ends_for' stD (((ps.filter Stp.act).drop j).take 1) (fun _ ρ => ∃ s9, ρ = [.fz (.scr (ns.map D.int)), .fz (.lst (intsD' cs)), .fz (.lst (ws.map wrD)), .fz (net cs ws), .fz (.lst (ps.map stD)), .fz (.lst (ps.map stD)), .fz (.int y), .fz (.int (k : Int)), .fz (.lst ((ps.filter Stp.act).map stD)), s9, .un, .un]) (by simp (disch := first | omega | (simp; done) | (simp; omega)) [ej', C1, C2, -List.map_take, -List.map_drop]) ⟨.un, rfl⟩ ?_ ?_
  · rintro _ s _ hs ⟨s9, rfl⟩
    have ms : s ∈ ps.filter Stp.act := List.mem_of_mem_drop (List.mem_of_mem_take (List.mem_of_getElem? hs))
    have pm : List.Perm (ps.take k ++ s :: ps.drop k) (s :: ps) := by
      refine List.perm_middle.trans ?_
      rw [List.take_append_drop]
    have dup := plan_all (cs := cs) (ws := ws) (ps := ps.take k ++ s :: ps.drop k) (fun x hx => by
      rcases List.mem_cons.mp (pm.mem_iff.mp hx) with rfl | hx
      · exact pok.ok _ (List.mem_filter.mp ms).1
      · exact pok.ok _ hx) (by rw [pm.length_eq, List.length_cons]; omega) (c := false) ⟨(fun z => nomatch z), fun z => by
        have := (pm.filter Stp.act).nodup_iff.mp z
        rw [List.filter_cons, if_pos (List.mem_filter.mp ms).2, List.nodup_cons] at this
        exact absurd ms this.1⟩
    have dup' := not_told_ok dup
    rw [List.map_append, List.map_cons] at dup'
    simp (disch := first | omega | (simp; done) | (simp; omega)) [T1, T2, dup', -List.map_take, -List.map_drop]
  · rintro _ ⟨s9, rfl⟩
    have fok : PlanOk cs.length (ps ++ List.replicate (40 - ps.length) (.wt false)) := by
      have : ∀ n : Nat, PlanOk cs.length (List.replicate n (.wt false) ++ ps) := fun n => by
        induction n with
        | zero => exact pok
        | succ n ih => rw [List.replicate_succ]; exact ih.wt
      exact (this _).perm List.perm_append_comm
    have lf : (ps ++ List.replicate (40 - ps.length) (Stp.wt false)).length = 40 := by simp; omega
    have yf := told_ok (plan_yes (ws := ws) fok (by omega))
    have ef : (ps ++ List.replicate (40 - ps.length) (Stp.wt false)).map stD = ps.map stD ++ List.replicate (40 - ps.length) (.tup [.str (PySem.Str.ofString "wait")]) := by simp [stD, wS]
    rw [ef] at yf
    have ng := not_told_ok (plan_long (d := net cs ws) (l := ps.map stD ++ (List.replicate (40 - ps.length) (.tup [.str (PySem.Str.ofString "wait")]) ++ [.tup [.str (PySem.Str.ofString "wait")]])) (by simp; omega))
    have y0 := told_ok (plan_yes (ws := ws) (ps := []) (cs := cs) ⟨(fun s h => nomatch h), List.nodup_nil⟩ (by simp))
    rw [List.map_nil] at y0
    have tn : ((40 : Int) - (ps.length : Int)).toNat = 40 - ps.length := by omega
    obtain ⟨o, ho, eo⟩ : ∃ o, isiD "list" o = .ok (.bl false) ∧ ixD (.lst [.tup (ps.map stD), .non, .str (PySem.Str.ofString "wait"), .dK [.inr (PySem.Str.ofString "wait")] [.int 1], .int 0, .bl true]) (.int (y / 11 % 6)) = .ok o := by
      have h : y / 11 % 6 = 0 ∨ y / 11 % 6 = 1 ∨ y / 11 % 6 = 2 ∨ y / 11 % 6 = 3 ∨ y / 11 % 6 = 4 ∨ y / 11 % 6 = 5 := by omega
      rcases h with h | h | h | h | h | h <;> rw [h] <;> exact ⟨_, rfl, rfl⟩
    simp (disch := first | omega | (simp; done) | (simp; omega)) [tn, yf, ng, y0, eo, not_told_ok (plan_kind (e := net cs ws) ho)]
end N21
set_option Elab.async false
set_option linter.all false
set_option maxRecDepth 100000
set_option autoImplicit false
namespace N21
open PySem PySem.Spec L2 L3
theorem xf_ok {P : Program} {w : World} {K : PySem.W.Frag} {mg : Str → Option Value} {base : Heap} {x : Str} {st : Stmt} {N ps : List Str} {k : Nat} {m : MS} {f : Addr} {fd : FuncData} (fn : Fun K x x st f fd) (S : FnScope N ps (defScope st))
    (h : ∀ (f : Addr) (cdv : Value) (A : Around) (outer : List PySem.Env) (s : Shared) (H : Hp) (E : XK), Room k (A.deeper (PyProof.Rows.envOfC x (defScope st) s.heap.objs.size f cdv)) → ∀ G0 H0, XBM (cxOf CX0 P w K mg base N x (defScope st) f cdv A outer s H E).nox (fxB K G0 H0) (defBody st) m) :
    FnOk P w K mg base CX0 (k + 1) f fd ps (sp0 K ps.length (mDef N.length m)) := fn.ok S spM_len fun cdv A outer s H vs Q E hr hs => by
  obtain ⟨G, ht⟩ := body_of hs
  exact ⟨_, (h f cdv A outer s H E hr G H).1, ht⟩
structure Fh (K : PySem.W.Frag) (x : Str) (st : Stmt) : Prop where
  ex : ∃ (f : Addr) (od an : Option Addr) (sl : Array (Option Value)) (oc kV dc pm cd ct : Value), PySem.W.nsIn K mainGlobals x = some (some (.ref f)) ∧ K.lookup f = some ⟨oc, od, .func (PySem.W.fnOf x x (defArgs st) (defBody st) (defScope st) .none kV dc pm an cd ct), sl⟩ ∧ PySem.W.codeIn K cd x = true ∧ PySem.W.keepIn K (.ref f) = true
theorem fh_mk {K : PySem.W.Frag} {x : Str} {st : Stmt} {f : Addr} {od an : Option Addr} {sl : Array (Option Value)} {oc kV dc pm cd ct : Value} (a : PySem.W.nsIn K mainGlobals x = some (some (.ref f))) (l : K.lookup f = some ⟨oc, od, .func (PySem.W.fnOf x x (defArgs st) (defBody st) (defScope st) .none kV dc pm an cd ct), sl⟩) (c : PySem.W.codeIn K cd x = true) (k : PySem.W.keepIn K (.ref f) = true) : Fh K x st := ⟨f, od, an, sl, oc, kV, dc, pm, cd, ct, a, l, c, k⟩
theorem fd_of {K : PySem.W.Frag} {h : Heap} {mg : Str → Option Value} {x : Str} {st : Stmt} {ps : List Str} (X : K.In h) (G : h.Ns mainGlobals mg) (F : Fh K x st)
    (b : ∀ (kV doc pm : Value) (an : Option Addr) (cdv ct : Value) (us : List Value), us.length = ps.length → bindArgs (PySem.W.fnOf x x (defArgs st) (defBody st) (defScope st) .none kV doc pm an cdv ct) ⟨us, []⟩ = pure (ps.zip us)) : Fd K mg x st ps := by
  obtain ⟨f, od, an, sl, oc, kV, dc, pm, cd, ct, a, l, c, k⟩ := F.ex
  exact fd_mk (st := st) X G a l c k b
structure Mh (K : PySem.W.Frag) (C : Addr) (x qual : Str) (st : Stmt) : Prop where
  ex : ∃ (f : Addr) (od an : Option Addr) (sl : Array (Option Value)) (oc kV dc pm cd ct : Value), PySem.W.findIn K (.ref C) x = some (some (.ref f)) ∧ K.lookup f = some ⟨oc, od, .func (PySem.W.fnOf x qual (defArgs st) (defBody st) (defScope st) .none kV dc pm an cd ct), sl⟩ ∧ PySem.W.codeIn K cd qual = true ∧ PySem.W.keepIn K (.ref f) = true ∧ PySem.W.isFn K (.ref f) = true
theorem mh_mk {K : PySem.W.Frag} {C : Addr} {x qual : Str} {st : Stmt} {f : Addr} {od an : Option Addr} {sl : Array (Option Value)} {oc kV dc pm cd ct : Value} (a : PySem.W.findIn K (.ref C) x = some (some (.ref f))) (l : K.lookup f = some ⟨oc, od, .func (PySem.W.fnOf x qual (defArgs st) (defBody st) (defScope st) .none kV dc pm an cd ct), sl⟩) (c : PySem.W.codeIn K cd qual = true) (k : PySem.W.keepIn K (.ref f) = true) (i : PySem.W.isFn K (.ref f) = true) : Mh K C x qual st := ⟨f, od, an, sl, oc, kV, dc, pm, cd, ct, a, l, c, k, i⟩
theorem mi_of {K : PySem.W.Frag} {h : Heap} {mg : Str → Option Value} {cn qual : Str} {C : Addr} {st : Stmt} {ps : List Str} (X : K.In h) (G : h.Ns mainGlobals mg) (n : PySem.W.nsIn K mainGlobals cn = some (some (.ref C))) (mk : PySem.W.makesIn K C = true) (kc : PySem.W.keepIn K (.ref C) = true) (F : Mh K C "__init__" qual st)
    (b : ∀ (kV doc pm : Value) (an : Option Addr) (cdv ct : Value) (us : List Value), us.length = ps.length → bindArgs (PySem.W.fnOf "__init__" qual (defArgs st) (defBody st) (defScope st) .none kV doc pm an cdv ct) ⟨us, []⟩ = pure (ps.zip us)) : InK K mg cn qual st ps := by
  obtain ⟨f, od, an, sl, oc, kV, dc, pm, cd, ct, a, l, c, k, i⟩ := F.ex
  exact ⟨⟨C, f, _, n, ⟨mk, a, i, kc⟩, fun_mk (st := st) l c k, PySem.W.mg_of X G n, (fun_mk (st := st) l c k).binds b⟩⟩
set_option maxHeartbeats 4000000 in
theorem tx_mk {K : PySem.W.Frag} {h : Heap} {mg : Str → Option Value} {C_Net : Addr} {t_MOST_DOORS_0 : Tok} {t_MOST_HOUSES_0 : Tok} {t_MOST_STEPS_0 : Tok} {A_WAIT : Addr} {dd_WAIT : Option Addr} {n_WAIT : Nat} {sl_WAIT : Array (Option Value)} {t_WAIT_0 : Tok} (X : K.In h) (G : h.Ns mainGlobals mg)
    (n_Net : PySem.W.nsIn K mainGlobals "Net" = some (some (.ref C_Net))) (g1_Net : PySem.W.plainGet K C_Net Str.empty = true) (g2_Net : PySem.W.hasDictIn K C_Net = true) (g3_Net : PySem.W.plainOver K C_Net = true) (g4_Net : PySem.W.findIn K (.ref C_Net) "__setattr__" = some (some (.builtin "object.__setattr__"))) (u_Net_many : PySem.W.findIn K (.ref C_Net) "many" = some none) (u_Net_counts : PySem.W.findIn K (.ref C_Net) "counts" = some none) (u_Net_joined : PySem.W.findIn K (.ref C_Net) "joined" = some none) (u_Net_far : PySem.W.findIn K (.ref C_Net) "far" = some none) (mk_Net : PySem.W.makesIn K C_Net = true) (kc_Net : PySem.W.keepIn K (.ref C_Net) = true)
    (spc0 : PySem.W.specialIn K (.builtin "object.__class__") "__get__" = some (some (.builtin "getset_descriptor.__get__"))) (tkc0 : PySem.W.takesIn K (.builtin "object.__class__") = some true)
    (h0 : Fh K "_law_draws" s_law_draws)
    (h1 : Fh K "_law_net" s_law_net)
    (h2 : Fh K "is_pair" s_is_pair)
    (h3 : Fh K "is_whole" s_is_whole)
    (h4 : Fh K "is_whole_within" s_is_whole_within)
    (h5 : Fh K "is_door_among" s_is_door_among)
    (h6 : Fh K "is_wire_among" s_is_wire_among)
    (h7 : Fh K "far_doors" s_far_doors)
    (h8 : Fh K "are_counts" s_are_counts)
    (h9 : Mh K C_Net "__init__" "Net.__init__" s_Net_init)
    (h10 : Fh K "_law_mixed" s_law_mixed)
    (h11 : Fh K "_law_plan" s_law_plan)
    (h12 : Fh K "is_step" s_is_step)
    (h13 : Fh K "is_plan" s_is_plan)
    (h14 : Fh K "_law_not_told" s_law_not_told)
    (h15 : Fh K "_law_cell_at" s_law_cell_at)
    (h16 : Fh K "_law_told" s_law_told)
    (h17 : Fh K "plain_plan" s_plain_plan)
    (h18 : Fh K "_law_plain_right" s_law_plain_right)
    (h19 : Fh K "_law_odd" s_law_odd)
    (h20 : Fh K "law" s_law)
    (z_all : PySem.W.nsIn K mainGlobals "all" = some none)
    (z_bool : PySem.W.nsIn K mainGlobals "bool" = some none)
    (z_int : PySem.W.nsIn K mainGlobals "int" = some none)
    (z_isinstance : PySem.W.nsIn K mainGlobals "isinstance" = some none)
    (z_len : PySem.W.nsIn K mainGlobals "len" = some none)
    (z_list : PySem.W.nsIn K mainGlobals "list" = some none)
    (z_max : PySem.W.nsIn K mainGlobals "max" = some none)
    (z_range : PySem.W.nsIn K mainGlobals "range" = some none)
    (z_set : PySem.W.nsIn K mainGlobals "set" = some none)
    (z_str : PySem.W.nsIn K mainGlobals "str" = some none)
    (z_tuple : PySem.W.nsIn K mainGlobals "tuple" = some none)
    (z_MOST_DOORS : PySem.W.nsIn K mainGlobals "MOST_DOORS" = some (some (.int 4 t_MOST_DOORS_0)))
    (z_MOST_HOUSES : PySem.W.nsIn K mainGlobals "MOST_HOUSES" = some (some (.int 6 t_MOST_HOUSES_0)))
    (z_MOST_STEPS : PySem.W.nsIn K mainGlobals "MOST_STEPS" = some (some (.int 40 t_MOST_STEPS_0)))
    (z_WAIT : PySem.W.nsIn K mainGlobals "WAIT" = some (some (.ref A_WAIT))) (y_WAIT : K.lookup A_WAIT = some ⟨.type "tuple", dd_WAIT, .seq #[.str (PySem.Str.ofString "wait") t_WAIT_0] n_WAIT, sl_WAIT⟩) : Tx K mg where
  k_Net := ⟨C_Net, n_Net, ⟨g1_Net, g2_Net, g3_Net, g4_Net⟩, (List.forall_mem_cons.2 ⟨u_Net_many, (List.forall_mem_cons.2 ⟨u_Net_counts, (List.forall_mem_cons.2 ⟨u_Net_joined, (List.forall_mem_cons.2 ⟨u_Net_far, (fun _ h => absurd h List.not_mem_nil)⟩)⟩)⟩)⟩)⟩
  f_law_draws := fd_of X G h0 fun _ _ _ _ _ _ us hl => match us, hl with | [_, _], _ => rfl
  f_law_net := fd_of X G h1 fun _ _ _ _ _ _ us hl => match us, hl with | [_], _ => rfl
  f_is_pair := fd_of X G h2 fun _ _ _ _ _ _ us hl => match us, hl with | [_], _ => rfl
  f_is_whole := fd_of X G h3 fun _ _ _ _ _ _ us hl => match us, hl with | [_], _ => rfl
  f_is_whole_within := fd_of X G h4 fun _ _ _ _ _ _ us hl => match us, hl with | [_, _, _], _ => rfl
  f_is_door_among := fd_of X G h5 fun _ _ _ _ _ _ us hl => match us, hl with | [_, _], _ => rfl
  f_is_wire_among := fd_of X G h6 fun _ _ _ _ _ _ us hl => match us, hl with | [_, _], _ => rfl
  f_far_doors := fd_of X G h7 fun _ _ _ _ _ _ us hl => match us, hl with | [_, _], _ => rfl
  f_are_counts := fd_of X G h8 fun _ _ _ _ _ _ us hl => match us, hl with | [_], _ => rfl
  f_Net_init := mi_of X G n_Net mk_Net kc_Net h9 fun _ _ _ _ _ _ us hl => match us, hl with | [_, _, _], _ => rfl
  f_law_mixed := fd_of X G h10 fun _ _ _ _ _ _ us hl => match us, hl with | [_, _], _ => rfl
  f_law_plan := fd_of X G h11 fun _ _ _ _ _ _ us hl => match us, hl with | [_, _], _ => rfl
  f_is_step := fd_of X G h12 fun _ _ _ _ _ _ us hl => match us, hl with | [_, _], _ => rfl
  f_is_plan := fd_of X G h13 fun _ _ _ _ _ _ us hl => match us, hl with | [_, _], _ => rfl
  f_law_not_told := fd_of X G h14 fun _ _ _ _ _ _ us hl => match us, hl with | [_, _], _ => rfl
  f_law_cell_at := fd_of X G h15 fun _ _ _ _ _ _ us hl => match us, hl with | [_, _], _ => rfl
  f_law_told := fd_of X G h16 fun _ _ _ _ _ _ us hl => match us, hl with | [_, _], _ => rfl
  f_plain_plan := fd_of X G h17 fun _ _ _ _ _ _ us hl => match us, hl with | [_], _ => rfl
  f_law_plain_right := fd_of X G h18 fun _ _ _ _ _ _ us hl => match us, hl with | [_, _], _ => rfl
  f_law_odd := fd_of X G h19 fun _ _ _ _ _ _ us hl => match us, hl with | [_, _], _ => rfl
  f_law := fd_of X G h20 fun _ _ _ _ _ _ us hl => match us, hl with | [_], _ => rfl
  b_all := PySem.W.mg_none_of X G z_all
  b_bool := PySem.W.mg_none_of X G z_bool
  b_int := PySem.W.mg_none_of X G z_int
  b_isinstance := PySem.W.mg_none_of X G z_isinstance
  b_len := PySem.W.mg_none_of X G z_len
  b_list := PySem.W.mg_none_of X G z_list
  b_max := PySem.W.mg_none_of X G z_max
  b_range := PySem.W.mg_none_of X G z_range
  b_set := PySem.W.mg_none_of X G z_set
  b_str := PySem.W.mg_none_of X G z_str
  b_tuple := PySem.W.mg_none_of X G z_tuple
  c_MOST_DOORS := ⟨⟨_, _, PySem.W.mg_of X G z_MOST_DOORS, (rv_int _ _), fun _ => (a_int _)⟩⟩
  c_MOST_HOUSES := ⟨⟨_, _, PySem.W.mg_of X G z_MOST_HOUSES, (rv_int _ _), fun _ => (a_int _)⟩⟩
  c_MOST_STEPS := ⟨⟨_, _, PySem.W.mg_of X G z_MOST_STEPS, (rv_int _ _), fun _ => (a_int _)⟩⟩
  c_WAIT := ⟨⟨.ref A_WAIT, _, PySem.W.mg_of X G z_WAIT, rfl, tup_at y_WAIT (Nat.le_of_ble_eq_true rfl) (.cons (rv_str _ _) .nil) fun _ => (.cons (a_str _) .nil)⟩⟩
set_option maxHeartbeats 4000000 in
theorem all_mk {l : PySem.W.OpenLaw} {w : World} {K : PySem.W.Frag} {h : Heap} {mg : Str → Option Value} {fa : Addr} (X : K.In h) (G : h.Ns mainGlobals mg) (hfa : mg "law" = some (.ref fa)) (F : Fh K "law" s_law) (T : Tx K mg) :
    ∃ fd : FuncData, (∀ (s : Shared) (v : Value), BindsTo s fd ⟨[v], []⟩ [("_law_script", v)]) ∧ ∀ base : Heap, K.In base → base.Ns mainGlobals mg → FnOk l.prog w K mg base CX0 8 fa fd ["_law_script"] (sp0 K 1 m_law) := by
  obtain ⟨f, od, an, sl, oc, kV, dc, pm, cd, ct, a, lk, c, k⟩ := F.ex
  have e := hfa.symm.trans (PySem.W.mg_of X G a)
  cases e
  exact ⟨_, fun s v => .of_eq rfl, fun base _ _ => xf_ok (fun_mk (st := s_law) lk c k) sc_law (bm_law T)⟩
theorem lawsp (K : PySem.W.Frag) (H : Hp) (a : Addr) (ns : List Int) (hS : SqL K H a (ns.map V.int)) : sp0 K 1 m_law [.ref a] H (fun v _ => v = .bl true) (fun _ _ _ => False) :=
  law_sp (K := K) (mf := m_law) (H := H) (a := a) (ns := ns) hS (law_true ns) (fun _ _ _ => False)
theorem walkQ {l : PySem.W.OpenLaw} {q : Program} {loose : List Str} {XP : (Str → Option Value) → Heap → Prop} {YP : World → Heap → Prop} {d : DefRec} {K : Params → PySem.W.Frag} (hn : l.most = some 63) (hdf : d.params.defaults = [])
    (hY : ∀ (w : World) (h : Heap), YP w h → (K w.params).In h)
    (F : ∀ (w : World) (mg : Str → Option Value) (fa : Addr) (h : Heap), (K w.params).In h → h.Ns mainGlobals mg → mg d.name = some (.ref fa) →
      ∃ fd : FuncData, (∀ (s : Shared) (u : Value), BindsTo s fd ⟨[u], []⟩ [("_law_script", u)]) ∧ ∀ base : Heap, (K w.params).In base → base.Ns mainGlobals mg → FnOk l.prog w (K w.params) mg base CX0 8 fa fd ["_law_script"] (sp0 (K w.params) 1 m_law)) :
    PySem.W.WalkO q loose XP YP l.row.toRowW d [] (fun f vs => PySem.call f vs) :=
  L2.walk_of (n := 63) (k := 8) (x := "_law_script") (CX := fun _ => CX0) (sp := fun w => sp0 (K w.params) 1 m_law) hn (by decide) hdf ⟨rfl, by decide, by decide⟩ hY F (fun w H a ns _ _ hS => lawsp (K w.params) H a ns hS) fun _ _ _ _ _ z => z
end N21
set_option Elab.async false
set_option linter.all false
set_option maxRecDepth 100000
open PySem PySem.W PyProof.Rows
set_option maxRecDepth 100000 in
set_option maxHeartbeats 0 in
theorem PySem.Challenge.cw_nohalfway_k21_plans_or_not_holds : PySem.Challenge.rw_nohalfway_k21_plans_or_not.Holds := by
  w_on; o_law; k_head; (case hw => w_witness2)
  k_fill
  refine N21.walkQ (l := PySem.Challenge.rw_nohalfway_k21_plans_or_not) rfl rfl (fun w h Y => PySem.W.kIn_of Y) ?F
  case F =>
    intro w mg fa h KX G hmg
    refine' N21.all_mk KX G hmg ?h20 (N21.tx_mk KX G ?n_Net ?g1_Net ?g2_Net ?g3_Net ?g4_Net ?u_Net_many ?u_Net_counts ?u_Net_joined ?u_Net_far ?mk_Net ?kc_Net ?spc0 ?tkc0 ?h0 ?h1 ?h2 ?h3 ?h4 ?h5 ?h6 ?h7 ?h8 ?h9 ?h10 ?h11 ?h12 ?h13 ?h14 ?h15 ?h16 ?h17 ?h18 ?h19 ?h20 ?z_all ?z_bool ?z_int ?z_isinstance ?z_len ?z_list ?z_max ?z_range ?z_set ?z_str ?z_tuple ?z_MOST_DOORS ?z_MOST_HOUSES ?z_MOST_STEPS ?z_WAIT ?y_WAIT)
    (case n_Net => k_is)
    (case g1_Net => k_is)
    (case g2_Net => k_is)
    (case g3_Net => k_is)
    (case g4_Net => k_is)
    (case u_Net_many => k_is)
    (case u_Net_counts => k_is)
    (case u_Net_joined => k_is)
    (case u_Net_far => k_is)
    (case mk_Net => k_is)
    (case kc_Net => k_is)
    (case spc0 => k_is)
    (case tkc0 => k_is)
    (case z_all => k_is)
    (case z_bool => k_is)
    (case z_int => k_is)
    (case z_isinstance => k_is)
    (case z_len => k_is)
    (case z_list => k_is)
    (case z_max => k_is)
    (case z_range => k_is)
    (case z_set => k_is)
    (case z_str => k_is)
    (case z_tuple => k_is)
    (case z_MOST_DOORS => k_is)
    (case z_MOST_HOUSES => k_is)
    (case z_MOST_STEPS => k_is)
    (case z_WAIT => k_is)
    (case y_WAIT => k_is)
    (case h0 => (refine' N21.fh_mk ?a ?l ?c ?k; (case a => k_is); (case l => k_is); (case c => k_is); (case k => k_is)))
    (case h1 => (refine' N21.fh_mk ?a ?l ?c ?k; (case a => k_is); (case l => k_is); (case c => k_is); (case k => k_is)))
    (case h2 => (refine' N21.fh_mk ?a ?l ?c ?k; (case a => k_is); (case l => k_is); (case c => k_is); (case k => k_is)))
    (case h3 => (refine' N21.fh_mk ?a ?l ?c ?k; (case a => k_is); (case l => k_is); (case c => k_is); (case k => k_is)))
    (case h4 => (refine' N21.fh_mk ?a ?l ?c ?k; (case a => k_is); (case l => k_is); (case c => k_is); (case k => k_is)))
    (case h5 => (refine' N21.fh_mk ?a ?l ?c ?k; (case a => k_is); (case l => k_is); (case c => k_is); (case k => k_is)))
    (case h6 => (refine' N21.fh_mk ?a ?l ?c ?k; (case a => k_is); (case l => k_is); (case c => k_is); (case k => k_is)))
    (case h7 => (refine' N21.fh_mk ?a ?l ?c ?k; (case a => k_is); (case l => k_is); (case c => k_is); (case k => k_is)))
    (case h8 => (refine' N21.fh_mk ?a ?l ?c ?k; (case a => k_is); (case l => k_is); (case c => k_is); (case k => k_is)))
    (case h9 => (refine' N21.mh_mk ?a ?l ?c ?k ?i; (case a => k_is); (case l => k_is); (case c => k_is); (case k => k_is); (case i => k_is)))
    (case h10 => (refine' N21.fh_mk ?a ?l ?c ?k; (case a => k_is); (case l => k_is); (case c => k_is); (case k => k_is)))
    (case h11 => (refine' N21.fh_mk ?a ?l ?c ?k; (case a => k_is); (case l => k_is); (case c => k_is); (case k => k_is)))
    (case h12 => (refine' N21.fh_mk ?a ?l ?c ?k; (case a => k_is); (case l => k_is); (case c => k_is); (case k => k_is)))
    (case h13 => (refine' N21.fh_mk ?a ?l ?c ?k; (case a => k_is); (case l => k_is); (case c => k_is); (case k => k_is)))
    (case h14 => (refine' N21.fh_mk ?a ?l ?c ?k; (case a => k_is); (case l => k_is); (case c => k_is); (case k => k_is)))
    (case h15 => (refine' N21.fh_mk ?a ?l ?c ?k; (case a => k_is); (case l => k_is); (case c => k_is); (case k => k_is)))
    (case h16 => (refine' N21.fh_mk ?a ?l ?c ?k; (case a => k_is); (case l => k_is); (case c => k_is); (case k => k_is)))
    (case h17 => (refine' N21.fh_mk ?a ?l ?c ?k; (case a => k_is); (case l => k_is); (case c => k_is); (case k => k_is)))
    (case h18 => (refine' N21.fh_mk ?a ?l ?c ?k; (case a => k_is); (case l => k_is); (case c => k_is); (case k => k_is)))
    (case h19 => (refine' N21.fh_mk ?a ?l ?c ?k; (case a => k_is); (case l => k_is); (case c => k_is); (case k => k_is)))
    (case h20 => (refine' N21.fh_mk ?a ?l ?c ?k; (case a => k_is); (case l => k_is); (case c => k_is); (case k => k_is)))

